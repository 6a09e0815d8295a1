import PyProof.Rows.All
import Wide.All
import OpenK.AllK
import Wide.FinOn
import Lean
import PyProof.EqAt
import PyProof.EqKinds
import PyProof.TupleCall
import PyProof.P3Statements
import PyProof.P3Eq
import PyProof.NeData
import PyProof.IsiPairs
import PyProof.IsiHeapPairs
import KE.LcSums
import PyProof.IsiNone
import PyProof.DictRoadsH
import PyProof.Rows.SetFrom
import PyProof.DictWalks
import PyProof.Rows.MinMaxN
import PyProof.Rows.SumAny
import PyProof.WalkInts
import PySem.Challenge.RW_halfseen_k22_all_seen
set_option Elab.async false
set_option linter.all false
set_option maxRecDepth 100000
open PySem renaming wpAny_bind->ZwB,wpAny_pure->ZwF,starEach->ZwP,mainGlobals->Zxj,bootBuiltins->Zxw,wpAny_newObj_type->ZxB,wpAny_holding->ZxM,wpAny_mono->ZxQ,sizeLine_eq->ZxU,codeAny_builtin->ZxV,sysModules->ZxX,wpAny_call_entry->ZxZ,compareOp->Zx6,wpAny_truthy_bool->Zx7,mem_of_lookup->Zya,behindInMarks->Zyn,wpAny_typeNameOfWhole_keyiter->Zyw,codeAny_mono->ZyA,wpAny_Call_Name_kw->ZyB,wpAny_passesOwn->ZyC,wpAny_ite_split->ZyE,plainId_quiet->ZyJ,foldedSetIterable->ZyK,wpAny_typeNameOf_keyiter->ZyT,attributeBase->Zy0,swapsWith->Zy1,tupleKind_room_in1->Zy3,wpAny_askSetting->Zzi,sliceBounds->Zzk,wpAny_setField->Zzw,wpAny_tryCatch->Zzx,wpAny_dictEntries->ZzA,wpAny_setState_of->ZzD,binaryOp->ZzN,tupleKind->ZzQ,wpAny_execs_nil->ZzU,letOwnedTupleGo->ZzV,wpAny_newFunctionEnv->ZzZ,wpAny_setEntries_of->Zz4,wpAny_fieldsOf->Zz9,firstArgMember->ZAa,keywordEach->ZAc,codeAmong->ZAe,wpAny_attempt->ZAl,wpAny_pyIter_list->ZAq,wpAny_pyIter_slot->ZAr,builtinsNs->ZAu,call_meets->ZAv,intKind_is->ZAy,wpAny_isInstance->ZAG,pickOrder->ZAM,wpAny_dictEpoch->ZAN,wpAny_updateSeq->ZAP,subscripted->ZAS,wpAny_of_eq->ZAT,wpAny_letGo->ZAU
open PySem.W renaming Frag->ZwC,fnOf->ZxS,keepIn->Zx1,codeHdIn->Zyh,codeIn->Zyx,nsIn->ZyU,tabObj->Zzd,envX->Zzq,mg_of->ZzM,kla_obj->Zz0,methodObj->ZAp,OpenLaw->ZAQ,cellsFrom_some->ZAR,codeHd_of_K->ZBd,callWith_K->ZBg,FnAt->ZBj
open List renaming length_map->ZwD,range->ZwG,mem_cons_self->ZwI,mem_cons_of_mem->ZwJ,all_eq_true->ZwK,map_cons->ZwL,mem_map->ZwN,getElem?_eq_some_iff->ZwQ,getElem?_eq_getElem->ZwR,length_cons->ZwS,mem_singleton->ZwT,size_toArray->ZwV,mem_range->ZwW,length_append->ZwY,mem_cons->Zw0,map_map->Zw2,getElem?_map->Zw3,mem_append_right->Zw7,getElem?_set_ne->Zw8,mem_of_getElem?->Zw9,replicate->Zxa,any_eq_true->Zxb,mem_append->Zxc,map_append->Zxd,append_nil->Zxe,find?_cons->Zxf,getElem?_cons_succ->Zxh,getElem?_append_right->Zxk,length->Zxl,length_replicate->Zxm,pairwise_cons->Zxn,getElem?_append_left->Zxo,getElem?_set_self->Zxp,mem_filter->Zxq,nodup_cons->Zxs,mem_append_left->ZxE,map_congr_left->ZxI,length_filter_le->ZxL,all_cons->ZxN,length_set->ZxO,filterMap_cons->ZxP,length_range->ZxR,length_singleton->ZxT,mem_filterMap->ZxW,getElem_mem->ZxY,filter_cons->Zx0,getD->Zx9,length_take->Zye,append_assoc->Zyi,replicate_succ->Zyj,lookup_cons->Zyo,nodup_nil->Zyq,filter_eq_nil_iff->Zyz,foldl_cons->ZyD,any_cons->ZyH,flatten_cons->ZyL,map_nil->ZyP,mem_flatMap->ZyR,getElem?_replicate->ZyW,getElem?_cons_zero->ZyX,nil_append->Zy2,eq_nil_of_length_eq_zero->Zy6,nodup_append->Zy8,set_getElem_self->Zzb,length_drop->Zzf,mergeSort_perm->Zzl,mem_of_find?_eq_some->Zzn,pairwise_mergeSort->Zzz,find?_append->ZzB,max?_eq_some_iff->ZzS,min?_eq_some_iff->ZzT,set_set->ZzW,all_nil->Zz2,getElem_of_mem->Zz3,filter_eq_self->Zz5,length_pos_iff->Zz6,map->Zz7,ne_nil_of_mem->ZAi,exists_cons_of_ne_nil->ZAo,find?_isSome->ZAt,drop_eq_getElem_cons->ZAw,pairwise_iff_getElem->ZAx,exists_mem_of_ne_nil->ZAA,getElem?_take_of_lt->ZAC,set_eq_of_length_le->ZAD,cons_append->ZAI,length_filterMap_le->ZAJ,of_mem_zip->ZAK,length_nil->ZAL,pairwise_lt_range->ZAV,range'->ZAW,getElem?_eq_none->ZAX,dropLast_eq_take->ZA2,find?_map->ZA3,min?_eq_none_iff->ZA4,max?_eq_none_iff->ZA5,any_map->ZBh
open Option renaming map_eq_some_iff->ZwE,isSome_iff_exists->Zxt,isSome_map->Zx8,map->Zyv,isSome->Zzj,bind_eq_some_iff->Zzy
open PySem.Heap renaming get?_push_of_some->ZwH,lt_size->ZwU,get?_push_size->ZwX,get?_update_self->ZxK,get?_update_other->Zx2,SameBut->Zyt,size_push->Zzc,get?_push_ne->ZzF,size_update->ZzP
open Nat renaming le_refl->ZwM,ne_of_lt->Zw1,lt_of_lt_of_le->Zw6,le_trans->Zxr,zero_le->Zx3,lt_irrefl->Zym,le_of_lt->Zys,lt_trans->Zyu,lt_succ_self->ZyQ,lt_succ_of_lt->Zy9,le_of_not_lt->Zzg,ne_of_gt->Zzo,blt_eq->Zzu,le_of_eq->ZzY
open PySem.SetTable renaming below->ZwO,insertAt->Zw4,insertAt_perm->Zyl,tooFull->Zzh,toList_insertAt->Zzp,fits->ZzJ,fill->ZzK,turns->ZAY,bits->ZA8
open Bool renaming and_eq_true->ZwZ,false_ne_true->Zxi,or_eq_true->Zyb,eq_iff_iff->Zyd,false_eq_true->Zyr,false_or->ZAk,true_and->ZBa
open Array renaming length_toList->Zw5,getElem?_toList->Zxu,getD->Zyy,toList_push->ZyM,getElem?_eq_getElem->ZyN,getElem?_eq_none->ZzH,perm_iff_toList_perm->ZAm
open Or renaming inr->Zxg,inl->ZxA
open PySem.PyData renaming int->Zxv,tuple->Zxz,bool->Zx5,eqv->Zy4,canLayAll0->Zy7,depthAll->Zz1,eqvAll->ZAn
open Option.some renaming inj->Zxx
open PySem.Value renaming ref->Zxy,none->ZxD,int->Zyp,type->Zzr
open Ne renaming symm->ZxC
open False renaming elim->ZxF
open PySem.Around renaming under_plainId->ZxG,frames_deeper->ZA6
open PySem.Heap.SameBut renaming update->ZxH,refl->ZBk
open Sum renaming inl->ZxJ,inr->ZAB
open PySem.F renaming plain_min_loop->Zx4,called_set->Zyf,plainAttrs_list->ZyY,plain_list_iadd->ZyZ,entry_min_loop->ZzI,slot_dict_setdefault->Zz8,plain_proto_collect->ZAg,slot_list_append->ZAE,type_list_append->ZAF,plain_set_new->ZAZ,slot_set_iter->ZA0
open List.Nodup renaming length_le_of_subset->Zyc
open PySem.Obj renaming data_mapFields->Zyg,mapSeq->Zzs,putSet->Zzv,isFreed_of_fields->ZzR,cls_mapFields->ZAs,mapFields->ZA9
open Int renaming toNat_of_nonneg->Zyk,toNat_natCast->Zza
open PyProof.Rows.KeyOrd renaming kle_of_not_klt->ZyF,kle_refl->Zy5,kle_of_klt->ZzE,kle_trans->ZzO,kle_antisymm->ZBb
open PySem.Paired renaming length->ZyG
open PySem.NameKind renaming free->ZyI
open PySem.Builtin.List renaming listTooLong->ZyO,listLengthHint->ZAf,listExtendWith->ZAh
open PySem.Str renaming ofString->ZyS
open PySem.Builtin.Range renaming rangeSize->ZyV,small->ZBc
open PyProof.Rows renaming callWith_type1->Zze,entry_list_sort->ZAO
open Classical renaming byContradiction->Zzm
open True renaming intro->Zzt
open PySem.SetTable.below renaming go->ZzC
open PySem.Calls renaming callWith_builtin->ZzG,spliced_cons->ZAd,Name_function_global->ZAj,call_function_entry->ZAz,evalArgs_plain->ZA7
open Function renaming comp->ZzL
open ForInStep renaming yield->ZzX
open PySem.Builtin.Dict_items renaming ownsTuple->ZAb
open PySem.Builtin.Tuple renaming tupleExact->ZAH
open PySem.Builtin.Dict renaming showsAll->ZA1
open PySem.SeqAt.EqAt renaming int_str->ZBe,str_int->ZBf
open PySem.Expr renaming Call->ZBi
namespace L2
open PySem PySem.Spec PyProof.Rows
abbrev Key:=Sum Int Str
def ZgJ:Key->Value->Bool
 | .inl k,v=>Value.isInt k v
 | .inr x,v=>Value.isStrOf x v
def Zwi(w:World):Key->Int
 | .inl k=>hashInt k
 | .inr x=>hashStr w x
theorem ZaM:∀{k:Key} {v:Value},ZgJ k v=true->(∃i t,k=ZxJ i/\v=Zyp i t)\/(∃x t,k=ZAB x/\v=Value.str x t)
 | .inl i,v,h=>by obtain⟨t,e⟩:=Value.isInt_shape (k:=i) (v:=v) h;exact .inl ⟨i,t,rfl,e⟩
 | .inr x,v,h=>by obtain⟨t,e⟩:=Value.isStrOf_shape (x:=x) (v:=v) h;exact .inr ⟨x,t,rfl,e⟩
theorem Zp8(i:Int)(t:Tok):ZgJ (.inl i) (.int i t)=true:=by simp[ZgJ,Value.isInt]
theorem ZqM(x:Str)(t:Tok):ZgJ (.inr x) (.str x t)=true:=by simp[ZgJ,Value.isStrOf]
theorem ZtP(a b:Int):decide ((ZxJ a:Key)=ZxJ b)=(a==b):=by
 by_cases e:a=b
 ·subst e; simp
 ·have h:¬(ZxJ a:Key)=ZxJ b:=λq=>e (Sum.inl.inj q)
  rw[decide_eq_false h];exact(beq_eq_false_iff_ne.mpr e).symm
theorem Zux(a b:Str):decide ((ZAB a:Key)=ZAB b)=decide (a=b):=by
 by_cases e:a=b
 ·subst e; simp
 ·have h:¬(ZAB a:Key)=ZAB b:=λq=>e (Sum.inr.inj q)
  rw[decide_eq_false h,decide_eq_false e]
theorem ZuH(a:Int)(b:Str):decide ((ZxJ a:Key)=ZAB b)=false:=decide_eq_false (λq=>nomatch q)
theorem ZuU(a:Str)(b:Int):decide ((ZAB a:Key)=ZxJ b)=false:=decide_eq_false (λq=>nomatch q)
def Zaf(prog:Program)(w:World):PySem.KeyKind prog w Key where
 is:=ZgJ
 hash:=Zwi w
 inj:=λv a b ha hb=>by
  rcases ZaM ha with⟨i,t,rfl,rfl⟩ | ⟨x,t,rfl,rfl⟩
  ·rcases ZaM hb with⟨j,u,rfl,e⟩ | ⟨y,u,rfl,e⟩
   ·injection e with e1 _; rw[e1]
   ·exact nomatch e
  ·rcases ZaM hb with⟨j,u,rfl,e⟩ | ⟨y,u,rfl,e⟩
   ·exact nomatch e
   ·injection e with e1 _; rw[e1]
 byValue:=λk v h=>by rcases ZaM h with⟨i,t,rfl,rfl⟩ | ⟨x,t,rfl,rfl⟩<;>rfl
 pyHash:=λhv h=>by
  rcases ZaM hv with⟨i,t,rfl,rfl⟩ | ⟨x,t,rfl,rfl⟩
  ·exact wpAny_pyHash_int h
  ·exact wpAny_pyHash_str h
 eqBool:=λhu hv h=>by
  rcases ZaM hu with⟨i,t,rfl,rfl⟩ | ⟨x,t,rfl,rfl⟩
  ·rcases ZaM hv with⟨j,u,rfl,rfl⟩ | ⟨y,u,rfl,rfl⟩
   ·rw[ZtP]at h; exact wpAny_eqBool_int h
   ·rw[ZuH]at h; exact ZBe i t y u _ _ _ _ h
  ·rcases ZaM hv with⟨j,u,rfl,rfl⟩ | ⟨y,u,rfl,rfl⟩
   ·rw[ZuU]at h; exact ZBf x t j u _ _ _ _ h
   ·rw[Zux]at h; exact wpAny_eqBool_str h
 «strs»:=λk x t v h=>by
  rcases ZaM h with⟨i,u,rfl,e⟩ | ⟨y,u,rfl,e⟩
  ·exact nomatch e
  ·injection e with e1 _
   subst e1;cases v<;>rfl
theorem Zpn(prog:Program)(w:World)(k:Key)(v:Value):(Zaf prog w).is k v=ZgJ k v:=rfl
theorem Zn2(prog:Program)(w:World)(i:Int)(t:Tok):(Zaf prog w).is (.inl i) (.int i t)=true:=Zp8 i t
theorem Zn1(prog:Program)(w:World)(x:Str)(t:Tok):(Zaf prog w).is (.inr x) (.str x t)=true:=ZqM x t
end L2
namespace L2
open PySem PySem.Spec PyProof.Rows
inductive V where
 | non | bl (b:Bool) | int (i:Int) | str (x:Str) | byt (b:Array UInt8) | flt (b:UInt64) | ref (a:Addr) | ty (n:String)
 deriving DecidableEq
def RelV:V->Value->Prop
 | .non,u=>u=ZxD
 | .bl b,u=>u=Value.bool b
 | .int i,u=>∃t,u=Zyp i t
 | .str x,u=>∃t,u=Value.str x t
 | .byt b,u=>∃t,u=Value.bytes b t
 | .flt b,u=>∃t,u=Value.float b t
 | .ref a,u=>u=Zxy a
 | .ty n,u=>u=Zzr n
abbrev Vals:List V->List Value->Prop:=Paired RelV
theorem Vals.length{xs:List V}{us:List Value}(r:Vals xs us):xs.length=us.length:=ZyG r
theorem Vals.get:∀{xs:List V} {us:List Value} {i:Nat} {x:V},Vals xs us->xs[i]?=some x->∃u,us[i]?=some u/\RelV x u
 | _,_,_,_,.nil,e=>by simp at e
 | _,_,0,_,.cons r _,e=>by simp at e; subst e; exact⟨_,rfl,r⟩
 | _,_,i+1,x,.cons _ t,e=>by obtain⟨u,h1,h2⟩:=Vals.get (i:=i) (x:=x) t (by simpa using e);exact⟨u,by simpa using h1,h2⟩
theorem Vals.set{x:V}{u:Value}(r:RelV x u):∀{xs:List V} {us:List Value} (i:Nat),Vals xs us->Vals (xs.set i x) (us.set i u)
 | _,_,_,.nil=>.nil
 | _,_,0,.cons _ t=>.cons r t
 | _,_,i+1,.cons q t=>.cons q (Vals.set r i t)
theorem Vals.append:∀{xs ys:List V} {us ws:List Value},Vals xs us->Vals ys ws->Vals (xs++ys) (us++ws)
 | _,_,_,_,.nil,s=>s
 | _,_,_,_,.cons r t,s=>.cons r (Vals.append t s)
theorem Vals.take:∀{xs:List V} {us:List Value} (n:Nat),Vals xs us->Vals (xs.take n) (us.take n)
 | _,_,0,_=>.nil
 | _,_,_+1,.nil=>.nil
 | _,_,n+1,.cons r t=>.cons r (Vals.take n t)
theorem Vals.drop:∀{xs:List V} {us:List Value} (n:Nat),Vals xs us->Vals (xs.drop n) (us.drop n)
 | _,_,0,r=>r
 | _,_,_+1,.nil=>.nil
 | _,_,n+1,.cons _ t=>Vals.drop n t
def Zf3:Option V->Option Value->Prop
 | some v,some u=>RelV v u
 | none,none=>True
 | _,_=>False
def KV{κ:Type}:List (κ × V)->List (κ × Value)->Prop:=Paired λ(p:κ × V) (q:κ × Value)=>p.1=q.1/\RelV p.2 q.2
def kV:Key->V
 | .inl i=>.int i
 | .inr x=>.str x
inductive HO where
 | lst (xs:List V)
 | tup (xs:List V)
 | dK (kvs:List (Key × V)) | dT (kvs:List (List Key × V))
 | set (S:Int->Bool) (n:Nat)
 | ins (C dx:Addr) (fs:List (Str × V))
 | own (x:Addr)
 | xd (fs:List (Str × V))
 | met (f x:Addr)
 | rng (lo hi:Int)
 | frz (o:Obj) (u:HO)
 | tbl (ps:Array Value)
 | ext (φ:Heap->Prop)
abbrev Hp:=Addr->Option HO
def upd(H:Hp)(a:Addr)(o:HO):Hp:=λb=>if b=a then some o else H b
theorem Zz{H:Hp}{a:Addr}{o:HO}:upd H a o a=some o:=by unfold upd; rw[if_pos rfl]
theorem Zx{H:Hp}{a b:Addr}{o:HO}(h:b≠a):upd H a o b=H b:=by unfold upd; rw[if_neg h]
theorem Zso{H:Hp}{a b:Addr}{o u:HO}(h:H a=some o)(h':H b=some u)(d:o≠u):a≠b:=by intro e; subst e; rw[h]at h'; exact d (Zxx h')
theorem Z6{H:Hp}{a b:Addr}{o:HO}(h:H a=some o)(h':H b=none):a≠b:=by intro e; subst e; rw[h]at h'; cases h'
section
variable(P:Program)(w:World)
def ZV(H:Hp)(h:Heap)(a:Addr):HO->Prop
 | .lst xs=>xs.length<=sizeLine/\∃(its:List Value) (n:Nat),Vals xs its/\h.get? a=some { cls:=.type "list",data:=.seq its.toArray n }
 | .tup xs=>xs.length<=sizeLine/\∃its:List Value,Vals xs its/\IsTup h a its.toArray
 | .dK kvs=>kvs.length<=sizeLine/\(a==ZxX)=false/\∃vs,KV kvs vs/\h.DictOf (Zaf P w) a vs
 | .dT kvs=>kvs.length<=sizeLine/\(a==ZxX)=false/\∃xs:List (List Key × Addr × Value),
   Paired (λ(p:List Key × V) (q:List Key × Addr × Value)=>p.1=q.1/\H q.2.1=some (.tup (p.1.map kV))/\RelV p.2 q.2.2) kvs xs /\
   ∃o es ep,h.get? a=some o/\o.ExactDict/\o.data=.dict es ep/\es.toList=xs.map (entryOfKey (ZzQ (Zaf P w)))/\(xs.map (·.1)).Nodup
 | .set S n=>h.SetOf (intKind P w) a S n
 | .ins C dx fs=>H dx=some (.own a)/\fs.length<=1000/\dx≠a/\h.get? a=some (PySem.W.instObj C dx) /\
   ∃mA,h.Ns1 dx mA/\(∀f,Zf3 (fs.lookup f) (mA f))/\PySem.Within mA (fs.map (·.1))
 | .own _=>∃o,h.get? a=some o
 | .xd fs=>∃mA,h.Ns1 a mA/\∀f,Zf3 (fs.lookup f) (mA f)
 | .rng lo hi=>∃t u v,h.get? a=some { cls:=.type "range",data:=.fields #[.int lo t,.int hi u,.int 1 v] }
 | .frz o u=>h.get? a=some o/\ZV H h a u
 | .tbl ps=>h.get? a=some { cls:=.none,data:=.fields ps }
 | .met f x=>h.get? a=some (ZAp (.ref f) (.ref x))
 | .ext φ=>φ h/\(∃o,h.get? a=some o)/\∀h1 h2:Heap,φ h1->(∀o,h1.get? a=some o->h2.get? a=some o)->φ h2
def HOk(H:Hp)(h:Heap):Prop:=∀a o,H a=some o->ZV P w H h a o
end
section
variable{P:Program}{w:World}{H H':Hp}{h h':Heap}{a:Addr}{o:HO}
theorem ZV.lt(x:ZV P w H h a o):a<h.objs.size:=by
 cases o with
 | lst xs=>obtain⟨_,_,_,_,e⟩:=x; exact ZwU e
 | tup xs=>obtain⟨_,_,_,p⟩:=x; exact p.lt
 | dK kvs=>obtain⟨_,_,_,_,o,_,_,e,_⟩:=x; exact ZwU e
 | dT kvs=>obtain⟨_,_,_,_,o,_,_,e,_⟩:=x; exact ZwU e
 | set S n=>obtain⟨o,_,_,_,e,_⟩:=x; exact ZwU e
 | ins C dx fs=>obtain⟨_,_,_,e,_⟩:=x; exact ZwU e
 | own y=>obtain⟨_,e⟩:=x; exact ZwU e
 | xd fs=>obtain⟨_,⟨_,_,_,e,_⟩,_⟩:=x; exact ZwU e
 | rng lo hi=>obtain⟨_,_,_,e⟩:=x; exact ZwU e
 | frz ob u=>obtain⟨e,_⟩:=x; exact ZwU e
 | tbl ps=>exact ZwU (show h.get? a=some _ from x)
 | met f y=>exact ZwU (show h.get? a=some _ from x)
 | ext φ=>obtain⟨_,⟨_,e⟩,_⟩:=x; exact ZwU e
theorem Paired.mapP{α β:Type}{F G:α->β->Prop}:∀{l₁:List α} {l₂:List β},Paired F l₁ l₂->(∀a b,F a b->G a b)->Paired G l₁ l₂
 | _,_,.nil,_=>.nil
 | _,_,.cons r t,f=>.cons (f _ _ r) (Paired.mapP t f)
theorem ZV.stay(x:ZV P w H h a o)(k:∀b u,(b=a\/H b=some (.own a))->h.get? b=some u->h'.get? b=some u)
  (ho:∀b,H b=some (.own a)->H' b=some (.own a)) (ht:∀b xs,H b=some (.tup xs)->H' b=some (.tup xs)):ZV P w H' h' a o:=by
 induction o with
 | lst xs=>obtain⟨z,its,n,r,e⟩:=x; exact⟨z,its,n,r,k _ _ (.inl rfl) e⟩
 | tup xs=>obtain⟨z,its,r,ob,e,c⟩:=x; exact⟨z,its,r,ob,k _ _ (.inl rfl) e,c⟩
 | dK kvs=>obtain⟨z,y,vs,r,ob,es,ep,e,c⟩:=x; exact⟨z,y,vs,r,ob,es,ep,k _ _ (.inl rfl) e,c⟩
 | dT kvs=>obtain⟨z,y,xs,r,ob,es,ep,e,c⟩:=x;exact⟨z,y,xs,Paired.mapP r λp q z=>⟨z.1,ht _ _ z.2.1,z.2.2⟩,ob,es,ep,k _ _ (.inl rfl) e,c⟩
 | set S n=>obtain⟨ob,es,ep,t,e,c⟩:=x; exact⟨ob,es,ep,t,k _ _ (.inl rfl) e,c⟩
 | ins C dx fs=>obtain⟨d,z,ne,e,mA,⟨od,es,ep,e2,c⟩,r⟩:=x;exact⟨ho _ d,z,ne,k _ _ (.inl rfl) e,mA,⟨od,es,ep,k _ _ (.inr d) e2,c⟩,r⟩
 | own y=>obtain⟨ob,e⟩:=x; exact⟨ob,k _ _ (.inl rfl) e⟩
 | xd fs=>obtain⟨mA,⟨od,es,ep,e,c⟩,r⟩:=x; exact⟨mA,⟨od,es,ep,k _ _ (.inl rfl) e,c⟩,r⟩
 | rng lo hi=>obtain⟨t,u,v,e⟩:=x; exact⟨t,u,v,k _ _ (.inl rfl) e⟩
 | frz ob u ih=>obtain⟨e,q⟩:=x; exact⟨k _ _ (.inl rfl) e,ih q⟩
 | tbl ps=>have e:h.get? a=some { cls:=.none,data:=.fields ps }:=x;show h'.get? a=some { cls:=.none,data:=.fields ps };exact k a _ (.inl rfl) e
 | met f y=>have e:h.get? a=some (ZAp (.ref f) (.ref y)):=x;show h'.get? a=some (ZAp (.ref f) (.ref y));exact k a _ (.inl rfl) e
 | ext φ=>obtain⟨p,⟨o,e⟩,st⟩:=x; exact⟨st _ _ p λo q=>k _ _ (.inl rfl) q,⟨o,k _ _ (.inl rfl) e⟩,st⟩
theorem HOk.lt(x:HOk P w H h)(e:H a=some o):a<h.objs.size:=(x a o e).lt
theorem HOk.fresh(x:HOk P w H h)(e:h.objs.size<=a):H a=none:=by
 cases q:H a with
 | none=>rfl
 | some u=>exact absurd (Zw6 (x.lt q) e) (Zym _)
theorem HOk.kept(x:HOk P w H h)(k:∀b u,h.get? b=some u->h'.get? b=some u):HOk P w H h':=λa o e=>(x a o e).stay (λb u _ q=>k b u q) (λ_ q=>q) λ_ _ q=>q
theorem HOk.laid(x:HOk P w H h)(k:∀b u,h.get? b=some u->h'.get? b=some u)(hp:h.objs.size<=a)(new:ZV P w (upd H a o) h' a o):HOk P w (upd H a o) h':=λb u e=>by
 have hn:=x.fresh hp
 by_cases hb:b=a
 ·subst hb; rw[Zz]at e; cases e; exact new
 ·rw[Zx hb]at e
  exact(x b u e).stay (λc v _ q=>k c v q) (λc q=>by rw[Zx (Z6 q hn)]; exact q) λc xs q=>by rw[Zx (Z6 q hn)]; exact q
end
def Rd(H:Hp)(a:Addr)(u:HO):Prop:=H a=some u\/∃o,H a=some (.frz o u)
theorem Rd.ok{P:Program}{w:World}{H:Hp}{h:Heap}{a:Addr}{u:HO}(r:Rd H a u)(x:HOk P w H h):ZV P w H h a u:=by
 rcases r with r | ⟨o,r⟩
 ·exact x a u r
 ·obtain⟨_,q⟩:=x a _ r
  exact q
def Mut:Option HO->Prop
 | some (.lst _)=>True
 | some (.dK _)=>True
 | some (.dT _)=>True
 | some (.set _ _)=>True
 | some (.ins _ _ _)=>True
 | some (.ext _)=>True
 | _=>False
section
variable{P:Program}{w:World}{H:Hp}{h h':Heap}{x e:Addr}{o':HO}
theorem HOk.write(ok:HOk P w H h)(mu:Mut (H x))(he:e=x\/H e=some (.own x))(k:∀b u,b≠e->h.get? b=some u->h'.get? b=some u)(heo:∃u,h'.get? e=some u)
  (new:ZV P w (upd H x o') h' x o'):HOk P w (upd H x o') h':=λb u q=>by
 have nown:∀c y,H c=some (.own y)->c≠x:=λc y r z=>by subst z; rw[r]at mu; exact mu
 have ntup:∀c xs,H c=some (.tup xs)->c≠x:=λc xs r z=>by subst z; rw[r]at mu; exact mu
 by_cases hb:b=x
 ·subst hb; rw[Zz]at q; cases q; exact new
 ·rw[Zx hb]at q
  by_cases hbe:b=e
  ·have q':H b=some (.own x):=by
    rcases he with z | z
    ·exact absurd (hbe.trans z) hb
    ·rw[hbe]; exact z
   rw[q]at q'; cases q';obtain⟨v,hv⟩:=heo;exact⟨v,by rw[hbe]; exact hv⟩
  ·refine(ok b u q).stay (λc v hc r=>k c v ?_ r) (λc r=>by rw[Zx (nown c b r)]; exact r) λc xs r=>by rw[Zx (ntup c xs r)]; exact r
   rcases hc with rfl | hc
   ·exact hbe
   ·rintro rfl
    rcases he with z | z
    ·exact nown c b hc z
    ·rw[hc]at z; cases z; exact hb rfl
end
structure Un(fs ex:List Addr)(H H':Hp)(h h':Heap):Prop where
 keep:∀b o,h.get? b=some o->H b=none->b ∉ fs->b ∉ ex->h'.get? b=some o
 slot:∀b o,h.get? b=some o->H b=none->b∈fs->b ∉ ex->∃sl,h'.get? b=some { o with slots:=sl }
 free:∀b o,h.get? b=some o->H b=none->b ∉ ex->H' b=none
 there:∀b o,h.get? b=some o->b ∉ ex->∃o',h'.get? b=some o'
 tups:∀b xs,H b=some (.tup xs)->H' b=some (.tup xs)
 frzs:∀b o u,H b=some (.frz o u)->H' b=some (.frz o u)
 tbls:∀b ps,H b=some (.tbl ps)->∃more,H' b=some (.tbl (ps++more))
section
variable{fs fs' ex ex':List Addr}{H H1 H2:Hp}{h h1 h2 h':Heap}{a x e:Addr}{o:HO}
theorem Un.any(u:Un fs ex H H1 h h1){b:Addr}{ob:Obj}(q:h.get? b=some ob)(n:H b=none)(hx:b ∉ ex):∃sl,h1.get? b=some { ob with slots:=sl }:=by
 by_cases hb:b∈fs
 ·exact u.slot b ob q n hb hx
 ·exact⟨ob.slots,u.keep b ob q n hb hx⟩
theorem Un.kept(k:∀b u,h.get? b=some u->h'.get? b=some u):Un fs ex H H h h' :=
 ⟨λb ob q _ _ _=>k b ob q,λb ob q _ _ _=>⟨ob.slots,k b ob q⟩,λ_ _ _ n _=>n,λb ob q _=>⟨ob,k b ob q⟩,λ_ _ q=>q,λ_ _ _ q=>q,λ_ ps q=>⟨#[],by rw[q]; simp⟩⟩
theorem Un.refl:Un fs ex H H h h:=Un.kept λ_ _ q=>q
theorem Un.laid(k:∀b u,h.get? b=some u->h'.get? b=some u)(hp:h.objs.size<=a)(hn:H a=none):Un fs ex H (upd H a o) h h' where
 keep:=λb u q _ _ _=>k b u q
 slot:=λb u q _ _ _=>⟨u.slots,k b u q⟩
 free:=λb u q n _=>by rw[Zx (Zw1 (Zw6 (ZwU q) hp))]; exact n
 there:=λb u q _=>⟨u,k b u q⟩
 tups:=λb xs q=>by rw[Zx (Z6 q hn)]; exact q
 frzs:=λb u xs q=>by rw[Zx (Z6 q hn)]; exact q
 tbls:=λb ps q=>⟨#[],by rw[Zx (Z6 q hn),q]; simp⟩
theorem Un.write(mu:Mut (H x))(he:e=x\/H e=some (.own x))(k:∀b u,b≠e->h.get? b=some u->h'.get? b=some u)(heo:∃u,h'.get? e=some u):Un fs ex H (upd H x o) h h':=by
 have hx:∀b,H b=none->b≠x:=λb n z=>by subst z; rw[n]at mu; exact mu
 have hb:∀b,H b=none->b≠e:=λb n z=>by
  subst z;rcases he with r | r
  ·exact hx b n r
  ·rw[n]at r; cases r
 have hm:∀b u,H b=some u->¬Mut (some u)->b≠x:=λb u q nm z=>by subst z; rw[q]at mu; exact nm mu
 refine⟨λb u q n _ _=>k b u (hb b n) q,λb u q n _ _=>⟨u.slots,k b u (hb b n) q⟩,λb u q n _=>by rw[Zx (hx b n)]; exact n,λb u q _=>?_,
  λb xs q=>by rw[Zx (hm b _ q λz=>z)]; exact q,λb u xs q=>by rw[Zx (hm b _ q λz=>z)]; exact q,λb ps q=>⟨#[],by rw[Zx (hm b _ q λz=>z),q]; simp⟩⟩
 by_cases hbe:b=e
 ·subst hbe; exact heo
 ·exact⟨u,k b u hbe q⟩
end
def trk(h:Heap)(H:Hp):List Addr:=(ZwG h.objs.size).filter λa=>(H a).isSome
def Zf0(h:Heap)(H:Hp):Heap:=PySem.W.hideAll h (trk h H)
theorem ZpW(h:Heap)(H:Hp):(Zf0 h H).objs.size=h.objs.size:=PySem.W.hideAll_size _ _
theorem Zsi{h:Heap}{H:Hp}{b:Addr}{o:Obj}(e:h.get? b=some o)(n:H b=none):(Zf0 h H).get? b=some o :=
 PySem.W.hideAll_get _ e λhm=>by have q:(H b).isSome=true:=(Zxq.mp hm).2;rw[n]at q; simp at q
theorem Zs0{h:Heap}{H:Hp}{b:Addr}{o:Obj}(e:(Zf0 h H).get? b=some o):h.get? b=some o/\H b=none:=by
 have e':h.get? b=some o:=PySem.W.of_hideAll (trk h H) e;refine⟨e',?_⟩;cases q:H b with
 | none=>rfl
 | some x=>have hm:b∈trk h H:=Zxq.mpr ⟨ZwW.mpr (ZwU e'),by simp[q]⟩;have z:(Zf0 h H).get? b=none:=PySem.W.hideAll_none (trk h H) hm;rw[z]at e; cases e
end L2
namespace L2
open PySem PySem.Spec PyProof.Rows
structure Mod(K:ZwC)(mg:Str->Option Value)(base:Heap):Prop where
 kin:K.In base
 glob:base.Ns Zxj mg
 blt:∃mb,base.Ns ZAu mb/\∀x:Str,x ≠ "__name__"->mb x=Zxw x
 nolimit:base.NoLimit
structure Cx where
 prog:Program
 w:World
 K:ZwC
 mg:Str->Option Value
 base:Heap
 A:Around
 N:List Str
 s₀:Shared
 H₀:Hp
 env:Env
 outer:List Env
 stack:List Env
 ex:List Addr
 fn:Str->Bool
 calm:Bool
 pn:List (Addr × Obj)
 xe:Value->Shared->Prop
def frs(l:List Env):List Addr:=l.filterMap (·.frame)
abbrev Cx.fs(X:Cx):List Addr:=frs X.outer
def Vis(sc:Scope)(x:Str):Prop:=sc.names.lookup x=some .local\/sc.names.lookup x=some .cell\/sc.names.lookup x=some .free
def Loc(sc:Scope)(x:Str):Prop:=sc.names.lookup x=some .local\/sc.names.lookup x=some .cell
def Look(env:Env)(h:Heap)(m:Str->Option Value)(x:Str)(u:Value):Prop :=
 (env.kindOf x=some .local/\m x=some u)\/((env.kindOf x=some .cell\/env.kindOf x=some .free)/\∃c,env.cells.lookup x=some c/\h.IsCell c (some u))
structure Cx.Ok(X:Cx):Prop where
 mod:Mod X.K X.mg X.base
 kind:X.env.scope.kind=.function
 glob:X.env.globals=Zxj
 blt:X.env.builtins=ZAu
 above:X.s₀.heap.objs.size<=X.env.locals
 inj:∀x y c,X.env.cells.lookup x=some c->X.env.cells.lookup y=some c->x=y
 has:∀x,(X.env.kindOf x=some .cell\/X.env.kindOf x=some .free)->∃c,X.env.cells.lookup x=some c
 cab:∀x c,X.fn x=true->X.env.cells.lookup x=some c->X.s₀.heap.objs.size<=c
 hd:X.calm=true->X.A.handled=none
 frames:X.A.frames=some X.stack
 stk:X.stack=X.outer\/(X.stack=X.env::X.outer/\X.env.frame=some X.env.locals)
 exf:∀b∈X.ex,b≠X.env.locals/\∀x c,X.env.cells.lookup x=some c->c≠b
 bs:∀b o,X.base.get? b=some o->X.s₀.heap.get? b=some o/\X.H₀ b=none
 bsz:X.base.objs.size<=X.s₀.heap.objs.size
 noex:∀b o,X.base.get? b=some o->b ∉ X.ex
 exfs:∀b∈X.ex,b ∉ X.fs
 funs:X.s₀.heap.FunFrames X.base X.outer
 frf:∀b∈X.fs,X.H₀ b=none
structure Inv(X:Cx)(pins:List (Addr × Obj))(σ:List (Option V))(H:Hp)(s:Shared):Prop where
 ok:X.Ok
 os:s.os=X.s₀.os
 bare:AllBare s.gens
 base:Un X.fs X.ex X.H₀ H X.s₀.heap s.heap
 loc:∃m,s.heap.Ns X.env.locals m/\∀(i:Nat) (x:Str) (v:V),X.N[i]?=some x->σ[i]?=some (some v)->Vis X.env.scope x->∃u,RelV v u/\Look X.env s.heap m x u
 cell:∀x c,X.env.cells.lookup x=some c->∃v,s.heap.IsCell c v
 free:H X.env.locals=none
 freeC:∀x c,X.env.cells.lookup x=some c->H c=none
 pin:∀p∈X.pn++pins,s.heap.get? p.1=some p.2/\H p.1=none/\p.1≠X.env.locals/\p.1 ∉ X.fs/\∀v,p.2.data≠.cell v
 hok:HOk X.prog X.w H s.heap
 len:σ.length=X.N.length
section
variable{X:Cx}{pins:List (Addr × Obj)}{σ:List (Option V)}{H H':Hp}{s:Shared}{h':Heap}
theorem Cx.Ok.nofr(ok:X.Ok){b:Addr}{o:Obj}(e:X.base.get? b=some o):b ∉ X.fs:=λhb=>by have:=(ok.funs.mem hb).1;rw[e]at this; cases this
theorem Inv.bs(I:Inv X pins σ H s):∀b o,X.base.get? b=some o->s.heap.get? b=some o/\H b=none:=λb o e=>⟨I.base.keep b o (I.ok.bs b o e).1 (I.ok.bs b o e).2 (I.ok.nofr e) (I.ok.noex b o e),I.base.free b o (I.ok.bs b o e).1 (I.ok.bs b o e).2 (I.ok.noex b o e)⟩
theorem Inv.bk(I:Inv X pins σ H s):∀b o,X.base.get? b=some o->s.heap.get? b=some o:=λb o e=>(I.bs b o e).1
theorem Inv.mod(I:Inv X pins σ H s):Mod X.K X.mg X.base:=I.ok.mod
theorem Inv.kIn(I:Inv X pins σ H s):X.K.In s.heap:=I.ok.mod.kin.keeps I.bk
theorem Inv.lt(I:Inv X pins σ H s):X.env.locals<s.heap.objs.size:=let ⟨_,hn,_⟩:=I.loc; hn.lt
theorem Inv.sz(I:Inv X pins σ H s):X.s₀.heap.objs.size<=s.heap.objs.size:=Zxr I.ok.above (Zys I.lt)
theorem Inv.nofs(I:Inv X pins σ H s){a:Addr}(h:s.heap.objs.size<=a):a ∉ X.fs:=λhb=>by obtain⟨_,o,ho,_⟩:=I.ok.funs.mem hb;exact absurd (Zw6 (ZwU ho) (Zxr I.sz h)) (Zym _)
theorem Inv.cne(I:Inv X pins σ H s):∀x c,X.env.cells.lookup x=some c->c≠X.env.locals:=λx c e z=>by obtain⟨v,o,ho,hd⟩:=I.cell x c e;obtain⟨m,⟨o',es,ep,ho',hd',_⟩,_⟩:=I.loc;rw[z,ho']at ho; cases ho; rw[hd']at hd; cases hd
theorem Inv.funs(I:Inv X pins σ H s):s.heap.FunFrames X.base X.outer:=by
 have all:∀(l:List Env),(∀b∈frs l,b∈X.fs)->X.s₀.heap.FunFrames X.base l->s.heap.FunFrames X.base l:=by
  intro l
  induction l with
  | nil=>intro _ _; trivial
  | cons env r ih=>intro hs hl;obtain⟨hk,⟨L,o,hf,hn,ho,hd⟩,hr⟩:=hl;have hL:L∈X.fs:=hs L (by unfold frs; rw[ZxP,hf]; exact ZwI);obtain⟨sl,e⟩:=I.base.slot L o ho (I.ok.frf L hL) hL λz=>I.ok.exfs L z hL;exact⟨hk,⟨L,_,hf,hn,e,hd⟩,ih (λb hb=>hs b (by unfold frs; rw[ZxP,hf]; exact ZwJ _ hb)) hr⟩
 exact all X.outer (λ_ hb=>hb) I.ok.funs
theorem Inv.stack(I:Inv X pins σ H s):s.heap.FunFrames X.base X.stack:=by
 rcases I.ok.stk with e | ⟨e,hf⟩
 ·rw[e]; exact I.funs
 ·rw[e]
  obtain⟨m,hn,_⟩:=I.loc;refine .cons (by rw[I.ok.kind]; decide) hf hn ?_ I.funs;exact Heap.get?_none_of_le (Zxr I.ok.bsz I.ok.above)
theorem Inv.stkSub(I:Inv X pins σ H s):∀b∈frs X.stack,b∈X.env.locals::X.fs:=λb hb=>by
 rcases I.ok.stk with e | ⟨e,hf⟩
 ·rw[e]at hb; exact ZwJ _ hb
 ·rw[e]at hb
  unfold frs at hb;rw[ZxP,hf]at hb;exact hb
theorem Inv.stkFree(I:Inv X pins σ H s):∀b∈frs X.stack,H b=none:=λb hb=>by
 rcases Zw0.mp (I.stkSub b hb)with e | hb
 ·rw[e]; exact I.free
 ·obtain⟨_,o,ho,_⟩:=I.ok.funs.mem hb
  exact I.base.free b o ho (I.ok.frf b hb) λz=>I.ok.exfs b z hb
theorem Inv.step{g':Array GenState}{t':Nat}{d':Drawn}{ch:List Addr}(I:Inv X pins σ H s)
  (hch:∀b∈ch,(b∈X.ex\/X.s₀.heap.objs.size<=b)/\b≠X.env.locals/\(∀x c,X.env.cells.lookup x=some c->c≠b)/\∀p∈X.pn++pins,p.1≠b)
  (keep:∀b o,b≠X.env.locals->b ∉ X.fs->b ∉ ch->s.heap.get? b=some o->H b=none->h'.get? b=some o)
  (slot:∀b o,b≠X.env.locals->b∈X.fs->b ∉ ch->s.heap.get? b=some o->H b=none->∃sl,h'.get? b=some { o with slots:=sl }) (free:∀b o,b ∉ ch->s.heap.get? b=some o->H b=none->H' b=none)
  (there:∀b o,b ∉ ch->s.heap.get? b=some o->∃o',h'.get? b=some o')
  (tups:∀b xs,H b=some (.tup xs)->H' b=some (.tup xs)) (frzs:∀b o u,H b=some (.frz o u)->H' b=some (.frz o u)) (tbls:∀b ps,H b=some (.tbl ps)->∃more,H' b=some (.tbl (ps++more)))
  (ns:∀m,s.heap.Ns X.env.locals m->h'.Ns X.env.locals m) (hok:HOk X.prog X.w H' h') (hg:AllBare g') :
  Inv X pins σ H' { s with heap:=h',gens:=g',drawn:=d',toks:=t' }:=by
 have neL:∀b o,X.s₀.heap.get? b=some o->b≠X.env.locals:=λb o e=>Zw1 (Zw6 (ZwU e) I.ok.above);have neC:∀b o,X.s₀.heap.get? b=some o->b ∉ X.ex->b ∉ ch:=λb o e hx hb=>by
  rcases(hch b hb).1 with z | z
  ·exact hx z
  ·exact absurd (Zw6 (ZwU e) z) (Zym _)
 have cellK:∀x c,X.env.cells.lookup x=some c->∀v,s.heap.IsCell c v->h'.IsCell c v:=λx c e v ⟨o,ho,hd⟩=>by
  have nch:c ∉ ch:=λz=>(hch c z).2.2.1 x c e rfl
  by_cases hc:c∈X.fs
  ·obtain⟨sl,q⟩:=slot c o (I.cne x c e) hc nch ho (I.freeC x c e)
   exact⟨_,q,hd⟩
  ·exact⟨o,keep c o (I.cne x c e) hc nch ho (I.freeC x c e),hd⟩
 refine⟨I.ok,I.os,hg,⟨λb o e n hb hx=>?_,λb o e n hb hx=>?_,λb o e n hx=>?_,λb o e hx=>?_,λb xs e=>tups b xs (I.base.tups b xs e),λb o xs e=>frzs b o xs (I.base.frzs b o xs e),λb ps e=>?_⟩,?_,λx c e=>?_,?_,λx c e=>?_,λp hp=>?_,hok,I.len⟩
 ·exact keep b o (neL b o e) hb (neC b o e hx) (I.base.keep b o e n hb hx) (I.base.free b o e n hx)
 ·obtain⟨sl,e1⟩:=I.base.slot b o e n hb hx
  obtain⟨sl',e2⟩:=slot b _ (neL b o e) hb (neC b o e hx) e1 (I.base.free b o e n hx);exact⟨sl',e2⟩
 ·obtain⟨o',e1⟩:=I.base.there b o e hx
  exact free b o' (neC b o e hx) e1 (I.base.free b o e n hx)
 ·obtain⟨o',e1⟩:=I.base.there b o e hx
  exact there b o' (neC b o e hx) e1
 ·obtain⟨m1,e1⟩:=I.base.tbls b ps e
  obtain⟨m2,e2⟩:=tbls b _ e1;exact⟨m1++m2,by rw[e2,Array.append_assoc]⟩
 ·obtain⟨m,hn,hl⟩:=I.loc
  refine⟨m,ns m hn,λi x v e1 e2 e3=>?_⟩;obtain⟨u,r,l⟩:=hl i x v e1 e2 e3;refine⟨u,r,?_⟩;rcases l with l | ⟨k,c,e,z⟩
  ·exact .inl l
  ·exact .inr ⟨k,c,e,cellK x c e _ z⟩
 ·obtain⟨v,z⟩:=I.cell x c e
  exact⟨v,cellK x c e v z⟩
 ·obtain⟨m,⟨o,_,_,ho,_⟩,_⟩:=I.loc
  exact free _ o (λz=>(hch _ z).2.1 rfl) ho I.free
 ·obtain⟨v,o,ho,hd⟩:=I.cell x c e
  exact free c o (λz=>(hch c z).2.2.1 x c e rfl) ho (I.freeC x c e)
 ·obtain⟨e,n,ne,nf,d⟩:=I.pin p hp
  have nch:p.1 ∉ ch:=λz=>(hch p.1 z).2.2.2 p hp rfl;exact⟨keep p.1 p.2 ne nf nch e n,free p.1 p.2 nch e n,ne,nf,d⟩
theorem Inv.un{t':Nat}(I:Inv X pins σ H s)(u:Un X.fs [] H H' s.heap h')(hok:HOk X.prog X.w H' h'):Inv X pins σ H' { s with heap:=h',toks:=t' }:=by obtain⟨m,⟨o,es,ep,ho,r⟩,_⟩:=id I.loc;obtain⟨sl,hL⟩:=u.any ho I.free (by simp);exact I.step (g':=s.gens) (d':=s.drawn) (ch:=[]) (λ_ z=>nomatch z) (λb o _ hb _ e n=>u.keep b o e n hb (by simp)) (λb o _ hb _ e n=>u.slot b o e n hb (by simp)) (λb o _ e n=>u.free b o e n (by simp)) (λb o _ e=>u.there b o e (by simp)) u.tups u.frzs u.tbls (λm' hm=>by obtain⟨o',es',ep',ho',r'⟩:=hm;rw[ho]at ho'; cases ho';exact⟨_,es',ep',hL,r'⟩) hok I.bare
theorem Inv.call{g':Array GenState}{t':Nat}{d':Drawn}{ch:List Addr}(I:Inv X pins σ H s)(u:Un (frs X.stack) ch H H' s.heap h')(hok:HOk X.prog X.w H' h')(hg:AllBare g')
  (hch:∀b∈ch,(b∈X.ex\/X.s₀.heap.objs.size<=b)/\b≠X.env.locals/\(∀x c,X.env.cells.lookup x=some c->c≠b)/\∀p∈X.pn++pins,p.1≠b) :
  Inv X pins σ H' { s with heap:=h',gens:=g',drawn:=d',toks:=t' }:=by
 obtain⟨m,⟨o,es,ep,ho,r⟩,_⟩:=id I.loc;obtain⟨sl,hL⟩:=u.any ho I.free λz=>(hch _ z).2.1 rfl;exact I.step (ch:=ch) hch (λb o hL hb hc e n=>u.keep b o e n (λz=>(Zw0.mp (I.stkSub b z)).elim hL hb) hc) (λb o _ _ hc e n=>u.any e n hc) (λb o hc e n=>u.free b o e n hc) (λb o hc e=>u.there b o e hc) u.tups u.frzs u.tbls (λm' hm=>by obtain⟨o',es',ep',ho',r'⟩:=hm;rw[ho]at ho'; cases ho';exact⟨_,es',ep',hL,r'⟩) hok hg
theorem Inv.turned{t':Nat}{it:Addr}(I:Inv X pins σ H s)(k:∀b o,b≠it->s.heap.get? b=some o->h'.get? b=some o)(hn:H it=none)(hL:it≠X.env.locals)
  (h1:it∈X.ex\/X.s₀.heap.objs.size<=it) (h2:∀x c,X.env.cells.lookup x=some c->c≠it) (h3:∀p∈X.pn++pins,p.1≠it):Inv X pins σ H { s with heap:=h',toks:=t' }:=by
 have nit:∀b u,H b=some u->b≠it:=λb u e z=>by rw[z,hn]at e; cases e
 refine I.step (g':=s.gens) (d':=s.drawn) (ch:=[it]) (λb hb=>?_) (λb o _ _ hc e _=>k b o (λz=>hc (by simp[z])) e) (λb o _ _ hc e _=>⟨o.slots,k b o (λz=>hc (by simp[z])) e⟩) (λ_ _ _ _ n=>n)
  (λb o hc e=>⟨o,k b o (λz=>hc (by simp[z])) e⟩) (λ_ _ e=>e) (λ_ _ _ e=>e) (λb ps e=>⟨#[],by rw[e]; simp⟩) (λm hm=>?_) (λb u e=>?_) I.bare
 ·have e:b=it:=by simpa using hb
  subst e;exact⟨h1,hL,h2,h3⟩
 ·obtain⟨o,es,ep,ho,r⟩:=hm
  exact⟨o,es,ep,k _ o (ZxC hL) ho,r⟩
 ·refine(I.hok b u e).stay (λc v hc q=>k c v ?_ q) (λ_ q=>q) λ_ _ q=>q
  rcases hc with z | z
  ·rw[z]; exact nit b u e
  ·exact nit c _ z
theorem Inv.tok(I:Inv X pins σ H s)(t:Nat):Inv X pins σ H { s with toks:=t }:=I.un (h':=s.heap) (t':=t) Un.refl I.hok
theorem Inv.kept{t':Nat}(I:Inv X pins σ H s)(k:∀b u,s.heap.get? b=some u->h'.get? b=some u):Inv X pins σ H { s with heap:=h',toks:=t' }:=I.un (Un.kept k) (I.hok.kept k)
theorem Inv.laid{a:Addr}{o:HO}{t':Nat}(I:Inv X pins σ H s)(k:∀b u,s.heap.get? b=some u->h'.get? b=some u)(hp:s.heap.objs.size<=a)(new:ZV X.prog X.w (upd H a o) h' a o) :
  Inv X pins σ (upd H a o) { s with heap:=h',toks:=t' }:=I.un (Un.laid k hp (I.hok.fresh hp)) (I.hok.laid k hp new)
theorem Inv.write{x e:Addr}{o:HO}{t':Nat}(I:Inv X pins σ H s)(mu:Mut (H x))(he:e=x\/H e=some (.own x))(k:∀b u,b≠e->s.heap.get? b=some u->h'.get? b=some u)(heo:∃u,h'.get? e=some u)
  (new:ZV X.prog X.w (upd H x o) h' x o):Inv X pins σ (upd H x o) { s with heap:=h',toks:=t' }:=I.un (Un.write mu he k heo) (I.hok.write mu he k heo new)
theorem Inv.weak{σ':List (Option V)}(I:Inv X pins σ H s)(hl:σ'.length=σ.length)(w:∀(i:Nat) v,σ'[i]?=some (some v)->σ[i]?=some (some v)):Inv X pins σ' H s :=
 ⟨I.ok,I.os,I.bare,I.base,let ⟨m,hn,hl'⟩:=I.loc; ⟨m,hn,λi x v e1 e2 e3=>hl' i x v e1 (w i v e2) e3⟩,I.cell,I.free,I.freeC,I.pin,I.hok,hl.trans I.len⟩
theorem Inv.pins_of{pins':List (Addr × Obj)}(I:Inv X pins σ H s)(h:∀p∈pins',s.heap.get? p.1=some p.2/\H p.1=none/\p.1≠X.env.locals/\p.1 ∉ X.fs/\∀v,p.2.data≠.cell v):Inv X pins' σ H s :=
 ⟨I.ok,I.os,I.bare,I.base,I.loc,I.cell,I.free,I.freeC,λp hp=>(Zxc.mp hp).elim (λz=>I.pin p (ZxE _ z)) (h p),I.hok,I.len⟩
theorem Zmv{N:List Str}(hN:N.Nodup){i j:Nat}{x:Str}(a:N[i]?=some x)(b:N[j]?=some x):i=j:=by obtain⟨h1,e1⟩:=ZwQ.mp a;obtain⟨h2,e2⟩:=ZwQ.mp b;exact(List.getElem_inj hN).mp (e1.trans e2.symm)
theorem ZkN{M:Model}{A:Around}{E:Value->Shared->Prop}{i:Nat}{x:Str}{v:V}{u:Value}{Q:Unit->Shared->Prop}(I:Inv X pins σ H s)(hN:X.N.Nodup)(hi:X.N[i]?=some x)(hx:Loc X.env.scope x)(r:RelV v u)
  (h:∀s',Inv X pins (σ.set i (some v)) H s'->(∃a,Zyt a s.heap s'.heap/\(a=X.env.locals\/X.env.cells.lookup x=some a))->Q () s') (hf:X.fn x=true\/X.env.scope.names.lookup x=some .local:=by first | exact .inl rfl | exact .inr rfl | assumption):wpAny M A (storeName X.env x u) Q E s:=by
 obtain⟨m,hn,hl⟩:=id I.loc;have hcls:(X.env.scope.kind==.class||(X.env.scope.kind==.module&&X.env.locals != X.env.globals))=false:=by rw[I.ok.kind]; rfl
 have hiσ:i<σ.length:=by rw[I.len]; exact(ZwQ.mp hi).1
 have cne:=I.cne;have tracked:∀{a:Addr} {h':Heap},(∃o,s.heap.get? a=some o/\H a=none)->Zyt a s.heap h'->HOk X.prog X.w H h':=λ{a h'} ha hs b ob e=>by
  obtain⟨_,_,hfree⟩:=ha;refine(I.hok b ob e).stay (λc w' hc q=>(hs.2 c ?_).trans q) (λ_ q=>q) λ_ _ q=>q
  rintro rfl
  rcases hc with rfl | hc
  ·rw[hfree]at e; cases e
  ·rw[hfree]at hc; cases hc
 rcases hx with hk | hk
 ·refine wpAny_storeName_local hk hn (λh' hn' hs=>?_) hcls
  obtain⟨oL,_,_,hoL,_⟩:=id hn;refine h _ ⟨I.ok,I.os,I.bare,⟨λb o e n hb hx=>?_,λb o e n hb hx=>?_,I.base.free,λb o e hx=>?_,I.base.tups,I.base.frzs,I.base.tbls⟩,⟨_,hn',λj y v' e1 e2 e3=>?_⟩,λy c e=>?_,I.free,I.freeC,λp hp=>?_,tracked ⟨oL,hoL,I.free⟩ hs,by simpa using I.len⟩ ⟨_,hs,.inl rfl⟩
  ·exact(hs.2 b (Zw1 (Zw6 (ZwU e) I.ok.above))).trans (I.base.keep b o e n hb hx)
  ·obtain⟨sl,e1⟩:=I.base.slot b o e n hb hx
   exact⟨sl,(hs.2 b (Zw1 (Zw6 (ZwU e) I.ok.above))).trans e1⟩
  ·obtain⟨o',e1⟩:=I.base.there b o e hx
   exact⟨o',(hs.2 b (Zw1 (Zw6 (ZwU e) I.ok.above))).trans e1⟩
  ·by_cases hj:j=i
   ·subst hj
    rw[hi]at e1; cases e1;rw[Zxp hiσ]at e2;cases e2;exact⟨u,r,.inl ⟨hk,by simp⟩⟩
   ·rw[Zw8 (ZxC hj)]at e2
    obtain⟨u',r',q⟩:=hl j y v' e1 e2 e3;refine⟨u',r',?_⟩;rcases q with⟨k,e⟩ | ⟨k,c,e,z⟩
    ·refine .inl ⟨k,?_⟩
     have:y≠x:=λe=>hj (Zmv hN e1 (e▸hi));simp[this,e]
    ·exact .inr ⟨k,c,e,z.sameBut hs (cne y c e)⟩
  ·obtain⟨w',z⟩:=I.cell y c e
   exact⟨w',z.sameBut hs (cne y c e)⟩
  ·obtain⟨e,n,ne,nf,d⟩:=I.pin p hp
   exact⟨(hs.2 p.1 ne).trans e,n,ne,nf,d⟩
 ·have hfn:X.fn x=true:=by
   rcases hf with z | z
   ·exact z
   ·rw[z]at hk; cases hk
  obtain⟨c,hc⟩:=I.ok.has x (.inl hk);obtain⟨w',z⟩:=I.cell x c hc;refine wpAny_storeName_cell I.ok.kind hk hc z (λh' hc' hs=>?_);obtain⟨oc,hoc,hocd⟩:=id z;refine h { s with heap:=h' } ⟨I.ok,I.os,I.bare,⟨λb o e n hb hx=>?_,λb o e n hb hx=>?_,I.base.free,λb o e hx=>?_,I.base.tups,I.base.frzs,I.base.tbls⟩,⟨m,hn.sameBut hs (ZxC (cne x c hc)),λj y v' e1 e2 e3=>?_⟩,λy c' e=>?_,I.free,I.freeC,λp hp=>?_,tracked ⟨oc,hoc,I.freeC x c hc⟩ hs,by simpa using I.len⟩ ⟨c,hs,.inr hc⟩
  ·exact(hs.2 b (Zw1 (Zw6 (ZwU e) (I.ok.cab x c hfn hc)))).trans (I.base.keep b o e n hb hx)
  ·obtain⟨sl,e1⟩:=I.base.slot b o e n hb hx
   exact⟨sl,(hs.2 b (Zw1 (Zw6 (ZwU e) (I.ok.cab x c hfn hc)))).trans e1⟩
  ·obtain⟨o',e1⟩:=I.base.there b o e hx
   exact⟨o',(hs.2 b (Zw1 (Zw6 (ZwU e) (I.ok.cab x c hfn hc)))).trans e1⟩
  ·by_cases hj:j=i
   ·subst hj
    rw[hi]at e1; cases e1;rw[Zxp hiσ]at e2;cases e2;exact⟨u,r,.inr ⟨.inl hk,c,hc,hc'⟩⟩
   ·rw[Zw8 (ZxC hj)]at e2
    obtain⟨u',r',q⟩:=hl j y v' e1 e2 e3;refine⟨u',r',?_⟩;rcases q with q | ⟨k,c',e,z'⟩
    ·exact .inl q
    ·refine .inr ⟨k,c',e,z'.sameBut hs ?_⟩
     rintro rfl
     exact hj (Zmv hN e1 (I.ok.inj _ _ _ e hc▸hi))
  ·by_cases hcc:c'=c
   ·subst hcc; exact⟨_,hc'⟩
   ·obtain⟨w2,z2⟩:=I.cell y c' e
    exact⟨w2,z2.sameBut hs hcc⟩
  ·obtain⟨e,n,ne,nf,d⟩:=I.pin p hp
   refine⟨(hs.2 p.1 ?_).trans e,n,ne,nf,d⟩;intro q;rw[q,hoc]at e;have q':oc=p.2:=Zxx e;exact d w' (by rw[<-q']; exact hocd)
theorem ZmW{M:Model}{A:Around}{E:Value->Shared->Prop}{i:Nat}{x:Str}{v:V}{u:Value}{Q:Unit->Shared->Prop}(I:Inv X pins σ H s)(hN:X.N.Nodup)(hi:X.N[i]?=some x)(hx:Loc X.env.scope x)(r:RelV v u)
  (h:∀s',Inv X pins (σ.set i (some v)) H s'->Q () s') (hf:X.fn x=true\/X.env.scope.names.lookup x=some .local:=by first | exact .inl rfl | exact .inr rfl | assumption):wpAny M A (storeName X.env x u) Q E s :=
 ZkN I hN hi hx r (λs' I' _=>h s' I') hf
theorem Inv.call'{s':Shared}{ch:List Addr}(I:Inv X pins σ H s)(ho:s'.os=s.os)(u:Un (frs X.stack) ch H H' s.heap s'.heap)(hok:HOk X.prog X.w H' s'.heap)(hg:AllBare s'.gens)
  (hch:∀b∈ch,(b∈X.ex\/X.s₀.heap.objs.size<=b)/\b≠X.env.locals/\(∀x c,X.env.cells.lookup x=some c->c≠b)/\∀p∈X.pn++pins,p.1≠b):Inv X pins σ H' s':=by
 obtain⟨h',g',d',t',o'⟩:=s';have e:o'=s.os:=ho;subst e;exact I.call (g':=g') (t':=t') (d':=d') u hok hg hch
end
abbrev XK:=Value->Option Addr->Hp->Prop
abbrev St:=List (Option V)
abbrev VK:=V->Hp->Prop
abbrev TE:=St->Hp->VK->Prop
abbrev TT:=St->Hp->(Bool->Hp->Prop)->Prop
abbrev TA:=St->Hp->(List V->Hp->Prop)->Prop
structure Ends where
 nx:St->Hp->Prop
 rt:VK
 bk:St->Hp->Prop:=λ_ _=>False
 ct:St->Hp->Prop:=λ_ _=>False
abbrev TS:=Ends->St->Hp->Prop
inductive EP(X:Cx)(pins:List (Addr × Obj))(σ:St)(Q:VK)(u:Value)(s':Shared):Prop
 | mk (v:V) (H':Hp) (I:Inv X pins σ H' s') (r:RelV v u) (q:Q v H'):EP X pins σ Q u s'
inductive TP(X:Cx)(pins:List (Addr × Obj))(σ:St)(Q:Bool->Hp->Prop)(b:Bool)(s':Shared):Prop
 | mk (H':Hp) (I:Inv X pins σ H' s') (q:Q b H'):TP X pins σ Q b s'
inductive AP(X:Cx)(pins:List (Addr × Obj))(σ:St)(Q:List V->Hp->Prop)(us:List Value)(s':Shared):Prop
 | mk (vs:List V) (H':Hp) (I:Inv X pins σ H' s') (r:Vals vs us) (q:Q vs H'):AP X pins σ Q us s'
inductive SPn(X:Cx)(pins:List (Addr × Obj))(N:St->Hp->Prop)(s':Shared):Prop
 | mk (σ':St) (H':Hp) (I:Inv X pins σ' H' s') (q:N σ' H'):SPn X pins N s'
inductive SPr(X:Cx)(pins:List (Addr × Obj))(R:V->Hp->Prop)(u:Value)(s':Shared):Prop
 | mk (v:V) (σ':St) (H':Hp) (I:Inv X pins σ' H' s') (r:RelV v u) (q:R v H'):SPr X pins R u s'
def SP(X:Cx)(pins:List (Addr × Obj))(D:Ends)(f:Flow)(s':Shared):Prop :=
 match f with
 | .next=>SPn X pins D.nx s'
 | .brk=>SPn X pins D.bk s'
 | .cont=>SPn X pins D.ct s'
 | .ret u=>SPr X pins D.rt u s'
def PE(X:Cx)(e:Expr)(t:TE):Prop :=
 ∀(pins:List (Addr × Obj)) (s:Shared) (σ:St) (H:Hp) (Q:VK),Inv X pins σ H s->t σ H Q->wpAny (model X.prog X.w) X.A (eval e X.env) (EP X pins σ Q) X.xe s
def PT(X:Cx)(e:Expr)(t:TT):Prop :=
 ∀(pins:List (Addr × Obj)) (s:Shared) (σ:St) (H:Hp) (Q:Bool->Hp->Prop),Inv X pins σ H s->t σ H Q->wpAny (model X.prog X.w) X.A (isTrue e X.env (eval e X.env)) (TP X pins σ Q) X.xe s
def PW(X:Cx)(e:Expr)(t:TT):Prop :=
 ∀(whole:Sem Value) (pins:List (Addr × Obj)) (s:Shared) (σ:St) (H:Hp) (Q:Bool->Hp->Prop),Inv X pins σ H s->t σ H Q->wpAny (model X.prog X.w) X.A (isTrue e X.env whole) (TP X pins σ Q) X.xe s
theorem PW.pt{X:Cx}{e:Expr}{t:TT}(h:PW X e t):PT X e t:=h _
def PA(X:Cx)(es:List Expr)(t:TA):Prop :=
 ∀(pos:Pos) (pins:List (Addr × Obj)) (s:Shared) (σ:St) (H:Hp) (Q:List V->Hp->Prop),Inv X pins σ H s->t σ H Q->wpAny (model X.prog X.w) X.A (spliced (backTo pos (ZwP es X.env))) (AP X pins σ Q) X.xe s
def PS(X:Cx)(st:Stmt)(t:TS):Prop :=
 ∀(pins:List (Addr × Obj)) (s:Shared) (σ:St) (H:Hp) (D:Ends),Inv X pins σ H s->t D σ H->wpAny (model X.prog X.w) X.A (exec st X.env) (SP X pins D) X.xe s
def PSs(X:Cx)(st:List Stmt)(t:TS):Prop :=
 ∀(pins:List (Addr × Obj)) (s:Shared) (σ:St) (H:Hp) (D:Ends),Inv X pins σ H s->t D σ H->wpAny (model X.prog X.w) X.A (execs st X.env) (SP X pins D) X.xe s
theorem thn{α:Type}{t:Sem α}{Q Q':α->Shared->Prop}{M:Model}{A:Around}{E:Value->Shared->Prop}{s:Shared}(h:wpAny M A t Q E s)(hQ:∀a s,Q a s->Q' a s):wpAny M A t Q' E s:=ZxQ h hQ λ_ _ x=>x
end L2
namespace L2
open PySem PySem.Spec PyProof.Rows
section
variable{X:Cx}
def Zwe(i:Nat):TE:=λσ H Q=>∃v,σ[i]?=some (some v)/\Q v H
def tC(v:V):TE:=λ_ H Q=>Q v H
theorem Zb9{i:Nat}{x:Str}{pos:Pos}(hN:X.N[i]?=some x)(hv:Vis X.env.scope x)(hd:(x==("__debug__":Str))=false:=by decide)(hcd:(x==("__classdict__":Str))=false:=by decide):PE X (.Name x pos) (Zwe i):=by
 intro pins s σ H Q I h;obtain⟨v,e,h⟩:=h;obtain⟨m,hn,hl⟩:=I.loc;obtain⟨u,r,l⟩:=hl i x v hN e hv;have fin:EP X pins σ Q u s:=⟨v,H,I,r,h⟩;rcases l with⟨hk,hm⟩ | ⟨hk,c,hc,hcell⟩
 ·exact wpAny_Name (wpAny_loadName_local I.ok.kind hk hn hm fin) hd
 ·rcases hk with hk | hk
  ·exact wpAny_Name (wpAny_loadName_cell I.ok.kind hk hc hcell fin) hd
  ·exact wpAny_Name (wpAny_loadName_free I.ok.kind hk hc hcell fin hcd) hd
theorem ZqC{i j pos}:PE X (.Constant (.int i) j pos) (tC (.int i)):=λ_ _ _ H _ I h=>wpAny_Constant_int ⟨.int i,H,I.tok _,⟨_,rfl⟩,h⟩
theorem Zvz{b j pos}:PE X (.Constant (.bool b) j pos) (tC (.bl b)):=λ_ _ _ H _ I h=>Constant_bool ⟨.bl b,H,I,rfl,h⟩
theorem ZqF{j pos}:PE X (.Constant .none j pos) (tC .non):=λ_ _ _ H _ I h=>Constant_none ⟨.non,H,I,rfl,h⟩
def Gl(X:Cx)(x:Str):Prop:=X.env.kindOf x=some .globalImplicit
theorem ZjT{E:Value->Shared->Prop}{pins:List (Addr × Obj)}{s:Shared}{σ:St}{H:Hp}{x:Str}{u:Value}{pos:Pos}{Q:Value->Shared->Prop}(I:Inv X pins σ H s)(hg:Gl X x)(hm:X.mg x=some u)(h:Q u s)
  (hd:(x==("__debug__":Str))=false:=by decide):wpAny (model X.prog X.w) X.A (eval (.Name x pos) X.env) Q E s :=
 ZAj I.ok.kind hg (Calls.loadGlobal_global (by rw[I.ok.glob]; exact I.mod.glob.keeps I.bk) hm h) hd
theorem Zgi{E:Value->Shared->Prop}{pins:List (Addr × Obj)}{s:Shared}{σ:St}{H:Hp}{x:Str}{u:Value}{pos:Pos}{Q:Value->Shared->Prop}(I:Inv X pins σ H s)(hg:Gl X x)(hm:X.mg x=none)(hv:Zxw x=some u)(h:Q u s)
  (hn:x ≠ "__name__":=by decide) (hd:(x==("__debug__":Str))=false:=by decide):wpAny (model X.prog X.w) X.A (eval (.Name x pos) X.env) Q E s:=by
 obtain⟨mb,h1,h2⟩:=I.mod.blt;exact ZAj I.ok.kind hg (Calls.loadGlobal_builtin (by rw[I.ok.glob]; exact I.mod.glob.keeps I.bk) hm (by rw[I.ok.blt]; exact h1.keeps I.bk) ((h2 x hn).trans hv) h) hd
theorem Zox{x:Str}{v:V}{u:Value}{pos:Pos}(hg:Gl X x)(hm:X.mg x=some u)(r:RelV v u)(hd:(x==("__debug__":Str))=false:=by decide):PE X (.Name x pos) (tC v) :=
 λ_ _ _ H _ I h=>ZjT I hg hm ⟨v,H,I,r,h⟩ hd
theorem ZsC{x:Str}{v:V}{u:Value}{pos:Pos}(hg:Gl X x)(hm:X.mg x=none)(hv:Zxw x=some u)(r:RelV v u)(hn:x ≠ "__name__":=by decide)(hd:(x==("__debug__":Str))=false:=by decide):PE X (.Name x pos) (tC v) :=
 λ_ _ _ H _ I h=>Zgi I hg hm hv ⟨v,H,I,r,h⟩ hn hd
variable{a b:Expr}{ta tb:TE}{pos:Pos}
def PC(X:Cx)(op:CmpOp)(a b:Expr)(t:TE):Prop :=
 ∀(pins:List (Addr × Obj)) (s:Shared) (σ:St) (H:Hp) (Q:VK),Inv X pins σ H s->t σ H Q ->
  wpAny (model X.prog X.w) X.A (eval a X.env) (λv s₁=>wpAny (model X.prog X.w) X.A (eval b X.env) (λu s₂=>wpAny (model X.prog X.w) X.A (Zx6 op v u) (EP X pins σ Q) X.xe s₂) X.xe s₁) X.xe s
theorem Zi5(b:Expr){op:CmpOp}(h:op≠.In)(h2:op≠.NotIn):Zyn op b=false:=by
 have e1:(op==CmpOp.In)=false:=by cases op<;>first | rfl | exact absurd rfl h
 have e2:(op==CmpOp.NotIn)=false:=by cases op<;>first | rfl | exact absurd rfl h2
 cases b<;>simp[Zyn,e1,e2]
def tB(t:TE):TT:=λσ H Q=>t σ H λx H1=>∃c,x=.bl c/\Q c H1
theorem Zl6{op:CmpOp}{t:TE}(h:PC X op a b t)(h1:Zyn op b=false:=by first | exact Zi5 _ (by decide) (by decide) | rfl):PT X (.Compare a [op] [b] pos) (tB t):=by intro pins s σ H Q I hw;refine wpAny_isTrue_Compare1 (thn (h pins s σ H _ I hw) λv s1 h1=>thn h1 λu s2 h2=>thn h2 λc s3 ⟨x,H1,I1,r1,q1⟩=>?_) h1;obtain⟨d,rfl,q⟩:=q1;cases r1;exact Zx7 ⟨H1,I1,q⟩
theorem Zt1{e:Expr}{t:TE}(h:PE X e t)(he:∀whole,isTrue e X.env whole=(do let v <-whole; standAt e.pos; holding [v] (truthy v)):=by intro _; rfl):PT X e (tB t):=by intro pins s σ H Q I hw;refine isTrue_plain (thn (h pins s σ H _ I hw) λv s1 ⟨x,H1,I1,r1,q1⟩=>?_) (he _);obtain⟨d,rfl,q⟩:=q1;cases r1;exact Zx7 ⟨H1,I1,q⟩
variable{tA tB':TT}{rest:List Expr}
def Zf1(t u:TT):TT:=λσ H Q=>t σ H λc H1=>if c=true then u σ H1 Q else Q false H1
def tOr(t u:TT):TT:=λσ H Q=>t σ H λc H1=>if c=true then Q true H1 else u σ H1 Q
def ZeG(t:TT):TT:=λσ H Q=>t σ H λc H1=>Q (!c) H1
theorem ZsJ(ha:PT X a tA):PW X (.BoolOp .And [a] pos) tA:=by
 intro wh pins s σ H Q I h;refine isTrue_and (thn (ha pins s σ H Q I h) λc s1 e=>?_);cases c with
 | true=>exact isTrue_and_nil e
 | false=>exact e
theorem ZuG(ha:PT X a tA):PW X (.BoolOp .Or [a] pos) tA:=by
 intro wh pins s σ H Q I h;refine isTrue_or (thn (ha pins s σ H Q I h) λc s1 e=>?_);cases c with
 | false=>exact isTrue_or_nil e
 | true=>exact e
theorem Zq3(ha:PT X a tA)(hb:PW X (.BoolOp .And (b::rest) pos) tB'):PW X (.BoolOp .And (a::b::rest) pos) (Zf1 tA tB'):=by
 intro wh pins s σ H Q I h;refine isTrue_and (thn (ha pins s σ H _ I h) λc s1 ⟨H1,I1,q1⟩=>?_);cases c with
 | true=>exact hb wh pins s1 σ H1 Q I1 q1
 | false=>exact⟨H1,I1,q1⟩
theorem Zst(ha:PT X a tA)(hb:PW X (.BoolOp .Or (b::rest) pos) tB'):PW X (.BoolOp .Or (a::b::rest) pos) (tOr tA tB'):=by
 intro wh pins s σ H Q I h;refine isTrue_or (thn (ha pins s σ H _ I h) λc s1 ⟨H1,I1,q1⟩=>?_);cases c with
 | true=>exact⟨H1,I1,q1⟩
 | false=>exact hb wh pins s1 σ H1 Q I1 q1
theorem Zt4(ha:PT X a tA):PT X (.UnaryOp .Not a pos) (ZeG tA):=by intro pins s σ H Q I h;exact isTrue_not (thn (ha pins s σ H (λc H1=>Q (!c) H1) I h) λ_ _ ⟨H',I',q'⟩=>⟨H',I',q'⟩)
def Zvq(ta tb:TE):TE:=λσ H Q=>ta σ H λx H1=>∃c,x=.bl c/\if c=true then tb σ H1 Q else Q (.bl false) H1
def Zvn(ta:TE):TE:=λσ H Q=>ta σ H λx H1=>∃c,x=.bl c/\Q (.bl (!c)) H1
theorem Zt0{op}{t:TE}(h:PE X a t):PE X (.BoolOp op [a] pos) t:=λpins s σ H Q I hw=>BoolOp_one (h pins s σ H Q I hw)
theorem Zqd(ha:PE X a ta)(hb:PE X (.BoolOp .And (b::rest) pos) tb):PE X (.BoolOp .And (a::b::rest) pos) (Zvq ta tb):=by
 intro pins s σ H Q I h;refine BoolOp_and (thn (ha pins s σ H _ I h) λv s1 ⟨x,H1,I1,r1,q1⟩=>?_);obtain⟨c,rfl,q1⟩:=q1;cases r1;refine Zx7 ?_;cases c with
 | true=>exact hb pins s1 σ H1 Q I1 q1
 | false=>exact⟨.bl false,H1,I1,rfl,q1⟩
theorem Zur(ha:PE X a ta):PE X (.UnaryOp .Not a pos) (Zvn ta):=by intro pins s σ H Q I h;refine UnaryOp_ (thn (ha pins s σ H _ I h) λv s1 ⟨x,H1,I1,r1,q1⟩=>?_);obtain⟨c,rfl,q1⟩:=q1;cases r1;exact not_of (Zx7 ⟨.bl (!c),H1,I1,rfl,q1⟩)
def tIf(t:TT)(ta tb:TE):TE:=λσ H Q=>t σ H λc H1=>if c=true then ta σ H1 Q else tb σ H1 Q
theorem ZmO{c:Expr}(hc:PT X c tA)(ha:PE X a ta)(hb:PE X b tb):PE X (.IfExp c a b pos) (tIf tA ta tb):=by
 intro pins s σ H Q I h;refine wpAny_IfExp (thn (hc pins s σ H _ I h) λd s1 ⟨H1,I1,q1⟩=>?_);cases d with
 | true=>exact ha pins s1 σ H1 Q I1 q1
 | false=>exact hb pins s1 σ H1 Q I1 q1
end
end L2
namespace L2
open PySem PySem.Spec PyProof.Rows
def SqL(K:ZwC)(H:Hp)(a:Addr)(xs:List V):Prop :=
 Rd H a (.lst xs) \/
  ∃(o:Obj) (its:Array Value) (n:Nat),K.lookup a=some o/\o.cls=.type "list"/\o.dict=none/\o.data=.seq its n/\its.size<=sizeLine/\Vals xs its.toList
def SqT(K:ZwC)(H:Hp)(a:Addr)(xs:List V):Prop :=
 Rd H a (.tup xs) \/
  ∃(o:Obj) (its:Array Value) (n:Nat),K.lookup a=some o/\o.cls=.type "tuple"/\o.data=.seq its n/\its.size<=sizeLine/\Vals xs its.toList
def Zv5:Value->Option V
 | .none=>some .non
 | .bool b=>some (.bl b)
 | .int i _=>some (.int i)
 | .str x _=>some (.str x)
 | .bytes b _=>some (.byt b)
 | .float b _=>some (.flt b)
 | .ref a=>some (.ref a)
 | .type n=>some (.ty n)
 | _=>none
theorem RelV.abs{x:V}{u:Value}(r:RelV x u):Zv5 u=some x:=by
 cases x with
 | non=>cases r; rfl
 | bl _=>cases r; rfl
 | int _=>obtain⟨t,rfl⟩:=r; rfl
 | str _=>obtain⟨t,rfl⟩:=r; rfl
 | byt _=>obtain⟨t,rfl⟩:=r; rfl
 | flt _=>obtain⟨t,rfl⟩:=r; rfl
 | ref _=>cases r; rfl
 | ty _=>cases r; rfl
theorem RelV.inj{x y:V}{u:Value}(r:RelV x u)(q:RelV y u):x=y:=Zxx (r.abs.symm.trans q.abs)
theorem Vals.inj:∀{xs ys:List V} {us:List Value},Vals xs us->Vals ys us->xs=ys
 | _,_,_,.nil,.nil=>rfl
 | _,_,_,.cons r t,.cons r' t'=>by rw[r.inj r',Vals.inj t t']
section
variable{X:Cx}{pins:List (Addr × Obj)}{σ:St}{H:Hp}{s:Shared}{a:Addr}{xs ys:List V}
theorem SqL.of{K:ZwC}(h:H a=some (.lst xs)):SqL K H a xs:=.inl (.inl h)
theorem SqT.of{K:ZwC}(h:H a=some (.tup xs)):SqT K H a xs:=.inl (.inl h)
theorem Inv.list(I:Inv X pins σ H s)(h:SqL X.K H a xs):∃its:List Value,Vals xs its/\PlainL s.heap a its.toArray/\xs.length<=sizeLine:=by
 rcases h with h | ⟨o,its,n,hk,hc,hd,hs,hz,r⟩
 ·obtain⟨z,its,n,r,e⟩:=h.ok I.hok
  exact⟨its,r,⟨_,n,e,rfl,rfl,rfl⟩,z⟩
 ·refine⟨its.toList,r,⟨o,n,I.kIn a o hk,hc,hd,by simpa using hs⟩,?_⟩
  have e:=r.length;simp only[Zw5]at e;omega
theorem Inv.tuple(I:Inv X pins σ H s)(h:SqT X.K H a xs):∃its:List Value,Vals xs its/\IsTup s.heap a its.toArray/\xs.length<=sizeLine:=by
 rcases h with h | ⟨o,its,n,hk,hc,hs,hz,r⟩
 ·obtain⟨z,its,r,p⟩:=h.ok I.hok
  exact⟨its,r,p,z⟩
 ·refine⟨its.toList,r,⟨o,I.kIn a o hk,hc,n,by simpa using hs⟩,?_⟩
  have e:=r.length;simp only[Zw5]at e;omega
theorem Inv.list_inj(I:Inv X pins σ H s)(h:SqL X.K H a xs)(h':SqL X.K H a ys):xs=ys:=by
 obtain⟨its,r,⟨o,n,e,_,_,d⟩,_⟩:=I.list h;obtain⟨its',r',⟨o',n',e',_,_,d'⟩,_⟩:=I.list h';rw[e]at e'; cases e';rw[d]at d';injection d' with d1 _
 have:its=its':=by simpa using congrArg Array.toList d1
 subst this;exact r.inj r'
theorem Inv.tuple_inj(I:Inv X pins σ H s)(h:SqT X.K H a xs)(h':SqT X.K H a ys):xs=ys:=by
 obtain⟨its,r,⟨o,e,_,n,d⟩,_⟩:=I.tuple h;obtain⟨its',r',⟨o',e',_,n',d'⟩,_⟩:=I.tuple h';rw[e]at e'; cases e';rw[d]at d';injection d' with d1 _
 have:its=its':=by simpa using congrArg Array.toList d1
 subst this;exact r.inj r'
end
abbrev Cx.wish(X:Cx)(E:Value->Shared->Prop):Cx:={ X with xe:=E }
abbrev Cx.nox(X:Cx):Cx:=X.wish λ_ _=>False
theorem Cx.Ok.wish{X:Cx}(ok:X.Ok)(E:Value->Shared->Prop):(X.wish E).Ok :=
 ⟨ok.mod,ok.kind,ok.glob,ok.blt,ok.above,ok.inj,ok.has,ok.cab,ok.hd,ok.frames,ok.stk,ok.exf,ok.bs,ok.bsz,ok.noex,ok.exfs,ok.funs,ok.frf⟩
theorem Cx.Ok.unwish{X:Cx}{E:Value->Shared->Prop}(ok:(X.wish E).Ok):X.Ok :=
 ⟨ok.mod,ok.kind,ok.glob,ok.blt,ok.above,ok.inj,ok.has,ok.cab,ok.hd,ok.frames,ok.stk,ok.exf,ok.bs,ok.bsz,ok.noex,ok.exfs,ok.funs,ok.frf⟩
section
variable{X:Cx}{pins:List (Addr × Obj)}{σ:St}{H:Hp}{s:Shared}{E:Value->Shared->Prop}
theorem Inv.wish(I:Inv X pins σ H s)(E:Value->Shared->Prop):Inv (X.wish E) pins σ H s:=⟨I.ok.wish E,I.os,I.bare,I.base,I.loc,I.cell,I.free,I.freeC,I.pin,I.hok,I.len⟩
theorem Inv.unwish(I:Inv (X.wish E) pins σ H s):Inv X pins σ H s:=⟨I.ok.unwish,I.os,I.bare,I.base,I.loc,I.cell,I.free,I.freeC,I.pin,I.hok,I.len⟩
theorem SP.unwish{D:Ends}{f:Flow}{s':Shared}(h:SP (X.wish E) pins D f s'):SP X pins D f s':=by
 cases f with
 | next=>obtain⟨σ',H',I,q⟩:=h; exact⟨σ',H',I.unwish,q⟩
 | brk=>obtain⟨σ',H',I,q⟩:=h; exact⟨σ',H',I.unwish,q⟩
 | cont=>obtain⟨σ',H',I,q⟩:=h; exact⟨σ',H',I.unwish,q⟩
 | ret u=>obtain⟨v,σ',H',I,r,q⟩:=h; exact⟨v,σ',H',I.unwish,r,q⟩
theorem PSs.nox{st:List Stmt}{t:TS}(h:PSs X.nox st t):PSs X st t:=λpins s σ H D I hw=>ZxQ (h pins s σ H D (I.wish _) hw) (λ_ _ q=>q.unwish) λ_ _ z=>ZxF z
end
section
variable{X:Cx}{st:Stmt}{rest:List Stmt}{t u:TS}{e:Expr}{te:TE}{pos:Pos}
def Zvs:TS:=λD σ H=>D.nx σ H
def ZvW(t u:TS):TS:=λD σ H=>t { D with nx:=u D } σ H
theorem ZsG:PSs X [] Zvs:=λ_ _ σ H _ I h=>ZzU ⟨σ,H,I,h⟩
theorem ZgY(h1:PS X st t)(h2:PSs X rest u):PSs X (st::rest) (ZvW t u):=by
 intro pins s σ H D I h;refine wpAny_execs_cons (thn (h1 pins s σ H { D with nx:=u D } I h) λf s1 q=>?_);cases f with
 | next=>obtain⟨σ',H',I',q⟩:=q;exact h2 pins s1 σ' H' D I' q
 | ret v=>exact q
 | brk=>exact q
 | cont=>exact q
theorem Zob(h1:PS X st t):PSs X [st] t:=by
 intro pins s σ H D I h;refine wpAny_execs_cons (thn (h1 pins s σ H D I h) λf s1 q=>?_);cases f with
 | next=>exact ZzU q
 | ret v=>exact q
 | brk=>exact q
 | cont=>exact q
theorem Inv.quiet{pins:List (Addr × Obj)}{σ:St}{H:Hp}{s:Shared}(I:Inv X pins σ H s):interactive X.env=false:=by simp[interactive,I.ok.kind]
def Zvc(te:TE):TS:=λD σ H=>te σ H λ_ H1=>D.nx σ H1
theorem Zid(he:PE X e te)(hs:Zy1 e none pos.line X.env=pure false:=by rfl):PS X (.Expr e pos) (Zvc te):=by intro pins s σ H D I h;exact wpAny_Expr_any (thn (he pins s σ H _ I h) λv s1 ⟨x,H1,I1,r1,q1⟩=>⟨σ,H1,I1,q1⟩) I.quiet hs
def Zv8(te:TE):TS:=λD σ H=>te σ H D.rt
theorem ZmV(he:PE X e te):PS X (.Return (some e) pos) (Zv8 te):=by intro pins s σ H D I h;exact wpAny_Return_some (thn (he pins s σ H _ I h) λv s1 ⟨x,H1,I1,r1,q1⟩=>⟨x,σ,H1,I1,r1,q1⟩)
def Zwf(c:TT)(t u:TS):TS:=λD σ H=>c σ H λb H1=>if b=true then t D σ H1 else u D σ H1
theorem Zsp{c:Expr}{a b:List Stmt}{tc:TT}(hc:PT X c tc)(ha:PSs X a t)(hb:PSs X b u):PS X (.If c a b pos) (Zwf tc t u):=by
 intro pins s σ H D I h;refine wpAny_If (thn (hc pins s σ H _ I h) λd s1 ⟨H1,I1,q1⟩=>?_);cases d with
 | true=>exact ha pins s1 σ H1 D I1 q1
 | false=>exact hb pins s1 σ H1 D I1 q1
def Zt6:TS:=λ_ _ _=>False
theorem ZfF{sts:List Stmt}:PSs X sts Zt6:=λ_ _ _ _ _ _ h=>h.elim
end
abbrev TG:=V->St->Hp->(St->Hp->Prop)->Prop
def PG(X:Cx)(target:Expr)(t:TG):Prop :=
 ∀(pins:List (Addr × Obj)) (s:Shared) (σ:St) (H:Hp) (v:V) (u:Value) (Q:St->Hp->Prop),Inv X pins σ H s->RelV v u->t v σ H Q ->
  wpAny (model X.prog X.w) X.A (assign target X.env u) (λ_ s'=>∃σ' H',Inv X pins σ' H' s'/\Q σ' H') X.xe s
abbrev ZrL:=V->V->V->Hp->(Hp->Prop)->Prop
def Zuz(X:Cx)(t:ZrL):Prop :=
 ∀(pins:List (Addr × Obj)) (s:Shared) (σ:St) (H:Hp) (o i v:V) (ov iv u:Value) (Q:Hp->Prop),Inv X pins σ H s->RelV o ov->RelV i iv->RelV v u->t o i v H Q ->
  wpAny (model X.prog X.w) X.A (setItem ov iv u) (λ_ s'=>∃H',Inv X pins σ H' s'/\Q H') X.xe s
section
variable{X:Cx}{pos:Pos}
def Zsw(i:Nat):TG:=λv σ H Q=>Q (σ.set i (some v)) H
theorem ZoA{i:Nat}{x:Str}(hN:X.N.Nodup)(hi:X.N[i]?=some x)(hx:Loc X.env.scope x)(hf:X.fn x=true\/X.env.scope.names.lookup x=some .local:=by first | exact .inl rfl | exact .inr rfl | assumption):PG X (.Name x pos) (Zsw i):=by intro pins s σ H v u Q I r h;exact wpAny_assign_Name (ZmW I hN hi hx r (λs' I'=>⟨_,H,I',h⟩) hf)
def ZjV(to ti:TE)(t:ZrL):TG:=λv σ H Q=>to σ H λo H1=>ti σ H1 λi H2=>t o i v H2 λH3=>Q σ H3
theorem ZuM{o i:Expr}{to ti:TE}{t:ZrL}(ho:PE X o to)(hi:PE X i ti)(hs:Zuz X t)
  (ha:∀v,assign (.Subscript o i pos) X.env v=(do
   let ov <-holding [v] (eval o X.env)
   let iv <-holding [v,ov] (eval i X.env)
   standAt pos
   holding [v,ov,iv] (setItem ov iv v)
   release [v,ov,iv] []):=by intro _; rfl):PG X (.Subscript o i pos) (ZjV to ti t):=by
 intro pins s σ H v u Q I r h;rw[ha];refine ZwB (ZxM (thn (ho pins s σ H _ I h) λov s1 ⟨x,H1,I1,r1,q1⟩=>?_));refine ZwB (ZxM (thn (hi pins s1 σ H1 _ I1 q1) λiv s2 ⟨y,H2,I2,r2,q2⟩=>?_));refine ZwB (wpAny_standAt (ZwB (ZxM (thn (hs pins s2 σ H2 x y v ov iv u _ I2 r1 r2 r q2) λ_ s3 ⟨H3,I3,q3⟩=>?_))));exact wpAny_release ⟨σ,H3,I3,q3⟩
def ZtZ(te:TE)(g:TG):TS:=λD σ H=>te σ H λx H1=>g x σ H1 D.nx
theorem ZuZ{tg e:Expr}{te:TE}{g:TG}(he:PE X e te)(hg:PG X tg g)(hs:swapsWithSole [tg] e pos.line X.env=pure false:=by rfl)(hw:swappedStores [tg] e X.env=pure none:=by rfl)
  (h1:(assignEach [tg] X.env).map (·.2)=[assign tg X.env]:=by rfl):PS X (.Assign [tg] e pos) (ZtZ te g):=by
 intro pins s σ H D I h;refine wpAny_Assign_stores (thn (he pins s σ H _ I h) λv s1 ⟨x,H1,I1,r1,q1⟩=>?_) hs hw;rw[h1];exact thn (hg pins s1 σ H1 x v _ I1 r1 q1) λ_ s2 ⟨σ',H',I',q'⟩=>⟨σ',H',I',q'⟩
theorem Zmp{i:Nat}{x:Str}{e:Expr}{te:TE}{pos':Pos}(hN:X.N.Nodup)(hi:X.N[i]?=some x)(hx:Loc X.env.scope x)(he:PE X e te)(hs:Zy1 e (some (.Name x pos')) pos.line X.env=pure false:=by rfl)(hf:X.fn x=true\/X.env.scope.names.lookup x=some .local:=by first | exact .inl rfl | exact .inr rfl | assumption) :
  PS X (.Assign [.Name x pos'] e pos) (ZtZ te (Zsw i)):=by
 intro pins s σ H D I h;refine wpAny_Assign_Name (thn (he pins s σ H _ I h) λv s1 ⟨y,H1,I1,r1,q1⟩=>?_) hs;exact ZmW I1 hN hi hx r1 (λs2 I2=>⟨_,H1,I2,q1⟩) hf
end
section
variable{X:Cx}{pos:Pos}
def Zut(c:TT)(tb:TS):TS:=λD σ H=>∃W:Nat->St->Hp->Prop,(∃m,W m σ H)/\∀m σ H,W m σ H ->
 c σ H λb H1=>if b=true then ∃N:St->Hp->Prop,(∀σ' H',N σ' H'->∃m',m'<m/\W m' σ' H')/\tb { D with nx:=N,ct:=N,bk:=D.nx } σ H1 else D.nx σ H1
theorem Zrs{c:Expr}{body:List Stmt}{tc:TT}{tb:TS}(hp:PassesOwn (model X.prog X.w) X.A X.env X.xe)(hc:PT X c tc)(hb:PSs X body tb):PS X (.While c body [] pos) (Zut tc tb):=by
 intro pins s σ H D I h;obtain⟨W,⟨m0,w0⟩,turn⟩:=h;refine wpAny_While (codeAny_whileLoop (λn s'=>∃σ' H',Inv X pins σ' H' s'/\W n σ' H') ?_ m0 ⟨σ,H,I,w0⟩)
 rintro n s1 ⟨σ1,H1,I1,w1⟩
 refine ZyC hp (thn (hc pins s1 σ1 H1 _ I1 (turn n σ1 H1 w1)) λb s2 ⟨H2,I2,q2⟩=>?_);cases b with
 | true =>
  obtain⟨N,hN,q2⟩:=q2;rw[if_pos rfl];refine ZyC hp (thn (hb pins s2 σ1 H2 _ I2 q2) λf s3 q3=>?_);cases f with
  | next=>obtain⟨σ3,H3,I3,n3⟩:=q3;obtain⟨m',hm,w3⟩:=hN σ3 H3 n3;exact⟨m',hm,σ3,H3,I3,w3⟩
  | cont=>obtain⟨σ3,H3,I3,n3⟩:=q3;obtain⟨m',hm,w3⟩:=hN σ3 H3 n3;exact⟨m',hm,σ3,H3,I3,w3⟩
  | brk=>exact q3
  | ret v=>exact q3
 | false=>rw[if_neg Zxi];exact ZzU ⟨σ1,H2,I2,q2⟩
end
structure It where
 go:Nat->Hp->Prop
 yld:Nat->Hp->V->Hp->Prop
 stop:Nat->Hp->Prop
def Zft(X:Cx)(pins:List (Addr × Obj))(H:Hp)(b:Addr):Prop :=
 H b=none/\b≠X.env.locals/\b ∉ X.fs/\(b∈X.ex\/X.s₀.heap.objs.size<=b)/\(∀x c,X.env.cells.lookup x=some c->c≠b)/\∀p∈X.pn++pins,p.1≠b
theorem Inv.fpOk{X:Cx}{pins:List (Addr × Obj)}{σ:St}{H H':Hp}{s:Shared}{b:Addr}(I:Inv X pins σ H s)(hb:s.heap.objs.size<=b)(hn:H' b=none):Zft X pins H' b:=by
 refine⟨hn,Zzo (Zw6 I.lt hb),I.nofs hb,.inr (Zxr I.sz hb),λx c e z=>?_,λp hp z=>?_⟩
 ·obtain⟨v,q⟩:=I.cell x c e
  exact absurd (Zw6 q.lt (by rw[z]; exact hb)) (Zym _)
 ·exact absurd (Zw6 (ZwU (I.pin p hp).1) (by rw[z]; exact hb)) (Zym _)
structure Turn(P:Program)(w:World)(K:ZwC)(tg:Expr)(J:It)(fp:List Addr)(it:Addr)(tn:Nat->Heap->Prop):Prop where
 mem:it∈fp
 obj:∀i h,tn i h->∀b∈fp,∃o,h.get? b=some o/\∀v,o.data≠.cell v
 keep:∀i h h',tn i h->(∀b∈fp,∀o,h.get? b=some o->h'.get? b=some o)->tn i h'
 item:∀(X:Cx),X.prog=P->X.w=w->X.K=K->X.calm=true->∀(i:Nat) (pins:List (Addr × Obj)) (s:Shared) (σ:St) (H:Hp) (E:Value->Shared->Prop),Inv X pins σ H s->(∀b∈fp,Zft X pins H b)->tn i s.heap->J.go i H ->
  wpAny (model P w) X.A (pyNext (.ref it)) (λr s1=>∃u,r=some u /\
   wpAny (model P w) X.A (ZzV tg (.ref it) u) (λ_ s2=>∃x H',Inv X pins σ H' s2/\RelV x u/\J.yld i H x H'/\tn (i+1) s2.heap/\∀b∈fp,H' b=none) E s1) E s
 done:∀(X:Cx),X.prog=P->X.w=w->X.K=K->X.calm=true->∀(i:Nat) (pins:List (Addr × Obj)) (s:Shared) (σ:St) (H:Hp) (E:Value->Shared->Prop),Inv X pins σ H s->(∀b∈fp,Zft X pins H b)->tn i s.heap->J.stop i H ->
  wpAny (model P w) X.A (pyNext (.ref it)) (λr s1=>r=none/\Inv X pins σ H s1) E s
 self:∀(A:Around) (i:Nat) (s:Shared) (Q:Value->Shared->Prop) (E:Value->Shared->Prop),tn i s.heap->Q (.ref it) s->wpAny (model P w) A (pyIter (.ref it)) Q E s
abbrev TI:=St->Hp->(It->Hp->Prop)->Prop
def PIE(X:Cx)(pins:List (Addr × Obj))(σ:St)(tg:Expr)(R:It->Hp->Prop)(itv:Value)(s2:Shared):Prop :=
 ∃(it:Addr) (fp:List Addr) (tn:Nat->Heap->Prop) (J:It) (H':Hp),itv=.ref it/\Inv X pins σ H' s2/\Turn X.prog X.w X.K tg J fp it tn/\tn 0 s2.heap/\(∀b∈fp,Zft X pins H' b)/\R J H'
def PI(X:Cx)(tg iter:Expr)(wi:TI):Prop :=
 ∀(pins:List (Addr × Obj)) (s:Shared) (σ:St) (H:Hp) (R:It->Hp->Prop),Inv X pins σ H s->wi σ H R ->
  wpAny (model X.prog X.w) X.A (eval iter X.env) (λv s1=>wpAny (model X.prog X.w) X.A (pyIter v) (PIE X pins σ tg R) X.xe s1) X.xe s
theorem Zlr{M:Model}{A:Around}{E:Value->Shared->Prop}{s:Shared}{tg:Expr}{it:Addr}{u:Value}{o:Obj}{n:String}{vs:Array Value}{Q:Unit->Shared->Prop}(ho:s.heap.get? it=some o)(hc:o.cls=.type n)(hd:o.data=.fields vs)
    (hn:["enumerate","zip","dict_itemiterator","dict_reverseitemiterator","odict_iterator","itertools.zip_longest","itertools.pairwise"].contains n=false) (hQ:Q () s):wpAny M A (ZzV tg (.ref it) u) Q E s:=by
  unfold ZzV
  cases tg<;>first
    | exact ZwF hQ
    | (cases u<;>first
        | exact ZwF hQ
        | (refine ZwB (wpAny_load ho ?_)
           rw [hc, hd]
           show wpAny M A (if (["enumerate", "zip", "dict_itemiterator", "dict_reverseitemiterator", "odict_iterator", "itertools.zip_longest", "itertools.pairwise"].contains n && vs[0]? == some (rawInt _)) = true then _ else _) Q E s
           rw [if_neg (by intro h; rw [hn, Bool.false_and] at h; cases h)]
           exact ZwF hQ))
def Itl(K:ZwC)(a:Addr):It :=
 ⟨λi H=>∃xs x,SqL K H a xs/\xs[i]?=some x,λi H x H'=>H'=H/\∀xs,SqL K H a xs->xs[i]?=some x,λi H=>∃xs,SqL K H a xs/\xs.length<=i⟩
def Itt(K:ZwC)(a:Addr):It :=
 ⟨λi H=>∃xs x,SqT K H a xs/\xs[i]?=some x,λi H x H'=>H'=H/\∀xs,SqT K H a xs->xs[i]?=some x,λi H=>∃xs,SqT K H a xs/\xs.length<=i⟩
def Itr(lo:Int)(n:Nat):It:=⟨λi _=>i<n,λi H x H'=>H'=H/\x=.int (lo+i),λi _=>n<=i⟩
theorem Zq1{P:Program}{w:World}{K:ZwC}{tg:Expr}(a it:Addr):Turn P w K tg (Itl K a) [it] it (λi h=>h.IsListIter it a i) where
 mem:=by simp
 obj:=λi h st b hb=>by
  have e:b=it:=by simpa using hb
  subst e;obtain⟨o,e,c,d⟩:=st;exact⟨o,e,λv z=>by rw[d]at z; cases z⟩
 keep:=λi h h' st k=>st.at λo e=>k it (by simp) o e
 item:=by intro X hP hw hK hc i pins s σ H E I hf st hg;subst hP hw hK;obtain⟨xs,x,hq,hx⟩:=hg;obtain⟨its,rv,p,hz⟩:=I.list hq;obtain⟨u,hu,ru⟩:=rv.get hx;obtain⟨f0,f1,f2,f3,f4,f5⟩:=hf it (by simp);refine wpAny_pyNext_list_item st p.isList (x:=u) (by simpa using hu) λh' st' sb=>?_;have I1:Inv X pins σ H { s with heap:=h' }:=I.turned (t':=s.toks) (λb o hb e=>(sb.2 b hb).trans e) f0 f1 f3 f4 f5;obtain⟨o,e,c,d⟩:=id st';exact⟨u,rfl,Zlr (s:={ s with heap:=h' }) e c d (by decide) ⟨x,H,I1,ru,⟨rfl,λys hy=>by rw[I.list_inj hy hq]; exact hx⟩,st',λb hb=>(hf b hb).1⟩⟩
 done:=by intro X hP hw hK hc i pins s σ H E I hf st hg;subst hP hw hK;obtain⟨xs,hq,hx⟩:=hg;obtain⟨its,rv,p,hz⟩:=I.list hq;obtain⟨f0,f1,f2,f3,f4,f5⟩:=hf it (by simp);have hl:=rv.length;exact wpAny_pyNext_list_end (I.ok.hd hc) st p.isList (by simp; omega) λh' eb=>⟨rfl,I.turned (t':=s.toks) (λb o hb e=>eb b o hb e) f0 f1 f3 f4 f5⟩
 self:=λ_ _ _ _ _ st h=>wpAny_pyIter_listiter st h
theorem ZpG{P:Program}{w:World}{K:ZwC}{tg:Expr}(a it:Addr):Turn P w K tg (Itt K a) [it] it (λi h=>h.IsTupleIter it a i) where
 mem:=by simp
 obj:=λi h st b hb=>by
  have e:b=it:=by simpa using hb
  subst e;obtain⟨o,e,c,d⟩:=st;exact⟨o,e,λv z=>by rw[d]at z; cases z⟩
 keep:=λi h h' st k=>st.at λo e=>k it (by simp) o e
 item:=by intro X hP hw hK hc i pins s σ H E I hf st hg;subst hP hw hK;obtain⟨xs,x,hq,hx⟩:=hg;obtain⟨its,rv,p,hz⟩:=I.tuple hq;obtain⟨u,hu,ru⟩:=rv.get hx;obtain⟨f0,f1,f2,f3,f4,f5⟩:=hf it (by simp);refine wpAny_pyNext_tuple_item st (show s.heap.IsTuple a its.toArray from p) (x:=u) (by simpa using hu) λh' st' sb=>?_;have I1:Inv X pins σ H { s with heap:=h' }:=I.turned (t':=s.toks) (λb o hb e=>(sb.2 b hb).trans e) f0 f1 f3 f4 f5;obtain⟨o,e,c,d⟩:=id st';exact⟨u,rfl,Zlr (s:={ s with heap:=h' }) e c d (by decide) ⟨x,H,I1,ru,⟨rfl,λys hy=>by rw[I.tuple_inj hy hq]; exact hx⟩,st',λb hb=>(hf b hb).1⟩⟩
 done:=by intro X hP hw hK hc i pins s σ H E I hf st hg;subst hP hw hK;obtain⟨xs,hq,hx⟩:=hg;obtain⟨its,rv,p,hz⟩:=I.tuple hq;obtain⟨f0,f1,f2,f3,f4,f5⟩:=hf it (by simp);have hl:=rv.length;exact wpAny_pyNext_tuple_end (I.ok.hd hc) st (show s.heap.IsTuple a its.toArray from p) (by simp; omega) λh' eb=>⟨rfl,I.turned (t':=s.toks) (λb o hb e=>eb b o hb e) f0 f1 f3 f4 f5⟩
 self:=λ_ _ _ _ _ st h=>wpAny_pyIter_tupleiter st h
theorem ZoY{P:Program}{w:World}{K:ZwC}{tg:Expr}(it:Addr)(lo:Int)(n:Nat):Turn P w K tg (Itr lo n) [it] it (λi h=>IsRangeIter h it (lo+(i:Nat)*1) ((n:Int)-(i:Nat)) 1) where
 mem:=by simp
 obj:=λi h st b hb=>by
  have e:b=it:=by simpa using hb
  subst e;exact⟨_,st,λv z=>by have z':Data.fields _=Data.cell v:=z;cases z'⟩
 keep:=λi h h' st k=>k it (by simp) _ st
 item:=by intro X hP hw hK hc i pins s σ H E I hf st hg;subst hP hw hK;obtain⟨f0,f1,f2,f3,f4,f5⟩:=hf it (by simp);have W:=Walks.range (prog:=X.prog) (w:=X.w) (I.ok.hd hc) it lo 1 n;refine W.item i s _ _ hg st λv h' tk hv st' kk=>?_;obtain⟨t,rfl⟩:=hv;have I1:Inv X pins σ H { s with heap:=h',toks:=tk }:=I.turned (λb o hb e=>kk b o (by simpa using hb) e) f0 f1 f3 f4 f5;refine⟨_,rfl,Zlr (s:={ s with heap:=h',toks:=tk }) (n:="range_iterator") st' rfl rfl (by decide) ⟨.int (lo+i),H,I1,⟨t,?_⟩,⟨rfl,rfl⟩,st',λb hb=>(hf b hb).1⟩⟩;rw[Int.mul_one]
 done:=by intro X hP hw hK hc i pins s σ H E I hf st hg;subst hP hw hK;obtain⟨f0,f1,f2,f3,f4,f5⟩:=hf it (by simp);exact wpAny_pyNext_range_end (I.ok.hd hc) st (by have:n<=i:=hg; omega) λh' eb=>⟨rfl,I.turned (t':=s.toks) (λb o hb e=>eb b o hb e) f0 f1 f3 f4 f5⟩
 self:=λ_ _ _ _ _ st h=>wpAny_pyIter_rangeiter st h
end L2
namespace L2
open PySem PySem.Spec PyProof.Rows
section
variable{X:Cx}{tg:Expr}
theorem ZmH{pins:List (Addr × Obj)}{σ:St}{H:Hp}{s:Shared}{R:It->Hp->Prop}{E:Value->Shared->Prop}{lo hi:Int}{t u v:Tok}{tk:Nat}(I:Inv X pins σ H s)(h1:-(2 ^ 62)<=lo)(h2:lo<2 ^ 62)(h3:-(2 ^ 62)<=hi)(h4:hi<2 ^ 62)
  (q:R (Itr lo (hi-lo).toNat) H):wpAny (model X.prog X.w) X.A (pyIter (.ref s.heap.objs.size)) (PIE X pins σ tg R) E { s with heap:=s.heap.push { cls:=.type "range",data:=.fields #[.int lo t,.int hi u,.int 1 v] },toks:=tk }:=by
 refine wpAny_pyIter_range (IsRange.new ..) (small_one h1 h2 h3 h4) ?_;have I1:Inv X pins σ H { s with heap:=s.heap.push { cls:=.type "range",data:=.fields #[.int lo t,.int hi u,.int 1 v] },toks:=tk }:=I.kept λb o e=>ZwH _ e;refine⟨(s.heap.push { cls:=.type "range",data:=.fields #[.int lo t,.int hi u,.int 1 v] }).objs.size,[(s.heap.push { cls:=.type "range",data:=.fields #[.int lo t,.int hi u,.int 1 v] }).objs.size],_,_,H,rfl,
  I1.kept (t':=tk) λb o e=>ZwH _ e,ZoY _ lo (hi-lo).toNat,?_,λb hb=>?_,q⟩
 ·have e1:lo+((0:Nat):Int)*1=lo:=by simp
  have e2:(((hi-lo).toNat:Nat):Int)-((0:Nat):Int)=ZyV lo hi 1:=by rw[rangeSize_one]; split<;>omega
  show IsRangeIter _ _ (lo+((0:Nat):Int)*1) ((((hi-lo).toNat:Nat):Int)-((0:Nat):Int)) 1;rw[e1,e2];exact ZwX _ rfl
 ·have e:b=(s.heap.push { cls:=.type "range",data:=.fields #[.int lo t,.int hi u,.int 1 v] }).objs.size:=by simpa using hb
  subst e;exact I1.fpOk (ZwM _) (I1.hok.fresh (ZwM _))
def Zbp(ta:TA):TI:=λσ H R=>ta σ H λvs H1=>∃j:Int,vs=[.int j]/\-(2 ^ 62)<=j/\j<2 ^ 62/\R (Itr 0 j.toNat) H1
def Zh5(ta:TA):TI:=λσ H R=>ta σ H λvs H1=>∃i j:Int,vs=[.int i,.int j]/\(-(2 ^ 62)<=i/\i<2 ^ 62/\-(2 ^ 62)<=j/\j<2 ^ 62)/\R (Itr i (j-i).toNat) H1
theorem ZpZ{a:Expr}{ta:TA}{p pos:Pos}(hg:Gl X "range")(hm:X.mg "range" = none)(ha:PA X [a] ta)(hs:ZwP [a] X.env=[(false,eval a X.env)]:=by rfl):PI X tg (.Call (.Name "range" p) [a] [] pos) (Zbp ta):=by
 intro pins s σ H R I h;refine Call_ (Zgi I hg hm boot_range (Zze (thn (ha pos pins s σ H _ I h) λus s1 ⟨vs,H1,I1,r1,q1⟩=>?_) hs rfl));obtain⟨j,e,q1,q2,q⟩:=q1;subst e;cases r1 with
 | cons r rr=>cases rr;obtain⟨t,rfl⟩:=r;exact call_range_1 (ZmH I1 (by omega) (by omega) q1 q2 (by simpa using q))
theorem ZqY{a b:Expr}{ta:TA}{p pos:Pos}(hg:Gl X "range")(hm:X.mg "range" = none)(ha:PA X [a,b] ta)(hs:ZwP [a,b] X.env=[(false,eval a X.env),(false,eval b X.env)]:=by rfl)(hs2:ZwP [b] X.env=[(false,eval b X.env)]:=by rfl) :
  PI X tg (.Call (.Name "range" p) [a,b] [] pos) (Zh5 ta):=by
 intro pins s σ H R I h;refine Call_ (Zgi I hg hm boot_range (Zze (thn (ha pos pins s σ H _ I h) λus s1 ⟨vs,H1,I1,r1,q1⟩=>?_) (by rw[hs,hs2]) (by rw[hs2]; rfl)));obtain⟨i,j,e,⟨q1,q2,q3,q4⟩,q⟩:=q1;subst e;cases r1 with
 | cons r rr =>
  cases rr with
  | cons r' rr=>cases rr;obtain⟨t,rfl⟩:=r;obtain⟨t',rfl⟩:=r';exact call_range_2 (ZmH I1 q1 q2 q3 q4 q)
def Zv9(wi:TI)(g:TG)(tb:TS):TS:=λD σ H=>wi σ H λJ H1=>∃W:Nat->Nat->St->Hp->Prop,(∃m,W 0 m σ H1)/\∀i m σ H,W i m σ H ->
 (J.stop i H/\D.nx σ H)\/(J.go i H/\∃N:St->Hp->Prop,(∀σ' H',N σ' H'->∃m',m'<m/\W (i+1) m' σ' H')/\∀x H',J.yld i H x H'->g x σ H' λσ2 H2=>tb { D with nx:=N,ct:=N,bk:=D.nx } σ2 H2)
def ZhN(fp:List Addr)(h:Heap):List (Addr × Obj):=fp.filterMap λb=>(h.get? b).map λo=>(b,o)
theorem ZeS{fp:List Addr}{h:Heap}{b:Addr}{o:Obj}(hb:b∈fp)(e:h.get? b=some o):(b,o)∈ZhN fp h:=ZxW.mpr ⟨b,hb,by rw[e]; rfl⟩
theorem Zqw{fp:List Addr}{h:Heap}{p:Addr × Obj}(hp:p∈ZhN fp h):p.1∈fp/\h.get? p.1=some p.2:=by
 obtain⟨b,hb,e⟩:=ZxW.mp hp;cases q:h.get? b with
 | none=>rw[q]at e; cases e
 | some o=>rw[q]at e;have e':(b,o)=p:=Zxx e;subst e';exact⟨hb,q⟩
theorem Inv.pinned{pins:List (Addr × Obj)}{σ:St}{H:Hp}{s:Shared}{fp:List Addr}(I:Inv X pins σ H s)(hf:∀b∈fp,Zft X pins H b)(ho:∀b∈fp,∃o,s.heap.get? b=some o/\∀v,o.data≠.cell v):Inv X (pins++ZhN fp s.heap) σ H s :=
 I.pins_of λp hp=>(Zxc.mp hp).elim (λz=>I.pin p (Zw7 _ z)) λz=>by obtain⟨hb,e⟩:=Zqw z;obtain⟨f0,f1,f2,_⟩:=hf p.1 hb;obtain⟨o,e',d⟩:=ho p.1 hb;rw[e]at e'; cases e';exact⟨e,f0,f1,f2,d⟩
theorem Inv.unpinned{pins pl:List (Addr × Obj)}{σ:St}{H:Hp}{s:Shared}(I:Inv X (pins++pl) σ H s):Inv X pins σ H s:=I.pins_of λp hp=>I.pin p (Zw7 _ (ZxE _ hp))
theorem Zu2{iter:Expr}{body:List Stmt}{wi:TI}{g:TG}{tb:TS}{pos:Pos}(hp:PassesOwn (model X.prog X.w) X.A X.env X.xe)(hc:X.calm=true)(hi:PI X tg iter wi)(hg:PG X tg g)(hb:PSs X body tb)
  (hs:∀x,ZyK iter X.env x=pure x:=by intro _; rfl):PS X (.For tg iter body [] pos) (Zv9 wi g tb):=by
 intro pins s σ H D I h;refine wpAny_For (thn (hi pins s σ H _ I h) λv s1 h1=>thn h1 λitv s2 h2=>?_) hs;obtain⟨it,fp,tn,J,H2,e,I2,T,st2,f2,W,⟨m0,w0⟩,turn⟩:=h2;subst e;have stat:∀{H':Hp},(∀b∈fp,H' b=none)->∀b∈fp,Zft X pins H' b:=λhn b hb=>⟨hn b hb,(f2 b hb).2⟩;refine codeAny_forLoop_any (λn s'=>∃i σ' H',Inv X pins σ' H' s'/\tn i s'.heap/\(∀b∈fp,H' b=none)/\W i n σ' H') ?_ m0 ⟨0,σ,H2,I2,st2,λb hb=>(f2 b hb).1,w0⟩
 rintro n s3 ⟨i,σ3,H3,I3,st3,fr3,w3⟩
 rcases turn i n σ3 H3 w3 with⟨stop,qn⟩ | ⟨go,N,hN,step⟩
 ·refine ZyC hp (thn (T.done X rfl rfl rfl hc i pins s3 σ3 H3 X.xe I3 (stat fr3) st3 stop) λr s4 ⟨hr,I4⟩=>?_)
  subst hr;exact ZzU ⟨σ3,H3,I4,qn⟩
 ·refine ZyC hp (thn (T.item X rfl rfl rfl hc i pins s3 σ3 H3 X.xe I3 (stat fr3) st3 go) λr s4 ⟨u,hr,h4⟩=>?_)
  subst hr;refine ZyC hp (thn h4 λ_ s5 ⟨x,H5,I5,r5,y5,st5,fr5⟩=>?_);have I5':=I5.pinned (stat fr5) (T.obj _ _ st5);refine ZyC hp (thn (hg _ s5 σ3 H5 x u _ I5' r5 (step x H5 y5)) λ_ s6 ⟨σ6,H6,I6,q6⟩=>?_);refine ZyC hp (thn (hb _ s6 σ6 H6 _ I6 q6) λf s7 q7=>?_);have again:∀{σ7:St} {H7:Hp},Inv X (pins++ZhN fp s5.heap) σ7 H7 s7->N σ7 H7->∃m,m<n/\∃i σ' H',Inv X pins σ' H' s7/\tn i s7.heap/\(∀b∈fp,H' b=none)/\W i m σ' H':=λ{σ7 H7} I7 n7=>by obtain⟨m',hm,w7⟩:=hN σ7 H7 n7;refine⟨m',hm,i+1,σ7,H7,I7.unpinned,T.keep _ _ _ st5 λb hb o e=>(I7.pin (b,o) (Zw7 _ (Zw7 _ (ZeS hb e)))).1,λb hb=>?_,w7⟩;obtain⟨o,e,d⟩:=T.obj _ _ st5 b hb;exact(I7.pin (b,o) (Zw7 _ (Zw7 _ (ZeS hb e)))).2.1
  cases f with
  | next=>obtain⟨σ7,H7,I7,n7⟩:=q7; exact again I7 n7
  | cont=>obtain⟨σ7,H7,I7,n7⟩:=q7; exact again I7 n7
  | brk=>obtain⟨σ7,H7,I7,q7⟩:=q7; exact⟨σ7,H7,I7.unpinned,q7⟩
  | ret v=>obtain⟨x7,σ7,H7,I7,r7,q7⟩:=q7; exact⟨x7,σ7,H7,I7.unpinned,r7,q7⟩
end
end L2
namespace L2
open PySem PySem.Spec PyProof.Rows
abbrev R2:=V->V->Hp->VK->Prop
def OpR(X:Cx)(f:Value->Value->Sem Value)(r:R2):Prop :=
 ∀(pins:List (Addr × Obj)) (s:Shared) (σ:St) (H:Hp) (x y:V) (v u:Value) (Q:VK),Inv X pins σ H s->RelV x v->RelV y u->r x y H Q ->
  wpAny (model X.prog X.w) X.A (f v u) (EP X pins σ Q) X.xe s
def ZaF(X:Cx)(f:Value)(r:List V->Hp->VK->Prop):Prop :=
 ∀(pins:List (Addr × Obj)) (s:Shared) (σ:St) (H:Hp) (xs:List V) (us:List Value) (Q:VK),Inv X pins σ H s->Vals xs us->r xs H Q ->
  wpAny (model X.prog X.w) X.A (call f us) (EP X pins σ Q) X.xe s
def Zwl(X:Cx)(r:V->Hp->(Bool->Hp->Prop)->Prop):Prop :=
 ∀(pins:List (Addr × Obj)) (s:Shared) (σ:St) (H:Hp) (x:V) (v:Value) (Q:Bool->Hp->Prop),Inv X pins σ H s->RelV x v->r x H Q ->
  wpAny (model X.prog X.w) X.A (truthy v) (TP X pins σ Q) X.xe s
def tOp(r:R2)(ta tb:TE):TE:=λσ H Q=>ta σ H λx H1=>tb σ H1 λy H2=>r x y H2 Q
def rI(C:Int->Int->Prop)(g:Int->Int->V):R2:=λx y H Q=>∃i j,x=.int i/\y=.int j/\C i j/\Q (g i j) H
def rI0(g:Int->Int->V):R2:=λx y H Q=>∃i j,x=.int i/\y=.int j/\Q (g i j) H
section
variable{X:Cx}{a b c:Expr}{ta tb tc:TE}{pos:Pos}
theorem Zsd(ha:PE X a ta)(hb:PE X b tb){pins:List (Addr × Obj)}{s:Shared}{σ:St}{H:Hp}{R:V->V->Hp->Prop}(I:Inv X pins σ H s)
  (h:ta σ H λx H1=>tb σ H1 λy H2=>R x y H2) {Q:Value->Shared->Prop} {f:Value->Value->Sem Value}
  (hf:∀v u s2 x y H2,Inv X pins σ H2 s2->RelV x v->RelV y u->R x y H2->wpAny (model X.prog X.w) X.A (f v u) Q X.xe s2) :
  wpAny (model X.prog X.w) X.A (eval a X.env) (λv s₁=>wpAny (model X.prog X.w) X.A (eval b X.env) (λu s₂=>wpAny (model X.prog X.w) X.A (f v u) Q X.xe s₂) X.xe s₁) X.xe s:=by
 refine thn (ha pins s σ H _ I h) λv s1 ⟨x,H1,I1,r1,q1⟩=>?_;refine thn (hb pins s1 σ H1 _ I1 q1) λu s2 ⟨y,H2,I2,r2,q2⟩=>?_;exact hf v u s2 x y H2 I2 r1 r2 q2
theorem ZpI{op:Operator}{r:R2}(ho:OpR X (ZzN op) r)(ha:PE X a ta)(hb:PE X b tb):PE X (.BinOp a op b pos) (tOp r ta tb):=by intro pins s σ H Q I h;exact wpAny_BinOp (Zsd ha hb I h λv u s2 x y H2 I2 rx ry q=>ho pins s2 σ H2 x y v u Q I2 rx ry q)
theorem opI{f:Value->Value->Sem Value}{C:Int->Int->Prop}{g:Int->Int->Int}
  (rule:∀(i j:Int) (t u:Tok) (s:Shared) (Q:Value->Shared->Prop) (E:Value->Shared->Prop),C i j->Q (.int (g i j) s.toks) { s with toks:=s.toks+1 }->wpAny (model X.prog X.w) X.A (f (.int i t) (.int j u)) Q E s) :
  OpR X f (rI C λi j=>.int (g i j)):=by
 intro pins s σ H x y v u Q I rx ry h;obtain⟨i,j,rfl,rfl,hc,q⟩:=h;obtain⟨t,rfl⟩:=rx;obtain⟨t',rfl⟩:=ry;exact rule i j t t' s _ _ hc ⟨.int (g i j),H,I.tok _,⟨_,rfl⟩,q⟩
theorem ZtS{f:Value->Value->Sem Value}{g:Int->Int->Int}
  (rule:∀(i j:Int) (t u:Tok) (s:Shared) (Q:Value->Shared->Prop) (E:Value->Shared->Prop),Q (.int (g i j) s.toks) { s with toks:=s.toks+1 }->wpAny (model X.prog X.w) X.A (f (.int i t) (.int j u)) Q E s) :
  OpR X f (rI0 λi j=>.int (g i j)):=by
 intro pins s σ H x y v u Q I rx ry h;obtain⟨i,j,rfl,rfl,q⟩:=h;obtain⟨t,rfl⟩:=rx;obtain⟨t',rfl⟩:=ry;exact rule i j t t' s _ _ ⟨.int (g i j),H,I.tok _,⟨_,rfl⟩,q⟩
theorem ZrB{f:Value->Value->Sem Value}{g:Int->Int->Bool}
  (rule:∀(i j:Int) (t u:Tok) (s:Shared) (Q:Value->Shared->Prop) (E:Value->Shared->Prop),Q (.bool (g i j)) s->wpAny (model X.prog X.w) X.A (f (.int i t) (.int j u)) Q E s) :
  OpR X f (rI0 λi j=>.bl (g i j)):=by
 intro pins s σ H x y v u Q I rx ry h;obtain⟨i,j,rfl,rfl,q⟩:=h;obtain⟨t,rfl⟩:=rx;obtain⟨t',rfl⟩:=ry;exact rule i j t t' s _ _ ⟨.bl (g i j),H,I,rfl,q⟩
def Zpj(i j:Int):Prop:=(-(2 ^ 64)<i/\i<2 ^ 64)\/(-(2 ^ 64)<j/\j<2 ^ 64)
theorem Zpj.ok{i j:Int}(h:Zpj i j):IntMulOk i j:=by
 rcases h with⟨h1,h2⟩ | ⟨h1,h2⟩
 ·exact .of_left (intBits_le_64 h1 h2)
 ·exact .of_right (intBits_le_64 h1 h2)
theorem Zt7:OpR X (ZzN .Add) (rI0 λi j=>.int (i+j)):=ZtS λ_ _ _ _ _ _ _ q=>add_int q
theorem Zt5:OpR X (ZzN .Sub) (rI0 λi j=>.int (i-j)):=ZtS λ_ _ _ _ _ _ _ q=>sub_int q
theorem ZuL:OpR X (ZzN .Mult) (rI Zpj λi j=>.int (i*j)):=opI λ_ _ _ _ _ _ _ hc q=>mul_int q hc.ok
theorem Zun:OpR X (ZzN .Mod) (rI (λ_ j=>0<j) λi j=>.int (i % j)):=opI λi j _ _ _ _ _ hc q=>by have h1:(0:Int)<j:=hc;exact mod_int' (by omega) (by rw[Int.fmod_eq_emod_of_nonneg i (by omega)]; exact q)
end
section
variable{X:Cx}{a b c:Expr}{ta tb tc:TE}{pos:Pos}
theorem ZqK{pins:List (Addr × Obj)}{σ:St}{H:Hp}{s:Shared}{Q:VK}{k k':Bool}(I:Inv X pins σ H s)(q:Q (.bl k) H)(e:k=k'):EP X pins σ Q (.bool k') s:=by subst e;exact⟨.bl k,H,I,rfl,q⟩
theorem Zvy:OpR X (Zx6 .Lt) (rI0 λi j=>.bl (decide (i<j))):=ZrB λ_ _ _ _ _ _ _ q=>lt_int q
theorem Zvw:OpR X (Zx6 .LtE) (rI0 λi j=>.bl (decide (i<=j))):=ZrB λ_ _ _ _ _ _ _ q=>le_int q
theorem Zvg:OpR X (Zx6 .Gt) (rI0 λi j=>.bl (decide (j<i))):=ZrB λ_ _ _ _ _ _ _ q=>gt_int q
theorem ZuF:OpR X (Zx6 .Is) (λx y H Q=>y=.non/\Q (.bl (decide (x=.non))) H):=by
 intro pins s σ H x y v u Q I rx ry h;obtain⟨rfl,q⟩:=h;cases ry;refine is_none_gen (ZqK I q ?_);cases x<;>first
  | (cases rx; rfl)
  | (obtain⟨t,rfl⟩:=rx; rfl)
theorem Ztz:OpR X (Zx6 .IsNot) (λx y H Q=>y=.non/\Q (.bl (!decide (x=.non))) H):=by
 intro pins s σ H x y v u Q I rx ry h;obtain⟨rfl,q⟩:=h;cases ry;refine isnot_none_gen (ZqK I q ?_);cases x<;>first
  | (cases rx; rfl)
  | (obtain⟨t,rfl⟩:=rx; rfl)
theorem ZoC{op:CmpOp}{r:R2}(ho:OpR X (Zx6 op) r)(ha:PE X a ta)(hb:PE X b tb)(hm:Zyn op b=false):PE X (.Compare a [op] [b] pos) (tOp r ta tb):=by intro pins s σ H Q I h;exact wpAny_Compare1 (Zsd ha hb I h λv u s2 x y H2 I2 rx ry q=>ho pins s2 σ H2 x y v u Q I2 rx ry q) hm
def Zvk(t:TE):TT:=λσ H Q=>t σ H λx H'=>∃k,x=.bl k/\Q k H'
theorem ZsD{op:CmpOp}{r:R2}(ho:OpR X (Zx6 op) r)(ha:PE X a ta)(hb:PE X b tb)(hm:Zyn op b=false):PT X (.Compare a [op] [b] pos) (Zvk (tOp r ta tb)):=by intro pins s σ H Q I h;refine wpAny_isTrue_Compare1 (thn (ha pins s σ H _ I h) λv s1 ⟨x,H1,I1,r1,q1⟩=>thn (hb pins s1 σ H1 _ I1 q1) λu s2 ⟨y,H2,I2,r2,q2⟩=>thn (ho pins s2 σ H2 x y v u _ I2 r1 r2 q2) λc s3 ⟨z,H3,I3,r3,k,e,q3⟩=>?_) hm;subst e;cases r3;exact Zx7 ⟨H3,I3,q3⟩
def ZuT(r r':R2)(ta tb tc:TE):TE:=λσ H Q=>ta σ H λx H1=>tb σ H1 λy H2=>r x y H2 λz H3=>∃k,z=.bl k /\
 (if k=true then tc σ H3 λw' H4=>r' y w' H4 Q else Q (.bl false) H3)
theorem Zmx{op op':CmpOp}{r r':R2}(ho:OpR X (Zx6 op) r)(ho':OpR X (Zx6 op') r')(ha:PE X a ta)(hb:PE X b tb)(hc:PE X c tc)
  (hm:lastMarks [op,op'] [b,c]=false:=by with_unfolding_all rfl):PE X (.Compare a [op,op'] [b,c] pos) (ZuT r r' ta tb tc):=by
 intro pins s σ H Q I h;refine Compare_chain (thn (ha pins s σ H _ I h) λv s1 ⟨x,H1,I1,r1,q1⟩=>chain_link (thn (hb pins s1 σ H1 _ I1 q1) λu s2 ⟨y,H2,I2,r2,q2⟩=>thn (ho pins s2 σ H2 x y v u _ I2 r1 r2 q2) λd s3 ⟨z,H3,I3,r3,k,e,q3⟩=>?_)) hm;subst e;cases r3;refine Zx7 ?_;cases k with
 | false=>exact ite_ff ⟨.bl false,H3,I3,rfl,q3⟩
 | true=>exact ite_tt (chain_last (thn (hc pins s3 σ H3 _ I3 q3) λw' s4 ⟨z',H4,I4,r4,q4⟩=>ho' pins s4 σ H4 y z' u w' Q I4 r2 r4 q4))
def Zu5(K:ZwC)(x:V)(H:Hp)(k:Bool):Prop :=
 match x with
 | .non=>k=false
 | .bl b=>k=b
 | .int i=>k=(i != 0)
 | .str y=>y.length<=sizeLine/\k=((y.length:Int) != 0)
 | .byt y=>y.size<=sizeLine/\k=((y.size:Int) != 0)
 | .ref p=>(∃xs,SqL K H p xs/\k=!xs.isEmpty)\/(∃xs,SqT K H p xs/\k=!xs.isEmpty)\/∃kvs,H p=some (.dK kvs)/\k=!kvs.isEmpty
 | _=>False
theorem Zpl{κ:Type}{kvs:List (κ × V)}{vs:List (κ × Value)}(r:KV kvs vs):(!vs.isEmpty)=!kvs.isEmpty:=by cases r<;>rfl
theorem Zju{xs:List V}{its:List Value}(r:Vals xs its):(!its.toArray.isEmpty)=!xs.isEmpty:=by cases r<;>simp
theorem Zgn:(sizeLine:Nat)<2 ^ 63:=by rw[ZxU]; decide
theorem Zuc:Zwl X (λx H Q=>∃k,Zu5 X.K x H k/\Q k H):=by
 intro pins s σ H x v Q I rx h;obtain⟨k,e,q⟩:=h;have hl:=Zgn;have hs:sizeLine=16777216:=ZxU;cases x with
 | non=>cases rx;have e':k=false:=e;subst e';exact truthy_none ⟨H,I,q⟩
 | bl b=>cases rx;have e':k=b:=e;subst e';exact Zx7 ⟨H,I,q⟩
 | int i=>obtain⟨t,rfl⟩:=rx;have e':k=(i != 0):=e;subst e';exact PySem.P.truthy_int ⟨H,I,q⟩
 | str y=>obtain⟨t,rfl⟩:=rx;obtain⟨hy,e'⟩:y.length<=sizeLine/\k=((y.length:Int) != 0):=e;subst e';exact PySem.P.truthy_str (by omega) ⟨H,I.tok _,q⟩
 | byt y=>obtain⟨t,rfl⟩:=rx;obtain⟨hy,e'⟩:y.size<=sizeLine/\k=((y.size:Int) != 0):=e;subst e';exact PySem.W.truthy_bytes (by omega) ⟨H,I.tok _,q⟩
 | ref p =>
  cases rx;have e':(∃xs,SqL X.K H p xs/\k=!xs.isEmpty)\/(∃xs,SqT X.K H p xs/\k=!xs.isEmpty)\/∃kvs,H p=some (.dK kvs)/\k=!kvs.isEmpty:=e;rcases e' with⟨xs,hx,e'⟩ | ⟨xs,hx,e'⟩ | ⟨kvs,hx,e'⟩
  ·subst e'
   obtain⟨its,r,pl,hz⟩:=I.list hx;have hlen:=r.length;exact wpAny_truthy_list pl.isList (by simp only[ZwV]; omega) ⟨H,I.tok _,by rw[Zju r]; exact q⟩
  ·subst e'
   obtain⟨its,r,pl,hz⟩:=I.tuple hx;have hlen:=r.length;exact truthy_tuple pl (by simp only[ZwV]; omega) ⟨H,I.tok _,by rw[Zju r]; exact q⟩
  ·subst e'
   obtain⟨hz,hS,vs,r,m⟩:kvs.length<=sizeLine/\(p==ZxX)=false/\∃vs,KV kvs vs/\s.heap.DictOf (Zaf X.prog X.w) p vs:=I.hok p _ hx;have hlen:kvs.length=vs.length:=ZyG r;exact wpAny_truthy_dict hS m (by omega) ⟨H,I.tok _,by rw[Zpl r]; exact q⟩
 | _=>exact(show False from e).elim
theorem Zr2(ha:PE X a ta)(he:∀whole,isTrue a X.env whole=(do let v <-whole; standAt a.pos; holding [v] (truthy v))) :
  PT X a (λσ H Q=>ta σ H λx H'=>∃k,Zu5 X.K x H' k/\Q k H'):=by
 intro pins s σ H Q I h;exact isTrue_plain (thn (ha pins s σ H _ I h) λv s1 ⟨x,H1,I1,r1,q1⟩=>Zuc pins s1 σ H1 x v Q I1 r1 q1) (he _)
theorem vals1{x:V}{us:List Value}(r:Vals [x] us):∃u,us=[u]/\RelV x u:=by
 cases r with
 | cons r1 r2=>cases r2; exact⟨_,rfl,r1⟩
theorem vals2{x y:V}{us:List Value}(r:Vals [x,y] us):∃u w',us=[u,w']/\RelV x u/\RelV y w':=by
 cases r with
 | cons r1 r2 =>
  cases r2 with
  | cons r3 r4=>cases r4; exact⟨_,_,rfl,r1,r3⟩
theorem ZqG(hc:X.calm=true):ZaF X (.builtin "max") (λxs H Q=>∃i j,xs=[.int i,.int j]/\Q (.int (if j > i then j else i)) H):=by
 intro pins s σ H xs us Q I r h;obtain⟨i,j,rfl,q⟩:=h;obtain⟨u,w',rfl,⟨t,rfl⟩,⟨t',rfl⟩⟩:=vals2 r;refine max_two_ints (I.ok.hd hc) λh' tk k=>⟨_,H,I.kept k,?_,q⟩
 by_cases hj:j > i
 ·rw[if_pos hj,if_pos hj]; exact⟨_,rfl⟩
 ·rw[if_neg hj,if_neg hj]; exact⟨_,rfl⟩
theorem ZqP(hc:X.calm=true):ZaF X (.builtin "min") (λxs H Q=>∃i j,xs=[.int i,.int j]/\Q (.int (if j<i then j else i)) H):=by
 intro pins s σ H xs us Q I r h;obtain⟨i,j,rfl,q⟩:=h;obtain⟨u,w',rfl,⟨t,rfl⟩,⟨t',rfl⟩⟩:=vals2 r;refine min_two_ints (I.ok.hd hc) λh' tk k=>⟨_,H,I.kept k,?_,q⟩
 by_cases hj:j<i
 ·rw[if_pos hj,if_pos hj]; exact⟨_,rfl⟩
 ·rw[if_neg hj,if_neg hj]; exact⟨_,rfl⟩
theorem ZkL:ZaF X (.type "int") (λxs H Q=>(∃i,xs=[.int i]/\Q (.int i) H)\/∃k,xs=[.bl k]/\Q (.int (if k then 1 else 0)) H):=by
 intro pins s σ H xs us Q I r h;rcases h with⟨i,rfl,q⟩ | ⟨k,rfl,q⟩
 ·obtain⟨u,rfl,t,rfl⟩:=vals1 r
  exact call_int_int ⟨.int i,H,I,⟨_,rfl⟩,q⟩
 ·obtain⟨u,rfl,r1⟩:=vals1 r
  cases r1;exact call_int_bool ⟨.int (if k then 1 else 0),H,I.tok _,⟨_,rfl⟩,q⟩
end
end L2
namespace L2
open PySem PySem.Spec PyProof.Rows
theorem Zf3.some_of{v:V}{o:Option Value}(r:Zf3 (some v) o):∃u,o=some u/\RelV v u:=by
 cases o with
 | none=>exact(show False from r).elim
 | some u=>exact⟨u,rfl,r⟩
end L2
namespace L2
open PySem PySem.Spec PyProof.Rows
structure Zah(k:Nat)(A:Around):Prop where
 hd:A.handled=none
 dp:A.depth+3*k+5<recursionLimit
 un:A.units+16*k+200<cLine
theorem Zah.mono{j k:Nat}{A:Around}(r:Zah k A)(h:j<=k):Zah j A:=⟨r.hd,by have:=r.dp; omega,by have:=r.un; omega⟩
theorem Zah.deeper{k:Nat}{A:Around}(r:Zah (k+1) A)(env:Env):Zah k (A.deeper env) :=
 ⟨r.hd,by have:=r.dp; show A.depth+1+3*k+5<_; omega,by have:=r.un; show A.units+3+16*k+200<_; omega⟩
theorem Zah.depth{k:Nat}{A:Around}(r:Zah k A):A.depth<recursionLimit:=by have:=r.dp; omega
theorem Zah.units{k:Nat}{A:Around}(r:Zah k A):A.units+64<cLine:=by have:=r.un; omega
def ZvZ:TA:=λ_ H Q=>Q [] H
def Zvt(ta:TE)(tr:TA):TA:=λσ H Q=>ta σ H λx H1=>tr σ H1 λxs H2=>Q (x::xs) H2
section
variable{X:Cx}{e:Expr}{es:List Expr}{te:TE}{t:TA}{pos:Pos}
theorem Zbm:PA X [] ZvZ:=λ_ _ _ _ H Q I h=>Calls.spliced_nil ⟨[],H,I,.nil,h⟩
theorem Z5(ha:PE X e te)(hr:PA X es t)(hs:ZwP (e::es) X.env=(false,eval e X.env)::ZwP es X.env:=by rfl):PA X (e::es) (Zvt te t):=by intro pos pins s σ H Q I h;rw[hs];show wpAny _ _ (spliced ((false,eval e X.env)::backTo pos (ZwP es X.env))) _ _ s;refine ZAd (thn (ha pins s σ H _ I h) λu s1 ⟨x,H1,I1,r1,q1⟩=>?_);exact thn (hr pos pins s1 σ H1 _ I1 q1) λus s2 ⟨xs,H2,I2,r2,q2⟩=>⟨x::xs,H2,I2,.cons r1 r2,q2⟩
def Zwo(t:TA):TE:=λσ H Q=>t σ H λxs H1=>xs.length<=sizeLine/\∀p,H1 p=none->Q (.ref p) (upd H1 p (.tup xs))
def Zhw(t:TA):TE:=λσ H Q=>t σ H λxs H1=>xs.length<=sizeLine/\∀p,H1 p=none->Q (.ref p) (upd H1 p (.lst xs))
theorem Zub{x1}(h:PA X es t):PE X (.Tuple es x1 pos) (Zwo t):=by intro pins s σ H Q I hq;refine wpAny_Tuple_spliced (thn (h pos pins s σ H _ I hq) λus s1 ⟨xs,H1,I1,r,z,q⟩=>⟨by rw[<-r.length]; exact z,?_⟩);have hf:H1 s1.heap.objs.size=none:=I1.hok.fresh (ZwM _);refine⟨.ref s1.heap.objs.size,upd H1 s1.heap.objs.size (.tup xs),I1.laid (t':=s1.toks) (λb u e=>ZwH _ e) (ZwM _) ?_,rfl,q _ hf⟩;exact⟨z,us,r,⟨_,ZwX _ rfl,rfl,_,rfl⟩⟩
theorem Zud(h:PA X es t):PE X (.List es pos) (Zhw t):=by intro pins s σ H Q I hq;refine wpAny_List_spliced (thn (h pos pins s σ H _ I hq) λus s1 ⟨xs,H1,I1,r,z,q⟩=>⟨by rw[<-r.length]; exact z,?_⟩);have hf:H1 s1.heap.objs.size=none:=I1.hok.fresh (ZwM _);refine⟨.ref s1.heap.objs.size,upd H1 s1.heap.objs.size (.lst xs),I1.laid (t':=s1.toks) (λb u e=>ZwH _ e) (ZwM _) ?_,rfl,q _ hf⟩;exact⟨z,us,0,r,ZwX _ rfl⟩
end
abbrev Sp:=List V->Hp->VK->XK->Prop
abbrev CXT:=List Env->Hp->Shared->XK->Value->Shared->Prop
structure Zd4(P:Program)(w:World)(K:ZwC)(mg:Str->Option Value)(base:Heap)(A:Around)(outer:List Env)(s:Shared)(H:Hp):Prop where
 frames:A.frames=some outer
 mod:Mod K mg base
 bs:∀b o,base.get? b=some o->s.heap.get? b=some o/\H b=none
 bsz:base.objs.size<=s.heap.objs.size
 funs:s.heap.FunFrames base outer
 frf:∀b∈frs outer,H b=none
 hok:HOk P w H s.heap
 bare:AllBare s.gens
def CE(outer:List Env)(P:Program)(w:World)(H:Hp)(s:Shared)(Q:VK)(u:Value)(s':Shared):Prop :=
 ∃v H',s'.os=s.os/\AllBare s'.gens/\Un (frs outer) [] H H' s.heap s'.heap/\HOk P w H' s'.heap/\RelV v u/\Q v H'
def CR(CX:CXT)(outer:List Env)(P:Program)(w:World)(H:Hp)(s:Shared)(Q:VK)(E:XK)(r:Result)(s':Shared):Prop :=
 match r with
 | .ok (.ret u)=>CE outer P w H s Q u s'
 | .ok _=>False
 | .error e=>CX outer H s E e s'
structure ZcL(P:Program)(w:World)(K:ZwC)(mg:Str->Option Value)(base:Heap)(CX:CXT)(k:Nat)(f:Addr)(fd:FuncData)(ps:List Str)(sp:Sp):Prop where
 len:∀vs H Q E,sp vs H Q E->vs.length=ps.length
 run:∀(A:Around) (outer:List Env) (s:Shared) (H:Hp) (args:Args) (us:List Value) (vs:List V) (Q:VK) (E:XK),Zah k A->Zd4 P w K mg base A outer s H->BindsTo s fd args (ps.zip us)->Vals vs us->sp vs H Q E ->
  codeAny (model P w) A (.call (.ref f) args) (CR CX outer P w H s Q E) s
theorem ZcL.mono{P:Program}{w:World}{K:ZwC}{mg:Str->Option Value}{base:Heap}{CX:CXT}{j k:Nat}{f:Addr}{fd:FuncData}{ps:List Str}{sp:Sp}(F:ZcL P w K mg base CX j f fd ps sp)(h:j<=k) :
  ZcL P w K mg base CX k f fd ps sp:=⟨F.len,λA outer s H args us vs Q E hr=>F.run A outer s H args us vs Q E (hr.mono h)⟩
section
variable{X:Cx}{pins:List (Addr × Obj)}{σ:St}{H:Hp}{s s':Shared}
theorem Inv.env0(I:Inv X pins σ H s):Zd4 X.prog X.w X.K X.mg X.base X.A X.stack s H :=
 ⟨I.ok.frames,I.ok.mod,I.bs,Zxr I.ok.bsz I.sz,I.stack,I.stkFree,I.hok,I.bare⟩
theorem Inv.after{Q:VK}{u:Value}(I:Inv X pins σ H s)(h:CE X.stack X.prog X.w H s Q u s'):EP X pins σ Q u s':=by obtain⟨v,H',os,bare,un,hok,r,q⟩:=h;obtain⟨hh,g,d,t,os'⟩:=s';obtain rfl:os'=s.os:=os;exact⟨v,H',I.call (h':=hh) (g':=g) (d':=d) (t':=t) (ch:=[]) un hok bare (λb z=>absurd z (by simp)),r,q⟩
end
def Zvm(sp:Sp)(dvs:List V)(E:XK)(t:TA):TE:=λσ H Q=>t σ H λvs H1=>sp (vs++dvs) H1 Q E
def Binds(K:ZwC)(fd:FuncData)(ps:List Str)(ds:List Value):Prop :=
 ∀(s:Shared) (us:List Value),K.In s.heap->(us++ds).length=ps.length->BindsTo s fd ⟨us,[]⟩ (ps.zip (us++ds))
theorem Binds.all{K:ZwC}{fd:FuncData}{ps:List Str}(h:∀us:List Value,us.length=ps.length->bindArgs fd ⟨us,[]⟩=pure (ps.zip us)):Binds K fd ps []:=λs us _ hl=>by rw[Zxe]at hl ⊢;exact .of_eq (h us hl)
def Passes(CX:CXT)(X:Cx)(E:XK):Prop:=∀(pins:List (Addr × Obj)) (σ:St) (H:Hp) (s:Shared) (e:Value) (s':Shared),Inv X pins σ H s->CX X.stack H s E e s'->X.xe e s'
section
variable{X:Cx}{CX:CXT}{k:Nat}{f C:Addr}{fd:FuncData}{ps:List Str}{sp:Sp}{dvs:List V}{ds:List Value}{E:XK}{x m:Str}{p pos apos:Pos}{e o:Expr}{es:List Expr}{ta:TE}{t:TA}
theorem Zt2{pins:List (Addr × Obj)}{σ:St}{H:Hp}{s:Shared}{Q:VK}{us:List Value}{vs:List V}(F:ZcL X.prog X.w X.K X.mg X.base CX k f fd ps sp)(hr:Zah k X.A)(hb:Binds X.K fd ps ds)(hd:Vals dvs ds)(hx:Passes CX X E)
  (I:Inv X pins σ H s) (r:Vals vs us) (h:sp (vs++dvs) H Q E):wpAny (model X.prog X.w) X.A (call (.ref f) us) (EP X pins σ Q) X.xe s:=by
 have r2:Vals (vs++dvs) (us++ds):=r.append hd;have hl:(us++ds).length=ps.length:=by rw[<-r2.length]; exact F.len _ _ _ _ h
 refine wpAny_call (ZyA (F.run X.A X.stack s H ⟨us,[]⟩ (us++ds) (vs++dvs) Q E hr I.env0 (hb s us I.kIn hl) r2 h) λr s' hq=>?_);cases r with
 | error e=>exact hx pins σ H s e s' I hq
 | ok fl =>
  cases fl with
  | ret u=>exact I.after hq
  | next=>exact ZxF hq
  | brk=>exact ZxF hq
  | cont=>exact ZxF hq
theorem Zj2(F:ZcL X.prog X.w X.K X.mg X.base CX k f fd ps sp)(hr:Zah k X.A)(hg:Gl X x)(hm:X.mg x=some (.ref f))(hk:Zx1 X.K (.ref f)=true)(hb:Binds X.K fd ps ds)(hd:Vals dvs ds)(hx:Passes CX X E)
  (ha:PA X (e::es) t) (hdb:(x==("__debug__":Str))=false:=by decide) (he:ZwP (e::es) X.env=(false,eval e X.env)::ZwP es X.env:=by rfl) (hpl:(backTo pos (ZwP es X.env)).any (·.1)=false:=by rfl) :
  PE X (.Call (.Name x p) (e::es) [] pos) (Zvm sp dvs E t):=by
 intro pins s σ H Q I h;refine ZyB (ZjT I hg hm ?_ hdb);refine ZBg (h₀:=X.base) I.ok.mod.kin hk (thn (ha pos pins s σ H _ I h) λus s1 ⟨vs,H1,I1,r,q⟩=>⟨I1.kIn,?_⟩) he hpl;exact Zt2 F hr hb hd hx I1 r q
end
structure Zw(N P:List Str)(sc:Scope):Prop where
 kind:sc.kind=.function
 co:sc.isCoroutine=false
 gen:sc.isGenerator=false
 nd:N.Nodup
 pre:N.take P.length=P
 par:∀x∈P,sc.names.lookup x=some .local\/sc.names.lookup x=some .cell
 nofree:∀y∈sc.names,y.2≠.free
theorem ZkG{kindOf:Str->Option NameKind}{x:Str}:∀{binds:List (Str × Value)} {m:Str->Option Value},(∀v,(x,v) ∉ binds)->bindL kindOf binds m x=m x
 | [],_,_=>rfl
 | (n,v)::r,m,h=>by
  unfold bindL;rw[ZkG λw hw=>h w (ZwJ _ hw)];split
  ·have:x≠n:=by rintro rfl; exact h v ZwI
   simp[this]
  ·rfl
theorem Zks{kindOf:Str->Option NameKind}{x:Str}:∀{binds:List (Str × Value)} {m:Str->Option Value},(∀v,(x,v) ∉ binds)->bindC kindOf binds m x=m x
 | [],_,_=>rfl
 | (n,v)::r,m,h=>by
  unfold bindC;rw[Zks λw hw=>h w (ZwJ _ hw)];split
  ·rfl
  ·have:x≠n:=by rintro rfl; exact h v ZwI
   simp[this]
theorem ZkC{kindOf:Str->Option NameKind}{x:Str}{v:Value}:∀{P:List Str} {vs:List Value} {i:Nat} {m:Str->Option Value},P.Nodup->P[i]?=some x->vs[i]?=some v->kindOf x=some .local ->
  bindL kindOf (P.zip vs) m x=some v
 | [],_,_,_,_,h,_,_=>by simp at h
 | _::_,[],_,_,_,_,h,_=>by simp at h
 | p::P,w::vs,0,m,nd,h1,h2,hk=>by simp at h1 h2; subst h1; subst h2;show bindL kindOf ((p,w)::P.zip vs) m p=_;unfold bindL;rw[ZkG λv hv=>(Zxs.mp nd).1 (ZAK hv).1,if_pos hk];simp
 | p::P,w::vs,i+1,m,nd,h1,h2,hk=>by show bindL kindOf ((p,w)::P.zip vs) m x=_;unfold bindL;exact ZkC (i:=i) (Zxs.mp nd).2 (by simpa using h1) (by simpa using h2) hk
theorem ZkB{kindOf:Str->Option NameKind}{x:Str}{v:Value}:∀{P:List Str} {vs:List Value} {i:Nat} {m:Str->Option Value},P.Nodup->P[i]?=some x->vs[i]?=some v->kindOf x≠some .local ->
  bindC kindOf (P.zip vs) m x=some v
 | [],_,_,_,_,h,_,_=>by simp at h
 | _::_,[],_,_,_,_,h,_=>by simp at h
 | p::P,w::vs,0,m,nd,h1,h2,hk=>by simp at h1 h2; subst h1; subst h2;show bindC kindOf ((p,w)::P.zip vs) m p=_;unfold bindC;rw[Zks λv hv=>(Zxs.mp nd).1 (ZAK hv).1,if_neg hk];simp
 | p::P,w::vs,i+1,m,nd,h1,h2,hk=>by show bindC kindOf ((p,w)::P.zip vs) m x=_;unfold bindC;exact ZkB (i:=i) (Zxs.mp nd).2 (by simpa using h1) (by simpa using h2) hk
def start(N:List Str)(vs:List V):St:=vs.map some++Zxa (N.length-vs.length) none
def Zfk(CX:CXT)(P:Program)(w:World)(K:ZwC)(mg:Str->Option Value)(base:Heap)(N:List Str)(qual:Str)(scope:Scope)(f:Addr)(cd:Value)(A:Around)(outer:List Env)(s:Shared)(H:Hp)(E:XK):Cx where
 prog:=P
 w:=w
 K:=K
 mg:=mg
 base:=base
 A:=A.deeper (envOfC qual scope s.heap.objs.size f cd)
 N:=N
 s₀:=s
 H₀:=H
 env:=envOfC qual scope s.heap.objs.size f cd
 outer:=outer
 stack:=envOfC qual scope s.heap.objs.size f cd::outer
 ex:=[]
 calm:=true
 fn:=λ_=>true
 pn:=[]
 xe:=λe s'=>wpAny (model P w) (A.deeper (envOfC qual scope s.heap.objs.size f cd)) (leaving (envOfC qual scope s.heap.objs.size f cd) e) (λ_ s''=>CX outer H s E e s'') (λe' s''=>CX outer H s E e' s'') s'
theorem Zl8{sc:Scope}{n:Nat}{x:Str}(h:sc.names.lookup x=some .cell):∃c,(cellsFrom n sc.names []).lookup x=some c:=by have q:=ZAR sc.names n [] (.inl h);exact Zxt.mp q
theorem Zqj{CX:CXT}{P:Program}{w:World}{K:ZwC}{mg:Str->Option Value}{base:Heap}{N ps:List Str}{qual:Str}{scope:Scope}{f:Addr}{cd:Value}{A:Around}{outer:List Env}{s s1:Shared}{H:Hp}{E:XK}{us:List Value}{vs:List V}
  (S:Zw N ps scope) (hd:A.handled=none) (e0:Zd4 P w K mg base A outer s H) (hl:vs.length=ps.length) (r:Vals vs us)
  (x:InCallC s s.heap.objs.size (bindL (envOfC qual scope s.heap.objs.size f cd).kindOf (ps.zip us) λ_=>none) (cellsFrom (s.heap.objs.size+1) scope.names []) (bindC (envOfC qual scope s.heap.objs.size f cd).kindOf (ps.zip us) λ_=>none) s1) :
  Inv (Zfk CX P w K mg base N qual scope f cd A outer s H E) [] (start N vs) H s1:=by
 have hpl:ps.length<=N.length:=by have:=congrArg Zxl S.pre; rw[Zye]at this; omega
 obtain⟨h1,tk,rfl,hk⟩:=x.done;have noA:∀b:Addr,b ∉ (Zfk CX P w K mg base N qual scope f cd A outer s H E).ex:=λb z=>absurd (show b∈([]:List Addr) from z) (by simp);refine⟨⟨e0.mod,S.kind,rfl,rfl,ZwM _,λy z c h1 h2=>?_,λy hy=>?_,λy c _ h=>?_,λ_=>hd,ZA6 e0.frames,.inr ⟨rfl,rfl⟩,λb z=>absurd z (noA b),e0.bs,e0.bsz,λb _ _=>noA b,λb z=>absurd z (noA b),e0.funs,e0.frf⟩,
  rfl,e0.bare,Un.kept hk,⟨_,x.toInCall.ns,λi y v h1 h2 h3=>?_⟩,λy c h=>⟨_,x.cell y c h⟩,e0.hok.fresh (ZwM _),λy c h=>?_,λp hp=>absurd (show p∈([]:List (Addr × Obj)) from hp) (by simp),e0.hok.kept hk,?_⟩
 ·exact name_of_addr x.apart (Zya h1) (Zya h2)
 ·have hy:scope.names.lookup y=some .cell\/scope.names.lookup y=some .free:=hy
  rcases hy with hy | hy
  ·exact Zl8 hy
  ·exact absurd rfl (S.nofree _ (Zya hy))
 ·exact Zys (x.above y c (Zya h))
 ·have hi:i<vs.length:=by
   unfold start at h2
   by_cases hi:i<vs.length
   ·exact hi
   ·rw[Zxk (by simpa using hi)]at h2
    rw[ZyW]at h2;split at h2<;>cases h2
  have ha:vs[i]?=some v:=by
   unfold start at h2;rw[Zxo (by simpa using hi),Zw3]at h2;cases e:vs[i]? with
   | none=>rw[e]at h2; cases h2
   | some a=>rw[e]at h2; cases h2; rfl
  obtain⟨u,hu,rv⟩:=r.get ha;have hp:ps[i]?=some y:=by rw[<-S.pre,ZAC (by omega)]; exact h1
  have ndP:ps.Nodup:=by rw[<-S.pre]; exact S.nd.sublist (List.take_sublist _ _)
  refine⟨u,rv,?_⟩;rcases S.par y (Zw9 hp)with k | k
  ·exact .inl ⟨k,ZkC ndP hp hu k⟩
  ·obtain⟨c,e⟩:=Zl8 (n:=s.heap.objs.size+1) k
   refine .inr ⟨.inl k,c,e,?_⟩;have q:=x.cell y c e;rw[ZkB ndP hp hu (by show scope.names.lookup y≠_; rw[k]; decide)]at q;exact q
 ·exact e0.hok.fresh (Zys (x.above y c (Zya h)))
 ·unfold start
  show _=N.length;rw[ZwY,ZwD,Zxm];omega
theorem Zss{CX:CXT}{P:Program}{w:World}{K:ZwC}{mg:Str->Option Value}{base:Heap}{k:Nat}{f:Addr}{name qual:Str}{params:Arguments}{body:List Stmt}{scope:Scope}{dV kV doc pm cdv ct oc:Value}{an od:Option Addr}
  {osl:Array (Option Value)} {N ps:List Str} {sp:Sp} (lk:K.lookup f=some ⟨oc,od,.func (ZxS name qual params body scope dV kV doc pm an cdv ct),osl⟩) (hcd:Zyx K cdv qual=true) (S:Zw N ps scope)
  (len:∀vs H Q E,sp vs H Q E->vs.length=ps.length)
  (hbody:∀(A:Around) (outer:List Env) (s:Shared) (H:Hp) (vs:List V) (Q:VK) (E:XK),Zah k (A.deeper (envOfC qual scope s.heap.objs.size f cdv))->sp vs H Q E ->
   ∃t,PSs (Zfk CX P w K mg base N qual scope f cdv A outer s H E) body t/\t { nx:=λ_ H'=>Q .non H',rt:=Q } (start N vs) H) :
  ZcL P w K mg base CX (k+1) f (ZxS name qual params body scope dV kV doc pm an cdv ct) ps sp:=by
 refine⟨len,λA outer s H args us vs Q E hr e0 hb r hsp=>?_⟩;have hl:=len _ _ _ _ hsp;have KX:K.In s.heap:=e0.mod.kin.keeps λb o e=>(e0.bs b o e).1;have lim:s.heap.NoLimit:=e0.mod.nolimit.keeps λb o e=>(e0.bs b o e).1;have hkind:∀y∈ps.zip us,scope.names.lookup y.1=some .local\/(scope.names.lookup y.1=some .cell/\((cellsFrom (s.heap.objs.size+1) scope.names []).lookup y.1).isSome=true):=λ⟨n,v⟩ hy=>by
  rcases S.par n (ZAK hy).1 with q | q
  ·exact .inl q
  ·exact .inr ⟨q,ZAR _ _ _ (.inl q)⟩
 refine codeAny_call_function hr.depth (KX _ _ lk) rfl S.co S.gen rfl (PySem.W.codeRec_of KX hcd) (hb _ _ _ _ ?_);refine wpAny_newFunctionEnv_cells S.kind hkind λenv he s1 x=>?_;subst he;refine⟨lim.keeps x.toInCall.keep,codeAny_func ?_⟩;obtain⟨t,ht,hq⟩:=hbody A outer s H vs Q E (hr.deeper _) hsp;have I:Inv (Zfk CX P w K mg base N qual scope f cdv A outer s H E) [] (start N vs) H s1:=Zqj S hr.hd e0 hl r x;refine ZxQ (ht [] s1 (start N vs) H _ I hq) (λfl s' hs=>?_) λe s' hs=>hs;have fin:∀{σ':St} {H':Hp} {v:V} {u:Value},Inv (Zfk CX P w K mg base N qual scope f cdv A outer s H E) [] σ' H' s'->RelV v u->Q v H'->CE outer P w H s Q u s' :=
  λ{σ' H' v u} J rv q=>⟨v,H',J.os,J.bare,J.base,J.hok,rv,q⟩
 cases fl with
 | ret u=>obtain⟨v,σ',H',J,rv,q⟩:=hs;exact fin J rv q
 | next=>obtain⟨σ',H',J,q⟩:=hs;exact fin (v:=V.non) (u:=ZxD) J rfl q
 | brk=>obtain⟨_,_,_,q⟩:=hs;exact ZxF q
 | cont=>obtain⟨_,_,_,q⟩:=hs;exact ZxF q
end L2
namespace L2
open PySem PySem.Spec PyProof.Rows
section
variable{X:Cx}{x:Str}{p pos:Pos}{e:Expr}{es:List Expr}{t:TA}{id T:String}{r:List V->Hp->VK->Prop}
def tCB(r:List V->Hp->VK->Prop)(t:TA):TE:=λσ H Q=>t σ H λvs H1=>r vs H1 Q
theorem ZcJ(hc:ZaF X (.builtin id) r)(hg:Gl X x)(hm:X.mg x=none)(hv:Zxw x=some (.builtin id))(ha:PA X (e::es) t)(hn:x ≠ "__name__":=by decide)(hdb:(x==("__debug__":Str))=false:=by decide)
  (he:ZwP (e::es) X.env=(false,eval e X.env)::ZwP es X.env:=by rfl) (hpl:(backTo pos (ZwP es X.env)).any (·.1)=false:=by rfl):PE X (.Call (.Name x p) (e::es) [] pos) (tCB r t):=by
 intro pins s σ H Q I h;refine ZyB (Zgi I hg hm hv ?_ hn hdb);exact PyProof.Rows.callWith_builtin1 (thn (ha pos pins s σ H _ I h) λus s1 ⟨vs,H1,I1,r1,q1⟩=>hc pins s1 σ H1 vs us Q I1 r1 q1) he hpl
theorem ZcK(hc:ZaF X (.type T) r)(hg:Gl X x)(hm:X.mg x=none)(hv:Zxw x=some (.type T))(ha:PA X (e::es) t)(hn:x ≠ "__name__":=by decide)(hdb:(x==("__debug__":Str))=false:=by decide)
  (he:ZwP (e::es) X.env=(false,eval e X.env)::ZwP es X.env:=by rfl) (hpl:(backTo pos (ZwP es X.env)).any (·.1)=false:=by rfl):PE X (.Call (.Name x p) (e::es) [] pos) (tCB r t):=by
 intro pins s σ H Q I h;refine ZyB (Zgi I hg hm hv ?_ hn hdb);exact Zze (thn (ha pos pins s σ H _ I h) λus s1 ⟨vs,H1,I1,r1,q1⟩=>hc pins s1 σ H1 vs us Q I1 r1 q1) he hpl
end
end L2
namespace HT
set_option maxHeartbeats 8000000
open PySem PyProof.Rows
section
open PySem.SeqAt
open PySem.AutoSeq1 (wpAny_loadPart')
open PySem.MeetsSeq PySem.MeetsSeq2 PySem.MeetsSeq3
end
section
variable{prog:Program}{w:World}{A:Around}{E:Value->Shared->Prop}{s:Shared}
def sIx(n d:Nat):Option Int->Nat
 | none=>d
 | some v=>if v<0 then(v+(n:Int)).toNat else min v.toNat n
end
end HT
namespace L2
open PySem PySem.Spec PyProof.Rows
abbrev TO:=St->Hp->(Option Int->Hp->Prop)->Prop
def PO(X:Cx)(e:Option Expr)(t:TO):Prop :=
 ∀(pins:List (Addr × Obj)) (s:Shared) (σ:St) (H:Hp) (Q:Option Int->Hp->Prop),Inv X pins σ H s->t σ H Q ->
  wpAny (model X.prog X.w) X.A (evalPart e X.env) (λu s'=>∃o H',Inv X pins σ H' s'/\IsPart u o/\Q o H') X.xe s
def Ztb:TO:=λ_ H Q=>Q none H
def Zvj(t:TE):TO:=λσ H Q=>t σ H λx H1=>∃i,x=.int i/\Q (some i) H1
section
variable{X:Cx}{e:Expr}{te:TE}{lo hi:Option Expr}{tl th:TO}{pos p2:Pos}
theorem Ztk:PO X none Ztb:=by intro pins s σ H Q I h;rw[evalPart_none];exact ZwF ⟨none,H,I,.none,h⟩
theorem Zth(h:PE X e te):PO X (some e) (Zvj te):=by intro pins s σ H Q I hw;rw[evalPart_some];refine thn (h pins s σ H _ I hw) λu s1 ⟨x,H1,I1,r1,q1⟩=>?_;obtain⟨i,rfl,q⟩:=q1;obtain⟨t,rfl⟩:=r1;exact⟨some i,H1,I1,.int i t,q⟩
def SlR(X:Cx)(r:V->Option Int->Option Int->Hp->VK->Prop):Prop :=
 ∀(pins:List (Addr × Obj)) (s:Shared) (σ:St) (H:Hp) (x:V) (v vl vu:Value) (lo hi:Option Int) (sl:Addr) (Q:VK),Inv X pins σ H s->RelV x v->s.heap.IsSliceOf sl vl vu .none->IsPart vl lo->IsPart vu hi->r x lo hi H Q ->
  ∃T id,typeLookup (.type T) "__getitem__" = pure (some (.builtin id))/\s.TypeIs v T/\wpAny (model X.prog X.w) X.A (getItem v (.ref sl)) (EP X pins σ Q) X.xe s
def tSl(r:V->Option Int->Option Int->Hp->VK->Prop)(te:TE)(tl th:TO):TE:=λσ H Q=>te σ H λx H1=>tl σ H1 λl H2=>th σ H2 λu H3=>r x l u H3 Q
theorem ZrR{r:V->Option Int->Option Int->Hp->VK->Prop}(hr:SlR X r)(he:PE X e te)(hl:PO X lo tl)(hu:PO X hi th):PE X (.Subscript e (.Slice lo hi none p2) pos) (tSl r te tl th):=by intro pins s σ H Q I h;refine Subscript_ (thn (he pins s σ H _ I h) λv s1 ⟨x,H1,I1,r1,q1⟩=>?_);refine wpAny_Slice (thn (hl pins s1 σ H1 _ I1 q1) λvl s2 ⟨l,H2,I2,pl,q2⟩=>thn (hu pins s2 σ H2 _ I2 q2) λvu s3 ⟨u,H3,I3,pu,q3⟩=>?_);rw[evalPart_none];refine ZwF ?_;have I4:Inv X pins σ H3 { s3 with heap:=s3.heap.push { cls:=.type "slice",data:=.fields #[vl,vu,.none] } }:=I3.kept (t':=s3.toks) λb ob q=>ZwH _ q;obtain⟨T,id,hT,ht,hg⟩:=hr pins { s3 with heap:=s3.heap.push { cls:=.type "slice",data:=.fields #[vl,vu,.none] } } σ H3 x v vl vu l u s3.heap.objs.size Q I4 r1 (Heap.IsSliceOf.new ..) pl pu q3;show wpAny (model X.prog X.w) X.A (subscriptTail e (.Slice lo hi none p2) v (.ref s3.heap.objs.size)) (EP X pins σ Q) X.xe { s3 with heap:=s3.heap.push { cls:=.type "slice",data:=.fields #[vl,vu,.none] } };exact tail_any (ops:=[.ref s3.heap.objs.size,v]) ht hT hg (by with_unfolding_all rfl)
def Znl(xs:List V)(lo hi:Option Int):List V:=(xs.drop (HT.sIx xs.length 0 lo)).take (HT.sIx xs.length xs.length hi-HT.sIx xs.length 0 lo)
theorem Zn4(xs:List V)(lo hi:Option Int):(Znl xs lo hi).length<=xs.length:=by unfold Znl;rw[Zye,Zzf];omega
end
end L2
namespace L2
open PySem PySem.Spec PyProof.Rows
def ixN(n:Nat)(i:Int):Option Nat:=if 0<=i then(if i<n then some i.toNat else none)else if -(n:Int)<=i then some (i+n).toNat else none
def atI{α:Type}(xs:List α)(i:Int):Option α:=(ixN xs.length i).bind λj=>xs[j]?
theorem Zoa{n:Nat}{i:Int}{j:Nat}(h:ixN n i=some j):seqIndex? i n=some j/\j<n/\-(n:Int)<=i/\i<n:=by
 unfold ixN at h
 by_cases h0:0<=i
 ·rw[if_pos h0]at h
  by_cases h1:i<n
  ·rw[if_pos h1]at h
   have e:i.toNat=j:=Zxx h;exact⟨by rw[seqIndex_of h0 h1,e],by omega,by omega,h1⟩
  ·rw[if_neg h1]at h; cases h
 ·rw[if_neg h0]at h
  by_cases h1:-(n:Int)<=i
  ·rw[if_pos h1]at h
   have e:(i+n).toNat=j:=Zxx h;exact⟨by rw[seqIndex_neg (by omega) h1,e],by omega,h1,by omega⟩
  ·rw[if_neg h1]at h; cases h
theorem ZjX{α:Type}{xs:List α}{i:Int}{v:α}(h:atI xs i=some v):∃j,seqIndex? i xs.length=some j/\xs[j]?=some v/\j<xs.length/\-(xs.length:Int)<=i/\i<xs.length:=by
 unfold atI at h;cases e:ixN xs.length i with
 | none=>rw[e]at h; cases h
 | some j=>rw[e]at h;obtain⟨h1,h2,h3,h4⟩:=Zoa e;exact⟨j,h1,h,h2,h3,h4⟩
def Zok(b:Expr):Prop:=∀o i,ZAS b false o i=operate [o,i] (getItem o i)
def IxR(X:Cx)(r:R2):Prop :=
 ∀(value slice:Expr) (pins:List (Addr × Obj)) (s:Shared) (σ:St) (H:Hp) (x y:V) (v u:Value) (Q:VK),Inv X pins σ H s->RelV x v->RelV y u->r x y H Q ->
  ZAS slice false v u=operate [v,u] (getItem v u)->wpAny (model X.prog X.w) X.A (subscriptTail value slice v u) (EP X pins σ Q) X.xe s
def MtR(X:Cx)(id:String)(r:V->List V->Hp->VK->Prop):Prop :=
 ∀(pins:List (Addr × Obj)) (s:Shared) (σ:St) (H:Hp) (x:V) (xs:List V) (v:Value) (us:List Value) (Q:VK),Inv X pins σ H s->RelV x v->Vals xs us->r x xs H Q ->
  wpAny (model X.prog X.w) X.A (call (.builtin id) (v::us)) (EP X pins σ Q) X.xe s
section
variable{X:Cx}{a b:Expr}{ta tb:TE}{pos:Pos}
theorem IxR.or{r r':R2}(h:IxR X r)(h':IxR X r'):IxR X (λx y H Q=>r x y H Q\/r' x y H Q):=by
 intro value slice pins s σ H x y v u Q I rx ry q hs;rcases q with q | q
 ·exact h value slice pins s σ H x y v u Q I rx ry q hs
 ·exact h' value slice pins s σ H x y v u Q I rx ry q hs
theorem Zve{r:R2}(hr:IxR X r)(ha:PE X a ta)(hb:PE X b tb)(hs:Zok b):PE X (.Subscript a b pos) (tOp r ta tb):=by intro pins s σ H Q I h;exact Subscript_ (Zsd ha hb I h λv u s2 x y H2 I2 rx ry q=>hr a b pins s2 σ H2 x y v u Q I2 rx ry q (hs _ _))
def Zu9(K:ZwC):R2:=λx y H Q=>∃p xs i v,x=.ref p/\y=.int i/\SqL K H p xs/\atI xs i=some v/\Q v H
def Zu1(K:ZwC):R2:=λx y H Q=>∃p xs i v,x=.ref p/\y=.int i/\SqT K H p xs/\atI xs i=some v/\Q v H
def ZuC:R2:=λx y H Q=>∃z i c,x=.str z/\y=.int i/\z.length<=sizeLine/\atI z.cps.toList i=some c/\Q (.str ⟨#[c]⟩) H
theorem Zs2:IxR X (Zu9 X.K):=by
 intro value slice pins s σ H x y v u Q I rx ry h hs;obtain⟨p,xs,i,z,rfl,rfl,hq,he,q⟩:=h;cases rx;obtain⟨t,rfl⟩:=ry;obtain⟨its,r,pl,hz⟩:=I.list hq;obtain⟨j,h1,h2,h3,h4,h5⟩:=ZjX he;obtain⟨w,ew,rw'⟩:=r.get h2;have hl:=r.length;have hn:=Zgn;have fin:EP X pins σ Q w s:=⟨z,H,I,rw',q⟩
 by_cases h0:0<=i
 ·have hj:i.toNat=j:=by
   rw[seqIndex_of h0 h5]at h1;exact Zxx h1
  exact item_listR pl.isList h0 (by omega) (by rw[hj]; simpa using ew) fin hs
 ·have hj:(i+(its.toArray.size:Int)).toNat=j:=by
   rw[seqIndex_neg (by omega) h4]at h1;rw[ZwV,<-hl];exact Zxx h1
  exact subscriptTail_builtinR (x:=w) pl.isList.typeIs slot_list_getitem.lookup
   (wpAny_getItem_list_neg (Q:=λr s'=>r=w/\EP X pins σ Q r s') pl.isList (by omega) (by rw[ZwV]<;>omega) (by omega) (by rw[hj]; simpa using ew) ⟨rfl,fin⟩) hs
theorem Zua:IxR X (Zu1 X.K):=by
 intro value slice pins s σ H x y v u Q I rx ry h hs;obtain⟨p,xs,i,z,rfl,rfl,hq,he,q⟩:=h;cases rx;obtain⟨t,rfl⟩:=ry;obtain⟨its,r,pl,hz⟩:=I.tuple hq;obtain⟨j,h1,h2,h3,h4,h5⟩:=ZjX he;obtain⟨w,ew,rw'⟩:=r.get h2;have hl:=r.length;have hn:=Zgn;have fin:EP X pins σ Q w s:=⟨z,H,I,rw',q⟩;exact subscriptTail_builtinR (x:=w) pl.typeIs slot_tuple_getitem.lookup
  (getItem_tuple (j:=j) (Q:=λr s'=>r=w/\EP X pins σ Q r s') pl (by omega) (by omega) (by rw[ZwV,<-hl]; exact h1) (by simpa using ew) ⟨rfl,fin⟩) hs
theorem Zu7:IxR X ZuC:=by
 intro value slice pins s σ H x y v u Q I rx ry h hs;obtain⟨z,i,c,rfl,rfl,hz,he,q⟩:=h;obtain⟨t,rfl⟩:=rx;obtain⟨t',rfl⟩:=ry;obtain⟨j,h1,h2,h3,h4,h5⟩:=ZjX he;have hl:z.cps.toList.length=z.length:=by simp[Str.length]
 rw[hl]at h1 h4 h5;have hn:=Zgn;exact tail_any (typeIs_str s z t) slot_str_getitem.lookup (getItem_str (c:=c) (by have e1:decide (i < -(2 ^ 63:Int))=false:=decide_eq_false (by omega);have e2:decide (i ≥ 2 ^ 63)=false:=decide_eq_false (by omega);rw[e1,e2,Bool.or_false]) (by rw[h1]; simpa using h2) ⟨.str ⟨#[c]⟩,H,I.tok _,⟨_,rfl⟩,q⟩) hs
def rIx(K:ZwC):R2:=λx y H Q=>Zu9 K x y H Q\/Zu1 K x y H Q\/ZuC x y H Q
theorem Zuh:IxR X (rIx X.K):=Zs2.or (Zua.or Zu7)
theorem Zpa(its:List Value)(n j:Nat)(u:Value):Zzs (·.setIfInBounds j u) { cls:=.type "list",data:=.seq its.toArray n }={ cls:=.type "list",data:=.seq (its.set j u).toArray n }:=by simp[Zzs]
theorem Inv.lst{pins:List (Addr × Obj)}{σ:St}{H:Hp}{s:Shared}{p:Addr}{xs:List V}(I:Inv X pins σ H s)(h:H p=some (.lst xs)) :
  ∃(its:List Value) (n:Nat),Vals xs its/\s.heap.get? p=some { cls:=.type "list",data:=.seq its.toArray n }/\xs.length<=sizeLine:=by
 obtain⟨z,its,n,r,e⟩:=I.hok p _ h;exact⟨its,n,r,e,z⟩
theorem Inv.lstUpd{pins:List (Addr × Obj)}{σ:St}{H:Hp}{s:Shared}{p:Addr}{xs ys:List V}{its its':List Value}{n n':Nat}{f:Obj->Obj}(I:Inv X pins σ H s)(h:H p=some (.lst xs))
  (ho:s.heap.get? p=some { cls:=.type "list",data:=.seq its.toArray n }) (hf:f { cls:=.type "list",data:=.seq its.toArray n }={ cls:=.type "list",data:=.seq its'.toArray n' }) (r:Vals ys its') (hz:ys.length<=sizeLine) (t:Nat) :
  Inv X pins σ (upd H p (.lst ys)) { s with heap:=s.heap.update p f,toks:=t }:=by
 have e:(s.heap.update p f).get? p=some { cls:=.type "list",data:=.seq its'.toArray n' }:=by rw[ZxK f ho (by rw[hf]<;>rfl),hf]
 refine I.write (x:=p) (e:=p) (by rw[h]; trivial) (.inl rfl) (λb u hb q=>(Zx2 _ _ (ZxC hb)).trans q) ⟨_,e⟩ ?_;exact⟨hz,its',n',r,e⟩
def Zvd:V->V->V->Hp->(Hp->Prop)->Prop:=λo i v H Q=>∃p xs k j,o=.ref p/\i=.int k/\H p=some (.lst xs)/\ixN xs.length k=some j/\Q (upd H p (.lst (xs.set j v)))
theorem set_list:Zuz X Zvd:=by
 intro pins s σ H o i v ov iv u Q I ro ri rv h;obtain⟨p,xs,k,j,rfl,rfl,hp,hj,q⟩:=h;cases ro;obtain⟨t,rfl⟩:=ri;obtain⟨its,n,r,ho,hz⟩:=I.lst hp;obtain⟨h1,h2,h3,h4⟩:=Zoa hj;have hl:=r.length;have hn:=Zgn;have I':Inv X pins σ (upd H p (.lst (xs.set j v))) { s with heap:=s.heap.update p (Zzs (·.setIfInBounds j u)) } :=
  I.lstUpd hp ho (Zpa its n j u) (r.set rv j) (by rw[ZxO]; exact hz) s.toks
 by_cases h0:0<=k
 ·have hk:k.toNat=j:=by
   rw[seqIndex_of h0 h4]at h1;exact Zxx h1
  exact PySem.W.ki_setAt ho h0 (by omega) (by rw[ZwV,<-hl]; exact h4) (by rw[hk]; exact⟨_,I',q⟩)
 ·have hk:(k+(its.toArray.size:Int)).toNat=j:=by
   rw[seqIndex_neg (by omega) h3]at h1;rw[ZwV,<-hl];exact Zxx h1
  exact PySem.W.ki_setBack ho (by omega) (by rw[ZwV,<-hl]; exact h3) (by omega) (by rw[hk]; exact⟨_,I',q⟩)
theorem Zms(lo hi:Option Int)(n:Nat):(Zzk lo hi none n).1=((HT.sIx n 0 lo:Nat):Int)/\(Zzk lo hi none n).2.1=((HT.sIx n n hi:Nat):Int)/\(Zzk lo hi none n).2.2=1:=by
 refine⟨?_,?_,rfl⟩
 ·cases lo with
  | none=>simp[Zzk,HT.sIx]
  | some i =>
   simp only[Zzk,HT.sIx,Option.getD_none,show(1:Int) > 0 by decide,if_true]
   by_cases h:i<0
   ·simp only[h,if_true]<;>omega
   ·simp only[h,if_false]<;>omega
 ·cases hi with
  | none=>simp[Zzk,HT.sIx]
  | some i =>
   simp only[Zzk,HT.sIx,Option.getD_none,show(1:Int) > 0 by decide,if_true]
   by_cases h:i<0
   ·simp only[h,if_true]<;>omega
   ·simp only[h,if_false]<;>omega
theorem Zld(its:List Value)(lo hi:Option Int):slicePick its.toArray lo hi none=((its.drop (HT.sIx its.length 0 lo)).take (HT.sIx its.length its.length hi-HT.sIx its.length 0 lo)).toArray:=by obtain⟨h1,h2,h3⟩:=Zms lo hi its.toArray.size;unfold slicePick;rw[h1,h2,h3];simp only[sliceRange_one,pick_run,ZwV]<;>rfl
def ZvY(K:ZwC):V->Option Int->Option Int->Hp->VK->Prop:=λx lo hi H Q=>∃a xs,x=.ref a/\SqL K H a xs/\∀p,H p=none->Q (.ref p) (upd H p (.lst (Znl xs lo hi)))
theorem Ztt:SlR X (ZvY X.K):=by intro pins s σ H x v vl vu lo hi sl Q I rx hs pl pu h;obtain⟨a,xs,rfl,hx,q⟩:=h;cases rx;obtain⟨its,r,ht,hz⟩:=I.list hx;have hlen:=r.length;refine⟨"list",_,slot_list_getitem.lookup,ht.isList.typeIs,?_⟩;refine wpAny_getItem_list_slice ht.isList hs pl pu .none (by simp) ?_ (by rw[ZwV]<;>omega);rw[Zld,<-hlen];refine⟨.ref s.heap.objs.size,_,I.laid (t':=s.toks) (o:=.lst (Znl xs lo hi)) (λb ob q=>ZwH _ q) (ZwM _) ?_,rfl,q _ (I.hok.fresh (ZwM _))⟩;exact⟨Zxr (Zn4 xs lo hi) hz,_,0,(r.drop (HT.sIx xs.length 0 lo)).take (HT.sIx xs.length xs.length hi-HT.sIx xs.length 0 lo),ZwX _ rfl⟩
def Zbi:V->Bool
 | .non=>true
 | .bl _=>true
 | .int _=>true
 | .str _=>true
 | _=>false
def eqV:V->V->Bool
 | .non,.non=>true
 | .bl a,.bl b=>a==b
 | .bl a,.int b=>(if a then 1 else 0)==b
 | .int a,.bl b=>a==(if b then 1 else 0)
 | .int a,.int b=>a==b
 | .str a,.str b=>a==b
 | _,_=>false
theorem Zt8{A:Around}{s:Shared}{y x:V}{u v:Value}(ry:RelV y u)(rx:RelV x v)(fy:Zbi y=true)(fx:Zbi x=true):SeqAt.EqAt A s u v (eqV y x):=by
 cases y with
 | non =>
  cases ry;cases x with
  | non=>cases rx; exact SeqAt.EqAt.same _
  | bl b=>cases rx; exact SeqAt.EqAt.none_bool b
  | int b=>obtain⟨t,rfl⟩:=rx; exact SeqAt.EqAt.none_int b t
  | str b=>obtain⟨t,rfl⟩:=rx; exact SeqAt.EqAt.none_str b t
  | _=>exact absurd (show false=true from fx) Zxi
 | bl a =>
  cases ry;cases x with
  | non=>cases rx; exact SeqAt.EqAt.bool_none a
  | bl b=>cases rx; exact SeqAt.EqAt.bool_bool a b
  | int b=>obtain⟨t,rfl⟩:=rx; exact SeqAt.EqAt.bool_int a b t
  | str b=>obtain⟨t,rfl⟩:=rx; exact SeqAt.EqAt.bool_str a b t
  | _=>exact absurd (show false=true from fx) Zxi
 | int a =>
  obtain⟨t',rfl⟩:=ry;cases x with
  | non=>cases rx; exact SeqAt.EqAt.int_none a t'
  | bl b=>cases rx; exact SeqAt.EqAt.int_bool a t' b
  | int b=>obtain⟨t,rfl⟩:=rx; exact SeqAt.EqAt.int_int a t' b t
  | str b=>obtain⟨t,rfl⟩:=rx; exact ZBe a t' b t
  | _=>exact absurd (show false=true from fx) Zxi
 | str a =>
  obtain⟨t',rfl⟩:=ry;cases x with
  | non=>cases rx; exact SeqAt.EqAt.str_none a t'
  | bl b=>cases rx; exact SeqAt.EqAt.str_bool a t' b
  | int b=>obtain⟨t,rfl⟩:=rx; exact ZBf a t' b t
  | str b=>obtain⟨t,rfl⟩:=rx; exact SeqAt.EqAt.str_str a t' b t
  | _=>exact absurd (show false=true from fx) Zxi
 | _=>exact absurd (show false=true from fy) Zxi
def eqU(x:V)(u:Value):Bool:=match u with
 | .none=>eqV .non x
 | .bool b=>eqV (.bl b) x
 | .int i _=>eqV (.int i) x
 | .str z _=>eqV (.str z) x
 | _=>false
theorem ZqE{x y:V}{u:Value}(r:RelV y u)(f:Zbi y=true):eqU x u=eqV y x:=by
 cases y with
 | non=>cases r; rfl
 | bl b=>cases r; rfl
 | int i=>obtain⟨t,rfl⟩:=r; rfl
 | str z=>obtain⟨t,rfl⟩:=r; rfl
 | _=>exact absurd (show false=true from f) Zxi
theorem Zj1{x:V}:∀{xs:List V} {us:List Value},Vals xs us->xs.all Zbi=true->us.any (eqU x)=xs.any λy=>eqV y x
 | _,_,.nil,_=>rfl
 | y::xs,u::us,.cons r t,f=>by rw[ZxN,ZwZ]at f;rw[ZyH,ZyH,ZqE r f.1,Zj1 t f.2]
theorem ZiW{A:Around}{s:Shared}{x:V}{v:Value}(rx:RelV x v)(fx:Zbi x=true):∀{xs:List V} {us:List Value},Vals xs us->xs.all Zbi=true->∀u∈us,SeqAt.EqAt A s u v (eqU x u)
 | _,_,.nil,_=>λu hu=>by cases hu
 | y::xs,u::us,.cons r t,f=>λu' hu=>by
  rw[ZxN,ZwZ]at f;rcases Zw0.mp hu with rfl | hu
  ·rw[ZqE r f.1]; exact Zt8 r rx f.1 fx
  ·exact ZiW rx fx t f.2 u' hu
def inV(x:V)(xs:List V):Bool:=xs.any λy=>eqV y x
def rIn(K:ZwC)(neg:Bool):R2:=λx y H Q=>∃p xs,y=.ref p/\(SqL K H p xs\/SqT K H p xs)/\Zbi x=true/\xs.all Zbi=true/\Q (.bl (if neg then !inV x xs else inV x xs)) H
theorem Zp0:OpR X (Zx6 .In) (rIn X.K false):=by
 intro pins s σ H x y v u Q I rx ry h;obtain⟨p,xs,rfl,hq,fx,fs,q⟩:=h;cases ry;rcases hq with hq | hq
 ·obtain⟨its,r,pl,hz⟩:=I.list hq
  refine SeqAt.in_listAt (eqU x) pl.isList (λw hw=>ZiW rx fx r fs w (by simpa using hw)) ⟨.bl _,H,I,rfl,?_⟩;rw[show its.toArray.any (eqU x)=its.any (eqU x) by simp,Zj1 r fs];exact q
 ·obtain⟨its,r,pl,hz⟩:=I.tuple hq
  refine SeqAt.in_tupleAt (eqU x) pl (λw hw=>ZiW rx fx r fs w (by simpa using hw)) ⟨.bl _,H,I,rfl,?_⟩;rw[show its.toArray.any (eqU x)=its.any (eqU x) by simp,Zj1 r fs];exact q
theorem Zmn:ZaF X (.builtin "len") (λxs H Q=>∃p ys,xs=[.ref p]/\(SqL X.K H p ys\/SqT X.K H p ys)/\Q (.int ys.length) H):=by
 intro pins s σ H xs us Q I r h;obtain⟨p,ys,rfl,hq,q⟩:=h;obtain⟨u,rfl,rx⟩:=vals1 r;cases rx;have hn:=Zgn;rcases hq with hq | hq
 ·obtain⟨its,r',pl,hz⟩:=I.list hq
  have hlen:=r'.length;exact Calls.call_len_list pl.isList (by simp only[ZwV]<;>omega) ⟨.int ys.length,H,I.tok _,⟨s.toks+1,by rw[ZwV,hlen]⟩,q⟩
 ·obtain⟨its,r',pl,hz⟩:=I.tuple hq
  have hlen:=r'.length;exact len_tuple pl (by simp only[ZwV]<;>omega) ⟨.int ys.length,H,I.tok _,⟨s.toks+1,by rw[ZwV,hlen]⟩,q⟩
theorem ZaF.or{f:Value}{r r':List V->Hp->VK->Prop}(h:ZaF X f r)(h':ZaF X f r'):ZaF X f (λxs H Q=>r xs H Q\/r' xs H Q):=by
 intro pins s σ H xs us Q I rs q;rcases q with q | q
 ·exact h pins s σ H xs us Q I rs q
 ·exact h' pins s σ H xs us Q I rs q
theorem Znk:ZaF X (.type "list") (λxs H Q=>∃p ys,xs=[.ref p]/\(SqL X.K H p ys\/SqT X.K H p ys)/\∀l,H l=none->Q (.ref l) (upd H l (.lst ys))):=by
 intro pins s σ H xs us Q I r h;obtain⟨p,ys,rfl,hq,q⟩:=h;obtain⟨u,rfl,rx⟩:=vals1 r;cases rx;have fin:∀(its:List Value),Vals ys its->ys.length<=sizeLine->∀(h':Heap) (c':Nat),(∀b o',s.heap.get? b=some o'->h'.get? b=some o') ->
   h'.get? s.heap.objs.size=some { cls:=.type "list",dict:=none,data:=.seq its.toArray c',slots:=#[] }->EP X pins σ Q (.ref s.heap.objs.size) { s with heap:=h' }:=λits r' hz h' c' kp e =>
  ⟨.ref s.heap.objs.size,_,I.laid (t':=s.toks) kp (ZwM _) (show ZV X.prog X.w _ h' _ (.lst ys) from⟨hz,its,c',r',e⟩),rfl,q _ (I.hok.fresh (ZwM _))⟩
 rcases hq with hq | hq
 ·obtain⟨its,r',pl,hz⟩:=I.list hq
  have hlen:=r'.length;obtain⟨o,ho,hc,n,hd⟩:=pl.isList;exact call_list_seq p (.inl rfl) ho hc hd (λh' c' kp e=>fin its r' hz h' c' kp e) (by simp only[ZwV]<;>omega)
 ·obtain⟨its,r',pl,hz⟩:=I.tuple hq
  have hlen:=r'.length;obtain⟨o,ho,hc,n,hd⟩:=pl;exact call_list_seq p (.inr rfl) ho hc hd (λh' c' kp e=>fin its r' hz h' c' kp e) (by simp only[ZwV]<;>omega)
theorem Zle:ZaF X (.type "tuple") (λxs H Q=>∃p ys,xs=[.ref p]/\((SqL X.K H p ys/\∀l,H l=none->Q (.ref l) (upd H l (.tup ys)))\/(SqT X.K H p ys/\Q (.ref p) H))):=by
 intro pins s σ H xs us Q I r h;obtain⟨p,ys,rfl,h⟩:=h;obtain⟨u,rfl,rx⟩:=vals1 r;cases rx;rcases h with⟨hq,q⟩ | ⟨hq,q⟩
 ·obtain⟨its,r',pl,hz⟩:=I.list hq
  have hlen:=r'.length;refine call_tuple_list pl.isList (λh' kp=>?_) (by simp only[ZwV]<;>omega);have I1:Inv X pins σ H { s with heap:=h' }:=I.kept (t':=s.toks) kp;have I2:Inv X pins σ (upd H h'.objs.size (.tup ys)) { s with heap:=h'.push { cls:=.type "tuple",data:=.seq its.toArray } } :=
   I1.laid (t':=s.toks) (λb o e=>ZwH _ e) (ZwM _) (show ZV X.prog X.w _ _ _ (.tup ys) from⟨hz,its,r',IsTup.new _ _⟩)
  exact⟨.ref h'.objs.size,_,I2,rfl,q _ (I1.hok.fresh (ZwM _))⟩
 ·obtain⟨its,r',pl,hz⟩:=I.tuple hq
  exact call_tuple_same pl ⟨.ref p,H,I,rfl,q⟩
def tyV(K:ZwC)(T:String)(x:V)(H:Hp):Prop:=match x with
 | .str _=>T = "str"
 | .int _=>T = "int"
 | .ref p=>(T = "list"/\∃xs,SqL K H p xs)\/(T = "tuple"/\∃o,K.lookup p=some o/\o.cls=.type "tuple"/\o.dict=none) \/
   (T = "dict"/\((∃kvs,H p=some (.dK kvs))\/∃kvs,H p=some (.dT kvs)))\/(T = "set"/\∃S n,H p=some (.set S n))
 | _=>False
theorem ZqS{pins:List (Addr × Obj)}{σ:St}{H:Hp}{s:Shared}{T:String}{x:V}{v:Value}(I:Inv X pins σ H s)(r:RelV x v)(ty:tyV X.K T x H) :
  s.TypeIs v T/\∀a,v=.ref a->∃ob,s.heap.get? a=some ob/\ob.dict=none:=by
 cases x with
 | str z=>obtain⟨t,rfl⟩:=r;cases(show T = "str" from ty);exact⟨typeIs_str s z t,λ_ e=>nomatch e⟩
 | int i=>obtain⟨t,rfl⟩:=r;cases(show T = "int" from ty);exact⟨typeIs_int s i t,λ_ e=>nomatch e⟩
 | ref p =>
  cases r;rcases ty with⟨rfl,xs,hq⟩ | ⟨rfl,o,hk,hc,hd⟩ | ⟨rfl,hk⟩ | ⟨rfl,S,n,hk⟩
  ·obtain⟨its,_,pl,_⟩:=I.list hq
   refine⟨pl.isList.typeIs,λa e=>?_⟩;cases e;obtain⟨o,n,e,c,hd,_⟩:=pl;exact⟨o,e,hd⟩
  ·refine⟨⟨o,I.kIn p o hk,hc⟩,λa e=>?_⟩
   cases e;exact⟨o,I.kIn _ o hk,hd⟩
  ·have z:∃o,s.heap.get? p=some o/\o.ExactDict:=by
    rcases hk with⟨kvs,hk⟩ | ⟨kvs,hk⟩
    ·obtain⟨_,_,_,_,o,_,_,e,ex,_⟩:=I.hok p _ hk
     exact⟨o,e,ex⟩
    ·obtain⟨_,_,_,_,o,_,_,e,ex,_⟩:=I.hok p _ hk
     exact⟨o,e,ex⟩
   obtain⟨o,e,ex⟩:=z;refine⟨⟨o,e,ex.1⟩,λa e2=>?_⟩;cases e2;exact⟨o,e,ex.2.1⟩
  ·obtain⟨o,_,_,_,e,ex,_⟩:=I.hok p _ hk
   refine⟨⟨o,e,ex.1⟩,λa e2=>?_⟩;cases e2;exact⟨o,e,ex.2.1⟩
 | _=>exact ZxF ty
def Zwg(K:ZwC)(T:String)(r:V->List V->Hp->VK->Prop)(to:TE):TE:=λσ H Q=>to σ H λx H1=>tyV K T x H1/\r x [] H1 Q
def tBM(K:ZwC)(T:String)(r:V->List V->Hp->VK->Prop)(to:TE)(t:TA):TE:=λσ H Q=>to σ H λx H1=>tyV K T x H1/\t σ H1 λxs H2=>r x xs H2 Q
variable{o e:Expr}{es:List Expr}{to:TE}{t:TA}{name:Str}{apos cpos:Pos}{T id:String}{r:V->List V->Hp->VK->Prop}
theorem Zuv(pa:PlainAttrs T)(slot:Slot T name id)(hty:typeOf (.builtin id)=pure (.type "method_descriptor"))(hm:MtR X id r)(ho:PE X o to)
  (hbase:Zy0 o name X.env (eval o X.env)=eval o X.env:=by rfl) (hline:(apos.endLine==cpos.line)=true:=by rfl):PE X (.Call (.Attribute o name apos) [] [] cpos) (Zwg X.K T r to):=by
 intro pins s σ H Q I h;refine wpAny_Call_method0_late hbase hline (thn (ho pins s σ H _ I h) λv s1 ⟨x,H1,I1,r1,ty,q1⟩=>?_);obtain⟨h1,h2⟩:=ZqS I1 r1 ty;exact⟨T,id,pa,slot,hty,h1,h2,ZzG rfl (PySem.evalArgs_none (hm pins s1 σ H1 x [] v [] Q I1 r1 .nil q1))⟩
theorem Zpr(pa:PlainAttrs T)(slot:Slot T name id)(hty:typeOf (.builtin id)=pure (.type "method_descriptor"))(hm:MtR X id r)(ho:PE X o to)(ha:PA X (e::es) t)
  (hbase:Zy0 o name X.env (eval o X.env)=eval o X.env:=by rfl)
  (hfew:((backTo cpos (ZwP (e::es) X.env)).all (λx=>!x.1)&&(backToKw cpos (ZAc [] X.env)).all (λx=>x.1.isSome)
   && decide ((e::es).length+([]:List Keyword).length+(if([]:List Keyword).isEmpty then 0 else 1)<30))=true:=by rfl)
  (hline:(apos.endLine==cpos.line)=true:=by rfl) (hs:ZwP (e::es) X.env=(false,eval e X.env)::ZwP es X.env:=by rfl) (hplain:(backTo cpos (ZwP es X.env)).any (·.1)=false:=by rfl) :
  PE X (.Call (.Attribute o name apos) (e::es) [] cpos) (tBM X.K T r to t):=by
 intro pins s σ H Q I h;refine wpAny_Call_method_late hbase hfew hline rfl (thn (ho pins s σ H _ I h) λv s1 ⟨x,H1,I1,r1,ty,q1⟩=>?_);obtain⟨h1,h2⟩:=ZqS I1 r1 ty;refine⟨T,id,pa,slot,hty,h1,h2,?_⟩;have hA:=ha cpos pins s1 σ H1 _ I1 q1;rw[hs]at hA ⊢;refine ZzG (by show(false||(backTo cpos (ZwP es X.env)).any (·.1))=false; rw[hplain]<;>rfl) (ZA7 ?_);exact thn hA λus s2 ⟨vs,H2,I2,r2,q2⟩=>hm pins s2 σ H2 x vs v us Q I2 r1 r2 q2
end
end L2
namespace L2
open PySem PySem.Spec PyProof.Rows
def MtM(X:Cx)(id:String)(r:V->List V->Hp->VK->Prop):Prop :=
 ∀(pins:List (Addr × Obj)) (s:Shared) (σ:St) (H:Hp) (x:V) (xs:List V) (v:Value) (us:List Value) (Q:VK),Inv X pins σ H s->RelV x v->Vals xs us->r x xs H Q ->
  wpAny (model X.prog X.w) X.A (call (.builtin id) (v::us)) (EP X pins σ Q) X.xe s
theorem Vals.one:∀{x:V} {us:List Value},Vals [x] us->∃u,us=[u]/\RelV x u
 | _,_,.cons r .nil=>⟨_,rfl,r⟩
theorem Vals.zero:∀{us:List Value},Vals [] us->us=[]
 | _,.nil=>rfl
theorem Vals.dropLast{xs:List V}{us:List Value}(h:Vals xs us):Vals xs.dropLast us.dropLast:=by
 induction h with
 | nil=>exact .nil
 | cons r t ih =>
  cases t with
  | nil=>exact .nil
  | cons q t'=>exact .cons r ih
theorem Vals.rep{xs:List V}{us:List Value}(h:Vals xs us):∀k:Nat,Vals (Zxa k xs).flatten (Zxa k us).flatten
 | 0=>.nil
 | k+1=>by rw[Zyj,Zyj,ZyL,ZyL];exact Vals.append h (Vals.rep h k)
theorem Zpt{α:Type}(l:List α):l.eraseIdx (l.length-1)=l.dropLast:=by
 induction l with
 | nil=>rfl
 | cons a r ih =>
  cases r with
  | nil=>rfl
  | cons b r =>
   have e:(a::b::r).length-1=((b::r).length-1)+1:=by have h1:(a::b::r).length=r.length+2:=rfl;have h2:(b::r).length=r.length+1:=rfl;omega
   rw[e,List.eraseIdx_cons_succ,ih]
   all_goals rfl
theorem foldl_rep(its:List Value):∀(k:Nat) (acc:List Value),
  List.foldl (λx1 x2=>x1++x2) acc.toArray (Zxa k its.toArray)=(acc++(Zxa k its).flatten).toArray
 | 0,acc=>by simp
 | k+1,acc=>by
  have e:acc.toArray++its.toArray=(acc++its).toArray:=by simp
  have e2:(acc++its)++(Zxa k its).flatten=acc++(Zxa (k+1) its).flatten:=by rw[Zyj,ZyL,Zyi]
  rw[<-e2,<-foldl_rep its k (acc++its),<-e,Zyj,ZyD]
section
variable{X:Cx}{pins:List (Addr × Obj)}{σ:St}{H:Hp}{s:Shared}{l b:Addr}{xs ys zs:List V}
theorem Inv.lset{its its':List Value}{n:Nat}{f:Array Value->Array Value}{t':Nat}(I:Inv X pins σ H s)(hH:H l=some (.lst xs))
  (e:s.heap.get? l=some { cls:=.type "list",data:=.seq its.toArray n }) (hf:f its.toArray=its'.toArray) (hv:Vals ys its') (hz:ys.length<=sizeLine) :
  Inv X pins σ (upd H l (.lst ys)) { s with heap:=s.heap.update l (Zzs f),toks:=t' }:=by
 have q:=PySem.IsL.update e f;rw[hf]at q;refine I.write (x:=l) (e:=l) (by rw[hH]; exact trivial) (.inl rfl) (λb' u hb hu=>(Zx2 s.heap (Zzs f) (ZxC hb)).trans hu) ⟨_,q⟩ ?_;exact⟨hz,its',_,hv,q⟩
theorem Inv.lnew{its:List Value}{t':Nat}(I:Inv X pins σ H s)(hv:Vals ys its)(hz:ys.length<=sizeLine) :
  Inv X pins σ (upd H s.heap.objs.size (.lst ys)) { s with heap:=s.heap.push { cls:=.type "list",data:=.seq its.toArray },toks:=t' } :=
 I.laid (λ_ _ q=>ZwH _ q) (ZwM _) ⟨hz,its,0,hv,ZwX _ rfl⟩
theorem Inv.fresh(I:Inv X pins σ H s):H s.heap.objs.size=none:=I.hok.fresh (ZwM _)
theorem Inv.lstM(I:Inv X pins σ H s)(hH:H l=some (.lst xs)):xs.length<=sizeLine/\∃(its:List Value) (n:Nat),Vals xs its/\xs.length=its.length/\s.heap.get? l=some { cls:=.type "list",data:=.seq its.toArray n }:=by obtain⟨z,its,n,r,e⟩:=I.hok l _ hH;exact⟨z,its,n,r,r.length,e⟩
theorem Zma{n:Nat}(h:n<=sizeLine):ZyO n=false:=by unfold ZyO;exact decide_eq_false (by omega)
end
section
variable{X:Cx}
def Zos:V->List V->Hp->VK->Prop:=λx vs H Q=>∃l xs y,x=.ref l/\vs=[y]/\H l=some (.lst xs)/\xs.length<sizeLine/\Q .non (upd H l (.lst (xs++[y])))
theorem Zhy:MtM X "list.append" Zos:=by intro pins s σ H x vs v us Q I rx rv h;obtain⟨l,xs,y,rfl,rfl,hH,hz,q⟩:=h;cases rx;obtain⟨u,rfl,ru⟩:=rv.one;obtain⟨z,its,n,r,hl,e⟩:=I.lstM hH;refine ZAv F.slot_list_append ⟨_,e,rfl⟩ F.entry_list_append (F.args_list_append_2 _ _) (PySem.list_append l its.toArray n u (by rw[ZwV]; omega)) ⟨e,?_⟩;refine⟨.non,_,I.lset (its':=its++[u]) hH e (by simp) (r.append (.cons ru .nil)) ?_,rfl,q⟩;rw[ZwY,ZxT];omega
def Ztu:V->List V->Hp->VK->Prop:=λx vs H Q=>∃l b xs zs,x=.ref l/\vs=[.ref b]/\H l=some (.lst xs)/\H b=some (.lst zs)/\xs.length+zs.length<=sizeLine/\Q .non (upd H l (.lst (xs++zs)))
theorem Zqu:MtM X "list.extend" Ztu:=by
 intro pins s σ H x vs v us Q I rx rv h;obtain⟨l,b,xs,zs,rfl,rfl,hH,hB,hz,q⟩:=h;cases rx;obtain⟨u,rfl,ru⟩:=rv.one;cases ru;obtain⟨z,its,n,r,hl,e⟩:=I.lstM hH;obtain⟨z2,its2,n2,r2,hl2,e2⟩:=I.lstM hB;have hsz:its.toArray.size+its2.toArray.size<=sizeLine:=by rw[ZwV,ZwV]; omega
 have hlong:¬(!its.toArray.isEmpty&&ZyO (its.toArray.size+its2.toArray.size))=true:=by rw[Zma hsz,Bool.and_false];exact Zxi
 refine ZAv F.slot_list_extend ⟨_,e,rfl⟩ F.entry_list_extend (F.args_list_extend_2 _ _)
  (AutoSeq1.list_extend_list_list_0 l its.toArray n b its2.toArray n2 hlong (by rw[ZwV]; omega) (by omega)) ⟨e,e2,?_⟩
 refine⟨.non,_,I.lset (its':=its++its2) hH e (by simp) (r.append r2) ?_,rfl,q⟩;rw[ZwY];omega
def ZvX:V->List V->Hp->VK->Prop:=λx vs H Q=>∃l xs y,x=.ref l/\vs=[]/\H l=some (.lst xs)/\xs[xs.length-1]?=some y/\Q y (upd H l (.lst xs.dropLast))
theorem ZuR:MtM X "list.pop" ZvX:=by
 intro pins s σ H x vs v us Q I rx rv h;obtain⟨l,xs,y,rfl,rfl,hH,hy,q⟩:=h;cases rx;have hus:=rv.zero;subst hus;obtain⟨z,its,n,r,hl,e⟩:=I.lstM hH;obtain⟨u,hu,ru⟩:=r.get hy;have hy':its.toArray[its.toArray.size-1]?=some u:=by show its.toArray[its.length-1]?=some u;rw[<-Zxu,<-hl];exact hu
 refine ZAv F.slot_list_pop ⟨_,e,rfl⟩ F.entry_list_pop (F.args_list_pop_1 _) (MeetsSeq.list_pop_last l its.toArray n u hy' (by rw[ZwV]; omega)) ⟨e,?_⟩;refine⟨y,_,I.lset (its':=its.dropLast) hH e ?_ r.dropLast ?_,ru,q⟩
 ·show its.toArray.eraseIdxIfInBounds (its.toArray.size-1)=its.dropLast.toArray
  rw[ZwV,List.eraseIdxIfInBounds_toArray,Zpt]
 ·rw[List.length_dropLast]
  omega
def Zv6:R2:=λx y H Q=>∃l b xs zs,x=.ref l/\y=.ref b/\H l=some (.lst xs)/\H b=some (.lst zs)/\xs.length+zs.length<=sizeLine/\∀p,H p=none->Q (.ref p) (upd H p (.lst (xs++zs)))
theorem ZuY:OpR X (ZzN .Add) Zv6:=by
 intro pins s σ H x y v u Q I rx ry h;obtain⟨l,b,xs,zs,rfl,rfl,hH,hB,hz,q⟩:=h;cases rx;cases ry;obtain⟨z,its,n,r,hl,e⟩:=I.lstM hH;obtain⟨z2,its2,n2,r2,hl2,e2⟩:=I.lstM hB;refine PySem.P.add_list e e2 ?_ (by rw[ZwV,ZwV]; omega);have ea:its.toArray++its2.toArray=(its++its2).toArray:=by simp
 rw[ea];exact⟨.ref _,_,I.lnew (t':=s.toks) (r.append r2) (by rw[ZwY]; omega),rfl,q _ I.fresh⟩
def Zwh:R2:=λx y H Q=>∃l k xs,x=.ref l/\y=.int k/\H l=some (.lst xs)/\-(2 ^ 63)<=k/\k<2 ^ 63/\xs.length*k.toNat<=sizeLine /\
 ∀p,H p=none->Q (.ref p) (upd H p (.lst (Zxa k.toNat xs).flatten))
theorem len_rep{α:Type}(xs:List α)(k:Nat):(Zxa k xs).flatten.length=k*xs.length:=by
 induction k with
 | zero=>simp
 | succ k ih=>rw[Zyj,ZyL,ZwY,ih,Nat.succ_mul,Nat.add_comm]
theorem ZtV:OpR X (ZzN .Mult) Zwh:=by
 intro pins s σ H x y v u Q I rx ry h;obtain⟨l,k,xs,rfl,rfl,hH,h1,h2,hz,q⟩:=h;cases rx;obtain⟨t,rfl⟩:=ry;obtain⟨z,its,n,r,hl,e⟩:=I.lstM hH;have hlen:its.toArray.size*k.toNat<=sizeLine:=by rw[ZwV,<-hl]; exact hz
 have hcap:¬its.toArray.size*k.toNat > (2 ^ 63-1) / 8:=by
  have:(sizeLine:Nat)<=(2 ^ 63-1) / 8:=by decide
  omega
 have hfit:¬(!Builtin.List.listFitsIndex k)=true:=by rw[fitsIndex_both h1 h2];exact Zxi
 have hlong:¬ZyO (its.toArray.size*k.toNat)=true:=by rw[Zma hlen];exact Zxi
 have hnew:List.foldl (λx1 x2=>x1++x2) #[] (Zxa (if its.toArray.isEmpty=true then 0 else k.toNat) its.toArray)=(Zxa k.toNat its).flatten.toArray:=by
  have f0:∀m:Nat,List.foldl (λx1 x2=>x1++x2) #[] (Zxa m its.toArray)=(Zxa m its).flatten.toArray:=λm=>by have:=foldl_rep its m [];rw[Zy2]at this;exact this
  rw[f0];cases its with
  | nil=>simp
  | cons a r'=>rw[if_neg (by simp)]
 refine wpAny_binaryOp_repeat_ref (T:="list") (U:="int") (by decide) ⟨_,e,rfl⟩ (λs'=>typeIs_int s' k t) noFill_list_mul F.fills_int_mul F.slot_int_rmul repeat_list F.slot_int_index.lookup
  (ZAv F.slot_int_rmul (typeIs_int s k t) F.entry_int_rmul (F.args_int_rmul_2 _ _) (int___rmul___int_list k t l its.toArray n)
   ⟨e,rfl,⟨_,e,rfl⟩,ZAv F.slot_list_mul ⟨_,e,rfl⟩ F.entry_list_mul (F.args_list_mul_2 _ _) (AutoListH.list___mul___list_int_3 l its.toArray n k t hfit hcap hlong) ⟨e,?_⟩⟩)
 rw[hnew];exact⟨.ref _,_,I.lnew (t':=s.toks) (r.rep k.toNat) (by rw[len_rep,Nat.mul_comm]; exact hz),rfl,q _ I.fresh⟩
end
end L2
namespace L2
open PySem PySem.Spec PyProof.Rows
section
variable{κ:Type}[DecidableEq κ]
def Zal(kvs:List (κ × V))(k:κ):Option V:=(kvs.find? λkv=>decide (kv.1=k)).map (·.2)
def putK(kvs:List (κ × V))(k:κ)(v:V):List (κ × V) :=
 if(kvs.any λkv=>decide (kv.1=k))=true then kvs.map (λkv=>if kv.1=k then(kv.1,v)else kv)else kvs++[(k,v)]
theorem Zdb{p:κ × V}{r:List (κ × V)}{k:κ}(e:p.1=k):Zal (p::r) k=some p.2:=by simp[Zal,Zxf,e]
theorem Zc9{p:κ × V}{r:List (κ × V)}{k:κ}(e:¬p.1=k):Zal (p::r) k=Zal r k:=by simp[Zal,Zxf,e]
theorem ZiN(k:κ):∀kvs:List (κ × V),(kvs.any λkv=>decide (kv.1=k))=(Zal kvs k).isSome
 | []=>rfl
 | p::r=>by
  rw[ZyH]
  by_cases e:p.1=k
  ·simp only[Zdb e,decide_eq_true e,Bool.true_or,Option.isSome_some]
  ·rw[Zc9 e,decide_eq_false e,ZAk]; exact ZiN k r
theorem ZfZ(kvs:List (κ × V))(k:κ)(v:V):(putK kvs k v).length<=kvs.length+1:=by
 unfold putK;split
 ·rw[ZwD]; omega
 ·rw[ZwY,ZwS,ZAL]; omega
theorem Zf3.isSome_eq{o:Option V}{u:Option Value}(r:Zf3 o u):o.isSome=u.isSome:=by
 cases o with
 | none=>cases u with
  | none=>rfl
  | some _=>exact(show False from r).elim
 | some _=>cases u with
  | none=>exact(show False from r).elim
  | some _=>rfl
theorem KV.val{kvs:List (κ × V)}{vs:List (κ × Value)}(r:KV kvs vs)(k:κ):Zf3 (Zal kvs k) (valueAt vs k):=by
 unfold KV at r
 induction r with
 | nil=>exact Zzt
 | @cons p q ps qs h t ih =>
  obtain⟨h1,h2⟩:=h
  by_cases e:p.1=k
  ·have e':q.1=k:=h1.symm.trans e
   have b:valueAt (q::qs) k=some q.2:=by simp[valueAt,Zxf,e']
   rw[Zdb e,b]; exact h2
  ·have e':¬q.1=k:=λz=>e (h1.trans z)
   have b:valueAt (q::qs) k=valueAt qs k:=by simp[valueAt,Zxf,e']
   rw[Zc9 e,b]; exact ih
theorem KV.any{kvs:List (κ × V)}{vs:List (κ × Value)}(r:KV kvs vs)(k:κ):(kvs.any λkv=>decide (kv.1=k))=vs.any λkv=>decide (kv.1=k):=by
 unfold KV at r
 induction r with
 | nil=>rfl
 | cons h t ih=>rw[ZyH,ZyH,ih,h.1]
theorem KV.repl{kvs:List (κ × V)}{vs:List (κ × Value)}(r:KV kvs vs)(k:κ){y:V}{u:Value}(ry:RelV y u) :
  KV (kvs.map λkv=>if kv.1=k then(kv.1,y)else kv) (vs.map λkv=>if kv.1=k then(kv.1,u)else kv):=by
 unfold KV at r ⊢
 induction r with
 | nil=>exact .nil
 | @cons p q ps qs h t ih =>
  rw[ZwL,ZwL];refine .cons ?_ ih;obtain⟨h1,h2⟩:=h
  by_cases e:p.1=k
  ·rw[if_pos e,if_pos (h1.symm.trans e)]; exact⟨h1,ry⟩
  ·rw[if_neg e,if_neg (λz=>e (h1.trans z))]; exact⟨h1,h2⟩
theorem KV.put{kvs:List (κ × V)}{vs:List (κ × Value)}(r:KV kvs vs)(k:κ){y:V}{u:Value}(ry:RelV y u):KV (putK kvs k y) (stored vs k u):=by
 unfold putK stored;rw[r.any k]
 by_cases e:(vs.any λkv=>decide (kv.1=k))=true
 ·rw[if_pos e,if_pos e]; exact r.repl k ry
 ·rw[if_neg e,if_neg e]; exact Paired.snoc r ⟨rfl,ry⟩
theorem KV.length{kvs:List (κ × V)}{vs:List (κ × Value)}(r:KV kvs vs):kvs.length=vs.length:=ZyG r
end
theorem Zh4{P:Program}{w:World}{k:Key}{u:Value}(r:RelV (kV k) u):(Zaf P w).is k u=true:=by
 cases k with
 | inl i=>obtain⟨t,e⟩:=(show ∃t,u=Zyp i t from r); subst e; exact Zn2 P w i t
 | inr x=>obtain⟨t,e⟩:=(show ∃t,u=Value.str x t from r); subst e; exact Zn1 P w x t
theorem Zky{P:Program}{w:World}:∀{ks:List Key} {us:List Value},Vals (ks.map kV) us->ItemsAre (Zaf P w) ks us
 | [],_,r=>by rw[ZyP]at r; cases r; exact .nil
 | k::ks,_,r=>by
  rw[ZwL]at r;cases r with
  | cons h t=>exact .cons (Zh4 h) (Zky t)
abbrev KT(H:Hp):List (List Key × V)->List (List Key × Addr × Value)->Prop:=Paired λp q=>p.1=q.1/\H q.2.1=some (.tup (p.1.map kV))/\RelV p.2 q.2.2
theorem KT.val{H:Hp}{kvs:List (List Key × V)}{xs:List (List Key × Addr × Value)}(r:KT H kvs xs)(k:List Key):Zf3 (Zal kvs k) ((atKey xs k).map (·.2)):=by
 induction r with
 | nil=>exact Zzt
 | @cons p q ps qs h t ih =>
  obtain⟨h1,_,h2⟩:=h
  by_cases e:p.1=k
  ·have e':q.1=k:=h1.symm.trans e
   have b:atKey (q::qs) k=some q.2:=by simp[atKey,Zxf,e']
   rw[Zdb e,b]; exact h2
  ·have e':¬q.1=k:=λz=>e (h1.trans z)
   have b:atKey (q::qs) k=atKey qs k:=by simp[atKey,Zxf,e']
   rw[Zc9 e,b]; exact ih
theorem KT.repl{H:Hp}{kvs:List (List Key × V)}{xs:List (List Key × Addr × Value)}(r:KT H kvs xs)(k:List Key){y:V}{u:Value}(ry:RelV y u) :
  KT H (kvs.map λkv=>if kv.1=k then(kv.1,y)else kv) (xs.map (putAt k u)):=by
 induction r with
 | nil=>exact .nil
 | @cons p q ps qs h t ih =>
  rw[ZwL,ZwL];refine .cons ?_ ih;obtain⟨h1,h2,h3⟩:=h;unfold putAt
  by_cases e:p.1=k
  ·rw[if_pos e,if_pos (h1.symm.trans e)]; exact⟨h1,h2,ry⟩
  ·rw[if_neg e,if_neg (λz=>e (h1.trans z))]; exact⟨h1,h2,h3⟩
theorem KT.put{H:Hp}{kvs:List (List Key × V)}{xs:List (List Key × Addr × Value)}(r:KT H kvs xs)(k:List Key){b:Addr}{y:V}{u:Value}(hb:H b=some (.tup (k.map kV)))(ry:RelV y u) :
  KT H (putK kvs k y) (storedH xs k b u):=by
 have e:(kvs.any λkv=>decide (kv.1=k))=(atKey xs k).isSome:=by rw[ZiN,(r.val k).isSome_eq,Zx8]
 unfold putK storedH;rw[e]
 by_cases q:(atKey xs k).isSome=true
 ·rw[if_pos q,if_pos q]; exact r.repl k ry
 ·rw[if_neg q,if_neg q]; exact Paired.snoc r ⟨rfl,hb,ry⟩
theorem KT.keeps{H H':Hp}{kvs:List (List Key × V)}{xs:List (List Key × Addr × Value)}(r:KT H kvs xs)(ht:∀b ys,H b=some (.tup ys)->H' b=some (.tup ys)):KT H' kvs xs :=
 Paired.mapP r λ_ _ z=>⟨z.1,ht _ _ z.2.1,z.2.2⟩
section
variable{P:Program}{w:World}{H:Hp}{h:Heap}{a:Addr}
theorem Zjn{u:HO}(ok:HOk P w H h)(e:Rd H a u):ZV P w H h a u:=e.ok ok
theorem ZgE{kvs:List (Key × V)}(ok:HOk P w H h)(e:Rd H a (.dK kvs)):kvs.length<=sizeLine/\(a==ZxX)=false/\∃vs,KV kvs vs/\h.DictOf (Zaf P w) a vs :=
 show ZV P w H h a (.dK kvs) from Zjn ok e
theorem Zps{kvs:List (Key × V)}(ok:HOk P w H h)(e:H a=some (.dK kvs)):kvs.length<=sizeLine/\(a==ZxX)=false/\∃vs,KV kvs vs/\h.DictOf (Zaf P w) a vs:=ZgE ok (.inl e)
theorem Zgh{ks:List Key}(ok:HOk P w H h)(e:H a=some (.tup (ks.map kV))):(ZzQ (Zaf P w)).is h ks a:=by obtain⟨_,its,r,o,h1,h2,n,h3⟩:=(show ZV P w H h a (.tup (ks.map kV)) from ok a _ e);exact⟨o,its.toArray,n,h1,h2,h3,by simpa using Zky r⟩
theorem Zii{kvs:List (List Key × V)}(ok:HOk P w H h)(e:Rd H a (.dT kvs)):kvs.length<=sizeLine/\(a==ZxX)=false /\
  ∃xs,KT H kvs xs/\h.DictOfH (ZzQ (Zaf P w)) a xs:=by
 obtain⟨z,y,xs,r,o,es,ep,h1,h2,h3,h4,h5⟩:=(show ZV P w H h a (.dT kvs) from Zjn ok e);refine⟨z,y,xs,r,o,es,ep,h1,h2,h3,h4,λx hx=>?_,h5⟩;have all:∀{l:List (List Key × V)} {m:List (List Key × Addr × Value)},KT H l m->∀x∈m,(ZzQ (Zaf P w)).is h x.1 x.2.1:=by
  intro l m q
  induction q with
  | nil=>intro x hx; exact nomatch hx
  | @cons p q ps qs hq t ih =>
   intro x hx;rcases Zw0.mp hx with e | hx
   ·subst e
    exact Zgh ok (by rw[<-hq.1]; exact hq.2.1)
   ·exact ih x hx
 exact all r x hx
theorem Zsm{kvs:List (List Key × V)}(ok:HOk P w H h)(e:H a=some (.dT kvs)):kvs.length<=sizeLine/\(a==ZxX)=false /\
  ∃xs,KT H kvs xs/\h.DictOfH (ZzQ (Zaf P w)) a xs:=Zii ok (.inl e)
end
def Zcf(H:Hp)(a:Addr)(y:V)(r:Option V):Prop :=
 (∃kvs k,Rd H a (.dK kvs)/\y=kV k/\r=Zal kvs k)\/∃kvs k b,Rd H a (.dT kvs)/\y=.ref b/\H b=some (.tup (k.map kV))/\r=Zal kvs k
def ZhM(H:Hp)(a:Addr)(y v:V)(H':Hp):Prop :=
 (∃kvs k,H a=some (.dK kvs)/\y=kV k/\kvs.length<sizeLine/\H'=upd H a (.dK (putK kvs k v))) \/
 ∃kvs k b,H a=some (.dT kvs)/\y=.ref b/\H b=some (.tup (k.map kV))/\kvs.length<sizeLine/\H'=upd H a (.dT (putK kvs k v))
theorem Zcf.k{H:Hp}{a:Addr}{kvs:List (Key × V)}{k:Key}(e:H a=some (.dK kvs)):Zcf H a (kV k) (Zal kvs k):=.inl ⟨kvs,k,.inl e,rfl,rfl⟩
theorem Zcf.t{H:Hp}{a b:Addr}{kvs:List (List Key × V)}{k:List Key}(e:H a=some (.dT kvs))(eb:H b=some (.tup (k.map kV))):Zcf H a (.ref b) (Zal kvs k):=.inr ⟨kvs,k,b,.inl e,rfl,eb,rfl⟩
theorem ZhM.k{H:Hp}{a:Addr}{kvs:List (Key × V)}{k:Key}{v:V}(e:H a=some (.dK kvs))(hl:kvs.length<sizeLine):ZhM H a (kV k) v (upd H a (.dK (putK kvs k v))):=.inl ⟨kvs,k,e,rfl,hl,rfl⟩
theorem ZhM.t{H:Hp}{a b:Addr}{kvs:List (List Key × V)}{k:List Key}{v:V}(e:H a=some (.dT kvs))(eb:H b=some (.tup (k.map kV)))(hl:kvs.length<sizeLine) :
  ZhM H a (.ref b) v (upd H a (.dT (putK kvs k v))):=.inr ⟨kvs,k,b,e,rfl,eb,hl,rfl⟩
section
variable{X:Cx}{pins:List (Addr × Obj)}{σ:St}{H:Hp}{s:Shared}{a:Addr}{y v:V}{u r:Value}{o:Option V}{A:Around}{E:Value->Shared->Prop}
theorem Inv.big(I:Inv X pins σ H s):ZxX<s.heap.objs.size:=by have h:Zxj<s.heap.objs.size:=(I.mod.glob.keeps I.bk).lt;exact Zyu (by decide) h
theorem Zqk{Q:Value->Shared->Prop}(hu:A.units+1<cLine)(I:Inv X pins σ H s)(g:Zcf H a y (some v))(ry:RelV y u)(h:∀w' s',Inv X pins σ H s'->RelV v w'->Q w' s') :
  wpAny (model X.prog X.w) A (getItem (.ref a) u) Q E s:=by
 rcases g with⟨kvs,k,e,ey,l⟩ | ⟨kvs,k,b,e,ey,eb,l⟩
 ·subst ey
  obtain⟨z,hd,vs,rel,dd⟩:=ZgE I.hok e;obtain⟨w',hw,rw'⟩:=Zf3.some_of (v:=v) (o:=valueAt vs k) (by rw[l]; exact rel.val k);exact wpAny_getItem_of (Zh4 ry) dd.mapOf hw (h w' _ (I.tok _) rw')
 ·subst ey
  cases(show u=Zxy b from ry);obtain⟨z,hd,xs,rel,dd⟩:=Zii I.hok e;obtain⟨w',hw,rw'⟩:=Zf3.some_of (v:=v) (o:=(atKey xs k).map (·.2)) (by rw[l]; exact rel.val k);obtain⟨p,hp,hp2⟩:=ZwE.mp hw;refine wpAny_getItem_heap (Zy3 hu) (Zgh I.hok eb) dd hp ?_;rw[hp2];exact h w' _ (I.tok _) rw'
theorem Zv2{Q:Value->Shared->Prop}(hu:A.units+1<cLine)(I:Inv X pins σ H s)(g:Zcf H a y o)(ry:RelV y u)(h:∀s',Inv X pins σ H s'->Q (.bool o.isSome) s') :
  wpAny (model X.prog X.w) A (Zx6 .In u (.ref a)) Q E s:=by
 rcases g with⟨kvs,k,e,ey,l⟩ | ⟨kvs,k,b,e,ey,eb,l⟩
 ·subst ey
  obtain⟨z,hd,vs,rel,dd⟩:=ZgE I.hok e;refine wpAny_in_of (Zh4 ry) hd dd.mapOf ?_;rw[<-(rel.val k).isSome_eq,<-l];exact h _ (I.tok _)
 ·subst ey
  cases(show u=Zxy b from ry);obtain⟨z,hd,xs,rel,dd⟩:=Zii I.hok e;refine wpAny_in_heap (Zy3 hu) (Zgh I.hok eb) hd dd ?_;have q:=(rel.val k).isSome_eq;rw[Zx8]at q;rw[<-q,<-l];exact h _ (I.tok _)
theorem Zs3{Q:Value->Shared->Prop}(hu:A.units+1<cLine)(I:Inv X pins σ H s)(g:Zcf H a y o)(ry:RelV y u)(h:∀s',Inv X pins σ H s'->Q (.bool (!o.isSome)) s') :
  wpAny (model X.prog X.w) A (Zx6 .NotIn u (.ref a)) Q E s:=by
 rcases g with⟨kvs,k,e,ey,l⟩ | ⟨kvs,k,b,e,ey,eb,l⟩
 ·subst ey
  obtain⟨z,hd,vs,rel,dd⟩:=ZgE I.hok e;refine wpAny_notIn_of (Zh4 ry) hd dd.mapOf ?_;rw[<-(rel.val k).isSome_eq,<-l];exact h _ (I.tok _)
 ·subst ey
  cases(show u=Zxy b from ry);obtain⟨z,hd,xs,rel,dd⟩:=Zii I.hok e;refine wpAny_notIn_heap (Zy3 hu) (Zgh I.hok eb) hd dd ?_;have q:=(rel.val k).isSome_eq;rw[Zx8]at q;rw[<-q,<-l];exact h _ (I.tok _)
theorem Zh0{h':Heap}{t':Nat}{ob:HO}(I:Inv X pins σ H s)(mu:Mut (H a))(hs:Zyt a s.heap h')(he:∃q,h'.get? a=some q)(new:ZV X.prog X.w (upd H a ob) h' a ob) :
  Inv X pins σ (upd H a ob) { s with heap:=h',toks:=t' } :=
 I.write (x:=a) (e:=a) mu (.inl rfl) (λb q hb z=>(hs.2 b hb).trans z) he new
theorem Zqx{P:Program}{w:World}{H':Hp}{h':Heap}{kvs:List (Key × V)}{vs:List (Key × Value)}(z:kvs.length<=sizeLine)(hd:(a==ZxX)=false)(rel:KV kvs vs)(dd:h'.DictOf (Zaf P w) a vs) :
  ZV P w H' h' a (.dK kvs):=⟨z,hd,vs,rel,dd⟩
theorem Zqr{H':Hp}{Q:Unit->Shared->Prop}(hu:A.units+1<cLine)(I:Inv X pins σ H s)(g:ZhM H a y v H')(ry:RelV y u)(rv:RelV v r)(h:∀s',Inv X pins σ H' s'->Q () s') :
  wpAny (model X.prog X.w) A (setItem (.ref a) u r) Q E s:=by
 rcases g with⟨kvs,k,e,ey,l,eH⟩ | ⟨kvs,k,b,e,ey,eb,l,eH⟩
 ·subst ey eH
  obtain⟨z,hd,vs,rel,dd⟩:=Zps I.hok e;have hz:vs.length<=sizeLine:=by rw[<-rel.length]; exact z
  have hl:(putK kvs k v).length<=sizeLine:=by have:=ZfZ kvs k v; omega
  refine wpAny_setItem_pairs (hsz:=hz) (Zh4 ry) dd λh' dd' hs=>h _ ?_;have he:∃q,h'.get? a=some q:=let ⟨q,_,_,hq,_⟩:=dd'; ⟨q,hq⟩
  exact Zh0 I (by rw[e]; exact Zzt) hs he (Zqx hl hd (rel.put k rv) dd')
 ·subst ey eH
  cases(show u=Zxy b from ry);obtain⟨z,hd,xs,rel,dd⟩:=Zsm I.hok e;have hz:xs.length<=sizeLine:=by rw[<-ZyG rel]; exact z
  have hl:(putK kvs k v).length<=sizeLine:=by have:=ZfZ kvs k v; omega
  refine wpAny_setItem_heap (hsz:=hz) (Zy3 hu) (Zgh I.hok eb) dd λh' dd' hs=>h _ ?_;obtain⟨q,es,ep,hq,h2,h3,h4,_,h5⟩:=dd';refine Zh0 I (by rw[e]; exact Zzt) hs ⟨q,hq⟩ ⟨hl,hd,_,(rel.put k eb rv).keeps λc ys ec=>?_,q,es,ep,hq,h2,h3,h4,h5⟩;rw[Zx (Zso ec e (λz=>nomatch z))];exact ec
end
section
variable{X:Cx}{pins:List (Addr × Obj)}{σ:St}{H:Hp}{s:Shared}{a:Addr}{kvs:List (Key × V)}{k:Key}{u:Value}{A:Around}{E:Value->Shared->Prop}
theorem Zvo{Q:Value->Shared->Prop}(I:Inv X pins σ H s)(e:Rd H a (.dK kvs))(h:∀t s',Inv X pins σ H s'->Q (.int kvs.length t) s'):wpAny (model X.prog X.w) A (call (.builtin "len") [.ref a]) Q E s:=by obtain⟨z,hd,vs,rel,dd⟩:=ZgE I.hok e;refine call_len_dict hd dd (by rw[<-rel.length]; rw[ZxU]at z; omega) ?_;rw[<-rel.length];exact h _ _ (I.tok _)
end
def ZmS(i:Expr):Prop:=∀ov iv,ZAS i false ov iv=operate [ov,iv] (getItem ov iv)
theorem Zs9{prog:Program}{w:World}{A:Around}{E:Value->Shared->Prop}{s:Shared}{env:Env}{value slice:Expr}{pos:Pos}{T id:String}{Q:Value->Shared->Prop}
  (hl:typeLookup (.type T) "__getitem__" = pure (some (.builtin id))) (hs:ZmS slice)
  (h:wpAny (model prog w) A (eval value env) (λo s₁=>wpAny (model prog w) A (eval slice env) (λi s₂=>s₂.TypeIs o T/\wpAny (model prog w) A (getItem o i) Q E s₂) E s₁) E s) :
  wpAny (model prog w) A (eval (.Subscript value slice pos) env) Q E s:=by
 refine Subscript_ (ZxQ h (λo s₁ h₁=>ZxQ h₁ (λi s₂ h₂=>?_) λ_ _ x=>x) λ_ _ x=>x);obtain⟨hT,h₂⟩:=h₂;unfold subscriptTail;refine ZwB ?_;rw[getitemInPython_of_ne hT.not_modules];refine ZwB (wpAny_specialOf hT hl ?_);have fin:wpAny (model prog w) A (ZAS slice false o i) (λr s₃=>wpAny (model prog w) A (letTemporaryGo value o r >>= λ_=>pure r) Q E s₃) E s₂:=by rw[hs o i];exact wpAny_operating (ZxQ h₂ (λr s₃ h₃=>ZwB (wpAny_letTemporaryGo (ZwF h₃))) λ_ _ x=>x)
 first
  | exact ZwF (ZwB fin)
  | exact ZwB (ZwF (ZwB fin))
  | exact ZwB fin
theorem Zn0{X:Cx}{pins:List (Addr × Obj)}{σ:St}{H:Hp}{s:Shared}{a:Addr}{y:V}{o:Option V}(I:Inv X pins σ H s)(g:Zcf H a y o):s.TypeIs (.ref a) "dict":=by
 rcases g with⟨kvs,k,e,_,_⟩ | ⟨kvs,k,b,e,_,_,_⟩
 ·obtain⟨_,_,vs,_,dd⟩:=ZgE I.hok e
  exact dd.typeIs
 ·obtain⟨_,_,xs,_,dd⟩:=Zii I.hok e
  exact dd.typeIs
def Zvf(td ty:TE):TE:=λσ H Q=>td σ H λx H1=>ty σ H1 λy H2=>∃a v,x=.ref a/\Zcf H2 a y (some v)/\Q v H2
def ZvV(ty td:TE):TE:=λσ H Q=>ty σ H λy H1=>td σ H1 λx H2=>∃a o,x=.ref a/\Zcf H2 a y o/\Q (.bl o.isSome) H2
def Zs7(ty td:TE):TE:=λσ H Q=>ty σ H λy H1=>td σ H1 λx H2=>∃a o,x=.ref a/\Zcf H2 a y o/\Q (.bl (!o.isSome)) H2
def Zvh(td ty tv:TE):TS:=λD σ H=>tv σ H λv H1=>td σ H1 λx H2=>ty σ H2 λy H3=>∃a H4,x=.ref a/\ZhM H3 a y v H4/\D.nx σ H4
section
variable{X:Cx}{o i e value:Expr}{pos pos' tpos:Pos}{td ty tv:TE}
theorem ZoH(hu:X.A.units+1<cLine)(ho:PE X o td)(hi:PE X i ty)(hs:ZmS i):PE X (.Subscript o i pos) (Zvf td ty):=by intro pins s σ H Q I h;refine Zs9 PySem.F.slot_dict_getitem.lookup hs (thn (ho pins s σ H _ I h) λu s1 ⟨x,H1,I1,rx,q1⟩=>thn (hi pins s1 σ H1 _ I1 q1) λiv s2 ⟨y,H2,I2,ry,a,v,ex,g,q2⟩=>?_);subst ex;obtain rfl:u=Zxy a:=rx;exact⟨Zn0 I2 g,Zqk hu I2 g ry λw' s3 I3 rw'=>⟨v,H2,I3,rw',q2⟩⟩
theorem ZuO(hu:X.A.units+1<cLine)(hi:PE X i ty)(ho:PE X o td):PC X .In i o (ZvV ty td):=by intro pins s σ H Q I h;refine thn (hi pins s σ H _ I h) λiv s1 ⟨y,H1,I1,ry,q1⟩=>thn (ho pins s1 σ H1 _ I1 q1) λu s2 ⟨x,H2,I2,rx,a,ov,ex,g,q2⟩=>?_;subst ex;obtain rfl:u=Zxy a:=rx;exact Zv2 hu I2 g ry λs3 I3=>⟨.bl ov.isSome,H2,I3,rfl,q2⟩
theorem Zkw(hu:X.A.units+1<cLine)(hi:PE X i ty)(ho:PE X o td):PC X .NotIn i o (Zs7 ty td):=by intro pins s σ H Q I h;refine thn (hi pins s σ H _ I h) λiv s1 ⟨y,H1,I1,ry,q1⟩=>thn (ho pins s1 σ H1 _ I1 q1) λu s2 ⟨x,H2,I2,rx,a,ov,ex,g,q2⟩=>?_;subst ex;obtain rfl:u=Zxy a:=rx;exact Zs3 hu I2 g ry λs3 I3=>⟨.bl (!ov.isSome),H2,I3,rfl,q2⟩
theorem Zoy(hu:X.A.units+1<cLine)(ho:PE X o td)(hi:PE X i ty)(hv:PE X value tv)(hs:Zy1 value (some (.Subscript o i pos')) pos.line X.env=pure false) :
  PS X (.Assign [.Subscript o i pos'] value pos) (Zvh td ty tv):=by
 intro pins s σ H D I h;refine wpAny_Assign_Subscript (thn (hv pins s σ H _ I h) λr s1 ⟨v,H1,I1,rv,q1⟩=>thn (ho pins s1 σ H1 _ I1 q1) λu s2 ⟨x,H2,I2,rx,q2⟩=>thn (hi pins s2 σ H2 _ I2 q2) λiv s3 ⟨y,H3,I3,ry,a,H4,ex,g,q3⟩=>?_) hs;subst ex;obtain rfl:u=Zxy a:=rx;exact Zqr hu I3 g ry rv λs4 I4=>⟨σ,H4,I4,q3⟩
end
theorem Zns{P:Program}{w:World}{H:Hp}(h:Heap)(hb:ZxX<h.objs.size):ZV P w H (h.push { cls:=.type "dict",data:=.dict #[] }) h.objs.size (.dK []) :=
 ⟨Zx3 _,beq_eq_false_iff_ne.mpr (ZxC (Zw1 hb)),[],.nil,Heap.DictOf.new h⟩
theorem ZrT{P:Program}{w:World}{H:Hp}(h:Heap)(hb:ZxX<h.objs.size):ZV P w H (h.push { cls:=.type "dict",data:=.dict #[] }) h.objs.size (.dT []) :=
 ⟨Zx3 _,beq_eq_false_iff_ne.mpr (ZxC (Zw1 hb)),[],.nil,_,#[],0,ZwX _ rfl,⟨rfl,rfl,rfl⟩,rfl,rfl,Zyq⟩
def ZuW:TE:=λ_ H Q=>∀p,H p=none->Q (.ref p) (upd H p (.dK []))
def ZuX:TE:=λ_ H Q=>∀p,H p=none->Q (.ref p) (upd H p (.dT []))
section
variable{X:Cx}{pos:Pos}
theorem Zrw:PE X (.Dict [] [] pos) ZuW:=λpins s σ H Q I h=>wpAny_Dict_empty ⟨.ref s.heap.objs.size,_,I.laid (a:=s.heap.objs.size) (o:=.dK []) (t':=s.toks) (λ_ _ q=>ZwH _ q) (ZwM _) (Zns s.heap I.big),rfl,h _ (I.hok.fresh (ZwM _))⟩
theorem Zm4:PE X (.Dict [] [] pos) ZuX:=λpins s σ H Q I h=>wpAny_Dict_empty ⟨.ref s.heap.objs.size,_,I.laid (a:=s.heap.objs.size) (o:=.dT []) (t':=s.toks) (λ_ _ q=>ZwH _ q) (ZwM _) (ZrT s.heap I.big),rfl,h _ (I.hok.fresh (ZwM _))⟩
end
def Zl9:List (TE × TE)->St->Hp->(List (V × V)->Hp->Prop)->Prop
 | [],_,H,Q=>Q [] H
 | (tk,tv)::r,σ,H,Q=>tk σ H λx H1=>tv σ H1 λy H2=>Zl9 r σ H2 λps H3=>Q ((x,y)::ps) H3
abbrev VV:List (V × V)->List (Value × Value)->Prop:=Paired λp q=>RelV p.1 q.1/\RelV p.2 q.2
def PPs(X:Cx)(pos:Pos)(keys:List (Option Expr))(values:List Expr)(trs:List (TE × TE)):Prop :=
 ∀(pins:List (Addr × Obj)) (s:Shared) (σ:St) (H:Hp) (Q:List (V × V)->Hp->Prop),Inv X pins σ H s->Zl9 trs σ H Q ->
  wpAny (model X.prog X.w) X.A (evalPairs (pairTrees keys values X.env pos)) (λvs s'=>∃ps H',Inv X pins σ H' s'/\VV ps vs/\Q ps H') X.xe s
theorem Ztg{X:Cx}{pos:Pos}:PPs X pos [] [] []:=λpins s σ H Q I h=>pairTrees_nil_walk ⟨[],H,I,.nil,h⟩
theorem ZrP{X:Cx}{pos:Pos}{k v:Expr}{ks:List (Option Expr)}{vs:List Expr}{tk tv:TE}{trs:List (TE × TE)}(hk:PE X k tk)(hv:PE X v tv)(hr:PPs X pos ks vs trs) :
  PPs X pos (some k::ks) (v::vs) ((tk,tv)::trs):=λpins s σ H Q I h =>
 pairTrees_cons_walk (thn (hk pins s σ H _ I h) λu s1 ⟨x,H1,I1,rx,q1⟩=>thn (hv pins s1 σ H1 _ I1 q1) λw2 s2 ⟨y,H2,I2,ry,q2⟩=>thn (hr pins s2 σ H2 _ I2 q2) λws s3 ⟨ps,H3,I3,rel,q3⟩=>⟨(x,y)::ps,H3,I3,.cons ⟨rx,ry⟩ rel,q3⟩)
def Zgk(kvs more:List (Key × V)):List (Key × V):=more.foldl (λacc kv=>putK acc kv.1 kv.2) kvs
theorem KV.merge:∀{more:List (Key × V)} {rs:List (Key × Value)} {kvs:List (Key × V)} {vs:List (Key × Value)},KV more rs->KV kvs vs->KV (Zgk kvs more) (merged vs rs):=by
 intro more rs kvs vs r;unfold KV at r
 induction r generalizing kvs vs with
 | nil=>intro q; exact q
 | @cons p q ps qs h t ih =>
  intro r0;have e:KV (putK kvs p.1 p.2) (stored vs q.1 q.2):=by have:=r0.put p.1 h.2;rw[<-h.1]; exact this
  exact ih e
theorem Zg7:∀(more kvs:List (Key × V)),(Zgk kvs more).length<=kvs.length+more.length
 | [],kvs=>by show kvs.length<=kvs.length+0; omega
 | p::r,kvs=>by have h1:=Zg7 r (putK kvs p.1 p.2);have h2:=ZfZ kvs p.1 p.2;show(Zgk (putK kvs p.1 p.2) r).length<=_;rw[ZwS]; omega
theorem Zjl{P:Program}{w:World}:∀{kvs:List (Key × V)} {ws:List (Value × Value)},VV (kvs.map λkv=>(kV kv.1,kv.2)) ws->∃rs,Carries (Zaf P w) ws rs/\KV kvs rs
 | [],_,r=>by rw[ZyP]at r; cases r; exact⟨[],Zzt,.nil⟩
 | p::kvs,_,r=>by
  rw[ZwL]at r;cases r with
  | @cons a b as bs h t=>obtain⟨rs,c,q⟩:=Zjl (P:=P) (w:=w) t;obtain⟨b1,b2⟩:=b;exact⟨(p.1,b2)::rs,⟨Zh4 h.1,rfl,c⟩,.cons ⟨rfl,h.2⟩ q⟩
def Zvx(trs:List (TE × TE)):TE:=λσ H Q=>∀p,H p=none->Zl9 trs σ (upd H p (.dK [])) λps H2=>H2 p=some (.dK [])/\∃kvs:List (Key × V),ps=kvs.map (λkv=>(kV kv.1,kv.2))/\kvs.length<=15/\Q (.ref p) (upd H2 p (.dK (Zgk [] kvs)))
theorem Zts{X:Cx}{pos:Pos}{keys:List (Option Expr)}{values:List Expr}{trs:List (TE × TE)}(h:PPs X pos keys values trs)(hall:keys.all (·.isSome)=true)(hl:keys.length=values.length)(h0:keys≠[])
  (h15:keys.length<=15):PE X (.Dict keys values pos) (Zvx trs):=by
 intro pins s σ H Q I q;have hn:=I.hok.fresh (ZwM s.heap.objs.size);have I1:=I.laid (a:=s.heap.objs.size) (o:=.dK []) (h':=s.heap.push { cls:=.type "dict",data:=.dict #[] }) (t':=s.toks) (λ_ _ q=>ZwH _ q) (ZwM _) (Zns s.heap I.big);refine wpAny_Dict_walk (knd:=Zaf X.prog X.w) hall hl h0 h15 (thn (h pins _ σ _ _ I1 (q _ hn)) λws s2 ⟨ps,H2,I2,rel,e,kvs,ep,lk,q2⟩=>?_);subst ep;obtain⟨rs,c,rk⟩:=Zjl (P:=X.prog) (w:=X.w) rel;obtain⟨z,hd,vs0,r0,dd⟩:=Zps I2.hok e;cases r0;refine⟨rs,c,dd,λh' dd' hs=>⟨.ref s.heap.objs.size,_,?_,rfl,q2⟩⟩;have hz:(Zgk [] kvs).length<=sizeLine:=by have h1:=Zg7 kvs [];rw[ZAL]at h1;rw[ZxU]; omega
 have he:∃q,h'.get? s.heap.objs.size=some q:=let ⟨q,_,_,hq,_⟩:=dd'; ⟨q,hq⟩
 exact Zh0 I2 (by rw[e]; exact Zzt) hs he (Zqx hz hd (rk.merge .nil) dd')
structure M2(X:Cx)(o:Expr)(m:Str)(apos:Pos)(e f:Expr)(cpos:Pos):Prop where
 base:Zy0 o m X.env (eval o X.env)=eval o X.env
 few:((backTo cpos (ZwP [e,f] X.env)).all (λx=>!x.1)&&(backToKw cpos (ZAc [] X.env)).all (λx=>x.1.isSome)
  && decide (([e,f]:List Expr).length+([]:List Keyword).length+(if([]:List Keyword).isEmpty then 0 else 1)<30))=true
 line:(apos.endLine==cpos.line)=true
 trees:backTo cpos (ZwP [e,f] X.env)=[(false,eval e X.env),(false,eval f X.env)]
def IsD(H:Hp)(a:Addr):Prop:=(∃kvs,Rd H a (.dK kvs))\/∃kvs,Rd H a (.dT kvs)
theorem ZtR{X:Cx}{pins:List (Addr × Obj)}{σ:St}{H:Hp}{s:Shared}{a:Addr}(I:Inv X pins σ H s)(d:IsD H a) :
  s.TypeIs (.ref a) "dict"/\(∀b,Zxy a=.ref b->∃ob,s.heap.get? b=some ob/\ob.dict=none)/\(a==ZxX)=false:=by
 rcases d with⟨kvs,e⟩ | ⟨kvs,e⟩
 ·obtain⟨_,hd,vs,_,dd⟩:=ZgE I.hok e
  refine⟨dd.typeIs,λb q=>?_,hd⟩;cases q;obtain⟨ob,_,_,h1,h2,_⟩:=dd;exact⟨ob,h1,h2.2.1⟩
 ·obtain⟨_,hd,xs,_,dd⟩:=Zii I.hok e
  refine⟨dd.typeIs,λb q=>?_,hd⟩;cases q;obtain⟨ob,_,_,h1,h2,_⟩:=dd;exact⟨ob,h1,h2.2.1⟩
end L2
namespace Att
open PySem PySem.W PySem.Calls PyProof.Rows
theorem Zjx{P:Params}{h:Heap}:∀(ns:List Int) (vs:List Value),WellAll P h vs (ns.map WData.int)->IntsAre vs ns:=by
 intro ns
 induction ns with
 | nil=>intro vs w;rw[ZyP]at w;cases w;exact .nil
 | cons n ns ih =>
  intro vs w;rw[ZwL]at w;cases w with
  | cons a b=>cases a;exact .cons _ _ (ih _ b)
theorem ZqA{l:OpenLaw}{n:Nat}(hn:l.most=some n){P:Params}{h:Heap}{args:List WData}{vals:List Value}
  (hpre:l.row.toRowW.claim.pre args=true) (hwl:WellAll P h vals args) :
  ∃a vs ns,vals=[Zxy a]/\args=[WData.list (ns.map WData.int)]/\h.get? a=some { cls:=.type "list",data:=.seq vs.toArray }/\IntsAre vs ns/\ns.length<=n:=by
 have hsh:WShape.hasAll [] args [.list .int]=true:=(pre_splitW hpre).1;have hc:l.pre.holds [] { args:=args }=true:=(pre_splitW hpre).2;obtain⟨d,r,rfl,h1,h2⟩:=hasAllW_cons hsh;obtain rfl:=hasAllW_nil h2;obtain⟨xs,rfl,h3⟩:=hasW_list h1;obtain⟨ns,rfl⟩:=items_int h3;have hlen:ns.length<=n:=by
  unfold OpenLaw.pre at hc;have h4:(WTm.not (.lt (.lit (.int (n:Int))) (.len (.arg 0)))).holds [] { args:=[.list (ns.map .int)] }=true:=by have h4:=(holds_andW hc).1;rw[hn]at h4;exact h4
  have h5:=condW_of h4 (w_not (w_lt w_lit (w_len_list (w_arg rfl))));rw[ZwD]at h5;refine Zzg λq=>?_;have q':(n:Int)<((ns.length:Nat):Int):=by omega
  first
   | (rw[decide_eq_true q']at h5; exact absurd h5 (by decide))
   | (simp at h5; omega)
 cases hwl with
 | cons w1 w2 =>
  cases w2;cases w1 with
  | list ho hall=>exact⟨_,_,ns,rfl,rfl,ho,Zjx ns _ hall,hlen⟩
theorem Zqh(l:OpenLaw)(args:List WData):l.row.toRowW.claim.post args (.bool true) args=true :=
 postW_of (r:=l.row.toRowW) (X:=(true==true))
  (show WShape.has [] (.bool true) .bool=true by first | rfl | decide | simp[WShape.has,WShape.arms,WShape.armsAll])
  (show(WTm.eq .res (.lit (.bool true))).value [] { args:=args,res:=some (.bool true),after:=args }=some (.bool (true==true)) from w_eq_bool (w_res rfl) w_lit) rfl
theorem ZnU{l:OpenLaw}{n:Nat}{q:Program}{loose:List Str}{XP:(Str->Option Value)->Heap->Prop}{YP:World->Heap->Prop}{d:DefRec}
  (hn:l.most=some n) (hdf:d.params.defaults=[])
  (call:∀(w:World) (s₀ s₁:Shared) (mg mb:Str->Option Value) (fa:Addr) (o:Obj) (pm cd doc:Value) (a:Addr) (vs:List Value) (ns:List Int),
   Ground q loose [] XP w s₀ mg mb s₁.heap->YP w s₁.heap ->
   s₁.heap.get? fa=some o->o.data=.func (docDef d.name d.params d.body d.scope pm cd doc)->s₁.heap.CodeRec cd d.name->mg d.name=some (.ref fa) ->
   s₁.heap.get? a=some { cls:=.type "list",data:=.seq vs.toArray }->IntsAre vs ns->ns.length<=n->s₁.gens=#[] ->
   codeAny (model l.prog w) callerA (.call (.ref fa) ⟨[.ref a],[]⟩) (λr s'=>r=.ok (.ret (.bool true))/\OldK s₁.heap s'.heap/\s'.os=s₁.os/\AllBare s'.gens) s₁) :
  WalkO q loose XP YP l.row.toRowW d [] (λf vs=>PySem.call f vs):=by
 intro w s₀ s₁ mg mb G Y fa o pm cd doc dV kV ho hd hcd hD hmg hg args vals as hpre hlay hrd hwl hlo;obtain rfl:dV=.none:=Dflts.none hD hdf;obtain rfl:kV=.none:=Dflts.noKw hD;obtain⟨a,vs,ns,rfl,rfl,hobj,hints,hlen⟩:=ZqA hn hpre hwl;refine enter_call (ZyA (call w s₀ s₁ mg mb fa o pm cd doc a vs ns G Y ho (fd_plain hd) hcd hmg hobj hints hlen hg) λr s' hq=>?_);obtain⟨rfl,h2,h3,h4⟩:=hq;exact⟨.inl ⟨.bool true,.bool true,[],rfl,λ_=>rfl,.bool true,Zqh l _,λ_=>⟨List.Pairwise.nil,λ_ hm=>(nomatch hm)⟩⟩,h2,h3,h4⟩
end Att
namespace L2
open PySem PySem.Spec PyProof.Rows
theorem ZkA:∀{vs:List Value} {ns:List Int},IntsAre vs ns->Vals (ns.map V.int) vs
 | _,_,.nil=>.nil
 | _,_,.cons n t h=>.cons ⟨t,rfl⟩ (ZkA h)
end L2
namespace L2
open PySem PySem.Spec PyProof.Rows
end L2
namespace L2
open PySem PySem.Spec PyProof.Rows
def ZbJ(s:Stmt):Arguments:=match s with
 | .FunctionDef _ a _ _ _ _ _ _ _ _=>a
 | _=>{ posonlyargs:=[],args:=[],vararg:=none,kwonlyargs:=[],kw_defaults:=[],kwarg:=none,defaults:=[] }
def Zau(s:Stmt):List Stmt:=match s with
 | .FunctionDef _ _ b _ _ _ _ _ _ _=>b
 | _=>[]
def Ze(s:Stmt):Scope:=match s with
 | .FunctionDef _ _ _ _ _ _ sc _ _ _=>sc
 | _=>{ kind:=.function,names:=[],isGenerator:=false,isCoroutine:=false }
abbrev CX0:CXT:=λ_ _ _ _ _ _=>False
abbrev E0:XK:=λ_ _ _=>False
theorem Zpd{X:Cx}:Passes CX0 X E0:=λ_ _ _ _ _ _ _ h=>h.elim
structure Fun(K:ZwC)(x qual:Str)(st:Stmt)(f:Addr)(fd:FuncData):Prop where
 ex:∃(oc:Value) (od:Option Addr) (kV doc pm:Value) (an:Option Addr) (cdv ct:Value) (osl:Array (Option Value)),
  fd=ZxS x qual (ZbJ st) (Zau st) (Ze st) .none kV doc pm an cdv ct/\K.lookup f=some ⟨oc,od,.func fd,osl⟩/\Zyx K cdv qual=true
 kp:Zx1 K (.ref f)=true
section
variable{P:Program}{w:World}{K:ZwC}{mg:Str->Option Value}{base:Heap}
theorem Fun.ok{x qual:Str}{st:Stmt}{f:Addr}{fd:FuncData}{N ps:List Str}{k:Nat}{sp:Sp}(F:Fun K x qual st f fd)(S:Zw N ps (Ze st))(len:∀vs H Q E,sp vs H Q E->vs.length=ps.length)
  (hbody:∀(cdv:Value) (A:Around) (outer:List Env) (s:Shared) (H:Hp) (vs:List V) (Q:VK) (E:XK),Zah k (A.deeper (envOfC qual (Ze st) s.heap.objs.size f cdv))->sp vs H Q E ->
   ∃t,PSs (Zfk CX0 P w K mg base N qual (Ze st) f cdv A outer s H E).nox (Zau st) t/\t { nx:=λ_ H'=>Q .non H',rt:=Q } (start N vs) H):ZcL P w K mg base CX0 (k+1) f fd ps sp:=by
 obtain⟨oc,od,kV,doc,pm,an,cdv,ct,osl,rfl,lk,hcd⟩:=F.ex;refine Zss lk hcd S len λA outer s H vs Q E hr hsp=>?_;obtain⟨t,h,q⟩:=hbody cdv A outer s H vs Q E hr hsp;exact⟨t,h.nox,q⟩
theorem Fun.binds{x qual:Str}{st:Stmt}{f:Addr}{fd:FuncData}{ps:List Str}(F:Fun K x qual st f fd)
  (h:∀(kV doc pm:Value) (an:Option Addr) (cdv ct:Value) (us:List Value),us.length=ps.length->bindArgs (ZxS x qual (ZbJ st) (Zau st) (Ze st) .none kV doc pm an cdv ct) ⟨us,[]⟩=pure (ps.zip us)):Binds K fd ps []:=by
 obtain⟨oc,od,kV,doc,pm,an,cdv,ct,osl,rfl,lk,hcd⟩:=F.ex;exact .all (h kV doc pm an cdv ct)
theorem Zni{x qual:Str}{st:Stmt}{f:Addr}{oc:Value}{od an:Option Addr}{osl:Array (Option Value)}{kV doc pm cdv ct:Value}(l:K.lookup f=some ⟨oc,od,.func (ZxS x qual (ZbJ st) (Zau st) (Ze st) .none kV doc pm an cdv ct),osl⟩)
  (c:Zyx K cdv qual=true) (k:Zx1 K (.ref f)=true):Fun K x qual st f (ZxS x qual (ZbJ st) (Zau st) (Ze st) .none kV doc pm an cdv ct):=⟨⟨oc,od,kV,doc,pm,an,cdv,ct,osl,rfl,l,c⟩,k⟩
end
theorem ZK{A:Around}{k:Nat}(hr:Zah k A):A.units+1<cLine:=Nat.lt_of_le_of_lt (Nat.add_le_add_left (by decide:1<=64) _) hr.units
theorem Zkf{A B:Prop}(h:B):if false=true then A else B:=by rw[if_neg Zxi];exact h
theorem Zkd{A B:Prop}(h:A):if true=true then A else B:=by rw[if_pos rfl];exact h
def Zp(H H':Hp):Prop:=∀b o,H b=some o->H' b=some o
theorem Zp.refl(H:Hp):Zp H H:=λ_ _ h=>h
theorem Zp.trans{H H1 H2:Hp}(a:Zp H H1)(b:Zp H1 H2):Zp H H2:=λc o h=>b c o (a c o h)
theorem Zp.free{H H':Hp}(e:Zp H H'){l:Addr}(h:H' l=Option.none):H l=Option.none:=by
 cases q:H l with
 | none=>rfl
 | some o=>rw[e l o q]at h;cases h
theorem Zp.seq{K:ZwC}{H H':Hp}{a:Addr}{xs:List V}(e:Zp H H')(h:SqL K H a xs):SqL K H' a xs:=by
 rcases h with(h | ⟨o,h⟩) | h
 ·exact .inl (.inl (e _ _ h))
 ·exact .inl (.inr ⟨o,e _ _ h⟩)
 ·exact .inr h
end L2
namespace L2
open PySem PySem.Spec PyProof.Rows
section
variable{X:Cx}
theorem Zp2:ZaF X (.builtin "len") (λxs H Q=>∃a kvs,xs=[V.ref a]/\H a=some (.dK kvs)/\Q (.int kvs.length) H):=by intro pins s σ H xs us Q I r h;obtain⟨a,kvs,rfl,ha,q⟩:=h;obtain⟨u,rfl,ru⟩:=vals1 r;cases ru;exact Zvo I (.inl ha) λt s' I'=>⟨.int kvs.length,H,I',⟨t,rfl⟩,q⟩
end
end L2
namespace HM
open PySem
abbrev D:=PyData
abbrev Ky:=Sum Int Str
inductive B where
 | pl (d:D)
 | ol (ds:List D)
 | ok (kvs:List (Ky × D))
 | ot (kvs:List (List Ky × D))
 | otl (kvs:List (List Ky × List D))
 | hd (es:List (D × D))
abbrev Env:=List (Option B)
inductive Out where
 | nx (r:Env)
 | rt (d:D)
 | bk (r:Env)
 | ct (r:Env)
abbrev EF:=Env->Option D
abbrev BF:=Env->Option B
abbrev TF:=Env->Option Bool
abbrev IF:=Env->Option (List D)
abbrev AF:=Env->Option (List D)
abbrev SF:=Env->Option Out
@[simp] def big:Nat:=1000000
@[simp] def Zb(i:Nat):EF:=λr=>match r[i]? with
 | some (some (.pl d))=>some d
 | _=>none
@[simp] def Zo(i:Nat):BF:=λr=>match r[i]? with
 | some (some b)=>some b
 | _=>none
@[simp] def bOf(f:EF):BF:=λr=>(f r).map B.pl
def Zai:Ky->D
 | .inl i=>.int i
 | .inr x=>.str x
def Zi(kvs:List (List Ky × D)):List (D × D):=kvs.map λp=>(.tuple (p.1.map Zai),p.2)
@[simp] def frz:B->Option D
 | .pl d=>some d
 | .ol ds=>some (.list ds)
 | .ot kvs=>some (.dict (Zi kvs))
 | .hd es=>some (.dict es)
 | _=>none
@[simp] def eOf(f:BF):EF:=λr=>(f r).bind frz
@[simp] def eC(d:D):EF:=λ_=>some d
@[simp] def op2(g:D->D->Option D)(a b:EF):EF:=λr=>match a r with
 | some x=>match b r with
  | some y=>g x y
  | none=>none
 | none=>none
@[simp] def ZeF(g:Int->Int->Option D):D->D->Option D
 | .int i,.int j=>g i j
 | _,_=>none
def ZP(i:Int):Bool:=Nat.blt i.natAbs 18446744073709551616
@[simp] def ZaO(x y:D):Option D:=ZeF (λi j=>some (.int (i+j))) x y
@[simp] def ZjV(x y:D):Option D:=ZeF (λi j=>some (.int (i-j))) x y
@[simp] def ZcI(x y:D):Option D:=ZeF (λi j=>if ZP i||ZP j then some (.int (i*j))else none) x y
@[simp] def ZrU(x y:D):Option D:=ZeF (λi j=>if 0<j then some (.int (i % j))else none) x y
@[simp] def gLt(x y:D):Option D:=ZeF (λi j=>some (.bool (decide (i<j)))) x y
@[simp] def gLe(x y:D):Option D:=ZeF (λi j=>some (.bool (decide (i<=j)))) x y
@[simp] def gGt(x y:D):Option D:=ZeF (λi j=>some (.bool (decide (j<i)))) x y
def ZbR(d:D):Bool:=d.canLay0&&decide (d.depth<=60)
@[simp] def gEq(a b:D):Option D:=if ZbR a&&ZbR b then some (.bool (Zy4 a b))else none
@[simp] def gNe(a b:D):Option D:=if ZbR a&&ZbR b then some (.bool (!PyData.eqv a b))else none
@[simp] def ZpC(a b:D):Option D:=match b with
 | .none=>match a with
  | .none=>some (.bool true)
  | _=>some (.bool false)
 | _=>none
@[simp] def ZgC(a b:D):Option D:=match b with
 | .none=>match a with
  | .none=>some (.bool false)
  | _=>some (.bool true)
 | _=>none
@[simp] def ZjF(g g':D->D->Option D)(a b c:EF):EF:=λr=>match a r with
 | some x=>match b r with
  | some y=>match g x y with
   | some (.bool true)=>match c r with
    | some z=>g' y z
    | none=>none
   | some (.bool false)=>some (.bool false)
   | _=>none
  | none=>none
 | none=>none
@[simp] def ZrQ(a:EF):EF:=λr=>match a r with
 | some (.bool b)=>some (.bool (!b))
 | _=>none
@[simp] def ZeC(a b:EF):EF:=λr=>match a r with
 | some (.bool true)=>b r
 | some (.bool false)=>some (.bool false)
 | _=>none
@[simp] def tV(a:EF):TF:=λr=>match a r with
 | some (.bool b)=>some b
 | _=>none
@[simp] def ZeG(a:TF):TF:=λr=>(a r).map (!·)
@[simp] def Zf1(a b:TF):TF:=λr=>match a r with
 | some true=>b r
 | some false=>some false
 | none=>none
@[simp] def tOr(a b:TF):TF:=λr=>match a r with
 | some true=>some true
 | some false=>b r
 | none=>none
@[simp] def eIf(c:TF)(a b:EF):EF:=λr=>match c r with
 | some true=>a r
 | some false=>b r
 | none=>none
@[simp] def Zey:B->Option (List D)
 | .pl (.tuple ds)=>some ds
 | .pl (.list ds)=>some ds
 | .ol ds=>some ds
 | _=>none
def ixN(n:Nat)(i:Int):Option Nat :=
 if 0<=i then(if i<n then some i.toNat else none)else(if -(n:Int)<=i then some (i+n).toNat else none)
def atD(ds:List D)(i:Int):Option D:=match ixN ds.length i with
 | some j=>ds[j]?
 | none=>none
@[simp] def eIx(a:BF)(b:EF):EF:=λr=>match a r with
 | some x=>match Zey x with
  | some ds=>match b r with
   | some (.int i)=>atD ds i
   | _=>none
  | none=>none
 | none=>none
@[simp] def Zv7:B->Option Nat
 | .pl (.tuple ds)=>some ds.length
 | .pl (.list ds)=>some ds.length
 | .ol ds=>some ds.length
 | .ok kvs=>some kvs.length
 | _=>none
@[simp] def ZbF(a:BF):EF:=λr=>match a r with
 | some x=>(Zv7 x).map λ(n:Nat)=>Zxv (n:Int)
 | none=>none
@[simp] def ZaQ(a:BF):EF:=λr=>match a r with
 | some x=>(Zey x).map λds=>.tuple ds
 | none=>none
@[simp] def Zib(a:BF):BF:=λr=>match a r with
 | some x=>(Zey x).map λds=>.ol ds
 | none=>none
def Zem:List D->Option (List Bool)
 | []=>some []
 | .bool b::r=>(Zem r).map (b::·)
 | _::_=>none
@[simp] def Zke:B->Option (List D)
 | .pl (.list ds)=>some ds
 | .ol ds=>some ds
 | _=>none
@[simp] def ZhB(a:BF):EF:=λr=>match a r with
 | some x=>match Zke x with
  | some ds=>(Zem ds).map λbs=>.bool (bs.all id)
  | none=>none
 | none=>none
@[simp] def Zm:AF:=λ_=>some []
@[simp] def Zd(a:EF)(b:AF):AF:=λr=>match a r with
 | some x=>(b r).map (x::·)
 | none=>none
@[simp] def ZdK(a:AF):EF:=λr=>(a r).map λds=>.tuple ds
@[simp] def ZcF(a:AF):BF:=λr=>(a r).map λds=>.ol ds
inductive Ty where
 | bool | int | str | tuple | list | dict
@[simp] def ZhK:Ty->D->Bool
 | .bool,.bool _=>true
 | .int,.int _=>true
 | .int,.bool _=>true
 | .str,.str _=>true
 | .tuple,.tuple _=>true
 | .list,.list _=>true
 | .dict,.dict _=>true
 | _,_=>false
@[simp] def Zff(a:EF)(t:Ty):EF:=λr=>match a r with
 | some (.dict _)=>none
 | some d=>some (.bool (ZhK t d))
 | none=>none
@[simp] def Zul(x y:D):Option D:=ZeF (λi j=>some (.int (if j > i then j else i))) x y
@[simp] def Zuy(x y:D):Option D:=ZeF (λi j=>some (.int (if j<i then j else i))) x y
@[simp] def ZmQ(a:EF):EF:=λr=>match a r with
 | some (.int i)=>some (.int i)
 | some (.bool b)=>some (.int (if b then 1 else 0))
 | _=>none
@[simp] def Zpk(a b:BF):BF:=λr=>match a r with
 | some (.ol xs)=>match b r with
  | some (.ol ys)=>if xs.length+ys.length<big then some (.ol (xs++ys))else none
  | _=>none
 | _=>none
@[simp] def ZrZ(a:BF)(b:EF):BF:=λr=>match a r with
 | some (.ol xs)=>match b r with
  | some (.int k)=>if decide (k.natAbs<1000)&&decide (xs.length<1000)then some (.ol (Zxa k.toNat xs).flatten)else none
  | _=>none
 | _=>none
def sIx(n d:Nat):Option Int->Nat
 | none=>d
 | some v=>if v<0 then(v+(n:Int)).toNat else min v.toNat n
def cutD(xs:List D)(lo hi:Option Int):List D:=(xs.drop (sIx xs.length 0 lo)).take (sIx xs.length xs.length hi-sIx xs.length 0 lo)
@[simp] def Zo9(a:Option EF)(r:Env):Option (Option Int):=match a with
 | none=>some none
 | some f=>match f r with
  | some (.int i)=>some (some i)
  | _=>none
@[simp] def Zrm(a:BF)(lo hi:Option EF):BF:=λr=>match a r with
 | some x=>match Zke x with
  | some xs=>match Zo9 lo r with
   | some l=>match Zo9 hi r with
    | some h=>some (.ol (cutD xs l h))
    | none=>none
   | none=>none
  | none=>none
 | none=>none
def Zax:List D->Option (List Int)
 | []=>some []
 | .int i::r=>(Zax r).map (i::·)
 | _::_=>none
def Zh9:List D->Option (List (List Int))
 | []=>some []
 | .tuple ds::r=>match Zax ds with
  | some ns=>(Zh9 r).map (ns::·)
  | none=>none
 | _::_=>none
def lexLt:List Int->List Int->Bool
 | [],[]=>false
 | [],_::_=>true
 | _::_,[]=>false
 | a::r,b::q=>if a=b then lexLt r q else decide (a<b)
def sortI(ns:List Int):List Int:=ns.mergeSort λa b=>decide (a<=b)
def Zee(ts:List (List Int)):List (List Int):=ts.mergeSort λa b=>!lexLt b a
def ofInts(ns:List Int):List D:=ns.map λi=>Zxv i
def Zej(ts:List (List Int)):List D:=ts.map λt=>Zxz (ofInts t)
def Zd9(ds:List D):Option (List D) :=
 if ds.length<64 then match Zax ds with
  | some ns=>some (ofInts (sortI ns))
  | none=>match Zh9 ds with
   | some ts=>if ds.length<2||ts.all (λt=>!t.isEmpty)then some (Zej (Zee ts))else none
   | none=>none
 else none
@[simp] def Zsr:B->Option (List D)
 | .pl (.tuple ds)=>some ds
 | .pl (.list ds)=>some ds
 | .ol ds=>some ds
 | .ok kvs=>some (kvs.map λp=>Zai p.1)
 | .ot kvs=>some (kvs.map λp=>.tuple (p.1.map Zai))
 | .otl kvs=>some (kvs.map λp=>.tuple (p.1.map Zai))
 | _=>none
@[simp] def Zgl(a:BF):BF:=λr=>match a r with
 | some x=>match Zsr x with
  | some ds=>(Zd9 ds).map λds=>.ol ds
  | none=>none
 | none=>none
def dedup:List Int->List Int->List Int
 | acc,[]=>acc
 | acc,i::r=>if acc.contains i then dedup acc r else dedup (acc++[i]) r
def ZrJ(ns:List Int):Bool:=ns.all λn=>decide (0<=n)&&decide (n<8)
@[simp] def ZgD(a:BF):BF:=λr=>match a r with
 | some x=>match Zke x with
  | some ds=>match Zax ds with
   | some ns=>if ZrJ ns then some (.ol (ofInts (sortI (dedup [] ns))))else none
   | none=>none
  | none=>none
 | none=>none
@[simp] def Zn(m:List D->Option D)(a:AF):EF:=λr=>match a r with
 | some ds=>m ds
 | none=>none
@[simp] def ZW(a:BF):IF:=λr=>match a r with
 | some x=>Zey x
 | none=>none
def Zbe(lo:Int)(n:Nat):List D:=(ZwG n).map λ(k:Nat)=>Zxv (lo+(k:Int))
def okR(j:Int):Bool:=Nat.blt j.natAbs 1000000
@[simp] def Zbp(a:EF):IF:=λr=>match a r with
 | some (.int j)=>if okR j then some (Zbe 0 j.toNat)else none
 | _=>none
@[simp] def Zh5(a b:EF):IF:=λr=>match a r with
 | some (.int i)=>match b r with
  | some (.int j)=>if okR i&&okR j then some (Zbe i (j-i).toNat)else none
  | _=>none
 | _=>none
@[simp] def Zfm(i:IF):EF:=λr=>match i r with
 | some ds=>if ds.length<big then some (.tuple ds)else none
 | none=>none
def Zav(c:TF)(e:EF)(r:Env):List D->Option (List D)
 | []=>some []
 | x::xs=>match c (some (.pl x)::r)with
  | some true=>match e (some (.pl x)::r)with
   | some y=>(Zav c e r xs).map (y::·)
   | none=>none
  | some false=>Zav c e r xs
  | none=>none
@[simp] def Zac:TF:=λ_=>some true
@[simp] def ZC(i:IF)(c:TF)(e:EF):BF:=λr=>match i r with
 | some xs=>if xs.length<big then(Zav c e r xs).map λys=>.ol ys else none
 | none=>none
@[simp] def Zy(a b:SF):SF:=λr=>match a r with
 | some (.nx r')=>b r'
 | some (.rt d)=>some (.rt d)
 | some (.bk r')=>some (.bk r')
 | some (.ct r')=>some (.ct r')
 | none=>none
@[simp] def Za9:SF:=λr=>some (.nx r)
@[simp] def Zmd:SF:=λ_=>none
@[simp] def ZJ(a:EF):SF:=λr=>(a r).map Out.rt
@[simp] def Zan(i:Nat)(a:EF):SF:=λr=>(a r).map λd=>.nx (r.set i (some (.pl d)))
@[simp] def ZT(i:Nat)(a:BF):SF:=λr=>(a r).map λb=>.nx (r.set i (some b))
@[simp] def ZjC(i:Nat)(r:Env):Env:=match r[i]? with
 | some (some (.ol ds))=>r.set i (some (.pl (.list ds)))
 | some (some (.ot kvs))=>r.set i (some (.pl (.dict (Zi kvs))))
 | _=>r
@[simp] def Zfo(i:Nat):SF->SF:=λa r=>a (ZjC i r)
@[simp] def Zlp(a:EF):SF:=λr=>(a r).map λ_=>.nx r
@[simp] def sIf(c:TF)(a b:SF):SF:=λr=>match c r with
 | some true=>a r
 | some false=>b r
 | none=>none
def Zas(i:Nat)(body:SF):List D->Env->Option Out
 | [],r=>some (.nx r)
 | x::xs,r=>match body (r.set i (some (.pl x)))with
  | some (.nx r')=>Zas i body xs r'
  | some (.ct r')=>Zas i body xs r'
  | some (.bk r')=>some (.nx r')
  | some (.rt d)=>some (.rt d)
  | none=>none
@[simp] def ZaC(i:Nat)(it:IF)(body:SF):SF:=λr=>match it r with
 | some xs=>if xs.length<big then Zas i body xs r else none
 | none=>none
def Zbh(c:TF)(body:SF):Nat->Env->Option Out
 | 0,_=>none
 | n+1,r=>match c r with
  | some true=>match body r with
   | some (.nx r')=>Zbh c body n r'
   | some (.ct r')=>Zbh c body n r'
   | some (.bk r')=>some (.nx r')
   | some (.rt d)=>some (.rt d)
   | none=>none
  | some false=>some (.nx r)
  | none=>none
@[simp] def ZcV(i:Nat)(a:EF):SF:=λr=>match r[i]? with
 | some (some (.ol ds))=>match a r with
  | some d=>if ds.length<big then some (.nx (r.set i (some (.ol (ds++[d])))))else none
  | none=>none
 | _=>none
@[simp] def Zpq(i:Nat)(k v:EF):SF:=λr=>match v r with
 | some d=>match r[i]? with
  | some (some (.ol ds))=>match k r with
   | some (.int n)=>match ixN ds.length n with
    | some j=>some (.nx (r.set i (some (.ol (ds.set j d)))))
    | none=>none
   | _=>none
  | _=>none
 | none=>none
def putD{k v:Type}[DecidableEq k](kvs:List (k × v))(x:k)(y:v):List (k × v) :=
 if(kvs.any λp=>decide (p.1=x))=true then kvs.map (λp=>if p.1=x then(p.1,y)else p)else kvs++[(x,y)]
def Zf{k v:Type}[DecidableEq k](kvs:List (k × v))(x:k):Option v:=(kvs.find? λp=>decide (p.1=x)).map (·.2)
@[simp] def Zfn:D->Option Ky
 | .int i=>some (.inl i)
 | .str x=>some (.inr x)
 | _=>none
def ZfC:List D->Option (List Ky)
 | []=>some []
 | d::r=>match Zfn d with
  | some k=>(ZfC r).map (k::·)
  | none=>none
def tkL:D->Option (List Ky)
 | .tuple ds=>ZfC ds
 | _=>none
def Zj5:List D->Option (List Ky)
 | []=>some []
 | .int i::r=>(Zj5 r).map (ZxJ i::·)
 | _::_=>none
def Za5:D->Option (List Ky)
 | .tuple ds=>Zj5 ds
 | _=>none
@[simp] def ZfW(i:Nat)(k v:EF):SF:=λr=>match v r with
 | some d=>match k r with
  | some x=>match r[i]? with
   | some (some (.ok kvs))=>match Zfn x with
    | some y=>if kvs.length<big then some (.nx (r.set i (some (.ok (putD kvs y d)))))else none
    | none=>none
   | some (some (.ot kvs))=>match Za5 x with
    | some y=>if kvs.length<big then some (.nx (r.set i (some (.ot (putD kvs y d)))))else none
    | none=>none
   | _=>none
  | none=>none
 | none=>none
@[simp] def fDk:BF:=λ_=>some (.ok [])
@[simp] def fDt:BF:=λ_=>some (.ot [])
@[simp] def Zuk:BF:=λ_=>some (.otl [])
@[simp] def Znj(k v:EF):BF:=λr=>match k r with
 | some x=>match v r with
  | some d=>match Zfn x with
   | some y=>some (.ok [(y,d)])
   | none=>none
  | none=>none
 | none=>none
def Zca{k v:Type}[DecidableEq k](kvs:List (k × List v))(x:k):List (k × List v):=match Zf kvs x with
 | some _=>kvs
 | none=>kvs++[(x,[])]
def ZcW{k v:Type}[DecidableEq k]:List (k × List v)->k->v->List (k × List v)
 | [],_,_=>[]
 | (x,ds)::r,y,d=>if x=y then(x,ds++[d])::r else(x,ds)::ZcW r y d
@[simp] def Zna(i:Nat)(k v:EF):SF:=λr=>match k r with
 | some x=>match r[i]? with
  | some (some (.otl kvs))=>match Za5 x with
   | some y=>if kvs.length<big then
     match v (r.set i (some (.otl (Zca kvs y))))with
     | some d=>match Zf (Zca kvs y) y with
      | some ds=>if ds.length<big then some (.nx (r.set i (some (.otl (ZcW (Zca kvs y) y d)))))else none
      | none=>none
     | none=>none
    else none
   | none=>none
  | _=>none
 | none=>none
@[simp] def hasB(b:B)(x:D):Option Bool:=match b with
 | .ok kvs=>(Zfn x).map λy=>(Zf kvs y).isSome
 | .ot kvs=>(Za5 x).map λy=>(Zf kvs y).isSome
 | .otl kvs=>(Za5 x).map λy=>(Zf kvs y).isSome
 | _=>none
@[simp] def ZcG(k:EF)(a:BF):EF:=λr=>match k r with
 | some x=>match a r with
  | some b=>(hasB b x).map λc=>.bool (!c)
  | none=>none
 | none=>none
@[simp] def Zj0(i:Nat)(k:EF):BF:=λr=>match k r with
 | some x=>match r[i]? with
  | some (some (.ok kvs))=>match Zfn x with
   | some y=>(Zf kvs y).map B.pl
   | none=>none
  | some (some (.ot kvs))=>match Za5 x with
   | some y=>(Zf kvs y).map B.pl
   | none=>none
  | some (some (.otl kvs))=>match Za5 x with
   | some y=>(Zf kvs y).map B.ol
   | none=>none
  | _=>none
 | none=>none
@[simp] def ZiQ(i:Nat)(k:EF):EF:=λr=>match k r with
 | some x=>match r[i]? with
  | some (some (.ok kvs))=>match Zfn x with
   | some y=>Zf kvs y
   | none=>none
  | some (some (.ot kvs))=>match Za5 x with
   | some y=>Zf kvs y
   | none=>none
  | _=>none
 | none=>none
abbrev fnD(t:Nat)(cs:List D):D:=.dict [(.none,.int (Int.ofNat t)),(.none,.list cs)]
@[simp] def ZdN(n:Nat)(ds:List D):Env:=ds.map (λd=>some (B.pl d))++Zxa (n-ds.length) none
@[simp] def fnOf(k n:Nat)(m:SF):List D->Option D:=λds =>
 if ds.length=k then match m (ZdN n ds)with
  | some (.nx _)=>some .none
  | some (.rt d)=>some d
  | _=>none
 else none
end HM
namespace HM
open PySem
def ZuS(ds:List D)(i:Int):Option Bool:=(Zax ds).map λns=>ns.contains i
@[simp] def Zne(k:EF)(a:BF):EF:=λr=>match k r with
 | some (.int i)=>match a r with
  | some b=>match Zey b with
   | some ds=>(ZuS ds i).map λc=>.bool c
   | none=>none
  | none=>none
 | _=>none
@[simp] def Zhw(a:BF):TF:=λr=>match a r with
 | some (.ol ds)=>some (!ds.isEmpty)
 | _=>none
end HM
namespace HM
open PySem
@[simp] def ZmZ(n:Nat)(c:TF)(body:SF):SF:=λr=>Zbh c body n r
end HM
namespace HM
open PySem
end HM
namespace HM
open PySem
def ZeE:List (D × D)->Option (List (List Ky × D))
 | []=>some []
 | (k,v)::r=>match tkL k with
  | some ks=>(ZeE r).map ((ks,v)::·)
  | none=>none
@[simp] def ZjS:B->Option (List (List Ky × D))
 | .ot kvs=>some kvs
 | .pl (.dict es)=>ZeE es
 | .hd es=>ZeE es
 | _=>none
@[simp] def Zl7(k:EF)(a:BF):EF:=λr=>match k r with
 | some x=>match a r with
  | some b=>match ZjS b with
   | some kvs=>(Za5 x).map λy=>.bool (Zf kvs y).isSome
   | none=>none
  | none=>none
 | none=>none
@[simp] def Zdg(k:EF)(a:BF):EF:=λr=>match k r with
 | some x=>match a r with
  | some b=>match ZjS b with
   | some kvs=>(Za5 x).map λy=>.bool (!(Zf kvs y).isSome)
   | none=>none
  | none=>none
 | none=>none
@[simp] def ZaY(a:BF)(k:EF):EF:=λr=>match a r with
 | some b=>match ZjS b with
  | some kvs=>match k r with
   | some x=>match Za5 x with
    | some y=>Zf kvs y
    | none=>none
   | none=>none
  | none=>none
 | none=>none
@[simp] def Zjw:D->Bool
 | .none=>true
 | .bool _=>true
 | .int _=>true
 | .str _=>true
 | _=>false
@[simp] def Zpv(f:BF):EF:=λr=>(f r).bind frz
theorem Zs1(ks:List Ky):tkL (.tuple (ks.map Zai))=some ks:=by
 show ZfC (ks.map Zai)=some ks
 induction ks with
 | nil=>rfl
 | cons k ks ih=>show(match Zfn (Zai k)with | some q=>(ZfC (ks.map Zai)).map (q::·) | none=>none)=_;rw[ih];cases k<;>rfl
theorem dec_enc(kvs:List (List Ky × D)):ZeE (Zi kvs)=some kvs:=by
 induction kvs with
 | nil=>rfl
 | cons p kvs ih=>obtain⟨k,d⟩:=p;show(match tkL (.tuple (k.map Zai))with | some ks=>(ZeE (Zi kvs)).map ((ks,d)::·) | none=>none)=_;rw[Zs1,ih];rfl
end HM
namespace HM
open PySem
@[simp] def ZeP(a:BF):EF:=λr=>match a r with
 | some x=>match Zke x with
  | some ds=>match Zax ds with
   | some ns=>ns.max?.map λi=>Zxv i
   | none=>none
  | none=>none
 | none=>none
end HM
namespace HM
open PySem
end HM
namespace HM
open PySem
@[simp] def Zih(i:Nat)(f:BF):SF:=λr=>match r[i]? with
 | some (some (.ol ds))=>match f r with
  | some (.ol es)=>if ds.length+es.length<big then some (.nx (r.set i (some (.ol (ds++es)))))else none
  | _=>none
 | _=>none
@[simp] def ZrS(i j:Nat):SF:=λr=>match r[j]? with
 | some (some (.ol ds))=>match ds[ds.length-1]? with
  | some d=>some (.nx ((r.set j (some (.ol ds.dropLast))).set i (some (.pl d))))
  | none=>none
 | _=>none
@[simp] def Zhs(m:List D->Option D)(a:AF):BF:=λr=>match a r with
 | some ds=>match m ds with
  | some (.list ys)=>some (.ol ys)
  | _=>none
 | none=>none
def ZaW:Option B->Bool
 | some (.hd _)=>true
 | _=>false
@[simp] def Zd8(i:Nat)(g:SF):SF:=λr=>match r[i]? with
 | some (some (.pl (.dict es)))=>if r.all (λq=>!ZaW q)then match g (r.set i (some (.hd es)))with
   | some (.nx r')=>match r'[i]? with
    | some (some (.hd es'))=>if(r'.set i none).all (λq=>!ZaW q)then some (.nx (r'.set i (some (.pl (.dict es')))))else none
    | _=>none
   | some (.rt d)=>some (.rt d)
   | _=>none
  else none
 | _=>g r
@[simp] def ZaK(i:Nat):IF:=λr=>match r[i]? with
 | some (some (.pl (.tuple ds)))=>some ds
 | some (some (.pl (.list ds)))=>some ds
 | some (some (.hd es))=>(ZeE es).map λkvs=>kvs.map λp=>.tuple (p.1.map Zai)
 | _=>none
end HM
namespace HM
open PySem
end HM
namespace HM
open PySem
end HM
namespace HM
open PySem
abbrev AP:=Nat->List D->List D->Option D
def Zka:D->Option (Nat × List D)
 | .dict [(.none,.int (Int.ofNat t)),(.none,.list cs)]=>some (t,cs)
 | _=>none
@[simp] def Zfq(ap:AP)(i:Nat)(a:AF):EF:=λr=>match r[i]? with
 | some (some (.pl d))=>match Zka d with
  | some (t,cs)=>match a r with
   | some ds=>ap t cs ds
   | none=>none
  | none=>none
 | _=>none
def noF:Nat->D->Bool
 | _,.none=>true
 | _,.bool _=>true
 | _,.int _=>true
 | _,.str _=>true
 | n+1,.tuple ds=>ds.all (noF n)
 | n+1,.list ds=>ds.all (noF n)
 | n+1,.dict es=>es.all λp=>(match p.1 with | .none=>false | _=>true)&&noF n p.2
 | _,_=>false
def Zjt:List Nat->Env->Option (List D)
 | [],_=>some []
 | i::is,r=>match r[i]? with
  | some (some (.pl d))=>(Zjt is r).map (d::·)
  | _=>none
@[simp] def ZgU(m:List D->Option D)(t:Nat)(is:List Nat)(a:EF):EF:=λr=>match a r with
 | some d1=>match Zjt is r with
  | some cs=>if cs.all (noF 20)then match m [d1,fnD t cs]with
    | some d=>if noF 20 d then some d else none
    | none=>none
   else none
  | none=>none
 | none=>none
def Zjz(n m:Nat)(e:EF):List D->List D->Option D:=λcs ds=>if ds.length=n/\cs.length=m/\ds.all (noF 20)=true then e ((ds++cs).map λd=>some (B.pl d))else none
@[simp] def ZeT(a:BF):EF:=λr=>match a r with
 | some x=>match Zke x with
  | some ds=>match Zax ds with
   | some ns=>some (match ns.min? with | some i=>.int i | none=>.none)
   | none=>none
  | none=>none
 | none=>none
abbrev NF:=Env->Option (List (List Ky × D))
@[simp] def ZiY(a:SF)(m:NF):NF:=λr=>match a r with
 | some (.nx r')=>m r'
 | _=>none
@[simp] def Zmu(j:Nat):NF:=λr=>match r[j]? with
 | some (some (.ot kvs))=>some kvs
 | _=>none
def newOf(k n:Nat)(m:NF):List D->Option (List (List Ky × D)):=λds=>if ds.length=k then m (ZdN n ds)else none
@[simp] def ZhJ(m:List D->Option (List (List Ky × D)))(a:AF):BF:=λr=>match a r with
 | some ds=>match m ds with
  | some kvs=>if kvs.all (λp=>Zjw p.2)then some (.ot kvs)else none
  | none=>none
 | none=>none
end HM
namespace HM
open PySem
end HM
namespace HP
open PySem PySem.Spec PyProof.Rows L2
@[reducible] def Zcw(H':Hp)(b:Addr):HO->Prop
 | .tbl _=>∃ps',H' b=some (.tbl ps')
 | o=>H' b=some o
def Zab(H H':Hp):Prop:=∀b o,H b=some o->Zcw H' b o
theorem Zcw.of{H':Hp}{b:Addr}{o:HO}(h:H' b=some o):Zcw H' b o:=by cases o<;>first | exact h | exact⟨_,h⟩
theorem Zcw.ex{H':Hp}{b:Addr}{o:HO}(h:Zcw H' b o):∃u,H' b=some u:=by cases o<;>first | exact⟨_,h⟩ | (obtain⟨ps,e⟩:=h; exact⟨_,e⟩)
theorem Zcw.no{H':Hp}{b:Addr}{o:HO}(h:Zcw H' b o)(n:∀ps,o≠.tbl ps):H' b=some o:=by cases o<;>first | exact h | exact absurd rfl (n _)
theorem Zab.of{H H':Hp}(s:Zp H H'):Zab H H':=λb o h=>.of (s b o h)
theorem Zab.refl(H:Hp):Zab H H:=.of (.refl H)
theorem Zab.trans{H H1 H2:Hp}(a:Zab H H1)(b:Zab H1 H2):Zab H H2:=λc o h=>by have h1:=a c o h;cases o<;>first | exact b c _ h1 | (obtain⟨ps,e⟩:=h1; exact(show ∃ps',H2 c=some (.tbl ps') from b c _ e))
theorem Zab.free{H H':Hp}(e:Zab H H'){l:Addr}(h:H' l=none):H l=none:=by
 cases q:H l with
 | none=>rfl
 | some o=>obtain⟨u,z⟩:=(e l o q).ex;rw[h]at z; cases z
theorem Zab.back{H H':Hp}(e:Zab H H'){l:Addr}{o u:HO}(h:H l=some o)(h':H' l=some u)(n:∀ps,u≠.tbl ps):o=u:=by have z:=e l o h;cases o<;>first | (obtain⟨ps,q⟩:=z; rw[h']at q; cases q; exact absurd rfl (n _)) | (have z:H' l=some _:=z; rw[h']at z; cases z; rfl)
def Zce(H:Hp):Hp:=λb=>match H b with
 | some (.tbl _)=>none
 | x=>x
def nt:HO->Bool
 | .tbl _=>false
 | _=>true
def NoT(F:Hp):Prop:=∀b o,F b=some o->nt o=true
theorem ZbU{H:Hp}{b:Addr}{o:HO}(h:H b=some o)(n:nt o=true):Zce H b=some o:=by unfold Zce; rw[h];cases o<;>first | rfl | cases n
theorem ZfH{H:Hp}{b:Addr}{o:HO}(h:Zce H b=some o):H b=some o/\nt o=true:=by
 unfold Zce at h;split at h
 ·cases h
 ·rename_i n
  refine⟨h,?_⟩;cases o<;>first | rfl | exact absurd h (n _)
theorem Zku{H:Hp}:Zp (Zce H) H:=λb o h=>(ZfH h).1
theorem NoT.drop{H:Hp}:NoT (Zce H):=λb o h=>(ZfH h).2
theorem NoT.sub{F H:Hp}(n:NoT F)(s:Zp F H):Zp F (Zce H):=λb o h=>ZbU (s b o h) (n b o h)
theorem NoT.upd{F:Hp}{p:Addr}{o:HO}(n:NoT F)(h:nt o=true):NoT (upd F p o):=λb u z=>by
 by_cases hb:b=p
 ·subst hb; rw[Zz]at z; cases z; exact h
 ·rw[Zx hb]at z; exact n b u z
theorem Zab.ntb{H H':Hp}(s:Zab H H'){b:Addr}{o:HO}(h:H b=some o)(n:nt o=true):H' b=some o:=(s b o h).no λps z=>by subst z; cases n
def Dk(vvs:List (List Key × V))(u:HO):Prop:=u=.dT vvs\/∃o,u=.frz o (.dT vvs)
def sw(a:Addr)(ob:HO)(G:Hp):Hp:=λb=>if b=a then(G a).map (λ_=>ob)else G b
class FX where
 tl:List (Addr × Str)
 fv:Nat->List PyData->Hp->Addr->Prop
 sw:∀{t:Nat} {cs:List PyData} {F:Hp} {a b:Addr} {ob:HO} {vvs:List (List Key × V)},(∀u,F a=some u->Dk vvs u)->Dk vvs ob->fv t cs F b->fv t cs (sw a ob F) b
 drop:∀{t:Nat} {cs:List PyData} {F:Hp} {a:Addr},fv t cs F a->fv t cs (Zce F) a
 mono:∀{t:Nat} {cs:List PyData} {F F':Hp} {a:Addr},fv t cs F a->Zp F F'->fv t cs F' a
variable[FX]
def ZaR(a:Addr)(o:Obj):HO:=.ext λh=>h.get? a=some o
def Zkb(o:Obj)(q:Str):Prop:=∃vs t,o.data=.fields vs/\vs[1]?=some (.str q t)
def Tb(H:Hp):Prop:=∀P q,(P,q)∈FX.tl->∃ps,H P=some (.tbl ps)/\TriplesOk ps.toList/\∀pos c,ZAe pos ps.toList=some c->∃a o,c=.ref a/\H a=some (ZaR a o)/\Zkb o q
def Zj9:HO->Bool
 | .lst _=>true
 | .dK _=>true
 | .dT _=>true
 | _=>false
def te:HO->Bool
 | .tbl _=>true
 | .ext _=>true
 | _=>false
theorem Zqy{o:HO}(h:Zj9 o=true)(h':te o=true):False:=by cases o<;>simp_all [Zj9,te]
theorem Tb.keep{H H':Hp}(t:Tb H)(k:∀a o,H a=some o->te o=true->H' a=some o):Tb H':=λP q hP=>by obtain⟨ps,h1,h2,h3⟩:=t P q hP;refine⟨ps,k _ _ h1 rfl,h2,λpos c hc=>?_⟩;obtain⟨a,o,e1,e2,e3⟩:=h3 pos c hc;exact⟨a,o,e1,k _ _ e2 rfl,e3⟩
theorem Dk.te{vvs:List (List Key × V)}{u:HO}(h:Dk vvs u):te u=false:=by rcases h with h | ⟨o,h⟩<;>subst h<;>rfl
theorem Dk.ntt{vvs:List (List Key × V)}{u:HO}(h:Dk vvs u):nt u=true:=by rcases h with h | ⟨o,h⟩<;>subst h<;>rfl
theorem Tb.sw{G:Hp}{a:Addr}{ob:HO}{vvs:List (List Key × V)}(hG:∀u,G a=some u->Dk vvs u)(t:Tb G):Tb (HP.sw a ob G):=t.keep λb o z ht=>by
 have hb:b≠a:=λe=>by subst e; rw[(hG o z).te]at ht; cases ht
 unfold HP.sw; rw[if_neg hb]; exact z
theorem Tb.unsw{G:Hp}{a:Addr}{ob:HO}{vvs:List (List Key × V)}(hob:Dk vvs ob)(t:Tb (HP.sw a ob G)):Tb G:=t.keep λb o z ht=>by
 unfold HP.sw at z;split at z
 ·obtain⟨u,_,e⟩:=ZwE.mp z
  subst e; rw[hob.te]at ht; cases ht
 ·exact z
theorem Zcw.cong{H H':Hp}{b:Addr}{o:HO}(e:H' b=H b)(h:Zcw H b o):Zcw H' b o:=by unfold Zcw at h ⊢; rw[e]; exact h
theorem Zab.sw{H0 H:Hp}{a:Addr}{ob:HO}(s:Zab H0 H):Zab (HP.sw a ob H0) (HP.sw a ob H):=λb o z=>by
 by_cases hb:b=a
 ·subst hb
  unfold HP.sw at z;rw[if_pos rfl]at z;obtain⟨u,h1,h2⟩:=ZwE.mp z;obtain⟨w,hw⟩:=(s _ _ h1).ex;refine .of ?_;unfold HP.sw;rw[if_pos rfl,hw,h2.symm]; rfl
 ·unfold HP.sw at z
  rw[if_neg hb]at z;refine(s b o z).cong ?_;unfold HP.sw; rw[if_neg hb]
theorem Tb.same{H H':Hp}(t:Tb H)(s:Zp H H'):Tb H':=t.keep λa o h _=>s a o h
theorem Zig{F F':Hp}{a:Addr}{u:HO}(r:Rd F a u)(s:Zp F F'):Rd F' a u:=r.imp (λh=>s _ _ h) λ⟨o,h⟩=>⟨o,s _ _ h⟩
def Zv4(K:ZwC)(a:Addr)(vs:List V):Prop:=∃(o:Obj) (its:Array Value) (n:Nat),K.lookup a=some o/\o.cls=.type "tuple"/\o.data=.seq its n/\its.size<=sizeLine/\Vals vs its.toList
theorem Zry{K:ZwC}{F F':Hp}{a:Addr}{vs:List V}(h:SqT K F a vs)(s:Zp F F'):SqT K F' a vs:=h.imp (λh=>Zig h s) id
inductive Rep(K:ZwC)(F:Hp):PyData->V->Prop where
 | non:Rep K F .none .non
 | bl (b:Bool):Rep K F (.bool b) (.bl b)
 | int (i:Int):Rep K F (.int i) (.int i)
 | str (x:Str):Rep K F (.str x) (.str x)
 | tupk {a:Addr} {x:Str} (h:Zv4 K a [.str x]):Rep K F (.tuple [.str x]) (.ref a)
 | tup {a:Addr} {ds:List PyData} {vs:List V} (h:F a=some (.tup vs)) (hl:ds.length=vs.length) (hr:∀(i:Nat) (d:PyData) (v:V),ds[i]?=some d->vs[i]?=some v->Rep K F d v):Rep K F (.tuple ds) (.ref a)
 | lst {a:Addr} {ds:List PyData} {vs:List V} (h:SqL K F a vs) (hl:ds.length=vs.length) (hr:∀(i:Nat) (d:PyData) (v:V),ds[i]?=some d->vs[i]?=some v->Rep K F d v):Rep K F (.list ds) (.ref a)
 | dct {a:Addr} {es:List (PyData × PyData)} {kvs:List (List Key × PyData)} {vvs:List (List Key × V)} (h:Rd F a (.dT vvs)) (he:es=HM.Zi kvs) (hk:kvs.map (·.1)=vvs.map (·.1)) (hr:∀(i:Nat) (d:PyData) (v:V),(kvs.map (·.2))[i]?=some d->(vvs.map (·.2))[i]?=some v->Rep K F d v):Rep K F (.dict es) (.ref a)
 | fn {a:Addr} {t:Nat} {cs:List PyData} (h:FX.fv t cs F a):Rep K F (.dict [(.none,.int (Int.ofNat t)),(.none,.list cs)]) (.ref a)
def Zq(K:ZwC)(F:Hp)(ds:List PyData)(vs:List V):Prop:=ds.length=vs.length/\∀(i:Nat) (d:PyData) (v:V),ds[i]?=some d->vs[i]?=some v->Rep K F d v
section
variable{K:ZwC}{F F':Hp}{d:PyData}{v:V}{ds es:List PyData}{vs us:List V}
theorem Rep.mono(r:Rep K F d v)(s:Zp F F'):Rep K F' d v:=by
 induction r with
 | non=>exact .non
 | bl b=>exact .bl b
 | int i=>exact .int i
 | str x=>exact .str x
 | tup h hl _ ih=>exact .tup (s _ _ h) hl ih
 | tupk h=>exact .tupk h
 | lst h hl _ ih=>exact .lst (s.seq h) hl ih
 | dct h he hk _ ih=>exact .dct (Zig h s) he hk ih
 | fn h=>exact .fn (FX.mono h s)
theorem Rep.drop(r:Rep K F d v):Rep K (Zce F) d v:=by
 induction r with
 | non=>exact .non
 | bl b=>exact .bl b
 | int i=>exact .int i
 | str x=>exact .str x
 | tup h hl _ ih=>exact .tup (ZbU h rfl) hl ih
 | tupk h=>exact .tupk h
 | lst h hl _ ih =>
  refine .lst ?_ hl ih;rcases h with(h | ⟨o,h⟩) | h
  ·exact .inl (.inl (ZbU h rfl))
  ·exact .inl (.inr ⟨o,ZbU h rfl⟩)
  ·exact .inr h
 | dct h he hk _ ih =>
  refine .dct ?_ he hk ih;rcases h with h | ⟨o,h⟩
  ·exact .inl (ZbU h rfl)
  ·exact .inr ⟨o,ZbU h rfl⟩
 | fn h=>exact .fn (FX.drop h)
theorem Zq.drop'(r:Zq K F ds vs):Zq K (Zce F) ds vs:=⟨r.1,λi d v h1 h2=>(r.2 i d v h1 h2).drop⟩
theorem Zab.dr{H H':Hp}(s:Zab H H'):Zp (Zce H) H':=λb o h=>s.ntb (ZfH h).1 (ZfH h).2
theorem Rep.monoT{H H':Hp}(r:Rep K H d v)(s:Zab H H'):Rep K H' d v:=r.drop.mono s.dr
theorem Zq.mono(r:Zq K F ds vs)(s:Zp F F'):Zq K F' ds vs:=⟨r.1,λi d v h1 h2=>(r.2 i d v h1 h2).mono s⟩
theorem Zq.nil:Zq K F [] []:=⟨rfl,λi d v h=>by simp at h⟩
theorem Zq.cons(r:Rep K F d v)(q:Zq K F ds vs):Zq K F (d::ds) (v::vs) :=
 ⟨by rw[ZwS,ZwS,q.1],λi e u h1 h2=>by
  cases i with
  | zero=>rw[ZyX]at h1 h2;cases h1; cases h2; exact r
  | succ i=>rw[Zxh]at h1 h2;exact q.2 i e u h1 h2⟩
theorem Zq.nil_inv(r:Zq K F [] vs):vs=[]:=Zy6 r.1.symm
theorem Zq.cons_inv(r:Zq K F (d::ds) vs):∃v us,vs=v::us/\Rep K F d v/\Zq K F ds us:=by
 cases vs with
 | nil=>exact absurd r.1 (by simp)
 | cons v us =>
  refine⟨v,us,rfl,r.2 0 d v rfl rfl,?_,λi e u h1 h2=>r.2 (i+1) e u ?_ ?_⟩
  ·have:=r.1
   rw[ZwS,ZwS]at this;omega
  ·rw[Zxh]; exact h1
  ·rw[Zxh]; exact h2
theorem Zq.append(r:Zq K F ds vs)(q:Zq K F es us):Zq K F (ds++es) (vs++us):=by
 refine⟨by rw[ZwY,ZwY,r.1,q.1],λi e u h1 h2=>?_⟩
 by_cases hi:i<ds.length
 ·rw[Zxo hi]at h1
  rw[Zxo (by rw[<-r.1]; exact hi)]at h2;exact r.2 i e u h1 h2
 ·rw[Zxk (by omega)]at h1
  rw[Zxk (by have:=r.1; omega),<-r.1]at h2;exact q.2 _ e u h1 h2
theorem Zq.get(r:Zq K F ds vs){i:Nat}(h:ds[i]?=some d):∃v,vs[i]?=some v/\Rep K F d v:=by
 have hi:i<vs.length:=by rw[<-r.1]; exact(ZwQ.mp h).1
 exact⟨vs[i],ZwR hi,r.2 i d _ h (ZwR hi)⟩
theorem Zq.drop(r:Zq K F ds vs)(n:Nat):Zq K F (ds.drop n) (vs.drop n) :=
 ⟨by rw[Zzf,Zzf,r.1],λi e u h1 h2=>by rw[List.getElem?_drop]at h1 h2;exact r.2 _ e u h1 h2⟩
theorem Zq.take(r:Zq K F ds vs)(n:Nat):Zq K F (ds.take n) (vs.take n) :=
 ⟨by rw[Zye,Zye,r.1],λi e u h1 h2=>by
  by_cases hi:i<n
  ·rw[ZAC hi]at h1 h2
   exact r.2 _ e u h1 h2
  ·rw[List.getElem?_take_eq_none (by omega)]at h1
   cases h1⟩
theorem Zq.set(r:Zq K F ds vs)(q:Rep K F d v)(j:Nat):Zq K F (ds.set j d) (vs.set j v):=by
 refine⟨by rw[ZxO,ZxO,r.1],λi e u h1 h2=>?_⟩;have hi:i<ds.length:=by have:=(ZwQ.mp h1).1; rwa [ZxO]at this
 by_cases e1:j=i
 ·subst e1
  rw[Zxp hi]at h1;rw[Zxp (by rw[<-r.1]; exact hi)]at h2;cases h1; cases h2; exact q
 ·rw[Zw8 e1]at h1 h2
  exact r.2 i e u h1 h2
theorem Zq.rep(r:Zq K F ds vs)(k:Nat):Zq K F (Zxa k ds).flatten (Zxa k vs).flatten:=by
 induction k with
 | zero=>exact Zq.nil
 | succ k ih=>rw[Zyj,Zyj,ZyL,ZyL]; exact r.append ih
theorem Zq.one(r:Rep K F d v):Zq K F [d] [v]:=.cons r .nil
end
def Fre(H:Hp)(a:Addr)(o:HO):Prop:=H a=none\/∃xs,o=.tup xs/\H a=some (.tup xs)
theorem Fre.back{H H':Hp}{a:Addr}{o:HO}(s:Zab H H')(f:Fre H' a o):Fre H a o:=by
 rcases f with f | ⟨xs,e,f⟩
 ·exact .inl (s.free f)
 ·cases q:H a with
  | none=>exact .inl q
  | some u =>
   have:=s.back q f λ_ z=>by cases z
   subst this;exact .inr ⟨xs,e,q⟩
theorem Fre.no{H:Hp}{a:Addr}{o u:HO}(f:Fre H a o)(h:H a=some u)(n:∀xs,u≠.tup xs):False:=by
 rcases f with f | ⟨xs,_,f⟩
 ·rw[h]at f; cases f
 ·rw[h]at f; cases f; exact n xs rfl
structure Ext(F H F' H':Hp):Prop where
 ff:Zp F F'
 hh:Zab H H'
 sub:Zp F' H'
 new:∀a o,F' a=some o->F a=some o\/Fre H a o
 tab:Tb H->Tb H'
 nts:NoT F->NoT F'
theorem Ext.refl{F H:Hp}(s:Zp F H):Ext F H F H:=⟨Zp.refl F,Zab.refl H,s,λ_ _ h=>.inl h,id,id⟩
theorem Ext.trans{F H F1 H1 F2 H2:Hp}(a:Ext F H F1 H1)(b:Ext F1 H1 F2 H2):Ext F H F2 H2 :=
 ⟨a.ff.trans b.ff,a.hh.trans b.hh,b.sub,λx o h=>by
  rcases b.new x o h with q | q
  ·exact a.new x o q
  ·exact .inr (q.back a.hh),λt=>b.tab (a.tab t),λt=>b.nts (a.nts t)⟩
theorem Zi7{F:Hp}{p:Addr}{o:HO}(h:F p=none):Zp F (upd F p o):=λb q z=>by rw[Zx (Z6 z h)]; exact z
theorem Ext.lay{F H F' H':Hp}(e:Ext F H F' H'){p:Addr}{o:HO}(h:H' p=none)(no:nt o=true:=by rfl):Ext F H (upd F' p o) (upd H' p o):=by
 have hF:F' p=none:=e.sub.free h;refine⟨λb q z=>?_,e.hh.trans (.of (Zi7 h)),λb q z=>?_,λb q z=>?_,λt=>(e.tab t).same (Zi7 h),λt=>(e.nts t).upd no⟩
 ·rw[Zx (Z6 (e.ff b q z) hF)]; exact e.ff b q z
 ·by_cases hb:b=p
  ·subst hb; rw[Zz]at z ⊢; exact z
  ·rw[Zx hb]at z ⊢; exact e.sub b q z
 ·by_cases hb:b=p
  ·subst hb; exact .inr (.inl (e.hh.free h))
  ·rw[Zx hb]at z; exact e.new b q z
theorem Ext.lay'{F H F' H':Hp}(e:Ext F H F' H'){p:Addr}{o:HO}(h:H' p=none):Ext F H F' (upd H' p o):=by refine⟨e.ff,e.hh.trans (.of (Zi7 h)),λb q z=>?_,e.new,λt=>(e.tab t).same (Zi7 h),e.nts⟩;rw[Zx (Z6 (e.sub b q z) h)]; exact e.sub b q z
theorem Zp.upd'{F:Hp}{p:Addr}{o:HO}(h:F p=none):Zp F (upd F p o):=λb q z=>by rw[Zx (Z6 z h)]; exact z
def Zb3(F H:Hp):Hp:=λa=>match H a with
 | some (.tup xs)=>some (.tup xs)
 | _=>F a
theorem Zmw{F H:Hp}{a:Addr}{xs:List V}(h:H a=some (.tup xs)):Zb3 F H a=some (.tup xs):=by unfold Zb3; rw[h]
theorem ZcU{F H:Hp}(s:Zp F H):Zp F (Zb3 F H):=λa o h=>by
 have:=s a o h;unfold Zb3;split
 ·rename_i xs q
  rw[q]at this;exact this
 ·exact h
theorem Ext.tups{F H F' H':Hp}(e:Ext F H F' H'):Ext F H (Zb3 F' H') H':=by
 have key:Ext F' H' (Zb3 F' H') H':=by
  refine⟨ZcU e.sub,Zab.refl H',λa o h=>?_,λa o h=>?_,id,λn a o h=>?_⟩
  ·unfold Zb3 at h
   split at h
   ·rename_i xs q; rw[q]; exact h
   ·exact e.sub a o h
  ·unfold Zb3 at h
   split at h
   ·rename_i xs q
    cases h;exact .inr (.inr ⟨xs,rfl,q⟩)
   ·exact .inl h
  ·unfold Zb3 at h
   split at h
   ·cases h; rfl
   ·exact n a o h
 exact e.trans key
inductive ZX(K:ZwC)(F H:Hp):HM.B->V->List Addr->Prop where
 | pl {d:PyData} {v:V} (r:Rep K F d v):ZX K F H (.pl d) v []
 | ol {a:Addr} {ds:List PyData} {vs:List V} (h:H a=some (.lst vs)) (r:Zq K F ds vs):ZX K F H (.ol ds) (.ref a) [a]
 | ok {a:Addr} {kvs:List (Key × PyData)} {vvs:List (Key × V)} (h:H a=some (.dK vvs)) (hk:kvs.map (·.1)=vvs.map (·.1)) (r:Zq K F (kvs.map (·.2)) (vvs.map (·.2))):ZX K F H (.ok kvs) (.ref a) [a]
 | ot {a:Addr} {kvs:List (List Key × PyData)} {vvs:List (List Key × V)} (h:H a=some (.dT vvs)) (hk:kvs.map (·.1)=vvs.map (·.1)) (r:Zq K F (kvs.map (·.2)) (vvs.map (·.2))):ZX K F H (.ot kvs) (.ref a) [a]
 | otl {a:Addr} {kvs:List (List Key × List PyData)} {vvs:List (List Key × V)} {ls:List Addr} (h:H a=some (.dT vvs)) (hk:kvs.map (·.1)=vvs.map (·.1)) (hv:vvs.map (·.2)=ls.map V.ref)
   (r:∀(i:Nat) (ds:List PyData) (l:Addr),(kvs.map (·.2))[i]?=some ds->ls[i]?=some l->∃vs,H l=some (.lst vs)/\Zq K F ds vs):ZX K F H (.otl kvs) (.ref a) (a::ls)
 | hd {a:Addr} {o:Obj} {es:List (PyData × PyData)} {kvs:List (List Key × PyData)} {vvs:List (List Key × V)} (h:F a=some (.frz o (.dT vvs))) (he:es=HM.Zi kvs) (hk:kvs.map (·.1)=vvs.map (·.1)) (r:Zq K F (kvs.map (·.2)) (vvs.map (·.2))):ZX K F H (.hd es) (.ref a) []
 | hf {a:Addr} {t:Nat} {cs:List PyData} (h:FX.fv t cs F a):ZX K F H (.hd [(.none,.int (Int.ofNat t)),(.none,.list cs)]) (.ref a) []
section
variable{K:ZwC}{F F' H H':Hp}{b:HM.B}{v:V}{fp:List Addr}
theorem ZX.mono(r:ZX K F H b v fp)(s:Zp F F')(k:∀a∈fp,∀o,H a=some o->Zcw H' a o):ZX K F' H' b v fp:=by
 cases r with
 | pl r=>exact .pl (r.mono s)
 | ol h r=>exact .ol (k _ (by simp) _ h) (r.mono s)
 | ok h hk r=>exact .ok (k _ (by simp) _ h) hk (r.mono s)
 | ot h hk r=>exact .ot (k _ (by simp) _ h) hk (r.mono s)
 | hd h he hk r=>exact .hd (s _ _ h) he hk (r.mono s)
 | hf h=>exact .hf (FX.mono h s)
 | otl h hk hv r=>refine .otl (k _ (by simp) _ h) hk hv λi ds l h1 h2=>?_;obtain⟨vs,q1,q2⟩:=r i ds l h1 h2;exact⟨vs,k l (ZwJ _ (Zw9 h2)) _ q1,q2.mono s⟩
theorem ZX.there2(r:ZX K F H b v fp){a:Addr}(h:a∈fp):∃o,H a=some o/\Zj9 o=true:=by
 cases r with
 | pl r=>simp at h
 | hd _ _ _ _=>simp at h
 | hf _=>simp at h
 | ol q r=>simp at h; subst h; exact⟨_,q,rfl⟩
 | ok q hk r=>simp at h; subst h; exact⟨_,q,rfl⟩
 | ot q hk r=>simp at h; subst h; exact⟨_,q,rfl⟩
 | @otl a' kvs vvs ls q hk hv r =>
  rcases Zw0.mp h with e | e
  ·subst e; exact⟨_,q,rfl⟩
  ·obtain⟨i,hi⟩:=List.getElem?_of_mem e
   have hl:kvs.length=ls.length:=by have e1:=congrArg Zxl hk;have e2:=congrArg Zxl hv;rw[ZwD,ZwD]at e1 e2;omega
   have hi':i<kvs.length:=by rw[hl]; exact(ZwQ.mp hi).1
   obtain⟨vs,q1,_⟩:=r i (kvs[i].2) a (by simp[hi']) hi;exact⟨_,q1,rfl⟩
theorem ZX.there'(r:ZX K F H b v fp){a:Addr}(h:a∈fp):∃o,H a=some o/\∀xs,o≠.tup xs:=by
 cases r with
 | pl r=>simp at h
 | hd _ _ _ _=>simp at h
 | hf _=>simp at h
 | ol q r=>simp at h; subst h; exact⟨_,q,λ_ z=>by cases z⟩
 | ok q hk r=>simp at h; subst h; exact⟨_,q,λ_ z=>by cases z⟩
 | ot q hk r=>simp at h; subst h; exact⟨_,q,λ_ z=>by cases z⟩
 | @otl a' kvs vvs ls q hk hv r =>
  rcases Zw0.mp h with e | e
  ·subst e; exact⟨_,q,λ_ z=>by cases z⟩
  ·obtain⟨i,hi⟩:=List.getElem?_of_mem e
   have hl:kvs.length=ls.length:=by have e1:=congrArg Zxl hk;have e2:=congrArg Zxl hv;rw[ZwD,ZwD]at e1 e2;omega
   have hi':i<kvs.length:=by rw[hl]; exact(ZwQ.mp hi).1
   obtain⟨vs,q1,_⟩:=r i (kvs[i].2) a (by simp[hi']) hi;exact⟨_,q1,λ_ z=>by cases z⟩
theorem ZX.there(r:ZX K F H b v fp){a:Addr}(h:a∈fp):∃o,H a=some o:=let ⟨o,q,_⟩:=r.there' h; ⟨o,q⟩
end
structure ZaT(K:ZwC)(F0 H0 F H:Hp)(r:HM.Env)(σ:L2.St)(fp:Nat->List Addr):Prop where
 ext:Ext F0 H0 F H
 len:r.length=σ.length
 at_:∀(i:Nat) (b:HM.B),r[i]?=some (some b)->∃v,σ[i]?=some (some v)/\ZX K F H b v (fp i)
 emp:∀(i:Nat),(∀b,r[i]?≠some (some b))->fp i=[]
 own:∀(i:Nat) (a:Addr),a∈fp i->F a=none/\H0 a=none
 nd:∀i,(fp i).Nodup
 dis:∀(i j:Nat) (a:Addr),i≠j->a∈fp i->¬a∈fp j
 tb:Tb H0
 nt:NoT F0
def At(K:ZwC)(F0 H0 F H:Hp)(r:HM.Env)(σ:L2.St):Prop:=∃fp,ZaT K F0 H0 F H r σ fp
section
variable{K:ZwC}{F0 H0 F H F' H':Hp}{r:HM.Env}{σ:L2.St}{fp:Nat->List Addr}{i:Nat}{b:HM.B}{v:V}{d:PyData}
theorem ZaT.bound(e:ZaT K F0 H0 F H r σ fp){a:Addr}(h:a∈fp i):∃b,r[i]?=some (some b):=by
 cases q:r[i]? with
 | none=>rw[e.emp i (λb z=>by rw[q]at z; cases z)]at h; simp at h
 | some x =>
  cases x with
  | none=>rw[e.emp i (λb z=>by rw[q]at z; cases z)]at h; simp at h
  | some b=>exact⟨b,rfl⟩
theorem ZaT.there'(e:ZaT K F0 H0 F H r σ fp){a:Addr}(h:a∈fp i):∃o,H a=some o/\∀xs,o≠.tup xs:=by obtain⟨b,hb⟩:=e.bound h;obtain⟨v,_,q⟩:=e.at_ i b hb;exact q.there' h
theorem ZaT.there2(e:ZaT K F0 H0 F H r σ fp){a:Addr}(h:a∈fp i):∃o,H a=some o/\Zj9 o=true:=by obtain⟨b,hb⟩:=e.bound h;obtain⟨v,_,q⟩:=e.at_ i b hb;exact q.there2 h
theorem ZaT.there(e:ZaT K F0 H0 F H r σ fp){a:Addr}(h:a∈fp i):∃o,H a=some o:=let ⟨o,q,_⟩:=e.there' h; ⟨o,q⟩
theorem ZaT.sub(e:ZaT K F0 H0 F H r σ fp):Zp F H:=e.ext.sub
theorem ZaT.grow(e:ZaT K F0 H0 F H r σ fp)(x:Ext F H F' H'):ZaT K F0 H0 F' H' r σ fp:=by
 refine⟨e.ext.trans x,e.len,λi b h=>?_,e.emp,λi a h=>⟨?_,(e.own i a h).2⟩,e.nd,e.dis,e.tb,e.nt⟩
 ·obtain⟨v,h1,h2⟩:=e.at_ i b h
  exact⟨v,h1,h2.mono x.ff λa _ o q=>x.hh a o q⟩
 ·cases q:F' a with
  | none=>rfl
  | some o =>
   rcases x.new a o q with z | z
   ·rw[(e.own i a h).1]at z; cases z
   ·obtain⟨o',h',hn⟩:=e.there' h
    exact(z.no h' hn).elim
theorem At.grow(e:At K F0 H0 F H r σ)(x:Ext F H F' H'):At K F0 H0 F' H' r σ:=let ⟨fp,e⟩:=e; ⟨fp,e.grow x⟩
theorem At.tb(e:At K F0 H0 F H r σ):Tb H:=let ⟨_,e⟩:=e; e.ext.tab e.tb
theorem At.tbx(e:At K F0 H0 F H r σ)(x:Ext F H F' H'):Tb H':=x.tab e.tb
theorem At.nt(e:At K F0 H0 F H r σ):NoT F:=let ⟨_,e⟩:=e; e.ext.nts e.nt
theorem At.ntx(e:At K F0 H0 F H r σ)(x:Ext F H F' H'):NoT F':=x.nts e.nt
theorem At.nt0(e:At K F0 H0 F H r σ):NoT F0:=let ⟨_,e⟩:=e; e.nt
theorem At.sub(e:At K F0 H0 F H r σ):Zp F H:=let ⟨_,e⟩:=e; e.ext.sub
theorem At.ext(e:At K F0 H0 F H r σ):Ext F0 H0 F H:=let ⟨_,e⟩:=e; e.ext
theorem At.refl(e:At K F0 H0 F H r σ):Ext F H F H:=.refl e.sub
theorem At.plain(e:At K F0 H0 F H r σ)(h:r[i]?=some (some (.pl d))):∃v,σ[i]?=some (some v)/\Rep K F d v:=by
 obtain⟨fp,e⟩:=e;obtain⟨v,h1,h2⟩:=e.at_ i _ h;generalize fp i=f at h2;cases h2 with
 | pl q=>exact⟨v,h1,q⟩
theorem At.any(e:At K F0 H0 F H r σ)(h:r[i]?=some (some b)):∃v fp,σ[i]?=some (some v)/\ZX K F H b v fp:=by obtain⟨fp,e⟩:=e;obtain⟨v,h1,h2⟩:=e.at_ i _ h;exact⟨v,_,h1,h2⟩
theorem At.store(e:At K F0 H0 F H r σ){fp':List Addr}(q:ZX K F H b v fp')(nd:fp'.Nodup)(h1:∀a∈fp',F a=none/\H0 a=none)(h2:∀fp,ZaT K F0 H0 F H r σ fp->∀j a,j≠i->a∈fp j->¬a∈fp') :
  At K F0 H0 F H (r.set i (some b)) (σ.set i (some v)):=by
 obtain⟨fp,e⟩:=e;have h2:=h2 fp e
 by_cases hi:i<r.length
 ·refine⟨λj=>if j=i then fp' else fp j,e.ext,by rw[ZxO,ZxO,e.len],λj c h=>?_,λj h=>?_,λj a h=>?_,λj=>?_,λj k a hjk h=>?_,e.tb,e.nt⟩
  ·by_cases hj:j=i
   ·subst hj
    rw[Zxp hi]at h;cases h;refine⟨v,Zxp (by rw[<-e.len]; exact hi),?_⟩;rw[if_pos rfl]; exact q
   ·rw[Zw8 (ZxC hj)]at h
    obtain⟨u,q1,q2⟩:=e.at_ j c h;refine⟨u,by rw[Zw8 (ZxC hj)]; exact q1,?_⟩;rw[if_neg hj]; exact q2
  ·by_cases hj:j=i
   ·subst hj
    exact absurd (Zxp hi) (h b)
   ·show(if j=i then fp' else fp j)=[]
    rw[if_neg hj];exact e.emp j λc z=>h c (by rw[Zw8 (ZxC hj)]; exact z)
  ·by_cases hj:j=i
   ·rw[if_pos hj]at h; exact h1 a h
   ·rw[if_neg hj]at h; exact e.own j a h
  ·show(if j=i then fp' else fp j).Nodup
   by_cases hj:j=i
   ·rw[if_pos hj]; exact nd
   ·rw[if_neg hj]; exact e.nd j
  ·show ¬a∈(if k=i then fp' else fp k)
   by_cases hj:j=i
   ·rw[if_pos hj]at h
    by_cases hk:k=i
    ·exact absurd (hj.trans hk.symm) hjk
    ·rw[if_neg hk]; exact λz=>h2 k a hk z h
   ·rw[if_neg hj]at h
    by_cases hk:k=i
    ·rw[if_pos hk]; exact h2 j a hj h
    ·rw[if_neg hk]; exact e.dis j k a hjk h
 ·have e1:r.set i (some b)=r:=ZAD (by omega)
  have e2:σ.set i (some v)=σ:=ZAD (by have:=e.len; omega);rw[e1,e2];exact⟨fp,e⟩
theorem At.set(e:At K F0 H0 F H r σ)(q:Rep K F d v):At K F0 H0 F H (r.set i (some (.pl d))) (σ.set i (some v)) :=
 e.store (.pl q) Zyq (λa h=>by simp at h) λ_ _ _ _ _ _ h=>by simp at h
theorem ZaT.changeW(e:ZaT K F0 H0 F H r σ fp)(hv:σ[i]?=some (some v)){fp':List Addr}(q:ZX K F H' b v fp')(nd:fp'.Nodup)(h1:∀a∈fp',a∈fp i\/(F a=none/\H0 a=none/\∀j,a ∉ fp j))
  (h2:∀a o,H a=some o->¬a∈fp i->H' a=some o):At K F0 H0 F H' (r.set i (some b)) σ:=by
 have sF:Zp F H':=λa o z=>h2 a o (e.sub a o z) λm=>by rw[(e.own i a m).1]at z; cases z
 have sH:Zab H0 H':=λa o z=>by
  have nm:¬a∈fp i:=λm=>by rw[(e.own i a m).2]at z; cases z
  have y:=e.ext.hh a o z;cases o<;>first | exact h2 a _ y nm | (obtain⟨ps,q⟩:=y; exact⟨ps,h2 a _ q nm⟩)
 have sT:Tb H0->Tb H':=λt=>(e.ext.tab t).keep λa o z ho=>h2 a o z λm=>by obtain⟨o',q1,q2⟩:=e.there2 m;rw[z]at q1; cases q1; exact Zqy q2 ho
 have e':ZaT K F0 H0 F H' (r.set i none) (σ.set i none) (λj=>if j=i then[]else fp j):=by
  refine⟨⟨e.ext.ff,sH,sF,e.ext.new,sT,e.ext.nts⟩,by rw[ZxO,ZxO,e.len],λj c h=>?_,λj h=>?_,λj a h=>?_,λj=>?_,λj k a hjk h=>?_,e.tb,e.nt⟩
  ·by_cases hj:j=i
   ·subst hj
    by_cases hi:j<r.length
    ·rw[Zxp hi]at h; cases h
    ·rw[ZAX (by rw[ZxO]; omega)]at h; cases h
   ·rw[Zw8 (ZxC hj)]at h
    obtain⟨u,q1,q2⟩:=e.at_ j c h;refine⟨u,by rw[Zw8 (ZxC hj)]; exact q1,?_⟩;rw[if_neg hj];exact q2.mono (Zp.refl F) λa ha o z=>.of (h2 a o z (e.dis j i a hj ha))
  ·show(if j=i then[]else fp j)=[]
   by_cases hj:j=i
   ·rw[if_pos hj]
   ·rw[if_neg hj]
    exact e.emp j λc z=>h c (by rw[Zw8 (ZxC hj)]; exact z)
  ·by_cases hj:j=i
   ·rw[if_pos hj]at h; simp at h
   ·rw[if_neg hj]at h; exact e.own j a h
  ·show(if j=i then[]else fp j).Nodup
   by_cases hj:j=i
   ·rw[if_pos hj]; exact Zyq
   ·rw[if_neg hj]; exact e.nd j
  ·show ¬a∈(if k=i then[]else fp k)
   by_cases hj:j=i
   ·rw[if_pos hj]at h; simp at h
   ·rw[if_neg hj]at h
    by_cases hk:k=i
    ·rw[if_pos hk]; simp
    ·rw[if_neg hk]; exact e.dis j k a hjk h
 have hF:∀a∈fp',F a=none/\H0 a=none:=λa ha=>by
  rcases h1 a ha with z | z
  ·exact e.own i a z
  ·exact⟨z.1,z.2.1⟩
 have e2:=At.store (i:=i) ⟨_,e'⟩ q nd hF λfq eq j a hj ha z=>by
  obtain⟨c,hc⟩:=eq.bound ha;rw[Zw8 (ZxC hj)]at hc;obtain⟨u1,s1,r1⟩:=eq.at_ j c (by rw[Zw8 (ZxC hj)]; exact hc);obtain⟨u2,s2,r2⟩:=e.at_ j c hc;rw[Zw8 (ZxC hj),s2]at s1;cases s1;have hm:a∈fp j:=by
   have r2':=r2.mono (H':=H') (Zp.refl F) λa ha o z=>.of (h2 a o z (e.dis j i a hj ha))
   clear r2
   generalize fq j=f1 at r1 ha;generalize fp j=f2 at r2' ⊢;cases r1 with
   | pl _=>simp at ha
   | hd _ _ _ _=>simp at ha
   | hf _=>simp at ha
   | ol _ _=>cases r2' with | ol _ _=>exact ha
   | ok _ _ _=>cases r2' with | ok _ _ _=>exact ha
   | ot _ _ _=>cases r2' with | ot _ _ _=>exact ha
   | otl a1 _ v1 _ =>
    cases r2' with
    | otl a2 _ v2 _ =>
     rw[a1]at a2;cases a2;rw[v1]at v2;have:∀{l l':List Addr},l.map V.ref=l'.map V.ref->l=l':=by
      intro l
      induction l with
      | nil=>intro l' h; cases l' with | nil=>rfl | cons _ _=>simp at h
      | cons x xs ih =>
       intro l' h;cases l' with
       | nil=>simp at h
       | cons y ys =>
        rw[ZwL,ZwL]at h;injection h with h1 h2
        injection h1 with h1
        rw[h1,ih h2]
     rw[<-this v2]; exact ha
  rcases h1 a z with w | w
  ·exact e.dis j i a hj hm w
  ·exact w.2.2 j hm
 rw[ZzW,ZzW]at e2;have es:σ.set i (some v)=σ:=by have hi:i<σ.length:=(ZwQ.mp hv).1;have hq:σ[i]=some v:=(ZwQ.mp hv).2;rw[<-hq];exact Zzb hi
 rwa [es]at e2
theorem ZaT.change(e:ZaT K F0 H0 F H r σ fp)(hv:σ[i]?=some (some v)){fp':List Addr}(q:ZX K F H' b v fp')(nd:fp'.Nodup)(h1:∀a∈fp',a∈fp i\/H a=none)
  (h2:∀a o,H a=some o->¬a∈fp i->H' a=some o):At K F0 H0 F H' (r.set i (some b)) σ :=
 e.changeW hv q nd (λa ha=>(h1 a ha).imp id λz=>⟨e.sub.free z,e.ext.hh.free z,λj hj=>by obtain⟨o,ho⟩:=e.there hj;rw[z]at ho; cases ho⟩) h2
theorem At.storeNew{Hb:Hp}(e:At K F0 H0 F H r σ)(hb:At K F0 H0 F' Hb r σ)(sb:Zab Hb H){fp':List Addr}(q:ZX K F H b v fp')(nd:fp'.Nodup)(h1:∀a∈fp',F a=none/\Hb a=none) :
  At K F0 H0 F H (r.set i (some b)) (σ.set i (some v)):=by
 refine e.store q nd (λa h=>⟨(h1 a h).1,hb.ext.hh.free (h1 a h).2⟩) λfp e1 j a hj ha z=>?_;obtain⟨fq,eb⟩:=hb;obtain⟨c,hc⟩:=e1.bound ha;obtain⟨u1,s1,r1⟩:=e1.at_ j c hc;obtain⟨u2,s2,r2⟩:=eb.at_ j c hc;rw[s2]at s1;cases s1;have hn:=(h1 a z).2;have old:∀{x:Addr} {o o':HO},Hb x=some o->H x=some o'->(∀ps,o'≠.tbl ps)->o=o':=λ{x o o'} h1 h2 n=>sb.back h1 h2 n;generalize fp j=f1 at r1 ha;generalize fq j=f2 at r2;cases r1 with
 | pl _=>simp at ha
 | hd _ _ _ _=>simp at ha
 | hf _=>simp at ha
 | ol k _=>cases r2 with | ol k' _=>simp at ha; subst ha; rw[hn]at k'; cases k'
 | ok k _ _=>cases r2 with | ok k' _ _=>simp at ha; subst ha; rw[hn]at k'; cases k'
 | ot k _ _=>cases r2 with | ot k' _ _=>simp at ha; subst ha; rw[hn]at k'; cases k'
 | otl k _ v1 _ =>
  cases r2 with
  | otl k' hk' v2 r2' =>
   have eo:=old k' k λ_ z=>by cases z
   injection eo with eo
   subst eo;have v2':=v2;rw[v1]at v2;rcases Zw0.mp ha with z2 | z2
   ·subst z2; rw[hn]at k'; cases k'
   ·have:V.ref a∈Zz7 V.ref _:=ZwN.mpr ⟨a,z2,rfl⟩
    rw[v2]at this;obtain⟨a',m1,m2⟩:=ZwN.mp this;injection m2 with m2
    subst m2;obtain⟨o,ho⟩:=ZX.there (ZX.otl k' hk' v2' r2') (ZwJ _ m1);rw[hn]at ho; cases ho
theorem At.rebase(e:At K F0 H0 F H r σ):At K F H0 F H r σ:=by obtain⟨fp,e⟩:=e;exact⟨fp,⟨Zp.refl F,e.ext.hh,e.ext.sub,λ_ _ z=>.inl z,e.ext.tab,id⟩,e.len,e.at_,e.emp,e.own,e.nd,e.dis,e.tb,e.ext.nts e.nt⟩
theorem Ext.unbase{F1 H1:Hp}(x:Ext F0 H0 F1 H1)(y:Ext F1 H0 F H):Ext F0 H0 F H :=
 ⟨x.ff.trans y.ff,y.hh,y.sub,λa o z=>(y.new a o z).elim (λq=>x.new a o q) .inr,y.tab,λt=>y.nts (x.nts t)⟩
theorem At.unbase{F1 H1:Hp}(x:Ext F0 H0 F1 H1)(n:NoT F0)(e:At K F1 H0 F H r σ):At K F0 H0 F H r σ:=by obtain⟨fp,e⟩:=e;exact⟨fp,x.unbase e.ext,e.len,e.at_,e.emp,e.own,e.nd,e.dis,e.tb,n⟩
theorem ZaT.freeze{fp:Nat->List Addr}(e:ZaT K F0 H0 F H r σ fp)(i:Nat){b:HM.B}{a:Addr}{ob:HO}{d:PyData}(hb:r[i]?=some (some b))(h1:σ[i]?=some (some (.ref a)))(hfp:fp i=[a])(ha:H a=some ob)(hr:Zp F (upd F a ob)->Rep K (upd F a ob) d (.ref a))(no:HP.nt ob=true:=by rfl) :
  ∃F',Ext F0 H0 F' H/\Zp F F'/\At K F0 H0 F' H (r.set i (some (.pl d))) σ:=by
 have hF:F a=none:=(e.own i a (by rw[hfp]; simp)).1;have s:Zp F (upd F a ob):=Zp.upd' hF;have x:Ext F0 H0 (upd F a ob) H:=by
  refine⟨e.ext.ff.trans s,e.ext.hh,λc o z=>?_,λc o z=>?_,e.ext.tab,λt=>(e.ext.nts t).upd no⟩
  ·by_cases hc:c=a
   ·subst hc; rw[Zz]at z; cases z; exact ha
   ·rw[Zx hc]at z; exact e.sub c o z
  ·by_cases hc:c=a
   ·subst hc; exact .inr (.inl (e.own i c (by rw[hfp]; simp)).2)
   ·rw[Zx hc]at z; exact e.ext.new c o z
 refine⟨_,x,s,?_⟩;have e1:ZaT K F0 H0 (upd F a ob) H (r.set i none) (σ.set i none) (λj=>if j=i then[]else fp j):=by
  refine⟨x,by rw[ZxO,ZxO,e.len],λj c h=>?_,λj h=>?_,λj c h=>?_,λj=>?_,λj k c hjk h=>?_,e.tb,e.nt⟩
  ·by_cases hj:j=i
   ·subst hj
    rw[Zxp (ZwQ.mp hb).1]at h; cases h
   ·rw[Zw8 (ZxC hj)]at h
    obtain⟨u,q1,q2⟩:=e.at_ j c h;refine⟨u,by rw[Zw8 (ZxC hj)]; exact q1,?_⟩;rw[if_neg hj]; exact q2.mono s λ_ _ _ z=>.of z
  ·show(if j=i then[]else fp j)=[]
   by_cases hj:j=i
   ·rw[if_pos hj]
   ·rw[if_neg hj]
    exact e.emp j λc z=>h c (by rw[Zw8 (ZxC hj)]; exact z)
  ·by_cases hj:j=i
   ·rw[if_pos hj]at h; simp at h
   ·rw[if_neg hj]at h
    have hca:c≠a:=λz=>e.dis j i c hj h (by rw[hfp,z]; simp);exact⟨by rw[Zx hca]; exact(e.own j c h).1,(e.own j c h).2⟩
  ·show(if j=i then[]else fp j).Nodup
   by_cases hj:j=i
   ·rw[if_pos hj]; exact Zyq
   ·rw[if_neg hj]; exact e.nd j
  ·show ¬c∈(if k=i then[]else fp k)
   by_cases hj:j=i
   ·rw[if_pos hj]at h; simp at h
   ·rw[if_neg hj]at h
    by_cases hk:k=i
    ·rw[if_pos hk]; simp
    ·rw[if_neg hk]; exact e.dis j k c hjk h
 have rp:=hr s;have e2:=At.set (i:=i) ⟨_,e1⟩ rp;rw[ZzW,ZzW]at e2;have es:σ.set i (some (.ref a))=σ:=by have hi:i<σ.length:=(ZwQ.mp h1).1;have hq:σ[i]=some (.ref a):=(ZwQ.mp h1).2;rw[<-hq];exact Zzb hi
 rwa [es]at e2
theorem At.freeze(e:At K F0 H0 F H r σ)(i:Nat):∃F',Ext F0 H0 F' H/\Zp F F'/\At K F0 H0 F' H (HM.ZjC i r) σ:=by
 unfold HM.ZjC;split
 ·rename_i ds hb
  obtain⟨fp,e⟩:=e;obtain⟨v,h1,h2⟩:=e.at_ i _ hb;generalize hfp:fp i=f at h2;cases h2 with
  | @ol a _ vs ha q=>exact e.freeze i hb h1 hfp ha λs=>.lst (.of Zz) q.1 (q.mono s).2
 ·rename_i kvs hb
  obtain⟨fp,e⟩:=e;obtain⟨v,h1,h2⟩:=e.at_ i _ hb;generalize hfp:fp i=f at h2;cases h2 with
  | @ot a _ vvs ha hk q=>exact e.freeze i hb h1 hfp ha λs=>.dct (.inl Zz) rfl hk (q.mono s).2
 ·exact⟨F,e.ext,Zp.refl F,e⟩
end
inductive Now(K:ZwC)(r:HM.Env)(σ:L2.St)(H:Hp)(C:Hp->Hp->Hp->Prop):Prop
 | mk (F0 H0 F:Hp) (at_:At K F0 H0 F H r σ) (k:C F0 H0 F):Now K r σ H C
end HP
namespace HP
open PySem PySem.Spec PyProof.Rows L2
variable[FX]
def tAt(K:ZwC)(r:HM.Env)(P:Hp->Hp->Hp->V->Prop):TE:=λσ H Q=>Now K r σ H λF0 H0 F=>∀v F' H',Ext F H F' H'->P H F' H' v->Q v H'
def XE(X:Cx)(e:Expr)(f:HM.EF):Prop:=∀r d,f r=some d->PE X e (tAt X.K r λ_ F' _ v=>Rep X.K F' d v)
def XB(X:Cx)(e:Expr)(f:HM.BF):Prop:=∀r b,f r=some b->PE X e (tAt X.K r λ_ F' H' v=>∃fp,ZX X.K F' H' b v fp)
def XF(X:Cx)(e:Expr)(f:HM.BF):Prop:=∀r b,f r=some b->PE X e (tAt X.K r λH F' H' v=>∃fp,ZX X.K F' H' b v fp/\fp.Nodup/\∀a∈fp,F' a=none/\H a=none)
def XT(X:Cx)(e:Expr)(f:HM.TF):Prop:=∀r c,f r=some c->PT X e λσ H Q=>Now X.K r σ H λF0 H0 F=>∀F' H',Ext F H F' H'->Q c H'
def XW(X:Cx)(e:Expr)(f:HM.TF):Prop:=∀r c,f r=some c->PW X e λσ H Q=>Now X.K r σ H λF0 H0 F=>∀F' H',Ext F H F' H'->Q c H'
structure XA(X:Cx)(es:List Expr)(f:HM.AF):Prop where
 len:∀r ds,f r=some ds->ds.length=es.length
 pa:∀r ds,f r=some ds->PA X es λσ H Q=>Now X.K r σ H λF0 H0 F=>∀vs F' H',Ext F H F' H'->Zq X.K F' ds vs->Q vs H'
def ItD(K:ZwC)(J:It)(ds:List PyData)(F:Hp):Prop:=∀F' H,Zp F F'->Zp F' H ->
 (∀(i:Nat) (d:PyData),ds[i]?=some d->J.go i H/\∀x H',J.yld i H x H'->H'=H/\Rep K (Zb3 F' H) d x)/\J.stop ds.length H
def XI(X:Cx)(tg e:Expr)(f:HM.IF):Prop:=∀r ds,f r=some ds->PI X tg e λσ H R=>Now X.K r σ H λF0 H0 F=>∀J F' H',Ext F H F' H'->ItD X.K J ds F'->R J H'
def Zv0(K:ZwC)(F0 H0:Hp)(o:HM.Out)(E:Ends):Prop:=match o with
 | .nx r=>∀σ F H,At K F0 H0 F H r σ->E.nx σ H
 | .rt d=>∀v F H,Ext F0 H0 F H->Rep K F d v->E.rt v H
 | .bk r=>∀σ F H,At K F0 H0 F H r σ->E.bk σ H
 | .ct r=>∀σ F H,At K F0 H0 F H r σ->E.ct σ H
def tSt(K:ZwC)(r:HM.Env)(o:HM.Out):TS:=λE σ H=>Now K r σ H λF0 H0 F=>Zv0 K F0 H0 o E
def XS(X:Cx)(st:Stmt)(g:HM.SF):Prop:=∀r o,g r=some o->PS X st (tSt X.K r o)
def XSs(X:Cx)(sts:List Stmt)(g:HM.SF):Prop:=∀r o,g r=some o->PSs X sts (tSt X.K r o)
theorem PE.imp{X:Cx}{e:Expr}{t u:TE}(h:PE X e t)(hi:∀σ H Q,u σ H Q->t σ H Q):PE X e u:=λpins s σ H Q I q=>h pins s σ H Q I (hi σ H Q q)
theorem PT.imp{X:Cx}{e:Expr}{t u:TT}(h:PT X e t)(hi:∀σ H Q,u σ H Q->t σ H Q):PT X e u:=λpins s σ H Q I q=>h pins s σ H Q I (hi σ H Q q)
theorem PW.imp{X:Cx}{e:Expr}{t u:TT}(h:PW X e t)(hi:∀σ H Q,u σ H Q->t σ H Q):PW X e u:=λwh pins s σ H Q I q=>h wh pins s σ H Q I (hi σ H Q q)
theorem PA.imp{X:Cx}{es:List Expr}{t u:TA}(h:PA X es t)(hi:∀σ H Q,u σ H Q->t σ H Q):PA X es u:=λp pins s σ H Q I q=>h p pins s σ H Q I (hi σ H Q q)
theorem PS.imp{X:Cx}{st:Stmt}{t u:TS}(h:PS X st t)(hi:∀E σ H,u E σ H->t E σ H):PS X st u:=λpins s σ H E I q=>h pins s σ H E I (hi E σ H q)
theorem PSs.imp{X:Cx}{sts:List Stmt}{t u:TS}(h:PSs X sts t)(hi:∀E σ H,u E σ H->t E σ H):PSs X sts u:=λpins s σ H E I q=>h pins s σ H E I (hi E σ H q)
section
variable{X:Cx}{a b c e:Expr}{fa fb fc:HM.EF}{pos p:Pos}
theorem Zrb{i:Nat}{r:HM.Env}{d:PyData}(h:HM.Zb i r=some d):r[i]?=some (some (.pl d)):=by
 unfold HM.Zb at h;split at h
 ·rename_i q; cases h; exact q
 ·cases h
theorem Zre{i:Nat}{r:HM.Env}{d:HM.B}(h:HM.Zo i r=some d):r[i]?=some (some d):=by
 unfold HM.Zo at h;split at h
 ·rename_i q; cases h; exact q
 ·cases h
theorem Za(i:Nat){x:Str}{pos:Pos}(hN:X.N[i]?=some x:=by rfl)(hv:Vis X.env.scope x:=by first | exact ZxA rfl | exact Zxg (ZxA rfl) | exact Zxg (Zxg rfl))(hd:(x==("__debug__":Str))=false:=by decide)
  (hcd:(x==("__classdict__":Str))=false:=by decide):XE X (.Name x pos) (HM.Zb i):=by
 intro r d h;refine PE.imp (Zb9 hN hv hd hcd) λσ H Q ⟨F0,H0,F,at_,k⟩=>?_;obtain⟨v,h1,h2⟩:=at_.plain (Zrb h);exact⟨v,h1,k v F H at_.refl h2⟩
theorem Zu(i:Nat){x:Str}{pos:Pos}(hN:X.N[i]?=some x:=by rfl)(hv:Vis X.env.scope x:=by first | exact ZxA rfl | exact Zxg (ZxA rfl) | exact Zxg (Zxg rfl))(hd:(x==("__debug__":Str))=false:=by decide)
  (hcd:(x==("__classdict__":Str))=false:=by decide):XB X (.Name x pos) (HM.Zo i):=by
 intro r d h;refine PE.imp (Zb9 hN hv hd hcd) λσ H Q ⟨F0,H0,F,at_,k⟩=>?_;obtain⟨v,fp,h1,h2⟩:=at_.any (Zre h);exact⟨v,h1,k v F H at_.refl ⟨fp,h2⟩⟩
theorem ZeX{v:V}{d:PyData}(h:PE X e (tC v))(r:∀F,Rep X.K F d v):XE X e (HM.eC d):=by intro r' d' h';cases h';exact PE.imp h λσ H Q ⟨F0,H0,F,at_,k⟩=>k v F H at_.refl (r F)
theorem Zj{i:Int}{j:Nat}:XE X (.Constant (.int i) j pos) (HM.eC (.int i)):=ZeX ZqC λ_=>.int i
theorem ZcM{q:Bool}{j:Nat}:XE X (.Constant (.bool q) j pos) (HM.eC (.bool q)):=ZeX Zvz λ_=>.bl q
theorem ZeU{j:Nat}:XE X (.Constant .none j pos) (HM.eC .none):=ZeX ZqF λ_=>.non
theorem ZhW{x:Str}{i:Int}(hm:∃t,X.mg x=some (.int i t))(hg:Gl X x:=by rfl)(hd:(x==("__debug__":Str))=false:=by decide):XE X (.Name x pos) (HM.eC (.int i)):=by obtain⟨t,hm⟩:=hm;exact ZeX (Zox hg hm (v:=.int i) ⟨t,rfl⟩ hd) λ_=>.int i
theorem ZtA{i:Int}{j:Nat}{p':Pos}:XE X (.UnaryOp .USub (.Constant (.int i) j p') pos) (HM.eC (.int (-i))):=by intro r d h;cases h;intro pins s σ H Q I q;obtain⟨F0,H0,F,at_,k⟩:=q;refine UnaryOp_ (thn (ZqC pins s σ H (λv H'=>v=.int i/\H'=H) I ⟨rfl,rfl⟩) λu s1 ⟨x,H1,I1,r1,e1,e2⟩=>?_);subst e1 e2;obtain⟨t,rfl⟩:=r1;exact neg_int ⟨.int (-i),H1,I1.tok _,⟨_,rfl⟩,k _ F H1 at_.refl (.int _)⟩
theorem Zdo(h:XE X e fa):XB X e (HM.bOf fa):=by intro r b hb;obtain⟨d,h1,h2⟩:=ZwE.mp hb;subst h2;exact PE.imp (h r d h1) λσ H Q ⟨F0,H0,F,at_,k⟩=>⟨F0,H0,F,at_,λv F' H' x q=>k v F' H' x ⟨[],.pl q⟩⟩
theorem ZaX{f:HM.BF}(h:XF X e f):XB X e f:=λr b hb=>PE.imp (h r b hb) λσ H Q ⟨F0,H0,F,at_,k⟩=>⟨F0,H0,F,at_,λv F' H' x ⟨fp,q,_⟩=>k v F' H' x ⟨fp,q⟩⟩
theorem Zgq{f:HM.BF}(h:XF X e f):XE X e (HM.eOf f):=by
 intro r d hd;unfold HM.eOf at hd;obtain⟨b,h1,h2⟩:=Zzy.mp hd;refine PE.imp (h r b h1) λσ H Q ⟨F0,H0,F,at_,k⟩=>⟨F0,H0,F,at_,λv F' H' x ⟨fp,q,_,hn⟩=>?_⟩;cases q with
 | pl q=>cases h2;exact k v F' H' x q
 | @ol l ds vs hl q =>
  cases h2;have hF:F' l=none:=(hn l (by simp)).1;have s:Zp F' (upd F' l (.lst vs)):=Zp.upd' hF;refine k _ (upd F' l (.lst vs)) H' ⟨x.ff.trans s,x.hh,λc o z=>?_,λc o z=>?_,x.tab,λt=>(x.nts t).upd rfl⟩ (.lst (.of Zz) q.1 (q.mono s).2)
  ·by_cases hc:c=l
   ·subst hc; rw[Zz]at z; cases z; exact hl
   ·rw[Zx hc]at z; exact x.sub c o z
  ·by_cases hc:c=l
   ·subst hc; exact .inr (.inl (hn c (by simp)).2)
   ·rw[Zx hc]at z; exact x.new c o z
 | @ot l kvs vvs hl hk q =>
  cases h2;have hF:F' l=none:=(hn l (by simp)).1;have s:Zp F' (upd F' l (.dT vvs)):=Zp.upd' hF;refine k _ (upd F' l (.dT vvs)) H' ⟨x.ff.trans s,x.hh,λc o z=>?_,λc o z=>?_,x.tab,λt=>(x.nts t).upd rfl⟩ (.dct (.inl Zz) rfl hk (q.mono s).2)
  ·by_cases hc:c=l
   ·subst hc; rw[Zz]at z; cases z; exact hl
   ·rw[Zx hc]at z; exact x.sub c o z
  ·by_cases hc:c=l
   ·subst hc; exact .inr (.inl (hn c (by simp)).2)
   ·rw[Zx hc]at z; exact x.new c o z
 | ok _ _ _=>cases h2
 | hd h3 h4 h5 h6=>cases h2; exact k _ F' H' x (.dct (.inr ⟨_,h3⟩) h4 h5 h6.2)
 | hf h3=>cases h2; exact k _ F' H' x (.fn h3)
 | otl _ _ _ _=>cases h2
def Bin(K:ZwC)(r:R2)(g:PyData->PyData->Option PyData):Prop:=∀(F H:Hp) (x y z:PyData) (v w:V) (Q:VK),Zp F H->g x y=some z->Rep K F x v->Rep K F y w->(∀u,Rep K F z u->Q u H)->r v w H Q
structure Zno(X:Cx)(op:Operator)(g:PyData->PyData->Option PyData):Prop where
 ex:∃r,OpR X (ZzN op) r/\Bin X.K r g
structure Zfs(X:Cx)(op:CmpOp)(g:PyData->PyData->Option PyData):Prop where
 ex:∃r,OpR X (Zx6 op) r/\Bin X.K r g
 n1:op≠.In
 n2:op≠.NotIn
theorem Zgp{g:PyData->PyData->Option PyData}{r:HM.Env}{d:PyData}(h:HM.op2 g fa fb r=some d):∃x y,fa r=some x/\fb r=some y/\g x y=some d:=by
 unfold HM.op2 at h;split at h
 ·split at h
  ·exact⟨_,_,by assumption,by assumption,h⟩
  ·cases h
 ·cases h
theorem two{K:ZwC}{r:HM.Env}{x y:PyData}{P:Hp->Hp->Hp->V->Prop}{σ:L2.St}{H:Hp}{Q:VK}{R:V->V->Hp->VK->Prop}(h:tAt K r P σ H Q)
  (hk:∀H F2 H2 v w,Zp F2 H2->Rep K F2 x v->Rep K F2 y w->(∀u F3 H3,Ext F2 H2 F3 H3->P H F3 H3 u->Q u H3)->Zab H H2->R v w H2 Q) :
  tOp R (tAt K r λ_ F' _ v=>Rep K F' x v) (tAt K r λ_ F' _ v=>Rep K F' y v) σ H Q:=by
 obtain⟨F0,H0,F,at_,k⟩:=h;refine⟨F0,H0,F,at_,λv F1 H1 x1 r1=>⟨F0,H0,F1,at_.grow x1,λw F2 H2 x2 r2=>?_⟩⟩;exact hk H F2 H2 v w x2.sub (r1.mono x2.ff) r2 (λu F3 H3 x3 q=>k u F3 H3 ((x1.trans x2).trans x3) q) (x1.hh.trans x2.hh)
theorem ZD{op:Operator}{g:PyData->PyData->Option PyData}(o:Zno X op g)(ha:XE X a fa)(hb:XE X b fb):XE X (.BinOp a op b pos) (HM.op2 g fa fb):=by intro r d h;obtain⟨x,y,h1,h2,h3⟩:=Zgp h;obtain⟨R,o1,o2⟩:=o.ex;refine PE.imp (ZpI o1 (ha r x h1) (hb r y h2)) λσ H Q q=>?_;exact two q λ_ F2 H2 v w s r1 r2 k _=>o2 F2 H2 x y d v w Q s h3 r1 r2 λu ru=>k u F2 H2 (.refl s) ru
theorem Zg9{op:CmpOp}{g:PyData->PyData->Option PyData}(o:Zfs X op g)(ha:XE X a fa)(hb:XE X b fb):XE X (.Compare a [op] [b] pos) (HM.op2 g fa fb):=by intro r d h;obtain⟨x,y,h1,h2,h3⟩:=Zgp h;obtain⟨R,o1,o2⟩:=o.ex;refine PE.imp (ZoC o1 (ha r x h1) (hb r y h2) (Zi5 _ o.n1 o.n2)) λσ H Q q=>?_;exact two q λ_ F2 H2 v w s r1 r2 k _=>o2 F2 H2 x y d v w Q s h3 r1 r2 λu ru=>k u F2 H2 (.refl s) ru
theorem ZhF{r:HM.Env}{c:Bool}(h:HM.tV fa r=some c):fa r=some (.bool c):=by
 unfold HM.tV at h;split at h
 ·rename_i q; cases h; exact q
 ·cases h
theorem Rep.bool_inv{K:ZwC}{F:Hp}{c:Bool}{v:V}(h:Rep K F (.bool c) v):v=.bl c:=by cases h; rfl
theorem Rep.int_inv{K:ZwC}{F:Hp}{i:Int}{v:V}(h:Rep K F (.int i) v):v=.int i:=by cases h; rfl
theorem Rep.none_inv{K:ZwC}{F:Hp}{v:V}(h:Rep K F .none v):v=.non:=by cases h; rfl
theorem Za0{op:CmpOp}{g:PyData->PyData->Option PyData}(o:Zfs X op g)(ha:XE X a fa)(hb:XE X b fb):XT X (.Compare a [op] [b] pos) (HM.tV (HM.op2 g fa fb)):=by intro r d h;obtain⟨x,y,h1,h2,h3⟩:=Zgp (ZhF h);obtain⟨R,o1,o2⟩:=o.ex;refine PT.imp (ZsD o1 (ha r x h1) (hb r y h2) (Zi5 _ o.n1 o.n2)) λσ H Q ⟨F0,H0,F,at_,k⟩=>?_;refine⟨F0,H0,F,at_,λv F1 H1 x1 r1=>⟨F0,H0,F1,at_.grow x1,λw F2 H2 x2 r2=>?_⟩⟩;refine o2 F2 H2 x y _ v w _ x2.sub h3 (r1.mono x2.ff) r2 λu ru=>?_;exact⟨d,ru.bool_inv,k F2 H2 (x1.trans x2)⟩
theorem Zch(h:XE X e fa)(he:∀whole,isTrue e X.env whole=(do let v <-whole; standAt e.pos; holding [v] (truthy v)):=by intro _; rfl):XT X e (HM.tV fa):=by intro r c hc;refine PT.imp (Zt1 (h r _ (ZhF hc)) he) λσ H Q ⟨F0,H0,F,at_,k⟩=>?_;exact⟨F0,H0,F,at_,λv F1 H1 x1 r1=>⟨c,r1.bool_inv,k F1 H1 x1⟩⟩
theorem Zdp{t:HM.TF}(h:XT X a t):XT X (.UnaryOp .Not a pos) (HM.ZeG t):=by intro r c hc;obtain⟨d,h1,h2⟩:=ZwE.mp hc;subst h2;refine PT.imp (Zt4 (h r d h1)) λσ H Q ⟨F0,H0,F,at_,k⟩=>?_;exact⟨F0,H0,F,at_,λF1 H1 x1=>k F1 H1 x1⟩
theorem Zlu{t:HM.TF}(h:XW X e t):XT X e t:=λr c hc=>(h r c hc).pt
theorem Zn7{t:HM.TF}(h:XT X a t):XW X (.BoolOp .And [a] pos) t:=λr c hc=>ZsJ (h r c hc)
theorem Zlv{t:HM.TF}(h:XT X a t):XW X (.BoolOp .Or [a] pos) t:=λr c hc=>ZuG (h r c hc)
theorem ZmR{e:Expr}:PW X e λ_ _ _=>False:=λ_ _ _ _ _ _ _ h=>h.elim
theorem ZgF{e:Expr}:PE X e λ_ _ _=>False:=λ_ _ _ _ _ _ h=>h.elim
theorem ZpK{t u:HM.TF}{rest:List Expr}(ha:XT X a t)(hb:XW X (.BoolOp .And (b::rest) pos) u):XW X (.BoolOp .And (a::b::rest) pos) (HM.Zf1 t u):=by
 intro r c hc;unfold HM.Zf1 at hc;split at hc
 ·rename_i q
  refine PW.imp (Zq3 (ha r true q) (hb r c hc)) λσ H Q ⟨F0,H0,F,at_,k⟩=>?_;exact⟨F0,H0,F,at_,λF1 H1 x1=>Zkd ⟨F0,H0,F1,at_.grow x1,λF2 H2 x2=>k F2 H2 (x1.trans x2)⟩⟩
 ·rename_i q
  cases hc;refine PW.imp (Zq3 (ha r false q) ZmR) λσ H Q ⟨F0,H0,F,at_,k⟩=>?_;exact⟨F0,H0,F,at_,λF1 H1 x1=>Zkf (k F1 H1 x1)⟩
 ·cases hc
theorem ZoI{t u:HM.TF}{rest:List Expr}(ha:XT X a t)(hb:XW X (.BoolOp .Or (b::rest) pos) u):XW X (.BoolOp .Or (a::b::rest) pos) (HM.tOr t u):=by
 intro r c hc;unfold HM.tOr at hc;split at hc
 ·rename_i q
  cases hc;refine PW.imp (Zst (ha r true q) ZmR) λσ H Q ⟨F0,H0,F,at_,k⟩=>?_;exact⟨F0,H0,F,at_,λF1 H1 x1=>Zkd (k F1 H1 x1)⟩
 ·rename_i q
  refine PW.imp (Zst (ha r false q) (hb r c hc)) λσ H Q ⟨F0,H0,F,at_,k⟩=>?_;exact⟨F0,H0,F,at_,λF1 H1 x1=>Zkf ⟨F0,H0,F1,at_.grow x1,λF2 H2 x2=>k F2 H2 (x1.trans x2)⟩⟩
 ·cases hc
theorem Zdq{op:BoolOp}(h:XE X a fa):XE X (.BoolOp op [a] pos) fa:=λr d hd=>Zt0 (h r d hd)
theorem Zdr{rest:List Expr}(ha:XE X a fa)(hb:XE X (.BoolOp .And (b::rest) pos) fb):XE X (.BoolOp .And (a::b::rest) pos) (HM.ZeC fa fb):=by
 intro r d hd;unfold HM.ZeC at hd;split at hd
 ·rename_i q
  refine PE.imp (Zqd (ha r _ q) (hb r d hd)) λσ H Q ⟨F0,H0,F,at_,k⟩=>?_;exact⟨F0,H0,F,at_,λv F1 H1 x1 r1=>⟨true,r1.bool_inv,Zkd ⟨F0,H0,F1,at_.grow x1,λw F2 H2 x2 r2=>k w F2 H2 (x1.trans x2) r2⟩⟩⟩
 ·rename_i q
  cases hd;refine PE.imp (Zqd (ha r _ q) ZgF) λσ H Q ⟨F0,H0,F,at_,k⟩=>?_;exact⟨F0,H0,F,at_,λv F1 H1 x1 r1=>⟨false,r1.bool_inv,Zkf (k _ F1 H1 x1 (.bl false))⟩⟩
 ·cases hd
theorem ZtB(ha:XE X a fa):XE X (.UnaryOp .Not a pos) (HM.ZrQ fa):=by
 intro r d hd;unfold HM.ZrQ at hd;split at hd
 ·rename_i c q
  cases hd;refine PE.imp (Zur (ha r _ q)) λσ H Q ⟨F0,H0,F,at_,k⟩=>?_;exact⟨F0,H0,F,at_,λv F1 H1 x1 r1=>⟨c,r1.bool_inv,k _ F1 H1 x1 (.bl _)⟩⟩
 ·cases hd
theorem Zsk{t:HM.TF}(hc:XT X c t)(ha:XE X a fa)(hb:XE X b fb):XE X (.IfExp c a b pos) (HM.eIf t fa fb):=by
 intro r d hd;unfold HM.eIf at hd;split at hd
 ·rename_i q
  refine PE.imp (ZmO (hc r _ q) (ha r d hd) ZgF) λσ H Q ⟨F0,H0,F,at_,k⟩=>?_;exact⟨F0,H0,F,at_,λF1 H1 x1=>Zkd ⟨F0,H0,F1,at_.grow x1,λw F2 H2 x2 r2=>k w F2 H2 (x1.trans x2) r2⟩⟩
 ·rename_i q
  refine PE.imp (ZmO (hc r _ q) ZgF (hb r d hd)) λσ H Q ⟨F0,H0,F,at_,k⟩=>?_;exact⟨F0,H0,F,at_,λF1 H1 x1=>Zkf ⟨F0,H0,F1,at_.grow x1,λw F2 H2 x2 r2=>k w F2 H2 (x1.trans x2) r2⟩⟩
 ·cases hd
theorem Zlw{op op':CmpOp}{g g':PyData->PyData->Option PyData}(o:Zfs X op g)(o':Zfs X op' g')(ha:XE X a fa)(hb:XE X b fb)(hc:XE X c fc)
  (hm:lastMarks [op,op'] [b,c]=false:=by with_unfolding_all rfl):XE X (.Compare a [op,op'] [b,c] pos) (HM.ZjF g g' fa fb fc):=by
 intro r d hd;unfold HM.ZjF at hd;obtain⟨R,o1,o2⟩:=o.ex;obtain⟨R',o1',o2'⟩:=o'.ex;split at hd
 ·rename_i x hx
  split at hd
  ·rename_i y hy
   split at hd
   ·rename_i hg
    split at hd
    ·rename_i z hz
     refine PE.imp (Zmx o1 o1' (ha r x hx) (hb r y hy) (hc r z hz) hm) λσ H Q ⟨F0,H0,F,at_,k⟩=>?_;refine⟨F0,H0,F,at_,λv F1 H1 x1 r1=>⟨F0,H0,F1,at_.grow x1,λw F2 H2 x2 r2=>?_⟩⟩;refine o2 F2 H2 x y _ v w _ x2.sub hg (r1.mono x2.ff) r2 λu ru=>?_;refine⟨true,ru.bool_inv,Zkd ⟨F0,H0,F2,(at_.grow x1).grow x2,λw' F3 H3 x3 r3=>?_⟩⟩;exact o2' F3 H3 y z d w w' Q x3.sub hd (r2.mono x3.ff) r3 λu' ru'=>k u' F3 H3 ((x1.trans x2).trans x3) ru'
    ·cases hd
   ·rename_i hg
    cases hd;refine PE.imp (Zmx o1 o1' (ha r x hx) (hb r y hy) ZgF hm) λσ H Q ⟨F0,H0,F,at_,k⟩=>?_;refine⟨F0,H0,F,at_,λv F1 H1 x1 r1=>⟨F0,H0,F1,at_.grow x1,λw F2 H2 x2 r2=>?_⟩⟩;refine o2 F2 H2 x y _ v w _ x2.sub hg (r1.mono x2.ff) r2 λu ru=>?_;exact⟨false,ru.bool_inv,Zkf (k _ F2 H2 (x1.trans x2) (.bl false))⟩
   ·cases hd
  ·cases hd
 ·cases hd
theorem Zh:XA X [] HM.Zm:=by refine⟨λr ds h=>by cases h; rfl,λr ds h=>?_⟩;cases h;exact PA.imp Zbm λσ H Q ⟨F0,H0,F,at_,k⟩=>k [] F H at_.refl .nil
theorem Zc{es:List Expr}{f:HM.AF}(ha:XE X e fa)(hr:XA X es f)(hs:ZwP (e::es) X.env=(false,eval e X.env)::ZwP es X.env:=by rfl):XA X (e::es) (HM.Zd fa f):=by
 refine⟨λr ds h=>?_,λr ds h=>?_⟩
 ·unfold HM.Zd at h
  split at h
  ·obtain⟨xs,h1,h2⟩:=ZwE.mp h
   subst h2;rw[ZwS,ZwS,hr.len r xs h1]
  ·cases h
 unfold HM.Zd at h;split at h
 ·rename_i x hx
  obtain⟨xs,h1,h2⟩:=ZwE.mp h;subst h2;refine PA.imp (Z5 (ha r x hx) (hr.pa r xs h1) hs) λσ H Q ⟨F0,H0,F,at_,k⟩=>?_;exact⟨F0,H0,F,at_,λv F1 H1 x1 r1=>⟨F0,H0,F1,at_.grow x1,λvs F2 H2 x2 r2=>k (v::vs) F2 H2 (x1.trans x2) (.cons (r1.mono x2.ff) r2)⟩⟩
 ·cases h
theorem ZcZ{es:List Expr}{f:HM.AF}{x1:Nat}(h:XA X es f)(hl:es.length<=100:=by exact Nat.le_of_ble_eq_true rfl):XE X (.Tuple es x1 pos) (HM.ZdK f):=by
 intro r d hd;obtain⟨ds,h1,h2⟩:=ZwE.mp hd;subst h2;refine PE.imp (Zub (h.pa r ds h1)) λσ H Q ⟨F0,H0,F,at_,k⟩=>⟨F0,H0,F,at_,λvs F1 H1 x1 r1=>⟨?_,λp hp=>?_⟩⟩
 ·have e1:=h.len r ds h1
  have e2:=r1.1;have e3:(100:Nat)<=sizeLine:=by decide
  omega
 ·have hF:F1 p=none:=x1.sub.free hp
  exact k _ (upd F1 p (.tup vs)) _ (x1.lay hp) (.tup Zz r1.1 (r1.mono (Zp.upd' hF)).2)
theorem ZbW{es:List Expr}{f:HM.AF}(h:XA X es f)(hl:es.length<=100:=by exact Nat.le_of_ble_eq_true rfl):XF X (.List es pos) (HM.ZcF f):=by
 intro r d hd;obtain⟨ds,h1,h2⟩:=ZwE.mp hd;subst h2;refine PE.imp (Zud (h.pa r ds h1)) λσ H Q ⟨F0,H0,F,at_,k⟩=>⟨F0,H0,F,at_,λvs F1 H1 x1 r1=>⟨?_,λp hp=>?_⟩⟩
 ·have e1:=h.len r ds h1
  have e2:=r1.1;have e3:(100:Nat)<=sizeLine:=by decide
  omega
 ·have hF:F1 p=none:=x1.sub.free hp
  refine k _ F1 _ (x1.lay' hp) ⟨[p],.ol Zz r1,by simp,λa ha=>?_⟩;have:a=p:=by simpa using ha
  subst this;exact⟨hF,x1.hh.free hp⟩
end
end HP
namespace HP
open PySem PySem.Spec PyProof.Rows L2
variable[FX]
section
variable{X:Cx}{a b c e:Expr}{fa fb fc:HM.EF}{pos p:Pos}{st:Stmt}{rest:List Stmt}{g u:HM.SF}
theorem ZkK(h:X.xe=λ_ _=>False):PassesOwn (model X.prog X.w) X.A X.env X.xe:=by rw[h]; exact PassesOwn.never
theorem Zaj:XSs X [] HM.Za9:=by intro r o h;cases h;exact PSs.imp ZsG λE σ H ⟨F0,H0,F,at_,k⟩=>k σ F H at_
theorem Zk(h:XS X st g):XSs X [st] g:=λr o ho=>Zob (h r o ho)
theorem Zg(h1:XS X st g)(h2:XSs X rest u):XSs X (st::rest) (HM.Zy g u):=by
  intro r o h
  unfold HM.Zy at h
  split at h
  · rename_i r' q
    refine PSs.imp (ZgY (h1 r _ q) (h2 r' o h)) λE σ H ⟨F0,H0,F,at_,k⟩=>?_
    exact⟨F0,H0,F,at_,λσ' F' H' at'=>⟨F0,H0,F',at',k⟩⟩
  all_goals first
    | cases h
      rename_i q
      refine PSs.imp (ZgY (h1 r _ q) ZfF) λE σ H ⟨F0,H0,F,at_,k⟩=>?_
      exact⟨F0,H0,F,at_,k⟩
    | cases h
theorem Zlx:XS X st HM.Zmd:=λr o h=>nomatch h
theorem ZA(h:XE X e fa):XS X (.Return (some e) pos) (HM.ZJ fa):=by intro r o ho;obtain⟨d,h1,h2⟩:=ZwE.mp ho;subst h2;refine PS.imp (ZmV (h r d h1)) λE σ H ⟨F0,H0,F,at_,k⟩=>?_;exact⟨F0,H0,F,at_,λv F' H' x q=>k v F' H' (at_.ext.trans x) q⟩
theorem ZjH(h:XE X e fa)(hs:Zy1 e none pos.line X.env=pure false:=by rfl):XS X (.Expr e pos) (HM.Zlp fa):=by intro r o ho;obtain⟨d,h1,h2⟩:=ZwE.mp ho;subst h2;refine PS.imp (Zid (h r d h1) hs) λE σ H ⟨F0,H0,F,at_,k⟩=>?_;exact⟨F0,H0,F,at_,λv F' H' x q=>k σ F' H' (at_.grow x)⟩
theorem Zbf{t:HM.TF}{sa sb:List Stmt}(hc:XT X c t)(ha:XSs X sa g)(hb:XSs X sb u):XS X (.If c sa sb pos) (HM.sIf t g u):=by
 intro r o ho;unfold HM.sIf at ho;split at ho
 ·rename_i q
  refine PS.imp (Zsp (hc r _ q) (ha r o ho) ZfF) λE σ H ⟨F0,H0,F,at_,k⟩=>?_;exact⟨F0,H0,F,at_,λF' H' x=>Zkd ⟨F0,H0,F',at_.grow x,k⟩⟩
 ·rename_i q
  refine PS.imp (Zsp (hc r _ q) ZfF (hb r o ho)) λE σ H ⟨F0,H0,F,at_,k⟩=>?_;exact⟨F0,H0,F,at_,λF' H' x=>Zkf ⟨F0,H0,F',at_.grow x,k⟩⟩
 ·cases ho
theorem Zds(i:Nat)(h:XS X st g):XS X st (HM.Zfo i g):=by intro r o ho;refine PS.imp (h (HM.ZjC i r) o ho) λE σ H ⟨F0,H0,F,at_,k⟩=>?_;obtain⟨F',_,_,a'⟩:=at_.freeze i;exact⟨F0,H0,F',a',k⟩
theorem Z3(i:Nat){x:Str}{p':Pos}(hN:X.N.Nodup)(h:XE X e fa)(hi:X.N[i]?=some x:=by rfl)(hx:Loc X.env.scope x:=by first | exact ZxA rfl | exact Zxg rfl)
  (hs:Zy1 e (some (.Name x p')) pos.line X.env=pure false:=by rfl) (hf:X.fn x=true\/X.env.scope.names.lookup x=some .local:=by first | exact .inl rfl | exact .inr rfl) :
  XS X (.Assign [.Name x p'] e pos) (HM.Zan i fa):=by
 intro r o ho;obtain⟨d,h1,h2⟩:=ZwE.mp ho;subst h2;refine PS.imp (Zmp hN hi hx (h r d h1) hs hf) λE σ H ⟨F0,H0,F,at_,k⟩=>?_;exact⟨F0,H0,F,at_,λv F' H' x q=>k _ F' H' ((at_.grow x).set q)⟩
theorem Zay(i:Nat){x:Str}{p':Pos}{f:HM.BF}(hN:X.N.Nodup)(h:XF X e f)(hi:X.N[i]?=some x:=by rfl)(hx:Loc X.env.scope x:=by first | exact ZxA rfl | exact Zxg rfl)
  (hs:Zy1 e (some (.Name x p')) pos.line X.env=pure false:=by rfl) (hf:X.fn x=true\/X.env.scope.names.lookup x=some .local:=by first | exact .inl rfl | exact .inr rfl) :
  XS X (.Assign [.Name x p'] e pos) (HM.ZT i f):=by
 intro r o ho;obtain⟨d,h1,h2⟩:=ZwE.mp ho;subst h2;refine PS.imp (Zmp hN hi hx (h r d h1) hs hf) λE σ H ⟨F0,H0,F,at_,k⟩=>?_;exact⟨F0,H0,F,at_,λv F' H' x ⟨fp,q,nd,hn⟩=>k _ F' H' ((at_.grow x).storeNew at_ x.hh q nd hn)⟩
theorem Zbk(i:Nat){x:Str}{p':Pos}{iter:Expr}{body:List Stmt}{fi:HM.IF}(hN:X.N.Nodup)(hxe:X.xe=λ_ _=>False)(hc:X.calm=true)(hi:XI X (.Name x p') iter fi)(hb:XSs X body g)(hix:X.N[i]?=some x:=by rfl)
  (hx:Loc X.env.scope x:=by first | exact ZxA rfl | exact Zxg rfl) (hf:X.fn x=true\/X.env.scope.names.lookup x=some .local:=by first | exact .inl rfl | exact .inr rfl)
  (hs:∀x,ZyK iter X.env x=pure x:=by intro _; rfl):XS X (.For (.Name x p') iter body [] pos) (HM.ZaC i fi g):=by
 intro r o ho;unfold HM.ZaC at ho;split at ho
 ·rename_i ds hds
  split at ho
  ·rename_i hbig
   have pb:PSs X body (λE σ H=>∃r o,g r=some o/\tSt X.K r o E σ H):=λpins s σ H E I ⟨r,o,h1,h2⟩=>hb r o h1 pins s σ H E I h2;refine PS.imp (Zu2 (ZkK hxe) hc (hi r ds hds) (ZoA hN hix hx hf) pb hs) λE σ H ⟨F0,H0,F,at_,k⟩=>?_;refine⟨F0,H0,F,at_,λJ F1 H1 x1 it=>?_⟩;refine⟨λn m σ H=>∃F r,At X.K F0 H0 F H r σ/\Zp F1 F/\n+m=ds.length/\HM.Zas i g (ds.drop n) r=some o,⟨ds.length,F1,r,at_.grow x1,Zp.refl _,by omega,ho⟩,?_⟩
   rintro n m σ H ⟨F2,r2,at2,s2,hn,go⟩
   obtain⟨it1,it2⟩:=it F2 H s2 at2.sub;cases m with
   | zero =>
    have e:n=ds.length:=by omega
    subst e;rw[List.drop_length]at go;cases go;exact .inl ⟨it2,k σ F2 H at2⟩
   | succ m =>
    have hlt:n<ds.length:=by omega
    rw[ZAw hlt]at go;obtain⟨j1,j2⟩:=it1 n ds[n] (ZwR hlt);refine .inr ⟨j1,λσ' H'=>∃F r,At X.K F0 H0 F H' r σ'/\Zp F1 F/\HM.Zas i g (ds.drop (n+1)) r=some o,λσ' H' ⟨F,r,a1,a2,a3⟩=>⟨m,by omega,F,r,a1,a2,by omega,a3⟩,λy H' hy=>?_⟩;obtain⟨e1,ry⟩:=j2 y H' hy;subst e1;obtain⟨F3,at3,s3,ry⟩:∃F3,At X.K F0 H0 F3 H' r2 σ/\Zp F1 F3/\Rep X.K F3 ds[n] y:=⟨_,at2.grow at2.refl.tups,s2.trans (ZcU at2.sub),ry⟩;have a3:=at3.set (i:=i) ry;have a4:=a3.rebase;unfold HM.Zas at go;split at go
    ·rename_i r' hr
     exact⟨_,_,hr,F3,H0,F3,a4,λσ' F' H' a'=>⟨F',r',a'.unbase at3.ext at3.nt0,s3.trans a'.ext.ff,go⟩⟩
    ·rename_i r' hr
     exact⟨_,_,hr,F3,H0,F3,a4,λσ' F' H' a'=>⟨F',r',a'.unbase at3.ext at3.nt0,s3.trans a'.ext.ff,go⟩⟩
    ·rename_i r' hr
     cases go;exact⟨_,_,hr,F3,H0,F3,a4,λσ' F' H' a'=>k σ' F' H' (a'.unbase at3.ext at3.nt0)⟩
    ·rename_i d hr
     cases go;exact⟨_,_,hr,F3,H0,F3,a4,λv F' H' x q=>k v F' H' (at3.ext.unbase x) q⟩
    ·cases go
  ·cases ho
 ·cases ho
end
def spD(K:ZwC)(n:Nat)(M:List PyData->Option PyData):Sp:=λvs H Q _=>∃F ds d,vs.length=n/\Zp F H/\Tb H/\NoT F/\Zq K F ds vs/\M ds=some d/\∀v F' H',Ext F H F' H'->Rep K F' d v->Q v H'
structure Callee(P:Program)(w:World)(K:ZwC)(mg:Str->Option Value)(base:Heap)(k:Nat)(x:Str)(M:List PyData->Option PyData):Prop where
 ex:∃f fd ps,(∀ds d,M ds=some d->ds.length=ps.length)/\ZcL P w K mg base CX0 k f fd ps (spD K ps.length M)/\mg x=some (.ref f)/\Zx1 K (.ref f)=true/\Binds K fd ps []
theorem Callee.mono{P:Program}{w:World}{K:ZwC}{mg:Str->Option Value}{base:Heap}{j k:Nat}{x:Str}{M:List PyData->Option PyData}(C:Callee P w K mg base j x M)(h:j<=k):Callee P w K mg base k x M:=by obtain⟨f,fd,ps,l,F,r⟩:=C.ex;exact⟨f,fd,ps,l,F.mono h,r⟩
section
variable{X:Cx}{pos p:Pos}{e:Expr}{es:List Expr}{f:HM.AF}
theorem Zl{k:Nat}{x:Str}{M:List PyData->Option PyData}(C:Callee X.prog X.w X.K X.mg X.base k x M)(hr:Zah k X.A)(ha:XA X (e::es) f)(hg:Gl X x:=by rfl)(hdb:(x==("__debug__":Str))=false:=by decide)
  (he:ZwP (e::es) X.env=(false,eval e X.env)::ZwP es X.env:=by rfl) (hpl:(backTo pos (ZwP es X.env)).any (·.1)=false:=by rfl):XE X (.Call (.Name x p) (e::es) [] pos) (HM.Zn M f):=by
 intro r d hd;unfold HM.Zn at hd;split at hd
 ·rename_i ds hds
  obtain⟨fa,fd,ps,hl,F,hm,hk,hb⟩:=C.ex;refine PE.imp (Zj2 (E:=E0) F hr hg hm hk hb .nil Zpd (ha.pa r ds hds) hdb he hpl) λσ H Q ⟨F0,H0,F1,at_,k⟩=>?_;refine⟨F0,H0,F1,at_,λvs F' H' x q=>?_⟩;show spD X.K ps.length M (vs++[]) H' Q E0;rw[Zxe];exact⟨F',ds,d,by rw[<-q.1]; exact hl ds d hd,x.sub,at_.tbx x,at_.ntx x,q,hd,λv F2 H2 x2 q2=>k v F2 H2 (x.trans x2) q2⟩
 ·cases hd
end
theorem Zfy{K:ZwC}{F H:Hp}{N:List Str}{ds:List PyData}{vs:List V}(s:Zp F H)(tb:Tb H)(nt:NoT F)(q:Zq K F ds vs)(hl:ds.length<=N.length):At K F H F H (HM.ZdN N.length ds) (L2.start N vs):=by
 have hv:=q.1;refine⟨λ_=>[],.refl s,?_,λi b h=>?_,λ_ _=>rfl,λi a h=>by simp at h,λ_=>Zyq,λi j a _ h=>by simp at h,tb,nt⟩
 ·unfold HM.ZdN L2.start
  rw[ZwY,ZwY,ZwD,ZwD,Zxm,Zxm,hv]
 ·unfold HM.ZdN at h
  by_cases hi:i<ds.length
  ·rw[Zxo (by rw[ZwD]; exact hi),Zw3,ZwR hi]at h
   cases h;obtain⟨v,h1,h2⟩:=q.get (ZwR hi);refine⟨v,?_,.pl h2⟩;unfold L2.start;rw[Zxo (by rw[ZwD,<-hv]; exact hi),Zw3,h1];rfl
  ·rw[Zxk (by rw[ZwD]; omega),ZyW]at h
   split at h<;>cases h
theorem Zon{P:Program}{w:World}{K:ZwC}{mg:Str->Option Value}{base:Heap}{k:Nat}{x qual:Str}{st:Stmt}{f:Addr}{fd:FuncData}{N ps:List Str}{g:HM.SF}(Fn:Fun K x qual st f fd)(S:Zw N ps (Ze st))
  (body:∀(cdv:Value) (A:Around) (outer:List Env) (s:Shared) (H:Hp) (E:XK),Zah k (A.deeper (envOfC qual (Ze st) s.heap.objs.size f cdv))->XSs (Zfk CX0 P w K mg base N qual (Ze st) f cdv A outer s H E).nox (Zau st) g) :
  ZcL P w K mg base CX0 (k+1) f fd ps (spD K ps.length (HM.fnOf ps.length N.length g)):=by
 have hpl:ps.length<=N.length:=by have:=congrArg Zxl S.pre; rw[Zye]at this; omega
 refine Fn.ok S (λvs H Q E h=>?_) (λcdv A outer s H vs Q E hr h=>?_)
 ·obtain⟨_,_,_,h,_⟩:=h
  exact h
 ·obtain⟨F,ds,d,hl,sub,tb,nt,q,hM,kk⟩:=h
  unfold HM.fnOf at hM;split at hM
  ·rename_i hds
   have a0:=Zfy (N:=N) sub tb nt q (by omega);split at hM
   ·rename_i r hr'
    cases hM;exact⟨_,body cdv A outer s H E hr _ _ hr',F,H,F,a0,λσ F' H' a'=>kk .non F' H' a'.ext .non⟩
   ·rename_i d' hr'
    cases hM;exact⟨_,body cdv A outer s H E hr _ _ hr',F,H,F,a0,λv F' H' x q=>kk v F' H' x q⟩
   ·cases hM
  ·cases hM
theorem Zv{P:Program}{w:World}{K:ZwC}{mg:Str->Option Value}{base:Heap}{k:Nat}{x qual:Str}{st:Stmt}{f:Addr}{fd:FuncData}{N ps:List Str}{g:HM.SF}(Fn:Fun K x qual st f fd)(S:Zw N ps (Ze st))(hm:mg x=some (.ref f))(hb:Binds K fd ps [])
  (body:∀(cdv:Value) (A:Around) (outer:List Env) (s:Shared) (H:Hp) (E:XK),Zah k (A.deeper (envOfC qual (Ze st) s.heap.objs.size f cdv))->XSs (Zfk CX0 P w K mg base N qual (Ze st) f cdv A outer s H E).nox (Zau st) g) :
  Callee P w K mg base (k+1) x (HM.fnOf ps.length N.length g):=by
 refine⟨f,fd,ps,λds d h=>?_,Zon Fn S body,hm,Fn.kp,hb⟩;unfold HM.fnOf at h;split at h
 ·assumption
 ·cases h
end HP
namespace HP
open PySem PySem.Spec PyProof.Rows L2
variable[FX]
section
variable{X:Cx}{a b c e:Expr}{fa fb fc:HM.EF}{pos p:Pos}
theorem Zfr{h:Int->Int->Option PyData}{x y z:PyData}(e:HM.ZeF h x y=some z):∃i j,x=.int i/\y=.int j/\h i j=some z:=by
 unfold HM.ZeF at e;split at e
 ·exact⟨_,_,rfl,rfl,e⟩
 ·cases e
theorem Znv{K:ZwC}{g:Int->Int->V}{h:Int->Int->PyData}(hr:∀F i j,Rep K F (h i j) (g i j)):Bin K (rI0 g) (HM.ZeF λi j=>some (h i j)):=by intro F H x y z v w Q s e r1 r2 k;obtain⟨i,j,rfl,rfl,e⟩:=Zfr e;cases e;exact⟨i,j,r1.int_inv,r2.int_inv,k _ (hr F i j)⟩
theorem ZbD:Zno X .Add HM.ZaO:=⟨_,Zt7,Znv λ_ _ _=>.int _⟩
theorem ZrV:Zno X .Sub HM.ZjV:=⟨_,Zt5,Znv λ_ _ _=>.int _⟩
theorem Zex:Zno X .Mult HM.ZcI:=by
 refine⟨_,ZuL,λF H x y z v w Q s e r1 r2 k=>?_⟩;obtain⟨i,j,rfl,rfl,e'⟩:=Zfr e;split at e'
 ·rename_i hs
  cases e';refine⟨i,j,r1.int_inv,r2.int_inv,?_,k _ (.int _)⟩;unfold HM.ZP at hs;rw[Zyb,Zzu,Zzu]at hs;unfold Zpj;omega
 ·cases e'
theorem oMod:Zno X .Mod HM.ZrU:=by
 refine⟨_,Zun,λF H x y z v w Q s e r1 r2 k=>?_⟩;obtain⟨i,j,rfl,rfl,e'⟩:=Zfr e;split at e'
 ·rename_i hs
  cases e';exact⟨i,j,r1.int_inv,r2.int_inv,hs,k _ (.int _)⟩
 ·cases e'
theorem cLt:Zfs X .Lt HM.gLt:=⟨⟨_,Zvy,Znv λ_ _ _=>.bl _⟩,by decide,by decide⟩
theorem cLe:Zfs X .LtE HM.gLe:=⟨⟨_,Zvw,Znv λ_ _ _=>.bl _⟩,by decide,by decide⟩
theorem cGt:Zfs X .Gt HM.gGt:=⟨⟨_,Zvg,Znv λ_ _ _=>.bl _⟩,by decide,by decide⟩
theorem Rep.non_iff{K:ZwC}{F:Hp}{d:PyData}{v:V}(h:Rep K F d v):decide (v=.non)=match d with | .none=>true | _=>false:=by cases h<;>first | rfl | exact decide_eq_false (λz=>nomatch z)
theorem ZuI:Zfs X .Is HM.ZpC:=by
 refine⟨⟨_,ZuF,λF H x y z v w Q s e r1 r2 k=>?_⟩,by decide,by decide⟩;unfold HM.ZpC at e;split at e
 ·refine⟨r2.none_inv,k _ ?_⟩
  rw[r1.non_iff];split at e
  ·cases e; exact .bl _
  ·rename_i hx
   cases e;cases x<;>first | exact .bl _ | exact absurd rfl hx
 ·cases e
theorem Zsq:Zfs X .IsNot HM.ZgC:=by
 refine⟨⟨_,Ztz,λF H x y z v w Q s e r1 r2 k=>?_⟩,by decide,by decide⟩;unfold HM.ZgC at e;split at e
 ·refine⟨r2.none_inv,k _ ?_⟩
  rw[r1.non_iff];split at e
  ·cases e; exact .bl _
  ·rename_i hx
   cases e;cases x<;>first | exact .bl _ | exact absurd rfl hx
 ·cases e
theorem ZfY{h:Heap}:∀{ds:List PyData} {us:List Value},ds.length=us.length->(∀(i:Nat) d u,ds[i]?=some d->us[i]?=some u->∃as,Reads h u d as)->∃as,ReadsAll h us ds as
 | [],[],_,_=>⟨[],.nil⟩
 | [],_::_,hl,_=>by simp at hl
 | _::_,[],hl,_=>by simp at hl
 | d::ds,u::us,hl,k=>by obtain⟨as,h1⟩:=k 0 d u rfl rfl;obtain⟨bs,h2⟩:=ZfY (ds:=ds) (us:=us) (by simpa using hl) λi d u e1 e2=>k (i+1) d u (by simpa using e1) (by simpa using e2);exact⟨_,.cons h1 h2⟩
theorem ZoD:∀{ds:List PyData},Zy7 ds=true->∀{i:Nat} {d:PyData},ds[i]?=some d->d.canLay0=true
 | [],_,i,d,e=>by simp at e
 | x::ds,h,i,d,e=>by
  have h':(x.canLay0&&Zy7 ds)=true:=h;rw[ZwZ]at h';cases i with
  | zero=>rw[ZyX]at e; cases e; exact h'.1
  | succ i=>rw[Zxh]at e; exact ZoD h'.2 e
theorem ZmT{ds:List PyData}(h:Zy7 ds=true){i:Nat}{d:PyData}(e:ds[i]?=some d):d.canLay0=true:=ZoD h e
theorem Rep.reads{pins:List (Addr × Obj)}{s:Shared}{σ:L2.St}{H F:Hp}{d:PyData}{v:V}(I:Inv X pins σ H s)(sub:Zp F H)(r:Rep X.K F d v):d.canLay0=true->∀u,RelV v u->∃as,Reads s.heap u d as:=by
 induction r with
 | non=>intro _ u ru; cases ru; exact⟨[],.none⟩
 | bl b=>intro _ u ru; cases ru; exact⟨[],.bool b⟩
 | int i=>intro _ u ru; obtain⟨t,rfl⟩:=ru; exact⟨[],.int i t⟩
 | str x=>intro _ u ru; obtain⟨t,rfl⟩:=ru; exact⟨[],.str x t⟩
 | dct _ _ _ _ _=>intro z; cases z
 | fn _=>intro z; cases z
 | @tupk a x h=>intro z u ru;cases ru;obtain⟨its,rv,⟨o,ho,hc,n,hd⟩,_⟩:=I.tuple (.inr h);obtain⟨u,rfl,t,rfl⟩:=rv.one;exact⟨_,.tuple ho hc hd (by simpa using ReadsAll.cons (.str x t) .nil)⟩
 | @tup a ds vs h hl _ ih =>
  intro z u ru;cases ru;obtain⟨its,rv,⟨o,ho,hc,n,hd⟩,_⟩:=I.tuple (.of (sub _ _ h));obtain⟨as,hr⟩:=ZfY (h:=s.heap) (ds:=ds) (us:=its) (hl.trans rv.length) λi d u e1 e2=>by
   have hi:i<vs.length:=by rw[<-hl]; exact(ZwQ.mp e1).1
   obtain⟨u',q1,q2⟩:=rv.get (ZwR hi);rw[e2]at q1;cases q1;exact ih i d _ e1 (ZwR hi) (ZmT z e1) u q2
  exact⟨_,.tuple ho hc hd (by simpa using hr)⟩
 | @lst a ds vs h hl _ ih =>
  intro z u ru;cases ru;obtain⟨its,rv,⟨o,n,ho,hc,_,hd⟩,_⟩:=I.list (sub.seq h);obtain⟨as,hr⟩:=ZfY (h:=s.heap) (ds:=ds) (us:=its) (hl.trans rv.length) λi d u e1 e2=>by
   have hi:i<vs.length:=by rw[<-hl]; exact(ZwQ.mp e1).1
   obtain⟨u',q1,q2⟩:=rv.get (ZwR hi);rw[e2]at q1;cases q1;exact ih i d _ e1 (ZwR hi) (ZmT z e1) u q2
  exact⟨_,.list ho hc hd (by simpa using hr)⟩
def Zt9(K:ZwC)(neg:Bool):R2:=λv w H Q=>∃F x y,Zp F H/\Rep K F x v/\Rep K F y w/\HM.ZbR x=true/\HM.ZbR y=true/\Q (.bl (if neg then !PyData.eqv x y else Zy4 x y)) H
theorem ZeM{d:PyData}(h:HM.ZbR d=true):d.canLay0=true/\d.depth<=60:=by unfold HM.ZbR at h;simpa using h
theorem ZvA{k:Nat}(hr:Zah k X.A):OpR X (Zx6 .Eq) (Zt9 X.K false):=by intro pins s σ H v w u u' Q I r1 r2 ⟨F,x,y,sub,q1,q2,p1,p2,q⟩;obtain⟨a1,a2⟩:=ZeM p1;obtain⟨b1,b2⟩:=ZeM p2;obtain⟨as,h1⟩:=q1.reads I sub a1 u r1;obtain⟨bs,h2⟩:=q2.reads I sub b1 u' r2;refine PySem.SeqAt.eqOverData X.prog X.w X.A X.xe s u u' x y as bs _ h1 h2 a1 b1 ?_ ⟨.bl _,H,I,rfl,q⟩;have:=hr.un;have:min x.depth y.depth<=60:=Zxr (Nat.min_le_left _ _) a2;omega
theorem Zvp{k:Nat}(hr:Zah k X.A):OpR X (Zx6 .NotEq) (Zt9 X.K true):=by intro pins s σ H v w u u' Q I r1 r2 ⟨F,x,y,sub,q1,q2,p1,p2,q⟩;obtain⟨a1,a2⟩:=ZeM p1;obtain⟨b1,b2⟩:=ZeM p2;obtain⟨as,h1⟩:=q1.reads I sub a1 u r1;obtain⟨bs,h2⟩:=q2.reads I sub b1 u' r2;refine PySem.SeqAt.neOverData X.prog X.w X.A X.xe s u u' x y as bs _ h1 h2 a1 b1 ?_ ⟨.bl _,H,I,rfl,q⟩;have:=hr.un;have:min x.depth y.depth<=60:=Zxr (Nat.min_le_left _ _) a2;omega
theorem cEq{k:Nat}(hr:Zah k X.A):Zfs X .Eq HM.gEq:=by
 refine⟨⟨_,ZvA hr,λF H x y z v w Q s e r1 r2 k=>?_⟩,by decide,by decide⟩;unfold HM.gEq at e;split at e
 ·rename_i hp
  cases e;rw[ZwZ]at hp;exact⟨F,x,y,s,r1,r2,hp.1,hp.2,k _ (.bl _)⟩
 ·cases e
theorem cNe{k:Nat}(hr:Zah k X.A):Zfs X .NotEq HM.gNe:=by
 refine⟨⟨_,Zvp hr,λF H x y z v w Q s e r1 r2 k=>?_⟩,by decide,by decide⟩;unfold HM.gNe at e;split at e
 ·rename_i hp
  cases e;rw[ZwZ]at hp;exact⟨F,x,y,s,r1,r2,hp.1,hp.2,k _ (.bl _)⟩
 ·cases e
theorem Zi1{K:ZwC}{F H:Hp}{q:HM.B}{v:V}{fp:List Addr}{ds:List PyData}(sub:Zp F H)(r:ZX K F H q v fp)(h:HM.Zey q=some ds):∃a vs,v=.ref a/\(SqL K H a vs\/SqT K H a vs)/\Zq K F ds vs:=by
 cases r with
 | pl r =>
  cases r with
  | tup h1 h2 h3=>cases h; exact⟨_,_,rfl,.inr (.of (sub _ _ h1)),h2,h3⟩
  | @tupk a x h1=>cases h; exact⟨_,_,rfl,.inr (.inr h1),.one (.str x)⟩
  | lst h1 h2 h3=>cases h; exact⟨_,_,rfl,.inl (sub.seq h1),h2,h3⟩
  | dct _ _ _ _=>cases h
  | fn _=>cases h
  | non=>cases h
  | bl _=>cases h
  | int _=>cases h
  | str _=>cases h
 | ol h1 r=>cases h; exact⟨_,_,rfl,.inl (.of h1),r⟩
 | ok _ _ _=>cases h
 | hd _ _ _ _=>cases h
 | hf _=>cases h
 | ot _ _ _=>cases h
 | otl _ _ _ _=>cases h
theorem ZsZ{K:ZwC}{F:Hp}{ds:List PyData}{vs:List V}{i:Int}{d:PyData}(r:Zq K F ds vs)(h:HM.atD ds i=some d):∃v,atI vs i=some v/\Rep K F d v:=by
 unfold HM.atD at h;split at h
 ·rename_i j hj
  obtain⟨v,h1,h2⟩:=r.get h;refine⟨v,?_,h2⟩;unfold atI;rw[<-r.1,show ixN ds.length i=some j from hj];exact h1
 ·cases h
theorem Zaa{fb':HM.BF}(ha:XB X a fb')(hb:XE X b fb)(hs:Zok b:=by intro _ _; rfl):XE X (.Subscript a b pos) (HM.eIx fb' fb):=by
 intro r d h;unfold HM.eIx at h;split at h
 ·rename_i x hx
  split at h
  ·rename_i ds hds
   split at h
   ·rename_i i hi
    refine PE.imp (Zve Zuh (ha r x hx) (hb r _ hi) hs) λσ H Q ⟨F0,H0,F,at_,k⟩=>?_;refine⟨F0,H0,F,at_,λv F1 H1 x1 ⟨fp,r1⟩=>⟨F0,H0,F1,at_.grow x1,λw F2 H2 x2 r2=>?_⟩⟩;obtain⟨l,vs,e1,hq,rs⟩:=Zi1 x2.sub (r1.mono x2.ff λ_ _ _ z=>x2.hh _ _ z) hds;obtain⟨u,hu,ru⟩:=ZsZ rs h;have fin:=k u F2 H2 (x1.trans x2) ru;rcases hq with hq | hq
    ·exact .inl ⟨l,vs,i,u,e1,r2.int_inv,hq,hu,fin⟩
    ·exact .inr (.inl ⟨l,vs,i,u,e1,r2.int_inv,hq,hu,fin⟩)
   ·cases h
  ·cases h
 ·cases h
def PAB(X:Cx)(e:Expr)(r:HM.Env)(q:HM.B):Prop:=PA X [e] λσ H Q=>Now X.K r σ H λF0 H0 F=>∀v fp F' H',Ext F H F' H'->ZX X.K F' H' q v fp->Q [v] H'
theorem Zeh{f:HM.BF}{r:HM.Env}{q:HM.B}(ha:XB X e f)(h:f r=some q)(hs:ZwP [e] X.env=[(false,eval e X.env)]:=by rfl):PAB X e r q:=by refine PA.imp (Z5 (ha r q h) Zbm hs) λσ H Q ⟨F0,H0,F,at_,k⟩=>?_;exact⟨F0,H0,F,at_,λv F1 H1 x1 ⟨fp,r1⟩=>k v fp F1 H1 x1 r1⟩
end
end HP
namespace HP
open PySem PySem.Spec PyProof.Rows L2
variable[FX]
theorem ZuP:Zxw "all" = some (.builtin "all"):=by decide +kernel
theorem ZtQ:Zxw "len" = some (.builtin "len"):=by decide +kernel
theorem Zp3:Zxw "max" = some (.builtin "max"):=by decide +kernel
theorem ZpV:Zxw "min" = some (.builtin "min"):=by decide +kernel
theorem Zkx:Zxw "sorted" = some (.builtin "sorted"):=by decide +kernel
theorem Zll:Zxw "isinstance" = some (.builtin "isinstance"):=by decide +kernel
theorem Zm3:Zxw "int" = some (.type "int"):=by decide +kernel
theorem ZsY:Zxw "bool" = some (.type "bool"):=by decide +kernel
theorem Ztp:Zxw "list" = some (.type "list"):=by decide +kernel
theorem Zi0:Zxw "tuple" = some (.type "tuple"):=by decide +kernel
theorem Zus:Zxw "set" = some (.type "set"):=by decide +kernel
section
variable{X:Cx}{a b c e:Expr}{fa fb fc:HM.EF}{pos p:Pos}{f:HM.BF}
theorem Zci(hm:X.mg "len" = none)(ha:XB X a f)(hg:Gl X "len":=by rfl)(hs:ZwP [a] X.env=[(false,eval a X.env)]:=by rfl):XE X (.Call (.Name "len" p) [a] [] pos) (HM.ZbF f):=by
 intro r d h;unfold HM.ZbF at h;split at h
 ·rename_i x hx
  obtain⟨n,h1,h2⟩:=ZwE.mp h;subst h2;refine PE.imp (ZcJ (Zmn.or Zp2) hg hm ZtQ (Zeh ha hx hs) (he:=hs)) λσ H Q ⟨F0,H0,F,at_,k⟩=>?_;refine⟨F0,H0,F,at_,λv fp F1 H1 x1 r1=>?_⟩;have fin:=λ(m:Nat) (e:m=n)=>k (.int m) F1 H1 x1 (by rw[e]; exact .int _);cases r1 with
  | pl q =>
   cases q with
   | tup q1 q2 q3=>cases h1; exact .inl ⟨_,_,rfl,.inr (.of (x1.sub _ _ q1)),fin _ q2.symm⟩
   | tupk q1=>cases h1; exact .inl ⟨_,_,rfl,.inr (.inr q1),fin _ rfl⟩
   | lst q1 q2 q3=>cases h1; exact .inl ⟨_,_,rfl,.inl (x1.sub.seq q1),fin _ q2.symm⟩
   | dct _ _ _ _=>cases h1
   | fn _=>cases h1
   | non=>cases h1
   | bl _=>cases h1
   | int _=>cases h1
   | str _=>cases h1
  | ol q1 q2=>cases h1; exact .inl ⟨_,_,rfl,.inl (.of q1),fin _ q2.1.symm⟩
  | ok q1 q2 q3=>cases h1;refine .inr ⟨_,_,rfl,q1,fin _ ?_⟩;have:=congrArg Zxl q2;rw[ZwD,ZwD]at this;exact this.symm
  | ot _ _ _=>cases h1
  | otl _ _ _ _=>cases h1
  | hd _ _ _ _=>cases h1
  | hf _=>cases h1
 ·cases h
theorem ZaE(hm:X.mg "tuple" = none)(ha:XB X a f)(hg:Gl X "tuple":=by rfl)(hs:ZwP [a] X.env=[(false,eval a X.env)]:=by rfl):XE X (.Call (.Name "tuple" p) [a] [] pos) (HM.ZaQ f):=by
 intro r d h;unfold HM.ZaQ at h;split at h
 ·rename_i x hx
  obtain⟨ds,h1,h2⟩:=ZwE.mp h;subst h2;refine PE.imp (ZcK Zle hg hm Zi0 (Zeh ha hx hs) (he:=hs)) λσ H Q ⟨F0,H0,F,at_,k⟩=>?_;refine⟨F0,H0,F,at_,λv fp F1 H1 x1 r1=>?_⟩;have new:∀(vs:List V),Zq X.K F1 ds vs->∀l,H1 l=none->Q (.ref l) (upd H1 l (.tup vs)):=λvs q l hl=>k _ (upd F1 l (.tup vs)) _ (x1.lay hl) (.tup Zz q.1 (q.mono (Zp.upd' (x1.sub.free hl))).2);cases r1 with
  | pl q =>
   cases q with
   | tup q1 q2 q3=>cases h1; exact⟨_,_,rfl,.inr ⟨.of (x1.sub _ _ q1),k _ F1 H1 x1 (.tup q1 q2 q3)⟩⟩
   | tupk q1=>cases h1; exact⟨_,_,rfl,.inr ⟨.inr q1,k _ F1 H1 x1 (.tupk q1)⟩⟩
   | lst q1 q2 q3=>cases h1; exact⟨_,_,rfl,.inl ⟨x1.sub.seq q1,new _ ⟨q2,q3⟩⟩⟩
   | dct _ _ _ _=>cases h1
   | fn _=>cases h1
   | non=>cases h1
   | bl _=>cases h1
   | int _=>cases h1
   | str _=>cases h1
  | ol q1 q2=>cases h1; exact⟨_,_,rfl,.inl ⟨.of q1,new _ q2⟩⟩
  | ok _ _ _=>cases h1
  | ot _ _ _=>cases h1
  | otl _ _ _ _=>cases h1
  | hd _ _ _ _=>cases h1
  | hf _=>cases h1
 ·cases h
theorem ZdY{K:ZwC}{F H F1 H1:Hp}{ds:List PyData}{vs:List V}{l:Addr}{P:V->Hp->Hp->Prop}(x1:Ext F H F1 H1)(q:Zq K F1 ds vs)(hl:H1 l=none)
  (k:∀v F' H',Ext F H F' H'->(∃fp,ZX K F' H' (.ol ds) v fp/\fp.Nodup/\∀a∈fp,F' a=none/\H a=none)->P v F' H'):P (.ref l) F1 (upd H1 l (.lst vs)):=by
 refine k _ F1 _ (x1.lay' hl) ⟨[l],.ol Zz q,by simp,λa ha=>?_⟩;have:a=l:=by simpa using ha
 subst this;exact⟨x1.sub.free hl,x1.hh.free hl⟩
theorem Zkl(hm:X.mg "list" = none)(ha:XB X a f)(hg:Gl X "list":=by rfl)(hs:ZwP [a] X.env=[(false,eval a X.env)]:=by rfl):XF X (.Call (.Name "list" p) [a] [] pos) (HM.Zib f):=by
 intro r d h;unfold HM.Zib at h;split at h
 ·rename_i x hx
  obtain⟨ds,h1,h2⟩:=ZwE.mp h;subst h2;refine PE.imp (ZcK Znk hg hm Ztp (Zeh ha hx hs) (he:=hs)) λσ H Q ⟨F0,H0,F,at_,k⟩=>?_;refine⟨F0,H0,F,at_,λv fp F1 H1 x1 r1=>?_⟩;obtain⟨l,vs,e1,hq,rs⟩:=Zi1 x1.sub r1 h1;subst e1;exact⟨l,vs,rfl,hq,λl' hl'=>ZdY (P:=λv _ H'=>Q v H') x1 rs hl' k⟩
 ·cases h
theorem Zjp{K:ZwC}{F:Hp}:∀{ds:List PyData} {vs:List V} {bs:List Bool},HM.Zem ds=some bs->Zq K F ds vs->vs=bs.map V.bl
 | [],vs,bs,h,r=>by cases h;exact r.nil_inv
 | d::ds,vs,bs,h,r=>by
  obtain⟨v,us,rfl,r1,r2⟩:=r.cons_inv;cases d with
  | bool b=>obtain⟨bs',h1,h2⟩:=ZwE.mp h;subst h2;rw[r1.bool_inv,Zjp h1 r2];rfl
  | none=>cases h
  | int _=>cases h
  | str _=>cases h
  | list _=>cases h
  | tuple _=>cases h
  | dict _=>cases h
end
end HP
namespace HP
open PySem PySem.Spec PyProof.Rows L2
variable[FX]
section
variable{X:Cx}{a b c e:Expr}{fa fb fc:HM.EF}{pos p:Pos}{f:HM.BF}
theorem ZnZ:∀{bs:List Bool} {us:List Value},Vals (bs.map V.bl) us->LSm.BoolsAre us bs:=by
 intro bs
 induction bs with
 | nil=>intro us r; rw[ZyP]at r; cases r; exact .nil
 | cons b bs ih =>
  intro us r;rw[ZwL]at r;cases r with
  | cons r1 r2=>cases r1;exact .cons b (ih r2)
theorem Zu8{A:Around}{s:Shared}{l:Addr}{vs:List Value}{bs:List Bool}{dflt:Bool}(hh:A.handled=none)(hl:s.heap.IsList l vs.toArray)(hb:LSm.BoolsAre vs bs){E:Value->Shared->Prop}{Q:Value->Shared->Prop}{prog:Program}{w:World}
  (h:∀it fp wr (P:Nat->Value->Prop) St,Walks prog w A it fp wr vs.length P St->St 0 (s.heap.push { cls:=.type "list_iterator",data:=.fields #[.ref l,rawInt 0] })->TruthOf prog w A P (λi=>(bs[i]?).getD dflt)->wr=[s.heap.objs.size]->it=s.heap.objs.size->Q (.ref it) { s with heap:=s.heap.push { cls:=.type "list_iterator",data:=.fields #[.ref l,rawInt 0] } }) :
  wpAny (model prog w) A (pyIter (.ref l)) Q E s:=by
 have hlt:l<s.heap.objs.size:=let ⟨_,e,_⟩:=hl; ZwU e
 refine ZAq hl ?_;have W:=Walks.list (prog:=prog) (w:=w) hh s.heap.objs.size l (Zw1 hlt) vs.toArray;rw[ZwV]at W;refine h _ _ _ _ _ W ⟨⟨_,ZwX _ rfl,rfl,rfl⟩,hl.push _⟩ (λi v s' Q' E' hP hQ=>?_) rfl rfl;obtain⟨b,e,rfl⟩:=hb.get i v (by simpa using hP);simp only[e,Option.getD_some]at hQ;exact Zx7 hQ
theorem ZpU(hc:X.calm=true):ZaF X (.builtin "all") (λxs H Q=>∃(p:Addr) (bs:List Bool),xs=[.ref p]/\SqL X.K H p (bs.map V.bl)/\Q (.bl (bs.all id)) H):=by intro pins s σ H xs us Q I r h;obtain⟨p,bs,rfl,hq,q⟩:=h;obtain⟨u,rfl,rx⟩:=vals1 r;cases rx;obtain⟨its,rv,pl,hz⟩:=I.list hq;have hb:=ZnZ rv;refine call_all_walk (Zu8 (dflt:=true) (A:=X.A.in1) (I.ok.hd hc) pl.isList hb λit fp wr P St W st tr e1 e2=>?_);subst e1 e2;refine⟨_,_,_,_,P,St,_,rfl,W,st,tr,λh' tk hk=>?_⟩;rw[hb.length,LSm.range_all bs];exact⟨.bl _,H,I.kept (LSm.kept_iter hk),rfl,q⟩
theorem ZdT{K:ZwC}{F H:Hp}{q:HM.B}{v:V}{fp:List Addr}{ds:List PyData}(sub:Zp F H)(r:ZX K F H q v fp)(h:HM.Zke q=some ds):∃a vs,v=.ref a/\SqL K H a vs/\Zq K F ds vs:=by
 cases r with
 | pl r =>
  cases r with
  | lst h1 h2 h3=>cases h; exact⟨_,_,rfl,sub.seq h1,h2,h3⟩
  | dct _ _ _ _=>cases h
  | fn _=>cases h
  | tupk _=>cases h
  | tup _ _ _=>cases h
  | non=>cases h
  | bl _=>cases h
  | int _=>cases h
  | str _=>cases h
 | ol h1 r=>cases h; exact⟨_,_,rfl,.of h1,r⟩
 | ok _ _ _=>cases h
 | hd _ _ _ _=>cases h
 | hf _=>cases h
 | ot _ _ _=>cases h
 | otl _ _ _ _=>cases h
theorem Zf7(hm:X.mg "all" = none)(hc:X.calm=true)(ha:XB X a f)(hg:Gl X "all":=by rfl)(hs:ZwP [a] X.env=[(false,eval a X.env)]:=by rfl):XE X (.Call (.Name "all" p) [a] [] pos) (HM.ZhB f):=by
 intro r d h;unfold HM.ZhB at h;split at h
 ·rename_i x hx
  split at h
  ·rename_i ds hds
   obtain⟨bs,h1,h2⟩:=ZwE.mp h;subst h2;refine PE.imp (ZcJ (ZpU hc) hg hm ZuP (Zeh ha hx hs) (he:=hs)) λσ H Q ⟨F0,H0,F,at_,k⟩=>?_;refine⟨F0,H0,F,at_,λv fp F1 H1 x1 r1=>?_⟩;obtain⟨l,vs,e1,hq,rs⟩:=ZdT x1.sub r1 hds;rw[Zjp h1 rs]at hq;exact⟨l,bs,by rw[e1],hq,k _ F1 H1 x1 (.bl _)⟩
  ·cases h
 ·cases h
theorem Zmi{tyn:String}{t:HM.Ty}(hr:∀(s:Shared) (d:PyData) (v:V) (u:Value) (Q:Value->Shared->Prop),RelV v u->(∃(K:ZwC) (F:Hp),Rep K F d v)->(∀es,d≠.dict es)->(∀x,v=.ref x->∃o,s.heap.get? x=some o/\((∃ds,d=.tuple ds/\o.cls=.type "tuple")\/(∃ds,d=.list ds/\o.cls=.type "list")\/∃ds,d=.dict ds/\o.cls=.type "dict")) ->
   (∀tk,Q (.bool (HM.ZhK t d)) { s with toks:=tk })->wpAny (model X.prog X.w) X.A (call (.builtin "isinstance") [u,.type tyn]) Q X.xe s) :
  ZaF X (.builtin "isinstance") (λxs H Q=>∃F d v,xs=[v,.ty tyn]/\Zp F H/\Rep X.K F d v/\(∀es,d≠.dict es)/\Q (.bl (HM.ZhK t d)) H):=by
 intro pins s σ H xs us Q I r h;obtain⟨F,d,v,rfl,sub,rp,nd,q⟩:=h;obtain⟨u,u',rfl,ru,ru'⟩:=vals2 r;cases(show u'=Zzr tyn from ru');refine hr s d v u _ ru ⟨_,_,rp⟩ nd (λx e=>?_) λtk=>⟨.bl _,H,I.tok tk,rfl,q⟩;subst e;cases rp with
 | tup h1 h2 h3=>obtain⟨its,rv,⟨o,ho,hc,n,hd⟩,_⟩:=I.tuple (.of (sub _ _ h1));exact⟨o,ho,.inl ⟨_,rfl,hc⟩⟩
 | tupk h1=>obtain⟨its,rv,⟨o,ho,hc,n,hd⟩,_⟩:=I.tuple (.inr h1);exact⟨o,ho,.inl ⟨_,rfl,hc⟩⟩
 | lst h1 h2 h3=>obtain⟨its,rv,⟨o,n,ho,hc,_,hd⟩,_⟩:=I.list (sub.seq h1);exact⟨o,ho,.inr (.inl ⟨_,rfl,hc⟩)⟩
 | @dct a es kvs vvs h1 _ _ _=>obtain⟨_,_,xs,_,o,es,ep,q1,q2,_⟩:=(show ZV X.prog X.w H s.heap x (.dT vvs) from Zjn I.hok (Zig h1 sub));exact⟨o,q1,.inr (.inr ⟨_,rfl,q2.1⟩)⟩
 | fn _=>exact absurd rfl (nd _)
theorem ZrG:ZaF X (.builtin "isinstance") (λxs H Q=>∃F d v,xs=[v,.ty "bool"]/\Zp F H/\Rep X.K F d v/\(∀es,d≠.dict es)/\Q (.bl (HM.ZhK .bool d)) H):=by
 refine Zmi λs d v u Q ru ⟨K,F,rp⟩ nd ho k=>?_;cases rp with
 | non=>cases ru; exact IsiPair.NoneType_bool (k _)
 | bl _=>cases ru; exact IsiPair.bool_bool (k _)
 | int _=>obtain⟨t,rfl⟩:=ru; exact IsiPair.int_bool (k _)
 | str _=>obtain⟨t,rfl⟩:=ru; exact IsiPair.str_bool (k _)
 | tup _ _ _ | tupk _ =>
  cases ru;obtain⟨o,h1,⟨_,_,h2⟩ | ⟨_,e,_⟩ | ⟨_,e,_⟩⟩:=ho _ rfl
  ·exact IsiPair.tuple_bool h1 h2 (k _)
  ·cases e
  ·cases e
 | lst _ _ _ =>
  cases ru;obtain⟨o,h1,⟨_,e,_⟩ | ⟨_,_,h2⟩ | ⟨_,e,_⟩⟩:=ho _ rfl
  ·cases e
  ·exact IsiPair.list_bool h1 h2 (k _)
  ·cases e
 | dct _ _ _ _ =>
  cases ru;obtain⟨o,h1,⟨_,e,_⟩ | ⟨_,e,_⟩ | ⟨_,_,h2⟩⟩:=ho _ rfl
  ·cases e
  ·cases e
  ·exact IsiPair.dict_bool h1 h2 (k _)
 | fn _=>exact absurd rfl (nd _)
theorem Zs8:ZaF X (.builtin "isinstance") (λxs H Q=>∃F d v,xs=[v,.ty "int"]/\Zp F H/\Rep X.K F d v/\(∀es,d≠.dict es)/\Q (.bl (HM.ZhK .int d)) H):=by
 refine Zmi λs d v u Q ru ⟨K,F,rp⟩ nd ho k=>?_;cases rp with
 | non=>cases ru; exact IsiPair.NoneType_int (k _)
 | bl _=>cases ru; exact IsiPair.bool_int (k _)
 | int _=>obtain⟨t,rfl⟩:=ru; exact IsiPair.int_int (k _)
 | str _=>obtain⟨t,rfl⟩:=ru; exact IsiPair.str_int (k _)
 | tup _ _ _ | tupk _ =>
  cases ru;obtain⟨o,h1,⟨_,_,h2⟩ | ⟨_,e,_⟩ | ⟨_,e,_⟩⟩:=ho _ rfl
  ·exact IsiPair.tuple_int h1 h2 (k _)
  ·cases e
  ·cases e
 | lst _ _ _ =>
  cases ru;obtain⟨o,h1,⟨_,e,_⟩ | ⟨_,_,h2⟩ | ⟨_,e,_⟩⟩:=ho _ rfl
  ·cases e
  ·exact IsiPair.list_int h1 h2 (k _)
  ·cases e
 | dct _ _ _ _ =>
  cases ru;obtain⟨o,h1,⟨_,e,_⟩ | ⟨_,e,_⟩ | ⟨_,_,h2⟩⟩:=ho _ rfl
  ·cases e
  ·cases e
  ·exact IsiPair.dict_int h1 h2 (k _)
 | fn _=>exact absurd rfl (nd _)
theorem ZqR:ZaF X (.builtin "isinstance") (λxs H Q=>∃F d v,xs=[v,.ty "tuple"]/\Zp F H/\Rep X.K F d v/\(∀es,d≠.dict es)/\Q (.bl (HM.ZhK .tuple d)) H):=by
 refine Zmi λs d v u Q ru ⟨K,F,rp⟩ nd ho k=>?_;cases rp with
 | non=>cases ru; exact IsiPair.NoneType_tuple (k _)
 | bl _=>cases ru; exact IsiPair.bool_tuple (k _)
 | int _=>obtain⟨t,rfl⟩:=ru; exact IsiPair.int_tuple (k _)
 | str _=>obtain⟨t,rfl⟩:=ru; exact IsiPair.str_tuple (k _)
 | tup _ _ _ | tupk _ =>
  cases ru;obtain⟨o,h1,⟨_,_,h2⟩ | ⟨_,e,_⟩ | ⟨_,e,_⟩⟩:=ho _ rfl
  ·exact IsiPair.tuple_tuple h1 h2 (k _)
  ·cases e
  ·cases e
 | lst _ _ _ =>
  cases ru;obtain⟨o,h1,⟨_,e,_⟩ | ⟨_,_,h2⟩ | ⟨_,e,_⟩⟩:=ho _ rfl
  ·cases e
  ·exact IsiPair.list_tuple h1 h2 (k _)
  ·cases e
 | dct _ _ _ _ =>
  cases ru;obtain⟨o,h1,⟨_,e,_⟩ | ⟨_,e,_⟩ | ⟨_,_,h2⟩⟩:=ho _ rfl
  ·cases e
  ·cases e
  ·exact IsiPair.dict_tuple h1 h2 (k _)
 | fn _=>exact absurd rfl (nd _)
theorem Zly{tyn:Str}{tys:String}{t:HM.Ty}{p2:Pos}(hR:ZaF X (.builtin "isinstance") (λxs H Q=>∃F d v,xs=[v,.ty tys]/\Zp F H/\Rep X.K F d v/\(∀es,d≠.dict es)/\Q (.bl (HM.ZhK t d)) H))(bt:Zxw tyn=some (.type tys))
  (hm:X.mg "isinstance" = none) (hm2:X.mg tyn=none) (ha:XE X a fa) (hg:Gl X "isinstance") (hg2:Gl X tyn) (hn:tyn ≠ "__name__") (hd:(tyn==("__debug__":Str))=false)
  (hs1:ZwP [a,.Name tyn p2] X.env=(false,eval a X.env)::ZwP [.Name tyn p2] X.env) (hs2:ZwP [.Name tyn p2] X.env=[(false,eval (.Name tyn p2) X.env)]):XE X (.Call (.Name "isinstance" p) [a,.Name tyn p2] [] pos) (HM.Zff fa t):=by
 intro r d h;have key:∃x,fa r=some x/\(∀es,x≠.dict es)/\d=.bool (HM.ZhK t x):=by
  unfold HM.Zff at h;split at h
  ·cases h
  ·rename_i x hn hx
   cases h;exact⟨x,hx,λes z=>hn es (by rw[z]),rfl⟩
  ·cases h
 obtain⟨x,h1,nd,h2⟩:=key;subst h2;refine PE.imp (ZcJ hR hg hm Zll (Z5 (ha r x h1) (Z5 (ZsC (v:=.ty tys) hg2 hm2 bt rfl hn hd) Zbm (by rw[hs2]; rfl)) hs1) (he:=hs1) (hpl:=by rw[hs2]; rfl)) λσ H Q ⟨F0,H0,F,at_,k⟩=>?_;exact⟨F0,H0,F,at_,λv F1 H1 x1 r1=>⟨F1,x,v,rfl,x1.sub,r1,nd,k _ F1 H1 x1 (.bl _)⟩⟩
theorem Zip{p2:Pos}(hm:X.mg "isinstance" = none)(hm2:X.mg "bool" = none)(ha:XE X a fa)(hg:Gl X "isinstance":=by rfl)(hg2:Gl X "bool":=by rfl)(hs1:ZwP [a,.Name "bool" p2] X.env=(false,eval a X.env)::ZwP [.Name "bool" p2] X.env:=by rfl) :
  XE X (.Call (.Name "isinstance" p) [a,.Name "bool" p2] [] pos) (HM.Zff fa .bool):=Zly ZrG ZsY hm hm2 ha hg hg2 (by decide) (by decide) hs1 rfl
theorem Zi9{p2:Pos}(hm:X.mg "isinstance" = none)(hm2:X.mg "int" = none)(ha:XE X a fa)(hg:Gl X "isinstance":=by rfl)(hg2:Gl X "int":=by rfl)(hs1:ZwP [a,.Name "int" p2] X.env=(false,eval a X.env)::ZwP [.Name "int" p2] X.env:=by rfl) :
  XE X (.Call (.Name "isinstance" p) [a,.Name "int" p2] [] pos) (HM.Zff fa .int):=Zly Zs8 Zm3 hm hm2 ha hg hg2 (by decide) (by decide) hs1 rfl
theorem Zha{p2:Pos}(hm:X.mg "isinstance" = none)(hm2:X.mg "tuple" = none)(ha:XE X a fa)(hg:Gl X "isinstance":=by rfl)(hg2:Gl X "tuple":=by rfl)(hs1:ZwP [a,.Name "tuple" p2] X.env=(false,eval a X.env)::ZwP [.Name "tuple" p2] X.env:=by rfl) :
  XE X (.Call (.Name "isinstance" p) [a,.Name "tuple" p2] [] pos) (HM.Zff fa .tuple):=Zly ZqR Zi0 hm hm2 ha hg hg2 (by decide) (by decide) hs1 rfl
theorem ZtC(hm:X.mg "max" = none)(hc:X.calm=true)(ha:XE X a fa)(hb:XE X b fb)(hg:Gl X "max":=by rfl)(hs1:ZwP [a,b] X.env=(false,eval a X.env)::ZwP [b] X.env:=by rfl)(hs2:ZwP [b] X.env=[(false,eval b X.env)]:=by rfl) :
  XE X (.Call (.Name "max" p) [a,b] [] pos) (HM.op2 HM.Zul fa fb):=by
 intro r d h;obtain⟨x,y,h1,h2,h3⟩:=Zgp h;obtain⟨i,j,rfl,rfl,e⟩:=Zfr h3;cases e;refine PE.imp (ZcJ (ZqG hc) hg hm Zp3 (Z5 (ha r _ h1) (Z5 (hb r _ h2) Zbm hs2) hs1) (he:=hs1) (hpl:=by rw[hs2]; rfl)) λσ H Q ⟨F0,H0,F,at_,k⟩=>?_;exact⟨F0,H0,F,at_,λv F1 H1 x1 r1=>⟨F0,H0,F1,at_.grow x1,λw F2 H2 x2 r2=>⟨i,j,by rw[r1.int_inv,r2.int_inv],k _ F2 H2 (x1.trans x2) (.int _)⟩⟩⟩
theorem ZtD(hm:X.mg "min" = none)(hc:X.calm=true)(ha:XE X a fa)(hb:XE X b fb)(hg:Gl X "min":=by rfl)(hs1:ZwP [a,b] X.env=(false,eval a X.env)::ZwP [b] X.env:=by rfl)(hs2:ZwP [b] X.env=[(false,eval b X.env)]:=by rfl) :
  XE X (.Call (.Name "min" p) [a,b] [] pos) (HM.op2 HM.Zuy fa fb):=by
 intro r d h;obtain⟨x,y,h1,h2,h3⟩:=Zgp h;obtain⟨i,j,rfl,rfl,e⟩:=Zfr h3;cases e;refine PE.imp (ZcJ (ZqP hc) hg hm ZpV (Z5 (ha r _ h1) (Z5 (hb r _ h2) Zbm hs2) hs1) (he:=hs1) (hpl:=by rw[hs2]; rfl)) λσ H Q ⟨F0,H0,F,at_,k⟩=>?_;exact⟨F0,H0,F,at_,λv F1 H1 x1 r1=>⟨F0,H0,F1,at_.grow x1,λw F2 H2 x2 r2=>⟨i,j,by rw[r1.int_inv,r2.int_inv],k _ F2 H2 (x1.trans x2) (.int _)⟩⟩⟩
theorem Zq4(hm:X.mg "int" = none)(ha:XE X a fa)(hg:Gl X "int":=by rfl)(hs:ZwP [a] X.env=[(false,eval a X.env)]:=by rfl):XE X (.Call (.Name "int" p) [a] [] pos) (HM.ZmQ fa):=by
 intro r d h;unfold HM.ZmQ at h;split at h
 ·rename_i i hi
  cases h;refine PE.imp (ZcK ZkL hg hm Zm3 (Z5 (ha r _ hi) Zbm hs) (he:=hs)) λσ H Q ⟨F0,H0,F,at_,k⟩=>?_;exact⟨F0,H0,F,at_,λv F1 H1 x1 r1=>.inl ⟨i,by rw[r1.int_inv],k _ F1 H1 x1 (.int _)⟩⟩
 ·rename_i q hq
  cases h;refine PE.imp (ZcK ZkL hg hm Zm3 (Z5 (ha r _ hq) Zbm hs) (he:=hs)) λσ H Q ⟨F0,H0,F,at_,k⟩=>?_;exact⟨F0,H0,F,at_,λv F1 H1 x1 r1=>.inr ⟨q,by rw[r1.bool_inv],k _ F1 H1 x1 (.int _)⟩⟩
 ·cases h
end
end HP
namespace HP
open PySem PySem.Spec PyProof.Rows L2
variable[FX]
section
variable{X:Cx}{a b c e:Expr}{fa fb fc:HM.EF}{pos p:Pos}{f:HM.BF}{tg:Expr}
theorem PI.imp{X:Cx}{tg e:Expr}{t u:TI}(h:PI X tg e t)(hi:∀σ H R,u σ H R->t σ H R):PI X tg e u:=λpins s σ H R I q=>h pins s σ H R I (hi σ H R q)
theorem Zuj{l:Expr}{tl:TE}(hl:PE X l tl):PI X tg l (λσ H R=>tl σ H λx H1=>∃a,x=.ref a/\((∃xs,SqL X.K H1 a xs)/\R (Itl X.K a) H1\/(∃xs,SqT X.K H1 a xs)/\R (Itt X.K a) H1)):=by
 intro pins s σ H R I h;refine thn (hl pins s σ H _ I h) λv s1 ⟨x,H1,I1,r1,q1⟩=>?_;obtain⟨a,e,q1⟩:=q1;subst e;cases r1;rcases q1 with⟨⟨xs,hq⟩,q⟩ | ⟨⟨xs,hq⟩,q⟩
 ·obtain⟨its,rv,p,hz⟩:=I1.list hq
  refine ZAq p.isList ⟨s1.heap.objs.size,[s1.heap.objs.size],_,_,H1,rfl,I1.kept (t':=s1.toks) λb o e=>ZwH _ e,Zq1 a _,⟨_,ZwX _ rfl,rfl,rfl⟩,λb hb=>?_,q⟩;obtain rfl:b=s1.heap.objs.size:=by simpa using hb
  exact I1.fpOk (ZwM _) (I1.hok.fresh (ZwM _))
 ·obtain⟨its,rv,p,hz⟩:=I1.tuple hq
  refine wpAny_pyIter_tuple (show s1.heap.IsTuple a its.toArray from p) ⟨s1.heap.objs.size,[s1.heap.objs.size],_,_,H1,rfl,I1.kept (t':=s1.toks) λb o e=>ZwH _ e,ZpG a _,⟨_,ZwX _ rfl,rfl,rfl⟩,λb hb=>?_,q⟩;obtain rfl:b=s1.heap.objs.size:=by simpa using hb
  exact I1.fpOk (ZwM _) (I1.hok.fresh (ZwM _))
theorem Zr5{K:ZwC}{F:Hp}{a:Addr}{ds:List PyData}{vs:List V}(h:SqL K F a vs)(r:Zq K F ds vs):ItD K (Itl K a) ds F:=by intro F' H s1 s2;have hq:SqL K H a vs:=(s1.trans s2).seq h;refine⟨λi d hd=>?_,⟨vs,hq,by rw[r.1]; exact ZwM _⟩⟩;obtain⟨v,h1,h2⟩:=r.get hd;refine⟨⟨vs,v,hq,h1⟩,λx H' hy=>?_⟩;obtain⟨e,y⟩:=hy;refine⟨e,?_⟩;have:=y vs hq;rw[h1]at this;cases this;exact h2.mono (s1.trans (ZcU s2))
theorem Zr7{K:ZwC}{F:Hp}{a:Addr}{ds:List PyData}{vs:List V}(h:SqT K F a vs)(r:Zq K F ds vs):ItD K (Itt K a) ds F:=by intro F' H s1 s2;have hq:SqT K H a vs:=Zry h (s1.trans s2);refine⟨λi d hd=>?_,⟨vs,hq,by rw[r.1]; exact ZwM _⟩⟩;obtain⟨v,h1,h2⟩:=r.get hd;refine⟨⟨vs,v,hq,h1⟩,λx H' hy=>?_⟩;obtain⟨e,y⟩:=hy;refine⟨e,?_⟩;have:=y vs hq;rw[h1]at this;cases this;exact h2.mono (s1.trans (ZcU s2))
theorem Zti{K:ZwC}{F:Hp}{a:Addr}{ds:List PyData}{vs:List V}(h:F a=some (.tup vs))(r:Zq K F ds vs):ItD K (Itt K a) ds F:=by intro F' H s1 s2;have hq:SqT K H a vs:=.of (s2 _ _ (s1 _ _ h));refine⟨λi d hd=>?_,⟨vs,hq,by rw[r.1]; exact ZwM _⟩⟩;obtain⟨v,h1,h2⟩:=r.get hd;refine⟨⟨vs,v,hq,h1⟩,λx H' hy=>?_⟩;obtain⟨e,y⟩:=hy;refine⟨e,?_⟩;have:=y vs hq;rw[h1]at this;cases this;exact h2.mono (s1.trans (ZcU s2))
theorem Z1(h:XE X e fa):XI X tg e (HM.ZW (HM.bOf fa)):=by
 intro r ds hd;unfold HM.ZW HM.bOf at hd;cases hx:fa r with
 | none=>rw[hx]at hd; cases hd
 | some d =>
  rw[hx]at hd;have hd:HM.Zey (.pl d)=some ds:=hd;refine PI.imp (Zuj (h r d hx)) λσ H R ⟨F0,H0,F,at_,k⟩=>?_;refine⟨F0,H0,F,at_,λv F1 H1 x1 r1=>?_⟩;cases r1 with
  | @tupk a x h1=>cases hd;exact⟨a,rfl,.inr ⟨⟨_,.inr h1⟩,k _ F1 H1 x1 (Zr7 (.inr h1) (.one (.str x)))⟩⟩
  | @tup a ds' vs h1 h2 h3=>cases hd;exact⟨a,rfl,.inr ⟨⟨vs,.of (x1.sub _ _ h1)⟩,k _ F1 H1 x1 (Zti h1 ⟨h2,h3⟩)⟩⟩
  | @lst a ds' vs h1 h2 h3=>cases hd;exact⟨a,rfl,.inl ⟨⟨vs,x1.sub.seq h1⟩,k _ F1 H1 x1 (Zr5 h1 ⟨h2,h3⟩)⟩⟩
  | dct _ _ _ _=>cases hd
  | fn _=>cases hd
  | non=>cases hd
  | bl _=>cases hd
  | int _=>cases hd
  | str _=>cases hd
theorem Zoq{K:ZwC}{F:Hp}(lo:Int)(n:Nat):ItD K (Itr lo n) (HM.Zbe lo n) F:=by
 intro F' H s1 s2;have hl:(HM.Zbe lo n).length=n:=by unfold HM.Zbe; rw[ZwD,ZxR]
 refine⟨λi d hd=>?_,?_⟩
 ·have hi:i<n:=by rw[<-hl]; exact(ZwQ.mp hd).1
  unfold HM.Zbe at hd;rw[Zw3,List.getElem?_range hi]at hd;cases hd;exact⟨hi,λx H' ⟨e1,e2⟩=>⟨e1,by rw[e2]; exact .int _⟩⟩
 ·rw[hl]; exact ZwM _
theorem Zh3{j:Int}(h:HM.okR j=true):-1000000<j/\j<1000000:=by unfold HM.okR at h;rw[Zzu]at h;omega
theorem Zcb(hm:X.mg "range" = none)(ha:XE X a fa)(hg:Gl X "range":=by rfl)(hs:ZwP [a] X.env=[(false,eval a X.env)]:=by rfl):XI X tg (.Call (.Name "range" p) [a] [] pos) (HM.Zbp fa):=by
 intro r ds hd;unfold HM.Zbp at hd;split at hd
 ·rename_i j hj
  split at hd
  ·rename_i hok
   cases hd;obtain⟨k1,k2⟩:=Zh3 hok;refine PI.imp (ZpZ hg hm (Z5 (ha r _ hj) Zbm hs) hs) λσ H R ⟨F0,H0,F,at_,k⟩=>?_;exact⟨F0,H0,F,at_,λv F1 H1 x1 r1=>⟨j,by rw[r1.int_inv],by omega,by omega,k _ F1 H1 x1 (Zoq 0 j.toNat)⟩⟩
  ·cases hd
 ·cases hd
theorem ZpL(hm:X.mg "range" = none)(ha:XE X a fa)(hb:XE X b fb)(hg:Gl X "range":=by rfl)(hs:ZwP [a,b] X.env=[(false,eval a X.env),(false,eval b X.env)]:=by rfl)(hs2:ZwP [b] X.env=[(false,eval b X.env)]:=by rfl) :
  XI X tg (.Call (.Name "range" p) [a,b] [] pos) (HM.Zh5 fa fb):=by
 intro r ds hd;unfold HM.Zh5 at hd;split at hd
 ·rename_i i hi
  split at hd
  ·rename_i j hj
   split at hd
   ·rename_i hok
    cases hd;rw[ZwZ]at hok;obtain⟨k1,k2⟩:=Zh3 hok.1;obtain⟨k3,k4⟩:=Zh3 hok.2;refine PI.imp (ZqY hg hm (Z5 (ha r _ hi) (Z5 (hb r _ hj) Zbm hs2) (by rw[hs,hs2])) hs hs2) λσ H R ⟨F0,H0,F,at_,k⟩=>?_;exact⟨F0,H0,F,at_,λv F1 H1 x1 r1=>⟨F0,H0,F1,at_.grow x1,λw F2 H2 x2 r2=>⟨i,j,by rw[r1.int_inv,r2.int_inv],⟨by omega,by omega,by omega,by omega⟩,k _ F2 H2 (x1.trans x2) (Zoq i (j-i).toNat)⟩⟩⟩
   ·cases hd
  ·cases hd
 ·cases hd
theorem ZpM{ga gb:HM.BF}(ha:XB X a ga)(hb:XB X b gb):XF X (.BinOp a .Add b pos) (HM.Zpk ga gb):=by
 intro r d h;unfold HM.Zpk at h;split at h
 ·rename_i xs hx
  split at h
  ·rename_i ys hy
   split at h
   ·rename_i hz
    cases h;refine PE.imp (ZpI ZuY (ha r _ hx) (hb r _ hy)) λσ H Q ⟨F0,H0,F,at_,k⟩=>?_;refine⟨F0,H0,F,at_,λv F1 H1 x1 ⟨fp,r1⟩=>⟨F0,H0,F1,at_.grow x1,λw F2 H2 x2 ⟨fq,r2⟩=>?_⟩⟩;cases r1 with
    | ol h1 q1 =>
     cases r2 with
     | ol h2 q2 =>
      have q1':=q1.mono x2.ff;refine⟨_,_,_,_,rfl,rfl,x2.hh _ _ h1,h2,?_,λl hl=>ZdY (P:=λv _ H'=>Q v H') (x1.trans x2) (q1'.append q2) hl k⟩;have e1:=q1.1;have e2:=q2.1;have e3:(1000000:Nat)<=sizeLine:=by decide
      unfold HM.big at hz;omega
   ·cases h
  ·cases h
 ·cases h
theorem ZtE{ga:HM.BF}(ha:XB X a ga)(hb:XE X b fb):XF X (.BinOp a .Mult b pos) (HM.ZrZ ga fb):=by
 intro r d h;unfold HM.ZrZ at h;split at h
 ·rename_i xs hx
  split at h
  ·rename_i i hy
   split at h
   ·rename_i hz
    cases h;rw[ZwZ,decide_eq_true_eq,decide_eq_true_eq]at hz;refine PE.imp (ZpI ZtV (ha r _ hx) (hb r _ hy)) λσ H Q ⟨F0,H0,F,at_,k⟩=>?_;refine⟨F0,H0,F,at_,λv F1 H1 x1 ⟨fp,r1⟩=>⟨F0,H0,F1,at_.grow x1,λw F2 H2 x2 r2=>?_⟩⟩;cases r1 with
    | ol h1 q1 =>
     have q1':=q1.mono x2.ff;refine⟨_,i,_,rfl,r2.int_inv,x2.hh _ _ h1,by omega,by omega,?_,λl hl=>ZdY (P:=λv _ H'=>Q v H') (x1.trans x2) (q1'.rep i.toNat) hl k⟩;have e1:=q1.1;have e3:(1000*1000:Nat)<=sizeLine:=by decide
     refine Zxr (Nat.mul_le_mul (?_:_<=1000) (?_:_<=1000)) e3<;>omega
   ·cases h
  ·cases h
 ·cases h
def XO(X:Cx)(e:Option Expr)(f:Option HM.EF):Prop:=∀r o,HM.Zo9 f r=some o->PO X e λσ H Q=>Now X.K r σ H λF0 H0 F=>∀F' H',Ext F H F' H'->Q o H'
theorem ZsS:XO X none none:=by intro r o h;cases h;intro pins s σ H Q I q;obtain⟨F0,H0,F,at_,k⟩:=q;exact Ztk pins s σ H Q I (k F H at_.refl)
theorem ZsI(h:XE X e fa):XO X (some e) (some fa):=by
 intro r o ho;unfold HM.Zo9 at ho;split at ho
 ·rename_i z; cases z
 ·rename_i g z
  cases z;split at ho
  ·rename_i i hi
   cases ho;intro pins s σ H Q I q;obtain⟨F0,H0,F,at_,k⟩:=q;exact Zth (h r _ hi) pins s σ H Q I ⟨F0,H0,F,at_,λv F1 H1 x1 r1=>⟨i,r1.int_inv,k F1 H1 x1⟩⟩
  ·cases ho
theorem ZtF{ga:HM.BF}{lo hi:Option Expr}{fl fh:Option HM.EF}{p2:Pos}(ha:XB X a ga)(hl:XO X lo fl)(hh:XO X hi fh):XF X (.Subscript a (.Slice lo hi none p2) pos) (HM.Zrm ga fl fh):=by
 intro r d h;unfold HM.Zrm at h;split at h
 ·rename_i x hx
  split at h
  ·rename_i xs hxs
   split at h
   ·rename_i l hl'
    split at h
    ·rename_i u hu'
     cases h;refine PE.imp (ZrR Ztt (ha r _ hx) (hl r _ hl') (hh r _ hu')) λσ H Q ⟨F0,H0,F,at_,k⟩=>?_;refine⟨F0,H0,F,at_,λv F1 H1 x1 ⟨fp,r1⟩=>⟨F0,H0,F1,at_.grow x1,λF2 H2 x2=>⟨F0,H0,F2,(at_.grow x1).grow x2,λF3 H3 x3=>?_⟩⟩⟩;have x23:=x2.trans x3;obtain⟨l',vs,e1,hq,rs⟩:=ZdT x3.sub (r1.mono x23.ff λ_ _ _ z=>x23.hh _ _ z) hxs;refine⟨l',vs,e1,hq,λl2 hl2=>ZdY (P:=λv _ H'=>Q v H') (x1.trans x23) ?_ hl2 k⟩;unfold HM.cutD Znl;rw[<-rs.1];exact(rs.drop _).take _
    ·cases h
   ·cases h
  ·cases h
 ·cases h
theorem ZaT.val{K:ZwC}{F0 H0 F H:Hp}{r:HM.Env}{σ:L2.St}{fp:Nat->List Addr}{i:Nat}{ds:List PyData}(e:ZaT K F0 H0 F H r σ fp)(h:r[i]?=some (some (.ol ds))) :
  ∃l vs,σ[i]?=some (some (.ref l))/\H l=some (.lst vs)/\Zq K F ds vs/\fp i=[l]:=by
 obtain⟨v,h1,h2⟩:=e.at_ i _ h;generalize hf:fp i=q at h2;cases h2 with
 | ol k1 k2=>exact⟨_,_,h1,k1,k2,rfl⟩
theorem At.chgList{K:ZwC}{F0 H0 F H:Hp}{r:HM.Env}{σ:L2.St}{i:Nat}{ds es:List PyData}(e:At K F0 H0 F H r σ)(h:r[i]?=some (some (.ol ds))) :
  ∃l vs,σ[i]?=some (some (.ref l))/\H l=some (.lst vs)/\Zq K F ds vs/\∀us,Zq K F es us->At K F0 H0 F (upd H l (.lst us)) (r.set i (some (.ol es))) σ:=by
 obtain⟨fp,e⟩:=e;obtain⟨l,vs,h1,h2,h3,h4⟩:=e.val h;refine⟨l,vs,h1,h2,h3,λus q=>e.change (fp':=[l]) h1 (.ol Zz q) (by simp) (λa ha=>.inl (by rw[h4]; exact ha)) λa o z hn=>?_⟩;rw[Zx (λz=>hn (by rw[h4,z]; simp))];exact z
theorem Zcx(i:Nat){x:Str}{p1 p2 p3:Pos}(ha:XE X a fa)(hN:X.N[i]?=some x:=by rfl)(hv:Vis X.env.scope x:=by first | exact ZxA rfl | exact Zxg (ZxA rfl) | exact Zxg (Zxg rfl))(hd:(x==("__debug__":Str))=false:=by decide)(hcd:(x==("__classdict__":Str))=false:=by decide)
  (hbase:Zy0 (.Name x p1) "append" X.env (eval (.Name x p1) X.env)=eval (.Name x p1) X.env:=by rfl)
  (hfew:((backTo p3 (ZwP [a] X.env)).all (λx=>!x.1)&&(backToKw p3 (ZAc [] X.env)).all (λx=>x.1.isSome)&&decide (([a]:List Expr).length+([]:List Keyword).length+(if([]:List Keyword).isEmpty then 0 else 1)<30))=true:=by rfl)
  (hline:(p2.endLine==p3.line)=true:=by rfl) (hs:ZwP [a] X.env=[(false,eval a X.env)]:=by rfl):XS X (.Expr (.Call (.Attribute (.Name x p1) "append" p2) [a] [] p3) pos) (HM.ZcV i fa):=by
 intro r o h;unfold HM.ZcV at h;split at h
 ·rename_i ds hds
  split at h
  ·rename_i d hd'
   split at h
   ·rename_i hz
    cases h;refine PS.imp (Zid (Zpr ZyY ZAE ZAF Zhy (Zb9 hN hv hd hcd) (Z5 (ha r d hd') Zbm hs) hbase hfew hline hs rfl)) λE σ H ⟨F0,H0,F,at_,k⟩=>?_;obtain⟨l,vs,e1,e2,e3,_⟩:=at_.chgList (es:=ds) hds;refine⟨.ref l,e1,.inl ⟨rfl,_,SqL.of e2⟩,F0,H0,F,at_,λv F1 H1 x1 r1=>?_⟩;have at1:=at_.grow x1;obtain⟨l',vs',f1,f2,f3,f4⟩:=at1.chgList (es:=ds++[d]) hds;rw[e1]at f1;cases f1;refine⟨_,vs',v,rfl,rfl,f2,?_,k _ F1 _ (f4 _ (f3.append (.one r1)))⟩;have e4:=f3.1;have e5:(1000000:Nat)<=sizeLine:=by decide
    unfold HM.big at hz;omega
   ·cases h
  ·cases h
 ·cases h
theorem Zsy(i:Nat){x:Str}{p1 p2:Pos}(hk:XE X b fb)(ha:XE X a fa)(hN:X.N[i]?=some x:=by rfl)(hv:Vis X.env.scope x:=by first | exact ZxA rfl | exact Zxg (ZxA rfl) | exact Zxg (Zxg rfl))(hd:(x==("__debug__":Str))=false:=by decide)(hcd:(x==("__classdict__":Str))=false:=by decide)
  (hsub:∀v,assign (.Subscript (.Name x p1) b p2) X.env v=(do
   let ov <-holding [v] (eval (.Name x p1) X.env)
   let iv <-holding [v,ov] (eval b X.env)
   standAt p2
   holding [v,ov,iv] (setItem ov iv v)
   release [v,ov,iv] []):=by intro _; rfl)
  (hs:swapsWithSole [.Subscript (.Name x p1) b p2] a pos.line X.env=pure false:=by rfl) (hw:swappedStores [.Subscript (.Name x p1) b p2] a X.env=pure none:=by rfl)
  (h1:(assignEach [.Subscript (.Name x p1) b p2] X.env).map (·.2)=[assign (.Subscript (.Name x p1) b p2) X.env]:=by rfl):XS X (.Assign [.Subscript (.Name x p1) b p2] a pos) (HM.Zpq i fb fa):=by
 intro r o h;unfold HM.Zpq at h;split at h
 ·rename_i d hd'
  split at h
  ·rename_i ds hds
   split at h
   ·rename_i n hn
    split at h
    ·rename_i j hj
     cases h;refine PS.imp (ZuZ (ha r d hd') (ZuM (Zb9 hN hv hd hcd) (hk r _ hn) set_list hsub) hs hw h1) λE σ H ⟨F0,H0,F,at_,k⟩=>?_;refine⟨F0,H0,F,at_,λv F1 H1 x1 r1=>?_⟩;have at1:=at_.grow x1;obtain⟨l,vs,e1,e2,e3,_⟩:=at1.chgList (es:=ds) hds;refine⟨.ref l,e1,F0,H0,F1,at1,λw F2 H2 x2 r2=>?_⟩;obtain⟨l',vs',f1,f2,f3,f4⟩:=(at1.grow x2).chgList (es:=ds.set j d) hds;rw[e1]at f1;cases f1;refine⟨_,vs',n,j,rfl,r2.int_inv,f2,?_,k _ F2 _ (f4 _ (f3.set (r1.mono x2.ff) j))⟩;rw[<-f3.1];exact hj
    ·cases h
   ·cases h
  ·cases h
 ·cases h
end
end HP
namespace HP
open PySem PySem.Spec PyProof.Rows L2
variable[FX]
section
variable{K:ZwC}{F:Hp}{κ:Type}[DecidableEq κ]
def Zam(K:ZwC)(F:Hp)(kvs:List (κ × PyData))(vvs:List (κ × V)):Prop:=kvs.map (·.1)=vvs.map (·.1)/\Zq K F (kvs.map (·.2)) (vvs.map (·.2))
theorem Zam.nil:Zam K F ([]:List (κ × PyData)) []:=⟨rfl,.nil⟩
theorem Zam.cons{k:κ}{d:PyData}{v:V}{kvs:List (κ × PyData)}{vvs:List (κ × V)}(r:Rep K F d v)(q:Zam K F kvs vvs):Zam K F ((k,d)::kvs) ((k,v)::vvs) :=
 ⟨by rw[ZwL,ZwL,q.1],by rw[ZwL,ZwL]; exact .cons r q.2⟩
theorem Zam.inv{kvs:List (κ × PyData)}{vvs:List (κ × V)}(q:Zam K F kvs vvs):(kvs=[]/\vvs=[])\/∃k d v kvs' vvs',kvs=(k,d)::kvs'/\vvs=(k,v)::vvs'/\Rep K F d v/\Zam K F kvs' vvs':=by
 cases kvs with
 | nil =>
  cases vvs with
  | nil=>exact .inl ⟨rfl,rfl⟩
  | cons p r=>exact absurd q.1 (by simp)
 | cons p kvs' =>
  cases vvs with
  | nil=>exact absurd q.1 (by simp)
  | cons p' vvs' =>
   obtain⟨k,d⟩:=p;obtain⟨k',v⟩:=p';obtain⟨q1,q2⟩:=q;rw[ZwL,ZwL]at q1 q2;injection q1 with e1 e2
   have e1:k=k':=e1;subst e1;obtain⟨v',us,e3,r1,r2⟩:=q2.cons_inv;injection e3 with e3 e4
   refine .inr ⟨k,d,v,kvs',vvs',rfl,rfl,?_,e2,?_⟩
   ·rw[show v=v' from e3]; exact r1
   ·rw[e4]; exact r2
theorem Zam.len{kvs:List (κ × PyData)}{vvs:List (κ × V)}(q:Zam K F kvs vvs):kvs.length=vvs.length:=by
 have:=congrArg Zxl q.1
 rwa [ZwD,ZwD]at this
theorem Zam.any{kvs:List (κ × PyData)}{vvs:List (κ × V)}(k:κ)(q:Zam K F kvs vvs):(kvs.any λp=>decide (p.1=k))=vvs.any λp=>decide (p.1=k):=by
 have e:∀{β:Type} (l:List (κ × β)),(l.any λp=>decide (p.1=k))=(l.map (·.1)).any λx=>decide (x=k):=λl=>by rw[ZBh]; rfl
 rw[e,e,q.1]
theorem Zam.repl{d:PyData}{v:V}(k:κ)(r:Rep K F d v):∀{kvs:List (κ × PyData)} {vvs:List (κ × V)},Zam K F kvs vvs->Zam K F (kvs.map λp=>if p.1=k then(p.1,d)else p) (vvs.map λp=>if p.1=k then(p.1,v)else p)
 | [],vvs,q=>by
  rcases q.inv with⟨_,e⟩ | ⟨_,_,_,_,_,e,_⟩
  ·subst e; exact .nil
  ·cases e
 | p::kvs,vvs,q=>by
  rcases q.inv with⟨e,_⟩ | ⟨k',d',v',kvs',vvs',e1,e2,r1,r2⟩
  ·cases e
  ·cases e1
   subst e2;have ih:=Zam.repl k r r2;rw[ZwL,ZwL]
   by_cases h:k'=k
   ·rw[if_pos h,if_pos h]; exact .cons r ih
   ·rw[if_neg h,if_neg h]; exact .cons r1 ih
theorem Zam.snoc{kvs:List (κ × PyData)}{vvs:List (κ × V)}{k:κ}{d:PyData}{v:V}(q:Zam K F kvs vvs)(r:Rep K F d v):Zam K F (kvs++[(k,d)]) (vvs++[(k,v)]) :=
 ⟨by rw[Zxd,Zxd,q.1]; rfl,by rw[Zxd,Zxd]; exact q.2.append (.one r)⟩
theorem Zam.put{kvs:List (κ × PyData)}{vvs:List (κ × V)}{d:PyData}{v:V}(q:Zam K F kvs vvs)(k:κ)(r:Rep K F d v):Zam K F (HM.putD kvs k d) (putK vvs k v):=by
 unfold HM.putD putK;rw[q.any k]
 by_cases h:(vvs.any λp=>decide (p.1=k))=true
 ·rw[if_pos h,if_pos h]; exact q.repl k r
 ·rw[if_neg h,if_neg h]; exact q.snoc r
theorem Zam.look{k:κ}:∀{kvs:List (κ × PyData)} {vvs:List (κ × V)},Zam K F kvs vvs->(∀d,HM.Zf kvs k=some d->∃v,Zal vvs k=some v/\Rep K F d v)/\(HM.Zf kvs k=none->Zal vvs k=none)
 | [],vvs,q=>by
  rcases q.inv with⟨_,e⟩ | ⟨_,_,_,_,_,e,_⟩
  ·subst e; exact⟨λd h=>(by cases h),λ_=>rfl⟩
  ·cases e
 | p::kvs,vvs,q=>by
  rcases q.inv with⟨e,_⟩ | ⟨k',d',v',kvs',vvs',e1,e2,r1,r2⟩
  ·cases e
  ·cases e1
   subst e2;obtain⟨i1,i2⟩:=Zam.look (k:=k) r2
   by_cases h:k'=k
   ·have e3:HM.Zf ((k',d')::kvs) k=some d':=by simp[HM.Zf,Zxf,h]
    rw[e3,Zdb (p:=(k',v')) h];exact⟨λd hd=>(by cases hd; exact⟨v',rfl,r1⟩),λhd=>by cases hd⟩
   ·have e3:HM.Zf ((k',d')::kvs) k=HM.Zf kvs k:=by simp[HM.Zf,Zxf,h]
    rw[e3,Zc9 (p:=(k',v')) h];exact⟨i1,i2⟩
theorem Zam.some_iff{k:κ}{kvs:List (κ × PyData)}{vvs:List (κ × V)}(q:Zam K F kvs vvs):(Zal vvs k).isSome=(HM.Zf kvs k).isSome:=by
 obtain⟨i1,i2⟩:=q.look (k:=k);cases h:HM.Zf kvs k with
 | none=>rw[i2 h]; rfl
 | some d=>obtain⟨v,h1,_⟩:=i1 d h; rw[h1]; rfl
end
section
variable{K:ZwC}{F:Hp}
theorem Zfv{d:PyData}{k:Key}{v:V}(h:HM.Zfn d=some k)(r:Rep K F d v):v=kV k:=by cases r<;>first | (cases h; rfl) | cases h
theorem Zkt:∀{ds:List PyData} {ks:List Key} {vs:List V},HM.ZfC ds=some ks->Zq K F ds vs->vs=ks.map kV
 | [],ks,vs,h,r=>by cases h; exact r.nil_inv
 | d::ds,ks,vs,h,r=>by
  obtain⟨v,us,rfl,r1,r2⟩:=r.cons_inv;unfold HM.ZfC at h;split at h
  ·rename_i k hk
   obtain⟨ks',h1,h2⟩:=ZwE.mp h;subst h2;rw[Zfv hk r1,Zkt h1 r2];rfl
  ·cases h
theorem Zov:∀{ds:List PyData} {ks:List Key},HM.Zj5 ds=some ks->HM.ZfC ds=some ks
 | [],ks,h=>h
 | d::ds,ks,h=>by
  unfold HM.Zj5 at h;split at h
  ·cases ‹_=[]›
  ·rename_i i r e
   injection e with e1 e2
   subst e1 e2;obtain⟨ks',h1,h2⟩:=ZwE.mp h;subst h2;show(match HM.Zfn (.int i)with | some k=>(HM.ZfC ds).map (k::·) | none=>none)=_;rw[Zov h1];rfl
  ·cases h
theorem Zcd{d:PyData}{ks:List Key}{v:V}(h:HM.Za5 d=some ks)(r:Rep K F d v):∃b,v=.ref b/\F b=some (.tup (ks.map kV)):=by
 cases r with
 | tup h1 h2 h3=>refine⟨_,rfl,?_⟩;rw[<-Zkt (Zov h) ⟨h2,h3⟩];exact h1
 | tupk _=>cases h
 | lst _ _ _=>cases h
 | dct _ _ _ _=>cases h
 | fn _=>cases h
 | non=>cases h
 | bl _=>cases h
 | int _=>cases h
 | str _=>cases h
end
section
variable{X:Cx}{a b c e:Expr}{fa fb fc:HM.EF}{pos p:Pos}{f:HM.BF}
theorem fresh_one{K:ZwC}{F H F1 H1:Hp}{o:HO}{q:HM.B}{l:Addr}{P:V->Hp->Hp->Prop}(x1:Ext F H F1 H1)(hl:H1 l=none)(hq:ZX K F1 (upd H1 l o) q (.ref l) [l])
  (k:∀v F' H',Ext F H F' H'->(∃fp,ZX K F' H' q v fp/\fp.Nodup/\∀a∈fp,F' a=none/\H a=none)->P v F' H'):P (.ref l) F1 (upd H1 l o):=by
 refine k _ F1 _ (x1.lay' hl) ⟨[l],hq,by simp,λa ha=>?_⟩;obtain rfl:a=l:=by simpa using ha
 exact⟨x1.sub.free hl,x1.hh.free hl⟩
theorem Zsl:XF X (.Dict [] [] pos) HM.fDk:=by intro r d h;cases h;exact PE.imp Zrw λσ H Q ⟨F0,H0,F,at_,k⟩ l hl=>fresh_one (P:=λv _ H'=>Q v H') at_.refl hl (.ok Zz rfl .nil) k
theorem ZoJ:XF X (.Dict [] [] pos) HM.fDt:=by intro r d h;cases h;exact PE.imp Zm4 λσ H Q ⟨F0,H0,F,at_,k⟩ l hl=>fresh_one (P:=λv _ H'=>Q v H') at_.refl hl (.ot Zz rfl .nil) k
theorem ZtG:XF X (.Dict [] [] pos) HM.Zuk:=by intro r d h;cases h;exact PE.imp Zm4 λσ H Q ⟨F0,H0,F,at_,k⟩ l hl=>fresh_one (P:=λv _ H'=>Q v H') at_.refl hl (.otl Zz rfl rfl λi ds l' h=>by simp at h) k
theorem Zq5(ha:XE X a fa)(hb:XE X b fb):XF X (.Dict [some a] [b] pos) (HM.Znj fa fb):=by
 intro r d h;unfold HM.Znj at h;split at h
 ·rename_i x hx
  split at h
  ·rename_i y hy
   split at h
   ·rename_i k hk
    cases h;refine PE.imp (Zts (ZrP (ha r x hx) (hb r y hy) Ztg) rfl rfl (by simp) (by simp)) λσ H Q ⟨F0,H0,F,at_,kk⟩ l hl=>?_;have hFl:F l=none:=at_.sub.free hl;have x0:Ext F H F (upd H l (.dK [])):=at_.refl.lay' hl;refine⟨F0,H0,F,at_.grow x0,λv F1 H1 x1 r1=>⟨F0,H0,F1,(at_.grow x0).grow x1,λw F2 H2 x2 r2=>?_⟩⟩;have x12:=x1.trans x2;have hl2:H2 l=some (.dK []):=x12.hh l _ Zz;have hF2:F2 l=none:=by
     cases q:F2 l with
     | none=>rfl
     | some o =>
      rcases x12.new l o q with z | z
      ·rw[hFl]at z; cases z
      ·exact(z.no Zz λ_ q=>by cases q).elim
    refine⟨hl2,[(k,w)],?_,by simp,?_⟩
    ·rw[Zfv hk r1]
     rfl
    have xe:Ext F H F2 (upd H2 l (.dK (Zgk [] [(k,w)]))):=by
     refine⟨x12.ff,λc o z=>?_,λc o z=>?_,λc o z=>?_,λt=>(x12.tab (t.same (Zi7 hl))).keep λa u z hu=>?_,x12.nts⟩
     ·have hc:c≠l:=Z6 z hl
      exact(x12.hh c o (by rw[Zx hc]; exact z)).cong (Zx hc)
     ·rw[Zx (λe=>by rw[e,hF2]at z; cases z)]
      exact x12.sub c o z
     ·rcases x12.new c o z with q | q
      ·exact .inl q
      ·exact .inr (q.back (.of (Zp.upd' hl)))
     ·rw[Zx (λe=>by subst e; rw[hl2]at z; cases z; cases hu)]; exact z
    refine kk _ F2 _ xe ⟨[l],.ok Zz rfl (.one r2),by simp,λc hc=>?_⟩;obtain rfl:c=l:=by simpa using hc
    exact⟨hF2,hl⟩
   ·cases h
  ·cases h
 ·cases h
end
end HP
namespace HP
open PySem PySem.Spec PyProof.Rows L2
variable[FX]
theorem At.chgOne{K:ZwC}{F0 H0 F H:Hp}{r:HM.Env}{σ:L2.St}{i:Nat}{q:HM.B}{l:Addr}(e:At K F0 H0 F H r σ)(h:r[i]?=some (some q))(hv:σ[i]?=some (some (.ref l)))(hone:∀v fp,ZX K F H q v fp->∃a,v=.ref a/\fp=[a]) :
  ∀o q',ZX K F (upd H l o) q' (.ref l) [l]->At K F0 H0 F (upd H l o) (r.set i (some q')) σ:=by
 intro o q' hq;obtain⟨fp,e⟩:=e;obtain⟨v,h1,h2⟩:=e.at_ i _ h;obtain⟨a,e1,e2⟩:=hone v _ h2;subst e1;rw[hv]at h1;cases h1;refine e.change (fp':=[l]) hv hq (by simp) (λc hc=>.inl (by rw[e2]; exact hc)) λc o' z hn=>?_;rw[Zx (λz=>hn (by rw[e2,z]; simp))];exact z
section
variable{X:Cx}{a b c e:Expr}{fa fb fc:HM.EF}{pos p:Pos}{f:HM.BF}
theorem Zgo{n:Nat}(h:n<HM.big):n<sizeLine:=by
 have e5:(1000000:Nat)<=sizeLine:=by decide
 unfold HM.big at h;omega
theorem ZeY(hu:X.A.units+1<cLine)(i:Nat){x:Str}{p1 p2:Pos}(hk:XE X b fb)(ha:XE X a fa)(hN:X.N[i]?=some x:=by rfl)(hv:Vis X.env.scope x:=by first | exact ZxA rfl | exact Zxg (ZxA rfl) | exact Zxg (Zxg rfl))(hd:(x==("__debug__":Str))=false:=by decide)(hcd:(x==("__classdict__":Str))=false:=by decide)
  (hs:Zy1 a (some (.Subscript (.Name x p1) b p2)) pos.line X.env=pure false:=by rfl):XS X (.Assign [.Subscript (.Name x p1) b p2] a pos) (HM.ZfW i fb fa):=by
 intro r o h;unfold HM.ZfW at h;split at h
 ·rename_i d hd'
  split at h
  ·rename_i y hy
   split at h
   ·rename_i kvs hb
    split at h
    ·rename_i k hk'
     split at h
     ·rename_i hz
      cases h;refine PS.imp (Zoy hu (Zb9 hN hv hd hcd) (hk r y hy) (ha r d hd') hs) λE σ H ⟨F0,H0,F,at_,kk⟩=>?_;refine⟨F0,H0,F,at_,λv F1 H1 x1 r1=>?_⟩;have at1:=at_.grow x1;obtain⟨u,fp,e1,e2⟩:=at1.any hb;refine⟨u,e1,F0,H0,F1,at1,λw F2 H2 x2 r2=>?_⟩;have at2:=at1.grow x2;cases e2 with
      | @ok l _ vvs e2 e3 e4=>have T:Zam X.K F2 kvs vvs:=⟨e3,e4.mono x2.ff⟩;have T':=T.put k (r1.mono x2.ff);rw[Zfv hk' r2];have hH:H2 l=some (.dK vvs):=x2.hh _ _ e2;refine⟨l,_,rfl,ZhM.k hH (by rw[<-T.len]; exact Zgo hz),kk _ F2 _ (at2.chgOne hb e1 (λv fp q=>by cases q; exact⟨_,rfl,rfl⟩) _ _ (.ok Zz T'.1 T'.2))⟩
     ·cases h
    ·cases h
   ·rename_i kvs hb
    split at h
    ·rename_i k hk'
     split at h
     ·rename_i hz
      cases h;refine PS.imp (Zoy hu (Zb9 hN hv hd hcd) (hk r y hy) (ha r d hd') hs) λE σ H ⟨F0,H0,F,at_,kk⟩=>?_;refine⟨F0,H0,F,at_,λv F1 H1 x1 r1=>?_⟩;have at1:=at_.grow x1;obtain⟨u,fp,e1,e2⟩:=at1.any hb;refine⟨u,e1,F0,H0,F1,at1,λw F2 H2 x2 r2=>?_⟩;have at2:=at1.grow x2;cases e2 with
      | @ot l _ vvs e2 e3 e4=>have T:Zam X.K F2 kvs vvs:=⟨e3,e4.mono x2.ff⟩;have T':=T.put k (r1.mono x2.ff);obtain⟨bb,rfl,hbb⟩:=Zcd hk' r2;have hH:H2 l=some (.dT vvs):=x2.hh _ _ e2;refine⟨l,_,rfl,ZhM.t hH (x2.sub _ _ hbb) (by rw[<-T.len]; exact Zgo hz),kk _ F2 _ (at2.chgOne hb e1 (λv fp q=>by cases q; exact⟨_,rfl,rfl⟩) _ _ (.ot Zz T'.1 T'.2))⟩
     ·cases h
    ·cases h
   ·cases h
  ·cases h
 ·cases h
theorem Zi6{K:ZwC}{F H:Hp}(k:List Key):∀(kvs:List (List Key × List PyData)) (vvs:List (List Key × V)) (ls:List Addr),kvs.map (·.1)=vvs.map (·.1)->vvs.map (·.2)=ls.map V.ref ->
  (∀(i:Nat) (ds:List PyData) (l:Addr),(kvs.map (·.2))[i]?=some ds->ls[i]?=some l->∃vs,H l=some (.lst vs)/\Zq K F ds vs) ->
  (∀ds,HM.Zf kvs k=some ds->∃l' vs,Zal vvs k=some (.ref l')/\l'∈ls/\H l'=some (.lst vs)/\Zq K F ds vs)/\(HM.Zf kvs k=none->Zal vvs k=none)
 | [],[],_,_,_,_=>⟨(λds h=>by cases h),λ_=>rfl⟩
 | [],_::_,_,hk,_,_=>by simp at hk
 | _::_,[],_,hk,_,_=>by simp at hk
 | _::_,_::_,[],_,hv,_=>by simp at hv
 | (k1,ds1)::kvs,(k2,v2)::vvs,l1::ls,hk,hv,r=>by
  rw[ZwL,ZwL]at hk hv;injection hk with e1 e2
  injection hv with e3 e4
  have e1:k1=k2:=e1;have e3:v2=.ref l1:=e3;subst e1 e3;obtain⟨i1,i2⟩:=Zi6 k kvs vvs ls e2 e4 λi ds l h1 h2=>r (i+1) ds l (by simpa using h1) (by simpa using h2)
  by_cases hkk:k1=k
  ·have e5:HM.Zf ((k1,ds1)::kvs) k=some ds1:=by simp[HM.Zf,Zxf,hkk]
   rw[e5,Zdb (p:=(k1,V.ref l1)) hkk];obtain⟨vs,q1,q2⟩:=r 0 ds1 l1 rfl rfl;exact⟨(λds h=>by cases h; exact⟨l1,vs,rfl,by simp,q1,q2⟩),(λh=>by cases h)⟩
  ·have e5:HM.Zf ((k1,ds1)::kvs) k=HM.Zf kvs k:=by simp[HM.Zf,Zxf,hkk]
   rw[e5,Zc9 (p:=(k1,V.ref l1)) hkk];exact⟨λds h=>let ⟨l',vs,a1,a2,a3⟩:=i1 ds h; ⟨l',vs,a1,ZwJ _ a2,a3⟩,i2⟩
theorem Zmm{K:ZwC}{F H:Hp}{kvs:List (List Key × List PyData)}{v:V}{fp:List Addr}(q:ZX K F H (.otl kvs) v fp) :
  ∃l vvs ls,v=.ref l/\fp=l::ls/\H l=some (.dT vvs)/\kvs.map (·.1)=vvs.map (·.1)/\vvs.map (·.2)=ls.map V.ref /\
   ∀k,(∀ds,HM.Zf kvs k=some ds->∃l' vs,Zal vvs k=some (.ref l')/\l'∈ls/\H l'=some (.lst vs)/\Zq K F ds vs)/\(HM.Zf kvs k=none->Zal vvs k=none):=by
 cases q with
 | @otl l _ vvs ls h hk hv r=>exact⟨l,vvs,ls,rfl,rfl,h,hk,hv,λk=>Zi6 k kvs vvs ls hk hv r⟩
theorem Zrf{K:ZwC}{F H:Hp}{q:HM.B}{v w:V}{fp:List Addr}{x:PyData}{c:Bool}(sub:Zp F H)(rq:ZX K F H q v fp)(rx:Rep K F x w)(h:HM.hasB q x=some c):∃l o,v=.ref l/\Zcf H l w o/\o.isSome=c:=by
 cases rq with
 | pl _=>cases h
 | hd _ _ _ _=>cases h
 | hf _=>cases h
 | ol _ _=>cases h
 | @ok l kvs vvs h1 h2 h3=>obtain⟨k,e1,e2⟩:=ZwE.mp h;rw[Zfv e1 rx];exact⟨l,_,rfl,Zcf.k h1,by rw[Zam.some_iff (K:=K) (F:=F) ⟨h2,h3⟩,<-e2]⟩
 | @ot l kvs vvs h1 h2 h3=>obtain⟨k,e1,e2⟩:=ZwE.mp h;obtain⟨bb,rfl,hbb⟩:=Zcd e1 rx;exact⟨l,_,rfl,Zcf.t h1 (sub _ _ hbb),by rw[Zam.some_iff (K:=K) (F:=F) ⟨h2,h3⟩,<-e2]⟩
 | @otl l kvs vvs ls h1 h2 h3 h4 =>
  obtain⟨k,e1,e2⟩:=ZwE.mp h;obtain⟨bb,rfl,hbb⟩:=Zcd e1 rx;refine⟨l,_,rfl,Zcf.t h1 (sub _ _ hbb),?_⟩;obtain⟨l2,vvs2,ls2,e3,e4,e5,_,_,hl⟩:=Zmm (ZX.otl h1 h2 h3 h4);cases e3;rw[h1]at e5;cases e5;obtain⟨i1,i2⟩:=hl k;rw[<-e2];cases hq:HM.Zf kvs k with
  | none=>rw[i2 hq]; rfl
  | some ds=>obtain⟨_,_,h5,_⟩:=i1 ds hq; rw[h5]; rfl
theorem Zpg{r:HM.Env}{d:PyData}(h:HM.ZcG fa f r=some d):∃x q c,fa r=some x/\f r=some q/\HM.hasB q x=some c/\d=.bool (!c):=by
 unfold HM.ZcG at h;split at h
 ·split at h
  ·obtain⟨c,h1,h2⟩:=ZwE.mp h
   exact⟨_,_,c,by assumption,by assumption,h1,h2.symm⟩
  ·cases h
 ·cases h
theorem ZiH(hu:X.A.units+1<cLine)(ha:XE X a fa)(hb:XB X b f)(hm:Zyn .NotIn b=false:=by rfl):XT X (.Compare a [.NotIn] [b] pos) (HM.tV (HM.ZcG fa f)):=by intro r d h;obtain⟨x,q,c,h1,h2,h3,e⟩:=Zpg (ZhF h);cases e;refine PT.imp (Zl6 (Zkw hu (ha r x h1) (hb r q h2)) hm) λσ H Q ⟨F0,H0,F,at_,k⟩=>?_;refine⟨F0,H0,F,at_,λv F1 H1 x1 r1=>⟨F0,H0,F1,at_.grow x1,λw F2 H2 x2 ⟨fp,r2⟩=>?_⟩⟩;obtain⟨l,o,e1,e2,e3⟩:=Zrf x2.sub r2 (r1.mono x2.ff) h3;exact⟨l,o,e1,e2,_,rfl,by rw[e3]; exact k F2 H2 (x1.trans x2)⟩
theorem Zrk{i:Nat}{r:HM.Env}{q:HM.B}(h:HM.Zj0 i fa r=some q):∃x bb,fa r=some x/\r[i]?=some (some bb) /\
  ((∃kvs k d,bb=.ok kvs/\HM.Zfn x=some k/\HM.Zf kvs k=some d/\q=.pl d)\/(∃kvs k d,bb=.ot kvs/\HM.Za5 x=some k/\HM.Zf kvs k=some d/\q=.pl d)\/∃kvs k ds,bb=.otl kvs/\HM.Za5 x=some k/\HM.Zf kvs k=some ds/\q=.ol ds):=by
 unfold HM.Zj0 at h;split at h
 ·rename_i x hx
  split at h
  ·rename_i kvs hb
   split at h
   ·rename_i k hk
    obtain⟨d,h1,h2⟩:=ZwE.mp h;exact⟨x,_,hx,hb,.inl ⟨kvs,k,d,rfl,hk,h1,h2.symm⟩⟩
   ·cases h
  ·rename_i kvs hb
   split at h
   ·rename_i k hk
    obtain⟨d,h1,h2⟩:=ZwE.mp h;exact⟨x,_,hx,hb,.inr (.inl ⟨kvs,k,d,rfl,hk,h1,h2.symm⟩)⟩
   ·cases h
  ·rename_i kvs hb
   split at h
   ·rename_i k hk
    obtain⟨d,h1,h2⟩:=ZwE.mp h;exact⟨x,_,hx,hb,.inr (.inr ⟨kvs,k,d,rfl,hk,h1,h2.symm⟩)⟩
   ·cases h
  ·cases h
 ·cases h
theorem ZpN(hu:X.A.units+1<cLine)(i:Nat){x:Str}{p1:Pos}(hk:XE X b fb)(hN:X.N[i]?=some x:=by rfl)(hv:Vis X.env.scope x:=by first | exact ZxA rfl | exact Zxg (ZxA rfl) | exact Zxg (Zxg rfl))(hd:(x==("__debug__":Str))=false:=by decide)(hcd:(x==("__classdict__":Str))=false:=by decide)
  (hs:ZmS b:=by intro _ _; rfl):XB X (.Subscript (.Name x p1) b pos) (HM.Zj0 i fb):=by
 intro r q h;obtain⟨y,bb,h1,h2,h3⟩:=Zrk h;refine PE.imp (ZoH hu (Zb9 hN hv hd hcd) (hk r y h1) hs) λσ H Q ⟨F0,H0,F,at_,kk⟩=>?_;obtain⟨u,fp,e1,e2⟩:=at_.any h2;refine⟨u,e1,F0,H0,F,at_,λw F2 H2 x2 r2=>?_⟩;have e2':=e2.mono x2.ff λ_ _ _ z=>x2.hh _ _ z;rcases h3 with⟨kvs,k,d,rfl,hk',hl,rfl⟩ | ⟨kvs,k,d,rfl,hk',hl,rfl⟩ | ⟨kvs,k,ds,rfl,hk',hl,rfl⟩
 ·cases e2' with
  | @ok l _ vvs g1 g2 g3=>obtain⟨v,q1,q2⟩:=(Zam.look (k:=k) (K:=X.K) (F:=F2) ⟨g2,g3⟩).1 d hl;rw[Zfv hk' r2];exact⟨l,v,rfl,by rw[<-q1]; exact Zcf.k g1,kk v F2 H2 x2 ⟨[],.pl q2⟩⟩
 ·cases e2' with
  | @ot l _ vvs g1 g2 g3=>obtain⟨v,q1,q2⟩:=(Zam.look (k:=k) (K:=X.K) (F:=F2) ⟨g2,g3⟩).1 d hl;obtain⟨bb',rfl,hbb⟩:=Zcd hk' r2;exact⟨l,v,rfl,by rw[<-q1]; exact Zcf.t g1 (x2.sub _ _ hbb),kk v F2 H2 x2 ⟨[],.pl q2⟩⟩
 ·obtain⟨l,vvs,ls,rfl,_,g1,_,_,hlk⟩:=Zmm e2'
  obtain⟨l',vs,q1,_,q2,q3⟩:=(hlk k).1 ds hl;obtain⟨bb',rfl,hbb⟩:=Zcd hk' r2;exact⟨l,_,rfl,by rw[<-q1]; exact Zcf.t g1 (x2.sub _ _ hbb),kk _ F2 H2 x2 ⟨[l'],.ol q2 q3⟩⟩
theorem ZtH(hu:X.A.units+1<cLine)(i:Nat){x:Str}{p1:Pos}(hk:XE X b fb)(hN:X.N[i]?=some x:=by rfl)(hv:Vis X.env.scope x:=by first | exact ZxA rfl | exact Zxg (ZxA rfl) | exact Zxg (Zxg rfl))(hd:(x==("__debug__":Str))=false:=by decide)(hcd:(x==("__classdict__":Str))=false:=by decide)
  (hs:ZmS b:=by intro _ _; rfl):XE X (.Subscript (.Name x p1) b pos) (HM.ZiQ i fb):=by
 intro r d h;have hb:HM.Zj0 i fb r=some (.pl d):=by
  unfold HM.ZiQ at h;unfold HM.Zj0;cases hy:fb r with
  | none=>rw[hy]at h; cases h
  | some y =>
   rw[hy]at h;dsimp only at h ⊢;cases hr:r[i]? with
   | none=>rw[hr]at h; cases h
   | some z =>
    rw[hr]at h;cases z with
    | none=>cases h
    | some z =>
     cases z with
     | pl _=>cases h
     | ol _=>cases h
     | otl _=>cases h
     | hd _=>cases h
     | ok kvs =>
      dsimp only at h ⊢;cases hq:HM.Zfn y with
      | none=>rw[hq]at h; cases h
      | some k=>rw[hq]at h; dsimp only at h ⊢; rw[h]; rfl
     | ot kvs =>
      dsimp only at h ⊢;cases hq:HM.Za5 y with
      | none=>rw[hq]at h; cases h
      | some k=>rw[hq]at h; dsimp only at h ⊢; rw[h]; rfl
 refine PE.imp (ZpN hu i hk hN hv hd hcd hs r _ hb) λσ H Q ⟨F0,H0,F,at_,k⟩=>⟨F0,H0,F,at_,λv F' H' x ⟨fp,q⟩=>?_⟩;cases q with
 | pl q=>exact k v F' H' x q
end
end HP
namespace HP
open PySem PySem.Spec PyProof.Rows L2
variable[FX]
abbrev No:Value->Shared->Prop:=λ_ _=>False
abbrev Zoh(ifs:List Expr)(env:Env):Sem Bool :=
 forIn ifs true λc r=>if r=true then do let ok <-isTrue c env (eval c env); pure (ZzX ok)else pure (ZzX r)
theorem ZqU{prog:Program}{w:World}{A:Around}{R:Result->Shared->Prop}{s:Shared}{elt target iter:Expr}{ifs:List Expr}{scope:Scope}{pos:Pos}{it acc:Value}{env:Env}(J:Nat->Shared->Prop)
  (turn:∀n s,J n s->wpAny (model prog w) A (pyNext it) (λr s1=>match r with
   | none=>R (.ok .next) s1
   | some v=>wpAny (model prog w) A (ZzV target it v) (λ_ s2=>wpAny (model prog w) A (assign target env v) (λ_ s3=>wpAny (model prog w) A (Zoh ifs env) (λok s4=>if ok=true then wpAny (model prog w) A (eval elt env) (λx s5=>wpAny (model prog w) A (call (.builtin "list.append") [acc,x]) (λ_ s6=>∃m,m<n/\J m s6) No s5) No s4 else ∃m,m<n/\J m s4) No s3) No s2) No s1) No s)
  (n:Nat) (h:J n s):codeAny (model prog w) A (.compLoop (.ListComp elt [⟨target,iter,ifs,0⟩] scope pos) 0 it acc env) R s:=by
 refine codeAny_loop rfl J (λn s hI=>?_) n h;show wpAny _ A ((compTurn (.ListComp elt [⟨target,iter,ifs,0⟩] scope pos) 0 it acc env).onRaise (λx=>do noteFrame x env; theTreesLotGoes x)) _ _ s;refine wpAny_noted ?_;rw[compTurn_list];refine ZwB (wpAny_standAt (ZwB (ZxQ (turn n s hI) (λr s1 h1=>?_) λ_ _ z=>z.elim)));cases r with
 | none=>exact ZwF h1
 | some v =>
  refine ZwB (ZxQ h1 (λ_ s2 h2=>ZwB (ZxQ h2 (λ_ s3 h3=>ZwB (ZxQ h3 (λok s4 h4=>?_) λ_ _ z=>z.elim)) λ_ _ z=>z.elim)) λ_ _ z=>z.elim);cases ok with
  | false=>exact ZwF ⟨rfl,h4⟩
  | true=>refine ZwB (ZwB (ZxQ h4 (λx s5 h5=>?_) λ_ _ z=>z.elim));exact ZwB (ZxQ h5 (λ_ s6 h6=>ZwF (ZwF ⟨rfl,h6⟩)) λ_ _ z=>z.elim)
def ZZ(X:Cx)(N:List Str)(scope:Scope)(cl:List (Str × Addr))(C:Addr)(s₀:Shared)(H₀:Hp)(ex:List Addr):Cx where
 prog:=X.prog
 w:=X.w
 K:=X.K
 mg:=X.mg
 base:=X.base
 A:=X.A
 N:=N
 s₀:=s₀
 H₀:=H₀
 env:=compEnvC scope cl C X.env
 outer:=X.stack
 stack:=X.stack
 ex:=ex
 fn:=λ_=>false
 calm:=true
 pn:=[]
 xe:=λ_ _=>False
theorem ZgL{env:Env}:∀(names:List (Str × NameKind)) (cs:List (Str × Addr)),(∀y∈names,y.2=.free->∃c,env.cells.lookup y.1=some c)->(∀x c,cs.lookup x=some c->env.cells.lookup x=some c) ->
  ∃cl,(forIn names cs λ(x:Str × NameKind) r=>(match x with | (name,kind)=>if kind==.free then do let c <-cellOf env name; pure (ZzX ((name,c)::r))else pure (ZzX r):Sem (ForInStep (List (Str × Addr)))))=pure cl /\
   (∀x c,cl.lookup x=some c->env.cells.lookup x=some c)/\(∀x,(cs.lookup x).isSome=true->(cl.lookup x).isSome=true)/\∀y∈names,y.2=.free->(cl.lookup y.1).isSome=true
 | [],cs,_,h2=>⟨cs,rfl,h2,λ_ h=>h,λy hy=>by simp at hy⟩
 | (n,k)::r,cs,h1,h2=>by
  rw[List.forIn_cons]
  by_cases hk:(k==ZyI)=true
  ·obtain⟨c,hc⟩:=h1 (n,k) (ZwI ..) (by simpa using hk)
   have ec:cellOf env n=pure c:=by unfold cellOf; rw[hc]
   obtain⟨cl,e1,e2,e3,e4⟩:=ZgL r ((n,c)::cs) (λy hy=>h1 y (ZwJ _ hy)) (λx d hx=>by
    rw[Zyo]at hx;split at hx
    ·rename_i hb
     have:x=n:=by simpa using hb
     cases hx; rw[this]; exact hc
    ·exact h2 x d hx)
   refine⟨cl,?_,e2,λx hx=>e3 x ?_,λy hy hf=>?_⟩
   ·simp only[hk,if_true,ec,pure_bind]
    exact e1
   ·rw[Zyo]
    split
    ·rfl
    ·exact hx
   ·rcases Zw0.mp hy with e | hy
    ·subst e
     exact e3 n (by rw[Zyo]; simp)
    ·exact e4 y hy hf
  ·obtain⟨cl,e1,e2,e3,e4⟩:=ZgL r cs (λy hy=>h1 y (ZwJ _ hy)) h2
   refine⟨cl,?_,e2,e3,λy hy hf=>?_⟩
   ·simp only[hk,if_false,pure_bind,Zyr]
    exact e1
   ·rcases Zw0.mp hy with e | hy
    ·subst e
     exact absurd (by simpa using hf) hk
    ·exact e4 y hy hf
theorem ZeD{scope:Scope}{env:Env}(h:∀y∈scope.names,y.2=.free->∃c,env.cells.lookup y.1=some c) :
  ∃cl,closureFor scope env=pure cl/\(∀x c,cl.lookup x=some c->env.cells.lookup x=some c)/\∀y∈scope.names,y.2=.free->(cl.lookup y.1).isSome=true:=by
 obtain⟨cl,e1,e2,_,e4⟩:=ZgL (env:=env) scope.names [] h (λx c hx=>by simp at hx);refine⟨cl,?_,e2,e4⟩;unfold closureFor;exact(congrArg (λm:Sem (List (Str × Addr))=>m >>= λcs=>pure cs) e1).trans (pure_bind cl λcs=>pure cs)
theorem Ext.chg{F H F' H':Hp}(x:Ext F H F' H'){p:Addr}(o:HO)(h1:H p=none)(h2:F' p=none)(h3:∀u,H' p=some u->Zj9 u=true):Ext F H F' (upd H' p o) :=
 ⟨x.ff,λb q z=>by
  have hb:b≠p:=Z6 z h1;have y:=x.hh b q z;unfold Zcw at y ⊢;rw[Zx hb];exact y,λb q z=>by rw[Zx (Z6 z h2)]; exact x.sub b q z,x.new,λt=>(x.tab t).keep λa u z hu=>by
   have ha:a≠p:=λe=>by subst e; exact Zqy (h3 u z) hu
   rw[Zx ha]; exact z,x.nts⟩
theorem At.push{K:ZwC}{F0 H0 F H:Hp}{r:HM.Env}{σ:L2.St}{d:PyData}{v:V}(e:At K F0 H0 F H r σ)(q:Rep K F d v):At K F0 H0 F H (some (.pl d)::r) (some v::σ):=by
 obtain⟨fp,e⟩:=e;refine⟨λi=>match i with | 0=>[] | i+1=>fp i,e.ext,by rw[ZwS,ZwS,e.len],λi b h=>?_,λi h=>?_,λi a h=>?_,λi=>?_,λi j a hij h=>?_,e.tb,e.nt⟩
 ·cases i with
  | zero=>rw[ZyX]at h;cases h;exact⟨v,rfl,.pl q⟩
  | succ i=>rw[Zxh]at h;obtain⟨u,h1,h2⟩:=e.at_ i b h;exact⟨u,by rw[Zxh]; exact h1,h2⟩
 ·cases i with
  | zero=>rfl
  | succ i=>exact e.emp i λb z=>h b (by rw[Zxh]; exact z)
 ·cases i with
  | zero=>simp at h
  | succ i=>exact e.own i a h
 ·cases i with
  | zero=>exact Zyq
  | succ i=>exact e.nd i
 ·cases i with
  | zero=>simp at h
  | succ i =>
   cases j with
   | zero=>simp
   | succ j=>exact e.dis i j a (by omega) h
theorem At.chgNew{K:ZwC}{F0 H0 F H:Hp}{r:HM.Env}{σ:L2.St}{p:Addr}(o:HO){Hs Fs:Hp}(e:At K F0 H0 F H r σ)(es:At K F0 H0 Fs Hs r σ)(hs:Zab Hs H)(h1:Hs p=none)(h2:F p=none)(h3:∀u,H p=some u->Zj9 u=true):At K F0 H0 F (upd H p o) r σ:=by
 obtain⟨fp,e⟩:=e;obtain⟨fq,es⟩:=es;have hp:∀i,¬p∈fp i:=λi hm=>by
  obtain⟨b,hb⟩:=e.bound hm;obtain⟨v,q1,q2⟩:=e.at_ i b hb;obtain⟨v',q3,q4⟩:=es.at_ i b hb;rw[q1]at q3;cases q3;generalize fp i=f1 at q2 hm;generalize fq i=f2 at q4;cases q2 with
  | pl _=>simp at hm
  | hd _ _ _ _=>simp at hm
  | hf _=>simp at hm
  | ol k _=>cases q4 with | ol k' _=>simp at hm; subst hm; rw[h1]at k'; cases k'
  | ok k _ _=>cases q4 with | ok k' _ _=>simp at hm; subst hm; rw[h1]at k'; cases k'
  | ot k _ _=>cases q4 with | ot k' _ _=>simp at hm; subst hm; rw[h1]at k'; cases k'
  | otl k _ v1 _ =>
   cases q4 with
   | otl k' hk' v2 r2' =>
    have eo:=hs.back k' k λ_ z=>by cases z
    cases eo;have v2':=v2;rw[v1]at v2;rcases Zw0.mp hm with z2 | z2
    ·subst z2; rw[h1]at k'; cases k'
    ·have:V.ref p∈Zz7 V.ref _:=ZwN.mpr ⟨p,z2,rfl⟩
     rw[v2]at this;obtain⟨a',m1,m2⟩:=ZwN.mp this;injection m2 with m2
     subst m2;obtain⟨o,ho⟩:=ZX.there (ZX.otl k' hk' v2' r2') (ZwJ _ m1);rw[h1]at ho; cases ho
 have hH0:H0 p=none:=es.ext.hh.free h1;refine⟨fp,e.ext.chg o hH0 h2 h3,e.len,λi b h=>?_,e.emp,e.own,e.nd,e.dis,e.tb,e.nt⟩;obtain⟨v,q1,q2⟩:=e.at_ i b h;refine⟨v,q1,q2.mono (Zp.refl F) λa ha o' z=>?_⟩;have hne:a≠p:=λe=>hp i (by rw[<-e]; exact ha);exact .of (by rw[Zx hne]; exact z)
end HP
namespace HP
open PySem PySem.Spec PyProof.Rows L2
variable[FX]
structure Zed(X:Cx)(N:List Str)(scope:Scope)(fr:List Str):Prop where
 kind:scope.kind=.function
 cell:∀y∈scope.names,y.2≠.cell
 names:∀y∈scope.names,y.2=.local->scope.names.lookup y.1=some .local
 loc:∀x∈fr,scope.names.lookup x=some .local
 first:∀(i:Nat) (x:Str),fr[i]?=some x->N[i]?=some x
 nd:N.Nodup
 len:N.length=X.N.length+fr.length
 cap:∀y∈scope.names,y.2=.free->X.env.kindOf y.1=some .cell\/X.env.kindOf y.1=some .free
 same:∀(i:Nat) (y:Str),N[i+fr.length]?=some y->scope.names.lookup y=some .free->X.N[i]?=some y
 vis:∀(i:Nat) (y:Str),N[i+fr.length]?=some y->Vis scope y->scope.names.lookup y=some .free
def goG(dec:PyData->Option (List PyData))(c:HM.TF)(e:HM.EF)(r:HM.Env):List PyData->Option (List PyData)
 | []=>some []
 | x::xs=>match dec x with
  | some ys=>match c (ys.map (λd=>some (HM.B.pl d))++r)with
   | some true=>match e (ys.map (λd=>some (HM.B.pl d))++r)with
    | some y=>(goG dec c e r xs).map (y::·)
    | none=>none
   | some false=>goG dec c e r xs
   | none=>none
  | none=>none
def Zgj(dec:PyData->Option (List PyData))(i:HM.IF)(c:HM.TF)(e:HM.EF):HM.BF:=λr=>match i r with
 | some xs=>if xs.length<HM.big then(goG dec c e r xs).map λys=>HM.B.ol ys else none
 | none=>none
def Zjm(Y:Cx)(m:Nat)(tg:Expr)(dec:PyData->Option (List PyData)):Prop:=∀(pins:List (Addr × Obj)) (s:Shared) (σ:L2.St) (sv:List (Option V)) (H F:Hp) (d:PyData) (ys:List PyData) (xv:V) (u:Value),sv.length=m->Inv Y pins (sv++σ) H s->RelV xv u->Zp F H->Rep Y.K F d xv->dec d=some ys ->
 wpAny (model Y.prog Y.w) Y.A (assign tg Y.env u) (λ_ s'=>∃vs:List V,vs.length=m/\Inv Y pins (vs.map some++σ) H s'/\Zq Y.K F ys vs) Y.xe s
theorem At.pushes{K:ZwC}{F0 H0 F H:Hp}{r:HM.Env}{σ:L2.St}:∀{ds:List PyData} {vs:List V},At K F0 H0 F H r σ->Zq K F ds vs->At K F0 H0 F H (ds.map (λd=>some (HM.B.pl d))++r) (vs.map some++σ)
 | [],vs,e,q=>by rw[q.nil_inv];exact e
 | d::ds,vs,e,q=>by obtain⟨v,us,rfl,r1,r2⟩:=q.cons_inv;exact(At.pushes e r2).push r1
section
variable{X:Cx}{N:List Str}{scope:Scope}{fr:List Str}{cl:List (Str × Addr)}{C:Addr}
theorem Za4{env:Env}{y:Str}{k:NameKind}:∀{names:List (Str × NameKind)},(names.map λ(n,k)=>if(k==ZyI&&env.scope.kind==.function&&env.kindOf n==some .cell)then(n,NameKind.cell)else(n,k)).lookup y=some k ->
  names.lookup y=some k\/(k=.cell/\names.lookup y=some .free)
 | [],h=>by simp at h
 | (n,k')::r,h=>by
  have ih:=@Za4 env y k r;rw[ZwL]at h;dsimp only at h
  by_cases hc:(k'==ZyI&&env.scope.kind==.function&&env.kindOf n==some .cell)=true
  ·rw[if_pos hc,Zyo]at h
   rw[Zyo];split at h
   ·cases h
    refine .inr ⟨rfl,?_⟩;have:(k'==ZyI)=true:=by rw[ZwZ,ZwZ]at hc;exact hc.1.1
    rw[show k'=ZyI by simpa using this]
   ·exact ih h
  ·rw[if_neg hc,Zyo]at h
   rw[Zyo];split at h
   ·cases h
    exact .inl rfl
   ·exact ih h
theorem lookup_mem{y:Str}{k:NameKind}:∀{names:List (Str × NameKind)},names.lookup y=some k->(y,k)∈names
 | [],h=>by simp at h
 | (n,k')::r,h=>by
  rw[Zyo]at h;split at h
  ·cases h
   rename_i hb;rw[show y=n by simpa using hb];exact ZwI ..
  ·exact ZwJ _ (lookup_mem h)
theorem Ztv{pins:List (Addr × Obj)}{σ:L2.St}{H:Hp}{s:Shared}{fp:List Addr}(T:Zed X N scope fr)(hcl:∀y c,cl.lookup y=some c->X.env.cells.lookup y=some c)(hfr:∀y∈scope.names,y.2=.free->(cl.lookup y.1).isSome=true)
  (I:Inv X pins σ H s) (hc:X.calm=true) (hf:∀b∈fp,Zft X pins H b) (hfl:∀b∈fp,b<s.heap.objs.size) (hC:s.heap.objs.size<=C):(ZZ X N scope cl C s H fp).Ok:=by
 refine⟨I.ok.mod,T.kind,I.ok.glob,I.ok.blt,hC,λy z c h1 h2=>I.ok.inj y z c (hcl y c h1) (hcl z c h2),λy h=>?_,λy c h=>?_,λ_=>I.ok.hd hc,I.ok.frames,.inl rfl,λb hb=>⟨?_,λy c h=>?_⟩,λb o h=>I.bs b o h,
  Zxr I.ok.bsz I.sz,λb o h hb=>?_,λb hb hs=>?_,I.stack,I.stkFree⟩
 ·have h':(relabel scope X.env).names.lookup y=some .cell\/(relabel scope X.env).names.lookup y=some .free:=h
  have hm:(y,ZyI)∈scope.names:=by
   rcases h' with h' | h'
   ·rcases Za4 h' with q | ⟨_,q⟩
    ·exact absurd rfl (T.cell _ (lookup_mem q))
    ·exact lookup_mem q
   ·rcases Za4 h' with q | ⟨e,_⟩
    ·exact lookup_mem q
    ·cases e
  exact Zxt.mp (hfr _ hm rfl)
 ·exact absurd h (by show ¬false=true; simp)
 ·exact Zw1 (Zw6 (hfl b hb) hC)
 ·obtain⟨_,_,_,_,q,_⟩:=hf b hb
  exact q y c (hcl y c h)
 ·obtain⟨_,_,_,q,_⟩:=hf b hb
  rcases q with q | q
  ·exact I.ok.noex b o h q
  ·exact absurd (Zw6 (ZwU h) (Zxr I.ok.bsz q)) (Zym _)
 ·obtain⟨_,q1,q2,_⟩:=hf b hb
  rcases Zw0.mp (I.stkSub b hs)with z | z
  ·exact q1 z
  ·exact q2 z
theorem Zmo{pins:List (Addr × Obj)}{σ:L2.St}{H:Hp}{s:Shared}{fp:List Addr}{D:Addr}{h1:Heap}{tk:Nat}(T:Zed X N scope fr)(hcl:∀y c,cl.lookup y=some c->X.env.cells.lookup y=some c)(hfr:∀y∈scope.names,y.2=.free->(cl.lookup y.1).isSome=true)
  (I:Inv X pins σ H s) (hc:X.calm=true) (hf:∀b∈fp,Zft X pins H b) (hfl:∀b∈fp,b<s.heap.objs.size) (hD:s.heap.objs.size=D) (hC:D<C) (ns:h1.Ns C (λ_=>none)) (hl:h1.get? D=some { cls:=.type "list",data:=.seq #[] 0 })
  (k:∀b o,s.heap.get? b=some o->h1.get? b=some o):Inv (ZZ X N scope cl C s H fp) [] (Zxa fr.length none++σ) (upd H D (.lst [])) { s with heap:=h1,toks:=tk }:=by
 have hn:H D=none:=I.hok.fresh (ZzY hD);have hDC:s.heap.objs.size<=C:=Zxr (ZzY hD) (Zys hC);have hCn:H C=none:=I.hok.fresh hDC;refine⟨Ztv T hcl hfr I hc hf hfl hDC,rfl,I.bare,Un.laid k (ZzY hD) hn,⟨_,ns,λi y v e1 e2 e3=>?_⟩,λy c h=>?_,?_,λy c h=>?_,λp hp=>absurd (show p∈([]:List (Addr × Obj)) from hp) (by simp),I.hok.laid k (ZzY hD) ⟨Zx3 _,[],0,.nil,hl⟩,?_⟩
 ·have hge:fr.length<=i:=by
   apply Zzg;intro hlt;rw[Zxo (by rw[Zxm]; exact hlt),ZyW,if_pos hlt]at e2;cases e2
  rw[Zxk (by rw[Zxm]; exact hge),Zxm]at e2;obtain⟨j,rfl⟩:∃j,i=j+fr.length:=⟨i-fr.length,by omega⟩;rw[Nat.add_sub_cancel]at e2
  ·have e3':Vis scope y:=by
    have e3:Vis (relabel scope X.env) y:=e3;rcases e3 with q | q | q
    ·rcases Za4 q with q | ⟨z,_⟩
     ·exact .inl q
     ·cases z
    ·rcases Za4 q with q | ⟨_,q⟩
     ·exact .inr (.inl q)
     ·exact .inr (.inr q)
    ·rcases Za4 q with q | ⟨z,_⟩
     ·exact .inr (.inr q)
     ·cases z
   have hfree:=T.vis j y e1 e3';have hm:=lookup_mem hfree;have hN:=T.same j y e1 hfree;have hcap:=T.cap _ hm rfl;obtain⟨m,_,hl⟩:=I.loc;obtain⟨u,ru,lu⟩:=hl j y v hN e2 (by
    rcases hcap with q | q
    ·exact .inr (.inl q)
    ·exact .inr (.inr q))
   refine⟨u,ru,?_⟩;obtain⟨c,hcc⟩:=Zxt.mp (hfr _ hm rfl);rcases lu with⟨q,_⟩ | ⟨_,c',e,z⟩
   ·rcases hcap with q' | q'<;>(rw[q']at q; cases q)
   ·refine .inr ⟨?_,c,hcc,?_⟩
    ·rcases e3 with q | q | q
     ·have q:(relabel scope X.env).names.lookup y=some .local:=q
      rcases Za4 q with q | ⟨z,_⟩
      ·rw[hfree]at q; cases q
      ·cases z
     ·exact .inl q
     ·exact .inr q
    ·rw[hcl y c hcc]at e
     cases e;obtain⟨o,ho,hd⟩:=z;exact⟨o,k _ _ ho,hd⟩
 ·obtain⟨v,o,ho,hd⟩:=I.cell y c (hcl y c h)
  exact⟨v,o,k _ _ ho,hd⟩
 ·show upd H D (.lst []) C=none
  rw[Zx (Zzo hC)];exact hCn
 ·have hq:=I.freeC y c (hcl y c h)
  obtain⟨v,o,ho,_⟩:=I.cell y c (hcl y c h);have:c≠D:=Zw1 (by rw[<-hD]; exact ZwU ho);rw[Zx this];exact hq
 ·show(Zxa fr.length none++σ).length=N.length
  rw[ZwY,Zxm,I.len,T.len,Nat.add_comm]
def XTs(Y:Cx)(ifs:List Expr)(f:HM.TF):Prop:=∀r c,f r=some c->∀(pins:List (Addr × Obj)) (s:Shared) (σ:L2.St) (H:Hp) (Q:Bool->Hp->Prop),Inv Y pins σ H s->(Now Y.K r σ H λF0 H0 F=>∀F' H',Ext F H F' H'->Q c H') ->
 wpAny (model Y.prog Y.w) Y.A (Zoh ifs Y.env) (TP Y pins σ Q) Y.xe s
theorem Zbv{Y:Cx}:XTs Y [] HM.Zac:=by intro r c h pins s σ H Q I ⟨F0,H0,F,at_,k⟩;cases h;exact wpAny_tests_nil ⟨H,I,k F H at_.refl⟩
theorem Zdd{Y:Cx}{e:Expr}{f:HM.TF}(h:XT Y e f):XTs Y [e] f:=λr c hc pins s σ H Q I q=>wpAny_tests_one (h r c hc pins s σ H Q I q)
def ItE(K:ZwC)(J:It)(ds:List PyData)(F:Hp):Prop:=∀F' H,Zp F F'->Zp F' H ->
 (∀(i:Nat) (d:PyData),ds[i]?=some d->J.go i H/\∀x H',J.yld i H x H'->∃F2,Ext (Zb3 F' H) H F2 H'/\Rep K F2 d x)/\J.stop ds.length H
theorem ItD.e{K:ZwC}{J:It}{ds:List PyData}{F:Hp}(h:ItD K J ds F):ItE K J ds F:=λF' H s1 s2=>by obtain⟨a,b⟩:=h F' H s1 s2;refine⟨λi d hd=>⟨(a i d hd).1,λx H' hy=>?_⟩,b⟩;obtain⟨e,r⟩:=(a i d hd).2 x H' hy;subst e;exact⟨_,.refl (Ext.refl s2).tups.sub,r⟩
def XIE(X:Cx)(tg e:Expr)(f:HM.IF):Prop:=∀r ds,f r=some ds->PI X tg e λσ H R=>Now X.K r σ H λF0 H0 F=>∀J F' H',Ext F H F' H'->ItE X.K J ds F'->R J H'
theorem XI.e{X:Cx}{tg e:Expr}{f:HM.IF}(h:XI X tg e f):XIE X tg e f:=λr ds hr pins s σ H R I ⟨F0,H0,F,at_,k⟩=>h r ds hr pins s σ H R I ⟨F0,H0,F,at_,λJ F' H' x q=>k J F' H' x q.e⟩
theorem ZmX{pins:List (Addr × Obj)}{σ:L2.St}{H1:Hp}{s2:Shared}{fp:List Addr}{it D:Addr}{tn:Nat->Heap->Prop}{J:It}{elt iter:Expr}{ifs:List Expr}{tg:Expr}{pos:Pos}{dec:PyData->Option (List PyData)}{fc:HM.TF}{fe:HM.EF}{s4:Shared}{r:HM.Env}{ds out:List PyData}{Fs Hs F0 H0 F1:Hp}
  {R:Result->Shared->Prop} (T:Zed X N scope fr) (I2:Inv X pins σ H1 s2) (W:Turn X.prog X.w X.K tg J fp it tn) (hf:∀b∈fp,Zft X pins H1 b)
  (I4:Inv (ZZ X N scope cl C s2 H1 fp) [] (Zxa fr.length none++σ) (upd H1 D (.lst [])) s4) (tn0:tn 0 s4.heap) (hD:s2.heap.objs.size<=D) (hfl:∀b∈fp,b<s2.heap.objs.size) (hbl:X.calm=true)
  (hc:XTs (ZZ X N scope cl C s2 H1 fp) ifs fc) (he:XE (ZZ X N scope cl C s2 H1 fp) elt fe) (at_:At X.K F0 H0 Fs Hs r σ) (x1:Ext Fs Hs F1 H1) (itd:ItE X.K J ds F1) (hbind:Zjm (ZZ X N scope cl C s2 H1 fp) fr.length tg dec) (hbig:ds.length<HM.big) (go:goG dec fc fe r ds=some out)
  (hR:∀s',(∃F H vs,Inv (ZZ X N scope cl C s2 H1 fp) [] (Zxa fr.length none++σ) H s'/\Ext Fs Hs F H/\H D=some (.lst vs)/\F D=none/\Zq X.K F out vs)->R (.ok .next) s') :
  codeAny (model X.prog X.w) X.A (.compLoop (.ListComp elt [⟨tg,iter,ifs,0⟩] scope pos) 0 (.ref it) (.ref D) (compEnvC scope cl C X.env)) R s4:=by
 have hH1D:H1 D=none:=I2.hok.fresh hD;have hHsD:Hs D=none:=x1.hh.free hH1D;have hF1D:F1 D=none:=x1.sub.free hH1D;have hfpD:∀b∈fp,b≠D:=λb hb=>Zw1 (Zw6 (hfl b hb) hD);have okY:=I4.ok;have stat:∀{H:Hp},(∀b∈fp,H b=none)->∀b∈fp,Zft (ZZ X N scope cl C s2 H1 fp) [] H b:=λhn b hb=>⟨hn b hb,(okY.exf b hb).1,okY.exfs b hb,.inl hb,(okY.exf b hb).2,λp hp=>absurd (show p∈([]:List (Addr × Obj)) from hp) (by simp)⟩;refine ZqU (λn s'=>∃(j:Nat) (sv:List (Option V)) (F H:Hp) (ys:List PyData) (vs:List V) (rest:List PyData),sv.length=fr.length/\Inv (ZZ X N scope cl C s2 H1 fp) [] (sv++σ) H s'/\tn j s'.heap/\(∀b∈fp,H b=none)/\Ext Fs Hs F H/\Zp F1 F/\At X.K F0 H0 F H r σ /\
  H D=some (.lst vs)/\F D=none/\Zq X.K F ys vs/\j+n=ds.length/\ys.length<=j/\goG dec fc fe r (ds.drop j)=some rest/\out=ys++rest) ?_ ds.length
  ⟨0,Zxa fr.length none,F1,_,[],[],out,Zxm,I4,tn0,λb hb=>by rw[Zx (hfpD b hb)]; exact(hf b hb).1,x1.lay' hH1D,Zp.refl _,(at_.grow x1).grow ((at_.grow x1).refl.lay' hH1D),Zz,hF1D,.nil,by omega,ZwM _,go,rfl⟩
 rintro n s5 ⟨j,sv,F,H,ys,vs,rest,hsv,I5,tn5,hfp5,x5,sF,at5,hHD,hFD,rys,hjn,hyl,hgo,hout⟩
 obtain⟨it1,it2⟩:=itd F H sF at5.sub;cases n with
 | zero =>
  have ej:j=ds.length:=by omega
  subst ej;rw[List.drop_length]at hgo;cases hgo;rw[Zxe]at hout;subst hout;refine thn (W.done (ZZ X N scope cl C s2 H1 fp) rfl rfl rfl rfl _ [] s5 _ H No I5 (stat hfp5) tn5 it2) λrv s6 ⟨e,I6⟩=>?_;subst e;refine hR s6 ⟨F,H,vs,I6.weak (by rw[ZwY,ZwY,Zxm,hsv]) λi v hv=>?_,x5,hHD,hFD,rys⟩
  by_cases hi:i<fr.length
  ·rw[Zxo (by rw[Zxm]; exact hi),ZyW,if_pos hi]at hv
   cases hv
  ·rw[Zxk (by rw[Zxm]; omega),Zxm]at hv
   rw[Zxk (by omega),hsv];exact hv
 | succ n =>
  have hlt:j<ds.length:=by omega
  obtain⟨jg,jy⟩:=it1 j ds[j] (ZwR hlt);obtain⟨F2,x5,sF,at5,hFD,rys,jy⟩:∃F2,Ext Fs Hs F2 H/\Zp F1 F2/\At X.K F0 H0 F2 H r σ/\F2 D=none/\Zq X.K F2 ys vs/\∀x H',J.yld j H x H'->∃F3,Ext F2 H F3 H'/\Rep X.K F3 ds[j] x :=
   ⟨Zb3 F H,x5.tups,sF.trans (ZcU at5.sub),at5.grow at5.refl.tups,by unfold Zb3; rw[hHD]; exact hFD,rys.mono (ZcU at5.sub),jy⟩
  clear it1 it2
  rw[ZAw hlt]at hgo;refine thn (W.item (ZZ X N scope cl C s2 H1 fp) rfl rfl rfl rfl j [] s5 _ H No I5 (stat hfp5) tn5 jg) λrv s6 ⟨u,e,h6⟩=>?_;subst e;refine thn h6 λ_ s7 ⟨xv,H7,I7,r7,y7,tn7,fr7⟩=>?_;obtain⟨F7,x7,rx⟩:=jy xv H7 y7;obtain⟨F2,x5,sF,at5,hHD,hFD,rys,rx⟩:∃F2,Ext Fs Hs F2 H7/\Zp F1 F2/\At X.K F0 H0 F2 H7 r σ/\H7 D=some (.lst vs)/\F2 D=none/\Zq X.K F2 ys vs/\Rep X.K F2 ds[j] xv:=by
   refine⟨F7,x5.trans x7,sF.trans x7.ff,at5.grow x7,x7.hh _ _ hHD,?_,rys.mono x7.ff,rx⟩;cases q:F7 D with
   | none=>rfl
   | some o =>
    rcases x7.new D o q with z | z
    ·rw[hFD]at z; cases z
    ·exact(z.no hHD λ_ q=>by cases q).elim
  have I7':=I7.pinned (stat fr7) (W.obj _ _ tn7);unfold goG at hgo;split at hgo
  case h_2=>cases hgo
  rename_i zs hzs;have dok:=hbind _ s7 σ sv H7 F2 ds[j] zs xv u hsv I7' r7 at5.sub rx hzs;refine thn dok λ_ s8 ⟨ws,hws,I8,rws⟩=>?_;have atp:=at5.pushes rws;have again:∀{s9:Shared} {F9 H9:Hp} {zs9:List PyData} {ws9:List V} {rest':List PyData},Inv (ZZ X N scope cl C s2 H1 fp) ([]++ZhN fp s7.heap) (ws.map some++σ) H9 s9->Ext Fs Hs F9 H9->Zp F2 F9->At X.K F0 H0 F9 H9 r σ->H9 D=some (.lst ws9)->F9 D=none->Zq X.K F9 zs9 ws9->zs9.length<=j+1->goG dec fc fe r (ds.drop (j+1))=some rest'->out=zs9++rest' ->
    ∃m,m<n+1/\∃(j:Nat) (sv:List (Option V)) (F2 H:Hp) (ys:List PyData) (vs:List V) (rest:List PyData),sv.length=fr.length/\Inv (ZZ X N scope cl C s2 H1 fp) [] (sv++σ) H s9/\tn j s9.heap/\(∀b∈fp,H b=none)/\Ext Fs Hs F2 H/\Zp F1 F2/\At X.K F0 H0 F2 H r σ /\
     H D=some (.lst vs)/\F2 D=none/\Zq X.K F2 ys vs/\j+m=ds.length/\ys.length<=j/\goG dec fc fe r (ds.drop j)=some rest/\out=ys++rest:=by
   intro s9 F9 H9 zs9 ws9 rest' I9 x9 s9F a9 h9 f9 r9 l9 g9 o9;refine⟨n,ZyQ n,j+1,ws.map some,F9,H9,zs9,ws9,rest',by rw[ZwD]; exact hws,I9.unpinned,W.keep _ _ _ tn7 λb hb o e=>(I9.pin (b,o) (Zw7 _ (Zw7 _ (ZeS hb e)))).1,λb hb=>?_,x9,sF.trans s9F,a9,h9,f9,r9,by omega,l9,g9,o9⟩;obtain⟨o,e,d⟩:=W.obj _ _ tn7 b hb;exact(I9.pin (b,o) (Zw7 _ (Zw7 _ (ZeS hb e)))).2.1
  have noD:∀{F' H':Hp},Ext F2 H7 F' H'->F' D=none:=λ{F' H'} y=>by
   cases q:F' D with
   | none=>rfl
   | some o =>
    rcases y.new D o q with z | z
    ·rw[hFD]at z; cases z
    ·exact(z.no hHD λ_ q=>by cases q).elim
  split at hgo
  ·rename_i hcv
   split at hgo
   ·rename_i y hy
    obtain⟨rest',g1,g2⟩:=ZwE.mp hgo;subst g2;refine thn (hc _ _ hcv _ s8 _ H7 (λc' H'=>c'=true/\∃F',Ext F2 H7 F' H') I8 ⟨F0,H0,F2,atp,λF' H' y=>⟨rfl,F',y⟩⟩) λok s9 ⟨H9,I9,eok,F9,x9⟩=>?_;subst eok;rw[if_pos rfl];refine thn (he _ _ hy _ s9 _ H9 (λv' H'=>∃F',Ext F9 H9 F' H'/\Rep X.K F' y v') I9 ⟨F0,H0,F9,atp.grow x9,λv' F' H' x q=>⟨F',x,q⟩⟩) λu' s10 ⟨v',H10,I10,r10,F10,x10,q10⟩=>?_;have x910:=x9.trans x10;have hHD':H10 D=some (.lst vs):=x910.hh _ _ hHD;have hFD':=noD x910;refine thn (Zhy (X:=ZZ X N scope cl C s2 H1 fp) _ s10 _ H10 (.ref D) [v'] (.ref D) [u'] (λ_ H'=>H'=upd H10 D (.lst (vs++[v']))) I10 rfl (.cons r10 .nil) ⟨D,vs,v',rfl,rfl,hHD',?_,rfl⟩) λ_ s11 ⟨_,H11,I11,_,e11⟩=>?_
    ·have:=rys.1
     exact Zgo (by omega)
    subst e11;refine again (zs9:=ys++[y]) I11 ((x5.trans x910).chg _ hHsD hFD' λu z=>by rw[hHD']at z; cases z; rfl) x910.ff ((at5.grow x910).chgNew _ at_ (x5.trans x910).hh hHsD hFD' λu z=>by rw[hHD']at z; cases z; rfl) Zz hFD' ((rys.mono x910.ff).append (.one q10)) (by rw[ZwY]; show ys.length+1<=j+1; omega) g1 (by rw[hout,Zyi]; rfl)
   ·cases hgo
  ·rename_i hcv
   refine thn (hc _ _ hcv _ s8 _ H7 (λc' H'=>c'=false/\∃F',Ext F2 H7 F' H') I8 ⟨F0,H0,F2,atp,λF' H' y=>⟨rfl,F',y⟩⟩) λok s9 ⟨H9,I9,eok,F9,x9⟩=>?_;subst eok;rw[if_neg (by simp)];exact again (zs9:=ys) I9 (x5.trans x9) x9.ff (at5.grow x9) (x9.hh _ _ hHD) (noD x9) (rys.mono x9.ff) (by omega) hgo hout
  ·cases hgo
theorem Zmq{pins:List (Addr × Obj)}{σ:L2.St}{H1 H:Hp}{s2 s':Shared}{fp:List Addr}{sv:List (Option V)}{h':Heap}(I2:Inv X pins σ H1 s2)(hf:∀b∈fp,Zft X pins H1 b)(hC:s2.heap.objs.size<=C)
  (I:Inv (ZZ X N scope cl C s2 H1 fp) [] (sv++σ) H s') (hs:Zyt C s'.heap h'):Inv X pins σ H { s' with heap:=h' }:=by
 have u:Un (frs X.stack) fp H1 H s2.heap s'.heap:=I.base;have hCn:H C=none:=I.free;have ne:∀b o,s2.heap.get? b=some o->b≠C:=λb o e=>Zw1 (Zw6 (ZwU e) hC);refine I2.call' (s':={ s' with heap:=h' }) (ch:=fp) I.os ⟨λb o e n hb hx=>(hs.2 b (ne b o e)).trans (u.keep b o e n hb hx),λb o e n hb hx=>?_,u.free,λb o e hx=>?_,u.tups,u.frzs,u.tbls⟩ (λb o e=>?_) I.bare λb hb=>?_
 ·obtain⟨sl,q⟩:=u.slot b o e n hb hx
  exact⟨sl,(hs.2 b (ne b o e)).trans q⟩
 ·obtain⟨o',q⟩:=u.there b o e hx
  exact⟨o',(hs.2 b (ne b o e)).trans q⟩
 ·refine(I.hok b o e).stay (λc w' hc q=>(hs.2 c ?_).trans q) (λ_ q=>q) λ_ _ q=>q
  rintro rfl
  rcases hc with rfl | hc
  ·rw[hCn]at e; cases e
  ·rw[hCn]at hc; cases hc
 ·obtain⟨q0,q1,q2,q3,q4,q5⟩:=hf b hb
  exact⟨q3,q1,q4,q5⟩
variable{elt iter:Expr}{ifs:List Expr}{tg:Expr}{pos:Pos}{fi:HM.IF}{dec:PyData->Option (List PyData)}{fc:HM.TF}{fe:HM.EF}
theorem ZmL{pins:List (Addr × Obj)}{σ:L2.St}{H:Hp}{s:Shared}(T:Zed X N scope fr)(I:Inv X pins σ H s):∀y∈scope.names,y.2=.free->∃c,X.env.cells.lookup y.1=some c:=λy hy e=>I.ok.has y.1 (T.cap y hy e)
theorem Zq6(hxe:X.xe=λ_ _=>False)(hcalm:X.calm=true)(T:Zed X N scope fr)(hbind:∀cl C s H ex,Zjm (ZZ X N scope cl C s H ex) fr.length tg dec)(hi:XIE X tg iter fi)(hc:∀cl C s H ex,XTs (ZZ X N scope cl C s H ex) ifs fc)(he:∀cl C s H ex,XE (ZZ X N scope cl C s H ex) elt fe)
  (hs:∀x,ZyK iter X.env x=pure x:=by intro _; rfl):XF X (.ListComp elt [⟨tg,iter,ifs,0⟩] scope pos) (Zgj dec fi fc fe):=by
 intro r b h;unfold Zgj at h;split at h
 ·rename_i ds hds
  split at h
  ·rename_i hbig
   obtain⟨out,hgo,e⟩:=ZwE.mp h;subst e;intro pins s σ H Q I ⟨F0,H0,F,at_,k⟩;obtain⟨cl,hclos,hcl,hfr⟩:=ZeD (ZmL T I);rw[eval_ListComp];refine wpAny_comprehension_free (use:=none) rfl hs hclos T.kind T.names (thn (hi r ds hds pins s σ H (λJ H'=>∃F',Ext F H F' H'/\ItE X.K J ds F') I ⟨F0,H0,F,at_,λJ F' H' x q=>⟨F',x,q⟩⟩) λv s1 h1=>thn h1 λitv s2 h2=>?_);obtain⟨it,fp,tn,J,H1,rfl,I2,W,st2,f2,F1,x1,itd⟩:=h2;have hfl:∀b∈fp,b<s2.heap.objs.size:=λb hb=>let ⟨o,ho,_⟩:=W.obj 0 _ st2 b hb; ZwU ho
   refine ZxB (ZzZ T.cell (by intro y hy; simp at hy) (λh1 hns hsb=>?_) T.kind);dsimp only at hns hsb ⊢;generalize hP:s2.heap.push { cls:=.type "list",dict:=none,data:=.seq ([]:List Value).toArray }=h0 at hns hsb ⊢;have hsz:h0.objs.size=s2.heap.objs.size+1:=by rw[<-hP,Zzc]
   have hDC:s2.heap.objs.size<h0.objs.size:=by rw[hsz]; exact ZyQ _
   have old:∀b o,s2.heap.get? b=some o->h1.get? b=some o:=λb o e=>hsb.extBut b o (Zw1 (Zyu (ZwU e) hDC)) (ZwH _ (by rw[<-hP]; exact ZwH _ e));have hl:h1.get? s2.heap.objs.size=some { cls:=.type "list",data:=.seq #[] 0 }:=hsb.extBut _ _ (Zw1 hDC) (ZwH _ (by rw[<-hP]; exact ZwX _ rfl));have I4:Inv (ZZ X N scope cl h0.objs.size s2 H1 fp) [] (Zxa fr.length none++σ) (upd H1 s2.heap.objs.size (.lst [])) { s2 with heap:=h1,toks:=s2.toks+([]:List (Str × Value)).length }:=Zmo T hcl hfr I2 hcalm f2 hfl rfl hDC hns hl old;have tn1:tn 0 h1:=W.keep _ _ _ st2 λb _ o e=>old b o e;have hHsD:H s2.heap.objs.size=none:=x1.hh.free (I2.hok.fresh (ZwM _));have loop:codeAny (model X.prog X.w) X.A (.compLoop (.ListComp elt [⟨tg,iter,ifs,0⟩] scope pos) 0 (.ref it) (.ref s2.heap.objs.size) (compEnvC scope cl h0.objs.size X.env)) (compPost (model X.prog X.w) X.A X.xe none (EP X pins σ Q) (.ref s2.heap.objs.size) h0.objs.size)
     { s2 with heap:=h1,toks:=s2.toks+([]:List (Str × Value)).length }:=by
    refine ZmX T I2 W f2 I4 tn1 (ZwM _) hfl hcalm (hc _ _ _ _ _) (he _ _ _ _ _) at_ x1 itd (hbind _ _ _ _ _) hbig hgo λs' ⟨F',H',vs,I',x',hD',hFD',rs⟩=>?_;obtain⟨m,hn,_⟩:=id I'.loc;refine⟨m,hn,λh2 hs2=>⟨.ref s2.heap.objs.size,H',Zmq I2 f2 (Zys hDC) I' hs2,rfl,k _ F' H' x' ⟨[s2.heap.objs.size],.ol hD' rs,by simp,λa ha=>?_⟩⟩⟩;obtain rfl:a=s2.heap.objs.size:=by simpa using ha
    exact⟨hFD',hHsD⟩
   exact codeAny_compStart_list loop (W.self _ 0 _ _ _ tn1 loop)
  ·cases h
 ·cases h
theorem Znw(i:Nat){y:Str}{py spos:Pos}(hN:X.N.Nodup)(hxe:X.xe=λ_ _=>False)(hcalm:X.calm=true)(T:Zed X N scope fr)(hbind:∀cl C s H ex,Zjm (ZZ X N scope cl C s H ex) fr.length tg dec)(hi:XIE X tg iter fi)(hc:∀cl C s H ex,XTs (ZZ X N scope cl C s H ex) ifs fc)(he:∀cl C s H ex,XE (ZZ X N scope cl C s H ex) elt fe)
  (hiy:X.N[i]?=some y:=by rfl) (hy:X.env.scope.names.lookup y=some .local:=by rfl) (hsw:Zy1 (.ListComp elt [⟨tg,iter,ifs,0⟩] scope pos) (some (.Name y py)) spos.line X.env=pure true:=by rfl)
  (hs:∀x,ZyK iter X.env x=pure x:=by intro _; rfl):XS X (.Assign [.Name y py] (.ListComp elt [⟨tg,iter,ifs,0⟩] scope pos) spos) (HM.ZT i (Zgj dec fi fc fe)):=by
 intro r o h;obtain⟨b,hb,e⟩:=ZwE.mp h;subst e;unfold Zgj at hb;split at hb
 ·rename_i ds hds
  split at hb
  ·rename_i hbig
   obtain⟨out,hgo,e⟩:=ZwE.mp hb;subst e;intro pins s σ H E I ⟨F0,H0,F,at_,k⟩;obtain⟨cl,hclos,hcl,hfr⟩:=ZeD (ZmL T I);rw[exec_Assign_Name_used _ _ _ _ hsw];refine ZwB (wpAny_standAt (ZwB ?_));show wpAny _ X.A (do let _ <-comprehension (.ListComp elt [⟨tg,iter,ifs,0⟩] scope pos) scope X.env _ (newList []) false (eval iter X.env) (some (assign (.Name y py) X.env))) _ _ s;refine ZwB (ZxQ (wpAny_comprehension_free (use:=some (assign (.Name y py) X.env)) (Q:=λ_ s'=>SP X pins E .next s') rfl hs hclos T.kind T.names (thn (hi r ds hds pins s σ H (λJ H'=>∃F',Ext F H F' H'/\ItE X.K J ds F') I ⟨F0,H0,F,at_,λJ F' H' x q=>⟨F',x,q⟩⟩) λv s1 h1=>thn h1 λitv s2 h2=>?_)) (λ_ s' hq=>ZwF (ZwF hq)) λ_ _ e=>e)
   obtain⟨it,fp,tn,J,H1,rfl,I2,W,st2,f2,F1,x1,itd⟩:=h2;have hfl:∀b∈fp,b<s2.heap.objs.size:=λb hb=>let ⟨o,ho,_⟩:=W.obj 0 _ st2 b hb; ZwU ho
   refine ZxB (ZzZ T.cell (by intro y hy; simp at hy) (λh1 hns hsb=>?_) T.kind);dsimp only at hns hsb ⊢;generalize hP:s2.heap.push { cls:=.type "list",dict:=none,data:=.seq ([]:List Value).toArray }=h0 at hns hsb ⊢;have hsz:h0.objs.size=s2.heap.objs.size+1:=by rw[<-hP,Zzc]
   have hDC:s2.heap.objs.size<h0.objs.size:=by rw[hsz]; exact ZyQ _
   have old:∀b o,s2.heap.get? b=some o->h1.get? b=some o:=λb o e=>hsb.extBut b o (Zw1 (Zyu (ZwU e) hDC)) (ZwH _ (by rw[<-hP]; exact ZwH _ e));have hl:h1.get? s2.heap.objs.size=some { cls:=.type "list",data:=.seq #[] 0 }:=hsb.extBut _ _ (Zw1 hDC) (ZwH _ (by rw[<-hP]; exact ZwX _ rfl));have I4:Inv (ZZ X N scope cl h0.objs.size s2 H1 fp) [] (Zxa fr.length none++σ) (upd H1 s2.heap.objs.size (.lst [])) { s2 with heap:=h1,toks:=s2.toks+([]:List (Str × Value)).length }:=Zmo T hcl hfr I2 hcalm f2 hfl rfl hDC hns hl old;have tn1:tn 0 h1:=W.keep _ _ _ st2 λb _ o e=>old b o e;have hHsD:H s2.heap.objs.size=none:=x1.hh.free (I2.hok.fresh (ZwM _));have loop:codeAny (model X.prog X.w) X.A (.compLoop (.ListComp elt [⟨tg,iter,ifs,0⟩] scope pos) 0 (.ref it) (.ref s2.heap.objs.size) (compEnvC scope cl h0.objs.size X.env)) (compPost (model X.prog X.w) X.A X.xe (some (assign (.Name y py) X.env)) (λ_ s'=>SP X pins E .next s') (.ref s2.heap.objs.size) h0.objs.size)
     { s2 with heap:=h1,toks:=s2.toks+([]:List (Str × Value)).length }:=by
    refine ZmX T I2 W f2 I4 tn1 (ZwM _) hfl hcalm (hc _ _ _ _ _) (he _ _ _ _ _) at_ x1 itd (hbind _ _ _ _ _) hbig hgo λs' ⟨F',H',vs,I',x',hD',hFD',rs⟩=>?_;obtain⟨m,hn,_⟩:=id I'.loc;have IX:Inv X pins σ H' s':=Zmq (h':=s'.heap) I2 f2 (Zys hDC) I' (ZBk _ _);have hCn:H' h0.objs.size=none:=I'.free;have neL:h0.objs.size≠X.env.locals:=Zzo (Zyu I2.lt hDC);have neC:∀z c,X.env.cells.lookup z=some c->c≠h0.objs.size:=λz c hz=>by obtain⟨v,o,ho,_⟩:=I2.cell z c hz;exact Zw1 (Zyu (ZwU ho) hDC)
    have neP:∀p∈X.pn++pins,p.1≠h0.objs.size:=λp hp=>Zw1 (Zyu (ZwU (I2.pin p hp).1) hDC);show wpAny _ X.A (assign (.Name y py) X.env (.ref s2.heap.objs.size)) _ _ _;refine wpAny_assign_Name (ZkN IX hN hiy (.inl hy) (v:=.ref s2.heap.objs.size) rfl (λs3 I3 hsa=>?_) (.inr hy));obtain⟨a,sa,ea⟩:=hsa;have neA:h0.objs.size≠a:=by
     rcases ea with e | e
     ·rw[e]; exact neL
     ·exact ZxC (neC _ _ e)
    refine⟨m,hn.sameBut sa neA,λh2 hs2=>?_⟩;refine⟨_,H',I3.turned (t':=s3.toks) (it:=h0.objs.size) (λb o hb e=>(hs2.2 b hb).trans e) hCn neL (.inr (Zxr I2.sz (Zys hDC))) neC neP,k _ F' H' ((at_.grow x').storeNew at_ x'.hh (fp':=[s2.heap.objs.size]) (.ol hD' rs) (by simp) λa ha=>?_)⟩;obtain rfl:a=s2.heap.objs.size:=by simpa using ha
    exact⟨hFD',hHsD⟩
   exact codeAny_compStart_list loop (W.self _ 0 _ _ _ tn1 loop)
  ·cases hb
 ·cases hb
end
end HP
namespace HP
open PySem PySem.Spec PyProof.Rows L2
variable[FX]
def Zrp(d:PyData):Option (List PyData):=some [d]
theorem ZtX(c:HM.TF)(e:HM.EF)(r:HM.Env):∀xs,HM.Zav c e r xs=goG Zrp c e r xs
 | []=>rfl
 | x::xs=>by unfold HM.Zav goG;rw[ZtX c e r xs];rfl
theorem Zor(i:HM.IF)(c:HM.TF)(e:HM.EF):HM.ZC i c e=Zgj Zrp i c e:=by
 funext r
 unfold HM.ZC Zgj;cases i r with
 | none=>rfl
 | some xs=>dsimp only; rw[ZtX]
section
variable{X:Cx}{N:List Str}{scope:Scope}{x x2:Str}{px px2 pt:Pos}{kt:Nat}
theorem Zq2(T:Zed X N scope [x])(cl:List (Str × Addr))(C:Addr)(s₀:Shared)(H₀:Hp)(ex:List Addr):Zjm (ZZ X N scope cl C s₀ H₀ ex) 1 (.Name x px) Zrp:=by
 intro pins s σ sv H F d ys xv u hsv I r sub q hd;cases hd;have hx:=T.loc x (ZwT.mpr rfl);refine thn (ZoA (X:=ZZ X N scope cl C s₀ H₀ ex) (i:=0) T.nd (T.first 0 x rfl) (.inl (lookup_relabel_local hx)) (.inr (lookup_relabel_local hx)) _ s _ H xv u (λσ' H'=>σ'=(sv++σ).set 0 (some xv)/\H'=H) I r ⟨rfl,rfl⟩) λ_ s' ⟨σ',H',I',e1,e2⟩=>?_
 subst e1 e2;refine⟨[xv],rfl,?_,.one q⟩;cases sv with
 | nil=>simp at hsv
 | cons a sv=>cases sv with
  | nil=>exact I'
  | cons _ _=>simp at hsv
def ZqH(kinds:Str->Option NameKind)(XN N:List Str)(names:List (Str × NameKind))(fr:List Str):Bool :=
 names.all (λy=>y.2 != .cell)&&names.all (λy=>y.2 != .local||names.lookup y.1==some .local)&&fr.all (λx=>names.lookup x==some .local)&&(ZwG fr.length).all (λi=>N[i]?==fr[i]?)&&decide N.Nodup&&N.length==XN.length+fr.length &&
 names.all (λy=>y.2 != .free||kinds y.1==some .cell||kinds y.1==some .free) &&
 (ZwG (N.length-fr.length)).all (λi=>match N[i+fr.length]? with
  | some y=>(names.lookup y != some .free||XN[i]?==some y)&&(names.lookup y==some .free||(names.lookup y != some .local&&names.lookup y != some .cell))
  | none=>true)
theorem ZN{X:Cx}{N XN:List Str}{scope sc:Scope}{fr:List Str}(hs:X.env.scope=sc:=by rfl)(hN:X.N=XN:=by rfl)(hk:scope.kind=.function:=by rfl)(h:ZqH (λy=>sc.names.lookup y) XN N scope.names fr=true:=by decide +kernel):Zed X N scope fr:=by
 subst hN;unfold ZqH at h;simp only[ZwZ,ZwK,Zyb,bne_iff_ne,beq_iff_eq,decide_eq_true_eq]at h;obtain⟨⟨⟨⟨⟨⟨⟨h1,h2⟩,h3⟩,h4⟩,h5⟩,h6⟩,h7⟩,h8⟩:=h;have at_:∀(i:Nat) (y:Str),N[i+fr.length]?=some y->(scope.names.lookup y≠some .free\/X.N[i]?=some y)/\(scope.names.lookup y=some .free\/(scope.names.lookup y≠some .local/\scope.names.lookup y≠some .cell)):=λi y e=>by have hi:i+fr.length<N.length:=(ZwQ.mp e).1;have:=h8 i (ZwW.mpr (by omega));rw[e]at this;simpa only[ZwZ,Zyb,bne_iff_ne,beq_iff_eq]using this
 refine⟨hk,h1,λy hy e=>(h2 y hy).resolve_left (λz=>z e),h3,λi x e=>?_,h5,h6,λy hy e=>?_,λi y e q=>(at_ i y e).1.resolve_left (λz=>z q),λi y e v=>?_⟩
 ·rw[h4 i (ZwW.mpr (ZwQ.mp e).1)]
  exact e
 ·have:=h7 y hy
  rw[show X.env.kindOf y.1=sc.names.lookup y.1 by rw[<-hs]; rfl];rcases this with(z | z) | z
  ·exact absurd e z
  ·exact .inl z
  ·exact .inr z
 ·rcases(at_ i y e).2 with z | ⟨z1,z2⟩
  ·exact z
  ·rcases v with v | v | v
   ·exact absurd v z1
   ·exact absurd v z2
   ·exact v
variable{elt iter:Expr}{ifs:List Expr}{pos:Pos}{fi:HM.IF}{fc:HM.TF}{fe:HM.EF}
theorem ZaH(hxe:X.xe=λ_ _=>False)(hcalm:X.calm=true)(T:Zed X N scope [x])(hi:XI X (.Name x px) iter fi)(hc:∀cl C s H ex,XTs (ZZ X N scope cl C s H ex) ifs fc)(he:∀cl C s H ex,XE (ZZ X N scope cl C s H ex) elt fe)
  (hs:∀x,ZyK iter X.env x=pure x:=by intro _; rfl):XF X (.ListComp elt [⟨.Name x px,iter,ifs,0⟩] scope pos) (HM.ZC fi fc fe):=by
 rw[Zor];exact Zq6 hxe hcalm T (Zq2 T) hi.e hc he hs
theorem ZcN(i:Nat){y:Str}{py spos:Pos}(hN:X.N.Nodup)(hxe:X.xe=λ_ _=>False)(hcalm:X.calm=true)(T:Zed X N scope [x])(hi:XI X (.Name x px) iter fi)(hc:∀cl C s H ex,XTs (ZZ X N scope cl C s H ex) ifs fc)(he:∀cl C s H ex,XE (ZZ X N scope cl C s H ex) elt fe)
  (hiy:X.N[i]?=some y:=by rfl) (hy:X.env.scope.names.lookup y=some .local:=by rfl) (hsw:Zy1 (.ListComp elt [⟨.Name x px,iter,ifs,0⟩] scope pos) (some (.Name y py)) spos.line X.env=pure true:=by rfl)
  (hs:∀x,ZyK iter X.env x=pure x:=by intro _; rfl):XS X (.Assign [.Name y py] (.ListComp elt [⟨.Name x px,iter,ifs,0⟩] scope pos) spos) (HM.ZT i (HM.ZC fi fc fe)):=by
 rw[Zor];exact Znw i hN hxe hcalm T (Zq2 T) hi.e hc he hiy hy hsw hs
end
end HP
namespace HP
open PySem PySem.Spec PyProof.Rows L2
variable[FX]
section
variable{prog:Program}{w:World}{K:Type}[DecidableEq K]{knd:HeapKind prog w K}{A:Around}{E:Value->Shared->Prop}{s:Shared}
theorem Zj4{d a:Addr}{xs:List (K × Addr × Value)}{k:K}{v:Value}{Q:Value->Shared->Prop}(hu:knd.room A)(hkey:knd.is s.heap k a)(hm:s.heap.DictOfH knd d xs)(hsz:xs.length<=sizeLine)
  (h1:∀p,atKey xs k=some p->Q p.2 { s with toks:=s.toks+knd.draws k })
  (h2:atKey xs k=none->∀h',h'.DictOfH knd d (storedH xs k a v)->Zyt d s.heap h'->Q v { s with heap:=h',toks:=s.toks+knd.draws k }) :
  wpAny (model prog w) A (dictSetDefault d (.ref a) v) Q E s:=by
 obtain⟨o,es,ep,ho,hc,hd,he,his,hn⟩:=hm;unfold dictSetDefault
 try with_reducible refine ZxM ?_
 refine ZwB (knd.pyHash hu hkey ?_);refine ZwB (wpAny_dictFind_heap (s:={ s with toks:=s.toks+knd.draws k }) hu hkey ho hd he his hn ?_ ?_)
 ·intro hno
  have hnot:k ∉ xs.map (·.1):=not_mem_keys_of_get hno;have hnk:=atKey_none_of_get hno;refine ZwB (wpAny_rule (ZwB (wpAny_updateDictKeys (hz:=by have e:=size_of_entries he; omega) (s:={ s with toks:=s.toks+knd.draws k }) ho hd (ZwF (h2 hnk _ ⟨_,_,ep+1,ZxK _ ho (Obj.isFreed_of_dict (Obj.data_mapDictKeys hd _)),
   hc.mapDictKeys _,Obj.data_mapDictKeys hd _,?_,?_,?_⟩ (ZxH ..))))))
  ·rw[storedH_new hnk]
   simp[he,entryOfKey]
  ·rw[storedH_new hnk]
   intro x hx;rcases Zxc.mp hx with hx | hx
   ·exact knd.keeps (his x hx) ho hd (ZxH ..)
   ·simp only[ZwT]at hx
    subst hx;exact knd.keeps hkey ho hd (ZxH ..)
  ·rw[storedH_new hnk]
   rw[Zxd,Zy8];refine⟨hn,by simp,?_⟩;intro x hx y hy;simp only[ZwL,ZyP,ZwT]at hy;subst hy;exact λe=>hnot (e▸hx)
 ·intro j p hj
  refine ZwB (ZzA (s:={ s with toks:=s.toks+knd.draws k }) ho hd ?_);rw[entry_at he j,hj];exact ZwB (wpAny_rule (ZwF (h1 p (atKey_of_get hn hj))))
theorem Zio(d a:Addr)(hd:(d==ZxX)=false)(dflt:Value) :
  MeetsIn prog w (Builtin.«dict.setdefault» ⟨[.ref d,.ref a,dflt],[]⟩) (λA R s=>knd.room A.in1/\∃k xs,knd.is s.heap k a/\s.heap.DictOfH knd d xs/\xs.length<=sizeLine /\
   (∀p,atKey xs k=some p->R (.ok (.ret p.2)) { s with toks:=s.toks+knd.draws k }) /\
   (atKey xs k=none->∀h',h'.DictOfH knd d (storedH xs k a dflt)->Zyt d s.heap h'->R (.ok (.ret dflt)) { s with heap:=h',toks:=s.toks+knd.draws k })) :=
 .of_wp λA R s ⟨hu,k,xs,hkey,hm,hz,h1,h2⟩=>by unfold Builtin.«dict.setdefault»;refine ZwB ?_;unfold Builtin.Dict.keyAndDefault;refine ZwB (wpAny_notOrdered_dict hm.typeIs ?_);show wpAny _ _ (pure (d,Zxy a,some dflt)) _ _ s;refine ZwF ?_;show wpAny _ _ (if(d==ZxX)=true then _ else(dictSetDefault d (.ref a) dflt >>= _)) _ _ s;rw[if_neg (by rw[hd]; exact Zxi)];exact ZwB (Zj4 hu hkey hm hz (λp hp=>ZwF ⟨p.2,rfl,h1 p hp⟩) λhn h' hm' hs'=>ZwF ⟨dflt,rfl,h2 hn h' hm' hs'⟩)
end
section
variable{X:Cx}{pins:List (Addr × Obj)}{σ:L2.St}{H:Hp}{s:Shared}{a b:Addr}{z:V}{r:Value}{A:Around}{E:Value->Shared->Prop}{kvs:List (List Key × V)}{k:List Key}
theorem Zu3{Q:Value->Shared->Prop}(hu:A.units+1<cLine)(I:Inv X pins σ H s)(e:H a=some (.dT kvs))(eb:H b=some (.tup (k.map kV)))(hl:kvs.length<sizeLine)(rz:RelV z r)
  (h1:∀v,Zal kvs k=some v->∀w' s',Inv X pins σ H s'->RelV v w'->Q w' s') (h2:Zal kvs k=none->∀s',Inv X pins σ (upd H a (.dT (kvs++[(k,z)]))) s'->Q r s') :
  wpAny (model X.prog X.w) A (call (.builtin "dict.setdefault") [.ref a,.ref b,r]) Q E s:=by
 obtain⟨zz,hd,xs,rel,dd⟩:=Zsm I.hok e;have hz:xs.length<=sizeLine:=by rw[<-ZyG rel]; exact zz
 have hv:=rel.val k;refine call_meetsIn Zz8 dd.typeIs PySem.F.entry_dict_setdefault (PySem.F.args_dict_setdefault_3 _ _ _) (Zio (knd:=ZzQ (Zaf X.prog X.w)) a b hd r) ⟨Zy3 hu,k,xs,Zgh I.hok eb,dd,hz,λp hp=>?_,λhn h' dd' hs=>?_⟩
 ·rw[hp]at hv
  cases hvv:Zal kvs k with
  | none=>rw[hvv]at hv; exact hv.elim
  | some v=>rw[hvv]at hv; exact h1 v hvv _ _ (I.tok _) hv
 ·rw[hn]at hv
  have hvv:Zal kvs k=none:=by
   cases hvv:Zal kvs k with
   | none=>rfl
   | some v=>rw[hvv]at hv; exact hv.elim
  refine h2 hvv _ ?_;have hp:=rel.put k eb rz;have epk:putK kvs k z=kvs++[(k,z)]:=by unfold putK;rw[if_neg];rw[ZiN,hvv];simp
  rw[epk]at hp;obtain⟨q,es,ep,hq,g2,g3,g4,_,g5⟩:=dd';refine Zh0 I (by rw[e]; exact Zzt) hs ⟨q,hq⟩ ⟨by rw[ZwY]; exact hl,hd,_,hp.keeps λc ys ec=>?_,q,es,ep,hq,g2,g3,g4,g5⟩;rw[Zx (Zso ec e (λz=>nomatch z))];exact ec
end
def Zwj(td ty tx:TE):TE:=λσ H Q=>td σ H λx H1=>∃a,x=.ref a/\IsD H1 a/\ty σ H1 λy H2=>tx σ H2 λz H3=>∃kvs k b,H3 a=some (.dT kvs)/\y=.ref b/\H3 b=some (.tup (k.map kV))/\kvs.length<sizeLine /\
 (∀v,Zal kvs k=some v->Q v H3)/\(Zal kvs k=none->Q z (upd H3 a (.dT (kvs++[(k,z)]))))
section
variable{X:Cx}{o e f:Expr}{apos cpos:Pos}{td ty tx:TE}
theorem Zuu(hu:X.A.units+1<cLine)(ho:PE X o td)(he:PE X e ty)(hf:PE X f tx)(m:M2 X o "setdefault" apos e f cpos):PE X (.Call (.Attribute o "setdefault" apos) [e,f] [] cpos) (Zwj td ty tx):=by intro pins s σ H Q I h;refine wpAny_Call_method m.base m.few m.line PySem.F.plainAttrs_dict Zz8 PySem.F.type_dict_setdefault (thn (ho pins s σ H _ I h) λu s1 ⟨x,H1,I1,rx,a,ex,d,q1⟩=>?_);subst ex;obtain rfl:u=Zxy a:=rx;obtain⟨t1,t2,_⟩:=ZtR I1 d;refine⟨t1,t2,?_⟩;rw[m.trees];refine ZzG rfl (ZA7 (ZAd (thn (he pins s1 σ H1 _ I1 q1) λiv s2 ⟨y,H2,I2,ry,q2⟩=>ZAd (thn (hf pins s2 σ H2 _ I2 q2) λfv s3 ⟨z,H3,I3,rz,kvs,k,b,ea,ey,eb,hl,q3,q4⟩=>Calls.spliced_nil ?_))));subst ey;obtain rfl:iv=Zxy b:=ry;exact Zu3 hu I3 ea eb hl rz (λv hv w' s4 I4 rw'=>⟨v,H3,I4,rw',q3 v hv⟩) λhn s4 I4=>⟨z,_,I4,rz,q4 hn⟩
end
def OT(K:ZwC)(F H:Hp)(kvs:List (List Key × List PyData))(vvs:List (List Key × V))(ls:List Addr):Prop:=kvs.map (·.1)=vvs.map (·.1)/\vvs.map (·.2)=ls.map V.ref /\
 ∀(i:Nat) (ds:List PyData) (l:Addr),(kvs.map (·.2))[i]?=some ds->ls[i]?=some l->∃vs,H l=some (.lst vs)/\Zq K F ds vs
section
variable{K:ZwC}{F F' H H':Hp}{kvs:List (List Key × List PyData)}{vvs:List (List Key × V)}{ls:List Addr}
theorem OT.len(q:OT K F H kvs vvs ls):kvs.length=ls.length/\kvs.length=vvs.length:=by have e1:=congrArg Zxl q.1;have e2:=congrArg Zxl q.2.1;rw[ZwD,ZwD]at e1 e2;omega
theorem OT.mono(q:OT K F H kvs vvs ls)(s:Zp F F')(k:∀a∈ls,∀o,H a=some o->H' a=some o):OT K F' H' kvs vvs ls :=
 ⟨q.1,q.2.1,λi ds l h1 h2=>let ⟨vs,q1,q2⟩:=q.2.2 i ds l h1 h2; ⟨vs,k l (Zw9 h2) _ q1,q2.mono s⟩⟩
theorem OT.snoc(q:OT K F H kvs vvs ls)(k:List Key){p:Addr}(hp:H p=some (.lst [])):OT K F H (kvs++[(k,[])]) (vvs++[(k,.ref p)]) (ls++[p]):=by
 refine⟨by rw[Zxd,Zxd,q.1]; rfl,by rw[Zxd,Zxd,q.2.1]; rfl,λi ds l h1 h2=>?_⟩;have hl:=q.len;rw[Zxd]at h1
 by_cases hi:i<kvs.length
 ·rw[Zxo (by rw[ZwD]; exact hi)]at h1
  rw[Zxo (by omega)]at h2;exact q.2.2 i ds l h1 h2
 ·rw[Zxk (by rw[ZwD]; omega),ZwD]at h1
  rw[Zxk (by omega),<-hl.1]at h2;cases hj:i-kvs.length with
  | zero=>rw[hj]at h1 h2;cases h1; cases h2;exact⟨[],hp,.nil⟩
  | succ j=>rw[hj]at h1; cases h1
theorem OT.look(q:OT K F H kvs vvs ls)(k:List Key):(∀ds,HM.Zf kvs k=some ds->∃l' vs,Zal vvs k=some (.ref l')/\l'∈ls/\H l'=some (.lst vs)/\Zq K F ds vs)/\(HM.Zf kvs k=none->Zal vvs k=none):=Zi6 k kvs vvs ls q.1 q.2.1 q.2.2
theorem OT.app(k:List Key){d:PyData}{v:V}:∀{kvs:List (List Key × List PyData)} {vvs:List (List Key × V)} {ls:List Addr},OT K F H kvs vvs ls->ls.Nodup->Rep K F d v->∀{l':Addr} {vs:List V},Zal vvs k=some (.ref l')->H l'=some (.lst vs) ->
  OT K F (upd H l' (.lst (vs++[v]))) (HM.ZcW kvs k d) vvs ls
 | [],[],_,q,_,_,l',vs,hv,_=>by cases hv
 | [],_::_,_,q,_,_,_,_,_,_=>by have:=q.len; simp at this
 | _::_,[],_,q,_,_,_,_,_,_=>by have:=q.len; simp at this
 | _::_,_::_,[],q,_,_,_,_,_,_=>by have:=q.len; simp at this
 | (k1,ds1)::kvs,(k2,v2)::vvs,l1::ls,q,nd,rd,l',vs,hv,hl=>by
  obtain⟨q1,q2,q3⟩:=q;rw[ZwL,ZwL]at q1 q2;injection q1 with e1 e2
  injection q2 with e3 e4
  have e1:k1=k2:=e1;have e3:v2=.ref l1:=e3;subst e1 e3;have rest:OT K F H kvs vvs ls:=⟨e2,e4,λi ds l h1 h2=>q3 (i+1) ds l (by simpa using h1) (by simpa using h2)⟩;obtain⟨n1,n2⟩:=Zxs.mp nd;obtain⟨us,f1,f2⟩:=q3 0 ds1 l1 rfl rfl;unfold HM.ZcW
  by_cases hk:k1=k
  ·rw[if_pos hk]
   rw[Zdb (p:=(k1,V.ref l1)) hk]at hv;cases hv;rw[hl]at f1;cases f1;refine⟨by rw[ZwL,ZwL,e2],by rw[ZwL,ZwL,e4],λi ds l h1 h2=>?_⟩;cases i with
   | zero=>cases h1; cases h2;exact⟨_,Zz,f2.append (.one rd)⟩
   | succ i=>rw[ZwL,Zxh]at h1;rw[Zxh]at h2;obtain⟨us,g1,g2⟩:=rest.2.2 i ds l h1 h2;exact⟨us,by rw[Zx (λz=>n1 (by rw[<-z]; exact Zw9 h2))]; exact g1,g2⟩
  ·rw[if_neg hk]
   rw[Zc9 (p:=(k1,V.ref l1)) hk]at hv;have ih:=OT.app k rest n2 rd hv hl;have hne:l1≠l':=by
    rintro rfl
    have:∀(vvs:List (List Key × V)) (ls:List Addr),vvs.map (·.2)=ls.map V.ref->∀l',Zal vvs k=some (.ref l')->l'∈ls:=by
     intro vvs
     induction vvs with
     | nil=>intro ls _ l' h; cases h
     | cons p vvs ih =>
      intro ls he l' h;cases ls with
      | nil=>simp at he
      | cons l ls =>
       rw[ZwL,ZwL]at he;injection he with he1 he2
       by_cases hp:p.1=k
       ·rw[Zdb hp]at h
        rw[he1]at h;cases h;exact ZwI
       ·rw[Zc9 hp]at h
        exact ZwJ _ (ih ls he2 l' h)
    exact n1 (this vvs ls e4 _ hv)
   refine⟨by rw[ZwL,ZwL,ih.1],by rw[ZwL,ZwL,e4],λi ds l h1 h2=>?_⟩;cases i with
   | zero=>cases h1; cases h2;exact⟨us,by rw[Zx hne]; exact f1,f2⟩
   | succ i=>rw[ZwL,Zxh]at h1;rw[Zxh]at h2;exact ih.2.2 i ds l h1 h2
end
theorem ZaT.otl{K:ZwC}{F0 H0 F H:Hp}{r:HM.Env}{σ:L2.St}{fp:Nat->List Addr}{i:Nat}{kvs:List (List Key × List PyData)}(e:ZaT K F0 H0 F H r σ fp)(h:r[i]?=some (some (.otl kvs))) :
  ∃a vvs ls,σ[i]?=some (some (.ref a))/\H a=some (.dT vvs)/\OT K F H kvs vvs ls/\fp i=a::ls:=by
 obtain⟨v,h1,h2⟩:=e.at_ i _ h;generalize hf:fp i=q at h2;cases h2 with
 | otl k1 k2 k3 k4=>exact⟨_,_,_,h1,k1,⟨k2,k3,k4⟩,rfl⟩
theorem ZaT.otlNew{K:ZwC}{F0 H0 Fb Hb F H:Hp}{r:HM.Env}{σ:L2.St}{fp:Nat->List Addr}{i:Nat}{kvs:List (List Key × List PyData)}{p:Addr}(k:List Key)(eb:ZaT K F0 H0 Fb Hb r σ fp)(x:Ext Fb Hb F H)(h:r[i]?=some (some (.otl kvs)))(hp:H p=some (.lst []))(hF:F p=none)(hb:Hb p=none) :
  ∃a vvs,σ[i]?=some (some (.ref a))/\H a=some (.dT vvs)/\vvs.length=kvs.length/\(HM.Zf kvs k=none->Zal vvs k=none)/\At K F0 H0 F (upd H a (.dT (vvs++[(k,.ref p)]))) (r.set i (some (.otl (kvs++[(k,[])])))) σ:=by
 have e:=eb.grow x;obtain⟨a,vvs,ls,h1,h2,h3,h4⟩:=e.otl h;have hpn:∀j,p ∉ fp j:=λj hj=>by obtain⟨o,ho⟩:=eb.there hj;rw[hb]at ho; cases ho
 have hpa:p≠a:=λz=>hpn i (by rw[h4,z]; exact ZwI);have hal:a ∉ ls:=(Zxs.mp (h4▸e.nd i)).1;have nl:ls.Nodup:=(Zxs.mp (h4▸e.nd i)).2;have hpl:p ∉ ls:=λz=>hpn i (by rw[h4]; exact ZwJ _ z);refine⟨a,vvs,h1,h2,h3.len.2.symm,(h3.look k).2,?_⟩;have q:=h3.snoc k hp;have q':OT K F (upd H a (.dT (vvs++[(k,.ref p)]))) (kvs++[(k,[])]) (vvs++[(k,.ref p)]) (ls++[p]):=q.mono (Zp.refl F) λc hc o z=>by
  rw[Zx]
  ·exact z
  ·rintro rfl
   rcases Zxc.mp hc with hc | hc
   ·exact hal hc
   ·exact hpa (ZwT.mp hc).symm
 have nd':(a::(ls++[p])).Nodup:=by
  refine Zxs.mpr ⟨?_,?_⟩
  ·intro z
   rcases Zxc.mp z with z | z
   ·exact hal z
   ·exact hpa (ZwT.mp z).symm
  ·rw[Zy8]
   refine⟨nl,by simp,λx hx y hy=>?_⟩;obtain rfl:y=p:=by simpa using hy
   rintro rfl
   exact hpl hx
 refine e.changeW h1 (fp':=a::(ls++[p])) (.otl Zz q'.1 q'.2.1 q'.2.2) nd' (λc hc=>?_) λc o z hn=>?_
 ·rcases Zw0.mp hc with z | z
  ·subst z; exact .inl (by rw[h4]; exact ZwI)
  ·rcases Zxc.mp z with z | z
   ·exact .inl (by rw[h4]; exact ZwJ _ z)
   ·obtain rfl:c=p:=ZwT.mp z
    exact .inr ⟨hF,eb.ext.hh.free hb,hpn⟩
 ·rw[Zx (λy=>hn (by rw[h4,y]; exact ZwI))]
  exact z
theorem At.otlApp{K:ZwC}{F0 H0 F H:Hp}{r:HM.Env}{σ:L2.St}{i:Nat}{kvs:List (List Key × List PyData)}{ds:List PyData}(k:List Key)(e:At K F0 H0 F H r σ)(h:r[i]?=some (some (.otl kvs)))(hd:HM.Zf kvs k=some ds) :
  ∃a vvs l vs,σ[i]?=some (some (.ref a))/\H a=some (.dT vvs)/\Zal vvs k=some (.ref l)/\H l=some (.lst vs)/\Zq K F ds vs/\∀d v,Rep K F d v->At K F0 H0 F (upd H l (.lst (vs++[v]))) (r.set i (some (.otl (HM.ZcW kvs k d)))) σ:=by
 obtain⟨fp,e⟩:=e;obtain⟨a,vvs,ls,h1,h2,h3,h4⟩:=e.otl h;obtain⟨l,vs,g1,g2,g3,g4⟩:=(h3.look k).1 ds hd;have hal:a ∉ ls:=(Zxs.mp (h4▸e.nd i)).1;have nl:ls.Nodup:=(Zxs.mp (h4▸e.nd i)).2;have hne:a≠l:=λz=>hal (by rw[z]; exact g2);refine⟨a,vvs,l,vs,h1,h2,g1,g3,g4,λd v rd=>?_⟩;have q:=h3.app k nl rd g1 g3;refine e.change h1 (fp':=a::ls) (.otl (by rw[Zx hne]; exact h2) q.1 q.2.1 q.2.2) (h4▸e.nd i) (λc hc=>.inl (by rw[h4]; exact hc)) λc o z hn=>?_;rw[Zx (λy=>hn (by rw[h4,y]; exact ZwJ _ g2))];exact z
section
variable{X:Cx}{a b c e:Expr}{fa fb fc:HM.EF}{pos p:Pos}{f:HM.BF}
theorem Zq0{k:List Key}{kvs:List (List Key × List PyData)}{ds:List PyData}(h:HM.Zf kvs k=some ds):HM.Zca kvs k=kvs:=by unfold HM.Zca; rw[h]
theorem Zqv{k:List Key}{kvs:List (List Key × List PyData)}(h:HM.Zf kvs k=none):HM.Zca kvs k=kvs++[(k,[])]:=by unfold HM.Zca; rw[h]
theorem Zq7(hu:X.A.units+1<cLine)(i:Nat){x:Str}{p0 p1 p2 p3 p4 p5:Pos}(hk:XE X b fb)(ha:XE X a fa)(m:M2 X (.Name x p0) "setdefault" p1 b (.List [] p2) p3)(hN:X.N[i]?=some x:=by rfl)(hv:Vis X.env.scope x:=by first | exact ZxA rfl | exact Zxg (ZxA rfl) | exact Zxg (Zxg rfl))(hd:(x==("__debug__":Str))=false:=by decide)(hcd:(x==("__classdict__":Str))=false:=by decide)
  (hbase:Zy0 (.Call (.Attribute (.Name x p0) "setdefault" p1) [b,.List [] p2] [] p3) "append" X.env (eval (.Call (.Attribute (.Name x p0) "setdefault" p1) [b,.List [] p2] [] p3) X.env)=eval (.Call (.Attribute (.Name x p0) "setdefault" p1) [b,.List [] p2] [] p3) X.env:=by rfl)
  (hfew:((backTo p5 (ZwP [a] X.env)).all (λx=>!x.1)&&(backToKw p5 (ZAc [] X.env)).all (λx=>x.1.isSome)&&decide (([a]:List Expr).length+([]:List Keyword).length+(if([]:List Keyword).isEmpty then 0 else 1)<30))=true:=by rfl)
  (hline:(p4.endLine==p5.line)=true:=by rfl) (hs:ZwP [a] X.env=[(false,eval a X.env)]:=by rfl):XS X (.Expr (.Call (.Attribute (.Call (.Attribute (.Name x p0) "setdefault" p1) [b,.List [] p2] [] p3) "append" p4) [a] [] p5) pos) (HM.Zna i fb fa):=by
 intro r o h;unfold HM.Zna at h;split at h
 ·rename_i y hy
  split at h
  ·rename_i kvs hb
   split at h
   ·rename_i k hk'
    split at h
    ·rename_i hzz
     split at h
     ·rename_i d hd'
      split at h
      ·rename_i ds hds
       split at h
       ·rename_i hz
        cases h;have hi:i<r.length:=(ZwQ.mp hb).1;have hb':(r.set i (some (.otl (HM.Zca kvs k))))[i]?=some (some (.otl (HM.Zca kvs k))):=Zxp hi;refine PS.imp (Zid (Zpr ZyY ZAE ZAF Zhy (Zuu hu (Zb9 hN hv hd hcd) (hk r y hy) (ZbW (X:=X) Zh (by simp) r (.ol []) rfl) m) (Z5 (ha _ d hd') Zbm hs) hbase hfew hline hs rfl)) λE σ H ⟨F0,H0,F,at_,kk⟩=>?_;have fin:∀{F3 H3:Hp} {l:Addr},At X.K F0 H0 F3 H3 (r.set i (some (.otl (HM.Zca kvs k)))) σ->(∃vs,SqL X.K H3 l vs)->(∀a' vvs',σ[i]?=some (some (.ref a'))->H3 a'=some (.dT vvs')->Zal vvs' k=some (.ref l)) ->
          tyV X.K "list" (.ref l) H3/\Now X.K (r.set i (some (.otl (HM.Zca kvs k)))) σ H3 λF0 H0 F=>∀v F' H',Ext F H3 F' H'->Rep X.K F' d v->Zos (.ref l) [v] H' λ_ H'=>E.nx σ H':=by
         intro F3 H3 l at3 hl hat;refine⟨.inl ⟨rfl,hl⟩,F0,H0,F3,at3,λv F4 H4 x4 r4=>?_⟩;obtain⟨aa',vvs',l',vs',g1,g2,g3,g4,g5,g6⟩:=(at3.grow x4).otlApp k hb' hds;obtain⟨aa2,vvs2,l2,vs2,f1,f2,f3,_⟩:=at3.otlApp k hb' hds;rw[f1]at g1;cases g1;rw[x4.hh _ _ f2]at g2;cases g2;rw[hat _ _ f1 f2]at g3;cases g3;have g7:=g6 d v r4;rw[ZzW]at g7;refine⟨_,vs',v,rfl,rfl,g4,?_,kk _ F4 _ g7⟩;rw[<-g5.1];exact Zgo hz
        obtain⟨fq,eb⟩:=at_;obtain⟨aa,vvs,ls,e1,e2,e3,e4⟩:=eb.otl hb;refine⟨.ref aa,e1,aa,rfl,.inr ⟨vvs,.inl e2⟩,F0,H0,F,⟨fq,eb⟩,λw F1 H1 x1 r1=>⟨F0,H0,F1,At.grow ⟨fq,eb⟩ x1,λv F2 H2 x2 ⟨fp,r2,nd,hn⟩=>?_⟩⟩;obtain⟨bb,rfl,hbb⟩:=Zcd hk' r1;have x12:=x1.trans x2;have hz0:vvs.length<sizeLine:=by rw[<-e3.len.2]; exact Zgo hzz
        refine⟨vvs,k,bb,x12.hh _ _ e2,rfl,x2.hh _ _ (x1.sub _ _ hbb),hz0,λu hu'=>?_,λhno=>?_⟩
        ·have hls:∃ds0,HM.Zf kvs k=some ds0:=by
          cases hq:HM.Zf kvs k with
          | some ds0=>exact⟨ds0,rfl⟩
          | none=>rw[(e3.look k).2 hq]at hu'; cases hu'
         obtain⟨ds0,hls⟩:=hls;have ead:=Zq0 hls;obtain⟨l0,vs0,q1,q2,q3,q4⟩:=(e3.look k).1 ds0 hls;rw[q1]at hu';cases hu';refine fin (F3:=F2) ?_ ⟨vs0,SqL.of (x12.hh _ _ q3)⟩ λa' vvs' z1 z2=>?_
         ·rw[ead]
          have:r.set i (some (.otl kvs))=r:=by obtain⟨h1,h2⟩:=ZwQ.mp hb;rw[<-h2];exact Zzb h1
          rw[this];exact At.grow ⟨fq,eb⟩ x12
         ·rw[e1]at z1
          cases z1;rw[x12.hh _ _ e2]at z2;cases z2;exact q1
        ·have hls:HM.Zf kvs k=none:=by
          cases hq:HM.Zf kvs k with
          | none=>rfl
          | some ds0=>obtain⟨l0,vs0,q1,_⟩:=(e3.look k).1 ds0 hq;rw[hno]at q1; cases q1
         have ead:=Zqv hls;cases r2 with
         | @ol l _ vs hl1 rs =>
          obtain rfl:vs=[]:=rs.nil_inv;have hHl:H l=none:=x1.hh.free (hn l (by simp)).2;obtain⟨aa2,vvs2,g1,g2,g3,g4,g5⟩:=eb.otlNew k x12 hb hl1 (hn l (by simp)).1 hHl;rw[e1]at g1;cases g1;rw[x12.hh _ _ e2]at g2;cases g2;have hne:l≠aa:=λz=>by rw[z,e2]at hHl; cases hHl
          refine fin (F3:=F2) (by rw[ead]; exact g5) ⟨[],SqL.of (by rw[Zx hne]; exact hl1)⟩ λa' vvs' z1 z2=>?_;rw[e1]at z1;cases z1;rw[Zz]at z2;cases z2;unfold Zal at hno ⊢;rw[Option.map_eq_none_iff]at hno;rw[ZzB,hno];simp
       ·cases h
      ·cases h
     ·cases h
    ·cases h
   ·cases h
  ·cases h
 ·cases h
end
end HP
namespace HP
open PySem PyProof.Rows
def ZdJ(xs:Array Nat):Prop:=xs.toList.Pairwise (· < ·)
theorem ZdJ.lt{xs:Array Nat}(h:ZdJ xs){i k:Nat}(hk:k<xs.size)(hik:i<k):xs.getD i 0<xs.getD k 0:=by have:=ZAx.mp h i k (by simpa using Zyu hik hk) (by simpa using hk) hik;simpa [Zyy,hk,Zyu hik hk]using this
theorem ZiM{xs:Array Nat}(h:ZdJ xs)(j:Nat):∀(fuel lo hi:Nat),lo<=hi->hi<=xs.size->hi-lo<=fuel->(∀i,i<lo->xs.getD i 0<j)->(∀i,hi<=i->i<xs.size->j<=xs.getD i 0) ->
  ZzC xs j fuel lo hi<=xs.size/\(∀i,i<ZzC xs j fuel lo hi->xs.getD i 0<j)/\∀i,ZzC xs j fuel lo hi<=i->i<xs.size->j<=xs.getD i 0
 | 0,lo,hi,h1,h2,h3,a,b=>by
  obtain rfl:lo=hi:=by omega
  exact⟨h2,a,b⟩
 | fuel+1,lo,hi,h1,h2,h3,a,b=>by
  unfold ZzC;split
  ·rename_i hlt
   have hm:(lo+hi) / 2<xs.size:=by omega
   have e:xs.getD ((lo+hi) / 2) j=xs.getD ((lo+hi) / 2) 0:=by simp[Zyy,hm]
   dsimp only;rw[e]
   by_cases q:xs.getD ((lo+hi) / 2) 0<j
   ·rw[if_pos q]
    refine ZiM h j fuel ((lo+hi) / 2+1) hi (by omega) h2 (by omega) (λi hi'=>?_) b
    by_cases c:i=(lo+hi) / 2
    ·rw[c]; exact q
    ·exact Zyu (h.lt hm (by omega)) q
   ·rw[if_neg q]
    refine ZiM h j fuel lo ((lo+hi) / 2) (by omega) (by omega) (by omega) a (λi hi' hs=>?_)
    by_cases c:i=(lo+hi) / 2
    ·rw[c]; omega
    ·have:=h.lt hs (show(lo+hi) / 2<i by omega); omega
  ·obtain rfl:lo=hi:=by omega
   exact⟨h2,a,b⟩
theorem ZeO{xs:Array Nat}(h:ZdJ xs)(j:Nat):ZwO xs j<=xs.size/\(∀i,i<ZwO xs j->xs.getD i 0<j)/\∀i,ZwO xs j<=i->i<xs.size->j<=xs.getD i 0 :=
 ZiM h j xs.size 0 xs.size (Zx3 _) (ZwM _) (by omega) (λi hi=>by omega) λi h1 h2=>by omega
theorem Zpp{xs:Array Nat}(h:ZdJ xs){i:Nat}(hi:i<xs.size):ZwO xs (xs.getD i 0+1)=i+1:=by
 obtain⟨a,b,c⟩:=ZeO h (xs.getD i 0+1);apply Nat.le_antisymm
 ·apply Zzg
  intro q;have h1:=b (i+1) q;have h2:=h.lt (show i+1<xs.size by omega) (ZyQ i);omega
 ·apply Zzg
  intro q;have h1:=c (ZwO xs (xs.getD i 0+1)) (ZwM _) (by omega)
  by_cases e:ZwO xs (xs.getD i 0+1)=i
  ·rw[e]at h1; omega
  ·have:=h.lt hi (show ZwO xs (xs.getD i 0+1)<i by omega); omega
theorem ZpF{xs:Array Nat}(h:ZdJ xs):ZwO xs 0=0:=by obtain⟨a,b,c⟩:=ZeO h 0;apply Nat.eq_zero_of_not_pos;intro q;have:=b 0 q;omega
theorem Ziz{xs:Array Nat}(h:ZdJ xs){j:Nat}(hn:xs[ZwO xs j]?≠some j):ZdJ (Zw4 xs (ZwO xs j) j):=by
 obtain⟨a,b,c⟩:=ZeO h j;unfold ZdJ;rw[Zzp];have gt:∀i,ZwO xs j<=i->i<xs.size->j<xs.getD i 0:=by
  intro i h1 h2
  by_cases e:ZwO xs j=i
  ·subst e
   have h3:=c _ h1 h2;have:xs.getD (ZwO xs j) 0≠j:=λq=>hn (by
    have z:xs[ZwO xs j]?=some (xs.getD (ZwO xs j) 0):=by simp[Zyy,h2]
    rw[z,q])
   omega
  ·have h3:=h.lt h2 (show ZwO xs j<i by omega)
   have h4:=c _ (ZwM _) (show ZwO xs j<xs.size by omega);omega
 rw[List.pairwise_append];refine⟨h.sublist (List.take_sublist ..),Zxn.mpr ⟨λx hx=>?_,h.sublist (List.drop_sublist ..)⟩,λx hx y hy=>?_⟩
 ·obtain⟨i,hi,rfl⟩:=Zz3 hx
  rw[Zzf,Zw5]at hi;rw[List.getElem_drop];have:=gt (ZwO xs j+i) (by omega) (by omega);simpa [Zyy,show ZwO xs j+i<xs.size by omega]using this
 ·obtain⟨i,hi,rfl⟩:=Zz3 hx
  rw[Zye,Zw5]at hi;rw[List.getElem_take];have h1:=b i (by omega);have h1':xs.toList[i]'(by simp; omega)<j:=by simpa [Zyy,show i<xs.size by omega]using h1
  rcases Zw0.mp hy with e | e
  ·rw[e]; exact h1'
  ·obtain⟨k,hk,rfl⟩:=Zz3 e
   rw[Zzf,Zw5]at hk;rw[List.getElem_drop];have h2:=gt (ZwO xs j+k) (by omega) (by omega);have h2':j<xs.toList[ZwO xs j+k]'(by simp; omega):=by simpa [Zyy,show ZwO xs j+k<xs.size by omega]using h2
   exact Zyu h1' h2'
theorem has_none(j:Nat):SetTable.has #[] j=false:=by simp[SetTable.has]
structure Tab(b:Bool)(t:SetTable):Prop where
 dum:t.dummies=#[]
 rise:ZdJ t.place
 led:t.led=b
 plain:t.plain=true
 low:∀j∈t.place.toList,j<8
 mask:t.mask=if t.place.size<=4 then 7 else 31
theorem Tab.fresh(b:Bool):Tab b (SetTable.fresh 0 0 b):=⟨rfl,.nil,rfl,rfl,λj hj=>by simp[SetTable.fresh]at hj,rfl⟩
theorem Tab.few{b:Bool}{t:SetTable}(h:Tab b t):t.place.size<=8:=by
 have key:∀(l:List Nat) (lo:Nat),l.Pairwise (· < ·)->(∀j∈l,lo<=j/\j<8)->l.length<=8-lo:=by
  intro l
  induction l with
  | nil=>intro lo _ _; simp
  | cons x l ih=>intro lo hp hb;have h1:=hb x (ZwI ..);have h2:=ih (x+1) (Zxn.mp hp).2 λy hy=>⟨(Zxn.mp hp).1 y hy,(hb y (ZwJ _ hy)).2⟩;rw[ZwS]; omega
 have:=key t.place.toList 0 h.rise λj hj=>⟨Zx3 _,h.low j hj⟩;simpa using this
theorem ZgI{b:Bool}{t:SetTable}(h:Tab b t){j:Nat}(hj:j ∉ t.place.toList):t.slot j=.empty/\t.place[ZwO t.place j]?≠some j:=by have q:t.place[ZwO t.place j]?≠some j:=λe=>hj (by rw[<-Zxu]at e;exact Zw9 e);unfold SetTable.slot;dsimp only;rw[if_neg (by simpa using q),h.dum,has_none,if_neg (by simp)];exact⟨rfl,q⟩
theorem Zu0{b:Bool}{t:SetTable}(h:Tab b t)(j:Nat):t.put j=({ t with place:=Zw4 t.place (ZwO t.place j) j },ZwO t.place j):=by
 unfold SetTable.put;dsimp only;rw[h.dum,has_none];cases t;have:=h.dum
 simp_all
theorem size_insert{α:Type}(xs:Array α)(p:Nat)(x:α):(Zw4 xs p x).size=xs.size+1:=by rw[<-Zw5,(Zyl xs p x).length_eq];simp
theorem Zuo{b:Bool}{t:SetTable}(h:Tab b t){es:Array (Int × Value)}(he:es.size=t.place.size){j:Nat}(h8:j<8)(hj:j ∉ t.place.toList)(v:Value) :
  layNew t es (j:Int) v=(Zw4 es (ZwO t.place j) ((j:Int),v),{ t with place:=Zw4 t.place (ZwO t.place j) j },false,false):=by
 obtain⟨e1,e2⟩:=ZgI h hj;have hfew:=h.few;have hm:t.mask=7\/t.mask=31:=by rw[h.mask]; split<;>simp
 have hbits:ZA8 (j:Int) % (t.mask+1)=j:=by
  have hb:ZA8 (j:Int)=j:=by unfold ZA8; omega
  rw[hb];rcases hm with e | e<;>rw[e]<;>omega
 have hfree:t.freeSlot (j:Int)=some (j,false):=by
  unfold SetTable.freeSlot SetTable.probe;have hf:10*ZAY t.mask=(10*ZAY t.mask-1)+1:=by unfold ZAY; omega
  rw[hf];unfold SetTable.probe.go;have hp:(t.probeStart (j:Int)).j=j:=hbits;rw[hp,e1];rfl
 have hle:t.place.size<=7:=by
  apply Zzg;intro q;have h8':t.place.size=8:=by omega
  have:=Zyc (l₁:=j::t.place.toList) (l₂:=ZwG 8) (Zxs.mpr ⟨hj,h.rise.imp λq=>Zw1 q⟩) (λx hx=>by
   rcases Zw0.mp hx with e | e
   ·rw[e]; exact ZwW.mpr h8
   ·exact ZwW.mpr (h.low x e))
  simp at this;omega
 have hfit:(ZzJ { t with place:=Zw4 t.place (ZwO t.place j) j } (Zw4 es (ZwO t.place j) ((j:Int),v)).size)=true:=by unfold ZzJ ZzK;simp only[size_insert,he,h.dum];simp;rw[h.mask];split<;>omega
 unfold layNew;rw[hfree];dsimp only;rw[Zu0 h];dsimp only;unfold SetTable.orStandIn;rw[hfit];rfl
theorem Tab.ins{b:Bool}{t:SetTable}(h:Tab b t){j:Nat}(h8:j<8)(hj:j ∉ t.place.toList)(hs:t.place.size≠4):Tab b { t with place:=Zw4 t.place (ZwO t.place j) j }:=by
 obtain⟨_,e2⟩:=ZgI h hj;refine⟨h.dum,Ziz h.rise e2,h.led,h.plain,λx hx=>?_,?_⟩
 ·have:=(Zyl t.place (ZwO t.place j) j).mem_iff.mp hx
  rw[ZyM]at this;rcases Zxc.mp this with q | q
  ·exact h.low x q
  ·rw[ZwT.mp q]; exact h8
 ·dsimp only
  rw[size_insert,h.mask];split<;>split<;>omega
def Zkh:List (List Nat):=(ZwG 8).flatMap λa=>(ZwG 8).flatMap λb=>(ZwG 8).flatMap λc=>(ZwG 8).flatMap λd=>(ZwG 8).filterMap λe=>if a<b/\b<c/\c<d/\d<e then some [a,b,c,d,e]else none
theorem Zn3{l:List Nat}(h:l.Pairwise (· < ·))(h8:∀j∈l,j<8)(h5:l.length=5):l∈Zkh:=by
 match l,h5 with
 | [a,b,c,d,e],_=>simp at h h8;unfold Zkh;simp only[ZyR,ZwW,ZxW];refine⟨a,by omega,b,by omega,c,by omega,d,by omega,e,by omega,?_⟩;rw[if_pos (by omega)]
theorem Zuw:∀l∈Zkh,(SetTable.layClean 31 (l.map λ(n:Nat)=>(n:Int)).toArray).map (λowner=>(ZwG 32).filterMap λj=>(owner.getD j none).map (j,·))=some (l.zip (ZwG 5)):=by decide +kernel
end HP
namespace HP
open PySem PyProof.Rows
def ZdL(e:Int × Value):Int:=match e.2 with
 | .int n _=>n
 | _=>0
section
variable(prog:Program)(w:World)
def ZmD(es:List (Int × Value)):Prop:=∀e∈es,∃n t,e=((intKind prog w).hash n,Zyp n t)
def ZcX(h:Heap)(a:Addr)(L:List Int):Prop:=∃o es ep t,h.get? a=some o/\o.ExactSet/\o.data=.set es ep t/\ZmD prog w es.toList/\(es.toList.map ZdL).Perm L/\es.toList.map ZdL=t.place.toList.map (λ(j:Nat)=>(j:Int))/\Tab (!w.params.followText "set-order") t
end
section
variable{prog:Program}{w:World}{A:Around}{E:Value->Shared->Prop}{s:Shared}{a:Addr}{L:List Int}
theorem ZmD.elems{es:List (Int × Value)}(h:ZmD prog w es):ElemsOf (intKind prog w) es:=λe he=>by obtain⟨n,t,rfl⟩:=h e he;exact⟨⟨n,ZAy _ _ _ _,rfl⟩,rfl⟩
theorem ZcX.at'{h h':Heap}(x:ZcX prog w h a L)(k:∀o,h.get? a=some o->h'.get? a=some o):ZcX prog w h' a L:=let ⟨o,es,ep,t,e,r⟩:=x; ⟨o,es,ep,t,k o e,r⟩
def stp(L:List Int)(n:Int):List Int:=if L.contains n then L else L++[n]
theorem ZqW{k n:Int}{t:Tok}:(intKind prog w).is k (.int n t)=true↔n=k:=by
 constructor
 ·intro h
  exact(intKind prog w).inj _ _ _ (ZAy _ _ _ _) h
 ·rintro rfl; exact ZAy _ _ _ _
theorem ZgX:∀(j:Nat),j<8->(intKind prog w).hash (j:Int)=(j:Int)
 | 0,_=>rfl
 | 1,_=>rfl
 | 2,_=>rfl
 | 3,_=>rfl
 | 4,_=>rfl
 | 5,_=>rfl
 | 6,_=>rfl
 | 7,_=>rfl
 | n+8,h=>by omega
theorem Tab.fits{b:Bool}{t:SetTable}(h:Tab b t):t.fits t.place.size=true:=by have hf:=h.few;unfold ZzJ ZzK;rw[h.dum,h.mask];simp;split<;>omega
theorem size_of{es:Array (Int × Value)}{t:SetTable}(h:es.toList.map ZdL=t.place.toList.map (λ(j:Nat)=>(j:Int))):es.size=t.place.size:=by have:=congrArg Zxl h;simpa using this
theorem Zjv{h:Heap}{o:Obj}{es es':Array (Int × Value)}{ep:Nat}{t t':SetTable}(ho:h.get? a=some o)(hex:o.ExactSet)(hd:o.data=.set es ep t)(hel:ZmD prog w es'.toList)(hp:(es'.toList.map ZdL).Perm L)
  (hs:es'.toList.map ZdL=t'.place.toList.map (λ(j:Nat)=>(j:Int))) (ht:Tab (!w.params.followText "set-order") t') :
  (h.update a (Zzv es' t')).get? a=some { o with data:=.set es' (ep+1) t' }/\ZcX prog w (h.update a (Zzv es' t')) a L:=by
 have hg:(h.update a (Zzv es' t')).get? a=some { o with data:=.set es' (ep+1) t' }:=by
  have:=ZxK (Zzv es' t') ho (by rw[putSet_of es' t' hd]; rfl)
  rwa [putSet_of es' t' hd]at this
 exact⟨hg,_,es',ep+1,t',hg,hex,rfl,hel,hp,hs,ht⟩
theorem Zrn{b:Bool}{t:SetTable}{es:Array (Int × Value)}(hr:ZdJ t.place)(h8:∀j∈t.place.toList,j<8)(h5:t.place.size=5)(he:es.map (·.1)=(t.place.toList.map (λ(j:Nat)=>(j:Int))).toArray)(hl:t.led=b)(hp:t.plain=true) :
  ∃t',relayAll t es 20=(es,t',false)/\t'.place=t.place/\Tab b t':=by
 have hc:=Zuw _ (Zn3 hr h8 (by simpa using h5));obtain⟨owner,o1,o2⟩:=ZwE.mp hc;have hsz:es.size=5:=by have:=congrArg Array.size he;simp at this;omega
 have hlen:t.place.toList.length=5:=by simpa using h5
 have z1:(t.place.toList.zip (ZwG 5)).map (·.1)=t.place.toList:=List.map_fst_zip (by rw[hlen]; simp);have z2:(t.place.toList.zip (ZwG 5)).map (·.2)=ZwG 5:=List.map_snd_zip (by rw[hlen]; simp);have hrl:t.relaid (es.map (·.1)) 20=some ({ mask:=31,place:=t.place,dummies:=#[],finger:=t.finger,led:=t.led,moves:=t.movedTo 31,plain:=t.plain },(ZwG 5).toArray):=by
  unfold SetTable.relaid SetTable.laid;have e31:SetTable.sizeAbove 20-1=31:=by decide
  rw[e31,he,o1];show some _=some _;rw[o2,z1,z2]
 refine⟨{ mask:=31,place:=t.place,dummies:=#[],finger:=t.finger,led:=t.led,moves:=t.movedTo 31,plain:=t.plain },?_,rfl,⟨rfl,hr,hl,hp,h8,?_⟩⟩
 ·unfold relayAll
  rw[hrl];dsimp only;have ef:(ZwG 5).toArray.filterMap (λx=>es[x]?)=es:=by apply Array.toList_inj.mp;rw[Array.toList_filterMap];have:=filterMap_getElem?_range es;rw[hsz]at this;simpa using this
  rw[ef];have ec:coversAll (ZwG 5).toArray es.size=true:=by rw[hsz]; decide
  have et:ZzJ { mask:=31,place:=t.place,dummies:=#[],finger:=t.finger,led:=t.led,moves:=t.movedTo 31,plain:=t.plain } es.size=true:=by unfold ZzJ ZzK;simp[h5,hsz]
  rw[ec,et];rfl
 ·dsimp only
  rw[h5];rfl
theorem Zrx{j:Nat}{tk:Tok}{Q:Bool->Shared->Prop}(h8:j<8)(hX:ZcX prog w s.heap a L)
  (h:∀b h',Zyt a s.heap h'->ZcX prog w h' a (stp L j)->Q b { s with heap:=h' }) :
  wpAny (model prog w) A (setAddHashed a (.int j tk) ((intKind prog w).hash j)) Q E s:=by
 obtain⟨o,es,ep,t,ho,hex,hd,hen,hpm,hpl,ht⟩:=hX;have hel:=hen.elems;have hsc:(Zyp (j:Int) tk).scannable=true:=rfl;have hkey:(intKind prog w).is (j:Int) (.int j tk)=true:=ZAy _ _ _ _;have hsz:=size_of hpl;have hfew:=ht.few;have hf:t.fits es.size=true:=by rw[hsz]; exact ht.fits
 have hsb:scanBound=4096:=rfl;have hb:es.size<scanBound:=by omega
 unfold setAddHashed setAddHashedIn;refine ZxM (ZwB (ZzD ho hd hf ?_));dsimp only;rw[byScan_of hsc hb hel];simp only[↓reduceIte];unfold setAddByScan;refine ZwB (ZwB (wpAny_rule (ZwB (wpAny_setScan_of hkey ho hd hf hel ?_))));cases hr:List.findIdx? (λe=>(intKind prog w).is (j:Int) e.2) es.toList with
 | some i =>
  dsimp only;obtain⟨hi,hpi,_⟩:=List.findIdx?_eq_some_iff_getElem.mp hr;have hmem:(j:Int)∈L:=by refine hpm.mem_iff.mp (ZwN.mpr ⟨es.toList[i],ZxY hi,?_⟩);obtain⟨m,u,e⟩:=hen _ (ZxY hi);rw[e]at hpi ⊢;exact ZqW.mp hpi
  refine ZwF (ZwF ?_);have e:s={ s with heap:=s.heap }:=by cases s; rfl
  have q:=h false s.heap (ZBk a s.heap) ⟨o,es,ep,t,ho,hex,hd,hen,by unfold stp; rw[if_pos (by simpa using hmem)]; exact hpm,hpl,ht⟩;rw[e];exact q
 | none =>
  dsimp only;have hne:∀e∈es.toList,ZdL e≠(j:Int):=λe he hv=>by obtain⟨m,u,e1⟩:=hen e he;have no:=List.findIdx?_eq_none_iff.mp hr e he;rw[e1]at no hv;have yes:(intKind prog w).is (j:Int) (.int m u)=true:=ZqW.mpr hv;exact absurd (yes.symm.trans no) (by simp)
  have hnm:(j:Int) ∉ L:=λhm=>by obtain⟨e,he,hv⟩:=ZwN.mp (hpm.mem_iff.mpr hm);exact hne e he hv
  have hj:j ∉ t.place.toList:=λhm=>by
   have:(j:Int)∈es.toList.map ZdL:=by rw[hpl]; exact ZwN.mpr ⟨j,hm,rfl⟩
   obtain⟨e,he,hv⟩:=ZwN.mp this;exact hne e he hv
  obtain⟨mk,pl,dm,fg,ld,mv,pn⟩:=t;obtain rfl:pn=true:=ht.plain;obtain rfl:dm=#[]:=ht.dum;rw[ZgX j h8,Zuo ht hsz h8 hj];dsimp only;obtain⟨_,hnj⟩:=ZgI ht hj;obtain⟨hle,_,_⟩:=ZeO ht.rise j;have hen1:ZmD prog w (Zw4 es (ZwO pl j) ((j:Int),Zyp j tk)).toList:=λe he=>by
   have:=(Zyl _ _ _).mem_iff.mp he;rw[ZyM]at this;rcases Zxc.mp this with q | q
   ·exact hen e q
   ·exact⟨j,tk,by rw[ZgX j h8]; exact ZwT.mp q⟩
  have hpm1:((Zw4 es (ZwO pl j) ((j:Int),Zyp j tk)).toList.map ZdL).Perm (stp L j):=by unfold stp;rw[if_neg (by simpa using hnm)];refine((Zyl _ _ _).map ZdL).trans ?_;rw[ZyM,Zxd];exact hpm.append_right _
  have hpl1:(Zw4 es (ZwO pl j) ((j:Int),Zyp j tk)).toList.map ZdL=(Zw4 pl (ZwO pl j) j).toList.map (λ(j:Nat)=>(j:Int)):=by rw[Zzp,Zzp,Zxd,Zxd,ZwL,ZwL,List.map_take,List.map_take,List.map_drop,List.map_drop,hpl];rfl
  have hs1:(Zw4 es (ZwO pl j) ((j:Int),Zyp j tk)).size=es.size+1:=size_insert _ _ _;generalize hE:Zw4 es (ZwO pl j) ((j:Int),Zyp j tk)=es1 at hen1 hpm1 hpl1 hs1 ⊢;have hz1:es1.size<=sizeLine:=by rw[ZxU]; omega
  refine ZwB (ZwF ?_);simp only[↓reduceIte];refine ZwB ?_;rw[hashByValue_scannable 8 hsc];refine ZwF ?_;rw[show plainKind (Zyp (j:Int) tk)=true from rfl];simp only[↓reduceIte];show wpAny (model prog w) A (do
    storeSet a es1 (⟨mk,Zw4 pl (ZwO pl j) j,#[],fg,ld,mv,true⟩:SetTable)
    if(!false&&Zzh (⟨mk,Zw4 pl (ZwO pl j) j,#[],fg,ld,mv,true⟩:SetTable))=true then _ else _) _ E s
  refine ZwB (wpAny_storeSet_of ho hd ?_ hz1);have hsb1:=ZxH s.heap a (Zzv es1 (⟨mk,Zw4 pl (ZwO pl j) j,#[],fg,ld,mv,true⟩:SetTable))
  by_cases h4:pl.size=4
  ·have hm:mk=7:=by have q:=ht.mask; dsimp only at q; rw[h4]at q; exact q
   have htf:Zzh (⟨mk,Zw4 pl (ZwO pl j) j,#[],fg,ld,mv,true⟩:SetTable)=true:=by unfold Zzh ZzK;simp[size_insert,h4,ht.dum,hm]
   have hg:(s.heap.update a (Zzv es1 (⟨mk,Zw4 pl (ZwO pl j) j,#[],fg,ld,mv,true⟩:SetTable))).get? a=some { o with data:=.set es1 (ep+1) (⟨mk,Zw4 pl (ZwO pl j) j,#[],fg,ld,mv,true⟩:SetTable) }:=by
    have:=ZxK (Zzv es1 (⟨mk,Zw4 pl (ZwO pl j) j,#[],fg,ld,mv,true⟩:SetTable)) ho (by rw[putSet_of _ _ hd]; rfl)
    rwa [putSet_of _ _ hd]at this
   have hh:es1.map (·.1)=((Zw4 pl (ZwO pl j) j).toList.map (λ(j:Nat)=>(j:Int))).toArray:=by
    apply Array.toList_inj.mp;rw[Array.toList_map,<-hpl1];refine ZxI λe he=>?_;obtain⟨m,u,e1⟩:=hen1 e he;have hm:m∈es1.toList.map ZdL:=ZwN.mpr ⟨e,he,by rw[e1]; rfl⟩;rw[hpl1]at hm;obtain⟨k,hk,rfl⟩:=ZwN.mp hm;have hk8:k<8:=by
     have:=(Zyl _ _ _).mem_iff.mp hk;rw[ZyM]at this;rcases Zxc.mp this with q | q
     ·exact ht.low k q
     ·rw[ZwT.mp q]; exact h8
    rw[e1];exact ZgX (prog:=prog) (w:=w) k hk8
   obtain⟨t',r1,r2,r3⟩:=Zrn (b:=!w.params.followText "set-order") (t:=(⟨mk,Zw4 pl (ZwO pl j) j,#[],fg,ld,mv,true⟩:SetTable)) (es:=es1) (Ziz ht.rise hnj)
    (λk hk=>by
     have:=(Zyl _ _ _).mem_iff.mp hk;rw[ZyM]at this;rcases Zxc.mp this with q | q
     ·exact ht.low k q
     ·rw[ZwT.mp q]; exact h8) (by dsimp only; rw[size_insert,h4]) hh ht.led ht.plain
   have hgr:SetTable.grown es1.size=20:=by rw[hs1,hsz,h4]; rfl
   rw[htf];simp only[Bool.not_false,Bool.and_self,↓reduceIte];rw[hgr,r1];dsimp only;refine ZwB (ZwF (ZwB (wpAny_storeSet_of hg rfl ?_ hz1)));obtain⟨_,hS2⟩:=Zjv (prog:=prog) (t':=t') hg hex rfl hen1 hpm1 (by rw[r2]; exact hpl1) r3;exact ZwF (ZwF (h true _ (hsb1.trans (ZxH _ a _)) hS2))
  ·have htf:Zzh (⟨mk,Zw4 pl (ZwO pl j) j,#[],fg,ld,mv,true⟩:SetTable)=false:=by
    unfold Zzh ZzK;have q:=ht.mask;dsimp only at q;simp only[size_insert];rw[q];simp;have:=hfew;dsimp only at this;split<;>omega
   rw[htf];simp only[Bool.and_false,Zyr,↓reduceIte];obtain⟨_,hS1⟩:=Zjv (prog:=prog) (t':=(⟨mk,Zw4 pl (ZwO pl j) j,#[],fg,ld,mv,true⟩:SetTable)) ho hex hd hen1 hpm1 hpl1 (ht.ins h8 hj h4);exact ZwF (ZwF (h true _ hsb1 hS1))
end
section
variable{prog:Program}{w:World}{A:Around}{E:Value->Shared->Prop}{s:Shared}
abbrev Zcu(w:World):Obj:={ cls:=.type "set",dict:=none,data:=.set #[] 0 (.fresh 0 0 (!w.params.followText "set-order")) }
theorem Zlk(v:Value){Q₁:Value->Shared->Prop}(h:Q₁ (.ref s.heap.objs.size) { s with heap:=s.heap.push (Zcu w) }) :
  codeAny (model prog w) A (.call (.builtin "set.__new__") ⟨[.type "set",v],[]⟩) (wants Q₁ E) s:=by
 refine codeAny_of_tree ?_;show wpAny _ A.in1 (do checkBuiltinCall "set.__new__" ⟨[.type "set",v],[]⟩; again (.builtin "set.__new__" ⟨[.type "set",v],[]⟩)) _ _ s;refine ZwB (ZAT (PySem.F.newCall_set_1 v) (ZwF ⟨ZyJ ZAZ _,ZxV PySem.F.entry_set_new ?_⟩));rw[ZxG ZAZ _];unfold Builtin.«set.__new__» Builtin.Frozenset.newClass;have hsub:=sub_set_self;obtain⟨hp,g,d,tk,os⟩:=s;dsimp only
 wp_walk
 refine Zzi (ZwF ?_);dsimp only;simp only[newObj];exact ZwB (wpAny_alloc (ZwF (ZwF h)))
theorem ZrO(h:Heap):ZcX prog w (h.push (Zcu w)) h.objs.size [] :=
 ⟨_,#[],0,_,ZwX _ rfl,⟨rfl,rfl,rfl⟩,rfl,λe he=>by simp at he,.nil,rfl,Tab.fresh _⟩
theorem ZgK:∀(l acc:List Int) (x:Int),HM.dedup acc (l++[x])=stp (HM.dedup acc l) x
 | [],acc,x=>by show HM.dedup acc [x]=stp acc x;unfold HM.dedup stp;split<;>rfl
 | y::l,acc,x=>by
  show HM.dedup acc (y::(l++[x]))=_;unfold HM.dedup;split
  ·exact ZgK l acc x
  ·exact ZgK l _ x
variable{R:Result->Shared->Prop}{I:Addr}{fp wr:List Addr}{G:Array GenState->Array GenState->Prop}{P:Nat->Value->Prop}{St:Nat->Shared->Prop}
theorem ZqJ{ns:List Int}(W:WalksS prog w A.in1 I fp wr G ns.length P St)(S:Addr)(hSf:S ∉ fp)(hval:∀i v,P i v->∃t,v=.int (ns.getD i 0) t)(hb:∀n∈ns,0<=n/\n<8) :
  ∀(k i:Nat) (s:Shared),ns.length-i=k->i<=ns.length->St i s->ZcX prog w s.heap S (HM.dedup [] (ns.take i)) ->
   (∀s',Moved (S::wr) G s s'->ZcX prog w s'.heap S (HM.dedup [] ns)->R (.ok (.ret .none)) s') ->
   codeAny (model prog w) A (.builtin "set.update.loop" ⟨[.ref S,.ref I],[]⟩) R s:=by
 have hSw:S ∉ wr:=λh=>hSf (W.sub _ h);have hsub:∀b∈wr,b∈S::wr:=λb hb=>ZwJ _ hb;intro k
 induction k with
 | zero =>
  intro i s hk hi hst hS hR;obtain rfl:i=ns.length:=by omega
  rw[List.take_length]at hS;refine ZxV F.entry_set_update_loop ?_;rw[ZxG F.plain_set_update_loop _];show wpAny _ A.in1 (pyNext (.ref I) >>= _) _ _ s;refine ZwB (W.done s _ _ hst λs' hm=>?_);show wpAny _ A.in1 (ret ZxD) _ _ s';exact ZwF (hR s' (hm.mono hsub) (hS.at' λo e=>hm.heap S o hSw e))
 | succ k ih =>
  intro i s hk hi hst hS hR;have hlt:i<ns.length:=by omega
  refine ZxV F.entry_set_update_loop ?_;rw[ZxG F.plain_set_update_loop _];show wpAny _ A.in1 (pyNext (.ref I) >>= _) _ _ s;refine ZwB (W.item i s _ _ hlt hst λv s' hP hst' hm=>?_);obtain⟨t,rfl⟩:=hval i v hP;have hS':=hS.at' (h':=s'.heap) λo e=>hm.heap S o hSw e;show wpAny _ A.in1 (holding [Zyp (ns.getD i 0) t] (setAdd S (.int (ns.getD i 0) t)) >>= _) _ _ s';refine ZwB (ZxM ?_);unfold setAdd;refine ZxM (ZwB ((intKind prog w).pyHash (k:=ns.getD i 0) (ZAy _ _ _ _) ?_));have hbi:=hb (ns.getD i 0) (by rw[Zx9,ZwR hlt]; exact ZxY hlt);obtain⟨j,ej⟩:∃j:Nat,ns.getD i 0=(j:Int):=⟨(ns.getD i 0).toNat,by omega⟩;have e:stp (HM.dedup [] (ns.take i)) (ns.getD i 0)=HM.dedup [] (ns.take (i+1)):=by rw[<-ZgK,List.take_succ,Zx9];simp[hlt]
  rw[ej]at e hbi ⊢;refine Zrx (s:={ s' with toks:=s'.toks+1 }) (by omega) hS' λb h' hsb hS2=>?_;rw[e]at hS2;refine ZwF ⟨ZyJ F.plain_set_update_loop _,ih (i+1) _ (by omega) hlt (W.frame _ s' _ _ hst' (Nat.le_succ _) λb hb o e=>?_) hS2 λs'' hm'' hS''=>?_⟩
  ·rw[hsb.2 b (λh:b=S=>hSf (by rw[<-h]; exact hb))]; exact e
  ·refine hR s'' (Moved.trans W.gtrans ((hm.mono hsub).then_heap (Nat.le_succ _) λb o hb e=>?_) hm'') hS''
   rw[hsb.2 b (λh:b=S=>hb (by rw[h]; exact ZwI))]; exact e
set_option maxHeartbeats 3200000 in
theorem Zqb{l:Addr}{items:Array Value}{ns:List Int}{Q:Value->Shared->Prop}(hh:A.handled=none)(hl:s.heap.IsList l items)(hi:IntsAre items.toList ns)(hb:∀n∈ns,0<=n/\n<8)
  (h:∀(h':Heap) (tk:Nat),ZcX prog w h' s.heap.objs.size (HM.dedup [] ns)->(∀b o,b<s.heap.objs.size->s.heap.get? b=some o->h'.get? b=some o)->Q (.ref s.heap.objs.size) { s with heap:=h',toks:=tk }) :
  wpAny (model prog w) A (call (.type "set") [.ref l]) Q E s:=by
 have hsz:items.size=ns.length:=by rw[<-hi.length,Zw5]
 obtain⟨c,tl,hmro⟩:=Zyf.mro;have hmade:=Zyf.made;have hsub:=Zyf.sub;refine wpAny_call (codeAny_of_tree ?_);show wpAny _ _ (callAny (.type "set") _) _ _ _;refine ZwF ⟨Code.quiet_builtin _ (by decide +kernel),ZxV PySem.F.entry_type_call ?_⟩;rw[Around.under_plain (weight_type_call_type "set" [.ref l] []) rfl];have h1:=Zyf.notType;have h2:=Zyf.canCreate;have hct:=PySem.F.typeCall_set_1 (.ref l)
 repeat (any_goals (first | assumption | wp_step))
 refine ZyA (Zlk (.ref l) (E:=E) (Q₁:=λobj s₁=>obj=.ref s.heap.objs.size/\s₁={ s with heap:=s.heap.push (Zcu w) }) ⟨rfl,rfl⟩) λr s₁ hr=>?_;cases r with
 | error e=>exact hr
 | ok fl =>
  cases fl with
  | ret obj =>
   obtain⟨rfl,rfl⟩:=hr;have hX:=ZrO (prog:=prog) (w:=w) s.heap;have hS:(s.heap.push (Zcu w)).get? s.heap.objs.size=some (Zcu w):=ZwX _ rfl;have hT:Shared.TypeIs { s with heap:=s.heap.push (Zcu w) } (.ref s.heap.objs.size) "set":=⟨_,hS,rfl⟩;have hli:=Zyf.init.lookup;have hbi:=Zyf.init.bind (.ref s.heap.objs.size)
   repeat (any_goals (first | assumption | wp_step))
   refine ZyA (codeAny_call_builtin (R:=wants (λr s₂=>r=.none/\∃h' tk,s₂={ s with heap:=h',toks:=tk }/\ZcX prog w h' s.heap.objs.size (HM.dedup [] ns) /\
     (∀b o,b<s.heap.objs.size->s.heap.get? b=some o->h'.get? b=some o)) E) Zyf.init.plain PySem.F.entry_set_init (check_set_init_1 hT ?_)) λr₂ s₂ hr₂=>?_
   ·obtain⟨⟨ocls,odict,odata,oslots⟩,hol,hcl,nl,hdl⟩:=hl
    simp only at hcl hdl;subst hcl; subst hdl;have hol':(s.heap.push (Zcu w)).get? l=some { cls:=.type "list",dict:=odict,data:=.seq items nl,slots:=oslots }:=ZwH _ hol;have hsls:=PySem.F.sub_list_set;have hslf:=PySem.F.sub_list_frozenset;have hne:(Zzr "list" == Zzr "dict")=false:=by decide
    have hl1:(s.heap.push (Zcu w)).IsList l items:=⟨_,hol',rfl,nl,rfl⟩;unfold Builtin.«set.__init__» noKeywords Builtin.Frozenset.updateFrom;generalize hPI:pyIter=PI
    wp_walk
    subst hPI;refine ZAq hl1 (ZwB (wpAny_runValue ?_));have hlS:l<s.heap.objs.size:=ZwU hol;have hh3:A.in1.in1.in1.handled=none:=by simp[hh]
    have hneI:l≠(s.heap.push (Zcu w)).objs.size:=by rw[Zzc]; exact Zw1 (Zy9 hlS)
    have hSf:s.heap.objs.size ∉ [(s.heap.push (Zcu w)).objs.size,l]:=by rw[Zzc]; simp only[Zw0,ZwT,List.not_mem_nil,or_false,not_or];exact⟨Zw1 (ZyQ _),Zzo hlS⟩
    have Wl:=(Walks.list (prog:=prog) (w:=w) hh3 _ l hneI items).toS;rw[hsz]at Wl;refine ZqJ Wl s.heap.objs.size hSf (λi v hv=>IntsAre.int_at hi i v (by rw[Zxu]; exact hv)) hb (ns.length-0) 0 _ (by omega) (Zx3 _)
     ⟨⟨_,ZwX _ rfl,rfl,rfl⟩,hl1.push _⟩ (hX.at' λo e=>ZwH _ e) λs' hm hS'=>?_
    obtain⟨h',g',d',tk',os'⟩:=s';have eg:g'=s.gens:=hm.gens;have ed:d'=s.drawn:=hm.drawn;have eo:os'=s.os:=hm.os;subst eg; subst ed; subst eo
    show wpAny _ _ _ _ _ _;refine ZwF ?_;show wpAny _ _ (ret ZxD) _ _ _;refine ZwF ⟨rfl,h',tk',rfl,hS',λb o hb e=>?_⟩;refine hm.heap b o ?_ (ZwH _ (ZwH _ e));simp only[Zw0,ZwT,List.not_mem_nil,or_false,not_or];exact⟨Zw1 hb,by rw[Zzc]; exact Zw1 (Zy9 hb)⟩
   ·cases r₂ with
    | error e=>exact hr₂
    | ok fl₂ =>
     cases fl₂ with
     | ret r =>
      obtain⟨rfl,h',tk,rfl,hS',hk'⟩:=hr₂
      repeat (any_goals (first | assumption | wp_step))
      exact h _ _ hS' hk'
     | _=>exact hr₂.elim
  | _=>exact hr.elim
end
end HP
namespace HP
open PySem PyProof.Rows
theorem Zb7:Slot "set_iterator" "__next__" "set_iterator.__next__" :=
 .of (owner:="set_iterator") (n:="__next__") (by rw[typeLookup_type,builtinLookup_eq_fast]; kernel_rfl) (by decide +kernel) (by decide +kernel) (by decide +kernel)
  (by first | exact .inl (by decide +kernel) | exact .inr (by decide +kernel)) (by rw[isSubtype_type]; kernel_rfl)
theorem Zg6:entryFor table "set_iterator.__next__" = some Builtin.«set_iterator.__next__»:=entryFor_of_tree (by kernel_rfl)
theorem ZhG:Slot "set_iterator" "__iter__" "set_iterator.__iter__" :=
 .of (owner:="set_iterator") (n:="__iter__") (by rw[typeLookup_type,builtinLookup_eq_fast]; kernel_rfl) (by decide +kernel) (by decide +kernel) (by decide +kernel)
  (by first | exact .inl (by decide +kernel) | exact .inr (by decide +kernel)) (by rw[isSubtype_type]; kernel_rfl)
theorem Zlg:entryFor table "set_iterator.__iter__" = some Builtin.«dict_keyiterator.__iter__» :=
 entryFor_alias (id':="dict_keyiterator.__iter__") (by kernel_rfl) rfl (by decide +kernel) (by kernel_rfl)
theorem Zjh:entryFor table "set.__iter__" = some Builtin.«frozenset.__iter__» :=
 entryFor_alias (id':="frozenset.__iter__") (by kernel_rfl) rfl (by decide +kernel) (by kernel_rfl)
theorem Zmk:Manifest.owners.lookup (String.ofList ['r','o','t','a','r','e','t','i','_','t','e','s'].reverse)=some Manifest.sig_set_iterator:=by kernel_rfl
theorem ZhO(a:Value):argsOk "set_iterator.__next__" ⟨[a],[]⟩:=by unfold argsOk; rw[signature?_of (id:="set_iterator.__next__") (n:=['_','_','t','x','e','n','_','_']) (o:=['r','o','t','a','r','e','t','i','_','t','e','s']) (by kernel_rfl) Zmk]; kernel_rfl
theorem Zm1(a:Value):argsOk "set_iterator.__iter__" ⟨[a],[]⟩:=by unfold argsOk; rw[signature?_of (id:="set_iterator.__iter__") (n:=['_','_','r','e','t','i','_','_']) (o:=['r','o','t','a','r','e','t','i','_','t','e','s']) (by kernel_rfl) Zmk]; kernel_rfl
theorem Zji{α:Type}:∀(l:List α) (i:Nat) (h:i<l.length),(l[i]::l.eraseIdx i).Perm l
 | x::l,0,_=>.refl _
 | x::l,i+1,h=>by
  have h':i<l.length:=by simpa using h
  show(l[i]::x::l.eraseIdx i).Perm (x::l);exact(List.Perm.swap x l[i] _).trans ((Zji l i h').cons x)
theorem ZkP{α:Type}(next:Nat->Nat):∀(n k:Nat) (left:List α) (out:Array α),left.length=n->(ZAM.go next n k left out).toList.Perm (out.toList++left)
 | 0,k,left,out,h=>by rw[Zy6 h,Zxe];exact .refl _
 | n+1,k,left,out,h=>by
  have hl:next k % left.length<left.length:=Nat.mod_lt _ (by omega)
  unfold ZAM.go;rw[ZwR hl];dsimp only;refine(ZkP next n (k+1) _ _ (by rw[List.length_eraseIdx_of_lt hl]; omega)).trans ?_
  rw[ZyM,Zyi];refine List.Perm.append_left _ ?_;exact Zji left _ hl
theorem Zkg{α:Type}(next:Nat->Nat)(xs:Array α):(ZAM next xs).toList.Perm xs.toList:=by
 have:=ZkP next xs.size 0 xs.toList #[] (by simp)
 simpa [ZAM]using this
end HP
namespace HP
open PySem PyProof.Rows
structure ZdM(w:World)(h:Heap)(a:Addr)(es:Array (Int × Value))(ep:Nat)(t:SetTable):Prop where
 obj:∃o,h.get? a=some o/\o.ExactSet/\o.data=.set es ep t
 fit:t.fits es.size=true
 siz:es.size=t.place.size
 tab:Tab (!w.params.followText "set-order") t
theorem ZdM.at'{w:World}{h h':Heap}{a:Addr}{es:Array (Int × Value)}{ep:Nat}{t:SetTable}(x:ZdM w h a es ep t)(k:∀o,h.get? a=some o->h'.get? a=some o):ZdM w h' a es ep t :=
 ⟨let ⟨o,e,r⟩:=x.obj; ⟨o,k o e,r⟩,x.fit,x.siz,x.tab⟩
def Zc8(w:World)(a:Addr)(es:Array (Int × Value))(ep:Nat):Array (Int × Value):=if w.params.followText "set-order" then ZAM (w.params.setOrder a ep) es else es
theorem ZhC(w:World)(a:Addr)(es:Array (Int × Value))(ep:Nat):(Zc8 w a es ep).toList.Perm es.toList:=by
 unfold Zc8; split
 ·exact Zkg _ _
 ·exact .refl _
theorem Zht(w:World)(a:Addr)(es:Array (Int × Value))(ep:Nat):(Zc8 w a es ep).size=es.size:=by have:=(ZhC w a es ep).length_eq;simpa using this
def ZfX(h:Heap)(it a:Addr)(slot i n ep:Nat):Prop:=∃o,h.get? it=some o/\o.cls=.type "set_iterator"/\o.data=.fields #[.int slot 0,.int i 0,.ref a,.int n 0,.int ep 0]
theorem ZfX.typeIs{s:Shared}{it a:Addr}{slot i n ep:Nat}(x:ZfX s.heap it a slot i n ep):s.TypeIs (.ref it) "set_iterator":=let ⟨o,ho,hc,_⟩:=x; ⟨o,ho,hc⟩
theorem ZfX.at'{h h':Heap}{it a:Addr}{slot i n ep:Nat}(x:ZfX h it a slot i n ep)(k:∀o,h.get? it=some o->h'.get? it=some o):ZfX h' it a slot i n ep:=let ⟨o,e,r⟩:=x; ⟨o,k o e,r⟩
section
variable{prog:Program}{w:World}{A:Around}{E:Value->Shared->Prop}{s:Shared}{it a:Addr}{es:Array (Int × Value)}{ep:Nat}{t:SetTable}
theorem Zrc{Q:Value->Shared->Prop}(x:ZdM w s.heap a es ep t)
  (hQ:Q (.ref s.heap.objs.size) { s with heap:=s.heap.push { cls:=.type "set_iterator",data:=.fields #[.int 0 0,.int 0 0,.ref a,.int es.size 0,.int ep 0] } }) :
  wpAny (model prog w) A (pyIter (.ref a)) Q E s:=by
 obtain⟨o,ho,hex,hd⟩:=x.obj;have hT:s.TypeIs (.ref a) "set":=⟨o,ho,hex.1⟩;refine ZAr hT ZA0 (ZxZ ZA0 hT Zjh ?_ (PySem.F.args_set_iter_1 _));unfold Builtin.«frozenset.__iter__» Builtin.Frozenset.slot0 slotArgs Builtin.Frozenset.addrOf Builtin.Frozenset.sizeOf;refine ZwB (ZwB (ZwF (ZwF ?_)));dsimp only;refine ZwB (ZwB (Zz4 ho hd x.fit (ZwF ?_)));have hdr:∀{R:Bool->Shared->Prop} {A':Around} {E':Value->Shared->Prop},R false s->wpAny (model prog w) A' (setDrawn a) R E' s:=λ{R A' E'} hR=>by unfold setDrawn setsByText;refine ZwB (ZzD ho hd x.fit (ZwB (ZwB (Zzi (ZwF (ZwF ?_))))));obtain⟨mk,pl,dm,fg,ld,mv,pn⟩:=t;obtain rfl:pn=true:=x.tab.plain;show R (!_&&(!true&&_)) s;simpa using hR
 refine ZwB (hdr ?_);rw[if_neg (by simp)];refine ZwB (ZwF (ZwB (wpAny_setEpoch_of ho hd x.fit ?_)));show wpAny (model prog w) A.in1 (newFields "set_iterator" [rawInt 0,rawInt 0,Zxy a,rawInt (es.size:Int),rawInt (ep:Int)] >>= _) _ E s;refine ZwB (ZxB (ZwF ⟨_,rfl,"set_iterator",_,⟨_,ZwX _ rfl,rfl⟩,Zb7.lookup,?_⟩));simpa [rawInt]using hQ
theorem ZiG{slot i:Nat}{R:Option (Value × Nat)->Shared->Prop}(x:ZdM w s.heap a es ep t)(hs:w.params.followText "set-order" = false->ZwO t.place slot=i)
  (hR:R ((Zc8 w a es ep)[i]?.map λe=>(e.2,if w.params.followText "set-order" then slot else t.place.getD i 0+1)) s):wpAny (model prog w) A (setNext a slot i ep) R E s:=by
 obtain⟨o,ho,hex,hd⟩:=x.obj;unfold setNext setsByText;refine ZwB (ZzD ho hd x.fit ?_);dsimp only;refine ZwB (ZwB (Zzi (ZwF ?_)));dsimp only;cases hb:w.params.followText "set-order" with
 | true=>have hb':(model prog w).w.params.followText "set-order" = true:=hb;rw[hb',if_pos rfl];unfold Zc8 at hR;rw[hb,if_pos rfl]at hR;simp only[if_pos]at hR;refine ZyE (λq=>absurd q (by simp)) λ_=>?_;unfold setWalk setsByText;refine ZwB (ZwB (ZzD ho hd x.fit ?_));dsimp only;refine ZwB (ZwB (Zzi (ZwF ?_)));dsimp only;rw[hb',if_pos rfl];exact ZwB (Zzi (ZwF (ZwF hR)))
 | false =>
  have hb':(model prog w).w.params.followText "set-order" = false:=hb;rw[hb',if_neg (by simp)];unfold Zc8 at hR;rw[hb]at hR;simp only[Zyr,if_false]at hR;have hi:=hs hb;have hled:t.led=true:=by rw[x.tab.led,hb]; rfl
  have hsz:=x.siz;obtain⟨mk,pl,dm,fg,ld,mv,pn⟩:=t;obtain rfl:pn=true:=x.tab.plain;obtain rfl:ld=true:=hled;refine ZyE (λq=>absurd (show(!true&&_)=true from q) (by simp)) λ_=>?_;refine ZwB ?_;refine ZyE (λq=>absurd (show(!true&&_)=true from q) (by simp)) λ_=>?_;refine ZwF ?_;dsimp only at hi hsz ⊢;rw[hi];refine ZwF ?_
  by_cases hlt:i<es.size
  ·have h1:es[i]?=some es[i]:=ZyN hlt
   have h2:pl[i]?=some (pl.getD i 0):=by simp[Zyy,show i<pl.size by omega]
   rw[h1]at hR ⊢;rw[h2];exact hR
  ·have h1:es[i]?=none:=ZzH (by omega)
   rw[h1]at hR ⊢;exact hR
theorem Zsc{slot i:Nat}{e:Int × Value}{Q:Option Value->Shared->Prop}(hit:ZfX s.heap it a slot i es.size ep)(x:ZdM w s.heap a es ep t)(hs:w.params.followText "set-order" = false->ZwO t.place slot=i)(he:(Zc8 w a es ep)[i]?=some e)
  (hQ:∀h',ZfX h' it a (if w.params.followText "set-order" then slot else t.place.getD i 0+1) (i+1) es.size ep->Zyt it s.heap h'->Q (some e.2) { s with heap:=h' }) :
  wpAny (model prog w) A (pyNext (.ref it)) Q E s:=by
 obtain⟨o,ho,hc,hd⟩:=id hit;obtain⟨os,hos,hex,hds⟩:=x.obj;unfold pyNext;refine ZwB (ZAl (wpAny_callSpecial?_slot (name:=ZyS "__next__") hit.typeIs Zb7
  (ZxZ Zb7 hit.typeIs Zg6 ?_ (ZhO _))))
 unfold Builtin.«set_iterator.__next__» slotArgs;refine ZwB (ZwF ?_);dsimp only;refine ZwB (Zz9 ho hd ?_);dsimp only;refine ZwB (Zz4 hos hds x.fit ?_);refine ZyE (λq=>absurd q (by simp)) λ_=>?_;simp only[Zza];refine ZwB (ZiG x hs ?_);rw[he];dsimp only[Option.map_some];refine ZwB (Zzw ho hd (by simp) ?_);have g1:(s.heap.update it (ZA9 (·.setIfInBounds 0 (rawInt ((if w.params.followText "set-order" = true then slot else t.place.getD i 0+1:Nat):Int))))).get? it=some _:=ZxK _ ho (ZzR (Zyg hd _));refine ZwB (Zzw g1 (Zyg hd _) (by simp) ?_);refine ZwF ⟨_,rfl,ZwF (hQ _ ⟨_,ZxK _ g1 (ZzR (Zyg (Zyg hd _) _)),?_,?_⟩ ((ZxH ..).trans (ZxH ..)))⟩
 ·rw[ZAs,ZAs]; exact hc
 ·rw[Zyg (Zyg hd _)]; simp[rawInt]
theorem Zrq{slot i:Nat}{Q:Option Value->Shared->Prop}(hh:A.handled=none)(hit:ZfX s.heap it a slot i es.size ep)(x:ZdM w s.heap a es ep t)(hs:w.params.followText "set-order" = false->ZwO t.place slot=i)(he:es.size<=i)
  (hQ:∀h',Heap.ExtBut it s.heap h'->Q none { s with heap:=h' }):wpAny (model prog w) A (pyNext (.ref it)) Q E s:=by
 obtain⟨o,ho,hc,hd⟩:=id hit;obtain⟨os,hos,hex,hds⟩:=x.obj;have hn:(Zc8 w a es ep)[i]?=none:=ZzH (by rw[Zht]; exact he);unfold pyNext;refine ZwB (ZAl (wpAny_callSpecial?_slot (name:=ZyS "__next__") hit.typeIs Zb7
  (ZxZ Zb7 hit.typeIs Zg6 ?_ (ZhO _))))
 unfold Builtin.«set_iterator.__next__» slotArgs;refine ZwB (ZwF ?_);dsimp only;refine ZwB (Zz9 ho hd ?_);dsimp only;refine ZwB (Zz4 hos hds x.fit ?_);refine ZyE (λq=>absurd q (by simp)) λ_=>?_;simp only[Zza];refine ZwB (ZiG x hs ?_);rw[hn];dsimp only[Option.map_none];refine ZwB (Zzw ho hd (by simp) ?_);refine ZwB ?_;simp only[newExc,newTuple];refine ZwB (ZxB ?_ (by size_fits));refine ZwB (m:=ZAa _ _) (ZAT (a:=ZxD) (by first | rfl | (simp only[ZAa]; rfl)) ?_)
 refine ZxB ?_ (by size_fits);simp only[raiseNew];refine ZwB (wpAny_handled ?_);rw[show A.in1.handled=none from hh];refine ZwB (ZwF (wpAny_throw ?_));refine ZwB (ZAG (T:="StopIteration") (b:=true) ⟨_,ZwX _ rfl,rfl⟩ isSubtype_stop ?_);exact ZwF (hQ _ (((ZxH ..).extBut.push _).push _))
theorem Zrr{slot i n:Nat}{Q:Value->Shared->Prop}(hit:ZfX s.heap it a slot i n ep)(h:Q (.ref it) s):wpAny (model prog w) A (pyIter (.ref it)) Q E s:=by refine ZAr hit.typeIs ZhG (ZxZ ZhG hit.typeIs Zlg ?_ (Zm1 _));show wpAny _ _ (ret (.ref it)) _ _ s;exact ZwF ⟨_,rfl,"set_iterator",_,hit.typeIs,Zb7.lookup,h⟩
theorem Zqf(hh:A.handled=none)(I a:Addr)(hne:a≠I)(es:Array (Int × Value))(ep:Nat)(t:SetTable) :
  Walks prog w A I [I,a] [I] es.size (λi v=>∃e,(Zc8 w a es ep)[i]?=some e/\v=e.2) (λi h=>∃slot,ZfX h I a slot i es.size ep/\ZdM w h a es ep t/\(w.params.followText "set-order" = false->ZwO t.place slot=i)) where
 sub:=λb hb=>by simp at hb; simp[hb]
 frame:=λ_ _ _ ⟨slot,h1,h2,h3⟩ hk=>⟨slot,h1.at' λo e=>hk I (by simp) o e,h2.at' λo e=>hk a (by simp) o e,h3⟩
 item:=λi s Q E hi ⟨slot,h1,h2,h3⟩ hQ=>by
  have hlt:i<(Zc8 w a es ep).size:=by rw[Zht]; exact hi
  have hx:(Zc8 w a es ep)[i]?=some (Zc8 w a es ep)[i]:=ZyN hlt;refine Zsc h1 h2 h3 hx λh' hit' hs'=>?_;refine hQ _ h' s.toks ⟨_,hx,rfl⟩ ⟨_,hit',h2.at' λo e=>hs'.extBut a o hne e,λhb=>?_⟩ λb o hb e=>hs'.extBut b o (λh=>hb (by simp[h])) e;rw[hb];exact Zpp h2.tab.rise (by rw[<-h2.siz]; exact hi)
 done:=λs Q E ⟨slot,h1,h2,h3⟩ hQ=>Zrq hh h1 h2 h3 (ZwM _) λh' he'=>hQ h' s.toks λb o hb e=>he' b o (λh=>hb (by simp[h])) e
 self:=λ_ _ _ _ ⟨slot,h1,_⟩ hQ=>Zrr h1 hQ
end
end HP
namespace HP
open PySem PySem.W PyProof.Rows
section
variable{α β:Type}
def Zb8(o:Nat->Nat->Bool)(n:Nat):KasT α->(α->Prop)->Prop
 | .ret a,Q=>Q a
 | .ask i j k,Q=>i<n/\j<n/\Zb8 o n (k (o i j)) Q
theorem Zb8.bnd{o:Nat->Nat->Bool}{n:Nat}{f:α->KasT β}{Q:β->Prop}:∀(t:KasT α),Zb8 o n t (λa=>Zb8 o n (f a) Q)->Zb8 o n (t.bind f) Q
 | .ret a,h=>h
 | .ask i j k,h=>⟨h.1,h.2.1,Zb8.bnd (k (o i j)) h.2.2⟩
end
structure Pm(n:Nat)(p:Array Nat):Prop where
 pos:0<n
 perm:p.Perm (List.toArray (ZwG n))
theorem Pm.size{n:Nat}{p:Array Nat}(h:Pm n p):p.size=n:=by have:=h.perm.size_eq;simpa using this
theorem Pm.lt{n:Nat}{p:Array Nat}(h:Pm n p)(i:Nat):p.getD i 0<n:=by
 by_cases hi:i<p.size
 ·have e:p.getD i 0=p[i]:=by simp[Zyy,hi]
  rw[e];have:=(ZAm.mp h.perm).mem_iff (a:=p[i]);have h2:=this.mp (by simp);simpa using h2
 ·have e:p.getD i 0=0:=by simp[Zyy,hi]
  rw[e]; exact h.pos
theorem Pm.rev{n:Nat}{p:Array Nat}(h:Pm n p)(i j:Nat):Pm n (kas_rev p i j):=⟨h.pos,(mirror_perm _ _ _ _).trans h.perm⟩
theorem Pm.bub{n:Nat}{p:Array Nat}(h:Pm n p)(i j:Nat):Pm n (bubble p i j):=⟨h.pos,(bubble_perm _ _ _).trans h.perm⟩
theorem getD_eq?(p:Array Nat)(i:Nat):p.getD i 0=(p[i]?).getD 0:=by simp[Array.getD_eq_getD_getElem?]
section
variable(O:KeyOrd)(key:Nat->O.α)
def Ka(p:Array Nat)(i:Nat):O.α:=key (p.getD i 0)
def Up(p:Array Nat)(k:Nat):Prop:=∀i j,i<=j->j<k->O.kle (Ka O key p i) (Ka O key p j)
def Dn(p:Array Nat)(k:Nat):Prop:=∀i j,i<=j->j<k->O.kle (Ka O key p j) (Ka O key p i)
def Ev(p:Array Nat)(m q:Nat):Prop:=∀i,m-(q+1)<=i->i<m->Ka O key p i=Ka O key p (m-1)
abbrev orc:Nat->Nat->Bool:=λi j=>O.blt (key i) (key j)
variable{O key}{p:Array Nat}{n:Nat}
theorem ZmM{i j:Nat}(hj:j<=p.size)(k:Nat):Ka O key (kas_rev p i j) k=if i<=k/\k<j then Ka O key p (i+j-1-k)else Ka O key p k:=by unfold Ka kas_rev;rw[getD_eq?,getElem?_mirror_all hj];split<;>rw[<-getD_eq?]
theorem ZhA{i j:Nat}(hj:j<=p.size)(h:∀k,i<=k->k<j->Ka O key p k=Ka O key p (j-1))(k:Nat):Ka O key (kas_rev p i j) k=Ka O key p k:=by
 rw[ZmM hj];split
 ·rename_i hk
  rw[h _ (by omega) (by omega),h k hk.1 hk.2]
 ·rfl
theorem ZqO{s d:Nat}(hs:s<p.size)(hd:d<=s)(k:Nat):Ka O key (bubble p s d) k=if k=s-d then Ka O key p s else if s-d<k/\k<=s then Ka O key p (k-1)else Ka O key p k:=by
 unfold Ka;rw[getD_eq?,getElem?_bubble hs d hd]
 by_cases h1:k=s-d
 ·rw[if_pos h1,if_pos h1,<-getD_eq?]
 ·rw[if_neg h1,if_neg h1]
  by_cases h2:s-d<k/\k<=s
  ·rw[if_pos h2,if_pos h2,<-getD_eq?]
  ·rw[if_neg h2,if_neg h2,<-getD_eq?]
theorem Up.one:Up O key p 1:=λi j h1 h2=>by
 obtain rfl:i=j:=by omega
 exact Zy5 _
theorem Up.more{k:Nat}(h:Up O key p k)(hl:O.kle (Ka O key p (k-1)) (Ka O key p k)):Up O key p (k+1):=λi j h1 h2=>by
 by_cases hj:j<k
 ·exact h i j h1 hj
 obtain rfl:j=k:=by omega
 by_cases hi:i=j
 ·subst hi; exact Zy5 _
 ·exact ZzO (h i (j-1) (by omega) (by omega)) hl
theorem Dn.more{k:Nat}(h:Dn O key p k)(hl:O.kle (Ka O key p k) (Ka O key p (k-1))):Dn O key p (k+1):=λi j h1 h2=>by
 by_cases hj:j<k
 ·exact h i j h1 hj
 obtain rfl:j=k:=by omega
 by_cases hi:i=j
 ·subst hi; exact Zy5 _
 ·exact ZzO hl (h i (j-1) (by omega) (by omega))
theorem Dn.same{p':Array Nat}{k:Nat}(h:Dn O key p k)(e:∀i,Ka O key p' i=Ka O key p i):Dn O key p' k:=λi j h1 h2=>by rw[e,e]; exact h i j h1 h2
theorem ZiT(hp:Pm n p){Q:Nat->Prop}:∀(f m:Nat),Up O key p m->(∀m',m<=m'->m'<=m+f->Up O key p m'->(m'=m+f\/O.klt (Ka O key p m') (Ka O key p (m'-1)))->Q m')->Zb8 (orc O key) n (kas_asc p f m) Q
 | 0,m,hu,hq=>hq m (ZwM _) (by omega) hu (.inl rfl)
 | f+1,m,hu,hq=>by
  refine⟨hp.lt _,hp.lt _,?_⟩;dsimp only;split
  ·rename_i h
   exact hq m (ZwM _) (by omega) hu (.inr h)
  ·rename_i h
   refine ZiT hp f (m+1) (hu.more (ZyF h)) λm' h1 h2 h3 h4=>hq m' (by omega) (by omega) h3 (h4.imp (λe=>by omega) id)
theorem ZfB{Q:Array Nat × Nat × Nat->Prop}:∀(f:Nat) (p:Array Nat) (m q:Nat),Pm n p->Dn O key p m->q+1<=m->Ev O key p m q->m+f<=n ->
  (∀p' m' q',Pm n p'->m<=m'->m'<=m+f->Dn O key p' m'->q'+1<=m'->Ev O key p' m' q'->Q (p',m',q'))->Zb8 (orc O key) n (kas_desc f p m q) Q
 | 0,p,m,q,hp,hd,h1,he,hn,hq=>hq p m q hp (ZwM _) (by omega) hd h1 he
 | f+1,p,m,q,hp,hd,h1,he,hn,hq=>by
  have hz:m<=p.size:=by rw[hp.size]; omega
  have e0:∀p',Ev O key p' (m+1) 0:=λp' i h1 h2=>by congr 1; omega
  refine⟨hp.lt _,hp.lt _,?_⟩;dsimp only;split
  ·rename_i h
   have hd':=hd.more (ZzE h);split
   ·exact ZfB f _ (m+1) 0 (hp.rev _ _) (hd'.same (ZhA hz he)) (by omega) (e0 _) (by omega) λp' m' q' a b c d e g=>hq p' m' q' a (by omega) (by omega) d e g
   ·exact ZfB f _ (m+1) 0 hp hd' (by omega) (e0 _) (by omega) λp' m' q' a b c d e g=>hq p' m' q' a (by omega) (by omega) d e g
  ·rename_i h
   refine⟨hp.lt _,hp.lt _,?_⟩;dsimp only;split
   ·exact hq p m q hp (ZwM _) (by omega) hd h1 he
   ·rename_i h'
    have l1:=ZyF h;have l2:=ZyF h';have ee:Ka O key p m=Ka O key p (m-1):=ZBb l2 l1;refine ZfB f p (m+1) (q+1) hp (hd.more l2) (by omega) (λi a b=>?_) (by omega) λp' m' q' a b c d e g=>hq p' m' q' a (by omega) (by omega) d e g;rw[show m+1-1=m by omega]
    by_cases hi:i=m
    ·rw[hi]
    ·rw[ee]; exact he i (by omega) (by omega)
theorem Zkv{Q:Nat × Array Nat->Prop}{m:Nat}(hp:Pm n p)(hd:Dn O key p m)(h1:1<=m)(hm:m<=n)(hq:∀m' p',1<=m'->m'<=n->Pm n p'->Up O key p' m'->Q (m',p')):Zb8 (orc O key) n (kas_tail3 m n p) Q:=by
 have hz:m<=p.size:=by rw[hp.size]; omega
 refine Zb8.bnd _ (ZiT (hp.rev 0 m) (n-m) m (λi j a b=>?_) λm' a b c _=>hq m' _ (by omega) (by omega) (hp.rev 0 m) c);rw[ZmM hz,ZmM hz,if_pos (by omega),if_pos (by omega)];exact hd _ _ (by omega) (by omega)
theorem ZkI{Q:Nat × Array Nat->Prop}{m:Nat}(hp:Pm n p)(hd:Dn O key p (m+1))(hm:m+1<=n)(hq:∀m' p',1<=m'->m'<=n->Pm n p'->Up O key p' m'->Q (m',p')):Zb8 (orc O key) n (kas_descPart m n p) Q:=by
 refine Zb8.bnd _ (ZfB (n-(m+1)) p (m+1) 0 hp hd (by omega) (λi a b=>by congr 1; omega) (by omega) λp' m' q' h1 h2 h3 h4 h5 h6=>?_);have hz:m'<=p'.size:=by rw[h1.size]; omega
 dsimp only;split
 ·exact Zkv (h1.rev _ _) (h4.same (ZhA hz h6)) (by omega) (by omega) hq
 ·exact Zkv h1 h4 (by omega) (by omega) hq
theorem Zo7{Q:Nat × Array Nat->Prop}(hp:Pm n p)(hq:∀m' p',1<=m'->m'<=n->Pm n p'->Up O key p' m'->Q (m',p')):Zb8 (orc O key) n (kas_count n p) Q:=by
 have h0:=hp.pos;refine Zb8.bnd _ (ZiT hp (n-1) 1 Up.one λm h1 h2 h3 h4=>?_);have hz:m<=p.size:=by rw[hp.size]; omega
 split
 ·exact hq m p (by omega) (by omega) hp h3
 ·rename_i hne
  have hne':m≠n:=by simpa using hne
  have hlt:O.klt (Ka O key p m) (Ka O key p (m-1)):=h4.resolve_left (by omega);split
  ·rename_i hm
   refine⟨hp.lt _,hp.lt _,?_⟩;dsimp only;split
   ·exact hq m p (by omega) (by omega) hp h3
   ·rename_i hr
    have hr':O.kle (Ka O key p (m-1)) (Ka O key p 0):=ZyF hr;have all:∀k,0<=k->k<m->Ka O key p k=Ka O key p (m-1):=λk _ hk=>ZBb (h3 k (m-1) (by omega) (by omega)) (ZzO hr' (h3 0 k (by omega) hk));refine ZkI (hp.rev _ _) (Dn.same ?_ (ZhA hz all)) (by omega) hq;refine Dn.more (λi j a b=>?_) (ZzE hlt);rw[all i (by omega) (by omega),all j (by omega) b]; exact Zy5 _
  ·obtain rfl:m=1:=by omega
   refine ZkI hp (Dn.more (λi j a b=>?_) (ZzE hlt)) (by omega) hq;obtain rfl:i=j:=by omega
   exact Zy5 _
theorem ZgO{Q:Nat->Prop}{k:Nat}(hp:Pm n p)(hu:Up O key p k):∀(f l r:Nat),l<=r->r<=k->r-l<=f->(∀i,i<l->O.kle (Ka O key p i) (Ka O key p k))->(∀i,r<=i->i<k->O.klt (Ka O key p k) (Ka O key p i)) ->
  (∀l,l<=k->(∀i,i<l->O.kle (Ka O key p i) (Ka O key p k))->(∀i,l<=i->i<k->O.klt (Ka O key p k) (Ka O key p i))->Q l)->Zb8 (orc O key) n (kas_place p k f l r) Q
 | 0,l,r,h1,h2,h3,lo,hi,hq=>by
  obtain rfl:l=r:=by omega
  exact hq l h2 lo hi
 | f+1,l,r,h1,h2,h3,lo,hi,hq=>by
  unfold kas_place;split
  ·obtain rfl:l=r:=by omega
   exact hq l h2 lo hi
  ·refine⟨hp.lt _,hp.lt _,?_⟩
   dsimp only;split
   ·rename_i h
    exact ZgO hp hu f l ((l+r) / 2) (by omega) (by omega) (by omega) lo (λi a b=>KeyOrd.klt_of_klt_of_kle h (hu _ _ a b)) hq
   ·rename_i h
    refine ZgO hp hu f ((l+r) / 2+1) r (by omega) (by omega) (by omega) (λi a=>ZzO (hu i ((l+r) / 2) (by omega) (by omega)) (ZyF h)) hi hq
theorem Zmr{Q:Array Nat->Prop}:∀(f:Nat) (p:Array Nat) (k:Nat),Pm n p->Up O key p k->k+f=n->(∀p',Pm n p'->Up O key p' n->Q p')->Zb8 (orc O key) n (kas_bin f p k) Q
 | 0,p,k,hp,hu,hn,hq=>by
  obtain rfl:k=n:=by omega
  exact hq p hp hu
 | f+1,p,k,hp,hu,hn,hq=>by
  refine Zb8.bnd _ (ZgO hp hu k 0 k (by omega) (ZwM _) (by omega) (λi a=>by omega) (λi a b=>by omega) λl hl lo hi=>?_);refine Zmr f _ (k+1) (hp.bub _ _) (λi j a b=>?_) (by omega) hq;have hk:k<p.size:=by rw[hp.size]; omega
  rw[ZqO hk (by omega),ZqO hk (by omega),show k-(k-l)=l by omega]
  repeat' split
  all_goals first
   | (exfalso; omega)
   | exact Zy5 _
   | exact lo _ (by omega)
   | exact ZzE (hi _ (by omega) (by omega))
   | exact hu _ _ (by omega) (by omega)
theorem Zqc(hn:0<n){Q:Array Nat->Prop}(hq:∀p,Pm n p->Up O key p n->Q p):Zb8 (orc O key) n (kas_sort n) Q:=by
 refine Zb8.bnd _ (Zo7 ⟨hn,.refl _⟩ λm p h1 h2 h3 h4=>?_);dsimp only;rw[show max m 1=m by omega];split
 ·exact Zmr _ p m h3 h4 (by omega) hq
 ·exact hq p h3 (by rwa [show n=m by omega])
end
theorem lex_irrefl:∀a:List Int,HM.lexLt a a=false
 | []=>rfl
 | x::a=>by show(if x=x then HM.lexLt a a else decide (x<x))=false;rw[if_pos rfl]; exact lex_irrefl a
theorem Zfw(x y:Int)(a b:List Int):HM.lexLt (x::a) (y::b)=if x=y then HM.lexLt a b else decide (x<y):=rfl
theorem lex_trans:∀a b c:List Int,HM.lexLt a b=true->HM.lexLt b c=true->HM.lexLt a c=true
 | [],[],_,h,_=>by cases h
 | [],_::_,[],_,h=>by cases h
 | [],_::_,_::_,_,_=>rfl
 | _::_,[],_,h,_=>by cases h
 | _::_,_::_,[],_,h=>by cases h
 | x::a,y::b,z::c,h1,h2=>by
  rw[Zfw]at *;split at h1
  ·rename_i e
   subst e;split at h2
   ·rename_i e; subst e; rw[if_pos rfl]; exact lex_trans a b c h1 h2
   ·rename_i e; rw[if_neg e]; exact h2
  ·split at h2
   ·rename_i e1 e2; subst e2; rw[if_neg e1]; exact h1
   ·rename_i e1 e2
    have h1:=of_decide_eq_true h1;have h2:=of_decide_eq_true h2;rw[if_neg (by omega)]; exact decide_eq_true (by omega)
theorem Zj6:∀a b c:List Int,HM.lexLt a c=true->HM.lexLt a b=true\/HM.lexLt b c=true
 | [],[],_,h=>.inr h
 | [],_::_,_,_=>.inl rfl
 | _::_,_,[],h=>by cases h
 | _::_,[],_::_,_=>.inr rfl
 | x::a,y::b,z::c,h=>by
  rw[Zfw]at *;rw[Zfw];split at h
  ·rename_i e
   subst e
   by_cases e:x=y
   ·subst e; rw[if_pos rfl,if_pos rfl]; exact Zj6 a b c h
   ·rw[if_neg e,if_neg (ZxC e)]
    by_cases q:x<y
    ·exact .inl (decide_eq_true q)
    ·exact .inr (decide_eq_true (by omega))
  ·rename_i e
   have h:=of_decide_eq_true h
   by_cases e1:x=y
   ·subst e1; rw[if_neg e]; exact .inr (decide_eq_true h)
   ·rw[if_neg e1]
    by_cases q:x<y
    ·exact .inl (decide_eq_true q)
    ·rw[if_neg (by omega)]; exact .inr (decide_eq_true (by omega))
theorem ZhR:∀a b:List Int,HM.lexLt a b=false->HM.lexLt b a=false->a=b
 | [],[],_,_=>rfl
 | [],_::_,h,_=>by cases h
 | _::_,[],_,h=>by cases h
 | x::a,y::b,h1,h2=>by
  rw[Zfw]at h1 h2
  by_cases e:x=y
  ·subst e
   rw[if_pos rfl]at h1 h2;rw[ZhR a b h1 h2]
  ·rw[if_neg e]at h1
   rw[if_neg (ZxC e)]at h2;have h1:=of_decide_eq_false h1;have h2:=of_decide_eq_false h2;omega
@[reducible] def Zmb:KeyOrd where
 α:=List Int
 blt:=HM.lexLt
 irrefl:=lex_irrefl
 trans:=lex_trans
 negTrans:=Zj6
 total:=ZhR
theorem ZgR{α:Type}{R:α->α->Prop}(anti:∀a b,R a b->R b a->a=b):∀{l m:List α},l.Perm m->l.Pairwise R->m.Pairwise R->l=m
 | [],m,hp,_,_=>(List.nil_perm.mp hp).symm
 | x::l,[],hp,_,_=>absurd hp.symm (by intro q; exact List.cons_ne_nil _ _ (List.nil_perm.mp q))
 | x::l,y::m,hp,hl,hm=>by
  obtain⟨l1,l2⟩:=Zxn.mp hl;obtain⟨m1,m2⟩:=Zxn.mp hm;have e:x=y:=by
   rcases Zw0.mp (hp.mem_iff.mp (ZwI ..))with e | e
   ·exact e
   ·rcases Zw0.mp (hp.mem_iff.mpr (ZwI ..))with e' | e'
    ·exact e'.symm
    ·exact anti x y (l1 y e') (m1 x e)
  subst e;rw[ZgR anti ((List.perm_cons x).mp hp) l2 m2]
def TI(h:Heap)(b:Addr)(t:List Int):Prop:=∃o its n,h.get? b=some o/\o.cls=.type "tuple"/\o.data=.seq its n/\IntsAre its.toList t
theorem TI.keep{h h':Heap}{b:Addr}{t:List Int}(x:TI h b t)(k:∀o,h.get? b=some o->h'.get? b=some o):TI h' b t:=let ⟨o,its,n,e,r⟩:=x; ⟨o,its,n,k o e,r⟩
section
variable{prog:Program}{w:World}{A:Around}{E:Value->Shared->Prop}{s:Shared}
theorem ZqL{fin:Bool}{Q:Bool->Shared->Prop}:∀{vs ws:List Value} {a b:List Int} (i:Nat),IntsAre vs a->IntsAre ws b->fin=decide (vs.length<ws.length)->Q (HM.lexLt a b) s->KatLex prog w A true fin Q (vs.zip ws) i s
 | _,_,_,_,i,.nil,.nil,e,q=>by subst e; exact kat_nil q
 | _,_,_,_,i,.nil,.cons _ _ _,e,q=>by subst e; exact kat_nil q
 | _,_,_,_,i,.cons _ _ _,.nil,e,q=>by subst e; exact kat_nil q
 | _,_,_,_,i,.cons x t hv,.cons y u hw,e,q=>by
  rw[List.zip_cons_cons];refine kat_cons (wpAny_eqBool_int ?_);rw[Zfw]at q
  by_cases h:x=y
  ·rw[if_pos h]at q
   rw[show(x==y)=true by simpa using h];refine kat_yes (ZqL (i+1) hv hw ?_ q);rw[e,ZwS,ZwS];exact decide_eq_decide.mpr (by omega)
  ·rw[if_neg h]at q
   rw[show(x==y)=false by simpa using h];refine kat_no ?_
   by_cases hi:i=0
   ·rw[show(true&&i==0)=true by simpa using hi]
    exact oneLt_int q
   ·rw[show(true&&i==0)=false by simpa using hi]
    exact kat_one _ _ (PyProof.Rows.lt_int q)
theorem ZuD{x y:Addr}{a b:List Int}{Q:Bool->Shared->Prop}(hx:TI s.heap x a)(hy:TI s.heap y b)(h:Q (HM.lexLt a b) s):wpAny (model prog w) A (keyLt' (tuples' true) (.ref x) (.ref y)) Q E s:=by obtain⟨ox,ix,n,e1,_,d1,r1⟩:=hx;obtain⟨oy,iy,k,e2,_,d2,r2⟩:=hy;refine kat_lt e1 d1 e2 d2 (ZqL 0 r1 r2 ?_ h);rw[Zw5,Zw5]
theorem ZoB{α:Type}{cmp:Nat->Nat->(Bool->Shared->Prop)->Shared->Prop}{o:Nat->Nat->Bool}{n:Nat}(hc:∀i j C,i<n->j<n->C (o i j) s->cmp i j C s){G:α->Shared->Prop}:∀(t:KasT α),Zb8 o n t (λa=>G a s)->t.kasWp cmp G s
 | .ret a,h=>h
 | .ask i j k,h=>hc i j _ h.1 h.2.1 (ZoB hc (k (o i j)) h.2.2)
theorem Zrh{a:Addr}{vs:List Value}{ts:List (List Int)}{n:Nat}{P:PySem.Fin->Shared->Prop}(ho:s.heap.get? a=some (seqObj "list" vs.toArray n))(hl:ts.length=vs.length)
  (hT:∀(i:Nat) t,ts[i]?=some t->∃b,vs[i]?=some (.ref b)/\TI s.heap b t) (hne:vs.length<2\/∀t∈ts,t≠[]) (h64:vs.length<64)
  (h:∀p:List Nat,p.Perm (ZwG vs.length)->(p.map λi=>ts.getD i []).Pairwise (λx y=>HM.lexLt y x=false)->P (.done (.ret .none)) { s with heap:=sortedHeap s.heap a vs (p.map λi=>vs.getD i ZxD).toArray }) :
  wpAny (model prog w) A (Builtin.«list.sort» ⟨[.ref a],[]⟩) P E s:=by
 rw[list_sort_plain];have ha:a<s.heap.objs.size:=ZwU ho;refine ZwB (listItems_at ho rfl (ZwB (listUpdate_at ho rfl ?_ (by rw[ZwV,ZxU]; omega) (Zx3 _))));obtain⟨e1,ho1⟩:∃e1,(s.heap.update a (Zzs λ_=>#[])).get? a=some (seqObj "list" #[] e1):=⟨_,get?_update_seq ho (λ_=>#[])⟩;refine ZwB (seqEpoch_at ho1 rfl ?_);refine ZwB (wpAny_newTuple ?_ (by show vs.length<=_; rw[ZxU]; omega));refine ZwB (wpAny_newList ?_ (Zx3 _));refine ZxM ?_;generalize hG:((s.heap.update a (Zzs λ_=>#[])).push (seqObj "tuple" vs.toArray 0)).push (seqObj "list" #[] 0)=g;have ho6:g.get? a=some (seqObj "list" #[] e1):=by rw[<-hG,ZzF _ _ _ (by rw[size_push',ZzP]; exact Zw1 (Zy9 ha)),ZzF _ _ _ (by rw[ZzP]; exact Zw1 ha)];exact ho1
 have hold:∀b o,b≠a->s.heap.get? b=some o->g.get? b=some o:=λb o hb e=>by have hlt:=ZwU e;rw[<-hG,ZzF _ _ _ (by rw[size_push',ZzP]; exact Zw1 (Zy9 hlt)),ZzF _ _ _ (by rw[ZzP]; exact Zw1 hlt),Heap.get?_update_ne _ _ _ _ hb];exact e
 have hT6:∀(i:Nat) t,ts[i]?=some t->∃b,vs[i]?=some (.ref b)/\TI g b t:=λi t e=>by
  obtain⟨b,e1,x⟩:=hT i t e;refine⟨b,e1,x.keep λo q=>hold b o ?_ q⟩
  rintro rfl
  obtain⟨o',_,_,q1,q2,_⟩:=x;rw[ho]at q1;cases q1;injection q2 with q2
  exact absurd q2 (by decide)
 show wpAny (model prog w) A _ P E { s with heap:=g };dsimp only;have fin:∀(st':SortSt) (p:List Nat),p.Perm (ZwG vs.length)->(p.map λi=>ts.getD i []).Pairwise (λx y=>HM.lexLt y x=false)->(arrOf st').map (·.2)=(p.map λi=>vs.getD i ZxD).toArray->failedOf st'=none ->
   wpAny (model prog w) A (do
    let touched:=(<-seqEpoch a) != e1
    Builtin.List.listUpdate (.ref a) λ_=>(arrOf st').map (·.2)
    if let some e:=failedOf st' then rule "list.sort.comparison-raised"; throw e
    if touched then rule "list.sort.modified"; raiseError "ValueError" "list modified during sort"
    ret .none) P E { s with heap:=g }:=by
  intro st' p hp hs har hf;refine ZwB (seqEpoch_at ho6 rfl ?_);rw[har];refine ZwB (listUpdate_at ho6 rfl ?_ (Zx3 _) (by show(p.map λi=>vs.getD i ZxD).toArray.size<=_; rw[ZwV,ZwD,hp.length_eq,ZxR,ZxU]; omega));rw[hf];simp only[bne_self_eq_false,Zyr,if_false];refine ZwF ?_;have:=h p hp hs;unfold sortedHeap at this;rw[hG]at this;exact this
 by_cases h2:vs.toArray.size<2
 ·rw[if_pos h2,if_pos h2]
  refine ZwB (ZwF ?_);rw[StateT.run_pure];refine ZwB (ZwF ?_);refine fin (SortSt.mk' general' (vs.toArray.zip vs.toArray) #[] 7 none) (ZwG vs.length) (.refl _) ?_ ?_ rfl
  ·rw[ZwV]at h2
   have:vs.length=0\/vs.length=1:=by omega
   rcases this with e | e<;>rw[e]<;>simp
  ·rw[ZwV]at h2
   show Array.map (·.2) (vs.toArray.zip vs.toArray)=_
   match vs,h2 with
   | [],_=>simp
   | [v],_=>simp
 ·rw[if_neg h2,if_neg h2]
  rw[ZwV]at h2;have hne':∀t∈ts,t≠[]:=hne.resolve_left h2;have tups:∀(vs:List Value) (ts:List (List Int)),ts.length=vs.length->(∀(i:Nat) t,ts[i]?=some t->∃b,vs[i]?=some (.ref b)/\TI g b t)->(∀t∈ts,t≠[])->∃fs,KatTups g vs fs/\fs.length=vs.length/\∀v∈fs,∃x t,v=Zyp x t:=by
   intro vs
   induction vs with
   | nil=>intro ts hl _ _; exact⟨[],KatTups.nil,rfl,by simp⟩
   | cons v vs ih =>
    intro ts hl hT hn;cases ts with
    | nil=>simp at hl
    | cons t ts =>
     obtain⟨fs,f1,f2,f3⟩:=ih ts (by simpa using hl) (λi t e=>hT (i+1) t (by simpa using e)) λx hx=>hn x (ZwJ _ hx);obtain⟨b,eb,o,its,m,g1,g2,g3,g4⟩:=hT 0 t rfl;simp at eb;subst eb;cases t with
     | nil=>exact absurd rfl (hn [] (ZwI ..))
     | cons x t =>
      cases hi:its.toList with
      | nil=>rw[hi]at g4; cases g4
      | cons y ys =>
       rw[hi]at g4;cases g4 with
       | cons _ u _ =>
        refine⟨.int x u::fs,KatTups.cons g1 g2 g3 ?_ f1,by simp[f2],λv hv=>?_⟩
        ·rw[<-Zxu,hi]; rfl
        ·rcases Zw0.mp hv with e | e
         ·exact⟨x,u,e⟩
         ·exact f3 v e
  obtain⟨fs,f1,f2,f3⟩:=tups vs ts hl hT6 hne';refine ZwB (kat_kind (s:={ s with heap:=g }) (T:=.type "int") f1 (by omega) (λv hv=>?_) (by rfl) ?_)
  ·obtain⟨x,t,rfl⟩:=f3 v hv
   exact Looks.of_pure rfl
  rw[show(Zzr "int" != Zzr "tuple")=true by decide];refine ZwB (ZxQ (kat_run (ks:=vs) (Q:=λst' s'=>s'={ s with heap:=g }/\∃p:Array Nat,Pm vs.length p/\Up Zmb (λi=>ts.getD i []) p vs.length/\arrOf st'=p.map (kas_item (vs.toArray.zip vs.toArray))/\failedOf st'=none)
   (G:=λp s'=>s'={ s with heap:=g }/\Pm vs.length p/\Up Zmb (λi=>ts.getD i []) p vs.length) rfl (by omega) h64 (λp' st' s' a1 a2 a3 a4=>⟨a4.1,p',a4.2.1,a4.2.2,a2,a3⟩) ?_) ?_ λ_ _ e=>e)
  ·refine ZoB (o:=orc Zmb λi=>ts.getD i []) (n:=vs.length) (λi j C hi hj hC=>?_) _ (Zqc (by omega) λp h1 h2=>⟨rfl,h1,h2⟩)
   have gi:ts[i]?=some (ts.getD i []):=by simp[show i<ts.length by omega]
   have gj:ts[j]?=some (ts.getD j []):=by simp[show j<ts.length by omega]
   obtain⟨b1,v1,x1⟩:=hT6 i _ gi;obtain⟨b2,v2,x2⟩:=hT6 j _ gj;show wpAny (model prog w) A (keyLt' _ (vs.getD i ZxD) (vs.getD j ZxD)) C _ _;rw[show vs.getD i ZxD=.ref b1 by simp[Zx9,v1],show vs.getD j ZxD=.ref b2 by simp[Zx9,v2]];exact ZuD x1 x2 hC
  ·rintro ⟨⟨⟩,st'⟩ s' ⟨rfl,p,hp,hu,har,hf⟩
   refine fin st' p.toList ?_ ?_ (kat_snds rfl har) hf
   ·have:=ZAm.mp hp.perm
    simpa using this
   ·rw[List.pairwise_map,ZAx]
    intro i j hi hj hij;have hsz:=hp.size;have q:=hu i j (Zys hij) (by rw[Zw5]at hj; omega);unfold Ka at q;rw[show p.getD i 0=p.toList[i] by simp[Zyy,show i<p.size by simpa using hi],show p.getD j 0=p.toList[j] by simp[Zyy,show j<p.size by simpa using hj]]at q;exact q
end
def Zd0(h:Heap)(d:Addr)(es:Array DictEntry)(ep:Nat):Prop:=∃o,h.get? d=some o/\o.ExactDict/\o.data=.dict es ep
theorem Zd0.at'{h h':Heap}{d:Addr}{es:Array DictEntry}{ep:Nat}(x:Zd0 h d es ep)(e:∀o,h.get? d=some o->h'.get? d=some o):Zd0 h' d es ep:=let ⟨o,ho,r⟩:=x; ⟨o,e _ ho,r⟩
theorem Zd0.typeIs{s:Shared}{d:Addr}{es:Array DictEntry}{ep:Nat}(x:Zd0 s.heap d es ep):s.TypeIs (.ref d) "dict":=let ⟨o,ho,hc,_⟩:=x; ⟨o,ho,hc.1⟩
theorem Zd0.lt{h:Heap}{d:Addr}{es:Array DictEntry}{ep:Nat}(x:Zd0 h d es ep):d<h.objs.size:=let ⟨o,ho,_⟩:=x; ZwU ho
section
variable{prog:Program}{w:World}{A:Around}{E:Value->Shared->Prop}{s:Shared}{it d:Addr}{es:Array DictEntry}{ep i:Nat}
theorem Zm0{Q:Value->Shared->Prop}(hd:(d==ZxX)=false)(hm:Zd0 s.heap d es ep)
  (hQ:Q (.ref s.heap.objs.size) { s with heap:=s.heap.push { cls:=.type "dict_keyiterator",data:=.fields #[.ref d,.int 0 0,.int es.size 0,.int ep 0] } }) :
  wpAny (model prog w) A (pyIter (.ref d)) Q E s:=by
 obtain⟨o,ho,hc,hdat⟩:=id hm;have hT:=hm.typeIs;refine ZAr hT F.slot_dict_iter (ZxZ F.slot_dict_iter hT F.entry_dict_iter ?_ (F.args_dict_iter_1 _));unfold Builtin.«dict.__iter__»;refine ZwB ?_;unfold Builtin.Dict.dictSlotNone;refine ZwB (wpAny_notOrdered_dict hT ?_);show wpAny _ _ (pure (Zxy d)) _ _ s;refine ZwF ?_;show wpAny _ _ (ZA1 d >>= _) _ _ s;unfold ZA1;rw[if_neg (by rw[hd]; exact Zxi)];refine ZwB (ZwF (ZwB (ZzA ho hdat (ZwB (ZAN ho hdat ?_)))));refine ZwB (ZxB (ZwF ⟨_,rfl,"dict_keyiterator",_,⟨_,ZwX _ rfl,rfl⟩,F.slot_dict_keyiterator_next.lookup,?_⟩));simpa [rawInt]using hQ
theorem Znu{e:DictEntry}{Q:Option Value->Shared->Prop}(hit:s.heap.IsKeyIter it d i es.size ep)(hm:Zd0 s.heap d es ep)(hx:es[i]?=some e)
  (hQ:∀h',h'.IsKeyIter it d (i+1) es.size ep->Zyt it s.heap h'->Q (some e.key) { s with heap:=h' }) :
  wpAny (model prog w) A (pyNext (.ref it)) Q E s:=by
 obtain⟨o,ho,hc,hd⟩:=id hit;obtain⟨od,hod,hcd,hdd⟩:=id hm;unfold pyNext;refine ZwB (ZAl (wpAny_callSpecial?_slot (name:=ZyS "__next__") hit.typeIs F.slot_dict_keyiterator_next
  (ZxZ F.slot_dict_keyiterator_next hit.typeIs F.entry_dict_keyiterator_next ?_ (F.args_dict_keyiterator_next_1 _))))
 refine ZwB (ZwF (ZwB (ZwB ?_)))
 first | refine ZwB (Zyw hit.typeIs (ZwF ?_)) | refine ZwB (ZyT hit.typeIs (ZwF ?_))
 refine ZwB (Zz9 ho hd ?_);have hown:ZAb "dict_keyiterator" = false:=by decide
 simp only[hown,Zyr,if_false];show wpAny _ _ (if(Zxy d==ZxD)=true then _ else _) _ _ s;rw[if_neg (show ¬((Zxy d==ZxD)=true) from Zxi)];refine ZwB (ZwF (ZwB (ZzA hod hdd ?_)));rw[if_neg (by simp)];refine ZwB (ZwF (ZwB (ZAN hod hdd ?_)));rw[if_neg (by simp)];refine ZwF ?_;obtain⟨hlt,he⟩:=Array.getElem?_eq_some_iff.mp hx;simp only[show ¬((i:Int)<0) from by omega,if_false,Zza,ZyN hlt];refine ZwB ?_
 first | refine ZwB (Zyw hit.typeIs (ZwF ?_)) | refine ZwB (ZyT hit.typeIs (ZwF ?_))
 refine ZwB (wpAny_isOneOf_keyiter hit.typeIs ?_);show wpAny _ _ (setField (.ref it) 1 (rawInt ((i:Int)+1)) >>= _) _ _ s;refine ZwB (Zzw ho hd (by simp) ?_);have hit':(s.heap.update it (ZA9 (·.setIfInBounds 1 (rawInt ((i:Int)+1))))).IsKeyIter it d (i+1) es.size ep :=
  ⟨_,ZxK _ ho (ZzR (Zyg hd _)),(ZAs ..).trans hc,by rw[Zyg hd]; simp[rawInt]⟩
 refine ZwB (ZxM ?_);refine ZwB (wpAny_isOneOf_keyiter (s:={ s with heap:=s.heap.update it (ZA9 (·.setIfInBounds 1 (rawInt ((i:Int)+1)))) }) hit'.typeIs ?_);show wpAny _ _ (pure es[i].key) _ _ _;refine ZwF (ZwF ⟨_,rfl,ZwF ?_⟩);rw[he];exact hQ _ hit' (ZxH ..)
theorem Zoe{Q:Option Value->Shared->Prop}(hh:A.handled=none)(hit:s.heap.IsKeyIter it d i es.size ep)(hm:Zd0 s.heap d es ep)(hx:es.size<=i)
  (hQ:∀h',Heap.ExtBut it s.heap h'->Q none { s with heap:=h' }):wpAny (model prog w) A (pyNext (.ref it)) Q E s:=by
 obtain⟨o,ho,hc,hd⟩:=id hit;obtain⟨od,hod,hcd,hdd⟩:=id hm;unfold pyNext;refine ZwB (ZAl (wpAny_callSpecial?_slot (name:=ZyS "__next__") hit.typeIs F.slot_dict_keyiterator_next
  (ZxZ F.slot_dict_keyiterator_next hit.typeIs F.entry_dict_keyiterator_next ?_ (F.args_dict_keyiterator_next_1 _))))
 refine ZwB (ZwF (ZwB (ZwB ?_)))
 first | refine ZwB (Zyw hit.typeIs (ZwF ?_)) | refine ZwB (ZyT hit.typeIs (ZwF ?_))
 refine ZwB (Zz9 ho hd ?_);have hown:ZAb "dict_keyiterator" = false:=by decide
 simp only[hown,Zyr,if_false];show wpAny _ _ (if(Zxy d==ZxD)=true then _ else _) _ _ s;rw[if_neg (show ¬((Zxy d==ZxD)=true) from Zxi)];refine ZwB (ZwF (ZwB (ZzA hod hdd ?_)));rw[if_neg (by simp)];refine ZwB (ZwF (ZwB (ZAN hod hdd ?_)));rw[if_neg (by simp)];refine ZwF ?_;simp only[show ¬((i:Int)<0) from by omega,if_false,Zza,ZzH hx];refine ZwB ?_
 first | refine ZwB (Zyw hit.typeIs (ZwF ?_)) | refine ZwB (ZyT hit.typeIs (ZwF ?_))
 show wpAny _ _ (setField (.ref it) 0 .none >>= _) _ _ s;refine ZwB (Zzw ho hd (by simp) ?_);show wpAny _ _ (newExc (.type "StopIteration") [] >>= _) _ _ _;refine ZwB ?_;simp only[newExc,newTuple];refine ZwB (ZxB ?_ (by size_fits));refine ZwB (m:=ZAa _ _) (ZAT (a:=ZxD) (by first | rfl | (simp only[ZAa]; rfl)) ?_)
 refine ZxB ?_ (by size_fits);simp only[raiseNew];refine ZwB (wpAny_handled ?_);rw[show A.in1.handled=none from hh];refine ZwB (ZwF (wpAny_throw ?_));refine ZwB (ZAG (T:="StopIteration") (b:=true) ⟨_,ZwX _ rfl,rfl⟩ isSubtype_stop ?_);exact ZwF (hQ _ (((ZxH ..).extBut.push _).push _))
theorem Zqt(hh:A.handled=none)(I d:Addr)(hne:d≠I)(es:Array DictEntry)(ep:Nat) :
  Walks prog w A I [I,d] [I] es.size (λi v=>∃e,es[i]?=some e/\v=e.key) (λi h=>h.IsKeyIter I d i es.size ep/\Zd0 h d es ep) where
 sub:=λb hb=>by simp at hb; simp[hb]
 frame:=λ_ _ _ st hk=>⟨st.1.at λo e=>hk I (by simp) o e,st.2.at' λo e=>hk d (by simp) o e⟩
 item:=λi s Q E hi st hQ=>by have hx:es[i]?=some es[i]:=ZyN hi;refine Znu st.1 st.2 hx λh' hit' hs'=>?_;exact hQ _ h' s.toks ⟨_,hx,rfl⟩ ⟨hit',st.2.at' λo e=>hs'.extBut d o hne e⟩ λb o hb e=>hs'.extBut b o (λh=>hb (by simp[h])) e
 done:=λs Q E st hQ=>Zoe hh st.1 st.2 (ZwM _) λh' he'=>hQ h' s.toks λb o hb e=>he' b o (λh=>hb (by simp[h])) e
 self:=λ_ _ _ _ st hQ=>wpAny_pyIter_keyiter st.1 hQ
end
end HP
namespace HP
open PySem PySem.Spec PySem.W PySem.Calls PyProof.Rows L2
variable[FX]
section
variable{prog:Program}{w:World}{A:Around}{E:Value->Shared->Prop}{s:Shared}
theorem ZrW{r:Addr}{Q:Bool->Shared->Prop}(hT:s.TypeIs (.ref r) "set")(h:Q false s):wpAny (model prog w) A (ZAf (.ref r)) Q E s:=by
 unfold ZAf;refine ZwB (wpAny_specialOf hT PySem.F.slot_set_len.lookup ?_);generalize hid:("set.__len__":String)=id0
 wp_delta
 rw[show splitId id0=some ("set","__len__") from by subst hid; decide +kernel];subst hid;refine ZwB (ZAG (T:="set") (b:=true) hT (by rw[isSubtype_type]; kernel_rfl) ?_);refine ZyE (λq=>absurd q (by decide)) λ_=>?_;refine ZyE (λ_=>?_) (λq=>absurd (by decide +kernel) q);exact ZwB (wpAny_typeOf hT (ZwF h))
theorem ZsE{d:Addr}{es:Array DictEntry}{ep:Nat}(lo:(d==ZxX)=false):KdlSrc prog w "dict" d d es.size (λi v=>∃e,es[i]?=some e/\v=e.key) (λh=>Zd0 h d es ep) where
 type:=λ_ hm=>hm.typeIs
 there:=λ_ hm=>⟨hm.lt,hm.lt⟩
 keep:=λ_ _ hm hk=>hm.at' λo e=>hk d (.inl rfl) o e
 notList:=by decide
 notTuple:=by decide
 hint:=λ_ _ _ _ hm hq=>kdl_hint_dict hm.typeIs hq
 iter:=λ_ _ hh hm=>⟨_,_,(λ_ _ hq=>Zm0 lo hm hq),Zqt hh _ d (Zw1 hm.lt) es ep,⟨⟨_,ZwX _ rfl,rfl,rfl⟩,hm.at' λo e=>ZwH _ e⟩⟩
theorem ZdM.typeIs{a:Addr}{es:Array (Int × Value)}{ep:Nat}{t:SetTable}(x:ZdM w s.heap a es ep t):s.TypeIs (.ref a) "set":=let ⟨o,ho,hc,_⟩:=x.obj; ⟨o,ho,hc.1⟩
theorem ZdM.lt{h:Heap}{a:Addr}{es:Array (Int × Value)}{ep:Nat}{t:SetTable}(x:ZdM w h a es ep t):a<h.objs.size:=let ⟨o,ho,_⟩:=x.obj; ZwU ho
theorem Zs4{a:Addr}{es:Array (Int × Value)}{ep:Nat}{t:SetTable}:KdlSrc prog w "set" a a es.size (λi v=>∃e,(Zc8 w a es ep)[i]?=some e/\v=e.2) (λh=>ZdM w h a es ep t) where
 type:=λ_ hm=>hm.typeIs
 there:=λ_ hm=>⟨hm.lt,hm.lt⟩
 keep:=λ_ _ hm hk=>hm.at' λo e=>hk a (.inl rfl) o e
 notList:=by decide
 notTuple:=by decide
 hint:=λ_ _ _ _ hm hq=>ZrW hm.typeIs hq
 iter:=λ_ _ hh hm=>⟨_,_,(λ_ _ hq=>Zrc hm hq),Zqf hh _ a (Zw1 hm.lt) es ep t,⟨0,⟨_,ZwX _ rfl,rfl,rfl⟩,hm.at' λo e=>ZwH _ e,λ_=>ZpF hm.tab.rise⟩⟩
theorem Zf6{T:String}{r d:Addr}{n:Nat}{P:Nat->Value->Prop}{OK:Heap->Prop}{R:List Value->Shared->Prop}(K:KdlSrc prog w T r d n P OK)(hh:A.handled=none)(hok:OK s.heap)(hn:n<=sizeLine)
  (h:∀(h':Heap) (tk:Nat) (acc:Array Value),(∀b o,s.heap.get? b=some o->h'.get? b=some o)->s.heap.objs.size<h'.objs.size->ItemsOf P acc n->R acc.toList { s with heap:=h',toks:=tk }) :
  wpAny (model prog w) A (collect (.ref r)) R E s:=by
 have hlt:=K.there _ hok;unfold collect;refine ZwB (wpAny_runValue (ZxV entry_proto_collect' ?_));rw[ZxG ZAg _];show wpAny _ A.in1 (newList [] >>= λl=>again (.builtin "list.__iadd__" ⟨[l,.ref r],[]⟩)) _ _ s;refine ZwB (ZxB (ZwF ⟨ZyJ ZyZ _,ZxV entry_list_iadd' ?_⟩));rw[ZxG ZyZ _];have hS₁:(s.heap.push { cls:=.type "list",data:=.seq ([]:List Value).toArray }).get? s.heap.objs.size=some { cls:=.type "list",data:=.seq #[] }:=ZwX _ rfl;show wpAny _ A.in1 (ZAh (.ref s.heap.objs.size) (.ref r) (.ref s.heap.objs.size)) _ _ _;refine ZxQ (kdl_extend (A:=A) (s:={ s with heap:=s.heap.push { cls:=.type "list",data:=.seq ([]:List Value).toArray } })
  (R:=λ(q:Result) (s':Shared)=>∃(h':Heap) (tk:Nat) (acc':Array Value) (c':Nat),q=.ok (.ret (.ref s.heap.objs.size))/\s'={ s with heap:=h',toks:=tk } /\
   (∀b o,s.heap.get? b=some o->h'.get? b=some o)/\h'.get? s.heap.objs.size=some { cls:=.type "list",dict:=none,data:=.seq acc' c',slots:=#[] }/\ItemsOf P acc' n)
  K hh (K.keep _ _ hok λb _ o e=>ZwH _ e) s.heap.objs.size (Zzo hlt.1) (Zzo hlt.2) (.ref s.heap.objs.size) 0 hS₁
  (λh' tk acc' c' hk hS' hacc=>⟨h',tk,acc',c',rfl,rfl,λb o e=>hk b o (Zw1 (ZwU e)) (ZwH _ e),hS',hacc⟩) hn) (λfin s' x=>?_) λe s' x=>?_
 ·have go:∀(h':Heap) (tk:Nat) (acc':Array Value) (c':Nat),(∀b o,s.heap.get? b=some o->h'.get? b=some o)->h'.get? s.heap.objs.size=some { cls:=.type "list",dict:=none,data:=.seq acc' c',slots:=#[] }->ItemsOf P acc' n ->
    wpAny (model prog w) A (load s.heap.objs.size >>= λo=>match o.data with | .seq xs _=>pure xs.toList | _=>unsupported "internal:collect") R E { s with heap:=h',toks:=tk }:=λh' tk acc' c' hk hS' hacc =>
   ZwB (wpAny_load hS' (ZwF (h h' tk acc' hk (ZwU hS') hacc)))
  cases fin with
  | done f=>obtain⟨h',tk,acc',c',e,rfl,hk,hS',hacc⟩:=x;cases e;exact go h' tk acc' c' hk hS' hacc
  | again c₁=>refine⟨x.1,ZyA x.2 λq s₂ y=>?_⟩;obtain⟨h',tk,acc',c',rfl,rfl,hk,hS',hacc⟩:=y;exact go h' tk acc' c' hk hS' hacc
 ·obtain⟨_,_,_,_,e',_⟩:=x
  cases e'
end
inductive ZhP(K:ZwC)(F H:Hp)(p:Addr):List PyData->Prop where
 | lst {ds:List PyData} {vs:List V} (h:SqL K H p vs) (r:Zq K F ds vs):ZhP K F H p ds
 | tup {ds:List PyData} {vs:List V} (h:SqT K H p vs) (r:Zq K F ds vs):ZhP K F H p ds
 | dk {kvs:List (Key × V)} (h:H p=some (.dK kvs)):ZhP K F H p (kvs.map λq=>HM.Zai q.1)
 | dt {kvs:List (List Key × V)} (h:H p=some (.dT kvs)):ZhP K F H p (kvs.map λq=>.tuple (q.1.map HM.Zai))
theorem ZsT{K:ZwC}{F:Hp}(k:Key):Rep K F (HM.Zai k) (kV k):=by
 cases k with
 | inl i=>exact .int i
 | inr x=>exact .str x
theorem ZfD{K:ZwC}{F:Hp}:∀(ks:List Key),Zq K F (ks.map HM.Zai) (ks.map kV)
 | []=>.nil
 | k::ks=>.cons (ZsT k) (ZfD ks)
theorem Ztl{P:Program}{w:World}{k:Key}{u:Value}(h:(Zaf P w).is k u=true):RelV (kV k) u:=by
 rw[Zpn]at h;rcases ZaM h with⟨i,t,rfl,rfl⟩ | ⟨x,t,rfl,rfl⟩
 ·exact⟨t,rfl⟩
 ·exact⟨t,rfl⟩
section
variable{X:Cx}{pins:List (Addr × Obj)}{σ:L2.St}{H F:Hp}{s:Shared}{p:Addr}{ds:List PyData}
theorem Zgf:∀{vs:List V} {us:List Value},vs.length=us.length->(∀(i:Nat) v u,vs[i]?=some v->us[i]?=some u->RelV v u)->Vals vs us
 | [],[],_,_=>.nil
 | [],_::_,h,_=>by simp at h
 | _::_,[],h,_=>by simp at h
 | v::vs,u::us,h,k=>.cons (k 0 v u rfl rfl) (Zgf (by simpa using h) λi a b e1 e2=>k (i+1) a b (by simpa using e1) (by simpa using e2))
theorem ZhP.gath(I:Inv X pins σ H s)(sub:Zp F H)(h:ZhP X.K F H p ds):∃vs,Zq X.K (Zb3 F H) ds vs/\∀(A:Around) (E:Value->Shared->Prop) (R:List Value->Shared->Prop),A.handled=none ->
  (∀us h' tk,Vals vs us->(∀b o,s.heap.get? b=some o->h'.get? b=some o)->R us { s with heap:=h',toks:=tk })->wpAny (model X.prog X.w) A (collect (.ref p)) R E s:=by
 cases h with
 | @lst _ vs h r=>obtain⟨its,rv,pl,hz⟩:=I.list h;obtain⟨o,ho,hcl,n,hd⟩:=pl.isList;refine⟨vs,r.mono (ZcU sub),λA E R _ k=>wpAny_collect_seq p (.inl rfl) ho hcl hd (λh' kp=>?_) (by rw[ZwV,<-rv.length]; exact hz)⟩;exact k its h' s.toks rv kp
 | @tup _ vs h r=>obtain⟨its,rv,pl,hz⟩:=I.tuple h;obtain⟨o,ho,hcl,n,hd⟩:=pl;refine⟨vs,r.mono (ZcU sub),λA E R _ k=>wpAny_collect_seq p (.inr rfl) ho hcl hd (λh' kp=>?_) (by rw[ZwV,<-rv.length]; exact hz)⟩;exact k its h' s.toks rv kp
 | @dk kvs h =>
  obtain⟨z,lo,vs,rel,dd⟩:=Zps I.hok h;obtain⟨ep,hat⟩:=dd.dictAt;have hl:kvs.length=vs.length:=ZyG rel;refine⟨kvs.map λq=>kV q.1,?_,λA E R hh k=>Zf6 (kdl_dict (knd:=Zaf X.prog X.w) (kvs:=vs) (ep:=ep) lo) hh hat (by omega) λh' tk acc kp hsz hacc=>k _ h' tk ?_ kp⟩
  ·have:=ZfD (K:=X.K) (F:=Zb3 F H) (kvs.map (·.1))
   rw[Zw2,Zw2]at this;exact this
  ·refine Zgf (by have q:acc.toList.length=acc.size:=Zw5; rw[ZwD,q,hacc.1,hl]) λi v u e1 e2=>?_
   obtain⟨kk,x,q1,q2⟩:=hacc.2 i u (by rw[<-Zxu]; exact e2);rw[Zw3]at e1;obtain⟨q,e3,e4⟩:=ZwE.mp e1;subst e4;have key:∀{l:List (Key × V)} {m:List (Key × Value)},KV l m->∀(i:Nat) a b,l[i]?=some a->m[i]?=some b->a.1=b.1:=by
    intro l m r
    induction r with
    | nil=>intro i a b e; simp at e
    | cons hq _ ih =>
     intro i a b e1 e2;cases i with
     | zero=>simp at e1 e2; subst e1; subst e2; exact hq.1
     | succ i=>exact ih i a b (by simpa using e1) (by simpa using e2)
   have ek:=key rel i q (kk,x) e3 q1;rw[ek];exact Ztl q2
 | @dt kvs h =>
  obtain⟨z,lo,xs,rel,o,es,ep,h1,h2,h3,h4,h5⟩:=(show ZV X.prog X.w H s.heap p (.dT kvs) from I.hok p _ h);have hl:kvs.length=xs.length:=ZyG rel;have hes:es.size=xs.length:=by rw[<-Zw5,h4,ZwD]
  have hm:Zd0 s.heap p es ep:=⟨o,h1,h2,h3⟩;refine⟨xs.map λq=>V.ref q.2.1,?_,λA E R hh k=>Zf6 (ZsE (es:=es) (ep:=ep) lo) hh hm (by omega) λh' tk acc kp hsz hacc=>k _ h' tk ?_ kp⟩
  ·clear h4 hes hl z h h5
   induction rel with
   | nil=>exact .nil
   | @cons p0 _ _ _ hq _ ih=>obtain⟨q1,q2,_⟩:=hq;rw[ZwL,ZwL];refine .cons ?_ ih;have rk:=ZfD (K:=X.K) (F:=Zb3 F H) p0.1;exact .tup (Zmw q2) rk.1 rk.2
  ·refine Zgf (by have q:acc.toList.length=acc.size:=Zw5; rw[ZwD,q,hacc.1,hes]) λi v u e1 e2=>?_
   obtain⟨e,q1,q2⟩:=hacc.2 i u (by rw[<-Zxu]; exact e2);subst q2;rw[Zw3]at e1;obtain⟨q,e3,e4⟩:=ZwE.mp e1;subst e4;rw[<-Zxu,h4,Zw3,e3]at q1;cases q1;rfl
theorem ZcH{K:ZwC}{F:Hp}:∀{ds:List PyData} {vs:List V} {ns:List Int},HM.Zax ds=some ns->Zq K F ds vs->vs=ns.map V.int
 | [],vs,ns,h,r=>by cases h;exact r.nil_inv
 | d::ds,vs,ns,h,r=>by
  obtain⟨v,us,rfl,r1,r2⟩:=r.cons_inv;cases d with
  | int b=>obtain⟨bs',h1,h2⟩:=ZwE.mp h;subst h2;rw[r1.int_inv,ZcH h1 r2];rfl
  | none=>cases h
  | bool _=>cases h
  | str _=>cases h
  | list _=>cases h
  | tuple _=>cases h
  | dict _=>cases h
theorem Zoj:∀(t:List Int),HM.Zax (HM.ofInts t)=some t
 | []=>rfl
 | x::t=>by show(HM.Zax (HM.ofInts t)).map (x::·)=_;rw[Zoj t];rfl
theorem ZmE:∀{ds:List PyData} {ns:List Int},HM.Zax ds=some ns->ds=HM.ofInts ns
 | [],ns,h=>by cases h; rfl
 | d::ds,ns,h=>by
  cases d with
  | int b=>obtain⟨bs',h1,h2⟩:=ZwE.mp h;subst h2;rw[ZmE h1];rfl
  | none=>cases h
  | bool _=>cases h
  | str _=>cases h
  | list _=>cases h
  | tuple _=>cases h
  | dict _=>cases h
theorem Zel{K:ZwC}{F:Hp}:∀(ns:List Int),Zq K F (HM.ofInts ns) (ns.map V.int)
 | []=>.nil
 | n::ns=>.cons (.int n) (Zel ns)
theorem Zdl:∀{ns:List Int} {us:List Value},Vals (ns.map V.int) us->IntsAre us ns
 | [],_,r=>by rw[ZyP]at r; cases r; exact .nil
 | n::ns,_,r=>by
  rw[ZwL]at r;cases r with
  | cons h t=>obtain⟨u,rfl⟩:=h; exact .cons n u (Zdl t)
theorem ZgP:∀{us:List Value} {ns:List Int},IntsAre us ns->Vals (ns.map V.int) us
 | _,_,.nil=>.nil
 | _,_,.cons n t h=>.cons ⟨t,rfl⟩ (ZgP h)
theorem ZmA:∀{ds:List PyData} {ts:List (List Int)},HM.Zh9 ds=some ts->ds=HM.Zej ts
 | [],ts,h=>by cases h; rfl
 | d::ds,ts,h=>by
  cases d with
  | tuple es =>
   unfold HM.Zh9 at h;split at h
   ·rename_i ns hn
    obtain⟨r',h1,h2⟩:=ZwE.mp h;subst h2;rw[ZmE hn,ZmA h1];rfl
   ·cases h
  | none=>cases h
  | bool _=>cases h
  | int _=>cases h
  | str _=>cases h
  | list _=>cases h
  | dict _=>cases h
theorem Zmy{ns ms:List Int}(h:ms.Perm ns)(hs:ms.Pairwise (·<=·)):ms=HM.sortI ns:=by refine ZgR (R:=(·<=·)) (λa b h1 h2=>by omega) (h.trans (Zzl ns _).symm) hs ?_;have:=Zzz (le:=λa b:Int=>decide (a<=b)) (λa b c h1 h2=>by simp at *; omega) (λa b=>by simp; omega) ns;exact this.imp λh=>by simpa using h
theorem Zrl{ts us:List (List Int)}(h:us.Perm ts)(hs:us.Pairwise (λx y=>HM.lexLt y x=false)):us=HM.Zee ts:=by
 refine ZgR (R:=λx y=>HM.lexLt y x=false) (λa b h1 h2=>ZhR a b h2 h1) (h.trans (Zzl ts _).symm) hs ?_;have:=Zzz (le:=λa b:List Int=>!HM.lexLt b a) (λa b c h1 h2=>by
  simp only[Bool.not_eq_true']at *;cases q:HM.lexLt c a with
  | false=>rfl
  | true =>
   rcases Zj6 c b a q with z | z
   ·rw[h2]at z; cases z
   ·rw[h1]at z; cases z) (λa b=>by
  cases q:HM.lexLt b a with
  | false=>simp
  | true =>
   cases q2:HM.lexLt a b with
   | false=>simp
   | true=>have:=lex_trans _ _ _ q q2; rw[lex_irrefl]at this; cases this) ts
 exact this.imp λh=>by simpa using h
theorem ZiE{h:Heap}{a:Addr}{vs:List Value}{out:Array Value}{b:Addr}{o:Obj}(hb:b≠a)(e:h.get? b=some o):(sortedHeap h a vs out).get? b=some o:=by rw[sortedHeap_old hb (ZwU e)]; exact e
theorem ZmY(hc:X.calm=true):ZaF X (.builtin "sorted") (λxs H Q=>∃p F ds ds',xs=[.ref p]/\Zp F H/\ZhP X.K F H p ds/\HM.Zd9 ds=some ds'/\∀l ws,H l=none->Zq X.K (Zb3 F H) ds' ws->Q (.ref l) (upd H l (.lst ws))):=by
 intro pins s σ H xs us Q I r h;obtain⟨p,F,ds,ds',rfl,sub,hsrc,hsort,q⟩:=h;obtain⟨u,rfl,rx⟩:=vals1 r;cases rx;obtain⟨vs,rv,go⟩:=hsrc.gath I sub;unfold HM.Zd9 at hsort;split at hsort
 ·rename_i h64
  have hvl:=rv.1;refine ZAz kind_sorted plain_sorted entry_sorted (args_sorted1 _) ?_;unfold Builtin.«sorted»;refine ZwB (m:=checkCount "sorted" 1 1 _) (ZwF ?_);refine ZwB (go _ _ _ (I.ok.hd hc) λus h' tk ru kp=>?_);have hul:=ru.length;refine ZwB (wpAny_newList ?_ (by rw[ZxU]; omega));have hoL:(h'.push (seqObj "list" us.toArray 0)).get? h'.objs.size=some (seqObj "list" us.toArray 0):=ZwX _ rfl;have fin:∀(out:Array Value) (ws:List V),Vals ws out.toList->Zq X.K (Zb3 F H) ds' ws->ws.length<64->EP X pins σ Q (.ref h'.objs.size) { s with heap:=sortedHeap (h'.push (seqObj "list" us.toArray 0)) h'.objs.size us out,toks:=tk }:=λout ws rw' rd hw=>by obtain⟨e,he⟩:=sortedHeap_at (out:=out) hoL;have I1:Inv X pins σ H { s with heap:=h',toks:=tk }:=I.kept kp;refine⟨.ref h'.objs.size,_,I1.laid (a:=h'.objs.size) (o:=.lst ws) (t':=tk) (λb o e1=>?_) (ZwM _) ⟨by rw[ZxU]; omega,out.toList,e,rw',by simpa using he⟩,rfl,q _ ws (I1.hok.fresh (ZwM _)) rd⟩;exact ZiE (Zw1 (ZwU e1)) (ZwH _ e1)
  show wpAny _ _ _ _ _ { s with heap:=h'.push (seqObj "list" us.toArray 0),toks:=tk };split at hsort
  ·rename_i ns hns
   cases hsort;have evs:=ZcH hns rv;rw[evs]at ru;have hI:=Zdl ru;refine ZwB (ZxM (ZxZ slot_list_sort ⟨_,hoL,rfl⟩ ZAO (list_sort_tree hoL hI (by omega) λout ns' a1 a2 a3=>⟨_,rfl,?_⟩) (args_list_sort _)));refine ZwF ⟨_,rfl,?_⟩;have e:=Zmy a2 a3;have hl:ns'.length<64:=by rw[a2.length_eq,<-hI.length,<-hul]; omega
   refine fin out (ns'.map V.int) (ZgP a1) ?_ (by rw[ZwD]; exact hl);rw[<-e];exact Zel ns'
  ·split at hsort
   ·rename_i ts hts
    split at hsort
    ·rename_i hne
     cases hsort;have eds:=ZmA hts;have hT:∀(i:Nat) t,ts[i]?=some t->∃b,us[i]?=some (.ref b)/\TI (h'.push (seqObj "list" us.toArray 0)) b t:=λi t e=>by
      have ed:ds[i]?=some (.tuple (HM.ofInts t)):=by rw[eds]; unfold HM.Zej; rw[Zw3,e]; rfl
      obtain⟨v,hv,rp⟩:=rv.get ed;generalize hq:HM.ofInts t=q at rp;cases rp with
      | @tupk b x h1 =>
       exfalso;cases t with
       | nil=>cases hq
       | cons a t =>
        injection hq with e1 _
        cases e1
      | @tup b _ xs hb hl hr=>subst hq;obtain⟨u,hu,ru'⟩:=ru.get hv;cases ru';have ev:=ZcH (F:=Zb3 F H) (Zoj t) ⟨hl,hr⟩;subst ev;have hH:H b=some (.tup (t.map V.int)):=(Ext.refl sub).tups.sub _ _ hb;obtain⟨z,its,rt,o,h1,h2,n,h3⟩:=(show ZV X.prog X.w H s.heap b (.tup (t.map V.int)) from I.hok b _ hH);exact⟨b,hu,o,its.toArray,n,ZwH _ (kp b o h1),h2,h3,by simpa using Zdl rt⟩
     have hlt:ts.length=us.length:=by have:=congrArg Zxl eds;unfold HM.Zej at this;rw[ZwD]at this;omega
     refine ZwB (ZxM (ZxZ slot_list_sort ⟨_,hoL,rfl⟩ ZAO (Zrh hoL hlt hT ?_ (by omega) λpm hp hs=>⟨_,rfl,?_⟩) (args_list_sort _)))
     ·rw[Zyb]at hne
      rcases hne with z | z
      ·left
       have:=of_decide_eq_true z;omega
      ·right
       intro t ht e;have:=ZwK.mp z t ht;rw[e]at this;cases this
     ·refine ZwF ⟨_,rfl,?_⟩
      have hpl:pm.length=us.length:=by rw[hp.length_eq,ZxR]
      have hmem:∀i∈pm,i<us.length:=λi hi=>ZwW.mp (hp.mem_iff.mp hi);have e:(pm.map λi=>ts.getD i [])=HM.Zee ts:=by
       refine Zrl ?_ hs;refine(hp.map _).trans ?_;have:(ZwG us.length).map (λi=>ts.getD i [])=ts:=by refine List.ext_getElem (by simp[hlt]) λi h1 h2=>?_;simp at h1;simp[Zx9,show i<ts.length by omega]
       rw[this]
      refine fin _ (pm.map λi=>vs.getD i V.non) ?_ ?_ (by rw[ZwD]; omega)
      ·refine Zgf (by simp) λk v u e1 e2=>?_
       rw[Zw3]at e1;rw[List.toList_toArray,Zw3]at e2;obtain⟨i,hi,rfl⟩:=ZwE.mp e1;rw[hi]at e2;cases e2;have hlt':=hmem i (Zw9 hi);have hv:vs[i]?=some (vs.getD i V.non):=by simp[Zx9,show i<vs.length by omega]
       obtain⟨u,hu,ru'⟩:=ru.get hv;have:us.getD i ZxD=u:=by simp[Zx9,hu]
       show RelV _ (us.getD i ZxD);rw[this];exact ru'
      ·rw[<-e]
       refine⟨by unfold HM.Zej; simp,λk d v e1 e2=>?_⟩;unfold HM.Zej at e1;rw[Zw3,Zw3]at e1;rw[Zw3]at e2;obtain⟨i,hi,rfl⟩:=ZwE.mp e2;rw[hi]at e1;have hlt':=hmem i (Zw9 hi);have hd:ds[i]?=some d:=by
        rw[eds]; unfold HM.Zej;rw[Zw3];have:ts[i]?=some (ts.getD i []):=by simp[Zx9,show i<ts.length by omega]
        rw[this];exact e1
       have hv:vs[i]?=some (vs.getD i V.non):=by simp[Zx9,show i<vs.length by omega]
       exact rv.2 i d _ hd hv
    ·cases hsort
   ·cases hsort
 ·cases hsort
end
end HP
namespace HP
open PySem PySem.Spec PySem.W PySem.Calls PyProof.Rows L2
variable[FX]
section
variable{prog:Program}{w:World}{A:Around}{E:Value->Shared->Prop}{s:Shared}
theorem Zlh{r:Addr}{a b c:Int}{t u v:Tok}{n:Nat}{R:List Value->Shared->Prop}(hh:A.handled=none)(hr:IsRange s.heap r a b c t u v)(hsmall:ZBc a b c=true)(hn:ZyV a b c=n)(hlen:n<=2 ^ 24)
  (h:∀(h':Heap) (tk:Nat) (acc:Array Value),(∀b o,s.heap.get? b=some o->h'.get? b=some o)->ItemsOf (λi v=>∃t,v=.int (a+i*c) t) acc n->R acc.toList { s with heap:=h',toks:=tk }) :
  wpAny (model prog w) A (collect (.ref r)) R E s:=by
 unfold collect;refine ZwB (wpAny_runValue (ZxV entry_proto_collect' ?_));rw[ZxG ZAg _];show wpAny _ A.in1 (newList [] >>= λl=>again (.builtin "list.__iadd__" ⟨[l,.ref r],[]⟩)) _ _ s;refine ZwB (ZxB (ZwF ⟨ZyJ ZyZ _,ZxV entry_list_iadd' ?_⟩));rw[ZxG ZyZ _];have hS₁:(s.heap.push { cls:=.type "list",data:=.seq ([]:List Value).toArray }).get? s.heap.objs.size=some { cls:=.type "list",data:=.seq #[] }:=ZwX _ rfl;show wpAny _ A.in1 (ZAh (.ref s.heap.objs.size) (.ref r) (.ref s.heap.objs.size)) _ _ _;have hr1:IsRange (s.heap.push { cls:=.type "list",data:=.seq ([]:List Value).toArray }) r a b c t u v:=ZwH _ hr;refine ZxQ (wpAny_extend_range (A:=A) (s:={ s with heap:=s.heap.push { cls:=.type "list",data:=.seq ([]:List Value).toArray } })
  (R:=λ(q:Result) (s':Shared)=>∃(h':Heap) (tk:Nat) (acc':Array Value) (c':Nat),q=.ok (.ret (.ref s.heap.objs.size))/\s'={ s with heap:=h',toks:=tk } /\
   (∀b o,s.heap.get? b=some o->h'.get? b=some o)/\h'.get? s.heap.objs.size=some { cls:=.type "list",dict:=none,data:=.seq acc' c',slots:=#[] }/\ItemsOf (λi v=>∃t,v=.int (a+i*c) t) acc' n)
  hh hr1 hsmall hn hlen s.heap.objs.size (.ref s.heap.objs.size) 0 hS₁
  (λh' tk acc' c' hk hS' hacc=>⟨h',tk,acc',c',rfl,rfl,λb o e=>hk b o (Zw1 (ZwU e)) (ZwH _ e),hS',hacc⟩)) (λfin s' x=>?_) λe s' x=>?_
 ·have go:∀(h':Heap) (tk:Nat) (acc':Array Value) (c':Nat),(∀b o,s.heap.get? b=some o->h'.get? b=some o)->h'.get? s.heap.objs.size=some { cls:=.type "list",dict:=none,data:=.seq acc' c',slots:=#[] }->ItemsOf (λi v=>∃t,v=.int (a+i*c) t) acc' n ->
    wpAny (model prog w) A (load s.heap.objs.size >>= λo=>match o.data with | .seq xs _=>pure xs.toList | _=>unsupported "internal:collect") R E { s with heap:=h',toks:=tk }:=λh' tk acc' c' hk hS' hacc =>
   ZwB (wpAny_load hS' (ZwF (h h' tk acc' hk hacc)))
  cases fin with
  | done f=>obtain⟨h',tk,acc',c',e,rfl,hk,hS',hacc⟩:=x;cases e;exact go h' tk acc' c' hk hS' hacc
  | again c₁=>refine⟨x.1,ZyA x.2 λq s₂ y=>?_⟩;obtain⟨h',tk,acc',c',rfl,rfl,hk,hS',hacc⟩:=y;exact go h' tk acc' c' hk hS' hacc
 ·obtain⟨_,_,_,_,e',_⟩:=x
  cases e'
end
theorem Zin(r:Addr)(a b c:Int)(t u v:Tok)(n:Nat)(hsmall:ZBc a b c=true)(hn:ZyV a b c=n)(hlen:n<=2 ^ 24) :
  Meets (Builtin.«tuple.__new__» ⟨[.type "tuple",.ref r],[]⟩)
   (λA R s=>A.handled=none/\IsRange s.heap r a b c t u v/\∀(h':Heap) (tk:Nat) (acc:Array Value),(∀b o',s.heap.get? b=some o'->h'.get? b=some o')->ItemsOf (λi v=>∃t,v=.int (a+i*c) t) acc n ->
    R (.ok (.ret (.ref h'.objs.size))) { s with heap:=h'.push { cls:=.type "tuple",data:=.seq acc },toks:=tk }) :=
 .of_wp λprog w A R s h=>by
  obtain⟨hp,g,d,tk,os⟩:=s; obtain⟨hh,ht,h⟩:=h;have hsub:=PySem.sub_tuple_self;have hinit:=PySem.init_tuple_lookup;have hmh:=PySem.madeHere_tuple;have hT:Shared.TypeIs ⟨hp,g,d,tk,os⟩ (.ref r) "range":=⟨_,ht,rfl⟩;have hh1:A.in1.handled=none:=hh
  wp_walk using wpAny_typeOf hT,Zlh hh1 ht hsmall hn hlen
  intro h' tk' acc hk hacc;show wpAny _ _ (ZAH acc.toList.toArray >>= λv=>ret v) _ _ _;unfold ZAH;have e:acc.toList.toArray=acc:=by simp
  rw[e];refine ZwB (ZxB ?_ (by show acc.size<=sizeLine; rw[hacc.1,ZxU]; omega));exact ZwF ⟨_,rfl,h h' tk' acc hk hacc⟩
section
variable{X:Cx}{a b c e:Expr}{fa fb fc:HM.EF}{pos p:Pos}{f:HM.BF}
theorem Zmz:ZaF X (.type "range") (λxs H Q=>∃j,xs=[.int j]/\∀l,H l=none->Q (.ref l) (upd H l (.rng 0 j))):=by intro pins s σ H xs us Q I r h;obtain⟨j,rfl,q⟩:=h;obtain⟨u,rfl,rx⟩:=vals1 r;obtain⟨t,rfl⟩:=rx;refine call_range_1 ⟨.ref s.heap.objs.size,_,I.laid (a:=s.heap.objs.size) (o:=.rng 0 j) (λb o e=>ZwH _ e) (ZwM _) ?_,rfl,q _ (I.hok.fresh (ZwM _))⟩;exact⟨_,_,_,ZwX _ rfl⟩
theorem Zn5(hc:X.calm=true):ZaF X (.type "tuple") (λxs H Q=>∃p lo hi,xs=[.ref p]/\H p=some (.rng lo hi)/\-1000000<lo/\lo<1000000/\-1000000<hi/\hi<1000000 /\
  ∀l,H l=none->Q (.ref l) (upd H l (.tup ((ZwG (hi-lo).toNat).map λ(k:Nat)=>V.int (lo+k))))):=by
 intro pins s σ H xs us Q I r h;obtain⟨p,lo,hi,rfl,hp,h1,h2,h3,h4,q⟩:=h;obtain⟨u,rfl,rx⟩:=vals1 r;cases rx;obtain⟨t,u,v,ho⟩:=(show ZV X.prog X.w H s.heap p (.rng lo hi) from I.hok p _ hp);have hn:ZyV lo hi 1=((hi-lo).toNat:Nat):=by rw[rangeSize_one]; split<;>omega
 refine callType_new PySem.F.called_tuple (by decide) (PySem.F.typeCall_tuple_1 _) (PySem.F.newCall_tuple_1 _) (λobj=>PySem.F.args_object_init_2 obj _) PySem.F.entry_tuple_new
  (Zin p lo hi 1 t u v (hi-lo).toNat (small_one (by omega) (by omega) (by omega) (by omega)) hn (by omega)) ⟨I.ok.hd hc,ho,λh' tk' acc kp hacc=>⟨⟨_,ZwX _ rfl,rfl⟩,?_⟩⟩
 have I1:Inv X pins σ H { s with heap:=h',toks:=tk' }:=I.kept kp;have rv:Vals ((ZwG (hi-lo).toNat).map λ(k:Nat)=>V.int (lo+k)) acc.toList:=by
  refine Zgf (by have z:acc.toList.length=acc.size:=Zw5; rw[ZwD,ZxR,z,hacc.1]) λi v u e1 e2=>?_;rw[Zw3]at e1;obtain⟨k,hk,rfl⟩:=ZwE.mp e1;obtain⟨t,rfl⟩:=hacc.2 i u (by rw[<-Zxu]; exact e2);have:k=i:=by have:=ZwQ.mp hk;obtain⟨_,e⟩:=this;simpa using e.symm
  subst this;exact⟨t,by simp⟩
 have I2:=I1.laid (a:=h'.objs.size) (o:=.tup ((ZwG (hi-lo).toNat).map λ(k:Nat)=>V.int (lo+k))) (h':=h'.push { cls:=.type "tuple",data:=.seq acc }) (t':=tk') (λb o e=>ZwH _ e) (ZwM _)
  ⟨by rw[ZwD,ZxR,ZxU]; omega,acc.toList,rv,by simpa using IsTup.new _ _⟩
 exact⟨.ref h'.objs.size,_,I2,rfl,q _ (I1.hok.fresh (ZwM _))⟩
theorem Zn6{K:ZwC}{F:Hp}(lo:Int)(n:Nat):Zq K F (HM.Zbe lo n) ((ZwG n).map λ(k:Nat)=>V.int (lo+k)):=by unfold HM.Zbe;refine⟨by simp,λi d v e1 e2=>?_⟩;rw[Zw3]at e1 e2;obtain⟨k,hk,rfl⟩:=ZwE.mp e1;rw[hk]at e2;cases e2;exact .int _
theorem Ziq(hmt:X.mg "tuple" = none)(hm:X.mg "range" = none)(hc:X.calm=true)(ha:XE X a fa){p' pos':Pos}(hgt:Gl X "tuple":=by rfl)(hg:Gl X "range":=by rfl)(hs:ZwP [a] X.env=[(false,eval a X.env)]:=by rfl)
  (hs2:ZwP [ZBi (.Name "range" p') [a] [] pos'] X.env=[(false,eval (ZBi (.Name "range" p') [a] [] pos') X.env)]:=by rfl) :
  XE X (.Call (.Name "tuple" p) [.Call (.Name "range" p') [a] [] pos'] [] pos) (HM.Zfm (HM.Zbp fa)):=by
 intro r d hd;unfold HM.Zfm at hd;split at hd
 ·rename_i ds hds
  split at hd
  ·cases hd
   unfold HM.Zbp at hds;split at hds
   ·rename_i j hj
    split at hds
    ·rename_i hok
     cases hds;obtain⟨k1,k2⟩:=Zh3 hok;refine PE.imp (ZcK (Zn5 hc) hgt hmt Zi0 (Z5 (ZcK Zmz hg hm boot_range (Z5 (ha r _ hj) Zbm hs) (he:=hs)) Zbm hs2) (he:=hs2)) λσ H Q ⟨F0,H0,F,at_,k⟩=>?_;refine⟨F0,H0,F,at_,λv F1 H1 x1 r1=>⟨j,by rw[r1.int_inv],λl hl=>?_⟩⟩;refine⟨l,0,j,rfl,Zz,by omega,by omega,by omega,by omega,λl2 hl2=>?_⟩;have x2:=x1.lay' (o:=.rng 0 j) hl;have x3:=x2.lay (o:=.tup ((ZwG (j-0).toNat).map λ(k:Nat)=>V.int (0+k))) hl2;have rp:=Zn6 (K:=X.K) (F:=upd F1 l2 (.tup ((ZwG (j-0).toNat).map λ(k:Nat)=>V.int (0+k)))) 0 j.toNat;have ej:(j-0).toNat=j.toNat:=by omega
     refine k _ _ _ x3 (.tup Zz ?_ ?_)
     ·rw[ej]; exact rp.1
     ·rw[ej]at rp ⊢; exact rp.2
    ·cases hds
   ·cases hds
  ·cases hd
 ·cases hd
theorem Zqe{K:ZwC}{F H:Hp}{q:HM.B}{v:V}{fp:List Addr}{ds:List PyData}(sub:Zp F H)(r:ZX K F H q v fp)(h:HM.Zsr q=some ds):∃a,v=.ref a/\ZhP K F H a ds:=by
 cases r with
 | pl r =>
  cases r with
  | tup h1 h2 h3=>cases h; exact⟨_,rfl,.tup (.of (sub _ _ h1)) ⟨h2,h3⟩⟩
  | @tupk a x h1=>cases h; exact⟨_,rfl,.tup (.inr h1) (.one (.str x))⟩
  | lst h1 h2 h3=>cases h; exact⟨_,rfl,.lst (sub.seq h1) ⟨h2,h3⟩⟩
  | dct _ _ _ _=>cases h
  | fn _=>cases h
  | non=>cases h
  | bl _=>cases h
  | int _=>cases h
  | str _=>cases h
 | ol h1 r=>cases h; exact⟨_,rfl,.lst (.of h1) r⟩
 | hd _ _ _ _=>cases h
 | hf _=>cases h
 | @ok a kvs vvs h1 h2 h3 =>
  cases h;refine⟨_,rfl,?_⟩;have e:(kvs.map λp=>HM.Zai p.1)=vvs.map λp=>HM.Zai p.1:=by
   have:=congrArg (Zz7 HM.Zai) h2
   rwa [Zw2,Zw2]at this
  rw[e];exact .dk h1
 | @ot a kvs vvs h1 h2 h3 =>
  cases h;refine⟨_,rfl,?_⟩;have e:(kvs.map λp=>Zxz (p.1.map HM.Zai))=vvs.map λp=>Zxz (p.1.map HM.Zai):=by
   have:=congrArg (Zz7 λk:List Key=>Zxz (k.map HM.Zai)) h2
   rwa [Zw2,Zw2]at this
  rw[e];exact .dt h1
 | @otl a kvs vvs ls h1 h2 h3 h4 =>
  cases h;refine⟨_,rfl,?_⟩;have e:(kvs.map λp=>Zxz (p.1.map HM.Zai))=vvs.map λp=>Zxz (p.1.map HM.Zai):=by
   have:=congrArg (Zz7 λk:List Key=>Zxz (k.map HM.Zai)) h2
   rwa [Zw2,Zw2]at this
  rw[e];exact .dt h1
theorem Zhb(hm:X.mg "sorted" = none)(hc:X.calm=true)(ha:XB X a f)(hg:Gl X "sorted":=by rfl)(hs:ZwP [a] X.env=[(false,eval a X.env)]:=by rfl):XF X (.Call (.Name "sorted" p) [a] [] pos) (HM.Zgl f):=by
 intro r d h;unfold HM.Zgl at h;split at h
 ·rename_i x hx
  split at h
  ·rename_i ds hds
   obtain⟨ds',h1,h2⟩:=ZwE.mp h;subst h2;refine PE.imp (ZcJ (ZmY hc) hg hm Zkx (Zeh ha hx hs) (he:=hs)) λσ H Q ⟨F0,H0,F,at_,k⟩=>?_;refine⟨F0,H0,F,at_,λv fp F1 H1 x1 r1=>?_⟩;obtain⟨l,e1,src⟩:=Zqe x1.sub r1 hds;subst e1;exact⟨l,F1,ds,ds',rfl,x1.sub,src,h1,λl' ws hl' rs=>ZdY (P:=λv _ H'=>Q v H') x1.tups rs hl' k⟩
  ·cases h
 ·cases h
theorem Zp4(hc:X.calm=true):ZaF X (.type "set") (λxs H Q=>∃p ns,xs=[.ref p]/\SqL X.K H p (ns.map V.int)/\(∀n∈ns,0<=n/\n<8)/\∀l,H l=none->Q (.ref l) (upd H l (.ext λh=>ZcX X.prog X.w h l (HM.dedup [] ns)))):=by intro pins s σ H xs us Q I r h;obtain⟨p,ns,rfl,hq,hb,q⟩:=h;obtain⟨u,rfl,rx⟩:=vals1 r;cases rx;obtain⟨its,rv,pl,hz⟩:=I.list hq;refine Zqb (I.ok.hd hc) pl.isList (by simpa using Zdl rv) hb λh' tk hS kp=>?_;have hS':=hS;obtain⟨o,es,ep,t,ho,_⟩:=hS';refine⟨.ref s.heap.objs.size,_,I.laid (a:=s.heap.objs.size) (o:=.ext λh=>ZcX X.prog X.w h s.heap.objs.size (HM.dedup [] ns)) (λb o e=>kp b o (ZwU e) e) (ZwM _) ?_,rfl,q _ (I.hok.fresh (ZwM _))⟩;exact⟨hS,⟨o,ho⟩,λh1 h2 x kk=>x.at' kk⟩
theorem Zml(hc:X.calm=true):ZaF X (.builtin "sorted") (λxs H Q=>∃p L,xs=[.ref p]/\H p=some (.ext λh=>ZcX X.prog X.w h p L)/\∀l,H l=none->Q (.ref l) (upd H l (.lst ((HM.sortI L).map V.int)))):=by
 intro pins s σ H xs us Q I r h;obtain⟨p,L,rfl,hp,q⟩:=h;obtain⟨u,rfl,rx⟩:=vals1 r;cases rx;obtain⟨hX,_,_⟩:=(show ZV X.prog X.w H s.heap p (.ext λh=>ZcX X.prog X.w h p L) from I.hok p _ hp);obtain⟨o,es,ep,t,ho,hex,hd,hen,hpm,hpl,ht⟩:=hX;have hsz:=size_of hpl;have hfew:=ht.few;have raw:ZdM X.w s.heap p es ep t:=⟨⟨o,ho,hex,hd⟩,by rw[hsz]; exact ht.fits,hsz,ht⟩;refine ZAz kind_sorted plain_sorted entry_sorted (args_sorted1 _) ?_;unfold Builtin.«sorted»;refine ZwB (m:=checkCount "sorted" 1 1 _) (ZwF ?_);refine ZwB (Zf6 (Zs4 (es:=es) (ep:=ep) (t:=t)) (I.ok.hd hc) raw (by rw[ZxU]; omega) λh' tk acc kp _ hacc=>?_);have hal:acc.toList.length=es.size:=by rw[Zw5]; exact hacc.1
 have hI:IntsAre acc.toList ((Zc8 X.w p es ep).toList.map ZdL):=by
  have key:∀(us:List Value) (xs:List (Int × Value)),us.length=xs.length->(∀(i:Nat) u,us[i]?=some u->∃e,xs[i]?=some e/\u=e.2)->(∀e∈xs,∃n t,e=((intKind X.prog X.w).hash n,Zyp n t))->IntsAre us (xs.map ZdL):=by
   intro us
   induction us with
   | nil=>intro xs hl _ _; cases xs with | nil=>exact .nil | cons _ _=>simp at hl
   | cons u us ih =>
    intro xs hl hk he;cases xs with
    | nil=>simp at hl
    | cons x xs=>obtain⟨e,e1,e2⟩:=hk 0 u rfl;simp at e1;subst e1;obtain⟨n,t,e3⟩:=he x (ZwI ..);rw[e2,e3];exact .cons n t (ih xs (by simpa using hl) (λi u e=>hk (i+1) u (by simpa using e)) λe h=>he e (ZwJ _ h))
  refine key acc.toList (Zc8 X.w p es ep).toList (by rw[hal,Zw5,Zht]) (λi u e=>?_) λe h=>hen e ((ZhC X.w p es ep).mem_iff.mp h);obtain⟨e',e1,e2⟩:=hacc.2 i u (by rw[<-Zxu]; exact e);exact⟨e',by rw[Zxu]; exact e1,e2⟩
 refine ZwB (wpAny_newList ?_ (by rw[hal,ZxU]; omega));have hoL:(h'.push (seqObj "list" acc.toList.toArray 0)).get? h'.objs.size=some (seqObj "list" acc.toList.toArray 0):=ZwX _ rfl;show wpAny _ _ _ _ _ { s with heap:=h'.push (seqObj "list" acc.toList.toArray 0),toks:=tk };refine ZwB (ZxM (ZxZ slot_list_sort ⟨_,hoL,rfl⟩ ZAO (list_sort_tree hoL hI (by omega) λout ns' a1 a2 a3=>⟨_,rfl,?_⟩) (args_list_sort _)));refine ZwF ⟨_,rfl,?_⟩;have e:ns'=HM.sortI L:=Zmy (a2.trans (((ZhC X.w p es ep).map ZdL).trans hpm)) a3;have hl:ns'.length<64:=by rw[a2.length_eq,<-hI.length,hal]; omega
 obtain⟨ee,he⟩:=sortedHeap_at (out:=out) hoL;have I1:Inv X pins σ H { s with heap:=h',toks:=tk }:=I.kept kp;refine⟨.ref h'.objs.size,_,I1.laid (a:=h'.objs.size) (o:=.lst (ns'.map V.int)) (t':=tk) (λb o e1=>?_) (ZwM _) ⟨by rw[ZwD,ZxU]; omega,out.toList,ee,ZgP a1,by simpa using he⟩,rfl,?_⟩
 ·exact ZiE (Zw1 (ZwU e1)) (ZwH _ e1)
 ·rw[e]; exact q _ (I1.hok.fresh (ZwM _))
theorem Zlz(hm:X.mg "sorted" = none)(hm2:X.mg "set" = none)(hc:X.calm=true){p' pos':Pos}(ha:XB X a f)(hg:Gl X "sorted":=by rfl)(hg2:Gl X "set":=by rfl)(hs:ZwP [a] X.env=[(false,eval a X.env)]:=by rfl)
  (hs2:ZwP [ZBi (.Name "set" p') [a] [] pos'] X.env=[(false,eval (ZBi (.Name "set" p') [a] [] pos') X.env)]:=by rfl) :
  XF X (.Call (.Name "sorted" p) [.Call (.Name "set" p') [a] [] pos'] [] pos) (HM.ZgD f):=by
 intro r d h;unfold HM.ZgD at h;split at h
 ·rename_i x hx
  split at h
  ·rename_i ds hds
   split at h
   ·rename_i ns hns
    split at h
    ·rename_i hlow
     cases h;refine PE.imp (ZcJ (Zml hc) hg hm Zkx (Z5 (ZcK (Zp4 hc) hg2 hm2 Zus (Zeh ha hx hs) (he:=hs)) Zbm hs2) (he:=hs2)) λσ H Q ⟨F0,H0,F,at_,k⟩=>?_;refine⟨F0,H0,F,at_,λv fp F1 H1 x1 r1=>?_⟩;obtain⟨l,vs,e1,hq,rs⟩:=ZdT x1.sub r1 hds;subst e1;rw[ZcH hns rs]at hq;refine⟨l,ns,rfl,hq,λn hn=>?_,λl2 hl2=>⟨l2,_,rfl,Zz,λl3 hl3=>?_⟩⟩
     ·have:=ZwK.mp hlow n hn
      rw[ZwZ,decide_eq_true_eq,decide_eq_true_eq]at this;exact this
     ·have x2:=x1.lay' (o:=.ext λh=>ZcX X.prog X.w h l2 (HM.dedup [] ns)) hl2
      exact ZdY (P:=λv _ H'=>Q v H') x2 (Zel _) hl3 k
    ·cases h
   ·cases h
  ·cases h
 ·cases h
end
end HP
namespace HP
open PySem PySem.Spec PyProof.Rows L2
variable[FX]
section
variable{X:Cx}{a b:Expr}{fa:HM.EF}{f:HM.BF}{pos:Pos}
theorem ZmJ(i:Int):∀ns:List Int,inV (.int i) (ns.map V.int)=ns.contains i
 | []=>rfl
 | n::ns=>by have ih:=ZmJ i ns;unfold inV at ih ⊢;rw[ZwL,ZyH,ih,List.contains_cons];show(n==i||_)=(i==n||_);rw[show(n==i)=(i==n) from Zyd.mpr ⟨λh=>beq_iff_eq.mpr (beq_iff_eq.mp h).symm,λh=>beq_iff_eq.mpr (beq_iff_eq.mp h).symm⟩]
theorem ZkH:∀ns:List Int,(ns.map V.int).all Zbi=true
 | []=>rfl
 | n::ns=>by rw[ZwL,ZxN,ZkH ns]; rfl
theorem ZrH{r:HM.Env}{d:PyData}(h:HM.Zne fa f r=some d):∃i q ds ns,fa r=some (.int i)/\f r=some q/\HM.Zey q=some ds/\HM.Zax ds=some ns/\d=.bool (ns.contains i):=by
 unfold HM.Zne at h;split at h
 ·split at h
  ·split at h
   ·obtain⟨c,h1,h2⟩:=ZwE.mp h
    obtain⟨ns,h3,h4⟩:=ZwE.mp h1;exact⟨_,_,_,ns,by assumption,by assumption,by assumption,h3,by rw[<-h2,<-h4]⟩
   ·cases h
  ·cases h
 ·cases h
theorem Zr1{neg:Bool}{r:HM.Env}{i:Int}{q:HM.B}{ds:List PyData}{ns:List Int}(ha:XE X a fa)(hb:XB X b f)(h1:fa r=some (.int i))(h2:f r=some q)(h3:HM.Zey q=some ds)(h4:HM.Zax ds=some ns){op:CmpOp}(ho:OpR X (Zx6 op) (rIn X.K neg))(hm:Zyn op b=false) :
  PE X (.Compare a [op] [b] pos) (tAt X.K r λ_ F' _ v=>v=.bl (if neg then !ns.contains i else ns.contains i)):=by
 refine PE.imp (ZoC ho (ha r _ h1) (hb r q h2) hm) λσ H Q ⟨F0,H0,F,at_,k⟩=>?_;refine⟨F0,H0,F,at_,λv F1 H1 x1 r1=>⟨F0,H0,F1,at_.grow x1,λw F2 H2 x2 ⟨fp,r2⟩=>?_⟩⟩;obtain⟨p,vs,e1,hq,rs⟩:=Zi1 x2.sub r2 h3;cases r1;rw[ZcH h4 rs]at hq;refine⟨p,_,e1,hq,rfl,ZkH ns,k _ F2 H2 (x1.trans x2) ?_⟩;rw[ZmJ]
theorem ZtI(ha:XE X a fa)(hb:XB X b f)(hm:Zyn .In b=false:=by rfl):XE X (.Compare a [.In] [b] pos) (HM.Zne fa f):=by intro r d h;obtain⟨i,q,ds,ns,h1,h2,h3,h4,rfl⟩:=ZrH h;refine PE.imp (Zr1 ha hb h1 h2 h3 h4 Zp0 hm) λσ H Q ⟨F0,H0,F,at_,k⟩=>⟨F0,H0,F,at_,λv F' H' x e=>k v F' H' x ?_⟩;subst e;exact .bl _
theorem ZtJ(hb:XB X b f)(he:∀whole,isTrue b X.env whole=(do let v <-whole; standAt b.pos; holding [v] (truthy v)):=by intro _; rfl):XT X b (HM.Zhw f):=by
 intro r c h;unfold HM.Zhw at h;split at h
 ·rename_i ds hd
  cases h;refine PT.imp (Zr2 (hb r _ hd) he) λσ H Q ⟨F0,H0,F,at_,k⟩=>?_;refine⟨F0,H0,F,at_,λv F1 H1 x1 ⟨fp,r1⟩=>?_⟩;obtain⟨p,vs,e1,hq,rs⟩:=ZdT x1.sub r1 (ds:=ds) rfl;subst e1;refine⟨_,.inl ⟨vs,hq,rfl⟩,?_⟩;have:=k F1 H1 x1;have e:ds.isEmpty=vs.isEmpty:=by have:=rs.1;cases ds<;>cases vs<;>simp_all
  rwa [e]at this
 ·cases h
end
end HP
namespace HP
open PySem PySem.Spec PyProof.Rows L2
variable[FX]
section
variable{X:Cx}{c e:Expr}{fa:HM.EF}{t:HM.TF}{g:HM.SF}{pos:Pos}{body:List Stmt}
theorem ZlA(n:Nat)(hxe:X.xe=λ_ _=>False)(hc:XT X c t)(hb:XSs X body g):XS X (.While c body [] pos) (HM.ZmZ n t g):=by
 intro r o ho;have ho:HM.Zbh t g n r=some o:=ho;have pb:PSs X body (λE σ H=>∃r o,g r=some o/\tSt X.K r o E σ H):=λpins s σ H E I ⟨r,o,h1,h2⟩=>hb r o h1 pins s σ H E I h2;have pc:PT X c (λσ H Q=>∃r b,t r=some b/\Now X.K r σ H λF0 H0 F=>∀F' H',Ext F H F' H'->Q b H'):=λpins s σ H Q I ⟨r,b,h1,h2⟩=>hc r b h1 pins s σ H Q I h2;refine PS.imp (Zrs (ZkK hxe) pc pb) λE σ H ⟨F0,H0,F,at_,k⟩=>?_;refine⟨λm σ H=>∃F r,At X.K F0 H0 F H r σ/\HM.Zbh t g m r=some o,⟨n,F,r,at_,ho⟩,?_⟩
 rintro m σ H ⟨F2,r2,at2,go⟩
 cases m with
 | zero=>cases go
 | succ m =>
  unfold HM.Zbh at go;split at go
  ·rename_i ht
   refine⟨r2,true,ht,F0,H0,F2,at2,λF' H' x=>?_⟩;dsimp only;rw[if_pos rfl];have at3:=at2.grow x;have a4:=at3.rebase;refine⟨λσ' H'=>∃F r,At X.K F0 H0 F H' r σ'/\HM.Zbh t g m r=some o,λσ' H' q=>⟨m,ZyQ m,q⟩,?_⟩;split at go
   ·rename_i r' hr
    exact⟨_,_,hr,F',H0,F',a4,λσ' F' H' a'=>⟨F',r',a'.unbase at3.ext at3.nt0,go⟩⟩
   ·rename_i r' hr
    exact⟨_,_,hr,F',H0,F',a4,λσ' F' H' a'=>⟨F',r',a'.unbase at3.ext at3.nt0,go⟩⟩
   ·rename_i r' hr
    cases go;exact⟨_,_,hr,F',H0,F',a4,λσ' F' H' a'=>k σ' F' H' (a'.unbase at3.ext at3.nt0)⟩
   ·rename_i d hr
    cases go;exact⟨_,_,hr,F',H0,F',a4,λv F' H' x q=>k v F' H' (at3.ext.unbase x) q⟩
   ·cases go
  ·rename_i ht
   cases go;refine⟨r2,false,ht,F0,H0,F2,at2,λF' H' x=>?_⟩;dsimp only;rw[if_neg (by simp)];exact k σ F' H' (at2.grow x)
  ·cases go
end
end HP
namespace HP
open PySem PySem.Spec PyProof.Rows L2
variable[FX]
section
variable{X:Cx}{a b:Expr}{fa:HM.EF}{f:HM.BF}{pos:Pos}
open Classical in
end
end HP
namespace HP
open PySem PySem.Spec PyProof.Rows L2
variable[FX]
section
variable{X:Cx}{a b c e:Expr}{fa fb fc:HM.EF}{f:HM.BF}{pos p:Pos}{es:List Expr}
theorem rdT{F F':Hp}{a:Addr}{vvs:List (List Key × V)}(r:Rd F a (.dT vvs))(s:Zab F F'):Rd F' a (.dT vvs):=r.imp (λh=>s _ _ h) λ⟨o,h⟩=>⟨o,s _ _ h⟩
theorem Zo6{H:Hp}{a b:Addr}{kvs:List (List Key × V)}{k:List Key}(e:Rd H a (.dT kvs))(eb:H b=some (.tup (k.map kV))):Zcf H a (.ref b) (Zal kvs k):=.inr ⟨kvs,k,b,e,rfl,eb,rfl⟩
theorem Zi8{K:ZwC}{F H:Hp}{q:HM.B}{v:V}{fp:List Addr}{kvs:List (List Key × PyData)}(sub:Zp F H)(r:ZX K F H q v fp)(h:HM.ZjS q=some kvs):∃l vvs,v=.ref l/\Rd H l (.dT vvs)/\Zam K F kvs vvs:=by
 cases r with
 | pl r =>
  cases r with
  | @dct l es kvs' vvs h1 h2 h3 h4=>subst h2;have h:HM.ZeE (HM.Zi kvs')=some kvs:=h;rw[HM.dec_enc]at h;cases h;refine⟨l,vvs,rfl,Zig h1 sub,h3,?_,h4⟩;have:=congrArg Zxl h3;rw[ZwD,ZwD]at this;rw[ZwD,ZwD,this]
  | fn _=>cases h
  | tupk _=>cases h
  | tup _ _ _=>cases h
  | lst _ _ _=>cases h
  | non=>cases h
  | bl _=>cases h
  | int _=>cases h
  | str _=>cases h
 | ol _ _=>cases h
 | ok _ _ _=>cases h
 | @ot l kvs vvs h1 h2 h3=>cases h; exact⟨l,vvs,rfl,.inl h1,h2,h3⟩
 | @hd l o es kvs' vvs h1 h2 h3 h4=>subst h2;have h:HM.ZeE (HM.Zi kvs')=some kvs:=h;rw[HM.dec_enc]at h;cases h;exact⟨l,vvs,rfl,.inr ⟨o,sub _ _ h1⟩,h3,h4⟩
 | hf _=>cases h
 | otl _ _ _ _=>cases h
theorem Zri{r:HM.Env}{d:PyData}(h:HM.Zl7 fa f r=some d):∃x q kvs y,fa r=some x/\f r=some q/\HM.ZjS q=some kvs/\HM.Za5 x=some y/\d=.bool (HM.Zf kvs y).isSome:=by
 unfold HM.Zl7 at h;split at h
 ·split at h
  ·split at h
   ·obtain⟨y,h1,h2⟩:=ZwE.mp h
    exact⟨_,_,_,y,by assumption,by assumption,by assumption,h1,h2.symm⟩
   ·cases h
  ·cases h
 ·cases h
theorem ZnX{r:HM.Env}{d:PyData}(h:HM.Zdg fa f r=some d):∃x q kvs y,fa r=some x/\f r=some q/\HM.ZjS q=some kvs/\HM.Za5 x=some y/\d=.bool (!(HM.Zf kvs y).isSome):=by
 unfold HM.Zdg at h;split at h
 ·split at h
  ·split at h
   ·obtain⟨y,h1,h2⟩:=ZwE.mp h
    exact⟨_,_,_,y,by assumption,by assumption,by assumption,h1,h2.symm⟩
   ·cases h
  ·cases h
 ·cases h
theorem ZtK(hu:X.A.units+1<cLine)(ha:XE X a fa)(hb:XB X b f)(hm:Zyn .In b=false:=by rfl):XT X (.Compare a [.In] [b] pos) (HM.tV (HM.Zl7 fa f)):=by intro r d h;obtain⟨x,q,kvs,y,h1,h2,h3,h4,e⟩:=Zri (ZhF h);cases e;refine PT.imp (Zl6 (ZuO hu (ha r x h1) (hb r q h2)) hm) λσ H Q ⟨F0,H0,F,at_,k⟩=>?_;refine⟨F0,H0,F,at_,λv F1 H1 x1 r1=>⟨F0,H0,F1,at_.grow x1,λw F2 H2 x2 ⟨fp,r2⟩=>?_⟩⟩;obtain⟨l,vvs,e1,e2,T⟩:=Zi8 x2.sub r2 h3;obtain⟨bb,rfl,hbb⟩:=Zcd h4 (r1.mono x2.ff);exact⟨l,_,e1,Zo6 e2 (x2.sub _ _ hbb),_,rfl,by rw[T.some_iff]; exact k F2 H2 (x1.trans x2)⟩
theorem Zkm(hu:X.A.units+1<cLine)(ha:XE X a fa)(hb:XB X b f)(hm:Zyn .NotIn b=false:=by rfl):XT X (.Compare a [.NotIn] [b] pos) (HM.tV (HM.Zdg fa f)):=by intro r d h;obtain⟨x,q,kvs,y,h1,h2,h3,h4,e⟩:=ZnX (ZhF h);cases e;refine PT.imp (Zl6 (Zkw hu (ha r x h1) (hb r q h2)) hm) λσ H Q ⟨F0,H0,F,at_,k⟩=>?_;refine⟨F0,H0,F,at_,λv F1 H1 x1 r1=>⟨F0,H0,F1,at_.grow x1,λw F2 H2 x2 ⟨fp,r2⟩=>?_⟩⟩;obtain⟨l,vvs,e1,e2,T⟩:=Zi8 x2.sub r2 h3;obtain⟨bb,rfl,hbb⟩:=Zcd h4 (r1.mono x2.ff);exact⟨l,_,e1,Zo6 e2 (x2.sub _ _ hbb),_,rfl,by rw[T.some_iff]; exact k F2 H2 (x1.trans x2)⟩
theorem Zf8(hu:X.A.units+1<cLine)(ha:XB X a f)(hk:XE X b fb)(hs:ZmS b:=by intro _ _; rfl):XE X (.Subscript a b pos) (HM.ZaY f fb):=by
 intro r d h;unfold HM.ZaY at h;split at h
 ·rename_i q hq
  split at h
  ·rename_i kvs hd
   split at h
   ·rename_i x hx
    split at h
    ·rename_i y hy
     refine PE.imp (ZoH hu (ha r q hq) (hk r x hx) hs) λσ H Q ⟨F0,H0,F,at_,kk⟩=>?_;refine⟨F0,H0,F,at_,λv F1 H1 x1 ⟨fp,r1⟩=>⟨F0,H0,F1,at_.grow x1,λw F2 H2 x2 r2=>?_⟩⟩;obtain⟨l,vvs,e1,e2,T⟩:=Zi8 x1.sub r1 hd;have e2':=rdT e2 x2.hh;have T':Zam X.K F2 kvs vvs:=⟨T.1,T.2.mono x2.ff⟩;obtain⟨bb,rfl,hbb⟩:=Zcd hy r2;obtain⟨u,q1,q2⟩:=T'.look.1 d h;exact⟨l,u,e1,by rw[<-q1]; exact Zo6 e2' (x2.sub _ _ hbb),kk u F2 H2 (x1.trans x2) q2⟩
    ·cases h
   ·cases h
  ·cases h
 ·cases h
structure XAL(X:Cx)(es:List Expr)(f:HM.AF):Prop where
 len:∀r ds,f r=some ds->ds.length=es.length
 pa:∀r ds,f r=some ds->PA X es λσ H Q=>Now X.K r σ H λF0 H0 F=>∀vs F' H',Ext F H F' H'->Zq X.K H' ds vs->Q vs H'
theorem ZX.lent{K:ZwC}{F H:Hp}{q:HM.B}{v:V}{fp:List Addr}{d:PyData}(sub:Zp F H)(r:ZX K F H q v fp)(h:HM.frz q=some d):Rep K H d v:=by
 cases r with
 | pl r=>cases h; exact r.mono sub
 | ol h1 r=>cases h; exact .lst (.of h1) r.1 (r.mono sub).2
 | ok _ _ _=>cases h
 | hd h1 he hk r=>cases h; exact(Rep.dct (.inr ⟨_,h1⟩) he hk r.2).mono sub
 | hf h1=>cases h; exact(Rep.fn h1).mono sub
 | ot h1 hk r=>cases h; exact .dct (.inl h1) rfl hk (r.mono sub).2
 | otl _ _ _ _=>cases h
end
end HP
namespace HP
open PySem PySem.Spec PyProof.Rows L2
variable[FX]
section
variable{X:Cx}{a b c e:Expr}{fa fb fc:HM.EF}{f:HM.BF}{pos p:Pos}{es:List Expr}
theorem ZtL{g:HM.AF}(h:XA X es g):XAL X es g :=
 ⟨h.len,λr ds hd=>PA.imp (h.pa r ds hd) λσ H Q ⟨F0,H0,F,at_,k⟩=>⟨F0,H0,F,at_,λvs F' H' x q=>k vs F' H' x (q.mono x.sub)⟩⟩
theorem ZlB{g:HM.AF}(ha:XE X e fa)(hr:XAL X es g)(hs:ZwP (e::es) X.env=(false,eval e X.env)::ZwP es X.env:=by rfl):XAL X (e::es) (HM.Zd fa g):=by
 refine⟨λr ds h=>?_,λr ds h=>?_⟩
 ·unfold HM.Zd at h
  split at h
  ·obtain⟨xs,h1,h2⟩:=ZwE.mp h
   subst h2;rw[ZwS,ZwS,hr.len r xs h1]
  ·cases h
 unfold HM.Zd at h;split at h
 ·rename_i x hx
  obtain⟨xs,h1,h2⟩:=ZwE.mp h;subst h2;refine PA.imp (Z5 (ha r x hx) (hr.pa r xs h1) hs) λσ H Q ⟨F0,H0,F,at_,k⟩=>?_;exact⟨F0,H0,F,at_,λv F1 H1 x1 r1=>⟨F0,H0,F1,at_.grow x1,λvs F2 H2 x2 r2=>k (v::vs) F2 H2 (x1.trans x2) (.cons ((r1.mono x2.ff).mono x2.sub) r2)⟩⟩
 ·cases h
theorem Zq8{g:HM.AF}(ha:XB X e f)(hr:XAL X es g)(hs:ZwP (e::es) X.env=(false,eval e X.env)::ZwP es X.env:=by rfl):XAL X (e::es) (HM.Zd (HM.Zpv f) g):=by
 refine⟨λr ds h=>?_,λr ds h=>?_⟩
 ·unfold HM.Zd at h
  split at h
  ·obtain⟨xs,h1,h2⟩:=ZwE.mp h
   subst h2;rw[ZwS,ZwS,hr.len r xs h1]
  ·cases h
 unfold HM.Zd at h;split at h
 ·rename_i x hx
  obtain⟨xs,h1,h2⟩:=ZwE.mp h;subst h2;obtain⟨q,hq,hf⟩:=Zzy.mp hx;refine PA.imp (Z5 (ha r q hq) (hr.pa r xs h1) hs) λσ H Q ⟨F0,H0,F,at_,k⟩=>?_;exact⟨F0,H0,F,at_,λv F1 H1 x1 ⟨fp,r1⟩=>⟨F0,H0,F1,at_.grow x1,λvs F2 H2 x2 r2=>k (v::vs) F2 H2 (x1.trans x2) (.cons ((r1.lent x1.sub hf).monoT x2.hh) r2)⟩⟩
 ·cases h
theorem Rep.flat{K:ZwC}{F F':Hp}{d:PyData}{v:V}(r:Rep K F d v)(h:HM.Zjw d=true):Rep K F' d v:=by
 cases r with
 | non=>exact .non
 | bl b=>exact .bl b
 | int i=>exact .int i
 | str x=>exact .str x
 | tupk _=>cases h
 | tup _ _ _=>cases h
 | lst _ _ _=>cases h
 | dct _ _ _ _=>cases h
 | fn _=>cases h
theorem Ext.forget{F H F'' H'':Hp}(s:Zp F H)(n:NoT F)(x:Ext (Zce H) H F'' H''):Ext F H F H'' :=
 ⟨Zp.refl F,x.hh,(n.sub s).trans (x.ff.trans x.sub),λ_ _ z=>.inl z,x.tab,id⟩
theorem Zp9(hc:X.calm=true):ZaF X (.builtin "max") (λxs H Q=>∃(p:Addr) (ns:List Int),xs=[.ref p]/\SqL X.K H p (ns.map V.int)/\0<ns.length/\∀M,M∈ns->(∀a,a∈ns->a<=M)->Q (.int M) H):=by
 intro pins s σ H xs us Q I r h;obtain⟨p,ns,rfl,hq,hne,q⟩:=h;obtain⟨u,rfl,rx⟩:=vals1 r;cases rx;obtain⟨its,rv,pl,hz⟩:=I.list hq;have hi:=Zdl rv;obtain⟨xs,e⟩:=hi.allInts.items;have hns:ns=xs.toList.map (·.1):=by rw[<-hi.numsOf,<-nums_intItems,<-e]
 have hsz:0<xs.size:=by have h3:=hne; rw[hns,ZwD,Zw5]at h3; exact h3
 have hl:=pl.isList;rw[e]at hl;refine max_intList (I.ok.hd hc) hl hsz λv h' tk hv hk=>?_;obtain⟨t,rfl⟩:=intItems_at hv;obtain⟨h1,h2⟩:=argBest_gt (numAt xs) (xs.size-1);refine⟨.int _,H,I.kept (t':=tk) hk,⟨t,rfl⟩,q _ ?_ λa ha=>?_⟩
 ·rw[hns,numAt_eq]; exact getD_mem (by rw[ZwD,Zw5]; omega)
 ·rw[hns]at ha
  obtain⟨j,hj,rfl⟩:=mem_getD ha;rw[ZwD,Zw5]at hj;rw[<-numAt_eq]; exact h2 j (by omega)
theorem Zn8(hm:X.mg "max" = none)(hc:X.calm=true)(ha:XB X a f)(hg:Gl X "max":=by rfl)(hs:ZwP [a] X.env=[(false,eval a X.env)]:=by rfl):XE X (.Call (.Name "max" p) [a] [] pos) (HM.ZeP f):=by
 intro r d h;unfold HM.ZeP at h;split at h
 ·rename_i x hx
  split at h
  ·rename_i ds hds
   split at h
   ·rename_i ns hns
    obtain⟨m,h1,h2⟩:=ZwE.mp h;subst h2;refine PE.imp (ZcJ (Zp9 hc) hg hm Zp3 (Zeh ha hx hs) (he:=hs)) λσ H Q ⟨F0,H0,F,at_,k⟩=>?_;refine⟨F0,H0,F,at_,λv fp F1 H1 x1 r1=>?_⟩;obtain⟨l,vs,e1,hq,rs⟩:=ZdT x1.sub r1 hds;rw[ZcH hns rs]at hq;obtain⟨m1,m2⟩:=ZzS.mp h1;refine⟨l,ns,by rw[e1],hq,List.length_pos_of_mem m1,λM k1 k2=>?_⟩;have:M=m:=Int.le_antisymm (m2 M k1) (k2 m m1);subst this;exact k _ F1 H1 x1 (.int _)
   ·cases h
  ·cases h
 ·cases h
end
end HP
namespace HP
open PySem PySem.Spec PyProof.Rows L2
variable[FX]
end HP
namespace HP
open PySem PySem.Spec PyProof.Rows L2
variable[FX]
section
variable{X:Cx}{a b c e:Expr}{fa fb fc:HM.EF}{f:HM.BF}{pos p:Pos}{es:List Expr}
theorem ZpO(i:Nat){x:Str}{p1 p2 p3:Pos}(ha:XB X a f)(hN:X.N[i]?=some x:=by rfl)(hv:Vis X.env.scope x:=by first | exact ZxA rfl | exact Zxg (ZxA rfl) | exact Zxg (Zxg rfl))(hd:(x==("__debug__":Str))=false:=by decide)(hcd:(x==("__classdict__":Str))=false:=by decide)
  (hbase:Zy0 (.Name x p1) "extend" X.env (eval (.Name x p1) X.env)=eval (.Name x p1) X.env:=by rfl)
  (hfew:((backTo p3 (ZwP [a] X.env)).all (λx=>!x.1)&&(backToKw p3 (ZAc [] X.env)).all (λx=>x.1.isSome)&&decide (([a]:List Expr).length+([]:List Keyword).length+(if([]:List Keyword).isEmpty then 0 else 1)<30))=true:=by rfl)
  (hline:(p2.endLine==p3.line)=true:=by rfl) (hs:ZwP [a] X.env=[(false,eval a X.env)]:=by rfl):XS X (.Expr (.Call (.Attribute (.Name x p1) "extend" p2) [a] [] p3) pos) (HM.Zih i f):=by
 intro r o h;unfold HM.Zih at h;split at h
 ·rename_i ds hds
  split at h
  ·rename_i es hes
   split at h
   ·rename_i hz
    cases h;refine PS.imp (Zid (Zpr ZyY PySem.F.slot_list_extend PySem.F.type_list_extend Zqu (Zb9 hN hv hd hcd) (Z5 (ha r _ hes) Zbm hs) hbase hfew hline hs rfl)) λE σ H ⟨F0,H0,F,at_,k⟩=>?_;obtain⟨l,vs,e1,e2,e3,_⟩:=at_.chgList (es:=ds) hds;refine⟨.ref l,e1,.inl ⟨rfl,_,SqL.of e2⟩,F0,H0,F,at_,λv F1 H1 x1 ⟨fp,r1⟩=>?_⟩;have at1:=at_.grow x1;obtain⟨l',vs',f1,f2,f3,f4⟩:=at1.chgList (es:=ds++es) hds;rw[e1]at f1;cases f1;cases r1 with
    | @ol b _ us hb rs =>
     refine⟨_,b,vs',us,rfl,rfl,f2,hb,?_,k _ F1 _ (f4 _ (f3.append rs))⟩;have e4:=f3.1;have e6:=rs.1;have e5:(1000000:Nat)<=sizeLine:=by decide
     unfold HM.big at hz;omega
   ·cases h
  ·cases h
 ·cases h
theorem ZtM(i j:Nat){x y:Str}{p1 p2 p3 p4:Pos}(hN:X.N.Nodup)(hNi:X.N[i]?=some x:=by rfl)(hNj:X.N[j]?=some y:=by rfl)(hx:Loc X.env.scope x:=by first | exact ZxA rfl | exact Zxg rfl)(hv:Vis X.env.scope y:=by first | exact ZxA rfl | exact Zxg (ZxA rfl) | exact Zxg (Zxg rfl))(hd:(y==("__debug__":Str))=false:=by decide)(hcd:(y==("__classdict__":Str))=false:=by decide)
  (hbase:Zy0 (.Name y p1) "pop" X.env (eval (.Name y p1) X.env)=eval (.Name y p1) X.env:=by rfl) (hline:(p2.endLine==p3.line)=true:=by rfl)
  (hs:Zy1 (.Call (.Attribute (.Name y p1) "pop" p2) [] [] p3) (some (.Name x p4)) pos.line X.env=pure false:=by rfl) (hf:X.fn x=true\/X.env.scope.names.lookup x=some .local:=by first | exact .inl rfl | exact .inr rfl) :
  XS X (.Assign [.Name x p4] (.Call (.Attribute (.Name y p1) "pop" p2) [] [] p3) pos) (HM.ZrS i j):=by
 intro r o h;unfold HM.ZrS at h;split at h
 ·rename_i ds hds
  split at h
  ·rename_i d hd'
   cases h;refine PS.imp (Zmp hN hNi hx (Zuv ZyY PySem.F.slot_list_pop PySem.F.type_list_pop ZuR (Zb9 hNj hv hd hcd) hbase hline) hs hf) λE σ H ⟨F0,H0,F,at_,k⟩=>?_;obtain⟨l,vs,e1,e2,e3,e4⟩:=at_.chgList (es:=ds.dropLast) hds;obtain⟨v,q1,q2⟩:=e3.get hd';refine⟨.ref l,e1,.inl ⟨rfl,_,SqL.of e2⟩,l,vs,v,rfl,rfl,e2,by rw[<-e3.1]; exact q1,k _ F _ ((e4 _ ?_).set q2)⟩;rw[ZA2,ZA2,<-e3.1];exact e3.take _
  ·cases h
 ·cases h
def spF(K:ZwC)(n:Nat)(M:List PyData->Option PyData):Sp:=λvs H Q _=>∃F ds ys,vs.length=n/\Zp F H/\Tb H/\NoT F/\Zq K F ds vs/\M ds=some (.list ys)/\∀l us F' H',Ext F H F' H'->H' l=some (.lst us)->Zq K F' ys us->F' l=none->H l=none->Q (.ref l) H'
structure Zdi(P:Program)(w:World)(K:ZwC)(mg:Str->Option Value)(base:Heap)(k:Nat)(x:Str)(M:List PyData->Option PyData):Prop where
 ex:∃f fd ps,(∀ds d,M ds=some d->ds.length=ps.length)/\ZcL P w K mg base CX0 k f fd ps (spF K ps.length M)/\mg x=some (.ref f)/\Zx1 K (.ref f)=true/\Binds K fd ps []
theorem Zdi.mono{P:Program}{w:World}{K:ZwC}{mg:Str->Option Value}{base:Heap}{j k:Nat}{x:Str}{M:List PyData->Option PyData}(C:Zdi P w K mg base j x M)(h:j<=k):Zdi P w K mg base k x M:=by obtain⟨f,fd,ps,l,F,r⟩:=C.ex;exact⟨f,fd,ps,l,F.mono h,r⟩
theorem Zq9{k:Nat}{x:Str}{g:HM.AF}{M:List PyData->Option PyData}(C:Zdi X.prog X.w X.K X.mg X.base k x M)(hr:Zah k X.A)(ha:XA X (e::es) g)(hg:Gl X x:=by rfl)(hdb:(x==("__debug__":Str))=false:=by decide)
  (he:ZwP (e::es) X.env=(false,eval e X.env)::ZwP es X.env:=by rfl) (hpl:(backTo pos (ZwP es X.env)).any (·.1)=false:=by rfl):XF X (.Call (.Name x p) (e::es) [] pos) (HM.Zhs M g):=by
 intro r d hd;unfold HM.Zhs at hd;split at hd
 ·rename_i ds hds
  split at hd
  ·rename_i ys hM
   cases hd;obtain⟨fa,fd,ps,hl,F,hm,hk,hb⟩:=C.ex;refine PE.imp (Zj2 (E:=E0) F hr hg hm hk hb .nil Zpd (ha.pa r ds hds) hdb he hpl) λσ H Q ⟨F0,H0,F1,at_,k⟩=>?_;refine⟨F0,H0,F1,at_,λvs F' H' x q=>?_⟩;show spF X.K ps.length M (vs++[]) H' Q E0;rw[Zxe];refine⟨F',ds,ys,by rw[<-q.1]; exact hl ds _ hM,x.sub,at_.tbx x,at_.ntx x,q,hM,λl us F2 H2 x2 h1 h2 h3 h4=>k _ F2 H2 (x.trans x2) ⟨[l],.ol h1 h2,by simp,λa ha=>?_⟩⟩;obtain rfl:a=l:=by simpa using ha
   exact⟨h3,x.hh.free h4⟩
  ·cases hd
 ·cases hd
theorem Zpx{P:Program}{w:World}{K:ZwC}{mg:Str->Option Value}{base:Heap}{k:Nat}{x qual:Str}{st:Stmt}{f:Addr}{fd:FuncData}{N ps:List Str}{e:Expr}{g:HM.BF}{p1:Pos}(Fn:Fun K x qual st f fd)(S:Zw N ps (Ze st))(hm:mg x=some (.ref f))(hb:Binds K fd ps [])
  (hst:Zau st=[.Return (some e) p1]) (hol:∀r b,g r=some b->∃ys,b=.ol ys)
  (body:∀(cdv:Value) (A:Around) (outer:List Env) (s:Shared) (H:Hp) (E:XK),Zah k (A.deeper (envOfC qual (Ze st) s.heap.objs.size f cdv))->XF (Zfk CX0 P w K mg base N qual (Ze st) f cdv A outer s H E).nox e g) :
  Zdi P w K mg base (k+1) x (HM.fnOf ps.length N.length (HM.ZJ (HM.eOf g))):=by
 have hpl:ps.length<=N.length:=by have:=congrArg Zxl S.pre; rw[Zye]at this; omega
 refine⟨f,fd,ps,λds d h=>?_,Fn.ok S (λvs H Q E h=>?_) (λcdv A outer s H vs Q E hr h=>?_),hm,Fn.kp,hb⟩
 ·unfold HM.fnOf at h
  split at h
  ·assumption
  ·cases h
 ·obtain⟨_,_,_,h,_⟩:=h
  exact h
 ·obtain⟨F,ds,ys,hl,sub,tb,nt,q,hM,kk⟩:=h
  unfold HM.fnOf at hM;split at hM
  ·rename_i hds
   have a0:=Zfy (N:=N) sub tb nt q (by omega);have hg:g (HM.ZdN N.length ds)=some (.ol ys):=by
    split at hM
    ·rename_i r hr'
     cases hq:HM.eOf g (HM.ZdN N.length ds)with
     | none=>unfold HM.ZJ at hr'; rw[hq]at hr'; cases hr'
     | some d=>unfold HM.ZJ at hr'; rw[hq]at hr'; cases hr'
    ·rename_i d' hr'
     cases hM;obtain⟨d,h1,h2⟩:=ZwE.mp hr';cases h2;obtain⟨b,h3,h4⟩:=Zzy.mp h1;obtain⟨zs,rfl⟩:=hol _ _ h3;cases h4;exact h3
    ·cases hM
   rw[hst];refine⟨_,Zob (ZmV (body cdv A outer s H E hr _ _ hg)),F,H,F,a0,λv F' H' x ⟨fp,r1,nd,hn⟩=>?_⟩;cases r1 with
   | @ol l _ us h1 h2=>exact kk l us F' H' x h1 h2 (hn l (by simp)).1 (hn l (by simp)).2
  ·cases hM
theorem Zro(i:HM.IF)(c:HM.TF)(e:HM.EF)(r:HM.Env)(b:HM.B)(h:HM.ZC i c e r=some b):∃ys,b=.ol ys:=by
 unfold HM.ZC at h;split at h
 ·split at h
  ·obtain⟨ys,_,h2⟩:=ZwE.mp h
   exact⟨ys,h2.symm⟩
  ·cases h
 ·cases h
end
end HP
namespace HP
open PySem PySem.Spec PyProof.Rows L2
variable[FX]
section
variable{K:ZwC}{F H F0 H0 G:Hp}{a b:Addr}{ob u:HO}{vvs:List (List Key × V)}{d:PyData}{v:V}{ds:List PyData}{vs:List V}{r:HM.Env}{σ:L2.St}{i:Nat}{es:List (PyData × PyData)}
theorem ZaJ(h:b≠a):sw a ob G b=G b:=by unfold sw; rw[if_neg h]
theorem ZeN:sw a ob G a=(G a).map λ_=>ob:=by unfold sw; rw[if_pos rfl]
theorem ZoE(s:Zp F H):Zp (sw a ob F) (sw a ob H):=λb o z=>by
 by_cases hb:b=a
 ·subst hb
  rw[ZeN]at z ⊢;obtain⟨x,h1,h2⟩:=ZwE.mp z;rw[s _ _ h1,<-h2]; rfl
 ·rw[ZaJ hb]at z ⊢; exact s b o z
theorem Zsv(hG:∀u,G a=some u->u=.dT vvs):sw a (.dT vvs) (sw a ob G)=G:=by
 funext b
 by_cases hb:b=a
 ·subst hb
  rw[ZeN,ZeN];cases h:G b with
  | none=>rfl
  | some u=>rw[hG u h]; rfl
 ·rw[ZaJ hb,ZaJ hb]
theorem Dk.nt(h:Dk vvs u):(∀xs,u≠.tup xs)/\(∀xs,u≠.lst xs)/\(∀o xs,u≠.frz o (.lst xs))/\(∀ps,u≠.tbl ps)/\(∀x,u≠.own x):=by rcases h with h | ⟨o,h⟩<;>subst h<;>exact⟨λ_ z=>(by cases z),λ_ z=>(by cases z),λ_ _ z=>(by cases z),λ_ z=>(by cases z),λ_ z=>(by cases z)⟩
theorem Rep.sw(hF:∀u,F a=some u->Dk vvs u)(hob:Dk vvs ob)(r:Rep K F d v):Rep K (HP.sw a ob F) d v:=by
 induction r with
 | non=>exact .non
 | bl b=>exact .bl b
 | int i=>exact .int i
 | str x=>exact .str x
 | fn h=>exact .fn (FX.sw hF hob h)
 | tupk h=>exact .tupk h
 | @tup b ds vs h hl _ ih=>exact .tup (by rw[ZaJ (λz=>(hF _ (z▸h)).nt.1 _ rfl)]; exact h) hl ih
 | @lst b ds vs h hl _ ih =>
  refine .lst ?_ hl ih;rcases h with h | h
  ·refine .inl ?_
   have hb:b≠a:=λz=>by
    rcases h with h | ⟨o,h⟩
    ·exact(hF _ (z▸h)).nt.2.1 _ rfl
    ·exact(hF _ (z▸h)).nt.2.2.1 _ _ rfl
   unfold Rd;rw[ZaJ hb];exact h
  ·exact .inr h
 | @dct b es kvs vvs' h he hk _ ih =>
  refine .dct ?_ he hk ih
  by_cases hb:b=a
  ·subst hb
   have:vvs'=vvs/\∃u,F b=some u:=by
    rcases h with h | ⟨o,h⟩
    ·rcases hF _ h with z | ⟨o',z⟩
     ·cases z; exact⟨rfl,_,h⟩
     ·cases z
    ·rcases hF _ h with z | ⟨o',z⟩
     ·cases z
     ·cases z; exact⟨rfl,_,h⟩
   obtain⟨rfl,u,hu⟩:=this;unfold Rd;rw[ZeN,hu];rcases hob with z | ⟨o,z⟩
   ·subst z; exact .inl rfl
   ·subst z; exact .inr ⟨o,rfl⟩
  ·unfold Rd
   rw[ZaJ hb];exact h
theorem Zq.sw(hF:∀u,F a=some u->Dk vvs u)(hob:Dk vvs ob)(r:Zq K F ds vs):Zq K (HP.sw a ob F) ds vs:=⟨r.1,λi d v h1 h2=>(r.2 i d v h1 h2).sw hF hob⟩
theorem Ext.sw(x:Ext F0 H0 F H)(hH:∀u,H a=some u->Dk vvs u)(hob:Dk vvs ob):Ext (HP.sw a ob F0) (HP.sw a ob H0) (HP.sw a ob F) (HP.sw a ob H) :=
 ⟨ZoE x.ff,x.hh.sw,ZoE x.sub,λb o z=>by
  by_cases hb:b=a
  ·subst hb
   rw[ZeN]at z;obtain⟨u,h1,h2⟩:=ZwE.mp z;rcases x.new b u h1 with q | q | ⟨xs,e,q⟩
   ·exact .inl (by rw[ZeN,q,<-h2]; rfl)
   ·exact .inr (.inl (by rw[ZeN,q]; rfl))
   ·exact absurd e ((hH _ (x.sub _ _ h1)).nt.1 xs)
  ·rw[ZaJ hb]at z
   rcases x.new b o z with q | q
   ·exact .inl (by rw[ZaJ hb]; exact q)
   ·refine .inr ?_
    unfold Fre;rw[ZaJ hb];exact q,λt=>(x.tab (t.unsw hob)).sw hH,λt b o z=>by
  unfold HP.sw at z;split at z
  ·obtain⟨u,_,e⟩:=ZwE.mp z
   subst e; exact hob.ntt
  ·rename_i hb
   refine x.nts (λc u y=>?_) b o z
   by_cases hc:c=a
   ·subst hc; exact(hH _ (x.sub _ _ (x.ff _ _ y))).ntt
   ·exact t c u (by rw[ZaJ hc]; exact y)⟩
theorem At.sw(e:At K F0 H0 F H r σ)(hFa:F a=some u)(hu:Dk vvs u)(hob:Dk vvs ob)(nh:∀(i:Nat) (es:List (PyData × PyData)),r[i]?≠some (some (HM.B.hd es))):At K (HP.sw a ob F0) (HP.sw a ob H0) (HP.sw a ob F) (HP.sw a ob H) r σ:=by
 obtain⟨fp,e⟩:=e;have hF:∀u,F a=some u->Dk vvs u:=λu' h=>by rw[hFa]at h; cases h; exact hu
 have hH:∀u,H a=some u->Dk vvs u:=λu' h=>by rw[e.sub _ _ hFa]at h; cases h; exact hu
 have own:∀i,∀c∈fp i,c≠a:=λi c hc z=>by rw[<-z,(e.own i c hc).1]at hFa; cases hFa
 refine⟨fp,e.ext.sw hH hob,e.len,λi b h=>?_,e.emp,λi b h=>?_,e.nd,e.dis,e.tb.sw (vvs:=vvs) (λu' z=>by have q:=e.ext.hh.back z (e.sub _ _ hFa) hu.nt.2.2.2.1;rw[q]; exact hu),λb o z=>?_⟩
 rotate_left 2
 ·unfold HP.sw at z
  split at z
  ·obtain⟨u,_,e⟩:=ZwE.mp z
   subst e; exact hob.ntt
  ·exact e.nt b o z
 ·obtain⟨v,h1,h2⟩:=e.at_ i b h
  refine⟨v,h1,?_⟩;have own:=own i;generalize fp i=f at h2 own;cases h2 with
  | pl q=>exact .pl (q.sw hF hob)
  | ol k q=>exact .ol (by rw[ZaJ (own _ (by simp))]; exact k) (q.sw hF hob)
  | ok k hk q=>exact .ok (by rw[ZaJ (own _ (by simp))]; exact k) hk (q.sw hF hob)
  | ot k hk q=>exact .ot (by rw[ZaJ (own _ (by simp))]; exact k) hk (q.sw hF hob)
  | otl k hk hv q=>refine .otl (by rw[ZaJ (own _ (by simp))]; exact k) hk hv λi ds l h1 h2=>?_;obtain⟨vs,q1,q2⟩:=q i ds l h1 h2;exact⟨vs,by rw[ZaJ (own l (ZwJ _ (Zw9 h2)))]; exact q1,q2.sw hF hob⟩
  | hd _ _ _ _=>exact absurd h (nh _ _)
  | hf _=>exact absurd h (nh _ _)
 ·rw[ZaJ (own i b h),ZaJ (own i b h)]
  exact e.own i b h
theorem set_same{x:Option V}(h:σ[i]?=some x):σ.set i x=σ:=by obtain⟨h1,h2⟩:=ZwQ.mp h;rw[<-h2];exact Zzb h1
theorem At.say{b':HM.B}(e:At K F0 H0 F H r σ)(h1:σ[i]?=some (some v))(q:ZX K F H b' v []):At K F0 H0 F H (r.set i (some b')) σ:=by
 have:=e.store (i:=i) q Zyq (λa h=>by simp at h) λ_ _ _ _ _ _ h=>by simp at h
 rwa [set_same h1]at this
theorem At.loosen(e:At K F0 H0 F H r σ)(h:r[i]?=some (some (.hd es))):At K F0 H0 F H (r.set i (some (.pl (.dict es)))) σ:=by
 obtain⟨v,fp,h1,h2⟩:=e.any h;cases h2 with
 | hd k1 k2 k3 k4=>exact e.say h1 (.pl (.dct (.inr ⟨_,k1⟩) k2 k3 k4.2))
 | hf k1=>exact e.say h1 (.pl (.fn k1))
theorem Zsn(h:r.all (λq=>!HM.ZaW q)=true)(i:Nat)(es:List (PyData × PyData)):r[i]?≠some (some (.hd es)):=λz=>by have:=ZwK.mp h _ (Zw9 z);cases this
theorem Zqg{b':HM.B}(h:(r.set i none).all (λq=>!HM.ZaW q)=true)(hb:∀es,b'≠.hd es)(j:Nat)(es:List (PyData × PyData)):(r.set i (some b'))[j]?≠some (some (.hd es)):=λz=>by
 by_cases hj:i=j
 ·subst hj
  by_cases hi:i<r.length
  ·rw[Zxp hi]at z
   injection z with z
   injection z with z
   exact hb _ z
  ·rw[ZAX (by rw[ZxO]; omega)]at z
   cases z
 ·rw[Zw8 hj]at z
  exact Zsn h j es (by rw[Zw8 hj]; exact z)
end
section
variable{X:Cx}{pins:List (Addr × Obj)}{σ:L2.St}{H:Hp}{s:Shared}{a:Addr}{u ob:HO}{vvs:List (List Key × V)}
theorem Zls{h:Heap}{o:HO}{b:Addr}(ha:H a=some u)(hu:Dk vvs u)(x:ZV X.prog X.w H h b o):ZV X.prog X.w (sw a ob H) h b o :=
 x.stay (λ_ _ _ q=>q) (λc q=>by rw[ZaJ (λz=>by rw[z,ha]at q; cases q; exact hu.nt.2.2.2.2 _ rfl)]; exact q) λc xs q=>by rw[ZaJ (λz=>by rw[z,ha]at q; cases q; exact hu.nt.1 _ rfl)]; exact q
theorem Zmg(I:Inv X pins σ H s)(ha:H a=some u)(hu:Dk vvs u)(ok:ZV X.prog X.w (sw a ob H) s.heap a ob)(hn:∀o w,X.H₀ a≠some (.frz o w)):Inv X pins σ (HP.sw a ob H) s:=by
 have none':∀b,H b=none->HP.sw a ob H b=none:=λb h=>by rw[ZaJ (λz=>by rw[z,ha]at h; cases h)]; exact h
 refine⟨I.ok,I.os,I.bare,⟨I.base.keep,I.base.slot,λb o h1 h2 h3=>none' b (I.base.free b o h1 h2 h3),I.base.there,λb xs h=>?_,λb o w h=>?_,λb ps h=>?_⟩,I.loc,I.cell,none' _ I.free,λx c h=>none' _ (I.freeC x c h),λp hp=>?_,λb o h=>?_,I.len⟩
 ·have q:=I.base.tups b xs h
  rw[ZaJ (λz=>by rw[z,ha]at q; cases q; exact hu.nt.1 _ rfl)];exact q
 ·have q:=I.base.frzs b o w h
  rw[ZaJ (λz=>hn o w (by rw[<-z]; exact h))];exact q
 ·obtain⟨m,q⟩:=I.base.tbls b ps h
  exact⟨m,by rw[ZaJ (λz=>by rw[z,ha]at q; cases q; exact hu.nt.2.2.2.1 _ rfl)]; exact q⟩
 ·have q:=I.pin p hp
  exact⟨q.1,none' _ q.2.1,q.2.2⟩
 ·by_cases hb:b=a
  ·subst hb
   rw[ZeN,ha]at h;cases h;exact ok
  ·rw[ZaJ hb]at h
   exact Zls ha hu (I.hok b o h)
theorem ZhX(i:Nat){st:Stmt}{g:HM.SF}(h:XS X st g):XS X st (HM.Zd8 i g):=by
 intro r o ho;unfold HM.Zd8 at ho;split at ho
 case h_2=>exact h r o ho
 rename_i es hr;split at ho
 case isFalse=>cases ho
 rename_i hall;have nh:=Zsn hall;intro pins s σ H E I ⟨F0,H0,F,at_,k⟩;obtain⟨v,h1,h2⟩:=at_.plain hr;cases h2 with
 | @dct a _ kvs vvs hd he hk hrr =>
  have rs:∀{F':Hp},Zp F F'->Zq X.K F' (kvs.map (·.2)) (vvs.map (·.2)):=λs=>by refine Zq.mono ⟨?_,hrr⟩ s;have:=congrArg Zxl hk;rw[ZwD,ZwD]at this ⊢;exact this
  rcases hd with hd | ⟨q,hd⟩
  ·have hHa:=at_.sub _ _ hd
   obtain⟨z,y,xs,rl,q,es1,ep,e1,c1⟩:=(show ZV X.prog X.w H s.heap a (.dT vvs) from I.hok a _ hHa);have hn:∀o w,X.H₀ a≠some (.frz o w):=λo w z=>by have:=I.base.frzs _ _ _ z;rw[hHa]at this; cases this
   have I1:=Zmg (ob:=.frz q (.dT vvs)) I hHa (.inl rfl) ⟨e1,Zls hHa (.inl rfl) ⟨z,y,xs,rl,q,es1,ep,e1,c1⟩⟩ hn;have at1:=at_.sw (ob:=.frz q (.dT vvs)) hd (.inl rfl) (.inr ⟨q,rfl⟩) nh;have Ra:HP.sw a (.frz q (.dT vvs)) F a=some (.frz q (.dT vvs)):=by rw[ZeN,hd]; rfl
   have hFd:∀u,F a=some u->Dk vvs u:=λu z=>by rw[hd]at z; cases z; exact .inl rfl
   have at2:=(at1.say (i:=i) h1 (.hd Ra he hk (Zq.sw hFd (.inr ⟨q,rfl⟩) (rs (Zp.refl F))))).rebase;have e0:HP.sw a (.dT vvs) (HP.sw a (.frz q (.dT vvs)) F0)=F0:=Zsv λu z=>by have:=at_.ext.ff _ _ z;rw[hd]at this; cases this; rfl
   have e1:HP.sw a (.dT vvs) (HP.sw a (.frz q (.dT vvs)) H0)=H0:=Zsv λu z=>by exact at_.ext.hh.back z hHa λ_ w=>by cases w
   split at ho
   ·rename_i r' hg
    split at ho
    case h_2=>cases ho
    rename_i es' hr';split at ho
    case isFalse=>cases ho
    rename_i hall';cases ho;refine thn (h _ _ hg pins s σ _ { nx:=λσ' H'=>∃F',At X.K (HP.sw a (.frz q (.dT vvs)) F) (HP.sw a (.frz q (.dT vvs)) H0) F' H' r' σ',rt:=λ_ _=>False,bk:=λ_ _=>False,ct:=λ_ _=>False } I1 ⟨_,_,_,at2,λσ' F' H' a'=>⟨F',a'⟩⟩) λfl s' z=>?_;cases fl with
    | next=>obtain⟨σ',H',I',F',a'⟩:=z;have Fa:=a'.ext.ff _ _ Ra;have Ha:=a'.sub _ _ Fa;have a3:=((At.unbase at1.ext (at1.nt0) a').loosen hr').sw (ob:=.dT vvs) Fa (.inr ⟨q,rfl⟩) (.inl rfl) (Zqg hall' λ_ z=>by cases z);rw[e0,e1]at a3;exact⟨σ',_,Zmg I' Ha (.inr ⟨q,rfl⟩) (Zls Ha (.inr ⟨q,rfl⟩) (Zjn I'.hok (.inr ⟨q,Ha⟩))) hn,k σ' _ _ a3⟩
    | brk=>obtain⟨_,_,_,z⟩:=z; exact z.elim
    | cont=>obtain⟨_,_,_,z⟩:=z; exact z.elim
    | ret u=>obtain⟨_,_,_,_,_,z⟩:=z; exact z.elim
   ·rename_i d hg
    cases ho;refine thn (h _ _ hg pins s σ _ { nx:=λ_ _=>False,bk:=λ_ _=>False,ct:=λ_ _=>False,rt:=λv' H'=>∃F',Ext (HP.sw a (.frz q (.dT vvs)) F) (HP.sw a (.frz q (.dT vvs)) H0) F' H'/\Rep X.K F' d v' } I1 ⟨_,_,_,at2,λv' F' H' x q=>⟨F',x,q⟩⟩) λfl s' z=>?_;cases fl with
    | ret u=>obtain⟨v',σ',H',I',rv,F',x',r'⟩:=z;have Fa:=x'.ff _ _ Ra;have Ha:=x'.sub _ _ Fa;have x3:=(Ext.unbase at1.ext x').sw (a:=a) (vvs:=vvs) (ob:=.dT vvs) (λu z=>by rw[Ha]at z; cases z; exact .inr ⟨q,rfl⟩) (.inl rfl);rw[e0,e1]at x3;exact⟨v',σ',_,Zmg I' Ha (.inr ⟨q,rfl⟩) (Zls Ha (.inr ⟨q,rfl⟩) (Zjn I'.hok (.inr ⟨q,Ha⟩))) hn,rv,k v' _ _ x3 (r'.sw (λu z=>by rw[Fa]at z; cases z; exact .inr ⟨q,rfl⟩) (.inl rfl))⟩
    | next=>obtain⟨_,_,_,z⟩:=z; exact z.elim
    | brk=>obtain⟨_,_,_,z⟩:=z; exact z.elim
    | cont=>obtain⟨_,_,_,z⟩:=z; exact z.elim
   ·cases ho
  ·have at2:=at_.say (i:=i) h1 (.hd hd he hk (rs (Zp.refl F)))
   split at ho
   ·rename_i r' hg
    split at ho
    case h_2=>cases ho
    rename_i es' hr';split at ho
    case isFalse=>cases ho
    cases ho;exact h _ _ hg pins s σ H E I ⟨F0,H0,F,at2,λσ' F' H' a'=>k σ' F' H' (a'.loosen hr')⟩
   ·rename_i d hg
    cases ho;exact h _ _ hg pins s σ H E I ⟨F0,H0,F,at2,k⟩
   ·cases ho
 | fn hv =>
  have at2:=at_.say (i:=i) h1 (.hf hv);split at ho
  ·rename_i r' hg
   split at ho
   case h_2=>cases ho
   rename_i es' hr';split at ho
   case isFalse=>cases ho
   cases ho;exact h _ _ hg pins s σ H E I ⟨F0,H0,F,at2,λσ' F' H' a'=>k σ' F' H' (a'.loosen hr')⟩
  ·rename_i d hg
   cases ho;exact h _ _ hg pins s σ H E I ⟨F0,H0,F,at2,k⟩
  ·cases ho
def Itd(a:Addr)(o:Obj):It :=
 ⟨λi H=>∃vvs q,H a=some (.frz o (.dT vvs))/\vvs[i]?=some q,λi H x H'=>H'=H/\∀vvs,H a=some (.frz o (.dT vvs))->∃q b,vvs[i]?=some q/\x=.ref b/\H b=some (.tup (q.1.map kV)),λi H=>∃vvs,H a=some (.frz o (.dT vvs))/\vvs.length<=i⟩
theorem Zo3{α β:Type}{R:α->β->Prop}{l:List α}{m:List β}(r:Paired R l m):∀{i:Nat} {x:α},l[i]?=some x->∃y,m[i]?=some y/\R x y:=by
 induction r with
 | nil=>intro i x e; simp at e
 | @cons p q _ _ hq _ ih =>
  intro i x e;cases i with
  | zero=>rw[ZyX]at e; cases e; exact⟨q,rfl,hq⟩
  | succ i=>rw[Zxh]at e ⊢; exact ih e
theorem Zqz{P:Program}{w:World}{K:ZwC}{tg:Expr}(a it:Addr)(o:Obj)(es:Array DictEntry)(ep:Nat)(hd:o.data=.dict es ep):Turn P w K tg (Itd a o) [it] it (λi h=>h.IsKeyIter it a i es.size ep) where
 mem:=by simp
 obj:=λi h st b hb=>by
  have e:b=it:=by simpa using hb
  subst e;obtain⟨o,e,c,d⟩:=st;exact⟨o,e,λv z=>by rw[d]at z; cases z⟩
 keep:=λi h h' st k=>st.at λo e=>k it (by simp) o e
 item:=by
  intro X hP hw hK hc i pins s σ H E I hf st hg;subst hP hw hK;obtain⟨vvs,q,hH,hq⟩:=hg;obtain⟨h1,z,lo,xs,rel,o2,es2,ep2,h2,h3,h4,h5,h6⟩:=(show ZV X.prog X.w H s.heap a (.frz o (.dT vvs)) from I.hok a _ hH);rw[h1]at h2;cases h2;rw[hd]at h4;cases h4;obtain⟨f0,f1,f2,f3,f4,f5⟩:=hf it (by simp);obtain⟨p,hp,hr1,hr2,_⟩:=Zo3 rel hq;have he:es[i]?=some (entryOfKey (ZzQ (Zaf X.prog X.w)) p):=by rw[<-Zxu,h5,Zw3,hp]; rfl
  refine Znu st ⟨o,h1,h3,hd⟩ he λh' st' sb=>?_;have I1:Inv X pins σ H { s with heap:=h' }:=I.turned (t':=s.toks) (λb o hb e=>(sb.2 b hb).trans e) f0 f1 f3 f4 f5;obtain⟨oi,e,c,d⟩:=id st';refine⟨_,rfl,Zlr (s:={ s with heap:=h' }) e c d (by decide) ⟨.ref p.2.1,H,I1,rfl,⟨rfl,λvv hv=>?_⟩,st',λb hb=>(hf b hb).1⟩⟩;rw[hH]at hv;cases hv;exact⟨q,p.2.1,hq,rfl,hr2⟩
 done:=by
  intro X hP hw hK hc i pins s σ H E I hf st hg;subst hP hw hK;obtain⟨vvs,hH,hq⟩:=hg;obtain⟨h1,z,lo,xs,rel,o2,es2,ep2,h2,h3,h4,h5,h6⟩:=(show ZV X.prog X.w H s.heap a (.frz o (.dT vvs)) from I.hok a _ hH);rw[h1]at h2;cases h2;rw[hd]at h4;cases h4;obtain⟨f0,f1,f2,f3,f4,f5⟩:=hf it (by simp);have hl:vvs.length=xs.length:=ZyG rel;have hes:es.size=xs.length:=by rw[<-Zw5,h5,ZwD]
  exact Zoe (I.ok.hd hc) st ⟨o,h1,h3,hd⟩ (by omega) λh' eb=>⟨rfl,I.turned (t':=s.toks) (λb o hb e=>eb b o hb e) f0 f1 f3 f4 f5⟩
 self:=λ_ _ _ _ _ st h=>wpAny_pyIter_keyiter st h
theorem ZsW{tg l:Expr}{tl:TE}(hl:PE X l tl):PI X tg l (λσ H R=>tl σ H λx H1=>∃a o vvs,x=.ref a/\H1 a=some (.frz o (.dT vvs))/\R (Itd a o) H1):=by
 intro pins s σ H R I h;refine thn (hl pins s σ H _ I h) λv s1 ⟨x,H1,I1,r1,a,o,vvs,e,hH,q⟩=>?_;subst e;cases r1;obtain⟨h1,z,lo,xs,rel,o2,es,ep,h2,h3,h4,h5,h6⟩:=(show ZV X.prog X.w H1 s1.heap a (.frz o (.dT vvs)) from I1.hok a _ hH);rw[h1]at h2;cases h2;refine Zm0 lo ⟨o,h1,h3,h4⟩ ⟨s1.heap.objs.size,[s1.heap.objs.size],_,_,H1,rfl,I1.kept (t':=s1.toks) λb o e=>ZwH _ e,Zqz a _ o es ep h4,⟨_,ZwX _ rfl,rfl,rfl⟩,λb hb=>?_,q⟩;obtain rfl:b=s1.heap.objs.size:=by simpa using hb
 exact I1.fpOk (ZwM _) (I1.hok.fresh (ZwM _))
theorem ZrF{K:ZwC}{F:Hp}{a:Addr}{o:Obj}{kvs:List (List Key × PyData)}{vvs:List (List Key × V)}(h:F a=some (.frz o (.dT vvs)))(hk:kvs.map (·.1)=vvs.map (·.1)):ItD K (Itd a o) (kvs.map λp=>.tuple (p.1.map HM.Zai)) F:=by
 intro F' H s1 s2;have hH:=s2 _ _ (s1 _ _ h);have hl:kvs.length=vvs.length:=by
  have:=congrArg Zxl hk
  rwa [ZwD,ZwD]at this
 refine⟨λi d hd=>?_,vvs,hH,by rw[ZwD,hl]; exact ZwM _⟩;rw[Zw3]at hd;obtain⟨q,hq,hd⟩:=ZwE.mp hd;subst hd;have hi:i<vvs.length:=by rw[<-hl]; exact(ZwQ.mp hq).1
 have hw:vvs[i]?=some vvs[i]:=ZwR hi;have hw1:vvs[i].1=q.1:=by
  have:(kvs.map (·.1))[i]?=(vvs.map (·.1))[i]?:=by rw[hk]
  rw[Zw3,Zw3,hq,hw]at this;exact(Zxx this).symm
 refine⟨⟨vvs,_,hH,hw⟩,λx H' hy=>?_⟩;obtain⟨e,y⟩:=hy;refine⟨e,?_⟩;obtain⟨q',b,e1,e2,e3⟩:=y vvs hH;rw[hw]at e1;cases e1;subst e2;rw[hw1]at e3;have rk:=ZfD (K:=K) (F:=Zb3 F' H) q.1;exact .tup (Zmw e3) rk.1 rk.2
theorem ZhY(i:Nat){tg:Expr}{x:Str}{pos:Pos}(hN:X.N[i]?=some x:=by rfl)(hv:Vis X.env.scope x:=by first | exact ZxA rfl | exact Zxg (ZxA rfl) | exact Zxg (Zxg rfl))(hd:(x==("__debug__":Str))=false:=by decide)
  (hcd:(x==("__classdict__":Str))=false:=by decide):XI X tg (.Name x pos) (HM.ZaK i):=by
 intro r ds h;have row:∀{d:PyData},r[i]?=some (some (.pl d))->HM.Zey (.pl d)=some ds->HM.ZW (HM.bOf (HM.Zb i)) r=some ds:=λ{d} h1 h2=>by
  have e:HM.Zb i r=some d:=by unfold HM.Zb; rw[h1]
  unfold HM.ZW HM.bOf;rw[e];exact h2
 unfold HM.ZaK at h;split at h
 ·rename_i q; exact Z1 (Za i hN hv hd hcd) r ds (row q h)
 ·rename_i q; exact Z1 (Za i hN hv hd hcd) r ds (row q h)
 ·rename_i es q
  obtain⟨kvs,h1,h2⟩:=ZwE.mp h;subst h2;refine PI.imp (ZsW (Zb9 hN hv hd hcd)) λσ H R ⟨F0,H0,F,at_,k⟩=>?_;obtain⟨v,fp,g1,g2⟩:=at_.any q;cases g2 with
  | @hd a o _ kvs' vvs k1 k2 k3 k4=>subst k2;rw[HM.dec_enc]at h1;cases h1;exact⟨.ref a,g1,a,o,vvs,rfl,at_.sub _ _ k1,k _ F H at_.refl (ZrF k1 k3)⟩
  | hf _=>cases h1
 ·cases h
end
end HP
namespace HP
open PySem PySem.Spec PyProof.Rows L2
variable[FX]
end HP
namespace HP
open PySem PySem.Spec PyProof.Rows L2
variable[FX]
end HP
namespace HP
open PySem
abbrev mdA(I S:Addr)(dv:Value):Args:=⟨[.ref I,.none,.ref S],[(ZyS "default",dv)]⟩
theorem Zia:(toString "min" ++ toString ".loop":String) = "min.loop":=by decide
theorem Ztr(a dv:Value):argsOk "min" ⟨[a],[(ZyS "default",dv)]⟩:=by unfold argsOk; kernel_rfl
section
variable{prog:Program}{w:World}{A:Around}{R:Result->Shared->Prop}{I:Addr}{fp wr:List Addr}{n:Nat}{P:Nat->Value->Prop}{St:Nat->Heap->Prop}
theorem ZsK(W:Walks prog w A.in1 I fp wr n P St)(bt:Nat->Nat->Bool)(hc:CmpOf prog w A.in1 .Lt P bt){S:Addr}(hf:S ∉ fp)(dv:Value):∀(k j:Nat) (s:Shared) (b:Value) (ep:Nat),n=j+1+k->St (j+1) s.heap->P (argBest bt j) b ->
  s.heap.get? S=some { cls:=.type "list",dict:=none,data:=.seq #[b,b] ep,slots:=#[] } ->
  (∀v h' tk,P (argBest bt (n-1)) v->(∀x o,x ∉ wr->x≠S->s.heap.get? x=some o->h'.get? x=some o)->R (.ok (.ret v)) { s with heap:=h',toks:=tk }) ->
  codeAny (model prog w) A (.builtin "min.loop" (mdA I S dv)) R s:=by
 have hw:S ∉ wr:=λh=>hf (W.sub _ h);intro k
 induction k with
 | zero =>
  intro j s b ep hn st pb gS out;have hn:n=j+1:=by omega
  subst hn;refine ZxV ZzI ?_;rw[ZxG Zx4 _];show wpAny _ A.in1 (seqItems? (.ref S) >>= _) _ _ s;refine ZwB (wpAny_seqItems gS rfl ?_);show wpAny _ A.in1 (tryCatch (pyNext (.ref I)) _ >>= _) _ _ s;refine ZwB (Zzx (W.done s _ _ st λh1 tk keep=>?_));have gS1:=keep S _ hw gS;show wpAny _ A.in1 (updateSeq S (λ_=>#[]) >>= _) _ _ _;exact ZwB (ZAP gS1 rfl (ZwB (ZAU (ZwF (out b _ tk pb λx o hx hS e=>(Zx2 _ _ (ZxC hS)).trans (keep x o hx e))))))
 | succ k ih =>
  intro j s b ep hn st pb gS out;refine ZxV ZzI ?_;rw[ZxG Zx4 _];show wpAny _ A.in1 (seqItems? (.ref S) >>= _) _ _ s;refine ZwB (wpAny_seqItems gS rfl ?_);show wpAny _ A.in1 (tryCatch (pyNext (.ref I)) _ >>= _) _ _ s;refine ZwB (Zzx (W.item (j+1) s _ _ (by omega) st λv h1 tk pv st1 keep=>?_));have gS1:=keep S _ hw gS;show wpAny _ A.in1 (tryCatch (holding [v,v] (richCompare .Lt v b >>= _)) _ >>= _) _ _ _;refine ZwB (Zzx (ZxM (ZwB (hc (j+1) (argBest bt j) v b _ _ _ pv pb (ZwB (ZxM (Zx7 (ZwB (ZAU (ZwF ?_))))))))));have best:argBest bt (j+1)=if bt (j+1) (argBest bt j)then j+1 else argBest bt j:=rfl
  cases hb:bt (j+1) (argBest bt j)with
  | true =>
   rw[hb,if_pos rfl]at best;simp only[if_true];refine ZwB (ZAP gS1 rfl (ZwB (ZAU ?_)));rw[Zia];refine ZwF ⟨ZyJ Zx4 _,ih (j+1) _ v _ (by omega) (W.frame _ _ _ st1 λx hx o e=>?_) (by rw[best]; exact pv) (ZxK _ gS1 rfl) λv' h2 tk2 p' keep2=>?_⟩
   ·exact(Zx2 _ _ (λz:S=x=>hf (by rw[z]; exact hx))).trans e
   ·exact out v' h2 tk2 p' λx o hx hS e=>keep2 x o hx hS ((Zx2 _ _ (ZxC hS)).trans (keep x o hx e))
  | false=>rw[hb,if_neg (by simp)]at best;simp only[Zyr,if_false];refine ZwB (ZAU ?_);rw[Zia];exact ZwF ⟨ZyJ Zx4 _,ih (j+1) _ b ep (by omega) st1 (by rw[best]; exact pb) gS1 λv' h2 tk2 p' keep2=>out v' h2 tk2 p' λx o hx hS e=>keep2 x o hx hS (keep x o hx e)⟩
theorem Zsa(W:Walks prog w A.in1 I fp wr n P St)(bt:Nat->Nat->Bool)(hc:CmpOf prog w A.in1 .Lt P bt){S:Addr}(hf:S ∉ fp)(dv:Value){s:Shared}{ep:Nat}(st:St 0 s.heap)
  (gS:s.heap.get? S=some { cls:=.type "list",dict:=none,data:=.seq #[] ep,slots:=#[] })
  (o0:n=0->∀h' tk,(∀x o,x ∉ wr->x≠S->s.heap.get? x=some o->h'.get? x=some o)->R (.ok (.ret dv)) { s with heap:=h',toks:=tk })
  (o1:0<n->∀v h' tk,P (argBest bt (n-1)) v->(∀x o,x ∉ wr->x≠S->s.heap.get? x=some o->h'.get? x=some o)->R (.ok (.ret v)) { s with heap:=h',toks:=tk }) :
  codeAny (model prog w) A (.builtin "min.loop" (mdA I S dv)) R s:=by
 have hw:S ∉ wr:=λh=>hf (W.sub _ h);refine ZxV ZzI ?_;rw[ZxG Zx4 _];show wpAny _ A.in1 (seqItems? (.ref S) >>= _) _ _ s;refine ZwB (wpAny_seqItems gS rfl ?_);show wpAny _ A.in1 (tryCatch (pyNext (.ref I)) _ >>= _) _ _ s
 by_cases h0:n=0
 ·subst h0
  refine ZwB (Zzx (W.done s _ _ st λh1 tk keep=>?_));show wpAny _ A.in1 (rule _ >>= _) _ _ _;exact ZwB (wpAny_rule (ZwF (o0 rfl h1 tk λx o hx _ e=>keep x o hx e)))
 ·refine ZwB (Zzx (W.item 0 s _ _ (by omega) st λv h1 tk pv st1 keep=>?_))
  have gS1:=keep S _ hw gS;show wpAny _ A.in1 (updateSeq S (λ_=>#[v,v]) >>= _) _ _ _;refine ZwB (ZAP gS1 rfl ?_);rw[Zia];refine ZwF ⟨ZyJ Zx4 _,ZsK W bt hc hf dv (n-1) 0 _ v _ (by omega) (W.frame _ _ _ st1 λx hx o e=>?_) pv (ZxK _ gS1 rfl) λv' h2 tk2 p' keep2=>?_⟩
  ·exact(Zx2 _ _ (λz:S=x=>hf (by rw[z]; exact hx))).trans e
  ·exact o1 (by omega) v' h2 tk2 p' λx o hx hS e=>keep2 x o hx hS ((Zx2 _ _ (ZxC hS)).trans (keep x o hx e))
end
end HP
namespace HP
open PySem PySem.Spec PyProof.Rows L2
variable[FX]
theorem Rep.fn_inv{K:ZwC}{F:Hp}{t:Nat}{cs:List PyData}{v:V}(h:Rep K F (HM.fnD t cs) v):∃a,v=.ref a/\FX.fv t cs F a:=by
 cases h with
 | @dct a es kvs vvs h he hk hr =>
  cases kvs with
  | nil=>cases he
  | cons p r =>
   injection he with h1 _
   injection h1 with h2 _
   cases h2
 | fn h=>exact⟨_,rfl,h⟩
theorem Zr4{d:PyData}{t:Nat}{cs:List PyData}(h:HM.Zka d=some (t,cs)):d=HM.fnD t cs:=by
 unfold HM.Zka at h;split at h
 ·cases h; rfl
 ·cases h
structure GFn(mg:Str->Option Value)(x:Str)(t:Nat):Prop where
 ex:∃f,mg x=some (.ref f)/\∀F,FX.fv t [] F f
section
variable{X:Cx}{pos p:Pos}{e a b:Expr}{es:List Expr}{f:HM.AF}
theorem ZtN{x:Str}{t:Nat}(h:GFn X.mg x t)(hg:Gl X x:=by rfl)(hd:(x==("__debug__":Str))=false:=by decide):XE X (.Name x pos) (HM.eC (HM.fnD t [])):=by obtain⟨f,hm,hv⟩:=h.ex;exact ZeX (Zox hg hm (v:=.ref f) rfl hd) λF=>.fn (hv F)
structure Zdn(P:Program)(w:World)(K:ZwC)(mg:Str->Option Value)(base:Heap)(k:Nat)(ap:HM.AP):Prop where
 fn:∀{t:Nat} {cs:List PyData} {F:Hp} {a:Addr},FX.fv t cs F a->∀{A:Around} {outer:List Env} {s:Shared} {H:Hp},Zd4 P w K mg base A outer s H->Zp F H->ZBj a s.heap
 run:∀{t:Nat} {cs:List PyData} {F:Hp} {a:Addr},FX.fv t cs F a->∀{A:Around} {outer:List Env} {s:Shared} {H:Hp},Zd4 P w K mg base A outer s H->Zp F H ->
  ∀{us:List Value} {vs:List V} {ds:List PyData} {d:PyData} {Q:VK},Zah k A->Tb H->NoT F->Vals vs us->Zq K F ds vs->ap t cs ds=some d->(∀v F' H',Ext F H F' H'->Rep K F' d v->Q v H') ->
   codeAny (model P w) A (.call (.ref a) ⟨us,[]⟩) (CR CX0 outer P w H s Q E0) s
theorem Zdn.mono{P:Program}{w:World}{K:ZwC}{mg:Str->Option Value}{base:Heap}{j k:Nat}{ap:HM.AP}(C:Zdn P w K mg base j ap)(h:j<=k):Zdn P w K mg base k ap :=
 ⟨C.fn,by intro t cs F a q A outer s H e z us vs ds d Q hr; exact C.run q e z (hr.mono h)⟩
theorem ZlC{k:Nat}{ap:HM.AP}(C:Zdn X.prog X.w X.K X.mg X.base k ap)(hr:Zah k X.A)(i:Nat){x:Str}(ha:XA X (e::es) f)(hN:X.N[i]?=some x:=by rfl)
  (hv:Vis X.env.scope x:=by first | exact ZxA rfl | exact Zxg (ZxA rfl) | exact Zxg (Zxg rfl)) (hd:(x==("__debug__":Str))=false:=by decide) (hcd:(x==("__classdict__":Str))=false:=by decide)
  (he:ZwP (e::es) X.env=(false,eval e X.env)::ZwP es X.env:=by rfl) (hpl:(backTo pos (ZwP es X.env)).any (·.1)=false:=by rfl):XE X (.Call (.Name x p) (e::es) [] pos) (HM.Zfq ap i f):=by
 intro r d h;unfold HM.Zfq at h;split at h
 case h_2=>cases h
 rename_i d0 hs;split at h
 case h_2=>cases h
 rename_i t cs hu;split at h
 case h_2=>cases h
 rename_i ds hds;obtain rfl:=Zr4 hu;intro pins s σ H Q I ⟨F0,H0,F1,at_,kk⟩;obtain⟨v,h1,h2⟩:=at_.plain hs;obtain⟨q,rfl,fv⟩:=h2.fn_inv;refine ZyB (thn (Zb9 hN hv hd hcd pins s σ H (λv' H'=>v'=.ref q/\H'=H) I ⟨_,h1,rfl,rfl⟩) λu s1 ⟨v',H1,I1,r1,e1,e2⟩=>?_);subst e1 e2;obtain rfl:u=Zxy q:=r1;refine PySem.W.callWith_F (C.fn fv I1.env0 at_.sub) (thn (ha.pa r ds hds pos pins s1 σ H1 (λvs H2=>∃F2,Ext F1 H1 F2 H2/\Zq X.K F2 ds vs) I1 ⟨F0,H0,F1,at_,λvs F2 H2 x2 q2=>⟨F2,x2,q2⟩⟩) λus s2 ⟨vs,H2,I2,r2,F2,x2,q2⟩=>?_) he hpl;have fv2:=FX.mono fv x2.ff;refine⟨C.fn fv2 I2.env0 x2.sub,wpAny_call (ZyA (C.run fv2 I2.env0 x2.sub hr (at_.tbx x2) (at_.ntx x2) r2 q2 h λv F' H' x3 q3=>kk v F' H' (x2.trans x3) q3) λrs s' hq=>?_)⟩;cases rs with
 | error e=>exact ZxF hq
 | ok fl =>
  cases fl with
  | ret u=>exact I2.after hq
  | next=>exact ZxF hq
  | brk=>exact ZxF hq
  | cont=>exact ZxF hq
def spN(K:ZwC)(n:Nat)(M:List PyData->Option (List (List Key × PyData))):Sp:=λvs H Q _=>∃F ds kvs,vs.length=n/\Zp F H/\Tb H/\NoT F/\Zq K F ds vs/\M ds=some kvs /\
 ∀l vvs F' H',Ext F H F' H'->H' l=some (.dT vvs)->kvs.map (·.1)=vvs.map (·.1)->Zq K F' (kvs.map (·.2)) (vvs.map (·.2))->F' l=none->H l=none->Q (.ref l) H'
structure Zdj(P:Program)(w:World)(K:ZwC)(mg:Str->Option Value)(base:Heap)(k:Nat)(x:Str)(M:List PyData->Option (List (List Key × PyData))):Prop where
 ex:∃f fd ps,(∀ds d,M ds=some d->ds.length=ps.length)/\ZcL P w K mg base CX0 k f fd ps (spN K ps.length M)/\mg x=some (.ref f)/\Zx1 K (.ref f)=true/\Binds K fd ps []
theorem Zdj.mono{P:Program}{w:World}{K:ZwC}{mg:Str->Option Value}{base:Heap}{j k:Nat}{x:Str}{M:List PyData->Option (List (List Key × PyData))}(C:Zdj P w K mg base j x M)(h:j<=k):Zdj P w K mg base k x M:=by obtain⟨f,fd,ps,l,F,r⟩:=C.ex;exact⟨f,fd,ps,l,F.mono h,r⟩
theorem Zq.flat{K:ZwC}{F F':Hp}{ds:List PyData}{vs:List V}(r:Zq K F ds vs)(h:∀d∈ds,HM.Zjw d=true):Zq K F' ds vs :=
 ⟨r.1,λi d v h1 h2=>(r.2 i d v h1 h2).flat (h d (Zw9 h1))⟩
theorem Zra{k:Nat}{x:Str}{g:HM.AF}{M:List PyData->Option (List (List Key × PyData))}(C:Zdj X.prog X.w X.K X.mg X.base k x M)(hr:Zah k X.A)(ha:XAL X (e::es) g)(hg:Gl X x:=by rfl)(hdb:(x==("__debug__":Str))=false:=by decide)
  (he:ZwP (e::es) X.env=(false,eval e X.env)::ZwP es X.env:=by rfl) (hpl:(backTo pos (ZwP es X.env)).any (·.1)=false:=by rfl):XF X (.Call (.Name x p) (e::es) [] pos) (HM.ZhJ M g):=by
 intro r d hd;unfold HM.ZhJ at hd;split at hd
 case h_2=>cases hd
 rename_i ds hds;split at hd
 case h_2=>cases hd
 rename_i kvs hM;split at hd
 case isFalse=>cases hd
 rename_i hfl;cases hd;obtain⟨fa,fd,ps,hl,F,hm,hk,hb⟩:=C.ex;refine PE.imp (Zj2 (E:=E0) F hr hg hm hk hb .nil Zpd (ha.pa r ds hds) hdb he hpl) λσ H Q ⟨F0,H0,F1,at_,kk⟩=>?_;refine⟨F0,H0,F1,at_,λvs F' H' x q=>?_⟩;show spN X.K ps.length M (vs++[]) H' Q E0;rw[Zxe];refine⟨Zce H',ds,kvs,by rw[<-q.1]; exact hl ds _ hM,Zku,at_.tbx x,.drop,q.drop',hM,λl vvs F2 H2 x2 h1 h2 h3 h4 h5=>?_⟩;refine kk _ F' H2 (x.trans (Ext.forget x.sub (at_.ntx x) x2)) ⟨[l],.ot h1 h2 (h3.flat λd hd=>?_),by simp,λc hc=>?_⟩
 ·obtain⟨q,h6,rfl⟩:=ZwN.mp hd
  exact ZwK.mp hfl q h6
 ·obtain rfl:c=l:=by simpa using hc
  exact⟨x.sub.free h5,x.hh.free h5⟩
def tSn(K:ZwC)(r:HM.Env)(kvs:List (List Key × PyData)):TS:=λE σ H=>Now K r σ H λF0 H0 F=>∀l vvs F' H',Ext F0 H0 F' H'->H' l=some (.dT vvs)->kvs.map (·.1)=vvs.map (·.1)->Zq K F' (kvs.map (·.2)) (vvs.map (·.2))->F' l=none->H0 l=none->E.rt (.ref l) H'
def XSn(X:Cx)(sts:List Stmt)(m:HM.NF):Prop:=∀r kvs,m r=some kvs->PSs X sts (tSn X.K r kvs)
theorem Zm8{st:Stmt}{rest:List Stmt}{g:HM.SF}{m:HM.NF}(h1:XS X st g)(h2:XSn X rest m):XSn X (st::rest) (HM.ZiY g m):=by
 intro r kvs h;unfold HM.ZiY at h;split at h
 ·rename_i r' q
  refine PSs.imp (ZgY (h1 r _ q) (h2 r' kvs h)) λE σ H ⟨F0,H0,F,at_,k⟩=>?_;exact⟨F0,H0,F,at_,λσ' F' H' at'=>⟨F0,H0,F',at',k⟩⟩
 ·cases h
theorem Zty(j:Nat){x:Str}{p1:Pos}(hN:X.N[j]?=some x:=by rfl)(hv:Vis X.env.scope x:=by first | exact ZxA rfl | exact Zxg (ZxA rfl) | exact Zxg (Zxg rfl))(hd:(x==("__debug__":Str))=false:=by decide)
  (hcd:(x==("__classdict__":Str))=false:=by decide):XSn X [.Return (some (.Name x p)) p1] (HM.Zmu j):=by
 intro r kvs h;unfold HM.Zmu at h;split at h
 ·rename_i kvs' hs
  cases h;refine PSs.imp (ZgY (ZmV (Zb9 hN hv hd hcd)) ZfF) λE σ H ⟨F0,H0,F,⟨fp,at_⟩,k⟩=>?_;obtain⟨v,h1,h2⟩:=at_.at_ j _ hs;generalize hfp:fp j=fj at h2;cases h2 with
  | @ot l _ vvs hl hk q=>have ho:=at_.own j l (by rw[hfp]; simp);exact⟨_,h1,k l vvs F H at_.ext hl hk q ho.1 ho.2⟩
 ·cases h
theorem Zpz{P:Program}{w:World}{K:ZwC}{mg:Str->Option Value}{base:Heap}{k:Nat}{x qual:Str}{st:Stmt}{f:Addr}{fd:FuncData}{N ps:List Str}{m:HM.NF}(Fn:Fun K x qual st f fd)(S:Zw N ps (Ze st))(hm:mg x=some (.ref f))(hb:Binds K fd ps [])
  (body:∀(cdv:Value) (A:Around) (outer:List Env) (s:Shared) (H:Hp) (E:XK),Zah k (A.deeper (envOfC qual (Ze st) s.heap.objs.size f cdv))->XSn (Zfk CX0 P w K mg base N qual (Ze st) f cdv A outer s H E).nox (Zau st) m) :
  Zdj P w K mg base (k+1) x (HM.newOf ps.length N.length m):=by
 have hpl:ps.length<=N.length:=by have:=congrArg Zxl S.pre; rw[Zye]at this; omega
 refine⟨f,fd,ps,λds d h=>?_,Fn.ok S (λvs H Q E h=>?_) (λcdv A outer s H vs Q E hr h=>?_),hm,Fn.kp,hb⟩
 ·unfold HM.newOf at h
  split at h
  ·assumption
  ·cases h
 ·obtain⟨_,_,_,h,_⟩:=h
  exact h
 ·obtain⟨F,ds,kvs,hl,sub,tb,nt,q,hM,kk⟩:=h
  unfold HM.newOf at hM;split at hM
  ·rename_i hds
   exact⟨_,body cdv A outer s H E hr _ _ hM,F,H,F,Zfy (N:=N) sub tb nt q (by omega),λl vvs F' H' x h1 h2 h3 h4 h5=>kk l vvs F' H' x h1 h2 h3 h4 h5⟩
  ·cases hM
theorem ZqX(hc:X.calm=true){pins:List (Addr × Obj)}{s:Shared}{σ:L2.St}{H:Hp}{l:Addr}{ns:List Int}{Q:VK}(I:Inv X pins σ H s)(hq:SqL X.K H l (ns.map V.int))(q:Q (match ns.min? with | some i=>.int i | none=>.non) H) :
  wpAny (model X.prog X.w) X.A (call (.builtin "min") [.ref l] [(ZyS "default",.none)]) (EP X pins σ Q) X.xe s:=by
 obtain⟨its,rv,pl,hz⟩:=I.list hq;have hi:=Zdl rv;obtain⟨xs,e⟩:=hi.allInts.items;have hns:ns=xs.toList.map (·.1):=by rw[<-hi.numsOf,<-nums_intItems,<-e]
 have hl:=pl.isList;rw[e]at hl;refine PyProof.Rows.kmk_tree PySem.F.kind_min PySem.F.plain_min PySem.F.entry_min (Ztr _ _) ?_;refine ZwB (ZAT (show Builtin.Builtins.bindParams "min" ["key","default"] 0 ⟨[],[(ZyS "default",.none)]⟩=pure [none,some .none] from rfl) ?_);refine ZwB (ZwF ?_);refine ZwB (iter_intList hl λs2 e2 st hfp hlI=>?_);subst e2;refine ZwB (ZxB ?_);rw[Zia];generalize hIT:s.heap.push { cls:=.type "list_iterator",data:=.fields #[.ref l,.int 0 0] }=h1 at st hfp;have z1:h1.objs.size=s.heap.objs.size+1:=by rw[<-hIT]; exact Zzc ..
 have k1:∀b o,s.heap.get? b=some o->h1.get? b=some o:=λb o e=>by rw[<-hIT]; exact ZwH _ e
 have W:=Walks.list (prog:=X.prog) (w:=X.w) (A:=X.A.in1) (I.ok.hd hc) s.heap.objs.size l hlI (intItems xs);have hSf:h1.objs.size ∉ [s.heap.objs.size,l]:=λz=>Zym _ (hfp _ z);have old:∀{h':Heap} {oS:Obj},(∀x o,x ∉ [s.heap.objs.size]->x≠h1.objs.size->(h1.push oS).get? x=some o->h'.get? x=some o)->∀b o,s.heap.get? b=some o->h'.get? b=some o:=λhk b o e=>by have hb:=ZwU e;exact hk b o (λz=>by rw[ZwT.mp z]at hb; exact Zym _ hb) (Zw1 (by rw[z1]; exact Zy9 hb)) (ZwH _ (k1 b o e))
 refine ZwF ⟨ZyJ Zx4 _,Zsa W (λi j=>decide (numAt xs i<numAt xs j)) (CmpOf.ints_lt (numAt xs) λ_ _=>intItems_at) hSf .none (W.frame _ _ _ st λb _ o e=>ZwH _ e) (ZwX _ rfl) (λh0 h' tk hk=>?_) λh0 v h' tk hP hk=>?_⟩
 ·have e0:ns=[]:=by
   rw[hns];have:xs.size=0:=by simpa [intItems]using h0
   rw[Array.eq_empty_of_size_eq_zero this]; rfl
  subst e0;exact⟨.non,H,I.kept (t':=tk) (old hk),rfl,q⟩
 ·have h0':0<xs.size:=by simpa [intItems]using h0
  have hP':(intItems xs)[argBest (λi j=>decide (numAt xs i<numAt xs j)) (xs.size-1)]?=some v:=by simpa [intItems]using hP
  obtain⟨t,rfl⟩:=intItems_at hP';obtain⟨g1,g2⟩:=argBest_lt (numAt xs) (xs.size-1);have hm:ns.min?=some (numAt xs (argBest (λi j=>decide (numAt xs i<numAt xs j)) (xs.size-1))):=by
   refine ZzT.mpr ⟨?_,λa ha=>?_⟩
   ·rw[hns,numAt_eq]; exact getD_mem (by rw[ZwD,Zw5]; omega)
   ·rw[hns]at ha
    obtain⟨j,hj,rfl⟩:=mem_getD ha;rw[ZwD,Zw5]at hj;rw[<-numAt_eq]; exact g2 j (by omega)
  rw[hm]at q;exact⟨.int _,H,I.kept (t':=tk) (old hk),⟨t,rfl⟩,q⟩
theorem Zn9{f:HM.BF}{kp p2:Pos}{j:Nat}(hm:X.mg "min" = none)(hc:X.calm=true)(ha:XB X a f)(hg:Gl X "min":=by rfl)(hs:ZwP [a] X.env=[(false,eval a X.env)]:=by rfl)
  (he:backTo pos (ZwP [a] X.env)=(false,eval a X.env)::backTo pos (ZwP [] X.env):=by rfl) (hpl:(backTo pos (ZwP [a] X.env)).any (·.1)=false:=by rfl) :
  XE X (.Call (.Name "min" p) [a] [⟨some "default",.Constant .none j p2,kp⟩] pos) (HM.ZeT f):=by
 intro r d h;unfold HM.ZeT at h;split at h
 case h_2=>cases h
 rename_i x hx;split at h
 case h_2=>cases h
 rename_i ds hds;split at h
 case h_2=>cases h
 rename_i ns hns;cases h;intro pins s σ H Q I ⟨F0,H0,F,at_,k⟩;refine ZyB (Zgi I hg hm ZpV ?_);refine callWith_kw (thn (Zeh ha hx hs pos pins s σ H (λvs H1=>∃v fp F1,vs=[v]/\Ext F H F1 H1/\ZX X.K F1 H1 x v fp) I ⟨F0,H0,F,at_,λv fp F' H' x1 r1=>⟨v,fp,F',rfl,x1,r1⟩⟩) λus s1 ⟨vs,H1,I1,rv,v,fp,F1,e1,x1,r1⟩=>?_) he hpl;subst e1;obtain⟨u,rfl,ru⟩:=vals1 rv;obtain⟨l,ws,rfl,hq,rs⟩:=ZdT x1.sub r1 hds;obtain rfl:u=Zxy l:=ru;rw[ZcH hns rs]at hq;refine kws_cons (thn (ZqF pins s1 σ H1 (λv' H'=>v'=.non/\H'=H1) I1 ⟨rfl,rfl⟩) λu2 s2 ⟨v',H2,I2,r2,e2,e3⟩=>?_);subst e2 e3;obtain rfl:u2=ZxD:=r2;refine kws_nil ?_;refine ZqX hc I2 hq ?_;refine k _ F1 H2 x1 ?_;cases ns.min? with
 | none=>exact .non
 | some i=>exact .int i
end
end HP
namespace HP
open PySem PySem.Spec PyProof.Rows L2
abbrev FX0:FX where
 tl:=[]
 fv:=λ_ _ _ _=>False
 sw:=λ_ _ h=>h
 drop:=λh=>h
 mono:=λh _=>h
structure Clo(K:ZwC)(F:Hp)(p:Addr)(params:Arguments)(body:Expr)(scope:Scope)(names:List Str)(cs:List PyData):Prop where
 ex:∃(qual:Str) (pm ctv:Value) (c:Addr) (oc:Obj) (clos:List (Str × Addr)),
  F p=some (ZaR p (Zz0 "<lambda>" qual params body scope clos pm c ctv))/\F c=some (ZaR c oc)/\Zkb oc qual /\
  (∀x y a,clos.lookup x=some a->clos.lookup y=some a->x=y)/\(∀y∈scope.names,y.2=.free->(clos.lookup y.1).isSome=true) /\
  (∀x a,clos.lookup x=some a->∃o v,F a=some (ZaR a o)/\o.data=.cell v) /\
  names.length=cs.length/\∀(i:Nat) (x:Str) (d:PyData),names[i]?=some x->cs[i]?=some d->∃a o u v,clos.lookup x=some a/\F a=some (ZaR a o)/\o.data=.cell (some u)/\RelV v u/\@Rep FX0 K F d v
section
variable{K:ZwC}{F F':Hp}{p:Addr}{params:Arguments}{body:Expr}{scope:Scope}{names:List Str}{cs:List PyData}
theorem Clo.mono(h:Clo K F p params body scope names cs)(s:Zp F F'):Clo K F' p params body scope names cs:=by
 obtain⟨qual,pm,ctv,c,oc,clos,h1,h2,h3,h4,h5,h6,h7,h8⟩:=h.ex;refine⟨qual,pm,ctv,c,oc,clos,s _ _ h1,s _ _ h2,h3,h4,h5,λx a e=>?_,h7,λi x d e1 e2=>?_⟩
 ·obtain⟨o,u,q1,q2⟩:=h6 x a e
  exact⟨o,u,s _ _ q1,q2⟩
 ·obtain⟨a,o,u,v,q1,q2,q3,q4,q5⟩:=h8 i x d e1 e2
  exact⟨a,o,u,v,q1,s _ _ q2,q3,q4,@Rep.mono FX0 _ _ _ _ _ q5 s⟩
theorem Clo.drop(h:Clo K F p params body scope names cs):Clo K (Zce F) p params body scope names cs:=by
 obtain⟨qual,pm,ctv,c,oc,clos,h1,h2,h3,h4,h5,h6,h7,h8⟩:=h.ex;refine⟨qual,pm,ctv,c,oc,clos,ZbU h1 rfl,ZbU h2 rfl,h3,h4,h5,λx a e=>?_,h7,λi x d e1 e2=>?_⟩
 ·obtain⟨o,u,q1,q2⟩:=h6 x a e
  exact⟨o,u,ZbU q1 rfl,q2⟩
 ·obtain⟨a,o,u,v,q1,q2,q3,q4,q5⟩:=h8 i x d e1 e2
  exact⟨a,o,u,v,q1,ZbU q2 rfl,q3,q4,@Rep.drop FX0 _ _ _ _ q5⟩
theorem Clo.sw{a:Addr}{ob:HO}{vvs:List (List Key × V)}(hF:∀u,F a=some u->Dk vvs u)(hob:Dk vvs ob)(h:Clo K F p params body scope names cs):Clo K (HP.sw a ob F) p params body scope names cs:=by
 have key:∀{b:Addr} {o:Obj},F b=some (ZaR b o)->HP.sw a ob F b=some (ZaR b o):=λ{b o} e=>by
  have hb:b≠a:=λz=>by subst z;have:=@Dk.te FX0 _ _ (hF _ e);cases this
  unfold HP.sw; rw[if_neg hb]; exact e
 obtain⟨qual,pm,ctv,c,oc,clos,h1,h2,h3,h4,h5,h6,h7,h8⟩:=h.ex;refine⟨qual,pm,ctv,c,oc,clos,key h1,key h2,h3,h4,h5,λx a e=>?_,h7,λi x d e1 e2=>?_⟩
 ·obtain⟨o,u,q1,q2⟩:=h6 x a e
  exact⟨o,u,key q1,q2⟩
 ·obtain⟨a,o,u,v,q1,q2,q3,q4,q5⟩:=h8 i x d e1 e2
  exact⟨a,o,u,v,q1,key q2,q3,q4,@Rep.sw FX0 _ _ _ _ _ _ _ hF hob q5⟩
end
theorem Rep.up[FX]{K:ZwC}{F:Hp}{d:PyData}{v:V}(r:@Rep FX0 K F d v):Rep K F d v:=by
 induction r with
 | non=>exact .non
 | bl b=>exact .bl b
 | int i=>exact .int i
 | str x=>exact .str x
 | tup h hl _ ih=>exact .tup h hl ih
 | tupk h=>exact .tupk h
 | lst h hl _ ih=>exact .lst h hl ih
 | dct h he hk _ ih=>exact .dct h he hk ih
 | fn h=>exact h.elim
theorem Rep.cutF[FX]{K:ZwC}{F F':Hp}(hF:∀b o,F b=some o->te o=false->F' b=some o){d:PyData}{v:V}(r:Rep K F d v):∀n,HM.noF n d=true->@Rep FX0 K F' d v:=by
 induction r with
 | non=>intro _ _; exact @Rep.non FX0 _ _
 | bl b=>intro _ _; exact @Rep.bl FX0 _ _ b
 | int i=>intro _ _; exact @Rep.int FX0 _ _ i
 | str x=>intro _ _; exact @Rep.str FX0 _ _ x
 | tupk h=>intro _ _; exact @Rep.tupk FX0 _ _ _ _ h
 | tup h hl _ ih =>
  intro n hn;cases n with
  | zero=>cases hn
  | succ n=>exact @Rep.tup FX0 _ _ _ _ _ (hF _ _ h rfl) hl λi d v h1 h2=>ih i d v h1 h2 n (ZwK.mp hn d (Zw9 h1))
 | lst h hl _ ih =>
  intro n hn;cases n with
  | zero=>cases hn
  | succ n =>
   refine @Rep.lst FX0 _ _ _ _ _ ?_ hl λi d v h1 h2=>ih i d v h1 h2 n (ZwK.mp hn d (Zw9 h1));rcases h with(h | ⟨o,h⟩) | h
   ·exact .inl (.inl (hF _ _ h rfl))
   ·exact .inl (.inr ⟨o,hF _ _ h rfl⟩)
   ·exact .inr h
 | @dct a es kvs vvs h he hk _ ih =>
  intro n hn;cases n with
  | zero=>cases hn
  | succ n =>
   refine @Rep.dct FX0 _ _ _ _ kvs vvs ?_ he hk λi d v h1 h2=>ih i d v h1 h2 n ?_
   ·rcases h with h | ⟨o,h⟩
    ·exact .inl (hF _ _ h rfl)
    ·exact .inr ⟨o,hF _ _ h rfl⟩
   ·subst he
    rw[Zw3]at h1;obtain⟨q,h3,h4⟩:=ZwE.mp h1;subst h4;have hm:(Zxz (q.1.map HM.Zai),q.2)∈HM.Zi kvs:=ZwN.mpr ⟨q,Zw9 h3,rfl⟩;have:=ZwK.mp hn _ hm;rw[ZwZ]at this;exact this.2
 | fn h =>
  intro n hn;cases n with
  | zero=>cases hn
  | succ n=>have:=ZwK.mp hn _ (ZwI ..);cases this
end HP
namespace HP
open PySem PySem.Spec PyProof.Rows L2
theorem Rep0.cut{K:ZwC}{F F':Hp}(hF:∀b o,F b=some o->te o=false->F' b=some o){d:PyData}{v:V}(r:@Rep FX0 K F d v):@Rep FX0 K F' d v:=by
 induction r with
 | non=>exact @Rep.non FX0 _ _
 | bl b=>exact @Rep.bl FX0 _ _ b
 | int i=>exact @Rep.int FX0 _ _ i
 | str x=>exact @Rep.str FX0 _ _ x
 | tupk h=>exact @Rep.tupk FX0 _ _ _ _ h
 | tup h hl _ ih=>exact @Rep.tup FX0 _ _ _ _ _ (hF _ _ h rfl) hl ih
 | lst h hl _ ih =>
  refine @Rep.lst FX0 _ _ _ _ _ ?_ hl ih;rcases h with(h | ⟨o,h⟩) | h
  ·exact .inl (.inl (hF _ _ h rfl))
  ·exact .inl (.inr ⟨o,hF _ _ h rfl⟩)
  ·exact .inr h
 | @dct a es kvs vvs h he hk _ ih =>
  refine @Rep.dct FX0 _ _ _ _ kvs vvs ?_ he hk ih;rcases h with h | ⟨o,h⟩
  ·exact .inl (hF _ _ h rfl)
  ·exact .inr ⟨o,hF _ _ h rfl⟩
 | fn h=>exact h.elim
def ZaG(C:List Addr)(H:Hp):Hp:=λb=>if b∈C then none else H b
theorem Zgg{C:List Addr}{H:Hp}{b:Addr}(h:b∈C):ZaG C H b=none:=by unfold ZaG; rw[if_pos h]
theorem Z4{C:List Addr}{H:Hp}{b:Addr}(h:b ∉ C):ZaG C H b=H b:=by unfold ZaG; rw[if_neg h]
theorem ZgW{C:List Addr}{H:Hp}{b:Addr}{o:HO}(h:ZaG C H b=some o):b ∉ C/\H b=some o:=by
 unfold ZaG at h;split at h
 ·cases h
 ·exact⟨by assumption,h⟩
def Zf2(C:List Addr)(G H:Hp):Hp:=λb=>if b∈C then G b else H b
theorem Zd3{C:List Addr}{G H:Hp}{b:Addr}(h:b∈C):Zf2 C G H b=G b:=by unfold Zf2; rw[if_pos h]
theorem ZaS{C:List Addr}{G H:Hp}{b:Addr}(h:b ∉ C):Zf2 C G H b=H b:=by unfold Zf2; rw[if_neg h]
section
variable{P:Program}{w:World}{C:List Addr}{G H H':Hp}{h h':Heap}
theorem ZbQ{a:Addr}{o:Obj}(x:ZV P w H h a (ZaR a o)):h.get? a=some o:=x.1
theorem Zh8{a:Addr}{o:Obj}(e:h.get? a=some o):ZV P w H h a (ZaR a o):=⟨e,⟨o,e⟩,λh1 h2 q k=>k o q⟩
theorem HOk.cut(x:HOk P w H h)(hC:∀c∈C,∀o,H c=some o->te o=true):HOk P w (ZaG C H) h:=λa o e=>by
 obtain⟨_,e⟩:=ZgW e;have out:∀{b:Addr} {u:HO},H b=some u->te u=false->ZaG C H b=some u:=λ{b u} q t=>by rw[Z4 λz=>by rw[hC b z u q]at t; cases t]; exact q
 exact(x a o e).stay (λ_ _ _ q=>q) (λb q=>out q rfl) λb xs q=>out q rfl
theorem HOk.put(x:HOk P w H h)(hn:∀c∈C,H c=none)(hC:∀c∈C,∀u,G c=some u->∃o,u=ZaR c o/\h.get? c=some o):HOk P w (Zf2 C G H) h:=λa o e=>by
 have out:∀{b:Addr} {u:HO},H b=some u->Zf2 C G H b=some u:=λ{b u} q=>by rw[ZaS λz=>by rw[hn b z]at q; cases q]; exact q
 by_cases ha:a∈C
 ·rw[Zd3 ha]at e
  obtain⟨ob,rfl,hb⟩:=hC a ha o e;exact Zh8 hb
 ·rw[ZaS ha]at e
  exact(x a o e).stay (λ_ _ _ q=>q) (λb q=>out q) λb xs q=>out q
end
structure Zi2(scope:Scope)(x:Str)(names:List Str):Prop where
 kind:scope.kind=.function
 co:scope.isCoroutine=false
 gen:scope.isGenerator=false
 nocell:∀y∈scope.names,y.2≠.cell
 par:scope.names.lookup x=some .local
 free:∀n∈names,scope.names.lookup n=some .free
 nd:(x::names).Nodup
def Zln(P:Program)(w:World)(K:ZwC)(mg:Str->Option Value)(base:Heap)(N:List Str)(qual:Str)(scope:Scope)(f:Addr)(cd:Value)(clos:List (Str × Addr))(A:Around)(outer:List Env)(s:Shared)(H:Hp):Cx where
 prog:=P
 w:=w
 K:=K
 mg:=mg
 base:=base
 A:=A.deeper (Zzq qual scope s.heap.objs.size f cd clos)
 N:=N
 s₀:=s
 H₀:=H
 env:=Zzq qual scope s.heap.objs.size f cd clos
 outer:=outer
 stack:=Zzq qual scope s.heap.objs.size f cd clos::outer
 ex:=[]
 calm:=true
 fn:=λ_=>false
 pn:=[]
 xe:=λ_ _=>False
section
variable{P:Program}{w:World}{K:ZwC}{mg:Str->Option Value}{base:Heap}{A:Around}{outer:List Env}{s:Shared}{H:Hp}{k:Nat}
theorem Zp7{qual x:Str}{scope:Scope}{names:List Str}{f:Addr}{cd:Value}{clos:List (Str × Addr)}(S:Zi2 scope x names)(hd:A.handled=none)(e0:Zd4 P w K mg base A outer s H)
  (inj:∀y z a,clos.lookup y=some a->clos.lookup z=some a->y=z) (has:∀y∈scope.names,y.2=.free->(clos.lookup y.1).isSome=true)
  (hcell:∀y a,clos.lookup y=some a->H a=none/\∃o v,s.heap.get? a=some o/\o.data=.cell v)
  {v:V} {u:Value} (rv:RelV v u) {vs:List V} (hlen:names.length=vs.length) (hcap:∀(i:Nat) (y:Str) (v':V),names[i]?=some y->vs[i]?=some v'->∃a o u',clos.lookup y=some a/\s.heap.get? a=some o/\o.data=.cell (some u')/\RelV v' u')
  {h':Heap} {tk:Nat} (hns:h'.Ns s.heap.objs.size λy=>[(x,u)].reverse.lookup y) (hsb:Zyt s.heap.objs.size (s.heap.push { cls:=.type "frame",data:=.dict #[] }) h') :
  Inv (Zln P w K mg base (x::names) qual scope f cd clos A outer s H) [] (some v::vs.map some) H { s with heap:=h',toks:=tk }:=by
 have hk:∀b o,s.heap.get? b=some o->h'.get? b=some o:=λb o e=>hsb.extBut b o (Zw1 (ZwU e)) (ZwH _ e);have noA:∀b:Addr,b ∉ (Zln P w K mg base (x::names) qual scope f cd clos A outer s H).ex:=λb z=>absurd (show b∈([]:List Addr) from z) (by simp);refine⟨⟨e0.mod,S.kind,rfl,rfl,ZwM _,inj,λy hy=>?_,λy c z=>absurd (show false=true from z) (by simp),λ_=>hd,ZA6 e0.frames,.inr ⟨rfl,rfl⟩,λb z=>absurd z (noA b),e0.bs,e0.bsz,λb _ _=>noA b,λb z=>absurd z (noA b),e0.funs,e0.frf⟩,
  rfl,e0.bare,Un.kept hk,⟨_,hns,λi y v' h1 h2 h3=>?_⟩,λy c e=>?_,e0.hok.fresh (ZwM _),λy c e=>(hcell y c e).1,λp hp=>absurd (show p∈([]:List (Addr × Obj)) from hp) (by simp),e0.hok.kept hk,?_⟩
 ·have hy:scope.names.lookup y=some .cell\/scope.names.lookup y=some .free:=hy
  rcases hy with hy | hy
  ·exact absurd rfl (S.nocell _ (Zya hy))
  ·exact Zxt.mp (has _ (Zya hy) rfl)
 ·cases i with
  | zero=>have e1:x=y:=Zxx h1;have e2:v=v':=Zxx (Zxx h2);subst e1 e2;exact⟨u,rv,.inl ⟨S.par,by simp⟩⟩
  | succ i=>have h1:names[i]?=some y:=h1;have h2:(vs.map some)[i]?=some (some v'):=h2;rw[Zw3]at h2;obtain⟨v2,h4,h5⟩:=ZwE.mp h2;cases h5;obtain⟨a,o,u',q1,q2,q3,q4⟩:=hcap i y v' h1 h4;exact⟨u',q4,.inr ⟨.inr (S.free y (Zw9 h1)),a,q1,o,hk _ _ q2,q3⟩⟩
 ·obtain⟨_,o,v',q1,q2⟩:=hcell y c e
  exact⟨v',o,hk _ _ q1,q2⟩
 ·show(some v::vs.map some).length=(x::names).length
  rw[ZwS,ZwS,ZwD,hlen]
end
end HP
namespace HP
open PySem PySem.Spec PyProof.Rows L2
variable[FX]
def cellsOf(clos:List (Str × Addr)):List Addr:=clos.filterMap λq=>clos.lookup q.1
theorem ZkJ{clos:List (Str × Addr)}{a:Addr}:a∈cellsOf clos↔∃y,clos.lookup y=some a:=by unfold cellsOf;rw[ZxW];exact⟨λ⟨q,_,h⟩=>⟨q.1,h⟩,λ⟨y,h⟩=>⟨(y,a),Zya h,h⟩⟩
theorem Tb.cut{P:Program}{w:World}{C:List Addr}{H:Hp}{h:Heap}(t:Tb H)(x:HOk P w H h)(hC:∀c∈C,∃o v,H c=some (ZaR c o)/\o.data=.cell v):Tb (ZaG C H):=λT q hT=>by
 obtain⟨ps,h1,h2,h3⟩:=t T q hT;refine⟨ps,?_,h2,λpos c hc=>?_⟩
 ·rw[Z4 λz=>by
   obtain⟨o,v,e,_⟩:=hC T z;rw[h1]at e; cases e]
  exact h1
 ·obtain⟨a,o,e1,e2,e3⟩:=h3 pos c hc
  refine⟨a,o,e1,?_,e3⟩;rw[Z4 λz=>by obtain⟨o',v,f1,f2⟩:=hC a z;have g1:=ZbQ (x a _ e2);have g2:=ZbQ (x a _ f1);rw[g1]at g2;cases g2;obtain⟨vs,tt,d1,_⟩:=e3;rw[d1]at f2; cases f2];exact e2
section
variable{P:Program}{w:World}{K:ZwC}{mg:Str->Option Value}{base:Heap}{k:Nat}
theorem ZsA{params:Arguments}{body:Expr}{scope:Scope}{x:Str}{names:List Str}{g:HM.EF}(S:Zi2 scope x names)
  (hbind:∀(qual:Str) (clos:List (Str × Addr)) (pm cd ctv u:Value),bindArgs (PySem.W.kla_fn "<lambda>" qual params body scope clos pm cd ctv) ⟨[u],[]⟩=pure [(x,u)])
  (hbody:∀(qual:Str) (f:Addr) (cd:Value) (clos:List (Str × Addr)) (A:Around) (outer:List Env) (s:Shared) (H:Hp),Zah k (A.deeper (Zzq qual scope s.heap.objs.size f cd clos))->XE (Zln P w K mg base (x::names) qual scope f cd clos A outer s H) body g)
  {A:Around} {outer:List Env} {s:Shared} {F H:Hp} {p:Addr} {cs:List PyData} (C:Clo K F p params body scope names cs) (e0:Zd4 P w K mg base A outer s H) (sub:Zp F H) (hr:Zah (k+1) A) (tb:Tb H) (nt:NoT F)
  {us:List Value} {vs:List V} {ds:List PyData} {d:PyData} {Q:VK} (rv:Vals vs us) (rs:Zq K F ds vs) (hap:HM.Zjz 1 names.length g cs ds=some d) (kk:∀v F' H',Ext F H F' H'->Rep K F' d v->Q v H') :
  codeAny (model P w) A (.call (.ref p) ⟨us,[]⟩) (CR CX0 outer P w H s Q E0) s:=by
 unfold HM.Zjz at hap;split at hap
 case isFalse=>cases hap
 rename_i hc;obtain⟨hl1,hl2,hnf⟩:=hc;obtain⟨d0,rfl⟩:=List.length_eq_one_iff.mp hl1;obtain⟨v0,vs',rfl,r0,rs'⟩:=rs.cons_inv;obtain rfl:=rs'.nil_inv;obtain⟨u0,rfl,ru0⟩:=vals1 rv;have hnf0:HM.noF 20 d0=true:=by rw[ZxN,ZwZ]at hnf; exact hnf.1
 obtain⟨qual,pm,ctv,c,oc,clos,h1,h2,h3,h4,h5,h6,h7,h8⟩:=C.ex;generalize hCs:cellsOf clos=Cs;have hCm:∀a,a∈Cs↔∃y,clos.lookup y=some a:=λa=>by rw[<-hCs]; exact ZkJ
 have hCo:∀a∈Cs,∃o v,F a=some (ZaR a o)/\o.data=.cell v/\s.heap.get? a=some o:=λa ha=>by obtain⟨y,e⟩:=(hCm a).mp ha;obtain⟨o,v,q1,q2⟩:=h6 y a e;exact⟨o,v,q1,q2,ZbQ (e0.hok a _ (sub _ _ q1))⟩
 have hCt:∀a∈Cs,∀o,H a=some o->te o=true:=λa ha o e=>by obtain⟨ob,v,q1,_,_⟩:=hCo a ha;rw[sub _ _ q1]at e; cases e; rfl
 have hCn:∀a∈Cs,H a≠none:=λa ha z=>by obtain⟨ob,v,q1,_,_⟩:=hCo a ha;rw[sub _ _ q1]at z; cases z
 have none1:∀b,H b=none->ZaG Cs H b=none:=λb e=>by
  by_cases hb:b∈Cs
  ·exact Zgg hb
  ·rw[Z4 hb]; exact e
 have e1:Zd4 P w K mg base A outer s (ZaG Cs H):=⟨e0.frames,e0.mod,λb o e=>⟨(e0.bs b o e).1,none1 b (e0.bs b o e).2⟩,e0.bsz,e0.funs,λb hb=>none1 b (e0.frf b hb),HOk.cut e0.hok hCt,e0.bare⟩;have KX:K.In s.heap:=e0.mod.kin.keeps λb o e=>(e0.bs b o e).1;have lim:s.heap.NoLimit:=e0.mod.nolimit.keeps λb o e=>(e0.bs b o e).1;have hcd:s.heap.CodeRec (.ref c) qual:=by obtain⟨vs,t,d1,d2⟩:=h3;exact⟨c,oc,vs,t,rfl,ZbQ (e0.hok c _ (sub _ _ h2)),d1,d2⟩
 refine PySem.W.kla_callFunE hr.depth (ZbQ (e0.hok p _ (sub _ _ h1))) rfl S.co S.gen rfl hcd ?_;rw[hbind];refine ZwF (ZzZ S.nocell (λy hy=>by rw[ZwT.mp hy]; exact S.par) (λh' hns hsb=>⟨lim.fresh _ hsb,?_⟩) S.kind);show codeAny _ _ (.expr body (Zzq qual scope s.heap.objs.size p (.ref c) clos)) _ _;have hvs:∃wv:List V,names.length=wv.length/\(∀(i:Nat) (y:Str) (v':V),names[i]?=some y->wv[i]?=some v'->∃a o u',clos.lookup y=some a/\s.heap.get? a=some o/\o.data=.cell (some u')/\RelV v' u')/\Zq K (ZaG Cs F) cs wv:=by
  have step:∀n,n<=cs.length->∃wv:List V,wv.length=n/\∀(i:Nat) (y:Str) (d:PyData) (v':V),names[i]?=some y->cs[i]?=some d->wv[i]?=some v'->(∃a o u',clos.lookup y=some a/\s.heap.get? a=some o/\o.data=.cell (some u')/\RelV v' u')/\Rep K (ZaG Cs F) d v':=by
   intro n
   induction n with
   | zero=>exact λ_=>⟨[],rfl,λi y d v' _ _ h=>by simp at h⟩
   | succ n ih =>
    intro hn;obtain⟨wv,l1,l2⟩:=ih (by omega);have hy:n<names.length:=by omega
    have hd:n<cs.length:=by omega
    obtain⟨a,o,u',v',q1,q2,q3,q4,q5⟩:=h8 n names[n] cs[n] (ZwR hy) (ZwR hd);refine⟨wv++[v'],by rw[ZwY,l1]; rfl,λi y d v2 g1 g2 g3=>?_⟩
    by_cases hi:i<n
    ·rw[Zxo (by omega)]at g3
     exact l2 i y d v2 g1 g2 g3
    ·have hin:i=n:=by
      have:=(ZwQ.mp g3).1;rw[ZwY,l1]at this;have:i<n+1:=this;omega
     subst hin;rw[Zxk (by omega),l1,Nat.sub_self]at g3;rw[ZwR hy]at g1;rw[ZwR hd]at g2;cases g1; cases g2; cases g3;refine⟨⟨a,o,u',q1,ZbQ (e0.hok a _ (sub _ _ q2)),q3,q4⟩,?_⟩;refine(Rep0.cut (λb ob z t=>?_) q5).up;rw[Z4 λhb=>by obtain⟨ob',v,w1,_,_⟩:=hCo b hb;rw[w1]at z; cases z; cases t];exact z
  obtain⟨wv,l1,l2⟩:=step cs.length (ZwM _);refine⟨wv,by omega,λi y v' g1 g3=>?_,by omega,λi d v' g2 g3=>?_⟩
  ·have hi:=(ZwQ.mp g3).1
   exact(l2 i y cs[i] v' g1 (ZwR (by omega)) g3).1
  ·have hi:=(ZwQ.mp g3).1
   exact(l2 i names[i] d v' (ZwR (by omega)) g2 g3).2
 obtain⟨wv,wl,wc,wr⟩:=hvs;have cutF:∀b o,F b=some o->te o=false->ZaG Cs F b=some o:=λb ob z t=>by rw[Z4 λhb=>by obtain⟨ob',v,w1,_,_⟩:=hCo b hb;rw[w1]at z; cases z; cases t];exact z
 have r0':Rep K (ZaG Cs F) d0 v0:=(Rep.cutF cutF r0 20 hnf0).up;have sub1:Zp (ZaG Cs F) (ZaG Cs H):=λb o e=>by obtain⟨hb,e⟩:=ZgW e;rw[Z4 hb]; exact sub _ _ e
 have nt1:NoT (ZaG Cs F):=λb o e=>nt b o (ZgW e).2;have tb1:Tb (ZaG Cs H):=tb.cut e0.hok λa ha=>by obtain⟨o,v,q1,q2,_⟩:=hCo a ha;exact⟨o,v,sub _ _ q1,q2⟩
 have I:=Zp7 (qual:=qual) (f:=p) (cd:=.ref c) (tk:=s.toks+1) S hr.hd e1 h4 h5 (λy a e=>by obtain⟨o,v,q1,q2,q3⟩:=hCo a ((hCm a).mpr ⟨y,e⟩);exact⟨Zgg ((hCm a).mpr ⟨y,e⟩),o,v,q3,q2⟩) ru0 wl wc hns hsb;have a0:At K (ZaG Cs F) (ZaG Cs H) (ZaG Cs F) (ZaG Cs H) ((d0::cs).map λd=>some (HM.B.pl d)) (some v0::wv.map some):=by
  have:=Zfy (N:=x::names) sub1 tb1 nt1 (Zq.cons r0' wr) (by rw[ZwS,ZwS]; omega);have e3:HM.ZdN (x::names).length (d0::cs)=(d0::cs).map λd=>some (HM.B.pl d):=by unfold HM.ZdN;rw[ZwS,ZwS,show names.length+1-(cs.length+1)=0 by omega];exact Zxe _
  have e4:L2.start (x::names) (v0::wv)=some v0::wv.map some:=by unfold L2.start;rw[ZwS,ZwS,show names.length+1-(wv.length+1)=0 by omega];exact Zxe _
  rw[e3,e4]at this;exact this
 refine PySem.W.kla_codeExpr (ZxQ (hbody qual p (.ref c) clos A outer s (ZaG Cs H) (hr.deeper _) _ _ hap [] _ _ _ (λv' H'=>∃F',Ext (ZaG Cs F) (ZaG Cs H) F' H'/\Rep K F' d v') I ⟨_,_,_,a0,λv' F' H' x' q'=>⟨F',x',q'⟩⟩) (λu' s' hq=>?_) λe s' hq=>ZxF hq);obtain⟨v',H',I',ru',F',x',q'⟩:=hq;have un:Un (frs outer) [] (ZaG Cs H) H' s.heap s'.heap:=I'.base;have nfs:∀a∈Cs,a ∉ frs outer:=λa ha hb=>hCn a ha (e0.frf a hb);have kc:∀a∈Cs,∃o,H a=some (ZaR a o)/\F a=some (ZaR a o)/\s'.heap.get? a=some o/\H' a=none:=λa ha=>by obtain⟨o,v,q1,q2,q3⟩:=hCo a ha;exact⟨o,sub _ _ q1,q1,un.keep a o q3 (Zgg ha) (nfs a ha) (by simp),un.free a o q3 (Zgg ha) (by simp)⟩
 have out:∀{b:Addr} {o:HO},H b=some o->te o=false->b ∉ Cs:=λ{b o} e t hb=>by rw[hCt b hb o e]at t; cases t
 have outN:∀{b:Addr},H b=none->b ∉ Cs:=λ{b} e hb=>hCn b hb e;have outT:∀{b:Addr} {ps:Array Value},H b=some (.tbl ps)->b ∉ Cs:=λ{b ps} e hb=>by obtain⟨o,q,_⟩:=kc b hb;rw[e]at q; cases q
 refine⟨v',Zf2 Cs H H',I'.os,I'.bare,⟨λb o e n hb hx=>?_,λb o e n hb hx=>?_,λb o e n hx=>?_,un.there,λb xs e=>?_,λb o u e=>?_,λb ps e=>?_⟩,HOk.put I'.hok (λa ha=>by obtain⟨_,_,_,_,q⟩:=kc a ha; exact q) (λa ha u e=>?_),ru',kk v' (Zf2 Cs F F') (Zf2 Cs H H') ⟨λb o e=>?_,λb o e=>?_,λb o e=>?_,λb o e=>?_,λt=>?_,λn b o e=>?_⟩ (q'.mono λb o e=>?_)⟩
 ·exact un.keep b o e (none1 b n) hb hx
 ·exact un.slot b o e (none1 b n) hb hx
 ·rw[ZaS (outN n)]; exact un.free b o e (none1 b n) hx
 ·have hb:=out e rfl
  rw[ZaS hb]; exact un.tups b xs (by rw[Z4 hb]; exact e)
 ·have hb:=out e rfl
  rw[ZaS hb]; exact un.frzs b o u (by rw[Z4 hb]; exact e)
 ·have hb:=outT e
  rw[ZaS hb]; exact un.tbls b ps (by rw[Z4 hb]; exact e)
 ·obtain⟨o,q1,_,q3,_⟩:=kc a ha
  rw[q1]at e; cases e;exact⟨o,rfl,q3⟩
 ·by_cases hb:b∈Cs
  ·rw[Zd3 hb]; exact e
  ·rw[ZaS hb]; exact x'.ff b o (by rw[Z4 hb]; exact e)
 ·by_cases hb:b∈Cs
  ·exact .of (by rw[Zd3 hb]; exact e)
  ·exact(x'.hh b o (by rw[Z4 hb]; exact e)).cong (ZaS hb)
 ·by_cases hb:b∈Cs
  ·rw[Zd3 hb]at e ⊢; exact sub _ _ e
  ·rw[ZaS hb]at e ⊢; exact x'.sub _ _ e
 ·by_cases hb:b∈Cs
  ·rw[Zd3 hb]at e; exact .inl e
  ·rw[ZaS hb]at e
   rcases x'.new b o e with q | q
   ·exact .inl (ZgW q).2
   ·refine .inr ?_
    unfold Fre at q ⊢;rw[Z4 hb]at q;exact q
 ·exact(x'.tab tb1).keep λa o e _=>by rw[ZaS λhb=>by obtain⟨_,_,_,_,q⟩:=kc a hb;rw[e]at q; cases q];exact e
 ·by_cases hb:b∈Cs
  ·rw[Zd3 hb]at e; exact n b o e
  ·rw[ZaS hb]at e; exact x'.nts nt1 b o e
 ·rw[ZaS λhb=>by
   obtain⟨_,_,_,_,q⟩:=kc b hb;rw[x'.sub _ _ e]at q; cases q]
  exact e
end
end HP
namespace HP
open PySem PySem.Spec PyProof.Rows L2
variable[FX]
theorem Zph{a b:Int}{cv:Value}(l:List Value)(h:TriplesOk l):∀(pos:Pos) (c:Value),ZAe pos (l++[rawInt a,rawInt b,cv])=some c->ZAe pos l=some c\/c=cv:=by
 fun_induction TriplesOk l with
 | case1 =>
  intro pos c e;simp only[Zy2,ZAe,rawInt]at e;split at e
  ·cases e; exact .inr rfl
  ·cases e
 | case2 x t y u z rest ih =>
  intro pos c e;simp only[ZAI,ZAe]at e ⊢;split at e
  ·rename_i hq
   rw[if_pos hq];exact .inl e
  ·rename_i hq
   rw[if_neg hq];exact ih h pos c e
 | case3=>exact h.elim
def BMod(base:Heap)(mg:Str->Option Value):Prop:=∃bm o,mg "__builtins__" = some (.ref bm)/\bm≠ZAu/\bm≠Zxj/\base.get? bm=some o/\o.cls=.type "module"/\o.dict=some ZAu/\o.data=.plain
structure Zo0(X:Cx)(t:Nat)(params:Arguments)(body:Expr)(scope:Scope)(names:List Str)(is:List Nat):Prop where
 code:∃c P,X.env.code=.ref c/\Zyh X.K c P=true/\(P,X.env.qual ++ "<lambda>")∈FX.tl/\∀q,(P,q)∈FX.tl->q=X.env.qual ++ "<lambda>"
 bm:BMod X.base X.mg
 dflt:defaultsOf params X.env=([],[])
 len:is.length=names.length
 at_:∀(j i:Nat) (x:Str),is[j]?=some i->names[j]?=some x->X.N[i]?=some x/\X.env.scope.names.lookup x=some .cell
 cells:∀y∈scope.names,y.2=.free->X.env.scope.names.lookup y.1=some .cell
 free:∀x∈names,(x,ZyI)∈scope.names
 own:∀x,X.fn x=true
 good:∀F p cs,Clo X.K F p params body scope names cs->FX.fv t cs F p
section
variable{X:Cx}{t:Nat}{params:Arguments}{body:Expr}{scope:Scope}{names:List Str}{is:List Nat}{pos lpos p:Pos}
structure Made(X:Cx)(params:Arguments)(body:Expr)(scope:Scope)(H H':Hp)(q:Addr)(clos:List (Str × Addr)):Prop where
 ex:∃(pm ctv:Value) (c:Addr) (oc:Obj),H' q=some (ZaR q (Zz0 "<lambda>" (X.env.qual ++ "<lambda>") params body scope clos pm c ctv))/\H' c=some (ZaR c oc)/\Zkb oc (X.env.qual ++ "<lambda>")
 hh:Zab H H'
 tb:Tb H'
theorem Zsf(L:Zo0 X t params body scope names is){pins:List (Addr × Obj)}{s:Shared}{σ:L2.St}{H:Hp}(I:Inv X pins σ H s)(tb:Tb H){clos:List (Str × Addr)}(hcl:closureFor scope X.env=pure clos) :
  wpAny (model X.prog X.w) X.A (eval (.Lambda params body scope lpos) X.env) (λu s'=>∃q H',u=.ref q/\Inv X pins σ H' s'/\Made X params body scope H H' q clos) X.xe s:=by
 obtain⟨c,P,hc,hh,hm,hu⟩:=L.code;obtain⟨ps,hP,ht,hg⟩:=tb P _ hm;have gP:s.heap.get? P=some (Zzd ps):=I.hok P _ hP;have Ns:=I.mod.glob.keeps I.bk;have CH:PySem.W.CodeHd s.heap c P:=ZBd I.kIn hh;obtain⟨bm,ob,b1,b2,b3,b4,b5,b6,b7⟩:=L.bm;have gb:=I.bk _ _ b4;have hbP:bm≠P:=λz=>by rw[z,gP]at gb; cases gb; cases b5
 have hgP:Zxj≠P:=λz=>by obtain⟨o,es,ep,e,hd,_⟩:=Ns;rw[z,gP]at e; cases e; cases hd
 have BA:s.heap.BuiltinsAt X.mg P:=⟨bm,ob,b1,b2,b3,hbP,gb,b5,b6,b7⟩;refine PySem.W.kla_eval L.dflt ?_;cases hq:ZAe lpos ps.toList with
 | some cv =>
  obtain⟨a,oc,rfl,h1,h2⟩:=hg lpos cv hq;refine PySem.W.kla_makeFunctionHit hcl I.ok.glob Ns hc CH gP ht hq BA λctv h' tk hk hz=>?_;generalize hob:Zz0 "<lambda>" (X.env.qual ++ "<lambda>") params body scope clos ((X.mg "__name__").getD .none) a ctv=fo;have hn:H h'.objs.size=none:=I.hok.fresh hz;have hk2:∀b o,s.heap.get? b=some o->(h'.push fo).get? b=some o:=λb o e=>ZwH _ (hk b o e);have gq:(h'.push fo).get? h'.objs.size=some fo:=by rw[<-hob]; exact ZwX _ rfl
  refine⟨h'.objs.size,upd H h'.objs.size (ZaR h'.objs.size fo),rfl,?_,⟨_,ctv,a,oc,by rw[Zz,<-hob],?_,h2⟩,.of (Zi7 hn),tb.same (Zi7 hn)⟩
  ·subst hob
   exact I.laid (t':=tk) hk2 hz (Zh8 gq)
  ·rw[Zx (Z6 h1 hn)]; exact h1
 | none =>
  refine PySem.W.kla_makeFunction hcl I.ok.glob Ns hc CH gP ht hq hgP BA λc' ctv h' tk hx hge hlt hrec htab=>?_;generalize hob:Zz0 "<lambda>" (X.env.qual ++ "<lambda>") params body scope clos ((X.mg "__name__").getD .none) c' ctv=fo;generalize hps:ps++#[rawInt lpos.line,rawInt lpos.col,Zxy c']=ps2 at htab;obtain⟨c2,oc,vs,tq,e2,goc,d1,d2⟩:=hrec;cases e2;have hcn:H c'=none:=I.hok.fresh hge;have hqn:H h'.objs.size=none:=I.hok.fresh (Zxr hge (Zys hlt));have hcq:c'≠h'.objs.size:=Zw1 hlt;have hcP:c'≠P:=λz=>by rw[z,hP]at hcn; cases hcn
  have hqP:h'.objs.size≠P:=λz=>by rw[z,hP]at hqn; cases hqn
  have gq:(h'.push fo).get? h'.objs.size=some fo:=by rw[<-hob]; exact ZwX _ rfl
  have gc:(h'.push fo).get? c'=some oc:=ZwH _ goc;have gP2:(h'.push fo).get? P=some (Zzd ps2):=ZwH _ htab;have hk2:∀b o,b≠P->s.heap.get? b=some o->(h'.push fo).get? b=some o:=λb o hb e=>ZwH _ (hx b o hb e);generalize hH':upd (upd (upd H P (.tbl ps2)) c' (ZaR c' oc)) h'.objs.size (ZaR h'.objs.size fo)=H';have aq:H' h'.objs.size=some (ZaR h'.objs.size fo):=by rw[<-hH',Zz]
  have ac:H' c'=some (ZaR c' oc):=by rw[<-hH',Zx hcq,Zz]
  have aP:H' P=some (.tbl ps2):=by rw[<-hH',Zx (ZxC hqP),Zx (ZxC hcP),Zz]
  have ao:∀b,b≠h'.objs.size->b≠c'->b≠P->H' b=H b:=λb n1 n2 n3=>by rw[<-hH',Zx n1,Zx n2,Zx n3]
  have at1:∀b o,H b=some o->b≠P->H' b=some o:=λb o e n=>by rw[ao b (Z6 e hqn) (Z6 e hcn) n]; exact e
  have nP:∀b o,H b=some o->(∀ps,o≠.tbl ps)->b≠P:=λb o e n z=>by rw[z,hP]at e; cases e; exact n _ rfl
  have old:∀b o,s.heap.get? b=some o->b≠h'.objs.size/\b≠c':=λb o e=>by have hb:=ZwU e;exact⟨Zw1 (Zw6 hb (Zxr hge (Zys hlt))),Zw1 (Zw6 hb hge)⟩
  have hokN:HOk X.prog X.w H' (h'.push fo):=λb o e=>by
   by_cases n1:b=h'.objs.size
   ·subst n1; rw[aq]at e; cases e; exact Zh8 gq
   ·by_cases n2:b=c'
    ·subst n2; rw[ac]at e; cases e; exact Zh8 gc
    ·by_cases n3:b=P
     ·subst n3; rw[aP]at e; cases e; exact gP2
     ·rw[ao b n1 n2 n3]at e
      refine(I.hok b o e).stay (λd u hd z=>hk2 d u (λy=>?_) z) (λd z=>at1 d _ z (nP d _ z λ_ y=>by cases y)) λd xs z=>at1 d _ z (nP d _ z λ_ y=>by cases y);rcases hd with y2 | y2
      ·exact n3 (y2▸y)
      ·exact nP d _ y2 (λ_ q=>by cases q) y
  have un:Un X.fs [] H H' s.heap (h'.push fo):=by
   refine⟨λb o e n hb hx=>?_,λb o e n hb hx=>?_,λb o e n hx=>?_,λb o e hx=>?_,λb xs e=>at1 b _ e (nP b _ e λ_ y=>by cases y),λb o u e=>at1 b _ e (nP b _ e λ_ y=>by cases y),λb pp e=>?_⟩
   ·exact hk2 b o (λz=>by rw[z,hP]at n; cases n) e
   ·exact⟨o.slots,hk2 b o (λz=>by rw[z,hP]at n; cases n) e⟩
   ·obtain⟨n1,n2⟩:=old b o e
    rw[ao b n1 n2 (λz=>by rw[z,hP]at n; cases n)]; exact n
   ·by_cases n3:b=P
    ·exact⟨_,by rw[n3]; exact gP2⟩
    ·exact⟨o,hk2 b o n3 e⟩
   ·by_cases n3:b=P
    ·subst n3
     rw[hP]at e; cases e;exact⟨_,by rw[aP,<-hps]⟩
    ·exact⟨#[],by rw[at1 b _ e n3]; simp⟩
  refine⟨h'.objs.size,H',rfl,?_,⟨_,ctv,c',oc,by rw[aq,<-hob],ac,vs,tq,d1,d2⟩,λb o e=>?_,λT q hT=>?_⟩
  ·exact I.un (t':=tk) un hokN
  ·by_cases n3:b=P
   ·subst n3
    rw[hP]at e; cases e;exact⟨_,aP⟩
   ·exact .of (at1 b o e n3)
  ·by_cases n3:T=P
   ·subst n3
    obtain rfl:=hu q hT;refine⟨ps2,aP,?_,λpos' cc hcc=>?_⟩
    ·rw[<-hps,Array.toList_append]
     exact TriplesOk_snoc _ _ _ _ ht
    ·rw[<-hps,Array.toList_append]at hcc
     rcases Zph _ ht _ _ hcc with e | e
     ·obtain⟨a,o,q1,q2,q3⟩:=hg pos' cc e
      exact⟨a,o,q1,at1 a _ q2 (nP a _ q2 λ_ y=>by cases y),q3⟩
     ·exact⟨c',oc,e,ac,vs,tq,d1,d2⟩
   ·obtain⟨ps',w1,w2,w3⟩:=tb T q hT
    refine⟨ps',at1 T _ w1 n3,w2,λpos' cc hcc=>?_⟩;obtain⟨a,o,q1,q2,q3⟩:=w3 pos' cc hcc;exact⟨a,o,q1,at1 a _ q2 (nP a _ q2 λ_ y=>by cases y),q3⟩
theorem ZmK{r:HM.Env}:∀{is:List Nat} {cs:List PyData},HM.Zjt is r=some cs->cs.length=is.length/\∀(j i:Nat),is[j]?=some i->∃d,cs[j]?=some d/\r[i]?=some (some (.pl d))
 | [],cs,h=>by cases h; exact⟨rfl,λj i e=>by simp at e⟩
 | i::is,cs,h=>by
  unfold HM.Zjt at h;split at h
  ·rename_i d hd
   obtain⟨cs',h1,h2⟩:=ZwE.mp h;subst h2;obtain⟨l,k⟩:=ZmK h1;refine⟨by rw[ZwS,ZwS,l],λj i' e=>?_⟩;cases j with
   | zero=>cases e; exact⟨d,rfl,hd⟩
   | succ j=>exact k j i' e
  ·cases h
def Zd2(F H:Hp):Hp:=λb=>match H b with
 | some (.ext φ)=>some (.ext φ)
 | _=>F b
theorem ZgZ{F H:Hp}{a:Addr}{o:Obj}(h:H a=some (ZaR a o)):Zd2 F H a=some (ZaR a o):=by unfold Zd2 ZaR at *;rw[h]
theorem ZiL{F H:Hp}{b:Addr}{o:HO}(h:Zd2 F H b=some o):(H b=some o/\te o=true)\/F b=some o:=by
 unfold Zd2 at h;split at h
 ·rename_i φ e
  cases h;exact .inl ⟨e,rfl⟩
 ·exact .inr h
theorem ZsH{F H:Hp}(s:Zp F H){b:Addr}{o:HO}(h:F b=some o):Zd2 F H b=some o:=by have h2:=s b o h;unfold Zd2;rw[h2];cases o<;>first | rfl | exact h
theorem ZoK{k:Nat}{x:Str}{M:List PyData->Option PyData}{e:Expr}{fa:HM.EF}(C:Callee X.prog X.w X.K X.mg X.base k x M)(hr:Zah k X.A)(L:Zo0 X t params body scope names is)(ha:XE X e fa)(hg:Gl X x:=by rfl)(hdb:(x==("__debug__":Str))=false:=by decide)
  (he:ZwP [e,.Lambda params body scope lpos] X.env=(false,eval e X.env)::ZwP [.Lambda params body scope lpos] X.env:=by rfl) (he2:ZwP [.Lambda params body scope lpos] X.env=[(false,eval (.Lambda params body scope lpos) X.env)]:=by rfl)
  (hpl:(backTo pos (ZwP [.Lambda params body scope lpos] X.env)).any (·.1)=false:=by rfl):XE X (.Call (.Name x p) [e,.Lambda params body scope lpos] [] pos) (HM.ZgU M t is fa):=by
 intro r d hd;unfold HM.ZgU at hd;split at hd
 case h_2=>cases hd
 rename_i d1 hd1;split at hd
 case h_2=>cases hd
 rename_i cs hcs;split at hd
 case isFalse=>cases hd
 rename_i hnc;split at hd
 case h_2=>cases hd
 rename_i d' hM;split at hd
 case isFalse=>cases hd
 rename_i hnd;cases hd;obtain⟨fa',fd,ps,hl,FN,hm,hk,hb⟩:=C.ex;intro pins s σ H Q I ⟨F0,H0,F,at_,kk⟩;obtain⟨clos,hcl,hc1,hc2⟩:=ZeD (scope:=scope) (env:=X.env) λy hy hf=>I.ok.has _ (.inl (L.cells y hy hf));refine ZyB (ZjT I hg hm ?_ hdb);have lamPE:PE X (.Lambda params body scope lpos) λσ' H' Q'=>Tb H'/\∀q H2,Made X params body scope H' H2 q clos->Q' (.ref q) H2:=λpins' s' σ' H' Q' I' ⟨tb',k'⟩=>thn (Zsf L I' tb' hcl) λu s2 ⟨q,H2,e1,I2,m⟩=>by subst e1; exact⟨.ref q,H2,I2,rfl,k' q H2 m⟩
 refine ZBg (h₀:=X.base) I.ok.mod.kin hk (thn (Z5 (ha r d1 hd1) (Z5 lamPE Zbm he2) he pos pins s σ H (λvs H2=>∃v1 F1 H1 q,vs=[v1,.ref q]/\Ext F H F1 H1/\Rep X.K F1 d1 v1/\Made X params body scope H1 H2 q clos) I
  ⟨F0,H0,F,at_,λv F1 H1 x1 r1=>⟨at_.tbx x1,λq H2 m=>⟨v,F1,H1,q,rfl,x1,r1,m⟩⟩⟩) λus s2 ⟨vs,H2,I2,rv,v1,F1,H1,q,ev,x1,r1,m⟩=>⟨I2.kIn,?_⟩) he hpl
 subst ev;have at1:=at_.grow x1;have tb1:=at_.tbx x1;have nt1:=at_.ntx x1;generalize hCs:cellsOf clos=Cs;have hCm:∀a,a∈Cs↔∃y,clos.lookup y=some a:=λa=>by rw[<-hCs]; exact ZkJ
 have hCc:∀a∈Cs,∃y o v,X.env.cells.lookup y=some a/\s2.heap.get? a=some o/\o.data=.cell v/\H2 a=none:=λa ha=>by obtain⟨y,e⟩:=(hCm a).mp ha;have e1:=hc1 y a e;obtain⟨v,o,h1,h2⟩:=I2.cell y a e1;exact⟨y,o,v,e1,h1,h2,I2.freeC y a e1⟩
 generalize hG:(λa:Addr=>(s2.heap.get? a).map (ZaR a))=G;have hGo:∀{a:Addr} {o:Obj},s2.heap.get? a=some o->G a=some (ZaR a o):=λ{a o} e=>by rw[<-hG]; show Zyv _ _=_; rw[e]; rfl
 generalize hH3:Zf2 Cs G H2=H3;have h3in:∀{a:Addr},a∈Cs->∃o v,H3 a=some (ZaR a o)/\s2.heap.get? a=some o/\o.data=.cell v:=λ{a} ha=>by obtain⟨y,o,v,_,g1,g2,_⟩:=hCc a ha;exact⟨o,v,by rw[<-hH3,Zd3 ha]; exact hGo g1,g1,g2⟩
 have h3out:∀{a:Addr},a ∉ Cs->H3 a=H2 a:=λ{a} ha=>by rw[<-hH3,ZaS ha]
 have s23:Zp H2 H3:=λb o z=>by rw[h3out λhb=>by obtain⟨_,_,_,_,_,_,g⟩:=hCc b hb;rw[g]at z; cases z];exact z
 have cge:∀a∈Cs,X.s₀.heap.objs.size<=a:=λa ha=>by obtain⟨y,_,_,e1,_⟩:=hCc a ha;exact I.ok.cab y a (L.own y) e1
 have hok3:HOk X.prog X.w H3 s2.heap:=by rw[<-hH3];refine HOk.put I2.hok (λa ha=>by obtain⟨_,_,_,_,_,_,g⟩:=hCc a ha; exact g) λa ha u e=>?_;obtain⟨y,o,v,_,g1,g2,_⟩:=hCc a ha;rw[hGo g1]at e; cases e;exact⟨o,rfl,g1⟩
 have E2:=I2.env0;have cfr:∀b∈frs X.stack,b ∉ Cs:=λb hb hc=>by
  obtain⟨y,o,v,e1,g1,g2,_⟩:=hCc b hc;rcases Zw0.mp (I2.stkSub b hb)with z | z
  ·exact I2.cne y b e1 z
  ·obtain⟨_,o',ho',_⟩:=I.ok.funs.mem z
   exact absurd (Zw6 (ZwU ho') (cge b hc)) (Zym _)
 have E3:Zd4 X.prog X.w X.K X.mg X.base X.A X.stack s2 H3:=⟨E2.frames,E2.mod,λb o z=>⟨(E2.bs b o z).1,by rw[h3out λhb=>absurd (Zw6 (ZwU z) (Zxr I.ok.bsz (cge b hb))) (Zym _)];exact(E2.bs b o z).2⟩,E2.bsz,E2.funs,λb hb=>by rw[h3out (cfr b hb)]; exact E2.frf b hb,hok3,E2.bare⟩;have s12:Zp F1 H2:=λb o z=>m.hh.ntb (x1.sub b o z) (nt1 b o z);have s13:Zp F1 H3:=s12.trans s23;have ff:Zp F1 (Zd2 F1 H3):=λb o z=>ZsH s13 z;have s33:Zp (Zd2 F1 H3) H3:=λb o z=>by
  rcases ZiL z with⟨w,_⟩ | w
  ·exact w
  ·exact s13 b o w
 have nt3:NoT (Zd2 F1 H3):=λb o z=>by
  rcases ZiL z with⟨w1,w2⟩ | w
  ·unfold Zd2 at z
   split at z
   ·cases z; rfl
   ·exact nt1 b o z
  ·exact nt1 b o w
 have tb3:Tb H3:=m.tb.same s23;obtain⟨pm,ctv,c,oc,m1,m2,m3⟩:=m.ex;obtain⟨cl1,cl2⟩:=ZmK hcs;have clo:Clo X.K (Zd2 F1 H3) q params body scope names cs:=by
  refine⟨_,pm,ctv,c,oc,clos,ZgZ (s23 _ _ m1),ZgZ (s23 _ _ m2),m3,λy z a g1 g2=>I.ok.inj y z a (hc1 y a g1) (hc1 z a g2),hc2,λy a g=>?_,by rw[cl1,L.len],λj y dj g1 g2=>?_⟩
  ·obtain⟨o,v,w1,w2,w3⟩:=h3in ((hCm a).mpr ⟨y,g⟩)
   exact⟨o,v,ZgZ w1,w3⟩
  ·have hj:j<is.length:=by rw[L.len]; exact(ZwQ.mp g1).1
   obtain⟨dj',g3,g4⟩:=cl2 j is[j] (ZwR hj);rw[g2]at g3;cases g3;obtain⟨hN,hkind⟩:=L.at_ j is[j] y (ZwR hj) g1;obtain⟨v,w1,w2⟩:=at1.plain g4;obtain⟨mm,_,hloc⟩:=I2.loc;obtain⟨u,ru,lk⟩:=hloc is[j] y v hN w1 (.inr (.inl hkind));have hfr:=hc2 _ (L.free y (Zw9 g1)) rfl;obtain⟨a,hal⟩:=Zxt.mp hfr;rcases lk with⟨k1,_⟩ | ⟨_,a',k1,o,k2,k3⟩
   ·rw[show X.env.kindOf y=some .cell from hkind]at k1; cases k1
   ·rw[hc1 y a hal]at k1
    cases k1;obtain⟨o',v',z1,z2,z3⟩:=h3in ((hCm a).mpr ⟨y,hal⟩);rw[k2]at z2;cases z2;refine⟨a,o,u,v,hal,ZgZ z1,k3,ru,Rep.cutF (λb ob z _=>ff b ob z) w2 20 ?_⟩;exact ZwK.mp hnc dj (Zw9 g2)
 have fv:=L.good _ _ _ clo;have hlen:=hl _ _ hM;refine wpAny_call (ZyA (FN.run X.A X.stack s2 H3 ⟨us,[]⟩ us [v1,.ref q] (λv H4=>∃F4,Ext (Zd2 F1 H3) H3 F4 H4/\Rep X.K F4 d v) E0 hr E3 (by
  have:=hb s2 us I2.kIn (by rw[Zxe,<-rv.length]; exact hlen)
  rwa [Zxe]at this) rv ⟨Zd2 F1 H3,_,d,hlen,s33,tb3,nt3,.cons (r1.mono ff) (.one (.fn fv)),hM,λv F4 H4 x4 q4=>⟨F4,x4,q4⟩⟩) λrs s4 hq=>?_)
 cases rs with
 | error e=>exact ZxF hq
 | ok fl =>
  cases fl with
  | next=>exact ZxF hq
  | brk=>exact ZxF hq
  | cont=>exact ZxF hq
  | ret u =>
   obtain⟨v,H4,os,bare,un,hok4,ru,F4,x4,q4⟩:=hq;have c4:∀{a:Addr},a∈Cs->∃o v,H4 a=some (ZaR a o)/\s2.heap.get? a=some o/\s4.heap.get? a=some o/\o.data=.cell v:=λ{a} ha=>by obtain⟨o,v,w1,w2,w3⟩:=h3in ha;have w4:H4 a=some (ZaR a o):=x4.hh.ntb w1 rfl;exact⟨o,v,w4,w2,ZbQ (hok4 a _ w4),w3⟩
   have out4:∀{b:Addr} {o:HO},H2 b=some o->b ∉ Cs:=λ{b o} z hb=>by obtain⟨_,_,_,_,_,_,g⟩:=hCc b hb;rw[g]at z; cases z
   generalize hF5:(λb:Addr=>match F4 b with | some o=>if te o=true then F1 b else some o | none=>none)=F5;have f5:∀{b:Addr} {o:HO},F5 b=some o->(F4 b=some o/\te o=false)\/F1 b=some o:=λ{b o} z=>by
    rw[<-hF5]at z;dsimp only at z;split at z
    ·rename_i o' w
     split at z
     ·exact .inr z
     ·rename_i n
      cases z;exact .inl ⟨w,by simpa using n⟩
    ·cases z
   have f5a:∀{b:Addr} {o:HO},F4 b=some o->te o=false->F5 b=some o:=λ{b o} z n=>by rw[<-hF5]; dsimp only; rw[z]; dsimp only; rw[if_neg (by rw[n]; simp)]
   have f5b:∀{b:Addr} {o:HO},F1 b=some o->F5 b=some o:=λ{b o} z=>by
    have w:=x4.ff b o (ff b o z)
    by_cases n:te o=true
    ·rw[<-hF5]; dsimp only; rw[w]; dsimp only; rw[if_pos n]; exact z
    ·exact f5a w (by simpa using n)
   have sub5:Zp F5 (ZaG Cs H4):=λb o z=>by
    rcases f5 z with⟨w,n⟩ | w
    ·rw[Z4 λhb=>by
      obtain⟨_,_,g,_⟩:=c4 hb;rw[x4.sub b o w]at g; cases g; cases n]
     exact x4.sub b o w
    ·rw[Z4 (out4 (s12 b o w))]
     exact x4.sub b o (x4.ff b o (ff b o w))
   refine I2.after ⟨v,ZaG Cs H4,os,bare,⟨λb o e n hb hx=>?_,λb o e n hb hx=>?_,λb o e n hx=>?_,un.there,λb xs e=>?_,λb o w e=>?_,λb pp e=>?_⟩,HOk.cut hok4 (λa ha o e=>?_),ru,kk v F5 (ZaG Cs H4) (x1.trans ⟨λb o z=>f5b z,λb o z=>?_,sub5,λb o z=>?_,λtb=>?_,λ_ b o z=>?_⟩) ((Rep.cutF (λb o z n=>f5a z n) q4 20 hnd).up)⟩
   ·by_cases hc:b∈Cs
    ·obtain⟨o',_,_,w2,w3,_⟩:=c4 hc
     rw[e]at w2; cases w2; exact w3
    ·exact un.keep b o e (by rw[h3out hc]; exact n) hb hx
   ·exact un.slot b o e (by rw[h3out (cfr b hb)]; exact n) hb hx
   ·by_cases hc:b∈Cs
    ·exact Zgg hc
    ·rw[Z4 hc]; exact un.free b o e (by rw[h3out hc]; exact n) hx
   ·rw[Z4 (out4 e)]; exact un.tups b xs (s23 _ _ e)
   ·rw[Z4 (out4 e)]; exact un.frzs b o w (s23 _ _ e)
   ·rw[Z4 (out4 e)]; exact un.tbls b pp (s23 _ _ e)
   ·obtain⟨o',_,g,_⟩:=c4 ha
    rw[g]at e; cases e; rfl
   ·-- tracked things stay
    have z2:=m.hh b o z;have key:∀{u:HO},H2 b=some u->Zcw (ZaG Cs H4) b u:=λ{u} w=>(x4.hh b u (s23 b u w)).cong (Z4 (out4 w));cases o<;>first | exact key z2 | (obtain⟨pp,w⟩:=z2; exact(show ∃ps',_ from key w))
   ·rcases f5 z with⟨w,n⟩ | w
    ·rcases x4.new b o w with y | y
     ·rcases ZiL y with⟨_,y2⟩ | y2
      ·rw[n]at y2; cases y2
      ·exact .inl y2
     ·refine .inr ?_
      have hcb:b ∉ Cs:=λhb=>by
       obtain⟨o',_,g,_⟩:=h3in hb;rcases y with y | ⟨xs,_,y⟩
       ·rw[g]at y; cases y
       ·rw[g]at y; cases y
      rcases y with y | ⟨xs,y1,y2⟩
      ·rw[h3out hcb]at y
       exact .inl (m.hh.free y)
      ·rw[h3out hcb]at y2
       cases w1:H1 b with
       | none=>exact .inl w1
       | some u =>
        have:=m.hh.back w1 y2 λ_ q=>by cases q
        subst this;exact .inr ⟨xs,y1,w1⟩
    ·exact .inl w
   ·refine(x4.tab tb3).cut hok4 λa ha=>?_
    obtain⟨o,v',g1,_,_,g4⟩:=c4 ha;exact⟨o,v',g1,g4⟩
   ·rcases f5 z with⟨w,_⟩ | w
    ·exact x4.nts nt3 b o w
    ·exact nt1 b o w
end
end HP
namespace HP
open PySem PySem.Spec PyProof.Rows L2
structure ZpD(K:ZwC)(x qual:Str)(st:Stmt)(f:Addr)(fd:FuncData)(c:Addr):Prop where
 ex:∃(oc:Value) (od:Option Addr) (kV doc pm:Value) (an:Option Addr) (ct:Value) (osl:Array (Option Value)),
  fd=ZxS x qual (ZbJ st) (Zau st) (Ze st) .none kV doc pm an (.ref c) ct/\K.lookup f=some ⟨oc,od,.func fd,osl⟩/\Zyx K (.ref c) qual=true
 kp:Zx1 K (.ref f)=true
theorem Zta{K:ZwC}{x qual:Str}{st:Stmt}{f c:Addr}{oc:Value}{od an:Option Addr}{osl:Array (Option Value)}{kV doc pm ct:Value}(l:K.lookup f=some ⟨oc,od,.func (ZxS x qual (ZbJ st) (Zau st) (Ze st) .none kV doc pm an (.ref c) ct),osl⟩)
  (h:Zyx K (.ref c) qual=true) (k:Zx1 K (.ref f)=true):ZpD K x qual st f (ZxS x qual (ZbJ st) (Zau st) (Ze st) .none kV doc pm an (.ref c) ct) c:=⟨⟨oc,od,kV,doc,pm,an,ct,osl,rfl,l,h⟩,k⟩
section
variable[FX]
theorem ZoX{P:Program}{w:World}{K:ZwC}{mg:Str->Option Value}{base:Heap}{k:Nat}{x qual:Str}{st:Stmt}{f c:Addr}{fd:FuncData}{N ps:List Str}{g:HM.SF}(Fn:ZpD K x qual st f fd c)(S:Zw N ps (Ze st))(hm:mg x=some (.ref f))(hb:Binds K fd ps [])
  (body:∀(A:Around) (outer:List Env) (s:Shared) (H:Hp) (E:XK),Zah k (A.deeper (envOfC qual (Ze st) s.heap.objs.size f (.ref c)))->XSs (Zfk CX0 P w K mg base N qual (Ze st) f (.ref c) A outer s H E).nox (Zau st) g) :
  Callee P w K mg base (k+1) x (HM.fnOf ps.length N.length g):=by
 have hpl:ps.length<=N.length:=by have:=congrArg Zxl S.pre; rw[Zye]at this; omega
 refine⟨f,fd,ps,λds d h=>?_,?_,hm,Fn.kp,hb⟩
 ·unfold HM.fnOf at h
  split at h
  ·assumption
  ·cases h
 ·obtain⟨oc,od,kV,doc,pm,an,ct,osl,rfl,lk,hcd⟩:=Fn.ex
  refine Zss lk hcd S (λvs H Q E h=>by obtain⟨_,_,_,h,_⟩:=h; exact h) λA outer s H vs Q E hr h=>?_;obtain⟨F,ds,d,hl,sub,tb,nt,q,hM,kk⟩:=h;unfold HM.fnOf at hM;split at hM
  ·rename_i hds
   have a0:=Zfy (N:=N) sub tb nt q (by omega);split at hM
   ·rename_i r hr'
    cases hM;exact⟨_,(body A outer s H E hr _ _ hr').nox,F,H,F,a0,λσ F' H' a'=>kk .non F' H' a'.ext .non⟩
   ·rename_i d' hr'
    cases hM;exact⟨_,(body A outer s H E hr _ _ hr').nox,F,H,F,a0,λv F' H' x q=>kk v F' H' x q⟩
   ·cases hM
  ·cases hM
def ZoZ(N:List Str)(sc scope:Scope)(names:List Str)(is:List Nat):Bool :=
 decide (is.length=names.length)&&(is.zip names).all (λq=>decide (N[q.1]?=some q.2)&&decide (sc.names.lookup q.2=some .cell))&&scope.names.all (λy=>decide (y.2≠.free)||decide (sc.names.lookup y.1=some .cell))&&names.all λx=>decide ((x,ZyI)∈scope.names)
theorem Zsj{X:Cx}{t:Nat}{params:Arguments}{body:Expr}{scope sc:Scope}{names N:List Str}{is:List Nat}{c T:Addr}{q:Str}(ck:ZoZ N sc scope names is=true)(h1:Zyh X.K c T=true)(h2:(T,q)∈FX.tl)(h3:∀q',(T,q')∈FX.tl->q'=q)(bm:BMod X.base X.mg)
  (good:∀F p cs,Clo X.K F p params body scope names cs->FX.fv t cs F p) (hN:X.N=N:=by rfl) (hs:X.env.scope=sc:=by rfl) (hc:X.env.code=.ref c:=by rfl) (hq:X.env.qual ++ "<lambda>" = q:=by rfl) (hd:defaultsOf params X.env=([],[]):=by rfl) (ho:∀x,X.fn x=true:=by exact λ_=>rfl) :
  Zo0 X t params body scope names is:=by
 unfold ZoZ at ck;rw[ZwZ,ZwZ,ZwZ]at ck;obtain⟨⟨⟨k1,k2⟩,k3⟩,k4⟩:=ck;refine⟨⟨c,T,hc,h1,by rw[hq]; exact h2,λq' z=>by rw[hq]; exact h3 q' z⟩,bm,hd,of_decide_eq_true k1,λj i x e1 e2=>?_,λy hy hf=>?_,λx hx=>?_,ho,good⟩
 ·have:(i,x)∈is.zip names:=Zw9 (i:=j) (by rw[List.getElem?_zip_eq_some]; exact⟨e1,e2⟩)
  have:=ZwK.mp k2 _ this;rw[ZwZ]at this;rw[hN,hs];exact⟨of_decide_eq_true this.1,of_decide_eq_true this.2⟩
 ·have:=ZwK.mp k3 y hy
  rw[Zyb]at this;rw[hs];rcases this with z | z
  ·exact absurd hf (of_decide_eq_true z)
  ·exact of_decide_eq_true z
 ·exact of_decide_eq_true (ZwK.mp k4 x hx)
theorem Ztj{P:Program}{w:World}{K:ZwC}{mg:Str->Option Value}{base:Heap}{x qual:Str}{st:Stmt}{f a:Addr}{fd:FuncData}(Fn:Fun K x qual st f fd)(hm:mg x=some (.ref f))(ha:mg x=some (.ref a)){A:Around}{outer:List Env}{s:Shared}{H:Hp}(e0:Zd4 P w K mg base A outer s H):ZBj a s.heap:=by rw[hm]at ha;cases ha;obtain⟨oc,od,kV,doc,pm,an,cdv,ct,osl,rfl,lk,hcd⟩:=Fn.ex;have KX:K.In s.heap:=e0.mod.kin.keeps λb o e=>(e0.bs b o e).1;exact⟨_,_,_,_,KX _ _ lk⟩
theorem ZrI{P:Program}{w:World}{K:ZwC}{mg:Str->Option Value}{base:Heap}{k:Nat}{x:Str}{M:List PyData->Option PyData}{a:Addr}(C:Callee P w K mg base k x M)(ha:mg x=some (.ref a)){A:Around}{outer:List Env}{s:Shared}{F H:Hp}(e0:Zd4 P w K mg base A outer s H)(sub:Zp F H)
  {us:List Value} {vs:List V} {ds:List PyData} {d:PyData} {Q:VK} (hr:Zah k A) (tb:Tb H) (nt:NoT F) (rv:Vals vs us) (rs:Zq K F ds vs) (hM:M ds=some d) (kk:∀v F' H',Ext F H F' H'->Rep K F' d v->Q v H') :
  codeAny (model P w) A (.call (.ref a) ⟨us,[]⟩) (CR CX0 outer P w H s Q E0) s:=by
 obtain⟨f,fd,ps,hl,FN,hm,hk,hb⟩:=C.ex;rw[hm]at ha;cases ha;have KX:K.In s.heap:=e0.mod.kin.keeps λb o e=>(e0.bs b o e).1;have hlen:vs.length=ps.length:=by rw[<-rs.1]; exact hl _ _ hM
 refine FN.run A outer s H ⟨us,[]⟩ us vs Q E0 hr e0 ?_ rv ⟨F,ds,d,hlen,sub,tb,nt,rs,hM,kk⟩;have:=hb s us KX (by rw[Zxe,<-rv.length]; exact hlen)
 rwa [Zxe]at this
end
def Zlt(tabs:List Addr)(H:Hp):Prop:=(∀b,H b=none\/(∃o xs,H b=some (.frz o (.lst xs)))\/H b=some (.tbl #[]))/\∀T∈tabs,H T=some (.tbl #[])
theorem ZpT{P:Program}{w:World}{K:ZwC}{mg mb:Str->Option Value}{k:Nat}{fa a:Addr}{fd:FuncData}{x:Str}{sp:Sp}{s₁:Shared}{vs:List Value}{ns:List Int}{tabs:List (Addr × Addr)}
  (hT:∀q∈tabs,Zyh K q.1 q.2=true/\K.lookup q.2=none/\s₁.heap.get? q.2=some (Zzd #[]))
  (KX:K.In s₁.heap) (hns:s₁.heap.Ns Zxj mg) (hb:s₁.heap.Ns ZAu mb) (hbb:∀x:Str,x ≠ "__name__"->mb x=Zxw x) (hlim:s₁.heap.NoLimit) (hg:s₁.gens=#[])
  (ha:s₁.heap.get? a=some { cls:=.type "list",data:=.seq vs.toArray }) (hi:IntsAre vs ns) (hl:ns.length<=sizeLine) (hr:Zah k callerA)
  (hbm:PyProof.Rows.BMain s₁.heap mg) (F:∀base:Heap,K.In base->base.Ns Zxj mg->BMod base mg->ZcL P w K mg base CX0 k fa fd [x] sp) (hbind:∀(s:Shared) (u:Value),BindsTo s fd ⟨[u],[]⟩ [(x,u)])
  (hsp:∀H:Hp,Zlt (tabs.map (·.2)) H->SqL K H a (ns.map V.int)->sp [.ref a] H (λv _=>v=.bl true) λ_ _ _=>False) :
  codeAny (model P w) callerA (.call (.ref fa) ⟨[.ref a],[]⟩) (λr s'=>r=.ok (.ret (.bool true))/\OldK s₁.heap s'.heap/\s'.os=s₁.os/\AllBare s'.gens) s₁:=by
 have rv:=ZkA hi;have lenV:=hi.length;have tne:∀q∈tabs,q.2≠a:=λq hq z=>by have:=(hT q hq).2.2;rw[z,ha]at this; cases this
 have core:∀oS:Option HO,(oS=none\/∃o xs,oS=some (.frz o (.lst xs)))->(∀H:Hp,H a=oS->SqL K H a (ns.map V.int))->(∀H:Hp,∀u,oS=some u->ZV P w H s₁.heap a u)->(oS≠none->K.lookup a=none) ->
   codeAny (model P w) callerA (.call (.ref fa) ⟨[.ref a],[]⟩) (λr s'=>r=.ok (.ret (.bool true))/\OldK s₁.heap s'.heap/\s'.os=s₁.os/\AllBare s'.gens) s₁:=by
  intro oS hO hS hok0 hK;generalize hH:(λb:Addr=>if b=a then oS else if b∈tabs.map (·.2)then some (HO.tbl #[])else none)=H;have Ha:H a=oS:=by rw[<-hH]; exact if_pos rfl
  have Ht:∀T∈tabs.map (·.2),H T=some (.tbl #[]):=λT hT'=>by obtain⟨q,hq,e⟩:=ZwN.mp hT';rw[<-hH];show(if T=a then oS else if T∈tabs.map (·.2)then some (HO.tbl #[])else none)=_;rw[if_neg (by rw[<-e]; exact tne q hq),if_pos hT']
  have Hc:∀b u,H b=some u->(b=a/\oS=some u)\/(b∈tabs.map (·.2)/\u=.tbl #[]):=λb u e=>by
   rw[<-hH]at e;dsimp only at e;split at e
   ·rename_i h; exact .inl ⟨h,e⟩
   ·split at e
    ·rename_i h; cases e; exact .inr ⟨h,rfl⟩
    ·cases e
  have tget:∀T∈tabs.map (·.2),s₁.heap.get? T=some (Zzd #[])/\K.lookup T=none/\∃c,Zyh K c T=true:=λT hT'=>by obtain⟨q,hq,e⟩:=ZwN.mp hT';subst e;exact⟨(hT q hq).2.2,(hT q hq).2.1,q.1,(hT q hq).1⟩
  have hok:HOk P w H s₁.heap:=λb u e=>by
   rcases Hc b u e with⟨rfl,e'⟩ | ⟨h,rfl⟩
   ·exact hok0 H u e'
   ·exact(tget b h).1
  have base_of:∀{b:Addr} {o:Obj},s₁.heap.get? b=some o->H b=none->(Zf0 s₁.heap H).get? b=some o:=λe n=>Zsi e n;have noA:∀{b:Addr} {o:Obj} {es:Array DictEntry} {ep:Nat},s₁.heap.get? b=some o->o.data=.dict es ep->H b=none:=λ{b o es ep} e d=>by
   cases q:H b with
   | none=>rfl
   | some u =>
    rcases Hc b u q with⟨rfl,_⟩ | ⟨h,_⟩
    ·rw[ha]at e; cases e
     have d':Data.seq vs.toArray _=Data.dict es ep:=d;cases d'
    ·rw[(tget b h).1]at e; cases e; cases d
  have nsK:∀{b:Addr} {m:Str->Option Value},s₁.heap.Ns b m->(Zf0 s₁.heap H).Ns b m:=λ{b m} ⟨o,es,ep,e,d,r⟩=>⟨o,es,ep,base_of e (noA e d),d,r⟩;have hKb:K.In (Zf0 s₁.heap H):=λb o e=>base_of (KX b o e) (by
   cases q:H b with
   | none=>rfl
   | some u =>
    rcases Hc b u q with⟨rfl,e'⟩ | ⟨h,_⟩
    ·rw[hK (by rw[e']; simp)]at e; cases e
    ·rw[(tget b h).2.1]at e; cases e)
  have hM:Mod K mg (Zf0 s₁.heap H):=⟨hKb,nsK hns,⟨mb,nsK hb,hbb⟩,let ⟨mc,h1,h2⟩:=hlim; ⟨mc,nsK h1,h2⟩⟩;have e0:Zd4 P w K mg (Zf0 s₁.heap H) callerA [] s₁ H:=⟨rfl,hM,λb o e=>Zs0 e,ZzY (ZpW _ _),trivial,λb hb=>absurd (show b∈([]:List Addr) from hb) (by simp),hok,.of_eq hg⟩;have hOT:Zlt (tabs.map (·.2)) H:=⟨λb=>by
   cases q:H b with
   | none=>exact .inl rfl
   | some u =>
    rcases Hc b u q with⟨_,e'⟩ | ⟨_,rfl⟩
    ·rcases hO with z | ⟨o,xs,z⟩
     ·rw[z]at e'; cases e'
     ·rw[z]at e'; cases e'; exact .inr (.inl ⟨o,xs,rfl⟩)
    ·exact .inr (.inr rfl),Ht⟩
  have hBM:BMod (Zf0 s₁.heap H) mg:=by
   obtain⟨bm,ob,b1,b2,b3,b4,b5,b6⟩:=hbm;refine⟨bm,ob,b1,b2,λz=>?_,base_of b3 ?_,b4,b5,b6⟩
   ·obtain⟨o,es,ep,e,d,_⟩:=hns
    rw[z,e]at b3; cases b3; rw[b6]at d; cases d
   ·cases q:H bm with
    | none=>rfl
    | some u =>
     rcases Hc bm u q with⟨z,_⟩ | ⟨h,_⟩
     ·rw[z,ha]at b3; cases b3; exact absurd (show(Zzr "list":Value)=.type "module" from b4) (by decide)
     ·rw[(tget bm h).1]at b3; cases b3; cases b4
  refine ZyA ((F _ hKb (nsK hns) hBM).run callerA [] s₁ H ⟨[.ref a],[]⟩ [.ref a] [.ref a] _ _ hr e0 (hbind s₁ (.ref a)) (.cons rfl .nil) (hsp H hOT (hS H Ha))) λr s' h=>?_;cases r with
  | error e=>exact ZxF h
  | ok fl =>
   cases fl with
   | next=>exact ZxF h
   | brk=>exact ZxF h
   | cont=>exact ZxF h
   | ret u =>
    obtain⟨v,H',os,bare,un,hok',r',q⟩:=h;have q':v=.bl true:=q;subst q';obtain rfl:u=Value.bool true:=r';refine⟨rfl,⟨λb o e=>?_,λb o e=>un.there b o e (by simp)⟩,os,bare⟩;cases q:H b with
    | none=>exact .inl (un.keep b o e q (by intro z; exact absurd (show b∈([]:List Addr) from z) (by simp)) (by simp))
    | some u =>
     rcases Hc b u q with⟨rfl,e'⟩ | ⟨h,rfl⟩
     ·rcases hO with z | ⟨ob,xs,z⟩
      ·rw[z]at e'; cases e'
      ·rw[z]at e'; cases e'
       have z2:=un.frzs _ ob _ q;obtain⟨e1,_⟩:=hok _ _ q;obtain⟨e2,_⟩:=hok' _ _ z2;rw[e]at e1; cases e1;exact .inl e2
     ·obtain⟨g1,_,c,g3⟩:=tget b h
      rw[g1]at e; cases e;obtain⟨more,z2⟩:=un.tbls b _ q;have z3:s'.heap.get? b=some { cls:=.none,data:=.fields (#[]++more) }:=hok' b _ z2;refine .inr (.inl ⟨((ZBd KX g3).tab g1).isCodeTable,rfl,#[],more,rfl,z3⟩)
 cases hk:K.lookup a with
 | some o=>have e:=KX a o hk;rw[ha]at e;cases e;exact core none (.inl rfl) (λH _=>.inr ⟨_,vs.toArray,_,hk,rfl,rfl,rfl,by rw[ZwV,lenV]; exact hl,by simpa using rv⟩) (λH u z=>by cases z) λz=>absurd rfl z
 | none=>refine core (some (.frz { cls:=.type "list",data:=.seq vs.toArray } (.lst (ns.map V.int)))) (.inr ⟨_,_,rfl⟩) (λH e=>.inl (.inr ⟨_,e⟩)) (λH u z=>?_) λ_=>hk;cases z;exact⟨ha,by rw[ZwD]; exact hl,vs,_,rv,ha⟩
theorem Zsh{l:ZAQ}{n k:Nat}{q:Program}{loose:List Str}{XP:(Str->Option Value)->Heap->Prop}{YP:World->Heap->Prop}{d:DefRec}{K:Params->ZwC}{sp:World->Sp}{x:Str}{tabs:List (Addr × Addr)}
  (hn:l.most=some n) (hn2:n<=sizeLine) (hdf:d.params.defaults=[]) (hr:Zah k callerA)
  (hY:∀(w:World) (h:Heap),YP w h->(K w.params).In h) (hYT:∀(w:World) (h:Heap),YP w h->∀q∈tabs,h.get? q.2=some (Zzd #[]))
  (hT:∀(w:World),∀q∈tabs,Zyh (K w.params) q.1 q.2=true/\(K w.params).lookup q.2=none)
  (F:∀(w:World) (mg:Str->Option Value) (fa:Addr) (h:Heap),(K w.params).In h->h.Ns Zxj mg->mg d.name=some (.ref fa) ->
   ∃fd:FuncData,(∀(s:Shared) (u:Value),BindsTo s fd ⟨[u],[]⟩ [(x,u)]) /\
    ∀base:Heap,(K w.params).In base->base.Ns Zxj mg->BMod base mg->ZcL l.prog w (K w.params) mg base CX0 k fa fd [x] (sp w))
  (hsp:∀(w:World) (H:Hp) (a:Addr) (ns:List Int),ns.length<=n->Zlt (tabs.map (·.2)) H->SqL (K w.params) H a (ns.map V.int)->sp w [.ref a] H (λv _=>v=.bl true) λ_ _ _=>False) :
  PySem.W.WalkO q loose XP YP l.row.toRowW d [] (λf vs=>PySem.call f vs):=by
 refine Att.ZnU hn hdf λw s₀ s₁ mg mb fa o pm cd doc a vs ns G Y ho hd hcd hmg hobj hints hlen hg=>?_;have KX:=hY w _ Y;obtain⟨fd,hb,hF⟩:=F w mg fa _ KX G.T.g hmg;exact ZpT (λq hq=>⟨(hT w q hq).1,(hT w q hq).2,hYT w _ Y q hq⟩) KX G.T.g G.T.b G.T.builtins G.T.nolimit hg hobj hints (Zxr hlen hn2) hr G.T.bmain hF hb λH hO hS=>hsp w H a ns hlen hO hS
end HP
namespace HP
open PySem PySem.Spec PyProof.Rows L2
def Zvv:Stmt->Option (Arguments × Expr × Scope)
 | .Return (some (.Call _ [_,.Lambda a b s _] _ _)) _=>some (a,b,s)
 | .Assign _ (.Call _ [_,.Lambda a b s _] _ _) _=>some (a,b,s)
 | _=>none
def ZjU(st:Stmt):Arguments × Expr × Scope:=((Zau st).findSome? Zvv).getD default
abbrev ZuA(st:Stmt):Arguments:=(ZjU st).1
abbrev Zrj(st:Stmt):Expr:=(ZjU st).2.1
abbrev Zj8(st:Stmt):Scope:=(ZjU st).2.2
theorem Zui{P:Program}{w:World}{K:ZwC}{mg:Str->Option Value}{base:Heap}{A:Around}{outer:List Env}{s:Shared}{F H:Hp}{p:Addr}{params:Arguments}{body:Expr}{scope:Scope}{names:List Str}{cs:List PyData}
  (C:Clo K F p params body scope names cs) (e0:Zd4 P w K mg base A outer s H) (sub:Zp F H):ZBj p s.heap:=by
 obtain⟨qual,pm,ctv,c,oc,clos,h1,_⟩:=C.ex;exact⟨_,_,_,_,ZbQ (e0.hok p _ (sub _ _ h1))⟩
section
variable[FX]
theorem Zug{K:ZwC}{M:List PyData->Option PyData}{H:Hp}{a:Addr}{ns:List Int}{tabs:List Addr}(hO:Zlt tabs H)(ht:∀T q,(T,q)∈FX.tl->T∈tabs)(hS:SqL K H a (ns.map V.int))(hM:M [.list (HM.ofInts ns)]=some (.bool true)) :
  spD K 1 M [.ref a] H (λv _=>v=.bl true) λ_ _ _=>False:=by
 refine⟨Zce H,[.list (HM.ofInts ns)],.bool true,rfl,Zku,λT q hT=>⟨#[],hO.2 T (ht T q hT),trivial,λpos c hc=>by cases hc⟩,.drop,.one (Rep.drop (.lst hS (Zel (K:=K) (F:=H) ns).1 (Zel ns).2)),hM,λv F1 H1 _ r=>r.bool_inv⟩
end
end HP
namespace HP
open PySem PySem.Spec PyProof.Rows L2
variable[FX]
end HP
namespace HM
open PySem
theorem Zcg{α:Type}{c:TF}{e:EF}{r:Env}(g:α->D)(p:α->Bool)(f:α->D):∀(xs:List α),(∀x∈xs,c (some (.pl (g x))::r)=some (p x))->(∀x∈xs,p x=true->e (some (.pl (g x))::r)=some (f x))->Zav c e r (xs.map g)=some ((xs.filter p).map f)
 | [],_,_=>rfl
 | x::xs,h1,h2=>by
  have ih:=Zcg g p f xs (λy hy=>h1 y (ZwJ _ hy)) (λy hy=>h2 y (ZwJ _ hy));have hc:=h1 x (ZwI ..);rw[ZwL];unfold Zav;rw[hc];cases hp:p x with
  | true=>have he:=h2 x (ZwI ..) hp;dsimp only;rw[he];dsimp only;rw[ih,List.filter_cons_of_pos hp];rfl
  | false=>dsimp only;rw[ih,List.filter_cons_of_neg (by simp[hp])]
theorem Za6{α:Type}{e:EF}{r:Env}(g:α->D)(f:α->D)(xs:List α)(h:∀x∈xs,e (some (.pl (g x))::r)=some (f x)):Zav Zac e r (xs.map g)=some (xs.map f):=by rw[Zcg g (λ_=>true) f xs (λ_ _=>rfl) λx hx _=>h x hx,Zz5.mpr λ_ _=>rfl]
theorem Zij{α:Type}{i:Nat}{body:SF}(g:α->D)(P:List α->Env->Prop)(xs:List α)(r:Env)(h0:P [] r)
  (hs:∀pre x post r,xs=pre++x::post->P pre r->∃r',body (r.set i (some (.pl (g x))))=some (.nx r')/\P (pre++[x]) r'):∃r',Zas i body (xs.map g) r=some (.nx r')/\P xs r':=by
 have key:∀(post pre:List α) (r:Env),xs=pre++post->P pre r->∃r',Zas i body (post.map g) r=some (.nx r')/\P xs r':=by
  intro post
  induction post with
  | nil=>intro pre r e h; rw[Zxe]at e; subst e; exact⟨r,rfl,h⟩
  | cons x post ih=>intro pre r e h;obtain⟨r1,h1,h2⟩:=hs pre x post r e h;obtain⟨r2,h3,h4⟩:=ih (pre++[x]) r1 (by rw[e,Zyi]; rfl) h2;refine⟨r2,?_,h4⟩;rw[ZwL];unfold Zas;rw[h1];exact h3
 exact key xs [] r rfl h0
def ZtT{α S:Type}(q:S->α->Bool)(step:S->α->S):S->List α->Bool
 | _,[]=>true
 | s,x::xs=>q s x&&ZtT q step (step s x) xs
abbrev dI(i:Int):D:=Zxv i
abbrev dN(k:Nat):D:=Zxv (k:Int)
theorem ZgS(ns:List Int):ofInts ns=ns.map dI:=rfl
theorem Zae(n:Nat):Zbe 0 n=(ZwG n).map dN:=by unfold Zbe;refine ZxI λk _=>?_;show Zxv (0+(k:Int))=Zxv (k:Int);rw[Int.zero_add]
theorem ZdU(ns:List Int):Zax (ns.map dI)=some ns:=by
 induction ns with
 | nil=>rfl
 | cons n ns ih=>show(Zax (ns.map dI)).map (n::·)=_; rw[ih]; rfl
theorem ZeQ(bs:List Bool):Zem (bs.map λb=>Zx5 b)=some bs:=by
 induction bs with
 | nil=>rfl
 | cons b bs ih=>show(Zem (bs.map λb=>Zx5 b)).map (b::·)=_; rw[ih]; rfl
abbrev tupI(ns:List Int):D:=Zxz (ns.map dI)
theorem Zdm{ds:List D}{j:Nat}{d:D}(h:ds[j]?=some d):atD ds (j:Int)=some d:=by have hj:j<ds.length:=(ZwQ.mp h).1;unfold atD ixN;rw[if_pos (by omega),if_pos (by omega)];simpa using h
theorem Zh6{ds:List D}{i:Int}{d:D}(h0:0<=i)(h:ds[i.toNat]?=some d):atD ds i=some d:=by
 have e:i=((i.toNat:Nat):Int):=by omega
 rw[e]; exact Zdm (by simpa using h)
@[simp] theorem Zwv(d:D)(r:List D):atD (d::r) 0=some d:=Zdm (j:=0) rfl
@[simp] theorem Zwu(a d:D)(r:List D):atD (a::d::r) 1=some d:=Zdm (j:=1) rfl
@[simp] theorem Zwt(a b d:D)(r:List D):atD (a::b::d::r) 2=some d:=Zdm (j:=2) rfl
@[simp] theorem Zwy(a b c d:D)(r:List D):atD (a::b::c::d::r) 3=some d:=Zdm (j:=3) rfl
@[simp] theorem Zwx(a b c e d:D)(r:List D):atD (a::b::c::e::d::r) 4=some d:=Zdm (j:=4) rfl
theorem Zwn(i j:Int)(h:(ZP i||ZP j)=true):ZcI (.int i) (.int j)=some (.int (i*j)):=by show(if ZP i||ZP j then some (Zxv (i*j))else none)=_;rw[if_pos h]
@[simp] theorem Zwc:ZP 7=true:=rfl
@[simp] theorem ZvF:ZP 11=true:=rfl
@[simp] theorem ZvS:ZP 13=true:=rfl
@[simp] theorem ZvT:ZP 17=true:=rfl
@[simp] theorem ZvD:ZP 19=true:=rfl
@[simp] theorem ZvU:ZP 23=true:=rfl
@[simp] theorem ZvN:ZP 29=true:=rfl
@[simp] theorem ZvI:ZP 31=true:=rfl
@[simp] theorem ZvQ:ZP 37=true:=rfl
@[simp] theorem ZvJ:ZP 41=true:=rfl
@[simp] theorem ZvO:ZP 43=true:=rfl
@[simp] theorem ZvM:ZP 47=true:=rfl
@[simp] theorem ZvP:ZP 53=true:=rfl
@[simp] theorem ZvK:ZP 59=true:=rfl
@[simp] theorem ZvL:ZP 61=true:=rfl
@[simp] theorem ZvG:ZP 67=true:=rfl
@[simp] theorem ZvE:ZP 71=true:=rfl
@[simp] theorem ZvH:ZP 73=true:=rfl
@[simp] theorem Zt3:ZP 48271=true:=rfl
@[simp] theorem Zwd:ZP 2=true:=rfl
@[simp] theorem Zv1:ZP 3=true:=rfl
@[simp] theorem Zv3:ZP 5=true:=rfl
theorem ZhL{i:Int}(h1:-1000000000<i)(h2:i<1000000000):ZP i=true:=by
 unfold ZP;have:i.natAbs<18446744073709551616:=by omega
 exact Zzu.mpr this
theorem ZcT{n:Nat}(h:n<1000000):okR (n:Int)=true:=Zzu.mpr (by omega)
@[simp] theorem Zvu(i:Int):ZbR (.int i)=true:=rfl
@[simp] theorem Zvb(i:Bool):ZbR (.bool i)=true:=rfl
@[simp] theorem Zva:ZbR .none=true:=rfl
@[simp] theorem Zwp(i j:Int):Zy4 (.int i) (.int j)=(i==j):=rfl
structure Wk where
 many:Nat
 deeds:List (List (List Int))
 looks:List (List Int)
 beg:List Int
 goal:List Int
def Zs(dd:List (List Int)):D:=.tuple (dd.map tupI)
def Wk.d(w:Wk):D:=.tuple [.int w.many,.tuple (w.deeds.map Zs),.tuple (w.looks.map tupI),tupI w.beg,tupI w.goal]
def Cr(n:Nat)(c:List Int):Prop:=c.Pairwise (· < ·)/\∀x∈c,0<=x/\x<(n:Int)
structure Wk.Ok(w:Wk):Prop where
 m1:2<=w.many
 m2:w.many<=5
 d1:1<=w.deeds.length
 d2:w.deeds.length<=3
 dl:∀dd∈w.deeds,dd.length=w.many
 dc:∀dd∈w.deeds,∀c∈dd,Cr w.many c
 l2:w.looks.length<=3
 ll:∀l∈w.looks,l.length=w.many
 lc:∀l∈w.looks,∀x∈l,0<=x/\x<=9
 b1:w.beg≠[]
 bc:Cr w.many w.beg
 g1:w.goal≠[]
 gc:Cr w.many w.goal
theorem Cr.len{n:Nat}:∀{c:List Int},Cr n c->c.length<=n:=by
 have key:∀(c:List Int) (l:Int),c.Pairwise (· < ·)->(∀x∈c,l<=x/\x<(n:Int))->(c.length:Int)<=max 0 ((n:Int)-l):=by
  intro c
  induction c with
  | nil=>intro l _ _; simp; omega
  | cons x c ih=>intro l hp hb;have h1:=hb x (ZwI ..);have h2:=ih (x+1) (Zxn.mp hp).2 λy hy=>⟨by have:=(Zxn.mp hp).1 y hy; omega,(hb y (ZwJ _ hy)).2⟩;rw[ZwS];omega
 intro c h;have:=key c 0 h.1 h.2;omega
theorem sortI_perm(ns:List Int):(sortI ns).Perm ns:=Zzl ns _
theorem Zr9(ns:List Int):(sortI ns).Pairwise (·<=·):=by have h:=Zzz (le:=λa b:Int=>decide (a<=b)) (λa b c h1 h2=>by simp at *; omega) (λa b=>by simp; omega) ns;exact h.imp λh=>by simpa using h
theorem ZiA:∀{ns:List Int},ns.Pairwise (·<=·)->ns.Nodup->ns.Pairwise (· < ·)
 | [],_,_=>.nil
 | n::ns,h,hn=>by obtain⟨h1,h2⟩:=Zxn.mp h;obtain⟨n1,n2⟩:=Zxs.mp hn;refine Zxn.mpr ⟨λx hx=>?_,ZiA h2 n2⟩;have:=h1 x hx;have:n≠x:=λe=>n1 (e▸hx);omega
theorem ZgT{n:Nat}{ns:List Int}(hn:ns.Nodup)(hb:∀x∈ns,0<=x/\x<(n:Int)):Cr n (sortI ns) :=
 ⟨ZiA (Zr9 ns) ((sortI_perm ns).nodup_iff.mpr hn),λx hx=>hb x ((sortI_perm ns).mem_iff.mp hx)⟩
theorem ZgM(ns:List Int)(h:ns.length<64):Zd9 (ns.map dI)=some ((sortI ns).map dI):=by unfold Zd9;rw[if_pos (by rw[ZwD]; exact h),ZdU];rfl
theorem Zek:∀(ns acc:List Int) (x:Int),x∈dedup acc ns↔x∈acc\/x∈ns
 | [],acc,x=>by simp[dedup]
 | n::ns,acc,x=>by
  unfold dedup;split
  ·rename_i h
   have h':n∈acc:=by simpa using h
   rw[Zek ns acc x]
   constructor
   ·rintro (h | h)
    ·exact .inl h
    ·exact .inr (ZwJ _ h)
   ·rintro (h | h)
    ·exact .inl h
    ·rcases Zw0.mp h with e | e
     ·exact .inl (e▸h')
     ·exact .inr e
  ·rw[Zek ns _ x,Zxc,ZwT,Zw0]
   constructor
   ·rintro ((h | h) | h)
    ·exact .inl h
    ·exact .inr (.inl h)
    ·exact .inr (.inr h)
   ·rintro (h | h | h)
    ·exact .inl (.inl h)
    ·exact .inl (.inr h)
    ·exact .inr h
theorem Zec:∀(ns acc:List Int),acc.Nodup->(dedup acc ns).Nodup
 | [],acc,h=>h
 | n::ns,acc,h=>by
  unfold dedup;split
  ·exact Zec ns acc h
  ·rename_i hc
   have hc':n ∉ acc:=by simpa using hc
   refine Zec ns _ ?_;rw[Zy8];exact⟨h,by simp,λa ha b hb=>by simp at hb; subst hb; exact λe=>hc' (e▸ha)⟩
end HM
namespace HG
open PySem HM
def Zhc:SF :=
 (Zy (sIf (tOr (tV (Zff (Zb 0) .bool)) (ZeG (tV (Zff (Zb 0) .int)))) (ZJ (eC (.bool false))) Za9)
  (ZJ (ZjF gLe gLe (Zb 1) (Zb 0) (Zb 2))))
def Zaz:List D->Option D:=fnOf 3 3 Zhc
def Zkn:SF :=
 (ZJ (ZeC (Zff (Zb 0) .tuple) (ZjF gLe gLe (Zb 1) (ZbF (Zo 0)) (Zb 2))))
def Zaw:List D->Option D:=fnOf 3 3 Zkn
def Z8:SF :=
 (Zy (sIf (ZeG (tV (Zn Zaz (Zd (Zb 3) (Zd (Zb 2) (Zd (op2 ZjV (Zb 1) (eC (.int 1))) Zm)))))) (ZJ (eC (.bool false))) Za9)
  (Zan 2 (op2 ZaO (Zb 3) (eC (.int 1)))))
def Zdt:SF :=
 (Zy (sIf (ZeG (tV (Zff (Zb 0) .tuple))) (ZJ (eC (.bool false))) Za9)
  (Zy (Zan 2 (eC (.int 0)))
  (Zy (ZaC 3 (ZW (bOf (Zb 0))) Z8)
  (ZJ (eC (.bool true))))))
def ZU:List D->Option D:=fnOf 2 4 Zdt
def Zgr:SF :=
 (ZJ (ZeC (Zn Zaw (Zd (Zb 0) (Zd (Zb 1) (Zd (Zb 1) Zm)))) (ZhB (ZC (ZW (bOf (Zb 0))) Zac (Zn ZU (Zd (Zb 0) (Zd (Zb 2) Zm)))))))
def ZbK:List D->Option D:=fnOf 2 2 Zgr
def Zgs:SF :=
 (ZJ (ZeC (Zn Zaw (Zd (Zb 0) (Zd (Zb 1) (Zd (Zb 1) Zm)))) (ZhB (ZC (ZW (bOf (Zb 0))) Zac (Zn Zaz (Zd (Zb 0) (Zd (eC (.int 0)) (Zd (eC (.int 9)) Zm))))))))
def ZbL:List D->Option D:=fnOf 2 2 Zgs
def Zhd:SF :=
 (ZJ (ZeC (Zn Zaw (Zd (Zb 0) (Zd (eC (.int 1)) (Zd (eC (.int 5)) Zm)))) (ZhB (ZC (ZW (bOf (Zb 0))) Zac (Zn ZbK (Zd (Zb 0) (Zd (Zb 2) Zm)))))))
def ZbX:List D->Option D:=fnOf 2 2 Zhd
def Zhe:SF :=
 (ZJ (ZeC (Zn Zaw (Zd (Zb 0) (Zd (eC (.int 0)) (Zd (eC (.int 4)) Zm)))) (ZhB (ZC (ZW (bOf (Zb 0))) Zac (Zn ZbL (Zd (Zb 0) (Zd (Zb 2) Zm)))))))
def ZbY:List D->Option D:=fnOf 2 2 Zhe
def Zir:SF :=
 (ZJ (ZeC (Zn ZU (Zd (Zb 0) (Zd (Zb 1) Zm))) (op2 gGt (ZbF (Zo 0)) (eC (.int 0)))))
def Zcm:List D->Option D:=fnOf 2 2 Zir
def Zhf:SF :=
 (Zy (sIf (tOr (ZeG (tV (Zn Zaw (Zd (Zb 0) (Zd (eC (.int 5)) (Zd (eC (.int 5)) Zm)))))) (ZeG (tV (Zn Zaz (Zd (eIx (Zo 0) (eC (.int 0))) (Zd (eC (.int 1)) (Zd (eC (.int 8)) Zm))))))) (ZJ (eC (.bool false))) Za9)
  (Zy (Zan 1 (eIx (Zo 0) (eC (.int 0))))
  (Zy (sIf (tOr (ZeG (tV (Zn ZbX (Zd (eIx (Zo 0) (eC (.int 1))) (Zd (Zb 1) Zm))))) (ZeG (tV (Zn ZbY (Zd (eIx (Zo 0) (eC (.int 2))) (Zd (Zb 1) Zm)))))) (ZJ (eC (.bool false))) Za9)
  (ZJ (ZeC (Zn Zcm (Zd (eIx (Zo 0) (eC (.int 3))) (Zd (Zb 1) Zm))) (Zn ZU (Zd (eIx (Zo 0) (eC (.int 4))) (Zd (Zb 1) Zm))))))))
def ZbZ:List D->Option D:=fnOf 1 2 Zhf
def Zhg:SF :=
 (ZJ (eIx (Zo 0) (eC (.int 0))))
def Zba:List D->Option D:=fnOf 1 1 Zhg
def Zis:SF :=
 (ZJ (eIx (Zo 0) (eC (.int 1))))
def Zao:List D->Option D:=fnOf 1 1 Zis
def Zit:SF :=
 (ZJ (eIx (Zo 0) (eC (.int 2))))
def Zbr:List D->Option D:=fnOf 1 1 Zit
def Zja:SF :=
 (Zy (sIf (ZeG (tV (Zn ZbZ (Zd (Zb 0) Zm)))) Zmd Za9)
  (ZJ (Zb 0)))
def ZbM:List D->Option D:=fnOf 1 1 Zja
def ZeZ:SF :=
 (Zy (sIf (ZeG (tV (Zn ZU (Zd (Zb 1) (Zd (ZbF (bOf (Zn Zbr (Zd (Zb 0) Zm)))) Zm))))) Zmd Za9)
  (ZJ (Zb 1)))
def Za1:List D->Option D:=fnOf 2 2 ZeZ
def Zjb:SF :=
 (ZJ (ZaQ (ZC (ZW (bOf (Zb 1))) Zac (eIx (bOf (eIx (bOf (Zn Zbr (Zd (Zb 1) Zm))) (Zb 0))) (Zb 3)))))
def ZcO:List D->Option D:=fnOf 3 3 Zjb
def Zf9:SF :=
 (Zy (Zan 3 (eIx (bOf (Zn Zao (Zd (Zb 0) Zm))) (Zb 2)))
  (ZJ (ZhB (ZC (ZW (bOf (Zb 1))) Zac (op2 gGt (ZbF (bOf (eIx (Zo 4) (Zb 0)))) (eC (.int 0)))))))
def Zbu:List D->Option D:=fnOf 3 4 Zf9
def Zg3:SF :=
 (ZJ (eOf (ZC (Zbp (ZbF (bOf (Zn Zao (Zd (Zb 0) Zm))))) (tV (Zn Zbu (Zd (Zb 1) (Zd (Zb 2) (Zd (Zb 0) Zm))))) (Zb 0))))
def ZbH:List D->Option D:=fnOf 2 2 Zg3
def Zdu:SF :=
 (ZfW 4 (Zb 6) (eC (.bool true)))
def Zdv:SF :=
 (ZaC 6 (ZW (bOf (eIx (Zo 3) (Zb 5)))) Zdu)
def Zko:SF :=
 (Zy (Zan 3 (eIx (bOf (Zn Zao (Zd (Zb 0) Zm))) (Zb 2)))
  (Zy (ZT 4 fDk)
  (Zy (ZaC 5 (ZW (bOf (Zb 1))) Zdv)
  (ZJ (ZaQ (Zgl (Zo 4)))))))
def Zcy:List D->Option D:=fnOf 3 7 Zko
def Zdw:SF :=
 (Zna 3 (Zn ZcO (Zd (Zb 0) (Zd (Zb 1) (Zd (Zb 4) Zm)))) (Zb 4))
def Zkp:SF :=
 (Zy (ZT 3 Zuk)
  (Zy (ZaC 4 (ZW (bOf (Zb 2))) Zdw)
  (ZJ (eOf (ZC (ZW (bOf (eOf (Zgl (Zo 3))))) Zac (ZdK (Zd (Zb 0) (Zd (ZaQ (Zj0 4 (Zb 0))) Zm))))))))
def ZaI:List D->Option D:=fnOf 3 5 Zkp
def Ziu:SF :=
 (Zy (sIf (tV (op2 gLt (Zb 1) (ZbF (Zo 0)))) (ZJ (eIx (Zo 0) (Zb 1))) Za9)
  (ZJ (eC (.int 0))))
def Zap:List D->Option D:=fnOf 2 2 Ziu
def Zjc:SF :=
 (ZJ (op2 ZrU (op2 ZrU (op2 ZcI (Zb 0) (eC (.int 48271))) (Zb 1)) (Zb 2)))
def ZE:List D->Option D:=fnOf 3 3 Zjc
def Ze0:SF :=
 (Zy (ZT 3 (ZC (Zbp (Zb 1)) (tV (op2 gLt (Zn ZE (Zd (op2 ZaO (op2 ZaO (Zb 1) (op2 ZcI (op2 ZcI (eC (.int 31)) (Zb 0)) (Zb 0))) (op2 ZcI (eC (.int 7)) (Zb 0))) (Zd (eC (.int 9973)) (Zd (eC (.int 5)) Zm)))) (eC (.int 2)))) (Zb 0)))
  (Zy (sIf (tV (op2 gLt (ZbF (Zo 3)) (Zb 2))) (ZT 3 (ZcF (Zd (Zn ZE (Zd (Zb 0) (Zd (eC (.int 9967)) (Zd (Zb 1) Zm)))) Zm))) Za9)
  (ZJ (ZaQ (Zo 3)))))
def Zbb:List D->Option D:=fnOf 3 4 Ze0
def Zbw:SF :=
 (Zy (Zan 4 (op2 ZaO (op2 ZaO (Zb 0) (op2 ZcI (op2 ZcI (eC (.int 43)) (Zb 3)) (Zb 3))) (op2 ZcI (eC (.int 11)) (Zb 3))))
  (Zy (Zan 5 (Zn ZE (Zd (Zb 4) (Zd (eC (.int 9949)) (Zd (eC (.int 10)) Zm)))))
  (Zy (ZT 6 (Znj (Zn ZE (Zd (Zb 4) (Zd (eC (.int 9941)) (Zd (Zb 1) Zm)))) (eC (.bool true))))
  (Zy (sIf (tV (op2 gLt (Zb 5) (eC (.int 3)))) (ZfW 6 (Zn ZE (Zd (Zb 4) (Zd (eC (.int 9931)) (Zd (Zb 1) Zm)))) (eC (.bool true))) Za9)
  (Zy (ZcV 2 (ZaQ (Zgl (Zo 6))))
  (sIf (tV (op2 gEq (Zb 5) (eC (.int 9)))) (Zpq 2 (eC (.int (-1))) (ZdK Zm)) Za9))))))
def Ziv:SF :=
 (Zy (ZT 2 (ZcF Zm))
  (Zy (ZaC 3 (Zbp (Zb 1)) Zbw)
  (ZJ (ZaQ (Zo 2)))))
def Zcn:List D->Option D:=fnOf 2 7 Ziv
def Zcz:SF :=
 (Zy (Zan 5 (op2 Zul (op2 ZjV (Zb 4) (eC (.int 1))) (eC (.int 0))))
  (Zy (Zan 6 (op2 Zuy (op2 ZaO (Zb 4) (eC (.int 1))) (op2 ZjV (Zb 1) (eC (.int 1)))))
  (Zy (Zan 7 (op2 gEq (Zn ZE (Zd (op2 ZaO (Zb 0) (op2 ZcI (eC (.int 17)) (Zb 4))) (Zd (eC (.int 9929)) (Zd (eC (.int 6)) Zm)))) (eC (.int 1))))
  (Zy (ZcV 2 (ZaQ (ZgD (Zpk (ZcF (Zd (Zb 5) Zm)) (ZrZ (ZcF (Zd (Zb 4) Zm)) (ZmQ (Zb 7)))))))
  (ZcV 3 (ZdK (Zd (Zb 6) Zm)))))))
def Ziw:SF :=
 (Zy (ZT 2 (ZcF Zm))
  (Zy (ZT 3 (ZcF Zm))
  (Zy (ZaC 4 (Zbp (Zb 1)) Zcz)
  (ZJ (ZdK (Zd (ZaQ (Zo 2)) (Zd (ZaQ (Zo 3)) Zm)))))))
def Zco:List D->Option D:=fnOf 2 8 Ziw
def Zcj:SF :=
 (Zy (Zan 7 (op2 ZaO (Zn Zap (Zd (Zb 0) (Zd (op2 ZaO (op2 ZaO (Zb 1) (eC (.int 4))) (Zb 5)) Zm))) (op2 ZcI (eC (.int 71)) (Zb 5))))
  (Zy (Zan 8 (op2 ZaO (eC (.int 2)) (Zn ZE (Zd (Zb 7) (Zd (eC (.int 9883)) (Zd (eC (.int 2)) Zm))))))
  (ZcV 6 (ZaQ (ZC (Zbp (Zb 3)) Zac (Zn ZE (Zd (op2 ZaO (Zb 8) (op2 ZcI (op2 ZcI (eC (.int 13)) (Zb 0)) (Zb 0))) (Zd (eC (.int 9871)) (Zd (Zb 9) Zm)))))))))
def Zc1:SF :=
 (ZcV 4 (Zn Zcn (Zd (op2 ZaO (Zn Zap (Zd (Zb 0) (Zd (op2 ZaO (op2 ZaO (Zb 1) (eC (.int 1))) (Zb 5)) Zm))) (op2 ZcI (eC (.int 61)) (Zb 5))) (Zd (Zb 3) Zm))))
def ZcA:SF :=
 (Zy (Zan 2 (Zn Zap (Zd (Zb 0) (Zd (Zb 1) Zm))))
  (Zy (Zan 3 (op2 ZaO (eC (.int 2)) (Zn ZE (Zd (Zb 2) (Zd (eC (.int 9923)) (Zd (eC (.int 4)) Zm))))))
  (Zy (sIf (tV (op2 gGt (ZbF (Zo 0)) (eC (.int 63)))) (Zan 3 (op2 ZaO (eC (.int 2)) (Zn ZE (Zd (Zb 2) (Zd (eC (.int 9923)) (Zd (eC (.int 6)) Zm)))))) Za9)
  (Zy (ZT 4 (ZcF Zm))
  (Zy (ZaC 5 (Zbp (op2 ZaO (eC (.int 1)) (Zn ZE (Zd (Zb 2) (Zd (eC (.int 9907)) (Zd (eC (.int 3)) Zm)))))) Zc1)
  (Zy (sIf (tV (op2 gEq (Zn ZE (Zd (Zb 2) (Zd (eC (.int 9901)) (Zd (eC (.int 3)) Zm)))) (eC (.int 1)))) (ZT 4 (Zpk (Zib (bOf (Zn Zco (Zd (Zn Zap (Zd (Zb 0) (Zd (op2 ZaO (Zb 1) (eC (.int 1))) Zm))) (Zd (Zb 3) Zm))))) (Zrm (Zo 4) none (some (eC (.int 1)))))) Za9)
  (Zy (ZT 6 (ZcF Zm))
  (Zy (ZaC 5 (Zbp (Zn ZE (Zd (Zb 2) (Zd (eC (.int 9887)) (Zd (eC (.int 4)) Zm))))) Zcj)
  (Zy (Zan 9 (Zn Zbb (Zd (Zn Zap (Zd (Zb 0) (Zd (op2 ZaO (Zb 1) (eC (.int 7))) Zm))) (Zd (Zb 3) (Zd (eC (.int 1)) Zm)))))
  (Zy (sIf (tV (op2 gEq (Zn ZE (Zd (Zb 2) (Zd (eC (.int 9859)) (Zd (eC (.int 3)) Zm)))) (eC (.int 1)))) (Zan 9 (Zfm (Zbp (Zb 3)))) Za9)
  (Zy (Zan 10 (Zn Zbb (Zd (Zn Zap (Zd (Zb 0) (Zd (op2 ZaO (Zb 1) (eC (.int 8))) Zm))) (Zd (Zb 3) (Zd (eC (.int 1)) Zm)))))
  (ZJ (ZdK (Zd (Zb 3) (Zd (ZaQ (Zo 4)) (Zd (ZaQ (Zo 6)) (Zd (Zb 9) (Zd (Zb 10) Zm))))))))))))))))))
def ZaA:List D->Option D:=fnOf 2 11 ZcA
end HG
namespace HG
open PySem HM
def Zt(ns:List Int)(k:Nat):Int:=if k<ns.length then ns.getD k 0 else 0
theorem ZdW(ns:List Int)(k:Nat):Zap [.list (ns.map dI),.int k]=some (.int (Zt ns k)):=by
 simp[Zap,Ziu,Zt]
 by_cases h:k<ns.length
 ·have h':(k:Int)<(ns.length:Int):=by omega
  have e:atD (ns.map dI) (k:Int)=some (.int ns[k]):=Zdm (by simp[h]);simp[h,h',e]
 ·have h':¬(k:Int)<(ns.length:Int):=by omega
  simp[h,h']
def ZO(c p m:Int):Int:=c*48271 % p % m
theorem Zb5(c p m:Int)(hp:0<p)(hm:0<m):ZE [.int c,.int p,.int m]=some (.int (ZO c p m)):=by simp[ZE,Zjc,hp,hm,ZO]
theorem Zar(c p m:Int)(hm:0<m):0<=ZO c p m/\ZO c p m<m:=⟨Int.emod_nonneg _ (by omega),Int.emod_lt_of_pos _ hm⟩
def crP(c:Int)(k:Nat):Bool:=decide (ZO (c+31*(k:Int)*(k:Int)+7*(k:Int)) 9973 5<2)
def crF(c:Int)(n:Nat):List Int:=((ZwG n).filter (crP c)).map λ(k:Nat)=>(k:Int)
def crV(c:Int)(n:Nat):List Int:=if(crF c n).length<1 then[ZO c 9967 n]else crF c n
theorem ZgQ(n:Nat)(p:Nat->Bool):Cr n (((ZwG n).filter p).map λ(k:Nat)=>(k:Int)):=by
 refine⟨?_,λx hx=>?_⟩
 ·rw[List.pairwise_map]
  refine List.Pairwise.imp (λ{a b} h=>?_) (List.Pairwise.filter p ZAV);omega
 ·obtain⟨k,hk,rfl⟩:=ZwN.mp hx
  have:=ZwW.mp (Zxq.mp hk).1;omega
theorem Zqi(c:Int)(n:Nat)(hn:0<n):Cr n (crV c n)/\crV c n≠[]:=by
 unfold crV;split
 ·refine⟨⟨by simp,λx hx=>?_⟩,by simp⟩
  have e:x=ZO c 9967 n:=by simpa using hx
  rw[e];have:=Zar c 9967 n (by omega);omega
 ·rename_i h
  exact⟨ZgQ n _,λe=>h (by rw[e]; simp)⟩
theorem Zm5(c:Int)(n:Nat)(hn:0<n)(hb:n<1000):Zbb [.int c,.int n,.int 1]=some (tupI (crV c n)):=by
 have hn':(0:Int)<(n:Int):=by omega
 have key:Zav (tV (op2 gLt (Zn ZE (Zd (op2 ZaO (op2 ZaO (Zb 1) (op2 ZcI (op2 ZcI (eC (.int 31)) (Zb 0)) (Zb 0))) (op2 ZcI (eC (.int 7)) (Zb 0))) (Zd (eC (.int 9973)) (Zd (eC (.int 5)) Zm)))) (eC (.int 2)))) (Zb 0)
   [some (.pl (.int c)),some (.pl (.int n)),some (.pl (.int 1)),none] (Zbe 0 n)=some ((crF c n).map dI):=by
  rw[Zae];rw[Zcg dN (crP c) dN]
  ·unfold crF
   rw[Zw2];rfl
  ·intro k hk
   have hk':=ZwW.mp hk;have s2:ZP (31*(k:Int))=true:=ZhL (by omega) (by omega);simp[Zb5,crP,s2]
  ·intro k hk _
   simp
 have h1:okR (n:Int)=true:=ZcT (by omega);have h2:(Zbe 0 n).length<1000000:=by rw[Zae]; simp; omega
 by_cases hl:(crF c n).length<1
 ·have hl':((crF c n).length:Int)<1:=by omega
  have hm:=Zb5 c 9967 n (by decide) hn';simp[Zbb,Ze0,h1,h2,key];simp[hl',crV,hl,hm]
 ·have hl':¬((crF c n).length:Int)<1:=by omega
  simp[Zbb,Ze0,h1,h2,key];simp[hl',crV,hl]
def ZrK(c:Int)(n k:Nat):List Int :=
 let s:=c+43*(k:Int)*(k:Int)+11*(k:Int)
 if ZO s 9949 10<3/\ZO s 9941 n≠ZO s 9931 n then[ZO s 9941 n,ZO s 9931 n]else[ZO s 9941 n]
def Zez(c:Int)(n k:Nat):List Int:=if ZO (c+43*(k:Int)*(k:Int)+11*(k:Int)) 9949 10=9 then[]else sortI (ZrK c n k)
theorem Ztn(c:Int)(n k:Nat)(hn:0<n):Cr n (Zez c n k):=by
 unfold Zez;split
 ·exact⟨.nil,λx hx=>by simp at hx⟩
 ·unfold ZrK
  dsimp only;have b1:=Zar (c+43*(k:Int)*(k:Int)+11*(k:Int)) 9941 n (by omega);have b2:=Zar (c+43*(k:Int)*(k:Int)+11*(k:Int)) 9931 n (by omega);split
  ·rename_i h
   refine ZgT (by simp[h.2]) λx hx=>?_;simp at hx;rcases hx with e | e<;>(subst e; assumption)
  ·refine ZgT (by simp) λx hx=>?_
   simp at hx;subst hx; assumption
theorem Zr8(n:Nat):ixN (n+1) (-1)=some n:=by unfold ixN;rw[if_neg (by decide),if_pos (by omega)];congr 1;omega
theorem ZqN(c:Int)(n k:Nat)(rows:List D)(o4 o5 o6:Option B)(hn:0<n)(hk:k<1000)(hl:rows.length<1000) :
  ∃r5 r6 r7,Zbw [some (.pl (.int c)),some (.pl (.int n)),some (.ol rows),some (.pl (dN k)),o4,o5,o6]=some (.nx [some (.pl (.int c)),some (.pl (.int n)),some (.ol (rows++[tupI (Zez c n k)])),some (.pl (dN k)),r5,r6,r7]):=by
 have hn':(0:Int)<(n:Int):=by omega
 have s2:ZP (43*(k:Int))=true:=ZhL (by omega) (by omega);have hl':rows.length<1000000:=by omega
 have m1:=Zb5 (c+43*(k:Int)*(k:Int)+11*(k:Int)) 9949 10 (by decide) (by decide);have m2:=Zb5 (c+43*(k:Int)*(k:Int)+11*(k:Int)) 9941 n (by decide) hn';have m3:=Zb5 (c+43*(k:Int)*(k:Int)+11*(k:Int)) 9931 n (by decide) hn';unfold Zez ZrK;dsimp only;generalize ZO (c+43*(k:Int)*(k:Int)+11*(k:Int)) 9949 10=wy at *;generalize ZO (c+43*(k:Int)*(k:Int)+11*(k:Int)) 9941 n=a at *;generalize ZO (c+43*(k:Int)*(k:Int)+11*(k:Int)) 9931 n=b at *;have t1:Zd9 [Zxv a]=some ((sortI [a]).map dI):=ZgM [a] (by simp);have t2:Zd9 [Zxv a,Zxv b]=some ((sortI [a,b]).map dI):=ZgM [a,b] (by simp)
 by_cases w3:wy<3
 ·have w9:(wy==9)=false:=by simp; omega
  have w9':¬wy=9:=by omega
  by_cases ab:a=b
  ·subst ab
   simp[Zbw,s2,m1,m2,m3,w3,w9,w9',putD,Zai,hl',t1]
  ·simp[Zbw,s2,m1,m2,m3,w3,w9,w9',putD,ab,Zai,hl',t2]
 ·by_cases w9:wy=9
  ·subst w9
   simp[Zbw,s2,m1,m2,putD,Zai,hl',t1,Zr8]
  ·have w9':(wy==9)=false:=by simp[w9]
   simp[Zbw,s2,m1,m2,w3,w9',w9,putD,Zai,hl',t1]
theorem ZsU(c:Int)(n:Nat)(hn:0<n)(hb:n<1000):Zcn [.int c,.int n]=some (Zs ((ZwG n).map λk=>Zez c n k)):=by
 have h1:okR (n:Int)=true:=ZcT (by omega);have h2:(Zbe 0 n).length<1000000:=by rw[Zae]; simp; omega
 obtain⟨r',e1,o3,o4,o5,o6,p1⟩:=Zij (i:=3) (body:=Zbw) dN (λ(s:List Nat) r=>∃o3 o4 o5 o6,r=[some (.pl (.int c)),some (.pl (.int n)),some (.ol (s.map λk=>tupI (Zez c n k))),o3,o4,o5,o6]) (ZwG n)
  [some (.pl (.int c)),some (.pl (.int n)),some (.ol []),none,none,none,none] ⟨none,none,none,none,rfl⟩ (by
   rintro s k post r hxs ⟨o3,o4,o5,o6,rfl⟩
   have hk':k<n:=ZwW.mp (by rw[hxs]; simp);have hs:s.length<n:=by have:=congrArg Zxl hxs; simp at this; omega
   obtain⟨r5,r6,r7,e⟩:=ZqN c n k (s.map λk=>tupI (Zez c n k)) o4 o5 o6 hn (by omega) (by simp; omega);exact⟨_,e,some (.pl (dN k)),r5,r6,r7,by simp⟩)
 subst p1;have hl:n<1000000:=by omega
 simp[Zcn,Ziv,h1,Zae,hl,e1,Zs]
end HG
namespace HG
open PySem HM
def ahV(k:Nat):Int:=if(0:Int) > (k:Int)-1 then 0 else(k:Int)-1
def beV(n k:Nat):Int:=if(n:Int)-1<(k:Int)+1 then(n:Int)-1 else(k:Int)+1
def wlV(c:Int)(k:Nat):List Int:=sortI (dedup [] (ahV k::(if ZO (c+17*(k:Int)) 9929 6=1 then[(k:Int)]else[])))
theorem ZuJ(c:Int)(n k:Nat)(hk:k<n):Cr n (wlV c k):=by
 unfold wlV;have ha:0<=ahV k/\ahV k<n:=by unfold ahV; split<;>omega
 refine ZgT (Zec _ _ (by simp)) λx hx=>?_;rw[Zek]at hx;rcases hx with h | h
 ·simp at h
 ·rcases Zw0.mp h with e | e
  ·subst e; exact ha
  ·split at e
   ·simp at e; subst e; omega
   ·simp at e
theorem Zu6(n k:Nat)(hk:k<n):Cr n [beV n k]:=by
 have ha:0<=beV n k/\beV n k<n:=by unfold beV; split<;>omega
 exact⟨by simp,λx hx=>by simp at hx; subst hx; exact ha⟩
theorem ZqZ(c:Int)(n k:Nat)(ls rs:List D)(o4 o5 o6 o7:Option B)(hk:k<8)(h1:ls.length<1000)(h2:rs.length<1000) :
  ∃r4 r5 r6,Zcz [some (.pl (.int c)),some (.pl (.int n)),some (.ol ls),some (.ol rs),some (.pl (dN k)),o5,o6,o7]=some (.nx [some (.pl (.int c)),some (.pl (.int n)),some (.ol (ls++[tupI (wlV c k)])),some (.ol (rs++[tupI [beV n k]])),some (.pl (dN k)),r4,r5,r6]):=by
 have h1':ls.length<1000000:=by omega
 have h2':rs.length<1000000:=by omega
 have m1:=Zb5 (c+17*(k:Int)) 9929 6 (by decide) (by decide);have hk8:k=0\/k=1\/k=2\/k=3\/k=4\/k=5\/k=6\/k=7:=by omega
 have l1:ZrJ [if(k:Int)-1<0 then 0 else(k:Int)-1,(k:Int)]=true:=by rcases hk8 with rfl | rfl | rfl | rfl | rfl | rfl | rfl | rfl<;>rfl
 have l2:ZrJ [if(k:Int)-1<0 then 0 else(k:Int)-1]=true:=by rcases hk8 with rfl | rfl | rfl | rfl | rfl | rfl | rfl | rfl<;>rfl
 unfold wlV;generalize ZO (c+17*(k:Int)) 9929 6=a at *
 by_cases e:a=1
 ·subst e
  simp[Zcz,m1,h1',h2',ahV,beV,Zax,ZgS,l1]
 ·have e':(a==1)=false:=by simp[e]
  simp[Zcz,m1,h1',h2',ahV,beV,e,e',Zax,ZgS,l2]
theorem Zs5(c:Int)(n:Nat)(hb:n<=8):Zco [.int c,.int n]=some (.tuple [Zs ((ZwG n).map λk=>wlV c k),Zs ((ZwG n).map λk=>[beV n k])]):=by
 have h1:okR (n:Int)=true:=ZcT (by omega);obtain⟨r',e1,o4,o5,o6,o7,p1⟩:=Zij (i:=4) (body:=Zcz) dN (λ(s:List Nat) r=>∃o4 o5 o6 o7,r=[some (.pl (.int c)),some (.pl (.int n)),some (.ol (s.map λk=>tupI (wlV c k))),some (.ol (s.map λk=>tupI [beV n k])),o4,o5,o6,o7]) (ZwG n)
  [some (.pl (.int c)),some (.pl (.int n)),some (.ol []),some (.ol []),none,none,none,none] ⟨none,none,none,none,rfl⟩ (by
   rintro s k post r hxs ⟨o4,o5,o6,o7,rfl⟩
   have hk':k<n:=ZwW.mp (by rw[hxs]; simp);have hs:s.length<n:=by have:=congrArg Zxl hxs; simp at this; omega
   obtain⟨r5,r6,r7,e⟩:=ZqZ c n k (s.map λk=>tupI (wlV c k)) (s.map λk=>tupI [beV n k]) o4 o5 o6 o7 (by omega) (by simp; omega) (by simp; omega);exact⟨_,e,some (.pl (dN k)),r5,r6,r7,by simp⟩)
 subst p1;have hl:n<1000000:=by omega
 simp[Zco,Ziw,h1,Zae,hl,e1,Zs]
section
variable(ns:List Int)(at_:Nat)
def ZG:Nat:=(2+ZO (Zt ns at_) 9923 4).toNat
def Zbl:List (List (List Int)):=(ZwG (1+ZO (Zt ns at_) 9907 3).toNat).map λk=>(ZwG (ZG ns at_)).map λs=>Zez (Zt ns (at_+1+k)+61*(k:Int)) (ZG ns at_) s
def Zfh:List (List (List Int)) :=
 if ZO (Zt ns at_) 9901 3=1 then[(ZwG (ZG ns at_)).map λk=>wlV (Zt ns (at_+1)) k,(ZwG (ZG ns at_)).map λk=>[beV (ZG ns at_) k]]++(Zbl ns at_).take 1 else Zbl ns at_
def ZfE(k:Nat):List Int:=(ZwG (ZG ns at_)).map λ(s:Nat)=>ZO (Zt ns (at_+4+k)+71*(k:Int)+13*(s:Int)*(s:Int)) 9871 (2+ZO (Zt ns (at_+4+k)+71*(k:Int)) 9883 2)
def Zfp:List (List Int):=(ZwG (ZO (Zt ns at_) 9887 4).toNat).map (ZfE ns at_)
def Znr:List Int:=if ZO (Zt ns at_) 9859 3=1 then(ZwG (ZG ns at_)).map λ(k:Nat)=>(k:Int)else crV (Zt ns (at_+7)) (ZG ns at_)
def Zsx:List Int:=crV (Zt ns (at_+8)) (ZG ns at_)
def wkV:Wk:=⟨ZG ns at_,Zfh ns at_,Zfp ns at_,Znr ns at_,Zsx ns at_⟩
theorem Zic:2<=ZG ns at_/\ZG ns at_<=5:=by have:=Zar (Zt ns at_) 9923 4 (by decide);unfold ZG; omega
theorem ZsM:((ZG ns at_:Nat):Int)=2+ZO (Zt ns at_) 9923 4:=by have:=Zar (Zt ns at_) 9923 4 (by decide);unfold ZG; omega
theorem Zuf:(wkV ns at_).Ok:=by
 have hm:=Zic ns at_;have hd3:=Zar (Zt ns at_) 9907 3 (by decide);have dk:∀dd∈Zbl ns at_,dd.length=ZG ns at_/\∀c∈dd,Cr (ZG ns at_) c:=by intro dd h;unfold Zbl at h;obtain⟨k,_,rfl⟩:=ZwN.mp h;refine⟨by simp,λc hc=>?_⟩;obtain⟨s,_,rfl⟩:=ZwN.mp hc;exact Ztn _ _ _ (by omega)
 have dv:∀dd∈Zfh ns at_,dd.length=ZG ns at_/\∀c∈dd,Cr (ZG ns at_) c:=by
  intro dd h;unfold Zfh at h;split at h
  ·rcases Zxc.mp h with h | h
   ·simp at h
    rcases h with rfl | rfl
    ·refine⟨by simp,λc hc=>?_⟩
     obtain⟨s,hs,rfl⟩:=ZwN.mp hc;exact ZuJ _ _ _ (ZwW.mp hs)
    ·refine⟨by simp,λc hc=>?_⟩
     obtain⟨s,hs,rfl⟩:=ZwN.mp hc;exact Zu6 _ _ (ZwW.mp hs)
   ·exact dk dd (List.mem_of_mem_take h)
  ·exact dk dd h
 have lk:(Zbl ns at_).length=(1+ZO (Zt ns at_) 9907 3).toNat:=by unfold Zbl; simp
 have lv:1<=(Zfh ns at_).length/\(Zfh ns at_).length<=3:=by
  unfold Zfh;split
  ·simp; omega
  ·omega
 have hl4:=Zar (Zt ns at_) 9887 4 (by decide);have lo:∀l∈Zfp ns at_,l.length=ZG ns at_/\∀x∈l,0<=x/\x<=9:=by intro l h;unfold Zfp at h;obtain⟨k,_,rfl⟩:=ZwN.mp h;unfold ZfE;refine⟨by simp,λx hx=>?_⟩;obtain⟨s,_,rfl⟩:=ZwN.mp hx;have h2:=Zar (Zt ns (at_+4+k)+71*(k:Int)) 9883 2 (by decide);have h3:=Zar (Zt ns (at_+4+k)+71*(k:Int)+13*(s:Int)*(s:Int)) 9871 (2+ZO (Zt ns (at_+4+k)+71*(k:Int)) 9883 2) (by omega);omega
 have ll:(Zfp ns at_).length<=3:=by unfold Zfp; simp; omega
 have cb:=Zqi (Zt ns (at_+7)) (ZG ns at_) (by omega);have cg:=Zqi (Zt ns (at_+8)) (ZG ns at_) (by omega);have hb:Znr ns at_≠[]/\Cr (ZG ns at_) (Znr ns at_):=by
  unfold Znr;split
  ·refine⟨λe=>?_,?_⟩
   ·have:=congrArg Zxl e
    simp at this;omega
   ·have:=ZgQ (ZG ns at_) λ_=>true
    rwa [Zz5.mpr λ_ _=>rfl]at this
  ·exact⟨cb.2,cb.1⟩
 exact⟨hm.1,hm.2,lv.1,lv.2,λdd h=>(dv dd h).1,λdd h=>(dv dd h).2,ll,λl h=>(lo l h).1,λl h=>(lo l h).2,hb.1,hb.2,cg.2,cg.1⟩
theorem Zwm(k:Int)(h:0<=k):Zap [.list (ns.map dI),.int k]=some (.int (Zt ns k.toNat)):=by
 have:=ZdW ns k.toNat
 rwa [Zyk h]at this
theorem ZpA(k n:Nat)(c:Option B)(ds:List D)(o6 o7 o8 o9 o10:Option B)(hk:k<1000)(h1:ds.length<1000)(hn:0<n)(hb:n<1000) :
  Zc1 [some (.pl (.list (ns.map dI))),some (.pl (.int at_)),c,some (.pl (.int n)),some (.ol ds),some (.pl (dN k)),o6,o7,o8,o9,o10] =
   some (.nx [some (.pl (.list (ns.map dI))),some (.pl (.int at_)),c,some (.pl (.int n)),some (.ol (ds++[Zs ((ZwG n).map λs=>Zez (Zt ns (at_+1+k)+61*(k:Int)) n s)])),some (.pl (dN k)),o6,o7,o8,o9,o10]):=by
 have h1':ds.length<1000000:=by omega
 have hc:=ZdW ns (at_+1+k);have e:((at_+1+k:Nat):Int)=(at_:Int)+1+(k:Int):=by omega
 rw[e]at hc;have hd:=ZsU (Zt ns (at_+1+k)+61*(k:Int)) n hn hb;simp[Zc1,hc,hd,h1']
theorem Zpm(k n:Nat)(c o4:Option B)(ls:List D)(o7 o8 o9 o10:Option B)(hk:k<1000)(h1:ls.length<1000)(hn:n=ZG ns at_) :
  ∃r7 r8,Zcj [some (.pl (.list (ns.map dI))),some (.pl (.int at_)),c,some (.pl (.int n)),o4,some (.pl (dN k)),some (.ol ls),o7,o8,o9,o10] =
   some (.nx [some (.pl (.list (ns.map dI))),some (.pl (.int at_)),c,some (.pl (.int n)),o4,some (.pl (dN k)),some (.ol (ls++[tupI (ZfE ns at_ k)])),r7,r8,o9,o10]):=by
 have hb:=Zic ns at_;have h1':ls.length<1000000:=by omega
 have hc:=ZdW ns (at_+4+k);have e:((at_+4+k:Nat):Int)=(at_:Int)+4+(k:Int):=by omega
 rw[e]at hc;have m1:=Zb5 (Zt ns (at_+4+k)+71*(k:Int)) 9883 2 (by decide) (by decide);have b1:=Zar (Zt ns (at_+4+k)+71*(k:Int)) 9883 2 (by decide);have hok:okR (n:Int)=true:=ZcT (by omega);have hl:n<1000000:=by omega
 unfold ZfE;rw[<-hn];generalize ZO (Zt ns (at_+4+k)+71*(k:Int)) 9883 2=mo at *;generalize Zt ns (at_+4+k)=cc at *;simp[Zcj,hc,m1,hok,h1',Zae,hl];rw[Za6 dN λ(s:Nat)=>dI (ZO (cc+71*(k:Int)+13*(s:Int)*(s:Int)) 9871 (2+mo))]
 ·refine⟨some (.pl (.int (cc+71*(k:Int)))),some (.pl (.int (2+mo))),?_⟩
  simp
 ·intro s hs
  have hs':=ZwW.mp hs;have s2:ZP (13*(s:Int))=true:=ZhL (by omega) (by omega);have m2:=Zb5 (cc+71*(k:Int)+13*(s:Int)*(s:Int)) 9871 (2+mo) (by decide) (by omega);simp[s2,m2]
theorem Zr6(h:ns.length<=63):ZaA [.list (ns.map dI),.int at_]=some (wkV ns at_).d:=by
 have hb:=Zic ns at_;have hmc:=ZsM ns at_;have c0:=ZdW ns at_;have c1:=ZdW ns (at_+1);have c7:=ZdW ns (at_+7);have c8:=ZdW ns (at_+8);have e1:((at_+1:Nat):Int)=(at_:Int)+1:=by omega
 have e7:((at_+7:Nat):Int)=(at_:Int)+7:=by omega
 have e8:((at_+8:Nat):Int)=(at_:Int)+8:=by omega
 rw[e1]at c1;rw[e7]at c7;rw[e8]at c8;have m4:=Zb5 (Zt ns at_) 9923 4 (by decide) (by decide);have m3:=Zb5 (Zt ns at_) 9907 3 (by decide) (by decide);have b3:=Zar (Zt ns at_) 9907 3 (by decide);have mw:=Zb5 (Zt ns at_) 9901 3 (by decide) (by decide);have ml:=Zb5 (Zt ns at_) 9887 4 (by decide) (by decide);have bl:=Zar (Zt ns at_) 9887 4 (by decide);have mb:=Zb5 (Zt ns at_) 9859 3 (by decide) (by decide);have wk:=Zs5 (Zt ns (at_+1)) (ZG ns at_) (by omega);have k7:=Zm5 (Zt ns (at_+7)) (ZG ns at_) (by omega) (by omega);have k8:=Zm5 (Zt ns (at_+8)) (ZG ns at_) (by omega) (by omega);have hlen:¬(63:Int)<(ns.length:Int):=by omega
 have ok3:okR (1+ZO (Zt ns at_) 9907 3)=true:=Zzu.mpr (by omega);have okl:okR (ZO (Zt ns at_) 9887 4)=true:=Zzu.mpr (by omega);have okm:okR ((ZG ns at_:Nat):Int)=true:=ZcT (by omega);obtain⟨r1,f1,o5,q1⟩:=Zij (i:=5) (body:=Zc1) dN (λ(s:List Nat) r=>∃o5,r=[some (.pl (.list (ns.map dI))),some (.pl (.int at_)),some (.pl (.int (Zt ns at_))),some (.pl (.int (ZG ns at_))),
   some (.ol (s.map λk=>Zs ((ZwG (ZG ns at_)).map λs=>Zez (Zt ns (at_+1+k)+61*(k:Int)) (ZG ns at_) s))),o5,none,none,none,none,none]) (ZwG (1+ZO (Zt ns at_) 9907 3).toNat)
  [some (.pl (.list (ns.map dI))),some (.pl (.int at_)),some (.pl (.int (Zt ns at_))),some (.pl (.int (ZG ns at_))),some (.ol []),none,none,none,none,none,none] ⟨none,rfl⟩ (by
   rintro s k post r hxs ⟨o5,rfl⟩
   have hk':=ZwW.mp (show k∈ZwG (1+ZO (Zt ns at_) 9907 3).toNat by rw[hxs]; simp);have hs:s.length<4:=by have:=congrArg Zxl hxs; simp at this; omega
   have e:=ZpA ns at_ k (ZG ns at_) (some (.pl (.int (Zt ns at_)))) (s.map λk=>Zs ((ZwG (ZG ns at_)).map λs=>Zez (Zt ns (at_+1+k)+61*(k:Int)) (ZG ns at_) s)) none none none none none (by omega) (by simp; omega) (by omega) (by omega);exact⟨_,e,some (.pl (dN k)),by simp⟩)
 subst q1;have lks:∀(o4 o5:Option B),∃r2,Zas 5 Zcj ((ZwG (ZO (Zt ns at_) 9887 4).toNat).map dN) [some (.pl (.list (ns.map dI))),some (.pl (.int at_)),some (.pl (.int (Zt ns at_))),some (.pl (.int (ZG ns at_))),o4,o5,some (.ol []),none,none,none,none]=some (.nx r2) /\
   ∃o5 o7 o8,r2=[some (.pl (.list (ns.map dI))),some (.pl (.int at_)),some (.pl (.int (Zt ns at_))),some (.pl (.int (ZG ns at_))),o4,o5,some (.ol ((ZwG (ZO (Zt ns at_) 9887 4).toNat).map λk=>tupI (ZfE ns at_ k))),o7,o8,none,none]:=by
  intro o4 o5;refine Zij (i:=5) (body:=Zcj) dN (λ(s:List Nat) r=>∃o5 o7 o8,r=[some (.pl (.list (ns.map dI))),some (.pl (.int at_)),some (.pl (.int (Zt ns at_))),some (.pl (.int (ZG ns at_))),
   o4,o5,some (.ol (s.map λk=>tupI (ZfE ns at_ k))),o7,o8,none,none]) (ZwG (ZO (Zt ns at_) 9887 4).toNat) _ ⟨o5,none,none,rfl⟩ ?_
  rintro s k post r hxs ⟨o5,o7,o8,rfl⟩
  have hk':=ZwW.mp (show k∈ZwG (ZO (Zt ns at_) 9887 4).toNat by rw[hxs]; simp);have hs:s.length<4:=by have:=congrArg Zxl hxs; simp at this; omega
  obtain⟨r7,r8,e⟩:=Zpm ns at_ k (ZG ns at_) (some (.pl (.int (Zt ns at_)))) o4 (s.map λk=>tupI (ZfE ns at_ k)) o7 o8 none none (by omega) (by simp; omega) rfl;exact⟨_,e,some (.pl (dN k)),r7,r8,by simp⟩
 have n3:(1+ZO (Zt ns at_) 9907 3).toNat<1000000:=by omega
 have nl:(ZO (Zt ns at_) 9887 4).toNat<1000000:=by omega
 have nm:ZG ns at_<1000000:=by omega
 have hdk:((ZwG (1+ZO (Zt ns at_) 9907 3).toNat).map λk=>Zs ((ZwG (ZG ns at_)).map λs=>Zez (Zt ns (at_+1+k)+61*(k:Int)) (ZG ns at_) s))=(Zbl ns at_).map Zs:=by unfold Zbl; simp
 have hlk:((ZwG (ZO (Zt ns at_) 9887 4).toNat).map λk=>tupI (ZfE ns at_ k))=(Zfp ns at_).map tupI:=by unfold Zfp; simp
 rw[hdk]at f1;simp only[hlk]at lks;have dkl:(Zbl ns at_).length<10:=by unfold Zbl; simp; omega
 unfold wkV Wk.d Zfh Znr Zsx;simp only
 by_cases w1:ZO (Zt ns at_) 9901 3=1
 ·have w1':(ZO (Zt ns at_) 9901 3==1)=true:=by simp[w1]
  have cut:cutD ((Zbl ns at_).map Zs) none (some 1)=((Zbl ns at_).take 1).map Zs:=by unfold cutD sIx;simp
  obtain⟨r2,f2,p5,p7,p8,q2⟩:=lks (some (.ol (Zs ((ZwG (ZG ns at_)).map λk=>wlV (Zt ns (at_+1)) k)::Zs ((ZwG (ZG ns at_)).map λk=>[beV (ZG ns at_) k])::List.take 1 ((Zbl ns at_).map Zs)))) o5;subst q2;have c2:min 1 (Zbl ns at_).length+1+1<1000000:=by omega
  have c3:(2:Nat)+min 1 (Zbl ns at_).length<1000000:=by omega
  by_cases w2:ZO (Zt ns at_) 9859 3=1
  ·have w2':(ZO (Zt ns at_) 9859 3==1)=true:=by simp[w2]
   simp[ZaA,ZcA,c0,m4,<-hmc,hlen,m3,ok3,Zae,n3,f1,mw,w1',c1,wk,cut,w1,ml,okl,nl,f2,c7,k7,mb,w2',okm,nm,c8,k8,w2,c2,c3]
  ·have w2':(ZO (Zt ns at_) 9859 3==1)=false:=by simp[w2]
   simp[ZaA,ZcA,c0,m4,<-hmc,hlen,m3,ok3,Zae,n3,f1,mw,w1',c1,wk,cut,w1,ml,okl,nl,f2,c7,k7,mb,w2',okm,nm,c8,k8,w2,c2,c3]
 ·have w1':(ZO (Zt ns at_) 9901 3==1)=false:=by simp[w1]
  obtain⟨r2,f2,p5,p7,p8,q2⟩:=lks (some (.ol ((Zbl ns at_).map Zs))) o5;subst q2
  by_cases w2:ZO (Zt ns at_) 9859 3=1
  ·have w2':(ZO (Zt ns at_) 9859 3==1)=true:=by simp[w2]
   simp[ZaA,ZcA,c0,m4,<-hmc,hlen,m3,ok3,Zae,n3,f1,mw,w1',w1,ml,okl,nl,f2,c7,k7,mb,w2',okm,nm,c8,k8,w2]
  ·have w2':(ZO (Zt ns at_) 9859 3==1)=false:=by simp[w2]
   simp[ZaA,ZcA,c0,m4,<-hmc,hlen,m3,ok3,Zae,n3,f1,mw,w1',w1,ml,okl,nl,f2,c7,k7,mb,w2',okm,nm,c8,k8,w2]
end
end HG
namespace HG
open PySem HM
theorem Znt{e:EF}{r:HM.Env}{f:D->D}(xs:List D)(h:∀x∈xs,e (some (.pl x)::r)=some (f x)):Zav Zac e r xs=some (xs.map f):=by
 have:=Za6 (e:=e) (r:=r) id f xs h
 rwa [List.map_id]at this
theorem Zmt(xs:List D)(p:D->Bool):Zem (xs.map λx=>Zx5 (p x))=some (xs.map p):=by
 have:=ZeQ (xs.map p)
 rwa [Zw2]at this
def Zf5(d:D)(lo hi:Int):Bool:=match d with
 | .int i=>decide (lo<=i)&&decide (i<=hi)
 | _=>false
def ndD:D->Prop
 | .dict _=>False
 | _=>True
theorem Zfu(d:D)(lo hi:Int)(nd:ndD d:=by trivial):Zaz [d,.int lo,.int hi]=some (.bool (Zf5 d lo hi)):=by
 cases d<;>first | exact nd.elim | simp[Zaz,Zhc,Zf5]
 rename_i i
 by_cases h:lo<=i<;>simp[h]
def ZcY(d:D)(lo hi:Int):Bool:=match d with
 | .tuple ds=>decide (lo<=(ds.length:Int))&&decide ((ds.length:Int)<=hi)
 | _=>false
theorem Zen(d:D)(lo hi:Int)(nd:ndD d:=by trivial):Zaw [d,.int lo,.int hi]=some (.bool (ZcY d lo hi)):=by
 cases d<;>first | exact nd.elim | simp[Zaw,Zkn,ZcY]
 rename_i ds
 by_cases h:lo<=(ds.length:Int)<;>simp[h]
def ZbP(many:Int):Int->List D->Bool
 | _,[]=>true
 | l,.int i::r=>(decide (l<=i)&&decide (i<=many-1))&&ZbP many (i+1) r
 | _,_::_=>false
def Zif(d:D)(many:Int):Bool:=match d with
 | .tuple ds=>ZbP many 0 ds
 | _=>false
theorem Zoc(d:D)(many:Int):∀(ds:List D) (l:Int) (o:Option B),(∀x∈ds,ndD x) ->
  (ZbP many l ds=true->∃l' o',Zas 3 Z8 ds [some (.pl d),some (.pl (.int many)),some (.pl (.int l)),o]=some (.nx [some (.pl d),some (.pl (.int many)),some (.pl (.int l')),o'])) /\
  (ZbP many l ds=false->Zas 3 Z8 ds [some (.pl d),some (.pl (.int many)),some (.pl (.int l)),o]=some (.rt (.bool false)))
 | [],l,o,_=>⟨λ_=>⟨l,o,rfl⟩,λh=>by simp[ZbP]at h⟩
 | x::ds,l,o,nd=>by
  have key:=Zfu x l (many-1) (nd x (ZwI ..));cases hx:Zf5 x l (many-1)with
  | false =>
   have e:Z8 [some (.pl d),some (.pl (.int many)),some (.pl (.int l)),some (.pl x)]=some (.rt (.bool false)):=by rw[hx]at key;simp[Z8,key]
   have e2:ZbP many l (x::ds)=false:=by cases x<;>simp[ZbP];rename_i i;simp[Zf5]at hx;intro h1 h2;exact absurd (hx h1) (by omega)
   refine⟨λh=>?_,λ_=>?_⟩
   ·rw[e2]at h; cases h
   ·unfold Zas
    show(match Z8 [some (.pl d),some (.pl (.int many)),some (.pl (.int l)),some (.pl x)]with | some (.nx r')=>_ | some (.ct r')=>_ | some (.bk r')=>_ | some (.rt d)=>_ | none=>_)=_;rw[e]
  | true =>
   cases x with
   | int i =>
    have e:Z8 [some (.pl d),some (.pl (.int many)),some (.pl (.int l)),some (.pl (.int i))]=some (.nx [some (.pl d),some (.pl (.int many)),some (.pl (.int (i+1))),some (.pl (.int i))]):=by rw[hx]at key;simp[Z8,key]
    have e2:ZbP many l (.int i::ds)=ZbP many (i+1) ds:=by have:(decide (l<=i)&&decide (i<=many-1))=true:=hx;simp only[ZbP,this,ZBa]
    obtain⟨a1,a2⟩:=Zoc d many ds (i+1) (some (.pl (.int i))) λx hx=>nd x (ZwJ _ hx);rw[e2];have e3:Zas 3 Z8 (.int i::ds) [some (.pl d),some (.pl (.int many)),some (.pl (.int l)),o]=Zas 3 Z8 ds [some (.pl d),some (.pl (.int many)),some (.pl (.int (i+1))),some (.pl (.int i))]:=by show(match Z8 [some (.pl d),some (.pl (.int many)),some (.pl (.int l)),some (.pl (.int i))]with | some (.nx r')=>_ | some (.ct r')=>_ | some (.bk r')=>_ | some (.rt d)=>_ | none=>_)=_;rw[e]
    rw[e3];exact⟨a1,a2⟩
   | _=>simp[Zf5]at hx
theorem ZhU(d:D)(many:Int)(hl:∀ds,d=.tuple ds->ds.length<1000000/\∀x∈ds,ndD x)(nd:ndD d:=by trivial):ZU [d,.int many]=some (.bool (Zif d many)):=by
 cases d with
 | tuple ds =>
  obtain⟨hl,hn⟩:=hl ds rfl;obtain⟨a1,a2⟩:=Zoc (.tuple ds) many ds 0 none hn;cases h:ZbP many 0 ds with
  | true=>obtain⟨l',o',e⟩:=a1 h;simp[ZU,Zdt,Zif,h,hl,e]
  | false=>have e:=a2 h;simp[ZU,Zdt,Zif,h,hl,e]
 | dict _=>exact nd.elim
 | _=>simp[ZU,Zdt,Zif]
def small:D->Prop
 | .tuple ds=>ds.length<1000000/\∀x∈ds,ndD x
 | .dict _=>False
 | _=>True
theorem Zjq{c:List Int}(h:(c.map dI).length<1000000):small (tupI c):=⟨h,λx hx=>by obtain⟨i,_,rfl⟩:=ZwN.mp hx; trivial⟩
theorem Znb{d:D}(h:small d):ndD d:=by cases d<;>first | exact h.elim | trivial
theorem ZqQ{d:D}(h:small d):∀ds,d=.tuple ds->ds.length<1000000/\∀x∈ds,ndD x:=by rintro ds rfl; exact h
def ZhD(d:D)(many:Int):Bool:=ZcY d many many&&(match d with | .tuple ds=>ds.all λc=>Zif c many | _=>false)
def Zjo(d:D):Prop:=match d with | .tuple ds=>ds.length<1000000/\∀x∈ds,small x | .dict _=>False | _=>True
theorem ZrM{d:D}(h:Zjo d):ndD d:=by cases d<;>first | exact h.elim | trivial
theorem Zo5(d:D)(many:Int)(hs:Zjo d):ZbK [d,.int many]=some (.bool (ZhD d many)):=by
 have h1:=Zen d many many (ZrM hs);cases hr:ZcY d many many with
 | false=>rw[hr]at h1; simp[ZbK,Zgr,h1,ZhD,hr]
 | true =>
  rw[hr]at h1;cases d with
  | tuple ds =>
   have hs':ds.length<1000000/\∀x∈ds,small x:=hs;simp[ZbK,Zgr,h1,ZhD,hr,hs'.1];rw[Znt (f:=λc=>.bool (Zif c many))]
   ·simp[Zmt]
   ·intro x hx
    simp[ZhU x many (ZqQ (hs'.2 x hx)) (Znb (hs'.2 x hx))]
  | _=>simp[ZcY]at hr
def Zhu(d:D)(many:Int):Bool:=ZcY d many many&&(match d with | .tuple ds=>ds.all λc=>Zf5 c 0 9 | _=>false)
theorem Zo8(d:D)(many:Int)(hs:small d):ZbL [d,.int many]=some (.bool (Zhu d many)):=by
 have h1:=Zen d many many (Znb hs);cases hr:ZcY d many many with
 | false=>rw[hr]at h1; simp[ZbL,Zgs,h1,Zhu,hr]
 | true =>
  rw[hr]at h1;cases d with
  | tuple ds =>
   have hs':ds.length<1000000:=hs.1;simp[ZbL,Zgs,h1,Zhu,hr,hs'];rw[Znt (f:=λc=>.bool (Zf5 c 0 9))]
   ·simp[Zmt]
   ·intro x hx
    simp[Zfu x 0 9 (hs.2 x hx)]
  | _=>simp[ZcY]at hr
structure Wk.V(w:Wk):Prop where
 m1:1<=w.many
 m2:w.many<=8
 d1:1<=w.deeds.length
 d2:w.deeds.length<=5
 dl:∀dd∈w.deeds,dd.length=w.many
 dc:∀dd∈w.deeds,∀c∈dd,Cr w.many c
 l2:w.looks.length<=4
 ll:∀l∈w.looks,l.length=w.many
 lc:∀l∈w.looks,∀x∈l,0<=x/\x<=9
 b1:w.beg≠[]
 bc:Cr w.many w.beg
 gc:Cr w.many w.goal
theorem Wk.Ok.v{w:Wk}(h:w.Ok):Wk.V w:=by obtain⟨m1,m2,d1,d2,dl,dc,l2,ll,lc,b1,bc,g1,gc⟩:=h;exact⟨by omega,by omega,d1,by omega,dl,dc,by omega,ll,lc,b1,bc,gc⟩
theorem Zj3(n:Nat):∀(c:List Int) (l:Int),c.Pairwise (· < ·)->(∀x∈c,l<=x/\x<(n:Int))->ZbP n l (c.map dI)=true
 | [],_,_,_=>rfl
 | x::c,l,hp,hb=>by have h1:=hb x (ZwI ..);have ih:=Zj3 n c (x+1) (Zxn.mp hp).2 λy hy=>⟨by have:=(Zxn.mp hp).1 y hy; omega,(hb y (ZwJ _ hy)).2⟩;show((decide (l<=x)&&decide (x<=(n:Int)-1))&&ZbP n (x+1) (c.map dI))=true;rw[ih,decide_eq_true h1.1,decide_eq_true (show x<=(n:Int)-1 by omega)];rfl
theorem Zhx{n:Nat}{c:List Int}(h:Cr n c)(hn:n<1000):ZU [tupI c,.int n]=some (.bool true):=by have hl:=h.len;rw[ZhU (tupI c) n (by intro ds e; cases e; exact⟨by simp; omega,λx hx=>by obtain⟨i,_,rfl⟩:=ZwN.mp hx; trivial⟩)];show some (Zx5 (ZbP n 0 (c.map dI)))=_;rw[Zj3 n c 0 h.1 h.2]
theorem ZnV{n:Nat}{c:List Int}(h:Cr n c)(h0:c≠[])(hn:n<1000):Zcm [tupI c,.int n]=some (.bool true):=by
 have h1:=Zhx h hn;have h2:(0:Int)<(c.length:Int):=by have:=Zz6.mpr h0;omega
 simp[Zcm,Zir,h1];exact Zz6.mpr h0
theorem ZsN{w:Wk}(h:Wk.V w){dd:List (List Int)}(hd:dd∈w.deeds):ZbK [Zs dd,.int w.many]=some (.bool true):=by
 have hl:=h.dl dd hd;have m2:=h.m2;rw[Zo5 (Zs dd) _ (show(dd.map tupI).length<1000000/\∀x∈dd.map tupI,small x by refine⟨by simp; omega,λx hx=>?_⟩;obtain⟨c,hc,rfl⟩:=ZwN.mp hx;have:=(h.dc dd hd c hc).len;refine Zjq ?_;simp; omega)];have e:ZhD (Zs dd) w.many=true:=by unfold ZhD Zs ZcY;simp[hl];intro c hc;exact Zj3 w.many c 0 (h.dc dd hd c hc).1 (h.dc dd hd c hc).2
 rw[e]
theorem Ztc{w:Wk}(h:Wk.V w){l:List Int}(hd:l∈w.looks):ZbL [tupI l,.int w.many]=some (.bool true):=by
 have hl:=h.ll l hd;have m2:=h.m2;rw[Zo8 (tupI l) _ (Zjq (show(l.map dI).length<1000000 by simp; omega))];have e:Zhu (tupI l) w.many=true:=by unfold Zhu ZcY;simp[hl];intro x hx;have:=h.lc l hd x hx;simp[Zf5];omega
 rw[e]
theorem allTrue(α:Type)(xs:List α):Zem (xs.map λ_=>Zx5 true)=some (xs.map λ_=>true):=by
 have:=ZeQ (xs.map λ_=>true)
 rwa [Zw2]at this
theorem Znh{w:Wk}(h:Wk.V w):ZbX [.tuple (w.deeds.map Zs),.int w.many]=some (.bool true):=by
 have h1:=Zen (.tuple (w.deeds.map Zs)) 1 5;have d1:=h.d1;have d2:=h.d2;have e:ZcY (.tuple (w.deeds.map Zs)) 1 5=true:=by simp[ZcY]; omega
 rw[e]at h1;have hl:w.deeds.length<1000000:=by omega
 simp[ZbX,Zhd,h1,hl];rw[Za6 Zs (λ_=>.bool true)]
 ·simp[allTrue]
 ·intro x hx
  simp[ZsN h hx]
theorem Znf{w:Wk}(h:Wk.V w):ZbY [.tuple (w.looks.map tupI),.int w.many]=some (.bool true):=by
 have h1:=Zen (.tuple (w.looks.map tupI)) 0 4;have d2:=h.l2;have e:ZcY (.tuple (w.looks.map tupI)) 0 4=true:=by simp[ZcY]; omega
 rw[e]at h1;have hl:w.looks.length<1000000:=by omega
 simp[ZbY,Zhe,h1,hl];rw[Za6 tupI (λ_=>.bool true)]
 ·simp[allTrue]
 ·intro x hx
  simp[Ztc h hx]
theorem Zm9{w:Wk}(h:Wk.V w):ZbZ [w.d]=some (.bool true):=by
 have h1:=Zen w.d 5 5;have e:ZcY w.d 5 5=true:=by simp[ZcY,Wk.d]
 rw[e]at h1;have h2:=Zfu (.int w.many) 1 8;have m1:=h.m1;have m2:=h.m2;have e2:Zf5 (.int w.many) 1 8=true:=by simp[Zf5]; omega
 rw[e2]at h2;have h3:=Znh h;have h4:=Znf h;have h5:=ZnV h.bc h.b1 (by omega);have h6:=Zhx h.gc (by omega);unfold Wk.d at h1 ⊢;simp[ZbZ,Zhf,h1,h2,h3,h4,h5,h6]
theorem Zjk{w:Wk}(h:Wk.V w):ZbM [w.d]=some w.d:=by simp[ZbM,Zja,Zm9 h]
theorem Zm6(w:Wk):Zba [w.d]=some (.int w.many):=by simp[Zba,Zhg,Wk.d]
theorem Zea(w:Wk):Zao [w.d]=some (.tuple (w.deeds.map Zs)):=by simp[Zao,Zis,Wk.d]
theorem ZiF(w:Wk):Zbr [w.d]=some (.tuple (w.looks.map tupI)):=by simp[Zbr,Zit,Wk.d]
theorem ZiR{w:Wk}(h:Wk.V w){ls:List Int}(hl:Cr w.looks.length ls):Za1 [w.d,tupI ls]=some (tupI ls):=by have l2:=h.l2;have h1:=Zhx hl (by omega);simp[Za1,ZeZ,ZiF,h1]
end HG
namespace HG
open PySem HM
def ZaU(w:Wk)(d s:Int):List Int:=(w.deeds[d.toNat]?.getD [])[s.toNat]?.getD []
def Zjy(w:Wk)(l s:Int):Int:=(w.looks[l.toNat]?.getD [])[s.toNat]?.getD 0
def ZbB(w:Wk)(c:List Int)(d:Int):Bool:=c.all λs=>decide (0<(ZaU w d s).length)
def Zbi(w:Wk)(c:List Int)(d:Int):List Int:=c.flatMap λs=>ZaU w d s
def ZaD(w:Wk)(c:List Int)(d:Int):List Int:=sortI (dedup [] (Zbi w c d))
def ZH(w:Wk)(ls:List Int)(s:Int):List Int:=ls.map λl=>Zjy w l s
theorem Zog{w:Wk}{d:Int}(h0:0<=d)(h1:d<w.deeds.length):atD (w.deeds.map Zs) d=some (Zs (w.deeds[d.toNat]?.getD [])):=by
 refine Zh6 h0 ?_;have h:d.toNat<w.deeds.length:=by omega
 simp[h,Zx9]
theorem Zp1{w:Wk}(hv:Wk.V w){d s:Int}(h0:0<=d)(h1:d<w.deeds.length)(h2:0<=s)(h3:s<w.many):atD ((w.deeds[d.toNat]?.getD []).map tupI) s=some (tupI (ZaU w d s)):=by
 refine Zh6 h2 ?_;have h:d.toNat<w.deeds.length:=by omega
 have hl:(w.deeds[d.toNat]?.getD []).length=w.many:=by
  have:w.deeds[d.toNat]?.getD []=w.deeds[d.toNat]:=by simp[h,Zx9]
  rw[this];exact hv.dl _ (ZxY h)
 have h':s.toNat<(w.deeds[d.toNat]?.getD []).length:=by omega
 unfold ZaU;rw[Zw3,ZwR h'];simp[Zx9,h']
theorem ZpY{w:Wk}(hv:Wk.V w){d s:Int}(h0:0<=d)(h1:d<w.deeds.length)(h2:0<=s)(h3:s<w.many):Cr w.many (ZaU w d s):=by
 have h:d.toNat<w.deeds.length:=by omega
 have e:w.deeds[d.toNat]?.getD []=w.deeds[d.toNat]:=by simp[h,Zx9]
 have hl:=hv.dl _ (ZxY h);unfold ZaU;rw[e];have h':s.toNat<(w.deeds[d.toNat]).length:=by omega
 have e2:(w.deeds[d.toNat])[s.toNat]?.getD []=(w.deeds[d.toNat])[s.toNat]:=by simp[h',Zx9]
 rw[e2];exact hv.dc _ (ZxY h) _ (ZxY h')
theorem Zto{w:Wk}{l:Int}(h0:0<=l)(h1:l<w.looks.length):atD (w.looks.map tupI) l=some (tupI (w.looks[l.toNat]?.getD [])):=by
 refine Zh6 h0 ?_;have h:l.toNat<w.looks.length:=by omega
 simp[h,Zx9]
theorem ZsL{w:Wk}(hv:Wk.V w){l s:Int}(h0:0<=l)(h1:l<w.looks.length)(h2:0<=s)(h3:s<w.many):atD ((w.looks[l.toNat]?.getD []).map dI) s=some (.int (Zjy w l s)):=by
 refine Zh6 h2 ?_;have h:l.toNat<w.looks.length:=by omega
 have hl:(w.looks[l.toNat]?.getD []).length=w.many:=by
  have:w.looks[l.toNat]?.getD []=w.looks[l.toNat]:=by simp[h,Zx9]
  rw[this];exact hv.ll _ (ZxY h)
 have h':s.toNat<(w.looks[l.toNat]?.getD []).length:=by omega
 unfold Zjy;rw[Zw3,ZwR h'];simp[Zx9,h']
theorem Zpi{w:Wk}(hv:Wk.V w){ls:List Int}(hl:Cr w.looks.length ls){s:Int}(h2:0<=s)(h3:s<w.many):ZcO [w.d,tupI ls,.int s]=some (tupI (ZH w ls s)):=by
 have l2:=hv.l2;have hlen:=hl.len;have hb:ls.length<1000000:=by omega
 simp[ZcO,Zjb,hb];rw[Za6 dI (λl=>dI (Zjy w l s))]
 ·simp[ZH]
 ·intro l hl'
  have hb:=hl.2 l hl';simp[ZiF,Zto hb.1 hb.2,ZsL hv hb.1 hb.2 h2 h3]
theorem ZjQ{w:Wk}(hv:Wk.V w){c:List Int}(hc:Cr w.many c){d:Int}(h0:0<=d)(h1:d<w.deeds.length):Zbu [w.d,tupI c,.int d]=some (.bool (ZbB w c d)):=by
 have m2:=hv.m2;have hlen:=hc.len;have hb:c.length<1000000:=by omega
 simp[Zbu,Zf9,Zea,Zog h0 h1,hb];rw[Za6 dI (λs=>.bool (decide (0<(ZaU w d s).length)))]
 ·have e:=ZeQ (c.map λs=>decide (0<(ZaU w d s).length))
  rw[Zw2]at e;have e':((λb=>Zx5 b)∘λs=>decide (0<(ZaU w d s).length))=λs=>Zx5 (decide (0<(ZaU w d s).length)):=rfl;rw[e']at e;simp[e,ZbB]
 ·intro s hs
  have hb:=hc.2 s hs;simp[Zs,Zp1 hv h0 h1 hb.1 hb.2]
def doV(w:Wk)(c:List Int):List Int:=((ZwG w.deeds.length).filter λ(d:Nat)=>ZbB w c (d:Int)).map λ(k:Nat)=>(k:Int)
theorem Zlj{w:Wk}(hv:Wk.V w){c:List Int}(hc:Cr w.many c):ZbH [w.d,tupI c]=some (.list ((doV w c).map dI)):=by
 have d2:=hv.d2;have hok:okR (w.deeds.length:Int)=true:=ZcT (by omega);have hb:w.deeds.length<1000000:=by omega
 simp[ZbH,Zg3,Zea,hok,Zae,hb];rw[Zcg dN (λk:Nat=>ZbB w c k) dN]
 ·simp[doV]
 ·intro k hk
  have hk':=ZwW.mp hk;simp[ZjQ hv hc (show(0:Int)<=(k:Int) by omega) (by omega)]
 ·intro k hk _
  simp
def ZbV(acc:List Int)(x:Int):List Int:=if acc.contains x then acc else acc++[x]
theorem ZeL:∀(l acc:List Int),dedup acc l=l.foldl ZbV acc
 | [],acc=>rfl
 | x::l,acc=>by
  unfold dedup;rw[ZyD];unfold ZbV;split
  ·rw[ZeL l acc]; rfl
  ·rw[ZeL l (acc++[x])]; rfl
def tru(acc:List Int):List (Ky × D):=acc.map λi=>(ZxJ i,Zx5 true)
theorem ZsO(acc:List Int)(x:Int):putD (tru acc) (ZxJ x) (Zx5 true)=tru (ZbV acc x):=by
 unfold putD ZbV tru
 by_cases h:x∈acc
 ·have e1:((acc.map λi=>((ZxJ i:Ky),Zx5 true)).any λp=>decide (p.1=ZxJ x))=true:=by
   simp; exact h
  have e2:acc.contains x=true:=by simpa using h
  rw[if_pos e1,if_pos e2,Zw2];refine ZxI λi _=>?_;simp
 ·have e1:¬((acc.map λi=>((ZxJ i:Ky),Zx5 true)).any λp=>decide (p.1=ZxJ x))=true:=by
   simp; exact h
  have e2:¬acc.contains x=true:=by simpa using h
  rw[if_neg e1,if_neg e2];simp
theorem ZkD(acc:List Int)(x:Int):(ZbV acc x).length<=acc.length+1:=by unfold ZbV; split<;>simp
theorem Zmj:∀(l acc:List Int),(l.foldl ZbV acc).length<=acc.length+l.length
 | [],acc=>by simp
 | x::l,acc=>by rw[ZyD];have:=Zmj l (ZbV acc x);have:=ZkD acc x;simp; omega
theorem Zqp(e0 e1 e2 e3 e5:Option B):∀(l acc:List Int) (o:Option B),acc.length+l.length<1000000 ->
  ∃o',Zas 6 Zdu (l.map dI) [e0,e1,e2,e3,some (.ok (tru acc)),e5,o]=some (.nx [e0,e1,e2,e3,some (.ok (tru (l.foldl ZbV acc))),e5,o'])
 | [],acc,o,_=>⟨o,rfl⟩
 | x::l,acc,o,h=>by
  rw[ZwS]at h;have hb:acc.length<1000000:=by omega
  have e:Zdu [e0,e1,e2,e3,some (.ok (tru acc)),e5,some (.pl (dI x))]=some (.nx [e0,e1,e2,e3,some (.ok (tru (ZbV acc x))),e5,some (.pl (dI x))]):=by
   have hl:(tru acc).length<1000000:=by unfold tru; simp; exact hb
   simp[Zdu,hl,ZsO]
  have hd:=ZkD acc x;obtain⟨o',e'⟩:=Zqp e0 e1 e2 e3 e5 l (ZbV acc x) (some (.pl (dI x))) (by omega);refine⟨o',?_⟩;rw[ZwL,ZyD,<-e'];unfold Zas;show(match Zdu [e0,e1,e2,e3,some (.ok (tru acc)),e5,some (.pl (dI x))]with | some (.nx r')=>_ | some (.ct r')=>_ | some (.bk r')=>_ | some (.rt d)=>_ | none=>_)=_;rw[e];cases l<;>rfl
theorem Zqq{w:Wk}(hv:Wk.V w){d:Int}(h0:0<=d)(h1:d<w.deeds.length)(e1 e2:Option B):∀(c acc:List Int) (o5 o6:Option B),(∀s∈c,0<=s/\s<(w.many:Int))->acc.length+c.length*10<100000 ->
  ∃o5' o6',Zas 5 Zdv (c.map dI) [some (.pl w.d),e1,e2,some (.pl (Zs (w.deeds[d.toNat]?.getD []))),some (.ok (tru acc)),o5,o6]=some (.nx [some (.pl w.d),e1,e2,some (.pl (Zs (w.deeds[d.toNat]?.getD []))),some (.ok (tru ((Zbi w c d).foldl ZbV acc))),o5',o6'])
 | [],acc,o5,o6,_,_=>⟨o5,o6,rfl⟩
 | s::c,acc,o5,o6,hs,hl=>by
  rw[ZwS]at hl;have hb:=hs s (ZwI ..);have hr:=(ZpY hv h0 h1 hb.1 hb.2).len;have m2:=hv.m2;have hrl:(ZaU w d s).length<1000000:=by omega
  obtain⟨o',e⟩:=Zqp (some (.pl w.d)) e1 e2 (some (.pl (Zs (w.deeds[d.toNat]?.getD [])))) (some (.pl (dI s))) (ZaU w d s) acc o6 (by omega);have e':Zdv [some (.pl w.d),e1,e2,some (.pl (Zs (w.deeds[d.toNat]?.getD []))),some (.ok (tru acc)),some (.pl (dI s)),o6]=some (.nx [some (.pl w.d),e1,e2,some (.pl (Zs (w.deeds[d.toNat]?.getD []))),some (.ok (tru ((ZaU w d s).foldl ZbV acc))),some (.pl (dI s)),o']):=by unfold Zs at e ⊢;simp[Zdv,Zp1 hv h0 h1 hb.1 hb.2,hrl,e]
  have hf:=Zmj (ZaU w d s) acc;obtain⟨p5,p6,ih⟩:=Zqq hv h0 h1 e1 e2 c ((ZaU w d s).foldl ZbV acc) (some (.pl (dI s))) o' (λx hx=>hs x (ZwJ _ hx)) (by omega);refine⟨p5,p6,?_⟩;have ef:Zbi w (s::c) d=ZaU w d s++Zbi w c d:=rfl;rw[ef,List.foldl_append,<-ih,ZwL];show(match Zdv [some (.pl w.d),e1,e2,some (.pl (Zs (w.deeds[d.toNat]?.getD []))),some (.ok (tru acc)),some (.pl (dI s)),o6]with | some (.nx r')=>_ | some (.ct r')=>_ | some (.bk r')=>_ | some (.rt d)=>_ | none=>_)=_;rw[e']
theorem ZuN{w:Wk}(hv:Wk.V w){c:List Int}(hc:Cr w.many c){d:Int}(h0:0<=d)(h1:d<w.deeds.length):∀x∈Zbi w c d,0<=x/\x<(w.many:Int):=by intro x hx;obtain⟨s,hs,h⟩:=ZyR.mp hx;exact(ZpY hv h0 h1 (hc.2 s hs).1 (hc.2 s hs).2).2 x h
theorem Zdh{w:Wk}(hv:Wk.V w){c:List Int}(hc:Cr w.many c){d:Int}(h0:0<=d)(h1:d<w.deeds.length):Cr w.many (ZaD w c d):=by refine ZgT (Zec _ _ (by simp)) λx hx=>ZuN hv hc h0 h1 x ?_;rw[Zek]at hx;simpa using hx
theorem Zqn{w:Wk}(hv:Wk.V w){c:List Int}(hc:Cr w.many c){d:Int}(h0:0<=d)(h1:d<w.deeds.length):Zcy [w.d,tupI c,.int d]=some (tupI (ZaD w c d)):=by
 have m2:=hv.m2;have hlen:=hc.len;have hb:c.length<1000000:=by omega
 obtain⟨o5,o6,e⟩:=Zqq hv h0 h1 (some (.pl (tupI c))) (some (.pl (.int d))) c [] none none hc.2 (by simp; omega);have hl:(dedup [] (Zbi w c d)).length<64:=by have h:=(Zdh hv hc h0 h1).len;have:=(sortI_perm (dedup [] (Zbi w c d))).length_eq;unfold ZaD at h;omega
 have hs:=ZgM _ hl;rw[ZeL]at hs;have ek:(tru ((Zbi w c d).foldl ZbV [])).map (λp=>Zai p.1)=((Zbi w c d).foldl ZbV []).map dI:=by unfold tru;rw[Zw2];rfl
 simp[Zcy,Zko,Zea,Zog h0 h1,hb];rw[show some (B.ok [])=some (B.ok (tru [])) from rfl,e];simp[ek,hs,ZaD,ZeL]
end HG
namespace HG
open PySem HM
abbrev Gs:=List (List Int × List Int)
abbrev Zag(k:List Int):List Ky:=k.map ZxJ
def ZbC(g:Gs):List (List Ky × List D):=g.map λp=>(Zag p.1,p.2.map dI)
theorem Zfl{a b:List Int}(h:Zag a=Zag b):a=b:=by
 induction a generalizing b with
 | nil=>cases b with
  | nil=>rfl
  | cons _ _=>simp at h
 | cons x a ih=>cases b with
  | nil=>simp at h
  | cons y b=>simp at h;rw[h.1,ih (by simpa using h.2)]
theorem Zkk(a b:List Int):(Zag a=Zag b)↔a=b:=⟨Zfl,λh=>by rw[h]⟩
theorem Zpf(k:List Int):Zj5 (k.map dI)=some (Zag k):=by
 induction k with
 | nil=>rfl
 | cons x k ih=>show(Zj5 (k.map dI)).map (ZxJ x::·)=_;rw[ih];rfl
theorem ZbT(k:List Int):Za5 (tupI k)=some (Zag k):=Zpf k
theorem ZiX(g:Gs)(k:List Int):Zf (ZbC g) (Zag k)=(Zf g k).map λp=>p.map dI:=by
 unfold Zf ZbC;rw[ZA3];have e:((λp:List Ky × List D=>decide (p.1=Zag k))∘λp:List Int × List Int=>(Zag p.1,p.2.map dI))=λp=>decide (p.1=k):=by
  funext p
  simp only[ZzL];exact decide_eq_decide.mpr (Zkk p.1 k)
 rw[e];cases g.find? λp=>decide (p.1=k)<;>rfl
theorem Zof(g:Gs)(k:List Int):Zca (ZbC g) (Zag k)=ZbC (Zca g k):=by
 unfold Zca;rw[ZiX];cases Zf g k with
 | none=>simp[ZbC]
 | some p=>rfl
theorem Zod(k:List Int)(s:Int):∀(g:Gs),ZcW (ZbC g) (Zag k) (dI s)=ZbC (ZcW g k s)
 | []=>rfl
 | (x,p)::g=>by
  show ZcW ((Zag x,p.map dI)::ZbC g) (Zag k) (dI s)=ZbC (ZcW ((x,p)::g) k s);unfold ZcW
  by_cases h:x=k
  ·rw[if_pos (by rw[h]),if_pos h]
   simp[ZbC]
  ·rw[if_neg (λe=>h (Zfl e)),if_neg h,Zod k s g]
   rfl
def Zfi(g:Gs)(k:List Int)(s:Int):Gs:=ZcW (Zca g k) k s
theorem Zfj(k:List Int):Zf ([]:Gs) k=none:=rfl
theorem Zbt(x:List Int)(p:List Int)(g:Gs)(k:List Int):Zf ((x,p)::g) k=if x=k then some p else Zf g k:=by
 unfold Zf;rw[Zxf]
 by_cases h:x=k<;>simp[h]
theorem Zm2(k:List Int)(s:Int)(k':List Int):∀(g:Gs),Zf (ZcW g k s) k'=if k=k' then(Zf g k).map (·++[s])else Zf g k'
 | []=>by simp[ZcW,Zfj]
 | (x,p)::g=>by
  unfold ZcW
  by_cases h:x=k
  ·subst h
   rw[if_pos rfl,Zbt,Zbt,Zbt,if_pos rfl];split<;>rfl
  ·rw[if_neg h,Zbt,Zm2 k s k' g,Zbt,Zbt,if_neg h]
   by_cases h2:x=k'
   ·subst h2
    rw[if_pos rfl,if_pos rfl,if_neg (ZxC h)]
   ·rw[if_neg h2,if_neg h2]
theorem Zjs(x:List Int)(p:List Int)(k:List Int):∀(g:Gs),Zf (g++[(x,p)]) k=match Zf g k with | some q=>some q | none=>if x=k then some p else none
 | []=>by simp[Zfj,Zbt]
 | (y,q)::g=>by rw[ZAI,Zbt,Zbt,Zjs x p k g];split<;>rfl
theorem ZiP(g:Gs)(k k':List Int):Zf (Zca g k) k'=if k=k' then some ((Zf g k).getD [])else Zf g k':=by
 unfold Zca;cases h:Zf g k with
 | some p =>
  by_cases e:k=k'
  ·subst e; rw[if_pos rfl]; exact h
  ·rw[if_neg e]
 | none =>
  show Zf (g++[(k,[])]) k'=_;rw[Zjs]
  by_cases e:k=k'
  ·subst e; rw[if_pos rfl,if_pos rfl,h]; rfl
  ·rw[if_neg e,if_neg e]
   cases Zf g k'<;>rfl
theorem Zrv(g:Gs)(k k':List Int)(s:Int):Zf (Zfi g k s) k'=if k=k' then some ((Zf g k).getD []++[s])else Zf g k':=by
 unfold Zfi;rw[Zm2,ZiP,ZiP,if_pos rfl]
 by_cases e:k=k'
 ·rw[if_pos e,if_pos e]; rfl
 ·rw[if_neg e,if_neg e,if_neg e]
theorem ZmG(k:List Int)(s:Int):∀(g:Gs),(ZcW g k s).map (·.1)=g.map (·.1)
 | []=>rfl
 | (x,p)::g=>by
  unfold ZcW;split
  ·rfl
  ·rw[ZwL,ZmG k s g]; rfl
theorem ZiV(g:Gs)(k:List Int):(Zf g k).isSome=true↔k∈g.map (·.1):=by
 induction g with
 | nil=>simp[Zfj]
 | cons p g ih =>
  obtain⟨x,q⟩:=p;rw[Zbt,ZwL,Zw0]
  by_cases h:x=k
  ·simp[h]
  ·rw[if_neg h,ih]
   constructor
   ·exact .inr
   ·rintro (e | e)
    ·exact absurd e.symm h
    ·exact e
theorem ZrN(g:Gs)(k:List Int):(Zca g k).map (·.1)=if k∈g.map (·.1)then g.map (·.1)else g.map (·.1)++[k]:=by
 unfold Zca;cases h:Zf g k with
 | some p=>rw[if_pos ((ZiV g k).mp (by rw[h]; rfl))]
 | none=>rw[if_neg (λm=>by have:=(ZiV g k).mpr m; rw[h]at this; cases this)];simp
theorem Zsg(g:Gs)(k:List Int)(s:Int):(Zfi g k s).map (·.1)=if k∈g.map (·.1)then g.map (·.1)else g.map (·.1)++[k]:=by unfold Zfi;rw[ZmG,ZrN]
def Zda(f:Int->List Int)(c:List Int):Gs:=c.foldl (λg s=>Zfi g (f s) s) []
structure Grp(f:Int->List Int)(pre:List Int)(g:Gs):Prop where
 nd:(g.map (·.1)).Nodup
 look:∀k,Zf g k=if k∈pre.map f then some (pre.filter λs=>f s==k)else none
theorem Grp.mem{f:Int->List Int}{pre:List Int}{g:Gs}(h:Grp f pre g)(k:List Int):k∈g.map (·.1)↔k∈pre.map f:=by
 rw[<-ZiV,h.look];split
 ·rename_i m; exact⟨λ_=>m,λ_=>rfl⟩
 ·rename_i m; exact⟨(λe=>by cases e),λe=>absurd e m⟩
theorem Grp.step{f:Int->List Int}{pre:List Int}{g:Gs}(h:Grp f pre g)(s:Int):Grp f (pre++[s]) (Zfi g (f s) s):=by
 refine⟨?_,λk=>?_⟩
 ·rw[Zsg]
  split
  ·exact h.nd
  ·rename_i m
   rw[Zy8];exact⟨h.nd,by simp,λa ha b hb=>by simp at hb; subst hb; exact λe=>m (e▸ha)⟩
 ·rw[Zrv,h.look,h.look,Zxd,List.filter_append]
  by_cases e:f s=k
  ·subst e
   have e0:f s∈pre.map f++[s].map f:=by simp
   rw[if_pos rfl,if_pos e0];have e2:[s].filter (λx=>f x==f s)=[s]:=by simp
   rw[e2];split
   ·rfl
   ·rename_i m
    have:pre.filter (λx=>f x==f s)=[]:=by rw[Zyz];intro a ha q;exact m (ZwN.mpr ⟨a,ha,by simpa using q⟩)
    rw[this]; rfl
  ·have e2:[s].filter (λx=>f x==k)=[]:=by simp[e]
   rw[if_neg e,e2,Zxe];have e3:(k∈pre.map f++[s].map f)↔k∈pre.map f:=by
    rw[Zxc]
    constructor
    ·rintro (q | q)
     ·exact q
     ·simp at q; exact absurd q.symm e
    ·exact .inl
   by_cases q:k∈pre.map f
   ·rw[if_pos q,if_pos (e3.mpr q)]
   ·rw[if_neg q,if_neg (λz=>q (e3.mp z))]
theorem Zow(f:Int->List Int):∀(c pre:List Int) (g:Gs),Grp f pre g->Grp f (pre++c) (c.foldl (λg s=>Zfi g (f s) s) g)
 | [],pre,g,h=>by rw[Zxe]; exact h
 | s::c,pre,g,h=>by have:=Zow f c (pre++[s]) _ (h.step s);rw[Zyi]at this;exact this
theorem Zge(f:Int->List Int)(c:List Int):Grp f c (Zda f c):=by
 have:=Zow f c [] [] ⟨Zyq,λk=>by simp[Zfj]⟩
 rwa [Zy2]at this
def ZbE(w:Wk)(ls c:List Int):Gs:=(Zee ((Zda (ZH w ls) c).map (·.1))).map λk=>(k,c.filter λs=>ZH w ls s==k)
def Za8(p:List Int × List Int):D:=.tuple [tupI p.1,tupI p.2]
theorem Zrz(ks:List (List Int)):Zh9 (ks.map tupI)=some ks:=by
 induction ks with
 | nil=>rfl
 | cons k ks ih=>show(match Zax (k.map dI)with | some ns=>(Zh9 (ks.map tupI)).map (ns::·) | none=>none)=_;rw[ZdU,ih];rfl
theorem Zpy(ks:List (List Int))(h:ks.length<64)(hn:ks.length<2\/∀k∈ks,k≠[]):Zd9 (ks.map tupI)=some ((Zee ks).map tupI):=by
 unfold Zd9;rw[if_pos (by rw[ZwD]; exact h)];cases ks with
 | nil=>simp[Zax,sortI,Zee,ofInts]
 | cons k ks =>
  have e:Zax (Zz7 tupI (k::ks))=none:=rfl;rw[e,Zrz];have e2:(decide ((Zz7 tupI (k::ks)).length<2)||(k::ks).all λt=>!t.isEmpty)=true:=by
   rw[Zyb,ZwD];rcases hn with q | q
   ·exact .inl (by simpa using q)
   ·refine .inr (ZwK.mpr λt ht=>?_)
    have:=q t ht;cases t with
    | nil=>exact absurd rfl this
    | cons _ _=>rfl
  dsimp only;rw[if_pos e2];unfold Zej;simp only[ZgS]
theorem ZdP(ks:List (List Int)):(Zee ks).Perm ks:=Zzl ks _
theorem ZsV(w:Wk)(ls c:List Int)(hc:c.length<60):Zd9 ((ZbC (Zda (ZH w ls) c)).map λp=>Zxz (p.1.map Zai))=some ((Zee ((Zda (ZH w ls) c).map (·.1))).map tupI):=by
 have hg:=Zge (ZH w ls) c;have e:((ZbC (Zda (ZH w ls) c)).map λp=>Zxz (p.1.map Zai))=((Zda (ZH w ls) c).map (·.1)).map tupI:=by unfold ZbC;rw[Zw2,Zw2];refine ZxI λp _=>?_;simp only[ZzL];unfold Zag tupI;rw[Zw2];rfl
 rw[e];have hsub:∀k∈(Zda (ZH w ls) c).map (·.1),k∈c.map (ZH w ls):=λk hk=>(hg.mem k).mp hk;refine Zpy _ ?_ ?_
 ·have:(Zda (ZH w ls) c).map (·.1) ⊆ c.map (ZH w ls):=hsub
  have:=(Zyc hg.nd this);rw[ZwD,ZwD]at this;rw[ZwD];omega
 ·cases ls with
  | nil =>
   left
   have:(Zda (ZH w []) c).map (·.1) ⊆ [[]]:=λk hk=>by obtain⟨s,_,e⟩:=ZwN.mp (hsub k hk);rw[<-e];simp[ZH]
   have:=(Zyc hg.nd this);simp at this ⊢;omega
  | cons l ls =>
   right
   intro k hk e;obtain⟨s,_,e'⟩:=ZwN.mp (hsub k hk);rw[e]at e';simp[ZH]at e'
theorem Zpu(w:Wk)(ls c:List Int)(e:EF)(r:HM.Env)(h:∀k∈(Zda (ZH w ls) c).map (·.1),e (some (.pl (tupI k))::r)=some (.tuple [tupI k,.tuple ((c.filter λs=>ZH w ls s==k).map dI)])) :
  Zav Zac e r ((Zee ((Zda (ZH w ls) c).map (·.1))).map tupI)=some ((ZbE w ls c).map Za8):=by
 rw[Za6 tupI (λk=>.tuple [tupI k,.tuple ((c.filter λs=>ZH w ls s==k).map dI)])]
 ·unfold ZbE
  rw[Zw2];rfl
 ·intro k hk
  exact h k ((ZdP _).mem_iff.mp hk)
theorem Zrd(w:Wk)(ls c:List Int)(k:List Int)(hk:k∈(Zda (ZH w ls) c).map (·.1)):Zf (ZbC (Zda (ZH w ls) c)) (Zag k)=some ((c.filter λs=>ZH w ls s==k).map dI):=by have hg:=Zge (ZH w ls) c;rw[ZiX,hg.look,if_pos ((hg.mem k).mp hk)];rfl
theorem Zs6(f:Int->List Int)(pre:List Int)(g:Gs)(h:Grp f pre g)(k:List Int)(p:List Int)(e:Zf g k=some p):p.length<=pre.length:=by
 rw[h.look]at e;split at e
 ·cases e; exact ZxL _ _
 ·cases e
theorem ZpE(f:Int->List Int)(pre:List Int)(g:Gs)(h:Grp f pre g):g.length<=pre.length:=by have h2:g.map (·.1) ⊆ pre.map f:=λk hk=>(h.mem k).mp hk;have:=Zyc h.nd h2;simpa using this
theorem ZkO{w:Wk}(hv:Wk.V w){ls:List Int}(hl:Cr w.looks.length ls)(e2:Option B):∀(c pre:List Int) (g:Gs) (o:Option B),Grp (ZH w ls) pre g->(∀s∈c,0<=s/\s<(w.many:Int))->pre.length+c.length<1000 ->
  ∃o',Zas 4 Zdw (c.map dI) [some (.pl w.d),some (.pl (tupI ls)),e2,some (.otl (ZbC g)),o]=some (.nx [some (.pl w.d),some (.pl (tupI ls)),e2,some (.otl (ZbC (c.foldl (λg s=>Zfi g (ZH w ls s) s) g))),o'])
 | [],pre,g,o,_,_,_=>⟨o,rfl⟩
 | s::c,pre,g,o,hg,hb,hn=>by
  rw[ZwS]at hn;have hs:=hb s (ZwI ..);have hlen:(ZbC g).length<1000000:=by have:=ZpE _ _ _ hg;unfold ZbC;rw[ZwD]; omega
  have h1:Zf (Zca (ZbC g) (Zag (ZH w ls s))) (Zag (ZH w ls s))=some (((Zf g (ZH w ls s)).getD []).map dI):=by rw[Zof,ZiX,ZiP,if_pos rfl]; rfl
  have h2:(((Zf g (ZH w ls s)).getD []).map dI).length<1000000:=by
   rw[ZwD];cases e:Zf g (ZH w ls s)with
   | none=>simp
   | some p=>have:=Zs6 _ _ _ hg _ _ e;simp; omega
  have h2':((Zf g (ZH w ls s)).getD []).length<1000000:=by rwa [ZwD]at h2
  have e:Zdw [some (.pl w.d),some (.pl (tupI ls)),e2,some (.otl (ZbC g)),some (.pl (dI s))]=some (.nx [some (.pl w.d),some (.pl (tupI ls)),e2,some (.otl (ZbC (Zfi g (ZH w ls s) s))),some (.pl (dI s))]):=by have ek:=Zpi hv hl hs.1 hs.2;simp[Zdw,ek,ZbT,hlen,h1,h2'];rw[Zof,Zod];rfl
  obtain⟨o',ih⟩:=ZkO hv hl e2 c (pre++[s]) (Zfi g (ZH w ls s) s) (some (.pl (dI s))) (hg.step s) (λx hx=>hb x (ZwJ _ hx)) (by simp; omega);refine⟨o',?_⟩;rw[ZwL,ZyD,<-ih];show(match Zdw [some (.pl w.d),some (.pl (tupI ls)),e2,some (.otl (ZbC g)),some (.pl (dI s))]with | some (.nx r')=>_ | some (.ct r')=>_ | some (.bk r')=>_ | some (.rt d)=>_ | none=>_)=_;rw[e]
theorem ZhT{w:Wk}(hv:Wk.V w){ls:List Int}(hl:Cr w.looks.length ls){c:List Int}(hc:Cr w.many c):ZaI [w.d,tupI ls,tupI c]=some (.list ((ZbE w ls c).map Za8)):=by
 have m2:=hv.m2;have hlen:=hc.len;have hb:c.length<1000000:=by omega
 obtain⟨o',e⟩:=ZkO hv hl (some (.pl (tupI c))) c [] [] none ⟨Zyq,λk=>by simp[Zfj]⟩ hc.2 (by simp; omega);have hk:=ZsV w ls c (by omega);have hg:c.foldl (λg s=>Zfi g (ZH w ls s) s) []=Zda (ZH w ls) c:=rfl;rw[hg]at e;have hn:(Zee ((Zda (ZH w ls) c).map (·.1))).length<1000000:=by rw[(ZdP _).length_eq,ZwD];have:=ZpE _ _ _ (Zge (ZH w ls) c);omega
 simp[ZaI,Zkp,hb];rw[show some (B.otl [])=some (B.otl (ZbC [])) from rfl,e];simp[hk,hn];rw[Zpu]
 ·simp
 ·intro k hk'
  simp[ZbT,Zrd w ls c k hk']
end HG
namespace HG
open PySem HM
def nbD:Nat->D->Bool
 | _,.none=>true
 | _,.int _=>true
 | _,.str x=>PyData.canLay0 (.str x)
 | 0,_=>false
 | n+1,.list ds=>ds.all (nbD n)
 | n+1,.tuple ds=>ds.all (nbD n)
 | _,_=>false
theorem ZhV{ds:List D}(h:∀d∈ds,d.canLay0=true):Zy7 ds=true:=by
 induction ds with
 | nil=>rfl
 | cons d ds ih=>show(d.canLay0&&Zy7 ds)=true;rw[h d (ZwI ..),ih λx hx=>h x (ZwJ _ hx)];rfl
theorem ZiB{ds:List D}{n:Nat}(h:∀d∈ds,d.depth<=n):Zz1 ds<=n:=by
 induction ds with
 | nil=>exact Zx3 _
 | cons d ds ih=>show max d.depth (Zz1 ds)<=n;have h1:=h d (ZwI ..);have h2:=ih λx hx=>h x (ZwJ _ hx);omega
theorem ZhI:∀(n:Nat) (d:D),nbD n d=true->d.canLay0=true/\d.depth<=n
 | n,.none,_=>⟨rfl,by show 0<=n; omega⟩
 | n,.int _,_=>⟨rfl,by show 0<=n; omega⟩
 | n,.str x,h=>by refine⟨?_,by show 0<=n; omega⟩;cases n<;>exact h
 | 0,.bool _,h=>by cases h
 | 0,.list _,h=>by cases h
 | 0,.tuple _,h=>by cases h
 | 0,.dict _,h=>by cases h
 | n+1,.bool _,h=>by cases h
 | n+1,.dict _,h=>by cases h
 | n+1,.list ds,h=>by have h':ds.all (nbD n)=true:=h;have hh:=ZwK.mp h';refine⟨ZhV λd hd=>(ZhI n d (hh d hd)).1,?_⟩;show Zz1 ds+1<=n+1;have:=ZiB λd hd=>(ZhI n d (hh d hd)).2;omega
 | n+1,.tuple ds,h=>by have h':ds.all (nbD n)=true:=h;have hh:=ZwK.mp h';refine⟨ZhV λd hd=>(ZhI n d (hh d hd)).1,?_⟩;show Zz1 ds+1<=n+1;have:=ZiB λd hd=>(ZhI n d (hh d hd)).2;omega
theorem Zdc{n:Nat}{d:D}(h:nbD n d=true)(hn:n<=60):ZbR d=true:=by obtain⟨h1,h2⟩:=ZhI n d h;unfold ZbR;rw[h1,decide_eq_true (show d.depth<=60 by omega)];rfl
theorem ZjA{ds:List D}(ih:∀d∈ds,∀e,(∃m,nbD m e=true)->(Zy4 d e=true↔d=e)):∀(es:List D),(∀e∈es,∃m,nbD m e=true)->(ZAn ds es=true↔ds=es):=by
 induction ds with
 | nil =>
  intro es _;cases es with
  | nil=>exact⟨λ_=>rfl,λ_=>rfl⟩
  | cons e es=>exact⟨(λh=>by cases h),(λh=>by cases h)⟩
 | cons d ds ihl =>
  intro es he;cases es with
  | nil=>exact⟨(λh=>by cases h),(λh=>by cases h)⟩
  | cons e es=>show((Zy4 d e&&ZAn ds es)=true)↔_;rw[ZwZ,ih d (ZwI ..) e (he e (ZwI ..)),ihl (λx hx=>ih x (ZwJ _ hx)) es (λx hx=>he x (ZwJ _ hx)),List.cons.injEq]
theorem Ztw{m:Nat}{ds:List D}(h:nbD m (.list ds)=true):∀d∈ds,∃m,nbD m d=true:=by
 cases m with
 | zero=>cases h
 | succ m=>have h':ds.all (nbD m)=true:=h;exact λd hd=>⟨m,ZwK.mp h' d hd⟩
theorem ZrX{m:Nat}{ds:List D}(h:nbD m (.tuple ds)=true):∀d∈ds,∃m,nbD m d=true:=by
 cases m with
 | zero=>cases h
 | succ m=>have h':ds.all (nbD m)=true:=h;exact λd hd=>⟨m,ZwK.mp h' d hd⟩
theorem ZdV{m:Nat}{b:Bool}(h:nbD m (.bool b)=true):False:=by cases m<;>cases h
theorem Zd1{m:Nat}{b:List (D × D)}(h:nbD m (.dict b)=true):False:=by cases m<;>cases h
theorem Zh7:∀(n:Nat) (d e:D),nbD n d=true->(∃m,nbD m e=true)->(Zy4 d e=true↔d=e):=by
 intro n
 induction n with
 | zero =>
  intro d e hd ⟨m,he⟩;cases d<;>first | cases hd | skip
  all_goals cases e<;>first
   | exact(ZdV he).elim
   | exact(Zd1 he).elim
   | exact⟨λ_=>rfl,λ_=>rfl⟩
   | exact⟨(λh=>by cases h),(λh=>by cases h)⟩
   | (rename_i a b; show((a==b)=true)↔_; simp)
 | succ n ih =>
  intro d e hd ⟨m,he⟩;cases d with
  | bool _=>exact(ZdV hd).elim
  | dict _=>exact(Zd1 hd).elim
  | list ds =>
   cases e with
   | list es=>show(ZAn ds es=true)↔_;rw[ZjA (λd h e he=>ih d e (ZwK.mp (show ds.all (nbD n)=true from hd) d h) he) es (Ztw he)];simp
   | bool _=>exact(ZdV he).elim
   | dict _=>exact(Zd1 he).elim
   | _=>exact⟨(λh=>by cases h),(λh=>by cases h)⟩
  | tuple ds =>
   cases e with
   | tuple es=>show(ZAn ds es=true)↔_;rw[ZjA (λd h e he=>ih d e (ZwK.mp (show ds.all (nbD n)=true from hd) d h) he) es (ZrX he)];simp
   | bool _=>exact(ZdV he).elim
   | dict _=>exact(Zd1 he).elim
   | _=>exact⟨(λh=>by cases h),(λh=>by cases h)⟩
  | none=>cases e<;>first
   | exact(ZdV he).elim
   | exact(Zd1 he).elim
   | exact⟨λ_=>rfl,λ_=>rfl⟩
   | exact⟨(λh=>by cases h),(λh=>by cases h)⟩
  | int i=>cases e<;>first
   | exact(ZdV he).elim
   | exact(Zd1 he).elim
   | exact⟨(λh=>by cases h),(λh=>by cases h)⟩
   | (rename_i b; show((i==b)=true)↔_; simp)
  | str i=>cases e<;>first
   | exact(ZdV he).elim
   | exact(Zd1 he).elim
   | exact⟨(λh=>by cases h),(λh=>by cases h)⟩
   | (rename_i b; show((i==b)=true)↔_; simp)
theorem Ztx{n m:Nat}{d e:D}(hd:nbD n d=true)(he:nbD m e=true)(hn:n<=60)(hm:m<=60)[Decidable (d=e)]:gEq d e=some (.bool (decide (d=e))):=by
 unfold gEq;rw[Zdc hd hn,Zdc he hm,if_pos (by rfl)];congr 2;have h:=Zh7 n d e hd ⟨m,he⟩;cases q:Zy4 d e with
 | true=>exact(decide_eq_true (h.mp q)).symm
 | false=>exact(decide_eq_false λz=>by rw[h.mpr z]at q; cases q).symm
theorem Zg2{n:Nat}{d:D}(hd:nbD n d=true)(hn:n<=60):gEq d d=some (.bool true):=by unfold gEq;rw[Zdc hd hn,(Zh7 n d d hd ⟨n,hd⟩).mpr rfl];rfl
theorem ZjG{n m:Nat}{d e:D}(hd:nbD n d=true)(he:nbD m e=true)(hn:n<=60)(hm:m<=60)(h:d≠e):gEq d e=some (.bool false):=by have:Decidable (d=e):=isFalse h;rw[Ztx hd he hn hm,decide_eq_false h]
theorem ZqD{n m:Nat}{d e:D}(hd:nbD n d=true)(he:nbD m e=true)(hn:n<=60)(hm:m<=60)(h:d≠e):gNe d e=some (.bool true):=by
 unfold gNe;have q:Zy4 d e=false:=by
  cases q:Zy4 d e with
  | false=>rfl
  | true=>exact absurd ((Zh7 n d e hd ⟨m,he⟩).mp q) h
 rw[Zdc hd hn,Zdc he hm,q];rfl
theorem Zme{n:Nat}{d:D}(hd:nbD n d=true)(hn:n<=60):gNe d d=some (.bool false):=by unfold gNe;rw[Zdc hd hn,(Zh7 n d d hd ⟨n,hd⟩).mpr rfl];rfl
theorem ZeW(n:Nat)(ns:List Int):nbD (n+1) (tupI ns)=true:=by show(ns.map dI).all (nbD n)=true;rw[ZwK];intro d hd;obtain⟨i,_,rfl⟩:=ZwN.mp hd;cases n<;>rfl
theorem ZiO(n:Nat)(ns:List Int):nbD (n+1) (.list (ns.map dI))=true:=ZeW n ns
theorem ZuB{n:Nat}{ds:List D}(h:∀d∈ds,nbD n d=true):nbD (n+1) (.tuple ds)=true:=ZwK.mpr h
theorem Zmc{n:Nat}{ds:List D}(h:∀d∈ds,nbD n d=true):nbD (n+1) (.list ds)=true:=ZwK.mpr h
theorem Zeg(n:Nat)(i:Int):nbD n (.int i)=true:=by cases n<;>rfl
theorem ZsB(n:Nat):nbD n .none=true:=by cases n<;>rfl
end HG
namespace HG
open PySem HM
def lkV(n:Nat)(c:Int):List Int:=((ZwG n).filter λ(k:Nat)=>decide (0<ZO (c+19*(k:Int)) 9857 4)).map λ(k:Nat)=>(k:Int)
theorem Zws(n:Nat)(c:Int):Cr n (lkV n c):=ZgQ n _
def Zwz(w:Wk)(c:List Int)(d:Int):D:=if ZbB w c d then tupI (ZaD w c d)else .none
theorem ZdX{w:Wk}{c:List Int}{d:Int}(h:d∈doV w c):0<=d/\d<w.deeds.length/\ZbB w c d=true:=by unfold doV at h;obtain⟨k,hk,rfl⟩:=ZwN.mp h;obtain⟨h1,h2⟩:=Zxq.mp hk;have:=ZwW.mp h1;exact⟨by omega,by omega,h2⟩
end HG
namespace HG4
open PySem HM HG
end HG4
namespace HM
open PySem
theorem Z7{P:Option Out->Prop}{a b:SF}{r r':Env}(h:a r=some (.nx r'))(k:P (b r')):P (Zy a b r):=by show P (match a r with | some (.nx r')=>b r' | some (.rt d)=>some (.rt d) | some (.bk r')=>some (.bk r') | some (.ct r')=>some (.ct r') | none=>none);rw[h];exact k
end HM
namespace HG4
open PySem HM HG
def Zie(w:Wk)(ls c:List Int)(s:Int):List Int:=c.filter λx=>ZH w ls x==ZH w ls s
theorem ZuK{n:Nat}{c:List Int}(p:Int->Bool)(h:Cr n c):Cr n (c.filter p):=⟨h.1.filter p,λx hx=>h.2 x (Zxq.mp hx).1⟩
def alV(w:Wk):List Int:=(ZwG w.looks.length).map λ(k:Nat)=>(k:Int)
theorem Zwr(w:Wk):Cr w.looks.length (alV w):=by
 have:=ZgQ w.looks.length λ_=>true
 rwa [Zz5.mpr λ_ _=>rfl]at this
theorem Znp{w:Wk}{ls c:List Int}{s x:Int}:x∈Zie w ls c s↔x∈c/\ZH w ls x=ZH w ls s:=by unfold Zie;rw[Zxq,beq_iff_eq]
theorem Zh1{w:Wk}{c:List Int}{d x:Int}:x∈ZaD w c d↔∃s∈c,x∈ZaU w d s:=by
 unfold ZaD;rw[(sortI_perm _).mem_iff,Zek];unfold Zbi;rw[ZyR]
 constructor
 ·rintro (h | h)
  ·cases h
  ·exact h
 ·exact .inr
end HG4
namespace HM
open PySem
def ZaL:Option Out->Option D
 | some (.nx _)=>some .none
 | some (.rt d)=>some d
 | _=>none
end HM
namespace HG4
open PySem HM HG
end HG4
namespace HG5
open PySem HM HG HG4
def ZQ(w:Wk)(ls c:List Int):List (List Int):=(ZbE w ls c).map (·.2)
theorem Zeo{w:Wk}{ls c p:List Int}:p∈ZQ w ls c↔∃s∈c,p=Zie w ls c s:=by
 unfold ZQ ZbE;rw[Zw2,ZwN];have hg:=Zge (ZH w ls) c
 constructor
 ·rintro ⟨k,hk,rfl⟩
  obtain⟨s,hs,e⟩:=ZwN.mp ((hg.mem k).mp ((ZdP _).mem_iff.mp hk));refine⟨s,hs,?_⟩;subst e;rfl
 ·rintro ⟨s,hs,rfl⟩
  exact⟨ZH w ls s,(ZdP _).mem_iff.mpr ((hg.mem _).mpr (ZwN.mpr ⟨s,hs,rfl⟩)),rfl⟩
theorem ZjY{w:Wk}{ls c p:List Int}(hc:Cr w.many c)(h:p∈ZQ w ls c):Cr w.many p/\p≠[]/\∀x∈p,x∈c:=by obtain⟨s,hs,rfl⟩:=Zeo.mp h;exact⟨ZuK _ hc,ZAi (Znp.mpr ⟨hs,rfl⟩),λx hx=>(Znp.mp hx).1⟩
theorem Zg1{w:Wk}{ls c:List Int}(h:c≠[]):ZQ w ls c≠[]:=by
 cases c with
 | nil=>exact absurd rfl h
 | cons s c=>exact ZAi (Zeo.mpr ⟨s,ZwI ..,rfl⟩)
def ZhE:Nat->List (List Int)
 | 0=>[[]]
 | n+1=>ZhE n++(ZhE n).map (·++[(n:Int)])
theorem Znm:∀n,(ZhE n).length=2 ^ n
 | 0=>rfl
 | n+1=>by show(ZhE n++(ZhE n).map (·++[(n:Int)])).length=_;rw[ZwY,ZwD,Znm n,Nat.pow_succ];omega
theorem Zi3:∀(n:Nat) (c:List Int),Cr n c->c∈ZhE n
 | 0,c,h=>by
  cases c with
  | nil=>exact ZwT.mpr rfl
  | cons x c=>have:=h.2 x (ZwI ..); omega
 | n+1,c,h=>by
  show c∈ZhE n++(ZhE n).map (·++[(n:Int)])
  by_cases hm:(n:Int)∈c
  ·-- the last is n
   have key:∀(c:List Int),c.Pairwise (· < ·)->(∀x∈c,0<=x/\x<((n+1:Nat):Int))->(n:Int)∈c->∃c',c=c'++[(n:Int)]/\c'.Pairwise (· < ·)/\∀x∈c',0<=x/\x<(n:Int):=by
    intro c
    induction c with
    | nil=>intro _ _ h; simp at h
    | cons x c ih =>
     intro hp hb hm;obtain⟨p1,p2⟩:=Zxn.mp hp
     by_cases hx:x=(n:Int)
     ·cases c with
      | nil=>exact⟨[],by rw[hx]; rfl,.nil,λy hy=>by simp at hy⟩
      | cons y c=>have h1:=p1 y (ZwI ..);have h2:=hb y (ZwJ _ (ZwI ..));omega
     ·have hm':(n:Int)∈c:=by
       rcases Zw0.mp hm with e | e
       ·exact absurd e.symm hx
       ·exact e
      obtain⟨c',e,q1,q2⟩:=ih p2 (λy hy=>hb y (ZwJ _ hy)) hm';refine⟨x::c',by rw[e]; rfl,Zxn.mpr ⟨λy hy=>p1 y (by rw[e]; exact ZxE _ hy),q1⟩,λy hy=>?_⟩;rcases Zw0.mp hy with e' | hy
      ·have h1:=p1 (n:Int) hm'
       have h2:=hb x (ZwI ..);rw[e'];omega
      ·exact q2 y hy
   obtain⟨c',e,q1,q2⟩:=key c h.1 h.2 hm;exact Zw7 _ (ZwN.mpr ⟨c',Zi3 n c' ⟨q1,q2⟩,e.symm⟩)
  ·refine ZxE _ (Zi3 n c ⟨h.1,λx hx=>?_⟩)
   have h1:=h.2 x hx;have:x≠(n:Int):=λe=>hm (e▸hx);omega
theorem Zo2{n:Nat}{L:List (List Int)}(hn:L.Nodup)(h:∀c∈L,Cr n c):L.length<=2 ^ n:=by rw[<-Znm n];exact Zyc hn λc hc=>Zi3 n c (h c hc)
def ZY(w:Wk)(c:List Int):Bool:=c.all λs=>w.goal.contains s
def Win(w:Wk)(ls:List Int):Nat->List Int->Bool
 | 0,c=>ZY w c
 | n+1,c=>ZY w c||(ZwG w.deeds.length).any λd=>ZbB w c d&&(ZQ w ls (ZaD w c d)).all λp=>Win w ls n p
theorem ZgV{w:Wk}{ls:List Int}:∀(n:Nat) (c:List Int),Win w ls n c=true->Win w ls (n+1) c=true
 | 0,c,h=>by show(ZY w c||_)=true;rw[show ZY w c=true from h];rfl
 | n+1,c,h=>by
  have h':(ZY w c||(ZwG w.deeds.length).any λd=>ZbB w c d&&(ZQ w ls (ZaD w c d)).all λp=>Win w ls n p)=true:=h;show(ZY w c||(ZwG w.deeds.length).any λd=>ZbB w c d&&(ZQ w ls (ZaD w c d)).all λp=>Win w ls (n+1) p)=true;rw[Zyb]at h' ⊢;rcases h' with h' | h'
  ·exact .inl h'
  ·right
   obtain⟨d,hd,hq⟩:=Zxb.mp h';rw[ZwZ]at hq;refine Zxb.mpr ⟨d,hd,?_⟩;rw[ZwZ];exact⟨hq.1,ZwK.mpr λp hp=>ZgV n p (ZwK.mp hq.2 p hp)⟩
theorem ZdO{w:Wk}{ls:List Int}{n m:Nat}(h:n<=m){c:List Int}(q:Win w ls n c=true):Win w ls m c=true:=by
 induction h with
 | refl=>exact q
 | step _ ih=>exact ZgV _ _ ih
def ZdH(w:Wk)(ls:List Int)(L:List (List Int)):Prop:=∀c∈L,∀d:Nat,d<w.deeds.length->ZbB w c d=true->∀p∈ZQ w ls (ZaD w c d),p∈L
theorem ZgG{w:Wk}{ls:List Int}{L:List (List Int)}(hL:ZdH w ls L){n:Nat}(h:∀c∈L,Win w ls (n+1) c=true->Win w ls n c=true):∀(m:Nat),∀c∈L,Win w ls m c=true->Win w ls n c=true
 | 0,c,_,q=>ZdO (Zx3 n) q
 | m+1,c,hc,q=>by
  refine h c hc ?_;have q':(ZY w c||(ZwG w.deeds.length).any λd=>ZbB w c d&&(ZQ w ls (ZaD w c d)).all λp=>Win w ls m p)=true:=q;show(ZY w c||(ZwG w.deeds.length).any λd=>ZbB w c d&&(ZQ w ls (ZaD w c d)).all λp=>Win w ls n p)=true;rw[Zyb]at q' ⊢;rcases q' with q' | q'
  ·exact .inl q'
  ·right
   obtain⟨d,hd,hq⟩:=Zxb.mp q';rw[ZwZ]at hq;refine Zxb.mpr ⟨d,hd,?_⟩;rw[ZwZ];exact⟨hq.1,ZwK.mpr λp hp=>ZgG hL h m p (hL c hc d (ZwW.mp hd) hq.1 p hp) (ZwK.mp hq.2 p hp)⟩
theorem Zc4{α:Type}{p q:α->Bool}:∀{L:List α},(∀x∈L,p x=true->q x=true)->(∃x∈L,q x=true/\p x=false)->(L.filter p).length<(L.filter q).length
 | [],_,⟨x,hx,_⟩=>by simp at hx
 | y::L,h,⟨x,hx,h1,h2⟩=>by
  have le:∀{L:List α},(∀x∈L,p x=true->q x=true)->(L.filter p).length<=(L.filter q).length:=by
   intro L
   induction L with
   | nil=>intro _; exact ZwM _
   | cons z L ih =>
    intro h;have:=ih λx hx=>h x (ZwJ _ hx);have hz:=h z (ZwI ..);rw[Zx0,Zx0];cases hp:p z with
    | true=>rw[hz hp]; simpa using this
    | false =>
     cases q z
     ·simpa using this
     ·simp; omega
  have hL:=λx hx=>h x (ZwJ y hx);have hy:=h y (ZwI ..);rw[Zx0,Zx0];rcases Zw0.mp hx with e | hx
  ·subst e
   rw[h2,h1];have:=le hL;simp; omega
  ·have:=Zc4 hL ⟨x,hx,h1,h2⟩
   cases hp:p y with
   | true=>rw[hy hp]; simpa using this
   | false =>
    cases q y
    ·simpa using this
    ·simp; omega
theorem Ztf{w:Wk}{ls:List Int}{L:List (List Int)}(hL:ZdH w ls L){m:Nat}{c:List Int}(hc:c∈L)(q:Win w ls m c=true):Win w ls L.length c=true:=by
 have key:∀t:Nat,(∃n,n<=t/\∀c∈L,Win w ls (n+1) c=true->Win w ls n c=true)\/t+1<=(L.filter λc=>Win w ls (t+1) c).length:=by
  intro t
  induction t with
  | zero =>
   by_cases h:∀c∈L,Win w ls 1 c=true->Win w ls 0 c=true
   ·exact .inl ⟨0,ZwM 0,h⟩
   ·right
    have h':∃c∈L,Win w ls 1 c=true/\Win w ls 0 c=false:=by
     apply Zzm;intro z;apply h;intro c hc h1;cases h0:Win w ls 0 c with
     | true=>rfl
     | false=>exact absurd ⟨c,hc,h1,h0⟩ z
    have:=Zc4 (p:=λc=>Win w ls 0 c) (q:=λc=>Win w ls 1 c) (L:=L) (λx _ hx=>ZgV 0 x hx) h';show 1<=(L.filter λc=>Win w ls 1 c).length;omega
  | succ t ih =>
   rcases ih with⟨n,hn,hs⟩ | ih
   ·exact .inl ⟨n,by omega,hs⟩
   ·by_cases h:∀c∈L,Win w ls (t+1+1) c=true->Win w ls (t+1) c=true
    ·exact .inl ⟨t+1,ZwM _,h⟩
    ·right
     have h':∃c∈L,Win w ls (t+1+1) c=true/\Win w ls (t+1) c=false:=by
      apply Zzm;intro z;apply h;intro c hc h1;cases h0:Win w ls (t+1) c with
      | true=>rfl
      | false=>exact absurd ⟨c,hc,h1,h0⟩ z
     have:=Zc4 (p:=λc=>Win w ls (t+1) c) (q:=λc=>Win w ls (t+1+1) c) (L:=L) (λx _ hx=>ZgV (t+1) x hx) h';omega
 rcases key L.length with⟨n,hn,hs⟩ | h
 ·exact ZdO hn (ZgG hL hs m c hc q)
 ·have:=ZxL (λc=>Win w ls (L.length+1) c) L
  omega
end HG5
namespace HG5
open PySem HM HG
def Zhh:SF :=
 (ZJ (ZeC (Zff (Zb 0) .int) (ZrQ (Zff (Zb 0) .bool))))
def Zbx:List D->Option D:=fnOf 1 1 Zhh
end HG5
namespace HG5
open PySem HM HG HG4
theorem ZvR(p:List Int):ZbR (tupI p)=true:=Zdc (ZeW 0 p) (by decide)
theorem Zmh{w:Wk}{c:List Int}{d:Int}(h0:c≠[])(hc:ZbB w c d=true):ZaD w c d≠[]:=by
 cases c with
 | nil=>exact absurd rfl h0
 | cons s c =>
  unfold ZbB at hc;have h1:=ZwK.mp hc s (ZwI ..);have h2:0<(ZaU w d s).length:=by simpa using h1
  cases hr:ZaU w d s with
  | nil=>rw[hr]at h2; simp at h2
  | cons x xs=>exact ZAi (Zh1.mpr ⟨s,ZwI ..,by rw[hr]; exact ZwI ..⟩)
def Zww(w:Wk)(ls c:List Int)(L:List (List Int))(d:Nat):List (List Int):=if ZbB w c d then L++(ZQ w ls (ZaD w c d)).filter (λp=>!L.contains p)else L
end HG5
namespace HG5
open PySem HM HG HG4
theorem ZmN{α:Type}(ns:List Int):gEq (.list (ns.map dI)) (.list [])=some (.bool ns.isEmpty):=by
 cases ns with
 | nil=>exact Zg2 (ZiO 0 []) (by decide)
 | cons n ns=>exact ZjG (ZiO 0 (n::ns)) (ZiO 0 []) (by decide) (by decide) (by simp)
theorem filter_empty{α:Type}(p:α->Bool)(L:List α):(L.filter λx=>!p x).isEmpty=L.all p:=by
 induction L with
 | nil=>rfl
 | cons x L ih =>
  rw[Zx0,ZxN];cases p x with
  | true=>simpa using ih
  | false=>rfl
abbrev Tb:=List (List Int × Int)
def encM(M:Tb):List (List Ky × D):=M.map λp=>(Zag p.1,dI p.2)
theorem Zei(M:Tb)(k:List Int):Zf (encM M) (Zag k)=(Zf M k).map dI:=by
 unfold Zf encM;rw[ZA3];have e:((λp:List Ky × D=>decide (p.1=Zag k))∘λp:List Int × Int=>(Zag p.1,dI p.2))=λp=>decide (p.1=k):=by
  funext p
  simp only[ZzL];exact decide_eq_decide.mpr (Zkk p.1 k)
 rw[e];cases M.find? λp=>decide (p.1=k)<;>rfl
theorem Znq(M:Tb)(k:List Int)(v:Int):putD (encM M) (Zag k) (dI v)=encM (putD M k v):=by
 unfold putD;have e1:((encM M).any λp=>decide (p.1=Zag k))=M.any λp=>decide (p.1=k):=by
  unfold encM;rw[ZBh];congr 1
  funext p
  simp only[ZzL];exact decide_eq_decide.mpr (Zkk p.1 k)
 rw[e1];split
 ·unfold encM
  rw[Zw2,Zw2];refine ZxI λp _=>?_;simp only[ZzL]
  by_cases h:p.1=k
  ·rw[if_pos h,if_pos (by rw[h])]
  ·rw[if_neg h,if_neg (λe=>h (Zfl e))]
 ·unfold encM
  rw[Zxd];rfl
theorem ZhS(k:List Int):Zf ([]:Tb) k=none:=rfl
theorem Zbq(x:List Int)(v:Int)(M:Tb)(k:List Int):Zf ((x,v)::M) k=if x=k then some v else Zf M k:=by
 unfold Zf;rw[Zxf]
 by_cases h:x=k<;>simp[h]
theorem Zp6(x k:List Int)(v:Int)(M:Tb):Zf (putD M x v) k=if x=k then some v else Zf M k:=by
 have rep:∀M:Tb,Zf (M.map λp=>if p.1=x then(p.1,v)else p) k=if x=k then(Zf M k).map (λ_=>v)else Zf M k:=by
  intro M
  induction M with
  | nil=>rw[ZyP,ZhS]; split<;>rfl
  | cons p M ih =>
   obtain⟨a,b⟩:=p;rw[ZwL]
   by_cases ha:a=x
   ·rw[if_pos (show(a,b).1=x from ha),Zbq,Zbq,ih]
    show(if a=k then some v else _)=_
    by_cases hk:x=k
    ·rw[if_pos (by rw[ha,hk]),if_pos hk,if_pos (by rw[ha,hk])]; rfl
    ·rw[if_neg (by rw[ha]; exact hk),if_neg hk,if_neg hk,if_neg (by rw[ha]; exact hk)]
   ·rw[if_neg (show ¬(a,b).1=x from ha),Zbq,Zbq,ih]
    by_cases hk:a=k
    ·rw[if_pos hk,if_pos hk]
     have:x≠k:=λe=>ha (hk.trans e.symm);rw[if_neg this]
    ·rw[if_neg hk,if_neg hk]
 have app:∀M:Tb,Zf (M++[(x,v)]) k=match Zf M k with | some u=>some u | none=>if x=k then some v else none:=by
  intro M
  induction M with
  | nil=>rw[Zy2,Zbq,ZhS]
  | cons p M ih =>
   obtain⟨a,b⟩:=p;rw[ZAI,Zbq,Zbq,ih]
   by_cases hk:a=k
   ·rw[if_pos hk,if_pos hk]
   ·rw[if_neg hk,if_neg hk]
 have has:∀M:Tb,(M.any λp=>decide (p.1=x))=(Zf M x).isSome:=by
  intro M
  induction M with
  | nil=>rfl
  | cons p M ih =>
   obtain⟨a,b⟩:=p;rw[ZyH,Zbq,ih]
   by_cases ha:a=x<;>simp[ha]
 unfold putD;split
 ·rename_i h
  rw[rep]
  by_cases hk:x=k
  ·subst hk
   rw[has]at h;rw[if_pos rfl,if_pos rfl];obtain⟨u,hu⟩:=Zxt.mp h;rw[hu]; rfl
  ·rw[if_neg hk,if_neg hk]
 ·rename_i h
  rw[app]
  by_cases hk:x=k
  ·subst hk
   rw[has]at h;rw[if_pos rfl,if_pos rfl];cases hq:Zf M x with
   | none=>rfl
   | some u=>rw[hq]at h; exact absurd rfl h
  ·rw[if_neg hk,if_neg hk]
   cases Zf M k<;>rfl
theorem Zou(x:List Int)(v:Int)(M:Tb):(putD M x v).length<=M.length+1:=by
 unfold putD;split
 ·rw[ZwD]; omega
 ·rw[ZwY]; exact ZwM _
def ZM(M:Tb)(p:List Int):Bool:=(Zf M p).isSome
def ZeB(w:Wk)(ls c:List Int)(M:Tb):Bool:=(ZwG w.deeds.length).any λd=>ZbB w c d&&(ZQ w ls (ZaD w c d)).all λp=>ZM M p
end HG5
namespace HG5
open PySem HM HG HG4
def Zbn(w:Wk)(ls:List Int)(t:Nat)(c:List Int):Option Int:=((ZwG (t+1)).find? λn=>Win w ls n c).map λ(n:Nat)=>(n:Int)
theorem Zbo{w:Wk}{ls:List Int}{t:Nat}{c:List Int}:(Zbn w ls t c).isSome=Win w ls t c:=by
 unfold Zbn;rw[Zx8];cases h:Win w ls t c with
 | true=>rw[ZAt]; exact⟨t,ZwW.mpr (by omega),h⟩
 | false =>
  cases q:(ZwG (t+1)).find? λn=>Win w ls n c with
  | none=>rfl
  | some n=>have h1:=List.find?_some q;have h2:=ZwW.mp (Zzn q);rw[ZdO (show n<=t by omega) h1]at h;cases h
theorem ZjD{w:Wk}{ls:List Int}{t:Nat}{c:List Int}:Zbn w ls (t+1) c=match Zbn w ls t c with
  | some k=>some k
  | none=>if Win w ls (t+1) c then some ((t+1:Nat):Int)else none:=by
 unfold Zbn;rw[List.range_succ (n:=t+1),ZzB];cases(ZwG (t+1)).find? λn=>Win w ls n c with
 | some n=>rfl
 | none=>show Zyv _ (Option.or none ([t+1].find? λn=>Win w ls n c))=_;rw[Option.none_or,Zxf];cases Win w ls (t+1) c<;>rfl
theorem ZgB{w:Wk}{ls:List Int}{t:Nat}{c:List Int}{k:Int}(h:Zbn w ls t c=some k):∃n:Nat,k=(n:Int)/\n<=t/\Win w ls n c=true/\∀m,m<n->Win w ls m c=false:=by
 unfold Zbn at h;obtain⟨n,hn,rfl⟩:=ZwE.mp h;refine⟨n,rfl,?_,List.find?_some (p:=λn=>Win w ls n c) hn,λm hm=>?_⟩
 ·have:=ZwW.mp (Zzn hn)
  omega
 ·cases q:Win w ls m c with
  | false=>rfl
  | true =>
   obtain⟨_,as,bs,e,hno⟩:=List.find?_eq_some_iff_append.mp hn;have hmem:m∈ZwG (t+1):=ZwW.mpr (by have:=ZwW.mp (Zzn hn);omega);have hp:(as++n::bs).Pairwise (· < ·):=by rw[<-e]; exact ZAV
   rw[e]at hmem;rcases Zxc.mp hmem with h1 | h1
   ·have:=hno m h1
    rw[q]at this;cases this
   ·rcases Zw0.mp h1 with h2 | h2
    ·omega
    ·have:=(Zxn.mp (List.pairwise_append.mp hp).2.1).1 m h2
     omega
structure ZgN(w:Wk)(ls:List Int)(L:List (List Int))(t:Nat)(M:Tb):Prop where
 look:∀c,Zf M c=if c∈L then Zbn w ls t c else none
theorem ZfG(v:Int)(k:List Int):∀(ms:List (List Int)) (M:Tb),Zf (ms.foldl (λM c=>putD M c v) M) k=if k∈ms then some v else Zf M k
 | [],M=>by simp
 | c::ms,M=>by
  rw[ZyD,ZfG v k ms,Zp6]
  by_cases h1:k∈ms
  ·rw[if_pos h1,if_pos (ZwJ _ h1)]
  ·rw[if_neg h1]
   by_cases h2:c=k
   ·rw[if_pos h2,if_pos (by rw[h2]; exact ZwI ..)]
   ·rw[if_neg h2,if_neg]
    intro h;rcases Zw0.mp h with e | e
    ·exact h2 e.symm
    ·exact h1 e
theorem Zkq(v:Int):∀(ms:List (List Int)) (M:Tb),(ms.foldl (λM c=>putD M c v) M).length<=M.length+ms.length
 | [],M=>ZwM _
 | c::ms,M=>by rw[ZyD,ZwS];have:=Zkq v ms (putD M c v);have:=Zou c v M;omega
def ZeR(w:Wk)(ls:List Int)(L:List (List Int))(M:Tb):List (List Int):=L.filter λc=>!ZM M c&&ZeB w ls c M
theorem ZmF{w:Wk}{ls:List Int}{L:List (List Int)}(hL:ZdH w ls L){t:Nat}{M:Tb}(T:ZgN w ls L t M):ZgN w ls L (t+1) ((ZeR w ls L M).foldl (λM c=>putD M c ((t+1:Nat):Int)) M):=by
 have hhas:∀c∈L,ZM M c=Win w ls t c:=λc hc=>by unfold ZM;rw[T.look,if_pos hc,Zbo]
 refine⟨λc=>?_⟩;rw[ZfG,T.look]
 by_cases hc:c∈L
 ·rw[if_pos hc,if_pos hc,ZjD]
  have hcan:ZeB w ls c M=(ZwG w.deeds.length).any λd=>ZbB w c d&&(ZQ w ls (ZaD w c d)).all λp=>Win w ls t p:=by
   unfold ZeB;apply Zyd.mpr;rw[Zxb,Zxb]
   constructor
   ·rintro ⟨d,hd,hq⟩
    rw[ZwZ]at hq;refine⟨d,hd,?_⟩;rw[ZwZ];refine⟨hq.1,ZwK.mpr λp hp=>?_⟩;rw[<-hhas p (hL c hc d (ZwW.mp hd) hq.1 p hp)];exact ZwK.mp hq.2 p hp
   ·rintro ⟨d,hd,hq⟩
    rw[ZwZ]at hq;refine⟨d,hd,?_⟩;rw[ZwZ];refine⟨hq.1,ZwK.mpr λp hp=>?_⟩;rw[hhas p (hL c hc d (ZwW.mp hd) hq.1 p hp)];exact ZwK.mp hq.2 p hp
  have hmem:c∈ZeR w ls L M↔(Win w ls t c=false/\ZeB w ls c M=true):=by
   unfold ZeR;rw[Zxq,ZwZ,hhas c hc]
   constructor
   ·rintro ⟨_,h1,h2⟩
    exact⟨by simpa using h1,h2⟩
   ·rintro ⟨h1,h2⟩
    exact⟨hc,by simp[h1],h2⟩
  cases hw:Win w ls t c with
  | true =>
   have hs:(Zbn w ls t c).isSome=true:=by rw[Zbo]; exact hw
   obtain⟨k,hk⟩:=Zxt.mp hs;rw[if_neg (λh=>by rw[hw]at hmem; cases(hmem.mp h).1),hk]
  | false =>
   have hs:Zbn w ls t c=none:=by
    have:=Zbo (w:=w) (ls:=ls) (t:=t) (c:=c);rw[hw]at this;cases q:Zbn w ls t c with
    | none=>rfl
    | some k=>rw[q]at this; cases this
   have hth:ZY w c=false:=by
    cases q:ZY w c with
    | false=>rfl
    | true=>have:Win w ls t c=true:=ZdO (Zx3 t) (show Win w ls 0 c=true from q);rw[hw]at this;cases this
   have hwin:Win w ls (t+1) c=ZeB w ls c M:=by rw[hcan];show(ZY w c||_)=_;rw[hth,ZAk]
   rw[hs];dsimp only;rw[hwin];cases hcw:ZeB w ls c M with
   | true=>rw[if_pos (hmem.mpr ⟨hw,hcw⟩),if_pos rfl]
   | false=>rw[if_neg (λh=>by have:=(hmem.mp h).2; rw[hcw]at this; cases this)]; rfl
 ·rw[if_neg hc,if_neg hc,if_neg]
  intro h;exact hc (Zxq.mp h).1
def M0(w:Wk)(L:List (List Int)):Tb:=(L.filter λc=>ZY w c).foldl (λM c=>putD M c 0) []
theorem Zmf{w:Wk}{ls:List Int}{L:List (List Int)}:ZgN w ls L 0 (M0 w L):=by
 refine⟨λc=>?_⟩;unfold M0;rw[ZfG,ZhS];have e:Zbn w ls 0 c=if ZY w c then some 0 else none:=by unfold Zbn;show Zyv _ (([0]:List Nat).find? λn=>Win w ls n c)=_;rw[Zxf];show Zyv _ (match Win w ls 0 c with | true=>some 0 | false=>_)=_;have:Win w ls 0 c=ZY w c:=rfl;rw[this];cases ZY w c<;>rfl
 rw[e]
 by_cases hc:c∈L
 ·rw[if_pos hc]
  cases ht:ZY w c with
  | true=>rw[if_pos (Zxq.mpr ⟨hc,ht⟩)]; rfl
  | false=>rw[if_neg (λh=>by have:=(Zxq.mp h).2; rw[ht]at this; cases this)]; rfl
 ·rw[if_neg hc,if_neg λh=>hc (Zxq.mp h).1]
end HG5
namespace HG5
open PySem HM HG HG4
theorem Zpc(n:Nat):Zbe 1 n=(ZAW 1 n).map dN:=by unfold Zbe;rw[List.range'_eq_map_range,Zw2];refine ZxI λk _=>?_;show Zxv (1+(k:Int))=Zxv ((1+k:Nat):Int);congr 1
def ZpB(w:Wk)(ls:List Int)(n:Nat):Prop:=∀p∈ZQ w ls w.beg,Win w ls n p=true
def Few(w:Wk)(ls:List Int)(d:D):Prop:=(∃n:Nat,d=.int n/\ZpB w ls n/\∀m,m<n->¬ZpB w ls m)\/(d=.none/\∀n,¬ZpB w ls n)
end HG5
namespace HG5
open PySem HM HG
def Znx:SF :=
 (ZJ (eIx (Zo 0) (eC (.int 3))))
def ZbS:List D->Option D:=fnOf 1 1 Znx
def ZoL:SF :=
 (ZJ (eIx (Zo 0) (eC (.int 4))))
def ZbN:List D->Option D:=fnOf 1 1 ZoL
def Zix:SF :=
 (ZJ (ZhB (ZC (ZW (bOf (Zb 1))) Zac (Zne (Zb 0) (bOf (Zn ZbN (Zd (Zb 1) Zm)))))))
def Za7:List D->Option D:=fnOf 2 2 Zix
def Zhi:SF :=
 (ZJ (eOf (ZC (ZW (bOf (Zb 0))) Zac (eIx (Zo 0) (eC (.int 1))))))
def ZF:List D->Option D:=fnOf 1 1 Zhi
def Zby(ap:AP):SF :=
 (Zih 3 (Zhs ZF (Zd (eIx (Zo 5) (eC (.int 1))) Zm)))
def Za2(ap:AP):SF :=
 (Zy (ZrS 4 3)
  (sIf (tV (Zdg (Zb 4) (Zo 2))) (Zy (ZfW 2 (Zb 4) (Zfq ap 1 (Zd (Zb 4) Zm)))
  (ZaC 5 (ZW (bOf (ZaY (Zo 2) (Zb 4)))) (Zby ap))) Za9))
def Zcv(ap:AP):SF :=
 (Zy (ZT 2 fDt)
  (Zy (ZT 3 (Zib (Zo 0)))
  (Zy (ZmZ 100000 (tV (op2 gGt (ZbF (Zo 3)) (eC (.int 0)))) (Za2 ap))
  (Zfo 2 (ZJ (Zb 2))))))
def Zbg(ap:AP):List D->Option D:=fnOf 2 6 (Zcv ap)
def Zep(ap:AP):SF :=
 (Zy (ZT 3 (ZC (ZW (bOf (Zb 0))) Zac (Zfq ap 3 (Zd (Zb 0) (Zd (Zb 2) Zm)))))
  (Zfo 3 (ZJ (ZeT (ZC (ZW (bOf (Zb 3))) (tV (op2 ZgC (Zb 0) (eC .none))) (Zb 0))))))
def Zbj(ap:AP):List D->Option D:=fnOf 3 4 (Zep ap)
def ZR(ap:AP):SF :=
 (sIf (tV (Zdg (Zb 4) (Zo 1))) (Zy (Zan 5 (Zn (Zbj ap) (Zd (ZaY (Zo 0) (Zb 4)) (Zd (Zb 1) (Zd (Zb 2) Zm)))))
  (sIf (tV (op2 ZgC (Zb 5) (eC .none))) (ZfW 3 (Zb 4) (Zb 5)) Za9)) Za9)
def ZaV(ap:AP):List D->Option (List (List Ky × D)):=newOf 3 6
 (ZiY (ZT 3 fDt)
 (ZiY (Zd8 0 (ZaC 4 (ZaK 0) (ZR ap)))
 (Zmu 3)))
def ZcB(ap:AP):SF :=
 (ZfW 3 (Zb 6) (Zb 4))
def ZcC(ap:AP):SF :=
 (Zy (Zfo 5 (ZaC 6 (ZW (bOf (Zb 5))) (ZcB ap)))
  (Zy (ZT 7 (ZhJ (ZaV ap) (Zd (Zb 1) (Zd (Zpv (Zo 3)) (Zd (Zb 2) Zm)))))
  (Zy (Zfo 7 (Zd8 7 (Zan 4 (ZeT (ZC (ZaK 7) Zac (ZaY (Zo 8) (Zb 0)))))))
  (Zfo 7 (Zd8 7 (ZT 5 (ZC (ZaK 7) (tV (op2 gEq (ZaY (Zo 8) (Zb 0)) (Zb 5))) (Zb 0))))))))
def Zd5(ap:AP):SF :=
 (Zy (ZT 3 fDt)
  (Zy (Zan 4 (eC (.int 0)))
  (Zy (Zd8 1 (ZT 5 (ZC (ZaK 1) (tV (Zn Za7 (Zd (Zb 1) (Zd (Zb 0) Zm)))) (Zb 0))))
  (Zy (ZmZ 100000 (tV (op2 gGt (ZbF (Zo 5)) (eC (.int 0)))) (ZcC ap))
  (Zfo 3 (ZJ (Zb 3)))))))
def Zcp(ap:AP):List D->Option D:=fnOf 3 8 (Zd5 ap)
def Zc5:SF :=
 (Zy (ZT 2 (ZC (ZW (bOf (Zn ZF (Zd (Zb 0) Zm)))) (tV (Zl7 (Zb 0) (Zo 2))) (ZaY (Zo 2) (Zb 0))))
  (ZJ (eIf (tV (op2 gEq (ZbF (Zo 2)) (ZbF (Zo 0)))) (ZeP (Zo 2)) (eC .none))))
def Z0:List D->Option D:=fnOf 2 3 Zc5
def Zhj:SF :=
 (ZJ (eOf (ZC (ZW (bOf (Zn ZbH (Zd (Zb 0) (Zd (Zb 2) Zm))))) Zac (ZdK (Zd (Zb 0) (Zd (Zn ZaI (Zd (Zb 1) (Zd (Zb 2) (Zd (Zn Zcy (Zd (Zb 1) (Zd (Zb 3) (Zd (Zb 0) Zm)))) Zm)))) Zm))))))
def ZaB:List D->Option D:=fnOf 3 3 Zhj
def ZdQ(ap:AP):SF :=
 (ZJ (ZgU (Zbg ap) 1 [0,1] (Zn ZF (Zd (Zn ZaI (Zd (Zb 0) (Zd (Zb 1) (Zd (Zb 2) Zm)))) Zm))))
def Zb0(ap:AP):List D->Option D:=fnOf 3 3 (ZdQ ap)
def ZfI:SF :=
 (Zy (Zan 2 (Zn Z0 (Zd (eIx (Zo 0) (eC (.int 1))) (Zd (Zb 1) Zm))))
  (ZJ (eIf (tV (op2 ZpC (Zb 2) (eC .none))) (eC .none) (op2 ZaO (Zb 2) (eC (.int 1))))))
def Zcq:List D->Option D:=fnOf 2 3 ZfI
def Ze1(ap:AP):SF :=
 (ZJ (Zn (Zcp ap) (Zd (Zb 0) (Zd (Zb 1) (Zd (eC (fnD 0 [])) Zm)))))
def ZcD(ap:AP):List D->Option D:=fnOf 2 2 (Ze1 ap)
def Zhk(ap:AP):SF :=
 (Zy (Zlp (Zn ZbM (Zd (Zb 0) Zm)))
  (Zy (Zlp (Zn Za1 (Zd (Zb 0) (Zd (Zb 1) Zm))))
  (Zy (Zan 2 (Zn ZbS (Zd (Zb 0) Zm)))
  (Zy (Zan 3 (Zn (ZcD ap) (Zd (Zb 0) (Zd (Zn (Zb0 ap) (Zd (Zb 0) (Zd (Zb 1) (Zd (Zb 2) Zm)))) Zm))))
  (ZJ (Zn Z0 (Zd (Zn ZaI (Zd (Zb 0) (Zd (Zb 1) (Zd (Zb 2) Zm)))) (Zd (Zb 3) Zm))))))))
def Zde(ap:AP):List D->Option D:=fnOf 2 4 (Zhk ap)
end HG5
namespace HG5
open PySem HM HG HG4
theorem ZwA(w:Wk):Zey (.pl w.d)=some [Zxv w.many,.tuple (w.deeds.map Zs),.tuple (w.looks.map tupI),tupI w.beg,tupI w.goal]:=rfl
theorem ZiC(w:Wk):ZbS [w.d]=some (tupI w.beg):=rfl
theorem Zjj(w:Wk):ZbN [w.d]=some (tupI w.goal):=rfl
theorem ZrD{α:Type}(xs:List α)(p:α->Bool):Zem (xs.map λx=>Zx5 (p x))=some (xs.map p):=by
 have:=ZeQ (xs.map p)
 rwa [Zw2]at this
theorem ZnY{w:Wk}{c:List Int}(hc:c.length<1000):Za7 [w.d,tupI c]=some (.bool (ZY w c)):=by
 have hb:c.length<1000000:=by omega
 have e:∀r:HM.Env,r[0]?=some (some (.pl w.d))->Zav Zac (Zne (Zb 0) (bOf (Zn ZbN (Zd (Zb 1) Zm)))) r (c.map dI)=some (c.map λs=>Zx5 (w.goal.contains s)):=λr r0=>by
  rw[Za6 dI (λs=>Zx5 (w.goal.contains s))]
  ·intro s _
   simp[r0,Zjj,ZuS,ZdU,-List.contains_eq_mem]
 simp[Za7,Zix,hb,e,ZrD,ZY,-List.contains_eq_mem]
theorem Zfg(g:Gs)(h:g.length<1000000):ZF [.list (g.map Za8)]=some (.list ((g.map (·.2)).map tupI)):=by
 have e:∀r:HM.Env,Zav Zac (eIx (Zo 0) (eC (.int 1))) r (g.map Za8)=some ((g.map (·.2)).map tupI):=λr=>by
  rw[Za6 Za8 (λp=>tupI p.2),Zw2]
  ·rfl
  ·intro p _
   rfl
 simp[ZF,Zhi,h,e]
def Zo4(w:Wk)(ls c:List Int)(d:Int):D:=.tuple [dI d,.list ((ZbE w ls (ZaD w c d)).map Za8)]
def Zlq(w:Wk)(ls c:List Int):D:=.list ((doV w c).map (Zo4 w ls c))
theorem split_len{w:Wk}{ls c:List Int}:(ZbE w ls c).length<=c.length:=by unfold ZbE;rw[ZwD,(ZdP _).length_eq,ZwD];exact ZpE _ _ _ (Zge (ZH w ls) c)
theorem ZjR(w:Wk)(c:List Int):(doV w c).length<=w.deeds.length:=by
 unfold doV;rw[ZwD];have:=ZxL (λ(d:Nat)=>ZbB w c (d:Int)) (ZwG w.deeds.length)
 rwa [ZxR]at this
theorem ZoG{w:Wk}{c:List Int}{d:Nat}(hd:d<w.deeds.length)(hc:ZbB w c d=true):(d:Int)∈doV w c:=by unfold doV;exact ZwN.mpr ⟨d,Zxq.mpr ⟨ZwW.mpr hd,hc⟩,rfl⟩
section
variable{w:Wk}(hv:Wk.V w){ls:List Int}(hl:Cr w.looks.length ls)
include hv hl
theorem Znn{c:List Int}(hc:Cr w.many c):ZaB [w.d,tupI ls,tupI c]=some (Zlq w ls c):=by
 have hdo:=Zlj hv hc;have hb:(doV w c).length<1000000:=by have:=ZjR w c; have:=hv.d2; omega
 have e:∀r:HM.Env,r[0]?=some (some (.pl w.d))->r[1]?=some (some (.pl (tupI ls)))->r[2]?=some (some (.pl (tupI c))) ->
   Zav Zac (ZdK (Zd (Zb 0) (Zd (Zn ZaI (Zd (Zb 1) (Zd (Zb 2) (Zd (Zn Zcy (Zd (Zb 1) (Zd (Zb 3) (Zd (Zb 0) Zm)))) Zm)))) Zm))) r ((doV w c).map dI)=some ((doV w c).map (Zo4 w ls c)):=λr r0 r1 r2=>by
  rw[Za6 dI (Zo4 w ls c)];intro d hd;obtain⟨d0,d1,_⟩:=ZdX hd;have h1:=Zqn hv hc d0 d1;have h2:=ZhT hv hl (Zdh hv hc d0 d1);simp[r0,r1,r2,h1,h2,Zo4]
 simp[ZaB,Zhj,hdo,hb,e,Zlq]
end
end HG5
namespace HG5
open PySem HM HG HG4
abbrev Wy:=D × Gs
def wyD(y:Wy):D:=.tuple [y.1,.list (y.2.map Za8)]
def wyP(y:Wy):List (List Int):=y.2.map (·.2)
abbrev Wf:=List Int->List Wy
inductive ZjZ(wf:Wf)(B:List (List Int)):List Int->Prop where
 | beg {p:List Int} (h:p∈B):ZjZ wf B p
 | step {c p:List Int} {y:Wy} (r:ZjZ wf B c) (hy:y∈wf c) (h:p∈wyP y):ZjZ wf B p
structure Zf4(wf:Wf)(Ok:List Int->Prop)(B C W:List (List Int)):Prop where
 nd:C.Nodup
 cr:∀c∈C,Ok c
 wr:∀c∈W,Ok c
 rc:∀c∈C,ZjZ wf B c
 rw:∀c∈W,ZjZ wf B c
 cl:∀c∈C,∀y∈wf c,∀p∈wyP y,p∈C\/p∈W
 bg:∀p∈B,p∈C\/p∈W
def Zr(wf:Wf)(C:List (List Int)):List (List Ky × D):=C.map λc=>(Zag c,.list ((wf c).map wyD))
theorem ZhH(wf:Wf)(C:List (List Int))(k:List Int):Zf (Zr wf C) (Zag k)=if k∈C then some (.list ((wf k).map wyD))else none:=by
 unfold Zf Zr
 induction C with
 | nil=>rfl
 | cons c C ih =>
  rw[ZwL,Zxf]
  by_cases h:c=k
  ·subst h
   rw[if_pos (ZwI ..)];simp
  ·have h':decide ((Zag c,(PyData.list ((wf c).map wyD))).1=Zag k)=false:=decide_eq_false λe=>h (Zfl e)
   rw[h'];dsimp only;rw[ih]
   by_cases q:k∈C
   ·rw[if_pos q,if_pos (ZwJ _ q)]
   ·rw[if_neg q,if_neg λz=>by
     rcases Zw0.mp z with e | e
     ·exact h e.symm
     ·exact q e]
theorem ZrA{wf:Wf}{C:List (List Int)}{k:List Int}(h:k ∉ C):putD (Zr wf C) (Zag k) (.list ((wf k).map wyD))=Zr wf (C++[k]):=by
 unfold putD;rw[if_neg]
 ·unfold Zr
  rw[Zxd];rfl
 ·intro z
  obtain⟨p,hp,e⟩:=Zxb.mp z;unfold Zr at hp;obtain⟨c,hc,rfl⟩:=ZwN.mp hp;have e:=Zfl (of_decide_eq_true e);subst e;exact h hc
theorem Zkz(wf:Wf)(L:List (List Int)):((Zr wf L).map λp=>Zxz (p.1.map Zai))=L.map tupI:=by unfold Zr;rw[Zw2];refine ZxI λc _=>?_;show Zxz ((c.map ZxJ).map Zai)=Zxz (c.map dI);rw[Zw2];rfl
def Zkj(wf:Wf)(c:List Int):List (List Int):=(wf c).flatMap wyP
theorem Zf4.old{wf:Wf}{Ok:List Int->Prop}{B C V:List (List Int)}{p:List Int}(I:Zf4 wf Ok B C (V++[p]))(hp:p∈C):Zf4 wf Ok B C V:=by
 have key:∀q,q∈C\/q∈V++[p]->q∈C\/q∈V:=λq h=>by
  rcases h with h | h
  ·exact .inl h
  ·rcases Zxc.mp h with h | h
   ·exact .inr h
   ·rw[ZwT.mp h]; exact .inl hp
 exact⟨I.nd,I.cr,λc h=>I.wr c (ZxE _ h),I.rc,λc h=>I.rw c (ZxE _ h),λc hc y hy q hq=>key q (I.cl c hc y hy q hq),λq hq=>key q (I.bg q hq)⟩
structure Zpw(wf:Wf)(Ok:List Int->Prop):Prop where
 ok:∀c,Ok c->∀y∈wf c,∀p∈wyP y,Ok p
 ys:∀c,Ok c->(wf c).length<=10
 ps:∀c,Ok c->∀y∈wf c,y.2.length<=8
 cs:∀C:List (List Int),C.Nodup->(∀c∈C,Ok c)->C.length<=128
theorem Zf4.new{wf:Wf}{Ok:List Int->Prop}(O:Zpw wf Ok){B C V:List (List Int)}{p:List Int}(I:Zf4 wf Ok B C (V++[p]))(hp:p ∉ C):Zf4 wf Ok B (C++[p]) (V++Zkj wf p):=by
 have hpc:=I.wr p (Zw7 _ (ZwT.mpr rfl));have hpr:=I.rw p (Zw7 _ (ZwT.mpr rfl));have key:∀q,q∈C\/q∈V++[p]->q∈C++[p]\/q∈V++Zkj wf p:=λq h=>by
  rcases h with h | h
  ·exact .inl (ZxE _ h)
  ·rcases Zxc.mp h with h | h
   ·exact .inr (ZxE _ h)
   ·exact .inl (Zw7 _ h)
 refine⟨?_,λc h=>?_,λc h=>?_,λc h=>?_,λc h=>?_,λc h y hy q hq=>?_,λq hq=>key q (I.bg q hq)⟩
 ·rw[Zy8]
  refine⟨I.nd,by simp,λx hx y hy e=>?_⟩;rw[ZwT.mp hy]at e;exact hp (e▸hx)
 ·rcases Zxc.mp h with h | h
  ·exact I.cr c h
  ·rw[ZwT.mp h]; exact hpc
 ·rcases Zxc.mp h with h | h
  ·exact I.wr c (ZxE _ h)
  ·obtain⟨y,hy,hq⟩:=ZyR.mp h
   exact O.ok p hpc y hy c hq
 ·rcases Zxc.mp h with h | h
  ·exact I.rc c h
  ·rw[ZwT.mp h]; exact hpr
 ·rcases Zxc.mp h with h | h
  ·exact I.rw c (ZxE _ h)
  ·obtain⟨y,hy,hq⟩:=ZyR.mp h
   exact .step hpr hy hq
 ·rcases Zxc.mp h with h | h
  ·exact key q (I.cl c h y hy q hq)
  ·rw[ZwT.mp h]at hy
   exact .inr (Zw7 _ (ZyR.mpr ⟨y,hy,hq⟩))
theorem Zr3{wf:Wf}{Ok:List Int->Prop}(O:Zpw wf Ok){c:List Int}(hc:Ok c):(Zkj wf c).length<=80:=by
 have key:∀ys:List Wy,(∀y∈ys,y∈wf c)->(ys.flatMap wyP).length<=8*ys.length:=by
  intro ys
  induction ys with
  | nil=>intro _; exact ZwM 0
  | cons y ys ih =>
   intro h;rw[List.flatMap_cons,ZwY,ZwS];have h1:=ih λx hx=>h x (ZwJ _ hx);have h2:=O.ps c hc y (h y (ZwI ..));have h3:(wyP y).length=y.2.length:=by unfold wyP; rw[ZwD]
   omega
 have h1:=key (wf c) λ_ h=>h;have h2:=O.ys c hc;unfold Zkj;omega
theorem Zql(ap:AP)(e0 e1 e2 e4:Option B):∀(ys:List Wy) (W:List (List Int)) (o:Option B),(∀y∈ys,y.2.length<=8)->W.length+8*ys.length<900000 ->
  ∃o',Zas 5 (Zby ap) (ys.map wyD) [e0,e1,e2,some (.ol (W.map tupI)),e4,o]=some (.nx [e0,e1,e2,some (.ol ((W++ys.flatMap wyP).map tupI)),e4,o'])
 | [],W,o,_,_=>⟨o,by rw[List.flatMap_nil,Zxe]; rfl⟩
 | y::ys,W,o,hds,hlen=>by
  rw[ZwS]at hlen;have hb:=hds y (ZwI ..);have hci:=Zfg y.2 (by omega);have hpl:(wyP y).length<=8:=by unfold wyP; rw[ZwD]; exact hb
  have body:Zby ap [e0,e1,e2,some (.ol (W.map tupI)),e4,some (.pl (wyD y))]=some (.nx [e0,e1,e2,some (.ol ((W++wyP y).map tupI)),e4,some (.pl (wyD y))]):=by
   have h1:Zhs ZF (Zd (eIx (Zo 5) (eC (.int 1))) Zm) [e0,e1,e2,some (.ol (W.map tupI)),e4,some (.pl (wyD y))]=some (.ol ((wyP y).map tupI)):=by unfold Zhs;show(match ZF [.list (y.2.map Za8)]with | some (.list ys)=>some (B.ol ys) | _=>none)=_;rw[hci];rfl
   unfold Zby Zih;rw[h1];show(if _ then _ else _)=_;rw[if_pos (by rw[ZwD,ZwD]; show _<1000000; omega),Zxd];rfl
  obtain⟨o',ih⟩:=Zql ap e0 e1 e2 e4 ys (W++wyP y) (some (.pl (wyD y))) (λx hx=>hds x (ZwJ _ hx)) (by rw[ZwY]; omega);refine⟨o',?_⟩;rw[List.flatMap_cons,<-Zyi,<-ih,ZwL];show(match Zby ap [e0,e1,e2,some (.ol (W.map tupI)),e4,some (.pl (wyD y))]with | some (.nx r')=>_ | some (.ct r')=>_ | some (.bk r')=>_ | some (.rt d)=>_ | none=>_)=_;rw[body]
theorem ZiD(wf:Wf)(C:List (List Int))(p:List Int)(r:HM.Env)(i j:Nat)(h1:r[i]?=some (some (.pl (tupI p))))(h2:r[j]?=some (some (.ot (Zr wf C)))):tV (Zdg (Zb i) (Zo j)) r=some (!decide (p∈C)):=by
 have hk:Za5 (tupI p)=some (Zag p):=ZbT p;have hlk:=ZhH wf C p
 by_cases hp:p∈C
 ·rw[if_pos hp]at hlk
  simp[h1,h2,hk,hlk,hp]
 ·rw[if_neg hp]at hlk
  simp[h1,h2,hk,hlk,hp]
theorem Zom(t:Nat)(cs:List D):Zka (fnD t cs)=some (t,cs):=rfl
section
variable{ap:AP}{wf:Wf}{Ok:List Int->Prop}(O:Zpw wf Ok){t:Nat}{cs:List D}(ha:∀c,Ok c->ap t cs [tupI c]=some (.list ((wf c).map wyD)))
include O ha
omit ha O in
theorem ZrE{C V:List (List Int)}{p:List Int}(e0 e1 o4 o5:Option B)(hp:p∈C) :
  Za2 ap [e0,e1,some (.ot (Zr wf C)),some (.ol ((V++[p]).map tupI)),o4,o5]=some (.nx [e0,e1,some (.ot (Zr wf C)),some (.ol (V.map tupI)),some (.pl (tupI p)),o5]):=by
 unfold Za2;refine Z7 (P:=λq=>q=_) (r':=[e0,e1,some (.ot (Zr wf C)),some (.ol (V.map tupI)),some (.pl (tupI p)),o5]) ?_ ?_
 ·rw[Zxd]
  simp
 ·have ht:=ZiD wf C p [e0,e1,some (.ot (Zr wf C)),some (.ol (V.map tupI)),some (.pl (tupI p)),o5] 4 2 rfl rfl
  rw[decide_eq_true hp]at ht;unfold sIf;rw[ht];rfl
theorem Zse{C V:List (List Int)}{p:List Int}(e0 o4 o5:Option B)(hp:p ∉ C)(hc:Ok p)(hC:C.length<1000)(hV:V.length<100000) :
  ∃o5',Za2 ap [e0,some (.pl (fnD t cs)),some (.ot (Zr wf C)),some (.ol ((V++[p]).map tupI)),o4,o5]=some (.nx [e0,some (.pl (fnD t cs)),some (.ot (Zr wf (C++[p]))),some (.ol ((V++Zkj wf p).map tupI)),some (.pl (tupI p)),o5']):=by
 have hdl:=O.ys p hc;obtain⟨o5',go⟩:=Zql ap e0 (some (.pl (fnD t cs))) (some (.ot (Zr wf (C++[p])))) (some (.pl (tupI p))) (wf p) V o5 (λy hy=>O.ps p hc y hy) (by omega);refine⟨o5',?_⟩;unfold Za2;refine Z7 (P:=λq=>q=_) (r':=[e0,some (.pl (fnD t cs)),some (.ot (Zr wf C)),some (.ol (V.map tupI)),some (.pl (tupI p)),o5]) ?_ ?_
 ·rw[Zxd]
  simp
 ·have ht:=ZiD wf C p [e0,some (.pl (fnD t cs)),some (.ot (Zr wf C)),some (.ol (V.map tupI)),some (.pl (tupI p)),o5] 4 2 rfl rfl
  rw[decide_eq_false hp]at ht;unfold sIf;rw[ht];show Zy _ _ _=_;have hk:Za5 (tupI p)=some (Zag p):=ZbT p;have hww:=ha p hc;have hcl:(Zr wf C).length<1000000:=by unfold Zr; rw[ZwD]; omega
  refine Z7 (P:=λq=>q=_) (r':=[e0,some (.pl (fnD t cs)),some (.ot (Zr wf (C++[p]))),some (.ol (V.map tupI)),some (.pl (tupI p)),o5]) ?_ ?_
  ·rw[<-ZrA hp]
   have hv:Zfq ap 1 (Zd (Zb 4) Zm) [e0,some (.pl (fnD t cs)),some (.ot (Zr wf C)),some (.ol (V.map tupI)),some (.pl (tupI p)),o5]=some (.list ((wf p).map wyD)):=by unfold Zfq;show(match Zka (fnD t cs)with | some (t,cs)=>_ | none=>none)=_;rw[Zom];exact hww
   unfold ZfW;rw[hv];show(match Za5 (tupI p)with | some y=>_ | none=>none)=_;rw[hk];dsimp only;rw[if_pos (show _<big from hcl)];rfl
  ·have hlk:=ZhH wf (C++[p]) p
   rw[if_pos (Zw7 _ (ZwT.mpr rfl))]at hlk;have hi:ZW (bOf (ZaY (Zo 2) (Zb 4))) [e0,some (.pl (fnD t cs)),some (.ot (Zr wf (C++[p]))),some (.ol (V.map tupI)),some (.pl (tupI p)),o5]=some ((wf p).map wyD):=by simp[hk,hlk]
   unfold ZaC;rw[hi];dsimp only;rw[if_pos (by rw[ZwD]; show _<1000000; omega)];exact go
theorem ZdZ(B:List (List Int))(e0:Option HM.B):∀(fuel:Nat) (C W:List (List Int)) (o4 o5:Option HM.B),Zf4 wf Ok B C W->(128-C.length)*81+W.length<fuel->(128-C.length)*81+W.length<60000 ->
  ∃C' o4' o5',Zbh (tV (op2 gGt (ZbF (Zo 3)) (eC (.int 0)))) (Za2 ap) fuel [e0,some (.pl (fnD t cs)),some (.ot (Zr wf C)),some (.ol (W.map tupI)),o4,o5]=some (.nx [e0,some (.pl (fnD t cs)),some (.ot (Zr wf C')),some (.ol []),o4',o5'])/\Zf4 wf Ok B C' []
 | 0,C,W,o4,o5,I,h,_=>by omega
 | fuel+1,C,W,o4,o5,I,h,hW=>by
  have hlen:=O.cs C I.nd I.cr
  by_cases hw:W=[]
  ·subst hw
   refine⟨C,o4,o5,?_,I⟩;unfold Zbh;have ht:(tV (op2 gGt (ZbF (Zo 3)) (eC (.int 0)))) [e0,some (.pl (fnD t cs)),some (.ot (Zr wf C)),some (.ol (([]:List (List Int)).map tupI)),o4,o5]=some false:=by simp
   rw[ht];rfl
  ·obtain⟨V,p,rfl⟩:∃V p,W=V++[p]:=⟨W.dropLast,W.getLast hw,(List.dropLast_concat_getLast hw).symm⟩
   rw[ZwY,ZxT]at h hW;have ht:(tV (op2 gGt (ZbF (Zo 3)) (eC (.int 0)))) [e0,some (.pl (fnD t cs)),some (.ot (Zr wf C)),some (.ol ((V++[p]).map tupI)),o4,o5]=some true:=by simp
   by_cases hp:p∈C
   ·obtain⟨C',o4',o5',g,J⟩:=ZdZ B e0 fuel C V (some (.pl (tupI p))) o5 (I.old hp) (by omega) (by omega)
    refine⟨C',o4',o5',?_,J⟩;unfold Zbh;rw[ht];dsimp only;rw[ZrE e0 _ o4 o5 hp];exact g
   ·have hpc:=I.wr p (Zw7 _ (ZwT.mpr rfl))
    have J0:=I.new O hp;have hl2:=O.cs _ J0.nd J0.cr;rw[ZwY,ZxT]at hl2;have hbl:=Zr3 O hpc;obtain⟨q5,e⟩:=Zse O ha (V:=V) e0 o4 o5 hp hpc (by omega) (by omega);obtain⟨C',o4',o5',g,J⟩:=ZdZ B e0 fuel (C++[p]) (V++Zkj wf p) (some (.pl (tupI p))) q5 J0 (by rw[ZwY,ZwY,ZxT]; omega) (by rw[ZwY,ZwY,ZxT]; omega);refine⟨C',o4',o5',?_,J⟩;unfold Zbh;rw[ht];dsimp only;rw[e];exact g
theorem ZpJ{B:List (List Int)}(hB:∀c∈B,Ok c)(hl:B.length<=100):∃L,Zbg ap [.list (B.map tupI),fnD t cs]=some (.dict (Zi (Zr wf L)))/\Zf4 wf Ok B L []:=by
 have I0:Zf4 wf Ok B [] B:=⟨.nil,λc h=>(by simp at h),hB,λc h=>(by simp at h),λc h=>.beg h,λc h=>(by simp at h),λp h=>.inr h⟩;obtain⟨L,o4,o5,g,J⟩:=ZdZ O ha B (some (.pl (.list (B.map tupI)))) 100000 [] B none none I0 (by simp; omega) (by simp; omega);refine⟨L,?_,J⟩;show ZaL (Zcv ap [some (.pl (.list (B.map tupI))),some (.pl (fnD t cs)),none,none,none,none])=_;have e:Zcv ap [some (.pl (.list (B.map tupI))),some (.pl (fnD t cs)),none,none,none,none]=some (.rt (.dict (Zi (Zr wf L)))):=by unfold Zcv;refine Z7 (P:=λq=>q=_) (r':=[some (.pl (.list (B.map tupI))),some (.pl (fnD t cs)),some (.ot (Zr wf [])),none,none,none]) rfl ?_;refine Z7 (P:=λq=>q=_) (r':=[some (.pl (.list (B.map tupI))),some (.pl (fnD t cs)),some (.ot (Zr wf [])),some (.ol (B.map tupI)),none,none]) rfl ?_;refine Z7 (P:=λq=>q=_) g ?_;simp
 rw[e];rfl
end
theorem Zdk(n:Nat)(p:List Int):noF (n+1) (tupI p)=true:=by show(p.map dI).all (noF n)=true;rw[List.all_map];exact ZwK.mpr λx _=>by cases n<;>rfl
theorem ZsF(n:Nat)(i:Int):noF n (.int i)=true:=by cases n<;>rfl
theorem Zdf{n:Nat}{ds:List D}(h:∀d∈ds,noF n d=true):noF (n+1) (.tuple ds)=true:=ZwK.mpr h
theorem ZmU{n:Nat}{ds:List D}(h:∀d∈ds,noF n d=true):noF (n+1) (.list ds)=true:=ZwK.mpr h
theorem Zrt(n:Nat)(p:List Int × List Int):noF (n+2) (Za8 p)=true:=Zdf λd hd=>by
 rcases Zw0.mp hd with e | hd
 ·subst e; exact Zdk n _
 ·rw[ZwT.mp hd]; exact Zdk n _
theorem ZtW{n:Nat}{y:Wy}(h:noF (n+3) y.1=true):noF (n+4) (wyD y)=true:=Zdf λd hd=>by
 rcases Zw0.mp hd with e | hd
 ·subst e; exact h
 ·rw[ZwT.mp hd]
  exact ZmU λd hd=>by obtain⟨p,_,rfl⟩:=ZwN.mp hd;exact Zrt n p
theorem Zvr{wf:Wf}{n:Nat}{L:List (List Int)}(h:∀c∈L,∀y∈wf c,noF (n+3) y.1=true):noF (n+6) (.dict (Zi (Zr wf L)))=true:=by show(Zi (Zr wf L)).all _=true;refine ZwK.mpr λp hp=>?_;unfold Zi Zr at hp;rw[Zw2]at hp;obtain⟨c,hc,rfl⟩:=ZwN.mp hp;show noF (n+5) (.list ((wf c).map wyD))=true;exact ZmU λd hd=>by obtain⟨y,hy,rfl⟩:=ZwN.mp hd;exact ZtW (h c hc y hy)
theorem Zvi(w:Wk):noF 20 w.d=true:=by
 refine Zdf λd hd=>?_;have h:∀x:List (List Int),∀d∈x.map tupI,noF 17 d=true:=λx d hd=>by obtain⟨p,_,rfl⟩:=ZwN.mp hd;exact Zdk 16 p
 have hd:=Zw0.mp hd;rcases hd with e | hd
 ·subst e; rfl
 rcases Zw0.mp hd with e | hd
 ·subst e
  exact Zdf λd hd=>by obtain⟨x,_,rfl⟩:=ZwN.mp hd;exact Zdf (h x)
 rcases Zw0.mp hd with e | hd
 ·subst e
  exact Zdf λd hd=>by obtain⟨x,_,rfl⟩:=ZwN.mp hd;exact Zdk 17 x
 rcases Zw0.mp hd with e | hd
 ·subst e; exact Zdk 18 _
 ·rw[ZwT.mp hd]; exact Zdk 18 _
end HG5
namespace HG5
open PySem HM HG HG4
def oI:Option Int->D
 | some k=>.int k
 | none=>.none
abbrev Cb:=Wy->Tb->Option Int
def Zb4(cb:Cb)(ys:List Wy)(M:Tb):Option Int:=(ys.filterMap λy=>cb y M).min?
def Zat(wf:Wf)(cb:Cb)(L:List (List Int))(M:Tb):Tb:=L.filterMap λc=>if ZM M c then none else(Zb4 cb (wf c) M).map λk=>(c,k)
def ZbG(T:Tb):Option Int:=(T.map (·.2)).min?
def ZeA(T:Tb):List (List Int):=(T.filter λp=>some p.2==ZbG T).map (·.1)
def ZaZ(found:List (List Int))(k:Int)(M:Tb):Tb:=found.foldl (λM c=>putD M c k) M
inductive ZiU(wf:Wf)(cb:Cb)(L:List (List Int)):Tb->Option Int->List (List Int)->Tb->Prop where
 | done {M:Tb} {k:Option Int}:ZiU wf cb L M k [] M
 | step {M R:Tb} {k:Int} {found:List (List Int)} (hf:found≠[]) (h:ZiU wf cb L (ZaZ found k M) (ZbG (Zat wf cb L (ZaZ found k M))) (ZeA (Zat wf cb L (ZaZ found k M))) R):ZiU wf cb L M (some k) found R
theorem Znd:∀os:List (Option Int),Zax ((os.filter Zzj).map oI)=some (os.filterMap id)
 | []=>rfl
 | none::os=>Znd os
 | some k::os=>by show(Zax ((os.filter Zzj).map oI)).map (k::·)=_;rw[Znd os];rfl
theorem Zlf{ap:AP}{t:Nat}{cs:List D}{cb:Cb}{ys:List Wy}{M:Tb}(hy:ys.length<1000)(ha:∀y∈ys,ap t cs [wyD y,.dict (Zi (encM M))]=some (oI (cb y M))) :
  Zbj ap [.list (ys.map wyD),.dict (Zi (encM M)),fnD t cs]=some (oI (Zb4 cb ys M)):=by
 show ZaL (Zep ap [some (.pl (.list (ys.map wyD))),some (.pl (.dict (Zi (encM M)))),some (.pl (fnD t cs)),none])=_;have hb:ys.length<big:=by show _<1000000; omega
 have e1:Zav Zac (Zfq ap 3 (Zd (Zb 0) (Zd (Zb 2) Zm))) [some (.pl (.list (ys.map wyD))),some (.pl (.dict (Zi (encM M)))),some (.pl (fnD t cs)),none] (ys.map wyD)=some ((ys.map λy=>cb y M).map oI):=by
  rw[Za6 wyD (λy=>oI (cb y M)),Zw2]
  ·rfl
  ·intro y h
   show(match Zka (fnD t cs)with | some (t,cs)=>_ | none=>none)=_;rw[Zom];exact ha y h
 have e2:Zav (tV (op2 ZgC (Zb 0) (eC .none))) (Zb 0) [some (.pl (.list (ys.map wyD))),some (.pl (.dict (Zi (encM M)))),some (.pl (fnD t cs)),some (.pl (.list ((ys.map λy=>cb y M).map oI)))] ((ys.map λy=>cb y M).map oI)=some (((ys.map λy=>cb y M).filter Zzj).map oI):=by
  rw[Zcg oI Zzj oI]
  ·intro o _
   cases o<;>rfl
  ·intro o _ _
   rfl
 unfold Zep;refine Z7 (P:=λq=>ZaL q=_) (r':=[some (.pl (.list (ys.map wyD))),some (.pl (.dict (Zi (encM M)))),some (.pl (fnD t cs)),some (.ol ((ys.map λy=>cb y M).map oI))]) ?_ ?_
 ·unfold ZT ZC
  show Zyv _ (if(ys.map wyD).length<big then _ else _)=_;rw[if_pos (by rw[ZwD]; exact hb),e1];rfl
 ·show ZaL (Zyv Out.rt (ZeT _ [some (.pl (.list (ys.map wyD))),some (.pl (.dict (Zi (encM M)))),some (.pl (fnD t cs)),some (.pl (.list ((ys.map λy=>cb y M).map oI)))]))=_
  have e3:ZC (ZW (bOf (Zb 3))) (tV (op2 ZgC (Zb 0) (eC .none))) (Zb 0) [some (.pl (.list (ys.map wyD))),some (.pl (.dict (Zi (encM M)))),some (.pl (fnD t cs)),some (.pl (.list ((ys.map λy=>cb y M).map oI)))]=some (.ol (((ys.map λy=>cb y M).filter Zzj).map oI)):=by unfold ZC;show(if((ys.map λy=>cb y M).map oI).length<big then _ else none)=_;rw[if_pos (by rw[ZwD,ZwD]; exact hb),e2];rfl
  unfold ZeT;rw[e3];show ZaL (Zyv Out.rt (match Zax (((ys.map λy=>cb y M).filter Zzj).map oI)with | some ns=>some (match ns.min? with | some i=>Zxv i | none=>.none) | none=>none))=_;rw[Znd];show some (match((ys.map λy=>cb y M).filterMap id).min? with | some i=>Zxv i | none=>.none)=_;unfold Zb4;rw[List.filterMap_map];show some (match(ys.filterMap λy=>cb y M).min? with | some i=>Zxv i | none=>.none)=_;cases(ys.filterMap λy=>cb y M).min?<;>rfl
theorem Zru{M:Tb}{c:List Int}{k:Int}(h:ZM M c=false):putD M c k=M++[(c,k)]:=by unfold putD;rw[if_neg];intro z;obtain⟨p,hp,e⟩:=Zxb.mp z;have e:=of_decide_eq_true e;unfold ZM Zf at h;rw[Zx8]at h;have:(M.find? λp=>decide (p.1=c)).isSome=true:=ZAt.mpr ⟨p,hp,decide_eq_true e⟩;rw[h]at this;cases this
theorem Zpe(M N:Tb)(c:List Int):ZM (M++N) c=(ZM M c||ZM N c):=by unfold ZM Zf;rw[ZzB,Zx8,Zx8,Zx8,Option.isSome_or]
theorem Ztd{M:Tb}{c:List Int}:ZM M c=true↔∃k,(c,k)∈M:=by
 unfold ZM Zf;rw[Zx8,ZAt]
 constructor
 ·rintro ⟨⟨c',k⟩,h,e⟩
  have e:=of_decide_eq_true e;exact⟨k,by rw[<-e]; exact h⟩
 ·rintro ⟨k,h⟩
  exact⟨_,h,decide_eq_true rfl⟩
theorem Ztq{wf:Wf}{cb:Cb}{L:List (List Int)}{M:Tb}{c:List Int}{k:Int}:(c,k)∈Zat wf cb L M↔c∈L/\ZM M c=false/\Zb4 cb (wf c) M=some k:=by
 unfold Zat;rw[ZxW]
 constructor
 ·rintro ⟨c',h1,h2⟩
  split at h2
  ·cases h2
  ·rename_i hn
   obtain⟨k',h3,h4⟩:=ZwE.mp h2;cases h4;exact⟨h1,by simpa using hn,h3⟩
 ·rintro ⟨h1,h2,h3⟩
  exact⟨c,h1,by rw[h2,h3]; rfl⟩
section
variable{ap:AP}{wf:Wf}{L:List (List Int)}{t:Nat}{cs:List D}{cb:Cb}(hnd:L.Nodup)(hlen:L.length<=128)(hys:∀c∈L,(wf c).length<1000)(ha:∀c∈L,∀y∈wf c,∀M,ap t cs [wyD y,.dict (Zi (encM M))]=some (oI (cb y M)))
include hys ha
theorem Zot{M:Tb}:∀(K:List (List Int)) (acc:Tb) (o4 o5:Option B),(∀c∈K,c∈L)->K.Nodup->(∀c∈K,ZM acc c=false)->ZaW o4=false->ZaW o5=false->acc.length+K.length<100000 ->
  ∃p4 p5,ZaW p4=false/\ZaW p5=false/\Zas 4 (ZR ap) (K.map tupI) [some (.hd (Zi (Zr wf L))),some (.pl (.dict (Zi (encM M)))),some (.pl (fnD t cs)),some (.ot (encM acc)),o4,o5] =
   some (.nx [some (.hd (Zi (Zr wf L))),some (.pl (.dict (Zi (encM M)))),some (.pl (fnD t cs)),some (.ot (encM (acc++Zat wf cb K M))),p4,p5])
 | [],acc,o4,o5,_,_,_,h4,h5,_=>⟨o4,o5,h4,h5,by show some (Out.nx _)=_; rw[show Zat wf cb [] M=[] from rfl,Zxe]⟩
 | c::K,acc,o4,o5,hK,hn,hacc,h4,h5,hl=>by
  rw[ZwS]at hl;have hc:=hK c (ZwI ..);have hk:Za5 (tupI c)=some (Zag c):=ZbT c;have hlk:=Zei M c;have hlr:=ZhH wf L c;rw[if_pos hc]at hlr;have hlc:=Zlf (ap:=ap) (t:=t) (cs:=cs) (cb:=cb) (ys:=wf c) (M:=M) (hys c hc) λy hy=>ha c hc y hy M;have hcons:Zat wf cb (c::K) M=(if ZM M c then[]else match Zb4 cb (wf c) M with | some k=>[(c,k)] | none=>[])++Zat wf cb K M:=by
   unfold Zat;rw[ZxP];cases ZM M c with
   | true=>rfl
   | false=>cases Zb4 cb (wf c) M<;>rfl
  have step:∀(acc':Tb) (p5:Option B),ZaW p5=false->(∀x∈K,ZM acc' x=false)->acc'.length+K.length<100000->ZR ap [some (.hd (Zi (Zr wf L))),some (.pl (.dict (Zi (encM M)))),some (.pl (fnD t cs)),some (.ot (encM acc)),some (.pl (tupI c)),o5] =
     some (.nx [some (.hd (Zi (Zr wf L))),some (.pl (.dict (Zi (encM M)))),some (.pl (fnD t cs)),some (.ot (encM acc')),some (.pl (tupI c)),p5])->acc'++Zat wf cb K M=acc++Zat wf cb (c::K) M ->
    ∃p4 p5,ZaW p4=false/\ZaW p5=false/\Zas 4 (ZR ap) ((c::K).map tupI) [some (.hd (Zi (Zr wf L))),some (.pl (.dict (Zi (encM M)))),some (.pl (fnD t cs)),some (.ot (encM acc)),o4,o5] =
     some (.nx [some (.hd (Zi (Zr wf L))),some (.pl (.dict (Zi (encM M)))),some (.pl (fnD t cs)),some (.ot (encM (acc++Zat wf cb (c::K) M))),p4,p5]):=λacc' p5 hp5 hx hl' e eq=>by
   obtain⟨q4,q5,g4,g5,ih⟩:=Zot (M:=M) K acc' (some (.pl (tupI c))) p5 (λx hx=>hK x (ZwJ _ hx)) (Zxs.mp hn).2 hx rfl hp5 hl';refine⟨q4,q5,g4,g5,?_⟩;rw[<-eq,<-ih,ZwL];show(match ZR ap [some (.hd (Zi (Zr wf L))),some (.pl (.dict (Zi (encM M)))),some (.pl (fnD t cs)),some (.ot (encM acc)),some (.pl (tupI c)),o5]with | some (.nx r')=>_ | some (.ct r')=>_ | some (.bk r')=>_ | some (.rt d)=>_ | none=>_)=_;rw[e]
  have hKa:∀x∈K,ZM acc x=false:=λx hx=>hacc x (ZwJ _ hx);cases hq:Zf M c with
  | some k =>
   have hh:ZM M c=true:=by unfold ZM; rw[hq]; rfl
   rw[hq]at hlk;refine step acc o5 h5 hKa (by omega) ?_ (by rw[hcons,hh]; rfl);have ht:tV (Zdg (Zb 4) (Zo 1)) [some (.hd (Zi (Zr wf L))),some (.pl (.dict (Zi (encM M)))),some (.pl (fnD t cs)),some (.ot (encM acc)),some (.pl (tupI c)),o5]=some false:=by simp[dec_enc,hk,hlk]
   unfold ZR sIf;rw[ht];rfl
  | none =>
   have hh:ZM M c=false:=by unfold ZM; rw[hq]; rfl
   rw[hq]at hlk;have ht:tV (Zdg (Zb 4) (Zo 1)) [some (.hd (Zi (Zr wf L))),some (.pl (.dict (Zi (encM M)))),some (.pl (fnD t cs)),some (.ot (encM acc)),some (.pl (tupI c)),o5]=some true:=by simp[dec_enc,hk,hlk]
   have hca:Zn (Zbj ap) (Zd (ZaY (Zo 0) (Zb 4)) (Zd (Zb 1) (Zd (Zb 2) Zm))) [some (.hd (Zi (Zr wf L))),some (.pl (.dict (Zi (encM M)))),some (.pl (fnD t cs)),some (.ot (encM acc)),some (.pl (tupI c)),o5]=some (oI (Zb4 cb (wf c) M)):=by
    have hg:ZaY (Zo 0) (Zb 4) [some (.hd (Zi (Zr wf L))),some (.pl (.dict (Zi (encM M)))),some (.pl (fnD t cs)),some (.ot (encM acc)),some (.pl (tupI c)),o5]=some (.list ((wf c).map wyD)):=by simp[dec_enc,hk,hlr]
    unfold Zn Zd;rw[hg];exact hlc
   have hs5:Zan 5 (Zn (Zbj ap) (Zd (ZaY (Zo 0) (Zb 4)) (Zd (Zb 1) (Zd (Zb 2) Zm)))) [some (.hd (Zi (Zr wf L))),some (.pl (.dict (Zi (encM M)))),some (.pl (fnD t cs)),some (.ot (encM acc)),some (.pl (tupI c)),o5]=some (.nx [some (.hd (Zi (Zr wf L))),some (.pl (.dict (Zi (encM M)))),some (.pl (fnD t cs)),some (.ot (encM acc)),some (.pl (tupI c)),some (.pl (oI (Zb4 cb (wf c) M)))]):=by unfold Zan;rw[hca];rfl
   cases hle:Zb4 cb (wf c) M with
   | none=>rw[hle]at hs5;refine step acc (some (.pl .none)) rfl hKa (by omega) ?_ (by rw[hcons,hh,hle]; rfl);unfold ZR sIf;rw[ht];dsimp only;refine Z7 (P:=λq=>q=_) hs5 ?_;rfl
   | some k =>
    rw[hle]at hs5;have hput:=Zru (k:=k) (hacc c (ZwI ..));have hpe:=Znq acc c k;have hal:(encM acc).length<1000000:=by unfold encM; rw[ZwD]; omega
    refine step (acc++[(c,k)]) (some (.pl (.int k))) rfl (λx hx=>?_) (by rw[ZwY,ZxT]; omega) ?_ (by rw[hcons,hh,hle,Zyi]; rfl)
    ·rw[Zpe,hKa x hx,ZAk]
     cases hb:ZM [(c,k)] x with
     | false=>rfl
     | true=>obtain⟨k',hm⟩:=Ztd.mp hb;cases ZwT.mp hm;exact absurd hx (Zxs.mp hn).1
    ·unfold ZR sIf
     rw[ht];dsimp only;refine Z7 (P:=λq=>q=_) hs5 ?_;have h2:tV (op2 ZgC (Zb 5) (eC .none)) [some (.hd (Zi (Zr wf L))),some (.pl (.dict (Zi (encM M)))),some (.pl (fnD t cs)),some (.ot (encM acc)),some (.pl (tupI c)),some (.pl (oI (some k)))]=some true:=rfl;rw[h2,<-hput,<-hpe];show(match Za5 (tupI c)with | some y=>_ | none=>none)=_;rw[hk];show(if(encM acc).length<big then _ else none)=_;rw[if_pos (show _<big from hal)];rfl
include hnd hlen
theorem Zli(M:Tb):ZaV ap [.dict (Zi (Zr wf L)),.dict (Zi (encM M)),fnD t cs]=some (encM (Zat wf cb L M)):=by
 obtain⟨p4,p5,g4,g5,go⟩:=Zot hys ha (M:=M) L [] none none (λ_ h=>h) hnd (λ_ _=>rfl) rfl rfl (by simp; omega);have hw:ZaK 0 [some (.hd (Zi (Zr wf L))),some (.pl (.dict (Zi (encM M)))),some (.pl (fnD t cs)),some (.ot (encM [])),none,none]=some (L.map tupI):=by show(ZeE (Zi (Zr wf L))).map _=_;rw[dec_enc,<-Zkz wf L];rfl
 have hf:ZaC 4 (ZaK 0) (ZR ap) [some (.hd (Zi (Zr wf L))),some (.pl (.dict (Zi (encM M)))),some (.pl (fnD t cs)),some (.ot (encM [])),none,none]=some (.nx [some (.hd (Zi (Zr wf L))),some (.pl (.dict (Zi (encM M)))),some (.pl (fnD t cs)),some (.ot (encM (Zat wf cb L M))),p4,p5]):=by unfold ZaC;rw[hw];dsimp only;rw[if_pos (by rw[ZwD]; show _<1000000; omega),go];rfl
 have hh:Zd8 0 (ZaC 4 (ZaK 0) (ZR ap)) [some (.pl (.dict (Zi (Zr wf L)))),some (.pl (.dict (Zi (encM M)))),some (.pl (fnD t cs)),some (.ot (encM [])),none,none]=some (.nx [some (.pl (.dict (Zi (Zr wf L)))),some (.pl (.dict (Zi (encM M)))),some (.pl (fnD t cs)),some (.ot (encM (Zat wf cb L M))),p4,p5]):=by
  show(match ZaC 4 (ZaK 0) (ZR ap) [some (.hd (Zi (Zr wf L))),some (.pl (.dict (Zi (encM M)))),some (.pl (fnD t cs)),some (.ot (encM [])),none,none]with | some (.nx r')=>_ | some (.rt d)=>_ | _=>none)=_;rw[hf];have a2:([none,some (B.pl (.dict (Zi (encM M)))),some (.pl (fnD t cs)),some (.ot (encM (Zat wf cb L M))),p4,p5]:HM.Env).all (λq=>!ZaW q)=true:=by simp only[ZxN,Zz2,g4,g5];rfl
  show(if([none,some (B.pl (.dict (Zi (encM M)))),some (.pl (fnD t cs)),some (.ot (encM (Zat wf cb L M))),p4,p5]:HM.Env).all (λq=>!ZaW q)=true then _ else _)=_;rw[if_pos a2];rfl
 unfold ZaV newOf;rw[if_pos (show([PyData.dict (Zi (Zr wf L)),PyData.dict (Zi (encM M)),fnD t cs]:List D).length=3 from rfl)];show(match ZT 3 fDt [some (.pl (.dict (Zi (Zr wf L)))),some (.pl (.dict (Zi (encM M)))),some (.pl (fnD t cs)),none,none,none]with | some (.nx r')=>ZiY (Zd8 0 (ZaC 4 (ZaK 0) (ZR ap))) (Zmu 3) r' | _=>none)=_;show ZiY (Zd8 0 (ZaC 4 (ZaK 0) (ZR ap))) (Zmu 3) [some (.pl (.dict (Zi (Zr wf L)))),some (.pl (.dict (Zi (encM M)))),some (.pl (fnD t cs)),some (.ot (encM [])),none,none]=_;unfold ZiY;rw[hh];rfl
end
end HG5
namespace HG5
open PySem HM HG HG4
theorem ZoF(ap:AP)(e0 e1 e2 e5 e7:Option B)(v:Int):∀(ms:List (List Int)) (M:Tb) (o:Option B),M.length+ms.length<100000->ZaW o=false ->
  ∃p,ZaW p=false/\Zas 6 (ZcB ap) (ms.map tupI) [e0,e1,e2,some (.ot (encM M)),some (.pl (dI v)),e5,o,e7]=some (.nx [e0,e1,e2,some (.ot (encM (ZaZ ms v M))),some (.pl (dI v)),e5,p,e7])
 | [],M,o,_,h=>⟨o,h,rfl⟩
 | c::ms,M,o,hlen,_=>by
  rw[ZwS]at hlen;have hml:(encM M).length<1000000:=by unfold encM; rw[ZwD]; omega
  have hk:Za5 (tupI c)=some (Zag c):=ZbT c;have hput:=Znq M c v;have hpl:=Zou c v M;have e:ZcB ap [e0,e1,e2,some (.ot (encM M)),some (.pl (dI v)),e5,some (.pl (tupI c)),e7]=some (.nx [e0,e1,e2,some (.ot (encM (putD M c v))),some (.pl (dI v)),e5,some (.pl (tupI c)),e7]):=by rw[<-hput];simp[ZcB,hk,hml]
  obtain⟨p,hp,ih⟩:=ZoF ap e0 e1 e2 e5 e7 v ms (putD M c v) (some (.pl (tupI c))) (by omega) rfl;refine⟨p,hp,?_⟩;show _=some (Out.nx [e0,e1,e2,some (.ot (encM (ZaZ ms v (putD M c v)))),some (.pl (dI v)),e5,p,e7]);rw[ZwL,<-ih];show(match ZcB ap [e0,e1,e2,some (.ot (encM M)),some (.pl (dI v)),e5,some (.pl (tupI c)),e7]with | some (.nx r')=>_ | some (.ct r')=>_ | some (.bk r')=>_ | some (.rt d)=>_ | none=>_)=_;rw[e]
theorem ZkF(T:Tb):((encM T).map λp=>Zxz (p.1.map Zai))=(T.map (·.1)).map tupI:=by unfold encM;rw[Zw2,Zw2];refine ZxI λp _=>?_;show Zxz ((p.1.map ZxJ).map Zai)=Zxz (p.1.map dI);rw[Zw2];rfl
def NdT(T:Tb):Prop:=(T.map (·.1)).Nodup
theorem Zoz{T:Tb}(h:NdT T){p:List Int × Int}(hp:p∈T):Zf T p.1=some p.2:=by
 induction T with
 | nil=>simp at hp
 | cons q T ih =>
  obtain⟨c,k⟩:=q;rw[Zbq];unfold NdT at h;rw[ZwL,Zxs]at h;rcases Zw0.mp hp with e | e
  ·subst e; rw[if_pos rfl]
  ·rw[if_neg λz=>h.1 (by rw[z]; exact ZwN.mpr ⟨p,e,rfl⟩)]
   exact ih h.2 e
theorem ZuE{wf:Wf}{cb:Cb}{M:Tb}:∀{L:List (List Int)},L.Nodup->NdT (Zat wf cb L M):=by
 intro L h;unfold NdT;have:((Zat wf cb L M).map (·.1)).Sublist L:=by
  unfold Zat;rw[List.map_filterMap]
  clear h
  induction L with
  | nil=>exact .slnil
  | cons c L ih =>
   rw[ZxP];cases ZM M c with
   | true=>exact ih.cons c
   | false=>cases Zb4 cb (wf c) M with
    | none=>exact ih.cons c
    | some k=>exact ih.cons₂ c
 exact h.sublist this
theorem Zop{wf:Wf}{cb:Cb}{L:List (List Int)}{M:Tb}:(Zat wf cb L M).length<=L.length:=ZAJ ..
section
variable{T:Tb}(hT:NdT T)(hl:T.length<100000)
include hT hl
theorem ZqB(r:HM.Env)(h7:r[7]?=some (some (.hd (Zi (encM T))))):ZC (ZaK 7) Zac (ZaY (Zo 8) (Zb 0)) r=some (.ol ((T.map (·.2)).map dI)):=by
 have hw:ZaK 7 r=some ((T.map (·.1)).map tupI):=by unfold ZaK;rw[h7];show(ZeE (Zi (encM T))).map _=_;rw[dec_enc,<-ZkF T];rfl
 have hg:Zav Zac (ZaY (Zo 8) (Zb 0)) r ((T.map (·.1)).map tupI)=some ((T.map (·.2)).map dI):=by rw[Zw2,Zw2];have:=Za6 (e:=ZaY (Zo 8) (Zb 0)) (r:=r) (λp:List Int × Int=>tupI p.1) (λp=>dI p.2) T (λp hp=>by have hk:Za5 (tupI p.1)=some (Zag p.1):=ZbT p.1;have hlk:=Zei T p.1;rw[Zoz hT hp]at hlk;simp[h7,dec_enc,hk,hlk]);exact this
 unfold ZC;rw[hw];dsimp only;rw[if_pos (by rw[ZwD,ZwD]; show _<1000000; omega),hg];rfl
theorem Zqs{k:Option Int}(r:HM.Env)(h7:r[7]?=some (some (.hd (Zi (encM T)))))(h4:r[4]?=some (some (.pl (oI k)))):ZC (ZaK 7) (tV (op2 gEq (ZaY (Zo 8) (Zb 0)) (Zb 5))) (Zb 0) r=some (.ol (((T.filter λp=>some p.2==k).map (·.1)).map tupI)):=by
 have hw:ZaK 7 r=some ((T.map (·.1)).map tupI):=by unfold ZaK;rw[h7];show(ZeE (Zi (encM T))).map _=_;rw[dec_enc,<-ZkF T];rfl
 have hg:Zav (tV (op2 gEq (ZaY (Zo 8) (Zb 0)) (Zb 5))) (Zb 0) r ((T.map (·.1)).map tupI)=some (((T.filter λp=>some p.2==k).map (·.1)).map tupI):=by
  rw[Zw2,Zw2];have:=Zcg (c:=tV (op2 gEq (ZaY (Zo 8) (Zb 0)) (Zb 5))) (e:=Zb 0) (r:=r) (λp:List Int × Int=>tupI p.1) (λp=>some p.2==k) (λp=>tupI p.1) T (λp hp=>by
   have hk:Za5 (tupI p.1)=some (Zag p.1):=ZbT p.1;have hlk:=Zei T p.1;rw[Zoz hT hp]at hlk;have h1:ZaY (Zo 8) (Zb 0) (some (.pl (tupI p.1))::r)=some (.int p.2):=by simp[h7,dec_enc,hk,hlk]
   have h2:Zb 5 (some (B.pl (tupI p.1))::r)=some (oI k):=by simp[h4]
   unfold tV op2;rw[h1,h2];cases k with
   | none=>show(match gEq (.int p.2) .none with | some (.bool b)=>some b | _=>none)=_;rw[ZjG (Zeg 1 _) (ZsB 1) (by decide) (by decide) (by simp)];rfl
   | some k =>
    show(match gEq (.int p.2) (.int k)with | some (.bool b)=>some b | _=>none)=_
    by_cases e:p.2=k
    ·rw[e,Zg2 (Zeg 1 _) (by decide)]
     simp
    ·rw[ZjG (Zeg 1 _) (Zeg 1 _) (by decide) (by decide) (by simpa using e)]
     simp[e]) (λp _ _=>by simp)
  exact this
 unfold ZC;rw[hw];dsimp only;rw[if_pos (by rw[ZwD,ZwD]; show _<1000000; omega),hg];rfl
end
section
variable{w:Wk}(hv:Wk.V w){ap:AP}{wf:Wf}{L:List (List Int)}{t:Nat}{cs:List D}{cb:Cb}(hnd:L.Nodup)(hlen:L.length<=128)(hcr:∀c∈L,Cr w.many c)(hys:∀c∈L,(wf c).length<1000)(ha:∀c∈L,∀y∈wf c,∀M,ap t cs [wyD y,.dict (Zi (encM M))]=some (oI (cb y M)))
include hnd hlen hys ha
theorem Zpb{M:Tb}{k:Int}{found:List (List Int)}{o6 o7:Option B}(h6:ZaW o6=false)(h7:ZaW o7=false)(hf:found.length<=128)(hM:M.length<50000) :
  ∃p6 p7,ZaW p6=false/\ZaW p7=false/\ZcC ap [some (.pl w.d),some (.pl (.dict (Zi (Zr wf L)))),some (.pl (fnD t cs)),some (.ot (encM M)),some (.pl (dI k)),some (.ol (found.map tupI)),o6,o7] =
   some (.nx [some (.pl w.d),some (.pl (.dict (Zi (Zr wf L)))),some (.pl (fnD t cs)),some (.ot (encM (ZaZ found k M))),some (.pl (oI (ZbG (Zat wf cb L (ZaZ found k M))))),some (.ol ((ZeA (Zat wf cb L (ZaZ found k M))).map tupI)),p6,p7]):=by
 obtain⟨p6,hp6,e1⟩:=ZoF ap (some (.pl w.d)) (some (.pl (.dict (Zi (Zr wf L))))) (some (.pl (fnD t cs))) (some (.pl (.list (found.map tupI)))) o7 k found M o6 (by omega) h6;generalize hM':ZaZ found k M=M' at *;have hnx:=Zli hnd hlen hys ha M';have hT:NdT (Zat wf cb L M'):=ZuE hnd;have hTl:(Zat wf cb L M').length<100000:=by have:=Zop (wf:=wf) (cb:=cb) (L:=L) (M:=M'); omega
 generalize hO:Zat wf cb L M'=T at *;refine⟨p6,some (.pl (.dict (Zi (encM T)))),hp6,rfl,?_⟩;unfold ZcC;refine Z7 (P:=λq=>q=_) (r':=[some (.pl w.d),some (.pl (.dict (Zi (Zr wf L)))),some (.pl (fnD t cs)),some (.ot (encM M')),some (.pl (dI k)),some (.pl (.list (found.map tupI))),p6,o7]) ?_ ?_
 ·unfold Zfo ZjC ZaC
  have hfb:found.length<1000000:=by omega
  simp[hfb];exact e1
 ·refine Z7 (P:=λq=>q=_) (r':=[some (.pl w.d),some (.pl (.dict (Zi (Zr wf L)))),some (.pl (fnD t cs)),some (.ot (encM M')),some (.pl (dI k)),some (.pl (.list (found.map tupI))),p6,some (.ot (encM T))]) ?_ ?_
  ·have hcl:ZhJ (ZaV ap) (Zd (Zb 1) (Zd (Zpv (Zo 3)) (Zd (Zb 2) Zm))) [some (.pl w.d),some (.pl (.dict (Zi (Zr wf L)))),some (.pl (fnD t cs)),some (.ot (encM M')),some (.pl (dI k)),some (.pl (.list (found.map tupI))),p6,o7]=some (.ot (encM T)):=by
    unfold ZhJ;show(match ZaV ap [.dict (Zi (Zr wf L)),.dict (Zi (encM M')),fnD t cs]with | some kvs=>if kvs.all (λp=>Zjw p.2)then some (B.ot kvs)else none | none=>none)=_;rw[hnx];have hfl:(encM T).all (λp=>Zjw p.2)=true:=by unfold encM;rw[List.all_map];exact ZwK.mpr λp _=>rfl
    dsimp only;rw[if_pos hfl]
   unfold ZT;rw[hcl];rfl
  ·have a1:∀x4 x5:D,([some (B.pl w.d),some (.pl (.dict (Zi (Zr wf L)))),some (.pl (fnD t cs)),some (.ot (encM M')),some (.pl x4),some (.pl x5),p6,some (.pl (.dict (Zi (encM T))))]:HM.Env).all (λq=>!ZaW q)=true:=λx4 x5=>by
    simp only[ZxN,Zz2,hp6];rfl
   have a2:∀x4:D,∀x5:B,ZaW (some x5)=false->([some (B.pl w.d),some (.pl (.dict (Zi (Zr wf L)))),some (.pl (fnD t cs)),some (.ot (encM M')),some (.pl x4),some x5,p6,none]:HM.Env).all (λq=>!ZaW q)=true:=λx4 x5 hx=>by simp only[ZxN,Zz2,hp6,hx];rfl
   have hv1:=ZqB hT hTl [some (.pl w.d),some (.pl (.dict (Zi (Zr wf L)))),some (.pl (fnD t cs)),some (.ot (encM M')),some (.pl (dI k)),some (.pl (.list (found.map tupI))),p6,some (.hd (Zi (encM T)))] rfl;have hm1:Zan 4 (ZeT (ZC (ZaK 7) Zac (ZaY (Zo 8) (Zb 0)))) [some (.pl w.d),some (.pl (.dict (Zi (Zr wf L)))),some (.pl (fnD t cs)),some (.ot (encM M')),some (.pl (dI k)),some (.pl (.list (found.map tupI))),p6,some (.hd (Zi (encM T)))]=some (.nx [some (.pl w.d),some (.pl (.dict (Zi (Zr wf L)))),some (.pl (fnD t cs)),some (.ot (encM M')),some (.pl (oI (ZbG T))),some (.pl (.list (found.map tupI))),p6,some (.hd (Zi (encM T)))]):=by
    have:ZeT (ZC (ZaK 7) Zac (ZaY (Zo 8) (Zb 0))) [some (.pl w.d),some (.pl (.dict (Zi (Zr wf L)))),some (.pl (fnD t cs)),some (.ot (encM M')),some (.pl (dI k)),some (.pl (.list (found.map tupI))),p6,some (.hd (Zi (encM T)))]=some (oI (ZbG T)):=by unfold ZeT;rw[hv1];show(match Zax ((T.map (·.2)).map dI)with | some ns=>some (match ns.min? with | some i=>Zxv i | none=>.none) | none=>none)=_;rw[ZdU];show some (match(T.map (·.2)).min? with | some i=>Zxv i | none=>.none)=_;unfold ZbG;cases(T.map (·.2)).min?<;>rfl
    unfold Zan;rw[this];rfl
   refine Z7 (P:=λq=>q=_) (r':=[some (.pl w.d),some (.pl (.dict (Zi (Zr wf L)))),some (.pl (fnD t cs)),some (.ot (encM M')),some (.pl (oI (ZbG T))),some (.pl (.list (found.map tupI))),p6,some (.pl (.dict (Zi (encM T))))]) ?_ ?_
   ·show(if([some (B.pl w.d),some (.pl (.dict (Zi (Zr wf L)))),some (.pl (fnD t cs)),some (.ot (encM M')),some (.pl (dI k)),some (.pl (.list (found.map tupI))),p6,some (.pl (.dict (Zi (encM T))))]:HM.Env).all (λq=>!ZaW q)=true then _ else _)=_
    rw[if_pos (a1 _ _)];show(match Zan 4 _ [some (.pl w.d),some (.pl (.dict (Zi (Zr wf L)))),some (.pl (fnD t cs)),some (.ot (encM M')),some (.pl (dI k)),some (.pl (.list (found.map tupI))),p6,some (.hd (Zi (encM T)))]with | some (.nx r')=>_ | some (.rt d)=>_ | _=>none)=_;rw[hm1];show(if([some (B.pl w.d),some (.pl (.dict (Zi (Zr wf L)))),some (.pl (fnD t cs)),some (.ot (encM M')),some (.pl (oI (ZbG T))),some (.pl (.list (found.map tupI))),p6,none]:HM.Env).all (λq=>!ZaW q)=true then _ else _)=_;rw[if_pos (a2 _ _ rfl)];rfl
   ·have hk1:=Zqs hT hTl (k:=ZbG T) [some (.pl w.d),some (.pl (.dict (Zi (Zr wf L)))),some (.pl (fnD t cs)),some (.ot (encM M')),some (.pl (oI (ZbG T))),some (.pl (.list (found.map tupI))),p6,some (.hd (Zi (encM T)))] rfl rfl
    have hm2:ZT 5 (ZC (ZaK 7) (tV (op2 gEq (ZaY (Zo 8) (Zb 0)) (Zb 5))) (Zb 0)) [some (.pl w.d),some (.pl (.dict (Zi (Zr wf L)))),some (.pl (fnD t cs)),some (.ot (encM M')),some (.pl (oI (ZbG T))),some (.pl (.list (found.map tupI))),p6,some (.hd (Zi (encM T)))]=some (.nx [some (.pl w.d),some (.pl (.dict (Zi (Zr wf L)))),some (.pl (fnD t cs)),some (.ot (encM M')),some (.pl (oI (ZbG T))),some (.ol ((ZeA T).map tupI)),p6,some (.hd (Zi (encM T)))]):=by unfold ZT;rw[hk1];rfl
    show(if([some (B.pl w.d),some (.pl (.dict (Zi (Zr wf L)))),some (.pl (fnD t cs)),some (.ot (encM M')),some (.pl (oI (ZbG T))),some (.pl (.list (found.map tupI))),p6,some (.pl (.dict (Zi (encM T))))]:HM.Env).all (λq=>!ZaW q)=true then _ else _)=_;rw[if_pos (a1 _ _)];show(match ZT 5 _ [some (.pl w.d),some (.pl (.dict (Zi (Zr wf L)))),some (.pl (fnD t cs)),some (.ot (encM M')),some (.pl (oI (ZbG T))),some (.pl (.list (found.map tupI))),p6,some (.hd (Zi (encM T)))]with | some (.nx r')=>_ | some (.rt d)=>_ | _=>none)=_;rw[hm2];show(if([some (B.pl w.d),some (.pl (.dict (Zi (Zr wf L)))),some (.pl (fnD t cs)),some (.ot (encM M')),some (.pl (oI (ZbG T))),some (.ol ((ZeA T).map tupI)),p6,none]:HM.Env).all (λq=>!ZaW q)=true then _ else _)=_;rw[if_pos (a2 _ _ rfl)];rfl
omit hnd hlen hys ha in
theorem Zsb{M:Tb}{c:List Int}(h:c∈ZeA (Zat wf cb L M)):c∈L/\ZM M c=false:=by obtain⟨⟨c',k⟩,h1,rfl⟩:=ZwN.mp h;have:=Ztq.mp (Zxq.mp h1).1;exact⟨this.1,this.2.1⟩
omit hnd hlen hys ha in
theorem Zqm{T:Tb}(h:ZeA T≠[]):∃k,ZbG T=some k:=by
 cases hq:ZbG T with
 | some k=>exact⟨k,rfl⟩
 | none=>refine absurd ?_ h;unfold ZbG at hq;rw[ZA4]at hq;have:=List.map_eq_nil_iff.mp hq;subst this;rfl
theorem Zhv:∀(fuel n:Nat) (M:Tb) (k:Option Int) (found:List (List Int)) (o6 o7:Option B),ZaW o6=false->ZaW o7=false->(∀c∈found,c∈L/\ZM M c=false)->found.length<=128->M.length<=128*n->n<=(L.filter λc=>ZM M c).length->130<=n+fuel->(found≠[]->∃i,k=some i) ->
  ∃R p4 p5 p6 p7,Zbh (tV (op2 gGt (ZbF (Zo 5)) (eC (.int 0)))) (ZcC ap) fuel [some (.pl w.d),some (.pl (.dict (Zi (Zr wf L)))),some (.pl (fnD t cs)),some (.ot (encM M)),some (.pl (oI k)),some (.ol (found.map tupI)),o6,o7]=some (.nx [some (.pl w.d),some (.pl (.dict (Zi (Zr wf L)))),some (.pl (fnD t cs)),some (.ot (encM R)),p4,p5,p6,p7])/\ZiU wf cb L M k found R
 | 0,n,M,k,found,o6,o7,_,_,_,_,_,ht,hfu,_=>by have:=ZxL (λc=>ZM M c) L;omega
 | fuel+1,n,M,k,found,o6,o7,h6,h7,hfo,hfl,hM,ht,hfu,hks=>by
  have htl:=ZxL (λc=>ZM M c) L
  by_cases hf:found=[]
  ·subst hf
   refine⟨M,some (.pl (oI k)),some (.ol []),o6,o7,?_,.done⟩;unfold Zbh;have e:(tV (op2 gGt (ZbF (Zo 5)) (eC (.int 0)))) [some (.pl w.d),some (.pl (.dict (Zi (Zr wf L)))),some (.pl (fnD t cs)),some (.ot (encM M)),some (.pl (oI k)),some (.ol (([]:List (List Int)).map tupI)),o6,o7]=some false:=by simp
   rw[e];rfl
  ·obtain⟨i,rfl⟩:=hks hf
   have e:(tV (op2 gGt (ZbF (Zo 5)) (eC (.int 0)))) [some (.pl w.d),some (.pl (.dict (Zi (Zr wf L)))),some (.pl (fnD t cs)),some (.ot (encM M)),some (.pl (oI (some i))),some (.ol (found.map tupI)),o6,o7]=some true:=by have:0<found.length:=Zz6.mpr hf;simp;omega
   obtain⟨p6,p7,g6,g7,ht1⟩:=Zpb hnd hlen hys ha (w:=w) (M:=M) (k:=i) (found:=found) h6 h7 hfl (by omega);have hml:(ZaZ found i M).length<=M.length+found.length:=Zkq i found M;have hlk:∀k,Zf (ZaZ found i M) k=if k∈found then some i else Zf M k:=λk=>ZfG i k found M
   have hcnt:(L.filter λc=>ZM M c).length<(L.filter λc=>ZM (ZaZ found i M) c).length:=by
    refine Zc4 (λx _ hx=>?_) ?_
    ·unfold ZM at hx ⊢
     rw[hlk];split
     ·rfl
     ·exact hx
    ·obtain⟨c,cs,rfl⟩:=ZAo hf
     refine⟨c,(hfo c (ZwI ..)).1,?_,(hfo c (ZwI ..)).2⟩;unfold ZM;rw[hlk,if_pos (ZwI ..)];rfl
   have hol:(ZeA (Zat wf cb L (ZaZ found i M))).length<=128:=by
    have h1:(ZeA (Zat wf cb L (ZaZ found i M))).length<=(Zat wf cb L (ZaZ found i M)).length:=by unfold ZeA;rw[ZwD];exact ZxL ..
    have h2:=Zop (wf:=wf) (cb:=cb) (L:=L) (M:=ZaZ found i M);omega
   obtain⟨R,q4,q5,q6,q7,g,J⟩:=Zhv fuel (n+1) (ZaZ found i M) (ZbG (Zat wf cb L (ZaZ found i M))) (ZeA (Zat wf cb L (ZaZ found i M))) p6 p7 g6 g7 (λc hc=>Zsb hc) hol (by omega) (by omega) (by omega) Zqm;refine⟨R,q4,q5,q6,q7,?_,.step hf J⟩;unfold Zbh;rw[e];dsimp only;show(match ZcC ap [some (.pl w.d),some (.pl (.dict (Zi (Zr wf L)))),some (.pl (fnD t cs)),some (.ot (encM M)),some (.pl (dI i)),some (.ol (found.map tupI)),o6,o7]with | some (.nx r')=>_ | some (.ct r')=>_ | some (.bk r')=>_ | some (.rt d)=>_ | none=>_)=_;rw[ht1];exact g
include hv hcr
theorem ZnT:∃R,Zcp ap [w.d,.dict (Zi (Zr wf L)),fnD t cs]=some (.dict (Zi (encM R)))/\ZiU wf cb L [] (some 0) (L.filter λc=>ZY w c) R:=by
 have hlb:L.length<1000000:=by omega
 have hfl:(L.filter λc=>ZY w c).length<=128:=Zxr (ZxL _ _) hlen;obtain⟨R,p4,p5,p6,p7,g,J⟩:=Zhv hnd hlen hys ha (w:=w) 100000 0 [] (some 0) (L.filter λc=>ZY w c) none none rfl rfl (λc hc=>⟨(Zxq.mp hc).1,rfl⟩) hfl (by simp) (Zx3 _) (by omega) λ_=>⟨0,rfl⟩;refine⟨R,?_,J⟩;have hw:ZaK 1 [some (.pl w.d),some (.hd (Zi (Zr wf L))),some (.pl (fnD t cs)),some (.ot (encM [])),some (.pl (dI 0)),none,none,none]=some (L.map tupI):=by show(ZeE (Zi (Zr wf L))).map _=_;rw[dec_enc,<-Zkz wf L];rfl
 have hgo:∀r:HM.Env,r[0]?=some (some (.pl w.d))->Zav (tV (Zn Za7 (Zd (Zb 1) (Zd (Zb 0) Zm)))) (Zb 0) r (L.map tupI)=some ((L.filter λc=>ZY w c).map tupI):=λr r0=>by
  rw[Zcg tupI (λc=>ZY w c) tupI]
  ·intro c hc
   have:=ZnY (w:=w) (c:=c) (by have:=(hcr c hc).len; have:=hv.m2; omega);simp[r0,this]
  ·intro c _ _
   simp
 have hc:ZC (ZaK 1) (tV (Zn Za7 (Zd (Zb 1) (Zd (Zb 0) Zm)))) (Zb 0) [some (.pl w.d),some (.hd (Zi (Zr wf L))),some (.pl (fnD t cs)),some (.ot (encM [])),some (.pl (dI 0)),none,none,none]=some (.ol ((L.filter λc=>ZY w c).map tupI)):=by unfold ZC;rw[hw];dsimp only;rw[if_pos (by rw[ZwD]; exact hlb),hgo _ rfl];rfl
 have hh:Zd8 1 (ZT 5 (ZC (ZaK 1) (tV (Zn Za7 (Zd (Zb 1) (Zd (Zb 0) Zm)))) (Zb 0))) [some (.pl w.d),some (.pl (.dict (Zi (Zr wf L)))),some (.pl (fnD t cs)),some (.ot (encM [])),some (.pl (dI 0)),none,none,none]=some (.nx [some (.pl w.d),some (.pl (.dict (Zi (Zr wf L)))),some (.pl (fnD t cs)),some (.ot (encM [])),some (.pl (dI 0)),some (.ol ((L.filter λc=>ZY w c).map tupI)),none,none]):=by show(match ZT 5 _ [some (.pl w.d),some (.hd (Zi (Zr wf L))),some (.pl (fnD t cs)),some (.ot (encM [])),some (.pl (dI 0)),none,none,none]with | some (.nx r')=>_ | some (.rt d)=>_ | _=>none)=_;unfold ZT;rw[hc];rfl
 show ZaL (Zd5 ap [some (.pl w.d),some (.pl (.dict (Zi (Zr wf L)))),some (.pl (fnD t cs)),none,none,none,none,none])=_;have e:Zd5 ap [some (.pl w.d),some (.pl (.dict (Zi (Zr wf L)))),some (.pl (fnD t cs)),none,none,none,none,none]=some (.rt (.dict (Zi (encM R)))):=by unfold Zd5;refine Z7 (P:=λq=>q=_) (r':=[some (.pl w.d),some (.pl (.dict (Zi (Zr wf L)))),some (.pl (fnD t cs)),some (.ot (encM [])),none,none,none,none]) rfl ?_;refine Z7 (P:=λq=>q=_) (r':=[some (.pl w.d),some (.pl (.dict (Zi (Zr wf L)))),some (.pl (fnD t cs)),some (.ot (encM [])),some (.pl (dI 0)),none,none,none]) rfl ?_;refine Z7 (P:=λq=>q=_) hh ?_;refine Z7 (P:=λq=>q=_) g ?_;simp
 rw[e];rfl
end
end HG5
namespace HG5
open PySem HM HG
def ap:AP:=λt cs ds=>match t with
 | 0=>if cs.isEmpty then Zcq ds else none
 | 1=>Zjz 1 2 (Zn ZaB (Zd (Zb 1) (Zd (Zb 2) (Zd (Zb 0) Zm)))) cs ds
 | _=>none
end HG5
namespace HG5
open PySem HM HG HG4
inductive Zl5(w:Wk)(ls b:List Int):List Int->Prop where
 | beg {p:List Int} (h:p∈ZQ w ls b):Zl5 w ls b p
 | step {c p:List Int} {d:Nat} (r:Zl5 w ls b c) (hd:d<w.deeds.length) (hc:ZbB w c d=true) (h:p∈ZQ w ls (ZaD w c d)):Zl5 w ls b p
def Zkc(w:Wk)(ls c:List Int)(d:Int):Wy:=(dI d,ZbE w ls (ZaD w c d))
def wfV(w:Wk)(ls:List Int):Wf:=λc=>(doV w c).map (Zkc w ls c)
abbrev ZpH(w:Wk)(ls:List Int)(L:List (List Int)):List (List Ky × D):=Zr (wfV w ls) L
theorem ZpX(w:Wk)(ls c:List Int):Zlq w ls c=.list ((wfV w ls c).map wyD):=by unfold Zlq wfV;rw[Zw2];rfl
theorem Zwq(w:Wk)(ls c:List Int)(d:Int):wyP (Zkc w ls c d)=ZQ w ls (ZaD w c d):=rfl
abbrev OkC(w:Wk)(c:List Int):Prop:=Cr w.many c/\c≠[]
structure ApD(ap:AP):Prop where
 d0:∀ds,ap 0 [] ds=Zcq ds
 l1:∀cs ds,ap 1 cs ds=Zjz 1 2 (Zn ZaB (Zd (Zb 1) (Zd (Zb 2) (Zd (Zb 0) Zm)))) cs ds
section
variable{w:Wk}(hv:Wk.V w)(h7:w.many<=7){ls:List Int}(hl:Cr w.looks.length ls)
include hv h7
theorem Zvl:Zpw (wfV w ls) (OkC w):=by
 refine⟨λc hc y hy p hp=>?_,λc hc=>?_,λc hc y hy=>?_,λC hn hC=>?_⟩
 ·obtain⟨d,hd,rfl⟩:=ZwN.mp hy
  obtain⟨d0,d1,_⟩:=ZdX hd;have:=ZjY (Zdh hv hc.1 d0 d1) (show p∈ZQ w ls (ZaD w c d) from hp);exact⟨this.1,this.2.1⟩
 ·unfold wfV
  rw[ZwD];have:=ZjR w c;have:=hv.d2;omega
 ·obtain⟨d,hd,rfl⟩:=ZwN.mp hy
  obtain⟨d0,d1,_⟩:=ZdX hd;have:=split_len (w:=w) (ls:=ls) (c:=ZaD w c d);have:=(Zdh hv hc.1 d0 d1).len;show(ZbE w ls (ZaD w c d)).length<=8;omega
 ·have h1:=Zo2 hn λc hc=>(hC c hc).1
  have h2:2 ^ w.many<=2 ^ 7:=Nat.pow_le_pow_right (by decide) h7;have h3:2 ^ 7=128:=rfl;omega
omit hv h7 in
theorem Zu4{b c:List Int}(r:ZjZ (wfV w ls) (ZQ w ls b) c):Zl5 w ls b c:=by
 induction r with
 | beg h=>exact .beg h
 | @step c p y _ hy hp ih=>obtain⟨d,hd,rfl⟩:=ZwN.mp hy;obtain⟨d0,d1,d2⟩:=ZdX hd;have e:((d.toNat:Nat):Int)=d:=Zyk d0;exact .step (d:=d.toNat) ih (by omega) (by rw[e]; exact d2) (by rw[e]; exact hp)
include hl
theorem ZjW{ap:AP}(A:ApD ap){b:List Int}(hb:Cr w.many b):∃L,Zb0 ap [w.d,tupI ls,tupI b]=some (.dict (Zi (ZpH w ls L)))/\L.Nodup/\L.length<=128/\(∀c∈L,Cr w.many c/\c≠[])/\(∀c∈L,Zl5 w ls b c)/\ZdH w ls L/\∀p∈ZQ w ls b,p∈L:=by
 have hp:=ZhT hv hl hb;have hsl:=split_len (w:=w) (ls:=ls) (c:=b);have hbl:=hb.len;have hci:=Zfg (ZbE w ls b) (by omega);have hpl:(ZQ w ls b).length<=100:=by unfold ZQ; rw[ZwD]; omega
 have O:=Zvl hv h7 (ls:=ls);have ha:∀c,OkC w c->ap 1 [w.d,tupI ls] [tupI c]=some (.list ((wfV w ls c).map wyD)):=λc hc=>by rw[A.l1,<-ZpX];unfold Zjz;rw[if_pos ⟨rfl,rfl,by rw[ZxN,Zdk 19]; rfl⟩];exact Znn hv hl hc.1
 obtain⟨L,e,J⟩:=ZpJ O ha (B:=ZQ w ls b) (λc h=>⟨(ZjY hb h).1,(ZjY hb h).2.1⟩) hpl;refine⟨L,?_,J.nd,O.cs L J.nd J.cr,J.cr,λc hc=>Zu4 (J.rc c hc),λc hc d hd can p hp=>?_,λp hp=>?_⟩
 ·show ZaL (ZdQ ap [some (.pl w.d),some (.pl (tupI ls)),some (.pl (tupI b))])=_
  have h1:Zn ZF (Zd (Zn ZaI (Zd (Zb 0) (Zd (Zb 1) (Zd (Zb 2) Zm)))) Zm) [some (.pl w.d),some (.pl (tupI ls)),some (.pl (tupI b))]=some (.list ((ZQ w ls b).map tupI)):=by unfold Zn Zd;show(match(match ZaI [w.d,tupI ls,tupI b]with | some x=>(Zm _).map (x::·) | none=>none)with | some ds=>ZF ds | none=>none)=_;rw[hp];exact hci
  have hn1:[w.d,tupI ls].all (noF 20)=true:=by rw[ZxN,ZxN,Zvi,Zdk 19];rfl
  have hn2:noF 20 (.dict (Zi (ZpH w ls L)))=true:=Zvr (n:=14) λc _ y hy=>by obtain⟨d,_,rfl⟩:=ZwN.mp hy;exact ZsF _ _
  unfold ZdQ ZJ ZgU;rw[h1];show ZaL (Zyv Out.rt (if[w.d,tupI ls].all (noF 20)=true then(match Zbg ap [.list ((ZQ w ls b).map tupI),fnD 1 [w.d,tupI ls]]with | some d=>if noF 20 d=true then some d else none | none=>none)else none))=_;rw[if_pos hn1,e];dsimp only;rw[if_pos hn2];rfl
 ·rcases J.cl c hc (Zkc w ls c d) (ZwN.mpr ⟨(d:Int),ZoG hd can,rfl⟩) p hp with h | h
  ·exact h
  ·simp at h
 ·rcases J.bg p hp with h | h
  ·exact h
  ·simp at h
end
def Zb6(ps:List (List Int))(M:Tb):Option Int:=if ps.all (ZM M)then(ps.filterMap λp=>Zf M p).max? else none
def cbD:Cb:=λy M=>(Zb6 (wyP y) M).map (·+1)
theorem Zg8{α β:Type}{f:α->Option β}:∀{xs:List α},((xs.filterMap f).length=xs.length↔xs.all (λx=>(f x).isSome)=true)
 | []=>by simp
 | x::xs=>by
  have ih:=Zg8 (f:=f) (xs:=xs);have hl:(xs.filterMap f).length<=xs.length:=ZAJ f xs;rw[ZxP,ZxN];cases h:f x with
  | none=>simp; omega
  | some y=>simpa using ih
theorem Zfx{g:Gs}(hg:g.length<1000)(h0:g≠[]){M:Tb}:Z0 [.list (g.map Za8),.dict (Zi (encM M))]=some (oI (Zb6 (g.map (·.2)) M)):=by
 have hci:=Zfg g (by omega);have hlen:((g.map (·.2)).map tupI).length<big:=by rw[ZwD,ZwD]; show _<1000000; omega
 have h1:ZW (bOf (Zn ZF (Zd (Zb 0) Zm))) [some (.pl (.list (g.map Za8))),some (.pl (.dict (Zi (encM M)))),none]=some ((g.map (·.2)).map tupI):=by unfold ZW bOf;show(match Zyv B.pl (ZF [.list (g.map Za8)])with | some x=>Zey x | none=>none)=_;rw[hci];rfl
 have h2:Zav (tV (Zl7 (Zb 0) (Zo 2))) (ZaY (Zo 2) (Zb 0)) [some (.pl (.list (g.map Za8))),some (.pl (.dict (Zi (encM M)))),none] ((g.map (·.2)).map tupI)=some (((g.map (·.2)).filterMap λp=>Zf M p).map dI):=by
  rw[Zcg tupI (ZM M) (λp=>dI ((Zf M p).getD 0))]
  ·congr 1
   generalize g.map (·.2)=ps
   induction ps with
   | nil=>rfl
   | cons p ps ih =>
    rw[Zx0,ZxP];unfold ZM at ih ⊢;cases hq:Zf M p with
    | none=>rw[if_neg (by simp)]; exact ih
    | some k=>rw[if_pos (by rfl),ZwL,ZwL,ih,hq]; rfl
  ·intro p _
   have hk:Za5 (tupI p)=some (Zag p):=ZbT p;simp[dec_enc,hk,Zei,ZM]
  ·intro p _ hp
   have hk:Za5 (tupI p)=some (Zag p):=ZbT p;unfold ZM at hp;obtain⟨k,hk'⟩:=Zxt.mp hp;have hlk:=Zei M p;rw[hk']at hlk;simp[dec_enc,hk,hlk,hk']
 have hfl:=Zg8 (f:=λp=>Zf M p) (xs:=g.map (·.2));rw[ZwD]at hfl;have hall:(g.map (·.2)).all (λx=>(Zf M x).isSome)=(g.map (·.2)).all (ZM M):=rfl;rw[hall]at hfl;generalize hN:(g.map (·.2)).filterMap (λp=>Zf M p)=ns at *;show ZaL (Zc5 [some (.pl (.list (g.map Za8))),some (.pl (.dict (Zi (encM M)))),none])=_;unfold Zc5;refine Z7 (P:=λq=>ZaL q=_) (r':=[some (.pl (.list (g.map Za8))),some (.pl (.dict (Zi (encM M)))),some (.ol (ns.map dI))]) ?_ ?_
 ·unfold ZT ZC
  rw[h1];dsimp only;rw[if_pos hlen,h2];rfl
 ·have h3:op2 gEq (ZbF (Zo 2)) (ZbF (Zo 0)) [some (.pl (.list (g.map Za8))),some (.pl (.dict (Zi (encM M)))),some (.ol (ns.map dI))]=some (.bool (decide (ns.length=g.length))):=by
   show gEq (.int ((ns.map dI).length:Int)) (.int ((g.map Za8).length:Int))=_;rw[ZwD,ZwD]
   by_cases e:ns.length=g.length
   ·rw[e,Zg2 (Zeg 1 _) (by decide)]
    simp
   ·rw[ZjG (Zeg 1 _) (Zeg 1 _) (by decide) (by decide) (λz=>e (by injection z with z; omega))]
    simp[e]
  have h4:ZeP (Zo 2) [some (.pl (.list (g.map Za8))),some (.pl (.dict (Zi (encM M)))),some (.ol (ns.map dI))]=ns.max?.map λi=>Zxv i:=by show(match Zax (ns.map dI)with | some ns=>ns.max?.map λi=>Zxv i | none=>none)=_;rw[ZdU]
  unfold ZJ eIf tV;rw[h3];unfold Zb6;rw[hN]
  by_cases e:ns.length=g.length
  ·rw[if_pos (hfl.mp e),decide_eq_true e]
   show ZaL (Zyv Out.rt (ZeP (Zo 2) _))=_;rw[h4];have hne:ns≠[]:=λz=>by rw[z]at e;exact h0 (Zy6 e.symm)
   cases hq:ns.max? with
   | none=>rw[ZA5]at hq; exact absurd hq hne
   | some m=>rfl
  ·rw[if_neg λz=>e (hfl.mpr z),decide_eq_false e]
   rfl
theorem ZnW{y:Wy}(hy:y.2.length<1000)(h0:y.2≠[])(M:Tb):Zcq [wyD y,.dict (Zi (encM M))]=some (oI (cbD y M)):=by
 have h:=Zfx hy h0 (M:=M);have h':Z0 [.list (y.2.map Za8),.dict (Zi (encM M))]=some (oI (Zb6 (wyP y) M)):=h;show ZaL (ZfI [some (.pl (wyD y)),some (.pl (.dict (Zi (encM M)))),none])=_;unfold ZfI cbD;refine Z7 (P:=λq=>ZaL q=_) (r':=[some (.pl (wyD y)),some (.pl (.dict (Zi (encM M)))),some (.pl (oI (Zb6 (wyP y) M)))]) ?_ ?_
 ·unfold Zan Zn
  show Zyv _ (Z0 [.list (y.2.map Za8),.dict (Zi (encM M))])=_;rw[h'];rfl
 ·cases Zb6 (wyP y) M<;>rfl
def Zhz(w:Wk)(ls:List Int)(L:List (List Int))(M:Tb):Prop:=∃t,ZgN w ls L t M/\ZeR w ls L M=[]
theorem ZjE{ps:List (List Int)}{M:Tb}{m:Int}(h:Zb6 ps M=some m):(∀p∈ps,∃k,Zf M p=some k/\k<=m)/\∃p∈ps,Zf M p=some m:=by
 unfold Zb6 at h;split at h
 ·rename_i ha
  obtain⟨m1,m2⟩:=ZzS.mp h;refine⟨λp hp=>?_,?_⟩
  ·have hh:=ZwK.mp ha p hp
   unfold ZM at hh;obtain⟨k,hk⟩:=Zxt.mp hh;exact⟨k,hk,m2 _ (ZxW.mpr ⟨p,hp,hk⟩)⟩
  ·obtain⟨p,hp,e⟩:=ZxW.mp m1
   exact⟨p,hp,e⟩
 ·cases h
theorem ZjB{ps:List (List Int)}{M:Tb}(h0:ps≠[])(h:Zb6 ps M=none):ps.all (ZM M)=false:=by
 cases hq:ps.all (ZM M)with
 | false=>rfl
 | true=>unfold Zb6 at h;rw[hq,if_pos rfl,ZA5]at h;obtain⟨p,r,rfl⟩:=ZAo h0;have hh:=ZwK.mp hq p (ZwI ..);unfold ZM at hh;obtain⟨k,hk⟩:=Zxt.mp hh;rw[ZxP,hk]at h;cases h
section
variable{w:Wk}{ls:List Int}{L:List (List Int)}(hL:ZdH w ls L)(hne:∀c∈L,c≠[])
include hL hne
theorem Zo1{t:Nat}{M:Tb}(T:ZgN w ls L t M){c:List Int}(hc:c∈L)(hn:ZM M c=false):Zb4 cbD (wfV w ls c) M=if ZeB w ls c M then some ((t+1:Nat):Int)else none:=by
 have known:∀{p:List Int} {k:Int},Zf M p=some k->∃n:Nat,k=(n:Int)/\n<=t/\Win w ls n p=true:=λ{p k} h=>by
  rw[T.look]at h;split at h
  ·obtain⟨n,h1,h2,h3,_⟩:=ZgB h
   exact⟨n,h1,h2,h3⟩
  ·cases h
 have val:∀y∈wfV w ls c,∀k,cbD y M=some k->k=((t+1:Nat):Int)/\ZeB w ls c M=true:=λy hy k hk=>by
  obtain⟨d,hd,rfl⟩:=ZwN.mp hy;obtain⟨d0,d1,d2⟩:=ZdX hd;have e:((d.toNat:Nat):Int)=d:=Zyk d0;obtain⟨m,h1,h2⟩:=ZwE.mp hk;have h1:Zb6 (ZQ w ls (ZaD w c d)) M=some m:=h1;obtain⟨w1,p,hp,w2⟩:=ZjE h1;obtain⟨n,rfl,hnt,_⟩:=known w2;refine⟨?_,Zxb.mpr ⟨d.toNat,ZwW.mpr (by omega),?_⟩⟩
  ·subst h2
   by_cases hlt:n<t
   ·-- then the crowd would be known already
    have hw:Win w ls (n+1) c=true:=by show(ZY w c||_)=true;rw[Zyb];refine .inr (Zxb.mpr ⟨d.toNat,ZwW.mpr (by omega),?_⟩);rw[e,d2,ZBa];refine ZwK.mpr λq hq=>?_;obtain⟨k,k1,k2⟩:=w1 q hq;obtain⟨n',rfl,_,hw'⟩:=known k1;exact ZdO (by omega) hw'
    have:ZM M c=true:=by unfold ZM;rw[T.look,if_pos hc,Zbo];exact ZdO (by omega) hw
    rw[hn]at this;cases this
   ·show(n:Int)+1=_
    omega
  ·rw[e,d2,ZBa]
   refine ZwK.mpr λq hq=>?_;obtain⟨k,k1,_⟩:=w1 q hq;unfold ZM;rw[k1];rfl
 have all_eq:∀k∈(wfV w ls c).filterMap (λy=>cbD y M),k=((t+1:Nat):Int)/\ZeB w ls c M=true:=λk hk=>by obtain⟨y,hy,e⟩:=ZxW.mp hk;exact val y hy k e
 unfold Zb4;cases hcan:ZeB w ls c M with
 | false =>
  have:(wfV w ls c).filterMap (λy=>cbD y M)=[]:=List.eq_nil_iff_forall_not_mem.mpr λk hk=>by have:=(all_eq k hk).2;rw[hcan]at this;cases this
  rw[this];rfl
 | true =>
  obtain⟨d,hd,hq⟩:=Zxb.mp hcan;rw[ZwZ]at hq;have hd':=ZwW.mp hd;have hy:Zkc w ls c (d:Int)∈wfV w ls c:=ZwN.mpr ⟨(d:Int),ZoG hd' hq.1,rfl⟩;have hpn:ZQ w ls (ZaD w c d)≠[]:=Zg1 (Zmh (hne c hc) hq.1);have hk:∃k,cbD (Zkc w ls c d) M=some k:=by
   unfold cbD;cases hw:Zb6 (wyP (Zkc w ls c d)) M with
   | none=>have:=ZjB hpn hw;rw[show(ZQ w ls (ZaD w c d)).all (ZM M)=true from hq.2]at this;cases this
   | some m=>exact⟨m+1,rfl⟩
  obtain⟨k,hk⟩:=hk;have hm:k∈(wfV w ls c).filterMap (λy=>cbD y M):=ZxW.mpr ⟨_,hy,hk⟩;cases hmin:((wfV w ls c).filterMap λy=>cbD y M).min? with
  | none=>rw[ZA4]at hmin; rw[hmin]at hm; simp at hm
  | some m=>have:=(ZzT.mp hmin).1;rw[(all_eq m this).1];rfl
theorem Zr0{t:Nat}{M:Tb}(T:ZgN w ls L t M):Zat (wfV w ls) cbD L M=(ZeR w ls L M).map λc=>(c,((t+1:Nat):Int)):=by
 unfold Zat ZeR;have key:∀K:List (List Int),(∀c∈K,c∈L)->(K.filterMap λc=>if ZM M c then none else(Zb4 cbD (wfV w ls c) M).map λk=>(c,k))=(K.filter λc=>!ZM M c&&ZeB w ls c M).map λc=>(c,((t+1:Nat):Int)):=by
  intro K
  induction K with
  | nil=>intro _; rfl
  | cons c K ih =>
   intro hK;have ih:=ih λx hx=>hK x (ZwJ _ hx);rw[ZxP,Zx0];cases hh:ZM M c with
   | true=>simpa using ih
   | false =>
    have hle:=Zo1 hL hne T (hK c (ZwI ..)) hh;rw[hle];cases hcan:ZeB w ls c M with
    | false=>simpa [hcan]using ih
    | true=>simpa [hcan]using ih
 exact key L λ_ h=>h
theorem ZsR{M R:Tb}{k:Option Int}{found:List (List Int)}(r:ZiU (wfV w ls) cbD L M k found R):∀t:Nat,(found=[]->ZgN w ls L t M/\ZeR w ls L M=[])->(found≠[]->k=some (t:Int)/\ZgN w ls L t (ZaZ found t M))->Zhz w ls L R:=by
 induction r with
 | done=>intro t h _; exact⟨t,h rfl⟩
 | @step M R k found hf _ ih =>
  intro t _ h;obtain⟨hk,T⟩:=h hf;cases hk;have ho:=Zr0 hL hne T;have hmin:∀ms:List (List Int),ZeA (ms.map λc=>(c,((t+1:Nat):Int)))=ms/\(ms≠[]->ZbG (ms.map λc=>(c,((t+1:Nat):Int)))=some ((t+1:Nat):Int)):=λms=>by
   cases ms with
   | nil=>exact⟨rfl,λz=>absurd rfl z⟩
   | cons c ms =>
    have hO:ZbG ((c::ms).map λc=>(c,((t+1:Nat):Int)))=some ((t+1:Nat):Int):=by unfold ZbG;rw[Zw2];refine ZzT.mpr ⟨ZwN.mpr ⟨c,ZwI ..,rfl⟩,λb hb=>?_⟩;obtain⟨c',_,rfl⟩:=ZwN.mp hb;exact Int.le_refl _
    refine⟨?_,λ_=>hO⟩;unfold ZeA;rw[hO];have:∀xs:List (List Int),((xs.map λc=>(c,((t+1:Nat):Int))).filter λp=>some p.2==some ((t+1:Nat):Int)).map (·.1)=xs:=by
     intro xs
     induction xs with
     | nil=>rfl
     | cons x xs ih=>simp at ih ⊢; exact ih
    exact this _
  obtain⟨m1,m2⟩:=hmin (ZeR w ls L (ZaZ found t M));rw[ho,m1]at ih;refine ih (if ZeR w ls L (ZaZ found t M)=[]then t else t+1) (λe=>?_) λe=>?_
  ·rw[if_pos e]
   exact⟨T,e⟩
  ·rw[if_neg e]
   exact⟨m2 e,ZmF hL T⟩
theorem ZrY(hv:Wk.V w){R:Tb}(r:ZiU (wfV w ls) cbD L [] (some 0) (L.filter λc=>ZY w c) R):Zhz w ls L R:=by
 refine ZsR hL hne r 0 (λe=>?_) λ_=>⟨rfl,Zmf⟩;have T:ZgN w ls L 0 (M0 w L):=Zmf;have e0:M0 w L=[]:=by unfold M0; rw[e]; rfl
 rw[e0]at T;refine⟨T,Zyz.mpr λc hc h=>?_⟩;rw[ZwZ]at h;obtain⟨d,hd,hq⟩:=Zxb.mp h.2;rw[ZwZ]at hq;obtain⟨p,hp⟩:=ZAA _ (Zg1 (w:=w) (ls:=ls) (Zmh (hne c hc) hq.1));have:=ZwK.mp hq.2 p hp;cases this
end
theorem Znc{w:Wk}(hv:Wk.V w){ap:AP}(A:ApD ap){ls:List Int}{L:List (List Int)}(hnd:L.Nodup)(hcr:∀c∈L,Cr w.many c/\c≠[])(hlen:L.length<=128)(hL:ZdH w ls L):∃M,ZcD ap [w.d,.dict (Zi (ZpH w ls L))]=some (.dict (Zi (encM M)))/\Zhz w ls L M:=by
 have hys:∀c∈L,(wfV w ls c).length<1000:=λc hc=>by unfold wfV;rw[ZwD];have:=ZjR w c;have:=hv.d2;omega
 obtain⟨R,e,r⟩:=ZnT hv (ap:=ap) (wf:=wfV w ls) (t:=0) (cs:=[]) (cb:=cbD) hnd hlen (λc hc=>(hcr c hc).1) hys λc hc y hy M=>by
  rw[A.d0];obtain⟨d,hd,rfl⟩:=ZwN.mp hy;obtain⟨d0,d1,d2⟩:=ZdX hd;refine ZnW ?_ ?_ M
  ·have:=split_len (w:=w) (ls:=ls) (c:=ZaD w c d)
   have:=(Zdh hv (hcr c hc).1 d0 d1).len;have:=hv.m2;show(ZbE w ls (ZaD w c d)).length<1000;omega
  ·exact λz=>Zg1 (w:=w) (ls:=ls) (Zmh (hcr c hc).2 d2) (by unfold ZQ; rw[show ZbE w ls (ZaD w c d)=[] from z]; rfl)
 refine⟨R,?_,ZrY hL (λc hc=>(hcr c hc).2) hv r⟩;show ZaL (Ze1 ap [some (.pl w.d),some (.pl (.dict (Zi (ZpH w ls L))))])=_;unfold Ze1 ZJ Zn;show ZaL (Zyv Out.rt (Zcp ap [w.d,.dict (Zi (Zr (wfV w ls) L)),fnD 0 []]))=_;rw[e];rfl
end HG5
namespace HG5
open PySem HM HG HG4
theorem Zhz.cost{w:Wk}{ls:List Int}{L:List (List Int)}{M:Tb}(F:Zhz w ls L M){c:List Int}{k:Int}(h:Zf M c=some k):c∈L/\∃n:Nat,k=(n:Int)/\Win w ls n c=true/\∀m,m<n->Win w ls m c=false:=by
 obtain⟨t,T,_⟩:=F;rw[T.look]at h;split at h
 ·rename_i hc
  obtain⟨n,h1,_,h2,h3⟩:=ZgB h;exact⟨hc,n,h1,h2,h3⟩
 ·cases h
theorem Zhz.all{w:Wk}{ls:List Int}{L:List (List Int)}(hL:ZdH w ls L){M:Tb}(F:Zhz w ls L M){c:List Int}(hc:c∈L){n:Nat}(h:Win w ls n c=true):ZM M c=true:=by
 obtain⟨t,T,hm⟩:=F;have T':=ZmF hL T;rw[hm]at T';have st:∀c∈L,Win w ls (t+1) c=true->Win w ls t c=true:=λc hc q=>by have e1:=T.look c;have e2:=T'.look c;rw[if_pos hc]at e1 e2;have e3:Zbn w ls t c=Zbn w ls (t+1) c:=e1.symm.trans e2;rw[<-Zbo,e3,Zbo];exact q
 have:=ZgG hL st n c hc h;unfold ZM;rw[T.look,if_pos hc,Zbo];exact this
def Zwk(w:Wk)(ls:List Int)(P:List (List Int))(d:D):Prop:=(∃n:Nat,d=.int n/\(∀p∈P,Win w ls n p=true)/\∀m,m<n->¬∀p∈P,Win w ls m p=true)\/(d=.none/\∀n,¬∀p∈P,Win w ls n p=true)
theorem ZrC{w:Wk}{ls:List Int}{L:List (List Int)}(hL:ZdH w ls L){M:Tb}(F:Zhz w ls L M){g:Gs}(hg:g.length<1000)(h0:g≠[])(hp:∀p∈g.map (·.2),p∈L):∃d,Z0 [.list (g.map Za8),.dict (Zi (encM M))]=some d/\Zwk w ls (g.map (·.2)) d:=by
 rw[Zfx hg h0];refine⟨_,rfl,?_⟩;have hne:g.map (·.2)≠[]:=λe=>h0 (List.map_eq_nil_iff.mp e);cases hq:Zb6 (g.map (·.2)) M with
 | none=>refine .inr ⟨rfl,λn hn=>?_⟩;have h1:=ZjB hne hq;have:(g.map (·.2)).all (ZM M)=true:=ZwK.mpr λp h=>F.all hL (hp p h) (hn p h);rw[h1]at this;cases this
 | some m =>
  obtain⟨w1,p,hpm,w2⟩:=ZjE hq;obtain⟨_,n,rfl,k3,k4⟩:=F.cost w2;refine .inl ⟨n,rfl,λq hq'=>?_,λj hj hw=>?_⟩
  ·obtain⟨k,a1,a2⟩:=w1 q hq'
   obtain⟨_,n',rfl,a3,_⟩:=F.cost a1;exact ZdO (by omega) a3
  ·have:=hw p hpm
   rw[k4 j hj]at this;cases this
section
variable{w:Wk}(hv:Wk.V w)(h7:w.many<=7){ls:List Int}(hl:Cr w.looks.length ls)
include hv h7 hl
theorem Zp5{ap:AP}(A:ApD ap):∃d,Zde ap [w.d,tupI ls]=some d/\Few w ls d:=by obtain⟨L,hco,hnd,hlen,hcr,_,hL,hbg⟩:=ZjW hv h7 hl A hv.bc;obtain⟨M,hde,F⟩:=Znc hv A hnd hcr hlen hL;have hpa:=ZhT hv hl hv.bc;have hsl:=split_len (w:=w) (ls:=ls) (c:=w.beg);have hbl:=hv.bc.len;have hsn:ZbE w ls w.beg≠[]:=λe=>Zg1 (w:=w) (ls:=ls) hv.b1 (by unfold ZQ; rw[e]; rfl);obtain⟨d,hm,fw⟩:=ZrC hL F (g:=ZbE w ls w.beg) (by omega) hsn hbg;refine⟨d,?_,fw⟩;have hc1:=Zjk hv;have hc2:=ZiR hv hl;have hb:=ZiC w;show ZaL (Zhk ap [some (.pl w.d),some (.pl (tupI ls)),none,none])=_;simp[Zhk,hc1,hc2,hb,hco,hde,hpa,hm,ZaL]
end
theorem Zwa:ApD ap:=⟨λ_=>rfl,λ_ _=>rfl⟩
end HG5
namespace HG22
open PySem HM HG4
open HG
open HG5
def Zeq(ap:AP):SF :=
 (Zy (Zlp (Zn ZbM (Zd (Zb 0) Zm)))
  (Zy (Zan 1 (Zfm (Zbp (Zn Zba (Zd (Zb 0) Zm)))))
  (ZJ (Zn (Zde ap) (Zd (ZdK (Zd (Zn Zba (Zd (Zb 0) Zm)) (Zd (Zn Zao (Zd (Zb 0) Zm)) (Zd (ZdK (Zd (Zb 1) Zm)) (Zd (Zn ZbS (Zd (Zb 0) Zm)) (Zd (Zn ZbN (Zd (Zb 0) Zm)) Zm)))))) (Zd (ZdK (Zd (eC (.int 0)) Zm)) Zm))))))
def Zck(ap:AP):List D->Option D:=fnOf 1 2 (Zeq ap)
def ZhZ(ap:AP):SF :=
 (ZfW 2 (Zb 3) (Zb 4))
def Zga(ap:AP):SF :=
 (Zy (ZT 8 (ZC (ZW (bOf (eIx (Zo 7) (Zb 3)))) (tV (ZcG (Zb 0) (Zo 3))) (Zb 0)))
  (Zfo 8 (sIf (Zf1 (tV (op2 gNe (eIx (Zo 7) (Zb 3)) (ZdK Zm))) (tV (op2 gEq (Zb 8) (eOf (ZcF Zm))))) (ZcV 6 (Zb 7)) Za9)))
def Zgb(ap:AP):SF :=
 (Zy (ZT 6 (ZcF Zm))
  (Zy (ZaC 7 (ZW (bOf (eIx (Zo 1) (eC (.int 1))))) (Zga ap))
  (Zfo 6 (sIf (Zf1 (tV (ZcG (Zb 3) (Zo 2))) (tV (op2 gNe (Zb 6) (eOf (ZcF Zm))))) (ZcV 5 (Zb 3)) Za9))))
def ZeV(ap:AP):SF :=
 (Zy (ZT 5 (ZcF Zm))
  (Zy (ZaC 3 (Zbp (eIx (Zo 1) (eC (.int 0)))) (Zgb ap))
  (Zfo 5 (ZaC 3 (ZW (bOf (Zb 5))) (ZhZ ap)))))
def ZjI(ap:AP):SF :=
 (ZfW 2 (Zb 3) (eC (.int 0)))
def ZlD(ap:AP):SF :=
 (Zy (Zan 1 (Zn ZaA (Zd (Zb 0) (Zd (eC (.int 0)) Zm))))
  (Zy (ZT 2 fDk)
  (Zy (ZaC 3 (ZW (bOf (eIx (Zo 1) (eC (.int 4))))) (ZjI ap))
  (Zy (ZaC 4 (Zh5 (eC (.int 1)) (op2 ZaO (eIx (Zo 1) (eC (.int 0))) (eC (.int 1)))) (ZeV ap))
  (Zy (Zan 9 (Zn (Zck ap) (Zd (Zb 1) Zm)))
  (Zy (sIf (Zhw (ZC (ZW (bOf (eIx (Zo 1) (eC (.int 3))))) (tV (ZcG (Zb 0) (Zo 3))) (Zb 0))) (ZJ (op2 ZpC (Zb 9) (eC .none))) Za9)
  (ZJ (ZeC (Zn Zbx (Zd (Zb 9) Zm)) (op2 gEq (Zb 9) (ZeP (ZC (ZW (bOf (eIx (Zo 1) (eC (.int 3))))) Zac (ZiQ 3 (Zb 0)))))))))))))
def Zef(ap:AP):List D->Option D:=fnOf 1 10 (ZlD ap)
end HG22
namespace HG22
open PySem HM HG4
open HG
open HG5
def ZaP(w:Wk):Wk:={ w with looks:=[(ZwG w.many).map λ(k:Nat)=>(k:Int)] }
theorem Zsu{w:Wk}(hv:Wk.V w):Wk.V (ZaP w):=by
 refine⟨hv.m1,hv.m2,hv.d1,hv.d2,hv.dl,hv.dc,by simp[ZaP],λl hl=>?_,λl hl x hx=>?_,hv.b1,hv.bc,hv.gc⟩
 ·have:l=(ZwG w.many).map λ(k:Nat)=>(k:Int):=by simpa [ZaP]using hl
  rw[this];simp[ZaP]
 ·have:l=(ZwG w.many).map λ(k:Nat)=>(k:Int):=by simpa [ZaP]using hl
  rw[this]at hx;obtain⟨k,hk,rfl⟩:=ZwN.mp hx;have:=ZwW.mp hk;have:=hv.m2;omega
theorem Zng{w:Wk}{s:Int}(h0:0<=s)(h1:s<(w.many:Int)):ZH (ZaP w) [0] s=[s]:=by
 have:((ZwG w.many).map λ(k:Nat)=>(k:Int))[s.toNat]?=some s:=by rw[Zw3,List.getElem?_range (by omega)];simp;omega
 simp[ZH,ZaP,Zjy,this]
theorem ZiZ{w:Wk}{c:List Int}(hc:Cr w.many c){s:Int}(hs:s∈c):Zie (ZaP w) [0] c s=[s]:=by
 have e:Zie (ZaP w) [0] c s=c.filter λx=>x==s:=by unfold Zie;refine List.filter_congr λx hx=>?_;rw[Zng (hc.2 x hx).1 (hc.2 x hx).2,Zng (hc.2 s hs).1 (hc.2 s hs).2];simp
 rw[e];have hn:c.Nodup:=hc.1.imp λ{a b} h e=>by omega
 clear e hc
 induction c with
 | nil=>simp at hs
 | cons x c ih =>
  rw[Zxs]at hn;rw[Zx0]
  by_cases e:x=s
  ·subst e
   have:c.filter (λy=>y==x)=[]:=Zyz.mpr λy hy z=>hn.1 (by have:=beq_iff_eq.mp z; rw[<-this]; exact hy);simp[this]
  ·rcases Zw0.mp hs with z | z
   ·exact absurd z.symm e
   ·rw[if_neg (by simpa using e)]
    exact ih z hn.2
theorem Zkr{w:Wk}{c:List Int}(hc:Cr w.many c){P:List Int->Bool}:(ZQ (ZaP w) [0] c).all P=c.all λs=>P [s]:=by
 rw[Zyd,ZwK,ZwK]
 constructor
 ·intro h s hs
  rw[<-ZiZ hc hs];exact h _ (Zeo.mpr ⟨s,hs,rfl⟩)
 ·intro h p hp
  obtain⟨s,hs,rfl⟩:=Zeo.mp hp;rw[ZiZ hc hs];exact h s hs
def SW(w:Wk)(n:Nat)(s:Int):Bool:=Win (ZaP w) [0] n [s]
theorem ZmP{w:Wk}{s:Int}(h0:0<=s)(h1:s<(w.many:Int)):Cr w.many [s]:=⟨by simp,λx hx=>by rw[ZwT.mp hx]; exact⟨h0,h1⟩⟩
theorem Zki(w:Wk)(s:Int):SW w 0 s=w.goal.contains s:=by show([s].all λs=>w.goal.contains s)=_;rw[ZxN,Zz2,Bool.and_true]
def Zh2(w:Wk)(n:Nat)(s:Int)(r:List Int):Bool:=!r.isEmpty&&r.all (SW w n)
theorem Ztm{w:Wk}(hv:Wk.V w)(n:Nat){s:Int}(h0:0<=s)(h1:s<(w.many:Int)):SW w (n+1) s=(w.goal.contains s||(ZwG w.deeds.length).any λ(d:Nat)=>Zh2 w n s (ZaU w d s)):=by
 have e:SW w (n+1) s=(ZY w [s]||(ZwG w.deeds.length).any λd=>ZbB w [s] d&&(ZQ (ZaP w) [0] (ZaD w [s] d)).all λp=>Win (ZaP w) [0] n p):=rfl;rw[e];have e2:ZY w [s]=w.goal.contains s:=Zki w s;rw[e2];congr 1;rw[Zyd,Zxb,Zxb];have key:∀d∈ZwG w.deeds.length,(ZbB w [s] (d:Int)&&(ZQ (ZaP w) [0] (ZaD w [s] (d:Int))).all λp=>Win (ZaP w) [0] n p)=Zh2 w n s (ZaU w d s):=λd hd=>by
  have hd:=ZwW.mp hd;rw[Zkr (Zdh hv (ZmP h0 h1) (show(0:Int)<=(d:Int) by omega) (by omega))];have c1:ZbB w [s] (d:Int)=!(ZaU w d s).isEmpty:=by show([s].all λs=>decide (0<(ZaU w d s).length))=_;rw[ZxN,Zz2,Bool.and_true];cases ZaU w d s<;>simp
  rw[c1];unfold Zh2;congr 1;rw[Zyd,ZwK,ZwK]
  constructor
  ·intro h t ht
   exact h t (Zh1.mpr ⟨s,ZwT.mpr rfl,ht⟩)
  ·intro h t ht
   obtain⟨s',hs',ht'⟩:=Zh1.mp ht;rw[ZwT.mp hs']at ht';exact h t ht'
 constructor
 ·rintro ⟨d,hd,q⟩
  exact⟨d,hd,by rw[<-key d hd]; exact q⟩
 ·rintro ⟨d,hd,q⟩
  exact⟨d,hd,by rw[key d hd]; exact q⟩
theorem any_range{α:Type}(xs:List α)(z:α)(P:α->Bool):(ZwG xs.length).any (λd=>P (xs[d]?.getD z))=xs.any P:=by
 rw[Zyd,Zxb,Zxb]
 constructor
 ·rintro ⟨d,hd,q⟩
  have hd:=ZwW.mp hd;rw[ZwR hd]at q;exact⟨xs[d],ZxY hd,q⟩
 ·rintro ⟨x,hx,q⟩
  obtain⟨d,hd,e⟩:=List.mem_iff_getElem.mp hx;refine⟨d,ZwW.mpr hd,?_⟩;rw[ZwR hd,e];exact q
abbrev Ti:=List (Int × Int)
def ZB(M:Ti):List (Ky × D):=M.map λp=>(ZxJ p.1,dI p.2)
theorem ZkE(M:Ti)(k:Int):Zf (ZB M) (ZxJ k)=(Zf M k).map dI:=by
 unfold Zf ZB;rw[ZA3,Option.map_map,Option.map_map];have e:((λp:Ky × D=>decide (p.1=ZxJ k))∘λp:Int × Int=>(ZxJ p.1,dI p.2))=λp=>decide (p.1=k):=by
  funext p
  simp
 rw[e];rfl
theorem Zm7(M:Ti)(k v:Int):putD (ZB M) (ZxJ k) (dI v)=ZB (putD M k v):=by
 unfold putD ZB;rw[ZBh];have e:((λp:Ky × D=>decide (p.1=ZxJ k))∘λp:Int × Int=>(ZxJ p.1,dI p.2))=λp=>decide (p.1=k):=by
  funext p
  simp
 rw[e];split
 ·rw[Zw2,Zw2]
  refine ZxI λp _=>?_
  by_cases h:p.1=k<;>simp[h]
 ·rw[Zxd]
  rfl
theorem ZqV(x k v:Int)(M:Ti):Zf (putD M x v) k=if x=k then some v else Zf M k:=by
 unfold putD;split
 ·rename_i ha
  induction M with
  | nil=>simp at ha
  | cons p M ih =>
   unfold Zf at ih ⊢;rw[ZwL,Zxf,Zxf]
   by_cases hp:p.1=x
   ·rw[if_pos hp]
    by_cases hk:x=k
    ·simp[hp,hk]
    ·have:decide (p.1=k)=false:=decide_eq_false (by rw[hp]; exact hk)
     simp only[this];rw[if_neg hk]
     by_cases hm:(M.any λp=>decide (p.1=x))=true
     ·have:=ih hm
      rw[if_neg hk]at this;exact this
     ·have:M.map (λp=>if p.1=x then(p.1,v)else p)=M:=by
       have hn:∀q∈M,q.1≠x:=λq hq e=>hm (Zxb.mpr ⟨q,hq,decide_eq_true e⟩);exact(ZxI λq hq=>if_neg (hn q hq)).trans (List.map_id M)
      rw[this]
   ·rw[if_neg hp]
    by_cases hk:p.1=k
    ·have hxk:¬x=k:=λe=>hp (hk.trans e.symm)
     simp[hk,hxk]
    ·simp only[decide_eq_false hk]
     refine ih ?_;rw[ZyH,decide_eq_false hp,ZAk]at ha;exact ha
 ·rename_i ha
  unfold Zf;rw[ZzB]
  by_cases hk:x=k
  ·subst hk
   have:M.find? (λp=>decide (p.1=x))=none:=List.find?_eq_none.mpr λq hq e=>ha (Zxb.mpr ⟨q,hq,e⟩);simp[this]
  ·simp[hk]
theorem ZmB(x v:Int)(M:Ti):(putD M x v).length<=M.length+1:=by
 unfold putD;split
 ·rw[ZwD]; omega
 ·rw[ZwY]; exact ZwM _
def Z2(M:Ti)(s:Int):Bool:=(Zf M s).isSome
def ZiS(w:Wk)(t:Nat)(M:Ti):Prop:=∀s,Zf M s=if 0<=s/\s<(w.many:Int)then Zbn (ZaP w) [0] t [s]else none
theorem Zgm{w:Wk}{t:Nat}{M:Ti}(T:ZiS w t M){s:Int}(h0:0<=s)(h1:s<(w.many:Int)):Z2 M s=SW w t s:=by unfold Z2;rw[T s,if_pos ⟨h0,h1⟩,Zbo];rfl
def Zeb(v:Int)(ss:List Int)(M:Ti):Ti:=ss.foldl (λM s=>putD M s v) M
theorem ZgH(v k:Int):∀(ss:List Int) (M:Ti),Zf (Zeb v ss M) k=if k∈ss then some v else Zf M k
 | [],M=>by simp[Zeb]
 | s::ss,M=>by
  show Zf (Zeb v ss (putD M s v)) k=_;rw[ZgH v k ss,ZqV]
  by_cases h1:k∈ss
  ·rw[if_pos h1,if_pos (ZwJ _ h1)]
  ·rw[if_neg h1]
   by_cases h2:s=k
   ·subst h2; rw[if_pos rfl,if_pos (ZwI ..)]
   ·rw[if_neg h2,if_neg λz=>by
     rcases Zw0.mp z with e | e
     ·exact h2 e.symm
     ·exact h1 e]
theorem ZhQ(v:Int):∀(ss:List Int) (M:Ti),(Zeb v ss M).length<=M.length+ss.length
 | [],M=>ZwM _
 | s::ss,M=>by have h1:=ZhQ v ss (putD M s v);have h2:=ZmB s v M;rw[ZwS];show(Zeb v ss (putD M s v)).length<=_;omega
def Zad(M:Ti)(s:Nat)(dd:List (List Int)):Bool:=!(dd[s]?.getD []).isEmpty&&(dd[s]?.getD []).all (Z2 M)
def ZdI(w:Wk)(M:Ti):List Nat:=(ZwG w.many).filter λs=>!Z2 M s&&w.deeds.any (Zad M s)
theorem Zrg{w:Wk}(hv:Wk.V w){t:Nat}{M:Ti}(T:ZiS w t M):ZiS w (t+1) (Zeb ((t+1:Nat):Int) ((ZdI w M).map λ(k:Nat)=>(k:Int)) M):=by
 intro s;rw[ZgH]
 by_cases hs:0<=s/\s<(w.many:Int)
 ·obtain⟨h0,h1⟩:=hs
  have hin:(s∈(ZdI w M).map λ(k:Nat)=>(k:Int))↔s.toNat∈ZdI w M:=by
   constructor
   ·intro h
    obtain⟨k,hk,rfl⟩:=ZwN.mp h;simpa using hk
   ·intro h
    exact ZwN.mpr ⟨s.toNat,h,Zyk h0⟩
  have hgood:w.deeds.any (Zad M s.toNat)=(ZwG w.deeds.length).any λ(d:Nat)=>Zh2 w t s (ZaU w d s):=by
   rw[<-any_range w.deeds [] (Zad M s.toNat)];rw[Zyd,Zxb,Zxb];have key:∀d∈ZwG w.deeds.length,Zad M s.toNat (w.deeds[d]?.getD [])=Zh2 w t s (ZaU w d s):=λd hd=>by
    have hd:=ZwW.mp hd;have er:(w.deeds[d]?.getD [])[s.toNat]?.getD []=ZaU w d s:=by unfold ZaU;rw[Zza]
    unfold Zad Zh2;rw[er];congr 1;rw[Zyd,ZwK,ZwK];have hrow:∀x∈ZaU w d s,0<=x/\x<(w.many:Int):=λx hx=>by have hc:=Zdh hv (ZmP h0 h1) (show(0:Int)<=(d:Int) by omega) (by omega);exact hc.2 x (Zh1.mpr ⟨s,ZwT.mpr rfl,hx⟩)
    constructor
    ·intro h x hx
     rw[<-Zgm T (hrow x hx).1 (hrow x hx).2];exact h x hx
    ·intro h x hx
     rw[Zgm T (hrow x hx).1 (hrow x hx).2];exact h x hx
   constructor
   ·rintro ⟨d,hd,q⟩
    exact⟨d,hd,by rw[<-key d hd]; exact q⟩
   ·rintro ⟨d,hd,q⟩
    exact⟨d,hd,by rw[key d hd]; exact q⟩
  have hmem:s.toNat∈ZdI w M↔(SW w t s=false/\SW w (t+1) s=true):=by
   unfold ZdI;rw[Zxq,ZwW,Zyk h0,hgood,Zgm T h0 h1,Ztm hv t h0 h1]
   constructor
   ·rintro ⟨_,h⟩
    rw[ZwZ]at h;refine⟨by simpa using h.1,by rw[h.2,Bool.or_true]⟩
   ·rintro ⟨h2,h3⟩
    refine⟨by omega,?_⟩;rw[h2];rw[Zyb]at h3;rcases h3 with h3 | h3
    ·have:SW w t s=true:=ZdO (Zx3 t) (show Win (ZaP w) [0] 0 [s]=true by rw[<-h3]; exact Zki w s)
     rw[h2]at this;cases this
    ·rw[h3]
     rfl
  have hb:0<=s/\s<(w.many:Int):=⟨h0,h1⟩;rw[T s,if_pos hb,if_pos hb,ZjD];have hcs:=Zbo (w:=ZaP w) (ls:=[0]) (t:=t) (c:=[s]);cases hq:Zbn (ZaP w) [0] t [s]with
  | some k=>rw[hq]at hcs;have h2:SW w t s=true:=hcs.symm;rw[if_neg λz=>by have:=(hmem.mp (hin.mp z)).1;rw[h2]at this;cases this]
  | none =>
   rw[hq]at hcs;have h2:SW w t s=false:=hcs.symm
   by_cases h3:SW w (t+1) s=true
   ·rw[if_pos (hin.mpr (hmem.mpr ⟨h2,h3⟩))]
    show _=if SW w (t+1) s=true then _ else _
    rw[if_pos h3]
   ·rw[if_neg λz=>h3 (hmem.mp (hin.mp z)).2]
    show _=if SW w (t+1) s=true then _ else _
    rw[if_neg h3]
 ·rw[if_neg hs,T s,if_neg hs,if_neg λz=>by obtain⟨k,hk,rfl⟩:=ZwN.mp z;have:=ZwW.mp (Zxq.mp hk).1;exact hs ⟨by omega,by omega⟩]
theorem Zqa{w:Wk}(hv:Wk.V w):ZiS w 0 (Zeb 0 w.goal []):=by
 intro s;rw[ZgH];have hz:Zbn (ZaP w) [0] 0 [s]=if w.goal.contains s then some 0 else none:=by
  have h:=Zki w s;unfold Zbn;show((ZwG 1).find? λn=>Win (ZaP w) [0] n [s]).map _=_;have:(λn=>Win (ZaP w) [0] n [s]) 0=w.goal.contains s:=h;cases hg:w.goal.contains s with
  | true=>rw[hg]at this; simp only[show ZwG 1=[0] from rfl,Zxf,this]; rfl
  | false=>rw[hg]at this; simp only[show ZwG 1=[0] from rfl,Zxf,this]; rfl
 rw[hz]
 by_cases hs:s∈w.goal
 ·have:=hv.gc.2 s hs
  rw[if_pos hs,if_pos this,if_pos (by simpa using hs)]
 ·rw[if_neg hs]
  split
  ·rw[if_neg (by simpa using hs)]; rfl
  ·rfl
end HG22
namespace HG22
open PySem HM HG4
open HG
open HG5
theorem ZsQ(dd:List (List Int)):nbD 2 (Zs dd)=true:=ZuB λd hd=>by obtain⟨c,_,rfl⟩:=ZwN.mp hd;exact ZeW 0 c
theorem ZqI(ds:List (List (List Int))):gNe (.list (ds.map Zs)) (.list [])=some (.bool (!ds.isEmpty)):=by
 cases ds with
 | nil=>exact Zme (Zmc (n:=2) λd hd=>by simp at hd) (by decide)
 | cons x ds=>exact ZqD (Zmc (n:=2) λd hd=>by obtain⟨dd,_,rfl⟩:=ZwN.mp hd; exact ZsQ dd) (Zmc (n:=2) λd hd=>by simp at hd) (by decide) (by decide) (by simp)
theorem Zte(r:List Int):gNe (tupI r) (.tuple [])=some (.bool (!r.isEmpty)):=by
 cases r with
 | nil=>exact Zme (ZeW 0 []) (by decide)
 | cons x r=>exact ZqD (ZeW 0 _) (ZeW 0 []) (by decide) (by decide) (by simp)
theorem Zol(M:Ti)(x:Int)(r:HM.Env)(i j:Nat)(h1:r[i]?=some (some (.pl (.int x))))(h2:r[j]?=some (some (.ok (ZB M)))):tV (ZcG (Zb i) (Zo j)) r=some (!Z2 M x):=by
 have hlk:=ZkE M x;unfold Z2;cases hq:Zf M x with
 | none=>rw[hq]at hlk; simp[h1,h2,hlk]
 | some k=>rw[hq]at hlk; simp[h1,h2,hlk]
theorem ZkM(M:Ti)(row:List Int)(hl:row.length<1000)(i:IF)(r:HM.Env)(hi:i r=some (row.map dI))(h2:r[2]?=some (some (.ok (ZB M)))):ZC i (tV (ZcG (Zb 0) (Zo 3))) (Zb 0) r=some (.ol ((row.filter λx=>!Z2 M x).map dI)):=by
 have hg:Zav (tV (ZcG (Zb 0) (Zo 3))) (Zb 0) r (row.map dI)=some ((row.filter λx=>!Z2 M x).map dI):=by
  rw[Zcg dI (λx=>!Z2 M x) dI]
  ·intro x _
   exact Zol M x _ 0 3 rfl (by simpa using h2)
  ·intro x _ _
   rfl
 unfold ZC;rw[hi];dsimp only;rw[if_pos (by rw[ZwD]; show _<1000000; omega),hg];rfl
section
variable{ap:AP}{w:Wk}(hv:Wk.V w){M:Ti}
include hv
theorem Zoo{s:Nat}(hs:s<w.many)(e0 e4 e5 e9:Option B):∀(dds acc:List (List (List Int))) (o7 o8:Option B),(∀dd∈dds,dd∈w.deeds)->acc.length+dds.length<1000 ->
  ∃p7 p8,Zas 7 (Zga ap) (dds.map Zs) [e0,some (.pl w.d),some (.ok (ZB M)),some (.pl (dN s)),e4,e5,some (.ol (acc.map Zs)),o7,o8,e9]=some (.nx [e0,some (.pl w.d),some (.ok (ZB M)),some (.pl (dN s)),e4,e5,some (.ol ((acc++dds.filter (Zad M s)).map Zs)),p7,p8,e9])
 | [],acc,o7,o8,_,_=>⟨o7,o8,by rw[List.filter_nil,Zxe]; rfl⟩
 | dd::dds,acc,o7,o8,hd,hlen=>by
  rw[ZwS]at hlen;have hdm:=hd dd (ZwI ..);have hdl:=hv.dl dd hdm;have hs':s<dd.length:=by omega
  have hrow:dd[s]?.getD []=dd[s]:=by rw[ZwR hs']; rfl
  have hrl:(dd[s]).length<1000:=by have:=(hv.dc dd hdm dd[s] (ZxY hs')).len;have:=hv.m2;omega
  have hix:∀r:HM.Env,r[7]?=some (some (.pl (Zs dd)))->r[3]?=some (some (.pl (dN s)))->eIx (Zo 7) (Zb 3) r=some (tupI dd[s]):=λr h7 h3=>by have ha:atD (dd.map tupI) (s:Int)=some (tupI dd[s]):=Zdm (by rw[Zw3,ZwR hs']; rfl);unfold eIx Zo Zb;rw[h7,h3];exact ha
  generalize hac:(if Zad M s dd then acc++[dd]else acc)=acc';obtain⟨p7,p8,ih⟩:=Zoo hs e0 e4 e5 e9 dds acc' (some (.pl (Zs dd))) (some (.pl (.list ((dd[s].filter λx=>!Z2 M x).map dI)))) (λx hx=>hd x (ZwJ _ hx)) (by rw[<-hac]; split<;>(try rw[ZwY,ZxT])<;>omega)
  refine⟨p7,p8,?_⟩;have hdue:(acc++(dd::dds).filter (Zad M s))=acc'++dds.filter (Zad M s):=by rw[<-hac,Zx0];cases Zad M s dd<;>simp
  rw[hdue,<-ih,ZwL];have body:Zga ap [e0,some (.pl w.d),some (.ok (ZB M)),some (.pl (dN s)),e4,e5,some (.ol (acc.map Zs)),some (.pl (Zs dd)),o8,e9]=some (.nx [e0,some (.pl w.d),some (.ok (ZB M)),some (.pl (dN s)),e4,e5,some (.ol (acc'.map Zs)),some (.pl (Zs dd)),some (.pl (.list ((dd[s].filter λx=>!Z2 M x).map dI))),e9]):=by
   unfold Zga;refine Z7 (P:=λq=>q=_) (r':=[e0,some (.pl w.d),some (.ok (ZB M)),some (.pl (dN s)),e4,e5,some (.ol (acc.map Zs)),some (.pl (Zs dd)),some (.ol ((dd[s].filter λx=>!Z2 M x).map dI)),e9]) ?_ ?_
   ·have hi:ZW (bOf (eIx (Zo 7) (Zb 3))) [e0,some (.pl w.d),some (.ok (ZB M)),some (.pl (dN s)),e4,e5,some (.ol (acc.map Zs)),some (.pl (Zs dd)),o8,e9]=some (dd[s].map dI):=by
     unfold ZW bOf;rw[hix _ rfl rfl];rfl
    unfold ZT;rw[ZkM M dd[s] hrl _ _ hi rfl];rfl
   ·show sIf _ _ _ [e0,some (.pl w.d),some (.ok (ZB M)),some (.pl (dN s)),e4,e5,some (.ol (acc.map Zs)),some (.pl (Zs dd)),some (.pl (.list ((dd[s].filter λx=>!Z2 M x).map dI))),e9]=_
    have t1:tV (op2 gNe (eIx (Zo 7) (Zb 3)) (ZdK Zm)) [e0,some (.pl w.d),some (.ok (ZB M)),some (.pl (dN s)),e4,e5,some (.ol (acc.map Zs)),some (.pl (Zs dd)),some (.pl (.list ((dd[s].filter λx=>!Z2 M x).map dI))),e9]=some (!(dd[s]).isEmpty):=by unfold tV op2;rw[hix _ rfl rfl];show(match gNe (tupI dd[s]) (.tuple [])with | some (.bool b)=>some b | _=>none)=_;rw[Zte]
    have t2:tV (op2 gEq (Zb 8) (eOf (ZcF Zm))) [e0,some (.pl w.d),some (.ok (ZB M)),some (.pl (dN s)),e4,e5,some (.ol (acc.map Zs)),some (.pl (Zs dd)),some (.pl (.list ((dd[s].filter λx=>!Z2 M x).map dI))),e9]=some ((dd[s]).all (Z2 M)):=by show(match gEq (.list ((dd[s].filter λx=>!Z2 M x).map dI)) (.list [])with | some (.bool b)=>some b | _=>none)=_;rw[ZmN (α:=Nat),filter_empty]
    have t3:Zf1 (tV (op2 gNe (eIx (Zo 7) (Zb 3)) (ZdK Zm))) (tV (op2 gEq (Zb 8) (eOf (ZcF Zm)))) [e0,some (.pl w.d),some (.ok (ZB M)),some (.pl (dN s)),e4,e5,some (.ol (acc.map Zs)),some (.pl (Zs dd)),some (.pl (.list ((dd[s].filter λx=>!Z2 M x).map dI))),e9]=some (Zad M s dd):=by unfold Zf1 Zad;rw[t1,t2,hrow];cases(dd[s]).isEmpty<;>rfl
    unfold sIf;rw[t3,<-hac];cases Zad M s dd with
    | false=>rfl
    | true=>show(if(acc.map Zs).length<big then _ else none)=_;rw[if_pos (by rw[ZwD]; show _<1000000; omega)];simp
  show(match Zga ap [e0,some (.pl w.d),some (.ok (ZB M)),some (.pl (dN s)),e4,e5,some (.ol (acc.map Zs)),some (.pl (Zs dd)),o8,e9]with | some (.nx r')=>_ | some (.ct r')=>_ | some (.bk r')=>_ | some (.rt d)=>_ | none=>_)=_;rw[body]
abbrev Zlo(w:Wk)(M:Ti):Nat->Bool:=λ(s:Nat)=>!Z2 M (s:Int)&&w.deeds.any (Zad M s)
theorem Zoi(e0 e4 e9:Option B):∀(ss acc:List Nat) (o3 o6 o7 o8:Option B),(∀s∈ss,s<w.many)->acc.length+ss.length<1000 ->
  ∃p3 p6 p7 p8,Zas 3 (Zgb ap) (ss.map dN) [e0,some (.pl w.d),some (.ok (ZB M)),o3,e4,some (.ol (acc.map dN)),o6,o7,o8,e9]=some (.nx [e0,some (.pl w.d),some (.ok (ZB M)),p3,e4,some (.ol ((acc++ss.filter (Zlo w M)).map dN)),p6,p7,p8,e9])
 | [],acc,o3,o6,o7,o8,_,_=>⟨o3,o6,o7,o8,by rw[List.filter_nil,Zxe]; rfl⟩
 | s::ss,acc,o3,o6,o7,o8,hs,hlen=>by
  rw[ZwS]at hlen;have hsm:=hs s (ZwI ..);have hd5:=hv.d2;obtain⟨q7,q8,hg⟩:=Zoo (ap:=ap) hv (M:=M) hsm e0 e4 (some (.ol (acc.map dN))) e9 w.deeds [] o7 o8 (λ_ h=>h) (by simp; omega);rw[Zy2]at hg;generalize hac:(if !Z2 M s&&w.deeds.any (Zad M s)then acc++[s]else acc)=acc';obtain⟨p3,p6,p7,p8,ih⟩:=Zoi e0 e4 e9 ss acc' (some (.pl (dN s))) (some (.pl (.list ((w.deeds.filter (Zad M s)).map Zs)))) q7 q8 (λx hx=>hs x (ZwJ _ hx)) (by rw[<-hac]; split<;>(try rw[ZwY,ZxT])<;>omega)
  refine⟨p3,p6,p7,p8,?_⟩;have hdue:(acc++(s::ss).filter (Zlo w M))=acc'++ss.filter (Zlo w M):=by
   rw[<-hac,Zx0];show(acc++if(!Z2 M s&&w.deeds.any (Zad M s))=true then _ else _)=(if(!Z2 M s&&w.deeds.any (Zad M s))=true then _ else _)++_;cases !Z2 M s&&w.deeds.any (Zad M s)with
   | false=>rfl
   | true=>exact(Zyi acc [s] _).symm
  rw[hdue,<-ih,ZwL];have body:Zgb ap [e0,some (.pl w.d),some (.ok (ZB M)),some (.pl (dN s)),e4,some (.ol (acc.map dN)),o6,o7,o8,e9]=some (.nx [e0,some (.pl w.d),some (.ok (ZB M)),some (.pl (dN s)),e4,some (.ol (acc'.map dN)),some (.pl (.list ((w.deeds.filter (Zad M s)).map Zs))),q7,q8,e9]):=by
   unfold Zgb;refine Z7 (P:=λq=>q=_) (r':=[e0,some (.pl w.d),some (.ok (ZB M)),some (.pl (dN s)),e4,some (.ol (acc.map dN)),some (.ol []),o7,o8,e9]) rfl ?_;refine Z7 (P:=λq=>q=_) (r':=[e0,some (.pl w.d),some (.ok (ZB M)),some (.pl (dN s)),e4,some (.ol (acc.map dN)),some (.ol ((w.deeds.filter (Zad M s)).map Zs)),q7,q8,e9]) ?_ ?_
   ·have hi:ZW (bOf (eIx (Zo 1) (eC (.int 1)))) [e0,some (.pl w.d),some (.ok (ZB M)),some (.pl (dN s)),e4,some (.ol (acc.map dN)),some (.ol []),o7,o8,e9]=some (w.deeds.map Zs):=rfl
    unfold ZaC;rw[hi];dsimp only;rw[if_pos (by rw[ZwD]; show _<1000000; omega)];exact hg
   ·show sIf _ _ _ [e0,some (.pl w.d),some (.ok (ZB M)),some (.pl (dN s)),e4,some (.ol (acc.map dN)),some (.pl (.list ((w.deeds.filter (Zad M s)).map Zs))),q7,q8,e9]=_
    have t1:=Zol M (s:Int) [e0,some (.pl w.d),some (.ok (ZB M)),some (.pl (dN s)),e4,some (.ol (acc.map dN)),some (.pl (.list ((w.deeds.filter (Zad M s)).map Zs))),q7,q8,e9] 3 2 rfl rfl;have t2:tV (op2 gNe (Zb 6) (eOf (ZcF Zm))) [e0,some (.pl w.d),some (.ok (ZB M)),some (.pl (dN s)),e4,some (.ol (acc.map dN)),some (.pl (.list ((w.deeds.filter (Zad M s)).map Zs))),q7,q8,e9]=some (w.deeds.any (Zad M s)):=by show(match gNe (.list ((w.deeds.filter (Zad M s)).map Zs)) (.list [])with | some (.bool b)=>some b | _=>none)=_;rw[ZqI];show some (!(w.deeds.filter (Zad M s)).isEmpty)=_;congr 1;rw[Zyd,Zxb];simp
    have t3:Zf1 (tV (ZcG (Zb 3) (Zo 2))) (tV (op2 gNe (Zb 6) (eOf (ZcF Zm)))) [e0,some (.pl w.d),some (.ok (ZB M)),some (.pl (dN s)),e4,some (.ol (acc.map dN)),some (.pl (.list ((w.deeds.filter (Zad M s)).map Zs))),q7,q8,e9]=some (!Z2 M s&&w.deeds.any (Zad M s)):=by unfold Zf1;rw[t1,t2];cases Z2 M (s:Int)<;>rfl
    unfold sIf;rw[t3,<-hac];cases !Z2 M s&&w.deeds.any (Zad M s)with
    | false=>rfl
    | true=>show(if(acc.map dN).length<big then _ else none)=_;rw[if_pos (by rw[ZwD]; show _<1000000; omega)];simp
  show(match Zgb ap [e0,some (.pl w.d),some (.ok (ZB M)),some (.pl (dN s)),e4,some (.ol (acc.map dN)),o6,o7,o8,e9]with | some (.nx r')=>_ | some (.ct r')=>_ | some (.bk r')=>_ | some (.rt d)=>_ | none=>_)=_;rw[body]
end
theorem Zj7(i:Nat)(f:SF)(v:Int)(env:Ti->Option B->HM.Env)(hs:∀M o x,(env M o).set i x=env M x)(hb:∀M (s:Int),M.length<100000->f (env M (some (.pl (dI s))))=some (.nx (env (putD M s v) (some (.pl (dI s)))))):∀(ss:List Int) (M:Ti) (o:Option B),M.length+ss.length<90000 ->
  ∃p,Zas i f (ss.map dI) (env M o)=some (.nx (env (Zeb v ss M) p))
 | [],M,o,_=>⟨o,rfl⟩
 | s::ss,M,o,hl=>by rw[ZwS]at hl;have h2:=ZmB s v M;obtain⟨p,ih⟩:=Zj7 i f v env hs hb ss (putD M s v) (some (.pl (dI s))) (by omega);refine⟨p,?_⟩;show(match f ((env M o).set i (some (.pl (dI s))))with | some (.nx r')=>_ | some (.ct r')=>_ | some (.bk r')=>_ | some (.rt d)=>_ | none=>_)=_;rw[hs,hb M s (by omega)];exact ih
end HG22
namespace HG22
open PySem HM HG4
open HG
open HG5
theorem ZmI(l:List Nat):l.map dN=(l.map λ(k:Nat)=>(k:Int)).map dI:=by rw[Zw2]; rfl
theorem Zup(w:Wk):Cr (ZaP w).looks.length [0]:=⟨by simp,λx hx=>by rw[ZwT.mp hx]; exact⟨by decide,by show(0:Int)<((1:Nat):Int); decide⟩⟩
theorem Zlm{ap:AP}(A:ApD ap){w:Wk}(hv:Wk.V w)(h7:w.many<=7):∃d,Zck ap [w.d]=some d/\Few (ZaP w) [0] d:=by
 obtain⟨d,e,f⟩:=Zp5 (Zsu hv) (show(ZaP w).many<=7 from h7) (Zup w) A;refine⟨d,?_,f⟩;have e1:=Zjk hv;have e2:=Zm6 w;have e3:=Zea w;have e4:=ZiC w;have e5:=Zjj w;have e6:Zde ap [.tuple [.int w.many,.tuple (w.deeds.map Zs),.tuple [tupI ((ZwG w.many).map λ(k:Nat)=>(k:Int))],tupI w.beg,tupI w.goal],.tuple [.int 0]]=some d:=e;have e7:Zfm (Zbp (Zn Zba (Zd (Zb 0) Zm))) [some (.pl w.d),none]=some (tupI ((ZwG w.many).map λ(k:Nat)=>(k:Int))):=by
  have hok:=ZcT (n:=w.many) (by omega);have hb:w.many<1000000:=by omega
  simp[e2,hok,Zae,hb]
 show ZaL (Zeq ap [some (.pl w.d),none])=_;unfold Zeq;refine Z7 (P:=λq=>ZaL q=_) (r':=[some (.pl w.d),none]) (by simp[e1]) ?_;refine Z7 (P:=λq=>ZaL q=_) (r':=[some (.pl w.d),some (.pl (tupI ((ZwG w.many).map λ(k:Nat)=>(k:Int))))]) (by unfold Zan; rw[e7]; rfl) ?_;generalize hR:tupI ((ZwG w.many).map λ(k:Nat)=>(k:Int))=R at *;simp[e2,e3,e4,e5,e6,ZaL]
section
variable{ap:AP}{w:Wk}(hv:Wk.V w)(h7:w.many<=7)
include hv h7
theorem ZsP{M:Ti}(hM:M.length<50000)(v:Int)(e0 o3 o5 o6 o7 o8 o9:Option B) :
  ∃p3 p5 p6 p7 p8,ZeV ap [e0,some (.pl w.d),some (.ok (ZB M)),o3,some (.pl (dI v)),o5,o6,o7,o8,o9] =
   some (.nx [e0,some (.pl w.d),some (.ok (ZB (Zeb v ((ZdI w M).map λ(k:Nat)=>(k:Int)) M))),p3,some (.pl (dI v)),p5,p6,p7,p8,o9]):=by
 have hml:(ZdI w M).length<=w.many:=Zxr (ZxL _ _) (by rw[ZxR]; exact ZwM _);obtain⟨p3,p6,p7,p8,h1⟩:=Zoi (ap:=ap) hv (M:=M) e0 (some (.pl (dI v))) o9 (ZwG w.many) [] o3 o6 o7 o8 (λs h=>ZwW.mp h) (by simp; omega);rw[Zy2,ZyP]at h1;have hm:(ZwG w.many).filter (Zlo w M)=ZdI w M:=rfl;rw[hm]at h1;generalize hss:ZdI w M=ss at *;obtain⟨q3,h2⟩:=Zj7 3 (ZhZ ap) v (λM x=>[e0,some (.pl w.d),some (.ok (ZB M)),x,some (.pl (dI v)),some (.pl (.list (ss.map dN))),p6,p7,p8,o9]) (λM o x=>rfl) (λM s hl=>by
  have hp:=Zm7 M s v;have hl2:(ZB M).length<1000000:=by unfold ZB; rw[ZwD]; omega
  simp[ZhZ,hp,hl2]) (ss.map λ(k:Nat)=>(k:Int)) M p3 (by rw[ZwD]; omega)
 refine⟨q3,some (.pl (.list (ss.map dN))),p6,p7,p8,?_⟩;unfold ZeV;refine Z7 (P:=λq=>q=_) (r':=[e0,some (.pl w.d),some (.ok (ZB M)),o3,some (.pl (dI v)),some (.ol []),o6,o7,o8,o9]) rfl ?_;refine Z7 (P:=λq=>q=_) (r':=[e0,some (.pl w.d),some (.ok (ZB M)),p3,some (.pl (dI v)),some (.ol (ss.map dN)),p6,p7,p8,o9]) ?_ ?_
 ·have hi:Zbp (eIx (Zo 1) (eC (.int 0))) [e0,some (.pl w.d),some (.ok (ZB M)),o3,some (.pl (dI v)),some (.ol []),o6,o7,o8,o9]=some ((ZwG w.many).map dN):=by
   have hok:=ZcT (n:=w.many) (by omega);have:eIx (Zo 1) (eC (.int 0)) [e0,some (.pl w.d),some (.ok (ZB M)),o3,some (.pl (dI v)),some (.ol []),o6,o7,o8,o9]=some (.int w.many):=rfl;unfold Zbp;rw[this];dsimp only;rw[if_pos hok,<-Zae];rfl
  unfold ZaC;rw[hi];dsimp only;rw[if_pos (by rw[ZwD,ZxR]; show _<1000000; omega)];exact h1
 ·show ZaC 3 (ZW (bOf (Zb 5))) (ZhZ ap) [e0,some (.pl w.d),some (.ok (ZB M)),p3,some (.pl (dI v)),some (.pl (.list (ss.map dN))),p6,p7,p8,o9]=_
  have hi:ZW (bOf (Zb 5)) [e0,some (.pl w.d),some (.ok (ZB M)),p3,some (.pl (dI v)),some (.pl (.list (ss.map dN))),p6,p7,p8,o9]=some (ss.map dN):=rfl;unfold ZaC;rw[hi];dsimp only;rw[if_pos (by rw[ZwD]; show _<1000000; omega),ZmI];rw[ZmI]at h2;exact h2
theorem ZmC(e0 o9:Option B):∀(n t:Nat) (M:Ti) (o3 o4 o5 o6 o7 o8:Option B),ZiS w t M->M.length<=10*(t+1)->t+n<=7 ->
  ∃M' p3 p4 p5 p6 p7 p8,Zas 4 (ZeV ap) ((ZAW (t+1) n).map dN) [e0,some (.pl w.d),some (.ok (ZB M)),o3,o4,o5,o6,o7,o8,o9] =
   some (.nx [e0,some (.pl w.d),some (.ok (ZB M')),p3,p4,p5,p6,p7,p8,o9])/\ZiS w (t+n) M'
 | 0,t,M,o3,o4,o5,o6,o7,o8,T,_,_=>⟨M,o3,o4,o5,o6,o7,o8,rfl,T⟩
 | n+1,t,M,o3,o4,o5,o6,o7,o8,T,hM,ht=>by obtain⟨p3,p5,p6,p7,p8,e⟩:=ZsP (ap:=ap) hv h7 (M:=M) (by omega) ((t+1:Nat):Int) e0 o3 o5 o6 o7 o8 o9;have T':=Zrg hv T;have hml:(ZdI w M).length<=w.many:=Zxr (ZxL _ _) (by rw[ZxR]; exact ZwM _);have hfl:=ZhQ ((t+1:Nat):Int) ((ZdI w M).map λ(k:Nat)=>(k:Int)) M;rw[ZwD]at hfl;obtain⟨M',q3,q4,q5,q6,q7,q8,f,T''⟩:=ZmC e0 o9 n (t+1) _ p3 (some (.pl (dN (t+1)))) p5 p6 p7 p8 T' (by omega) (by omega);refine⟨M',q3,q4,q5,q6,q7,q8,?_,by rw[show t+(n+1)=t+1+n by omega]; exact T''⟩;rw[List.range'_succ,ZwL,<-f];show(match ZeV ap [e0,some (.pl w.d),some (.ok (ZB M)),o3,some (.pl (dN (t+1))),o5,o6,o7,o8,o9]with | some (.nx r')=>_ | some (.ct r')=>_ | some (.bk r')=>_ | some (.rt d)=>_ | none=>_)=_;have e':ZeV ap [e0,some (.pl w.d),some (.ok (ZB M)),o3,some (.pl (dN (t+1))),o5,o6,o7,o8,o9]=_:=e;rw[e']
end
theorem Zpo{w:Wk}(hv:Wk.V w):ZdH (ZaP w) [0] ((ZwG w.many).map λ(k:Nat)=>[(k:Int)]):=by intro c hc d hd hcan p hp;obtain⟨k,hk,rfl⟩:=ZwN.mp hc;have hk':=ZwW.mp hk;have hcr:=Zdh (Zsu hv) (c:=[(k:Int)]) (ZmP (w:=w) (by omega) (by omega)) (d:=(d:Int)) (by omega) (by omega);obtain⟨s,hs,rfl⟩:=Zeo.mp hp;rw[ZiZ (w:=w) hcr hs];obtain⟨h0,h1⟩:=hcr.2 s hs;have h1':s<(w.many:Int):=h1;exact ZwN.mpr ⟨s.toNat,ZwW.mpr (by omega),by rw[Zyk h0]⟩
theorem Zue{w:Wk}(hv:Wk.V w){s:Int}(h0:0<=s)(h1:s<(w.many:Int)){n:Nat}(q:SW w n s=true):SW w w.many s=true:=by have:=Ztf (Zpo hv) (c:=[s]) (ZwN.mpr ⟨s.toNat,ZwW.mpr (by omega),by rw[Zyk h0]⟩) q;rw[ZwD,ZxR]at this;exact this
theorem Zg0{w:Wk}(hv:Wk.V w)(n:Nat):ZpB (ZaP w) [0] n↔∀s∈w.beg,SW w n s=true:=by have:=Zkr (w:=w) hv.bc (P:=λp=>Win (ZaP w) [0] n p);rw[Zyd,ZwK,ZwK]at this;exact this
theorem Zqo{w:Wk}(hv:Wk.V w){M:Ti}(T:ZiS w w.many M)(hall:∀s∈w.beg,Z2 M s=true){d:D}(f:Few (ZaP w) [0] d):∃n:Nat,d=.int n/\(w.beg.map λs=>(Zf M s).getD 0).max?=some (n:Int):=by
 have hb:∀s∈w.beg,0<=s/\s<(w.many:Int):=hv.bc.2;rcases f with⟨n,rfl,f1,f2⟩ | ⟨_,f⟩
 ·refine⟨n,rfl,?_⟩
  have hk:∀s∈w.beg,∃k:Nat,(Zf M s).getD 0=(k:Int)/\SW w k s=true/\∀m,m<k->SW w m s=false:=λs hs=>by
   have h1:=hall s hs;unfold Z2 at h1;cases hq:Zf M s with
   | none=>rw[hq]at h1; cases h1
   | some v=>have e:=T s;rw[hq,if_pos (hb s hs)]at e;obtain⟨k,rfl,_,a,b⟩:=ZgB e.symm;exact⟨k,rfl,a,b⟩
  rw[Zg0 hv]at f1;have hle:∀s∈w.beg,∃k:Nat,(Zf M s).getD 0=(k:Int)/\k<=n/\SW w k s=true:=λs hs=>by
   obtain⟨k,a,b,c⟩:=hk s hs;refine⟨k,a,?_,b⟩;rcases Nat.lt_or_ge n k with h | h
   ·have:=c n h
    rw[f1 s hs]at this;cases this
   ·exact h
  rw[ZzS]
  constructor
  ·apply Zzm
   intro hno;have hlt:∀s∈w.beg,∃k:Nat,k<n/\SW w k s=true:=λs hs=>by
    obtain⟨k,a,b,c⟩:=hle s hs;refine⟨k,?_,c⟩;rcases Nat.lt_or_ge k n with h | h
    ·exact h
    ·exact absurd (ZwN.mpr ⟨s,hs,by rw[a]; omega⟩) hno
   obtain⟨s,hs⟩:=ZAA _ hv.b1;obtain⟨k,hk,_⟩:=hlt s hs;refine f2 (n-1) (by omega) ((Zg0 hv _).mpr λs hs=>?_);obtain⟨k,hk,hw⟩:=hlt s hs;exact ZdO (by omega) hw
  ·intro x hx
   obtain⟨s,hs,rfl⟩:=ZwN.mp hx;obtain⟨k,a,b,c⟩:=hle s hs;rw[a];omega
 ·refine absurd ((Zg0 hv w.many).mpr λs hs=>?_) (f w.many)
  rw[<-Zgm T (hb s hs).1 (hb s hs).2];exact hall s hs
theorem ZqT{ap:AP}(A:ApD ap)(ns:List Int)(h:ns.length<=63):Zef ap [.list (ns.map dI)]=some (.bool true):=by
 have hv:=Wk.Ok.v (Zuf ns 0);have h7:(wkV ns 0).many<=7:=by have:(wkV ns 0).many=ZG ns 0:=rfl;have:=(Zic ns 0).2;omega
 have hw:=Zr6 ns 0 h;generalize wkV ns 0=w at *;have hw':ZaA [.list (ns.map dI),.int 0]=some w.d:=hw;obtain⟨d,e1,f1⟩:=Zlm A hv h7;have hgl:=hv.gc.len;have hbl:=hv.bc.len;generalize hsc:(some (.pl (.list (ns.map dI))):Option B)=sc at *;obtain⟨p3,g1⟩:=Zj7 3 (ZjI ap) 0 (λM x=>[sc,some (.pl w.d),some (.ok (ZB M)),x,none,none,none,none,none,none]) (λM o x=>rfl) (λM s hl=>by
  have hp:=Zm7 M s 0;have hp':putD (ZB M) (ZxJ s) (.int 0)=ZB (putD M s 0):=hp;have hl2:(ZB M).length<1000000:=by unfold ZB; rw[ZwD]; omega
  simp[ZjI,hp',hl2]) w.goal [] none (by simp; omega)
 have T0:=Zqa hv;have hl0:=ZhQ 0 w.goal [];rw[ZAL]at hl0;obtain⟨M,q3,q4,q5,q6,q7,q8,g2,T⟩:=ZmC (ap:=ap) hv h7 sc none w.many 0 _ p3 none none none none none T0 (by omega) (by omega);rw[Nat.zero_add]at T;generalize Zeb 0 w.goal []=M0 at *;have hok1:okR 1=true:=rfl;have hok:okR ((w.many:Int)+1)=true:=by
  have:=ZcT (n:=w.many+1) (by omega)
  rwa [show((w.many+1:Nat):Int)=(w.many:Int)+1 by omega]at this
 have hr:Zbe 1 ((w.many:Int)+1-1).toNat=(ZAW 1 w.many).map dN:=by rw[show((w.many:Int)+1-1).toNat=w.many by omega,Zpc]
 have hb:∀s∈w.beg,0<=s/\s<(w.many:Int):=hv.bc.2;show ZaL (ZlD ap [some (.pl (.list (ns.map dI))),none,none,none,none,none,none,none,none,none])=_;rw[hsc];unfold ZlD;refine Z7 (P:=λq=>ZaL q=_) (r':=[sc,some (.pl w.d),none,none,none,none,none,none,none,none]) (by rw[<-hsc]; simp[hw']) ?_;refine Z7 (P:=λq=>ZaL q=_) (r':=[sc,some (.pl w.d),some (.ok (ZB [])),none,none,none,none,none,none,none]) rfl ?_;refine Z7 (P:=λq=>ZaL q=_) (r':=[sc,some (.pl w.d),some (.ok (ZB M0)),p3,none,none,none,none,none,none]) ?_ ?_
 ·have hi:ZW (bOf (eIx (Zo 1) (eC (.int 4)))) [sc,some (.pl w.d),some (.ok (ZB [])),none,none,none,none,none,none,none]=some (w.goal.map dI):=rfl
  unfold ZaC;rw[hi];dsimp only;rw[if_pos (by rw[ZwD]; show _<1000000; omega)];exact g1
 refine Z7 (P:=λq=>ZaL q=_) (r':=[sc,some (.pl w.d),some (.ok (ZB M)),q3,q4,q5,q6,q7,q8,none]) ?_ ?_
 ·have hi:Zh5 (eC (.int 1)) (op2 ZaO (eIx (Zo 1) (eC (.int 0))) (eC (.int 1))) [sc,some (.pl w.d),some (.ok (ZB M0)),p3,none,none,none,none,none,none]=some ((ZAW 1 w.many).map dN):=by
   have ha:op2 ZaO (eIx (Zo 1) (eC (.int 0))) (eC (.int 1)) [sc,some (.pl w.d),some (.ok (ZB M0)),p3,none,none,none,none,none,none]=some (.int ((w.many:Int)+1)):=rfl;show(match op2 ZaO (eIx (Zo 1) (eC (.int 0))) (eC (.int 1)) [sc,some (.pl w.d),some (.ok (ZB M0)),p3,none,none,none,none,none,none]with | some (.int j)=>if okR 1&&okR j then some (Zbe 1 (j-1).toNat)else none | _=>none)=_;rw[ha];dsimp only;rw[hok,hok1,hr];rfl
  unfold ZaC;rw[hi];dsimp only;rw[if_pos (by rw[ZwD,List.length_range']; show _<1000000; omega)];exact g2
 refine Z7 (P:=λq=>ZaL q=_) (r':=[sc,some (.pl w.d),some (.ok (ZB M)),q3,q4,q5,q6,q7,q8,some (.pl d)]) (by simp[e1]) ?_;have hcm:=ZkM M w.beg (by omega) (ZW (bOf (eIx (Zo 1) (eC (.int 3))))) [sc,some (.pl w.d),some (.ok (ZB M)),q3,q4,q5,q6,q7,q8,some (.pl d)] rfl rfl
 by_cases hall:∀s∈w.beg,Z2 M s=true
 ·have hem:(w.beg.filter λx=>!Z2 M x)=[]:=Zyz.mpr λs hs=>by rw[hall s hs]; decide
  rw[hem]at hcm;refine Z7 (P:=λq=>ZaL q=_) (r':=[sc,some (.pl w.d),some (.ok (ZB M)),q3,q4,q5,q6,q7,q8,some (.pl d)]) ?_ ?_
  ·unfold sIf Zhw
   rw[hcm];rfl
  obtain⟨n,rfl,hmx⟩:=Zqo hv T hall f1;have hcs:ZC (ZW (bOf (eIx (Zo 1) (eC (.int 3))))) Zac (ZiQ 3 (Zb 0)) [sc,some (.pl w.d),some (.ok (ZB M)),q3,q4,q5,q6,q7,q8,some (.pl (.int (n:Int)))]=some (.ol ((w.beg.map λs=>(Zf M s).getD 0).map dI)):=by
   have hg:Zav Zac (ZiQ 3 (Zb 0)) [sc,some (.pl w.d),some (.ok (ZB M)),q3,q4,q5,q6,q7,q8,some (.pl (.int (n:Int)))] (w.beg.map dI)=some ((w.beg.map λs=>(Zf M s).getD 0).map dI):=by
    rw[Za6 dI (λs=>dI ((Zf M s).getD 0)),Zw2]
    ·rfl
    ·intro s hs
     have h1:=hall s hs;have hlk:=ZkE M s;unfold Z2 at h1;show Zf (ZB M) (ZxJ s)=_;rw[hlk];cases hq:Zf M s with
     | none=>rw[hq]at h1; cases h1
     | some v=>rfl
   have hi:ZW (bOf (eIx (Zo 1) (eC (.int 3)))) [sc,some (.pl w.d),some (.ok (ZB M)),q3,q4,q5,q6,q7,q8,some (.pl (.int (n:Int)))]=some (w.beg.map dI):=rfl;unfold ZC;rw[hi];dsimp only;rw[if_pos (by rw[ZwD]; show _<1000000; omega),hg];rfl
  have hmm:ZeP (ZC (ZW (bOf (eIx (Zo 1) (eC (.int 3))))) Zac (ZiQ 3 (Zb 0))) [sc,some (.pl w.d),some (.ok (ZB M)),q3,q4,q5,q6,q7,q8,some (.pl (.int (n:Int)))]=some (.int (n:Int)):=by unfold ZeP;rw[hcs];show(match Zax ((w.beg.map λs=>(Zf M s).getD 0).map dI)with | some ns=>ns.max?.map λi=>Zxv i | none=>none)=_;rw[ZdU];dsimp only;rw[hmx];rfl
  have hwh:Zbx [.int (n:Int)]=some (.bool true):=by simp[Zbx,Zhh,ZaL]
  have hself:gEq (.int (n:Int)) (.int (n:Int))=some (.bool true):=Zg2 (Zeg 1 _) (by decide);have h1:Zn Zbx (Zd (Zb 9) Zm) [sc,some (.pl w.d),some (.ok (ZB M)),q3,q4,q5,q6,q7,q8,some (.pl (.int (n:Int)))]=some (.bool true):=hwh;have h2:op2 gEq (Zb 9) (ZeP (ZC (ZW (bOf (eIx (Zo 1) (eC (.int 3))))) Zac (ZiQ 3 (Zb 0)))) [sc,some (.pl w.d),some (.ok (ZB M)),q3,q4,q5,q6,q7,q8,some (.pl (.int (n:Int)))]=some (.bool true):=by unfold op2;rw[hmm];exact hself
  unfold ZJ ZeC;rw[h1];dsimp only;rw[h2];rfl
 ·have hd:d=.none:=by
   rcases f1 with⟨n,rfl,f1,_⟩ | ⟨rfl,_⟩
   ·refine absurd (λs hs=>?_) hall
    rw[Zgm T (hb s hs).1 (hb s hs).2];exact Zue hv (hb s hs).1 (hb s hs).2 ((Zg0 hv n).mp f1 s hs)
   ·rfl
  subst hd;have hne:(w.beg.filter λx=>!Z2 M x)≠[]:=λe=>hall λs hs=>by have:=Zyz.mp e s hs;simpa using this
  have ht:Zhw (ZC (ZW (bOf (eIx (Zo 1) (eC (.int 3))))) (tV (ZcG (Zb 0) (Zo 3))) (Zb 0)) [sc,some (.pl w.d),some (.ok (ZB M)),q3,q4,q5,q6,q7,q8,some (.pl .none)]=some true:=by
   unfold Zhw;rw[hcm];cases hq:w.beg.filter λx=>!Z2 M x with
   | nil=>exact absurd hq hne
   | cons x xs=>rfl
  show ZaL (Zy (sIf _ _ _) _ _)=_;unfold Zy sIf;rw[ht];rfl
theorem Zi4(ns:List Int)(h:ns.length<=63):Zef ap [.list (ns.map dI)]=some (.bool true):=ZqT Zwa ns h
end HG22
namespace HT
open PySem PySem.Spec PyProof.Rows L2 HP HM
open HG
open HG4
open HG5
open HG22
def top(i:Nat):Stmt:=PySem.Challenge.pw_halfseen_k22_all_seen.main.body.getD i (.Pass ⟨0,0,0,0⟩)
abbrev Ze2:Stmt:=top 9
abbrev Zhl:Stmt:=top 10
abbrev Ze3:Stmt:=top 11
abbrev ZeI:Stmt:=top 12
abbrev ZeJ:Stmt:=top 13
abbrev Zdx:Stmt:=top 14
abbrev Zdy:Stmt:=top 15
abbrev ZfJ:Stmt:=top 16
abbrev Ze4:Stmt:=top 17
abbrev Ze5:Stmt:=top 18
abbrev ZfK:Stmt:=top 19
abbrev ZfL:Stmt:=top 20
abbrev ZfM:Stmt:=top 21
abbrev Zgt:Stmt:=top 22
abbrev Zgu:Stmt:=top 23
abbrev Zc6:Stmt:=top 24
abbrev ZeK:Stmt:=top 25
abbrev ZcP:Stmt:=top 27
abbrev Zc2:Stmt:=top 28
abbrev Zhm:Stmt:=top 29
abbrev Zfz:Stmt:=top 30
abbrev Zd6:Stmt:=top 31
abbrev Zb1:Stmt:=top 33
abbrev Zdz:Stmt:=top 34
abbrev Zcl:Stmt:=top 35
abbrev Zer:Stmt:=top 36
abbrev Zcr:Stmt:=top 37
abbrev Zcc:Stmt:=top 38
abbrev ZdA:Stmt:=top 39
abbrev ZL:Stmt:=top 40
abbrev Zd7:Stmt:=top 41
abbrev Ze6:Stmt:=top 42
abbrev Zhn:Stmt:=top 43
abbrev Zes:Stmt:=top 45
abbrev ZfN:Stmt:=top 47
abbrev Zgv:Stmt:=top 48
abbrev Ze7:Stmt:=top 49
abbrev ZdB:Stmt:=top 50
abbrev ZfO:Stmt:=top 51
abbrev ZfP:Stmt:=top 52
abbrev ZdC:Stmt:=top 53
abbrev Zc0:Stmt:=top 54
structure Txt(K:ZwC)(mg:Str->Option Value):Prop where
 n_len:mg "len" = none
 n_tuple:mg "tuple" = none
 n_list:mg "list" = none
 n_set:mg "set" = none
 n_sorted:mg "sorted" = none
 n_range:mg "range" = none
 n_all:mg "all" = none
 n_isinstance:mg "isinstance" = none
 n_int:mg "int" = none
 n_bool:mg "bool" = none
 n_max:mg "max" = none
 n_min:mg "min" = none
 c_MOST_STATES:∃t,mg "MOST_STATES" = some (.int 8 t)
 c_MOST_DEEDS:∃t,mg "MOST_DEEDS" = some (.int 5 t)
 c_MOST_LOOKS:∃t,mg "MOST_LOOKS" = some (.int 4 t)
 c_MOST_SEEN:∃t,mg "MOST_SEEN" = some (.int 9 t)
section
variable[FX]{P:Program}{w:World}{K:ZwC}{mg:Str->Option Value}{base:Heap}{k:Nat}
theorem ZlE:Zw ["_law_script","_law_k"] ["_law_script","_law_k"] (Ze ZfN):=⟨rfl,rfl,rfl,by decide +kernel,rfl,by decide +kernel,by decide +kernel⟩
theorem ZlF(T:Txt K mg){f:Addr}{fd:FuncData}(Fn:Fun K "_law_cell" "_law_cell" ZfN f fd)(hm:mg "_law_cell" = some (.ref f))(hb:Binds K fd ["_law_script","_law_k"] []):Callee P w K mg base (k+1) "_law_cell" Zap :=
 Zv Fn ZlE hm hb λcdv A outer s H E hr=>by
  have hu:=ZK hr;exact(Zg (Zbf (Za0 cLt (Za 1) (Zci T.n_len (Zu 0))) (Zk (ZA (Zaa (Zu 0) (Za 1)))) Zaj)
  (Zk (ZA Zj)))
theorem Zny:Zw ["_law_cell_here","_law_prime","_law_many"] ["_law_cell_here","_law_prime","_law_many"] (Ze Zgv):=⟨rfl,rfl,rfl,by decide +kernel,rfl,by decide +kernel,by decide +kernel⟩
theorem Znz(T:Txt K mg){f:Addr}{fd:FuncData}(Fn:Fun K "_law_mix" "_law_mix" Zgv f fd)(hm:mg "_law_mix" = some (.ref f))(hb:Binds K fd ["_law_cell_here","_law_prime","_law_many"] []):Callee P w K mg base (k+1) "_law_mix" ZE :=
 Zv Fn Zny hm hb λcdv A outer s H E hr=>by have hu:=ZK hr;exact(Zk (ZA (ZD oMod (ZD oMod (ZD Zex (Za 0) Zj) (Za 1)) (Za 2))))
theorem Zet:Zw ["_law_cell_here","_law_many","_law_least","_law_found"] ["_law_cell_here","_law_many","_law_least"] (Ze ZdB):=⟨rfl,rfl,rfl,by decide +kernel,rfl,by decide +kernel,by decide +kernel⟩
theorem ZkQ(T:Txt K mg)(ZI:Callee P w K mg base k "_law_mix" ZE){f:Addr}{fd:FuncData}(Fn:Fun K "_law_crowd" "_law_crowd" ZdB f fd)(hm:mg "_law_crowd" = some (.ref f))(hb:Binds K fd ["_law_cell_here","_law_many","_law_least"] []):Callee P w K mg base (k+1) "_law_crowd" Zbb :=
 Zv Fn Zet hm hb λcdv A outer s H E hr=>by
  have hu:=ZK hr;exact(Zg (ZcN 3 Zet.nd rfl rfl (N:=["_law_state","_law_cell_here","_law_many","_law_least","_law_found"]) (ZN (sc:=Ze ZdB) (XN:=["_law_cell_here","_law_many","_law_least","_law_found"])) (Zcb T.n_range (Za 1)) (λ_ _ _ _ _=>(Zdd (Za0 cLt (Zl ZI hr (Zc (ZD ZbD (ZD ZbD (Za 1) (ZD Zex (ZD Zex Zj (Za 0)) (Za 0))) (ZD Zex Zj (Za 0))) (Zc Zj (Zc Zj Zh)))) Zj))) (λ_ _ _ _ _=>(Za 0)))
  (Zg (Zbf (Za0 cLt (Zci T.n_len (Zu 3)) (Za 2)) (Zk (Zay 3 Zet.nd (ZbW (Zc (Zl ZI hr (Zc (Za 0) (Zc Zj (Zc (Za 1) Zh)))) Zh)))) Zaj)
  (Zk (ZA (ZaE T.n_tuple (Zu 3))))))
theorem Zb2:Zw ["_law_cell_here","_law_many","_law_found","_law_state","_law_seed","_law_way","_law_row"] ["_law_cell_here","_law_many"] (Ze ZfO):=⟨rfl,rfl,rfl,by decide +kernel,rfl,by decide +kernel,by decide +kernel⟩
theorem ZlG(T:Txt K mg)(ZI:Callee P w K mg base k "_law_mix" ZE){f:Addr}{fd:FuncData}(Fn:Fun K "_law_deed" "_law_deed" ZfO f fd)(hm:mg "_law_deed" = some (.ref f))(hb:Binds K fd ["_law_cell_here","_law_many"] []):Callee P w K mg base (k+1) "_law_deed" Zcn :=
 Zv Fn Zb2 hm hb λcdv A outer s H E hr=>by
  have hu:=ZK hr;exact(Zg (Zay 2 Zb2.nd (ZbW Zh))
  (Zg (Zbk 3 Zb2.nd rfl rfl (Zcb T.n_range (Za 1)) (Zg (Z3 4 Zb2.nd (ZD ZbD (ZD ZbD (Za 0) (ZD Zex (ZD Zex Zj (Za 3)) (Za 3))) (ZD Zex Zj (Za 3))))
  (Zg (Z3 5 Zb2.nd (Zl ZI hr (Zc (Za 4) (Zc Zj (Zc Zj Zh)))))
  (Zg (Zay 6 Zb2.nd (Zq5 (Zl ZI hr (Zc (Za 4) (Zc Zj (Zc (Za 1) Zh)))) ZcM))
  (Zg (Zbf (Za0 cLt (Za 5) Zj) (Zk (ZeY hu 6 (Zl ZI hr (Zc (Za 4) (Zc Zj (Zc (Za 1) Zh)))) ZcM)) Zaj)
  (Zg (Zcx 2 (ZaE T.n_tuple (ZaX (Zhb T.n_sorted rfl (Zu 6)))))
  (Zk (Zbf (Za0 (cEq hr) (Za 5) Zj) (Zk (Zsy 2 ZtA (ZcZ Zh))) Zaj))))))))
  (Zk (ZA (ZaE T.n_tuple (Zu 2))))))
theorem Zbz:Zw ["_law_cell_here","_law_many","_law_left","_law_right","_law_state","_law_ahead","_law_behind","_law_slips"] ["_law_cell_here","_law_many"] (Ze ZfP):=⟨rfl,rfl,rfl,by decide +kernel,rfl,by decide +kernel,by decide +kernel⟩
theorem ZlH(T:Txt K mg)(ZI:Callee P w K mg base k "_law_mix" ZE){f:Addr}{fd:FuncData}(Fn:Fun K "_law_walk" "_law_walk" ZfP f fd)(hm:mg "_law_walk" = some (.ref f))(hb:Binds K fd ["_law_cell_here","_law_many"] []):Callee P w K mg base (k+1) "_law_walk" Zco :=
 Zv Fn Zbz hm hb λcdv A outer s H E hr=>by
  have hu:=ZK hr;exact(Zg (Zay 2 Zbz.nd (ZbW Zh))
  (Zg (Zay 3 Zbz.nd (ZbW Zh))
  (Zg (Zbk 4 Zbz.nd rfl rfl (Zcb T.n_range (Za 1)) (Zg (Z3 5 Zbz.nd (ZtC T.n_max rfl (ZD ZrV (Za 4) Zj) Zj))
  (Zg (Z3 6 Zbz.nd (ZtD T.n_min rfl (ZD ZbD (Za 4) Zj) (ZD ZrV (Za 1) Zj)))
  (Zg (Z3 7 Zbz.nd (Zg9 (cEq hr) (Zl ZI hr (Zc (ZD ZbD (Za 0) (ZD Zex Zj (Za 4))) (Zc Zj (Zc Zj Zh)))) Zj))
  (Zg (Zcx 2 (ZaE T.n_tuple (ZaX (Zlz T.n_sorted T.n_set rfl (ZaX (ZpM (ZaX (ZbW (Zc (Za 5) Zh))) (ZaX (ZtE (ZaX (ZbW (Zc (Za 4) Zh))) (Zq4 T.n_int (Za 7))))))))))
  (Zk (Zcx 3 (ZcZ (Zc (Za 6) Zh)))))))))
  (Zk (ZA (ZcZ (Zc (ZaE T.n_tuple (Zu 2)) (Zc (ZaE T.n_tuple (Zu 3)) Zh))))))))
theorem ZS:Zw ["_law_script","_law_at","_law_cell_here","_law_many","_law_deeds","_law_k","_law_looks","_law_seed","_law_most","_law_begin","_law_goal"] ["_law_script","_law_at"] (Ze ZdC):=⟨rfl,rfl,rfl,by decide +kernel,rfl,by decide +kernel,by decide +kernel⟩
theorem ZkR(T:Txt K mg)(Zbs:Callee P w K mg base k "_law_cell" Zap)(ZdD:Callee P w K mg base k "_law_crowd" Zbb)(ZI:Callee P w K mg base k "_law_mix" ZE)(ZfQ:Callee P w K mg base k "_law_deed" Zcn)(ZfR:Callee P w K mg base k "_law_walk" Zco){f:Addr}{fd:FuncData}(Fn:Fun K "_law_works" "_law_works" ZdC f fd)(hm:mg "_law_works" = some (.ref f))(hb:Binds K fd ["_law_script","_law_at"] []):Callee P w K mg base (k+1) "_law_works" ZaA :=
 Zv Fn ZS hm hb λcdv A outer s H E hr=>by
  have hu:=ZK hr;exact(Zg (Z3 2 ZS.nd (Zl Zbs hr (Zc (Za 0) (Zc (Za 1) Zh))))
  (Zg (Z3 3 ZS.nd (ZD ZbD Zj (Zl ZI hr (Zc (Za 2) (Zc Zj (Zc Zj Zh))))))
  (Zg (Zbf (Za0 cGt (Zci T.n_len (Zu 0)) Zj) (Zk (Z3 3 ZS.nd (ZD ZbD Zj (Zl ZI hr (Zc (Za 2) (Zc Zj (Zc Zj Zh))))))) Zaj)
  (Zg (Zay 4 ZS.nd (ZbW Zh))
  (Zg (Zbk 5 ZS.nd rfl rfl (Zcb T.n_range (ZD ZbD Zj (Zl ZI hr (Zc (Za 2) (Zc Zj (Zc Zj Zh)))))) (Zk (Zcx 4 (Zl ZfQ hr (Zc (ZD ZbD (Zl Zbs hr (Zc (Za 0) (Zc (ZD ZbD (ZD ZbD (Za 1) Zj) (Za 5)) Zh))) (ZD Zex Zj (Za 5))) (Zc (Za 3) Zh))))))
  (Zg (Zbf (Za0 (cEq hr) (Zl ZI hr (Zc (Za 2) (Zc Zj (Zc Zj Zh)))) Zj) (Zk (Zay 4 ZS.nd (ZpM (ZaX (Zkl T.n_list (Zdo (Zl ZfR hr (Zc (Zl Zbs hr (Zc (Za 0) (Zc (ZD ZbD (Za 1) Zj) Zh))) (Zc (Za 3) Zh)))))) (ZaX (ZtF (Zu 4) ZsS (ZsI Zj)))))) Zaj)
  (Zg (Zay 6 ZS.nd (ZbW Zh))
  (Zg (Zbk 5 ZS.nd rfl rfl (Zcb T.n_range (Zl ZI hr (Zc (Za 2) (Zc Zj (Zc Zj Zh))))) (Zg (Z3 7 ZS.nd (ZD ZbD (Zl Zbs hr (Zc (Za 0) (Zc (ZD ZbD (ZD ZbD (Za 1) Zj) (Za 5)) Zh))) (ZD Zex Zj (Za 5))))
  (Zg (Z3 8 ZS.nd (ZD ZbD Zj (Zl ZI hr (Zc (Za 7) (Zc Zj (Zc Zj Zh))))))
  (Zk (Zcx 6 (ZaE T.n_tuple (ZaX (ZaH rfl rfl (N:=["_law_state","_law_script","_law_at","_law_cell_here","_law_many","_law_deeds","_law_k","_law_looks","_law_seed","_law_most","_law_begin","_law_goal"]) (ZN (sc:=Ze ZdC) (XN:=["_law_script","_law_at","_law_cell_here","_law_many","_law_deeds","_law_k","_law_looks","_law_seed","_law_most","_law_begin","_law_goal"])) (Zcb T.n_range (Za 3)) (λ_ _ _ _ _=>Zbv) (λ_ _ _ _ _=>(Zl ZI hr (Zc (ZD ZbD (Za 8) (ZD Zex (ZD Zex Zj (Za 0)) (Za 0))) (Zc Zj (Zc (Za 9) Zh)))))))))))))
  (Zg (Z3 9 ZS.nd (Zl ZdD hr (Zc (Zl Zbs hr (Zc (Za 0) (Zc (ZD ZbD (Za 1) Zj) Zh))) (Zc (Za 3) (Zc Zj Zh)))))
  (Zg (Zbf (Za0 (cEq hr) (Zl ZI hr (Zc (Za 2) (Zc Zj (Zc Zj Zh)))) Zj) (Zk (Z3 9 ZS.nd (Ziq T.n_tuple T.n_range rfl (Za 3)))) Zaj)
  (Zg (Z3 10 ZS.nd (Zl ZdD hr (Zc (Zl Zbs hr (Zc (Za 0) (Zc (ZD ZbD (Za 1) Zj) Zh))) (Zc (Za 3) (Zc Zj Zh)))))
  (Zk (ZA (ZcZ (Zc (Za 3) (Zc (ZaE T.n_tuple (Zu 4)) (Zc (ZaE T.n_tuple (Zu 6)) (Zc (Za 9) (Zc (Za 10) Zh)))))))))))))))))))
theorem ZkS:Zw ["thing","least","most"] ["thing","least","most"] (Ze Ze2):=⟨rfl,rfl,rfl,by decide +kernel,rfl,by decide +kernel,by decide +kernel⟩
theorem ZkT(T:Txt K mg){f:Addr}{fd:FuncData}(Fn:Fun K "is_number" "is_number" Ze2 f fd)(hm:mg "is_number" = some (.ref f))(hb:Binds K fd ["thing","least","most"] []):Callee P w K mg base (k+1) "is_number" Zaz :=
 Zv Fn ZkS hm hb λcdv A outer s H E hr=>by
  have hu:=ZK hr;exact(Zg (Zbf (Zlu (ZoI (Zch (Zip T.n_isinstance T.n_bool (Za 0))) (Zlv (Zdp (Zch (Zi9 T.n_isinstance T.n_int (Za 0))))))) (Zk (ZA ZcM)) Zaj)
  (Zk (ZA (Zlw cLe cLe (Za 1) (Za 0) (Za 2)))))
theorem Zc3:Zw ["thing","many","least","number"] ["thing","many"] (Ze Ze3):=⟨rfl,rfl,rfl,by decide +kernel,rfl,by decide +kernel,by decide +kernel⟩
theorem ZkU(T:Txt K mg)(ZaN:Callee P w K mg base k "is_number" Zaz){f:Addr}{fd:FuncData}(Fn:Fun K "is_rising" "is_rising" Ze3 f fd)(hm:mg "is_rising" = some (.ref f))(hb:Binds K fd ["thing","many"] []):Callee P w K mg base (k+1) "is_rising" ZU :=
 Zv Fn Zc3 hm hb λcdv A outer s H E hr=>by
  have hu:=ZK hr;exact(Zg (Zbf (Zdp (Zch (Zha T.n_isinstance T.n_tuple (Za 0)))) (Zk (ZA ZcM)) Zaj)
  (Zg (Z3 2 Zc3.nd Zj)
  (Zg (Zbk 3 Zc3.nd rfl rfl (Z1 (Za 0)) (Zg (Zbf (Zdp (Zch (Zl ZaN hr (Zc (Za 3) (Zc (Za 2) (Zc (ZD ZrV (Za 1) Zj) Zh)))))) (Zk (ZA ZcM)) Zaj)
  (Zk (Z3 2 Zc3.nd (ZD ZbD (Za 3) Zj)))))
  (Zk (ZA ZcM)))))
theorem ZlI:Zw ["thing","many"] ["thing","many"] (Ze ZfJ):=⟨rfl,rfl,rfl,by decide +kernel,rfl,by decide +kernel,by decide +kernel⟩
theorem ZlJ(T:Txt K mg)(Z9:Callee P w K mg base k "is_rising" ZU){f:Addr}{fd:FuncData}(Fn:Fun K "is_crowd" "is_crowd" ZfJ f fd)(hm:mg "is_crowd" = some (.ref f))(hb:Binds K fd ["thing","many"] []):Callee P w K mg base (k+1) "is_crowd" Zcm :=
 Zv Fn ZlI hm hb λcdv A outer s H E hr=>by have hu:=ZK hr;exact(Zk (ZA (Zdr (Zl Z9 hr (Zc (Za 0) (Zc (Za 1) Zh))) (Zdq (Zg9 cGt (Zci T.n_len (Zu 0)) Zj)))))
theorem ZoM:Zw ["thing","least","most"] ["thing","least","most"] (Ze Zhl):=⟨rfl,rfl,rfl,by decide +kernel,rfl,by decide +kernel,by decide +kernel⟩
theorem ZoN(T:Txt K mg){f:Addr}{fd:FuncData}(Fn:Fun K "is_row" "is_row" Zhl f fd)(hm:mg "is_row" = some (.ref f))(hb:Binds K fd ["thing","least","most"] []):Callee P w K mg base (k+1) "is_row" Zaw :=
 Zv Fn ZoM hm hb λcdv A outer s H E hr=>by have hu:=ZK hr;exact(Zk (ZA (Zdr (Zha T.n_isinstance T.n_tuple (Za 0)) (Zdq (Zlw cLe cLe (Za 1) (Zci T.n_len (Zu 0)) (Za 2))))))
theorem ZnA:Zw ["thing","many"] ["thing","many"] (Ze ZeI):=⟨rfl,rfl,rfl,by decide +kernel,rfl,by decide +kernel,by decide +kernel⟩
theorem ZnB(T:Txt K mg)(Zak:Callee P w K mg base k "is_row" Zaw)(Z9:Callee P w K mg base k "is_rising" ZU){f:Addr}{fd:FuncData}(Fn:Fun K "is_deed" "is_deed" ZeI f fd)(hm:mg "is_deed" = some (.ref f))(hb:Binds K fd ["thing","many"] []):Callee P w K mg base (k+1) "is_deed" ZbK :=
 Zv Fn ZnA hm hb λcdv A outer s H E hr=>by have hu:=ZK hr;exact(Zk (ZA (Zdr (Zl Zak hr (Zc (Za 0) (Zc (Za 1) (Zc (Za 1) Zh)))) (Zdq (Zf7 T.n_all rfl (ZaX (ZaH rfl rfl (N:=["crowd","thing","many"]) (ZN (sc:=Ze ZeI) (XN:=["thing","many"])) (Z1 (Za 0)) (λ_ _ _ _ _=>Zbv) (λ_ _ _ _ _=>(Zl Z9 hr (Zc (Za 0) (Zc (Za 2) Zh)))))))))))
theorem ZkV:Zw ["thing","many"] ["thing","many"] (Ze Zdx):=⟨rfl,rfl,rfl,by decide +kernel,rfl,by decide +kernel,by decide +kernel⟩
theorem ZkW(T:Txt K mg)(Zak:Callee P w K mg base k "is_row" Zaw)(Zgw:Callee P w K mg base k "is_deed" ZbK){f:Addr}{fd:FuncData}(Fn:Fun K "are_deeds" "are_deeds" Zdx f fd)(hm:mg "are_deeds" = some (.ref f))(hb:Binds K fd ["thing","many"] []):Callee P w K mg base (k+1) "are_deeds" ZbX :=
 Zv Fn ZkV hm hb λcdv A outer s H E hr=>by have hu:=ZK hr;exact(Zk (ZA (Zdr (Zl Zak hr (Zc (Za 0) (Zc Zj (Zc (ZhW T.c_MOST_DEEDS) Zh)))) (Zdq (Zf7 T.n_all rfl (ZaX (ZaH rfl rfl (N:=["deed","thing","many"]) (ZN (sc:=Ze Zdx) (XN:=["thing","many"])) (Z1 (Za 0)) (λ_ _ _ _ _=>Zbv) (λ_ _ _ _ _=>(Zl Zgw hr (Zc (Za 0) (Zc (Za 2) Zh)))))))))))
theorem ZnC:Zw ["thing","many"] ["thing","many"] (Ze ZeJ):=⟨rfl,rfl,rfl,by decide +kernel,rfl,by decide +kernel,by decide +kernel⟩
theorem ZnD(T:Txt K mg)(Zak:Callee P w K mg base k "is_row" Zaw)(ZaN:Callee P w K mg base k "is_number" Zaz){f:Addr}{fd:FuncData}(Fn:Fun K "is_look" "is_look" ZeJ f fd)(hm:mg "is_look" = some (.ref f))(hb:Binds K fd ["thing","many"] []):Callee P w K mg base (k+1) "is_look" ZbL :=
 Zv Fn ZnC hm hb λcdv A outer s H E hr=>by have hu:=ZK hr;exact(Zk (ZA (Zdr (Zl Zak hr (Zc (Za 0) (Zc (Za 1) (Zc (Za 1) Zh)))) (Zdq (Zf7 T.n_all rfl (ZaX (ZaH rfl rfl (N:=["told","thing","many"]) (ZN (sc:=Ze ZeJ) (XN:=["thing","many"])) (Z1 (Za 0)) (λ_ _ _ _ _=>Zbv) (λ_ _ _ _ _=>(Zl ZaN hr (Zc (Za 0) (Zc Zj (Zc (ZhW T.c_MOST_SEEN) Zh))))))))))))
theorem ZkX:Zw ["thing","many"] ["thing","many"] (Ze Zdy):=⟨rfl,rfl,rfl,by decide +kernel,rfl,by decide +kernel,by decide +kernel⟩
theorem ZkY(T:Txt K mg)(Zak:Callee P w K mg base k "is_row" Zaw)(Zgx:Callee P w K mg base k "is_look" ZbL){f:Addr}{fd:FuncData}(Fn:Fun K "are_looks" "are_looks" Zdy f fd)(hm:mg "are_looks" = some (.ref f))(hb:Binds K fd ["thing","many"] []):Callee P w K mg base (k+1) "are_looks" ZbY :=
 Zv Fn ZkX hm hb λcdv A outer s H E hr=>by have hu:=ZK hr;exact(Zk (ZA (Zdr (Zl Zak hr (Zc (Za 0) (Zc Zj (Zc (ZhW T.c_MOST_LOOKS) Zh)))) (Zdq (Zf7 T.n_all rfl (ZaX (ZaH rfl rfl (N:=["look","thing","many"]) (ZN (sc:=Ze Zdy) (XN:=["thing","many"])) (Z1 (Za 0)) (λ_ _ _ _ _=>Zbv) (λ_ _ _ _ _=>(Zl Zgx hr (Zc (Za 0) (Zc (Za 2) Zh)))))))))))
theorem Zg4:Zw ["thing","many"] ["thing"] (Ze Ze4):=⟨rfl,rfl,rfl,by decide +kernel,rfl,by decide +kernel,by decide +kernel⟩
theorem ZkZ(T:Txt K mg)(ZfS:Callee P w K mg base k "is_crowd" Zcm)(Z9:Callee P w K mg base k "is_rising" ZU)(Zak:Callee P w K mg base k "is_row" Zaw)(ZaN:Callee P w K mg base k "is_number" Zaz)(Ze8:Callee P w K mg base k "are_deeds" ZbX)(Ze9:Callee P w K mg base k "are_looks" ZbY){f:Addr}{fd:FuncData}(Fn:Fun K "are_works" "are_works" Ze4 f fd)(hm:mg "are_works" = some (.ref f))(hb:Binds K fd ["thing"] []):Callee P w K mg base (k+1) "are_works" ZbZ :=
 Zv Fn Zg4 hm hb λcdv A outer s H E hr=>by
  have hu:=ZK hr;exact(Zg (Zbf (Zlu (ZoI (Zdp (Zch (Zl Zak hr (Zc (Za 0) (Zc Zj (Zc Zj Zh)))))) (Zlv (Zdp (Zch (Zl ZaN hr (Zc (Zaa (Zu 0) Zj) (Zc Zj (Zc (ZhW T.c_MOST_STATES) Zh))))))))) (Zk (ZA ZcM)) Zaj)
  (Zg (Z3 1 Zg4.nd (Zaa (Zu 0) Zj))
  (Zg (Zbf (Zlu (ZoI (Zdp (Zch (Zl Ze8 hr (Zc (Zaa (Zu 0) Zj) (Zc (Za 1) Zh))))) (Zlv (Zdp (Zch (Zl Ze9 hr (Zc (Zaa (Zu 0) Zj) (Zc (Za 1) Zh)))))))) (Zk (ZA ZcM)) Zaj)
  (Zk (ZA (Zdr (Zl ZfS hr (Zc (Zaa (Zu 0) Zj) (Zc (Za 1) Zh))) (Zdq (Zl Z9 hr (Zc (Zaa (Zu 0) Zj) (Zc (Za 1) Zh))))))))))
theorem ZnE:Zw ["works"] ["works"] (Ze Zgu):=⟨rfl,rfl,rfl,by decide +kernel,rfl,by decide +kernel,by decide +kernel⟩
theorem ZnF(T:Txt K mg)(Zfa:Callee P w K mg base k "are_works" ZbZ){f:Addr}{fd:FuncData}(Fn:Fun K "checked" "checked" Zgu f fd)(hm:mg "checked" = some (.ref f))(hb:Binds K fd ["works"] []):Callee P w K mg base (k+1) "checked" ZbM :=
 Zv Fn ZnE hm hb λcdv A outer s H E hr=>by
  have hu:=ZK hr;exact(Zg (Zbf (Zdp (Zch (Zl Zfa hr (Zc (Za 0) Zh)))) (Zk Zlx) Zaj)
  (Zk (ZA (Za 0))))
theorem ZlK:Zw ["works"] ["works"] (Ze ZfL):=⟨rfl,rfl,rfl,by decide +kernel,rfl,by decide +kernel,by decide +kernel⟩
theorem ZlL(T:Txt K mg){f:Addr}{fd:FuncData}(Fn:Fun K "looks_of" "looks_of" ZfL f fd)(hm:mg "looks_of" = some (.ref f))(hb:Binds K fd ["works"] []):Callee P w K mg base (k+1) "looks_of" Zbr :=
 Zv Fn ZlK hm hb λcdv A outer s H E hr=>by have hu:=ZK hr;exact(Zk (ZA (Zaa (Zu 0) Zj)))
theorem Zik:Zw ["works","looks"] ["works","looks"] (Ze Zc6):=⟨rfl,rfl,rfl,by decide +kernel,rfl,by decide +kernel,by decide +kernel⟩
theorem Zil(T:Txt K mg)(Z9:Callee P w K mg base k "is_rising" ZU)(Zcs:Callee P w K mg base k "looks_of" Zbr){f:Addr}{fd:FuncData}(Fn:Fun K "checked_looks" "checked_looks" Zc6 f fd)(hm:mg "checked_looks" = some (.ref f))(hb:Binds K fd ["works","looks"] []):Callee P w K mg base (k+1) "checked_looks" Za1 :=
 Zv Fn Zik hm hb λcdv A outer s H E hr=>by
  have hu:=ZK hr;exact(Zg (Zbf (Zdp (Zch (Zl Z9 hr (Zc (Za 1) (Zc (Zci T.n_len (Zdo (Zl Zcs hr (Zc (Za 0) Zh)))) Zh))))) (Zk Zlx) Zaj)
  (Zk (ZA (Za 1))))
theorem ZlM:Zw ["works"] ["works"] (Ze ZfM):=⟨rfl,rfl,rfl,by decide +kernel,rfl,by decide +kernel,by decide +kernel⟩
theorem ZlN(T:Txt K mg){f:Addr}{fd:FuncData}(Fn:Fun K "begin_of" "begin_of" ZfM f fd)(hm:mg "begin_of" = some (.ref f))(hb:Binds K fd ["works"] []):Callee P w K mg base (k+1) "begin_of" ZbS :=
 Zv Fn ZlM hm hb λcdv A outer s H E hr=>by have hu:=ZK hr;exact(Zk (ZA (Zaa (Zu 0) Zj)))
theorem Zg5:Zw ["rows"] ["rows"] (Ze Zb1):=⟨rfl,rfl,rfl,by decide +kernel,rfl,by decide +kernel,by decide +kernel⟩
theorem ZjJ(T:Txt K mg){f:Addr}{fd:FuncData}(Fn:Fun K "crowds_in" "crowds_in" Zb1 f fd)(hm:mg "crowds_in" = some (.ref f))(hb:Binds K fd ["rows"] []):Zdi P w K mg base (k+1) "crowds_in" ZF :=
 Zpx Fn Zg5 hm hb rfl (λr b h=>Zro _ _ _ r b h) λcdv A outer s H E hr=>by have hu:=ZK hr;exact(ZaH rfl rfl (N:=["row","rows"]) (ZN (sc:=Ze Zb1) (XN:=["rows"])) (Z1 (Za 0)) (λ_ _ _ _ _=>Zbv) (λ_ _ _ _ _=>(Zaa (Zu 0) Zj)))
theorem Zk0(T:Txt K mg){f:Addr}{fd:FuncData}(Fn:Fun K "crowds_in" "crowds_in" Zb1 f fd)(hm:mg "crowds_in" = some (.ref f))(hb:Binds K fd ["rows"] []):Callee P w K mg base (k+1) "crowds_in" ZF :=
 Zv Fn Zg5 hm hb λcdv A outer s H E hr=>by have hu:=ZK hr;exact(Zk (ZA (Zgq (ZaH rfl rfl (N:=["row","rows"]) (ZN (sc:=Ze Zb1) (XN:=["rows"])) (Z1 (Za 0)) (λ_ _ _ _ _=>Zbv) (λ_ _ _ _ _=>(Zaa (Zu 0) Zj))))))
theorem ZeH:Zw ["rows","costs","known"] ["rows","costs"] (Ze Zcc):=⟨rfl,rfl,rfl,by decide +kernel,rfl,by decide +kernel,by decide +kernel⟩
theorem Zim(T:Txt K mg)(Zbc:Callee P w K mg base k "crowds_in" ZF){f:Addr}{fd:FuncData}(Fn:Fun K "cost_at_worst" "cost_at_worst" Zcc f fd)(hm:mg "cost_at_worst" = some (.ref f))(hb:Binds K fd ["rows","costs"] []):Callee P w K mg base (k+1) "cost_at_worst" Z0 :=
 Zv Fn ZeH hm hb λcdv A outer s H E hr=>by
  have hu:=ZK hr;exact(Zg (ZcN 2 ZeH.nd rfl rfl (N:=["part","rows","costs","known"]) (ZN (sc:=Ze Zcc) (XN:=["rows","costs","known"])) (Z1 (Zl Zbc hr (Zc (Za 0) Zh))) (λ_ _ _ _ _=>(Zdd (ZtK hu (Za 0) (Zu 2)))) (λ_ _ _ _ _=>(Zf8 hu (Zu 2) (Za 0))))
  (Zk (ZA (Zsk (Za0 (cEq hr) (Zci T.n_len (Zu 2)) (Zci T.n_len (Zu 0))) (Zn8 T.n_max rfl (Zu 2)) ZeU))))
theorem Zho:Zw ["way","depths","most"] ["way","depths"] (Ze Zd7):=⟨rfl,rfl,rfl,by decide +kernel,rfl,by decide +kernel,by decide +kernel⟩
theorem ZlO(T:Txt K mg)(Za3:Callee P w K mg base k "cost_at_worst" Z0){f:Addr}{fd:FuncData}(Fn:Fun K "deeds_by" "deeds_by" Zd7 f fd)(hm:mg "deeds_by" = some (.ref f))(hb:Binds K fd ["way","depths"] []):Callee P w K mg base (k+1) "deeds_by" Zcq :=
 Zv Fn Zho hm hb λcdv A outer s H E hr=>by
  have hu:=ZK hr;exact(Zg (Z3 2 Zho.nd (Zl Za3 hr (Zc (Zaa (Zu 0) Zj) (Zc (Za 1) Zh))))
  (Zk (ZA (Zsk (Za0 ZuI (Za 2) ZeU) ZeU (ZD ZbD (Za 2) Zj)))))
theorem ZnG:Zw ["works","looks","state"] ["works","looks","state"] (Ze ZeK):=⟨rfl,rfl,rfl,by decide +kernel,rfl,by decide +kernel,by decide +kernel⟩
theorem ZnH(T:Txt K mg)(Zcs:Callee P w K mg base k "looks_of" Zbr){f:Addr}{fd:FuncData}(Fn:Fun K "seen_in" "seen_in" ZeK f fd)(hm:mg "seen_in" = some (.ref f))(hb:Binds K fd ["works","looks","state"] []):Callee P w K mg base (k+1) "seen_in" ZcO :=
 Zv Fn ZnG hm hb λcdv A outer s H E hr=>by have hu:=ZK hr;exact(Zk (ZA (ZaE T.n_tuple (ZaX (ZaH rfl rfl (N:=["look","works","looks","state"]) (ZN (sc:=Ze ZeK) (XN:=["works","looks","state"])) (Z1 (Za 1)) (λ_ _ _ _ _=>Zbv) (λ_ _ _ _ _=>(Zaa (Zdo (Zaa (Zdo (Zl Zcs hr (Zc (Za 1) Zh))) (Za 0))) (Za 3))))))))
theorem Zgy:Zw ["works","looks","crowd","found","state"] ["works","looks","crowd"] (Ze Zfz):=⟨rfl,rfl,rfl,by decide +kernel,rfl,by decide +kernel,by decide +kernel⟩
theorem ZoO(T:Txt K mg)(Zgz:Callee P w K mg base k "seen_in" ZcO){f:Addr}{fd:FuncData}(Fn:Fun K "parted" "parted" Zfz f fd)(hm:mg "parted" = some (.ref f))(hb:Binds K fd ["works","looks","crowd"] []):Callee P w K mg base (k+1) "parted" ZaI :=
 Zv Fn Zgy hm hb λcdv A outer s H E hr=>by
  have hu:=ZK hr;exact(Zg (Zay 3 Zgy.nd ZtG)
  (Zg (Zbk 4 Zgy.nd rfl rfl (Z1 (Za 2)) (Zk (Zq7 hu 3 (Zl Zgz hr (Zc (Za 0) (Zc (Za 1) (Zc (Za 4) Zh)))) (Za 4) ⟨rfl,rfl,rfl,rfl⟩)))
  (Zk (ZA (Zgq (ZaH rfl rfl (N:=["seen","works","looks","crowd","found","state"]) (ZN (sc:=Ze Zfz) (XN:=["works","looks","crowd","found","state"])) (Z1 (Zgq (Zhb T.n_sorted rfl (Zu 3)))) (λ_ _ _ _ _=>Zbv) (λ_ _ _ _ _=>(ZcZ (Zc (Za 0) (Zc (ZaE T.n_tuple (ZpN hu 4 (Za 0))) Zh))))))))))
theorem ZlP:Zw ["works"] ["works"] (Ze ZfK):=⟨rfl,rfl,rfl,by decide +kernel,rfl,by decide +kernel,by decide +kernel⟩
theorem ZlQ(T:Txt K mg){f:Addr}{fd:FuncData}(Fn:Fun K "deeds_of" "deeds_of" ZfK f fd)(hm:mg "deeds_of" = some (.ref f))(hb:Binds K fd ["works"] []):Callee P w K mg base (k+1) "deeds_of" Zao :=
 Zv Fn ZlP hm hb λcdv A outer s H E hr=>by have hu:=ZK hr;exact(Zk (ZA (Zaa (Zu 0) Zj)))
theorem ZfA:Zw ["works","crowd","deed","leads"] ["works","crowd","deed"] (Ze ZcP):=⟨rfl,rfl,rfl,by decide +kernel,rfl,by decide +kernel,by decide +kernel⟩
theorem Zjd(T:Txt K mg)(Zaq:Callee P w K mg base k "deeds_of" Zao){f:Addr}{fd:FuncData}(Fn:Fun K "can_be_done" "can_be_done" ZcP f fd)(hm:mg "can_be_done" = some (.ref f))(hb:Binds K fd ["works","crowd","deed"] []):Callee P w K mg base (k+1) "can_be_done" Zbu :=
 Zv Fn ZfA hm hb λcdv A outer s H E hr=>by
  have hu:=ZK hr;exact(Zg (Z3 3 ZfA.nd (Zaa (Zdo (Zl Zaq hr (Zc (Za 0) Zh))) (Za 2)))
  (Zk (ZA (Zf7 T.n_all rfl (ZaX (ZaH rfl rfl (N:=["state","works","crowd","deed","leads"]) (ZN (sc:=Ze ZcP) (XN:=["works","crowd","deed","leads"])) (Z1 (Za 1)) (λ_ _ _ _ _=>Zbv) (λ_ _ _ _ _=>(Zg9 cGt (Zci T.n_len (Zdo (Zaa (Zu 4) (Za 0)))) Zj))))))))
theorem ZjK:Zw ["works","crowd"] ["works","crowd"] (Ze Zc2):=⟨rfl,rfl,rfl,by decide +kernel,rfl,by decide +kernel,by decide +kernel⟩
theorem ZjL(T:Txt K mg)(ZdR:Callee P w K mg base k "can_be_done" Zbu)(Zaq:Callee P w K mg base k "deeds_of" Zao){f:Addr}{fd:FuncData}(Fn:Fun K "deeds_with" "deeds_with" Zc2 f fd)(hm:mg "deeds_with" = some (.ref f))(hb:Binds K fd ["works","crowd"] []):Callee P w K mg base (k+1) "deeds_with" ZbH :=
 Zv Fn ZjK hm hb λcdv A outer s H E hr=>by have hu:=ZK hr;exact(Zk (ZA (Zgq (ZaH rfl rfl (N:=["deed","works","crowd"]) (ZN (sc:=Ze Zc2) (XN:=["works","crowd"])) (Zcb T.n_range (Zci T.n_len (Zdo (Zl Zaq hr (Zc (Za 0) Zh))))) (λ_ _ _ _ _=>(Zdd (Zch (Zl ZdR hr (Zc (Za 1) (Zc (Za 2) (Zc (Za 0) Zh))))))) (λ_ _ _ _ _=>(Za 0))))))
theorem ZdE:Zw ["works","crowd","deed","leads","found","state","target"] ["works","crowd","deed"] (Ze Zhm):=⟨rfl,rfl,rfl,by decide +kernel,rfl,by decide +kernel,by decide +kernel⟩
theorem ZoP(T:Txt K mg)(Zaq:Callee P w K mg base k "deeds_of" Zao){f:Addr}{fd:FuncData}(Fn:Fun K "led_to" "led_to" Zhm f fd)(hm:mg "led_to" = some (.ref f))(hb:Binds K fd ["works","crowd","deed"] []):Callee P w K mg base (k+1) "led_to" Zcy :=
 Zv Fn ZdE hm hb λcdv A outer s H E hr=>by
  have hu:=ZK hr;exact(Zg (Z3 3 ZdE.nd (Zaa (Zdo (Zl Zaq hr (Zc (Za 0) Zh))) (Za 2)))
  (Zg (Zay 4 ZdE.nd Zsl)
  (Zg (Zbk 5 ZdE.nd rfl rfl (Z1 (Za 1)) (Zk (Zbk 6 ZdE.nd rfl rfl (Z1 (Zaa (Zu 3) (Za 5))) (Zk (ZeY hu 4 (Za 6) ZcM)))))
  (Zk (ZA (ZaE T.n_tuple (ZaX (Zhb T.n_sorted rfl (Zu 4)))))))))
theorem Zk1:Zw ["works","looks","crowd"] ["works","looks","crowd"] (Ze ZdA):=⟨rfl,rfl,rfl,by decide +kernel,rfl,by decide +kernel,by decide +kernel⟩
theorem Zk2(T:Txt K mg)(ZbO:Callee P w K mg base k "parted" ZaI)(Zeu:Callee P w K mg base k "deeds_with" ZbH)(Zhp:Callee P w K mg base k "led_to" Zcy){f:Addr}{fd:FuncData}(Fn:Fun K "ways_with" "ways_with" ZdA f fd)(hm:mg "ways_with" = some (.ref f))(hb:Binds K fd ["works","looks","crowd"] []):Callee P w K mg base (k+1) "ways_with" ZaB :=
 Zv Fn Zk1 hm hb λcdv A outer s H E hr=>by have hu:=ZK hr;exact(Zk (ZA (Zgq (ZaH rfl rfl (N:=["deed","works","looks","crowd"]) (ZN (sc:=Ze ZdA) (XN:=["works","looks","crowd"])) (Z1 (Zl Zeu hr (Zc (Za 0) (Zc (Za 2) Zh)))) (λ_ _ _ _ _=>Zbv) (λ_ _ _ _ _=>(ZcZ (Zc (Za 0) (Zc (Zl ZbO hr (Zc (Za 1) (Zc (Za 2) (Zc (Zl Zhp hr (Zc (Za 1) (Zc (Za 3) (Zc (Za 0) Zh)))) Zh)))) Zh))))))))
theorem Zgc:Zw ["ways","costs","cost_by","told"] ["ways","costs","cost_by"] (Ze Zcl):=⟨rfl,rfl,rfl,by decide +kernel,rfl,by decide +kernel,by decide +kernel⟩
theorem ZjM(T:Txt K mg)(CV:Zdn P w K mg base k ap){f:Addr}{fd:FuncData}(Fn:Fun K "least_cost" "least_cost" Zcl f fd)(hm:mg "least_cost" = some (.ref f))(hb:Binds K fd ["ways","costs","cost_by"] []):Callee P w K mg base (k+1) "least_cost" (Zbj ap) :=
 Zv Fn Zgc hm hb λcdv A outer s H E hr=>by
  have hu:=ZK hr;exact(Zg (ZcN 3 Zgc.nd rfl rfl (N:=["way","ways","costs","cost_by","told"]) (ZN (sc:=Ze Zcl) (XN:=["ways","costs","cost_by","told"])) (Z1 (Za 0)) (λ_ _ _ _ _=>Zbv) (λ_ _ _ _ _=>(ZlC CV hr 3 (Zc (Za 0) (Zc (Za 2) Zh)))))
  (Zk (Zds 3 (ZA (Zn9 T.n_min rfl (ZaX (ZaH rfl rfl (N:=["cost","ways","costs","cost_by","told"]) (ZN (sc:=Ze Zcl) (XN:=["ways","costs","cost_by","told"])) (Z1 (Za 3)) (λ_ _ _ _ _=>(Zdd (Za0 Zsq (Za 0) ZeU))) (λ_ _ _ _ _=>(Za 0)))))))))
theorem ZcQ:Zw ["reach","costs","cost_by","found","crowd","cost"] ["reach","costs","cost_by"] (Ze Zer):=⟨rfl,rfl,rfl,by decide +kernel,rfl,by decide +kernel,by decide +kernel⟩
theorem Zjr(T:Txt K mg)(Zev:Callee P w K mg base k "least_cost" (Zbj ap)){f:Addr}{fd:FuncData}(Fn:Fun K "next_costs" "next_costs" Zer f fd)(hm:mg "next_costs" = some (.ref f))(hb:Binds K fd ["reach","costs","cost_by"] []):Zdj P w K mg base (k+1) "next_costs" (ZaV ap) :=
 Zpz Fn ZcQ hm hb λcdv A outer s H E hr=>by
  have hu:=ZK hr;exact(Zm8 (Zay 3 ZcQ.nd ZoJ)
  (Zm8 (ZhX 0 (Zbk 4 ZcQ.nd rfl rfl (ZhY 0) (Zk (Zbf (Zkm hu (Za 4) (Zu 1)) (Zg (Z3 5 ZcQ.nd (Zl Zev hr (Zc (Zf8 hu (Zu 0) (Za 4)) (Zc (Za 1) (Zc (Za 2) Zh)))))
  (Zk (Zbf (Za0 Zsq (Za 5) ZeU) (Zk (ZeY hu 3 (Za 4) (Za 5))) Zaj))) Zaj))))
  (Zty 3)))
theorem ZnI:Zw ["works"] ["works"] (Ze Zgt):=⟨rfl,rfl,rfl,by decide +kernel,rfl,by decide +kernel,by decide +kernel⟩
theorem ZnJ(T:Txt K mg){f:Addr}{fd:FuncData}(Fn:Fun K "goal_of" "goal_of" Zgt f fd)(hm:mg "goal_of" = some (.ref f))(hb:Binds K fd ["works"] []):Callee P w K mg base (k+1) "goal_of" ZbN :=
 Zv Fn ZnI hm hb λcdv A outer s H E hr=>by have hu:=ZK hr;exact(Zk (ZA (Zaa (Zu 0) Zj)))
theorem ZlR:Zw ["works","crowd"] ["works","crowd"] (Ze Zd6):=⟨rfl,rfl,rfl,by decide +kernel,rfl,by decide +kernel,by decide +kernel⟩
theorem ZlS(T:Txt K mg)(ZcR:Callee P w K mg base k "goal_of" ZbN){f:Addr}{fd:FuncData}(Fn:Fun K "is_there" "is_there" Zd6 f fd)(hm:mg "is_there" = some (.ref f))(hb:Binds K fd ["works","crowd"] []):Callee P w K mg base (k+1) "is_there" Za7 :=
 Zv Fn ZlR hm hb λcdv A outer s H E hr=>by have hu:=ZK hr;exact(Zk (ZA (Zf7 T.n_all rfl (ZaX (ZaH rfl rfl (N:=["state","works","crowd"]) (ZN (sc:=Ze Zd6) (XN:=["works","crowd"])) (Z1 (Za 1)) (λ_ _ _ _ _=>Zbv) (λ_ _ _ _ _=>(ZtI (Za 0) (Zdo (Zl ZcR hr (Zc (Za 1) Zh))))))))))
theorem Zbd:Zw ["works","reach","cost_by","costs","cost","found","crowd","offered"] ["works","reach","cost_by"] (Ze Zcr):=⟨rfl,rfl,rfl,by decide +kernel,rfl,by decide +kernel,by decide +kernel⟩
theorem ZlT(T:Txt K mg)(ZfT:Callee P w K mg base k "is_there" Za7)(Gf_next_costs:Zdj P w K mg base k "next_costs" (ZaV ap)){f:Addr}{fd:FuncData}(Fn:Fun K "costs_of" "costs_of" Zcr f fd)(hm:mg "costs_of" = some (.ref f))(hb:Binds K fd ["works","reach","cost_by"] []):Callee P w K mg base (k+1) "costs_of" (Zcp ap) :=
 Zv Fn Zbd hm hb λcdv A outer s H E hr=>by
  have hu:=ZK hr;exact(Zg (Zay 3 Zbd.nd ZoJ)
  (Zg (Z3 4 Zbd.nd Zj)
  (Zg (ZhX 1 (ZcN 5 Zbd.nd rfl rfl (N:=["crowd","works","reach","cost_by","costs","cost","found"," ","offered"]) (ZN (sc:=Ze Zcr) (XN:=["works","reach","cost_by","costs","cost","found","crowd","offered"])) (ZhY 1) (λ_ _ _ _ _=>(Zdd (Zch (Zl ZfT hr (Zc (Za 1) (Zc (Za 0) Zh)))))) (λ_ _ _ _ _=>(Za 0))))
  (Zg (ZlA 100000 rfl (Za0 cGt (Zci T.n_len (Zu 5)) Zj) (Zg (Zds 5 (Zbk 6 Zbd.nd rfl rfl (Z1 (Za 5)) (Zk (ZeY hu 3 (Za 6) (Za 4)))))
  (Zg (Zay 7 Zbd.nd (Zra Gf_next_costs hr (ZlB (Za 1) (Zq8 (Zu 3) (ZlB (Za 2) (ZtL Zh))))))
  (Zg (Zds 7 (ZhX 7 (Z3 4 Zbd.nd (Zn9 T.n_min rfl (ZaX (ZaH rfl rfl (N:=["crowd","works","reach","cost_by","costs","cost","found"," ","offered"]) (ZN (sc:=Ze Zcr) (XN:=["works","reach","cost_by","costs","cost","found","crowd","offered"])) (ZhY 7) (λ_ _ _ _ _=>Zbv) (λ_ _ _ _ _=>(Zf8 hu (Zu 8) (Za 0)))))))))
  (Zk (Zds 7 (ZhX 7 (ZcN 5 Zbd.nd rfl rfl (N:=["crowd","works","reach","cost_by","costs","cost","found"," ","offered"]) (ZN (sc:=Ze Zcr) (XN:=["works","reach","cost_by","costs","cost","found","crowd","offered"])) (ZhY 7) (λ_ _ _ _ _=>(Zdd (Za0 (cEq hr) (Zf8 hu (Zu 8) (Za 0)) (Za 5)))) (λ_ _ _ _ _=>(Za 0))))))))))
  (Zk (Zds 3 (ZA (Za 3))))))))
theorem Zk3:Zw ["works","coming"] ["works","coming"] (Ze Ze6):=⟨rfl,rfl,rfl,by decide +kernel,rfl,by decide +kernel,by decide +kernel⟩
theorem Zk4(T:Txt K mg)(ZfU:Callee P w K mg base k "costs_of" (Zcp ap))(Vff_deeds_by:GFn mg "deeds_by" 0){f:Addr}{fd:FuncData}(Fn:Fun K "depths_of" "depths_of" Ze6 f fd)(hm:mg "depths_of" = some (.ref f))(hb:Binds K fd ["works","coming"] []):Callee P w K mg base (k+1) "depths_of" (ZcD ap) :=
 Zv Fn Zk3 hm hb λcdv A outer s H E hr=>by have hu:=ZK hr;exact(Zk (ZA (Zl ZfU hr (Zc (Za 0) (Zc (Za 1) (Zc (ZtN Vff_deeds_by) Zh))))))
theorem ZbA:Zw ["crowds","ways_for","reach","waiting","crowd","way"] ["crowds","ways_for"] (Ze Zdz):=⟨rfl,rfl,rfl,by decide +kernel,rfl,by decide +kernel,by decide +kernel⟩
theorem ZiI(T:Txt K mg)(Zbc:Callee P w K mg base k "crowds_in" ZF)(Zfb:Zdi P w K mg base k "crowds_in" ZF)(CV:Zdn P w K mg base k ap){f:Addr}{fd:FuncData}(Fn:Fun K "reached_from" "reached_from" Zdz f fd)(hm:mg "reached_from" = some (.ref f))(hb:Binds K fd ["crowds","ways_for"] []):Callee P w K mg base (k+1) "reached_from" (Zbg ap) :=
 Zv Fn ZbA hm hb λcdv A outer s H E hr=>by
  have hu:=ZK hr;exact(Zg (Zay 2 ZbA.nd ZoJ)
  (Zg (Zay 3 ZbA.nd (Zkl T.n_list (Zu 0)))
  (Zg (ZlA 100000 rfl (Za0 cGt (Zci T.n_len (Zu 3)) Zj) (Zg (ZtM 4 3 ZbA.nd)
  (Zk (Zbf (Zkm hu (Za 4) (Zu 2)) (Zg (ZeY hu 2 (Za 4) (ZlC CV hr 1 (Zc (Za 4) Zh)))
  (Zk (Zbk 5 ZbA.nd rfl rfl (Z1 (Zf8 hu (Zu 2) (Za 4))) (Zk (ZpO 3 (ZaX (Zq9 Zfb hr (Zc (Zaa (Zu 5) Zj) Zh)))))))) Zaj))))
  (Zk (Zds 2 (ZA (Za 2)))))))
theorem Zje:Zw ["works","looks","crowd"] ["works","looks","crowd"] (Ze ZL):=⟨rfl,rfl,rfl,by decide +kernel,rfl,by decide +kernel,by decide +kernel⟩
theorem ZtO:ZoZ ["works","looks","crowd"] (Ze ZL) (Zj8 ZL) ["works","looks"] [0,1]=true:=by decide +kernel
theorem Zjf(T:Txt K mg)(ZdF:Callee P w K mg base k "reached_from" (Zbg ap))(Zbc:Callee P w K mg base k "crowds_in" ZF)(ZbO:Callee P w K mg base k "parted" ZaI)(ZcE:Callee P w K mg base k "ways_with" ZaB){c T:Addr}(hc:Zyh K c T=true)(ht:(T,("coming_from.<locals>.<lambda>":Str))∈FX.tl)(hq:∀q,(T,q)∈FX.tl->q=("coming_from.<locals>.<lambda>":Str))(bm:BMod base mg)(good:∀F p cs,Clo K F p (ZuA ZL) (Zrj ZL) (Zj8 ZL) ["works","looks"] cs->FX.fv 1 cs F p){f:Addr}{fd:FuncData}(Fn:ZpD K "coming_from" "coming_from" ZL f fd c)(hm:mg "coming_from" = some (.ref f))(hb:Binds K fd ["works","looks","crowd"] []):Callee P w K mg base (k+1) "coming_from" (Zb0 ap) :=
 ZoX Fn Zje hm hb λA outer s H E hr=>by have hu:=ZK hr;exact(Zk (ZA (ZoK ZdF hr (Zsj ZtO hc ht hq bm good) (Zl Zbc hr (Zc (Zl ZbO hr (Zc (Za 0) (Zc (Za 1) (Zc (Za 2) Zh)))) Zh)))))
theorem ZgA:Zw ["works","looks","begin","depths"] ["works","looks"] (Ze Zhn):=⟨rfl,rfl,rfl,by decide +kernel,rfl,by decide +kernel,by decide +kernel⟩
theorem ZoQ(T:Txt K mg)(ZcS:Callee P w K mg base k "checked" ZbM)(Zc7:Callee P w K mg base k "checked_looks" Za1)(Zct:Callee P w K mg base k "begin_of" ZbS)(Zfc:Callee P w K mg base k "depths_of" (ZcD ap))(Za3:Callee P w K mg base k "cost_at_worst" Z0)(ZdS:Callee P w K mg base k "coming_from" (Zb0 ap))(ZbO:Callee P w K mg base k "parted" ZaI){f:Addr}{fd:FuncData}(Fn:Fun K "fewest" "fewest" Zhn f fd)(hm:mg "fewest" = some (.ref f))(hb:Binds K fd ["works","looks"] []):Callee P w K mg base (k+1) "fewest" (Zde ap) :=
 Zv Fn ZgA hm hb λcdv A outer s H E hr=>by
  have hu:=ZK hr;exact(Zg (ZjH (Zl ZcS hr (Zc (Za 0) Zh)))
  (Zg (ZjH (Zl Zc7 hr (Zc (Za 0) (Zc (Za 1) Zh))))
  (Zg (Z3 2 ZgA.nd (Zl Zct hr (Zc (Za 0) Zh)))
  (Zg (Z3 3 ZgA.nd (Zl Zfc hr (Zc (Za 0) (Zc (Zl ZdS hr (Zc (Za 0) (Zc (Za 1) (Zc (Za 2) Zh)))) Zh))))
  (Zk (ZA (Zl Za3 hr (Zc (Zl ZbO hr (Zc (Za 0) (Zc (Za 1) (Zc (Za 2) Zh)))) (Zc (Za 3) Zh)))))))))
theorem Zk5:Zw ["works"] ["works"] (Ze Ze5):=⟨rfl,rfl,rfl,by decide +kernel,rfl,by decide +kernel,by decide +kernel⟩
theorem Zk6(T:Txt K mg){f:Addr}{fd:FuncData}(Fn:Fun K "states_of" "states_of" Ze5 f fd)(hm:mg "states_of" = some (.ref f))(hb:Binds K fd ["works"] []):Callee P w K mg base (k+1) "states_of" Zba :=
 Zv Fn Zk5 hm hb λcdv A outer s H E hr=>by have hu:=ZK hr;exact(Zk (ZA (Zaa (Zu 0) Zj)))
theorem Zgd:Zw ["works","look"] ["works"] (Ze Zes):=⟨rfl,rfl,rfl,by decide +kernel,rfl,by decide +kernel,by decide +kernel⟩
theorem ZjN(T:Txt K mg)(ZcS:Callee P w K mg base k "checked" ZbM)(Zhq:Callee P w K mg base k "fewest" (Zde ap))(ZdG:Callee P w K mg base k "states_of" Zba)(Zaq:Callee P w K mg base k "deeds_of" Zao)(Zct:Callee P w K mg base k "begin_of" ZbS)(ZcR:Callee P w K mg base k "goal_of" ZbN){f:Addr}{fd:FuncData}(Fn:Fun K "seen_whole" "seen_whole" Zes f fd)(hm:mg "seen_whole" = some (.ref f))(hb:Binds K fd ["works"] []):Callee P w K mg base (k+1) "seen_whole" (Zck ap) :=
 Zv Fn Zgd hm hb λcdv A outer s H E hr=>by
  have hu:=ZK hr;exact(Zg (ZjH (Zl ZcS hr (Zc (Za 0) Zh)))
  (Zg (Z3 1 Zgd.nd (Ziq T.n_tuple T.n_range rfl (Zl ZdG hr (Zc (Za 0) Zh))))
  (Zk (ZA (Zl Zhq hr (Zc (ZcZ (Zc (Zl ZdG hr (Zc (Za 0) Zh)) (Zc (Zl Zaq hr (Zc (Za 0) Zh)) (Zc (ZcZ (Zc (Za 1) Zh)) (Zc (Zl Zct hr (Zc (Za 0) Zh)) (Zc (Zl ZcR hr (Zc (Za 0) Zh)) Zh)))))) (Zc (ZcZ (Zc Zj Zh)) Zh)))))))
theorem Zk7:Zw ["_law_found"] ["_law_found"] (Ze Ze7):=⟨rfl,rfl,rfl,by decide +kernel,rfl,by decide +kernel,by decide +kernel⟩
theorem Zk8(T:Txt K mg){f:Addr}{fd:FuncData}(Fn:Fun K "_law_whole" "_law_whole" Ze7 f fd)(hm:mg "_law_whole" = some (.ref f))(hb:Binds K fd ["_law_found"] []):Callee P w K mg base (k+1) "_law_whole" Zbx :=
 Zv Fn Zk7 hm hb λcdv A outer s H E hr=>by have hu:=ZK hr;exact(Zk (ZA (Zdr (Zi9 T.n_isinstance T.n_int (Za 0)) (Zdq (ZtB (Zip T.n_isinstance T.n_bool (Za 0)))))))
theorem ZbI:Zw ["_law_script","_law_works_here","_law_costs","_law_state","_law_turn","_law_more","_law_good","_law_deed_here","_law_left","_law_found"] ["_law_script"] (Ze Zc0):=⟨rfl,rfl,rfl,by decide +kernel,rfl,by decide +kernel,by decide +kernel⟩
theorem Zsz(T:Txt K mg)(Zfd:Callee P w K mg base k "_law_works" ZaA)(Zew:Callee P w K mg base k "seen_whole" (Zck ap))(Zfe:Callee P w K mg base k "_law_whole" Zbx){f:Addr}{fd:FuncData}(Fn:Fun K "law" "law" Zc0 f fd):ZcL P w K mg base CX0 (k+1) f fd ["_law_script"] (spD K 1 (Zef ap)) :=
 Zon Fn ZbI λcdv A outer s H E hr=>by
  have hu:=ZK hr;exact(Zg (Z3 1 ZbI.nd (Zl Zfd hr (Zc (Za 0) (Zc Zj Zh))))
  (Zg (Zay 2 ZbI.nd Zsl)
  (Zg (Zbk 3 ZbI.nd rfl rfl (Z1 (Zaa (Zu 1) Zj)) (Zk (ZeY hu 2 (Za 3) Zj)))
  (Zg (Zbk 4 ZbI.nd rfl rfl (ZpL T.n_range Zj (ZD ZbD (Zaa (Zu 1) Zj) Zj)) (Zg (Zay 5 ZbI.nd (ZbW Zh))
  (Zg (Zbk 3 ZbI.nd rfl rfl (Zcb T.n_range (Zaa (Zu 1) Zj)) (Zg (Zay 6 ZbI.nd (ZbW Zh))
  (Zg (Zbk 7 ZbI.nd rfl rfl (Z1 (Zaa (Zu 1) Zj)) (Zg (ZcN 8 ZbI.nd rfl rfl (N:=["_law_other","_law_script","_law_works_here","_law_costs","_law_state","_law_turn","_law_more","_law_good","_law_deed_here","_law_left","_law_found"]) (ZN (sc:=Ze Zc0) (XN:=["_law_script","_law_works_here","_law_costs","_law_state","_law_turn","_law_more","_law_good","_law_deed_here","_law_left","_law_found"])) (Z1 (Zaa (Zu 7) (Za 3))) (λ_ _ _ _ _=>(Zdd (ZiH hu (Za 0) (Zu 3)))) (λ_ _ _ _ _=>(Za 0)))
  (Zk (Zds 8 (Zbf (Zlu (ZpK (Za0 (cNe hr) (Zaa (Zu 7) (Za 3)) (ZcZ Zh)) (Zn7 (Za0 (cEq hr) (Za 8) (Zgq (ZbW Zh)))))) (Zk (Zcx 6 (Za 7))) Zaj)))))
  (Zk (Zds 6 (Zbf (Zlu (ZpK (ZiH hu (Za 3) (Zu 2)) (Zn7 (Za0 (cNe hr) (Za 6) (Zgq (ZbW Zh)))))) (Zk (Zcx 5 (Za 3))) Zaj))))))
  (Zk (Zds 5 (Zbk 3 ZbI.nd rfl rfl (Z1 (Za 5)) (Zk (ZeY hu 2 (Za 3) (Za 4)))))))))
  (Zg (Z3 9 ZbI.nd (Zl Zew hr (Zc (Za 1) Zh)))
  (Zg (Zbf (ZtJ (ZaX (ZaH rfl rfl (N:=["_law_state","_law_script","_law_works_here","_law_costs"," ","_law_turn","_law_more","_law_good","_law_deed_here","_law_left","_law_found"]) (ZN (sc:=Ze Zc0) (XN:=["_law_script","_law_works_here","_law_costs","_law_state","_law_turn","_law_more","_law_good","_law_deed_here","_law_left","_law_found"])) (Z1 (Zaa (Zu 1) Zj)) (λ_ _ _ _ _=>(Zdd (ZiH hu (Za 0) (Zu 3)))) (λ_ _ _ _ _=>(Za 0))))) (Zk (ZA (Zg9 ZuI (Za 9) ZeU))) Zaj)
  (Zk (ZA (Zdr (Zl Zfe hr (Zc (Za 9) Zh)) (Zdq (Zg9 (cEq hr) (Za 9) (Zn8 T.n_max rfl (ZaX (ZaH rfl rfl (N:=["_law_state","_law_script","_law_works_here","_law_costs"," ","_law_turn","_law_more","_law_good","_law_deed_here","_law_left","_law_found"]) (ZN (sc:=Ze Zc0) (XN:=["_law_script","_law_works_here","_law_costs","_law_state","_law_turn","_law_more","_law_good","_law_deed_here","_law_left","_law_found"])) (Z1 (Zaa (Zu 1) Zj)) (λ_ _ _ _ _=>Zbv) (λ_ _ _ _ _=>(ZtH hu 3 (Za 0)))))))))))))))))
def FvI(K:ZwC)(t:Nat)(cs:List PyData)(F:Hp)(a:Addr):Prop :=
 (t=0/\cs=[]/\ZyU K Zxj "deeds_by" = some (some (.ref a)))\/(t=1/\Clo K F a (ZuA ZL) (Zrj ZL) (Zj8 ZL) ["works","looks"] cs)
theorem ZtU:Zi2 (Zj8 ZL) "part" ["works","looks"]:=⟨rfl,rfl,rfl,by decide +kernel,rfl,by decide +kernel,by decide +kernel⟩
theorem Zum(T:Txt K mg)(ZcE:Callee P w K mg base k "ways_with" ZaB)(qual:Str)(f:Addr)(cd:Value)(clos:List (Str × Addr))(A:Around)(outer:List PySem.Env)(s:Shared)(H:Hp)(hr:Zah k (A.deeper (Zzq qual (Zj8 ZL) s.heap.objs.size f cd clos))) :
  XE (Zln P w K mg base ["part","works","looks"] qual (Zj8 ZL) f cd clos A outer s H) (Zrj ZL) (Zn ZaB (Zd (Zb 1) (Zd (Zb 2) (Zd (Zb 0) Zm)))):=by
 have hu:=ZK hr;exact(Zl ZcE hr (Zc (Za 1) (Zc (Za 2) (Zc (Za 0) Zh))))
theorem ZvB(T:Txt K mg)(V:∀t cs F a,FX.fv t cs F a->FvI K t cs F a){f0:Addr}{fd0:FuncData}(Fn0:Fun K "deeds_by" "deeds_by" Zd7 f0 fd0)(hm0:mg "deeds_by" = some (.ref f0))(hn0:∀a,ZyU K Zxj "deeds_by" = some (some (.ref a))->mg "deeds_by" = some (.ref a))(ZfV:Callee P w K mg base (k+1) "deeds_by" Zcq)(Lf_ways_with:Callee P w K mg base k "ways_with" ZaB):Zdn P w K mg base (k+1) ap:=by
 constructor
 ·intro t cs F a h A outer s H e0 sub
  rcases V t cs F a h with⟨rfl,rfl,hn⟩ | ⟨rfl,hC⟩
  ·exact Ztj Fn0 hm0 (hn0 a hn) e0
  ·exact Zui hC e0 sub
 ·intro t cs F a h A outer s H e0 sub us vs ds d Q hr tb nt rv rs hap kk
  rcases V t cs F a h with⟨rfl,rfl,hn⟩ | ⟨rfl,hC⟩
  ·exact ZrI ZfV (hn0 a hn) e0 sub hr tb nt rv rs hap kk
  ·exact ZsA ZtU (λ_ _ _ _ _ _=>rfl) (Zum T Lf_ways_with) hC e0 sub hr tb nt rv rs hap kk
def tlI:List (Addr × Str):=[(228,"coming_from.<locals>.<lambda>")]
@[reducible] def fxI(K:ZwC):FX where
 tl:=tlI
 fv:=FvI K
 sw:=λhF hob h=>by
  rcases h with h | h
  ·exact ZxA (h)
  ·exact Zxg ((⟨h.1,h.2.sw hF hob⟩))
 drop:=λh=>by
  rcases h with h | h
  ·exact ZxA (h)
  ·exact Zxg ((⟨h.1,h.2.drop⟩))
 mono:=λh s=>by
  rcases h with h | h
  ·exact ZxA (h)
  ·exact Zxg ((⟨h.1,h.2.mono s⟩))
structure Def(K:ZwC)(mg:Str->Option Value)(x:Str)(st:Stmt)(ps:List Str):Prop where
 ex:∃f fd,Fun K x x st f fd/\mg x=some (.ref f)/\Binds K fd ps []
theorem ZuQ{h:Heap}{x:Str}{st:Stmt}{ps:List Str}{f:Addr}{oc:Value}{od an:Option Addr}{osl:Array (Option Value)}{kV doc pm cdv ct:Value}(X:K.In h)(G:h.Ns Zxj mg)(a:ZyU K Zxj x=some (some (.ref f)))
  (l:K.lookup f=some ⟨oc,od,.func (ZxS x x (ZbJ st) (Zau st) (Ze st) .none kV doc pm an cdv ct),osl⟩) (c:Zyx K cdv x=true) (kp:Zx1 K (.ref f)=true)
  (b:∀(kV doc pm:Value) (an:Option Addr) (cdv ct:Value) (us:List Value),us.length=ps.length->bindArgs (ZxS x x (ZbJ st) (Zau st) (Ze st) .none kV doc pm an cdv ct) ⟨us,[]⟩=pure (ps.zip us)):Def K mg x st ps :=
 ⟨f,_,Zni l c kp,ZzM X G a,(Zni l c kp).binds b⟩
structure ZtY(K:ZwC)(mg:Str->Option Value)(x:Str)(st:Stmt)(ps:List Str)(c T:Addr):Prop where
 ex:∃f fd,ZpD K x x st f fd c/\mg x=some (.ref f)/\Binds K fd ps []/\Zyh K c T=true
theorem ZsX{h:Heap}{x:Str}{st:Stmt}{ps:List Str}{f c T:Addr}{oc:Value}{od an:Option Addr}{osl:Array (Option Value)}{kV doc pm cdv ct:Value}(X:K.In h)(G:h.Ns Zxj mg)(a:ZyU K Zxj x=some (some (.ref f)))
  (l:K.lookup f=some ⟨oc,od,.func (ZxS x x (ZbJ st) (Zau st) (Ze st) .none kV doc pm an cdv ct),osl⟩) (cc:Zyx K cdv x=true) (kp:Zx1 K (.ref f)=true)
  (b:∀(kV doc pm:Value) (an:Option Addr) (cdv ct:Value) (us:List Value),us.length=ps.length->bindArgs (ZxS x x (ZbJ st) (Zau st) (Ze st) .none kV doc pm an cdv ct) ⟨us,[]⟩=pure (ps.zip us)) (e:cdv=.ref c) (hc:Zyh K c T=true):ZtY K mg x st ps c T:=by
 subst e;exact⟨f,_,Zta l cc kp,ZzM X G a,.all (b kV doc pm an _ ct),hc⟩
def NsV(K:ZwC)(mg:Str->Option Value)(x:Str):Prop:=(∀a,ZyU K Zxj x=some (some (.ref a))->mg x=some (.ref a))/\∃f,ZyU K Zxj x=some (some (.ref f))
theorem Zuq{h:Heap}{x:Str}{f:Addr}(X:K.In h)(G:h.Ns Zxj mg)(a:ZyU K Zxj x=some (some (.ref f))):NsV K mg x:=⟨λ_ e=>ZzM X G e,f,a⟩
end
structure Ds(K:ZwC)(mg:Str->Option Value):Prop where
 ZnK:Def K mg "_law_cell" ZfN ["_law_script","_law_k"]
 ZoR:Def K mg "_law_mix" Zgv ["_law_cell_here","_law_prime","_law_many"]
 ZlU:Def K mg "_law_crowd" ZdB ["_law_cell_here","_law_many","_law_least"]
 ZnL:Def K mg "_law_deed" ZfO ["_law_cell_here","_law_many"]
 ZnM:Def K mg "_law_walk" ZfP ["_law_cell_here","_law_many"]
 ZlV:Def K mg "_law_works" ZdC ["_law_script","_law_at"]
 ZlW:Def K mg "is_number" Ze2 ["thing","least","most"]
 ZlX:Def K mg "is_rising" Ze3 ["thing","many"]
 ZnN:Def K mg "is_crowd" ZfJ ["thing","many"]
 ZpP:Def K mg "is_row" Zhl ["thing","least","most"]
 ZoS:Def K mg "is_deed" ZeI ["thing","many"]
 ZlY:Def K mg "are_deeds" Zdx ["thing","many"]
 ZoT:Def K mg "is_look" ZeJ ["thing","many"]
 ZlZ:Def K mg "are_looks" Zdy ["thing","many"]
 Zl0:Def K mg "are_works" Ze4 ["thing"]
 ZoU:Def K mg "checked" Zgu ["works"]
 ZnO:Def K mg "looks_of" ZfL ["works"]
 ZiJ:Def K mg "checked_looks" Zc6 ["works","looks"]
 ZnP:Def K mg "begin_of" ZfM ["works"]
 Zhr:Def K mg "crowds_in" Zb1 ["rows"]
 ZiK:Def K mg "cost_at_worst" Zcc ["rows","costs"]
 Ziy:Def K mg "deeds_by" Zd7 ["way","depths"]
 ZoV:Def K mg "seen_in" ZeK ["works","looks","state"]
 ZpQ:Def K mg "parted" Zfz ["works","looks","crowd"]
 ZnQ:Def K mg "deeds_of" ZfK ["works"]
 ZjO:Def K mg "can_be_done" ZcP ["works","crowd","deed"]
 Zk9:Def K mg "deeds_with" Zc2 ["works","crowd"]
 ZpR:Def K mg "led_to" Zhm ["works","crowd","deed"]
 Zl1:Def K mg "ways_with" ZdA ["works","looks","crowd"]
 Zla:Def K mg "least_cost" Zcl ["ways","costs","cost_by"]
 Zlb:Def K mg "next_costs" Zer ["reach","costs","cost_by"]
 ZoW:Def K mg "goal_of" Zgt ["works"]
 ZnR:Def K mg "is_there" Zd6 ["works","crowd"]
 ZnS:Def K mg "costs_of" Zcr ["works","reach","cost_by"]
 Zl2:Def K mg "depths_of" Ze6 ["works","coming"]
 Zjg:Def K mg "reached_from" Zdz ["crowds","ways_for"]
 ZjP:ZtY K mg "coming_from" ZL ["works","looks","crowd"] 232 228
 ZpS:Def K mg "fewest" Zhn ["works","looks"]
 Zl3:Def K mg "states_of" Ze5 ["works"]
 Zlc:Def K mg "seen_whole" Zes ["works"]
 Zl4:Def K mg "_law_whole" Ze7 ["_law_found"]
 Nf_deeds_by:NsV K mg "deeds_by"
section
variable[FX]{P:Program}{w:World}{K:ZwC}{mg:Str->Option Value}{base:Heap}{k:Nat}
theorem ZuV(T:Txt K mg)(hV:∀t cs F a,FX.fv t cs F a↔FvI K t cs F a)(hTL:FX.tl=tlI)(Dd:Ds K mg)(bm:BMod base mg){f:Addr}{fd:FuncData}(Fn:Fun K "law" "law" Zc0 f fd):ZcL P w K mg base CX0 12 f fd ["_law_script"] (spD K 1 (Zef ap)):=by
 have Vff_deeds_by:GFn mg "deeds_by" 0:=by obtain⟨h1,g,h2⟩:=Dd.Nf_deeds_by;exact⟨g,h1 g h2,λF=>(hV _ _ _ _).mpr (ZxA (⟨rfl,rfl,h2⟩))⟩
 have Zbs:Callee P w K mg base 1 "_law_cell" Zap:=by obtain⟨f,fd,F,m,b⟩:=Dd.ZnK.ex;exact ZlF T  F m b
 have ZI:Callee P w K mg base 1 "_law_mix" ZE:=by obtain⟨f,fd,F,m,b⟩:=Dd.ZoR.ex;exact Znz T  F m b
 have ZdD:Callee P w K mg base 2 "_law_crowd" Zbb:=by obtain⟨f,fd,F,m,b⟩:=Dd.ZlU.ex;exact ZkQ T (ZI.mono (by decide)) F m b
 have ZfQ:Callee P w K mg base 2 "_law_deed" Zcn:=by obtain⟨f,fd,F,m,b⟩:=Dd.ZnL.ex;exact ZlG T (ZI.mono (by decide)) F m b
 have ZfR:Callee P w K mg base 2 "_law_walk" Zco:=by obtain⟨f,fd,F,m,b⟩:=Dd.ZnM.ex;exact ZlH T (ZI.mono (by decide)) F m b
 have Zfd:Callee P w K mg base 3 "_law_works" ZaA:=by obtain⟨f,fd,F,m,b⟩:=Dd.ZlV.ex;exact ZkR T (Zbs.mono (by decide)) (ZdD.mono (by decide)) (ZI.mono (by decide)) (ZfQ.mono (by decide)) (ZfR.mono (by decide)) F m b
 have ZaN:Callee P w K mg base 1 "is_number" Zaz:=by obtain⟨f,fd,F,m,b⟩:=Dd.ZlW.ex;exact ZkT T  F m b
 have Z9:Callee P w K mg base 2 "is_rising" ZU:=by obtain⟨f,fd,F,m,b⟩:=Dd.ZlX.ex;exact ZkU T (ZaN.mono (by decide)) F m b
 have ZfS:Callee P w K mg base 3 "is_crowd" Zcm:=by obtain⟨f,fd,F,m,b⟩:=Dd.ZnN.ex;exact ZlJ T (Z9.mono (by decide)) F m b
 have Zak:Callee P w K mg base 1 "is_row" Zaw:=by obtain⟨f,fd,F,m,b⟩:=Dd.ZpP.ex;exact ZoN T  F m b
 have Zgw:Callee P w K mg base 3 "is_deed" ZbK:=by obtain⟨f,fd,F,m,b⟩:=Dd.ZoS.ex;exact ZnB T (Zak.mono (by decide)) (Z9.mono (by decide)) F m b
 have Ze8:Callee P w K mg base 4 "are_deeds" ZbX:=by obtain⟨f,fd,F,m,b⟩:=Dd.ZlY.ex;exact ZkW T (Zak.mono (by decide)) (Zgw.mono (by decide)) F m b
 have Zgx:Callee P w K mg base 2 "is_look" ZbL:=by obtain⟨f,fd,F,m,b⟩:=Dd.ZoT.ex;exact ZnD T (Zak.mono (by decide)) (ZaN.mono (by decide)) F m b
 have Ze9:Callee P w K mg base 3 "are_looks" ZbY:=by obtain⟨f,fd,F,m,b⟩:=Dd.ZlZ.ex;exact ZkY T (Zak.mono (by decide)) (Zgx.mono (by decide)) F m b
 have Zfa:Callee P w K mg base 5 "are_works" ZbZ:=by obtain⟨f,fd,F,m,b⟩:=Dd.Zl0.ex;exact ZkZ T (ZfS.mono (by decide)) (Z9.mono (by decide)) (Zak.mono (by decide)) (ZaN.mono (by decide)) (Ze8.mono (by decide)) (Ze9.mono (by decide)) F m b
 have ZcS:Callee P w K mg base 6 "checked" ZbM:=by obtain⟨f,fd,F,m,b⟩:=Dd.ZoU.ex;exact ZnF T (Zfa.mono (by decide)) F m b
 have Zcs:Callee P w K mg base 1 "looks_of" Zbr:=by obtain⟨f,fd,F,m,b⟩:=Dd.ZnO.ex;exact ZlL T  F m b
 have Zc7:Callee P w K mg base 3 "checked_looks" Za1:=by obtain⟨f,fd,F,m,b⟩:=Dd.ZiJ.ex;exact Zil T (Z9.mono (by decide)) (Zcs.mono (by decide)) F m b
 have Zct:Callee P w K mg base 1 "begin_of" ZbS:=by obtain⟨f,fd,F,m,b⟩:=Dd.ZnP.ex;exact ZlN T  F m b
 have Zbc:Callee P w K mg base 1 "crowds_in" ZF:=by obtain⟨f,fd,F,m,b⟩:=Dd.Zhr.ex;exact Zk0 T  F m b
 have Zfb:Zdi P w K mg base 1 "crowds_in" ZF:=by obtain⟨f,fd,F,m,b⟩:=Dd.Zhr.ex;exact ZjJ T  F m b
 have Za3:Callee P w K mg base 2 "cost_at_worst" Z0:=by obtain⟨f,fd,F,m,b⟩:=Dd.ZiK.ex;exact Zim T (Zbc.mono (by decide)) F m b
 have ZfV:Callee P w K mg base 3 "deeds_by" Zcq:=by obtain⟨f,fd,F,m,b⟩:=Dd.Ziy.ex;exact ZlO T (Za3.mono (by decide)) F m b
 have Zgz:Callee P w K mg base 2 "seen_in" ZcO:=by obtain⟨f,fd,F,m,b⟩:=Dd.ZoV.ex;exact ZnH T (Zcs.mono (by decide)) F m b
 have ZbO:Callee P w K mg base 3 "parted" ZaI:=by obtain⟨f,fd,F,m,b⟩:=Dd.ZpQ.ex;exact ZoO T (Zgz.mono (by decide)) F m b
 have Zaq:Callee P w K mg base 1 "deeds_of" Zao:=by obtain⟨f,fd,F,m,b⟩:=Dd.ZnQ.ex;exact ZlQ T  F m b
 have ZdR:Callee P w K mg base 2 "can_be_done" Zbu:=by obtain⟨f,fd,F,m,b⟩:=Dd.ZjO.ex;exact Zjd T (Zaq.mono (by decide)) F m b
 have Zeu:Callee P w K mg base 3 "deeds_with" ZbH:=by obtain⟨f,fd,F,m,b⟩:=Dd.Zk9.ex;exact ZjL T (ZdR.mono (by decide)) (Zaq.mono (by decide)) F m b
 have Zhp:Callee P w K mg base 2 "led_to" Zcy:=by obtain⟨f,fd,F,m,b⟩:=Dd.ZpR.ex;exact ZoP T (Zaq.mono (by decide)) F m b
 have ZcE:Callee P w K mg base 4 "ways_with" ZaB:=by obtain⟨f,fd,F,m,b⟩:=Dd.Zl1.ex;exact Zk2 T (ZbO.mono (by decide)) (Zeu.mono (by decide)) (Zhp.mono (by decide)) F m b
 obtain⟨f0,fd0,F0,m0,b0⟩:=Dd.Ziy.ex;have CV:Zdn P w K mg base 5 ap:=ZvB (k:=4) T (λt cs F a h=>(hV t cs F a).mp h) F0 m0 Dd.Nf_deeds_by.1 (ZfV.mono (by decide)) (ZcE.mono (by decide));have Zev:Callee P w K mg base 6 "least_cost" (Zbj ap):=by obtain⟨f,fd,F,m,b⟩:=Dd.Zla.ex;exact ZjM T  (CV.mono (by decide)) F m b
 have Gf_next_costs:Zdj P w K mg base 7 "next_costs" (ZaV ap):=by obtain⟨f,fd,F,m,b⟩:=Dd.Zlb.ex;exact Zjr T (Zev.mono (by decide)) F m b
 have ZcR:Callee P w K mg base 1 "goal_of" ZbN:=by obtain⟨f,fd,F,m,b⟩:=Dd.ZoW.ex;exact ZnJ T  F m b
 have ZfT:Callee P w K mg base 2 "is_there" Za7:=by obtain⟨f,fd,F,m,b⟩:=Dd.ZnR.ex;exact ZlS T (ZcR.mono (by decide)) F m b
 have ZfU:Callee P w K mg base 8 "costs_of" (Zcp ap):=by obtain⟨f,fd,F,m,b⟩:=Dd.ZnS.ex;exact ZlT T (ZfT.mono (by decide)) (Gf_next_costs.mono (by decide)) F m b
 have Zfc:Callee P w K mg base 9 "depths_of" (ZcD ap):=by obtain⟨f,fd,F,m,b⟩:=Dd.Zl2.ex;exact Zk4 T (ZfU.mono (by decide)) Vff_deeds_by F m b
 have ZdF:Callee P w K mg base 6 "reached_from" (Zbg ap):=by obtain⟨f,fd,F,m,b⟩:=Dd.Zjg.ex;exact ZiI T (Zbc.mono (by decide)) (Zfb.mono (by decide)) (CV.mono (by decide)) F m b
 have ZdS:Callee P w K mg base 7 "coming_from" (Zb0 ap):=by obtain⟨f,fd,F,m,b,hc⟩:=Dd.ZjP.ex;exact Zjf T (ZdF.mono (by decide)) (Zbc.mono (by decide)) (ZbO.mono (by decide)) (ZcE.mono (by decide)) hc (by rw[hTL]; decide) (by rw[hTL]; intro q h; simpa [tlI]using h) bm (λF p cs h=>(hV _ _ _ _).mpr (Zxg ((⟨rfl,h⟩)))) F m b
 have Zhq:Callee P w K mg base 10 "fewest" (Zde ap):=by obtain⟨f,fd,F,m,b⟩:=Dd.ZpS.ex;exact ZoQ T (ZcS.mono (by decide)) (Zc7.mono (by decide)) (Zct.mono (by decide)) (Zfc.mono (by decide)) (Za3.mono (by decide)) (ZdS.mono (by decide)) (ZbO.mono (by decide)) F m b
 have ZdG:Callee P w K mg base 1 "states_of" Zba:=by obtain⟨f,fd,F,m,b⟩:=Dd.Zl3.ex;exact Zk6 T  F m b
 have Zew:Callee P w K mg base 11 "seen_whole" (Zck ap):=by obtain⟨f,fd,F,m,b⟩:=Dd.Zlc.ex;exact ZjN T (ZcS.mono (by decide)) (Zhq.mono (by decide)) (ZdG.mono (by decide)) (Zaq.mono (by decide)) (Zct.mono (by decide)) (ZcR.mono (by decide)) F m b
 have Zfe:Callee P w K mg base 1 "_law_whole" Zbx:=by obtain⟨f,fd,F,m,b⟩:=Dd.Zl4.ex;exact Zk8 T  F m b
 exact Zsz (k:=11) T (Zfd.mono (by decide)) (Zew.mono (by decide)) (Zfe.mono (by decide)) Fn
end
theorem all_mk{l:ZAQ}{w:World}{K:ZwC}{h:Heap}{mg:Str->Option Value}{fa f4:Addr}{od4 an4:Option Addr}{sl4:Array (Option Value)}{oc4 kV4 dc4 pm4 cd4 ct4:Value}(X:K.In h)(G:h.Ns Zxj mg)(hfa:mg "law" = some (.ref fa))
  (T:Txt K mg) (Dd:Ds K mg) (a4:ZyU K Zxj "law" = some (some (.ref f4)))
  (l4:K.lookup f4=some ⟨oc4,od4,.func (ZxS "law" "law" (ZbJ Zc0) (Zau Zc0) (Ze Zc0) .none kV4 dc4 pm4 an4 cd4 ct4),sl4⟩) (c4:Zyx K cd4 "law" = true) (k4:Zx1 K (.ref f4)=true) :
  ∃fd:FuncData,(∀(s:Shared) (v:Value),BindsTo s fd ⟨[v],[]⟩ [("_law_script",v)])/\∀base:Heap,K.In base->base.Ns Zxj mg->BMod base mg->ZcL l.prog w K mg base CX0 12 fa fd ["_law_script"] (@spD (fxI K) K 1 (Zef ap)):=by
 have e:=hfa.symm.trans (ZzM X G a4);cases e;have fx0:FX:=FX0;exact⟨_,λs v=>.of_eq rfl,λbase _ _ bm=>@ZuV (fxI K) _ _ _ _ _ T (λ_ _ _ _=>Iff.rfl) rfl Dd bm _ _ (Zni (st:=Zc0) l4 c4 k4)⟩
theorem walk{l:ZAQ}{q:Program}{loose:List Str}{XP:(Str->Option Value)->Heap->Prop}{YP:World->Heap->Prop}{d:DefRec}{K:Params->ZwC}(hn:l.most=some 63)(hdf:d.params.defaults=[])
  (Zi4:∀ns:List Int,ns.length<=63->(Zef ap) [.list (HM.ofInts ns)]=some (.bool true)) (hY:∀(w:World) (h:Heap),YP w h->(K w.params).In h) (hYT:∀(w:World) (h:Heap),YP w h->∀q∈([(232,228)]:List (Addr × Addr)),h.get? q.2=some (Zzd #[]))
  (hT:∀(w:World),∀q∈([(232,228)]:List (Addr × Addr)),Zyh (K w.params) q.1 q.2=true/\(K w.params).lookup q.2=none)
  (F:∀(w:World) (mg:Str->Option Value) (fa:Addr) (h:Heap),(K w.params).In h->h.Ns Zxj mg->mg d.name=some (.ref fa) ->
   ∃fd:FuncData,(∀(s:Shared) (u:Value),BindsTo s fd ⟨[u],[]⟩ [("_law_script",u)])/\∀base:Heap,(K w.params).In base->base.Ns Zxj mg->BMod base mg->ZcL l.prog w (K w.params) mg base CX0 12 fa fd ["_law_script"] (@spD (fxI (K w.params)) (K w.params) 1 (Zef ap))) :
  PySem.W.WalkO q loose XP YP l.row.toRowW d [] (λf vs=>PySem.call f vs) :=
 Zsh (n:=63) (k:=12) (x:="_law_script") (sp:=λw=>@spD (fxI (K w.params)) (K w.params) 1 (Zef ap)) (tabs:=[(232,228)]) hn (by decide) hdf ⟨rfl,by decide,by decide⟩ hY hYT hT F λw H a ns hl hO hS=>@Zug (fxI (K w.params)) _ _ _ _ _ _ hO (λT q h=>by
  have:∀p∈tlI,p.1∈([(232,228)]:List (Addr × Addr)).map (·.2):=by decide
  exact this _ h) hS (Zi4 ns hl)
section
variable{P:Program}{w:World}{K:ZwC}{mg:Str->Option Value}{base:Heap}{k:Nat}
abbrev Zwb{K:ZwC}{h:Heap}(_:K.In h)(mg:Str->Option Value):Prop:=Ds K mg
abbrev ZvC{K:ZwC}{h:Heap}(_:K.In h)(mg:Str->Option Value):Prop:=Txt K mg
theorem int_mk{mg:Str->Option Value}{n:Str}{v:Value}{k:Int}(h:mg n=some v)(e:∃t,v=.int k t):∃t,mg n=some (.int k t):=by obtain⟨t,rfl⟩:=e;exact⟨t,h⟩
end
end HT
theorem PySem.W.Fast.tw9839006674856468640:True:=trivial
theorem PySem.W.Fast.tw6809599397258728910:True:=trivial
theorem PySem.W.Fast.tw2052493090416265659:True:=trivial
theorem PySem.W.Fast.tw5519063312829684184:True:=trivial
theorem PySem.W.Fast.tw7294415341265468537:True:=trivial
theorem PySem.W.Fast.tw4898433549744513893:True:=trivial
theorem PySem.W.Fast.tw15005450949123902710:True:=trivial
theorem PySem.W.Fast.tw14052337770599638451:True:=trivial
theorem PySem.W.Fast.tw6826344654934628211:True:=trivial
open PySem PySem.W PyProof.Rows
set_option maxRecDepth 100000 in
set_option maxHeartbeats 0 in
theorem PySem.Challenge.cw_halfseen_k22_all_seen_holds : PySem.Challenge.rw_halfseen_k22_all_seen.Holds := by
 w_on; o_law; k_head; (case hw=>w_witness2)
 k_fill
 refine HT.walk (l:=PySem.Challenge.rw_halfseen_k22_all_seen) rfl rfl HG22.Zi4 (λw h Y=>PySem.W.km_in_of Y) (λw h Y q hq=>PySem.W.km_tabs_of Y _ (by clear Y; revert q; decide)) ?Tab ?F
 case Tab=>intro w q hq;cases ZwT.mp hq;exact⟨by kernel_rfl,by kernel_rfl⟩
 case F =>
  intro w mg fa h KX G hmg;have fx0:HP.FX:=HP.FX0;have T:HT.ZvC KX mg:=by
   refine⟨?_,?_,?_,?_,?_,?_,?_,?_,?_,?_,?_,?_,?_,?_,?_,?_⟩
   all_goals first
    | (refine PySem.W.mg_none_of KX G ?z; (case z=>k_is))
    | (refine' HT.int_mk (ZzM KX G ?z) ?e; (case z=>k_is); (case e=>exact⟨_,rfl⟩))
  have Dd:HT.Zwb KX mg:=by
   refine⟨?_,?_,?_,?_,?_,?_,?_,?_,?_,?_,?_,?_,?_,?_,?_,?_,?_,?_,?_,?_,?_,?_,?_,?_,?_,?_,?_,?_,?_,?_,?_,?_,?_,?_,?_,?_,?_,?_,?_,?_,?_,?_⟩
   all_goals first
    | (refine' HT.ZuQ KX G ?a ?l ?c ?k ?b; (case a=>k_is); (case l=>k_is); (case c=>k_is); (case k=>k_is); (case b=>first | exact λ_ _ _ _ _ _ us hl=>(match us,hl with | [_],_=>rfl) | exact λ_ _ _ _ _ _ us hl=>(match us,hl with | [_,_],_=>rfl) | exact λ_ _ _ _ _ _ us hl=>(match us,hl with | [_,_,_],_=>rfl)))
    | (refine' HT.ZsX KX G ?a ?l ?c ?k ?b ?e ?h; (case a=>k_is); (case l=>k_is); (case c=>k_is); (case k=>k_is); (case h=>kernel_rfl); (case e=>exact rfl); (case b=>first | exact λ_ _ _ _ _ _ us hl=>(match us,hl with | [_],_=>rfl) | exact λ_ _ _ _ _ _ us hl=>(match us,hl with | [_,_],_=>rfl) | exact λ_ _ _ _ _ _ us hl=>(match us,hl with | [_,_,_],_=>rfl)))
    | (refine' HT.Zuq KX G ?z; (case z=>k_is))
  refine' HT.all_mk KX G hmg T Dd ?a4 ?l4 ?c4 ?k4
  (case a4=>k_is); (case l4=>k_is); (case c4=>k_is); (case k4=>k_is)