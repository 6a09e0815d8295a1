import PyProof.Rows.All
import Wide.All
import OpenK.AllK
import Wide.FinOn
import Lean
import PyProof.EqAt
import PyProof.EqKinds
import PyProof.TupleCall
import PyProof.P3Statements
import PyProof.P3Eq
import PyProof.NeData
import PyProof.IsiPairs
import PyProof.IsiHeapPairs
import KE.LcSums
import PyProof.IsiNone
import PyProof.DictRoadsH
import PyProof.Rows.SetFrom
import PyProof.DictWalks
import PyProof.Rows.MinMaxN
import PyProof.Rows.SumAny
import PyProof.WalkInts
import PySem.Challenge.RW_halfseen_k07_whole_no_plan_has_fewer
set_option Elab.async false
set_option linter.all false
set_option maxRecDepth 100000
open PySem renaming wpAny_bind->Zwv,wpAny_pure->Zwz,starEach->ZwJ,mainGlobals->Zxa,bootBuiltins->Zxo,wpAny_newObj_type->Zxu,wpAny_holding->ZxD,wpAny_mono->ZxG,codeAny_builtin->ZxJ,compareOp->ZxK,wpAny_call_entry->ZxM,behindInMarks->ZxN,sizeLine_eq->ZxO,wpAny_truthy_bool->ZxU,mem_of_lookup->ZxX,sysModules->ZxY,foldedSetIterable->Zyn,wpAny_typeNameOfWhole_keyiter->Zyp,assignEach->Zyt,codeAny_mono->Zyv,wpAny_Call_Name_kw->Zyw,wpAny_passesOwn->Zyy,wpAny_ite_split->Zyz,attributeBase->ZyC,plainId_quiet->ZyE,swapsWith->ZyJ,wpAny_typeNameOf_keyiter->ZyO,tupleKind_room_in1->ZyV,wpAny_askSetting->Zy7,sliceBounds->Zy9,wpAny_setField->Zzp,wpAny_tryCatch->Zzq,wpAny_dictEntries->Zzt,wpAny_setState_of->Zzv,keywordEach->ZzA,binaryOp->ZzH,tupleKind->ZzK,wpAny_execs_nil->ZzN,letOwnedTupleGo->ZzO,wpAny_newFunctionEnv->ZzS,wpAny_setEntries_of->ZzW,wpAny_fieldsOf->Zz2,firstArgMember->Zz3,codeAmong->Zz7,wpAny_attempt->ZAe,wpAny_pyIter_list->ZAk,wpAny_pyIter_slot->ZAm,builtinsNs->ZAp,call_meets->ZAq,intKind_is->ZAs,backToKw->ZAw,wpAny_isInstance->ZAz,pickOrder->ZAE,wpAny_dictEpoch->ZAF,wpAny_updateSeq->ZAH,subscripted->ZAK,wpAny_of_eq->ZAL,wpAny_letGo->ZAM
open PySem.W renaming Frag->Zww,fnOf->ZxI,keepIn->ZxP,codeHdIn->Zx3,codeIn->Zyr,nsIn->ZyP,tabObj->Zy3,envX->Zzi,mg_of->ZzG,kla_obj->ZzT,methodObj->ZAj,OpenLaw->ZAI,cellsFrom_some->ZAJ,codeHd_of_K->ZA4,callWith_K->ZA7,FnAt->ZA9
open Option renaming map_eq_some_iff->Zwx,isSome_iff_exists->Zxi,isSome_map->ZxV,map->Zym,isSome->Zy8,bind_eq_some_iff->Zzr
open List renaming length_map->Zwy,mem_cons_self->ZwA,mem_cons_of_mem->ZwC,map_cons->ZwD,range->ZwE,all_eq_true->ZwF,getElem?_eq_some_iff->ZwI,mem_map->ZwK,length_cons->ZwM,getElem?_eq_getElem->ZwN,size_toArray->ZwP,mem_singleton->ZwQ,length_append->ZwR,mem_cons->ZwT,mem_range->ZwV,map_map->ZwW,getElem?_map->ZwZ,mem_append_right->Zw1,getElem?_set_ne->Zw2,mem_of_getElem?->Zw3,replicate->Zw4,mem_append->Zw5,map_append->Zw7,getElem?_cons_succ->Zw8,getElem?_append_right->Zxb,append_nil->Zxc,length->Zxd,length_replicate->Zxe,pairwise_cons->Zxf,getElem?_append_left->Zxg,getElem?_set_self->Zxh,nodup_cons->Zxm,find?_cons->Zxn,mem_filter->Zxq,mem_append_left->Zxx,any_eq_true->ZxA,length_set->ZxE,filterMap_cons->ZxF,all_cons->ZxH,mem_filterMap->ZxL,getD->ZxW,length_take->Zx0,nodup_nil->Zx4,append_assoc->Zx5,replicate_succ->Zx7,map_congr_left->Zx8,lookup_cons->Zyb,getElem_mem->Zyc,length_singleton->Zyf,length_filter_le->Zyh,foldl_cons->Zyk,length_range->Zyo,filter_cons->Zys,map_nil->Zyx,any_cons->ZyB,flatten_cons->ZyF,contains_eq_mem->ZyI,mem_flatMap->ZyM,getElem?_replicate->ZyR,getElem?_cons_zero->ZyS,eq_nil_of_length_eq_zero->ZyX,nodup_append->ZyZ,set_getElem_self->Zy1,length_drop->Zy4,mergeSort_perm->Zza,nil_append->Zzb,drop_eq_getElem_cons->Zzc,mem_of_find?_eq_some->Zzd,pairwise_mergeSort->Zzs,min?_eq_some_iff->ZzM,set_set->ZzP,getElem_of_mem->ZzV,filter_eq_self->ZzX,length_pos_iff->ZzZ,map->Zz0,ne_nil_of_mem->ZAb,exists_cons_of_ne_nil->ZAi,find?_append->ZAl,find?_isSome->ZAo,pairwise_iff_getElem->ZAr,getElem?_take_of_lt->ZAv,set_eq_of_length_le->ZAx,drop_length->ZAy,cons_append->ZAB,length_filterMap_le->ZAC,of_mem_zip->ZAD,pairwise_lt_range->ZAN,filter_eq_nil_iff->ZAO,getElem?_eq_none->ZAP,max?_eq_some_iff->ZAU,dropLast_eq_take->ZAV,min?_eq_none_iff->ZAW,max?_eq_none_iff->ZAX,all_nil->ZBa
open PySem.Heap renaming get?_push_of_some->ZwB,lt_size->ZwL,get?_push_size->ZwO,get?_update_self->ZxC,get?_update_other->ZxQ,SameBut->Zyj,size_push->Zy2,get?_push_ne->Zzy,size_update->ZzJ
open PySem.SetTable renaming below->ZwG,insertAt->ZwX,insertAt_perm->Zx9,tooFull->Zy6,toList_insertAt->Zzh,fits->ZzD,fill->ZzE,turns->ZAQ,bits->ZA0
open Nat renaming le_refl->ZwH,ne_of_lt->ZwS,lt_of_lt_of_le->Zw0,le_trans->Zxs,zero_le->ZxR,lt_irrefl->Zya,le_of_lt->Zyi,lt_trans->Zyl,lt_succ_self->ZyL,lt_succ_of_lt->Zy0,le_of_not_lt->Zy5,ne_of_gt->Zze,blt_eq->Zzn,le_of_eq->ZzR
open Bool renaming and_eq_true->ZwU,false_ne_true->Zw9,or_eq_true->Zx6,false_eq_true->Zyg,false_or->ZAd,true_and->ZAg
open Array renaming length_toList->ZwY,getElem?_toList->Zxj,getD->Zyu,toList_push->ZyG,getElem?_eq_getElem->ZyH,getElem?_eq_none->ZzB,perm_iff_toList_perm->ZAf
open Or renaming inr->Zw6,inl->Zxl
open PySem.PyData renaming int->Zxk,tuple->Zxt,bool->ZxT,canLayAll0->ZyY,eqv->Zzm,depthAll->ZzU,eqvAll->ZAh
open Option.some renaming inj->Zxp
open PySem.Value renaming ref->Zxr,none->Zxw,int->Zye,type->Zzj
open Ne renaming symm->Zxv
open False renaming elim->Zxy
open PySem.Around renaming under_plainId->Zxz,frames_deeper->ZAY
open PySem.Heap.SameBut renaming update->ZxB,refl->ZBb
open PySem.F renaming plain_min_loop->ZxS,called_set->Zx1,plainAttrs_list->Zyq,plain_list_iadd->ZyT,slot_list_append->Zzf,type_list_append->Zzg,entry_min_loop->ZzC,slot_dict_setdefault->Zz1,plain_proto_collect->Zz9,plain_set_new->ZAR,slot_set_iter->ZAS
open List.Nodup renaming length_le_of_subset->ZxZ
open PySem.Obj renaming data_mapFields->Zx2,mapSeq->Zzk,putSet->Zzo,isFreed_of_fields->ZzL,cls_mapFields->ZAn,mapFields->ZA1
open Sum renaming inl->Zyd,inr->ZAu
open PyProof.Rows.KeyOrd renaming kle_of_not_klt->ZyA,kle_refl->ZyW,kle_of_klt->Zzx,kle_trans->ZzI,kle_antisymm->ZA2
open PySem.NameKind renaming free->ZyD
open PySem.Builtin.List renaming listTooLong->ZyK,listLengthHint->Zz8,listExtendWith->ZAa
open PySem.Str renaming ofString->ZyN
open PySem.Builtin.Range renaming rangeSize->ZyQ,small->ZA3
open PySem.Paired renaming length->ZyU
open True renaming intro->Zzl
open PySem.SetTable.below renaming go->Zzu
open Int renaming toNat_natCast->Zzw,toNat_of_nonneg->ZzY
open PySem.Calls renaming callWith_builtin->Zzz,spliced_cons->Zz6,Name_function_global->ZAc,call_function_entry->ZAt,evalArgs_plain->ZAZ
open Function renaming comp->ZzF
open ForInStep renaming yield->ZzQ
open PySem.Builtin.Dict_items renaming ownsTuple->Zz4
open PyProof.Rows renaming callWith_type1->Zz5,entry_list_sort->ZAG
open PySem.Builtin.Tuple renaming tupleExact->ZAA
open PySem.Builtin.Dict renaming showsAll->ZAT
open PySem.SeqAt.EqAt renaming int_str->ZA5,str_int->ZA6
open PySem.Expr renaming Call->ZA8
namespace L2
open PySem PySem.Spec PyProof.Rows
abbrev Key:=Sum Int Str
def ZgW:Key->Value->Bool
 | .inl k,v=>Value.isInt k v
 | .inr x,v=>Value.isStrOf x v
def Zv6(w:World):Key->Int
 | .inl k=>hashInt k
 | .inr x=>hashStr w x
theorem ZaV:∀{k:Key} {v:Value},ZgW k v=true->(∃i t,k=Zyd i/\v=Zye i t)\/(∃x t,k=ZAu x/\v=Value.str x t)
 | .inl i,v,h=>by obtain⟨t,e⟩:=Value.isInt_shape (k:=i) (v:=v) h;exact .inl ⟨i,t,rfl,e⟩
 | .inr x,v,h=>by obtain⟨t,e⟩:=Value.isStrOf_shape (x:=x) (v:=v) h;exact .inr ⟨x,t,rfl,e⟩
theorem ZqA(i:Int)(t:Tok):ZgW (.inl i) (.int i t)=true:=by simp[ZgW,Value.isInt]
theorem ZqB(x:Str)(t:Tok):ZgW (.inr x) (.str x t)=true:=by simp[ZgW,Value.isStrOf]
theorem ZuM(a b:Int):decide ((Zyd a:Key)=Zyd b)=(a==b):=by
 by_cases e:a=b
 ·subst e; simp
 ·have h:¬(Zyd a:Key)=Zyd b:=λq=>e (Sum.inl.inj q)
  rw[decide_eq_false h];exact(beq_eq_false_iff_ne.mpr e).symm
theorem Zt4(a b:Str):decide ((ZAu a:Key)=ZAu b)=decide (a=b):=by
 by_cases e:a=b
 ·subst e; simp
 ·have h:¬(ZAu a:Key)=ZAu b:=λq=>e (Sum.inr.inj q)
  rw[decide_eq_false h,decide_eq_false e]
theorem ZuL(a:Int)(b:Str):decide ((Zyd a:Key)=ZAu b)=false:=decide_eq_false (λq=>nomatch q)
theorem Zul(a:Str)(b:Int):decide ((ZAu a:Key)=Zyd b)=false:=decide_eq_false (λq=>nomatch q)
def Zak(prog:Program)(w:World):PySem.KeyKind prog w Key where
 is:=ZgW
 hash:=Zv6 w
 inj:=λv a b ha hb=>by
  rcases ZaV ha with⟨i,t,rfl,rfl⟩ | ⟨x,t,rfl,rfl⟩
  ·rcases ZaV hb with⟨j,u,rfl,e⟩ | ⟨y,u,rfl,e⟩
   ·injection e with e1 _; rw[e1]
   ·exact nomatch e
  ·rcases ZaV hb with⟨j,u,rfl,e⟩ | ⟨y,u,rfl,e⟩
   ·exact nomatch e
   ·injection e with e1 _; rw[e1]
 byValue:=λk v h=>by rcases ZaV h with⟨i,t,rfl,rfl⟩ | ⟨x,t,rfl,rfl⟩<;>rfl
 pyHash:=λhv h=>by
  rcases ZaV hv with⟨i,t,rfl,rfl⟩ | ⟨x,t,rfl,rfl⟩
  ·exact wpAny_pyHash_int h
  ·exact wpAny_pyHash_str h
 eqBool:=λhu hv h=>by
  rcases ZaV hu with⟨i,t,rfl,rfl⟩ | ⟨x,t,rfl,rfl⟩
  ·rcases ZaV hv with⟨j,u,rfl,rfl⟩ | ⟨y,u,rfl,rfl⟩
   ·rw[ZuM]at h; exact wpAny_eqBool_int h
   ·rw[ZuL]at h; exact ZA5 i t y u _ _ _ _ h
  ·rcases ZaV hv with⟨j,u,rfl,rfl⟩ | ⟨y,u,rfl,rfl⟩
   ·rw[Zul]at h; exact ZA6 x t j u _ _ _ _ h
   ·rw[Zt4]at h; exact wpAny_eqBool_str h
 «strs»:=λk x t v h=>by
  rcases ZaV h with⟨i,u,rfl,e⟩ | ⟨y,u,rfl,e⟩
  ·exact nomatch e
  ·injection e with e1 _
   subst e1;cases v<;>rfl
theorem Zpt(prog:Program)(w:World)(k:Key)(v:Value):(Zak prog w).is k v=ZgW k v:=rfl
theorem Zn6(prog:Program)(w:World)(i:Int)(t:Tok):(Zak prog w).is (.inl i) (.int i t)=true:=ZqA i t
theorem Zn4(prog:Program)(w:World)(x:Str)(t:Tok):(Zak prog w).is (.inr x) (.str x t)=true:=ZqB x t
end L2
namespace L2
open PySem PySem.Spec PyProof.Rows
inductive V where
 | non | bl (b:Bool) | int (i:Int) | str (x:Str) | byt (b:Array UInt8) | flt (b:UInt64) | ref (a:Addr) | ty (n:String)
 deriving DecidableEq
def RelV:V->Value->Prop
 | .non,u=>u=Zxw
 | .bl b,u=>u=Value.bool b
 | .int i,u=>∃t,u=Zye i t
 | .str x,u=>∃t,u=Value.str x t
 | .byt b,u=>∃t,u=Value.bytes b t
 | .flt b,u=>∃t,u=Value.float b t
 | .ref a,u=>u=Zxr a
 | .ty n,u=>u=Zzj n
abbrev Vals:List V->List Value->Prop:=Paired RelV
theorem Vals.length{xs:List V}{us:List Value}(r:Vals xs us):xs.length=us.length:=ZyU r
theorem Vals.get:∀{xs:List V} {us:List Value} {i:Nat} {x:V},Vals xs us->xs[i]?=some x->∃u,us[i]?=some u/\RelV x u
 | _,_,_,_,.nil,e=>by simp at e
 | _,_,0,_,.cons r _,e=>by simp at e; subst e; exact⟨_,rfl,r⟩
 | _,_,i+1,x,.cons _ t,e=>by obtain⟨u,h1,h2⟩:=Vals.get (i:=i) (x:=x) t (by simpa using e);exact⟨u,by simpa using h1,h2⟩
theorem Vals.set{x:V}{u:Value}(r:RelV x u):∀{xs:List V} {us:List Value} (i:Nat),Vals xs us->Vals (xs.set i x) (us.set i u)
 | _,_,_,.nil=>.nil
 | _,_,0,.cons _ t=>.cons r t
 | _,_,i+1,.cons q t=>.cons q (Vals.set r i t)
theorem Vals.append:∀{xs ys:List V} {us ws:List Value},Vals xs us->Vals ys ws->Vals (xs++ys) (us++ws)
 | _,_,_,_,.nil,s=>s
 | _,_,_,_,.cons r t,s=>.cons r (Vals.append t s)
theorem Vals.take:∀{xs:List V} {us:List Value} (n:Nat),Vals xs us->Vals (xs.take n) (us.take n)
 | _,_,0,_=>.nil
 | _,_,_+1,.nil=>.nil
 | _,_,n+1,.cons r t=>.cons r (Vals.take n t)
theorem Vals.drop:∀{xs:List V} {us:List Value} (n:Nat),Vals xs us->Vals (xs.drop n) (us.drop n)
 | _,_,0,r=>r
 | _,_,_+1,.nil=>.nil
 | _,_,n+1,.cons _ t=>Vals.drop n t
def Zf8:Option V->Option Value->Prop
 | some v,some u=>RelV v u
 | none,none=>True
 | _,_=>False
def KV{κ:Type}:List (κ × V)->List (κ × Value)->Prop:=Paired λ(p:κ × V) (q:κ × Value)=>p.1=q.1/\RelV p.2 q.2
def kV:Key->V
 | .inl i=>.int i
 | .inr x=>.str x
inductive HO where
 | lst (xs:List V)
 | tup (xs:List V)
 | dK (kvs:List (Key × V)) | dT (kvs:List (List Key × V))
 | set (S:Int->Bool) (n:Nat)
 | ins (C dx:Addr) (fs:List (Str × V))
 | own (x:Addr)
 | xd (fs:List (Str × V))
 | met (f x:Addr)
 | rng (lo hi:Int)
 | frz (o:Obj) (u:HO)
 | tbl (ps:Array Value)
 | ext (φ:Heap->Prop)
abbrev Hp:=Addr->Option HO
def upd(H:Hp)(a:Addr)(o:HO):Hp:=λb=>if b=a then some o else H b
theorem ZA{H:Hp}{a:Addr}{o:HO}:upd H a o a=some o:=by unfold upd; rw[if_pos rfl]
theorem Zy{H:Hp}{a b:Addr}{o:HO}(h:b≠a):upd H a o b=H b:=by unfold upd; rw[if_neg h]
theorem Zsw{H:Hp}{a b:Addr}{o u:HO}(h:H a=some o)(h':H b=some u)(d:o≠u):a≠b:=by intro e; subst e; rw[h]at h'; exact d (Zxp h')
theorem Zaa{H:Hp}{a b:Addr}{o:HO}(h:H a=some o)(h':H b=none):a≠b:=by intro e; subst e; rw[h]at h'; cases h'
section
variable(P:Program)(w:World)
def ZW(H:Hp)(h:Heap)(a:Addr):HO->Prop
 | .lst xs=>xs.length<=sizeLine/\∃(its:List Value) (n:Nat),Vals xs its/\h.get? a=some { cls:=.type "list",data:=.seq its.toArray n }
 | .tup xs=>xs.length<=sizeLine/\∃its:List Value,Vals xs its/\IsTup h a its.toArray
 | .dK kvs=>kvs.length<=sizeLine/\(a==ZxY)=false/\∃vs,KV kvs vs/\h.DictOf (Zak P w) a vs
 | .dT kvs=>kvs.length<=sizeLine/\(a==ZxY)=false/\∃xs:List (List Key × Addr × Value),
   Paired (λ(p:List Key × V) (q:List Key × Addr × Value)=>p.1=q.1/\H q.2.1=some (.tup (p.1.map kV))/\RelV p.2 q.2.2) kvs xs /\
   ∃o es ep,h.get? a=some o/\o.ExactDict/\o.data=.dict es ep/\es.toList=xs.map (entryOfKey (ZzK (Zak P w)))/\(xs.map (·.1)).Nodup
 | .set S n=>h.SetOf (intKind P w) a S n
 | .ins C dx fs=>H dx=some (.own a)/\fs.length<=1000/\dx≠a/\h.get? a=some (PySem.W.instObj C dx) /\
   ∃mA,h.Ns1 dx mA/\(∀f,Zf8 (fs.lookup f) (mA f))/\PySem.Within mA (fs.map (·.1))
 | .own _=>∃o,h.get? a=some o
 | .xd fs=>∃mA,h.Ns1 a mA/\∀f,Zf8 (fs.lookup f) (mA f)
 | .rng lo hi=>∃t u v,h.get? a=some { cls:=.type "range",data:=.fields #[.int lo t,.int hi u,.int 1 v] }
 | .frz o u=>h.get? a=some o/\ZW H h a u
 | .tbl ps=>h.get? a=some { cls:=.none,data:=.fields ps }
 | .met f x=>h.get? a=some (ZAj (.ref f) (.ref x))
 | .ext φ=>φ h/\(∃o,h.get? a=some o)/\∀h1 h2:Heap,φ h1->(∀o,h1.get? a=some o->h2.get? a=some o)->φ h2
def HOk(H:Hp)(h:Heap):Prop:=∀a o,H a=some o->ZW P w H h a o
end
section
variable{P:Program}{w:World}{H H':Hp}{h h':Heap}{a:Addr}{o:HO}
theorem ZW.lt(x:ZW P w H h a o):a<h.objs.size:=by
 cases o with
 | lst xs=>obtain⟨_,_,_,_,e⟩:=x; exact ZwL e
 | tup xs=>obtain⟨_,_,_,p⟩:=x; exact p.lt
 | dK kvs=>obtain⟨_,_,_,_,o,_,_,e,_⟩:=x; exact ZwL e
 | dT kvs=>obtain⟨_,_,_,_,o,_,_,e,_⟩:=x; exact ZwL e
 | set S n=>obtain⟨o,_,_,_,e,_⟩:=x; exact ZwL e
 | ins C dx fs=>obtain⟨_,_,_,e,_⟩:=x; exact ZwL e
 | own y=>obtain⟨_,e⟩:=x; exact ZwL e
 | xd fs=>obtain⟨_,⟨_,_,_,e,_⟩,_⟩:=x; exact ZwL e
 | rng lo hi=>obtain⟨_,_,_,e⟩:=x; exact ZwL e
 | frz ob u=>obtain⟨e,_⟩:=x; exact ZwL e
 | tbl ps=>exact ZwL (show h.get? a=some _ from x)
 | met f y=>exact ZwL (show h.get? a=some _ from x)
 | ext φ=>obtain⟨_,⟨_,e⟩,_⟩:=x; exact ZwL e
theorem Paired.mapP{α β:Type}{F G:α->β->Prop}:∀{l₁:List α} {l₂:List β},Paired F l₁ l₂->(∀a b,F a b->G a b)->Paired G l₁ l₂
 | _,_,.nil,_=>.nil
 | _,_,.cons r t,f=>.cons (f _ _ r) (Paired.mapP t f)
theorem ZW.stay(x:ZW P w H h a o)(k:∀b u,(b=a\/H b=some (.own a))->h.get? b=some u->h'.get? b=some u)
  (ho:∀b,H b=some (.own a)->H' b=some (.own a)) (ht:∀b xs,H b=some (.tup xs)->H' b=some (.tup xs)):ZW P w H' h' a o:=by
 induction o with
 | lst xs=>obtain⟨z,its,n,r,e⟩:=x; exact⟨z,its,n,r,k _ _ (.inl rfl) e⟩
 | tup xs=>obtain⟨z,its,r,ob,e,c⟩:=x; exact⟨z,its,r,ob,k _ _ (.inl rfl) e,c⟩
 | dK kvs=>obtain⟨z,y,vs,r,ob,es,ep,e,c⟩:=x; exact⟨z,y,vs,r,ob,es,ep,k _ _ (.inl rfl) e,c⟩
 | dT kvs=>obtain⟨z,y,xs,r,ob,es,ep,e,c⟩:=x;exact⟨z,y,xs,Paired.mapP r λp q z=>⟨z.1,ht _ _ z.2.1,z.2.2⟩,ob,es,ep,k _ _ (.inl rfl) e,c⟩
 | set S n=>obtain⟨ob,es,ep,t,e,c⟩:=x; exact⟨ob,es,ep,t,k _ _ (.inl rfl) e,c⟩
 | ins C dx fs=>obtain⟨d,z,ne,e,mA,⟨od,es,ep,e2,c⟩,r⟩:=x;exact⟨ho _ d,z,ne,k _ _ (.inl rfl) e,mA,⟨od,es,ep,k _ _ (.inr d) e2,c⟩,r⟩
 | own y=>obtain⟨ob,e⟩:=x; exact⟨ob,k _ _ (.inl rfl) e⟩
 | xd fs=>obtain⟨mA,⟨od,es,ep,e,c⟩,r⟩:=x; exact⟨mA,⟨od,es,ep,k _ _ (.inl rfl) e,c⟩,r⟩
 | rng lo hi=>obtain⟨t,u,v,e⟩:=x; exact⟨t,u,v,k _ _ (.inl rfl) e⟩
 | frz ob u ih=>obtain⟨e,q⟩:=x; exact⟨k _ _ (.inl rfl) e,ih q⟩
 | tbl ps=>have e:h.get? a=some { cls:=.none,data:=.fields ps }:=x;show h'.get? a=some { cls:=.none,data:=.fields ps };exact k a _ (.inl rfl) e
 | met f y=>have e:h.get? a=some (ZAj (.ref f) (.ref y)):=x;show h'.get? a=some (ZAj (.ref f) (.ref y));exact k a _ (.inl rfl) e
 | ext φ=>obtain⟨p,⟨o,e⟩,st⟩:=x; exact⟨st _ _ p λo q=>k _ _ (.inl rfl) q,⟨o,k _ _ (.inl rfl) e⟩,st⟩
theorem HOk.lt(x:HOk P w H h)(e:H a=some o):a<h.objs.size:=(x a o e).lt
theorem HOk.fresh(x:HOk P w H h)(e:h.objs.size<=a):H a=none:=by
 cases q:H a with
 | none=>rfl
 | some u=>exact absurd (Zw0 (x.lt q) e) (Zya _)
theorem HOk.kept(x:HOk P w H h)(k:∀b u,h.get? b=some u->h'.get? b=some u):HOk P w H h':=λa o e=>(x a o e).stay (λb u _ q=>k b u q) (λ_ q=>q) λ_ _ q=>q
theorem HOk.laid(x:HOk P w H h)(k:∀b u,h.get? b=some u->h'.get? b=some u)(hp:h.objs.size<=a)(new:ZW P w (upd H a o) h' a o):HOk P w (upd H a o) h':=λb u e=>by
 have hn:=x.fresh hp
 by_cases hb:b=a
 ·subst hb; rw[ZA]at e; cases e; exact new
 ·rw[Zy hb]at e
  exact(x b u e).stay (λc v _ q=>k c v q) (λc q=>by rw[Zy (Zaa q hn)]; exact q) λc xs q=>by rw[Zy (Zaa q hn)]; exact q
end
def Rd(H:Hp)(a:Addr)(u:HO):Prop:=H a=some u\/∃o,H a=some (.frz o u)
theorem Rd.ok{P:Program}{w:World}{H:Hp}{h:Heap}{a:Addr}{u:HO}(r:Rd H a u)(x:HOk P w H h):ZW P w H h a u:=by
 rcases r with r | ⟨o,r⟩
 ·exact x a u r
 ·obtain⟨_,q⟩:=x a _ r
  exact q
def Mut:Option HO->Prop
 | some (.lst _)=>True
 | some (.dK _)=>True
 | some (.dT _)=>True
 | some (.set _ _)=>True
 | some (.ins _ _ _)=>True
 | some (.ext _)=>True
 | _=>False
section
variable{P:Program}{w:World}{H:Hp}{h h':Heap}{x e:Addr}{o':HO}
theorem HOk.write(ok:HOk P w H h)(mu:Mut (H x))(he:e=x\/H e=some (.own x))(k:∀b u,b≠e->h.get? b=some u->h'.get? b=some u)(heo:∃u,h'.get? e=some u)
  (new:ZW P w (upd H x o') h' x o'):HOk P w (upd H x o') h':=λb u q=>by
 have nown:∀c y,H c=some (.own y)->c≠x:=λc y r z=>by subst z; rw[r]at mu; exact mu
 have ntup:∀c xs,H c=some (.tup xs)->c≠x:=λc xs r z=>by subst z; rw[r]at mu; exact mu
 by_cases hb:b=x
 ·subst hb; rw[ZA]at q; cases q; exact new
 ·rw[Zy hb]at q
  by_cases hbe:b=e
  ·have q':H b=some (.own x):=by
    rcases he with z | z
    ·exact absurd (hbe.trans z) hb
    ·rw[hbe]; exact z
   rw[q]at q'; cases q';obtain⟨v,hv⟩:=heo;exact⟨v,by rw[hbe]; exact hv⟩
  ·refine(ok b u q).stay (λc v hc r=>k c v ?_ r) (λc r=>by rw[Zy (nown c b r)]; exact r) λc xs r=>by rw[Zy (ntup c xs r)]; exact r
   rcases hc with rfl | hc
   ·exact hbe
   ·rintro rfl
    rcases he with z | z
    ·exact nown c b hc z
    ·rw[hc]at z; cases z; exact hb rfl
end
structure Un(fs ex:List Addr)(H H':Hp)(h h':Heap):Prop where
 keep:∀b o,h.get? b=some o->H b=none->b ∉ fs->b ∉ ex->h'.get? b=some o
 slot:∀b o,h.get? b=some o->H b=none->b∈fs->b ∉ ex->∃sl,h'.get? b=some { o with slots:=sl }
 free:∀b o,h.get? b=some o->H b=none->b ∉ ex->H' b=none
 there:∀b o,h.get? b=some o->b ∉ ex->∃o',h'.get? b=some o'
 tups:∀b xs,H b=some (.tup xs)->H' b=some (.tup xs)
 frzs:∀b o u,H b=some (.frz o u)->H' b=some (.frz o u)
 tbls:∀b ps,H b=some (.tbl ps)->∃more,H' b=some (.tbl (ps++more))
section
variable{fs fs' ex ex':List Addr}{H H1 H2:Hp}{h h1 h2 h':Heap}{a x e:Addr}{o:HO}
theorem Un.any(u:Un fs ex H H1 h h1){b:Addr}{ob:Obj}(q:h.get? b=some ob)(n:H b=none)(hx:b ∉ ex):∃sl,h1.get? b=some { ob with slots:=sl }:=by
 by_cases hb:b∈fs
 ·exact u.slot b ob q n hb hx
 ·exact⟨ob.slots,u.keep b ob q n hb hx⟩
theorem Un.kept(k:∀b u,h.get? b=some u->h'.get? b=some u):Un fs ex H H h h' :=
 ⟨λb ob q _ _ _=>k b ob q,λb ob q _ _ _=>⟨ob.slots,k b ob q⟩,λ_ _ _ n _=>n,λb ob q _=>⟨ob,k b ob q⟩,λ_ _ q=>q,λ_ _ _ q=>q,λ_ ps q=>⟨#[],by rw[q]; simp⟩⟩
theorem Un.refl:Un fs ex H H h h:=Un.kept λ_ _ q=>q
theorem Un.laid(k:∀b u,h.get? b=some u->h'.get? b=some u)(hp:h.objs.size<=a)(hn:H a=none):Un fs ex H (upd H a o) h h' where
 keep:=λb u q _ _ _=>k b u q
 slot:=λb u q _ _ _=>⟨u.slots,k b u q⟩
 free:=λb u q n _=>by rw[Zy (ZwS (Zw0 (ZwL q) hp))]; exact n
 there:=λb u q _=>⟨u,k b u q⟩
 tups:=λb xs q=>by rw[Zy (Zaa q hn)]; exact q
 frzs:=λb u xs q=>by rw[Zy (Zaa q hn)]; exact q
 tbls:=λb ps q=>⟨#[],by rw[Zy (Zaa q hn),q]; simp⟩
theorem Un.write(mu:Mut (H x))(he:e=x\/H e=some (.own x))(k:∀b u,b≠e->h.get? b=some u->h'.get? b=some u)(heo:∃u,h'.get? e=some u):Un fs ex H (upd H x o) h h':=by
 have hx:∀b,H b=none->b≠x:=λb n z=>by subst z; rw[n]at mu; exact mu
 have hb:∀b,H b=none->b≠e:=λb n z=>by
  subst z;rcases he with r | r
  ·exact hx b n r
  ·rw[n]at r; cases r
 have hm:∀b u,H b=some u->¬Mut (some u)->b≠x:=λb u q nm z=>by subst z; rw[q]at mu; exact nm mu
 refine⟨λb u q n _ _=>k b u (hb b n) q,λb u q n _ _=>⟨u.slots,k b u (hb b n) q⟩,λb u q n _=>by rw[Zy (hx b n)]; exact n,λb u q _=>?_,
  λb xs q=>by rw[Zy (hm b _ q λz=>z)]; exact q,λb u xs q=>by rw[Zy (hm b _ q λz=>z)]; exact q,λb ps q=>⟨#[],by rw[Zy (hm b _ q λz=>z),q]; simp⟩⟩
 by_cases hbe:b=e
 ·subst hbe; exact heo
 ·exact⟨u,k b u hbe q⟩
end
def trk(h:Heap)(H:Hp):List Addr:=(ZwE h.objs.size).filter λa=>(H a).isSome
def Zf1(h:Heap)(H:Hp):Heap:=PySem.W.hideAll h (trk h H)
theorem Zqr(h:Heap)(H:Hp):(Zf1 h H).objs.size=h.objs.size:=PySem.W.hideAll_size _ _
theorem Zrg{h:Heap}{H:Hp}{b:Addr}{o:Obj}(e:h.get? b=some o)(n:H b=none):(Zf1 h H).get? b=some o :=
 PySem.W.hideAll_get _ e λhm=>by have q:(H b).isSome=true:=(Zxq.mp hm).2;rw[n]at q; simp at q
theorem ZsM{h:Heap}{H:Hp}{b:Addr}{o:Obj}(e:(Zf1 h H).get? b=some o):h.get? b=some o/\H b=none:=by
 have e':h.get? b=some o:=PySem.W.of_hideAll (trk h H) e;refine⟨e',?_⟩;cases q:H b with
 | none=>rfl
 | some x=>have hm:b∈trk h H:=Zxq.mpr ⟨ZwV.mpr (ZwL e'),by simp[q]⟩;have z:(Zf1 h H).get? b=none:=PySem.W.hideAll_none (trk h H) hm;rw[z]at e; cases e
end L2
namespace L2
open PySem PySem.Spec PyProof.Rows
structure Mod(K:Zww)(mg:Str->Option Value)(base:Heap):Prop where
 kin:K.In base
 glob:base.Ns Zxa mg
 blt:∃mb,base.Ns ZAp mb/\∀x:Str,x ≠ "__name__"->mb x=Zxo x
 nolimit:base.NoLimit
structure Cx where
 prog:Program
 w:World
 K:Zww
 mg:Str->Option Value
 base:Heap
 A:Around
 N:List Str
 s₀:Shared
 H₀:Hp
 env:Env
 outer:List Env
 stack:List Env
 ex:List Addr
 fn:Str->Bool
 calm:Bool
 pn:List (Addr × Obj)
 xe:Value->Shared->Prop
def frs(l:List Env):List Addr:=l.filterMap (·.frame)
abbrev Cx.fs(X:Cx):List Addr:=frs X.outer
def Vis(sc:Scope)(x:Str):Prop:=sc.names.lookup x=some .local\/sc.names.lookup x=some .cell\/sc.names.lookup x=some .free
def Loc(sc:Scope)(x:Str):Prop:=sc.names.lookup x=some .local\/sc.names.lookup x=some .cell
def Look(env:Env)(h:Heap)(m:Str->Option Value)(x:Str)(u:Value):Prop :=
 (env.kindOf x=some .local/\m x=some u)\/((env.kindOf x=some .cell\/env.kindOf x=some .free)/\∃c,env.cells.lookup x=some c/\h.IsCell c (some u))
structure Cx.Ok(X:Cx):Prop where
 mod:Mod X.K X.mg X.base
 kind:X.env.scope.kind=.function
 glob:X.env.globals=Zxa
 blt:X.env.builtins=ZAp
 above:X.s₀.heap.objs.size<=X.env.locals
 inj:∀x y c,X.env.cells.lookup x=some c->X.env.cells.lookup y=some c->x=y
 has:∀x,(X.env.kindOf x=some .cell\/X.env.kindOf x=some .free)->∃c,X.env.cells.lookup x=some c
 cab:∀x c,X.fn x=true->X.env.cells.lookup x=some c->X.s₀.heap.objs.size<=c
 hd:X.calm=true->X.A.handled=none
 frames:X.A.frames=some X.stack
 stk:X.stack=X.outer\/(X.stack=X.env::X.outer/\X.env.frame=some X.env.locals)
 exf:∀b∈X.ex,b≠X.env.locals/\∀x c,X.env.cells.lookup x=some c->c≠b
 bs:∀b o,X.base.get? b=some o->X.s₀.heap.get? b=some o/\X.H₀ b=none
 bsz:X.base.objs.size<=X.s₀.heap.objs.size
 noex:∀b o,X.base.get? b=some o->b ∉ X.ex
 exfs:∀b∈X.ex,b ∉ X.fs
 funs:X.s₀.heap.FunFrames X.base X.outer
 frf:∀b∈X.fs,X.H₀ b=none
structure Inv(X:Cx)(pins:List (Addr × Obj))(σ:List (Option V))(H:Hp)(s:Shared):Prop where
 ok:X.Ok
 os:s.os=X.s₀.os
 bare:AllBare s.gens
 base:Un X.fs X.ex X.H₀ H X.s₀.heap s.heap
 loc:∃m,s.heap.Ns X.env.locals m/\∀(i:Nat) (x:Str) (v:V),X.N[i]?=some x->σ[i]?=some (some v)->Vis X.env.scope x->∃u,RelV v u/\Look X.env s.heap m x u
 cell:∀x c,X.env.cells.lookup x=some c->∃v,s.heap.IsCell c v
 free:H X.env.locals=none
 freeC:∀x c,X.env.cells.lookup x=some c->H c=none
 pin:∀p∈X.pn++pins,s.heap.get? p.1=some p.2/\H p.1=none/\p.1≠X.env.locals/\p.1 ∉ X.fs/\∀v,p.2.data≠.cell v
 hok:HOk X.prog X.w H s.heap
 len:σ.length=X.N.length
section
variable{X:Cx}{pins:List (Addr × Obj)}{σ:List (Option V)}{H H':Hp}{s:Shared}{h':Heap}
theorem Cx.Ok.nofr(ok:X.Ok){b:Addr}{o:Obj}(e:X.base.get? b=some o):b ∉ X.fs:=λhb=>by have:=(ok.funs.mem hb).1;rw[e]at this; cases this
theorem Inv.bs(I:Inv X pins σ H s):∀b o,X.base.get? b=some o->s.heap.get? b=some o/\H b=none:=λb o e=>⟨I.base.keep b o (I.ok.bs b o e).1 (I.ok.bs b o e).2 (I.ok.nofr e) (I.ok.noex b o e),I.base.free b o (I.ok.bs b o e).1 (I.ok.bs b o e).2 (I.ok.noex b o e)⟩
theorem Inv.bk(I:Inv X pins σ H s):∀b o,X.base.get? b=some o->s.heap.get? b=some o:=λb o e=>(I.bs b o e).1
theorem Inv.mod(I:Inv X pins σ H s):Mod X.K X.mg X.base:=I.ok.mod
theorem Inv.kIn(I:Inv X pins σ H s):X.K.In s.heap:=I.ok.mod.kin.keeps I.bk
theorem Inv.lt(I:Inv X pins σ H s):X.env.locals<s.heap.objs.size:=let ⟨_,hn,_⟩:=I.loc; hn.lt
theorem Inv.sz(I:Inv X pins σ H s):X.s₀.heap.objs.size<=s.heap.objs.size:=Zxs I.ok.above (Zyi I.lt)
theorem Inv.nofs(I:Inv X pins σ H s){a:Addr}(h:s.heap.objs.size<=a):a ∉ X.fs:=λhb=>by obtain⟨_,o,ho,_⟩:=I.ok.funs.mem hb;exact absurd (Zw0 (ZwL ho) (Zxs I.sz h)) (Zya _)
theorem Inv.cne(I:Inv X pins σ H s):∀x c,X.env.cells.lookup x=some c->c≠X.env.locals:=λx c e z=>by obtain⟨v,o,ho,hd⟩:=I.cell x c e;obtain⟨m,⟨o',es,ep,ho',hd',_⟩,_⟩:=I.loc;rw[z,ho']at ho; cases ho; rw[hd']at hd; cases hd
theorem Inv.funs(I:Inv X pins σ H s):s.heap.FunFrames X.base X.outer:=by
 have all:∀(l:List Env),(∀b∈frs l,b∈X.fs)->X.s₀.heap.FunFrames X.base l->s.heap.FunFrames X.base l:=by
  intro l
  induction l with
  | nil=>intro _ _; trivial
  | cons env r ih=>intro hs hl;obtain⟨hk,⟨L,o,hf,hn,ho,hd⟩,hr⟩:=hl;have hL:L∈X.fs:=hs L (by unfold frs; rw[ZxF,hf]; exact ZwA);obtain⟨sl,e⟩:=I.base.slot L o ho (I.ok.frf L hL) hL λz=>I.ok.exfs L z hL;exact⟨hk,⟨L,_,hf,hn,e,hd⟩,ih (λb hb=>hs b (by unfold frs; rw[ZxF,hf]; exact ZwC _ hb)) hr⟩
 exact all X.outer (λ_ hb=>hb) I.ok.funs
theorem Inv.stack(I:Inv X pins σ H s):s.heap.FunFrames X.base X.stack:=by
 rcases I.ok.stk with e | ⟨e,hf⟩
 ·rw[e]; exact I.funs
 ·rw[e]
  obtain⟨m,hn,_⟩:=I.loc;refine .cons (by rw[I.ok.kind]; decide) hf hn ?_ I.funs;exact Heap.get?_none_of_le (Zxs I.ok.bsz I.ok.above)
theorem Inv.stkSub(I:Inv X pins σ H s):∀b∈frs X.stack,b∈X.env.locals::X.fs:=λb hb=>by
 rcases I.ok.stk with e | ⟨e,hf⟩
 ·rw[e]at hb; exact ZwC _ hb
 ·rw[e]at hb
  unfold frs at hb;rw[ZxF,hf]at hb;exact hb
theorem Inv.stkFree(I:Inv X pins σ H s):∀b∈frs X.stack,H b=none:=λb hb=>by
 rcases ZwT.mp (I.stkSub b hb)with e | hb
 ·rw[e]; exact I.free
 ·obtain⟨_,o,ho,_⟩:=I.ok.funs.mem hb
  exact I.base.free b o ho (I.ok.frf b hb) λz=>I.ok.exfs b z hb
theorem Inv.step{g':Array GenState}{t':Nat}{d':Drawn}{ch:List Addr}(I:Inv X pins σ H s)
  (hch:∀b∈ch,(b∈X.ex\/X.s₀.heap.objs.size<=b)/\b≠X.env.locals/\(∀x c,X.env.cells.lookup x=some c->c≠b)/\∀p∈X.pn++pins,p.1≠b)
  (keep:∀b o,b≠X.env.locals->b ∉ X.fs->b ∉ ch->s.heap.get? b=some o->H b=none->h'.get? b=some o)
  (slot:∀b o,b≠X.env.locals->b∈X.fs->b ∉ ch->s.heap.get? b=some o->H b=none->∃sl,h'.get? b=some { o with slots:=sl }) (free:∀b o,b ∉ ch->s.heap.get? b=some o->H b=none->H' b=none)
  (there:∀b o,b ∉ ch->s.heap.get? b=some o->∃o',h'.get? b=some o')
  (tups:∀b xs,H b=some (.tup xs)->H' b=some (.tup xs)) (frzs:∀b o u,H b=some (.frz o u)->H' b=some (.frz o u)) (tbls:∀b ps,H b=some (.tbl ps)->∃more,H' b=some (.tbl (ps++more)))
  (ns:∀m,s.heap.Ns X.env.locals m->h'.Ns X.env.locals m) (hok:HOk X.prog X.w H' h') (hg:AllBare g') :
  Inv X pins σ H' { s with heap:=h',gens:=g',drawn:=d',toks:=t' }:=by
 have neL:∀b o,X.s₀.heap.get? b=some o->b≠X.env.locals:=λb o e=>ZwS (Zw0 (ZwL e) I.ok.above);have neC:∀b o,X.s₀.heap.get? b=some o->b ∉ X.ex->b ∉ ch:=λb o e hx hb=>by
  rcases(hch b hb).1 with z | z
  ·exact hx z
  ·exact absurd (Zw0 (ZwL e) z) (Zya _)
 have cellK:∀x c,X.env.cells.lookup x=some c->∀v,s.heap.IsCell c v->h'.IsCell c v:=λx c e v ⟨o,ho,hd⟩=>by
  have nch:c ∉ ch:=λz=>(hch c z).2.2.1 x c e rfl
  by_cases hc:c∈X.fs
  ·obtain⟨sl,q⟩:=slot c o (I.cne x c e) hc nch ho (I.freeC x c e)
   exact⟨_,q,hd⟩
  ·exact⟨o,keep c o (I.cne x c e) hc nch ho (I.freeC x c e),hd⟩
 refine⟨I.ok,I.os,hg,⟨λb o e n hb hx=>?_,λb o e n hb hx=>?_,λb o e n hx=>?_,λb o e hx=>?_,λb xs e=>tups b xs (I.base.tups b xs e),λb o xs e=>frzs b o xs (I.base.frzs b o xs e),λb ps e=>?_⟩,?_,λx c e=>?_,?_,λx c e=>?_,λp hp=>?_,hok,I.len⟩
 ·exact keep b o (neL b o e) hb (neC b o e hx) (I.base.keep b o e n hb hx) (I.base.free b o e n hx)
 ·obtain⟨sl,e1⟩:=I.base.slot b o e n hb hx
  obtain⟨sl',e2⟩:=slot b _ (neL b o e) hb (neC b o e hx) e1 (I.base.free b o e n hx);exact⟨sl',e2⟩
 ·obtain⟨o',e1⟩:=I.base.there b o e hx
  exact free b o' (neC b o e hx) e1 (I.base.free b o e n hx)
 ·obtain⟨o',e1⟩:=I.base.there b o e hx
  exact there b o' (neC b o e hx) e1
 ·obtain⟨m1,e1⟩:=I.base.tbls b ps e
  obtain⟨m2,e2⟩:=tbls b _ e1;exact⟨m1++m2,by rw[e2,Array.append_assoc]⟩
 ·obtain⟨m,hn,hl⟩:=I.loc
  refine⟨m,ns m hn,λi x v e1 e2 e3=>?_⟩;obtain⟨u,r,l⟩:=hl i x v e1 e2 e3;refine⟨u,r,?_⟩;rcases l with l | ⟨k,c,e,z⟩
  ·exact .inl l
  ·exact .inr ⟨k,c,e,cellK x c e _ z⟩
 ·obtain⟨v,z⟩:=I.cell x c e
  exact⟨v,cellK x c e v z⟩
 ·obtain⟨m,⟨o,_,_,ho,_⟩,_⟩:=I.loc
  exact free _ o (λz=>(hch _ z).2.1 rfl) ho I.free
 ·obtain⟨v,o,ho,hd⟩:=I.cell x c e
  exact free c o (λz=>(hch c z).2.2.1 x c e rfl) ho (I.freeC x c e)
 ·obtain⟨e,n,ne,nf,d⟩:=I.pin p hp
  have nch:p.1 ∉ ch:=λz=>(hch p.1 z).2.2.2 p hp rfl;exact⟨keep p.1 p.2 ne nf nch e n,free p.1 p.2 nch e n,ne,nf,d⟩
theorem Inv.un{t':Nat}(I:Inv X pins σ H s)(u:Un X.fs [] H H' s.heap h')(hok:HOk X.prog X.w H' h'):Inv X pins σ H' { s with heap:=h',toks:=t' }:=by obtain⟨m,⟨o,es,ep,ho,r⟩,_⟩:=id I.loc;obtain⟨sl,hL⟩:=u.any ho I.free (by simp);exact I.step (g':=s.gens) (d':=s.drawn) (ch:=[]) (λ_ z=>nomatch z) (λb o _ hb _ e n=>u.keep b o e n hb (by simp)) (λb o _ hb _ e n=>u.slot b o e n hb (by simp)) (λb o _ e n=>u.free b o e n (by simp)) (λb o _ e=>u.there b o e (by simp)) u.tups u.frzs u.tbls (λm' hm=>by obtain⟨o',es',ep',ho',r'⟩:=hm;rw[ho]at ho'; cases ho';exact⟨_,es',ep',hL,r'⟩) hok I.bare
theorem Inv.call{g':Array GenState}{t':Nat}{d':Drawn}{ch:List Addr}(I:Inv X pins σ H s)(u:Un (frs X.stack) ch H H' s.heap h')(hok:HOk X.prog X.w H' h')(hg:AllBare g')
  (hch:∀b∈ch,(b∈X.ex\/X.s₀.heap.objs.size<=b)/\b≠X.env.locals/\(∀x c,X.env.cells.lookup x=some c->c≠b)/\∀p∈X.pn++pins,p.1≠b) :
  Inv X pins σ H' { s with heap:=h',gens:=g',drawn:=d',toks:=t' }:=by
 obtain⟨m,⟨o,es,ep,ho,r⟩,_⟩:=id I.loc;obtain⟨sl,hL⟩:=u.any ho I.free λz=>(hch _ z).2.1 rfl;exact I.step (ch:=ch) hch (λb o hL hb hc e n=>u.keep b o e n (λz=>(ZwT.mp (I.stkSub b z)).elim hL hb) hc) (λb o _ _ hc e n=>u.any e n hc) (λb o hc e n=>u.free b o e n hc) (λb o hc e=>u.there b o e hc) u.tups u.frzs u.tbls (λm' hm=>by obtain⟨o',es',ep',ho',r'⟩:=hm;rw[ho]at ho'; cases ho';exact⟨_,es',ep',hL,r'⟩) hok hg
theorem Inv.turned{t':Nat}{it:Addr}(I:Inv X pins σ H s)(k:∀b o,b≠it->s.heap.get? b=some o->h'.get? b=some o)(hn:H it=none)(hL:it≠X.env.locals)
  (h1:it∈X.ex\/X.s₀.heap.objs.size<=it) (h2:∀x c,X.env.cells.lookup x=some c->c≠it) (h3:∀p∈X.pn++pins,p.1≠it):Inv X pins σ H { s with heap:=h',toks:=t' }:=by
 have nit:∀b u,H b=some u->b≠it:=λb u e z=>by rw[z,hn]at e; cases e
 refine I.step (g':=s.gens) (d':=s.drawn) (ch:=[it]) (λb hb=>?_) (λb o _ _ hc e _=>k b o (λz=>hc (by simp[z])) e) (λb o _ _ hc e _=>⟨o.slots,k b o (λz=>hc (by simp[z])) e⟩) (λ_ _ _ _ n=>n)
  (λb o hc e=>⟨o,k b o (λz=>hc (by simp[z])) e⟩) (λ_ _ e=>e) (λ_ _ _ e=>e) (λb ps e=>⟨#[],by rw[e]; simp⟩) (λm hm=>?_) (λb u e=>?_) I.bare
 ·have e:b=it:=by simpa using hb
  subst e;exact⟨h1,hL,h2,h3⟩
 ·obtain⟨o,es,ep,ho,r⟩:=hm
  exact⟨o,es,ep,k _ o (Zxv hL) ho,r⟩
 ·refine(I.hok b u e).stay (λc v hc q=>k c v ?_ q) (λ_ q=>q) λ_ _ q=>q
  rcases hc with z | z
  ·rw[z]; exact nit b u e
  ·exact nit c _ z
theorem Inv.tok(I:Inv X pins σ H s)(t:Nat):Inv X pins σ H { s with toks:=t }:=I.un (h':=s.heap) (t':=t) Un.refl I.hok
theorem Inv.kept{t':Nat}(I:Inv X pins σ H s)(k:∀b u,s.heap.get? b=some u->h'.get? b=some u):Inv X pins σ H { s with heap:=h',toks:=t' }:=I.un (Un.kept k) (I.hok.kept k)
theorem Inv.laid{a:Addr}{o:HO}{t':Nat}(I:Inv X pins σ H s)(k:∀b u,s.heap.get? b=some u->h'.get? b=some u)(hp:s.heap.objs.size<=a)(new:ZW X.prog X.w (upd H a o) h' a o) :
  Inv X pins σ (upd H a o) { s with heap:=h',toks:=t' }:=I.un (Un.laid k hp (I.hok.fresh hp)) (I.hok.laid k hp new)
theorem Inv.write{x e:Addr}{o:HO}{t':Nat}(I:Inv X pins σ H s)(mu:Mut (H x))(he:e=x\/H e=some (.own x))(k:∀b u,b≠e->s.heap.get? b=some u->h'.get? b=some u)(heo:∃u,h'.get? e=some u)
  (new:ZW X.prog X.w (upd H x o) h' x o):Inv X pins σ (upd H x o) { s with heap:=h',toks:=t' }:=I.un (Un.write mu he k heo) (I.hok.write mu he k heo new)
theorem Inv.weak{σ':List (Option V)}(I:Inv X pins σ H s)(hl:σ'.length=σ.length)(w:∀(i:Nat) v,σ'[i]?=some (some v)->σ[i]?=some (some v)):Inv X pins σ' H s :=
 ⟨I.ok,I.os,I.bare,I.base,let ⟨m,hn,hl'⟩:=I.loc; ⟨m,hn,λi x v e1 e2 e3=>hl' i x v e1 (w i v e2) e3⟩,I.cell,I.free,I.freeC,I.pin,I.hok,hl.trans I.len⟩
theorem Inv.pins_of{pins':List (Addr × Obj)}(I:Inv X pins σ H s)(h:∀p∈pins',s.heap.get? p.1=some p.2/\H p.1=none/\p.1≠X.env.locals/\p.1 ∉ X.fs/\∀v,p.2.data≠.cell v):Inv X pins' σ H s :=
 ⟨I.ok,I.os,I.bare,I.base,I.loc,I.cell,I.free,I.freeC,λp hp=>(Zw5.mp hp).elim (λz=>I.pin p (Zxx _ z)) (h p),I.hok,I.len⟩
theorem ZmL{N:List Str}(hN:N.Nodup){i j:Nat}{x:Str}(a:N[i]?=some x)(b:N[j]?=some x):i=j:=by obtain⟨h1,e1⟩:=ZwI.mp a;obtain⟨h2,e2⟩:=ZwI.mp b;exact(List.getElem_inj hN).mp (e1.trans e2.symm)
theorem Zkq{M:Model}{A:Around}{E:Value->Shared->Prop}{i:Nat}{x:Str}{v:V}{u:Value}{Q:Unit->Shared->Prop}(I:Inv X pins σ H s)(hN:X.N.Nodup)(hi:X.N[i]?=some x)(hx:Loc X.env.scope x)(r:RelV v u)
  (h:∀s',Inv X pins (σ.set i (some v)) H s'->(∃a,Zyj a s.heap s'.heap/\(a=X.env.locals\/X.env.cells.lookup x=some a))->Q () s') (hf:X.fn x=true\/X.env.scope.names.lookup x=some .local:=by first | exact .inl rfl | exact .inr rfl | assumption):wpAny M A (storeName X.env x u) Q E s:=by
 obtain⟨m,hn,hl⟩:=id I.loc;have hcls:(X.env.scope.kind==.class||(X.env.scope.kind==.module&&X.env.locals != X.env.globals))=false:=by rw[I.ok.kind]; rfl
 have hiσ:i<σ.length:=by rw[I.len]; exact(ZwI.mp hi).1
 have cne:=I.cne;have tracked:∀{a:Addr} {h':Heap},(∃o,s.heap.get? a=some o/\H a=none)->Zyj a s.heap h'->HOk X.prog X.w H h':=λ{a h'} ha hs b ob e=>by
  obtain⟨_,_,hfree⟩:=ha;refine(I.hok b ob e).stay (λc w' hc q=>(hs.2 c ?_).trans q) (λ_ q=>q) λ_ _ q=>q
  rintro rfl
  rcases hc with rfl | hc
  ·rw[hfree]at e; cases e
  ·rw[hfree]at hc; cases hc
 rcases hx with hk | hk
 ·refine wpAny_storeName_local hk hn (λh' hn' hs=>?_) hcls
  obtain⟨oL,_,_,hoL,_⟩:=id hn;refine h _ ⟨I.ok,I.os,I.bare,⟨λb o e n hb hx=>?_,λb o e n hb hx=>?_,I.base.free,λb o e hx=>?_,I.base.tups,I.base.frzs,I.base.tbls⟩,⟨_,hn',λj y v' e1 e2 e3=>?_⟩,λy c e=>?_,I.free,I.freeC,λp hp=>?_,tracked ⟨oL,hoL,I.free⟩ hs,by simpa using I.len⟩ ⟨_,hs,.inl rfl⟩
  ·exact(hs.2 b (ZwS (Zw0 (ZwL e) I.ok.above))).trans (I.base.keep b o e n hb hx)
  ·obtain⟨sl,e1⟩:=I.base.slot b o e n hb hx
   exact⟨sl,(hs.2 b (ZwS (Zw0 (ZwL e) I.ok.above))).trans e1⟩
  ·obtain⟨o',e1⟩:=I.base.there b o e hx
   exact⟨o',(hs.2 b (ZwS (Zw0 (ZwL e) I.ok.above))).trans e1⟩
  ·by_cases hj:j=i
   ·subst hj
    rw[hi]at e1; cases e1;rw[Zxh hiσ]at e2;cases e2;exact⟨u,r,.inl ⟨hk,by simp⟩⟩
   ·rw[Zw2 (Zxv hj)]at e2
    obtain⟨u',r',q⟩:=hl j y v' e1 e2 e3;refine⟨u',r',?_⟩;rcases q with⟨k,e⟩ | ⟨k,c,e,z⟩
    ·refine .inl ⟨k,?_⟩
     have:y≠x:=λe=>hj (ZmL hN e1 (e▸hi));simp[this,e]
    ·exact .inr ⟨k,c,e,z.sameBut hs (cne y c e)⟩
  ·obtain⟨w',z⟩:=I.cell y c e
   exact⟨w',z.sameBut hs (cne y c e)⟩
  ·obtain⟨e,n,ne,nf,d⟩:=I.pin p hp
   exact⟨(hs.2 p.1 ne).trans e,n,ne,nf,d⟩
 ·have hfn:X.fn x=true:=by
   rcases hf with z | z
   ·exact z
   ·rw[z]at hk; cases hk
  obtain⟨c,hc⟩:=I.ok.has x (.inl hk);obtain⟨w',z⟩:=I.cell x c hc;refine wpAny_storeName_cell I.ok.kind hk hc z (λh' hc' hs=>?_);obtain⟨oc,hoc,hocd⟩:=id z;refine h { s with heap:=h' } ⟨I.ok,I.os,I.bare,⟨λb o e n hb hx=>?_,λb o e n hb hx=>?_,I.base.free,λb o e hx=>?_,I.base.tups,I.base.frzs,I.base.tbls⟩,⟨m,hn.sameBut hs (Zxv (cne x c hc)),λj y v' e1 e2 e3=>?_⟩,λy c' e=>?_,I.free,I.freeC,λp hp=>?_,tracked ⟨oc,hoc,I.freeC x c hc⟩ hs,by simpa using I.len⟩ ⟨c,hs,.inr hc⟩
  ·exact(hs.2 b (ZwS (Zw0 (ZwL e) (I.ok.cab x c hfn hc)))).trans (I.base.keep b o e n hb hx)
  ·obtain⟨sl,e1⟩:=I.base.slot b o e n hb hx
   exact⟨sl,(hs.2 b (ZwS (Zw0 (ZwL e) (I.ok.cab x c hfn hc)))).trans e1⟩
  ·obtain⟨o',e1⟩:=I.base.there b o e hx
   exact⟨o',(hs.2 b (ZwS (Zw0 (ZwL e) (I.ok.cab x c hfn hc)))).trans e1⟩
  ·by_cases hj:j=i
   ·subst hj
    rw[hi]at e1; cases e1;rw[Zxh hiσ]at e2;cases e2;exact⟨u,r,.inr ⟨.inl hk,c,hc,hc'⟩⟩
   ·rw[Zw2 (Zxv hj)]at e2
    obtain⟨u',r',q⟩:=hl j y v' e1 e2 e3;refine⟨u',r',?_⟩;rcases q with q | ⟨k,c',e,z'⟩
    ·exact .inl q
    ·refine .inr ⟨k,c',e,z'.sameBut hs ?_⟩
     rintro rfl
     exact hj (ZmL hN e1 (I.ok.inj _ _ _ e hc▸hi))
  ·by_cases hcc:c'=c
   ·subst hcc; exact⟨_,hc'⟩
   ·obtain⟨w2,z2⟩:=I.cell y c' e
    exact⟨w2,z2.sameBut hs hcc⟩
  ·obtain⟨e,n,ne,nf,d⟩:=I.pin p hp
   refine⟨(hs.2 p.1 ?_).trans e,n,ne,nf,d⟩;intro q;rw[q,hoc]at e;have q':oc=p.2:=Zxp e;exact d w' (by rw[<-q']; exact hocd)
theorem Zna{M:Model}{A:Around}{E:Value->Shared->Prop}{i:Nat}{x:Str}{v:V}{u:Value}{Q:Unit->Shared->Prop}(I:Inv X pins σ H s)(hN:X.N.Nodup)(hi:X.N[i]?=some x)(hx:Loc X.env.scope x)(r:RelV v u)
  (h:∀s',Inv X pins (σ.set i (some v)) H s'->Q () s') (hf:X.fn x=true\/X.env.scope.names.lookup x=some .local:=by first | exact .inl rfl | exact .inr rfl | assumption):wpAny M A (storeName X.env x u) Q E s :=
 Zkq I hN hi hx r (λs' I' _=>h s' I') hf
theorem Inv.call'{s':Shared}{ch:List Addr}(I:Inv X pins σ H s)(ho:s'.os=s.os)(u:Un (frs X.stack) ch H H' s.heap s'.heap)(hok:HOk X.prog X.w H' s'.heap)(hg:AllBare s'.gens)
  (hch:∀b∈ch,(b∈X.ex\/X.s₀.heap.objs.size<=b)/\b≠X.env.locals/\(∀x c,X.env.cells.lookup x=some c->c≠b)/\∀p∈X.pn++pins,p.1≠b):Inv X pins σ H' s':=by
 obtain⟨h',g',d',t',o'⟩:=s';have e:o'=s.os:=ho;subst e;exact I.call (g':=g') (t':=t') (d':=d') u hok hg hch
end
abbrev XK:=Value->Option Addr->Hp->Prop
abbrev St:=List (Option V)
abbrev VK:=V->Hp->Prop
abbrev TE:=St->Hp->VK->Prop
abbrev TT:=St->Hp->(Bool->Hp->Prop)->Prop
abbrev TA:=St->Hp->(List V->Hp->Prop)->Prop
structure Ends where
 nx:St->Hp->Prop
 rt:VK
 bk:St->Hp->Prop:=λ_ _=>False
 ct:St->Hp->Prop:=λ_ _=>False
abbrev TS:=Ends->St->Hp->Prop
inductive EP(X:Cx)(pins:List (Addr × Obj))(σ:St)(Q:VK)(u:Value)(s':Shared):Prop
 | mk (v:V) (H':Hp) (I:Inv X pins σ H' s') (r:RelV v u) (q:Q v H'):EP X pins σ Q u s'
inductive TP(X:Cx)(pins:List (Addr × Obj))(σ:St)(Q:Bool->Hp->Prop)(b:Bool)(s':Shared):Prop
 | mk (H':Hp) (I:Inv X pins σ H' s') (q:Q b H'):TP X pins σ Q b s'
inductive AP(X:Cx)(pins:List (Addr × Obj))(σ:St)(Q:List V->Hp->Prop)(us:List Value)(s':Shared):Prop
 | mk (vs:List V) (H':Hp) (I:Inv X pins σ H' s') (r:Vals vs us) (q:Q vs H'):AP X pins σ Q us s'
inductive SPn(X:Cx)(pins:List (Addr × Obj))(N:St->Hp->Prop)(s':Shared):Prop
 | mk (σ':St) (H':Hp) (I:Inv X pins σ' H' s') (q:N σ' H'):SPn X pins N s'
inductive SPr(X:Cx)(pins:List (Addr × Obj))(R:V->Hp->Prop)(u:Value)(s':Shared):Prop
 | mk (v:V) (σ':St) (H':Hp) (I:Inv X pins σ' H' s') (r:RelV v u) (q:R v H'):SPr X pins R u s'
def SP(X:Cx)(pins:List (Addr × Obj))(D:Ends)(f:Flow)(s':Shared):Prop :=
 match f with
 | .next=>SPn X pins D.nx s'
 | .brk=>SPn X pins D.bk s'
 | .cont=>SPn X pins D.ct s'
 | .ret u=>SPr X pins D.rt u s'
def PE(X:Cx)(e:Expr)(t:TE):Prop :=
 ∀(pins:List (Addr × Obj)) (s:Shared) (σ:St) (H:Hp) (Q:VK),Inv X pins σ H s->t σ H Q->wpAny (model X.prog X.w) X.A (eval e X.env) (EP X pins σ Q) X.xe s
def PT(X:Cx)(e:Expr)(t:TT):Prop :=
 ∀(pins:List (Addr × Obj)) (s:Shared) (σ:St) (H:Hp) (Q:Bool->Hp->Prop),Inv X pins σ H s->t σ H Q->wpAny (model X.prog X.w) X.A (isTrue e X.env (eval e X.env)) (TP X pins σ Q) X.xe s
def PW(X:Cx)(e:Expr)(t:TT):Prop :=
 ∀(whole:Sem Value) (pins:List (Addr × Obj)) (s:Shared) (σ:St) (H:Hp) (Q:Bool->Hp->Prop),Inv X pins σ H s->t σ H Q->wpAny (model X.prog X.w) X.A (isTrue e X.env whole) (TP X pins σ Q) X.xe s
theorem PW.pt{X:Cx}{e:Expr}{t:TT}(h:PW X e t):PT X e t:=h _
def PA(X:Cx)(es:List Expr)(t:TA):Prop :=
 ∀(pos:Pos) (pins:List (Addr × Obj)) (s:Shared) (σ:St) (H:Hp) (Q:List V->Hp->Prop),Inv X pins σ H s->t σ H Q->wpAny (model X.prog X.w) X.A (spliced (backTo pos (ZwJ es X.env))) (AP X pins σ Q) X.xe s
def PS(X:Cx)(st:Stmt)(t:TS):Prop :=
 ∀(pins:List (Addr × Obj)) (s:Shared) (σ:St) (H:Hp) (D:Ends),Inv X pins σ H s->t D σ H->wpAny (model X.prog X.w) X.A (exec st X.env) (SP X pins D) X.xe s
def PSs(X:Cx)(st:List Stmt)(t:TS):Prop :=
 ∀(pins:List (Addr × Obj)) (s:Shared) (σ:St) (H:Hp) (D:Ends),Inv X pins σ H s->t D σ H->wpAny (model X.prog X.w) X.A (execs st X.env) (SP X pins D) X.xe s
theorem thn{α:Type}{t:Sem α}{Q Q':α->Shared->Prop}{M:Model}{A:Around}{E:Value->Shared->Prop}{s:Shared}(h:wpAny M A t Q E s)(hQ:∀a s,Q a s->Q' a s):wpAny M A t Q' E s:=ZxG h hQ λ_ _ x=>x
end L2
namespace L2
open PySem PySem.Spec PyProof.Rows
section
variable{X:Cx}
def Zv2(i:Nat):TE:=λσ H Q=>∃v,σ[i]?=some (some v)/\Q v H
def tC(v:V):TE:=λ_ H Q=>Q v H
theorem ZbG{i:Nat}{x:Str}{pos:Pos}(hN:X.N[i]?=some x)(hv:Vis X.env.scope x)(hd:(x==("__debug__":Str))=false:=by decide)(hcd:(x==("__classdict__":Str))=false:=by decide):PE X (.Name x pos) (Zv2 i):=by
 intro pins s σ H Q I h;obtain⟨v,e,h⟩:=h;obtain⟨m,hn,hl⟩:=I.loc;obtain⟨u,r,l⟩:=hl i x v hN e hv;have fin:EP X pins σ Q u s:=⟨v,H,I,r,h⟩;rcases l with⟨hk,hm⟩ | ⟨hk,c,hc,hcell⟩
 ·exact wpAny_Name (wpAny_loadName_local I.ok.kind hk hn hm fin) hd
 ·rcases hk with hk | hk
  ·exact wpAny_Name (wpAny_loadName_cell I.ok.kind hk hc hcell fin) hd
  ·exact wpAny_Name (wpAny_loadName_free I.ok.kind hk hc hcell fin hcd) hd
theorem ZqE{i j pos}:PE X (.Constant (.int i) j pos) (tC (.int i)):=λ_ _ _ H _ I h=>wpAny_Constant_int ⟨.int i,H,I.tok _,⟨_,rfl⟩,h⟩
theorem Zva{b j pos}:PE X (.Constant (.bool b) j pos) (tC (.bl b)):=λ_ _ _ H _ I h=>Constant_bool ⟨.bl b,H,I,rfl,h⟩
theorem ZqY{j pos}:PE X (.Constant .none j pos) (tC .non):=λ_ _ _ H _ I h=>Constant_none ⟨.non,H,I,rfl,h⟩
def Gl(X:Cx)(x:Str):Prop:=X.env.kindOf x=some .globalImplicit
theorem Zki{E:Value->Shared->Prop}{pins:List (Addr × Obj)}{s:Shared}{σ:St}{H:Hp}{x:Str}{u:Value}{pos:Pos}{Q:Value->Shared->Prop}(I:Inv X pins σ H s)(hg:Gl X x)(hm:X.mg x=some u)(h:Q u s)
  (hd:(x==("__debug__":Str))=false:=by decide):wpAny (model X.prog X.w) X.A (eval (.Name x pos) X.env) Q E s :=
 ZAc I.ok.kind hg (Calls.loadGlobal_global (by rw[I.ok.glob]; exact I.mod.glob.keeps I.bk) hm h) hd
theorem Zh5{E:Value->Shared->Prop}{pins:List (Addr × Obj)}{s:Shared}{σ:St}{H:Hp}{x:Str}{u:Value}{pos:Pos}{Q:Value->Shared->Prop}(I:Inv X pins σ H s)(hg:Gl X x)(hm:X.mg x=none)(hv:Zxo x=some u)(h:Q u s)
  (hn:x ≠ "__name__":=by decide) (hd:(x==("__debug__":Str))=false:=by decide):wpAny (model X.prog X.w) X.A (eval (.Name x pos) X.env) Q E s:=by
 obtain⟨mb,h1,h2⟩:=I.mod.blt;exact ZAc I.ok.kind hg (Calls.loadGlobal_builtin (by rw[I.ok.glob]; exact I.mod.glob.keeps I.bk) hm (by rw[I.ok.blt]; exact h1.keeps I.bk) ((h2 x hn).trans hv) h) hd
theorem Zoz{x:Str}{v:V}{u:Value}{pos:Pos}(hg:Gl X x)(hm:X.mg x=some u)(r:RelV v u)(hd:(x==("__debug__":Str))=false:=by decide):PE X (.Name x pos) (tC v) :=
 λ_ _ _ H _ I h=>Zki I hg hm ⟨v,H,I,r,h⟩ hd
theorem Zs3{x:Str}{v:V}{u:Value}{pos:Pos}(hg:Gl X x)(hm:X.mg x=none)(hv:Zxo x=some u)(r:RelV v u)(hn:x ≠ "__name__":=by decide)(hd:(x==("__debug__":Str))=false:=by decide):PE X (.Name x pos) (tC v) :=
 λ_ _ _ H _ I h=>Zh5 I hg hm hv ⟨v,H,I,r,h⟩ hn hd
variable{a b:Expr}{ta tb:TE}{pos:Pos}
def PC(X:Cx)(op:CmpOp)(a b:Expr)(t:TE):Prop :=
 ∀(pins:List (Addr × Obj)) (s:Shared) (σ:St) (H:Hp) (Q:VK),Inv X pins σ H s->t σ H Q ->
  wpAny (model X.prog X.w) X.A (eval a X.env) (λv s₁=>wpAny (model X.prog X.w) X.A (eval b X.env) (λu s₂=>wpAny (model X.prog X.w) X.A (ZxK op v u) (EP X pins σ Q) X.xe s₂) X.xe s₁) X.xe s
theorem Zi4(b:Expr){op:CmpOp}(h:op≠.In)(h2:op≠.NotIn):ZxN op b=false:=by
 have e1:(op==CmpOp.In)=false:=by cases op<;>first | rfl | exact absurd rfl h
 have e2:(op==CmpOp.NotIn)=false:=by cases op<;>first | rfl | exact absurd rfl h2
 cases b<;>simp[ZxN,e1,e2]
def tB(t:TE):TT:=λσ H Q=>t σ H λx H1=>∃c,x=.bl c/\Q c H1
theorem Znf{op:CmpOp}{t:TE}(h:PC X op a b t)(h1:ZxN op b=false:=by first | exact Zi4 _ (by decide) (by decide) | rfl):PT X (.Compare a [op] [b] pos) (tB t):=by intro pins s σ H Q I hw;refine wpAny_isTrue_Compare1 (thn (h pins s σ H _ I hw) λv s1 h1=>thn h1 λu s2 h2=>thn h2 λc s3 ⟨x,H1,I1,r1,q1⟩=>?_) h1;obtain⟨d,rfl,q⟩:=q1;cases r1;exact ZxU ⟨H1,I1,q⟩
theorem Zuh{e:Expr}{t:TE}(h:PE X e t)(he:∀whole,isTrue e X.env whole=(do let v <-whole; standAt e.pos; holding [v] (truthy v)):=by intro _; rfl):PT X e (tB t):=by intro pins s σ H Q I hw;refine isTrue_plain (thn (h pins s σ H _ I hw) λv s1 ⟨x,H1,I1,r1,q1⟩=>?_) (he _);obtain⟨d,rfl,q⟩:=q1;cases r1;exact ZxU ⟨H1,I1,q⟩
variable{tA tB':TT}{rest:List Expr}
def Zf6(t u:TT):TT:=λσ H Q=>t σ H λc H1=>if c=true then u σ H1 Q else Q false H1
def tOr(t u:TT):TT:=λσ H Q=>t σ H λc H1=>if c=true then Q true H1 else u σ H1 Q
def Zd3(t:TT):TT:=λσ H Q=>t σ H λc H1=>Q (!c) H1
theorem Zs9(ha:PT X a tA):PW X (.BoolOp .And [a] pos) tA:=by
 intro wh pins s σ H Q I h;refine isTrue_and (thn (ha pins s σ H Q I h) λc s1 e=>?_);cases c with
 | true=>exact isTrue_and_nil e
 | false=>exact e
theorem Zt2(ha:PT X a tA):PW X (.BoolOp .Or [a] pos) tA:=by
 intro wh pins s σ H Q I h;refine isTrue_or (thn (ha pins s σ H Q I h) λc s1 e=>?_);cases c with
 | false=>exact isTrue_or_nil e
 | true=>exact e
theorem Zqt(ha:PT X a tA)(hb:PW X (.BoolOp .And (b::rest) pos) tB'):PW X (.BoolOp .And (a::b::rest) pos) (Zf6 tA tB'):=by
 intro wh pins s σ H Q I h;refine isTrue_and (thn (ha pins s σ H _ I h) λc s1 ⟨H1,I1,q1⟩=>?_);cases c with
 | true=>exact hb wh pins s1 σ H1 Q I1 q1
 | false=>exact⟨H1,I1,q1⟩
theorem Zsz(ha:PT X a tA)(hb:PW X (.BoolOp .Or (b::rest) pos) tB'):PW X (.BoolOp .Or (a::b::rest) pos) (tOr tA tB'):=by
 intro wh pins s σ H Q I h;refine isTrue_or (thn (ha pins s σ H _ I h) λc s1 ⟨H1,I1,q1⟩=>?_);cases c with
 | true=>exact⟨H1,I1,q1⟩
 | false=>exact hb wh pins s1 σ H1 Q I1 q1
theorem Zt0(ha:PT X a tA):PT X (.UnaryOp .Not a pos) (Zd3 tA):=by intro pins s σ H Q I h;exact isTrue_not (thn (ha pins s σ H (λc H1=>Q (!c) H1) I h) λ_ _ ⟨H',I',q'⟩=>⟨H',I',q'⟩)
def Zu9(ta tb:TE):TE:=λσ H Q=>ta σ H λx H1=>∃c,x=.bl c/\if c=true then tb σ H1 Q else Q (.bl false) H1
def Zwf(ta tb:TE):TE:=λσ H Q=>ta σ H λx H1=>∃c,x=.bl c/\if c=true then Q (.bl true) H1 else tb σ H1 Q
def Zvh(ta:TE):TE:=λσ H Q=>ta σ H λx H1=>∃c,x=.bl c/\Q (.bl (!c)) H1
theorem Zua{op}{t:TE}(h:PE X a t):PE X (.BoolOp op [a] pos) t:=λpins s σ H Q I hw=>BoolOp_one (h pins s σ H Q I hw)
theorem Zqc(ha:PE X a ta)(hb:PE X (.BoolOp .And (b::rest) pos) tb):PE X (.BoolOp .And (a::b::rest) pos) (Zu9 ta tb):=by
 intro pins s σ H Q I h;refine BoolOp_and (thn (ha pins s σ H _ I h) λv s1 ⟨x,H1,I1,r1,q1⟩=>?_);obtain⟨c,rfl,q1⟩:=q1;cases r1;refine ZxU ?_;cases c with
 | true=>exact hb pins s1 σ H1 Q I1 q1
 | false=>exact⟨.bl false,H1,I1,rfl,q1⟩
theorem Zsv(ha:PE X a ta)(hb:PE X (.BoolOp .Or (b::rest) pos) tb):PE X (.BoolOp .Or (a::b::rest) pos) (Zwf ta tb):=by
 intro pins s σ H Q I h;refine BoolOp_or (thn (ha pins s σ H _ I h) λv s1 ⟨x,H1,I1,r1,q1⟩=>?_);obtain⟨c,rfl,q1⟩:=q1;cases r1;refine ZxU ?_;cases c with
 | false=>exact hb pins s1 σ H1 Q I1 q1
 | true=>exact⟨.bl true,H1,I1,rfl,q1⟩
theorem Zuv(ha:PE X a ta):PE X (.UnaryOp .Not a pos) (Zvh ta):=by intro pins s σ H Q I h;refine UnaryOp_ (thn (ha pins s σ H _ I h) λv s1 ⟨x,H1,I1,r1,q1⟩=>?_);obtain⟨c,rfl,q1⟩:=q1;cases r1;exact not_of (ZxU ⟨.bl (!c),H1,I1,rfl,q1⟩)
def tIf(t:TT)(ta tb:TE):TE:=λσ H Q=>t σ H λc H1=>if c=true then ta σ H1 Q else tb σ H1 Q
theorem Zmy{c:Expr}(hc:PT X c tA)(ha:PE X a ta)(hb:PE X b tb):PE X (.IfExp c a b pos) (tIf tA ta tb):=by
 intro pins s σ H Q I h;refine wpAny_IfExp (thn (hc pins s σ H _ I h) λd s1 ⟨H1,I1,q1⟩=>?_);cases d with
 | true=>exact ha pins s1 σ H1 Q I1 q1
 | false=>exact hb pins s1 σ H1 Q I1 q1
end
end L2
namespace L2
open PySem PySem.Spec PyProof.Rows
def SqL(K:Zww)(H:Hp)(a:Addr)(xs:List V):Prop :=
 Rd H a (.lst xs) \/
  ∃(o:Obj) (its:Array Value) (n:Nat),K.lookup a=some o/\o.cls=.type "list"/\o.dict=none/\o.data=.seq its n/\its.size<=sizeLine/\Vals xs its.toList
def SqT(K:Zww)(H:Hp)(a:Addr)(xs:List V):Prop :=
 Rd H a (.tup xs) \/
  ∃(o:Obj) (its:Array Value) (n:Nat),K.lookup a=some o/\o.cls=.type "tuple"/\o.data=.seq its n/\its.size<=sizeLine/\Vals xs its.toList
def Zv3:Value->Option V
 | .none=>some .non
 | .bool b=>some (.bl b)
 | .int i _=>some (.int i)
 | .str x _=>some (.str x)
 | .bytes b _=>some (.byt b)
 | .float b _=>some (.flt b)
 | .ref a=>some (.ref a)
 | .type n=>some (.ty n)
 | _=>none
theorem RelV.abs{x:V}{u:Value}(r:RelV x u):Zv3 u=some x:=by
 cases x with
 | non=>cases r; rfl
 | bl _=>cases r; rfl
 | int _=>obtain⟨t,rfl⟩:=r; rfl
 | str _=>obtain⟨t,rfl⟩:=r; rfl
 | byt _=>obtain⟨t,rfl⟩:=r; rfl
 | flt _=>obtain⟨t,rfl⟩:=r; rfl
 | ref _=>cases r; rfl
 | ty _=>cases r; rfl
theorem RelV.inj{x y:V}{u:Value}(r:RelV x u)(q:RelV y u):x=y:=Zxp (r.abs.symm.trans q.abs)
theorem Vals.inj:∀{xs ys:List V} {us:List Value},Vals xs us->Vals ys us->xs=ys
 | _,_,_,.nil,.nil=>rfl
 | _,_,_,.cons r t,.cons r' t'=>by rw[r.inj r',Vals.inj t t']
section
variable{X:Cx}{pins:List (Addr × Obj)}{σ:St}{H:Hp}{s:Shared}{a:Addr}{xs ys:List V}
theorem SqL.of{K:Zww}(h:H a=some (.lst xs)):SqL K H a xs:=.inl (.inl h)
theorem SqT.of{K:Zww}(h:H a=some (.tup xs)):SqT K H a xs:=.inl (.inl h)
theorem Inv.list(I:Inv X pins σ H s)(h:SqL X.K H a xs):∃its:List Value,Vals xs its/\PlainL s.heap a its.toArray/\xs.length<=sizeLine:=by
 rcases h with h | ⟨o,its,n,hk,hc,hd,hs,hz,r⟩
 ·obtain⟨z,its,n,r,e⟩:=h.ok I.hok
  exact⟨its,r,⟨_,n,e,rfl,rfl,rfl⟩,z⟩
 ·refine⟨its.toList,r,⟨o,n,I.kIn a o hk,hc,hd,by simpa using hs⟩,?_⟩
  have e:=r.length;simp only[ZwY]at e;omega
theorem Inv.tuple(I:Inv X pins σ H s)(h:SqT X.K H a xs):∃its:List Value,Vals xs its/\IsTup s.heap a its.toArray/\xs.length<=sizeLine:=by
 rcases h with h | ⟨o,its,n,hk,hc,hs,hz,r⟩
 ·obtain⟨z,its,r,p⟩:=h.ok I.hok
  exact⟨its,r,p,z⟩
 ·refine⟨its.toList,r,⟨o,I.kIn a o hk,hc,n,by simpa using hs⟩,?_⟩
  have e:=r.length;simp only[ZwY]at e;omega
theorem Inv.list_inj(I:Inv X pins σ H s)(h:SqL X.K H a xs)(h':SqL X.K H a ys):xs=ys:=by
 obtain⟨its,r,⟨o,n,e,_,_,d⟩,_⟩:=I.list h;obtain⟨its',r',⟨o',n',e',_,_,d'⟩,_⟩:=I.list h';rw[e]at e'; cases e';rw[d]at d';injection d' with d1 _
 have:its=its':=by simpa using congrArg Array.toList d1
 subst this;exact r.inj r'
theorem Inv.tuple_inj(I:Inv X pins σ H s)(h:SqT X.K H a xs)(h':SqT X.K H a ys):xs=ys:=by
 obtain⟨its,r,⟨o,e,_,n,d⟩,_⟩:=I.tuple h;obtain⟨its',r',⟨o',e',_,n',d'⟩,_⟩:=I.tuple h';rw[e]at e'; cases e';rw[d]at d';injection d' with d1 _
 have:its=its':=by simpa using congrArg Array.toList d1
 subst this;exact r.inj r'
end
abbrev Cx.wish(X:Cx)(E:Value->Shared->Prop):Cx:={ X with xe:=E }
abbrev Cx.nox(X:Cx):Cx:=X.wish λ_ _=>False
theorem Cx.Ok.wish{X:Cx}(ok:X.Ok)(E:Value->Shared->Prop):(X.wish E).Ok :=
 ⟨ok.mod,ok.kind,ok.glob,ok.blt,ok.above,ok.inj,ok.has,ok.cab,ok.hd,ok.frames,ok.stk,ok.exf,ok.bs,ok.bsz,ok.noex,ok.exfs,ok.funs,ok.frf⟩
theorem Cx.Ok.unwish{X:Cx}{E:Value->Shared->Prop}(ok:(X.wish E).Ok):X.Ok :=
 ⟨ok.mod,ok.kind,ok.glob,ok.blt,ok.above,ok.inj,ok.has,ok.cab,ok.hd,ok.frames,ok.stk,ok.exf,ok.bs,ok.bsz,ok.noex,ok.exfs,ok.funs,ok.frf⟩
section
variable{X:Cx}{pins:List (Addr × Obj)}{σ:St}{H:Hp}{s:Shared}{E:Value->Shared->Prop}
theorem Inv.wish(I:Inv X pins σ H s)(E:Value->Shared->Prop):Inv (X.wish E) pins σ H s:=⟨I.ok.wish E,I.os,I.bare,I.base,I.loc,I.cell,I.free,I.freeC,I.pin,I.hok,I.len⟩
theorem Inv.unwish(I:Inv (X.wish E) pins σ H s):Inv X pins σ H s:=⟨I.ok.unwish,I.os,I.bare,I.base,I.loc,I.cell,I.free,I.freeC,I.pin,I.hok,I.len⟩
theorem SP.unwish{D:Ends}{f:Flow}{s':Shared}(h:SP (X.wish E) pins D f s'):SP X pins D f s':=by
 cases f with
 | next=>obtain⟨σ',H',I,q⟩:=h; exact⟨σ',H',I.unwish,q⟩
 | brk=>obtain⟨σ',H',I,q⟩:=h; exact⟨σ',H',I.unwish,q⟩
 | cont=>obtain⟨σ',H',I,q⟩:=h; exact⟨σ',H',I.unwish,q⟩
 | ret u=>obtain⟨v,σ',H',I,r,q⟩:=h; exact⟨v,σ',H',I.unwish,r,q⟩
theorem PSs.nox{st:List Stmt}{t:TS}(h:PSs X.nox st t):PSs X st t:=λpins s σ H D I hw=>ZxG (h pins s σ H D (I.wish _) hw) (λ_ _ q=>q.unwish) λ_ _ z=>Zxy z
end
section
variable{X:Cx}{st:Stmt}{rest:List Stmt}{t u:TS}{e:Expr}{te:TE}{pos:Pos}
def Zvo:TS:=λD σ H=>D.nx σ H
def ZvW(t u:TS):TS:=λD σ H=>t { D with nx:=u D } σ H
theorem Ztp:PSs X [] Zvo:=λ_ _ σ H _ I h=>ZzN ⟨σ,H,I,h⟩
theorem ZgX(h1:PS X st t)(h2:PSs X rest u):PSs X (st::rest) (ZvW t u):=by
 intro pins s σ H D I h;refine wpAny_execs_cons (thn (h1 pins s σ H { D with nx:=u D } I h) λf s1 q=>?_);cases f with
 | next=>obtain⟨σ',H',I',q⟩:=q;exact h2 pins s1 σ' H' D I' q
 | ret v=>exact q
 | brk=>exact q
 | cont=>exact q
theorem Zol(h1:PS X st t):PSs X [st] t:=by
 intro pins s σ H D I h;refine wpAny_execs_cons (thn (h1 pins s σ H D I h) λf s1 q=>?_);cases f with
 | next=>exact ZzN q
 | ret v=>exact q
 | brk=>exact q
 | cont=>exact q
theorem Inv.quiet{pins:List (Addr × Obj)}{σ:St}{H:Hp}{s:Shared}(I:Inv X pins σ H s):interactive X.env=false:=by simp[interactive,I.ok.kind]
def Zvb(te:TE):TS:=λD σ H=>te σ H λ_ H1=>D.nx σ H1
theorem Zgv(he:PE X e te)(hs:ZyJ e none pos.line X.env=pure false:=by rfl):PS X (.Expr e pos) (Zvb te):=by intro pins s σ H D I h;exact wpAny_Expr_any (thn (he pins s σ H _ I h) λv s1 ⟨x,H1,I1,r1,q1⟩=>⟨σ,H1,I1,q1⟩) I.quiet hs
def Zwh(te:TE):TS:=λD σ H=>te σ H D.rt
theorem Zm6(he:PE X e te):PS X (.Return (some e) pos) (Zwh te):=by intro pins s σ H D I h;exact wpAny_Return_some (thn (he pins s σ H _ I h) λv s1 ⟨x,H1,I1,r1,q1⟩=>⟨x,σ,H1,I1,r1,q1⟩)
def Zwg(c:TT)(t u:TS):TS:=λD σ H=>c σ H λb H1=>if b=true then t D σ H1 else u D σ H1
theorem Zsr{c:Expr}{a b:List Stmt}{tc:TT}(hc:PT X c tc)(ha:PSs X a t)(hb:PSs X b u):PS X (.If c a b pos) (Zwg tc t u):=by
 intro pins s σ H D I h;refine wpAny_If (thn (hc pins s σ H _ I h) λd s1 ⟨H1,I1,q1⟩=>?_);cases d with
 | true=>exact ha pins s1 σ H1 D I1 q1
 | false=>exact hb pins s1 σ H1 D I1 q1
def ZtT:TS:=λ_ _ _=>False
theorem ZfJ{sts:List Stmt}:PSs X sts ZtT:=λ_ _ _ _ _ _ h=>h.elim
end
abbrev TG:=V->St->Hp->(St->Hp->Prop)->Prop
abbrev TGs:=List V->St->Hp->(St->Hp->Prop)->Prop
def PG(X:Cx)(target:Expr)(t:TG):Prop :=
 ∀(pins:List (Addr × Obj)) (s:Shared) (σ:St) (H:Hp) (v:V) (u:Value) (Q:St->Hp->Prop),Inv X pins σ H s->RelV v u->t v σ H Q ->
  wpAny (model X.prog X.w) X.A (assign target X.env u) (λ_ s'=>∃σ' H',Inv X pins σ' H' s'/\Q σ' H') X.xe s
def PGs(X:Cx)(ts:List Expr)(t:TGs):Prop :=
 ∀(pins:List (Addr × Obj)) (s:Shared) (σ:St) (H:Hp) (vs:List V) (us:List Value) (Q:St->Hp->Prop),Inv X pins σ H s->Vals vs us->t vs σ H Q ->
  wpAny (model X.prog X.w) X.A (assignInOrder ((Zyt ts X.env).map (·.2)) us) (λ_ s'=>∃σ' H',Inv X pins σ' H' s'/\Q σ' H') X.xe s
abbrev ZrI:=V->V->V->Hp->(Hp->Prop)->Prop
def Zt6(X:Cx)(t:ZrI):Prop :=
 ∀(pins:List (Addr × Obj)) (s:Shared) (σ:St) (H:Hp) (o i v:V) (ov iv u:Value) (Q:Hp->Prop),Inv X pins σ H s->RelV o ov->RelV i iv->RelV v u->t o i v H Q ->
  wpAny (model X.prog X.w) X.A (setItem ov iv u) (λ_ s'=>∃H',Inv X pins σ H' s'/\Q H') X.xe s
section
variable{X:Cx}{pos:Pos}
def Zln(i:Nat):TG:=λv σ H Q=>Q (σ.set i (some v)) H
theorem Ziv{i:Nat}{x:Str}(hN:X.N.Nodup)(hi:X.N[i]?=some x)(hx:Loc X.env.scope x)(hf:X.fn x=true\/X.env.scope.names.lookup x=some .local:=by first | exact .inl rfl | exact .inr rfl | assumption):PG X (.Name x pos) (Zln i):=by intro pins s σ H v u Q I r h;exact wpAny_assign_Name (Zna I hN hi hx r (λs' I'=>⟨_,H,I',h⟩) hf)
def Zu0:TGs:=λvs σ H Q=>vs=[]/\Q σ H
def Zpc(t:TG)(u:TGs):TGs:=λvs σ H Q=>∃v r,vs=v::r/\t v σ H λσ' H'=>u r σ' H' Q
theorem Ztf:PGs X [] Zu0:=by intro pins s σ H vs us Q I r h;obtain⟨e,h⟩:=h;subst e;cases r;exact assignInOrder_nil ⟨σ,H,I,h⟩
theorem Zl4{e:Expr}{es:List Expr}{t:TG}{u:TGs}(h1:PG X e t)(h2:PGs X es u)
  (hs:(Zyt (e::es) X.env).map (·.2)=assign e X.env::(Zyt es X.env).map (·.2):=by rfl):PGs X (e::es) (Zpc t u):=by
 intro pins s σ H vs us Q I r h;obtain⟨v,vr,e1,h⟩:=h;subst e1;cases r with
 | cons r rr=>rw[hs];refine assignInOrder_cons (thn (h1 pins s σ H _ _ _ I r h) λ_ s1 ⟨σ1,H1,I1,q1⟩=>?_);exact h2 pins s1 σ1 H1 _ _ Q I1 rr q1
def ZtV(K:Zww)(n:Nat)(t:TGs):TG:=λv σ H Q=>∃a xs,v=.ref a/\SqT K H a xs/\xs.length=n/\t xs σ H Q
theorem ZtQ{es:List Expr}{k:Nat}{t:TGs}{n:Nat}(hc:X.calm=true)(h:PGs X es t)
  (hn:(Zyt es X.env).length=n:=by rfl) (hst:(Zyt es X.env).findIdx? (·.1)=none:=by rfl):PG X (.Tuple es k pos) (ZtV X.K n t):=by
 intro pins s σ H v u Q I r hw;obtain⟨a,xs,e1,hq,hl,hw⟩:=hw;subst e1;cases r;obtain⟨its,rv,ht,hz⟩:=I.tuple hq;refine assign_Tuple_tuple (I.ok.hd hc) ht (by simp[hn,<-hl,rv.length]) hst λh' hx=>?_;have I1:Inv X pins σ H { s with heap:=h' }:=I.kept (t':=s.toks) λb o e=>hx b o (ZwS (ZwL e)) e;exact h pins _ σ H xs _ Q I1 (by simpa using rv) hw
def Zf3(to ti:TE)(t:ZrI):TG:=λv σ H Q=>to σ H λo H1=>ti σ H1 λi H2=>t o i v H2 λH3=>Q σ H3
theorem Zt8{o i:Expr}{to ti:TE}{t:ZrI}(ho:PE X o to)(hi:PE X i ti)(hs:Zt6 X t)
  (ha:∀v,assign (.Subscript o i pos) X.env v=(do
   let ov <-holding [v] (eval o X.env)
   let iv <-holding [v,ov] (eval i X.env)
   standAt pos
   holding [v,ov,iv] (setItem ov iv v)
   release [v,ov,iv] []):=by intro _; rfl):PG X (.Subscript o i pos) (Zf3 to ti t):=by
 intro pins s σ H v u Q I r h;rw[ha];refine Zwv (ZxD (thn (ho pins s σ H _ I h) λov s1 ⟨x,H1,I1,r1,q1⟩=>?_));refine Zwv (ZxD (thn (hi pins s1 σ H1 _ I1 q1) λiv s2 ⟨y,H2,I2,r2,q2⟩=>?_));refine Zwv (wpAny_standAt (Zwv (ZxD (thn (hs pins s2 σ H2 x y v ov iv u _ I2 r1 r2 r q2) λ_ s3 ⟨H3,I3,q3⟩=>?_))));exact wpAny_release ⟨σ,H3,I3,q3⟩
def Zub(te:TE)(g:TG):TS:=λD σ H=>te σ H λx H1=>g x σ H1 D.nx
theorem Zup{tg e:Expr}{te:TE}{g:TG}(he:PE X e te)(hg:PG X tg g)(hs:swapsWithSole [tg] e pos.line X.env=pure false:=by rfl)(hw:swappedStores [tg] e X.env=pure none:=by rfl)
  (h1:(Zyt [tg] X.env).map (·.2)=[assign tg X.env]:=by rfl):PS X (.Assign [tg] e pos) (Zub te g):=by
 intro pins s σ H D I h;refine wpAny_Assign_stores (thn (he pins s σ H _ I h) λv s1 ⟨x,H1,I1,r1,q1⟩=>?_) hs hw;rw[h1];exact thn (hg pins s1 σ H1 x v _ I1 r1 q1) λ_ s2 ⟨σ',H',I',q'⟩=>⟨σ',H',I',q'⟩
theorem ZmM{i:Nat}{x:Str}{e:Expr}{te:TE}{pos':Pos}(hN:X.N.Nodup)(hi:X.N[i]?=some x)(hx:Loc X.env.scope x)(he:PE X e te)(hs:ZyJ e (some (.Name x pos')) pos.line X.env=pure false:=by rfl)(hf:X.fn x=true\/X.env.scope.names.lookup x=some .local:=by first | exact .inl rfl | exact .inr rfl | assumption) :
  PS X (.Assign [.Name x pos'] e pos) (Zub te (Zln i)):=by
 intro pins s σ H D I h;refine wpAny_Assign_Name (thn (he pins s σ H _ I h) λv s1 ⟨y,H1,I1,r1,q1⟩=>?_) hs;exact Zna I1 hN hi hx r1 (λs2 I2=>⟨_,H1,I2,q1⟩) hf
end
section
variable{X:Cx}{pos:Pos}
def Zur(c:TT)(tb:TS):TS:=λD σ H=>∃W:Nat->St->Hp->Prop,(∃m,W m σ H)/\∀m σ H,W m σ H ->
 c σ H λb H1=>if b=true then ∃N:St->Hp->Prop,(∀σ' H',N σ' H'->∃m',m'<m/\W m' σ' H')/\tb { D with nx:=N,ct:=N,bk:=D.nx } σ H1 else D.nx σ H1
theorem Zsd{c:Expr}{body:List Stmt}{tc:TT}{tb:TS}(hp:PassesOwn (model X.prog X.w) X.A X.env X.xe)(hc:PT X c tc)(hb:PSs X body tb):PS X (.While c body [] pos) (Zur tc tb):=by
 intro pins s σ H D I h;obtain⟨W,⟨m0,w0⟩,turn⟩:=h;refine wpAny_While (codeAny_whileLoop (λn s'=>∃σ' H',Inv X pins σ' H' s'/\W n σ' H') ?_ m0 ⟨σ,H,I,w0⟩)
 rintro n s1 ⟨σ1,H1,I1,w1⟩
 refine Zyy hp (thn (hc pins s1 σ1 H1 _ I1 (turn n σ1 H1 w1)) λb s2 ⟨H2,I2,q2⟩=>?_);cases b with
 | true =>
  obtain⟨N,hN,q2⟩:=q2;rw[if_pos rfl];refine Zyy hp (thn (hb pins s2 σ1 H2 _ I2 q2) λf s3 q3=>?_);cases f with
  | next=>obtain⟨σ3,H3,I3,n3⟩:=q3;obtain⟨m',hm,w3⟩:=hN σ3 H3 n3;exact⟨m',hm,σ3,H3,I3,w3⟩
  | cont=>obtain⟨σ3,H3,I3,n3⟩:=q3;obtain⟨m',hm,w3⟩:=hN σ3 H3 n3;exact⟨m',hm,σ3,H3,I3,w3⟩
  | brk=>exact q3
  | ret v=>exact q3
 | false=>rw[if_neg Zw9];exact ZzN ⟨σ1,H2,I2,q2⟩
end
structure It where
 go:Nat->Hp->Prop
 yld:Nat->Hp->V->Hp->Prop
 stop:Nat->Hp->Prop
def Zfg(X:Cx)(pins:List (Addr × Obj))(H:Hp)(b:Addr):Prop :=
 H b=none/\b≠X.env.locals/\b ∉ X.fs/\(b∈X.ex\/X.s₀.heap.objs.size<=b)/\(∀x c,X.env.cells.lookup x=some c->c≠b)/\∀p∈X.pn++pins,p.1≠b
theorem Inv.fpOk{X:Cx}{pins:List (Addr × Obj)}{σ:St}{H H':Hp}{s:Shared}{b:Addr}(I:Inv X pins σ H s)(hb:s.heap.objs.size<=b)(hn:H' b=none):Zfg X pins H' b:=by
 refine⟨hn,Zze (Zw0 I.lt hb),I.nofs hb,.inr (Zxs I.sz hb),λx c e z=>?_,λp hp z=>?_⟩
 ·obtain⟨v,q⟩:=I.cell x c e
  exact absurd (Zw0 q.lt (by rw[z]; exact hb)) (Zya _)
 ·exact absurd (Zw0 (ZwL (I.pin p hp).1) (by rw[z]; exact hb)) (Zya _)
structure Turn(P:Program)(w:World)(K:Zww)(tg:Expr)(J:It)(fp:List Addr)(it:Addr)(tn:Nat->Heap->Prop):Prop where
 mem:it∈fp
 obj:∀i h,tn i h->∀b∈fp,∃o,h.get? b=some o/\∀v,o.data≠.cell v
 keep:∀i h h',tn i h->(∀b∈fp,∀o,h.get? b=some o->h'.get? b=some o)->tn i h'
 item:∀(X:Cx),X.prog=P->X.w=w->X.K=K->X.calm=true->∀(i:Nat) (pins:List (Addr × Obj)) (s:Shared) (σ:St) (H:Hp) (E:Value->Shared->Prop),Inv X pins σ H s->(∀b∈fp,Zfg X pins H b)->tn i s.heap->J.go i H ->
  wpAny (model P w) X.A (pyNext (.ref it)) (λr s1=>∃u,r=some u /\
   wpAny (model P w) X.A (ZzO tg (.ref it) u) (λ_ s2=>∃x H',Inv X pins σ H' s2/\RelV x u/\J.yld i H x H'/\tn (i+1) s2.heap/\∀b∈fp,H' b=none) E s1) E s
 done:∀(X:Cx),X.prog=P->X.w=w->X.K=K->X.calm=true->∀(i:Nat) (pins:List (Addr × Obj)) (s:Shared) (σ:St) (H:Hp) (E:Value->Shared->Prop),Inv X pins σ H s->(∀b∈fp,Zfg X pins H b)->tn i s.heap->J.stop i H ->
  wpAny (model P w) X.A (pyNext (.ref it)) (λr s1=>r=none/\Inv X pins σ H s1) E s
 self:∀(A:Around) (i:Nat) (s:Shared) (Q:Value->Shared->Prop) (E:Value->Shared->Prop),tn i s.heap->Q (.ref it) s->wpAny (model P w) A (pyIter (.ref it)) Q E s
abbrev TI:=St->Hp->(It->Hp->Prop)->Prop
def PIE(X:Cx)(pins:List (Addr × Obj))(σ:St)(tg:Expr)(R:It->Hp->Prop)(itv:Value)(s2:Shared):Prop :=
 ∃(it:Addr) (fp:List Addr) (tn:Nat->Heap->Prop) (J:It) (H':Hp),itv=.ref it/\Inv X pins σ H' s2/\Turn X.prog X.w X.K tg J fp it tn/\tn 0 s2.heap/\(∀b∈fp,Zfg X pins H' b)/\R J H'
def PI(X:Cx)(tg iter:Expr)(wi:TI):Prop :=
 ∀(pins:List (Addr × Obj)) (s:Shared) (σ:St) (H:Hp) (R:It->Hp->Prop),Inv X pins σ H s->wi σ H R ->
  wpAny (model X.prog X.w) X.A (eval iter X.env) (λv s1=>wpAny (model X.prog X.w) X.A (pyIter v) (PIE X pins σ tg R) X.xe s1) X.xe s
theorem Zlm{M:Model}{A:Around}{E:Value->Shared->Prop}{s:Shared}{tg:Expr}{it:Addr}{u:Value}{o:Obj}{n:String}{vs:Array Value}{Q:Unit->Shared->Prop}(ho:s.heap.get? it=some o)(hc:o.cls=.type n)(hd:o.data=.fields vs)
    (hn:["enumerate","zip","dict_itemiterator","dict_reverseitemiterator","odict_iterator","itertools.zip_longest","itertools.pairwise"].contains n=false) (hQ:Q () s):wpAny M A (ZzO tg (.ref it) u) Q E s:=by
  unfold ZzO
  cases tg<;>first
    | exact Zwz hQ
    | (cases u<;>first
        | exact Zwz hQ
        | (refine Zwv (wpAny_load ho ?_)
           rw [hc, hd]
           show wpAny M A (if (["enumerate", "zip", "dict_itemiterator", "dict_reverseitemiterator", "odict_iterator", "itertools.zip_longest", "itertools.pairwise"].contains n && vs[0]? == some (rawInt _)) = true then _ else _) Q E s
           rw [if_neg (by intro h; rw [hn, Bool.false_and] at h; cases h)]
           exact Zwz hQ))
def Itl(K:Zww)(a:Addr):It :=
 ⟨λi H=>∃xs x,SqL K H a xs/\xs[i]?=some x,λi H x H'=>H'=H/\∀xs,SqL K H a xs->xs[i]?=some x,λi H=>∃xs,SqL K H a xs/\xs.length<=i⟩
def Itt(K:Zww)(a:Addr):It :=
 ⟨λi H=>∃xs x,SqT K H a xs/\xs[i]?=some x,λi H x H'=>H'=H/\∀xs,SqT K H a xs->xs[i]?=some x,λi H=>∃xs,SqT K H a xs/\xs.length<=i⟩
def Itr(lo:Int)(n:Nat):It:=⟨λi _=>i<n,λi H x H'=>H'=H/\x=.int (lo+i),λi _=>n<=i⟩
theorem Zp3{P:Program}{w:World}{K:Zww}{tg:Expr}(a it:Addr):Turn P w K tg (Itl K a) [it] it (λi h=>h.IsListIter it a i) where
 mem:=by simp
 obj:=λi h st b hb=>by
  have e:b=it:=by simpa using hb
  subst e;obtain⟨o,e,c,d⟩:=st;exact⟨o,e,λv z=>by rw[d]at z; cases z⟩
 keep:=λi h h' st k=>st.at λo e=>k it (by simp) o e
 item:=by intro X hP hw hK hc i pins s σ H E I hf st hg;subst hP hw hK;obtain⟨xs,x,hq,hx⟩:=hg;obtain⟨its,rv,p,hz⟩:=I.list hq;obtain⟨u,hu,ru⟩:=rv.get hx;obtain⟨f0,f1,f2,f3,f4,f5⟩:=hf it (by simp);refine wpAny_pyNext_list_item st p.isList (x:=u) (by simpa using hu) λh' st' sb=>?_;have I1:Inv X pins σ H { s with heap:=h' }:=I.turned (t':=s.toks) (λb o hb e=>(sb.2 b hb).trans e) f0 f1 f3 f4 f5;obtain⟨o,e,c,d⟩:=id st';exact⟨u,rfl,Zlm (s:={ s with heap:=h' }) e c d (by decide) ⟨x,H,I1,ru,⟨rfl,λys hy=>by rw[I.list_inj hy hq]; exact hx⟩,st',λb hb=>(hf b hb).1⟩⟩
 done:=by intro X hP hw hK hc i pins s σ H E I hf st hg;subst hP hw hK;obtain⟨xs,hq,hx⟩:=hg;obtain⟨its,rv,p,hz⟩:=I.list hq;obtain⟨f0,f1,f2,f3,f4,f5⟩:=hf it (by simp);have hl:=rv.length;exact wpAny_pyNext_list_end (I.ok.hd hc) st p.isList (by simp; omega) λh' eb=>⟨rfl,I.turned (t':=s.toks) (λb o hb e=>eb b o hb e) f0 f1 f3 f4 f5⟩
 self:=λ_ _ _ _ _ st h=>wpAny_pyIter_listiter st h
theorem ZpC{P:Program}{w:World}{K:Zww}{tg:Expr}(a it:Addr):Turn P w K tg (Itt K a) [it] it (λi h=>h.IsTupleIter it a i) where
 mem:=by simp
 obj:=λi h st b hb=>by
  have e:b=it:=by simpa using hb
  subst e;obtain⟨o,e,c,d⟩:=st;exact⟨o,e,λv z=>by rw[d]at z; cases z⟩
 keep:=λi h h' st k=>st.at λo e=>k it (by simp) o e
 item:=by intro X hP hw hK hc i pins s σ H E I hf st hg;subst hP hw hK;obtain⟨xs,x,hq,hx⟩:=hg;obtain⟨its,rv,p,hz⟩:=I.tuple hq;obtain⟨u,hu,ru⟩:=rv.get hx;obtain⟨f0,f1,f2,f3,f4,f5⟩:=hf it (by simp);refine wpAny_pyNext_tuple_item st (show s.heap.IsTuple a its.toArray from p) (x:=u) (by simpa using hu) λh' st' sb=>?_;have I1:Inv X pins σ H { s with heap:=h' }:=I.turned (t':=s.toks) (λb o hb e=>(sb.2 b hb).trans e) f0 f1 f3 f4 f5;obtain⟨o,e,c,d⟩:=id st';exact⟨u,rfl,Zlm (s:={ s with heap:=h' }) e c d (by decide) ⟨x,H,I1,ru,⟨rfl,λys hy=>by rw[I.tuple_inj hy hq]; exact hx⟩,st',λb hb=>(hf b hb).1⟩⟩
 done:=by intro X hP hw hK hc i pins s σ H E I hf st hg;subst hP hw hK;obtain⟨xs,hq,hx⟩:=hg;obtain⟨its,rv,p,hz⟩:=I.tuple hq;obtain⟨f0,f1,f2,f3,f4,f5⟩:=hf it (by simp);have hl:=rv.length;exact wpAny_pyNext_tuple_end (I.ok.hd hc) st (show s.heap.IsTuple a its.toArray from p) (by simp; omega) λh' eb=>⟨rfl,I.turned (t':=s.toks) (λb o hb e=>eb b o hb e) f0 f1 f3 f4 f5⟩
 self:=λ_ _ _ _ _ st h=>wpAny_pyIter_tupleiter st h
theorem Zph{P:Program}{w:World}{K:Zww}{tg:Expr}(it:Addr)(lo:Int)(n:Nat):Turn P w K tg (Itr lo n) [it] it (λi h=>IsRangeIter h it (lo+(i:Nat)*1) ((n:Int)-(i:Nat)) 1) where
 mem:=by simp
 obj:=λi h st b hb=>by
  have e:b=it:=by simpa using hb
  subst e;exact⟨_,st,λv z=>by have z':Data.fields _=Data.cell v:=z;cases z'⟩
 keep:=λi h h' st k=>k it (by simp) _ st
 item:=by intro X hP hw hK hc i pins s σ H E I hf st hg;subst hP hw hK;obtain⟨f0,f1,f2,f3,f4,f5⟩:=hf it (by simp);have W:=Walks.range (prog:=X.prog) (w:=X.w) (I.ok.hd hc) it lo 1 n;refine W.item i s _ _ hg st λv h' tk hv st' kk=>?_;obtain⟨t,rfl⟩:=hv;have I1:Inv X pins σ H { s with heap:=h',toks:=tk }:=I.turned (λb o hb e=>kk b o (by simpa using hb) e) f0 f1 f3 f4 f5;refine⟨_,rfl,Zlm (s:={ s with heap:=h',toks:=tk }) (n:="range_iterator") st' rfl rfl (by decide) ⟨.int (lo+i),H,I1,⟨t,?_⟩,⟨rfl,rfl⟩,st',λb hb=>(hf b hb).1⟩⟩;rw[Int.mul_one]
 done:=by intro X hP hw hK hc i pins s σ H E I hf st hg;subst hP hw hK;obtain⟨f0,f1,f2,f3,f4,f5⟩:=hf it (by simp);exact wpAny_pyNext_range_end (I.ok.hd hc) st (by have:n<=i:=hg; omega) λh' eb=>⟨rfl,I.turned (t':=s.toks) (λb o hb e=>eb b o hb e) f0 f1 f3 f4 f5⟩
 self:=λ_ _ _ _ _ st h=>wpAny_pyIter_rangeiter st h
end L2
namespace L2
open PySem PySem.Spec PyProof.Rows
section
variable{X:Cx}{tg:Expr}
theorem ZrX{pins:List (Addr × Obj)}{σ:St}{H:Hp}{s:Shared}{R:It->Hp->Prop}{E:Value->Shared->Prop}{lo hi:Int}{t u v:Tok}{tk:Nat}(I:Inv X pins σ H s)(h1:-(2 ^ 62)<=lo)(h2:lo<2 ^ 62)(h3:-(2 ^ 62)<=hi)(h4:hi<2 ^ 62)
  (q:R (Itr lo (hi-lo).toNat) H):wpAny (model X.prog X.w) X.A (pyIter (.ref s.heap.objs.size)) (PIE X pins σ tg R) E { s with heap:=s.heap.push { cls:=.type "range",data:=.fields #[.int lo t,.int hi u,.int 1 v] },toks:=tk }:=by
 refine wpAny_pyIter_range (IsRange.new ..) (small_one h1 h2 h3 h4) ?_;have I1:Inv X pins σ H { s with heap:=s.heap.push { cls:=.type "range",data:=.fields #[.int lo t,.int hi u,.int 1 v] },toks:=tk }:=I.kept λb o e=>ZwB _ e;refine⟨(s.heap.push { cls:=.type "range",data:=.fields #[.int lo t,.int hi u,.int 1 v] }).objs.size,[(s.heap.push { cls:=.type "range",data:=.fields #[.int lo t,.int hi u,.int 1 v] }).objs.size],_,_,H,rfl,
  I1.kept (t':=tk) λb o e=>ZwB _ e,Zph _ lo (hi-lo).toNat,?_,λb hb=>?_,q⟩
 ·have e1:lo+((0:Nat):Int)*1=lo:=by simp
  have e2:(((hi-lo).toNat:Nat):Int)-((0:Nat):Int)=ZyQ lo hi 1:=by rw[rangeSize_one]; split<;>omega
  show IsRangeIter _ _ (lo+((0:Nat):Int)*1) ((((hi-lo).toNat:Nat):Int)-((0:Nat):Int)) 1;rw[e1,e2];exact ZwO _ rfl
 ·have e:b=(s.heap.push { cls:=.type "range",data:=.fields #[.int lo t,.int hi u,.int 1 v] }).objs.size:=by simpa using hb
  subst e;exact I1.fpOk (ZwH _) (I1.hok.fresh (ZwH _))
def ZbJ(ta:TA):TI:=λσ H R=>ta σ H λvs H1=>∃j:Int,vs=[.int j]/\-(2 ^ 62)<=j/\j<2 ^ 62/\R (Itr 0 j.toNat) H1
theorem ZqP{a:Expr}{ta:TA}{p pos:Pos}(hg:Gl X "range")(hm:X.mg "range" = none)(ha:PA X [a] ta)(hs:ZwJ [a] X.env=[(false,eval a X.env)]:=by rfl):PI X tg (.Call (.Name "range" p) [a] [] pos) (ZbJ ta):=by
 intro pins s σ H R I h;refine Call_ (Zh5 I hg hm boot_range (Zz5 (thn (ha pos pins s σ H _ I h) λus s1 ⟨vs,H1,I1,r1,q1⟩=>?_) hs rfl));obtain⟨j,e,q1,q2,q⟩:=q1;subst e;cases r1 with
 | cons r rr=>cases rr;obtain⟨t,rfl⟩:=r;exact call_range_1 (ZrX I1 (by omega) (by omega) q1 q2 (by simpa using q))
def ZvY(wi:TI)(g:TG)(tb:TS):TS:=λD σ H=>wi σ H λJ H1=>∃W:Nat->Nat->St->Hp->Prop,(∃m,W 0 m σ H1)/\∀i m σ H,W i m σ H ->
 (J.stop i H/\D.nx σ H)\/(J.go i H/\∃N:St->Hp->Prop,(∀σ' H',N σ' H'->∃m',m'<m/\W (i+1) m' σ' H')/\∀x H',J.yld i H x H'->g x σ H' λσ2 H2=>tb { D with nx:=N,ct:=N,bk:=D.nx } σ2 H2)
def Zh6(fp:List Addr)(h:Heap):List (Addr × Obj):=fp.filterMap λb=>(h.get? b).map λo=>(b,o)
theorem ZeJ{fp:List Addr}{h:Heap}{b:Addr}{o:Obj}(hb:b∈fp)(e:h.get? b=some o):(b,o)∈Zh6 fp h:=ZxL.mpr ⟨b,hb,by rw[e]; rfl⟩
theorem Zqw{fp:List Addr}{h:Heap}{p:Addr × Obj}(hp:p∈Zh6 fp h):p.1∈fp/\h.get? p.1=some p.2:=by
 obtain⟨b,hb,e⟩:=ZxL.mp hp;cases q:h.get? b with
 | none=>rw[q]at e; cases e
 | some o=>rw[q]at e;have e':(b,o)=p:=Zxp e;subst e';exact⟨hb,q⟩
theorem Inv.pinned{pins:List (Addr × Obj)}{σ:St}{H:Hp}{s:Shared}{fp:List Addr}(I:Inv X pins σ H s)(hf:∀b∈fp,Zfg X pins H b)(ho:∀b∈fp,∃o,s.heap.get? b=some o/\∀v,o.data≠.cell v):Inv X (pins++Zh6 fp s.heap) σ H s :=
 I.pins_of λp hp=>(Zw5.mp hp).elim (λz=>I.pin p (Zw1 _ z)) λz=>by obtain⟨hb,e⟩:=Zqw z;obtain⟨f0,f1,f2,_⟩:=hf p.1 hb;obtain⟨o,e',d⟩:=ho p.1 hb;rw[e]at e'; cases e';exact⟨e,f0,f1,f2,d⟩
theorem Inv.unpinned{pins pl:List (Addr × Obj)}{σ:St}{H:Hp}{s:Shared}(I:Inv X (pins++pl) σ H s):Inv X pins σ H s:=I.pins_of λp hp=>I.pin p (Zw1 _ (Zxx _ hp))
theorem Zq5{iter:Expr}{body:List Stmt}{wi:TI}{g:TG}{tb:TS}{pos:Pos}(hp:PassesOwn (model X.prog X.w) X.A X.env X.xe)(hc:X.calm=true)(hi:PI X tg iter wi)(hg:PG X tg g)(hb:PSs X body tb)
  (hs:∀x,Zyn iter X.env x=pure x:=by intro _; rfl):PS X (.For tg iter body [] pos) (ZvY wi g tb):=by
 intro pins s σ H D I h;refine wpAny_For (thn (hi pins s σ H _ I h) λv s1 h1=>thn h1 λitv s2 h2=>?_) hs;obtain⟨it,fp,tn,J,H2,e,I2,T,st2,f2,W,⟨m0,w0⟩,turn⟩:=h2;subst e;have stat:∀{H':Hp},(∀b∈fp,H' b=none)->∀b∈fp,Zfg X pins H' b:=λhn b hb=>⟨hn b hb,(f2 b hb).2⟩;refine codeAny_forLoop_any (λn s'=>∃i σ' H',Inv X pins σ' H' s'/\tn i s'.heap/\(∀b∈fp,H' b=none)/\W i n σ' H') ?_ m0 ⟨0,σ,H2,I2,st2,λb hb=>(f2 b hb).1,w0⟩
 rintro n s3 ⟨i,σ3,H3,I3,st3,fr3,w3⟩
 rcases turn i n σ3 H3 w3 with⟨stop,qn⟩ | ⟨go,N,hN,step⟩
 ·refine Zyy hp (thn (T.done X rfl rfl rfl hc i pins s3 σ3 H3 X.xe I3 (stat fr3) st3 stop) λr s4 ⟨hr,I4⟩=>?_)
  subst hr;exact ZzN ⟨σ3,H3,I4,qn⟩
 ·refine Zyy hp (thn (T.item X rfl rfl rfl hc i pins s3 σ3 H3 X.xe I3 (stat fr3) st3 go) λr s4 ⟨u,hr,h4⟩=>?_)
  subst hr;refine Zyy hp (thn h4 λ_ s5 ⟨x,H5,I5,r5,y5,st5,fr5⟩=>?_);have I5':=I5.pinned (stat fr5) (T.obj _ _ st5);refine Zyy hp (thn (hg _ s5 σ3 H5 x u _ I5' r5 (step x H5 y5)) λ_ s6 ⟨σ6,H6,I6,q6⟩=>?_);refine Zyy hp (thn (hb _ s6 σ6 H6 _ I6 q6) λf s7 q7=>?_);have again:∀{σ7:St} {H7:Hp},Inv X (pins++Zh6 fp s5.heap) σ7 H7 s7->N σ7 H7->∃m,m<n/\∃i σ' H',Inv X pins σ' H' s7/\tn i s7.heap/\(∀b∈fp,H' b=none)/\W i m σ' H':=λ{σ7 H7} I7 n7=>by obtain⟨m',hm,w7⟩:=hN σ7 H7 n7;refine⟨m',hm,i+1,σ7,H7,I7.unpinned,T.keep _ _ _ st5 λb hb o e=>(I7.pin (b,o) (Zw1 _ (Zw1 _ (ZeJ hb e)))).1,λb hb=>?_,w7⟩;obtain⟨o,e,d⟩:=T.obj _ _ st5 b hb;exact(I7.pin (b,o) (Zw1 _ (Zw1 _ (ZeJ hb e)))).2.1
  cases f with
  | next=>obtain⟨σ7,H7,I7,n7⟩:=q7; exact again I7 n7
  | cont=>obtain⟨σ7,H7,I7,n7⟩:=q7; exact again I7 n7
  | brk=>obtain⟨σ7,H7,I7,q7⟩:=q7; exact⟨σ7,H7,I7.unpinned,q7⟩
  | ret v=>obtain⟨x7,σ7,H7,I7,r7,q7⟩:=q7; exact⟨x7,σ7,H7,I7.unpinned,r7,q7⟩
end
end L2
namespace L2
open PySem PySem.Spec PyProof.Rows
abbrev R2:=V->V->Hp->VK->Prop
def OpR(X:Cx)(f:Value->Value->Sem Value)(r:R2):Prop :=
 ∀(pins:List (Addr × Obj)) (s:Shared) (σ:St) (H:Hp) (x y:V) (v u:Value) (Q:VK),Inv X pins σ H s->RelV x v->RelV y u->r x y H Q ->
  wpAny (model X.prog X.w) X.A (f v u) (EP X pins σ Q) X.xe s
def ZaJ(X:Cx)(f:Value)(r:List V->Hp->VK->Prop):Prop :=
 ∀(pins:List (Addr × Obj)) (s:Shared) (σ:St) (H:Hp) (xs:List V) (us:List Value) (Q:VK),Inv X pins σ H s->Vals xs us->r xs H Q ->
  wpAny (model X.prog X.w) X.A (call f us) (EP X pins σ Q) X.xe s
def tOp(r:R2)(ta tb:TE):TE:=λσ H Q=>ta σ H λx H1=>tb σ H1 λy H2=>r x y H2 Q
def rI(C:Int->Int->Prop)(g:Int->Int->V):R2:=λx y H Q=>∃i j,x=.int i/\y=.int j/\C i j/\Q (g i j) H
def rI0(g:Int->Int->V):R2:=λx y H Q=>∃i j,x=.int i/\y=.int j/\Q (g i j) H
section
variable{X:Cx}{a b c:Expr}{ta tb tc:TE}{pos:Pos}
theorem ZrQ(ha:PE X a ta)(hb:PE X b tb){pins:List (Addr × Obj)}{s:Shared}{σ:St}{H:Hp}{R:V->V->Hp->Prop}(I:Inv X pins σ H s)
  (h:ta σ H λx H1=>tb σ H1 λy H2=>R x y H2) {Q:Value->Shared->Prop} {f:Value->Value->Sem Value}
  (hf:∀v u s2 x y H2,Inv X pins σ H2 s2->RelV x v->RelV y u->R x y H2->wpAny (model X.prog X.w) X.A (f v u) Q X.xe s2) :
  wpAny (model X.prog X.w) X.A (eval a X.env) (λv s₁=>wpAny (model X.prog X.w) X.A (eval b X.env) (λu s₂=>wpAny (model X.prog X.w) X.A (f v u) Q X.xe s₂) X.xe s₁) X.xe s:=by
 refine thn (ha pins s σ H _ I h) λv s1 ⟨x,H1,I1,r1,q1⟩=>?_;refine thn (hb pins s1 σ H1 _ I1 q1) λu s2 ⟨y,H2,I2,r2,q2⟩=>?_;exact hf v u s2 x y H2 I2 r1 r2 q2
theorem ZpM{op:Operator}{r:R2}(ho:OpR X (ZzH op) r)(ha:PE X a ta)(hb:PE X b tb):PE X (.BinOp a op b pos) (tOp r ta tb):=by intro pins s σ H Q I h;exact wpAny_BinOp (ZrQ ha hb I h λv u s2 x y H2 I2 rx ry q=>ho pins s2 σ H2 x y v u Q I2 rx ry q)
theorem opI{f:Value->Value->Sem Value}{C:Int->Int->Prop}{g:Int->Int->Int}
  (rule:∀(i j:Int) (t u:Tok) (s:Shared) (Q:Value->Shared->Prop) (E:Value->Shared->Prop),C i j->Q (.int (g i j) s.toks) { s with toks:=s.toks+1 }->wpAny (model X.prog X.w) X.A (f (.int i t) (.int j u)) Q E s) :
  OpR X f (rI C λi j=>.int (g i j)):=by
 intro pins s σ H x y v u Q I rx ry h;obtain⟨i,j,rfl,rfl,hc,q⟩:=h;obtain⟨t,rfl⟩:=rx;obtain⟨t',rfl⟩:=ry;exact rule i j t t' s _ _ hc ⟨.int (g i j),H,I.tok _,⟨_,rfl⟩,q⟩
theorem Zug{f:Value->Value->Sem Value}{g:Int->Int->Int}
  (rule:∀(i j:Int) (t u:Tok) (s:Shared) (Q:Value->Shared->Prop) (E:Value->Shared->Prop),Q (.int (g i j) s.toks) { s with toks:=s.toks+1 }->wpAny (model X.prog X.w) X.A (f (.int i t) (.int j u)) Q E s) :
  OpR X f (rI0 λi j=>.int (g i j)):=by
 intro pins s σ H x y v u Q I rx ry h;obtain⟨i,j,rfl,rfl,q⟩:=h;obtain⟨t,rfl⟩:=rx;obtain⟨t',rfl⟩:=ry;exact rule i j t t' s _ _ ⟨.int (g i j),H,I.tok _,⟨_,rfl⟩,q⟩
theorem Zsk{f:Value->Value->Sem Value}{g:Int->Int->Bool}
  (rule:∀(i j:Int) (t u:Tok) (s:Shared) (Q:Value->Shared->Prop) (E:Value->Shared->Prop),Q (.bool (g i j)) s->wpAny (model X.prog X.w) X.A (f (.int i t) (.int j u)) Q E s) :
  OpR X f (rI0 λi j=>.bl (g i j)):=by
 intro pins s σ H x y v u Q I rx ry h;obtain⟨i,j,rfl,rfl,q⟩:=h;obtain⟨t,rfl⟩:=rx;obtain⟨t',rfl⟩:=ry;exact rule i j t t' s _ _ ⟨.bl (g i j),H,I,rfl,q⟩
def Zpv(i j:Int):Prop:=(-(2 ^ 64)<i/\i<2 ^ 64)\/(-(2 ^ 64)<j/\j<2 ^ 64)
theorem Zpv.ok{i j:Int}(h:Zpv i j):IntMulOk i j:=by
 rcases h with⟨h1,h2⟩ | ⟨h1,h2⟩
 ·exact .of_left (intBits_le_64 h1 h2)
 ·exact .of_right (intBits_le_64 h1 h2)
theorem ZuZ:OpR X (ZzH .Add) (rI0 λi j=>.int (i+j)):=Zug λ_ _ _ _ _ _ _ q=>add_int q
theorem ZuK:OpR X (ZzH .Sub) (rI0 λi j=>.int (i-j)):=Zug λ_ _ _ _ _ _ _ q=>sub_int q
theorem Zuq:OpR X (ZzH .Mult) (rI Zpv λi j=>.int (i*j)):=opI λ_ _ _ _ _ _ _ hc q=>mul_int q hc.ok
theorem ZtY:OpR X (ZzH .Mod) (rI (λ_ j=>0<j) λi j=>.int (i % j)):=opI λi j _ _ _ _ _ hc q=>by have h1:(0:Int)<j:=hc;exact mod_int' (by omega) (by rw[Int.fmod_eq_emod_of_nonneg i (by omega)]; exact q)
end
section
variable{X:Cx}{a b c:Expr}{ta tb tc:TE}{pos:Pos}
theorem Zqn{pins:List (Addr × Obj)}{σ:St}{H:Hp}{s:Shared}{Q:VK}{k k':Bool}(I:Inv X pins σ H s)(q:Q (.bl k) H)(e:k=k'):EP X pins σ Q (.bool k') s:=by subst e;exact⟨.bl k,H,I,rfl,q⟩
theorem Zvu:OpR X (ZxK .Lt) (rI0 λi j=>.bl (decide (i<j))):=Zsk λ_ _ _ _ _ _ _ q=>lt_int q
theorem Zvj:OpR X (ZxK .LtE) (rI0 λi j=>.bl (decide (i<=j))):=Zsk λ_ _ _ _ _ _ _ q=>le_int q
theorem Zvk:OpR X (ZxK .Gt) (rI0 λi j=>.bl (decide (j<i))):=Zsk λ_ _ _ _ _ _ _ q=>gt_int q
theorem ZuQ:OpR X (ZxK .Is) (λx y H Q=>y=.non/\Q (.bl (decide (x=.non))) H):=by
 intro pins s σ H x y v u Q I rx ry h;obtain⟨rfl,q⟩:=h;cases ry;refine is_none_gen (Zqn I q ?_);cases x<;>first
  | (cases rx; rfl)
  | (obtain⟨t,rfl⟩:=rx; rfl)
theorem Zs1:OpR X (ZxK .IsNot) (λx y H Q=>y=.non/\Q (.bl (!decide (x=.non))) H):=by
 intro pins s σ H x y v u Q I rx ry h;obtain⟨rfl,q⟩:=h;cases ry;refine isnot_none_gen (Zqn I q ?_);cases x<;>first
  | (cases rx; rfl)
  | (obtain⟨t,rfl⟩:=rx; rfl)
theorem Zox{op:CmpOp}{r:R2}(ho:OpR X (ZxK op) r)(ha:PE X a ta)(hb:PE X b tb)(hm:ZxN op b=false):PE X (.Compare a [op] [b] pos) (tOp r ta tb):=by intro pins s σ H Q I h;exact wpAny_Compare1 (ZrQ ha hb I h λv u s2 x y H2 I2 rx ry q=>ho pins s2 σ H2 x y v u Q I2 rx ry q) hm
def Zvt(t:TE):TT:=λσ H Q=>t σ H λx H'=>∃k,x=.bl k/\Q k H'
theorem ZoH{op:CmpOp}{r:R2}(ho:OpR X (ZxK op) r)(ha:PE X a ta)(hb:PE X b tb)(hm:ZxN op b=false):PT X (.Compare a [op] [b] pos) (Zvt (tOp r ta tb)):=by intro pins s σ H Q I h;refine wpAny_isTrue_Compare1 (thn (ha pins s σ H _ I h) λv s1 ⟨x,H1,I1,r1,q1⟩=>thn (hb pins s1 σ H1 _ I1 q1) λu s2 ⟨y,H2,I2,r2,q2⟩=>thn (ho pins s2 σ H2 x y v u _ I2 r1 r2 q2) λc s3 ⟨z,H3,I3,r3,k,e,q3⟩=>?_) hm;subst e;cases r3;exact ZxU ⟨H3,I3,q3⟩
def Zt9(r r':R2)(ta tb tc:TE):TE:=λσ H Q=>ta σ H λx H1=>tb σ H1 λy H2=>r x y H2 λz H3=>∃k,z=.bl k /\
 (if k=true then tc σ H3 λw' H4=>r' y w' H4 Q else Q (.bl false) H3)
theorem Zmv{op op':CmpOp}{r r':R2}(ho:OpR X (ZxK op) r)(ho':OpR X (ZxK op') r')(ha:PE X a ta)(hb:PE X b tb)(hc:PE X c tc)
  (hm:lastMarks [op,op'] [b,c]=false:=by with_unfolding_all rfl):PE X (.Compare a [op,op'] [b,c] pos) (Zt9 r r' ta tb tc):=by
 intro pins s σ H Q I h;refine Compare_chain (thn (ha pins s σ H _ I h) λv s1 ⟨x,H1,I1,r1,q1⟩=>chain_link (thn (hb pins s1 σ H1 _ I1 q1) λu s2 ⟨y,H2,I2,r2,q2⟩=>thn (ho pins s2 σ H2 x y v u _ I2 r1 r2 q2) λd s3 ⟨z,H3,I3,r3,k,e,q3⟩=>?_)) hm;subst e;cases r3;refine ZxU ?_;cases k with
 | false=>exact ite_ff ⟨.bl false,H3,I3,rfl,q3⟩
 | true=>exact ite_tt (chain_last (thn (hc pins s3 σ H3 _ I3 q3) λw' s4 ⟨z',H4,I4,r4,q4⟩=>ho' pins s4 σ H4 y z' u w' Q I4 r2 r4 q4))
theorem ZhM:(sizeLine:Nat)<2 ^ 63:=by rw[ZxO]; decide
theorem vals1{x:V}{us:List Value}(r:Vals [x] us):∃u,us=[u]/\RelV x u:=by
 cases r with
 | cons r1 r2=>cases r2; exact⟨_,rfl,r1⟩
theorem vals2{x y:V}{us:List Value}(r:Vals [x,y] us):∃u w',us=[u,w']/\RelV x u/\RelV y w':=by
 cases r with
 | cons r1 r2 =>
  cases r2 with
  | cons r3 r4=>cases r4; exact⟨_,_,rfl,r1,r3⟩
theorem Zp2(hc:X.calm=true):ZaJ X (.builtin "max") (λxs H Q=>∃i j,xs=[.int i,.int j]/\Q (.int (if j > i then j else i)) H):=by
 intro pins s σ H xs us Q I r h;obtain⟨i,j,rfl,q⟩:=h;obtain⟨u,w',rfl,⟨t,rfl⟩,⟨t',rfl⟩⟩:=vals2 r;refine max_two_ints (I.ok.hd hc) λh' tk k=>⟨_,H,I.kept k,?_,q⟩
 by_cases hj:j > i
 ·rw[if_pos hj,if_pos hj]; exact⟨_,rfl⟩
 ·rw[if_neg hj,if_neg hj]; exact⟨_,rfl⟩
theorem ZqF(hc:X.calm=true):ZaJ X (.builtin "min") (λxs H Q=>∃i j,xs=[.int i,.int j]/\Q (.int (if j<i then j else i)) H):=by
 intro pins s σ H xs us Q I r h;obtain⟨i,j,rfl,q⟩:=h;obtain⟨u,w',rfl,⟨t,rfl⟩,⟨t',rfl⟩⟩:=vals2 r;refine min_two_ints (I.ok.hd hc) λh' tk k=>⟨_,H,I.kept k,?_,q⟩
 by_cases hj:j<i
 ·rw[if_pos hj,if_pos hj]; exact⟨_,rfl⟩
 ·rw[if_neg hj,if_neg hj]; exact⟨_,rfl⟩
theorem ZkI:ZaJ X (.type "int") (λxs H Q=>(∃i,xs=[.int i]/\Q (.int i) H)\/∃k,xs=[.bl k]/\Q (.int (if k then 1 else 0)) H):=by
 intro pins s σ H xs us Q I r h;rcases h with⟨i,rfl,q⟩ | ⟨k,rfl,q⟩
 ·obtain⟨u,rfl,t,rfl⟩:=vals1 r
  exact call_int_int ⟨.int i,H,I,⟨_,rfl⟩,q⟩
 ·obtain⟨u,rfl,r1⟩:=vals1 r
  cases r1;exact call_int_bool ⟨.int (if k then 1 else 0),H,I.tok _,⟨_,rfl⟩,q⟩
end
end L2
namespace L2
open PySem PySem.Spec PyProof.Rows
theorem Zf8.some_of{v:V}{o:Option Value}(r:Zf8 (some v) o):∃u,o=some u/\RelV v u:=by
 cases o with
 | none=>exact(show False from r).elim
 | some u=>exact⟨u,rfl,r⟩
end L2
namespace L2
open PySem PySem.Spec PyProof.Rows
structure Zao(k:Nat)(A:Around):Prop where
 hd:A.handled=none
 dp:A.depth+3*k+5<recursionLimit
 un:A.units+16*k+200<cLine
theorem Zao.mono{j k:Nat}{A:Around}(r:Zao k A)(h:j<=k):Zao j A:=⟨r.hd,by have:=r.dp; omega,by have:=r.un; omega⟩
theorem Zao.deeper{k:Nat}{A:Around}(r:Zao (k+1) A)(env:Env):Zao k (A.deeper env) :=
 ⟨r.hd,by have:=r.dp; show A.depth+1+3*k+5<_; omega,by have:=r.un; show A.units+3+16*k+200<_; omega⟩
theorem Zao.depth{k:Nat}{A:Around}(r:Zao k A):A.depth<recursionLimit:=by have:=r.dp; omega
theorem Zao.units{k:Nat}{A:Around}(r:Zao k A):A.units+64<cLine:=by have:=r.un; omega
def ZvS:TA:=λ_ H Q=>Q [] H
def Zvg(ta:TE)(tr:TA):TA:=λσ H Q=>ta σ H λx H1=>tr σ H1 λxs H2=>Q (x::xs) H2
section
variable{X:Cx}{e:Expr}{es:List Expr}{te:TE}{t:TA}{pos:Pos}
theorem Zbv:PA X [] ZvS:=λ_ _ _ _ H Q I h=>Calls.spliced_nil ⟨[],H,I,.nil,h⟩
theorem Z9(ha:PE X e te)(hr:PA X es t)(hs:ZwJ (e::es) X.env=(false,eval e X.env)::ZwJ es X.env:=by rfl):PA X (e::es) (Zvg te t):=by intro pos pins s σ H Q I h;rw[hs];show wpAny _ _ (spliced ((false,eval e X.env)::backTo pos (ZwJ es X.env))) _ _ s;refine Zz6 (thn (ha pins s σ H _ I h) λu s1 ⟨x,H1,I1,r1,q1⟩=>?_);exact thn (hr pos pins s1 σ H1 _ I1 q1) λus s2 ⟨xs,H2,I2,r2,q2⟩=>⟨x::xs,H2,I2,.cons r1 r2,q2⟩
def ZvQ(t:TA):TE:=λσ H Q=>t σ H λxs H1=>xs.length<=sizeLine/\∀p,H1 p=none->Q (.ref p) (upd H1 p (.tup xs))
def ZvN(t:TA):TE:=λσ H Q=>t σ H λxs H1=>xs.length<=sizeLine/\∀p,H1 p=none->Q (.ref p) (upd H1 p (.lst xs))
theorem ZuW{x1}(h:PA X es t):PE X (.Tuple es x1 pos) (ZvQ t):=by intro pins s σ H Q I hq;refine wpAny_Tuple_spliced (thn (h pos pins s σ H _ I hq) λus s1 ⟨xs,H1,I1,r,z,q⟩=>⟨by rw[<-r.length]; exact z,?_⟩);have hf:H1 s1.heap.objs.size=none:=I1.hok.fresh (ZwH _);refine⟨.ref s1.heap.objs.size,upd H1 s1.heap.objs.size (.tup xs),I1.laid (t':=s1.toks) (λb u e=>ZwB _ e) (ZwH _) ?_,rfl,q _ hf⟩;exact⟨z,us,r,⟨_,ZwO _ rfl,rfl,_,rfl⟩⟩
theorem ZuU(h:PA X es t):PE X (.List es pos) (ZvN t):=by intro pins s σ H Q I hq;refine wpAny_List_spliced (thn (h pos pins s σ H _ I hq) λus s1 ⟨xs,H1,I1,r,z,q⟩=>⟨by rw[<-r.length]; exact z,?_⟩);have hf:H1 s1.heap.objs.size=none:=I1.hok.fresh (ZwH _);refine⟨.ref s1.heap.objs.size,upd H1 s1.heap.objs.size (.lst xs),I1.laid (t':=s1.toks) (λb u e=>ZwB _ e) (ZwH _) ?_,rfl,q _ hf⟩;exact⟨z,us,0,r,ZwO _ rfl⟩
end
abbrev Sp:=List V->Hp->VK->XK->Prop
abbrev CXT:=List Env->Hp->Shared->XK->Value->Shared->Prop
structure ZdV(P:Program)(w:World)(K:Zww)(mg:Str->Option Value)(base:Heap)(A:Around)(outer:List Env)(s:Shared)(H:Hp):Prop where
 frames:A.frames=some outer
 mod:Mod K mg base
 bs:∀b o,base.get? b=some o->s.heap.get? b=some o/\H b=none
 bsz:base.objs.size<=s.heap.objs.size
 funs:s.heap.FunFrames base outer
 frf:∀b∈frs outer,H b=none
 hok:HOk P w H s.heap
 bare:AllBare s.gens
def CE(outer:List Env)(P:Program)(w:World)(H:Hp)(s:Shared)(Q:VK)(u:Value)(s':Shared):Prop :=
 ∃v H',s'.os=s.os/\AllBare s'.gens/\Un (frs outer) [] H H' s.heap s'.heap/\HOk P w H' s'.heap/\RelV v u/\Q v H'
def CR(CX:CXT)(outer:List Env)(P:Program)(w:World)(H:Hp)(s:Shared)(Q:VK)(E:XK)(r:Result)(s':Shared):Prop :=
 match r with
 | .ok (.ret u)=>CE outer P w H s Q u s'
 | .ok _=>False
 | .error e=>CX outer H s E e s'
structure ZcQ(P:Program)(w:World)(K:Zww)(mg:Str->Option Value)(base:Heap)(CX:CXT)(k:Nat)(f:Addr)(fd:FuncData)(ps:List Str)(sp:Sp):Prop where
 len:∀vs H Q E,sp vs H Q E->vs.length=ps.length
 run:∀(A:Around) (outer:List Env) (s:Shared) (H:Hp) (args:Args) (us:List Value) (vs:List V) (Q:VK) (E:XK),Zao k A->ZdV P w K mg base A outer s H->BindsTo s fd args (ps.zip us)->Vals vs us->sp vs H Q E ->
  codeAny (model P w) A (.call (.ref f) args) (CR CX outer P w H s Q E) s
theorem ZcQ.mono{P:Program}{w:World}{K:Zww}{mg:Str->Option Value}{base:Heap}{CX:CXT}{j k:Nat}{f:Addr}{fd:FuncData}{ps:List Str}{sp:Sp}(F:ZcQ P w K mg base CX j f fd ps sp)(h:j<=k) :
  ZcQ P w K mg base CX k f fd ps sp:=⟨F.len,λA outer s H args us vs Q E hr=>F.run A outer s H args us vs Q E (hr.mono h)⟩
section
variable{X:Cx}{pins:List (Addr × Obj)}{σ:St}{H:Hp}{s s':Shared}
theorem Inv.env0(I:Inv X pins σ H s):ZdV X.prog X.w X.K X.mg X.base X.A X.stack s H :=
 ⟨I.ok.frames,I.ok.mod,I.bs,Zxs I.ok.bsz I.sz,I.stack,I.stkFree,I.hok,I.bare⟩
theorem Inv.after{Q:VK}{u:Value}(I:Inv X pins σ H s)(h:CE X.stack X.prog X.w H s Q u s'):EP X pins σ Q u s':=by obtain⟨v,H',os,bare,un,hok,r,q⟩:=h;obtain⟨hh,g,d,t,os'⟩:=s';obtain rfl:os'=s.os:=os;exact⟨v,H',I.call (h':=hh) (g':=g) (d':=d) (t':=t) (ch:=[]) un hok bare (λb z=>absurd z (by simp)),r,q⟩
end
def Zu6(sp:Sp)(dvs:List V)(E:XK)(t:TA):TE:=λσ H Q=>t σ H λvs H1=>sp (vs++dvs) H1 Q E
def Binds(K:Zww)(fd:FuncData)(ps:List Str)(ds:List Value):Prop :=
 ∀(s:Shared) (us:List Value),K.In s.heap->(us++ds).length=ps.length->BindsTo s fd ⟨us,[]⟩ (ps.zip (us++ds))
theorem Binds.all{K:Zww}{fd:FuncData}{ps:List Str}(h:∀us:List Value,us.length=ps.length->bindArgs fd ⟨us,[]⟩=pure (ps.zip us)):Binds K fd ps []:=λs us _ hl=>by rw[Zxc]at hl ⊢;exact .of_eq (h us hl)
def Passes(CX:CXT)(X:Cx)(E:XK):Prop:=∀(pins:List (Addr × Obj)) (σ:St) (H:Hp) (s:Shared) (e:Value) (s':Shared),Inv X pins σ H s->CX X.stack H s E e s'->X.xe e s'
section
variable{X:Cx}{CX:CXT}{k:Nat}{f C:Addr}{fd:FuncData}{ps:List Str}{sp:Sp}{dvs:List V}{ds:List Value}{E:XK}{x m:Str}{p pos apos:Pos}{e o:Expr}{es:List Expr}{ta:TE}{t:TA}
theorem ZuR{pins:List (Addr × Obj)}{σ:St}{H:Hp}{s:Shared}{Q:VK}{us:List Value}{vs:List V}(F:ZcQ X.prog X.w X.K X.mg X.base CX k f fd ps sp)(hr:Zao k X.A)(hb:Binds X.K fd ps ds)(hd:Vals dvs ds)(hx:Passes CX X E)
  (I:Inv X pins σ H s) (r:Vals vs us) (h:sp (vs++dvs) H Q E):wpAny (model X.prog X.w) X.A (call (.ref f) us) (EP X pins σ Q) X.xe s:=by
 have r2:Vals (vs++dvs) (us++ds):=r.append hd;have hl:(us++ds).length=ps.length:=by rw[<-r2.length]; exact F.len _ _ _ _ h
 refine wpAny_call (Zyv (F.run X.A X.stack s H ⟨us,[]⟩ (us++ds) (vs++dvs) Q E hr I.env0 (hb s us I.kIn hl) r2 h) λr s' hq=>?_);cases r with
 | error e=>exact hx pins σ H s e s' I hq
 | ok fl =>
  cases fl with
  | ret u=>exact I.after hq
  | next=>exact Zxy hq
  | brk=>exact Zxy hq
  | cont=>exact Zxy hq
theorem ZjU(F:ZcQ X.prog X.w X.K X.mg X.base CX k f fd ps sp)(hr:Zao k X.A)(hg:Gl X x)(hm:X.mg x=some (.ref f))(hk:ZxP X.K (.ref f)=true)(hb:Binds X.K fd ps ds)(hd:Vals dvs ds)(hx:Passes CX X E)
  (ha:PA X (e::es) t) (hdb:(x==("__debug__":Str))=false:=by decide) (he:ZwJ (e::es) X.env=(false,eval e X.env)::ZwJ es X.env:=by rfl) (hpl:(backTo pos (ZwJ es X.env)).any (·.1)=false:=by rfl) :
  PE X (.Call (.Name x p) (e::es) [] pos) (Zu6 sp dvs E t):=by
 intro pins s σ H Q I h;refine Zyw (Zki I hg hm ?_ hdb);refine ZA7 (h₀:=X.base) I.ok.mod.kin hk (thn (ha pos pins s σ H _ I h) λus s1 ⟨vs,H1,I1,r,q⟩=>⟨I1.kIn,?_⟩) he hpl;exact ZuR F hr hb hd hx I1 r q
end
structure Zu(N P:List Str)(sc:Scope):Prop where
 kind:sc.kind=.function
 co:sc.isCoroutine=false
 gen:sc.isGenerator=false
 nd:N.Nodup
 pre:N.take P.length=P
 par:∀x∈P,sc.names.lookup x=some .local\/sc.names.lookup x=some .cell
 nofree:∀y∈sc.names,y.2≠.free
theorem ZkA{kindOf:Str->Option NameKind}{x:Str}:∀{binds:List (Str × Value)} {m:Str->Option Value},(∀v,(x,v) ∉ binds)->bindL kindOf binds m x=m x
 | [],_,_=>rfl
 | (n,v)::r,m,h=>by
  unfold bindL;rw[ZkA λw hw=>h w (ZwC _ hw)];split
  ·have:x≠n:=by rintro rfl; exact h v ZwA
   simp[this]
  ·rfl
theorem Zku{kindOf:Str->Option NameKind}{x:Str}:∀{binds:List (Str × Value)} {m:Str->Option Value},(∀v,(x,v) ∉ binds)->bindC kindOf binds m x=m x
 | [],_,_=>rfl
 | (n,v)::r,m,h=>by
  unfold bindC;rw[Zku λw hw=>h w (ZwC _ hw)];split
  ·rfl
  ·have:x≠n:=by rintro rfl; exact h v ZwA
   simp[this]
theorem ZkJ{kindOf:Str->Option NameKind}{x:Str}{v:Value}:∀{P:List Str} {vs:List Value} {i:Nat} {m:Str->Option Value},P.Nodup->P[i]?=some x->vs[i]?=some v->kindOf x=some .local ->
  bindL kindOf (P.zip vs) m x=some v
 | [],_,_,_,_,h,_,_=>by simp at h
 | _::_,[],_,_,_,_,h,_=>by simp at h
 | p::P,w::vs,0,m,nd,h1,h2,hk=>by simp at h1 h2; subst h1; subst h2;show bindL kindOf ((p,w)::P.zip vs) m p=_;unfold bindL;rw[ZkA λv hv=>(Zxm.mp nd).1 (ZAD hv).1,if_pos hk];simp
 | p::P,w::vs,i+1,m,nd,h1,h2,hk=>by show bindL kindOf ((p,w)::P.zip vs) m x=_;unfold bindL;exact ZkJ (i:=i) (Zxm.mp nd).2 (by simpa using h1) (by simpa using h2) hk
theorem ZkE{kindOf:Str->Option NameKind}{x:Str}{v:Value}:∀{P:List Str} {vs:List Value} {i:Nat} {m:Str->Option Value},P.Nodup->P[i]?=some x->vs[i]?=some v->kindOf x≠some .local ->
  bindC kindOf (P.zip vs) m x=some v
 | [],_,_,_,_,h,_,_=>by simp at h
 | _::_,[],_,_,_,_,h,_=>by simp at h
 | p::P,w::vs,0,m,nd,h1,h2,hk=>by simp at h1 h2; subst h1; subst h2;show bindC kindOf ((p,w)::P.zip vs) m p=_;unfold bindC;rw[Zku λv hv=>(Zxm.mp nd).1 (ZAD hv).1,if_neg hk];simp
 | p::P,w::vs,i+1,m,nd,h1,h2,hk=>by show bindC kindOf ((p,w)::P.zip vs) m x=_;unfold bindC;exact ZkE (i:=i) (Zxm.mp nd).2 (by simpa using h1) (by simpa using h2) hk
def start(N:List Str)(vs:List V):St:=vs.map some++Zw4 (N.length-vs.length) none
def Zfk(CX:CXT)(P:Program)(w:World)(K:Zww)(mg:Str->Option Value)(base:Heap)(N:List Str)(qual:Str)(scope:Scope)(f:Addr)(cd:Value)(A:Around)(outer:List Env)(s:Shared)(H:Hp)(E:XK):Cx where
 prog:=P
 w:=w
 K:=K
 mg:=mg
 base:=base
 A:=A.deeper (envOfC qual scope s.heap.objs.size f cd)
 N:=N
 s₀:=s
 H₀:=H
 env:=envOfC qual scope s.heap.objs.size f cd
 outer:=outer
 stack:=envOfC qual scope s.heap.objs.size f cd::outer
 ex:=[]
 calm:=true
 fn:=λ_=>true
 pn:=[]
 xe:=λe s'=>wpAny (model P w) (A.deeper (envOfC qual scope s.heap.objs.size f cd)) (leaving (envOfC qual scope s.heap.objs.size f cd) e) (λ_ s''=>CX outer H s E e s'') (λe' s''=>CX outer H s E e' s'') s'
theorem Zmc{sc:Scope}{n:Nat}{x:Str}(h:sc.names.lookup x=some .cell):∃c,(cellsFrom n sc.names []).lookup x=some c:=by have q:=ZAJ sc.names n [] (.inl h);exact Zxi.mp q
theorem Zql{CX:CXT}{P:Program}{w:World}{K:Zww}{mg:Str->Option Value}{base:Heap}{N ps:List Str}{qual:Str}{scope:Scope}{f:Addr}{cd:Value}{A:Around}{outer:List Env}{s s1:Shared}{H:Hp}{E:XK}{us:List Value}{vs:List V}
  (S:Zu N ps scope) (hd:A.handled=none) (e0:ZdV P w K mg base A outer s H) (hl:vs.length=ps.length) (r:Vals vs us)
  (x:InCallC s s.heap.objs.size (bindL (envOfC qual scope s.heap.objs.size f cd).kindOf (ps.zip us) λ_=>none) (cellsFrom (s.heap.objs.size+1) scope.names []) (bindC (envOfC qual scope s.heap.objs.size f cd).kindOf (ps.zip us) λ_=>none) s1) :
  Inv (Zfk CX P w K mg base N qual scope f cd A outer s H E) [] (start N vs) H s1:=by
 have hpl:ps.length<=N.length:=by have:=congrArg Zxd S.pre; rw[Zx0]at this; omega
 obtain⟨h1,tk,rfl,hk⟩:=x.done;have noA:∀b:Addr,b ∉ (Zfk CX P w K mg base N qual scope f cd A outer s H E).ex:=λb z=>absurd (show b∈([]:List Addr) from z) (by simp);refine⟨⟨e0.mod,S.kind,rfl,rfl,ZwH _,λy z c h1 h2=>?_,λy hy=>?_,λy c _ h=>?_,λ_=>hd,ZAY e0.frames,.inr ⟨rfl,rfl⟩,λb z=>absurd z (noA b),e0.bs,e0.bsz,λb _ _=>noA b,λb z=>absurd z (noA b),e0.funs,e0.frf⟩,
  rfl,e0.bare,Un.kept hk,⟨_,x.toInCall.ns,λi y v h1 h2 h3=>?_⟩,λy c h=>⟨_,x.cell y c h⟩,e0.hok.fresh (ZwH _),λy c h=>?_,λp hp=>absurd (show p∈([]:List (Addr × Obj)) from hp) (by simp),e0.hok.kept hk,?_⟩
 ·exact name_of_addr x.apart (ZxX h1) (ZxX h2)
 ·have hy:scope.names.lookup y=some .cell\/scope.names.lookup y=some .free:=hy
  rcases hy with hy | hy
  ·exact Zmc hy
  ·exact absurd rfl (S.nofree _ (ZxX hy))
 ·exact Zyi (x.above y c (ZxX h))
 ·have hi:i<vs.length:=by
   unfold start at h2
   by_cases hi:i<vs.length
   ·exact hi
   ·rw[Zxb (by simpa using hi)]at h2
    rw[ZyR]at h2;split at h2<;>cases h2
  have ha:vs[i]?=some v:=by
   unfold start at h2;rw[Zxg (by simpa using hi),ZwZ]at h2;cases e:vs[i]? with
   | none=>rw[e]at h2; cases h2
   | some a=>rw[e]at h2; cases h2; rfl
  obtain⟨u,hu,rv⟩:=r.get ha;have hp:ps[i]?=some y:=by rw[<-S.pre,ZAv (by omega)]; exact h1
  have ndP:ps.Nodup:=by rw[<-S.pre]; exact S.nd.sublist (List.take_sublist _ _)
  refine⟨u,rv,?_⟩;rcases S.par y (Zw3 hp)with k | k
  ·exact .inl ⟨k,ZkJ ndP hp hu k⟩
  ·obtain⟨c,e⟩:=Zmc (n:=s.heap.objs.size+1) k
   refine .inr ⟨.inl k,c,e,?_⟩;have q:=x.cell y c e;rw[ZkE ndP hp hu (by show scope.names.lookup y≠_; rw[k]; decide)]at q;exact q
 ·exact e0.hok.fresh (Zyi (x.above y c (ZxX h)))
 ·unfold start
  show _=N.length;rw[ZwR,Zwy,Zxe];omega
theorem Zsu{CX:CXT}{P:Program}{w:World}{K:Zww}{mg:Str->Option Value}{base:Heap}{k:Nat}{f:Addr}{name qual:Str}{params:Arguments}{body:List Stmt}{scope:Scope}{dV kV doc pm cdv ct oc:Value}{an od:Option Addr}
  {osl:Array (Option Value)} {N ps:List Str} {sp:Sp} (lk:K.lookup f=some ⟨oc,od,.func (ZxI name qual params body scope dV kV doc pm an cdv ct),osl⟩) (hcd:Zyr K cdv qual=true) (S:Zu N ps scope)
  (len:∀vs H Q E,sp vs H Q E->vs.length=ps.length)
  (hbody:∀(A:Around) (outer:List Env) (s:Shared) (H:Hp) (vs:List V) (Q:VK) (E:XK),Zao k (A.deeper (envOfC qual scope s.heap.objs.size f cdv))->sp vs H Q E ->
   ∃t,PSs (Zfk CX P w K mg base N qual scope f cdv A outer s H E) body t/\t { nx:=λ_ H'=>Q .non H',rt:=Q } (start N vs) H) :
  ZcQ P w K mg base CX (k+1) f (ZxI name qual params body scope dV kV doc pm an cdv ct) ps sp:=by
 refine⟨len,λA outer s H args us vs Q E hr e0 hb r hsp=>?_⟩;have hl:=len _ _ _ _ hsp;have KX:K.In s.heap:=e0.mod.kin.keeps λb o e=>(e0.bs b o e).1;have lim:s.heap.NoLimit:=e0.mod.nolimit.keeps λb o e=>(e0.bs b o e).1;have hkind:∀y∈ps.zip us,scope.names.lookup y.1=some .local\/(scope.names.lookup y.1=some .cell/\((cellsFrom (s.heap.objs.size+1) scope.names []).lookup y.1).isSome=true):=λ⟨n,v⟩ hy=>by
  rcases S.par n (ZAD hy).1 with q | q
  ·exact .inl q
  ·exact .inr ⟨q,ZAJ _ _ _ (.inl q)⟩
 refine codeAny_call_function hr.depth (KX _ _ lk) rfl S.co S.gen rfl (PySem.W.codeRec_of KX hcd) (hb _ _ _ _ ?_);refine wpAny_newFunctionEnv_cells S.kind hkind λenv he s1 x=>?_;subst he;refine⟨lim.keeps x.toInCall.keep,codeAny_func ?_⟩;obtain⟨t,ht,hq⟩:=hbody A outer s H vs Q E (hr.deeper _) hsp;have I:Inv (Zfk CX P w K mg base N qual scope f cdv A outer s H E) [] (start N vs) H s1:=Zql S hr.hd e0 hl r x;refine ZxG (ht [] s1 (start N vs) H _ I hq) (λfl s' hs=>?_) λe s' hs=>hs;have fin:∀{σ':St} {H':Hp} {v:V} {u:Value},Inv (Zfk CX P w K mg base N qual scope f cdv A outer s H E) [] σ' H' s'->RelV v u->Q v H'->CE outer P w H s Q u s' :=
  λ{σ' H' v u} J rv q=>⟨v,H',J.os,J.bare,J.base,J.hok,rv,q⟩
 cases fl with
 | ret u=>obtain⟨v,σ',H',J,rv,q⟩:=hs;exact fin J rv q
 | next=>obtain⟨σ',H',J,q⟩:=hs;exact fin (v:=V.non) (u:=Zxw) J rfl q
 | brk=>obtain⟨_,_,_,q⟩:=hs;exact Zxy q
 | cont=>obtain⟨_,_,_,q⟩:=hs;exact Zxy q
end L2
namespace L2
open PySem PySem.Spec PyProof.Rows
section
variable{X:Cx}{x:Str}{p pos:Pos}{e:Expr}{es:List Expr}{t:TA}{id T:String}{r:List V->Hp->VK->Prop}
def tCB(r:List V->Hp->VK->Prop)(t:TA):TE:=λσ H Q=>t σ H λvs H1=>r vs H1 Q
theorem ZcO(hc:ZaJ X (.builtin id) r)(hg:Gl X x)(hm:X.mg x=none)(hv:Zxo x=some (.builtin id))(ha:PA X (e::es) t)(hn:x ≠ "__name__":=by decide)(hdb:(x==("__debug__":Str))=false:=by decide)
  (he:ZwJ (e::es) X.env=(false,eval e X.env)::ZwJ es X.env:=by rfl) (hpl:(backTo pos (ZwJ es X.env)).any (·.1)=false:=by rfl):PE X (.Call (.Name x p) (e::es) [] pos) (tCB r t):=by
 intro pins s σ H Q I h;refine Zyw (Zh5 I hg hm hv ?_ hn hdb);exact PyProof.Rows.callWith_builtin1 (thn (ha pos pins s σ H _ I h) λus s1 ⟨vs,H1,I1,r1,q1⟩=>hc pins s1 σ H1 vs us Q I1 r1 q1) he hpl
theorem ZcT(hc:ZaJ X (.type T) r)(hg:Gl X x)(hm:X.mg x=none)(hv:Zxo x=some (.type T))(ha:PA X (e::es) t)(hn:x ≠ "__name__":=by decide)(hdb:(x==("__debug__":Str))=false:=by decide)
  (he:ZwJ (e::es) X.env=(false,eval e X.env)::ZwJ es X.env:=by rfl) (hpl:(backTo pos (ZwJ es X.env)).any (·.1)=false:=by rfl):PE X (.Call (.Name x p) (e::es) [] pos) (tCB r t):=by
 intro pins s σ H Q I h;refine Zyw (Zh5 I hg hm hv ?_ hn hdb);exact Zz5 (thn (ha pos pins s σ H _ I h) λus s1 ⟨vs,H1,I1,r1,q1⟩=>hc pins s1 σ H1 vs us Q I1 r1 q1) he hpl
end
end L2
namespace HT
set_option maxHeartbeats 8000000
open PySem PyProof.Rows
section
open PySem.SeqAt
open PySem.AutoSeq1 (wpAny_loadPart')
open PySem.MeetsSeq PySem.MeetsSeq2 PySem.MeetsSeq3
end
section
variable{prog:Program}{w:World}{A:Around}{E:Value->Shared->Prop}{s:Shared}
def sIx(n d:Nat):Option Int->Nat
 | none=>d
 | some v=>if v<0 then(v+(n:Int)).toNat else min v.toNat n
end
end HT
namespace L2
open PySem PySem.Spec PyProof.Rows
abbrev TO:=St->Hp->(Option Int->Hp->Prop)->Prop
def PO(X:Cx)(e:Option Expr)(t:TO):Prop :=
 ∀(pins:List (Addr × Obj)) (s:Shared) (σ:St) (H:Hp) (Q:Option Int->Hp->Prop),Inv X pins σ H s->t σ H Q ->
  wpAny (model X.prog X.w) X.A (evalPart e X.env) (λu s'=>∃o H',Inv X pins σ H' s'/\IsPart u o/\Q o H') X.xe s
def ZsI:TO:=λ_ H Q=>Q none H
def Zvq(t:TE):TO:=λσ H Q=>t σ H λx H1=>∃i,x=.int i/\Q (some i) H1
section
variable{X:Cx}{e:Expr}{te:TE}{lo hi:Option Expr}{tl th:TO}{pos p2:Pos}
theorem Ztw:PO X none ZsI:=by intro pins s σ H Q I h;rw[evalPart_none];exact Zwz ⟨none,H,I,.none,h⟩
theorem Zts(h:PE X e te):PO X (some e) (Zvq te):=by intro pins s σ H Q I hw;rw[evalPart_some];refine thn (h pins s σ H _ I hw) λu s1 ⟨x,H1,I1,r1,q1⟩=>?_;obtain⟨i,rfl,q⟩:=q1;obtain⟨t,rfl⟩:=r1;exact⟨some i,H1,I1,.int i t,q⟩
def SlR(X:Cx)(r:V->Option Int->Option Int->Hp->VK->Prop):Prop :=
 ∀(pins:List (Addr × Obj)) (s:Shared) (σ:St) (H:Hp) (x:V) (v vl vu:Value) (lo hi:Option Int) (sl:Addr) (Q:VK),Inv X pins σ H s->RelV x v->s.heap.IsSliceOf sl vl vu .none->IsPart vl lo->IsPart vu hi->r x lo hi H Q ->
  ∃T id,typeLookup (.type T) "__getitem__" = pure (some (.builtin id))/\s.TypeIs v T/\wpAny (model X.prog X.w) X.A (getItem v (.ref sl)) (EP X pins σ Q) X.xe s
def tSl(r:V->Option Int->Option Int->Hp->VK->Prop)(te:TE)(tl th:TO):TE:=λσ H Q=>te σ H λx H1=>tl σ H1 λl H2=>th σ H2 λu H3=>r x l u H3 Q
theorem Zsa{r:V->Option Int->Option Int->Hp->VK->Prop}(hr:SlR X r)(he:PE X e te)(hl:PO X lo tl)(hu:PO X hi th):PE X (.Subscript e (.Slice lo hi none p2) pos) (tSl r te tl th):=by intro pins s σ H Q I h;refine Subscript_ (thn (he pins s σ H _ I h) λv s1 ⟨x,H1,I1,r1,q1⟩=>?_);refine wpAny_Slice (thn (hl pins s1 σ H1 _ I1 q1) λvl s2 ⟨l,H2,I2,pl,q2⟩=>thn (hu pins s2 σ H2 _ I2 q2) λvu s3 ⟨u,H3,I3,pu,q3⟩=>?_);rw[evalPart_none];refine Zwz ?_;have I4:Inv X pins σ H3 { s3 with heap:=s3.heap.push { cls:=.type "slice",data:=.fields #[vl,vu,.none] } }:=I3.kept (t':=s3.toks) λb ob q=>ZwB _ q;obtain⟨T,id,hT,ht,hg⟩:=hr pins { s3 with heap:=s3.heap.push { cls:=.type "slice",data:=.fields #[vl,vu,.none] } } σ H3 x v vl vu l u s3.heap.objs.size Q I4 r1 (Heap.IsSliceOf.new ..) pl pu q3;show wpAny (model X.prog X.w) X.A (subscriptTail e (.Slice lo hi none p2) v (.ref s3.heap.objs.size)) (EP X pins σ Q) X.xe { s3 with heap:=s3.heap.push { cls:=.type "slice",data:=.fields #[vl,vu,.none] } };exact tail_any (ops:=[.ref s3.heap.objs.size,v]) ht hT hg (by with_unfolding_all rfl)
def Zl7(xs:List V)(lo hi:Option Int):List V:=(xs.drop (HT.sIx xs.length 0 lo)).take (HT.sIx xs.length xs.length hi-HT.sIx xs.length 0 lo)
theorem Zn9(xs:List V)(lo hi:Option Int):(Zl7 xs lo hi).length<=xs.length:=by unfold Zl7;rw[Zx0,Zy4];omega
end
end L2
namespace L2
open PySem PySem.Spec PyProof.Rows
def ixN(n:Nat)(i:Int):Option Nat:=if 0<=i then(if i<n then some i.toNat else none)else if -(n:Int)<=i then some (i+n).toNat else none
def atI{α:Type}(xs:List α)(i:Int):Option α:=(ixN xs.length i).bind λj=>xs[j]?
theorem Zor{n:Nat}{i:Int}{j:Nat}(h:ixN n i=some j):seqIndex? i n=some j/\j<n/\-(n:Int)<=i/\i<n:=by
 unfold ixN at h
 by_cases h0:0<=i
 ·rw[if_pos h0]at h
  by_cases h1:i<n
  ·rw[if_pos h1]at h
   have e:i.toNat=j:=Zxp h;exact⟨by rw[seqIndex_of h0 h1,e],by omega,by omega,h1⟩
  ·rw[if_neg h1]at h; cases h
 ·rw[if_neg h0]at h
  by_cases h1:-(n:Int)<=i
  ·rw[if_pos h1]at h
   have e:(i+n).toNat=j:=Zxp h;exact⟨by rw[seqIndex_neg (by omega) h1,e],by omega,h1,by omega⟩
  ·rw[if_neg h1]at h; cases h
theorem Zj2{α:Type}{xs:List α}{i:Int}{v:α}(h:atI xs i=some v):∃j,seqIndex? i xs.length=some j/\xs[j]?=some v/\j<xs.length/\-(xs.length:Int)<=i/\i<xs.length:=by
 unfold atI at h;cases e:ixN xs.length i with
 | none=>rw[e]at h; cases h
 | some j=>rw[e]at h;obtain⟨h1,h2,h3,h4⟩:=Zor e;exact⟨j,h1,h,h2,h3,h4⟩
def Zoh(b:Expr):Prop:=∀o i,ZAK b false o i=operate [o,i] (getItem o i)
def IxR(X:Cx)(r:R2):Prop :=
 ∀(value slice:Expr) (pins:List (Addr × Obj)) (s:Shared) (σ:St) (H:Hp) (x y:V) (v u:Value) (Q:VK),Inv X pins σ H s->RelV x v->RelV y u->r x y H Q ->
  ZAK slice false v u=operate [v,u] (getItem v u)->wpAny (model X.prog X.w) X.A (subscriptTail value slice v u) (EP X pins σ Q) X.xe s
def MtR(X:Cx)(id:String)(r:V->List V->Hp->VK->Prop):Prop :=
 ∀(pins:List (Addr × Obj)) (s:Shared) (σ:St) (H:Hp) (x:V) (xs:List V) (v:Value) (us:List Value) (Q:VK),Inv X pins σ H s->RelV x v->Vals xs us->r x xs H Q ->
  wpAny (model X.prog X.w) X.A (call (.builtin id) (v::us)) (EP X pins σ Q) X.xe s
section
variable{X:Cx}{a b:Expr}{ta tb:TE}{pos:Pos}
theorem IxR.or{r r':R2}(h:IxR X r)(h':IxR X r'):IxR X (λx y H Q=>r x y H Q\/r' x y H Q):=by
 intro value slice pins s σ H x y v u Q I rx ry q hs;rcases q with q | q
 ·exact h value slice pins s σ H x y v u Q I rx ry q hs
 ·exact h' value slice pins s σ H x y v u Q I rx ry q hs
theorem Zu8{r:R2}(hr:IxR X r)(ha:PE X a ta)(hb:PE X b tb)(hs:Zoh b):PE X (.Subscript a b pos) (tOp r ta tb):=by intro pins s σ H Q I h;exact Subscript_ (ZrQ ha hb I h λv u s2 x y H2 I2 rx ry q=>hr a b pins s2 σ H2 x y v u Q I2 rx ry q (hs _ _))
def ZuS(K:Zww):R2:=λx y H Q=>∃p xs i v,x=.ref p/\y=.int i/\SqL K H p xs/\atI xs i=some v/\Q v H
def Zuu(K:Zww):R2:=λx y H Q=>∃p xs i v,x=.ref p/\y=.int i/\SqT K H p xs/\atI xs i=some v/\Q v H
def ZuB:R2:=λx y H Q=>∃z i c,x=.str z/\y=.int i/\z.length<=sizeLine/\atI z.cps.toList i=some c/\Q (.str ⟨#[c]⟩) H
theorem ZsV:IxR X (ZuS X.K):=by
 intro value slice pins s σ H x y v u Q I rx ry h hs;obtain⟨p,xs,i,z,rfl,rfl,hq,he,q⟩:=h;cases rx;obtain⟨t,rfl⟩:=ry;obtain⟨its,r,pl,hz⟩:=I.list hq;obtain⟨j,h1,h2,h3,h4,h5⟩:=Zj2 he;obtain⟨w,ew,rw'⟩:=r.get h2;have hl:=r.length;have hn:=ZhM;have fin:EP X pins σ Q w s:=⟨z,H,I,rw',q⟩
 by_cases h0:0<=i
 ·have hj:i.toNat=j:=by
   rw[seqIndex_of h0 h5]at h1;exact Zxp h1
  exact item_listR pl.isList h0 (by omega) (by rw[hj]; simpa using ew) fin hs
 ·have hj:(i+(its.toArray.size:Int)).toNat=j:=by
   rw[seqIndex_neg (by omega) h4]at h1;rw[ZwP,<-hl];exact Zxp h1
  exact subscriptTail_builtinR (x:=w) pl.isList.typeIs slot_list_getitem.lookup
   (wpAny_getItem_list_neg (Q:=λr s'=>r=w/\EP X pins σ Q r s') pl.isList (by omega) (by rw[ZwP]<;>omega) (by omega) (by rw[hj]; simpa using ew) ⟨rfl,fin⟩) hs
theorem ZtO:IxR X (Zuu X.K):=by
 intro value slice pins s σ H x y v u Q I rx ry h hs;obtain⟨p,xs,i,z,rfl,rfl,hq,he,q⟩:=h;cases rx;obtain⟨t,rfl⟩:=ry;obtain⟨its,r,pl,hz⟩:=I.tuple hq;obtain⟨j,h1,h2,h3,h4,h5⟩:=Zj2 he;obtain⟨w,ew,rw'⟩:=r.get h2;have hl:=r.length;have hn:=ZhM;have fin:EP X pins σ Q w s:=⟨z,H,I,rw',q⟩;exact subscriptTail_builtinR (x:=w) pl.typeIs slot_tuple_getitem.lookup
  (getItem_tuple (j:=j) (Q:=λr s'=>r=w/\EP X pins σ Q r s') pl (by omega) (by omega) (by rw[ZwP,<-hl]; exact h1) (by simpa using ew) ⟨rfl,fin⟩) hs
theorem ZtL:IxR X ZuB:=by
 intro value slice pins s σ H x y v u Q I rx ry h hs;obtain⟨z,i,c,rfl,rfl,hz,he,q⟩:=h;obtain⟨t,rfl⟩:=rx;obtain⟨t',rfl⟩:=ry;obtain⟨j,h1,h2,h3,h4,h5⟩:=Zj2 he;have hl:z.cps.toList.length=z.length:=by simp[Str.length]
 rw[hl]at h1 h4 h5;have hn:=ZhM;exact tail_any (typeIs_str s z t) slot_str_getitem.lookup (getItem_str (c:=c) (by have e1:decide (i < -(2 ^ 63:Int))=false:=decide_eq_false (by omega);have e2:decide (i ≥ 2 ^ 63)=false:=decide_eq_false (by omega);rw[e1,e2,Bool.or_false]) (by rw[h1]; simpa using h2) ⟨.str ⟨#[c]⟩,H,I.tok _,⟨_,rfl⟩,q⟩) hs
def rIx(K:Zww):R2:=λx y H Q=>ZuS K x y H Q\/Zuu K x y H Q\/ZuB x y H Q
theorem ZuP:IxR X (rIx X.K):=ZsV.or (ZtO.or ZtL)
theorem Zo6(its:List Value)(n j:Nat)(u:Value):Zzk (·.setIfInBounds j u) { cls:=.type "list",data:=.seq its.toArray n }={ cls:=.type "list",data:=.seq (its.set j u).toArray n }:=by simp[Zzk]
theorem Inv.lst{pins:List (Addr × Obj)}{σ:St}{H:Hp}{s:Shared}{p:Addr}{xs:List V}(I:Inv X pins σ H s)(h:H p=some (.lst xs)) :
  ∃(its:List Value) (n:Nat),Vals xs its/\s.heap.get? p=some { cls:=.type "list",data:=.seq its.toArray n }/\xs.length<=sizeLine:=by
 obtain⟨z,its,n,r,e⟩:=I.hok p _ h;exact⟨its,n,r,e,z⟩
theorem Inv.lstUpd{pins:List (Addr × Obj)}{σ:St}{H:Hp}{s:Shared}{p:Addr}{xs ys:List V}{its its':List Value}{n n':Nat}{f:Obj->Obj}(I:Inv X pins σ H s)(h:H p=some (.lst xs))
  (ho:s.heap.get? p=some { cls:=.type "list",data:=.seq its.toArray n }) (hf:f { cls:=.type "list",data:=.seq its.toArray n }={ cls:=.type "list",data:=.seq its'.toArray n' }) (r:Vals ys its') (hz:ys.length<=sizeLine) (t:Nat) :
  Inv X pins σ (upd H p (.lst ys)) { s with heap:=s.heap.update p f,toks:=t }:=by
 have e:(s.heap.update p f).get? p=some { cls:=.type "list",data:=.seq its'.toArray n' }:=by rw[ZxC f ho (by rw[hf]<;>rfl),hf]
 refine I.write (x:=p) (e:=p) (by rw[h]; trivial) (.inl rfl) (λb u hb q=>(ZxQ _ _ (Zxv hb)).trans q) ⟨_,e⟩ ?_;exact⟨hz,its',n',r,e⟩
def Zvs:V->V->V->Hp->(Hp->Prop)->Prop:=λo i v H Q=>∃p xs k j,o=.ref p/\i=.int k/\H p=some (.lst xs)/\ixN xs.length k=some j/\Q (upd H p (.lst (xs.set j v)))
theorem set_list:Zt6 X Zvs:=by
 intro pins s σ H o i v ov iv u Q I ro ri rv h;obtain⟨p,xs,k,j,rfl,rfl,hp,hj,q⟩:=h;cases ro;obtain⟨t,rfl⟩:=ri;obtain⟨its,n,r,ho,hz⟩:=I.lst hp;obtain⟨h1,h2,h3,h4⟩:=Zor hj;have hl:=r.length;have hn:=ZhM;have I':Inv X pins σ (upd H p (.lst (xs.set j v))) { s with heap:=s.heap.update p (Zzk (·.setIfInBounds j u)) } :=
  I.lstUpd hp ho (Zo6 its n j u) (r.set rv j) (by rw[ZxE]; exact hz) s.toks
 by_cases h0:0<=k
 ·have hk:k.toNat=j:=by
   rw[seqIndex_of h0 h4]at h1;exact Zxp h1
  exact PySem.W.ki_setAt ho h0 (by omega) (by rw[ZwP,<-hl]; exact h4) (by rw[hk]; exact⟨_,I',q⟩)
 ·have hk:(k+(its.toArray.size:Int)).toNat=j:=by
   rw[seqIndex_neg (by omega) h3]at h1;rw[ZwP,<-hl];exact Zxp h1
  exact PySem.W.ki_setBack ho (by omega) (by rw[ZwP,<-hl]; exact h3) (by omega) (by rw[hk]; exact⟨_,I',q⟩)
theorem Zml(lo hi:Option Int)(n:Nat):(Zy9 lo hi none n).1=((HT.sIx n 0 lo:Nat):Int)/\(Zy9 lo hi none n).2.1=((HT.sIx n n hi:Nat):Int)/\(Zy9 lo hi none n).2.2=1:=by
 refine⟨?_,?_,rfl⟩
 ·cases lo with
  | none=>simp[Zy9,HT.sIx]
  | some i =>
   simp only[Zy9,HT.sIx,Option.getD_none,show(1:Int) > 0 by decide,if_true]
   by_cases h:i<0
   ·simp only[h,if_true]<;>omega
   ·simp only[h,if_false]<;>omega
 ·cases hi with
  | none=>simp[Zy9,HT.sIx]
  | some i =>
   simp only[Zy9,HT.sIx,Option.getD_none,show(1:Int) > 0 by decide,if_true]
   by_cases h:i<0
   ·simp only[h,if_true]<;>omega
   ·simp only[h,if_false]<;>omega
theorem Zlb(its:List Value)(lo hi:Option Int):slicePick its.toArray lo hi none=((its.drop (HT.sIx its.length 0 lo)).take (HT.sIx its.length its.length hi-HT.sIx its.length 0 lo)).toArray:=by obtain⟨h1,h2,h3⟩:=Zml lo hi its.toArray.size;unfold slicePick;rw[h1,h2,h3];simp only[sliceRange_one,pick_run,ZwP]<;>rfl
def Zwe(K:Zww):V->Option Int->Option Int->Hp->VK->Prop:=λx lo hi H Q=>∃a xs,x=.ref a/\SqL K H a xs/\∀p,H p=none->Q (.ref p) (upd H p (.lst (Zl7 xs lo hi)))
theorem Ztj:SlR X (Zwe X.K):=by intro pins s σ H x v vl vu lo hi sl Q I rx hs pl pu h;obtain⟨a,xs,rfl,hx,q⟩:=h;cases rx;obtain⟨its,r,ht,hz⟩:=I.list hx;have hlen:=r.length;refine⟨"list",_,slot_list_getitem.lookup,ht.isList.typeIs,?_⟩;refine wpAny_getItem_list_slice ht.isList hs pl pu .none (by simp) ?_ (by rw[ZwP]<;>omega);rw[Zlb,<-hlen];refine⟨.ref s.heap.objs.size,_,I.laid (t':=s.toks) (o:=.lst (Zl7 xs lo hi)) (λb ob q=>ZwB _ q) (ZwH _) ?_,rfl,q _ (I.hok.fresh (ZwH _))⟩;exact⟨Zxs (Zn9 xs lo hi) hz,_,0,(r.drop (HT.sIx xs.length 0 lo)).take (HT.sIx xs.length xs.length hi-HT.sIx xs.length 0 lo),ZwO _ rfl⟩
def ZaK:V->Bool
 | .non=>true
 | .bl _=>true
 | .int _=>true
 | .str _=>true
 | _=>false
def eqV:V->V->Bool
 | .non,.non=>true
 | .bl a,.bl b=>a==b
 | .bl a,.int b=>(if a then 1 else 0)==b
 | .int a,.bl b=>a==(if b then 1 else 0)
 | .int a,.int b=>a==b
 | .str a,.str b=>a==b
 | _,_=>false
theorem Zuo{A:Around}{s:Shared}{y x:V}{u v:Value}(ry:RelV y u)(rx:RelV x v)(fy:ZaK y=true)(fx:ZaK x=true):SeqAt.EqAt A s u v (eqV y x):=by
 cases y with
 | non =>
  cases ry;cases x with
  | non=>cases rx; exact SeqAt.EqAt.same _
  | bl b=>cases rx; exact SeqAt.EqAt.none_bool b
  | int b=>obtain⟨t,rfl⟩:=rx; exact SeqAt.EqAt.none_int b t
  | str b=>obtain⟨t,rfl⟩:=rx; exact SeqAt.EqAt.none_str b t
  | _=>exact absurd (show false=true from fx) Zw9
 | bl a =>
  cases ry;cases x with
  | non=>cases rx; exact SeqAt.EqAt.bool_none a
  | bl b=>cases rx; exact SeqAt.EqAt.bool_bool a b
  | int b=>obtain⟨t,rfl⟩:=rx; exact SeqAt.EqAt.bool_int a b t
  | str b=>obtain⟨t,rfl⟩:=rx; exact SeqAt.EqAt.bool_str a b t
  | _=>exact absurd (show false=true from fx) Zw9
 | int a =>
  obtain⟨t',rfl⟩:=ry;cases x with
  | non=>cases rx; exact SeqAt.EqAt.int_none a t'
  | bl b=>cases rx; exact SeqAt.EqAt.int_bool a t' b
  | int b=>obtain⟨t,rfl⟩:=rx; exact SeqAt.EqAt.int_int a t' b t
  | str b=>obtain⟨t,rfl⟩:=rx; exact ZA5 a t' b t
  | _=>exact absurd (show false=true from fx) Zw9
 | str a =>
  obtain⟨t',rfl⟩:=ry;cases x with
  | non=>cases rx; exact SeqAt.EqAt.str_none a t'
  | bl b=>cases rx; exact SeqAt.EqAt.str_bool a t' b
  | int b=>obtain⟨t,rfl⟩:=rx; exact ZA6 a t' b t
  | str b=>obtain⟨t,rfl⟩:=rx; exact SeqAt.EqAt.str_str a t' b t
  | _=>exact absurd (show false=true from fx) Zw9
 | _=>exact absurd (show false=true from fy) Zw9
def eqU(x:V)(u:Value):Bool:=match u with
 | .none=>eqV .non x
 | .bool b=>eqV (.bl b) x
 | .int i _=>eqV (.int i) x
 | .str z _=>eqV (.str z) x
 | _=>false
theorem ZqV{x y:V}{u:Value}(r:RelV y u)(f:ZaK y=true):eqU x u=eqV y x:=by
 cases y with
 | non=>cases r; rfl
 | bl b=>cases r; rfl
 | int i=>obtain⟨t,rfl⟩:=r; rfl
 | str z=>obtain⟨t,rfl⟩:=r; rfl
 | _=>exact absurd (show false=true from f) Zw9
theorem Zgn{x:V}:∀{xs:List V} {us:List Value},Vals xs us->xs.all ZaK=true->us.any (eqU x)=xs.any λy=>eqV y x
 | _,_,.nil,_=>rfl
 | y::xs,u::us,.cons r t,f=>by rw[ZxH,ZwU]at f;rw[ZyB,ZyB,ZqV r f.1,Zgn t f.2]
theorem Zfd{A:Around}{s:Shared}{x:V}{v:Value}(rx:RelV x v)(fx:ZaK x=true):∀{xs:List V} {us:List Value},Vals xs us->xs.all ZaK=true->∀u∈us,SeqAt.EqAt A s u v (eqU x u)
 | _,_,.nil,_=>λu hu=>by cases hu
 | y::xs,u::us,.cons r t,f=>λu' hu=>by
  rw[ZxH,ZwU]at f;rcases ZwT.mp hu with rfl | hu
  ·rw[ZqV r f.1]; exact Zuo r rx f.1 fx
  ·exact Zfd rx fx t f.2 u' hu
def inV(x:V)(xs:List V):Bool:=xs.any λy=>eqV y x
def rIn(K:Zww)(neg:Bool):R2:=λx y H Q=>∃p xs,y=.ref p/\(SqL K H p xs\/SqT K H p xs)/\ZaK x=true/\xs.all ZaK=true/\Q (.bl (if neg then !inV x xs else inV x xs)) H
theorem Zqk:OpR X (ZxK .In) (rIn X.K false):=by
 intro pins s σ H x y v u Q I rx ry h;obtain⟨p,xs,rfl,hq,fx,fs,q⟩:=h;cases ry;rcases hq with hq | hq
 ·obtain⟨its,r,pl,hz⟩:=I.list hq
  refine SeqAt.in_listAt (eqU x) pl.isList (λw hw=>Zfd rx fx r fs w (by simpa using hw)) ⟨.bl _,H,I,rfl,?_⟩;rw[show its.toArray.any (eqU x)=its.any (eqU x) by simp,Zgn r fs];exact q
 ·obtain⟨its,r,pl,hz⟩:=I.tuple hq
  refine SeqAt.in_tupleAt (eqU x) pl (λw hw=>Zfd rx fx r fs w (by simpa using hw)) ⟨.bl _,H,I,rfl,?_⟩;rw[show its.toArray.any (eqU x)=its.any (eqU x) by simp,Zgn r fs];exact q
theorem Zms:OpR X (ZxK .NotIn) (rIn X.K true):=by
 intro pins s σ H x y v u Q I rx ry h;obtain⟨p,xs,rfl,hq,fx,fs,q⟩:=h;cases ry;rcases hq with hq | hq
 ·obtain⟨its,r,pl,hz⟩:=I.list hq
  refine SeqAt.notIn_listAt (eqU x) pl.isList (λw hw=>Zfd rx fx r fs w (by simpa using hw)) ⟨.bl _,H,I,rfl,?_⟩;rw[show its.toArray.any (eqU x)=its.any (eqU x) by simp,Zgn r fs];exact q
 ·obtain⟨its,r,pl,hz⟩:=I.tuple hq
  refine SeqAt.notIn_tupleAt (eqU x) pl (λw hw=>Zfd rx fx r fs w (by simpa using hw)) ⟨.bl _,H,I,rfl,?_⟩;rw[show its.toArray.any (eqU x)=its.any (eqU x) by simp,Zgn r fs];exact q
theorem Zmm:ZaJ X (.builtin "len") (λxs H Q=>∃p ys,xs=[.ref p]/\(SqL X.K H p ys\/SqT X.K H p ys)/\Q (.int ys.length) H):=by
 intro pins s σ H xs us Q I r h;obtain⟨p,ys,rfl,hq,q⟩:=h;obtain⟨u,rfl,rx⟩:=vals1 r;cases rx;have hn:=ZhM;rcases hq with hq | hq
 ·obtain⟨its,r',pl,hz⟩:=I.list hq
  have hlen:=r'.length;exact Calls.call_len_list pl.isList (by simp only[ZwP]<;>omega) ⟨.int ys.length,H,I.tok _,⟨s.toks+1,by rw[ZwP,hlen]⟩,q⟩
 ·obtain⟨its,r',pl,hz⟩:=I.tuple hq
  have hlen:=r'.length;exact len_tuple pl (by simp only[ZwP]<;>omega) ⟨.int ys.length,H,I.tok _,⟨s.toks+1,by rw[ZwP,hlen]⟩,q⟩
theorem ZaJ.or{f:Value}{r r':List V->Hp->VK->Prop}(h:ZaJ X f r)(h':ZaJ X f r'):ZaJ X f (λxs H Q=>r xs H Q\/r' xs H Q):=by
 intro pins s σ H xs us Q I rs q;rcases q with q | q
 ·exact h pins s σ H xs us Q I rs q
 ·exact h' pins s σ H xs us Q I rs q
theorem Zl5:ZaJ X (.type "list") (λxs H Q=>∃p ys,xs=[.ref p]/\(SqL X.K H p ys\/SqT X.K H p ys)/\∀l,H l=none->Q (.ref l) (upd H l (.lst ys))):=by
 intro pins s σ H xs us Q I r h;obtain⟨p,ys,rfl,hq,q⟩:=h;obtain⟨u,rfl,rx⟩:=vals1 r;cases rx;have fin:∀(its:List Value),Vals ys its->ys.length<=sizeLine->∀(h':Heap) (c':Nat),(∀b o',s.heap.get? b=some o'->h'.get? b=some o') ->
   h'.get? s.heap.objs.size=some { cls:=.type "list",dict:=none,data:=.seq its.toArray c',slots:=#[] }->EP X pins σ Q (.ref s.heap.objs.size) { s with heap:=h' }:=λits r' hz h' c' kp e =>
  ⟨.ref s.heap.objs.size,_,I.laid (t':=s.toks) kp (ZwH _) (show ZW X.prog X.w _ h' _ (.lst ys) from⟨hz,its,c',r',e⟩),rfl,q _ (I.hok.fresh (ZwH _))⟩
 rcases hq with hq | hq
 ·obtain⟨its,r',pl,hz⟩:=I.list hq
  have hlen:=r'.length;obtain⟨o,ho,hc,n,hd⟩:=pl.isList;exact call_list_seq p (.inl rfl) ho hc hd (λh' c' kp e=>fin its r' hz h' c' kp e) (by simp only[ZwP]<;>omega)
 ·obtain⟨its,r',pl,hz⟩:=I.tuple hq
  have hlen:=r'.length;obtain⟨o,ho,hc,n,hd⟩:=pl;exact call_list_seq p (.inr rfl) ho hc hd (λh' c' kp e=>fin its r' hz h' c' kp e) (by simp only[ZwP]<;>omega)
theorem Zle:ZaJ X (.type "tuple") (λxs H Q=>∃p ys,xs=[.ref p]/\((SqL X.K H p ys/\∀l,H l=none->Q (.ref l) (upd H l (.tup ys)))\/(SqT X.K H p ys/\Q (.ref p) H))):=by
 intro pins s σ H xs us Q I r h;obtain⟨p,ys,rfl,h⟩:=h;obtain⟨u,rfl,rx⟩:=vals1 r;cases rx;rcases h with⟨hq,q⟩ | ⟨hq,q⟩
 ·obtain⟨its,r',pl,hz⟩:=I.list hq
  have hlen:=r'.length;refine call_tuple_list pl.isList (λh' kp=>?_) (by simp only[ZwP]<;>omega);have I1:Inv X pins σ H { s with heap:=h' }:=I.kept (t':=s.toks) kp;have I2:Inv X pins σ (upd H h'.objs.size (.tup ys)) { s with heap:=h'.push { cls:=.type "tuple",data:=.seq its.toArray } } :=
   I1.laid (t':=s.toks) (λb o e=>ZwB _ e) (ZwH _) (show ZW X.prog X.w _ _ _ (.tup ys) from⟨hz,its,r',IsTup.new _ _⟩)
  exact⟨.ref h'.objs.size,_,I2,rfl,q _ (I1.hok.fresh (ZwH _))⟩
 ·obtain⟨its,r',pl,hz⟩:=I.tuple hq
  exact call_tuple_same pl ⟨.ref p,H,I,rfl,q⟩
def tyV(K:Zww)(T:String)(x:V)(H:Hp):Prop:=match x with
 | .str _=>T = "str"
 | .int _=>T = "int"
 | .ref p=>(T = "list"/\∃xs,SqL K H p xs)\/(T = "tuple"/\∃o,K.lookup p=some o/\o.cls=.type "tuple"/\o.dict=none) \/
   (T = "dict"/\((∃kvs,H p=some (.dK kvs))\/∃kvs,H p=some (.dT kvs)))\/(T = "set"/\∃S n,H p=some (.set S n))
 | _=>False
theorem Zqu{pins:List (Addr × Obj)}{σ:St}{H:Hp}{s:Shared}{T:String}{x:V}{v:Value}(I:Inv X pins σ H s)(r:RelV x v)(ty:tyV X.K T x H) :
  s.TypeIs v T/\∀a,v=.ref a->∃ob,s.heap.get? a=some ob/\ob.dict=none:=by
 cases x with
 | str z=>obtain⟨t,rfl⟩:=r;cases(show T = "str" from ty);exact⟨typeIs_str s z t,λ_ e=>nomatch e⟩
 | int i=>obtain⟨t,rfl⟩:=r;cases(show T = "int" from ty);exact⟨typeIs_int s i t,λ_ e=>nomatch e⟩
 | ref p =>
  cases r;rcases ty with⟨rfl,xs,hq⟩ | ⟨rfl,o,hk,hc,hd⟩ | ⟨rfl,hk⟩ | ⟨rfl,S,n,hk⟩
  ·obtain⟨its,_,pl,_⟩:=I.list hq
   refine⟨pl.isList.typeIs,λa e=>?_⟩;cases e;obtain⟨o,n,e,c,hd,_⟩:=pl;exact⟨o,e,hd⟩
  ·refine⟨⟨o,I.kIn p o hk,hc⟩,λa e=>?_⟩
   cases e;exact⟨o,I.kIn _ o hk,hd⟩
  ·have z:∃o,s.heap.get? p=some o/\o.ExactDict:=by
    rcases hk with⟨kvs,hk⟩ | ⟨kvs,hk⟩
    ·obtain⟨_,_,_,_,o,_,_,e,ex,_⟩:=I.hok p _ hk
     exact⟨o,e,ex⟩
    ·obtain⟨_,_,_,_,o,_,_,e,ex,_⟩:=I.hok p _ hk
     exact⟨o,e,ex⟩
   obtain⟨o,e,ex⟩:=z;refine⟨⟨o,e,ex.1⟩,λa e2=>?_⟩;cases e2;exact⟨o,e,ex.2.1⟩
  ·obtain⟨o,_,_,_,e,ex,_⟩:=I.hok p _ hk
   refine⟨⟨o,e,ex.1⟩,λa e2=>?_⟩;cases e2;exact⟨o,e,ex.2.1⟩
 | _=>exact Zxy ty
def Zwi(K:Zww)(T:String)(r:V->List V->Hp->VK->Prop)(to:TE):TE:=λσ H Q=>to σ H λx H1=>tyV K T x H1/\r x [] H1 Q
def tBM(K:Zww)(T:String)(r:V->List V->Hp->VK->Prop)(to:TE)(t:TA):TE:=λσ H Q=>to σ H λx H1=>tyV K T x H1/\t σ H1 λxs H2=>r x xs H2 Q
variable{o e:Expr}{es:List Expr}{to:TE}{t:TA}{name:Str}{apos cpos:Pos}{T id:String}{r:V->List V->Hp->VK->Prop}
theorem ZuD(pa:PlainAttrs T)(slot:Slot T name id)(hty:typeOf (.builtin id)=pure (.type "method_descriptor"))(hm:MtR X id r)(ho:PE X o to)
  (hbase:ZyC o name X.env (eval o X.env)=eval o X.env:=by rfl) (hline:(apos.endLine==cpos.line)=true:=by rfl):PE X (.Call (.Attribute o name apos) [] [] cpos) (Zwi X.K T r to):=by
 intro pins s σ H Q I h;refine wpAny_Call_method0_late hbase hline (thn (ho pins s σ H _ I h) λv s1 ⟨x,H1,I1,r1,ty,q1⟩=>?_);obtain⟨h1,h2⟩:=Zqu I1 r1 ty;exact⟨T,id,pa,slot,hty,h1,h2,Zzz rfl (PySem.evalArgs_none (hm pins s1 σ H1 x [] v [] Q I1 r1 .nil q1))⟩
theorem Zlk(pa:PlainAttrs T)(slot:Slot T name id)(hty:typeOf (.builtin id)=pure (.type "method_descriptor"))(hm:MtR X id r)(ho:PE X o to)(ha:PA X (e::es) t)
  (hbase:ZyC o name X.env (eval o X.env)=eval o X.env:=by rfl)
  (hfew:((backTo cpos (ZwJ (e::es) X.env)).all (λx=>!x.1)&&(ZAw cpos (ZzA [] X.env)).all (λx=>x.1.isSome)
   && decide ((e::es).length+([]:List Keyword).length+(if([]:List Keyword).isEmpty then 0 else 1)<30))=true:=by rfl)
  (hline:(apos.endLine==cpos.line)=true:=by rfl) (hs:ZwJ (e::es) X.env=(false,eval e X.env)::ZwJ es X.env:=by rfl) (hplain:(backTo cpos (ZwJ es X.env)).any (·.1)=false:=by rfl) :
  PE X (.Call (.Attribute o name apos) (e::es) [] cpos) (tBM X.K T r to t):=by
 intro pins s σ H Q I h;refine wpAny_Call_method_late hbase hfew hline rfl (thn (ho pins s σ H _ I h) λv s1 ⟨x,H1,I1,r1,ty,q1⟩=>?_);obtain⟨h1,h2⟩:=Zqu I1 r1 ty;refine⟨T,id,pa,slot,hty,h1,h2,?_⟩;have hA:=ha cpos pins s1 σ H1 _ I1 q1;rw[hs]at hA ⊢;refine Zzz (by show(false||(backTo cpos (ZwJ es X.env)).any (·.1))=false; rw[hplain]<;>rfl) (ZAZ ?_);exact thn hA λus s2 ⟨vs,H2,I2,r2,q2⟩=>hm pins s2 σ H2 x vs v us Q I2 r1 r2 q2
end
end L2
namespace L2
open PySem PySem.Spec PyProof.Rows
def MtM(X:Cx)(id:String)(r:V->List V->Hp->VK->Prop):Prop :=
 ∀(pins:List (Addr × Obj)) (s:Shared) (σ:St) (H:Hp) (x:V) (xs:List V) (v:Value) (us:List Value) (Q:VK),Inv X pins σ H s->RelV x v->Vals xs us->r x xs H Q ->
  wpAny (model X.prog X.w) X.A (call (.builtin id) (v::us)) (EP X pins σ Q) X.xe s
theorem Vals.one:∀{x:V} {us:List Value},Vals [x] us->∃u,us=[u]/\RelV x u
 | _,_,.cons r .nil=>⟨_,rfl,r⟩
theorem Vals.zero:∀{us:List Value},Vals [] us->us=[]
 | _,.nil=>rfl
theorem Vals.dropLast{xs:List V}{us:List Value}(h:Vals xs us):Vals xs.dropLast us.dropLast:=by
 induction h with
 | nil=>exact .nil
 | cons r t ih =>
  cases t with
  | nil=>exact .nil
  | cons q t'=>exact .cons r ih
theorem Vals.rep{xs:List V}{us:List Value}(h:Vals xs us):∀k:Nat,Vals (Zw4 k xs).flatten (Zw4 k us).flatten
 | 0=>.nil
 | k+1=>by rw[Zx7,Zx7,ZyF,ZyF];exact Vals.append h (Vals.rep h k)
theorem ZpF{α:Type}(l:List α):l.eraseIdx (l.length-1)=l.dropLast:=by
 induction l with
 | nil=>rfl
 | cons a r ih =>
  cases r with
  | nil=>rfl
  | cons b r =>
   have e:(a::b::r).length-1=((b::r).length-1)+1:=by have h1:(a::b::r).length=r.length+2:=rfl;have h2:(b::r).length=r.length+1:=rfl;omega
   rw[e,List.eraseIdx_cons_succ,ih]
   all_goals rfl
theorem foldl_rep(its:List Value):∀(k:Nat) (acc:List Value),
  List.foldl (λx1 x2=>x1++x2) acc.toArray (Zw4 k its.toArray)=(acc++(Zw4 k its).flatten).toArray
 | 0,acc=>by simp
 | k+1,acc=>by
  have e:acc.toArray++its.toArray=(acc++its).toArray:=by simp
  have e2:(acc++its)++(Zw4 k its).flatten=acc++(Zw4 (k+1) its).flatten:=by rw[Zx7,ZyF,Zx5]
  rw[<-e2,<-foldl_rep its k (acc++its),<-e,Zx7,Zyk]
section
variable{X:Cx}{pins:List (Addr × Obj)}{σ:St}{H:Hp}{s:Shared}{l b:Addr}{xs ys zs:List V}
theorem Inv.lset{its its':List Value}{n:Nat}{f:Array Value->Array Value}{t':Nat}(I:Inv X pins σ H s)(hH:H l=some (.lst xs))
  (e:s.heap.get? l=some { cls:=.type "list",data:=.seq its.toArray n }) (hf:f its.toArray=its'.toArray) (hv:Vals ys its') (hz:ys.length<=sizeLine) :
  Inv X pins σ (upd H l (.lst ys)) { s with heap:=s.heap.update l (Zzk f),toks:=t' }:=by
 have q:=PySem.IsL.update e f;rw[hf]at q;refine I.write (x:=l) (e:=l) (by rw[hH]; exact trivial) (.inl rfl) (λb' u hb hu=>(ZxQ s.heap (Zzk f) (Zxv hb)).trans hu) ⟨_,q⟩ ?_;exact⟨hz,its',_,hv,q⟩
theorem Inv.lnew{its:List Value}{t':Nat}(I:Inv X pins σ H s)(hv:Vals ys its)(hz:ys.length<=sizeLine) :
  Inv X pins σ (upd H s.heap.objs.size (.lst ys)) { s with heap:=s.heap.push { cls:=.type "list",data:=.seq its.toArray },toks:=t' } :=
 I.laid (λ_ _ q=>ZwB _ q) (ZwH _) ⟨hz,its,0,hv,ZwO _ rfl⟩
theorem Inv.fresh(I:Inv X pins σ H s):H s.heap.objs.size=none:=I.hok.fresh (ZwH _)
theorem Inv.lstM(I:Inv X pins σ H s)(hH:H l=some (.lst xs)):xs.length<=sizeLine/\∃(its:List Value) (n:Nat),Vals xs its/\xs.length=its.length/\s.heap.get? l=some { cls:=.type "list",data:=.seq its.toArray n }:=by obtain⟨z,its,n,r,e⟩:=I.hok l _ hH;exact⟨z,its,n,r,r.length,e⟩
theorem ZmZ{n:Nat}(h:n<=sizeLine):ZyK n=false:=by unfold ZyK;exact decide_eq_false (by omega)
end
section
variable{X:Cx}
def ZoK:V->List V->Hp->VK->Prop:=λx vs H Q=>∃l xs y,x=.ref l/\vs=[y]/\H l=some (.lst xs)/\xs.length<sizeLine/\Q .non (upd H l (.lst (xs++[y])))
theorem ZfE:MtM X "list.append" ZoK:=by intro pins s σ H x vs v us Q I rx rv h;obtain⟨l,xs,y,rfl,rfl,hH,hz,q⟩:=h;cases rx;obtain⟨u,rfl,ru⟩:=rv.one;obtain⟨z,its,n,r,hl,e⟩:=I.lstM hH;refine ZAq F.slot_list_append ⟨_,e,rfl⟩ F.entry_list_append (F.args_list_append_2 _ _) (PySem.list_append l its.toArray n u (by rw[ZwP]; omega)) ⟨e,?_⟩;refine⟨.non,_,I.lset (its':=its++[u]) hH e (by simp) (r.append (.cons ru .nil)) ?_,rfl,q⟩;rw[ZwR,Zyf];omega
def Ztv:V->List V->Hp->VK->Prop:=λx vs H Q=>∃l b xs zs,x=.ref l/\vs=[.ref b]/\H l=some (.lst xs)/\H b=some (.lst zs)/\xs.length+zs.length<=sizeLine/\Q .non (upd H l (.lst (xs++zs)))
theorem Zqv:MtM X "list.extend" Ztv:=by
 intro pins s σ H x vs v us Q I rx rv h;obtain⟨l,b,xs,zs,rfl,rfl,hH,hB,hz,q⟩:=h;cases rx;obtain⟨u,rfl,ru⟩:=rv.one;cases ru;obtain⟨z,its,n,r,hl,e⟩:=I.lstM hH;obtain⟨z2,its2,n2,r2,hl2,e2⟩:=I.lstM hB;have hsz:its.toArray.size+its2.toArray.size<=sizeLine:=by rw[ZwP,ZwP]; omega
 have hlong:¬(!its.toArray.isEmpty&&ZyK (its.toArray.size+its2.toArray.size))=true:=by rw[ZmZ hsz,Bool.and_false];exact Zw9
 refine ZAq F.slot_list_extend ⟨_,e,rfl⟩ F.entry_list_extend (F.args_list_extend_2 _ _)
  (AutoSeq1.list_extend_list_list_0 l its.toArray n b its2.toArray n2 hlong (by rw[ZwP]; omega) (by omega)) ⟨e,e2,?_⟩
 refine⟨.non,_,I.lset (its':=its++its2) hH e (by simp) (r.append r2) ?_,rfl,q⟩;rw[ZwR];omega
def ZvT:V->List V->Hp->VK->Prop:=λx vs H Q=>∃l xs y,x=.ref l/\vs=[]/\H l=some (.lst xs)/\xs[xs.length-1]?=some y/\Q y (upd H l (.lst xs.dropLast))
theorem Zuc:MtM X "list.pop" ZvT:=by
 intro pins s σ H x vs v us Q I rx rv h;obtain⟨l,xs,y,rfl,rfl,hH,hy,q⟩:=h;cases rx;have hus:=rv.zero;subst hus;obtain⟨z,its,n,r,hl,e⟩:=I.lstM hH;obtain⟨u,hu,ru⟩:=r.get hy;have hy':its.toArray[its.toArray.size-1]?=some u:=by show its.toArray[its.length-1]?=some u;rw[<-Zxj,<-hl];exact hu
 refine ZAq F.slot_list_pop ⟨_,e,rfl⟩ F.entry_list_pop (F.args_list_pop_1 _) (MeetsSeq.list_pop_last l its.toArray n u hy' (by rw[ZwP]; omega)) ⟨e,?_⟩;refine⟨y,_,I.lset (its':=its.dropLast) hH e ?_ r.dropLast ?_,ru,q⟩
 ·show its.toArray.eraseIdxIfInBounds (its.toArray.size-1)=its.dropLast.toArray
  rw[ZwP,List.eraseIdxIfInBounds_toArray,ZpF]
 ·rw[List.length_dropLast]
  omega
def ZvO:R2:=λx y H Q=>∃l b xs zs,x=.ref l/\y=.ref b/\H l=some (.lst xs)/\H b=some (.lst zs)/\xs.length+zs.length<=sizeLine/\∀p,H p=none->Q (.ref p) (upd H p (.lst (xs++zs)))
theorem ZuX:OpR X (ZzH .Add) ZvO:=by
 intro pins s σ H x y v u Q I rx ry h;obtain⟨l,b,xs,zs,rfl,rfl,hH,hB,hz,q⟩:=h;cases rx;cases ry;obtain⟨z,its,n,r,hl,e⟩:=I.lstM hH;obtain⟨z2,its2,n2,r2,hl2,e2⟩:=I.lstM hB;refine PySem.P.add_list e e2 ?_ (by rw[ZwP,ZwP]; omega);have ea:its.toArray++its2.toArray=(its++its2).toArray:=by simp
 rw[ea];exact⟨.ref _,_,I.lnew (t':=s.toks) (r.append r2) (by rw[ZwR]; omega),rfl,q _ I.fresh⟩
def ZvU:R2:=λx y H Q=>∃l k xs,x=.ref l/\y=.int k/\H l=some (.lst xs)/\-(2 ^ 63)<=k/\k<2 ^ 63/\xs.length*k.toNat<=sizeLine /\
 ∀p,H p=none->Q (.ref p) (upd H p (.lst (Zw4 k.toNat xs).flatten))
theorem len_rep{α:Type}(xs:List α)(k:Nat):(Zw4 k xs).flatten.length=k*xs.length:=by
 induction k with
 | zero=>simp
 | succ k ih=>rw[Zx7,ZyF,ZwR,ih,Nat.succ_mul,Nat.add_comm]
theorem Zuw:OpR X (ZzH .Mult) ZvU:=by
 intro pins s σ H x y v u Q I rx ry h;obtain⟨l,k,xs,rfl,rfl,hH,h1,h2,hz,q⟩:=h;cases rx;obtain⟨t,rfl⟩:=ry;obtain⟨z,its,n,r,hl,e⟩:=I.lstM hH;have hlen:its.toArray.size*k.toNat<=sizeLine:=by rw[ZwP,<-hl]; exact hz
 have hcap:¬its.toArray.size*k.toNat > (2 ^ 63-1) / 8:=by
  have:(sizeLine:Nat)<=(2 ^ 63-1) / 8:=by decide
  omega
 have hfit:¬(!Builtin.List.listFitsIndex k)=true:=by rw[fitsIndex_both h1 h2];exact Zw9
 have hlong:¬ZyK (its.toArray.size*k.toNat)=true:=by rw[ZmZ hlen];exact Zw9
 have hnew:List.foldl (λx1 x2=>x1++x2) #[] (Zw4 (if its.toArray.isEmpty=true then 0 else k.toNat) its.toArray)=(Zw4 k.toNat its).flatten.toArray:=by
  have f0:∀m:Nat,List.foldl (λx1 x2=>x1++x2) #[] (Zw4 m its.toArray)=(Zw4 m its).flatten.toArray:=λm=>by have:=foldl_rep its m [];rw[Zzb]at this;exact this
  rw[f0];cases its with
  | nil=>simp
  | cons a r'=>rw[if_neg (by simp)]
 refine wpAny_binaryOp_repeat_ref (T:="list") (U:="int") (by decide) ⟨_,e,rfl⟩ (λs'=>typeIs_int s' k t) noFill_list_mul F.fills_int_mul F.slot_int_rmul repeat_list F.slot_int_index.lookup
  (ZAq F.slot_int_rmul (typeIs_int s k t) F.entry_int_rmul (F.args_int_rmul_2 _ _) (int___rmul___int_list k t l its.toArray n)
   ⟨e,rfl,⟨_,e,rfl⟩,ZAq F.slot_list_mul ⟨_,e,rfl⟩ F.entry_list_mul (F.args_list_mul_2 _ _) (AutoListH.list___mul___list_int_3 l its.toArray n k t hfit hcap hlong) ⟨e,?_⟩⟩)
 rw[hnew];exact⟨.ref _,_,I.lnew (t':=s.toks) (r.rep k.toNat) (by rw[len_rep,Nat.mul_comm]; exact hz),rfl,q _ I.fresh⟩
end
end L2
namespace L2
open PySem PySem.Spec PyProof.Rows
section
variable{κ:Type}[DecidableEq κ]
def Zap(kvs:List (κ × V))(k:κ):Option V:=(kvs.find? λkv=>decide (kv.1=k)).map (·.2)
def putK(kvs:List (κ × V))(k:κ)(v:V):List (κ × V) :=
 if(kvs.any λkv=>decide (kv.1=k))=true then kvs.map (λkv=>if kv.1=k then(kv.1,v)else kv)else kvs++[(k,v)]
theorem Zdf{p:κ × V}{r:List (κ × V)}{k:κ}(e:p.1=k):Zap (p::r) k=some p.2:=by simp[Zap,Zxn,e]
theorem Zdg{p:κ × V}{r:List (κ × V)}{k:κ}(e:¬p.1=k):Zap (p::r) k=Zap r k:=by simp[Zap,Zxn,e]
theorem ZgV(k:κ):∀kvs:List (κ × V),(kvs.any λkv=>decide (kv.1=k))=(Zap kvs k).isSome
 | []=>rfl
 | p::r=>by
  rw[ZyB]
  by_cases e:p.1=k
  ·simp only[Zdf e,decide_eq_true e,Bool.true_or,Option.isSome_some]
  ·rw[Zdg e,decide_eq_false e,ZAd]; exact ZgV k r
theorem Zf9(kvs:List (κ × V))(k:κ)(v:V):(putK kvs k v).length<=kvs.length+1:=by
 unfold putK;split
 ·rw[Zwy]; omega
 ·rw[ZwR,ZwM,List.length_nil]; omega
theorem Zf8.isSome_eq{o:Option V}{u:Option Value}(r:Zf8 o u):o.isSome=u.isSome:=by
 cases o with
 | none=>cases u with
  | none=>rfl
  | some _=>exact(show False from r).elim
 | some _=>cases u with
  | none=>exact(show False from r).elim
  | some _=>rfl
theorem KV.val{kvs:List (κ × V)}{vs:List (κ × Value)}(r:KV kvs vs)(k:κ):Zf8 (Zap kvs k) (valueAt vs k):=by
 unfold KV at r
 induction r with
 | nil=>exact Zzl
 | @cons p q ps qs h t ih =>
  obtain⟨h1,h2⟩:=h
  by_cases e:p.1=k
  ·have e':q.1=k:=h1.symm.trans e
   have b:valueAt (q::qs) k=some q.2:=by simp[valueAt,Zxn,e']
   rw[Zdf e,b]; exact h2
  ·have e':¬q.1=k:=λz=>e (h1.trans z)
   have b:valueAt (q::qs) k=valueAt qs k:=by simp[valueAt,Zxn,e']
   rw[Zdg e,b]; exact ih
theorem KV.any{kvs:List (κ × V)}{vs:List (κ × Value)}(r:KV kvs vs)(k:κ):(kvs.any λkv=>decide (kv.1=k))=vs.any λkv=>decide (kv.1=k):=by
 unfold KV at r
 induction r with
 | nil=>rfl
 | cons h t ih=>rw[ZyB,ZyB,ih,h.1]
theorem KV.repl{kvs:List (κ × V)}{vs:List (κ × Value)}(r:KV kvs vs)(k:κ){y:V}{u:Value}(ry:RelV y u) :
  KV (kvs.map λkv=>if kv.1=k then(kv.1,y)else kv) (vs.map λkv=>if kv.1=k then(kv.1,u)else kv):=by
 unfold KV at r ⊢
 induction r with
 | nil=>exact .nil
 | @cons p q ps qs h t ih =>
  rw[ZwD,ZwD];refine .cons ?_ ih;obtain⟨h1,h2⟩:=h
  by_cases e:p.1=k
  ·rw[if_pos e,if_pos (h1.symm.trans e)]; exact⟨h1,ry⟩
  ·rw[if_neg e,if_neg (λz=>e (h1.trans z))]; exact⟨h1,h2⟩
theorem KV.put{kvs:List (κ × V)}{vs:List (κ × Value)}(r:KV kvs vs)(k:κ){y:V}{u:Value}(ry:RelV y u):KV (putK kvs k y) (stored vs k u):=by
 unfold putK stored;rw[r.any k]
 by_cases e:(vs.any λkv=>decide (kv.1=k))=true
 ·rw[if_pos e,if_pos e]; exact r.repl k ry
 ·rw[if_neg e,if_neg e]; exact Paired.snoc r ⟨rfl,ry⟩
theorem KV.length{kvs:List (κ × V)}{vs:List (κ × Value)}(r:KV kvs vs):kvs.length=vs.length:=ZyU r
end
theorem Zit{P:Program}{w:World}{k:Key}{u:Value}(r:RelV (kV k) u):(Zak P w).is k u=true:=by
 cases k with
 | inl i=>obtain⟨t,e⟩:=(show ∃t,u=Zye i t from r); subst e; exact Zn6 P w i t
 | inr x=>obtain⟨t,e⟩:=(show ∃t,u=Value.str x t from r); subst e; exact Zn4 P w x t
theorem Zkz{P:Program}{w:World}:∀{ks:List Key} {us:List Value},Vals (ks.map kV) us->ItemsAre (Zak P w) ks us
 | [],_,r=>by rw[Zyx]at r; cases r; exact .nil
 | k::ks,_,r=>by
  rw[ZwD]at r;cases r with
  | cons h t=>exact .cons (Zit h) (Zkz t)
abbrev KT(H:Hp):List (List Key × V)->List (List Key × Addr × Value)->Prop:=Paired λp q=>p.1=q.1/\H q.2.1=some (.tup (p.1.map kV))/\RelV p.2 q.2.2
theorem KT.val{H:Hp}{kvs:List (List Key × V)}{xs:List (List Key × Addr × Value)}(r:KT H kvs xs)(k:List Key):Zf8 (Zap kvs k) ((atKey xs k).map (·.2)):=by
 induction r with
 | nil=>exact Zzl
 | @cons p q ps qs h t ih =>
  obtain⟨h1,_,h2⟩:=h
  by_cases e:p.1=k
  ·have e':q.1=k:=h1.symm.trans e
   have b:atKey (q::qs) k=some q.2:=by simp[atKey,Zxn,e']
   rw[Zdf e,b]; exact h2
  ·have e':¬q.1=k:=λz=>e (h1.trans z)
   have b:atKey (q::qs) k=atKey qs k:=by simp[atKey,Zxn,e']
   rw[Zdg e,b]; exact ih
theorem KT.repl{H:Hp}{kvs:List (List Key × V)}{xs:List (List Key × Addr × Value)}(r:KT H kvs xs)(k:List Key){y:V}{u:Value}(ry:RelV y u) :
  KT H (kvs.map λkv=>if kv.1=k then(kv.1,y)else kv) (xs.map (putAt k u)):=by
 induction r with
 | nil=>exact .nil
 | @cons p q ps qs h t ih =>
  rw[ZwD,ZwD];refine .cons ?_ ih;obtain⟨h1,h2,h3⟩:=h;unfold putAt
  by_cases e:p.1=k
  ·rw[if_pos e,if_pos (h1.symm.trans e)]; exact⟨h1,h2,ry⟩
  ·rw[if_neg e,if_neg (λz=>e (h1.trans z))]; exact⟨h1,h2,h3⟩
theorem KT.put{H:Hp}{kvs:List (List Key × V)}{xs:List (List Key × Addr × Value)}(r:KT H kvs xs)(k:List Key){b:Addr}{y:V}{u:Value}(hb:H b=some (.tup (k.map kV)))(ry:RelV y u) :
  KT H (putK kvs k y) (storedH xs k b u):=by
 have e:(kvs.any λkv=>decide (kv.1=k))=(atKey xs k).isSome:=by rw[ZgV,(r.val k).isSome_eq,ZxV]
 unfold putK storedH;rw[e]
 by_cases q:(atKey xs k).isSome=true
 ·rw[if_pos q,if_pos q]; exact r.repl k ry
 ·rw[if_neg q,if_neg q]; exact Paired.snoc r ⟨rfl,hb,ry⟩
theorem KT.keeps{H H':Hp}{kvs:List (List Key × V)}{xs:List (List Key × Addr × Value)}(r:KT H kvs xs)(ht:∀b ys,H b=some (.tup ys)->H' b=some (.tup ys)):KT H' kvs xs :=
 Paired.mapP r λ_ _ z=>⟨z.1,ht _ _ z.2.1,z.2.2⟩
section
variable{P:Program}{w:World}{H:Hp}{h:Heap}{a:Addr}
theorem ZjH{u:HO}(ok:HOk P w H h)(e:Rd H a u):ZW P w H h a u:=e.ok ok
theorem ZgT{kvs:List (Key × V)}(ok:HOk P w H h)(e:Rd H a (.dK kvs)):kvs.length<=sizeLine/\(a==ZxY)=false/\∃vs,KV kvs vs/\h.DictOf (Zak P w) a vs :=
 show ZW P w H h a (.dK kvs) from ZjH ok e
theorem ZpE{kvs:List (Key × V)}(ok:HOk P w H h)(e:H a=some (.dK kvs)):kvs.length<=sizeLine/\(a==ZxY)=false/\∃vs,KV kvs vs/\h.DictOf (Zak P w) a vs:=ZgT ok (.inl e)
theorem Zgs{ks:List Key}(ok:HOk P w H h)(e:H a=some (.tup (ks.map kV))):(ZzK (Zak P w)).is h ks a:=by obtain⟨_,its,r,o,h1,h2,n,h3⟩:=(show ZW P w H h a (.tup (ks.map kV)) from ok a _ e);exact⟨o,its.toArray,n,h1,h2,h3,by simpa using Zkz r⟩
theorem Ziu{kvs:List (List Key × V)}(ok:HOk P w H h)(e:Rd H a (.dT kvs)):kvs.length<=sizeLine/\(a==ZxY)=false /\
  ∃xs,KT H kvs xs/\h.DictOfH (ZzK (Zak P w)) a xs:=by
 obtain⟨z,y,xs,r,o,es,ep,h1,h2,h3,h4,h5⟩:=(show ZW P w H h a (.dT kvs) from ZjH ok e);refine⟨z,y,xs,r,o,es,ep,h1,h2,h3,h4,λx hx=>?_,h5⟩;have all:∀{l:List (List Key × V)} {m:List (List Key × Addr × Value)},KT H l m->∀x∈m,(ZzK (Zak P w)).is h x.1 x.2.1:=by
  intro l m q
  induction q with
  | nil=>intro x hx; exact nomatch hx
  | @cons p q ps qs hq t ih =>
   intro x hx;rcases ZwT.mp hx with e | hx
   ·subst e
    exact Zgs ok (by rw[<-hq.1]; exact hq.2.1)
   ·exact ih x hx
 exact all r x hx
theorem Zsy{kvs:List (List Key × V)}(ok:HOk P w H h)(e:H a=some (.dT kvs)):kvs.length<=sizeLine/\(a==ZxY)=false /\
  ∃xs,KT H kvs xs/\h.DictOfH (ZzK (Zak P w)) a xs:=Ziu ok (.inl e)
end
def Zcb(H:Hp)(a:Addr)(y:V)(r:Option V):Prop :=
 (∃kvs k,Rd H a (.dK kvs)/\y=kV k/\r=Zap kvs k)\/∃kvs k b,Rd H a (.dT kvs)/\y=.ref b/\H b=some (.tup (k.map kV))/\r=Zap kvs k
def ZgM(H:Hp)(a:Addr)(y v:V)(H':Hp):Prop :=
 (∃kvs k,H a=some (.dK kvs)/\y=kV k/\kvs.length<sizeLine/\H'=upd H a (.dK (putK kvs k v))) \/
 ∃kvs k b,H a=some (.dT kvs)/\y=.ref b/\H b=some (.tup (k.map kV))/\kvs.length<sizeLine/\H'=upd H a (.dT (putK kvs k v))
theorem Zcb.k{H:Hp}{a:Addr}{kvs:List (Key × V)}{k:Key}(e:H a=some (.dK kvs)):Zcb H a (kV k) (Zap kvs k):=.inl ⟨kvs,k,.inl e,rfl,rfl⟩
theorem Zcb.t{H:Hp}{a b:Addr}{kvs:List (List Key × V)}{k:List Key}(e:H a=some (.dT kvs))(eb:H b=some (.tup (k.map kV))):Zcb H a (.ref b) (Zap kvs k):=.inr ⟨kvs,k,b,.inl e,rfl,eb,rfl⟩
theorem ZgM.k{H:Hp}{a:Addr}{kvs:List (Key × V)}{k:Key}{v:V}(e:H a=some (.dK kvs))(hl:kvs.length<sizeLine):ZgM H a (kV k) v (upd H a (.dK (putK kvs k v))):=.inl ⟨kvs,k,e,rfl,hl,rfl⟩
theorem ZgM.t{H:Hp}{a b:Addr}{kvs:List (List Key × V)}{k:List Key}{v:V}(e:H a=some (.dT kvs))(eb:H b=some (.tup (k.map kV)))(hl:kvs.length<sizeLine) :
  ZgM H a (.ref b) v (upd H a (.dT (putK kvs k v))):=.inr ⟨kvs,k,b,e,rfl,eb,hl,rfl⟩
section
variable{X:Cx}{pins:List (Addr × Obj)}{σ:St}{H:Hp}{s:Shared}{a:Addr}{y v:V}{u r:Value}{o:Option V}{A:Around}{E:Value->Shared->Prop}
theorem Inv.big(I:Inv X pins σ H s):ZxY<s.heap.objs.size:=by have h:Zxa<s.heap.objs.size:=(I.mod.glob.keeps I.bk).lt;exact Zyl (by decide) h
theorem Zp7{Q:Value->Shared->Prop}(hu:A.units+1<cLine)(I:Inv X pins σ H s)(g:Zcb H a y (some v))(ry:RelV y u)(h:∀w' s',Inv X pins σ H s'->RelV v w'->Q w' s') :
  wpAny (model X.prog X.w) A (getItem (.ref a) u) Q E s:=by
 rcases g with⟨kvs,k,e,ey,l⟩ | ⟨kvs,k,b,e,ey,eb,l⟩
 ·subst ey
  obtain⟨z,hd,vs,rel,dd⟩:=ZgT I.hok e;obtain⟨w',hw,rw'⟩:=Zf8.some_of (v:=v) (o:=valueAt vs k) (by rw[l]; exact rel.val k);exact wpAny_getItem_of (Zit ry) dd.mapOf hw (h w' _ (I.tok _) rw')
 ·subst ey
  cases(show u=Zxr b from ry);obtain⟨z,hd,xs,rel,dd⟩:=Ziu I.hok e;obtain⟨w',hw,rw'⟩:=Zf8.some_of (v:=v) (o:=(atKey xs k).map (·.2)) (by rw[l]; exact rel.val k);obtain⟨p,hp,hp2⟩:=Zwx.mp hw;refine wpAny_getItem_heap (ZyV hu) (Zgs I.hok eb) dd hp ?_;rw[hp2];exact h w' _ (I.tok _) rw'
theorem Zv9{Q:Value->Shared->Prop}(hu:A.units+1<cLine)(I:Inv X pins σ H s)(g:Zcb H a y o)(ry:RelV y u)(h:∀s',Inv X pins σ H s'->Q (.bool o.isSome) s') :
  wpAny (model X.prog X.w) A (ZxK .In u (.ref a)) Q E s:=by
 rcases g with⟨kvs,k,e,ey,l⟩ | ⟨kvs,k,b,e,ey,eb,l⟩
 ·subst ey
  obtain⟨z,hd,vs,rel,dd⟩:=ZgT I.hok e;refine wpAny_in_of (Zit ry) hd dd.mapOf ?_;rw[<-(rel.val k).isSome_eq,<-l];exact h _ (I.tok _)
 ·subst ey
  cases(show u=Zxr b from ry);obtain⟨z,hd,xs,rel,dd⟩:=Ziu I.hok e;refine wpAny_in_heap (ZyV hu) (Zgs I.hok eb) hd dd ?_;have q:=(rel.val k).isSome_eq;rw[ZxV]at q;rw[<-q,<-l];exact h _ (I.tok _)
theorem Zto{Q:Value->Shared->Prop}(hu:A.units+1<cLine)(I:Inv X pins σ H s)(g:Zcb H a y o)(ry:RelV y u)(h:∀s',Inv X pins σ H s'->Q (.bool (!o.isSome)) s') :
  wpAny (model X.prog X.w) A (ZxK .NotIn u (.ref a)) Q E s:=by
 rcases g with⟨kvs,k,e,ey,l⟩ | ⟨kvs,k,b,e,ey,eb,l⟩
 ·subst ey
  obtain⟨z,hd,vs,rel,dd⟩:=ZgT I.hok e;refine wpAny_notIn_of (Zit ry) hd dd.mapOf ?_;rw[<-(rel.val k).isSome_eq,<-l];exact h _ (I.tok _)
 ·subst ey
  cases(show u=Zxr b from ry);obtain⟨z,hd,xs,rel,dd⟩:=Ziu I.hok e;refine wpAny_notIn_heap (ZyV hu) (Zgs I.hok eb) hd dd ?_;have q:=(rel.val k).isSome_eq;rw[ZxV]at q;rw[<-q,<-l];exact h _ (I.tok _)
theorem Zik{h':Heap}{t':Nat}{ob:HO}(I:Inv X pins σ H s)(mu:Mut (H a))(hs:Zyj a s.heap h')(he:∃q,h'.get? a=some q)(new:ZW X.prog X.w (upd H a ob) h' a ob) :
  Inv X pins σ (upd H a ob) { s with heap:=h',toks:=t' } :=
 I.write (x:=a) (e:=a) mu (.inl rfl) (λb q hb z=>(hs.2 b hb).trans z) he new
theorem Zqg{P:Program}{w:World}{H':Hp}{h':Heap}{kvs:List (Key × V)}{vs:List (Key × Value)}(z:kvs.length<=sizeLine)(hd:(a==ZxY)=false)(rel:KV kvs vs)(dd:h'.DictOf (Zak P w) a vs) :
  ZW P w H' h' a (.dK kvs):=⟨z,hd,vs,rel,dd⟩
theorem Zq3{H':Hp}{Q:Unit->Shared->Prop}(hu:A.units+1<cLine)(I:Inv X pins σ H s)(g:ZgM H a y v H')(ry:RelV y u)(rv:RelV v r)(h:∀s',Inv X pins σ H' s'->Q () s') :
  wpAny (model X.prog X.w) A (setItem (.ref a) u r) Q E s:=by
 rcases g with⟨kvs,k,e,ey,l,eH⟩ | ⟨kvs,k,b,e,ey,eb,l,eH⟩
 ·subst ey eH
  obtain⟨z,hd,vs,rel,dd⟩:=ZpE I.hok e;have hz:vs.length<=sizeLine:=by rw[<-rel.length]; exact z
  have hl:(putK kvs k v).length<=sizeLine:=by have:=Zf9 kvs k v; omega
  refine wpAny_setItem_pairs (hsz:=hz) (Zit ry) dd λh' dd' hs=>h _ ?_;have he:∃q,h'.get? a=some q:=let ⟨q,_,_,hq,_⟩:=dd'; ⟨q,hq⟩
  exact Zik I (by rw[e]; exact Zzl) hs he (Zqg hl hd (rel.put k rv) dd')
 ·subst ey eH
  cases(show u=Zxr b from ry);obtain⟨z,hd,xs,rel,dd⟩:=Zsy I.hok e;have hz:xs.length<=sizeLine:=by rw[<-ZyU rel]; exact z
  have hl:(putK kvs k v).length<=sizeLine:=by have:=Zf9 kvs k v; omega
  refine wpAny_setItem_heap (hsz:=hz) (ZyV hu) (Zgs I.hok eb) dd λh' dd' hs=>h _ ?_;obtain⟨q,es,ep,hq,h2,h3,h4,_,h5⟩:=dd';refine Zik I (by rw[e]; exact Zzl) hs ⟨q,hq⟩ ⟨hl,hd,_,(rel.put k eb rv).keeps λc ys ec=>?_,q,es,ep,hq,h2,h3,h4,h5⟩;rw[Zy (Zsw ec e (λz=>nomatch z))];exact ec
end
section
variable{X:Cx}{pins:List (Addr × Obj)}{σ:St}{H:Hp}{s:Shared}{a:Addr}{kvs:List (Key × V)}{k:Key}{u:Value}{A:Around}{E:Value->Shared->Prop}
theorem Zve{Q:Value->Shared->Prop}(I:Inv X pins σ H s)(e:Rd H a (.dK kvs))(h:∀t s',Inv X pins σ H s'->Q (.int kvs.length t) s'):wpAny (model X.prog X.w) A (call (.builtin "len") [.ref a]) Q E s:=by obtain⟨z,hd,vs,rel,dd⟩:=ZgT I.hok e;refine call_len_dict hd dd (by rw[<-rel.length]; rw[ZxO]at z; omega) ?_;rw[<-rel.length];exact h _ _ (I.tok _)
end
def Zmr(i:Expr):Prop:=∀ov iv,ZAK i false ov iv=operate [ov,iv] (getItem ov iv)
theorem Zs6{prog:Program}{w:World}{A:Around}{E:Value->Shared->Prop}{s:Shared}{env:Env}{value slice:Expr}{pos:Pos}{T id:String}{Q:Value->Shared->Prop}
  (hl:typeLookup (.type T) "__getitem__" = pure (some (.builtin id))) (hs:Zmr slice)
  (h:wpAny (model prog w) A (eval value env) (λo s₁=>wpAny (model prog w) A (eval slice env) (λi s₂=>s₂.TypeIs o T/\wpAny (model prog w) A (getItem o i) Q E s₂) E s₁) E s) :
  wpAny (model prog w) A (eval (.Subscript value slice pos) env) Q E s:=by
 refine Subscript_ (ZxG h (λo s₁ h₁=>ZxG h₁ (λi s₂ h₂=>?_) λ_ _ x=>x) λ_ _ x=>x);obtain⟨hT,h₂⟩:=h₂;unfold subscriptTail;refine Zwv ?_;rw[getitemInPython_of_ne hT.not_modules];refine Zwv (wpAny_specialOf hT hl ?_);have fin:wpAny (model prog w) A (ZAK slice false o i) (λr s₃=>wpAny (model prog w) A (letTemporaryGo value o r >>= λ_=>pure r) Q E s₃) E s₂:=by rw[hs o i];exact wpAny_operating (ZxG h₂ (λr s₃ h₃=>Zwv (wpAny_letTemporaryGo (Zwz h₃))) λ_ _ x=>x)
 first
  | exact Zwz (Zwv fin)
  | exact Zwv (Zwz (Zwv fin))
  | exact Zwv fin
theorem Zn8{X:Cx}{pins:List (Addr × Obj)}{σ:St}{H:Hp}{s:Shared}{a:Addr}{y:V}{o:Option V}(I:Inv X pins σ H s)(g:Zcb H a y o):s.TypeIs (.ref a) "dict":=by
 rcases g with⟨kvs,k,e,_,_⟩ | ⟨kvs,k,b,e,_,_,_⟩
 ·obtain⟨_,_,vs,_,dd⟩:=ZgT I.hok e
  exact dd.typeIs
 ·obtain⟨_,_,xs,_,dd⟩:=Ziu I.hok e
  exact dd.typeIs
def Zvn(td ty:TE):TE:=λσ H Q=>td σ H λx H1=>ty σ H1 λy H2=>∃a v,x=.ref a/\Zcb H2 a y (some v)/\Q v H2
def Zv7(ty td:TE):TE:=λσ H Q=>ty σ H λy H1=>td σ H1 λx H2=>∃a o,x=.ref a/\Zcb H2 a y o/\Q (.bl o.isSome) H2
def Zth(ty td:TE):TE:=λσ H Q=>ty σ H λy H1=>td σ H1 λx H2=>∃a o,x=.ref a/\Zcb H2 a y o/\Q (.bl (!o.isSome)) H2
def Zvd(td ty tv:TE):TS:=λD σ H=>tv σ H λv H1=>td σ H1 λx H2=>ty σ H2 λy H3=>∃a H4,x=.ref a/\ZgM H3 a y v H4/\D.nx σ H4
section
variable{X:Cx}{o i e value:Expr}{pos pos' tpos:Pos}{td ty tv:TE}
theorem Zkf(hu:X.A.units+1<cLine)(ho:PE X o td)(hi:PE X i ty)(hs:Zmr i):PE X (.Subscript o i pos) (Zvn td ty):=by intro pins s σ H Q I h;refine Zs6 PySem.F.slot_dict_getitem.lookup hs (thn (ho pins s σ H _ I h) λu s1 ⟨x,H1,I1,rx,q1⟩=>thn (hi pins s1 σ H1 _ I1 q1) λiv s2 ⟨y,H2,I2,ry,a,v,ex,g,q2⟩=>?_);subst ex;obtain rfl:u=Zxr a:=rx;exact⟨Zn8 I2 g,Zp7 hu I2 g ry λw' s3 I3 rw'=>⟨v,H2,I3,rw',q2⟩⟩
theorem Zuk(hu:X.A.units+1<cLine)(hi:PE X i ty)(ho:PE X o td):PC X .In i o (Zv7 ty td):=by intro pins s σ H Q I h;refine thn (hi pins s σ H _ I h) λiv s1 ⟨y,H1,I1,ry,q1⟩=>thn (ho pins s1 σ H1 _ I1 q1) λu s2 ⟨x,H2,I2,rx,a,ov,ex,g,q2⟩=>?_;subst ex;obtain rfl:u=Zxr a:=rx;exact Zv9 hu I2 g ry λs3 I3=>⟨.bl ov.isSome,H2,I3,rfl,q2⟩
theorem ZkK(hu:X.A.units+1<cLine)(hi:PE X i ty)(ho:PE X o td):PC X .NotIn i o (Zth ty td):=by intro pins s σ H Q I h;refine thn (hi pins s σ H _ I h) λiv s1 ⟨y,H1,I1,ry,q1⟩=>thn (ho pins s1 σ H1 _ I1 q1) λu s2 ⟨x,H2,I2,rx,a,ov,ex,g,q2⟩=>?_;subst ex;obtain rfl:u=Zxr a:=rx;exact Zto hu I2 g ry λs3 I3=>⟨.bl (!ov.isSome),H2,I3,rfl,q2⟩
theorem Zke(hu:X.A.units+1<cLine)(ho:PE X o td)(hi:PE X i ty)(hv:PE X value tv)(hs:ZyJ value (some (.Subscript o i pos')) pos.line X.env=pure false) :
  PS X (.Assign [.Subscript o i pos'] value pos) (Zvd td ty tv):=by
 intro pins s σ H D I h;refine wpAny_Assign_Subscript (thn (hv pins s σ H _ I h) λr s1 ⟨v,H1,I1,rv,q1⟩=>thn (ho pins s1 σ H1 _ I1 q1) λu s2 ⟨x,H2,I2,rx,q2⟩=>thn (hi pins s2 σ H2 _ I2 q2) λiv s3 ⟨y,H3,I3,ry,a,H4,ex,g,q3⟩=>?_) hs;subst ex;obtain rfl:u=Zxr a:=rx;exact Zq3 hu I3 g ry rv λs4 I4=>⟨σ,H4,I4,q3⟩
end
theorem Zm4{P:Program}{w:World}{H:Hp}(h:Heap)(hb:ZxY<h.objs.size):ZW P w H (h.push { cls:=.type "dict",data:=.dict #[] }) h.objs.size (.dK []) :=
 ⟨ZxR _,beq_eq_false_iff_ne.mpr (Zxv (ZwS hb)),[],.nil,Heap.DictOf.new h⟩
theorem Zrw{P:Program}{w:World}{H:Hp}(h:Heap)(hb:ZxY<h.objs.size):ZW P w H (h.push { cls:=.type "dict",data:=.dict #[] }) h.objs.size (.dT []) :=
 ⟨ZxR _,beq_eq_false_iff_ne.mpr (Zxv (ZwS hb)),[],.nil,_,#[],0,ZwO _ rfl,⟨rfl,rfl,rfl⟩,rfl,rfl,Zx4⟩
def Zue:TE:=λ_ H Q=>∀p,H p=none->Q (.ref p) (upd H p (.dK []))
def Zt3:TE:=λ_ H Q=>∀p,H p=none->Q (.ref p) (upd H p (.dT []))
section
variable{X:Cx}{pos:Pos}
theorem Zr4:PE X (.Dict [] [] pos) Zue:=λpins s σ H Q I h=>wpAny_Dict_empty ⟨.ref s.heap.objs.size,_,I.laid (a:=s.heap.objs.size) (o:=.dK []) (t':=s.toks) (λ_ _ q=>ZwB _ q) (ZwH _) (Zm4 s.heap I.big),rfl,h _ (I.hok.fresh (ZwH _))⟩
theorem Zmj:PE X (.Dict [] [] pos) Zt3:=λpins s σ H Q I h=>wpAny_Dict_empty ⟨.ref s.heap.objs.size,_,I.laid (a:=s.heap.objs.size) (o:=.dT []) (t':=s.toks) (λ_ _ q=>ZwB _ q) (ZwH _) (Zrw s.heap I.big),rfl,h _ (I.hok.fresh (ZwH _))⟩
end
def ZmK:List (TE × TE)->St->Hp->(List (V × V)->Hp->Prop)->Prop
 | [],_,H,Q=>Q [] H
 | (tk,tv)::r,σ,H,Q=>tk σ H λx H1=>tv σ H1 λy H2=>ZmK r σ H2 λps H3=>Q ((x,y)::ps) H3
abbrev VV:List (V × V)->List (Value × Value)->Prop:=Paired λp q=>RelV p.1 q.1/\RelV p.2 q.2
def PPs(X:Cx)(pos:Pos)(keys:List (Option Expr))(values:List Expr)(trs:List (TE × TE)):Prop :=
 ∀(pins:List (Addr × Obj)) (s:Shared) (σ:St) (H:Hp) (Q:List (V × V)->Hp->Prop),Inv X pins σ H s->ZmK trs σ H Q ->
  wpAny (model X.prog X.w) X.A (evalPairs (pairTrees keys values X.env pos)) (λvs s'=>∃ps H',Inv X pins σ H' s'/\VV ps vs/\Q ps H') X.xe s
theorem Ztq{X:Cx}{pos:Pos}:PPs X pos [] [] []:=λpins s σ H Q I h=>pairTrees_nil_walk ⟨[],H,I,.nil,h⟩
theorem Zsg{X:Cx}{pos:Pos}{k v:Expr}{ks:List (Option Expr)}{vs:List Expr}{tk tv:TE}{trs:List (TE × TE)}(hk:PE X k tk)(hv:PE X v tv)(hr:PPs X pos ks vs trs) :
  PPs X pos (some k::ks) (v::vs) ((tk,tv)::trs):=λpins s σ H Q I h =>
 pairTrees_cons_walk (thn (hk pins s σ H _ I h) λu s1 ⟨x,H1,I1,rx,q1⟩=>thn (hv pins s1 σ H1 _ I1 q1) λw2 s2 ⟨y,H2,I2,ry,q2⟩=>thn (hr pins s2 σ H2 _ I2 q2) λws s3 ⟨ps,H3,I3,rel,q3⟩=>⟨(x,y)::ps,H3,I3,.cons ⟨rx,ry⟩ rel,q3⟩)
def Zgl(kvs more:List (Key × V)):List (Key × V):=more.foldl (λacc kv=>putK acc kv.1 kv.2) kvs
theorem KV.merge:∀{more:List (Key × V)} {rs:List (Key × Value)} {kvs:List (Key × V)} {vs:List (Key × Value)},KV more rs->KV kvs vs->KV (Zgl kvs more) (merged vs rs):=by
 intro more rs kvs vs r;unfold KV at r
 induction r generalizing kvs vs with
 | nil=>intro q; exact q
 | @cons p q ps qs h t ih =>
  intro r0;have e:KV (putK kvs p.1 p.2) (stored vs q.1 q.2):=by have:=r0.put p.1 h.2;rw[<-h.1]; exact this
  exact ih e
theorem Zhh:∀(more kvs:List (Key × V)),(Zgl kvs more).length<=kvs.length+more.length
 | [],kvs=>by show kvs.length<=kvs.length+0; omega
 | p::r,kvs=>by have h1:=Zhh r (putK kvs p.1 p.2);have h2:=Zf9 kvs p.1 p.2;show(Zgl (putK kvs p.1 p.2) r).length<=_;rw[ZwM]; omega
theorem Zjp{P:Program}{w:World}:∀{kvs:List (Key × V)} {ws:List (Value × Value)},VV (kvs.map λkv=>(kV kv.1,kv.2)) ws->∃rs,Carries (Zak P w) ws rs/\KV kvs rs
 | [],_,r=>by rw[Zyx]at r; cases r; exact⟨[],Zzl,.nil⟩
 | p::kvs,_,r=>by
  rw[ZwD]at r;cases r with
  | @cons a b as bs h t=>obtain⟨rs,c,q⟩:=Zjp (P:=P) (w:=w) t;obtain⟨b1,b2⟩:=b;exact⟨(p.1,b2)::rs,⟨Zit h.1,rfl,c⟩,.cons ⟨rfl,h.2⟩ q⟩
def Zvl(trs:List (TE × TE)):TE:=λσ H Q=>∀p,H p=none->ZmK trs σ (upd H p (.dK [])) λps H2=>H2 p=some (.dK [])/\∃kvs:List (Key × V),ps=kvs.map (λkv=>(kV kv.1,kv.2))/\kvs.length<=15/\Q (.ref p) (upd H2 p (.dK (Zgl [] kvs)))
theorem ZsU{X:Cx}{pos:Pos}{keys:List (Option Expr)}{values:List Expr}{trs:List (TE × TE)}(h:PPs X pos keys values trs)(hall:keys.all (·.isSome)=true)(hl:keys.length=values.length)(h0:keys≠[])
  (h15:keys.length<=15):PE X (.Dict keys values pos) (Zvl trs):=by
 intro pins s σ H Q I q;have hn:=I.hok.fresh (ZwH s.heap.objs.size);have I1:=I.laid (a:=s.heap.objs.size) (o:=.dK []) (h':=s.heap.push { cls:=.type "dict",data:=.dict #[] }) (t':=s.toks) (λ_ _ q=>ZwB _ q) (ZwH _) (Zm4 s.heap I.big);refine wpAny_Dict_walk (knd:=Zak X.prog X.w) hall hl h0 h15 (thn (h pins _ σ _ _ I1 (q _ hn)) λws s2 ⟨ps,H2,I2,rel,e,kvs,ep,lk,q2⟩=>?_);subst ep;obtain⟨rs,c,rk⟩:=Zjp (P:=X.prog) (w:=X.w) rel;obtain⟨z,hd,vs0,r0,dd⟩:=ZpE I2.hok e;cases r0;refine⟨rs,c,dd,λh' dd' hs=>⟨.ref s.heap.objs.size,_,?_,rfl,q2⟩⟩;have hz:(Zgl [] kvs).length<=sizeLine:=by have h1:=Zhh kvs [];rw[List.length_nil]at h1;rw[ZxO]; omega
 have he:∃q,h'.get? s.heap.objs.size=some q:=let ⟨q,_,_,hq,_⟩:=dd'; ⟨q,hq⟩
 exact Zik I2 (by rw[e]; exact Zzl) hs he (Zqg hz hd (rk.merge .nil) dd')
structure M2(X:Cx)(o:Expr)(m:Str)(apos:Pos)(e f:Expr)(cpos:Pos):Prop where
 base:ZyC o m X.env (eval o X.env)=eval o X.env
 few:((backTo cpos (ZwJ [e,f] X.env)).all (λx=>!x.1)&&(ZAw cpos (ZzA [] X.env)).all (λx=>x.1.isSome)
  && decide (([e,f]:List Expr).length+([]:List Keyword).length+(if([]:List Keyword).isEmpty then 0 else 1)<30))=true
 line:(apos.endLine==cpos.line)=true
 trees:backTo cpos (ZwJ [e,f] X.env)=[(false,eval e X.env),(false,eval f X.env)]
def IsD(H:Hp)(a:Addr):Prop:=(∃kvs,Rd H a (.dK kvs))\/∃kvs,Rd H a (.dT kvs)
theorem ZuI{X:Cx}{pins:List (Addr × Obj)}{σ:St}{H:Hp}{s:Shared}{a:Addr}(I:Inv X pins σ H s)(d:IsD H a) :
  s.TypeIs (.ref a) "dict"/\(∀b,Zxr a=.ref b->∃ob,s.heap.get? b=some ob/\ob.dict=none)/\(a==ZxY)=false:=by
 rcases d with⟨kvs,e⟩ | ⟨kvs,e⟩
 ·obtain⟨_,hd,vs,_,dd⟩:=ZgT I.hok e
  refine⟨dd.typeIs,λb q=>?_,hd⟩;cases q;obtain⟨ob,_,_,h1,h2,_⟩:=dd;exact⟨ob,h1,h2.2.1⟩
 ·obtain⟨_,hd,xs,_,dd⟩:=Ziu I.hok e
  refine⟨dd.typeIs,λb q=>?_,hd⟩;cases q;obtain⟨ob,_,_,h1,h2,_⟩:=dd;exact⟨ob,h1,h2.2.1⟩
end L2
namespace Att
open PySem PySem.W PySem.Calls PyProof.Rows
theorem ZjG{P:Params}{h:Heap}:∀(ns:List Int) (vs:List Value),WellAll P h vs (ns.map WData.int)->IntsAre vs ns:=by
 intro ns
 induction ns with
 | nil=>intro vs w;rw[Zyx]at w;cases w;exact .nil
 | cons n ns ih =>
  intro vs w;rw[ZwD]at w;cases w with
  | cons a b=>cases a;exact .cons _ _ (ih _ b)
theorem Zp8{l:OpenLaw}{n:Nat}(hn:l.most=some n){P:Params}{h:Heap}{args:List WData}{vals:List Value}
  (hpre:l.row.toRowW.claim.pre args=true) (hwl:WellAll P h vals args) :
  ∃a vs ns,vals=[Zxr a]/\args=[WData.list (ns.map WData.int)]/\h.get? a=some { cls:=.type "list",data:=.seq vs.toArray }/\IntsAre vs ns/\ns.length<=n:=by
 have hsh:WShape.hasAll [] args [.list .int]=true:=(pre_splitW hpre).1;have hc:l.pre.holds [] { args:=args }=true:=(pre_splitW hpre).2;obtain⟨d,r,rfl,h1,h2⟩:=hasAllW_cons hsh;obtain rfl:=hasAllW_nil h2;obtain⟨xs,rfl,h3⟩:=hasW_list h1;obtain⟨ns,rfl⟩:=items_int h3;have hlen:ns.length<=n:=by
  unfold OpenLaw.pre at hc;have h4:(WTm.not (.lt (.lit (.int (n:Int))) (.len (.arg 0)))).holds [] { args:=[.list (ns.map .int)] }=true:=by have h4:=(holds_andW hc).1;rw[hn]at h4;exact h4
  have h5:=condW_of h4 (w_not (w_lt w_lit (w_len_list (w_arg rfl))));rw[Zwy]at h5;refine Zy5 λq=>?_;have q':(n:Int)<((ns.length:Nat):Int):=by omega
  first
   | (rw[decide_eq_true q']at h5; exact absurd h5 (by decide))
   | (simp at h5; omega)
 cases hwl with
 | cons w1 w2 =>
  cases w2;cases w1 with
  | list ho hall=>exact⟨_,_,ns,rfl,rfl,ho,ZjG ns _ hall,hlen⟩
theorem Zq4(l:OpenLaw)(args:List WData):l.row.toRowW.claim.post args (.bool true) args=true :=
 postW_of (r:=l.row.toRowW) (X:=(true==true))
  (show WShape.has [] (.bool true) .bool=true by first | rfl | decide | simp[WShape.has,WShape.arms,WShape.armsAll])
  (show(WTm.eq .res (.lit (.bool true))).value [] { args:=args,res:=some (.bool true),after:=args }=some (.bool (true==true)) from w_eq_bool (w_res rfl) w_lit) rfl
theorem ZnX{l:OpenLaw}{n:Nat}{q:Program}{loose:List Str}{XP:(Str->Option Value)->Heap->Prop}{YP:World->Heap->Prop}{d:DefRec}
  (hn:l.most=some n) (hdf:d.params.defaults=[])
  (call:∀(w:World) (s₀ s₁:Shared) (mg mb:Str->Option Value) (fa:Addr) (o:Obj) (pm cd doc:Value) (a:Addr) (vs:List Value) (ns:List Int),
   Ground q loose [] XP w s₀ mg mb s₁.heap->YP w s₁.heap ->
   s₁.heap.get? fa=some o->o.data=.func (docDef d.name d.params d.body d.scope pm cd doc)->s₁.heap.CodeRec cd d.name->mg d.name=some (.ref fa) ->
   s₁.heap.get? a=some { cls:=.type "list",data:=.seq vs.toArray }->IntsAre vs ns->ns.length<=n->s₁.gens=#[] ->
   codeAny (model l.prog w) callerA (.call (.ref fa) ⟨[.ref a],[]⟩) (λr s'=>r=.ok (.ret (.bool true))/\OldK s₁.heap s'.heap/\s'.os=s₁.os/\AllBare s'.gens) s₁) :
  WalkO q loose XP YP l.row.toRowW d [] (λf vs=>PySem.call f vs):=by
 intro w s₀ s₁ mg mb G Y fa o pm cd doc dV kV ho hd hcd hD hmg hg args vals as hpre hlay hrd hwl hlo;obtain rfl:dV=.none:=Dflts.none hD hdf;obtain rfl:kV=.none:=Dflts.noKw hD;obtain⟨a,vs,ns,rfl,rfl,hobj,hints,hlen⟩:=Zp8 hn hpre hwl;refine enter_call (Zyv (call w s₀ s₁ mg mb fa o pm cd doc a vs ns G Y ho (fd_plain hd) hcd hmg hobj hints hlen hg) λr s' hq=>?_);obtain⟨rfl,h2,h3,h4⟩:=hq;exact⟨.inl ⟨.bool true,.bool true,[],rfl,λ_=>rfl,.bool true,Zq4 l _,λ_=>⟨List.Pairwise.nil,λ_ hm=>(nomatch hm)⟩⟩,h2,h3,h4⟩
end Att
namespace L2
open PySem PySem.Spec PyProof.Rows
theorem Zky:∀{vs:List Value} {ns:List Int},IntsAre vs ns->Vals (ns.map V.int) vs
 | _,_,.nil=>.nil
 | _,_,.cons n t h=>.cons ⟨t,rfl⟩ (Zky h)
end L2
namespace L2
open PySem PySem.Spec PyProof.Rows
end L2
namespace L2
open PySem PySem.Spec PyProof.Rows
def ZbN(s:Stmt):Arguments:=match s with
 | .FunctionDef _ a _ _ _ _ _ _ _ _=>a
 | _=>{ posonlyargs:=[],args:=[],vararg:=none,kwonlyargs:=[],kw_defaults:=[],kwarg:=none,defaults:=[] }
def Zaw(s:Stmt):List Stmt:=match s with
 | .FunctionDef _ _ b _ _ _ _ _ _ _=>b
 | _=>[]
def Ze(s:Stmt):Scope:=match s with
 | .FunctionDef _ _ _ _ _ _ sc _ _ _=>sc
 | _=>{ kind:=.function,names:=[],isGenerator:=false,isCoroutine:=false }
abbrev CX0:CXT:=λ_ _ _ _ _ _=>False
abbrev E0:XK:=λ_ _ _=>False
theorem Zps{X:Cx}:Passes CX0 X E0:=λ_ _ _ _ _ _ _ h=>h.elim
structure Fun(K:Zww)(x qual:Str)(st:Stmt)(f:Addr)(fd:FuncData):Prop where
 ex:∃(oc:Value) (od:Option Addr) (kV doc pm:Value) (an:Option Addr) (cdv ct:Value) (osl:Array (Option Value)),
  fd=ZxI x qual (ZbN st) (Zaw st) (Ze st) .none kV doc pm an cdv ct/\K.lookup f=some ⟨oc,od,.func fd,osl⟩/\Zyr K cdv qual=true
 kp:ZxP K (.ref f)=true
section
variable{P:Program}{w:World}{K:Zww}{mg:Str->Option Value}{base:Heap}
theorem Fun.ok{x qual:Str}{st:Stmt}{f:Addr}{fd:FuncData}{N ps:List Str}{k:Nat}{sp:Sp}(F:Fun K x qual st f fd)(S:Zu N ps (Ze st))(len:∀vs H Q E,sp vs H Q E->vs.length=ps.length)
  (hbody:∀(cdv:Value) (A:Around) (outer:List Env) (s:Shared) (H:Hp) (vs:List V) (Q:VK) (E:XK),Zao k (A.deeper (envOfC qual (Ze st) s.heap.objs.size f cdv))->sp vs H Q E ->
   ∃t,PSs (Zfk CX0 P w K mg base N qual (Ze st) f cdv A outer s H E).nox (Zaw st) t/\t { nx:=λ_ H'=>Q .non H',rt:=Q } (start N vs) H):ZcQ P w K mg base CX0 (k+1) f fd ps sp:=by
 obtain⟨oc,od,kV,doc,pm,an,cdv,ct,osl,rfl,lk,hcd⟩:=F.ex;refine Zsu lk hcd S len λA outer s H vs Q E hr hsp=>?_;obtain⟨t,h,q⟩:=hbody cdv A outer s H vs Q E hr hsp;exact⟨t,h.nox,q⟩
theorem Fun.binds{x qual:Str}{st:Stmt}{f:Addr}{fd:FuncData}{ps:List Str}(F:Fun K x qual st f fd)
  (h:∀(kV doc pm:Value) (an:Option Addr) (cdv ct:Value) (us:List Value),us.length=ps.length->bindArgs (ZxI x qual (ZbN st) (Zaw st) (Ze st) .none kV doc pm an cdv ct) ⟨us,[]⟩=pure (ps.zip us)):Binds K fd ps []:=by
 obtain⟨oc,od,kV,doc,pm,an,cdv,ct,osl,rfl,lk,hcd⟩:=F.ex;exact .all (h kV doc pm an cdv ct)
theorem ZmU{x qual:Str}{st:Stmt}{f:Addr}{oc:Value}{od an:Option Addr}{osl:Array (Option Value)}{kV doc pm cdv ct:Value}(l:K.lookup f=some ⟨oc,od,.func (ZxI x qual (ZbN st) (Zaw st) (Ze st) .none kV doc pm an cdv ct),osl⟩)
  (c:Zyr K cdv qual=true) (k:ZxP K (.ref f)=true):Fun K x qual st f (ZxI x qual (ZbN st) (Zaw st) (Ze st) .none kV doc pm an cdv ct):=⟨⟨oc,od,kV,doc,pm,an,cdv,ct,osl,rfl,l,c⟩,k⟩
end
theorem ZJ{A:Around}{k:Nat}(hr:Zao k A):A.units+1<cLine:=Nat.lt_of_le_of_lt (Nat.add_le_add_left (by decide:1<=64) _) hr.units
theorem Zi5{A B:Prop}(h:B):if false=true then A else B:=by rw[if_neg Zw9];exact h
theorem Zi9{A B:Prop}(h:A):if true=true then A else B:=by rw[if_pos rfl];exact h
def Zo(H H':Hp):Prop:=∀b o,H b=some o->H' b=some o
theorem Zo.refl(H:Hp):Zo H H:=λ_ _ h=>h
theorem Zo.trans{H H1 H2:Hp}(a:Zo H H1)(b:Zo H1 H2):Zo H H2:=λc o h=>b c o (a c o h)
theorem Zo.free{H H':Hp}(e:Zo H H'){l:Addr}(h:H' l=Option.none):H l=Option.none:=by
 cases q:H l with
 | none=>rfl
 | some o=>rw[e l o q]at h;cases h
theorem Zo.seq{K:Zww}{H H':Hp}{a:Addr}{xs:List V}(e:Zo H H')(h:SqL K H a xs):SqL K H' a xs:=by
 rcases h with(h | ⟨o,h⟩) | h
 ·exact .inl (.inl (e _ _ h))
 ·exact .inl (.inr ⟨o,e _ _ h⟩)
 ·exact .inr h
end L2
namespace L2
open PySem PySem.Spec PyProof.Rows
section
variable{X:Cx}
theorem Zqp:ZaJ X (.builtin "len") (λxs H Q=>∃a kvs,xs=[V.ref a]/\H a=some (.dK kvs)/\Q (.int kvs.length) H):=by intro pins s σ H xs us Q I r h;obtain⟨a,kvs,rfl,ha,q⟩:=h;obtain⟨u,rfl,ru⟩:=vals1 r;cases ru;exact Zve I (.inl ha) λt s' I'=>⟨.int kvs.length,H,I',⟨t,rfl⟩,q⟩
end
end L2
namespace HM
open PySem
abbrev D:=PyData
abbrev Ky:=Sum Int Str
inductive B where
 | pl (d:D)
 | ol (ds:List D)
 | ok (kvs:List (Ky × D))
 | ot (kvs:List (List Ky × D))
 | otl (kvs:List (List Ky × List D))
 | hd (es:List (D × D))
abbrev Env:=List (Option B)
inductive Out where
 | nx (r:Env)
 | rt (d:D)
 | bk (r:Env)
 | ct (r:Env)
abbrev EF:=Env->Option D
abbrev BF:=Env->Option B
abbrev TF:=Env->Option Bool
abbrev IF:=Env->Option (List D)
abbrev AF:=Env->Option (List D)
abbrev SF:=Env->Option Out
@[simp] def big:Nat:=1000000
@[simp] def Zc(i:Nat):EF:=λr=>match r[i]? with
 | some (some (.pl d))=>some d
 | _=>none
@[simp] def Zp(i:Nat):BF:=λr=>match r[i]? with
 | some (some b)=>some b
 | _=>none
@[simp] def bOf(f:EF):BF:=λr=>(f r).map B.pl
def Zaj:Ky->D
 | .inl i=>.int i
 | .inr x=>.str x
def Zi(kvs:List (List Ky × D)):List (D × D):=kvs.map λp=>(.tuple (p.1.map Zaj),p.2)
@[simp] def frz:B->Option D
 | .pl d=>some d
 | .ol ds=>some (.list ds)
 | .ot kvs=>some (.dict (Zi kvs))
 | .hd es=>some (.dict es)
 | _=>none
@[simp] def eOf(f:BF):EF:=λr=>(f r).bind frz
@[simp] def eC(d:D):EF:=λ_=>some d
@[simp] def op2(g:D->D->Option D)(a b:EF):EF:=λr=>match a r with
 | some x=>match b r with
  | some y=>g x y
  | none=>none
 | none=>none
@[simp] def Zey(g:Int->Int->Option D):D->D->Option D
 | .int i,.int j=>g i j
 | _,_=>none
def ZQ(i:Int):Bool:=Nat.blt i.natAbs 18446744073709551616
@[simp] def Zbm(x y:D):Option D:=Zey (λi j=>some (.int (i+j))) x y
@[simp] def Zf3(x y:D):Option D:=Zey (λi j=>some (.int (i-j))) x y
@[simp] def ZcB(x y:D):Option D:=Zey (λi j=>if ZQ i||ZQ j then some (.int (i*j))else none) x y
@[simp] def ZrB(x y:D):Option D:=Zey (λi j=>if 0<j then some (.int (i % j))else none) x y
@[simp] def gLt(x y:D):Option D:=Zey (λi j=>some (.bool (decide (i<j)))) x y
@[simp] def gLe(x y:D):Option D:=Zey (λi j=>some (.bool (decide (i<=j)))) x y
@[simp] def gGt(x y:D):Option D:=Zey (λi j=>some (.bool (decide (j<i)))) x y
def Zcq(d:D):Bool:=d.canLay0&&decide (d.depth<=60)
@[simp] def gEq(a b:D):Option D:=if Zcq a&&Zcq b then some (.bool (Zzm a b))else none
@[simp] def Znh(a b:D):Option D:=match b with
 | .none=>match a with
  | .none=>some (.bool true)
  | _=>some (.bool false)
 | _=>none
@[simp] def ZfK(a b:D):Option D:=match b with
 | .none=>match a with
  | .none=>some (.bool false)
  | _=>some (.bool true)
 | _=>none
@[simp] def ZjF(g g':D->D->Option D)(a b c:EF):EF:=λr=>match a r with
 | some x=>match b r with
  | some y=>match g x y with
   | some (.bool true)=>match c r with
    | some z=>g' y z
    | none=>none
   | some (.bool false)=>some (.bool false)
   | _=>none
  | none=>none
 | none=>none
@[simp] def Zj8(a:EF):EF:=λr=>match a r with
 | some (.bool b)=>some (.bool (!b))
 | _=>none
@[simp] def ZgU(a b:EF):EF:=λr=>match a r with
 | some (.bool true)=>b r
 | some (.bool false)=>some (.bool false)
 | _=>none
@[simp] def eOr(a b:EF):EF:=λr=>match a r with
 | some (.bool true)=>some (.bool true)
 | some (.bool false)=>b r
 | _=>none
@[simp] def tV(a:EF):TF:=λr=>match a r with
 | some (.bool b)=>some b
 | _=>none
@[simp] def Zd3(a:TF):TF:=λr=>(a r).map (!·)
@[simp] def Zf6(a b:TF):TF:=λr=>match a r with
 | some true=>b r
 | some false=>some false
 | none=>none
@[simp] def tOr(a b:TF):TF:=λr=>match a r with
 | some true=>some true
 | some false=>b r
 | none=>none
@[simp] def eIf(c:TF)(a b:EF):EF:=λr=>match c r with
 | some true=>a r
 | some false=>b r
 | none=>none
@[simp] def ZcA:B->Option (List D)
 | .pl (.tuple ds)=>some ds
 | .pl (.list ds)=>some ds
 | .ol ds=>some ds
 | _=>none
def ixN(n:Nat)(i:Int):Option Nat :=
 if 0<=i then(if i<n then some i.toNat else none)else(if -(n:Int)<=i then some (i+n).toNat else none)
def atD(ds:List D)(i:Int):Option D:=match ixN ds.length i with
 | some j=>ds[j]?
 | none=>none
@[simp] def eIx(a:BF)(b:EF):EF:=λr=>match a r with
 | some x=>match ZcA x with
  | some ds=>match b r with
   | some (.int i)=>atD ds i
   | _=>none
  | none=>none
 | none=>none
@[simp] def ZvV:B->Option Nat
 | .pl (.tuple ds)=>some ds.length
 | .pl (.list ds)=>some ds.length
 | .ol ds=>some ds.length
 | .ok kvs=>some kvs.length
 | _=>none
@[simp] def Zbn(a:BF):EF:=λr=>match a r with
 | some x=>(ZvV x).map λ(n:Nat)=>Zxk (n:Int)
 | none=>none
@[simp] def Zag(a:BF):EF:=λr=>match a r with
 | some x=>(ZcA x).map λds=>.tuple ds
 | none=>none
@[simp] def Zgr(a:BF):BF:=λr=>match a r with
 | some x=>(ZcA x).map λds=>.ol ds
 | none=>none
def Zeo:List D->Option (List Bool)
 | []=>some []
 | .bool b::r=>(Zeo r).map (b::·)
 | _::_=>none
@[simp] def Zkh:B->Option (List D)
 | .pl (.list ds)=>some ds
 | .ol ds=>some ds
 | _=>none
@[simp] def Zh3(a:BF):EF:=λr=>match a r with
 | some x=>match Zkh x with
  | some ds=>(Zeo ds).map λbs=>.bool (bs.all id)
  | none=>none
 | none=>none
@[simp] def Zn:AF:=λ_=>some []
@[simp] def Zd(a:EF)(b:AF):AF:=λr=>match a r with
 | some x=>(b r).map (x::·)
 | none=>none
@[simp] def Zgd(a:AF):EF:=λr=>(a r).map λds=>.tuple ds
@[simp] def Zfm(a:AF):BF:=λr=>(a r).map λds=>.ol ds
inductive Ty where
 | bool | int | str | tuple | list | dict
@[simp] def ZhJ:Ty->D->Bool
 | .bool,.bool _=>true
 | .int,.int _=>true
 | .int,.bool _=>true
 | .str,.str _=>true
 | .tuple,.tuple _=>true
 | .list,.list _=>true
 | .dict,.dict _=>true
 | _,_=>false
@[simp] def ZgZ(a:EF)(t:Ty):EF:=λr=>match a r with
 | some (.dict _)=>none
 | some d=>some (.bool (ZhJ t d))
 | none=>none
@[simp] def Zuf(x y:D):Option D:=Zey (λi j=>some (.int (if j > i then j else i))) x y
@[simp] def ZtX(x y:D):Option D:=Zey (λi j=>some (.int (if j<i then j else i))) x y
@[simp] def ZmF(a:EF):EF:=λr=>match a r with
 | some (.int i)=>some (.int i)
 | some (.bool b)=>some (.int (if b then 1 else 0))
 | _=>none
@[simp] def Zmb(a b:BF):BF:=λr=>match a r with
 | some (.ol xs)=>match b r with
  | some (.ol ys)=>if xs.length+ys.length<big then some (.ol (xs++ys))else none
  | _=>none
 | _=>none
@[simp] def Zso(a:BF)(b:EF):BF:=λr=>match a r with
 | some (.ol xs)=>match b r with
  | some (.int k)=>if decide (k.natAbs<1000)&&decide (xs.length<1000)then some (.ol (Zw4 k.toNat xs).flatten)else none
  | _=>none
 | _=>none
def sIx(n d:Nat):Option Int->Nat
 | none=>d
 | some v=>if v<0 then(v+(n:Int)).toNat else min v.toNat n
def cutD(xs:List D)(lo hi:Option Int):List D:=(xs.drop (sIx xs.length 0 lo)).take (sIx xs.length xs.length hi-sIx xs.length 0 lo)
@[simp] def ZpL(a:Option EF)(r:Env):Option (Option Int):=match a with
 | none=>some none
 | some f=>match f r with
  | some (.int i)=>some (some i)
  | _=>none
@[simp] def Zrq(a:BF)(lo hi:Option EF):BF:=λr=>match a r with
 | some x=>match Zkh x with
  | some xs=>match ZpL lo r with
   | some l=>match ZpL hi r with
    | some h=>some (.ol (cutD xs l h))
    | none=>none
   | none=>none
  | none=>none
 | none=>none
def Zat:List D->Option (List Int)
 | []=>some []
 | .int i::r=>(Zat r).map (i::·)
 | _::_=>none
def Zim:List D->Option (List (List Int))
 | []=>some []
 | .tuple ds::r=>match Zat ds with
  | some ns=>(Zim r).map (ns::·)
  | none=>none
 | _::_=>none
def lexLt:List Int->List Int->Bool
 | [],[]=>false
 | [],_::_=>true
 | _::_,[]=>false
 | a::r,b::q=>if a=b then lexLt r q else decide (a<b)
def sortI(ns:List Int):List Int:=ns.mergeSort λa b=>decide (a<=b)
def ZdN(ts:List (List Int)):List (List Int):=ts.mergeSort λa b=>!lexLt b a
def ofInts(ns:List Int):List D:=ns.map λi=>Zxk i
def Zem(ts:List (List Int)):List D:=ts.map λt=>Zxt (ofInts t)
def Zed(ds:List D):Option (List D) :=
 if ds.length<64 then match Zat ds with
  | some ns=>some (ofInts (sortI ns))
  | none=>match Zim ds with
   | some ts=>if ds.length<2||ts.all (λt=>!t.isEmpty)then some (Zem (ZdN ts))else none
   | none=>none
 else none
@[simp] def ZsA:B->Option (List D)
 | .pl (.tuple ds)=>some ds
 | .pl (.list ds)=>some ds
 | .ol ds=>some ds
 | .ok kvs=>some (kvs.map λp=>Zaj p.1)
 | .ot kvs=>some (kvs.map λp=>.tuple (p.1.map Zaj))
 | .otl kvs=>some (kvs.map λp=>.tuple (p.1.map Zaj))
 | _=>none
@[simp] def ZeR(a:BF):BF:=λr=>match a r with
 | some x=>match ZsA x with
  | some ds=>(Zed ds).map λds=>.ol ds
  | none=>none
 | none=>none
def dedup:List Int->List Int->List Int
 | acc,[]=>acc
 | acc,i::r=>if acc.contains i then dedup acc r else dedup (acc++[i]) r
def ZpJ(ns:List Int):Bool:=ns.all λn=>decide (0<=n)&&decide (n<8)
@[simp] def ZeQ(a:BF):BF:=λr=>match a r with
 | some x=>match Zkh x with
  | some ds=>match Zat ds with
   | some ns=>if ZpJ ns then some (.ol (ofInts (sortI (dedup [] ns))))else none
   | none=>none
  | none=>none
 | none=>none
@[simp] def Zm(m:List D->Option D)(a:AF):EF:=λr=>match a r with
 | some ds=>m ds
 | none=>none
@[simp] def Zav(a:BF):IF:=λr=>match a r with
 | some x=>ZcA x
 | none=>none
def Zcp(lo:Int)(n:Nat):List D:=(ZwE n).map λ(k:Nat)=>Zxk (lo+(k:Int))
def okR(j:Int):Bool:=Nat.blt j.natAbs 1000000
@[simp] def ZbJ(a:EF):IF:=λr=>match a r with
 | some (.int j)=>if okR j then some (Zcp 0 j.toNat)else none
 | _=>none
@[simp] def Zi7(i:IF):EF:=λr=>match i r with
 | some ds=>if ds.length<big then some (.tuple ds)else none
 | none=>none
def ZaA(c:TF)(e:EF)(r:Env):List D->Option (List D)
 | []=>some []
 | x::xs=>match c (some (.pl x)::r)with
  | some true=>match e (some (.pl x)::r)with
   | some y=>(ZaA c e r xs).map (y::·)
   | none=>none
  | some false=>ZaA c e r xs
  | none=>none
@[simp] def Zam:TF:=λ_=>some true
@[simp] def ZO(i:IF)(c:TF)(e:EF):BF:=λr=>match i r with
 | some xs=>if xs.length<big then(ZaA c e r xs).map λys=>.ol ys else none
 | none=>none
@[simp] def Zv(a b:SF):SF:=λr=>match a r with
 | some (.nx r')=>b r'
 | some (.rt d)=>some (.rt d)
 | some (.bk r')=>some (.bk r')
 | some (.ct r')=>some (.ct r')
 | none=>none
@[simp] def Zau:SF:=λr=>some (.nx r)
@[simp] def ZhR:SF:=λ_=>none
@[simp] def ZB(a:EF):SF:=λr=>(a r).map Out.rt
@[simp] def Zai(i:Nat)(a:EF):SF:=λr=>(a r).map λd=>.nx (r.set i (some (.pl d)))
@[simp] def ZY(i:Nat)(a:BF):SF:=λr=>(a r).map λb=>.nx (r.set i (some b))
@[simp] def Zjm(i:Nat)(r:Env):Env:=match r[i]? with
 | some (some (.ol ds))=>r.set i (some (.pl (.list ds)))
 | some (some (.ot kvs))=>r.set i (some (.pl (.dict (Zi kvs))))
 | _=>r
@[simp] def Zh1(i:Nat):SF->SF:=λa r=>a (Zjm i r)
@[simp] def ZpB(a:EF):SF:=λr=>(a r).map λ_=>.nx r
@[simp] def sIf(c:TF)(a b:SF):SF:=λr=>match c r with
 | some true=>a r
 | some false=>b r
 | none=>none
def Z5(i:Nat)(body:SF):List D->Env->Option Out
 | [],r=>some (.nx r)
 | x::xs,r=>match body (r.set i (some (.pl x)))with
  | some (.nx r')=>Z5 i body xs r'
  | some (.ct r')=>Z5 i body xs r'
  | some (.bk r')=>some (.nx r')
  | some (.rt d)=>some (.rt d)
  | none=>none
@[simp] def Zbl(i:Nat)(it:IF)(body:SF):SF:=λr=>match it r with
 | some xs=>if xs.length<big then Z5 i body xs r else none
 | none=>none
def Zbq(c:TF)(body:SF):Nat->Env->Option Out
 | 0,_=>none
 | n+1,r=>match c r with
  | some true=>match body r with
   | some (.nx r')=>Zbq c body n r'
   | some (.ct r')=>Zbq c body n r'
   | some (.bk r')=>some (.nx r')
   | some (.rt d)=>some (.rt d)
   | none=>none
  | some false=>some (.nx r)
  | none=>none
@[simp] def Zd5(i:Nat)(a:EF):SF:=λr=>match r[i]? with
 | some (some (.ol ds))=>match a r with
  | some d=>if ds.length<big then some (.nx (r.set i (some (.ol (ds++[d])))))else none
  | none=>none
 | _=>none
@[simp] def Zo9(i:Nat)(k v:EF):SF:=λr=>match v r with
 | some d=>match r[i]? with
  | some (some (.ol ds))=>match k r with
   | some (.int n)=>match ixN ds.length n with
    | some j=>some (.nx (r.set i (some (.ol (ds.set j d)))))
    | none=>none
   | _=>none
  | _=>none
 | none=>none
def putD{k v:Type}[DecidableEq k](kvs:List (k × v))(x:k)(y:v):List (k × v) :=
 if(kvs.any λp=>decide (p.1=x))=true then kvs.map (λp=>if p.1=x then(p.1,y)else p)else kvs++[(x,y)]
def Zj{k v:Type}[DecidableEq k](kvs:List (k × v))(x:k):Option v:=(kvs.find? λp=>decide (p.1=x)).map (·.2)
@[simp] def Zg1:D->Option Ky
 | .int i=>some (.inl i)
 | .str x=>some (.inr x)
 | _=>none
def ZfD:List D->Option (List Ky)
 | []=>some []
 | d::r=>match Zg1 d with
  | some k=>(ZfD r).map (k::·)
  | none=>none
def tkL:D->Option (List Ky)
 | .tuple ds=>ZfD ds
 | _=>none
def Zj9:List D->Option (List Ky)
 | []=>some []
 | .int i::r=>(Zj9 r).map (Zyd i::·)
 | _::_=>none
def Zbb:D->Option (List Ky)
 | .tuple ds=>Zj9 ds
 | _=>none
@[simp] def ZhQ(i:Nat)(k v:EF):SF:=λr=>match v r with
 | some d=>match k r with
  | some x=>match r[i]? with
   | some (some (.ok kvs))=>match Zg1 x with
    | some y=>if kvs.length<big then some (.nx (r.set i (some (.ok (putD kvs y d)))))else none
    | none=>none
   | some (some (.ot kvs))=>match Zbb x with
    | some y=>if kvs.length<big then some (.nx (r.set i (some (.ot (putD kvs y d)))))else none
    | none=>none
   | _=>none
  | none=>none
 | none=>none
@[simp] def fDk:BF:=λ_=>some (.ok [])
@[simp] def fDt:BF:=λ_=>some (.ot [])
@[simp] def Zr6:BF:=λ_=>some (.otl [])
@[simp] def Zm1(k v:EF):BF:=λr=>match k r with
 | some x=>match v r with
  | some d=>match Zg1 x with
   | some y=>some (.ok [(y,d)])
   | none=>none
  | none=>none
 | none=>none
def Zbk{k v:Type}[DecidableEq k](kvs:List (k × List v))(x:k):List (k × List v):=match Zj kvs x with
 | some _=>kvs
 | none=>kvs++[(x,[])]
def ZcR{k v:Type}[DecidableEq k]:List (k × List v)->k->v->List (k × List v)
 | [],_,_=>[]
 | (x,ds)::r,y,d=>if x=y then(x,ds++[d])::r else(x,ds)::ZcR r y d
@[simp] def Zl3(i:Nat)(k v:EF):SF:=λr=>match k r with
 | some x=>match r[i]? with
  | some (some (.otl kvs))=>match Zbb x with
   | some y=>if kvs.length<big then
     match v (r.set i (some (.otl (Zbk kvs y))))with
     | some d=>match Zj (Zbk kvs y) y with
      | some ds=>if ds.length<big then some (.nx (r.set i (some (.otl (ZcR (Zbk kvs y) y d)))))else none
      | none=>none
     | none=>none
    else none
   | none=>none
  | _=>none
 | none=>none
@[simp] def Zkj(i:Nat)(k:EF):SF:=λr=>match k r with
 | some x=>match r[i]? with
  | some (some (.otl kvs))=>match Zbb x with
   | some y=>if kvs.length<big then
     match Zj kvs y with
     | none=>some (.nx (r.set i (some (.otl (kvs++[(y,[])])))))
     | some _=>none
    else none
   | none=>none
  | _=>none
 | none=>none
@[simp] def Zne(i:Nat)(k v:EF):SF:=λr=>match k r with
 | some x=>match r[i]? with
  | some (some (.otl kvs))=>match Zbb x with
   | some y=>match v r with
    | some d=>match Zj kvs y with
     | some ds=>if ds.length<big then some (.nx (r.set i (some (.otl (ZcR kvs y d)))))else none
     | none=>none
    | none=>none
   | none=>none
  | _=>none
 | none=>none
@[simp] def hasB(b:B)(x:D):Option Bool:=match b with
 | .ok kvs=>(Zg1 x).map λy=>(Zj kvs y).isSome
 | .ot kvs=>(Zbb x).map λy=>(Zj kvs y).isSome
 | .otl kvs=>(Zbb x).map λy=>(Zj kvs y).isSome
 | _=>none
@[simp] def ZjN(k:EF)(a:BF):EF:=λr=>match k r with
 | some x=>match a r with
  | some b=>(hasB b x).map λc=>.bool (!c)
  | none=>none
 | none=>none
@[simp] def Zmn(i:Nat)(k:EF):BF:=λr=>match k r with
 | some x=>match r[i]? with
  | some (some (.ok kvs))=>match Zg1 x with
   | some y=>(Zj kvs y).map B.pl
   | none=>none
  | some (some (.ot kvs))=>match Zbb x with
   | some y=>(Zj kvs y).map B.pl
   | none=>none
  | some (some (.otl kvs))=>match Zbb x with
   | some y=>(Zj kvs y).map B.ol
   | none=>none
  | _=>none
 | none=>none
abbrev fnD(t:Nat)(cs:List D):D:=.dict [(.none,.int (Int.ofNat t)),(.none,.list cs)]
@[simp] def ZdM(n:Nat)(ds:List D):Env:=ds.map (λd=>some (B.pl d))++Zw4 (n-ds.length) none
@[simp] def fnOf(k n:Nat)(m:SF):List D->Option D:=λds =>
 if ds.length=k then match m (ZdM n ds)with
  | some (.nx _)=>some .none
  | some (.rt d)=>some d
  | _=>none
 else none
end HM
namespace HM
open PySem
def ZmY(ds:List D)(i:Int):Option Bool:=(Zat ds).map λns=>ns.contains i
@[simp] def ZmV(k:EF)(a:BF):EF:=λr=>match k r with
 | some (.int i)=>match a r with
  | some b=>match ZcA b with
   | some ds=>(ZmY ds i).map λc=>.bool c
   | none=>none
  | none=>none
 | _=>none
@[simp] def Zgo(k:EF)(a:BF):EF:=λr=>match k r with
 | some (.int i)=>match a r with
  | some b=>match ZcA b with
   | some ds=>(ZmY ds i).map λc=>.bool (!c)
   | none=>none
  | none=>none
 | _=>none
end HM
namespace HM
open PySem
@[simp] def Zmt(n:Nat)(c:TF)(body:SF):SF:=λr=>Zbq c body n r
def Zcd(i j:Nat)(body:SF):List D->Env->Option Out
 | [],r=>some (.nx r)
 | .tuple [x,y]::xs,r=>match body ((r.set i (some (.pl x))).set j (some (.pl y)))with
  | some (.nx r')=>Zcd i j body xs r'
  | some (.ct r')=>Zcd i j body xs r'
  | some (.bk r')=>some (.nx r')
  | some (.rt d)=>some (.rt d)
  | none=>none
 | _,_=>none
@[simp] def Zlj(i j:Nat)(it:IF)(body:SF):SF:=λr=>match it r with
 | some xs=>if xs.length<big then Zcd i j body xs r else none
 | none=>none
end HM
namespace HM
open PySem
end HM
namespace HM
open PySem
def ZeA:List (D × D)->Option (List (List Ky × D))
 | []=>some []
 | (k,v)::r=>match tkL k with
  | some ks=>(ZeA r).map ((ks,v)::·)
  | none=>none
@[simp] def ZjX:B->Option (List (List Ky × D))
 | .ot kvs=>some kvs
 | .pl (.dict es)=>ZeA es
 | .hd es=>ZeA es
 | _=>none
@[simp] def Zm2(k:EF)(a:BF):EF:=λr=>match k r with
 | some x=>match a r with
  | some b=>match ZjX b with
   | some kvs=>(Zbb x).map λy=>.bool (Zj kvs y).isSome
   | none=>none
  | none=>none
 | none=>none
@[simp] def Zdj(k:EF)(a:BF):EF:=λr=>match k r with
 | some x=>match a r with
  | some b=>match ZjX b with
   | some kvs=>(Zbb x).map λy=>.bool (!(Zj kvs y).isSome)
   | none=>none
  | none=>none
 | none=>none
@[simp] def Za6(a:BF)(k:EF):EF:=λr=>match a r with
 | some b=>match ZjX b with
  | some kvs=>match k r with
   | some x=>match Zbb x with
    | some y=>Zj kvs y
    | none=>none
   | none=>none
  | none=>none
 | none=>none
@[simp] def ZjK:D->Bool
 | .none=>true
 | .bool _=>true
 | .int _=>true
 | .str _=>true
 | _=>false
@[simp] def Zpg(f:BF):EF:=λr=>(f r).bind frz
theorem ZsK(ks:List Ky):tkL (.tuple (ks.map Zaj))=some ks:=by
 show ZfD (ks.map Zaj)=some ks
 induction ks with
 | nil=>rfl
 | cons k ks ih=>show(match Zg1 (Zaj k)with | some q=>(ZfD (ks.map Zaj)).map (q::·) | none=>none)=_;rw[ih];cases k<;>rfl
theorem dec_enc(kvs:List (List Ky × D)):ZeA (Zi kvs)=some kvs:=by
 induction kvs with
 | nil=>rfl
 | cons p kvs ih=>obtain⟨k,d⟩:=p;show(match tkL (.tuple (k.map Zaj))with | some ks=>(ZeA (Zi kvs)).map ((ks,d)::·) | none=>none)=_;rw[ZsK,ih];rfl
end HM
namespace HM
open PySem
@[simp] def Zjv(a:BF):EF:=λr=>match a r with
 | some x=>match Zkh x with
  | some ds=>match Zat ds with
   | some ns=>ns.max?.map λi=>Zxk i
   | none=>none
  | none=>none
 | none=>none
end HM
namespace HM
open PySem
end HM
namespace HM
open PySem
@[simp] def Zir(i:Nat)(f:BF):SF:=λr=>match r[i]? with
 | some (some (.ol ds))=>match f r with
  | some (.ol es)=>if ds.length+es.length<big then some (.nx (r.set i (some (.ol (ds++es)))))else none
  | _=>none
 | _=>none
@[simp] def ZrU(i j:Nat):SF:=λr=>match r[j]? with
 | some (some (.ol ds))=>match ds[ds.length-1]? with
  | some d=>some (.nx ((r.set j (some (.ol ds.dropLast))).set i (some (.pl d))))
  | none=>none
 | _=>none
@[simp] def ZhO(m:List D->Option D)(a:AF):BF:=λr=>match a r with
 | some ds=>match m ds with
  | some (.list ys)=>some (.ol ys)
  | _=>none
 | none=>none
def Za5:Option B->Bool
 | some (.hd _)=>true
 | _=>false
@[simp] def Zec(i:Nat)(g:SF):SF:=λr=>match r[i]? with
 | some (some (.pl (.dict es)))=>if r.all (λq=>!Za5 q)then match g (r.set i (some (.hd es)))with
   | some (.nx r')=>match r'[i]? with
    | some (some (.hd es'))=>if(r'.set i none).all (λq=>!Za5 q)then some (.nx (r'.set i (some (.pl (.dict es')))))else none
    | _=>none
   | some (.rt d)=>some (.rt d)
   | _=>none
  else none
 | _=>g r
@[simp] def ZaS(i:Nat):IF:=λr=>match r[i]? with
 | some (some (.pl (.tuple ds)))=>some ds
 | some (some (.pl (.list ds)))=>some ds
 | some (some (.hd es))=>(ZeA es).map λkvs=>kvs.map λp=>.tuple (p.1.map Zaj)
 | _=>none
end HM
namespace HM
open PySem
end HM
namespace HM
open PySem
end HM
namespace HM
open PySem
abbrev AP:=Nat->List D->List D->Option D
def Zj1:D->Option (Nat × List D)
 | .dict [(.none,.int (Int.ofNat t)),(.none,.list cs)]=>some (t,cs)
 | _=>none
@[simp] def Zfx(ap:AP)(i:Nat)(a:AF):EF:=λr=>match r[i]? with
 | some (some (.pl d))=>match Zj1 d with
  | some (t,cs)=>match a r with
   | some ds=>ap t cs ds
   | none=>none
  | none=>none
 | _=>none
def noF:Nat->D->Bool
 | _,.none=>true
 | _,.bool _=>true
 | _,.int _=>true
 | _,.str _=>true
 | n+1,.tuple ds=>ds.all (noF n)
 | n+1,.list ds=>ds.all (noF n)
 | n+1,.dict es=>es.all λp=>(match p.1 with | .none=>false | _=>true)&&noF n p.2
 | _,_=>false
def Zjy:List Nat->Env->Option (List D)
 | [],_=>some []
 | i::is,r=>match r[i]? with
  | some (some (.pl d))=>(Zjy is r).map (d::·)
  | _=>none
@[simp] def Zg7(m:List D->Option D)(t:Nat)(is:List Nat)(a:EF):EF:=λr=>match a r with
 | some d1=>match Zjy is r with
  | some cs=>if cs.all (noF 20)then match m [d1,fnD t cs]with
    | some d=>if noF 20 d then some d else none
    | none=>none
   else none
  | none=>none
 | none=>none
def Zjx(n m:Nat)(e:EF):List D->List D->Option D:=λcs ds=>if ds.length=n/\cs.length=m/\ds.all (noF 20)=true then e ((ds++cs).map λd=>some (B.pl d))else none
@[simp] def ZeO(a:BF):EF:=λr=>match a r with
 | some x=>match Zkh x with
  | some ds=>match Zat ds with
   | some ns=>some (match ns.min? with | some i=>.int i | none=>.none)
   | none=>none
  | none=>none
 | none=>none
abbrev NF:=Env->Option (List (List Ky × D))
@[simp] def ZiY(a:SF)(m:NF):NF:=λr=>match a r with
 | some (.nx r')=>m r'
 | _=>none
@[simp] def ZmB(j:Nat):NF:=λr=>match r[j]? with
 | some (some (.ot kvs))=>some kvs
 | _=>none
def newOf(k n:Nat)(m:NF):List D->Option (List (List Ky × D)):=λds=>if ds.length=k then m (ZdM n ds)else none
@[simp] def Zia(m:List D->Option (List (List Ky × D)))(a:AF):BF:=λr=>match a r with
 | some ds=>match m ds with
  | some kvs=>if kvs.all (λp=>ZjK p.2)then some (.ot kvs)else none
  | none=>none
 | none=>none
end HM
namespace HP
open PySem PySem.Spec PyProof.Rows L2
@[reducible] def ZcE(H':Hp)(b:Addr):HO->Prop
 | .tbl _=>∃ps',H' b=some (.tbl ps')
 | o=>H' b=some o
def Zae(H H':Hp):Prop:=∀b o,H b=some o->ZcE H' b o
theorem ZcE.of{H':Hp}{b:Addr}{o:HO}(h:H' b=some o):ZcE H' b o:=by cases o<;>first | exact h | exact⟨_,h⟩
theorem ZcE.ex{H':Hp}{b:Addr}{o:HO}(h:ZcE H' b o):∃u,H' b=some u:=by cases o<;>first | exact⟨_,h⟩ | (obtain⟨ps,e⟩:=h; exact⟨_,e⟩)
theorem ZcE.no{H':Hp}{b:Addr}{o:HO}(h:ZcE H' b o)(n:∀ps,o≠.tbl ps):H' b=some o:=by cases o<;>first | exact h | exact absurd rfl (n _)
theorem Zae.of{H H':Hp}(s:Zo H H'):Zae H H':=λb o h=>.of (s b o h)
theorem Zae.refl(H:Hp):Zae H H:=.of (.refl H)
theorem Zae.trans{H H1 H2:Hp}(a:Zae H H1)(b:Zae H1 H2):Zae H H2:=λc o h=>by have h1:=a c o h;cases o<;>first | exact b c _ h1 | (obtain⟨ps,e⟩:=h1; exact(show ∃ps',H2 c=some (.tbl ps') from b c _ e))
theorem Zae.free{H H':Hp}(e:Zae H H'){l:Addr}(h:H' l=none):H l=none:=by
 cases q:H l with
 | none=>rfl
 | some o=>obtain⟨u,z⟩:=(e l o q).ex;rw[h]at z; cases z
theorem Zae.back{H H':Hp}(e:Zae H H'){l:Addr}{o u:HO}(h:H l=some o)(h':H' l=some u)(n:∀ps,u≠.tbl ps):o=u:=by have z:=e l o h;cases o<;>first | (obtain⟨ps,q⟩:=z; rw[h']at q; cases q; exact absurd rfl (n _)) | (have z:H' l=some _:=z; rw[h']at z; cases z; rfl)
def Zck(H:Hp):Hp:=λb=>match H b with
 | some (.tbl _)=>none
 | x=>x
def nt:HO->Bool
 | .tbl _=>false
 | _=>true
def NoT(F:Hp):Prop:=∀b o,F b=some o->nt o=true
theorem ZbZ{H:Hp}{b:Addr}{o:HO}(h:H b=some o)(n:nt o=true):Zck H b=some o:=by unfold Zck; rw[h];cases o<;>first | rfl | cases n
theorem ZfC{H:Hp}{b:Addr}{o:HO}(h:Zck H b=some o):H b=some o/\nt o=true:=by
 unfold Zck at h;split at h
 ·cases h
 ·rename_i n
  refine⟨h,?_⟩;cases o<;>first | rfl | exact absurd h (n _)
theorem ZkH{H:Hp}:Zo (Zck H) H:=λb o h=>(ZfC h).1
theorem NoT.drop{H:Hp}:NoT (Zck H):=λb o h=>(ZfC h).2
theorem NoT.sub{F H:Hp}(n:NoT F)(s:Zo F H):Zo F (Zck H):=λb o h=>ZbZ (s b o h) (n b o h)
theorem NoT.upd{F:Hp}{p:Addr}{o:HO}(n:NoT F)(h:nt o=true):NoT (upd F p o):=λb u z=>by
 by_cases hb:b=p
 ·subst hb; rw[ZA]at z; cases z; exact h
 ·rw[Zy hb]at z; exact n b u z
theorem Zae.ntb{H H':Hp}(s:Zae H H'){b:Addr}{o:HO}(h:H b=some o)(n:nt o=true):H' b=some o:=(s b o h).no λps z=>by subst z; cases n
def Dk(vvs:List (List Key × V))(u:HO):Prop:=u=.dT vvs\/∃o,u=.frz o (.dT vvs)
def sw(a:Addr)(ob:HO)(G:Hp):Hp:=λb=>if b=a then(G a).map (λ_=>ob)else G b
class FX where
 tl:List (Addr × Str)
 fv:Nat->List PyData->Hp->Addr->Prop
 sw:∀{t:Nat} {cs:List PyData} {F:Hp} {a b:Addr} {ob:HO} {vvs:List (List Key × V)},(∀u,F a=some u->Dk vvs u)->Dk vvs ob->fv t cs F b->fv t cs (sw a ob F) b
 drop:∀{t:Nat} {cs:List PyData} {F:Hp} {a:Addr},fv t cs F a->fv t cs (Zck F) a
 mono:∀{t:Nat} {cs:List PyData} {F F':Hp} {a:Addr},fv t cs F a->Zo F F'->fv t cs F' a
variable[FX]
def Za1(a:Addr)(o:Obj):HO:=.ext λh=>h.get? a=some o
def ZjZ(o:Obj)(q:Str):Prop:=∃vs t,o.data=.fields vs/\vs[1]?=some (.str q t)
def Tb(H:Hp):Prop:=∀P q,(P,q)∈FX.tl->∃ps,H P=some (.tbl ps)/\TriplesOk ps.toList/\∀pos c,Zz7 pos ps.toList=some c->∃a o,c=.ref a/\H a=some (Za1 a o)/\ZjZ o q
def Zkc:HO->Bool
 | .lst _=>true
 | .dK _=>true
 | .dT _=>true
 | _=>false
def te:HO->Bool
 | .tbl _=>true
 | .ext _=>true
 | _=>false
theorem Zq0{o:HO}(h:Zkc o=true)(h':te o=true):False:=by cases o<;>simp_all [Zkc,te]
theorem Tb.keep{H H':Hp}(t:Tb H)(k:∀a o,H a=some o->te o=true->H' a=some o):Tb H':=λP q hP=>by obtain⟨ps,h1,h2,h3⟩:=t P q hP;refine⟨ps,k _ _ h1 rfl,h2,λpos c hc=>?_⟩;obtain⟨a,o,e1,e2,e3⟩:=h3 pos c hc;exact⟨a,o,e1,k _ _ e2 rfl,e3⟩
theorem Dk.te{vvs:List (List Key × V)}{u:HO}(h:Dk vvs u):te u=false:=by rcases h with h | ⟨o,h⟩<;>subst h<;>rfl
theorem Dk.ntt{vvs:List (List Key × V)}{u:HO}(h:Dk vvs u):nt u=true:=by rcases h with h | ⟨o,h⟩<;>subst h<;>rfl
theorem Tb.sw{G:Hp}{a:Addr}{ob:HO}{vvs:List (List Key × V)}(hG:∀u,G a=some u->Dk vvs u)(t:Tb G):Tb (HP.sw a ob G):=t.keep λb o z ht=>by
 have hb:b≠a:=λe=>by subst e; rw[(hG o z).te]at ht; cases ht
 unfold HP.sw; rw[if_neg hb]; exact z
theorem Tb.unsw{G:Hp}{a:Addr}{ob:HO}{vvs:List (List Key × V)}(hob:Dk vvs ob)(t:Tb (HP.sw a ob G)):Tb G:=t.keep λb o z ht=>by
 unfold HP.sw at z;split at z
 ·obtain⟨u,_,e⟩:=Zwx.mp z
  subst e; rw[hob.te]at ht; cases ht
 ·exact z
theorem ZcE.cong{H H':Hp}{b:Addr}{o:HO}(e:H' b=H b)(h:ZcE H b o):ZcE H' b o:=by unfold ZcE at h ⊢; rw[e]; exact h
theorem Zae.sw{H0 H:Hp}{a:Addr}{ob:HO}(s:Zae H0 H):Zae (HP.sw a ob H0) (HP.sw a ob H):=λb o z=>by
 by_cases hb:b=a
 ·subst hb
  unfold HP.sw at z;rw[if_pos rfl]at z;obtain⟨u,h1,h2⟩:=Zwx.mp z;obtain⟨w,hw⟩:=(s _ _ h1).ex;refine .of ?_;unfold HP.sw;rw[if_pos rfl,hw,h2.symm]; rfl
 ·unfold HP.sw at z
  rw[if_neg hb]at z;refine(s b o z).cong ?_;unfold HP.sw; rw[if_neg hb]
theorem Tb.same{H H':Hp}(t:Tb H)(s:Zo H H'):Tb H':=t.keep λa o h _=>s a o h
theorem Zis{F F':Hp}{a:Addr}{u:HO}(r:Rd F a u)(s:Zo F F'):Rd F' a u:=r.imp (λh=>s _ _ h) λ⟨o,h⟩=>⟨o,s _ _ h⟩
def Zv1(K:Zww)(a:Addr)(vs:List V):Prop:=∃(o:Obj) (its:Array Value) (n:Nat),K.lookup a=some o/\o.cls=.type "tuple"/\o.data=.seq its n/\its.size<=sizeLine/\Vals vs its.toList
theorem ZrK{K:Zww}{F F':Hp}{a:Addr}{vs:List V}(h:SqT K F a vs)(s:Zo F F'):SqT K F' a vs:=h.imp (λh=>Zis h s) id
inductive Rep(K:Zww)(F:Hp):PyData->V->Prop where
 | non:Rep K F .none .non
 | bl (b:Bool):Rep K F (.bool b) (.bl b)
 | int (i:Int):Rep K F (.int i) (.int i)
 | str (x:Str):Rep K F (.str x) (.str x)
 | tupk {a:Addr} {x:Str} (h:Zv1 K a [.str x]):Rep K F (.tuple [.str x]) (.ref a)
 | tup {a:Addr} {ds:List PyData} {vs:List V} (h:F a=some (.tup vs)) (hl:ds.length=vs.length) (hr:∀(i:Nat) (d:PyData) (v:V),ds[i]?=some d->vs[i]?=some v->Rep K F d v):Rep K F (.tuple ds) (.ref a)
 | lst {a:Addr} {ds:List PyData} {vs:List V} (h:SqL K F a vs) (hl:ds.length=vs.length) (hr:∀(i:Nat) (d:PyData) (v:V),ds[i]?=some d->vs[i]?=some v->Rep K F d v):Rep K F (.list ds) (.ref a)
 | dct {a:Addr} {es:List (PyData × PyData)} {kvs:List (List Key × PyData)} {vvs:List (List Key × V)} (h:Rd F a (.dT vvs)) (he:es=HM.Zi kvs) (hk:kvs.map (·.1)=vvs.map (·.1)) (hr:∀(i:Nat) (d:PyData) (v:V),(kvs.map (·.2))[i]?=some d->(vvs.map (·.2))[i]?=some v->Rep K F d v):Rep K F (.dict es) (.ref a)
 | fn {a:Addr} {t:Nat} {cs:List PyData} (h:FX.fv t cs F a):Rep K F (.dict [(.none,.int (Int.ofNat t)),(.none,.list cs)]) (.ref a)
def Zq(K:Zww)(F:Hp)(ds:List PyData)(vs:List V):Prop:=ds.length=vs.length/\∀(i:Nat) (d:PyData) (v:V),ds[i]?=some d->vs[i]?=some v->Rep K F d v
section
variable{K:Zww}{F F':Hp}{d:PyData}{v:V}{ds es:List PyData}{vs us:List V}
theorem Rep.mono(r:Rep K F d v)(s:Zo F F'):Rep K F' d v:=by
 induction r with
 | non=>exact .non
 | bl b=>exact .bl b
 | int i=>exact .int i
 | str x=>exact .str x
 | tup h hl _ ih=>exact .tup (s _ _ h) hl ih
 | tupk h=>exact .tupk h
 | lst h hl _ ih=>exact .lst (s.seq h) hl ih
 | dct h he hk _ ih=>exact .dct (Zis h s) he hk ih
 | fn h=>exact .fn (FX.mono h s)
theorem Rep.drop(r:Rep K F d v):Rep K (Zck F) d v:=by
 induction r with
 | non=>exact .non
 | bl b=>exact .bl b
 | int i=>exact .int i
 | str x=>exact .str x
 | tup h hl _ ih=>exact .tup (ZbZ h rfl) hl ih
 | tupk h=>exact .tupk h
 | lst h hl _ ih =>
  refine .lst ?_ hl ih;rcases h with(h | ⟨o,h⟩) | h
  ·exact .inl (.inl (ZbZ h rfl))
  ·exact .inl (.inr ⟨o,ZbZ h rfl⟩)
  ·exact .inr h
 | dct h he hk _ ih =>
  refine .dct ?_ he hk ih;rcases h with h | ⟨o,h⟩
  ·exact .inl (ZbZ h rfl)
  ·exact .inr ⟨o,ZbZ h rfl⟩
 | fn h=>exact .fn (FX.drop h)
theorem Zq.drop'(r:Zq K F ds vs):Zq K (Zck F) ds vs:=⟨r.1,λi d v h1 h2=>(r.2 i d v h1 h2).drop⟩
theorem Zae.dr{H H':Hp}(s:Zae H H'):Zo (Zck H) H':=λb o h=>s.ntb (ZfC h).1 (ZfC h).2
theorem Rep.monoT{H H':Hp}(r:Rep K H d v)(s:Zae H H'):Rep K H' d v:=r.drop.mono s.dr
theorem Zq.mono(r:Zq K F ds vs)(s:Zo F F'):Zq K F' ds vs:=⟨r.1,λi d v h1 h2=>(r.2 i d v h1 h2).mono s⟩
theorem Zq.nil:Zq K F [] []:=⟨rfl,λi d v h=>by simp at h⟩
theorem Zq.cons(r:Rep K F d v)(q:Zq K F ds vs):Zq K F (d::ds) (v::vs) :=
 ⟨by rw[ZwM,ZwM,q.1],λi e u h1 h2=>by
  cases i with
  | zero=>rw[ZyS]at h1 h2;cases h1; cases h2; exact r
  | succ i=>rw[Zw8]at h1 h2;exact q.2 i e u h1 h2⟩
theorem Zq.nil_inv(r:Zq K F [] vs):vs=[]:=ZyX r.1.symm
theorem Zq.cons_inv(r:Zq K F (d::ds) vs):∃v us,vs=v::us/\Rep K F d v/\Zq K F ds us:=by
 cases vs with
 | nil=>exact absurd r.1 (by simp)
 | cons v us =>
  refine⟨v,us,rfl,r.2 0 d v rfl rfl,?_,λi e u h1 h2=>r.2 (i+1) e u ?_ ?_⟩
  ·have:=r.1
   rw[ZwM,ZwM]at this;omega
  ·rw[Zw8]; exact h1
  ·rw[Zw8]; exact h2
theorem Zq.append(r:Zq K F ds vs)(q:Zq K F es us):Zq K F (ds++es) (vs++us):=by
 refine⟨by rw[ZwR,ZwR,r.1,q.1],λi e u h1 h2=>?_⟩
 by_cases hi:i<ds.length
 ·rw[Zxg hi]at h1
  rw[Zxg (by rw[<-r.1]; exact hi)]at h2;exact r.2 i e u h1 h2
 ·rw[Zxb (by omega)]at h1
  rw[Zxb (by have:=r.1; omega),<-r.1]at h2;exact q.2 _ e u h1 h2
theorem Zq.get(r:Zq K F ds vs){i:Nat}(h:ds[i]?=some d):∃v,vs[i]?=some v/\Rep K F d v:=by
 have hi:i<vs.length:=by rw[<-r.1]; exact(ZwI.mp h).1
 exact⟨vs[i],ZwN hi,r.2 i d _ h (ZwN hi)⟩
theorem Zq.drop(r:Zq K F ds vs)(n:Nat):Zq K F (ds.drop n) (vs.drop n) :=
 ⟨by rw[Zy4,Zy4,r.1],λi e u h1 h2=>by rw[List.getElem?_drop]at h1 h2;exact r.2 _ e u h1 h2⟩
theorem Zq.take(r:Zq K F ds vs)(n:Nat):Zq K F (ds.take n) (vs.take n) :=
 ⟨by rw[Zx0,Zx0,r.1],λi e u h1 h2=>by
  by_cases hi:i<n
  ·rw[ZAv hi]at h1 h2
   exact r.2 _ e u h1 h2
  ·rw[List.getElem?_take_eq_none (by omega)]at h1
   cases h1⟩
theorem Zq.set(r:Zq K F ds vs)(q:Rep K F d v)(j:Nat):Zq K F (ds.set j d) (vs.set j v):=by
 refine⟨by rw[ZxE,ZxE,r.1],λi e u h1 h2=>?_⟩;have hi:i<ds.length:=by have:=(ZwI.mp h1).1; rwa [ZxE]at this
 by_cases e1:j=i
 ·subst e1
  rw[Zxh hi]at h1;rw[Zxh (by rw[<-r.1]; exact hi)]at h2;cases h1; cases h2; exact q
 ·rw[Zw2 e1]at h1 h2
  exact r.2 i e u h1 h2
theorem Zq.rep(r:Zq K F ds vs)(k:Nat):Zq K F (Zw4 k ds).flatten (Zw4 k vs).flatten:=by
 induction k with
 | zero=>exact Zq.nil
 | succ k ih=>rw[Zx7,Zx7,ZyF,ZyF]; exact r.append ih
theorem Zq.one(r:Rep K F d v):Zq K F [d] [v]:=.cons r .nil
end
def Fre(H:Hp)(a:Addr)(o:HO):Prop:=H a=none\/∃xs,o=.tup xs/\H a=some (.tup xs)
theorem Fre.back{H H':Hp}{a:Addr}{o:HO}(s:Zae H H')(f:Fre H' a o):Fre H a o:=by
 rcases f with f | ⟨xs,e,f⟩
 ·exact .inl (s.free f)
 ·cases q:H a with
  | none=>exact .inl q
  | some u =>
   have:=s.back q f λ_ z=>by cases z
   subst this;exact .inr ⟨xs,e,q⟩
theorem Fre.no{H:Hp}{a:Addr}{o u:HO}(f:Fre H a o)(h:H a=some u)(n:∀xs,u≠.tup xs):False:=by
 rcases f with f | ⟨xs,_,f⟩
 ·rw[h]at f; cases f
 ·rw[h]at f; cases f; exact n xs rfl
structure Ext(F H F' H':Hp):Prop where
 ff:Zo F F'
 hh:Zae H H'
 sub:Zo F' H'
 new:∀a o,F' a=some o->F a=some o\/Fre H a o
 tab:Tb H->Tb H'
 nts:NoT F->NoT F'
theorem Ext.refl{F H:Hp}(s:Zo F H):Ext F H F H:=⟨Zo.refl F,Zae.refl H,s,λ_ _ h=>.inl h,id,id⟩
theorem Ext.trans{F H F1 H1 F2 H2:Hp}(a:Ext F H F1 H1)(b:Ext F1 H1 F2 H2):Ext F H F2 H2 :=
 ⟨a.ff.trans b.ff,a.hh.trans b.hh,b.sub,λx o h=>by
  rcases b.new x o h with q | q
  ·exact a.new x o q
  ·exact .inr (q.back a.hh),λt=>b.tab (a.tab t),λt=>b.nts (a.nts t)⟩
theorem Zi2{F:Hp}{p:Addr}{o:HO}(h:F p=none):Zo F (upd F p o):=λb q z=>by rw[Zy (Zaa z h)]; exact z
theorem Ext.lay{F H F' H':Hp}(e:Ext F H F' H'){p:Addr}{o:HO}(h:H' p=none)(no:nt o=true:=by rfl):Ext F H (upd F' p o) (upd H' p o):=by
 have hF:F' p=none:=e.sub.free h;refine⟨λb q z=>?_,e.hh.trans (.of (Zi2 h)),λb q z=>?_,λb q z=>?_,λt=>(e.tab t).same (Zi2 h),λt=>(e.nts t).upd no⟩
 ·rw[Zy (Zaa (e.ff b q z) hF)]; exact e.ff b q z
 ·by_cases hb:b=p
  ·subst hb; rw[ZA]at z ⊢; exact z
  ·rw[Zy hb]at z ⊢; exact e.sub b q z
 ·by_cases hb:b=p
  ·subst hb; exact .inr (.inl (e.hh.free h))
  ·rw[Zy hb]at z; exact e.new b q z
theorem Ext.lay'{F H F' H':Hp}(e:Ext F H F' H'){p:Addr}{o:HO}(h:H' p=none):Ext F H F' (upd H' p o):=by refine⟨e.ff,e.hh.trans (.of (Zi2 h)),λb q z=>?_,e.new,λt=>(e.tab t).same (Zi2 h),e.nts⟩;rw[Zy (Zaa (e.sub b q z) h)]; exact e.sub b q z
theorem Zo.upd'{F:Hp}{p:Addr}{o:HO}(h:F p=none):Zo F (upd F p o):=λb q z=>by rw[Zy (Zaa z h)]; exact z
def Zca(F H:Hp):Hp:=λa=>match H a with
 | some (.tup xs)=>some (.tup xs)
 | _=>F a
theorem Zl6{F H:Hp}{a:Addr}{xs:List V}(h:H a=some (.tup xs)):Zca F H a=some (.tup xs):=by unfold Zca; rw[h]
theorem Zcy{F H:Hp}(s:Zo F H):Zo F (Zca F H):=λa o h=>by
 have:=s a o h;unfold Zca;split
 ·rename_i xs q
  rw[q]at this;exact this
 ·exact h
theorem Ext.tups{F H F' H':Hp}(e:Ext F H F' H'):Ext F H (Zca F' H') H':=by
 have key:Ext F' H' (Zca F' H') H':=by
  refine⟨Zcy e.sub,Zae.refl H',λa o h=>?_,λa o h=>?_,id,λn a o h=>?_⟩
  ·unfold Zca at h
   split at h
   ·rename_i xs q; rw[q]; exact h
   ·exact e.sub a o h
  ·unfold Zca at h
   split at h
   ·rename_i xs q
    cases h;exact .inr (.inr ⟨xs,rfl,q⟩)
   ·exact .inl h
  ·unfold Zca at h
   split at h
   ·cases h; rfl
   ·exact n a o h
 exact e.trans key
inductive ZZ(K:Zww)(F H:Hp):HM.B->V->List Addr->Prop where
 | pl {d:PyData} {v:V} (r:Rep K F d v):ZZ K F H (.pl d) v []
 | ol {a:Addr} {ds:List PyData} {vs:List V} (h:H a=some (.lst vs)) (r:Zq K F ds vs):ZZ K F H (.ol ds) (.ref a) [a]
 | ok {a:Addr} {kvs:List (Key × PyData)} {vvs:List (Key × V)} (h:H a=some (.dK vvs)) (hk:kvs.map (·.1)=vvs.map (·.1)) (r:Zq K F (kvs.map (·.2)) (vvs.map (·.2))):ZZ K F H (.ok kvs) (.ref a) [a]
 | ot {a:Addr} {kvs:List (List Key × PyData)} {vvs:List (List Key × V)} (h:H a=some (.dT vvs)) (hk:kvs.map (·.1)=vvs.map (·.1)) (r:Zq K F (kvs.map (·.2)) (vvs.map (·.2))):ZZ K F H (.ot kvs) (.ref a) [a]
 | otl {a:Addr} {kvs:List (List Key × List PyData)} {vvs:List (List Key × V)} {ls:List Addr} (h:H a=some (.dT vvs)) (hk:kvs.map (·.1)=vvs.map (·.1)) (hv:vvs.map (·.2)=ls.map V.ref)
   (r:∀(i:Nat) (ds:List PyData) (l:Addr),(kvs.map (·.2))[i]?=some ds->ls[i]?=some l->∃vs,H l=some (.lst vs)/\Zq K F ds vs):ZZ K F H (.otl kvs) (.ref a) (a::ls)
 | hd {a:Addr} {o:Obj} {es:List (PyData × PyData)} {kvs:List (List Key × PyData)} {vvs:List (List Key × V)} (h:F a=some (.frz o (.dT vvs))) (he:es=HM.Zi kvs) (hk:kvs.map (·.1)=vvs.map (·.1)) (r:Zq K F (kvs.map (·.2)) (vvs.map (·.2))):ZZ K F H (.hd es) (.ref a) []
 | hf {a:Addr} {t:Nat} {cs:List PyData} (h:FX.fv t cs F a):ZZ K F H (.hd [(.none,.int (Int.ofNat t)),(.none,.list cs)]) (.ref a) []
section
variable{K:Zww}{F F' H H':Hp}{b:HM.B}{v:V}{fp:List Addr}
theorem ZZ.mono(r:ZZ K F H b v fp)(s:Zo F F')(k:∀a∈fp,∀o,H a=some o->ZcE H' a o):ZZ K F' H' b v fp:=by
 cases r with
 | pl r=>exact .pl (r.mono s)
 | ol h r=>exact .ol (k _ (by simp) _ h) (r.mono s)
 | ok h hk r=>exact .ok (k _ (by simp) _ h) hk (r.mono s)
 | ot h hk r=>exact .ot (k _ (by simp) _ h) hk (r.mono s)
 | hd h he hk r=>exact .hd (s _ _ h) he hk (r.mono s)
 | hf h=>exact .hf (FX.mono h s)
 | otl h hk hv r=>refine .otl (k _ (by simp) _ h) hk hv λi ds l h1 h2=>?_;obtain⟨vs,q1,q2⟩:=r i ds l h1 h2;exact⟨vs,k l (ZwC _ (Zw3 h2)) _ q1,q2.mono s⟩
theorem ZZ.there2(r:ZZ K F H b v fp){a:Addr}(h:a∈fp):∃o,H a=some o/\Zkc o=true:=by
 cases r with
 | pl r=>simp at h
 | hd _ _ _ _=>simp at h
 | hf _=>simp at h
 | ol q r=>simp at h; subst h; exact⟨_,q,rfl⟩
 | ok q hk r=>simp at h; subst h; exact⟨_,q,rfl⟩
 | ot q hk r=>simp at h; subst h; exact⟨_,q,rfl⟩
 | @otl a' kvs vvs ls q hk hv r =>
  rcases ZwT.mp h with e | e
  ·subst e; exact⟨_,q,rfl⟩
  ·obtain⟨i,hi⟩:=List.getElem?_of_mem e
   have hl:kvs.length=ls.length:=by have e1:=congrArg Zxd hk;have e2:=congrArg Zxd hv;rw[Zwy,Zwy]at e1 e2;omega
   have hi':i<kvs.length:=by rw[hl]; exact(ZwI.mp hi).1
   obtain⟨vs,q1,_⟩:=r i (kvs[i].2) a (by simp[hi']) hi;exact⟨_,q1,rfl⟩
theorem ZZ.there'(r:ZZ K F H b v fp){a:Addr}(h:a∈fp):∃o,H a=some o/\∀xs,o≠.tup xs:=by
 cases r with
 | pl r=>simp at h
 | hd _ _ _ _=>simp at h
 | hf _=>simp at h
 | ol q r=>simp at h; subst h; exact⟨_,q,λ_ z=>by cases z⟩
 | ok q hk r=>simp at h; subst h; exact⟨_,q,λ_ z=>by cases z⟩
 | ot q hk r=>simp at h; subst h; exact⟨_,q,λ_ z=>by cases z⟩
 | @otl a' kvs vvs ls q hk hv r =>
  rcases ZwT.mp h with e | e
  ·subst e; exact⟨_,q,λ_ z=>by cases z⟩
  ·obtain⟨i,hi⟩:=List.getElem?_of_mem e
   have hl:kvs.length=ls.length:=by have e1:=congrArg Zxd hk;have e2:=congrArg Zxd hv;rw[Zwy,Zwy]at e1 e2;omega
   have hi':i<kvs.length:=by rw[hl]; exact(ZwI.mp hi).1
   obtain⟨vs,q1,_⟩:=r i (kvs[i].2) a (by simp[hi']) hi;exact⟨_,q1,λ_ z=>by cases z⟩
theorem ZZ.there(r:ZZ K F H b v fp){a:Addr}(h:a∈fp):∃o,H a=some o:=let ⟨o,q,_⟩:=r.there' h; ⟨o,q⟩
end
structure Za0(K:Zww)(F0 H0 F H:Hp)(r:HM.Env)(σ:L2.St)(fp:Nat->List Addr):Prop where
 ext:Ext F0 H0 F H
 len:r.length=σ.length
 at_:∀(i:Nat) (b:HM.B),r[i]?=some (some b)->∃v,σ[i]?=some (some v)/\ZZ K F H b v (fp i)
 emp:∀(i:Nat),(∀b,r[i]?≠some (some b))->fp i=[]
 own:∀(i:Nat) (a:Addr),a∈fp i->F a=none/\H0 a=none
 nd:∀i,(fp i).Nodup
 dis:∀(i j:Nat) (a:Addr),i≠j->a∈fp i->¬a∈fp j
 tb:Tb H0
 nt:NoT F0
def At(K:Zww)(F0 H0 F H:Hp)(r:HM.Env)(σ:L2.St):Prop:=∃fp,Za0 K F0 H0 F H r σ fp
section
variable{K:Zww}{F0 H0 F H F' H':Hp}{r:HM.Env}{σ:L2.St}{fp:Nat->List Addr}{i:Nat}{b:HM.B}{v:V}{d:PyData}
theorem Za0.bound(e:Za0 K F0 H0 F H r σ fp){a:Addr}(h:a∈fp i):∃b,r[i]?=some (some b):=by
 cases q:r[i]? with
 | none=>rw[e.emp i (λb z=>by rw[q]at z; cases z)]at h; simp at h
 | some x =>
  cases x with
  | none=>rw[e.emp i (λb z=>by rw[q]at z; cases z)]at h; simp at h
  | some b=>exact⟨b,rfl⟩
theorem Za0.there'(e:Za0 K F0 H0 F H r σ fp){a:Addr}(h:a∈fp i):∃o,H a=some o/\∀xs,o≠.tup xs:=by obtain⟨b,hb⟩:=e.bound h;obtain⟨v,_,q⟩:=e.at_ i b hb;exact q.there' h
theorem Za0.there2(e:Za0 K F0 H0 F H r σ fp){a:Addr}(h:a∈fp i):∃o,H a=some o/\Zkc o=true:=by obtain⟨b,hb⟩:=e.bound h;obtain⟨v,_,q⟩:=e.at_ i b hb;exact q.there2 h
theorem Za0.there(e:Za0 K F0 H0 F H r σ fp){a:Addr}(h:a∈fp i):∃o,H a=some o:=let ⟨o,q,_⟩:=e.there' h; ⟨o,q⟩
theorem Za0.sub(e:Za0 K F0 H0 F H r σ fp):Zo F H:=e.ext.sub
theorem Za0.grow(e:Za0 K F0 H0 F H r σ fp)(x:Ext F H F' H'):Za0 K F0 H0 F' H' r σ fp:=by
 refine⟨e.ext.trans x,e.len,λi b h=>?_,e.emp,λi a h=>⟨?_,(e.own i a h).2⟩,e.nd,e.dis,e.tb,e.nt⟩
 ·obtain⟨v,h1,h2⟩:=e.at_ i b h
  exact⟨v,h1,h2.mono x.ff λa _ o q=>x.hh a o q⟩
 ·cases q:F' a with
  | none=>rfl
  | some o =>
   rcases x.new a o q with z | z
   ·rw[(e.own i a h).1]at z; cases z
   ·obtain⟨o',h',hn⟩:=e.there' h
    exact(z.no h' hn).elim
theorem At.grow(e:At K F0 H0 F H r σ)(x:Ext F H F' H'):At K F0 H0 F' H' r σ:=let ⟨fp,e⟩:=e; ⟨fp,e.grow x⟩
theorem At.tb(e:At K F0 H0 F H r σ):Tb H:=let ⟨_,e⟩:=e; e.ext.tab e.tb
theorem At.tbx(e:At K F0 H0 F H r σ)(x:Ext F H F' H'):Tb H':=x.tab e.tb
theorem At.nt(e:At K F0 H0 F H r σ):NoT F:=let ⟨_,e⟩:=e; e.ext.nts e.nt
theorem At.ntx(e:At K F0 H0 F H r σ)(x:Ext F H F' H'):NoT F':=x.nts e.nt
theorem At.nt0(e:At K F0 H0 F H r σ):NoT F0:=let ⟨_,e⟩:=e; e.nt
theorem At.sub(e:At K F0 H0 F H r σ):Zo F H:=let ⟨_,e⟩:=e; e.ext.sub
theorem At.ext(e:At K F0 H0 F H r σ):Ext F0 H0 F H:=let ⟨_,e⟩:=e; e.ext
theorem At.refl(e:At K F0 H0 F H r σ):Ext F H F H:=.refl e.sub
theorem At.plain(e:At K F0 H0 F H r σ)(h:r[i]?=some (some (.pl d))):∃v,σ[i]?=some (some v)/\Rep K F d v:=by
 obtain⟨fp,e⟩:=e;obtain⟨v,h1,h2⟩:=e.at_ i _ h;generalize fp i=f at h2;cases h2 with
 | pl q=>exact⟨v,h1,q⟩
theorem At.any(e:At K F0 H0 F H r σ)(h:r[i]?=some (some b)):∃v fp,σ[i]?=some (some v)/\ZZ K F H b v fp:=by obtain⟨fp,e⟩:=e;obtain⟨v,h1,h2⟩:=e.at_ i _ h;exact⟨v,_,h1,h2⟩
theorem At.store(e:At K F0 H0 F H r σ){fp':List Addr}(q:ZZ K F H b v fp')(nd:fp'.Nodup)(h1:∀a∈fp',F a=none/\H0 a=none)(h2:∀fp,Za0 K F0 H0 F H r σ fp->∀j a,j≠i->a∈fp j->¬a∈fp') :
  At K F0 H0 F H (r.set i (some b)) (σ.set i (some v)):=by
 obtain⟨fp,e⟩:=e;have h2:=h2 fp e
 by_cases hi:i<r.length
 ·refine⟨λj=>if j=i then fp' else fp j,e.ext,by rw[ZxE,ZxE,e.len],λj c h=>?_,λj h=>?_,λj a h=>?_,λj=>?_,λj k a hjk h=>?_,e.tb,e.nt⟩
  ·by_cases hj:j=i
   ·subst hj
    rw[Zxh hi]at h;cases h;refine⟨v,Zxh (by rw[<-e.len]; exact hi),?_⟩;rw[if_pos rfl]; exact q
   ·rw[Zw2 (Zxv hj)]at h
    obtain⟨u,q1,q2⟩:=e.at_ j c h;refine⟨u,by rw[Zw2 (Zxv hj)]; exact q1,?_⟩;rw[if_neg hj]; exact q2
  ·by_cases hj:j=i
   ·subst hj
    exact absurd (Zxh hi) (h b)
   ·show(if j=i then fp' else fp j)=[]
    rw[if_neg hj];exact e.emp j λc z=>h c (by rw[Zw2 (Zxv hj)]; exact z)
  ·by_cases hj:j=i
   ·rw[if_pos hj]at h; exact h1 a h
   ·rw[if_neg hj]at h; exact e.own j a h
  ·show(if j=i then fp' else fp j).Nodup
   by_cases hj:j=i
   ·rw[if_pos hj]; exact nd
   ·rw[if_neg hj]; exact e.nd j
  ·show ¬a∈(if k=i then fp' else fp k)
   by_cases hj:j=i
   ·rw[if_pos hj]at h
    by_cases hk:k=i
    ·exact absurd (hj.trans hk.symm) hjk
    ·rw[if_neg hk]; exact λz=>h2 k a hk z h
   ·rw[if_neg hj]at h
    by_cases hk:k=i
    ·rw[if_pos hk]; exact h2 j a hj h
    ·rw[if_neg hk]; exact e.dis j k a hjk h
 ·have e1:r.set i (some b)=r:=ZAx (by omega)
  have e2:σ.set i (some v)=σ:=ZAx (by have:=e.len; omega);rw[e1,e2];exact⟨fp,e⟩
theorem At.set(e:At K F0 H0 F H r σ)(q:Rep K F d v):At K F0 H0 F H (r.set i (some (.pl d))) (σ.set i (some v)) :=
 e.store (.pl q) Zx4 (λa h=>by simp at h) λ_ _ _ _ _ _ h=>by simp at h
theorem Za0.changeW(e:Za0 K F0 H0 F H r σ fp)(hv:σ[i]?=some (some v)){fp':List Addr}(q:ZZ K F H' b v fp')(nd:fp'.Nodup)(h1:∀a∈fp',a∈fp i\/(F a=none/\H0 a=none/\∀j,a ∉ fp j))
  (h2:∀a o,H a=some o->¬a∈fp i->H' a=some o):At K F0 H0 F H' (r.set i (some b)) σ:=by
 have sF:Zo F H':=λa o z=>h2 a o (e.sub a o z) λm=>by rw[(e.own i a m).1]at z; cases z
 have sH:Zae H0 H':=λa o z=>by
  have nm:¬a∈fp i:=λm=>by rw[(e.own i a m).2]at z; cases z
  have y:=e.ext.hh a o z;cases o<;>first | exact h2 a _ y nm | (obtain⟨ps,q⟩:=y; exact⟨ps,h2 a _ q nm⟩)
 have sT:Tb H0->Tb H':=λt=>(e.ext.tab t).keep λa o z ho=>h2 a o z λm=>by obtain⟨o',q1,q2⟩:=e.there2 m;rw[z]at q1; cases q1; exact Zq0 q2 ho
 have e':Za0 K F0 H0 F H' (r.set i none) (σ.set i none) (λj=>if j=i then[]else fp j):=by
  refine⟨⟨e.ext.ff,sH,sF,e.ext.new,sT,e.ext.nts⟩,by rw[ZxE,ZxE,e.len],λj c h=>?_,λj h=>?_,λj a h=>?_,λj=>?_,λj k a hjk h=>?_,e.tb,e.nt⟩
  ·by_cases hj:j=i
   ·subst hj
    by_cases hi:j<r.length
    ·rw[Zxh hi]at h; cases h
    ·rw[ZAP (by rw[ZxE]; omega)]at h; cases h
   ·rw[Zw2 (Zxv hj)]at h
    obtain⟨u,q1,q2⟩:=e.at_ j c h;refine⟨u,by rw[Zw2 (Zxv hj)]; exact q1,?_⟩;rw[if_neg hj];exact q2.mono (Zo.refl F) λa ha o z=>.of (h2 a o z (e.dis j i a hj ha))
  ·show(if j=i then[]else fp j)=[]
   by_cases hj:j=i
   ·rw[if_pos hj]
   ·rw[if_neg hj]
    exact e.emp j λc z=>h c (by rw[Zw2 (Zxv hj)]; exact z)
  ·by_cases hj:j=i
   ·rw[if_pos hj]at h; simp at h
   ·rw[if_neg hj]at h; exact e.own j a h
  ·show(if j=i then[]else fp j).Nodup
   by_cases hj:j=i
   ·rw[if_pos hj]; exact Zx4
   ·rw[if_neg hj]; exact e.nd j
  ·show ¬a∈(if k=i then[]else fp k)
   by_cases hj:j=i
   ·rw[if_pos hj]at h; simp at h
   ·rw[if_neg hj]at h
    by_cases hk:k=i
    ·rw[if_pos hk]; simp
    ·rw[if_neg hk]; exact e.dis j k a hjk h
 have hF:∀a∈fp',F a=none/\H0 a=none:=λa ha=>by
  rcases h1 a ha with z | z
  ·exact e.own i a z
  ·exact⟨z.1,z.2.1⟩
 have e2:=At.store (i:=i) ⟨_,e'⟩ q nd hF λfq eq j a hj ha z=>by
  obtain⟨c,hc⟩:=eq.bound ha;rw[Zw2 (Zxv hj)]at hc;obtain⟨u1,s1,r1⟩:=eq.at_ j c (by rw[Zw2 (Zxv hj)]; exact hc);obtain⟨u2,s2,r2⟩:=e.at_ j c hc;rw[Zw2 (Zxv hj),s2]at s1;cases s1;have hm:a∈fp j:=by
   have r2':=r2.mono (H':=H') (Zo.refl F) λa ha o z=>.of (h2 a o z (e.dis j i a hj ha))
   clear r2
   generalize fq j=f1 at r1 ha;generalize fp j=f2 at r2' ⊢;cases r1 with
   | pl _=>simp at ha
   | hd _ _ _ _=>simp at ha
   | hf _=>simp at ha
   | ol _ _=>cases r2' with | ol _ _=>exact ha
   | ok _ _ _=>cases r2' with | ok _ _ _=>exact ha
   | ot _ _ _=>cases r2' with | ot _ _ _=>exact ha
   | otl a1 _ v1 _ =>
    cases r2' with
    | otl a2 _ v2 _ =>
     rw[a1]at a2;cases a2;rw[v1]at v2;have:∀{l l':List Addr},l.map V.ref=l'.map V.ref->l=l':=by
      intro l
      induction l with
      | nil=>intro l' h; cases l' with | nil=>rfl | cons _ _=>simp at h
      | cons x xs ih =>
       intro l' h;cases l' with
       | nil=>simp at h
       | cons y ys =>
        rw[ZwD,ZwD]at h;injection h with h1 h2
        injection h1 with h1
        rw[h1,ih h2]
     rw[<-this v2]; exact ha
  rcases h1 a z with w | w
  ·exact e.dis j i a hj hm w
  ·exact w.2.2 j hm
 rw[ZzP,ZzP]at e2;have es:σ.set i (some v)=σ:=by have hi:i<σ.length:=(ZwI.mp hv).1;have hq:σ[i]=some v:=(ZwI.mp hv).2;rw[<-hq];exact Zy1 hi
 rwa [es]at e2
theorem Za0.change(e:Za0 K F0 H0 F H r σ fp)(hv:σ[i]?=some (some v)){fp':List Addr}(q:ZZ K F H' b v fp')(nd:fp'.Nodup)(h1:∀a∈fp',a∈fp i\/H a=none)
  (h2:∀a o,H a=some o->¬a∈fp i->H' a=some o):At K F0 H0 F H' (r.set i (some b)) σ :=
 e.changeW hv q nd (λa ha=>(h1 a ha).imp id λz=>⟨e.sub.free z,e.ext.hh.free z,λj hj=>by obtain⟨o,ho⟩:=e.there hj;rw[z]at ho; cases ho⟩) h2
theorem At.storeNew{Hb:Hp}(e:At K F0 H0 F H r σ)(hb:At K F0 H0 F' Hb r σ)(sb:Zae Hb H){fp':List Addr}(q:ZZ K F H b v fp')(nd:fp'.Nodup)(h1:∀a∈fp',F a=none/\Hb a=none) :
  At K F0 H0 F H (r.set i (some b)) (σ.set i (some v)):=by
 refine e.store q nd (λa h=>⟨(h1 a h).1,hb.ext.hh.free (h1 a h).2⟩) λfp e1 j a hj ha z=>?_;obtain⟨fq,eb⟩:=hb;obtain⟨c,hc⟩:=e1.bound ha;obtain⟨u1,s1,r1⟩:=e1.at_ j c hc;obtain⟨u2,s2,r2⟩:=eb.at_ j c hc;rw[s2]at s1;cases s1;have hn:=(h1 a z).2;have old:∀{x:Addr} {o o':HO},Hb x=some o->H x=some o'->(∀ps,o'≠.tbl ps)->o=o':=λ{x o o'} h1 h2 n=>sb.back h1 h2 n;generalize fp j=f1 at r1 ha;generalize fq j=f2 at r2;cases r1 with
 | pl _=>simp at ha
 | hd _ _ _ _=>simp at ha
 | hf _=>simp at ha
 | ol k _=>cases r2 with | ol k' _=>simp at ha; subst ha; rw[hn]at k'; cases k'
 | ok k _ _=>cases r2 with | ok k' _ _=>simp at ha; subst ha; rw[hn]at k'; cases k'
 | ot k _ _=>cases r2 with | ot k' _ _=>simp at ha; subst ha; rw[hn]at k'; cases k'
 | otl k _ v1 _ =>
  cases r2 with
  | otl k' hk' v2 r2' =>
   have eo:=old k' k λ_ z=>by cases z
   injection eo with eo
   subst eo;have v2':=v2;rw[v1]at v2;rcases ZwT.mp ha with z2 | z2
   ·subst z2; rw[hn]at k'; cases k'
   ·have:V.ref a∈Zz0 V.ref _:=ZwK.mpr ⟨a,z2,rfl⟩
    rw[v2]at this;obtain⟨a',m1,m2⟩:=ZwK.mp this;injection m2 with m2
    subst m2;obtain⟨o,ho⟩:=ZZ.there (ZZ.otl k' hk' v2' r2') (ZwC _ m1);rw[hn]at ho; cases ho
theorem At.rebase(e:At K F0 H0 F H r σ):At K F H0 F H r σ:=by obtain⟨fp,e⟩:=e;exact⟨fp,⟨Zo.refl F,e.ext.hh,e.ext.sub,λ_ _ z=>.inl z,e.ext.tab,id⟩,e.len,e.at_,e.emp,e.own,e.nd,e.dis,e.tb,e.ext.nts e.nt⟩
theorem Ext.unbase{F1 H1:Hp}(x:Ext F0 H0 F1 H1)(y:Ext F1 H0 F H):Ext F0 H0 F H :=
 ⟨x.ff.trans y.ff,y.hh,y.sub,λa o z=>(y.new a o z).elim (λq=>x.new a o q) .inr,y.tab,λt=>y.nts (x.nts t)⟩
theorem At.unbase{F1 H1:Hp}(x:Ext F0 H0 F1 H1)(n:NoT F0)(e:At K F1 H0 F H r σ):At K F0 H0 F H r σ:=by obtain⟨fp,e⟩:=e;exact⟨fp,x.unbase e.ext,e.len,e.at_,e.emp,e.own,e.nd,e.dis,e.tb,n⟩
theorem Za0.freeze{fp:Nat->List Addr}(e:Za0 K F0 H0 F H r σ fp)(i:Nat){b:HM.B}{a:Addr}{ob:HO}{d:PyData}(hb:r[i]?=some (some b))(h1:σ[i]?=some (some (.ref a)))(hfp:fp i=[a])(ha:H a=some ob)(hr:Zo F (upd F a ob)->Rep K (upd F a ob) d (.ref a))(no:HP.nt ob=true:=by rfl) :
  ∃F',Ext F0 H0 F' H/\Zo F F'/\At K F0 H0 F' H (r.set i (some (.pl d))) σ:=by
 have hF:F a=none:=(e.own i a (by rw[hfp]; simp)).1;have s:Zo F (upd F a ob):=Zo.upd' hF;have x:Ext F0 H0 (upd F a ob) H:=by
  refine⟨e.ext.ff.trans s,e.ext.hh,λc o z=>?_,λc o z=>?_,e.ext.tab,λt=>(e.ext.nts t).upd no⟩
  ·by_cases hc:c=a
   ·subst hc; rw[ZA]at z; cases z; exact ha
   ·rw[Zy hc]at z; exact e.sub c o z
  ·by_cases hc:c=a
   ·subst hc; exact .inr (.inl (e.own i c (by rw[hfp]; simp)).2)
   ·rw[Zy hc]at z; exact e.ext.new c o z
 refine⟨_,x,s,?_⟩;have e1:Za0 K F0 H0 (upd F a ob) H (r.set i none) (σ.set i none) (λj=>if j=i then[]else fp j):=by
  refine⟨x,by rw[ZxE,ZxE,e.len],λj c h=>?_,λj h=>?_,λj c h=>?_,λj=>?_,λj k c hjk h=>?_,e.tb,e.nt⟩
  ·by_cases hj:j=i
   ·subst hj
    rw[Zxh (ZwI.mp hb).1]at h; cases h
   ·rw[Zw2 (Zxv hj)]at h
    obtain⟨u,q1,q2⟩:=e.at_ j c h;refine⟨u,by rw[Zw2 (Zxv hj)]; exact q1,?_⟩;rw[if_neg hj]; exact q2.mono s λ_ _ _ z=>.of z
  ·show(if j=i then[]else fp j)=[]
   by_cases hj:j=i
   ·rw[if_pos hj]
   ·rw[if_neg hj]
    exact e.emp j λc z=>h c (by rw[Zw2 (Zxv hj)]; exact z)
  ·by_cases hj:j=i
   ·rw[if_pos hj]at h; simp at h
   ·rw[if_neg hj]at h
    have hca:c≠a:=λz=>e.dis j i c hj h (by rw[hfp,z]; simp);exact⟨by rw[Zy hca]; exact(e.own j c h).1,(e.own j c h).2⟩
  ·show(if j=i then[]else fp j).Nodup
   by_cases hj:j=i
   ·rw[if_pos hj]; exact Zx4
   ·rw[if_neg hj]; exact e.nd j
  ·show ¬c∈(if k=i then[]else fp k)
   by_cases hj:j=i
   ·rw[if_pos hj]at h; simp at h
   ·rw[if_neg hj]at h
    by_cases hk:k=i
    ·rw[if_pos hk]; simp
    ·rw[if_neg hk]; exact e.dis j k c hjk h
 have rp:=hr s;have e2:=At.set (i:=i) ⟨_,e1⟩ rp;rw[ZzP,ZzP]at e2;have es:σ.set i (some (.ref a))=σ:=by have hi:i<σ.length:=(ZwI.mp h1).1;have hq:σ[i]=some (.ref a):=(ZwI.mp h1).2;rw[<-hq];exact Zy1 hi
 rwa [es]at e2
theorem At.freeze(e:At K F0 H0 F H r σ)(i:Nat):∃F',Ext F0 H0 F' H/\Zo F F'/\At K F0 H0 F' H (HM.Zjm i r) σ:=by
 unfold HM.Zjm;split
 ·rename_i ds hb
  obtain⟨fp,e⟩:=e;obtain⟨v,h1,h2⟩:=e.at_ i _ hb;generalize hfp:fp i=f at h2;cases h2 with
  | @ol a _ vs ha q=>exact e.freeze i hb h1 hfp ha λs=>.lst (.of ZA) q.1 (q.mono s).2
 ·rename_i kvs hb
  obtain⟨fp,e⟩:=e;obtain⟨v,h1,h2⟩:=e.at_ i _ hb;generalize hfp:fp i=f at h2;cases h2 with
  | @ot a _ vvs ha hk q=>exact e.freeze i hb h1 hfp ha λs=>.dct (.inl ZA) rfl hk (q.mono s).2
 ·exact⟨F,e.ext,Zo.refl F,e⟩
end
inductive Now(K:Zww)(r:HM.Env)(σ:L2.St)(H:Hp)(C:Hp->Hp->Hp->Prop):Prop
 | mk (F0 H0 F:Hp) (at_:At K F0 H0 F H r σ) (k:C F0 H0 F):Now K r σ H C
end HP
namespace HP
open PySem PySem.Spec PyProof.Rows L2
variable[FX]
def tAt(K:Zww)(r:HM.Env)(P:Hp->Hp->Hp->V->Prop):TE:=λσ H Q=>Now K r σ H λF0 H0 F=>∀v F' H',Ext F H F' H'->P H F' H' v->Q v H'
def XE(X:Cx)(e:Expr)(f:HM.EF):Prop:=∀r d,f r=some d->PE X e (tAt X.K r λ_ F' _ v=>Rep X.K F' d v)
def XB(X:Cx)(e:Expr)(f:HM.BF):Prop:=∀r b,f r=some b->PE X e (tAt X.K r λ_ F' H' v=>∃fp,ZZ X.K F' H' b v fp)
def XF(X:Cx)(e:Expr)(f:HM.BF):Prop:=∀r b,f r=some b->PE X e (tAt X.K r λH F' H' v=>∃fp,ZZ X.K F' H' b v fp/\fp.Nodup/\∀a∈fp,F' a=none/\H a=none)
def XT(X:Cx)(e:Expr)(f:HM.TF):Prop:=∀r c,f r=some c->PT X e λσ H Q=>Now X.K r σ H λF0 H0 F=>∀F' H',Ext F H F' H'->Q c H'
def XW(X:Cx)(e:Expr)(f:HM.TF):Prop:=∀r c,f r=some c->PW X e λσ H Q=>Now X.K r σ H λF0 H0 F=>∀F' H',Ext F H F' H'->Q c H'
structure XA(X:Cx)(es:List Expr)(f:HM.AF):Prop where
 len:∀r ds,f r=some ds->ds.length=es.length
 pa:∀r ds,f r=some ds->PA X es λσ H Q=>Now X.K r σ H λF0 H0 F=>∀vs F' H',Ext F H F' H'->Zq X.K F' ds vs->Q vs H'
def ItD(K:Zww)(J:It)(ds:List PyData)(F:Hp):Prop:=∀F' H,Zo F F'->Zo F' H ->
 (∀(i:Nat) (d:PyData),ds[i]?=some d->J.go i H/\∀x H',J.yld i H x H'->H'=H/\Rep K (Zca F' H) d x)/\J.stop ds.length H
def XI(X:Cx)(tg e:Expr)(f:HM.IF):Prop:=∀r ds,f r=some ds->PI X tg e λσ H R=>Now X.K r σ H λF0 H0 F=>∀J F' H',Ext F H F' H'->ItD X.K J ds F'->R J H'
def Zwa(K:Zww)(F0 H0:Hp)(o:HM.Out)(E:Ends):Prop:=match o with
 | .nx r=>∀σ F H,At K F0 H0 F H r σ->E.nx σ H
 | .rt d=>∀v F H,Ext F0 H0 F H->Rep K F d v->E.rt v H
 | .bk r=>∀σ F H,At K F0 H0 F H r σ->E.bk σ H
 | .ct r=>∀σ F H,At K F0 H0 F H r σ->E.ct σ H
def tSt(K:Zww)(r:HM.Env)(o:HM.Out):TS:=λE σ H=>Now K r σ H λF0 H0 F=>Zwa K F0 H0 o E
def XS(X:Cx)(st:Stmt)(g:HM.SF):Prop:=∀r o,g r=some o->PS X st (tSt X.K r o)
def XSs(X:Cx)(sts:List Stmt)(g:HM.SF):Prop:=∀r o,g r=some o->PSs X sts (tSt X.K r o)
theorem PE.imp{X:Cx}{e:Expr}{t u:TE}(h:PE X e t)(hi:∀σ H Q,u σ H Q->t σ H Q):PE X e u:=λpins s σ H Q I q=>h pins s σ H Q I (hi σ H Q q)
theorem PT.imp{X:Cx}{e:Expr}{t u:TT}(h:PT X e t)(hi:∀σ H Q,u σ H Q->t σ H Q):PT X e u:=λpins s σ H Q I q=>h pins s σ H Q I (hi σ H Q q)
theorem PW.imp{X:Cx}{e:Expr}{t u:TT}(h:PW X e t)(hi:∀σ H Q,u σ H Q->t σ H Q):PW X e u:=λwh pins s σ H Q I q=>h wh pins s σ H Q I (hi σ H Q q)
theorem PA.imp{X:Cx}{es:List Expr}{t u:TA}(h:PA X es t)(hi:∀σ H Q,u σ H Q->t σ H Q):PA X es u:=λp pins s σ H Q I q=>h p pins s σ H Q I (hi σ H Q q)
theorem PS.imp{X:Cx}{st:Stmt}{t u:TS}(h:PS X st t)(hi:∀E σ H,u E σ H->t E σ H):PS X st u:=λpins s σ H E I q=>h pins s σ H E I (hi E σ H q)
theorem PSs.imp{X:Cx}{sts:List Stmt}{t u:TS}(h:PSs X sts t)(hi:∀E σ H,u E σ H->t E σ H):PSs X sts u:=λpins s σ H E I q=>h pins s σ H E I (hi E σ H q)
section
variable{X:Cx}{a b c e:Expr}{fa fb fc:HM.EF}{pos p:Pos}
theorem Zru{i:Nat}{r:HM.Env}{d:PyData}(h:HM.Zc i r=some d):r[i]?=some (some (.pl d)):=by
 unfold HM.Zc at h;split at h
 ·rename_i q; cases h; exact q
 ·cases h
theorem Zrj{i:Nat}{r:HM.Env}{d:HM.B}(h:HM.Zp i r=some d):r[i]?=some (some d):=by
 unfold HM.Zp at h;split at h
 ·rename_i q; cases h; exact q
 ·cases h
theorem Za(i:Nat){x:Str}{pos:Pos}(hN:X.N[i]?=some x:=by rfl)(hv:Vis X.env.scope x:=by first | exact Zxl rfl | exact Zw6 (Zxl rfl) | exact Zw6 (Zw6 rfl))(hd:(x==("__debug__":Str))=false:=by decide)
  (hcd:(x==("__classdict__":Str))=false:=by decide):XE X (.Name x pos) (HM.Zc i):=by
 intro r d h;refine PE.imp (ZbG hN hv hd hcd) λσ H Q ⟨F0,H0,F,at_,k⟩=>?_;obtain⟨v,h1,h2⟩:=at_.plain (Zru h);exact⟨v,h1,k v F H at_.refl h2⟩
theorem Zw(i:Nat){x:Str}{pos:Pos}(hN:X.N[i]?=some x:=by rfl)(hv:Vis X.env.scope x:=by first | exact Zxl rfl | exact Zw6 (Zxl rfl) | exact Zw6 (Zw6 rfl))(hd:(x==("__debug__":Str))=false:=by decide)
  (hcd:(x==("__classdict__":Str))=false:=by decide):XB X (.Name x pos) (HM.Zp i):=by
 intro r d h;refine PE.imp (ZbG hN hv hd hcd) λσ H Q ⟨F0,H0,F,at_,k⟩=>?_;obtain⟨v,fp,h1,h2⟩:=at_.any (Zrj h);exact⟨v,h1,k v F H at_.refl ⟨fp,h2⟩⟩
theorem ZeU{v:V}{d:PyData}(h:PE X e (tC v))(r:∀F,Rep X.K F d v):XE X e (HM.eC d):=by intro r' d' h';cases h';exact PE.imp h λσ H Q ⟨F0,H0,F,at_,k⟩=>k v F H at_.refl (r F)
theorem Zg{i:Int}{j:Nat}:XE X (.Constant (.int i) j pos) (HM.eC (.int i)):=ZeU ZqE λ_=>.int i
theorem Za2{q:Bool}{j:Nat}:XE X (.Constant (.bool q) j pos) (HM.eC (.bool q)):=ZeU Zva λ_=>.bl q
theorem Zdh{j:Nat}:XE X (.Constant .none j pos) (HM.eC .none):=ZeU ZqY λ_=>.non
theorem Zid{x:Str}{i:Int}(hm:∃t,X.mg x=some (.int i t))(hg:Gl X x:=by rfl)(hd:(x==("__debug__":Str))=false:=by decide):XE X (.Name x pos) (HM.eC (.int i)):=by obtain⟨t,hm⟩:=hm;exact ZeU (Zoz hg hm (v:=.int i) ⟨t,rfl⟩ hd) λ_=>.int i
theorem Ztz{i:Int}{j:Nat}{p':Pos}:XE X (.UnaryOp .USub (.Constant (.int i) j p') pos) (HM.eC (.int (-i))):=by intro r d h;cases h;intro pins s σ H Q I q;obtain⟨F0,H0,F,at_,k⟩:=q;refine UnaryOp_ (thn (ZqE pins s σ H (λv H'=>v=.int i/\H'=H) I ⟨rfl,rfl⟩) λu s1 ⟨x,H1,I1,r1,e1,e2⟩=>?_);subst e1 e2;obtain⟨t,rfl⟩:=r1;exact neg_int ⟨.int (-i),H1,I1.tok _,⟨_,rfl⟩,k _ F H1 at_.refl (.int _)⟩
theorem ZaW(h:XE X e fa):XB X e (HM.bOf fa):=by intro r b hb;obtain⟨d,h1,h2⟩:=Zwx.mp hb;subst h2;exact PE.imp (h r d h1) λσ H Q ⟨F0,H0,F,at_,k⟩=>⟨F0,H0,F,at_,λv F' H' x q=>k v F' H' x ⟨[],.pl q⟩⟩
theorem ZaQ{f:HM.BF}(h:XF X e f):XB X e f:=λr b hb=>PE.imp (h r b hb) λσ H Q ⟨F0,H0,F,at_,k⟩=>⟨F0,H0,F,at_,λv F' H' x ⟨fp,q,_⟩=>k v F' H' x ⟨fp,q⟩⟩
theorem ZeC{f:HM.BF}(h:XF X e f):XE X e (HM.eOf f):=by
 intro r d hd;unfold HM.eOf at hd;obtain⟨b,h1,h2⟩:=Zzr.mp hd;refine PE.imp (h r b h1) λσ H Q ⟨F0,H0,F,at_,k⟩=>⟨F0,H0,F,at_,λv F' H' x ⟨fp,q,_,hn⟩=>?_⟩;cases q with
 | pl q=>cases h2;exact k v F' H' x q
 | @ol l ds vs hl q =>
  cases h2;have hF:F' l=none:=(hn l (by simp)).1;have s:Zo F' (upd F' l (.lst vs)):=Zo.upd' hF;refine k _ (upd F' l (.lst vs)) H' ⟨x.ff.trans s,x.hh,λc o z=>?_,λc o z=>?_,x.tab,λt=>(x.nts t).upd rfl⟩ (.lst (.of ZA) q.1 (q.mono s).2)
  ·by_cases hc:c=l
   ·subst hc; rw[ZA]at z; cases z; exact hl
   ·rw[Zy hc]at z; exact x.sub c o z
  ·by_cases hc:c=l
   ·subst hc; exact .inr (.inl (hn c (by simp)).2)
   ·rw[Zy hc]at z; exact x.new c o z
 | @ot l kvs vvs hl hk q =>
  cases h2;have hF:F' l=none:=(hn l (by simp)).1;have s:Zo F' (upd F' l (.dT vvs)):=Zo.upd' hF;refine k _ (upd F' l (.dT vvs)) H' ⟨x.ff.trans s,x.hh,λc o z=>?_,λc o z=>?_,x.tab,λt=>(x.nts t).upd rfl⟩ (.dct (.inl ZA) rfl hk (q.mono s).2)
  ·by_cases hc:c=l
   ·subst hc; rw[ZA]at z; cases z; exact hl
   ·rw[Zy hc]at z; exact x.sub c o z
  ·by_cases hc:c=l
   ·subst hc; exact .inr (.inl (hn c (by simp)).2)
   ·rw[Zy hc]at z; exact x.new c o z
 | ok _ _ _=>cases h2
 | hd h3 h4 h5 h6=>cases h2; exact k _ F' H' x (.dct (.inr ⟨_,h3⟩) h4 h5 h6.2)
 | hf h3=>cases h2; exact k _ F' H' x (.fn h3)
 | otl _ _ _ _=>cases h2
def Bin(K:Zww)(r:R2)(g:PyData->PyData->Option PyData):Prop:=∀(F H:Hp) (x y z:PyData) (v w:V) (Q:VK),Zo F H->g x y=some z->Rep K F x v->Rep K F y w->(∀u,Rep K F z u->Q u H)->r v w H Q
structure ZmA(X:Cx)(op:Operator)(g:PyData->PyData->Option PyData):Prop where
 ex:∃r,OpR X (ZzH op) r/\Bin X.K r g
structure Zgc(X:Cx)(op:CmpOp)(g:PyData->PyData->Option PyData):Prop where
 ex:∃r,OpR X (ZxK op) r/\Bin X.K r g
 n1:op≠.In
 n2:op≠.NotIn
theorem Zgq{g:PyData->PyData->Option PyData}{r:HM.Env}{d:PyData}(h:HM.op2 g fa fb r=some d):∃x y,fa r=some x/\fb r=some y/\g x y=some d:=by
 unfold HM.op2 at h;split at h
 ·split at h
  ·exact⟨_,_,by assumption,by assumption,h⟩
  ·cases h
 ·cases h
theorem two{K:Zww}{r:HM.Env}{x y:PyData}{P:Hp->Hp->Hp->V->Prop}{σ:L2.St}{H:Hp}{Q:VK}{R:V->V->Hp->VK->Prop}(h:tAt K r P σ H Q)
  (hk:∀H F2 H2 v w,Zo F2 H2->Rep K F2 x v->Rep K F2 y w->(∀u F3 H3,Ext F2 H2 F3 H3->P H F3 H3 u->Q u H3)->Zae H H2->R v w H2 Q) :
  tOp R (tAt K r λ_ F' _ v=>Rep K F' x v) (tAt K r λ_ F' _ v=>Rep K F' y v) σ H Q:=by
 obtain⟨F0,H0,F,at_,k⟩:=h;refine⟨F0,H0,F,at_,λv F1 H1 x1 r1=>⟨F0,H0,F1,at_.grow x1,λw F2 H2 x2 r2=>?_⟩⟩;exact hk H F2 H2 v w x2.sub (r1.mono x2.ff) r2 (λu F3 H3 x3 q=>k u F3 H3 ((x1.trans x2).trans x3) q) (x1.hh.trans x2.hh)
theorem ZC{op:Operator}{g:PyData->PyData->Option PyData}(o:ZmA X op g)(ha:XE X a fa)(hb:XE X b fb):XE X (.BinOp a op b pos) (HM.op2 g fa fb):=by intro r d h;obtain⟨x,y,h1,h2,h3⟩:=Zgq h;obtain⟨R,o1,o2⟩:=o.ex;refine PE.imp (ZpM o1 (ha r x h1) (hb r y h2)) λσ H Q q=>?_;exact two q λ_ F2 H2 v w s r1 r2 k _=>o2 F2 H2 x y d v w Q s h3 r1 r2 λu ru=>k u F2 H2 (.refl s) ru
theorem Zhj{op:CmpOp}{g:PyData->PyData->Option PyData}(o:Zgc X op g)(ha:XE X a fa)(hb:XE X b fb):XE X (.Compare a [op] [b] pos) (HM.op2 g fa fb):=by intro r d h;obtain⟨x,y,h1,h2,h3⟩:=Zgq h;obtain⟨R,o1,o2⟩:=o.ex;refine PE.imp (Zox o1 (ha r x h1) (hb r y h2) (Zi4 _ o.n1 o.n2)) λσ H Q q=>?_;exact two q λ_ F2 H2 v w s r1 r2 k _=>o2 F2 H2 x y d v w Q s h3 r1 r2 λu ru=>k u F2 H2 (.refl s) ru
theorem Zgt{r:HM.Env}{c:Bool}(h:HM.tV fa r=some c):fa r=some (.bool c):=by
 unfold HM.tV at h;split at h
 ·rename_i q; cases h; exact q
 ·cases h
theorem Rep.bool_inv{K:Zww}{F:Hp}{c:Bool}{v:V}(h:Rep K F (.bool c) v):v=.bl c:=by cases h; rfl
theorem Rep.int_inv{K:Zww}{F:Hp}{i:Int}{v:V}(h:Rep K F (.int i) v):v=.int i:=by cases h; rfl
theorem Rep.none_inv{K:Zww}{F:Hp}{v:V}(h:Rep K F .none v):v=.non:=by cases h; rfl
theorem Zaz{op:CmpOp}{g:PyData->PyData->Option PyData}(o:Zgc X op g)(ha:XE X a fa)(hb:XE X b fb):XT X (.Compare a [op] [b] pos) (HM.tV (HM.op2 g fa fb)):=by intro r d h;obtain⟨x,y,h1,h2,h3⟩:=Zgq (Zgt h);obtain⟨R,o1,o2⟩:=o.ex;refine PT.imp (ZoH o1 (ha r x h1) (hb r y h2) (Zi4 _ o.n1 o.n2)) λσ H Q ⟨F0,H0,F,at_,k⟩=>?_;refine⟨F0,H0,F,at_,λv F1 H1 x1 r1=>⟨F0,H0,F1,at_.grow x1,λw F2 H2 x2 r2=>?_⟩⟩;refine o2 F2 H2 x y _ v w _ x2.sub h3 (r1.mono x2.ff) r2 λu ru=>?_;exact⟨d,ru.bool_inv,k F2 H2 (x1.trans x2)⟩
theorem Zbt(h:XE X e fa)(he:∀whole,isTrue e X.env whole=(do let v <-whole; standAt e.pos; holding [v] (truthy v)):=by intro _; rfl):XT X e (HM.tV fa):=by intro r c hc;refine PT.imp (Zuh (h r _ (Zgt hc)) he) λσ H Q ⟨F0,H0,F,at_,k⟩=>?_;exact⟨F0,H0,F,at_,λv F1 H1 x1 r1=>⟨c,r1.bool_inv,k F1 H1 x1⟩⟩
theorem Zc4{t:HM.TF}(h:XT X a t):XT X (.UnaryOp .Not a pos) (HM.Zd3 t):=by intro r c hc;obtain⟨d,h1,h2⟩:=Zwx.mp hc;subst h2;refine PT.imp (Zt0 (h r d h1)) λσ H Q ⟨F0,H0,F,at_,k⟩=>?_;exact⟨F0,H0,F,at_,λF1 H1 x1=>k F1 H1 x1⟩
theorem Zlq{t:HM.TF}(h:XW X e t):XT X e t:=λr c hc=>(h r c hc).pt
theorem Zod{t:HM.TF}(h:XT X a t):XW X (.BoolOp .And [a] pos) t:=λr c hc=>Zs9 (h r c hc)
theorem Zlr{t:HM.TF}(h:XT X a t):XW X (.BoolOp .Or [a] pos) t:=λr c hc=>Zt2 (h r c hc)
theorem ZmG{e:Expr}:PW X e λ_ _ _=>False:=λ_ _ _ _ _ _ _ h=>h.elim
theorem Zfe{e:Expr}:PE X e λ_ _ _=>False:=λ_ _ _ _ _ _ h=>h.elim
theorem Zls{t u:HM.TF}{rest:List Expr}(ha:XT X a t)(hb:XW X (.BoolOp .And (b::rest) pos) u):XW X (.BoolOp .And (a::b::rest) pos) (HM.Zf6 t u):=by
 intro r c hc;unfold HM.Zf6 at hc;split at hc
 ·rename_i q
  refine PW.imp (Zqt (ha r true q) (hb r c hc)) λσ H Q ⟨F0,H0,F,at_,k⟩=>?_;exact⟨F0,H0,F,at_,λF1 H1 x1=>Zi9 ⟨F0,H0,F1,at_.grow x1,λF2 H2 x2=>k F2 H2 (x1.trans x2)⟩⟩
 ·rename_i q
  cases hc;refine PW.imp (Zqt (ha r false q) ZmG) λσ H Q ⟨F0,H0,F,at_,k⟩=>?_;exact⟨F0,H0,F,at_,λF1 H1 x1=>Zi5 (k F1 H1 x1)⟩
 ·cases hc
theorem ZoO{t u:HM.TF}{rest:List Expr}(ha:XT X a t)(hb:XW X (.BoolOp .Or (b::rest) pos) u):XW X (.BoolOp .Or (a::b::rest) pos) (HM.tOr t u):=by
 intro r c hc;unfold HM.tOr at hc;split at hc
 ·rename_i q
  cases hc;refine PW.imp (Zsz (ha r true q) ZmG) λσ H Q ⟨F0,H0,F,at_,k⟩=>?_;exact⟨F0,H0,F,at_,λF1 H1 x1=>Zi9 (k F1 H1 x1)⟩
 ·rename_i q
  refine PW.imp (Zsz (ha r false q) (hb r c hc)) λσ H Q ⟨F0,H0,F,at_,k⟩=>?_;exact⟨F0,H0,F,at_,λF1 H1 x1=>Zi5 ⟨F0,H0,F1,at_.grow x1,λF2 H2 x2=>k F2 H2 (x1.trans x2)⟩⟩
 ·cases hc
theorem Zef{op:BoolOp}(h:XE X a fa):XE X (.BoolOp op [a] pos) fa:=λr d hd=>Zua (h r d hd)
theorem ZeV{rest:List Expr}(ha:XE X a fa)(hb:XE X (.BoolOp .And (b::rest) pos) fb):XE X (.BoolOp .And (a::b::rest) pos) (HM.ZgU fa fb):=by
 intro r d hd;unfold HM.ZgU at hd;split at hd
 ·rename_i q
  refine PE.imp (Zqc (ha r _ q) (hb r d hd)) λσ H Q ⟨F0,H0,F,at_,k⟩=>?_;exact⟨F0,H0,F,at_,λv F1 H1 x1 r1=>⟨true,r1.bool_inv,Zi9 ⟨F0,H0,F1,at_.grow x1,λw F2 H2 x2 r2=>k w F2 H2 (x1.trans x2) r2⟩⟩⟩
 ·rename_i q
  cases hd;refine PE.imp (Zqc (ha r _ q) Zfe) λσ H Q ⟨F0,H0,F,at_,k⟩=>?_;exact⟨F0,H0,F,at_,λv F1 H1 x1 r1=>⟨false,r1.bool_inv,Zi5 (k _ F1 H1 x1 (.bl false))⟩⟩
 ·cases hd
theorem Zu3{rest:List Expr}(ha:XE X a fa)(hb:XE X (.BoolOp .Or (b::rest) pos) fb):XE X (.BoolOp .Or (a::b::rest) pos) (HM.eOr fa fb):=by
 intro r d hd;unfold HM.eOr at hd;split at hd
 ·rename_i q
  cases hd;refine PE.imp (Zsv (ha r _ q) Zfe) λσ H Q ⟨F0,H0,F,at_,k⟩=>?_;exact⟨F0,H0,F,at_,λv F1 H1 x1 r1=>⟨true,r1.bool_inv,Zi9 (k _ F1 H1 x1 (.bl true))⟩⟩
 ·rename_i q
  refine PE.imp (Zsv (ha r _ q) (hb r d hd)) λσ H Q ⟨F0,H0,F,at_,k⟩=>?_;exact⟨F0,H0,F,at_,λv F1 H1 x1 r1=>⟨false,r1.bool_inv,Zi5 ⟨F0,H0,F1,at_.grow x1,λw F2 H2 x2 r2=>k w F2 H2 (x1.trans x2) r2⟩⟩⟩
 ·cases hd
theorem ZtA(ha:XE X a fa):XE X (.UnaryOp .Not a pos) (HM.Zj8 fa):=by
 intro r d hd;unfold HM.Zj8 at hd;split at hd
 ·rename_i c q
  cases hd;refine PE.imp (Zuv (ha r _ q)) λσ H Q ⟨F0,H0,F,at_,k⟩=>?_;exact⟨F0,H0,F,at_,λv F1 H1 x1 r1=>⟨c,r1.bool_inv,k _ F1 H1 x1 (.bl _)⟩⟩
 ·cases hd
theorem Zsq{t:HM.TF}(hc:XT X c t)(ha:XE X a fa)(hb:XE X b fb):XE X (.IfExp c a b pos) (HM.eIf t fa fb):=by
 intro r d hd;unfold HM.eIf at hd;split at hd
 ·rename_i q
  refine PE.imp (Zmy (hc r _ q) (ha r d hd) Zfe) λσ H Q ⟨F0,H0,F,at_,k⟩=>?_;exact⟨F0,H0,F,at_,λF1 H1 x1=>Zi9 ⟨F0,H0,F1,at_.grow x1,λw F2 H2 x2 r2=>k w F2 H2 (x1.trans x2) r2⟩⟩
 ·rename_i q
  refine PE.imp (Zmy (hc r _ q) Zfe (hb r d hd)) λσ H Q ⟨F0,H0,F,at_,k⟩=>?_;exact⟨F0,H0,F,at_,λF1 H1 x1=>Zi5 ⟨F0,H0,F1,at_.grow x1,λw F2 H2 x2 r2=>k w F2 H2 (x1.trans x2) r2⟩⟩
 ·cases hd
theorem Zlt{op op':CmpOp}{g g':PyData->PyData->Option PyData}(o:Zgc X op g)(o':Zgc X op' g')(ha:XE X a fa)(hb:XE X b fb)(hc:XE X c fc)
  (hm:lastMarks [op,op'] [b,c]=false:=by with_unfolding_all rfl):XE X (.Compare a [op,op'] [b,c] pos) (HM.ZjF g g' fa fb fc):=by
 intro r d hd;unfold HM.ZjF at hd;obtain⟨R,o1,o2⟩:=o.ex;obtain⟨R',o1',o2'⟩:=o'.ex;split at hd
 ·rename_i x hx
  split at hd
  ·rename_i y hy
   split at hd
   ·rename_i hg
    split at hd
    ·rename_i z hz
     refine PE.imp (Zmv o1 o1' (ha r x hx) (hb r y hy) (hc r z hz) hm) λσ H Q ⟨F0,H0,F,at_,k⟩=>?_;refine⟨F0,H0,F,at_,λv F1 H1 x1 r1=>⟨F0,H0,F1,at_.grow x1,λw F2 H2 x2 r2=>?_⟩⟩;refine o2 F2 H2 x y _ v w _ x2.sub hg (r1.mono x2.ff) r2 λu ru=>?_;refine⟨true,ru.bool_inv,Zi9 ⟨F0,H0,F2,(at_.grow x1).grow x2,λw' F3 H3 x3 r3=>?_⟩⟩;exact o2' F3 H3 y z d w w' Q x3.sub hd (r2.mono x3.ff) r3 λu' ru'=>k u' F3 H3 ((x1.trans x2).trans x3) ru'
    ·cases hd
   ·rename_i hg
    cases hd;refine PE.imp (Zmv o1 o1' (ha r x hx) (hb r y hy) Zfe hm) λσ H Q ⟨F0,H0,F,at_,k⟩=>?_;refine⟨F0,H0,F,at_,λv F1 H1 x1 r1=>⟨F0,H0,F1,at_.grow x1,λw F2 H2 x2 r2=>?_⟩⟩;refine o2 F2 H2 x y _ v w _ x2.sub hg (r1.mono x2.ff) r2 λu ru=>?_;exact⟨false,ru.bool_inv,Zi5 (k _ F2 H2 (x1.trans x2) (.bl false))⟩
   ·cases hd
  ·cases hd
 ·cases hd
theorem Zh:XA X [] HM.Zn:=by refine⟨λr ds h=>by cases h; rfl,λr ds h=>?_⟩;cases h;exact PA.imp Zbv λσ H Q ⟨F0,H0,F,at_,k⟩=>k [] F H at_.refl .nil
theorem Zb{es:List Expr}{f:HM.AF}(ha:XE X e fa)(hr:XA X es f)(hs:ZwJ (e::es) X.env=(false,eval e X.env)::ZwJ es X.env:=by rfl):XA X (e::es) (HM.Zd fa f):=by
 refine⟨λr ds h=>?_,λr ds h=>?_⟩
 ·unfold HM.Zd at h
  split at h
  ·obtain⟨xs,h1,h2⟩:=Zwx.mp h
   subst h2;rw[ZwM,ZwM,hr.len r xs h1]
  ·cases h
 unfold HM.Zd at h;split at h
 ·rename_i x hx
  obtain⟨xs,h1,h2⟩:=Zwx.mp h;subst h2;refine PA.imp (Z9 (ha r x hx) (hr.pa r xs h1) hs) λσ H Q ⟨F0,H0,F,at_,k⟩=>?_;exact⟨F0,H0,F,at_,λv F1 H1 x1 r1=>⟨F0,H0,F1,at_.grow x1,λvs F2 H2 x2 r2=>k (v::vs) F2 H2 (x1.trans x2) (.cons (r1.mono x2.ff) r2)⟩⟩
 ·cases h
theorem Zeg{es:List Expr}{f:HM.AF}{x1:Nat}(h:XA X es f)(hl:es.length<=100:=by exact Nat.le_of_ble_eq_true rfl):XE X (.Tuple es x1 pos) (HM.Zgd f):=by
 intro r d hd;obtain⟨ds,h1,h2⟩:=Zwx.mp hd;subst h2;refine PE.imp (ZuW (h.pa r ds h1)) λσ H Q ⟨F0,H0,F,at_,k⟩=>⟨F0,H0,F,at_,λvs F1 H1 x1 r1=>⟨?_,λp hp=>?_⟩⟩
 ·have e1:=h.len r ds h1
  have e2:=r1.1;have e3:(100:Nat)<=sizeLine:=by decide
  omega
 ·have hF:F1 p=none:=x1.sub.free hp
  exact k _ (upd F1 p (.tup vs)) _ (x1.lay hp) (.tup ZA r1.1 (r1.mono (Zo.upd' hF)).2)
theorem Zcm{es:List Expr}{f:HM.AF}(h:XA X es f)(hl:es.length<=100:=by exact Nat.le_of_ble_eq_true rfl):XF X (.List es pos) (HM.Zfm f):=by
 intro r d hd;obtain⟨ds,h1,h2⟩:=Zwx.mp hd;subst h2;refine PE.imp (ZuU (h.pa r ds h1)) λσ H Q ⟨F0,H0,F,at_,k⟩=>⟨F0,H0,F,at_,λvs F1 H1 x1 r1=>⟨?_,λp hp=>?_⟩⟩
 ·have e1:=h.len r ds h1
  have e2:=r1.1;have e3:(100:Nat)<=sizeLine:=by decide
  omega
 ·have hF:F1 p=none:=x1.sub.free hp
  refine k _ F1 _ (x1.lay' hp) ⟨[p],.ol ZA r1,by simp,λa ha=>?_⟩;have:a=p:=by simpa using ha
  subst this;exact⟨hF,x1.hh.free hp⟩
end
end HP
namespace HP
open PySem PySem.Spec PyProof.Rows L2
variable[FX]
section
variable{X:Cx}{a b c e:Expr}{fa fb fc:HM.EF}{pos p:Pos}{st:Stmt}{rest:List Stmt}{g u:HM.SF}
theorem ZhU(h:X.xe=λ_ _=>False):PassesOwn (model X.prog X.w) X.A X.env X.xe:=by rw[h]; exact PassesOwn.never
theorem Z0:XSs X [] HM.Zau:=by intro r o h;cases h;exact PSs.imp Ztp λE σ H ⟨F0,H0,F,at_,k⟩=>k σ F H at_
theorem Zk(h:XS X st g):XSs X [st] g:=λr o ho=>Zol (h r o ho)
theorem Zf(h1:XS X st g)(h2:XSs X rest u):XSs X (st::rest) (HM.Zv g u):=by
  intro r o h
  unfold HM.Zv at h
  split at h
  · rename_i r' q
    refine PSs.imp (ZgX (h1 r _ q) (h2 r' o h)) λE σ H ⟨F0,H0,F,at_,k⟩=>?_
    exact⟨F0,H0,F,at_,λσ' F' H' at'=>⟨F0,H0,F',at',k⟩⟩
  all_goals first
    | cases h
      rename_i q
      refine PSs.imp (ZgX (h1 r _ q) ZfJ) λE σ H ⟨F0,H0,F,at_,k⟩=>?_
      exact⟨F0,H0,F,at_,k⟩
    | cases h
theorem Zlu:XS X st HM.ZhR:=λr o h=>nomatch h
theorem Zx(h:XE X e fa):XS X (.Return (some e) pos) (HM.ZB fa):=by intro r o ho;obtain⟨d,h1,h2⟩:=Zwx.mp ho;subst h2;refine PS.imp (Zm6 (h r d h1)) λE σ H ⟨F0,H0,F,at_,k⟩=>?_;exact⟨F0,H0,F,at_,λv F' H' x q=>k v F' H' (at_.ext.trans x) q⟩
theorem Zoe(h:XE X e fa)(hs:ZyJ e none pos.line X.env=pure false:=by rfl):XS X (.Expr e pos) (HM.ZpB fa):=by intro r o ho;obtain⟨d,h1,h2⟩:=Zwx.mp ho;subst h2;refine PS.imp (Zgv (h r d h1) hs) λE σ H ⟨F0,H0,F,at_,k⟩=>?_;exact⟨F0,H0,F,at_,λv F' H' x q=>k σ F' H' (at_.grow x)⟩
theorem ZaI{t:HM.TF}{sa sb:List Stmt}(hc:XT X c t)(ha:XSs X sa g)(hb:XSs X sb u):XS X (.If c sa sb pos) (HM.sIf t g u):=by
 intro r o ho;unfold HM.sIf at ho;split at ho
 ·rename_i q
  refine PS.imp (Zsr (hc r _ q) (ha r o ho) ZfJ) λE σ H ⟨F0,H0,F,at_,k⟩=>?_;exact⟨F0,H0,F,at_,λF' H' x=>Zi9 ⟨F0,H0,F',at_.grow x,k⟩⟩
 ·rename_i q
  refine PS.imp (Zsr (hc r _ q) ZfJ (hb r o ho)) λE σ H ⟨F0,H0,F,at_,k⟩=>?_;exact⟨F0,H0,F,at_,λF' H' x=>Zi5 ⟨F0,H0,F',at_.grow x,k⟩⟩
 ·cases ho
theorem Zgf(i:Nat)(h:XS X st g):XS X st (HM.Zh1 i g):=by intro r o ho;refine PS.imp (h (HM.Zjm i r) o ho) λE σ H ⟨F0,H0,F,at_,k⟩=>?_;obtain⟨F',_,_,a'⟩:=at_.freeze i;exact⟨F0,H0,F',a',k⟩
theorem Z1(i:Nat){x:Str}{p':Pos}(hN:X.N.Nodup)(h:XE X e fa)(hi:X.N[i]?=some x:=by rfl)(hx:Loc X.env.scope x:=by first | exact Zxl rfl | exact Zw6 rfl)
  (hs:ZyJ e (some (.Name x p')) pos.line X.env=pure false:=by rfl) (hf:X.fn x=true\/X.env.scope.names.lookup x=some .local:=by first | exact .inl rfl | exact .inr rfl) :
  XS X (.Assign [.Name x p'] e pos) (HM.Zai i fa):=by
 intro r o ho;obtain⟨d,h1,h2⟩:=Zwx.mp ho;subst h2;refine PS.imp (ZmM hN hi hx (h r d h1) hs hf) λE σ H ⟨F0,H0,F,at_,k⟩=>?_;exact⟨F0,H0,F,at_,λv F' H' x q=>k _ F' H' ((at_.grow x).set q)⟩
theorem ZaC(i:Nat){x:Str}{p':Pos}{f:HM.BF}(hN:X.N.Nodup)(h:XF X e f)(hi:X.N[i]?=some x:=by rfl)(hx:Loc X.env.scope x:=by first | exact Zxl rfl | exact Zw6 rfl)
  (hs:ZyJ e (some (.Name x p')) pos.line X.env=pure false:=by rfl) (hf:X.fn x=true\/X.env.scope.names.lookup x=some .local:=by first | exact .inl rfl | exact .inr rfl) :
  XS X (.Assign [.Name x p'] e pos) (HM.ZY i f):=by
 intro r o ho;obtain⟨d,h1,h2⟩:=Zwx.mp ho;subst h2;refine PS.imp (ZmM hN hi hx (h r d h1) hs hf) λE σ H ⟨F0,H0,F,at_,k⟩=>?_;exact⟨F0,H0,F,at_,λv F' H' x ⟨fp,q,nd,hn⟩=>k _ F' H' ((at_.grow x).storeNew at_ x.hh q nd hn)⟩
theorem ZbO(i:Nat){x:Str}{p':Pos}{iter:Expr}{body:List Stmt}{fi:HM.IF}(hN:X.N.Nodup)(hxe:X.xe=λ_ _=>False)(hc:X.calm=true)(hi:XI X (.Name x p') iter fi)(hb:XSs X body g)(hix:X.N[i]?=some x:=by rfl)
  (hx:Loc X.env.scope x:=by first | exact Zxl rfl | exact Zw6 rfl) (hf:X.fn x=true\/X.env.scope.names.lookup x=some .local:=by first | exact .inl rfl | exact .inr rfl)
  (hs:∀x,Zyn iter X.env x=pure x:=by intro _; rfl):XS X (.For (.Name x p') iter body [] pos) (HM.Zbl i fi g):=by
 intro r o ho;unfold HM.Zbl at ho;split at ho
 ·rename_i ds hds
  split at ho
  ·rename_i hbig
   have pb:PSs X body (λE σ H=>∃r o,g r=some o/\tSt X.K r o E σ H):=λpins s σ H E I ⟨r,o,h1,h2⟩=>hb r o h1 pins s σ H E I h2;refine PS.imp (Zq5 (ZhU hxe) hc (hi r ds hds) (Ziv hN hix hx hf) pb hs) λE σ H ⟨F0,H0,F,at_,k⟩=>?_;refine⟨F0,H0,F,at_,λJ F1 H1 x1 it=>?_⟩;refine⟨λn m σ H=>∃F r,At X.K F0 H0 F H r σ/\Zo F1 F/\n+m=ds.length/\HM.Z5 i g (ds.drop n) r=some o,⟨ds.length,F1,r,at_.grow x1,Zo.refl _,by omega,ho⟩,?_⟩
   rintro n m σ H ⟨F2,r2,at2,s2,hn,go⟩
   obtain⟨it1,it2⟩:=it F2 H s2 at2.sub;cases m with
   | zero =>
    have e:n=ds.length:=by omega
    subst e;rw[ZAy]at go;cases go;exact .inl ⟨it2,k σ F2 H at2⟩
   | succ m =>
    have hlt:n<ds.length:=by omega
    rw[Zzc hlt]at go;obtain⟨j1,j2⟩:=it1 n ds[n] (ZwN hlt);refine .inr ⟨j1,λσ' H'=>∃F r,At X.K F0 H0 F H' r σ'/\Zo F1 F/\HM.Z5 i g (ds.drop (n+1)) r=some o,λσ' H' ⟨F,r,a1,a2,a3⟩=>⟨m,by omega,F,r,a1,a2,by omega,a3⟩,λy H' hy=>?_⟩;obtain⟨e1,ry⟩:=j2 y H' hy;subst e1;obtain⟨F3,at3,s3,ry⟩:∃F3,At X.K F0 H0 F3 H' r2 σ/\Zo F1 F3/\Rep X.K F3 ds[n] y:=⟨_,at2.grow at2.refl.tups,s2.trans (Zcy at2.sub),ry⟩;have a3:=at3.set (i:=i) ry;have a4:=a3.rebase;unfold HM.Z5 at go;split at go
    ·rename_i r' hr
     exact⟨_,_,hr,F3,H0,F3,a4,λσ' F' H' a'=>⟨F',r',a'.unbase at3.ext at3.nt0,s3.trans a'.ext.ff,go⟩⟩
    ·rename_i r' hr
     exact⟨_,_,hr,F3,H0,F3,a4,λσ' F' H' a'=>⟨F',r',a'.unbase at3.ext at3.nt0,s3.trans a'.ext.ff,go⟩⟩
    ·rename_i r' hr
     cases go;exact⟨_,_,hr,F3,H0,F3,a4,λσ' F' H' a'=>k σ' F' H' (a'.unbase at3.ext at3.nt0)⟩
    ·rename_i d hr
     cases go;exact⟨_,_,hr,F3,H0,F3,a4,λv F' H' x q=>k v F' H' (at3.ext.unbase x) q⟩
    ·cases go
  ·cases ho
 ·cases ho
end
def spD(K:Zww)(n:Nat)(M:List PyData->Option PyData):Sp:=λvs H Q _=>∃F ds d,vs.length=n/\Zo F H/\Tb H/\NoT F/\Zq K F ds vs/\M ds=some d/\∀v F' H',Ext F H F' H'->Rep K F' d v->Q v H'
structure Callee(P:Program)(w:World)(K:Zww)(mg:Str->Option Value)(base:Heap)(k:Nat)(x:Str)(M:List PyData->Option PyData):Prop where
 ex:∃f fd ps,(∀ds d,M ds=some d->ds.length=ps.length)/\ZcQ P w K mg base CX0 k f fd ps (spD K ps.length M)/\mg x=some (.ref f)/\ZxP K (.ref f)=true/\Binds K fd ps []
theorem Callee.mono{P:Program}{w:World}{K:Zww}{mg:Str->Option Value}{base:Heap}{j k:Nat}{x:Str}{M:List PyData->Option PyData}(C:Callee P w K mg base j x M)(h:j<=k):Callee P w K mg base k x M:=by obtain⟨f,fd,ps,l,F,r⟩:=C.ex;exact⟨f,fd,ps,l,F.mono h,r⟩
section
variable{X:Cx}{pos p:Pos}{e:Expr}{es:List Expr}{f:HM.AF}
theorem Zl{k:Nat}{x:Str}{M:List PyData->Option PyData}(C:Callee X.prog X.w X.K X.mg X.base k x M)(hr:Zao k X.A)(ha:XA X (e::es) f)(hg:Gl X x:=by rfl)(hdb:(x==("__debug__":Str))=false:=by decide)
  (he:ZwJ (e::es) X.env=(false,eval e X.env)::ZwJ es X.env:=by rfl) (hpl:(backTo pos (ZwJ es X.env)).any (·.1)=false:=by rfl):XE X (.Call (.Name x p) (e::es) [] pos) (HM.Zm M f):=by
 intro r d hd;unfold HM.Zm at hd;split at hd
 ·rename_i ds hds
  obtain⟨fa,fd,ps,hl,F,hm,hk,hb⟩:=C.ex;refine PE.imp (ZjU (E:=E0) F hr hg hm hk hb .nil Zps (ha.pa r ds hds) hdb he hpl) λσ H Q ⟨F0,H0,F1,at_,k⟩=>?_;refine⟨F0,H0,F1,at_,λvs F' H' x q=>?_⟩;show spD X.K ps.length M (vs++[]) H' Q E0;rw[Zxc];exact⟨F',ds,d,by rw[<-q.1]; exact hl ds d hd,x.sub,at_.tbx x,at_.ntx x,q,hd,λv F2 H2 x2 q2=>k v F2 H2 (x.trans x2) q2⟩
 ·cases hd
end
theorem Zfs{K:Zww}{F H:Hp}{N:List Str}{ds:List PyData}{vs:List V}(s:Zo F H)(tb:Tb H)(nt:NoT F)(q:Zq K F ds vs)(hl:ds.length<=N.length):At K F H F H (HM.ZdM N.length ds) (L2.start N vs):=by
 have hv:=q.1;refine⟨λ_=>[],.refl s,?_,λi b h=>?_,λ_ _=>rfl,λi a h=>by simp at h,λ_=>Zx4,λi j a _ h=>by simp at h,tb,nt⟩
 ·unfold HM.ZdM L2.start
  rw[ZwR,ZwR,Zwy,Zwy,Zxe,Zxe,hv]
 ·unfold HM.ZdM at h
  by_cases hi:i<ds.length
  ·rw[Zxg (by rw[Zwy]; exact hi),ZwZ,ZwN hi]at h
   cases h;obtain⟨v,h1,h2⟩:=q.get (ZwN hi);refine⟨v,?_,.pl h2⟩;unfold L2.start;rw[Zxg (by rw[Zwy,<-hv]; exact hi),ZwZ,h1];rfl
  ·rw[Zxb (by rw[Zwy]; omega),ZyR]at h
   split at h<;>cases h
theorem ZoL{P:Program}{w:World}{K:Zww}{mg:Str->Option Value}{base:Heap}{k:Nat}{x qual:Str}{st:Stmt}{f:Addr}{fd:FuncData}{N ps:List Str}{g:HM.SF}(Fn:Fun K x qual st f fd)(S:Zu N ps (Ze st))
  (body:∀(cdv:Value) (A:Around) (outer:List Env) (s:Shared) (H:Hp) (E:XK),Zao k (A.deeper (envOfC qual (Ze st) s.heap.objs.size f cdv))->XSs (Zfk CX0 P w K mg base N qual (Ze st) f cdv A outer s H E).nox (Zaw st) g) :
  ZcQ P w K mg base CX0 (k+1) f fd ps (spD K ps.length (HM.fnOf ps.length N.length g)):=by
 have hpl:ps.length<=N.length:=by have:=congrArg Zxd S.pre; rw[Zx0]at this; omega
 refine Fn.ok S (λvs H Q E h=>?_) (λcdv A outer s H vs Q E hr h=>?_)
 ·obtain⟨_,_,_,h,_⟩:=h
  exact h
 ·obtain⟨F,ds,d,hl,sub,tb,nt,q,hM,kk⟩:=h
  unfold HM.fnOf at hM;split at hM
  ·rename_i hds
   have a0:=Zfs (N:=N) sub tb nt q (by omega);split at hM
   ·rename_i r hr'
    cases hM;exact⟨_,body cdv A outer s H E hr _ _ hr',F,H,F,a0,λσ F' H' a'=>kk .non F' H' a'.ext .non⟩
   ·rename_i d' hr'
    cases hM;exact⟨_,body cdv A outer s H E hr _ _ hr',F,H,F,a0,λv F' H' x q=>kk v F' H' x q⟩
   ·cases hM
  ·cases hM
theorem Zs{P:Program}{w:World}{K:Zww}{mg:Str->Option Value}{base:Heap}{k:Nat}{x qual:Str}{st:Stmt}{f:Addr}{fd:FuncData}{N ps:List Str}{g:HM.SF}(Fn:Fun K x qual st f fd)(S:Zu N ps (Ze st))(hm:mg x=some (.ref f))(hb:Binds K fd ps [])
  (body:∀(cdv:Value) (A:Around) (outer:List Env) (s:Shared) (H:Hp) (E:XK),Zao k (A.deeper (envOfC qual (Ze st) s.heap.objs.size f cdv))->XSs (Zfk CX0 P w K mg base N qual (Ze st) f cdv A outer s H E).nox (Zaw st) g) :
  Callee P w K mg base (k+1) x (HM.fnOf ps.length N.length g):=by
 refine⟨f,fd,ps,λds d h=>?_,ZoL Fn S body,hm,Fn.kp,hb⟩;unfold HM.fnOf at h;split at h
 ·assumption
 ·cases h
end HP
namespace HP
open PySem PySem.Spec PyProof.Rows L2
variable[FX]
section
variable{X:Cx}{a b c e:Expr}{fa fb fc:HM.EF}{pos p:Pos}
theorem Zfl{h:Int->Int->Option PyData}{x y z:PyData}(e:HM.Zey h x y=some z):∃i j,x=.int i/\y=.int j/\h i j=some z:=by
 unfold HM.Zey at e;split at e
 ·exact⟨_,_,rfl,rfl,e⟩
 ·cases e
theorem Zm7{K:Zww}{g:Int->Int->V}{h:Int->Int->PyData}(hr:∀F i j,Rep K F (h i j) (g i j)):Bin K (rI0 g) (HM.Zey λi j=>some (h i j)):=by intro F H x y z v w Q s e r1 r2 k;obtain⟨i,j,rfl,rfl,e⟩:=Zfl e;cases e;exact⟨i,j,r1.int_inv,r2.int_inv,k _ (hr F i j)⟩
theorem ZbI:ZmA X .Add HM.Zbm:=⟨_,ZuZ,Zm7 λ_ _ _=>.int _⟩
theorem Zmw:ZmA X .Sub HM.Zf3:=⟨_,ZuK,Zm7 λ_ _ _=>.int _⟩
theorem Zd0:ZmA X .Mult HM.ZcB:=by
 refine⟨_,Zuq,λF H x y z v w Q s e r1 r2 k=>?_⟩;obtain⟨i,j,rfl,rfl,e'⟩:=Zfl e;split at e'
 ·rename_i hs
  cases e';refine⟨i,j,r1.int_inv,r2.int_inv,?_,k _ (.int _)⟩;unfold HM.ZQ at hs;rw[Zx6,Zzn,Zzn]at hs;unfold Zpv;omega
 ·cases e'
theorem oMod:ZmA X .Mod HM.ZrB:=by
 refine⟨_,ZtY,λF H x y z v w Q s e r1 r2 k=>?_⟩;obtain⟨i,j,rfl,rfl,e'⟩:=Zfl e;split at e'
 ·rename_i hs
  cases e';exact⟨i,j,r1.int_inv,r2.int_inv,hs,k _ (.int _)⟩
 ·cases e'
theorem cLt:Zgc X .Lt HM.gLt:=⟨⟨_,Zvu,Zm7 λ_ _ _=>.bl _⟩,by decide,by decide⟩
theorem cLe:Zgc X .LtE HM.gLe:=⟨⟨_,Zvj,Zm7 λ_ _ _=>.bl _⟩,by decide,by decide⟩
theorem cGt:Zgc X .Gt HM.gGt:=⟨⟨_,Zvk,Zm7 λ_ _ _=>.bl _⟩,by decide,by decide⟩
theorem Rep.non_iff{K:Zww}{F:Hp}{d:PyData}{v:V}(h:Rep K F d v):decide (v=.non)=match d with | .none=>true | _=>false:=by cases h<;>first | rfl | exact decide_eq_false (λz=>nomatch z)
theorem Zum:Zgc X .Is HM.Znh:=by
 refine⟨⟨_,ZuQ,λF H x y z v w Q s e r1 r2 k=>?_⟩,by decide,by decide⟩;unfold HM.Znh at e;split at e
 ·refine⟨r2.none_inv,k _ ?_⟩
  rw[r1.non_iff];split at e
  ·cases e; exact .bl _
  ·rename_i hx
   cases e;cases x<;>first | exact .bl _ | exact absurd rfl hx
 ·cases e
theorem Zpb:Zgc X .IsNot HM.ZfK:=by
 refine⟨⟨_,Zs1,λF H x y z v w Q s e r1 r2 k=>?_⟩,by decide,by decide⟩;unfold HM.ZfK at e;split at e
 ·refine⟨r2.none_inv,k _ ?_⟩
  rw[r1.non_iff];split at e
  ·cases e; exact .bl _
  ·rename_i hx
   cases e;cases x<;>first | exact .bl _ | exact absurd rfl hx
 ·cases e
theorem Zf2{h:Heap}:∀{ds:List PyData} {us:List Value},ds.length=us.length->(∀(i:Nat) d u,ds[i]?=some d->us[i]?=some u->∃as,Reads h u d as)->∃as,ReadsAll h us ds as
 | [],[],_,_=>⟨[],.nil⟩
 | [],_::_,hl,_=>by simp at hl
 | _::_,[],hl,_=>by simp at hl
 | d::ds,u::us,hl,k=>by obtain⟨as,h1⟩:=k 0 d u rfl rfl;obtain⟨bs,h2⟩:=Zf2 (ds:=ds) (us:=us) (by simpa using hl) λi d u e1 e2=>k (i+1) d u (by simpa using e1) (by simpa using e2);exact⟨_,.cons h1 h2⟩
theorem ZoF:∀{ds:List PyData},ZyY ds=true->∀{i:Nat} {d:PyData},ds[i]?=some d->d.canLay0=true
 | [],_,i,d,e=>by simp at e
 | x::ds,h,i,d,e=>by
  have h':(x.canLay0&&ZyY ds)=true:=h;rw[ZwU]at h';cases i with
  | zero=>rw[ZyS]at e; cases e; exact h'.1
  | succ i=>rw[Zw8]at e; exact ZoF h'.2 e
theorem Zmu{ds:List PyData}(h:ZyY ds=true){i:Nat}{d:PyData}(e:ds[i]?=some d):d.canLay0=true:=ZoF h e
theorem Rep.reads{pins:List (Addr × Obj)}{s:Shared}{σ:L2.St}{H F:Hp}{d:PyData}{v:V}(I:Inv X pins σ H s)(sub:Zo F H)(r:Rep X.K F d v):d.canLay0=true->∀u,RelV v u->∃as,Reads s.heap u d as:=by
 induction r with
 | non=>intro _ u ru; cases ru; exact⟨[],.none⟩
 | bl b=>intro _ u ru; cases ru; exact⟨[],.bool b⟩
 | int i=>intro _ u ru; obtain⟨t,rfl⟩:=ru; exact⟨[],.int i t⟩
 | str x=>intro _ u ru; obtain⟨t,rfl⟩:=ru; exact⟨[],.str x t⟩
 | dct _ _ _ _ _=>intro z; cases z
 | fn _=>intro z; cases z
 | @tupk a x h=>intro z u ru;cases ru;obtain⟨its,rv,⟨o,ho,hc,n,hd⟩,_⟩:=I.tuple (.inr h);obtain⟨u,rfl,t,rfl⟩:=rv.one;exact⟨_,.tuple ho hc hd (by simpa using ReadsAll.cons (.str x t) .nil)⟩
 | @tup a ds vs h hl _ ih =>
  intro z u ru;cases ru;obtain⟨its,rv,⟨o,ho,hc,n,hd⟩,_⟩:=I.tuple (.of (sub _ _ h));obtain⟨as,hr⟩:=Zf2 (h:=s.heap) (ds:=ds) (us:=its) (hl.trans rv.length) λi d u e1 e2=>by
   have hi:i<vs.length:=by rw[<-hl]; exact(ZwI.mp e1).1
   obtain⟨u',q1,q2⟩:=rv.get (ZwN hi);rw[e2]at q1;cases q1;exact ih i d _ e1 (ZwN hi) (Zmu z e1) u q2
  exact⟨_,.tuple ho hc hd (by simpa using hr)⟩
 | @lst a ds vs h hl _ ih =>
  intro z u ru;cases ru;obtain⟨its,rv,⟨o,n,ho,hc,_,hd⟩,_⟩:=I.list (sub.seq h);obtain⟨as,hr⟩:=Zf2 (h:=s.heap) (ds:=ds) (us:=its) (hl.trans rv.length) λi d u e1 e2=>by
   have hi:i<vs.length:=by rw[<-hl]; exact(ZwI.mp e1).1
   obtain⟨u',q1,q2⟩:=rv.get (ZwN hi);rw[e2]at q1;cases q1;exact ih i d _ e1 (ZwN hi) (Zmu z e1) u q2
  exact⟨_,.list ho hc hd (by simpa using hr)⟩
def Zv8(K:Zww)(neg:Bool):R2:=λv w H Q=>∃F x y,Zo F H/\Rep K F x v/\Rep K F y w/\HM.Zcq x=true/\HM.Zcq y=true/\Q (.bl (if neg then !PyData.eqv x y else Zzm x y)) H
theorem ZjE{d:PyData}(h:HM.Zcq d=true):d.canLay0=true/\d.depth<=60:=by unfold HM.Zcq at h;simpa using h
theorem Zvr{k:Nat}(hr:Zao k X.A):OpR X (ZxK .Eq) (Zv8 X.K false):=by intro pins s σ H v w u u' Q I r1 r2 ⟨F,x,y,sub,q1,q2,p1,p2,q⟩;obtain⟨a1,a2⟩:=ZjE p1;obtain⟨b1,b2⟩:=ZjE p2;obtain⟨as,h1⟩:=q1.reads I sub a1 u r1;obtain⟨bs,h2⟩:=q2.reads I sub b1 u' r2;refine PySem.SeqAt.eqOverData X.prog X.w X.A X.xe s u u' x y as bs _ h1 h2 a1 b1 ?_ ⟨.bl _,H,I,rfl,q⟩;have:=hr.un;have:min x.depth y.depth<=60:=Zxs (Nat.min_le_left _ _) a2;omega
theorem cEq{k:Nat}(hr:Zao k X.A):Zgc X .Eq HM.gEq:=by
 refine⟨⟨_,Zvr hr,λF H x y z v w Q s e r1 r2 k=>?_⟩,by decide,by decide⟩;unfold HM.gEq at e;split at e
 ·rename_i hp
  cases e;rw[ZwU]at hp;exact⟨F,x,y,s,r1,r2,hp.1,hp.2,k _ (.bl _)⟩
 ·cases e
theorem Zg6{K:Zww}{F H:Hp}{q:HM.B}{v:V}{fp:List Addr}{ds:List PyData}(sub:Zo F H)(r:ZZ K F H q v fp)(h:HM.ZcA q=some ds):∃a vs,v=.ref a/\(SqL K H a vs\/SqT K H a vs)/\Zq K F ds vs:=by
 cases r with
 | pl r =>
  cases r with
  | tup h1 h2 h3=>cases h; exact⟨_,_,rfl,.inr (.of (sub _ _ h1)),h2,h3⟩
  | @tupk a x h1=>cases h; exact⟨_,_,rfl,.inr (.inr h1),.one (.str x)⟩
  | lst h1 h2 h3=>cases h; exact⟨_,_,rfl,.inl (sub.seq h1),h2,h3⟩
  | dct _ _ _ _=>cases h
  | fn _=>cases h
  | non=>cases h
  | bl _=>cases h
  | int _=>cases h
  | str _=>cases h
 | ol h1 r=>cases h; exact⟨_,_,rfl,.inl (.of h1),r⟩
 | ok _ _ _=>cases h
 | hd _ _ _ _=>cases h
 | hf _=>cases h
 | ot _ _ _=>cases h
 | otl _ _ _ _=>cases h
theorem Zs8{K:Zww}{F:Hp}{ds:List PyData}{vs:List V}{i:Int}{d:PyData}(r:Zq K F ds vs)(h:HM.atD ds i=some d):∃v,atI vs i=some v/\Rep K F d v:=by
 unfold HM.atD at h;split at h
 ·rename_i j hj
  obtain⟨v,h1,h2⟩:=r.get h;refine⟨v,?_,h2⟩;unfold atI;rw[<-r.1,show ixN ds.length i=some j from hj];exact h1
 ·cases h
theorem ZX{fb':HM.BF}(ha:XB X a fb')(hb:XE X b fb)(hs:Zoh b:=by intro _ _; rfl):XE X (.Subscript a b pos) (HM.eIx fb' fb):=by
 intro r d h;unfold HM.eIx at h;split at h
 ·rename_i x hx
  split at h
  ·rename_i ds hds
   split at h
   ·rename_i i hi
    refine PE.imp (Zu8 ZuP (ha r x hx) (hb r _ hi) hs) λσ H Q ⟨F0,H0,F,at_,k⟩=>?_;refine⟨F0,H0,F,at_,λv F1 H1 x1 ⟨fp,r1⟩=>⟨F0,H0,F1,at_.grow x1,λw F2 H2 x2 r2=>?_⟩⟩;obtain⟨l,vs,e1,hq,rs⟩:=Zg6 x2.sub (r1.mono x2.ff λ_ _ _ z=>x2.hh _ _ z) hds;obtain⟨u,hu,ru⟩:=Zs8 rs h;have fin:=k u F2 H2 (x1.trans x2) ru;rcases hq with hq | hq
    ·exact .inl ⟨l,vs,i,u,e1,r2.int_inv,hq,hu,fin⟩
    ·exact .inr (.inl ⟨l,vs,i,u,e1,r2.int_inv,hq,hu,fin⟩)
   ·cases h
  ·cases h
 ·cases h
def PAB(X:Cx)(e:Expr)(r:HM.Env)(q:HM.B):Prop:=PA X [e] λσ H Q=>Now X.K r σ H λF0 H0 F=>∀v fp F' H',Ext F H F' H'->ZZ X.K F' H' q v fp->Q [v] H'
theorem Zel{f:HM.BF}{r:HM.Env}{q:HM.B}(ha:XB X e f)(h:f r=some q)(hs:ZwJ [e] X.env=[(false,eval e X.env)]:=by rfl):PAB X e r q:=by refine PA.imp (Z9 (ha r q h) Zbv hs) λσ H Q ⟨F0,H0,F,at_,k⟩=>?_;exact⟨F0,H0,F,at_,λv F1 H1 x1 ⟨fp,r1⟩=>k v fp F1 H1 x1 r1⟩
end
end HP
namespace HP
open PySem PySem.Spec PyProof.Rows L2
variable[FX]
theorem ZtS:Zxo "all" = some (.builtin "all"):=by decide +kernel
theorem ZuF:Zxo "len" = some (.builtin "len"):=by decide +kernel
theorem ZqW:Zxo "max" = some (.builtin "max"):=by decide +kernel
theorem ZqM:Zxo "min" = some (.builtin "min"):=by decide +kernel
theorem ZkB:Zxo "sorted" = some (.builtin "sorted"):=by decide +kernel
theorem Zlg:Zxo "isinstance" = some (.builtin "isinstance"):=by decide +kernel
theorem ZmX:Zxo "int" = some (.type "int"):=by decide +kernel
theorem ZsG:Zxo "bool" = some (.type "bool"):=by decide +kernel
theorem ZsN:Zxo "list" = some (.type "list"):=by decide +kernel
theorem ZiX:Zxo "tuple" = some (.type "tuple"):=by decide +kernel
theorem Zui:Zxo "set" = some (.type "set"):=by decide +kernel
section
variable{X:Cx}{a b c e:Expr}{fa fb fc:HM.EF}{pos p:Pos}{f:HM.BF}
theorem ZbP(hm:X.mg "len" = none)(ha:XB X a f)(hg:Gl X "len":=by rfl)(hs:ZwJ [a] X.env=[(false,eval a X.env)]:=by rfl):XE X (.Call (.Name "len" p) [a] [] pos) (HM.Zbn f):=by
 intro r d h;unfold HM.Zbn at h;split at h
 ·rename_i x hx
  obtain⟨n,h1,h2⟩:=Zwx.mp h;subst h2;refine PE.imp (ZcO (Zmm.or Zqp) hg hm ZuF (Zel ha hx hs) (he:=hs)) λσ H Q ⟨F0,H0,F,at_,k⟩=>?_;refine⟨F0,H0,F,at_,λv fp F1 H1 x1 r1=>?_⟩;have fin:=λ(m:Nat) (e:m=n)=>k (.int m) F1 H1 x1 (by rw[e]; exact .int _);cases r1 with
  | pl q =>
   cases q with
   | tup q1 q2 q3=>cases h1; exact .inl ⟨_,_,rfl,.inr (.of (x1.sub _ _ q1)),fin _ q2.symm⟩
   | tupk q1=>cases h1; exact .inl ⟨_,_,rfl,.inr (.inr q1),fin _ rfl⟩
   | lst q1 q2 q3=>cases h1; exact .inl ⟨_,_,rfl,.inl (x1.sub.seq q1),fin _ q2.symm⟩
   | dct _ _ _ _=>cases h1
   | fn _=>cases h1
   | non=>cases h1
   | bl _=>cases h1
   | int _=>cases h1
   | str _=>cases h1
  | ol q1 q2=>cases h1; exact .inl ⟨_,_,rfl,.inl (.of q1),fin _ q2.1.symm⟩
  | ok q1 q2 q3=>cases h1;refine .inr ⟨_,_,rfl,q1,fin _ ?_⟩;have:=congrArg Zxd q2;rw[Zwy,Zwy]at this;exact this.symm
  | ot _ _ _=>cases h1
  | otl _ _ _ _=>cases h1
  | hd _ _ _ _=>cases h1
  | hf _=>cases h1
 ·cases h
theorem Z7(hm:X.mg "tuple" = none)(ha:XB X a f)(hg:Gl X "tuple":=by rfl)(hs:ZwJ [a] X.env=[(false,eval a X.env)]:=by rfl):XE X (.Call (.Name "tuple" p) [a] [] pos) (HM.Zag f):=by
 intro r d h;unfold HM.Zag at h;split at h
 ·rename_i x hx
  obtain⟨ds,h1,h2⟩:=Zwx.mp h;subst h2;refine PE.imp (ZcT Zle hg hm ZiX (Zel ha hx hs) (he:=hs)) λσ H Q ⟨F0,H0,F,at_,k⟩=>?_;refine⟨F0,H0,F,at_,λv fp F1 H1 x1 r1=>?_⟩;have new:∀(vs:List V),Zq X.K F1 ds vs->∀l,H1 l=none->Q (.ref l) (upd H1 l (.tup vs)):=λvs q l hl=>k _ (upd F1 l (.tup vs)) _ (x1.lay hl) (.tup ZA q.1 (q.mono (Zo.upd' (x1.sub.free hl))).2);cases r1 with
  | pl q =>
   cases q with
   | tup q1 q2 q3=>cases h1; exact⟨_,_,rfl,.inr ⟨.of (x1.sub _ _ q1),k _ F1 H1 x1 (.tup q1 q2 q3)⟩⟩
   | tupk q1=>cases h1; exact⟨_,_,rfl,.inr ⟨.inr q1,k _ F1 H1 x1 (.tupk q1)⟩⟩
   | lst q1 q2 q3=>cases h1; exact⟨_,_,rfl,.inl ⟨x1.sub.seq q1,new _ ⟨q2,q3⟩⟩⟩
   | dct _ _ _ _=>cases h1
   | fn _=>cases h1
   | non=>cases h1
   | bl _=>cases h1
   | int _=>cases h1
   | str _=>cases h1
  | ol q1 q2=>cases h1; exact⟨_,_,rfl,.inl ⟨.of q1,new _ q2⟩⟩
  | ok _ _ _=>cases h1
  | ot _ _ _=>cases h1
  | otl _ _ _ _=>cases h1
  | hd _ _ _ _=>cases h1
  | hf _=>cases h1
 ·cases h
theorem Zd2{K:Zww}{F H F1 H1:Hp}{ds:List PyData}{vs:List V}{l:Addr}{P:V->Hp->Hp->Prop}(x1:Ext F H F1 H1)(q:Zq K F1 ds vs)(hl:H1 l=none)
  (k:∀v F' H',Ext F H F' H'->(∃fp,ZZ K F' H' (.ol ds) v fp/\fp.Nodup/\∀a∈fp,F' a=none/\H a=none)->P v F' H'):P (.ref l) F1 (upd H1 l (.lst vs)):=by
 refine k _ F1 _ (x1.lay' hl) ⟨[l],.ol ZA q,by simp,λa ha=>?_⟩;have:a=l:=by simpa using ha
 subst this;exact⟨x1.sub.free hl,x1.hh.free hl⟩
theorem Zhk(hm:X.mg "list" = none)(ha:XB X a f)(hg:Gl X "list":=by rfl)(hs:ZwJ [a] X.env=[(false,eval a X.env)]:=by rfl):XF X (.Call (.Name "list" p) [a] [] pos) (HM.Zgr f):=by
 intro r d h;unfold HM.Zgr at h;split at h
 ·rename_i x hx
  obtain⟨ds,h1,h2⟩:=Zwx.mp h;subst h2;refine PE.imp (ZcT Zl5 hg hm ZsN (Zel ha hx hs) (he:=hs)) λσ H Q ⟨F0,H0,F,at_,k⟩=>?_;refine⟨F0,H0,F,at_,λv fp F1 H1 x1 r1=>?_⟩;obtain⟨l,vs,e1,hq,rs⟩:=Zg6 x1.sub r1 h1;subst e1;exact⟨l,vs,rfl,hq,λl' hl'=>Zd2 (P:=λv _ H'=>Q v H') x1 rs hl' k⟩
 ·cases h
theorem ZjL{K:Zww}{F:Hp}:∀{ds:List PyData} {vs:List V} {bs:List Bool},HM.Zeo ds=some bs->Zq K F ds vs->vs=bs.map V.bl
 | [],vs,bs,h,r=>by cases h;exact r.nil_inv
 | d::ds,vs,bs,h,r=>by
  obtain⟨v,us,rfl,r1,r2⟩:=r.cons_inv;cases d with
  | bool b=>obtain⟨bs',h1,h2⟩:=Zwx.mp h;subst h2;rw[r1.bool_inv,ZjL h1 r2];rfl
  | none=>cases h
  | int _=>cases h
  | str _=>cases h
  | list _=>cases h
  | tuple _=>cases h
  | dict _=>cases h
end
end HP
namespace HP
open PySem PySem.Spec PyProof.Rows L2
variable[FX]
section
variable{X:Cx}{a b c e:Expr}{fa fb fc:HM.EF}{pos p:Pos}{f:HM.BF}
theorem Zn2:∀{bs:List Bool} {us:List Value},Vals (bs.map V.bl) us->LSm.BoolsAre us bs:=by
 intro bs
 induction bs with
 | nil=>intro us r; rw[Zyx]at r; cases r; exact .nil
 | cons b bs ih =>
  intro us r;rw[ZwD]at r;cases r with
  | cons r1 r2=>cases r1;exact .cons b (ih r2)
theorem ZtN{A:Around}{s:Shared}{l:Addr}{vs:List Value}{bs:List Bool}{dflt:Bool}(hh:A.handled=none)(hl:s.heap.IsList l vs.toArray)(hb:LSm.BoolsAre vs bs){E:Value->Shared->Prop}{Q:Value->Shared->Prop}{prog:Program}{w:World}
  (h:∀it fp wr (P:Nat->Value->Prop) St,Walks prog w A it fp wr vs.length P St->St 0 (s.heap.push { cls:=.type "list_iterator",data:=.fields #[.ref l,rawInt 0] })->TruthOf prog w A P (λi=>(bs[i]?).getD dflt)->wr=[s.heap.objs.size]->it=s.heap.objs.size->Q (.ref it) { s with heap:=s.heap.push { cls:=.type "list_iterator",data:=.fields #[.ref l,rawInt 0] } }) :
  wpAny (model prog w) A (pyIter (.ref l)) Q E s:=by
 have hlt:l<s.heap.objs.size:=let ⟨_,e,_⟩:=hl; ZwL e
 refine ZAk hl ?_;have W:=Walks.list (prog:=prog) (w:=w) hh s.heap.objs.size l (ZwS hlt) vs.toArray;rw[ZwP]at W;refine h _ _ _ _ _ W ⟨⟨_,ZwO _ rfl,rfl,rfl⟩,hl.push _⟩ (λi v s' Q' E' hP hQ=>?_) rfl rfl;obtain⟨b,e,rfl⟩:=hb.get i v (by simpa using hP);simp only[e,Option.getD_some]at hQ;exact ZxU hQ
theorem Zqz(hc:X.calm=true):ZaJ X (.builtin "all") (λxs H Q=>∃(p:Addr) (bs:List Bool),xs=[.ref p]/\SqL X.K H p (bs.map V.bl)/\Q (.bl (bs.all id)) H):=by intro pins s σ H xs us Q I r h;obtain⟨p,bs,rfl,hq,q⟩:=h;obtain⟨u,rfl,rx⟩:=vals1 r;cases rx;obtain⟨its,rv,pl,hz⟩:=I.list hq;have hb:=Zn2 rv;refine call_all_walk (ZtN (dflt:=true) (A:=X.A.in1) (I.ok.hd hc) pl.isList hb λit fp wr P St W st tr e1 e2=>?_);subst e1 e2;refine⟨_,_,_,_,P,St,_,rfl,W,st,tr,λh' tk hk=>?_⟩;rw[hb.length,LSm.range_all bs];exact⟨.bl _,H,I.kept (LSm.kept_iter hk),rfl,q⟩
theorem Zfn{K:Zww}{F H:Hp}{q:HM.B}{v:V}{fp:List Addr}{ds:List PyData}(sub:Zo F H)(r:ZZ K F H q v fp)(h:HM.Zkh q=some ds):∃a vs,v=.ref a/\SqL K H a vs/\Zq K F ds vs:=by
 cases r with
 | pl r =>
  cases r with
  | lst h1 h2 h3=>cases h; exact⟨_,_,rfl,sub.seq h1,h2,h3⟩
  | dct _ _ _ _=>cases h
  | fn _=>cases h
  | tupk _=>cases h
  | tup _ _ _=>cases h
  | non=>cases h
  | bl _=>cases h
  | int _=>cases h
  | str _=>cases h
 | ol h1 r=>cases h; exact⟨_,_,rfl,.of h1,r⟩
 | ok _ _ _=>cases h
 | hd _ _ _ _=>cases h
 | hf _=>cases h
 | ot _ _ _=>cases h
 | otl _ _ _ _=>cases h
theorem Zgg(hm:X.mg "all" = none)(hc:X.calm=true)(ha:XB X a f)(hg:Gl X "all":=by rfl)(hs:ZwJ [a] X.env=[(false,eval a X.env)]:=by rfl):XE X (.Call (.Name "all" p) [a] [] pos) (HM.Zh3 f):=by
 intro r d h;unfold HM.Zh3 at h;split at h
 ·rename_i x hx
  split at h
  ·rename_i ds hds
   obtain⟨bs,h1,h2⟩:=Zwx.mp h;subst h2;refine PE.imp (ZcO (Zqz hc) hg hm ZtS (Zel ha hx hs) (he:=hs)) λσ H Q ⟨F0,H0,F,at_,k⟩=>?_;refine⟨F0,H0,F,at_,λv fp F1 H1 x1 r1=>?_⟩;obtain⟨l,vs,e1,hq,rs⟩:=Zfn x1.sub r1 hds;rw[ZjL h1 rs]at hq;exact⟨l,bs,by rw[e1],hq,k _ F1 H1 x1 (.bl _)⟩
  ·cases h
 ·cases h
theorem ZmR{tyn:String}{t:HM.Ty}(hr:∀(s:Shared) (d:PyData) (v:V) (u:Value) (Q:Value->Shared->Prop),RelV v u->(∃(K:Zww) (F:Hp),Rep K F d v)->(∀es,d≠.dict es)->(∀x,v=.ref x->∃o,s.heap.get? x=some o/\((∃ds,d=.tuple ds/\o.cls=.type "tuple")\/(∃ds,d=.list ds/\o.cls=.type "list")\/∃ds,d=.dict ds/\o.cls=.type "dict")) ->
   (∀tk,Q (.bool (HM.ZhJ t d)) { s with toks:=tk })->wpAny (model X.prog X.w) X.A (call (.builtin "isinstance") [u,.type tyn]) Q X.xe s) :
  ZaJ X (.builtin "isinstance") (λxs H Q=>∃F d v,xs=[v,.ty tyn]/\Zo F H/\Rep X.K F d v/\(∀es,d≠.dict es)/\Q (.bl (HM.ZhJ t d)) H):=by
 intro pins s σ H xs us Q I r h;obtain⟨F,d,v,rfl,sub,rp,nd,q⟩:=h;obtain⟨u,u',rfl,ru,ru'⟩:=vals2 r;cases(show u'=Zzj tyn from ru');refine hr s d v u _ ru ⟨_,_,rp⟩ nd (λx e=>?_) λtk=>⟨.bl _,H,I.tok tk,rfl,q⟩;subst e;cases rp with
 | tup h1 h2 h3=>obtain⟨its,rv,⟨o,ho,hc,n,hd⟩,_⟩:=I.tuple (.of (sub _ _ h1));exact⟨o,ho,.inl ⟨_,rfl,hc⟩⟩
 | tupk h1=>obtain⟨its,rv,⟨o,ho,hc,n,hd⟩,_⟩:=I.tuple (.inr h1);exact⟨o,ho,.inl ⟨_,rfl,hc⟩⟩
 | lst h1 h2 h3=>obtain⟨its,rv,⟨o,n,ho,hc,_,hd⟩,_⟩:=I.list (sub.seq h1);exact⟨o,ho,.inr (.inl ⟨_,rfl,hc⟩)⟩
 | @dct a es kvs vvs h1 _ _ _=>obtain⟨_,_,xs,_,o,es,ep,q1,q2,_⟩:=(show ZW X.prog X.w H s.heap x (.dT vvs) from ZjH I.hok (Zis h1 sub));exact⟨o,q1,.inr (.inr ⟨_,rfl,q2.1⟩)⟩
 | fn _=>exact absurd rfl (nd _)
theorem ZrW:ZaJ X (.builtin "isinstance") (λxs H Q=>∃F d v,xs=[v,.ty "bool"]/\Zo F H/\Rep X.K F d v/\(∀es,d≠.dict es)/\Q (.bl (HM.ZhJ .bool d)) H):=by
 refine ZmR λs d v u Q ru ⟨K,F,rp⟩ nd ho k=>?_;cases rp with
 | non=>cases ru; exact IsiPair.NoneType_bool (k _)
 | bl _=>cases ru; exact IsiPair.bool_bool (k _)
 | int _=>obtain⟨t,rfl⟩:=ru; exact IsiPair.int_bool (k _)
 | str _=>obtain⟨t,rfl⟩:=ru; exact IsiPair.str_bool (k _)
 | tup _ _ _ | tupk _ =>
  cases ru;obtain⟨o,h1,⟨_,_,h2⟩ | ⟨_,e,_⟩ | ⟨_,e,_⟩⟩:=ho _ rfl
  ·exact IsiPair.tuple_bool h1 h2 (k _)
  ·cases e
  ·cases e
 | lst _ _ _ =>
  cases ru;obtain⟨o,h1,⟨_,e,_⟩ | ⟨_,_,h2⟩ | ⟨_,e,_⟩⟩:=ho _ rfl
  ·cases e
  ·exact IsiPair.list_bool h1 h2 (k _)
  ·cases e
 | dct _ _ _ _ =>
  cases ru;obtain⟨o,h1,⟨_,e,_⟩ | ⟨_,e,_⟩ | ⟨_,_,h2⟩⟩:=ho _ rfl
  ·cases e
  ·cases e
  ·exact IsiPair.dict_bool h1 h2 (k _)
 | fn _=>exact absurd rfl (nd _)
theorem Zta:ZaJ X (.builtin "isinstance") (λxs H Q=>∃F d v,xs=[v,.ty "int"]/\Zo F H/\Rep X.K F d v/\(∀es,d≠.dict es)/\Q (.bl (HM.ZhJ .int d)) H):=by
 refine ZmR λs d v u Q ru ⟨K,F,rp⟩ nd ho k=>?_;cases rp with
 | non=>cases ru; exact IsiPair.NoneType_int (k _)
 | bl _=>cases ru; exact IsiPair.bool_int (k _)
 | int _=>obtain⟨t,rfl⟩:=ru; exact IsiPair.int_int (k _)
 | str _=>obtain⟨t,rfl⟩:=ru; exact IsiPair.str_int (k _)
 | tup _ _ _ | tupk _ =>
  cases ru;obtain⟨o,h1,⟨_,_,h2⟩ | ⟨_,e,_⟩ | ⟨_,e,_⟩⟩:=ho _ rfl
  ·exact IsiPair.tuple_int h1 h2 (k _)
  ·cases e
  ·cases e
 | lst _ _ _ =>
  cases ru;obtain⟨o,h1,⟨_,e,_⟩ | ⟨_,_,h2⟩ | ⟨_,e,_⟩⟩:=ho _ rfl
  ·cases e
  ·exact IsiPair.list_int h1 h2 (k _)
  ·cases e
 | dct _ _ _ _ =>
  cases ru;obtain⟨o,h1,⟨_,e,_⟩ | ⟨_,e,_⟩ | ⟨_,_,h2⟩⟩:=ho _ rfl
  ·cases e
  ·cases e
  ·exact IsiPair.dict_int h1 h2 (k _)
 | fn _=>exact absurd rfl (nd _)
theorem ZqQ:ZaJ X (.builtin "isinstance") (λxs H Q=>∃F d v,xs=[v,.ty "tuple"]/\Zo F H/\Rep X.K F d v/\(∀es,d≠.dict es)/\Q (.bl (HM.ZhJ .tuple d)) H):=by
 refine ZmR λs d v u Q ru ⟨K,F,rp⟩ nd ho k=>?_;cases rp with
 | non=>cases ru; exact IsiPair.NoneType_tuple (k _)
 | bl _=>cases ru; exact IsiPair.bool_tuple (k _)
 | int _=>obtain⟨t,rfl⟩:=ru; exact IsiPair.int_tuple (k _)
 | str _=>obtain⟨t,rfl⟩:=ru; exact IsiPair.str_tuple (k _)
 | tup _ _ _ | tupk _ =>
  cases ru;obtain⟨o,h1,⟨_,_,h2⟩ | ⟨_,e,_⟩ | ⟨_,e,_⟩⟩:=ho _ rfl
  ·exact IsiPair.tuple_tuple h1 h2 (k _)
  ·cases e
  ·cases e
 | lst _ _ _ =>
  cases ru;obtain⟨o,h1,⟨_,e,_⟩ | ⟨_,_,h2⟩ | ⟨_,e,_⟩⟩:=ho _ rfl
  ·cases e
  ·exact IsiPair.list_tuple h1 h2 (k _)
  ·cases e
 | dct _ _ _ _ =>
  cases ru;obtain⟨o,h1,⟨_,e,_⟩ | ⟨_,e,_⟩ | ⟨_,_,h2⟩⟩:=ho _ rfl
  ·cases e
  ·cases e
  ·exact IsiPair.dict_tuple h1 h2 (k _)
 | fn _=>exact absurd rfl (nd _)
theorem Zlv{tyn:Str}{tys:String}{t:HM.Ty}{p2:Pos}(hR:ZaJ X (.builtin "isinstance") (λxs H Q=>∃F d v,xs=[v,.ty tys]/\Zo F H/\Rep X.K F d v/\(∀es,d≠.dict es)/\Q (.bl (HM.ZhJ t d)) H))(bt:Zxo tyn=some (.type tys))
  (hm:X.mg "isinstance" = none) (hm2:X.mg tyn=none) (ha:XE X a fa) (hg:Gl X "isinstance") (hg2:Gl X tyn) (hn:tyn ≠ "__name__") (hd:(tyn==("__debug__":Str))=false)
  (hs1:ZwJ [a,.Name tyn p2] X.env=(false,eval a X.env)::ZwJ [.Name tyn p2] X.env) (hs2:ZwJ [.Name tyn p2] X.env=[(false,eval (.Name tyn p2) X.env)]):XE X (.Call (.Name "isinstance" p) [a,.Name tyn p2] [] pos) (HM.ZgZ fa t):=by
 intro r d h;have key:∃x,fa r=some x/\(∀es,x≠.dict es)/\d=.bool (HM.ZhJ t x):=by
  unfold HM.ZgZ at h;split at h
  ·cases h
  ·rename_i x hn hx
   cases h;exact⟨x,hx,λes z=>hn es (by rw[z]),rfl⟩
  ·cases h
 obtain⟨x,h1,nd,h2⟩:=key;subst h2;refine PE.imp (ZcO hR hg hm Zlg (Z9 (ha r x h1) (Z9 (Zs3 (v:=.ty tys) hg2 hm2 bt rfl hn hd) Zbv (by rw[hs2]; rfl)) hs1) (he:=hs1) (hpl:=by rw[hs2]; rfl)) λσ H Q ⟨F0,H0,F,at_,k⟩=>?_;exact⟨F0,H0,F,at_,λv F1 H1 x1 r1=>⟨F1,x,v,rfl,x1.sub,r1,nd,k _ F1 H1 x1 (.bl _)⟩⟩
theorem Znw{p2:Pos}(hm:X.mg "isinstance" = none)(hm2:X.mg "bool" = none)(ha:XE X a fa)(hg:Gl X "isinstance":=by rfl)(hg2:Gl X "bool":=by rfl)(hs1:ZwJ [a,.Name "bool" p2] X.env=(false,eval a X.env)::ZwJ [.Name "bool" p2] X.env:=by rfl) :
  XE X (.Call (.Name "isinstance" p) [a,.Name "bool" p2] [] pos) (HM.ZgZ fa .bool):=Zlv ZrW ZsG hm hm2 ha hg hg2 (by decide) (by decide) hs1 rfl
theorem ZoP{p2:Pos}(hm:X.mg "isinstance" = none)(hm2:X.mg "int" = none)(ha:XE X a fa)(hg:Gl X "isinstance":=by rfl)(hg2:Gl X "int":=by rfl)(hs1:ZwJ [a,.Name "int" p2] X.env=(false,eval a X.env)::ZwJ [.Name "int" p2] X.env:=by rfl) :
  XE X (.Call (.Name "isinstance" p) [a,.Name "int" p2] [] pos) (HM.ZgZ fa .int):=Zlv Zta ZmX hm hm2 ha hg hg2 (by decide) (by decide) hs1 rfl
theorem Zhl{p2:Pos}(hm:X.mg "isinstance" = none)(hm2:X.mg "tuple" = none)(ha:XE X a fa)(hg:Gl X "isinstance":=by rfl)(hg2:Gl X "tuple":=by rfl)(hs1:ZwJ [a,.Name "tuple" p2] X.env=(false,eval a X.env)::ZwJ [.Name "tuple" p2] X.env:=by rfl) :
  XE X (.Call (.Name "isinstance" p) [a,.Name "tuple" p2] [] pos) (HM.ZgZ fa .tuple):=Zlv ZqQ ZiX hm hm2 ha hg hg2 (by decide) (by decide) hs1 rfl
theorem ZtB(hm:X.mg "max" = none)(hc:X.calm=true)(ha:XE X a fa)(hb:XE X b fb)(hg:Gl X "max":=by rfl)(hs1:ZwJ [a,b] X.env=(false,eval a X.env)::ZwJ [b] X.env:=by rfl)(hs2:ZwJ [b] X.env=[(false,eval b X.env)]:=by rfl) :
  XE X (.Call (.Name "max" p) [a,b] [] pos) (HM.op2 HM.Zuf fa fb):=by
 intro r d h;obtain⟨x,y,h1,h2,h3⟩:=Zgq h;obtain⟨i,j,rfl,rfl,e⟩:=Zfl h3;cases e;refine PE.imp (ZcO (Zp2 hc) hg hm ZqW (Z9 (ha r _ h1) (Z9 (hb r _ h2) Zbv hs2) hs1) (he:=hs1) (hpl:=by rw[hs2]; rfl)) λσ H Q ⟨F0,H0,F,at_,k⟩=>?_;exact⟨F0,H0,F,at_,λv F1 H1 x1 r1=>⟨F0,H0,F1,at_.grow x1,λw F2 H2 x2 r2=>⟨i,j,by rw[r1.int_inv,r2.int_inv],k _ F2 H2 (x1.trans x2) (.int _)⟩⟩⟩
theorem ZtC(hm:X.mg "min" = none)(hc:X.calm=true)(ha:XE X a fa)(hb:XE X b fb)(hg:Gl X "min":=by rfl)(hs1:ZwJ [a,b] X.env=(false,eval a X.env)::ZwJ [b] X.env:=by rfl)(hs2:ZwJ [b] X.env=[(false,eval b X.env)]:=by rfl) :
  XE X (.Call (.Name "min" p) [a,b] [] pos) (HM.op2 HM.ZtX fa fb):=by
 intro r d h;obtain⟨x,y,h1,h2,h3⟩:=Zgq h;obtain⟨i,j,rfl,rfl,e⟩:=Zfl h3;cases e;refine PE.imp (ZcO (ZqF hc) hg hm ZqM (Z9 (ha r _ h1) (Z9 (hb r _ h2) Zbv hs2) hs1) (he:=hs1) (hpl:=by rw[hs2]; rfl)) λσ H Q ⟨F0,H0,F,at_,k⟩=>?_;exact⟨F0,H0,F,at_,λv F1 H1 x1 r1=>⟨F0,H0,F1,at_.grow x1,λw F2 H2 x2 r2=>⟨i,j,by rw[r1.int_inv,r2.int_inv],k _ F2 H2 (x1.trans x2) (.int _)⟩⟩⟩
theorem Zq7(hm:X.mg "int" = none)(ha:XE X a fa)(hg:Gl X "int":=by rfl)(hs:ZwJ [a] X.env=[(false,eval a X.env)]:=by rfl):XE X (.Call (.Name "int" p) [a] [] pos) (HM.ZmF fa):=by
 intro r d h;unfold HM.ZmF at h;split at h
 ·rename_i i hi
  cases h;refine PE.imp (ZcT ZkI hg hm ZmX (Z9 (ha r _ hi) Zbv hs) (he:=hs)) λσ H Q ⟨F0,H0,F,at_,k⟩=>?_;exact⟨F0,H0,F,at_,λv F1 H1 x1 r1=>.inl ⟨i,by rw[r1.int_inv],k _ F1 H1 x1 (.int _)⟩⟩
 ·rename_i q hq
  cases h;refine PE.imp (ZcT ZkI hg hm ZmX (Z9 (ha r _ hq) Zbv hs) (he:=hs)) λσ H Q ⟨F0,H0,F,at_,k⟩=>?_;exact⟨F0,H0,F,at_,λv F1 H1 x1 r1=>.inr ⟨q,by rw[r1.bool_inv],k _ F1 H1 x1 (.int _)⟩⟩
 ·cases h
end
end HP
namespace HP
open PySem PySem.Spec PyProof.Rows L2
variable[FX]
section
variable{X:Cx}{a b c e:Expr}{fa fb fc:HM.EF}{pos p:Pos}{f:HM.BF}{tg:Expr}
theorem PI.imp{X:Cx}{tg e:Expr}{t u:TI}(h:PI X tg e t)(hi:∀σ H R,u σ H R->t σ H R):PI X tg e u:=λpins s σ H R I q=>h pins s σ H R I (hi σ H R q)
theorem ZuN{l:Expr}{tl:TE}(hl:PE X l tl):PI X tg l (λσ H R=>tl σ H λx H1=>∃a,x=.ref a/\((∃xs,SqL X.K H1 a xs)/\R (Itl X.K a) H1\/(∃xs,SqT X.K H1 a xs)/\R (Itt X.K a) H1)):=by
 intro pins s σ H R I h;refine thn (hl pins s σ H _ I h) λv s1 ⟨x,H1,I1,r1,q1⟩=>?_;obtain⟨a,e,q1⟩:=q1;subst e;cases r1;rcases q1 with⟨⟨xs,hq⟩,q⟩ | ⟨⟨xs,hq⟩,q⟩
 ·obtain⟨its,rv,p,hz⟩:=I1.list hq
  refine ZAk p.isList ⟨s1.heap.objs.size,[s1.heap.objs.size],_,_,H1,rfl,I1.kept (t':=s1.toks) λb o e=>ZwB _ e,Zp3 a _,⟨_,ZwO _ rfl,rfl,rfl⟩,λb hb=>?_,q⟩;obtain rfl:b=s1.heap.objs.size:=by simpa using hb
  exact I1.fpOk (ZwH _) (I1.hok.fresh (ZwH _))
 ·obtain⟨its,rv,p,hz⟩:=I1.tuple hq
  refine wpAny_pyIter_tuple (show s1.heap.IsTuple a its.toArray from p) ⟨s1.heap.objs.size,[s1.heap.objs.size],_,_,H1,rfl,I1.kept (t':=s1.toks) λb o e=>ZwB _ e,ZpC a _,⟨_,ZwO _ rfl,rfl,rfl⟩,λb hb=>?_,q⟩;obtain rfl:b=s1.heap.objs.size:=by simpa using hb
  exact I1.fpOk (ZwH _) (I1.hok.fresh (ZwH _))
theorem Zro{K:Zww}{F:Hp}{a:Addr}{ds:List PyData}{vs:List V}(h:SqL K F a vs)(r:Zq K F ds vs):ItD K (Itl K a) ds F:=by intro F' H s1 s2;have hq:SqL K H a vs:=(s1.trans s2).seq h;refine⟨λi d hd=>?_,⟨vs,hq,by rw[r.1]; exact ZwH _⟩⟩;obtain⟨v,h1,h2⟩:=r.get hd;refine⟨⟨vs,v,hq,h1⟩,λx H' hy=>?_⟩;obtain⟨e,y⟩:=hy;refine⟨e,?_⟩;have:=y vs hq;rw[h1]at this;cases this;exact h2.mono (s1.trans (Zcy s2))
theorem Zrx{K:Zww}{F:Hp}{a:Addr}{ds:List PyData}{vs:List V}(h:SqT K F a vs)(r:Zq K F ds vs):ItD K (Itt K a) ds F:=by intro F' H s1 s2;have hq:SqT K H a vs:=ZrK h (s1.trans s2);refine⟨λi d hd=>?_,⟨vs,hq,by rw[r.1]; exact ZwH _⟩⟩;obtain⟨v,h1,h2⟩:=r.get hd;refine⟨⟨vs,v,hq,h1⟩,λx H' hy=>?_⟩;obtain⟨e,y⟩:=hy;refine⟨e,?_⟩;have:=y vs hq;rw[h1]at this;cases this;exact h2.mono (s1.trans (Zcy s2))
theorem Ztk{K:Zww}{F:Hp}{a:Addr}{ds:List PyData}{vs:List V}(h:F a=some (.tup vs))(r:Zq K F ds vs):ItD K (Itt K a) ds F:=by intro F' H s1 s2;have hq:SqT K H a vs:=.of (s2 _ _ (s1 _ _ h));refine⟨λi d hd=>?_,⟨vs,hq,by rw[r.1]; exact ZwH _⟩⟩;obtain⟨v,h1,h2⟩:=r.get hd;refine⟨⟨vs,v,hq,h1⟩,λx H' hy=>?_⟩;obtain⟨e,y⟩:=hy;refine⟨e,?_⟩;have:=y vs hq;rw[h1]at this;cases this;exact h2.mono (s1.trans (Zcy s2))
theorem Z6(h:XE X e fa):XI X tg e (HM.Zav (HM.bOf fa)):=by
 intro r ds hd;unfold HM.Zav HM.bOf at hd;cases hx:fa r with
 | none=>rw[hx]at hd; cases hd
 | some d =>
  rw[hx]at hd;have hd:HM.ZcA (.pl d)=some ds:=hd;refine PI.imp (ZuN (h r d hx)) λσ H R ⟨F0,H0,F,at_,k⟩=>?_;refine⟨F0,H0,F,at_,λv F1 H1 x1 r1=>?_⟩;cases r1 with
  | @tupk a x h1=>cases hd;exact⟨a,rfl,.inr ⟨⟨_,.inr h1⟩,k _ F1 H1 x1 (Zrx (.inr h1) (.one (.str x)))⟩⟩
  | @tup a ds' vs h1 h2 h3=>cases hd;exact⟨a,rfl,.inr ⟨⟨vs,.of (x1.sub _ _ h1)⟩,k _ F1 H1 x1 (Ztk h1 ⟨h2,h3⟩)⟩⟩
  | @lst a ds' vs h1 h2 h3=>cases hd;exact⟨a,rfl,.inl ⟨⟨vs,x1.sub.seq h1⟩,k _ F1 H1 x1 (Zro h1 ⟨h2,h3⟩)⟩⟩
  | dct _ _ _ _=>cases hd
  | fn _=>cases hd
  | non=>cases hd
  | bl _=>cases hd
  | int _=>cases hd
  | str _=>cases hd
theorem ZsZ{K:Zww}{F:Hp}(lo:Int)(n:Nat):ItD K (Itr lo n) (HM.Zcp lo n) F:=by
 intro F' H s1 s2;have hl:(HM.Zcp lo n).length=n:=by unfold HM.Zcp; rw[Zwy,Zyo]
 refine⟨λi d hd=>?_,?_⟩
 ·have hi:i<n:=by rw[<-hl]; exact(ZwI.mp hd).1
  unfold HM.Zcp at hd;rw[ZwZ,List.getElem?_range hi]at hd;cases hd;exact⟨hi,λx H' ⟨e1,e2⟩=>⟨e1,by rw[e2]; exact .int _⟩⟩
 ·rw[hl]; exact ZwH _
theorem ZoB{j:Int}(h:HM.okR j=true):-1000000<j/\j<1000000:=by unfold HM.okR at h;rw[Zzn]at h;omega
theorem ZbQ(hm:X.mg "range" = none)(ha:XE X a fa)(hg:Gl X "range":=by rfl)(hs:ZwJ [a] X.env=[(false,eval a X.env)]:=by rfl):XI X tg (.Call (.Name "range" p) [a] [] pos) (HM.ZbJ fa):=by
 intro r ds hd;unfold HM.ZbJ at hd;split at hd
 ·rename_i j hj
  split at hd
  ·rename_i hok
   cases hd;obtain⟨k1,k2⟩:=ZoB hok;refine PI.imp (ZqP hg hm (Z9 (ha r _ hj) Zbv hs) hs) λσ H R ⟨F0,H0,F,at_,k⟩=>?_;exact⟨F0,H0,F,at_,λv F1 H1 x1 r1=>⟨j,by rw[r1.int_inv],by omega,by omega,k _ F1 H1 x1 (ZsZ 0 j.toNat)⟩⟩
  ·cases hd
 ·cases hd
theorem Zlw{ga gb:HM.BF}(ha:XB X a ga)(hb:XB X b gb):XF X (.BinOp a .Add b pos) (HM.Zmb ga gb):=by
 intro r d h;unfold HM.Zmb at h;split at h
 ·rename_i xs hx
  split at h
  ·rename_i ys hy
   split at h
   ·rename_i hz
    cases h;refine PE.imp (ZpM ZuX (ha r _ hx) (hb r _ hy)) λσ H Q ⟨F0,H0,F,at_,k⟩=>?_;refine⟨F0,H0,F,at_,λv F1 H1 x1 ⟨fp,r1⟩=>⟨F0,H0,F1,at_.grow x1,λw F2 H2 x2 ⟨fq,r2⟩=>?_⟩⟩;cases r1 with
    | ol h1 q1 =>
     cases r2 with
     | ol h2 q2 =>
      have q1':=q1.mono x2.ff;refine⟨_,_,_,_,rfl,rfl,x2.hh _ _ h1,h2,?_,λl hl=>Zd2 (P:=λv _ H'=>Q v H') (x1.trans x2) (q1'.append q2) hl k⟩;have e1:=q1.1;have e2:=q2.1;have e3:(1000000:Nat)<=sizeLine:=by decide
      unfold HM.big at hz;omega
   ·cases h
  ·cases h
 ·cases h
theorem ZtD{ga:HM.BF}(ha:XB X a ga)(hb:XE X b fb):XF X (.BinOp a .Mult b pos) (HM.Zso ga fb):=by
 intro r d h;unfold HM.Zso at h;split at h
 ·rename_i xs hx
  split at h
  ·rename_i i hy
   split at h
   ·rename_i hz
    cases h;rw[ZwU,decide_eq_true_eq,decide_eq_true_eq]at hz;refine PE.imp (ZpM Zuw (ha r _ hx) (hb r _ hy)) λσ H Q ⟨F0,H0,F,at_,k⟩=>?_;refine⟨F0,H0,F,at_,λv F1 H1 x1 ⟨fp,r1⟩=>⟨F0,H0,F1,at_.grow x1,λw F2 H2 x2 r2=>?_⟩⟩;cases r1 with
    | ol h1 q1 =>
     have q1':=q1.mono x2.ff;refine⟨_,i,_,rfl,r2.int_inv,x2.hh _ _ h1,by omega,by omega,?_,λl hl=>Zd2 (P:=λv _ H'=>Q v H') (x1.trans x2) (q1'.rep i.toNat) hl k⟩;have e1:=q1.1;have e3:(1000*1000:Nat)<=sizeLine:=by decide
     refine Zxs (Nat.mul_le_mul (?_:_<=1000) (?_:_<=1000)) e3<;>omega
   ·cases h
  ·cases h
 ·cases h
def XO(X:Cx)(e:Option Expr)(f:Option HM.EF):Prop:=∀r o,HM.ZpL f r=some o->PO X e λσ H Q=>Now X.K r σ H λF0 H0 F=>∀F' H',Ext F H F' H'->Q o H'
theorem ZsW:XO X none none:=by intro r o h;cases h;intro pins s σ H Q I q;obtain⟨F0,H0,F,at_,k⟩:=q;exact Ztw pins s σ H Q I (k F H at_.refl)
theorem Ztc(h:XE X e fa):XO X (some e) (some fa):=by
 intro r o ho;unfold HM.ZpL at ho;split at ho
 ·rename_i z; cases z
 ·rename_i g z
  cases z;split at ho
  ·rename_i i hi
   cases ho;intro pins s σ H Q I q;obtain⟨F0,H0,F,at_,k⟩:=q;exact Zts (h r _ hi) pins s σ H Q I ⟨F0,H0,F,at_,λv F1 H1 x1 r1=>⟨i,r1.int_inv,k F1 H1 x1⟩⟩
  ·cases ho
theorem ZtE{ga:HM.BF}{lo hi:Option Expr}{fl fh:Option HM.EF}{p2:Pos}(ha:XB X a ga)(hl:XO X lo fl)(hh:XO X hi fh):XF X (.Subscript a (.Slice lo hi none p2) pos) (HM.Zrq ga fl fh):=by
 intro r d h;unfold HM.Zrq at h;split at h
 ·rename_i x hx
  split at h
  ·rename_i xs hxs
   split at h
   ·rename_i l hl'
    split at h
    ·rename_i u hu'
     cases h;refine PE.imp (Zsa Ztj (ha r _ hx) (hl r _ hl') (hh r _ hu')) λσ H Q ⟨F0,H0,F,at_,k⟩=>?_;refine⟨F0,H0,F,at_,λv F1 H1 x1 ⟨fp,r1⟩=>⟨F0,H0,F1,at_.grow x1,λF2 H2 x2=>⟨F0,H0,F2,(at_.grow x1).grow x2,λF3 H3 x3=>?_⟩⟩⟩;have x23:=x2.trans x3;obtain⟨l',vs,e1,hq,rs⟩:=Zfn x3.sub (r1.mono x23.ff λ_ _ _ z=>x23.hh _ _ z) hxs;refine⟨l',vs,e1,hq,λl2 hl2=>Zd2 (P:=λv _ H'=>Q v H') (x1.trans x23) ?_ hl2 k⟩;unfold HM.cutD Zl7;rw[<-rs.1];exact(rs.drop _).take _
    ·cases h
   ·cases h
  ·cases h
 ·cases h
theorem Za0.val{K:Zww}{F0 H0 F H:Hp}{r:HM.Env}{σ:L2.St}{fp:Nat->List Addr}{i:Nat}{ds:List PyData}(e:Za0 K F0 H0 F H r σ fp)(h:r[i]?=some (some (.ol ds))) :
  ∃l vs,σ[i]?=some (some (.ref l))/\H l=some (.lst vs)/\Zq K F ds vs/\fp i=[l]:=by
 obtain⟨v,h1,h2⟩:=e.at_ i _ h;generalize hf:fp i=q at h2;cases h2 with
 | ol k1 k2=>exact⟨_,_,h1,k1,k2,rfl⟩
theorem At.chgList{K:Zww}{F0 H0 F H:Hp}{r:HM.Env}{σ:L2.St}{i:Nat}{ds es:List PyData}(e:At K F0 H0 F H r σ)(h:r[i]?=some (some (.ol ds))) :
  ∃l vs,σ[i]?=some (some (.ref l))/\H l=some (.lst vs)/\Zq K F ds vs/\∀us,Zq K F es us->At K F0 H0 F (upd H l (.lst us)) (r.set i (some (.ol es))) σ:=by
 obtain⟨fp,e⟩:=e;obtain⟨l,vs,h1,h2,h3,h4⟩:=e.val h;refine⟨l,vs,h1,h2,h3,λus q=>e.change (fp':=[l]) h1 (.ol ZA q) (by simp) (λa ha=>.inl (by rw[h4]; exact ha)) λa o z hn=>?_⟩;rw[Zy (λz=>hn (by rw[h4,z]; simp))];exact z
theorem Zeh(i:Nat){x:Str}{p1 p2 p3:Pos}(ha:XE X a fa)(hN:X.N[i]?=some x:=by rfl)(hv:Vis X.env.scope x:=by first | exact Zxl rfl | exact Zw6 (Zxl rfl) | exact Zw6 (Zw6 rfl))(hd:(x==("__debug__":Str))=false:=by decide)(hcd:(x==("__classdict__":Str))=false:=by decide)
  (hbase:ZyC (.Name x p1) "append" X.env (eval (.Name x p1) X.env)=eval (.Name x p1) X.env:=by rfl)
  (hfew:((backTo p3 (ZwJ [a] X.env)).all (λx=>!x.1)&&(ZAw p3 (ZzA [] X.env)).all (λx=>x.1.isSome)&&decide (([a]:List Expr).length+([]:List Keyword).length+(if([]:List Keyword).isEmpty then 0 else 1)<30))=true:=by rfl)
  (hline:(p2.endLine==p3.line)=true:=by rfl) (hs:ZwJ [a] X.env=[(false,eval a X.env)]:=by rfl):XS X (.Expr (.Call (.Attribute (.Name x p1) "append" p2) [a] [] p3) pos) (HM.Zd5 i fa):=by
 intro r o h;unfold HM.Zd5 at h;split at h
 ·rename_i ds hds
  split at h
  ·rename_i d hd'
   split at h
   ·rename_i hz
    cases h;refine PS.imp (Zgv (Zlk Zyq Zzf Zzg ZfE (ZbG hN hv hd hcd) (Z9 (ha r d hd') Zbv hs) hbase hfew hline hs rfl)) λE σ H ⟨F0,H0,F,at_,k⟩=>?_;obtain⟨l,vs,e1,e2,e3,_⟩:=at_.chgList (es:=ds) hds;refine⟨.ref l,e1,.inl ⟨rfl,_,SqL.of e2⟩,F0,H0,F,at_,λv F1 H1 x1 r1=>?_⟩;have at1:=at_.grow x1;obtain⟨l',vs',f1,f2,f3,f4⟩:=at1.chgList (es:=ds++[d]) hds;rw[e1]at f1;cases f1;refine⟨_,vs',v,rfl,rfl,f2,?_,k _ F1 _ (f4 _ (f3.append (.one r1)))⟩;have e4:=f3.1;have e5:(1000000:Nat)<=sizeLine:=by decide
    unfold HM.big at hz;omega
   ·cases h
  ·cases h
 ·cases h
theorem ZsB(i:Nat){x:Str}{p1 p2:Pos}(hk:XE X b fb)(ha:XE X a fa)(hN:X.N[i]?=some x:=by rfl)(hv:Vis X.env.scope x:=by first | exact Zxl rfl | exact Zw6 (Zxl rfl) | exact Zw6 (Zw6 rfl))(hd:(x==("__debug__":Str))=false:=by decide)(hcd:(x==("__classdict__":Str))=false:=by decide)
  (hsub:∀v,assign (.Subscript (.Name x p1) b p2) X.env v=(do
   let ov <-holding [v] (eval (.Name x p1) X.env)
   let iv <-holding [v,ov] (eval b X.env)
   standAt p2
   holding [v,ov,iv] (setItem ov iv v)
   release [v,ov,iv] []):=by intro _; rfl)
  (hs:swapsWithSole [.Subscript (.Name x p1) b p2] a pos.line X.env=pure false:=by rfl) (hw:swappedStores [.Subscript (.Name x p1) b p2] a X.env=pure none:=by rfl)
  (h1:(Zyt [.Subscript (.Name x p1) b p2] X.env).map (·.2)=[assign (.Subscript (.Name x p1) b p2) X.env]:=by rfl):XS X (.Assign [.Subscript (.Name x p1) b p2] a pos) (HM.Zo9 i fb fa):=by
 intro r o h;unfold HM.Zo9 at h;split at h
 ·rename_i d hd'
  split at h
  ·rename_i ds hds
   split at h
   ·rename_i n hn
    split at h
    ·rename_i j hj
     cases h;refine PS.imp (Zup (ha r d hd') (Zt8 (ZbG hN hv hd hcd) (hk r _ hn) set_list hsub) hs hw h1) λE σ H ⟨F0,H0,F,at_,k⟩=>?_;refine⟨F0,H0,F,at_,λv F1 H1 x1 r1=>?_⟩;have at1:=at_.grow x1;obtain⟨l,vs,e1,e2,e3,_⟩:=at1.chgList (es:=ds) hds;refine⟨.ref l,e1,F0,H0,F1,at1,λw F2 H2 x2 r2=>?_⟩;obtain⟨l',vs',f1,f2,f3,f4⟩:=(at1.grow x2).chgList (es:=ds.set j d) hds;rw[e1]at f1;cases f1;refine⟨_,vs',n,j,rfl,r2.int_inv,f2,?_,k _ F2 _ (f4 _ (f3.set (r1.mono x2.ff) j))⟩;rw[<-f3.1];exact hj
    ·cases h
   ·cases h
  ·cases h
 ·cases h
end
end HP
namespace HP
open PySem PySem.Spec PyProof.Rows L2
variable[FX]
section
variable{K:Zww}{F:Hp}{κ:Type}[DecidableEq κ]
def Zaq(K:Zww)(F:Hp)(kvs:List (κ × PyData))(vvs:List (κ × V)):Prop:=kvs.map (·.1)=vvs.map (·.1)/\Zq K F (kvs.map (·.2)) (vvs.map (·.2))
theorem Zaq.nil:Zaq K F ([]:List (κ × PyData)) []:=⟨rfl,.nil⟩
theorem Zaq.cons{k:κ}{d:PyData}{v:V}{kvs:List (κ × PyData)}{vvs:List (κ × V)}(r:Rep K F d v)(q:Zaq K F kvs vvs):Zaq K F ((k,d)::kvs) ((k,v)::vvs) :=
 ⟨by rw[ZwD,ZwD,q.1],by rw[ZwD,ZwD]; exact .cons r q.2⟩
theorem Zaq.inv{kvs:List (κ × PyData)}{vvs:List (κ × V)}(q:Zaq K F kvs vvs):(kvs=[]/\vvs=[])\/∃k d v kvs' vvs',kvs=(k,d)::kvs'/\vvs=(k,v)::vvs'/\Rep K F d v/\Zaq K F kvs' vvs':=by
 cases kvs with
 | nil =>
  cases vvs with
  | nil=>exact .inl ⟨rfl,rfl⟩
  | cons p r=>exact absurd q.1 (by simp)
 | cons p kvs' =>
  cases vvs with
  | nil=>exact absurd q.1 (by simp)
  | cons p' vvs' =>
   obtain⟨k,d⟩:=p;obtain⟨k',v⟩:=p';obtain⟨q1,q2⟩:=q;rw[ZwD,ZwD]at q1 q2;injection q1 with e1 e2
   have e1:k=k':=e1;subst e1;obtain⟨v',us,e3,r1,r2⟩:=q2.cons_inv;injection e3 with e3 e4
   refine .inr ⟨k,d,v,kvs',vvs',rfl,rfl,?_,e2,?_⟩
   ·rw[show v=v' from e3]; exact r1
   ·rw[e4]; exact r2
theorem Zaq.len{kvs:List (κ × PyData)}{vvs:List (κ × V)}(q:Zaq K F kvs vvs):kvs.length=vvs.length:=by
 have:=congrArg Zxd q.1
 rwa [Zwy,Zwy]at this
theorem Zaq.any{kvs:List (κ × PyData)}{vvs:List (κ × V)}(k:κ)(q:Zaq K F kvs vvs):(kvs.any λp=>decide (p.1=k))=vvs.any λp=>decide (p.1=k):=by
 have e:∀{β:Type} (l:List (κ × β)),(l.any λp=>decide (p.1=k))=(l.map (·.1)).any λx=>decide (x=k):=λl=>by rw[List.any_map]; rfl
 rw[e,e,q.1]
theorem Zaq.repl{d:PyData}{v:V}(k:κ)(r:Rep K F d v):∀{kvs:List (κ × PyData)} {vvs:List (κ × V)},Zaq K F kvs vvs->Zaq K F (kvs.map λp=>if p.1=k then(p.1,d)else p) (vvs.map λp=>if p.1=k then(p.1,v)else p)
 | [],vvs,q=>by
  rcases q.inv with⟨_,e⟩ | ⟨_,_,_,_,_,e,_⟩
  ·subst e; exact .nil
  ·cases e
 | p::kvs,vvs,q=>by
  rcases q.inv with⟨e,_⟩ | ⟨k',d',v',kvs',vvs',e1,e2,r1,r2⟩
  ·cases e
  ·cases e1
   subst e2;have ih:=Zaq.repl k r r2;rw[ZwD,ZwD]
   by_cases h:k'=k
   ·rw[if_pos h,if_pos h]; exact .cons r ih
   ·rw[if_neg h,if_neg h]; exact .cons r1 ih
theorem Zaq.snoc{kvs:List (κ × PyData)}{vvs:List (κ × V)}{k:κ}{d:PyData}{v:V}(q:Zaq K F kvs vvs)(r:Rep K F d v):Zaq K F (kvs++[(k,d)]) (vvs++[(k,v)]) :=
 ⟨by rw[Zw7,Zw7,q.1]; rfl,by rw[Zw7,Zw7]; exact q.2.append (.one r)⟩
theorem Zaq.put{kvs:List (κ × PyData)}{vvs:List (κ × V)}{d:PyData}{v:V}(q:Zaq K F kvs vvs)(k:κ)(r:Rep K F d v):Zaq K F (HM.putD kvs k d) (putK vvs k v):=by
 unfold HM.putD putK;rw[q.any k]
 by_cases h:(vvs.any λp=>decide (p.1=k))=true
 ·rw[if_pos h,if_pos h]; exact q.repl k r
 ·rw[if_neg h,if_neg h]; exact q.snoc r
theorem Zaq.look{k:κ}:∀{kvs:List (κ × PyData)} {vvs:List (κ × V)},Zaq K F kvs vvs->(∀d,HM.Zj kvs k=some d->∃v,Zap vvs k=some v/\Rep K F d v)/\(HM.Zj kvs k=none->Zap vvs k=none)
 | [],vvs,q=>by
  rcases q.inv with⟨_,e⟩ | ⟨_,_,_,_,_,e,_⟩
  ·subst e; exact⟨λd h=>(by cases h),λ_=>rfl⟩
  ·cases e
 | p::kvs,vvs,q=>by
  rcases q.inv with⟨e,_⟩ | ⟨k',d',v',kvs',vvs',e1,e2,r1,r2⟩
  ·cases e
  ·cases e1
   subst e2;obtain⟨i1,i2⟩:=Zaq.look (k:=k) r2
   by_cases h:k'=k
   ·have e3:HM.Zj ((k',d')::kvs) k=some d':=by simp[HM.Zj,Zxn,h]
    rw[e3,Zdf (p:=(k',v')) h];exact⟨λd hd=>(by cases hd; exact⟨v',rfl,r1⟩),λhd=>by cases hd⟩
   ·have e3:HM.Zj ((k',d')::kvs) k=HM.Zj kvs k:=by simp[HM.Zj,Zxn,h]
    rw[e3,Zdg (p:=(k',v')) h];exact⟨i1,i2⟩
theorem Zaq.some_iff{k:κ}{kvs:List (κ × PyData)}{vvs:List (κ × V)}(q:Zaq K F kvs vvs):(Zap vvs k).isSome=(HM.Zj kvs k).isSome:=by
 obtain⟨i1,i2⟩:=q.look (k:=k);cases h:HM.Zj kvs k with
 | none=>rw[i2 h]; rfl
 | some d=>obtain⟨v,h1,_⟩:=i1 d h; rw[h1]; rfl
end
section
variable{K:Zww}{F:Hp}
theorem Zfo{d:PyData}{k:Key}{v:V}(h:HM.Zg1 d=some k)(r:Rep K F d v):v=kV k:=by cases r<;>first | (cases h; rfl) | cases h
theorem ZkG:∀{ds:List PyData} {ks:List Key} {vs:List V},HM.ZfD ds=some ks->Zq K F ds vs->vs=ks.map kV
 | [],ks,vs,h,r=>by cases h; exact r.nil_inv
 | d::ds,ks,vs,h,r=>by
  obtain⟨v,us,rfl,r1,r2⟩:=r.cons_inv;unfold HM.ZfD at h;split at h
  ·rename_i k hk
   obtain⟨ks',h1,h2⟩:=Zwx.mp h;subst h2;rw[Zfo hk r1,ZkG h1 r2];rfl
  ·cases h
theorem Zoo:∀{ds:List PyData} {ks:List Key},HM.Zj9 ds=some ks->HM.ZfD ds=some ks
 | [],ks,h=>h
 | d::ds,ks,h=>by
  unfold HM.Zj9 at h;split at h
  ·cases ‹_=[]›
  ·rename_i i r e
   injection e with e1 e2
   subst e1 e2;obtain⟨ks',h1,h2⟩:=Zwx.mp h;subst h2;show(match HM.Zg1 (.int i)with | some k=>(HM.ZfD ds).map (k::·) | none=>none)=_;rw[Zoo h1];rfl
  ·cases h
theorem ZbH{d:PyData}{ks:List Key}{v:V}(h:HM.Zbb d=some ks)(r:Rep K F d v):∃b,v=.ref b/\F b=some (.tup (ks.map kV)):=by
 cases r with
 | tup h1 h2 h3=>refine⟨_,rfl,?_⟩;rw[<-ZkG (Zoo h) ⟨h2,h3⟩];exact h1
 | tupk _=>cases h
 | lst _ _ _=>cases h
 | dct _ _ _ _=>cases h
 | fn _=>cases h
 | non=>cases h
 | bl _=>cases h
 | int _=>cases h
 | str _=>cases h
end
section
variable{X:Cx}{a b c e:Expr}{fa fb fc:HM.EF}{pos p:Pos}{f:HM.BF}
theorem fresh_one{K:Zww}{F H F1 H1:Hp}{o:HO}{q:HM.B}{l:Addr}{P:V->Hp->Hp->Prop}(x1:Ext F H F1 H1)(hl:H1 l=none)(hq:ZZ K F1 (upd H1 l o) q (.ref l) [l])
  (k:∀v F' H',Ext F H F' H'->(∃fp,ZZ K F' H' q v fp/\fp.Nodup/\∀a∈fp,F' a=none/\H a=none)->P v F' H'):P (.ref l) F1 (upd H1 l o):=by
 refine k _ F1 _ (x1.lay' hl) ⟨[l],hq,by simp,λa ha=>?_⟩;obtain rfl:a=l:=by simpa using ha
 exact⟨x1.sub.free hl,x1.hh.free hl⟩
theorem Zu4:XF X (.Dict [] [] pos) HM.fDk:=by intro r d h;cases h;exact PE.imp Zr4 λσ H Q ⟨F0,H0,F,at_,k⟩ l hl=>fresh_one (P:=λv _ H'=>Q v H') at_.refl hl (.ok ZA rfl .nil) k
theorem ZoQ:XF X (.Dict [] [] pos) HM.fDt:=by intro r d h;cases h;exact PE.imp Zmj λσ H Q ⟨F0,H0,F,at_,k⟩ l hl=>fresh_one (P:=λv _ H'=>Q v H') at_.refl hl (.ot ZA rfl .nil) k
theorem ZpT:XF X (.Dict [] [] pos) HM.Zr6:=by intro r d h;cases h;exact PE.imp Zmj λσ H Q ⟨F0,H0,F,at_,k⟩ l hl=>fresh_one (P:=λv _ H'=>Q v H') at_.refl hl (.otl ZA rfl rfl λi ds l' h=>by simp at h) k
theorem Zq8(ha:XE X a fa)(hb:XE X b fb):XF X (.Dict [some a] [b] pos) (HM.Zm1 fa fb):=by
 intro r d h;unfold HM.Zm1 at h;split at h
 ·rename_i x hx
  split at h
  ·rename_i y hy
   split at h
   ·rename_i k hk
    cases h;refine PE.imp (ZsU (Zsg (ha r x hx) (hb r y hy) Ztq) rfl rfl (by simp) (by simp)) λσ H Q ⟨F0,H0,F,at_,kk⟩ l hl=>?_;have hFl:F l=none:=at_.sub.free hl;have x0:Ext F H F (upd H l (.dK [])):=at_.refl.lay' hl;refine⟨F0,H0,F,at_.grow x0,λv F1 H1 x1 r1=>⟨F0,H0,F1,(at_.grow x0).grow x1,λw F2 H2 x2 r2=>?_⟩⟩;have x12:=x1.trans x2;have hl2:H2 l=some (.dK []):=x12.hh l _ ZA;have hF2:F2 l=none:=by
     cases q:F2 l with
     | none=>rfl
     | some o =>
      rcases x12.new l o q with z | z
      ·rw[hFl]at z; cases z
      ·exact(z.no ZA λ_ q=>by cases q).elim
    refine⟨hl2,[(k,w)],?_,by simp,?_⟩
    ·rw[Zfo hk r1]
     rfl
    have xe:Ext F H F2 (upd H2 l (.dK (Zgl [] [(k,w)]))):=by
     refine⟨x12.ff,λc o z=>?_,λc o z=>?_,λc o z=>?_,λt=>(x12.tab (t.same (Zi2 hl))).keep λa u z hu=>?_,x12.nts⟩
     ·have hc:c≠l:=Zaa z hl
      exact(x12.hh c o (by rw[Zy hc]; exact z)).cong (Zy hc)
     ·rw[Zy (λe=>by rw[e,hF2]at z; cases z)]
      exact x12.sub c o z
     ·rcases x12.new c o z with q | q
      ·exact .inl q
      ·exact .inr (q.back (.of (Zo.upd' hl)))
     ·rw[Zy (λe=>by subst e; rw[hl2]at z; cases z; cases hu)]; exact z
    refine kk _ F2 _ xe ⟨[l],.ok ZA rfl (.one r2),by simp,λc hc=>?_⟩;obtain rfl:c=l:=by simpa using hc
    exact⟨hF2,hl⟩
   ·cases h
  ·cases h
 ·cases h
end
end HP
namespace HP
open PySem PySem.Spec PyProof.Rows L2
variable[FX]
theorem At.chgOne{K:Zww}{F0 H0 F H:Hp}{r:HM.Env}{σ:L2.St}{i:Nat}{q:HM.B}{l:Addr}(e:At K F0 H0 F H r σ)(h:r[i]?=some (some q))(hv:σ[i]?=some (some (.ref l)))(hone:∀v fp,ZZ K F H q v fp->∃a,v=.ref a/\fp=[a]) :
  ∀o q',ZZ K F (upd H l o) q' (.ref l) [l]->At K F0 H0 F (upd H l o) (r.set i (some q')) σ:=by
 intro o q' hq;obtain⟨fp,e⟩:=e;obtain⟨v,h1,h2⟩:=e.at_ i _ h;obtain⟨a,e1,e2⟩:=hone v _ h2;subst e1;rw[hv]at h1;cases h1;refine e.change (fp':=[l]) hv hq (by simp) (λc hc=>.inl (by rw[e2]; exact hc)) λc o' z hn=>?_;rw[Zy (λz=>hn (by rw[e2,z]; simp))];exact z
section
variable{X:Cx}{a b c e:Expr}{fa fb fc:HM.EF}{pos p:Pos}{f:HM.BF}
theorem Zd1{n:Nat}(h:n<HM.big):n<sizeLine:=by
 have e5:(1000000:Nat)<=sizeLine:=by decide
 unfold HM.big at h;omega
theorem Zhm(hu:X.A.units+1<cLine)(i:Nat){x:Str}{p1 p2:Pos}(hk:XE X b fb)(ha:XE X a fa)(hN:X.N[i]?=some x:=by rfl)(hv:Vis X.env.scope x:=by first | exact Zxl rfl | exact Zw6 (Zxl rfl) | exact Zw6 (Zw6 rfl))(hd:(x==("__debug__":Str))=false:=by decide)(hcd:(x==("__classdict__":Str))=false:=by decide)
  (hs:ZyJ a (some (.Subscript (.Name x p1) b p2)) pos.line X.env=pure false:=by rfl):XS X (.Assign [.Subscript (.Name x p1) b p2] a pos) (HM.ZhQ i fb fa):=by
 intro r o h;unfold HM.ZhQ at h;split at h
 ·rename_i d hd'
  split at h
  ·rename_i y hy
   split at h
   ·rename_i kvs hb
    split at h
    ·rename_i k hk'
     split at h
     ·rename_i hz
      cases h;refine PS.imp (Zke hu (ZbG hN hv hd hcd) (hk r y hy) (ha r d hd') hs) λE σ H ⟨F0,H0,F,at_,kk⟩=>?_;refine⟨F0,H0,F,at_,λv F1 H1 x1 r1=>?_⟩;have at1:=at_.grow x1;obtain⟨u,fp,e1,e2⟩:=at1.any hb;refine⟨u,e1,F0,H0,F1,at1,λw F2 H2 x2 r2=>?_⟩;have at2:=at1.grow x2;cases e2 with
      | @ok l _ vvs e2 e3 e4=>have T:Zaq X.K F2 kvs vvs:=⟨e3,e4.mono x2.ff⟩;have T':=T.put k (r1.mono x2.ff);rw[Zfo hk' r2];have hH:H2 l=some (.dK vvs):=x2.hh _ _ e2;refine⟨l,_,rfl,ZgM.k hH (by rw[<-T.len]; exact Zd1 hz),kk _ F2 _ (at2.chgOne hb e1 (λv fp q=>by cases q; exact⟨_,rfl,rfl⟩) _ _ (.ok ZA T'.1 T'.2))⟩
     ·cases h
    ·cases h
   ·rename_i kvs hb
    split at h
    ·rename_i k hk'
     split at h
     ·rename_i hz
      cases h;refine PS.imp (Zke hu (ZbG hN hv hd hcd) (hk r y hy) (ha r d hd') hs) λE σ H ⟨F0,H0,F,at_,kk⟩=>?_;refine⟨F0,H0,F,at_,λv F1 H1 x1 r1=>?_⟩;have at1:=at_.grow x1;obtain⟨u,fp,e1,e2⟩:=at1.any hb;refine⟨u,e1,F0,H0,F1,at1,λw F2 H2 x2 r2=>?_⟩;have at2:=at1.grow x2;cases e2 with
      | @ot l _ vvs e2 e3 e4=>have T:Zaq X.K F2 kvs vvs:=⟨e3,e4.mono x2.ff⟩;have T':=T.put k (r1.mono x2.ff);obtain⟨bb,rfl,hbb⟩:=ZbH hk' r2;have hH:H2 l=some (.dT vvs):=x2.hh _ _ e2;refine⟨l,_,rfl,ZgM.t hH (x2.sub _ _ hbb) (by rw[<-T.len]; exact Zd1 hz),kk _ F2 _ (at2.chgOne hb e1 (λv fp q=>by cases q; exact⟨_,rfl,rfl⟩) _ _ (.ot ZA T'.1 T'.2))⟩
     ·cases h
    ·cases h
   ·cases h
  ·cases h
 ·cases h
theorem ZiU{K:Zww}{F H:Hp}(k:List Key):∀(kvs:List (List Key × List PyData)) (vvs:List (List Key × V)) (ls:List Addr),kvs.map (·.1)=vvs.map (·.1)->vvs.map (·.2)=ls.map V.ref ->
  (∀(i:Nat) (ds:List PyData) (l:Addr),(kvs.map (·.2))[i]?=some ds->ls[i]?=some l->∃vs,H l=some (.lst vs)/\Zq K F ds vs) ->
  (∀ds,HM.Zj kvs k=some ds->∃l' vs,Zap vvs k=some (.ref l')/\l'∈ls/\H l'=some (.lst vs)/\Zq K F ds vs)/\(HM.Zj kvs k=none->Zap vvs k=none)
 | [],[],_,_,_,_=>⟨(λds h=>by cases h),λ_=>rfl⟩
 | [],_::_,_,hk,_,_=>by simp at hk
 | _::_,[],_,hk,_,_=>by simp at hk
 | _::_,_::_,[],_,hv,_=>by simp at hv
 | (k1,ds1)::kvs,(k2,v2)::vvs,l1::ls,hk,hv,r=>by
  rw[ZwD,ZwD]at hk hv;injection hk with e1 e2
  injection hv with e3 e4
  have e1:k1=k2:=e1;have e3:v2=.ref l1:=e3;subst e1 e3;obtain⟨i1,i2⟩:=ZiU k kvs vvs ls e2 e4 λi ds l h1 h2=>r (i+1) ds l (by simpa using h1) (by simpa using h2)
  by_cases hkk:k1=k
  ·have e5:HM.Zj ((k1,ds1)::kvs) k=some ds1:=by simp[HM.Zj,Zxn,hkk]
   rw[e5,Zdf (p:=(k1,V.ref l1)) hkk];obtain⟨vs,q1,q2⟩:=r 0 ds1 l1 rfl rfl;exact⟨(λds h=>by cases h; exact⟨l1,vs,rfl,by simp,q1,q2⟩),(λh=>by cases h)⟩
  ·have e5:HM.Zj ((k1,ds1)::kvs) k=HM.Zj kvs k:=by simp[HM.Zj,Zxn,hkk]
   rw[e5,Zdg (p:=(k1,V.ref l1)) hkk];exact⟨λds h=>let ⟨l',vs,a1,a2,a3⟩:=i1 ds h; ⟨l',vs,a1,ZwC _ a2,a3⟩,i2⟩
theorem ZmT{K:Zww}{F H:Hp}{kvs:List (List Key × List PyData)}{v:V}{fp:List Addr}(q:ZZ K F H (.otl kvs) v fp) :
  ∃l vvs ls,v=.ref l/\fp=l::ls/\H l=some (.dT vvs)/\kvs.map (·.1)=vvs.map (·.1)/\vvs.map (·.2)=ls.map V.ref /\
   ∀k,(∀ds,HM.Zj kvs k=some ds->∃l' vs,Zap vvs k=some (.ref l')/\l'∈ls/\H l'=some (.lst vs)/\Zq K F ds vs)/\(HM.Zj kvs k=none->Zap vvs k=none):=by
 cases q with
 | @otl l _ vvs ls h hk hv r=>exact⟨l,vvs,ls,rfl,rfl,h,hk,hv,λk=>ZiU k kvs vvs ls hk hv r⟩
theorem Zsc{K:Zww}{F H:Hp}{q:HM.B}{v w:V}{fp:List Addr}{x:PyData}{c:Bool}(sub:Zo F H)(rq:ZZ K F H q v fp)(rx:Rep K F x w)(h:HM.hasB q x=some c):∃l o,v=.ref l/\Zcb H l w o/\o.isSome=c:=by
 cases rq with
 | pl _=>cases h
 | hd _ _ _ _=>cases h
 | hf _=>cases h
 | ol _ _=>cases h
 | @ok l kvs vvs h1 h2 h3=>obtain⟨k,e1,e2⟩:=Zwx.mp h;rw[Zfo e1 rx];exact⟨l,_,rfl,Zcb.k h1,by rw[Zaq.some_iff (K:=K) (F:=F) ⟨h2,h3⟩,<-e2]⟩
 | @ot l kvs vvs h1 h2 h3=>obtain⟨k,e1,e2⟩:=Zwx.mp h;obtain⟨bb,rfl,hbb⟩:=ZbH e1 rx;exact⟨l,_,rfl,Zcb.t h1 (sub _ _ hbb),by rw[Zaq.some_iff (K:=K) (F:=F) ⟨h2,h3⟩,<-e2]⟩
 | @otl l kvs vvs ls h1 h2 h3 h4 =>
  obtain⟨k,e1,e2⟩:=Zwx.mp h;obtain⟨bb,rfl,hbb⟩:=ZbH e1 rx;refine⟨l,_,rfl,Zcb.t h1 (sub _ _ hbb),?_⟩;obtain⟨l2,vvs2,ls2,e3,e4,e5,_,_,hl⟩:=ZmT (ZZ.otl h1 h2 h3 h4);cases e3;rw[h1]at e5;cases e5;obtain⟨i1,i2⟩:=hl k;rw[<-e2];cases hq:HM.Zj kvs k with
  | none=>rw[i2 hq]; rfl
  | some ds=>obtain⟨_,_,h5,_⟩:=i1 ds hq; rw[h5]; rfl
theorem Zpi{r:HM.Env}{d:PyData}(h:HM.ZjN fa f r=some d):∃x q c,fa r=some x/\f r=some q/\HM.hasB q x=some c/\d=.bool (!c):=by
 unfold HM.ZjN at h;split at h
 ·split at h
  ·obtain⟨c,h1,h2⟩:=Zwx.mp h
   exact⟨_,_,c,by assumption,by assumption,h1,h2.symm⟩
  ·cases h
 ·cases h
theorem Zq9(hu:X.A.units+1<cLine)(ha:XE X a fa)(hb:XB X b f)(hm:ZxN .NotIn b=false:=by rfl):XT X (.Compare a [.NotIn] [b] pos) (HM.tV (HM.ZjN fa f)):=by intro r d h;obtain⟨x,q,c,h1,h2,h3,e⟩:=Zpi (Zgt h);cases e;refine PT.imp (Znf (ZkK hu (ha r x h1) (hb r q h2)) hm) λσ H Q ⟨F0,H0,F,at_,k⟩=>?_;refine⟨F0,H0,F,at_,λv F1 H1 x1 r1=>⟨F0,H0,F1,at_.grow x1,λw F2 H2 x2 ⟨fp,r2⟩=>?_⟩⟩;obtain⟨l,o,e1,e2,e3⟩:=Zsc x2.sub r2 (r1.mono x2.ff) h3;exact⟨l,o,e1,e2,_,rfl,by rw[e3]; exact k F2 H2 (x1.trans x2)⟩
theorem Zrn{i:Nat}{r:HM.Env}{q:HM.B}(h:HM.Zmn i fa r=some q):∃x bb,fa r=some x/\r[i]?=some (some bb) /\
  ((∃kvs k d,bb=.ok kvs/\HM.Zg1 x=some k/\HM.Zj kvs k=some d/\q=.pl d)\/(∃kvs k d,bb=.ot kvs/\HM.Zbb x=some k/\HM.Zj kvs k=some d/\q=.pl d)\/∃kvs k ds,bb=.otl kvs/\HM.Zbb x=some k/\HM.Zj kvs k=some ds/\q=.ol ds):=by
 unfold HM.Zmn at h;split at h
 ·rename_i x hx
  split at h
  ·rename_i kvs hb
   split at h
   ·rename_i k hk
    obtain⟨d,h1,h2⟩:=Zwx.mp h;exact⟨x,_,hx,hb,.inl ⟨kvs,k,d,rfl,hk,h1,h2.symm⟩⟩
   ·cases h
  ·rename_i kvs hb
   split at h
   ·rename_i k hk
    obtain⟨d,h1,h2⟩:=Zwx.mp h;exact⟨x,_,hx,hb,.inr (.inl ⟨kvs,k,d,rfl,hk,h1,h2.symm⟩)⟩
   ·cases h
  ·rename_i kvs hb
   split at h
   ·rename_i k hk
    obtain⟨d,h1,h2⟩:=Zwx.mp h;exact⟨x,_,hx,hb,.inr (.inr ⟨kvs,k,d,rfl,hk,h1,h2.symm⟩)⟩
   ·cases h
  ·cases h
 ·cases h
theorem ZpU(hu:X.A.units+1<cLine)(i:Nat){x:Str}{p1:Pos}(hk:XE X b fb)(hN:X.N[i]?=some x:=by rfl)(hv:Vis X.env.scope x:=by first | exact Zxl rfl | exact Zw6 (Zxl rfl) | exact Zw6 (Zw6 rfl))(hd:(x==("__debug__":Str))=false:=by decide)(hcd:(x==("__classdict__":Str))=false:=by decide)
  (hs:Zmr b:=by intro _ _; rfl):XB X (.Subscript (.Name x p1) b pos) (HM.Zmn i fb):=by
 intro r q h;obtain⟨y,bb,h1,h2,h3⟩:=Zrn h;refine PE.imp (Zkf hu (ZbG hN hv hd hcd) (hk r y h1) hs) λσ H Q ⟨F0,H0,F,at_,kk⟩=>?_;obtain⟨u,fp,e1,e2⟩:=at_.any h2;refine⟨u,e1,F0,H0,F,at_,λw F2 H2 x2 r2=>?_⟩;have e2':=e2.mono x2.ff λ_ _ _ z=>x2.hh _ _ z;rcases h3 with⟨kvs,k,d,rfl,hk',hl,rfl⟩ | ⟨kvs,k,d,rfl,hk',hl,rfl⟩ | ⟨kvs,k,ds,rfl,hk',hl,rfl⟩
 ·cases e2' with
  | @ok l _ vvs g1 g2 g3=>obtain⟨v,q1,q2⟩:=(Zaq.look (k:=k) (K:=X.K) (F:=F2) ⟨g2,g3⟩).1 d hl;rw[Zfo hk' r2];exact⟨l,v,rfl,by rw[<-q1]; exact Zcb.k g1,kk v F2 H2 x2 ⟨[],.pl q2⟩⟩
 ·cases e2' with
  | @ot l _ vvs g1 g2 g3=>obtain⟨v,q1,q2⟩:=(Zaq.look (k:=k) (K:=X.K) (F:=F2) ⟨g2,g3⟩).1 d hl;obtain⟨bb',rfl,hbb⟩:=ZbH hk' r2;exact⟨l,v,rfl,by rw[<-q1]; exact Zcb.t g1 (x2.sub _ _ hbb),kk v F2 H2 x2 ⟨[],.pl q2⟩⟩
 ·obtain⟨l,vvs,ls,rfl,_,g1,_,_,hlk⟩:=ZmT e2'
  obtain⟨l',vs,q1,_,q2,q3⟩:=(hlk k).1 ds hl;obtain⟨bb',rfl,hbb⟩:=ZbH hk' r2;exact⟨l,_,rfl,by rw[<-q1]; exact Zcb.t g1 (x2.sub _ _ hbb),kk _ F2 H2 x2 ⟨[l'],.ol q2 q3⟩⟩
end
end HP
namespace HP
open PySem PySem.Spec PyProof.Rows L2
variable[FX]
abbrev No:Value->Shared->Prop:=λ_ _=>False
abbrev Zou(ifs:List Expr)(env:Env):Sem Bool :=
 forIn ifs true λc r=>if r=true then do let ok <-isTrue c env (eval c env); pure (ZzQ ok)else pure (ZzQ r)
theorem Zqy{prog:Program}{w:World}{A:Around}{R:Result->Shared->Prop}{s:Shared}{elt target iter:Expr}{ifs:List Expr}{scope:Scope}{pos:Pos}{it acc:Value}{env:Env}(J:Nat->Shared->Prop)
  (turn:∀n s,J n s->wpAny (model prog w) A (pyNext it) (λr s1=>match r with
   | none=>R (.ok .next) s1
   | some v=>wpAny (model prog w) A (ZzO target it v) (λ_ s2=>wpAny (model prog w) A (assign target env v) (λ_ s3=>wpAny (model prog w) A (Zou ifs env) (λok s4=>if ok=true then wpAny (model prog w) A (eval elt env) (λx s5=>wpAny (model prog w) A (call (.builtin "list.append") [acc,x]) (λ_ s6=>∃m,m<n/\J m s6) No s5) No s4 else ∃m,m<n/\J m s4) No s3) No s2) No s1) No s)
  (n:Nat) (h:J n s):codeAny (model prog w) A (.compLoop (.ListComp elt [⟨target,iter,ifs,0⟩] scope pos) 0 it acc env) R s:=by
 refine codeAny_loop rfl J (λn s hI=>?_) n h;show wpAny _ A ((compTurn (.ListComp elt [⟨target,iter,ifs,0⟩] scope pos) 0 it acc env).onRaise (λx=>do noteFrame x env; theTreesLotGoes x)) _ _ s;refine wpAny_noted ?_;rw[compTurn_list];refine Zwv (wpAny_standAt (Zwv (ZxG (turn n s hI) (λr s1 h1=>?_) λ_ _ z=>z.elim)));cases r with
 | none=>exact Zwz h1
 | some v =>
  refine Zwv (ZxG h1 (λ_ s2 h2=>Zwv (ZxG h2 (λ_ s3 h3=>Zwv (ZxG h3 (λok s4 h4=>?_) λ_ _ z=>z.elim)) λ_ _ z=>z.elim)) λ_ _ z=>z.elim);cases ok with
  | false=>exact Zwz ⟨rfl,h4⟩
  | true=>refine Zwv (Zwv (ZxG h4 (λx s5 h5=>?_) λ_ _ z=>z.elim));exact Zwv (ZxG h5 (λ_ s6 h6=>Zwz (Zwz ⟨rfl,h6⟩)) λ_ _ z=>z.elim)
def Z2(X:Cx)(N:List Str)(scope:Scope)(cl:List (Str × Addr))(C:Addr)(s₀:Shared)(H₀:Hp)(ex:List Addr):Cx where
 prog:=X.prog
 w:=X.w
 K:=X.K
 mg:=X.mg
 base:=X.base
 A:=X.A
 N:=N
 s₀:=s₀
 H₀:=H₀
 env:=compEnvC scope cl C X.env
 outer:=X.stack
 stack:=X.stack
 ex:=ex
 fn:=λ_=>false
 calm:=true
 pn:=[]
 xe:=λ_ _=>False
theorem Zg2{env:Env}:∀(names:List (Str × NameKind)) (cs:List (Str × Addr)),(∀y∈names,y.2=.free->∃c,env.cells.lookup y.1=some c)->(∀x c,cs.lookup x=some c->env.cells.lookup x=some c) ->
  ∃cl,(forIn names cs λ(x:Str × NameKind) r=>(match x with | (name,kind)=>if kind==.free then do let c <-cellOf env name; pure (ZzQ ((name,c)::r))else pure (ZzQ r):Sem (ForInStep (List (Str × Addr)))))=pure cl /\
   (∀x c,cl.lookup x=some c->env.cells.lookup x=some c)/\(∀x,(cs.lookup x).isSome=true->(cl.lookup x).isSome=true)/\∀y∈names,y.2=.free->(cl.lookup y.1).isSome=true
 | [],cs,_,h2=>⟨cs,rfl,h2,λ_ h=>h,λy hy=>by simp at hy⟩
 | (n,k)::r,cs,h1,h2=>by
  rw[List.forIn_cons]
  by_cases hk:(k==ZyD)=true
  ·obtain⟨c,hc⟩:=h1 (n,k) (ZwA ..) (by simpa using hk)
   have ec:cellOf env n=pure c:=by unfold cellOf; rw[hc]
   obtain⟨cl,e1,e2,e3,e4⟩:=Zg2 r ((n,c)::cs) (λy hy=>h1 y (ZwC _ hy)) (λx d hx=>by
    rw[Zyb]at hx;split at hx
    ·rename_i hb
     have:x=n:=by simpa using hb
     cases hx; rw[this]; exact hc
    ·exact h2 x d hx)
   refine⟨cl,?_,e2,λx hx=>e3 x ?_,λy hy hf=>?_⟩
   ·simp only[hk,if_true,ec,pure_bind]
    exact e1
   ·rw[Zyb]
    split
    ·rfl
    ·exact hx
   ·rcases ZwT.mp hy with e | hy
    ·subst e
     exact e3 n (by rw[Zyb]; simp)
    ·exact e4 y hy hf
  ·obtain⟨cl,e1,e2,e3,e4⟩:=Zg2 r cs (λy hy=>h1 y (ZwC _ hy)) h2
   refine⟨cl,?_,e2,e3,λy hy hf=>?_⟩
   ·simp only[hk,if_false,pure_bind,Zyg]
    exact e1
   ·rcases ZwT.mp hy with e | hy
    ·subst e
     exact absurd (by simpa using hf) hk
    ·exact e4 y hy hf
theorem Zex{scope:Scope}{env:Env}(h:∀y∈scope.names,y.2=.free->∃c,env.cells.lookup y.1=some c) :
  ∃cl,closureFor scope env=pure cl/\(∀x c,cl.lookup x=some c->env.cells.lookup x=some c)/\∀y∈scope.names,y.2=.free->(cl.lookup y.1).isSome=true:=by
 obtain⟨cl,e1,e2,_,e4⟩:=Zg2 (env:=env) scope.names [] h (λx c hx=>by simp at hx);refine⟨cl,?_,e2,e4⟩;unfold closureFor;exact(congrArg (λm:Sem (List (Str × Addr))=>m >>= λcs=>pure cs) e1).trans (pure_bind cl λcs=>pure cs)
theorem Ext.chg{F H F' H':Hp}(x:Ext F H F' H'){p:Addr}(o:HO)(h1:H p=none)(h2:F' p=none)(h3:∀u,H' p=some u->Zkc u=true):Ext F H F' (upd H' p o) :=
 ⟨x.ff,λb q z=>by
  have hb:b≠p:=Zaa z h1;have y:=x.hh b q z;unfold ZcE at y ⊢;rw[Zy hb];exact y,λb q z=>by rw[Zy (Zaa z h2)]; exact x.sub b q z,x.new,λt=>(x.tab t).keep λa u z hu=>by
   have ha:a≠p:=λe=>by subst e; exact Zq0 (h3 u z) hu
   rw[Zy ha]; exact z,x.nts⟩
theorem At.push{K:Zww}{F0 H0 F H:Hp}{r:HM.Env}{σ:L2.St}{d:PyData}{v:V}(e:At K F0 H0 F H r σ)(q:Rep K F d v):At K F0 H0 F H (some (.pl d)::r) (some v::σ):=by
 obtain⟨fp,e⟩:=e;refine⟨λi=>match i with | 0=>[] | i+1=>fp i,e.ext,by rw[ZwM,ZwM,e.len],λi b h=>?_,λi h=>?_,λi a h=>?_,λi=>?_,λi j a hij h=>?_,e.tb,e.nt⟩
 ·cases i with
  | zero=>rw[ZyS]at h;cases h;exact⟨v,rfl,.pl q⟩
  | succ i=>rw[Zw8]at h;obtain⟨u,h1,h2⟩:=e.at_ i b h;exact⟨u,by rw[Zw8]; exact h1,h2⟩
 ·cases i with
  | zero=>rfl
  | succ i=>exact e.emp i λb z=>h b (by rw[Zw8]; exact z)
 ·cases i with
  | zero=>simp at h
  | succ i=>exact e.own i a h
 ·cases i with
  | zero=>exact Zx4
  | succ i=>exact e.nd i
 ·cases i with
  | zero=>simp at h
  | succ i =>
   cases j with
   | zero=>simp
   | succ j=>exact e.dis i j a (by omega) h
theorem At.chgNew{K:Zww}{F0 H0 F H:Hp}{r:HM.Env}{σ:L2.St}{p:Addr}(o:HO){Hs Fs:Hp}(e:At K F0 H0 F H r σ)(es:At K F0 H0 Fs Hs r σ)(hs:Zae Hs H)(h1:Hs p=none)(h2:F p=none)(h3:∀u,H p=some u->Zkc u=true):At K F0 H0 F (upd H p o) r σ:=by
 obtain⟨fp,e⟩:=e;obtain⟨fq,es⟩:=es;have hp:∀i,¬p∈fp i:=λi hm=>by
  obtain⟨b,hb⟩:=e.bound hm;obtain⟨v,q1,q2⟩:=e.at_ i b hb;obtain⟨v',q3,q4⟩:=es.at_ i b hb;rw[q1]at q3;cases q3;generalize fp i=f1 at q2 hm;generalize fq i=f2 at q4;cases q2 with
  | pl _=>simp at hm
  | hd _ _ _ _=>simp at hm
  | hf _=>simp at hm
  | ol k _=>cases q4 with | ol k' _=>simp at hm; subst hm; rw[h1]at k'; cases k'
  | ok k _ _=>cases q4 with | ok k' _ _=>simp at hm; subst hm; rw[h1]at k'; cases k'
  | ot k _ _=>cases q4 with | ot k' _ _=>simp at hm; subst hm; rw[h1]at k'; cases k'
  | otl k _ v1 _ =>
   cases q4 with
   | otl k' hk' v2 r2' =>
    have eo:=hs.back k' k λ_ z=>by cases z
    cases eo;have v2':=v2;rw[v1]at v2;rcases ZwT.mp hm with z2 | z2
    ·subst z2; rw[h1]at k'; cases k'
    ·have:V.ref p∈Zz0 V.ref _:=ZwK.mpr ⟨p,z2,rfl⟩
     rw[v2]at this;obtain⟨a',m1,m2⟩:=ZwK.mp this;injection m2 with m2
     subst m2;obtain⟨o,ho⟩:=ZZ.there (ZZ.otl k' hk' v2' r2') (ZwC _ m1);rw[h1]at ho; cases ho
 have hH0:H0 p=none:=es.ext.hh.free h1;refine⟨fp,e.ext.chg o hH0 h2 h3,e.len,λi b h=>?_,e.emp,e.own,e.nd,e.dis,e.tb,e.nt⟩;obtain⟨v,q1,q2⟩:=e.at_ i b h;refine⟨v,q1,q2.mono (Zo.refl F) λa ha o' z=>?_⟩;have hne:a≠p:=λe=>hp i (by rw[<-e]; exact ha);exact .of (by rw[Zy hne]; exact z)
end HP
namespace HP
open PySem PySem.Spec PyProof.Rows L2
variable[FX]
structure Zee(X:Cx)(N:List Str)(scope:Scope)(fr:List Str):Prop where
 kind:scope.kind=.function
 cell:∀y∈scope.names,y.2≠.cell
 names:∀y∈scope.names,y.2=.local->scope.names.lookup y.1=some .local
 loc:∀x∈fr,scope.names.lookup x=some .local
 first:∀(i:Nat) (x:Str),fr[i]?=some x->N[i]?=some x
 nd:N.Nodup
 len:N.length=X.N.length+fr.length
 cap:∀y∈scope.names,y.2=.free->X.env.kindOf y.1=some .cell\/X.env.kindOf y.1=some .free
 same:∀(i:Nat) (y:Str),N[i+fr.length]?=some y->scope.names.lookup y=some .free->X.N[i]?=some y
 vis:∀(i:Nat) (y:Str),N[i+fr.length]?=some y->Vis scope y->scope.names.lookup y=some .free
def goG(dec:PyData->Option (List PyData))(c:HM.TF)(e:HM.EF)(r:HM.Env):List PyData->Option (List PyData)
 | []=>some []
 | x::xs=>match dec x with
  | some ys=>match c (ys.map (λd=>some (HM.B.pl d))++r)with
   | some true=>match e (ys.map (λd=>some (HM.B.pl d))++r)with
    | some y=>(goG dec c e r xs).map (y::·)
    | none=>none
   | some false=>goG dec c e r xs
   | none=>none
  | none=>none
def Zgp(dec:PyData->Option (List PyData))(i:HM.IF)(c:HM.TF)(e:HM.EF):HM.BF:=λr=>match i r with
 | some xs=>if xs.length<HM.big then(goG dec c e r xs).map λys=>HM.B.ol ys else none
 | none=>none
def Zjw(Y:Cx)(m:Nat)(tg:Expr)(dec:PyData->Option (List PyData)):Prop:=∀(pins:List (Addr × Obj)) (s:Shared) (σ:L2.St) (sv:List (Option V)) (H F:Hp) (d:PyData) (ys:List PyData) (xv:V) (u:Value),sv.length=m->Inv Y pins (sv++σ) H s->RelV xv u->Zo F H->Rep Y.K F d xv->dec d=some ys ->
 wpAny (model Y.prog Y.w) Y.A (assign tg Y.env u) (λ_ s'=>∃vs:List V,vs.length=m/\Inv Y pins (vs.map some++σ) H s'/\Zq Y.K F ys vs) Y.xe s
theorem At.pushes{K:Zww}{F0 H0 F H:Hp}{r:HM.Env}{σ:L2.St}:∀{ds:List PyData} {vs:List V},At K F0 H0 F H r σ->Zq K F ds vs->At K F0 H0 F H (ds.map (λd=>some (HM.B.pl d))++r) (vs.map some++σ)
 | [],vs,e,q=>by rw[q.nil_inv];exact e
 | d::ds,vs,e,q=>by obtain⟨v,us,rfl,r1,r2⟩:=q.cons_inv;exact(At.pushes e r2).push r1
section
variable{X:Cx}{N:List Str}{scope:Scope}{fr:List Str}{cl:List (Str × Addr)}{C:Addr}
theorem Zbd{env:Env}{y:Str}{k:NameKind}:∀{names:List (Str × NameKind)},(names.map λ(n,k)=>if(k==ZyD&&env.scope.kind==.function&&env.kindOf n==some .cell)then(n,NameKind.cell)else(n,k)).lookup y=some k ->
  names.lookup y=some k\/(k=.cell/\names.lookup y=some .free)
 | [],h=>by simp at h
 | (n,k')::r,h=>by
  have ih:=@Zbd env y k r;rw[ZwD]at h;dsimp only at h
  by_cases hc:(k'==ZyD&&env.scope.kind==.function&&env.kindOf n==some .cell)=true
  ·rw[if_pos hc,Zyb]at h
   rw[Zyb];split at h
   ·cases h
    refine .inr ⟨rfl,?_⟩;have:(k'==ZyD)=true:=by rw[ZwU,ZwU]at hc;exact hc.1.1
    rw[show k'=ZyD by simpa using this]
   ·exact ih h
  ·rw[if_neg hc,Zyb]at h
   rw[Zyb];split at h
   ·cases h
    exact .inl rfl
   ·exact ih h
theorem lookup_mem{y:Str}{k:NameKind}:∀{names:List (Str × NameKind)},names.lookup y=some k->(y,k)∈names
 | [],h=>by simp at h
 | (n,k')::r,h=>by
  rw[Zyb]at h;split at h
  ·cases h
   rename_i hb;rw[show y=n by simpa using hb];exact ZwA ..
  ·exact ZwC _ (lookup_mem h)
theorem ZsJ{pins:List (Addr × Obj)}{σ:L2.St}{H:Hp}{s:Shared}{fp:List Addr}(T:Zee X N scope fr)(hcl:∀y c,cl.lookup y=some c->X.env.cells.lookup y=some c)(hfr:∀y∈scope.names,y.2=.free->(cl.lookup y.1).isSome=true)
  (I:Inv X pins σ H s) (hc:X.calm=true) (hf:∀b∈fp,Zfg X pins H b) (hfl:∀b∈fp,b<s.heap.objs.size) (hC:s.heap.objs.size<=C):(Z2 X N scope cl C s H fp).Ok:=by
 refine⟨I.ok.mod,T.kind,I.ok.glob,I.ok.blt,hC,λy z c h1 h2=>I.ok.inj y z c (hcl y c h1) (hcl z c h2),λy h=>?_,λy c h=>?_,λ_=>I.ok.hd hc,I.ok.frames,.inl rfl,λb hb=>⟨?_,λy c h=>?_⟩,λb o h=>I.bs b o h,
  Zxs I.ok.bsz I.sz,λb o h hb=>?_,λb hb hs=>?_,I.stack,I.stkFree⟩
 ·have h':(relabel scope X.env).names.lookup y=some .cell\/(relabel scope X.env).names.lookup y=some .free:=h
  have hm:(y,ZyD)∈scope.names:=by
   rcases h' with h' | h'
   ·rcases Zbd h' with q | ⟨_,q⟩
    ·exact absurd rfl (T.cell _ (lookup_mem q))
    ·exact lookup_mem q
   ·rcases Zbd h' with q | ⟨e,_⟩
    ·exact lookup_mem q
    ·cases e
  exact Zxi.mp (hfr _ hm rfl)
 ·exact absurd h (by show ¬false=true; simp)
 ·exact ZwS (Zw0 (hfl b hb) hC)
 ·obtain⟨_,_,_,_,q,_⟩:=hf b hb
  exact q y c (hcl y c h)
 ·obtain⟨_,_,_,q,_⟩:=hf b hb
  rcases q with q | q
  ·exact I.ok.noex b o h q
  ·exact absurd (Zw0 (ZwL h) (Zxs I.ok.bsz q)) (Zya _)
 ·obtain⟨_,q1,q2,_⟩:=hf b hb
  rcases ZwT.mp (I.stkSub b hs)with z | z
  ·exact q1 z
  ·exact q2 z
theorem ZmH{pins:List (Addr × Obj)}{σ:L2.St}{H:Hp}{s:Shared}{fp:List Addr}{D:Addr}{h1:Heap}{tk:Nat}(T:Zee X N scope fr)(hcl:∀y c,cl.lookup y=some c->X.env.cells.lookup y=some c)(hfr:∀y∈scope.names,y.2=.free->(cl.lookup y.1).isSome=true)
  (I:Inv X pins σ H s) (hc:X.calm=true) (hf:∀b∈fp,Zfg X pins H b) (hfl:∀b∈fp,b<s.heap.objs.size) (hD:s.heap.objs.size=D) (hC:D<C) (ns:h1.Ns C (λ_=>none)) (hl:h1.get? D=some { cls:=.type "list",data:=.seq #[] 0 })
  (k:∀b o,s.heap.get? b=some o->h1.get? b=some o):Inv (Z2 X N scope cl C s H fp) [] (Zw4 fr.length none++σ) (upd H D (.lst [])) { s with heap:=h1,toks:=tk }:=by
 have hn:H D=none:=I.hok.fresh (ZzR hD);have hDC:s.heap.objs.size<=C:=Zxs (ZzR hD) (Zyi hC);have hCn:H C=none:=I.hok.fresh hDC;refine⟨ZsJ T hcl hfr I hc hf hfl hDC,rfl,I.bare,Un.laid k (ZzR hD) hn,⟨_,ns,λi y v e1 e2 e3=>?_⟩,λy c h=>?_,?_,λy c h=>?_,λp hp=>absurd (show p∈([]:List (Addr × Obj)) from hp) (by simp),I.hok.laid k (ZzR hD) ⟨ZxR _,[],0,.nil,hl⟩,?_⟩
 ·have hge:fr.length<=i:=by
   apply Zy5;intro hlt;rw[Zxg (by rw[Zxe]; exact hlt),ZyR,if_pos hlt]at e2;cases e2
  rw[Zxb (by rw[Zxe]; exact hge),Zxe]at e2;obtain⟨j,rfl⟩:∃j,i=j+fr.length:=⟨i-fr.length,by omega⟩;rw[Nat.add_sub_cancel]at e2
  ·have e3':Vis scope y:=by
    have e3:Vis (relabel scope X.env) y:=e3;rcases e3 with q | q | q
    ·rcases Zbd q with q | ⟨z,_⟩
     ·exact .inl q
     ·cases z
    ·rcases Zbd q with q | ⟨_,q⟩
     ·exact .inr (.inl q)
     ·exact .inr (.inr q)
    ·rcases Zbd q with q | ⟨z,_⟩
     ·exact .inr (.inr q)
     ·cases z
   have hfree:=T.vis j y e1 e3';have hm:=lookup_mem hfree;have hN:=T.same j y e1 hfree;have hcap:=T.cap _ hm rfl;obtain⟨m,_,hl⟩:=I.loc;obtain⟨u,ru,lu⟩:=hl j y v hN e2 (by
    rcases hcap with q | q
    ·exact .inr (.inl q)
    ·exact .inr (.inr q))
   refine⟨u,ru,?_⟩;obtain⟨c,hcc⟩:=Zxi.mp (hfr _ hm rfl);rcases lu with⟨q,_⟩ | ⟨_,c',e,z⟩
   ·rcases hcap with q' | q'<;>(rw[q']at q; cases q)
   ·refine .inr ⟨?_,c,hcc,?_⟩
    ·rcases e3 with q | q | q
     ·have q:(relabel scope X.env).names.lookup y=some .local:=q
      rcases Zbd q with q | ⟨z,_⟩
      ·rw[hfree]at q; cases q
      ·cases z
     ·exact .inl q
     ·exact .inr q
    ·rw[hcl y c hcc]at e
     cases e;obtain⟨o,ho,hd⟩:=z;exact⟨o,k _ _ ho,hd⟩
 ·obtain⟨v,o,ho,hd⟩:=I.cell y c (hcl y c h)
  exact⟨v,o,k _ _ ho,hd⟩
 ·show upd H D (.lst []) C=none
  rw[Zy (Zze hC)];exact hCn
 ·have hq:=I.freeC y c (hcl y c h)
  obtain⟨v,o,ho,_⟩:=I.cell y c (hcl y c h);have:c≠D:=ZwS (by rw[<-hD]; exact ZwL ho);rw[Zy this];exact hq
 ·show(Zw4 fr.length none++σ).length=N.length
  rw[ZwR,Zxe,I.len,T.len,Nat.add_comm]
def XTs(Y:Cx)(ifs:List Expr)(f:HM.TF):Prop:=∀r c,f r=some c->∀(pins:List (Addr × Obj)) (s:Shared) (σ:L2.St) (H:Hp) (Q:Bool->Hp->Prop),Inv Y pins σ H s->(Now Y.K r σ H λF0 H0 F=>∀F' H',Ext F H F' H'->Q c H') ->
 wpAny (model Y.prog Y.w) Y.A (Zou ifs Y.env) (TP Y pins σ Q) Y.xe s
theorem Zbu{Y:Cx}:XTs Y [] HM.Zam:=by intro r c h pins s σ H Q I ⟨F0,H0,F,at_,k⟩;cases h;exact wpAny_tests_nil ⟨H,I,k F H at_.refl⟩
theorem Zdi{Y:Cx}{e:Expr}{f:HM.TF}(h:XT Y e f):XTs Y [e] f:=λr c hc pins s σ H Q I q=>wpAny_tests_one (h r c hc pins s σ H Q I q)
def ItE(K:Zww)(J:It)(ds:List PyData)(F:Hp):Prop:=∀F' H,Zo F F'->Zo F' H ->
 (∀(i:Nat) (d:PyData),ds[i]?=some d->J.go i H/\∀x H',J.yld i H x H'->∃F2,Ext (Zca F' H) H F2 H'/\Rep K F2 d x)/\J.stop ds.length H
theorem ItD.e{K:Zww}{J:It}{ds:List PyData}{F:Hp}(h:ItD K J ds F):ItE K J ds F:=λF' H s1 s2=>by obtain⟨a,b⟩:=h F' H s1 s2;refine⟨λi d hd=>⟨(a i d hd).1,λx H' hy=>?_⟩,b⟩;obtain⟨e,r⟩:=(a i d hd).2 x H' hy;subst e;exact⟨_,.refl (Ext.refl s2).tups.sub,r⟩
def XIE(X:Cx)(tg e:Expr)(f:HM.IF):Prop:=∀r ds,f r=some ds->PI X tg e λσ H R=>Now X.K r σ H λF0 H0 F=>∀J F' H',Ext F H F' H'->ItE X.K J ds F'->R J H'
theorem XI.e{X:Cx}{tg e:Expr}{f:HM.IF}(h:XI X tg e f):XIE X tg e f:=λr ds hr pins s σ H R I ⟨F0,H0,F,at_,k⟩=>h r ds hr pins s σ H R I ⟨F0,H0,F,at_,λJ F' H' x q=>k J F' H' x q.e⟩
theorem ZmD{pins:List (Addr × Obj)}{σ:L2.St}{H1:Hp}{s2:Shared}{fp:List Addr}{it D:Addr}{tn:Nat->Heap->Prop}{J:It}{elt iter:Expr}{ifs:List Expr}{tg:Expr}{pos:Pos}{dec:PyData->Option (List PyData)}{fc:HM.TF}{fe:HM.EF}{s4:Shared}{r:HM.Env}{ds out:List PyData}{Fs Hs F0 H0 F1:Hp}
  {R:Result->Shared->Prop} (T:Zee X N scope fr) (I2:Inv X pins σ H1 s2) (W:Turn X.prog X.w X.K tg J fp it tn) (hf:∀b∈fp,Zfg X pins H1 b)
  (I4:Inv (Z2 X N scope cl C s2 H1 fp) [] (Zw4 fr.length none++σ) (upd H1 D (.lst [])) s4) (tn0:tn 0 s4.heap) (hD:s2.heap.objs.size<=D) (hfl:∀b∈fp,b<s2.heap.objs.size) (hbl:X.calm=true)
  (hc:XTs (Z2 X N scope cl C s2 H1 fp) ifs fc) (he:XE (Z2 X N scope cl C s2 H1 fp) elt fe) (at_:At X.K F0 H0 Fs Hs r σ) (x1:Ext Fs Hs F1 H1) (itd:ItE X.K J ds F1) (hbind:Zjw (Z2 X N scope cl C s2 H1 fp) fr.length tg dec) (hbig:ds.length<HM.big) (go:goG dec fc fe r ds=some out)
  (hR:∀s',(∃F H vs,Inv (Z2 X N scope cl C s2 H1 fp) [] (Zw4 fr.length none++σ) H s'/\Ext Fs Hs F H/\H D=some (.lst vs)/\F D=none/\Zq X.K F out vs)->R (.ok .next) s') :
  codeAny (model X.prog X.w) X.A (.compLoop (.ListComp elt [⟨tg,iter,ifs,0⟩] scope pos) 0 (.ref it) (.ref D) (compEnvC scope cl C X.env)) R s4:=by
 have hH1D:H1 D=none:=I2.hok.fresh hD;have hHsD:Hs D=none:=x1.hh.free hH1D;have hF1D:F1 D=none:=x1.sub.free hH1D;have hfpD:∀b∈fp,b≠D:=λb hb=>ZwS (Zw0 (hfl b hb) hD);have okY:=I4.ok;have stat:∀{H:Hp},(∀b∈fp,H b=none)->∀b∈fp,Zfg (Z2 X N scope cl C s2 H1 fp) [] H b:=λhn b hb=>⟨hn b hb,(okY.exf b hb).1,okY.exfs b hb,.inl hb,(okY.exf b hb).2,λp hp=>absurd (show p∈([]:List (Addr × Obj)) from hp) (by simp)⟩;refine Zqy (λn s'=>∃(j:Nat) (sv:List (Option V)) (F H:Hp) (ys:List PyData) (vs:List V) (rest:List PyData),sv.length=fr.length/\Inv (Z2 X N scope cl C s2 H1 fp) [] (sv++σ) H s'/\tn j s'.heap/\(∀b∈fp,H b=none)/\Ext Fs Hs F H/\Zo F1 F/\At X.K F0 H0 F H r σ /\
  H D=some (.lst vs)/\F D=none/\Zq X.K F ys vs/\j+n=ds.length/\ys.length<=j/\goG dec fc fe r (ds.drop j)=some rest/\out=ys++rest) ?_ ds.length
  ⟨0,Zw4 fr.length none,F1,_,[],[],out,Zxe,I4,tn0,λb hb=>by rw[Zy (hfpD b hb)]; exact(hf b hb).1,x1.lay' hH1D,Zo.refl _,(at_.grow x1).grow ((at_.grow x1).refl.lay' hH1D),ZA,hF1D,.nil,by omega,ZwH _,go,rfl⟩
 rintro n s5 ⟨j,sv,F,H,ys,vs,rest,hsv,I5,tn5,hfp5,x5,sF,at5,hHD,hFD,rys,hjn,hyl,hgo,hout⟩
 obtain⟨it1,it2⟩:=itd F H sF at5.sub;cases n with
 | zero =>
  have ej:j=ds.length:=by omega
  subst ej;rw[ZAy]at hgo;cases hgo;rw[Zxc]at hout;subst hout;refine thn (W.done (Z2 X N scope cl C s2 H1 fp) rfl rfl rfl rfl _ [] s5 _ H No I5 (stat hfp5) tn5 it2) λrv s6 ⟨e,I6⟩=>?_;subst e;refine hR s6 ⟨F,H,vs,I6.weak (by rw[ZwR,ZwR,Zxe,hsv]) λi v hv=>?_,x5,hHD,hFD,rys⟩
  by_cases hi:i<fr.length
  ·rw[Zxg (by rw[Zxe]; exact hi),ZyR,if_pos hi]at hv
   cases hv
  ·rw[Zxb (by rw[Zxe]; omega),Zxe]at hv
   rw[Zxb (by omega),hsv];exact hv
 | succ n =>
  have hlt:j<ds.length:=by omega
  obtain⟨jg,jy⟩:=it1 j ds[j] (ZwN hlt);obtain⟨F2,x5,sF,at5,hFD,rys,jy⟩:∃F2,Ext Fs Hs F2 H/\Zo F1 F2/\At X.K F0 H0 F2 H r σ/\F2 D=none/\Zq X.K F2 ys vs/\∀x H',J.yld j H x H'->∃F3,Ext F2 H F3 H'/\Rep X.K F3 ds[j] x :=
   ⟨Zca F H,x5.tups,sF.trans (Zcy at5.sub),at5.grow at5.refl.tups,by unfold Zca; rw[hHD]; exact hFD,rys.mono (Zcy at5.sub),jy⟩
  clear it1 it2
  rw[Zzc hlt]at hgo;refine thn (W.item (Z2 X N scope cl C s2 H1 fp) rfl rfl rfl rfl j [] s5 _ H No I5 (stat hfp5) tn5 jg) λrv s6 ⟨u,e,h6⟩=>?_;subst e;refine thn h6 λ_ s7 ⟨xv,H7,I7,r7,y7,tn7,fr7⟩=>?_;obtain⟨F7,x7,rx⟩:=jy xv H7 y7;obtain⟨F2,x5,sF,at5,hHD,hFD,rys,rx⟩:∃F2,Ext Fs Hs F2 H7/\Zo F1 F2/\At X.K F0 H0 F2 H7 r σ/\H7 D=some (.lst vs)/\F2 D=none/\Zq X.K F2 ys vs/\Rep X.K F2 ds[j] xv:=by
   refine⟨F7,x5.trans x7,sF.trans x7.ff,at5.grow x7,x7.hh _ _ hHD,?_,rys.mono x7.ff,rx⟩;cases q:F7 D with
   | none=>rfl
   | some o =>
    rcases x7.new D o q with z | z
    ·rw[hFD]at z; cases z
    ·exact(z.no hHD λ_ q=>by cases q).elim
  have I7':=I7.pinned (stat fr7) (W.obj _ _ tn7);unfold goG at hgo;split at hgo
  case h_2=>cases hgo
  rename_i zs hzs;have dok:=hbind _ s7 σ sv H7 F2 ds[j] zs xv u hsv I7' r7 at5.sub rx hzs;refine thn dok λ_ s8 ⟨ws,hws,I8,rws⟩=>?_;have atp:=at5.pushes rws;have again:∀{s9:Shared} {F9 H9:Hp} {zs9:List PyData} {ws9:List V} {rest':List PyData},Inv (Z2 X N scope cl C s2 H1 fp) ([]++Zh6 fp s7.heap) (ws.map some++σ) H9 s9->Ext Fs Hs F9 H9->Zo F2 F9->At X.K F0 H0 F9 H9 r σ->H9 D=some (.lst ws9)->F9 D=none->Zq X.K F9 zs9 ws9->zs9.length<=j+1->goG dec fc fe r (ds.drop (j+1))=some rest'->out=zs9++rest' ->
    ∃m,m<n+1/\∃(j:Nat) (sv:List (Option V)) (F2 H:Hp) (ys:List PyData) (vs:List V) (rest:List PyData),sv.length=fr.length/\Inv (Z2 X N scope cl C s2 H1 fp) [] (sv++σ) H s9/\tn j s9.heap/\(∀b∈fp,H b=none)/\Ext Fs Hs F2 H/\Zo F1 F2/\At X.K F0 H0 F2 H r σ /\
     H D=some (.lst vs)/\F2 D=none/\Zq X.K F2 ys vs/\j+m=ds.length/\ys.length<=j/\goG dec fc fe r (ds.drop j)=some rest/\out=ys++rest:=by
   intro s9 F9 H9 zs9 ws9 rest' I9 x9 s9F a9 h9 f9 r9 l9 g9 o9;refine⟨n,ZyL n,j+1,ws.map some,F9,H9,zs9,ws9,rest',by rw[Zwy]; exact hws,I9.unpinned,W.keep _ _ _ tn7 λb hb o e=>(I9.pin (b,o) (Zw1 _ (Zw1 _ (ZeJ hb e)))).1,λb hb=>?_,x9,sF.trans s9F,a9,h9,f9,r9,by omega,l9,g9,o9⟩;obtain⟨o,e,d⟩:=W.obj _ _ tn7 b hb;exact(I9.pin (b,o) (Zw1 _ (Zw1 _ (ZeJ hb e)))).2.1
  have noD:∀{F' H':Hp},Ext F2 H7 F' H'->F' D=none:=λ{F' H'} y=>by
   cases q:F' D with
   | none=>rfl
   | some o =>
    rcases y.new D o q with z | z
    ·rw[hFD]at z; cases z
    ·exact(z.no hHD λ_ q=>by cases q).elim
  split at hgo
  ·rename_i hcv
   split at hgo
   ·rename_i y hy
    obtain⟨rest',g1,g2⟩:=Zwx.mp hgo;subst g2;refine thn (hc _ _ hcv _ s8 _ H7 (λc' H'=>c'=true/\∃F',Ext F2 H7 F' H') I8 ⟨F0,H0,F2,atp,λF' H' y=>⟨rfl,F',y⟩⟩) λok s9 ⟨H9,I9,eok,F9,x9⟩=>?_;subst eok;rw[if_pos rfl];refine thn (he _ _ hy _ s9 _ H9 (λv' H'=>∃F',Ext F9 H9 F' H'/\Rep X.K F' y v') I9 ⟨F0,H0,F9,atp.grow x9,λv' F' H' x q=>⟨F',x,q⟩⟩) λu' s10 ⟨v',H10,I10,r10,F10,x10,q10⟩=>?_;have x910:=x9.trans x10;have hHD':H10 D=some (.lst vs):=x910.hh _ _ hHD;have hFD':=noD x910;refine thn (ZfE (X:=Z2 X N scope cl C s2 H1 fp) _ s10 _ H10 (.ref D) [v'] (.ref D) [u'] (λ_ H'=>H'=upd H10 D (.lst (vs++[v']))) I10 rfl (.cons r10 .nil) ⟨D,vs,v',rfl,rfl,hHD',?_,rfl⟩) λ_ s11 ⟨_,H11,I11,_,e11⟩=>?_
    ·have:=rys.1
     exact Zd1 (by omega)
    subst e11;refine again (zs9:=ys++[y]) I11 ((x5.trans x910).chg _ hHsD hFD' λu z=>by rw[hHD']at z; cases z; rfl) x910.ff ((at5.grow x910).chgNew _ at_ (x5.trans x910).hh hHsD hFD' λu z=>by rw[hHD']at z; cases z; rfl) ZA hFD' ((rys.mono x910.ff).append (.one q10)) (by rw[ZwR]; show ys.length+1<=j+1; omega) g1 (by rw[hout,Zx5]; rfl)
   ·cases hgo
  ·rename_i hcv
   refine thn (hc _ _ hcv _ s8 _ H7 (λc' H'=>c'=false/\∃F',Ext F2 H7 F' H') I8 ⟨F0,H0,F2,atp,λF' H' y=>⟨rfl,F',y⟩⟩) λok s9 ⟨H9,I9,eok,F9,x9⟩=>?_;subst eok;rw[if_neg (by simp)];exact again (zs9:=ys) I9 (x5.trans x9) x9.ff (at5.grow x9) (x9.hh _ _ hHD) (noD x9) (rys.mono x9.ff) (by omega) hgo hout
  ·cases hgo
theorem ZmP{pins:List (Addr × Obj)}{σ:L2.St}{H1 H:Hp}{s2 s':Shared}{fp:List Addr}{sv:List (Option V)}{h':Heap}(I2:Inv X pins σ H1 s2)(hf:∀b∈fp,Zfg X pins H1 b)(hC:s2.heap.objs.size<=C)
  (I:Inv (Z2 X N scope cl C s2 H1 fp) [] (sv++σ) H s') (hs:Zyj C s'.heap h'):Inv X pins σ H { s' with heap:=h' }:=by
 have u:Un (frs X.stack) fp H1 H s2.heap s'.heap:=I.base;have hCn:H C=none:=I.free;have ne:∀b o,s2.heap.get? b=some o->b≠C:=λb o e=>ZwS (Zw0 (ZwL e) hC);refine I2.call' (s':={ s' with heap:=h' }) (ch:=fp) I.os ⟨λb o e n hb hx=>(hs.2 b (ne b o e)).trans (u.keep b o e n hb hx),λb o e n hb hx=>?_,u.free,λb o e hx=>?_,u.tups,u.frzs,u.tbls⟩ (λb o e=>?_) I.bare λb hb=>?_
 ·obtain⟨sl,q⟩:=u.slot b o e n hb hx
  exact⟨sl,(hs.2 b (ne b o e)).trans q⟩
 ·obtain⟨o',q⟩:=u.there b o e hx
  exact⟨o',(hs.2 b (ne b o e)).trans q⟩
 ·refine(I.hok b o e).stay (λc w' hc q=>(hs.2 c ?_).trans q) (λ_ q=>q) λ_ _ q=>q
  rintro rfl
  rcases hc with rfl | hc
  ·rw[hCn]at e; cases e
  ·rw[hCn]at hc; cases hc
 ·obtain⟨q0,q1,q2,q3,q4,q5⟩:=hf b hb
  exact⟨q3,q1,q4,q5⟩
variable{elt iter:Expr}{ifs:List Expr}{tg:Expr}{pos:Pos}{fi:HM.IF}{dec:PyData->Option (List PyData)}{fc:HM.TF}{fe:HM.EF}
theorem ZmW{pins:List (Addr × Obj)}{σ:L2.St}{H:Hp}{s:Shared}(T:Zee X N scope fr)(I:Inv X pins σ H s):∀y∈scope.names,y.2=.free->∃c,X.env.cells.lookup y.1=some c:=λy hy e=>I.ok.has y.1 (T.cap y hy e)
theorem Zra(hxe:X.xe=λ_ _=>False)(hcalm:X.calm=true)(T:Zee X N scope fr)(hbind:∀cl C s H ex,Zjw (Z2 X N scope cl C s H ex) fr.length tg dec)(hi:XIE X tg iter fi)(hc:∀cl C s H ex,XTs (Z2 X N scope cl C s H ex) ifs fc)(he:∀cl C s H ex,XE (Z2 X N scope cl C s H ex) elt fe)
  (hs:∀x,Zyn iter X.env x=pure x:=by intro _; rfl):XF X (.ListComp elt [⟨tg,iter,ifs,0⟩] scope pos) (Zgp dec fi fc fe):=by
 intro r b h;unfold Zgp at h;split at h
 ·rename_i ds hds
  split at h
  ·rename_i hbig
   obtain⟨out,hgo,e⟩:=Zwx.mp h;subst e;intro pins s σ H Q I ⟨F0,H0,F,at_,k⟩;obtain⟨cl,hclos,hcl,hfr⟩:=Zex (ZmW T I);rw[eval_ListComp];refine wpAny_comprehension_free (use:=none) rfl hs hclos T.kind T.names (thn (hi r ds hds pins s σ H (λJ H'=>∃F',Ext F H F' H'/\ItE X.K J ds F') I ⟨F0,H0,F,at_,λJ F' H' x q=>⟨F',x,q⟩⟩) λv s1 h1=>thn h1 λitv s2 h2=>?_);obtain⟨it,fp,tn,J,H1,rfl,I2,W,st2,f2,F1,x1,itd⟩:=h2;have hfl:∀b∈fp,b<s2.heap.objs.size:=λb hb=>let ⟨o,ho,_⟩:=W.obj 0 _ st2 b hb; ZwL ho
   refine Zxu (ZzS T.cell (by intro y hy; simp at hy) (λh1 hns hsb=>?_) T.kind);dsimp only at hns hsb ⊢;generalize hP:s2.heap.push { cls:=.type "list",dict:=none,data:=.seq ([]:List Value).toArray }=h0 at hns hsb ⊢;have hsz:h0.objs.size=s2.heap.objs.size+1:=by rw[<-hP,Zy2]
   have hDC:s2.heap.objs.size<h0.objs.size:=by rw[hsz]; exact ZyL _
   have old:∀b o,s2.heap.get? b=some o->h1.get? b=some o:=λb o e=>hsb.extBut b o (ZwS (Zyl (ZwL e) hDC)) (ZwB _ (by rw[<-hP]; exact ZwB _ e));have hl:h1.get? s2.heap.objs.size=some { cls:=.type "list",data:=.seq #[] 0 }:=hsb.extBut _ _ (ZwS hDC) (ZwB _ (by rw[<-hP]; exact ZwO _ rfl));have I4:Inv (Z2 X N scope cl h0.objs.size s2 H1 fp) [] (Zw4 fr.length none++σ) (upd H1 s2.heap.objs.size (.lst [])) { s2 with heap:=h1,toks:=s2.toks+([]:List (Str × Value)).length }:=ZmH T hcl hfr I2 hcalm f2 hfl rfl hDC hns hl old;have tn1:tn 0 h1:=W.keep _ _ _ st2 λb _ o e=>old b o e;have hHsD:H s2.heap.objs.size=none:=x1.hh.free (I2.hok.fresh (ZwH _));have loop:codeAny (model X.prog X.w) X.A (.compLoop (.ListComp elt [⟨tg,iter,ifs,0⟩] scope pos) 0 (.ref it) (.ref s2.heap.objs.size) (compEnvC scope cl h0.objs.size X.env)) (compPost (model X.prog X.w) X.A X.xe none (EP X pins σ Q) (.ref s2.heap.objs.size) h0.objs.size)
     { s2 with heap:=h1,toks:=s2.toks+([]:List (Str × Value)).length }:=by
    refine ZmD T I2 W f2 I4 tn1 (ZwH _) hfl hcalm (hc _ _ _ _ _) (he _ _ _ _ _) at_ x1 itd (hbind _ _ _ _ _) hbig hgo λs' ⟨F',H',vs,I',x',hD',hFD',rs⟩=>?_;obtain⟨m,hn,_⟩:=id I'.loc;refine⟨m,hn,λh2 hs2=>⟨.ref s2.heap.objs.size,H',ZmP I2 f2 (Zyi hDC) I' hs2,rfl,k _ F' H' x' ⟨[s2.heap.objs.size],.ol hD' rs,by simp,λa ha=>?_⟩⟩⟩;obtain rfl:a=s2.heap.objs.size:=by simpa using ha
    exact⟨hFD',hHsD⟩
   exact codeAny_compStart_list loop (W.self _ 0 _ _ _ tn1 loop)
  ·cases h
 ·cases h
theorem Znx(i:Nat){y:Str}{py spos:Pos}(hN:X.N.Nodup)(hxe:X.xe=λ_ _=>False)(hcalm:X.calm=true)(T:Zee X N scope fr)(hbind:∀cl C s H ex,Zjw (Z2 X N scope cl C s H ex) fr.length tg dec)(hi:XIE X tg iter fi)(hc:∀cl C s H ex,XTs (Z2 X N scope cl C s H ex) ifs fc)(he:∀cl C s H ex,XE (Z2 X N scope cl C s H ex) elt fe)
  (hiy:X.N[i]?=some y:=by rfl) (hy:X.env.scope.names.lookup y=some .local:=by rfl) (hsw:ZyJ (.ListComp elt [⟨tg,iter,ifs,0⟩] scope pos) (some (.Name y py)) spos.line X.env=pure true:=by rfl)
  (hs:∀x,Zyn iter X.env x=pure x:=by intro _; rfl):XS X (.Assign [.Name y py] (.ListComp elt [⟨tg,iter,ifs,0⟩] scope pos) spos) (HM.ZY i (Zgp dec fi fc fe)):=by
 intro r o h;obtain⟨b,hb,e⟩:=Zwx.mp h;subst e;unfold Zgp at hb;split at hb
 ·rename_i ds hds
  split at hb
  ·rename_i hbig
   obtain⟨out,hgo,e⟩:=Zwx.mp hb;subst e;intro pins s σ H E I ⟨F0,H0,F,at_,k⟩;obtain⟨cl,hclos,hcl,hfr⟩:=Zex (ZmW T I);rw[exec_Assign_Name_used _ _ _ _ hsw];refine Zwv (wpAny_standAt (Zwv ?_));show wpAny _ X.A (do let _ <-comprehension (.ListComp elt [⟨tg,iter,ifs,0⟩] scope pos) scope X.env _ (newList []) false (eval iter X.env) (some (assign (.Name y py) X.env))) _ _ s;refine Zwv (ZxG (wpAny_comprehension_free (use:=some (assign (.Name y py) X.env)) (Q:=λ_ s'=>SP X pins E .next s') rfl hs hclos T.kind T.names (thn (hi r ds hds pins s σ H (λJ H'=>∃F',Ext F H F' H'/\ItE X.K J ds F') I ⟨F0,H0,F,at_,λJ F' H' x q=>⟨F',x,q⟩⟩) λv s1 h1=>thn h1 λitv s2 h2=>?_)) (λ_ s' hq=>Zwz (Zwz hq)) λ_ _ e=>e)
   obtain⟨it,fp,tn,J,H1,rfl,I2,W,st2,f2,F1,x1,itd⟩:=h2;have hfl:∀b∈fp,b<s2.heap.objs.size:=λb hb=>let ⟨o,ho,_⟩:=W.obj 0 _ st2 b hb; ZwL ho
   refine Zxu (ZzS T.cell (by intro y hy; simp at hy) (λh1 hns hsb=>?_) T.kind);dsimp only at hns hsb ⊢;generalize hP:s2.heap.push { cls:=.type "list",dict:=none,data:=.seq ([]:List Value).toArray }=h0 at hns hsb ⊢;have hsz:h0.objs.size=s2.heap.objs.size+1:=by rw[<-hP,Zy2]
   have hDC:s2.heap.objs.size<h0.objs.size:=by rw[hsz]; exact ZyL _
   have old:∀b o,s2.heap.get? b=some o->h1.get? b=some o:=λb o e=>hsb.extBut b o (ZwS (Zyl (ZwL e) hDC)) (ZwB _ (by rw[<-hP]; exact ZwB _ e));have hl:h1.get? s2.heap.objs.size=some { cls:=.type "list",data:=.seq #[] 0 }:=hsb.extBut _ _ (ZwS hDC) (ZwB _ (by rw[<-hP]; exact ZwO _ rfl));have I4:Inv (Z2 X N scope cl h0.objs.size s2 H1 fp) [] (Zw4 fr.length none++σ) (upd H1 s2.heap.objs.size (.lst [])) { s2 with heap:=h1,toks:=s2.toks+([]:List (Str × Value)).length }:=ZmH T hcl hfr I2 hcalm f2 hfl rfl hDC hns hl old;have tn1:tn 0 h1:=W.keep _ _ _ st2 λb _ o e=>old b o e;have hHsD:H s2.heap.objs.size=none:=x1.hh.free (I2.hok.fresh (ZwH _));have loop:codeAny (model X.prog X.w) X.A (.compLoop (.ListComp elt [⟨tg,iter,ifs,0⟩] scope pos) 0 (.ref it) (.ref s2.heap.objs.size) (compEnvC scope cl h0.objs.size X.env)) (compPost (model X.prog X.w) X.A X.xe (some (assign (.Name y py) X.env)) (λ_ s'=>SP X pins E .next s') (.ref s2.heap.objs.size) h0.objs.size)
     { s2 with heap:=h1,toks:=s2.toks+([]:List (Str × Value)).length }:=by
    refine ZmD T I2 W f2 I4 tn1 (ZwH _) hfl hcalm (hc _ _ _ _ _) (he _ _ _ _ _) at_ x1 itd (hbind _ _ _ _ _) hbig hgo λs' ⟨F',H',vs,I',x',hD',hFD',rs⟩=>?_;obtain⟨m,hn,_⟩:=id I'.loc;have IX:Inv X pins σ H' s':=ZmP (h':=s'.heap) I2 f2 (Zyi hDC) I' (ZBb _ _);have hCn:H' h0.objs.size=none:=I'.free;have neL:h0.objs.size≠X.env.locals:=Zze (Zyl I2.lt hDC);have neC:∀z c,X.env.cells.lookup z=some c->c≠h0.objs.size:=λz c hz=>by obtain⟨v,o,ho,_⟩:=I2.cell z c hz;exact ZwS (Zyl (ZwL ho) hDC)
    have neP:∀p∈X.pn++pins,p.1≠h0.objs.size:=λp hp=>ZwS (Zyl (ZwL (I2.pin p hp).1) hDC);show wpAny _ X.A (assign (.Name y py) X.env (.ref s2.heap.objs.size)) _ _ _;refine wpAny_assign_Name (Zkq IX hN hiy (.inl hy) (v:=.ref s2.heap.objs.size) rfl (λs3 I3 hsa=>?_) (.inr hy));obtain⟨a,sa,ea⟩:=hsa;have neA:h0.objs.size≠a:=by
     rcases ea with e | e
     ·rw[e]; exact neL
     ·exact Zxv (neC _ _ e)
    refine⟨m,hn.sameBut sa neA,λh2 hs2=>?_⟩;refine⟨_,H',I3.turned (t':=s3.toks) (it:=h0.objs.size) (λb o hb e=>(hs2.2 b hb).trans e) hCn neL (.inr (Zxs I2.sz (Zyi hDC))) neC neP,k _ F' H' ((at_.grow x').storeNew at_ x'.hh (fp':=[s2.heap.objs.size]) (.ol hD' rs) (by simp) λa ha=>?_)⟩;obtain rfl:a=s2.heap.objs.size:=by simpa using ha
    exact⟨hFD',hHsD⟩
   exact codeAny_compStart_list loop (W.self _ 0 _ _ _ tn1 loop)
  ·cases hb
 ·cases hb
end
end HP
namespace HP
open PySem PySem.Spec PyProof.Rows L2
variable[FX]
def Zsi(d:PyData):Option (List PyData):=some [d]
theorem Zuz(c:HM.TF)(e:HM.EF)(r:HM.Env):∀xs,HM.ZaA c e r xs=goG Zsi c e r xs
 | []=>rfl
 | x::xs=>by unfold HM.ZaA goG;rw[Zuz c e r xs];rfl
theorem ZoN(i:HM.IF)(c:HM.TF)(e:HM.EF):HM.ZO i c e=Zgp Zsi i c e:=by
 funext r
 unfold HM.ZO Zgp;cases i r with
 | none=>rfl
 | some xs=>dsimp only; rw[Zuz]
theorem Zrz{K:Zww}{F:Hp}{d1 d2:PyData}{v:V}(h:Rep K F (.tuple [d1,d2]) v):∃a v1 v2,v=.ref a/\F a=some (.tup [v1,v2])/\Rep K F d1 v1/\Rep K F d2 v2:=by
 cases h with
 | @tup a ds vs h1 h2 h3 =>
  cases vs with
  | nil=>simp at h2
  | cons v1 vs=>cases vs with
   | nil=>simp at h2
   | cons v2 vs=>cases vs with
    | nil=>exact⟨a,v1,v2,rfl,h1,h3 0 _ _ rfl rfl,h3 1 _ _ rfl rfl⟩
    | cons _ _=>simp at h2
section
variable{X:Cx}{N:List Str}{scope:Scope}{x x2:Str}{px px2 pt:Pos}{kt:Nat}
theorem ZqR(T:Zee X N scope [x])(cl:List (Str × Addr))(C:Addr)(s₀:Shared)(H₀:Hp)(ex:List Addr):Zjw (Z2 X N scope cl C s₀ H₀ ex) 1 (.Name x px) Zsi:=by
 intro pins s σ sv H F d ys xv u hsv I r sub q hd;cases hd;have hx:=T.loc x (ZwQ.mpr rfl);refine thn (Ziv (X:=Z2 X N scope cl C s₀ H₀ ex) (i:=0) T.nd (T.first 0 x rfl) (.inl (lookup_relabel_local hx)) (.inr (lookup_relabel_local hx)) _ s _ H xv u (λσ' H'=>σ'=(sv++σ).set 0 (some xv)/\H'=H) I r ⟨rfl,rfl⟩) λ_ s' ⟨σ',H',I',e1,e2⟩=>?_
 subst e1 e2;refine⟨[xv],rfl,?_,.one q⟩;cases sv with
 | nil=>simp at hsv
 | cons a sv=>cases sv with
  | nil=>exact I'
  | cons _ _=>simp at hsv
def Zqi(kinds:Str->Option NameKind)(XN N:List Str)(names:List (Str × NameKind))(fr:List Str):Bool :=
 names.all (λy=>y.2 != .cell)&&names.all (λy=>y.2 != .local||names.lookup y.1==some .local)&&fr.all (λx=>names.lookup x==some .local)&&(ZwE fr.length).all (λi=>N[i]?==fr[i]?)&&decide N.Nodup&&N.length==XN.length+fr.length &&
 names.all (λy=>y.2 != .free||kinds y.1==some .cell||kinds y.1==some .free) &&
 (ZwE (N.length-fr.length)).all (λi=>match N[i+fr.length]? with
  | some y=>(names.lookup y != some .free||XN[i]?==some y)&&(names.lookup y==some .free||(names.lookup y != some .local&&names.lookup y != some .cell))
  | none=>true)
theorem ZK{X:Cx}{N XN:List Str}{scope sc:Scope}{fr:List Str}(hs:X.env.scope=sc:=by rfl)(hN:X.N=XN:=by rfl)(hk:scope.kind=.function:=by rfl)(h:Zqi (λy=>sc.names.lookup y) XN N scope.names fr=true:=by decide +kernel):Zee X N scope fr:=by
 subst hN;unfold Zqi at h;simp only[ZwU,ZwF,Zx6,bne_iff_ne,beq_iff_eq,decide_eq_true_eq]at h;obtain⟨⟨⟨⟨⟨⟨⟨h1,h2⟩,h3⟩,h4⟩,h5⟩,h6⟩,h7⟩,h8⟩:=h;have at_:∀(i:Nat) (y:Str),N[i+fr.length]?=some y->(scope.names.lookup y≠some .free\/X.N[i]?=some y)/\(scope.names.lookup y=some .free\/(scope.names.lookup y≠some .local/\scope.names.lookup y≠some .cell)):=λi y e=>by have hi:i+fr.length<N.length:=(ZwI.mp e).1;have:=h8 i (ZwV.mpr (by omega));rw[e]at this;simpa only[ZwU,Zx6,bne_iff_ne,beq_iff_eq]using this
 refine⟨hk,h1,λy hy e=>(h2 y hy).resolve_left (λz=>z e),h3,λi x e=>?_,h5,h6,λy hy e=>?_,λi y e q=>(at_ i y e).1.resolve_left (λz=>z q),λi y e v=>?_⟩
 ·rw[h4 i (ZwV.mpr (ZwI.mp e).1)]
  exact e
 ·have:=h7 y hy
  rw[show X.env.kindOf y.1=sc.names.lookup y.1 by rw[<-hs]; rfl];rcases this with(z | z) | z
  ·exact absurd e z
  ·exact .inl z
  ·exact .inr z
 ·rcases(at_ i y e).2 with z | ⟨z1,z2⟩
  ·exact z
  ·rcases v with v | v | v
   ·exact absurd v z1
   ·exact absurd v z2
   ·exact v
variable{elt iter:Expr}{ifs:List Expr}{pos:Pos}{fi:HM.IF}{fc:HM.TF}{fe:HM.EF}
theorem Zas(hxe:X.xe=λ_ _=>False)(hcalm:X.calm=true)(T:Zee X N scope [x])(hi:XI X (.Name x px) iter fi)(hc:∀cl C s H ex,XTs (Z2 X N scope cl C s H ex) ifs fc)(he:∀cl C s H ex,XE (Z2 X N scope cl C s H ex) elt fe)
  (hs:∀x,Zyn iter X.env x=pure x:=by intro _; rfl):XF X (.ListComp elt [⟨.Name x px,iter,ifs,0⟩] scope pos) (HM.ZO fi fc fe):=by
 rw[ZoN];exact Zra hxe hcalm T (ZqR T) hi.e hc he hs
theorem Zds(i:Nat){y:Str}{py spos:Pos}(hN:X.N.Nodup)(hxe:X.xe=λ_ _=>False)(hcalm:X.calm=true)(T:Zee X N scope [x])(hi:XI X (.Name x px) iter fi)(hc:∀cl C s H ex,XTs (Z2 X N scope cl C s H ex) ifs fc)(he:∀cl C s H ex,XE (Z2 X N scope cl C s H ex) elt fe)
  (hiy:X.N[i]?=some y:=by rfl) (hy:X.env.scope.names.lookup y=some .local:=by rfl) (hsw:ZyJ (.ListComp elt [⟨.Name x px,iter,ifs,0⟩] scope pos) (some (.Name y py)) spos.line X.env=pure true:=by rfl)
  (hs:∀x,Zyn iter X.env x=pure x:=by intro _; rfl):XS X (.Assign [.Name y py] (.ListComp elt [⟨.Name x px,iter,ifs,0⟩] scope pos) spos) (HM.ZY i (HM.ZO fi fc fe)):=by
 rw[ZoN];exact Znx i hN hxe hcalm T (ZqR T) hi.e hc he hiy hy hsw hs
end
end HP
namespace HP
open PySem PySem.Spec PyProof.Rows L2
variable[FX]
section
variable{prog:Program}{w:World}{K:Type}[DecidableEq K]{knd:HeapKind prog w K}{A:Around}{E:Value->Shared->Prop}{s:Shared}
theorem Zkb{d a:Addr}{xs:List (K × Addr × Value)}{k:K}{v:Value}{Q:Value->Shared->Prop}(hu:knd.room A)(hkey:knd.is s.heap k a)(hm:s.heap.DictOfH knd d xs)(hsz:xs.length<=sizeLine)
  (h1:∀p,atKey xs k=some p->Q p.2 { s with toks:=s.toks+knd.draws k })
  (h2:atKey xs k=none->∀h',h'.DictOfH knd d (storedH xs k a v)->Zyj d s.heap h'->Q v { s with heap:=h',toks:=s.toks+knd.draws k }) :
  wpAny (model prog w) A (dictSetDefault d (.ref a) v) Q E s:=by
 obtain⟨o,es,ep,ho,hc,hd,he,his,hn⟩:=hm;unfold dictSetDefault
 try with_reducible refine ZxD ?_
 refine Zwv (knd.pyHash hu hkey ?_);refine Zwv (wpAny_dictFind_heap (s:={ s with toks:=s.toks+knd.draws k }) hu hkey ho hd he his hn ?_ ?_)
 ·intro hno
  have hnot:k ∉ xs.map (·.1):=not_mem_keys_of_get hno;have hnk:=atKey_none_of_get hno;refine Zwv (wpAny_rule (Zwv (wpAny_updateDictKeys (hz:=by have e:=size_of_entries he; omega) (s:={ s with toks:=s.toks+knd.draws k }) ho hd (Zwz (h2 hnk _ ⟨_,_,ep+1,ZxC _ ho (Obj.isFreed_of_dict (Obj.data_mapDictKeys hd _)),
   hc.mapDictKeys _,Obj.data_mapDictKeys hd _,?_,?_,?_⟩ (ZxB ..))))))
  ·rw[storedH_new hnk]
   simp[he,entryOfKey]
  ·rw[storedH_new hnk]
   intro x hx;rcases Zw5.mp hx with hx | hx
   ·exact knd.keeps (his x hx) ho hd (ZxB ..)
   ·simp only[ZwQ]at hx
    subst hx;exact knd.keeps hkey ho hd (ZxB ..)
  ·rw[storedH_new hnk]
   rw[Zw7,ZyZ];refine⟨hn,by simp,?_⟩;intro x hx y hy;simp only[ZwD,Zyx,ZwQ]at hy;subst hy;exact λe=>hnot (e▸hx)
 ·intro j p hj
  refine Zwv (Zzt (s:={ s with toks:=s.toks+knd.draws k }) ho hd ?_);rw[entry_at he j,hj];exact Zwv (wpAny_rule (Zwz (h1 p (atKey_of_get hn hj))))
theorem Ziz(d a:Addr)(hd:(d==ZxY)=false)(dflt:Value) :
  MeetsIn prog w (Builtin.«dict.setdefault» ⟨[.ref d,.ref a,dflt],[]⟩) (λA R s=>knd.room A.in1/\∃k xs,knd.is s.heap k a/\s.heap.DictOfH knd d xs/\xs.length<=sizeLine /\
   (∀p,atKey xs k=some p->R (.ok (.ret p.2)) { s with toks:=s.toks+knd.draws k }) /\
   (atKey xs k=none->∀h',h'.DictOfH knd d (storedH xs k a dflt)->Zyj d s.heap h'->R (.ok (.ret dflt)) { s with heap:=h',toks:=s.toks+knd.draws k })) :=
 .of_wp λA R s ⟨hu,k,xs,hkey,hm,hz,h1,h2⟩=>by unfold Builtin.«dict.setdefault»;refine Zwv ?_;unfold Builtin.Dict.keyAndDefault;refine Zwv (wpAny_notOrdered_dict hm.typeIs ?_);show wpAny _ _ (pure (d,Zxr a,some dflt)) _ _ s;refine Zwz ?_;show wpAny _ _ (if(d==ZxY)=true then _ else(dictSetDefault d (.ref a) dflt >>= _)) _ _ s;rw[if_neg (by rw[hd]; exact Zw9)];exact Zwv (Zkb hu hkey hm hz (λp hp=>Zwz ⟨p.2,rfl,h1 p hp⟩) λhn h' hm' hs'=>Zwz ⟨dflt,rfl,h2 hn h' hm' hs'⟩)
end
section
variable{X:Cx}{pins:List (Addr × Obj)}{σ:L2.St}{H:Hp}{s:Shared}{a b:Addr}{z:V}{r:Value}{A:Around}{E:Value->Shared->Prop}{kvs:List (List Key × V)}{k:List Key}
theorem ZtU{Q:Value->Shared->Prop}(hu:A.units+1<cLine)(I:Inv X pins σ H s)(e:H a=some (.dT kvs))(eb:H b=some (.tup (k.map kV)))(hl:kvs.length<sizeLine)(rz:RelV z r)
  (h1:∀v,Zap kvs k=some v->∀w' s',Inv X pins σ H s'->RelV v w'->Q w' s') (h2:Zap kvs k=none->∀s',Inv X pins σ (upd H a (.dT (kvs++[(k,z)]))) s'->Q r s') :
  wpAny (model X.prog X.w) A (call (.builtin "dict.setdefault") [.ref a,.ref b,r]) Q E s:=by
 obtain⟨zz,hd,xs,rel,dd⟩:=Zsy I.hok e;have hz:xs.length<=sizeLine:=by rw[<-ZyU rel]; exact zz
 have hv:=rel.val k;refine call_meetsIn Zz1 dd.typeIs PySem.F.entry_dict_setdefault (PySem.F.args_dict_setdefault_3 _ _ _) (Ziz (knd:=ZzK (Zak X.prog X.w)) a b hd r) ⟨ZyV hu,k,xs,Zgs I.hok eb,dd,hz,λp hp=>?_,λhn h' dd' hs=>?_⟩
 ·rw[hp]at hv
  cases hvv:Zap kvs k with
  | none=>rw[hvv]at hv; exact hv.elim
  | some v=>rw[hvv]at hv; exact h1 v hvv _ _ (I.tok _) hv
 ·rw[hn]at hv
  have hvv:Zap kvs k=none:=by
   cases hvv:Zap kvs k with
   | none=>rfl
   | some v=>rw[hvv]at hv; exact hv.elim
  refine h2 hvv _ ?_;have hp:=rel.put k eb rz;have epk:putK kvs k z=kvs++[(k,z)]:=by unfold putK;rw[if_neg];rw[ZgV,hvv];simp
  rw[epk]at hp;obtain⟨q,es,ep,hq,g2,g3,g4,_,g5⟩:=dd';refine Zik I (by rw[e]; exact Zzl) hs ⟨q,hq⟩ ⟨by rw[ZwR]; exact hl,hd,_,hp.keeps λc ys ec=>?_,q,es,ep,hq,g2,g3,g4,g5⟩;rw[Zy (Zsw ec e (λz=>nomatch z))];exact ec
end
def Zwd(td ty tx:TE):TE:=λσ H Q=>td σ H λx H1=>∃a,x=.ref a/\IsD H1 a/\ty σ H1 λy H2=>tx σ H2 λz H3=>∃kvs k b,H3 a=some (.dT kvs)/\y=.ref b/\H3 b=some (.tup (k.map kV))/\kvs.length<sizeLine /\
 (∀v,Zap kvs k=some v->Q v H3)/\(Zap kvs k=none->Q z (upd H3 a (.dT (kvs++[(k,z)]))))
section
variable{X:Cx}{o e f:Expr}{apos cpos:Pos}{td ty tx:TE}
theorem Zut(hu:X.A.units+1<cLine)(ho:PE X o td)(he:PE X e ty)(hf:PE X f tx)(m:M2 X o "setdefault" apos e f cpos):PE X (.Call (.Attribute o "setdefault" apos) [e,f] [] cpos) (Zwd td ty tx):=by intro pins s σ H Q I h;refine wpAny_Call_method m.base m.few m.line PySem.F.plainAttrs_dict Zz1 PySem.F.type_dict_setdefault (thn (ho pins s σ H _ I h) λu s1 ⟨x,H1,I1,rx,a,ex,d,q1⟩=>?_);subst ex;obtain rfl:u=Zxr a:=rx;obtain⟨t1,t2,_⟩:=ZuI I1 d;refine⟨t1,t2,?_⟩;rw[m.trees];refine Zzz rfl (ZAZ (Zz6 (thn (he pins s1 σ H1 _ I1 q1) λiv s2 ⟨y,H2,I2,ry,q2⟩=>Zz6 (thn (hf pins s2 σ H2 _ I2 q2) λfv s3 ⟨z,H3,I3,rz,kvs,k,b,ea,ey,eb,hl,q3,q4⟩=>Calls.spliced_nil ?_))));subst ey;obtain rfl:iv=Zxr b:=ry;exact ZtU hu I3 ea eb hl rz (λv hv w' s4 I4 rw'=>⟨v,H3,I4,rw',q3 v hv⟩) λhn s4 I4=>⟨z,_,I4,rz,q4 hn⟩
end
def OT(K:Zww)(F H:Hp)(kvs:List (List Key × List PyData))(vvs:List (List Key × V))(ls:List Addr):Prop:=kvs.map (·.1)=vvs.map (·.1)/\vvs.map (·.2)=ls.map V.ref /\
 ∀(i:Nat) (ds:List PyData) (l:Addr),(kvs.map (·.2))[i]?=some ds->ls[i]?=some l->∃vs,H l=some (.lst vs)/\Zq K F ds vs
section
variable{K:Zww}{F F' H H':Hp}{kvs:List (List Key × List PyData)}{vvs:List (List Key × V)}{ls:List Addr}
theorem OT.len(q:OT K F H kvs vvs ls):kvs.length=ls.length/\kvs.length=vvs.length:=by have e1:=congrArg Zxd q.1;have e2:=congrArg Zxd q.2.1;rw[Zwy,Zwy]at e1 e2;omega
theorem OT.mono(q:OT K F H kvs vvs ls)(s:Zo F F')(k:∀a∈ls,∀o,H a=some o->H' a=some o):OT K F' H' kvs vvs ls :=
 ⟨q.1,q.2.1,λi ds l h1 h2=>let ⟨vs,q1,q2⟩:=q.2.2 i ds l h1 h2; ⟨vs,k l (Zw3 h2) _ q1,q2.mono s⟩⟩
theorem OT.snoc(q:OT K F H kvs vvs ls)(k:List Key){p:Addr}(hp:H p=some (.lst [])):OT K F H (kvs++[(k,[])]) (vvs++[(k,.ref p)]) (ls++[p]):=by
 refine⟨by rw[Zw7,Zw7,q.1]; rfl,by rw[Zw7,Zw7,q.2.1]; rfl,λi ds l h1 h2=>?_⟩;have hl:=q.len;rw[Zw7]at h1
 by_cases hi:i<kvs.length
 ·rw[Zxg (by rw[Zwy]; exact hi)]at h1
  rw[Zxg (by omega)]at h2;exact q.2.2 i ds l h1 h2
 ·rw[Zxb (by rw[Zwy]; omega),Zwy]at h1
  rw[Zxb (by omega),<-hl.1]at h2;cases hj:i-kvs.length with
  | zero=>rw[hj]at h1 h2;cases h1; cases h2;exact⟨[],hp,.nil⟩
  | succ j=>rw[hj]at h1; cases h1
theorem OT.look(q:OT K F H kvs vvs ls)(k:List Key):(∀ds,HM.Zj kvs k=some ds->∃l' vs,Zap vvs k=some (.ref l')/\l'∈ls/\H l'=some (.lst vs)/\Zq K F ds vs)/\(HM.Zj kvs k=none->Zap vvs k=none):=ZiU k kvs vvs ls q.1 q.2.1 q.2.2
theorem OT.app(k:List Key){d:PyData}{v:V}:∀{kvs:List (List Key × List PyData)} {vvs:List (List Key × V)} {ls:List Addr},OT K F H kvs vvs ls->ls.Nodup->Rep K F d v->∀{l':Addr} {vs:List V},Zap vvs k=some (.ref l')->H l'=some (.lst vs) ->
  OT K F (upd H l' (.lst (vs++[v]))) (HM.ZcR kvs k d) vvs ls
 | [],[],_,q,_,_,l',vs,hv,_=>by cases hv
 | [],_::_,_,q,_,_,_,_,_,_=>by have:=q.len; simp at this
 | _::_,[],_,q,_,_,_,_,_,_=>by have:=q.len; simp at this
 | _::_,_::_,[],q,_,_,_,_,_,_=>by have:=q.len; simp at this
 | (k1,ds1)::kvs,(k2,v2)::vvs,l1::ls,q,nd,rd,l',vs,hv,hl=>by
  obtain⟨q1,q2,q3⟩:=q;rw[ZwD,ZwD]at q1 q2;injection q1 with e1 e2
  injection q2 with e3 e4
  have e1:k1=k2:=e1;have e3:v2=.ref l1:=e3;subst e1 e3;have rest:OT K F H kvs vvs ls:=⟨e2,e4,λi ds l h1 h2=>q3 (i+1) ds l (by simpa using h1) (by simpa using h2)⟩;obtain⟨n1,n2⟩:=Zxm.mp nd;obtain⟨us,f1,f2⟩:=q3 0 ds1 l1 rfl rfl;unfold HM.ZcR
  by_cases hk:k1=k
  ·rw[if_pos hk]
   rw[Zdf (p:=(k1,V.ref l1)) hk]at hv;cases hv;rw[hl]at f1;cases f1;refine⟨by rw[ZwD,ZwD,e2],by rw[ZwD,ZwD,e4],λi ds l h1 h2=>?_⟩;cases i with
   | zero=>cases h1; cases h2;exact⟨_,ZA,f2.append (.one rd)⟩
   | succ i=>rw[ZwD,Zw8]at h1;rw[Zw8]at h2;obtain⟨us,g1,g2⟩:=rest.2.2 i ds l h1 h2;exact⟨us,by rw[Zy (λz=>n1 (by rw[<-z]; exact Zw3 h2))]; exact g1,g2⟩
  ·rw[if_neg hk]
   rw[Zdg (p:=(k1,V.ref l1)) hk]at hv;have ih:=OT.app k rest n2 rd hv hl;have hne:l1≠l':=by
    rintro rfl
    have:∀(vvs:List (List Key × V)) (ls:List Addr),vvs.map (·.2)=ls.map V.ref->∀l',Zap vvs k=some (.ref l')->l'∈ls:=by
     intro vvs
     induction vvs with
     | nil=>intro ls _ l' h; cases h
     | cons p vvs ih =>
      intro ls he l' h;cases ls with
      | nil=>simp at he
      | cons l ls =>
       rw[ZwD,ZwD]at he;injection he with he1 he2
       by_cases hp:p.1=k
       ·rw[Zdf hp]at h
        rw[he1]at h;cases h;exact ZwA
       ·rw[Zdg hp]at h
        exact ZwC _ (ih ls he2 l' h)
    exact n1 (this vvs ls e4 _ hv)
   refine⟨by rw[ZwD,ZwD,ih.1],by rw[ZwD,ZwD,e4],λi ds l h1 h2=>?_⟩;cases i with
   | zero=>cases h1; cases h2;exact⟨us,by rw[Zy hne]; exact f1,f2⟩
   | succ i=>rw[ZwD,Zw8]at h1;rw[Zw8]at h2;exact ih.2.2 i ds l h1 h2
end
theorem Za0.otl{K:Zww}{F0 H0 F H:Hp}{r:HM.Env}{σ:L2.St}{fp:Nat->List Addr}{i:Nat}{kvs:List (List Key × List PyData)}(e:Za0 K F0 H0 F H r σ fp)(h:r[i]?=some (some (.otl kvs))) :
  ∃a vvs ls,σ[i]?=some (some (.ref a))/\H a=some (.dT vvs)/\OT K F H kvs vvs ls/\fp i=a::ls:=by
 obtain⟨v,h1,h2⟩:=e.at_ i _ h;generalize hf:fp i=q at h2;cases h2 with
 | otl k1 k2 k3 k4=>exact⟨_,_,_,h1,k1,⟨k2,k3,k4⟩,rfl⟩
theorem Za0.otlNew{K:Zww}{F0 H0 Fb Hb F H:Hp}{r:HM.Env}{σ:L2.St}{fp:Nat->List Addr}{i:Nat}{kvs:List (List Key × List PyData)}{p:Addr}(k:List Key)(eb:Za0 K F0 H0 Fb Hb r σ fp)(x:Ext Fb Hb F H)(h:r[i]?=some (some (.otl kvs)))(hp:H p=some (.lst []))(hF:F p=none)(hb:Hb p=none) :
  ∃a vvs,σ[i]?=some (some (.ref a))/\H a=some (.dT vvs)/\vvs.length=kvs.length/\(HM.Zj kvs k=none->Zap vvs k=none)/\At K F0 H0 F (upd H a (.dT (vvs++[(k,.ref p)]))) (r.set i (some (.otl (kvs++[(k,[])])))) σ:=by
 have e:=eb.grow x;obtain⟨a,vvs,ls,h1,h2,h3,h4⟩:=e.otl h;have hpn:∀j,p ∉ fp j:=λj hj=>by obtain⟨o,ho⟩:=eb.there hj;rw[hb]at ho; cases ho
 have hpa:p≠a:=λz=>hpn i (by rw[h4,z]; exact ZwA);have hal:a ∉ ls:=(Zxm.mp (h4▸e.nd i)).1;have nl:ls.Nodup:=(Zxm.mp (h4▸e.nd i)).2;have hpl:p ∉ ls:=λz=>hpn i (by rw[h4]; exact ZwC _ z);refine⟨a,vvs,h1,h2,h3.len.2.symm,(h3.look k).2,?_⟩;have q:=h3.snoc k hp;have q':OT K F (upd H a (.dT (vvs++[(k,.ref p)]))) (kvs++[(k,[])]) (vvs++[(k,.ref p)]) (ls++[p]):=q.mono (Zo.refl F) λc hc o z=>by
  rw[Zy]
  ·exact z
  ·rintro rfl
   rcases Zw5.mp hc with hc | hc
   ·exact hal hc
   ·exact hpa (ZwQ.mp hc).symm
 have nd':(a::(ls++[p])).Nodup:=by
  refine Zxm.mpr ⟨?_,?_⟩
  ·intro z
   rcases Zw5.mp z with z | z
   ·exact hal z
   ·exact hpa (ZwQ.mp z).symm
  ·rw[ZyZ]
   refine⟨nl,by simp,λx hx y hy=>?_⟩;obtain rfl:y=p:=by simpa using hy
   rintro rfl
   exact hpl hx
 refine e.changeW h1 (fp':=a::(ls++[p])) (.otl ZA q'.1 q'.2.1 q'.2.2) nd' (λc hc=>?_) λc o z hn=>?_
 ·rcases ZwT.mp hc with z | z
  ·subst z; exact .inl (by rw[h4]; exact ZwA)
  ·rcases Zw5.mp z with z | z
   ·exact .inl (by rw[h4]; exact ZwC _ z)
   ·obtain rfl:c=p:=ZwQ.mp z
    exact .inr ⟨hF,eb.ext.hh.free hb,hpn⟩
 ·rw[Zy (λy=>hn (by rw[h4,y]; exact ZwA))]
  exact z
theorem At.otlApp{K:Zww}{F0 H0 F H:Hp}{r:HM.Env}{σ:L2.St}{i:Nat}{kvs:List (List Key × List PyData)}{ds:List PyData}(k:List Key)(e:At K F0 H0 F H r σ)(h:r[i]?=some (some (.otl kvs)))(hd:HM.Zj kvs k=some ds) :
  ∃a vvs l vs,σ[i]?=some (some (.ref a))/\H a=some (.dT vvs)/\Zap vvs k=some (.ref l)/\H l=some (.lst vs)/\Zq K F ds vs/\∀d v,Rep K F d v->At K F0 H0 F (upd H l (.lst (vs++[v]))) (r.set i (some (.otl (HM.ZcR kvs k d)))) σ:=by
 obtain⟨fp,e⟩:=e;obtain⟨a,vvs,ls,h1,h2,h3,h4⟩:=e.otl h;obtain⟨l,vs,g1,g2,g3,g4⟩:=(h3.look k).1 ds hd;have hal:a ∉ ls:=(Zxm.mp (h4▸e.nd i)).1;have nl:ls.Nodup:=(Zxm.mp (h4▸e.nd i)).2;have hne:a≠l:=λz=>hal (by rw[z]; exact g2);refine⟨a,vvs,l,vs,h1,h2,g1,g3,g4,λd v rd=>?_⟩;have q:=h3.app k nl rd g1 g3;refine e.change h1 (fp':=a::ls) (.otl (by rw[Zy hne]; exact h2) q.1 q.2.1 q.2.2) (h4▸e.nd i) (λc hc=>.inl (by rw[h4]; exact hc)) λc o z hn=>?_;rw[Zy (λy=>hn (by rw[h4,y]; exact ZwC _ g2))];exact z
section
variable{X:Cx}{a b c e:Expr}{fa fb fc:HM.EF}{pos p:Pos}{f:HM.BF}
theorem ZpV(hu:X.A.units+1<cLine)(i:Nat){x:Str}{p1 p2 p3:Pos}(hk:XE X b fb)(hN:X.N[i]?=some x:=by rfl)(hv:Vis X.env.scope x:=by first | exact Zxl rfl | exact Zw6 (Zxl rfl) | exact Zw6 (Zw6 rfl))(hd:(x==("__debug__":Str))=false:=by decide)(hcd:(x==("__classdict__":Str))=false:=by decide)
  (hs:ZyJ (.List [] p3) (some (.Subscript (.Name x p1) b p2)) pos.line X.env=pure false:=by rfl):XS X (.Assign [.Subscript (.Name x p1) b p2] (.List [] p3) pos) (HM.Zkj i fb):=by
 intro r o h;unfold HM.Zkj at h;split at h
 ·rename_i y hy
  split at h
  ·rename_i kvs hb
   split at h
   ·rename_i k hk'
    split at h
    ·rename_i hz
     split at h
     ·rename_i hl
      cases h;refine PS.imp (Zke hu (ZbG hN hv hd hcd) (hk r y hy) (Zcm (X:=X) Zh (by simp) r (.ol []) rfl) hs) λE σ H ⟨F0,H0,F,at_,kk⟩=>?_;refine⟨F0,H0,F,at_,λv F1 H1 x1 ⟨fp,r1,nd,hn⟩=>?_⟩;cases r1 with
      | @ol l _ vs hl1 rs =>
       obtain rfl:vs=[]:=rs.nil_inv;have at1:=at_.grow x1;obtain⟨u,fp,e1,e2⟩:=at1.any hb;refine⟨u,e1,F0,H0,F1,at1,λw F2 H2 x2 r2=>?_⟩;obtain⟨fq,eb⟩:=at_;have hlF:F2 l=none:=by
        cases q:F2 l with
        | none=>rfl
        | some o =>
         rcases x2.new l o q with z | z
         ·rw[(hn l (by simp)).1]at z; cases z
         ·exact(z.no hl1 λ_ q=>by cases q).elim
       obtain⟨aa,vvs,g1,g2,g3,g4,g5⟩:=eb.otlNew k (x1.trans x2) hb (x2.hh _ _ hl1) hlF (hn l (by simp)).2;rw[e1]at g1;cases g1;obtain⟨bb,rfl,hbb⟩:=ZbH hk' r2;have hpk:putK vvs k (V.ref l)=vvs++[(k,.ref l)]:=by unfold putK;rw[if_neg];rw[ZgV,g4 hl];simp
       refine⟨aa,_,rfl,ZgM.t g2 (x2.sub _ _ hbb) (by rw[g3]; exact Zd1 hz),?_⟩;rw[hpk];exact kk _ F2 _ g5
     ·cases h
    ·cases h
   ·cases h
  ·cases h
 ·cases h
theorem Zrb(hu:X.A.units+1<cLine)(i:Nat){x:Str}{p1 p2 p3 p4:Pos}(hk:XE X b fb)(ha:XE X a fa)(hN:X.N[i]?=some x:=by rfl)(hv:Vis X.env.scope x:=by first | exact Zxl rfl | exact Zw6 (Zxl rfl) | exact Zw6 (Zw6 rfl))(hd:(x==("__debug__":Str))=false:=by decide)(hcd:(x==("__classdict__":Str))=false:=by decide)
  (hsl:Zmr b:=by intro _ _; rfl)
  (hbase:ZyC (.Subscript (.Name x p1) b p2) "append" X.env (eval (.Subscript (.Name x p1) b p2) X.env)=eval (.Subscript (.Name x p1) b p2) X.env:=by rfl)
  (hfew:((backTo p4 (ZwJ [a] X.env)).all (λx=>!x.1)&&(ZAw p4 (ZzA [] X.env)).all (λx=>x.1.isSome)&&decide (([a]:List Expr).length+([]:List Keyword).length+(if([]:List Keyword).isEmpty then 0 else 1)<30))=true:=by rfl)
  (hline:(p3.endLine==p4.line)=true:=by rfl) (hs:ZwJ [a] X.env=[(false,eval a X.env)]:=by rfl):XS X (.Expr (.Call (.Attribute (.Subscript (.Name x p1) b p2) "append" p3) [a] [] p4) pos) (HM.Zne i fb fa):=by
 intro r o h;unfold HM.Zne at h;split at h
 ·rename_i y hy
  split at h
  ·rename_i kvs hb
   split at h
   ·rename_i k hk'
    split at h
    ·rename_i d hd'
     split at h
     ·rename_i ds hds
      split at h
      ·rename_i hz
       cases h;refine PS.imp (Zgv (Zlk Zyq Zzf Zzg ZfE (Zkf hu (ZbG hN hv hd hcd) (hk r y hy) hsl) (Z9 (ha r d hd') Zbv hs) hbase hfew hline hs rfl)) λE σ H ⟨F0,H0,F,at_,kk⟩=>?_;obtain⟨aa,vvs,l,vs,e1,e2,e3,e4,e5,_⟩:=at_.otlApp k hb hds;refine⟨.ref aa,e1,F0,H0,F,at_,λw F1 H1 x1 r1=>?_⟩;obtain⟨bb,rfl,hbb⟩:=ZbH hk' r1;have at1:=at_.grow x1;refine⟨aa,.ref l,rfl,by rw[<-e3]; exact Zcb.t (x1.hh _ _ e2) (x1.sub _ _ hbb),.inl ⟨rfl,_,SqL.of (x1.hh _ _ e4)⟩,F0,H0,F1,at1,λv F2 H2 x2 r2=>?_⟩;obtain⟨aa',vvs',l',vs',g1,g2,g3,g4,g5,g6⟩:=(at1.grow x2).otlApp k hb hds;rw[e1]at g1;cases g1;have:=(x1.trans x2).hh _ _ e2;rw[this]at g2;cases g2;rw[e3]at g3;cases g3;refine⟨_,vs',v,rfl,rfl,g4,?_,kk _ F2 _ (g6 d v r2)⟩;rw[<-g5.1];exact Zd1 hz
      ·cases h
     ·cases h
    ·cases h
   ·cases h
  ·cases h
 ·cases h
theorem Zp4{k:List Key}{kvs:List (List Key × List PyData)}{ds:List PyData}(h:HM.Zj kvs k=some ds):HM.Zbk kvs k=kvs:=by unfold HM.Zbk; rw[h]
theorem Zqs{k:List Key}{kvs:List (List Key × List PyData)}(h:HM.Zj kvs k=none):HM.Zbk kvs k=kvs++[(k,[])]:=by unfold HM.Zbk; rw[h]
theorem Zrc(hu:X.A.units+1<cLine)(i:Nat){x:Str}{p0 p1 p2 p3 p4 p5:Pos}(hk:XE X b fb)(ha:XE X a fa)(m:M2 X (.Name x p0) "setdefault" p1 b (.List [] p2) p3)(hN:X.N[i]?=some x:=by rfl)(hv:Vis X.env.scope x:=by first | exact Zxl rfl | exact Zw6 (Zxl rfl) | exact Zw6 (Zw6 rfl))(hd:(x==("__debug__":Str))=false:=by decide)(hcd:(x==("__classdict__":Str))=false:=by decide)
  (hbase:ZyC (.Call (.Attribute (.Name x p0) "setdefault" p1) [b,.List [] p2] [] p3) "append" X.env (eval (.Call (.Attribute (.Name x p0) "setdefault" p1) [b,.List [] p2] [] p3) X.env)=eval (.Call (.Attribute (.Name x p0) "setdefault" p1) [b,.List [] p2] [] p3) X.env:=by rfl)
  (hfew:((backTo p5 (ZwJ [a] X.env)).all (λx=>!x.1)&&(ZAw p5 (ZzA [] X.env)).all (λx=>x.1.isSome)&&decide (([a]:List Expr).length+([]:List Keyword).length+(if([]:List Keyword).isEmpty then 0 else 1)<30))=true:=by rfl)
  (hline:(p4.endLine==p5.line)=true:=by rfl) (hs:ZwJ [a] X.env=[(false,eval a X.env)]:=by rfl):XS X (.Expr (.Call (.Attribute (.Call (.Attribute (.Name x p0) "setdefault" p1) [b,.List [] p2] [] p3) "append" p4) [a] [] p5) pos) (HM.Zl3 i fb fa):=by
 intro r o h;unfold HM.Zl3 at h;split at h
 ·rename_i y hy
  split at h
  ·rename_i kvs hb
   split at h
   ·rename_i k hk'
    split at h
    ·rename_i hzz
     split at h
     ·rename_i d hd'
      split at h
      ·rename_i ds hds
       split at h
       ·rename_i hz
        cases h;have hi:i<r.length:=(ZwI.mp hb).1;have hb':(r.set i (some (.otl (HM.Zbk kvs k))))[i]?=some (some (.otl (HM.Zbk kvs k))):=Zxh hi;refine PS.imp (Zgv (Zlk Zyq Zzf Zzg ZfE (Zut hu (ZbG hN hv hd hcd) (hk r y hy) (Zcm (X:=X) Zh (by simp) r (.ol []) rfl) m) (Z9 (ha _ d hd') Zbv hs) hbase hfew hline hs rfl)) λE σ H ⟨F0,H0,F,at_,kk⟩=>?_;have fin:∀{F3 H3:Hp} {l:Addr},At X.K F0 H0 F3 H3 (r.set i (some (.otl (HM.Zbk kvs k)))) σ->(∃vs,SqL X.K H3 l vs)->(∀a' vvs',σ[i]?=some (some (.ref a'))->H3 a'=some (.dT vvs')->Zap vvs' k=some (.ref l)) ->
          tyV X.K "list" (.ref l) H3/\Now X.K (r.set i (some (.otl (HM.Zbk kvs k)))) σ H3 λF0 H0 F=>∀v F' H',Ext F H3 F' H'->Rep X.K F' d v->ZoK (.ref l) [v] H' λ_ H'=>E.nx σ H':=by
         intro F3 H3 l at3 hl hat;refine⟨.inl ⟨rfl,hl⟩,F0,H0,F3,at3,λv F4 H4 x4 r4=>?_⟩;obtain⟨aa',vvs',l',vs',g1,g2,g3,g4,g5,g6⟩:=(at3.grow x4).otlApp k hb' hds;obtain⟨aa2,vvs2,l2,vs2,f1,f2,f3,_⟩:=at3.otlApp k hb' hds;rw[f1]at g1;cases g1;rw[x4.hh _ _ f2]at g2;cases g2;rw[hat _ _ f1 f2]at g3;cases g3;have g7:=g6 d v r4;rw[ZzP]at g7;refine⟨_,vs',v,rfl,rfl,g4,?_,kk _ F4 _ g7⟩;rw[<-g5.1];exact Zd1 hz
        obtain⟨fq,eb⟩:=at_;obtain⟨aa,vvs,ls,e1,e2,e3,e4⟩:=eb.otl hb;refine⟨.ref aa,e1,aa,rfl,.inr ⟨vvs,.inl e2⟩,F0,H0,F,⟨fq,eb⟩,λw F1 H1 x1 r1=>⟨F0,H0,F1,At.grow ⟨fq,eb⟩ x1,λv F2 H2 x2 ⟨fp,r2,nd,hn⟩=>?_⟩⟩;obtain⟨bb,rfl,hbb⟩:=ZbH hk' r1;have x12:=x1.trans x2;have hz0:vvs.length<sizeLine:=by rw[<-e3.len.2]; exact Zd1 hzz
        refine⟨vvs,k,bb,x12.hh _ _ e2,rfl,x2.hh _ _ (x1.sub _ _ hbb),hz0,λu hu'=>?_,λhno=>?_⟩
        ·have hls:∃ds0,HM.Zj kvs k=some ds0:=by
          cases hq:HM.Zj kvs k with
          | some ds0=>exact⟨ds0,rfl⟩
          | none=>rw[(e3.look k).2 hq]at hu'; cases hu'
         obtain⟨ds0,hls⟩:=hls;have ead:=Zp4 hls;obtain⟨l0,vs0,q1,q2,q3,q4⟩:=(e3.look k).1 ds0 hls;rw[q1]at hu';cases hu';refine fin (F3:=F2) ?_ ⟨vs0,SqL.of (x12.hh _ _ q3)⟩ λa' vvs' z1 z2=>?_
         ·rw[ead]
          have:r.set i (some (.otl kvs))=r:=by obtain⟨h1,h2⟩:=ZwI.mp hb;rw[<-h2];exact Zy1 h1
          rw[this];exact At.grow ⟨fq,eb⟩ x12
         ·rw[e1]at z1
          cases z1;rw[x12.hh _ _ e2]at z2;cases z2;exact q1
        ·have hls:HM.Zj kvs k=none:=by
          cases hq:HM.Zj kvs k with
          | none=>rfl
          | some ds0=>obtain⟨l0,vs0,q1,_⟩:=(e3.look k).1 ds0 hq;rw[hno]at q1; cases q1
         have ead:=Zqs hls;cases r2 with
         | @ol l _ vs hl1 rs =>
          obtain rfl:vs=[]:=rs.nil_inv;have hHl:H l=none:=x1.hh.free (hn l (by simp)).2;obtain⟨aa2,vvs2,g1,g2,g3,g4,g5⟩:=eb.otlNew k x12 hb hl1 (hn l (by simp)).1 hHl;rw[e1]at g1;cases g1;rw[x12.hh _ _ e2]at g2;cases g2;have hne:l≠aa:=λz=>by rw[z,e2]at hHl; cases hHl
          refine fin (F3:=F2) (by rw[ead]; exact g5) ⟨[],SqL.of (by rw[Zy hne]; exact hl1)⟩ λa' vvs' z1 z2=>?_;rw[e1]at z1;cases z1;rw[ZA]at z2;cases z2;unfold Zap at hno ⊢;rw[Option.map_eq_none_iff]at hno;rw[ZAl,hno];simp
       ·cases h
      ·cases h
     ·cases h
    ·cases h
   ·cases h
  ·cases h
 ·cases h
end
end HP
namespace HP
open PySem PyProof.Rows
def ZdL(xs:Array Nat):Prop:=xs.toList.Pairwise (· < ·)
theorem ZdL.lt{xs:Array Nat}(h:ZdL xs){i k:Nat}(hk:k<xs.size)(hik:i<k):xs.getD i 0<xs.getD k 0:=by have:=ZAr.mp h i k (by simpa using Zyl hik hk) (by simpa using hk) hik;simpa [Zyu,hk,Zyl hik hk]using this
theorem Zi1{xs:Array Nat}(h:ZdL xs)(j:Nat):∀(fuel lo hi:Nat),lo<=hi->hi<=xs.size->hi-lo<=fuel->(∀i,i<lo->xs.getD i 0<j)->(∀i,hi<=i->i<xs.size->j<=xs.getD i 0) ->
  Zzu xs j fuel lo hi<=xs.size/\(∀i,i<Zzu xs j fuel lo hi->xs.getD i 0<j)/\∀i,Zzu xs j fuel lo hi<=i->i<xs.size->j<=xs.getD i 0
 | 0,lo,hi,h1,h2,h3,a,b=>by
  obtain rfl:lo=hi:=by omega
  exact⟨h2,a,b⟩
 | fuel+1,lo,hi,h1,h2,h3,a,b=>by
  unfold Zzu;split
  ·rename_i hlt
   have hm:(lo+hi) / 2<xs.size:=by omega
   have e:xs.getD ((lo+hi) / 2) j=xs.getD ((lo+hi) / 2) 0:=by simp[Zyu,hm]
   dsimp only;rw[e]
   by_cases q:xs.getD ((lo+hi) / 2) 0<j
   ·rw[if_pos q]
    refine Zi1 h j fuel ((lo+hi) / 2+1) hi (by omega) h2 (by omega) (λi hi'=>?_) b
    by_cases c:i=(lo+hi) / 2
    ·rw[c]; exact q
    ·exact Zyl (h.lt hm (by omega)) q
   ·rw[if_neg q]
    refine Zi1 h j fuel lo ((lo+hi) / 2) (by omega) (by omega) (by omega) a (λi hi' hs=>?_)
    by_cases c:i=(lo+hi) / 2
    ·rw[c]; omega
    ·have:=h.lt hs (show(lo+hi) / 2<i by omega); omega
  ·obtain rfl:lo=hi:=by omega
   exact⟨h2,a,b⟩
theorem ZeM{xs:Array Nat}(h:ZdL xs)(j:Nat):ZwG xs j<=xs.size/\(∀i,i<ZwG xs j->xs.getD i 0<j)/\∀i,ZwG xs j<=i->i<xs.size->j<=xs.getD i 0 :=
 Zi1 h j xs.size 0 xs.size (ZxR _) (ZwH _) (by omega) (λi hi=>by omega) λi h1 h2=>by omega
theorem ZpS{xs:Array Nat}(h:ZdL xs){i:Nat}(hi:i<xs.size):ZwG xs (xs.getD i 0+1)=i+1:=by
 obtain⟨a,b,c⟩:=ZeM h (xs.getD i 0+1);apply Nat.le_antisymm
 ·apply Zy5
  intro q;have h1:=b (i+1) q;have h2:=h.lt (show i+1<xs.size by omega) (ZyL i);omega
 ·apply Zy5
  intro q;have h1:=c (ZwG xs (xs.getD i 0+1)) (ZwH _) (by omega)
  by_cases e:ZwG xs (xs.getD i 0+1)=i
  ·rw[e]at h1; omega
  ·have:=h.lt hi (show ZwG xs (xs.getD i 0+1)<i by omega); omega
theorem Zpr{xs:Array Nat}(h:ZdL xs):ZwG xs 0=0:=by obtain⟨a,b,c⟩:=ZeM h 0;apply Nat.eq_zero_of_not_pos;intro q;have:=b 0 q;omega
theorem ZiP{xs:Array Nat}(h:ZdL xs){j:Nat}(hn:xs[ZwG xs j]?≠some j):ZdL (ZwX xs (ZwG xs j) j):=by
 obtain⟨a,b,c⟩:=ZeM h j;unfold ZdL;rw[Zzh];have gt:∀i,ZwG xs j<=i->i<xs.size->j<xs.getD i 0:=by
  intro i h1 h2
  by_cases e:ZwG xs j=i
  ·subst e
   have h3:=c _ h1 h2;have:xs.getD (ZwG xs j) 0≠j:=λq=>hn (by
    have z:xs[ZwG xs j]?=some (xs.getD (ZwG xs j) 0):=by simp[Zyu,h2]
    rw[z,q])
   omega
  ·have h3:=h.lt h2 (show ZwG xs j<i by omega)
   have h4:=c _ (ZwH _) (show ZwG xs j<xs.size by omega);omega
 rw[List.pairwise_append];refine⟨h.sublist (List.take_sublist ..),Zxf.mpr ⟨λx hx=>?_,h.sublist (List.drop_sublist ..)⟩,λx hx y hy=>?_⟩
 ·obtain⟨i,hi,rfl⟩:=ZzV hx
  rw[Zy4,ZwY]at hi;rw[List.getElem_drop];have:=gt (ZwG xs j+i) (by omega) (by omega);simpa [Zyu,show ZwG xs j+i<xs.size by omega]using this
 ·obtain⟨i,hi,rfl⟩:=ZzV hx
  rw[Zx0,ZwY]at hi;rw[List.getElem_take];have h1:=b i (by omega);have h1':xs.toList[i]'(by simp; omega)<j:=by simpa [Zyu,show i<xs.size by omega]using h1
  rcases ZwT.mp hy with e | e
  ·rw[e]; exact h1'
  ·obtain⟨k,hk,rfl⟩:=ZzV e
   rw[Zy4,ZwY]at hk;rw[List.getElem_drop];have h2:=gt (ZwG xs j+k) (by omega) (by omega);have h2':j<xs.toList[ZwG xs j+k]'(by simp; omega):=by simpa [Zyu,show ZwG xs j+k<xs.size by omega]using h2
   exact Zyl h1' h2'
theorem has_none(j:Nat):SetTable.has #[] j=false:=by simp[SetTable.has]
structure Tab(b:Bool)(t:SetTable):Prop where
 dum:t.dummies=#[]
 rise:ZdL t.place
 led:t.led=b
 plain:t.plain=true
 low:∀j∈t.place.toList,j<8
 mask:t.mask=if t.place.size<=4 then 7 else 31
theorem Tab.fresh(b:Bool):Tab b (SetTable.fresh 0 0 b):=⟨rfl,.nil,rfl,rfl,λj hj=>by simp[SetTable.fresh]at hj,rfl⟩
theorem Tab.few{b:Bool}{t:SetTable}(h:Tab b t):t.place.size<=8:=by
 have key:∀(l:List Nat) (lo:Nat),l.Pairwise (· < ·)->(∀j∈l,lo<=j/\j<8)->l.length<=8-lo:=by
  intro l
  induction l with
  | nil=>intro lo _ _; simp
  | cons x l ih=>intro lo hp hb;have h1:=hb x (ZwA ..);have h2:=ih (x+1) (Zxf.mp hp).2 λy hy=>⟨(Zxf.mp hp).1 y hy,(hb y (ZwC _ hy)).2⟩;rw[ZwM]; omega
 have:=key t.place.toList 0 h.rise λj hj=>⟨ZxR _,h.low j hj⟩;simpa using this
theorem ZgR{b:Bool}{t:SetTable}(h:Tab b t){j:Nat}(hj:j ∉ t.place.toList):t.slot j=.empty/\t.place[ZwG t.place j]?≠some j:=by have q:t.place[ZwG t.place j]?≠some j:=λe=>hj (by rw[<-Zxj]at e;exact Zw3 e);unfold SetTable.slot;dsimp only;rw[if_neg (by simpa using q),h.dum,has_none,if_neg (by simp)];exact⟨rfl,q⟩
theorem ZtP{b:Bool}{t:SetTable}(h:Tab b t)(j:Nat):t.put j=({ t with place:=ZwX t.place (ZwG t.place j) j },ZwG t.place j):=by
 unfold SetTable.put;dsimp only;rw[h.dum,has_none];cases t;have:=h.dum
 simp_all
theorem size_insert{α:Type}(xs:Array α)(p:Nat)(x:α):(ZwX xs p x).size=xs.size+1:=by rw[<-ZwY,(Zx9 xs p x).length_eq];simp
theorem ZtW{b:Bool}{t:SetTable}(h:Tab b t){es:Array (Int × Value)}(he:es.size=t.place.size){j:Nat}(h8:j<8)(hj:j ∉ t.place.toList)(v:Value) :
  layNew t es (j:Int) v=(ZwX es (ZwG t.place j) ((j:Int),v),{ t with place:=ZwX t.place (ZwG t.place j) j },false,false):=by
 obtain⟨e1,e2⟩:=ZgR h hj;have hfew:=h.few;have hm:t.mask=7\/t.mask=31:=by rw[h.mask]; split<;>simp
 have hbits:ZA0 (j:Int) % (t.mask+1)=j:=by
  have hb:ZA0 (j:Int)=j:=by unfold ZA0; omega
  rw[hb];rcases hm with e | e<;>rw[e]<;>omega
 have hfree:t.freeSlot (j:Int)=some (j,false):=by
  unfold SetTable.freeSlot SetTable.probe;have hf:10*ZAQ t.mask=(10*ZAQ t.mask-1)+1:=by unfold ZAQ; omega
  rw[hf];unfold SetTable.probe.go;have hp:(t.probeStart (j:Int)).j=j:=hbits;rw[hp,e1];rfl
 have hle:t.place.size<=7:=by
  apply Zy5;intro q;have h8':t.place.size=8:=by omega
  have:=ZxZ (l₁:=j::t.place.toList) (l₂:=ZwE 8) (Zxm.mpr ⟨hj,h.rise.imp λq=>ZwS q⟩) (λx hx=>by
   rcases ZwT.mp hx with e | e
   ·rw[e]; exact ZwV.mpr h8
   ·exact ZwV.mpr (h.low x e))
  simp at this;omega
 have hfit:(ZzD { t with place:=ZwX t.place (ZwG t.place j) j } (ZwX es (ZwG t.place j) ((j:Int),v)).size)=true:=by unfold ZzD ZzE;simp only[size_insert,he,h.dum];simp;rw[h.mask];split<;>omega
 unfold layNew;rw[hfree];dsimp only;rw[ZtP h];dsimp only;unfold SetTable.orStandIn;rw[hfit];rfl
theorem Tab.ins{b:Bool}{t:SetTable}(h:Tab b t){j:Nat}(h8:j<8)(hj:j ∉ t.place.toList)(hs:t.place.size≠4):Tab b { t with place:=ZwX t.place (ZwG t.place j) j }:=by
 obtain⟨_,e2⟩:=ZgR h hj;refine⟨h.dum,ZiP h.rise e2,h.led,h.plain,λx hx=>?_,?_⟩
 ·have:=(Zx9 t.place (ZwG t.place j) j).mem_iff.mp hx
  rw[ZyG]at this;rcases Zw5.mp this with q | q
  ·exact h.low x q
  ·rw[ZwQ.mp q]; exact h8
 ·dsimp only
  rw[size_insert,h.mask];split<;>split<;>omega
def Zj7:List (List Nat):=(ZwE 8).flatMap λa=>(ZwE 8).flatMap λb=>(ZwE 8).flatMap λc=>(ZwE 8).flatMap λd=>(ZwE 8).filterMap λe=>if a<b/\b<c/\c<d/\d<e then some [a,b,c,d,e]else none
theorem Zn5{l:List Nat}(h:l.Pairwise (· < ·))(h8:∀j∈l,j<8)(h5:l.length=5):l∈Zj7:=by
 match l,h5 with
 | [a,b,c,d,e],_=>simp at h h8;unfold Zj7;simp only[ZyM,ZwV,ZxL];refine⟨a,by omega,b,by omega,c,by omega,d,by omega,e,by omega,?_⟩;rw[if_pos (by omega)]
theorem Zux:∀l∈Zj7,(SetTable.layClean 31 (l.map λ(n:Nat)=>(n:Int)).toArray).map (λowner=>(ZwE 32).filterMap λj=>(owner.getD j none).map (j,·))=some (l.zip (ZwE 5)):=by decide +kernel
end HP
namespace HP
open PySem PyProof.Rows
def ZdK(e:Int × Value):Int:=match e.2 with
 | .int n _=>n
 | _=>0
section
variable(prog:Program)(w:World)
def Zme(es:List (Int × Value)):Prop:=∀e∈es,∃n t,e=((intKind prog w).hash n,Zye n t)
def Zc3(h:Heap)(a:Addr)(L:List Int):Prop:=∃o es ep t,h.get? a=some o/\o.ExactSet/\o.data=.set es ep t/\Zme prog w es.toList/\(es.toList.map ZdK).Perm L/\es.toList.map ZdK=t.place.toList.map (λ(j:Nat)=>(j:Int))/\Tab (!w.params.followText "set-order") t
end
section
variable{prog:Program}{w:World}{A:Around}{E:Value->Shared->Prop}{s:Shared}{a:Addr}{L:List Int}
theorem Zme.elems{es:List (Int × Value)}(h:Zme prog w es):ElemsOf (intKind prog w) es:=λe he=>by obtain⟨n,t,rfl⟩:=h e he;exact⟨⟨n,ZAs _ _ _ _,rfl⟩,rfl⟩
theorem Zc3.at'{h h':Heap}(x:Zc3 prog w h a L)(k:∀o,h.get? a=some o->h'.get? a=some o):Zc3 prog w h' a L:=let ⟨o,es,ep,t,e,r⟩:=x; ⟨o,es,ep,t,k o e,r⟩
def stp(L:List Int)(n:Int):List Int:=if L.contains n then L else L++[n]
theorem ZqH{k n:Int}{t:Tok}:(intKind prog w).is k (.int n t)=true↔n=k:=by
 constructor
 ·intro h
  exact(intKind prog w).inj _ _ _ (ZAs _ _ _ _) h
 ·rintro rfl; exact ZAs _ _ _ _
theorem Zha:∀(j:Nat),j<8->(intKind prog w).hash (j:Int)=(j:Int)
 | 0,_=>rfl
 | 1,_=>rfl
 | 2,_=>rfl
 | 3,_=>rfl
 | 4,_=>rfl
 | 5,_=>rfl
 | 6,_=>rfl
 | 7,_=>rfl
 | n+8,h=>by omega
theorem Tab.fits{b:Bool}{t:SetTable}(h:Tab b t):t.fits t.place.size=true:=by have hf:=h.few;unfold ZzD ZzE;rw[h.dum,h.mask];simp;split<;>omega
theorem size_of{es:Array (Int × Value)}{t:SetTable}(h:es.toList.map ZdK=t.place.toList.map (λ(j:Nat)=>(j:Int))):es.size=t.place.size:=by have:=congrArg Zxd h;simpa using this
theorem Zju{h:Heap}{o:Obj}{es es':Array (Int × Value)}{ep:Nat}{t t':SetTable}(ho:h.get? a=some o)(hex:o.ExactSet)(hd:o.data=.set es ep t)(hel:Zme prog w es'.toList)(hp:(es'.toList.map ZdK).Perm L)
  (hs:es'.toList.map ZdK=t'.place.toList.map (λ(j:Nat)=>(j:Int))) (ht:Tab (!w.params.followText "set-order") t') :
  (h.update a (Zzo es' t')).get? a=some { o with data:=.set es' (ep+1) t' }/\Zc3 prog w (h.update a (Zzo es' t')) a L:=by
 have hg:(h.update a (Zzo es' t')).get? a=some { o with data:=.set es' (ep+1) t' }:=by
  have:=ZxC (Zzo es' t') ho (by rw[putSet_of es' t' hd]; rfl)
  rwa [putSet_of es' t' hd]at this
 exact⟨hg,_,es',ep+1,t',hg,hex,rfl,hel,hp,hs,ht⟩
theorem Zr2{b:Bool}{t:SetTable}{es:Array (Int × Value)}(hr:ZdL t.place)(h8:∀j∈t.place.toList,j<8)(h5:t.place.size=5)(he:es.map (·.1)=(t.place.toList.map (λ(j:Nat)=>(j:Int))).toArray)(hl:t.led=b)(hp:t.plain=true) :
  ∃t',relayAll t es 20=(es,t',false)/\t'.place=t.place/\Tab b t':=by
 have hc:=Zux _ (Zn5 hr h8 (by simpa using h5));obtain⟨owner,o1,o2⟩:=Zwx.mp hc;have hsz:es.size=5:=by have:=congrArg Array.size he;simp at this;omega
 have hlen:t.place.toList.length=5:=by simpa using h5
 have z1:(t.place.toList.zip (ZwE 5)).map (·.1)=t.place.toList:=List.map_fst_zip (by rw[hlen]; simp);have z2:(t.place.toList.zip (ZwE 5)).map (·.2)=ZwE 5:=List.map_snd_zip (by rw[hlen]; simp);have hrl:t.relaid (es.map (·.1)) 20=some ({ mask:=31,place:=t.place,dummies:=#[],finger:=t.finger,led:=t.led,moves:=t.movedTo 31,plain:=t.plain },(ZwE 5).toArray):=by
  unfold SetTable.relaid SetTable.laid;have e31:SetTable.sizeAbove 20-1=31:=by decide
  rw[e31,he,o1];show some _=some _;rw[o2,z1,z2]
 refine⟨{ mask:=31,place:=t.place,dummies:=#[],finger:=t.finger,led:=t.led,moves:=t.movedTo 31,plain:=t.plain },?_,rfl,⟨rfl,hr,hl,hp,h8,?_⟩⟩
 ·unfold relayAll
  rw[hrl];dsimp only;have ef:(ZwE 5).toArray.filterMap (λx=>es[x]?)=es:=by apply Array.toList_inj.mp;rw[Array.toList_filterMap];have:=filterMap_getElem?_range es;rw[hsz]at this;simpa using this
  rw[ef];have ec:coversAll (ZwE 5).toArray es.size=true:=by rw[hsz]; decide
  have et:ZzD { mask:=31,place:=t.place,dummies:=#[],finger:=t.finger,led:=t.led,moves:=t.movedTo 31,plain:=t.plain } es.size=true:=by unfold ZzD ZzE;simp[h5,hsz]
  rw[ec,et];rfl
 ·dsimp only
  rw[h5];rfl
theorem Zrv{j:Nat}{tk:Tok}{Q:Bool->Shared->Prop}(h8:j<8)(hX:Zc3 prog w s.heap a L)
  (h:∀b h',Zyj a s.heap h'->Zc3 prog w h' a (stp L j)->Q b { s with heap:=h' }) :
  wpAny (model prog w) A (setAddHashed a (.int j tk) ((intKind prog w).hash j)) Q E s:=by
 obtain⟨o,es,ep,t,ho,hex,hd,hen,hpm,hpl,ht⟩:=hX;have hel:=hen.elems;have hsc:(Zye (j:Int) tk).scannable=true:=rfl;have hkey:(intKind prog w).is (j:Int) (.int j tk)=true:=ZAs _ _ _ _;have hsz:=size_of hpl;have hfew:=ht.few;have hf:t.fits es.size=true:=by rw[hsz]; exact ht.fits
 have hsb:scanBound=4096:=rfl;have hb:es.size<scanBound:=by omega
 unfold setAddHashed setAddHashedIn;refine ZxD (Zwv (Zzv ho hd hf ?_));dsimp only;rw[byScan_of hsc hb hel];simp only[↓reduceIte];unfold setAddByScan;refine Zwv (Zwv (wpAny_rule (Zwv (wpAny_setScan_of hkey ho hd hf hel ?_))));cases hr:List.findIdx? (λe=>(intKind prog w).is (j:Int) e.2) es.toList with
 | some i =>
  dsimp only;obtain⟨hi,hpi,_⟩:=List.findIdx?_eq_some_iff_getElem.mp hr;have hmem:(j:Int)∈L:=by refine hpm.mem_iff.mp (ZwK.mpr ⟨es.toList[i],Zyc hi,?_⟩);obtain⟨m,u,e⟩:=hen _ (Zyc hi);rw[e]at hpi ⊢;exact ZqH.mp hpi
  refine Zwz (Zwz ?_);have e:s={ s with heap:=s.heap }:=by cases s; rfl
  have q:=h false s.heap (ZBb a s.heap) ⟨o,es,ep,t,ho,hex,hd,hen,by unfold stp; rw[if_pos (by simpa using hmem)]; exact hpm,hpl,ht⟩;rw[e];exact q
 | none =>
  dsimp only;have hne:∀e∈es.toList,ZdK e≠(j:Int):=λe he hv=>by obtain⟨m,u,e1⟩:=hen e he;have no:=List.findIdx?_eq_none_iff.mp hr e he;rw[e1]at no hv;have yes:(intKind prog w).is (j:Int) (.int m u)=true:=ZqH.mpr hv;exact absurd (yes.symm.trans no) (by simp)
  have hnm:(j:Int) ∉ L:=λhm=>by obtain⟨e,he,hv⟩:=ZwK.mp (hpm.mem_iff.mpr hm);exact hne e he hv
  have hj:j ∉ t.place.toList:=λhm=>by
   have:(j:Int)∈es.toList.map ZdK:=by rw[hpl]; exact ZwK.mpr ⟨j,hm,rfl⟩
   obtain⟨e,he,hv⟩:=ZwK.mp this;exact hne e he hv
  obtain⟨mk,pl,dm,fg,ld,mv,pn⟩:=t;obtain rfl:pn=true:=ht.plain;obtain rfl:dm=#[]:=ht.dum;rw[Zha j h8,ZtW ht hsz h8 hj];dsimp only;obtain⟨_,hnj⟩:=ZgR ht hj;obtain⟨hle,_,_⟩:=ZeM ht.rise j;have hen1:Zme prog w (ZwX es (ZwG pl j) ((j:Int),Zye j tk)).toList:=λe he=>by
   have:=(Zx9 _ _ _).mem_iff.mp he;rw[ZyG]at this;rcases Zw5.mp this with q | q
   ·exact hen e q
   ·exact⟨j,tk,by rw[Zha j h8]; exact ZwQ.mp q⟩
  have hpm1:((ZwX es (ZwG pl j) ((j:Int),Zye j tk)).toList.map ZdK).Perm (stp L j):=by unfold stp;rw[if_neg (by simpa using hnm)];refine((Zx9 _ _ _).map ZdK).trans ?_;rw[ZyG,Zw7];exact hpm.append_right _
  have hpl1:(ZwX es (ZwG pl j) ((j:Int),Zye j tk)).toList.map ZdK=(ZwX pl (ZwG pl j) j).toList.map (λ(j:Nat)=>(j:Int)):=by rw[Zzh,Zzh,Zw7,Zw7,ZwD,ZwD,List.map_take,List.map_take,List.map_drop,List.map_drop,hpl];rfl
  have hs1:(ZwX es (ZwG pl j) ((j:Int),Zye j tk)).size=es.size+1:=size_insert _ _ _;generalize hE:ZwX es (ZwG pl j) ((j:Int),Zye j tk)=es1 at hen1 hpm1 hpl1 hs1 ⊢;have hz1:es1.size<=sizeLine:=by rw[ZxO]; omega
  refine Zwv (Zwz ?_);simp only[↓reduceIte];refine Zwv ?_;rw[hashByValue_scannable 8 hsc];refine Zwz ?_;rw[show plainKind (Zye (j:Int) tk)=true from rfl];simp only[↓reduceIte];show wpAny (model prog w) A (do
    storeSet a es1 (⟨mk,ZwX pl (ZwG pl j) j,#[],fg,ld,mv,true⟩:SetTable)
    if(!false&&Zy6 (⟨mk,ZwX pl (ZwG pl j) j,#[],fg,ld,mv,true⟩:SetTable))=true then _ else _) _ E s
  refine Zwv (wpAny_storeSet_of ho hd ?_ hz1);have hsb1:=ZxB s.heap a (Zzo es1 (⟨mk,ZwX pl (ZwG pl j) j,#[],fg,ld,mv,true⟩:SetTable))
  by_cases h4:pl.size=4
  ·have hm:mk=7:=by have q:=ht.mask; dsimp only at q; rw[h4]at q; exact q
   have htf:Zy6 (⟨mk,ZwX pl (ZwG pl j) j,#[],fg,ld,mv,true⟩:SetTable)=true:=by unfold Zy6 ZzE;simp[size_insert,h4,ht.dum,hm]
   have hg:(s.heap.update a (Zzo es1 (⟨mk,ZwX pl (ZwG pl j) j,#[],fg,ld,mv,true⟩:SetTable))).get? a=some { o with data:=.set es1 (ep+1) (⟨mk,ZwX pl (ZwG pl j) j,#[],fg,ld,mv,true⟩:SetTable) }:=by
    have:=ZxC (Zzo es1 (⟨mk,ZwX pl (ZwG pl j) j,#[],fg,ld,mv,true⟩:SetTable)) ho (by rw[putSet_of _ _ hd]; rfl)
    rwa [putSet_of _ _ hd]at this
   have hh:es1.map (·.1)=((ZwX pl (ZwG pl j) j).toList.map (λ(j:Nat)=>(j:Int))).toArray:=by
    apply Array.toList_inj.mp;rw[Array.toList_map,<-hpl1];refine Zx8 λe he=>?_;obtain⟨m,u,e1⟩:=hen1 e he;have hm:m∈es1.toList.map ZdK:=ZwK.mpr ⟨e,he,by rw[e1]; rfl⟩;rw[hpl1]at hm;obtain⟨k,hk,rfl⟩:=ZwK.mp hm;have hk8:k<8:=by
     have:=(Zx9 _ _ _).mem_iff.mp hk;rw[ZyG]at this;rcases Zw5.mp this with q | q
     ·exact ht.low k q
     ·rw[ZwQ.mp q]; exact h8
    rw[e1];exact Zha (prog:=prog) (w:=w) k hk8
   obtain⟨t',r1,r2,r3⟩:=Zr2 (b:=!w.params.followText "set-order") (t:=(⟨mk,ZwX pl (ZwG pl j) j,#[],fg,ld,mv,true⟩:SetTable)) (es:=es1) (ZiP ht.rise hnj)
    (λk hk=>by
     have:=(Zx9 _ _ _).mem_iff.mp hk;rw[ZyG]at this;rcases Zw5.mp this with q | q
     ·exact ht.low k q
     ·rw[ZwQ.mp q]; exact h8) (by dsimp only; rw[size_insert,h4]) hh ht.led ht.plain
   have hgr:SetTable.grown es1.size=20:=by rw[hs1,hsz,h4]; rfl
   rw[htf];simp only[Bool.not_false,Bool.and_self,↓reduceIte];rw[hgr,r1];dsimp only;refine Zwv (Zwz (Zwv (wpAny_storeSet_of hg rfl ?_ hz1)));obtain⟨_,hS2⟩:=Zju (prog:=prog) (t':=t') hg hex rfl hen1 hpm1 (by rw[r2]; exact hpl1) r3;exact Zwz (Zwz (h true _ (hsb1.trans (ZxB _ a _)) hS2))
  ·have htf:Zy6 (⟨mk,ZwX pl (ZwG pl j) j,#[],fg,ld,mv,true⟩:SetTable)=false:=by
    unfold Zy6 ZzE;have q:=ht.mask;dsimp only at q;simp only[size_insert];rw[q];simp;have:=hfew;dsimp only at this;split<;>omega
   rw[htf];simp only[Bool.and_false,Zyg,↓reduceIte];obtain⟨_,hS1⟩:=Zju (prog:=prog) (t':=(⟨mk,ZwX pl (ZwG pl j) j,#[],fg,ld,mv,true⟩:SetTable)) ho hex hd hen1 hpm1 hpl1 (ht.ins h8 hj h4);exact Zwz (Zwz (h true _ hsb1 hS1))
end
section
variable{prog:Program}{w:World}{A:Around}{E:Value->Shared->Prop}{s:Shared}
abbrev Zcz(w:World):Obj:={ cls:=.type "set",dict:=none,data:=.set #[] 0 (.fresh 0 0 (!w.params.followText "set-order")) }
theorem Zld(v:Value){Q₁:Value->Shared->Prop}(h:Q₁ (.ref s.heap.objs.size) { s with heap:=s.heap.push (Zcz w) }) :
  codeAny (model prog w) A (.call (.builtin "set.__new__") ⟨[.type "set",v],[]⟩) (wants Q₁ E) s:=by
 refine codeAny_of_tree ?_;show wpAny _ A.in1 (do checkBuiltinCall "set.__new__" ⟨[.type "set",v],[]⟩; again (.builtin "set.__new__" ⟨[.type "set",v],[]⟩)) _ _ s;refine Zwv (ZAL (PySem.F.newCall_set_1 v) (Zwz ⟨ZyE ZAR _,ZxJ PySem.F.entry_set_new ?_⟩));rw[Zxz ZAR _];unfold Builtin.«set.__new__» Builtin.Frozenset.newClass;have hsub:=sub_set_self;obtain⟨hp,g,d,tk,os⟩:=s;dsimp only
 wp_walk
 refine Zy7 (Zwz ?_);dsimp only;simp only[newObj];exact Zwv (wpAny_alloc (Zwz (Zwz h)))
theorem Zr3(h:Heap):Zc3 prog w (h.push (Zcz w)) h.objs.size [] :=
 ⟨_,#[],0,_,ZwO _ rfl,⟨rfl,rfl,rfl⟩,rfl,λe he=>by simp at he,.nil,rfl,Tab.fresh _⟩
theorem ZgK:∀(l acc:List Int) (x:Int),HM.dedup acc (l++[x])=stp (HM.dedup acc l) x
 | [],acc,x=>by show HM.dedup acc [x]=stp acc x;unfold HM.dedup stp;split<;>rfl
 | y::l,acc,x=>by
  show HM.dedup acc (y::(l++[x]))=_;unfold HM.dedup;split
  ·exact ZgK l acc x
  ·exact ZgK l _ x
variable{R:Result->Shared->Prop}{I:Addr}{fp wr:List Addr}{G:Array GenState->Array GenState->Prop}{P:Nat->Value->Prop}{St:Nat->Shared->Prop}
theorem ZqZ{ns:List Int}(W:WalksS prog w A.in1 I fp wr G ns.length P St)(S:Addr)(hSf:S ∉ fp)(hval:∀i v,P i v->∃t,v=.int (ns.getD i 0) t)(hb:∀n∈ns,0<=n/\n<8) :
  ∀(k i:Nat) (s:Shared),ns.length-i=k->i<=ns.length->St i s->Zc3 prog w s.heap S (HM.dedup [] (ns.take i)) ->
   (∀s',Moved (S::wr) G s s'->Zc3 prog w s'.heap S (HM.dedup [] ns)->R (.ok (.ret .none)) s') ->
   codeAny (model prog w) A (.builtin "set.update.loop" ⟨[.ref S,.ref I],[]⟩) R s:=by
 have hSw:S ∉ wr:=λh=>hSf (W.sub _ h);have hsub:∀b∈wr,b∈S::wr:=λb hb=>ZwC _ hb;intro k
 induction k with
 | zero =>
  intro i s hk hi hst hS hR;obtain rfl:i=ns.length:=by omega
  rw[List.take_length]at hS;refine ZxJ F.entry_set_update_loop ?_;rw[Zxz F.plain_set_update_loop _];show wpAny _ A.in1 (pyNext (.ref I) >>= _) _ _ s;refine Zwv (W.done s _ _ hst λs' hm=>?_);show wpAny _ A.in1 (ret Zxw) _ _ s';exact Zwz (hR s' (hm.mono hsub) (hS.at' λo e=>hm.heap S o hSw e))
 | succ k ih =>
  intro i s hk hi hst hS hR;have hlt:i<ns.length:=by omega
  refine ZxJ F.entry_set_update_loop ?_;rw[Zxz F.plain_set_update_loop _];show wpAny _ A.in1 (pyNext (.ref I) >>= _) _ _ s;refine Zwv (W.item i s _ _ hlt hst λv s' hP hst' hm=>?_);obtain⟨t,rfl⟩:=hval i v hP;have hS':=hS.at' (h':=s'.heap) λo e=>hm.heap S o hSw e;show wpAny _ A.in1 (holding [Zye (ns.getD i 0) t] (setAdd S (.int (ns.getD i 0) t)) >>= _) _ _ s';refine Zwv (ZxD ?_);unfold setAdd;refine ZxD (Zwv ((intKind prog w).pyHash (k:=ns.getD i 0) (ZAs _ _ _ _) ?_));have hbi:=hb (ns.getD i 0) (by rw[ZxW,ZwN hlt]; exact Zyc hlt);obtain⟨j,ej⟩:∃j:Nat,ns.getD i 0=(j:Int):=⟨(ns.getD i 0).toNat,by omega⟩;have e:stp (HM.dedup [] (ns.take i)) (ns.getD i 0)=HM.dedup [] (ns.take (i+1)):=by rw[<-ZgK,List.take_succ,ZxW];simp[hlt]
  rw[ej]at e hbi ⊢;refine Zrv (s:={ s' with toks:=s'.toks+1 }) (by omega) hS' λb h' hsb hS2=>?_;rw[e]at hS2;refine Zwz ⟨ZyE F.plain_set_update_loop _,ih (i+1) _ (by omega) hlt (W.frame _ s' _ _ hst' (Nat.le_succ _) λb hb o e=>?_) hS2 λs'' hm'' hS''=>?_⟩
  ·rw[hsb.2 b (λh:b=S=>hSf (by rw[<-h]; exact hb))]; exact e
  ·refine hR s'' (Moved.trans W.gtrans ((hm.mono hsub).then_heap (Nat.le_succ _) λb o hb e=>?_) hm'') hS''
   rw[hsb.2 b (λh:b=S=>hb (by rw[h]; exact ZwA))]; exact e
set_option maxHeartbeats 3200000 in
theorem ZqK{l:Addr}{items:Array Value}{ns:List Int}{Q:Value->Shared->Prop}(hh:A.handled=none)(hl:s.heap.IsList l items)(hi:IntsAre items.toList ns)(hb:∀n∈ns,0<=n/\n<8)
  (h:∀(h':Heap) (tk:Nat),Zc3 prog w h' s.heap.objs.size (HM.dedup [] ns)->(∀b o,b<s.heap.objs.size->s.heap.get? b=some o->h'.get? b=some o)->Q (.ref s.heap.objs.size) { s with heap:=h',toks:=tk }) :
  wpAny (model prog w) A (call (.type "set") [.ref l]) Q E s:=by
 have hsz:items.size=ns.length:=by rw[<-hi.length,ZwY]
 obtain⟨c,tl,hmro⟩:=Zx1.mro;have hmade:=Zx1.made;have hsub:=Zx1.sub;refine wpAny_call (codeAny_of_tree ?_);show wpAny _ _ (callAny (.type "set") _) _ _ _;refine Zwz ⟨Code.quiet_builtin _ (by decide +kernel),ZxJ PySem.F.entry_type_call ?_⟩;rw[Around.under_plain (weight_type_call_type "set" [.ref l] []) rfl];have h1:=Zx1.notType;have h2:=Zx1.canCreate;have hct:=PySem.F.typeCall_set_1 (.ref l)
 repeat (any_goals (first | assumption | wp_step))
 refine Zyv (Zld (.ref l) (E:=E) (Q₁:=λobj s₁=>obj=.ref s.heap.objs.size/\s₁={ s with heap:=s.heap.push (Zcz w) }) ⟨rfl,rfl⟩) λr s₁ hr=>?_;cases r with
 | error e=>exact hr
 | ok fl =>
  cases fl with
  | ret obj =>
   obtain⟨rfl,rfl⟩:=hr;have hX:=Zr3 (prog:=prog) (w:=w) s.heap;have hS:(s.heap.push (Zcz w)).get? s.heap.objs.size=some (Zcz w):=ZwO _ rfl;have hT:Shared.TypeIs { s with heap:=s.heap.push (Zcz w) } (.ref s.heap.objs.size) "set":=⟨_,hS,rfl⟩;have hli:=Zx1.init.lookup;have hbi:=Zx1.init.bind (.ref s.heap.objs.size)
   repeat (any_goals (first | assumption | wp_step))
   refine Zyv (codeAny_call_builtin (R:=wants (λr s₂=>r=.none/\∃h' tk,s₂={ s with heap:=h',toks:=tk }/\Zc3 prog w h' s.heap.objs.size (HM.dedup [] ns) /\
     (∀b o,b<s.heap.objs.size->s.heap.get? b=some o->h'.get? b=some o)) E) Zx1.init.plain PySem.F.entry_set_init (check_set_init_1 hT ?_)) λr₂ s₂ hr₂=>?_
   ·obtain⟨⟨ocls,odict,odata,oslots⟩,hol,hcl,nl,hdl⟩:=hl
    simp only at hcl hdl;subst hcl; subst hdl;have hol':(s.heap.push (Zcz w)).get? l=some { cls:=.type "list",dict:=odict,data:=.seq items nl,slots:=oslots }:=ZwB _ hol;have hsls:=PySem.F.sub_list_set;have hslf:=PySem.F.sub_list_frozenset;have hne:(Zzj "list" == Zzj "dict")=false:=by decide
    have hl1:(s.heap.push (Zcz w)).IsList l items:=⟨_,hol',rfl,nl,rfl⟩;unfold Builtin.«set.__init__» noKeywords Builtin.Frozenset.updateFrom;generalize hPI:pyIter=PI
    wp_walk
    subst hPI;refine ZAk hl1 (Zwv (wpAny_runValue ?_));have hlS:l<s.heap.objs.size:=ZwL hol;have hh3:A.in1.in1.in1.handled=none:=by simp[hh]
    have hneI:l≠(s.heap.push (Zcz w)).objs.size:=by rw[Zy2]; exact ZwS (Zy0 hlS)
    have hSf:s.heap.objs.size ∉ [(s.heap.push (Zcz w)).objs.size,l]:=by rw[Zy2]; simp only[ZwT,ZwQ,List.not_mem_nil,or_false,not_or];exact⟨ZwS (ZyL _),Zze hlS⟩
    have Wl:=(Walks.list (prog:=prog) (w:=w) hh3 _ l hneI items).toS;rw[hsz]at Wl;refine ZqZ Wl s.heap.objs.size hSf (λi v hv=>IntsAre.int_at hi i v (by rw[Zxj]; exact hv)) hb (ns.length-0) 0 _ (by omega) (ZxR _)
     ⟨⟨_,ZwO _ rfl,rfl,rfl⟩,hl1.push _⟩ (hX.at' λo e=>ZwB _ e) λs' hm hS'=>?_
    obtain⟨h',g',d',tk',os'⟩:=s';have eg:g'=s.gens:=hm.gens;have ed:d'=s.drawn:=hm.drawn;have eo:os'=s.os:=hm.os;subst eg; subst ed; subst eo
    show wpAny _ _ _ _ _ _;refine Zwz ?_;show wpAny _ _ (ret Zxw) _ _ _;refine Zwz ⟨rfl,h',tk',rfl,hS',λb o hb e=>?_⟩;refine hm.heap b o ?_ (ZwB _ (ZwB _ e));simp only[ZwT,ZwQ,List.not_mem_nil,or_false,not_or];exact⟨ZwS hb,by rw[Zy2]; exact ZwS (Zy0 hb)⟩
   ·cases r₂ with
    | error e=>exact hr₂
    | ok fl₂ =>
     cases fl₂ with
     | ret r =>
      obtain⟨rfl,h',tk,rfl,hS',hk'⟩:=hr₂
      repeat (any_goals (first | assumption | wp_step))
      exact h _ _ hS' hk'
     | _=>exact hr₂.elim
  | _=>exact hr.elim
end
end HP
namespace HP
open PySem PyProof.Rows
theorem Zcf:Slot "set_iterator" "__next__" "set_iterator.__next__" :=
 .of (owner:="set_iterator") (n:="__next__") (by rw[typeLookup_type,builtinLookup_eq_fast]; kernel_rfl) (by decide +kernel) (by decide +kernel) (by decide +kernel)
  (by first | exact .inl (by decide +kernel) | exact .inr (by decide +kernel)) (by rw[isSubtype_type]; kernel_rfl)
theorem Zhf:entryFor table "set_iterator.__next__" = some Builtin.«set_iterator.__next__»:=entryFor_of_tree (by kernel_rfl)
theorem ZhF:Slot "set_iterator" "__iter__" "set_iterator.__iter__" :=
 .of (owner:="set_iterator") (n:="__iter__") (by rw[typeLookup_type,builtinLookup_eq_fast]; kernel_rfl) (by decide +kernel) (by decide +kernel) (by decide +kernel)
  (by first | exact .inl (by decide +kernel) | exact .inr (by decide +kernel)) (by rw[isSubtype_type]; kernel_rfl)
theorem Zlc:entryFor table "set_iterator.__iter__" = some Builtin.«dict_keyiterator.__iter__» :=
 entryFor_alias (id':="dict_keyiterator.__iter__") (by kernel_rfl) rfl (by decide +kernel) (by kernel_rfl)
theorem Zjl:entryFor table "set.__iter__" = some Builtin.«frozenset.__iter__» :=
 entryFor_alias (id':="frozenset.__iter__") (by kernel_rfl) rfl (by decide +kernel) (by kernel_rfl)
theorem ZmS:Manifest.owners.lookup (String.ofList ['r','o','t','a','r','e','t','i','_','t','e','s'].reverse)=some Manifest.sig_set_iterator:=by kernel_rfl
theorem ZhG(a:Value):argsOk "set_iterator.__next__" ⟨[a],[]⟩:=by unfold argsOk; rw[signature?_of (id:="set_iterator.__next__") (n:=['_','_','t','x','e','n','_','_']) (o:=['r','o','t','a','r','e','t','i','_','t','e','s']) (by kernel_rfl) ZmS]; kernel_rfl
theorem Zl9(a:Value):argsOk "set_iterator.__iter__" ⟨[a],[]⟩:=by unfold argsOk; rw[signature?_of (id:="set_iterator.__iter__") (n:=['_','_','r','e','t','i','_','_']) (o:=['r','o','t','a','r','e','t','i','_','t','e','s']) (by kernel_rfl) ZmS]; kernel_rfl
theorem Zjt{α:Type}:∀(l:List α) (i:Nat) (h:i<l.length),(l[i]::l.eraseIdx i).Perm l
 | x::l,0,_=>.refl _
 | x::l,i+1,h=>by
  have h':i<l.length:=by simpa using h
  show(l[i]::x::l.eraseIdx i).Perm (x::l);exact(List.Perm.swap x l[i] _).trans ((Zjt l i h').cons x)
theorem ZkC{α:Type}(next:Nat->Nat):∀(n k:Nat) (left:List α) (out:Array α),left.length=n->(ZAE.go next n k left out).toList.Perm (out.toList++left)
 | 0,k,left,out,h=>by rw[ZyX h,Zxc];exact .refl _
 | n+1,k,left,out,h=>by
  have hl:next k % left.length<left.length:=Nat.mod_lt _ (by omega)
  unfold ZAE.go;rw[ZwN hl];dsimp only;refine(ZkC next n (k+1) _ _ (by rw[List.length_eraseIdx_of_lt hl]; omega)).trans ?_
  rw[ZyG,Zx5];refine List.Perm.append_left _ ?_;exact Zjt left _ hl
theorem Zka{α:Type}(next:Nat->Nat)(xs:Array α):(ZAE next xs).toList.Perm xs.toList:=by
 have:=ZkC next xs.size 0 xs.toList #[] (by simp)
 simpa [ZAE]using this
end HP
namespace HP
open PySem PyProof.Rows
structure ZdO(w:World)(h:Heap)(a:Addr)(es:Array (Int × Value))(ep:Nat)(t:SetTable):Prop where
 obj:∃o,h.get? a=some o/\o.ExactSet/\o.data=.set es ep t
 fit:t.fits es.size=true
 siz:es.size=t.place.size
 tab:Tab (!w.params.followText "set-order") t
theorem ZdO.at'{w:World}{h h':Heap}{a:Addr}{es:Array (Int × Value)}{ep:Nat}{t:SetTable}(x:ZdO w h a es ep t)(k:∀o,h.get? a=some o->h'.get? a=some o):ZdO w h' a es ep t :=
 ⟨let ⟨o,e,r⟩:=x.obj; ⟨o,k o e,r⟩,x.fit,x.siz,x.tab⟩
def Zde(w:World)(a:Addr)(es:Array (Int × Value))(ep:Nat):Array (Int × Value):=if w.params.followText "set-order" then ZAE (w.params.setOrder a ep) es else es
theorem ZhW(w:World)(a:Addr)(es:Array (Int × Value))(ep:Nat):(Zde w a es ep).toList.Perm es.toList:=by
 unfold Zde; split
 ·exact Zka _ _
 ·exact .refl _
theorem Zib(w:World)(a:Addr)(es:Array (Int × Value))(ep:Nat):(Zde w a es ep).size=es.size:=by have:=(ZhW w a es ep).length_eq;simpa using this
def Zgb(h:Heap)(it a:Addr)(slot i n ep:Nat):Prop:=∃o,h.get? it=some o/\o.cls=.type "set_iterator"/\o.data=.fields #[.int slot 0,.int i 0,.ref a,.int n 0,.int ep 0]
theorem Zgb.typeIs{s:Shared}{it a:Addr}{slot i n ep:Nat}(x:Zgb s.heap it a slot i n ep):s.TypeIs (.ref it) "set_iterator":=let ⟨o,ho,hc,_⟩:=x; ⟨o,ho,hc⟩
theorem Zgb.at'{h h':Heap}{it a:Addr}{slot i n ep:Nat}(x:Zgb h it a slot i n ep)(k:∀o,h.get? it=some o->h'.get? it=some o):Zgb h' it a slot i n ep:=let ⟨o,e,r⟩:=x; ⟨o,k o e,r⟩
section
variable{prog:Program}{w:World}{A:Around}{E:Value->Shared->Prop}{s:Shared}{it a:Addr}{es:Array (Int × Value)}{ep:Nat}{t:SetTable}
theorem Zrk{Q:Value->Shared->Prop}(x:ZdO w s.heap a es ep t)
  (hQ:Q (.ref s.heap.objs.size) { s with heap:=s.heap.push { cls:=.type "set_iterator",data:=.fields #[.int 0 0,.int 0 0,.ref a,.int es.size 0,.int ep 0] } }) :
  wpAny (model prog w) A (pyIter (.ref a)) Q E s:=by
 obtain⟨o,ho,hex,hd⟩:=x.obj;have hT:s.TypeIs (.ref a) "set":=⟨o,ho,hex.1⟩;refine ZAm hT ZAS (ZxM ZAS hT Zjl ?_ (PySem.F.args_set_iter_1 _));unfold Builtin.«frozenset.__iter__» Builtin.Frozenset.slot0 slotArgs Builtin.Frozenset.addrOf Builtin.Frozenset.sizeOf;refine Zwv (Zwv (Zwz (Zwz ?_)));dsimp only;refine Zwv (Zwv (ZzW ho hd x.fit (Zwz ?_)));have hdr:∀{R:Bool->Shared->Prop} {A':Around} {E':Value->Shared->Prop},R false s->wpAny (model prog w) A' (setDrawn a) R E' s:=λ{R A' E'} hR=>by unfold setDrawn setsByText;refine Zwv (Zzv ho hd x.fit (Zwv (Zwv (Zy7 (Zwz (Zwz ?_))))));obtain⟨mk,pl,dm,fg,ld,mv,pn⟩:=t;obtain rfl:pn=true:=x.tab.plain;show R (!_&&(!true&&_)) s;simpa using hR
 refine Zwv (hdr ?_);rw[if_neg (by simp)];refine Zwv (Zwz (Zwv (wpAny_setEpoch_of ho hd x.fit ?_)));show wpAny (model prog w) A.in1 (newFields "set_iterator" [rawInt 0,rawInt 0,Zxr a,rawInt (es.size:Int),rawInt (ep:Int)] >>= _) _ E s;refine Zwv (Zxu (Zwz ⟨_,rfl,"set_iterator",_,⟨_,ZwO _ rfl,rfl⟩,Zcf.lookup,?_⟩));simpa [rawInt]using hQ
theorem ZiK{slot i:Nat}{R:Option (Value × Nat)->Shared->Prop}(x:ZdO w s.heap a es ep t)(hs:w.params.followText "set-order" = false->ZwG t.place slot=i)
  (hR:R ((Zde w a es ep)[i]?.map λe=>(e.2,if w.params.followText "set-order" then slot else t.place.getD i 0+1)) s):wpAny (model prog w) A (setNext a slot i ep) R E s:=by
 obtain⟨o,ho,hex,hd⟩:=x.obj;unfold setNext setsByText;refine Zwv (Zzv ho hd x.fit ?_);dsimp only;refine Zwv (Zwv (Zy7 (Zwz ?_)));dsimp only;cases hb:w.params.followText "set-order" with
 | true=>have hb':(model prog w).w.params.followText "set-order" = true:=hb;rw[hb',if_pos rfl];unfold Zde at hR;rw[hb,if_pos rfl]at hR;simp only[if_pos]at hR;refine Zyz (λq=>absurd q (by simp)) λ_=>?_;unfold setWalk setsByText;refine Zwv (Zwv (Zzv ho hd x.fit ?_));dsimp only;refine Zwv (Zwv (Zy7 (Zwz ?_)));dsimp only;rw[hb',if_pos rfl];exact Zwv (Zy7 (Zwz (Zwz hR)))
 | false =>
  have hb':(model prog w).w.params.followText "set-order" = false:=hb;rw[hb',if_neg (by simp)];unfold Zde at hR;rw[hb]at hR;simp only[Zyg,if_false]at hR;have hi:=hs hb;have hled:t.led=true:=by rw[x.tab.led,hb]; rfl
  have hsz:=x.siz;obtain⟨mk,pl,dm,fg,ld,mv,pn⟩:=t;obtain rfl:pn=true:=x.tab.plain;obtain rfl:ld=true:=hled;refine Zyz (λq=>absurd (show(!true&&_)=true from q) (by simp)) λ_=>?_;refine Zwv ?_;refine Zyz (λq=>absurd (show(!true&&_)=true from q) (by simp)) λ_=>?_;refine Zwz ?_;dsimp only at hi hsz ⊢;rw[hi];refine Zwz ?_
  by_cases hlt:i<es.size
  ·have h1:es[i]?=some es[i]:=ZyH hlt
   have h2:pl[i]?=some (pl.getD i 0):=by simp[Zyu,show i<pl.size by omega]
   rw[h1]at hR ⊢;rw[h2];exact hR
  ·have h1:es[i]?=none:=ZzB (by omega)
   rw[h1]at hR ⊢;exact hR
theorem Zry{slot i:Nat}{e:Int × Value}{Q:Option Value->Shared->Prop}(hit:Zgb s.heap it a slot i es.size ep)(x:ZdO w s.heap a es ep t)(hs:w.params.followText "set-order" = false->ZwG t.place slot=i)(he:(Zde w a es ep)[i]?=some e)
  (hQ:∀h',Zgb h' it a (if w.params.followText "set-order" then slot else t.place.getD i 0+1) (i+1) es.size ep->Zyj it s.heap h'->Q (some e.2) { s with heap:=h' }) :
  wpAny (model prog w) A (pyNext (.ref it)) Q E s:=by
 obtain⟨o,ho,hc,hd⟩:=id hit;obtain⟨os,hos,hex,hds⟩:=x.obj;unfold pyNext;refine Zwv (ZAe (wpAny_callSpecial?_slot (name:=ZyN "__next__") hit.typeIs Zcf
  (ZxM Zcf hit.typeIs Zhf ?_ (ZhG _))))
 unfold Builtin.«set_iterator.__next__» slotArgs;refine Zwv (Zwz ?_);dsimp only;refine Zwv (Zz2 ho hd ?_);dsimp only;refine Zwv (ZzW hos hds x.fit ?_);refine Zyz (λq=>absurd q (by simp)) λ_=>?_;simp only[Zzw];refine Zwv (ZiK x hs ?_);rw[he];dsimp only[Option.map_some];refine Zwv (Zzp ho hd (by simp) ?_);have g1:(s.heap.update it (ZA1 (·.setIfInBounds 0 (rawInt ((if w.params.followText "set-order" = true then slot else t.place.getD i 0+1:Nat):Int))))).get? it=some _:=ZxC _ ho (ZzL (Zx2 hd _));refine Zwv (Zzp g1 (Zx2 hd _) (by simp) ?_);refine Zwz ⟨_,rfl,Zwz (hQ _ ⟨_,ZxC _ g1 (ZzL (Zx2 (Zx2 hd _) _)),?_,?_⟩ ((ZxB ..).trans (ZxB ..)))⟩
 ·rw[ZAn,ZAn]; exact hc
 ·rw[Zx2 (Zx2 hd _)]; simp[rawInt]
theorem ZrZ{slot i:Nat}{Q:Option Value->Shared->Prop}(hh:A.handled=none)(hit:Zgb s.heap it a slot i es.size ep)(x:ZdO w s.heap a es ep t)(hs:w.params.followText "set-order" = false->ZwG t.place slot=i)(he:es.size<=i)
  (hQ:∀h',Heap.ExtBut it s.heap h'->Q none { s with heap:=h' }):wpAny (model prog w) A (pyNext (.ref it)) Q E s:=by
 obtain⟨o,ho,hc,hd⟩:=id hit;obtain⟨os,hos,hex,hds⟩:=x.obj;have hn:(Zde w a es ep)[i]?=none:=ZzB (by rw[Zib]; exact he);unfold pyNext;refine Zwv (ZAe (wpAny_callSpecial?_slot (name:=ZyN "__next__") hit.typeIs Zcf
  (ZxM Zcf hit.typeIs Zhf ?_ (ZhG _))))
 unfold Builtin.«set_iterator.__next__» slotArgs;refine Zwv (Zwz ?_);dsimp only;refine Zwv (Zz2 ho hd ?_);dsimp only;refine Zwv (ZzW hos hds x.fit ?_);refine Zyz (λq=>absurd q (by simp)) λ_=>?_;simp only[Zzw];refine Zwv (ZiK x hs ?_);rw[hn];dsimp only[Option.map_none];refine Zwv (Zzp ho hd (by simp) ?_);refine Zwv ?_;simp only[newExc,newTuple];refine Zwv (Zxu ?_ (by size_fits));refine Zwv (m:=Zz3 _ _) (ZAL (a:=Zxw) (by first | rfl | (simp only[Zz3]; rfl)) ?_)
 refine Zxu ?_ (by size_fits);simp only[raiseNew];refine Zwv (wpAny_handled ?_);rw[show A.in1.handled=none from hh];refine Zwv (Zwz (wpAny_throw ?_));refine Zwv (ZAz (T:="StopIteration") (b:=true) ⟨_,ZwO _ rfl,rfl⟩ isSubtype_stop ?_);exact Zwz (hQ _ (((ZxB ..).extBut.push _).push _))
theorem ZrO{slot i n:Nat}{Q:Value->Shared->Prop}(hit:Zgb s.heap it a slot i n ep)(h:Q (.ref it) s):wpAny (model prog w) A (pyIter (.ref it)) Q E s:=by refine ZAm hit.typeIs ZhF (ZxM ZhF hit.typeIs Zlc ?_ (Zl9 _));show wpAny _ _ (ret (.ref it)) _ _ s;exact Zwz ⟨_,rfl,"set_iterator",_,hit.typeIs,Zcf.lookup,h⟩
theorem Zqe(hh:A.handled=none)(I a:Addr)(hne:a≠I)(es:Array (Int × Value))(ep:Nat)(t:SetTable) :
  Walks prog w A I [I,a] [I] es.size (λi v=>∃e,(Zde w a es ep)[i]?=some e/\v=e.2) (λi h=>∃slot,Zgb h I a slot i es.size ep/\ZdO w h a es ep t/\(w.params.followText "set-order" = false->ZwG t.place slot=i)) where
 sub:=λb hb=>by simp at hb; simp[hb]
 frame:=λ_ _ _ ⟨slot,h1,h2,h3⟩ hk=>⟨slot,h1.at' λo e=>hk I (by simp) o e,h2.at' λo e=>hk a (by simp) o e,h3⟩
 item:=λi s Q E hi ⟨slot,h1,h2,h3⟩ hQ=>by
  have hlt:i<(Zde w a es ep).size:=by rw[Zib]; exact hi
  have hx:(Zde w a es ep)[i]?=some (Zde w a es ep)[i]:=ZyH hlt;refine Zry h1 h2 h3 hx λh' hit' hs'=>?_;refine hQ _ h' s.toks ⟨_,hx,rfl⟩ ⟨_,hit',h2.at' λo e=>hs'.extBut a o hne e,λhb=>?_⟩ λb o hb e=>hs'.extBut b o (λh=>hb (by simp[h])) e;rw[hb];exact ZpS h2.tab.rise (by rw[<-h2.siz]; exact hi)
 done:=λs Q E ⟨slot,h1,h2,h3⟩ hQ=>ZrZ hh h1 h2 h3 (ZwH _) λh' he'=>hQ h' s.toks λb o hb e=>he' b o (λh=>hb (by simp[h])) e
 self:=λ_ _ _ _ ⟨slot,h1,_⟩ hQ=>ZrO h1 hQ
end
end HP
namespace HP
open PySem PySem.W PyProof.Rows
section
variable{α β:Type}
def Zce(o:Nat->Nat->Bool)(n:Nat):KasT α->(α->Prop)->Prop
 | .ret a,Q=>Q a
 | .ask i j k,Q=>i<n/\j<n/\Zce o n (k (o i j)) Q
theorem Zce.bnd{o:Nat->Nat->Bool}{n:Nat}{f:α->KasT β}{Q:β->Prop}:∀(t:KasT α),Zce o n t (λa=>Zce o n (f a) Q)->Zce o n (t.bind f) Q
 | .ret a,h=>h
 | .ask i j k,h=>⟨h.1,h.2.1,Zce.bnd (k (o i j)) h.2.2⟩
end
structure Pm(n:Nat)(p:Array Nat):Prop where
 pos:0<n
 perm:p.Perm (List.toArray (ZwE n))
theorem Pm.size{n:Nat}{p:Array Nat}(h:Pm n p):p.size=n:=by have:=h.perm.size_eq;simpa using this
theorem Pm.lt{n:Nat}{p:Array Nat}(h:Pm n p)(i:Nat):p.getD i 0<n:=by
 by_cases hi:i<p.size
 ·have e:p.getD i 0=p[i]:=by simp[Zyu,hi]
  rw[e];have:=(ZAf.mp h.perm).mem_iff (a:=p[i]);have h2:=this.mp (by simp);simpa using h2
 ·have e:p.getD i 0=0:=by simp[Zyu,hi]
  rw[e]; exact h.pos
theorem Pm.rev{n:Nat}{p:Array Nat}(h:Pm n p)(i j:Nat):Pm n (kas_rev p i j):=⟨h.pos,(mirror_perm _ _ _ _).trans h.perm⟩
theorem Pm.bub{n:Nat}{p:Array Nat}(h:Pm n p)(i j:Nat):Pm n (bubble p i j):=⟨h.pos,(bubble_perm _ _ _).trans h.perm⟩
theorem getD_eq?(p:Array Nat)(i:Nat):p.getD i 0=(p[i]?).getD 0:=by simp[Array.getD_eq_getD_getElem?]
section
variable(O:KeyOrd)(key:Nat->O.α)
def Ka(p:Array Nat)(i:Nat):O.α:=key (p.getD i 0)
def Up(p:Array Nat)(k:Nat):Prop:=∀i j,i<=j->j<k->O.kle (Ka O key p i) (Ka O key p j)
def Dn(p:Array Nat)(k:Nat):Prop:=∀i j,i<=j->j<k->O.kle (Ka O key p j) (Ka O key p i)
def Ev(p:Array Nat)(m q:Nat):Prop:=∀i,m-(q+1)<=i->i<m->Ka O key p i=Ka O key p (m-1)
abbrev orc:Nat->Nat->Bool:=λi j=>O.blt (key i) (key j)
variable{O key}{p:Array Nat}{n:Nat}
theorem Zmf{i j:Nat}(hj:j<=p.size)(k:Nat):Ka O key (kas_rev p i j) k=if i<=k/\k<j then Ka O key p (i+j-1-k)else Ka O key p k:=by unfold Ka kas_rev;rw[getD_eq?,getElem?_mirror_all hj];split<;>rw[<-getD_eq?]
theorem ZhK{i j:Nat}(hj:j<=p.size)(h:∀k,i<=k->k<j->Ka O key p k=Ka O key p (j-1))(k:Nat):Ka O key (kas_rev p i j) k=Ka O key p k:=by
 rw[Zmf hj];split
 ·rename_i hk
  rw[h _ (by omega) (by omega),h k hk.1 hk.2]
 ·rfl
theorem Zqa{s d:Nat}(hs:s<p.size)(hd:d<=s)(k:Nat):Ka O key (bubble p s d) k=if k=s-d then Ka O key p s else if s-d<k/\k<=s then Ka O key p (k-1)else Ka O key p k:=by
 unfold Ka;rw[getD_eq?,getElem?_bubble hs d hd]
 by_cases h1:k=s-d
 ·rw[if_pos h1,if_pos h1,<-getD_eq?]
 ·rw[if_neg h1,if_neg h1]
  by_cases h2:s-d<k/\k<=s
  ·rw[if_pos h2,if_pos h2,<-getD_eq?]
  ·rw[if_neg h2,if_neg h2,<-getD_eq?]
theorem Up.one:Up O key p 1:=λi j h1 h2=>by
 obtain rfl:i=j:=by omega
 exact ZyW _
theorem Up.more{k:Nat}(h:Up O key p k)(hl:O.kle (Ka O key p (k-1)) (Ka O key p k)):Up O key p (k+1):=λi j h1 h2=>by
 by_cases hj:j<k
 ·exact h i j h1 hj
 obtain rfl:j=k:=by omega
 by_cases hi:i=j
 ·subst hi; exact ZyW _
 ·exact ZzI (h i (j-1) (by omega) (by omega)) hl
theorem Dn.more{k:Nat}(h:Dn O key p k)(hl:O.kle (Ka O key p k) (Ka O key p (k-1))):Dn O key p (k+1):=λi j h1 h2=>by
 by_cases hj:j<k
 ·exact h i j h1 hj
 obtain rfl:j=k:=by omega
 by_cases hi:i=j
 ·subst hi; exact ZyW _
 ·exact ZzI hl (h i (j-1) (by omega) (by omega))
theorem Dn.same{p':Array Nat}{k:Nat}(h:Dn O key p k)(e:∀i,Ka O key p' i=Ka O key p i):Dn O key p' k:=λi j h1 h2=>by rw[e,e]; exact h i j h1 h2
theorem Zi6(hp:Pm n p){Q:Nat->Prop}:∀(f m:Nat),Up O key p m->(∀m',m<=m'->m'<=m+f->Up O key p m'->(m'=m+f\/O.klt (Ka O key p m') (Ka O key p (m'-1)))->Q m')->Zce (orc O key) n (kas_asc p f m) Q
 | 0,m,hu,hq=>hq m (ZwH _) (by omega) hu (.inl rfl)
 | f+1,m,hu,hq=>by
  refine⟨hp.lt _,hp.lt _,?_⟩;dsimp only;split
  ·rename_i h
   exact hq m (ZwH _) (by omega) hu (.inr h)
  ·rename_i h
   refine Zi6 hp f (m+1) (hu.more (ZyA h)) λm' h1 h2 h3 h4=>hq m' (by omega) (by omega) h3 (h4.imp (λe=>by omega) id)
theorem ZfH{Q:Array Nat × Nat × Nat->Prop}:∀(f:Nat) (p:Array Nat) (m q:Nat),Pm n p->Dn O key p m->q+1<=m->Ev O key p m q->m+f<=n ->
  (∀p' m' q',Pm n p'->m<=m'->m'<=m+f->Dn O key p' m'->q'+1<=m'->Ev O key p' m' q'->Q (p',m',q'))->Zce (orc O key) n (kas_desc f p m q) Q
 | 0,p,m,q,hp,hd,h1,he,hn,hq=>hq p m q hp (ZwH _) (by omega) hd h1 he
 | f+1,p,m,q,hp,hd,h1,he,hn,hq=>by
  have hz:m<=p.size:=by rw[hp.size]; omega
  have e0:∀p',Ev O key p' (m+1) 0:=λp' i h1 h2=>by congr 1; omega
  refine⟨hp.lt _,hp.lt _,?_⟩;dsimp only;split
  ·rename_i h
   have hd':=hd.more (Zzx h);split
   ·exact ZfH f _ (m+1) 0 (hp.rev _ _) (hd'.same (ZhK hz he)) (by omega) (e0 _) (by omega) λp' m' q' a b c d e g=>hq p' m' q' a (by omega) (by omega) d e g
   ·exact ZfH f _ (m+1) 0 hp hd' (by omega) (e0 _) (by omega) λp' m' q' a b c d e g=>hq p' m' q' a (by omega) (by omega) d e g
  ·rename_i h
   refine⟨hp.lt _,hp.lt _,?_⟩;dsimp only;split
   ·exact hq p m q hp (ZwH _) (by omega) hd h1 he
   ·rename_i h'
    have l1:=ZyA h;have l2:=ZyA h';have ee:Ka O key p m=Ka O key p (m-1):=ZA2 l2 l1;refine ZfH f p (m+1) (q+1) hp (hd.more l2) (by omega) (λi a b=>?_) (by omega) λp' m' q' a b c d e g=>hq p' m' q' a (by omega) (by omega) d e g;rw[show m+1-1=m by omega]
    by_cases hi:i=m
    ·rw[hi]
    ·rw[ee]; exact he i (by omega) (by omega)
theorem Zkv{Q:Nat × Array Nat->Prop}{m:Nat}(hp:Pm n p)(hd:Dn O key p m)(h1:1<=m)(hm:m<=n)(hq:∀m' p',1<=m'->m'<=n->Pm n p'->Up O key p' m'->Q (m',p')):Zce (orc O key) n (kas_tail3 m n p) Q:=by
 have hz:m<=p.size:=by rw[hp.size]; omega
 refine Zce.bnd _ (Zi6 (hp.rev 0 m) (n-m) m (λi j a b=>?_) λm' a b c _=>hq m' _ (by omega) (by omega) (hp.rev 0 m) c);rw[Zmf hz,Zmf hz,if_pos (by omega),if_pos (by omega)];exact hd _ _ (by omega) (by omega)
theorem Zkr{Q:Nat × Array Nat->Prop}{m:Nat}(hp:Pm n p)(hd:Dn O key p (m+1))(hm:m+1<=n)(hq:∀m' p',1<=m'->m'<=n->Pm n p'->Up O key p' m'->Q (m',p')):Zce (orc O key) n (kas_descPart m n p) Q:=by
 refine Zce.bnd _ (ZfH (n-(m+1)) p (m+1) 0 hp hd (by omega) (λi a b=>by congr 1; omega) (by omega) λp' m' q' h1 h2 h3 h4 h5 h6=>?_);have hz:m'<=p'.size:=by rw[h1.size]; omega
 dsimp only;split
 ·exact Zkv (h1.rev _ _) (h4.same (ZhK hz h6)) (by omega) (by omega) hq
 ·exact Zkv h1 h4 (by omega) (by omega) hq
theorem Zpm{Q:Nat × Array Nat->Prop}(hp:Pm n p)(hq:∀m' p',1<=m'->m'<=n->Pm n p'->Up O key p' m'->Q (m',p')):Zce (orc O key) n (kas_count n p) Q:=by
 have h0:=hp.pos;refine Zce.bnd _ (Zi6 hp (n-1) 1 Up.one λm h1 h2 h3 h4=>?_);have hz:m<=p.size:=by rw[hp.size]; omega
 split
 ·exact hq m p (by omega) (by omega) hp h3
 ·rename_i hne
  have hne':m≠n:=by simpa using hne
  have hlt:O.klt (Ka O key p m) (Ka O key p (m-1)):=h4.resolve_left (by omega);split
  ·rename_i hm
   refine⟨hp.lt _,hp.lt _,?_⟩;dsimp only;split
   ·exact hq m p (by omega) (by omega) hp h3
   ·rename_i hr
    have hr':O.kle (Ka O key p (m-1)) (Ka O key p 0):=ZyA hr;have all:∀k,0<=k->k<m->Ka O key p k=Ka O key p (m-1):=λk _ hk=>ZA2 (h3 k (m-1) (by omega) (by omega)) (ZzI hr' (h3 0 k (by omega) hk));refine Zkr (hp.rev _ _) (Dn.same ?_ (ZhK hz all)) (by omega) hq;refine Dn.more (λi j a b=>?_) (Zzx hlt);rw[all i (by omega) (by omega),all j (by omega) b]; exact ZyW _
  ·obtain rfl:m=1:=by omega
   refine Zkr hp (Dn.more (λi j a b=>?_) (Zzx hlt)) (by omega) hq;obtain rfl:i=j:=by omega
   exact ZyW _
theorem Zg8{Q:Nat->Prop}{k:Nat}(hp:Pm n p)(hu:Up O key p k):∀(f l r:Nat),l<=r->r<=k->r-l<=f->(∀i,i<l->O.kle (Ka O key p i) (Ka O key p k))->(∀i,r<=i->i<k->O.klt (Ka O key p k) (Ka O key p i)) ->
  (∀l,l<=k->(∀i,i<l->O.kle (Ka O key p i) (Ka O key p k))->(∀i,l<=i->i<k->O.klt (Ka O key p k) (Ka O key p i))->Q l)->Zce (orc O key) n (kas_place p k f l r) Q
 | 0,l,r,h1,h2,h3,lo,hi,hq=>by
  obtain rfl:l=r:=by omega
  exact hq l h2 lo hi
 | f+1,l,r,h1,h2,h3,lo,hi,hq=>by
  unfold kas_place;split
  ·obtain rfl:l=r:=by omega
   exact hq l h2 lo hi
  ·refine⟨hp.lt _,hp.lt _,?_⟩
   dsimp only;split
   ·rename_i h
    exact Zg8 hp hu f l ((l+r) / 2) (by omega) (by omega) (by omega) lo (λi a b=>KeyOrd.klt_of_klt_of_kle h (hu _ _ a b)) hq
   ·rename_i h
    refine Zg8 hp hu f ((l+r) / 2+1) r (by omega) (by omega) (by omega) (λi a=>ZzI (hu i ((l+r) / 2) (by omega) (by omega)) (ZyA h)) hi hq
theorem Zns{Q:Array Nat->Prop}:∀(f:Nat) (p:Array Nat) (k:Nat),Pm n p->Up O key p k->k+f=n->(∀p',Pm n p'->Up O key p' n->Q p')->Zce (orc O key) n (kas_bin f p k) Q
 | 0,p,k,hp,hu,hn,hq=>by
  obtain rfl:k=n:=by omega
  exact hq p hp hu
 | f+1,p,k,hp,hu,hn,hq=>by
  refine Zce.bnd _ (Zg8 hp hu k 0 k (by omega) (ZwH _) (by omega) (λi a=>by omega) (λi a b=>by omega) λl hl lo hi=>?_);refine Zns f _ (k+1) (hp.bub _ _) (λi j a b=>?_) (by omega) hq;have hk:k<p.size:=by rw[hp.size]; omega
  rw[Zqa hk (by omega),Zqa hk (by omega),show k-(k-l)=l by omega]
  repeat' split
  all_goals first
   | (exfalso; omega)
   | exact ZyW _
   | exact lo _ (by omega)
   | exact Zzx (hi _ (by omega) (by omega))
   | exact hu _ _ (by omega) (by omega)
theorem ZqL(hn:0<n){Q:Array Nat->Prop}(hq:∀p,Pm n p->Up O key p n->Q p):Zce (orc O key) n (kas_sort n) Q:=by
 refine Zce.bnd _ (Zpm ⟨hn,.refl _⟩ λm p h1 h2 h3 h4=>?_);dsimp only;rw[show max m 1=m by omega];split
 ·exact Zns _ p m h3 h4 (by omega) hq
 ·exact hq p h3 (by rwa [show n=m by omega])
end
theorem lex_irrefl:∀a:List Int,HM.lexLt a a=false
 | []=>rfl
 | x::a=>by show(if x=x then HM.lexLt a a else decide (x<x))=false;rw[if_pos rfl]; exact lex_irrefl a
theorem Zft(x y:Int)(a b:List Int):HM.lexLt (x::a) (y::b)=if x=y then HM.lexLt a b else decide (x<y):=rfl
theorem lex_trans:∀a b c:List Int,HM.lexLt a b=true->HM.lexLt b c=true->HM.lexLt a c=true
 | [],[],_,h,_=>by cases h
 | [],_::_,[],_,h=>by cases h
 | [],_::_,_::_,_,_=>rfl
 | _::_,[],_,h,_=>by cases h
 | _::_,_::_,[],_,h=>by cases h
 | x::a,y::b,z::c,h1,h2=>by
  rw[Zft]at *;split at h1
  ·rename_i e
   subst e;split at h2
   ·rename_i e; subst e; rw[if_pos rfl]; exact lex_trans a b c h1 h2
   ·rename_i e; rw[if_neg e]; exact h2
  ·split at h2
   ·rename_i e1 e2; subst e2; rw[if_neg e1]; exact h1
   ·rename_i e1 e2
    have h1:=of_decide_eq_true h1;have h2:=of_decide_eq_true h2;rw[if_neg (by omega)]; exact decide_eq_true (by omega)
theorem Zkg:∀a b c:List Int,HM.lexLt a c=true->HM.lexLt a b=true\/HM.lexLt b c=true
 | [],[],_,h=>.inr h
 | [],_::_,_,_=>.inl rfl
 | _::_,_,[],h=>by cases h
 | _::_,[],_::_,_=>.inr rfl
 | x::a,y::b,z::c,h=>by
  rw[Zft]at *;rw[Zft];split at h
  ·rename_i e
   subst e
   by_cases e:x=y
   ·subst e; rw[if_pos rfl,if_pos rfl]; exact Zkg a b c h
   ·rw[if_neg e,if_neg (Zxv e)]
    by_cases q:x<y
    ·exact .inl (decide_eq_true q)
    ·exact .inr (decide_eq_true (by omega))
  ·rename_i e
   have h:=of_decide_eq_true h
   by_cases e1:x=y
   ·subst e1; rw[if_neg e]; exact .inr (decide_eq_true h)
   ·rw[if_neg e1]
    by_cases q:x<y
    ·exact .inl (decide_eq_true q)
    ·rw[if_neg (by omega)]; exact .inr (decide_eq_true (by omega))
theorem Zh2:∀a b:List Int,HM.lexLt a b=false->HM.lexLt b a=false->a=b
 | [],[],_,_=>rfl
 | [],_::_,h,_=>by cases h
 | _::_,[],_,h=>by cases h
 | x::a,y::b,h1,h2=>by
  rw[Zft]at h1 h2
  by_cases e:x=y
  ·subst e
   rw[if_pos rfl]at h1 h2;rw[Zh2 a b h1 h2]
  ·rw[if_neg e]at h1
   rw[if_neg (Zxv e)]at h2;have h1:=of_decide_eq_false h1;have h2:=of_decide_eq_false h2;omega
@[reducible] def Znd:KeyOrd where
 α:=List Int
 blt:=HM.lexLt
 irrefl:=lex_irrefl
 trans:=lex_trans
 negTrans:=Zkg
 total:=Zh2
theorem Zhb{α:Type}{R:α->α->Prop}(anti:∀a b,R a b->R b a->a=b):∀{l m:List α},l.Perm m->l.Pairwise R->m.Pairwise R->l=m
 | [],m,hp,_,_=>(List.nil_perm.mp hp).symm
 | x::l,[],hp,_,_=>absurd hp.symm (by intro q; exact List.cons_ne_nil _ _ (List.nil_perm.mp q))
 | x::l,y::m,hp,hl,hm=>by
  obtain⟨l1,l2⟩:=Zxf.mp hl;obtain⟨m1,m2⟩:=Zxf.mp hm;have e:x=y:=by
   rcases ZwT.mp (hp.mem_iff.mp (ZwA ..))with e | e
   ·exact e
   ·rcases ZwT.mp (hp.mem_iff.mpr (ZwA ..))with e' | e'
    ·exact e'.symm
    ·exact anti x y (l1 y e') (m1 x e)
  subst e;rw[Zhb anti ((List.perm_cons x).mp hp) l2 m2]
def TI(h:Heap)(b:Addr)(t:List Int):Prop:=∃o its n,h.get? b=some o/\o.cls=.type "tuple"/\o.data=.seq its n/\IntsAre its.toList t
theorem TI.keep{h h':Heap}{b:Addr}{t:List Int}(x:TI h b t)(k:∀o,h.get? b=some o->h'.get? b=some o):TI h' b t:=let ⟨o,its,n,e,r⟩:=x; ⟨o,its,n,k o e,r⟩
section
variable{prog:Program}{w:World}{A:Around}{E:Value->Shared->Prop}{s:Shared}
theorem Zp6{fin:Bool}{Q:Bool->Shared->Prop}:∀{vs ws:List Value} {a b:List Int} (i:Nat),IntsAre vs a->IntsAre ws b->fin=decide (vs.length<ws.length)->Q (HM.lexLt a b) s->KatLex prog w A true fin Q (vs.zip ws) i s
 | _,_,_,_,i,.nil,.nil,e,q=>by subst e; exact kat_nil q
 | _,_,_,_,i,.nil,.cons _ _ _,e,q=>by subst e; exact kat_nil q
 | _,_,_,_,i,.cons _ _ _,.nil,e,q=>by subst e; exact kat_nil q
 | _,_,_,_,i,.cons x t hv,.cons y u hw,e,q=>by
  rw[List.zip_cons_cons];refine kat_cons (wpAny_eqBool_int ?_);rw[Zft]at q
  by_cases h:x=y
  ·rw[if_pos h]at q
   rw[show(x==y)=true by simpa using h];refine kat_yes (Zp6 (i+1) hv hw ?_ q);rw[e,ZwM,ZwM];exact decide_eq_decide.mpr (by omega)
  ·rw[if_neg h]at q
   rw[show(x==y)=false by simpa using h];refine kat_no ?_
   by_cases hi:i=0
   ·rw[show(true&&i==0)=true by simpa using hi]
    exact oneLt_int q
   ·rw[show(true&&i==0)=false by simpa using hi]
    exact kat_one _ _ (PyProof.Rows.lt_int q)
theorem ZuE{x y:Addr}{a b:List Int}{Q:Bool->Shared->Prop}(hx:TI s.heap x a)(hy:TI s.heap y b)(h:Q (HM.lexLt a b) s):wpAny (model prog w) A (keyLt' (tuples' true) (.ref x) (.ref y)) Q E s:=by obtain⟨ox,ix,n,e1,_,d1,r1⟩:=hx;obtain⟨oy,iy,k,e2,_,d2,r2⟩:=hy;refine kat_lt e1 d1 e2 d2 (Zp6 0 r1 r2 ?_ h);rw[ZwY,ZwY]
theorem Zom{α:Type}{cmp:Nat->Nat->(Bool->Shared->Prop)->Shared->Prop}{o:Nat->Nat->Bool}{n:Nat}(hc:∀i j C,i<n->j<n->C (o i j) s->cmp i j C s){G:α->Shared->Prop}:∀(t:KasT α),Zce o n t (λa=>G a s)->t.kasWp cmp G s
 | .ret a,h=>h
 | .ask i j k,h=>hc i j _ h.1 h.2.1 (Zom hc (k (o i j)) h.2.2)
theorem Zsj{a:Addr}{vs:List Value}{ts:List (List Int)}{n:Nat}{P:PySem.Fin->Shared->Prop}(ho:s.heap.get? a=some (seqObj "list" vs.toArray n))(hl:ts.length=vs.length)
  (hT:∀(i:Nat) t,ts[i]?=some t->∃b,vs[i]?=some (.ref b)/\TI s.heap b t) (hne:vs.length<2\/∀t∈ts,t≠[]) (h64:vs.length<64)
  (h:∀p:List Nat,p.Perm (ZwE vs.length)->(p.map λi=>ts.getD i []).Pairwise (λx y=>HM.lexLt y x=false)->P (.done (.ret .none)) { s with heap:=sortedHeap s.heap a vs (p.map λi=>vs.getD i Zxw).toArray }) :
  wpAny (model prog w) A (Builtin.«list.sort» ⟨[.ref a],[]⟩) P E s:=by
 rw[list_sort_plain];have ha:a<s.heap.objs.size:=ZwL ho;refine Zwv (listItems_at ho rfl (Zwv (listUpdate_at ho rfl ?_ (by rw[ZwP,ZxO]; omega) (ZxR _))));obtain⟨e1,ho1⟩:∃e1,(s.heap.update a (Zzk λ_=>#[])).get? a=some (seqObj "list" #[] e1):=⟨_,get?_update_seq ho (λ_=>#[])⟩;refine Zwv (seqEpoch_at ho1 rfl ?_);refine Zwv (wpAny_newTuple ?_ (by show vs.length<=_; rw[ZxO]; omega));refine Zwv (wpAny_newList ?_ (ZxR _));refine ZxD ?_;generalize hG:((s.heap.update a (Zzk λ_=>#[])).push (seqObj "tuple" vs.toArray 0)).push (seqObj "list" #[] 0)=g;have ho6:g.get? a=some (seqObj "list" #[] e1):=by rw[<-hG,Zzy _ _ _ (by rw[size_push',ZzJ]; exact ZwS (Zy0 ha)),Zzy _ _ _ (by rw[ZzJ]; exact ZwS ha)];exact ho1
 have hold:∀b o,b≠a->s.heap.get? b=some o->g.get? b=some o:=λb o hb e=>by have hlt:=ZwL e;rw[<-hG,Zzy _ _ _ (by rw[size_push',ZzJ]; exact ZwS (Zy0 hlt)),Zzy _ _ _ (by rw[ZzJ]; exact ZwS hlt),Heap.get?_update_ne _ _ _ _ hb];exact e
 have hT6:∀(i:Nat) t,ts[i]?=some t->∃b,vs[i]?=some (.ref b)/\TI g b t:=λi t e=>by
  obtain⟨b,e1,x⟩:=hT i t e;refine⟨b,e1,x.keep λo q=>hold b o ?_ q⟩
  rintro rfl
  obtain⟨o',_,_,q1,q2,_⟩:=x;rw[ho]at q1;cases q1;injection q2 with q2
  exact absurd q2 (by decide)
 show wpAny (model prog w) A _ P E { s with heap:=g };dsimp only;have fin:∀(st':SortSt) (p:List Nat),p.Perm (ZwE vs.length)->(p.map λi=>ts.getD i []).Pairwise (λx y=>HM.lexLt y x=false)->(arrOf st').map (·.2)=(p.map λi=>vs.getD i Zxw).toArray->failedOf st'=none ->
   wpAny (model prog w) A (do
    let touched:=(<-seqEpoch a) != e1
    Builtin.List.listUpdate (.ref a) λ_=>(arrOf st').map (·.2)
    if let some e:=failedOf st' then rule "list.sort.comparison-raised"; throw e
    if touched then rule "list.sort.modified"; raiseError "ValueError" "list modified during sort"
    ret .none) P E { s with heap:=g }:=by
  intro st' p hp hs har hf;refine Zwv (seqEpoch_at ho6 rfl ?_);rw[har];refine Zwv (listUpdate_at ho6 rfl ?_ (ZxR _) (by show(p.map λi=>vs.getD i Zxw).toArray.size<=_; rw[ZwP,Zwy,hp.length_eq,Zyo,ZxO]; omega));rw[hf];simp only[bne_self_eq_false,Zyg,if_false];refine Zwz ?_;have:=h p hp hs;unfold sortedHeap at this;rw[hG]at this;exact this
 by_cases h2:vs.toArray.size<2
 ·rw[if_pos h2,if_pos h2]
  refine Zwv (Zwz ?_);rw[StateT.run_pure];refine Zwv (Zwz ?_);refine fin (SortSt.mk' general' (vs.toArray.zip vs.toArray) #[] 7 none) (ZwE vs.length) (.refl _) ?_ ?_ rfl
  ·rw[ZwP]at h2
   have:vs.length=0\/vs.length=1:=by omega
   rcases this with e | e<;>rw[e]<;>simp
  ·rw[ZwP]at h2
   show Array.map (·.2) (vs.toArray.zip vs.toArray)=_
   match vs,h2 with
   | [],_=>simp
   | [v],_=>simp
 ·rw[if_neg h2,if_neg h2]
  rw[ZwP]at h2;have hne':∀t∈ts,t≠[]:=hne.resolve_left h2;have tups:∀(vs:List Value) (ts:List (List Int)),ts.length=vs.length->(∀(i:Nat) t,ts[i]?=some t->∃b,vs[i]?=some (.ref b)/\TI g b t)->(∀t∈ts,t≠[])->∃fs,KatTups g vs fs/\fs.length=vs.length/\∀v∈fs,∃x t,v=Zye x t:=by
   intro vs
   induction vs with
   | nil=>intro ts hl _ _; exact⟨[],KatTups.nil,rfl,by simp⟩
   | cons v vs ih =>
    intro ts hl hT hn;cases ts with
    | nil=>simp at hl
    | cons t ts =>
     obtain⟨fs,f1,f2,f3⟩:=ih ts (by simpa using hl) (λi t e=>hT (i+1) t (by simpa using e)) λx hx=>hn x (ZwC _ hx);obtain⟨b,eb,o,its,m,g1,g2,g3,g4⟩:=hT 0 t rfl;simp at eb;subst eb;cases t with
     | nil=>exact absurd rfl (hn [] (ZwA ..))
     | cons x t =>
      cases hi:its.toList with
      | nil=>rw[hi]at g4; cases g4
      | cons y ys =>
       rw[hi]at g4;cases g4 with
       | cons _ u _ =>
        refine⟨.int x u::fs,KatTups.cons g1 g2 g3 ?_ f1,by simp[f2],λv hv=>?_⟩
        ·rw[<-Zxj,hi]; rfl
        ·rcases ZwT.mp hv with e | e
         ·exact⟨x,u,e⟩
         ·exact f3 v e
  obtain⟨fs,f1,f2,f3⟩:=tups vs ts hl hT6 hne';refine Zwv (kat_kind (s:={ s with heap:=g }) (T:=.type "int") f1 (by omega) (λv hv=>?_) (by rfl) ?_)
  ·obtain⟨x,t,rfl⟩:=f3 v hv
   exact Looks.of_pure rfl
  rw[show(Zzj "int" != Zzj "tuple")=true by decide];refine Zwv (ZxG (kat_run (ks:=vs) (Q:=λst' s'=>s'={ s with heap:=g }/\∃p:Array Nat,Pm vs.length p/\Up Znd (λi=>ts.getD i []) p vs.length/\arrOf st'=p.map (kas_item (vs.toArray.zip vs.toArray))/\failedOf st'=none)
   (G:=λp s'=>s'={ s with heap:=g }/\Pm vs.length p/\Up Znd (λi=>ts.getD i []) p vs.length) rfl (by omega) h64 (λp' st' s' a1 a2 a3 a4=>⟨a4.1,p',a4.2.1,a4.2.2,a2,a3⟩) ?_) ?_ λ_ _ e=>e)
  ·refine Zom (o:=orc Znd λi=>ts.getD i []) (n:=vs.length) (λi j C hi hj hC=>?_) _ (ZqL (by omega) λp h1 h2=>⟨rfl,h1,h2⟩)
   have gi:ts[i]?=some (ts.getD i []):=by simp[show i<ts.length by omega]
   have gj:ts[j]?=some (ts.getD j []):=by simp[show j<ts.length by omega]
   obtain⟨b1,v1,x1⟩:=hT6 i _ gi;obtain⟨b2,v2,x2⟩:=hT6 j _ gj;show wpAny (model prog w) A (keyLt' _ (vs.getD i Zxw) (vs.getD j Zxw)) C _ _;rw[show vs.getD i Zxw=.ref b1 by simp[ZxW,v1],show vs.getD j Zxw=.ref b2 by simp[ZxW,v2]];exact ZuE x1 x2 hC
  ·rintro ⟨⟨⟩,st'⟩ s' ⟨rfl,p,hp,hu,har,hf⟩
   refine fin st' p.toList ?_ ?_ (kat_snds rfl har) hf
   ·have:=ZAf.mp hp.perm
    simpa using this
   ·rw[List.pairwise_map,ZAr]
    intro i j hi hj hij;have hsz:=hp.size;have q:=hu i j (Zyi hij) (by rw[ZwY]at hj; omega);unfold Ka at q;rw[show p.getD i 0=p.toList[i] by simp[Zyu,show i<p.size by simpa using hi],show p.getD j 0=p.toList[j] by simp[Zyu,show j<p.size by simpa using hj]]at q;exact q
end
def ZdS(h:Heap)(d:Addr)(es:Array DictEntry)(ep:Nat):Prop:=∃o,h.get? d=some o/\o.ExactDict/\o.data=.dict es ep
theorem ZdS.at'{h h':Heap}{d:Addr}{es:Array DictEntry}{ep:Nat}(x:ZdS h d es ep)(e:∀o,h.get? d=some o->h'.get? d=some o):ZdS h' d es ep:=let ⟨o,ho,r⟩:=x; ⟨o,e _ ho,r⟩
theorem ZdS.typeIs{s:Shared}{d:Addr}{es:Array DictEntry}{ep:Nat}(x:ZdS s.heap d es ep):s.TypeIs (.ref d) "dict":=let ⟨o,ho,hc,_⟩:=x; ⟨o,ho,hc.1⟩
theorem ZdS.lt{h:Heap}{d:Addr}{es:Array DictEntry}{ep:Nat}(x:ZdS h d es ep):d<h.objs.size:=let ⟨o,ho,_⟩:=x; ZwL ho
section
variable{prog:Program}{w:World}{A:Around}{E:Value->Shared->Prop}{s:Shared}{it d:Addr}{es:Array DictEntry}{ep i:Nat}
theorem Znj{Q:Value->Shared->Prop}(hd:(d==ZxY)=false)(hm:ZdS s.heap d es ep)
  (hQ:Q (.ref s.heap.objs.size) { s with heap:=s.heap.push { cls:=.type "dict_keyiterator",data:=.fields #[.ref d,.int 0 0,.int es.size 0,.int ep 0] } }) :
  wpAny (model prog w) A (pyIter (.ref d)) Q E s:=by
 obtain⟨o,ho,hc,hdat⟩:=id hm;have hT:=hm.typeIs;refine ZAm hT F.slot_dict_iter (ZxM F.slot_dict_iter hT F.entry_dict_iter ?_ (F.args_dict_iter_1 _));unfold Builtin.«dict.__iter__»;refine Zwv ?_;unfold Builtin.Dict.dictSlotNone;refine Zwv (wpAny_notOrdered_dict hT ?_);show wpAny _ _ (pure (Zxr d)) _ _ s;refine Zwz ?_;show wpAny _ _ (ZAT d >>= _) _ _ s;unfold ZAT;rw[if_neg (by rw[hd]; exact Zw9)];refine Zwv (Zwz (Zwv (Zzt ho hdat (Zwv (ZAF ho hdat ?_)))));refine Zwv (Zxu (Zwz ⟨_,rfl,"dict_keyiterator",_,⟨_,ZwO _ rfl,rfl⟩,F.slot_dict_keyiterator_next.lookup,?_⟩));simpa [rawInt]using hQ
theorem Znm{e:DictEntry}{Q:Option Value->Shared->Prop}(hit:s.heap.IsKeyIter it d i es.size ep)(hm:ZdS s.heap d es ep)(hx:es[i]?=some e)
  (hQ:∀h',h'.IsKeyIter it d (i+1) es.size ep->Zyj it s.heap h'->Q (some e.key) { s with heap:=h' }) :
  wpAny (model prog w) A (pyNext (.ref it)) Q E s:=by
 obtain⟨o,ho,hc,hd⟩:=id hit;obtain⟨od,hod,hcd,hdd⟩:=id hm;unfold pyNext;refine Zwv (ZAe (wpAny_callSpecial?_slot (name:=ZyN "__next__") hit.typeIs F.slot_dict_keyiterator_next
  (ZxM F.slot_dict_keyiterator_next hit.typeIs F.entry_dict_keyiterator_next ?_ (F.args_dict_keyiterator_next_1 _))))
 refine Zwv (Zwz (Zwv (Zwv ?_)))
 first | refine Zwv (Zyp hit.typeIs (Zwz ?_)) | refine Zwv (ZyO hit.typeIs (Zwz ?_))
 refine Zwv (Zz2 ho hd ?_);have hown:Zz4 "dict_keyiterator" = false:=by decide
 simp only[hown,Zyg,if_false];show wpAny _ _ (if(Zxr d==Zxw)=true then _ else _) _ _ s;rw[if_neg (show ¬((Zxr d==Zxw)=true) from Zw9)];refine Zwv (Zwz (Zwv (Zzt hod hdd ?_)));rw[if_neg (by simp)];refine Zwv (Zwz (Zwv (ZAF hod hdd ?_)));rw[if_neg (by simp)];refine Zwz ?_;obtain⟨hlt,he⟩:=Array.getElem?_eq_some_iff.mp hx;simp only[show ¬((i:Int)<0) from by omega,if_false,Zzw,ZyH hlt];refine Zwv ?_
 first | refine Zwv (Zyp hit.typeIs (Zwz ?_)) | refine Zwv (ZyO hit.typeIs (Zwz ?_))
 refine Zwv (wpAny_isOneOf_keyiter hit.typeIs ?_);show wpAny _ _ (setField (.ref it) 1 (rawInt ((i:Int)+1)) >>= _) _ _ s;refine Zwv (Zzp ho hd (by simp) ?_);have hit':(s.heap.update it (ZA1 (·.setIfInBounds 1 (rawInt ((i:Int)+1))))).IsKeyIter it d (i+1) es.size ep :=
  ⟨_,ZxC _ ho (ZzL (Zx2 hd _)),(ZAn ..).trans hc,by rw[Zx2 hd]; simp[rawInt]⟩
 refine Zwv (ZxD ?_);refine Zwv (wpAny_isOneOf_keyiter (s:={ s with heap:=s.heap.update it (ZA1 (·.setIfInBounds 1 (rawInt ((i:Int)+1)))) }) hit'.typeIs ?_);show wpAny _ _ (pure es[i].key) _ _ _;refine Zwz (Zwz ⟨_,rfl,Zwz ?_⟩);rw[he];exact hQ _ hit' (ZxB ..)
theorem Zoy{Q:Option Value->Shared->Prop}(hh:A.handled=none)(hit:s.heap.IsKeyIter it d i es.size ep)(hm:ZdS s.heap d es ep)(hx:es.size<=i)
  (hQ:∀h',Heap.ExtBut it s.heap h'->Q none { s with heap:=h' }):wpAny (model prog w) A (pyNext (.ref it)) Q E s:=by
 obtain⟨o,ho,hc,hd⟩:=id hit;obtain⟨od,hod,hcd,hdd⟩:=id hm;unfold pyNext;refine Zwv (ZAe (wpAny_callSpecial?_slot (name:=ZyN "__next__") hit.typeIs F.slot_dict_keyiterator_next
  (ZxM F.slot_dict_keyiterator_next hit.typeIs F.entry_dict_keyiterator_next ?_ (F.args_dict_keyiterator_next_1 _))))
 refine Zwv (Zwz (Zwv (Zwv ?_)))
 first | refine Zwv (Zyp hit.typeIs (Zwz ?_)) | refine Zwv (ZyO hit.typeIs (Zwz ?_))
 refine Zwv (Zz2 ho hd ?_);have hown:Zz4 "dict_keyiterator" = false:=by decide
 simp only[hown,Zyg,if_false];show wpAny _ _ (if(Zxr d==Zxw)=true then _ else _) _ _ s;rw[if_neg (show ¬((Zxr d==Zxw)=true) from Zw9)];refine Zwv (Zwz (Zwv (Zzt hod hdd ?_)));rw[if_neg (by simp)];refine Zwv (Zwz (Zwv (ZAF hod hdd ?_)));rw[if_neg (by simp)];refine Zwz ?_;simp only[show ¬((i:Int)<0) from by omega,if_false,Zzw,ZzB hx];refine Zwv ?_
 first | refine Zwv (Zyp hit.typeIs (Zwz ?_)) | refine Zwv (ZyO hit.typeIs (Zwz ?_))
 show wpAny _ _ (setField (.ref it) 0 .none >>= _) _ _ s;refine Zwv (Zzp ho hd (by simp) ?_);show wpAny _ _ (newExc (.type "StopIteration") [] >>= _) _ _ _;refine Zwv ?_;simp only[newExc,newTuple];refine Zwv (Zxu ?_ (by size_fits));refine Zwv (m:=Zz3 _ _) (ZAL (a:=Zxw) (by first | rfl | (simp only[Zz3]; rfl)) ?_)
 refine Zxu ?_ (by size_fits);simp only[raiseNew];refine Zwv (wpAny_handled ?_);rw[show A.in1.handled=none from hh];refine Zwv (Zwz (wpAny_throw ?_));refine Zwv (ZAz (T:="StopIteration") (b:=true) ⟨_,ZwO _ rfl,rfl⟩ isSubtype_stop ?_);exact Zwz (hQ _ (((ZxB ..).extBut.push _).push _))
theorem Zq2(hh:A.handled=none)(I d:Addr)(hne:d≠I)(es:Array DictEntry)(ep:Nat) :
  Walks prog w A I [I,d] [I] es.size (λi v=>∃e,es[i]?=some e/\v=e.key) (λi h=>h.IsKeyIter I d i es.size ep/\ZdS h d es ep) where
 sub:=λb hb=>by simp at hb; simp[hb]
 frame:=λ_ _ _ st hk=>⟨st.1.at λo e=>hk I (by simp) o e,st.2.at' λo e=>hk d (by simp) o e⟩
 item:=λi s Q E hi st hQ=>by have hx:es[i]?=some es[i]:=ZyH hi;refine Znm st.1 st.2 hx λh' hit' hs'=>?_;exact hQ _ h' s.toks ⟨_,hx,rfl⟩ ⟨hit',st.2.at' λo e=>hs'.extBut d o hne e⟩ λb o hb e=>hs'.extBut b o (λh=>hb (by simp[h])) e
 done:=λs Q E st hQ=>Zoy hh st.1 st.2 (ZwH _) λh' he'=>hQ h' s.toks λb o hb e=>he' b o (λh=>hb (by simp[h])) e
 self:=λ_ _ _ _ st hQ=>wpAny_pyIter_keyiter st.1 hQ
end
end HP
namespace HP
open PySem PySem.Spec PySem.W PySem.Calls PyProof.Rows L2
variable[FX]
section
variable{prog:Program}{w:World}{A:Around}{E:Value->Shared->Prop}{s:Shared}
theorem ZrS{r:Addr}{Q:Bool->Shared->Prop}(hT:s.TypeIs (.ref r) "set")(h:Q false s):wpAny (model prog w) A (Zz8 (.ref r)) Q E s:=by
 unfold Zz8;refine Zwv (wpAny_specialOf hT PySem.F.slot_set_len.lookup ?_);generalize hid:("set.__len__":String)=id0
 wp_delta
 rw[show splitId id0=some ("set","__len__") from by subst hid; decide +kernel];subst hid;refine Zwv (ZAz (T:="set") (b:=true) hT (by rw[isSubtype_type]; kernel_rfl) ?_);refine Zyz (λq=>absurd q (by decide)) λ_=>?_;refine Zyz (λ_=>?_) (λq=>absurd (by decide +kernel) q);exact Zwv (wpAny_typeOf hT (Zwz h))
theorem ZsP{d:Addr}{es:Array DictEntry}{ep:Nat}(lo:(d==ZxY)=false):KdlSrc prog w "dict" d d es.size (λi v=>∃e,es[i]?=some e/\v=e.key) (λh=>ZdS h d es ep) where
 type:=λ_ hm=>hm.typeIs
 there:=λ_ hm=>⟨hm.lt,hm.lt⟩
 keep:=λ_ _ hm hk=>hm.at' λo e=>hk d (.inl rfl) o e
 notList:=by decide
 notTuple:=by decide
 hint:=λ_ _ _ _ hm hq=>kdl_hint_dict hm.typeIs hq
 iter:=λ_ _ hh hm=>⟨_,_,(λ_ _ hq=>Znj lo hm hq),Zq2 hh _ d (ZwS hm.lt) es ep,⟨⟨_,ZwO _ rfl,rfl,rfl⟩,hm.at' λo e=>ZwB _ e⟩⟩
theorem ZdO.typeIs{a:Addr}{es:Array (Int × Value)}{ep:Nat}{t:SetTable}(x:ZdO w s.heap a es ep t):s.TypeIs (.ref a) "set":=let ⟨o,ho,hc,_⟩:=x.obj; ⟨o,ho,hc.1⟩
theorem ZdO.lt{h:Heap}{a:Addr}{es:Array (Int × Value)}{ep:Nat}{t:SetTable}(x:ZdO w h a es ep t):a<h.objs.size:=let ⟨o,ho,_⟩:=x.obj; ZwL ho
theorem ZsS{a:Addr}{es:Array (Int × Value)}{ep:Nat}{t:SetTable}:KdlSrc prog w "set" a a es.size (λi v=>∃e,(Zde w a es ep)[i]?=some e/\v=e.2) (λh=>ZdO w h a es ep t) where
 type:=λ_ hm=>hm.typeIs
 there:=λ_ hm=>⟨hm.lt,hm.lt⟩
 keep:=λ_ _ hm hk=>hm.at' λo e=>hk a (.inl rfl) o e
 notList:=by decide
 notTuple:=by decide
 hint:=λ_ _ _ _ hm hq=>ZrS hm.typeIs hq
 iter:=λ_ _ hh hm=>⟨_,_,(λ_ _ hq=>Zrk hm hq),Zqe hh _ a (ZwS hm.lt) es ep t,⟨0,⟨_,ZwO _ rfl,rfl,rfl⟩,hm.at' λo e=>ZwB _ e,λ_=>Zpr hm.tab.rise⟩⟩
theorem Zga{T:String}{r d:Addr}{n:Nat}{P:Nat->Value->Prop}{OK:Heap->Prop}{R:List Value->Shared->Prop}(K:KdlSrc prog w T r d n P OK)(hh:A.handled=none)(hok:OK s.heap)(hn:n<=sizeLine)
  (h:∀(h':Heap) (tk:Nat) (acc:Array Value),(∀b o,s.heap.get? b=some o->h'.get? b=some o)->s.heap.objs.size<h'.objs.size->ItemsOf P acc n->R acc.toList { s with heap:=h',toks:=tk }) :
  wpAny (model prog w) A (collect (.ref r)) R E s:=by
 have hlt:=K.there _ hok;unfold collect;refine Zwv (wpAny_runValue (ZxJ entry_proto_collect' ?_));rw[Zxz Zz9 _];show wpAny _ A.in1 (newList [] >>= λl=>again (.builtin "list.__iadd__" ⟨[l,.ref r],[]⟩)) _ _ s;refine Zwv (Zxu (Zwz ⟨ZyE ZyT _,ZxJ entry_list_iadd' ?_⟩));rw[Zxz ZyT _];have hS₁:(s.heap.push { cls:=.type "list",data:=.seq ([]:List Value).toArray }).get? s.heap.objs.size=some { cls:=.type "list",data:=.seq #[] }:=ZwO _ rfl;show wpAny _ A.in1 (ZAa (.ref s.heap.objs.size) (.ref r) (.ref s.heap.objs.size)) _ _ _;refine ZxG (kdl_extend (A:=A) (s:={ s with heap:=s.heap.push { cls:=.type "list",data:=.seq ([]:List Value).toArray } })
  (R:=λ(q:Result) (s':Shared)=>∃(h':Heap) (tk:Nat) (acc':Array Value) (c':Nat),q=.ok (.ret (.ref s.heap.objs.size))/\s'={ s with heap:=h',toks:=tk } /\
   (∀b o,s.heap.get? b=some o->h'.get? b=some o)/\h'.get? s.heap.objs.size=some { cls:=.type "list",dict:=none,data:=.seq acc' c',slots:=#[] }/\ItemsOf P acc' n)
  K hh (K.keep _ _ hok λb _ o e=>ZwB _ e) s.heap.objs.size (Zze hlt.1) (Zze hlt.2) (.ref s.heap.objs.size) 0 hS₁
  (λh' tk acc' c' hk hS' hacc=>⟨h',tk,acc',c',rfl,rfl,λb o e=>hk b o (ZwS (ZwL e)) (ZwB _ e),hS',hacc⟩) hn) (λfin s' x=>?_) λe s' x=>?_
 ·have go:∀(h':Heap) (tk:Nat) (acc':Array Value) (c':Nat),(∀b o,s.heap.get? b=some o->h'.get? b=some o)->h'.get? s.heap.objs.size=some { cls:=.type "list",dict:=none,data:=.seq acc' c',slots:=#[] }->ItemsOf P acc' n ->
    wpAny (model prog w) A (load s.heap.objs.size >>= λo=>match o.data with | .seq xs _=>pure xs.toList | _=>unsupported "internal:collect") R E { s with heap:=h',toks:=tk }:=λh' tk acc' c' hk hS' hacc =>
   Zwv (wpAny_load hS' (Zwz (h h' tk acc' hk (ZwL hS') hacc)))
  cases fin with
  | done f=>obtain⟨h',tk,acc',c',e,rfl,hk,hS',hacc⟩:=x;cases e;exact go h' tk acc' c' hk hS' hacc
  | again c₁=>refine⟨x.1,Zyv x.2 λq s₂ y=>?_⟩;obtain⟨h',tk,acc',c',rfl,rfl,hk,hS',hacc⟩:=y;exact go h' tk acc' c' hk hS' hacc
 ·obtain⟨_,_,_,_,e',_⟩:=x
  cases e'
end
inductive ZhI(K:Zww)(F H:Hp)(p:Addr):List PyData->Prop where
 | lst {ds:List PyData} {vs:List V} (h:SqL K H p vs) (r:Zq K F ds vs):ZhI K F H p ds
 | tup {ds:List PyData} {vs:List V} (h:SqT K H p vs) (r:Zq K F ds vs):ZhI K F H p ds
 | dk {kvs:List (Key × V)} (h:H p=some (.dK kvs)):ZhI K F H p (kvs.map λq=>HM.Zaj q.1)
 | dt {kvs:List (List Key × V)} (h:H p=some (.dT kvs)):ZhI K F H p (kvs.map λq=>.tuple (q.1.map HM.Zaj))
theorem Ztb{K:Zww}{F:Hp}(k:Key):Rep K F (HM.Zaj k) (kV k):=by
 cases k with
 | inl i=>exact .int i
 | inr x=>exact .str x
theorem ZfF{K:Zww}{F:Hp}:∀(ks:List Key),Zq K F (ks.map HM.Zaj) (ks.map kV)
 | []=>.nil
 | k::ks=>.cons (Ztb k) (ZfF ks)
theorem Ztt{P:Program}{w:World}{k:Key}{u:Value}(h:(Zak P w).is k u=true):RelV (kV k) u:=by
 rw[Zpt]at h;rcases ZaV h with⟨i,t,rfl,rfl⟩ | ⟨x,t,rfl,rfl⟩
 ·exact⟨t,rfl⟩
 ·exact⟨t,rfl⟩
section
variable{X:Cx}{pins:List (Addr × Obj)}{σ:L2.St}{H F:Hp}{s:Shared}{p:Addr}{ds:List PyData}
theorem Zgu:∀{vs:List V} {us:List Value},vs.length=us.length->(∀(i:Nat) v u,vs[i]?=some v->us[i]?=some u->RelV v u)->Vals vs us
 | [],[],_,_=>.nil
 | [],_::_,h,_=>by simp at h
 | _::_,[],h,_=>by simp at h
 | v::vs,u::us,h,k=>.cons (k 0 v u rfl rfl) (Zgu (by simpa using h) λi a b e1 e2=>k (i+1) a b (by simpa using e1) (by simpa using e2))
theorem ZhI.gath(I:Inv X pins σ H s)(sub:Zo F H)(h:ZhI X.K F H p ds):∃vs,Zq X.K (Zca F H) ds vs/\∀(A:Around) (E:Value->Shared->Prop) (R:List Value->Shared->Prop),A.handled=none ->
  (∀us h' tk,Vals vs us->(∀b o,s.heap.get? b=some o->h'.get? b=some o)->R us { s with heap:=h',toks:=tk })->wpAny (model X.prog X.w) A (collect (.ref p)) R E s:=by
 cases h with
 | @lst _ vs h r=>obtain⟨its,rv,pl,hz⟩:=I.list h;obtain⟨o,ho,hcl,n,hd⟩:=pl.isList;refine⟨vs,r.mono (Zcy sub),λA E R _ k=>wpAny_collect_seq p (.inl rfl) ho hcl hd (λh' kp=>?_) (by rw[ZwP,<-rv.length]; exact hz)⟩;exact k its h' s.toks rv kp
 | @tup _ vs h r=>obtain⟨its,rv,pl,hz⟩:=I.tuple h;obtain⟨o,ho,hcl,n,hd⟩:=pl;refine⟨vs,r.mono (Zcy sub),λA E R _ k=>wpAny_collect_seq p (.inr rfl) ho hcl hd (λh' kp=>?_) (by rw[ZwP,<-rv.length]; exact hz)⟩;exact k its h' s.toks rv kp
 | @dk kvs h =>
  obtain⟨z,lo,vs,rel,dd⟩:=ZpE I.hok h;obtain⟨ep,hat⟩:=dd.dictAt;have hl:kvs.length=vs.length:=ZyU rel;refine⟨kvs.map λq=>kV q.1,?_,λA E R hh k=>Zga (kdl_dict (knd:=Zak X.prog X.w) (kvs:=vs) (ep:=ep) lo) hh hat (by omega) λh' tk acc kp hsz hacc=>k _ h' tk ?_ kp⟩
  ·have:=ZfF (K:=X.K) (F:=Zca F H) (kvs.map (·.1))
   rw[ZwW,ZwW]at this;exact this
  ·refine Zgu (by have q:acc.toList.length=acc.size:=ZwY; rw[Zwy,q,hacc.1,hl]) λi v u e1 e2=>?_
   obtain⟨kk,x,q1,q2⟩:=hacc.2 i u (by rw[<-Zxj]; exact e2);rw[ZwZ]at e1;obtain⟨q,e3,e4⟩:=Zwx.mp e1;subst e4;have key:∀{l:List (Key × V)} {m:List (Key × Value)},KV l m->∀(i:Nat) a b,l[i]?=some a->m[i]?=some b->a.1=b.1:=by
    intro l m r
    induction r with
    | nil=>intro i a b e; simp at e
    | cons hq _ ih =>
     intro i a b e1 e2;cases i with
     | zero=>simp at e1 e2; subst e1; subst e2; exact hq.1
     | succ i=>exact ih i a b (by simpa using e1) (by simpa using e2)
   have ek:=key rel i q (kk,x) e3 q1;rw[ek];exact Ztt q2
 | @dt kvs h =>
  obtain⟨z,lo,xs,rel,o,es,ep,h1,h2,h3,h4,h5⟩:=(show ZW X.prog X.w H s.heap p (.dT kvs) from I.hok p _ h);have hl:kvs.length=xs.length:=ZyU rel;have hes:es.size=xs.length:=by rw[<-ZwY,h4,Zwy]
  have hm:ZdS s.heap p es ep:=⟨o,h1,h2,h3⟩;refine⟨xs.map λq=>V.ref q.2.1,?_,λA E R hh k=>Zga (ZsP (es:=es) (ep:=ep) lo) hh hm (by omega) λh' tk acc kp hsz hacc=>k _ h' tk ?_ kp⟩
  ·clear h4 hes hl z h h5
   induction rel with
   | nil=>exact .nil
   | @cons p0 _ _ _ hq _ ih=>obtain⟨q1,q2,_⟩:=hq;rw[ZwD,ZwD];refine .cons ?_ ih;have rk:=ZfF (K:=X.K) (F:=Zca F H) p0.1;exact .tup (Zl6 q2) rk.1 rk.2
  ·refine Zgu (by have q:acc.toList.length=acc.size:=ZwY; rw[Zwy,q,hacc.1,hes]) λi v u e1 e2=>?_
   obtain⟨e,q1,q2⟩:=hacc.2 i u (by rw[<-Zxj]; exact e2);subst q2;rw[ZwZ]at e1;obtain⟨q,e3,e4⟩:=Zwx.mp e1;subst e4;rw[<-Zxj,h4,ZwZ,e3]at q1;cases q1;rfl
theorem Zch{K:Zww}{F:Hp}:∀{ds:List PyData} {vs:List V} {ns:List Int},HM.Zat ds=some ns->Zq K F ds vs->vs=ns.map V.int
 | [],vs,ns,h,r=>by cases h;exact r.nil_inv
 | d::ds,vs,ns,h,r=>by
  obtain⟨v,us,rfl,r1,r2⟩:=r.cons_inv;cases d with
  | int b=>obtain⟨bs',h1,h2⟩:=Zwx.mp h;subst h2;rw[r1.int_inv,Zch h1 r2];rfl
  | none=>cases h
  | bool _=>cases h
  | str _=>cases h
  | list _=>cases h
  | tuple _=>cases h
  | dict _=>cases h
theorem ZoE:∀(t:List Int),HM.Zat (HM.ofInts t)=some t
 | []=>rfl
 | x::t=>by show(HM.Zat (HM.ofInts t)).map (x::·)=_;rw[ZoE t];rfl
theorem Zmi:∀{ds:List PyData} {ns:List Int},HM.Zat ds=some ns->ds=HM.ofInts ns
 | [],ns,h=>by cases h; rfl
 | d::ds,ns,h=>by
  cases d with
  | int b=>obtain⟨bs',h1,h2⟩:=Zwx.mp h;subst h2;rw[Zmi h1];rfl
  | none=>cases h
  | bool _=>cases h
  | str _=>cases h
  | list _=>cases h
  | tuple _=>cases h
  | dict _=>cases h
theorem Zek{K:Zww}{F:Hp}:∀(ns:List Int),Zq K F (HM.ofInts ns) (ns.map V.int)
 | []=>.nil
 | n::ns=>.cons (.int n) (Zek ns)
theorem Zdr:∀{ns:List Int} {us:List Value},Vals (ns.map V.int) us->IntsAre us ns
 | [],_,r=>by rw[Zyx]at r; cases r; exact .nil
 | n::ns,_,r=>by
  rw[ZwD]at r;cases r with
  | cons h t=>obtain⟨u,rfl⟩:=h; exact .cons n u (Zdr t)
theorem ZgY:∀{us:List Value} {ns:List Int},IntsAre us ns->Vals (ns.map V.int) us
 | _,_,.nil=>.nil
 | _,_,.cons n t h=>.cons ⟨t,rfl⟩ (ZgY h)
theorem Znt:∀{ds:List PyData} {ts:List (List Int)},HM.Zim ds=some ts->ds=HM.Zem ts
 | [],ts,h=>by cases h; rfl
 | d::ds,ts,h=>by
  cases d with
  | tuple es =>
   unfold HM.Zim at h;split at h
   ·rename_i ns hn
    obtain⟨r',h1,h2⟩:=Zwx.mp h;subst h2;rw[Zmi hn,Znt h1];rfl
   ·cases h
  | none=>cases h
  | bool _=>cases h
  | int _=>cases h
  | str _=>cases h
  | list _=>cases h
  | dict _=>cases h
theorem Zmd{ns ms:List Int}(h:ms.Perm ns)(hs:ms.Pairwise (·<=·)):ms=HM.sortI ns:=by refine Zhb (R:=(·<=·)) (λa b h1 h2=>by omega) (h.trans (Zza ns _).symm) hs ?_;have:=Zzs (le:=λa b:Int=>decide (a<=b)) (λa b c h1 h2=>by simp at *; omega) (λa b=>by simp; omega) ns;exact this.imp λh=>by simpa using h
theorem ZrC{ts us:List (List Int)}(h:us.Perm ts)(hs:us.Pairwise (λx y=>HM.lexLt y x=false)):us=HM.ZdN ts:=by
 refine Zhb (R:=λx y=>HM.lexLt y x=false) (λa b h1 h2=>Zh2 a b h2 h1) (h.trans (Zza ts _).symm) hs ?_;have:=Zzs (le:=λa b:List Int=>!HM.lexLt b a) (λa b c h1 h2=>by
  simp only[Bool.not_eq_true']at *;cases q:HM.lexLt c a with
  | false=>rfl
  | true =>
   rcases Zkg c b a q with z | z
   ·rw[h2]at z; cases z
   ·rw[h1]at z; cases z) (λa b=>by
  cases q:HM.lexLt b a with
  | false=>simp
  | true =>
   cases q2:HM.lexLt a b with
   | false=>simp
   | true=>have:=lex_trans _ _ _ q q2; rw[lex_irrefl]at this; cases this) ts
 exact this.imp λh=>by simpa using h
theorem ZiM{h:Heap}{a:Addr}{vs:List Value}{out:Array Value}{b:Addr}{o:Obj}(hb:b≠a)(e:h.get? b=some o):(sortedHeap h a vs out).get? b=some o:=by rw[sortedHeap_old hb (ZwL e)]; exact e
theorem Zng(hc:X.calm=true):ZaJ X (.builtin "sorted") (λxs H Q=>∃p F ds ds',xs=[.ref p]/\Zo F H/\ZhI X.K F H p ds/\HM.Zed ds=some ds'/\∀l ws,H l=none->Zq X.K (Zca F H) ds' ws->Q (.ref l) (upd H l (.lst ws))):=by
 intro pins s σ H xs us Q I r h;obtain⟨p,F,ds,ds',rfl,sub,hsrc,hsort,q⟩:=h;obtain⟨u,rfl,rx⟩:=vals1 r;cases rx;obtain⟨vs,rv,go⟩:=hsrc.gath I sub;unfold HM.Zed at hsort;split at hsort
 ·rename_i h64
  have hvl:=rv.1;refine ZAt kind_sorted plain_sorted entry_sorted (args_sorted1 _) ?_;unfold Builtin.«sorted»;refine Zwv (m:=checkCount "sorted" 1 1 _) (Zwz ?_);refine Zwv (go _ _ _ (I.ok.hd hc) λus h' tk ru kp=>?_);have hul:=ru.length;refine Zwv (wpAny_newList ?_ (by rw[ZxO]; omega));have hoL:(h'.push (seqObj "list" us.toArray 0)).get? h'.objs.size=some (seqObj "list" us.toArray 0):=ZwO _ rfl;have fin:∀(out:Array Value) (ws:List V),Vals ws out.toList->Zq X.K (Zca F H) ds' ws->ws.length<64->EP X pins σ Q (.ref h'.objs.size) { s with heap:=sortedHeap (h'.push (seqObj "list" us.toArray 0)) h'.objs.size us out,toks:=tk }:=λout ws rw' rd hw=>by obtain⟨e,he⟩:=sortedHeap_at (out:=out) hoL;have I1:Inv X pins σ H { s with heap:=h',toks:=tk }:=I.kept kp;refine⟨.ref h'.objs.size,_,I1.laid (a:=h'.objs.size) (o:=.lst ws) (t':=tk) (λb o e1=>?_) (ZwH _) ⟨by rw[ZxO]; omega,out.toList,e,rw',by simpa using he⟩,rfl,q _ ws (I1.hok.fresh (ZwH _)) rd⟩;exact ZiM (ZwS (ZwL e1)) (ZwB _ e1)
  show wpAny _ _ _ _ _ { s with heap:=h'.push (seqObj "list" us.toArray 0),toks:=tk };split at hsort
  ·rename_i ns hns
   cases hsort;have evs:=Zch hns rv;rw[evs]at ru;have hI:=Zdr ru;refine Zwv (ZxD (ZxM slot_list_sort ⟨_,hoL,rfl⟩ ZAG (list_sort_tree hoL hI (by omega) λout ns' a1 a2 a3=>⟨_,rfl,?_⟩) (args_list_sort _)));refine Zwz ⟨_,rfl,?_⟩;have e:=Zmd a2 a3;have hl:ns'.length<64:=by rw[a2.length_eq,<-hI.length,<-hul]; omega
   refine fin out (ns'.map V.int) (ZgY a1) ?_ (by rw[Zwy]; exact hl);rw[<-e];exact Zek ns'
  ·split at hsort
   ·rename_i ts hts
    split at hsort
    ·rename_i hne
     cases hsort;have eds:=Znt hts;have hT:∀(i:Nat) t,ts[i]?=some t->∃b,us[i]?=some (.ref b)/\TI (h'.push (seqObj "list" us.toArray 0)) b t:=λi t e=>by
      have ed:ds[i]?=some (.tuple (HM.ofInts t)):=by rw[eds]; unfold HM.Zem; rw[ZwZ,e]; rfl
      obtain⟨v,hv,rp⟩:=rv.get ed;generalize hq:HM.ofInts t=q at rp;cases rp with
      | @tupk b x h1 =>
       exfalso;cases t with
       | nil=>cases hq
       | cons a t =>
        injection hq with e1 _
        cases e1
      | @tup b _ xs hb hl hr=>subst hq;obtain⟨u,hu,ru'⟩:=ru.get hv;cases ru';have ev:=Zch (F:=Zca F H) (ZoE t) ⟨hl,hr⟩;subst ev;have hH:H b=some (.tup (t.map V.int)):=(Ext.refl sub).tups.sub _ _ hb;obtain⟨z,its,rt,o,h1,h2,n,h3⟩:=(show ZW X.prog X.w H s.heap b (.tup (t.map V.int)) from I.hok b _ hH);exact⟨b,hu,o,its.toArray,n,ZwB _ (kp b o h1),h2,h3,by simpa using Zdr rt⟩
     have hlt:ts.length=us.length:=by have:=congrArg Zxd eds;unfold HM.Zem at this;rw[Zwy]at this;omega
     refine Zwv (ZxD (ZxM slot_list_sort ⟨_,hoL,rfl⟩ ZAG (Zsj hoL hlt hT ?_ (by omega) λpm hp hs=>⟨_,rfl,?_⟩) (args_list_sort _)))
     ·rw[Zx6]at hne
      rcases hne with z | z
      ·left
       have:=of_decide_eq_true z;omega
      ·right
       intro t ht e;have:=ZwF.mp z t ht;rw[e]at this;cases this
     ·refine Zwz ⟨_,rfl,?_⟩
      have hpl:pm.length=us.length:=by rw[hp.length_eq,Zyo]
      have hmem:∀i∈pm,i<us.length:=λi hi=>ZwV.mp (hp.mem_iff.mp hi);have e:(pm.map λi=>ts.getD i [])=HM.ZdN ts:=by
       refine ZrC ?_ hs;refine(hp.map _).trans ?_;have:(ZwE us.length).map (λi=>ts.getD i [])=ts:=by refine List.ext_getElem (by simp[hlt]) λi h1 h2=>?_;simp at h1;simp[ZxW,show i<ts.length by omega]
       rw[this]
      refine fin _ (pm.map λi=>vs.getD i V.non) ?_ ?_ (by rw[Zwy]; omega)
      ·refine Zgu (by simp) λk v u e1 e2=>?_
       rw[ZwZ]at e1;rw[List.toList_toArray,ZwZ]at e2;obtain⟨i,hi,rfl⟩:=Zwx.mp e1;rw[hi]at e2;cases e2;have hlt':=hmem i (Zw3 hi);have hv:vs[i]?=some (vs.getD i V.non):=by simp[ZxW,show i<vs.length by omega]
       obtain⟨u,hu,ru'⟩:=ru.get hv;have:us.getD i Zxw=u:=by simp[ZxW,hu]
       show RelV _ (us.getD i Zxw);rw[this];exact ru'
      ·rw[<-e]
       refine⟨by unfold HM.Zem; simp,λk d v e1 e2=>?_⟩;unfold HM.Zem at e1;rw[ZwZ,ZwZ]at e1;rw[ZwZ]at e2;obtain⟨i,hi,rfl⟩:=Zwx.mp e2;rw[hi]at e1;have hlt':=hmem i (Zw3 hi);have hd:ds[i]?=some d:=by
        rw[eds]; unfold HM.Zem;rw[ZwZ];have:ts[i]?=some (ts.getD i []):=by simp[ZxW,show i<ts.length by omega]
        rw[this];exact e1
       have hv:vs[i]?=some (vs.getD i V.non):=by simp[ZxW,show i<vs.length by omega]
       exact rv.2 i d _ hd hv
    ·cases hsort
   ·cases hsort
 ·cases hsort
end
end HP
namespace HP
open PySem PySem.Spec PySem.W PySem.Calls PyProof.Rows L2
variable[FX]
section
variable{prog:Program}{w:World}{A:Around}{E:Value->Shared->Prop}{s:Shared}
theorem Zk9{r:Addr}{a b c:Int}{t u v:Tok}{n:Nat}{R:List Value->Shared->Prop}(hh:A.handled=none)(hr:IsRange s.heap r a b c t u v)(hsmall:ZA3 a b c=true)(hn:ZyQ a b c=n)(hlen:n<=2 ^ 24)
  (h:∀(h':Heap) (tk:Nat) (acc:Array Value),(∀b o,s.heap.get? b=some o->h'.get? b=some o)->ItemsOf (λi v=>∃t,v=.int (a+i*c) t) acc n->R acc.toList { s with heap:=h',toks:=tk }) :
  wpAny (model prog w) A (collect (.ref r)) R E s:=by
 unfold collect;refine Zwv (wpAny_runValue (ZxJ entry_proto_collect' ?_));rw[Zxz Zz9 _];show wpAny _ A.in1 (newList [] >>= λl=>again (.builtin "list.__iadd__" ⟨[l,.ref r],[]⟩)) _ _ s;refine Zwv (Zxu (Zwz ⟨ZyE ZyT _,ZxJ entry_list_iadd' ?_⟩));rw[Zxz ZyT _];have hS₁:(s.heap.push { cls:=.type "list",data:=.seq ([]:List Value).toArray }).get? s.heap.objs.size=some { cls:=.type "list",data:=.seq #[] }:=ZwO _ rfl;show wpAny _ A.in1 (ZAa (.ref s.heap.objs.size) (.ref r) (.ref s.heap.objs.size)) _ _ _;have hr1:IsRange (s.heap.push { cls:=.type "list",data:=.seq ([]:List Value).toArray }) r a b c t u v:=ZwB _ hr;refine ZxG (wpAny_extend_range (A:=A) (s:={ s with heap:=s.heap.push { cls:=.type "list",data:=.seq ([]:List Value).toArray } })
  (R:=λ(q:Result) (s':Shared)=>∃(h':Heap) (tk:Nat) (acc':Array Value) (c':Nat),q=.ok (.ret (.ref s.heap.objs.size))/\s'={ s with heap:=h',toks:=tk } /\
   (∀b o,s.heap.get? b=some o->h'.get? b=some o)/\h'.get? s.heap.objs.size=some { cls:=.type "list",dict:=none,data:=.seq acc' c',slots:=#[] }/\ItemsOf (λi v=>∃t,v=.int (a+i*c) t) acc' n)
  hh hr1 hsmall hn hlen s.heap.objs.size (.ref s.heap.objs.size) 0 hS₁
  (λh' tk acc' c' hk hS' hacc=>⟨h',tk,acc',c',rfl,rfl,λb o e=>hk b o (ZwS (ZwL e)) (ZwB _ e),hS',hacc⟩)) (λfin s' x=>?_) λe s' x=>?_
 ·have go:∀(h':Heap) (tk:Nat) (acc':Array Value) (c':Nat),(∀b o,s.heap.get? b=some o->h'.get? b=some o)->h'.get? s.heap.objs.size=some { cls:=.type "list",dict:=none,data:=.seq acc' c',slots:=#[] }->ItemsOf (λi v=>∃t,v=.int (a+i*c) t) acc' n ->
    wpAny (model prog w) A (load s.heap.objs.size >>= λo=>match o.data with | .seq xs _=>pure xs.toList | _=>unsupported "internal:collect") R E { s with heap:=h',toks:=tk }:=λh' tk acc' c' hk hS' hacc =>
   Zwv (wpAny_load hS' (Zwz (h h' tk acc' hk hacc)))
  cases fin with
  | done f=>obtain⟨h',tk,acc',c',e,rfl,hk,hS',hacc⟩:=x;cases e;exact go h' tk acc' c' hk hS' hacc
  | again c₁=>refine⟨x.1,Zyv x.2 λq s₂ y=>?_⟩;obtain⟨h',tk,acc',c',rfl,rfl,hk,hS',hacc⟩:=y;exact go h' tk acc' c' hk hS' hacc
 ·obtain⟨_,_,_,_,e',_⟩:=x
  cases e'
end
theorem ZiA(r:Addr)(a b c:Int)(t u v:Tok)(n:Nat)(hsmall:ZA3 a b c=true)(hn:ZyQ a b c=n)(hlen:n<=2 ^ 24) :
  Meets (Builtin.«tuple.__new__» ⟨[.type "tuple",.ref r],[]⟩)
   (λA R s=>A.handled=none/\IsRange s.heap r a b c t u v/\∀(h':Heap) (tk:Nat) (acc:Array Value),(∀b o',s.heap.get? b=some o'->h'.get? b=some o')->ItemsOf (λi v=>∃t,v=.int (a+i*c) t) acc n ->
    R (.ok (.ret (.ref h'.objs.size))) { s with heap:=h'.push { cls:=.type "tuple",data:=.seq acc },toks:=tk }) :=
 .of_wp λprog w A R s h=>by
  obtain⟨hp,g,d,tk,os⟩:=s; obtain⟨hh,ht,h⟩:=h;have hsub:=PySem.sub_tuple_self;have hinit:=PySem.init_tuple_lookup;have hmh:=PySem.madeHere_tuple;have hT:Shared.TypeIs ⟨hp,g,d,tk,os⟩ (.ref r) "range":=⟨_,ht,rfl⟩;have hh1:A.in1.handled=none:=hh
  wp_walk using wpAny_typeOf hT,Zk9 hh1 ht hsmall hn hlen
  intro h' tk' acc hk hacc;show wpAny _ _ (ZAA acc.toList.toArray >>= λv=>ret v) _ _ _;unfold ZAA;have e:acc.toList.toArray=acc:=by simp
  rw[e];refine Zwv (Zxu ?_ (by show acc.size<=sizeLine; rw[hacc.1,ZxO]; omega));exact Zwz ⟨_,rfl,h h' tk' acc hk hacc⟩
section
variable{X:Cx}{a b c e:Expr}{fa fb fc:HM.EF}{pos p:Pos}{f:HM.BF}
theorem ZmC:ZaJ X (.type "range") (λxs H Q=>∃j,xs=[.int j]/\∀l,H l=none->Q (.ref l) (upd H l (.rng 0 j))):=by intro pins s σ H xs us Q I r h;obtain⟨j,rfl,q⟩:=h;obtain⟨u,rfl,rx⟩:=vals1 r;obtain⟨t,rfl⟩:=rx;refine call_range_1 ⟨.ref s.heap.objs.size,_,I.laid (a:=s.heap.objs.size) (o:=.rng 0 j) (λb o e=>ZwB _ e) (ZwH _) ?_,rfl,q _ (I.hok.fresh (ZwH _))⟩;exact⟨_,_,_,ZwO _ rfl⟩
theorem Zob(hc:X.calm=true):ZaJ X (.type "tuple") (λxs H Q=>∃p lo hi,xs=[.ref p]/\H p=some (.rng lo hi)/\-1000000<lo/\lo<1000000/\-1000000<hi/\hi<1000000 /\
  ∀l,H l=none->Q (.ref l) (upd H l (.tup ((ZwE (hi-lo).toNat).map λ(k:Nat)=>V.int (lo+k))))):=by
 intro pins s σ H xs us Q I r h;obtain⟨p,lo,hi,rfl,hp,h1,h2,h3,h4,q⟩:=h;obtain⟨u,rfl,rx⟩:=vals1 r;cases rx;obtain⟨t,u,v,ho⟩:=(show ZW X.prog X.w H s.heap p (.rng lo hi) from I.hok p _ hp);have hn:ZyQ lo hi 1=((hi-lo).toNat:Nat):=by rw[rangeSize_one]; split<;>omega
 refine callType_new PySem.F.called_tuple (by decide) (PySem.F.typeCall_tuple_1 _) (PySem.F.newCall_tuple_1 _) (λobj=>PySem.F.args_object_init_2 obj _) PySem.F.entry_tuple_new
  (ZiA p lo hi 1 t u v (hi-lo).toNat (small_one (by omega) (by omega) (by omega) (by omega)) hn (by omega)) ⟨I.ok.hd hc,ho,λh' tk' acc kp hacc=>⟨⟨_,ZwO _ rfl,rfl⟩,?_⟩⟩
 have I1:Inv X pins σ H { s with heap:=h',toks:=tk' }:=I.kept kp;have rv:Vals ((ZwE (hi-lo).toNat).map λ(k:Nat)=>V.int (lo+k)) acc.toList:=by
  refine Zgu (by have z:acc.toList.length=acc.size:=ZwY; rw[Zwy,Zyo,z,hacc.1]) λi v u e1 e2=>?_;rw[ZwZ]at e1;obtain⟨k,hk,rfl⟩:=Zwx.mp e1;obtain⟨t,rfl⟩:=hacc.2 i u (by rw[<-Zxj]; exact e2);have:k=i:=by have:=ZwI.mp hk;obtain⟨_,e⟩:=this;simpa using e.symm
  subst this;exact⟨t,by simp⟩
 have I2:=I1.laid (a:=h'.objs.size) (o:=.tup ((ZwE (hi-lo).toNat).map λ(k:Nat)=>V.int (lo+k))) (h':=h'.push { cls:=.type "tuple",data:=.seq acc }) (t':=tk') (λb o e=>ZwB _ e) (ZwH _)
  ⟨by rw[Zwy,Zyo,ZxO]; omega,acc.toList,rv,by simpa using IsTup.new _ _⟩
 exact⟨.ref h'.objs.size,_,I2,rfl,q _ (I1.hok.fresh (ZwH _))⟩
theorem ZnY{K:Zww}{F:Hp}(lo:Int)(n:Nat):Zq K F (HM.Zcp lo n) ((ZwE n).map λ(k:Nat)=>V.int (lo+k)):=by unfold HM.Zcp;refine⟨by simp,λi d v e1 e2=>?_⟩;rw[ZwZ]at e1 e2;obtain⟨k,hk,rfl⟩:=Zwx.mp e1;rw[hk]at e2;cases e2;exact .int _
theorem Zny(hmt:X.mg "tuple" = none)(hm:X.mg "range" = none)(hc:X.calm=true)(ha:XE X a fa){p' pos':Pos}(hgt:Gl X "tuple":=by rfl)(hg:Gl X "range":=by rfl)(hs:ZwJ [a] X.env=[(false,eval a X.env)]:=by rfl)
  (hs2:ZwJ [ZA8 (.Name "range" p') [a] [] pos'] X.env=[(false,eval (ZA8 (.Name "range" p') [a] [] pos') X.env)]:=by rfl) :
  XE X (.Call (.Name "tuple" p) [.Call (.Name "range" p') [a] [] pos'] [] pos) (HM.Zi7 (HM.ZbJ fa)):=by
 intro r d hd;unfold HM.Zi7 at hd;split at hd
 ·rename_i ds hds
  split at hd
  ·cases hd
   unfold HM.ZbJ at hds;split at hds
   ·rename_i j hj
    split at hds
    ·rename_i hok
     cases hds;obtain⟨k1,k2⟩:=ZoB hok;refine PE.imp (ZcT (Zob hc) hgt hmt ZiX (Z9 (ZcT ZmC hg hm boot_range (Z9 (ha r _ hj) Zbv hs) (he:=hs)) Zbv hs2) (he:=hs2)) λσ H Q ⟨F0,H0,F,at_,k⟩=>?_;refine⟨F0,H0,F,at_,λv F1 H1 x1 r1=>⟨j,by rw[r1.int_inv],λl hl=>?_⟩⟩;refine⟨l,0,j,rfl,ZA,by omega,by omega,by omega,by omega,λl2 hl2=>?_⟩;have x2:=x1.lay' (o:=.rng 0 j) hl;have x3:=x2.lay (o:=.tup ((ZwE (j-0).toNat).map λ(k:Nat)=>V.int (0+k))) hl2;have rp:=ZnY (K:=X.K) (F:=upd F1 l2 (.tup ((ZwE (j-0).toNat).map λ(k:Nat)=>V.int (0+k)))) 0 j.toNat;have ej:(j-0).toNat=j.toNat:=by omega
     refine k _ _ _ x3 (.tup ZA ?_ ?_)
     ·rw[ej]; exact rp.1
     ·rw[ej]at rp ⊢; exact rp.2
    ·cases hds
   ·cases hds
  ·cases hd
 ·cases hd
theorem Zqx{K:Zww}{F H:Hp}{q:HM.B}{v:V}{fp:List Addr}{ds:List PyData}(sub:Zo F H)(r:ZZ K F H q v fp)(h:HM.ZsA q=some ds):∃a,v=.ref a/\ZhI K F H a ds:=by
 cases r with
 | pl r =>
  cases r with
  | tup h1 h2 h3=>cases h; exact⟨_,rfl,.tup (.of (sub _ _ h1)) ⟨h2,h3⟩⟩
  | @tupk a x h1=>cases h; exact⟨_,rfl,.tup (.inr h1) (.one (.str x))⟩
  | lst h1 h2 h3=>cases h; exact⟨_,rfl,.lst (sub.seq h1) ⟨h2,h3⟩⟩
  | dct _ _ _ _=>cases h
  | fn _=>cases h
  | non=>cases h
  | bl _=>cases h
  | int _=>cases h
  | str _=>cases h
 | ol h1 r=>cases h; exact⟨_,rfl,.lst (.of h1) r⟩
 | hd _ _ _ _=>cases h
 | hf _=>cases h
 | @ok a kvs vvs h1 h2 h3 =>
  cases h;refine⟨_,rfl,?_⟩;have e:(kvs.map λp=>HM.Zaj p.1)=vvs.map λp=>HM.Zaj p.1:=by
   have:=congrArg (Zz0 HM.Zaj) h2
   rwa [ZwW,ZwW]at this
  rw[e];exact .dk h1
 | @ot a kvs vvs h1 h2 h3 =>
  cases h;refine⟨_,rfl,?_⟩;have e:(kvs.map λp=>Zxt (p.1.map HM.Zaj))=vvs.map λp=>Zxt (p.1.map HM.Zaj):=by
   have:=congrArg (Zz0 λk:List Key=>Zxt (k.map HM.Zaj)) h2
   rwa [ZwW,ZwW]at this
  rw[e];exact .dt h1
 | @otl a kvs vvs ls h1 h2 h3 h4 =>
  cases h;refine⟨_,rfl,?_⟩;have e:(kvs.map λp=>Zxt (p.1.map HM.Zaj))=vvs.map λp=>Zxt (p.1.map HM.Zaj):=by
   have:=congrArg (Zz0 λk:List Key=>Zxt (k.map HM.Zaj)) h2
   rwa [ZwW,ZwW]at this
  rw[e];exact .dt h1
theorem Zfy(hm:X.mg "sorted" = none)(hc:X.calm=true)(ha:XB X a f)(hg:Gl X "sorted":=by rfl)(hs:ZwJ [a] X.env=[(false,eval a X.env)]:=by rfl):XF X (.Call (.Name "sorted" p) [a] [] pos) (HM.ZeR f):=by
 intro r d h;unfold HM.ZeR at h;split at h
 ·rename_i x hx
  split at h
  ·rename_i ds hds
   obtain⟨ds',h1,h2⟩:=Zwx.mp h;subst h2;refine PE.imp (ZcO (Zng hc) hg hm ZkB (Zel ha hx hs) (he:=hs)) λσ H Q ⟨F0,H0,F,at_,k⟩=>?_;refine⟨F0,H0,F,at_,λv fp F1 H1 x1 r1=>?_⟩;obtain⟨l,e1,src⟩:=Zqx x1.sub r1 hds;subst e1;exact⟨l,F1,ds,ds',rfl,x1.sub,src,h1,λl' ws hl' rs=>Zd2 (P:=λv _ H'=>Q v H') x1.tups rs hl' k⟩
  ·cases h
 ·cases h
theorem ZqU(hc:X.calm=true):ZaJ X (.type "set") (λxs H Q=>∃p ns,xs=[.ref p]/\SqL X.K H p (ns.map V.int)/\(∀n∈ns,0<=n/\n<8)/\∀l,H l=none->Q (.ref l) (upd H l (.ext λh=>Zc3 X.prog X.w h l (HM.dedup [] ns)))):=by intro pins s σ H xs us Q I r h;obtain⟨p,ns,rfl,hq,hb,q⟩:=h;obtain⟨u,rfl,rx⟩:=vals1 r;cases rx;obtain⟨its,rv,pl,hz⟩:=I.list hq;refine ZqK (I.ok.hd hc) pl.isList (by simpa using Zdr rv) hb λh' tk hS kp=>?_;have hS':=hS;obtain⟨o,es,ep,t,ho,_⟩:=hS';refine⟨.ref s.heap.objs.size,_,I.laid (a:=s.heap.objs.size) (o:=.ext λh=>Zc3 X.prog X.w h s.heap.objs.size (HM.dedup [] ns)) (λb o e=>kp b o (ZwL e) e) (ZwH _) ?_,rfl,q _ (I.hok.fresh (ZwH _))⟩;exact⟨hS,⟨o,ho⟩,λh1 h2 x kk=>x.at' kk⟩
theorem ZmN(hc:X.calm=true):ZaJ X (.builtin "sorted") (λxs H Q=>∃p L,xs=[.ref p]/\H p=some (.ext λh=>Zc3 X.prog X.w h p L)/\∀l,H l=none->Q (.ref l) (upd H l (.lst ((HM.sortI L).map V.int)))):=by
 intro pins s σ H xs us Q I r h;obtain⟨p,L,rfl,hp,q⟩:=h;obtain⟨u,rfl,rx⟩:=vals1 r;cases rx;obtain⟨hX,_,_⟩:=(show ZW X.prog X.w H s.heap p (.ext λh=>Zc3 X.prog X.w h p L) from I.hok p _ hp);obtain⟨o,es,ep,t,ho,hex,hd,hen,hpm,hpl,ht⟩:=hX;have hsz:=size_of hpl;have hfew:=ht.few;have raw:ZdO X.w s.heap p es ep t:=⟨⟨o,ho,hex,hd⟩,by rw[hsz]; exact ht.fits,hsz,ht⟩;refine ZAt kind_sorted plain_sorted entry_sorted (args_sorted1 _) ?_;unfold Builtin.«sorted»;refine Zwv (m:=checkCount "sorted" 1 1 _) (Zwz ?_);refine Zwv (Zga (ZsS (es:=es) (ep:=ep) (t:=t)) (I.ok.hd hc) raw (by rw[ZxO]; omega) λh' tk acc kp _ hacc=>?_);have hal:acc.toList.length=es.size:=by rw[ZwY]; exact hacc.1
 have hI:IntsAre acc.toList ((Zde X.w p es ep).toList.map ZdK):=by
  have key:∀(us:List Value) (xs:List (Int × Value)),us.length=xs.length->(∀(i:Nat) u,us[i]?=some u->∃e,xs[i]?=some e/\u=e.2)->(∀e∈xs,∃n t,e=((intKind X.prog X.w).hash n,Zye n t))->IntsAre us (xs.map ZdK):=by
   intro us
   induction us with
   | nil=>intro xs hl _ _; cases xs with | nil=>exact .nil | cons _ _=>simp at hl
   | cons u us ih =>
    intro xs hl hk he;cases xs with
    | nil=>simp at hl
    | cons x xs=>obtain⟨e,e1,e2⟩:=hk 0 u rfl;simp at e1;subst e1;obtain⟨n,t,e3⟩:=he x (ZwA ..);rw[e2,e3];exact .cons n t (ih xs (by simpa using hl) (λi u e=>hk (i+1) u (by simpa using e)) λe h=>he e (ZwC _ h))
  refine key acc.toList (Zde X.w p es ep).toList (by rw[hal,ZwY,Zib]) (λi u e=>?_) λe h=>hen e ((ZhW X.w p es ep).mem_iff.mp h);obtain⟨e',e1,e2⟩:=hacc.2 i u (by rw[<-Zxj]; exact e);exact⟨e',by rw[Zxj]; exact e1,e2⟩
 refine Zwv (wpAny_newList ?_ (by rw[hal,ZxO]; omega));have hoL:(h'.push (seqObj "list" acc.toList.toArray 0)).get? h'.objs.size=some (seqObj "list" acc.toList.toArray 0):=ZwO _ rfl;show wpAny _ _ _ _ _ { s with heap:=h'.push (seqObj "list" acc.toList.toArray 0),toks:=tk };refine Zwv (ZxD (ZxM slot_list_sort ⟨_,hoL,rfl⟩ ZAG (list_sort_tree hoL hI (by omega) λout ns' a1 a2 a3=>⟨_,rfl,?_⟩) (args_list_sort _)));refine Zwz ⟨_,rfl,?_⟩;have e:ns'=HM.sortI L:=Zmd (a2.trans (((ZhW X.w p es ep).map ZdK).trans hpm)) a3;have hl:ns'.length<64:=by rw[a2.length_eq,<-hI.length,hal]; omega
 obtain⟨ee,he⟩:=sortedHeap_at (out:=out) hoL;have I1:Inv X pins σ H { s with heap:=h',toks:=tk }:=I.kept kp;refine⟨.ref h'.objs.size,_,I1.laid (a:=h'.objs.size) (o:=.lst (ns'.map V.int)) (t':=tk) (λb o e1=>?_) (ZwH _) ⟨by rw[Zwy,ZxO]; omega,out.toList,ee,ZgY a1,by simpa using he⟩,rfl,?_⟩
 ·exact ZiM (ZwS (ZwL e1)) (ZwB _ e1)
 ·rw[e]; exact q _ (I1.hok.fresh (ZwH _))
theorem Zhn(hm:X.mg "sorted" = none)(hm2:X.mg "set" = none)(hc:X.calm=true){p' pos':Pos}(ha:XB X a f)(hg:Gl X "sorted":=by rfl)(hg2:Gl X "set":=by rfl)(hs:ZwJ [a] X.env=[(false,eval a X.env)]:=by rfl)
  (hs2:ZwJ [ZA8 (.Name "set" p') [a] [] pos'] X.env=[(false,eval (ZA8 (.Name "set" p') [a] [] pos') X.env)]:=by rfl) :
  XF X (.Call (.Name "sorted" p) [.Call (.Name "set" p') [a] [] pos'] [] pos) (HM.ZeQ f):=by
 intro r d h;unfold HM.ZeQ at h;split at h
 ·rename_i x hx
  split at h
  ·rename_i ds hds
   split at h
   ·rename_i ns hns
    split at h
    ·rename_i hlow
     cases h;refine PE.imp (ZcO (ZmN hc) hg hm ZkB (Z9 (ZcT (ZqU hc) hg2 hm2 Zui (Zel ha hx hs) (he:=hs)) Zbv hs2) (he:=hs2)) λσ H Q ⟨F0,H0,F,at_,k⟩=>?_;refine⟨F0,H0,F,at_,λv fp F1 H1 x1 r1=>?_⟩;obtain⟨l,vs,e1,hq,rs⟩:=Zfn x1.sub r1 hds;subst e1;rw[Zch hns rs]at hq;refine⟨l,ns,rfl,hq,λn hn=>?_,λl2 hl2=>⟨l2,_,rfl,ZA,λl3 hl3=>?_⟩⟩
     ·have:=ZwF.mp hlow n hn
      rw[ZwU,decide_eq_true_eq,decide_eq_true_eq]at this;exact this
     ·have x2:=x1.lay' (o:=.ext λh=>Zc3 X.prog X.w h l2 (HM.dedup [] ns)) hl2
      exact Zd2 (P:=λv _ H'=>Q v H') x2 (Zek _) hl3 k
    ·cases h
   ·cases h
  ·cases h
 ·cases h
end
end HP
namespace HP
open PySem PySem.Spec PyProof.Rows L2
variable[FX]
section
variable{X:Cx}{a b:Expr}{fa:HM.EF}{f:HM.BF}{pos:Pos}
theorem Zi0(i:Int):∀ns:List Int,inV (.int i) (ns.map V.int)=ns.contains i
 | []=>rfl
 | n::ns=>by have ih:=Zi0 i ns;unfold inV at ih ⊢;rw[ZwD,ZyB,ih,List.contains_cons];show(n==i||_)=(i==n||_);rw[show(n==i)=(i==n) from Bool.eq_iff_iff.mpr ⟨λh=>beq_iff_eq.mpr (beq_iff_eq.mp h).symm,λh=>beq_iff_eq.mpr (beq_iff_eq.mp h).symm⟩]
theorem Zh8:∀ns:List Int,(ns.map V.int).all ZaK=true
 | []=>rfl
 | n::ns=>by rw[ZwD,ZxH,Zh8 ns]; rfl
theorem ZrD{r:HM.Env}{d:PyData}(h:HM.ZmV fa f r=some d):∃i q ds ns,fa r=some (.int i)/\f r=some q/\HM.ZcA q=some ds/\HM.Zat ds=some ns/\d=.bool (ns.contains i):=by
 unfold HM.ZmV at h;split at h
 ·split at h
  ·split at h
   ·obtain⟨c,h1,h2⟩:=Zwx.mp h
    obtain⟨ns,h3,h4⟩:=Zwx.mp h1;exact⟨_,_,_,ns,by assumption,by assumption,by assumption,h3,by rw[<-h2,<-h4]⟩
   ·cases h
  ·cases h
 ·cases h
theorem ZnZ{r:HM.Env}{d:PyData}(h:HM.Zgo fa f r=some d):∃i q ds ns,fa r=some (.int i)/\f r=some q/\HM.ZcA q=some ds/\HM.Zat ds=some ns/\d=.bool (!ns.contains i):=by
 unfold HM.Zgo at h;split at h
 ·split at h
  ·split at h
   ·obtain⟨c,h1,h2⟩:=Zwx.mp h
    obtain⟨ns,h3,h4⟩:=Zwx.mp h1;exact⟨_,_,_,ns,by assumption,by assumption,by assumption,h3,by rw[<-h2,<-h4]⟩
   ·cases h
  ·cases h
 ·cases h
theorem Zr9{neg:Bool}{r:HM.Env}{i:Int}{q:HM.B}{ds:List PyData}{ns:List Int}(ha:XE X a fa)(hb:XB X b f)(h1:fa r=some (.int i))(h2:f r=some q)(h3:HM.ZcA q=some ds)(h4:HM.Zat ds=some ns){op:CmpOp}(ho:OpR X (ZxK op) (rIn X.K neg))(hm:ZxN op b=false) :
  PE X (.Compare a [op] [b] pos) (tAt X.K r λ_ F' _ v=>v=.bl (if neg then !ns.contains i else ns.contains i)):=by
 refine PE.imp (Zox ho (ha r _ h1) (hb r q h2) hm) λσ H Q ⟨F0,H0,F,at_,k⟩=>?_;refine⟨F0,H0,F,at_,λv F1 H1 x1 r1=>⟨F0,H0,F1,at_.grow x1,λw F2 H2 x2 ⟨fp,r2⟩=>?_⟩⟩;obtain⟨p,vs,e1,hq,rs⟩:=Zg6 x2.sub r2 h3;cases r1;rw[Zch h4 rs]at hq;refine⟨p,_,e1,hq,rfl,Zh8 ns,k _ F2 H2 (x1.trans x2) ?_⟩;rw[Zi0]
theorem Zr8{neg:Bool}{r:HM.Env}{i:Int}{q:HM.B}{ds:List PyData}{ns:List Int}(ha:XE X a fa)(hb:XB X b f)(h1:fa r=some (.int i))(h2:f r=some q)(h3:HM.ZcA q=some ds)(h4:HM.Zat ds=some ns){op:CmpOp}(ho:OpR X (ZxK op) (rIn X.K neg))(hm:ZxN op b=false) :
  PT X (.Compare a [op] [b] pos) λσ H Q=>Now X.K r σ H λF0 H0 F=>∀F' H',Ext F H F' H'->Q (if neg then !ns.contains i else ns.contains i) H':=by
 refine PT.imp (ZoH ho (ha r _ h1) (hb r q h2) hm) λσ H Q ⟨F0,H0,F,at_,k⟩=>?_;refine⟨F0,H0,F,at_,λv F1 H1 x1 r1=>⟨F0,H0,F1,at_.grow x1,λw F2 H2 x2 ⟨fp,r2⟩=>?_⟩⟩;obtain⟨p,vs,e1,hq,rs⟩:=Zg6 x2.sub r2 h3;cases r1;rw[Zch h4 rs]at hq;refine⟨p,_,e1,hq,rfl,Zh8 ns,_,rfl,?_⟩;rw[Zi0];exact k F2 H2 (x1.trans x2)
theorem ZtF(ha:XE X a fa)(hb:XB X b f)(hm:ZxN .In b=false:=by rfl):XE X (.Compare a [.In] [b] pos) (HM.ZmV fa f):=by intro r d h;obtain⟨i,q,ds,ns,h1,h2,h3,h4,rfl⟩:=ZrD h;refine PE.imp (Zr9 ha hb h1 h2 h3 h4 Zqk hm) λσ H Q ⟨F0,H0,F,at_,k⟩=>⟨F0,H0,F,at_,λv F' H' x e=>k v F' H' x ?_⟩;subst e;exact .bl _
theorem ZpW(ha:XE X a fa)(hb:XB X b f)(hm:ZxN .NotIn b=false:=by rfl):XT X (.Compare a [.NotIn] [b] pos) (HM.tV (HM.Zgo fa f)):=by intro r d h;obtain⟨i,q,ds,ns,h1,h2,h3,h4,e⟩:=ZnZ (Zgt h);cases e;exact Zr8 ha hb h1 h2 h3 h4 Zms hm
end
end HP
namespace HP
open PySem PySem.Spec PyProof.Rows L2
variable[FX]
section
variable{X:Cx}{c e:Expr}{fa:HM.EF}{t:HM.TF}{g:HM.SF}{pos:Pos}{body:List Stmt}
theorem Zlx(n:Nat)(hxe:X.xe=λ_ _=>False)(hc:XT X c t)(hb:XSs X body g):XS X (.While c body [] pos) (HM.Zmt n t g):=by
 intro r o ho;have ho:HM.Zbq t g n r=some o:=ho;have pb:PSs X body (λE σ H=>∃r o,g r=some o/\tSt X.K r o E σ H):=λpins s σ H E I ⟨r,o,h1,h2⟩=>hb r o h1 pins s σ H E I h2;have pc:PT X c (λσ H Q=>∃r b,t r=some b/\Now X.K r σ H λF0 H0 F=>∀F' H',Ext F H F' H'->Q b H'):=λpins s σ H Q I ⟨r,b,h1,h2⟩=>hc r b h1 pins s σ H Q I h2;refine PS.imp (Zsd (ZhU hxe) pc pb) λE σ H ⟨F0,H0,F,at_,k⟩=>?_;refine⟨λm σ H=>∃F r,At X.K F0 H0 F H r σ/\HM.Zbq t g m r=some o,⟨n,F,r,at_,ho⟩,?_⟩
 rintro m σ H ⟨F2,r2,at2,go⟩
 cases m with
 | zero=>cases go
 | succ m =>
  unfold HM.Zbq at go;split at go
  ·rename_i ht
   refine⟨r2,true,ht,F0,H0,F2,at2,λF' H' x=>?_⟩;dsimp only;rw[if_pos rfl];have at3:=at2.grow x;have a4:=at3.rebase;refine⟨λσ' H'=>∃F r,At X.K F0 H0 F H' r σ'/\HM.Zbq t g m r=some o,λσ' H' q=>⟨m,ZyL m,q⟩,?_⟩;split at go
   ·rename_i r' hr
    exact⟨_,_,hr,F',H0,F',a4,λσ' F' H' a'=>⟨F',r',a'.unbase at3.ext at3.nt0,go⟩⟩
   ·rename_i r' hr
    exact⟨_,_,hr,F',H0,F',a4,λσ' F' H' a'=>⟨F',r',a'.unbase at3.ext at3.nt0,go⟩⟩
   ·rename_i r' hr
    cases go;exact⟨_,_,hr,F',H0,F',a4,λσ' F' H' a'=>k σ' F' H' (a'.unbase at3.ext at3.nt0)⟩
   ·rename_i d hr
    cases go;exact⟨_,_,hr,F',H0,F',a4,λv F' H' x q=>k v F' H' (at3.ext.unbase x) q⟩
   ·cases go
  ·rename_i ht
   cases go;refine⟨r2,false,ht,F0,H0,F2,at2,λF' H' x=>?_⟩;dsimp only;rw[if_neg (by simp)];exact k σ F' H' (at2.grow x)
  ·cases go
theorem Zti{i j:Nat}{x y:Str}{px py pt:Pos}{kt:Nat}(hc:X.calm=true)(hN:X.N.Nodup)(hi:X.N[i]?=some x)(hj:X.N[j]?=some y)(hx:Loc X.env.scope x)(hy:Loc X.env.scope y)(hf:X.fn x=true\/X.env.scope.names.lookup x=some .local)(hg:X.fn y=true\/X.env.scope.names.lookup y=some .local)
  (h1:(Zyt [.Name x px,.Name y py] X.env).length=2:=by rfl) (h2:(Zyt [.Name x px,.Name y py] X.env).findIdx? (·.1)=none:=by rfl) :
  PG X (.Tuple [.Name x px,.Name y py] kt pt) (ZtV X.K 2 (Zpc (Zln i) (Zpc (Zln j) Zu0))) :=
 ZtQ hc (Zl4 (Ziv hN hi hx hf) (Zl4 (Ziv hN hj hy hg) Ztf)) h1 h2
theorem ZsC(i j:Nat){x y:Str}{px py pt:Pos}{kt:Nat}{iter:Expr}{fi:HM.IF}(hN:X.N.Nodup)(hxe:X.xe=λ_ _=>False)(hc:X.calm=true)(hi:XI X (.Tuple [.Name x px,.Name y py] kt pt) iter fi)(hb:XSs X body g)(hix:X.N[i]?=some x:=by rfl)(hjy:X.N[j]?=some y:=by rfl)
  (hx:Loc X.env.scope x:=by first | exact Zxl rfl | exact Zw6 rfl) (hy:Loc X.env.scope y:=by first | exact Zxl rfl | exact Zw6 rfl) (hf:X.fn x=true\/X.env.scope.names.lookup x=some .local:=by first | exact .inl rfl | exact .inr rfl) (hf2:X.fn y=true\/X.env.scope.names.lookup y=some .local:=by first | exact .inl rfl | exact .inr rfl)
  (h1:(Zyt [.Name x px,.Name y py] X.env).length=2:=by rfl) (h2:(Zyt [.Name x px,.Name y py] X.env).findIdx? (·.1)=none:=by rfl)
  (hs:∀x,Zyn iter X.env x=pure x:=by intro _; rfl):XS X (.For (.Tuple [.Name x px,.Name y py] kt pt) iter body [] pos) (HM.Zlj i j fi g):=by
 intro r o ho;unfold HM.Zlj at ho;split at ho
 ·rename_i ds hds
  split at ho
  ·rename_i hbig
   have pb:PSs X body (λE σ H=>∃r o,g r=some o/\tSt X.K r o E σ H):=λpins s σ H E I ⟨r,o,h1,h2⟩=>hb r o h1 pins s σ H E I h2;refine PS.imp (Zq5 (ZhU hxe) hc (hi r ds hds) (Zti hc hN hix hjy hx hy hf hf2 h1 h2) pb hs) λE σ H ⟨F0,H0,F,at_,k⟩=>?_;refine⟨F0,H0,F,at_,λJ F1 H1 x1 it=>?_⟩;refine⟨λn m σ H=>∃F r,At X.K F0 H0 F H r σ/\Zo F1 F/\n+m=ds.length/\HM.Zcd i j g (ds.drop n) r=some o,⟨ds.length,F1,r,at_.grow x1,Zo.refl _,by omega,ho⟩,?_⟩
   rintro n m σ H ⟨F2,r2,at2,s2,hn,go⟩
   obtain⟨it1,it2⟩:=it F2 H s2 at2.sub;cases m with
   | zero =>
    have e:n=ds.length:=by omega
    subst e;rw[ZAy]at go;cases go;exact .inl ⟨it2,k σ F2 H at2⟩
   | succ m =>
    have hlt:n<ds.length:=by omega
    rw[Zzc hlt]at go;obtain⟨j1,j2⟩:=it1 n ds[n] (ZwN hlt);refine .inr ⟨j1,λσ' H'=>∃F r,At X.K F0 H0 F H' r σ'/\Zo F1 F/\HM.Zcd i j g (ds.drop (n+1)) r=some o,λσ' H' ⟨F,r,a1,a2,a3⟩=>⟨m,by omega,F,r,a1,a2,by omega,a3⟩,λy H' hy=>?_⟩;obtain⟨e1,ry⟩:=j2 y H' hy;subst e1;obtain⟨F3,at3,s3,ry⟩:∃F3,At X.K F0 H0 F3 H' r2 σ/\Zo F1 F3/\Rep X.K F3 ds[n] y:=⟨_,at2.grow at2.refl.tups,s2.trans (Zcy at2.sub),ry⟩;have hsh:∃d1 d2,ds[n]=.tuple [d1,d2]:=by
     unfold HM.Zcd at go;split at go
     ·cases ‹_=[]›
     ·rename_i d1 d2 q hq
      injection hq with hq _
      exact⟨d1,d2,hq⟩
     ·cases go
    obtain⟨d1,d2,hsh⟩:=hsh;rw[hsh]at ry go;obtain⟨pa,v1,v2,e7,hpa,rx1,rx2⟩:=Zrz ry;subst e7;have a3:=(at3.set (i:=i) rx1).set (i:=j) rx2;have a4:=a3.rebase;refine⟨pa,[v1,v2],rfl,.of (at3.sub _ _ hpa),rfl,v1,[v2],rfl,v2,[],rfl,rfl,?_⟩;dsimp only[HM.Zcd]at go;split at go
    ·rename_i r' hr
     exact⟨_,_,hr,F3,H0,F3,a4,λσ' F' H' a'=>⟨F',r',a'.unbase at3.ext at3.nt0,s3.trans a'.ext.ff,go⟩⟩
    ·rename_i r' hr
     exact⟨_,_,hr,F3,H0,F3,a4,λσ' F' H' a'=>⟨F',r',a'.unbase at3.ext at3.nt0,s3.trans a'.ext.ff,go⟩⟩
    ·rename_i r' hr
     cases go;exact⟨_,_,hr,F3,H0,F3,a4,λσ' F' H' a'=>k σ' F' H' (a'.unbase at3.ext at3.nt0)⟩
    ·rename_i d hr
     cases go;exact⟨_,_,hr,F3,H0,F3,a4,λv F' H' x q=>k v F' H' (at3.ext.unbase x) q⟩
    ·cases go
  ·cases ho
 ·cases ho
end
end HP
namespace HP
open PySem PySem.Spec PyProof.Rows L2
variable[FX]
section
variable{X:Cx}{a b:Expr}{fa:HM.EF}{f:HM.BF}{pos:Pos}
open Classical in
end
end HP
namespace HP
open PySem PySem.Spec PyProof.Rows L2
variable[FX]
section
variable{X:Cx}{a b c e:Expr}{fa fb fc:HM.EF}{f:HM.BF}{pos p:Pos}{es:List Expr}
theorem rdT{F F':Hp}{a:Addr}{vvs:List (List Key × V)}(r:Rd F a (.dT vvs))(s:Zae F F'):Rd F' a (.dT vvs):=r.imp (λh=>s _ _ h) λ⟨o,h⟩=>⟨o,s _ _ h⟩
theorem ZpK{H:Hp}{a b:Addr}{kvs:List (List Key × V)}{k:List Key}(e:Rd H a (.dT kvs))(eb:H b=some (.tup (k.map kV))):Zcb H a (.ref b) (Zap kvs k):=.inr ⟨kvs,k,b,e,rfl,eb,rfl⟩
theorem ZiW{K:Zww}{F H:Hp}{q:HM.B}{v:V}{fp:List Addr}{kvs:List (List Key × PyData)}(sub:Zo F H)(r:ZZ K F H q v fp)(h:HM.ZjX q=some kvs):∃l vvs,v=.ref l/\Rd H l (.dT vvs)/\Zaq K F kvs vvs:=by
 cases r with
 | pl r =>
  cases r with
  | @dct l es kvs' vvs h1 h2 h3 h4=>subst h2;have h:HM.ZeA (HM.Zi kvs')=some kvs:=h;rw[HM.dec_enc]at h;cases h;refine⟨l,vvs,rfl,Zis h1 sub,h3,?_,h4⟩;have:=congrArg Zxd h3;rw[Zwy,Zwy]at this;rw[Zwy,Zwy,this]
  | fn _=>cases h
  | tupk _=>cases h
  | tup _ _ _=>cases h
  | lst _ _ _=>cases h
  | non=>cases h
  | bl _=>cases h
  | int _=>cases h
  | str _=>cases h
 | ol _ _=>cases h
 | ok _ _ _=>cases h
 | @ot l kvs vvs h1 h2 h3=>cases h; exact⟨l,vvs,rfl,.inl h1,h2,h3⟩
 | @hd l o es kvs' vvs h1 h2 h3 h4=>subst h2;have h:HM.ZeA (HM.Zi kvs')=some kvs:=h;rw[HM.dec_enc]at h;cases h;exact⟨l,vvs,rfl,.inr ⟨o,sub _ _ h1⟩,h3,h4⟩
 | hf _=>cases h
 | otl _ _ _ _=>cases h
theorem Zsf{r:HM.Env}{d:PyData}(h:HM.Zm2 fa f r=some d):∃x q kvs y,fa r=some x/\f r=some q/\HM.ZjX q=some kvs/\HM.Zbb x=some y/\d=.bool (HM.Zj kvs y).isSome:=by
 unfold HM.Zm2 at h;split at h
 ·split at h
  ·split at h
   ·obtain⟨y,h1,h2⟩:=Zwx.mp h
    exact⟨_,_,_,y,by assumption,by assumption,by assumption,h1,h2.symm⟩
   ·cases h
  ·cases h
 ·cases h
theorem Zn3{r:HM.Env}{d:PyData}(h:HM.Zdj fa f r=some d):∃x q kvs y,fa r=some x/\f r=some q/\HM.ZjX q=some kvs/\HM.Zbb x=some y/\d=.bool (!(HM.Zj kvs y).isSome):=by
 unfold HM.Zdj at h;split at h
 ·split at h
  ·split at h
   ·obtain⟨y,h1,h2⟩:=Zwx.mp h
    exact⟨_,_,_,y,by assumption,by assumption,by assumption,h1,h2.symm⟩
   ·cases h
  ·cases h
 ·cases h
theorem ZtG(hu:X.A.units+1<cLine)(ha:XE X a fa)(hb:XB X b f)(hm:ZxN .In b=false:=by rfl):XT X (.Compare a [.In] [b] pos) (HM.tV (HM.Zm2 fa f)):=by intro r d h;obtain⟨x,q,kvs,y,h1,h2,h3,h4,e⟩:=Zsf (Zgt h);cases e;refine PT.imp (Znf (Zuk hu (ha r x h1) (hb r q h2)) hm) λσ H Q ⟨F0,H0,F,at_,k⟩=>?_;refine⟨F0,H0,F,at_,λv F1 H1 x1 r1=>⟨F0,H0,F1,at_.grow x1,λw F2 H2 x2 ⟨fp,r2⟩=>?_⟩⟩;obtain⟨l,vvs,e1,e2,T⟩:=ZiW x2.sub r2 h3;obtain⟨bb,rfl,hbb⟩:=ZbH h4 (r1.mono x2.ff);exact⟨l,_,e1,ZpK e2 (x2.sub _ _ hbb),_,rfl,by rw[T.some_iff]; exact k F2 H2 (x1.trans x2)⟩
theorem Zkm(hu:X.A.units+1<cLine)(ha:XE X a fa)(hb:XB X b f)(hm:ZxN .NotIn b=false:=by rfl):XT X (.Compare a [.NotIn] [b] pos) (HM.tV (HM.Zdj fa f)):=by intro r d h;obtain⟨x,q,kvs,y,h1,h2,h3,h4,e⟩:=Zn3 (Zgt h);cases e;refine PT.imp (Znf (ZkK hu (ha r x h1) (hb r q h2)) hm) λσ H Q ⟨F0,H0,F,at_,k⟩=>?_;refine⟨F0,H0,F,at_,λv F1 H1 x1 r1=>⟨F0,H0,F1,at_.grow x1,λw F2 H2 x2 ⟨fp,r2⟩=>?_⟩⟩;obtain⟨l,vvs,e1,e2,T⟩:=ZiW x2.sub r2 h3;obtain⟨bb,rfl,hbb⟩:=ZbH h4 (r1.mono x2.ff);exact⟨l,_,e1,ZpK e2 (x2.sub _ _ hbb),_,rfl,by rw[T.some_iff]; exact k F2 H2 (x1.trans x2)⟩
theorem Zgh(hu:X.A.units+1<cLine)(ha:XB X a f)(hk:XE X b fb)(hs:Zmr b:=by intro _ _; rfl):XE X (.Subscript a b pos) (HM.Za6 f fb):=by
 intro r d h;unfold HM.Za6 at h;split at h
 ·rename_i q hq
  split at h
  ·rename_i kvs hd
   split at h
   ·rename_i x hx
    split at h
    ·rename_i y hy
     refine PE.imp (Zkf hu (ha r q hq) (hk r x hx) hs) λσ H Q ⟨F0,H0,F,at_,kk⟩=>?_;refine⟨F0,H0,F,at_,λv F1 H1 x1 ⟨fp,r1⟩=>⟨F0,H0,F1,at_.grow x1,λw F2 H2 x2 r2=>?_⟩⟩;obtain⟨l,vvs,e1,e2,T⟩:=ZiW x1.sub r1 hd;have e2':=rdT e2 x2.hh;have T':Zaq X.K F2 kvs vvs:=⟨T.1,T.2.mono x2.ff⟩;obtain⟨bb,rfl,hbb⟩:=ZbH hy r2;obtain⟨u,q1,q2⟩:=T'.look.1 d h;exact⟨l,u,e1,by rw[<-q1]; exact ZpK e2' (x2.sub _ _ hbb),kk u F2 H2 (x1.trans x2) q2⟩
    ·cases h
   ·cases h
  ·cases h
 ·cases h
structure XAL(X:Cx)(es:List Expr)(f:HM.AF):Prop where
 len:∀r ds,f r=some ds->ds.length=es.length
 pa:∀r ds,f r=some ds->PA X es λσ H Q=>Now X.K r σ H λF0 H0 F=>∀vs F' H',Ext F H F' H'->Zq X.K H' ds vs->Q vs H'
theorem ZZ.lent{K:Zww}{F H:Hp}{q:HM.B}{v:V}{fp:List Addr}{d:PyData}(sub:Zo F H)(r:ZZ K F H q v fp)(h:HM.frz q=some d):Rep K H d v:=by
 cases r with
 | pl r=>cases h; exact r.mono sub
 | ol h1 r=>cases h; exact .lst (.of h1) r.1 (r.mono sub).2
 | ok _ _ _=>cases h
 | hd h1 he hk r=>cases h; exact(Rep.dct (.inr ⟨_,h1⟩) he hk r.2).mono sub
 | hf h1=>cases h; exact(Rep.fn h1).mono sub
 | ot h1 hk r=>cases h; exact .dct (.inl h1) rfl hk (r.mono sub).2
 | otl _ _ _ _=>cases h
end
end HP
namespace HP
open PySem PySem.Spec PyProof.Rows L2
variable[FX]
section
variable{X:Cx}{a b c e:Expr}{fa fb fc:HM.EF}{f:HM.BF}{pos p:Pos}{es:List Expr}
theorem ZtH{g:HM.AF}(h:XA X es g):XAL X es g :=
 ⟨h.len,λr ds hd=>PA.imp (h.pa r ds hd) λσ H Q ⟨F0,H0,F,at_,k⟩=>⟨F0,H0,F,at_,λvs F' H' x q=>k vs F' H' x (q.mono x.sub)⟩⟩
theorem Zly{g:HM.AF}(ha:XE X e fa)(hr:XAL X es g)(hs:ZwJ (e::es) X.env=(false,eval e X.env)::ZwJ es X.env:=by rfl):XAL X (e::es) (HM.Zd fa g):=by
 refine⟨λr ds h=>?_,λr ds h=>?_⟩
 ·unfold HM.Zd at h
  split at h
  ·obtain⟨xs,h1,h2⟩:=Zwx.mp h
   subst h2;rw[ZwM,ZwM,hr.len r xs h1]
  ·cases h
 unfold HM.Zd at h;split at h
 ·rename_i x hx
  obtain⟨xs,h1,h2⟩:=Zwx.mp h;subst h2;refine PA.imp (Z9 (ha r x hx) (hr.pa r xs h1) hs) λσ H Q ⟨F0,H0,F,at_,k⟩=>?_;exact⟨F0,H0,F,at_,λv F1 H1 x1 r1=>⟨F0,H0,F1,at_.grow x1,λvs F2 H2 x2 r2=>k (v::vs) F2 H2 (x1.trans x2) (.cons ((r1.mono x2.ff).mono x2.sub) r2)⟩⟩
 ·cases h
theorem Zrd{g:HM.AF}(ha:XB X e f)(hr:XAL X es g)(hs:ZwJ (e::es) X.env=(false,eval e X.env)::ZwJ es X.env:=by rfl):XAL X (e::es) (HM.Zd (HM.Zpg f) g):=by
 refine⟨λr ds h=>?_,λr ds h=>?_⟩
 ·unfold HM.Zd at h
  split at h
  ·obtain⟨xs,h1,h2⟩:=Zwx.mp h
   subst h2;rw[ZwM,ZwM,hr.len r xs h1]
  ·cases h
 unfold HM.Zd at h;split at h
 ·rename_i x hx
  obtain⟨xs,h1,h2⟩:=Zwx.mp h;subst h2;obtain⟨q,hq,hf⟩:=Zzr.mp hx;refine PA.imp (Z9 (ha r q hq) (hr.pa r xs h1) hs) λσ H Q ⟨F0,H0,F,at_,k⟩=>?_;exact⟨F0,H0,F,at_,λv F1 H1 x1 ⟨fp,r1⟩=>⟨F0,H0,F1,at_.grow x1,λvs F2 H2 x2 r2=>k (v::vs) F2 H2 (x1.trans x2) (.cons ((r1.lent x1.sub hf).monoT x2.hh) r2)⟩⟩
 ·cases h
theorem Rep.flat{K:Zww}{F F':Hp}{d:PyData}{v:V}(r:Rep K F d v)(h:HM.ZjK d=true):Rep K F' d v:=by
 cases r with
 | non=>exact .non
 | bl b=>exact .bl b
 | int i=>exact .int i
 | str x=>exact .str x
 | tupk _=>cases h
 | tup _ _ _=>cases h
 | lst _ _ _=>cases h
 | dct _ _ _ _=>cases h
 | fn _=>cases h
theorem Ext.forget{F H F'' H'':Hp}(s:Zo F H)(n:NoT F)(x:Ext (Zck H) H F'' H''):Ext F H F H'' :=
 ⟨Zo.refl F,x.hh,(n.sub s).trans (x.ff.trans x.sub),λ_ _ z=>.inl z,x.tab,id⟩
theorem Zq1(hc:X.calm=true):ZaJ X (.builtin "max") (λxs H Q=>∃(p:Addr) (ns:List Int),xs=[.ref p]/\SqL X.K H p (ns.map V.int)/\0<ns.length/\∀M,M∈ns->(∀a,a∈ns->a<=M)->Q (.int M) H):=by
 intro pins s σ H xs us Q I r h;obtain⟨p,ns,rfl,hq,hne,q⟩:=h;obtain⟨u,rfl,rx⟩:=vals1 r;cases rx;obtain⟨its,rv,pl,hz⟩:=I.list hq;have hi:=Zdr rv;obtain⟨xs,e⟩:=hi.allInts.items;have hns:ns=xs.toList.map (·.1):=by rw[<-hi.numsOf,<-nums_intItems,<-e]
 have hsz:0<xs.size:=by have h3:=hne; rw[hns,Zwy,ZwY]at h3; exact h3
 have hl:=pl.isList;rw[e]at hl;refine max_intList (I.ok.hd hc) hl hsz λv h' tk hv hk=>?_;obtain⟨t,rfl⟩:=intItems_at hv;obtain⟨h1,h2⟩:=argBest_gt (numAt xs) (xs.size-1);refine⟨.int _,H,I.kept (t':=tk) hk,⟨t,rfl⟩,q _ ?_ λa ha=>?_⟩
 ·rw[hns,numAt_eq]; exact getD_mem (by rw[Zwy,ZwY]; omega)
 ·rw[hns]at ha
  obtain⟨j,hj,rfl⟩:=mem_getD ha;rw[Zwy,ZwY]at hj;rw[<-numAt_eq]; exact h2 j (by omega)
theorem ZsD(hm:X.mg "max" = none)(hc:X.calm=true)(ha:XB X a f)(hg:Gl X "max":=by rfl)(hs:ZwJ [a] X.env=[(false,eval a X.env)]:=by rfl):XE X (.Call (.Name "max" p) [a] [] pos) (HM.Zjv f):=by
 intro r d h;unfold HM.Zjv at h;split at h
 ·rename_i x hx
  split at h
  ·rename_i ds hds
   split at h
   ·rename_i ns hns
    obtain⟨m,h1,h2⟩:=Zwx.mp h;subst h2;refine PE.imp (ZcO (Zq1 hc) hg hm ZqW (Zel ha hx hs) (he:=hs)) λσ H Q ⟨F0,H0,F,at_,k⟩=>?_;refine⟨F0,H0,F,at_,λv fp F1 H1 x1 r1=>?_⟩;obtain⟨l,vs,e1,hq,rs⟩:=Zfn x1.sub r1 hds;rw[Zch hns rs]at hq;obtain⟨m1,m2⟩:=ZAU.mp h1;refine⟨l,ns,by rw[e1],hq,List.length_pos_of_mem m1,λM k1 k2=>?_⟩;have:M=m:=Int.le_antisymm (m2 M k1) (k2 m m1);subst this;exact k _ F1 H1 x1 (.int _)
   ·cases h
  ·cases h
 ·cases h
end
end HP
namespace HP
open PySem PySem.Spec PyProof.Rows L2
variable[FX]
end HP
namespace HP
open PySem PySem.Spec PyProof.Rows L2
variable[FX]
section
variable{X:Cx}{a b c e:Expr}{fa fb fc:HM.EF}{f:HM.BF}{pos p:Pos}{es:List Expr}
theorem ZpX(i:Nat){x:Str}{p1 p2 p3:Pos}(ha:XB X a f)(hN:X.N[i]?=some x:=by rfl)(hv:Vis X.env.scope x:=by first | exact Zxl rfl | exact Zw6 (Zxl rfl) | exact Zw6 (Zw6 rfl))(hd:(x==("__debug__":Str))=false:=by decide)(hcd:(x==("__classdict__":Str))=false:=by decide)
  (hbase:ZyC (.Name x p1) "extend" X.env (eval (.Name x p1) X.env)=eval (.Name x p1) X.env:=by rfl)
  (hfew:((backTo p3 (ZwJ [a] X.env)).all (λx=>!x.1)&&(ZAw p3 (ZzA [] X.env)).all (λx=>x.1.isSome)&&decide (([a]:List Expr).length+([]:List Keyword).length+(if([]:List Keyword).isEmpty then 0 else 1)<30))=true:=by rfl)
  (hline:(p2.endLine==p3.line)=true:=by rfl) (hs:ZwJ [a] X.env=[(false,eval a X.env)]:=by rfl):XS X (.Expr (.Call (.Attribute (.Name x p1) "extend" p2) [a] [] p3) pos) (HM.Zir i f):=by
 intro r o h;unfold HM.Zir at h;split at h
 ·rename_i ds hds
  split at h
  ·rename_i es hes
   split at h
   ·rename_i hz
    cases h;refine PS.imp (Zgv (Zlk Zyq PySem.F.slot_list_extend PySem.F.type_list_extend Zqv (ZbG hN hv hd hcd) (Z9 (ha r _ hes) Zbv hs) hbase hfew hline hs rfl)) λE σ H ⟨F0,H0,F,at_,k⟩=>?_;obtain⟨l,vs,e1,e2,e3,_⟩:=at_.chgList (es:=ds) hds;refine⟨.ref l,e1,.inl ⟨rfl,_,SqL.of e2⟩,F0,H0,F,at_,λv F1 H1 x1 ⟨fp,r1⟩=>?_⟩;have at1:=at_.grow x1;obtain⟨l',vs',f1,f2,f3,f4⟩:=at1.chgList (es:=ds++es) hds;rw[e1]at f1;cases f1;cases r1 with
    | @ol b _ us hb rs =>
     refine⟨_,b,vs',us,rfl,rfl,f2,hb,?_,k _ F1 _ (f4 _ (f3.append rs))⟩;have e4:=f3.1;have e6:=rs.1;have e5:(1000000:Nat)<=sizeLine:=by decide
     unfold HM.big at hz;omega
   ·cases h
  ·cases h
 ·cases h
theorem ZtI(i j:Nat){x y:Str}{p1 p2 p3 p4:Pos}(hN:X.N.Nodup)(hNi:X.N[i]?=some x:=by rfl)(hNj:X.N[j]?=some y:=by rfl)(hx:Loc X.env.scope x:=by first | exact Zxl rfl | exact Zw6 rfl)(hv:Vis X.env.scope y:=by first | exact Zxl rfl | exact Zw6 (Zxl rfl) | exact Zw6 (Zw6 rfl))(hd:(y==("__debug__":Str))=false:=by decide)(hcd:(y==("__classdict__":Str))=false:=by decide)
  (hbase:ZyC (.Name y p1) "pop" X.env (eval (.Name y p1) X.env)=eval (.Name y p1) X.env:=by rfl) (hline:(p2.endLine==p3.line)=true:=by rfl)
  (hs:ZyJ (.Call (.Attribute (.Name y p1) "pop" p2) [] [] p3) (some (.Name x p4)) pos.line X.env=pure false:=by rfl) (hf:X.fn x=true\/X.env.scope.names.lookup x=some .local:=by first | exact .inl rfl | exact .inr rfl) :
  XS X (.Assign [.Name x p4] (.Call (.Attribute (.Name y p1) "pop" p2) [] [] p3) pos) (HM.ZrU i j):=by
 intro r o h;unfold HM.ZrU at h;split at h
 ·rename_i ds hds
  split at h
  ·rename_i d hd'
   cases h;refine PS.imp (ZmM hN hNi hx (ZuD Zyq PySem.F.slot_list_pop PySem.F.type_list_pop Zuc (ZbG hNj hv hd hcd) hbase hline) hs hf) λE σ H ⟨F0,H0,F,at_,k⟩=>?_;obtain⟨l,vs,e1,e2,e3,e4⟩:=at_.chgList (es:=ds.dropLast) hds;obtain⟨v,q1,q2⟩:=e3.get hd';refine⟨.ref l,e1,.inl ⟨rfl,_,SqL.of e2⟩,l,vs,v,rfl,rfl,e2,by rw[<-e3.1]; exact q1,k _ F _ ((e4 _ ?_).set q2)⟩;rw[ZAV,ZAV,<-e3.1];exact e3.take _
  ·cases h
 ·cases h
def spF(K:Zww)(n:Nat)(M:List PyData->Option PyData):Sp:=λvs H Q _=>∃F ds ys,vs.length=n/\Zo F H/\Tb H/\NoT F/\Zq K F ds vs/\M ds=some (.list ys)/\∀l us F' H',Ext F H F' H'->H' l=some (.lst us)->Zq K F' ys us->F' l=none->H l=none->Q (.ref l) H'
structure Zdl(P:Program)(w:World)(K:Zww)(mg:Str->Option Value)(base:Heap)(k:Nat)(x:Str)(M:List PyData->Option PyData):Prop where
 ex:∃f fd ps,(∀ds d,M ds=some d->ds.length=ps.length)/\ZcQ P w K mg base CX0 k f fd ps (spF K ps.length M)/\mg x=some (.ref f)/\ZxP K (.ref f)=true/\Binds K fd ps []
theorem Zdl.mono{P:Program}{w:World}{K:Zww}{mg:Str->Option Value}{base:Heap}{j k:Nat}{x:Str}{M:List PyData->Option PyData}(C:Zdl P w K mg base j x M)(h:j<=k):Zdl P w K mg base k x M:=by obtain⟨f,fd,ps,l,F,r⟩:=C.ex;exact⟨f,fd,ps,l,F.mono h,r⟩
theorem Zre{k:Nat}{x:Str}{g:HM.AF}{M:List PyData->Option PyData}(C:Zdl X.prog X.w X.K X.mg X.base k x M)(hr:Zao k X.A)(ha:XA X (e::es) g)(hg:Gl X x:=by rfl)(hdb:(x==("__debug__":Str))=false:=by decide)
  (he:ZwJ (e::es) X.env=(false,eval e X.env)::ZwJ es X.env:=by rfl) (hpl:(backTo pos (ZwJ es X.env)).any (·.1)=false:=by rfl):XF X (.Call (.Name x p) (e::es) [] pos) (HM.ZhO M g):=by
 intro r d hd;unfold HM.ZhO at hd;split at hd
 ·rename_i ds hds
  split at hd
  ·rename_i ys hM
   cases hd;obtain⟨fa,fd,ps,hl,F,hm,hk,hb⟩:=C.ex;refine PE.imp (ZjU (E:=E0) F hr hg hm hk hb .nil Zps (ha.pa r ds hds) hdb he hpl) λσ H Q ⟨F0,H0,F1,at_,k⟩=>?_;refine⟨F0,H0,F1,at_,λvs F' H' x q=>?_⟩;show spF X.K ps.length M (vs++[]) H' Q E0;rw[Zxc];refine⟨F',ds,ys,by rw[<-q.1]; exact hl ds _ hM,x.sub,at_.tbx x,at_.ntx x,q,hM,λl us F2 H2 x2 h1 h2 h3 h4=>k _ F2 H2 (x.trans x2) ⟨[l],.ol h1 h2,by simp,λa ha=>?_⟩⟩;obtain rfl:a=l:=by simpa using ha
   exact⟨h3,x.hh.free h4⟩
  ·cases hd
 ·cases hd
theorem ZpI{P:Program}{w:World}{K:Zww}{mg:Str->Option Value}{base:Heap}{k:Nat}{x qual:Str}{st:Stmt}{f:Addr}{fd:FuncData}{N ps:List Str}{e:Expr}{g:HM.BF}{p1:Pos}(Fn:Fun K x qual st f fd)(S:Zu N ps (Ze st))(hm:mg x=some (.ref f))(hb:Binds K fd ps [])
  (hst:Zaw st=[.Return (some e) p1]) (hol:∀r b,g r=some b->∃ys,b=.ol ys)
  (body:∀(cdv:Value) (A:Around) (outer:List Env) (s:Shared) (H:Hp) (E:XK),Zao k (A.deeper (envOfC qual (Ze st) s.heap.objs.size f cdv))->XF (Zfk CX0 P w K mg base N qual (Ze st) f cdv A outer s H E).nox e g) :
  Zdl P w K mg base (k+1) x (HM.fnOf ps.length N.length (HM.ZB (HM.eOf g))):=by
 have hpl:ps.length<=N.length:=by have:=congrArg Zxd S.pre; rw[Zx0]at this; omega
 refine⟨f,fd,ps,λds d h=>?_,Fn.ok S (λvs H Q E h=>?_) (λcdv A outer s H vs Q E hr h=>?_),hm,Fn.kp,hb⟩
 ·unfold HM.fnOf at h
  split at h
  ·assumption
  ·cases h
 ·obtain⟨_,_,_,h,_⟩:=h
  exact h
 ·obtain⟨F,ds,ys,hl,sub,tb,nt,q,hM,kk⟩:=h
  unfold HM.fnOf at hM;split at hM
  ·rename_i hds
   have a0:=Zfs (N:=N) sub tb nt q (by omega);have hg:g (HM.ZdM N.length ds)=some (.ol ys):=by
    split at hM
    ·rename_i r hr'
     cases hq:HM.eOf g (HM.ZdM N.length ds)with
     | none=>unfold HM.ZB at hr'; rw[hq]at hr'; cases hr'
     | some d=>unfold HM.ZB at hr'; rw[hq]at hr'; cases hr'
    ·rename_i d' hr'
     cases hM;obtain⟨d,h1,h2⟩:=Zwx.mp hr';cases h2;obtain⟨b,h3,h4⟩:=Zzr.mp h1;obtain⟨zs,rfl⟩:=hol _ _ h3;cases h4;exact h3
    ·cases hM
   rw[hst];refine⟨_,Zol (Zm6 (body cdv A outer s H E hr _ _ hg)),F,H,F,a0,λv F' H' x ⟨fp,r1,nd,hn⟩=>?_⟩;cases r1 with
   | @ol l _ us h1 h2=>exact kk l us F' H' x h1 h2 (hn l (by simp)).1 (hn l (by simp)).2
  ·cases hM
theorem Zr1(i:HM.IF)(c:HM.TF)(e:HM.EF)(r:HM.Env)(b:HM.B)(h:HM.ZO i c e r=some b):∃ys,b=.ol ys:=by
 unfold HM.ZO at h;split at h
 ·split at h
  ·obtain⟨ys,_,h2⟩:=Zwx.mp h
   exact⟨ys,h2.symm⟩
  ·cases h
 ·cases h
end
end HP
namespace HP
open PySem PySem.Spec PyProof.Rows L2
variable[FX]
section
variable{K:Zww}{F H F0 H0 G:Hp}{a b:Addr}{ob u:HO}{vvs:List (List Key × V)}{d:PyData}{v:V}{ds:List PyData}{vs:List V}{r:HM.Env}{σ:L2.St}{i:Nat}{es:List (PyData × PyData)}
theorem ZaR(h:b≠a):sw a ob G b=G b:=by unfold sw; rw[if_neg h]
theorem ZeL:sw a ob G a=(G a).map λ_=>ob:=by unfold sw; rw[if_pos rfl]
theorem Zot(s:Zo F H):Zo (sw a ob F) (sw a ob H):=λb o z=>by
 by_cases hb:b=a
 ·subst hb
  rw[ZeL]at z ⊢;obtain⟨x,h1,h2⟩:=Zwx.mp z;rw[s _ _ h1,<-h2]; rfl
 ·rw[ZaR hb]at z ⊢; exact s b o z
theorem Zss(hG:∀u,G a=some u->u=.dT vvs):sw a (.dT vvs) (sw a ob G)=G:=by
 funext b
 by_cases hb:b=a
 ·subst hb
  rw[ZeL,ZeL];cases h:G b with
  | none=>rfl
  | some u=>rw[hG u h]; rfl
 ·rw[ZaR hb,ZaR hb]
theorem Dk.nt(h:Dk vvs u):(∀xs,u≠.tup xs)/\(∀xs,u≠.lst xs)/\(∀o xs,u≠.frz o (.lst xs))/\(∀ps,u≠.tbl ps)/\(∀x,u≠.own x):=by rcases h with h | ⟨o,h⟩<;>subst h<;>exact⟨λ_ z=>(by cases z),λ_ z=>(by cases z),λ_ _ z=>(by cases z),λ_ z=>(by cases z),λ_ z=>(by cases z)⟩
theorem Rep.sw(hF:∀u,F a=some u->Dk vvs u)(hob:Dk vvs ob)(r:Rep K F d v):Rep K (HP.sw a ob F) d v:=by
 induction r with
 | non=>exact .non
 | bl b=>exact .bl b
 | int i=>exact .int i
 | str x=>exact .str x
 | fn h=>exact .fn (FX.sw hF hob h)
 | tupk h=>exact .tupk h
 | @tup b ds vs h hl _ ih=>exact .tup (by rw[ZaR (λz=>(hF _ (z▸h)).nt.1 _ rfl)]; exact h) hl ih
 | @lst b ds vs h hl _ ih =>
  refine .lst ?_ hl ih;rcases h with h | h
  ·refine .inl ?_
   have hb:b≠a:=λz=>by
    rcases h with h | ⟨o,h⟩
    ·exact(hF _ (z▸h)).nt.2.1 _ rfl
    ·exact(hF _ (z▸h)).nt.2.2.1 _ _ rfl
   unfold Rd;rw[ZaR hb];exact h
  ·exact .inr h
 | @dct b es kvs vvs' h he hk _ ih =>
  refine .dct ?_ he hk ih
  by_cases hb:b=a
  ·subst hb
   have:vvs'=vvs/\∃u,F b=some u:=by
    rcases h with h | ⟨o,h⟩
    ·rcases hF _ h with z | ⟨o',z⟩
     ·cases z; exact⟨rfl,_,h⟩
     ·cases z
    ·rcases hF _ h with z | ⟨o',z⟩
     ·cases z
     ·cases z; exact⟨rfl,_,h⟩
   obtain⟨rfl,u,hu⟩:=this;unfold Rd;rw[ZeL,hu];rcases hob with z | ⟨o,z⟩
   ·subst z; exact .inl rfl
   ·subst z; exact .inr ⟨o,rfl⟩
  ·unfold Rd
   rw[ZaR hb];exact h
theorem Zq.sw(hF:∀u,F a=some u->Dk vvs u)(hob:Dk vvs ob)(r:Zq K F ds vs):Zq K (HP.sw a ob F) ds vs:=⟨r.1,λi d v h1 h2=>(r.2 i d v h1 h2).sw hF hob⟩
theorem Ext.sw(x:Ext F0 H0 F H)(hH:∀u,H a=some u->Dk vvs u)(hob:Dk vvs ob):Ext (HP.sw a ob F0) (HP.sw a ob H0) (HP.sw a ob F) (HP.sw a ob H) :=
 ⟨Zot x.ff,x.hh.sw,Zot x.sub,λb o z=>by
  by_cases hb:b=a
  ·subst hb
   rw[ZeL]at z;obtain⟨u,h1,h2⟩:=Zwx.mp z;rcases x.new b u h1 with q | q | ⟨xs,e,q⟩
   ·exact .inl (by rw[ZeL,q,<-h2]; rfl)
   ·exact .inr (.inl (by rw[ZeL,q]; rfl))
   ·exact absurd e ((hH _ (x.sub _ _ h1)).nt.1 xs)
  ·rw[ZaR hb]at z
   rcases x.new b o z with q | q
   ·exact .inl (by rw[ZaR hb]; exact q)
   ·refine .inr ?_
    unfold Fre;rw[ZaR hb];exact q,λt=>(x.tab (t.unsw hob)).sw hH,λt b o z=>by
  unfold HP.sw at z;split at z
  ·obtain⟨u,_,e⟩:=Zwx.mp z
   subst e; exact hob.ntt
  ·rename_i hb
   refine x.nts (λc u y=>?_) b o z
   by_cases hc:c=a
   ·subst hc; exact(hH _ (x.sub _ _ (x.ff _ _ y))).ntt
   ·exact t c u (by rw[ZaR hc]; exact y)⟩
theorem At.sw(e:At K F0 H0 F H r σ)(hFa:F a=some u)(hu:Dk vvs u)(hob:Dk vvs ob)(nh:∀(i:Nat) (es:List (PyData × PyData)),r[i]?≠some (some (HM.B.hd es))):At K (HP.sw a ob F0) (HP.sw a ob H0) (HP.sw a ob F) (HP.sw a ob H) r σ:=by
 obtain⟨fp,e⟩:=e;have hF:∀u,F a=some u->Dk vvs u:=λu' h=>by rw[hFa]at h; cases h; exact hu
 have hH:∀u,H a=some u->Dk vvs u:=λu' h=>by rw[e.sub _ _ hFa]at h; cases h; exact hu
 have own:∀i,∀c∈fp i,c≠a:=λi c hc z=>by rw[<-z,(e.own i c hc).1]at hFa; cases hFa
 refine⟨fp,e.ext.sw hH hob,e.len,λi b h=>?_,e.emp,λi b h=>?_,e.nd,e.dis,e.tb.sw (vvs:=vvs) (λu' z=>by have q:=e.ext.hh.back z (e.sub _ _ hFa) hu.nt.2.2.2.1;rw[q]; exact hu),λb o z=>?_⟩
 rotate_left 2
 ·unfold HP.sw at z
  split at z
  ·obtain⟨u,_,e⟩:=Zwx.mp z
   subst e; exact hob.ntt
  ·exact e.nt b o z
 ·obtain⟨v,h1,h2⟩:=e.at_ i b h
  refine⟨v,h1,?_⟩;have own:=own i;generalize fp i=f at h2 own;cases h2 with
  | pl q=>exact .pl (q.sw hF hob)
  | ol k q=>exact .ol (by rw[ZaR (own _ (by simp))]; exact k) (q.sw hF hob)
  | ok k hk q=>exact .ok (by rw[ZaR (own _ (by simp))]; exact k) hk (q.sw hF hob)
  | ot k hk q=>exact .ot (by rw[ZaR (own _ (by simp))]; exact k) hk (q.sw hF hob)
  | otl k hk hv q=>refine .otl (by rw[ZaR (own _ (by simp))]; exact k) hk hv λi ds l h1 h2=>?_;obtain⟨vs,q1,q2⟩:=q i ds l h1 h2;exact⟨vs,by rw[ZaR (own l (ZwC _ (Zw3 h2)))]; exact q1,q2.sw hF hob⟩
  | hd _ _ _ _=>exact absurd h (nh _ _)
  | hf _=>exact absurd h (nh _ _)
 ·rw[ZaR (own i b h),ZaR (own i b h)]
  exact e.own i b h
theorem set_same{x:Option V}(h:σ[i]?=some x):σ.set i x=σ:=by obtain⟨h1,h2⟩:=ZwI.mp h;rw[<-h2];exact Zy1 h1
theorem At.say{b':HM.B}(e:At K F0 H0 F H r σ)(h1:σ[i]?=some (some v))(q:ZZ K F H b' v []):At K F0 H0 F H (r.set i (some b')) σ:=by
 have:=e.store (i:=i) q Zx4 (λa h=>by simp at h) λ_ _ _ _ _ _ h=>by simp at h
 rwa [set_same h1]at this
theorem At.loosen(e:At K F0 H0 F H r σ)(h:r[i]?=some (some (.hd es))):At K F0 H0 F H (r.set i (some (.pl (.dict es)))) σ:=by
 obtain⟨v,fp,h1,h2⟩:=e.any h;cases h2 with
 | hd k1 k2 k3 k4=>exact e.say h1 (.pl (.dct (.inr ⟨_,k1⟩) k2 k3 k4.2))
 | hf k1=>exact e.say h1 (.pl (.fn k1))
theorem Zst(h:r.all (λq=>!HM.Za5 q)=true)(i:Nat)(es:List (PyData × PyData)):r[i]?≠some (some (.hd es)):=λz=>by have:=ZwF.mp h _ (Zw3 z);cases this
theorem ZqO{b':HM.B}(h:(r.set i none).all (λq=>!HM.Za5 q)=true)(hb:∀es,b'≠.hd es)(j:Nat)(es:List (PyData × PyData)):(r.set i (some b'))[j]?≠some (some (.hd es)):=λz=>by
 by_cases hj:i=j
 ·subst hj
  by_cases hi:i<r.length
  ·rw[Zxh hi]at z
   injection z with z
   injection z with z
   exact hb _ z
  ·rw[ZAP (by rw[ZxE]; omega)]at z
   cases z
 ·rw[Zw2 hj]at z
  exact Zst h j es (by rw[Zw2 hj]; exact z)
end
section
variable{X:Cx}{pins:List (Addr × Obj)}{σ:L2.St}{H:Hp}{s:Shared}{a:Addr}{u ob:HO}{vvs:List (List Key × V)}
theorem Zlp{h:Heap}{o:HO}{b:Addr}(ha:H a=some u)(hu:Dk vvs u)(x:ZW X.prog X.w H h b o):ZW X.prog X.w (sw a ob H) h b o :=
 x.stay (λ_ _ _ q=>q) (λc q=>by rw[ZaR (λz=>by rw[z,ha]at q; cases q; exact hu.nt.2.2.2.2 _ rfl)]; exact q) λc xs q=>by rw[ZaR (λz=>by rw[z,ha]at q; cases q; exact hu.nt.1 _ rfl)]; exact q
theorem Zmh(I:Inv X pins σ H s)(ha:H a=some u)(hu:Dk vvs u)(ok:ZW X.prog X.w (sw a ob H) s.heap a ob)(hn:∀o w,X.H₀ a≠some (.frz o w)):Inv X pins σ (HP.sw a ob H) s:=by
 have none':∀b,H b=none->HP.sw a ob H b=none:=λb h=>by rw[ZaR (λz=>by rw[z,ha]at h; cases h)]; exact h
 refine⟨I.ok,I.os,I.bare,⟨I.base.keep,I.base.slot,λb o h1 h2 h3=>none' b (I.base.free b o h1 h2 h3),I.base.there,λb xs h=>?_,λb o w h=>?_,λb ps h=>?_⟩,I.loc,I.cell,none' _ I.free,λx c h=>none' _ (I.freeC x c h),λp hp=>?_,λb o h=>?_,I.len⟩
 ·have q:=I.base.tups b xs h
  rw[ZaR (λz=>by rw[z,ha]at q; cases q; exact hu.nt.1 _ rfl)];exact q
 ·have q:=I.base.frzs b o w h
  rw[ZaR (λz=>hn o w (by rw[<-z]; exact h))];exact q
 ·obtain⟨m,q⟩:=I.base.tbls b ps h
  exact⟨m,by rw[ZaR (λz=>by rw[z,ha]at q; cases q; exact hu.nt.2.2.2.1 _ rfl)]; exact q⟩
 ·have q:=I.pin p hp
  exact⟨q.1,none' _ q.2.1,q.2.2⟩
 ·by_cases hb:b=a
  ·subst hb
   rw[ZeL,ha]at h;cases h;exact ok
  ·rw[ZaR hb]at h
   exact Zlp ha hu (I.hok b o h)
theorem Zie(i:Nat){st:Stmt}{g:HM.SF}(h:XS X st g):XS X st (HM.Zec i g):=by
 intro r o ho;unfold HM.Zec at ho;split at ho
 case h_2=>exact h r o ho
 rename_i es hr;split at ho
 case isFalse=>cases ho
 rename_i hall;have nh:=Zst hall;intro pins s σ H E I ⟨F0,H0,F,at_,k⟩;obtain⟨v,h1,h2⟩:=at_.plain hr;cases h2 with
 | @dct a _ kvs vvs hd he hk hrr =>
  have rs:∀{F':Hp},Zo F F'->Zq X.K F' (kvs.map (·.2)) (vvs.map (·.2)):=λs=>by refine Zq.mono ⟨?_,hrr⟩ s;have:=congrArg Zxd hk;rw[Zwy,Zwy]at this ⊢;exact this
  rcases hd with hd | ⟨q,hd⟩
  ·have hHa:=at_.sub _ _ hd
   obtain⟨z,y,xs,rl,q,es1,ep,e1,c1⟩:=(show ZW X.prog X.w H s.heap a (.dT vvs) from I.hok a _ hHa);have hn:∀o w,X.H₀ a≠some (.frz o w):=λo w z=>by have:=I.base.frzs _ _ _ z;rw[hHa]at this; cases this
   have I1:=Zmh (ob:=.frz q (.dT vvs)) I hHa (.inl rfl) ⟨e1,Zlp hHa (.inl rfl) ⟨z,y,xs,rl,q,es1,ep,e1,c1⟩⟩ hn;have at1:=at_.sw (ob:=.frz q (.dT vvs)) hd (.inl rfl) (.inr ⟨q,rfl⟩) nh;have Ra:HP.sw a (.frz q (.dT vvs)) F a=some (.frz q (.dT vvs)):=by rw[ZeL,hd]; rfl
   have hFd:∀u,F a=some u->Dk vvs u:=λu z=>by rw[hd]at z; cases z; exact .inl rfl
   have at2:=(at1.say (i:=i) h1 (.hd Ra he hk (Zq.sw hFd (.inr ⟨q,rfl⟩) (rs (Zo.refl F))))).rebase;have e0:HP.sw a (.dT vvs) (HP.sw a (.frz q (.dT vvs)) F0)=F0:=Zss λu z=>by have:=at_.ext.ff _ _ z;rw[hd]at this; cases this; rfl
   have e1:HP.sw a (.dT vvs) (HP.sw a (.frz q (.dT vvs)) H0)=H0:=Zss λu z=>by exact at_.ext.hh.back z hHa λ_ w=>by cases w
   split at ho
   ·rename_i r' hg
    split at ho
    case h_2=>cases ho
    rename_i es' hr';split at ho
    case isFalse=>cases ho
    rename_i hall';cases ho;refine thn (h _ _ hg pins s σ _ { nx:=λσ' H'=>∃F',At X.K (HP.sw a (.frz q (.dT vvs)) F) (HP.sw a (.frz q (.dT vvs)) H0) F' H' r' σ',rt:=λ_ _=>False,bk:=λ_ _=>False,ct:=λ_ _=>False } I1 ⟨_,_,_,at2,λσ' F' H' a'=>⟨F',a'⟩⟩) λfl s' z=>?_;cases fl with
    | next=>obtain⟨σ',H',I',F',a'⟩:=z;have Fa:=a'.ext.ff _ _ Ra;have Ha:=a'.sub _ _ Fa;have a3:=((At.unbase at1.ext (at1.nt0) a').loosen hr').sw (ob:=.dT vvs) Fa (.inr ⟨q,rfl⟩) (.inl rfl) (ZqO hall' λ_ z=>by cases z);rw[e0,e1]at a3;exact⟨σ',_,Zmh I' Ha (.inr ⟨q,rfl⟩) (Zlp Ha (.inr ⟨q,rfl⟩) (ZjH I'.hok (.inr ⟨q,Ha⟩))) hn,k σ' _ _ a3⟩
    | brk=>obtain⟨_,_,_,z⟩:=z; exact z.elim
    | cont=>obtain⟨_,_,_,z⟩:=z; exact z.elim
    | ret u=>obtain⟨_,_,_,_,_,z⟩:=z; exact z.elim
   ·rename_i d hg
    cases ho;refine thn (h _ _ hg pins s σ _ { nx:=λ_ _=>False,bk:=λ_ _=>False,ct:=λ_ _=>False,rt:=λv' H'=>∃F',Ext (HP.sw a (.frz q (.dT vvs)) F) (HP.sw a (.frz q (.dT vvs)) H0) F' H'/\Rep X.K F' d v' } I1 ⟨_,_,_,at2,λv' F' H' x q=>⟨F',x,q⟩⟩) λfl s' z=>?_;cases fl with
    | ret u=>obtain⟨v',σ',H',I',rv,F',x',r'⟩:=z;have Fa:=x'.ff _ _ Ra;have Ha:=x'.sub _ _ Fa;have x3:=(Ext.unbase at1.ext x').sw (a:=a) (vvs:=vvs) (ob:=.dT vvs) (λu z=>by rw[Ha]at z; cases z; exact .inr ⟨q,rfl⟩) (.inl rfl);rw[e0,e1]at x3;exact⟨v',σ',_,Zmh I' Ha (.inr ⟨q,rfl⟩) (Zlp Ha (.inr ⟨q,rfl⟩) (ZjH I'.hok (.inr ⟨q,Ha⟩))) hn,rv,k v' _ _ x3 (r'.sw (λu z=>by rw[Fa]at z; cases z; exact .inr ⟨q,rfl⟩) (.inl rfl))⟩
    | next=>obtain⟨_,_,_,z⟩:=z; exact z.elim
    | brk=>obtain⟨_,_,_,z⟩:=z; exact z.elim
    | cont=>obtain⟨_,_,_,z⟩:=z; exact z.elim
   ·cases ho
  ·have at2:=at_.say (i:=i) h1 (.hd hd he hk (rs (Zo.refl F)))
   split at ho
   ·rename_i r' hg
    split at ho
    case h_2=>cases ho
    rename_i es' hr';split at ho
    case isFalse=>cases ho
    cases ho;exact h _ _ hg pins s σ H E I ⟨F0,H0,F,at2,λσ' F' H' a'=>k σ' F' H' (a'.loosen hr')⟩
   ·rename_i d hg
    cases ho;exact h _ _ hg pins s σ H E I ⟨F0,H0,F,at2,k⟩
   ·cases ho
 | fn hv =>
  have at2:=at_.say (i:=i) h1 (.hf hv);split at ho
  ·rename_i r' hg
   split at ho
   case h_2=>cases ho
   rename_i es' hr';split at ho
   case isFalse=>cases ho
   cases ho;exact h _ _ hg pins s σ H E I ⟨F0,H0,F,at2,λσ' F' H' a'=>k σ' F' H' (a'.loosen hr')⟩
  ·rename_i d hg
   cases ho;exact h _ _ hg pins s σ H E I ⟨F0,H0,F,at2,k⟩
  ·cases ho
def Itd(a:Addr)(o:Obj):It :=
 ⟨λi H=>∃vvs q,H a=some (.frz o (.dT vvs))/\vvs[i]?=some q,λi H x H'=>H'=H/\∀vvs,H a=some (.frz o (.dT vvs))->∃q b,vvs[i]?=some q/\x=.ref b/\H b=some (.tup (q.1.map kV)),λi H=>∃vvs,H a=some (.frz o (.dT vvs))/\vvs.length<=i⟩
theorem ZpP{α β:Type}{R:α->β->Prop}{l:List α}{m:List β}(r:Paired R l m):∀{i:Nat} {x:α},l[i]?=some x->∃y,m[i]?=some y/\R x y:=by
 induction r with
 | nil=>intro i x e; simp at e
 | @cons p q _ _ hq _ ih =>
  intro i x e;cases i with
  | zero=>rw[ZyS]at e; cases e; exact⟨q,rfl,hq⟩
  | succ i=>rw[Zw8]at e ⊢; exact ih e
theorem Zqh{P:Program}{w:World}{K:Zww}{tg:Expr}(a it:Addr)(o:Obj)(es:Array DictEntry)(ep:Nat)(hd:o.data=.dict es ep):Turn P w K tg (Itd a o) [it] it (λi h=>h.IsKeyIter it a i es.size ep) where
 mem:=by simp
 obj:=λi h st b hb=>by
  have e:b=it:=by simpa using hb
  subst e;obtain⟨o,e,c,d⟩:=st;exact⟨o,e,λv z=>by rw[d]at z; cases z⟩
 keep:=λi h h' st k=>st.at λo e=>k it (by simp) o e
 item:=by
  intro X hP hw hK hc i pins s σ H E I hf st hg;subst hP hw hK;obtain⟨vvs,q,hH,hq⟩:=hg;obtain⟨h1,z,lo,xs,rel,o2,es2,ep2,h2,h3,h4,h5,h6⟩:=(show ZW X.prog X.w H s.heap a (.frz o (.dT vvs)) from I.hok a _ hH);rw[h1]at h2;cases h2;rw[hd]at h4;cases h4;obtain⟨f0,f1,f2,f3,f4,f5⟩:=hf it (by simp);obtain⟨p,hp,hr1,hr2,_⟩:=ZpP rel hq;have he:es[i]?=some (entryOfKey (ZzK (Zak X.prog X.w)) p):=by rw[<-Zxj,h5,ZwZ,hp]; rfl
  refine Znm st ⟨o,h1,h3,hd⟩ he λh' st' sb=>?_;have I1:Inv X pins σ H { s with heap:=h' }:=I.turned (t':=s.toks) (λb o hb e=>(sb.2 b hb).trans e) f0 f1 f3 f4 f5;obtain⟨oi,e,c,d⟩:=id st';refine⟨_,rfl,Zlm (s:={ s with heap:=h' }) e c d (by decide) ⟨.ref p.2.1,H,I1,rfl,⟨rfl,λvv hv=>?_⟩,st',λb hb=>(hf b hb).1⟩⟩;rw[hH]at hv;cases hv;exact⟨q,p.2.1,hq,rfl,hr2⟩
 done:=by
  intro X hP hw hK hc i pins s σ H E I hf st hg;subst hP hw hK;obtain⟨vvs,hH,hq⟩:=hg;obtain⟨h1,z,lo,xs,rel,o2,es2,ep2,h2,h3,h4,h5,h6⟩:=(show ZW X.prog X.w H s.heap a (.frz o (.dT vvs)) from I.hok a _ hH);rw[h1]at h2;cases h2;rw[hd]at h4;cases h4;obtain⟨f0,f1,f2,f3,f4,f5⟩:=hf it (by simp);have hl:vvs.length=xs.length:=ZyU rel;have hes:es.size=xs.length:=by rw[<-ZwY,h5,Zwy]
  exact Zoy (I.ok.hd hc) st ⟨o,h1,h3,hd⟩ (by omega) λh' eb=>⟨rfl,I.turned (t':=s.toks) (λb o hb e=>eb b o hb e) f0 f1 f3 f4 f5⟩
 self:=λ_ _ _ _ _ st h=>wpAny_pyIter_keyiter st h
theorem Ztg{tg l:Expr}{tl:TE}(hl:PE X l tl):PI X tg l (λσ H R=>tl σ H λx H1=>∃a o vvs,x=.ref a/\H1 a=some (.frz o (.dT vvs))/\R (Itd a o) H1):=by
 intro pins s σ H R I h;refine thn (hl pins s σ H _ I h) λv s1 ⟨x,H1,I1,r1,a,o,vvs,e,hH,q⟩=>?_;subst e;cases r1;obtain⟨h1,z,lo,xs,rel,o2,es,ep,h2,h3,h4,h5,h6⟩:=(show ZW X.prog X.w H1 s1.heap a (.frz o (.dT vvs)) from I1.hok a _ hH);rw[h1]at h2;cases h2;refine Znj lo ⟨o,h1,h3,h4⟩ ⟨s1.heap.objs.size,[s1.heap.objs.size],_,_,H1,rfl,I1.kept (t':=s1.toks) λb o e=>ZwB _ e,Zqh a _ o es ep h4,⟨_,ZwO _ rfl,rfl,rfl⟩,λb hb=>?_,q⟩;obtain rfl:b=s1.heap.objs.size:=by simpa using hb
 exact I1.fpOk (ZwH _) (I1.hok.fresh (ZwH _))
theorem Zr0{K:Zww}{F:Hp}{a:Addr}{o:Obj}{kvs:List (List Key × PyData)}{vvs:List (List Key × V)}(h:F a=some (.frz o (.dT vvs)))(hk:kvs.map (·.1)=vvs.map (·.1)):ItD K (Itd a o) (kvs.map λp=>.tuple (p.1.map HM.Zaj)) F:=by
 intro F' H s1 s2;have hH:=s2 _ _ (s1 _ _ h);have hl:kvs.length=vvs.length:=by
  have:=congrArg Zxd hk
  rwa [Zwy,Zwy]at this
 refine⟨λi d hd=>?_,vvs,hH,by rw[Zwy,hl]; exact ZwH _⟩;rw[ZwZ]at hd;obtain⟨q,hq,hd⟩:=Zwx.mp hd;subst hd;have hi:i<vvs.length:=by rw[<-hl]; exact(ZwI.mp hq).1
 have hw:vvs[i]?=some vvs[i]:=ZwN hi;have hw1:vvs[i].1=q.1:=by
  have:(kvs.map (·.1))[i]?=(vvs.map (·.1))[i]?:=by rw[hk]
  rw[ZwZ,ZwZ,hq,hw]at this;exact(Zxp this).symm
 refine⟨⟨vvs,_,hH,hw⟩,λx H' hy=>?_⟩;obtain⟨e,y⟩:=hy;refine⟨e,?_⟩;obtain⟨q',b,e1,e2,e3⟩:=y vvs hH;rw[hw]at e1;cases e1;subst e2;rw[hw1]at e3;have rk:=ZfF (K:=K) (F:=Zca F' H) q.1;exact .tup (Zl6 e3) rk.1 rk.2
theorem Zif(i:Nat){tg:Expr}{x:Str}{pos:Pos}(hN:X.N[i]?=some x:=by rfl)(hv:Vis X.env.scope x:=by first | exact Zxl rfl | exact Zw6 (Zxl rfl) | exact Zw6 (Zw6 rfl))(hd:(x==("__debug__":Str))=false:=by decide)
  (hcd:(x==("__classdict__":Str))=false:=by decide):XI X tg (.Name x pos) (HM.ZaS i):=by
 intro r ds h;have row:∀{d:PyData},r[i]?=some (some (.pl d))->HM.ZcA (.pl d)=some ds->HM.Zav (HM.bOf (HM.Zc i)) r=some ds:=λ{d} h1 h2=>by
  have e:HM.Zc i r=some d:=by unfold HM.Zc; rw[h1]
  unfold HM.Zav HM.bOf;rw[e];exact h2
 unfold HM.ZaS at h;split at h
 ·rename_i q; exact Z6 (Za i hN hv hd hcd) r ds (row q h)
 ·rename_i q; exact Z6 (Za i hN hv hd hcd) r ds (row q h)
 ·rename_i es q
  obtain⟨kvs,h1,h2⟩:=Zwx.mp h;subst h2;refine PI.imp (Ztg (ZbG hN hv hd hcd)) λσ H R ⟨F0,H0,F,at_,k⟩=>?_;obtain⟨v,fp,g1,g2⟩:=at_.any q;cases g2 with
  | @hd a o _ kvs' vvs k1 k2 k3 k4=>subst k2;rw[HM.dec_enc]at h1;cases h1;exact⟨.ref a,g1,a,o,vvs,rfl,at_.sub _ _ k1,k _ F H at_.refl (Zr0 k1 k3)⟩
  | hf _=>cases h1
 ·cases h
end
end HP
namespace HP
open PySem PySem.Spec PyProof.Rows L2
variable[FX]
end HP
namespace HP
open PySem PySem.Spec PyProof.Rows L2
variable[FX]
end HP
namespace HP
open PySem
abbrev mdA(I S:Addr)(dv:Value):Args:=⟨[.ref I,.none,.ref S],[(ZyN "default",dv)]⟩
theorem Ziq:(toString "min" ++ toString ".loop":String) = "min.loop":=by decide
theorem Zs4(a dv:Value):argsOk "min" ⟨[a],[(ZyN "default",dv)]⟩:=by unfold argsOk; kernel_rfl
section
variable{prog:Program}{w:World}{A:Around}{R:Result->Shared->Prop}{I:Addr}{fp wr:List Addr}{n:Nat}{P:Nat->Value->Prop}{St:Nat->Heap->Prop}
theorem Zs5(W:Walks prog w A.in1 I fp wr n P St)(bt:Nat->Nat->Bool)(hc:CmpOf prog w A.in1 .Lt P bt){S:Addr}(hf:S ∉ fp)(dv:Value):∀(k j:Nat) (s:Shared) (b:Value) (ep:Nat),n=j+1+k->St (j+1) s.heap->P (argBest bt j) b ->
  s.heap.get? S=some { cls:=.type "list",dict:=none,data:=.seq #[b,b] ep,slots:=#[] } ->
  (∀v h' tk,P (argBest bt (n-1)) v->(∀x o,x ∉ wr->x≠S->s.heap.get? x=some o->h'.get? x=some o)->R (.ok (.ret v)) { s with heap:=h',toks:=tk }) ->
  codeAny (model prog w) A (.builtin "min.loop" (mdA I S dv)) R s:=by
 have hw:S ∉ wr:=λh=>hf (W.sub _ h);intro k
 induction k with
 | zero =>
  intro j s b ep hn st pb gS out;have hn:n=j+1:=by omega
  subst hn;refine ZxJ ZzC ?_;rw[Zxz ZxS _];show wpAny _ A.in1 (seqItems? (.ref S) >>= _) _ _ s;refine Zwv (wpAny_seqItems gS rfl ?_);show wpAny _ A.in1 (tryCatch (pyNext (.ref I)) _ >>= _) _ _ s;refine Zwv (Zzq (W.done s _ _ st λh1 tk keep=>?_));have gS1:=keep S _ hw gS;show wpAny _ A.in1 (updateSeq S (λ_=>#[]) >>= _) _ _ _;exact Zwv (ZAH gS1 rfl (Zwv (ZAM (Zwz (out b _ tk pb λx o hx hS e=>(ZxQ _ _ (Zxv hS)).trans (keep x o hx e))))))
 | succ k ih =>
  intro j s b ep hn st pb gS out;refine ZxJ ZzC ?_;rw[Zxz ZxS _];show wpAny _ A.in1 (seqItems? (.ref S) >>= _) _ _ s;refine Zwv (wpAny_seqItems gS rfl ?_);show wpAny _ A.in1 (tryCatch (pyNext (.ref I)) _ >>= _) _ _ s;refine Zwv (Zzq (W.item (j+1) s _ _ (by omega) st λv h1 tk pv st1 keep=>?_));have gS1:=keep S _ hw gS;show wpAny _ A.in1 (tryCatch (holding [v,v] (richCompare .Lt v b >>= _)) _ >>= _) _ _ _;refine Zwv (Zzq (ZxD (Zwv (hc (j+1) (argBest bt j) v b _ _ _ pv pb (Zwv (ZxD (ZxU (Zwv (ZAM (Zwz ?_))))))))));have best:argBest bt (j+1)=if bt (j+1) (argBest bt j)then j+1 else argBest bt j:=rfl
  cases hb:bt (j+1) (argBest bt j)with
  | true =>
   rw[hb,if_pos rfl]at best;simp only[if_true];refine Zwv (ZAH gS1 rfl (Zwv (ZAM ?_)));rw[Ziq];refine Zwz ⟨ZyE ZxS _,ih (j+1) _ v _ (by omega) (W.frame _ _ _ st1 λx hx o e=>?_) (by rw[best]; exact pv) (ZxC _ gS1 rfl) λv' h2 tk2 p' keep2=>?_⟩
   ·exact(ZxQ _ _ (λz:S=x=>hf (by rw[z]; exact hx))).trans e
   ·exact out v' h2 tk2 p' λx o hx hS e=>keep2 x o hx hS ((ZxQ _ _ (Zxv hS)).trans (keep x o hx e))
  | false=>rw[hb,if_neg (by simp)]at best;simp only[Zyg,if_false];refine Zwv (ZAM ?_);rw[Ziq];exact Zwz ⟨ZyE ZxS _,ih (j+1) _ b ep (by omega) st1 (by rw[best]; exact pb) gS1 λv' h2 tk2 p' keep2=>out v' h2 tk2 p' λx o hx hS e=>keep2 x o hx hS (keep x o hx e)⟩
theorem ZrL(W:Walks prog w A.in1 I fp wr n P St)(bt:Nat->Nat->Bool)(hc:CmpOf prog w A.in1 .Lt P bt){S:Addr}(hf:S ∉ fp)(dv:Value){s:Shared}{ep:Nat}(st:St 0 s.heap)
  (gS:s.heap.get? S=some { cls:=.type "list",dict:=none,data:=.seq #[] ep,slots:=#[] })
  (o0:n=0->∀h' tk,(∀x o,x ∉ wr->x≠S->s.heap.get? x=some o->h'.get? x=some o)->R (.ok (.ret dv)) { s with heap:=h',toks:=tk })
  (o1:0<n->∀v h' tk,P (argBest bt (n-1)) v->(∀x o,x ∉ wr->x≠S->s.heap.get? x=some o->h'.get? x=some o)->R (.ok (.ret v)) { s with heap:=h',toks:=tk }) :
  codeAny (model prog w) A (.builtin "min.loop" (mdA I S dv)) R s:=by
 have hw:S ∉ wr:=λh=>hf (W.sub _ h);refine ZxJ ZzC ?_;rw[Zxz ZxS _];show wpAny _ A.in1 (seqItems? (.ref S) >>= _) _ _ s;refine Zwv (wpAny_seqItems gS rfl ?_);show wpAny _ A.in1 (tryCatch (pyNext (.ref I)) _ >>= _) _ _ s
 by_cases h0:n=0
 ·subst h0
  refine Zwv (Zzq (W.done s _ _ st λh1 tk keep=>?_));show wpAny _ A.in1 (rule _ >>= _) _ _ _;exact Zwv (wpAny_rule (Zwz (o0 rfl h1 tk λx o hx _ e=>keep x o hx e)))
 ·refine Zwv (Zzq (W.item 0 s _ _ (by omega) st λv h1 tk pv st1 keep=>?_))
  have gS1:=keep S _ hw gS;show wpAny _ A.in1 (updateSeq S (λ_=>#[v,v]) >>= _) _ _ _;refine Zwv (ZAH gS1 rfl ?_);rw[Ziq];refine Zwz ⟨ZyE ZxS _,Zs5 W bt hc hf dv (n-1) 0 _ v _ (by omega) (W.frame _ _ _ st1 λx hx o e=>?_) pv (ZxC _ gS1 rfl) λv' h2 tk2 p' keep2=>?_⟩
  ·exact(ZxQ _ _ (λz:S=x=>hf (by rw[z]; exact hx))).trans e
  ·exact o1 (by omega) v' h2 tk2 p' λx o hx hS e=>keep2 x o hx hS ((ZxQ _ _ (Zxv hS)).trans (keep x o hx e))
end
end HP
namespace HP
open PySem PySem.Spec PyProof.Rows L2
variable[FX]
theorem Rep.fn_inv{K:Zww}{F:Hp}{t:Nat}{cs:List PyData}{v:V}(h:Rep K F (HM.fnD t cs) v):∃a,v=.ref a/\FX.fv t cs F a:=by
 cases h with
 | @dct a es kvs vvs h he hk hr =>
  cases kvs with
  | nil=>cases he
  | cons p r =>
   injection he with h1 _
   injection h1 with h2 _
   cases h2
 | fn h=>exact⟨_,rfl,h⟩
theorem ZrV{d:PyData}{t:Nat}{cs:List PyData}(h:HM.Zj1 d=some (t,cs)):d=HM.fnD t cs:=by
 unfold HM.Zj1 at h;split at h
 ·cases h; rfl
 ·cases h
structure GFn(mg:Str->Option Value)(x:Str)(t:Nat):Prop where
 ex:∃f,mg x=some (.ref f)/\∀F,FX.fv t [] F f
section
variable{X:Cx}{pos p:Pos}{e a b:Expr}{es:List Expr}{f:HM.AF}
theorem ZtJ{x:Str}{t:Nat}(h:GFn X.mg x t)(hg:Gl X x:=by rfl)(hd:(x==("__debug__":Str))=false:=by decide):XE X (.Name x pos) (HM.eC (HM.fnD t [])):=by obtain⟨f,hm,hv⟩:=h.ex;exact ZeU (Zoz hg hm (v:=.ref f) rfl hd) λF=>.fn (hv F)
structure Zdm(P:Program)(w:World)(K:Zww)(mg:Str->Option Value)(base:Heap)(k:Nat)(ap:HM.AP):Prop where
 fn:∀{t:Nat} {cs:List PyData} {F:Hp} {a:Addr},FX.fv t cs F a->∀{A:Around} {outer:List Env} {s:Shared} {H:Hp},ZdV P w K mg base A outer s H->Zo F H->ZA9 a s.heap
 run:∀{t:Nat} {cs:List PyData} {F:Hp} {a:Addr},FX.fv t cs F a->∀{A:Around} {outer:List Env} {s:Shared} {H:Hp},ZdV P w K mg base A outer s H->Zo F H ->
  ∀{us:List Value} {vs:List V} {ds:List PyData} {d:PyData} {Q:VK},Zao k A->Tb H->NoT F->Vals vs us->Zq K F ds vs->ap t cs ds=some d->(∀v F' H',Ext F H F' H'->Rep K F' d v->Q v H') ->
   codeAny (model P w) A (.call (.ref a) ⟨us,[]⟩) (CR CX0 outer P w H s Q E0) s
theorem Zdm.mono{P:Program}{w:World}{K:Zww}{mg:Str->Option Value}{base:Heap}{j k:Nat}{ap:HM.AP}(C:Zdm P w K mg base j ap)(h:j<=k):Zdm P w K mg base k ap :=
 ⟨C.fn,by intro t cs F a q A outer s H e z us vs ds d Q hr; exact C.run q e z (hr.mono h)⟩
theorem Zlz{k:Nat}{ap:HM.AP}(C:Zdm X.prog X.w X.K X.mg X.base k ap)(hr:Zao k X.A)(i:Nat){x:Str}(ha:XA X (e::es) f)(hN:X.N[i]?=some x:=by rfl)
  (hv:Vis X.env.scope x:=by first | exact Zxl rfl | exact Zw6 (Zxl rfl) | exact Zw6 (Zw6 rfl)) (hd:(x==("__debug__":Str))=false:=by decide) (hcd:(x==("__classdict__":Str))=false:=by decide)
  (he:ZwJ (e::es) X.env=(false,eval e X.env)::ZwJ es X.env:=by rfl) (hpl:(backTo pos (ZwJ es X.env)).any (·.1)=false:=by rfl):XE X (.Call (.Name x p) (e::es) [] pos) (HM.Zfx ap i f):=by
 intro r d h;unfold HM.Zfx at h;split at h
 case h_2=>cases h
 rename_i d0 hs;split at h
 case h_2=>cases h
 rename_i t cs hu;split at h
 case h_2=>cases h
 rename_i ds hds;obtain rfl:=ZrV hu;intro pins s σ H Q I ⟨F0,H0,F1,at_,kk⟩;obtain⟨v,h1,h2⟩:=at_.plain hs;obtain⟨q,rfl,fv⟩:=h2.fn_inv;refine Zyw (thn (ZbG hN hv hd hcd pins s σ H (λv' H'=>v'=.ref q/\H'=H) I ⟨_,h1,rfl,rfl⟩) λu s1 ⟨v',H1,I1,r1,e1,e2⟩=>?_);subst e1 e2;obtain rfl:u=Zxr q:=r1;refine PySem.W.callWith_F (C.fn fv I1.env0 at_.sub) (thn (ha.pa r ds hds pos pins s1 σ H1 (λvs H2=>∃F2,Ext F1 H1 F2 H2/\Zq X.K F2 ds vs) I1 ⟨F0,H0,F1,at_,λvs F2 H2 x2 q2=>⟨F2,x2,q2⟩⟩) λus s2 ⟨vs,H2,I2,r2,F2,x2,q2⟩=>?_) he hpl;have fv2:=FX.mono fv x2.ff;refine⟨C.fn fv2 I2.env0 x2.sub,wpAny_call (Zyv (C.run fv2 I2.env0 x2.sub hr (at_.tbx x2) (at_.ntx x2) r2 q2 h λv F' H' x3 q3=>kk v F' H' (x2.trans x3) q3) λrs s' hq=>?_)⟩;cases rs with
 | error e=>exact Zxy hq
 | ok fl =>
  cases fl with
  | ret u=>exact I2.after hq
  | next=>exact Zxy hq
  | brk=>exact Zxy hq
  | cont=>exact Zxy hq
def spN(K:Zww)(n:Nat)(M:List PyData->Option (List (List Key × PyData))):Sp:=λvs H Q _=>∃F ds kvs,vs.length=n/\Zo F H/\Tb H/\NoT F/\Zq K F ds vs/\M ds=some kvs /\
 ∀l vvs F' H',Ext F H F' H'->H' l=some (.dT vvs)->kvs.map (·.1)=vvs.map (·.1)->Zq K F' (kvs.map (·.2)) (vvs.map (·.2))->F' l=none->H l=none->Q (.ref l) H'
structure Zdn(P:Program)(w:World)(K:Zww)(mg:Str->Option Value)(base:Heap)(k:Nat)(x:Str)(M:List PyData->Option (List (List Key × PyData))):Prop where
 ex:∃f fd ps,(∀ds d,M ds=some d->ds.length=ps.length)/\ZcQ P w K mg base CX0 k f fd ps (spN K ps.length M)/\mg x=some (.ref f)/\ZxP K (.ref f)=true/\Binds K fd ps []
theorem Zdn.mono{P:Program}{w:World}{K:Zww}{mg:Str->Option Value}{base:Heap}{j k:Nat}{x:Str}{M:List PyData->Option (List (List Key × PyData))}(C:Zdn P w K mg base j x M)(h:j<=k):Zdn P w K mg base k x M:=by obtain⟨f,fd,ps,l,F,r⟩:=C.ex;exact⟨f,fd,ps,l,F.mono h,r⟩
theorem Zq.flat{K:Zww}{F F':Hp}{ds:List PyData}{vs:List V}(r:Zq K F ds vs)(h:∀d∈ds,HM.ZjK d=true):Zq K F' ds vs :=
 ⟨r.1,λi d v h1 h2=>(r.2 i d v h1 h2).flat (h d (Zw3 h1))⟩
theorem Zrf{k:Nat}{x:Str}{g:HM.AF}{M:List PyData->Option (List (List Key × PyData))}(C:Zdn X.prog X.w X.K X.mg X.base k x M)(hr:Zao k X.A)(ha:XAL X (e::es) g)(hg:Gl X x:=by rfl)(hdb:(x==("__debug__":Str))=false:=by decide)
  (he:ZwJ (e::es) X.env=(false,eval e X.env)::ZwJ es X.env:=by rfl) (hpl:(backTo pos (ZwJ es X.env)).any (·.1)=false:=by rfl):XF X (.Call (.Name x p) (e::es) [] pos) (HM.Zia M g):=by
 intro r d hd;unfold HM.Zia at hd;split at hd
 case h_2=>cases hd
 rename_i ds hds;split at hd
 case h_2=>cases hd
 rename_i kvs hM;split at hd
 case isFalse=>cases hd
 rename_i hfl;cases hd;obtain⟨fa,fd,ps,hl,F,hm,hk,hb⟩:=C.ex;refine PE.imp (ZjU (E:=E0) F hr hg hm hk hb .nil Zps (ha.pa r ds hds) hdb he hpl) λσ H Q ⟨F0,H0,F1,at_,kk⟩=>?_;refine⟨F0,H0,F1,at_,λvs F' H' x q=>?_⟩;show spN X.K ps.length M (vs++[]) H' Q E0;rw[Zxc];refine⟨Zck H',ds,kvs,by rw[<-q.1]; exact hl ds _ hM,ZkH,at_.tbx x,.drop,q.drop',hM,λl vvs F2 H2 x2 h1 h2 h3 h4 h5=>?_⟩;refine kk _ F' H2 (x.trans (Ext.forget x.sub (at_.ntx x) x2)) ⟨[l],.ot h1 h2 (h3.flat λd hd=>?_),by simp,λc hc=>?_⟩
 ·obtain⟨q,h6,rfl⟩:=ZwK.mp hd
  exact ZwF.mp hfl q h6
 ·obtain rfl:c=l:=by simpa using hc
  exact⟨x.sub.free h5,x.hh.free h5⟩
def tSn(K:Zww)(r:HM.Env)(kvs:List (List Key × PyData)):TS:=λE σ H=>Now K r σ H λF0 H0 F=>∀l vvs F' H',Ext F0 H0 F' H'->H' l=some (.dT vvs)->kvs.map (·.1)=vvs.map (·.1)->Zq K F' (kvs.map (·.2)) (vvs.map (·.2))->F' l=none->H0 l=none->E.rt (.ref l) H'
def XSn(X:Cx)(sts:List Stmt)(m:HM.NF):Prop:=∀r kvs,m r=some kvs->PSs X sts (tSn X.K r kvs)
theorem Znn{st:Stmt}{rest:List Stmt}{g:HM.SF}{m:HM.NF}(h1:XS X st g)(h2:XSn X rest m):XSn X (st::rest) (HM.ZiY g m):=by
 intro r kvs h;unfold HM.ZiY at h;split at h
 ·rename_i r' q
  refine PSs.imp (ZgX (h1 r _ q) (h2 r' kvs h)) λE σ H ⟨F0,H0,F,at_,k⟩=>?_;exact⟨F0,H0,F,at_,λσ' F' H' at'=>⟨F0,H0,F',at',k⟩⟩
 ·cases h
theorem Ztn(j:Nat){x:Str}{p1:Pos}(hN:X.N[j]?=some x:=by rfl)(hv:Vis X.env.scope x:=by first | exact Zxl rfl | exact Zw6 (Zxl rfl) | exact Zw6 (Zw6 rfl))(hd:(x==("__debug__":Str))=false:=by decide)
  (hcd:(x==("__classdict__":Str))=false:=by decide):XSn X [.Return (some (.Name x p)) p1] (HM.ZmB j):=by
 intro r kvs h;unfold HM.ZmB at h;split at h
 ·rename_i kvs' hs
  cases h;refine PSs.imp (ZgX (Zm6 (ZbG hN hv hd hcd)) ZfJ) λE σ H ⟨F0,H0,F,⟨fp,at_⟩,k⟩=>?_;obtain⟨v,h1,h2⟩:=at_.at_ j _ hs;generalize hfp:fp j=fj at h2;cases h2 with
  | @ot l _ vvs hl hk q=>have ho:=at_.own j l (by rw[hfp]; simp);exact⟨_,h1,k l vvs F H at_.ext hl hk q ho.1 ho.2⟩
 ·cases h
theorem ZpA{P:Program}{w:World}{K:Zww}{mg:Str->Option Value}{base:Heap}{k:Nat}{x qual:Str}{st:Stmt}{f:Addr}{fd:FuncData}{N ps:List Str}{m:HM.NF}(Fn:Fun K x qual st f fd)(S:Zu N ps (Ze st))(hm:mg x=some (.ref f))(hb:Binds K fd ps [])
  (body:∀(cdv:Value) (A:Around) (outer:List Env) (s:Shared) (H:Hp) (E:XK),Zao k (A.deeper (envOfC qual (Ze st) s.heap.objs.size f cdv))->XSn (Zfk CX0 P w K mg base N qual (Ze st) f cdv A outer s H E).nox (Zaw st) m) :
  Zdn P w K mg base (k+1) x (HM.newOf ps.length N.length m):=by
 have hpl:ps.length<=N.length:=by have:=congrArg Zxd S.pre; rw[Zx0]at this; omega
 refine⟨f,fd,ps,λds d h=>?_,Fn.ok S (λvs H Q E h=>?_) (λcdv A outer s H vs Q E hr h=>?_),hm,Fn.kp,hb⟩
 ·unfold HM.newOf at h
  split at h
  ·assumption
  ·cases h
 ·obtain⟨_,_,_,h,_⟩:=h
  exact h
 ·obtain⟨F,ds,kvs,hl,sub,tb,nt,q,hM,kk⟩:=h
  unfold HM.newOf at hM;split at hM
  ·rename_i hds
   exact⟨_,body cdv A outer s H E hr _ _ hM,F,H,F,Zfs (N:=N) sub tb nt q (by omega),λl vvs F' H' x h1 h2 h3 h4 h5=>kk l vvs F' H' x h1 h2 h3 h4 h5⟩
  ·cases hM
theorem ZqG(hc:X.calm=true){pins:List (Addr × Obj)}{s:Shared}{σ:L2.St}{H:Hp}{l:Addr}{ns:List Int}{Q:VK}(I:Inv X pins σ H s)(hq:SqL X.K H l (ns.map V.int))(q:Q (match ns.min? with | some i=>.int i | none=>.non) H) :
  wpAny (model X.prog X.w) X.A (call (.builtin "min") [.ref l] [(ZyN "default",.none)]) (EP X pins σ Q) X.xe s:=by
 obtain⟨its,rv,pl,hz⟩:=I.list hq;have hi:=Zdr rv;obtain⟨xs,e⟩:=hi.allInts.items;have hns:ns=xs.toList.map (·.1):=by rw[<-hi.numsOf,<-nums_intItems,<-e]
 have hl:=pl.isList;rw[e]at hl;refine PyProof.Rows.kmk_tree PySem.F.kind_min PySem.F.plain_min PySem.F.entry_min (Zs4 _ _) ?_;refine Zwv (ZAL (show Builtin.Builtins.bindParams "min" ["key","default"] 0 ⟨[],[(ZyN "default",.none)]⟩=pure [none,some .none] from rfl) ?_);refine Zwv (Zwz ?_);refine Zwv (iter_intList hl λs2 e2 st hfp hlI=>?_);subst e2;refine Zwv (Zxu ?_);rw[Ziq];generalize hIT:s.heap.push { cls:=.type "list_iterator",data:=.fields #[.ref l,.int 0 0] }=h1 at st hfp;have z1:h1.objs.size=s.heap.objs.size+1:=by rw[<-hIT]; exact Zy2 ..
 have k1:∀b o,s.heap.get? b=some o->h1.get? b=some o:=λb o e=>by rw[<-hIT]; exact ZwB _ e
 have W:=Walks.list (prog:=X.prog) (w:=X.w) (A:=X.A.in1) (I.ok.hd hc) s.heap.objs.size l hlI (intItems xs);have hSf:h1.objs.size ∉ [s.heap.objs.size,l]:=λz=>Zya _ (hfp _ z);have old:∀{h':Heap} {oS:Obj},(∀x o,x ∉ [s.heap.objs.size]->x≠h1.objs.size->(h1.push oS).get? x=some o->h'.get? x=some o)->∀b o,s.heap.get? b=some o->h'.get? b=some o:=λhk b o e=>by have hb:=ZwL e;exact hk b o (λz=>by rw[ZwQ.mp z]at hb; exact Zya _ hb) (ZwS (by rw[z1]; exact Zy0 hb)) (ZwB _ (k1 b o e))
 refine Zwz ⟨ZyE ZxS _,ZrL W (λi j=>decide (numAt xs i<numAt xs j)) (CmpOf.ints_lt (numAt xs) λ_ _=>intItems_at) hSf .none (W.frame _ _ _ st λb _ o e=>ZwB _ e) (ZwO _ rfl) (λh0 h' tk hk=>?_) λh0 v h' tk hP hk=>?_⟩
 ·have e0:ns=[]:=by
   rw[hns];have:xs.size=0:=by simpa [intItems]using h0
   rw[Array.eq_empty_of_size_eq_zero this]; rfl
  subst e0;exact⟨.non,H,I.kept (t':=tk) (old hk),rfl,q⟩
 ·have h0':0<xs.size:=by simpa [intItems]using h0
  have hP':(intItems xs)[argBest (λi j=>decide (numAt xs i<numAt xs j)) (xs.size-1)]?=some v:=by simpa [intItems]using hP
  obtain⟨t,rfl⟩:=intItems_at hP';obtain⟨g1,g2⟩:=argBest_lt (numAt xs) (xs.size-1);have hm:ns.min?=some (numAt xs (argBest (λi j=>decide (numAt xs i<numAt xs j)) (xs.size-1))):=by
   refine ZzM.mpr ⟨?_,λa ha=>?_⟩
   ·rw[hns,numAt_eq]; exact getD_mem (by rw[Zwy,ZwY]; omega)
   ·rw[hns]at ha
    obtain⟨j,hj,rfl⟩:=mem_getD ha;rw[Zwy,ZwY]at hj;rw[<-numAt_eq]; exact g2 j (by omega)
  rw[hm]at q;exact⟨.int _,H,I.kept (t':=tk) (old hk),⟨t,rfl⟩,q⟩
theorem Zof{f:HM.BF}{kp p2:Pos}{j:Nat}(hm:X.mg "min" = none)(hc:X.calm=true)(ha:XB X a f)(hg:Gl X "min":=by rfl)(hs:ZwJ [a] X.env=[(false,eval a X.env)]:=by rfl)
  (he:backTo pos (ZwJ [a] X.env)=(false,eval a X.env)::backTo pos (ZwJ [] X.env):=by rfl) (hpl:(backTo pos (ZwJ [a] X.env)).any (·.1)=false:=by rfl) :
  XE X (.Call (.Name "min" p) [a] [⟨some "default",.Constant .none j p2,kp⟩] pos) (HM.ZeO f):=by
 intro r d h;unfold HM.ZeO at h;split at h
 case h_2=>cases h
 rename_i x hx;split at h
 case h_2=>cases h
 rename_i ds hds;split at h
 case h_2=>cases h
 rename_i ns hns;cases h;intro pins s σ H Q I ⟨F0,H0,F,at_,k⟩;refine Zyw (Zh5 I hg hm ZqM ?_);refine callWith_kw (thn (Zel ha hx hs pos pins s σ H (λvs H1=>∃v fp F1,vs=[v]/\Ext F H F1 H1/\ZZ X.K F1 H1 x v fp) I ⟨F0,H0,F,at_,λv fp F' H' x1 r1=>⟨v,fp,F',rfl,x1,r1⟩⟩) λus s1 ⟨vs,H1,I1,rv,v,fp,F1,e1,x1,r1⟩=>?_) he hpl;subst e1;obtain⟨u,rfl,ru⟩:=vals1 rv;obtain⟨l,ws,rfl,hq,rs⟩:=Zfn x1.sub r1 hds;obtain rfl:u=Zxr l:=ru;rw[Zch hns rs]at hq;refine kws_cons (thn (ZqY pins s1 σ H1 (λv' H'=>v'=.non/\H'=H1) I1 ⟨rfl,rfl⟩) λu2 s2 ⟨v',H2,I2,r2,e2,e3⟩=>?_);subst e2 e3;obtain rfl:u2=Zxw:=r2;refine kws_nil ?_;refine ZqG hc I2 hq ?_;refine k _ F1 H2 x1 ?_;cases ns.min? with
 | none=>exact .non
 | some i=>exact .int i
end
end HP
namespace HP
open PySem PySem.Spec PyProof.Rows L2
abbrev FX0:FX where
 tl:=[]
 fv:=λ_ _ _ _=>False
 sw:=λ_ _ h=>h
 drop:=λh=>h
 mono:=λh _=>h
structure Clo(K:Zww)(F:Hp)(p:Addr)(params:Arguments)(body:Expr)(scope:Scope)(names:List Str)(cs:List PyData):Prop where
 ex:∃(qual:Str) (pm ctv:Value) (c:Addr) (oc:Obj) (clos:List (Str × Addr)),
  F p=some (Za1 p (ZzT "<lambda>" qual params body scope clos pm c ctv))/\F c=some (Za1 c oc)/\ZjZ oc qual /\
  (∀x y a,clos.lookup x=some a->clos.lookup y=some a->x=y)/\(∀y∈scope.names,y.2=.free->(clos.lookup y.1).isSome=true) /\
  (∀x a,clos.lookup x=some a->∃o v,F a=some (Za1 a o)/\o.data=.cell v) /\
  names.length=cs.length/\∀(i:Nat) (x:Str) (d:PyData),names[i]?=some x->cs[i]?=some d->∃a o u v,clos.lookup x=some a/\F a=some (Za1 a o)/\o.data=.cell (some u)/\RelV v u/\@Rep FX0 K F d v
section
variable{K:Zww}{F F':Hp}{p:Addr}{params:Arguments}{body:Expr}{scope:Scope}{names:List Str}{cs:List PyData}
theorem Clo.mono(h:Clo K F p params body scope names cs)(s:Zo F F'):Clo K F' p params body scope names cs:=by
 obtain⟨qual,pm,ctv,c,oc,clos,h1,h2,h3,h4,h5,h6,h7,h8⟩:=h.ex;refine⟨qual,pm,ctv,c,oc,clos,s _ _ h1,s _ _ h2,h3,h4,h5,λx a e=>?_,h7,λi x d e1 e2=>?_⟩
 ·obtain⟨o,u,q1,q2⟩:=h6 x a e
  exact⟨o,u,s _ _ q1,q2⟩
 ·obtain⟨a,o,u,v,q1,q2,q3,q4,q5⟩:=h8 i x d e1 e2
  exact⟨a,o,u,v,q1,s _ _ q2,q3,q4,@Rep.mono FX0 _ _ _ _ _ q5 s⟩
theorem Clo.drop(h:Clo K F p params body scope names cs):Clo K (Zck F) p params body scope names cs:=by
 obtain⟨qual,pm,ctv,c,oc,clos,h1,h2,h3,h4,h5,h6,h7,h8⟩:=h.ex;refine⟨qual,pm,ctv,c,oc,clos,ZbZ h1 rfl,ZbZ h2 rfl,h3,h4,h5,λx a e=>?_,h7,λi x d e1 e2=>?_⟩
 ·obtain⟨o,u,q1,q2⟩:=h6 x a e
  exact⟨o,u,ZbZ q1 rfl,q2⟩
 ·obtain⟨a,o,u,v,q1,q2,q3,q4,q5⟩:=h8 i x d e1 e2
  exact⟨a,o,u,v,q1,ZbZ q2 rfl,q3,q4,@Rep.drop FX0 _ _ _ _ q5⟩
theorem Clo.sw{a:Addr}{ob:HO}{vvs:List (List Key × V)}(hF:∀u,F a=some u->Dk vvs u)(hob:Dk vvs ob)(h:Clo K F p params body scope names cs):Clo K (HP.sw a ob F) p params body scope names cs:=by
 have key:∀{b:Addr} {o:Obj},F b=some (Za1 b o)->HP.sw a ob F b=some (Za1 b o):=λ{b o} e=>by
  have hb:b≠a:=λz=>by subst z;have:=@Dk.te FX0 _ _ (hF _ e);cases this
  unfold HP.sw; rw[if_neg hb]; exact e
 obtain⟨qual,pm,ctv,c,oc,clos,h1,h2,h3,h4,h5,h6,h7,h8⟩:=h.ex;refine⟨qual,pm,ctv,c,oc,clos,key h1,key h2,h3,h4,h5,λx a e=>?_,h7,λi x d e1 e2=>?_⟩
 ·obtain⟨o,u,q1,q2⟩:=h6 x a e
  exact⟨o,u,key q1,q2⟩
 ·obtain⟨a,o,u,v,q1,q2,q3,q4,q5⟩:=h8 i x d e1 e2
  exact⟨a,o,u,v,q1,key q2,q3,q4,@Rep.sw FX0 _ _ _ _ _ _ _ hF hob q5⟩
end
theorem Rep.up[FX]{K:Zww}{F:Hp}{d:PyData}{v:V}(r:@Rep FX0 K F d v):Rep K F d v:=by
 induction r with
 | non=>exact .non
 | bl b=>exact .bl b
 | int i=>exact .int i
 | str x=>exact .str x
 | tup h hl _ ih=>exact .tup h hl ih
 | tupk h=>exact .tupk h
 | lst h hl _ ih=>exact .lst h hl ih
 | dct h he hk _ ih=>exact .dct h he hk ih
 | fn h=>exact h.elim
theorem Rep.cutF[FX]{K:Zww}{F F':Hp}(hF:∀b o,F b=some o->te o=false->F' b=some o){d:PyData}{v:V}(r:Rep K F d v):∀n,HM.noF n d=true->@Rep FX0 K F' d v:=by
 induction r with
 | non=>intro _ _; exact @Rep.non FX0 _ _
 | bl b=>intro _ _; exact @Rep.bl FX0 _ _ b
 | int i=>intro _ _; exact @Rep.int FX0 _ _ i
 | str x=>intro _ _; exact @Rep.str FX0 _ _ x
 | tupk h=>intro _ _; exact @Rep.tupk FX0 _ _ _ _ h
 | tup h hl _ ih =>
  intro n hn;cases n with
  | zero=>cases hn
  | succ n=>exact @Rep.tup FX0 _ _ _ _ _ (hF _ _ h rfl) hl λi d v h1 h2=>ih i d v h1 h2 n (ZwF.mp hn d (Zw3 h1))
 | lst h hl _ ih =>
  intro n hn;cases n with
  | zero=>cases hn
  | succ n =>
   refine @Rep.lst FX0 _ _ _ _ _ ?_ hl λi d v h1 h2=>ih i d v h1 h2 n (ZwF.mp hn d (Zw3 h1));rcases h with(h | ⟨o,h⟩) | h
   ·exact .inl (.inl (hF _ _ h rfl))
   ·exact .inl (.inr ⟨o,hF _ _ h rfl⟩)
   ·exact .inr h
 | @dct a es kvs vvs h he hk _ ih =>
  intro n hn;cases n with
  | zero=>cases hn
  | succ n =>
   refine @Rep.dct FX0 _ _ _ _ kvs vvs ?_ he hk λi d v h1 h2=>ih i d v h1 h2 n ?_
   ·rcases h with h | ⟨o,h⟩
    ·exact .inl (hF _ _ h rfl)
    ·exact .inr ⟨o,hF _ _ h rfl⟩
   ·subst he
    rw[ZwZ]at h1;obtain⟨q,h3,h4⟩:=Zwx.mp h1;subst h4;have hm:(Zxt (q.1.map HM.Zaj),q.2)∈HM.Zi kvs:=ZwK.mpr ⟨q,Zw3 h3,rfl⟩;have:=ZwF.mp hn _ hm;rw[ZwU]at this;exact this.2
 | fn h =>
  intro n hn;cases n with
  | zero=>cases hn
  | succ n=>have:=ZwF.mp hn _ (ZwA ..);cases this
end HP
namespace HP
open PySem PySem.Spec PyProof.Rows L2
theorem Rep0.cut{K:Zww}{F F':Hp}(hF:∀b o,F b=some o->te o=false->F' b=some o){d:PyData}{v:V}(r:@Rep FX0 K F d v):@Rep FX0 K F' d v:=by
 induction r with
 | non=>exact @Rep.non FX0 _ _
 | bl b=>exact @Rep.bl FX0 _ _ b
 | int i=>exact @Rep.int FX0 _ _ i
 | str x=>exact @Rep.str FX0 _ _ x
 | tupk h=>exact @Rep.tupk FX0 _ _ _ _ h
 | tup h hl _ ih=>exact @Rep.tup FX0 _ _ _ _ _ (hF _ _ h rfl) hl ih
 | lst h hl _ ih =>
  refine @Rep.lst FX0 _ _ _ _ _ ?_ hl ih;rcases h with(h | ⟨o,h⟩) | h
  ·exact .inl (.inl (hF _ _ h rfl))
  ·exact .inl (.inr ⟨o,hF _ _ h rfl⟩)
  ·exact .inr h
 | @dct a es kvs vvs h he hk _ ih =>
  refine @Rep.dct FX0 _ _ _ _ kvs vvs ?_ he hk ih;rcases h with h | ⟨o,h⟩
  ·exact .inl (hF _ _ h rfl)
  ·exact .inr ⟨o,hF _ _ h rfl⟩
 | fn h=>exact h.elim
def ZaM(C:List Addr)(H:Hp):Hp:=λb=>if b∈C then none else H b
theorem Zgk{C:List Addr}{H:Hp}{b:Addr}(h:b∈C):ZaM C H b=none:=by unfold ZaM; rw[if_pos h]
theorem Z8{C:List Addr}{H:Hp}{b:Addr}(h:b ∉ C):ZaM C H b=H b:=by unfold ZaM; rw[if_neg h]
theorem ZgO{C:List Addr}{H:Hp}{b:Addr}{o:HO}(h:ZaM C H b=some o):b ∉ C/\H b=some o:=by
 unfold ZaM at h;split at h
 ·cases h
 ·exact⟨by assumption,h⟩
def Zf4(C:List Addr)(G H:Hp):Hp:=λb=>if b∈C then G b else H b
theorem ZdY{C:List Addr}{G H:Hp}{b:Addr}(h:b∈C):Zf4 C G H b=G b:=by unfold Zf4; rw[if_pos h]
theorem ZaZ{C:List Addr}{G H:Hp}{b:Addr}(h:b ∉ C):Zf4 C G H b=H b:=by unfold Zf4; rw[if_neg h]
section
variable{P:Program}{w:World}{C:List Addr}{G H H':Hp}{h h':Heap}
theorem ZbW{a:Addr}{o:Obj}(x:ZW P w H h a (Za1 a o)):h.get? a=some o:=x.1
theorem Zio{a:Addr}{o:Obj}(e:h.get? a=some o):ZW P w H h a (Za1 a o):=⟨e,⟨o,e⟩,λh1 h2 q k=>k o q⟩
theorem HOk.cut(x:HOk P w H h)(hC:∀c∈C,∀o,H c=some o->te o=true):HOk P w (ZaM C H) h:=λa o e=>by
 obtain⟨_,e⟩:=ZgO e;have out:∀{b:Addr} {u:HO},H b=some u->te u=false->ZaM C H b=some u:=λ{b u} q t=>by rw[Z8 λz=>by rw[hC b z u q]at t; cases t]; exact q
 exact(x a o e).stay (λ_ _ _ q=>q) (λb q=>out q rfl) λb xs q=>out q rfl
theorem HOk.put(x:HOk P w H h)(hn:∀c∈C,H c=none)(hC:∀c∈C,∀u,G c=some u->∃o,u=Za1 c o/\h.get? c=some o):HOk P w (Zf4 C G H) h:=λa o e=>by
 have out:∀{b:Addr} {u:HO},H b=some u->Zf4 C G H b=some u:=λ{b u} q=>by rw[ZaZ λz=>by rw[hn b z]at q; cases q]; exact q
 by_cases ha:a∈C
 ·rw[ZdY ha]at e
  obtain⟨ob,rfl,hb⟩:=hC a ha o e;exact Zio hb
 ·rw[ZaZ ha]at e
  exact(x a o e).stay (λ_ _ _ q=>q) (λb q=>out q) λb xs q=>out q
end
structure ZiZ(scope:Scope)(x:Str)(names:List Str):Prop where
 kind:scope.kind=.function
 co:scope.isCoroutine=false
 gen:scope.isGenerator=false
 nocell:∀y∈scope.names,y.2≠.cell
 par:scope.names.lookup x=some .local
 free:∀n∈names,scope.names.lookup n=some .free
 nd:(x::names).Nodup
def Zli(P:Program)(w:World)(K:Zww)(mg:Str->Option Value)(base:Heap)(N:List Str)(qual:Str)(scope:Scope)(f:Addr)(cd:Value)(clos:List (Str × Addr))(A:Around)(outer:List Env)(s:Shared)(H:Hp):Cx where
 prog:=P
 w:=w
 K:=K
 mg:=mg
 base:=base
 A:=A.deeper (Zzi qual scope s.heap.objs.size f cd clos)
 N:=N
 s₀:=s
 H₀:=H
 env:=Zzi qual scope s.heap.objs.size f cd clos
 outer:=outer
 stack:=Zzi qual scope s.heap.objs.size f cd clos::outer
 ex:=[]
 calm:=true
 fn:=λ_=>false
 pn:=[]
 xe:=λ_ _=>False
section
variable{P:Program}{w:World}{K:Zww}{mg:Str->Option Value}{base:Heap}{A:Around}{outer:List Env}{s:Shared}{H:Hp}{k:Nat}
theorem Zp5{qual x:Str}{scope:Scope}{names:List Str}{f:Addr}{cd:Value}{clos:List (Str × Addr)}(S:ZiZ scope x names)(hd:A.handled=none)(e0:ZdV P w K mg base A outer s H)
  (inj:∀y z a,clos.lookup y=some a->clos.lookup z=some a->y=z) (has:∀y∈scope.names,y.2=.free->(clos.lookup y.1).isSome=true)
  (hcell:∀y a,clos.lookup y=some a->H a=none/\∃o v,s.heap.get? a=some o/\o.data=.cell v)
  {v:V} {u:Value} (rv:RelV v u) {vs:List V} (hlen:names.length=vs.length) (hcap:∀(i:Nat) (y:Str) (v':V),names[i]?=some y->vs[i]?=some v'->∃a o u',clos.lookup y=some a/\s.heap.get? a=some o/\o.data=.cell (some u')/\RelV v' u')
  {h':Heap} {tk:Nat} (hns:h'.Ns s.heap.objs.size λy=>[(x,u)].reverse.lookup y) (hsb:Zyj s.heap.objs.size (s.heap.push { cls:=.type "frame",data:=.dict #[] }) h') :
  Inv (Zli P w K mg base (x::names) qual scope f cd clos A outer s H) [] (some v::vs.map some) H { s with heap:=h',toks:=tk }:=by
 have hk:∀b o,s.heap.get? b=some o->h'.get? b=some o:=λb o e=>hsb.extBut b o (ZwS (ZwL e)) (ZwB _ e);have noA:∀b:Addr,b ∉ (Zli P w K mg base (x::names) qual scope f cd clos A outer s H).ex:=λb z=>absurd (show b∈([]:List Addr) from z) (by simp);refine⟨⟨e0.mod,S.kind,rfl,rfl,ZwH _,inj,λy hy=>?_,λy c z=>absurd (show false=true from z) (by simp),λ_=>hd,ZAY e0.frames,.inr ⟨rfl,rfl⟩,λb z=>absurd z (noA b),e0.bs,e0.bsz,λb _ _=>noA b,λb z=>absurd z (noA b),e0.funs,e0.frf⟩,
  rfl,e0.bare,Un.kept hk,⟨_,hns,λi y v' h1 h2 h3=>?_⟩,λy c e=>?_,e0.hok.fresh (ZwH _),λy c e=>(hcell y c e).1,λp hp=>absurd (show p∈([]:List (Addr × Obj)) from hp) (by simp),e0.hok.kept hk,?_⟩
 ·have hy:scope.names.lookup y=some .cell\/scope.names.lookup y=some .free:=hy
  rcases hy with hy | hy
  ·exact absurd rfl (S.nocell _ (ZxX hy))
  ·exact Zxi.mp (has _ (ZxX hy) rfl)
 ·cases i with
  | zero=>have e1:x=y:=Zxp h1;have e2:v=v':=Zxp (Zxp h2);subst e1 e2;exact⟨u,rv,.inl ⟨S.par,by simp⟩⟩
  | succ i=>have h1:names[i]?=some y:=h1;have h2:(vs.map some)[i]?=some (some v'):=h2;rw[ZwZ]at h2;obtain⟨v2,h4,h5⟩:=Zwx.mp h2;cases h5;obtain⟨a,o,u',q1,q2,q3,q4⟩:=hcap i y v' h1 h4;exact⟨u',q4,.inr ⟨.inr (S.free y (Zw3 h1)),a,q1,o,hk _ _ q2,q3⟩⟩
 ·obtain⟨_,o,v',q1,q2⟩:=hcell y c e
  exact⟨v',o,hk _ _ q1,q2⟩
 ·show(some v::vs.map some).length=(x::names).length
  rw[ZwM,ZwM,Zwy,hlen]
end
end HP
namespace HP
open PySem PySem.Spec PyProof.Rows L2
variable[FX]
def cellsOf(clos:List (Str × Addr)):List Addr:=clos.filterMap λq=>clos.lookup q.1
theorem ZkL{clos:List (Str × Addr)}{a:Addr}:a∈cellsOf clos↔∃y,clos.lookup y=some a:=by unfold cellsOf;rw[ZxL];exact⟨λ⟨q,_,h⟩=>⟨q.1,h⟩,λ⟨y,h⟩=>⟨(y,a),ZxX h,h⟩⟩
theorem Tb.cut{P:Program}{w:World}{C:List Addr}{H:Hp}{h:Heap}(t:Tb H)(x:HOk P w H h)(hC:∀c∈C,∃o v,H c=some (Za1 c o)/\o.data=.cell v):Tb (ZaM C H):=λT q hT=>by
 obtain⟨ps,h1,h2,h3⟩:=t T q hT;refine⟨ps,?_,h2,λpos c hc=>?_⟩
 ·rw[Z8 λz=>by
   obtain⟨o,v,e,_⟩:=hC T z;rw[h1]at e; cases e]
  exact h1
 ·obtain⟨a,o,e1,e2,e3⟩:=h3 pos c hc
  refine⟨a,o,e1,?_,e3⟩;rw[Z8 λz=>by obtain⟨o',v,f1,f2⟩:=hC a z;have g1:=ZbW (x a _ e2);have g2:=ZbW (x a _ f1);rw[g1]at g2;cases g2;obtain⟨vs,tt,d1,_⟩:=e3;rw[d1]at f2; cases f2];exact e2
section
variable{P:Program}{w:World}{K:Zww}{mg:Str->Option Value}{base:Heap}{k:Nat}
theorem Zty{params:Arguments}{body:Expr}{scope:Scope}{x:Str}{names:List Str}{g:HM.EF}(S:ZiZ scope x names)
  (hbind:∀(qual:Str) (clos:List (Str × Addr)) (pm cd ctv u:Value),bindArgs (PySem.W.kla_fn "<lambda>" qual params body scope clos pm cd ctv) ⟨[u],[]⟩=pure [(x,u)])
  (hbody:∀(qual:Str) (f:Addr) (cd:Value) (clos:List (Str × Addr)) (A:Around) (outer:List Env) (s:Shared) (H:Hp),Zao k (A.deeper (Zzi qual scope s.heap.objs.size f cd clos))->XE (Zli P w K mg base (x::names) qual scope f cd clos A outer s H) body g)
  {A:Around} {outer:List Env} {s:Shared} {F H:Hp} {p:Addr} {cs:List PyData} (C:Clo K F p params body scope names cs) (e0:ZdV P w K mg base A outer s H) (sub:Zo F H) (hr:Zao (k+1) A) (tb:Tb H) (nt:NoT F)
  {us:List Value} {vs:List V} {ds:List PyData} {d:PyData} {Q:VK} (rv:Vals vs us) (rs:Zq K F ds vs) (hap:HM.Zjx 1 names.length g cs ds=some d) (kk:∀v F' H',Ext F H F' H'->Rep K F' d v->Q v H') :
  codeAny (model P w) A (.call (.ref p) ⟨us,[]⟩) (CR CX0 outer P w H s Q E0) s:=by
 unfold HM.Zjx at hap;split at hap
 case isFalse=>cases hap
 rename_i hc;obtain⟨hl1,hl2,hnf⟩:=hc;obtain⟨d0,rfl⟩:=List.length_eq_one_iff.mp hl1;obtain⟨v0,vs',rfl,r0,rs'⟩:=rs.cons_inv;obtain rfl:=rs'.nil_inv;obtain⟨u0,rfl,ru0⟩:=vals1 rv;have hnf0:HM.noF 20 d0=true:=by rw[ZxH,ZwU]at hnf; exact hnf.1
 obtain⟨qual,pm,ctv,c,oc,clos,h1,h2,h3,h4,h5,h6,h7,h8⟩:=C.ex;generalize hCs:cellsOf clos=Cs;have hCm:∀a,a∈Cs↔∃y,clos.lookup y=some a:=λa=>by rw[<-hCs]; exact ZkL
 have hCo:∀a∈Cs,∃o v,F a=some (Za1 a o)/\o.data=.cell v/\s.heap.get? a=some o:=λa ha=>by obtain⟨y,e⟩:=(hCm a).mp ha;obtain⟨o,v,q1,q2⟩:=h6 y a e;exact⟨o,v,q1,q2,ZbW (e0.hok a _ (sub _ _ q1))⟩
 have hCt:∀a∈Cs,∀o,H a=some o->te o=true:=λa ha o e=>by obtain⟨ob,v,q1,_,_⟩:=hCo a ha;rw[sub _ _ q1]at e; cases e; rfl
 have hCn:∀a∈Cs,H a≠none:=λa ha z=>by obtain⟨ob,v,q1,_,_⟩:=hCo a ha;rw[sub _ _ q1]at z; cases z
 have none1:∀b,H b=none->ZaM Cs H b=none:=λb e=>by
  by_cases hb:b∈Cs
  ·exact Zgk hb
  ·rw[Z8 hb]; exact e
 have e1:ZdV P w K mg base A outer s (ZaM Cs H):=⟨e0.frames,e0.mod,λb o e=>⟨(e0.bs b o e).1,none1 b (e0.bs b o e).2⟩,e0.bsz,e0.funs,λb hb=>none1 b (e0.frf b hb),HOk.cut e0.hok hCt,e0.bare⟩;have KX:K.In s.heap:=e0.mod.kin.keeps λb o e=>(e0.bs b o e).1;have lim:s.heap.NoLimit:=e0.mod.nolimit.keeps λb o e=>(e0.bs b o e).1;have hcd:s.heap.CodeRec (.ref c) qual:=by obtain⟨vs,t,d1,d2⟩:=h3;exact⟨c,oc,vs,t,rfl,ZbW (e0.hok c _ (sub _ _ h2)),d1,d2⟩
 refine PySem.W.kla_callFunE hr.depth (ZbW (e0.hok p _ (sub _ _ h1))) rfl S.co S.gen rfl hcd ?_;rw[hbind];refine Zwz (ZzS S.nocell (λy hy=>by rw[ZwQ.mp hy]; exact S.par) (λh' hns hsb=>⟨lim.fresh _ hsb,?_⟩) S.kind);show codeAny _ _ (.expr body (Zzi qual scope s.heap.objs.size p (.ref c) clos)) _ _;have hvs:∃wv:List V,names.length=wv.length/\(∀(i:Nat) (y:Str) (v':V),names[i]?=some y->wv[i]?=some v'->∃a o u',clos.lookup y=some a/\s.heap.get? a=some o/\o.data=.cell (some u')/\RelV v' u')/\Zq K (ZaM Cs F) cs wv:=by
  have step:∀n,n<=cs.length->∃wv:List V,wv.length=n/\∀(i:Nat) (y:Str) (d:PyData) (v':V),names[i]?=some y->cs[i]?=some d->wv[i]?=some v'->(∃a o u',clos.lookup y=some a/\s.heap.get? a=some o/\o.data=.cell (some u')/\RelV v' u')/\Rep K (ZaM Cs F) d v':=by
   intro n
   induction n with
   | zero=>exact λ_=>⟨[],rfl,λi y d v' _ _ h=>by simp at h⟩
   | succ n ih =>
    intro hn;obtain⟨wv,l1,l2⟩:=ih (by omega);have hy:n<names.length:=by omega
    have hd:n<cs.length:=by omega
    obtain⟨a,o,u',v',q1,q2,q3,q4,q5⟩:=h8 n names[n] cs[n] (ZwN hy) (ZwN hd);refine⟨wv++[v'],by rw[ZwR,l1]; rfl,λi y d v2 g1 g2 g3=>?_⟩
    by_cases hi:i<n
    ·rw[Zxg (by omega)]at g3
     exact l2 i y d v2 g1 g2 g3
    ·have hin:i=n:=by
      have:=(ZwI.mp g3).1;rw[ZwR,l1]at this;have:i<n+1:=this;omega
     subst hin;rw[Zxb (by omega),l1,Nat.sub_self]at g3;rw[ZwN hy]at g1;rw[ZwN hd]at g2;cases g1; cases g2; cases g3;refine⟨⟨a,o,u',q1,ZbW (e0.hok a _ (sub _ _ q2)),q3,q4⟩,?_⟩;refine(Rep0.cut (λb ob z t=>?_) q5).up;rw[Z8 λhb=>by obtain⟨ob',v,w1,_,_⟩:=hCo b hb;rw[w1]at z; cases z; cases t];exact z
  obtain⟨wv,l1,l2⟩:=step cs.length (ZwH _);refine⟨wv,by omega,λi y v' g1 g3=>?_,by omega,λi d v' g2 g3=>?_⟩
  ·have hi:=(ZwI.mp g3).1
   exact(l2 i y cs[i] v' g1 (ZwN (by omega)) g3).1
  ·have hi:=(ZwI.mp g3).1
   exact(l2 i names[i] d v' (ZwN (by omega)) g2 g3).2
 obtain⟨wv,wl,wc,wr⟩:=hvs;have cutF:∀b o,F b=some o->te o=false->ZaM Cs F b=some o:=λb ob z t=>by rw[Z8 λhb=>by obtain⟨ob',v,w1,_,_⟩:=hCo b hb;rw[w1]at z; cases z; cases t];exact z
 have r0':Rep K (ZaM Cs F) d0 v0:=(Rep.cutF cutF r0 20 hnf0).up;have sub1:Zo (ZaM Cs F) (ZaM Cs H):=λb o e=>by obtain⟨hb,e⟩:=ZgO e;rw[Z8 hb]; exact sub _ _ e
 have nt1:NoT (ZaM Cs F):=λb o e=>nt b o (ZgO e).2;have tb1:Tb (ZaM Cs H):=tb.cut e0.hok λa ha=>by obtain⟨o,v,q1,q2,_⟩:=hCo a ha;exact⟨o,v,sub _ _ q1,q2⟩
 have I:=Zp5 (qual:=qual) (f:=p) (cd:=.ref c) (tk:=s.toks+1) S hr.hd e1 h4 h5 (λy a e=>by obtain⟨o,v,q1,q2,q3⟩:=hCo a ((hCm a).mpr ⟨y,e⟩);exact⟨Zgk ((hCm a).mpr ⟨y,e⟩),o,v,q3,q2⟩) ru0 wl wc hns hsb;have a0:At K (ZaM Cs F) (ZaM Cs H) (ZaM Cs F) (ZaM Cs H) ((d0::cs).map λd=>some (HM.B.pl d)) (some v0::wv.map some):=by
  have:=Zfs (N:=x::names) sub1 tb1 nt1 (Zq.cons r0' wr) (by rw[ZwM,ZwM]; omega);have e3:HM.ZdM (x::names).length (d0::cs)=(d0::cs).map λd=>some (HM.B.pl d):=by unfold HM.ZdM;rw[ZwM,ZwM,show names.length+1-(cs.length+1)=0 by omega];exact Zxc _
  have e4:L2.start (x::names) (v0::wv)=some v0::wv.map some:=by unfold L2.start;rw[ZwM,ZwM,show names.length+1-(wv.length+1)=0 by omega];exact Zxc _
  rw[e3,e4]at this;exact this
 refine PySem.W.kla_codeExpr (ZxG (hbody qual p (.ref c) clos A outer s (ZaM Cs H) (hr.deeper _) _ _ hap [] _ _ _ (λv' H'=>∃F',Ext (ZaM Cs F) (ZaM Cs H) F' H'/\Rep K F' d v') I ⟨_,_,_,a0,λv' F' H' x' q'=>⟨F',x',q'⟩⟩) (λu' s' hq=>?_) λe s' hq=>Zxy hq);obtain⟨v',H',I',ru',F',x',q'⟩:=hq;have un:Un (frs outer) [] (ZaM Cs H) H' s.heap s'.heap:=I'.base;have nfs:∀a∈Cs,a ∉ frs outer:=λa ha hb=>hCn a ha (e0.frf a hb);have kc:∀a∈Cs,∃o,H a=some (Za1 a o)/\F a=some (Za1 a o)/\s'.heap.get? a=some o/\H' a=none:=λa ha=>by obtain⟨o,v,q1,q2,q3⟩:=hCo a ha;exact⟨o,sub _ _ q1,q1,un.keep a o q3 (Zgk ha) (nfs a ha) (by simp),un.free a o q3 (Zgk ha) (by simp)⟩
 have out:∀{b:Addr} {o:HO},H b=some o->te o=false->b ∉ Cs:=λ{b o} e t hb=>by rw[hCt b hb o e]at t; cases t
 have outN:∀{b:Addr},H b=none->b ∉ Cs:=λ{b} e hb=>hCn b hb e;have outT:∀{b:Addr} {ps:Array Value},H b=some (.tbl ps)->b ∉ Cs:=λ{b ps} e hb=>by obtain⟨o,q,_⟩:=kc b hb;rw[e]at q; cases q
 refine⟨v',Zf4 Cs H H',I'.os,I'.bare,⟨λb o e n hb hx=>?_,λb o e n hb hx=>?_,λb o e n hx=>?_,un.there,λb xs e=>?_,λb o u e=>?_,λb ps e=>?_⟩,HOk.put I'.hok (λa ha=>by obtain⟨_,_,_,_,q⟩:=kc a ha; exact q) (λa ha u e=>?_),ru',kk v' (Zf4 Cs F F') (Zf4 Cs H H') ⟨λb o e=>?_,λb o e=>?_,λb o e=>?_,λb o e=>?_,λt=>?_,λn b o e=>?_⟩ (q'.mono λb o e=>?_)⟩
 ·exact un.keep b o e (none1 b n) hb hx
 ·exact un.slot b o e (none1 b n) hb hx
 ·rw[ZaZ (outN n)]; exact un.free b o e (none1 b n) hx
 ·have hb:=out e rfl
  rw[ZaZ hb]; exact un.tups b xs (by rw[Z8 hb]; exact e)
 ·have hb:=out e rfl
  rw[ZaZ hb]; exact un.frzs b o u (by rw[Z8 hb]; exact e)
 ·have hb:=outT e
  rw[ZaZ hb]; exact un.tbls b ps (by rw[Z8 hb]; exact e)
 ·obtain⟨o,q1,_,q3,_⟩:=kc a ha
  rw[q1]at e; cases e;exact⟨o,rfl,q3⟩
 ·by_cases hb:b∈Cs
  ·rw[ZdY hb]; exact e
  ·rw[ZaZ hb]; exact x'.ff b o (by rw[Z8 hb]; exact e)
 ·by_cases hb:b∈Cs
  ·exact .of (by rw[ZdY hb]; exact e)
  ·exact(x'.hh b o (by rw[Z8 hb]; exact e)).cong (ZaZ hb)
 ·by_cases hb:b∈Cs
  ·rw[ZdY hb]at e ⊢; exact sub _ _ e
  ·rw[ZaZ hb]at e ⊢; exact x'.sub _ _ e
 ·by_cases hb:b∈Cs
  ·rw[ZdY hb]at e; exact .inl e
  ·rw[ZaZ hb]at e
   rcases x'.new b o e with q | q
   ·exact .inl (ZgO q).2
   ·refine .inr ?_
    unfold Fre at q ⊢;rw[Z8 hb]at q;exact q
 ·exact(x'.tab tb1).keep λa o e _=>by rw[ZaZ λhb=>by obtain⟨_,_,_,_,q⟩:=kc a hb;rw[e]at q; cases q];exact e
 ·by_cases hb:b∈Cs
  ·rw[ZdY hb]at e; exact n b o e
  ·rw[ZaZ hb]at e; exact x'.nts nt1 b o e
 ·rw[ZaZ λhb=>by
   obtain⟨_,_,_,_,q⟩:=kc b hb;rw[x'.sub _ _ e]at q; cases q]
  exact e
end
end HP
namespace HP
open PySem PySem.Spec PyProof.Rows L2
variable[FX]
theorem ZpG{a b:Int}{cv:Value}(l:List Value)(h:TriplesOk l):∀(pos:Pos) (c:Value),Zz7 pos (l++[rawInt a,rawInt b,cv])=some c->Zz7 pos l=some c\/c=cv:=by
 fun_induction TriplesOk l with
 | case1 =>
  intro pos c e;simp only[Zzb,Zz7,rawInt]at e;split at e
  ·cases e; exact .inr rfl
  ·cases e
 | case2 x t y u z rest ih =>
  intro pos c e;simp only[ZAB,Zz7]at e ⊢;split at e
  ·rename_i hq
   rw[if_pos hq];exact .inl e
  ·rename_i hq
   rw[if_neg hq];exact ih h pos c e
 | case3=>exact h.elim
def BMod(base:Heap)(mg:Str->Option Value):Prop:=∃bm o,mg "__builtins__" = some (.ref bm)/\bm≠ZAp/\bm≠Zxa/\base.get? bm=some o/\o.cls=.type "module"/\o.dict=some ZAp/\o.data=.plain
structure Zpa(X:Cx)(t:Nat)(params:Arguments)(body:Expr)(scope:Scope)(names:List Str)(is:List Nat):Prop where
 code:∃c P,X.env.code=.ref c/\Zx3 X.K c P=true/\(P,X.env.qual ++ "<lambda>")∈FX.tl/\∀q,(P,q)∈FX.tl->q=X.env.qual ++ "<lambda>"
 bm:BMod X.base X.mg
 dflt:defaultsOf params X.env=([],[])
 len:is.length=names.length
 at_:∀(j i:Nat) (x:Str),is[j]?=some i->names[j]?=some x->X.N[i]?=some x/\X.env.scope.names.lookup x=some .cell
 cells:∀y∈scope.names,y.2=.free->X.env.scope.names.lookup y.1=some .cell
 free:∀x∈names,(x,ZyD)∈scope.names
 own:∀x,X.fn x=true
 good:∀F p cs,Clo X.K F p params body scope names cs->FX.fv t cs F p
section
variable{X:Cx}{t:Nat}{params:Arguments}{body:Expr}{scope:Scope}{names:List Str}{is:List Nat}{pos lpos p:Pos}
structure Made(X:Cx)(params:Arguments)(body:Expr)(scope:Scope)(H H':Hp)(q:Addr)(clos:List (Str × Addr)):Prop where
 ex:∃(pm ctv:Value) (c:Addr) (oc:Obj),H' q=some (Za1 q (ZzT "<lambda>" (X.env.qual ++ "<lambda>") params body scope clos pm c ctv))/\H' c=some (Za1 c oc)/\ZjZ oc (X.env.qual ++ "<lambda>")
 hh:Zae H H'
 tb:Tb H'
theorem ZrF(L:Zpa X t params body scope names is){pins:List (Addr × Obj)}{s:Shared}{σ:L2.St}{H:Hp}(I:Inv X pins σ H s)(tb:Tb H){clos:List (Str × Addr)}(hcl:closureFor scope X.env=pure clos) :
  wpAny (model X.prog X.w) X.A (eval (.Lambda params body scope lpos) X.env) (λu s'=>∃q H',u=.ref q/\Inv X pins σ H' s'/\Made X params body scope H H' q clos) X.xe s:=by
 obtain⟨c,P,hc,hh,hm,hu⟩:=L.code;obtain⟨ps,hP,ht,hg⟩:=tb P _ hm;have gP:s.heap.get? P=some (Zy3 ps):=I.hok P _ hP;have Ns:=I.mod.glob.keeps I.bk;have CH:PySem.W.CodeHd s.heap c P:=ZA4 I.kIn hh;obtain⟨bm,ob,b1,b2,b3,b4,b5,b6,b7⟩:=L.bm;have gb:=I.bk _ _ b4;have hbP:bm≠P:=λz=>by rw[z,gP]at gb; cases gb; cases b5
 have hgP:Zxa≠P:=λz=>by obtain⟨o,es,ep,e,hd,_⟩:=Ns;rw[z,gP]at e; cases e; cases hd
 have BA:s.heap.BuiltinsAt X.mg P:=⟨bm,ob,b1,b2,b3,hbP,gb,b5,b6,b7⟩;refine PySem.W.kla_eval L.dflt ?_;cases hq:Zz7 lpos ps.toList with
 | some cv =>
  obtain⟨a,oc,rfl,h1,h2⟩:=hg lpos cv hq;refine PySem.W.kla_makeFunctionHit hcl I.ok.glob Ns hc CH gP ht hq BA λctv h' tk hk hz=>?_;generalize hob:ZzT "<lambda>" (X.env.qual ++ "<lambda>") params body scope clos ((X.mg "__name__").getD .none) a ctv=fo;have hn:H h'.objs.size=none:=I.hok.fresh hz;have hk2:∀b o,s.heap.get? b=some o->(h'.push fo).get? b=some o:=λb o e=>ZwB _ (hk b o e);have gq:(h'.push fo).get? h'.objs.size=some fo:=by rw[<-hob]; exact ZwO _ rfl
  refine⟨h'.objs.size,upd H h'.objs.size (Za1 h'.objs.size fo),rfl,?_,⟨_,ctv,a,oc,by rw[ZA,<-hob],?_,h2⟩,.of (Zi2 hn),tb.same (Zi2 hn)⟩
  ·subst hob
   exact I.laid (t':=tk) hk2 hz (Zio gq)
  ·rw[Zy (Zaa h1 hn)]; exact h1
 | none =>
  refine PySem.W.kla_makeFunction hcl I.ok.glob Ns hc CH gP ht hq hgP BA λc' ctv h' tk hx hge hlt hrec htab=>?_;generalize hob:ZzT "<lambda>" (X.env.qual ++ "<lambda>") params body scope clos ((X.mg "__name__").getD .none) c' ctv=fo;generalize hps:ps++#[rawInt lpos.line,rawInt lpos.col,Zxr c']=ps2 at htab;obtain⟨c2,oc,vs,tq,e2,goc,d1,d2⟩:=hrec;cases e2;have hcn:H c'=none:=I.hok.fresh hge;have hqn:H h'.objs.size=none:=I.hok.fresh (Zxs hge (Zyi hlt));have hcq:c'≠h'.objs.size:=ZwS hlt;have hcP:c'≠P:=λz=>by rw[z,hP]at hcn; cases hcn
  have hqP:h'.objs.size≠P:=λz=>by rw[z,hP]at hqn; cases hqn
  have gq:(h'.push fo).get? h'.objs.size=some fo:=by rw[<-hob]; exact ZwO _ rfl
  have gc:(h'.push fo).get? c'=some oc:=ZwB _ goc;have gP2:(h'.push fo).get? P=some (Zy3 ps2):=ZwB _ htab;have hk2:∀b o,b≠P->s.heap.get? b=some o->(h'.push fo).get? b=some o:=λb o hb e=>ZwB _ (hx b o hb e);generalize hH':upd (upd (upd H P (.tbl ps2)) c' (Za1 c' oc)) h'.objs.size (Za1 h'.objs.size fo)=H';have aq:H' h'.objs.size=some (Za1 h'.objs.size fo):=by rw[<-hH',ZA]
  have ac:H' c'=some (Za1 c' oc):=by rw[<-hH',Zy hcq,ZA]
  have aP:H' P=some (.tbl ps2):=by rw[<-hH',Zy (Zxv hqP),Zy (Zxv hcP),ZA]
  have ao:∀b,b≠h'.objs.size->b≠c'->b≠P->H' b=H b:=λb n1 n2 n3=>by rw[<-hH',Zy n1,Zy n2,Zy n3]
  have at1:∀b o,H b=some o->b≠P->H' b=some o:=λb o e n=>by rw[ao b (Zaa e hqn) (Zaa e hcn) n]; exact e
  have nP:∀b o,H b=some o->(∀ps,o≠.tbl ps)->b≠P:=λb o e n z=>by rw[z,hP]at e; cases e; exact n _ rfl
  have old:∀b o,s.heap.get? b=some o->b≠h'.objs.size/\b≠c':=λb o e=>by have hb:=ZwL e;exact⟨ZwS (Zw0 hb (Zxs hge (Zyi hlt))),ZwS (Zw0 hb hge)⟩
  have hokN:HOk X.prog X.w H' (h'.push fo):=λb o e=>by
   by_cases n1:b=h'.objs.size
   ·subst n1; rw[aq]at e; cases e; exact Zio gq
   ·by_cases n2:b=c'
    ·subst n2; rw[ac]at e; cases e; exact Zio gc
    ·by_cases n3:b=P
     ·subst n3; rw[aP]at e; cases e; exact gP2
     ·rw[ao b n1 n2 n3]at e
      refine(I.hok b o e).stay (λd u hd z=>hk2 d u (λy=>?_) z) (λd z=>at1 d _ z (nP d _ z λ_ y=>by cases y)) λd xs z=>at1 d _ z (nP d _ z λ_ y=>by cases y);rcases hd with y2 | y2
      ·exact n3 (y2▸y)
      ·exact nP d _ y2 (λ_ q=>by cases q) y
  have un:Un X.fs [] H H' s.heap (h'.push fo):=by
   refine⟨λb o e n hb hx=>?_,λb o e n hb hx=>?_,λb o e n hx=>?_,λb o e hx=>?_,λb xs e=>at1 b _ e (nP b _ e λ_ y=>by cases y),λb o u e=>at1 b _ e (nP b _ e λ_ y=>by cases y),λb pp e=>?_⟩
   ·exact hk2 b o (λz=>by rw[z,hP]at n; cases n) e
   ·exact⟨o.slots,hk2 b o (λz=>by rw[z,hP]at n; cases n) e⟩
   ·obtain⟨n1,n2⟩:=old b o e
    rw[ao b n1 n2 (λz=>by rw[z,hP]at n; cases n)]; exact n
   ·by_cases n3:b=P
    ·exact⟨_,by rw[n3]; exact gP2⟩
    ·exact⟨o,hk2 b o n3 e⟩
   ·by_cases n3:b=P
    ·subst n3
     rw[hP]at e; cases e;exact⟨_,by rw[aP,<-hps]⟩
    ·exact⟨#[],by rw[at1 b _ e n3]; simp⟩
  refine⟨h'.objs.size,H',rfl,?_,⟨_,ctv,c',oc,by rw[aq,<-hob],ac,vs,tq,d1,d2⟩,λb o e=>?_,λT q hT=>?_⟩
  ·exact I.un (t':=tk) un hokN
  ·by_cases n3:b=P
   ·subst n3
    rw[hP]at e; cases e;exact⟨_,aP⟩
   ·exact .of (at1 b o e n3)
  ·by_cases n3:T=P
   ·subst n3
    obtain rfl:=hu q hT;refine⟨ps2,aP,?_,λpos' cc hcc=>?_⟩
    ·rw[<-hps,Array.toList_append]
     exact TriplesOk_snoc _ _ _ _ ht
    ·rw[<-hps,Array.toList_append]at hcc
     rcases ZpG _ ht _ _ hcc with e | e
     ·obtain⟨a,o,q1,q2,q3⟩:=hg pos' cc e
      exact⟨a,o,q1,at1 a _ q2 (nP a _ q2 λ_ y=>by cases y),q3⟩
     ·exact⟨c',oc,e,ac,vs,tq,d1,d2⟩
   ·obtain⟨ps',w1,w2,w3⟩:=tb T q hT
    refine⟨ps',at1 T _ w1 n3,w2,λpos' cc hcc=>?_⟩;obtain⟨a,o,q1,q2,q3⟩:=w3 pos' cc hcc;exact⟨a,o,q1,at1 a _ q2 (nP a _ q2 λ_ y=>by cases y),q3⟩
theorem Znq{r:HM.Env}:∀{is:List Nat} {cs:List PyData},HM.Zjy is r=some cs->cs.length=is.length/\∀(j i:Nat),is[j]?=some i->∃d,cs[j]?=some d/\r[i]?=some (some (.pl d))
 | [],cs,h=>by cases h; exact⟨rfl,λj i e=>by simp at e⟩
 | i::is,cs,h=>by
  unfold HM.Zjy at h;split at h
  ·rename_i d hd
   obtain⟨cs',h1,h2⟩:=Zwx.mp h;subst h2;obtain⟨l,k⟩:=Znq h1;refine⟨by rw[ZwM,ZwM,l],λj i' e=>?_⟩;cases j with
   | zero=>cases e; exact⟨d,rfl,hd⟩
   | succ j=>exact k j i' e
  ·cases h
def ZdW(F H:Hp):Hp:=λb=>match H b with
 | some (.ext φ)=>some (.ext φ)
 | _=>F b
theorem Zg5{F H:Hp}{a:Addr}{o:Obj}(h:H a=some (Za1 a o)):ZdW F H a=some (Za1 a o):=by unfold ZdW Za1 at *;rw[h]
theorem Zjd{F H:Hp}{b:Addr}{o:HO}(h:ZdW F H b=some o):(H b=some o/\te o=true)\/F b=some o:=by
 unfold ZdW at h;split at h
 ·rename_i φ e
  cases h;exact .inl ⟨e,rfl⟩
 ·exact .inr h
theorem ZsH{F H:Hp}(s:Zo F H){b:Addr}{o:HO}(h:F b=some o):ZdW F H b=some o:=by have h2:=s b o h;unfold ZdW;rw[h2];cases o<;>first | rfl | exact h
theorem ZoR{k:Nat}{x:Str}{M:List PyData->Option PyData}{e:Expr}{fa:HM.EF}(C:Callee X.prog X.w X.K X.mg X.base k x M)(hr:Zao k X.A)(L:Zpa X t params body scope names is)(ha:XE X e fa)(hg:Gl X x:=by rfl)(hdb:(x==("__debug__":Str))=false:=by decide)
  (he:ZwJ [e,.Lambda params body scope lpos] X.env=(false,eval e X.env)::ZwJ [.Lambda params body scope lpos] X.env:=by rfl) (he2:ZwJ [.Lambda params body scope lpos] X.env=[(false,eval (.Lambda params body scope lpos) X.env)]:=by rfl)
  (hpl:(backTo pos (ZwJ [.Lambda params body scope lpos] X.env)).any (·.1)=false:=by rfl):XE X (.Call (.Name x p) [e,.Lambda params body scope lpos] [] pos) (HM.Zg7 M t is fa):=by
 intro r d hd;unfold HM.Zg7 at hd;split at hd
 case h_2=>cases hd
 rename_i d1 hd1;split at hd
 case h_2=>cases hd
 rename_i cs hcs;split at hd
 case isFalse=>cases hd
 rename_i hnc;split at hd
 case h_2=>cases hd
 rename_i d' hM;split at hd
 case isFalse=>cases hd
 rename_i hnd;cases hd;obtain⟨fa',fd,ps,hl,FN,hm,hk,hb⟩:=C.ex;intro pins s σ H Q I ⟨F0,H0,F,at_,kk⟩;obtain⟨clos,hcl,hc1,hc2⟩:=Zex (scope:=scope) (env:=X.env) λy hy hf=>I.ok.has _ (.inl (L.cells y hy hf));refine Zyw (Zki I hg hm ?_ hdb);have lamPE:PE X (.Lambda params body scope lpos) λσ' H' Q'=>Tb H'/\∀q H2,Made X params body scope H' H2 q clos->Q' (.ref q) H2:=λpins' s' σ' H' Q' I' ⟨tb',k'⟩=>thn (ZrF L I' tb' hcl) λu s2 ⟨q,H2,e1,I2,m⟩=>by subst e1; exact⟨.ref q,H2,I2,rfl,k' q H2 m⟩
 refine ZA7 (h₀:=X.base) I.ok.mod.kin hk (thn (Z9 (ha r d1 hd1) (Z9 lamPE Zbv he2) he pos pins s σ H (λvs H2=>∃v1 F1 H1 q,vs=[v1,.ref q]/\Ext F H F1 H1/\Rep X.K F1 d1 v1/\Made X params body scope H1 H2 q clos) I
  ⟨F0,H0,F,at_,λv F1 H1 x1 r1=>⟨at_.tbx x1,λq H2 m=>⟨v,F1,H1,q,rfl,x1,r1,m⟩⟩⟩) λus s2 ⟨vs,H2,I2,rv,v1,F1,H1,q,ev,x1,r1,m⟩=>⟨I2.kIn,?_⟩) he hpl
 subst ev;have at1:=at_.grow x1;have tb1:=at_.tbx x1;have nt1:=at_.ntx x1;generalize hCs:cellsOf clos=Cs;have hCm:∀a,a∈Cs↔∃y,clos.lookup y=some a:=λa=>by rw[<-hCs]; exact ZkL
 have hCc:∀a∈Cs,∃y o v,X.env.cells.lookup y=some a/\s2.heap.get? a=some o/\o.data=.cell v/\H2 a=none:=λa ha=>by obtain⟨y,e⟩:=(hCm a).mp ha;have e1:=hc1 y a e;obtain⟨v,o,h1,h2⟩:=I2.cell y a e1;exact⟨y,o,v,e1,h1,h2,I2.freeC y a e1⟩
 generalize hG:(λa:Addr=>(s2.heap.get? a).map (Za1 a))=G;have hGo:∀{a:Addr} {o:Obj},s2.heap.get? a=some o->G a=some (Za1 a o):=λ{a o} e=>by rw[<-hG]; show Zym _ _=_; rw[e]; rfl
 generalize hH3:Zf4 Cs G H2=H3;have h3in:∀{a:Addr},a∈Cs->∃o v,H3 a=some (Za1 a o)/\s2.heap.get? a=some o/\o.data=.cell v:=λ{a} ha=>by obtain⟨y,o,v,_,g1,g2,_⟩:=hCc a ha;exact⟨o,v,by rw[<-hH3,ZdY ha]; exact hGo g1,g1,g2⟩
 have h3out:∀{a:Addr},a ∉ Cs->H3 a=H2 a:=λ{a} ha=>by rw[<-hH3,ZaZ ha]
 have s23:Zo H2 H3:=λb o z=>by rw[h3out λhb=>by obtain⟨_,_,_,_,_,_,g⟩:=hCc b hb;rw[g]at z; cases z];exact z
 have cge:∀a∈Cs,X.s₀.heap.objs.size<=a:=λa ha=>by obtain⟨y,_,_,e1,_⟩:=hCc a ha;exact I.ok.cab y a (L.own y) e1
 have hok3:HOk X.prog X.w H3 s2.heap:=by rw[<-hH3];refine HOk.put I2.hok (λa ha=>by obtain⟨_,_,_,_,_,_,g⟩:=hCc a ha; exact g) λa ha u e=>?_;obtain⟨y,o,v,_,g1,g2,_⟩:=hCc a ha;rw[hGo g1]at e; cases e;exact⟨o,rfl,g1⟩
 have E2:=I2.env0;have cfr:∀b∈frs X.stack,b ∉ Cs:=λb hb hc=>by
  obtain⟨y,o,v,e1,g1,g2,_⟩:=hCc b hc;rcases ZwT.mp (I2.stkSub b hb)with z | z
  ·exact I2.cne y b e1 z
  ·obtain⟨_,o',ho',_⟩:=I.ok.funs.mem z
   exact absurd (Zw0 (ZwL ho') (cge b hc)) (Zya _)
 have E3:ZdV X.prog X.w X.K X.mg X.base X.A X.stack s2 H3:=⟨E2.frames,E2.mod,λb o z=>⟨(E2.bs b o z).1,by rw[h3out λhb=>absurd (Zw0 (ZwL z) (Zxs I.ok.bsz (cge b hb))) (Zya _)];exact(E2.bs b o z).2⟩,E2.bsz,E2.funs,λb hb=>by rw[h3out (cfr b hb)]; exact E2.frf b hb,hok3,E2.bare⟩;have s12:Zo F1 H2:=λb o z=>m.hh.ntb (x1.sub b o z) (nt1 b o z);have s13:Zo F1 H3:=s12.trans s23;have ff:Zo F1 (ZdW F1 H3):=λb o z=>ZsH s13 z;have s33:Zo (ZdW F1 H3) H3:=λb o z=>by
  rcases Zjd z with⟨w,_⟩ | w
  ·exact w
  ·exact s13 b o w
 have nt3:NoT (ZdW F1 H3):=λb o z=>by
  rcases Zjd z with⟨w1,w2⟩ | w
  ·unfold ZdW at z
   split at z
   ·cases z; rfl
   ·exact nt1 b o z
  ·exact nt1 b o w
 have tb3:Tb H3:=m.tb.same s23;obtain⟨pm,ctv,c,oc,m1,m2,m3⟩:=m.ex;obtain⟨cl1,cl2⟩:=Znq hcs;have clo:Clo X.K (ZdW F1 H3) q params body scope names cs:=by
  refine⟨_,pm,ctv,c,oc,clos,Zg5 (s23 _ _ m1),Zg5 (s23 _ _ m2),m3,λy z a g1 g2=>I.ok.inj y z a (hc1 y a g1) (hc1 z a g2),hc2,λy a g=>?_,by rw[cl1,L.len],λj y dj g1 g2=>?_⟩
  ·obtain⟨o,v,w1,w2,w3⟩:=h3in ((hCm a).mpr ⟨y,g⟩)
   exact⟨o,v,Zg5 w1,w3⟩
  ·have hj:j<is.length:=by rw[L.len]; exact(ZwI.mp g1).1
   obtain⟨dj',g3,g4⟩:=cl2 j is[j] (ZwN hj);rw[g2]at g3;cases g3;obtain⟨hN,hkind⟩:=L.at_ j is[j] y (ZwN hj) g1;obtain⟨v,w1,w2⟩:=at1.plain g4;obtain⟨mm,_,hloc⟩:=I2.loc;obtain⟨u,ru,lk⟩:=hloc is[j] y v hN w1 (.inr (.inl hkind));have hfr:=hc2 _ (L.free y (Zw3 g1)) rfl;obtain⟨a,hal⟩:=Zxi.mp hfr;rcases lk with⟨k1,_⟩ | ⟨_,a',k1,o,k2,k3⟩
   ·rw[show X.env.kindOf y=some .cell from hkind]at k1; cases k1
   ·rw[hc1 y a hal]at k1
    cases k1;obtain⟨o',v',z1,z2,z3⟩:=h3in ((hCm a).mpr ⟨y,hal⟩);rw[k2]at z2;cases z2;refine⟨a,o,u,v,hal,Zg5 z1,k3,ru,Rep.cutF (λb ob z _=>ff b ob z) w2 20 ?_⟩;exact ZwF.mp hnc dj (Zw3 g2)
 have fv:=L.good _ _ _ clo;have hlen:=hl _ _ hM;refine wpAny_call (Zyv (FN.run X.A X.stack s2 H3 ⟨us,[]⟩ us [v1,.ref q] (λv H4=>∃F4,Ext (ZdW F1 H3) H3 F4 H4/\Rep X.K F4 d v) E0 hr E3 (by
  have:=hb s2 us I2.kIn (by rw[Zxc,<-rv.length]; exact hlen)
  rwa [Zxc]at this) rv ⟨ZdW F1 H3,_,d,hlen,s33,tb3,nt3,.cons (r1.mono ff) (.one (.fn fv)),hM,λv F4 H4 x4 q4=>⟨F4,x4,q4⟩⟩) λrs s4 hq=>?_)
 cases rs with
 | error e=>exact Zxy hq
 | ok fl =>
  cases fl with
  | next=>exact Zxy hq
  | brk=>exact Zxy hq
  | cont=>exact Zxy hq
  | ret u =>
   obtain⟨v,H4,os,bare,un,hok4,ru,F4,x4,q4⟩:=hq;have c4:∀{a:Addr},a∈Cs->∃o v,H4 a=some (Za1 a o)/\s2.heap.get? a=some o/\s4.heap.get? a=some o/\o.data=.cell v:=λ{a} ha=>by obtain⟨o,v,w1,w2,w3⟩:=h3in ha;have w4:H4 a=some (Za1 a o):=x4.hh.ntb w1 rfl;exact⟨o,v,w4,w2,ZbW (hok4 a _ w4),w3⟩
   have out4:∀{b:Addr} {o:HO},H2 b=some o->b ∉ Cs:=λ{b o} z hb=>by obtain⟨_,_,_,_,_,_,g⟩:=hCc b hb;rw[g]at z; cases z
   generalize hF5:(λb:Addr=>match F4 b with | some o=>if te o=true then F1 b else some o | none=>none)=F5;have f5:∀{b:Addr} {o:HO},F5 b=some o->(F4 b=some o/\te o=false)\/F1 b=some o:=λ{b o} z=>by
    rw[<-hF5]at z;dsimp only at z;split at z
    ·rename_i o' w
     split at z
     ·exact .inr z
     ·rename_i n
      cases z;exact .inl ⟨w,by simpa using n⟩
    ·cases z
   have f5a:∀{b:Addr} {o:HO},F4 b=some o->te o=false->F5 b=some o:=λ{b o} z n=>by rw[<-hF5]; dsimp only; rw[z]; dsimp only; rw[if_neg (by rw[n]; simp)]
   have f5b:∀{b:Addr} {o:HO},F1 b=some o->F5 b=some o:=λ{b o} z=>by
    have w:=x4.ff b o (ff b o z)
    by_cases n:te o=true
    ·rw[<-hF5]; dsimp only; rw[w]; dsimp only; rw[if_pos n]; exact z
    ·exact f5a w (by simpa using n)
   have sub5:Zo F5 (ZaM Cs H4):=λb o z=>by
    rcases f5 z with⟨w,n⟩ | w
    ·rw[Z8 λhb=>by
      obtain⟨_,_,g,_⟩:=c4 hb;rw[x4.sub b o w]at g; cases g; cases n]
     exact x4.sub b o w
    ·rw[Z8 (out4 (s12 b o w))]
     exact x4.sub b o (x4.ff b o (ff b o w))
   refine I2.after ⟨v,ZaM Cs H4,os,bare,⟨λb o e n hb hx=>?_,λb o e n hb hx=>?_,λb o e n hx=>?_,un.there,λb xs e=>?_,λb o w e=>?_,λb pp e=>?_⟩,HOk.cut hok4 (λa ha o e=>?_),ru,kk v F5 (ZaM Cs H4) (x1.trans ⟨λb o z=>f5b z,λb o z=>?_,sub5,λb o z=>?_,λtb=>?_,λ_ b o z=>?_⟩) ((Rep.cutF (λb o z n=>f5a z n) q4 20 hnd).up)⟩
   ·by_cases hc:b∈Cs
    ·obtain⟨o',_,_,w2,w3,_⟩:=c4 hc
     rw[e]at w2; cases w2; exact w3
    ·exact un.keep b o e (by rw[h3out hc]; exact n) hb hx
   ·exact un.slot b o e (by rw[h3out (cfr b hb)]; exact n) hb hx
   ·by_cases hc:b∈Cs
    ·exact Zgk hc
    ·rw[Z8 hc]; exact un.free b o e (by rw[h3out hc]; exact n) hx
   ·rw[Z8 (out4 e)]; exact un.tups b xs (s23 _ _ e)
   ·rw[Z8 (out4 e)]; exact un.frzs b o w (s23 _ _ e)
   ·rw[Z8 (out4 e)]; exact un.tbls b pp (s23 _ _ e)
   ·obtain⟨o',_,g,_⟩:=c4 ha
    rw[g]at e; cases e; rfl
   ·-- tracked things stay
    have z2:=m.hh b o z;have key:∀{u:HO},H2 b=some u->ZcE (ZaM Cs H4) b u:=λ{u} w=>(x4.hh b u (s23 b u w)).cong (Z8 (out4 w));cases o<;>first | exact key z2 | (obtain⟨pp,w⟩:=z2; exact(show ∃ps',_ from key w))
   ·rcases f5 z with⟨w,n⟩ | w
    ·rcases x4.new b o w with y | y
     ·rcases Zjd y with⟨_,y2⟩ | y2
      ·rw[n]at y2; cases y2
      ·exact .inl y2
     ·refine .inr ?_
      have hcb:b ∉ Cs:=λhb=>by
       obtain⟨o',_,g,_⟩:=h3in hb;rcases y with y | ⟨xs,_,y⟩
       ·rw[g]at y; cases y
       ·rw[g]at y; cases y
      rcases y with y | ⟨xs,y1,y2⟩
      ·rw[h3out hcb]at y
       exact .inl (m.hh.free y)
      ·rw[h3out hcb]at y2
       cases w1:H1 b with
       | none=>exact .inl w1
       | some u =>
        have:=m.hh.back w1 y2 λ_ q=>by cases q
        subst this;exact .inr ⟨xs,y1,w1⟩
    ·exact .inl w
   ·refine(x4.tab tb3).cut hok4 λa ha=>?_
    obtain⟨o,v',g1,_,_,g4⟩:=c4 ha;exact⟨o,v',g1,g4⟩
   ·rcases f5 z with⟨w,_⟩ | w
    ·exact x4.nts nt3 b o w
    ·exact nt1 b o w
end
end HP
namespace HP
open PySem PySem.Spec PyProof.Rows L2
structure Zpw(K:Zww)(x qual:Str)(st:Stmt)(f:Addr)(fd:FuncData)(c:Addr):Prop where
 ex:∃(oc:Value) (od:Option Addr) (kV doc pm:Value) (an:Option Addr) (ct:Value) (osl:Array (Option Value)),
  fd=ZxI x qual (ZbN st) (Zaw st) (Ze st) .none kV doc pm an (.ref c) ct/\K.lookup f=some ⟨oc,od,.func fd,osl⟩/\Zyr K (.ref c) qual=true
 kp:ZxP K (.ref f)=true
theorem ZsR{K:Zww}{x qual:Str}{st:Stmt}{f c:Addr}{oc:Value}{od an:Option Addr}{osl:Array (Option Value)}{kV doc pm ct:Value}(l:K.lookup f=some ⟨oc,od,.func (ZxI x qual (ZbN st) (Zaw st) (Ze st) .none kV doc pm an (.ref c) ct),osl⟩)
  (h:Zyr K (.ref c) qual=true) (k:ZxP K (.ref f)=true):Zpw K x qual st f (ZxI x qual (ZbN st) (Zaw st) (Ze st) .none kV doc pm an (.ref c) ct) c:=⟨⟨oc,od,kV,doc,pm,an,ct,osl,rfl,l,h⟩,k⟩
section
variable[FX]
theorem Zpu{P:Program}{w:World}{K:Zww}{mg:Str->Option Value}{base:Heap}{k:Nat}{x qual:Str}{st:Stmt}{f c:Addr}{fd:FuncData}{N ps:List Str}{g:HM.SF}(Fn:Zpw K x qual st f fd c)(S:Zu N ps (Ze st))(hm:mg x=some (.ref f))(hb:Binds K fd ps [])
  (body:∀(A:Around) (outer:List Env) (s:Shared) (H:Hp) (E:XK),Zao k (A.deeper (envOfC qual (Ze st) s.heap.objs.size f (.ref c)))->XSs (Zfk CX0 P w K mg base N qual (Ze st) f (.ref c) A outer s H E).nox (Zaw st) g) :
  Callee P w K mg base (k+1) x (HM.fnOf ps.length N.length g):=by
 have hpl:ps.length<=N.length:=by have:=congrArg Zxd S.pre; rw[Zx0]at this; omega
 refine⟨f,fd,ps,λds d h=>?_,?_,hm,Fn.kp,hb⟩
 ·unfold HM.fnOf at h
  split at h
  ·assumption
  ·cases h
 ·obtain⟨oc,od,kV,doc,pm,an,ct,osl,rfl,lk,hcd⟩:=Fn.ex
  refine Zsu lk hcd S (λvs H Q E h=>by obtain⟨_,_,_,h,_⟩:=h; exact h) λA outer s H vs Q E hr h=>?_;obtain⟨F,ds,d,hl,sub,tb,nt,q,hM,kk⟩:=h;unfold HM.fnOf at hM;split at hM
  ·rename_i hds
   have a0:=Zfs (N:=N) sub tb nt q (by omega);split at hM
   ·rename_i r hr'
    cases hM;exact⟨_,(body A outer s H E hr _ _ hr').nox,F,H,F,a0,λσ F' H' a'=>kk .non F' H' a'.ext .non⟩
   ·rename_i d' hr'
    cases hM;exact⟨_,(body A outer s H E hr _ _ hr').nox,F,H,F,a0,λv F' H' x q=>kk v F' H' x q⟩
   ·cases hM
  ·cases hM
def Zpd(N:List Str)(sc scope:Scope)(names:List Str)(is:List Nat):Bool :=
 decide (is.length=names.length)&&(is.zip names).all (λq=>decide (N[q.1]?=some q.2)&&decide (sc.names.lookup q.2=some .cell))&&scope.names.all (λy=>decide (y.2≠.free)||decide (sc.names.lookup y.1=some .cell))&&names.all λx=>decide ((x,ZyD)∈scope.names)
theorem ZrG{X:Cx}{t:Nat}{params:Arguments}{body:Expr}{scope sc:Scope}{names N:List Str}{is:List Nat}{c T:Addr}{q:Str}(ck:Zpd N sc scope names is=true)(h1:Zx3 X.K c T=true)(h2:(T,q)∈FX.tl)(h3:∀q',(T,q')∈FX.tl->q'=q)(bm:BMod X.base X.mg)
  (good:∀F p cs,Clo X.K F p params body scope names cs->FX.fv t cs F p) (hN:X.N=N:=by rfl) (hs:X.env.scope=sc:=by rfl) (hc:X.env.code=.ref c:=by rfl) (hq:X.env.qual ++ "<lambda>" = q:=by rfl) (hd:defaultsOf params X.env=([],[]):=by rfl) (ho:∀x,X.fn x=true:=by exact λ_=>rfl) :
  Zpa X t params body scope names is:=by
 unfold Zpd at ck;rw[ZwU,ZwU,ZwU]at ck;obtain⟨⟨⟨k1,k2⟩,k3⟩,k4⟩:=ck;refine⟨⟨c,T,hc,h1,by rw[hq]; exact h2,λq' z=>by rw[hq]; exact h3 q' z⟩,bm,hd,of_decide_eq_true k1,λj i x e1 e2=>?_,λy hy hf=>?_,λx hx=>?_,ho,good⟩
 ·have:(i,x)∈is.zip names:=Zw3 (i:=j) (by rw[List.getElem?_zip_eq_some]; exact⟨e1,e2⟩)
  have:=ZwF.mp k2 _ this;rw[ZwU]at this;rw[hN,hs];exact⟨of_decide_eq_true this.1,of_decide_eq_true this.2⟩
 ·have:=ZwF.mp k3 y hy
  rw[Zx6]at this;rw[hs];rcases this with z | z
  ·exact absurd hf (of_decide_eq_true z)
  ·exact of_decide_eq_true z
 ·exact of_decide_eq_true (ZwF.mp k4 x hx)
theorem Ztd{P:Program}{w:World}{K:Zww}{mg:Str->Option Value}{base:Heap}{x qual:Str}{st:Stmt}{f a:Addr}{fd:FuncData}(Fn:Fun K x qual st f fd)(hm:mg x=some (.ref f))(ha:mg x=some (.ref a)){A:Around}{outer:List Env}{s:Shared}{H:Hp}(e0:ZdV P w K mg base A outer s H):ZA9 a s.heap:=by rw[hm]at ha;cases ha;obtain⟨oc,od,kV,doc,pm,an,cdv,ct,osl,rfl,lk,hcd⟩:=Fn.ex;have KX:K.In s.heap:=e0.mod.kin.keeps λb o e=>(e0.bs b o e).1;exact⟨_,_,_,_,KX _ _ lk⟩
theorem Zsn{P:Program}{w:World}{K:Zww}{mg:Str->Option Value}{base:Heap}{k:Nat}{x:Str}{M:List PyData->Option PyData}{a:Addr}(C:Callee P w K mg base k x M)(ha:mg x=some (.ref a)){A:Around}{outer:List Env}{s:Shared}{F H:Hp}(e0:ZdV P w K mg base A outer s H)(sub:Zo F H)
  {us:List Value} {vs:List V} {ds:List PyData} {d:PyData} {Q:VK} (hr:Zao k A) (tb:Tb H) (nt:NoT F) (rv:Vals vs us) (rs:Zq K F ds vs) (hM:M ds=some d) (kk:∀v F' H',Ext F H F' H'->Rep K F' d v->Q v H') :
  codeAny (model P w) A (.call (.ref a) ⟨us,[]⟩) (CR CX0 outer P w H s Q E0) s:=by
 obtain⟨f,fd,ps,hl,FN,hm,hk,hb⟩:=C.ex;rw[hm]at ha;cases ha;have KX:K.In s.heap:=e0.mod.kin.keeps λb o e=>(e0.bs b o e).1;have hlen:vs.length=ps.length:=by rw[<-rs.1]; exact hl _ _ hM
 refine FN.run A outer s H ⟨us,[]⟩ us vs Q E0 hr e0 ?_ rv ⟨F,ds,d,hlen,sub,tb,nt,rs,hM,kk⟩;have:=hb s us KX (by rw[Zxc,<-rv.length]; exact hlen)
 rwa [Zxc]at this
end
def Zll(tabs:List Addr)(H:Hp):Prop:=(∀b,H b=none\/(∃o xs,H b=some (.frz o (.lst xs)))\/H b=some (.tbl #[]))/\∀T∈tabs,H T=some (.tbl #[])
theorem Zqq{P:Program}{w:World}{K:Zww}{mg mb:Str->Option Value}{k:Nat}{fa a:Addr}{fd:FuncData}{x:Str}{sp:Sp}{s₁:Shared}{vs:List Value}{ns:List Int}{tabs:List (Addr × Addr)}
  (hT:∀q∈tabs,Zx3 K q.1 q.2=true/\K.lookup q.2=none/\s₁.heap.get? q.2=some (Zy3 #[]))
  (KX:K.In s₁.heap) (hns:s₁.heap.Ns Zxa mg) (hb:s₁.heap.Ns ZAp mb) (hbb:∀x:Str,x ≠ "__name__"->mb x=Zxo x) (hlim:s₁.heap.NoLimit) (hg:s₁.gens=#[])
  (ha:s₁.heap.get? a=some { cls:=.type "list",data:=.seq vs.toArray }) (hi:IntsAre vs ns) (hl:ns.length<=sizeLine) (hr:Zao k callerA)
  (hbm:PyProof.Rows.BMain s₁.heap mg) (F:∀base:Heap,K.In base->base.Ns Zxa mg->BMod base mg->ZcQ P w K mg base CX0 k fa fd [x] sp) (hbind:∀(s:Shared) (u:Value),BindsTo s fd ⟨[u],[]⟩ [(x,u)])
  (hsp:∀H:Hp,Zll (tabs.map (·.2)) H->SqL K H a (ns.map V.int)->sp [.ref a] H (λv _=>v=.bl true) λ_ _ _=>False) :
  codeAny (model P w) callerA (.call (.ref fa) ⟨[.ref a],[]⟩) (λr s'=>r=.ok (.ret (.bool true))/\OldK s₁.heap s'.heap/\s'.os=s₁.os/\AllBare s'.gens) s₁:=by
 have rv:=Zky hi;have lenV:=hi.length;have tne:∀q∈tabs,q.2≠a:=λq hq z=>by have:=(hT q hq).2.2;rw[z,ha]at this; cases this
 have core:∀oS:Option HO,(oS=none\/∃o xs,oS=some (.frz o (.lst xs)))->(∀H:Hp,H a=oS->SqL K H a (ns.map V.int))->(∀H:Hp,∀u,oS=some u->ZW P w H s₁.heap a u)->(oS≠none->K.lookup a=none) ->
   codeAny (model P w) callerA (.call (.ref fa) ⟨[.ref a],[]⟩) (λr s'=>r=.ok (.ret (.bool true))/\OldK s₁.heap s'.heap/\s'.os=s₁.os/\AllBare s'.gens) s₁:=by
  intro oS hO hS hok0 hK;generalize hH:(λb:Addr=>if b=a then oS else if b∈tabs.map (·.2)then some (HO.tbl #[])else none)=H;have Ha:H a=oS:=by rw[<-hH]; exact if_pos rfl
  have Ht:∀T∈tabs.map (·.2),H T=some (.tbl #[]):=λT hT'=>by obtain⟨q,hq,e⟩:=ZwK.mp hT';rw[<-hH];show(if T=a then oS else if T∈tabs.map (·.2)then some (HO.tbl #[])else none)=_;rw[if_neg (by rw[<-e]; exact tne q hq),if_pos hT']
  have Hc:∀b u,H b=some u->(b=a/\oS=some u)\/(b∈tabs.map (·.2)/\u=.tbl #[]):=λb u e=>by
   rw[<-hH]at e;dsimp only at e;split at e
   ·rename_i h; exact .inl ⟨h,e⟩
   ·split at e
    ·rename_i h; cases e; exact .inr ⟨h,rfl⟩
    ·cases e
  have tget:∀T∈tabs.map (·.2),s₁.heap.get? T=some (Zy3 #[])/\K.lookup T=none/\∃c,Zx3 K c T=true:=λT hT'=>by obtain⟨q,hq,e⟩:=ZwK.mp hT';subst e;exact⟨(hT q hq).2.2,(hT q hq).2.1,q.1,(hT q hq).1⟩
  have hok:HOk P w H s₁.heap:=λb u e=>by
   rcases Hc b u e with⟨rfl,e'⟩ | ⟨h,rfl⟩
   ·exact hok0 H u e'
   ·exact(tget b h).1
  have base_of:∀{b:Addr} {o:Obj},s₁.heap.get? b=some o->H b=none->(Zf1 s₁.heap H).get? b=some o:=λe n=>Zrg e n;have noA:∀{b:Addr} {o:Obj} {es:Array DictEntry} {ep:Nat},s₁.heap.get? b=some o->o.data=.dict es ep->H b=none:=λ{b o es ep} e d=>by
   cases q:H b with
   | none=>rfl
   | some u =>
    rcases Hc b u q with⟨rfl,_⟩ | ⟨h,_⟩
    ·rw[ha]at e; cases e
     have d':Data.seq vs.toArray _=Data.dict es ep:=d;cases d'
    ·rw[(tget b h).1]at e; cases e; cases d
  have nsK:∀{b:Addr} {m:Str->Option Value},s₁.heap.Ns b m->(Zf1 s₁.heap H).Ns b m:=λ{b m} ⟨o,es,ep,e,d,r⟩=>⟨o,es,ep,base_of e (noA e d),d,r⟩;have hKb:K.In (Zf1 s₁.heap H):=λb o e=>base_of (KX b o e) (by
   cases q:H b with
   | none=>rfl
   | some u =>
    rcases Hc b u q with⟨rfl,e'⟩ | ⟨h,_⟩
    ·rw[hK (by rw[e']; simp)]at e; cases e
    ·rw[(tget b h).2.1]at e; cases e)
  have hM:Mod K mg (Zf1 s₁.heap H):=⟨hKb,nsK hns,⟨mb,nsK hb,hbb⟩,let ⟨mc,h1,h2⟩:=hlim; ⟨mc,nsK h1,h2⟩⟩;have e0:ZdV P w K mg (Zf1 s₁.heap H) callerA [] s₁ H:=⟨rfl,hM,λb o e=>ZsM e,ZzR (Zqr _ _),trivial,λb hb=>absurd (show b∈([]:List Addr) from hb) (by simp),hok,.of_eq hg⟩;have hOT:Zll (tabs.map (·.2)) H:=⟨λb=>by
   cases q:H b with
   | none=>exact .inl rfl
   | some u =>
    rcases Hc b u q with⟨_,e'⟩ | ⟨_,rfl⟩
    ·rcases hO with z | ⟨o,xs,z⟩
     ·rw[z]at e'; cases e'
     ·rw[z]at e'; cases e'; exact .inr (.inl ⟨o,xs,rfl⟩)
    ·exact .inr (.inr rfl),Ht⟩
  have hBM:BMod (Zf1 s₁.heap H) mg:=by
   obtain⟨bm,ob,b1,b2,b3,b4,b5,b6⟩:=hbm;refine⟨bm,ob,b1,b2,λz=>?_,base_of b3 ?_,b4,b5,b6⟩
   ·obtain⟨o,es,ep,e,d,_⟩:=hns
    rw[z,e]at b3; cases b3; rw[b6]at d; cases d
   ·cases q:H bm with
    | none=>rfl
    | some u =>
     rcases Hc bm u q with⟨z,_⟩ | ⟨h,_⟩
     ·rw[z,ha]at b3; cases b3; exact absurd (show(Zzj "list":Value)=.type "module" from b4) (by decide)
     ·rw[(tget bm h).1]at b3; cases b3; cases b4
  refine Zyv ((F _ hKb (nsK hns) hBM).run callerA [] s₁ H ⟨[.ref a],[]⟩ [.ref a] [.ref a] _ _ hr e0 (hbind s₁ (.ref a)) (.cons rfl .nil) (hsp H hOT (hS H Ha))) λr s' h=>?_;cases r with
  | error e=>exact Zxy h
  | ok fl =>
   cases fl with
   | next=>exact Zxy h
   | brk=>exact Zxy h
   | cont=>exact Zxy h
   | ret u =>
    obtain⟨v,H',os,bare,un,hok',r',q⟩:=h;have q':v=.bl true:=q;subst q';obtain rfl:u=Value.bool true:=r';refine⟨rfl,⟨λb o e=>?_,λb o e=>un.there b o e (by simp)⟩,os,bare⟩;cases q:H b with
    | none=>exact .inl (un.keep b o e q (by intro z; exact absurd (show b∈([]:List Addr) from z) (by simp)) (by simp))
    | some u =>
     rcases Hc b u q with⟨rfl,e'⟩ | ⟨h,rfl⟩
     ·rcases hO with z | ⟨ob,xs,z⟩
      ·rw[z]at e'; cases e'
      ·rw[z]at e'; cases e'
       have z2:=un.frzs _ ob _ q;obtain⟨e1,_⟩:=hok _ _ q;obtain⟨e2,_⟩:=hok' _ _ z2;rw[e]at e1; cases e1;exact .inl e2
     ·obtain⟨g1,_,c,g3⟩:=tget b h
      rw[g1]at e; cases e;obtain⟨more,z2⟩:=un.tbls b _ q;have z3:s'.heap.get? b=some { cls:=.none,data:=.fields (#[]++more) }:=hok' b _ z2;refine .inr (.inl ⟨((ZA4 KX g3).tab g1).isCodeTable,rfl,#[],more,rfl,z3⟩)
 cases hk:K.lookup a with
 | some o=>have e:=KX a o hk;rw[ha]at e;cases e;exact core none (.inl rfl) (λH _=>.inr ⟨_,vs.toArray,_,hk,rfl,rfl,rfl,by rw[ZwP,lenV]; exact hl,by simpa using rv⟩) (λH u z=>by cases z) λz=>absurd rfl z
 | none=>refine core (some (.frz { cls:=.type "list",data:=.seq vs.toArray } (.lst (ns.map V.int)))) (.inr ⟨_,_,rfl⟩) (λH e=>.inl (.inr ⟨_,e⟩)) (λH u z=>?_) λ_=>hk;cases z;exact⟨ha,by rw[Zwy]; exact hl,vs,_,rv,ha⟩
theorem Zsp{l:ZAI}{n k:Nat}{q:Program}{loose:List Str}{XP:(Str->Option Value)->Heap->Prop}{YP:World->Heap->Prop}{d:DefRec}{K:Params->Zww}{sp:World->Sp}{x:Str}{tabs:List (Addr × Addr)}
  (hn:l.most=some n) (hn2:n<=sizeLine) (hdf:d.params.defaults=[]) (hr:Zao k callerA)
  (hY:∀(w:World) (h:Heap),YP w h->(K w.params).In h) (hYT:∀(w:World) (h:Heap),YP w h->∀q∈tabs,h.get? q.2=some (Zy3 #[]))
  (hT:∀(w:World),∀q∈tabs,Zx3 (K w.params) q.1 q.2=true/\(K w.params).lookup q.2=none)
  (F:∀(w:World) (mg:Str->Option Value) (fa:Addr) (h:Heap),(K w.params).In h->h.Ns Zxa mg->mg d.name=some (.ref fa) ->
   ∃fd:FuncData,(∀(s:Shared) (u:Value),BindsTo s fd ⟨[u],[]⟩ [(x,u)]) /\
    ∀base:Heap,(K w.params).In base->base.Ns Zxa mg->BMod base mg->ZcQ l.prog w (K w.params) mg base CX0 k fa fd [x] (sp w))
  (hsp:∀(w:World) (H:Hp) (a:Addr) (ns:List Int),ns.length<=n->Zll (tabs.map (·.2)) H->SqL (K w.params) H a (ns.map V.int)->sp w [.ref a] H (λv _=>v=.bl true) λ_ _ _=>False) :
  PySem.W.WalkO q loose XP YP l.row.toRowW d [] (λf vs=>PySem.call f vs):=by
 refine Att.ZnX hn hdf λw s₀ s₁ mg mb fa o pm cd doc a vs ns G Y ho hd hcd hmg hobj hints hlen hg=>?_;have KX:=hY w _ Y;obtain⟨fd,hb,hF⟩:=F w mg fa _ KX G.T.g hmg;exact Zqq (λq hq=>⟨(hT w q hq).1,(hT w q hq).2,hYT w _ Y q hq⟩) KX G.T.g G.T.b G.T.builtins G.T.nolimit hg hobj hints (Zxs hlen hn2) hr G.T.bmain hF hb λH hO hS=>hsp w H a ns hlen hO hS
end HP
namespace HP
open PySem PySem.Spec PyProof.Rows L2
def Zvi:Stmt->Option (Arguments × Expr × Scope)
 | .Return (some (.Call _ [_,.Lambda a b s _] _ _)) _=>some (a,b,s)
 | .Assign _ (.Call _ [_,.Lambda a b s _] _ _) _=>some (a,b,s)
 | _=>none
def ZjW(st:Stmt):Arguments × Expr × Scope:=((Zaw st).findSome? Zvi).getD default
abbrev Zuy(st:Stmt):Arguments:=(ZjW st).1
abbrev Zsh(st:Stmt):Expr:=(ZjW st).2.1
abbrev Zkk(st:Stmt):Scope:=(ZjW st).2.2
theorem ZtR{P:Program}{w:World}{K:Zww}{mg:Str->Option Value}{base:Heap}{A:Around}{outer:List Env}{s:Shared}{F H:Hp}{p:Addr}{params:Arguments}{body:Expr}{scope:Scope}{names:List Str}{cs:List PyData}
  (C:Clo K F p params body scope names cs) (e0:ZdV P w K mg base A outer s H) (sub:Zo F H):ZA9 p s.heap:=by
 obtain⟨qual,pm,ctv,c,oc,clos,h1,_⟩:=C.ex;exact⟨_,_,_,_,ZbW (e0.hok p _ (sub _ _ h1))⟩
section
variable[FX]
theorem ZuC{K:Zww}{M:List PyData->Option PyData}{H:Hp}{a:Addr}{ns:List Int}{tabs:List Addr}(hO:Zll tabs H)(ht:∀T q,(T,q)∈FX.tl->T∈tabs)(hS:SqL K H a (ns.map V.int))(hM:M [.list (HM.ofInts ns)]=some (.bool true)) :
  spD K 1 M [.ref a] H (λv _=>v=.bl true) λ_ _ _=>False:=by
 refine⟨Zck H,[.list (HM.ofInts ns)],.bool true,rfl,ZkH,λT q hT=>⟨#[],hO.2 T (ht T q hT),trivial,λpos c hc=>by cases hc⟩,.drop,.one (Rep.drop (.lst hS (Zek (K:=K) (F:=H) ns).1 (Zek ns).2)),hM,λv F1 H1 _ r=>r.bool_inv⟩
end
end HP
namespace HM
open PySem
theorem Zb0{α:Type}{c:TF}{e:EF}{r:Env}(g:α->D)(p:α->Bool)(f:α->D):∀(xs:List α),(∀x∈xs,c (some (.pl (g x))::r)=some (p x))->(∀x∈xs,p x=true->e (some (.pl (g x))::r)=some (f x))->ZaA c e r (xs.map g)=some ((xs.filter p).map f)
 | [],_,_=>rfl
 | x::xs,h1,h2=>by
  have ih:=Zb0 g p f xs (λy hy=>h1 y (ZwC _ hy)) (λy hy=>h2 y (ZwC _ hy));have hc:=h1 x (ZwA ..);rw[ZwD];unfold ZaA;rw[hc];cases hp:p x with
  | true=>have he:=h2 x (ZwA ..) hp;dsimp only;rw[he];dsimp only;rw[ih,List.filter_cons_of_pos hp];rfl
  | false=>dsimp only;rw[ih,List.filter_cons_of_neg (by simp[hp])]
theorem Zbc{α:Type}{e:EF}{r:Env}(g:α->D)(f:α->D)(xs:List α)(h:∀x∈xs,e (some (.pl (g x))::r)=some (f x)):ZaA Zam e r (xs.map g)=some (xs.map f):=by rw[Zb0 g (λ_=>true) f xs (λ_ _=>rfl) λx hx _=>h x hx,ZzX.mpr λ_ _=>rfl]
theorem Zin{α:Type}{i:Nat}{body:SF}(g:α->D)(P:List α->Env->Prop)(xs:List α)(r:Env)(h0:P [] r)
  (hs:∀pre x post r,xs=pre++x::post->P pre r->∃r',body (r.set i (some (.pl (g x))))=some (.nx r')/\P (pre++[x]) r'):∃r',Z5 i body (xs.map g) r=some (.nx r')/\P xs r':=by
 have key:∀(post pre:List α) (r:Env),xs=pre++post->P pre r->∃r',Z5 i body (post.map g) r=some (.nx r')/\P xs r':=by
  intro post
  induction post with
  | nil=>intro pre r e h; rw[Zxc]at e; subst e; exact⟨r,rfl,h⟩
  | cons x post ih=>intro pre r e h;obtain⟨r1,h1,h2⟩:=hs pre x post r e h;obtain⟨r2,h3,h4⟩:=ih (pre++[x]) r1 (by rw[e,Zx5]; rfl) h2;refine⟨r2,?_,h4⟩;rw[ZwD];unfold Z5;rw[h1];exact h3
 exact key xs [] r rfl h0
def Zuj{α S:Type}(q:S->α->Bool)(step:S->α->S):S->List α->Bool
 | _,[]=>true
 | s,x::xs=>q s x&&Zuj q step (step s x) xs
abbrev dI(i:Int):D:=Zxk i
abbrev dN(k:Nat):D:=Zxk (k:Int)
theorem ZeI(ns:List Int):ofInts ns=ns.map dI:=rfl
theorem Zaf(n:Nat):Zcp 0 n=(ZwE n).map dN:=by unfold Zcp;refine Zx8 λk _=>?_;show Zxk (0+(k:Int))=Zxk (k:Int);rw[Int.zero_add]
theorem ZcS(ns:List Int):Zat (ns.map dI)=some ns:=by
 induction ns with
 | nil=>rfl
 | cons n ns ih=>show(Zat (ns.map dI)).map (n::·)=_; rw[ih]; rfl
theorem ZeP(bs:List Bool):Zeo (bs.map λb=>ZxT b)=some bs:=by
 induction bs with
 | nil=>rfl
 | cons b bs ih=>show(Zeo (bs.map λb=>ZxT b)).map (b::·)=_; rw[ih]; rfl
abbrev tupI(ns:List Int):D:=Zxt (ns.map dI)
theorem ZdX{ds:List D}{j:Nat}{d:D}(h:ds[j]?=some d):atD ds (j:Int)=some d:=by have hj:j<ds.length:=(ZwI.mp h).1;unfold atD ixN;rw[if_pos (by omega),if_pos (by omega)];simpa using h
theorem Zii{ds:List D}{i:Int}{d:D}(h0:0<=i)(h:ds[i.toNat]?=some d):atD ds i=some d:=by
 have e:i=((i.toNat:Nat):Int):=by omega
 rw[e]; exact ZdX (by simpa using h)
@[simp] theorem Zwt(d:D)(r:List D):atD (d::r) 0=some d:=ZdX (j:=0) rfl
@[simp] theorem Zwr(a d:D)(r:List D):atD (a::d::r) 1=some d:=ZdX (j:=1) rfl
@[simp] theorem Zwp(a b d:D)(r:List D):atD (a::b::d::r) 2=some d:=ZdX (j:=2) rfl
@[simp] theorem Zwu(a b c d:D)(r:List D):atD (a::b::c::d::r) 3=some d:=ZdX (j:=3) rfl
@[simp] theorem Zwq(a b c e d:D)(r:List D):atD (a::b::c::e::d::r) 4=some d:=ZdX (j:=4) rfl
theorem Zv0(i j:Int)(h:(ZQ i||ZQ j)=true):ZcB (.int i) (.int j)=some (.int (i*j)):=by show(if ZQ i||ZQ j then some (Zxk (i*j))else none)=_;rw[if_pos h]
@[simp] theorem ZvR:ZQ 7=true:=rfl
@[simp] theorem ZvI:ZQ 11=true:=rfl
@[simp] theorem ZvF:ZQ 13=true:=rfl
@[simp] theorem Zvy:ZQ 17=true:=rfl
@[simp] theorem ZvH:ZQ 19=true:=rfl
@[simp] theorem ZvE:ZQ 23=true:=rfl
@[simp] theorem ZvC:ZQ 29=true:=rfl
@[simp] theorem ZvM:ZQ 31=true:=rfl
@[simp] theorem ZvL:ZQ 37=true:=rfl
@[simp] theorem ZvA:ZQ 41=true:=rfl
@[simp] theorem Zvx:ZQ 43=true:=rfl
@[simp] theorem Zvw:ZQ 47=true:=rfl
@[simp] theorem ZvD:ZQ 53=true:=rfl
@[simp] theorem Zvv:ZQ 59=true:=rfl
@[simp] theorem ZvG:ZQ 61=true:=rfl
@[simp] theorem ZvJ:ZQ 67=true:=rfl
@[simp] theorem Zvz:ZQ 71=true:=rfl
@[simp] theorem ZvK:ZQ 73=true:=rfl
@[simp] theorem ZuV:ZQ 48271=true:=rfl
@[simp] theorem Zv4:ZQ 2=true:=rfl
@[simp] theorem Zv5:ZQ 3=true:=rfl
@[simp] theorem ZvX:ZQ 5=true:=rfl
theorem ZhZ{i:Int}(h1:-1000000000<i)(h2:i<1000000000):ZQ i=true:=by
 unfold ZQ;have:i.natAbs<18446744073709551616:=by omega
 exact Zzn.mpr this
theorem Zdq{n:Nat}(h:n<1000000):okR (n:Int)=true:=Zzn.mpr (by omega)
@[simp] theorem Zvp(i:Int):Zcq (.int i)=true:=rfl
@[simp] theorem Zu1(i:Bool):Zcq (.bool i)=true:=rfl
@[simp] theorem Zu2:Zcq .none=true:=rfl
@[simp] theorem Zwl(i j:Int):Zzm (.int i) (.int j)=(i==j):=rfl
structure Wk where
 many:Nat
 deeds:List (List (List Int))
 looks:List (List Int)
 beg:List Int
 goal:List Int
def ZL(dd:List (List Int)):D:=.tuple (dd.map tupI)
def Wk.d(w:Wk):D:=.tuple [.int w.many,.tuple (w.deeds.map ZL),.tuple (w.looks.map tupI),tupI w.beg,tupI w.goal]
def Cr(n:Nat)(c:List Int):Prop:=c.Pairwise (· < ·)/\∀x∈c,0<=x/\x<(n:Int)
structure Wk.Ok(w:Wk):Prop where
 m1:2<=w.many
 m2:w.many<=5
 d1:1<=w.deeds.length
 d2:w.deeds.length<=3
 dl:∀dd∈w.deeds,dd.length=w.many
 dc:∀dd∈w.deeds,∀c∈dd,Cr w.many c
 l2:w.looks.length<=3
 ll:∀l∈w.looks,l.length=w.many
 lc:∀l∈w.looks,∀x∈l,0<=x/\x<=9
 b1:w.beg≠[]
 bc:Cr w.many w.beg
 g1:w.goal≠[]
 gc:Cr w.many w.goal
theorem Cr.len{n:Nat}:∀{c:List Int},Cr n c->c.length<=n:=by
 have key:∀(c:List Int) (l:Int),c.Pairwise (· < ·)->(∀x∈c,l<=x/\x<(n:Int))->(c.length:Int)<=max 0 ((n:Int)-l):=by
  intro c
  induction c with
  | nil=>intro l _ _; simp; omega
  | cons x c ih=>intro l hp hb;have h1:=hb x (ZwA ..);have h2:=ih (x+1) (Zxf.mp hp).2 λy hy=>⟨by have:=(Zxf.mp hp).1 y hy; omega,(hb y (ZwC _ hy)).2⟩;rw[ZwM];omega
 intro c h;have:=key c 0 h.1 h.2;omega
theorem sortI_perm(ns:List Int):(sortI ns).Perm ns:=Zza ns _
theorem Zse(ns:List Int):(sortI ns).Pairwise (·<=·):=by have h:=Zzs (le:=λa b:Int=>decide (a<=b)) (λa b c h1 h2=>by simp at *; omega) (λa b=>by simp; omega) ns;exact h.imp λh=>by simpa using h
theorem ZiL:∀{ns:List Int},ns.Pairwise (·<=·)->ns.Nodup->ns.Pairwise (· < ·)
 | [],_,_=>.nil
 | n::ns,h,hn=>by obtain⟨h1,h2⟩:=Zxf.mp h;obtain⟨n1,n2⟩:=Zxm.mp hn;refine Zxf.mpr ⟨λx hx=>?_,ZiL h2 n2⟩;have:=h1 x hx;have:n≠x:=λe=>n1 (e▸hx);omega
theorem Zg0{n:Nat}{ns:List Int}(hn:ns.Nodup)(hb:∀x∈ns,0<=x/\x<(n:Int)):Cr n (sortI ns) :=
 ⟨ZiL (Zse ns) ((sortI_perm ns).nodup_iff.mpr hn),λx hx=>hb x ((sortI_perm ns).mem_iff.mp hx)⟩
theorem ZgS(ns:List Int)(h:ns.length<64):Zed (ns.map dI)=some ((sortI ns).map dI):=by unfold Zed;rw[if_pos (by rw[Zwy]; exact h),ZcS];rfl
theorem Zep:∀(ns acc:List Int) (x:Int),x∈dedup acc ns↔x∈acc\/x∈ns
 | [],acc,x=>by simp[dedup]
 | n::ns,acc,x=>by
  unfold dedup;split
  ·rename_i h
   have h':n∈acc:=by simpa using h
   rw[Zep ns acc x]
   constructor
   ·rintro (h | h)
    ·exact .inl h
    ·exact .inr (ZwC _ h)
   ·rintro (h | h)
    ·exact .inl h
    ·rcases ZwT.mp h with e | e
     ·exact .inl (e▸h')
     ·exact .inr e
  ·rw[Zep ns _ x,Zw5,ZwQ,ZwT]
   constructor
   ·rintro ((h | h) | h)
    ·exact .inl h
    ·exact .inr (.inl h)
    ·exact .inr (.inr h)
   ·rintro (h | h | h)
    ·exact .inl (.inl h)
    ·exact .inl (.inr h)
    ·exact .inr h
theorem Zeb:∀(ns acc:List Int),acc.Nodup->(dedup acc ns).Nodup
 | [],acc,h=>h
 | n::ns,acc,h=>by
  unfold dedup;split
  ·exact Zeb ns acc h
  ·rename_i hc
   have hc':n ∉ acc:=by simpa using hc
   refine Zeb ns _ ?_;rw[ZyZ];exact⟨h,by simp,λa ha b hb=>by simp at hb; subst hb; exact λe=>hc' (e▸ha)⟩
end HM
namespace HG
open PySem HM
def Zho:SF :=
 (Zv (sIf (tOr (tV (ZgZ (Zc 0) .bool)) (Zd3 (tV (ZgZ (Zc 0) .int)))) (ZB (eC (.bool false))) Zau)
  (ZB (ZjF gLe gLe (Zc 1) (Zc 0) (Zc 2))))
def ZaD:List D->Option D:=fnOf 3 3 Zho
def Zkn:SF :=
 (ZB (ZgU (ZgZ (Zc 0) .tuple) (ZjF gLe gLe (Zc 1) (Zbn (Zp 0)) (Zc 2))))
def ZaB:List D->Option D:=fnOf 3 3 Zkn
def Zac:SF :=
 (Zv (sIf (Zd3 (tV (Zm ZaD (Zd (Zc 3) (Zd (Zc 2) (Zd (op2 Zf3 (Zc 1) (eC (.int 1))) Zn)))))) (ZB (eC (.bool false))) Zau)
  (Zai 2 (op2 Zbm (Zc 3) (eC (.int 1)))))
def Zdt:SF :=
 (Zv (sIf (Zd3 (tV (ZgZ (Zc 0) .tuple))) (ZB (eC (.bool false))) Zau)
  (Zv (Zai 2 (eC (.int 0)))
  (Zv (Zbl 3 (Zav (bOf (Zc 0))) Zac)
  (ZB (eC (.bool true))))))
def ZT:List D->Option D:=fnOf 2 4 Zdt
def Zgw:SF :=
 (ZB (ZgU (Zm ZaB (Zd (Zc 0) (Zd (Zc 1) (Zd (Zc 1) Zn)))) (Zh3 (ZO (Zav (bOf (Zc 0))) Zam (Zm ZT (Zd (Zc 0) (Zd (Zc 2) Zn)))))))
def ZbR:List D->Option D:=fnOf 2 2 Zgw
def Zgx:SF :=
 (ZB (ZgU (Zm ZaB (Zd (Zc 0) (Zd (Zc 1) (Zd (Zc 1) Zn)))) (Zh3 (ZO (Zav (bOf (Zc 0))) Zam (Zm ZaD (Zd (Zc 0) (Zd (eC (.int 0)) (Zd (eC (.int 9)) Zn))))))))
def ZbS:List D->Option D:=fnOf 2 2 Zgx
def Zhp:SF :=
 (ZB (ZgU (Zm ZaB (Zd (Zc 0) (Zd (eC (.int 1)) (Zd (eC (.int 5)) Zn)))) (Zh3 (ZO (Zav (bOf (Zc 0))) Zam (Zm ZbR (Zd (Zc 0) (Zd (Zc 2) Zn)))))))
def Zb2:List D->Option D:=fnOf 2 2 Zhp
def Zhq:SF :=
 (ZB (ZgU (Zm ZaB (Zd (Zc 0) (Zd (eC (.int 0)) (Zd (eC (.int 4)) Zn)))) (Zh3 (ZO (Zav (bOf (Zc 0))) Zam (Zm ZbS (Zd (Zc 0) (Zd (Zc 2) Zn)))))))
def Zb3:List D->Option D:=fnOf 2 2 Zhq
def ZiB:SF :=
 (ZB (ZgU (Zm ZT (Zd (Zc 0) (Zd (Zc 1) Zn))) (op2 gGt (Zbn (Zp 0)) (eC (.int 0)))))
def Zcr:List D->Option D:=fnOf 2 2 ZiB
def Zhr:SF :=
 (Zv (sIf (tOr (Zd3 (tV (Zm ZaB (Zd (Zc 0) (Zd (eC (.int 5)) (Zd (eC (.int 5)) Zn)))))) (Zd3 (tV (Zm ZaD (Zd (eIx (Zp 0) (eC (.int 0))) (Zd (eC (.int 1)) (Zd (eC (.int 8)) Zn))))))) (ZB (eC (.bool false))) Zau)
  (Zv (Zai 1 (eIx (Zp 0) (eC (.int 0))))
  (Zv (sIf (tOr (Zd3 (tV (Zm Zb2 (Zd (eIx (Zp 0) (eC (.int 1))) (Zd (Zc 1) Zn))))) (Zd3 (tV (Zm Zb3 (Zd (eIx (Zp 0) (eC (.int 2))) (Zd (Zc 1) Zn)))))) (ZB (eC (.bool false))) Zau)
  (ZB (ZgU (Zm Zcr (Zd (eIx (Zp 0) (eC (.int 3))) (Zd (Zc 1) Zn))) (Zm ZT (Zd (eIx (Zp 0) (eC (.int 4))) (Zd (Zc 1) Zn))))))))
def Zb4:List D->Option D:=fnOf 1 2 Zhr
def ZiC:SF :=
 (ZB (eIx (Zp 0) (eC (.int 1))))
def ZaT:List D->Option D:=fnOf 1 1 ZiC
def ZiD:SF :=
 (ZB (eIx (Zp 0) (eC (.int 2))))
def Zby:List D->Option D:=fnOf 1 1 ZiD
def Zje:SF :=
 (Zv (sIf (Zd3 (tV (Zm Zb4 (Zd (Zc 0) Zn)))) ZhR Zau)
  (ZB (Zc 0)))
def ZcU:List D->Option D:=fnOf 1 1 Zje
def ZeW:SF :=
 (Zv (sIf (Zd3 (tV (Zm ZT (Zd (Zc 1) (Zd (Zbn (bOf (Zm Zby (Zd (Zc 0) Zn)))) Zn))))) ZhR Zau)
  (ZB (Zc 1)))
def Za8:List D->Option D:=fnOf 2 2 ZeW
def Zjf:SF :=
 (ZB (Zag (ZO (Zav (bOf (Zc 1))) Zam (eIx (bOf (eIx (bOf (Zm Zby (Zd (Zc 1) Zn))) (Zc 0))) (Zc 3)))))
def ZcV:List D->Option D:=fnOf 3 3 Zjf
def Zgi:SF :=
 (Zv (Zai 3 (eIx (bOf (Zm ZaT (Zd (Zc 0) Zn))) (Zc 2)))
  (ZB (Zh3 (ZO (Zav (bOf (Zc 1))) Zam (op2 gGt (Zbn (bOf (eIx (Zp 4) (Zc 0)))) (eC (.int 0)))))))
def ZbA:List D->Option D:=fnOf 3 4 Zgi
def Zhc:SF :=
 (ZB (eOf (ZO (ZbJ (Zbn (bOf (Zm ZaT (Zd (Zc 0) Zn))))) (tV (Zm ZbA (Zd (Zc 1) (Zd (Zc 2) (Zd (Zc 0) Zn))))) (Zc 0))))
def ZbL:List D->Option D:=fnOf 2 2 Zhc
def Zdu:SF :=
 (ZhQ 4 (Zc 6) (eC (.bool true)))
def Zdv:SF :=
 (Zbl 6 (Zav (bOf (eIx (Zp 3) (Zc 5)))) Zdu)
def Zko:SF :=
 (Zv (Zai 3 (eIx (bOf (Zm ZaT (Zd (Zc 0) Zn))) (Zc 2)))
  (Zv (ZY 4 fDk)
  (Zv (Zbl 5 (Zav (bOf (Zc 1))) Zdv)
  (ZB (Zag (ZeR (Zp 4)))))))
def ZcF:List D->Option D:=fnOf 3 7 Zko
def Zdw:SF :=
 (Zl3 3 (Zm ZcV (Zd (Zc 0) (Zd (Zc 1) (Zd (Zc 4) Zn)))) (Zc 4))
def Zkp:SF :=
 (Zv (ZY 3 Zr6)
  (Zv (Zbl 4 (Zav (bOf (Zc 2))) Zdw)
  (ZB (eOf (ZO (Zav (bOf (eOf (ZeR (Zp 3))))) Zam (Zgd (Zd (Zc 0) (Zd (Zag (Zmn 4 (Zc 0))) Zn))))))))
def ZaO:List D->Option D:=fnOf 3 5 Zkp
def ZiE:SF :=
 (Zv (sIf (tV (op2 gLt (Zc 1) (Zbn (Zp 0)))) (ZB (eIx (Zp 0) (Zc 1))) Zau)
  (ZB (eC (.int 0))))
def Z3:List D->Option D:=fnOf 2 2 ZiE
def Zjg:SF :=
 (ZB (op2 ZrB (op2 ZrB (op2 ZcB (Zc 0) (eC (.int 48271))) (Zc 1)) (Zc 2)))
def ZE:List D->Option D:=fnOf 3 3 Zjg
def ZeX:SF :=
 (Zv (ZY 3 (ZO (ZbJ (Zc 1)) (tV (op2 gLt (Zm ZE (Zd (op2 Zbm (op2 Zbm (Zc 1) (op2 ZcB (op2 ZcB (eC (.int 31)) (Zc 0)) (Zc 0))) (op2 ZcB (eC (.int 7)) (Zc 0))) (Zd (eC (.int 9973)) (Zd (eC (.int 5)) Zn)))) (eC (.int 2)))) (Zc 0)))
  (Zv (sIf (tV (op2 gLt (Zbn (Zp 3)) (Zc 2))) (ZY 3 (Zfm (Zd (Zm ZE (Zd (Zc 0) (Zd (eC (.int 9967)) (Zd (Zc 1) Zn)))) Zn))) Zau)
  (ZB (Zag (Zp 3)))))
def Zbg:List D->Option D:=fnOf 3 4 ZeX
def ZbB:SF :=
 (Zv (Zai 4 (op2 Zbm (op2 Zbm (Zc 0) (op2 ZcB (op2 ZcB (eC (.int 43)) (Zc 3)) (Zc 3))) (op2 ZcB (eC (.int 11)) (Zc 3))))
  (Zv (Zai 5 (Zm ZE (Zd (Zc 4) (Zd (eC (.int 9949)) (Zd (eC (.int 10)) Zn)))))
  (Zv (ZY 6 (Zm1 (Zm ZE (Zd (Zc 4) (Zd (eC (.int 9941)) (Zd (Zc 1) Zn)))) (eC (.bool true))))
  (Zv (sIf (tV (op2 gLt (Zc 5) (eC (.int 3)))) (ZhQ 6 (Zm ZE (Zd (Zc 4) (Zd (eC (.int 9931)) (Zd (Zc 1) Zn)))) (eC (.bool true))) Zau)
  (Zv (Zd5 2 (Zag (ZeR (Zp 6))))
  (sIf (tV (op2 gEq (Zc 5) (eC (.int 9)))) (Zo9 2 (eC (.int (-1))) (Zgd Zn)) Zau))))))
def ZiF:SF :=
 (Zv (ZY 2 (Zfm Zn))
  (Zv (Zbl 3 (ZbJ (Zc 1)) ZbB)
  (ZB (Zag (Zp 2)))))
def Zcs:List D->Option D:=fnOf 2 7 ZiF
def ZcG:SF :=
 (Zv (Zai 5 (op2 Zuf (op2 Zf3 (Zc 4) (eC (.int 1))) (eC (.int 0))))
  (Zv (Zai 6 (op2 ZtX (op2 Zbm (Zc 4) (eC (.int 1))) (op2 Zf3 (Zc 1) (eC (.int 1)))))
  (Zv (Zai 7 (op2 gEq (Zm ZE (Zd (op2 Zbm (Zc 0) (op2 ZcB (eC (.int 17)) (Zc 4))) (Zd (eC (.int 9929)) (Zd (eC (.int 6)) Zn)))) (eC (.int 1))))
  (Zv (Zd5 2 (Zag (ZeQ (Zmb (Zfm (Zd (Zc 5) Zn)) (Zso (Zfm (Zd (Zc 4) Zn)) (ZmF (Zc 7)))))))
  (Zd5 3 (Zgd (Zd (Zc 6) Zn)))))))
def ZiG:SF :=
 (Zv (ZY 2 (Zfm Zn))
  (Zv (ZY 3 (Zfm Zn))
  (Zv (Zbl 4 (ZbJ (Zc 1)) ZcG)
  (ZB (Zgd (Zd (Zag (Zp 2)) (Zd (Zag (Zp 3)) Zn)))))))
def Zct:List D->Option D:=fnOf 2 8 ZiG
def Zcn:SF :=
 (Zv (Zai 7 (op2 Zbm (Zm Z3 (Zd (Zc 0) (Zd (op2 Zbm (op2 Zbm (Zc 1) (eC (.int 4))) (Zc 5)) Zn))) (op2 ZcB (eC (.int 71)) (Zc 5))))
  (Zv (Zai 8 (op2 Zbm (eC (.int 2)) (Zm ZE (Zd (Zc 7) (Zd (eC (.int 9883)) (Zd (eC (.int 2)) Zn))))))
  (Zd5 6 (Zag (ZO (ZbJ (Zc 3)) Zam (Zm ZE (Zd (op2 Zbm (Zc 8) (op2 ZcB (op2 ZcB (eC (.int 13)) (Zc 0)) (Zc 0))) (Zd (eC (.int 9871)) (Zd (Zc 9) Zn)))))))))
def Zc6:SF :=
 (Zd5 4 (Zm Zcs (Zd (op2 Zbm (Zm Z3 (Zd (Zc 0) (Zd (op2 Zbm (op2 Zbm (Zc 1) (eC (.int 1))) (Zc 5)) Zn))) (op2 ZcB (eC (.int 61)) (Zc 5))) (Zd (Zc 3) Zn))))
def ZcH:SF :=
 (Zv (Zai 2 (Zm Z3 (Zd (Zc 0) (Zd (Zc 1) Zn))))
  (Zv (Zai 3 (op2 Zbm (eC (.int 2)) (Zm ZE (Zd (Zc 2) (Zd (eC (.int 9923)) (Zd (eC (.int 4)) Zn))))))
  (Zv (sIf (tV (op2 gGt (Zbn (Zp 0)) (eC (.int 63)))) (Zai 3 (op2 Zbm (eC (.int 2)) (Zm ZE (Zd (Zc 2) (Zd (eC (.int 9923)) (Zd (eC (.int 6)) Zn)))))) Zau)
  (Zv (ZY 4 (Zfm Zn))
  (Zv (Zbl 5 (ZbJ (op2 Zbm (eC (.int 1)) (Zm ZE (Zd (Zc 2) (Zd (eC (.int 9907)) (Zd (eC (.int 3)) Zn)))))) Zc6)
  (Zv (sIf (tV (op2 gEq (Zm ZE (Zd (Zc 2) (Zd (eC (.int 9901)) (Zd (eC (.int 3)) Zn)))) (eC (.int 1)))) (ZY 4 (Zmb (Zgr (bOf (Zm Zct (Zd (Zm Z3 (Zd (Zc 0) (Zd (op2 Zbm (Zc 1) (eC (.int 1))) Zn))) (Zd (Zc 3) Zn))))) (Zrq (Zp 4) none (some (eC (.int 1)))))) Zau)
  (Zv (ZY 6 (Zfm Zn))
  (Zv (Zbl 5 (ZbJ (Zm ZE (Zd (Zc 2) (Zd (eC (.int 9887)) (Zd (eC (.int 4)) Zn))))) Zcn)
  (Zv (Zai 9 (Zm Zbg (Zd (Zm Z3 (Zd (Zc 0) (Zd (op2 Zbm (Zc 1) (eC (.int 7))) Zn))) (Zd (Zc 3) (Zd (eC (.int 1)) Zn)))))
  (Zv (sIf (tV (op2 gEq (Zm ZE (Zd (Zc 2) (Zd (eC (.int 9859)) (Zd (eC (.int 3)) Zn)))) (eC (.int 1)))) (Zai 9 (Zi7 (ZbJ (Zc 3)))) Zau)
  (Zv (Zai 10 (Zm Zbg (Zd (Zm Z3 (Zd (Zc 0) (Zd (op2 Zbm (Zc 1) (eC (.int 8))) Zn))) (Zd (Zc 3) (Zd (eC (.int 1)) Zn)))))
  (ZB (Zgd (Zd (Zc 3) (Zd (Zag (Zp 4)) (Zd (Zag (Zp 6)) (Zd (Zc 9) (Zd (Zc 10) Zn))))))))))))))))))
def ZaE:List D->Option D:=fnOf 2 11 ZcH
def Zhs:SF :=
 (ZB (Zag (ZO (ZbJ (Zbn (bOf (eIx (Zp 0) (eC (.int 2)))))) (tV (op2 gGt (Zm ZE (Zd (op2 Zbm (Zc 2) (op2 ZcB (eC (.int 19)) (Zc 0))) (Zd (eC (.int 9857)) (Zd (eC (.int 4)) Zn)))) (eC (.int 0)))) (Zc 0))))
def Zb5:List D->Option D:=fnOf 2 2 Zhs
def ZaF:SF :=
 (Zv (sIf (tV (op2 gEq (eIx (bOf (eIx (bOf (eIx (Zp 0) (eC (.int 1)))) (Zc 2))) (Zc 4)) (Zgd Zn))) (ZB (eC .none)) Zau)
  (ZY 3 (Zmb (Zp 3) (Zgr (bOf (eIx (bOf (eIx (bOf (eIx (Zp 0) (eC (.int 1)))) (Zc 2))) (Zc 4)))))))
def Zgy:SF :=
 (Zv (ZY 3 (Zfm Zn))
  (Zv (Zbl 4 (Zav (bOf (Zc 1))) ZaF)
  (ZB (Zag (ZeQ (Zp 3))))))
def ZbT:List D->Option D:=fnOf 3 5 Zgy
def ZbM:SF :=
 (Zv (Zai 5 (Zag (ZO (Zav (bOf (Zc 1))) Zam (eIx (bOf (eIx (bOf (eIx (Zp 1) (eC (.int 2)))) (Zc 0))) (Zc 5)))))
  (Zv (sIf (tV (ZjN (Zc 5) (Zp 3))) (Zkj 3 (Zc 5)) Zau)
  (Zne 3 (Zc 5) (Zc 4))))
def Zht:SF :=
 (Zv (ZY 3 Zr6)
  (Zv (Zbl 4 (Zav (bOf (Zc 2))) ZbM)
  (ZB (eOf (ZO (Zav (bOf (eOf (ZeR (Zp 3))))) Zam (Zgd (Zd (Zc 0) (Zd (Zag (Zmn 4 (Zc 0))) Zn))))))))
def Zbh:List D->Option D:=fnOf 3 6 Zht
end HG
namespace HG
open PySem HM
def Zt(ns:List Int)(k:Nat):Int:=if k<ns.length then ns.getD k 0 else 0
theorem Zdo(ns:List Int)(k:Nat):Z3 [.list (ns.map dI),.int k]=some (.int (Zt ns k)):=by
 simp[Z3,ZiE,Zt]
 by_cases h:k<ns.length
 ·have h':(k:Int)<(ns.length:Int):=by omega
  have e:atD (ns.map dI) (k:Int)=some (.int ns[k]):=ZdX (by simp[h]);simp[h,h',e]
 ·have h':¬(k:Int)<(ns.length:Int):=by omega
  simp[h,h']
def ZP(c p m:Int):Int:=c*48271 % p % m
theorem ZbX(c p m:Int)(hp:0<p)(hm:0<m):ZE [.int c,.int p,.int m]=some (.int (ZP c p m)):=by simp[ZE,Zjg,hp,hm,ZP]
theorem Zar(c p m:Int)(hm:0<m):0<=ZP c p m/\ZP c p m<m:=⟨Int.emod_nonneg _ (by omega),Int.emod_lt_of_pos _ hm⟩
def crP(c:Int)(k:Nat):Bool:=decide (ZP (c+31*(k:Int)*(k:Int)+7*(k:Int)) 9973 5<2)
def crF(c:Int)(n:Nat):List Int:=((ZwE n).filter (crP c)).map λ(k:Nat)=>(k:Int)
def crV(c:Int)(n:Nat):List Int:=if(crF c n).length<1 then[ZP c 9967 n]else crF c n
theorem Zg4(n:Nat)(p:Nat->Bool):Cr n (((ZwE n).filter p).map λ(k:Nat)=>(k:Int)):=by
 refine⟨?_,λx hx=>?_⟩
 ·rw[List.pairwise_map]
  refine List.Pairwise.imp (λ{a b} h=>?_) (List.Pairwise.filter p ZAN);omega
 ·obtain⟨k,hk,rfl⟩:=ZwK.mp hx
  have:=ZwV.mp (Zxq.mp hk).1;omega
theorem Zqd(c:Int)(n:Nat)(hn:0<n):Cr n (crV c n)/\crV c n≠[]:=by
 unfold crV;split
 ·refine⟨⟨by simp,λx hx=>?_⟩,by simp⟩
  have e:x=ZP c 9967 n:=by simpa using hx
  rw[e];have:=Zar c 9967 n (by omega);omega
 ·rename_i h
  exact⟨Zg4 n _,λe=>h (by rw[e]; simp)⟩
theorem Zm8(c:Int)(n:Nat)(hn:0<n)(hb:n<1000):Zbg [.int c,.int n,.int 1]=some (tupI (crV c n)):=by
 have hn':(0:Int)<(n:Int):=by omega
 have key:ZaA (tV (op2 gLt (Zm ZE (Zd (op2 Zbm (op2 Zbm (Zc 1) (op2 ZcB (op2 ZcB (eC (.int 31)) (Zc 0)) (Zc 0))) (op2 ZcB (eC (.int 7)) (Zc 0))) (Zd (eC (.int 9973)) (Zd (eC (.int 5)) Zn)))) (eC (.int 2)))) (Zc 0)
   [some (.pl (.int c)),some (.pl (.int n)),some (.pl (.int 1)),none] (Zcp 0 n)=some ((crF c n).map dI):=by
  rw[Zaf];rw[Zb0 dN (crP c) dN]
  ·unfold crF
   rw[ZwW];rfl
  ·intro k hk
   have hk':=ZwV.mp hk;have s2:ZQ (31*(k:Int))=true:=ZhZ (by omega) (by omega);simp[ZbX,crP,s2]
  ·intro k hk _
   simp
 have h1:okR (n:Int)=true:=Zdq (by omega);have h2:(Zcp 0 n).length<1000000:=by rw[Zaf]; simp; omega
 by_cases hl:(crF c n).length<1
 ·have hl':((crF c n).length:Int)<1:=by omega
  have hm:=ZbX c 9967 n (by decide) hn';simp[Zbg,ZeX,h1,h2,key];simp[hl',crV,hl,hm]
 ·have hl':¬((crF c n).length:Int)<1:=by omega
  simp[Zbg,ZeX,h1,h2,key];simp[hl',crV,hl]
def Zsm(c:Int)(n k:Nat):List Int :=
 let s:=c+43*(k:Int)*(k:Int)+11*(k:Int)
 if ZP s 9949 10<3/\ZP s 9941 n≠ZP s 9931 n then[ZP s 9941 n,ZP s 9931 n]else[ZP s 9941 n]
def Zez(c:Int)(n k:Nat):List Int:=if ZP (c+43*(k:Int)*(k:Int)+11*(k:Int)) 9949 10=9 then[]else sortI (Zsm c n k)
theorem Ztx(c:Int)(n k:Nat)(hn:0<n):Cr n (Zez c n k):=by
 unfold Zez;split
 ·exact⟨.nil,λx hx=>by simp at hx⟩
 ·unfold Zsm
  dsimp only;have b1:=Zar (c+43*(k:Int)*(k:Int)+11*(k:Int)) 9941 n (by omega);have b2:=Zar (c+43*(k:Int)*(k:Int)+11*(k:Int)) 9931 n (by omega);split
  ·rename_i h
   refine Zg0 (by simp[h.2]) λx hx=>?_;simp at hx;rcases hx with e | e<;>(subst e; assumption)
  ·refine Zg0 (by simp) λx hx=>?_
   simp at hx;subst hx; assumption
theorem ZrP(n:Nat):ixN (n+1) (-1)=some n:=by unfold ixN;rw[if_neg (by decide),if_pos (by omega)];congr 1;omega
theorem Zqf(c:Int)(n k:Nat)(rows:List D)(o4 o5 o6:Option B)(hn:0<n)(hk:k<1000)(hl:rows.length<1000) :
  ∃r5 r6 r7,ZbB [some (.pl (.int c)),some (.pl (.int n)),some (.ol rows),some (.pl (dN k)),o4,o5,o6]=some (.nx [some (.pl (.int c)),some (.pl (.int n)),some (.ol (rows++[tupI (Zez c n k)])),some (.pl (dN k)),r5,r6,r7]):=by
 have hn':(0:Int)<(n:Int):=by omega
 have s2:ZQ (43*(k:Int))=true:=ZhZ (by omega) (by omega);have hl':rows.length<1000000:=by omega
 have m1:=ZbX (c+43*(k:Int)*(k:Int)+11*(k:Int)) 9949 10 (by decide) (by decide);have m2:=ZbX (c+43*(k:Int)*(k:Int)+11*(k:Int)) 9941 n (by decide) hn';have m3:=ZbX (c+43*(k:Int)*(k:Int)+11*(k:Int)) 9931 n (by decide) hn';unfold Zez Zsm;dsimp only;generalize ZP (c+43*(k:Int)*(k:Int)+11*(k:Int)) 9949 10=wy at *;generalize ZP (c+43*(k:Int)*(k:Int)+11*(k:Int)) 9941 n=a at *;generalize ZP (c+43*(k:Int)*(k:Int)+11*(k:Int)) 9931 n=b at *;have t1:Zed [Zxk a]=some ((sortI [a]).map dI):=ZgS [a] (by simp);have t2:Zed [Zxk a,Zxk b]=some ((sortI [a,b]).map dI):=ZgS [a,b] (by simp)
 by_cases w3:wy<3
 ·have w9:(wy==9)=false:=by simp; omega
  have w9':¬wy=9:=by omega
  by_cases ab:a=b
  ·subst ab
   simp[ZbB,s2,m1,m2,m3,w3,w9,w9',putD,Zaj,hl',t1]
  ·simp[ZbB,s2,m1,m2,m3,w3,w9,w9',putD,ab,Zaj,hl',t2]
 ·by_cases w9:wy=9
  ·subst w9
   simp[ZbB,s2,m1,m2,putD,Zaj,hl',t1,ZrP]
  ·have w9':(wy==9)=false:=by simp[w9]
   simp[ZbB,s2,m1,m2,w3,w9',w9,putD,Zaj,hl',t1]
theorem Zte(c:Int)(n:Nat)(hn:0<n)(hb:n<1000):Zcs [.int c,.int n]=some (ZL ((ZwE n).map λk=>Zez c n k)):=by
 have h1:okR (n:Int)=true:=Zdq (by omega);have h2:(Zcp 0 n).length<1000000:=by rw[Zaf]; simp; omega
 obtain⟨r',e1,o3,o4,o5,o6,p1⟩:=Zin (i:=3) (body:=ZbB) dN (λ(s:List Nat) r=>∃o3 o4 o5 o6,r=[some (.pl (.int c)),some (.pl (.int n)),some (.ol (s.map λk=>tupI (Zez c n k))),o3,o4,o5,o6]) (ZwE n)
  [some (.pl (.int c)),some (.pl (.int n)),some (.ol []),none,none,none,none] ⟨none,none,none,none,rfl⟩ (by
   rintro s k post r hxs ⟨o3,o4,o5,o6,rfl⟩
   have hk':k<n:=ZwV.mp (by rw[hxs]; simp);have hs:s.length<n:=by have:=congrArg Zxd hxs; simp at this; omega
   obtain⟨r5,r6,r7,e⟩:=Zqf c n k (s.map λk=>tupI (Zez c n k)) o4 o5 o6 hn (by omega) (by simp; omega);exact⟨_,e,some (.pl (dN k)),r5,r6,r7,by simp⟩)
 subst p1;have hl:n<1000000:=by omega
 simp[Zcs,ZiF,h1,Zaf,hl,e1,ZL]
end HG
namespace HG
open PySem HM
def ahV(k:Nat):Int:=if(0:Int) > (k:Int)-1 then 0 else(k:Int)-1
def beV(n k:Nat):Int:=if(n:Int)-1<(k:Int)+1 then(n:Int)-1 else(k:Int)+1
def wlV(c:Int)(k:Nat):List Int:=sortI (dedup [] (ahV k::(if ZP (c+17*(k:Int)) 9929 6=1 then[(k:Int)]else[])))
theorem ZuH(c:Int)(n k:Nat)(hk:k<n):Cr n (wlV c k):=by
 unfold wlV;have ha:0<=ahV k/\ahV k<n:=by unfold ahV; split<;>omega
 refine Zg0 (Zeb _ _ (by simp)) λx hx=>?_;rw[Zep]at hx;rcases hx with h | h
 ·simp at h
 ·rcases ZwT.mp h with e | e
  ·subst e; exact ha
  ·split at e
   ·simp at e; subst e; omega
   ·simp at e
theorem ZtK(n k:Nat)(hk:k<n):Cr n [beV n k]:=by
 have ha:0<=beV n k/\beV n k<n:=by unfold beV; split<;>omega
 exact⟨by simp,λx hx=>by simp at hx; subst hx; exact ha⟩
theorem ZqC(c:Int)(n k:Nat)(ls rs:List D)(o4 o5 o6 o7:Option B)(hk:k<8)(h1:ls.length<1000)(h2:rs.length<1000) :
  ∃r4 r5 r6,ZcG [some (.pl (.int c)),some (.pl (.int n)),some (.ol ls),some (.ol rs),some (.pl (dN k)),o5,o6,o7]=some (.nx [some (.pl (.int c)),some (.pl (.int n)),some (.ol (ls++[tupI (wlV c k)])),some (.ol (rs++[tupI [beV n k]])),some (.pl (dN k)),r4,r5,r6]):=by
 have h1':ls.length<1000000:=by omega
 have h2':rs.length<1000000:=by omega
 have m1:=ZbX (c+17*(k:Int)) 9929 6 (by decide) (by decide);have hk8:k=0\/k=1\/k=2\/k=3\/k=4\/k=5\/k=6\/k=7:=by omega
 have l1:ZpJ [if(k:Int)-1<0 then 0 else(k:Int)-1,(k:Int)]=true:=by rcases hk8 with rfl | rfl | rfl | rfl | rfl | rfl | rfl | rfl<;>rfl
 have l2:ZpJ [if(k:Int)-1<0 then 0 else(k:Int)-1]=true:=by rcases hk8 with rfl | rfl | rfl | rfl | rfl | rfl | rfl | rfl<;>rfl
 unfold wlV;generalize ZP (c+17*(k:Int)) 9929 6=a at *
 by_cases e:a=1
 ·subst e
  simp[ZcG,m1,h1',h2',ahV,beV,Zat,ZeI,l1]
 ·have e':(a==1)=false:=by simp[e]
  simp[ZcG,m1,h1',h2',ahV,beV,e,e',Zat,ZeI,l2]
theorem Ztl(c:Int)(n:Nat)(hb:n<=8):Zct [.int c,.int n]=some (.tuple [ZL ((ZwE n).map λk=>wlV c k),ZL ((ZwE n).map λk=>[beV n k])]):=by
 have h1:okR (n:Int)=true:=Zdq (by omega);obtain⟨r',e1,o4,o5,o6,o7,p1⟩:=Zin (i:=4) (body:=ZcG) dN (λ(s:List Nat) r=>∃o4 o5 o6 o7,r=[some (.pl (.int c)),some (.pl (.int n)),some (.ol (s.map λk=>tupI (wlV c k))),some (.ol (s.map λk=>tupI [beV n k])),o4,o5,o6,o7]) (ZwE n)
  [some (.pl (.int c)),some (.pl (.int n)),some (.ol []),some (.ol []),none,none,none,none] ⟨none,none,none,none,rfl⟩ (by
   rintro s k post r hxs ⟨o4,o5,o6,o7,rfl⟩
   have hk':k<n:=ZwV.mp (by rw[hxs]; simp);have hs:s.length<n:=by have:=congrArg Zxd hxs; simp at this; omega
   obtain⟨r5,r6,r7,e⟩:=ZqC c n k (s.map λk=>tupI (wlV c k)) (s.map λk=>tupI [beV n k]) o4 o5 o6 o7 (by omega) (by simp; omega) (by simp; omega);exact⟨_,e,some (.pl (dN k)),r5,r6,r7,by simp⟩)
 subst p1;have hl:n<1000000:=by omega
 simp[Zct,ZiG,h1,Zaf,hl,e1,ZL]
section
variable(ns:List Int)(at_:Nat)
def ZI:Nat:=(2+ZP (Zt ns at_) 9923 4).toNat
def Zbw:List (List (List Int)):=(ZwE (1+ZP (Zt ns at_) 9907 3).toNat).map λk=>(ZwE (ZI ns at_)).map λs=>Zez (Zt ns (at_+1+k)+61*(k:Int)) (ZI ns at_) s
def Zfu:List (List (List Int)) :=
 if ZP (Zt ns at_) 9901 3=1 then[(ZwE (ZI ns at_)).map λk=>wlV (Zt ns (at_+1)) k,(ZwE (ZI ns at_)).map λk=>[beV (ZI ns at_) k]]++(Zbw ns at_).take 1 else Zbw ns at_
def ZfG(k:Nat):List Int:=(ZwE (ZI ns at_)).map λ(s:Nat)=>ZP (Zt ns (at_+4+k)+71*(k:Int)+13*(s:Int)*(s:Int)) 9871 (2+ZP (Zt ns (at_+4+k)+71*(k:Int)) 9883 2)
def Zff:List (List Int):=(ZwE (ZP (Zt ns at_) 9887 4).toNat).map (ZfG ns at_)
def Znb:List Int:=if ZP (Zt ns at_) 9859 3=1 then(ZwE (ZI ns at_)).map λ(k:Nat)=>(k:Int)else crV (Zt ns (at_+7)) (ZI ns at_)
def Zsx:List Int:=crV (Zt ns (at_+8)) (ZI ns at_)
def wkV:Wk:=⟨ZI ns at_,Zfu ns at_,Zff ns at_,Znb ns at_,Zsx ns at_⟩
theorem Zih:2<=ZI ns at_/\ZI ns at_<=5:=by have:=Zar (Zt ns at_) 9923 4 (by decide);unfold ZI; omega
theorem ZsF:((ZI ns at_:Nat):Int)=2+ZP (Zt ns at_) 9923 4:=by have:=Zar (Zt ns at_) 9923 4 (by decide);unfold ZI; omega
theorem ZuT:(wkV ns at_).Ok:=by
 have hm:=Zih ns at_;have hd3:=Zar (Zt ns at_) 9907 3 (by decide);have dk:∀dd∈Zbw ns at_,dd.length=ZI ns at_/\∀c∈dd,Cr (ZI ns at_) c:=by intro dd h;unfold Zbw at h;obtain⟨k,_,rfl⟩:=ZwK.mp h;refine⟨by simp,λc hc=>?_⟩;obtain⟨s,_,rfl⟩:=ZwK.mp hc;exact Ztx _ _ _ (by omega)
 have dv:∀dd∈Zfu ns at_,dd.length=ZI ns at_/\∀c∈dd,Cr (ZI ns at_) c:=by
  intro dd h;unfold Zfu at h;split at h
  ·rcases Zw5.mp h with h | h
   ·simp at h
    rcases h with rfl | rfl
    ·refine⟨by simp,λc hc=>?_⟩
     obtain⟨s,hs,rfl⟩:=ZwK.mp hc;exact ZuH _ _ _ (ZwV.mp hs)
    ·refine⟨by simp,λc hc=>?_⟩
     obtain⟨s,hs,rfl⟩:=ZwK.mp hc;exact ZtK _ _ (ZwV.mp hs)
   ·exact dk dd (List.mem_of_mem_take h)
  ·exact dk dd h
 have lk:(Zbw ns at_).length=(1+ZP (Zt ns at_) 9907 3).toNat:=by unfold Zbw; simp
 have lv:1<=(Zfu ns at_).length/\(Zfu ns at_).length<=3:=by
  unfold Zfu;split
  ·simp; omega
  ·omega
 have hl4:=Zar (Zt ns at_) 9887 4 (by decide);have lo:∀l∈Zff ns at_,l.length=ZI ns at_/\∀x∈l,0<=x/\x<=9:=by intro l h;unfold Zff at h;obtain⟨k,_,rfl⟩:=ZwK.mp h;unfold ZfG;refine⟨by simp,λx hx=>?_⟩;obtain⟨s,_,rfl⟩:=ZwK.mp hx;have h2:=Zar (Zt ns (at_+4+k)+71*(k:Int)) 9883 2 (by decide);have h3:=Zar (Zt ns (at_+4+k)+71*(k:Int)+13*(s:Int)*(s:Int)) 9871 (2+ZP (Zt ns (at_+4+k)+71*(k:Int)) 9883 2) (by omega);omega
 have ll:(Zff ns at_).length<=3:=by unfold Zff; simp; omega
 have cb:=Zqd (Zt ns (at_+7)) (ZI ns at_) (by omega);have cg:=Zqd (Zt ns (at_+8)) (ZI ns at_) (by omega);have hb:Znb ns at_≠[]/\Cr (ZI ns at_) (Znb ns at_):=by
  unfold Znb;split
  ·refine⟨λe=>?_,?_⟩
   ·have:=congrArg Zxd e
    simp at this;omega
   ·have:=Zg4 (ZI ns at_) λ_=>true
    rwa [ZzX.mpr λ_ _=>rfl]at this
  ·exact⟨cb.2,cb.1⟩
 exact⟨hm.1,hm.2,lv.1,lv.2,λdd h=>(dv dd h).1,λdd h=>(dv dd h).2,ll,λl h=>(lo l h).1,λl h=>(lo l h).2,hb.1,hb.2,cg.2,cg.1⟩
theorem Zwc(k:Int)(h:0<=k):Z3 [.list (ns.map dI),.int k]=some (.int (Zt ns k.toNat)):=by
 have:=Zdo ns k.toNat
 rwa [ZzY h]at this
theorem ZpO(k n:Nat)(c:Option B)(ds:List D)(o6 o7 o8 o9 o10:Option B)(hk:k<1000)(h1:ds.length<1000)(hn:0<n)(hb:n<1000) :
  Zc6 [some (.pl (.list (ns.map dI))),some (.pl (.int at_)),c,some (.pl (.int n)),some (.ol ds),some (.pl (dN k)),o6,o7,o8,o9,o10] =
   some (.nx [some (.pl (.list (ns.map dI))),some (.pl (.int at_)),c,some (.pl (.int n)),some (.ol (ds++[ZL ((ZwE n).map λs=>Zez (Zt ns (at_+1+k)+61*(k:Int)) n s)])),some (.pl (dN k)),o6,o7,o8,o9,o10]):=by
 have h1':ds.length<1000000:=by omega
 have hc:=Zdo ns (at_+1+k);have e:((at_+1+k:Nat):Int)=(at_:Int)+1+(k:Int):=by omega
 rw[e]at hc;have hd:=Zte (Zt ns (at_+1+k)+61*(k:Int)) n hn hb;simp[Zc6,hc,hd,h1']
theorem Zpf(k n:Nat)(c o4:Option B)(ls:List D)(o7 o8 o9 o10:Option B)(hk:k<1000)(h1:ls.length<1000)(hn:n=ZI ns at_) :
  ∃r7 r8,Zcn [some (.pl (.list (ns.map dI))),some (.pl (.int at_)),c,some (.pl (.int n)),o4,some (.pl (dN k)),some (.ol ls),o7,o8,o9,o10] =
   some (.nx [some (.pl (.list (ns.map dI))),some (.pl (.int at_)),c,some (.pl (.int n)),o4,some (.pl (dN k)),some (.ol (ls++[tupI (ZfG ns at_ k)])),r7,r8,o9,o10]):=by
 have hb:=Zih ns at_;have h1':ls.length<1000000:=by omega
 have hc:=Zdo ns (at_+4+k);have e:((at_+4+k:Nat):Int)=(at_:Int)+4+(k:Int):=by omega
 rw[e]at hc;have m1:=ZbX (Zt ns (at_+4+k)+71*(k:Int)) 9883 2 (by decide) (by decide);have b1:=Zar (Zt ns (at_+4+k)+71*(k:Int)) 9883 2 (by decide);have hok:okR (n:Int)=true:=Zdq (by omega);have hl:n<1000000:=by omega
 unfold ZfG;rw[<-hn];generalize ZP (Zt ns (at_+4+k)+71*(k:Int)) 9883 2=mo at *;generalize Zt ns (at_+4+k)=cc at *;simp[Zcn,hc,m1,hok,h1',Zaf,hl];rw[Zbc dN λ(s:Nat)=>dI (ZP (cc+71*(k:Int)+13*(s:Int)*(s:Int)) 9871 (2+mo))]
 ·refine⟨some (.pl (.int (cc+71*(k:Int)))),some (.pl (.int (2+mo))),?_⟩
  simp
 ·intro s hs
  have hs':=ZwV.mp hs;have s2:ZQ (13*(s:Int))=true:=ZhZ (by omega) (by omega);have m2:=ZbX (cc+71*(k:Int)+13*(s:Int)*(s:Int)) 9871 (2+mo) (by decide) (by omega);simp[s2,m2]
theorem Zrt(h:ns.length<=63):ZaE [.list (ns.map dI),.int at_]=some (wkV ns at_).d:=by
 have hb:=Zih ns at_;have hmc:=ZsF ns at_;have c0:=Zdo ns at_;have c1:=Zdo ns (at_+1);have c7:=Zdo ns (at_+7);have c8:=Zdo ns (at_+8);have e1:((at_+1:Nat):Int)=(at_:Int)+1:=by omega
 have e7:((at_+7:Nat):Int)=(at_:Int)+7:=by omega
 have e8:((at_+8:Nat):Int)=(at_:Int)+8:=by omega
 rw[e1]at c1;rw[e7]at c7;rw[e8]at c8;have m4:=ZbX (Zt ns at_) 9923 4 (by decide) (by decide);have m3:=ZbX (Zt ns at_) 9907 3 (by decide) (by decide);have b3:=Zar (Zt ns at_) 9907 3 (by decide);have mw:=ZbX (Zt ns at_) 9901 3 (by decide) (by decide);have ml:=ZbX (Zt ns at_) 9887 4 (by decide) (by decide);have bl:=Zar (Zt ns at_) 9887 4 (by decide);have mb:=ZbX (Zt ns at_) 9859 3 (by decide) (by decide);have wk:=Ztl (Zt ns (at_+1)) (ZI ns at_) (by omega);have k7:=Zm8 (Zt ns (at_+7)) (ZI ns at_) (by omega) (by omega);have k8:=Zm8 (Zt ns (at_+8)) (ZI ns at_) (by omega) (by omega);have hlen:¬(63:Int)<(ns.length:Int):=by omega
 have ok3:okR (1+ZP (Zt ns at_) 9907 3)=true:=Zzn.mpr (by omega);have okl:okR (ZP (Zt ns at_) 9887 4)=true:=Zzn.mpr (by omega);have okm:okR ((ZI ns at_:Nat):Int)=true:=Zdq (by omega);obtain⟨r1,f1,o5,q1⟩:=Zin (i:=5) (body:=Zc6) dN (λ(s:List Nat) r=>∃o5,r=[some (.pl (.list (ns.map dI))),some (.pl (.int at_)),some (.pl (.int (Zt ns at_))),some (.pl (.int (ZI ns at_))),
   some (.ol (s.map λk=>ZL ((ZwE (ZI ns at_)).map λs=>Zez (Zt ns (at_+1+k)+61*(k:Int)) (ZI ns at_) s))),o5,none,none,none,none,none]) (ZwE (1+ZP (Zt ns at_) 9907 3).toNat)
  [some (.pl (.list (ns.map dI))),some (.pl (.int at_)),some (.pl (.int (Zt ns at_))),some (.pl (.int (ZI ns at_))),some (.ol []),none,none,none,none,none,none] ⟨none,rfl⟩ (by
   rintro s k post r hxs ⟨o5,rfl⟩
   have hk':=ZwV.mp (show k∈ZwE (1+ZP (Zt ns at_) 9907 3).toNat by rw[hxs]; simp);have hs:s.length<4:=by have:=congrArg Zxd hxs; simp at this; omega
   have e:=ZpO ns at_ k (ZI ns at_) (some (.pl (.int (Zt ns at_)))) (s.map λk=>ZL ((ZwE (ZI ns at_)).map λs=>Zez (Zt ns (at_+1+k)+61*(k:Int)) (ZI ns at_) s)) none none none none none (by omega) (by simp; omega) (by omega) (by omega);exact⟨_,e,some (.pl (dN k)),by simp⟩)
 subst q1;have lks:∀(o4 o5:Option B),∃r2,Z5 5 Zcn ((ZwE (ZP (Zt ns at_) 9887 4).toNat).map dN) [some (.pl (.list (ns.map dI))),some (.pl (.int at_)),some (.pl (.int (Zt ns at_))),some (.pl (.int (ZI ns at_))),o4,o5,some (.ol []),none,none,none,none]=some (.nx r2) /\
   ∃o5 o7 o8,r2=[some (.pl (.list (ns.map dI))),some (.pl (.int at_)),some (.pl (.int (Zt ns at_))),some (.pl (.int (ZI ns at_))),o4,o5,some (.ol ((ZwE (ZP (Zt ns at_) 9887 4).toNat).map λk=>tupI (ZfG ns at_ k))),o7,o8,none,none]:=by
  intro o4 o5;refine Zin (i:=5) (body:=Zcn) dN (λ(s:List Nat) r=>∃o5 o7 o8,r=[some (.pl (.list (ns.map dI))),some (.pl (.int at_)),some (.pl (.int (Zt ns at_))),some (.pl (.int (ZI ns at_))),
   o4,o5,some (.ol (s.map λk=>tupI (ZfG ns at_ k))),o7,o8,none,none]) (ZwE (ZP (Zt ns at_) 9887 4).toNat) _ ⟨o5,none,none,rfl⟩ ?_
  rintro s k post r hxs ⟨o5,o7,o8,rfl⟩
  have hk':=ZwV.mp (show k∈ZwE (ZP (Zt ns at_) 9887 4).toNat by rw[hxs]; simp);have hs:s.length<4:=by have:=congrArg Zxd hxs; simp at this; omega
  obtain⟨r7,r8,e⟩:=Zpf ns at_ k (ZI ns at_) (some (.pl (.int (Zt ns at_)))) o4 (s.map λk=>tupI (ZfG ns at_ k)) o7 o8 none none (by omega) (by simp; omega) rfl;exact⟨_,e,some (.pl (dN k)),r7,r8,by simp⟩
 have n3:(1+ZP (Zt ns at_) 9907 3).toNat<1000000:=by omega
 have nl:(ZP (Zt ns at_) 9887 4).toNat<1000000:=by omega
 have nm:ZI ns at_<1000000:=by omega
 have hdk:((ZwE (1+ZP (Zt ns at_) 9907 3).toNat).map λk=>ZL ((ZwE (ZI ns at_)).map λs=>Zez (Zt ns (at_+1+k)+61*(k:Int)) (ZI ns at_) s))=(Zbw ns at_).map ZL:=by unfold Zbw; simp
 have hlk:((ZwE (ZP (Zt ns at_) 9887 4).toNat).map λk=>tupI (ZfG ns at_ k))=(Zff ns at_).map tupI:=by unfold Zff; simp
 rw[hdk]at f1;simp only[hlk]at lks;have dkl:(Zbw ns at_).length<10:=by unfold Zbw; simp; omega
 unfold wkV Wk.d Zfu Znb Zsx;simp only
 by_cases w1:ZP (Zt ns at_) 9901 3=1
 ·have w1':(ZP (Zt ns at_) 9901 3==1)=true:=by simp[w1]
  have cut:cutD ((Zbw ns at_).map ZL) none (some 1)=((Zbw ns at_).take 1).map ZL:=by unfold cutD sIx;simp
  obtain⟨r2,f2,p5,p7,p8,q2⟩:=lks (some (.ol (ZL ((ZwE (ZI ns at_)).map λk=>wlV (Zt ns (at_+1)) k)::ZL ((ZwE (ZI ns at_)).map λk=>[beV (ZI ns at_) k])::List.take 1 ((Zbw ns at_).map ZL)))) o5;subst q2;have c2:min 1 (Zbw ns at_).length+1+1<1000000:=by omega
  have c3:(2:Nat)+min 1 (Zbw ns at_).length<1000000:=by omega
  by_cases w2:ZP (Zt ns at_) 9859 3=1
  ·have w2':(ZP (Zt ns at_) 9859 3==1)=true:=by simp[w2]
   simp[ZaE,ZcH,c0,m4,<-hmc,hlen,m3,ok3,Zaf,n3,f1,mw,w1',c1,wk,cut,w1,ml,okl,nl,f2,c7,k7,mb,w2',okm,nm,c8,k8,w2,c2,c3]
  ·have w2':(ZP (Zt ns at_) 9859 3==1)=false:=by simp[w2]
   simp[ZaE,ZcH,c0,m4,<-hmc,hlen,m3,ok3,Zaf,n3,f1,mw,w1',c1,wk,cut,w1,ml,okl,nl,f2,c7,k7,mb,w2',okm,nm,c8,k8,w2,c2,c3]
 ·have w1':(ZP (Zt ns at_) 9901 3==1)=false:=by simp[w1]
  obtain⟨r2,f2,p5,p7,p8,q2⟩:=lks (some (.ol ((Zbw ns at_).map ZL))) o5;subst q2
  by_cases w2:ZP (Zt ns at_) 9859 3=1
  ·have w2':(ZP (Zt ns at_) 9859 3==1)=true:=by simp[w2]
   simp[ZaE,ZcH,c0,m4,<-hmc,hlen,m3,ok3,Zaf,n3,f1,mw,w1',w1,ml,okl,nl,f2,c7,k7,mb,w2',okm,nm,c8,k8,w2]
  ·have w2':(ZP (Zt ns at_) 9859 3==1)=false:=by simp[w2]
   simp[ZaE,ZcH,c0,m4,<-hmc,hlen,m3,ok3,Zaf,n3,f1,mw,w1',w1,ml,okl,nl,f2,c7,k7,mb,w2',okm,nm,c8,k8,w2]
end
end HG
namespace HG
open PySem HM
theorem Zmx{e:EF}{r:HM.Env}{f:D->D}(xs:List D)(h:∀x∈xs,e (some (.pl x)::r)=some (f x)):ZaA Zam e r xs=some (xs.map f):=by
 have:=Zbc (e:=e) (r:=r) id f xs h
 rwa [List.map_id]at this
theorem Znr(xs:List D)(p:D->Bool):Zeo (xs.map λx=>ZxT (p x))=some (xs.map p):=by
 have:=ZeP (xs.map p)
 rwa [ZwW]at this
def Zf7(d:D)(lo hi:Int):Bool:=match d with
 | .int i=>decide (lo<=i)&&decide (i<=hi)
 | _=>false
def ndD:D->Prop
 | .dict _=>False
 | _=>True
theorem Zfi(d:D)(lo hi:Int)(nd:ndD d:=by trivial):ZaD [d,.int lo,.int hi]=some (.bool (Zf7 d lo hi)):=by
 cases d<;>first | exact nd.elim | simp[ZaD,Zho,Zf7]
 rename_i i
 by_cases h:lo<=i<;>simp[h]
def Zc2(d:D)(lo hi:Int):Bool:=match d with
 | .tuple ds=>decide (lo<=(ds.length:Int))&&decide ((ds.length:Int)<=hi)
 | _=>false
theorem Zej(d:D)(lo hi:Int)(nd:ndD d:=by trivial):ZaB [d,.int lo,.int hi]=some (.bool (Zc2 d lo hi)):=by
 cases d<;>first | exact nd.elim | simp[ZaB,Zkn,Zc2]
 rename_i ds
 by_cases h:lo<=(ds.length:Int)<;>simp[h]
def ZbY(many:Int):Int->List D->Bool
 | _,[]=>true
 | l,.int i::r=>(decide (l<=i)&&decide (i<=many-1))&&ZbY many (i+1) r
 | _,_::_=>false
def Zil(d:D)(many:Int):Bool:=match d with
 | .tuple ds=>ZbY many 0 ds
 | _=>false
theorem ZoA(d:D)(many:Int):∀(ds:List D) (l:Int) (o:Option B),(∀x∈ds,ndD x) ->
  (ZbY many l ds=true->∃l' o',Z5 3 Zac ds [some (.pl d),some (.pl (.int many)),some (.pl (.int l)),o]=some (.nx [some (.pl d),some (.pl (.int many)),some (.pl (.int l')),o'])) /\
  (ZbY many l ds=false->Z5 3 Zac ds [some (.pl d),some (.pl (.int many)),some (.pl (.int l)),o]=some (.rt (.bool false)))
 | [],l,o,_=>⟨λ_=>⟨l,o,rfl⟩,λh=>by simp[ZbY]at h⟩
 | x::ds,l,o,nd=>by
  have key:=Zfi x l (many-1) (nd x (ZwA ..));cases hx:Zf7 x l (many-1)with
  | false =>
   have e:Zac [some (.pl d),some (.pl (.int many)),some (.pl (.int l)),some (.pl x)]=some (.rt (.bool false)):=by rw[hx]at key;simp[Zac,key]
   have e2:ZbY many l (x::ds)=false:=by cases x<;>simp[ZbY];rename_i i;simp[Zf7]at hx;intro h1 h2;exact absurd (hx h1) (by omega)
   refine⟨λh=>?_,λ_=>?_⟩
   ·rw[e2]at h; cases h
   ·unfold Z5
    show(match Zac [some (.pl d),some (.pl (.int many)),some (.pl (.int l)),some (.pl x)]with | some (.nx r')=>_ | some (.ct r')=>_ | some (.bk r')=>_ | some (.rt d)=>_ | none=>_)=_;rw[e]
  | true =>
   cases x with
   | int i =>
    have e:Zac [some (.pl d),some (.pl (.int many)),some (.pl (.int l)),some (.pl (.int i))]=some (.nx [some (.pl d),some (.pl (.int many)),some (.pl (.int (i+1))),some (.pl (.int i))]):=by rw[hx]at key;simp[Zac,key]
    have e2:ZbY many l (.int i::ds)=ZbY many (i+1) ds:=by have:(decide (l<=i)&&decide (i<=many-1))=true:=hx;simp only[ZbY,this,ZAg]
    obtain⟨a1,a2⟩:=ZoA d many ds (i+1) (some (.pl (.int i))) λx hx=>nd x (ZwC _ hx);rw[e2];have e3:Z5 3 Zac (.int i::ds) [some (.pl d),some (.pl (.int many)),some (.pl (.int l)),o]=Z5 3 Zac ds [some (.pl d),some (.pl (.int many)),some (.pl (.int (i+1))),some (.pl (.int i))]:=by show(match Zac [some (.pl d),some (.pl (.int many)),some (.pl (.int l)),some (.pl (.int i))]with | some (.nx r')=>_ | some (.ct r')=>_ | some (.bk r')=>_ | some (.rt d)=>_ | none=>_)=_;rw[e]
    rw[e3];exact⟨a1,a2⟩
   | _=>simp[Zf7]at hx
theorem Zh0(d:D)(many:Int)(hl:∀ds,d=.tuple ds->ds.length<1000000/\∀x∈ds,ndD x)(nd:ndD d:=by trivial):ZT [d,.int many]=some (.bool (Zil d many)):=by
 cases d with
 | tuple ds =>
  obtain⟨hl,hn⟩:=hl ds rfl;obtain⟨a1,a2⟩:=ZoA (.tuple ds) many ds 0 none hn;cases h:ZbY many 0 ds with
  | true=>obtain⟨l',o',e⟩:=a1 h;simp[ZT,Zdt,Zil,h,hl,e]
  | false=>have e:=a2 h;simp[ZT,Zdt,Zil,h,hl,e]
 | dict _=>exact nd.elim
 | _=>simp[ZT,Zdt,Zil]
def small:D->Prop
 | .tuple ds=>ds.length<1000000/\∀x∈ds,ndD x
 | .dict _=>False
 | _=>True
theorem ZjJ{c:List Int}(h:(c.map dI).length<1000000):small (tupI c):=⟨h,λx hx=>by obtain⟨i,_,rfl⟩:=ZwK.mp hx; trivial⟩
theorem Zm9{d:D}(h:small d):ndD d:=by cases d<;>first | exact h.elim | trivial
theorem Zqb{d:D}(h:small d):∀ds,d=.tuple ds->ds.length<1000000/\∀x∈ds,ndD x:=by rintro ds rfl; exact h
def ZhT(d:D)(many:Int):Bool:=Zc2 d many many&&(match d with | .tuple ds=>ds.all λc=>Zil c many | _=>false)
def ZjB(d:D):Prop:=match d with | .tuple ds=>ds.length<1000000/\∀x∈ds,small x | .dict _=>False | _=>True
theorem ZrM{d:D}(h:ZjB d):ndD d:=by cases d<;>first | exact h.elim | trivial
theorem Zpj(d:D)(many:Int)(hs:ZjB d):ZbR [d,.int many]=some (.bool (ZhT d many)):=by
 have h1:=Zej d many many (ZrM hs);cases hr:Zc2 d many many with
 | false=>rw[hr]at h1; simp[ZbR,Zgw,h1,ZhT,hr]
 | true =>
  rw[hr]at h1;cases d with
  | tuple ds =>
   have hs':ds.length<1000000/\∀x∈ds,small x:=hs;simp[ZbR,Zgw,h1,ZhT,hr,hs'.1];rw[Zmx (f:=λc=>.bool (Zil c many))]
   ·simp[Znr]
   ·intro x hx
    simp[Zh0 x many (Zqb (hs'.2 x hx)) (Zm9 (hs'.2 x hx))]
  | _=>simp[Zc2]at hr
def ZhL(d:D)(many:Int):Bool:=Zc2 d many many&&(match d with | .tuple ds=>ds.all λc=>Zf7 c 0 9 | _=>false)
theorem Zpo(d:D)(many:Int)(hs:small d):ZbS [d,.int many]=some (.bool (ZhL d many)):=by
 have h1:=Zej d many many (Zm9 hs);cases hr:Zc2 d many many with
 | false=>rw[hr]at h1; simp[ZbS,Zgx,h1,ZhL,hr]
 | true =>
  rw[hr]at h1;cases d with
  | tuple ds =>
   have hs':ds.length<1000000:=hs.1;simp[ZbS,Zgx,h1,ZhL,hr,hs'];rw[Zmx (f:=λc=>.bool (Zf7 c 0 9))]
   ·simp[Znr]
   ·intro x hx
    simp[Zfi x 0 9 (hs.2 x hx)]
  | _=>simp[Zc2]at hr
structure Wk.V(w:Wk):Prop where
 m1:1<=w.many
 m2:w.many<=8
 d1:1<=w.deeds.length
 d2:w.deeds.length<=5
 dl:∀dd∈w.deeds,dd.length=w.many
 dc:∀dd∈w.deeds,∀c∈dd,Cr w.many c
 l2:w.looks.length<=4
 ll:∀l∈w.looks,l.length=w.many
 lc:∀l∈w.looks,∀x∈l,0<=x/\x<=9
 b1:w.beg≠[]
 bc:Cr w.many w.beg
 gc:Cr w.many w.goal
theorem Wk.Ok.v{w:Wk}(h:w.Ok):Wk.V w:=by obtain⟨m1,m2,d1,d2,dl,dc,l2,ll,lc,b1,bc,g1,gc⟩:=h;exact⟨by omega,by omega,d1,by omega,dl,dc,by omega,ll,lc,b1,bc,gc⟩
theorem Zj5(n:Nat):∀(c:List Int) (l:Int),c.Pairwise (· < ·)->(∀x∈c,l<=x/\x<(n:Int))->ZbY n l (c.map dI)=true
 | [],_,_,_=>rfl
 | x::c,l,hp,hb=>by have h1:=hb x (ZwA ..);have ih:=Zj5 n c (x+1) (Zxf.mp hp).2 λy hy=>⟨by have:=(Zxf.mp hp).1 y hy; omega,(hb y (ZwC _ hy)).2⟩;show((decide (l<=x)&&decide (x<=(n:Int)-1))&&ZbY n (x+1) (c.map dI))=true;rw[ih,decide_eq_true h1.1,decide_eq_true (show x<=(n:Int)-1 by omega)];rfl
theorem Zh4{n:Nat}{c:List Int}(h:Cr n c)(hn:n<1000):ZT [tupI c,.int n]=some (.bool true):=by have hl:=h.len;rw[Zh0 (tupI c) n (by intro ds e; cases e; exact⟨by simp; omega,λx hx=>by obtain⟨i,_,rfl⟩:=ZwK.mp hx; trivial⟩)];show some (ZxT (ZbY n 0 (c.map dI)))=_;rw[Zj5 n c 0 h.1 h.2]
theorem Zn7{n:Nat}{c:List Int}(h:Cr n c)(h0:c≠[])(hn:n<1000):Zcr [tupI c,.int n]=some (.bool true):=by
 have h1:=Zh4 h hn;have h2:(0:Int)<(c.length:Int):=by have:=ZzZ.mpr h0;omega
 simp[Zcr,ZiB,h1];exact ZzZ.mpr h0
theorem ZsO{w:Wk}(h:Wk.V w){dd:List (List Int)}(hd:dd∈w.deeds):ZbR [ZL dd,.int w.many]=some (.bool true):=by
 have hl:=h.dl dd hd;have m2:=h.m2;rw[Zpj (ZL dd) _ (show(dd.map tupI).length<1000000/\∀x∈dd.map tupI,small x by refine⟨by simp; omega,λx hx=>?_⟩;obtain⟨c,hc,rfl⟩:=ZwK.mp hx;have:=(h.dc dd hd c hc).len;refine ZjJ ?_;simp; omega)];have e:ZhT (ZL dd) w.many=true:=by unfold ZhT ZL Zc2;simp[hl];intro c hc;exact Zj5 w.many c 0 (h.dc dd hd c hc).1 (h.dc dd hd c hc).2
 rw[e]
theorem Zs0{w:Wk}(h:Wk.V w){l:List Int}(hd:l∈w.looks):ZbS [tupI l,.int w.many]=some (.bool true):=by
 have hl:=h.ll l hd;have m2:=h.m2;rw[Zpo (tupI l) _ (ZjJ (show(l.map dI).length<1000000 by simp; omega))];have e:ZhL (tupI l) w.many=true:=by unfold ZhL Zc2;simp[hl];intro x hx;have:=h.lc l hd x hx;simp[Zf7];omega
 rw[e]
theorem allTrue(α:Type)(xs:List α):Zeo (xs.map λ_=>ZxT true)=some (xs.map λ_=>true):=by
 have:=ZeP (xs.map λ_=>true)
 rwa [ZwW]at this
theorem Znu{w:Wk}(h:Wk.V w):Zb2 [.tuple (w.deeds.map ZL),.int w.many]=some (.bool true):=by
 have h1:=Zej (.tuple (w.deeds.map ZL)) 1 5;have d1:=h.d1;have d2:=h.d2;have e:Zc2 (.tuple (w.deeds.map ZL)) 1 5=true:=by simp[Zc2]; omega
 rw[e]at h1;have hl:w.deeds.length<1000000:=by omega
 simp[Zb2,Zhp,h1,hl];rw[Zbc ZL (λ_=>.bool true)]
 ·simp[allTrue]
 ·intro x hx
  simp[ZsO h hx]
theorem ZmJ{w:Wk}(h:Wk.V w):Zb3 [.tuple (w.looks.map tupI),.int w.many]=some (.bool true):=by
 have h1:=Zej (.tuple (w.looks.map tupI)) 0 4;have d2:=h.l2;have e:Zc2 (.tuple (w.looks.map tupI)) 0 4=true:=by simp[Zc2]; omega
 rw[e]at h1;have hl:w.looks.length<1000000:=by omega
 simp[Zb3,Zhq,h1,hl];rw[Zbc tupI (λ_=>.bool true)]
 ·simp[allTrue]
 ·intro x hx
  simp[Zs0 h hx]
theorem Zmz{w:Wk}(h:Wk.V w):Zb4 [w.d]=some (.bool true):=by
 have h1:=Zej w.d 5 5;have e:Zc2 w.d 5 5=true:=by simp[Zc2,Wk.d]
 rw[e]at h1;have h2:=Zfi (.int w.many) 1 8;have m1:=h.m1;have m2:=h.m2;have e2:Zf7 (.int w.many) 1 8=true:=by simp[Zf7]; omega
 rw[e2]at h2;have h3:=Znu h;have h4:=ZmJ h;have h5:=Zn7 h.bc h.b1 (by omega);have h6:=Zh4 h.gc (by omega);unfold Wk.d at h1 ⊢;simp[Zb4,Zhr,h1,h2,h3,h4,h5,h6]
theorem Zpy{w:Wk}(h:Wk.V w):ZcU [w.d]=some w.d:=by simp[ZcU,Zje,Zmz h]
theorem Zf5(w:Wk):ZaT [w.d]=some (.tuple (w.deeds.map ZL)):=by simp[ZaT,ZiC,Wk.d]
theorem ZiO(w:Wk):Zby [w.d]=some (.tuple (w.looks.map tupI)):=by simp[Zby,ZiD,Wk.d]
theorem Zja{w:Wk}(h:Wk.V w){ls:List Int}(hl:Cr w.looks.length ls):Za8 [w.d,tupI ls]=some (tupI ls):=by have l2:=h.l2;have h1:=Zh4 hl (by omega);simp[Za8,ZeW,ZiO,h1]
end HG
namespace HG
open PySem HM
def Zbo(w:Wk)(d s:Int):List Int:=(w.deeds[d.toNat]?.getD [])[s.toNat]?.getD []
def ZjI(w:Wk)(l s:Int):Int:=(w.looks[l.toNat]?.getD [])[s.toNat]?.getD 0
def ZaN(w:Wk)(c:List Int)(d:Int):Bool:=c.all λs=>decide (0<(Zbo w d s).length)
def ZaK(w:Wk)(c:List Int)(d:Int):List Int:=c.flatMap λs=>Zbo w d s
def Zay(w:Wk)(c:List Int)(d:Int):List Int:=sortI (dedup [] (ZaK w c d))
def Zz(w:Wk)(ls:List Int)(s:Int):List Int:=ls.map λl=>ZjI w l s
theorem Zkd{w:Wk}{d:Int}(h0:0<=d)(h1:d<w.deeds.length):atD (w.deeds.map ZL) d=some (ZL (w.deeds[d.toNat]?.getD [])):=by
 refine Zii h0 ?_;have h:d.toNat<w.deeds.length:=by omega
 simp[h,ZxW]
theorem Zno{w:Wk}(hv:Wk.V w){d s:Int}(h0:0<=d)(h1:d<w.deeds.length)(h2:0<=s)(h3:s<w.many):atD ((w.deeds[d.toNat]?.getD []).map tupI) s=some (tupI (Zbo w d s)):=by
 refine Zii h2 ?_;have h:d.toNat<w.deeds.length:=by omega
 have hl:(w.deeds[d.toNat]?.getD []).length=w.many:=by
  have:w.deeds[d.toNat]?.getD []=w.deeds[d.toNat]:=by simp[h,ZxW]
  rw[this];exact hv.dl _ (Zyc h)
 have h':s.toNat<(w.deeds[d.toNat]?.getD []).length:=by omega
 unfold Zbo;rw[ZwZ,ZwN h'];simp[ZxW,h']
theorem Zmp{w:Wk}(hv:Wk.V w){d s:Int}(h0:0<=d)(h1:d<w.deeds.length)(h2:0<=s)(h3:s<w.many):Cr w.many (Zbo w d s):=by
 have h:d.toNat<w.deeds.length:=by omega
 have e:w.deeds[d.toNat]?.getD []=w.deeds[d.toNat]:=by simp[h,ZxW]
 have hl:=hv.dl _ (Zyc h);unfold Zbo;rw[e];have h':s.toNat<(w.deeds[d.toNat]).length:=by omega
 have e2:(w.deeds[d.toNat])[s.toNat]?.getD []=(w.deeds[d.toNat])[s.toNat]:=by simp[h',ZxW]
 rw[e2];exact hv.dc _ (Zyc h) _ (Zyc h')
theorem Zow{w:Wk}{l:Int}(h0:0<=l)(h1:l<w.looks.length):atD (w.looks.map tupI) l=some (tupI (w.looks[l.toNat]?.getD [])):=by
 refine Zii h0 ?_;have h:l.toNat<w.looks.length:=by omega
 simp[h,ZxW]
theorem Zov{w:Wk}(hv:Wk.V w){l s:Int}(h0:0<=l)(h1:l<w.looks.length)(h2:0<=s)(h3:s<w.many):atD ((w.looks[l.toNat]?.getD []).map dI) s=some (.int (ZjI w l s)):=by
 refine Zii h2 ?_;have h:l.toNat<w.looks.length:=by omega
 have hl:(w.looks[l.toNat]?.getD []).length=w.many:=by
  have:w.looks[l.toNat]?.getD []=w.looks[l.toNat]:=by simp[h,ZxW]
  rw[this];exact hv.ll _ (Zyc h)
 have h':s.toNat<(w.looks[l.toNat]?.getD []).length:=by omega
 unfold ZjI;rw[ZwZ,ZwN h'];simp[ZxW,h']
theorem ZpQ{w:Wk}(hv:Wk.V w){ls:List Int}(hl:Cr w.looks.length ls){s:Int}(h2:0<=s)(h3:s<w.many):ZcV [w.d,tupI ls,.int s]=some (tupI (Zz w ls s)):=by
 have l2:=hv.l2;have hlen:=hl.len;have hb:ls.length<1000000:=by omega
 simp[ZcV,Zjf,hb];rw[Zbc dI (λl=>dI (ZjI w l s))]
 ·simp[Zz]
 ·intro l hl'
  have hb:=hl.2 l hl';simp[ZiO,Zow hb.1 hb.2,Zov hv hb.1 hb.2 h2 h3]
theorem ZjY{w:Wk}(hv:Wk.V w){c:List Int}(hc:Cr w.many c){d:Int}(h0:0<=d)(h1:d<w.deeds.length):ZbA [w.d,tupI c,.int d]=some (.bool (ZaN w c d)):=by
 have m2:=hv.m2;have hlen:=hc.len;have hb:c.length<1000000:=by omega
 simp[ZbA,Zgi,Zf5,Zkd h0 h1,hb];rw[Zbc dI (λs=>.bool (decide (0<(Zbo w d s).length)))]
 ·have e:=ZeP (c.map λs=>decide (0<(Zbo w d s).length))
  rw[ZwW]at e;have e':((λb=>ZxT b)∘λs=>decide (0<(Zbo w d s).length))=λs=>ZxT (decide (0<(Zbo w d s).length)):=rfl;rw[e']at e;simp[e,ZaN]
 ·intro s hs
  have hb:=hc.2 s hs;simp[ZL,Zno hv h0 h1 hb.1 hb.2]
def doV(w:Wk)(c:List Int):List Int:=((ZwE w.deeds.length).filter λ(d:Nat)=>ZaN w c (d:Int)).map λ(k:Nat)=>(k:Int)
theorem Zlf{w:Wk}(hv:Wk.V w){c:List Int}(hc:Cr w.many c):ZbL [w.d,tupI c]=some (.list ((doV w c).map dI)):=by
 have d2:=hv.d2;have hok:okR (w.deeds.length:Int)=true:=Zdq (by omega);have hb:w.deeds.length<1000000:=by omega
 simp[ZbL,Zhc,Zf5,hok,Zaf,hb];rw[Zb0 dN (λk:Nat=>ZaN w c k) dN]
 ·simp[doV]
 ·intro k hk
  have hk':=ZwV.mp hk;simp[ZjY hv hc (show(0:Int)<=(k:Int) by omega) (by omega)]
 ·intro k hk _
  simp
def Zb1(acc:List Int)(x:Int):List Int:=if acc.contains x then acc else acc++[x]
theorem ZeK:∀(l acc:List Int),dedup acc l=l.foldl Zb1 acc
 | [],acc=>rfl
 | x::l,acc=>by
  unfold dedup;rw[Zyk];unfold Zb1;split
  ·rw[ZeK l acc]; rfl
  ·rw[ZeK l (acc++[x])]; rfl
def tru(acc:List Int):List (Ky × D):=acc.map λi=>(Zyd i,ZxT true)
theorem Ztr(acc:List Int)(x:Int):putD (tru acc) (Zyd x) (ZxT true)=tru (Zb1 acc x):=by
 unfold putD Zb1 tru
 by_cases h:x∈acc
 ·have e1:((acc.map λi=>((Zyd i:Ky),ZxT true)).any λp=>decide (p.1=Zyd x))=true:=by
   simp; exact h
  have e2:acc.contains x=true:=by simpa using h
  rw[if_pos e1,if_pos e2,ZwW];refine Zx8 λi _=>?_;simp
 ·have e1:¬((acc.map λi=>((Zyd i:Ky),ZxT true)).any λp=>decide (p.1=Zyd x))=true:=by
   simp; exact h
  have e2:¬acc.contains x=true:=by simpa using h
  rw[if_neg e1,if_neg e2];simp
theorem Zkw(acc:List Int)(x:Int):(Zb1 acc x).length<=acc.length+1:=by unfold Zb1; split<;>simp
theorem Zl8:∀(l acc:List Int),(l.foldl Zb1 acc).length<=acc.length+l.length
 | [],acc=>by simp
 | x::l,acc=>by rw[Zyk];have:=Zl8 l (Zb1 acc x);have:=Zkw acc x;simp; omega
theorem ZqS(e0 e1 e2 e3 e5:Option B):∀(l acc:List Int) (o:Option B),acc.length+l.length<1000000 ->
  ∃o',Z5 6 Zdu (l.map dI) [e0,e1,e2,e3,some (.ok (tru acc)),e5,o]=some (.nx [e0,e1,e2,e3,some (.ok (tru (l.foldl Zb1 acc))),e5,o'])
 | [],acc,o,_=>⟨o,rfl⟩
 | x::l,acc,o,h=>by
  rw[ZwM]at h;have hb:acc.length<1000000:=by omega
  have e:Zdu [e0,e1,e2,e3,some (.ok (tru acc)),e5,some (.pl (dI x))]=some (.nx [e0,e1,e2,e3,some (.ok (tru (Zb1 acc x))),e5,some (.pl (dI x))]):=by
   have hl:(tru acc).length<1000000:=by unfold tru; simp; exact hb
   simp[Zdu,hl,Ztr]
  have hd:=Zkw acc x;obtain⟨o',e'⟩:=ZqS e0 e1 e2 e3 e5 l (Zb1 acc x) (some (.pl (dI x))) (by omega);refine⟨o',?_⟩;rw[ZwD,Zyk,<-e'];unfold Z5;show(match Zdu [e0,e1,e2,e3,some (.ok (tru acc)),e5,some (.pl (dI x))]with | some (.nx r')=>_ | some (.ct r')=>_ | some (.bk r')=>_ | some (.rt d)=>_ | none=>_)=_;rw[e];cases l<;>rfl
theorem ZqD{w:Wk}(hv:Wk.V w){d:Int}(h0:0<=d)(h1:d<w.deeds.length)(e1 e2:Option B):∀(c acc:List Int) (o5 o6:Option B),(∀s∈c,0<=s/\s<(w.many:Int))->acc.length+c.length*10<100000 ->
  ∃o5' o6',Z5 5 Zdv (c.map dI) [some (.pl w.d),e1,e2,some (.pl (ZL (w.deeds[d.toNat]?.getD []))),some (.ok (tru acc)),o5,o6]=some (.nx [some (.pl w.d),e1,e2,some (.pl (ZL (w.deeds[d.toNat]?.getD []))),some (.ok (tru ((ZaK w c d).foldl Zb1 acc))),o5',o6'])
 | [],acc,o5,o6,_,_=>⟨o5,o6,rfl⟩
 | s::c,acc,o5,o6,hs,hl=>by
  rw[ZwM]at hl;have hb:=hs s (ZwA ..);have hr:=(Zmp hv h0 h1 hb.1 hb.2).len;have m2:=hv.m2;have hrl:(Zbo w d s).length<1000000:=by omega
  obtain⟨o',e⟩:=ZqS (some (.pl w.d)) e1 e2 (some (.pl (ZL (w.deeds[d.toNat]?.getD [])))) (some (.pl (dI s))) (Zbo w d s) acc o6 (by omega);have e':Zdv [some (.pl w.d),e1,e2,some (.pl (ZL (w.deeds[d.toNat]?.getD []))),some (.ok (tru acc)),some (.pl (dI s)),o6]=some (.nx [some (.pl w.d),e1,e2,some (.pl (ZL (w.deeds[d.toNat]?.getD []))),some (.ok (tru ((Zbo w d s).foldl Zb1 acc))),some (.pl (dI s)),o']):=by unfold ZL at e ⊢;simp[Zdv,Zno hv h0 h1 hb.1 hb.2,hrl,e]
  have hf:=Zl8 (Zbo w d s) acc;obtain⟨p5,p6,ih⟩:=ZqD hv h0 h1 e1 e2 c ((Zbo w d s).foldl Zb1 acc) (some (.pl (dI s))) o' (λx hx=>hs x (ZwC _ hx)) (by omega);refine⟨p5,p6,?_⟩;have ef:ZaK w (s::c) d=Zbo w d s++ZaK w c d:=rfl;rw[ef,List.foldl_append,<-ih,ZwD];show(match Zdv [some (.pl w.d),e1,e2,some (.pl (ZL (w.deeds[d.toNat]?.getD []))),some (.ok (tru acc)),some (.pl (dI s)),o6]with | some (.nx r')=>_ | some (.ct r')=>_ | some (.bk r')=>_ | some (.rt d)=>_ | none=>_)=_;rw[e']
theorem Zqj{w:Wk}(hv:Wk.V w){c:List Int}(hc:Cr w.many c){d:Int}(h0:0<=d)(h1:d<w.deeds.length):∀x∈ZaK w c d,0<=x/\x<(w.many:Int):=by intro x hx;obtain⟨s,hs,h⟩:=ZyM.mp hx;exact(Zmp hv h0 h1 (hc.2 s hs).1 (hc.2 s hs).2).2 x h
theorem ZeS{w:Wk}(hv:Wk.V w){c:List Int}(hc:Cr w.many c){d:Int}(h0:0<=d)(h1:d<w.deeds.length):Cr w.many (Zay w c d):=by refine Zg0 (Zeb _ _ (by simp)) λx hx=>Zqj hv hc h0 h1 x ?_;rw[Zep]at hx;simpa using hx
theorem ZqI{w:Wk}(hv:Wk.V w){c:List Int}(hc:Cr w.many c){d:Int}(h0:0<=d)(h1:d<w.deeds.length):ZcF [w.d,tupI c,.int d]=some (tupI (Zay w c d)):=by
 have m2:=hv.m2;have hlen:=hc.len;have hb:c.length<1000000:=by omega
 obtain⟨o5,o6,e⟩:=ZqD hv h0 h1 (some (.pl (tupI c))) (some (.pl (.int d))) c [] none none hc.2 (by simp; omega);have hl:(dedup [] (ZaK w c d)).length<64:=by have h:=(ZeS hv hc h0 h1).len;have:=(sortI_perm (dedup [] (ZaK w c d))).length_eq;unfold Zay at h;omega
 have hs:=ZgS _ hl;rw[ZeK]at hs;have ek:(tru ((ZaK w c d).foldl Zb1 [])).map (λp=>Zaj p.1)=((ZaK w c d).foldl Zb1 []).map dI:=by unfold tru;rw[ZwW];rfl
 simp[ZcF,Zko,Zf5,Zkd h0 h1,hb];rw[show some (B.ok [])=some (B.ok (tru [])) from rfl,e];simp[ek,hs,Zay,ZeK]
end HG
namespace HG
open PySem HM
abbrev Gs:=List (List Int × List Int)
abbrev Zab(k:List Int):List Ky:=k.map Zyd
def Zah(g:Gs):List (List Ky × List D):=g.map λp=>(Zab p.1,p.2.map dI)
theorem Zfp{a b:List Int}(h:Zab a=Zab b):a=b:=by
 induction a generalizing b with
 | nil=>cases b with
  | nil=>rfl
  | cons _ _=>simp at h
 | cons x a ih=>cases b with
  | nil=>simp at h
  | cons y b=>simp at h;rw[h.1,ih (by simpa using h.2)]
theorem Zj0(a b:List Int):(Zab a=Zab b)↔a=b:=⟨Zfp,λh=>by rw[h]⟩
theorem ZpH(k:List Int):Zj9 (k.map dI)=some (Zab k):=by
 induction k with
 | nil=>rfl
 | cons x k ih=>show(Zj9 (k.map dI)).map (Zyd x::·)=_;rw[ih];rfl
theorem Zbs(k:List Int):Zbb (tupI k)=some (Zab k):=ZpH k
theorem Zfh(g:Gs)(k:List Int):Zj (Zah g) (Zab k)=(Zj g k).map λp=>p.map dI:=by
 unfold Zj Zah;rw[List.find?_map];have e:((λp:List Ky × List D=>decide (p.1=Zab k))∘λp:List Int × List Int=>(Zab p.1,p.2.map dI))=λp=>decide (p.1=k):=by
  funext p
  simp only[ZzF];exact decide_eq_decide.mpr (Zj0 p.1 k)
 rw[e];cases g.find? λp=>decide (p.1=k)<;>rfl
theorem ZoI(g:Gs)(k:List Int):Zbk (Zah g) (Zab k)=Zah (Zbk g k):=by
 unfold Zbk;rw[Zfh];cases Zj g k with
 | none=>simp[Zah]
 | some p=>rfl
theorem Zip(k:List Int)(s:Int):∀(g:Gs),ZcR (Zah g) (Zab k) (dI s)=Zah (ZcR g k s)
 | []=>rfl
 | (x,p)::g=>by
  show ZcR ((Zab x,p.map dI)::Zah g) (Zab k) (dI s)=Zah (ZcR ((x,p)::g) k s);unfold ZcR
  by_cases h:x=k
  ·rw[if_pos (by rw[h]),if_pos h]
   simp[Zah]
  ·rw[if_neg (λe=>h (Zfp e)),if_neg h,Zip k s g]
   rfl
def Zc1(g:Gs)(k:List Int)(s:Int):Gs:=ZcR (Zbk g k) k s
theorem ZdT(k:List Int):Zj ([]:Gs) k=none:=rfl
theorem Zbz(x:List Int)(p:List Int)(g:Gs)(k:List Int):Zj ((x,p)::g) k=if x=k then some p else Zj g k:=by
 unfold Zj;rw[Zxn]
 by_cases h:x=k<;>simp[h]
theorem Zm5(k:List Int)(s:Int)(k':List Int):∀(g:Gs),Zj (ZcR g k s) k'=if k=k' then(Zj g k).map (·++[s])else Zj g k'
 | []=>by simp[ZcR,ZdT]
 | (x,p)::g=>by
  unfold ZcR
  by_cases h:x=k
  ·subst h
   rw[if_pos rfl,Zbz,Zbz,Zbz,if_pos rfl];split<;>rfl
  ·rw[if_neg h,Zbz,Zm5 k s k' g,Zbz,Zbz,if_neg h]
   by_cases h2:x=k'
   ·subst h2
    rw[if_pos rfl,if_pos rfl,if_neg (Zxv h)]
   ·rw[if_neg h2,if_neg h2]
theorem ZjC(x:List Int)(p:List Int)(k:List Int):∀(g:Gs),Zj (g++[(x,p)]) k=match Zj g k with | some q=>some q | none=>if x=k then some p else none
 | []=>by simp[ZdT,Zbz]
 | (y,q)::g=>by rw[ZAB,Zbz,Zbz,ZjC x p k g];split<;>rfl
theorem Zg9(g:Gs)(k k':List Int):Zj (Zbk g k) k'=if k=k' then some ((Zj g k).getD [])else Zj g k':=by
 unfold Zbk;cases h:Zj g k with
 | some p =>
  by_cases e:k=k'
  ·subst e; rw[if_pos rfl]; exact h
  ·rw[if_neg e]
 | none =>
  show Zj (g++[(k,[])]) k'=_;rw[ZjC]
  by_cases e:k=k'
  ·subst e; rw[if_pos rfl,if_pos rfl,h]; rfl
  ·rw[if_neg e,if_neg e]
   cases Zj g k'<;>rfl
theorem Zrm(g:Gs)(k k':List Int)(s:Int):Zj (Zc1 g k s) k'=if k=k' then some ((Zj g k).getD []++[s])else Zj g k':=by
 unfold Zc1;rw[Zm5,Zg9,Zg9,if_pos rfl]
 by_cases e:k=k'
 ·rw[if_pos e,if_pos e]; rfl
 ·rw[if_neg e,if_neg e,if_neg e]
theorem Zm0(k:List Int)(s:Int):∀(g:Gs),(ZcR g k s).map (·.1)=g.map (·.1)
 | []=>rfl
 | (x,p)::g=>by
  unfold ZcR;split
  ·rfl
  ·rw[ZwD,Zm0 k s g]; rfl
theorem Zi3(g:Gs)(k:List Int):(Zj g k).isSome=true↔k∈g.map (·.1):=by
 induction g with
 | nil=>simp[ZdT]
 | cons p g ih =>
  obtain⟨x,q⟩:=p;rw[Zbz,ZwD,ZwT]
  by_cases h:x=k
  ·simp[h]
  ·rw[if_neg h,ih]
   constructor
   ·exact .inr
   ·rintro (e | e)
    ·exact absurd e.symm h
    ·exact e
theorem ZrR(g:Gs)(k:List Int):(Zbk g k).map (·.1)=if k∈g.map (·.1)then g.map (·.1)else g.map (·.1)++[k]:=by
 unfold Zbk;cases h:Zj g k with
 | some p=>rw[if_pos ((Zi3 g k).mp (by rw[h]; rfl))]
 | none=>rw[if_neg (λm=>by have:=(Zi3 g k).mpr m; rw[h]at this; cases this)];simp
theorem Zrs(g:Gs)(k:List Int)(s:Int):(Zc1 g k s).map (·.1)=if k∈g.map (·.1)then g.map (·.1)else g.map (·.1)++[k]:=by unfold Zc1;rw[Zm0,ZrR]
def ZcP(f:Int->List Int)(c:List Int):Gs:=c.foldl (λg s=>Zc1 g (f s) s) []
structure Grp(f:Int->List Int)(pre:List Int)(g:Gs):Prop where
 nd:(g.map (·.1)).Nodup
 look:∀k,Zj g k=if k∈pre.map f then some (pre.filter λs=>f s==k)else none
theorem Grp.mem{f:Int->List Int}{pre:List Int}{g:Gs}(h:Grp f pre g)(k:List Int):k∈g.map (·.1)↔k∈pre.map f:=by
 rw[<-Zi3,h.look];split
 ·rename_i m; exact⟨λ_=>m,λ_=>rfl⟩
 ·rename_i m; exact⟨(λe=>by cases e),λe=>absurd e m⟩
theorem Grp.step{f:Int->List Int}{pre:List Int}{g:Gs}(h:Grp f pre g)(s:Int):Grp f (pre++[s]) (Zc1 g (f s) s):=by
 refine⟨?_,λk=>?_⟩
 ·rw[Zrs]
  split
  ·exact h.nd
  ·rename_i m
   rw[ZyZ];exact⟨h.nd,by simp,λa ha b hb=>by simp at hb; subst hb; exact λe=>m (e▸ha)⟩
 ·rw[Zrm,h.look,h.look,Zw7,List.filter_append]
  by_cases e:f s=k
  ·subst e
   have e0:f s∈pre.map f++[s].map f:=by simp
   rw[if_pos rfl,if_pos e0];have e2:[s].filter (λx=>f x==f s)=[s]:=by simp
   rw[e2];split
   ·rfl
   ·rename_i m
    have:pre.filter (λx=>f x==f s)=[]:=by rw[ZAO];intro a ha q;exact m (ZwK.mpr ⟨a,ha,by simpa using q⟩)
    rw[this]; rfl
  ·have e2:[s].filter (λx=>f x==k)=[]:=by simp[e]
   rw[if_neg e,e2,Zxc];have e3:(k∈pre.map f++[s].map f)↔k∈pre.map f:=by
    rw[Zw5]
    constructor
    ·rintro (q | q)
     ·exact q
     ·simp at q; exact absurd q.symm e
    ·exact .inl
   by_cases q:k∈pre.map f
   ·rw[if_pos q,if_pos (e3.mpr q)]
   ·rw[if_neg q,if_neg (λz=>q (e3.mp z))]
theorem Zog(f:Int->List Int):∀(c pre:List Int) (g:Gs),Grp f pre g->Grp f (pre++c) (c.foldl (λg s=>Zc1 g (f s) s) g)
 | [],pre,g,h=>by rw[Zxc]; exact h
 | s::c,pre,g,h=>by have:=Zog f c (pre++[s]) _ (h.step s);rw[Zx5]at this;exact this
theorem ZeT(f:Int->List Int)(c:List Int):Grp f c (ZcP f c):=by
 have:=Zog f c [] [] ⟨Zx4,λk=>by simp[ZdT]⟩
 rwa [Zzb]at this
def ZaP(w:Wk)(ls c:List Int):Gs:=(ZdN ((ZcP (Zz w ls) c).map (·.1))).map λk=>(k,c.filter λs=>Zz w ls s==k)
def Zal(p:List Int × List Int):D:=.tuple [tupI p.1,tupI p.2]
theorem ZrN(ks:List (List Int)):Zim (ks.map tupI)=some ks:=by
 induction ks with
 | nil=>rfl
 | cons k ks ih=>show(match Zat (k.map dI)with | some ns=>(Zim (ks.map tupI)).map (ns::·) | none=>none)=_;rw[ZcS,ih];rfl
theorem Zo8(ks:List (List Int))(h:ks.length<64)(hn:ks.length<2\/∀k∈ks,k≠[]):Zed (ks.map tupI)=some ((ZdN ks).map tupI):=by
 unfold Zed;rw[if_pos (by rw[Zwy]; exact h)];cases ks with
 | nil=>simp[Zat,sortI,ZdN,ofInts]
 | cons k ks =>
  have e:Zat (Zz0 tupI (k::ks))=none:=rfl;rw[e,ZrN];have e2:(decide ((Zz0 tupI (k::ks)).length<2)||(k::ks).all λt=>!t.isEmpty)=true:=by
   rw[Zx6,Zwy];rcases hn with q | q
   ·exact .inl (by simpa using q)
   ·refine .inr (ZwF.mpr λt ht=>?_)
    have:=q t ht;cases t with
    | nil=>exact absurd rfl this
    | cons _ _=>rfl
  dsimp only;rw[if_pos e2];unfold Zem;simp only[ZeI]
theorem Zc0(ks:List (List Int)):(ZdN ks).Perm ks:=Zza ks _
theorem ZoM(w:Wk)(ls c:List Int)(hc:c.length<60):Zed ((Zah (ZcP (Zz w ls) c)).map λp=>Zxt (p.1.map Zaj))=some ((ZdN ((ZcP (Zz w ls) c).map (·.1))).map tupI):=by
 have hg:=ZeT (Zz w ls) c;have e:((Zah (ZcP (Zz w ls) c)).map λp=>Zxt (p.1.map Zaj))=((ZcP (Zz w ls) c).map (·.1)).map tupI:=by unfold Zah;rw[ZwW,ZwW];refine Zx8 λp _=>?_;simp only[ZzF];unfold Zab tupI;rw[ZwW];rfl
 rw[e];have hsub:∀k∈(ZcP (Zz w ls) c).map (·.1),k∈c.map (Zz w ls):=λk hk=>(hg.mem k).mp hk;refine Zo8 _ ?_ ?_
 ·have:(ZcP (Zz w ls) c).map (·.1) ⊆ c.map (Zz w ls):=hsub
  have:=(ZxZ hg.nd this);rw[Zwy,Zwy]at this;rw[Zwy];omega
 ·cases ls with
  | nil =>
   left
   have:(ZcP (Zz w []) c).map (·.1) ⊆ [[]]:=λk hk=>by obtain⟨s,_,e⟩:=ZwK.mp (hsub k hk);rw[<-e];simp[Zz]
   have:=(ZxZ hg.nd this);simp at this ⊢;omega
  | cons l ls =>
   right
   intro k hk e;obtain⟨s,_,e'⟩:=ZwK.mp (hsub k hk);rw[e]at e';simp[Zz]at e'
theorem Zjq(w:Wk)(ls c:List Int)(e:EF)(r:HM.Env)(h:∀k∈(ZcP (Zz w ls) c).map (·.1),e (some (.pl (tupI k))::r)=some (.tuple [tupI k,.tuple ((c.filter λs=>Zz w ls s==k).map dI)])) :
  ZaA Zam e r ((ZdN ((ZcP (Zz w ls) c).map (·.1))).map tupI)=some ((ZaP w ls c).map Zal):=by
 rw[Zbc tupI (λk=>.tuple [tupI k,.tuple ((c.filter λs=>Zz w ls s==k).map dI)])]
 ·unfold ZaP
  rw[ZwW];rfl
 ·intro k hk
  exact h k ((Zc0 _).mem_iff.mp hk)
theorem ZmO(w:Wk)(ls c:List Int)(k:List Int)(hk:k∈(ZcP (Zz w ls) c).map (·.1)):Zj (Zah (ZcP (Zz w ls) c)) (Zab k)=some ((c.filter λs=>Zz w ls s==k).map dI):=by have hg:=ZeT (Zz w ls) c;rw[Zfh,hg.look,if_pos ((hg.mem k).mp hk)];rfl
theorem Zoj(f:Int->List Int)(pre:List Int)(g:Gs)(h:Grp f pre g)(k:List Int)(p:List Int)(e:Zj g k=some p):p.length<=pre.length:=by
 rw[h.look]at e;split at e
 ·cases e; exact Zyh _ _
 ·cases e
theorem Zjr(f:Int->List Int)(pre:List Int)(g:Gs)(h:Grp f pre g):g.length<=pre.length:=by have h2:g.map (·.1) ⊆ pre.map f:=λk hk=>(h.mem k).mp hk;have:=ZxZ h.nd h2;simpa using this
theorem ZkF{w:Wk}(hv:Wk.V w){ls:List Int}(hl:Cr w.looks.length ls)(e2:Option B):∀(c pre:List Int) (g:Gs) (o:Option B),Grp (Zz w ls) pre g->(∀s∈c,0<=s/\s<(w.many:Int))->pre.length+c.length<1000 ->
  ∃o',Z5 4 Zdw (c.map dI) [some (.pl w.d),some (.pl (tupI ls)),e2,some (.otl (Zah g)),o]=some (.nx [some (.pl w.d),some (.pl (tupI ls)),e2,some (.otl (Zah (c.foldl (λg s=>Zc1 g (Zz w ls s) s) g))),o'])
 | [],pre,g,o,_,_,_=>⟨o,rfl⟩
 | s::c,pre,g,o,hg,hb,hn=>by
  rw[ZwM]at hn;have hs:=hb s (ZwA ..);have hlen:(Zah g).length<1000000:=by have:=Zjr _ _ _ hg;unfold Zah;rw[Zwy]; omega
  have h1:Zj (Zbk (Zah g) (Zab (Zz w ls s))) (Zab (Zz w ls s))=some (((Zj g (Zz w ls s)).getD []).map dI):=by rw[ZoI,Zfh,Zg9,if_pos rfl]; rfl
  have h2:(((Zj g (Zz w ls s)).getD []).map dI).length<1000000:=by
   rw[Zwy];cases e:Zj g (Zz w ls s)with
   | none=>simp
   | some p=>have:=Zoj _ _ _ hg _ _ e;simp; omega
  have h2':((Zj g (Zz w ls s)).getD []).length<1000000:=by rwa [Zwy]at h2
  have e:Zdw [some (.pl w.d),some (.pl (tupI ls)),e2,some (.otl (Zah g)),some (.pl (dI s))]=some (.nx [some (.pl w.d),some (.pl (tupI ls)),e2,some (.otl (Zah (Zc1 g (Zz w ls s) s))),some (.pl (dI s))]):=by have ek:=ZpQ hv hl hs.1 hs.2;simp[Zdw,ek,Zbs,hlen,h1,h2'];rw[ZoI,Zip];rfl
  obtain⟨o',ih⟩:=ZkF hv hl e2 c (pre++[s]) (Zc1 g (Zz w ls s) s) (some (.pl (dI s))) (hg.step s) (λx hx=>hb x (ZwC _ hx)) (by simp; omega);refine⟨o',?_⟩;rw[ZwD,Zyk,<-ih];show(match Zdw [some (.pl w.d),some (.pl (tupI ls)),e2,some (.otl (Zah g)),some (.pl (dI s))]with | some (.nx r')=>_ | some (.ct r')=>_ | some (.bk r')=>_ | some (.rt d)=>_ | none=>_)=_;rw[e]
theorem Zic{w:Wk}(hv:Wk.V w){ls:List Int}(hl:Cr w.looks.length ls){c:List Int}(hc:Cr w.many c):ZaO [w.d,tupI ls,tupI c]=some (.list ((ZaP w ls c).map Zal)):=by
 have m2:=hv.m2;have hlen:=hc.len;have hb:c.length<1000000:=by omega
 obtain⟨o',e⟩:=ZkF hv hl (some (.pl (tupI c))) c [] [] none ⟨Zx4,λk=>by simp[ZdT]⟩ hc.2 (by simp; omega);have hk:=ZoM w ls c (by omega);have hg:c.foldl (λg s=>Zc1 g (Zz w ls s) s) []=ZcP (Zz w ls) c:=rfl;rw[hg]at e;have hn:(ZdN ((ZcP (Zz w ls) c).map (·.1))).length<1000000:=by rw[(Zc0 _).length_eq,Zwy];have:=Zjr _ _ _ (ZeT (Zz w ls) c);omega
 simp[ZaO,Zkp,hb];rw[show some (B.otl [])=some (B.otl (Zah [])) from rfl,e];simp[hk,hn];rw[Zjq]
 ·simp
 ·intro k hk'
  simp[Zbs,ZmO w ls c k hk']
end HG
namespace HG
open PySem HM
def nbD:Nat->D->Bool
 | _,.none=>true
 | _,.int _=>true
 | _,.str x=>PyData.canLay0 (.str x)
 | 0,_=>false
 | n+1,.list ds=>ds.all (nbD n)
 | n+1,.tuple ds=>ds.all (nbD n)
 | _,_=>false
theorem ZhY{ds:List D}(h:∀d∈ds,d.canLay0=true):ZyY ds=true:=by
 induction ds with
 | nil=>rfl
 | cons d ds ih=>show(d.canLay0&&ZyY ds)=true;rw[h d (ZwA ..),ih λx hx=>h x (ZwC _ hx)];rfl
theorem ZiN{ds:List D}{n:Nat}(h:∀d∈ds,d.depth<=n):ZzU ds<=n:=by
 induction ds with
 | nil=>exact ZxR _
 | cons d ds ih=>show max d.depth (ZzU ds)<=n;have h1:=h d (ZwA ..);have h2:=ih λx hx=>h x (ZwC _ hx);omega
theorem Zh9:∀(n:Nat) (d:D),nbD n d=true->d.canLay0=true/\d.depth<=n
 | n,.none,_=>⟨rfl,by show 0<=n; omega⟩
 | n,.int _,_=>⟨rfl,by show 0<=n; omega⟩
 | n,.str x,h=>by refine⟨?_,by show 0<=n; omega⟩;cases n<;>exact h
 | 0,.bool _,h=>by cases h
 | 0,.list _,h=>by cases h
 | 0,.tuple _,h=>by cases h
 | 0,.dict _,h=>by cases h
 | n+1,.bool _,h=>by cases h
 | n+1,.dict _,h=>by cases h
 | n+1,.list ds,h=>by have h':ds.all (nbD n)=true:=h;have hh:=ZwF.mp h';refine⟨ZhY λd hd=>(Zh9 n d (hh d hd)).1,?_⟩;show ZzU ds+1<=n+1;have:=ZiN λd hd=>(Zh9 n d (hh d hd)).2;omega
 | n+1,.tuple ds,h=>by have h':ds.all (nbD n)=true:=h;have hh:=ZwF.mp h';refine⟨ZhY λd hd=>(Zh9 n d (hh d hd)).1,?_⟩;show ZzU ds+1<=n+1;have:=ZiN λd hd=>(Zh9 n d (hh d hd)).2;omega
theorem ZgL{n:Nat}{d:D}(h:nbD n d=true)(hn:n<=60):Zcq d=true:=by obtain⟨h1,h2⟩:=Zh9 n d h;unfold Zcq;rw[h1,decide_eq_true (show d.depth<=60 by omega)];rfl
theorem Zjs{ds:List D}(ih:∀d∈ds,∀e,(∃m,nbD m e=true)->(Zzm d e=true↔d=e)):∀(es:List D),(∀e∈es,∃m,nbD m e=true)->(ZAh ds es=true↔ds=es):=by
 induction ds with
 | nil =>
  intro es _;cases es with
  | nil=>exact⟨λ_=>rfl,λ_=>rfl⟩
  | cons e es=>exact⟨(λh=>by cases h),(λh=>by cases h)⟩
 | cons d ds ihl =>
  intro es he;cases es with
  | nil=>exact⟨(λh=>by cases h),(λh=>by cases h)⟩
  | cons e es=>show((Zzm d e&&ZAh ds es)=true)↔_;rw[ZwU,ih d (ZwA ..) e (he e (ZwA ..)),ihl (λx hx=>ih x (ZwC _ hx)) es (λx hx=>he x (ZwC _ hx)),List.cons.injEq]
theorem ZsL{m:Nat}{ds:List D}(h:nbD m (.list ds)=true):∀d∈ds,∃m,nbD m d=true:=by
 cases m with
 | zero=>cases h
 | succ m=>have h':ds.all (nbD m)=true:=h;exact λd hd=>⟨m,ZwF.mp h' d hd⟩
theorem Zrp{m:Nat}{ds:List D}(h:nbD m (.tuple ds)=true):∀d∈ds,∃m,nbD m d=true:=by
 cases m with
 | zero=>cases h
 | succ m=>have h':ds.all (nbD m)=true:=h;exact λd hd=>⟨m,ZwF.mp h' d hd⟩
theorem ZdZ{m:Nat}{b:Bool}(h:nbD m (.bool b)=true):False:=by cases m<;>cases h
theorem Zd4{m:Nat}{b:List (D × D)}(h:nbD m (.dict b)=true):False:=by cases m<;>cases h
theorem Zop:∀(n:Nat) (d e:D),nbD n d=true->(∃m,nbD m e=true)->(Zzm d e=true↔d=e):=by
 intro n
 induction n with
 | zero =>
  intro d e hd ⟨m,he⟩;cases d<;>first | cases hd | skip
  all_goals cases e<;>first
   | exact(ZdZ he).elim
   | exact(Zd4 he).elim
   | exact⟨λ_=>rfl,λ_=>rfl⟩
   | exact⟨(λh=>by cases h),(λh=>by cases h)⟩
   | (rename_i a b; show((a==b)=true)↔_; simp)
 | succ n ih =>
  intro d e hd ⟨m,he⟩;cases d with
  | bool _=>exact(ZdZ hd).elim
  | dict _=>exact(Zd4 hd).elim
  | list ds =>
   cases e with
   | list es=>show(ZAh ds es=true)↔_;rw[Zjs (λd h e he=>ih d e (ZwF.mp (show ds.all (nbD n)=true from hd) d h) he) es (ZsL he)];simp
   | bool _=>exact(ZdZ he).elim
   | dict _=>exact(Zd4 he).elim
   | _=>exact⟨(λh=>by cases h),(λh=>by cases h)⟩
  | tuple ds =>
   cases e with
   | tuple es=>show(ZAh ds es=true)↔_;rw[Zjs (λd h e he=>ih d e (ZwF.mp (show ds.all (nbD n)=true from hd) d h) he) es (Zrp he)];simp
   | bool _=>exact(ZdZ he).elim
   | dict _=>exact(Zd4 he).elim
   | _=>exact⟨(λh=>by cases h),(λh=>by cases h)⟩
  | none=>cases e<;>first
   | exact(ZdZ he).elim
   | exact(Zd4 he).elim
   | exact⟨λ_=>rfl,λ_=>rfl⟩
   | exact⟨(λh=>by cases h),(λh=>by cases h)⟩
  | int i=>cases e<;>first
   | exact(ZdZ he).elim
   | exact(Zd4 he).elim
   | exact⟨(λh=>by cases h),(λh=>by cases h)⟩
   | (rename_i b; show((i==b)=true)↔_; simp)
  | str i=>cases e<;>first
   | exact(ZdZ he).elim
   | exact(Zd4 he).elim
   | exact⟨(λh=>by cases h),(λh=>by cases h)⟩
   | (rename_i b; show((i==b)=true)↔_; simp)
theorem ZsQ{n m:Nat}{d e:D}(hd:nbD n d=true)(he:nbD m e=true)(hn:n<=60)(hm:m<=60)[Decidable (d=e)]:gEq d e=some (.bool (decide (d=e))):=by
 unfold gEq;rw[ZgL hd hn,ZgL he hm,if_pos (by rfl)];congr 2;have h:=Zop n d e hd ⟨m,he⟩;cases q:Zzm d e with
 | true=>exact(decide_eq_true (h.mp q)).symm
 | false=>exact(decide_eq_false λz=>by rw[h.mpr z]at q; cases q).symm
theorem ZgQ{n:Nat}{d:D}(hd:nbD n d=true)(hn:n<=60):gEq d d=some (.bool true):=by unfold gEq;rw[ZgL hd hn,(Zop n d d hd ⟨n,hd⟩).mpr rfl];rfl
theorem ZhV{n m:Nat}{d e:D}(hd:nbD n d=true)(he:nbD m e=true)(hn:n<=60)(hm:m<=60)(h:d≠e):gEq d e=some (.bool false):=by have:Decidable (d=e):=isFalse h;rw[ZsQ hd he hn hm,decide_eq_false h]
theorem Zgm(n:Nat)(ns:List Int):nbD (n+1) (tupI ns)=true:=by show(ns.map dI).all (nbD n)=true;rw[ZwF];intro d hd;obtain⟨i,_,rfl⟩:=ZwK.mp hd;cases n<;>rfl
theorem Zi8(n:Nat)(ns:List Int):nbD (n+1) (.list (ns.map dI))=true:=Zgm n ns
theorem Zwn{n:Nat}{ds:List D}(h:∀d∈ds,nbD n d=true):nbD (n+1) (.tuple ds)=true:=ZwF.mpr h
theorem Zwo{n:Nat}{ds:List D}(h:∀d∈ds,nbD n d=true):nbD (n+1) (.list ds)=true:=ZwF.mpr h
theorem Zfv(n:Nat)(i:Int):nbD n (.int i)=true:=by cases n<;>rfl
theorem Ztm(n:Nat):nbD n .none=true:=by cases n<;>rfl
end HG
namespace HG
open PySem HM
def lkV(n:Nat)(c:Int):List Int:=((ZwE n).filter λ(k:Nat)=>decide (0<ZP (c+19*(k:Int)) 9857 4)).map λ(k:Nat)=>(k:Int)
theorem ZuG(n:Nat)(c:Int):Cr n (lkV n c):=Zg4 n _
theorem Zrl{w:Wk}(hv:Wk.V w)(c:Int):Zb5 [w.d,.int c]=some (tupI (lkV w.looks.length c)):=by
 have l2:=hv.l2;have hok:okR (w.looks.length:Int)=true:=Zdq (by omega);have hb:w.looks.length<1000000:=by omega
 have e2:atD [Zxk w.many,.tuple (w.deeds.map ZL),.tuple (w.looks.map tupI),tupI w.beg,tupI w.goal] 2=some (.tuple (w.looks.map tupI)):=by simp
 unfold Wk.d;simp[Zb5,Zhs,hok,Zaf,hb];rw[Zb0 dN (λk:Nat=>decide (0<ZP (c+19*(k:Int)) 9857 4)) dN]
 ·simp[lkV]
 ·intro k hk
  have m:=ZbX (c+19*(k:Int)) 9857 4 (by decide) (by decide);simp[m]
 ·intro k hk _
  simp
def Zr5(w:Wk)(c:List Int)(d:Int):D:=if ZaN w c d then tupI (Zay w c d)else .none
theorem ZjA{w:Wk}(hv:Wk.V w){d:Int}(h0:0<=d)(h1:d<w.deeds.length)(e1:Option B):∀(c acc:List Int) (o:Option B),(∀s∈c,0<=s/\s<(w.many:Int))->acc.length+c.length*10<100000 ->
  (ZaN w c d=true->∃o',Z5 4 ZaF (c.map dI) [some (.pl w.d),e1,some (.pl (.int d)),some (.ol (acc.map dI)),o]=some (.nx [some (.pl w.d),e1,some (.pl (.int d)),some (.ol ((acc++ZaK w c d).map dI)),o'])) /\
  (ZaN w c d=false->Z5 4 ZaF (c.map dI) [some (.pl w.d),e1,some (.pl (.int d)),some (.ol (acc.map dI)),o]=some (.rt .none))
 | [],acc,o,_,_=>⟨λ_=>⟨o,by simp[ZaK]; rfl⟩,λh=>by simp[ZaN]at h⟩
 | s::c,acc,o,hs,hl=>by
  rw[ZwM]at hl;have hb:=hs s (ZwA ..);have hr:=(Zmp hv h0 h1 hb.1 hb.2).len;have m2:=hv.m2;have hd:=Zkd h0 h1 (w:=w);have hrow:=Zno hv h0 h1 hb.1 hb.2;have g1:atD [Zxk w.many,.tuple (w.deeds.map ZL),.tuple (w.looks.map tupI),tupI w.beg,tupI w.goal] 1=some (.tuple (w.deeds.map ZL)):=by simp
  have ec:ZaN w (s::c) d=(decide (0<(Zbo w d s).length)&&ZaN w c d):=rfl;have ef:ZaK w (s::c) d=Zbo w d s++ZaK w c d:=rfl;cases hz:Zbo w d s with
  | nil =>
   have e:ZaF [some (.pl w.d),e1,some (.pl (.int d)),some (.ol (acc.map dI)),some (.pl (dI s))]=some (.rt .none):=by rw[hz]at hrow;have e3:gEq (tupI []) (.tuple [])=some (.bool true):=ZgQ (Zgm 0 []) (by decide);unfold Wk.d;simp[ZaF,hd,ZL,hrow,-gEq];rw[e3]
   have ec':ZaN w (s::c) d=false:=by rw[ec,hz]; rfl
   refine⟨λh=>(by rw[ec']at h; cases h),λ_=>?_⟩;rw[ZwD];show(match ZaF [some (.pl w.d),e1,some (.pl (.int d)),some (.ol (acc.map dI)),some (.pl (dI s))]with | some (.nx r')=>_ | some (.ct r')=>_ | some (.bk r')=>_ | some (.rt d)=>_ | none=>_)=_;rw[e]
  | cons x xs =>
   have hlen:acc.length+(Zbo w d s).length<1000000:=by omega
   have e:ZaF [some (.pl w.d),e1,some (.pl (.int d)),some (.ol (acc.map dI)),some (.pl (dI s))]=some (.nx [some (.pl w.d),e1,some (.pl (.int d)),some (.ol ((acc++Zbo w d s).map dI)),some (.pl (dI s))]):=by rw[hz]at hrow hlen;rw[ZwM]at hlen;have e3:gEq (tupI (x::xs)) (.tuple [])=some (.bool false):=ZhV (Zgm 0 (x::xs)) (Zgm 0 []) (by decide) (by decide) (by simp);unfold Wk.d;simp[ZaF,hd,ZL,hrow,hz,-gEq];rw[e3];simp[hd,ZL,hrow,hlen]
   have ec':ZaN w (s::c) d=ZaN w c d:=by rw[ec,hz]; rfl
   obtain⟨i1,i2⟩:=ZjA hv h0 h1 e1 c (acc++Zbo w d s) (some (.pl (dI s))) (λx hx=>hs x (ZwC _ hx)) (by rw[ZwR]; omega);have e5:Z5 4 ZaF ((s::c).map dI) [some (.pl w.d),e1,some (.pl (.int d)),some (.ol (acc.map dI)),o]=Z5 4 ZaF (c.map dI) [some (.pl w.d),e1,some (.pl (.int d)),some (.ol ((acc++Zbo w d s).map dI)),some (.pl (dI s))]:=by rw[ZwD];show(match ZaF [some (.pl w.d),e1,some (.pl (.int d)),some (.ol (acc.map dI)),some (.pl (dI s))]with | some (.nx r')=>_ | some (.ct r')=>_ | some (.bk r')=>_ | some (.rt d)=>_ | none=>_)=_;rw[e]
   rw[e5,ec',ef,<-Zx5];exact⟨i1,i2⟩
theorem ZpR{w:Wk}(hv:Wk.V w)(h7:w.many<=7){c:List Int}(hc:Cr w.many c){d:Int}(h0:0<=d)(h1:d<w.deeds.length):ZbT [w.d,tupI c,.int d]=some (Zr5 w c d):=by
 have m2:=hv.m2;have hlen:=hc.len;have hb:c.length<1000000:=by omega
 obtain⟨i1,i2⟩:=ZjA hv h0 h1 (some (.pl (tupI c))) c [] none hc.2 (by simp; omega);unfold Zr5;cases h:ZaN w c d with
 | false=>have e:=i2 h;rw[Zyx]at e;simp[ZbT,Zgy,hb,e]
 | true =>
  obtain⟨o',e⟩:=i1 h;rw[Zyx,Zzb]at e;have hf:ZpJ (ZaK w c d)=true:=ZwF.mpr λx hx=>by have:=Zqj hv hc h0 h1 x hx;rw[ZwU,decide_eq_true_eq,decide_eq_true_eq];omega
  simp[ZbT,Zgy,hb,e,ZcS,hf,Zay,ZeI]
theorem ZhH{w:Wk}(hv:Wk.V w){ls:List Int}(hl:Cr w.looks.length ls)(e2:Option B):∀(c pre:List Int) (g:Gs) (o o':Option B),Grp (Zz w ls) pre g->(∀s∈c,0<=s/\s<(w.many:Int))->pre.length+c.length<1000 ->
  ∃p p',Z5 4 ZbM (c.map dI) [some (.pl w.d),some (.pl (tupI ls)),e2,some (.otl (Zah g)),o,o']=some (.nx [some (.pl w.d),some (.pl (tupI ls)),e2,some (.otl (Zah (c.foldl (λg s=>Zc1 g (Zz w ls s) s) g))),p,p'])
 | [],pre,g,o,o',_,_,_=>⟨o,o',rfl⟩
 | s::c,pre,g,o,o',hg,hb,hn=>by
  rw[ZwM]at hn;have hs:=hb s (ZwA ..);have hlen:(Zah g).length<1000000:=by have:=Zjr _ _ _ hg;unfold Zah;rw[Zwy]; omega
  have l2:=hv.l2;have hll:=hl.len;have hlb:ls.length<1000000:=by omega
  have ec:ZaA Zam (eIx (bOf (eIx (bOf (eIx (Zp 1) (eC (.int 2)))) (Zc 0))) (Zc 5)) [some (.pl w.d),some (.pl (tupI ls)),e2,some (.otl (Zah g)),some (.pl (dI s)),o'] (ls.map dI)=some ((Zz w ls s).map dI):=by
   rw[Zbc dI (λl=>dI (ZjI w l s))]
   ·simp[Zz]
   ·intro l hl'
    have hb:=hl.2 l hl';unfold Wk.d;simp[Zow hb.1 hb.2,Zov hv hb.1 hb.2 hs.1 hs.2]
  have e:ZbM [some (.pl w.d),some (.pl (tupI ls)),e2,some (.otl (Zah g)),some (.pl (dI s)),o']=some (.nx [some (.pl w.d),some (.pl (tupI ls)),e2,some (.otl (Zah (Zc1 g (Zz w ls s) s))),some (.pl (dI s)),some (.pl (tupI (Zz w ls s)))]):=by
   have ek:=Zfh g (Zz w ls s);have et:=Zbs (Zz w ls s);cases h:Zj g (Zz w ls s)with
   | none =>
    rw[h]at ek;have ea:Zbk g (Zz w ls s)=g++[(Zz w ls s,[])]:=by unfold Zbk; rw[h]
    have eb:Zah g++[(Zab (Zz w ls s),[])]=Zah (Zbk g (Zz w ls s)):=by rw[ea]; simp[Zah]
    have h1:Zj (Zah (Zbk g (Zz w ls s))) (Zab (Zz w ls s))=some []:=by rw[Zfh,Zg9,if_pos rfl,h]; rfl
    simp[ZbM,hlb,ec,et,ek,hlen];rw[eb,h1];simp[Zip];rfl
   | some p =>
    rw[h]at ek;have ea:Zbk g (Zz w ls s)=g:=by unfold Zbk; rw[h]
    have hp:p.length<1000000:=by have:=Zoj _ _ _ hg _ _ h; omega
    simp[ZbM,hlb,ec,et,ek,hlen,hp,Zip];unfold Zc1;rw[ea]
  obtain⟨p,p',ih⟩:=ZhH hv hl e2 c (pre++[s]) (Zc1 g (Zz w ls s) s) (some (.pl (dI s))) (some (.pl (tupI (Zz w ls s)))) (hg.step s) (λx hx=>hb x (ZwC _ hx)) (by simp; omega);refine⟨p,p',?_⟩;rw[ZwD,Zyk,<-ih];show(match ZbM [some (.pl w.d),some (.pl (tupI ls)),e2,some (.otl (Zah g)),some (.pl (dI s)),o']with | some (.nx r')=>_ | some (.ct r')=>_ | some (.bk r')=>_ | some (.rt d)=>_ | none=>_)=_;rw[e]
theorem Zmq{w:Wk}(hv:Wk.V w){ls:List Int}(hl:Cr w.looks.length ls){c:List Int}(hc:Cr w.many c):Zbh [w.d,tupI ls,tupI c]=some (.list ((ZaP w ls c).map Zal)):=by
 have m2:=hv.m2;have hlen:=hc.len;have hb:c.length<1000000:=by omega
 obtain⟨p,p',e⟩:=ZhH hv hl (some (.pl (tupI c))) c [] [] none none ⟨Zx4,λk=>by simp[ZdT]⟩ hc.2 (by simp; omega);have hk:=ZoM w ls c (by omega);have hg:c.foldl (λg s=>Zc1 g (Zz w ls s) s) []=ZcP (Zz w ls) c:=rfl;rw[hg]at e;have hn:(ZdN ((ZcP (Zz w ls) c).map (·.1))).length<1000000:=by rw[(Zc0 _).length_eq,Zwy];have:=Zjr _ _ _ (ZeT (Zz w ls) c);omega
 simp[Zbh,Zht,hb];rw[show some (B.otl [])=some (B.otl (Zah [])) from rfl,e];simp[hk,hn];rw[Zjq]
 ·simp
 ·intro k hk'
  simp[Zbs,ZmO w ls c k hk']
theorem Zd6{w:Wk}{c:List Int}{d:Int}(h:d∈doV w c):0<=d/\d<w.deeds.length/\ZaN w c d=true:=by unfold doV at h;obtain⟨k,hk,rfl⟩:=ZwK.mp h;obtain⟨h1,h2⟩:=Zxq.mp hk;have:=ZwV.mp h1;exact⟨by omega,by omega,h2⟩
end HG
namespace HG4
open PySem HM HG
end HG4
namespace HM
open PySem
theorem ZaL{P:Option Out->Prop}{a b:SF}{r r':Env}(h:a r=some (.nx r'))(k:P (b r')):P (Zv a b r):=by show P (match a r with | some (.nx r')=>b r' | some (.rt d)=>some (.rt d) | some (.bk r')=>some (.bk r') | some (.ct r')=>some (.ct r') | none=>none);rw[h];exact k
end HM
namespace HG4
open PySem HM HG
def Zpl(w:Wk)(ls c:List Int)(s:Int):List Int:=c.filter λx=>Zz w ls x==Zz w ls s
theorem Zus{n:Nat}{c:List Int}(p:Int->Bool)(h:Cr n c):Cr n (c.filter p):=⟨h.1.filter p,λx hx=>h.2 x (Zxq.mp hx).1⟩
def alV(w:Wk):List Int:=(ZwE w.looks.length).map λ(k:Nat)=>(k:Int)
theorem Zwm(w:Wk):Cr w.looks.length (alV w):=by
 have:=Zg4 w.looks.length λ_=>true
 rwa [ZzX.mpr λ_ _=>rfl]at this
theorem Zm3{w:Wk}{ls c:List Int}{s x:Int}:x∈Zpl w ls c s↔x∈c/\Zz w ls x=Zz w ls s:=by unfold Zpl;rw[Zxq,beq_iff_eq]
theorem Zs2{w:Wk}{c:List Int}{d x:Int}:x∈Zay w c d↔∃s∈c,x∈Zbo w d s:=by
 unfold Zay;rw[(sortI_perm _).mem_iff,Zep];unfold ZaK;rw[ZyM]
 constructor
 ·rintro (h | h)
  ·cases h
  ·exact h
 ·exact .inr
end HG4
namespace HM
open PySem
def Za4:Option Out->Option D
 | some (.nx _)=>some .none
 | some (.rt d)=>some d
 | _=>none
end HM
namespace HG4
open PySem HM HG
end HG4
namespace HG5
open PySem HM HG HG4
def ZD(w:Wk)(ls c:List Int):List (List Int):=(ZaP w ls c).map (·.2)
theorem Zkt{w:Wk}{ls c p:List Int}:p∈ZD w ls c↔∃s∈c,p=Zpl w ls c s:=by
 unfold ZD ZaP;rw[ZwW,ZwK];have hg:=ZeT (Zz w ls) c
 constructor
 ·rintro ⟨k,hk,rfl⟩
  obtain⟨s,hs,e⟩:=ZwK.mp ((hg.mem k).mp ((Zc0 _).mem_iff.mp hk));refine⟨s,hs,?_⟩;subst e;rfl
 ·rintro ⟨s,hs,rfl⟩
  exact⟨Zz w ls s,(Zc0 _).mem_iff.mpr ((hg.mem _).mpr (ZwK.mpr ⟨s,hs,rfl⟩)),rfl⟩
theorem Zij{w:Wk}{ls c p:List Int}(hc:Cr w.many c)(h:p∈ZD w ls c):Cr w.many p/\p≠[]/\∀x∈p,x∈c:=by obtain⟨s,hs,rfl⟩:=Zkt.mp h;exact⟨Zus _ hc,ZAb (Zm3.mpr ⟨hs,rfl⟩),λx hx=>(Zm3.mp hx).1⟩
theorem ZgN{w:Wk}{ls c:List Int}(h:c≠[]):ZD w ls c≠[]:=by
 cases c with
 | nil=>exact absurd rfl h
 | cons s c=>exact ZAb (Zkt.mpr ⟨s,ZwA ..,rfl⟩)
def Zh7:Nat->List (List Int)
 | 0=>[[]]
 | n+1=>Zh7 n++(Zh7 n).map (·++[(n:Int)])
theorem ZmE:∀n,(Zh7 n).length=2 ^ n
 | 0=>rfl
 | n+1=>by show(Zh7 n++(Zh7 n).map (·++[(n:Int)])).length=_;rw[ZwR,Zwy,ZmE n,Nat.pow_succ];omega
theorem Zjc:∀(n:Nat) (c:List Int),Cr n c->c∈Zh7 n
 | 0,c,h=>by
  cases c with
  | nil=>exact ZwQ.mpr rfl
  | cons x c=>have:=h.2 x (ZwA ..); omega
 | n+1,c,h=>by
  show c∈Zh7 n++(Zh7 n).map (·++[(n:Int)])
  by_cases hm:(n:Int)∈c
  ·-- the last is n
   have key:∀(c:List Int),c.Pairwise (· < ·)->(∀x∈c,0<=x/\x<((n+1:Nat):Int))->(n:Int)∈c->∃c',c=c'++[(n:Int)]/\c'.Pairwise (· < ·)/\∀x∈c',0<=x/\x<(n:Int):=by
    intro c
    induction c with
    | nil=>intro _ _ h; simp at h
    | cons x c ih =>
     intro hp hb hm;obtain⟨p1,p2⟩:=Zxf.mp hp
     by_cases hx:x=(n:Int)
     ·cases c with
      | nil=>exact⟨[],by rw[hx]; rfl,.nil,λy hy=>by simp at hy⟩
      | cons y c=>have h1:=p1 y (ZwA ..);have h2:=hb y (ZwC _ (ZwA ..));omega
     ·have hm':(n:Int)∈c:=by
       rcases ZwT.mp hm with e | e
       ·exact absurd e.symm hx
       ·exact e
      obtain⟨c',e,q1,q2⟩:=ih p2 (λy hy=>hb y (ZwC _ hy)) hm';refine⟨x::c',by rw[e]; rfl,Zxf.mpr ⟨λy hy=>p1 y (by rw[e]; exact Zxx _ hy),q1⟩,λy hy=>?_⟩;rcases ZwT.mp hy with e' | hy
      ·have h1:=p1 (n:Int) hm'
       have h2:=hb x (ZwA ..);rw[e'];omega
      ·exact q2 y hy
   obtain⟨c',e,q1,q2⟩:=key c h.1 h.2 hm;exact Zw1 _ (ZwK.mpr ⟨c',Zjc n c' ⟨q1,q2⟩,e.symm⟩)
  ·refine Zxx _ (Zjc n c ⟨h.1,λx hx=>?_⟩)
   have h1:=h.2 x hx;have:x≠(n:Int):=λe=>hm (e▸hx);omega
theorem ZpD{n:Nat}{L:List (List Int)}(hn:L.Nodup)(h:∀c∈L,Cr n c):L.length<=2 ^ n:=by rw[<-ZmE n];exact ZxZ hn λc hc=>Zjc n c (h c hc)
def ZV(w:Wk)(c:List Int):Bool:=c.all λs=>w.goal.contains s
def Win(w:Wk)(ls:List Int):Nat->List Int->Bool
 | 0,c=>ZV w c
 | n+1,c=>ZV w c||(ZwE w.deeds.length).any λd=>ZaN w c d&&(ZD w ls (Zay w c d)).all λp=>Win w ls n p
theorem ZmQ{w:Wk}{ls:List Int}:∀(n:Nat) (c:List Int),Win w ls n c=true->Win w ls (n+1) c=true
 | 0,c,h=>by show(ZV w c||_)=true;rw[show ZV w c=true from h];rfl
 | n+1,c,h=>by
  have h':(ZV w c||(ZwE w.deeds.length).any λd=>ZaN w c d&&(ZD w ls (Zay w c d)).all λp=>Win w ls n p)=true:=h;show(ZV w c||(ZwE w.deeds.length).any λd=>ZaN w c d&&(ZD w ls (Zay w c d)).all λp=>Win w ls (n+1) p)=true;rw[Zx6]at h' ⊢;rcases h' with h' | h'
  ·exact .inl h'
  ·right
   obtain⟨d,hd,hq⟩:=ZxA.mp h';rw[ZwU]at hq;refine ZxA.mpr ⟨d,hd,?_⟩;rw[ZwU];exact⟨hq.1,ZwF.mpr λp hp=>ZmQ n p (ZwF.mp hq.2 p hp)⟩
theorem Zfq{w:Wk}{ls:List Int}{n m:Nat}(h:n<=m){c:List Int}(q:Win w ls n c=true):Win w ls m c=true:=by
 induction h with
 | refl=>exact q
 | step _ ih=>exact ZmQ _ _ ih
def Zfj(w:Wk)(ls:List Int)(L:List (List Int)):Prop:=∀c∈L,∀d:Nat,d<w.deeds.length->ZaN w c d=true->∀p∈ZD w ls (Zay w c d),p∈L
theorem Zjo{w:Wk}{ls:List Int}{L:List (List Int)}(hL:Zfj w ls L){n:Nat}(h:∀c∈L,Win w ls (n+1) c=true->Win w ls n c=true):∀(m:Nat),∀c∈L,Win w ls m c=true->Win w ls n c=true
 | 0,c,_,q=>Zfq (ZxR n) q
 | m+1,c,hc,q=>by
  refine h c hc ?_;have q':(ZV w c||(ZwE w.deeds.length).any λd=>ZaN w c d&&(ZD w ls (Zay w c d)).all λp=>Win w ls m p)=true:=q;show(ZV w c||(ZwE w.deeds.length).any λd=>ZaN w c d&&(ZD w ls (Zay w c d)).all λp=>Win w ls n p)=true;rw[Zx6]at q' ⊢;rcases q' with q' | q'
  ·exact .inl q'
  ·right
   obtain⟨d,hd,hq⟩:=ZxA.mp q';rw[ZwU]at hq;refine ZxA.mpr ⟨d,hd,?_⟩;rw[ZwU];exact⟨hq.1,ZwF.mpr λp hp=>Zjo hL h m p (hL c hc d (ZwV.mp hd) hq.1 p hp) (ZwF.mp hq.2 p hp)⟩
theorem Zhi{α:Type}{p q:α->Bool}:∀{L:List α},(∀x∈L,p x=true->q x=true)->(∃x∈L,q x=true/\p x=false)->(L.filter p).length<(L.filter q).length
 | [],_,⟨x,hx,_⟩=>by simp at hx
 | y::L,h,⟨x,hx,h1,h2⟩=>by
  have le:∀{L:List α},(∀x∈L,p x=true->q x=true)->(L.filter p).length<=(L.filter q).length:=by
   intro L
   induction L with
   | nil=>intro _; exact ZwH _
   | cons z L ih =>
    intro h;have:=ih λx hx=>h x (ZwC _ hx);have hz:=h z (ZwA ..);rw[Zys,Zys];cases hp:p z with
    | true=>rw[hz hp]; simpa using this
    | false =>
     cases q z
     ·simpa using this
     ·simp; omega
  have hL:=λx hx=>h x (ZwC y hx);have hy:=h y (ZwA ..);rw[Zys,Zys];rcases ZwT.mp hx with e | hx
  ·subst e
   rw[h2,h1];have:=le hL;simp; omega
  ·have:=Zhi hL ⟨x,hx,h1,h2⟩
   cases hp:p y with
   | true=>rw[hy hp]; simpa using this
   | false =>
    cases q y
    ·simpa using this
    ·simp; omega
end HG5
namespace HG5
open PySem HM HG
def Zhu:SF :=
 (ZB (op2 gEq (eOf (ZO (Zav (bOf (Zc 1))) (tV (Zgo (Zc 0) (bOf (eIx (Zp 1) (eC (.int 4)))))) (Zc 0))) (eOf (Zfm Zn))))
def ZbC:List D->Option D:=fnOf 2 2 Zhu
end HG5
namespace HG5
open PySem HM HG HG4
theorem ZvB(p:List Int):Zcq (tupI p)=true:=ZgL (Zgm 0 p) (by decide)
theorem Zni{w:Wk}{c:List Int}{d:Int}(h0:c≠[])(hc:ZaN w c d=true):Zay w c d≠[]:=by
 cases c with
 | nil=>exact absurd rfl h0
 | cons s c =>
  unfold ZaN at hc;have h1:=ZwF.mp hc s (ZwA ..);have h2:0<(Zbo w d s).length:=by simpa using h1
  cases hr:Zbo w d s with
  | nil=>rw[hr]at h2; simp at h2
  | cons x xs=>exact ZAb (Zs2.mpr ⟨s,ZwA ..,by rw[hr]; exact ZwA ..⟩)
def Zws(w:Wk)(ls c:List Int)(L:List (List Int))(d:Nat):List (List Int):=if ZaN w c d then L++(ZD w ls (Zay w c d)).filter (λp=>!L.contains p)else L
end HG5
namespace HG5
open PySem HM HG HG4
theorem Znc{α:Type}(ns:List Int):gEq (.list (ns.map dI)) (.list [])=some (.bool ns.isEmpty):=by
 cases ns with
 | nil=>exact ZgQ (Zi8 0 []) (by decide)
 | cons n ns=>exact ZhV (Zi8 0 (n::ns)) (Zi8 0 []) (by decide) (by decide) (by simp)
theorem filter_empty{α:Type}(p:α->Bool)(L:List α):(L.filter λx=>!p x).isEmpty=L.all p:=by
 induction L with
 | nil=>rfl
 | cons x L ih =>
  rw[Zys,ZxH];cases p x with
  | true=>simpa using ih
  | false=>rfl
theorem Znl{w:Wk}(hv:Wk.V w){c:List Int}(hc:c.length<1000):ZbC [w.d,tupI c]=some (.bool (ZV w c)):=by
 have hb:c.length<1000000:=by omega
 have i0:ZcA (.pl w.d)=some [Zxk w.many,.tuple (w.deeds.map ZL),.tuple (w.looks.map tupI),tupI w.beg,tupI w.goal]:=rfl;have e:∀r:HM.Env,r[0]?=some (some (.pl w.d))->ZaA (tV (Zgo (Zc 0) (bOf (eIx (Zp 1) (eC (.int 4)))))) (Zc 0) r (c.map dI)=some ((c.filter λs=>!w.goal.contains s).map dI):=λr r0=>by
  rw[Zb0 dI (λs=>!w.goal.contains s) dI]
  ·intro s _
   simp[r0,i0,ZmY,ZcS,-ZcA,-ZyI];simp[ZmY,ZcS,-ZyI]
  ·intro s _ _
   simp
 have g:=Znc (α:=Int) (c.filter λs=>!w.goal.contains s);rw[filter_empty (λs=>w.goal.contains s) c]at g;simp[ZbC,Zhu,hb,e,g,ZV,-gEq,-ZyI]
abbrev Tb:=List (List Int × Int)
def encM(M:Tb):List (List Ky × D):=M.map λp=>(Zab p.1,dI p.2)
theorem Zen(M:Tb)(k:List Int):Zj (encM M) (Zab k)=(Zj M k).map dI:=by
 unfold Zj encM;rw[List.find?_map];have e:((λp:List Ky × D=>decide (p.1=Zab k))∘λp:List Int × Int=>(Zab p.1,dI p.2))=λp=>decide (p.1=k):=by
  funext p
  simp only[ZzF];exact decide_eq_decide.mpr (Zj0 p.1 k)
 rw[e];cases M.find? λp=>decide (p.1=k)<;>rfl
theorem ZmI(M:Tb)(k:List Int)(v:Int):putD (encM M) (Zab k) (dI v)=encM (putD M k v):=by
 unfold putD;have e1:((encM M).any λp=>decide (p.1=Zab k))=M.any λp=>decide (p.1=k):=by
  unfold encM;rw[List.any_map];congr 1
  funext p
  simp only[ZzF];exact decide_eq_decide.mpr (Zj0 p.1 k)
 rw[e1];split
 ·unfold encM
  rw[ZwW,ZwW];refine Zx8 λp _=>?_;simp only[ZzF]
  by_cases h:p.1=k
  ·rw[if_pos h,if_pos (by rw[h])]
  ·rw[if_neg h,if_neg (λe=>h (Zfp e))]
 ·unfold encM
  rw[Zw7];rfl
theorem ZhN(k:List Int):Zj ([]:Tb) k=none:=rfl
theorem Zbx(x:List Int)(v:Int)(M:Tb)(k:List Int):Zj ((x,v)::M) k=if x=k then some v else Zj M k:=by
 unfold Zj;rw[Zxn]
 by_cases h:x=k<;>simp[h]
theorem ZqX(x k:List Int)(v:Int)(M:Tb):Zj (putD M x v) k=if x=k then some v else Zj M k:=by
 have rep:∀M:Tb,Zj (M.map λp=>if p.1=x then(p.1,v)else p) k=if x=k then(Zj M k).map (λ_=>v)else Zj M k:=by
  intro M
  induction M with
  | nil=>rw[Zyx,ZhN]; split<;>rfl
  | cons p M ih =>
   obtain⟨a,b⟩:=p;rw[ZwD]
   by_cases ha:a=x
   ·rw[if_pos (show(a,b).1=x from ha),Zbx,Zbx,ih]
    show(if a=k then some v else _)=_
    by_cases hk:x=k
    ·rw[if_pos (by rw[ha,hk]),if_pos hk,if_pos (by rw[ha,hk])]; rfl
    ·rw[if_neg (by rw[ha]; exact hk),if_neg hk,if_neg hk,if_neg (by rw[ha]; exact hk)]
   ·rw[if_neg (show ¬(a,b).1=x from ha),Zbx,Zbx,ih]
    by_cases hk:a=k
    ·rw[if_pos hk,if_pos hk]
     have:x≠k:=λe=>ha (hk.trans e.symm);rw[if_neg this]
    ·rw[if_neg hk,if_neg hk]
 have app:∀M:Tb,Zj (M++[(x,v)]) k=match Zj M k with | some u=>some u | none=>if x=k then some v else none:=by
  intro M
  induction M with
  | nil=>rw[Zzb,Zbx,ZhN]
  | cons p M ih =>
   obtain⟨a,b⟩:=p;rw[ZAB,Zbx,Zbx,ih]
   by_cases hk:a=k
   ·rw[if_pos hk,if_pos hk]
   ·rw[if_neg hk,if_neg hk]
 have has:∀M:Tb,(M.any λp=>decide (p.1=x))=(Zj M x).isSome:=by
  intro M
  induction M with
  | nil=>rfl
  | cons p M ih =>
   obtain⟨a,b⟩:=p;rw[ZyB,Zbx,ih]
   by_cases ha:a=x<;>simp[ha]
 unfold putD;split
 ·rename_i h
  rw[rep]
  by_cases hk:x=k
  ·subst hk
   rw[has]at h;rw[if_pos rfl,if_pos rfl];obtain⟨u,hu⟩:=Zxi.mp h;rw[hu]; rfl
  ·rw[if_neg hk,if_neg hk]
 ·rename_i h
  rw[app]
  by_cases hk:x=k
  ·subst hk
   rw[has]at h;rw[if_pos rfl,if_pos rfl];cases hq:Zj M x with
   | none=>rfl
   | some u=>rw[hq]at h; exact absurd rfl h
  ·rw[if_neg hk,if_neg hk]
   cases Zj M k<;>rfl
theorem Zoq(x:List Int)(v:Int)(M:Tb):(putD M x v).length<=M.length+1:=by
 unfold putD;split
 ·rw[Zwy]; omega
 ·rw[ZwR]; exact ZwH _
def ZN(M:Tb)(p:List Int):Bool:=(Zj M p).isSome
def Zev(w:Wk)(ls c:List Int)(M:Tb):Bool:=(ZwE w.deeds.length).any λd=>ZaN w c d&&(ZD w ls (Zay w c d)).all λp=>ZN M p
end HG5
namespace HG5
open PySem HM HG HG4
def Zcl(w:Wk)(ls:List Int)(t:Nat)(c:List Int):Option Int:=((ZwE (t+1)).find? λn=>Win w ls n c).map λ(n:Nat)=>(n:Int)
theorem Zcj{w:Wk}{ls:List Int}{t:Nat}{c:List Int}:(Zcl w ls t c).isSome=Win w ls t c:=by
 unfold Zcl;rw[ZxV];cases h:Win w ls t c with
 | true=>rw[ZAo]; exact⟨t,ZwV.mpr (by omega),h⟩
 | false =>
  cases q:(ZwE (t+1)).find? λn=>Win w ls n c with
  | none=>rfl
  | some n=>have h1:=List.find?_some q;have h2:=ZwV.mp (Zzd q);rw[Zfq (show n<=t by omega) h1]at h;cases h
theorem Zpp{w:Wk}{ls:List Int}{t:Nat}{c:List Int}:Zcl w ls (t+1) c=match Zcl w ls t c with
  | some k=>some k
  | none=>if Win w ls (t+1) c then some ((t+1:Nat):Int)else none:=by
 unfold Zcl;rw[List.range_succ (n:=t+1),ZAl];cases(ZwE (t+1)).find? λn=>Win w ls n c with
 | some n=>rfl
 | none=>show Zym _ (Option.or none ([t+1].find? λn=>Win w ls n c))=_;rw[Option.none_or,Zxn];cases Win w ls (t+1) c<;>rfl
theorem ZjD{w:Wk}{ls:List Int}{t:Nat}{c:List Int}{k:Int}(h:Zcl w ls t c=some k):∃n:Nat,k=(n:Int)/\n<=t/\Win w ls n c=true/\∀m,m<n->Win w ls m c=false:=by
 unfold Zcl at h;obtain⟨n,hn,rfl⟩:=Zwx.mp h;refine⟨n,rfl,?_,List.find?_some (p:=λn=>Win w ls n c) hn,λm hm=>?_⟩
 ·have:=ZwV.mp (Zzd hn)
  omega
 ·cases q:Win w ls m c with
  | false=>rfl
  | true =>
   obtain⟨_,as,bs,e,hno⟩:=List.find?_eq_some_iff_append.mp hn;have hmem:m∈ZwE (t+1):=ZwV.mpr (by have:=ZwV.mp (Zzd hn);omega);have hp:(as++n::bs).Pairwise (· < ·):=by rw[<-e]; exact ZAN
   rw[e]at hmem;rcases Zw5.mp hmem with h1 | h1
   ·have:=hno m h1
    rw[q]at this;cases this
   ·rcases ZwT.mp h1 with h2 | h2
    ·omega
    ·have:=(Zxf.mp (List.pairwise_append.mp hp).2.1).1 m h2
     omega
structure Zg3(w:Wk)(ls:List Int)(L:List (List Int))(t:Nat)(M:Tb):Prop where
 look:∀c,Zj M c=if c∈L then Zcl w ls t c else none
theorem ZfI(v:Int)(k:List Int):∀(ms:List (List Int)) (M:Tb),Zj (ms.foldl (λM c=>putD M c v) M) k=if k∈ms then some v else Zj M k
 | [],M=>by simp
 | c::ms,M=>by
  rw[Zyk,ZfI v k ms,ZqX]
  by_cases h1:k∈ms
  ·rw[if_pos h1,if_pos (ZwC _ h1)]
  ·rw[if_neg h1]
   by_cases h2:c=k
   ·rw[if_pos h2,if_pos (by rw[h2]; exact ZwA ..)]
   ·rw[if_neg h2,if_neg]
    intro h;rcases ZwT.mp h with e | e
    ·exact h2 e.symm
    ·exact h1 e
theorem Zks(v:Int):∀(ms:List (List Int)) (M:Tb),(ms.foldl (λM c=>putD M c v) M).length<=M.length+ms.length
 | [],M=>ZwH _
 | c::ms,M=>by rw[Zyk,ZwM];have:=Zks v ms (putD M c v);have:=Zoq c v M;omega
def ZeN(w:Wk)(ls:List Int)(L:List (List Int))(M:Tb):List (List Int):=L.filter λc=>!ZN M c&&Zev w ls c M
theorem Znk{w:Wk}{ls:List Int}{L:List (List Int)}(hL:Zfj w ls L){t:Nat}{M:Tb}(T:Zg3 w ls L t M):Zg3 w ls L (t+1) ((ZeN w ls L M).foldl (λM c=>putD M c ((t+1:Nat):Int)) M):=by
 have hhas:∀c∈L,ZN M c=Win w ls t c:=λc hc=>by unfold ZN;rw[T.look,if_pos hc,Zcj]
 refine⟨λc=>?_⟩;rw[ZfI,T.look]
 by_cases hc:c∈L
 ·rw[if_pos hc,if_pos hc,Zpp]
  have hcan:Zev w ls c M=(ZwE w.deeds.length).any λd=>ZaN w c d&&(ZD w ls (Zay w c d)).all λp=>Win w ls t p:=by
   unfold Zev;apply Bool.eq_iff_iff.mpr;rw[ZxA,ZxA]
   constructor
   ·rintro ⟨d,hd,hq⟩
    rw[ZwU]at hq;refine⟨d,hd,?_⟩;rw[ZwU];refine⟨hq.1,ZwF.mpr λp hp=>?_⟩;rw[<-hhas p (hL c hc d (ZwV.mp hd) hq.1 p hp)];exact ZwF.mp hq.2 p hp
   ·rintro ⟨d,hd,hq⟩
    rw[ZwU]at hq;refine⟨d,hd,?_⟩;rw[ZwU];refine⟨hq.1,ZwF.mpr λp hp=>?_⟩;rw[hhas p (hL c hc d (ZwV.mp hd) hq.1 p hp)];exact ZwF.mp hq.2 p hp
  have hmem:c∈ZeN w ls L M↔(Win w ls t c=false/\Zev w ls c M=true):=by
   unfold ZeN;rw[Zxq,ZwU,hhas c hc]
   constructor
   ·rintro ⟨_,h1,h2⟩
    exact⟨by simpa using h1,h2⟩
   ·rintro ⟨h1,h2⟩
    exact⟨hc,by simp[h1],h2⟩
  cases hw:Win w ls t c with
  | true =>
   have hs:(Zcl w ls t c).isSome=true:=by rw[Zcj]; exact hw
   obtain⟨k,hk⟩:=Zxi.mp hs;rw[if_neg (λh=>by rw[hw]at hmem; cases(hmem.mp h).1),hk]
  | false =>
   have hs:Zcl w ls t c=none:=by
    have:=Zcj (w:=w) (ls:=ls) (t:=t) (c:=c);rw[hw]at this;cases q:Zcl w ls t c with
    | none=>rfl
    | some k=>rw[q]at this; cases this
   have hth:ZV w c=false:=by
    cases q:ZV w c with
    | false=>rfl
    | true=>have:Win w ls t c=true:=Zfq (ZxR t) (show Win w ls 0 c=true from q);rw[hw]at this;cases this
   have hwin:Win w ls (t+1) c=Zev w ls c M:=by rw[hcan];show(ZV w c||_)=_;rw[hth,ZAd]
   rw[hs];dsimp only;rw[hwin];cases hcw:Zev w ls c M with
   | true=>rw[if_pos (hmem.mpr ⟨hw,hcw⟩),if_pos rfl]
   | false=>rw[if_neg (λh=>by have:=(hmem.mp h).2; rw[hcw]at this; cases this)]; rfl
 ·rw[if_neg hc,if_neg hc,if_neg]
  intro h;exact hc (Zxq.mp h).1
def M0(w:Wk)(L:List (List Int)):Tb:=(L.filter λc=>ZV w c).foldl (λM c=>putD M c 0) []
theorem Zmk{w:Wk}{ls:List Int}{L:List (List Int)}:Zg3 w ls L 0 (M0 w L):=by
 refine⟨λc=>?_⟩;unfold M0;rw[ZfI,ZhN];have e:Zcl w ls 0 c=if ZV w c then some 0 else none:=by unfold Zcl;show Zym _ (([0]:List Nat).find? λn=>Win w ls n c)=_;rw[Zxn];show Zym _ (match Win w ls 0 c with | true=>some 0 | false=>_)=_;have:Win w ls 0 c=ZV w c:=rfl;rw[this];cases ZV w c<;>rfl
 rw[e]
 by_cases hc:c∈L
 ·rw[if_pos hc]
  cases ht:ZV w c with
  | true=>rw[if_pos (Zxq.mpr ⟨hc,ht⟩)]; rfl
  | false=>rw[if_neg (λh=>by have:=(Zxq.mp h).2; rw[ht]at this; cases this)]; rfl
 ·rw[if_neg hc,if_neg λh=>hc (Zxq.mp h).1]
end HG5
namespace HG5
open PySem HM HG HG4
def ZrT(w:Wk)(ls:List Int)(n:Nat):Prop:=∀p∈ZD w ls w.beg,Win w ls n p=true
def Few(w:Wk)(ls:List Int)(d:D):Prop:=(∃n:Nat,d=.int n/\ZrT w ls n/\∀m,m<n->¬ZrT w ls m)\/(d=.none/\∀n,¬ZrT w ls n)
end HG5
namespace HG5
open PySem HM HG
def Znz:SF :=
 (ZB (eIx (Zp 0) (eC (.int 3))))
def Zc5:List D->Option D:=fnOf 1 1 Znz
def ZoS:SF :=
 (ZB (eIx (Zp 0) (eC (.int 4))))
def ZcW:List D->Option D:=fnOf 1 1 ZoS
def ZiH:SF :=
 (ZB (Zh3 (ZO (Zav (bOf (Zc 1))) Zam (ZmV (Zc 0) (bOf (Zm ZcW (Zd (Zc 1) Zn)))))))
def Zbe:List D->Option D:=fnOf 2 2 ZiH
def Zhv:SF :=
 (ZB (eOf (ZO (Zav (bOf (Zc 0))) Zam (eIx (Zp 0) (eC (.int 1))))))
def ZH:List D->Option D:=fnOf 1 1 Zhv
def ZbD(ap:AP):SF :=
 (Zir 3 (ZhO ZH (Zd (eIx (Zp 5) (eC (.int 1))) Zn)))
def Za9(ap:AP):SF :=
 (Zv (ZrU 4 3)
  (sIf (tV (Zdj (Zc 4) (Zp 2))) (Zv (ZhQ 2 (Zc 4) (Zfx ap 1 (Zd (Zc 4) Zn)))
  (Zbl 5 (Zav (bOf (Za6 (Zp 2) (Zc 4)))) (ZbD ap))) Zau))
def ZcC(ap:AP):SF :=
 (Zv (ZY 2 fDt)
  (Zv (ZY 3 (Zgr (Zp 0)))
  (Zv (Zmt 100000 (tV (op2 gGt (Zbn (Zp 3)) (eC (.int 0)))) (Za9 ap))
  (Zh1 2 (ZB (Zc 2))))))
def Zbp(ap:AP):List D->Option D:=fnOf 2 6 (ZcC ap)
def Zeq(ap:AP):SF :=
 (Zv (ZY 3 (ZO (Zav (bOf (Zc 0))) Zam (Zfx ap 3 (Zd (Zc 0) (Zd (Zc 2) Zn)))))
  (Zh1 3 (ZB (ZeO (ZO (Zav (bOf (Zc 3))) (tV (op2 ZfK (Zc 0) (eC .none))) (Zc 0))))))
def Zbr(ap:AP):List D->Option D:=fnOf 3 4 (Zeq ap)
def ZR(ap:AP):SF :=
 (sIf (tV (Zdj (Zc 4) (Zp 1))) (Zv (Zai 5 (Zm (Zbr ap) (Zd (Za6 (Zp 0) (Zc 4)) (Zd (Zc 1) (Zd (Zc 2) Zn)))))
  (sIf (tV (op2 ZfK (Zc 5) (eC .none))) (ZhQ 3 (Zc 4) (Zc 5)) Zau)) Zau)
def Za3(ap:AP):List D->Option (List (List Ky × D)):=newOf 3 6
 (ZiY (ZY 3 fDt)
 (ZiY (Zec 0 (Zbl 4 (ZaS 0) (ZR ap)))
 (ZmB 3)))
def ZcI(ap:AP):SF :=
 (ZhQ 3 (Zc 6) (Zc 4))
def ZcJ(ap:AP):SF :=
 (Zv (Zh1 5 (Zbl 6 (Zav (bOf (Zc 5))) (ZcI ap)))
  (Zv (ZY 7 (Zia (Za3 ap) (Zd (Zc 1) (Zd (Zpg (Zp 3)) (Zd (Zc 2) Zn)))))
  (Zv (Zh1 7 (Zec 7 (Zai 4 (ZeO (ZO (ZaS 7) Zam (Za6 (Zp 8) (Zc 0)))))))
  (Zh1 7 (Zec 7 (ZY 5 (ZO (ZaS 7) (tV (op2 gEq (Za6 (Zp 8) (Zc 0)) (Zc 5))) (Zc 0))))))))
def Zd7(ap:AP):SF :=
 (Zv (ZY 3 fDt)
  (Zv (Zai 4 (eC (.int 0)))
  (Zv (Zec 1 (ZY 5 (ZO (ZaS 1) (tV (Zm Zbe (Zd (Zc 1) (Zd (Zc 0) Zn)))) (Zc 0))))
  (Zv (Zmt 100000 (tV (op2 gGt (Zbn (Zp 5)) (eC (.int 0)))) (ZcJ ap))
  (Zh1 3 (ZB (Zc 3)))))))
def Zcu(ap:AP):List D->Option D:=fnOf 3 8 (Zd7 ap)
def Zda:SF :=
 (Zv (ZY 2 (ZO (Zav (bOf (Zm ZH (Zd (Zc 0) Zn)))) (tV (Zm2 (Zc 0) (Zp 2))) (Za6 (Zp 2) (Zc 0))))
  (ZB (eIf (tV (op2 gEq (Zbn (Zp 2)) (Zbn (Zp 0)))) (Zjv (Zp 2)) (eC .none))))
def Z4:List D->Option D:=fnOf 2 3 Zda
def Zhw:SF :=
 (ZB (eOf (ZO (Zav (bOf (Zm ZbL (Zd (Zc 0) (Zd (Zc 2) Zn))))) Zam (Zgd (Zd (Zc 0) (Zd (Zm ZaO (Zd (Zc 1) (Zd (Zc 2) (Zd (Zm ZcF (Zd (Zc 1) (Zd (Zc 3) (Zd (Zc 0) Zn)))) Zn)))) Zn))))))
def ZaG:List D->Option D:=fnOf 3 3 Zhw
def ZdP(ap:AP):SF :=
 (ZB (Zg7 (Zbp ap) 1 [0,1] (Zm ZH (Zd (Zm ZaO (Zd (Zc 0) (Zd (Zc 1) (Zd (Zc 2) Zn)))) Zn))))
def Zb6(ap:AP):List D->Option D:=fnOf 3 3 (ZdP ap)
def ZfL:SF :=
 (Zv (Zai 2 (Zm Z4 (Zd (eIx (Zp 0) (eC (.int 1))) (Zd (Zc 1) Zn))))
  (ZB (eIf (tV (op2 Znh (Zc 2) (eC .none))) (eC .none) (op2 Zbm (Zc 2) (eC (.int 1))))))
def Zcv:List D->Option D:=fnOf 2 3 ZfL
def ZeY(ap:AP):SF :=
 (ZB (Zm (Zcu ap) (Zd (Zc 0) (Zd (Zc 1) (Zd (eC (fnD 0 [])) Zn)))))
def ZcK(ap:AP):List D->Option D:=fnOf 2 2 (ZeY ap)
def Zhx(ap:AP):SF :=
 (Zv (ZpB (Zm ZcU (Zd (Zc 0) Zn)))
  (Zv (ZpB (Zm Za8 (Zd (Zc 0) (Zd (Zc 1) Zn))))
  (Zv (Zai 2 (Zm Zc5 (Zd (Zc 0) Zn)))
  (Zv (Zai 3 (Zm (ZcK ap) (Zd (Zc 0) (Zd (Zm (Zb6 ap) (Zd (Zc 0) (Zd (Zc 1) (Zd (Zc 2) Zn)))) Zn))))
  (ZB (Zm Z4 (Zd (Zm ZaO (Zd (Zc 0) (Zd (Zc 1) (Zd (Zc 2) Zn)))) (Zd (Zc 3) Zn))))))))
def Zei(ap:AP):List D->Option D:=fnOf 2 4 (Zhx ap)
end HG5
namespace HG5
open PySem HM HG HG4
theorem Zwb(w:Wk):ZcA (.pl w.d)=some [Zxk w.many,.tuple (w.deeds.map ZL),.tuple (w.looks.map tupI),tupI w.beg,tupI w.goal]:=rfl
theorem Zoc(w:Wk):Zc5 [w.d]=some (tupI w.beg):=rfl
theorem Zo7(w:Wk):ZcW [w.d]=some (tupI w.goal):=rfl
theorem Zrr{α:Type}(xs:List α)(p:α->Bool):Zeo (xs.map λx=>ZxT (p x))=some (xs.map p):=by
 have:=ZeP (xs.map p)
 rwa [ZwW]at this
theorem Zoa{w:Wk}{c:List Int}(hc:c.length<1000):Zbe [w.d,tupI c]=some (.bool (ZV w c)):=by
 have hb:c.length<1000000:=by omega
 have e:∀r:HM.Env,r[0]?=some (some (.pl w.d))->ZaA Zam (ZmV (Zc 0) (bOf (Zm ZcW (Zd (Zc 1) Zn)))) r (c.map dI)=some (c.map λs=>ZxT (w.goal.contains s)):=λr r0=>by
  rw[Zbc dI (λs=>ZxT (w.goal.contains s))]
  ·intro s _
   simp[r0,Zo7,ZmY,ZcS,-ZyI]
 simp[Zbe,ZiH,hb,e,Zrr,ZV,-ZyI]
theorem Zfw(g:Gs)(h:g.length<1000000):ZH [.list (g.map Zal)]=some (.list ((g.map (·.2)).map tupI)):=by
 have e:∀r:HM.Env,ZaA Zam (eIx (Zp 0) (eC (.int 1))) r (g.map Zal)=some ((g.map (·.2)).map tupI):=λr=>by
  rw[Zbc Zal (λp=>tupI p.2),ZwW]
  ·rfl
  ·intro p _
   rfl
 simp[ZH,Zhv,h,e]
def Zpe(w:Wk)(ls c:List Int)(d:Int):D:=.tuple [dI d,.list ((ZaP w ls (Zay w c d)).map Zal)]
def Zlo(w:Wk)(ls c:List Int):D:=.list ((doV w c).map (Zpe w ls c))
theorem split_len{w:Wk}{ls c:List Int}:(ZaP w ls c).length<=c.length:=by unfold ZaP;rw[Zwy,(Zc0 _).length_eq,Zwy];exact Zjr _ _ _ (ZeT (Zz w ls) c)
theorem Zkl(w:Wk)(c:List Int):(doV w c).length<=w.deeds.length:=by
 unfold doV;rw[Zwy];have:=Zyh (λ(d:Nat)=>ZaN w c (d:Int)) (ZwE w.deeds.length)
 rwa [Zyo]at this
theorem Zok{w:Wk}{c:List Int}{d:Nat}(hd:d<w.deeds.length)(hc:ZaN w c d=true):(d:Int)∈doV w c:=by unfold doV;exact ZwK.mpr ⟨d,Zxq.mpr ⟨ZwV.mpr hd,hc⟩,rfl⟩
section
variable{w:Wk}(hv:Wk.V w){ls:List Int}(hl:Cr w.looks.length ls)
include hv hl
theorem Zma{c:List Int}(hc:Cr w.many c):ZaG [w.d,tupI ls,tupI c]=some (Zlo w ls c):=by
 have hdo:=Zlf hv hc;have hb:(doV w c).length<1000000:=by have:=Zkl w c; have:=hv.d2; omega
 have e:∀r:HM.Env,r[0]?=some (some (.pl w.d))->r[1]?=some (some (.pl (tupI ls)))->r[2]?=some (some (.pl (tupI c))) ->
   ZaA Zam (Zgd (Zd (Zc 0) (Zd (Zm ZaO (Zd (Zc 1) (Zd (Zc 2) (Zd (Zm ZcF (Zd (Zc 1) (Zd (Zc 3) (Zd (Zc 0) Zn)))) Zn)))) Zn))) r ((doV w c).map dI)=some ((doV w c).map (Zpe w ls c)):=λr r0 r1 r2=>by
  rw[Zbc dI (Zpe w ls c)];intro d hd;obtain⟨d0,d1,_⟩:=Zd6 hd;have h1:=ZqI hv hc d0 d1;have h2:=Zic hv hl (ZeS hv hc d0 d1);simp[r0,r1,r2,h1,h2,Zpe]
 simp[ZaG,Zhw,hdo,hb,e,Zlo]
end
end HG5
namespace HG5
open PySem HM HG HG4
abbrev Wy:=D × Gs
def wyD(y:Wy):D:=.tuple [y.1,.list (y.2.map Zal)]
def wyP(y:Wy):List (List Int):=y.2.map (·.2)
abbrev Wf:=List Int->List Wy
inductive Zj3(wf:Wf)(B:List (List Int)):List Int->Prop where
 | beg {p:List Int} (h:p∈B):Zj3 wf B p
 | step {c p:List Int} {y:Wy} (r:Zj3 wf B c) (hy:y∈wf c) (h:p∈wyP y):Zj3 wf B p
structure Zge(wf:Wf)(Ok:List Int->Prop)(B C W:List (List Int)):Prop where
 nd:C.Nodup
 cr:∀c∈C,Ok c
 wr:∀c∈W,Ok c
 rc:∀c∈C,Zj3 wf B c
 rw:∀c∈W,Zj3 wf B c
 cl:∀c∈C,∀y∈wf c,∀p∈wyP y,p∈C\/p∈W
 bg:∀p∈B,p∈C\/p∈W
def Zr(wf:Wf)(C:List (List Int)):List (List Ky × D):=C.map λc=>(Zab c,.list ((wf c).map wyD))
theorem ZhP(wf:Wf)(C:List (List Int))(k:List Int):Zj (Zr wf C) (Zab k)=if k∈C then some (.list ((wf k).map wyD))else none:=by
 unfold Zj Zr
 induction C with
 | nil=>rfl
 | cons c C ih =>
  rw[ZwD,Zxn]
  by_cases h:c=k
  ·subst h
   rw[if_pos (ZwA ..)];simp
  ·have h':decide ((Zab c,(PyData.list ((wf c).map wyD))).1=Zab k)=false:=decide_eq_false λe=>h (Zfp e)
   rw[h'];dsimp only;rw[ih]
   by_cases q:k∈C
   ·rw[if_pos q,if_pos (ZwC _ q)]
   ·rw[if_neg q,if_neg λz=>by
     rcases ZwT.mp z with e | e
     ·exact h e.symm
     ·exact q e]
theorem ZrH{wf:Wf}{C:List (List Int)}{k:List Int}(h:k ∉ C):putD (Zr wf C) (Zab k) (.list ((wf k).map wyD))=Zr wf (C++[k]):=by
 unfold putD;rw[if_neg]
 ·unfold Zr
  rw[Zw7];rfl
 ·intro z
  obtain⟨p,hp,e⟩:=ZxA.mp z;unfold Zr at hp;obtain⟨c,hc,rfl⟩:=ZwK.mp hp;have e:=Zfp (of_decide_eq_true e);subst e;exact h hc
theorem Zkx(wf:Wf)(L:List (List Int)):((Zr wf L).map λp=>Zxt (p.1.map Zaj))=L.map tupI:=by unfold Zr;rw[ZwW];refine Zx8 λc _=>?_;show Zxt ((c.map Zyd).map Zaj)=Zxt (c.map dI);rw[ZwW];rfl
def Zj6(wf:Wf)(c:List Int):List (List Int):=(wf c).flatMap wyP
theorem Zge.old{wf:Wf}{Ok:List Int->Prop}{B C V:List (List Int)}{p:List Int}(I:Zge wf Ok B C (V++[p]))(hp:p∈C):Zge wf Ok B C V:=by
 have key:∀q,q∈C\/q∈V++[p]->q∈C\/q∈V:=λq h=>by
  rcases h with h | h
  ·exact .inl h
  ·rcases Zw5.mp h with h | h
   ·exact .inr h
   ·rw[ZwQ.mp h]; exact .inl hp
 exact⟨I.nd,I.cr,λc h=>I.wr c (Zxx _ h),I.rc,λc h=>I.rw c (Zxx _ h),λc hc y hy q hq=>key q (I.cl c hc y hy q hq),λq hq=>key q (I.bg q hq)⟩
structure Zpz(wf:Wf)(Ok:List Int->Prop):Prop where
 ok:∀c,Ok c->∀y∈wf c,∀p∈wyP y,Ok p
 ys:∀c,Ok c->(wf c).length<=10
 ps:∀c,Ok c->∀y∈wf c,y.2.length<=8
 cs:∀C:List (List Int),C.Nodup->(∀c∈C,Ok c)->C.length<=128
theorem Zge.new{wf:Wf}{Ok:List Int->Prop}(O:Zpz wf Ok){B C V:List (List Int)}{p:List Int}(I:Zge wf Ok B C (V++[p]))(hp:p ∉ C):Zge wf Ok B (C++[p]) (V++Zj6 wf p):=by
 have hpc:=I.wr p (Zw1 _ (ZwQ.mpr rfl));have hpr:=I.rw p (Zw1 _ (ZwQ.mpr rfl));have key:∀q,q∈C\/q∈V++[p]->q∈C++[p]\/q∈V++Zj6 wf p:=λq h=>by
  rcases h with h | h
  ·exact .inl (Zxx _ h)
  ·rcases Zw5.mp h with h | h
   ·exact .inr (Zxx _ h)
   ·exact .inl (Zw1 _ h)
 refine⟨?_,λc h=>?_,λc h=>?_,λc h=>?_,λc h=>?_,λc h y hy q hq=>?_,λq hq=>key q (I.bg q hq)⟩
 ·rw[ZyZ]
  refine⟨I.nd,by simp,λx hx y hy e=>?_⟩;rw[ZwQ.mp hy]at e;exact hp (e▸hx)
 ·rcases Zw5.mp h with h | h
  ·exact I.cr c h
  ·rw[ZwQ.mp h]; exact hpc
 ·rcases Zw5.mp h with h | h
  ·exact I.wr c (Zxx _ h)
  ·obtain⟨y,hy,hq⟩:=ZyM.mp h
   exact O.ok p hpc y hy c hq
 ·rcases Zw5.mp h with h | h
  ·exact I.rc c h
  ·rw[ZwQ.mp h]; exact hpr
 ·rcases Zw5.mp h with h | h
  ·exact I.rw c (Zxx _ h)
  ·obtain⟨y,hy,hq⟩:=ZyM.mp h
   exact .step hpr hy hq
 ·rcases Zw5.mp h with h | h
  ·exact key q (I.cl c h y hy q hq)
  ·rw[ZwQ.mp h]at hy
   exact .inr (Zw1 _ (ZyM.mpr ⟨y,hy,hq⟩))
theorem Zrh{wf:Wf}{Ok:List Int->Prop}(O:Zpz wf Ok){c:List Int}(hc:Ok c):(Zj6 wf c).length<=80:=by
 have key:∀ys:List Wy,(∀y∈ys,y∈wf c)->(ys.flatMap wyP).length<=8*ys.length:=by
  intro ys
  induction ys with
  | nil=>intro _; exact ZwH 0
  | cons y ys ih =>
   intro h;rw[List.flatMap_cons,ZwR,ZwM];have h1:=ih λx hx=>h x (ZwC _ hx);have h2:=O.ps c hc y (h y (ZwA ..));have h3:(wyP y).length=y.2.length:=by unfold wyP; rw[Zwy]
   omega
 have h1:=key (wf c) λ_ h=>h;have h2:=O.ys c hc;unfold Zj6;omega
theorem Zp9(ap:AP)(e0 e1 e2 e4:Option B):∀(ys:List Wy) (W:List (List Int)) (o:Option B),(∀y∈ys,y.2.length<=8)->W.length+8*ys.length<900000 ->
  ∃o',Z5 5 (ZbD ap) (ys.map wyD) [e0,e1,e2,some (.ol (W.map tupI)),e4,o]=some (.nx [e0,e1,e2,some (.ol ((W++ys.flatMap wyP).map tupI)),e4,o'])
 | [],W,o,_,_=>⟨o,by rw[List.flatMap_nil,Zxc]; rfl⟩
 | y::ys,W,o,hds,hlen=>by
  rw[ZwM]at hlen;have hb:=hds y (ZwA ..);have hci:=Zfw y.2 (by omega);have hpl:(wyP y).length<=8:=by unfold wyP; rw[Zwy]; exact hb
  have body:ZbD ap [e0,e1,e2,some (.ol (W.map tupI)),e4,some (.pl (wyD y))]=some (.nx [e0,e1,e2,some (.ol ((W++wyP y).map tupI)),e4,some (.pl (wyD y))]):=by
   have h1:ZhO ZH (Zd (eIx (Zp 5) (eC (.int 1))) Zn) [e0,e1,e2,some (.ol (W.map tupI)),e4,some (.pl (wyD y))]=some (.ol ((wyP y).map tupI)):=by unfold ZhO;show(match ZH [.list (y.2.map Zal)]with | some (.list ys)=>some (B.ol ys) | _=>none)=_;rw[hci];rfl
   unfold ZbD Zir;rw[h1];show(if _ then _ else _)=_;rw[if_pos (by rw[Zwy,Zwy]; show _<1000000; omega),Zw7];rfl
  obtain⟨o',ih⟩:=Zp9 ap e0 e1 e2 e4 ys (W++wyP y) (some (.pl (wyD y))) (λx hx=>hds x (ZwC _ hx)) (by rw[ZwR]; omega);refine⟨o',?_⟩;rw[List.flatMap_cons,<-Zx5,<-ih,ZwD];show(match ZbD ap [e0,e1,e2,some (.ol (W.map tupI)),e4,some (.pl (wyD y))]with | some (.nx r')=>_ | some (.ct r')=>_ | some (.bk r')=>_ | some (.rt d)=>_ | none=>_)=_;rw[body]
theorem ZiJ(wf:Wf)(C:List (List Int))(p:List Int)(r:HM.Env)(i j:Nat)(h1:r[i]?=some (some (.pl (tupI p))))(h2:r[j]?=some (some (.ot (Zr wf C)))):tV (Zdj (Zc i) (Zp j)) r=some (!decide (p∈C)):=by
 have hk:Zbb (tupI p)=some (Zab p):=Zbs p;have hlk:=ZhP wf C p
 by_cases hp:p∈C
 ·rw[if_pos hp]at hlk
  simp[h1,h2,hk,hlk,hp]
 ·rw[if_neg hp]at hlk
  simp[h1,h2,hk,hlk,hp]
theorem ZoG(t:Nat)(cs:List D):Zj1 (fnD t cs)=some (t,cs):=rfl
section
variable{ap:AP}{wf:Wf}{Ok:List Int->Prop}(O:Zpz wf Ok){t:Nat}{cs:List D}(ha:∀c,Ok c->ap t cs [tupI c]=some (.list ((wf c).map wyD)))
include O ha
omit ha O in
theorem Zri{C V:List (List Int)}{p:List Int}(e0 e1 o4 o5:Option B)(hp:p∈C) :
  Za9 ap [e0,e1,some (.ot (Zr wf C)),some (.ol ((V++[p]).map tupI)),o4,o5]=some (.nx [e0,e1,some (.ot (Zr wf C)),some (.ol (V.map tupI)),some (.pl (tupI p)),o5]):=by
 unfold Za9;refine ZaL (P:=λq=>q=_) (r':=[e0,e1,some (.ot (Zr wf C)),some (.ol (V.map tupI)),some (.pl (tupI p)),o5]) ?_ ?_
 ·rw[Zw7]
  simp
 ·have ht:=ZiJ wf C p [e0,e1,some (.ot (Zr wf C)),some (.ol (V.map tupI)),some (.pl (tupI p)),o5] 4 2 rfl rfl
  rw[decide_eq_true hp]at ht;unfold sIf;rw[ht];rfl
theorem ZrJ{C V:List (List Int)}{p:List Int}(e0 o4 o5:Option B)(hp:p ∉ C)(hc:Ok p)(hC:C.length<1000)(hV:V.length<100000) :
  ∃o5',Za9 ap [e0,some (.pl (fnD t cs)),some (.ot (Zr wf C)),some (.ol ((V++[p]).map tupI)),o4,o5]=some (.nx [e0,some (.pl (fnD t cs)),some (.ot (Zr wf (C++[p]))),some (.ol ((V++Zj6 wf p).map tupI)),some (.pl (tupI p)),o5']):=by
 have hdl:=O.ys p hc;obtain⟨o5',go⟩:=Zp9 ap e0 (some (.pl (fnD t cs))) (some (.ot (Zr wf (C++[p])))) (some (.pl (tupI p))) (wf p) V o5 (λy hy=>O.ps p hc y hy) (by omega);refine⟨o5',?_⟩;unfold Za9;refine ZaL (P:=λq=>q=_) (r':=[e0,some (.pl (fnD t cs)),some (.ot (Zr wf C)),some (.ol (V.map tupI)),some (.pl (tupI p)),o5]) ?_ ?_
 ·rw[Zw7]
  simp
 ·have ht:=ZiJ wf C p [e0,some (.pl (fnD t cs)),some (.ot (Zr wf C)),some (.ol (V.map tupI)),some (.pl (tupI p)),o5] 4 2 rfl rfl
  rw[decide_eq_false hp]at ht;unfold sIf;rw[ht];show Zv _ _ _=_;have hk:Zbb (tupI p)=some (Zab p):=Zbs p;have hww:=ha p hc;have hcl:(Zr wf C).length<1000000:=by unfold Zr; rw[Zwy]; omega
  refine ZaL (P:=λq=>q=_) (r':=[e0,some (.pl (fnD t cs)),some (.ot (Zr wf (C++[p]))),some (.ol (V.map tupI)),some (.pl (tupI p)),o5]) ?_ ?_
  ·rw[<-ZrH hp]
   have hv:Zfx ap 1 (Zd (Zc 4) Zn) [e0,some (.pl (fnD t cs)),some (.ot (Zr wf C)),some (.ol (V.map tupI)),some (.pl (tupI p)),o5]=some (.list ((wf p).map wyD)):=by unfold Zfx;show(match Zj1 (fnD t cs)with | some (t,cs)=>_ | none=>none)=_;rw[ZoG];exact hww
   unfold ZhQ;rw[hv];show(match Zbb (tupI p)with | some y=>_ | none=>none)=_;rw[hk];dsimp only;rw[if_pos (show _<big from hcl)];rfl
  ·have hlk:=ZhP wf (C++[p]) p
   rw[if_pos (Zw1 _ (ZwQ.mpr rfl))]at hlk;have hi:Zav (bOf (Za6 (Zp 2) (Zc 4))) [e0,some (.pl (fnD t cs)),some (.ot (Zr wf (C++[p]))),some (.ol (V.map tupI)),some (.pl (tupI p)),o5]=some ((wf p).map wyD):=by simp[hk,hlk]
   unfold Zbl;rw[hi];dsimp only;rw[if_pos (by rw[Zwy]; show _<1000000; omega)];exact go
theorem ZdU(B:List (List Int))(e0:Option HM.B):∀(fuel:Nat) (C W:List (List Int)) (o4 o5:Option HM.B),Zge wf Ok B C W->(128-C.length)*81+W.length<fuel->(128-C.length)*81+W.length<60000 ->
  ∃C' o4' o5',Zbq (tV (op2 gGt (Zbn (Zp 3)) (eC (.int 0)))) (Za9 ap) fuel [e0,some (.pl (fnD t cs)),some (.ot (Zr wf C)),some (.ol (W.map tupI)),o4,o5]=some (.nx [e0,some (.pl (fnD t cs)),some (.ot (Zr wf C')),some (.ol []),o4',o5'])/\Zge wf Ok B C' []
 | 0,C,W,o4,o5,I,h,_=>by omega
 | fuel+1,C,W,o4,o5,I,h,hW=>by
  have hlen:=O.cs C I.nd I.cr
  by_cases hw:W=[]
  ·subst hw
   refine⟨C,o4,o5,?_,I⟩;unfold Zbq;have ht:(tV (op2 gGt (Zbn (Zp 3)) (eC (.int 0)))) [e0,some (.pl (fnD t cs)),some (.ot (Zr wf C)),some (.ol (([]:List (List Int)).map tupI)),o4,o5]=some false:=by simp
   rw[ht];rfl
  ·obtain⟨V,p,rfl⟩:∃V p,W=V++[p]:=⟨W.dropLast,W.getLast hw,(List.dropLast_concat_getLast hw).symm⟩
   rw[ZwR,Zyf]at h hW;have ht:(tV (op2 gGt (Zbn (Zp 3)) (eC (.int 0)))) [e0,some (.pl (fnD t cs)),some (.ot (Zr wf C)),some (.ol ((V++[p]).map tupI)),o4,o5]=some true:=by simp
   by_cases hp:p∈C
   ·obtain⟨C',o4',o5',g,J⟩:=ZdU B e0 fuel C V (some (.pl (tupI p))) o5 (I.old hp) (by omega) (by omega)
    refine⟨C',o4',o5',?_,J⟩;unfold Zbq;rw[ht];dsimp only;rw[Zri e0 _ o4 o5 hp];exact g
   ·have hpc:=I.wr p (Zw1 _ (ZwQ.mpr rfl))
    have J0:=I.new O hp;have hl2:=O.cs _ J0.nd J0.cr;rw[ZwR,Zyf]at hl2;have hbl:=Zrh O hpc;obtain⟨q5,e⟩:=ZrJ O ha (V:=V) e0 o4 o5 hp hpc (by omega) (by omega);obtain⟨C',o4',o5',g,J⟩:=ZdU B e0 fuel (C++[p]) (V++Zj6 wf p) (some (.pl (tupI p))) q5 J0 (by rw[ZwR,ZwR,Zyf]; omega) (by rw[ZwR,ZwR,Zyf]; omega);refine⟨C',o4',o5',?_,J⟩;unfold Zbq;rw[ht];dsimp only;rw[e];exact g
theorem Zpn{B:List (List Int)}(hB:∀c∈B,Ok c)(hl:B.length<=100):∃L,Zbp ap [.list (B.map tupI),fnD t cs]=some (.dict (Zi (Zr wf L)))/\Zge wf Ok B L []:=by
 have I0:Zge wf Ok B [] B:=⟨.nil,λc h=>(by simp at h),hB,λc h=>(by simp at h),λc h=>.beg h,λc h=>(by simp at h),λp h=>.inr h⟩;obtain⟨L,o4,o5,g,J⟩:=ZdU O ha B (some (.pl (.list (B.map tupI)))) 100000 [] B none none I0 (by simp; omega) (by simp; omega);refine⟨L,?_,J⟩;show Za4 (ZcC ap [some (.pl (.list (B.map tupI))),some (.pl (fnD t cs)),none,none,none,none])=_;have e:ZcC ap [some (.pl (.list (B.map tupI))),some (.pl (fnD t cs)),none,none,none,none]=some (.rt (.dict (Zi (Zr wf L)))):=by unfold ZcC;refine ZaL (P:=λq=>q=_) (r':=[some (.pl (.list (B.map tupI))),some (.pl (fnD t cs)),some (.ot (Zr wf [])),none,none,none]) rfl ?_;refine ZaL (P:=λq=>q=_) (r':=[some (.pl (.list (B.map tupI))),some (.pl (fnD t cs)),some (.ot (Zr wf [])),some (.ol (B.map tupI)),none,none]) rfl ?_;refine ZaL (P:=λq=>q=_) g ?_;simp
 rw[e];rfl
end
theorem Zdk(n:Nat)(p:List Int):noF (n+1) (tupI p)=true:=by show(p.map dI).all (noF n)=true;rw[List.all_map];exact ZwF.mpr λx _=>by cases n<;>rfl
theorem ZsX(n:Nat)(i:Int):noF n (.int i)=true:=by cases n<;>rfl
theorem Zdp{n:Nat}{ds:List D}(h:∀d∈ds,noF n d=true):noF (n+1) (.tuple ds)=true:=ZwF.mpr h
theorem Znp{n:Nat}{ds:List D}(h:∀d∈ds,noF n d=true):noF (n+1) (.list ds)=true:=ZwF.mpr h
theorem ZrE(n:Nat)(p:List Int × List Int):noF (n+2) (Zal p)=true:=Zdp λd hd=>by
 rcases ZwT.mp hd with e | hd
 ·subst e; exact Zdk n _
 ·rw[ZwQ.mp hd]; exact Zdk n _
theorem ZtZ{n:Nat}{y:Wy}(h:noF (n+3) y.1=true):noF (n+4) (wyD y)=true:=Zdp λd hd=>by
 rcases ZwT.mp hd with e | hd
 ·subst e; exact h
 ·rw[ZwQ.mp hd]
  exact Znp λd hd=>by obtain⟨p,_,rfl⟩:=ZwK.mp hd;exact ZrE n p
theorem Zu5{wf:Wf}{n:Nat}{L:List (List Int)}(h:∀c∈L,∀y∈wf c,noF (n+3) y.1=true):noF (n+6) (.dict (Zi (Zr wf L)))=true:=by show(Zi (Zr wf L)).all _=true;refine ZwF.mpr λp hp=>?_;unfold Zi Zr at hp;rw[ZwW]at hp;obtain⟨c,hc,rfl⟩:=ZwK.mp hp;show noF (n+5) (.list ((wf c).map wyD))=true;exact Znp λd hd=>by obtain⟨y,hy,rfl⟩:=ZwK.mp hd;exact ZtZ (h c hc y hy)
theorem Zvm(w:Wk):noF 20 w.d=true:=by
 refine Zdp λd hd=>?_;have h:∀x:List (List Int),∀d∈x.map tupI,noF 17 d=true:=λx d hd=>by obtain⟨p,_,rfl⟩:=ZwK.mp hd;exact Zdk 16 p
 have hd:=ZwT.mp hd;rcases hd with e | hd
 ·subst e; rfl
 rcases ZwT.mp hd with e | hd
 ·subst e
  exact Zdp λd hd=>by obtain⟨x,_,rfl⟩:=ZwK.mp hd;exact Zdp (h x)
 rcases ZwT.mp hd with e | hd
 ·subst e
  exact Zdp λd hd=>by obtain⟨x,_,rfl⟩:=ZwK.mp hd;exact Zdk 17 x
 rcases ZwT.mp hd with e | hd
 ·subst e; exact Zdk 18 _
 ·rw[ZwQ.mp hd]; exact Zdk 18 _
end HG5
namespace HG5
open PySem HM HG HG4
def oI:Option Int->D
 | some k=>.int k
 | none=>.none
abbrev Cb:=Wy->Tb->Option Int
def Zcg(cb:Cb)(ys:List Wy)(M:Tb):Option Int:=(ys.filterMap λy=>cb y M).min?
def Zax(wf:Wf)(cb:Cb)(L:List (List Int))(M:Tb):Tb:=L.filterMap λc=>if ZN M c then none else(Zcg cb (wf c) M).map λk=>(c,k)
def ZbK(T:Tb):Option Int:=(T.map (·.2)).min?
def Zew(T:Tb):List (List Int):=(T.filter λp=>some p.2==ZbK T).map (·.1)
def Za7(found:List (List Int))(k:Int)(M:Tb):Tb:=found.foldl (λM c=>putD M c k) M
inductive ZiV(wf:Wf)(cb:Cb)(L:List (List Int)):Tb->Option Int->List (List Int)->Tb->Prop where
 | done {M:Tb} {k:Option Int}:ZiV wf cb L M k [] M
 | step {M R:Tb} {k:Int} {found:List (List Int)} (hf:found≠[]) (h:ZiV wf cb L (Za7 found k M) (ZbK (Zax wf cb L (Za7 found k M))) (Zew (Zax wf cb L (Za7 found k M))) R):ZiV wf cb L M (some k) found R
theorem Znv:∀os:List (Option Int),Zat ((os.filter Zy8).map oI)=some (os.filterMap id)
 | []=>rfl
 | none::os=>Znv os
 | some k::os=>by show(Zat ((os.filter Zy8).map oI)).map (k::·)=_;rw[Znv os];rfl
theorem Zla{ap:AP}{t:Nat}{cs:List D}{cb:Cb}{ys:List Wy}{M:Tb}(hy:ys.length<1000)(ha:∀y∈ys,ap t cs [wyD y,.dict (Zi (encM M))]=some (oI (cb y M))) :
  Zbr ap [.list (ys.map wyD),.dict (Zi (encM M)),fnD t cs]=some (oI (Zcg cb ys M)):=by
 show Za4 (Zeq ap [some (.pl (.list (ys.map wyD))),some (.pl (.dict (Zi (encM M)))),some (.pl (fnD t cs)),none])=_;have hb:ys.length<big:=by show _<1000000; omega
 have e1:ZaA Zam (Zfx ap 3 (Zd (Zc 0) (Zd (Zc 2) Zn))) [some (.pl (.list (ys.map wyD))),some (.pl (.dict (Zi (encM M)))),some (.pl (fnD t cs)),none] (ys.map wyD)=some ((ys.map λy=>cb y M).map oI):=by
  rw[Zbc wyD (λy=>oI (cb y M)),ZwW]
  ·rfl
  ·intro y h
   show(match Zj1 (fnD t cs)with | some (t,cs)=>_ | none=>none)=_;rw[ZoG];exact ha y h
 have e2:ZaA (tV (op2 ZfK (Zc 0) (eC .none))) (Zc 0) [some (.pl (.list (ys.map wyD))),some (.pl (.dict (Zi (encM M)))),some (.pl (fnD t cs)),some (.pl (.list ((ys.map λy=>cb y M).map oI)))] ((ys.map λy=>cb y M).map oI)=some (((ys.map λy=>cb y M).filter Zy8).map oI):=by
  rw[Zb0 oI Zy8 oI]
  ·intro o _
   cases o<;>rfl
  ·intro o _ _
   rfl
 unfold Zeq;refine ZaL (P:=λq=>Za4 q=_) (r':=[some (.pl (.list (ys.map wyD))),some (.pl (.dict (Zi (encM M)))),some (.pl (fnD t cs)),some (.ol ((ys.map λy=>cb y M).map oI))]) ?_ ?_
 ·unfold ZY ZO
  show Zym _ (if(ys.map wyD).length<big then _ else _)=_;rw[if_pos (by rw[Zwy]; exact hb),e1];rfl
 ·show Za4 (Zym Out.rt (ZeO _ [some (.pl (.list (ys.map wyD))),some (.pl (.dict (Zi (encM M)))),some (.pl (fnD t cs)),some (.pl (.list ((ys.map λy=>cb y M).map oI)))]))=_
  have e3:ZO (Zav (bOf (Zc 3))) (tV (op2 ZfK (Zc 0) (eC .none))) (Zc 0) [some (.pl (.list (ys.map wyD))),some (.pl (.dict (Zi (encM M)))),some (.pl (fnD t cs)),some (.pl (.list ((ys.map λy=>cb y M).map oI)))]=some (.ol (((ys.map λy=>cb y M).filter Zy8).map oI)):=by unfold ZO;show(if((ys.map λy=>cb y M).map oI).length<big then _ else none)=_;rw[if_pos (by rw[Zwy,Zwy]; exact hb),e2];rfl
  unfold ZeO;rw[e3];show Za4 (Zym Out.rt (match Zat (((ys.map λy=>cb y M).filter Zy8).map oI)with | some ns=>some (match ns.min? with | some i=>Zxk i | none=>.none) | none=>none))=_;rw[Znv];show some (match((ys.map λy=>cb y M).filterMap id).min? with | some i=>Zxk i | none=>.none)=_;unfold Zcg;rw[List.filterMap_map];show some (match(ys.filterMap λy=>cb y M).min? with | some i=>Zxk i | none=>.none)=_;cases(ys.filterMap λy=>cb y M).min?<;>rfl
theorem Zr7{M:Tb}{c:List Int}{k:Int}(h:ZN M c=false):putD M c k=M++[(c,k)]:=by unfold putD;rw[if_neg];intro z;obtain⟨p,hp,e⟩:=ZxA.mp z;have e:=of_decide_eq_true e;unfold ZN Zj at h;rw[ZxV]at h;have:(M.find? λp=>decide (p.1=c)).isSome=true:=ZAo.mpr ⟨p,hp,decide_eq_true e⟩;rw[h]at this;cases this
theorem Zpk(M N:Tb)(c:List Int):ZN (M++N) c=(ZN M c||ZN N c):=by unfold ZN Zj;rw[ZAl,ZxV,ZxV,ZxV,Option.isSome_or]
theorem ZsY{M:Tb}{c:List Int}:ZN M c=true↔∃k,(c,k)∈M:=by
 unfold ZN Zj;rw[ZxV,ZAo]
 constructor
 ·rintro ⟨⟨c',k⟩,h,e⟩
  have e:=of_decide_eq_true e;exact⟨k,by rw[<-e]; exact h⟩
 ·rintro ⟨k,h⟩
  exact⟨_,h,decide_eq_true rfl⟩
theorem Ztu{wf:Wf}{cb:Cb}{L:List (List Int)}{M:Tb}{c:List Int}{k:Int}:(c,k)∈Zax wf cb L M↔c∈L/\ZN M c=false/\Zcg cb (wf c) M=some k:=by
 unfold Zax;rw[ZxL]
 constructor
 ·rintro ⟨c',h1,h2⟩
  split at h2
  ·cases h2
  ·rename_i hn
   obtain⟨k',h3,h4⟩:=Zwx.mp h2;cases h4;exact⟨h1,by simpa using hn,h3⟩
 ·rintro ⟨h1,h2,h3⟩
  exact⟨c,h1,by rw[h2,h3]; rfl⟩
section
variable{ap:AP}{wf:Wf}{L:List (List Int)}{t:Nat}{cs:List D}{cb:Cb}(hnd:L.Nodup)(hlen:L.length<=128)(hys:∀c∈L,(wf c).length<1000)(ha:∀c∈L,∀y∈wf c,∀M,ap t cs [wyD y,.dict (Zi (encM M))]=some (oI (cb y M)))
include hys ha
theorem ZoJ{M:Tb}:∀(K:List (List Int)) (acc:Tb) (o4 o5:Option B),(∀c∈K,c∈L)->K.Nodup->(∀c∈K,ZN acc c=false)->Za5 o4=false->Za5 o5=false->acc.length+K.length<100000 ->
  ∃p4 p5,Za5 p4=false/\Za5 p5=false/\Z5 4 (ZR ap) (K.map tupI) [some (.hd (Zi (Zr wf L))),some (.pl (.dict (Zi (encM M)))),some (.pl (fnD t cs)),some (.ot (encM acc)),o4,o5] =
   some (.nx [some (.hd (Zi (Zr wf L))),some (.pl (.dict (Zi (encM M)))),some (.pl (fnD t cs)),some (.ot (encM (acc++Zax wf cb K M))),p4,p5])
 | [],acc,o4,o5,_,_,_,h4,h5,_=>⟨o4,o5,h4,h5,by show some (Out.nx _)=_; rw[show Zax wf cb [] M=[] from rfl,Zxc]⟩
 | c::K,acc,o4,o5,hK,hn,hacc,h4,h5,hl=>by
  rw[ZwM]at hl;have hc:=hK c (ZwA ..);have hk:Zbb (tupI c)=some (Zab c):=Zbs c;have hlk:=Zen M c;have hlr:=ZhP wf L c;rw[if_pos hc]at hlr;have hlc:=Zla (ap:=ap) (t:=t) (cs:=cs) (cb:=cb) (ys:=wf c) (M:=M) (hys c hc) λy hy=>ha c hc y hy M;have hcons:Zax wf cb (c::K) M=(if ZN M c then[]else match Zcg cb (wf c) M with | some k=>[(c,k)] | none=>[])++Zax wf cb K M:=by
   unfold Zax;rw[ZxF];cases ZN M c with
   | true=>rfl
   | false=>cases Zcg cb (wf c) M<;>rfl
  have step:∀(acc':Tb) (p5:Option B),Za5 p5=false->(∀x∈K,ZN acc' x=false)->acc'.length+K.length<100000->ZR ap [some (.hd (Zi (Zr wf L))),some (.pl (.dict (Zi (encM M)))),some (.pl (fnD t cs)),some (.ot (encM acc)),some (.pl (tupI c)),o5] =
     some (.nx [some (.hd (Zi (Zr wf L))),some (.pl (.dict (Zi (encM M)))),some (.pl (fnD t cs)),some (.ot (encM acc')),some (.pl (tupI c)),p5])->acc'++Zax wf cb K M=acc++Zax wf cb (c::K) M ->
    ∃p4 p5,Za5 p4=false/\Za5 p5=false/\Z5 4 (ZR ap) ((c::K).map tupI) [some (.hd (Zi (Zr wf L))),some (.pl (.dict (Zi (encM M)))),some (.pl (fnD t cs)),some (.ot (encM acc)),o4,o5] =
     some (.nx [some (.hd (Zi (Zr wf L))),some (.pl (.dict (Zi (encM M)))),some (.pl (fnD t cs)),some (.ot (encM (acc++Zax wf cb (c::K) M))),p4,p5]):=λacc' p5 hp5 hx hl' e eq=>by
   obtain⟨q4,q5,g4,g5,ih⟩:=ZoJ (M:=M) K acc' (some (.pl (tupI c))) p5 (λx hx=>hK x (ZwC _ hx)) (Zxm.mp hn).2 hx rfl hp5 hl';refine⟨q4,q5,g4,g5,?_⟩;rw[<-eq,<-ih,ZwD];show(match ZR ap [some (.hd (Zi (Zr wf L))),some (.pl (.dict (Zi (encM M)))),some (.pl (fnD t cs)),some (.ot (encM acc)),some (.pl (tupI c)),o5]with | some (.nx r')=>_ | some (.ct r')=>_ | some (.bk r')=>_ | some (.rt d)=>_ | none=>_)=_;rw[e]
  have hKa:∀x∈K,ZN acc x=false:=λx hx=>hacc x (ZwC _ hx);cases hq:Zj M c with
  | some k =>
   have hh:ZN M c=true:=by unfold ZN; rw[hq]; rfl
   rw[hq]at hlk;refine step acc o5 h5 hKa (by omega) ?_ (by rw[hcons,hh]; rfl);have ht:tV (Zdj (Zc 4) (Zp 1)) [some (.hd (Zi (Zr wf L))),some (.pl (.dict (Zi (encM M)))),some (.pl (fnD t cs)),some (.ot (encM acc)),some (.pl (tupI c)),o5]=some false:=by simp[dec_enc,hk,hlk]
   unfold ZR sIf;rw[ht];rfl
  | none =>
   have hh:ZN M c=false:=by unfold ZN; rw[hq]; rfl
   rw[hq]at hlk;have ht:tV (Zdj (Zc 4) (Zp 1)) [some (.hd (Zi (Zr wf L))),some (.pl (.dict (Zi (encM M)))),some (.pl (fnD t cs)),some (.ot (encM acc)),some (.pl (tupI c)),o5]=some true:=by simp[dec_enc,hk,hlk]
   have hca:Zm (Zbr ap) (Zd (Za6 (Zp 0) (Zc 4)) (Zd (Zc 1) (Zd (Zc 2) Zn))) [some (.hd (Zi (Zr wf L))),some (.pl (.dict (Zi (encM M)))),some (.pl (fnD t cs)),some (.ot (encM acc)),some (.pl (tupI c)),o5]=some (oI (Zcg cb (wf c) M)):=by
    have hg:Za6 (Zp 0) (Zc 4) [some (.hd (Zi (Zr wf L))),some (.pl (.dict (Zi (encM M)))),some (.pl (fnD t cs)),some (.ot (encM acc)),some (.pl (tupI c)),o5]=some (.list ((wf c).map wyD)):=by simp[dec_enc,hk,hlr]
    unfold Zm Zd;rw[hg];exact hlc
   have hs5:Zai 5 (Zm (Zbr ap) (Zd (Za6 (Zp 0) (Zc 4)) (Zd (Zc 1) (Zd (Zc 2) Zn)))) [some (.hd (Zi (Zr wf L))),some (.pl (.dict (Zi (encM M)))),some (.pl (fnD t cs)),some (.ot (encM acc)),some (.pl (tupI c)),o5]=some (.nx [some (.hd (Zi (Zr wf L))),some (.pl (.dict (Zi (encM M)))),some (.pl (fnD t cs)),some (.ot (encM acc)),some (.pl (tupI c)),some (.pl (oI (Zcg cb (wf c) M)))]):=by unfold Zai;rw[hca];rfl
   cases hle:Zcg cb (wf c) M with
   | none=>rw[hle]at hs5;refine step acc (some (.pl .none)) rfl hKa (by omega) ?_ (by rw[hcons,hh,hle]; rfl);unfold ZR sIf;rw[ht];dsimp only;refine ZaL (P:=λq=>q=_) hs5 ?_;rfl
   | some k =>
    rw[hle]at hs5;have hput:=Zr7 (k:=k) (hacc c (ZwA ..));have hpe:=ZmI acc c k;have hal:(encM acc).length<1000000:=by unfold encM; rw[Zwy]; omega
    refine step (acc++[(c,k)]) (some (.pl (.int k))) rfl (λx hx=>?_) (by rw[ZwR,Zyf]; omega) ?_ (by rw[hcons,hh,hle,Zx5]; rfl)
    ·rw[Zpk,hKa x hx,ZAd]
     cases hb:ZN [(c,k)] x with
     | false=>rfl
     | true=>obtain⟨k',hm⟩:=ZsY.mp hb;cases ZwQ.mp hm;exact absurd hx (Zxm.mp hn).1
    ·unfold ZR sIf
     rw[ht];dsimp only;refine ZaL (P:=λq=>q=_) hs5 ?_;have h2:tV (op2 ZfK (Zc 5) (eC .none)) [some (.hd (Zi (Zr wf L))),some (.pl (.dict (Zi (encM M)))),some (.pl (fnD t cs)),some (.ot (encM acc)),some (.pl (tupI c)),some (.pl (oI (some k)))]=some true:=rfl;rw[h2,<-hput,<-hpe];show(match Zbb (tupI c)with | some y=>_ | none=>none)=_;rw[hk];show(if(encM acc).length<big then _ else none)=_;rw[if_pos (show _<big from hal)];rfl
include hnd hlen
theorem Zlh(M:Tb):Za3 ap [.dict (Zi (Zr wf L)),.dict (Zi (encM M)),fnD t cs]=some (encM (Zax wf cb L M)):=by
 obtain⟨p4,p5,g4,g5,go⟩:=ZoJ hys ha (M:=M) L [] none none (λ_ h=>h) hnd (λ_ _=>rfl) rfl rfl (by simp; omega);have hw:ZaS 0 [some (.hd (Zi (Zr wf L))),some (.pl (.dict (Zi (encM M)))),some (.pl (fnD t cs)),some (.ot (encM [])),none,none]=some (L.map tupI):=by show(ZeA (Zi (Zr wf L))).map _=_;rw[dec_enc,<-Zkx wf L];rfl
 have hf:Zbl 4 (ZaS 0) (ZR ap) [some (.hd (Zi (Zr wf L))),some (.pl (.dict (Zi (encM M)))),some (.pl (fnD t cs)),some (.ot (encM [])),none,none]=some (.nx [some (.hd (Zi (Zr wf L))),some (.pl (.dict (Zi (encM M)))),some (.pl (fnD t cs)),some (.ot (encM (Zax wf cb L M))),p4,p5]):=by unfold Zbl;rw[hw];dsimp only;rw[if_pos (by rw[Zwy]; show _<1000000; omega),go];rfl
 have hh:Zec 0 (Zbl 4 (ZaS 0) (ZR ap)) [some (.pl (.dict (Zi (Zr wf L)))),some (.pl (.dict (Zi (encM M)))),some (.pl (fnD t cs)),some (.ot (encM [])),none,none]=some (.nx [some (.pl (.dict (Zi (Zr wf L)))),some (.pl (.dict (Zi (encM M)))),some (.pl (fnD t cs)),some (.ot (encM (Zax wf cb L M))),p4,p5]):=by
  show(match Zbl 4 (ZaS 0) (ZR ap) [some (.hd (Zi (Zr wf L))),some (.pl (.dict (Zi (encM M)))),some (.pl (fnD t cs)),some (.ot (encM [])),none,none]with | some (.nx r')=>_ | some (.rt d)=>_ | _=>none)=_;rw[hf];have a2:([none,some (B.pl (.dict (Zi (encM M)))),some (.pl (fnD t cs)),some (.ot (encM (Zax wf cb L M))),p4,p5]:HM.Env).all (λq=>!Za5 q)=true:=by simp only[ZxH,ZBa,g4,g5];rfl
  show(if([none,some (B.pl (.dict (Zi (encM M)))),some (.pl (fnD t cs)),some (.ot (encM (Zax wf cb L M))),p4,p5]:HM.Env).all (λq=>!Za5 q)=true then _ else _)=_;rw[if_pos a2];rfl
 unfold Za3 newOf;rw[if_pos (show([PyData.dict (Zi (Zr wf L)),PyData.dict (Zi (encM M)),fnD t cs]:List D).length=3 from rfl)];show(match ZY 3 fDt [some (.pl (.dict (Zi (Zr wf L)))),some (.pl (.dict (Zi (encM M)))),some (.pl (fnD t cs)),none,none,none]with | some (.nx r')=>ZiY (Zec 0 (Zbl 4 (ZaS 0) (ZR ap))) (ZmB 3) r' | _=>none)=_;show ZiY (Zec 0 (Zbl 4 (ZaS 0) (ZR ap))) (ZmB 3) [some (.pl (.dict (Zi (Zr wf L)))),some (.pl (.dict (Zi (encM M)))),some (.pl (fnD t cs)),some (.ot (encM [])),none,none]=_;unfold ZiY;rw[hh];rfl
end
end HG5
namespace HG5
open PySem HM HG HG4
theorem ZoD(ap:AP)(e0 e1 e2 e5 e7:Option B)(v:Int):∀(ms:List (List Int)) (M:Tb) (o:Option B),M.length+ms.length<100000->Za5 o=false ->
  ∃p,Za5 p=false/\Z5 6 (ZcI ap) (ms.map tupI) [e0,e1,e2,some (.ot (encM M)),some (.pl (dI v)),e5,o,e7]=some (.nx [e0,e1,e2,some (.ot (encM (Za7 ms v M))),some (.pl (dI v)),e5,p,e7])
 | [],M,o,_,h=>⟨o,h,rfl⟩
 | c::ms,M,o,hlen,_=>by
  rw[ZwM]at hlen;have hml:(encM M).length<1000000:=by unfold encM; rw[Zwy]; omega
  have hk:Zbb (tupI c)=some (Zab c):=Zbs c;have hput:=ZmI M c v;have hpl:=Zoq c v M;have e:ZcI ap [e0,e1,e2,some (.ot (encM M)),some (.pl (dI v)),e5,some (.pl (tupI c)),e7]=some (.nx [e0,e1,e2,some (.ot (encM (putD M c v))),some (.pl (dI v)),e5,some (.pl (tupI c)),e7]):=by rw[<-hput];simp[ZcI,hk,hml]
  obtain⟨p,hp,ih⟩:=ZoD ap e0 e1 e2 e5 e7 v ms (putD M c v) (some (.pl (tupI c))) (by omega) rfl;refine⟨p,hp,?_⟩;show _=some (Out.nx [e0,e1,e2,some (.ot (encM (Za7 ms v (putD M c v)))),some (.pl (dI v)),e5,p,e7]);rw[ZwD,<-ih];show(match ZcI ap [e0,e1,e2,some (.ot (encM M)),some (.pl (dI v)),e5,some (.pl (tupI c)),e7]with | some (.nx r')=>_ | some (.ct r')=>_ | some (.bk r')=>_ | some (.rt d)=>_ | none=>_)=_;rw[e]
theorem ZkD(T:Tb):((encM T).map λp=>Zxt (p.1.map Zaj))=(T.map (·.1)).map tupI:=by unfold encM;rw[ZwW,ZwW];refine Zx8 λp _=>?_;show Zxt ((p.1.map Zyd).map Zaj)=Zxt (p.1.map dI);rw[ZwW];rfl
def NdT(T:Tb):Prop:=(T.map (·.1)).Nodup
theorem ZoC{T:Tb}(h:NdT T){p:List Int × Int}(hp:p∈T):Zj T p.1=some p.2:=by
 induction T with
 | nil=>simp at hp
 | cons q T ih =>
  obtain⟨c,k⟩:=q;rw[Zbx];unfold NdT at h;rw[ZwD,Zxm]at h;rcases ZwT.mp hp with e | e
  ·subst e; rw[if_pos rfl]
  ·rw[if_neg λz=>h.1 (by rw[z]; exact ZwK.mpr ⟨p,e,rfl⟩)]
   exact ih h.2 e
theorem Zun{wf:Wf}{cb:Cb}{M:Tb}:∀{L:List (List Int)},L.Nodup->NdT (Zax wf cb L M):=by
 intro L h;unfold NdT;have:((Zax wf cb L M).map (·.1)).Sublist L:=by
  unfold Zax;rw[List.map_filterMap]
  clear h
  induction L with
  | nil=>exact .slnil
  | cons c L ih =>
   rw[ZxF];cases ZN M c with
   | true=>exact ih.cons c
   | false=>cases Zcg cb (wf c) M with
    | none=>exact ih.cons c
    | some k=>exact ih.cons₂ c
 exact h.sublist this
theorem Zos{wf:Wf}{cb:Cb}{L:List (List Int)}{M:Tb}:(Zax wf cb L M).length<=L.length:=ZAC ..
section
variable{T:Tb}(hT:NdT T)(hl:T.length<100000)
include hT hl
theorem ZqJ(r:HM.Env)(h7:r[7]?=some (some (.hd (Zi (encM T))))):ZO (ZaS 7) Zam (Za6 (Zp 8) (Zc 0)) r=some (.ol ((T.map (·.2)).map dI)):=by
 have hw:ZaS 7 r=some ((T.map (·.1)).map tupI):=by unfold ZaS;rw[h7];show(ZeA (Zi (encM T))).map _=_;rw[dec_enc,<-ZkD T];rfl
 have hg:ZaA Zam (Za6 (Zp 8) (Zc 0)) r ((T.map (·.1)).map tupI)=some ((T.map (·.2)).map dI):=by rw[ZwW,ZwW];have:=Zbc (e:=Za6 (Zp 8) (Zc 0)) (r:=r) (λp:List Int × Int=>tupI p.1) (λp=>dI p.2) T (λp hp=>by have hk:Zbb (tupI p.1)=some (Zab p.1):=Zbs p.1;have hlk:=Zen T p.1;rw[ZoC hT hp]at hlk;simp[h7,dec_enc,hk,hlk]);exact this
 unfold ZO;rw[hw];dsimp only;rw[if_pos (by rw[Zwy,Zwy]; show _<1000000; omega),hg];rfl
theorem ZqN{k:Option Int}(r:HM.Env)(h7:r[7]?=some (some (.hd (Zi (encM T)))))(h4:r[4]?=some (some (.pl (oI k)))):ZO (ZaS 7) (tV (op2 gEq (Za6 (Zp 8) (Zc 0)) (Zc 5))) (Zc 0) r=some (.ol (((T.filter λp=>some p.2==k).map (·.1)).map tupI)):=by
 have hw:ZaS 7 r=some ((T.map (·.1)).map tupI):=by unfold ZaS;rw[h7];show(ZeA (Zi (encM T))).map _=_;rw[dec_enc,<-ZkD T];rfl
 have hg:ZaA (tV (op2 gEq (Za6 (Zp 8) (Zc 0)) (Zc 5))) (Zc 0) r ((T.map (·.1)).map tupI)=some (((T.filter λp=>some p.2==k).map (·.1)).map tupI):=by
  rw[ZwW,ZwW];have:=Zb0 (c:=tV (op2 gEq (Za6 (Zp 8) (Zc 0)) (Zc 5))) (e:=Zc 0) (r:=r) (λp:List Int × Int=>tupI p.1) (λp=>some p.2==k) (λp=>tupI p.1) T (λp hp=>by
   have hk:Zbb (tupI p.1)=some (Zab p.1):=Zbs p.1;have hlk:=Zen T p.1;rw[ZoC hT hp]at hlk;have h1:Za6 (Zp 8) (Zc 0) (some (.pl (tupI p.1))::r)=some (.int p.2):=by simp[h7,dec_enc,hk,hlk]
   have h2:Zc 5 (some (B.pl (tupI p.1))::r)=some (oI k):=by simp[h4]
   unfold tV op2;rw[h1,h2];cases k with
   | none=>show(match gEq (.int p.2) .none with | some (.bool b)=>some b | _=>none)=_;rw[ZhV (Zfv 1 _) (Ztm 1) (by decide) (by decide) (by simp)];rfl
   | some k =>
    show(match gEq (.int p.2) (.int k)with | some (.bool b)=>some b | _=>none)=_
    by_cases e:p.2=k
    ·rw[e,ZgQ (Zfv 1 _) (by decide)]
     simp
    ·rw[ZhV (Zfv 1 _) (Zfv 1 _) (by decide) (by decide) (by simpa using e)]
     simp[e]) (λp _ _=>by simp)
  exact this
 unfold ZO;rw[hw];dsimp only;rw[if_pos (by rw[Zwy,Zwy]; show _<1000000; omega),hg];rfl
end
section
variable{w:Wk}(hv:Wk.V w){ap:AP}{wf:Wf}{L:List (List Int)}{t:Nat}{cs:List D}{cb:Cb}(hnd:L.Nodup)(hlen:L.length<=128)(hcr:∀c∈L,Cr w.many c)(hys:∀c∈L,(wf c).length<1000)(ha:∀c∈L,∀y∈wf c,∀M,ap t cs [wyD y,.dict (Zi (encM M))]=some (oI (cb y M)))
include hnd hlen hys ha
theorem ZpN{M:Tb}{k:Int}{found:List (List Int)}{o6 o7:Option B}(h6:Za5 o6=false)(h7:Za5 o7=false)(hf:found.length<=128)(hM:M.length<50000) :
  ∃p6 p7,Za5 p6=false/\Za5 p7=false/\ZcJ ap [some (.pl w.d),some (.pl (.dict (Zi (Zr wf L)))),some (.pl (fnD t cs)),some (.ot (encM M)),some (.pl (dI k)),some (.ol (found.map tupI)),o6,o7] =
   some (.nx [some (.pl w.d),some (.pl (.dict (Zi (Zr wf L)))),some (.pl (fnD t cs)),some (.ot (encM (Za7 found k M))),some (.pl (oI (ZbK (Zax wf cb L (Za7 found k M))))),some (.ol ((Zew (Zax wf cb L (Za7 found k M))).map tupI)),p6,p7]):=by
 obtain⟨p6,hp6,e1⟩:=ZoD ap (some (.pl w.d)) (some (.pl (.dict (Zi (Zr wf L))))) (some (.pl (fnD t cs))) (some (.pl (.list (found.map tupI)))) o7 k found M o6 (by omega) h6;generalize hM':Za7 found k M=M' at *;have hnx:=Zlh hnd hlen hys ha M';have hT:NdT (Zax wf cb L M'):=Zun hnd;have hTl:(Zax wf cb L M').length<100000:=by have:=Zos (wf:=wf) (cb:=cb) (L:=L) (M:=M'); omega
 generalize hO:Zax wf cb L M'=T at *;refine⟨p6,some (.pl (.dict (Zi (encM T)))),hp6,rfl,?_⟩;unfold ZcJ;refine ZaL (P:=λq=>q=_) (r':=[some (.pl w.d),some (.pl (.dict (Zi (Zr wf L)))),some (.pl (fnD t cs)),some (.ot (encM M')),some (.pl (dI k)),some (.pl (.list (found.map tupI))),p6,o7]) ?_ ?_
 ·unfold Zh1 Zjm Zbl
  have hfb:found.length<1000000:=by omega
  simp[hfb];exact e1
 ·refine ZaL (P:=λq=>q=_) (r':=[some (.pl w.d),some (.pl (.dict (Zi (Zr wf L)))),some (.pl (fnD t cs)),some (.ot (encM M')),some (.pl (dI k)),some (.pl (.list (found.map tupI))),p6,some (.ot (encM T))]) ?_ ?_
  ·have hcl:Zia (Za3 ap) (Zd (Zc 1) (Zd (Zpg (Zp 3)) (Zd (Zc 2) Zn))) [some (.pl w.d),some (.pl (.dict (Zi (Zr wf L)))),some (.pl (fnD t cs)),some (.ot (encM M')),some (.pl (dI k)),some (.pl (.list (found.map tupI))),p6,o7]=some (.ot (encM T)):=by
    unfold Zia;show(match Za3 ap [.dict (Zi (Zr wf L)),.dict (Zi (encM M')),fnD t cs]with | some kvs=>if kvs.all (λp=>ZjK p.2)then some (B.ot kvs)else none | none=>none)=_;rw[hnx];have hfl:(encM T).all (λp=>ZjK p.2)=true:=by unfold encM;rw[List.all_map];exact ZwF.mpr λp _=>rfl
    dsimp only;rw[if_pos hfl]
   unfold ZY;rw[hcl];rfl
  ·have a1:∀x4 x5:D,([some (B.pl w.d),some (.pl (.dict (Zi (Zr wf L)))),some (.pl (fnD t cs)),some (.ot (encM M')),some (.pl x4),some (.pl x5),p6,some (.pl (.dict (Zi (encM T))))]:HM.Env).all (λq=>!Za5 q)=true:=λx4 x5=>by
    simp only[ZxH,ZBa,hp6];rfl
   have a2:∀x4:D,∀x5:B,Za5 (some x5)=false->([some (B.pl w.d),some (.pl (.dict (Zi (Zr wf L)))),some (.pl (fnD t cs)),some (.ot (encM M')),some (.pl x4),some x5,p6,none]:HM.Env).all (λq=>!Za5 q)=true:=λx4 x5 hx=>by simp only[ZxH,ZBa,hp6,hx];rfl
   have hv1:=ZqJ hT hTl [some (.pl w.d),some (.pl (.dict (Zi (Zr wf L)))),some (.pl (fnD t cs)),some (.ot (encM M')),some (.pl (dI k)),some (.pl (.list (found.map tupI))),p6,some (.hd (Zi (encM T)))] rfl;have hm1:Zai 4 (ZeO (ZO (ZaS 7) Zam (Za6 (Zp 8) (Zc 0)))) [some (.pl w.d),some (.pl (.dict (Zi (Zr wf L)))),some (.pl (fnD t cs)),some (.ot (encM M')),some (.pl (dI k)),some (.pl (.list (found.map tupI))),p6,some (.hd (Zi (encM T)))]=some (.nx [some (.pl w.d),some (.pl (.dict (Zi (Zr wf L)))),some (.pl (fnD t cs)),some (.ot (encM M')),some (.pl (oI (ZbK T))),some (.pl (.list (found.map tupI))),p6,some (.hd (Zi (encM T)))]):=by
    have:ZeO (ZO (ZaS 7) Zam (Za6 (Zp 8) (Zc 0))) [some (.pl w.d),some (.pl (.dict (Zi (Zr wf L)))),some (.pl (fnD t cs)),some (.ot (encM M')),some (.pl (dI k)),some (.pl (.list (found.map tupI))),p6,some (.hd (Zi (encM T)))]=some (oI (ZbK T)):=by unfold ZeO;rw[hv1];show(match Zat ((T.map (·.2)).map dI)with | some ns=>some (match ns.min? with | some i=>Zxk i | none=>.none) | none=>none)=_;rw[ZcS];show some (match(T.map (·.2)).min? with | some i=>Zxk i | none=>.none)=_;unfold ZbK;cases(T.map (·.2)).min?<;>rfl
    unfold Zai;rw[this];rfl
   refine ZaL (P:=λq=>q=_) (r':=[some (.pl w.d),some (.pl (.dict (Zi (Zr wf L)))),some (.pl (fnD t cs)),some (.ot (encM M')),some (.pl (oI (ZbK T))),some (.pl (.list (found.map tupI))),p6,some (.pl (.dict (Zi (encM T))))]) ?_ ?_
   ·show(if([some (B.pl w.d),some (.pl (.dict (Zi (Zr wf L)))),some (.pl (fnD t cs)),some (.ot (encM M')),some (.pl (dI k)),some (.pl (.list (found.map tupI))),p6,some (.pl (.dict (Zi (encM T))))]:HM.Env).all (λq=>!Za5 q)=true then _ else _)=_
    rw[if_pos (a1 _ _)];show(match Zai 4 _ [some (.pl w.d),some (.pl (.dict (Zi (Zr wf L)))),some (.pl (fnD t cs)),some (.ot (encM M')),some (.pl (dI k)),some (.pl (.list (found.map tupI))),p6,some (.hd (Zi (encM T)))]with | some (.nx r')=>_ | some (.rt d)=>_ | _=>none)=_;rw[hm1];show(if([some (B.pl w.d),some (.pl (.dict (Zi (Zr wf L)))),some (.pl (fnD t cs)),some (.ot (encM M')),some (.pl (oI (ZbK T))),some (.pl (.list (found.map tupI))),p6,none]:HM.Env).all (λq=>!Za5 q)=true then _ else _)=_;rw[if_pos (a2 _ _ rfl)];rfl
   ·have hk1:=ZqN hT hTl (k:=ZbK T) [some (.pl w.d),some (.pl (.dict (Zi (Zr wf L)))),some (.pl (fnD t cs)),some (.ot (encM M')),some (.pl (oI (ZbK T))),some (.pl (.list (found.map tupI))),p6,some (.hd (Zi (encM T)))] rfl rfl
    have hm2:ZY 5 (ZO (ZaS 7) (tV (op2 gEq (Za6 (Zp 8) (Zc 0)) (Zc 5))) (Zc 0)) [some (.pl w.d),some (.pl (.dict (Zi (Zr wf L)))),some (.pl (fnD t cs)),some (.ot (encM M')),some (.pl (oI (ZbK T))),some (.pl (.list (found.map tupI))),p6,some (.hd (Zi (encM T)))]=some (.nx [some (.pl w.d),some (.pl (.dict (Zi (Zr wf L)))),some (.pl (fnD t cs)),some (.ot (encM M')),some (.pl (oI (ZbK T))),some (.ol ((Zew T).map tupI)),p6,some (.hd (Zi (encM T)))]):=by unfold ZY;rw[hk1];rfl
    show(if([some (B.pl w.d),some (.pl (.dict (Zi (Zr wf L)))),some (.pl (fnD t cs)),some (.ot (encM M')),some (.pl (oI (ZbK T))),some (.pl (.list (found.map tupI))),p6,some (.pl (.dict (Zi (encM T))))]:HM.Env).all (λq=>!Za5 q)=true then _ else _)=_;rw[if_pos (a1 _ _)];show(match ZY 5 _ [some (.pl w.d),some (.pl (.dict (Zi (Zr wf L)))),some (.pl (fnD t cs)),some (.ot (encM M')),some (.pl (oI (ZbK T))),some (.pl (.list (found.map tupI))),p6,some (.hd (Zi (encM T)))]with | some (.nx r')=>_ | some (.rt d)=>_ | _=>none)=_;rw[hm2];show(if([some (B.pl w.d),some (.pl (.dict (Zi (Zr wf L)))),some (.pl (fnD t cs)),some (.ot (encM M')),some (.pl (oI (ZbK T))),some (.ol ((Zew T).map tupI)),p6,none]:HM.Env).all (λq=>!Za5 q)=true then _ else _)=_;rw[if_pos (a2 _ _ rfl)];rfl
omit hnd hlen hys ha in
theorem ZrA{M:Tb}{c:List Int}(h:c∈Zew (Zax wf cb L M)):c∈L/\ZN M c=false:=by obtain⟨⟨c',k⟩,h1,rfl⟩:=ZwK.mp h;have:=Ztu.mp (Zxq.mp h1).1;exact⟨this.1,this.2.1⟩
omit hnd hlen hys ha in
theorem ZqT{T:Tb}(h:Zew T≠[]):∃k,ZbK T=some k:=by
 cases hq:ZbK T with
 | some k=>exact⟨k,rfl⟩
 | none=>refine absurd ?_ h;unfold ZbK at hq;rw[ZAW]at hq;have:=List.map_eq_nil_iff.mp hq;subst this;rfl
theorem ZhS:∀(fuel n:Nat) (M:Tb) (k:Option Int) (found:List (List Int)) (o6 o7:Option B),Za5 o6=false->Za5 o7=false->(∀c∈found,c∈L/\ZN M c=false)->found.length<=128->M.length<=128*n->n<=(L.filter λc=>ZN M c).length->130<=n+fuel->(found≠[]->∃i,k=some i) ->
  ∃R p4 p5 p6 p7,Zbq (tV (op2 gGt (Zbn (Zp 5)) (eC (.int 0)))) (ZcJ ap) fuel [some (.pl w.d),some (.pl (.dict (Zi (Zr wf L)))),some (.pl (fnD t cs)),some (.ot (encM M)),some (.pl (oI k)),some (.ol (found.map tupI)),o6,o7]=some (.nx [some (.pl w.d),some (.pl (.dict (Zi (Zr wf L)))),some (.pl (fnD t cs)),some (.ot (encM R)),p4,p5,p6,p7])/\ZiV wf cb L M k found R
 | 0,n,M,k,found,o6,o7,_,_,_,_,_,ht,hfu,_=>by have:=Zyh (λc=>ZN M c) L;omega
 | fuel+1,n,M,k,found,o6,o7,h6,h7,hfo,hfl,hM,ht,hfu,hks=>by
  have htl:=Zyh (λc=>ZN M c) L
  by_cases hf:found=[]
  ·subst hf
   refine⟨M,some (.pl (oI k)),some (.ol []),o6,o7,?_,.done⟩;unfold Zbq;have e:(tV (op2 gGt (Zbn (Zp 5)) (eC (.int 0)))) [some (.pl w.d),some (.pl (.dict (Zi (Zr wf L)))),some (.pl (fnD t cs)),some (.ot (encM M)),some (.pl (oI k)),some (.ol (([]:List (List Int)).map tupI)),o6,o7]=some false:=by simp
   rw[e];rfl
  ·obtain⟨i,rfl⟩:=hks hf
   have e:(tV (op2 gGt (Zbn (Zp 5)) (eC (.int 0)))) [some (.pl w.d),some (.pl (.dict (Zi (Zr wf L)))),some (.pl (fnD t cs)),some (.ot (encM M)),some (.pl (oI (some i))),some (.ol (found.map tupI)),o6,o7]=some true:=by have:0<found.length:=ZzZ.mpr hf;simp;omega
   obtain⟨p6,p7,g6,g7,ht1⟩:=ZpN hnd hlen hys ha (w:=w) (M:=M) (k:=i) (found:=found) h6 h7 hfl (by omega);have hml:(Za7 found i M).length<=M.length+found.length:=Zks i found M;have hlk:∀k,Zj (Za7 found i M) k=if k∈found then some i else Zj M k:=λk=>ZfI i k found M
   have hcnt:(L.filter λc=>ZN M c).length<(L.filter λc=>ZN (Za7 found i M) c).length:=by
    refine Zhi (λx _ hx=>?_) ?_
    ·unfold ZN at hx ⊢
     rw[hlk];split
     ·rfl
     ·exact hx
    ·obtain⟨c,cs,rfl⟩:=ZAi hf
     refine⟨c,(hfo c (ZwA ..)).1,?_,(hfo c (ZwA ..)).2⟩;unfold ZN;rw[hlk,if_pos (ZwA ..)];rfl
   have hol:(Zew (Zax wf cb L (Za7 found i M))).length<=128:=by
    have h1:(Zew (Zax wf cb L (Za7 found i M))).length<=(Zax wf cb L (Za7 found i M)).length:=by unfold Zew;rw[Zwy];exact Zyh ..
    have h2:=Zos (wf:=wf) (cb:=cb) (L:=L) (M:=Za7 found i M);omega
   obtain⟨R,q4,q5,q6,q7,g,J⟩:=ZhS fuel (n+1) (Za7 found i M) (ZbK (Zax wf cb L (Za7 found i M))) (Zew (Zax wf cb L (Za7 found i M))) p6 p7 g6 g7 (λc hc=>ZrA hc) hol (by omega) (by omega) (by omega) ZqT;refine⟨R,q4,q5,q6,q7,?_,.step hf J⟩;unfold Zbq;rw[e];dsimp only;show(match ZcJ ap [some (.pl w.d),some (.pl (.dict (Zi (Zr wf L)))),some (.pl (fnD t cs)),some (.ot (encM M)),some (.pl (dI i)),some (.ol (found.map tupI)),o6,o7]with | some (.nx r')=>_ | some (.ct r')=>_ | some (.bk r')=>_ | some (.rt d)=>_ | none=>_)=_;rw[ht1];exact g
include hv hcr
theorem Zn0:∃R,Zcu ap [w.d,.dict (Zi (Zr wf L)),fnD t cs]=some (.dict (Zi (encM R)))/\ZiV wf cb L [] (some 0) (L.filter λc=>ZV w c) R:=by
 have hlb:L.length<1000000:=by omega
 have hfl:(L.filter λc=>ZV w c).length<=128:=Zxs (Zyh _ _) hlen;obtain⟨R,p4,p5,p6,p7,g,J⟩:=ZhS hnd hlen hys ha (w:=w) 100000 0 [] (some 0) (L.filter λc=>ZV w c) none none rfl rfl (λc hc=>⟨(Zxq.mp hc).1,rfl⟩) hfl (by simp) (ZxR _) (by omega) λ_=>⟨0,rfl⟩;refine⟨R,?_,J⟩;have hw:ZaS 1 [some (.pl w.d),some (.hd (Zi (Zr wf L))),some (.pl (fnD t cs)),some (.ot (encM [])),some (.pl (dI 0)),none,none,none]=some (L.map tupI):=by show(ZeA (Zi (Zr wf L))).map _=_;rw[dec_enc,<-Zkx wf L];rfl
 have hgo:∀r:HM.Env,r[0]?=some (some (.pl w.d))->ZaA (tV (Zm Zbe (Zd (Zc 1) (Zd (Zc 0) Zn)))) (Zc 0) r (L.map tupI)=some ((L.filter λc=>ZV w c).map tupI):=λr r0=>by
  rw[Zb0 tupI (λc=>ZV w c) tupI]
  ·intro c hc
   have:=Zoa (w:=w) (c:=c) (by have:=(hcr c hc).len; have:=hv.m2; omega);simp[r0,this]
  ·intro c _ _
   simp
 have hc:ZO (ZaS 1) (tV (Zm Zbe (Zd (Zc 1) (Zd (Zc 0) Zn)))) (Zc 0) [some (.pl w.d),some (.hd (Zi (Zr wf L))),some (.pl (fnD t cs)),some (.ot (encM [])),some (.pl (dI 0)),none,none,none]=some (.ol ((L.filter λc=>ZV w c).map tupI)):=by unfold ZO;rw[hw];dsimp only;rw[if_pos (by rw[Zwy]; exact hlb),hgo _ rfl];rfl
 have hh:Zec 1 (ZY 5 (ZO (ZaS 1) (tV (Zm Zbe (Zd (Zc 1) (Zd (Zc 0) Zn)))) (Zc 0))) [some (.pl w.d),some (.pl (.dict (Zi (Zr wf L)))),some (.pl (fnD t cs)),some (.ot (encM [])),some (.pl (dI 0)),none,none,none]=some (.nx [some (.pl w.d),some (.pl (.dict (Zi (Zr wf L)))),some (.pl (fnD t cs)),some (.ot (encM [])),some (.pl (dI 0)),some (.ol ((L.filter λc=>ZV w c).map tupI)),none,none]):=by show(match ZY 5 _ [some (.pl w.d),some (.hd (Zi (Zr wf L))),some (.pl (fnD t cs)),some (.ot (encM [])),some (.pl (dI 0)),none,none,none]with | some (.nx r')=>_ | some (.rt d)=>_ | _=>none)=_;unfold ZY;rw[hc];rfl
 show Za4 (Zd7 ap [some (.pl w.d),some (.pl (.dict (Zi (Zr wf L)))),some (.pl (fnD t cs)),none,none,none,none,none])=_;have e:Zd7 ap [some (.pl w.d),some (.pl (.dict (Zi (Zr wf L)))),some (.pl (fnD t cs)),none,none,none,none,none]=some (.rt (.dict (Zi (encM R)))):=by unfold Zd7;refine ZaL (P:=λq=>q=_) (r':=[some (.pl w.d),some (.pl (.dict (Zi (Zr wf L)))),some (.pl (fnD t cs)),some (.ot (encM [])),none,none,none,none]) rfl ?_;refine ZaL (P:=λq=>q=_) (r':=[some (.pl w.d),some (.pl (.dict (Zi (Zr wf L)))),some (.pl (fnD t cs)),some (.ot (encM [])),some (.pl (dI 0)),none,none,none]) rfl ?_;refine ZaL (P:=λq=>q=_) hh ?_;refine ZaL (P:=λq=>q=_) g ?_;simp
 rw[e];rfl
end
end HG5
namespace HG5
open PySem HM HG
def ap:AP:=λt cs ds=>match t with
 | 0=>if cs.isEmpty then Zcv ds else none
 | 1=>Zjx 1 2 (Zm ZaG (Zd (Zc 1) (Zd (Zc 2) (Zd (Zc 0) Zn)))) cs ds
 | _=>none
end HG5
namespace HG5
open PySem HM HG HG4
inductive Zmg(w:Wk)(ls b:List Int):List Int->Prop where
 | beg {p:List Int} (h:p∈ZD w ls b):Zmg w ls b p
 | step {c p:List Int} {d:Nat} (r:Zmg w ls b c) (hd:d<w.deeds.length) (hc:ZaN w c d=true) (h:p∈ZD w ls (Zay w c d)):Zmg w ls b p
def Zj4(w:Wk)(ls c:List Int)(d:Int):Wy:=(dI d,ZaP w ls (Zay w c d))
def wfV(w:Wk)(ls:List Int):Wf:=λc=>(doV w c).map (Zj4 w ls c)
abbrev Zpq(w:Wk)(ls:List Int)(L:List (List Int)):List (List Ky × D):=Zr (wfV w ls) L
theorem Zq6(w:Wk)(ls c:List Int):Zlo w ls c=.list ((wfV w ls c).map wyD):=by unfold Zlo wfV;rw[ZwW];rfl
theorem Zwk(w:Wk)(ls c:List Int)(d:Int):wyP (Zj4 w ls c d)=ZD w ls (Zay w c d):=rfl
abbrev OkC(w:Wk)(c:List Int):Prop:=Cr w.many c/\c≠[]
structure ApD(ap:AP):Prop where
 d0:∀ds,ap 0 [] ds=Zcv ds
 l1:∀cs ds,ap 1 cs ds=Zjx 1 2 (Zm ZaG (Zd (Zc 1) (Zd (Zc 2) (Zd (Zc 0) Zn)))) cs ds
section
variable{w:Wk}(hv:Wk.V w)(h7:w.many<=7){ls:List Int}(hl:Cr w.looks.length ls)
include hv h7
theorem Zvf:Zpz (wfV w ls) (OkC w):=by
 refine⟨λc hc y hy p hp=>?_,λc hc=>?_,λc hc y hy=>?_,λC hn hC=>?_⟩
 ·obtain⟨d,hd,rfl⟩:=ZwK.mp hy
  obtain⟨d0,d1,_⟩:=Zd6 hd;have:=Zij (ZeS hv hc.1 d0 d1) (show p∈ZD w ls (Zay w c d) from hp);exact⟨this.1,this.2.1⟩
 ·unfold wfV
  rw[Zwy];have:=Zkl w c;have:=hv.d2;omega
 ·obtain⟨d,hd,rfl⟩:=ZwK.mp hy
  obtain⟨d0,d1,_⟩:=Zd6 hd;have:=split_len (w:=w) (ls:=ls) (c:=Zay w c d);have:=(ZeS hv hc.1 d0 d1).len;show(ZaP w ls (Zay w c d)).length<=8;omega
 ·have h1:=ZpD hn λc hc=>(hC c hc).1
  have h2:2 ^ w.many<=2 ^ 7:=Nat.pow_le_pow_right (by decide) h7;have h3:2 ^ 7=128:=rfl;omega
omit hv h7 in
theorem ZuJ{b c:List Int}(r:Zj3 (wfV w ls) (ZD w ls b) c):Zmg w ls b c:=by
 induction r with
 | beg h=>exact .beg h
 | @step c p y _ hy hp ih=>obtain⟨d,hd,rfl⟩:=ZwK.mp hy;obtain⟨d0,d1,d2⟩:=Zd6 hd;have e:((d.toNat:Nat):Int)=d:=ZzY d0;exact .step (d:=d.toNat) ih (by omega) (by rw[e]; exact d2) (by rw[e]; exact hp)
include hl
theorem ZjV{ap:AP}(A:ApD ap){b:List Int}(hb:Cr w.many b):∃L,Zb6 ap [w.d,tupI ls,tupI b]=some (.dict (Zi (Zpq w ls L)))/\L.Nodup/\L.length<=128/\(∀c∈L,Cr w.many c/\c≠[])/\(∀c∈L,Zmg w ls b c)/\Zfj w ls L/\∀p∈ZD w ls b,p∈L:=by
 have hp:=Zic hv hl hb;have hsl:=split_len (w:=w) (ls:=ls) (c:=b);have hbl:=hb.len;have hci:=Zfw (ZaP w ls b) (by omega);have hpl:(ZD w ls b).length<=100:=by unfold ZD; rw[Zwy]; omega
 have O:=Zvf hv h7 (ls:=ls);have ha:∀c,OkC w c->ap 1 [w.d,tupI ls] [tupI c]=some (.list ((wfV w ls c).map wyD)):=λc hc=>by rw[A.l1,<-Zq6];unfold Zjx;rw[if_pos ⟨rfl,rfl,by rw[ZxH,Zdk 19]; rfl⟩];exact Zma hv hl hc.1
 obtain⟨L,e,J⟩:=Zpn O ha (B:=ZD w ls b) (λc h=>⟨(Zij hb h).1,(Zij hb h).2.1⟩) hpl;refine⟨L,?_,J.nd,O.cs L J.nd J.cr,J.cr,λc hc=>ZuJ (J.rc c hc),λc hc d hd can p hp=>?_,λp hp=>?_⟩
 ·show Za4 (ZdP ap [some (.pl w.d),some (.pl (tupI ls)),some (.pl (tupI b))])=_
  have h1:Zm ZH (Zd (Zm ZaO (Zd (Zc 0) (Zd (Zc 1) (Zd (Zc 2) Zn)))) Zn) [some (.pl w.d),some (.pl (tupI ls)),some (.pl (tupI b))]=some (.list ((ZD w ls b).map tupI)):=by unfold Zm Zd;show(match(match ZaO [w.d,tupI ls,tupI b]with | some x=>(Zn _).map (x::·) | none=>none)with | some ds=>ZH ds | none=>none)=_;rw[hp];exact hci
  have hn1:[w.d,tupI ls].all (noF 20)=true:=by rw[ZxH,ZxH,Zvm,Zdk 19];rfl
  have hn2:noF 20 (.dict (Zi (Zpq w ls L)))=true:=Zu5 (n:=14) λc _ y hy=>by obtain⟨d,_,rfl⟩:=ZwK.mp hy;exact ZsX _ _
  unfold ZdP ZB Zg7;rw[h1];show Za4 (Zym Out.rt (if[w.d,tupI ls].all (noF 20)=true then(match Zbp ap [.list ((ZD w ls b).map tupI),fnD 1 [w.d,tupI ls]]with | some d=>if noF 20 d=true then some d else none | none=>none)else none))=_;rw[if_pos hn1,e];dsimp only;rw[if_pos hn2];rfl
 ·rcases J.cl c hc (Zj4 w ls c d) (ZwK.mpr ⟨(d:Int),Zok hd can,rfl⟩) p hp with h | h
  ·exact h
  ·simp at h
 ·rcases J.bg p hp with h | h
  ·exact h
  ·simp at h
end
def Zcc(ps:List (List Int))(M:Tb):Option Int:=if ps.all (ZN M)then(ps.filterMap λp=>Zj M p).max? else none
def cbD:Cb:=λy M=>(Zcc (wyP y) M).map (·+1)
theorem Zhg{α β:Type}{f:α->Option β}:∀{xs:List α},((xs.filterMap f).length=xs.length↔xs.all (λx=>(f x).isSome)=true)
 | []=>by simp
 | x::xs=>by
  have ih:=Zhg (f:=f) (xs:=xs);have hl:(xs.filterMap f).length<=xs.length:=ZAC f xs;rw[ZxF,ZxH];cases h:f x with
  | none=>simp; omega
  | some y=>simpa using ih
theorem Zfr{g:Gs}(hg:g.length<1000)(h0:g≠[]){M:Tb}:Z4 [.list (g.map Zal),.dict (Zi (encM M))]=some (oI (Zcc (g.map (·.2)) M)):=by
 have hci:=Zfw g (by omega);have hlen:((g.map (·.2)).map tupI).length<big:=by rw[Zwy,Zwy]; show _<1000000; omega
 have h1:Zav (bOf (Zm ZH (Zd (Zc 0) Zn))) [some (.pl (.list (g.map Zal))),some (.pl (.dict (Zi (encM M)))),none]=some ((g.map (·.2)).map tupI):=by unfold Zav bOf;show(match Zym B.pl (ZH [.list (g.map Zal)])with | some x=>ZcA x | none=>none)=_;rw[hci];rfl
 have h2:ZaA (tV (Zm2 (Zc 0) (Zp 2))) (Za6 (Zp 2) (Zc 0)) [some (.pl (.list (g.map Zal))),some (.pl (.dict (Zi (encM M)))),none] ((g.map (·.2)).map tupI)=some (((g.map (·.2)).filterMap λp=>Zj M p).map dI):=by
  rw[Zb0 tupI (ZN M) (λp=>dI ((Zj M p).getD 0))]
  ·congr 1
   generalize g.map (·.2)=ps
   induction ps with
   | nil=>rfl
   | cons p ps ih =>
    rw[Zys,ZxF];unfold ZN at ih ⊢;cases hq:Zj M p with
    | none=>rw[if_neg (by simp)]; exact ih
    | some k=>rw[if_pos (by rfl),ZwD,ZwD,ih,hq]; rfl
  ·intro p _
   have hk:Zbb (tupI p)=some (Zab p):=Zbs p;simp[dec_enc,hk,Zen,ZN]
  ·intro p _ hp
   have hk:Zbb (tupI p)=some (Zab p):=Zbs p;unfold ZN at hp;obtain⟨k,hk'⟩:=Zxi.mp hp;have hlk:=Zen M p;rw[hk']at hlk;simp[dec_enc,hk,hlk,hk']
 have hfl:=Zhg (f:=λp=>Zj M p) (xs:=g.map (·.2));rw[Zwy]at hfl;have hall:(g.map (·.2)).all (λx=>(Zj M x).isSome)=(g.map (·.2)).all (ZN M):=rfl;rw[hall]at hfl;generalize hN:(g.map (·.2)).filterMap (λp=>Zj M p)=ns at *;show Za4 (Zda [some (.pl (.list (g.map Zal))),some (.pl (.dict (Zi (encM M)))),none])=_;unfold Zda;refine ZaL (P:=λq=>Za4 q=_) (r':=[some (.pl (.list (g.map Zal))),some (.pl (.dict (Zi (encM M)))),some (.ol (ns.map dI))]) ?_ ?_
 ·unfold ZY ZO
  rw[h1];dsimp only;rw[if_pos hlen,h2];rfl
 ·have h3:op2 gEq (Zbn (Zp 2)) (Zbn (Zp 0)) [some (.pl (.list (g.map Zal))),some (.pl (.dict (Zi (encM M)))),some (.ol (ns.map dI))]=some (.bool (decide (ns.length=g.length))):=by
   show gEq (.int ((ns.map dI).length:Int)) (.int ((g.map Zal).length:Int))=_;rw[Zwy,Zwy]
   by_cases e:ns.length=g.length
   ·rw[e,ZgQ (Zfv 1 _) (by decide)]
    simp
   ·rw[ZhV (Zfv 1 _) (Zfv 1 _) (by decide) (by decide) (λz=>e (by injection z with z; omega))]
    simp[e]
  have h4:Zjv (Zp 2) [some (.pl (.list (g.map Zal))),some (.pl (.dict (Zi (encM M)))),some (.ol (ns.map dI))]=ns.max?.map λi=>Zxk i:=by show(match Zat (ns.map dI)with | some ns=>ns.max?.map λi=>Zxk i | none=>none)=_;rw[ZcS]
  unfold ZB eIf tV;rw[h3];unfold Zcc;rw[hN]
  by_cases e:ns.length=g.length
  ·rw[if_pos (hfl.mp e),decide_eq_true e]
   show Za4 (Zym Out.rt (Zjv (Zp 2) _))=_;rw[h4];have hne:ns≠[]:=λz=>by rw[z]at e;exact h0 (ZyX e.symm)
   cases hq:ns.max? with
   | none=>rw[ZAX]at hq; exact absurd hq hne
   | some m=>rfl
  ·rw[if_neg λz=>e (hfl.mpr z),decide_eq_false e]
   rfl
theorem Zn1{y:Wy}(hy:y.2.length<1000)(h0:y.2≠[])(M:Tb):Zcv [wyD y,.dict (Zi (encM M))]=some (oI (cbD y M)):=by
 have h:=Zfr hy h0 (M:=M);have h':Z4 [.list (y.2.map Zal),.dict (Zi (encM M))]=some (oI (Zcc (wyP y) M)):=h;show Za4 (ZfL [some (.pl (wyD y)),some (.pl (.dict (Zi (encM M)))),none])=_;unfold ZfL cbD;refine ZaL (P:=λq=>Za4 q=_) (r':=[some (.pl (wyD y)),some (.pl (.dict (Zi (encM M)))),some (.pl (oI (Zcc (wyP y) M)))]) ?_ ?_
 ·unfold Zai Zm
  show Zym _ (Z4 [.list (y.2.map Zal),.dict (Zi (encM M))])=_;rw[h'];rfl
 ·cases Zcc (wyP y) M<;>rfl
def ZhX(w:Wk)(ls:List Int)(L:List (List Int))(M:Tb):Prop:=∃t,Zg3 w ls L t M/\ZeN w ls L M=[]
theorem Zjz{ps:List (List Int)}{M:Tb}{m:Int}(h:Zcc ps M=some m):(∀p∈ps,∃k,Zj M p=some k/\k<=m)/\∃p∈ps,Zj M p=some m:=by
 unfold Zcc at h;split at h
 ·rename_i ha
  obtain⟨m1,m2⟩:=ZAU.mp h;refine⟨λp hp=>?_,?_⟩
  ·have hh:=ZwF.mp ha p hp
   unfold ZN at hh;obtain⟨k,hk⟩:=Zxi.mp hh;exact⟨k,hk,m2 _ (ZxL.mpr ⟨p,hp,hk⟩)⟩
  ·obtain⟨p,hp,e⟩:=ZxL.mp m1
   exact⟨p,hp,e⟩
 ·cases h
theorem ZjM{ps:List (List Int)}{M:Tb}(h0:ps≠[])(h:Zcc ps M=none):ps.all (ZN M)=false:=by
 cases hq:ps.all (ZN M)with
 | false=>rfl
 | true=>unfold Zcc at h;rw[hq,if_pos rfl,ZAX]at h;obtain⟨p,r,rfl⟩:=ZAi h0;have hh:=ZwF.mp hq p (ZwA ..);unfold ZN at hh;obtain⟨k,hk⟩:=Zxi.mp hh;rw[ZxF,hk]at h;cases h
section
variable{w:Wk}{ls:List Int}{L:List (List Int)}(hL:Zfj w ls L)(hne:∀c∈L,c≠[])
include hL hne
theorem Zpx{t:Nat}{M:Tb}(T:Zg3 w ls L t M){c:List Int}(hc:c∈L)(hn:ZN M c=false):Zcg cbD (wfV w ls c) M=if Zev w ls c M then some ((t+1:Nat):Int)else none:=by
 have known:∀{p:List Int} {k:Int},Zj M p=some k->∃n:Nat,k=(n:Int)/\n<=t/\Win w ls n p=true:=λ{p k} h=>by
  rw[T.look]at h;split at h
  ·obtain⟨n,h1,h2,h3,_⟩:=ZjD h
   exact⟨n,h1,h2,h3⟩
  ·cases h
 have val:∀y∈wfV w ls c,∀k,cbD y M=some k->k=((t+1:Nat):Int)/\Zev w ls c M=true:=λy hy k hk=>by
  obtain⟨d,hd,rfl⟩:=ZwK.mp hy;obtain⟨d0,d1,d2⟩:=Zd6 hd;have e:((d.toNat:Nat):Int)=d:=ZzY d0;obtain⟨m,h1,h2⟩:=Zwx.mp hk;have h1:Zcc (ZD w ls (Zay w c d)) M=some m:=h1;obtain⟨w1,p,hp,w2⟩:=Zjz h1;obtain⟨n,rfl,hnt,_⟩:=known w2;refine⟨?_,ZxA.mpr ⟨d.toNat,ZwV.mpr (by omega),?_⟩⟩
  ·subst h2
   by_cases hlt:n<t
   ·-- then the crowd would be known already
    have hw:Win w ls (n+1) c=true:=by show(ZV w c||_)=true;rw[Zx6];refine .inr (ZxA.mpr ⟨d.toNat,ZwV.mpr (by omega),?_⟩);rw[e,d2,ZAg];refine ZwF.mpr λq hq=>?_;obtain⟨k,k1,k2⟩:=w1 q hq;obtain⟨n',rfl,_,hw'⟩:=known k1;exact Zfq (by omega) hw'
    have:ZN M c=true:=by unfold ZN;rw[T.look,if_pos hc,Zcj];exact Zfq (by omega) hw
    rw[hn]at this;cases this
   ·show(n:Int)+1=_
    omega
  ·rw[e,d2,ZAg]
   refine ZwF.mpr λq hq=>?_;obtain⟨k,k1,_⟩:=w1 q hq;unfold ZN;rw[k1];rfl
 have all_eq:∀k∈(wfV w ls c).filterMap (λy=>cbD y M),k=((t+1:Nat):Int)/\Zev w ls c M=true:=λk hk=>by obtain⟨y,hy,e⟩:=ZxL.mp hk;exact val y hy k e
 unfold Zcg;cases hcan:Zev w ls c M with
 | false =>
  have:(wfV w ls c).filterMap (λy=>cbD y M)=[]:=List.eq_nil_iff_forall_not_mem.mpr λk hk=>by have:=(all_eq k hk).2;rw[hcan]at this;cases this
  rw[this];rfl
 | true =>
  obtain⟨d,hd,hq⟩:=ZxA.mp hcan;rw[ZwU]at hq;have hd':=ZwV.mp hd;have hy:Zj4 w ls c (d:Int)∈wfV w ls c:=ZwK.mpr ⟨(d:Int),Zok hd' hq.1,rfl⟩;have hpn:ZD w ls (Zay w c d)≠[]:=ZgN (Zni (hne c hc) hq.1);have hk:∃k,cbD (Zj4 w ls c d) M=some k:=by
   unfold cbD;cases hw:Zcc (wyP (Zj4 w ls c d)) M with
   | none=>have:=ZjM hpn hw;rw[show(ZD w ls (Zay w c d)).all (ZN M)=true from hq.2]at this;cases this
   | some m=>exact⟨m+1,rfl⟩
  obtain⟨k,hk⟩:=hk;have hm:k∈(wfV w ls c).filterMap (λy=>cbD y M):=ZxL.mpr ⟨_,hy,hk⟩;cases hmin:((wfV w ls c).filterMap λy=>cbD y M).min? with
  | none=>rw[ZAW]at hmin; rw[hmin]at hm; simp at hm
  | some m=>have:=(ZzM.mp hmin).1;rw[(all_eq m this).1];rfl
theorem Zsl{t:Nat}{M:Tb}(T:Zg3 w ls L t M):Zax (wfV w ls) cbD L M=(ZeN w ls L M).map λc=>(c,((t+1:Nat):Int)):=by
 unfold Zax ZeN;have key:∀K:List (List Int),(∀c∈K,c∈L)->(K.filterMap λc=>if ZN M c then none else(Zcg cbD (wfV w ls c) M).map λk=>(c,k))=(K.filter λc=>!ZN M c&&Zev w ls c M).map λc=>(c,((t+1:Nat):Int)):=by
  intro K
  induction K with
  | nil=>intro _; rfl
  | cons c K ih =>
   intro hK;have ih:=ih λx hx=>hK x (ZwC _ hx);rw[ZxF,Zys];cases hh:ZN M c with
   | true=>simpa using ih
   | false =>
    have hle:=Zpx hL hne T (hK c (ZwA ..)) hh;rw[hle];cases hcan:Zev w ls c M with
    | false=>simpa [hcan]using ih
    | true=>simpa [hcan]using ih
 exact key L λ_ h=>h
theorem Zs7{M R:Tb}{k:Option Int}{found:List (List Int)}(r:ZiV (wfV w ls) cbD L M k found R):∀t:Nat,(found=[]->Zg3 w ls L t M/\ZeN w ls L M=[])->(found≠[]->k=some (t:Int)/\Zg3 w ls L t (Za7 found t M))->ZhX w ls L R:=by
 induction r with
 | done=>intro t h _; exact⟨t,h rfl⟩
 | @step M R k found hf _ ih =>
  intro t _ h;obtain⟨hk,T⟩:=h hf;cases hk;have ho:=Zsl hL hne T;have hmin:∀ms:List (List Int),Zew (ms.map λc=>(c,((t+1:Nat):Int)))=ms/\(ms≠[]->ZbK (ms.map λc=>(c,((t+1:Nat):Int)))=some ((t+1:Nat):Int)):=λms=>by
   cases ms with
   | nil=>exact⟨rfl,λz=>absurd rfl z⟩
   | cons c ms =>
    have hO:ZbK ((c::ms).map λc=>(c,((t+1:Nat):Int)))=some ((t+1:Nat):Int):=by unfold ZbK;rw[ZwW];refine ZzM.mpr ⟨ZwK.mpr ⟨c,ZwA ..,rfl⟩,λb hb=>?_⟩;obtain⟨c',_,rfl⟩:=ZwK.mp hb;exact Int.le_refl _
    refine⟨?_,λ_=>hO⟩;unfold Zew;rw[hO];have:∀xs:List (List Int),((xs.map λc=>(c,((t+1:Nat):Int))).filter λp=>some p.2==some ((t+1:Nat):Int)).map (·.1)=xs:=by
     intro xs
     induction xs with
     | nil=>rfl
     | cons x xs ih=>simp at ih ⊢; exact ih
    exact this _
  obtain⟨m1,m2⟩:=hmin (ZeN w ls L (Za7 found t M));rw[ho,m1]at ih;refine ih (if ZeN w ls L (Za7 found t M)=[]then t else t+1) (λe=>?_) λe=>?_
  ·rw[if_pos e]
   exact⟨T,e⟩
  ·rw[if_neg e]
   exact⟨m2 e,Znk hL T⟩
theorem Zsb(hv:Wk.V w){R:Tb}(r:ZiV (wfV w ls) cbD L [] (some 0) (L.filter λc=>ZV w c) R):ZhX w ls L R:=by
 refine Zs7 hL hne r 0 (λe=>?_) λ_=>⟨rfl,Zmk⟩;have T:Zg3 w ls L 0 (M0 w L):=Zmk;have e0:M0 w L=[]:=by unfold M0; rw[e]; rfl
 rw[e0]at T;refine⟨T,ZAO.mpr λc hc h=>?_⟩;rw[ZwU]at h;obtain⟨d,hd,hq⟩:=ZxA.mp h.2;rw[ZwU]at hq;obtain⟨p,hp⟩:=List.exists_mem_of_ne_nil _ (ZgN (w:=w) (ls:=ls) (Zni (hne c hc) hq.1));have:=ZwF.mp hq.2 p hp;cases this
end
theorem Zmo{w:Wk}(hv:Wk.V w){ap:AP}(A:ApD ap){ls:List Int}{L:List (List Int)}(hnd:L.Nodup)(hcr:∀c∈L,Cr w.many c/\c≠[])(hlen:L.length<=128)(hL:Zfj w ls L):∃M,ZcK ap [w.d,.dict (Zi (Zpq w ls L))]=some (.dict (Zi (encM M)))/\ZhX w ls L M:=by
 have hys:∀c∈L,(wfV w ls c).length<1000:=λc hc=>by unfold wfV;rw[Zwy];have:=Zkl w c;have:=hv.d2;omega
 obtain⟨R,e,r⟩:=Zn0 hv (ap:=ap) (wf:=wfV w ls) (t:=0) (cs:=[]) (cb:=cbD) hnd hlen (λc hc=>(hcr c hc).1) hys λc hc y hy M=>by
  rw[A.d0];obtain⟨d,hd,rfl⟩:=ZwK.mp hy;obtain⟨d0,d1,d2⟩:=Zd6 hd;refine Zn1 ?_ ?_ M
  ·have:=split_len (w:=w) (ls:=ls) (c:=Zay w c d)
   have:=(ZeS hv (hcr c hc).1 d0 d1).len;have:=hv.m2;show(ZaP w ls (Zay w c d)).length<1000;omega
  ·exact λz=>ZgN (w:=w) (ls:=ls) (Zni (hcr c hc).2 d2) (by unfold ZD; rw[show ZaP w ls (Zay w c d)=[] from z]; rfl)
 refine⟨R,?_,Zsb hL (λc hc=>(hcr c hc).2) hv r⟩;show Za4 (ZeY ap [some (.pl w.d),some (.pl (.dict (Zi (Zpq w ls L))))])=_;unfold ZeY ZB Zm;show Za4 (Zym Out.rt (Zcu ap [w.d,.dict (Zi (Zr (wfV w ls) L)),fnD 0 []]))=_;rw[e];rfl
end HG5
namespace HG5
open PySem HM HG HG4
theorem ZhX.cost{w:Wk}{ls:List Int}{L:List (List Int)}{M:Tb}(F:ZhX w ls L M){c:List Int}{k:Int}(h:Zj M c=some k):c∈L/\∃n:Nat,k=(n:Int)/\Win w ls n c=true/\∀m,m<n->Win w ls m c=false:=by
 obtain⟨t,T,_⟩:=F;rw[T.look]at h;split at h
 ·rename_i hc
  obtain⟨n,h1,_,h2,h3⟩:=ZjD h;exact⟨hc,n,h1,h2,h3⟩
 ·cases h
theorem ZhX.all{w:Wk}{ls:List Int}{L:List (List Int)}(hL:Zfj w ls L){M:Tb}(F:ZhX w ls L M){c:List Int}(hc:c∈L){n:Nat}(h:Win w ls n c=true):ZN M c=true:=by
 obtain⟨t,T,hm⟩:=F;have T':=Znk hL T;rw[hm]at T';have st:∀c∈L,Win w ls (t+1) c=true->Win w ls t c=true:=λc hc q=>by have e1:=T.look c;have e2:=T'.look c;rw[if_pos hc]at e1 e2;have e3:Zcl w ls t c=Zcl w ls (t+1) c:=e1.symm.trans e2;rw[<-Zcj,e3,Zcj];exact q
 have:=Zjo hL st n c hc h;unfold ZN;rw[T.look,if_pos hc,Zcj];exact this
def ZvZ(w:Wk)(ls:List Int)(P:List (List Int))(d:D):Prop:=(∃n:Nat,d=.int n/\(∀p∈P,Win w ls n p=true)/\∀m,m<n->¬∀p∈P,Win w ls m p=true)\/(d=.none/\∀n,¬∀p∈P,Win w ls n p=true)
theorem ZrY{w:Wk}{ls:List Int}{L:List (List Int)}(hL:Zfj w ls L){M:Tb}(F:ZhX w ls L M){g:Gs}(hg:g.length<1000)(h0:g≠[])(hp:∀p∈g.map (·.2),p∈L):∃d,Z4 [.list (g.map Zal),.dict (Zi (encM M))]=some d/\ZvZ w ls (g.map (·.2)) d:=by
 rw[Zfr hg h0];refine⟨_,rfl,?_⟩;have hne:g.map (·.2)≠[]:=λe=>h0 (List.map_eq_nil_iff.mp e);cases hq:Zcc (g.map (·.2)) M with
 | none=>refine .inr ⟨rfl,λn hn=>?_⟩;have h1:=ZjM hne hq;have:(g.map (·.2)).all (ZN M)=true:=ZwF.mpr λp h=>F.all hL (hp p h) (hn p h);rw[h1]at this;cases this
 | some m =>
  obtain⟨w1,p,hpm,w2⟩:=Zjz hq;obtain⟨_,n,rfl,k3,k4⟩:=F.cost w2;refine .inl ⟨n,rfl,λq hq'=>?_,λj hj hw=>?_⟩
  ·obtain⟨k,a1,a2⟩:=w1 q hq'
   obtain⟨_,n',rfl,a3,_⟩:=F.cost a1;exact Zfq (by omega) a3
  ·have:=hw p hpm
   rw[k4 j hj]at this;cases this
section
variable{w:Wk}(hv:Wk.V w)(h7:w.many<=7){ls:List Int}(hl:Cr w.looks.length ls)
include hv h7 hl
theorem Zqo{ap:AP}(A:ApD ap):∃d,Zei ap [w.d,tupI ls]=some d/\Few w ls d:=by obtain⟨L,hco,hnd,hlen,hcr,_,hL,hbg⟩:=ZjV hv h7 hl A hv.bc;obtain⟨M,hde,F⟩:=Zmo hv A hnd hcr hlen hL;have hpa:=Zic hv hl hv.bc;have hsl:=split_len (w:=w) (ls:=ls) (c:=w.beg);have hbl:=hv.bc.len;have hsn:ZaP w ls w.beg≠[]:=λe=>ZgN (w:=w) (ls:=ls) hv.b1 (by unfold ZD; rw[e]; rfl);obtain⟨d,hm,fw⟩:=ZrY hL F (g:=ZaP w ls w.beg) (by omega) hsn hbg;refine⟨d,?_,fw⟩;have hc1:=Zpy hv;have hc2:=Zja hv hl;have hb:=Zoc w;show Za4 (Zhx ap [some (.pl w.d),some (.pl (tupI ls)),none,none])=_;simp[Zhx,hc1,hc2,hb,hco,hde,hpa,hm,Za4]
end
theorem Zwj:ApD ap:=⟨λ_=>rfl,λ_ _=>rfl⟩
end HG5
namespace HG7
open PySem HM
open HG
open HG5
def ZU(R:List D->Option D):SF :=
 (Zv (Zai 5 (Zm ZbT (Zd (Zc 0) (Zd (Zc 2) (Zd (Zc 4) Zn)))))
  (sIf (Zf6 (tV (op2 ZfK (Zc 5) (eC .none))) (tV (Zm R (Zd (Zc 0) (Zd (Zc 1) (Zd (Zc 5) (Zd (op2 Zf3 (Zc 3) (eC (.int 1))) Zn))))))) (ZB (eC (.bool true))) Zau))
def Zdx(R:List D->Option D):SF :=
 (Zv (sIf (tV (Zm ZbC (Zd (Zc 0) (Zd (Zc 2) Zn)))) (ZB (eC (.bool true))) Zau)
  (Zv (sIf (tV (op2 gEq (Zc 3) (eC (.int 0)))) (ZB (eC (.bool false))) Zau)
  (Zv (Zbl 4 (ZbJ (Zbn (bOf (eIx (Zp 0) (eC (.int 1)))))) (ZU R))
  (ZB (eC (.bool false))))))
def ZaX(R:List D->Option D):List D->Option D:=fnOf 4 6 (Zdx R)
def ZaU(R:List D->Option D):SF :=
 (sIf (Zd3 (tV (Zm (ZaX R) (Zd (Zc 0) (Zd (Zc 1) (Zd (Zc 5) (Zd (Zc 3) Zn))))))) (ZB (eC (.bool false))) Zau)
def ZeD(R:List D->Option D):SF :=
 (Zv (Zlj 4 5 (Zav (bOf (Zm Zbh (Zd (Zc 0) (Zd (Zc 1) (Zd (Zc 2) Zn)))))) (ZaU R))
  (ZB (eC (.bool true))))
def ZG:Nat->List D->Option D
 | 0=>fnOf 4 6 ZhR
 | n+1=>fnOf 4 6 (ZeD (ZG n))
def ZlA(ap:AP):SF :=
 (Zv (Zai 1 (Zm ZaE (Zd (Zc 0) (Zd (eC (.int 1)) Zn))))
  (Zv (Zai 2 (Zm Zb5 (Zd (Zc 1) (Zd (Zm Z3 (Zd (Zc 0) (Zd (eC (.int 0)) Zn))) Zn))))
  (Zv (Zai 3 (Zm (Zei ap) (Zd (Zc 1) (Zd (Zc 2) Zn))))
  (Zv (sIf (tV (op2 Znh (Zc 3) (eC .none))) (ZB (Zj8 (Zm (ZG 40) (Zd (Zc 1) (Zd (Zc 2) (Zd (eIx (Zp 1) (eC (.int 3))) (Zd (eC (.int 3)) Zn))))))) Zau)
  (Zv (sIf (Zf6 (tV (op2 gGt (Zc 3) (eC (.int 0)))) (Zf6 (tV (op2 gLt (Zc 3) (eC (.int 7)))) (tV (Zm (ZG 40) (Zd (Zc 1) (Zd (Zc 2) (Zd (eIx (Zp 1) (eC (.int 3))) (Zd (op2 Zf3 (Zc 3) (eC (.int 1))) Zn)))))))) (ZB (eC (.bool false))) Zau)
  (ZB (eOr (op2 gGt (Zc 3) (eC (.int 5))) (Zm (ZG 40) (Zd (Zc 1) (Zd (Zc 2) (Zd (eIx (Zp 1) (eC (.int 3))) (Zd (Zc 3) Zn))))))))))))
def ZeZ(ap:AP):List D->Option D:=fnOf 1 4 (ZlA ap)
end HG7
namespace HG7
open PySem HM HG4
open HG
open HG5
def ZgP(w:Wk)(ls c:List Int)(n:Nat)(d:Nat):Bool:=ZaN w c d&&(ZD w ls (Zay w c d)).all λp=>Win w ls n p
section
variable{w:Wk}(hv:Wk.V w)(h7:w.many<=7){ls:List Int}(hl:Cr w.looks.length ls)
include hv h7
theorem Zoi{R:List D->Option D}{c:List Int}(hc:Cr w.many c){n:Nat}(hR:∀b,Cr w.many b->R [w.d,tupI ls,tupI b,.int n]=some (.bool ((ZD w ls b).all λp=>Win w ls n p))):∀(ds:List Nat) (o4 o5:Option B),(∀d∈ds,d<w.deeds.length) ->
  (ds.any (ZgP w ls c n)=true->Z5 4 (ZU R) (ds.map dN) [some (.pl w.d),some (.pl (tupI ls)),some (.pl (tupI c)),some (.pl (.int ((n+1:Nat):Int))),o4,o5]=some (.rt (.bool true))) /\
  (ds.any (ZgP w ls c n)=false->∃p4 p5,Z5 4 (ZU R) (ds.map dN) [some (.pl w.d),some (.pl (tupI ls)),some (.pl (tupI c)),some (.pl (.int ((n+1:Nat):Int))),o4,o5]=some (.nx [some (.pl w.d),some (.pl (tupI ls)),some (.pl (tupI c)),some (.pl (.int ((n+1:Nat):Int))),p4,p5]))
 | [],o4,o5,_=>⟨λh=>(by cases h),λ_=>⟨o4,o5,rfl⟩⟩
 | d::ds,o4,o5,hds=>by
  have hd:=hds d (ZwA ..);have hled:=ZpR hv h7 hc (show(0:Int)<=(d:Int) by omega) (by omega);unfold Zr5 at hled;have body:∃p5,ZU R [some (.pl w.d),some (.pl (tupI ls)),some (.pl (tupI c)),some (.pl (.int ((n+1:Nat):Int))),some (.pl (dN d)),o5]=if ZgP w ls c n d then some (.rt (.bool true))else some (.nx [some (.pl w.d),some (.pl (tupI ls)),some (.pl (tupI c)),some (.pl (.int ((n+1:Nat):Int))),some (.pl (dN d)),p5]):=by
   unfold ZgP;cases can:ZaN w c d with
   | false=>rw[can]at hled;exact⟨some (.pl .none),by simp[ZU,hled]⟩
   | true =>
    rw[can]at hled;have hb:=hR _ (ZeS hv hc (show(0:Int)<=(d:Int) by omega) (by omega));have hsub:((n+1:Nat):Int)-1=(n:Int):=by omega
    refine⟨some (.pl (tupI (Zay w c d))),?_⟩;generalize ((n+1:Nat):Int)=n1 at hsub ⊢;cases hq:(ZD w ls (Zay w c d)).all λp=>Win w ls n p with
    | true=>rw[hq]at hb; simp[ZU,hled,hsub,hb]
    | false=>rw[hq]at hb; simp[ZU,hled,hsub,hb]
  obtain⟨p5,body⟩:=body;obtain⟨i1,i2⟩:=Zoi hc hR ds (some (.pl (dN d))) p5 λx hx=>hds x (ZwC _ hx);have step:Z5 4 (ZU R) ((d::ds).map dN) [some (.pl w.d),some (.pl (tupI ls)),some (.pl (tupI c)),some (.pl (.int ((n+1:Nat):Int))),o4,o5]=match ZU R [some (.pl w.d),some (.pl (tupI ls)),some (.pl (tupI c)),some (.pl (.int ((n+1:Nat):Int))),some (.pl (dN d)),o5]with
    | some (.nx r')=>Z5 4 (ZU R) (ds.map dN) r'
    | some (.ct r')=>Z5 4 (ZU R) (ds.map dN) r'
    | some (.bk r')=>some (.nx r')
    | some (.rt d)=>some (.rt d)
    | none=>none:=rfl
  rw[step,body,ZyB];cases hq:ZgP w ls c n d with
  | true=>exact⟨λ_=>rfl,λh=>by cases h⟩
  | false=>exact⟨i1,i2⟩
theorem Zon{R:List D->Option D}{c:List Int}(hc:Cr w.many c)(n:Nat)(hR:∀m,n=m+1->∀b,Cr w.many b->R [w.d,tupI ls,tupI b,.int (m:Nat)]=some (.bool ((ZD w ls b).all λp=>Win w ls m p))) :
  ZaX R [w.d,tupI ls,tupI c,.int n]=some (.bool (Win w ls n c)):=by
 have hth:=Znl hv (c:=c) (by have:=hc.len; omega);show Za4 (Zdx R [some (.pl w.d),some (.pl (tupI ls)),some (.pl (tupI c)),some (.pl (.int n)),none,none])=_;unfold Zdx;cases ht:ZV w c with
 | true=>have hw:Win w ls n c=true:=Zfq (ZxR n) (show Win w ls 0 c=true from ht);rw[ht]at hth;rw[hw];simp[hth,Za4]
 | false =>
  rw[ht]at hth;refine ZaL (P:=λq=>Za4 q=_) (r':=[some (.pl w.d),some (.pl (tupI ls)),some (.pl (tupI c)),some (.pl (.int n)),none,none]) (by simp[hth]) ?_;cases n with
  | zero=>have hw:Win w ls 0 c=false:=ht;rw[hw];rfl
  | succ m =>
   have hz:tV (op2 gEq (Zc 3) (eC (.int 0))) [some (.pl w.d),some (.pl (tupI ls)),some (.pl (tupI c)),some (.pl (.int ((m+1:Nat):Int))),none,none]=some false:=by
    have:(((m+1:Nat):Int)==0)=false:=by rw[beq_eq_false_iff_ne];omega
    generalize ((m+1:Nat):Int)=m1 at this ⊢;simp[this]
   refine ZaL (P:=λq=>Za4 q=_) (r':=[some (.pl w.d),some (.pl (tupI ls)),some (.pl (tupI c)),some (.pl (.int ((m+1:Nat):Int))),none,none]) (by unfold sIf; rw[hz]; rfl) ?_;obtain⟨i1,i2⟩:=Zoi hv h7 hc (hR m rfl) (ZwE w.deeds.length) none none λd hd=>ZwV.mp hd;have hok:okR (w.deeds.length:Int)=true:=Zdq (by have:=hv.d2; omega);have hdb:w.deeds.length<1000000:=by have:=hv.d2; omega
   have hi:ZbJ (Zbn (bOf (eIx (Zp 0) (eC (.int 1))))) [some (.pl w.d),some (.pl (tupI ls)),some (.pl (tupI c)),some (.pl (.int ((m+1:Nat):Int))),none,none]=some ((ZwE w.deeds.length).map dN):=by have i0:=Zwb w;simp[i0,-ZcA];simp[hok,Zaf]
   have hw:Win w ls (m+1) c=(ZwE w.deeds.length).any (ZgP w ls c m):=by show(ZV w c||_)=_;rw[ht,ZAd];rfl
   rw[hw];have hf:∀g,Zbl 4 (ZbJ (Zbn (bOf (eIx (Zp 0) (eC (.int 1)))))) g [some (.pl w.d),some (.pl (tupI ls)),some (.pl (tupI c)),some (.pl (.int ((m+1:Nat):Int))),none,none]=Z5 4 g ((ZwE w.deeds.length).map dN) [some (.pl w.d),some (.pl (tupI ls)),some (.pl (tupI c)),some (.pl (.int ((m+1:Nat):Int))),none,none]:=λg=>by unfold Zbl;rw[hi];dsimp only;rw[if_pos (by rw[Zwy,Zyo]; exact hdb)]
   cases hq:(ZwE w.deeds.length).any (ZgP w ls c m)with
   | true=>unfold Zv;rw[hf,i1 hq];rfl
   | false=>obtain⟨p4,p5,e⟩:=i2 hq;unfold Zv;rw[hf,e];rfl
theorem Zqm{R:List D->Option D}{e2:Option B}{n:Nat}(hP:∀c,Cr w.many c->ZaX R [w.d,tupI ls,tupI c,.int n]=some (.bool (Win w ls n c))):∀(g:Gs) (o4 o5:Option B),(∀p∈g,Cr w.many p.2) ->
  ((g.map (·.2)).all (λp=>Win w ls n p)=false->Zcd 4 5 (ZaU R) (g.map Zal) [some (.pl w.d),some (.pl (tupI ls)),e2,some (.pl (.int n)),o4,o5]=some (.rt (.bool false))) /\
  ((g.map (·.2)).all (λp=>Win w ls n p)=true->∃p4 p5,Zcd 4 5 (ZaU R) (g.map Zal) [some (.pl w.d),some (.pl (tupI ls)),e2,some (.pl (.int n)),o4,o5]=some (.nx [some (.pl w.d),some (.pl (tupI ls)),e2,some (.pl (.int n)),p4,p5]))
 | [],o4,o5,_=>⟨λh=>(by cases h),λ_=>⟨o4,o5,rfl⟩⟩
 | (k,p)::g,o4,o5,hg=>by
  have hp:=hP p (hg (k,p) (ZwA ..));obtain⟨i1,i2⟩:=Zqm (e2:=e2) hP g (some (.pl (tupI k))) (some (.pl (tupI p))) λx hx=>hg x (ZwC _ hx);have step:Zcd 4 5 (ZaU R) (((k,p)::g).map Zal) [some (.pl w.d),some (.pl (tupI ls)),e2,some (.pl (.int n)),o4,o5]=match ZaU R [some (.pl w.d),some (.pl (tupI ls)),e2,some (.pl (.int n)),some (.pl (tupI k)),some (.pl (tupI p))]with
    | some (.nx r')=>Zcd 4 5 (ZaU R) (g.map Zal) r'
    | some (.ct r')=>Zcd 4 5 (ZaU R) (g.map Zal) r'
    | some (.bk r')=>some (.nx r')
    | some (.rt d)=>some (.rt d)
    | none=>none:=rfl
  have body:ZaU R [some (.pl w.d),some (.pl (tupI ls)),e2,some (.pl (.int n)),some (.pl (tupI k)),some (.pl (tupI p))]=if Win w ls n p then some (.nx [some (.pl w.d),some (.pl (tupI ls)),e2,some (.pl (.int n)),some (.pl (tupI k)),some (.pl (tupI p))])else some (.rt (.bool false)):=by
   cases hq:Win w ls n p with
   | true=>rw[hq]at hp; simp[ZaU,hp]
   | false=>rw[hq]at hp; simp[ZaU,hp]
  rw[step,body,ZwD,ZxH];cases hq:Win w ls n p with
  | true=>rw[ZAg];exact⟨i1,i2⟩
  | false=>rw[Bool.false_and];exact⟨λ_=>rfl,λh=>by cases h⟩
include hl
theorem Zt5:∀(n f:Nat),n<f->∀b,Cr w.many b->ZG f [w.d,tupI ls,tupI b,.int (n:Nat)]=some (.bool ((ZD w ls b).all λp=>Win w ls n p)):=by
 intro n
 induction n with
 | zero=>intro f hf b hb;obtain⟨f,rfl⟩:∃g,f=g+1:=⟨f-1,by omega⟩;exact can_one (λc hc=>Zon hv h7 hc 0 λm e=>by omega) hb
 | succ n ih =>
  intro f hf b hb;obtain⟨f,rfl⟩:∃g,f=g+1:=⟨f-1,by omega⟩;refine can_one (λc hc=>Zon hv h7 hc (n+1) λm e=>?_) hb;obtain rfl:m=n:=by omega
  exact ih f (by omega)
where
 can_one {n f:Nat} (hP:∀c,Cr w.many c->ZaX (ZG f) [w.d,tupI ls,tupI c,.int n]=some (.bool (Win w ls n c))) {b:List Int} (hb:Cr w.many b):ZG (f+1) [w.d,tupI ls,tupI b,.int (n:Nat)]=some (.bool ((ZD w ls b).all λp=>Win w ls n p)):=by
  have hs:=Zmq hv hl hb;have hsl:=split_len (w:=w) (ls:=ls) (c:=b);have hbl:=hb.len;obtain⟨i1,i2⟩:=Zqm hv h7 (e2:=some (.pl (tupI b))) hP (ZaP w ls b) none none λp hp=>(Zij hb (ZwK.mpr ⟨p,hp,rfl⟩)).1;show Za4 (ZeD (ZG f) [some (.pl w.d),some (.pl (tupI ls)),some (.pl (tupI b)),some (.pl (.int n)),none,none])=_;have hi:∀g,Zlj 4 5 (Zav (bOf (Zm Zbh (Zd (Zc 0) (Zd (Zc 1) (Zd (Zc 2) Zn)))))) g [some (.pl w.d),some (.pl (tupI ls)),some (.pl (tupI b)),some (.pl (.int n)),none,none]=Zcd 4 5 g ((ZaP w ls b).map Zal) [some (.pl w.d),some (.pl (tupI ls)),some (.pl (tupI b)),some (.pl (.int n)),none,none]:=λg=>by
   have:(ZaP w ls b).length<1000000:=by omega
   simp[hs,this]
  unfold ZeD;unfold ZD;cases hq:((ZaP w ls b).map (·.2)).all λp=>Win w ls n p with
  | false=>unfold Zv;rw[hi,i1 hq];rfl
  | true=>obtain⟨p4,p5,e⟩:=i2 hq;unfold Zv;rw[hi,e];rfl
end
theorem Zjb(ns:List Int)(h:ns.length<=63):ZeZ ap [.list (ns.map dI)]=some (.bool true):=by
 have hv:=Wk.Ok.v (ZuT ns 1);have h7:(wkV ns 1).many<=7:=by have:(wkV ns 1).many=ZI ns 1:=rfl;have:=(Zih ns 1).2;omega
 have hw:=Zrt ns 1 h;have hc0:=Zdo ns 0;have hlk:=Zrl hv (Zt ns 0);have hl:=ZuG (wkV ns 1).looks.length (Zt ns 0);generalize wkV ns 1=w at *;generalize lkV w.looks.length (Zt ns 0)=ls at *;obtain⟨d,e1,f1⟩:=Zqo hv h7 hl Zwj;have hw':ZaE [.list (ns.map dI),.int 1]=some w.d:=hw;have hc':Z3 [.list (ns.map dI),.int 0]=some (.int (Zt ns 0)):=hc0;have hcan:∀n:Nat,n<40->ZG 40 [w.d,tupI ls,tupI w.beg,.int n]=some (.bool ((ZD w ls w.beg).all λp=>Win w ls n p)):=λn hn=>Zt5 hv h7 hl n 40 hn w.beg hv.bc;show Za4 (ZlA ap [some (.pl (.list (ns.map dI))),none,none,none])=_;unfold ZlA;refine ZaL (P:=λq=>Za4 q=_) (r':=[some (.pl (.list (ns.map dI))),some (.pl w.d),none,none]) (by simp[hw']) ?_;refine ZaL (P:=λq=>Za4 q=_) (r':=[some (.pl (.list (ns.map dI))),some (.pl w.d),some (.pl (tupI ls)),none]) (by simp[hc',hlk]) ?_;refine ZaL (P:=λq=>Za4 q=_) (r':=[some (.pl (.list (ns.map dI))),some (.pl w.d),some (.pl (tupI ls)),some (.pl d)]) (by simp[e1]) ?_;have hix:∀d',eIx (Zp 1) (eC (.int 3)) [some (.pl (.list (ns.map dI))),some (.pl w.d),some (.pl (tupI ls)),some (.pl d')]=some (tupI w.beg):=λ_=>rfl;rcases f1 with⟨n,rfl,g1,g2⟩ | ⟨rfl,g1⟩
 ·refine ZaL (P:=λq=>Za4 q=_) (r':=[some (.pl (.list (ns.map dI))),some (.pl w.d),some (.pl (tupI ls)),some (.pl (.int n))]) rfl ?_
  have hno:∀m,m<n->((ZD w ls w.beg).all λp=>Win w ls m p)=false:=λm hm=>by
   cases q:(ZD w ls w.beg).all λp=>Win w ls m p with
   | false=>rfl
   | true=>exact absurd (λp hp=>ZwF.mp q p hp) (g2 m hm)
  have hyes:((ZD w ls w.beg).all λp=>Win w ls n p)=true:=ZwF.mpr g1;refine ZaL (P:=λq=>Za4 q=_) (r':=[some (.pl (.list (ns.map dI))),some (.pl w.d),some (.pl (tupI ls)),some (.pl (.int n))]) ?_ ?_
  ·by_cases h0:0<n
   ·by_cases h6:n<7
    ·have hc:=hcan (n-1) (by omega)
     rw[hno (n-1) (by omega)]at hc;have hsub:(n:Int)-1=((n-1:Nat):Int):=by omega
     have k1:(0:Int)<(n:Int):=by omega
     have k2:(n:Int)<7:=by omega
     have ht:tV (Zm (ZG 40) (Zd (Zc 1) (Zd (Zc 2) (Zd (eIx (Zp 1) (eC (.int 3))) (Zd (op2 Zf3 (Zc 3) (eC (.int 1))) Zn))))) [some (.pl (.list (ns.map dI))),some (.pl w.d),some (.pl (tupI ls)),some (.pl (.int n))]=some false:=by have:Zm (ZG 40) (Zd (Zc 1) (Zd (Zc 2) (Zd (eIx (Zp 1) (eC (.int 3))) (Zd (op2 Zf3 (Zc 3) (eC (.int 1))) Zn)))) [some (.pl (.list (ns.map dI))),some (.pl w.d),some (.pl (tupI ls)),some (.pl (.int n))]=ZG 40 [w.d,tupI ls,tupI w.beg,.int ((n:Int)-1)]:=rfl;unfold tV;rw[this,hsub,hc]
     have ha:tV (op2 gGt (Zc 3) (eC (.int 0))) [some (.pl (.list (ns.map dI))),some (.pl w.d),some (.pl (tupI ls)),some (.pl (.int n))]=some true:=by simp[k1]; omega
     have hb:tV (op2 gLt (Zc 3) (eC (.int 7))) [some (.pl (.list (ns.map dI))),some (.pl w.d),some (.pl (tupI ls)),some (.pl (.int n))]=some true:=by simp; omega
     unfold sIf Zf6;rw[ha];dsimp only;rw[hb];dsimp only;rw[ht];rfl
    ·have ha:tV (op2 gGt (Zc 3) (eC (.int 0))) [some (.pl (.list (ns.map dI))),some (.pl w.d),some (.pl (tupI ls)),some (.pl (.int n))]=some true:=by simp; omega
     have hb:tV (op2 gLt (Zc 3) (eC (.int 7))) [some (.pl (.list (ns.map dI))),some (.pl w.d),some (.pl (tupI ls)),some (.pl (.int n))]=some false:=by simp; omega
     unfold sIf Zf6;rw[ha];dsimp only;rw[hb];rfl
   ·have ha:tV (op2 gGt (Zc 3) (eC (.int 0))) [some (.pl (.list (ns.map dI))),some (.pl w.d),some (.pl (tupI ls)),some (.pl (.int n))]=some false:=by simp; omega
    unfold sIf Zf6;rw[ha];rfl
  ·by_cases h5:5<n
   ·have ha:op2 gGt (Zc 3) (eC (.int 5)) [some (.pl (.list (ns.map dI))),some (.pl w.d),some (.pl (tupI ls)),some (.pl (.int n))]=some (.bool true):=by simp; omega
    unfold ZB eOr;rw[ha];rfl
   ·have ha:op2 gGt (Zc 3) (eC (.int 5)) [some (.pl (.list (ns.map dI))),some (.pl w.d),some (.pl (tupI ls)),some (.pl (.int n))]=some (.bool false):=by simp; omega
    have hc:=hcan n (by omega);rw[hyes]at hc;have:Zm (ZG 40) (Zd (Zc 1) (Zd (Zc 2) (Zd (eIx (Zp 1) (eC (.int 3))) (Zd (Zc 3) Zn)))) [some (.pl (.list (ns.map dI))),some (.pl w.d),some (.pl (tupI ls)),some (.pl (.int n))]=ZG 40 [w.d,tupI ls,tupI w.beg,.int (n:Int)]:=rfl;unfold ZB eOr;rw[ha];dsimp only;rw[this,hc];rfl
 ·have hc:=hcan 3 (by omega)
  have hno:((ZD w ls w.beg).all λp=>Win w ls 3 p)=false:=by
   cases q:(ZD w ls w.beg).all λp=>Win w ls 3 p with
   | false=>rfl
   | true=>exact absurd (λp hp=>ZwF.mp q p hp) (g1 3)
  rw[hno]at hc;have:Zj8 (Zm (ZG 40) (Zd (Zc 1) (Zd (Zc 2) (Zd (eIx (Zp 1) (eC (.int 3))) (Zd (eC (.int 3)) Zn))))) [some (.pl (.list (ns.map dI))),some (.pl w.d),some (.pl (tupI ls)),some (.pl .none)]=some (.bool true):=by have e:Zm (ZG 40) (Zd (Zc 1) (Zd (Zc 2) (Zd (eIx (Zp 1) (eC (.int 3))) (Zd (eC (.int 3)) Zn)))) [some (.pl (.list (ns.map dI))),some (.pl w.d),some (.pl (tupI ls)),some (.pl .none)]=ZG 40 [w.d,tupI ls,tupI w.beg,.int ((3:Nat):Int)]:=rfl;unfold Zj8;rw[e,hc];rfl
  have hh:sIf (tV (op2 Znh (Zc 3) (eC .none))) (ZB (Zj8 (Zm (ZG 40) (Zd (Zc 1) (Zd (Zc 2) (Zd (eIx (Zp 1) (eC (.int 3))) (Zd (eC (.int 3)) Zn))))))) Zau [some (.pl (.list (ns.map dI))),some (.pl w.d),some (.pl (tupI ls)),some (.pl .none)]=some (.rt (.bool true)):=by show ZB _ _=_;unfold ZB;rw[this];rfl
  unfold Zv;rw[hh];rfl
end HG7
namespace HT
open PySem PySem.Spec PyProof.Rows L2 HP HM
open HG
open HG5
open HG7
def top(i:Nat):Stmt:=PySem.Challenge.pw_halfseen_k07_whole_no_plan_has_fewer.main.body.getD i (.Pass ⟨0,0,0,0⟩)
abbrev Ze0:Stmt:=top 9
abbrev Zhy:Stmt:=top 10
abbrev Ze1:Stmt:=top 11
abbrev ZeE:Stmt:=top 12
abbrev ZeF:Stmt:=top 13
abbrev Zdy:Stmt:=top 14
abbrev Zdz:Stmt:=top 15
abbrev ZfM:Stmt:=top 16
abbrev Ze2:Stmt:=top 17
abbrev ZfN:Stmt:=top 18
abbrev ZfO:Stmt:=top 19
abbrev ZfP:Stmt:=top 20
abbrev Zgz:Stmt:=top 21
abbrev ZgA:Stmt:=top 22
abbrev Zdb:Stmt:=top 23
abbrev ZeG:Stmt:=top 24
abbrev ZcX:Stmt:=top 26
abbrev Zc7:Stmt:=top 27
abbrev Zhz:Stmt:=top 28
abbrev Zfz:Stmt:=top 29
abbrev Zd8:Stmt:=top 30
abbrev Zb7:Stmt:=top 32
abbrev ZdA:Stmt:=top 33
abbrev Zco:Stmt:=top 34
abbrev Zer:Stmt:=top 35
abbrev Zcw:Stmt:=top 36
abbrev Zci:Stmt:=top 37
abbrev ZdB:Stmt:=top 38
abbrev ZM:Stmt:=top 39
abbrev Zd9:Stmt:=top 40
abbrev Ze3:Stmt:=top 41
abbrev ZhA:Stmt:=top 42
abbrev ZfQ:Stmt:=top 44
abbrev ZgB:Stmt:=top 45
abbrev ZdC:Stmt:=top 46
abbrev ZfR:Stmt:=top 47
abbrev ZfS:Stmt:=top 48
abbrev ZdD:Stmt:=top 49
abbrev ZdE:Stmt:=top 50
abbrev ZgC:Stmt:=top 51
abbrev ZcL:Stmt:=top 52
abbrev ZdF:Stmt:=top 53
abbrev ZeH:Stmt:=top 54
abbrev ZcD:Stmt:=top 55
abbrev Ze4:Stmt:=top 56
structure Txt(K:Zww)(mg:Str->Option Value):Prop where
 n_len:mg "len" = none
 n_tuple:mg "tuple" = none
 n_list:mg "list" = none
 n_set:mg "set" = none
 n_sorted:mg "sorted" = none
 n_range:mg "range" = none
 n_all:mg "all" = none
 n_isinstance:mg "isinstance" = none
 n_int:mg "int" = none
 n_bool:mg "bool" = none
 n_max:mg "max" = none
 n_min:mg "min" = none
 c_MOST_STATES:∃t,mg "MOST_STATES" = some (.int 8 t)
 c_MOST_DEEDS:∃t,mg "MOST_DEEDS" = some (.int 5 t)
 c_MOST_LOOKS:∃t,mg "MOST_LOOKS" = some (.int 4 t)
 c_MOST_SEEN:∃t,mg "MOST_SEEN" = some (.int 9 t)
section
variable[FX]{P:Program}{w:World}{K:Zww}{mg:Str->Option Value}{base:Heap}{k:Nat}
theorem ZlB:Zu ["_law_script","_law_k"] ["_law_script","_law_k"] (Ze ZfQ):=⟨rfl,rfl,rfl,by decide +kernel,rfl,by decide +kernel,by decide +kernel⟩
theorem ZlC(T:Txt K mg){f:Addr}{fd:FuncData}(Fn:Fun K "_law_cell" "_law_cell" ZfQ f fd)(hm:mg "_law_cell" = some (.ref f))(hb:Binds K fd ["_law_script","_law_k"] []):Callee P w K mg base (k+1) "_law_cell" Z3 :=
 Zs Fn ZlB hm hb λcdv A outer s H E hr=>by
  have hu:=ZJ hr;exact(Zf (ZaI (Zaz cLt (Za 1) (ZbP T.n_len (Zw 0))) (Zk (Zx (ZX (Zw 0) (Za 1)))) Z0)
  (Zk (Zx Zg)))
theorem ZnA:Zu ["_law_cell_here","_law_prime","_law_many"] ["_law_cell_here","_law_prime","_law_many"] (Ze ZgB):=⟨rfl,rfl,rfl,by decide +kernel,rfl,by decide +kernel,by decide +kernel⟩
theorem ZnB(T:Txt K mg){f:Addr}{fd:FuncData}(Fn:Fun K "_law_mix" "_law_mix" ZgB f fd)(hm:mg "_law_mix" = some (.ref f))(hb:Binds K fd ["_law_cell_here","_law_prime","_law_many"] []):Callee P w K mg base (k+1) "_law_mix" ZE :=
 Zs Fn ZnA hm hb λcdv A outer s H E hr=>by have hu:=ZJ hr;exact(Zk (Zx (ZC oMod (ZC oMod (ZC Zd0 (Za 0) Zg) (Za 1)) (Za 2))))
theorem Zes:Zu ["_law_cell_here","_law_many","_law_least","_law_found"] ["_law_cell_here","_law_many","_law_least"] (Ze ZdC):=⟨rfl,rfl,rfl,by decide +kernel,rfl,by decide +kernel,by decide +kernel⟩
theorem ZkM(T:Txt K mg)(ZF:Callee P w K mg base k "_law_mix" ZE){f:Addr}{fd:FuncData}(Fn:Fun K "_law_crowd" "_law_crowd" ZdC f fd)(hm:mg "_law_crowd" = some (.ref f))(hb:Binds K fd ["_law_cell_here","_law_many","_law_least"] []):Callee P w K mg base (k+1) "_law_crowd" Zbg :=
 Zs Fn Zes hm hb λcdv A outer s H E hr=>by
  have hu:=ZJ hr;exact(Zf (Zds 3 Zes.nd rfl rfl (N:=["_law_state","_law_cell_here","_law_many","_law_least","_law_found"]) (ZK (sc:=Ze ZdC) (XN:=["_law_cell_here","_law_many","_law_least","_law_found"])) (ZbQ T.n_range (Za 1)) (λ_ _ _ _ _=>(Zdi (Zaz cLt (Zl ZF hr (Zb (ZC ZbI (ZC ZbI (Za 1) (ZC Zd0 (ZC Zd0 Zg (Za 0)) (Za 0))) (ZC Zd0 Zg (Za 0))) (Zb Zg (Zb Zg Zh)))) Zg))) (λ_ _ _ _ _=>(Za 0)))
  (Zf (ZaI (Zaz cLt (ZbP T.n_len (Zw 3)) (Za 2)) (Zk (ZaC 3 Zes.nd (Zcm (Zb (Zl ZF hr (Zb (Za 0) (Zb Zg (Zb (Za 1) Zh)))) Zh)))) Z0)
  (Zk (Zx (Z7 T.n_tuple (Zw 3))))))
theorem Zb8:Zu ["_law_cell_here","_law_many","_law_found","_law_state","_law_seed","_law_way","_law_row"] ["_law_cell_here","_law_many"] (Ze ZfR):=⟨rfl,rfl,rfl,by decide +kernel,rfl,by decide +kernel,by decide +kernel⟩
theorem ZlD(T:Txt K mg)(ZF:Callee P w K mg base k "_law_mix" ZE){f:Addr}{fd:FuncData}(Fn:Fun K "_law_deed" "_law_deed" ZfR f fd)(hm:mg "_law_deed" = some (.ref f))(hb:Binds K fd ["_law_cell_here","_law_many"] []):Callee P w K mg base (k+1) "_law_deed" Zcs :=
 Zs Fn Zb8 hm hb λcdv A outer s H E hr=>by
  have hu:=ZJ hr;exact(Zf (ZaC 2 Zb8.nd (Zcm Zh))
  (Zf (ZbO 3 Zb8.nd rfl rfl (ZbQ T.n_range (Za 1)) (Zf (Z1 4 Zb8.nd (ZC ZbI (ZC ZbI (Za 0) (ZC Zd0 (ZC Zd0 Zg (Za 3)) (Za 3))) (ZC Zd0 Zg (Za 3))))
  (Zf (Z1 5 Zb8.nd (Zl ZF hr (Zb (Za 4) (Zb Zg (Zb Zg Zh)))))
  (Zf (ZaC 6 Zb8.nd (Zq8 (Zl ZF hr (Zb (Za 4) (Zb Zg (Zb (Za 1) Zh)))) Za2))
  (Zf (ZaI (Zaz cLt (Za 5) Zg) (Zk (Zhm hu 6 (Zl ZF hr (Zb (Za 4) (Zb Zg (Zb (Za 1) Zh)))) Za2)) Z0)
  (Zf (Zeh 2 (Z7 T.n_tuple (ZaQ (Zfy T.n_sorted rfl (Zw 6)))))
  (Zk (ZaI (Zaz (cEq hr) (Za 5) Zg) (Zk (ZsB 2 Ztz (Zeg Zh))) Z0))))))))
  (Zk (Zx (Z7 T.n_tuple (Zw 2))))))
theorem ZbE:Zu ["_law_cell_here","_law_many","_law_left","_law_right","_law_state","_law_ahead","_law_behind","_law_slips"] ["_law_cell_here","_law_many"] (Ze ZfS):=⟨rfl,rfl,rfl,by decide +kernel,rfl,by decide +kernel,by decide +kernel⟩
theorem ZlE(T:Txt K mg)(ZF:Callee P w K mg base k "_law_mix" ZE){f:Addr}{fd:FuncData}(Fn:Fun K "_law_walk" "_law_walk" ZfS f fd)(hm:mg "_law_walk" = some (.ref f))(hb:Binds K fd ["_law_cell_here","_law_many"] []):Callee P w K mg base (k+1) "_law_walk" Zct :=
 Zs Fn ZbE hm hb λcdv A outer s H E hr=>by
  have hu:=ZJ hr;exact(Zf (ZaC 2 ZbE.nd (Zcm Zh))
  (Zf (ZaC 3 ZbE.nd (Zcm Zh))
  (Zf (ZbO 4 ZbE.nd rfl rfl (ZbQ T.n_range (Za 1)) (Zf (Z1 5 ZbE.nd (ZtB T.n_max rfl (ZC Zmw (Za 4) Zg) Zg))
  (Zf (Z1 6 ZbE.nd (ZtC T.n_min rfl (ZC ZbI (Za 4) Zg) (ZC Zmw (Za 1) Zg)))
  (Zf (Z1 7 ZbE.nd (Zhj (cEq hr) (Zl ZF hr (Zb (ZC ZbI (Za 0) (ZC Zd0 Zg (Za 4))) (Zb Zg (Zb Zg Zh)))) Zg))
  (Zf (Zeh 2 (Z7 T.n_tuple (ZaQ (Zhn T.n_sorted T.n_set rfl (ZaQ (Zlw (ZaQ (Zcm (Zb (Za 5) Zh))) (ZaQ (ZtD (ZaQ (Zcm (Zb (Za 4) Zh))) (Zq7 T.n_int (Za 7))))))))))
  (Zk (Zeh 3 (Zeg (Zb (Za 6) Zh)))))))))
  (Zk (Zx (Zeg (Zb (Z7 T.n_tuple (Zw 2)) (Zb (Z7 T.n_tuple (Zw 3)) Zh))))))))
theorem ZS:Zu ["_law_script","_law_at","_law_cell_here","_law_many","_law_deeds","_law_k","_law_looks_here","_law_seed","_law_most","_law_begin","_law_goal"] ["_law_script","_law_at"] (Ze ZdD):=⟨rfl,rfl,rfl,by decide +kernel,rfl,by decide +kernel,by decide +kernel⟩
theorem ZkN(T:Txt K mg)(ZaH:Callee P w K mg base k "_law_cell" Z3)(ZdG:Callee P w K mg base k "_law_crowd" Zbg)(ZF:Callee P w K mg base k "_law_mix" ZE)(ZfT:Callee P w K mg base k "_law_deed" Zcs)(ZfU:Callee P w K mg base k "_law_walk" Zct){f:Addr}{fd:FuncData}(Fn:Fun K "_law_works" "_law_works" ZdD f fd)(hm:mg "_law_works" = some (.ref f))(hb:Binds K fd ["_law_script","_law_at"] []):Callee P w K mg base (k+1) "_law_works" ZaE :=
 Zs Fn ZS hm hb λcdv A outer s H E hr=>by
  have hu:=ZJ hr;exact(Zf (Z1 2 ZS.nd (Zl ZaH hr (Zb (Za 0) (Zb (Za 1) Zh))))
  (Zf (Z1 3 ZS.nd (ZC ZbI Zg (Zl ZF hr (Zb (Za 2) (Zb Zg (Zb Zg Zh))))))
  (Zf (ZaI (Zaz cGt (ZbP T.n_len (Zw 0)) Zg) (Zk (Z1 3 ZS.nd (ZC ZbI Zg (Zl ZF hr (Zb (Za 2) (Zb Zg (Zb Zg Zh))))))) Z0)
  (Zf (ZaC 4 ZS.nd (Zcm Zh))
  (Zf (ZbO 5 ZS.nd rfl rfl (ZbQ T.n_range (ZC ZbI Zg (Zl ZF hr (Zb (Za 2) (Zb Zg (Zb Zg Zh)))))) (Zk (Zeh 4 (Zl ZfT hr (Zb (ZC ZbI (Zl ZaH hr (Zb (Za 0) (Zb (ZC ZbI (ZC ZbI (Za 1) Zg) (Za 5)) Zh))) (ZC Zd0 Zg (Za 5))) (Zb (Za 3) Zh))))))
  (Zf (ZaI (Zaz (cEq hr) (Zl ZF hr (Zb (Za 2) (Zb Zg (Zb Zg Zh)))) Zg) (Zk (ZaC 4 ZS.nd (Zlw (ZaQ (Zhk T.n_list (ZaW (Zl ZfU hr (Zb (Zl ZaH hr (Zb (Za 0) (Zb (ZC ZbI (Za 1) Zg) Zh))) (Zb (Za 3) Zh)))))) (ZaQ (ZtE (Zw 4) ZsW (Ztc Zg)))))) Z0)
  (Zf (ZaC 6 ZS.nd (Zcm Zh))
  (Zf (ZbO 5 ZS.nd rfl rfl (ZbQ T.n_range (Zl ZF hr (Zb (Za 2) (Zb Zg (Zb Zg Zh))))) (Zf (Z1 7 ZS.nd (ZC ZbI (Zl ZaH hr (Zb (Za 0) (Zb (ZC ZbI (ZC ZbI (Za 1) Zg) (Za 5)) Zh))) (ZC Zd0 Zg (Za 5))))
  (Zf (Z1 8 ZS.nd (ZC ZbI Zg (Zl ZF hr (Zb (Za 7) (Zb Zg (Zb Zg Zh))))))
  (Zk (Zeh 6 (Z7 T.n_tuple (ZaQ (Zas rfl rfl (N:=["_law_state","_law_script","_law_at","_law_cell_here","_law_many","_law_deeds","_law_k","_law_looks_here","_law_seed","_law_most","_law_begin","_law_goal"]) (ZK (sc:=Ze ZdD) (XN:=["_law_script","_law_at","_law_cell_here","_law_many","_law_deeds","_law_k","_law_looks_here","_law_seed","_law_most","_law_begin","_law_goal"])) (ZbQ T.n_range (Za 3)) (λ_ _ _ _ _=>Zbu) (λ_ _ _ _ _=>(Zl ZF hr (Zb (ZC ZbI (Za 8) (ZC Zd0 (ZC Zd0 Zg (Za 0)) (Za 0))) (Zb Zg (Zb (Za 9) Zh)))))))))))))
  (Zf (Z1 9 ZS.nd (Zl ZdG hr (Zb (Zl ZaH hr (Zb (Za 0) (Zb (ZC ZbI (Za 1) Zg) Zh))) (Zb (Za 3) (Zb Zg Zh)))))
  (Zf (ZaI (Zaz (cEq hr) (Zl ZF hr (Zb (Za 2) (Zb Zg (Zb Zg Zh)))) Zg) (Zk (Z1 9 ZS.nd (Zny T.n_tuple T.n_range rfl (Za 3)))) Z0)
  (Zf (Z1 10 ZS.nd (Zl ZdG hr (Zb (Zl ZaH hr (Zb (Za 0) (Zb (ZC ZbI (Za 1) Zg) Zh))) (Zb (Za 3) (Zb Zg Zh)))))
  (Zk (Zx (Zeg (Zb (Za 3) (Zb (Z7 T.n_tuple (Zw 4)) (Zb (Z7 T.n_tuple (Zw 6)) (Zb (Za 9) (Zb (Za 10) Zh)))))))))))))))))))
theorem ZkO:Zu ["_law_works_here","_law_cell_here"] ["_law_works_here","_law_cell_here"] (Ze ZdE):=⟨rfl,rfl,rfl,by decide +kernel,rfl,by decide +kernel,by decide +kernel⟩
theorem ZkP(T:Txt K mg)(ZF:Callee P w K mg base k "_law_mix" ZE){f:Addr}{fd:FuncData}(Fn:Fun K "_law_looks" "_law_looks" ZdE f fd)(hm:mg "_law_looks" = some (.ref f))(hb:Binds K fd ["_law_works_here","_law_cell_here"] []):Callee P w K mg base (k+1) "_law_looks" Zb5 :=
 Zs Fn ZkO hm hb λcdv A outer s H E hr=>by have hu:=ZJ hr;exact(Zk (Zx (Z7 T.n_tuple (ZaQ (Zas rfl rfl (N:=["_law_look","_law_works_here","_law_cell_here"]) (ZK (sc:=Ze ZdE) (XN:=["_law_works_here","_law_cell_here"])) (ZbQ T.n_range (ZbP T.n_len (ZaW (ZX (Zw 0) Zg)))) (λ_ _ _ _ _=>(Zdi (Zaz cGt (Zl ZF hr (Zb (ZC ZbI (Za 2) (ZC Zd0 Zg (Za 0))) (Zb Zg (Zb Zg Zh)))) Zg))) (λ_ _ _ _ _=>(Za 0)))))))
theorem ZkQ:Zu ["thing","least","most"] ["thing","least","most"] (Ze Ze0):=⟨rfl,rfl,rfl,by decide +kernel,rfl,by decide +kernel,by decide +kernel⟩
theorem ZkR(T:Txt K mg){f:Addr}{fd:FuncData}(Fn:Fun K "is_number" "is_number" Ze0 f fd)(hm:mg "is_number" = some (.ref f))(hb:Binds K fd ["thing","least","most"] []):Callee P w K mg base (k+1) "is_number" ZaD :=
 Zs Fn ZkQ hm hb λcdv A outer s H E hr=>by
  have hu:=ZJ hr;exact(Zf (ZaI (Zlq (ZoO (Zbt (Znw T.n_isinstance T.n_bool (Za 0))) (Zlr (Zc4 (Zbt (ZoP T.n_isinstance T.n_int (Za 0))))))) (Zk (Zx Za2)) Z0)
  (Zk (Zx (Zlt cLe cLe (Za 1) (Za 0) (Za 2)))))
theorem Zc8:Zu ["thing","many","least","number"] ["thing","many"] (Ze Ze1):=⟨rfl,rfl,rfl,by decide +kernel,rfl,by decide +kernel,by decide +kernel⟩
theorem ZkS(T:Txt K mg)(ZaY:Callee P w K mg base k "is_number" ZaD){f:Addr}{fd:FuncData}(Fn:Fun K "is_rising" "is_rising" Ze1 f fd)(hm:mg "is_rising" = some (.ref f))(hb:Binds K fd ["thing","many"] []):Callee P w K mg base (k+1) "is_rising" ZT :=
 Zs Fn Zc8 hm hb λcdv A outer s H E hr=>by
  have hu:=ZJ hr;exact(Zf (ZaI (Zc4 (Zbt (Zhl T.n_isinstance T.n_tuple (Za 0)))) (Zk (Zx Za2)) Z0)
  (Zf (Z1 2 Zc8.nd Zg)
  (Zf (ZbO 3 Zc8.nd rfl rfl (Z6 (Za 0)) (Zf (ZaI (Zc4 (Zbt (Zl ZaY hr (Zb (Za 3) (Zb (Za 2) (Zb (ZC Zmw (Za 1) Zg) Zh)))))) (Zk (Zx Za2)) Z0)
  (Zk (Z1 2 Zc8.nd (ZC ZbI (Za 3) Zg)))))
  (Zk (Zx Za2)))))
theorem ZlF:Zu ["thing","many"] ["thing","many"] (Ze ZfM):=⟨rfl,rfl,rfl,by decide +kernel,rfl,by decide +kernel,by decide +kernel⟩
theorem ZlG(T:Txt K mg)(Zad:Callee P w K mg base k "is_rising" ZT){f:Addr}{fd:FuncData}(Fn:Fun K "is_crowd" "is_crowd" ZfM f fd)(hm:mg "is_crowd" = some (.ref f))(hb:Binds K fd ["thing","many"] []):Callee P w K mg base (k+1) "is_crowd" Zcr :=
 Zs Fn ZlF hm hb λcdv A outer s H E hr=>by have hu:=ZJ hr;exact(Zk (Zx (ZeV (Zl Zad hr (Zb (Za 0) (Zb (Za 1) Zh))) (Zef (Zhj cGt (ZbP T.n_len (Zw 0)) Zg)))))
theorem ZoT:Zu ["thing","least","most"] ["thing","least","most"] (Ze Zhy):=⟨rfl,rfl,rfl,by decide +kernel,rfl,by decide +kernel,by decide +kernel⟩
theorem ZoU(T:Txt K mg){f:Addr}{fd:FuncData}(Fn:Fun K "is_row" "is_row" Zhy f fd)(hm:mg "is_row" = some (.ref f))(hb:Binds K fd ["thing","least","most"] []):Callee P w K mg base (k+1) "is_row" ZaB :=
 Zs Fn ZoT hm hb λcdv A outer s H E hr=>by have hu:=ZJ hr;exact(Zk (Zx (ZeV (Zhl T.n_isinstance T.n_tuple (Za 0)) (Zef (Zlt cLe cLe (Za 1) (ZbP T.n_len (Zw 0)) (Za 2))))))
theorem ZnC:Zu ["thing","many"] ["thing","many"] (Ze ZeE):=⟨rfl,rfl,rfl,by decide +kernel,rfl,by decide +kernel,by decide +kernel⟩
theorem ZnD(T:Txt K mg)(Zan:Callee P w K mg base k "is_row" ZaB)(Zad:Callee P w K mg base k "is_rising" ZT){f:Addr}{fd:FuncData}(Fn:Fun K "is_deed" "is_deed" ZeE f fd)(hm:mg "is_deed" = some (.ref f))(hb:Binds K fd ["thing","many"] []):Callee P w K mg base (k+1) "is_deed" ZbR :=
 Zs Fn ZnC hm hb λcdv A outer s H E hr=>by have hu:=ZJ hr;exact(Zk (Zx (ZeV (Zl Zan hr (Zb (Za 0) (Zb (Za 1) (Zb (Za 1) Zh)))) (Zef (Zgg T.n_all rfl (ZaQ (Zas rfl rfl (N:=["crowd","thing","many"]) (ZK (sc:=Ze ZeE) (XN:=["thing","many"])) (Z6 (Za 0)) (λ_ _ _ _ _=>Zbu) (λ_ _ _ _ _=>(Zl Zad hr (Zb (Za 0) (Zb (Za 2) Zh)))))))))))
theorem ZkT:Zu ["thing","many"] ["thing","many"] (Ze Zdy):=⟨rfl,rfl,rfl,by decide +kernel,rfl,by decide +kernel,by decide +kernel⟩
theorem ZkU(T:Txt K mg)(Zan:Callee P w K mg base k "is_row" ZaB)(ZgD:Callee P w K mg base k "is_deed" ZbR){f:Addr}{fd:FuncData}(Fn:Fun K "are_deeds" "are_deeds" Zdy f fd)(hm:mg "are_deeds" = some (.ref f))(hb:Binds K fd ["thing","many"] []):Callee P w K mg base (k+1) "are_deeds" Zb2 :=
 Zs Fn ZkT hm hb λcdv A outer s H E hr=>by have hu:=ZJ hr;exact(Zk (Zx (ZeV (Zl Zan hr (Zb (Za 0) (Zb Zg (Zb (Zid T.c_MOST_DEEDS) Zh)))) (Zef (Zgg T.n_all rfl (ZaQ (Zas rfl rfl (N:=["deed","thing","many"]) (ZK (sc:=Ze Zdy) (XN:=["thing","many"])) (Z6 (Za 0)) (λ_ _ _ _ _=>Zbu) (λ_ _ _ _ _=>(Zl ZgD hr (Zb (Za 0) (Zb (Za 2) Zh)))))))))))
theorem ZnE:Zu ["thing","many"] ["thing","many"] (Ze ZeF):=⟨rfl,rfl,rfl,by decide +kernel,rfl,by decide +kernel,by decide +kernel⟩
theorem ZnF(T:Txt K mg)(Zan:Callee P w K mg base k "is_row" ZaB)(ZaY:Callee P w K mg base k "is_number" ZaD){f:Addr}{fd:FuncData}(Fn:Fun K "is_look" "is_look" ZeF f fd)(hm:mg "is_look" = some (.ref f))(hb:Binds K fd ["thing","many"] []):Callee P w K mg base (k+1) "is_look" ZbS :=
 Zs Fn ZnE hm hb λcdv A outer s H E hr=>by have hu:=ZJ hr;exact(Zk (Zx (ZeV (Zl Zan hr (Zb (Za 0) (Zb (Za 1) (Zb (Za 1) Zh)))) (Zef (Zgg T.n_all rfl (ZaQ (Zas rfl rfl (N:=["told","thing","many"]) (ZK (sc:=Ze ZeF) (XN:=["thing","many"])) (Z6 (Za 0)) (λ_ _ _ _ _=>Zbu) (λ_ _ _ _ _=>(Zl ZaY hr (Zb (Za 0) (Zb Zg (Zb (Zid T.c_MOST_SEEN) Zh))))))))))))
theorem ZkV:Zu ["thing","many"] ["thing","many"] (Ze Zdz):=⟨rfl,rfl,rfl,by decide +kernel,rfl,by decide +kernel,by decide +kernel⟩
theorem ZkW(T:Txt K mg)(Zan:Callee P w K mg base k "is_row" ZaB)(ZgE:Callee P w K mg base k "is_look" ZbS){f:Addr}{fd:FuncData}(Fn:Fun K "are_looks" "are_looks" Zdz f fd)(hm:mg "are_looks" = some (.ref f))(hb:Binds K fd ["thing","many"] []):Callee P w K mg base (k+1) "are_looks" Zb3 :=
 Zs Fn ZkV hm hb λcdv A outer s H E hr=>by have hu:=ZJ hr;exact(Zk (Zx (ZeV (Zl Zan hr (Zb (Za 0) (Zb Zg (Zb (Zid T.c_MOST_LOOKS) Zh)))) (Zef (Zgg T.n_all rfl (ZaQ (Zas rfl rfl (N:=["look","thing","many"]) (ZK (sc:=Ze Zdz) (XN:=["thing","many"])) (Z6 (Za 0)) (λ_ _ _ _ _=>Zbu) (λ_ _ _ _ _=>(Zl ZgE hr (Zb (Za 0) (Zb (Za 2) Zh)))))))))))
theorem Zhd:Zu ["thing","many"] ["thing"] (Ze Ze2):=⟨rfl,rfl,rfl,by decide +kernel,rfl,by decide +kernel,by decide +kernel⟩
theorem ZkX(T:Txt K mg)(ZfV:Callee P w K mg base k "is_crowd" Zcr)(Zad:Callee P w K mg base k "is_rising" ZT)(Zan:Callee P w K mg base k "is_row" ZaB)(ZaY:Callee P w K mg base k "is_number" ZaD)(Ze5:Callee P w K mg base k "are_deeds" Zb2)(Ze6:Callee P w K mg base k "are_looks" Zb3){f:Addr}{fd:FuncData}(Fn:Fun K "are_works" "are_works" Ze2 f fd)(hm:mg "are_works" = some (.ref f))(hb:Binds K fd ["thing"] []):Callee P w K mg base (k+1) "are_works" Zb4 :=
 Zs Fn Zhd hm hb λcdv A outer s H E hr=>by
  have hu:=ZJ hr;exact(Zf (ZaI (Zlq (ZoO (Zc4 (Zbt (Zl Zan hr (Zb (Za 0) (Zb Zg (Zb Zg Zh)))))) (Zlr (Zc4 (Zbt (Zl ZaY hr (Zb (ZX (Zw 0) Zg) (Zb Zg (Zb (Zid T.c_MOST_STATES) Zh))))))))) (Zk (Zx Za2)) Z0)
  (Zf (Z1 1 Zhd.nd (ZX (Zw 0) Zg))
  (Zf (ZaI (Zlq (ZoO (Zc4 (Zbt (Zl Ze5 hr (Zb (ZX (Zw 0) Zg) (Zb (Za 1) Zh))))) (Zlr (Zc4 (Zbt (Zl Ze6 hr (Zb (ZX (Zw 0) Zg) (Zb (Za 1) Zh)))))))) (Zk (Zx Za2)) Z0)
  (Zk (Zx (ZeV (Zl ZfV hr (Zb (ZX (Zw 0) Zg) (Zb (Za 1) Zh))) (Zef (Zl Zad hr (Zb (ZX (Zw 0) Zg) (Zb (Za 1) Zh))))))))))
theorem ZnG:Zu ["works"] ["works"] (Ze ZgA):=⟨rfl,rfl,rfl,by decide +kernel,rfl,by decide +kernel,by decide +kernel⟩
theorem ZnH(T:Txt K mg)(Ze7:Callee P w K mg base k "are_works" Zb4){f:Addr}{fd:FuncData}(Fn:Fun K "checked" "checked" ZgA f fd)(hm:mg "checked" = some (.ref f))(hb:Binds K fd ["works"] []):Callee P w K mg base (k+1) "checked" ZcU :=
 Zs Fn ZnG hm hb λcdv A outer s H E hr=>by
  have hu:=ZJ hr;exact(Zf (ZaI (Zc4 (Zbt (Zl Ze7 hr (Zb (Za 0) Zh)))) (Zk Zlu) Z0)
  (Zk (Zx (Za 0))))
theorem ZlH:Zu ["works"] ["works"] (Ze ZfO):=⟨rfl,rfl,rfl,by decide +kernel,rfl,by decide +kernel,by decide +kernel⟩
theorem ZlI(T:Txt K mg){f:Addr}{fd:FuncData}(Fn:Fun K "looks_of" "looks_of" ZfO f fd)(hm:mg "looks_of" = some (.ref f))(hb:Binds K fd ["works"] []):Callee P w K mg base (k+1) "looks_of" Zby :=
 Zs Fn ZlH hm hb λcdv A outer s H E hr=>by have hu:=ZJ hr;exact(Zk (Zx (ZX (Zw 0) Zg)))
theorem Ziw:Zu ["works","looks"] ["works","looks"] (Ze Zdb):=⟨rfl,rfl,rfl,by decide +kernel,rfl,by decide +kernel,by decide +kernel⟩
theorem Zix(T:Txt K mg)(Zad:Callee P w K mg base k "is_rising" ZT)(Zcx:Callee P w K mg base k "looks_of" Zby){f:Addr}{fd:FuncData}(Fn:Fun K "checked_looks" "checked_looks" Zdb f fd)(hm:mg "checked_looks" = some (.ref f))(hb:Binds K fd ["works","looks"] []):Callee P w K mg base (k+1) "checked_looks" Za8 :=
 Zs Fn Ziw hm hb λcdv A outer s H E hr=>by
  have hu:=ZJ hr;exact(Zf (ZaI (Zc4 (Zbt (Zl Zad hr (Zb (Za 1) (Zb (ZbP T.n_len (ZaW (Zl Zcx hr (Zb (Za 0) Zh)))) Zh))))) (Zk Zlu) Z0)
  (Zk (Zx (Za 1))))
theorem ZlJ:Zu ["works"] ["works"] (Ze ZfP):=⟨rfl,rfl,rfl,by decide +kernel,rfl,by decide +kernel,by decide +kernel⟩
theorem ZlK(T:Txt K mg){f:Addr}{fd:FuncData}(Fn:Fun K "begin_of" "begin_of" ZfP f fd)(hm:mg "begin_of" = some (.ref f))(hb:Binds K fd ["works"] []):Callee P w K mg base (k+1) "begin_of" Zc5 :=
 Zs Fn ZlJ hm hb λcdv A outer s H E hr=>by have hu:=ZJ hr;exact(Zk (Zx (ZX (Zw 0) Zg)))
theorem Zhe:Zu ["rows"] ["rows"] (Ze Zb7):=⟨rfl,rfl,rfl,by decide +kernel,rfl,by decide +kernel,by decide +kernel⟩
theorem ZjO(T:Txt K mg){f:Addr}{fd:FuncData}(Fn:Fun K "crowds_in" "crowds_in" Zb7 f fd)(hm:mg "crowds_in" = some (.ref f))(hb:Binds K fd ["rows"] []):Zdl P w K mg base (k+1) "crowds_in" ZH :=
 ZpI Fn Zhe hm hb rfl (λr b h=>Zr1 _ _ _ r b h) λcdv A outer s H E hr=>by have hu:=ZJ hr;exact(Zas rfl rfl (N:=["row","rows"]) (ZK (sc:=Ze Zb7) (XN:=["rows"])) (Z6 (Za 0)) (λ_ _ _ _ _=>Zbu) (λ_ _ _ _ _=>(ZX (Zw 0) Zg)))
theorem ZkY(T:Txt K mg){f:Addr}{fd:FuncData}(Fn:Fun K "crowds_in" "crowds_in" Zb7 f fd)(hm:mg "crowds_in" = some (.ref f))(hb:Binds K fd ["rows"] []):Callee P w K mg base (k+1) "crowds_in" ZH :=
 Zs Fn Zhe hm hb λcdv A outer s H E hr=>by have hu:=ZJ hr;exact(Zk (Zx (ZeC (Zas rfl rfl (N:=["row","rows"]) (ZK (sc:=Ze Zb7) (XN:=["rows"])) (Z6 (Za 0)) (λ_ _ _ _ _=>Zbu) (λ_ _ _ _ _=>(ZX (Zw 0) Zg))))))
theorem ZeB:Zu ["rows","costs","known"] ["rows","costs"] (Ze Zci):=⟨rfl,rfl,rfl,by decide +kernel,rfl,by decide +kernel,by decide +kernel⟩
theorem Ziy(T:Txt K mg)(Zbi:Callee P w K mg base k "crowds_in" ZH){f:Addr}{fd:FuncData}(Fn:Fun K "cost_at_worst" "cost_at_worst" Zci f fd)(hm:mg "cost_at_worst" = some (.ref f))(hb:Binds K fd ["rows","costs"] []):Callee P w K mg base (k+1) "cost_at_worst" Z4 :=
 Zs Fn ZeB hm hb λcdv A outer s H E hr=>by
  have hu:=ZJ hr;exact(Zf (Zds 2 ZeB.nd rfl rfl (N:=["part","rows","costs","known"]) (ZK (sc:=Ze Zci) (XN:=["rows","costs","known"])) (Z6 (Zl Zbi hr (Zb (Za 0) Zh))) (λ_ _ _ _ _=>(Zdi (ZtG hu (Za 0) (Zw 2)))) (λ_ _ _ _ _=>(Zgh hu (Zw 2) (Za 0))))
  (Zk (Zx (Zsq (Zaz (cEq hr) (ZbP T.n_len (Zw 2)) (ZbP T.n_len (Zw 0))) (ZsD T.n_max rfl (Zw 2)) Zdh))))
theorem ZhB:Zu ["way","depths","most"] ["way","depths"] (Ze Zd9):=⟨rfl,rfl,rfl,by decide +kernel,rfl,by decide +kernel,by decide +kernel⟩
theorem ZlL(T:Txt K mg)(Zba:Callee P w K mg base k "cost_at_worst" Z4){f:Addr}{fd:FuncData}(Fn:Fun K "deeds_by" "deeds_by" Zd9 f fd)(hm:mg "deeds_by" = some (.ref f))(hb:Binds K fd ["way","depths"] []):Callee P w K mg base (k+1) "deeds_by" Zcv :=
 Zs Fn ZhB hm hb λcdv A outer s H E hr=>by
  have hu:=ZJ hr;exact(Zf (Z1 2 ZhB.nd (Zl Zba hr (Zb (ZX (Zw 0) Zg) (Zb (Za 1) Zh))))
  (Zk (Zx (Zsq (Zaz Zum (Za 2) Zdh) Zdh (ZC ZbI (Za 2) Zg)))))
theorem ZnI:Zu ["works","looks","state"] ["works","looks","state"] (Ze ZeG):=⟨rfl,rfl,rfl,by decide +kernel,rfl,by decide +kernel,by decide +kernel⟩
theorem ZnJ(T:Txt K mg)(Zcx:Callee P w K mg base k "looks_of" Zby){f:Addr}{fd:FuncData}(Fn:Fun K "seen_in" "seen_in" ZeG f fd)(hm:mg "seen_in" = some (.ref f))(hb:Binds K fd ["works","looks","state"] []):Callee P w K mg base (k+1) "seen_in" ZcV :=
 Zs Fn ZnI hm hb λcdv A outer s H E hr=>by have hu:=ZJ hr;exact(Zk (Zx (Z7 T.n_tuple (ZaQ (Zas rfl rfl (N:=["look","works","looks","state"]) (ZK (sc:=Ze ZeG) (XN:=["works","looks","state"])) (Z6 (Za 1)) (λ_ _ _ _ _=>Zbu) (λ_ _ _ _ _=>(ZX (ZaW (ZX (ZaW (Zl Zcx hr (Zb (Za 1) Zh))) (Za 0))) (Za 3))))))))
theorem ZgF:Zu ["works","looks","crowd","found","state"] ["works","looks","crowd"] (Ze Zfz):=⟨rfl,rfl,rfl,by decide +kernel,rfl,by decide +kernel,by decide +kernel⟩
theorem ZoV(T:Txt K mg)(ZgG:Callee P w K mg base k "seen_in" ZcV){f:Addr}{fd:FuncData}(Fn:Fun K "parted" "parted" Zfz f fd)(hm:mg "parted" = some (.ref f))(hb:Binds K fd ["works","looks","crowd"] []):Callee P w K mg base (k+1) "parted" ZaO :=
 Zs Fn ZgF hm hb λcdv A outer s H E hr=>by
  have hu:=ZJ hr;exact(Zf (ZaC 3 ZgF.nd ZpT)
  (Zf (ZbO 4 ZgF.nd rfl rfl (Z6 (Za 2)) (Zk (Zrc hu 3 (Zl ZgG hr (Zb (Za 0) (Zb (Za 1) (Zb (Za 4) Zh)))) (Za 4) ⟨rfl,rfl,rfl,rfl⟩)))
  (Zk (Zx (ZeC (Zas rfl rfl (N:=["seen","works","looks","crowd","found","state"]) (ZK (sc:=Ze Zfz) (XN:=["works","looks","crowd","found","state"])) (Z6 (ZeC (Zfy T.n_sorted rfl (Zw 3)))) (λ_ _ _ _ _=>Zbu) (λ_ _ _ _ _=>(Zeg (Zb (Za 0) (Zb (Z7 T.n_tuple (ZpU hu 4 (Za 0))) Zh))))))))))
theorem ZlM:Zu ["works"] ["works"] (Ze ZfN):=⟨rfl,rfl,rfl,by decide +kernel,rfl,by decide +kernel,by decide +kernel⟩
theorem ZlN(T:Txt K mg){f:Addr}{fd:FuncData}(Fn:Fun K "deeds_of" "deeds_of" ZfN f fd)(hm:mg "deeds_of" = some (.ref f))(hb:Binds K fd ["works"] []):Callee P w K mg base (k+1) "deeds_of" ZaT :=
 Zs Fn ZlM hm hb λcdv A outer s H E hr=>by have hu:=ZJ hr;exact(Zk (Zx (ZX (Zw 0) Zg)))
theorem ZfA:Zu ["works","crowd","deed","leads"] ["works","crowd","deed"] (Ze ZcX):=⟨rfl,rfl,rfl,by decide +kernel,rfl,by decide +kernel,by decide +kernel⟩
theorem Zjh(T:Txt K mg)(Zbf:Callee P w K mg base k "deeds_of" ZaT){f:Addr}{fd:FuncData}(Fn:Fun K "can_be_done" "can_be_done" ZcX f fd)(hm:mg "can_be_done" = some (.ref f))(hb:Binds K fd ["works","crowd","deed"] []):Callee P w K mg base (k+1) "can_be_done" ZbA :=
 Zs Fn ZfA hm hb λcdv A outer s H E hr=>by
  have hu:=ZJ hr;exact(Zf (Z1 3 ZfA.nd (ZX (ZaW (Zl Zbf hr (Zb (Za 0) Zh))) (Za 2)))
  (Zk (Zx (Zgg T.n_all rfl (ZaQ (Zas rfl rfl (N:=["state","works","crowd","deed","leads"]) (ZK (sc:=Ze ZcX) (XN:=["works","crowd","deed","leads"])) (Z6 (Za 1)) (λ_ _ _ _ _=>Zbu) (λ_ _ _ _ _=>(Zhj cGt (ZbP T.n_len (ZaW (ZX (Zw 4) (Za 0)))) Zg))))))))
theorem ZjP:Zu ["works","crowd"] ["works","crowd"] (Ze Zc7):=⟨rfl,rfl,rfl,by decide +kernel,rfl,by decide +kernel,by decide +kernel⟩
theorem ZjQ(T:Txt K mg)(ZdQ:Callee P w K mg base k "can_be_done" ZbA)(Zbf:Callee P w K mg base k "deeds_of" ZaT){f:Addr}{fd:FuncData}(Fn:Fun K "deeds_with" "deeds_with" Zc7 f fd)(hm:mg "deeds_with" = some (.ref f))(hb:Binds K fd ["works","crowd"] []):Callee P w K mg base (k+1) "deeds_with" ZbL :=
 Zs Fn ZjP hm hb λcdv A outer s H E hr=>by have hu:=ZJ hr;exact(Zk (Zx (ZeC (Zas rfl rfl (N:=["deed","works","crowd"]) (ZK (sc:=Ze Zc7) (XN:=["works","crowd"])) (ZbQ T.n_range (ZbP T.n_len (ZaW (Zl Zbf hr (Zb (Za 0) Zh))))) (λ_ _ _ _ _=>(Zdi (Zbt (Zl ZdQ hr (Zb (Za 1) (Zb (Za 2) (Zb (Za 0) Zh))))))) (λ_ _ _ _ _=>(Za 0))))))
theorem ZdH:Zu ["works","crowd","deed","leads","found","state","target"] ["works","crowd","deed"] (Ze Zhz):=⟨rfl,rfl,rfl,by decide +kernel,rfl,by decide +kernel,by decide +kernel⟩
theorem ZoW(T:Txt K mg)(Zbf:Callee P w K mg base k "deeds_of" ZaT){f:Addr}{fd:FuncData}(Fn:Fun K "led_to" "led_to" Zhz f fd)(hm:mg "led_to" = some (.ref f))(hb:Binds K fd ["works","crowd","deed"] []):Callee P w K mg base (k+1) "led_to" ZcF :=
 Zs Fn ZdH hm hb λcdv A outer s H E hr=>by
  have hu:=ZJ hr;exact(Zf (Z1 3 ZdH.nd (ZX (ZaW (Zl Zbf hr (Zb (Za 0) Zh))) (Za 2)))
  (Zf (ZaC 4 ZdH.nd Zu4)
  (Zf (ZbO 5 ZdH.nd rfl rfl (Z6 (Za 1)) (Zk (ZbO 6 ZdH.nd rfl rfl (Z6 (ZX (Zw 3) (Za 5))) (Zk (Zhm hu 4 (Za 6) Za2)))))
  (Zk (Zx (Z7 T.n_tuple (ZaQ (Zfy T.n_sorted rfl (Zw 4)))))))))
theorem ZkZ:Zu ["works","looks","crowd"] ["works","looks","crowd"] (Ze ZdB):=⟨rfl,rfl,rfl,by decide +kernel,rfl,by decide +kernel,by decide +kernel⟩
theorem Zk0(T:Txt K mg)(ZbU:Callee P w K mg base k "parted" ZaO)(Zet:Callee P w K mg base k "deeds_with" ZbL)(ZhC:Callee P w K mg base k "led_to" ZcF){f:Addr}{fd:FuncData}(Fn:Fun K "ways_with" "ways_with" ZdB f fd)(hm:mg "ways_with" = some (.ref f))(hb:Binds K fd ["works","looks","crowd"] []):Callee P w K mg base (k+1) "ways_with" ZaG :=
 Zs Fn ZkZ hm hb λcdv A outer s H E hr=>by have hu:=ZJ hr;exact(Zk (Zx (ZeC (Zas rfl rfl (N:=["deed","works","looks","crowd"]) (ZK (sc:=Ze ZdB) (XN:=["works","looks","crowd"])) (Z6 (Zl Zet hr (Zb (Za 0) (Zb (Za 2) Zh)))) (λ_ _ _ _ _=>Zbu) (λ_ _ _ _ _=>(Zeg (Zb (Za 0) (Zb (Zl ZbU hr (Zb (Za 1) (Zb (Za 2) (Zb (Zl ZhC hr (Zb (Za 1) (Zb (Za 3) (Zb (Za 0) Zh)))) Zh)))) Zh))))))))
theorem Zgj:Zu ["ways","costs","cost_by","told"] ["ways","costs","cost_by"] (Ze Zco):=⟨rfl,rfl,rfl,by decide +kernel,rfl,by decide +kernel,by decide +kernel⟩
theorem ZjR(T:Txt K mg)(CV:Zdm P w K mg base k ap){f:Addr}{fd:FuncData}(Fn:Fun K "least_cost" "least_cost" Zco f fd)(hm:mg "least_cost" = some (.ref f))(hb:Binds K fd ["ways","costs","cost_by"] []):Callee P w K mg base (k+1) "least_cost" (Zbr ap) :=
 Zs Fn Zgj hm hb λcdv A outer s H E hr=>by
  have hu:=ZJ hr;exact(Zf (Zds 3 Zgj.nd rfl rfl (N:=["way","ways","costs","cost_by","told"]) (ZK (sc:=Ze Zco) (XN:=["ways","costs","cost_by","told"])) (Z6 (Za 0)) (λ_ _ _ _ _=>Zbu) (λ_ _ _ _ _=>(Zlz CV hr 3 (Zb (Za 0) (Zb (Za 2) Zh)))))
  (Zk (Zgf 3 (Zx (Zof T.n_min rfl (ZaQ (Zas rfl rfl (N:=["cost","ways","costs","cost_by","told"]) (ZK (sc:=Ze Zco) (XN:=["ways","costs","cost_by","told"])) (Z6 (Za 3)) (λ_ _ _ _ _=>(Zdi (Zaz Zpb (Za 0) Zdh))) (λ_ _ _ _ _=>(Za 0)))))))))
theorem ZcY:Zu ["reach","costs","cost_by","found","crowd","cost"] ["reach","costs","cost_by"] (Ze Zer):=⟨rfl,rfl,rfl,by decide +kernel,rfl,by decide +kernel,by decide +kernel⟩
theorem Zjn(T:Txt K mg)(Zeu:Callee P w K mg base k "least_cost" (Zbr ap)){f:Addr}{fd:FuncData}(Fn:Fun K "next_costs" "next_costs" Zer f fd)(hm:mg "next_costs" = some (.ref f))(hb:Binds K fd ["reach","costs","cost_by"] []):Zdn P w K mg base (k+1) "next_costs" (Za3 ap) :=
 ZpA Fn ZcY hm hb λcdv A outer s H E hr=>by
  have hu:=ZJ hr;exact(Znn (ZaC 3 ZcY.nd ZoQ)
  (Znn (Zie 0 (ZbO 4 ZcY.nd rfl rfl (Zif 0) (Zk (ZaI (Zkm hu (Za 4) (Zw 1)) (Zf (Z1 5 ZcY.nd (Zl Zeu hr (Zb (Zgh hu (Zw 0) (Za 4)) (Zb (Za 1) (Zb (Za 2) Zh)))))
  (Zk (ZaI (Zaz Zpb (Za 5) Zdh) (Zk (Zhm hu 3 (Za 4) (Za 5))) Z0))) Z0))))
  (Ztn 3)))
theorem ZnK:Zu ["works"] ["works"] (Ze Zgz):=⟨rfl,rfl,rfl,by decide +kernel,rfl,by decide +kernel,by decide +kernel⟩
theorem ZnL(T:Txt K mg){f:Addr}{fd:FuncData}(Fn:Fun K "goal_of" "goal_of" Zgz f fd)(hm:mg "goal_of" = some (.ref f))(hb:Binds K fd ["works"] []):Callee P w K mg base (k+1) "goal_of" ZcW :=
 Zs Fn ZnK hm hb λcdv A outer s H E hr=>by have hu:=ZJ hr;exact(Zk (Zx (ZX (Zw 0) Zg)))
theorem ZlO:Zu ["works","crowd"] ["works","crowd"] (Ze Zd8):=⟨rfl,rfl,rfl,by decide +kernel,rfl,by decide +kernel,by decide +kernel⟩
theorem ZlP(T:Txt K mg)(ZgH:Callee P w K mg base k "goal_of" ZcW){f:Addr}{fd:FuncData}(Fn:Fun K "is_there" "is_there" Zd8 f fd)(hm:mg "is_there" = some (.ref f))(hb:Binds K fd ["works","crowd"] []):Callee P w K mg base (k+1) "is_there" Zbe :=
 Zs Fn ZlO hm hb λcdv A outer s H E hr=>by have hu:=ZJ hr;exact(Zk (Zx (Zgg T.n_all rfl (ZaQ (Zas rfl rfl (N:=["state","works","crowd"]) (ZK (sc:=Ze Zd8) (XN:=["works","crowd"])) (Z6 (Za 1)) (λ_ _ _ _ _=>Zbu) (λ_ _ _ _ _=>(ZtF (Za 0) (ZaW (Zl ZgH hr (Zb (Za 1) Zh))))))))))
theorem Zbj:Zu ["works","reach","cost_by","costs","cost","found","crowd","offered"] ["works","reach","cost_by"] (Ze Zcw):=⟨rfl,rfl,rfl,by decide +kernel,rfl,by decide +kernel,by decide +kernel⟩
theorem ZlQ(T:Txt K mg)(ZfW:Callee P w K mg base k "is_there" Zbe)(Gf_next_costs:Zdn P w K mg base k "next_costs" (Za3 ap)){f:Addr}{fd:FuncData}(Fn:Fun K "costs_of" "costs_of" Zcw f fd)(hm:mg "costs_of" = some (.ref f))(hb:Binds K fd ["works","reach","cost_by"] []):Callee P w K mg base (k+1) "costs_of" (Zcu ap) :=
 Zs Fn Zbj hm hb λcdv A outer s H E hr=>by
  have hu:=ZJ hr;exact(Zf (ZaC 3 Zbj.nd ZoQ)
  (Zf (Z1 4 Zbj.nd Zg)
  (Zf (Zie 1 (Zds 5 Zbj.nd rfl rfl (N:=["crowd","works","reach","cost_by","costs","cost","found"," ","offered"]) (ZK (sc:=Ze Zcw) (XN:=["works","reach","cost_by","costs","cost","found","crowd","offered"])) (Zif 1) (λ_ _ _ _ _=>(Zdi (Zbt (Zl ZfW hr (Zb (Za 1) (Zb (Za 0) Zh)))))) (λ_ _ _ _ _=>(Za 0))))
  (Zf (Zlx 100000 rfl (Zaz cGt (ZbP T.n_len (Zw 5)) Zg) (Zf (Zgf 5 (ZbO 6 Zbj.nd rfl rfl (Z6 (Za 5)) (Zk (Zhm hu 3 (Za 6) (Za 4)))))
  (Zf (ZaC 7 Zbj.nd (Zrf Gf_next_costs hr (Zly (Za 1) (Zrd (Zw 3) (Zly (Za 2) (ZtH Zh))))))
  (Zf (Zgf 7 (Zie 7 (Z1 4 Zbj.nd (Zof T.n_min rfl (ZaQ (Zas rfl rfl (N:=["crowd","works","reach","cost_by","costs","cost","found"," ","offered"]) (ZK (sc:=Ze Zcw) (XN:=["works","reach","cost_by","costs","cost","found","crowd","offered"])) (Zif 7) (λ_ _ _ _ _=>Zbu) (λ_ _ _ _ _=>(Zgh hu (Zw 8) (Za 0)))))))))
  (Zk (Zgf 7 (Zie 7 (Zds 5 Zbj.nd rfl rfl (N:=["crowd","works","reach","cost_by","costs","cost","found"," ","offered"]) (ZK (sc:=Ze Zcw) (XN:=["works","reach","cost_by","costs","cost","found","crowd","offered"])) (Zif 7) (λ_ _ _ _ _=>(Zdi (Zaz (cEq hr) (Zgh hu (Zw 8) (Za 0)) (Za 5)))) (λ_ _ _ _ _=>(Za 0))))))))))
  (Zk (Zgf 3 (Zx (Za 3))))))))
theorem Zk1:Zu ["works","coming"] ["works","coming"] (Ze Ze3):=⟨rfl,rfl,rfl,by decide +kernel,rfl,by decide +kernel,by decide +kernel⟩
theorem Zk2(T:Txt K mg)(ZfX:Callee P w K mg base k "costs_of" (Zcu ap))(Vff_deeds_by:GFn mg "deeds_by" 0){f:Addr}{fd:FuncData}(Fn:Fun K "depths_of" "depths_of" Ze3 f fd)(hm:mg "depths_of" = some (.ref f))(hb:Binds K fd ["works","coming"] []):Callee P w K mg base (k+1) "depths_of" (ZcK ap) :=
 Zs Fn Zk1 hm hb λcdv A outer s H E hr=>by have hu:=ZJ hr;exact(Zk (Zx (Zl ZfX hr (Zb (Za 0) (Zb (Za 1) (Zb (ZtJ Vff_deeds_by) Zh))))))
theorem ZbF:Zu ["crowds","ways_for","reach","waiting","crowd","way"] ["crowds","ways_for"] (Ze ZdA):=⟨rfl,rfl,rfl,by decide +kernel,rfl,by decide +kernel,by decide +kernel⟩
theorem ZiQ(T:Txt K mg)(Zbi:Callee P w K mg base k "crowds_in" ZH)(Ze8:Zdl P w K mg base k "crowds_in" ZH)(CV:Zdm P w K mg base k ap){f:Addr}{fd:FuncData}(Fn:Fun K "reached_from" "reached_from" ZdA f fd)(hm:mg "reached_from" = some (.ref f))(hb:Binds K fd ["crowds","ways_for"] []):Callee P w K mg base (k+1) "reached_from" (Zbp ap) :=
 Zs Fn ZbF hm hb λcdv A outer s H E hr=>by
  have hu:=ZJ hr;exact(Zf (ZaC 2 ZbF.nd ZoQ)
  (Zf (ZaC 3 ZbF.nd (Zhk T.n_list (Zw 0)))
  (Zf (Zlx 100000 rfl (Zaz cGt (ZbP T.n_len (Zw 3)) Zg) (Zf (ZtI 4 3 ZbF.nd)
  (Zk (ZaI (Zkm hu (Za 4) (Zw 2)) (Zf (Zhm hu 2 (Za 4) (Zlz CV hr 1 (Zb (Za 4) Zh)))
  (Zk (ZbO 5 ZbF.nd rfl rfl (Z6 (Zgh hu (Zw 2) (Za 4))) (Zk (ZpX 3 (ZaQ (Zre Ze8 hr (Zb (ZX (Zw 5) Zg) Zh)))))))) Z0))))
  (Zk (Zgf 2 (Zx (Za 2)))))))
theorem Zji:Zu ["works","looks","crowd"] ["works","looks","crowd"] (Ze ZM):=⟨rfl,rfl,rfl,by decide +kernel,rfl,by decide +kernel,by decide +kernel⟩
theorem ZuY:Zpd ["works","looks","crowd"] (Ze ZM) (Zkk ZM) ["works","looks"] [0,1]=true:=by decide +kernel
theorem Zjj(T:Txt K mg)(ZdI:Callee P w K mg base k "reached_from" (Zbp ap))(Zbi:Callee P w K mg base k "crowds_in" ZH)(ZbU:Callee P w K mg base k "parted" ZaO)(ZcM:Callee P w K mg base k "ways_with" ZaG){c T:Addr}(hc:Zx3 K c T=true)(ht:(T,("coming_from.<locals>.<lambda>":Str))∈FX.tl)(hq:∀q,(T,q)∈FX.tl->q=("coming_from.<locals>.<lambda>":Str))(bm:BMod base mg)(good:∀F p cs,Clo K F p (Zuy ZM) (Zsh ZM) (Zkk ZM) ["works","looks"] cs->FX.fv 1 cs F p){f:Addr}{fd:FuncData}(Fn:Zpw K "coming_from" "coming_from" ZM f fd c)(hm:mg "coming_from" = some (.ref f))(hb:Binds K fd ["works","looks","crowd"] []):Callee P w K mg base (k+1) "coming_from" (Zb6 ap) :=
 Zpu Fn Zji hm hb λA outer s H E hr=>by have hu:=ZJ hr;exact(Zk (Zx (ZoR ZdI hr (ZrG ZuY hc ht hq bm good) (Zl Zbi hr (Zb (Zl ZbU hr (Zb (Za 0) (Zb (Za 1) (Zb (Za 2) Zh)))) Zh)))))
theorem ZgI:Zu ["works","looks","begin","depths"] ["works","looks"] (Ze ZhA):=⟨rfl,rfl,rfl,by decide +kernel,rfl,by decide +kernel,by decide +kernel⟩
theorem ZoX(T:Txt K mg)(ZgJ:Callee P w K mg base k "checked" ZcU)(Zdc:Callee P w K mg base k "checked_looks" Za8)(ZfY:Callee P w K mg base k "begin_of" Zc5)(Ze9:Callee P w K mg base k "depths_of" (ZcK ap))(Zba:Callee P w K mg base k "cost_at_worst" Z4)(ZdR:Callee P w K mg base k "coming_from" (Zb6 ap))(ZbU:Callee P w K mg base k "parted" ZaO){f:Addr}{fd:FuncData}(Fn:Fun K "fewest" "fewest" ZhA f fd)(hm:mg "fewest" = some (.ref f))(hb:Binds K fd ["works","looks"] []):Callee P w K mg base (k+1) "fewest" (Zei ap) :=
 Zs Fn ZgI hm hb λcdv A outer s H E hr=>by
  have hu:=ZJ hr;exact(Zf (Zoe (Zl ZgJ hr (Zb (Za 0) Zh)))
  (Zf (Zoe (Zl Zdc hr (Zb (Za 0) (Zb (Za 1) Zh))))
  (Zf (Z1 2 ZgI.nd (Zl ZfY hr (Zb (Za 0) Zh)))
  (Zf (Z1 3 ZgI.nd (Zl Ze9 hr (Zb (Za 0) (Zb (Zl ZdR hr (Zb (Za 0) (Zb (Za 1) (Zb (Za 2) Zh)))) Zh))))
  (Zk (Zx (Zl Zba hr (Zb (Zl ZbU hr (Zb (Za 0) (Zb (Za 1) (Zb (Za 2) Zh)))) (Zb (Za 3) Zh)))))))))
theorem Zk3:Zu ["_law_works_here","_law_crowd_here"] ["_law_works_here","_law_crowd_here"] (Ze ZdF):=⟨rfl,rfl,rfl,by decide +kernel,rfl,by decide +kernel,by decide +kernel⟩
theorem Zk4(T:Txt K mg){f:Addr}{fd:FuncData}(Fn:Fun K "_law_there" "_law_there" ZdF f fd)(hm:mg "_law_there" = some (.ref f))(hb:Binds K fd ["_law_works_here","_law_crowd_here"] []):Callee P w K mg base (k+1) "_law_there" ZbC :=
 Zs Fn Zk3 hm hb λcdv A outer s H E hr=>by have hu:=ZJ hr;exact(Zk (Zx (Zhj (cEq hr) (ZeC (Zas rfl rfl (N:=["_law_state","_law_works_here","_law_crowd_here"]) (ZK (sc:=Ze ZdF) (XN:=["_law_works_here","_law_crowd_here"])) (Z6 (Za 1)) (λ_ _ _ _ _=>(Zdi (ZpW (Za 0) (ZaW (ZX (Zw 1) Zg))))) (λ_ _ _ _ _=>(Za 0)))) (ZeC (Zcm Zh)))))
theorem Zea:Zu ["_law_works_here","_law_crowd_here","_law_deed_here","_law_found","_law_state"] ["_law_works_here","_law_crowd_here","_law_deed_here"] (Ze ZgC):=⟨rfl,rfl,rfl,by decide +kernel,rfl,by decide +kernel,by decide +kernel⟩
theorem ZnM(T:Txt K mg){f:Addr}{fd:FuncData}(Fn:Fun K "_law_led" "_law_led" ZgC f fd)(hm:mg "_law_led" = some (.ref f))(hb:Binds K fd ["_law_works_here","_law_crowd_here","_law_deed_here"] []):Callee P w K mg base (k+1) "_law_led" ZbT :=
 Zs Fn Zea hm hb λcdv A outer s H E hr=>by
  have hu:=ZJ hr;exact(Zf (ZaC 3 Zea.nd (Zcm Zh))
  (Zf (ZbO 4 Zea.nd rfl rfl (Z6 (Za 1)) (Zf (ZaI (Zaz (cEq hr) (ZX (ZaW (ZX (ZaW (ZX (Zw 0) Zg)) (Za 2))) (Za 4)) (Zeg Zh)) (Zk (Zx Zdh)) Z0)
  (Zk (ZaC 3 Zea.nd (Zlw (Zw 3) (ZaQ (Zhk T.n_list (ZaW (ZX (ZaW (ZX (ZaW (ZX (Zw 0) Zg)) (Za 2))) (Za 4))))))))))
  (Zk (Zx (Z7 T.n_tuple (ZaQ (Zhn T.n_sorted T.n_set rfl (Zw 3))))))))
theorem Zc9:Zu ["_law_works_here","_law_looks_here","_law_crowd_here","_law_found","_law_state","_law_seen"] ["_law_works_here","_law_looks_here","_law_crowd_here"] (Ze ZcL):=⟨rfl,rfl,rfl,by decide +kernel,rfl,by decide +kernel,by decide +kernel⟩
theorem Zk5(T:Txt K mg){f:Addr}{fd:FuncData}(Fn:Fun K "_law_split" "_law_split" ZcL f fd)(hm:mg "_law_split" = some (.ref f))(hb:Binds K fd ["_law_works_here","_law_looks_here","_law_crowd_here"] []):Callee P w K mg base (k+1) "_law_split" Zbh :=
 Zs Fn Zc9 hm hb λcdv A outer s H E hr=>by
  have hu:=ZJ hr;exact(Zf (ZaC 3 Zc9.nd ZpT)
  (Zf (ZbO 4 Zc9.nd rfl rfl (Z6 (Za 2)) (Zf (Z1 5 Zc9.nd (Z7 T.n_tuple (ZaQ (Zas rfl rfl (N:=["_law_look","_law_works_here","_law_looks_here","_law_crowd_here","_law_found","_law_state","_law_seen"]) (ZK (sc:=Ze ZcL) (XN:=["_law_works_here","_law_looks_here","_law_crowd_here","_law_found","_law_state","_law_seen"])) (Z6 (Za 1)) (λ_ _ _ _ _=>Zbu) (λ_ _ _ _ _=>(ZX (ZaW (ZX (ZaW (ZX (Zw 1) Zg)) (Za 0))) (Za 5)))))))
  (Zf (ZaI (Zq9 hu (Za 5) (Zw 3)) (Zk (ZpV hu 3 (Za 5))) Z0)
  (Zk (Zrb hu 3 (Za 5) (Za 4))))))
  (Zk (Zx (ZeC (Zas rfl rfl (N:=["_law_seen","_law_works_here","_law_looks_here","_law_crowd_here","_law_found","_law_state"," "]) (ZK (sc:=Ze ZcL) (XN:=["_law_works_here","_law_looks_here","_law_crowd_here","_law_found","_law_state","_law_seen"])) (Z6 (ZeC (Zfy T.n_sorted rfl (Zw 3)))) (λ_ _ _ _ _=>Zbu) (λ_ _ _ _ _=>(Zeg (Zb (Za 0) (Zb (Z7 T.n_tuple (ZpU hu 4 (Za 0))) Zh))))))))))
theorem Zdd:Zu ["_law_works_here","_law_looks_here","_law_part","_law_turns","_law_deed_here","_law_other"] ["_law_works_here","_law_looks_here","_law_part","_law_turns"] (Ze ZcD):=⟨rfl,rfl,rfl,by decide +kernel,rfl,by decide +kernel,by decide +kernel⟩
theorem Zfa(T:Txt K mg){R:List PyData->Option PyData}(Zb9:Callee P w K mg base k "_law_there" ZbC)(ZcZ:Callee P w K mg base k "_law_led" ZbT)(ZbV:Callee P w K mg base k "_law_can" R){f:Addr}{fd:FuncData}(Fn:Fun K "_law_can_part" "_law_can_part" ZcD f fd)(hm:mg "_law_can_part" = some (.ref f))(hb:Binds K fd ["_law_works_here","_law_looks_here","_law_part","_law_turns"] []):Callee P w K mg base (k+1) "_law_can_part" (ZaX R) :=
 Zs Fn Zdd hm hb λcdv A outer s H E hr=>by
  have hu:=ZJ hr;exact(Zf (ZaI (Zbt (Zl Zb9 hr (Zb (Za 0) (Zb (Za 2) Zh)))) (Zk (Zx Za2)) Z0)
  (Zf (ZaI (Zaz (cEq hr) (Za 3) Zg) (Zk (Zx Za2)) Z0)
  (Zf (ZbO 4 Zdd.nd rfl rfl (ZbQ T.n_range (ZbP T.n_len (ZaW (ZX (Zw 0) Zg)))) (Zf (Z1 5 Zdd.nd (Zl ZcZ hr (Zb (Za 0) (Zb (Za 2) (Zb (Za 4) Zh)))))
  (Zk (ZaI (Zlq (Zls (Zaz Zpb (Za 5) Zdh) (Zod (Zbt (Zl ZbV hr (Zb (Za 0) (Zb (Za 1) (Zb (Za 5) (Zb (ZC Zmw (Za 3) Zg) Zh))))))))) (Zk (Zx Za2)) Z0))))
  (Zk (Zx Za2)))))
theorem ZfZ:Zu ["_law_works_here","_law_looks_here","_law_crowd_here","_law_turns","_law_seen","_law_part"] ["_law_works_here","_law_looks_here","_law_crowd_here","_law_turns"] (Ze ZeH):=⟨rfl,rfl,rfl,by decide +kernel,rfl,by decide +kernel,by decide +kernel⟩
theorem ZiR(T:Txt K mg){R:List PyData->Option PyData}(ZcN:Callee P w K mg base k "_law_split" Zbh)(ZfB:Callee P w K mg base k "_law_can_part" (ZaX R)){f:Addr}{fd:FuncData}(Fn:Fun K "_law_can" "_law_can" ZeH f fd)(hm:mg "_law_can" = some (.ref f))(hb:Binds K fd ["_law_works_here","_law_looks_here","_law_crowd_here","_law_turns"] []):Callee P w K mg base (k+1) "_law_can" (HM.fnOf 4 6 (ZeD R)) :=
 Zs Fn ZfZ hm hb λcdv A outer s H E hr=>by
  have hu:=ZJ hr;exact(Zf (ZsC 4 5 ZfZ.nd rfl rfl (Z6 (Zl ZcN hr (Zb (Za 0) (Zb (Za 1) (Zb (Za 2) Zh))))) (Zk (ZaI (Zc4 (Zbt (Zl ZfB hr (Zb (Za 0) (Zb (Za 1) (Zb (Za 5) (Zb (Za 3) Zh))))))) (Zk (Zx Za2)) Z0)))
  (Zk (Zx Za2)))
theorem ZnN(T:Txt K mg)(Zb9:Callee P w K mg base k "_law_there" ZbC)(ZcZ:Callee P w K mg base k "_law_led" ZbT)(ZcN:Callee P w K mg base k "_law_split" Zbh){f0:Addr}{fd0:FuncData}(Fn0:Fun K "_law_can_part" "_law_can_part" ZcD f0 fd0)(hm0:mg "_law_can_part" = some (.ref f0))(hb0:Binds K fd0 ["_law_works_here","_law_looks_here","_law_part","_law_turns"] []){f1:Addr}{fd1:FuncData}(Fn1:Fun K "_law_can" "_law_can" ZeH f1 fd1)(hm1:mg "_law_can" = some (.ref f1))(hb1:Binds K fd1 ["_law_works_here","_law_looks_here","_law_crowd_here","_law_turns"] [])(n:Nat):Callee P w K mg base (k+2*n+1) "_law_can" (ZG n):=by
 induction n with
 | zero=>exact Zs (g:=HM.ZhR) Fn1 ZfZ hm1 hb1 λ_ _ _ _ _ _ _=>λ_ _ h=>nomatch h
 | succ n ih=>have ZdJ:=Zfa (k:=k+2*n+1) (R:=ZG n) T (Zb9.mono (by omega)) (ZcZ.mono (by omega)) (ih.mono (by omega)) Fn0 hm0 hb0;have e:=ZiR (k:=k+2*n+2) (R:=ZG n) T (ZcN.mono (by omega)) (ZdJ.mono (by omega)) Fn1 hm1 hb1;exact e.mono (by omega)
theorem Zig:Zu ["_law_script","_law_works_here","_law_looks_here","_law_many"] ["_law_script"] (Ze Ze4):=⟨rfl,rfl,rfl,by decide +kernel,rfl,by decide +kernel,by decide +kernel⟩
theorem ZsE(T:Txt K mg)(Zfb:Callee P w K mg base k "_law_works" ZaE)(Zfc:Callee P w K mg base k "_law_looks" Zb5)(ZhD:Callee P w K mg base k "fewest" (Zei ap))(ZaH:Callee P w K mg base k "_law_cell" Z3)(ZbV:Callee P w K mg base k "_law_can" (ZG 40)){f:Addr}{fd:FuncData}(Fn:Fun K "law" "law" Ze4 f fd):ZcQ P w K mg base CX0 (k+1) f fd ["_law_script"] (spD K 1 (ZeZ ap)) :=
 ZoL Fn Zig λcdv A outer s H E hr=>by
  have hu:=ZJ hr;exact(Zf (Z1 1 Zig.nd (Zl Zfb hr (Zb (Za 0) (Zb Zg Zh))))
  (Zf (Z1 2 Zig.nd (Zl Zfc hr (Zb (Za 1) (Zb (Zl ZaH hr (Zb (Za 0) (Zb Zg Zh))) Zh))))
  (Zf (Z1 3 Zig.nd (Zl ZhD hr (Zb (Za 1) (Zb (Za 2) Zh))))
  (Zf (ZaI (Zaz Zum (Za 3) Zdh) (Zk (Zx (ZtA (Zl ZbV hr (Zb (Za 1) (Zb (Za 2) (Zb (ZX (Zw 1) Zg) (Zb Zg Zh)))))))) Z0)
  (Zf (ZaI (Zlq (Zls (Zaz cGt (Za 3) Zg) (Zls (Zaz cLt (Za 3) Zg) (Zod (Zbt (Zl ZbV hr (Zb (Za 1) (Zb (Za 2) (Zb (ZX (Zw 1) Zg) (Zb (ZC Zmw (Za 3) Zg) Zh)))))))))) (Zk (Zx Za2)) Z0)
  (Zk (Zx (Zu3 (Zhj cGt (Za 3) Zg) (Zef (Zl ZbV hr (Zb (Za 1) (Zb (Za 2) (Zb (ZX (Zw 1) Zg) (Zb (Za 3) Zh))))))))))))))
def FvI(K:Zww)(t:Nat)(cs:List PyData)(F:Hp)(a:Addr):Prop :=
 (t=0/\cs=[]/\ZyP K Zxa "deeds_by" = some (some (.ref a)))\/(t=1/\Clo K F a (Zuy ZM) (Zsh ZM) (Zkk ZM) ["works","looks"] cs)
theorem Zt7:ZiZ (Zkk ZM) "part" ["works","looks"]:=⟨rfl,rfl,rfl,by decide +kernel,rfl,by decide +kernel,by decide +kernel⟩
theorem Zt1(T:Txt K mg)(ZcM:Callee P w K mg base k "ways_with" ZaG)(qual:Str)(f:Addr)(cd:Value)(clos:List (Str × Addr))(A:Around)(outer:List PySem.Env)(s:Shared)(H:Hp)(hr:Zao k (A.deeper (Zzi qual (Zkk ZM) s.heap.objs.size f cd clos))) :
  XE (Zli P w K mg base ["part","works","looks"] qual (Zkk ZM) f cd clos A outer s H) (Zsh ZM) (Zm ZaG (Zd (Zc 1) (Zd (Zc 2) (Zd (Zc 0) Zn)))):=by
 have hu:=ZJ hr;exact(Zl ZcM hr (Zb (Za 1) (Zb (Za 2) (Zb (Za 0) Zh))))
theorem Zu7(T:Txt K mg)(V:∀t cs F a,FX.fv t cs F a->FvI K t cs F a){f0:Addr}{fd0:FuncData}(Fn0:Fun K "deeds_by" "deeds_by" Zd9 f0 fd0)(hm0:mg "deeds_by" = some (.ref f0))(hn0:∀a,ZyP K Zxa "deeds_by" = some (some (.ref a))->mg "deeds_by" = some (.ref a))(Zf0:Callee P w K mg base (k+1) "deeds_by" Zcv)(Lf_ways_with:Callee P w K mg base k "ways_with" ZaG):Zdm P w K mg base (k+1) ap:=by
 constructor
 ·intro t cs F a h A outer s H e0 sub
  rcases V t cs F a h with⟨rfl,rfl,hn⟩ | ⟨rfl,hC⟩
  ·exact Ztd Fn0 hm0 (hn0 a hn) e0
  ·exact ZtR hC e0 sub
 ·intro t cs F a h A outer s H e0 sub us vs ds d Q hr tb nt rv rs hap kk
  rcases V t cs F a h with⟨rfl,rfl,hn⟩ | ⟨rfl,hC⟩
  ·exact Zsn Zf0 (hn0 a hn) e0 sub hr tb nt rv rs hap kk
  ·exact Zty Zt7 (λ_ _ _ _ _ _=>rfl) (Zt1 T Lf_ways_with) hC e0 sub hr tb nt rv rs hap kk
def tlI:List (Addr × Str):=[(221,"coming_from.<locals>.<lambda>")]
@[reducible] def fxI(K:Zww):FX where
 tl:=tlI
 fv:=FvI K
 sw:=λhF hob h=>by
  rcases h with h | h
  ·exact Zxl (h)
  ·exact Zw6 ((⟨h.1,h.2.sw hF hob⟩))
 drop:=λh=>by
  rcases h with h | h
  ·exact Zxl (h)
  ·exact Zw6 ((⟨h.1,h.2.drop⟩))
 mono:=λh s=>by
  rcases h with h | h
  ·exact Zxl (h)
  ·exact Zw6 ((⟨h.1,h.2.mono s⟩))
structure Def(K:Zww)(mg:Str->Option Value)(x:Str)(st:Stmt)(ps:List Str):Prop where
 ex:∃f fd,Fun K x x st f fd/\mg x=some (.ref f)/\Binds K fd ps []
theorem ZuO{h:Heap}{x:Str}{st:Stmt}{ps:List Str}{f:Addr}{oc:Value}{od an:Option Addr}{osl:Array (Option Value)}{kV doc pm cdv ct:Value}(X:K.In h)(G:h.Ns Zxa mg)(a:ZyP K Zxa x=some (some (.ref f)))
  (l:K.lookup f=some ⟨oc,od,.func (ZxI x x (ZbN st) (Zaw st) (Ze st) .none kV doc pm an cdv ct),osl⟩) (c:Zyr K cdv x=true) (kp:ZxP K (.ref f)=true)
  (b:∀(kV doc pm:Value) (an:Option Addr) (cdv ct:Value) (us:List Value),us.length=ps.length->bindArgs (ZxI x x (ZbN st) (Zaw st) (Ze st) .none kV doc pm an cdv ct) ⟨us,[]⟩=pure (ps.zip us)):Def K mg x st ps :=
 ⟨f,_,ZmU l c kp,ZzG X G a,(ZmU l c kp).binds b⟩
structure Zud(K:Zww)(mg:Str->Option Value)(x:Str)(st:Stmt)(ps:List Str)(c T:Addr):Prop where
 ex:∃f fd,Zpw K x x st f fd c/\mg x=some (.ref f)/\Binds K fd ps []/\Zx3 K c T=true
theorem ZsT{h:Heap}{x:Str}{st:Stmt}{ps:List Str}{f c T:Addr}{oc:Value}{od an:Option Addr}{osl:Array (Option Value)}{kV doc pm cdv ct:Value}(X:K.In h)(G:h.Ns Zxa mg)(a:ZyP K Zxa x=some (some (.ref f)))
  (l:K.lookup f=some ⟨oc,od,.func (ZxI x x (ZbN st) (Zaw st) (Ze st) .none kV doc pm an cdv ct),osl⟩) (cc:Zyr K cdv x=true) (kp:ZxP K (.ref f)=true)
  (b:∀(kV doc pm:Value) (an:Option Addr) (cdv ct:Value) (us:List Value),us.length=ps.length->bindArgs (ZxI x x (ZbN st) (Zaw st) (Ze st) .none kV doc pm an cdv ct) ⟨us,[]⟩=pure (ps.zip us)) (e:cdv=.ref c) (hc:Zx3 K c T=true):Zud K mg x st ps c T:=by
 subst e;exact⟨f,_,ZsR l cc kp,ZzG X G a,.all (b kV doc pm an _ ct),hc⟩
def NsV(K:Zww)(mg:Str->Option Value)(x:Str):Prop:=(∀a,ZyP K Zxa x=some (some (.ref a))->mg x=some (.ref a))/\∃f,ZyP K Zxa x=some (some (.ref f))
theorem ZuA{h:Heap}{x:Str}{f:Addr}(X:K.In h)(G:h.Ns Zxa mg)(a:ZyP K Zxa x=some (some (.ref f))):NsV K mg x:=⟨λ_ e=>ZzG X G e,f,a⟩
end
structure Ds(K:Zww)(mg:Str->Option Value):Prop where
 ZnO:Def K mg "_law_cell" ZfQ ["_law_script","_law_k"]
 ZoY:Def K mg "_law_mix" ZgB ["_law_cell_here","_law_prime","_law_many"]
 ZlR:Def K mg "_law_crowd" ZdC ["_law_cell_here","_law_many","_law_least"]
 ZnP:Def K mg "_law_deed" ZfR ["_law_cell_here","_law_many"]
 ZnQ:Def K mg "_law_walk" ZfS ["_law_cell_here","_law_many"]
 ZlS:Def K mg "_law_works" ZdD ["_law_script","_law_at"]
 ZlT:Def K mg "_law_looks" ZdE ["_law_works_here","_law_cell_here"]
 ZlU:Def K mg "is_number" Ze0 ["thing","least","most"]
 ZlV:Def K mg "is_rising" Ze1 ["thing","many"]
 ZnR:Def K mg "is_crowd" ZfM ["thing","many"]
 ZpY:Def K mg "is_row" Zhy ["thing","least","most"]
 ZoZ:Def K mg "is_deed" ZeE ["thing","many"]
 ZlW:Def K mg "are_deeds" Zdy ["thing","many"]
 Zo0:Def K mg "is_look" ZeF ["thing","many"]
 ZlX:Def K mg "are_looks" Zdz ["thing","many"]
 ZlY:Def K mg "are_works" Ze2 ["thing"]
 Zo1:Def K mg "checked" ZgA ["works"]
 ZnS:Def K mg "looks_of" ZfO ["works"]
 ZiS:Def K mg "checked_looks" Zdb ["works","looks"]
 ZnT:Def K mg "begin_of" ZfP ["works"]
 ZhE:Def K mg "crowds_in" Zb7 ["rows"]
 ZiT:Def K mg "cost_at_worst" Zci ["rows","costs"]
 ZiI:Def K mg "deeds_by" Zd9 ["way","depths"]
 Zo2:Def K mg "seen_in" ZeG ["works","looks","state"]
 ZpZ:Def K mg "parted" Zfz ["works","looks","crowd"]
 ZnU:Def K mg "deeds_of" ZfN ["works"]
 ZjS:Def K mg "can_be_done" ZcX ["works","crowd","deed"]
 Zk6:Def K mg "deeds_with" Zc7 ["works","crowd"]
 Zp0:Def K mg "led_to" Zhz ["works","crowd","deed"]
 ZlZ:Def K mg "ways_with" ZdB ["works","looks","crowd"]
 Zk7:Def K mg "least_cost" Zco ["ways","costs","cost_by"]
 Zk8:Def K mg "next_costs" Zer ["reach","costs","cost_by"]
 Zo3:Def K mg "goal_of" Zgz ["works"]
 ZnV:Def K mg "is_there" Zd8 ["works","crowd"]
 ZnW:Def K mg "costs_of" Zcw ["works","reach","cost_by"]
 Zl0:Def K mg "depths_of" Ze3 ["works","coming"]
 Zjk:Def K mg "reached_from" ZdA ["crowds","ways_for"]
 ZjT:Zud K mg "coming_from" ZM ["works","looks","crowd"] 225 221
 Zp1:Def K mg "fewest" ZhA ["works","looks"]
 Zl1:Def K mg "_law_there" ZdF ["_law_works_here","_law_crowd_here"]
 Zo4:Def K mg "_law_led" ZgC ["_law_works_here","_law_crowd_here","_law_deed_here"]
 Zl2:Def K mg "_law_split" ZcL ["_law_works_here","_law_looks_here","_law_crowd_here"]
 ZdJ:Def K mg "_law_can_part" ZcD ["_law_works_here","_law_looks_here","_law_part","_law_turns"]
 Zo5:Def K mg "_law_can" ZeH ["_law_works_here","_law_looks_here","_law_crowd_here","_law_turns"]
 Nf_deeds_by:NsV K mg "deeds_by"
section
variable[FX]{P:Program}{w:World}{K:Zww}{mg:Str->Option Value}{base:Heap}{k:Nat}
theorem ZtM(T:Txt K mg)(hV:∀t cs F a,FX.fv t cs F a↔FvI K t cs F a)(hTL:FX.tl=tlI)(Dd:Ds K mg)(bm:BMod base mg){f:Addr}{fd:FuncData}(Fn:Fun K "law" "law" Ze4 f fd):ZcQ P w K mg base CX0 83 f fd ["_law_script"] (spD K 1 (ZeZ ap)):=by
 have Vff_deeds_by:GFn mg "deeds_by" 0:=by obtain⟨h1,g,h2⟩:=Dd.Nf_deeds_by;exact⟨g,h1 g h2,λF=>(hV _ _ _ _).mpr (Zxl (⟨rfl,rfl,h2⟩))⟩
 have ZaH:Callee P w K mg base 1 "_law_cell" Z3:=by obtain⟨f,fd,F,m,b⟩:=Dd.ZnO.ex;exact ZlC T  F m b
 have ZF:Callee P w K mg base 1 "_law_mix" ZE:=by obtain⟨f,fd,F,m,b⟩:=Dd.ZoY.ex;exact ZnB T  F m b
 have ZdG:Callee P w K mg base 2 "_law_crowd" Zbg:=by obtain⟨f,fd,F,m,b⟩:=Dd.ZlR.ex;exact ZkM T (ZF.mono (by decide)) F m b
 have ZfT:Callee P w K mg base 2 "_law_deed" Zcs:=by obtain⟨f,fd,F,m,b⟩:=Dd.ZnP.ex;exact ZlD T (ZF.mono (by decide)) F m b
 have ZfU:Callee P w K mg base 2 "_law_walk" Zct:=by obtain⟨f,fd,F,m,b⟩:=Dd.ZnQ.ex;exact ZlE T (ZF.mono (by decide)) F m b
 have Zfb:Callee P w K mg base 3 "_law_works" ZaE:=by obtain⟨f,fd,F,m,b⟩:=Dd.ZlS.ex;exact ZkN T (ZaH.mono (by decide)) (ZdG.mono (by decide)) (ZF.mono (by decide)) (ZfT.mono (by decide)) (ZfU.mono (by decide)) F m b
 have Zfc:Callee P w K mg base 2 "_law_looks" Zb5:=by obtain⟨f,fd,F,m,b⟩:=Dd.ZlT.ex;exact ZkP T (ZF.mono (by decide)) F m b
 have ZaY:Callee P w K mg base 1 "is_number" ZaD:=by obtain⟨f,fd,F,m,b⟩:=Dd.ZlU.ex;exact ZkR T  F m b
 have Zad:Callee P w K mg base 2 "is_rising" ZT:=by obtain⟨f,fd,F,m,b⟩:=Dd.ZlV.ex;exact ZkS T (ZaY.mono (by decide)) F m b
 have ZfV:Callee P w K mg base 3 "is_crowd" Zcr:=by obtain⟨f,fd,F,m,b⟩:=Dd.ZnR.ex;exact ZlG T (Zad.mono (by decide)) F m b
 have Zan:Callee P w K mg base 1 "is_row" ZaB:=by obtain⟨f,fd,F,m,b⟩:=Dd.ZpY.ex;exact ZoU T  F m b
 have ZgD:Callee P w K mg base 3 "is_deed" ZbR:=by obtain⟨f,fd,F,m,b⟩:=Dd.ZoZ.ex;exact ZnD T (Zan.mono (by decide)) (Zad.mono (by decide)) F m b
 have Ze5:Callee P w K mg base 4 "are_deeds" Zb2:=by obtain⟨f,fd,F,m,b⟩:=Dd.ZlW.ex;exact ZkU T (Zan.mono (by decide)) (ZgD.mono (by decide)) F m b
 have ZgE:Callee P w K mg base 2 "is_look" ZbS:=by obtain⟨f,fd,F,m,b⟩:=Dd.Zo0.ex;exact ZnF T (Zan.mono (by decide)) (ZaY.mono (by decide)) F m b
 have Ze6:Callee P w K mg base 3 "are_looks" Zb3:=by obtain⟨f,fd,F,m,b⟩:=Dd.ZlX.ex;exact ZkW T (Zan.mono (by decide)) (ZgE.mono (by decide)) F m b
 have Ze7:Callee P w K mg base 5 "are_works" Zb4:=by obtain⟨f,fd,F,m,b⟩:=Dd.ZlY.ex;exact ZkX T (ZfV.mono (by decide)) (Zad.mono (by decide)) (Zan.mono (by decide)) (ZaY.mono (by decide)) (Ze5.mono (by decide)) (Ze6.mono (by decide)) F m b
 have ZgJ:Callee P w K mg base 6 "checked" ZcU:=by obtain⟨f,fd,F,m,b⟩:=Dd.Zo1.ex;exact ZnH T (Ze7.mono (by decide)) F m b
 have Zcx:Callee P w K mg base 1 "looks_of" Zby:=by obtain⟨f,fd,F,m,b⟩:=Dd.ZnS.ex;exact ZlI T  F m b
 have Zdc:Callee P w K mg base 3 "checked_looks" Za8:=by obtain⟨f,fd,F,m,b⟩:=Dd.ZiS.ex;exact Zix T (Zad.mono (by decide)) (Zcx.mono (by decide)) F m b
 have ZfY:Callee P w K mg base 1 "begin_of" Zc5:=by obtain⟨f,fd,F,m,b⟩:=Dd.ZnT.ex;exact ZlK T  F m b
 have Zbi:Callee P w K mg base 1 "crowds_in" ZH:=by obtain⟨f,fd,F,m,b⟩:=Dd.ZhE.ex;exact ZkY T  F m b
 have Ze8:Zdl P w K mg base 1 "crowds_in" ZH:=by obtain⟨f,fd,F,m,b⟩:=Dd.ZhE.ex;exact ZjO T  F m b
 have Zba:Callee P w K mg base 2 "cost_at_worst" Z4:=by obtain⟨f,fd,F,m,b⟩:=Dd.ZiT.ex;exact Ziy T (Zbi.mono (by decide)) F m b
 have Zf0:Callee P w K mg base 3 "deeds_by" Zcv:=by obtain⟨f,fd,F,m,b⟩:=Dd.ZiI.ex;exact ZlL T (Zba.mono (by decide)) F m b
 have ZgG:Callee P w K mg base 2 "seen_in" ZcV:=by obtain⟨f,fd,F,m,b⟩:=Dd.Zo2.ex;exact ZnJ T (Zcx.mono (by decide)) F m b
 have ZbU:Callee P w K mg base 3 "parted" ZaO:=by obtain⟨f,fd,F,m,b⟩:=Dd.ZpZ.ex;exact ZoV T (ZgG.mono (by decide)) F m b
 have Zbf:Callee P w K mg base 1 "deeds_of" ZaT:=by obtain⟨f,fd,F,m,b⟩:=Dd.ZnU.ex;exact ZlN T  F m b
 have ZdQ:Callee P w K mg base 2 "can_be_done" ZbA:=by obtain⟨f,fd,F,m,b⟩:=Dd.ZjS.ex;exact Zjh T (Zbf.mono (by decide)) F m b
 have Zet:Callee P w K mg base 3 "deeds_with" ZbL:=by obtain⟨f,fd,F,m,b⟩:=Dd.Zk6.ex;exact ZjQ T (ZdQ.mono (by decide)) (Zbf.mono (by decide)) F m b
 have ZhC:Callee P w K mg base 2 "led_to" ZcF:=by obtain⟨f,fd,F,m,b⟩:=Dd.Zp0.ex;exact ZoW T (Zbf.mono (by decide)) F m b
 have ZcM:Callee P w K mg base 4 "ways_with" ZaG:=by obtain⟨f,fd,F,m,b⟩:=Dd.ZlZ.ex;exact Zk0 T (ZbU.mono (by decide)) (Zet.mono (by decide)) (ZhC.mono (by decide)) F m b
 obtain⟨f0,fd0,F0,m0,b0⟩:=Dd.ZiI.ex;have CV:Zdm P w K mg base 5 ap:=Zu7 (k:=4) T (λt cs F a h=>(hV t cs F a).mp h) F0 m0 Dd.Nf_deeds_by.1 (Zf0.mono (by decide)) (ZcM.mono (by decide));have Zeu:Callee P w K mg base 6 "least_cost" (Zbr ap):=by obtain⟨f,fd,F,m,b⟩:=Dd.Zk7.ex;exact ZjR T  (CV.mono (by decide)) F m b
 have Gf_next_costs:Zdn P w K mg base 7 "next_costs" (Za3 ap):=by obtain⟨f,fd,F,m,b⟩:=Dd.Zk8.ex;exact Zjn T (Zeu.mono (by decide)) F m b
 have ZgH:Callee P w K mg base 1 "goal_of" ZcW:=by obtain⟨f,fd,F,m,b⟩:=Dd.Zo3.ex;exact ZnL T  F m b
 have ZfW:Callee P w K mg base 2 "is_there" Zbe:=by obtain⟨f,fd,F,m,b⟩:=Dd.ZnV.ex;exact ZlP T (ZgH.mono (by decide)) F m b
 have ZfX:Callee P w K mg base 8 "costs_of" (Zcu ap):=by obtain⟨f,fd,F,m,b⟩:=Dd.ZnW.ex;exact ZlQ T (ZfW.mono (by decide)) (Gf_next_costs.mono (by decide)) F m b
 have Ze9:Callee P w K mg base 9 "depths_of" (ZcK ap):=by obtain⟨f,fd,F,m,b⟩:=Dd.Zl0.ex;exact Zk2 T (ZfX.mono (by decide)) Vff_deeds_by F m b
 have ZdI:Callee P w K mg base 6 "reached_from" (Zbp ap):=by obtain⟨f,fd,F,m,b⟩:=Dd.Zjk.ex;exact ZiQ T (Zbi.mono (by decide)) (Ze8.mono (by decide)) (CV.mono (by decide)) F m b
 have ZdR:Callee P w K mg base 7 "coming_from" (Zb6 ap):=by obtain⟨f,fd,F,m,b,hc⟩:=Dd.ZjT.ex;exact Zjj T (ZdI.mono (by decide)) (Zbi.mono (by decide)) (ZbU.mono (by decide)) (ZcM.mono (by decide)) hc (by rw[hTL]; decide) (by rw[hTL]; intro q h; simpa [tlI]using h) bm (λF p cs h=>(hV _ _ _ _).mpr (Zw6 ((⟨rfl,h⟩)))) F m b
 have ZhD:Callee P w K mg base 10 "fewest" (Zei ap):=by obtain⟨f,fd,F,m,b⟩:=Dd.Zp1.ex;exact ZoX T (ZgJ.mono (by decide)) (Zdc.mono (by decide)) (ZfY.mono (by decide)) (Ze9.mono (by decide)) (Zba.mono (by decide)) (ZdR.mono (by decide)) (ZbU.mono (by decide)) F m b
 have Zb9:Callee P w K mg base 1 "_law_there" ZbC:=by obtain⟨f,fd,F,m,b⟩:=Dd.Zl1.ex;exact Zk4 T  F m b
 have ZcZ:Callee P w K mg base 1 "_law_led" ZbT:=by obtain⟨f,fd,F,m,b⟩:=Dd.Zo4.ex;exact ZnM T  F m b
 have ZcN:Callee P w K mg base 1 "_law_split" Zbh:=by obtain⟨f,fd,F,m,b⟩:=Dd.Zl2.ex;exact Zk5 T  F m b
 obtain⟨f0,fd0,F0,m0,b0⟩:=Dd.ZdJ.ex;obtain⟨f1,fd1,F1,m1,b1⟩:=Dd.Zo5.ex;have ZbV:Callee P w K mg base 82 "_law_can" (ZG 40):=ZnN (k:=1) T (Zb9.mono (by decide)) (ZcZ.mono (by decide)) (ZcN.mono (by decide)) F0 m0 b0 F1 m1 b1 40;have ZfB:Callee P w K mg base 83 "_law_can_part" (ZaX (ZG 40)):=Zfa T (Zb9.mono (by decide)) (ZcZ.mono (by decide)) (ZbV.mono (by decide)) F0 m0 b0;exact ZsE (k:=82) T (Zfb.mono (by decide)) (Zfc.mono (by decide)) (ZhD.mono (by decide)) (ZaH.mono (by decide)) (ZbV.mono (by decide)) Fn
end
theorem all_mk{l:ZAI}{w:World}{K:Zww}{h:Heap}{mg:Str->Option Value}{fa f4:Addr}{od4 an4:Option Addr}{sl4:Array (Option Value)}{oc4 kV4 dc4 pm4 cd4 ct4:Value}(X:K.In h)(G:h.Ns Zxa mg)(hfa:mg "law" = some (.ref fa))
  (T:Txt K mg) (Dd:Ds K mg) (a4:ZyP K Zxa "law" = some (some (.ref f4)))
  (l4:K.lookup f4=some ⟨oc4,od4,.func (ZxI "law" "law" (ZbN Ze4) (Zaw Ze4) (Ze Ze4) .none kV4 dc4 pm4 an4 cd4 ct4),sl4⟩) (c4:Zyr K cd4 "law" = true) (k4:ZxP K (.ref f4)=true) :
  ∃fd:FuncData,(∀(s:Shared) (v:Value),BindsTo s fd ⟨[v],[]⟩ [("_law_script",v)])/\∀base:Heap,K.In base->base.Ns Zxa mg->BMod base mg->ZcQ l.prog w K mg base CX0 83 fa fd ["_law_script"] (@spD (fxI K) K 1 (ZeZ ap)):=by
 have e:=hfa.symm.trans (ZzG X G a4);cases e;have fx0:FX:=FX0;exact⟨_,λs v=>.of_eq rfl,λbase _ _ bm=>@ZtM (fxI K) _ _ _ _ _ T (λ_ _ _ _=>Iff.rfl) rfl Dd bm _ _ (ZmU (st:=Ze4) l4 c4 k4)⟩
theorem walk{l:ZAI}{q:Program}{loose:List Str}{XP:(Str->Option Value)->Heap->Prop}{YP:World->Heap->Prop}{d:DefRec}{K:Params->Zww}(hn:l.most=some 63)(hdf:d.params.defaults=[])
  (Zjb:∀ns:List Int,ns.length<=63->(ZeZ ap) [.list (HM.ofInts ns)]=some (.bool true)) (hY:∀(w:World) (h:Heap),YP w h->(K w.params).In h) (hYT:∀(w:World) (h:Heap),YP w h->∀q∈([(225,221)]:List (Addr × Addr)),h.get? q.2=some (Zy3 #[]))
  (hT:∀(w:World),∀q∈([(225,221)]:List (Addr × Addr)),Zx3 (K w.params) q.1 q.2=true/\(K w.params).lookup q.2=none)
  (F:∀(w:World) (mg:Str->Option Value) (fa:Addr) (h:Heap),(K w.params).In h->h.Ns Zxa mg->mg d.name=some (.ref fa) ->
   ∃fd:FuncData,(∀(s:Shared) (u:Value),BindsTo s fd ⟨[u],[]⟩ [("_law_script",u)])/\∀base:Heap,(K w.params).In base->base.Ns Zxa mg->BMod base mg->ZcQ l.prog w (K w.params) mg base CX0 83 fa fd ["_law_script"] (@spD (fxI (K w.params)) (K w.params) 1 (ZeZ ap))) :
  PySem.W.WalkO q loose XP YP l.row.toRowW d [] (λf vs=>PySem.call f vs) :=
 Zsp (n:=63) (k:=83) (x:="_law_script") (sp:=λw=>@spD (fxI (K w.params)) (K w.params) 1 (ZeZ ap)) (tabs:=[(225,221)]) hn (by decide) hdf ⟨rfl,by decide,by decide⟩ hY hYT hT F λw H a ns hl hO hS=>@ZuC (fxI (K w.params)) _ _ _ _ _ _ hO (λT q h=>by
  have:∀p∈tlI,p.1∈([(225,221)]:List (Addr × Addr)).map (·.2):=by decide
  exact this _ h) hS (Zjb ns hl)
section
variable{P:Program}{w:World}{K:Zww}{mg:Str->Option Value}{base:Heap}{k:Nat}
abbrev ZvP{K:Zww}{h:Heap}(_:K.In h)(mg:Str->Option Value):Prop:=Ds K mg
abbrev Zvc{K:Zww}{h:Heap}(_:K.In h)(mg:Str->Option Value):Prop:=Txt K mg
theorem int_mk{mg:Str->Option Value}{n:Str}{v:Value}{k:Int}(h:mg n=some v)(e:∃t,v=.int k t):∃t,mg n=some (.int k t):=by obtain⟨t,rfl⟩:=e;exact⟨t,h⟩
end
end HT
theorem PySem.W.Fast.tw5658958978605355214:True:=trivial
theorem PySem.W.Fast.tw14903412685847154175:True:=trivial
theorem PySem.W.Fast.tw254120969244427903:True:=trivial
theorem PySem.W.Fast.tw2748998668675487393:True:=trivial
theorem PySem.W.Fast.tw6906130448589086229:True:=trivial
theorem PySem.W.Fast.tw6325642339349612639:True:=trivial
theorem PySem.W.Fast.tw1503034798706354012:True:=trivial
theorem PySem.W.Fast.tw12328281096165950960:True:=trivial
theorem PySem.W.Fast.tw78282923637946964:True:=trivial
theorem PySem.W.Fast.tw6624738525055962096:True:=trivial
open PySem PySem.W PyProof.Rows
set_option maxRecDepth 100000 in
set_option maxHeartbeats 0 in
theorem PySem.Challenge.cw_halfseen_k07_whole_no_plan_has_fewer_holds : PySem.Challenge.rw_halfseen_k07_whole_no_plan_has_fewer.Holds := by
 w_on; o_law; k_head; (case hw=>w_witness2)
 k_fill
 refine HT.walk (l:=PySem.Challenge.rw_halfseen_k07_whole_no_plan_has_fewer) rfl rfl HG7.Zjb (λw h Y=>PySem.W.km_in_of Y) (λw h Y q hq=>PySem.W.km_tabs_of Y _ (by clear Y; revert q; decide)) ?Tab ?F
 case Tab=>intro w q hq;cases ZwQ.mp hq;exact⟨by kernel_rfl,by kernel_rfl⟩
 case F =>
  intro w mg fa h KX G hmg;have fx0:HP.FX:=HP.FX0;have T:HT.Zvc KX mg:=by
   refine⟨?_,?_,?_,?_,?_,?_,?_,?_,?_,?_,?_,?_,?_,?_,?_,?_⟩
   all_goals first
    | (refine PySem.W.mg_none_of KX G ?z; (case z=>k_is))
    | (refine' HT.int_mk (ZzG KX G ?z) ?e; (case z=>k_is); (case e=>exact⟨_,rfl⟩))
  have Dd:HT.ZvP KX mg:=by
   refine⟨?_,?_,?_,?_,?_,?_,?_,?_,?_,?_,?_,?_,?_,?_,?_,?_,?_,?_,?_,?_,?_,?_,?_,?_,?_,?_,?_,?_,?_,?_,?_,?_,?_,?_,?_,?_,?_,?_,?_,?_,?_,?_,?_,?_,?_⟩
   all_goals first
    | (refine' HT.ZuO KX G ?a ?l ?c ?k ?b; (case a=>k_is); (case l=>k_is); (case c=>k_is); (case k=>k_is); (case b=>first | exact λ_ _ _ _ _ _ us hl=>(match us,hl with | [_],_=>rfl) | exact λ_ _ _ _ _ _ us hl=>(match us,hl with | [_,_],_=>rfl) | exact λ_ _ _ _ _ _ us hl=>(match us,hl with | [_,_,_],_=>rfl) | exact λ_ _ _ _ _ _ us hl=>(match us,hl with | [_,_,_,_],_=>rfl)))
    | (refine' HT.ZsT KX G ?a ?l ?c ?k ?b ?e ?h; (case a=>k_is); (case l=>k_is); (case c=>k_is); (case k=>k_is); (case h=>kernel_rfl); (case e=>exact rfl); (case b=>first | exact λ_ _ _ _ _ _ us hl=>(match us,hl with | [_],_=>rfl) | exact λ_ _ _ _ _ _ us hl=>(match us,hl with | [_,_],_=>rfl) | exact λ_ _ _ _ _ _ us hl=>(match us,hl with | [_,_,_],_=>rfl) | exact λ_ _ _ _ _ _ us hl=>(match us,hl with | [_,_,_,_],_=>rfl)))
    | (refine' HT.ZuA KX G ?z; (case z=>k_is))
  refine' HT.all_mk KX G hmg T Dd ?a4 ?l4 ?c4 ?k4
  (case a4=>k_is); (case l4=>k_is); (case c4=>k_is); (case k4=>k_is)