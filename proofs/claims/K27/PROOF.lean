import PyProof.Rows.All
import Wide.All
import OpenK.AllK
import Wide.FinOn
import Lean
import PyProof.EqAt
import PyProof.EqKinds
import PyProof.TupleCall
import PyProof.P3Statements
import PyProof.P3Eq
import PyProof.NeData
import PyProof.IsiPairs
import PyProof.IsiHeapPairs
import KE.LcSums
import PyProof.IsiNone
import PyProof.DictRoadsH
import PyProof.Rows.SetFrom
import PyProof.DictWalks
import PyProof.Rows.MinMaxN
import PyProof.Rows.SumAny
import PyProof.WalkInts
import PyProof.Draws
import PyProof.EnumMake
import PyProof.TupleIter
import PyProof.TupleKey
import PyProof.FactsAll.bool
import PyProof.DictKinds
import PySem.Challenge.RW_halfseen_k27_states_alike
set_option Elab.async false
set_option linter.all false
set_option maxRecDepth 100000
open PySem renaming wpAny_bind->Aa,wpAny_pure->Ac,starEach->Af,wpAny_call_entry->BI,wpAny_newObj_type->B8,bootBuiltins->Bi,sysModules->A8,sizeLine_eq->Bo,wpAny_holding->BS,mainGlobals->BD,wpAny_truthy_bool->Du,foldedSetIterable->Dt,assignEach->BV,compareOp->BG,wpAny_mono->B7,behindInMarks->CW,codeAny_builtin->DT,wpAny_typeNameOfWhole_keyiter->ID,wpAny_passesOwn->Ew,wpAny_ite_split->Eu,swapsWith->CF,binaryOp->Cf,wpAny_typeNameOf_keyiter->Iy,mem_of_lookup->Gq,wpAny_specialOf->E8,wpAny_dictEntries->Gk,codeAny_mono->Eg,wpAny_askSetting->Gv,wpAny_isInstance->Gu,sliceBounds->El,wpAny_tupleItemsOf->Iz,eqIsQuiet->DQ,wpAny_rule->En,wpAny_setField->Gy,wpAny_setState_of->Ic,attributeBase->Gb,wpAny_execs_nil->HS,letOwnedTupleGo->HR,reduceHash->E5,wpAny_setEntries_of->KA,wpAny_fieldsOf->Io,firstArgMember->Im,keywordEach->Gd,wpAny_Call_Name_kw->Ku,plainId_quiet->Ij,wpAny_attempt->Ii,wpAny_pyIter_list->KI,wpAny_pyIter_slot->KH,builtinsNs->Gi,typeIs_int->Gh,intKind_is->Gf,noFill_tuple_add->Kh,wpAny_forIn_list->Kf,tupleKind->F4,pickOrder->FZ,wpAny_dictEpoch->Kd,wpAny_ret_mkInt->J9,storedH_new->HE,Fin->HJ
open List renaming length_map->Ae,range->Ab,mem_cons_of_mem->Aq,mem_cons_self->An,getElem?_eq_some_iff->AO,size_toArray->Au,getElem?_eq_getElem->AV,replicate->Al,mem_range->Am,mem_singleton->AA,mem_map->Ak,map_cons->Ao,length_append->AH,length_range->AB,mem_append_right->AX,length_cons->AL,mem_cons->Aw,getElem?_cons_succ->Bq,getElem?_set_ne->Bl,mem_append->AW,getElem?_map->A9,map_map->AG,getElem?_append_left->CG,map_append->Bj,eq_nil_of_length_eq_zero->Dy,getElem?_append_right->CZ,length_replicate->Cg,getElem?_set_self->CH,pairwise_cons->B9,all_eq_true->BW,length->Bb,length_set->B6,getElem?_cons_zero->DS,mem_append_left->Dv,append_assoc->CO,append_nil->CB,find?_cons->CA,mem_of_getElem?->DR,getElem_mem->Dr,nodup_nil->CY,replicate_succ->Ex,lookup_cons->DU,flatten_cons->Fl,drop_eq_getElem_cons->IH,pairwise_iff_getElem->IG,contains_eq_mem->GB,findIdx?_eq_some_iff_getElem->KY,length_take->Fo,map_congr_left->Gp,getElem?_replicate->Iu,any_cons->Eh,nodup_cons->Fc,nodup_append->Gm,length_singleton->Iq,getD->Dq,length_drop->Gj,getElem?_range->IB,getElem_of_mem->IA,mem_filter->Gs,findIdx?_eq_none_iff->KS,map_nil->Ff,pairwise_mergeSort->KU,pairwise_map->HY,pairwise_lt_range->Kp,any_eq_true->HU,nil_append->HQ,filterMap_cons->Kn,mergeSort_perm->Kz,mem_filterMap->Kw,findIdx?_cons->Kt,map_inj_left->KD,any_eq_false->KC,foldl->Gg,getElem?_take_of_lt->NF,set_eq_of_length_le->ND,set_set->HF,drop_length->Kg,of_mem_zip->Ke,getElem?_eq_none->Nv,set_getElem_self->NQ,max?_eq_some_iff->NM,map->F5,all_cons->Kl
open PySem.W renaming Frag->Ad,fnOf->Dx,keepIn->E7,codeIn->Gr,codeHdIn->HV,tabObj->Il,methodObj->Ks,OpenLaw->Kb,cellsFrom_some->Ny,mg_of->Ki
open Option renaming map_eq_some_iff->Aj,isSome_iff_exists->KQ,bind_eq_some_iff->NA
open PySem.Heap renaming get?_push_of_some->As,lt_size->Ai,get?_push_size->AI,get?_update_self->Es,SameBut->CV,size_push->Gz,get?_push_ne->HZ,size_update->HW,get?_update_other->Nx
open PySem.SetTable renaming below->Ah,insertAt->AR,insertAt_perm->Fm,tooFull->Gw,toList_insertAt->KN,fits->Ga,fill->F8,turns->Km,bits->Kk
open Nat renaming le_refl->Ag,ne_of_lt->Ap,lt_of_lt_of_le->Bk,le_trans->BE,lt_trans->CU,zero_le->CS,le_of_lt->DX,lt_succ_self->Fd,le_of_not_lt->Gx,lt_irrefl->Fj,ne_of_gt->Fg,blt_eq->Eo,lt_succ_of_lt->Ib,le_of_eq->F6,mul_le_mul->Ip,add_assoc->Ih,add_comm->HH
open Array renaming length_toList->Ba,getElem?_toList->Dw,getD->CC,toList_push->Fp,getElem?_eq_getElem->IE,getElem?_eq_none->Kq,perm_iff_toList_perm->NR
open Bool renaming false_ne_true->Bp,and_eq_true->BJ,false_eq_true->CP,eq_iff_iff->CN,or_eq_true->Fb,false_or->Fi,or_false->Ik,not_true->Ig
open PySem.PyData renaming int->AQ,tuple->CT,bool->DP,canLayAll0->Gn,eqv->Ep,depthAll->HK,eqvAll->Ie,list->HD
open PySem.Builtin.Tuple renaming tupleHashOf->C0,tupleExact->Iw
open Option.some renaming inj->BH
open PySem.Value renaming none->AY,ref->A4,int->BU,bool->Ek,type->Ej,isInt->E6
open Or renaming inr->Ar,inl->AE
open Ne renaming symm->Az
open PySem.Heap.SameBut renaming update->CQ,refl->NG
open Classical renaming byContradiction->Et
open PySem.F renaming called_set->DW,plain_list_iadd->Ir,args_tuple_add_2->KP,entry_tuple_add->KW,slot_tuple_add->Kr,slot_dict_setdefault->NW,plain_proto_collect->NU,slot_list_append->NC,type_list_append->NB,plainAttrs_list->Nz,plain_set_new->NP,slot_set_iter->NO
open PySem.Obj renaming data_mapFields->DV,mapSeq->Er,putSet->Em,isFreed_of_fields->Ko,cls_mapFields->KG,mapFields->Kj
open PySem.Expr renaming Call->Bu,Name->HI
open PySem.Around renaming under_plainId->Ey
open False renaming elim->CD
open PyProof.Rows.KeyOrd renaming kle_of_not_klt->GA,kle_refl->E9,kle_of_klt->H8,kle_trans->HX,kle_antisymm->NK
open PySem.Builtin.Range renaming rangeSize->Iv,small->NJ
open PySem.Paired renaming length->Ei
open List.Nodup renaming length_le_of_subset->KL
open PyProof.Rows renaming callWith_type1->KJ,sortedHeap->Ge,entry_list_sort->Kc
open True renaming intro->DO
open PySem.NameKind renaming free->Fh
open PySem.Calls renaming call_function_entry->KR,spliced_cons->Kv,Name_function_global->NS,callWith_builtin->Nw,evalArgs_plain->NL
open PySem.Builtin.List renaming listTooLong->KO,listLengthHint->NV,listExtendWith->NT
open PySem.Str renaming ofString->Fe
open Sum renaming inl->CM,inr->Ef
open PySem.SetTable.below renaming go->IC
open Int renaming toNat_natCast->Ia,toNat_of_nonneg->Kx,emod_nonneg->J8
open ForInStep renaming yield->HL
open PySem.Builtin.Dict_items renaming ownsTuple->NX
open PySem.Builtin.Dict renaming showsAll->NN
open PySem.SeqAt.EqAt renaming int_str->NI,str_int->NH
namespace L2
open PySem PySem.Spec PyProof.Rows
abbrev bO:=Sum Int Str
def ED:bO->Value->Bool
 | .inl k,v=>E6 k v
 | .inr x,v=>Value.isStrOf x v
def Rp(w:World):bO->Int
 | .inl k=>hashInt k
 | .inr x=>hashStr w x
theorem Dl:∀{k:bO} {v:Value},ED k v=true->(∃i t,k=CM i/\v=BU i t)\/(∃x t,k=Ef x/\v=Value.str x t)
 | .inl i,v,h=>by obtain⟨t,e⟩:=Value.isInt_shape (k:=i) (v:=v) h;exact .inl ⟨i,t,rfl,e⟩
 | .inr x,v,h=>by obtain⟨t,e⟩:=Value.isStrOf_shape (x:=x) (v:=v) h;exact .inr ⟨x,t,rfl,e⟩
theorem V2(i:Int)(t:Tok):ED (.inl i) (.int i t)=true:=by simp[ED,E6]
theorem V4(x:Str)(t:Tok):ED (.inr x) (.str x t)=true:=by simp[ED,Value.isStrOf]
theorem R9(a b:Int):decide ((CM a:bO)=CM b)=(a==b):=by
 by_cases e:a=b
 .subst e;simp
 .have h:¬(CM a:bO)=CM b:=λq=>e (Sum.inl.inj q)
  rw[decide_eq_false h];exact(beq_eq_false_iff_ne.mpr e).symm
theorem Sj(a b:Str):decide ((Ef a:bO)=Ef b)=decide (a=b):=by
 by_cases e:a=b
 .subst e;simp
 .have h:¬(Ef a:bO)=Ef b:=λq=>e (Sum.inr.inj q)
  rw[decide_eq_false h,decide_eq_false e]
theorem Sr(a:Int)(b:Str):decide ((CM a:bO)=Ef b)=false:=decide_eq_false (λq=>nomatch q)
theorem Ud(a:Str)(b:Int):decide ((Ef a:bO)=CM b)=false:=decide_eq_false (λq=>nomatch q)
def Bh(prog:Program)(w:World):PySem.KeyKind prog w bO where
 is:=ED
 hash:=Rp w
 inj:=λv a b ha hb=>by
  rcases Dl ha with⟨i,t,rfl,rfl⟩|⟨x,t,rfl,rfl⟩
  .rcases Dl hb with⟨j,u,rfl,e⟩|⟨y,u,rfl,e⟩
   .injection e with e1 _;rw[e1]
   .exact nomatch e
  .rcases Dl hb with⟨j,u,rfl,e⟩|⟨y,u,rfl,e⟩
   .exact nomatch e
   .injection e with e1 _;rw[e1]
 byValue:=λk v h=>by rcases Dl h with⟨i,t,rfl,rfl⟩|⟨x,t,rfl,rfl⟩<;>rfl
 pyHash:=λhv h=>by
  rcases Dl hv with⟨i,t,rfl,rfl⟩|⟨x,t,rfl,rfl⟩
  .exact wpAny_pyHash_int h
  .exact wpAny_pyHash_str h
 eqBool:=λhu hv h=>by
  rcases Dl hu with⟨i,t,rfl,rfl⟩|⟨x,t,rfl,rfl⟩
  .rcases Dl hv with⟨j,u,rfl,rfl⟩|⟨y,u,rfl,rfl⟩
   .rw[R9]at h;exact wpAny_eqBool_int h
   .rw[Sr]at h;exact NI i t y u _ _ _ _ h
  .rcases Dl hv with⟨j,u,rfl,rfl⟩|⟨y,u,rfl,rfl⟩
   .rw[Ud]at h;exact NH x t j u _ _ _ _ h
   .rw[Sj]at h;exact wpAny_eqBool_str h
 «strs»:=λk x t v h=>by
  rcases Dl h with⟨i,u,rfl,e⟩|⟨y,u,rfl,e⟩
  .exact nomatch e
  .injection e with e1 _
   subst e1;cases v<;>rfl
theorem WV(prog:Program)(w:World)(k:bO)(v:Value):(Bh prog w).is k v=ED k v:=rfl
theorem Xu(prog:Program)(w:World)(i:Int)(t:Tok):(Bh prog w).is (.inl i) (.int i t)=true:=V2 i t
theorem Xq(prog:Program)(w:World)(x:Str)(t:Tok):(Bh prog w).is (.inr x) (.str x t)=true:=V4 x t
section
variable{a:Addr}{o u:HO}{h:Heap}{H:J}
inductive V where
 |non|bl (b:Bool)|int (i:Int)|str (x:Str)|byt (b:Array UInt8)|flt (b:UInt64)|ref (a:Addr)|ty (n:String)
 deriving DecidableEq
def RelV:V->Value->Prop
 | .non,u=>u=AY
 | .bl b,u=>u=Ek b
 | .int i,u=>∃t,u=BU i t
 | .str x,u=>∃t,u=Value.str x t
 | .byt b,u=>∃t,u=Value.bytes b t
 | .flt b,u=>∃t,u=Value.float b t
 | .ref a,u=>u=A4 a
 | .ty n,u=>u=Ej n
abbrev bG:List V->List Value->Prop:=Paired RelV
theorem bG.length{xs:List V}{us:List Value}(r:bG xs us):xs.length=us.length:=Ei r
theorem bG.get:∀{xs:List V} {us:List Value} {i:Nat} {x:V},bG xs us->xs[i]?=some x->∃u,us[i]?=some u/\RelV x u
 |_,_,_,_,.nil,e=>by simp at e
 |_,_,0,_,.cons r _,e=>by simp at e;subst e;exact⟨_,rfl,r⟩
 |_,_,i+1,x,.cons _ t,e=>by obtain⟨u,h1,h2⟩:=bG.get (i:=i) (x:=x) t (by simpa using e);exact⟨u,by simpa using h1,h2⟩
theorem bG.set{x:V}{u:Value}(r:RelV x u):∀{xs:List V} {us:List Value} (i:Nat),bG xs us->bG (xs.set i x) (us.set i u)
 |_,_,_,.nil=>.nil
 |_,_,0,.cons _ t=>.cons r t
 |_,_,i+1,.cons q t=>.cons q (bG.set r i t)
theorem bG.append:∀{xs ys:List V} {us ws:List Value},bG xs us->bG ys ws->bG (xs++ys) (us++ws)
 |_,_,_,_,.nil,s=>s
 |_,_,_,_,.cons r t,s=>.cons r (bG.append t s)
theorem bG.take:∀{xs:List V} {us:List Value} (n:Nat),bG xs us->bG (xs.take n) (us.take n)
 |_,_,0,_=>.nil
 |_,_,_+1,.nil=>.nil
 |_,_,n+1,.cons r t=>.cons r (bG.take n t)
theorem bG.drop:∀{xs:List V} {us:List Value} (n:Nat),bG xs us->bG (xs.drop n) (us.drop n)
 |_,_,0,r=>r
 |_,_,_+1,.nil=>.nil
 |_,_,n+1,.cons _ t=>bG.drop n t
def Ft:Option V->Option Value->Prop
 |some v,some u=>RelV v u
 |none,none=>True
 |_,_=>False
def KV{κ:Type}:List (κ×V)->List (κ×Value)->Prop:=Paired λ(p:κ×V) (q:κ×Value)=>p.1=q.1/\RelV p.2 q.2
def kV:bO->V
 | .inl i=>.int i
 | .inr x=>.str x
inductive HO where
 |lst (xs:List V)
 |tup (xs:List V)
 |dK (kvs:List (bO×V))|dT (kvs:List (List bO×V))
 |set (oH:Int->Bool) (n:Nat)
 |ins (C dx:Addr) (fs:List (Str×V))
 |own (x:Addr)
 |xd (fs:List (Str×V))
 |met (f x:Addr)
 |rng (lo hi:Int)
 |frz (o:Obj) (u:HO)
 |tbl (ps:Array Value)
 |ext (φ:Heap->Prop)
abbrev J:=Addr->Option HO
def upd(H:J)(a:Addr)(o:HO):J:=λb=>if b=a then some o else H b
theorem Zz:upd H a o a=some o:=by unfold upd;rw[if_pos rfl]
theorem Zu{b:Addr}(h:b≠a):upd H a o b=H b:=by unfold upd;rw[if_neg h]
theorem Pg:upd (upd H a o) a u=upd H a u:=by funext b;unfold upd;split<;>rfl
theorem RI{b:Addr}(h:H a=some o)(h':H b=some u)(d:o≠u):a≠b:=by intro e;subst e;rw[h]at h';exact d (BH h')
theorem Cs{b:Addr}(h:H a=some o)(h':H b=none):a≠b:=by intro e;subst e;rw[h]at h';cases h'
section
variable(P:Program)(w:World)
def ZU(H:J)(h:Heap)(a:Addr):HO->Prop
 | .lst xs=>xs.length<=sizeLine/\∃(its:List Value) (n:Nat),bG xs its/\h.get? a=some {cls:=.type "list",data:=.seq its.toArray n}
 | .tup xs=>xs.length<=sizeLine/\∃its:List Value,bG xs its/\IsTup h a its.toArray
 | .dK kvs=>kvs.length<=sizeLine/\(a==A8)=false/\∃vs,KV kvs vs/\h.DictOf (Bh P w) a vs
 | .dT kvs=>kvs.length<=sizeLine/\(a==A8)=false/\∃xs:List (List bO×Addr×Value),
   Paired (λ(p:List bO×V) (q:List bO×Addr×Value)=>p.1=q.1/\H q.2.1=some (.tup (p.1.map kV))/\RelV p.2 q.2.2) kvs xs /\
   ∃o es ep,h.get? a=some o/\o.ExactDict/\o.data=.dict es ep/\es.toList=xs.map (entryOfKey (F4 (Bh P w)))/\(xs.map (·.1)).Nodup
 | .set oH n=>h.SetOf (intKind P w) a oH n
 | .ins C dx fs=>H dx=some (.own a)/\fs.length<=1000/\dx≠a/\h.get? a=some (PySem.W.instObj C dx) /\
   ∃mA,h.Ns1 dx mA/\(∀f,Ft (fs.lookup f) (mA f))/\PySem.Within mA (fs.map (·.1))
 | .own _=>∃o,h.get? a=some o
 | .xd fs=>∃mA,h.Ns1 a mA/\∀f,Ft (fs.lookup f) (mA f)
 | .rng lo hi=>∃t u v,h.get? a=some {cls:=.type "range",data:=.fields #[.int lo t,.int hi u,.int 1 v]}
 | .frz o u=>h.get? a=some o/\ZU H h a u
 | .tbl ps=>h.get? a=some {cls:=.none,data:=.fields ps}
 | .met f x=>h.get? a=some (Ks (.ref f) (.ref x))
 | .ext φ=>φ h/\(∃o,h.get? a=some o)/\∀h1 h2:Heap,φ h1->(∀o,h1.get? a=some o->h2.get? a=some o)->φ h2
def cu(H:J)(h:Heap):Prop:=∀a o,H a=some o->ZU P w H h a o
end
section
variable{P:Program}{w:World}{H H':J}{h h':Heap}{a:Addr}{o:HO}
theorem ZU.lt(x:ZU P w H h a o):a<h.objs.size:=by
 cases o with
 |lst xs=>obtain⟨_,_,_,_,e⟩:=x;exact Ai e
 |tup xs=>obtain⟨_,_,_,p⟩:=x;exact p.lt
 |dK kvs=>obtain⟨_,_,_,_,o,_,_,e,_⟩:=x;exact Ai e
 |dT kvs=>obtain⟨_,_,_,_,o,_,_,e,_⟩:=x;exact Ai e
 |set oH n=>obtain⟨o,_,_,_,e,_⟩:=x;exact Ai e
 |ins C dx fs=>obtain⟨_,_,_,e,_⟩:=x;exact Ai e
 |own y=>obtain⟨_,e⟩:=x;exact Ai e
 |xd fs=>obtain⟨_,⟨_,_,_,e,_⟩,_⟩:=x;exact Ai e
 |rng lo hi=>obtain⟨_,_,_,e⟩:=x;exact Ai e
 |frz ob u=>obtain⟨e,_⟩:=x;exact Ai e
 |tbl ps=>exact Ai (show h.get? a=some _ from x)
 |met f y=>exact Ai (show h.get? a=some _ from x)
 |ext φ=>obtain⟨_,⟨_,e⟩,_⟩:=x;exact Ai e
theorem Paired.mapP{α β:Type}{F G:α->β->Prop}:∀{l₁:List α} {l₂:List β},Paired F l₁ l₂->(∀a b,F a b->G a b)->Paired G l₁ l₂
 |_,_,.nil,_=>.nil
 |_,_,.cons r t,f=>.cons (f _ _ r) (Paired.mapP t f)
theorem ZU.stay(x:ZU P w H h a o)(k:∀b u,(b=a\/H b=some (.own a))->h.get? b=some u->h'.get? b=some u)(ho:∀b,H b=some (.own a)->H' b=some (.own a))(ht:∀b xs,H b=some (.tup xs)->H' b=some (.tup xs)):ZU P w H' h' a o:=by
 induction o with
 |lst xs=>obtain⟨z,its,n,r,e⟩:=x;exact⟨z,its,n,r,k _ _ (.inl rfl) e⟩
 |tup xs=>obtain⟨z,its,r,ob,e,c⟩:=x;exact⟨z,its,r,ob,k _ _ (.inl rfl) e,c⟩
 |dK kvs=>obtain⟨z,y,vs,r,ob,es,ep,e,c⟩:=x;exact⟨z,y,vs,r,ob,es,ep,k _ _ (.inl rfl) e,c⟩
 |dT kvs=>obtain⟨z,y,xs,r,ob,es,ep,e,c⟩:=x;exact⟨z,y,xs,Paired.mapP r λp q z=>⟨z.1,ht _ _ z.2.1,z.2.2⟩,ob,es,ep,k _ _ (.inl rfl) e,c⟩
 |set oH n=>obtain⟨ob,es,ep,t,e,c⟩:=x;exact⟨ob,es,ep,t,k _ _ (.inl rfl) e,c⟩
 |ins C dx fs=>obtain⟨d,z,ne,e,mA,⟨od,es,ep,e2,c⟩,r⟩:=x;exact⟨ho _ d,z,ne,k _ _ (.inl rfl) e,mA,⟨od,es,ep,k _ _ (.inr d) e2,c⟩,r⟩
 |own y=>obtain⟨ob,e⟩:=x;exact⟨ob,k _ _ (.inl rfl) e⟩
 |xd fs=>obtain⟨mA,⟨od,es,ep,e,c⟩,r⟩:=x;exact⟨mA,⟨od,es,ep,k _ _ (.inl rfl) e,c⟩,r⟩
 |rng lo hi=>obtain⟨t,u,v,e⟩:=x;exact⟨t,u,v,k _ _ (.inl rfl) e⟩
 |frz ob u ih=>obtain⟨e,q⟩:=x;exact⟨k _ _ (.inl rfl) e,ih q⟩
 |tbl ps=>have e:h.get? a=some {cls:=.none,data:=.fields ps}:=x;show h'.get? a=some {cls:=.none,data:=.fields ps};exact k a _ (.inl rfl) e
 |met f y=>have e:h.get? a=some (Ks (.ref f) (.ref y)):=x;show h'.get? a=some (Ks (.ref f) (.ref y));exact k a _ (.inl rfl) e
 |ext φ=>obtain⟨p,⟨o,e⟩,st⟩:=x;exact⟨st _ _ p λo q=>k _ _ (.inl rfl) q,⟨o,k _ _ (.inl rfl) e⟩,st⟩
theorem cu.lt(x:cu P w H h)(e:H a=some o):a<h.objs.size:=(x a o e).lt
theorem cu.fresh(x:cu P w H h)(e:h.objs.size<=a):H a=none:=by
 cases q:H a with
 |none=>rfl
 |some u=>exact absurd (Bk (x.lt q) e) (Fj _)
theorem cu.kept(x:cu P w H h)(k:∀b u,h.get? b=some u->h'.get? b=some u):cu P w H h':=λa o e=>(x a o e).stay (λb u _ q=>k b u q) (λ_ q=>q) λ_ _ q=>q
theorem cu.laid(x:cu P w H h)(k:∀b u,h.get? b=some u->h'.get? b=some u)(hp:h.objs.size<=a)(new:ZU P w (upd H a o) h' a o):cu P w (upd H a o) h':=λb u e=>by
 have hn:=x.fresh hp
 by_cases hb:b=a
 .subst hb;rw[Zz]at e;cases e;exact new
 .rw[Zu hb]at e
  exact(x b u e).stay (λc v _ q=>k c v q) (λc q=>by rw[Zu (Cs q hn)];exact q) λc xs q=>by rw[Zu (Cs q hn)];exact q
end
def Rd(H:J)(a:Addr)(u:HO):Prop:=H a=some u\/∃o,H a=some (.frz o u)
theorem Rd.ok{P:Program}{w:World}{H:J}{h:Heap}{a:Addr}{u:HO}(r:Rd H a u)(x:cu P w H h):ZU P w H h a u:=by
 rcases r with r|⟨o,r⟩
 .exact x a u r
 .obtain⟨_,q⟩:=x a _ r
  exact q
def jc:Option HO->Prop
 |some (.lst _)=>True
 |some (.dK _)=>True
 |some (.dT _)=>True
 |some (.set _ _)=>True
 |some (.ins _ _ _)=>True
 |some (.ext _)=>True
 |_=>False
section
variable{P:Program}{w:World}{H:J}{h h':Heap}{x e:Addr}{o':HO}
theorem cu.write(ok:cu P w H h)(mu:jc (H x))(he:e=x\/H e=some (.own x))(k:∀b u,b≠e->h.get? b=some u->h'.get? b=some u)(iB:∃u,h'.get? e=some u)(new:ZU P w (upd H x o') h' x o'):cu P w (upd H x o') h':=λb u q=>by
 have jf:∀c y,H c=some (.own y)->c≠x:=λc y r z=>by subst z;rw[r]at mu;exact mu
 have kR:∀c xs,H c=some (.tup xs)->c≠x:=λc xs r z=>by subst z;rw[r]at mu;exact mu
 by_cases hb:b=x
 .subst hb;rw[Zz]at q;cases q;exact new
 .rw[Zu hb]at q
  by_cases f6:b=e
  .have q':H b=some (.own x):=by
    rcases he with z|z
    .exact absurd (f6.trans z) hb
    .rw[f6];exact z
   rw[q]at q';cases q';obtain⟨v,hv⟩:=iB;exact⟨v,by rw[f6];exact hv⟩
  .refine(ok b u q).stay (λc v hc r=>k c v ?_ r) (λc r=>by rw[Zu (jf c b r)];exact r) λc xs r=>by rw[Zu (kR c xs r)];exact r
   rcases hc with rfl|hc
   .exact f6
   .rintro rfl
    rcases he with z|z
    .exact jf c b hc z
    .rw[hc]at z;cases z;exact hb rfl
end
structure Un(fs ex:List Addr)(H H':J)(h h':Heap):Prop where
 keep:∀b o,h.get? b=some o->H b=none->b∉fs->b∉ex->h'.get? b=some o
 slot:∀b o,h.get? b=some o->H b=none->b∈fs->b∉ex->∃sl,h'.get? b=some {o with slots:=sl}
 free:∀b o,h.get? b=some o->H b=none->b∉ex->H' b=none
 there:∀b o,h.get? b=some o->b∉ex->∃o',h'.get? b=some o'
 tups:∀b xs,H b=some (.tup xs)->H' b=some (.tup xs)
 frzs:∀b o u,H b=some (.frz o u)->H' b=some (.frz o u)
 tbls:∀b ps,H b=some (.tbl ps)->∃more,H' b=some (.tbl (ps++more))
section
variable{fs fs' ex ex':List Addr}{H H1 H2:J}{h h1 h2 h':Heap}{a x e:Addr}{o:HO}
theorem Un.any(u:Un fs ex H H1 h h1){b:Addr}{ob:Obj}(q:h.get? b=some ob)(n:H b=none)(hx:b∉ex):∃sl,h1.get? b=some {ob with slots:=sl}:=by
 by_cases hb:b∈fs
 .exact u.slot b ob q n hb hx
 .exact⟨ob.slots,u.keep b ob q n hb hx⟩
theorem Un.kept(k:∀b u,h.get? b=some u->h'.get? b=some u):Un fs ex H H h h' :=
 ⟨λb ob q _ _ _=>k b ob q,λb ob q _ _ _=>⟨ob.slots,k b ob q⟩,λ_ _ _ n _=>n,λb ob q _=>⟨ob,k b ob q⟩,λ_ _ q=>q,λ_ _ _ q=>q,λ_ ps q=>⟨#[],by rw[q];simp⟩⟩
theorem Un.refl:Un fs ex H H h h:=Un.kept λ_ _ q=>q
theorem Un.laid(k:∀b u,h.get? b=some u->h'.get? b=some u)(hp:h.objs.size<=a)(hn:H a=none):Un fs ex H (upd H a o) h h' where
 keep:=λb u q _ _ _=>k b u q
 slot:=λb u q _ _ _=>⟨u.slots,k b u q⟩
 free:=λb u q n _=>by rw[Zu (Ap (Bk (Ai q) hp))];exact n
 there:=λb u q _=>⟨u,k b u q⟩
 tups:=λb xs q=>by rw[Zu (Cs q hn)];exact q
 frzs:=λb u xs q=>by rw[Zu (Cs q hn)];exact q
 tbls:=λb ps q=>⟨#[],by rw[Zu (Cs q hn),q];simp⟩
theorem Un.write(mu:jc (H x))(he:e=x\/H e=some (.own x))(k:∀b u,b≠e->h.get? b=some u->h'.get? b=some u)(iB:∃u,h'.get? e=some u):Un fs ex H (upd H x o) h h':=by
 have hx:∀b,H b=none->b≠x:=λb n z=>by subst z;rw[n]at mu;exact mu
 have hb:∀b,H b=none->b≠e:=λb n z=>by
  subst z;rcases he with r|r
  .exact hx b n r
  .rw[n]at r;cases r
 have hm:∀b u,H b=some u->¬jc (some u)->b≠x:=λb u q nm z=>by subst z;rw[q]at mu;exact nm mu
 refine⟨λb u q n _ _=>k b u (hb b n) q,λb u q n _ _=>⟨u.slots,k b u (hb b n) q⟩,λb u q n _=>by rw[Zu (hx b n)];exact n,λb u q _=>?_,
  λb xs q=>by rw[Zu (hm b _ q λz=>z)];exact q,λb u xs q=>by rw[Zu (hm b _ q λz=>z)];exact q,λb ps q=>⟨#[],by rw[Zu (hm b _ q λz=>z),q];simp⟩⟩
 by_cases f6:b=e
 .subst f6;exact iB
 .exact⟨u,k b u f6 q⟩
end
def jw(h:Heap)(H:J):List Addr:=(Ab h.objs.size).filter λa=>(H a).isSome
def C3(h:Heap)(H:J):Heap:=PySem.W.hideAll h (jw h H)
theorem Wu(h:Heap)(H:J):(C3 h H).objs.size=h.objs.size:=PySem.W.hideAll_size _ _
theorem UA{b:Addr}{o:Obj}(e:h.get? b=some o)(n:H b=none):(C3 h H).get? b=some o :=
 PySem.W.hideAll_get _ e λhm=>by have q:(H b).isSome=true:=(Gs.mp hm).2;rw[n]at q;simp at q
theorem Tf{b:Addr}{o:Obj}(e:(C3 h H).get? b=some o):h.get? b=some o/\H b=none:=by
 have e':h.get? b=some o:=PySem.W.of_hideAll (jw h H) e;refine⟨e',?_⟩;cases q:H b with
 |none=>rfl
 |some x=>have hm:b∈jw h H:=Gs.mpr ⟨Am.mpr (Ai e'),by simp[q]⟩;have z:(C3 h H).get? b=none:=PySem.W.hideAll_none (jw h H) hm;rw[z]at e;cases e
end
section
variable{A:Around}{ch:List Addr}{i t':Nat}{x:Str}{u:Value}{E:Value->Shared->Prop}
structure Mod(K:Ad)(mg:Str->Option Value)(base:Heap):Prop where
 kin:K.In base
 glob:base.Ns BD mg
 blt:∃mb,base.Ns Gi mb/\∀x:Str,x ≠ "__name__"->mb x=Bi x
 nolimit:base.NoLimit
structure Cx where
 prog:Program
 w:World
 K:Ad
 mg:Str->Option Value
 base:Heap
 A:Around
 N:List Str
 s₀:Shared
 H₀:J
 env:Env
 outer:List Env
 stack:List Env
 ex:List Addr
 fn:Str->Bool
 calm:Bool
 pn:List (Addr×Obj)
 xe:Value->Shared->Prop
def eV(l:List Env):List Addr:=l.filterMap (·.frame)
abbrev Cx.fs(X:Cx):List Addr:=eV X.outer
def d6(sc:Scope)(x:Str):Prop:=sc.names.lookup x=some .local\/sc.names.lookup x=some .cell\/sc.names.lookup x=some .free
def Loc(sc:Scope)(x:Str):Prop:=sc.names.lookup x=some .local\/sc.names.lookup x=some .cell
def Look(env:Env)(h:Heap)(m:Str->Option Value)(x:Str)(u:Value):Prop :=
 (env.kindOf x=some .local/\m x=some u)\/((env.kindOf x=some .cell\/env.kindOf x=some .free)/\∃c,env.cells.lookup x=some c/\h.IsCell c (some u))
structure Cx.Ok(X:Cx):Prop where
 mod:Mod X.K X.mg X.base
 kind:X.env.scope.kind=.function
 glob:X.env.globals=BD
 blt:X.env.builtins=Gi
 above:X.s₀.heap.objs.size<=X.env.locals
 inj:∀x y c,X.env.cells.lookup x=some c->X.env.cells.lookup y=some c->x=y
 has:∀x,(X.env.kindOf x=some .cell\/X.env.kindOf x=some .free)->∃c,X.env.cells.lookup x=some c
 cab:∀x c,X.fn x=true->X.env.cells.lookup x=some c->X.s₀.heap.objs.size<=c
 hd:X.calm=true->X.A.handled=none
 frames:X.A.frames=some X.stack
 stk:X.stack=X.outer\/(X.stack=X.env::X.outer/\X.env.frame=some X.env.locals)
 exf:∀b∈X.ex,b≠X.env.locals/\∀x c,X.env.cells.lookup x=some c->c≠b
 bs:∀b o,X.base.get? b=some o->X.s₀.heap.get? b=some o/\X.H₀ b=none
 bsz:X.base.objs.size<=X.s₀.heap.objs.size
 noex:∀b o,X.base.get? b=some o->b∉X.ex
 exfs:∀b∈X.ex,b∉X.fs
 funs:X.s₀.heap.FunFrames X.base X.outer
 frf:∀b∈X.fs,X.H₀ b=none
structure Inv(X:Cx)(bE:List (Addr×Obj))(Y:List (Option V))(H:J)(s:Shared):Prop where
 ok:X.Ok
 os:s.os=X.s₀.os
 bare:AllBare s.gens
 base:Un X.fs X.ex X.H₀ H X.s₀.heap s.heap
 loc:∃m,s.heap.Ns X.env.locals m/\∀(i:Nat) (x:Str) (v:V),X.N[i]?=some x->Y[i]?=some (some v)->d6 X.env.scope x->∃u,RelV v u/\Look X.env s.heap m x u
 cell:∀x c,X.env.cells.lookup x=some c->∃v,s.heap.IsCell c v
 free:H X.env.locals=none
 freeC:∀x c,X.env.cells.lookup x=some c->H c=none
 pin:∀p∈X.pn++bE,s.heap.get? p.1=some p.2/\H p.1=none/\p.1≠X.env.locals/\p.1∉X.fs/\∀v,p.2.data≠.cell v
 hok:cu X.prog X.w H s.heap
 len:Y.length=X.N.length
section
variable{X:Cx}{bE:List (Addr×Obj)}{Y:List (Option V)}{H H':J}{s:Shared}{h':Heap}
theorem Cx.Ok.nofr(ok:X.Ok){b:Addr}{o:Obj}(e:X.base.get? b=some o):b∉X.fs:=λhb=>by have:=(ok.funs.mem hb).1;rw[e]at this;cases this
theorem Inv.bs(I:Inv X bE Y H s):∀b o,X.base.get? b=some o->s.heap.get? b=some o/\H b=none:=λb o e=>⟨I.base.keep b o (I.ok.bs b o e).1 (I.ok.bs b o e).2 (I.ok.nofr e) (I.ok.noex b o e),I.base.free b o (I.ok.bs b o e).1 (I.ok.bs b o e).2 (I.ok.noex b o e)⟩
theorem Inv.bk(I:Inv X bE Y H s):∀b o,X.base.get? b=some o->s.heap.get? b=some o:=λb o e=>(I.bs b o e).1
theorem Inv.mod(I:Inv X bE Y H s):Mod X.K X.mg X.base:=I.ok.mod
theorem Inv.kIn(I:Inv X bE Y H s):X.K.In s.heap:=I.ok.mod.kin.keeps I.bk
theorem Inv.lt(I:Inv X bE Y H s):X.env.locals<s.heap.objs.size:=let ⟨_,hn,_⟩:=I.loc;hn.lt
theorem Inv.sz(I:Inv X bE Y H s):X.s₀.heap.objs.size<=s.heap.objs.size:=BE I.ok.above (DX I.lt)
theorem Inv.nofs(I:Inv X bE Y H s){a:Addr}(h:s.heap.objs.size<=a):a∉X.fs:=λhb=>by obtain⟨_,o,ho,_⟩:=I.ok.funs.mem hb;exact absurd (Bk (Ai ho) (BE I.sz h)) (Fj _)
theorem Inv.cne(I:Inv X bE Y H s):∀x c,X.env.cells.lookup x=some c->c≠X.env.locals:=λx c e z=>by obtain⟨v,o,ho,hd⟩:=I.cell x c e;obtain⟨m,⟨o',es,ep,ho',hd',_⟩,_⟩:=I.loc;rw[z,ho']at ho;cases ho;rw[hd']at hd;cases hd
theorem Inv.funs(I:Inv X bE Y H s):s.heap.FunFrames X.base X.outer:=by
 have all:∀(l:List Env),(∀b∈eV l,b∈X.fs)->X.s₀.heap.FunFrames X.base l->s.heap.FunFrames X.base l:=by
  intro l
  induction l with
  |nil=>intro _ _;trivial
  |cons env r ih=>intro hs hl;obtain⟨hk,⟨L,o,hf,hn,ho,hd⟩,hr⟩:=hl;have hL:L∈X.fs:=hs L (by unfold eV;rw[Kn,hf];exact An);obtain⟨sl,e⟩:=I.base.slot L o ho (I.ok.frf L hL) hL λz=>I.ok.exfs L z hL;exact⟨hk,⟨L,_,hf,hn,e,hd⟩,ih (λb hb=>hs b (by unfold eV;rw[Kn,hf];exact Aq _ hb)) hr⟩
 exact all X.outer (λ_ hb=>hb) I.ok.funs
theorem Inv.stack(I:Inv X bE Y H s):s.heap.FunFrames X.base X.stack:=by
 rcases I.ok.stk with e|⟨e,hf⟩
 .rw[e];exact I.funs
 .rw[e]
  obtain⟨m,hn,_⟩:=I.loc;refine .cons (by rw[I.ok.kind];decide) hf hn ?_ I.funs;exact Heap.get?_none_of_le (BE I.ok.bsz I.ok.above)
theorem Inv.stkSub(I:Inv X bE Y H s):∀b∈eV X.stack,b∈X.env.locals::X.fs:=λb hb=>by
 rcases I.ok.stk with e|⟨e,hf⟩
 .rw[e]at hb;exact Aq _ hb
 .rw[e]at hb
  unfold eV at hb;rw[Kn,hf]at hb;exact hb
theorem Inv.stkFree(I:Inv X bE Y H s):∀b∈eV X.stack,H b=none:=λb hb=>by
 rcases Aw.mp (I.stkSub b hb)with e|hb
 .rw[e];exact I.free
 .obtain⟨_,o,ho,_⟩:=I.ok.funs.mem hb
  exact I.base.free b o ho (I.ok.frf b hb) λz=>I.ok.exfs b z hb
theorem Inv.step{g':Array GenState}{d':Drawn}(I:Inv X bE Y H s)(fO:∀b∈ch,(b∈X.ex\/X.s₀.heap.objs.size<=b)/\b≠X.env.locals/\(∀x c,X.env.cells.lookup x=some c->c≠b)/\∀p∈X.pn++bE,p.1≠b)(keep:∀b o,b≠X.env.locals->b∉X.fs->b∉ch->s.heap.get? b=some o->H b=none->h'.get? b=some o)(slot:∀b o,b≠X.env.locals->b∈X.fs->b∉ch->s.heap.get? b=some o->H b=none->∃sl,h'.get? b=some {o with slots:=sl})(free:∀b o,b∉ch->s.heap.get? b=some o->H b=none->H' b=none)(there:∀b o,b∉ch->s.heap.get? b=some o->∃o',h'.get? b=some o')(tups:∀b xs,H b=some (.tup xs)->H' b=some (.tup xs))(frzs:∀b o u,H b=some (.frz o u)->H' b=some (.frz o u))(tbls:∀b ps,H b=some (.tbl ps)->∃more,H' b=some (.tbl (ps++more)))(ns:∀m,s.heap.Ns X.env.locals m->h'.Ns X.env.locals m)(hok:cu X.prog X.w H' h')(hg:AllBare g'):Inv X bE Y H' {s with heap:=h',gens:=g',drawn:=d',toks:=t'}:=by
 have iP:∀b o,X.s₀.heap.get? b=some o->b≠X.env.locals:=λb o e=>Ap (Bk (Ai e) I.ok.above);have g6:∀b o,X.s₀.heap.get? b=some o->b∉X.ex->b∉ch:=λb o e hx hb=>by
  rcases(fO b hb).1 with z|z
  .exact hx z
  .exact absurd (Bk (Ai e) z) (Fj _)
 have gW:∀x c,X.env.cells.lookup x=some c->∀v,s.heap.IsCell c v->h'.IsCell c v:=λx c e v ⟨o,ho,hd⟩=>by
  have iQ:c∉ch:=λz=>(fO c z).2.2.1 x c e rfl
  by_cases hc:c∈X.fs
  .obtain⟨sl,q⟩:=slot c o (I.cne x c e) hc iQ ho (I.freeC x c e)
   exact⟨_,q,hd⟩
  .exact⟨o,keep c o (I.cne x c e) hc iQ ho (I.freeC x c e),hd⟩
 refine⟨I.ok,I.os,hg,⟨λb o e n hb hx=>?_,λb o e n hb hx=>?_,λb o e n hx=>?_,λb o e hx=>?_,λb xs e=>tups b xs (I.base.tups b xs e),λb o xs e=>frzs b o xs (I.base.frzs b o xs e),λb ps e=>?_⟩,?_,λx c e=>?_,?_,λx c e=>?_,λp hp=>?_,hok,I.len⟩
 .exact keep b o (iP b o e) hb (g6 b o e hx) (I.base.keep b o e n hb hx) (I.base.free b o e n hx)
 .obtain⟨sl,e1⟩:=I.base.slot b o e n hb hx
  obtain⟨sl',e2⟩:=slot b _ (iP b o e) hb (g6 b o e hx) e1 (I.base.free b o e n hx);exact⟨sl',e2⟩
 .obtain⟨o',e1⟩:=I.base.there b o e hx
  exact free b o' (g6 b o e hx) e1 (I.base.free b o e n hx)
 .obtain⟨o',e1⟩:=I.base.there b o e hx
  exact there b o' (g6 b o e hx) e1
 .obtain⟨m1,e1⟩:=I.base.tbls b ps e
  obtain⟨m2,e2⟩:=tbls b _ e1;exact⟨m1++m2,by rw[e2,Array.append_assoc]⟩
 .obtain⟨m,hn,hl⟩:=I.loc
  refine⟨m,ns m hn,λi x v e1 e2 e3=>?_⟩;obtain⟨u,r,l⟩:=hl i x v e1 e2 e3;refine⟨u,r,?_⟩;rcases l with l|⟨k,c,e,z⟩
  .exact .inl l
  .exact .inr ⟨k,c,e,gW x c e _ z⟩
 .obtain⟨v,z⟩:=I.cell x c e
  exact⟨v,gW x c e v z⟩
 .obtain⟨m,⟨o,_,_,ho,_⟩,_⟩:=I.loc
  exact free _ o (λz=>(fO _ z).2.1 rfl) ho I.free
 .obtain⟨v,o,ho,hd⟩:=I.cell x c e
  exact free c o (λz=>(fO c z).2.2.1 x c e rfl) ho (I.freeC x c e)
 .obtain⟨e,n,ne,nf,d⟩:=I.pin p hp
  have iQ:p.1∉ch:=λz=>(fO p.1 z).2.2.2 p hp rfl;exact⟨keep p.1 p.2 ne nf iQ e n,free p.1 p.2 iQ e n,ne,nf,d⟩
theorem Inv.un(I:Inv X bE Y H s)(u:Un X.fs [] H H' s.heap h')(hok:cu X.prog X.w H' h'):Inv X bE Y H' {s with heap:=h',toks:=t'}:=by obtain⟨m,⟨o,es,ep,ho,r⟩,_⟩:=id I.loc;obtain⟨sl,hL⟩:=u.any ho I.free (by simp);exact I.step (g':=s.gens) (d':=s.drawn) (ch:=[]) (λ_ z=>nomatch z) (λb o _ hb _ e n=>u.keep b o e n hb (by simp)) (λb o _ hb _ e n=>u.slot b o e n hb (by simp)) (λb o _ e n=>u.free b o e n (by simp)) (λb o _ e=>u.there b o e (by simp)) u.tups u.frzs u.tbls (λm' hm=>by obtain⟨o',es',ep',ho',r'⟩:=hm;rw[ho]at ho';cases ho';exact⟨_,es',ep',hL,r'⟩) hok I.bare
theorem Inv.call{g':Array GenState}{d':Drawn}(I:Inv X bE Y H s)(u:Un (eV X.stack) ch H H' s.heap h')(hok:cu X.prog X.w H' h')(hg:AllBare g')(fO:∀b∈ch,(b∈X.ex\/X.s₀.heap.objs.size<=b)/\b≠X.env.locals/\(∀x c,X.env.cells.lookup x=some c->c≠b)/\∀p∈X.pn++bE,p.1≠b):Inv X bE Y H' {s with heap:=h',gens:=g',drawn:=d',toks:=t'}:=by
 obtain⟨m,⟨o,es,ep,ho,r⟩,_⟩:=id I.loc;obtain⟨sl,hL⟩:=u.any ho I.free λz=>(fO _ z).2.1 rfl;exact I.step (ch:=ch) fO (λb o hL hb hc e n=>u.keep b o e n (λz=>(Aw.mp (I.stkSub b z)).elim hL hb) hc) (λb o _ _ hc e n=>u.any e n hc) (λb o hc e n=>u.free b o e n hc) (λb o hc e=>u.there b o e hc) u.tups u.frzs u.tbls (λm' hm=>by obtain⟨o',es',ep',ho',r'⟩:=hm;rw[ho]at ho';cases ho';exact⟨_,es',ep',hL,r'⟩) hok hg
theorem Inv.turned{it:Addr}(I:Inv X bE Y H s)(k:∀b o,b≠it->s.heap.get? b=some o->h'.get? b=some o)(hn:H it=none)(hL:it≠X.env.locals)(h1:it∈X.ex\/X.s₀.heap.objs.size<=it)(h2:∀x c,X.env.cells.lookup x=some c->c≠it)(h3:∀p∈X.pn++bE,p.1≠it):Inv X bE Y H {s with heap:=h',toks:=t'}:=by
 have lG:∀b u,H b=some u->b≠it:=λb u e z=>by rw[z,hn]at e;cases e
 refine I.step (g':=s.gens) (d':=s.drawn) (ch:=[it]) (λb hb=>?_) (λb o _ _ hc e _=>k b o (λz=>hc (by simp[z])) e) (λb o _ _ hc e _=>⟨o.slots,k b o (λz=>hc (by simp[z])) e⟩) (λ_ _ _ _ n=>n)
  (λb o hc e=>⟨o,k b o (λz=>hc (by simp[z])) e⟩) (λ_ _ e=>e) (λ_ _ _ e=>e) (λb ps e=>⟨#[],by rw[e];simp⟩) (λm hm=>?_) (λb u e=>?_) I.bare
 .have e:b=it:=by simpa using hb
  subst e;exact⟨h1,hL,h2,h3⟩
 .obtain⟨o,es,ep,ho,r⟩:=hm
  exact⟨o,es,ep,k _ o (Az hL) ho,r⟩
 .refine(I.hok b u e).stay (λc v hc q=>k c v ?_ q) (λ_ q=>q) λ_ _ q=>q
  rcases hc with z|z
  .rw[z];exact lG b u e
  .exact lG c _ z
theorem Inv.tok(I:Inv X bE Y H s)(t:Nat):Inv X bE Y H {s with toks:=t}:=I.un (h':=s.heap) (t':=t) Un.refl I.hok
theorem Inv.kept{t':Nat}(I:Inv X bE Y H s)(k:∀b u,s.heap.get? b=some u->h'.get? b=some u):Inv X bE Y H {s with heap:=h',toks:=t'}:=I.un (Un.kept k) (I.hok.kept k)
theorem Inv.laid{a:Addr}{o:HO}{t':Nat}(I:Inv X bE Y H s)(k:∀b u,s.heap.get? b=some u->h'.get? b=some u)(hp:s.heap.objs.size<=a)(new:ZU X.prog X.w (upd H a o) h' a o):Inv X bE Y (upd H a o) {s with heap:=h',toks:=t'}:=I.un (Un.laid k hp (I.hok.fresh hp)) (I.hok.laid k hp new)
theorem Inv.write{x e:Addr}{o:HO}{t':Nat}(I:Inv X bE Y H s)(mu:jc (H x))(he:e=x\/H e=some (.own x))(k:∀b u,b≠e->s.heap.get? b=some u->h'.get? b=some u)(iB:∃u,h'.get? e=some u)(new:ZU X.prog X.w (upd H x o) h' x o):Inv X bE Y (upd H x o) {s with heap:=h',toks:=t'}:=I.un (Un.write mu he k iB) (I.hok.write mu he k iB new)
theorem Inv.weak{σ':List (Option V)}(I:Inv X bE Y H s)(hl:σ'.length=Y.length)(w:∀(i:Nat) v,σ'[i]?=some (some v)->Y[i]?=some (some v)):Inv X bE σ' H s :=
 ⟨I.ok,I.os,I.bare,I.base,let ⟨m,hn,hl'⟩:=I.loc;⟨m,hn,λi x v e1 e2 e3=>hl' i x v e1 (w i v e2) e3⟩,I.cell,I.free,I.freeC,I.pin,I.hok,hl.trans I.len⟩
theorem Inv.pins_of{pins':List (Addr×Obj)}(I:Inv X bE Y H s)(h:∀p∈pins',s.heap.get? p.1=some p.2/\H p.1=none/\p.1≠X.env.locals/\p.1∉X.fs/\∀v,p.2.data≠.cell v):Inv X pins' Y H s :=
 ⟨I.ok,I.os,I.bare,I.base,I.loc,I.cell,I.free,I.freeC,λp hp=>(AW.mp hp).elim (λz=>I.pin p (Dv _ z)) (h p),I.hok,I.len⟩
theorem Pp{N:List Str}(hN:N.Nodup){j:Nat}(a:N[i]?=some x)(b:N[j]?=some x):i=j:=by obtain⟨h1,e1⟩:=AO.mp a;obtain⟨h2,e2⟩:=AO.mp b;exact(List.getElem_inj hN).mp (e1.trans e2.symm)
theorem P7{M:Model}{v:V}{Q:Unit->Shared->Prop}(I:Inv X bE Y H s)(hN:X.N.Nodup)(hi:X.N[i]?=some x)(hx:Loc X.env.scope x)(r:RelV v u)(h:∀s',Inv X bE (Y.set i (some v)) H s'->(∃a,CV a s.heap s'.heap/\(a=X.env.locals\/X.env.cells.lookup x=some a))->Q () s')(hf:X.fn x=true\/X.env.scope.names.lookup x=some .local:=by first|exact .inl rfl|exact .inr rfl|assumption):wpAny M A (storeName X.env x u) Q E s:=by
 obtain⟨m,hn,hl⟩:=id I.loc;have lx:(X.env.scope.kind==.class||(X.env.scope.kind==.module&&X.env.locals != X.env.globals))=false:=by rw[I.ok.kind];rfl
 have lZ:i<Y.length:=by rw[I.len];exact(AO.mp hi).1
 have cne:=I.cne;have eF:∀{a:Addr} {h':Heap},(∃o,s.heap.get? a=some o/\H a=none)->CV a s.heap h'->cu X.prog X.w H h':=λ{a h'} ha hs b ob e=>by
  obtain⟨_,_,cV⟩:=ha;refine(I.hok b ob e).stay (λc w' hc q=>(hs.2 c ?_).trans q) (λ_ q=>q) λ_ _ q=>q
  rintro rfl
  rcases hc with rfl|hc
  .rw[cV]at e;cases e
  .rw[cV]at hc;cases hc
 rcases hx with hk|hk
 .refine wpAny_storeName_local hk hn (λh' hn' hs=>?_) lx
  obtain⟨oL,_,_,fj,_⟩:=id hn;refine h _ ⟨I.ok,I.os,I.bare,⟨λb o e n hb hx=>?_,λb o e n hb hx=>?_,I.base.free,λb o e hx=>?_,I.base.tups,I.base.frzs,I.base.tbls⟩,⟨_,hn',λj y v' e1 e2 e3=>?_⟩,λy c e=>?_,I.free,I.freeC,λp hp=>?_,eF ⟨oL,fj,I.free⟩ hs,by simpa using I.len⟩ ⟨_,hs,.inl rfl⟩
  .exact(hs.2 b (Ap (Bk (Ai e) I.ok.above))).trans (I.base.keep b o e n hb hx)
  .obtain⟨sl,e1⟩:=I.base.slot b o e n hb hx
   exact⟨sl,(hs.2 b (Ap (Bk (Ai e) I.ok.above))).trans e1⟩
  .obtain⟨o',e1⟩:=I.base.there b o e hx
   exact⟨o',(hs.2 b (Ap (Bk (Ai e) I.ok.above))).trans e1⟩
  .by_cases hj:j=i
   .subst hj
    rw[hi]at e1;cases e1;rw[CH lZ]at e2;cases e2;exact⟨u,r,.inl ⟨hk,by simp⟩⟩
   .rw[Bl (Az hj)]at e2
    obtain⟨u',r',q⟩:=hl j y v' e1 e2 e3;refine⟨u',r',?_⟩;rcases q with⟨k,e⟩|⟨k,c,e,z⟩
    .refine .inl ⟨k,?_⟩
     have:y≠x:=λe=>hj (Pp hN e1 (e▸hi));simp[this,e]
    .exact .inr ⟨k,c,e,z.sameBut hs (cne y c e)⟩
  .obtain⟨w',z⟩:=I.cell y c e
   exact⟨w',z.sameBut hs (cne y c e)⟩
  .obtain⟨e,n,ne,nf,d⟩:=I.pin p hp
   exact⟨(hs.2 p.1 ne).trans e,n,ne,nf,d⟩
 .have kz:X.fn x=true:=by
   rcases hf with z|z
   .exact z
   .rw[z]at hk;cases hk
  obtain⟨c,hc⟩:=I.ok.has x (.inl hk);obtain⟨w',z⟩:=I.cell x c hc;refine wpAny_storeName_cell I.ok.kind hk hc z (λh' hc' hs=>?_);obtain⟨oc,lS,k5⟩:=id z;refine h {s with heap:=h'} ⟨I.ok,I.os,I.bare,⟨λb o e n hb hx=>?_,λb o e n hb hx=>?_,I.base.free,λb o e hx=>?_,I.base.tups,I.base.frzs,I.base.tbls⟩,⟨m,hn.sameBut hs (Az (cne x c hc)),λj y v' e1 e2 e3=>?_⟩,λy c' e=>?_,I.free,I.freeC,λp hp=>?_,eF ⟨oc,lS,I.freeC x c hc⟩ hs,by simpa using I.len⟩ ⟨c,hs,.inr hc⟩
  .exact(hs.2 b (Ap (Bk (Ai e) (I.ok.cab x c kz hc)))).trans (I.base.keep b o e n hb hx)
  .obtain⟨sl,e1⟩:=I.base.slot b o e n hb hx
   exact⟨sl,(hs.2 b (Ap (Bk (Ai e) (I.ok.cab x c kz hc)))).trans e1⟩
  .obtain⟨o',e1⟩:=I.base.there b o e hx
   exact⟨o',(hs.2 b (Ap (Bk (Ai e) (I.ok.cab x c kz hc)))).trans e1⟩
  .by_cases hj:j=i
   .subst hj
    rw[hi]at e1;cases e1;rw[CH lZ]at e2;cases e2;exact⟨u,r,.inr ⟨.inl hk,c,hc,hc'⟩⟩
   .rw[Bl (Az hj)]at e2
    obtain⟨u',r',q⟩:=hl j y v' e1 e2 e3;refine⟨u',r',?_⟩;rcases q with q|⟨k,c',e,z'⟩
    .exact .inl q
    .refine .inr ⟨k,c',e,z'.sameBut hs ?_⟩
     rintro rfl
     exact hj (Pp hN e1 (I.ok.inj _ _ _ e hc▸hi))
  .by_cases gN:c'=c
   .subst gN;exact⟨_,hc'⟩
   .obtain⟨w2,z2⟩:=I.cell y c' e
    exact⟨w2,z2.sameBut hs gN⟩
  .obtain⟨e,n,ne,nf,d⟩:=I.pin p hp
   refine⟨(hs.2 p.1 ?_).trans e,n,ne,nf,d⟩;intro q;rw[q,lS]at e;have q':oc=p.2:=BH e;exact d w' (by rw[<-q'];exact k5)
theorem PH{M:Model}{v:V}{Q:Unit->Shared->Prop}(I:Inv X bE Y H s)(hN:X.N.Nodup)(hi:X.N[i]?=some x)(hx:Loc X.env.scope x)(r:RelV v u)(h:∀s',Inv X bE (Y.set i (some v)) H s'->Q () s')(hf:X.fn x=true\/X.env.scope.names.lookup x=some .local:=by first|exact .inl rfl|exact .inr rfl|assumption):wpAny M A (storeName X.env x u) Q E s :=
 P7 I hN hi hx r (λs' I' _=>h s' I') hf
theorem Inv.call'{s':Shared}(I:Inv X bE Y H s)(ho:s'.os=s.os)(u:Un (eV X.stack) ch H H' s.heap s'.heap)(hok:cu X.prog X.w H' s'.heap)(hg:AllBare s'.gens)(fO:∀b∈ch,(b∈X.ex\/X.s₀.heap.objs.size<=b)/\b≠X.env.locals/\(∀x c,X.env.cells.lookup x=some c->c≠b)/\∀p∈X.pn++bE,p.1≠b):Inv X bE Y H' s':=by
 obtain⟨h',g',d',t',o'⟩:=s';have e:o'=s.os:=ho;subst e;exact I.call (g':=g') (t':=t') (d':=d') u hok hg fO
end
abbrev XK:=Value->Option Addr->J->Prop
abbrev St:=List (Option V)
abbrev VK:=V->J->Prop
abbrev TE:=St->J->VK->Prop
abbrev TT:=St->J->(Bool->J->Prop)->Prop
abbrev TA:=St->J->(List V->J->Prop)->Prop
structure er where
 nx:St->J->Prop
 rt:VK
 bk:St->J->Prop:=λ_ _=>False
 ct:St->J->Prop:=λ_ _=>False
abbrev TS:=er->St->J->Prop
inductive EP(X:Cx)(bE:List (Addr×Obj))(Y:St)(Q:VK)(u:Value)(s':Shared):Prop
 |mk (v:V) (H':J) (I:Inv X bE Y H' s') (r:RelV v u) (q:Q v H'):EP X bE Y Q u s'
inductive TP(X:Cx)(bE:List (Addr×Obj))(Y:St)(Q:Bool->J->Prop)(b:Bool)(s':Shared):Prop
 |mk (H':J) (I:Inv X bE Y H' s') (q:Q b H'):TP X bE Y Q b s'
inductive AP(X:Cx)(bE:List (Addr×Obj))(Y:St)(Q:List V->J->Prop)(us:List Value)(s':Shared):Prop
 |mk (vs:List V) (H':J) (I:Inv X bE Y H' s') (r:bG vs us) (q:Q vs H'):AP X bE Y Q us s'
inductive jX(X:Cx)(bE:List (Addr×Obj))(N:St->J->Prop)(s':Shared):Prop
 |mk (σ':St) (H':J) (I:Inv X bE σ' H' s') (q:N σ' H'):jX X bE N s'
inductive mx(X:Cx)(bE:List (Addr×Obj))(R:V->J->Prop)(u:Value)(s':Shared):Prop
 |mk (v:V) (σ':St) (H':J) (I:Inv X bE σ' H' s') (r:RelV v u) (q:R v H'):mx X bE R u s'
def SP(X:Cx)(bE:List (Addr×Obj))(D:er)(f:Flow)(s':Shared):Prop :=
 match f with
 | .next=>jX X bE D.nx s'
 | .brk=>jX X bE D.bk s'
 | .cont=>jX X bE D.ct s'
 | .ret u=>mx X bE D.rt u s'
def PE(X:Cx)(e:Expr)(t:TE):Prop :=
 ∀(bE:List (Addr×Obj)) (s:Shared) (Y:St) (H:J) (Q:VK),Inv X bE Y H s->t Y H Q->wpAny (model X.prog X.w) X.A (eval e X.env) (EP X bE Y Q) X.xe s
def PT(X:Cx)(e:Expr)(t:TT):Prop :=
 ∀(bE:List (Addr×Obj)) (s:Shared) (Y:St) (H:J) (Q:Bool->J->Prop),Inv X bE Y H s->t Y H Q->wpAny (model X.prog X.w) X.A (isTrue e X.env (eval e X.env)) (TP X bE Y Q) X.xe s
def PW(X:Cx)(e:Expr)(t:TT):Prop :=
 ∀(b7:Sem Value) (bE:List (Addr×Obj)) (s:Shared) (Y:St) (H:J) (Q:Bool->J->Prop),Inv X bE Y H s->t Y H Q->wpAny (model X.prog X.w) X.A (isTrue e X.env b7) (TP X bE Y Q) X.xe s
theorem PW.pt{X:Cx}{e:Expr}{t:TT}(h:PW X e t):PT X e t:=h _
def PA(X:Cx)(es:List Expr)(t:TA):Prop :=
 ∀(pos:Pos) (bE:List (Addr×Obj)) (s:Shared) (Y:St) (H:J) (Q:List V->J->Prop),Inv X bE Y H s->t Y H Q->wpAny (model X.prog X.w) X.A (spliced (backTo pos (Af es X.env))) (AP X bE Y Q) X.xe s
def PS(X:Cx)(st:Stmt)(t:TS):Prop :=
 ∀(bE:List (Addr×Obj)) (s:Shared) (Y:St) (H:J) (D:er),Inv X bE Y H s->t D Y H->wpAny (model X.prog X.w) X.A (exec st X.env) (SP X bE D) X.xe s
def cZ(X:Cx)(st:List Stmt)(t:TS):Prop :=
 ∀(bE:List (Addr×Obj)) (s:Shared) (Y:St) (H:J) (D:er),Inv X bE Y H s->t D Y H->wpAny (model X.prog X.w) X.A (execs st X.env) (SP X bE D) X.xe s
theorem bM{α:Type}{t:Sem α}{Q Q':α->Shared->Prop}{M:Model}{s:Shared}(h:wpAny M A t Q E s)(hQ:∀a s,Q a s->Q' a s):wpAny M A t Q' E s:=B7 h hQ λ_ _ x=>x
end
section
variable{H:J}{bE:List (Addr×Obj)}{pos:Pos}{s:Shared}{Y:St}{x:Str}{u:Value}{E Q:Value->Shared->Prop}
section
variable{X:Cx}
def DA(i:Nat):TE:=λY H Q=>∃v,Y[i]?=some (some v)/\Q v H
def tC(v:V):TE:=λ_ H Q=>Q v H
theorem Dj{i:Nat}(hN:X.N[i]?=some x)(hv:d6 X.env.scope x)(hd:(x==("__debug__":Str))=false:=by decide)(dh:(x==("__classdict__":Str))=false:=by decide):PE X (.Name x pos) (DA i):=by
 intro bE s Y H Q I h;obtain⟨v,e,h⟩:=h;obtain⟨m,hn,hl⟩:=I.loc;obtain⟨u,r,l⟩:=hl i x v hN e hv;have ck:EP X bE Y Q u s:=⟨v,H,I,r,h⟩;rcases l with⟨hk,hm⟩|⟨hk,c,hc,gV⟩
 .exact wpAny_Name (wpAny_loadName_local I.ok.kind hk hn hm ck) hd
 .rcases hk with hk|hk
  .exact wpAny_Name (wpAny_loadName_cell I.ok.kind hk hc gV ck) hd
  .exact wpAny_Name (wpAny_loadName_free I.ok.kind hk hc gV ck dh) hd
theorem ON{i j pos}:PE X (.Constant (.int i) j pos) (tC (.int i)):=λ_ _ _ H _ I h=>wpAny_Constant_int ⟨.int i,H,I.tok _,⟨_,rfl⟩,h⟩
theorem Rr{b j pos}:PE X (.Constant (.bool b) j pos) (tC (.bl b)):=λ_ _ _ H _ I h=>Constant_bool ⟨.bl b,H,I,rfl,h⟩
def Gl(X:Cx)(x:Str):Prop:=X.env.kindOf x=some .globalImplicit
theorem O4(I:Inv X bE Y H s)(hg:Gl X x)(hm:X.mg x=some u)(h:Q u s)(hd:(x==("__debug__":Str))=false:=by decide):wpAny (model X.prog X.w) X.A (eval (.Name x pos) X.env) Q E s :=
 NS I.ok.kind hg (Calls.loadGlobal_global (by rw[I.ok.glob];exact I.mod.glob.keeps I.bk) hm h) hd
theorem GW(I:Inv X bE Y H s)(hg:Gl X x)(hm:X.mg x=none)(hv:Bi x=some u)(h:Q u s)(hn:x ≠ "__name__":=by decide)(hd:(x==("__debug__":Str))=false:=by decide):wpAny (model X.prog X.w) X.A (eval (.Name x pos) X.env) Q E s:=by
 obtain⟨mb,h1,h2⟩:=I.mod.blt;exact NS I.ok.kind hg (Calls.loadGlobal_builtin (by rw[I.ok.glob];exact I.mod.glob.keeps I.bk) hm (by rw[I.ok.blt];exact h1.keeps I.bk) ((h2 x hn).trans hv) h) hd
theorem S5{v:V}(hg:Gl X x)(hm:X.mg x=some u)(r:RelV v u)(hd:(x==("__debug__":Str))=false:=by decide):PE X (.Name x pos) (tC v) :=
 λ_ _ _ H _ I h=>O4 I hg hm ⟨v,H,I,r,h⟩ hd
theorem UW{v:V}(hg:Gl X x)(hm:X.mg x=none)(hv:Bi x=some u)(r:RelV v u)(hn:x ≠ "__name__":=by decide)(hd:(x==("__debug__":Str))=false:=by decide):PE X (.Name x pos) (tC v) :=
 λ_ _ _ H _ I h=>GW I hg hm hv ⟨v,H,I,r,h⟩ hn hd
variable{a b:Expr}{ta tb:TE}{pos:Pos}
def PC(X:Cx)(op:CmpOp)(a b:Expr)(t:TE):Prop :=
 ∀(bE:List (Addr×Obj)) (s:Shared) (Y:St) (H:J) (Q:VK),Inv X bE Y H s->t Y H Q ->
  wpAny (model X.prog X.w) X.A (eval a X.env) (λv s₁=>wpAny (model X.prog X.w) X.A (eval b X.env) (λu s₂=>wpAny (model X.prog X.w) X.A (BG op v u) (EP X bE Y Q) X.xe s₂) X.xe s₁) X.xe s
theorem L8(b:Expr){op:CmpOp}(h:op≠.In)(h2:op≠.NotIn):CW op b=false:=by
 have e1:(op==CmpOp.In)=false:=by cases op<;>first|rfl|exact absurd rfl h
 have e2:(op==CmpOp.NotIn)=false:=by cases op<;>first|rfl|exact absurd rfl h2
 cases b<;>simp[CW,e1,e2]
def tB(t:TE):TT:=λY H Q=>t Y H λx H1=>∃c,x=.bl c/\Q c H1
theorem Sz{op:CmpOp}{t:TE}(h:PC X op a b t)(h1:CW op b=false:=by first|exact L8 _ (by decide) (by decide)|rfl):PT X (.Compare a [op] [b] pos) (tB t):=by intro bE s Y H Q I hw;refine wpAny_isTrue_Compare1 (bM (h bE s Y H _ I hw) λv s1 h1=>bM h1 λu s2 h2=>bM h2 λc s3 ⟨x,H1,I1,r1,q1⟩=>?_) h1;obtain⟨d,rfl,q⟩:=q1;cases r1;exact Du ⟨H1,I1,q⟩
theorem R6{e:Expr}{t:TE}(h:PE X e t)(he:∀b7,isTrue e X.env b7=(do let v <-b7;standAt e.pos;holding [v] (truthy v)):=by intro _;rfl):PT X e (tB t):=by intro bE s Y H Q I hw;refine isTrue_plain (bM (h bE s Y H _ I hw) λv s1 ⟨x,H1,I1,r1,q1⟩=>?_) (he _);obtain⟨d,rfl,q⟩:=q1;cases r1;exact Du ⟨H1,I1,q⟩
variable{tA tB':TT}{rest:List Expr}
def D0(t u:TT):TT:=λY H Q=>t Y H λc H1=>if c=true then u Y H1 Q else Q false H1
def gB(t u:TT):TT:=λY H Q=>t Y H λc H1=>if c=true then Q true H1 else u Y H1 Q
def C5(t:TT):TT:=λY H Q=>t Y H λc H1=>Q (!c) H1
theorem U2(ha:PT X a tA):PW X (.BoolOp .And [a] pos) tA:=by
 intro wh bE s Y H Q I h;refine isTrue_and (bM (ha bE s Y H Q I h) λc s1 e=>?_);cases c with
 |true=>exact isTrue_and_nil e
 |false=>exact e
theorem Tx(ha:PT X a tA):PW X (.BoolOp .Or [a] pos) tA:=by
 intro wh bE s Y H Q I h;refine isTrue_or (bM (ha bE s Y H Q I h) λc s1 e=>?_);cases c with
 |false=>exact isTrue_or_nil e
 |true=>exact e
theorem Ov(ha:PT X a tA)(hb:PW X (.BoolOp .And (b::rest) pos) tB'):PW X (.BoolOp .And (a::b::rest) pos) (D0 tA tB'):=by
 intro wh bE s Y H Q I h;refine isTrue_and (bM (ha bE s Y H _ I h) λc s1 ⟨H1,I1,q1⟩=>?_);cases c with
 |true=>exact hb wh bE s1 Y H1 Q I1 q1
 |false=>exact⟨H1,I1,q1⟩
theorem Of(ha:PT X a tA)(hb:PW X (.BoolOp .Or (b::rest) pos) tB'):PW X (.BoolOp .Or (a::b::rest) pos) (gB tA tB'):=by
 intro wh bE s Y H Q I h;refine isTrue_or (bM (ha bE s Y H _ I h) λc s1 ⟨H1,I1,q1⟩=>?_);cases c with
 |true=>exact⟨H1,I1,q1⟩
 |false=>exact hb wh bE s1 Y H1 Q I1 q1
theorem Sx(ha:PT X a tA):PT X (.UnaryOp .Not a pos) (C5 tA):=by intro bE s Y H Q I h;exact isTrue_not (bM (ha bE s Y H (λc H1=>Q (!c) H1) I h) λ_ _ ⟨H',I',q'⟩=>⟨H',I',q'⟩)
def RD(ta tb:TE):TE:=λY H Q=>ta Y H λx H1=>∃c,x=.bl c/\if c=true then tb Y H1 Q else Q (.bl false) H1
theorem SK{op}{t:TE}(h:PE X a t):PE X (.BoolOp op [a] pos) t:=λbE s Y H Q I hw=>BoolOp_one (h bE s Y H Q I hw)
theorem OL(ha:PE X a ta)(hb:PE X (.BoolOp .And (b::rest) pos) tb):PE X (.BoolOp .And (a::b::rest) pos) (RD ta tb):=by
 intro bE s Y H Q I h;refine BoolOp_and (bM (ha bE s Y H _ I h) λv s1 ⟨x,H1,I1,r1,q1⟩=>?_);obtain⟨c,rfl,q1⟩:=q1;cases r1;refine Du ?_;cases c with
 |true=>exact hb bE s1 Y H1 Q I1 q1
 |false=>exact⟨.bl false,H1,I1,rfl,q1⟩
end
end
section
variable{X:Cx}{c tg:Expr}{H:J}{bE:List (Addr×Obj)}{es:List Expr}{i:Nat}{P:Program}{K:Ad}{s:Shared}{Y:St}{x:Str}{u:Value}{E:Value->Shared->Prop}
def cm(K:Ad)(H:J)(a:Addr)(xs:List V):Prop :=
 Rd H a (.lst xs) \/
  ∃(o:Obj) (its:Array Value) (n:Nat),K.lookup a=some o/\o.cls=.type "list"/\o.dict=none/\o.data=.seq its n/\its.size<=sizeLine/\bG xs its.toList
def cE(K:Ad)(H:J)(a:Addr)(xs:List V):Prop :=
 Rd H a (.tup xs) \/
  ∃(o:Obj) (its:Array Value) (n:Nat),K.lookup a=some o/\o.cls=.type "tuple"/\o.data=.seq its n/\its.size<=sizeLine/\bG xs its.toList
def RW:Value->Option V
 | .none=>some .non
 | .bool b=>some (.bl b)
 | .int i _=>some (.int i)
 | .str x _=>some (.str x)
 | .bytes b _=>some (.byt b)
 | .float b _=>some (.flt b)
 | .ref a=>some (.ref a)
 | .type n=>some (.ty n)
 |_=>none
theorem RelV.abs{x:V}(r:RelV x u):RW u=some x:=by
 cases x with
 |non=>cases r;rfl
 |bl _=>cases r;rfl
 |int _=>obtain⟨t,rfl⟩:=r;rfl
 |str _=>obtain⟨t,rfl⟩:=r;rfl
 |byt _=>obtain⟨t,rfl⟩:=r;rfl
 |flt _=>obtain⟨t,rfl⟩:=r;rfl
 |ref _=>cases r;rfl
 |ty _=>cases r;rfl
theorem RelV.inj{x y:V}{u:Value}(r:RelV x u)(q:RelV y u):x=y:=BH (r.abs.symm.trans q.abs)
theorem bG.inj:∀{xs ys:List V} {us:List Value},bG xs us->bG ys us->xs=ys
 |_,_,_,.nil,.nil=>rfl
 |_,_,_,.cons r t,.cons r' t'=>by rw[r.inj r',bG.inj t t']
section
variable{X:Cx}{bE:List (Addr×Obj)}{Y:St}{H:J}{s:Shared}{a:Addr}{xs ys:List V}
theorem cm.of(h:H a=some (.lst xs)):cm K H a xs:=.inl (.inl h)
theorem cE.of(h:H a=some (.tup xs)):cE K H a xs:=.inl (.inl h)
theorem Inv.list(I:Inv X bE Y H s)(h:cm X.K H a xs):∃its:List Value,bG xs its/\PlainL s.heap a its.toArray/\xs.length<=sizeLine:=by
 rcases h with h|⟨o,its,n,hk,hc,hd,hs,hz,r⟩
 .obtain⟨z,its,n,r,e⟩:=h.ok I.hok
  exact⟨its,r,⟨_,n,e,rfl,rfl,rfl⟩,z⟩
 .refine⟨its.toList,r,⟨o,n,I.kIn a o hk,hc,hd,by simpa using hs⟩,?_⟩
  have e:=r.length;simp only[Ba]at e;omega
theorem Inv.tuple(I:Inv X bE Y H s)(h:cE X.K H a xs):∃its:List Value,bG xs its/\IsTup s.heap a its.toArray/\xs.length<=sizeLine:=by
 rcases h with h|⟨o,its,n,hk,hc,hs,hz,r⟩
 .obtain⟨z,its,r,p⟩:=h.ok I.hok
  exact⟨its,r,p,z⟩
 .refine⟨its.toList,r,⟨o,I.kIn a o hk,hc,n,by simpa using hs⟩,?_⟩
  have e:=r.length;simp only[Ba]at e;omega
theorem Inv.list_inj(I:Inv X bE Y H s)(h:cm X.K H a xs)(h':cm X.K H a ys):xs=ys:=by
 obtain⟨its,r,⟨o,n,e,_,_,d⟩,_⟩:=I.list h;obtain⟨its',r',⟨o',n',e',_,_,d'⟩,_⟩:=I.list h';rw[e]at e';cases e';rw[d]at d';injection d' with d1 _
 have:its=its':=by simpa using congrArg Array.toList d1
 subst this;exact r.inj r'
theorem Inv.tuple_inj(I:Inv X bE Y H s)(h:cE X.K H a xs)(h':cE X.K H a ys):xs=ys:=by
 obtain⟨its,r,⟨o,e,_,n,d⟩,_⟩:=I.tuple h;obtain⟨its',r',⟨o',e',_,n',d'⟩,_⟩:=I.tuple h';rw[e]at e';cases e';rw[d]at d';injection d' with d1 _
 have:its=its':=by simpa using congrArg Array.toList d1
 subst this;exact r.inj r'
end
abbrev Cx.wish(X:Cx)(E:Value->Shared->Prop):Cx:={X with xe:=E}
abbrev Cx.nox(X:Cx):Cx:=X.wish λ_ _=>False
theorem Cx.Ok.wish{X:Cx}(ok:X.Ok)(E:Value->Shared->Prop):(X.wish E).Ok :=
 ⟨ok.mod,ok.kind,ok.glob,ok.blt,ok.above,ok.inj,ok.has,ok.cab,ok.hd,ok.frames,ok.stk,ok.exf,ok.bs,ok.bsz,ok.noex,ok.exfs,ok.funs,ok.frf⟩
theorem Cx.Ok.unwish(ok:(X.wish E).Ok):X.Ok :=
 ⟨ok.mod,ok.kind,ok.glob,ok.blt,ok.above,ok.inj,ok.has,ok.cab,ok.hd,ok.frames,ok.stk,ok.exf,ok.bs,ok.bsz,ok.noex,ok.exfs,ok.funs,ok.frf⟩
section
variable{X:Cx}{bE:List (Addr×Obj)}{Y:St}{H:J}{s:Shared}{E:Value->Shared->Prop}
theorem Inv.wish(I:Inv X bE Y H s)(E:Value->Shared->Prop):Inv (X.wish E) bE Y H s:=⟨I.ok.wish E,I.os,I.bare,I.base,I.loc,I.cell,I.free,I.freeC,I.pin,I.hok,I.len⟩
theorem Inv.unwish(I:Inv (X.wish E) bE Y H s):Inv X bE Y H s:=⟨I.ok.unwish,I.os,I.bare,I.base,I.loc,I.cell,I.free,I.freeC,I.pin,I.hok,I.len⟩
theorem SP.unwish{D:er}{f:Flow}{s':Shared}(h:SP (X.wish E) bE D f s'):SP X bE D f s':=by
 cases f with
 |next=>obtain⟨σ',H',I,q⟩:=h;exact⟨σ',H',I.unwish,q⟩
 |brk=>obtain⟨σ',H',I,q⟩:=h;exact⟨σ',H',I.unwish,q⟩
 |cont=>obtain⟨σ',H',I,q⟩:=h;exact⟨σ',H',I.unwish,q⟩
 |ret u=>obtain⟨v,σ',H',I,r,q⟩:=h;exact⟨v,σ',H',I.unwish,r,q⟩
theorem cZ.nox{st:List Stmt}{t:TS}(h:cZ X.nox st t):cZ X st t:=λbE s Y H D I hw=>B7 (h bE s Y H D (I.wish _) hw) (λ_ _ q=>q.unwish) λ_ _ z=>CD z
end
section
variable{X:Cx}{st:Stmt}{rest:List Stmt}{t u:TS}{e:Expr}{te:TE}{pos:Pos}
def Rx:TS:=λD Y H=>D.nx Y H
def RX(t u:TS):TS:=λD Y H=>t {D with nx:=u D} Y H
theorem Th:cZ X [] Rx:=λ_ _ Y H _ I h=>HS ⟨Y,H,I,h⟩
theorem O8(h1:PS X st t)(h2:cZ X rest u):cZ X (st::rest) (RX t u):=by
 intro bE s Y H D I h;refine wpAny_execs_cons (bM (h1 bE s Y H {D with nx:=u D} I h) λf s1 q=>?_);cases f with
 |next=>obtain⟨σ',H',I',q⟩:=q;exact h2 bE s1 σ' H' D I' q
 |ret v=>exact q
 |brk=>exact q
 |cont=>exact q
theorem Pc(h1:PS X st t):cZ X [st] t:=by
 intro bE s Y H D I h;refine wpAny_execs_cons (bM (h1 bE s Y H D I h) λf s1 q=>?_);cases f with
 |next=>exact HS q
 |ret v=>exact q
 |brk=>exact q
 |cont=>exact q
theorem Inv.quiet(I:Inv X bE Y H s):interactive X.env=false:=by simp[interactive,I.ok.kind]
def Lh(te:TE):TS:=λD Y H=>te Y H λ_ H1=>D.nx Y H1
theorem LN(he:PE X e te)(hs:CF e none pos.line X.env=pure false:=by rfl):PS X (.Expr e pos) (Lh te):=by intro bE s Y H D I h;exact wpAny_Expr_any (bM (he bE s Y H _ I h) λv s1 ⟨x,H1,I1,r1,q1⟩=>⟨Y,H1,I1,q1⟩) I.quiet hs
def Ro(te:TE):TS:=λD Y H=>te Y H D.rt
theorem Sy(he:PE X e te):PS X (.Return (some e) pos) (Ro te):=by intro bE s Y H D I h;exact wpAny_Return_some (bM (he bE s Y H _ I h) λv s1 ⟨x,H1,I1,r1,q1⟩=>⟨x,Y,H1,I1,r1,q1⟩)
def RT(c:TT)(t u:TS):TS:=λD Y H=>c Y H λb H1=>if b=true then t D Y H1 else u D Y H1
theorem Og{a b:List Stmt}{tc:TT}(hc:PT X c tc)(ha:cZ X a t)(hb:cZ X b u):PS X (.If c a b pos) (RT tc t u):=by
 intro bE s Y H D I h;refine wpAny_If (bM (hc bE s Y H _ I h) λd s1 ⟨H1,I1,q1⟩=>?_);cases d with
 |true=>exact ha bE s1 Y H1 D I1 q1
 |false=>exact hb bE s1 Y H1 D I1 q1
def Ub:TS:=λ_ _ _=>False
theorem Mj{ip:List Stmt}:cZ X ip Ub:=λ_ _ _ _ _ _ h=>h.elim
end
abbrev TG:=V->St->J->(St->J->Prop)->Prop
abbrev hW:=List V->St->J->(St->J->Prop)->Prop
def PG(X:Cx)(cO:Expr)(t:TG):Prop :=
 ∀(bE:List (Addr×Obj)) (s:Shared) (Y:St) (H:J) (v:V) (u:Value) (Q:St->J->Prop),Inv X bE Y H s->RelV v u->t v Y H Q ->
  wpAny (model X.prog X.w) X.A (assign cO X.env u) (λ_ s'=>∃σ' H',Inv X bE σ' H' s'/\Q σ' H') X.xe s
def jZ(X:Cx)(ts:List Expr)(t:hW):Prop :=
 ∀(bE:List (Addr×Obj)) (s:Shared) (Y:St) (H:J) (vs:List V) (us:List Value) (Q:St->J->Prop),Inv X bE Y H s->bG vs us->t vs Y H Q ->
  wpAny (model X.prog X.w) X.A (assignInOrder ((BV ts X.env).map (·.2)) us) (λ_ s'=>∃σ' H',Inv X bE σ' H' s'/\Q σ' H') X.xe s
abbrev KZ:=V->V->V->J->(J->Prop)->Prop
def N2(X:Cx)(t:KZ):Prop :=
 ∀(bE:List (Addr×Obj)) (s:Shared) (Y:St) (H:J) (o i v:V) (ov iv u:Value) (Q:J->Prop),Inv X bE Y H s->RelV o ov->RelV i iv->RelV v u->t o i v H Q ->
  wpAny (model X.prog X.w) X.A (setItem ov iv u) (λ_ s'=>∃H',Inv X bE Y H' s'/\Q H') X.xe s
section
variable{X:Cx}{pos:Pos}
def IT(i:Nat):TG:=λv Y H Q=>Q (Y.set i (some v)) H
theorem Dh(hN:X.N.Nodup)(hi:X.N[i]?=some x)(hx:Loc X.env.scope x)(hf:X.fn x=true\/X.env.scope.names.lookup x=some .local:=by first|exact .inl rfl|exact .inr rfl|assumption):PG X (.Name x pos) (IT i):=by intro bE s Y H v u Q I r h;exact wpAny_assign_Name (PH I hN hi hx r (λs' I'=>⟨_,H,I',h⟩) hf)
def N8:hW:=λvs Y H Q=>vs=[]/\Q Y H
def K9(t:TG)(u:hW):hW:=λvs Y H Q=>∃v r,vs=v::r/\t v Y H λσ' H'=>u r σ' H' Q
theorem OX:jZ X [] N8:=by intro bE s Y H vs us Q I r h;obtain⟨e,h⟩:=h;subst e;cases r;exact assignInOrder_nil ⟨Y,H,I,h⟩
theorem EK{e:Expr}{t:TG}{u:hW}(h1:PG X e t)(h2:jZ X es u)(hs:(BV (e::es) X.env).map (·.2)=assign e X.env::(BV es X.env).map (·.2):=by rfl):jZ X (e::es) (K9 t u):=by
 intro bE s Y H vs us Q I r h;obtain⟨v,vr,e1,h⟩:=h;subst e1;cases r with
 |cons r rr=>rw[hs];refine assignInOrder_cons (bM (h1 bE s Y H _ _ _ I r h) λ_ s1 ⟨σ1,H1,I1,q1⟩=>?_);exact h2 bE s1 σ1 H1 _ _ Q I1 rr q1
def Oa(K:Ad)(n:Nat)(t:hW):TG:=λv Y H Q=>∃a xs,v=.ref a/\cE K H a xs/\xs.length=n/\t xs Y H Q
theorem Ow{k:Nat}{t:hW}{n:Nat}(hc:X.calm=true)(h:jZ X es t)(hn:(BV es X.env).length=n:=by rfl)(c9:(BV es X.env).findIdx? (·.1)=none:=by rfl):PG X (.Tuple es k pos) (Oa X.K n t):=by
 intro bE s Y H v u Q I r hw;obtain⟨a,xs,e1,hq,hl,hw⟩:=hw;subst e1;cases r;obtain⟨its,rv,ht,hz⟩:=I.tuple hq;refine assign_Tuple_tuple (I.ok.hd hc) ht (by simp[hn,<-hl,rv.length]) c9 λh' hx=>?_;have I1:Inv X bE Y H {s with heap:=h'}:=I.kept (t':=s.toks) λb o e=>hx b o (Ap (Ai e)) e;exact h bE _ Y H xs _ Q I1 (by simpa using rv) hw
def GQ(to ti:TE)(t:KZ):TG:=λv Y H Q=>to Y H λo H1=>ti Y H1 λi H2=>t o i v H2 λH3=>Q Y H3
theorem Se{o i:Expr}{to ti:TE}{t:KZ}(ho:PE X o to)(hi:PE X i ti)(hs:N2 X t)
  (ha:∀v,assign (.Subscript o i pos) X.env v=(do
   let ov <-holding [v] (eval o X.env)
   let iv <-holding [v,ov] (eval i X.env)
   standAt pos
   holding [v,ov,iv] (setItem ov iv v)
   release [v,ov,iv] []):=by intro _;rfl):PG X (.Subscript o i pos) (GQ to ti t):=by
 intro bE s Y H v u Q I r h;rw[ha];refine Aa (BS (bM (ho bE s Y H _ I h) λov s1 ⟨x,H1,I1,r1,q1⟩=>?_));refine Aa (BS (bM (hi bE s1 Y H1 _ I1 q1) λiv s2 ⟨y,H2,I2,r2,q2⟩=>?_));refine Aa (wpAny_standAt (Aa (BS (bM (hs bE s2 Y H2 x y v ov iv u _ I2 r1 r2 r q2) λ_ s3 ⟨H3,I3,q3⟩=>?_))));exact wpAny_release ⟨Y,H3,I3,q3⟩
def N7(te:TE)(g:TG):TS:=λD Y H=>te Y H λx H1=>g x Y H1 D.nx
theorem Oy{e:Expr}{te:TE}{g:TG}(he:PE X e te)(hg:PG X tg g)(hs:swapsWithSole [tg] e pos.line X.env=pure false:=by rfl)(hw:swappedStores [tg] e X.env=pure none:=by rfl)(h1:(BV [tg] X.env).map (·.2)=[assign tg X.env]:=by rfl):PS X (.Assign [tg] e pos) (N7 te g):=by
 intro bE s Y H D I h;refine wpAny_Assign_stores (bM (he bE s Y H _ I h) λv s1 ⟨x,H1,I1,r1,q1⟩=>?_) hs hw;rw[h1];exact bM (hg bE s1 Y H1 x v _ I1 r1 q1) λ_ s2 ⟨σ',H',I',q'⟩=>⟨σ',H',I',q'⟩
theorem Oq{e:Expr}{te:TE}{pos':Pos}(hN:X.N.Nodup)(hi:X.N[i]?=some x)(hx:Loc X.env.scope x)(he:PE X e te)(hs:CF e (some (.Name x pos')) pos.line X.env=pure false:=by rfl)(hf:X.fn x=true\/X.env.scope.names.lookup x=some .local:=by first|exact .inl rfl|exact .inr rfl|assumption):PS X (.Assign [.Name x pos'] e pos) (N7 te (IT i)):=by
 intro bE s Y H D I h;refine wpAny_Assign_Name (bM (he bE s Y H _ I h) λv s1 ⟨y,H1,I1,r1,q1⟩=>?_) hs;exact PH I1 hN hi hx r1 (λs2 I2=>⟨_,H1,I2,q1⟩) hf
end
section
variable{X:Cx}{pos:Pos}
def Si(c:TT)(tb:TS):TS:=λD Y H=>∃W:Nat->St->J->Prop,(∃m,W m Y H)/\∀m Y H,W m Y H ->
 c Y H λb H1=>if b=true then ∃N:St->J->Prop,(∀σ' H',N σ' H'->∃m',m'<m/\W m' σ' H')/\tb {D with nx:=N,ct:=N,bk:=D.nx} Y H1 else D.nx Y H1
theorem Vz{body:List Stmt}{tc:TT}{tb:TS}(hp:PassesOwn (model X.prog X.w) X.A X.env X.xe)(hc:PT X c tc)(hb:cZ X body tb):PS X (.While c body [] pos) (Si tc tb):=by
 intro bE s Y H D I h;obtain⟨W,⟨m0,w0⟩,dO⟩:=h;refine wpAny_While (codeAny_whileLoop (λn s'=>∃σ' H',Inv X bE σ' H' s'/\W n σ' H') ?_ m0 ⟨Y,H,I,w0⟩)
 rintro n s1 ⟨σ1,H1,I1,w1⟩
 refine Ew hp (bM (hc bE s1 σ1 H1 _ I1 (dO n σ1 H1 w1)) λb s2 ⟨H2,I2,q2⟩=>?_);cases b with
 |true =>
  obtain⟨N,hN,q2⟩:=q2;rw[if_pos rfl];refine Ew hp (bM (hb bE s2 σ1 H2 _ I2 q2) λf s3 q3=>?_);cases f with
  |next=>obtain⟨σ3,H3,I3,n3⟩:=q3;obtain⟨m',hm,w3⟩:=hN σ3 H3 n3;exact⟨m',hm,σ3,H3,I3,w3⟩
  |cont=>obtain⟨σ3,H3,I3,n3⟩:=q3;obtain⟨m',hm,w3⟩:=hN σ3 H3 n3;exact⟨m',hm,σ3,H3,I3,w3⟩
  |brk=>exact q3
  |ret v=>exact q3
 |false=>rw[if_neg Bp];exact HS ⟨σ1,H2,I2,q2⟩
end
structure It where
 go:Nat->J->Prop
 yld:Nat->J->V->J->Prop
 stop:Nat->J->Prop
def CI(X:Cx)(bE:List (Addr×Obj))(H:J)(b:Addr):Prop :=
 H b=none/\b≠X.env.locals/\b∉X.fs/\(b∈X.ex\/X.s₀.heap.objs.size<=b)/\(∀x c,X.env.cells.lookup x=some c->c≠b)/\∀p∈X.pn++bE,p.1≠b
theorem Inv.fpOk{H':J}{b:Addr}(I:Inv X bE Y H s)(hb:s.heap.objs.size<=b)(hn:H' b=none):CI X bE H' b:=by
 refine⟨hn,Fg (Bk I.lt hb),I.nofs hb,.inr (BE I.sz hb),λx c e z=>?_,λp hp z=>?_⟩
 .obtain⟨v,q⟩:=I.cell x c e
  exact absurd (Bk q.lt (by rw[z];exact hb)) (Fj _)
 .exact absurd (Bk (Ai (I.pin p hp).1) (by rw[z];exact hb)) (Fj _)
structure fE(P:Program)(w:World)(K:Ad)(tg:Expr)(oJ:It)(fp:List Addr)(it:Addr)(tn:Nat->Heap->Prop):Prop where
 mem:it∈fp
 obj:∀i h,tn i h->∀b∈fp,∃o,h.get? b=some o/\∀v,o.data≠.cell v
 keep:∀i h h',tn i h->(∀b∈fp,∀o,h.get? b=some o->h'.get? b=some o)->tn i h'
 item:∀(X:Cx),X.prog=P->X.w=w->X.K=K->X.calm=true->∀(i:Nat) (bE:List (Addr×Obj)) (s:Shared) (Y:St) (H:J) (E:Value->Shared->Prop),Inv X bE Y H s->(∀b∈fp,CI X bE H b)->tn i s.heap->oJ.go i H ->
  wpAny (model P w) X.A (pyNext (.ref it)) (λr s1=>∃u,r=some u /\
   wpAny (model P w) X.A (HR tg (.ref it) u) (λ_ s2=>∃x H',Inv X bE Y H' s2/\RelV x u/\oJ.yld i H x H'/\tn (i+1) s2.heap/\∀b∈fp,H' b=none) E s1) E s
 done:∀(X:Cx),X.prog=P->X.w=w->X.K=K->X.calm=true->∀(i:Nat) (bE:List (Addr×Obj)) (s:Shared) (Y:St) (H:J) (E:Value->Shared->Prop),Inv X bE Y H s->(∀b∈fp,CI X bE H b)->tn i s.heap->oJ.stop i H ->
  wpAny (model P w) X.A (pyNext (.ref it)) (λr s1=>r=none/\Inv X bE Y H s1) E s
 self:∀(A:Around) (i:Nat) (s:Shared) (Q:Value->Shared->Prop) (E:Value->Shared->Prop),tn i s.heap->Q (.ref it) s->wpAny (model P w) A (pyIter (.ref it)) Q E s
abbrev TI:=St->J->(It->J->Prop)->Prop
def my(X:Cx)(bE:List (Addr×Obj))(Y:St)(tg:Expr)(R:It->J->Prop)(jF:Value)(s2:Shared):Prop :=
 ∃(it:Addr) (fp:List Addr) (tn:Nat->Heap->Prop) (oJ:It) (H':J),jF=.ref it/\Inv X bE Y H' s2/\fE X.prog X.w X.K tg oJ fp it tn/\tn 0 s2.heap/\(∀b∈fp,CI X bE H' b)/\R oJ H'
def PI(X:Cx)(tg iter:Expr)(wi:TI):Prop :=
 ∀(bE:List (Addr×Obj)) (s:Shared) (Y:St) (H:J) (R:It->J->Prop),Inv X bE Y H s->wi Y H R ->
  wpAny (model X.prog X.w) X.A (eval iter X.env) (λv s1=>wpAny (model X.prog X.w) X.A (pyIter v) (my X bE Y tg R) X.xe s1) X.xe s
theorem La{M:Model}{A:Around}{it:Addr}{o:Obj}{n:String}{vs:Array Value}{Q:Unit->Shared->Prop}(ho:s.heap.get? it=some o)(hc:o.cls=.type n)(hd:o.data=.fields vs)(hn:["enumerate","zip","dict_itemiterator","dict_reverseitemiterator","odict_iterator","itertools.zip_longest","itertools.pairwise"].contains n=false)(hQ:Q () s):wpAny M A (HR tg (.ref it) u) Q E s:=by
  unfold HR
  cases tg<;>first
    | exact Ac hQ
    | (cases u<;>first
        | exact Ac hQ
        | (refine Aa (wpAny_load ho ?_)
           rw [hc, hd]
           show wpAny M A (if (["enumerate", "zip", "dict_itemiterator", "dict_reverseitemiterator", "odict_iterator", "itertools.zip_longest", "itertools.pairwise"].contains n && vs[0]? == some (rawInt _)) = true then _ else _) Q E s
           rw [if_neg (by intro h; rw [hn, Bool.false_and] at h; cases h)]
           exact Ac hQ))
def kN(K:Ad)(a:Addr):It :=
 ⟨λi H=>∃xs x,cm K H a xs/\xs[i]?=some x,λi H x H'=>H'=H/\∀xs,cm K H a xs->xs[i]?=some x,λi H=>∃xs,cm K H a xs/\xs.length<=i⟩
def j0(K:Ad)(a:Addr):It :=
 ⟨λi H=>∃xs x,cE K H a xs/\xs[i]?=some x,λi H x H'=>H'=H/\∀xs,cE K H a xs->xs[i]?=some x,λi H=>∃xs,cE K H a xs/\xs.length<=i⟩
def jd(lo:Int)(n:Nat):It:=⟨λi _=>i<n,λi H x H'=>H'=H/\x=.int (lo+i),λi _=>n<=i⟩
theorem Wo{w:World}(a it:Addr):fE P w K tg (kN K a) [it] it (λi h=>h.IsListIter it a i) where
 mem:=by simp
 obj:=λi h st b hb=>by
  have e:b=it:=by simpa using hb
  subst e;obtain⟨o,e,c,d⟩:=st;exact⟨o,e,λv z=>by rw[d]at z;cases z⟩
 keep:=λi h h' st k=>st.at λo e=>k it (by simp) o e
 item:=by intro X hP hw hK hc i bE s Y H E I hf st hg;subst hP hw hK;obtain⟨xs,x,hq,hx⟩:=hg;obtain⟨its,rv,p,hz⟩:=I.list hq;obtain⟨u,hu,ru⟩:=rv.get hx;obtain⟨f0,f1,f2,f3,f4,f5⟩:=hf it (by simp);refine wpAny_pyNext_list_item st p.isList (x:=u) (by simpa using hu) λh' st' sb=>?_;have I1:Inv X bE Y H {s with heap:=h'}:=I.turned (t':=s.toks) (λb o hb e=>(sb.2 b hb).trans e) f0 f1 f3 f4 f5;obtain⟨o,e,c,d⟩:=id st';exact⟨u,rfl,La (s:={s with heap:=h'}) e c d (by decide) ⟨x,H,I1,ru,⟨rfl,λys hy=>by rw[I.list_inj hy hq];exact hx⟩,st',λb hb=>(hf b hb).1⟩⟩
 done:=by intro X hP hw hK hc i bE s Y H E I hf st hg;subst hP hw hK;obtain⟨xs,hq,hx⟩:=hg;obtain⟨its,rv,p,hz⟩:=I.list hq;obtain⟨f0,f1,f2,f3,f4,f5⟩:=hf it (by simp);have hl:=rv.length;exact wpAny_pyNext_list_end (I.ok.hd hc) st p.isList (by simp;omega) λh' eb=>⟨rfl,I.turned (t':=s.toks) (λb o hb e=>eb b o hb e) f0 f1 f3 f4 f5⟩
 self:=λ_ _ _ _ _ st h=>wpAny_pyIter_listiter st h
theorem WU{w:World}(a it:Addr):fE P w K tg (j0 K a) [it] it (λi h=>h.IsTupleIter it a i) where
 mem:=by simp
 obj:=λi h st b hb=>by
  have e:b=it:=by simpa using hb
  subst e;obtain⟨o,e,c,d⟩:=st;exact⟨o,e,λv z=>by rw[d]at z;cases z⟩
 keep:=λi h h' st k=>st.at λo e=>k it (by simp) o e
 item:=by intro X hP hw hK hc i bE s Y H E I hf st hg;subst hP hw hK;obtain⟨xs,x,hq,hx⟩:=hg;obtain⟨its,rv,p,hz⟩:=I.tuple hq;obtain⟨u,hu,ru⟩:=rv.get hx;obtain⟨f0,f1,f2,f3,f4,f5⟩:=hf it (by simp);refine wpAny_pyNext_tuple_item st (show s.heap.IsTuple a its.toArray from p) (x:=u) (by simpa using hu) λh' st' sb=>?_;have I1:Inv X bE Y H {s with heap:=h'}:=I.turned (t':=s.toks) (λb o hb e=>(sb.2 b hb).trans e) f0 f1 f3 f4 f5;obtain⟨o,e,c,d⟩:=id st';exact⟨u,rfl,La (s:={s with heap:=h'}) e c d (by decide) ⟨x,H,I1,ru,⟨rfl,λys hy=>by rw[I.tuple_inj hy hq];exact hx⟩,st',λb hb=>(hf b hb).1⟩⟩
 done:=by intro X hP hw hK hc i bE s Y H E I hf st hg;subst hP hw hK;obtain⟨xs,hq,hx⟩:=hg;obtain⟨its,rv,p,hz⟩:=I.tuple hq;obtain⟨f0,f1,f2,f3,f4,f5⟩:=hf it (by simp);have hl:=rv.length;exact wpAny_pyNext_tuple_end (I.ok.hd hc) st (show s.heap.IsTuple a its.toArray from p) (by simp;omega) λh' eb=>⟨rfl,I.turned (t':=s.toks) (λb o hb e=>eb b o hb e) f0 f1 f3 f4 f5⟩
 self:=λ_ _ _ _ _ st h=>wpAny_pyIter_tupleiter st h
theorem W4{w:World}(it:Addr)(lo:Int)(n:Nat):fE P w K tg (jd lo n) [it] it (λi h=>IsRangeIter h it (lo+(i:Nat)*1) ((n:Int)-(i:Nat)) 1) where
 mem:=by simp
 obj:=λi h st b hb=>by
  have e:b=it:=by simpa using hb
  subst e;exact⟨_,st,λv z=>by have z':Data.fields _=Data.cell v:=z;cases z'⟩
 keep:=λi h h' st k=>k it (by simp) _ st
 item:=by intro X hP hw hK hc i bE s Y H E I hf st hg;subst hP hw hK;obtain⟨f0,f1,f2,f3,f4,f5⟩:=hf it (by simp);have W:=Walks.range (prog:=X.prog) (w:=X.w) (I.ok.hd hc) it lo 1 n;refine W.item i s _ _ hg st λv h' tk hv st' kk=>?_;obtain⟨t,rfl⟩:=hv;have I1:Inv X bE Y H {s with heap:=h',toks:=tk}:=I.turned (λb o hb e=>kk b o (by simpa using hb) e) f0 f1 f3 f4 f5;refine⟨_,rfl,La (s:={s with heap:=h',toks:=tk}) (n:="range_iterator") st' rfl rfl (by decide) ⟨.int (lo+i),H,I1,⟨t,?_⟩,⟨rfl,rfl⟩,st',λb hb=>(hf b hb).1⟩⟩;rw[Int.mul_one]
 done:=by intro X hP hw hK hc i bE s Y H E I hf st hg;subst hP hw hK;obtain⟨f0,f1,f2,f3,f4,f5⟩:=hf it (by simp);exact wpAny_pyNext_range_end (I.ok.hd hc) st (by have:n<=i:=hg;omega) λh' eb=>⟨rfl,I.turned (t':=s.toks) (λb o hb e=>eb b o hb e) f0 f1 f3 f4 f5⟩
 self:=λ_ _ _ _ _ st h=>wpAny_pyIter_rangeiter st h
end
section
variable{a:Expr}{h:Heap}{H:J}{bE:List (Addr×Obj)}{fp:List Addr}{p pos:Pos}{s:Shared}{Y:St}
section
variable{X:Cx}{tg:Expr}
theorem PN{R:It->J->Prop}{E:Value->Shared->Prop}{lo hi:Int}{t u v:Tok}{tk:Nat}(I:Inv X bE Y H s)(h1:-(2 ^ 62)<=lo)(h2:lo<2 ^ 62)(h3:-(2 ^ 62)<=hi)(h4:hi<2 ^ 62)(q:R (jd lo (hi-lo).toNat) H):wpAny (model X.prog X.w) X.A (pyIter (.ref s.heap.objs.size)) (my X bE Y tg R) E {s with heap:=s.heap.push {cls:=.type "range",data:=.fields #[.int lo t,.int hi u,.int 1 v]},toks:=tk}:=by
 refine wpAny_pyIter_range (IsRange.new ..) (small_one h1 h2 h3 h4) ?_;have I1:Inv X bE Y H {s with heap:=s.heap.push {cls:=.type "range",data:=.fields #[.int lo t,.int hi u,.int 1 v]},toks:=tk}:=I.kept λb o e=>As _ e;refine⟨(s.heap.push {cls:=.type "range",data:=.fields #[.int lo t,.int hi u,.int 1 v]}).objs.size,[(s.heap.push {cls:=.type "range",data:=.fields #[.int lo t,.int hi u,.int 1 v]}).objs.size],_,_,H,rfl,
  I1.kept (t':=tk) λb o e=>As _ e,W4 _ lo (hi-lo).toNat,?_,λb hb=>?_,q⟩
 .have e1:lo+((0:Nat):Int)*1=lo:=by simp
  have e2:(((hi-lo).toNat:Nat):Int)-((0:Nat):Int)=Iv lo hi 1:=by rw[rangeSize_one];split<;>omega
  show IsRangeIter _ _ (lo+((0:Nat):Int)*1) ((((hi-lo).toNat:Nat):Int)-((0:Nat):Int)) 1;rw[e1,e2];exact AI _ rfl
 .have e:b=(s.heap.push {cls:=.type "range",data:=.fields #[.int lo t,.int hi u,.int 1 v]}).objs.size:=by simpa using hb
  subst e;exact I1.fpOk (Ag _) (I1.hok.fresh (Ag _))
def ZH(ta:TA):TI:=λY H R=>ta Y H λvs H1=>∃j:Int,vs=[.int j]/\-(2 ^ 62)<=j/\j<2 ^ 62/\R (jd 0 j.toNat) H1
def FH(ta:TA):TI:=λY H R=>ta Y H λvs H1=>∃i j:Int,vs=[.int i,.int j]/\(-(2 ^ 62)<=i/\i<2 ^ 62/\-(2 ^ 62)<=j/\j<2 ^ 62)/\R (jd i (j-i).toNat) H1
theorem Wx{ta:TA}(hg:Gl X "range")(hm:X.mg "range"=none)(ha:PA X [a] ta)(hs:Af [a] X.env=[(false,eval a X.env)]:=by rfl):PI X tg (.Call (.Name "range" p) [a] [] pos) (ZH ta):=by
 intro bE s Y H R I h;refine Call_ (GW I hg hm boot_range (KJ (bM (ha pos bE s Y H _ I h) λus s1 ⟨vs,H1,I1,r1,q1⟩=>?_) hs rfl));obtain⟨j,e,q1,q2,q⟩:=q1;subst e;cases r1 with
 |cons r rr=>cases rr;obtain⟨t,rfl⟩:=r;exact call_range_1 (PN I1 (by omega) (by omega) q1 q2 (by simpa using q))
theorem Wi{b:Expr}{ta:TA}(hg:Gl X "range")(hm:X.mg "range"=none)(ha:PA X [a,b] ta)(hs:Af [a,b] X.env=[(false,eval a X.env),(false,eval b X.env)]:=by rfl)(cY:Af [b] X.env=[(false,eval b X.env)]:=by rfl):PI X tg (.Call (.Name "range" p) [a,b] [] pos) (FH ta):=by
 intro bE s Y H R I h;refine Call_ (GW I hg hm boot_range (KJ (bM (ha pos bE s Y H _ I h) λus s1 ⟨vs,H1,I1,r1,q1⟩=>?_) (by rw[hs,cY]) (by rw[cY];rfl)));obtain⟨i,j,e,⟨q1,q2,q3,q4⟩,q⟩:=q1;subst e;cases r1 with
 |cons r rr =>
  cases rr with
  |cons r' rr=>cases rr;obtain⟨t,rfl⟩:=r;obtain⟨t',rfl⟩:=r';exact call_range_2 (PN I1 q1 q2 q3 q4 q)
def R3(wi:TI)(g:TG)(tb:TS):TS:=λD Y H=>wi Y H λoJ H1=>∃W:Nat->Nat->St->J->Prop,(∃m,W 0 m Y H1)/\∀i m Y H,W i m Y H ->
 (oJ.stop i H/\D.nx Y H)\/(oJ.go i H/\∃N:St->J->Prop,(∀σ' H',N σ' H'->∃m',m'<m/\W (i+1) m' σ' H')/\∀x H',oJ.yld i H x H'->g x Y H' λσ2 H2=>tb {D with nx:=N,ct:=N,bk:=D.nx} σ2 H2)
def G1(fp:List Addr)(h:Heap):List (Addr×Obj):=fp.filterMap λb=>(h.get? b).map λo=>(b,o)
theorem JB{b:Addr}{o:Obj}(hb:b∈fp)(e:h.get? b=some o):(b,o)∈G1 fp h:=Kw.mpr ⟨b,hb,by rw[e];rfl⟩
theorem Wc{p:Addr×Obj}(hp:p∈G1 fp h):p.1∈fp/\h.get? p.1=some p.2:=by
 obtain⟨b,hb,e⟩:=Kw.mp hp;cases q:h.get? b with
 |none=>rw[q]at e;cases e
 |some o=>rw[q]at e;have e':(b,o)=p:=BH e;subst e';exact⟨hb,q⟩
theorem Inv.pinned(I:Inv X bE Y H s)(hf:∀b∈fp,CI X bE H b)(ho:∀b∈fp,∃o,s.heap.get? b=some o/\∀v,o.data≠.cell v):Inv X (bE++G1 fp s.heap) Y H s :=
 I.pins_of λp hp=>(AW.mp hp).elim (λz=>I.pin p (AX _ z)) λz=>by obtain⟨hb,e⟩:=Wc z;obtain⟨f0,f1,f2,_⟩:=hf p.1 hb;obtain⟨o,e',d⟩:=ho p.1 hb;rw[e]at e';cases e';exact⟨e,f0,f1,f2,d⟩
theorem Inv.unpinned{pl:List (Addr×Obj)}(I:Inv X (bE++pl) Y H s):Inv X bE Y H s:=I.pins_of λp hp=>I.pin p (AX _ (Dv _ hp))
theorem Lk{iter:Expr}{body:List Stmt}{wi:TI}{g:TG}{tb:TS}(hp:PassesOwn (model X.prog X.w) X.A X.env X.xe)(hc:X.calm=true)(hi:PI X tg iter wi)(hg:PG X tg g)(hb:cZ X body tb)(hs:∀x,Dt iter X.env x=pure x:=by intro _;rfl):PS X (.For tg iter body [] pos) (R3 wi g tb):=by
 intro bE s Y H D I h;refine wpAny_For (bM (hi bE s Y H _ I h) λv s1 h1=>bM h1 λjF s2 h2=>?_) hs;obtain⟨it,fp,tn,oJ,H2,e,I2,T,gY,f2,W,⟨m0,w0⟩,dO⟩:=h2;subst e;have ei:∀{H':J},(∀b∈fp,H' b=none)->∀b∈fp,CI X bE H' b:=λhn b hb=>⟨hn b hb,(f2 b hb).2⟩;refine codeAny_forLoop_any (λn s'=>∃i σ' H',Inv X bE σ' H' s'/\tn i s'.heap/\(∀b∈fp,H' b=none)/\W i n σ' H') ?_ m0 ⟨0,Y,H2,I2,gY,λb hb=>(f2 b hb).1,w0⟩
 rintro n s3 ⟨i,σ3,H3,I3,st3,fr3,w3⟩
 rcases dO i n σ3 H3 w3 with⟨stop,qn⟩|⟨go,N,hN,step⟩
 .refine Ew hp (bM (T.done X rfl rfl rfl hc i bE s3 σ3 H3 X.xe I3 (ei fr3) st3 stop) λr s4 ⟨hr,I4⟩=>?_)
  subst hr;exact HS ⟨σ3,H3,I4,qn⟩
 .refine Ew hp (bM (T.item X rfl rfl rfl hc i bE s3 σ3 H3 X.xe I3 (ei fr3) st3 go) λr s4 ⟨u,hr,h4⟩=>?_)
  subst hr;refine Ew hp (bM h4 λ_ s5 ⟨x,H5,I5,r5,y5,st5,fr5⟩=>?_);have I5':=I5.pinned (ei fr5) (T.obj _ _ st5);refine Ew hp (bM (hg _ s5 σ3 H5 x u _ I5' r5 (step x H5 y5)) λ_ s6 ⟨σ6,H6,I6,q6⟩=>?_);refine Ew hp (bM (hb _ s6 σ6 H6 _ I6 q6) λf s7 q7=>?_);have again:∀{σ7:St} {H7:J},Inv X (bE++G1 fp s5.heap) σ7 H7 s7->N σ7 H7->∃m,m<n/\∃i σ' H',Inv X bE σ' H' s7/\tn i s7.heap/\(∀b∈fp,H' b=none)/\W i m σ' H':=λ{σ7 H7} I7 n7=>by obtain⟨m',hm,w7⟩:=hN σ7 H7 n7;refine⟨m',hm,i+1,σ7,H7,I7.unpinned,T.keep _ _ _ st5 λb hb o e=>(I7.pin (b,o) (AX _ (AX _ (JB hb e)))).1,λb hb=>?_,w7⟩;obtain⟨o,e,d⟩:=T.obj _ _ st5 b hb;exact(I7.pin (b,o) (AX _ (AX _ (JB hb e)))).2.1
  cases f with
  |next=>obtain⟨σ7,H7,I7,n7⟩:=q7;exact again I7 n7
  |cont=>obtain⟨σ7,H7,I7,n7⟩:=q7;exact again I7 n7
  |brk=>obtain⟨σ7,H7,I7,q7⟩:=q7;exact⟨σ7,H7,I7.unpinned,q7⟩
  |ret v=>obtain⟨x7,σ7,H7,I7,r7,q7⟩:=q7;exact⟨x7,σ7,H7,I7.unpinned,r7,q7⟩
end
end
section
variable{g:Int->Int->Int}{us:List Value}{x:V}
abbrev R2:=V->V->J->VK->Prop
def cN(X:Cx)(f:Value->Value->Sem Value)(r:R2):Prop :=
 ∀(bE:List (Addr×Obj)) (s:Shared) (Y:St) (H:J) (x y:V) (v u:Value) (Q:VK),Inv X bE Y H s->RelV x v->RelV y u->r x y H Q ->
  wpAny (model X.prog X.w) X.A (f v u) (EP X bE Y Q) X.xe s
def AJ(X:Cx)(f:Value)(r:List V->J->VK->Prop):Prop :=
 ∀(bE:List (Addr×Obj)) (s:Shared) (Y:St) (H:J) (xs:List V) (us:List Value) (Q:VK),Inv X bE Y H s->bG xs us->r xs H Q ->
  wpAny (model X.prog X.w) X.A (call f us) (EP X bE Y Q) X.xe s
def RR(X:Cx)(r:V->J->(Bool->J->Prop)->Prop):Prop :=
 ∀(bE:List (Addr×Obj)) (s:Shared) (Y:St) (H:J) (x:V) (v:Value) (Q:Bool->J->Prop),Inv X bE Y H s->RelV x v->r x H Q ->
  wpAny (model X.prog X.w) X.A (truthy v) (TP X bE Y Q) X.xe s
def iL(r:R2)(ta tb:TE):TE:=λY H Q=>ta Y H λx H1=>tb Y H1 λy H2=>r x y H2 Q
def rI(C:Int->Int->Prop)(g:Int->Int->V):R2:=λx y H Q=>∃i j,x=.int i/\y=.int j/\C i j/\Q (g i j) H
def gE(g:Int->Int->V):R2:=λx y H Q=>∃i j,x=.int i/\y=.int j/\Q (g i j) H
section
variable{X:Cx}{a b c:Expr}{ta tb tc:TE}{pos:Pos}
theorem K6(ha:PE X a ta)(hb:PE X b tb){bE:List (Addr×Obj)}{s:Shared}{Y:St}{H:J}{R:V->V->J->Prop}(I:Inv X bE Y H s)(h:ta Y H λx H1=>tb Y H1 λy H2=>R x y H2){Q:Value->Shared->Prop}{f:Value->Value->Sem Value}(hf:∀v u s2 x y H2,Inv X bE Y H2 s2->RelV x v->RelV y u->R x y H2->wpAny (model X.prog X.w) X.A (f v u) Q X.xe s2):wpAny (model X.prog X.w) X.A (eval a X.env) (λv s₁=>wpAny (model X.prog X.w) X.A (eval b X.env) (λu s₂=>wpAny (model X.prog X.w) X.A (f v u) Q X.xe s₂) X.xe s₁) X.xe s:=by
 refine bM (ha bE s Y H _ I h) λv s1 ⟨x,H1,I1,r1,q1⟩=>?_;refine bM (hb bE s1 Y H1 _ I1 q1) λu s2 ⟨y,H2,I2,r2,q2⟩=>?_;exact hf v u s2 x y H2 I2 r1 r2 q2
theorem GR{op:Operator}{r:R2}(ho:cN X (Cf op) r)(ha:PE X a ta)(hb:PE X b tb):PE X (.BinOp a op b pos) (iL r ta tb):=by intro bE s Y H Q I h;exact wpAny_BinOp (K6 ha hb I h λv u s2 x y H2 I2 rx ry q=>ho bE s2 Y H2 x y v u Q I2 rx ry q)
theorem lE{f:Value->Value->Sem Value}{C:Int->Int->Prop}(rule:∀(i j:Int) (t u:Tok) (s:Shared) (Q:Value->Shared->Prop) (E:Value->Shared->Prop),C i j->Q (.int (g i j) s.toks) {s with toks:=s.toks+1}->wpAny (model X.prog X.w) X.A (f (.int i t) (.int j u)) Q E s):cN X f (rI C λi j=>.int (g i j)):=by
 intro bE s Y H x y v u Q I rx ry h;obtain⟨i,j,rfl,rfl,hc,q⟩:=h;obtain⟨t,rfl⟩:=rx;obtain⟨t',rfl⟩:=ry;exact rule i j t t' s _ _ hc ⟨.int (g i j),H,I.tok _,⟨_,rfl⟩,q⟩
theorem N0{f:Value->Value->Sem Value}(rule:∀(i j:Int) (t u:Tok) (s:Shared) (Q:Value->Shared->Prop) (E:Value->Shared->Prop),Q (.int (g i j) s.toks) {s with toks:=s.toks+1}->wpAny (model X.prog X.w) X.A (f (.int i t) (.int j u)) Q E s):cN X f (gE λi j=>.int (g i j)):=by
 intro bE s Y H x y v u Q I rx ry h;obtain⟨i,j,rfl,rfl,q⟩:=h;obtain⟨t,rfl⟩:=rx;obtain⟨t',rfl⟩:=ry;exact rule i j t t' s _ _ ⟨.int (g i j),H,I.tok _,⟨_,rfl⟩,q⟩
theorem K1{f:Value->Value->Sem Value}{g:Int->Int->Bool}(rule:∀(i j:Int) (t u:Tok) (s:Shared) (Q:Value->Shared->Prop) (E:Value->Shared->Prop),Q (.bool (g i j)) s->wpAny (model X.prog X.w) X.A (f (.int i t) (.int j u)) Q E s):cN X f (gE λi j=>.bl (g i j)):=by
 intro bE s Y H x y v u Q I rx ry h;obtain⟨i,j,rfl,rfl,q⟩:=h;obtain⟨t,rfl⟩:=rx;obtain⟨t',rfl⟩:=ry;exact rule i j t t' s _ _ ⟨.bl (g i j),H,I,rfl,q⟩
def II(i j:Int):Prop:=(-(2 ^ 64)<i/\i<2 ^ 64)\/(-(2 ^ 64)<j/\j<2 ^ 64)
theorem II.ok{i j:Int}(h:II i j):IntMulOk i j:=by
 rcases h with⟨h1,h2⟩|⟨h1,h2⟩
 .exact .of_left (intBits_le_64 h1 h2)
 .exact .of_right (intBits_le_64 h1 h2)
theorem Uc:cN X (Cf .Add) (gE λi j=>.int (i+j)):=N0 λ_ _ _ _ _ _ _ q=>add_int q
theorem Tw:cN X (Cf .Sub) (gE λi j=>.int (i-j)):=N0 λ_ _ _ _ _ _ _ q=>sub_int q
theorem R5:cN X (Cf .Mult) (rI II λi j=>.int (i*j)):=lE λ_ _ _ _ _ _ _ hc q=>mul_int q hc.ok
theorem Sd:cN X (Cf .Mod) (rI (λ_ j=>0<j) λi j=>.int (i%j)):=lE λi j _ _ _ _ _ hc q=>by have h1:(0:Int)<j:=hc;exact mod_int' (by omega) (by rw[Int.fmod_eq_emod_of_nonneg i (by omega)];exact q)
end
section
variable{X:Cx}{a b c:Expr}{ta tb tc:TE}{pos:Pos}
theorem RA:cN X (BG .Lt) (gE λi j=>.bl (decide (i<j))):=K1 λ_ _ _ _ _ _ _ q=>lt_int q
theorem SQ:cN X (BG .LtE) (gE λi j=>.bl (decide (i<=j))):=K1 λ_ _ _ _ _ _ _ q=>le_int q
theorem SU:cN X (BG .Gt) (gE λi j=>.bl (decide (j<i))):=K1 λ_ _ _ _ _ _ _ q=>gt_int q
theorem OR{op:CmpOp}{r:R2}(ho:cN X (BG op) r)(ha:PE X a ta)(hb:PE X b tb)(hm:CW op b=false):PE X (.Compare a [op] [b] pos) (iL r ta tb):=by intro bE s Y H Q I h;exact wpAny_Compare1 (K6 ha hb I h λv u s2 x y H2 I2 rx ry q=>ho bE s2 Y H2 x y v u Q I2 rx ry q) hm
def SO(t:TE):TT:=λY H Q=>t Y H λx H'=>∃k,x=.bl k/\Q k H'
theorem OO{op:CmpOp}{r:R2}(ho:cN X (BG op) r)(ha:PE X a ta)(hb:PE X b tb)(hm:CW op b=false):PT X (.Compare a [op] [b] pos) (SO (iL r ta tb)):=by intro bE s Y H Q I h;refine wpAny_isTrue_Compare1 (bM (ha bE s Y H _ I h) λv s1 ⟨x,H1,I1,r1,q1⟩=>bM (hb bE s1 Y H1 _ I1 q1) λu s2 ⟨y,H2,I2,r2,q2⟩=>bM (ho bE s2 Y H2 x y v u _ I2 r1 r2 q2) λc s3 ⟨z,H3,I3,r3,k,e,q3⟩=>?_) hm;subst e;cases r3;exact Du ⟨H3,I3,q3⟩
def SD(r r':R2)(ta tb tc:TE):TE:=λY H Q=>ta Y H λx H1=>tb Y H1 λy H2=>r x y H2 λz H3=>∃k,z=.bl k /\
 (if k=true then tc Y H3 λw' H4=>r' y w' H4 Q else Q (.bl false) H3)
theorem P2{op op':CmpOp}{r r':R2}(ho:cN X (BG op) r)(ho':cN X (BG op') r')(ha:PE X a ta)(hb:PE X b tb)(hc:PE X c tc)(hm:lastMarks [op,op'] [b,c]=false:=by with_unfolding_all rfl):PE X (.Compare a [op,op'] [b,c] pos) (SD r r' ta tb tc):=by
 intro bE s Y H Q I h;refine Compare_chain (bM (ha bE s Y H _ I h) λv s1 ⟨x,H1,I1,r1,q1⟩=>chain_link (bM (hb bE s1 Y H1 _ I1 q1) λu s2 ⟨y,H2,I2,r2,q2⟩=>bM (ho bE s2 Y H2 x y v u _ I2 r1 r2 q2) λd s3 ⟨z,H3,I3,r3,k,e,q3⟩=>?_)) hm;subst e;cases r3;refine Du ?_;cases k with
 |false=>exact ite_ff ⟨.bl false,H3,I3,rfl,q3⟩
 |true=>exact ite_tt (chain_last (bM (hc bE s3 Y H3 _ I3 q3) λw' s4 ⟨z',H4,I4,r4,q4⟩=>ho' bE s4 Y H4 y z' u w' Q I4 r2 r4 q4))
def N5(K:Ad)(x:V)(H:J)(k:Bool):Prop :=
 match x with
 | .non=>k=false
 | .bl b=>k=b
 | .int i=>k=(i != 0)
 | .str y=>y.length<=sizeLine/\k=((y.length:Int) != 0)
 | .byt y=>y.size<=sizeLine/\k=((y.size:Int) != 0)
 | .ref p=>(∃xs,cm K H p xs/\k=!xs.isEmpty)\/(∃xs,cE K H p xs/\k=!xs.isEmpty)\/∃kvs,H p=some (.dK kvs)/\k=!kvs.isEmpty
 |_=>False
theorem WR{κ:Type}{kvs:List (κ×V)}{vs:List (κ×Value)}(r:KV kvs vs):(!vs.isEmpty)=!kvs.isEmpty:=by cases r<;>rfl
theorem Qd{xs:List V}{its:List Value}(r:bG xs its):(!its.toArray.isEmpty)=!xs.isEmpty:=by cases r<;>simp
theorem Fz:(sizeLine:Nat)<2 ^ 63:=by rw[Bo];decide
theorem SH:RR X (λx H Q=>∃k,N5 X.K x H k/\Q k H):=by
 intro bE s Y H x v Q I rx h;obtain⟨k,e,q⟩:=h;have hl:=Fz;have hs:sizeLine=16777216:=Bo;cases x with
 |non=>cases rx;have e':k=false:=e;subst e';exact truthy_none ⟨H,I,q⟩
 |bl b=>cases rx;have e':k=b:=e;subst e';exact Du ⟨H,I,q⟩
 |int i=>obtain⟨t,rfl⟩:=rx;have e':k=(i != 0):=e;subst e';exact PySem.P.truthy_int ⟨H,I,q⟩
 |str y=>obtain⟨t,rfl⟩:=rx;obtain⟨hy,e'⟩:y.length<=sizeLine/\k=((y.length:Int) != 0):=e;subst e';exact PySem.P.truthy_str (by omega) ⟨H,I.tok _,q⟩
 |byt y=>obtain⟨t,rfl⟩:=rx;obtain⟨hy,e'⟩:y.size<=sizeLine/\k=((y.size:Int) != 0):=e;subst e';exact PySem.W.truthy_bytes (by omega) ⟨H,I.tok _,q⟩
 |ref p =>
  cases rx;have e':(∃xs,cm X.K H p xs/\k=!xs.isEmpty)\/(∃xs,cE X.K H p xs/\k=!xs.isEmpty)\/∃kvs,H p=some (.dK kvs)/\k=!kvs.isEmpty:=e;rcases e' with⟨xs,hx,e'⟩|⟨xs,hx,e'⟩|⟨kvs,hx,e'⟩
  .subst e'
   obtain⟨its,r,pl,hz⟩:=I.list hx;have bK:=r.length;exact wpAny_truthy_list pl.isList (by simp only[Au];omega) ⟨H,I.tok _,by rw[Qd r];exact q⟩
  .subst e'
   obtain⟨its,r,pl,hz⟩:=I.tuple hx;have bK:=r.length;exact truthy_tuple pl (by simp only[Au];omega) ⟨H,I.tok _,by rw[Qd r];exact q⟩
  .subst e'
   obtain⟨hz,hS,vs,r,m⟩:kvs.length<=sizeLine/\(p==A8)=false/\∃vs,KV kvs vs/\s.heap.DictOf (Bh X.prog X.w) p vs:=I.hok p _ hx;have bK:kvs.length=vs.length:=Ei r;exact wpAny_truthy_dict hS m (by omega) ⟨H,I.tok _,by rw[WR r];exact q⟩
 |_=>exact(show False from e).elim
theorem VS(ha:PE X a ta)(he:∀b7,isTrue a X.env b7=(do let v <-b7;standAt a.pos;holding [v] (truthy v))):PT X a (λY H Q=>ta Y H λx H'=>∃k,N5 X.K x H' k/\Q k H'):=by
 intro bE s Y H Q I h;exact isTrue_plain (bM (ha bE s Y H _ I h) λv s1 ⟨x,H1,I1,r1,q1⟩=>SH bE s1 Y H1 x v Q I1 r1 q1) (he _)
theorem vals1(r:bG [x] us):∃u,us=[u]/\RelV x u:=by
 cases r with
 |cons r1 r2=>cases r2;exact⟨_,rfl,r1⟩
theorem vals2{y:V}(r:bG [x,y] us):∃u w',us=[u,w']/\RelV x u/\RelV y w':=by
 cases r with
 |cons r1 r2 =>
  cases r2 with
  |cons r3 r4=>cases r4;exact⟨_,_,rfl,r1,r3⟩
theorem WE(hc:X.calm=true):AJ X (.builtin "max") (λxs H Q=>∃i j,xs=[.int i,.int j]/\Q (.int (if j > i then j else i)) H):=by
 intro bE s Y H xs us Q I r h;obtain⟨i,j,rfl,q⟩:=h;obtain⟨u,w',rfl,⟨t,rfl⟩,⟨t',rfl⟩⟩:=vals2 r;refine max_two_ints (I.ok.hd hc) λh' tk k=>⟨_,H,I.kept k,?_,q⟩
 by_cases hj:j > i
 .rw[if_pos hj,if_pos hj];exact⟨_,rfl⟩
 .rw[if_neg hj,if_neg hj];exact⟨_,rfl⟩
theorem Vp(hc:X.calm=true):AJ X (.builtin "min") (λxs H Q=>∃i j,xs=[.int i,.int j]/\Q (.int (if j<i then j else i)) H):=by
 intro bE s Y H xs us Q I r h;obtain⟨i,j,rfl,q⟩:=h;obtain⟨u,w',rfl,⟨t,rfl⟩,⟨t',rfl⟩⟩:=vals2 r;refine min_two_ints (I.ok.hd hc) λh' tk k=>⟨_,H,I.kept k,?_,q⟩
 by_cases hj:j<i
 .rw[if_pos hj,if_pos hj];exact⟨_,rfl⟩
 .rw[if_neg hj,if_neg hj];exact⟨_,rfl⟩
theorem Qm:AJ X (.type "int") (λxs H Q=>(∃i,xs=[.int i]/\Q (.int i) H)\/∃k,xs=[.bl k]/\Q (.int (if k then 1 else 0)) H):=by
 intro bE s Y H xs us Q I r h;rcases h with⟨i,rfl,q⟩|⟨k,rfl,q⟩
 .obtain⟨u,rfl,t,rfl⟩:=vals1 r
  exact call_int_int ⟨.int i,H,I,⟨_,rfl⟩,q⟩
 .obtain⟨u,rfl,r1⟩:=vals1 r
  cases r1;exact call_int_bool ⟨.int (if k then 1 else 0),H,I.tok _,⟨_,rfl⟩,q⟩
end
end
section
variable{f:Addr}{A:Around}{base:Heap}{H:J}{ps:List Str}{vs:List V}{us:List Value}{P:Program}{K:Ad}{scope:Scope}{s:Shared}{bN:Str}{mg:Str->Option Value}
structure AK(k:Nat)(A:Around):Prop where
 hd:A.handled=none
 dp:A.depth+3*k+5<recursionLimit
 un:A.units+16*k+200<cLine
theorem AK.mono{j k:Nat}(r:AK k A)(h:j<=k):AK j A:=⟨r.hd,by have:=r.dp;omega,by have:=r.un;omega⟩
theorem AK.deeper{k:Nat}{A:Around}(r:AK (k+1) A)(env:Env):AK k (A.deeper env) :=
 ⟨r.hd,by have:=r.dp;show A.depth+1+3*k+5<_;omega,by have:=r.un;show A.units+3+16*k+200<_;omega⟩
theorem AK.depth{k:Nat}{A:Around}(r:AK k A):A.depth<recursionLimit:=by have:=r.dp;omega
theorem AK.units{k:Nat}{A:Around}(r:AK k A):A.units+64<cLine:=by have:=r.un;omega
def GL:TA:=λ_ H Q=>Q [] H
def GS(ta:TE)(tr:TA):TA:=λY H Q=>ta Y H λx H1=>tr Y H1 λxs H2=>Q (x::xs) H2
section
variable{X:Cx}{e:Expr}{es:List Expr}{te:TE}{t:TA}{pos:Pos}
theorem BR:PA X [] GL:=λ_ _ _ _ H Q I h=>Calls.spliced_nil ⟨[],H,I,.nil,h⟩
theorem Z4(ha:PE X e te)(hr:PA X es t)(hs:Af (e::es) X.env=(false,eval e X.env)::Af es X.env:=by rfl):PA X (e::es) (GS te t):=by intro pos bE s Y H Q I h;rw[hs];show wpAny _ _ (spliced ((false,eval e X.env)::backTo pos (Af es X.env))) _ _ s;refine Kv (bM (ha bE s Y H _ I h) λu s1 ⟨x,H1,I1,r1,q1⟩=>?_);exact bM (hr pos bE s1 Y H1 _ I1 q1) λus s2 ⟨xs,H2,I2,r2,q2⟩=>⟨x::xs,H2,I2,.cons r1 r2,q2⟩
def Rn(t:TA):TE:=λY H Q=>t Y H λxs H1=>xs.length<=sizeLine/\∀p,H1 p=none->Q (.ref p) (upd H1 p (.tup xs))
def Fu(t:TA):TE:=λY H Q=>t Y H λxs H1=>xs.length<=sizeLine/\∀p,H1 p=none->Q (.ref p) (upd H1 p (.lst xs))
theorem SA{x1}(h:PA X es t):PE X (.Tuple es x1 pos) (Rn t):=by intro bE s Y H Q I hq;refine wpAny_Tuple_spliced (bM (h pos bE s Y H _ I hq) λus s1 ⟨xs,H1,I1,r,z,q⟩=>⟨by rw[<-r.length];exact z,?_⟩);have hf:H1 s1.heap.objs.size=none:=I1.hok.fresh (Ag _);refine⟨.ref s1.heap.objs.size,upd H1 s1.heap.objs.size (.tup xs),I1.laid (t':=s1.toks) (λb u e=>As _ e) (Ag _) ?_,rfl,q _ hf⟩;exact⟨z,us,r,⟨_,AI _ rfl,rfl,_,rfl⟩⟩
theorem TC(h:PA X es t):PE X (.List es pos) (Fu t):=by intro bE s Y H Q I hq;refine wpAny_List_spliced (bM (h pos bE s Y H _ I hq) λus s1 ⟨xs,H1,I1,r,z,q⟩=>⟨by rw[<-r.length];exact z,?_⟩);have hf:H1 s1.heap.objs.size=none:=I1.hok.fresh (Ag _);refine⟨.ref s1.heap.objs.size,upd H1 s1.heap.objs.size (.lst xs),I1.laid (t':=s1.toks) (λb u e=>As _ e) (Ag _) ?_,rfl,q _ hf⟩;exact⟨z,us,0,r,AI _ rfl⟩
end
abbrev Sp:=List V->J->VK->XK->Prop
abbrev gm:=List Env->J->Shared->XK->Value->Shared->Prop
structure IL(P:Program)(w:World)(K:Ad)(mg:Str->Option Value)(base:Heap)(A:Around)(outer:List Env)(s:Shared)(H:J):Prop where
 frames:A.frames=some outer
 mod:Mod K mg base
 bs:∀b o,base.get? b=some o->s.heap.get? b=some o/\H b=none
 bsz:base.objs.size<=s.heap.objs.size
 funs:s.heap.FunFrames base outer
 frf:∀b∈eV outer,H b=none
 hok:cu P w H s.heap
 bare:AllBare s.gens
def CE(outer:List Env)(P:Program)(w:World)(H:J)(s:Shared)(Q:VK)(u:Value)(s':Shared):Prop :=
 ∃v H',s'.os=s.os/\AllBare s'.gens/\Un (eV outer) [] H H' s.heap s'.heap/\cu P w H' s'.heap/\RelV v u/\Q v H'
def CR(CX:gm)(outer:List Env)(P:Program)(w:World)(H:J)(s:Shared)(Q:VK)(E:XK)(r:Result)(s':Shared):Prop :=
 match r with
 | .ok (.ret u)=>CE outer P w H s Q u s'
 | .ok _=>False
 | .error e=>CX outer H s E e s'
structure BK(P:Program)(w:World)(K:Ad)(mg:Str->Option Value)(base:Heap)(CX:gm)(k:Nat)(f:Addr)(fd:FuncData)(ps:List Str)(sp:Sp):Prop where
 len:∀vs H Q E,sp vs H Q E->vs.length=ps.length
 run:∀(A:Around) (outer:List Env) (s:Shared) (H:J) (args:Args) (us:List Value) (vs:List V) (Q:VK) (E:XK),AK k A->IL P w K mg base A outer s H->BindsTo s fd args (ps.zip us)->bG vs us->sp vs H Q E ->
  codeAny (model P w) A (.call (.ref f) args) (CR CX outer P w H s Q E) s
theorem BK.mono{P:Program}{w:World}{K:Ad}{mg:Str->Option Value}{base:Heap}{CX:gm}{j k:Nat}{f:Addr}{fd:FuncData}{ps:List Str}{sp:Sp}(F:BK P w K mg base CX j f fd ps sp)(h:j<=k):BK P w K mg base CX k f fd ps sp:=⟨F.len,λA outer s H args us vs Q E hr=>F.run A outer s H args us vs Q E (hr.mono h)⟩
section
variable{X:Cx}{bE:List (Addr×Obj)}{Y:St}{H:J}{s s':Shared}
theorem Inv.env0(I:Inv X bE Y H s):IL X.prog X.w X.K X.mg X.base X.A X.stack s H :=
 ⟨I.ok.frames,I.ok.mod,I.bs,BE I.ok.bsz I.sz,I.stack,I.stkFree,I.hok,I.bare⟩
theorem Inv.after{Q:VK}{u:Value}(I:Inv X bE Y H s)(h:CE X.stack X.prog X.w H s Q u s'):EP X bE Y Q u s':=by obtain⟨v,H',os,bare,un,hok,r,q⟩:=h;obtain⟨hh,g,d,t,os'⟩:=s';obtain rfl:os'=s.os:=os;exact⟨v,H',I.call (h':=hh) (g':=g) (d':=d) (t':=t) (ch:=[]) un hok bare (λb z=>absurd z (by simp)),r,q⟩
end
def SS(sp:Sp)(gQ:List V)(E:XK)(t:TA):TE:=λY H Q=>t Y H λvs H1=>sp (vs++gQ) H1 Q E
def Binds(K:Ad)(fd:FuncData)(ps:List Str)(ds:List Value):Prop :=
 ∀(s:Shared) (us:List Value),K.In s.heap->(us++ds).length=ps.length->BindsTo s fd ⟨us,[]⟩ (ps.zip (us++ds))
theorem Binds.all{fd:FuncData}(h:∀us:List Value,us.length=ps.length->bindArgs fd ⟨us,[]⟩=pure (ps.zip us)):Binds K fd ps []:=λs us _ hl=>by rw[CB]at hl ⊢;exact .of_eq (h us hl)
def ez(CX:gm)(X:Cx)(E:XK):Prop:=∀(bE:List (Addr×Obj)) (Y:St) (H:J) (s:Shared) (e:Value) (s':Shared),Inv X bE Y H s->CX X.stack H s E e s'->X.xe e s'
section
variable{X:Cx}{CX:gm}{k:Nat}{f C:Addr}{fd:FuncData}{ps:List Str}{sp:Sp}{gQ:List V}{ds:List Value}{E:XK}{x m:Str}{p pos dU:Pos}{e o:Expr}{es:List Expr}{ta:TE}{t:TA}
theorem Ua{bE:List (Addr×Obj)}{Y:St}{Q:VK}(F:BK X.prog X.w X.K X.mg X.base CX k f fd ps sp)(hr:AK k X.A)(hb:Binds X.K fd ps ds)(hd:bG gQ ds)(hx:ez CX X E)(I:Inv X bE Y H s)(r:bG vs us)(h:sp (vs++gQ) H Q E):wpAny (model X.prog X.w) X.A (call (.ref f) us) (EP X bE Y Q) X.xe s:=by
 have r2:bG (vs++gQ) (us++ds):=r.append hd;have hl:(us++ds).length=ps.length:=by rw[<-r2.length];exact F.len _ _ _ _ h
 refine wpAny_call (Eg (F.run X.A X.stack s H ⟨us,[]⟩ (us++ds) (vs++gQ) Q E hr I.env0 (hb s us I.kIn hl) r2 h) λr s' hq=>?_);cases r with
 |error e=>exact hx bE Y H s e s' I hq
 |ok fl =>
  cases fl with
  |ret u=>exact I.after hq
  |next=>exact CD hq
  |brk=>exact CD hq
  |cont=>exact CD hq
theorem OS(F:BK X.prog X.w X.K X.mg X.base CX k f fd ps sp)(hr:AK k X.A)(hg:Gl X x)(hm:X.mg x=some (.ref f))(hk:E7 X.K (.ref f)=true)(hb:Binds X.K fd ps ds)(hd:bG gQ ds)(hx:ez CX X E)(ha:PA X (e::es) t)(eL:(x==("__debug__":Str))=false:=by decide)(he:Af (e::es) X.env=(false,eval e X.env)::Af es X.env:=by rfl)(hpl:(backTo pos (Af es X.env)).any (·.1)=false:=by rfl):PE X (.Call (.Name x p) (e::es) [] pos) (SS sp gQ E t):=by
 intro bE s Y H Q I h;refine Ku (O4 I hg hm ?_ eL);refine PySem.W.callWith_K (h₀:=X.base) I.ok.mod.kin hk (bM (ha pos bE s Y H _ I h) λus s1 ⟨vs,H1,I1,r,q⟩=>⟨I1.kIn,?_⟩) he hpl;exact Ua F hr hb hd hx I1 r q
end
structure Zx(N P:List Str)(sc:Scope):Prop where
 kind:sc.kind=.function
 co:sc.isCoroutine=false
 gen:sc.isGenerator=false
 nd:N.Nodup
 pre:N.take P.length=P
 par:∀x∈P,sc.names.lookup x=some .local\/sc.names.lookup x=some .cell
 nofree:∀y∈sc.names,y.2≠.free
theorem P6{kindOf:Str->Option NameKind}{x:Str}:∀{binds:List (Str×Value)} {m:Str->Option Value},(∀v,(x,v)∉binds)->bindL kindOf binds m x=m x
 |[],_,_=>rfl
 |(n,v)::r,m,h=>by
  unfold bindL;rw[P6 λw hw=>h w (Aq _ hw)];split
  .have:x≠n:=by rintro rfl;exact h v An
   simp[this]
  .rfl
theorem Qh{kindOf:Str->Option NameKind}{x:Str}:∀{binds:List (Str×Value)} {m:Str->Option Value},(∀v,(x,v)∉binds)->bindC kindOf binds m x=m x
 |[],_,_=>rfl
 |(n,v)::r,m,h=>by
  unfold bindC;rw[Qh λw hw=>h w (Aq _ hw)];split
  .rfl
  .have:x≠n:=by rintro rfl;exact h v An
   simp[this]
theorem P8{kindOf:Str->Option NameKind}{x:Str}{v:Value}:∀{P:List Str} {vs:List Value} {i:Nat} {m:Str->Option Value},P.Nodup->P[i]?=some x->vs[i]?=some v->kindOf x=some .local ->bindL kindOf (P.zip vs) m x=some v
 |[],_,_,_,_,h,_,_=>by simp at h
 |_::_,[],_,_,_,_,h,_=>by simp at h
 |p::P,w::vs,0,m,nd,h1,h2,hk=>by simp at h1 h2;subst h1;subst h2;show bindL kindOf ((p,w)::P.zip vs) m p=_;unfold bindL;rw[P6 λv hv=>(Fc.mp nd).1 (Ke hv).1,if_pos hk];simp
 |p::P,w::vs,i+1,m,nd,h1,h2,hk=>by show bindL kindOf ((p,w)::P.zip vs) m x=_;unfold bindL;exact P8 (i:=i) (Fc.mp nd).2 (by simpa using h1) (by simpa using h2) hk
theorem Qi{kindOf:Str->Option NameKind}{x:Str}{v:Value}:∀{P:List Str} {vs:List Value} {i:Nat} {m:Str->Option Value},P.Nodup->P[i]?=some x->vs[i]?=some v->kindOf x≠some .local ->bindC kindOf (P.zip vs) m x=some v
 |[],_,_,_,_,h,_,_=>by simp at h
 |_::_,[],_,_,_,_,h,_=>by simp at h
 |p::P,w::vs,0,m,nd,h1,h2,hk=>by simp at h1 h2;subst h1;subst h2;show bindC kindOf ((p,w)::P.zip vs) m p=_;unfold bindC;rw[Qh λv hv=>(Fc.mp nd).1 (Ke hv).1,if_neg hk];simp
 |p::P,w::vs,i+1,m,nd,h1,h2,hk=>by show bindC kindOf ((p,w)::P.zip vs) m x=_;unfold bindC;exact Qi (i:=i) (Fc.mp nd).2 (by simpa using h1) (by simpa using h2) hk
def start(N:List Str)(vs:List V):St:=vs.map some++Al (N.length-vs.length) none
def Dz(CX:gm)(P:Program)(w:World)(K:Ad)(mg:Str->Option Value)(base:Heap)(N:List Str)(bN:Str)(scope:Scope)(f:Addr)(cd:Value)(A:Around)(outer:List Env)(s:Shared)(H:J)(E:XK):Cx where
 prog:=P
 w:=w
 K:=K
 mg:=mg
 base:=base
 A:=A.deeper (envOfC bN scope s.heap.objs.size f cd)
 N:=N
 s₀:=s
 H₀:=H
 env:=envOfC bN scope s.heap.objs.size f cd
 outer:=outer
 stack:=envOfC bN scope s.heap.objs.size f cd::outer
 ex:=[]
 calm:=true
 fn:=λ_=>true
 pn:=[]
 xe:=λe s'=>wpAny (model P w) (A.deeper (envOfC bN scope s.heap.objs.size f cd)) (leaving (envOfC bN scope s.heap.objs.size f cd) e) (λ_ s''=>CX outer H s E e s'') (λe' s''=>CX outer H s E e' s'') s'
theorem Pz{sc:Scope}{n:Nat}{x:Str}(h:sc.names.lookup x=some .cell):∃c,(cellsFrom n sc.names []).lookup x=some c:=by have q:=Ny sc.names n [] (.inl h);exact KQ.mp q
theorem Wh{CX:gm}{w:World}{N:List Str}{cd:Value}{outer:List Env}{s1:Shared}{E:XK}(oH:Zx N ps scope)(hd:A.handled=none)(e0:IL P w K mg base A outer s H)(hl:vs.length=ps.length)(r:bG vs us)(x:InCallC s s.heap.objs.size (bindL (envOfC bN scope s.heap.objs.size f cd).kindOf (ps.zip us) λ_=>none) (cellsFrom (s.heap.objs.size+1) scope.names []) (bindC (envOfC bN scope s.heap.objs.size f cd).kindOf (ps.zip us) λ_=>none) s1):Inv (Dz CX P w K mg base N bN scope f cd A outer s H E) [] (start N vs) H s1:=by
 have hpl:ps.length<=N.length:=by have:=congrArg Bb oH.pre;rw[Fo]at this;omega
 obtain⟨h1,tk,rfl,hk⟩:=x.done;have iO:∀b:Addr,b∉(Dz CX P w K mg base N bN scope f cd A outer s H E).ex:=λb z=>absurd (show b∈([]:List Addr) from z) (by simp);refine⟨⟨e0.mod,oH.kind,rfl,rfl,Ag _,λy z c h1 h2=>?_,λy hy=>?_,λy c _ h=>?_,λ_=>hd,Around.frames_deeper e0.frames,.inr ⟨rfl,rfl⟩,λb z=>absurd z (iO b),e0.bs,e0.bsz,λb _ _=>iO b,λb z=>absurd z (iO b),e0.funs,e0.frf⟩,
  rfl,e0.bare,Un.kept hk,⟨_,x.toInCall.ns,λi y v h1 h2 h3=>?_⟩,λy c h=>⟨_,x.cell y c h⟩,e0.hok.fresh (Ag _),λy c h=>?_,λp hp=>absurd (show p∈([]:List (Addr×Obj)) from hp) (by simp),e0.hok.kept hk,?_⟩
 .exact name_of_addr x.apart (Gq h1) (Gq h2)
 .have hy:scope.names.lookup y=some .cell\/scope.names.lookup y=some .free:=hy
  rcases hy with hy|hy
  .exact Pz hy
  .exact absurd rfl (oH.nofree _ (Gq hy))
 .exact DX (x.above y c (Gq h))
 .have hi:i<vs.length:=by
   unfold start at h2
   by_cases hi:i<vs.length
   .exact hi
   .rw[CZ (by simpa using hi)]at h2
    rw[Iu]at h2;split at h2<;>cases h2
  have ha:vs[i]?=some v:=by
   unfold start at h2;rw[CG (by simpa using hi),A9]at h2;cases e:vs[i]? with
   |none=>rw[e]at h2;cases h2
   |some a=>rw[e]at h2;cases h2;rfl
  obtain⟨u,hu,rv⟩:=r.get ha;have hp:ps[i]?=some y:=by rw[<-oH.pre,NF (by omega)];exact h1
  have lH:ps.Nodup:=by rw[<-oH.pre];exact oH.nd.sublist (List.take_sublist _ _)
  refine⟨u,rv,?_⟩;rcases oH.par y (DR hp)with k|k
  .exact .inl ⟨k,P8 lH hp hu k⟩
  .obtain⟨c,e⟩:=Pz (n:=s.heap.objs.size+1) k
   refine .inr ⟨.inl k,c,e,?_⟩;have q:=x.cell y c e;rw[Qi lH hp hu (by show scope.names.lookup y≠_;rw[k];decide)]at q;exact q
 .exact e0.hok.fresh (DX (x.above y c (Gq h)))
 .unfold start
  show _=N.length;rw[AH,Ae,Cg];omega
theorem RF{CX:gm}{w:World}{k:Nat}{name:Str}{params:Arguments}{body:List Stmt}{dV kV di pm bQ ct oc:Value}{an od:Option Addr}{fL:Array (Option Value)}{N ps:List Str}{sp:Sp}(lk:K.lookup f=some ⟨oc,od,.func (Dx name bN params body scope dV kV di pm an bQ ct),fL⟩)(dh:Gr K bQ bN=true)(oH:Zx N ps scope)(len:∀vs H Q E,sp vs H Q E->vs.length=ps.length)
  (fI:∀(A:Around) (outer:List Env) (s:Shared) (H:J) (vs:List V) (Q:VK) (E:XK),AK k (A.deeper (envOfC bN scope s.heap.objs.size f bQ))->sp vs H Q E ->
   ∃t,cZ (Dz CX P w K mg base N bN scope f bQ A outer s H E) body t/\t {nx:=λ_ H'=>Q .non H',rt:=Q} (start N vs) H):
  BK P w K mg base CX (k+1) f (Dx name bN params body scope dV kV di pm an bQ ct) ps sp:=by
 refine⟨len,λA outer s H args us vs Q E hr e0 hb r gJ=>?_⟩;have hl:=len _ _ _ _ gJ;have KX:K.In s.heap:=e0.mod.kin.keeps λb o e=>(e0.bs b o e).1;have mZ:s.heap.NoLimit:=e0.mod.nolimit.keeps λb o e=>(e0.bs b o e).1;have jr:∀y∈ps.zip us,scope.names.lookup y.1=some .local\/(scope.names.lookup y.1=some .cell/\((cellsFrom (s.heap.objs.size+1) scope.names []).lookup y.1).isSome=true):=λ⟨n,v⟩ hy=>by
  rcases oH.par n (Ke hy).1 with q|q
  .exact .inl q
  .exact .inr ⟨q,Ny _ _ _ (.inl q)⟩
 refine codeAny_call_function hr.depth (KX _ _ lk) rfl oH.co oH.gen rfl (PySem.W.codeRec_of KX dh) (hb _ _ _ _ ?_);refine wpAny_newFunctionEnv_cells oH.kind jr λenv he s1 x=>?_;subst he;refine⟨mZ.keeps x.toInCall.keep,codeAny_func ?_⟩;obtain⟨t,ht,hq⟩:=fI A outer s H vs Q E (hr.deeper _) gJ;have I:Inv (Dz CX P w K mg base N bN scope f bQ A outer s H E) [] (start N vs) H s1:=Wh oH hr.hd e0 hl r x;refine B7 (ht [] s1 (start N vs) H _ I hq) (λfl s' hs=>?_) λe s' hs=>hs;have ck:∀{σ':St} {H':J} {v:V} {u:Value},Inv (Dz CX P w K mg base N bN scope f bQ A outer s H E) [] σ' H' s'->RelV v u->Q v H'->CE outer P w H s Q u s' :=
  λ{σ' H' v u} oJ rv q=>⟨v,H',oJ.os,oJ.bare,oJ.base,oJ.hok,rv,q⟩
 cases fl with
 |ret u=>obtain⟨v,σ',H',oJ,rv,q⟩:=hs;exact ck oJ rv q
 |next=>obtain⟨σ',H',oJ,q⟩:=hs;exact ck (v:=V.non) (u:=AY) oJ rfl q
 |brk=>obtain⟨_,_,_,q⟩:=hs;exact CD q
 |cont=>obtain⟨_,_,_,q⟩:=hs;exact CD q
end
section
variable{X:Cx}{x:Str}{p pos:Pos}{e:Expr}{es:List Expr}{t:TA}{id T:String}{r:List V->J->VK->Prop}
def jx(r:List V->J->VK->Prop)(t:TA):TE:=λY H Q=>t Y H λvs H1=>r vs H1 Q
theorem DF(hc:AJ X (.builtin id) r)(hg:Gl X x)(hm:X.mg x=none)(hv:Bi x=some (.builtin id))(ha:PA X (e::es) t)(hn:x ≠ "__name__":=by decide)(eL:(x==("__debug__":Str))=false:=by decide)(he:Af (e::es) X.env=(false,eval e X.env)::Af es X.env:=by rfl)(hpl:(backTo pos (Af es X.env)).any (·.1)=false:=by rfl):PE X (.Call (.Name x p) (e::es) [] pos) (jx r t):=by
 intro bE s Y H Q I h;refine Ku (GW I hg hm hv ?_ hn eL);exact PyProof.Rows.callWith_builtin1 (bM (ha pos bE s Y H _ I h) λus s1 ⟨vs,H1,I1,r1,q1⟩=>hc bE s1 Y H1 vs us Q I1 r1 q1) he hpl
theorem EW(hc:AJ X (.type T) r)(hg:Gl X x)(hm:X.mg x=none)(hv:Bi x=some (.type T))(ha:PA X (e::es) t)(hn:x ≠ "__name__":=by decide)(eL:(x==("__debug__":Str))=false:=by decide)(he:Af (e::es) X.env=(false,eval e X.env)::Af es X.env:=by rfl)(hpl:(backTo pos (Af es X.env)).any (·.1)=false:=by rfl):PE X (.Call (.Name x p) (e::es) [] pos) (jx r t):=by
 intro bE s Y H Q I h;refine Ku (GW I hg hm hv ?_ hn eL);exact KJ (bM (ha pos bE s Y H _ I h) λus s1 ⟨vs,H1,I1,r1,q1⟩=>hc bE s1 Y H1 vs us Q I1 r1 q1) he hpl
end
end L2
namespace HT
set_option maxHeartbeats 8000000
open PySem PyProof.Rows
section
open PySem.SeqAt
open PySem.MeetsSeq PySem.MeetsSeq2 PySem.MeetsSeq3
end
section
variable{prog:Program}{w:World}{A:Around}{E:Value->Shared->Prop}{s:Shared}
theorem aN{t b:Addr}{vs ws:List Value}{Q:Value->Shared->Prop}(ht:IsTup s.heap t vs.toArray)(hb:IsTup s.heap b ws.toArray)(hv:vs≠[])(h1:ws=[]->Q (.ref t) s)(h2:ws≠[]->Q (.ref s.heap.objs.size) {s with heap:=s.heap.push {cls:=.type "tuple",data:=.seq (vs++ws).toArray}})(hsz:vs.length+ws.length<=sizeLine):wpAny (model prog w) A (Cf .Add (.ref t) (.ref b)) Q E s:=by
 obtain⟨⟨cls,dd,data,sl⟩,ho,hc,n,hd⟩:=id ht;obtain⟨⟨lz,jS,data2,jz⟩,g7,i0,n2,iZ⟩:=id hb;simp only at hc hd i0 iZ;subst hc hd i0 iZ;have e:vs.toArray++ws.toArray=(vs++ws).toArray:=by simp
 by_cases hw:ws=[]
 .exact concat_meets ⟨_,ho,rfl⟩ ⟨_,g7,rfl⟩ Kh seq_tuple_add Kr KW (KP _ _)
   (tuple_addW1 t b vs.toArray ws.toArray n n2 dd jS sl jz (by simpa using hv) (by simp[hw])) ⟨ho,g7,h1 hw⟩
 .refine concat_meets ⟨_,ho,rfl⟩ ⟨_,g7,rfl⟩ Kh seq_tuple_add Kr KW (KP _ _)
   (tuple_addW2 t b vs.toArray ws.toArray n n2 dd jS sl jz (by simpa using hv) (by simpa using hw) (by rw[Au,Au];exact hsz)) ⟨ho,g7,?_⟩
  rw[e];exact h2 hw
def iM(n d:Nat):Option Int->Nat
 |none=>d
 |some v=>if v<0 then(v+(n:Int)).toNat else min v.toNat n
end
end HT
namespace L2
open PySem PySem.Spec PyProof.Rows
abbrev TO:=St->J->(Option Int->J->Prop)->Prop
def PO(X:Cx)(e:Option Expr)(t:TO):Prop :=
 ∀(bE:List (Addr×Obj)) (s:Shared) (Y:St) (H:J) (Q:Option Int->J->Prop),Inv X bE Y H s->t Y H Q ->
  wpAny (model X.prog X.w) X.A (evalPart e X.env) (λu s'=>∃o H',Inv X bE Y H' s'/\IsPart u o/\Q o H') X.xe s
def Tq:TO:=λ_ H Q=>Q none H
def Rt(t:TE):TO:=λY H Q=>t Y H λx H1=>∃i,x=.int i/\Q (some i) H1
section
variable{X:Cx}{e:Expr}{te:TE}{lo hi:Option Expr}{tl th:TO}{pos p2:Pos}
theorem T1:PO X none Tq:=by intro bE s Y H Q I h;rw[evalPart_none];exact Ac ⟨none,H,I,.none,h⟩
theorem UD(h:PE X e te):PO X (some e) (Rt te):=by intro bE s Y H Q I hw;rw[evalPart_some];refine bM (h bE s Y H _ I hw) λu s1 ⟨x,H1,I1,r1,q1⟩=>?_;obtain⟨i,rfl,q⟩:=q1;obtain⟨t,rfl⟩:=r1;exact⟨some i,H1,I1,.int i t,q⟩
def mr(X:Cx)(r:V->Option Int->Option Int->J->VK->Prop):Prop :=
 ∀(bE:List (Addr×Obj)) (s:Shared) (Y:St) (H:J) (x:V) (v vl vu:Value) (lo hi:Option Int) (sl:Addr) (Q:VK),Inv X bE Y H s->RelV x v->s.heap.IsSliceOf sl vl vu .none->IsPart vl lo->IsPart vu hi->r x lo hi H Q ->
  ∃T id,typeLookup (.type T) "__getitem__"=pure (some (.builtin id))/\s.TypeIs v T/\wpAny (model X.prog X.w) X.A (getItem v (.ref sl)) (EP X bE Y Q) X.xe s
def mI(r:V->Option Int->Option Int->J->VK->Prop)(te:TE)(tl th:TO):TE:=λY H Q=>te Y H λx H1=>tl Y H1 λl H2=>th Y H2 λu H3=>r x l u H3 Q
theorem Us{r:V->Option Int->Option Int->J->VK->Prop}(hr:mr X r)(he:PE X e te)(hl:PO X lo tl)(hu:PO X hi th):PE X (.Subscript e (.Slice lo hi none p2) pos) (mI r te tl th):=by intro bE s Y H Q I h;refine Subscript_ (bM (he bE s Y H _ I h) λv s1 ⟨x,H1,I1,r1,q1⟩=>?_);refine wpAny_Slice (bM (hl bE s1 Y H1 _ I1 q1) λvl s2 ⟨l,H2,I2,pl,q2⟩=>bM (hu bE s2 Y H2 _ I2 q2) λvu s3 ⟨u,H3,I3,pu,q3⟩=>?_);rw[evalPart_none];refine Ac ?_;have I4:Inv X bE Y H3 {s3 with heap:=s3.heap.push {cls:=.type "slice",data:=.fields #[vl,vu,.none]}}:=I3.kept (t':=s3.toks) λb ob q=>As _ q;obtain⟨T,id,hT,ht,hg⟩:=hr bE {s3 with heap:=s3.heap.push {cls:=.type "slice",data:=.fields #[vl,vu,.none]}} Y H3 x v vl vu l u s3.heap.objs.size Q I4 r1 (Heap.IsSliceOf.new ..) pl pu q3;show wpAny (model X.prog X.w) X.A (subscriptTail e (.Slice lo hi none p2) v (.ref s3.heap.objs.size)) (EP X bE Y Q) X.xe {s3 with heap:=s3.heap.push {cls:=.type "slice",data:=.fields #[vl,vu,.none]}};exact tail_any (ops:=[.ref s3.heap.objs.size,v]) ht hT hg (by with_unfolding_all rfl)
def GN(xs:List V)(lo hi:Option Int):List V:=(xs.drop (HT.iM xs.length 0 lo)).take (HT.iM xs.length xs.length hi-HT.iM xs.length 0 lo)
theorem Xz(xs:List V)(lo hi:Option Int):(GN xs lo hi).length<=xs.length:=by unfold GN;rw[Fo,Gj];omega
def RE(K:Ad):R2:=λx y H Q=>∃a b xs ys,x=.ref a/\y=.ref b/\cE K H a xs/\cE K H b ys/\xs≠[]/\xs.length+ys.length<=sizeLine /\
 (ys=[]->Q (.ref a) H)/\(ys≠[]->∀p,H p=none->Q (.ref p) (upd H p (.tup (xs++ys))))
theorem bG.nil_iff{xs:List V}{us:List Value}(r:bG xs us):us=[]↔xs=[]:=by
 cases r with
 |nil=>simp
 |cons _ _=>simp
theorem Te:cN X (Cf .Add) (RE X.K):=by intro bE s Y H x y v u Q I rx ry h;obtain⟨a,b,xs,ys,rfl,rfl,ha,hb,hx,hz,q1,q2⟩:=h;cases rx;cases ry;obtain⟨its,r1,p1,_⟩:=I.tuple ha;obtain⟨el,r2,p2,_⟩:=I.tuple hb;refine HT.aN p1 p2 (λz=>hx (r1.nil_iff.mp z)) (λz=>⟨.ref a,H,I,rfl,q1 (r2.nil_iff.mp z)⟩) (λz=>?_) (by rw[<-r1.length,<-r2.length];exact hz);refine⟨.ref s.heap.objs.size,_,I.laid (t':=s.toks) (o:=.tup (xs++ys)) (λb ob q=>As _ q) (Ag _) ?_,rfl,q2 (λw=>z (r2.nil_iff.mpr w)) _ (I.hok.fresh (Ag _))⟩;exact⟨by rw[AH];exact hz,_,r1.append r2,IsTup.new _ _⟩
end
section
variable{H:J}{i:Int}{bE:List (Addr×Obj)}{n:Nat}{s:Shared}{Y:St}{x y:V}{u:Value}
def eQ(n:Nat)(i:Int):Option Nat:=if 0<=i then(if i<n then some i.toNat else none)else if -(n:Int)<=i then some (i+n).toNat else none
def hU{α:Type}(xs:List α)(i:Int):Option α:=(eQ xs.length i).bind λj=>xs[j]?
theorem OV{j:Nat}(h:eQ n i=some j):seqIndex? i n=some j/\j<n/\-(n:Int)<=i/\i<n:=by
 unfold eQ at h
 by_cases h0:0<=i
 .rw[if_pos h0]at h
  by_cases h1:i<n
  .rw[if_pos h1]at h
   have e:i.toNat=j:=BH h;exact⟨by rw[seqIndex_of h0 h1,e],by omega,by omega,h1⟩
  .rw[if_neg h1]at h;cases h
 .rw[if_neg h0]at h
  by_cases h1:-(n:Int)<=i
  .rw[if_pos h1]at h
   have e:(i+n).toNat=j:=BH h;exact⟨by rw[seqIndex_neg (by omega) h1,e],by omega,h1,by omega⟩
  .rw[if_neg h1]at h;cases h
theorem LK{α:Type}{xs:List α}{v:α}(h:hU xs i=some v):∃j,seqIndex? i xs.length=some j/\xs[j]?=some v/\j<xs.length/\-(xs.length:Int)<=i/\i<xs.length:=by
 unfold hU at h;cases e:eQ xs.length i with
 |none=>rw[e]at h;cases h
 |some j=>rw[e]at h;obtain⟨h1,h2,h3,h4⟩:=OV e;exact⟨j,h1,h,h2,h3,h4⟩
def O3(b:Expr):Prop:=∀o i,subscripted b false o i=operate [o,i] (getItem o i)
def gh(X:Cx)(r:R2):Prop :=
 ∀(value cT:Expr) (bE:List (Addr×Obj)) (s:Shared) (Y:St) (H:J) (x y:V) (v u:Value) (Q:VK),Inv X bE Y H s->RelV x v->RelV y u->r x y H Q ->
  subscripted cT false v u=operate [v,u] (getItem v u)->wpAny (model X.prog X.w) X.A (subscriptTail value cT v u) (EP X bE Y Q) X.xe s
def om(X:Cx)(id:String)(r:V->List V->J->VK->Prop):Prop :=
 ∀(bE:List (Addr×Obj)) (s:Shared) (Y:St) (H:J) (x:V) (xs:List V) (v:Value) (us:List Value) (Q:VK),Inv X bE Y H s->RelV x v->bG xs us->r x xs H Q ->
  wpAny (model X.prog X.w) X.A (call (.builtin id) (v::us)) (EP X bE Y Q) X.xe s
section
variable{X:Cx}{a b:Expr}{ta tb:TE}{pos:Pos}
theorem gh.or{r r':R2}(h:gh X r)(h':gh X r'):gh X (λx y H Q=>r x y H Q\/r' x y H Q):=by
 intro value cT bE s Y H x y v u Q I rx ry q hs;rcases q with q|q
 .exact h value cT bE s Y H x y v u Q I rx ry q hs
 .exact h' value cT bE s Y H x y v u Q I rx ry q hs
theorem Rw{r:R2}(hr:gh X r)(ha:PE X a ta)(hb:PE X b tb)(hs:O3 b):PE X (.Subscript a b pos) (iL r ta tb):=by intro bE s Y H Q I h;exact Subscript_ (K6 ha hb I h λv u s2 x y H2 I2 rx ry q=>hr a b bE s2 Y H2 x y v u Q I2 rx ry q (hs _ _))
def N9(K:Ad):R2:=λx y H Q=>∃p xs i v,x=.ref p/\y=.int i/\cm K H p xs/\hU xs i=some v/\Q v H
def NZ(K:Ad):R2:=λx y H Q=>∃p xs i v,x=.ref p/\y=.int i/\cE K H p xs/\hU xs i=some v/\Q v H
def N3:R2:=λx y H Q=>∃z i c,x=.str z/\y=.int i/\z.length<=sizeLine/\hU z.cps.toList i=some c/\Q (.str ⟨#[c]⟩) H
theorem TZ:gh X (N9 X.K):=by
 intro value cT bE s Y H x y v u Q I rx ry h hs;obtain⟨p,xs,i,z,rfl,rfl,hq,he,q⟩:=h;cases rx;obtain⟨t,rfl⟩:=ry;obtain⟨its,r,pl,hz⟩:=I.list hq;obtain⟨j,h1,h2,h3,h4,h5⟩:=LK he;obtain⟨w,ew,rw'⟩:=r.get h2;have hl:=r.length;have hn:=Fz;have ck:EP X bE Y Q w s:=⟨z,H,I,rw',q⟩
 by_cases h0:0<=i
 .have hj:i.toNat=j:=by
   rw[seqIndex_of h0 h5]at h1;exact BH h1
  exact item_listR pl.isList h0 (by omega) (by rw[hj];simpa using ew) ck hs
 .have hj:(i+(its.toArray.size:Int)).toNat=j:=by
   rw[seqIndex_neg (by omega) h4]at h1;rw[Au,<-hl];exact BH h1
  exact subscriptTail_builtinR (x:=w) pl.isList.typeIs slot_list_getitem.lookup
   (wpAny_getItem_list_neg (Q:=λr s'=>r=w/\EP X bE Y Q r s') pl.isList (by omega) (by rw[Au]<;>omega) (by omega) (by rw[hj];simpa using ew) ⟨rfl,ck⟩) hs
theorem Sv:gh X (NZ X.K):=by
 intro value cT bE s Y H x y v u Q I rx ry h hs;obtain⟨p,xs,i,z,rfl,rfl,hq,he,q⟩:=h;cases rx;obtain⟨t,rfl⟩:=ry;obtain⟨its,r,pl,hz⟩:=I.tuple hq;obtain⟨j,h1,h2,h3,h4,h5⟩:=LK he;obtain⟨w,ew,rw'⟩:=r.get h2;have hl:=r.length;have hn:=Fz;have ck:EP X bE Y Q w s:=⟨z,H,I,rw',q⟩;exact subscriptTail_builtinR (x:=w) pl.typeIs slot_tuple_getitem.lookup
  (getItem_tuple (j:=j) (Q:=λr s'=>r=w/\EP X bE Y Q r s') pl (by omega) (by omega) (by rw[Au,<-hl];exact h1) (by simpa using ew) ⟨rfl,ck⟩) hs
theorem So:gh X N3:=by
 intro value cT bE s Y H x y v u Q I rx ry h hs;obtain⟨z,i,c,rfl,rfl,hz,he,q⟩:=h;obtain⟨t,rfl⟩:=rx;obtain⟨t',rfl⟩:=ry;obtain⟨j,h1,h2,h3,h4,h5⟩:=LK he;have hl:z.cps.toList.length=z.length:=by simp[Str.length]
 rw[hl]at h1 h4 h5;have hn:=Fz;exact tail_any (typeIs_str s z t) slot_str_getitem.lookup (getItem_str (c:=c) (by have e1:decide (i < -(2 ^ 63:Int))=false:=decide_eq_false (by omega);have e2:decide (i ≥ 2 ^ 63)=false:=decide_eq_false (by omega);rw[e1,e2,Ik]) (by rw[h1];simpa using h2) ⟨.str ⟨#[c]⟩,H,I.tok _,⟨_,rfl⟩,q⟩) hs
def mQ(K:Ad):R2:=λx y H Q=>N9 K x y H Q\/NZ K x y H Q\/N3 x y H Q
theorem Sf:gh X (mQ X.K):=TZ.or (Sv.or So)
theorem WK(its:List Value)(n j:Nat)(u:Value):Er (·.setIfInBounds j u) {cls:=.type "list",data:=.seq its.toArray n}={cls:=.type "list",data:=.seq (its.set j u).toArray n}:=by simp[Er]
theorem Inv.lst{bE:List (Addr×Obj)}{Y:St}{H:J}{s:Shared}{p:Addr}{xs:List V}(I:Inv X bE Y H s)(h:H p=some (.lst xs)):∃(its:List Value) (n:Nat),bG xs its/\s.heap.get? p=some {cls:=.type "list",data:=.seq its.toArray n}/\xs.length<=sizeLine:=by
 obtain⟨z,its,n,r,e⟩:=I.hok p _ h;exact⟨its,n,r,e,z⟩
theorem Inv.lstUpd{p:Addr}{xs ys:List V}{its its':List Value}{n':Nat}{f:Obj->Obj}(I:Inv X bE Y H s)(h:H p=some (.lst xs))(ho:s.heap.get? p=some {cls:=.type "list",data:=.seq its.toArray n})(hf:f {cls:=.type "list",data:=.seq its.toArray n}={cls:=.type "list",data:=.seq its'.toArray n'})(r:bG ys its')(hz:ys.length<=sizeLine)(t:Nat):Inv X bE Y (upd H p (.lst ys)) {s with heap:=s.heap.update p f,toks:=t}:=by
 have e:(s.heap.update p f).get? p=some {cls:=.type "list",data:=.seq its'.toArray n'}:=by rw[Es f ho (by rw[hf]<;>rfl),hf]
 refine I.write (x:=p) (e:=p) (by rw[h];trivial) (.inl rfl) (λb u hb q=>(Nx _ _ (Az hb)).trans q) ⟨_,e⟩ ?_;exact⟨hz,its',n',r,e⟩
def SN:V->V->V->J->(J->Prop)->Prop:=λo i v H Q=>∃p xs k j,o=.ref p/\i=.int k/\H p=some (.lst xs)/\eQ xs.length k=some j/\Q (upd H p (.lst (xs.set j v)))
theorem fJ:N2 X SN:=by
 intro bE s Y H o i v ov iv u Q I ro ri rv h;obtain⟨p,xs,k,j,rfl,rfl,hp,hj,q⟩:=h;cases ro;obtain⟨t,rfl⟩:=ri;obtain⟨its,n,r,ho,hz⟩:=I.lst hp;obtain⟨h1,h2,h3,h4⟩:=OV hj;have hl:=r.length;have hn:=Fz;have I':Inv X bE Y (upd H p (.lst (xs.set j v))) {s with heap:=s.heap.update p (Er (·.setIfInBounds j u))} :=
  I.lstUpd hp ho (WK its n j u) (r.set rv j) (by rw[B6];exact hz) s.toks
 by_cases h0:0<=k
 .have hk:k.toNat=j:=by
   rw[seqIndex_of h0 h4]at h1;exact BH h1
  exact PySem.W.ki_setAt ho h0 (by omega) (by rw[Au,<-hl];exact h4) (by rw[hk];exact⟨_,I',q⟩)
 .have hk:(k+(its.toArray.size:Int)).toNat=j:=by
   rw[seqIndex_neg (by omega) h3]at h1;rw[Au,<-hl];exact BH h1
  exact PySem.W.ki_setBack ho (by omega) (by rw[Au,<-hl];exact h3) (by omega) (by rw[hk];exact⟨_,I',q⟩)
theorem X5(lo hi:Option Int)(n:Nat):(El lo hi none n).1=((HT.iM n 0 lo:Nat):Int)/\(El lo hi none n).2.1=((HT.iM n n hi:Nat):Int)/\(El lo hi none n).2.2=1:=by
 refine⟨?_,?_,rfl⟩
 .cases lo with
  |none=>simp[El,HT.iM]
  |some i =>
   simp only[El,HT.iM,Option.getD_none,show(1:Int) > 0 by decide,if_true]
   by_cases h:i<0
   .simp only[h,if_true]<;>omega
   .simp only[h,if_false]<;>omega
 .cases hi with
  |none=>simp[El,HT.iM]
  |some i =>
   simp only[El,HT.iM,Option.getD_none,show(1:Int) > 0 by decide,if_true]
   by_cases h:i<0
   .simp only[h,if_true]<;>omega
   .simp only[h,if_false]<;>omega
theorem YA(its:List Value)(lo hi:Option Int):slicePick its.toArray lo hi none=((its.drop (HT.iM its.length 0 lo)).take (HT.iM its.length its.length hi-HT.iM its.length 0 lo)).toArray:=by obtain⟨h1,h2,h3⟩:=X5 lo hi its.toArray.size;unfold slicePick;rw[h1,h2,h3];simp only[sliceRange_one,pick_run,Au]<;>rfl
def RY(K:Ad):V->Option Int->Option Int->J->VK->Prop:=λx lo hi H Q=>∃a xs,x=.ref a/\cm K H a xs/\∀p,H p=none->Q (.ref p) (upd H p (.lst (GN xs lo hi)))
theorem Tt:mr X (RY X.K):=by intro bE s Y H x v vl vu lo hi sl Q I rx hs pl pu h;obtain⟨a,xs,rfl,hx,q⟩:=h;cases rx;obtain⟨its,r,ht,hz⟩:=I.list hx;have bK:=r.length;refine⟨"list",_,slot_list_getitem.lookup,ht.isList.typeIs,?_⟩;refine wpAny_getItem_list_slice ht.isList hs pl pu .none (by simp) ?_ (by rw[Au]<;>omega);rw[YA,<-bK];refine⟨.ref s.heap.objs.size,_,I.laid (t':=s.toks) (o:=.lst (GN xs lo hi)) (λb ob q=>As _ q) (Ag _) ?_,rfl,q _ (I.hok.fresh (Ag _))⟩;exact⟨BE (Xz xs lo hi) hz,_,0,(r.drop (HT.iM xs.length 0 lo)).take (HT.iM xs.length xs.length hi-HT.iM xs.length 0 lo),AI _ rfl⟩
def C9:V->Bool
 | .non=>true
 | .bl _=>true
 | .int _=>true
 | .str _=>true
 |_=>false
def gP:V->V->Bool
 | .non,.non=>true
 | .bl a,.bl b=>a==b
 | .bl a,.int b=>(if a then 1 else 0)==b
 | .int a,.bl b=>a==(if b then 1 else 0)
 | .int a,.int b=>a==b
 | .str a,.str b=>a==b
 |_,_=>false
theorem Sa{A:Around}{v:Value}(ry:RelV y u)(rx:RelV x v)(fy:C9 y=true)(fx:C9 x=true):SeqAt.EqAt A s u v (gP y x):=by
 cases y with
 |non =>
  cases ry;cases x with
  |non=>cases rx;exact SeqAt.EqAt.same _
  |bl b=>cases rx;exact SeqAt.EqAt.none_bool b
  |int b=>obtain⟨t,rfl⟩:=rx;exact SeqAt.EqAt.none_int b t
  |str b=>obtain⟨t,rfl⟩:=rx;exact SeqAt.EqAt.none_str b t
  |_=>exact absurd (show false=true from fx) Bp
 |bl a =>
  cases ry;cases x with
  |non=>cases rx;exact SeqAt.EqAt.bool_none a
  |bl b=>cases rx;exact SeqAt.EqAt.bool_bool a b
  |int b=>obtain⟨t,rfl⟩:=rx;exact SeqAt.EqAt.bool_int a b t
  |str b=>obtain⟨t,rfl⟩:=rx;exact SeqAt.EqAt.bool_str a b t
  |_=>exact absurd (show false=true from fx) Bp
 |int a =>
  obtain⟨t',rfl⟩:=ry;cases x with
  |non=>cases rx;exact SeqAt.EqAt.int_none a t'
  |bl b=>cases rx;exact SeqAt.EqAt.int_bool a t' b
  |int b=>obtain⟨t,rfl⟩:=rx;exact SeqAt.EqAt.int_int a t' b t
  |str b=>obtain⟨t,rfl⟩:=rx;exact NI a t' b t
  |_=>exact absurd (show false=true from fx) Bp
 |str a =>
  obtain⟨t',rfl⟩:=ry;cases x with
  |non=>cases rx;exact SeqAt.EqAt.str_none a t'
  |bl b=>cases rx;exact SeqAt.EqAt.str_bool a t' b
  |int b=>obtain⟨t,rfl⟩:=rx;exact NH a t' b t
  |str b=>obtain⟨t,rfl⟩:=rx;exact SeqAt.EqAt.str_str a t' b t
  |_=>exact absurd (show false=true from fx) Bp
 |_=>exact absurd (show false=true from fy) Bp
def f7(x:V)(u:Value):Bool:=match u with
 | .none=>gP .non x
 | .bool b=>gP (.bl b) x
 | .int i _=>gP (.int i) x
 | .str z _=>gP (.str z) x
 |_=>false
theorem OB(r:RelV y u)(f:C9 y=true):f7 x u=gP y x:=by
 cases y with
 |non=>cases r;rfl
 |bl b=>cases r;rfl
 |int i=>obtain⟨t,rfl⟩:=r;rfl
 |str z=>obtain⟨t,rfl⟩:=r;rfl
 |_=>exact absurd (show false=true from f) Bp
theorem LG{x:V}:∀{xs:List V} {us:List Value},bG xs us->xs.all C9=true->us.any (f7 x)=xs.any λy=>gP y x
 |_,_,.nil,_=>rfl
 |y::xs,u::us,.cons r t,f=>by rw[Kl,BJ]at f;rw[Eh,Eh,OB r f.1,LG t f.2]
theorem LW{A:Around}{s:Shared}{x:V}{v:Value}(rx:RelV x v)(fx:C9 x=true):∀{xs:List V} {us:List Value},bG xs us->xs.all C9=true->∀u∈us,SeqAt.EqAt A s u v (f7 x u)
 |_,_,.nil,_=>λu hu=>by cases hu
 |y::xs,u::us,.cons r t,f=>λu' hu=>by
  rw[Kl,BJ]at f;rcases Aw.mp hu with rfl|hu
  .rw[OB r f.1];exact Sa r rx f.1 fx
  .exact LW rx fx t f.2 u' hu
def jG(x:V)(xs:List V):Bool:=xs.any λy=>gP y x
def j7(K:Ad)(gF:Bool):R2:=λx y H Q=>∃p xs,y=.ref p/\(cm K H p xs\/cE K H p xs)/\C9 x=true/\xs.all C9=true/\Q (.bl (if gF then !jG x xs else jG x xs)) H
theorem Qq:cN X (BG .In) (j7 X.K false):=by
 intro bE s Y H x y v u Q I rx ry h;obtain⟨p,xs,rfl,hq,fx,fs,q⟩:=h;cases ry;rcases hq with hq|hq
 .obtain⟨its,r,pl,hz⟩:=I.list hq
  refine SeqAt.in_listAt (f7 x) pl.isList (λw hw=>LW rx fx r fs w (by simpa using hw)) ⟨.bl _,H,I,rfl,?_⟩;rw[show its.toArray.any (f7 x)=its.any (f7 x) by simp,LG r fs];exact q
 .obtain⟨its,r,pl,hz⟩:=I.tuple hq
  refine SeqAt.in_tupleAt (f7 x) pl (λw hw=>LW rx fx r fs w (by simpa using hw)) ⟨.bl _,H,I,rfl,?_⟩;rw[show its.toArray.any (f7 x)=its.any (f7 x) by simp,LG r fs];exact q
theorem XQ:AJ X (.builtin "len") (λxs H Q=>∃p ys,xs=[.ref p]/\(cm X.K H p ys\/cE X.K H p ys)/\Q (.int ys.length) H):=by
 intro bE s Y H xs us Q I r h;obtain⟨p,ys,rfl,hq,q⟩:=h;obtain⟨u,rfl,rx⟩:=vals1 r;cases rx;have hn:=Fz;rcases hq with hq|hq
 .obtain⟨its,r',pl,hz⟩:=I.list hq
  have bK:=r'.length;exact Calls.call_len_list pl.isList (by simp only[Au]<;>omega) ⟨.int ys.length,H,I.tok _,⟨s.toks+1,by rw[Au,bK]⟩,q⟩
 .obtain⟨its,r',pl,hz⟩:=I.tuple hq
  have bK:=r'.length;exact len_tuple pl (by simp only[Au]<;>omega) ⟨.int ys.length,H,I.tok _,⟨s.toks+1,by rw[Au,bK]⟩,q⟩
theorem AJ.or{f:Value}{r r':List V->J->VK->Prop}(h:AJ X f r)(h':AJ X f r'):AJ X f (λxs H Q=>r xs H Q\/r' xs H Q):=by
 intro bE s Y H xs us Q I rs q;rcases q with q|q
 .exact h bE s Y H xs us Q I rs q
 .exact h' bE s Y H xs us Q I rs q
theorem XY:AJ X (.type "list") (λxs H Q=>∃p ys,xs=[.ref p]/\(cm X.K H p ys\/cE X.K H p ys)/\∀l,H l=none->Q (.ref l) (upd H l (.lst ys))):=by
 intro bE s Y H xs us Q I r h;obtain⟨p,ys,rfl,hq,q⟩:=h;obtain⟨u,rfl,rx⟩:=vals1 r;cases rx;have ck:∀(its:List Value),bG ys its->ys.length<=sizeLine->∀(h':Heap) (c':Nat),(∀b o',s.heap.get? b=some o'->h'.get? b=some o') ->
   h'.get? s.heap.objs.size=some {cls:=.type "list",dict:=none,data:=.seq its.toArray c',slots:=#[]}->EP X bE Y Q (.ref s.heap.objs.size) {s with heap:=h'}:=λits r' hz h' c' kp e =>
  ⟨.ref s.heap.objs.size,_,I.laid (t':=s.toks) kp (Ag _) (show ZU X.prog X.w _ h' _ (.lst ys) from⟨hz,its,c',r',e⟩),rfl,q _ (I.hok.fresh (Ag _))⟩
 rcases hq with hq|hq
 .obtain⟨its,r',pl,hz⟩:=I.list hq
  have bK:=r'.length;obtain⟨o,ho,hc,n,hd⟩:=pl.isList;exact call_list_seq p (.inl rfl) ho hc hd (λh' c' kp e=>ck its r' hz h' c' kp e) (by simp only[Au]<;>omega)
 .obtain⟨its,r',pl,hz⟩:=I.tuple hq
  have bK:=r'.length;obtain⟨o,ho,hc,n,hd⟩:=pl;exact call_list_seq p (.inr rfl) ho hc hd (λh' c' kp e=>ck its r' hz h' c' kp e) (by simp only[Au]<;>omega)
theorem X7:AJ X (.type "tuple") (λxs H Q=>∃p ys,xs=[.ref p]/\((cm X.K H p ys/\∀l,H l=none->Q (.ref l) (upd H l (.tup ys)))\/(cE X.K H p ys/\Q (.ref p) H))):=by
 intro bE s Y H xs us Q I r h;obtain⟨p,ys,rfl,h⟩:=h;obtain⟨u,rfl,rx⟩:=vals1 r;cases rx;rcases h with⟨hq,q⟩|⟨hq,q⟩
 .obtain⟨its,r',pl,hz⟩:=I.list hq
  have bK:=r'.length;refine call_tuple_list pl.isList (λh' kp=>?_) (by simp only[Au]<;>omega);have I1:Inv X bE Y H {s with heap:=h'}:=I.kept (t':=s.toks) kp;have I2:Inv X bE Y (upd H h'.objs.size (.tup ys)) {s with heap:=h'.push {cls:=.type "tuple",data:=.seq its.toArray}} :=
   I1.laid (t':=s.toks) (λb o e=>As _ e) (Ag _) (show ZU X.prog X.w _ _ _ (.tup ys) from⟨hz,its,r',IsTup.new _ _⟩)
  exact⟨.ref h'.objs.size,_,I2,rfl,q _ (I1.hok.fresh (Ag _))⟩
 .obtain⟨its,r',pl,hz⟩:=I.tuple hq
  exact call_tuple_same pl ⟨.ref p,H,I,rfl,q⟩
def lC(K:Ad)(T:String)(x:V)(H:J):Prop:=match x with
 | .str _=>T = "str"
 | .int _=>T = "int"
 | .ref p=>(T = "list"/\∃xs,cm K H p xs)\/(T = "tuple"/\∃o,K.lookup p=some o/\o.cls=.type "tuple"/\o.dict=none) \/
   (T = "dict"/\((∃kvs,H p=some (.dK kvs))\/∃kvs,H p=some (.dT kvs)))\/(T = "set"/\∃oH n,H p=some (.set oH n))
 |_=>False
theorem SI{T:String}{v:Value}(I:Inv X bE Y H s)(r:RelV x v)(ty:lC X.K T x H):s.TypeIs v T/\∀a,v=.ref a->∃ob,s.heap.get? a=some ob/\ob.dict=none:=by
 cases x with
 |str z=>obtain⟨t,rfl⟩:=r;cases(show T = "str" from ty);exact⟨typeIs_str s z t,λ_ e=>nomatch e⟩
 |int i=>obtain⟨t,rfl⟩:=r;cases(show T = "int" from ty);exact⟨Gh s i t,λ_ e=>nomatch e⟩
 |ref p =>
  cases r;rcases ty with⟨rfl,xs,hq⟩|⟨rfl,o,hk,hc,hd⟩|⟨rfl,hk⟩|⟨rfl,oH,n,hk⟩
  .obtain⟨its,_,pl,_⟩:=I.list hq
   refine⟨pl.isList.typeIs,λa e=>?_⟩;cases e;obtain⟨o,n,e,c,hd,_⟩:=pl;exact⟨o,e,hd⟩
  .refine⟨⟨o,I.kIn p o hk,hc⟩,λa e=>?_⟩
   cases e;exact⟨o,I.kIn _ o hk,hd⟩
  .have z:∃o,s.heap.get? p=some o/\o.ExactDict:=by
    rcases hk with⟨kvs,hk⟩|⟨kvs,hk⟩
    .obtain⟨_,_,_,_,o,_,_,e,ex,_⟩:=I.hok p _ hk
     exact⟨o,e,ex⟩
    .obtain⟨_,_,_,_,o,_,_,e,ex,_⟩:=I.hok p _ hk
     exact⟨o,e,ex⟩
   obtain⟨o,e,ex⟩:=z;refine⟨⟨o,e,ex.1⟩,λa e2=>?_⟩;cases e2;exact⟨o,e,ex.2.1⟩
  .obtain⟨o,_,_,_,e,ex,_⟩:=I.hok p _ hk
   refine⟨⟨o,e,ex.1⟩,λa e2=>?_⟩;cases e2;exact⟨o,e,ex.2.1⟩
 |_=>exact CD ty
def j6(K:Ad)(T:String)(r:V->List V->J->VK->Prop)(to:TE)(t:TA):TE:=λY H Q=>to Y H λx H1=>lC K T x H1/\t Y H1 λxs H2=>r x xs H2 Q
variable{o e:Expr}{es:List Expr}{to:TE}{t:TA}{name:Str}{dU cB:Pos}{T id:String}{r:V->List V->J->VK->Prop}
theorem Oj(pa:PlainAttrs T)(slot:Slot T name id)(nh:typeOf (.builtin id)=pure (.type "method_descriptor"))(hm:om X id r)(ho:PE X o to)(ha:PA X (e::es) t)(cW:Gb o name X.env (eval o X.env)=eval o X.env:=by rfl)
  (c5:((backTo cB (Af (e::es) X.env)).all (λx=>!x.1)&&(backToKw cB (Gd [] X.env)).all (λx=>x.1.isSome)
   && decide ((e::es).length+([]:List Keyword).length+(if([]:List Keyword).isEmpty then 0 else 1)<30))=true:=by rfl)
  (cU:(dU.endLine==cB.line)=true:=by rfl)(hs:Af (e::es) X.env=(false,eval e X.env)::Af es X.env:=by rfl)(ij:(backTo cB (Af es X.env)).any (·.1)=false:=by rfl):
  PE X (.Call (.Attribute o name dU) (e::es) [] cB) (j6 X.K T r to t):=by
 intro bE s Y H Q I h;refine wpAny_Call_method_late cW c5 cU rfl (bM (ho bE s Y H _ I h) λv s1 ⟨x,H1,I1,r1,ty,q1⟩=>?_);obtain⟨h1,h2⟩:=SI I1 r1 ty;refine⟨T,id,pa,slot,nh,h1,h2,?_⟩;have hA:=ha cB bE s1 Y H1 _ I1 q1;rw[hs]at hA ⊢;refine Nw (by show(false||(backTo cB (Af es X.env)).any (·.1))=false;rw[ij]<;>rfl) (NL ?_);exact bM hA λus s2 ⟨vs,H2,I2,r2,q2⟩=>hm bE s2 Y H2 x vs v us Q I2 r1 r2 q2
end
end
section
variable{its:List Value}{n t':Nat}
def oo(X:Cx)(id:String)(r:V->List V->J->VK->Prop):Prop :=
 ∀(bE:List (Addr×Obj)) (s:Shared) (Y:St) (H:J) (x:V) (xs:List V) (v:Value) (us:List Value) (Q:VK),Inv X bE Y H s->RelV x v->bG xs us->r x xs H Q ->
  wpAny (model X.prog X.w) X.A (call (.builtin id) (v::us)) (EP X bE Y Q) X.xe s
theorem bG.one:∀{x:V} {us:List Value},bG [x] us->∃u,us=[u]/\RelV x u
 |_,_,.cons r .nil=>⟨_,rfl,r⟩
theorem bG.rep{xs:List V}{us:List Value}(h:bG xs us):∀k:Nat,bG (Al k xs).flatten (Al k us).flatten
 |0=>.nil
 |k+1=>by rw[Ex,Ex,Fl,Fl];exact bG.append h (bG.rep h k)
theorem foldl_rep(its:List Value):∀(k:Nat) (acc:List Value),Gg (λx1 x2=>x1++x2) acc.toArray (Al k its.toArray)=(acc++(Al k its).flatten).toArray
 |0,acc=>by simp
 |k+1,acc=>by
  have e:acc.toArray++its.toArray=(acc++its).toArray:=by simp
  have e2:(acc++its)++(Al k its).flatten=acc++(Al (k+1) its).flatten:=by rw[Ex,Fl,CO]
  rw[<-e2,<-foldl_rep its k (acc++its),<-e,Ex,List.foldl_cons]
section
variable{X:Cx}{bE:List (Addr×Obj)}{Y:St}{H:J}{s:Shared}{l b:Addr}{xs ys zs:List V}
theorem Inv.lset{its':List Value}{f:Array Value->Array Value}(I:Inv X bE Y H s)(hH:H l=some (.lst xs))(e:s.heap.get? l=some {cls:=.type "list",data:=.seq its.toArray n})(hf:f its.toArray=its'.toArray)(hv:bG ys its')(hz:ys.length<=sizeLine):Inv X bE Y (upd H l (.lst ys)) {s with heap:=s.heap.update l (Er f),toks:=t'}:=by
 have q:=PySem.IsL.update e f;rw[hf]at q;refine I.write (x:=l) (e:=l) (by rw[hH];exact trivial) (.inl rfl) (λb' u hb hu=>(Nx s.heap (Er f) (Az hb)).trans hu) ⟨_,q⟩ ?_;exact⟨hz,its',_,hv,q⟩
theorem Inv.lnew(I:Inv X bE Y H s)(hv:bG ys its)(hz:ys.length<=sizeLine):Inv X bE Y (upd H s.heap.objs.size (.lst ys)) {s with heap:=s.heap.push {cls:=.type "list",data:=.seq its.toArray},toks:=t'} :=
 I.laid (λ_ _ q=>As _ q) (Ag _) ⟨hz,its,0,hv,AI _ rfl⟩
theorem Inv.fresh(I:Inv X bE Y H s):H s.heap.objs.size=none:=I.hok.fresh (Ag _)
theorem Inv.lstM(I:Inv X bE Y H s)(hH:H l=some (.lst xs)):xs.length<=sizeLine/\∃(its:List Value) (n:Nat),bG xs its/\xs.length=its.length/\s.heap.get? l=some {cls:=.type "list",data:=.seq its.toArray n}:=by obtain⟨z,its,n,r,e⟩:=I.hok l _ hH;exact⟨z,its,n,r,r.length,e⟩
theorem VR(h:n<=sizeLine):KO n=false:=by unfold KO;exact decide_eq_false (by omega)
end
section
variable{X:Cx}
def LB:V->List V->J->VK->Prop:=λx vs H Q=>∃l xs y,x=.ref l/\vs=[y]/\H l=some (.lst xs)/\xs.length<sizeLine/\Q .non (upd H l (.lst (xs++[y])))
theorem Mp:oo X "list.append" LB:=by intro bE s Y H x vs v us Q I rx rv h;obtain⟨l,xs,y,rfl,rfl,hH,hz,q⟩:=h;cases rx;obtain⟨u,rfl,ru⟩:=rv.one;obtain⟨z,its,n,r,hl,e⟩:=I.lstM hH;refine call_meets F.slot_list_append ⟨_,e,rfl⟩ F.entry_list_append (F.args_list_append_2 _ _) (PySem.list_append l its.toArray n u (by rw[Au];omega)) ⟨e,?_⟩;refine⟨.non,_,I.lset (its':=its++[u]) hH e (by simp) (r.append (.cons ru .nil)) ?_,rfl,q⟩;rw[AH,Iq];omega
def RU:R2:=λx y H Q=>∃l b xs zs,x=.ref l/\y=.ref b/\H l=some (.lst xs)/\H b=some (.lst zs)/\xs.length+zs.length<=sizeLine/\∀p,H p=none->Q (.ref p) (upd H p (.lst (xs++zs)))
theorem TB:cN X (Cf .Add) RU:=by
 intro bE s Y H x y v u Q I rx ry h;obtain⟨l,b,xs,zs,rfl,rfl,hH,hB,hz,q⟩:=h;cases rx;cases ry;obtain⟨z,its,n,r,hl,e⟩:=I.lstM hH;obtain⟨z2,el,n2,r2,fX,e2⟩:=I.lstM hB;refine PySem.P.add_list e e2 ?_ (by rw[Au,Au];omega);have ea:its.toArray++el.toArray=(its++el).toArray:=by simp
 rw[ea];exact⟨.ref _,_,I.lnew (t':=s.toks) (r.append r2) (by rw[AH];omega),rfl,q _ I.fresh⟩
def RS:R2:=λx y H Q=>∃l k xs,x=.ref l/\y=.int k/\H l=some (.lst xs)/\-(2 ^ 63)<=k/\k<2 ^ 63/\xs.length*k.toNat<=sizeLine /\
 ∀p,H p=none->Q (.ref p) (upd H p (.lst (Al k.toNat xs).flatten))
theorem eI{α:Type}(xs:List α)(k:Nat):(Al k xs).flatten.length=k*xs.length:=by
 induction k with
 |zero=>simp
 |succ k ih=>rw[Ex,Fl,AH,ih,Nat.succ_mul,HH]
theorem R8:cN X (Cf .Mult) RS:=by
 intro bE s Y H x y v u Q I rx ry h;obtain⟨l,k,xs,rfl,rfl,hH,h1,h2,hz,q⟩:=h;cases rx;obtain⟨t,rfl⟩:=ry;obtain⟨z,its,n,r,hl,e⟩:=I.lstM hH;have bK:its.toArray.size*k.toNat<=sizeLine:=by rw[Au,<-hl];exact hz
 have gx:¬its.toArray.size*k.toNat > (2 ^ 63-1) / 8:=by
  have:(sizeLine:Nat)<=(2 ^ 63-1) / 8:=by decide
  omega
 have gs:¬(!Builtin.List.listFitsIndex k)=true:=by rw[fitsIndex_both h1 h2];exact Bp
 have jq:¬KO (its.toArray.size*k.toNat)=true:=by rw[VR bK];exact Bp
 have la:Gg (λx1 x2=>x1++x2) #[] (Al (if its.toArray.isEmpty=true then 0 else k.toNat) its.toArray)=(Al k.toNat its).flatten.toArray:=by
  have f0:∀m:Nat,Gg (λx1 x2=>x1++x2) #[] (Al m its.toArray)=(Al m its).flatten.toArray:=λm=>by have:=foldl_rep its m [];rw[HQ]at this;exact this
  rw[f0];cases its with
  |nil=>simp
  |cons a r'=>rw[if_neg (by simp)]
 refine wpAny_binaryOp_repeat_ref (T:="list") (U:="int") (by decide) ⟨_,e,rfl⟩ (λs'=>Gh s' k t) noFill_list_mul F.fills_int_mul F.slot_int_rmul repeat_list F.slot_int_index.lookup
  (call_meets F.slot_int_rmul (Gh s k t) F.entry_int_rmul (F.args_int_rmul_2 _ _) (int___rmul___int_list k t l its.toArray n)
   ⟨e,rfl,⟨_,e,rfl⟩,call_meets F.slot_list_mul ⟨_,e,rfl⟩ F.entry_list_mul (F.args_list_mul_2 _ _) (AutoListH.list___mul___list_int_3 l its.toArray n k t gs gx jq) ⟨e,?_⟩⟩)
 rw[la];exact⟨.ref _,_,I.lnew (t':=s.toks) (r.rep k.toNat) (by rw[eI,Nat.mul_comm];exact hz),rfl,q _ I.fresh⟩
end
end
section
variable{X:Cx}{h':Heap}{H H':J}{xs:List (List bO×Addr×Value)}{kvs:List (List bO×V)}{pos:Pos}{P:Program}{y:V}{u:Value}{Q:Value->Shared->Prop}
section
variable{κ:Type}[DecidableEq κ]
def B0(kvs:List (κ×V))(k:κ):Option V:=(kvs.find? λkv=>decide (kv.1=k)).map (·.2)
def cj(kvs:List (κ×V))(k:κ)(v:V):List (κ×V) :=
 if(kvs.any λkv=>decide (kv.1=k))=true then kvs.map (λkv=>if kv.1=k then(kv.1,v)else kv)else kvs++[(k,v)]
theorem Jx{p:κ×V}{r:List (κ×V)}{k:κ}(e:p.1=k):B0 (p::r) k=some p.2:=by simp[B0,CA,e]
theorem Jy{p:κ×V}{r:List (κ×V)}{k:κ}(e:¬p.1=k):B0 (p::r) k=B0 r k:=by simp[B0,CA,e]
theorem Pq(k:κ):∀kvs:List (κ×V),(kvs.any λkv=>decide (kv.1=k))=(B0 kvs k).isSome
 |[]=>rfl
 |p::r=>by
  rw[Eh]
  by_cases e:p.1=k
  .simp only[Jx e,decide_eq_true e,Bool.true_or,Option.isSome_some]
  .rw[Jy e,decide_eq_false e,Fi];exact Pq k r
theorem Mw(kvs:List (κ×V))(k:κ)(v:V):(cj kvs k v).length<=kvs.length+1:=by
 unfold cj;split
 .rw[Ae];omega
 .rw[AH,AL,List.length_nil];omega
theorem Ft.isSome_eq{o:Option V}{u:Option Value}(r:Ft o u):o.isSome=u.isSome:=by
 cases o with
 |none=>cases u with
  |none=>rfl
  |some _=>exact(show False from r).elim
 |some _=>cases u with
  |none=>exact(show False from r).elim
  |some _=>rfl
theorem KV.val{kvs:List (κ×V)}{vs:List (κ×Value)}(r:KV kvs vs)(k:κ):Ft (B0 kvs k) (valueAt vs k):=by
 unfold KV at r
 induction r with
 |nil=>exact DO
 | @cons p q ps qs h t ih =>
  obtain⟨h1,h2⟩:=h
  by_cases e:p.1=k
  .have e':q.1=k:=h1.symm.trans e
   have b:valueAt (q::qs) k=some q.2:=by simp[valueAt,CA,e']
   rw[Jx e,b];exact h2
  .have e':¬q.1=k:=λz=>e (h1.trans z)
   have b:valueAt (q::qs) k=valueAt qs k:=by simp[valueAt,CA,e']
   rw[Jy e,b];exact ih
theorem KV.any{kvs:List (κ×V)}{vs:List (κ×Value)}(r:KV kvs vs)(k:κ):(kvs.any λkv=>decide (kv.1=k))=vs.any λkv=>decide (kv.1=k):=by
 unfold KV at r
 induction r with
 |nil=>rfl
 |cons h t ih=>rw[Eh,Eh,ih,h.1]
theorem KV.repl{kvs:List (κ×V)}{vs:List (κ×Value)}(r:KV kvs vs)(k:κ)(ry:RelV y u):KV (kvs.map λkv=>if kv.1=k then(kv.1,y)else kv) (vs.map λkv=>if kv.1=k then(kv.1,u)else kv):=by
 unfold KV at r ⊢
 induction r with
 |nil=>exact .nil
 | @cons p q ps qs h t ih =>
  rw[Ao,Ao];refine .cons ?_ ih;obtain⟨h1,h2⟩:=h
  by_cases e:p.1=k
  .rw[if_pos e,if_pos (h1.symm.trans e)];exact⟨h1,ry⟩
  .rw[if_neg e,if_neg (λz=>e (h1.trans z))];exact⟨h1,h2⟩
theorem KV.put{kvs:List (κ×V)}{vs:List (κ×Value)}(r:KV kvs vs)(k:κ)(ry:RelV y u):KV (cj kvs k y) (stored vs k u):=by
 unfold cj stored;rw[r.any k]
 by_cases e:(vs.any λkv=>decide (kv.1=k))=true
 .rw[if_pos e,if_pos e];exact r.repl k ry
 .rw[if_neg e,if_neg e];exact Paired.snoc r ⟨rfl,ry⟩
theorem KV.length{kvs:List (κ×V)}{vs:List (κ×Value)}(r:KV kvs vs):kvs.length=vs.length:=Ei r
end
theorem IQ{w:World}{k:bO}(r:RelV (kV k) u):(Bh P w).is k u=true:=by
 cases k with
 |inl i=>obtain⟨t,e⟩:=(show ∃t,u=BU i t from r);subst e;exact Xu P w i t
 |inr x=>obtain⟨t,e⟩:=(show ∃t,u=Value.str x t from r);subst e;exact Xq P w x t
theorem Qj{P:Program}{w:World}:∀{ks:List bO} {us:List Value},bG (ks.map kV) us->ItemsAre (Bh P w) ks us
 |[],_,r=>by rw[Ff]at r;cases r;exact .nil
 |k::ks,_,r=>by
  rw[Ao]at r;cases r with
  |cons h t=>exact .cons (IQ h) (Qj t)
abbrev KT(H:J):List (List bO×V)->List (List bO×Addr×Value)->Prop:=Paired λp q=>p.1=q.1/\H q.2.1=some (.tup (p.1.map kV))/\RelV p.2 q.2.2
theorem KT.val(r:KT H kvs xs)(k:List bO):Ft (B0 kvs k) ((atKey xs k).map (·.2)):=by
 induction r with
 |nil=>exact DO
 | @cons p q ps qs h t ih =>
  obtain⟨h1,_,h2⟩:=h
  by_cases e:p.1=k
  .have e':q.1=k:=h1.symm.trans e
   have b:atKey (q::qs) k=some q.2:=by simp[atKey,CA,e']
   rw[Jx e,b];exact h2
  .have e':¬q.1=k:=λz=>e (h1.trans z)
   have b:atKey (q::qs) k=atKey qs k:=by simp[atKey,CA,e']
   rw[Jy e,b];exact ih
theorem KT.repl(r:KT H kvs xs)(k:List bO)(ry:RelV y u):KT H (kvs.map λkv=>if kv.1=k then(kv.1,y)else kv) (xs.map (putAt k u)):=by
 induction r with
 |nil=>exact .nil
 | @cons p q ps qs h t ih =>
  rw[Ao,Ao];refine .cons ?_ ih;obtain⟨h1,h2,h3⟩:=h;unfold putAt
  by_cases e:p.1=k
  .rw[if_pos e,if_pos (h1.symm.trans e)];exact⟨h1,h2,ry⟩
  .rw[if_neg e,if_neg (λz=>e (h1.trans z))];exact⟨h1,h2,h3⟩
theorem KT.put(r:KT H kvs xs)(k:List bO){b:Addr}(hb:H b=some (.tup (k.map kV)))(ry:RelV y u):KT H (cj kvs k y) (storedH xs k b u):=by
 have e:(kvs.any λkv=>decide (kv.1=k))=(atKey xs k).isSome:=by rw[Pq,(r.val k).isSome_eq,Option.isSome_map]
 unfold cj storedH;rw[e]
 by_cases q:(atKey xs k).isSome=true
 .rw[if_pos q,if_pos q];exact r.repl k ry
 .rw[if_neg q,if_neg q];exact Paired.snoc r ⟨rfl,hb,ry⟩
theorem KT.keeps(r:KT H kvs xs)(ht:∀b ys,H b=some (.tup ys)->H' b=some (.tup ys)):KT H' kvs xs :=
 Paired.mapP r λ_ _ z=>⟨z.1,ht _ _ z.2.1,z.2.2⟩
section
variable{P:Program}{w:World}{H:J}{h:Heap}{a:Addr}
theorem Ld{u:HO}(ok:cu P w H h)(e:Rd H a u):ZU P w H h a u:=e.ok ok
theorem Lb{kvs:List (bO×V)}(ok:cu P w H h)(e:Rd H a (.dK kvs)):kvs.length<=sizeLine/\(a==A8)=false/\∃vs,KV kvs vs/\h.DictOf (Bh P w) a vs :=
 show ZU P w H h a (.dK kvs) from Ld ok e
theorem K8{kvs:List (bO×V)}(ok:cu P w H h)(e:H a=some (.dK kvs)):kvs.length<=sizeLine/\(a==A8)=false/\∃vs,KV kvs vs/\h.DictOf (Bh P w) a vs:=Lb ok (.inl e)
theorem Lq{ks:List bO}(ok:cu P w H h)(e:H a=some (.tup (ks.map kV))):(F4 (Bh P w)).is h ks a:=by obtain⟨_,its,r,o,h1,h2,n,h3⟩:=(show ZU P w H h a (.tup (ks.map kV)) from ok a _ e);exact⟨o,its.toArray,n,h1,h2,h3,by simpa using Qj r⟩
theorem Oc(ok:cu P w H h)(e:Rd H a (.dT kvs)):kvs.length<=sizeLine/\(a==A8)=false /\ ∃xs,KT H kvs xs/\h.DictOfH (F4 (Bh P w)) a xs:=by
 obtain⟨z,y,xs,r,o,es,ep,h1,h2,h3,h4,h5⟩:=(show ZU P w H h a (.dT kvs) from Ld ok e);refine⟨z,y,xs,r,o,es,ep,h1,h2,h3,h4,λx hx=>?_,h5⟩;have all:∀{l:List (List bO×V)} {m:List (List bO×Addr×Value)},KT H l m->∀x∈m,(F4 (Bh P w)).is h x.1 x.2.1:=by
  intro l m q
  induction q with
  |nil=>intro x hx;exact nomatch hx
  | @cons p q ps qs hq t ih =>
   intro x hx;rcases Aw.mp hx with e|hx
   .subst e
    exact Lq ok (by rw[<-hq.1];exact hq.2.1)
   .exact ih x hx
 exact all r x hx
theorem RC(ok:cu P w H h)(e:H a=some (.dT kvs)):kvs.length<=sizeLine/\(a==A8)=false /\ ∃xs,KT H kvs xs/\h.DictOfH (F4 (Bh P w)) a xs:=Oc ok (.inl e)
end
def K0(H:J)(a:Addr)(y:V)(r:Option V):Prop :=
 (∃kvs k,Rd H a (.dK kvs)/\y=kV k/\r=B0 kvs k)\/∃kvs k b,Rd H a (.dT kvs)/\y=.ref b/\H b=some (.tup (k.map kV))/\r=B0 kvs k
def DY(H:J)(a:Addr)(y v:V)(H':J):Prop :=
 (∃kvs k,H a=some (.dK kvs)/\y=kV k/\kvs.length<sizeLine/\H'=upd H a (.dK (cj kvs k v))) \/
 ∃kvs k b,H a=some (.dT kvs)/\y=.ref b/\H b=some (.tup (k.map kV))/\kvs.length<sizeLine/\H'=upd H a (.dT (cj kvs k v))
theorem DY.k{H:J}{a:Addr}{kvs:List (bO×V)}{k:bO}{v:V}(e:H a=some (.dK kvs))(hl:kvs.length<sizeLine):DY H a (kV k) v (upd H a (.dK (cj kvs k v))):=.inl ⟨kvs,k,e,rfl,hl,rfl⟩
theorem DY.t{a b:Addr}{k:List bO}{v:V}(e:H a=some (.dT kvs))(eb:H b=some (.tup (k.map kV)))(hl:kvs.length<sizeLine):DY H a (.ref b) v (upd H a (.dT (cj kvs k v))):=.inr ⟨kvs,k,b,e,rfl,eb,hl,rfl⟩
section
variable{X:Cx}{bE:List (Addr×Obj)}{Y:St}{H:J}{s:Shared}{a:Addr}{y v:V}{u r:Value}{o:Option V}{A:Around}{E:Value->Shared->Prop}
theorem Inv.big(I:Inv X bE Y H s):A8<s.heap.objs.size:=by have h:BD<s.heap.objs.size:=(I.mod.glob.keeps I.bk).lt;exact CU (by decide) h
theorem SX(hu:A.units+1<cLine)(I:Inv X bE Y H s)(g:K0 H a y o)(ry:RelV y u)(h:∀s',Inv X bE Y H s'->Q (.bool (!o.isSome)) s'):wpAny (model X.prog X.w) A (BG .NotIn u (.ref a)) Q E s:=by
 rcases g with⟨kvs,k,e,ey,l⟩|⟨kvs,k,b,e,ey,eb,l⟩
 .subst ey
  obtain⟨z,hd,vs,cR,dd⟩:=Lb I.hok e;refine wpAny_notIn_of (IQ ry) hd dd.mapOf ?_;rw[<-(cR.val k).isSome_eq,<-l];exact h _ (I.tok _)
 .subst ey
  cases(show u=A4 b from ry);obtain⟨z,hd,xs,cR,dd⟩:=Oc I.hok e;refine wpAny_notIn_heap (tupleKind_room_in1 hu) (Lq I.hok eb) hd dd ?_;have q:=(cR.val k).isSome_eq;rw[Option.isSome_map]at q;rw[<-q,<-l];exact h _ (I.tok _)
theorem Hd{t':Nat}{ob:HO}(I:Inv X bE Y H s)(mu:jc (H a))(hs:CV a s.heap h')(he:∃q,h'.get? a=some q)(new:ZU X.prog X.w (upd H a ob) h' a ob):Inv X bE Y (upd H a ob) {s with heap:=h',toks:=t'} :=
 I.write (x:=a) (e:=a) mu (.inl rfl) (λb q hb z=>(hs.2 b hb).trans z) he new
theorem OM{w:World}{kvs:List (bO×V)}{vs:List (bO×Value)}(z:kvs.length<=sizeLine)(hd:(a==A8)=false)(cR:KV kvs vs)(dd:h'.DictOf (Bh P w) a vs):ZU P w H' h' a (.dK kvs):=⟨z,hd,vs,cR,dd⟩
theorem WD{Q:Unit->Shared->Prop}(hu:A.units+1<cLine)(I:Inv X bE Y H s)(g:DY H a y v H')(ry:RelV y u)(rv:RelV v r)(h:∀s',Inv X bE Y H' s'->Q () s'):wpAny (model X.prog X.w) A (setItem (.ref a) u r) Q E s:=by
 rcases g with⟨kvs,k,e,ey,l,eH⟩|⟨kvs,k,b,e,ey,eb,l,eH⟩
 .subst ey eH
  obtain⟨z,hd,vs,cR,dd⟩:=K8 I.hok e;have hz:vs.length<=sizeLine:=by rw[<-cR.length];exact z
  have hl:(cj kvs k v).length<=sizeLine:=by have:=Mw kvs k v;omega
  refine wpAny_setItem_pairs (hsz:=hz) (IQ ry) dd λh' dd' hs=>h _ ?_;have he:∃q,h'.get? a=some q:=let ⟨q,_,_,hq,_⟩:=dd';⟨q,hq⟩
  exact Hd I (by rw[e];exact DO) hs he (OM hl hd (cR.put k rv) dd')
 .subst ey eH
  cases(show u=A4 b from ry);obtain⟨z,hd,xs,cR,dd⟩:=RC I.hok e;have hz:xs.length<=sizeLine:=by rw[<-Ei cR];exact z
  have hl:(cj kvs k v).length<=sizeLine:=by have:=Mw kvs k v;omega
  refine wpAny_setItem_heap (hsz:=hz) (tupleKind_room_in1 hu) (Lq I.hok eb) dd λh' dd' hs=>h _ ?_;obtain⟨q,es,ep,hq,h2,h3,h4,_,h5⟩:=dd';refine Hd I (by rw[e];exact DO) hs ⟨q,hq⟩ ⟨hl,hd,_,(cR.put k eb rv).keeps λc ys ec=>?_,q,es,ep,hq,h2,h3,h4,h5⟩;rw[Zu (RI ec e (λz=>nomatch z))];exact ec
end
section
variable{X:Cx}{bE:List (Addr×Obj)}{Y:St}{H:J}{s:Shared}{a:Addr}{kvs:List (bO×V)}{k:bO}{u:Value}{A:Around}{E:Value->Shared->Prop}
theorem RB(I:Inv X bE Y H s)(e:Rd H a (.dK kvs))(h:∀t s',Inv X bE Y H s'->Q (.int kvs.length t) s'):wpAny (model X.prog X.w) A (call (.builtin "len") [.ref a]) Q E s:=by obtain⟨z,hd,vs,cR,dd⟩:=Lb I.hok e;refine call_len_dict hd dd (by rw[<-cR.length];rw[Bo]at z;omega) ?_;rw[<-cR.length];exact h _ _ (I.tok _)
end
def U0(ty td:TE):TE:=λY H Q=>ty Y H λy H1=>td Y H1 λx H2=>∃a o,x=.ref a/\K0 H2 a y o/\Q (.bl (!o.isSome)) H2
def Rz(td ty tv:TE):TS:=λD Y H=>tv Y H λv H1=>td Y H1 λx H2=>ty Y H2 λy H3=>∃a H4,x=.ref a/\DY H3 a y v H4/\D.nx Y H4
section
variable{X:Cx}{o i e value:Expr}{pos pos' oA:Pos}{td ty tv:TE}
theorem V1(hu:X.A.units+1<cLine)(hi:PE X i ty)(ho:PE X o td):PC X .NotIn i o (U0 ty td):=by intro bE s Y H Q I h;refine bM (hi bE s Y H _ I h) λiv s1 ⟨y,H1,I1,ry,q1⟩=>bM (ho bE s1 Y H1 _ I1 q1) λu s2 ⟨x,H2,I2,rx,a,ov,ex,g,q2⟩=>?_;subst ex;obtain rfl:u=A4 a:=rx;exact SX hu I2 g ry λs3 I3=>⟨.bl (!ov.isSome),H2,I3,rfl,q2⟩
theorem Pe(hu:X.A.units+1<cLine)(ho:PE X o td)(hi:PE X i ty)(hv:PE X value tv)(hs:CF value (some (.Subscript o i pos')) pos.line X.env=pure false):PS X (.Assign [.Subscript o i pos'] value pos) (Rz td ty tv):=by
 intro bE s Y H D I h;refine wpAny_Assign_Subscript (bM (hv bE s Y H _ I h) λr s1 ⟨v,H1,I1,rv,q1⟩=>bM (ho bE s1 Y H1 _ I1 q1) λu s2 ⟨x,H2,I2,rx,q2⟩=>bM (hi bE s2 Y H2 _ I2 q2) λiv s3 ⟨y,H3,I3,ry,a,H4,ex,g,q3⟩=>?_) hs;subst ex;obtain rfl:u=A4 a:=rx;exact WD hu I3 g ry rv λs4 I4=>⟨Y,H4,I4,q3⟩
end
theorem U5{w:World}(h:Heap)(hb:A8<h.objs.size):ZU P w H (h.push {cls:=.type "dict",data:=.dict #[]}) h.objs.size (.dK []) :=
 ⟨CS _,beq_eq_false_iff_ne.mpr (Az (Ap hb)),[],.nil,Heap.DictOf.new h⟩
theorem U7{w:World}(h:Heap)(hb:A8<h.objs.size):ZU P w H (h.push {cls:=.type "dict",data:=.dict #[]}) h.objs.size (.dT []) :=
 ⟨CS _,beq_eq_false_iff_ne.mpr (Az (Ap hb)),[],.nil,_,#[],0,AI _ rfl,⟨rfl,rfl,rfl⟩,rfl,rfl,CY⟩
def Sh:TE:=λ_ H Q=>∀p,H p=none->Q (.ref p) (upd H p (.dT []))
section
variable{X:Cx}{pos:Pos}
theorem Uy:PE X (.Dict [] [] pos) Sh:=λbE s Y H Q I h=>wpAny_Dict_empty ⟨.ref s.heap.objs.size,_,I.laid (a:=s.heap.objs.size) (o:=.dT []) (t':=s.toks) (λ_ _ q=>As _ q) (Ag _) (U7 s.heap I.big),rfl,h _ (I.hok.fresh (Ag _))⟩
end
def Lj:List (TE×TE)->St->J->(List (V×V)->J->Prop)->Prop
 |[],_,H,Q=>Q [] H
 |(tk,tv)::r,Y,H,Q=>tk Y H λx H1=>tv Y H1 λy H2=>Lj r Y H2 λps H3=>Q ((x,y)::ps) H3
abbrev VV:List (V×V)->List (Value×Value)->Prop:=Paired λp q=>RelV p.1 q.1/\RelV p.2 q.2
def jY(X:Cx)(pos:Pos)(dQ:List (Option Expr))(dg:List Expr)(fS:List (TE×TE)):Prop :=
 ∀(bE:List (Addr×Obj)) (s:Shared) (Y:St) (H:J) (Q:List (V×V)->J->Prop),Inv X bE Y H s->Lj fS Y H Q ->
  wpAny (model X.prog X.w) X.A (evalPairs (pairTrees dQ dg X.env pos)) (λvs s'=>∃ps H',Inv X bE Y H' s'/\VV ps vs/\Q ps H') X.xe s
theorem S7:jY X pos [] [] []:=λbE s Y H Q I h=>pairTrees_nil_walk ⟨[],H,I,.nil,h⟩
theorem Vv{k v:Expr}{ks:List (Option Expr)}{vs:List Expr}{tk tv:TE}{fS:List (TE×TE)}(hk:PE X k tk)(hv:PE X v tv)(hr:jY X pos ks vs fS):jY X pos (some k::ks) (v::vs) ((tk,tv)::fS):=λbE s Y H Q I h =>
 pairTrees_cons_walk (bM (hk bE s Y H _ I h) λu s1 ⟨x,H1,I1,rx,q1⟩=>bM (hv bE s1 Y H1 _ I1 q1) λw2 s2 ⟨y,H2,I2,ry,q2⟩=>bM (hr bE s2 Y H2 _ I2 q2) λws s3 ⟨ps,H3,I3,cR,q3⟩=>⟨(x,y)::ps,H3,I3,.cons ⟨rx,ry⟩ cR,q3⟩)
def Fy(kvs more:List (bO×V)):List (bO×V):=more.foldl (λacc kv=>cj acc kv.1 kv.2) kvs
theorem KV.merge:∀{more:List (bO×V)} {rs:List (bO×Value)} {kvs:List (bO×V)} {vs:List (bO×Value)},KV more rs->KV kvs vs->KV (Fy kvs more) (merged vs rs):=by
 intro more rs kvs vs r;unfold KV at r
 induction r generalizing kvs vs with
 |nil=>intro q;exact q
 | @cons p q ps qs h t ih =>
  intro r0;have e:KV (cj kvs p.1 p.2) (stored vs q.1 q.2):=by have:=r0.put p.1 h.2;rw[<-h.1];exact this
  exact ih e
theorem Rj:∀(more kvs:List (bO×V)),(Fy kvs more).length<=kvs.length+more.length
 |[],kvs=>by show kvs.length<=kvs.length+0;omega
 |p::r,kvs=>by have h1:=Rj r (cj kvs p.1 p.2);have h2:=Mw kvs p.1 p.2;show(Fy (cj kvs p.1 p.2) r).length<=_;rw[AL];omega
theorem QT{P:Program}{w:World}:∀{kvs:List (bO×V)} {ws:List (Value×Value)},VV (kvs.map λkv=>(kV kv.1,kv.2)) ws->∃rs,Carries (Bh P w) ws rs/\KV kvs rs
 |[],_,r=>by rw[Ff]at r;cases r;exact⟨[],DO,.nil⟩
 |p::kvs,_,r=>by
  rw[Ao]at r;cases r with
  | @cons a b as bs h t=>obtain⟨rs,c,q⟩:=QT (P:=P) (w:=w) t;obtain⟨b1,b2⟩:=b;exact⟨(p.1,b2)::rs,⟨IQ h.1,rfl,c⟩,.cons ⟨rfl,h.2⟩ q⟩
def RJ(fS:List (TE×TE)):TE:=λY H Q=>∀p,H p=none->Lj fS Y (upd H p (.dK [])) λps H2=>H2 p=some (.dK [])/\∃kvs:List (bO×V),ps=kvs.map (λkv=>(kV kv.1,kv.2))/\kvs.length<=15/\Q (.ref p) (upd H2 p (.dK (Fy [] kvs)))
theorem UE{dQ:List (Option Expr)}{dg:List Expr}{fS:List (TE×TE)}(h:jY X pos dQ dg fS)(dS:dQ.all (·.isSome)=true)(hl:dQ.length=dg.length)(h0:dQ≠[])(n5:dQ.length<=15):PE X (.Dict dQ dg pos) (RJ fS):=by
 intro bE s Y H Q I q;have hn:=I.hok.fresh (Ag s.heap.objs.size);have I1:=I.laid (a:=s.heap.objs.size) (o:=.dK []) (h':=s.heap.push {cls:=.type "dict",data:=.dict #[]}) (t':=s.toks) (λ_ _ q=>As _ q) (Ag _) (U5 s.heap I.big);refine wpAny_Dict_walk (knd:=Bh X.prog X.w) dS hl h0 n5 (bM (h bE _ Y _ _ I1 (q _ hn)) λws s2 ⟨ps,H2,I2,cR,e,kvs,ep,lk,q2⟩=>?_);subst ep;obtain⟨rs,c,rk⟩:=QT (P:=X.prog) (w:=X.w) cR;obtain⟨z,hd,vs0,r0,dd⟩:=K8 I2.hok e;cases r0;refine⟨rs,c,dd,λh' dd' hs=>⟨.ref s.heap.objs.size,_,?_,rfl,q2⟩⟩;have hz:(Fy [] kvs).length<=sizeLine:=by have h1:=Rj kvs [];rw[List.length_nil]at h1;rw[Bo];omega
 have he:∃q,h'.get? s.heap.objs.size=some q:=let ⟨q,_,_,hq,_⟩:=dd';⟨q,hq⟩
 exact Hd I2 (by rw[e];exact DO) hs he (OM hz hd (rk.merge .nil) dd')
structure M2(X:Cx)(o:Expr)(m:Str)(dU:Pos)(e f:Expr)(cB:Pos):Prop where
 base:Gb o m X.env (eval o X.env)=eval o X.env
 few:((backTo cB (Af [e,f] X.env)).all (λx=>!x.1)&&(backToKw cB (Gd [] X.env)).all (λx=>x.1.isSome)
  && decide (([e,f]:List Expr).length+([]:List Keyword).length+(if([]:List Keyword).isEmpty then 0 else 1)<30))=true
 line:(dU.endLine==cB.line)=true
 trees:backTo cB (Af [e,f] X.env)=[(false,eval e X.env),(false,eval f X.env)]
end
end L2
namespace Att
open PySem PySem.W PySem.Calls PyProof.Rows
variable{h:Heap}{n:Nat}
theorem YR{P:Params}:∀(ns:List Int) (vs:List Value),WellAll P h vs (ns.map WData.int)->IntsAre vs ns:=by
 intro ns
 induction ns with
 |nil=>intro vs w;rw[Ff]at w;cases w;exact .nil
 |cons n ns ih =>
  intro vs w;rw[Ao]at w;cases w with
  |cons a b=>cases a;exact .cons _ _ (ih _ b)
theorem Vl{l:OpenLaw}(hn:l.most=some n){P:Params}{args:List WData}{ia:List Value}(gq:l.row.toRowW.claim.pre args=true)(kh:WellAll P h ia args):∃a vs ns,ia=[A4 a]/\args=[WData.list (ns.map WData.int)]/\h.get? a=some {cls:=.type "list",data:=.seq vs.toArray}/\IntsAre vs ns/\ns.length<=n:=by
 have iT:WShape.hasAll [] args [.list .int]=true:=(pre_splitW gq).1;have hc:l.pre.holds [] {args:=args}=true:=(pre_splitW gq).2;obtain⟨d,r,rfl,h1,h2⟩:=hasAllW_cons iT;obtain rfl:=hasAllW_nil h2;obtain⟨xs,rfl,h3⟩:=hasW_list h1;obtain⟨ns,rfl⟩:=items_int h3;have bK:ns.length<=n:=by
  unfold OpenLaw.pre at hc;have h4:(WTm.not (.lt (.lit (.int (n:Int))) (.len (.arg 0)))).holds [] {args:=[.list (ns.map .int)]}=true:=by have h4:=(holds_andW hc).1;rw[hn]at h4;exact h4
  have h5:=condW_of h4 (w_not (w_lt w_lit (w_len_list (w_arg rfl))));rw[Ae]at h5;refine Gx λq=>?_;have q':(n:Int)<((ns.length:Nat):Int):=by omega
  first
   |(rw[decide_eq_true q']at h5;exact absurd h5 (by decide))
   |(simp at h5;omega)
 cases kh with
 |cons w1 w2 =>
  cases w2;cases w1 with
  |list ho dS=>exact⟨_,_,ns,rfl,rfl,ho,YR ns _ dS,bK⟩
theorem Wq(l:OpenLaw)(args:List WData):l.row.toRowW.claim.post args (.bool true) args=true :=
 postW_of (r:=l.row.toRowW) (X:=(true==true))
  (show WShape.has [] (.bool true) .bool=true by first|rfl|decide|simp[WShape.has,WShape.arms,WShape.armsAll])
  (show(WTm.eq .res (.lit (.bool true))).value [] {args:=args,res:=some (.bool true),after:=args}=some (.bool (true==true)) from w_eq_bool (w_res rfl) w_lit) rfl
theorem aX{l:OpenLaw}{q:Program}{dw:List Str}{XP:(Str->Option Value)->Heap->Prop}{YP:World->Heap->Prop}{d:DefRec}(hn:l.most=some n)(fZ:d.params.defaults=[])
  (call:∀(w:World) (s₀ s₁:Shared) (mg mb:Str->Option Value) (fa:Addr) (o:Obj) (pm cd di:Value) (a:Addr) (vs:List Value) (ns:List Int),
   Ground q dw [] XP w s₀ mg mb s₁.heap->YP w s₁.heap ->
   s₁.heap.get? fa=some o->o.data=.func (docDef d.name d.params d.body d.scope pm cd di)->s₁.heap.CodeRec cd d.name->mg d.name=some (.ref fa) ->
   s₁.heap.get? a=some {cls:=.type "list",data:=.seq vs.toArray}->IntsAre vs ns->ns.length<=n->s₁.gens=#[] ->
   codeAny (model l.prog w) callerA (.call (.ref fa) ⟨[.ref a],[]⟩) (λr s'=>r=.ok (.ret (.bool true))/\OldK s₁.heap s'.heap/\s'.os=s₁.os/\AllBare s'.gens) s₁):
  WalkO q dw XP YP l.row.toRowW d [] (λf vs=>PySem.call f vs):=by
 intro w s₀ s₁ mg mb G oG fa o pm cd di dV kV ho hd dh hD iV hg args ia as gq oE hrd kh hlo;obtain rfl:dV=.none:=Dflts.none hD fZ;obtain rfl:kV=.none:=Dflts.noKw hD;obtain⟨a,vs,ns,rfl,rfl,ic,fG,bK⟩:=Vl hn gq kh;refine enter_call (Eg (call w s₀ s₁ mg mb fa o pm cd di a vs ns G oG ho (fd_plain hd) dh iV ic fG bK hg) λr s' hq=>?_);obtain⟨rfl,h2,h3,h4⟩:=hq;exact⟨.inl ⟨.bool true,.bool true,[],rfl,λ_=>rfl,.bool true,Wq l _,λ_=>⟨List.Pairwise.nil,λ_ hm=>(nomatch hm)⟩⟩,h2,h3,h4⟩
end Att
namespace L2
open PySem PySem.Spec PyProof.Rows
theorem Qv:∀{vs:List Value} {ns:List Int},IntsAre vs ns->bG (ns.map V.int) vs
 |_,_,.nil=>.nil
 |_,_,.cons n t h=>.cons ⟨t,rfl⟩ (Qv h)
section
variable{f:Addr}{H H':J}{A:Prop}{st:Stmt}{bN x:Str}
def ER(s:Stmt):Arguments:=match s with
 | .FunctionDef _ a _ _ _ _ _ _ _ _=>a
 |_=>{posonlyargs:=[],args:=[],vararg:=none,kwonlyargs:=[],kw_defaults:=[],kwarg:=none,defaults:=[]}
def CJ(s:Stmt):List Stmt:=match s with
 | .FunctionDef _ _ b _ _ _ _ _ _ _=>b
 |_=>[]
def Zk(s:Stmt):Scope:=match s with
 | .FunctionDef _ _ _ _ _ _ sc _ _ _=>sc
 |_=>{kind:=.function,names:=[],isGenerator:=false,isCoroutine:=false}
abbrev eE:gm:=λ_ _ _ _ _ _=>False
abbrev E0:XK:=λ_ _ _=>False
theorem Ol{X:Cx}:ez eE X E0:=λ_ _ _ _ _ _ _ h=>h.elim
structure fQ(K:Ad)(x bN:Str)(st:Stmt)(f:Addr)(fd:FuncData):Prop where
 ex:∃(oc:Value) (od:Option Addr) (kV di pm:Value) (an:Option Addr) (bQ ct:Value) (fL:Array (Option Value)),
  fd=Dx x bN (ER st) (CJ st) (Zk st) .none kV di pm an bQ ct/\K.lookup f=some ⟨oc,od,.func fd,fL⟩/\Gr K bQ bN=true
 kp:E7 K (.ref f)=true
section
variable{P:Program}{w:World}{K:Ad}{mg:Str->Option Value}{base:Heap}
theorem fQ.ok{x bN:Str}{st:Stmt}{f:Addr}{fd:FuncData}{N ps:List Str}{k:Nat}{sp:Sp}(F:fQ K x bN st f fd)(oH:Zx N ps (Zk st))(len:∀vs H Q E,sp vs H Q E->vs.length=ps.length)
  (fI:∀(bQ:Value) (A:Around) (outer:List Env) (s:Shared) (H:J) (vs:List V) (Q:VK) (E:XK),AK k (A.deeper (envOfC bN (Zk st) s.heap.objs.size f bQ))->sp vs H Q E ->
   ∃t,cZ (Dz eE P w K mg base N bN (Zk st) f bQ A outer s H E).nox (CJ st) t/\t {nx:=λ_ H'=>Q .non H',rt:=Q} (start N vs) H):BK P w K mg base eE (k+1) f fd ps sp:=by
 obtain⟨oc,od,kV,di,pm,an,bQ,ct,fL,rfl,lk,dh⟩:=F.ex;refine RF lk dh oH len λA outer s H vs Q E hr gJ=>?_;obtain⟨t,h,q⟩:=fI bQ A outer s H vs Q E hr gJ;exact⟨t,h.nox,q⟩
theorem fQ.binds{fd:FuncData}{ps:List Str}(F:fQ K x bN st f fd)(h:∀(kV di pm:Value) (an:Option Addr) (bQ ct:Value) (us:List Value),us.length=ps.length->bindArgs (Dx x bN (ER st) (CJ st) (Zk st) .none kV di pm an bQ ct) ⟨us,[]⟩=pure (ps.zip us)):Binds K fd ps []:=by
 obtain⟨oc,od,kV,di,pm,an,bQ,ct,fL,rfl,lk,dh⟩:=F.ex;exact .all (h kV di pm an bQ ct)
theorem Ll{oc:Value}{od an:Option Addr}{fL:Array (Option Value)}{kV di pm bQ ct:Value}(l:K.lookup f=some ⟨oc,od,.func (Dx x bN (ER st) (CJ st) (Zk st) .none kV di pm an bQ ct),fL⟩)(c:Gr K bQ bN=true)(k:E7 K (.ref f)=true):fQ K x bN st f (Dx x bN (ER st) (CJ st) (Zk st) .none kV di pm an bQ ct):=⟨⟨oc,od,kV,di,pm,an,bQ,ct,fL,rfl,l,c⟩,k⟩
end
theorem Lf{A:Around}{k:Nat}(hr:AK k A):A.units+1<cLine:=Nat.lt_of_le_of_lt (Nat.add_le_add_left (by decide:1<=64) _) hr.units
theorem GC{B:Prop}(h:B):if false=true then A else B:=by rw[if_neg Bp];exact h
theorem GO{B:Prop}(h:A):if true=true then A else B:=by rw[if_pos rfl];exact h
def Zp(H H':J):Prop:=∀b o,H b=some o->H' b=some o
theorem Zp.refl(H:J):Zp H H:=λ_ _ h=>h
theorem Zp.trans{H1 H2:J}(a:Zp H H1)(b:Zp H1 H2):Zp H H2:=λc o h=>b c o (a c o h)
theorem Zp.free(e:Zp H H'){l:Addr}(h:H' l=Option.none):H l=Option.none:=by
 cases q:H l with
 |none=>rfl
 |some o=>rw[e l o q]at h;cases h
theorem Zp.seq{K:Ad}{a:Addr}{xs:List V}(e:Zp H H')(h:cm K H a xs):cm K H' a xs:=by
 rcases h with(h|⟨o,h⟩)|h
 .exact .inl (.inl (e _ _ h))
 .exact .inl (.inr ⟨o,e _ _ h⟩)
 .exact .inr h
end
section
variable{X:Cx}
theorem Wd:AJ X (.builtin "len") (λxs H Q=>∃a kvs,xs=[V.ref a]/\H a=some (.dK kvs)/\Q (.int kvs.length) H):=by intro bE s Y H xs us Q I r h;obtain⟨a,kvs,rfl,ha,q⟩:=h;obtain⟨u,rfl,ru⟩:=vals1 r;cases ru;exact RB I (.inl ha) λt s' I'=>⟨.int kvs.length,H,I',⟨t,rfl⟩,q⟩
end
end L2
namespace HM
open PySem
abbrev D:=PyData
abbrev Ky:=Sum Int Str
inductive B where
 |pl (d:D)
 |ol (ds:List D)
 |ok (kvs:List (Ky×D))
 |ot (kvs:List (List Ky×D))
 |otl (kvs:List (List Ky×List D))
 |hd (es:List (D×D))
abbrev Env:=List (Option B)
inductive gg where
 |nx (r:Env)
 |rt (d:D)
 |bk (r:Env)
 |ct (r:Env)
abbrev EF:=Env->Option D
abbrev BF:=Env->Option B
abbrev TF:=Env->Option Bool
abbrev IF:=Env->Option (List D)
abbrev AF:=Env->Option (List D)
abbrev SF:=Env->Option gg
@[simp] def big:Nat:=1000000
@[simp] def S(i:Nat):EF:=λr=>match r[i]? with
 |some (some (.pl d))=>some d
 |_=>none
@[simp] def Zf(i:Nat):BF:=λr=>match r[i]? with
 |some (some b)=>some b
 |_=>none
@[simp] def bW(f:EF):BF:=λr=>(f r).map B.pl
def Ce:Ky->D
 | .inl i=>.int i
 | .inr x=>.str x
def ZN(kvs:List (List Ky×D)):List (D×D):=kvs.map λp=>(.tuple (p.1.map Ce),p.2)
@[simp] def frz:B->Option D
 | .pl d=>some d
 | .ol ds=>some (.list ds)
 | .ot kvs=>some (.dict (ZN kvs))
 | .hd es=>some (.dict es)
 |_=>none
@[simp] def dY(f:BF):EF:=λr=>(f r).bind frz
@[simp] def eC(d:D):EF:=λ_=>some d
@[simp] def bH(g:D->D->Option D)(a b:EF):EF:=λr=>match a r with
 |some x=>match b r with
  |some y=>g x y
  |none=>none
 |none=>none
@[simp] def DE(g:Int->Int->Option D):D->D->Option D
 | .int i,.int j=>g i j
 |_,_=>none
def ZG(i:Int):Bool:=Nat.blt i.natAbs 18446744073709551616
@[simp] def Z6(x y:D):Option D:=DE (λi j=>some (.int (i+j))) x y
@[simp] def GQ(x y:D):Option D:=DE (λi j=>some (.int (i-j))) x y
@[simp] def Bf(x y:D):Option D:=DE (λi j=>if ZG i||ZG j then some (.int (i*j))else none) x y
@[simp] def Cn(x y:D):Option D:=DE (λi j=>if 0<j then some (.int (i%j))else none) x y
@[simp] def i8(x y:D):Option D:=DE (λi j=>some (.bool (decide (i<j)))) x y
@[simp] def jQ(x y:D):Option D:=DE (λi j=>some (.bool (decide (i<=j)))) x y
@[simp] def i9(x y:D):Option D:=DE (λi j=>some (.bool (decide (j<i)))) x y
def Cv(d:D):Bool:=d.canLay0&&decide (d.depth<=60)
@[simp] def cA(a b:D):Option D:=if Cv a&&Cv b then some (.bool (Ep a b))else none
@[simp] def dq(a b:D):Option D:=if Cv a&&Cv b then some (.bool (!PyData.eqv a b))else none
@[simp] def QK(g g':D->D->Option D)(a b c:EF):EF:=λr=>match a r with
 |some x=>match b r with
  |some y=>match g x y with
   |some (.bool true)=>match c r with
    |some z=>g' y z
    |none=>none
   |some (.bool false)=>some (.bool false)
   |_=>none
  |none=>none
 |none=>none
@[simp] def C4(a b:EF):EF:=λr=>match a r with
 |some (.bool true)=>b r
 |some (.bool false)=>some (.bool false)
 |_=>none
@[simp] def tV(a:EF):TF:=λr=>match a r with
 |some (.bool b)=>some b
 |_=>none
@[simp] def C5(a:TF):TF:=λr=>(a r).map (!·)
@[simp] def D0(a b:TF):TF:=λr=>match a r with
 |some true=>b r
 |some false=>some false
 |none=>none
@[simp] def gB(a b:TF):TF:=λr=>match a r with
 |some true=>some true
 |some false=>b r
 |none=>none
@[simp] def G8:B->Option (List D)
 | .pl (.tuple ds)=>some ds
 | .pl (.list ds)=>some ds
 | .ol ds=>some ds
 |_=>none
def eQ(n:Nat)(i:Int):Option Nat :=
 if 0<=i then(if i<n then some i.toNat else none)else(if -(n:Int)<=i then some (i+n).toNat else none)
def eB(ds:List D)(i:Int):Option D:=match eQ ds.length i with
 |some j=>ds[j]?
 |none=>none
@[simp] def bJ(a:BF)(b:EF):EF:=λr=>match a r with
 |some x=>match G8 x with
  |some ds=>match b r with
   |some (.int i)=>eB ds i
   |_=>none
  |none=>none
 |none=>none
@[simp] def R0:B->Option Nat
 | .pl (.tuple ds)=>some ds.length
 | .pl (.list ds)=>some ds.length
 | .ol ds=>some ds.length
 | .ok kvs=>some kvs.length
 |_=>none
@[simp] def Dc(a:BF):EF:=λr=>match a r with
 |some x=>(R0 x).map λ(n:Nat)=>AQ (n:Int)
 |none=>none
@[simp] def ZI(a:BF):EF:=λr=>match a r with
 |some x=>(G8 x).map λds=>.tuple ds
 |none=>none
@[simp] def Hl(a:BF):BF:=λr=>match a r with
 |some x=>(G8 x).map λds=>.ol ds
 |none=>none
def FK:List D->Option (List Bool)
 |[]=>some []
 | .bool b::r=>(FK r).map (b::·)
 |_::_=>none
@[simp] def IM:B->Option (List D)
 | .pl (.list ds)=>some ds
 | .ol ds=>some ds
 |_=>none
@[simp] def IY(a:BF):EF:=λr=>match a r with
 |some x=>match IM x with
  |some ds=>(FK ds).map λbs=>.bool (bs.all id)
  |none=>none
 |none=>none
@[simp] def Ze:AF:=λ_=>some []
@[simp] def O(a:EF)(b:AF):AF:=λr=>match a r with
 |some x=>(b r).map (x::·)
 |none=>none
@[simp] def ZM(a:AF):EF:=λr=>(a r).map λds=>.tuple ds
@[simp] def Bd(a:AF):BF:=λr=>(a r).map λds=>.ol ds
inductive Ty where
 |bool|int|str|tuple|list|dict
@[simp] def Y2:Ty->D->Bool
 | .bool,.bool _=>true
 | .int,.int _=>true
 | .int,.bool _=>true
 | .str,.str _=>true
 | .tuple,.tuple _=>true
 | .list,.list _=>true
 | .dict,.dict _=>true
 |_,_=>false
@[simp] def FP(a:EF)(t:Ty):EF:=λr=>match a r with
 |some (.dict _)=>none
 |some d=>some (.bool (Y2 t d))
 |none=>none
@[simp] def C7(x y:D):Option D:=DE (λi j=>some (.int (if j > i then j else i))) x y
@[simp] def C6(x y:D):Option D:=DE (λi j=>some (.int (if j<i then j else i))) x y
@[simp] def XU(a:EF):EF:=λr=>match a r with
 |some (.int i)=>some (.int i)
 |some (.bool b)=>some (.int (if b then 1 else 0))
 |_=>none
@[simp] def Lp(a b:BF):BF:=λr=>match a r with
 |some (.ol xs)=>match b r with
  |some (.ol ys)=>if xs.length+ys.length<big then some (.ol (xs++ys))else none
  |_=>none
 |_=>none
@[simp] def Vu(a:BF)(b:EF):BF:=λr=>match a r with
 |some (.ol xs)=>match b r with
  |some (.int k)=>if decide (k.natAbs<1000)&&decide (xs.length<1000)then some (.ol (Al k.toNat xs).flatten)else none
  |_=>none
 |_=>none
def iM(n d:Nat):Option Int->Nat
 |none=>d
 |some v=>if v<0 then(v+(n:Int)).toNat else min v.toNat n
def cutD(xs:List D)(lo hi:Option Int):List D:=(xs.drop (iM xs.length 0 lo)).take (iM xs.length xs.length hi-iM xs.length 0 lo)
@[simp] def O6(a:Option EF)(r:Env):Option (Option Int):=match a with
 |none=>some none
 |some f=>match f r with
  |some (.int i)=>some (some i)
  |_=>none
@[simp] def VC(a:BF)(lo hi:Option EF):BF:=λr=>match a r with
 |some x=>match IM x with
  |some xs=>match O6 lo r with
   |some l=>match O6 hi r with
    |some h=>some (.ol (cutD xs l h))
    |none=>none
   |none=>none
  |none=>none
 |none=>none
def Bz:List D->Option (List Int)
 |[]=>some []
 | .int i::r=>(Bz r).map (i::·)
 |_::_=>none
def FI:List D->Option (List (List Int))
 |[]=>some []
 | .tuple ds::r=>match Bz ds with
  |some ns=>(FI r).map (ns::·)
  |none=>none
 |_::_=>none
def lexLt:List Int->List Int->Bool
 |[],[]=>false
 |[],_::_=>true
 |_::_,[]=>false
 |a::r,b::q=>if a=b then lexLt r q else decide (a<b)
def sortI(ns:List Int):List Int:=ns.mergeSort λa b=>decide (a<=b)
def WS(ts:List (List Int)):List (List Int):=ts.mergeSort λa b=>!lexLt b a
def dB(ns:List Int):List D:=ns.map λi=>AQ i
def Y3(ts:List (List Int)):List D:=ts.map λt=>CT (dB t)
def G9(ds:List D):Option (List D) :=
 if ds.length<64 then match Bz ds with
  |some ns=>some (dB (sortI ns))
  |none=>match FI ds with
   |some ts=>if ds.length<2||ts.all (λt=>!t.isEmpty)then some (Y3 (WS ts))else none
   |none=>none
 else none
@[simp] def US:B->Option (List D)
 | .pl (.tuple ds)=>some ds
 | .pl (.list ds)=>some ds
 | .ol ds=>some ds
 | .ok kvs=>some (kvs.map λp=>Ce p.1)
 | .ot kvs=>some (kvs.map λp=>.tuple (p.1.map Ce))
 | .otl kvs=>some (kvs.map λp=>.tuple (p.1.map Ce))
 |_=>none
@[simp] def YI(a:BF):BF:=λr=>match a r with
 |some x=>match US x with
  |some ds=>(G9 ds).map λds=>.ol ds
  |none=>none
 |none=>none
def cx:List Int->List Int->List Int
 |acc,[]=>acc
 |acc,i::r=>if acc.contains i then cx acc r else cx (acc++[i]) r
def GI(ns:List Int):Bool:=ns.all λn=>decide (0<=n)&&decide (n<8)
@[simp] def JX(a:BF):BF:=λr=>match a r with
 |some x=>match IM x with
  |some ds=>match Bz ds with
   |some ns=>if GI ns then some (.ol (dB (sortI (cx [] ns))))else none
   |none=>none
  |none=>none
 |none=>none
@[simp] def Zj(m:List D->Option D)(a:AF):EF:=λr=>match a r with
 |some ds=>m ds
 |none=>none
@[simp] def ZW(a:BF):IF:=λr=>match a r with
 |some x=>G8 x
 |none=>none
def Eb(lo:Int)(n:Nat):List D:=(Ab n).map λ(k:Nat)=>AQ (lo+(k:Int))
def dE(j:Int):Bool:=Nat.blt j.natAbs 1000000
@[simp] def ZH(a:EF):IF:=λr=>match a r with
 |some (.int j)=>if dE j then some (Eb 0 j.toNat)else none
 |_=>none
@[simp] def FH(a b:EF):IF:=λr=>match a r with
 |some (.int i)=>match b r with
  |some (.int j)=>if dE i&&dE j then some (Eb i (j-i).toNat)else none
  |_=>none
 |_=>none
@[simp] def YU(i:IF):EF:=λr=>match i r with
 |some ds=>if ds.length<big then some (.tuple ds)else none
 |none=>none
def Bn(c:TF)(e:EF)(r:Env):List D->Option (List D)
 |[]=>some []
 |x::xs=>match c (some (.pl x)::r)with
  |some true=>match e (some (.pl x)::r)with
   |some y=>(Bn c e r xs).map (y::·)
   |none=>none
  |some false=>Bn c e r xs
  |none=>none
@[simp] def ZR:TF:=λ_=>some true
@[simp] def Zw(i:IF)(c:TF)(e:EF):BF:=λr=>match i r with
 |some xs=>if xs.length<big then(Bn c e r xs).map λys=>.ol ys else none
 |none=>none
@[simp] def Zs(a b:SF):SF:=λr=>match a r with
 |some (.nx r')=>b r'
 |some (.rt d)=>some (.rt d)
 |some (.bk r')=>some (.bk r')
 |some (.ct r')=>some (.ct r')
 |none=>none
@[simp] def AZ:SF:=λr=>some (.nx r)
@[simp] def WB:SF:=λ_=>none
@[simp] def ZO(a:EF):SF:=λr=>(a r).map gg.rt
@[simp] def Z5(i:Nat)(a:EF):SF:=λr=>(a r).map λd=>.nx (r.set i (some (.pl d)))
@[simp] def Z7(i:Nat)(a:BF):SF:=λr=>(a r).map λb=>.nx (r.set i (some b))
@[simp] def Yy(i:Nat)(r:Env):Env:=match r[i]? with
 |some (some (.ol ds))=>r.set i (some (.pl (.list ds)))
 |some (some (.ot kvs))=>r.set i (some (.pl (.dict (ZN kvs))))
 |_=>r
@[simp] def GP(i:Nat):SF->SF:=λa r=>a (Yy i r)
@[simp] def UT(a:EF):SF:=λr=>(a r).map λ_=>.nx r
@[simp] def cQ(c:TF)(a b:SF):SF:=λr=>match c r with
 |some true=>a r
 |some false=>b r
 |none=>none
def A5(i:Nat)(body:SF):List D->Env->Option gg
 |[],r=>some (.nx r)
 |x::xs,r=>match body (r.set i (some (.pl x)))with
  |some (.nx r')=>A5 i body xs r'
  |some (.ct r')=>A5 i body xs r'
  |some (.bk r')=>some (.nx r')
  |some (.rt d)=>some (.rt d)
  |none=>none
@[simp] def AU(i:Nat)(it:IF)(body:SF):SF:=λr=>match it r with
 |some xs=>if xs.length<big then A5 i body xs r else none
 |none=>none
def Dm(c:TF)(body:SF):Nat->Env->Option gg
 |0,_=>none
 |n+1,r=>match c r with
  |some true=>match body r with
   |some (.nx r')=>Dm c body n r'
   |some (.ct r')=>Dm c body n r'
   |some (.bk r')=>some (.nx r')
   |some (.rt d)=>some (.rt d)
   |none=>none
  |some false=>some (.nx r)
  |none=>none
@[simp] def Dp(i:Nat)(a:EF):SF:=λr=>match r[i]? with
 |some (some (.ol ds))=>match a r with
  |some d=>if ds.length<big then some (.nx (r.set i (some (.ol (ds++[d])))))else none
  |none=>none
 |_=>none
@[simp] def WT(i:Nat)(k v:EF):SF:=λr=>match v r with
 |some d=>match r[i]? with
  |some (some (.ol ds))=>match k r with
   |some (.int n)=>match eQ ds.length n with
    |some j=>some (.nx (r.set i (some (.ol (ds.set j d)))))
    |none=>none
   |_=>none
  |_=>none
 |none=>none
def dP{k v:Type}[DecidableEq k](kvs:List (k×v))(x:k)(y:v):List (k×v) :=
 if(kvs.any λp=>decide (p.1=x))=true then kvs.map (λp=>if p.1=x then(p.1,y)else p)else kvs++[(x,y)]
def Ho{k v:Type}[DecidableEq k](kvs:List (k×v))(x:k):Option v:=(kvs.find? λp=>decide (p.1=x)).map (·.2)
@[simp] def IW:D->Option Ky
 | .int i=>some (.inl i)
 | .str x=>some (.inr x)
 |_=>none
def JH:List D->Option (List Ky)
 |[]=>some []
 |d::r=>match IW d with
  |some k=>(JH r).map (k::·)
  |none=>none
def j5:D->Option (List Ky)
 | .tuple ds=>JH ds
 |_=>none
def I0:List D->Option (List Ky)
 |[]=>some []
 | .int i::r=>(I0 r).map (CM i::·)
 |_::_=>none
def GU:D->Option (List Ky)
 | .tuple ds=>I0 ds
 |_=>none
@[simp] def IZ(i:Nat)(k v:EF):SF:=λr=>match v r with
 |some d=>match k r with
  |some x=>match r[i]? with
   |some (some (.ok kvs))=>match IW x with
    |some y=>if kvs.length<big then some (.nx (r.set i (some (.ok (dP kvs y d)))))else none
    |none=>none
   |some (some (.ot kvs))=>match GU x with
    |some y=>if kvs.length<big then some (.nx (r.set i (some (.ot (dP kvs y d)))))else none
    |none=>none
   |_=>none
  |none=>none
 |none=>none
@[simp] def jR:BF:=λ_=>some (.ot [])
@[simp] def Xl(k v:EF):BF:=λr=>match k r with
 |some x=>match v r with
  |some d=>match IW x with
   |some y=>some (.ok [(y,d)])
   |none=>none
  |none=>none
 |none=>none
@[simp] def YQ(n:Nat)(ds:List D):Env:=ds.map (λd=>some (B.pl d))++Al (n-ds.length) none
@[simp] def fnOf(k n:Nat)(m:SF):List D->Option D:=λds =>
 if ds.length=k then match m (YQ n ds)with
  |some (.nx _)=>some .none
  |some (.rt d)=>some d
  |_=>none
 else none
def GD(ds:List D)(i:Int):Option Bool:=(Bz ds).map λns=>ns.contains i
@[simp] def Cq(k:EF)(a:BF):EF:=λr=>match k r with
 |some (.int i)=>match a r with
  |some b=>match G8 b with
   |some ds=>(GD ds i).map λc=>.bool c
   |none=>none
  |none=>none
 |_=>none
@[simp] def Fu(a:BF):TF:=λr=>match a r with
 |some (.ol ds)=>some (!ds.isEmpty)
 |_=>none
@[simp] def LC(n:Nat)(c:TF)(body:SF):SF:=λr=>Dm c body n r
def Df(i j:Nat)(body:SF):List D->Env->Option gg
 |[],r=>some (.nx r)
 | .tuple [x,y]::xs,r=>match body ((r.set i (some (.pl x))).set j (some (.pl y)))with
  |some (.nx r')=>Df i j body xs r'
  |some (.ct r')=>Df i j body xs r'
  |some (.bk r')=>some (.nx r')
  |some (.rt d)=>some (.rt d)
  |none=>none
 |_,_=>none
@[simp] def Mc(i j:Nat)(it:IF)(body:SF):SF:=λr=>match it r with
 |some xs=>if xs.length<big then Df i j body xs r else none
 |none=>none
def GV:List (D×D)->Option (List (List Ky×D))
 |[]=>some []
 |(k,v)::r=>match j5 k with
  |some ks=>(GV r).map ((ks,v)::·)
  |none=>none
@[simp] def VH:B->Option (List (List Ky×D))
 | .ot kvs=>some kvs
 | .pl (.dict es)=>GV es
 | .hd es=>GV es
 |_=>none
@[simp] def Cw(k:EF)(a:BF):EF:=λr=>match k r with
 |some x=>match a r with
  |some b=>match VH b with
   |some kvs=>(GU x).map λy=>.bool (!(Ho kvs y).isSome)
   |none=>none
  |none=>none
 |none=>none
@[simp] def O5:D->Bool
 | .none=>true
 | .bool _=>true
 | .int _=>true
 | .str _=>true
 |_=>false
@[simp] def Jb(f:BF):EF:=λr=>(f r).bind frz
@[simp] def Jr(m:List D->Option D)(a:AF):EF:=λr=>match a r with
 |some ds=>match m ds with
  |some d=>if O5 d then some d else none
  |none=>none
 |none=>none
theorem S8(ks:List Ky):j5 (.tuple (ks.map Ce))=some ks:=by
 show JH (ks.map Ce)=some ks
 induction ks with
 |nil=>rfl
 |cons k ks ih=>show(match IW (Ce k)with|some q=>(JH (ks.map Ce)).map (q::·)|none=>none)=_;rw[ih];cases k<;>rfl
theorem gz(kvs:List (List Ky×D)):GV (ZN kvs)=some kvs:=by
 induction kvs with
 |nil=>rfl
 |cons p kvs ih=>obtain⟨k,d⟩:=p;show(match j5 (.tuple (k.map Ce))with|some ks=>(GV (ZN kvs)).map ((ks,d)::·)|none=>none)=_;rw[S8,ih];rfl
@[simp] def FJ(a:BF):EF:=λr=>match a r with
 |some x=>match IM x with
  |some ds=>match Bz ds with
   |some ns=>ns.max?.map λi=>AQ i
   |none=>none
  |none=>none
 |none=>none
@[simp] def ES(a b:EF):EF:=λr=>match a r with
 |some (.tuple xs)=>match b r with
  |some (.tuple ys)=>if xs.length+ys.length<big then some (.tuple (xs++ys))else none
  |_=>none
 |_=>none
@[simp] def Me(a b:EF):EF:=λr=>match a r with
 |some (.tuple xs)=>match b r with
  |some (.int k)=>if decide (0<=k)&&decide (k<1000)&&decide (xs.length<1000)then some (.tuple (Al k.toNat xs).flatten)else none
  |_=>none
 |_=>none
def BA{K:Type}[DecidableEq K]:List K->List K->List Int
 |_,[]=>[]
 |seen,m::ms=>match seen.findIdx? (λx=>decide (x=m))with
  |some i=>(i:Int)::BA seen ms
  |none=>(seen.length:Int)::BA (seen++[m]) ms
def jE:D->Option (Bool×List Int)
 | .tuple [.bool b,.tuple ds]=>(Bz ds).map λns=>(b,ns)
 |_=>none
def kc:D->Option (Int×List (List Int))
 | .tuple [.int i,.tuple ds]=>(FI ds).map λts=>(i,ts)
 |_=>none
def D1{K:Type}(f:D->Option K):List D->Option (List K)
 |[]=>some []
 |d::r=>match f d with
  |some k=>(D1 f r).map (k::·)
  |none=>none
def EB(ds:List D):Option (List Int):=if ds.length<1000 then
  match D1 jE ds with
  |some ks=>some (BA [] ks)
  |none=>match D1 kc ds with
   |some ks=>some (BA [] ks)
   |none=>none
 else none
def Q4:SF:=λr=>match r with
 |[some (.pl (.list ds)),some (.ot []),some (.ol []),none]=>(EB ds).map λns=>.nx [some (.pl (.list ds)),none,some (.ol (ns.map AQ)),none]
 |_=>none
def Oh:SF:=Zs (Z7 1 jR) (Zs (Z7 2 (Bd Ze)) (Zs Q4 (GP 2 (ZO (S 2)))))
@[simp] def WZ(i j k l m:Nat)(a:EF):SF:=λr=>match a r with
 |some (.tuple [x1,x2,x3,x4,x5])=>some (.nx (((((r.set i (some (.pl x1))).set j (some (.pl x2))).set k (some (.pl x3))).set l (some (.pl x4))).set m (some (.pl x5))))
 |_=>none
end HM
namespace HP
open PySem PySem.Spec PyProof.Rows L2
variable{a l p:Addr}{o u:HO}{F F' H H' H1:J}{fp':List Addr}
@[reducible] def B3(H':J)(b:Addr):HO->Prop
 | .tbl _=>∃ps',H' b=some (.tbl ps')
 |o=>H' b=some o
def AS(H H':J):Prop:=∀b o,H b=some o->B3 H' b o
theorem B3.of{b:Addr}(h:H' b=some o):B3 H' b o:=by cases o<;>first|exact h|exact⟨_,h⟩
theorem B3.ex{b:Addr}(h:B3 H' b o):∃u,H' b=some u:=by cases o<;>first|exact⟨_,h⟩|(obtain⟨ps,e⟩:=h;exact⟨_,e⟩)
theorem B3.no{b:Addr}(h:B3 H' b o)(n:∀ps,o≠.tbl ps):H' b=some o:=by cases o<;>first|exact h|exact absurd rfl (n _)
theorem AS.of{H H':J}(s:Zp H H'):AS H H':=λb o h=>.of (s b o h)
theorem AS.refl(H:J):AS H H:=.of (.refl H)
theorem AS.trans{H2:J}(a:AS H H1)(b:AS H1 H2):AS H H2:=λc o h=>by have h1:=a c o h;cases o<;>first|exact b c _ h1|(obtain⟨ps,e⟩:=h1;exact(show ∃ps',H2 c=some (.tbl ps') from b c _ e))
theorem AS.free(e:AS H H')(h:H' l=none):H l=none:=by
 cases q:H l with
 |none=>rfl
 |some o=>obtain⟨u,z⟩:=(e l o q).ex;rw[h]at z;cases z
theorem AS.back(e:AS H H')(h:H l=some o)(h':H' l=some u)(n:∀ps,u≠.tbl ps):o=u:=by have z:=e l o h;cases o<;>first|(obtain⟨ps,q⟩:=z;rw[h']at q;cases q;exact absurd rfl (n _))|(have z:H' l=some _:=z;rw[h']at z;cases z;rfl)
def B4(H:J):J:=λb=>match H b with
 |some (.tbl _)=>none
 |x=>x
def nt:HO->Bool
 | .tbl _=>false
 |_=>true
def dM(F:J):Prop:=∀b o,F b=some o->nt o=true
theorem FN{b:Addr}(h:H b=some o)(n:nt o=true):B4 H b=some o:=by unfold B4;rw[h];cases o<;>first|rfl|cases n
theorem JI{b:Addr}(h:B4 H b=some o):H b=some o/\nt o=true:=by
 unfold B4 at h;split at h
 .cases h
 .rename_i n
  refine⟨h,?_⟩;cases o<;>first|rfl|exact absurd h (n _)
theorem Qx:Zp (B4 H) H:=λb o h=>(JI h).1
theorem dM.drop:dM (B4 H):=λb o h=>(JI h).2
theorem dM.sub(n:dM F)(s:Zp F H):Zp F (B4 H):=λb o h=>FN (s b o h) (n b o h)
theorem dM.upd{F:J}{p:Addr}{o:HO}(n:dM F)(h:nt o=true):dM (upd F p o):=λb u z=>by
 by_cases hb:b=p
 .subst hb;rw[Zz]at z;cases z;exact h
 .rw[Zu hb]at z;exact n b u z
theorem AS.ntb(s:AS H H'){b:Addr}(h:H b=some o)(n:nt o=true):H' b=some o:=(s b o h).no λps z=>by subst z;cases n
def Dk(vvs:List (List bO×V))(u:HO):Prop:=u=.dT vvs\/∃o,u=.frz o (.dT vvs)
def sw(a:Addr)(ob:HO)(G:J):J:=λb=>if b=a then(G a).map (λ_=>ob)else G b
class FX where
 tl:List (Addr×Str)
 fv:Nat->List PyData->J->Addr->Prop
 sw:∀{t:Nat} {cs:List PyData} {F:J} {a b:Addr} {ob:HO} {vvs:List (List bO×V)},(∀u,F a=some u->Dk vvs u)->Dk vvs ob->fv t cs F b->fv t cs (sw a ob F) b
 drop:∀{t:Nat} {cs:List PyData} {F:J} {a:Addr},fv t cs F a->fv t cs (B4 F) a
 mono:∀{t:Nat} {cs:List PyData} {F F':J} {a:Addr},fv t cs F a->Zp F F'->fv t cs F' a
variable[FX]
def RQ(a:Addr)(o:Obj):HO:=.ext λh=>h.get? a=some o
def T6(o:Obj)(q:Str):Prop:=∃vs t,o.data=.fields vs/\vs[1]?=some (.str q t)
def Tb(H:J):Prop:=∀P q,(P,q)∈FX.tl->∃ps,H P=some (.tbl ps)/\TriplesOk ps.toList/\∀pos c,codeAmong pos ps.toList=some c->∃a o,c=.ref a/\H a=some (RQ a o)/\T6 o q
def Ez:HO->Bool
 | .lst _=>true
 | .dK _=>true
 | .dT _=>true
 |_=>false
def te:HO->Bool
 | .tbl _=>true
 | .ext _=>true
 |_=>false
theorem OE(h:Ez o=true)(h':te o=true):False:=by cases o<;>simp_all [Ez,te]
theorem Tb.keep(t:Tb H)(k:∀a o,H a=some o->te o=true->H' a=some o):Tb H':=λP q hP=>by obtain⟨ps,h1,h2,h3⟩:=t P q hP;refine⟨ps,k _ _ h1 rfl,h2,λpos c hc=>?_⟩;obtain⟨a,o,e1,e2,e3⟩:=h3 pos c hc;exact⟨a,o,e1,k _ _ e2 rfl,e3⟩
theorem B3.cong{b:Addr}(e:H' b=H b)(h:B3 H b o):B3 H' b o:=by unfold B3 at h ⊢;rw[e];exact h
theorem Tb.same(t:Tb H)(s:Zp H H'):Tb H':=t.keep λa o h _=>s a o h
theorem Jl(r:Rd F a u)(s:Zp F F'):Rd F' a u:=r.imp (λh=>s _ _ h) λ⟨o,h⟩=>⟨o,s _ _ h⟩
def RO(K:Ad)(a:Addr)(vs:List V):Prop:=∃(o:Obj) (its:Array Value) (n:Nat),K.lookup a=some o/\o.cls=.type "tuple"/\o.data=.seq its n/\its.size<=sizeLine/\bG vs its.toList
theorem L6{K:Ad}{vs:List V}(h:cE K F a vs)(s:Zp F F'):cE K F' a vs:=h.imp (λh=>Jl h s) id
inductive bL(K:Ad)(F:J):PyData->V->Prop where
 |non:bL K F .none .non
 |bl (b:Bool):bL K F (.bool b) (.bl b)
 |int (i:Int):bL K F (.int i) (.int i)
 |str (x:Str):bL K F (.str x) (.str x)
 |tupk {a:Addr} {x:Str} (h:RO K a [.str x]):bL K F (.tuple [.str x]) (.ref a)
 |tup {a:Addr} {ds:List PyData} {vs:List V} (h:F a=some (.tup vs)) (hl:ds.length=vs.length) (hr:∀(i:Nat) (d:PyData) (v:V),ds[i]?=some d->vs[i]?=some v->bL K F d v):bL K F (.tuple ds) (.ref a)
 |lst {a:Addr} {ds:List PyData} {vs:List V} (h:cm K F a vs) (hl:ds.length=vs.length) (hr:∀(i:Nat) (d:PyData) (v:V),ds[i]?=some d->vs[i]?=some v->bL K F d v):bL K F (.list ds) (.ref a)
 |dct {a:Addr} {es:List (PyData×PyData)} {kvs:List (List bO×PyData)} {vvs:List (List bO×V)} (h:Rd F a (.dT vvs)) (he:es=HM.ZN kvs) (hk:kvs.map (·.1)=vvs.map (·.1)) (hr:∀(i:Nat) (d:PyData) (v:V),(kvs.map (·.2))[i]?=some d->(vvs.map (·.2))[i]?=some v->bL K F d v):bL K F (.dict es) (.ref a)
 |fn {a:Addr} {t:Nat} {cs:List PyData} (h:FX.fv t cs F a):bL K F (.dict [(.none,.int (Int.ofNat t)),(.none,.list cs)]) (.ref a)
def Zt(K:Ad)(F:J)(ds:List PyData)(vs:List V):Prop:=ds.length=vs.length/\∀(i:Nat) (d:PyData) (v:V),ds[i]?=some d->vs[i]?=some v->bL K F d v
section
variable{K:Ad}{F F':J}{d:PyData}{v:V}{ds es:List PyData}{vs us:List V}
theorem bL.mono(r:bL K F d v)(s:Zp F F'):bL K F' d v:=by
 induction r with
 |non=>exact .non
 |bl b=>exact .bl b
 |int i=>exact .int i
 |str x=>exact .str x
 |tup h hl _ ih=>exact .tup (s _ _ h) hl ih
 |tupk h=>exact .tupk h
 |lst h hl _ ih=>exact .lst (s.seq h) hl ih
 |dct h he hk _ ih=>exact .dct (Jl h s) he hk ih
 |fn h=>exact .fn (FX.mono h s)
theorem bL.drop(r:bL K F d v):bL K (B4 F) d v:=by
 induction r with
 |non=>exact .non
 |bl b=>exact .bl b
 |int i=>exact .int i
 |str x=>exact .str x
 |tup h hl _ ih=>exact .tup (FN h rfl) hl ih
 |tupk h=>exact .tupk h
 |lst h hl _ ih =>
  refine .lst ?_ hl ih;rcases h with(h|⟨o,h⟩)|h
  .exact .inl (.inl (FN h rfl))
  .exact .inl (.inr ⟨o,FN h rfl⟩)
  .exact .inr h
 |dct h he hk _ ih =>
  refine .dct ?_ he hk ih;rcases h with h|⟨o,h⟩
  .exact .inl (FN h rfl)
  .exact .inr ⟨o,FN h rfl⟩
 |fn h=>exact .fn (FX.drop h)
theorem Zt.drop'(r:Zt K F ds vs):Zt K (B4 F) ds vs:=⟨r.1,λi d v h1 h2=>(r.2 i d v h1 h2).drop⟩
theorem AS.dr(s:AS H H'):Zp (B4 H) H':=λb o h=>s.ntb (JI h).1 (JI h).2
theorem bL.monoT(r:bL K H d v)(s:AS H H'):bL K H' d v:=r.drop.mono s.dr
theorem Zt.mono(r:Zt K F ds vs)(s:Zp F F'):Zt K F' ds vs:=⟨r.1,λi d v h1 h2=>(r.2 i d v h1 h2).mono s⟩
theorem Zt.nil:Zt K F [] []:=⟨rfl,λi d v h=>by simp at h⟩
theorem Zt.cons(r:bL K F d v)(q:Zt K F ds vs):Zt K F (d::ds) (v::vs) :=
 ⟨by rw[AL,AL,q.1],λi e u h1 h2=>by
  cases i with
  |zero=>rw[DS]at h1 h2;cases h1;cases h2;exact r
  |succ i=>rw[Bq]at h1 h2;exact q.2 i e u h1 h2⟩
theorem Zt.nil_inv(r:Zt K F [] vs):vs=[]:=Dy r.1.symm
theorem Zt.cons_inv(r:Zt K F (d::ds) vs):∃v us,vs=v::us/\bL K F d v/\Zt K F ds us:=by
 cases vs with
 |nil=>exact absurd r.1 (by simp)
 |cons v us =>
  refine⟨v,us,rfl,r.2 0 d v rfl rfl,?_,λi e u h1 h2=>r.2 (i+1) e u ?_ ?_⟩
  .have:=r.1
   rw[AL,AL]at this;omega
  .rw[Bq];exact h1
  .rw[Bq];exact h2
theorem Zt.append(r:Zt K F ds vs)(q:Zt K F es us):Zt K F (ds++es) (vs++us):=by
 refine⟨by rw[AH,AH,r.1,q.1],λi e u h1 h2=>?_⟩
 by_cases hi:i<ds.length
 .rw[CG hi]at h1
  rw[CG (by rw[<-r.1];exact hi)]at h2;exact r.2 i e u h1 h2
 .rw[CZ (by omega)]at h1
  rw[CZ (by have:=r.1;omega),<-r.1]at h2;exact q.2 _ e u h1 h2
theorem Zt.get(r:Zt K F ds vs){i:Nat}(h:ds[i]?=some d):∃v,vs[i]?=some v/\bL K F d v:=by
 have hi:i<vs.length:=by rw[<-r.1];exact(AO.mp h).1
 exact⟨vs[i],AV hi,r.2 i d _ h (AV hi)⟩
theorem Zt.drop(r:Zt K F ds vs)(n:Nat):Zt K F (ds.drop n) (vs.drop n) :=
 ⟨by rw[Gj,Gj,r.1],λi e u h1 h2=>by rw[List.getElem?_drop]at h1 h2;exact r.2 _ e u h1 h2⟩
theorem Zt.take(r:Zt K F ds vs)(n:Nat):Zt K F (ds.take n) (vs.take n) :=
 ⟨by rw[Fo,Fo,r.1],λi e u h1 h2=>by
  by_cases hi:i<n
  .rw[NF hi]at h1 h2
   exact r.2 _ e u h1 h2
  .rw[List.getElem?_take_eq_none (by omega)]at h1
   cases h1⟩
theorem Zt.set(r:Zt K F ds vs)(q:bL K F d v)(j:Nat):Zt K F (ds.set j d) (vs.set j v):=by
 refine⟨by rw[B6,B6,r.1],λi e u h1 h2=>?_⟩;have hi:i<ds.length:=by have:=(AO.mp h1).1;rwa [B6]at this
 by_cases e1:j=i
 .subst e1
  rw[CH hi]at h1;rw[CH (by rw[<-r.1];exact hi)]at h2;cases h1;cases h2;exact q
 .rw[Bl e1]at h1 h2
  exact r.2 i e u h1 h2
theorem Zt.rep(r:Zt K F ds vs)(k:Nat):Zt K F (Al k ds).flatten (Al k vs).flatten:=by
 induction k with
 |zero=>exact Zt.nil
 |succ k ih=>rw[Ex,Ex,Fl,Fl];exact r.append ih
theorem Zt.one(r:bL K F d v):Zt K F [d] [v]:=.cons r .nil
end
def iJ(H:J)(a:Addr)(o:HO):Prop:=H a=none\/∃xs,o=.tup xs/\H a=some (.tup xs)
theorem iJ.back{H H':J}{a:Addr}{o:HO}(s:AS H H')(f:iJ H' a o):iJ H a o:=by
 rcases f with f|⟨xs,e,f⟩
 .exact .inl (s.free f)
 .cases q:H a with
  |none=>exact .inl q
  |some u =>
   have:=s.back q f λ_ z=>by cases z
   subst this;exact .inr ⟨xs,e,q⟩
theorem iJ.no(f:iJ H a o)(h:H a=some u)(n:∀xs,u≠.tup xs):False:=by
 rcases f with f|⟨xs,_,f⟩
 .rw[h]at f;cases f
 .rw[h]at f;cases f;exact n xs rfl
structure bP(F H F' H':J):Prop where
 ff:Zp F F'
 hh:AS H H'
 sub:Zp F' H'
 new:∀a o,F' a=some o->F a=some o\/iJ H a o
 tab:Tb H->Tb H'
 nts:dM F->dM F'
theorem bP.refl{F H:J}(s:Zp F H):bP F H F H:=⟨Zp.refl F,AS.refl H,s,λ_ _ h=>.inl h,id,id⟩
theorem bP.trans{F H F1 H1 F2 H2:J}(a:bP F H F1 H1)(b:bP F1 H1 F2 H2):bP F H F2 H2 :=
 ⟨a.ff.trans b.ff,a.hh.trans b.hh,b.sub,λx o h=>by
  rcases b.new x o h with q|q
  .exact a.new x o q
  .exact .inr (q.back a.hh),λt=>b.tab (a.tab t),λt=>b.nts (a.nts t)⟩
theorem GG(h:F p=none):Zp F (upd F p o):=λb q z=>by rw[Zu (Cs z h)];exact z
theorem bP.lay(e:bP F H F' H')(h:H' p=none)(no:nt o=true:=by rfl):bP F H (upd F' p o) (upd H' p o):=by
 have hF:F' p=none:=e.sub.free h;refine⟨λb q z=>?_,e.hh.trans (.of (GG h)),λb q z=>?_,λb q z=>?_,λt=>(e.tab t).same (GG h),λt=>(e.nts t).upd no⟩
 .rw[Zu (Cs (e.ff b q z) hF)];exact e.ff b q z
 .by_cases hb:b=p
  .subst hb;rw[Zz]at z ⊢;exact z
  .rw[Zu hb]at z ⊢;exact e.sub b q z
 .by_cases hb:b=p
  .subst hb;exact .inr (.inl (e.hh.free h))
  .rw[Zu hb]at z;exact e.new b q z
theorem bP.lay'(e:bP F H F' H')(h:H' p=none):bP F H F' (upd H' p o):=by refine⟨e.ff,e.hh.trans (.of (GG h)),λb q z=>?_,e.new,λt=>(e.tab t).same (GG h),e.nts⟩;rw[Zu (Cs (e.sub b q z) h)];exact e.sub b q z
theorem Zp.upd'(h:F p=none):Zp F (upd F p o):=λb q z=>by rw[Zu (Cs z h)];exact z
def AN(F H:J):J:=λa=>match H a with
 |some (.tup xs)=>some (.tup xs)
 |_=>F a
theorem VM{xs:List V}(h:H a=some (.tup xs)):AN F H a=some (.tup xs):=by unfold AN;rw[h]
theorem Cd(s:Zp F H):Zp F (AN F H):=λa o h=>by
 have:=s a o h;unfold AN;split
 .rename_i xs q
  rw[q]at this;exact this
 .exact h
theorem bP.tups(e:bP F H F' H'):bP F H (AN F' H') H':=by
 have key:bP F' H' (AN F' H') H':=by
  refine⟨Cd e.sub,AS.refl H',λa o h=>?_,λa o h=>?_,id,λn a o h=>?_⟩
  .unfold AN at h
   split at h
   .rename_i xs q;rw[q];exact h
   .exact e.sub a o h
  .unfold AN at h
   split at h
   .rename_i xs q
    cases h;exact .inr (.inr ⟨xs,rfl,q⟩)
   .exact .inl h
  .unfold AN at h
   split at h
   .cases h;rfl
   .exact n a o h
 exact e.trans key
inductive ZZ(K:Ad)(F H:J):HM.B->V->List Addr->Prop where
 |pl {d:PyData} {v:V} (r:bL K F d v):ZZ K F H (.pl d) v []
 |ol {a:Addr} {ds:List PyData} {vs:List V} (h:H a=some (.lst vs)) (r:Zt K F ds vs):ZZ K F H (.ol ds) (.ref a) [a]
 |ok {a:Addr} {kvs:List (bO×PyData)} {vvs:List (bO×V)} (h:H a=some (.dK vvs)) (hk:kvs.map (·.1)=vvs.map (·.1)) (r:Zt K F (kvs.map (·.2)) (vvs.map (·.2))):ZZ K F H (.ok kvs) (.ref a) [a]
 |ot {a:Addr} {kvs:List (List bO×PyData)} {vvs:List (List bO×V)} (h:H a=some (.dT vvs)) (hk:kvs.map (·.1)=vvs.map (·.1)) (r:Zt K F (kvs.map (·.2)) (vvs.map (·.2))):ZZ K F H (.ot kvs) (.ref a) [a]
 | otl {a:Addr} {kvs:List (List bO×List PyData)} {vvs:List (List bO×V)} {ls:List Addr} (h:H a=some (.dT vvs)) (hk:kvs.map (·.1)=vvs.map (·.1)) (hv:vvs.map (·.2)=ls.map V.ref)
   (r:∀(i:Nat) (ds:List PyData) (l:Addr),(kvs.map (·.2))[i]?=some ds->ls[i]?=some l->∃vs,H l=some (.lst vs)/\Zt K F ds vs):ZZ K F H (.otl kvs) (.ref a) (a::ls)
 |hd {a:Addr} {o:Obj} {es:List (PyData×PyData)} {kvs:List (List bO×PyData)} {vvs:List (List bO×V)} (h:F a=some (.frz o (.dT vvs))) (he:es=HM.ZN kvs) (hk:kvs.map (·.1)=vvs.map (·.1)) (r:Zt K F (kvs.map (·.2)) (vvs.map (·.2))):ZZ K F H (.hd es) (.ref a) []
 |hf {a:Addr} {t:Nat} {cs:List PyData} (h:FX.fv t cs F a):ZZ K F H (.hd [(.none,.int (Int.ofNat t)),(.none,.list cs)]) (.ref a) []
section
variable{K:Ad}{F F' H H':J}{b:HM.B}{v:V}{fp:List Addr}
theorem ZZ.mono(r:ZZ K F H b v fp)(s:Zp F F')(k:∀a∈fp,∀o,H a=some o->B3 H' a o):ZZ K F' H' b v fp:=by
 cases r with
 |pl r=>exact .pl (r.mono s)
 |ol h r=>exact .ol (k _ (by simp) _ h) (r.mono s)
 |ok h hk r=>exact .ok (k _ (by simp) _ h) hk (r.mono s)
 |ot h hk r=>exact .ot (k _ (by simp) _ h) hk (r.mono s)
 |hd h he hk r=>exact .hd (s _ _ h) he hk (r.mono s)
 |hf h=>exact .hf (FX.mono h s)
 |otl h hk hv r=>refine .otl (k _ (by simp) _ h) hk hv λi ds l h1 h2=>?_;obtain⟨vs,q1,q2⟩:=r i ds l h1 h2;exact⟨vs,k l (Aq _ (DR h2)) _ q1,q2.mono s⟩
theorem ZZ.there2(r:ZZ K F H b v fp)(h:a∈fp):∃o,H a=some o/\Ez o=true:=by
 cases r with
 |pl r=>simp at h
 |hd _ _ _ _=>simp at h
 |hf _=>simp at h
 |ol q r=>simp at h;subst h;exact⟨_,q,rfl⟩
 |ok q hk r=>simp at h;subst h;exact⟨_,q,rfl⟩
 |ot q hk r=>simp at h;subst h;exact⟨_,q,rfl⟩
 | @otl a' kvs vvs ls q hk hv r =>
  rcases Aw.mp h with e|e
  .subst e;exact⟨_,q,rfl⟩
  .obtain⟨i,hi⟩:=List.getElem?_of_mem e
   have hl:kvs.length=ls.length:=by have e1:=congrArg Bb hk;have e2:=congrArg Bb hv;rw[Ae,Ae]at e1 e2;omega
   have hi':i<kvs.length:=by rw[hl];exact(AO.mp hi).1
   obtain⟨vs,q1,_⟩:=r i (kvs[i].2) a (by simp[hi']) hi;exact⟨_,q1,rfl⟩
theorem ZZ.there'(r:ZZ K F H b v fp)(h:a∈fp):∃o,H a=some o/\∀xs,o≠.tup xs:=by
 cases r with
 |pl r=>simp at h
 |hd _ _ _ _=>simp at h
 |hf _=>simp at h
 |ol q r=>simp at h;subst h;exact⟨_,q,λ_ z=>by cases z⟩
 |ok q hk r=>simp at h;subst h;exact⟨_,q,λ_ z=>by cases z⟩
 |ot q hk r=>simp at h;subst h;exact⟨_,q,λ_ z=>by cases z⟩
 | @otl a' kvs vvs ls q hk hv r =>
  rcases Aw.mp h with e|e
  .subst e;exact⟨_,q,λ_ z=>by cases z⟩
  .obtain⟨i,hi⟩:=List.getElem?_of_mem e
   have hl:kvs.length=ls.length:=by have e1:=congrArg Bb hk;have e2:=congrArg Bb hv;rw[Ae,Ae]at e1 e2;omega
   have hi':i<kvs.length:=by rw[hl];exact(AO.mp hi).1
   obtain⟨vs,q1,_⟩:=r i (kvs[i].2) a (by simp[hi']) hi;exact⟨_,q1,λ_ z=>by cases z⟩
theorem ZZ.there(r:ZZ K F H b v fp)(h:a∈fp):∃o,H a=some o:=let ⟨o,q,_⟩:=r.there' h;⟨o,q⟩
end
structure Ax(K:Ad)(F0 H0 F H:J)(r:HM.Env)(Y:L2.St)(fp:Nat->List Addr):Prop where
 ext:bP F0 H0 F H
 len:r.length=Y.length
 at_:∀(i:Nat) (b:HM.B),r[i]?=some (some b)->∃v,Y[i]?=some (some v)/\ZZ K F H b v (fp i)
 emp:∀(i:Nat),(∀b,r[i]?≠some (some b))->fp i=[]
 own:∀(i:Nat) (a:Addr),a∈fp i->F a=none/\H0 a=none
 nd:∀i,(fp i).Nodup
 dis:∀(i j:Nat) (a:Addr),i≠j->a∈fp i->¬a∈fp j
 tb:Tb H0
 nt:dM F0
def At(K:Ad)(F0 H0 F H:J)(r:HM.Env)(Y:L2.St):Prop:=∃fp,Ax K F0 H0 F H r Y fp
section
variable{K:Ad}{F0 H0 F H F' H':J}{r:HM.Env}{Y:L2.St}{fp:Nat->List Addr}{i:Nat}{b:HM.B}{v:V}{d:PyData}
theorem Ax.bound(e:Ax K F0 H0 F H r Y fp)(h:a∈fp i):∃b,r[i]?=some (some b):=by
 cases q:r[i]? with
 |none=>rw[e.emp i (λb z=>by rw[q]at z;cases z)]at h;simp at h
 |some x =>
  cases x with
  |none=>rw[e.emp i (λb z=>by rw[q]at z;cases z)]at h;simp at h
  |some b=>exact⟨b,rfl⟩
theorem Ax.there'(e:Ax K F0 H0 F H r Y fp){a:Addr}(h:a∈fp i):∃o,H a=some o/\∀xs,o≠.tup xs:=by obtain⟨b,hb⟩:=e.bound h;obtain⟨v,_,q⟩:=e.at_ i b hb;exact q.there' h
theorem Ax.there2(e:Ax K F0 H0 F H r Y fp){a:Addr}(h:a∈fp i):∃o,H a=some o/\Ez o=true:=by obtain⟨b,hb⟩:=e.bound h;obtain⟨v,_,q⟩:=e.at_ i b hb;exact q.there2 h
theorem Ax.there(e:Ax K F0 H0 F H r Y fp)(h:a∈fp i):∃o,H a=some o:=let ⟨o,q,_⟩:=e.there' h;⟨o,q⟩
theorem Ax.sub(e:Ax K F0 H0 F H r Y fp):Zp F H:=e.ext.sub
theorem Ax.grow(e:Ax K F0 H0 F H r Y fp)(x:bP F H F' H'):Ax K F0 H0 F' H' r Y fp:=by
 refine⟨e.ext.trans x,e.len,λi b h=>?_,e.emp,λi a h=>⟨?_,(e.own i a h).2⟩,e.nd,e.dis,e.tb,e.nt⟩
 .obtain⟨v,h1,h2⟩:=e.at_ i b h
  exact⟨v,h1,h2.mono x.ff λa _ o q=>x.hh a o q⟩
 .cases q:F' a with
  |none=>rfl
  |some o =>
   rcases x.new a o q with z|z
   .rw[(e.own i a h).1]at z;cases z
   .obtain⟨o',h',hn⟩:=e.there' h
    exact(z.no h' hn).elim
theorem At.grow(e:At K F0 H0 F H r Y)(x:bP F H F' H'):At K F0 H0 F' H' r Y:=let ⟨fp,e⟩:=e;⟨fp,e.grow x⟩
theorem At.tb(e:At K F0 H0 F H r Y):Tb H:=let ⟨_,e⟩:=e;e.ext.tab e.tb
theorem At.tbx(e:At K F0 H0 F H r Y)(x:bP F H F' H'):Tb H':=x.tab e.tb
theorem At.nt(e:At K F0 H0 F H r Y):dM F:=let ⟨_,e⟩:=e;e.ext.nts e.nt
theorem At.ntx(e:At K F0 H0 F H r Y)(x:bP F H F' H'):dM F':=x.nts e.nt
theorem At.nt0(e:At K F0 H0 F H r Y):dM F0:=let ⟨_,e⟩:=e;e.nt
theorem At.sub(e:At K F0 H0 F H r Y):Zp F H:=let ⟨_,e⟩:=e;e.ext.sub
theorem At.ext(e:At K F0 H0 F H r Y):bP F0 H0 F H:=let ⟨_,e⟩:=e;e.ext
theorem At.len(e:At K F0 H0 F H r Y):r.length=Y.length:=let ⟨_,e⟩:=e;e.len
theorem At.refl(e:At K F0 H0 F H r Y):bP F H F H:=.refl e.sub
theorem At.plain(e:At K F0 H0 F H r Y)(h:r[i]?=some (some (.pl d))):∃v,Y[i]?=some (some v)/\bL K F d v:=by
 obtain⟨fp,e⟩:=e;obtain⟨v,h1,h2⟩:=e.at_ i _ h;generalize fp i=f at h2;cases h2 with
 |pl q=>exact⟨v,h1,q⟩
theorem At.any(e:At K F0 H0 F H r Y)(h:r[i]?=some (some b)):∃v fp,Y[i]?=some (some v)/\ZZ K F H b v fp:=by obtain⟨fp,e⟩:=e;obtain⟨v,h1,h2⟩:=e.at_ i _ h;exact⟨v,_,h1,h2⟩
theorem At.store(e:At K F0 H0 F H r Y)(q:ZZ K F H b v fp')(nd:fp'.Nodup)(h1:∀a∈fp',F a=none/\H0 a=none)(h2:∀fp,Ax K F0 H0 F H r Y fp->∀j a,j≠i->a∈fp j->¬a∈fp'):At K F0 H0 F H (r.set i (some b)) (Y.set i (some v)):=by
 obtain⟨fp,e⟩:=e;have h2:=h2 fp e
 by_cases hi:i<r.length
 .refine⟨λj=>if j=i then fp' else fp j,e.ext,by rw[B6,B6,e.len],λj c h=>?_,λj h=>?_,λj a h=>?_,λj=>?_,λj k a gL h=>?_,e.tb,e.nt⟩
  .by_cases hj:j=i
   .subst hj
    rw[CH hi]at h;cases h;refine⟨v,CH (by rw[<-e.len];exact hi),?_⟩;rw[if_pos rfl];exact q
   .rw[Bl (Az hj)]at h
    obtain⟨u,q1,q2⟩:=e.at_ j c h;refine⟨u,by rw[Bl (Az hj)];exact q1,?_⟩;rw[if_neg hj];exact q2
  .by_cases hj:j=i
   .subst hj
    exact absurd (CH hi) (h b)
   .show(if j=i then fp' else fp j)=[]
    rw[if_neg hj];exact e.emp j λc z=>h c (by rw[Bl (Az hj)];exact z)
  .by_cases hj:j=i
   .rw[if_pos hj]at h;exact h1 a h
   .rw[if_neg hj]at h;exact e.own j a h
  .show(if j=i then fp' else fp j).Nodup
   by_cases hj:j=i
   .rw[if_pos hj];exact nd
   .rw[if_neg hj];exact e.nd j
  .show ¬a∈(if k=i then fp' else fp k)
   by_cases hj:j=i
   .rw[if_pos hj]at h
    by_cases hk:k=i
    .exact absurd (hj.trans hk.symm) gL
    .rw[if_neg hk];exact λz=>h2 k a hk z h
   .rw[if_neg hj]at h
    by_cases hk:k=i
    .rw[if_pos hk];exact h2 j a hj h
    .rw[if_neg hk];exact e.dis j k a gL h
 .have e1:r.set i (some b)=r:=ND (by omega)
  have e2:Y.set i (some v)=Y:=ND (by have:=e.len;omega);rw[e1,e2];exact⟨fp,e⟩
theorem At.set(e:At K F0 H0 F H r Y)(q:bL K F d v):At K F0 H0 F H (r.set i (some (.pl d))) (Y.set i (some v)) :=
 e.store (.pl q) CY (λa h=>by simp at h) λ_ _ _ _ _ _ h=>by simp at h
theorem Ax.changeW(e:Ax K F0 H0 F H r Y fp)(hv:Y[i]?=some (some v))(q:ZZ K F H' b v fp')(nd:fp'.Nodup)(h1:∀a∈fp',a∈fp i\/(F a=none/\H0 a=none/\∀j,a∉fp j))(h2:∀a o,H a=some o->¬a∈fp i->H' a=some o):At K F0 H0 F H' (r.set i (some b)) Y:=by
 have sF:Zp F H':=λa o z=>h2 a o (e.sub a o z) λm=>by rw[(e.own i a m).1]at z;cases z
 have sH:AS H0 H':=λa o z=>by
  have nm:¬a∈fp i:=λm=>by rw[(e.own i a m).2]at z;cases z
  have y:=e.ext.hh a o z;cases o<;>first|exact h2 a _ y nm|(obtain⟨ps,q⟩:=y;exact⟨ps,h2 a _ q nm⟩)
 have sT:Tb H0->Tb H':=λt=>(e.ext.tab t).keep λa o z ho=>h2 a o z λm=>by obtain⟨o',q1,q2⟩:=e.there2 m;rw[z]at q1;cases q1;exact OE q2 ho
 have e':Ax K F0 H0 F H' (r.set i none) (Y.set i none) (λj=>if j=i then[]else fp j):=by
  refine⟨⟨e.ext.ff,sH,sF,e.ext.new,sT,e.ext.nts⟩,by rw[B6,B6,e.len],λj c h=>?_,λj h=>?_,λj a h=>?_,λj=>?_,λj k a gL h=>?_,e.tb,e.nt⟩
  .by_cases hj:j=i
   .subst hj
    by_cases hi:j<r.length
    .rw[CH hi]at h;cases h
    .rw[Nv (by rw[B6];omega)]at h;cases h
   .rw[Bl (Az hj)]at h
    obtain⟨u,q1,q2⟩:=e.at_ j c h;refine⟨u,by rw[Bl (Az hj)];exact q1,?_⟩;rw[if_neg hj];exact q2.mono (Zp.refl F) λa ha o z=>.of (h2 a o z (e.dis j i a hj ha))
  .show(if j=i then[]else fp j)=[]
   by_cases hj:j=i
   .rw[if_pos hj]
   .rw[if_neg hj]
    exact e.emp j λc z=>h c (by rw[Bl (Az hj)];exact z)
  .by_cases hj:j=i
   .rw[if_pos hj]at h;simp at h
   .rw[if_neg hj]at h;exact e.own j a h
  .show(if j=i then[]else fp j).Nodup
   by_cases hj:j=i
   .rw[if_pos hj];exact CY
   .rw[if_neg hj];exact e.nd j
  .show ¬a∈(if k=i then[]else fp k)
   by_cases hj:j=i
   .rw[if_pos hj]at h;simp at h
   .rw[if_neg hj]at h
    by_cases hk:k=i
    .rw[if_pos hk];simp
    .rw[if_neg hk];exact e.dis j k a gL h
 have hF:∀a∈fp',F a=none/\H0 a=none:=λa ha=>by
  rcases h1 a ha with z|z
  .exact e.own i a z
  .exact⟨z.1,z.2.1⟩
 have e2:=At.store (i:=i) ⟨_,e'⟩ q nd hF λfq eq j a hj ha z=>by
  obtain⟨c,hc⟩:=eq.bound ha;rw[Bl (Az hj)]at hc;obtain⟨u1,s1,r1⟩:=eq.at_ j c (by rw[Bl (Az hj)];exact hc);obtain⟨u2,s2,r2⟩:=e.at_ j c hc;rw[Bl (Az hj),s2]at s1;cases s1;have hm:a∈fp j:=by
   have r2':=r2.mono (H':=H') (Zp.refl F) λa ha o z=>.of (h2 a o z (e.dis j i a hj ha))
   clear r2
   generalize fq j=f1 at r1 ha;generalize fp j=f2 at r2' ⊢;cases r1 with
   |pl _=>simp at ha
   |hd _ _ _ _=>simp at ha
   |hf _=>simp at ha
   |ol _ _=>cases r2' with|ol _ _=>exact ha
   |ok _ _ _=>cases r2' with|ok _ _ _=>exact ha
   |ot _ _ _=>cases r2' with|ot _ _ _=>exact ha
   |otl a1 _ v1 _ =>
    cases r2' with
    |otl a2 _ v2 _ =>
     rw[a1]at a2;cases a2;rw[v1]at v2;have:∀{l l':List Addr},l.map V.ref=l'.map V.ref->l=l':=by
      intro l
      induction l with
      |nil=>intro l' h;cases l' with|nil=>rfl|cons _ _=>simp at h
      |cons x xs ih =>
       intro l' h;cases l' with
       |nil=>simp at h
       |cons y ys =>
        rw[Ao,Ao]at h;injection h with h1 h2
        injection h1 with h1
        rw[h1,ih h2]
     rw[<-this v2];exact ha
  rcases h1 a z with w|w
  .exact e.dis j i a hj hm w
  .exact w.2.2 j hm
 rw[HF,HF]at e2;have es:Y.set i (some v)=Y:=by have hi:i<Y.length:=(AO.mp hv).1;have hq:Y[i]=some v:=(AO.mp hv).2;rw[<-hq];exact NQ hi
 rwa [es]at e2
theorem Ax.change(e:Ax K F0 H0 F H r Y fp)(hv:Y[i]?=some (some v))(q:ZZ K F H' b v fp')(nd:fp'.Nodup)(h1:∀a∈fp',a∈fp i\/H a=none)(h2:∀a o,H a=some o->¬a∈fp i->H' a=some o):At K F0 H0 F H' (r.set i (some b)) Y :=
 e.changeW hv q nd (λa ha=>(h1 a ha).imp id λz=>⟨e.sub.free z,e.ext.hh.free z,λj hj=>by obtain⟨o,ho⟩:=e.there hj;rw[z]at ho;cases ho⟩) h2
theorem At.storeNew{Hb:J}(e:At K F0 H0 F H r Y)(hb:At K F0 H0 F' Hb r Y)(sb:AS Hb H)(q:ZZ K F H b v fp')(nd:fp'.Nodup)(h1:∀a∈fp',F a=none/\Hb a=none):At K F0 H0 F H (r.set i (some b)) (Y.set i (some v)):=by
 refine e.store q nd (λa h=>⟨(h1 a h).1,hb.ext.hh.free (h1 a h).2⟩) λfp e1 j a hj ha z=>?_;obtain⟨fq,eb⟩:=hb;obtain⟨c,hc⟩:=e1.bound ha;obtain⟨u1,s1,r1⟩:=e1.at_ j c hc;obtain⟨u2,s2,r2⟩:=eb.at_ j c hc;rw[s2]at s1;cases s1;have hn:=(h1 a z).2;have gZ:∀{x:Addr} {o o':HO},Hb x=some o->H x=some o'->(∀ps,o'≠.tbl ps)->o=o':=λ{x o o'} h1 h2 n=>sb.back h1 h2 n;generalize fp j=f1 at r1 ha;generalize fq j=f2 at r2;cases r1 with
 |pl _=>simp at ha
 |hd _ _ _ _=>simp at ha
 |hf _=>simp at ha
 |ol k _=>cases r2 with|ol k' _=>simp at ha;subst ha;rw[hn]at k';cases k'
 |ok k _ _=>cases r2 with|ok k' _ _=>simp at ha;subst ha;rw[hn]at k';cases k'
 |ot k _ _=>cases r2 with|ot k' _ _=>simp at ha;subst ha;rw[hn]at k';cases k'
 |otl k _ v1 _ =>
  cases r2 with
  |otl k' hk' v2 r2' =>
   have eo:=gZ k' k λ_ z=>by cases z
   injection eo with eo
   subst eo;have v2':=v2;rw[v1]at v2;rcases Aw.mp ha with z2|z2
   .subst z2;rw[hn]at k';cases k'
   .have:V.ref a∈F5 V.ref _:=Ak.mpr ⟨a,z2,rfl⟩
    rw[v2]at this;obtain⟨a',m1,m2⟩:=Ak.mp this;injection m2 with m2
    subst m2;obtain⟨o,ho⟩:=ZZ.there (ZZ.otl k' hk' v2' r2') (Aq _ m1);rw[hn]at ho;cases ho
theorem At.rebase(e:At K F0 H0 F H r Y):At K F H0 F H r Y:=by obtain⟨fp,e⟩:=e;exact⟨fp,⟨Zp.refl F,e.ext.hh,e.ext.sub,λ_ _ z=>.inl z,e.ext.tab,id⟩,e.len,e.at_,e.emp,e.own,e.nd,e.dis,e.tb,e.ext.nts e.nt⟩
theorem bP.unbase{F1:J}(x:bP F0 H0 F1 H1)(y:bP F1 H0 F H):bP F0 H0 F H :=
 ⟨x.ff.trans y.ff,y.hh,y.sub,λa o z=>(y.new a o z).elim (λq=>x.new a o q) .inr,y.tab,λt=>y.nts (x.nts t)⟩
theorem At.unbase{F1 H1:J}(x:bP F0 H0 F1 H1)(n:dM F0)(e:At K F1 H0 F H r Y):At K F0 H0 F H r Y:=by obtain⟨fp,e⟩:=e;exact⟨fp,x.unbase e.ext,e.len,e.at_,e.emp,e.own,e.nd,e.dis,e.tb,n⟩
theorem Ax.freeze{fp:Nat->List Addr}(e:Ax K F0 H0 F H r Y fp)(i:Nat){b:HM.B}{ob:HO}{d:PyData}(hb:r[i]?=some (some b))(h1:Y[i]?=some (some (.ref a)))(eR:fp i=[a])(ha:H a=some ob)(hr:Zp F (upd F a ob)->bL K (upd F a ob) d (.ref a))(no:HP.nt ob=true:=by rfl):∃F',bP F0 H0 F' H/\Zp F F'/\At K F0 H0 F' H (r.set i (some (.pl d))) Y:=by
 have hF:F a=none:=(e.own i a (by rw[eR];simp)).1;have s:Zp F (upd F a ob):=Zp.upd' hF;have x:bP F0 H0 (upd F a ob) H:=by
  refine⟨e.ext.ff.trans s,e.ext.hh,λc o z=>?_,λc o z=>?_,e.ext.tab,λt=>(e.ext.nts t).upd no⟩
  .by_cases hc:c=a
   .subst hc;rw[Zz]at z;cases z;exact ha
   .rw[Zu hc]at z;exact e.sub c o z
  .by_cases hc:c=a
   .subst hc;exact .inr (.inl (e.own i c (by rw[eR];simp)).2)
   .rw[Zu hc]at z;exact e.ext.new c o z
 refine⟨_,x,s,?_⟩;have e1:Ax K F0 H0 (upd F a ob) H (r.set i none) (Y.set i none) (λj=>if j=i then[]else fp j):=by
  refine⟨x,by rw[B6,B6,e.len],λj c h=>?_,λj h=>?_,λj c h=>?_,λj=>?_,λj k c gL h=>?_,e.tb,e.nt⟩
  .by_cases hj:j=i
   .subst hj
    rw[CH (AO.mp hb).1]at h;cases h
   .rw[Bl (Az hj)]at h
    obtain⟨u,q1,q2⟩:=e.at_ j c h;refine⟨u,by rw[Bl (Az hj)];exact q1,?_⟩;rw[if_neg hj];exact q2.mono s λ_ _ _ z=>.of z
  .show(if j=i then[]else fp j)=[]
   by_cases hj:j=i
   .rw[if_pos hj]
   .rw[if_neg hj]
    exact e.emp j λc z=>h c (by rw[Bl (Az hj)];exact z)
  .by_cases hj:j=i
   .rw[if_pos hj]at h;simp at h
   .rw[if_neg hj]at h
    have nS:c≠a:=λz=>e.dis j i c hj h (by rw[eR,z];simp);exact⟨by rw[Zu nS];exact(e.own j c h).1,(e.own j c h).2⟩
  .show(if j=i then[]else fp j).Nodup
   by_cases hj:j=i
   .rw[if_pos hj];exact CY
   .rw[if_neg hj];exact e.nd j
  .show ¬c∈(if k=i then[]else fp k)
   by_cases hj:j=i
   .rw[if_pos hj]at h;simp at h
   .rw[if_neg hj]at h
    by_cases hk:k=i
    .rw[if_pos hk];simp
    .rw[if_neg hk];exact e.dis j k c gL h
 have rp:=hr s;have e2:=At.set (i:=i) ⟨_,e1⟩ rp;rw[HF,HF]at e2;have es:Y.set i (some (.ref a))=Y:=by have hi:i<Y.length:=(AO.mp h1).1;have hq:Y[i]=some (.ref a):=(AO.mp h1).2;rw[<-hq];exact NQ hi
 rwa [es]at e2
theorem At.freeze(e:At K F0 H0 F H r Y)(i:Nat):∃F',bP F0 H0 F' H/\Zp F F'/\At K F0 H0 F' H (HM.Yy i r) Y:=by
 unfold HM.Yy;split
 .rename_i ds hb
  obtain⟨fp,e⟩:=e;obtain⟨v,h1,h2⟩:=e.at_ i _ hb;generalize eR:fp i=f at h2;cases h2 with
  | @ol a _ vs ha q=>exact e.freeze i hb h1 eR ha λs=>.lst (.of Zz) q.1 (q.mono s).2
 .rename_i kvs hb
  obtain⟨fp,e⟩:=e;obtain⟨v,h1,h2⟩:=e.at_ i _ hb;generalize eR:fp i=f at h2;cases h2 with
  | @ot a _ vvs ha hk q=>exact e.freeze i hb h1 eR ha λs=>.dct (.inl Zz) rfl hk (q.mono s).2
 .exact⟨F,e.ext,Zp.refl F,e⟩
end
inductive eD(K:Ad)(r:HM.Env)(Y:L2.St)(H:J)(C:J->J->J->Prop):Prop
 |mk (F0 H0 F:J) (at_:At K F0 H0 F H r Y) (k:C F0 H0 F):eD K r Y H C
end HP
namespace HP
open PySem PySem.Spec PyProof.Rows L2
variable[FX]
section
variable{X:Cx}{f:HM.AF}{r:HM.Env}{u:HM.TF}{F:J}{i:Int}{es rest:List Expr}{j:Nat}{g:PyData->PyData->Option PyData}{K:Ad}{x:Str}
def gX(K:Ad)(r:HM.Env)(P:J->J->J->V->Prop):TE:=λY H Q=>eD K r Y H λF0 H0 F=>∀v F' H',bP F H F' H'->P H F' H' v->Q v H'
def XE(X:Cx)(e:Expr)(f:HM.EF):Prop:=∀r d,f r=some d->PE X e (gX X.K r λ_ F' _ v=>bL X.K F' d v)
def XB(X:Cx)(e:Expr)(f:HM.BF):Prop:=∀r b,f r=some b->PE X e (gX X.K r λ_ F' H' v=>∃fp,ZZ X.K F' H' b v fp)
def XF(X:Cx)(e:Expr)(f:HM.BF):Prop:=∀r b,f r=some b->PE X e (gX X.K r λH F' H' v=>∃fp,ZZ X.K F' H' b v fp/\fp.Nodup/\∀a∈fp,F' a=none/\H a=none)
def XT(X:Cx)(e:Expr)(f:HM.TF):Prop:=∀r c,f r=some c->PT X e λY H Q=>eD X.K r Y H λF0 H0 F=>∀F' H',bP F H F' H'->Q c H'
def XW(X:Cx)(e:Expr)(f:HM.TF):Prop:=∀r c,f r=some c->PW X e λY H Q=>eD X.K r Y H λF0 H0 F=>∀F' H',bP F H F' H'->Q c H'
structure XA(X:Cx)(es:List Expr)(f:HM.AF):Prop where
 len:∀r ds,f r=some ds->ds.length=es.length
 pa:∀r ds,f r=some ds->PA X es λY H Q=>eD X.K r Y H λF0 H0 F=>∀vs F' H',bP F H F' H'->Zt X.K F' ds vs->Q vs H'
def hZ(K:Ad)(oJ:It)(ds:List PyData)(F:J):Prop:=∀F' H,Zp F F'->Zp F' H ->
 (∀(i:Nat) (d:PyData),ds[i]?=some d->oJ.go i H/\∀x H',oJ.yld i H x H'->H'=H/\bL K (AN F' H) d x)/\oJ.stop ds.length H
def XI(X:Cx)(tg e:Expr)(f:HM.IF):Prop:=∀r ds,f r=some ds->PI X tg e λY H R=>eD X.K r Y H λF0 H0 F=>∀oJ F' H',bP F H F' H'->hZ X.K oJ ds F'->R oJ H'
def RZ(K:Ad)(F0 H0:J)(o:HM.gg)(E:er):Prop:=match o with
 | .nx r=>∀Y F H,At K F0 H0 F H r Y->E.nx Y H
 | .rt d=>∀v F H,bP F0 H0 F H->bL K F d v->E.rt v H
 | .bk r=>∀Y F H,At K F0 H0 F H r Y->E.bk Y H
 | .ct r=>∀Y F H,At K F0 H0 F H r Y->E.ct Y H
def il(K:Ad)(r:HM.Env)(o:HM.gg):TS:=λE Y H=>eD K r Y H λF0 H0 F=>RZ K F0 H0 o E
def XS(X:Cx)(st:Stmt)(g:HM.SF):Prop:=∀r o,g r=some o->PS X st (il X.K r o)
def eX(X:Cx)(ip:List Stmt)(g:HM.SF):Prop:=∀r o,g r=some o->cZ X ip (il X.K r o)
theorem PE.imp{e:Expr}{t u:TE}(h:PE X e t)(hi:∀Y H Q,u Y H Q->t Y H Q):PE X e u:=λbE s Y H Q I q=>h bE s Y H Q I (hi Y H Q q)
theorem PT.imp{e:Expr}{t u:TT}(h:PT X e t)(hi:∀Y H Q,u Y H Q->t Y H Q):PT X e u:=λbE s Y H Q I q=>h bE s Y H Q I (hi Y H Q q)
theorem PW.imp{e:Expr}{t u:TT}(h:PW X e t)(hi:∀Y H Q,u Y H Q->t Y H Q):PW X e u:=λwh bE s Y H Q I q=>h wh bE s Y H Q I (hi Y H Q q)
theorem PA.imp{t u:TA}(h:PA X es t)(hi:∀Y H Q,u Y H Q->t Y H Q):PA X es u:=λp bE s Y H Q I q=>h p bE s Y H Q I (hi Y H Q q)
theorem PS.imp{st:Stmt}{t u:TS}(h:PS X st t)(hi:∀E Y H,u E Y H->t E Y H):PS X st u:=λbE s Y H E I q=>h bE s Y H E I (hi E Y H q)
theorem cZ.imp{ip:List Stmt}{t u:TS}(h:cZ X ip t)(hi:∀E Y H,u E Y H->t E Y H):cZ X ip u:=λbE s Y H E I q=>h bE s Y H E I (hi E Y H q)
section
variable{X:Cx}{a b c e:Expr}{fa fb fc:HM.EF}{pos p:Pos}
theorem Ur{i:Nat}{d:PyData}(h:HM.S i r=some d):r[i]?=some (some (.pl d)):=by
 unfold HM.S at h;split at h
 .rename_i q;cases h;exact q
 .cases h
theorem U8{i:Nat}{d:HM.B}(h:HM.Zf i r=some d):r[i]?=some (some d):=by
 unfold HM.Zf at h;split at h
 .rename_i q;cases h;exact q
 .cases h
theorem Zc(i:Nat){pos:Pos}(hN:X.N[i]?=some x:=by rfl)(hv:d6 X.env.scope x:=by first|exact AE rfl|exact Ar (AE rfl)|exact Ar (Ar rfl))(hd:(x==("__debug__":Str))=false:=by decide)(dh:(x==("__classdict__":Str))=false:=by decide):XE X (.Name x pos) (HM.S i):=by
 intro r d h;refine PE.imp (Dj hN hv hd dh) λY H Q ⟨F0,H0,F,at_,k⟩=>?_;obtain⟨v,h1,h2⟩:=at_.plain (Ur h);exact⟨v,h1,k v F H at_.refl h2⟩
theorem Zq(i:Nat){pos:Pos}(hN:X.N[i]?=some x:=by rfl)(hv:d6 X.env.scope x:=by first|exact AE rfl|exact Ar (AE rfl)|exact Ar (Ar rfl))(hd:(x==("__debug__":Str))=false:=by decide)(dh:(x==("__classdict__":Str))=false:=by decide):XB X (.Name x pos) (HM.Zf i):=by
 intro r d h;refine PE.imp (Dj hN hv hd dh) λY H Q ⟨F0,H0,F,at_,k⟩=>?_;obtain⟨v,fp,h1,h2⟩:=at_.any (U8 h);exact⟨v,h1,k v F H at_.refl ⟨fp,h2⟩⟩
theorem Mb{v:V}{d:PyData}(h:PE X e (tC v))(r:∀F,bL X.K F d v):XE X e (HM.eC d):=by intro r' d' h';cases h';exact PE.imp h λY H Q ⟨F0,H0,F,at_,k⟩=>k v F H at_.refl (r F)
theorem Zg:XE X (.Constant (.int i) j pos) (HM.eC (.int i)):=Mb ON λ_=>.int i
theorem By{q:Bool}:XE X (.Constant (.bool q) j pos) (HM.eC (.bool q)):=Mb Rr λ_=>.bl q
theorem Jq(hm:∃t,X.mg x=some (.int i t))(hg:Gl X x:=by rfl)(hd:(x==("__debug__":Str))=false:=by decide):XE X (.Name x pos) (HM.eC (.int i)):=by obtain⟨t,hm⟩:=hm;exact Mb (S5 hg hm (v:=.int i) ⟨t,rfl⟩ hd) λ_=>.int i
theorem TN{p':Pos}:XE X (.UnaryOp .USub (.Constant (.int i) j p') pos) (HM.eC (.int (-i))):=by intro r d h;cases h;intro bE s Y H Q I q;obtain⟨F0,H0,F,at_,k⟩:=q;refine UnaryOp_ (bM (ON bE s Y H (λv H'=>v=.int i/\H'=H) I ⟨rfl,rfl⟩) λu s1 ⟨x,H1,I1,r1,e1,e2⟩=>?_);subst e1 e2;obtain⟨t,rfl⟩:=r1;exact neg_int ⟨.int (-i),H1,I1.tok _,⟨_,rfl⟩,k _ F H1 at_.refl (.int _)⟩
theorem GY(h:XE X e fa):XB X e (HM.bW fa):=by intro r b hb;obtain⟨d,h1,h2⟩:=Aj.mp hb;subst h2;exact PE.imp (h r d h1) λY H Q ⟨F0,H0,F,at_,k⟩=>⟨F0,H0,F,at_,λv F' H' x q=>k v F' H' x ⟨[],.pl q⟩⟩
theorem A7{f:HM.BF}(h:XF X e f):XB X e f:=λr b hb=>PE.imp (h r b hb) λY H Q ⟨F0,H0,F,at_,k⟩=>⟨F0,H0,F,at_,λv F' H' x ⟨fp,q,_⟩=>k v F' H' x ⟨fp,q⟩⟩
theorem EC{f:HM.BF}(h:XF X e f):XE X e (HM.dY f):=by
 intro r d hd;unfold HM.dY at hd;obtain⟨b,h1,h2⟩:=NA.mp hd;refine PE.imp (h r b h1) λY H Q ⟨F0,H0,F,at_,k⟩=>⟨F0,H0,F,at_,λv F' H' x ⟨fp,q,_,hn⟩=>?_⟩;cases q with
 |pl q=>cases h2;exact k v F' H' x q
 | @ol l ds vs hl q =>
  cases h2;have hF:F' l=none:=(hn l (by simp)).1;have s:Zp F' (upd F' l (.lst vs)):=Zp.upd' hF;refine k _ (upd F' l (.lst vs)) H' ⟨x.ff.trans s,x.hh,λc o z=>?_,λc o z=>?_,x.tab,λt=>(x.nts t).upd rfl⟩ (.lst (.of Zz) q.1 (q.mono s).2)
  .by_cases hc:c=l
   .subst hc;rw[Zz]at z;cases z;exact hl
   .rw[Zu hc]at z;exact x.sub c o z
  .by_cases hc:c=l
   .subst hc;exact .inr (.inl (hn c (by simp)).2)
   .rw[Zu hc]at z;exact x.new c o z
 | @ot l kvs vvs hl hk q =>
  cases h2;have hF:F' l=none:=(hn l (by simp)).1;have s:Zp F' (upd F' l (.dT vvs)):=Zp.upd' hF;refine k _ (upd F' l (.dT vvs)) H' ⟨x.ff.trans s,x.hh,λc o z=>?_,λc o z=>?_,x.tab,λt=>(x.nts t).upd rfl⟩ (.dct (.inl Zz) rfl hk (q.mono s).2)
  .by_cases hc:c=l
   .subst hc;rw[Zz]at z;cases z;exact hl
   .rw[Zu hc]at z;exact x.sub c o z
  .by_cases hc:c=l
   .subst hc;exact .inr (.inl (hn c (by simp)).2)
   .rw[Zu hc]at z;exact x.new c o z
 |ok _ _ _=>cases h2
 |hd h3 h4 h5 h6=>cases h2;exact k _ F' H' x (.dct (.inr ⟨_,h3⟩) h4 h5 h6.2)
 |hf h3=>cases h2;exact k _ F' H' x (.fn h3)
 |otl _ _ _ _=>cases h2
def kO(K:Ad)(r:R2)(g:PyData->PyData->Option PyData):Prop:=∀(F H:J) (x y z:PyData) (v w:V) (Q:VK),Zp F H->g x y=some z->bL K F x v->bL K F y w->(∀u,bL K F z u->Q u H)->r v w H Q
structure GF(X:Cx)(op:Operator)(g:PyData->PyData->Option PyData):Prop where
 ex:∃r,cN X (Cf op) r/\kO X.K r g
structure DB(X:Cx)(op:CmpOp)(g:PyData->PyData->Option PyData):Prop where
 ex:∃r,cN X (BG op) r/\kO X.K r g
 n1:op≠.In
 n2:op≠.NotIn
theorem G3{d:PyData}(h:HM.bH g fa fb r=some d):∃x y,fa r=some x/\fb r=some y/\g x y=some d:=by
 unfold HM.bH at h;split at h
 .split at h
  .exact⟨_,_,by assumption,by assumption,h⟩
  .cases h
 .cases h
theorem lD{x y:PyData}{P:J->J->J->V->Prop}{Y:L2.St}{H:J}{Q:VK}{R:V->V->J->VK->Prop}(h:gX K r P Y H Q)(hk:∀H F2 H2 v w,Zp F2 H2->bL K F2 x v->bL K F2 y w->(∀u F3 H3,bP F2 H2 F3 H3->P H F3 H3 u->Q u H3)->AS H H2->R v w H2 Q):iL R (gX K r λ_ F' _ v=>bL K F' x v) (gX K r λ_ F' _ v=>bL K F' y v) Y H Q:=by
 obtain⟨F0,H0,F,at_,k⟩:=h;refine⟨F0,H0,F,at_,λv F1 H1 x1 r1=>⟨F0,H0,F1,at_.grow x1,λw F2 H2 x2 r2=>?_⟩⟩;exact hk H F2 H2 v w x2.sub (r1.mono x2.ff) r2 (λu F3 H3 x3 q=>k u F3 H3 ((x1.trans x2).trans x3) q) (x1.hh.trans x2.hh)
theorem Zv{op:Operator}(o:GF X op g)(ha:XE X a fa)(hb:XE X b fb):XE X (.BinOp a op b pos) (HM.bH g fa fb):=by intro r d h;obtain⟨x,y,h1,h2,h3⟩:=G3 h;obtain⟨R,o1,o2⟩:=o.ex;refine PE.imp (GR o1 (ha r x h1) (hb r y h2)) λY H Q q=>?_;exact lD q λ_ F2 H2 v w s r1 r2 k _=>o2 F2 H2 x y d v w Q s h3 r1 r2 λu ru=>k u F2 H2 (.refl s) ru
theorem GX{op:CmpOp}(o:DB X op g)(ha:XE X a fa)(hb:XE X b fb):XE X (.Compare a [op] [b] pos) (HM.bH g fa fb):=by intro r d h;obtain⟨x,y,h1,h2,h3⟩:=G3 h;obtain⟨R,o1,o2⟩:=o.ex;refine PE.imp (OR o1 (ha r x h1) (hb r y h2) (L8 _ o.n1 o.n2)) λY H Q q=>?_;exact lD q λ_ F2 H2 v w s r1 r2 k _=>o2 F2 H2 x y d v w Q s h3 r1 r2 λu ru=>k u F2 H2 (.refl s) ru
theorem Ja{c:Bool}(h:HM.tV fa r=some c):fa r=some (.bool c):=by
 unfold HM.tV at h;split at h
 .rename_i q;cases h;exact q
 .cases h
theorem bL.bool_inv{c:Bool}{v:V}(h:bL K F (.bool c) v):v=.bl c:=by cases h;rfl
theorem bL.int_inv{v:V}(h:bL K F (.int i) v):v=.int i:=by cases h;rfl
theorem Bt{op:CmpOp}(o:DB X op g)(ha:XE X a fa)(hb:XE X b fb):XT X (.Compare a [op] [b] pos) (HM.tV (HM.bH g fa fb)):=by intro r d h;obtain⟨x,y,h1,h2,h3⟩:=G3 (Ja h);obtain⟨R,o1,o2⟩:=o.ex;refine PT.imp (OO o1 (ha r x h1) (hb r y h2) (L8 _ o.n1 o.n2)) λY H Q ⟨F0,H0,F,at_,k⟩=>?_;refine⟨F0,H0,F,at_,λv F1 H1 x1 r1=>⟨F0,H0,F1,at_.grow x1,λw F2 H2 x2 r2=>?_⟩⟩;refine o2 F2 H2 x y _ v w _ x2.sub h3 (r1.mono x2.ff) r2 λu ru=>?_;exact⟨d,ru.bool_inv,k F2 H2 (x1.trans x2)⟩
theorem CK(h:XE X e fa)(he:∀b7,isTrue e X.env b7=(do let v <-b7;standAt e.pos;holding [v] (truthy v)):=by intro _;rfl):XT X e (HM.tV fa):=by intro r c hc;refine PT.imp (R6 (h r _ (Ja hc)) he) λY H Q ⟨F0,H0,F,at_,k⟩=>?_;exact⟨F0,H0,F,at_,λv F1 H1 x1 r1=>⟨c,r1.bool_inv,k F1 H1 x1⟩⟩
theorem D8{t:HM.TF}(h:XT X a t):XT X (.UnaryOp .Not a pos) (HM.C5 t):=by intro r c hc;obtain⟨d,h1,h2⟩:=Aj.mp hc;subst h2;refine PT.imp (Sx (h r d h1)) λY H Q ⟨F0,H0,F,at_,k⟩=>?_;exact⟨F0,H0,F,at_,λF1 H1 x1=>k F1 H1 x1⟩
theorem Fq{t:HM.TF}(h:XW X e t):XT X e t:=λr c hc=>(h r c hc).pt
theorem Pl{t:HM.TF}(h:XT X a t):XW X (.BoolOp .And [a] pos) t:=λr c hc=>U2 (h r c hc)
theorem Ji{t:HM.TF}(h:XT X a t):XW X (.BoolOp .Or [a] pos) t:=λr c hc=>Tx (h r c hc)
theorem Py{e:Expr}:PW X e λ_ _ _=>False:=λ_ _ _ _ _ _ _ h=>h.elim
theorem Pt{e:Expr}:PE X e λ_ _ _=>False:=λ_ _ _ _ _ _ h=>h.elim
theorem O7{t:HM.TF}(ha:XT X a t)(hb:XW X (.BoolOp .And (b::rest) pos) u):XW X (.BoolOp .And (a::b::rest) pos) (HM.D0 t u):=by
 intro r c hc;unfold HM.D0 at hc;split at hc
 .rename_i q
  refine PW.imp (Ov (ha r true q) (hb r c hc)) λY H Q ⟨F0,H0,F,at_,k⟩=>?_;exact⟨F0,H0,F,at_,λF1 H1 x1=>GO ⟨F0,H0,F1,at_.grow x1,λF2 H2 x2=>k F2 H2 (x1.trans x2)⟩⟩
 .rename_i q
  cases hc;refine PW.imp (Ov (ha r false q) Py) λY H Q ⟨F0,H0,F,at_,k⟩=>?_;exact⟨F0,H0,F,at_,λF1 H1 x1=>GC (k F1 H1 x1)⟩
 .cases hc
theorem IU{t:HM.TF}(ha:XT X a t)(hb:XW X (.BoolOp .Or (b::rest) pos) u):XW X (.BoolOp .Or (a::b::rest) pos) (HM.gB t u):=by
 intro r c hc;unfold HM.gB at hc;split at hc
 .rename_i q
  cases hc;refine PW.imp (Of (ha r true q) Py) λY H Q ⟨F0,H0,F,at_,k⟩=>?_;exact⟨F0,H0,F,at_,λF1 H1 x1=>GO (k F1 H1 x1)⟩
 .rename_i q
  refine PW.imp (Of (ha r false q) (hb r c hc)) λY H Q ⟨F0,H0,F,at_,k⟩=>?_;exact⟨F0,H0,F,at_,λF1 H1 x1=>GC ⟨F0,H0,F1,at_.grow x1,λF2 H2 x2=>k F2 H2 (x1.trans x2)⟩⟩
 .cases hc
theorem D7{op:BoolOp}(h:XE X a fa):XE X (.BoolOp op [a] pos) fa:=λr d hd=>SK (h r d hd)
theorem D6(ha:XE X a fa)(hb:XE X (.BoolOp .And (b::rest) pos) fb):XE X (.BoolOp .And (a::b::rest) pos) (HM.C4 fa fb):=by
 intro r d hd;unfold HM.C4 at hd;split at hd
 .rename_i q
  refine PE.imp (OL (ha r _ q) (hb r d hd)) λY H Q ⟨F0,H0,F,at_,k⟩=>?_;exact⟨F0,H0,F,at_,λv F1 H1 x1 r1=>⟨true,r1.bool_inv,GO ⟨F0,H0,F1,at_.grow x1,λw F2 H2 x2 r2=>k w F2 H2 (x1.trans x2) r2⟩⟩⟩
 .rename_i q
  cases hd;refine PE.imp (OL (ha r _ q) Pt) λY H Q ⟨F0,H0,F,at_,k⟩=>?_;exact⟨F0,H0,F,at_,λv F1 H1 x1 r1=>⟨false,r1.bool_inv,GC (k _ F1 H1 x1 (.bl false))⟩⟩
 .cases hd
theorem Qb{op op':CmpOp}{g':PyData->PyData->Option PyData}(o:DB X op g)(o':DB X op' g')(ha:XE X a fa)(hb:XE X b fb)(hc:XE X c fc)(hm:lastMarks [op,op'] [b,c]=false:=by with_unfolding_all rfl):XE X (.Compare a [op,op'] [b,c] pos) (HM.QK g g' fa fb fc):=by
 intro r d hd;unfold HM.QK at hd;obtain⟨R,o1,o2⟩:=o.ex;obtain⟨R',o1',o2'⟩:=o'.ex;split at hd
 .rename_i x hx
  split at hd
  .rename_i y hy
   split at hd
   .rename_i hg
    split at hd
    .rename_i z hz
     refine PE.imp (P2 o1 o1' (ha r x hx) (hb r y hy) (hc r z hz) hm) λY H Q ⟨F0,H0,F,at_,k⟩=>?_;refine⟨F0,H0,F,at_,λv F1 H1 x1 r1=>⟨F0,H0,F1,at_.grow x1,λw F2 H2 x2 r2=>?_⟩⟩;refine o2 F2 H2 x y _ v w _ x2.sub hg (r1.mono x2.ff) r2 λu ru=>?_;refine⟨true,ru.bool_inv,GO ⟨F0,H0,F2,(at_.grow x1).grow x2,λw' F3 H3 x3 r3=>?_⟩⟩;exact o2' F3 H3 y z d w w' Q x3.sub hd (r2.mono x3.ff) r3 λu' ru'=>k u' F3 H3 ((x1.trans x2).trans x3) ru'
    .cases hd
   .rename_i hg
    cases hd;refine PE.imp (P2 o1 o1' (ha r x hx) (hb r y hy) Pt hm) λY H Q ⟨F0,H0,F,at_,k⟩=>?_;refine⟨F0,H0,F,at_,λv F1 H1 x1 r1=>⟨F0,H0,F1,at_.grow x1,λw F2 H2 x2 r2=>?_⟩⟩;refine o2 F2 H2 x y _ v w _ x2.sub hg (r1.mono x2.ff) r2 λu ru=>?_;exact⟨false,ru.bool_inv,GC (k _ F2 H2 (x1.trans x2) (.bl false))⟩
   .cases hd
  .cases hd
 .cases hd
theorem Zh:XA X [] HM.Ze:=by refine⟨λr ds h=>by cases h;rfl,λr ds h=>?_⟩;cases h;exact PA.imp BR λY H Q ⟨F0,H0,F,at_,k⟩=>k [] F H at_.refl .nil
theorem Zd(ha:XE X e fa)(hr:XA X es f)(hs:Af (e::es) X.env=(false,eval e X.env)::Af es X.env:=by rfl):XA X (e::es) (HM.O fa f):=by
 refine⟨λr ds h=>?_,λr ds h=>?_⟩
 .unfold HM.O at h
  split at h
  .obtain⟨xs,h1,h2⟩:=Aj.mp h
   subst h2;rw[AL,AL,hr.len r xs h1]
  .cases h
 unfold HM.O at h;split at h
 .rename_i x hx
  obtain⟨xs,h1,h2⟩:=Aj.mp h;subst h2;refine PA.imp (Z4 (ha r x hx) (hr.pa r xs h1) hs) λY H Q ⟨F0,H0,F,at_,k⟩=>?_;exact⟨F0,H0,F,at_,λv F1 H1 x1 r1=>⟨F0,H0,F1,at_.grow x1,λvs F2 H2 x2 r2=>k (v::vs) F2 H2 (x1.trans x2) (.cons (r1.mono x2.ff) r2)⟩⟩
 .cases h
theorem Bg{x1:Nat}(h:XA X es f)(hl:es.length<=100:=by exact Nat.le_of_ble_eq_true rfl):XE X (.Tuple es x1 pos) (HM.ZM f):=by
 intro r d hd;obtain⟨ds,h1,h2⟩:=Aj.mp hd;subst h2;refine PE.imp (SA (h.pa r ds h1)) λY H Q ⟨F0,H0,F,at_,k⟩=>⟨F0,H0,F,at_,λvs F1 H1 x1 r1=>⟨?_,λp hp=>?_⟩⟩
 .have e1:=h.len r ds h1
  have e2:=r1.1;have e3:(100:Nat)<=sizeLine:=by decide
  omega
 .have hF:F1 p=none:=x1.sub.free hp
  exact k _ (upd F1 p (.tup vs)) _ (x1.lay hp) (.tup Zz r1.1 (r1.mono (Zp.upd' hF)).2)
theorem BO(h:XA X es f)(hl:es.length<=100:=by exact Nat.le_of_ble_eq_true rfl):XF X (.List es pos) (HM.Bd f):=by
 intro r d hd;obtain⟨ds,h1,h2⟩:=Aj.mp hd;subst h2;refine PE.imp (TC (h.pa r ds h1)) λY H Q ⟨F0,H0,F,at_,k⟩=>⟨F0,H0,F,at_,λvs F1 H1 x1 r1=>⟨?_,λp hp=>?_⟩⟩
 .have e1:=h.len r ds h1
  have e2:=r1.1;have e3:(100:Nat)<=sizeLine:=by decide
  omega
 .have hF:F1 p=none:=x1.sub.free hp
  refine k _ F1 _ (x1.lay' hp) ⟨[p],.ol Zz r1,by simp,λa ha=>?_⟩;have:a=p:=by simpa using ha
  subst this;exact⟨hF,x1.hh.free hp⟩
end
end
section
variable{f:Addr}{fd:FuncData}{g:HM.SF}{base:Heap}{N ps:List Str}{p':Pos}{P:Program}{K:Ad}{st:Stmt}{bN x:Str}{mg:Str->Option Value}
section
variable{X:Cx}{a b c e:Expr}{fa fb fc:HM.EF}{pos p:Pos}{st:Stmt}{rest:List Stmt}{g u:HM.SF}
theorem JJ(h:X.xe=λ_ _=>False):PassesOwn (model X.prog X.w) X.A X.env X.xe:=by rw[h];exact PassesOwn.never
theorem Z3:eX X [] HM.AZ:=by intro r o h;cases h;exact cZ.imp Th λE Y H ⟨F0,H0,F,at_,k⟩=>k Y F H at_
theorem Zm(h:XS X st g):eX X [st] g:=λr o ho=>Pc (h r o ho)
theorem Zi(h1:XS X st g)(h2:eX X rest u):eX X (st::rest) (HM.Zs g u):=by
  intro r o h
  unfold HM.Zs at h
  split at h
  · rename_i r' q
    refine cZ.imp (O8 (h1 r _ q) (h2 r' o h)) λE Y H ⟨F0,H0,F,at_,k⟩=>?_
    exact⟨F0,H0,F,at_,λσ' F' H' at'=>⟨F0,H0,F',at',k⟩⟩
  all_goals first
    | cases h
      rename_i q
      refine cZ.imp (O8 (h1 r _ q) Mj) λE Y H ⟨F0,H0,F,at_,k⟩=>?_
      exact⟨F0,H0,F,at_,k⟩
    |cases h
theorem Vh:XS X st HM.WB:=λr o h=>nomatch h
theorem ZC(h:XE X e fa):XS X (.Return (some e) pos) (HM.ZO fa):=by intro r o ho;obtain⟨d,h1,h2⟩:=Aj.mp ho;subst h2;refine PS.imp (Sy (h r d h1)) λE Y H ⟨F0,H0,F,at_,k⟩=>?_;exact⟨F0,H0,F,at_,λv F' H' x q=>k v F' H' (at_.ext.trans x) q⟩
theorem UR(h:XE X e fa)(hs:CF e none pos.line X.env=pure false:=by rfl):XS X (.Expr e pos) (HM.UT fa):=by intro r o ho;obtain⟨d,h1,h2⟩:=Aj.mp ho;subst h2;refine PS.imp (LN (h r d h1) hs) λE Y H ⟨F0,H0,F,at_,k⟩=>?_;exact⟨F0,H0,F,at_,λv F' H' x q=>k Y F' H' (at_.grow x)⟩
theorem A6{t:HM.TF}{sa sb:List Stmt}(hc:XT X c t)(ha:eX X sa g)(hb:eX X sb u):XS X (.If c sa sb pos) (HM.cQ t g u):=by
 intro r o ho;unfold HM.cQ at ho;split at ho
 .rename_i q
  refine PS.imp (Og (hc r _ q) (ha r o ho) Mj) λE Y H ⟨F0,H0,F,at_,k⟩=>?_;exact⟨F0,H0,F,at_,λF' H' x=>GO ⟨F0,H0,F',at_.grow x,k⟩⟩
 .rename_i q
  refine PS.imp (Og (hc r _ q) Mj (hb r o ho)) λE Y H ⟨F0,H0,F,at_,k⟩=>?_;exact⟨F0,H0,F,at_,λF' H' x=>GC ⟨F0,H0,F',at_.grow x,k⟩⟩
 .cases ho
theorem Ly(i:Nat)(h:XS X st g):XS X st (HM.GP i g):=by intro r o ho;refine PS.imp (h (HM.Yy i r) o ho) λE Y H ⟨F0,H0,F,at_,k⟩=>?_;obtain⟨F',_,_,a'⟩:=at_.freeze i;exact⟨F0,H0,F',a',k⟩
theorem ZV(i:Nat)(hN:X.N.Nodup)(h:XE X e fa)(hi:X.N[i]?=some x:=by rfl)(hx:Loc X.env.scope x:=by first|exact AE rfl|exact Ar rfl)(hs:CF e (some (.Name x p')) pos.line X.env=pure false:=by rfl)(hf:X.fn x=true\/X.env.scope.names.lookup x=some .local:=by first|exact .inl rfl|exact .inr rfl):XS X (.Assign [.Name x p'] e pos) (HM.Z5 i fa):=by
 intro r o ho;obtain⟨d,h1,h2⟩:=Aj.mp ho;subst h2;refine PS.imp (Oq hN hi hx (h r d h1) hs hf) λE Y H ⟨F0,H0,F,at_,k⟩=>?_;exact⟨F0,H0,F,at_,λv F' H' x q=>k _ F' H' ((at_.grow x).set q)⟩
theorem BN(i:Nat){f:HM.BF}(hN:X.N.Nodup)(h:XF X e f)(hi:X.N[i]?=some x:=by rfl)(hx:Loc X.env.scope x:=by first|exact AE rfl|exact Ar rfl)(hs:CF e (some (.Name x p')) pos.line X.env=pure false:=by rfl)(hf:X.fn x=true\/X.env.scope.names.lookup x=some .local:=by first|exact .inl rfl|exact .inr rfl):XS X (.Assign [.Name x p'] e pos) (HM.Z7 i f):=by
 intro r o ho;obtain⟨d,h1,h2⟩:=Aj.mp ho;subst h2;refine PS.imp (Oq hN hi hx (h r d h1) hs hf) λE Y H ⟨F0,H0,F,at_,k⟩=>?_;exact⟨F0,H0,F,at_,λv F' H' x ⟨fp,q,nd,hn⟩=>k _ F' H' ((at_.grow x).storeNew at_ x.hh q nd hn)⟩
theorem B5(i:Nat){iter:Expr}{body:List Stmt}{fi:HM.IF}(hN:X.N.Nodup)(dW:X.xe=λ_ _=>False)(hc:X.calm=true)(hi:XI X (.Name x p') iter fi)(hb:eX X body g)(ku:X.N[i]?=some x:=by rfl)(hx:Loc X.env.scope x:=by first|exact AE rfl|exact Ar rfl)(hf:X.fn x=true\/X.env.scope.names.lookup x=some .local:=by first|exact .inl rfl|exact .inr rfl)(hs:∀x,Dt iter X.env x=pure x:=by intro _;rfl):XS X (.For (.Name x p') iter body [] pos) (HM.AU i fi g):=by
 intro r o ho;unfold HM.AU at ho;split at ho
 .rename_i ds cf
  split at ho
  .rename_i eO
   have pb:cZ X body (λE Y H=>∃r o,g r=some o/\il X.K r o E Y H):=λbE s Y H E I ⟨r,o,h1,h2⟩=>hb r o h1 bE s Y H E I h2;refine PS.imp (Lk (JJ dW) hc (hi r ds cf) (Dh hN ku hx hf) pb hs) λE Y H ⟨F0,H0,F,at_,k⟩=>?_;refine⟨F0,H0,F,at_,λoJ F1 H1 x1 it=>?_⟩;refine⟨λn m Y H=>∃F r,At X.K F0 H0 F H r Y/\Zp F1 F/\n+m=ds.length/\HM.A5 i g (ds.drop n) r=some o,⟨ds.length,F1,r,at_.grow x1,Zp.refl _,by omega,ho⟩,?_⟩
   rintro n m Y H ⟨F2,r2,cM,s2,hn,go⟩
   obtain⟨gH,gG⟩:=it F2 H s2 cM.sub;cases m with
   |zero =>
    have e:n=ds.length:=by omega
    subst e;rw[Kg]at go;cases go;exact .inl ⟨gG,k Y F2 H cM⟩
   |succ m =>
    have bS:n<ds.length:=by omega
    rw[IH bS]at go;obtain⟨j1,j2⟩:=gH n ds[n] (AV bS);refine .inr ⟨j1,λσ' H'=>∃F r,At X.K F0 H0 F H' r σ'/\Zp F1 F/\HM.A5 i g (ds.drop (n+1)) r=some o,λσ' H' ⟨F,r,a1,a2,a3⟩=>⟨m,by omega,F,r,a1,a2,by omega,a3⟩,λy H' hy=>?_⟩;obtain⟨e1,ry⟩:=j2 y H' hy;subst e1;obtain⟨F3,cp,s3,ry⟩:∃F3,At X.K F0 H0 F3 H' r2 Y/\Zp F1 F3/\bL X.K F3 ds[n] y:=⟨_,cM.grow cM.refl.tups,s2.trans (Cd cM.sub),ry⟩;have a3:=cp.set (i:=i) ry;have a4:=a3.rebase;unfold HM.A5 at go;split at go
    .rename_i r' hr
     exact⟨_,_,hr,F3,H0,F3,a4,λσ' F' H' a'=>⟨F',r',a'.unbase cp.ext cp.nt0,s3.trans a'.ext.ff,go⟩⟩
    .rename_i r' hr
     exact⟨_,_,hr,F3,H0,F3,a4,λσ' F' H' a'=>⟨F',r',a'.unbase cp.ext cp.nt0,s3.trans a'.ext.ff,go⟩⟩
    .rename_i r' hr
     cases go;exact⟨_,_,hr,F3,H0,F3,a4,λσ' F' H' a'=>k σ' F' H' (a'.unbase cp.ext cp.nt0)⟩
    .rename_i d hr
     cases go;exact⟨_,_,hr,F3,H0,F3,a4,λv F' H' x q=>k v F' H' (cp.ext.unbase x) q⟩
    .cases go
  .cases ho
 .cases ho
end
def spD(K:Ad)(n:Nat)(M:List PyData->Option PyData):Sp:=λvs H Q _=>∃F ds d,vs.length=n/\Zp F H/\Tb H/\dM F/\Zt K F ds vs/\M ds=some d/\∀v F' H',bP F H F' H'->bL K F' d v->Q v H'
structure Callee(P:Program)(w:World)(K:Ad)(mg:Str->Option Value)(base:Heap)(k:Nat)(x:Str)(M:List PyData->Option PyData):Prop where
 ex:∃f fd ps,(∀ds d,M ds=some d->ds.length=ps.length)/\BK P w K mg base eE k f fd ps (spD K ps.length M)/\mg x=some (.ref f)/\E7 K (.ref f)=true/\Binds K fd ps []
theorem Callee.mono{P:Program}{w:World}{K:Ad}{mg:Str->Option Value}{base:Heap}{j k:Nat}{x:Str}{M:List PyData->Option PyData}(C:Callee P w K mg base j x M)(h:j<=k):Callee P w K mg base k x M:=by obtain⟨f,fd,ps,l,F,r⟩:=C.ex;exact⟨f,fd,ps,l,F.mono h,r⟩
section
variable{X:Cx}{pos p:Pos}{e:Expr}{es:List Expr}{f:HM.AF}
theorem Zn{k:Nat}{M:List PyData->Option PyData}(C:Callee X.prog X.w X.K X.mg X.base k x M)(hr:AK k X.A)(ha:XA X (e::es) f)(hg:Gl X x:=by rfl)(eL:(x==("__debug__":Str))=false:=by decide)(he:Af (e::es) X.env=(false,eval e X.env)::Af es X.env:=by rfl)(hpl:(backTo pos (Af es X.env)).any (·.1)=false:=by rfl):XE X (.Call (.Name x p) (e::es) [] pos) (HM.Zj M f):=by
 intro r d hd;unfold HM.Zj at hd;split at hd
 .rename_i ds cf
  obtain⟨fa,fd,ps,hl,F,hm,hk,hb⟩:=C.ex;refine PE.imp (OS (E:=E0) F hr hg hm hk hb .nil Ol (ha.pa r ds cf) eL he hpl) λY H Q ⟨F0,H0,F1,at_,k⟩=>?_;refine⟨F0,H0,F1,at_,λvs F' H' x q=>?_⟩;show spD X.K ps.length M (vs++[]) H' Q E0;rw[CB];exact⟨F',ds,d,by rw[<-q.1];exact hl ds d hd,x.sub,at_.tbx x,at_.ntx x,q,hd,λv F2 H2 x2 q2=>k v F2 H2 (x.trans x2) q2⟩
 .cases hd
end
theorem VN{F H:J}{ds:List PyData}{vs:List V}(s:Zp F H)(tb:Tb H)(nt:dM F)(q:Zt K F ds vs)(hl:ds.length<=N.length):At K F H F H (HM.YQ N.length ds) (L2.start N vs):=by
 have hv:=q.1;refine⟨λ_=>[],.refl s,?_,λi b h=>?_,λ_ _=>rfl,λi a h=>by simp at h,λ_=>CY,λi j a _ h=>by simp at h,tb,nt⟩
 .unfold HM.YQ L2.start
  rw[AH,AH,Ae,Ae,Cg,Cg,hv]
 .unfold HM.YQ at h
  by_cases hi:i<ds.length
  .rw[CG (by rw[Ae];exact hi),A9,AV hi]at h
   cases h;obtain⟨v,h1,h2⟩:=q.get (AV hi);refine⟨v,?_,.pl h2⟩;unfold L2.start;rw[CG (by rw[Ae,<-hv];exact hi),A9,h1];rfl
  .rw[CZ (by rw[Ae];omega),Iu]at h
   split at h<;>cases h
theorem OW{w:World}{k:Nat}(Fn:fQ K x bN st f fd)(oH:Zx N ps (Zk st))(body:∀(bQ:Value) (A:Around) (outer:List Env) (s:Shared) (H:J) (E:XK),AK k (A.deeper (envOfC bN (Zk st) s.heap.objs.size f bQ))->eX (Dz eE P w K mg base N bN (Zk st) f bQ A outer s H E).nox (CJ st) g):BK P w K mg base eE (k+1) f fd ps (spD K ps.length (HM.fnOf ps.length N.length g)):=by
 have hpl:ps.length<=N.length:=by have:=congrArg Bb oH.pre;rw[Fo]at this;omega
 refine Fn.ok oH (λvs H Q E h=>?_) (λbQ A outer s H vs Q E hr h=>?_)
 .obtain⟨_,_,_,h,_⟩:=h
  exact h
 .obtain⟨F,ds,d,hl,sub,tb,nt,q,hM,kk⟩:=h
  unfold HM.fnOf at hM;split at hM
  .rename_i cf
   have a0:=VN (N:=N) sub tb nt q (by omega);split at hM
   .rename_i r hr'
    cases hM;exact⟨_,body bQ A outer s H E hr _ _ hr',F,H,F,a0,λY F' H' a'=>kk .non F' H' a'.ext .non⟩
   .rename_i d' hr'
    cases hM;exact⟨_,body bQ A outer s H E hr _ _ hr',F,H,F,a0,λv F' H' x q=>kk v F' H' x q⟩
   .cases hM
  .cases hM
theorem Wr{w:World}{k:Nat}(Fn:fQ K x bN st f fd)(oH:Zx N ps (Zk st))(hm:mg x=some (.ref f))(hb:Binds K fd ps [])(body:∀(bQ:Value) (A:Around) (outer:List Env) (s:Shared) (H:J) (E:XK),AK k (A.deeper (envOfC bN (Zk st) s.heap.objs.size f bQ))->eX (Dz eE P w K mg base N bN (Zk st) f bQ A outer s H E).nox (CJ st) g):Callee P w K mg base (k+1) x (HM.fnOf ps.length N.length g):=by
 refine⟨f,fd,ps,λds d h=>?_,OW Fn oH body,hm,Fn.kp,hb⟩;unfold HM.fnOf at h;split at h
 .assumption
 .cases h
end
section
variable{q:HM.B}{F H:J}{ds:List PyData}{K:Ad}
section
variable{X:Cx}{a b c e:Expr}{fa fb fc:HM.EF}{pos p:Pos}
theorem Hf{h:Int->Int->Option PyData}{x y z:PyData}(e:HM.DE h x y=some z):∃i j,x=.int i/\y=.int j/\h i j=some z:=by
 unfold HM.DE at e;split at e
 .exact⟨_,_,rfl,rfl,e⟩
 .cases e
theorem GK{g:Int->Int->V}{h:Int->Int->PyData}(hr:∀F i j,bL K F (h i j) (g i j)):kO K (gE g) (HM.DE λi j=>some (h i j)):=by intro F H x y z v w Q s e r1 r2 k;obtain⟨i,j,rfl,rfl,e⟩:=Hf e;cases e;exact⟨i,j,r1.int_inv,r2.int_inv,k _ (hr F i j)⟩
theorem AM:GF X .Add HM.Z6:=⟨_,Uc,GK λ_ _ _=>.int _⟩
theorem K4:GF X .Sub HM.GQ:=⟨_,Tw,GK λ_ _ _=>.int _⟩
theorem Ca:GF X .Mult HM.Bf:=by
 refine⟨_,R5,λF H x y z v w Q s e r1 r2 k=>?_⟩;obtain⟨i,j,rfl,rfl,e'⟩:=Hf e;split at e'
 .rename_i hs
  cases e';refine⟨i,j,r1.int_inv,r2.int_inv,?_,k _ (.int _)⟩;unfold HM.ZG at hs;rw[Fb,Eo,Eo]at hs;unfold II;omega
 .cases e'
theorem fA:GF X .Mod HM.Cn:=by
 refine⟨_,Sd,λF H x y z v w Q s e r1 r2 k=>?_⟩;obtain⟨i,j,rfl,rfl,e'⟩:=Hf e;split at e'
 .rename_i hs
  cases e';exact⟨i,j,r1.int_inv,r2.int_inv,hs,k _ (.int _)⟩
 .cases e'
theorem jV:DB X .Lt HM.i8:=⟨⟨_,RA,GK λ_ _ _=>.bl _⟩,by decide,by decide⟩
theorem jW:DB X .LtE HM.jQ:=⟨⟨_,SQ,GK λ_ _ _=>.bl _⟩,by decide,by decide⟩
theorem kJ:DB X .Gt HM.i9:=⟨⟨_,SU,GK λ_ _ _=>.bl _⟩,by decide,by decide⟩
theorem Mu{h:Heap}:∀{ds:List PyData} {us:List Value},ds.length=us.length->(∀(i:Nat) d u,ds[i]?=some d->us[i]?=some u->∃as,Reads h u d as)->∃as,ReadsAll h us ds as
 |[],[],_,_=>⟨[],.nil⟩
 |[],_::_,hl,_=>by simp at hl
 |_::_,[],hl,_=>by simp at hl
 |d::ds,u::us,hl,k=>by obtain⟨as,h1⟩:=k 0 d u rfl rfl;obtain⟨bs,h2⟩:=Mu (ds:=ds) (us:=us) (by simpa using hl) λi d u e1 e2=>k (i+1) d u (by simpa using e1) (by simpa using e2);exact⟨_,.cons h1 h2⟩
theorem O2:∀{ds:List PyData},Gn ds=true->∀{i:Nat} {d:PyData},ds[i]?=some d->d.canLay0=true
 |[],_,i,d,e=>by simp at e
 |x::ds,h,i,d,e=>by
  have h':(x.canLay0&&Gn ds)=true:=h;rw[BJ]at h';cases i with
  |zero=>rw[DS]at e;cases e;exact h'.1
  |succ i=>rw[Bq]at e;exact O2 h'.2 e
theorem P4(h:Gn ds=true){i:Nat}{d:PyData}(e:ds[i]?=some d):d.canLay0=true:=O2 h e
theorem bL.reads{bE:List (Addr×Obj)}{s:Shared}{Y:L2.St}{d:PyData}{v:V}(I:Inv X bE Y H s)(sub:Zp F H)(r:bL X.K F d v):d.canLay0=true->∀u,RelV v u->∃as,Reads s.heap u d as:=by
 induction r with
 |non=>intro _ u ru;cases ru;exact⟨[],.none⟩
 |bl b=>intro _ u ru;cases ru;exact⟨[],.bool b⟩
 |int i=>intro _ u ru;obtain⟨t,rfl⟩:=ru;exact⟨[],.int i t⟩
 |str x=>intro _ u ru;obtain⟨t,rfl⟩:=ru;exact⟨[],.str x t⟩
 |dct _ _ _ _ _=>intro z;cases z
 |fn _=>intro z;cases z
 | @tupk a x h=>intro z u ru;cases ru;obtain⟨its,rv,⟨o,ho,hc,n,hd⟩,_⟩:=I.tuple (.inr h);obtain⟨u,rfl,t,rfl⟩:=rv.one;exact⟨_,.tuple ho hc hd (by simpa using ReadsAll.cons (.str x t) .nil)⟩
 | @tup a ds vs h hl _ ih =>
  intro z u ru;cases ru;obtain⟨its,rv,⟨o,ho,hc,n,hd⟩,_⟩:=I.tuple (.of (sub _ _ h));obtain⟨as,hr⟩:=Mu (h:=s.heap) (ds:=ds) (us:=its) (hl.trans rv.length) λi d u e1 e2=>by
   have hi:i<vs.length:=by rw[<-hl];exact(AO.mp e1).1
   obtain⟨u',q1,q2⟩:=rv.get (AV hi);rw[e2]at q1;cases q1;exact ih i d _ e1 (AV hi) (P4 z e1) u q2
  exact⟨_,.tuple ho hc hd (by simpa using hr)⟩
 | @lst a ds vs h hl _ ih =>
  intro z u ru;cases ru;obtain⟨its,rv,⟨o,n,ho,hc,_,hd⟩,_⟩:=I.list (sub.seq h);obtain⟨as,hr⟩:=Mu (h:=s.heap) (ds:=ds) (us:=its) (hl.trans rv.length) λi d u e1 e2=>by
   have hi:i<vs.length:=by rw[<-hl];exact(AO.mp e1).1
   obtain⟨u',q1,q2⟩:=rv.get (AV hi);rw[e2]at q1;cases q1;exact ih i d _ e1 (AV hi) (P4 z e1) u q2
  exact⟨_,.list ho hc hd (by simpa using hr)⟩
def NY(K:Ad)(gF:Bool):R2:=λv w H Q=>∃F x y,Zp F H/\bL K F x v/\bL K F y w/\HM.Cv x=true/\HM.Cv y=true/\Q (.bl (if gF then !PyData.eqv x y else Ep x y)) H
theorem JC{d:PyData}(h:HM.Cv d=true):d.canLay0=true/\d.depth<=60:=by unfold HM.Cv at h;simpa using h
theorem SR{k:Nat}(hr:AK k X.A):cN X (BG .Eq) (NY X.K false):=by intro bE s Y H v w u u' Q I r1 r2 ⟨F,x,y,sub,q1,q2,p1,p2,q⟩;obtain⟨a1,a2⟩:=JC p1;obtain⟨b1,b2⟩:=JC p2;obtain⟨as,h1⟩:=q1.reads I sub a1 u r1;obtain⟨bs,h2⟩:=q2.reads I sub b1 u' r2;refine PySem.SeqAt.eqOverData X.prog X.w X.A X.xe s u u' x y as bs _ h1 h2 a1 b1 ?_ ⟨.bl _,H,I,rfl,q⟩;have:=hr.un;have:min x.depth y.depth<=60:=BE (Nat.min_le_left _ _) a2;omega
theorem SV{k:Nat}(hr:AK k X.A):cN X (BG .NotEq) (NY X.K true):=by intro bE s Y H v w u u' Q I r1 r2 ⟨F,x,y,sub,q1,q2,p1,p2,q⟩;obtain⟨a1,a2⟩:=JC p1;obtain⟨b1,b2⟩:=JC p2;obtain⟨as,h1⟩:=q1.reads I sub a1 u r1;obtain⟨bs,h2⟩:=q2.reads I sub b1 u' r2;refine PySem.SeqAt.neOverData X.prog X.w X.A X.xe s u u' x y as bs _ h1 h2 a1 b1 ?_ ⟨.bl _,H,I,rfl,q⟩;have:=hr.un;have:min x.depth y.depth<=60:=BE (Nat.min_le_left _ _) a2;omega
theorem fu{k:Nat}(hr:AK k X.A):DB X .Eq HM.cA:=by
 refine⟨⟨_,SR hr,λF H x y z v w Q s e r1 r2 k=>?_⟩,by decide,by decide⟩;unfold HM.cA at e;split at e
 .rename_i hp
  cases e;rw[BJ]at hp;exact⟨F,x,y,s,r1,r2,hp.1,hp.2,k _ (.bl _)⟩
 .cases e
theorem jU{k:Nat}(hr:AK k X.A):DB X .NotEq HM.dq:=by
 refine⟨⟨_,SV hr,λF H x y z v w Q s e r1 r2 k=>?_⟩,by decide,by decide⟩;unfold HM.dq at e;split at e
 .rename_i hp
  cases e;rw[BJ]at hp;exact⟨F,x,y,s,r1,r2,hp.1,hp.2,k _ (.bl _)⟩
 .cases e
theorem Ju{v:V}{fp:List Addr}(sub:Zp F H)(r:ZZ K F H q v fp)(h:HM.G8 q=some ds):∃a vs,v=.ref a/\(cm K H a vs\/cE K H a vs)/\Zt K F ds vs:=by
 cases r with
 |pl r =>
  cases r with
  |tup h1 h2 h3=>cases h;exact⟨_,_,rfl,.inr (.of (sub _ _ h1)),h2,h3⟩
  | @tupk a x h1=>cases h;exact⟨_,_,rfl,.inr (.inr h1),.one (.str x)⟩
  |lst h1 h2 h3=>cases h;exact⟨_,_,rfl,.inl (sub.seq h1),h2,h3⟩
  |dct _ _ _ _=>cases h
  |fn _=>cases h
  |non=>cases h
  |bl _=>cases h
  |int _=>cases h
  |str _=>cases h
 |ol h1 r=>cases h;exact⟨_,_,rfl,.inl (.of h1),r⟩
 |ok _ _ _=>cases h
 |hd _ _ _ _=>cases h
 |hf _=>cases h
 |ot _ _ _=>cases h
 |otl _ _ _ _=>cases h
theorem Tr{vs:List V}{i:Int}{d:PyData}(r:Zt K F ds vs)(h:HM.eB ds i=some d):∃v,hU vs i=some v/\bL K F d v:=by
 unfold HM.eB at h;split at h
 .rename_i j hj
  obtain⟨v,h1,h2⟩:=r.get h;refine⟨v,?_,h2⟩;unfold hU;rw[<-r.1,show eQ ds.length i=some j from hj];exact h1
 .cases h
theorem ZK{fb':HM.BF}(ha:XB X a fb')(hb:XE X b fb)(hs:O3 b:=by intro _ _;rfl):XE X (.Subscript a b pos) (HM.bJ fb' fb):=by
 intro r d h;unfold HM.bJ at h;split at h
 .rename_i x hx
  split at h
  .rename_i ds cf
   split at h
   .rename_i i hi
    refine PE.imp (Rw Sf (ha r x hx) (hb r _ hi) hs) λY H Q ⟨F0,H0,F,at_,k⟩=>?_;refine⟨F0,H0,F,at_,λv F1 H1 x1 ⟨fp,r1⟩=>⟨F0,H0,F1,at_.grow x1,λw F2 H2 x2 r2=>?_⟩⟩;obtain⟨l,vs,e1,hq,rs⟩:=Ju x2.sub (r1.mono x2.ff λ_ _ _ z=>x2.hh _ _ z) cf;obtain⟨u,hu,ru⟩:=Tr rs h;have ck:=k u F2 H2 (x1.trans x2) ru;rcases hq with hq|hq
    .exact .inl ⟨l,vs,i,u,e1,r2.int_inv,hq,hu,ck⟩
    .exact .inr (.inl ⟨l,vs,i,u,e1,r2.int_inv,hq,hu,ck⟩)
   .cases h
  .cases h
 .cases h
def oj(X:Cx)(e:Expr)(r:HM.Env)(q:HM.B):Prop:=PA X [e] λY H Q=>eD X.K r Y H λF0 H0 F=>∀v fp F' H',bP F H F' H'->ZZ X.K F' H' q v fp->Q [v] H'
theorem EG{f:HM.BF}{r:HM.Env}(ha:XB X e f)(h:f r=some q)(hs:Af [e] X.env=[(false,eval e X.env)]:=by rfl):oj X e r q:=by refine PA.imp (Z4 (ha r q h) BR hs) λY H Q ⟨F0,H0,F,at_,k⟩=>?_;exact⟨F0,H0,F,at_,λv F1 H1 x1 ⟨fp,r1⟩=>k v fp F1 H1 x1 r1⟩
end
end
theorem SE:Bi "all"=some (.builtin "all"):=by decide +kernel
theorem Ou:Bi "len"=some (.builtin "len"):=by decide +kernel
theorem OC:Bi "max"=some (.builtin "max"):=by decide +kernel
theorem T9:Bi "min"=some (.builtin "min"):=by decide +kernel
theorem P5:Bi "sorted"=some (.builtin "sorted"):=by decide +kernel
theorem X9:Bi "isinstance"=some (.builtin "isinstance"):=by decide +kernel
theorem Ln:Bi "int"=some (.type "int"):=by decide +kernel
theorem SY:Bi "bool"=some (.type "bool"):=by decide +kernel
theorem Pj:Bi "list"=some (.type "list"):=by decide +kernel
theorem LY:Bi "tuple"=some (.type "tuple"):=by decide +kernel
theorem Sn:Bi "set"=some (.type "set"):=by decide +kernel
section
variable{X:Cx}{a b c e:Expr}{fa fb fc:HM.EF}{pos p:Pos}{f:HM.BF}
theorem FC(hm:X.mg "len"=none)(ha:XB X a f)(hg:Gl X "len":=by rfl)(hs:Af [a] X.env=[(false,eval a X.env)]:=by rfl):XE X (.Call (.Name "len" p) [a] [] pos) (HM.Dc f):=by
 intro r d h;unfold HM.Dc at h;split at h
 .rename_i x hx
  obtain⟨n,h1,h2⟩:=Aj.mp h;subst h2;refine PE.imp (DF (XQ.or Wd) hg hm Ou (EG ha hx hs) (he:=hs)) λY H Q ⟨F0,H0,F,at_,k⟩=>?_;refine⟨F0,H0,F,at_,λv fp F1 H1 x1 r1=>?_⟩;have ck:=λ(m:Nat) (e:m=n)=>k (.int m) F1 H1 x1 (by rw[e];exact .int _);cases r1 with
  |pl q =>
   cases q with
   |tup q1 q2 q3=>cases h1;exact .inl ⟨_,_,rfl,.inr (.of (x1.sub _ _ q1)),ck _ q2.symm⟩
   |tupk q1=>cases h1;exact .inl ⟨_,_,rfl,.inr (.inr q1),ck _ rfl⟩
   |lst q1 q2 q3=>cases h1;exact .inl ⟨_,_,rfl,.inl (x1.sub.seq q1),ck _ q2.symm⟩
   |dct _ _ _ _=>cases h1
   |fn _=>cases h1
   |non=>cases h1
   |bl _=>cases h1
   |int _=>cases h1
   |str _=>cases h1
  |ol q1 q2=>cases h1;exact .inl ⟨_,_,rfl,.inl (.of q1),ck _ q2.1.symm⟩
  |ok q1 q2 q3=>cases h1;refine .inr ⟨_,_,rfl,q1,ck _ ?_⟩;have:=congrArg Bb q2;rw[Ae,Ae]at this;exact this.symm
  |ot _ _ _=>cases h1
  |otl _ _ _ _=>cases h1
  |hd _ _ _ _=>cases h1
  |hf _=>cases h1
 .cases h
theorem ZX(hm:X.mg "tuple"=none)(ha:XB X a f)(hg:Gl X "tuple":=by rfl)(hs:Af [a] X.env=[(false,eval a X.env)]:=by rfl):XE X (.Call (.Name "tuple" p) [a] [] pos) (HM.ZI f):=by
 intro r d h;unfold HM.ZI at h;split at h
 .rename_i x hx
  obtain⟨ds,h1,h2⟩:=Aj.mp h;subst h2;refine PE.imp (EW X7 hg hm LY (EG ha hx hs) (he:=hs)) λY H Q ⟨F0,H0,F,at_,k⟩=>?_;refine⟨F0,H0,F,at_,λv fp F1 H1 x1 r1=>?_⟩;have new:∀(vs:List V),Zt X.K F1 ds vs->∀l,H1 l=none->Q (.ref l) (upd H1 l (.tup vs)):=λvs q l hl=>k _ (upd F1 l (.tup vs)) _ (x1.lay hl) (.tup Zz q.1 (q.mono (Zp.upd' (x1.sub.free hl))).2);cases r1 with
  |pl q =>
   cases q with
   |tup q1 q2 q3=>cases h1;exact⟨_,_,rfl,.inr ⟨.of (x1.sub _ _ q1),k _ F1 H1 x1 (.tup q1 q2 q3)⟩⟩
   |tupk q1=>cases h1;exact⟨_,_,rfl,.inr ⟨.inr q1,k _ F1 H1 x1 (.tupk q1)⟩⟩
   |lst q1 q2 q3=>cases h1;exact⟨_,_,rfl,.inl ⟨x1.sub.seq q1,new _ ⟨q2,q3⟩⟩⟩
   |dct _ _ _ _=>cases h1
   |fn _=>cases h1
   |non=>cases h1
   |bl _=>cases h1
   |int _=>cases h1
   |str _=>cases h1
  |ol q1 q2=>cases h1;exact⟨_,_,rfl,.inl ⟨.of q1,new _ q2⟩⟩
  |ok _ _ _=>cases h1
  |ot _ _ _=>cases h1
  |otl _ _ _ _=>cases h1
  |hd _ _ _ _=>cases h1
  |hf _=>cases h1
 .cases h
theorem FO{K:Ad}{F H F1 H1:J}{ds:List PyData}{vs:List V}{l:Addr}{P:V->J->J->Prop}(x1:bP F H F1 H1)(q:Zt K F1 ds vs)(hl:H1 l=none)(k:∀v F' H',bP F H F' H'->(∃fp,ZZ K F' H' (.ol ds) v fp/\fp.Nodup/\∀a∈fp,F' a=none/\H a=none)->P v F' H'):P (.ref l) F1 (upd H1 l (.lst vs)):=by
 refine k _ F1 _ (x1.lay' hl) ⟨[l],.ol Zz q,by simp,λa ha=>?_⟩;have:a=l:=by simpa using ha
 subst this;exact⟨x1.sub.free hl,x1.hh.free hl⟩
theorem Qp(hm:X.mg "list"=none)(ha:XB X a f)(hg:Gl X "list":=by rfl)(hs:Af [a] X.env=[(false,eval a X.env)]:=by rfl):XF X (.Call (.Name "list" p) [a] [] pos) (HM.Hl f):=by
 intro r d h;unfold HM.Hl at h;split at h
 .rename_i x hx
  obtain⟨ds,h1,h2⟩:=Aj.mp h;subst h2;refine PE.imp (EW XY hg hm Pj (EG ha hx hs) (he:=hs)) λY H Q ⟨F0,H0,F,at_,k⟩=>?_;refine⟨F0,H0,F,at_,λv fp F1 H1 x1 r1=>?_⟩;obtain⟨l,vs,e1,hq,rs⟩:=Ju x1.sub r1 h1;subst e1;exact⟨l,vs,rfl,hq,λl' hl'=>FO (P:=λv _ H'=>Q v H') x1 rs hl' k⟩
 .cases h
theorem QS{K:Ad}{F:J}:∀{ds:List PyData} {vs:List V} {bs:List Bool},HM.FK ds=some bs->Zt K F ds vs->vs=bs.map V.bl
 |[],vs,bs,h,r=>by cases h;exact r.nil_inv
 |d::ds,vs,bs,h,r=>by
  obtain⟨v,us,rfl,r1,r2⟩:=r.cons_inv;cases d with
  |bool b=>obtain⟨bs',h1,h2⟩:=Aj.mp h;subst h2;rw[r1.bool_inv,QS h1 r2];rfl
  |none=>cases h
  |int _=>cases h
  |str _=>cases h
  |list _=>cases h
  |tuple _=>cases h
  |dict _=>cases h
end
section
variable{p2:Pos}
section
variable{X:Cx}{a b c e:Expr}{fa fb fc:HM.EF}{pos p:Pos}{f:HM.BF}
theorem XH:∀{bs:List Bool} {us:List Value},bG (bs.map V.bl) us->LSm.BoolsAre us bs:=by
 intro bs
 induction bs with
 |nil=>intro us r;rw[Ff]at r;cases r;exact .nil
 |cons b bs ih =>
  intro us r;rw[Ao]at r;cases r with
  |cons r1 r2=>cases r1;exact .cons b (ih r2)
theorem T8{A:Around}{s:Shared}{l:Addr}{vs:List Value}{bs:List Bool}{dflt:Bool}(hh:A.handled=none)(hl:s.heap.IsList l vs.toArray)(hb:LSm.BoolsAre vs bs){E:Value->Shared->Prop}{Q:Value->Shared->Prop}{prog:Program}{w:World}(h:∀it fp wr (P:Nat->Value->Prop) St,Walks prog w A it fp wr vs.length P St->St 0 (s.heap.push {cls:=.type "list_iterator",data:=.fields #[.ref l,rawInt 0]})->TruthOf prog w A P (λi=>(bs[i]?).getD dflt)->wr=[s.heap.objs.size]->it=s.heap.objs.size->Q (.ref it) {s with heap:=s.heap.push {cls:=.type "list_iterator",data:=.fields #[.ref l,rawInt 0]}}):wpAny (model prog w) A (pyIter (.ref l)) Q E s:=by
 have bS:l<s.heap.objs.size:=let ⟨_,e,_⟩:=hl;Ai e
 refine KI hl ?_;have W:=Walks.list (prog:=prog) (w:=w) hh s.heap.objs.size l (Ap bS) vs.toArray;rw[Au]at W;refine h _ _ _ _ _ W ⟨⟨_,AI _ rfl,rfl,rfl⟩,hl.push _⟩ (λi v s' Q' E' hP hQ=>?_) rfl rfl;obtain⟨b,e,rfl⟩:=hb.get i v (by simpa using hP);simp only[e,Option.getD_some]at hQ;exact Du hQ
theorem Vm(hc:X.calm=true):AJ X (.builtin "all") (λxs H Q=>∃(p:Addr) (bs:List Bool),xs=[.ref p]/\cm X.K H p (bs.map V.bl)/\Q (.bl (bs.all id)) H):=by intro bE s Y H xs us Q I r h;obtain⟨p,bs,rfl,hq,q⟩:=h;obtain⟨u,rfl,rx⟩:=vals1 r;cases rx;obtain⟨its,rv,pl,hz⟩:=I.list hq;have hb:=XH rv;refine call_all_walk (T8 (dflt:=true) (A:=X.A.in1) (I.ok.hd hc) pl.isList hb λit fp wr P St W st tr e1 e2=>?_);subst e1 e2;refine⟨_,_,_,_,P,St,_,rfl,W,st,tr,λh' tk hk=>?_⟩;rw[hb.length,LSm.range_all bs];exact⟨.bl _,H,I.kept (LSm.kept_iter hk),rfl,q⟩
theorem Hg{K:Ad}{F H:J}{q:HM.B}{v:V}{fp:List Addr}{ds:List PyData}(sub:Zp F H)(r:ZZ K F H q v fp)(h:HM.IM q=some ds):∃a vs,v=.ref a/\cm K H a vs/\Zt K F ds vs:=by
 cases r with
 |pl r =>
  cases r with
  |lst h1 h2 h3=>cases h;exact⟨_,_,rfl,sub.seq h1,h2,h3⟩
  |dct _ _ _ _=>cases h
  |fn _=>cases h
  |tupk _=>cases h
  |tup _ _ _=>cases h
  |non=>cases h
  |bl _=>cases h
  |int _=>cases h
  |str _=>cases h
 |ol h1 r=>cases h;exact⟨_,_,rfl,.of h1,r⟩
 |ok _ _ _=>cases h
 |hd _ _ _ _=>cases h
 |hf _=>cases h
 |ot _ _ _=>cases h
 |otl _ _ _ _=>cases h
theorem Jh(hm:X.mg "all"=none)(hc:X.calm=true)(ha:XB X a f)(hg:Gl X "all":=by rfl)(hs:Af [a] X.env=[(false,eval a X.env)]:=by rfl):XE X (.Call (.Name "all" p) [a] [] pos) (HM.IY f):=by
 intro r d h;unfold HM.IY at h;split at h
 .rename_i x hx
  split at h
  .rename_i ds cf
   obtain⟨bs,h1,h2⟩:=Aj.mp h;subst h2;refine PE.imp (DF (Vm hc) hg hm SE (EG ha hx hs) (he:=hs)) λY H Q ⟨F0,H0,F,at_,k⟩=>?_;refine⟨F0,H0,F,at_,λv fp F1 H1 x1 r1=>?_⟩;obtain⟨l,vs,e1,hq,rs⟩:=Hg x1.sub r1 cf;rw[QS h1 rs]at hq;exact⟨l,bs,by rw[e1],hq,k _ F1 H1 x1 (.bl _)⟩
  .cases h
 .cases h
theorem Jc{eA:String}{t:HM.Ty}(hr:∀(s:Shared) (d:PyData) (v:V) (u:Value) (Q:Value->Shared->Prop),RelV v u->(∃(K:Ad) (F:J),bL K F d v)->(∀es,d≠.dict es)->(∀x,v=.ref x->∃o,s.heap.get? x=some o/\((∃ds,d=.tuple ds/\o.cls=.type "tuple")\/(∃ds,d=.list ds/\o.cls=.type "list")\/∃ds,d=.dict ds/\o.cls=.type "dict")) ->
   (∀tk,Q (.bool (HM.Y2 t d)) {s with toks:=tk})->wpAny (model X.prog X.w) X.A (call (.builtin "isinstance") [u,.type eA]) Q X.xe s):
  AJ X (.builtin "isinstance") (λxs H Q=>∃F d v,xs=[v,.ty eA]/\Zp F H/\bL X.K F d v/\(∀es,d≠.dict es)/\Q (.bl (HM.Y2 t d)) H):=by
 intro bE s Y H xs us Q I r h;obtain⟨F,d,v,rfl,sub,rp,nd,q⟩:=h;obtain⟨u,u',rfl,ru,ru'⟩:=vals2 r;cases(show u'=Ej eA from ru');refine hr s d v u _ ru ⟨_,_,rp⟩ nd (λx e=>?_) λtk=>⟨.bl _,H,I.tok tk,rfl,q⟩;subst e;cases rp with
 |tup h1 h2 h3=>obtain⟨its,rv,⟨o,ho,hc,n,hd⟩,_⟩:=I.tuple (.of (sub _ _ h1));exact⟨o,ho,.inl ⟨_,rfl,hc⟩⟩
 |tupk h1=>obtain⟨its,rv,⟨o,ho,hc,n,hd⟩,_⟩:=I.tuple (.inr h1);exact⟨o,ho,.inl ⟨_,rfl,hc⟩⟩
 |lst h1 h2 h3=>obtain⟨its,rv,⟨o,n,ho,hc,_,hd⟩,_⟩:=I.list (sub.seq h1);exact⟨o,ho,.inr (.inl ⟨_,rfl,hc⟩)⟩
 | @dct a es kvs vvs h1 _ _ _=>obtain⟨_,_,xs,_,o,es,ep,q1,q2,_⟩:=(show ZU X.prog X.w H s.heap x (.dT vvs) from Ld I.hok (Jl h1 sub));exact⟨o,q1,.inr (.inr ⟨_,rfl,q2.1⟩)⟩
 |fn _=>exact absurd rfl (nd _)
theorem VD:AJ X (.builtin "isinstance") (λxs H Q=>∃F d v,xs=[v,.ty "bool"]/\Zp F H/\bL X.K F d v/\(∀es,d≠.dict es)/\Q (.bl (HM.Y2 .bool d)) H):=by
 refine Jc λs d v u Q ru ⟨K,F,rp⟩ nd ho k=>?_;cases rp with
 |non=>cases ru;exact IsiPair.NoneType_bool (k _)
 |bl _=>cases ru;exact IsiPair.bool_bool (k _)
 |int _=>obtain⟨t,rfl⟩:=ru;exact IsiPair.int_bool (k _)
 |str _=>obtain⟨t,rfl⟩:=ru;exact IsiPair.str_bool (k _)
 |tup _ _ _|tupk _ =>
  cases ru;obtain⟨o,h1,⟨_,_,h2⟩|⟨_,e,_⟩|⟨_,e,_⟩⟩:=ho _ rfl
  .exact IsiPair.tuple_bool h1 h2 (k _)
  .cases e
  .cases e
 |lst _ _ _ =>
  cases ru;obtain⟨o,h1,⟨_,e,_⟩|⟨_,_,h2⟩|⟨_,e,_⟩⟩:=ho _ rfl
  .cases e
  .exact IsiPair.list_bool h1 h2 (k _)
  .cases e
 |dct _ _ _ _ =>
  cases ru;obtain⟨o,h1,⟨_,e,_⟩|⟨_,e,_⟩|⟨_,_,h2⟩⟩:=ho _ rfl
  .cases e
  .cases e
  .exact IsiPair.dict_bool h1 h2 (k _)
 |fn _=>exact absurd rfl (nd _)
theorem U3:AJ X (.builtin "isinstance") (λxs H Q=>∃F d v,xs=[v,.ty "int"]/\Zp F H/\bL X.K F d v/\(∀es,d≠.dict es)/\Q (.bl (HM.Y2 .int d)) H):=by
 refine Jc λs d v u Q ru ⟨K,F,rp⟩ nd ho k=>?_;cases rp with
 |non=>cases ru;exact IsiPair.NoneType_int (k _)
 |bl _=>cases ru;exact IsiPair.bool_int (k _)
 |int _=>obtain⟨t,rfl⟩:=ru;exact IsiPair.int_int (k _)
 |str _=>obtain⟨t,rfl⟩:=ru;exact IsiPair.str_int (k _)
 |tup _ _ _|tupk _ =>
  cases ru;obtain⟨o,h1,⟨_,_,h2⟩|⟨_,e,_⟩|⟨_,e,_⟩⟩:=ho _ rfl
  .exact IsiPair.tuple_int h1 h2 (k _)
  .cases e
  .cases e
 |lst _ _ _ =>
  cases ru;obtain⟨o,h1,⟨_,e,_⟩|⟨_,_,h2⟩|⟨_,e,_⟩⟩:=ho _ rfl
  .cases e
  .exact IsiPair.list_int h1 h2 (k _)
  .cases e
 |dct _ _ _ _ =>
  cases ru;obtain⟨o,h1,⟨_,e,_⟩|⟨_,e,_⟩|⟨_,_,h2⟩⟩:=ho _ rfl
  .cases e
  .cases e
  .exact IsiPair.dict_int h1 h2 (k _)
 |fn _=>exact absurd rfl (nd _)
theorem Wy:AJ X (.builtin "isinstance") (λxs H Q=>∃F d v,xs=[v,.ty "tuple"]/\Zp F H/\bL X.K F d v/\(∀es,d≠.dict es)/\Q (.bl (HM.Y2 .tuple d)) H):=by
 refine Jc λs d v u Q ru ⟨K,F,rp⟩ nd ho k=>?_;cases rp with
 |non=>cases ru;exact IsiPair.NoneType_tuple (k _)
 |bl _=>cases ru;exact IsiPair.bool_tuple (k _)
 |int _=>obtain⟨t,rfl⟩:=ru;exact IsiPair.int_tuple (k _)
 |str _=>obtain⟨t,rfl⟩:=ru;exact IsiPair.str_tuple (k _)
 |tup _ _ _|tupk _ =>
  cases ru;obtain⟨o,h1,⟨_,_,h2⟩|⟨_,e,_⟩|⟨_,e,_⟩⟩:=ho _ rfl
  .exact IsiPair.tuple_tuple h1 h2 (k _)
  .cases e
  .cases e
 |lst _ _ _ =>
  cases ru;obtain⟨o,h1,⟨_,e,_⟩|⟨_,_,h2⟩|⟨_,e,_⟩⟩:=ho _ rfl
  .cases e
  .exact IsiPair.list_tuple h1 h2 (k _)
  .cases e
 |dct _ _ _ _ =>
  cases ru;obtain⟨o,h1,⟨_,e,_⟩|⟨_,e,_⟩|⟨_,_,h2⟩⟩:=ho _ rfl
  .cases e
  .cases e
  .exact IsiPair.dict_tuple h1 h2 (k _)
 |fn _=>exact absurd rfl (nd _)
theorem UB:AJ X (.builtin "isinstance") (λxs H Q=>∃F d v,xs=[v,.ty "list"]/\Zp F H/\bL X.K F d v/\(∀es,d≠.dict es)/\Q (.bl (HM.Y2 .list d)) H):=by
 refine Jc λs d v u Q ru ⟨K,F,rp⟩ nd ho k=>?_;cases rp with
 |non=>cases ru;exact IsiPair.NoneType_list (k _)
 |bl _=>cases ru;exact IsiPair.bool_list (k _)
 |int _=>obtain⟨t,rfl⟩:=ru;exact IsiPair.int_list (k _)
 |str _=>obtain⟨t,rfl⟩:=ru;exact IsiPair.str_list (k _)
 |tup _ _ _|tupk _ =>
  cases ru;obtain⟨o,h1,⟨_,_,h2⟩|⟨_,e,_⟩|⟨_,e,_⟩⟩:=ho _ rfl
  .exact IsiPair.tuple_list h1 h2 (k _)
  .cases e
  .cases e
 |lst _ _ _ =>
  cases ru;obtain⟨o,h1,⟨_,e,_⟩|⟨_,_,h2⟩|⟨_,e,_⟩⟩:=ho _ rfl
  .cases e
  .exact IsiPair.list_list h1 h2 (k _)
  .cases e
 |dct _ _ _ _ =>
  cases ru;obtain⟨o,h1,⟨_,e,_⟩|⟨_,e,_⟩|⟨_,_,h2⟩⟩:=ho _ rfl
  .cases e
  .cases e
  .exact IsiPair.dict_list h1 h2 (k _)
 |fn _=>exact absurd rfl (nd _)
theorem Jg{eA:Str}{j4:String}{t:HM.Ty}(hR:AJ X (.builtin "isinstance") (λxs H Q=>∃F d v,xs=[v,.ty j4]/\Zp F H/\bL X.K F d v/\(∀es,d≠.dict es)/\Q (.bl (HM.Y2 t d)) H))(bt:Bi eA=some (.type j4))(hm:X.mg "isinstance"=none)(fk:X.mg eA=none)(ha:XE X a fa)(hg:Gl X "isinstance")(fo:Gl X eA)(hn:eA ≠ "__name__")(hd:(eA==("__debug__":Str))=false)(da:Af [a,.Name eA p2] X.env=(false,eval a X.env)::Af [.Name eA p2] X.env)(cY:Af [.Name eA p2] X.env=[(false,eval (.Name eA p2) X.env)]):XE X (.Call (.Name "isinstance" p) [a,.Name eA p2] [] pos) (HM.FP fa t):=by
 intro r d h;have key:∃x,fa r=some x/\(∀es,x≠.dict es)/\d=.bool (HM.Y2 t x):=by
  unfold HM.FP at h;split at h
  .cases h
  .rename_i x hn hx
   cases h;exact⟨x,hx,λes z=>hn es (by rw[z]),rfl⟩
  .cases h
 obtain⟨x,h1,nd,h2⟩:=key;subst h2;refine PE.imp (DF hR hg hm X9 (Z4 (ha r x h1) (Z4 (UW (v:=.ty j4) fo fk bt rfl hn hd) BR (by rw[cY];rfl)) da) (he:=da) (hpl:=by rw[cY];rfl)) λY H Q ⟨F0,H0,F,at_,k⟩=>?_;exact⟨F0,H0,F,at_,λv F1 H1 x1 r1=>⟨F1,x,v,rfl,x1.sub,r1,nd,k _ F1 H1 x1 (.bl _)⟩⟩
theorem Xj(hm:X.mg "isinstance"=none)(fk:X.mg "bool"=none)(ha:XE X a fa)(hg:Gl X "isinstance":=by rfl)(fo:Gl X "bool":=by rfl)(da:Af [a,.Name "bool" p2] X.env=(false,eval a X.env)::Af [.Name "bool" p2] X.env:=by rfl):XE X (.Call (.Name "isinstance" p) [a,.Name "bool" p2] [] pos) (HM.FP fa .bool):=Jg VD SY hm fk ha hg fo (by decide) (by decide) da rfl
theorem WJ(hm:X.mg "isinstance"=none)(fk:X.mg "int"=none)(ha:XE X a fa)(hg:Gl X "isinstance":=by rfl)(fo:Gl X "int":=by rfl)(da:Af [a,.Name "int" p2] X.env=(false,eval a X.env)::Af [.Name "int" p2] X.env:=by rfl):XE X (.Call (.Name "isinstance" p) [a,.Name "int" p2] [] pos) (HM.FP fa .int):=Jg U3 Ln hm fk ha hg fo (by decide) (by decide) da rfl
theorem Q2(hm:X.mg "isinstance"=none)(fk:X.mg "tuple"=none)(ha:XE X a fa)(hg:Gl X "isinstance":=by rfl)(fo:Gl X "tuple":=by rfl)(da:Af [a,.Name "tuple" p2] X.env=(false,eval a X.env)::Af [.Name "tuple" p2] X.env:=by rfl):XE X (.Call (.Name "isinstance" p) [a,.Name "tuple" p2] [] pos) (HM.FP fa .tuple):=Jg Wy LY hm fk ha hg fo (by decide) (by decide) da rfl
theorem Xi(hm:X.mg "isinstance"=none)(fk:X.mg "list"=none)(ha:XE X a fa)(hg:Gl X "isinstance":=by rfl)(fo:Gl X "list":=by rfl)(da:Af [a,.Name "list" p2] X.env=(false,eval a X.env)::Af [.Name "list" p2] X.env:=by rfl):XE X (.Call (.Name "isinstance" p) [a,.Name "list" p2] [] pos) (HM.FP fa .list):=Jg UB Pj hm fk ha hg fo (by decide) (by decide) da rfl
theorem Lx(hm:X.mg "max"=none)(hc:X.calm=true)(ha:XE X a fa)(hb:XE X b fb)(hg:Gl X "max":=by rfl)(da:Af [a,b] X.env=(false,eval a X.env)::Af [b] X.env:=by rfl)(cY:Af [b] X.env=[(false,eval b X.env)]:=by rfl):XE X (.Call (.Name "max" p) [a,b] [] pos) (HM.bH HM.C7 fa fb):=by
 intro r d h;obtain⟨x,y,h1,h2,h3⟩:=G3 h;obtain⟨i,j,rfl,rfl,e⟩:=Hf h3;cases e;refine PE.imp (DF (WE hc) hg hm OC (Z4 (ha r _ h1) (Z4 (hb r _ h2) BR cY) da) (he:=da) (hpl:=by rw[cY];rfl)) λY H Q ⟨F0,H0,F,at_,k⟩=>?_;exact⟨F0,H0,F,at_,λv F1 H1 x1 r1=>⟨F0,H0,F1,at_.grow x1,λw F2 H2 x2 r2=>⟨i,j,by rw[r1.int_inv,r2.int_inv],k _ F2 H2 (x1.trans x2) (.int _)⟩⟩⟩
theorem Lw(hm:X.mg "min"=none)(hc:X.calm=true)(ha:XE X a fa)(hb:XE X b fb)(hg:Gl X "min":=by rfl)(da:Af [a,b] X.env=(false,eval a X.env)::Af [b] X.env:=by rfl)(cY:Af [b] X.env=[(false,eval b X.env)]:=by rfl):XE X (.Call (.Name "min" p) [a,b] [] pos) (HM.bH HM.C6 fa fb):=by
 intro r d h;obtain⟨x,y,h1,h2,h3⟩:=G3 h;obtain⟨i,j,rfl,rfl,e⟩:=Hf h3;cases e;refine PE.imp (DF (Vp hc) hg hm T9 (Z4 (ha r _ h1) (Z4 (hb r _ h2) BR cY) da) (he:=da) (hpl:=by rw[cY];rfl)) λY H Q ⟨F0,H0,F,at_,k⟩=>?_;exact⟨F0,H0,F,at_,λv F1 H1 x1 r1=>⟨F0,H0,F1,at_.grow x1,λw F2 H2 x2 r2=>⟨i,j,by rw[r1.int_inv,r2.int_inv],k _ F2 H2 (x1.trans x2) (.int _)⟩⟩⟩
theorem Vg(hm:X.mg "int"=none)(ha:XE X a fa)(hg:Gl X "int":=by rfl)(hs:Af [a] X.env=[(false,eval a X.env)]:=by rfl):XE X (.Call (.Name "int" p) [a] [] pos) (HM.XU fa):=by
 intro r d h;unfold HM.XU at h;split at h
 .rename_i i hi
  cases h;refine PE.imp (EW Qm hg hm Ln (Z4 (ha r _ hi) BR hs) (he:=hs)) λY H Q ⟨F0,H0,F,at_,k⟩=>?_;exact⟨F0,H0,F,at_,λv F1 H1 x1 r1=>.inl ⟨i,by rw[r1.int_inv],k _ F1 H1 x1 (.int _)⟩⟩
 .rename_i q hq
  cases h;refine PE.imp (EW Qm hg hm Ln (Z4 (ha r _ hq) BR hs) (he:=hs)) λY H Q ⟨F0,H0,F,at_,k⟩=>?_;exact⟨F0,H0,F,at_,λv F1 H1 x1 r1=>.inr ⟨q,by rw[r1.bool_inv],k _ F1 H1 x1 (.int _)⟩⟩
 .cases h
end
end
section
variable{ga:HM.BF}{r:HM.Env}{F F0 H H0:J}{Y:L2.St}{ds:List PyData}{vs:List V}{i:Nat}{p1 p2:Pos}{K:Ad}{x:Str}
section
variable{X:Cx}{a b c e:Expr}{fa fb fc:HM.EF}{pos p:Pos}{f:HM.BF}{tg:Expr}
theorem PI.imp{X:Cx}{tg e:Expr}{t u:TI}(h:PI X tg e t)(hi:∀Y H R,u Y H R->t Y H R):PI X tg e u:=λbE s Y H R I q=>h bE s Y H R I (hi Y H R q)
theorem SG{l:Expr}{tl:TE}(hl:PE X l tl):PI X tg l (λY H R=>tl Y H λx H1=>∃a,x=.ref a/\((∃xs,cm X.K H1 a xs)/\R (kN X.K a) H1\/(∃xs,cE X.K H1 a xs)/\R (j0 X.K a) H1)):=by
 intro bE s Y H R I h;refine bM (hl bE s Y H _ I h) λv s1 ⟨x,H1,I1,r1,q1⟩=>?_;obtain⟨a,e,q1⟩:=q1;subst e;cases r1;rcases q1 with⟨⟨xs,hq⟩,q⟩|⟨⟨xs,hq⟩,q⟩
 .obtain⟨its,rv,p,hz⟩:=I1.list hq
  refine KI p.isList ⟨s1.heap.objs.size,[s1.heap.objs.size],_,_,H1,rfl,I1.kept (t':=s1.toks) λb o e=>As _ e,Wo a _,⟨_,AI _ rfl,rfl,rfl⟩,λb hb=>?_,q⟩;obtain rfl:b=s1.heap.objs.size:=by simpa using hb
  exact I1.fpOk (Ag _) (I1.hok.fresh (Ag _))
 .obtain⟨its,rv,p,hz⟩:=I1.tuple hq
  refine wpAny_pyIter_tuple (show s1.heap.IsTuple a its.toArray from p) ⟨s1.heap.objs.size,[s1.heap.objs.size],_,_,H1,rfl,I1.kept (t':=s1.toks) λb o e=>As _ e,WU a _,⟨_,AI _ rfl,rfl,rfl⟩,λb hb=>?_,q⟩;obtain rfl:b=s1.heap.objs.size:=by simpa using hb
  exact I1.fpOk (Ag _) (I1.hok.fresh (Ag _))
theorem VP{a:Addr}(h:cm K F a vs)(r:Zt K F ds vs):hZ K (kN K a) ds F:=by intro F' H s1 s2;have hq:cm K H a vs:=(s1.trans s2).seq h;refine⟨λi d hd=>?_,⟨vs,hq,by rw[r.1];exact Ag _⟩⟩;obtain⟨v,h1,h2⟩:=r.get hd;refine⟨⟨vs,v,hq,h1⟩,λx H' hy=>?_⟩;obtain⟨e,y⟩:=hy;refine⟨e,?_⟩;have:=y vs hq;rw[h1]at this;cases this;exact h2.mono (s1.trans (Cd s2))
theorem VL{a:Addr}(h:cE K F a vs)(r:Zt K F ds vs):hZ K (j0 K a) ds F:=by intro F' H s1 s2;have hq:cE K H a vs:=L6 h (s1.trans s2);refine⟨λi d hd=>?_,⟨vs,hq,by rw[r.1];exact Ag _⟩⟩;obtain⟨v,h1,h2⟩:=r.get hd;refine⟨⟨vs,v,hq,h1⟩,λx H' hy=>?_⟩;obtain⟨e,y⟩:=hy;refine⟨e,?_⟩;have:=y vs hq;rw[h1]at this;cases this;exact h2.mono (s1.trans (Cd s2))
theorem TQ{a:Addr}(h:F a=some (.tup vs))(r:Zt K F ds vs):hZ K (j0 K a) ds F:=by intro F' H s1 s2;have hq:cE K H a vs:=.of (s2 _ _ (s1 _ _ h));refine⟨λi d hd=>?_,⟨vs,hq,by rw[r.1];exact Ag _⟩⟩;obtain⟨v,h1,h2⟩:=r.get hd;refine⟨⟨vs,v,hq,h1⟩,λx H' hy=>?_⟩;obtain⟨e,y⟩:=hy;refine⟨e,?_⟩;have:=y vs hq;rw[h1]at this;cases this;exact h2.mono (s1.trans (Cd s2))
theorem BC(h:XE X e fa):XI X tg e (HM.ZW (HM.bW fa)):=by
 intro r ds hd;unfold HM.ZW HM.bW at hd;cases hx:fa r with
 |none=>rw[hx]at hd;cases hd
 |some d =>
  rw[hx]at hd;have hd:HM.G8 (.pl d)=some ds:=hd;refine PI.imp (SG (h r d hx)) λY H R ⟨F0,H0,F,at_,k⟩=>?_;refine⟨F0,H0,F,at_,λv F1 H1 x1 r1=>?_⟩;cases r1 with
  | @tupk a x h1=>cases hd;exact⟨a,rfl,.inr ⟨⟨_,.inr h1⟩,k _ F1 H1 x1 (VL (.inr h1) (.one (.str x)))⟩⟩
  | @tup a ds' vs h1 h2 h3=>cases hd;exact⟨a,rfl,.inr ⟨⟨vs,.of (x1.sub _ _ h1)⟩,k _ F1 H1 x1 (TQ h1 ⟨h2,h3⟩)⟩⟩
  | @lst a ds' vs h1 h2 h3=>cases hd;exact⟨a,rfl,.inl ⟨⟨vs,x1.sub.seq h1⟩,k _ F1 H1 x1 (VP h1 ⟨h2,h3⟩)⟩⟩
  |dct _ _ _ _=>cases hd
  |fn _=>cases hd
  |non=>cases hd
  |bl _=>cases hd
  |int _=>cases hd
  |str _=>cases hd
theorem O1(lo:Int)(n:Nat):hZ K (jd lo n) (HM.Eb lo n) F:=by
 intro F' H s1 s2;have hl:(HM.Eb lo n).length=n:=by unfold HM.Eb;rw[Ae,AB]
 refine⟨λi d hd=>?_,?_⟩
 .have hi:i<n:=by rw[<-hl];exact(AO.mp hd).1
  unfold HM.Eb at hd;rw[A9,IB hi]at hd;cases hd;exact⟨hi,λx H' ⟨e1,e2⟩=>⟨e1,by rw[e2];exact .int _⟩⟩
 .rw[hl];exact Ag _
theorem Jn{j:Int}(h:HM.dE j=true):-1000000<j/\j<1000000:=by unfold HM.dE at h;rw[Eo]at h;omega
theorem Z8(hm:X.mg "range"=none)(ha:XE X a fa)(hg:Gl X "range":=by rfl)(hs:Af [a] X.env=[(false,eval a X.env)]:=by rfl):XI X tg (.Call (.Name "range" p) [a] [] pos) (HM.ZH fa):=by
 intro r ds hd;unfold HM.ZH at hd;split at hd
 .rename_i j hj
  split at hd
  .rename_i hok
   cases hd;obtain⟨k1,k2⟩:=Jn hok;refine PI.imp (Wx hg hm (Z4 (ha r _ hj) BR hs) hs) λY H R ⟨F0,H0,F,at_,k⟩=>?_;exact⟨F0,H0,F,at_,λv F1 H1 x1 r1=>⟨j,by rw[r1.int_inv],by omega,by omega,k _ F1 H1 x1 (O1 0 j.toNat)⟩⟩
  .cases hd
 .cases hd
theorem Qo(hm:X.mg "range"=none)(ha:XE X a fa)(hb:XE X b fb)(hg:Gl X "range":=by rfl)(hs:Af [a,b] X.env=[(false,eval a X.env),(false,eval b X.env)]:=by rfl)(cY:Af [b] X.env=[(false,eval b X.env)]:=by rfl):XI X tg (.Call (.Name "range" p) [a,b] [] pos) (HM.FH fa fb):=by
 intro r ds hd;unfold HM.FH at hd;split at hd
 .rename_i i hi
  split at hd
  .rename_i j hj
   split at hd
   .rename_i hok
    cases hd;rw[BJ]at hok;obtain⟨k1,k2⟩:=Jn hok.1;obtain⟨k3,k4⟩:=Jn hok.2;refine PI.imp (Wi hg hm (Z4 (ha r _ hi) (Z4 (hb r _ hj) BR cY) (by rw[hs,cY])) hs cY) λY H R ⟨F0,H0,F,at_,k⟩=>?_;exact⟨F0,H0,F,at_,λv F1 H1 x1 r1=>⟨F0,H0,F1,at_.grow x1,λw F2 H2 x2 r2=>⟨i,j,by rw[r1.int_inv,r2.int_inv],⟨by omega,by omega,by omega,by omega⟩,k _ F2 H2 (x1.trans x2) (O1 i (j-i).toNat)⟩⟩⟩
   .cases hd
  .cases hd
 .cases hd
theorem Lv{gb:HM.BF}(ha:XB X a ga)(hb:XB X b gb):XF X (.BinOp a .Add b pos) (HM.Lp ga gb):=by
 intro r d h;unfold HM.Lp at h;split at h
 .rename_i xs hx
  split at h
  .rename_i ys hy
   split at h
   .rename_i hz
    cases h;refine PE.imp (GR TB (ha r _ hx) (hb r _ hy)) λY H Q ⟨F0,H0,F,at_,k⟩=>?_;refine⟨F0,H0,F,at_,λv F1 H1 x1 ⟨fp,r1⟩=>⟨F0,H0,F1,at_.grow x1,λw F2 H2 x2 ⟨fq,r2⟩=>?_⟩⟩;cases r1 with
    |ol h1 q1 =>
     cases r2 with
     |ol h2 q2 =>
      have q1':=q1.mono x2.ff;refine⟨_,_,_,_,rfl,rfl,x2.hh _ _ h1,h2,?_,λl hl=>FO (P:=λv _ H'=>Q v H') (x1.trans x2) (q1'.append q2) hl k⟩;have e1:=q1.1;have e2:=q2.1;have e3:(1000000:Nat)<=sizeLine:=by decide
      unfold HM.big at hz;omega
   .cases h
  .cases h
 .cases h
theorem TM(ha:XB X a ga)(hb:XE X b fb):XF X (.BinOp a .Mult b pos) (HM.Vu ga fb):=by
 intro r d h;unfold HM.Vu at h;split at h
 .rename_i xs hx
  split at h
  .rename_i i hy
   split at h
   .rename_i hz
    cases h;rw[BJ,decide_eq_true_eq,decide_eq_true_eq]at hz;refine PE.imp (GR R8 (ha r _ hx) (hb r _ hy)) λY H Q ⟨F0,H0,F,at_,k⟩=>?_;refine⟨F0,H0,F,at_,λv F1 H1 x1 ⟨fp,r1⟩=>⟨F0,H0,F1,at_.grow x1,λw F2 H2 x2 r2=>?_⟩⟩;cases r1 with
    |ol h1 q1 =>
     have q1':=q1.mono x2.ff;refine⟨_,i,_,rfl,r2.int_inv,x2.hh _ _ h1,by omega,by omega,?_,λl hl=>FO (P:=λv _ H'=>Q v H') (x1.trans x2) (q1'.rep i.toNat) hl k⟩;have e1:=q1.1;have e3:(1000*1000:Nat)<=sizeLine:=by decide
     refine BE (Ip (?_:_<=1000) (?_:_<=1000)) e3<;>omega
   .cases h
  .cases h
 .cases h
def XO(X:Cx)(e:Option Expr)(f:Option HM.EF):Prop:=∀r o,HM.O6 f r=some o->PO X e λY H Q=>eD X.K r Y H λF0 H0 F=>∀F' H',bP F H F' H'->Q o H'
theorem Tg:XO X none none:=by intro r o h;cases h;intro bE s Y H Q I q;obtain⟨F0,H0,F,at_,k⟩:=q;exact T1 bE s Y H Q I (k F H at_.refl)
theorem Tc(h:XE X e fa):XO X (some e) (some fa):=by
 intro r o ho;unfold HM.O6 at ho;split at ho
 .rename_i z;cases z
 .rename_i g z
  cases z;split at ho
  .rename_i i hi
   cases ho;intro bE s Y H Q I q;obtain⟨F0,H0,F,at_,k⟩:=q;exact UD (h r _ hi) bE s Y H Q I ⟨F0,H0,F,at_,λv F1 H1 x1 r1=>⟨i,r1.int_inv,k F1 H1 x1⟩⟩
  .cases ho
theorem TL{lo hi:Option Expr}{fl fh:Option HM.EF}(ha:XB X a ga)(hl:XO X lo fl)(hh:XO X hi fh):XF X (.Subscript a (.Slice lo hi none p2) pos) (HM.VC ga fl fh):=by
 intro r d h;unfold HM.VC at h;split at h
 .rename_i x hx
  split at h
  .rename_i xs d8
   split at h
   .rename_i l hl'
    split at h
    .rename_i u hu'
     cases h;refine PE.imp (Us Tt (ha r _ hx) (hl r _ hl') (hh r _ hu')) λY H Q ⟨F0,H0,F,at_,k⟩=>?_;refine⟨F0,H0,F,at_,λv F1 H1 x1 ⟨fp,r1⟩=>⟨F0,H0,F1,at_.grow x1,λF2 H2 x2=>⟨F0,H0,F2,(at_.grow x1).grow x2,λF3 H3 x3=>?_⟩⟩⟩;have j3:=x2.trans x3;obtain⟨l',vs,e1,hq,rs⟩:=Hg x3.sub (r1.mono j3.ff λ_ _ _ z=>j3.hh _ _ z) d8;refine⟨l',vs,e1,hq,λl2 fX=>FO (P:=λv _ H'=>Q v H') (x1.trans j3) ?_ fX k⟩;unfold HM.cutD GN;rw[<-rs.1];exact(rs.drop _).take _
    .cases h
   .cases h
  .cases h
 .cases h
theorem Ax.val{fp:Nat->List Addr}(e:Ax K F0 H0 F H r Y fp)(h:r[i]?=some (some (.ol ds))):∃l vs,Y[i]?=some (some (.ref l))/\H l=some (.lst vs)/\Zt K F ds vs/\fp i=[l]:=by
 obtain⟨v,h1,h2⟩:=e.at_ i _ h;generalize hf:fp i=q at h2;cases h2 with
 |ol k1 k2=>exact⟨_,_,h1,k1,k2,rfl⟩
theorem At.chgList{es:List PyData}(e:At K F0 H0 F H r Y)(h:r[i]?=some (some (.ol ds))):∃l vs,Y[i]?=some (some (.ref l))/\H l=some (.lst vs)/\Zt K F ds vs/\∀us,Zt K F es us->At K F0 H0 F (upd H l (.lst us)) (r.set i (some (.ol es))) Y:=by
 obtain⟨fp,e⟩:=e;obtain⟨l,vs,h1,h2,h3,h4⟩:=e.val h;refine⟨l,vs,h1,h2,h3,λus q=>e.change (fp':=[l]) h1 (.ol Zz q) (by simp) (λa ha=>.inl (by rw[h4];exact ha)) λa o z hn=>?_⟩;rw[Zu (λz=>hn (by rw[h4,z];simp))];exact z
theorem DH(i:Nat){p3:Pos}(ha:XE X a fa)(hN:X.N[i]?=some x:=by rfl)(hv:d6 X.env.scope x:=by first|exact AE rfl|exact Ar (AE rfl)|exact Ar (Ar rfl))(hd:(x==("__debug__":Str))=false:=by decide)(dh:(x==("__classdict__":Str))=false:=by decide)(cW:Gb (.Name x p1) "append" X.env (eval (.Name x p1) X.env)=eval (.Name x p1) X.env:=by rfl)(c5:((backTo p3 (Af [a] X.env)).all (λx=>!x.1)&&(backToKw p3 (Gd [] X.env)).all (λx=>x.1.isSome)&&decide (([a]:List Expr).length+([]:List Keyword).length+(if([]:List Keyword).isEmpty then 0 else 1)<30))=true:=by rfl)(cU:(p2.endLine==p3.line)=true:=by rfl)(hs:Af [a] X.env=[(false,eval a X.env)]:=by rfl):XS X (.Expr (.Call (.Attribute (.Name x p1) "append" p2) [a] [] p3) pos) (HM.Dp i fa):=by
 intro r o h;unfold HM.Dp at h;split at h
 .rename_i ds cf
  split at h
  .rename_i d hd'
   split at h
   .rename_i hz
    cases h;refine PS.imp (LN (Oj Nz NC NB Mp (Dj hN hv hd dh) (Z4 (ha r d hd') BR hs) cW c5 cU hs rfl)) λE Y H ⟨F0,H0,F,at_,k⟩=>?_;obtain⟨l,vs,e1,e2,e3,_⟩:=at_.chgList (es:=ds) cf;refine⟨.ref l,e1,.inl ⟨rfl,_,cm.of e2⟩,F0,H0,F,at_,λv F1 H1 x1 r1=>?_⟩;have eM:=at_.grow x1;obtain⟨l',vs',f1,f2,f3,f4⟩:=eM.chgList (es:=ds++[d]) cf;rw[e1]at f1;cases f1;refine⟨_,vs',v,rfl,rfl,f2,?_,k _ F1 _ (f4 _ (f3.append (.one r1)))⟩;have e4:=f3.1;have e5:(1000000:Nat)<=sizeLine:=by decide
    unfold HM.big at hz;omega
   .cases h
  .cases h
 .cases h
theorem UQ(i:Nat)(hk:XE X b fb)(ha:XE X a fa)(hN:X.N[i]?=some x:=by rfl)(hv:d6 X.env.scope x:=by first|exact AE rfl|exact Ar (AE rfl)|exact Ar (Ar rfl))(hd:(x==("__debug__":Str))=false:=by decide)(dh:(x==("__classdict__":Str))=false:=by decide)
  (en:∀v,assign (.Subscript (.Name x p1) b p2) X.env v=(do
   let ov <-holding [v] (eval (.Name x p1) X.env)
   let iv <-holding [v,ov] (eval b X.env)
   standAt p2
   holding [v,ov,iv] (setItem ov iv v)
   release [v,ov,iv] []):=by intro _;rfl)
  (hs:swapsWithSole [.Subscript (.Name x p1) b p2] a pos.line X.env=pure false:=by rfl) (hw:swappedStores [.Subscript (.Name x p1) b p2] a X.env=pure none:=by rfl)
  (h1:(BV [.Subscript (.Name x p1) b p2] X.env).map (·.2)=[assign (.Subscript (.Name x p1) b p2) X.env]:=by rfl):XS X (.Assign [.Subscript (.Name x p1) b p2] a pos) (HM.WT i fb fa):=by
 intro r o h;unfold HM.WT at h;split at h
 .rename_i d hd'
  split at h
  .rename_i ds cf
   split at h
   .rename_i n hn
    split at h
    .rename_i j hj
     cases h;refine PS.imp (Oy (ha r d hd') (Se (Dj hN hv hd dh) (hk r _ hn) fJ en) hs hw h1) λE Y H ⟨F0,H0,F,at_,k⟩=>?_;refine⟨F0,H0,F,at_,λv F1 H1 x1 r1=>?_⟩;have eM:=at_.grow x1;obtain⟨l,vs,e1,e2,e3,_⟩:=eM.chgList (es:=ds) cf;refine⟨.ref l,e1,F0,H0,F1,eM,λw F2 H2 x2 r2=>?_⟩;obtain⟨l',vs',f1,f2,f3,f4⟩:=(eM.grow x2).chgList (es:=ds.set j d) cf;rw[e1]at f1;cases f1;refine⟨_,vs',n,j,rfl,r2.int_inv,f2,?_,k _ F2 _ (f4 _ (f3.set (r1.mono x2.ff) j))⟩;rw[<-f3.1];exact hj
    .cases h
   .cases h
  .cases h
 .cases h
end
end
section
variable{K:Ad}{F:J}{κ:Type}[DecidableEq κ]
def Ay(K:Ad)(F:J)(kvs:List (κ×PyData))(vvs:List (κ×V)):Prop:=kvs.map (·.1)=vvs.map (·.1)/\Zt K F (kvs.map (·.2)) (vvs.map (·.2))
theorem Ay.nil:Ay K F ([]:List (κ×PyData)) []:=⟨rfl,.nil⟩
theorem Ay.cons{k:κ}{d:PyData}{v:V}{kvs:List (κ×PyData)}{vvs:List (κ×V)}(r:bL K F d v)(q:Ay K F kvs vvs):Ay K F ((k,d)::kvs) ((k,v)::vvs) :=
 ⟨by rw[Ao,Ao,q.1],by rw[Ao,Ao];exact .cons r q.2⟩
theorem Ay.inv{kvs:List (κ×PyData)}{vvs:List (κ×V)}(q:Ay K F kvs vvs):(kvs=[]/\vvs=[])\/∃k d v kvs' vvs',kvs=(k,d)::kvs'/\vvs=(k,v)::vvs'/\bL K F d v/\Ay K F kvs' vvs':=by
 cases kvs with
 |nil =>
  cases vvs with
  |nil=>exact .inl ⟨rfl,rfl⟩
  |cons p r=>exact absurd q.1 (by simp)
 |cons p kvs' =>
  cases vvs with
  |nil=>exact absurd q.1 (by simp)
  |cons p' vvs' =>
   obtain⟨k,d⟩:=p;obtain⟨k',v⟩:=p';obtain⟨q1,q2⟩:=q;rw[Ao,Ao]at q1 q2;injection q1 with e1 e2
   have e1:k=k':=e1;subst e1;obtain⟨v',us,e3,r1,r2⟩:=q2.cons_inv;injection e3 with e3 e4
   refine .inr ⟨k,d,v,kvs',vvs',rfl,rfl,?_,e2,?_⟩
   .rw[show v=v' from e3];exact r1
   .rw[e4];exact r2
theorem Ay.len{kvs:List (κ×PyData)}{vvs:List (κ×V)}(q:Ay K F kvs vvs):kvs.length=vvs.length:=by
 have:=congrArg Bb q.1
 rwa [Ae,Ae]at this
theorem Ay.any{kvs:List (κ×PyData)}{vvs:List (κ×V)}(k:κ)(q:Ay K F kvs vvs):(kvs.any λp=>decide (p.1=k))=vvs.any λp=>decide (p.1=k):=by
 have e:∀{β:Type} (l:List (κ×β)),(l.any λp=>decide (p.1=k))=(l.map (·.1)).any λx=>decide (x=k):=λl=>by rw[List.any_map];rfl
 rw[e,e,q.1]
theorem Ay.repl{d:PyData}{v:V}(k:κ)(r:bL K F d v):∀{kvs:List (κ×PyData)} {vvs:List (κ×V)},Ay K F kvs vvs->Ay K F (kvs.map λp=>if p.1=k then(p.1,d)else p) (vvs.map λp=>if p.1=k then(p.1,v)else p)
 |[],vvs,q=>by
  rcases q.inv with⟨_,e⟩|⟨_,_,_,_,_,e,_⟩
  .subst e;exact .nil
  .cases e
 |p::kvs,vvs,q=>by
  rcases q.inv with⟨e,_⟩|⟨k',d',v',kvs',vvs',e1,e2,r1,r2⟩
  .cases e
  .cases e1
   subst e2;have ih:=Ay.repl k r r2;rw[Ao,Ao]
   by_cases h:k'=k
   .rw[if_pos h,if_pos h];exact .cons r ih
   .rw[if_neg h,if_neg h];exact .cons r1 ih
theorem Ay.snoc{kvs:List (κ×PyData)}{vvs:List (κ×V)}{k:κ}{d:PyData}{v:V}(q:Ay K F kvs vvs)(r:bL K F d v):Ay K F (kvs++[(k,d)]) (vvs++[(k,v)]) :=
 ⟨by rw[Bj,Bj,q.1];rfl,by rw[Bj,Bj];exact q.2.append (.one r)⟩
theorem Ay.put{kvs:List (κ×PyData)}{vvs:List (κ×V)}{d:PyData}{v:V}(q:Ay K F kvs vvs)(k:κ)(r:bL K F d v):Ay K F (HM.dP kvs k d) (cj vvs k v):=by
 unfold HM.dP cj;rw[q.any k]
 by_cases h:(vvs.any λp=>decide (p.1=k))=true
 .rw[if_pos h,if_pos h];exact q.repl k r
 .rw[if_neg h,if_neg h];exact q.snoc r
theorem Ay.look{k:κ}:∀{kvs:List (κ×PyData)} {vvs:List (κ×V)},Ay K F kvs vvs->(∀d,HM.Ho kvs k=some d->∃v,B0 vvs k=some v/\bL K F d v)/\(HM.Ho kvs k=none->B0 vvs k=none)
 |[],vvs,q=>by
  rcases q.inv with⟨_,e⟩|⟨_,_,_,_,_,e,_⟩
  .subst e;exact⟨λd h=>(by cases h),λ_=>rfl⟩
  .cases e
 |p::kvs,vvs,q=>by
  rcases q.inv with⟨e,_⟩|⟨k',d',v',kvs',vvs',e1,e2,r1,r2⟩
  .cases e
  .cases e1
   subst e2;obtain⟨i1,i2⟩:=Ay.look (k:=k) r2
   by_cases h:k'=k
   .have e3:HM.Ho ((k',d')::kvs) k=some d':=by simp[HM.Ho,CA,h]
    rw[e3,Jx (p:=(k',v')) h];exact⟨λd hd=>(by cases hd;exact⟨v',rfl,r1⟩),λhd=>by cases hd⟩
   .have e3:HM.Ho ((k',d')::kvs) k=HM.Ho kvs k:=by simp[HM.Ho,CA,h]
    rw[e3,Jy (p:=(k',v')) h];exact⟨i1,i2⟩
theorem Ay.some_iff{k:κ}{kvs:List (κ×PyData)}{vvs:List (κ×V)}(q:Ay K F kvs vvs):(B0 vvs k).isSome=(HM.Ho kvs k).isSome:=by
 obtain⟨i1,i2⟩:=q.look (k:=k);cases h:HM.Ho kvs k with
 |none=>rw[i2 h];rfl
 |some d=>obtain⟨v,h1,_⟩:=i1 d h;rw[h1];rfl
end
section
variable{K:Ad}{F:J}
theorem L4{d:PyData}{k:bO}{v:V}(h:HM.IW d=some k)(r:bL K F d v):v=kV k:=by cases r<;>first|(cases h;rfl)|cases h
theorem Qy:∀{ds:List PyData} {ks:List bO} {vs:List V},HM.JH ds=some ks->Zt K F ds vs->vs=ks.map kV
 |[],ks,vs,h,r=>by cases h;exact r.nil_inv
 |d::ds,ks,vs,h,r=>by
  obtain⟨v,us,rfl,r1,r2⟩:=r.cons_inv;unfold HM.JH at h;split at h
  .rename_i k hk
   obtain⟨ks',h1,h2⟩:=Aj.mp h;subst h2;rw[L4 hk r1,Qy h1 r2];rfl
  .cases h
theorem OQ:∀{ds:List PyData} {ks:List bO},HM.I0 ds=some ks->HM.JH ds=some ks
 |[],ks,h=>h
 |d::ds,ks,h=>by
  unfold HM.I0 at h;split at h
  .cases ‹_=[]›
  .rename_i i r e
   injection e with e1 e2
   subst e1 e2;obtain⟨ks',h1,h2⟩:=Aj.mp h;subst h2;show(match HM.IW (.int i)with|some k=>(HM.JH ds).map (k::·)|none=>none)=_;rw[OQ h1];rfl
  .cases h
theorem Pb{d:PyData}{ks:List bO}{v:V}(h:HM.GU d=some ks)(r:bL K F d v):∃b,v=.ref b/\F b=some (.tup (ks.map kV)):=by
 cases r with
 |tup h1 h2 h3=>refine⟨_,rfl,?_⟩;rw[<-Qy (OQ h) ⟨h2,h3⟩];exact h1
 |tupk _=>cases h
 |lst _ _ _=>cases h
 |dct _ _ _ _=>cases h
 |fn _=>cases h
 |non=>cases h
 |bl _=>cases h
 |int _=>cases h
 |str _=>cases h
end
section
variable{X:Cx}{a b c e:Expr}{fa fb fc:HM.EF}{pos p:Pos}{f:HM.BF}
theorem fresh_one{K:Ad}{F H F1 H1:J}{o:HO}{q:HM.B}{l:Addr}{P:V->J->J->Prop}(x1:bP F H F1 H1)(hl:H1 l=none)(hq:ZZ K F1 (upd H1 l o) q (.ref l) [l])(k:∀v F' H',bP F H F' H'->(∃fp,ZZ K F' H' q v fp/\fp.Nodup/\∀a∈fp,F' a=none/\H a=none)->P v F' H'):P (.ref l) F1 (upd H1 l o):=by
 refine k _ F1 _ (x1.lay' hl) ⟨[l],hq,by simp,λa ha=>?_⟩;obtain rfl:a=l:=by simpa using ha
 exact⟨x1.sub.free hl,x1.hh.free hl⟩
theorem Ob:XF X (.Dict [] [] pos) HM.jR:=by intro r d h;cases h;exact PE.imp Uy λY H Q ⟨F0,H0,F,at_,k⟩ l hl=>fresh_one (P:=λv _ H'=>Q v H') at_.refl hl (.ot Zz rfl .nil) k
theorem Vf(ha:XE X a fa)(hb:XE X b fb):XF X (.Dict [some a] [b] pos) (HM.Xl fa fb):=by
 intro r d h;unfold HM.Xl at h;split at h
 .rename_i x hx
  split at h
  .rename_i y hy
   split at h
   .rename_i k hk
    cases h;refine PE.imp (UE (Vv (ha r x hx) (hb r y hy) S7) rfl rfl (by simp) (by simp)) λY H Q ⟨F0,H0,F,at_,kk⟩ l hl=>?_;have nZ:F l=none:=at_.sub.free hl;have x0:bP F H F (upd H l (.dK [])):=at_.refl.lay' hl;refine⟨F0,H0,F,at_.grow x0,λv F1 H1 x1 r1=>⟨F0,H0,F1,(at_.grow x0).grow x1,λw F2 H2 x2 r2=>?_⟩⟩;have gA:=x1.trans x2;have fX:H2 l=some (.dK []):=gA.hh l _ Zz;have mi:F2 l=none:=by
     cases q:F2 l with
     |none=>rfl
     |some o =>
      rcases gA.new l o q with z|z
      .rw[nZ]at z;cases z
      .exact(z.no Zz λ_ q=>by cases q).elim
    refine⟨fX,[(k,w)],?_,by simp,?_⟩
    .rw[L4 hk r1]
     rfl
    have xe:bP F H F2 (upd H2 l (.dK (Fy [] [(k,w)]))):=by
     refine⟨gA.ff,λc o z=>?_,λc o z=>?_,λc o z=>?_,λt=>(gA.tab (t.same (GG hl))).keep λa u z hu=>?_,gA.nts⟩
     .have hc:c≠l:=Cs z hl
      exact(gA.hh c o (by rw[Zu hc];exact z)).cong (Zu hc)
     .rw[Zu (λe=>by rw[e,mi]at z;cases z)]
      exact gA.sub c o z
     .rcases gA.new c o z with q|q
      .exact .inl q
      .exact .inr (q.back (.of (Zp.upd' hl)))
     .rw[Zu (λe=>by subst e;rw[fX]at z;cases z;cases hu)];exact z
    refine kk _ F2 _ xe ⟨[l],.ok Zz rfl (.one r2),by simp,λc hc=>?_⟩;obtain rfl:c=l:=by simpa using hc
    exact⟨mi,hl⟩
   .cases h
  .cases h
 .cases h
end
theorem At.chgOne{K:Ad}{F0 H0 F H:J}{r:HM.Env}{Y:L2.St}{i:Nat}{q:HM.B}{l:Addr}(e:At K F0 H0 F H r Y)(h:r[i]?=some (some q))(hv:Y[i]?=some (some (.ref l)))(kX:∀v fp,ZZ K F H q v fp->∃a,v=.ref a/\fp=[a]):∀o q',ZZ K F (upd H l o) q' (.ref l) [l]->At K F0 H0 F (upd H l o) (r.set i (some q')) Y:=by
 intro o q' hq;obtain⟨fp,e⟩:=e;obtain⟨v,h1,h2⟩:=e.at_ i _ h;obtain⟨a,e1,e2⟩:=kX v _ h2;subst e1;rw[hv]at h1;cases h1;refine e.change (fp':=[l]) hv hq (by simp) (λc hc=>.inl (by rw[e2];exact hc)) λc o' z hn=>?_;rw[Zu (λz=>hn (by rw[e2,z];simp))];exact z
section
variable{X:Cx}{a b c e:Expr}{fa fb fc:HM.EF}{pos p:Pos}{f:HM.BF}
theorem LM{n:Nat}(h:n<HM.big):n<sizeLine:=by
 have e5:(1000000:Nat)<=sizeLine:=by decide
 unfold HM.big at h;omega
theorem Lu(hu:X.A.units+1<cLine)(i:Nat){x:Str}{p1 p2:Pos}(hk:XE X b fb)(ha:XE X a fa)(hN:X.N[i]?=some x:=by rfl)(hv:d6 X.env.scope x:=by first|exact AE rfl|exact Ar (AE rfl)|exact Ar (Ar rfl))(hd:(x==("__debug__":Str))=false:=by decide)(dh:(x==("__classdict__":Str))=false:=by decide)(hs:CF a (some (.Subscript (.Name x p1) b p2)) pos.line X.env=pure false:=by rfl):XS X (.Assign [.Subscript (.Name x p1) b p2] a pos) (HM.IZ i fb fa):=by
 intro r o h;unfold HM.IZ at h;split at h
 .rename_i d hd'
  split at h
  .rename_i y hy
   split at h
   .rename_i kvs hb
    split at h
    .rename_i k hk'
     split at h
     .rename_i hz
      cases h;refine PS.imp (Pe hu (Dj hN hv hd dh) (hk r y hy) (ha r d hd') hs) λE Y H ⟨F0,H0,F,at_,kk⟩=>?_;refine⟨F0,H0,F,at_,λv F1 H1 x1 r1=>?_⟩;have eM:=at_.grow x1;obtain⟨u,fp,e1,e2⟩:=eM.any hb;refine⟨u,e1,F0,H0,F1,eM,λw F2 H2 x2 r2=>?_⟩;have cM:=eM.grow x2;cases e2 with
      | @ok l _ vvs e2 e3 e4=>have T:Ay X.K F2 kvs vvs:=⟨e3,e4.mono x2.ff⟩;have T':=T.put k (r1.mono x2.ff);rw[L4 hk' r2];have hH:H2 l=some (.dK vvs):=x2.hh _ _ e2;refine⟨l,_,rfl,DY.k hH (by rw[<-T.len];exact LM hz),kk _ F2 _ (cM.chgOne hb e1 (λv fp q=>by cases q;exact⟨_,rfl,rfl⟩) _ _ (.ok Zz T'.1 T'.2))⟩
     .cases h
    .cases h
   .rename_i kvs hb
    split at h
    .rename_i k hk'
     split at h
     .rename_i hz
      cases h;refine PS.imp (Pe hu (Dj hN hv hd dh) (hk r y hy) (ha r d hd') hs) λE Y H ⟨F0,H0,F,at_,kk⟩=>?_;refine⟨F0,H0,F,at_,λv F1 H1 x1 r1=>?_⟩;have eM:=at_.grow x1;obtain⟨u,fp,e1,e2⟩:=eM.any hb;refine⟨u,e1,F0,H0,F1,eM,λw F2 H2 x2 r2=>?_⟩;have cM:=eM.grow x2;cases e2 with
      | @ot l _ vvs e2 e3 e4=>have T:Ay X.K F2 kvs vvs:=⟨e3,e4.mono x2.ff⟩;have T':=T.put k (r1.mono x2.ff);obtain⟨bb,rfl,i6⟩:=Pb hk' r2;have hH:H2 l=some (.dT vvs):=x2.hh _ _ e2;refine⟨l,_,rfl,DY.t hH (x2.sub _ _ i6) (by rw[<-T.len];exact LM hz),kk _ F2 _ (cM.chgOne hb e1 (λv fp q=>by cases q;exact⟨_,rfl,rfl⟩) _ _ (.ot Zz T'.1 T'.2))⟩
     .cases h
    .cases h
   .cases h
  .cases h
 .cases h
end
section
variable{p:Addr}{env:Env}{r:HM.Env}{F F0 H H0:J}{Y:L2.St}{K:Ad}{scope:Scope}
abbrev No:Value->Shared->Prop:=λ_ _=>False
abbrev Ph(cX:List Expr)(env:Env):Sem Bool :=
 forIn cX true λc r=>if r=true then do let ok <-isTrue c env (eval c env);pure (HL ok)else pure (HL r)
theorem We{prog:Program}{w:World}{A:Around}{R:Result->Shared->Prop}{s:Shared}{dj cO iter:Expr}{cX:List Expr}{pos:Pos}{it acc:Value}(oJ:Nat->Shared->Prop)
  (dO:∀n s,oJ n s->wpAny (model prog w) A (pyNext it) (λr s1=>match r with
   |none=>R (.ok .next) s1
   |some v=>wpAny (model prog w) A (HR cO it v) (λ_ s2=>wpAny (model prog w) A (assign cO env v) (λ_ s3=>wpAny (model prog w) A (Ph cX env) (λok s4=>if ok=true then wpAny (model prog w) A (eval dj env) (λx s5=>wpAny (model prog w) A (call (.builtin "list.append") [acc,x]) (λ_ s6=>∃m,m<n/\oJ m s6) No s5) No s4 else ∃m,m<n/\oJ m s4) No s3) No s2) No s1) No s)
  (n:Nat)(h:oJ n s):codeAny (model prog w) A (.compLoop (.ListComp dj [⟨cO,iter,cX,0⟩] scope pos) 0 it acc env) R s:=by
 refine codeAny_loop rfl oJ (λn s hI=>?_) n h;show wpAny _ A ((compTurn (.ListComp dj [⟨cO,iter,cX,0⟩] scope pos) 0 it acc env).onRaise (λx=>do noteFrame x env;theTreesLotGoes x)) _ _ s;refine wpAny_noted ?_;rw[compTurn_list];refine Aa (wpAny_standAt (Aa (B7 (dO n s hI) (λr s1 h1=>?_) λ_ _ z=>z.elim)));cases r with
 |none=>exact Ac h1
 |some v =>
  refine Aa (B7 h1 (λ_ s2 h2=>Aa (B7 h2 (λ_ s3 h3=>Aa (B7 h3 (λok s4 h4=>?_) λ_ _ z=>z.elim)) λ_ _ z=>z.elim)) λ_ _ z=>z.elim);cases ok with
  |false=>exact Ac ⟨rfl,h4⟩
  |true=>refine Aa (Aa (B7 h4 (λx s5 h5=>?_) λ_ _ z=>z.elim));exact Aa (B7 h5 (λ_ s6 h6=>Ac (Ac ⟨rfl,h6⟩)) λ_ _ z=>z.elim)
def ZQ(X:Cx)(N:List Str)(scope:Scope)(cl:List (Str×Addr))(C:Addr)(s₀:Shared)(H₀:J)(ex:List Addr):Cx where
 prog:=X.prog
 w:=X.w
 K:=X.K
 mg:=X.mg
 base:=X.base
 A:=X.A
 N:=N
 s₀:=s₀
 H₀:=H₀
 env:=compEnvC scope cl C X.env
 outer:=X.stack
 stack:=X.stack
 ex:=ex
 fn:=λ_=>false
 calm:=true
 pn:=[]
 xe:=λ_ _=>False
theorem MC{env:Env}:∀(names:List (Str×NameKind)) (cs:List (Str×Addr)),(∀y∈names,y.2=.free->∃c,env.cells.lookup y.1=some c)->(∀x c,cs.lookup x=some c->env.cells.lookup x=some c) ->∃cl,(forIn names cs λ(x:Str×NameKind) r=>(match x with|(name,kind)=>if kind==.free then do let c <-cellOf env name;pure (HL ((name,c)::r))else pure (HL r):Sem (ForInStep (List (Str×Addr)))))=pure cl /\ (∀x c,cl.lookup x=some c->env.cells.lookup x=some c)/\(∀x,(cs.lookup x).isSome=true->(cl.lookup x).isSome=true)/\∀y∈names,y.2=.free->(cl.lookup y.1).isSome=true
 |[],cs,_,h2=>⟨cs,rfl,h2,λ_ h=>h,λy hy=>by simp at hy⟩
 |(n,k)::r,cs,h1,h2=>by
  rw[List.forIn_cons]
  by_cases hk:(k==Fh)=true
  .obtain⟨c,hc⟩:=h1 (n,k) (An ..) (by simpa using hk)
   have ec:cellOf env n=pure c:=by unfold cellOf;rw[hc]
   obtain⟨cl,e1,e2,e3,e4⟩:=MC r ((n,c)::cs) (λy hy=>h1 y (Aq _ hy)) (λx d hx=>by
    rw[DU]at hx;split at hx
    .rename_i hb
     have:x=n:=by simpa using hb
     cases hx;rw[this];exact hc
    .exact h2 x d hx)
   refine⟨cl,?_,e2,λx hx=>e3 x ?_,λy hy hf=>?_⟩
   .simp only[hk,if_true,ec,pure_bind]
    exact e1
   .rw[DU]
    split
    .rfl
    .exact hx
   .rcases Aw.mp hy with e|hy
    .subst e
     exact e3 n (by rw[DU];simp)
    .exact e4 y hy hf
  .obtain⟨cl,e1,e2,e3,e4⟩:=MC r cs (λy hy=>h1 y (Aq _ hy)) h2
   refine⟨cl,?_,e2,e3,λy hy hf=>?_⟩
   .simp only[hk,if_false,pure_bind,CP]
    exact e1
   .rcases Aw.mp hy with e|hy
    .subst e
     exact absurd (by simpa using hf) hk
    .exact e4 y hy hf
theorem Q3(h:∀y∈scope.names,y.2=.free->∃c,env.cells.lookup y.1=some c):∃cl,closureFor scope env=pure cl/\(∀x c,cl.lookup x=some c->env.cells.lookup x=some c)/\∀y∈scope.names,y.2=.free->(cl.lookup y.1).isSome=true:=by
 obtain⟨cl,e1,e2,_,e4⟩:=MC (env:=env) scope.names [] h (λx c hx=>by simp at hx);refine⟨cl,?_,e2,e4⟩;unfold closureFor;exact(congrArg (λm:Sem (List (Str×Addr))=>m >>= λcs=>pure cs) e1).trans (pure_bind cl λcs=>pure cs)
theorem bP.chg{F' H':J}(x:bP F H F' H')(o:HO)(h1:H p=none)(h2:F' p=none)(h3:∀u,H' p=some u->Ez u=true):bP F H F' (upd H' p o) :=
 ⟨x.ff,λb q z=>by
  have hb:b≠p:=Cs z h1;have y:=x.hh b q z;unfold B3 at y ⊢;rw[Zu hb];exact y,λb q z=>by rw[Zu (Cs z h2)];exact x.sub b q z,x.new,λt=>(x.tab t).keep λa u z hu=>by
   have ha:a≠p:=λe=>by subst e;exact OE (h3 u z) hu
   rw[Zu ha];exact z,x.nts⟩
theorem At.push{d:PyData}{v:V}(e:At K F0 H0 F H r Y)(q:bL K F d v):At K F0 H0 F H (some (.pl d)::r) (some v::Y):=by
 obtain⟨fp,e⟩:=e;refine⟨λi=>match i with|0=>[]|i+1=>fp i,e.ext,by rw[AL,AL,e.len],λi b h=>?_,λi h=>?_,λi a h=>?_,λi=>?_,λi j a ky h=>?_,e.tb,e.nt⟩
 .cases i with
  |zero=>rw[DS]at h;cases h;exact⟨v,rfl,.pl q⟩
  |succ i=>rw[Bq]at h;obtain⟨u,h1,h2⟩:=e.at_ i b h;exact⟨u,by rw[Bq];exact h1,h2⟩
 .cases i with
  |zero=>rfl
  |succ i=>exact e.emp i λb z=>h b (by rw[Bq];exact z)
 .cases i with
  |zero=>simp at h
  |succ i=>exact e.own i a h
 .cases i with
  |zero=>exact CY
  |succ i=>exact e.nd i
 .cases i with
  |zero=>simp at h
  |succ i =>
   cases j with
   |zero=>simp
   |succ j=>exact e.dis i j a (by omega) h
theorem At.chgNew(o:HO){Hs Fs:J}(e:At K F0 H0 F H r Y)(es:At K F0 H0 Fs Hs r Y)(hs:AS Hs H)(h1:Hs p=none)(h2:F p=none)(h3:∀u,H p=some u->Ez u=true):At K F0 H0 F (upd H p o) r Y:=by
 obtain⟨fp,e⟩:=e;obtain⟨fq,es⟩:=es;have hp:∀i,¬p∈fp i:=λi hm=>by
  obtain⟨b,hb⟩:=e.bound hm;obtain⟨v,q1,q2⟩:=e.at_ i b hb;obtain⟨v',q3,q4⟩:=es.at_ i b hb;rw[q1]at q3;cases q3;generalize fp i=f1 at q2 hm;generalize fq i=f2 at q4;cases q2 with
  |pl _=>simp at hm
  |hd _ _ _ _=>simp at hm
  |hf _=>simp at hm
  |ol k _=>cases q4 with|ol k' _=>simp at hm;subst hm;rw[h1]at k';cases k'
  |ok k _ _=>cases q4 with|ok k' _ _=>simp at hm;subst hm;rw[h1]at k';cases k'
  |ot k _ _=>cases q4 with|ot k' _ _=>simp at hm;subst hm;rw[h1]at k';cases k'
  |otl k _ v1 _ =>
   cases q4 with
   |otl k' hk' v2 r2' =>
    have eo:=hs.back k' k λ_ z=>by cases z
    cases eo;have v2':=v2;rw[v1]at v2;rcases Aw.mp hm with z2|z2
    .subst z2;rw[h1]at k';cases k'
    .have:V.ref p∈F5 V.ref _:=Ak.mpr ⟨p,z2,rfl⟩
     rw[v2]at this;obtain⟨a',m1,m2⟩:=Ak.mp this;injection m2 with m2
     subst m2;obtain⟨o,ho⟩:=ZZ.there (ZZ.otl k' hk' v2' r2') (Aq _ m1);rw[h1]at ho;cases ho
 have nY:H0 p=none:=es.ext.hh.free h1;refine⟨fp,e.ext.chg o nY h2 h3,e.len,λi b h=>?_,e.emp,e.own,e.nd,e.dis,e.tb,e.nt⟩;obtain⟨v,q1,q2⟩:=e.at_ i b h;refine⟨v,q1,q2.mono (Zp.refl F) λa ha o' z=>?_⟩;have cv:a≠p:=λe=>hp i (by rw[<-e];exact ha);exact .of (by rw[Zu cv];exact z)
end
section
variable{oG:Cx}{H H1:J}{Y:L2.St}{bE:List (Addr×Obj)}{fp:List Addr}{s s2:Shared}
structure C8(X:Cx)(N:List Str)(scope:Scope)(fr:List Str):Prop where
 kind:scope.kind=.function
 cell:∀y∈scope.names,y.2≠.cell
 names:∀y∈scope.names,y.2=.local->scope.names.lookup y.1=some .local
 loc:∀x∈fr,scope.names.lookup x=some .local
 first:∀(i:Nat) (x:Str),fr[i]?=some x->N[i]?=some x
 nd:N.Nodup
 len:N.length=X.N.length+fr.length
 cap:∀y∈scope.names,y.2=.free->X.env.kindOf y.1=some .cell\/X.env.kindOf y.1=some .free
 same:∀(i:Nat) (y:Str),N[i+fr.length]?=some y->scope.names.lookup y=some .free->X.N[i]?=some y
 vis:∀(i:Nat) (y:Str),N[i+fr.length]?=some y->d6 scope y->scope.names.lookup y=some .free
def fP(dF:PyData->Option (List PyData))(c:HM.TF)(e:HM.EF)(r:HM.Env):List PyData->Option (List PyData)
 |[]=>some []
 |x::xs=>match dF x with
  |some ys=>match c (ys.map (λd=>some (HM.B.pl d))++r)with
   |some true=>match e (ys.map (λd=>some (HM.B.pl d))++r)with
    |some y=>(fP dF c e r xs).map (y::·)
    |none=>none
   |some false=>fP dF c e r xs
   |none=>none
  |none=>none
def Fx(dF:PyData->Option (List PyData))(i:HM.IF)(c:HM.TF)(e:HM.EF):HM.BF:=λr=>match i r with
 |some xs=>if xs.length<HM.big then(fP dF c e r xs).map λys=>HM.B.ol ys else none
 |none=>none
def Jj(oG:Cx)(m:Nat)(tg:Expr)(dF:PyData->Option (List PyData)):Prop:=∀(bE:List (Addr×Obj)) (s:Shared) (Y:L2.St) (sv:List (Option V)) (H F:J) (d:PyData) (ys:List PyData) (xv:V) (u:Value),sv.length=m->Inv oG bE (sv++Y) H s->RelV xv u->Zp F H->bL oG.K F d xv->dF d=some ys ->
 wpAny (model oG.prog oG.w) oG.A (assign tg oG.env u) (λ_ s'=>∃vs:List V,vs.length=m/\Inv oG bE (vs.map some++Y) H s'/\Zt oG.K F ys vs) oG.xe s
theorem At.pushes{K:Ad}{F0 H0 F H:J}{r:HM.Env}{Y:L2.St}:∀{ds:List PyData} {vs:List V},At K F0 H0 F H r Y->Zt K F ds vs->At K F0 H0 F H (ds.map (λd=>some (HM.B.pl d))++r) (vs.map some++Y)
 |[],vs,e,q=>by rw[q.nil_inv];exact e
 |d::ds,vs,e,q=>by obtain⟨v,us,rfl,r1,r2⟩:=q.cons_inv;exact(At.pushes e r2).push r1
section
variable{X:Cx}{N:List Str}{scope:Scope}{fr:List Str}{cl:List (Str×Addr)}{C:Addr}
theorem FY{env:Env}{y:Str}{k:NameKind}:∀{names:List (Str×NameKind)},(names.map λ(n,k)=>if(k==Fh&&env.scope.kind==.function&&env.kindOf n==some .cell)then(n,NameKind.cell)else(n,k)).lookup y=some k ->names.lookup y=some k\/(k=.cell/\names.lookup y=some .free)
 |[],h=>by simp at h
 |(n,k')::r,h=>by
  have ih:=@FY env y k r;rw[Ao]at h;dsimp only at h
  by_cases hc:(k'==Fh&&env.scope.kind==.function&&env.kindOf n==some .cell)=true
  .rw[if_pos hc,DU]at h
   rw[DU];split at h
   .cases h
    refine .inr ⟨rfl,?_⟩;have:(k'==Fh)=true:=by rw[BJ,BJ]at hc;exact hc.1.1
    rw[show k'=Fh by simpa using this]
   .exact ih h
  .rw[if_neg hc,DU]at h
   rw[DU];split at h
   .cases h
    exact .inl rfl
   .exact ih h
theorem bY{y:Str}{k:NameKind}:∀{names:List (Str×NameKind)},names.lookup y=some k->(y,k)∈names
 |[],h=>by simp at h
 |(n,k')::r,h=>by
  rw[DU]at h;split at h
  .cases h
   rename_i hb;rw[show y=n by simpa using hb];exact An ..
  .exact Aq _ (bY h)
theorem TU(T:C8 X N scope fr)(cL:∀y c,cl.lookup y=some c->X.env.cells.lookup y=some c)(gM:∀y∈scope.names,y.2=.free->(cl.lookup y.1).isSome=true)(I:Inv X bE Y H s)(hc:X.calm=true)(hf:∀b∈fp,CI X bE H b)(eS:∀b∈fp,b<s.heap.objs.size)(hC:s.heap.objs.size<=C):(ZQ X N scope cl C s H fp).Ok:=by
 refine⟨I.ok.mod,T.kind,I.ok.glob,I.ok.blt,hC,λy z c h1 h2=>I.ok.inj y z c (cL y c h1) (cL z c h2),λy h=>?_,λy c h=>?_,λ_=>I.ok.hd hc,I.ok.frames,.inl rfl,λb hb=>⟨?_,λy c h=>?_⟩,λb o h=>I.bs b o h,
  BE I.ok.bsz I.sz,λb o h hb=>?_,λb hb hs=>?_,I.stack,I.stkFree⟩
 .have h':(relabel scope X.env).names.lookup y=some .cell\/(relabel scope X.env).names.lookup y=some .free:=h
  have hm:(y,Fh)∈scope.names:=by
   rcases h' with h'|h'
   .rcases FY h' with q|⟨_,q⟩
    .exact absurd rfl (T.cell _ (bY q))
    .exact bY q
   .rcases FY h' with q|⟨e,_⟩
    .exact bY q
    .cases e
  exact KQ.mp (gM _ hm rfl)
 .exact absurd h (by show ¬false=true;simp)
 .exact Ap (Bk (eS b hb) hC)
 .obtain⟨_,_,_,_,q,_⟩:=hf b hb
  exact q y c (cL y c h)
 .obtain⟨_,_,_,q,_⟩:=hf b hb
  rcases q with q|q
  .exact I.ok.noex b o h q
  .exact absurd (Bk (Ai h) (BE I.ok.bsz q)) (Fj _)
 .obtain⟨_,q1,q2,_⟩:=hf b hb
  rcases Aw.mp (I.stkSub b hs)with z|z
  .exact q1 z
  .exact q2 z
theorem PU{D:Addr}{h1:Heap}{tk:Nat}(T:C8 X N scope fr)(cL:∀y c,cl.lookup y=some c->X.env.cells.lookup y=some c)(gM:∀y∈scope.names,y.2=.free->(cl.lookup y.1).isSome=true)(I:Inv X bE Y H s)(hc:X.calm=true)(hf:∀b∈fp,CI X bE H b)(eS:∀b∈fp,b<s.heap.objs.size)(hD:s.heap.objs.size=D)(hC:D<C)(ns:h1.Ns C (λ_=>none))(hl:h1.get? D=some {cls:=.type "list",data:=.seq #[] 0})(k:∀b o,s.heap.get? b=some o->h1.get? b=some o):Inv (ZQ X N scope cl C s H fp) [] (Al fr.length none++Y) (upd H D (.lst [])) {s with heap:=h1,toks:=tk}:=by
 have hn:H D=none:=I.hok.fresh (F6 hD);have dX:s.heap.objs.size<=C:=BE (F6 hD) (DX hC);have iE:H C=none:=I.hok.fresh dX;refine⟨TU T cL gM I hc hf eS dX,rfl,I.bare,Un.laid k (F6 hD) hn,⟨_,ns,λi y v e1 e2 e3=>?_⟩,λy c h=>?_,?_,λy c h=>?_,λp hp=>absurd (show p∈([]:List (Addr×Obj)) from hp) (by simp),I.hok.laid k (F6 hD) ⟨CS _,[],0,.nil,hl⟩,?_⟩
 .have nM:fr.length<=i:=by
   apply Gx;intro bS;rw[CG (by rw[Cg];exact bS),Iu,if_pos bS]at e2;cases e2
  rw[CZ (by rw[Cg];exact nM),Cg]at e2;obtain⟨j,rfl⟩:∃j,i=j+fr.length:=⟨i-fr.length,by omega⟩;rw[Nat.add_sub_cancel]at e2
  .have e3':d6 scope y:=by
    have e3:d6 (relabel scope X.env) y:=e3;rcases e3 with q|q|q
    .rcases FY q with q|⟨z,_⟩
     .exact .inl q
     .cases z
    .rcases FY q with q|⟨_,q⟩
     .exact .inr (.inl q)
     .exact .inr (.inr q)
    .rcases FY q with q|⟨z,_⟩
     .exact .inr (.inr q)
     .cases z
   have cV:=T.vis j y e1 e3';have hm:=bY cV;have hN:=T.same j y e1 cV;have gx:=T.cap _ hm rfl;obtain⟨m,_,hl⟩:=I.loc;obtain⟨u,ru,lu⟩:=hl j y v hN e2 (by
    rcases gx with q|q
    .exact .inr (.inl q)
    .exact .inr (.inr q))
   refine⟨u,ru,?_⟩;obtain⟨c,gN⟩:=KQ.mp (gM _ hm rfl);rcases lu with⟨q,_⟩|⟨_,c',e,z⟩
   .rcases gx with q'|q'<;>(rw[q']at q;cases q)
   .refine .inr ⟨?_,c,gN,?_⟩
    .rcases e3 with q|q|q
     .have q:(relabel scope X.env).names.lookup y=some .local:=q
      rcases FY q with q|⟨z,_⟩
      .rw[cV]at q;cases q
      .cases z
     .exact .inl q
     .exact .inr q
    .rw[cL y c gN]at e
     cases e;obtain⟨o,ho,hd⟩:=z;exact⟨o,k _ _ ho,hd⟩
 .obtain⟨v,o,ho,hd⟩:=I.cell y c (cL y c h)
  exact⟨v,o,k _ _ ho,hd⟩
 .show upd H D (.lst []) C=none
  rw[Zu (Fg hC)];exact iE
 .have hq:=I.freeC y c (cL y c h)
  obtain⟨v,o,ho,_⟩:=I.cell y c (cL y c h);have:c≠D:=Ap (by rw[<-hD];exact Ai ho);rw[Zu this];exact hq
 .show(Al fr.length none++Y).length=N.length
  rw[AH,Cg,I.len,T.len,HH]
def hV(oG:Cx)(cX:List Expr)(f:HM.TF):Prop:=∀r c,f r=some c->∀(bE:List (Addr×Obj)) (s:Shared) (Y:L2.St) (H:J) (Q:Bool->J->Prop),Inv oG bE Y H s->(eD oG.K r Y H λF0 H0 F=>∀F' H',bP F H F' H'->Q c H') ->
 wpAny (model oG.prog oG.w) oG.A (Ph cX oG.env) (TP oG bE Y Q) oG.xe s
theorem Cp:hV oG [] HM.ZR:=by intro r c h bE s Y H Q I ⟨F0,H0,F,at_,k⟩;cases h;exact wpAny_tests_nil ⟨H,I,k F H at_.refl⟩
theorem G7{e:Expr}{f:HM.TF}(h:XT oG e f):hV oG [e] f:=λr c hc bE s Y H Q I q=>wpAny_tests_one (h r c hc bE s Y H Q I q)
def je(K:Ad)(oJ:It)(ds:List PyData)(F:J):Prop:=∀F' H,Zp F F'->Zp F' H ->
 (∀(i:Nat) (d:PyData),ds[i]?=some d->oJ.go i H/\∀x H',oJ.yld i H x H'->∃F2,bP (AN F' H) H F2 H'/\bL K F2 d x)/\oJ.stop ds.length H
theorem hZ.e{K:Ad}{oJ:It}{ds:List PyData}{F:J}(h:hZ K oJ ds F):je K oJ ds F:=λF' H s1 s2=>by obtain⟨a,b⟩:=h F' H s1 s2;refine⟨λi d hd=>⟨(a i d hd).1,λx H' hy=>?_⟩,b⟩;obtain⟨e,r⟩:=(a i d hd).2 x H' hy;subst e;exact⟨_,.refl (bP.refl s2).tups.sub,r⟩
def kM(X:Cx)(tg e:Expr)(f:HM.IF):Prop:=∀r ds,f r=some ds->PI X tg e λY H R=>eD X.K r Y H λF0 H0 F=>∀oJ F' H',bP F H F' H'->je X.K oJ ds F'->R oJ H'
theorem XI.e{X:Cx}{tg e:Expr}{f:HM.IF}(h:XI X tg e f):kM X tg e f:=λr ds hr bE s Y H R I ⟨F0,H0,F,at_,k⟩=>h r ds hr bE s Y H R I ⟨F0,H0,F,at_,λoJ F' H' x q=>k oJ F' H' x q.e⟩
theorem O9{it D:Addr}{tn:Nat->Heap->Prop}{oJ:It}{dj iter:Expr}{cX:List Expr}{tg:Expr}{pos:Pos}{dF:PyData->Option (List PyData)}{fc:HM.TF}{fe:HM.EF}{s4:Shared}{r:HM.Env}{ds out:List PyData}{Fs Hs F0 H0 F1:J}{R:Result->Shared->Prop}(T:C8 X N scope fr)(I2:Inv X bE Y H1 s2)(W:fE X.prog X.w X.K tg oJ fp it tn)(hf:∀b∈fp,CI X bE H1 b)(I4:Inv (ZQ X N scope cl C s2 H1 fp) [] (Al fr.length none++Y) (upd H1 D (.lst [])) s4)(mH:tn 0 s4.heap)(hD:s2.heap.objs.size<=D)(eS:∀b∈fp,b<s2.heap.objs.size)(kB:X.calm=true)(hc:hV (ZQ X N scope cl C s2 H1 fp) cX fc)(he:XE (ZQ X N scope cl C s2 H1 fp) dj fe)(at_:At X.K F0 H0 Fs Hs r Y)(x1:bP Fs Hs F1 H1)(iR:je X.K oJ ds F1)(df:Jj (ZQ X N scope cl C s2 H1 fp) fr.length tg dF)(eO:ds.length<HM.big)(go:fP dF fc fe r ds=some out)(hR:∀s',(∃F H vs,Inv (ZQ X N scope cl C s2 H1 fp) [] (Al fr.length none++Y) H s'/\bP Fs Hs F H/\H D=some (.lst vs)/\F D=none/\Zt X.K F out vs)->R (.ok .next) s'):codeAny (model X.prog X.w) X.A (.compLoop (.ListComp dj [⟨tg,iter,cX,0⟩] scope pos) 0 (.ref it) (.ref D) (compEnvC scope cl C X.env)) R s4:=by
 have gy:H1 D=none:=I2.hok.fresh hD;have eP:Hs D=none:=x1.hh.free gy;have ly:F1 D=none:=x1.sub.free gy;have lr:∀b∈fp,b≠D:=λb hb=>Ap (Bk (eS b hb) hD);have kb:=I4.ok;have ei:∀{H:J},(∀b∈fp,H b=none)->∀b∈fp,CI (ZQ X N scope cl C s2 H1 fp) [] H b:=λhn b hb=>⟨hn b hb,(kb.exf b hb).1,kb.exfs b hb,.inl hb,(kb.exf b hb).2,λp hp=>absurd (show p∈([]:List (Addr×Obj)) from hp) (by simp)⟩;refine We (λn s'=>∃(j:Nat) (sv:List (Option V)) (F H:J) (ys:List PyData) (vs:List V) (rest:List PyData),sv.length=fr.length/\Inv (ZQ X N scope cl C s2 H1 fp) [] (sv++Y) H s'/\tn j s'.heap/\(∀b∈fp,H b=none)/\bP Fs Hs F H/\Zp F1 F/\At X.K F0 H0 F H r Y /\
  H D=some (.lst vs)/\F D=none/\Zt X.K F ys vs/\j+n=ds.length/\ys.length<=j/\fP dF fc fe r (ds.drop j)=some rest/\out=ys++rest) ?_ ds.length
  ⟨0,Al fr.length none,F1,_,[],[],out,Cg,I4,mH,λb hb=>by rw[Zu (lr b hb)];exact(hf b hb).1,x1.lay' gy,Zp.refl _,(at_.grow x1).grow ((at_.grow x1).refl.lay' gy),Zz,ly,.nil,by omega,Ag _,go,rfl⟩
 rintro n s5 ⟨j,sv,F,H,ys,vs,rest,ir,I5,tn5,hfp5,x5,sF,dZ,gO,iD,gD,hjn,hyl,cJ,hout⟩
 obtain⟨gH,gG⟩:=iR F H sF dZ.sub;cases n with
 |zero =>
  have ej:j=ds.length:=by omega
  subst ej;rw[Kg]at cJ;cases cJ;rw[CB]at hout;subst hout;refine bM (W.done (ZQ X N scope cl C s2 H1 fp) rfl rfl rfl rfl _ [] s5 _ H No I5 (ei hfp5) tn5 gG) λrv s6 ⟨e,I6⟩=>?_;subst e;refine hR s6 ⟨F,H,vs,I6.weak (by rw[AH,AH,Cg,ir]) λi v hv=>?_,x5,gO,iD,gD⟩
  by_cases hi:i<fr.length
  .rw[CG (by rw[Cg];exact hi),Iu,if_pos hi]at hv
   cases hv
  .rw[CZ (by rw[Cg];omega),Cg]at hv
   rw[CZ (by omega),ir];exact hv
 |succ n =>
  have bS:j<ds.length:=by omega
  obtain⟨jg,jy⟩:=gH j ds[j] (AV bS);obtain⟨F2,x5,sF,dZ,iD,gD,jy⟩:∃F2,bP Fs Hs F2 H/\Zp F1 F2/\At X.K F0 H0 F2 H r Y/\F2 D=none/\Zt X.K F2 ys vs/\∀x H',oJ.yld j H x H'->∃F3,bP F2 H F3 H'/\bL X.K F3 ds[j] x :=
   ⟨AN F H,x5.tups,sF.trans (Cd dZ.sub),dZ.grow dZ.refl.tups,by unfold AN;rw[gO];exact iD,gD.mono (Cd dZ.sub),jy⟩
  clear gH gG
  rw[IH bS]at cJ;refine bM (W.item (ZQ X N scope cl C s2 H1 fp) rfl rfl rfl rfl j [] s5 _ H No I5 (ei hfp5) tn5 jg) λrv s6 ⟨u,e,h6⟩=>?_;subst e;refine bM h6 λ_ s7 ⟨xv,H7,I7,r7,y7,tn7,fr7⟩=>?_;obtain⟨F7,x7,rx⟩:=jy xv H7 y7;obtain⟨F2,x5,sF,dZ,gO,iD,gD,rx⟩:∃F2,bP Fs Hs F2 H7/\Zp F1 F2/\At X.K F0 H0 F2 H7 r Y/\H7 D=some (.lst vs)/\F2 D=none/\Zt X.K F2 ys vs/\bL X.K F2 ds[j] xv:=by
   refine⟨F7,x5.trans x7,sF.trans x7.ff,dZ.grow x7,x7.hh _ _ gO,?_,gD.mono x7.ff,rx⟩;cases q:F7 D with
   |none=>rfl
   |some o =>
    rcases x7.new D o q with z|z
    .rw[iD]at z;cases z
    .exact(z.no gO λ_ q=>by cases q).elim
  have I7':=I7.pinned (ei fr7) (W.obj _ _ tn7);unfold fP at cJ;split at cJ
  case h_2=>cases cJ
  rename_i zs m8;have oe:=df _ s7 Y sv H7 F2 ds[j] zs xv u ir I7' r7 dZ.sub rx m8;refine bM oe λ_ s8 ⟨ws,hws,I8,rws⟩=>?_;have kK:=dZ.pushes rws;have again:∀{s9:Shared} {F9 H9:J} {zs9:List PyData} {jv:List V} {rest':List PyData},Inv (ZQ X N scope cl C s2 H1 fp) ([]++G1 fp s7.heap) (ws.map some++Y) H9 s9->bP Fs Hs F9 H9->Zp F2 F9->At X.K F0 H0 F9 H9 r Y->H9 D=some (.lst jv)->F9 D=none->Zt X.K F9 zs9 jv->zs9.length<=j+1->fP dF fc fe r (ds.drop (j+1))=some rest'->out=zs9++rest' ->
    ∃m,m<n+1/\∃(j:Nat) (sv:List (Option V)) (F2 H:J) (ys:List PyData) (vs:List V) (rest:List PyData),sv.length=fr.length/\Inv (ZQ X N scope cl C s2 H1 fp) [] (sv++Y) H s9/\tn j s9.heap/\(∀b∈fp,H b=none)/\bP Fs Hs F2 H/\Zp F1 F2/\At X.K F0 H0 F2 H r Y /\
     H D=some (.lst vs)/\F2 D=none/\Zt X.K F2 ys vs/\j+m=ds.length/\ys.length<=j/\fP dF fc fe r (ds.drop j)=some rest/\out=ys++rest:=by
   intro s9 F9 H9 zs9 jv rest' I9 x9 mL a9 h9 f9 r9 l9 g9 o9;refine⟨n,Fd n,j+1,ws.map some,F9,H9,zs9,jv,rest',by rw[Ae];exact hws,I9.unpinned,W.keep _ _ _ tn7 λb hb o e=>(I9.pin (b,o) (AX _ (AX _ (JB hb e)))).1,λb hb=>?_,x9,sF.trans mL,a9,h9,f9,r9,by omega,l9,g9,o9⟩;obtain⟨o,e,d⟩:=W.obj _ _ tn7 b hb;exact(I9.pin (b,o) (AX _ (AX _ (JB hb e)))).2.1
  have lF:∀{F' H':J},bP F2 H7 F' H'->F' D=none:=λ{F' H'} y=>by
   cases q:F' D with
   |none=>rfl
   |some o =>
    rcases y.new D o q with z|z
    .rw[iD]at z;cases z
    .exact(z.no gO λ_ q=>by cases q).elim
  split at cJ
  .rename_i kA
   split at cJ
   .rename_i y hy
    obtain⟨rest',g1,g2⟩:=Aj.mp cJ;subst g2;refine bM (hc _ _ kA _ s8 _ H7 (λc' H'=>c'=true/\∃F',bP F2 H7 F' H') I8 ⟨F0,H0,F2,kK,λF' H' y=>⟨rfl,F',y⟩⟩) λok s9 ⟨H9,I9,eok,F9,x9⟩=>?_;subst eok;rw[if_pos rfl];refine bM (he _ _ hy _ s9 _ H9 (λv' H'=>∃F',bP F9 H9 F' H'/\bL X.K F' y v') I9 ⟨F0,H0,F9,kK.grow x9,λv' F' H' x q=>⟨F',x,q⟩⟩) λu' s10 ⟨v',H10,I10,r10,F10,x10,j9⟩=>?_;have eh:=x9.trans x10;have hHD':H10 D=some (.lst vs):=eh.hh _ _ gO;have hFD':=lF eh;refine bM (Mp (X:=ZQ X N scope cl C s2 H1 fp) _ s10 _ H10 (.ref D) [v'] (.ref D) [u'] (λ_ H'=>H'=upd H10 D (.lst (vs++[v']))) I10 rfl (.cons r10 .nil) ⟨D,vs,v',rfl,rfl,hHD',?_,rfl⟩) λ_ s11 ⟨_,H11,I11,_,e11⟩=>?_
    .have:=gD.1
     exact LM (by omega)
    subst e11;refine again (zs9:=ys++[y]) I11 ((x5.trans eh).chg _ eP hFD' λu z=>by rw[hHD']at z;cases z;rfl) eh.ff ((dZ.grow eh).chgNew _ at_ (x5.trans eh).hh eP hFD' λu z=>by rw[hHD']at z;cases z;rfl) Zz hFD' ((gD.mono eh.ff).append (.one j9)) (by rw[AH];show ys.length+1<=j+1;omega) g1 (by rw[hout,CO];rfl)
   .cases cJ
  .rename_i kA
   refine bM (hc _ _ kA _ s8 _ H7 (λc' H'=>c'=false/\∃F',bP F2 H7 F' H') I8 ⟨F0,H0,F2,kK,λF' H' y=>⟨rfl,F',y⟩⟩) λok s9 ⟨H9,I9,eok,F9,x9⟩=>?_;subst eok;rw[if_neg (by simp)];exact again (zs9:=ys) I9 (x5.trans x9) x9.ff (dZ.grow x9) (x9.hh _ _ gO) (lF x9) (gD.mono x9.ff) (by omega) cJ hout
  .cases cJ
theorem PF{s':Shared}{sv:List (Option V)}{h':Heap}(I2:Inv X bE Y H1 s2)(hf:∀b∈fp,CI X bE H1 b)(hC:s2.heap.objs.size<=C)(I:Inv (ZQ X N scope cl C s2 H1 fp) [] (sv++Y) H s')(hs:CV C s'.heap h'):Inv X bE Y H {s' with heap:=h'}:=by
 have u:Un (eV X.stack) fp H1 H s2.heap s'.heap:=I.base;have iE:H C=none:=I.free;have ne:∀b o,s2.heap.get? b=some o->b≠C:=λb o e=>Ap (Bk (Ai e) hC);refine I2.call' (s':={s' with heap:=h'}) (ch:=fp) I.os ⟨λb o e n hb hx=>(hs.2 b (ne b o e)).trans (u.keep b o e n hb hx),λb o e n hb hx=>?_,u.free,λb o e hx=>?_,u.tups,u.frzs,u.tbls⟩ (λb o e=>?_) I.bare λb hb=>?_
 .obtain⟨sl,q⟩:=u.slot b o e n hb hx
  exact⟨sl,(hs.2 b (ne b o e)).trans q⟩
 .obtain⟨o',q⟩:=u.there b o e hx
  exact⟨o',(hs.2 b (ne b o e)).trans q⟩
 .refine(I.hok b o e).stay (λc w' hc q=>(hs.2 c ?_).trans q) (λ_ q=>q) λ_ _ q=>q
  rintro rfl
  rcases hc with rfl|hc
  .rw[iE]at e;cases e
  .rw[iE]at hc;cases hc
 .obtain⟨q0,q1,q2,q3,q4,q5⟩:=hf b hb
  exact⟨q3,q1,q4,q5⟩
variable{dj iter:Expr}{cX:List Expr}{tg:Expr}{pos:Pos}{fi:HM.IF}{dF:PyData->Option (List PyData)}{fc:HM.TF}{fe:HM.EF}
theorem PY(T:C8 X N scope fr)(I:Inv X bE Y H s):∀y∈scope.names,y.2=.free->∃c,X.env.cells.lookup y.1=some c:=λy hy e=>I.ok.has y.1 (T.cap y hy e)
theorem Ve(dW:X.xe=λ_ _=>False)(cF:X.calm=true)(T:C8 X N scope fr)(df:∀cl C s H ex,Jj (ZQ X N scope cl C s H ex) fr.length tg dF)(hi:kM X tg iter fi)(hc:∀cl C s H ex,hV (ZQ X N scope cl C s H ex) cX fc)(he:∀cl C s H ex,XE (ZQ X N scope cl C s H ex) dj fe)(hs:∀x,Dt iter X.env x=pure x:=by intro _;rfl):XF X (.ListComp dj [⟨tg,iter,cX,0⟩] scope pos) (Fx dF fi fc fe):=by
 intro r b h;unfold Fx at h;split at h
 .rename_i ds cf
  split at h
  .rename_i eO
   obtain⟨out,cJ,e⟩:=Aj.mp h;subst e;intro bE s Y H Q I ⟨F0,H0,F,at_,k⟩;obtain⟨cl,fH,cL,gM⟩:=Q3 (PY T I);rw[eval_ListComp];refine wpAny_comprehension_free (use:=none) rfl hs fH T.kind T.names (bM (hi r ds cf bE s Y H (λoJ H'=>∃F',bP F H F' H'/\je X.K oJ ds F') I ⟨F0,H0,F,at_,λoJ F' H' x q=>⟨F',x,q⟩⟩) λv s1 h1=>bM h1 λjF s2 h2=>?_);obtain⟨it,fp,tn,oJ,H1,rfl,I2,W,gY,f2,F1,x1,iR⟩:=h2;have eS:∀b∈fp,b<s2.heap.objs.size:=λb hb=>let ⟨o,ho,_⟩:=W.obj 0 _ gY b hb;Ai ho
   refine B8 (wpAny_newFunctionEnv T.cell (by intro y hy;simp at hy) (λh1 cD eJ=>?_) T.kind);dsimp only at cD eJ ⊢;generalize hP:s2.heap.push {cls:=.type "list",dict:=none,data:=.seq ([]:List Value).toArray}=h0 at cD eJ ⊢;have hsz:h0.objs.size=s2.heap.objs.size+1:=by rw[<-hP,Gz]
   have dX:s2.heap.objs.size<h0.objs.size:=by rw[hsz];exact Fd _
   have gZ:∀b o,s2.heap.get? b=some o->h1.get? b=some o:=λb o e=>eJ.extBut b o (Ap (CU (Ai e) dX)) (As _ (by rw[<-hP];exact As _ e));have hl:h1.get? s2.heap.objs.size=some {cls:=.type "list",data:=.seq #[] 0}:=eJ.extBut _ _ (Ap dX) (As _ (by rw[<-hP];exact AI _ rfl));have I4:Inv (ZQ X N scope cl h0.objs.size s2 H1 fp) [] (Al fr.length none++Y) (upd H1 s2.heap.objs.size (.lst [])) {s2 with heap:=h1,toks:=s2.toks+([]:List (Str×Value)).length}:=PU T cL gM I2 cF f2 eS rfl dX cD hl gZ;have iK:tn 0 h1:=W.keep _ _ _ gY λb _ o e=>gZ b o e;have eP:H s2.heap.objs.size=none:=x1.hh.free (I2.hok.fresh (Ag _));have fB:codeAny (model X.prog X.w) X.A (.compLoop (.ListComp dj [⟨tg,iter,cX,0⟩] scope pos) 0 (.ref it) (.ref s2.heap.objs.size) (compEnvC scope cl h0.objs.size X.env)) (compPost (model X.prog X.w) X.A X.xe none (EP X bE Y Q) (.ref s2.heap.objs.size) h0.objs.size)
     {s2 with heap:=h1,toks:=s2.toks+([]:List (Str×Value)).length}:=by
    refine O9 T I2 W f2 I4 iK (Ag _) eS cF (hc _ _ _ _ _) (he _ _ _ _ _) at_ x1 iR (df _ _ _ _ _) eO cJ λs' ⟨F',H',vs,I',x',hD',hFD',rs⟩=>?_;obtain⟨m,hn,_⟩:=id I'.loc;refine⟨m,hn,λh2 cY=>⟨.ref s2.heap.objs.size,H',PF I2 f2 (DX dX) I' cY,rfl,k _ F' H' x' ⟨[s2.heap.objs.size],.ol hD' rs,by simp,λa ha=>?_⟩⟩⟩;obtain rfl:a=s2.heap.objs.size:=by simpa using ha
    exact⟨hFD',eP⟩
   exact codeAny_compStart_list fB (W.self _ 0 _ _ _ iK fB)
  .cases h
 .cases h
theorem Xh(i:Nat){y:Str}{py fz:Pos}(hN:X.N.Nodup)(dW:X.xe=λ_ _=>False)(cF:X.calm=true)(T:C8 X N scope fr)(df:∀cl C s H ex,Jj (ZQ X N scope cl C s H ex) fr.length tg dF)(hi:kM X tg iter fi)(hc:∀cl C s H ex,hV (ZQ X N scope cl C s H ex) cX fc)(he:∀cl C s H ex,XE (ZQ X N scope cl C s H ex) dj fe)(kr:X.N[i]?=some y:=by rfl)(hy:X.env.scope.names.lookup y=some .local:=by rfl)(gI:CF (.ListComp dj [⟨tg,iter,cX,0⟩] scope pos) (some (.Name y py)) fz.line X.env=pure true:=by rfl)(hs:∀x,Dt iter X.env x=pure x:=by intro _;rfl):XS X (.Assign [.Name y py] (.ListComp dj [⟨tg,iter,cX,0⟩] scope pos) fz) (HM.Z7 i (Fx dF fi fc fe)):=by
 intro r o h;obtain⟨b,hb,e⟩:=Aj.mp h;subst e;unfold Fx at hb;split at hb
 .rename_i ds cf
  split at hb
  .rename_i eO
   obtain⟨out,cJ,e⟩:=Aj.mp hb;subst e;intro bE s Y H E I ⟨F0,H0,F,at_,k⟩;obtain⟨cl,fH,cL,gM⟩:=Q3 (PY T I);rw[exec_Assign_Name_used _ _ _ _ gI];refine Aa (wpAny_standAt (Aa ?_));show wpAny _ X.A (do let _ <-comprehension (.ListComp dj [⟨tg,iter,cX,0⟩] scope pos) scope X.env _ (newList []) false (eval iter X.env) (some (assign (.Name y py) X.env))) _ _ s;refine Aa (B7 (wpAny_comprehension_free (use:=some (assign (.Name y py) X.env)) (Q:=λ_ s'=>SP X bE E .next s') rfl hs fH T.kind T.names (bM (hi r ds cf bE s Y H (λoJ H'=>∃F',bP F H F' H'/\je X.K oJ ds F') I ⟨F0,H0,F,at_,λoJ F' H' x q=>⟨F',x,q⟩⟩) λv s1 h1=>bM h1 λjF s2 h2=>?_)) (λ_ s' hq=>Ac (Ac hq)) λ_ _ e=>e)
   obtain⟨it,fp,tn,oJ,H1,rfl,I2,W,gY,f2,F1,x1,iR⟩:=h2;have eS:∀b∈fp,b<s2.heap.objs.size:=λb hb=>let ⟨o,ho,_⟩:=W.obj 0 _ gY b hb;Ai ho
   refine B8 (wpAny_newFunctionEnv T.cell (by intro y hy;simp at hy) (λh1 cD eJ=>?_) T.kind);dsimp only at cD eJ ⊢;generalize hP:s2.heap.push {cls:=.type "list",dict:=none,data:=.seq ([]:List Value).toArray}=h0 at cD eJ ⊢;have hsz:h0.objs.size=s2.heap.objs.size+1:=by rw[<-hP,Gz]
   have dX:s2.heap.objs.size<h0.objs.size:=by rw[hsz];exact Fd _
   have gZ:∀b o,s2.heap.get? b=some o->h1.get? b=some o:=λb o e=>eJ.extBut b o (Ap (CU (Ai e) dX)) (As _ (by rw[<-hP];exact As _ e));have hl:h1.get? s2.heap.objs.size=some {cls:=.type "list",data:=.seq #[] 0}:=eJ.extBut _ _ (Ap dX) (As _ (by rw[<-hP];exact AI _ rfl));have I4:Inv (ZQ X N scope cl h0.objs.size s2 H1 fp) [] (Al fr.length none++Y) (upd H1 s2.heap.objs.size (.lst [])) {s2 with heap:=h1,toks:=s2.toks+([]:List (Str×Value)).length}:=PU T cL gM I2 cF f2 eS rfl dX cD hl gZ;have iK:tn 0 h1:=W.keep _ _ _ gY λb _ o e=>gZ b o e;have eP:H s2.heap.objs.size=none:=x1.hh.free (I2.hok.fresh (Ag _));have fB:codeAny (model X.prog X.w) X.A (.compLoop (.ListComp dj [⟨tg,iter,cX,0⟩] scope pos) 0 (.ref it) (.ref s2.heap.objs.size) (compEnvC scope cl h0.objs.size X.env)) (compPost (model X.prog X.w) X.A X.xe (some (assign (.Name y py) X.env)) (λ_ s'=>SP X bE E .next s') (.ref s2.heap.objs.size) h0.objs.size)
     {s2 with heap:=h1,toks:=s2.toks+([]:List (Str×Value)).length}:=by
    refine O9 T I2 W f2 I4 iK (Ag _) eS cF (hc _ _ _ _ _) (he _ _ _ _ _) at_ x1 iR (df _ _ _ _ _) eO cJ λs' ⟨F',H',vs,I',x',hD',hFD',rs⟩=>?_;obtain⟨m,hn,_⟩:=id I'.loc;have IX:Inv X bE Y H' s':=PF (h':=s'.heap) I2 f2 (DX dX) I' (NG _ _);have iE:H' h0.objs.size=none:=I'.free;have iP:h0.objs.size≠X.env.locals:=Fg (CU I2.lt dX);have g6:∀z c,X.env.cells.lookup z=some c->c≠h0.objs.size:=λz c hz=>by obtain⟨v,o,ho,_⟩:=I2.cell z c hz;exact Ap (CU (Ai ho) dX)
    have mX:∀p∈X.pn++bE,p.1≠h0.objs.size:=λp hp=>Ap (CU (Ai (I2.pin p hp).1) dX);show wpAny _ X.A (assign (.Name y py) X.env (.ref s2.heap.objs.size)) _ _ _;refine wpAny_assign_Name (P7 IX hN kr (.inl hy) (v:=.ref s2.heap.objs.size) rfl (λs3 I3 nj=>?_) (.inr hy));obtain⟨a,sa,ea⟩:=nj;have mY:h0.objs.size≠a:=by
     rcases ea with e|e
     .rw[e];exact iP
     .exact Az (g6 _ _ e)
    refine⟨m,hn.sameBut sa mY,λh2 cY=>?_⟩;refine⟨_,H',I3.turned (t':=s3.toks) (it:=h0.objs.size) (λb o hb e=>(cY.2 b hb).trans e) iE iP (.inr (BE I2.sz (DX dX))) g6 mX,k _ F' H' ((at_.grow x').storeNew at_ x'.hh (fp':=[s2.heap.objs.size]) (.ol hD' rs) (by simp) λa ha=>?_)⟩;obtain rfl:a=s2.heap.objs.size:=by simpa using ha
    exact⟨hFD',eP⟩
   exact codeAny_compStart_list fB (W.self _ 0 _ _ _ iK fB)
  .cases hb
 .cases hb
end
end
def K5(d:PyData):Option (List PyData):=some [d]
theorem N4(c:HM.TF)(e:HM.EF)(r:HM.Env):∀xs,HM.Bn c e r xs=fP K5 c e r xs
 |[]=>rfl
 |x::xs=>by unfold HM.Bn fP;rw[N4 c e r xs];rfl
theorem OY(i:HM.IF)(c:HM.TF)(e:HM.EF):HM.Zw i c e=Fx K5 i c e:=by
 funext r
 unfold HM.Zw Fx;cases i r with
 |none=>rfl
 |some xs=>dsimp only;rw[N4]
theorem L3{K:Ad}{F:J}{d1 d2:PyData}{v:V}(h:bL K F (.tuple [d1,d2]) v):∃a v1 v2,v=.ref a/\F a=some (.tup [v1,v2])/\bL K F d1 v1/\bL K F d2 v2:=by
 cases h with
 | @tup a ds vs h1 h2 h3 =>
  cases vs with
  |nil=>simp at h2
  |cons v1 vs=>cases vs with
   |nil=>simp at h2
   |cons v2 vs=>cases vs with
    |nil=>exact⟨a,v1,v2,rfl,h1,h3 0 _ _ rfl rfl,h3 1 _ _ rfl rfl⟩
    |cons _ _=>simp at h2
section
variable{X:Cx}{N:List Str}{scope:Scope}{x x2:Str}{px px2 pt:Pos}{kt:Nat}
theorem OA(T:C8 X N scope [x])(cl:List (Str×Addr))(C:Addr)(s₀:Shared)(H₀:J)(ex:List Addr):Jj (ZQ X N scope cl C s₀ H₀ ex) 1 (.Name x px) K5:=by
 intro bE s Y sv H F d ys xv u ir I r sub q hd;cases hd;have hx:=T.loc x (AA.mpr rfl);refine bM (Dh (X:=ZQ X N scope cl C s₀ H₀ ex) (i:=0) T.nd (T.first 0 x rfl) (.inl (lookup_relabel_local hx)) (.inr (lookup_relabel_local hx)) _ s _ H xv u (λσ' H'=>σ'=(sv++Y).set 0 (some xv)/\H'=H) I r ⟨rfl,rfl⟩) λ_ s' ⟨σ',H',I',e1,e2⟩=>?_
 subst e1 e2;refine⟨[xv],rfl,?_,.one q⟩;cases sv with
 |nil=>simp at ir
 |cons a sv=>cases sv with
  |nil=>exact I'
  |cons _ _=>simp at ir
def Ot(gT:Str->Option NameKind)(XN N:List Str)(names:List (Str×NameKind))(fr:List Str):Bool :=
 names.all (λy=>y.2 != .cell)&&names.all (λy=>y.2 != .local||names.lookup y.1==some .local)&&fr.all (λx=>names.lookup x==some .local)&&(Ab fr.length).all (λi=>N[i]?==fr[i]?)&&decide N.Nodup&&N.length==XN.length+fr.length &&
 names.all (λy=>y.2 != .free||gT y.1==some .cell||gT y.1==some .free) &&
 (Ab (N.length-fr.length)).all (λi=>match N[i+fr.length]? with
  |some y=>(names.lookup y != some .free||XN[i]?==some y)&&(names.lookup y==some .free||(names.lookup y != some .local&&names.lookup y != some .cell))
  |none=>true)
theorem Z0{X:Cx}{N XN:List Str}{scope sc:Scope}{fr:List Str}(hs:X.env.scope=sc:=by rfl)(hN:X.N=XN:=by rfl)(hk:scope.kind=.function:=by rfl)(h:Ot (λy=>sc.names.lookup y) XN N scope.names fr=true:=by decide +kernel):C8 X N scope fr:=by
 subst hN;unfold Ot at h;simp only[BJ,BW,Fb,bne_iff_ne,beq_iff_eq,decide_eq_true_eq]at h;obtain⟨⟨⟨⟨⟨⟨⟨h1,h2⟩,h3⟩,h4⟩,h5⟩,h6⟩,h7⟩,h8⟩:=h;have at_:∀(i:Nat) (y:Str),N[i+fr.length]?=some y->(scope.names.lookup y≠some .free\/X.N[i]?=some y)/\(scope.names.lookup y=some .free\/(scope.names.lookup y≠some .local/\scope.names.lookup y≠some .cell)):=λi y e=>by have hi:i+fr.length<N.length:=(AO.mp e).1;have:=h8 i (Am.mpr (by omega));rw[e]at this;simpa only[BJ,Fb,bne_iff_ne,beq_iff_eq]using this
 refine⟨hk,h1,λy hy e=>(h2 y hy).resolve_left (λz=>z e),h3,λi x e=>?_,h5,h6,λy hy e=>?_,λi y e q=>(at_ i y e).1.resolve_left (λz=>z q),λi y e v=>?_⟩
 .rw[h4 i (Am.mpr (AO.mp e).1)]
  exact e
 .have:=h7 y hy
  rw[show X.env.kindOf y.1=sc.names.lookup y.1 by rw[<-hs];rfl];rcases this with(z|z)|z
  .exact absurd e z
  .exact .inl z
  .exact .inr z
 .rcases(at_ i y e).2 with z|⟨z1,z2⟩
  .exact z
  .rcases v with v|v|v
   .exact absurd v z1
   .exact absurd v z2
   .exact v
variable{dj iter:Expr}{cX:List Expr}{pos:Pos}{fi:HM.IF}{fc:HM.TF}{fe:HM.EF}
theorem BQ(dW:X.xe=λ_ _=>False)(cF:X.calm=true)(T:C8 X N scope [x])(hi:XI X (.Name x px) iter fi)(hc:∀cl C s H ex,hV (ZQ X N scope cl C s H ex) cX fc)(he:∀cl C s H ex,XE (ZQ X N scope cl C s H ex) dj fe)(hs:∀x,Dt iter X.env x=pure x:=by intro _;rfl):XF X (.ListComp dj [⟨.Name x px,iter,cX,0⟩] scope pos) (HM.Zw fi fc fe):=by
 rw[OY];exact Ve dW cF T (OA T) hi.e hc he hs
theorem QN(i:Nat){y:Str}{py fz:Pos}(hN:X.N.Nodup)(dW:X.xe=λ_ _=>False)(cF:X.calm=true)(T:C8 X N scope [x])(hi:XI X (.Name x px) iter fi)(hc:∀cl C s H ex,hV (ZQ X N scope cl C s H ex) cX fc)(he:∀cl C s H ex,XE (ZQ X N scope cl C s H ex) dj fe)(kr:X.N[i]?=some y:=by rfl)(hy:X.env.scope.names.lookup y=some .local:=by rfl)(gI:CF (.ListComp dj [⟨.Name x px,iter,cX,0⟩] scope pos) (some (.Name y py)) fz.line X.env=pure true:=by rfl)(hs:∀x,Dt iter X.env x=pure x:=by intro _;rfl):XS X (.Assign [.Name y py] (.ListComp dj [⟨.Name x px,iter,cX,0⟩] scope pos) fz) (HM.Z7 i (HM.Zw fi fc fe)):=by
 rw[OY];exact Xh i hN dW cF T (OA T) hi.e hc he kr hy gI hs
end
section
variable{prog:Program}{w:World}{K:Type}[DecidableEq K]{knd:HeapKind prog w K}{A:Around}{E:Value->Shared->Prop}{s:Shared}
theorem YK{d a:Addr}{xs:List (K×Addr×Value)}{k:K}{v:Value}{Q:Value->Shared->Prop}(hu:knd.room A)(dA:knd.is s.heap k a)(hm:s.heap.DictOfH knd d xs)(hsz:xs.length<=sizeLine)(h1:∀p,atKey xs k=some p->Q p.2 {s with toks:=s.toks+knd.draws k})(h2:atKey xs k=none->∀h',h'.DictOfH knd d (storedH xs k a v)->CV d s.heap h'->Q v {s with heap:=h',toks:=s.toks+knd.draws k}):wpAny (model prog w) A (dictSetDefault d (.ref a) v) Q E s:=by
 obtain⟨o,es,ep,ho,hc,hd,he,l6,hn⟩:=hm;unfold dictSetDefault
 try with_reducible refine BS ?_
 refine Aa (knd.pyHash hu dA ?_);refine Aa (wpAny_dictFind_heap (s:={s with toks:=s.toks+knd.draws k}) hu dA ho hd he l6 hn ?_ ?_)
 .intro iw
  have k6:k∉xs.map (·.1):=not_mem_keys_of_get iw;have jH:=atKey_none_of_get iw;refine Aa (En (Aa (wpAny_updateDictKeys (hz:=by have e:=size_of_entries he;omega) (s:={s with toks:=s.toks+knd.draws k}) ho hd (Ac (h2 jH _ ⟨_,_,ep+1,Es _ ho (Obj.isFreed_of_dict (Obj.data_mapDictKeys hd _)),
   hc.mapDictKeys _,Obj.data_mapDictKeys hd _,?_,?_,?_⟩ (CQ ..))))))
  .rw[HE jH]
   simp[he,entryOfKey]
  .rw[HE jH]
   intro x hx;rcases AW.mp hx with hx|hx
   .exact knd.keeps (l6 x hx) ho hd (CQ ..)
   .simp only[AA]at hx
    subst hx;exact knd.keeps dA ho hd (CQ ..)
  .rw[HE jH]
   rw[Bj,Gm];refine⟨hn,by simp,?_⟩;intro x hx y hy;simp only[Ao,Ff,AA]at hy;subst hy;exact λe=>k6 (e▸hx)
 .intro j p hj
  refine Aa (Gk (s:={s with toks:=s.toks+knd.draws k}) ho hd ?_);rw[entry_at he j,hj];exact Aa (En (Ac (h1 p (atKey_of_get hn hj))))
theorem YY(d a:Addr)(hd:(d==A8)=false)(dflt:Value):
  MeetsIn prog w (Builtin.«dict.setdefault» ⟨[.ref d,.ref a,dflt],[]⟩) (λA R s=>knd.room A.in1/\∃k xs,knd.is s.heap k a/\s.heap.DictOfH knd d xs/\xs.length<=sizeLine /\
   (∀p,atKey xs k=some p->R (.ok (.ret p.2)) {s with toks:=s.toks+knd.draws k}) /\
   (atKey xs k=none->∀h',h'.DictOfH knd d (storedH xs k a dflt)->CV d s.heap h'->R (.ok (.ret dflt)) {s with heap:=h',toks:=s.toks+knd.draws k})) :=
 .of_wp λA R s ⟨hu,k,xs,dA,hm,hz,h1,h2⟩=>by unfold Builtin.«dict.setdefault»;refine Aa ?_;unfold Builtin.Dict.keyAndDefault;refine Aa (wpAny_notOrdered_dict hm.typeIs ?_);show wpAny _ _ (pure (d,A4 a,some dflt)) _ _ s;refine Ac ?_;show wpAny _ _ (if(d==A8)=true then _ else(dictSetDefault d (.ref a) dflt >>= _)) _ _ s;rw[if_neg (by rw[hd];exact Bp)];exact Aa (YK hu dA hm hz (λp hp=>Ac ⟨p.2,rfl,h1 p hp⟩) λhn h' hm' hs'=>Ac ⟨dflt,rfl,h2 hn h' hm' hs'⟩)
end
end HP
namespace HP
open PySem PyProof.Rows
section
variable{xs:Array Nat}{i j:Nat}
def Ck(xs:Array Nat):Prop:=xs.toList.Pairwise (· < ·)
theorem Ck.lt(h:Ck xs){k:Nat}(hk:k<xs.size)(kx:i<k):xs.getD i 0<xs.getD k 0:=by have:=IG.mp h i k (by simpa using CU kx hk) (by simpa using hk) kx;simpa [CC,hk,CU kx hk]using this
theorem LX{xs:Array Nat}(h:Ck xs)(j:Nat):∀(b0 lo hi:Nat),lo<=hi->hi<=xs.size->hi-lo<=b0->(∀i,i<lo->xs.getD i 0<j)->(∀i,hi<=i->i<xs.size->j<=xs.getD i 0) ->IC xs j b0 lo hi<=xs.size/\(∀i,i<IC xs j b0 lo hi->xs.getD i 0<j)/\∀i,IC xs j b0 lo hi<=i->i<xs.size->j<=xs.getD i 0
 |0,lo,hi,h1,h2,h3,a,b=>by
  obtain rfl:lo=hi:=by omega
  exact⟨h2,a,b⟩
 |b0+1,lo,hi,h1,h2,h3,a,b=>by
  unfold IC;split
  .rename_i bS
   have hm:(lo+hi) / 2<xs.size:=by omega
   have e:xs.getD ((lo+hi) / 2) j=xs.getD ((lo+hi) / 2) 0:=by simp[CC,hm]
   dsimp only;rw[e]
   by_cases q:xs.getD ((lo+hi) / 2) 0<j
   .rw[if_pos q]
    refine LX h j b0 ((lo+hi) / 2+1) hi (by omega) h2 (by omega) (λi hi'=>?_) b
    by_cases c:i=(lo+hi) / 2
    .rw[c];exact q
    .exact CU (h.lt hm (by omega)) q
   .rw[if_neg q]
    refine LX h j b0 lo ((lo+hi) / 2) (by omega) (by omega) (by omega) a (λi hi' hs=>?_)
    by_cases c:i=(lo+hi) / 2
    .rw[c];omega
    .have:=h.lt hs (show(lo+hi) / 2<i by omega);omega
  .obtain rfl:lo=hi:=by omega
   exact⟨h2,a,b⟩
theorem JA(h:Ck xs)(j:Nat):Ah xs j<=xs.size/\(∀i,i<Ah xs j->xs.getD i 0<j)/\∀i,Ah xs j<=i->i<xs.size->j<=xs.getD i 0 :=
 LX h j xs.size 0 xs.size (CS _) (Ag _) (by omega) (λi hi=>by omega) λi h1 h2=>by omega
theorem WW(h:Ck xs)(hi:i<xs.size):Ah xs (xs.getD i 0+1)=i+1:=by
 obtain⟨a,b,c⟩:=JA h (xs.getD i 0+1);apply Nat.le_antisymm
 .apply Gx
  intro q;have h1:=b (i+1) q;have h2:=h.lt (show i+1<xs.size by omega) (Fd i);omega
 .apply Gx
  intro q;have h1:=c (Ah xs (xs.getD i 0+1)) (Ag _) (by omega)
  by_cases e:Ah xs (xs.getD i 0+1)=i
  .rw[e]at h1;omega
  .have:=h.lt hi (show Ah xs (xs.getD i 0+1)<i by omega);omega
theorem WY(h:Ck xs):Ah xs 0=0:=by obtain⟨a,b,c⟩:=JA h 0;apply Nat.eq_zero_of_not_pos;intro q;have:=b 0 q;omega
theorem Q8(h:Ck xs)(hn:xs[Ah xs j]?≠some j):Ck (AR xs (Ah xs j) j):=by
 obtain⟨a,b,c⟩:=JA h j;unfold Ck;rw[KN];have gt:∀i,Ah xs j<=i->i<xs.size->j<xs.getD i 0:=by
  intro i h1 h2
  by_cases e:Ah xs j=i
  .subst e
   have h3:=c _ h1 h2;have:xs.getD (Ah xs j) 0≠j:=λq=>hn (by
    have z:xs[Ah xs j]?=some (xs.getD (Ah xs j) 0):=by simp[CC,h2]
    rw[z,q])
   omega
  .have h3:=h.lt h2 (show Ah xs j<i by omega)
   have h4:=c _ (Ag _) (show Ah xs j<xs.size by omega);omega
 rw[List.pairwise_append];refine⟨h.sublist (List.take_sublist ..),B9.mpr ⟨λx hx=>?_,h.sublist (List.drop_sublist ..)⟩,λx hx y hy=>?_⟩
 .obtain⟨i,hi,rfl⟩:=IA hx
  rw[Gj,Ba]at hi;rw[List.getElem_drop];have:=gt (Ah xs j+i) (by omega) (by omega);simpa [CC,show Ah xs j+i<xs.size by omega]using this
 .obtain⟨i,hi,rfl⟩:=IA hx
  rw[Fo,Ba]at hi;rw[List.getElem_take];have h1:=b i (by omega);have h1':xs.toList[i]'(by simp;omega)<j:=by simpa [CC,show i<xs.size by omega]using h1
  rcases Aw.mp hy with e|e
  .rw[e];exact h1'
  .obtain⟨k,hk,rfl⟩:=IA e
   rw[Gj,Ba]at hk;rw[List.getElem_drop];have h2:=gt (Ah xs j+k) (by omega) (by omega);have h2':j<xs.toList[Ah xs j+k]'(by simp;omega):=by simpa [CC,show Ah xs j+k<xs.size by omega]using h2
   exact CU h1' h2'
theorem has_none(j:Nat):SetTable.has #[] j=false:=by simp[SetTable.has]
structure dH(b:Bool)(t:SetTable):Prop where
 dum:t.dummies=#[]
 rise:Ck t.place
 led:t.led=b
 plain:t.plain=true
 low:∀j∈t.place.toList,j<8
 mask:t.mask=if t.place.size<=4 then 7 else 31
theorem dH.fresh(b:Bool):dH b (SetTable.fresh 0 0 b):=⟨rfl,.nil,rfl,rfl,λj hj=>by simp[SetTable.fresh]at hj,rfl⟩
theorem dH.few{b:Bool}{t:SetTable}(h:dH b t):t.place.size<=8:=by
 have key:∀(l:List Nat) (lo:Nat),l.Pairwise (· < ·)->(∀j∈l,lo<=j/\j<8)->l.length<=8-lo:=by
  intro l
  induction l with
  |nil=>intro lo _ _;simp
  |cons x l ih=>intro lo hp hb;have h1:=hb x (An ..);have h2:=ih (x+1) (B9.mp hp).2 λy hy=>⟨(B9.mp hp).1 y hy,(hb y (Aq _ hy)).2⟩;rw[AL];omega
 have:=key t.place.toList 0 h.rise λj hj=>⟨CS _,h.low j hj⟩;simpa using this
theorem MG{b:Bool}{t:SetTable}(h:dH b t)(hj:j∉t.place.toList):t.slot j=.empty/\t.place[Ah t.place j]?≠some j:=by have q:t.place[Ah t.place j]?≠some j:=λe=>hj (by rw[<-Dw]at e;exact DR e);unfold SetTable.slot;dsimp only;rw[if_neg (by simpa using q),h.dum,has_none,if_neg (by simp)];exact⟨rfl,q⟩
theorem Sk{b:Bool}{t:SetTable}(h:dH b t)(j:Nat):t.put j=({t with place:=AR t.place (Ah t.place j) j},Ah t.place j):=by
 unfold SetTable.put;dsimp only;rw[h.dum,has_none];cases t;have:=h.dum
 simp_all
theorem bT{α:Type}(xs:Array α)(p:Nat)(x:α):(AR xs p x).size=xs.size+1:=by rw[<-Ba,(Fm xs p x).length_eq];simp
theorem TH{b:Bool}{t:SetTable}(h:dH b t){es:Array (Int×Value)}(he:es.size=t.place.size)(h8:j<8)(hj:j∉t.place.toList)(v:Value):layNew t es (j:Int) v=(AR es (Ah t.place j) ((j:Int),v),{t with place:=AR t.place (Ah t.place j) j},false,false):=by
 obtain⟨e1,e2⟩:=MG h hj;have c5:=h.few;have hm:t.mask=7\/t.mask=31:=by rw[h.mask];split<;>simp
 have ju:Kk (j:Int)%(t.mask+1)=j:=by
  have hb:Kk (j:Int)=j:=by unfold Kk;omega
  rw[hb];rcases hm with e|e<;>rw[e]<;>omega
 have cV:t.freeSlot (j:Int)=some (j,false):=by
  unfold SetTable.freeSlot SetTable.probe;have hf:10*Km t.mask=(10*Km t.mask-1)+1:=by unfold Km;omega
  rw[hf];unfold SetTable.probe.go;have hp:(t.probeStart (j:Int)).j=j:=ju;rw[hp,e1];rfl
 have lW:t.place.size<=7:=by
  apply Gx;intro q;have h8':t.place.size=8:=by omega
  have:=KL (l₁:=j::t.place.toList) (l₂:=Ab 8) (Fc.mpr ⟨hj,h.rise.imp λq=>Ap q⟩) (λx hx=>by
   rcases Aw.mp hx with e|e
   .rw[e];exact Am.mpr h8
   .exact Am.mpr (h.low x e))
  simp at this;omega
 have gs:(Ga {t with place:=AR t.place (Ah t.place j) j} (AR es (Ah t.place j) ((j:Int),v)).size)=true:=by unfold Ga F8;simp only[bT,he,h.dum];simp;rw[h.mask];split<;>omega
 unfold layNew;rw[cV];dsimp only;rw[Sk h];dsimp only;unfold SetTable.orStandIn;rw[gs];rfl
theorem dH.ins{b:Bool}{t:SetTable}(h:dH b t)(h8:j<8)(hj:j∉t.place.toList)(hs:t.place.size≠4):dH b {t with place:=AR t.place (Ah t.place j) j}:=by
 obtain⟨_,e2⟩:=MG h hj;refine⟨h.dum,Q8 h.rise e2,h.led,h.plain,λx hx=>?_,?_⟩
 .have:=(Fm t.place (Ah t.place j) j).mem_iff.mp hx
  rw[Fp]at this;rcases AW.mp this with q|q
  .exact h.low x q
  .rw[AA.mp q];exact h8
 .dsimp only
  rw[bT,h.mask];split<;>split<;>omega
def Lz:List (List Nat):=(Ab 8).flatMap λa=>(Ab 8).flatMap λb=>(Ab 8).flatMap λc=>(Ab 8).flatMap λd=>(Ab 8).filterMap λe=>if a<b/\b<c/\c<d/\d<e then some [a,b,c,d,e]else none
theorem Xr{l:List Nat}(h:l.Pairwise (· < ·))(h8:∀j∈l,j<8)(h5:l.length=5):l∈Lz:=by
 match l,h5 with
 |[a,b,c,d,e],_=>simp at h h8;unfold Lz;simp only[List.mem_flatMap,Am,Kw];refine⟨a,by omega,b,by omega,c,by omega,d,by omega,e,by omega,?_⟩;rw[if_pos (by omega)]
theorem Sl:∀l∈Lz,(SetTable.layClean 31 (l.map λ(n:Nat)=>(n:Int)).toArray).map (λowner=>(Ab 32).filterMap λj=>(owner.getD j none).map (j,·))=some (l.zip (Ab 5)):=by decide +kernel
end
section
variable{es:Array (Int×Value)}{h:Heap}{ns:List Int}
def BX(e:Int×Value):Int:=match e.2 with
 | .int n _=>n
 |_=>0
section
variable(prog:Program)(w:World)
def GH(es:List (Int×Value)):Prop:=∀e∈es,∃n t,e=((intKind prog w).hash n,BU n t)
def Bv(h:Heap)(a:Addr)(L:List Int):Prop:=∃o es ep t,h.get? a=some o/\o.ExactSet/\o.data=.set es ep t/\GH prog w es.toList/\(es.toList.map BX).Perm L/\es.toList.map BX=t.place.toList.map (λ(j:Nat)=>(j:Int))/\dH (!w.params.followText "set-order") t
end
section
variable{prog:Program}{w:World}{A:Around}{E:Value->Shared->Prop}{s:Shared}{a:Addr}{L:List Int}
theorem GH.elems{es:List (Int×Value)}(h:GH prog w es):ElemsOf (intKind prog w) es:=λe he=>by obtain⟨n,t,rfl⟩:=h e he;exact⟨⟨n,Gf _ _ _ _,rfl⟩,rfl⟩
theorem Bv.at'{h':Heap}(x:Bv prog w h a L)(k:∀o,h.get? a=some o->h'.get? a=some o):Bv prog w h' a L:=let ⟨o,es,ep,t,e,r⟩:=x;⟨o,es,ep,t,k o e,r⟩
def gC(L:List Int)(n:Int):List Int:=if L.contains n then L else L++[n]
theorem OJ{k n:Int}{t:Tok}:(intKind prog w).is k (.int n t)=true↔n=k:=by
 constructor
 .intro h
  exact(intKind prog w).inj _ _ _ (Gf _ _ _ _) h
 .rintro rfl;exact Gf _ _ _ _
theorem ME:∀(j:Nat),j<8->(intKind prog w).hash (j:Int)=(j:Int)
 |0,_=>rfl
 |1,_=>rfl
 |2,_=>rfl
 |3,_=>rfl
 |4,_=>rfl
 |5,_=>rfl
 |6,_=>rfl
 |7,_=>rfl
 |n+8,h=>by omega
theorem dH.fits{b:Bool}{t:SetTable}(h:dH b t):t.fits t.place.size=true:=by have hf:=h.few;unfold Ga F8;rw[h.dum,h.mask];simp;split<;>omega
theorem eG{t:SetTable}(h:es.toList.map BX=t.place.toList.map (λ(j:Nat)=>(j:Int))):es.size=t.place.size:=by have:=congrArg Bb h;simpa using this
theorem QJ{o:Obj}{es':Array (Int×Value)}{ep:Nat}{t t':SetTable}(ho:h.get? a=some o)(eT:o.ExactSet)(hd:o.data=.set es ep t)(jM:GH prog w es'.toList)(hp:(es'.toList.map BX).Perm L)(hs:es'.toList.map BX=t'.place.toList.map (λ(j:Nat)=>(j:Int)))(ht:dH (!w.params.followText "set-order") t'):(h.update a (Em es' t')).get? a=some {o with data:=.set es' (ep+1) t'}/\Bv prog w (h.update a (Em es' t')) a L:=by
 have hg:(h.update a (Em es' t')).get? a=some {o with data:=.set es' (ep+1) t'}:=by
  have:=Es (Em es' t') ho (by rw[putSet_of es' t' hd];rfl)
  rwa [putSet_of es' t' hd]at this
 exact⟨hg,_,es',ep+1,t',hg,eT,rfl,jM,hp,hs,ht⟩
theorem Vw{b:Bool}{t:SetTable}(hr:Ck t.place)(h8:∀j∈t.place.toList,j<8)(h5:t.place.size=5)(he:es.map (·.1)=(t.place.toList.map (λ(j:Nat)=>(j:Int))).toArray)(hl:t.led=b)(hp:t.plain=true):∃t',relayAll t es 20=(es,t',false)/\t'.place=t.place/\dH b t':=by
 have hc:=Sl _ (Xr hr h8 (by simpa using h5));obtain⟨owner,o1,o2⟩:=Aj.mp hc;have hsz:es.size=5:=by have:=congrArg Array.size he;simp at this;omega
 have bK:t.place.toList.length=5:=by simpa using h5
 have z1:(t.place.toList.zip (Ab 5)).map (·.1)=t.place.toList:=List.map_fst_zip (by rw[bK];simp);have z2:(t.place.toList.zip (Ab 5)).map (·.2)=Ab 5:=List.map_snd_zip (by rw[bK];simp);have nq:t.relaid (es.map (·.1)) 20=some ({mask:=31,place:=t.place,dummies:=#[],finger:=t.finger,led:=t.led,moves:=t.movedTo 31,plain:=t.plain},(Ab 5).toArray):=by
  unfold SetTable.relaid SetTable.laid;have n9:SetTable.sizeAbove 20-1=31:=by decide
  rw[n9,he,o1];show some _=some _;rw[o2,z1,z2]
 refine⟨{mask:=31,place:=t.place,dummies:=#[],finger:=t.finger,led:=t.led,moves:=t.movedTo 31,plain:=t.plain},?_,rfl,⟨rfl,hr,hl,hp,h8,?_⟩⟩
 .unfold relayAll
  rw[nq];dsimp only;have ef:(Ab 5).toArray.filterMap (λx=>es[x]?)=es:=by apply Array.toList_inj.mp;rw[Array.toList_filterMap];have:=filterMap_getElem?_range es;rw[hsz]at this;simpa using this
  rw[ef];have ec:coversAll (Ab 5).toArray es.size=true:=by rw[hsz];decide
  have et:Ga {mask:=31,place:=t.place,dummies:=#[],finger:=t.finger,led:=t.led,moves:=t.movedTo 31,plain:=t.plain} es.size=true:=by unfold Ga F8;simp[h5,hsz]
  rw[ec,et];rfl
 .dsimp only
  rw[h5];rfl
theorem Uu{j:Nat}{tk:Tok}{Q:Bool->Shared->Prop}(h8:j<8)(hX:Bv prog w s.heap a L)(h:∀b h',CV a s.heap h'->Bv prog w h' a (gC L j)->Q b {s with heap:=h'}):wpAny (model prog w) A (setAddHashed a (.int j tk) ((intKind prog w).hash j)) Q E s:=by
 obtain⟨o,es,ep,t,ho,eT,hd,g8,iu,hpl,ht⟩:=hX;have jM:=g8.elems;have lN:(BU (j:Int) tk).scannable=true:=rfl;have dA:(intKind prog w).is (j:Int) (.int j tk)=true:=Gf _ _ _ _;have hsz:=eG hpl;have c5:=ht.few;have hf:t.fits es.size=true:=by rw[hsz];exact ht.fits
 have eJ:scanBound=4096:=rfl;have hb:es.size<scanBound:=by omega
 unfold setAddHashed setAddHashedIn;refine BS (Aa (Ic ho hd hf ?_));dsimp only;rw[byScan_of lN hb jM];simp only[↓reduceIte];unfold setAddByScan;refine Aa (Aa (En (Aa (wpAny_setScan_of dA ho hd hf jM ?_))));cases hr:List.findIdx? (λe=>(intKind prog w).is (j:Int) e.2) es.toList with
 |some i =>
  dsimp only;obtain⟨hi,lQ,_⟩:=KY.mp hr;have gr:(j:Int)∈L:=by refine iu.mem_iff.mp (Ak.mpr ⟨es.toList[i],Dr hi,?_⟩);obtain⟨m,u,e⟩:=g8 _ (Dr hi);rw[e]at lQ ⊢;exact OJ.mp lQ
  refine Ac (Ac ?_);have e:s={s with heap:=s.heap}:=by cases s;rfl
  have q:=h false s.heap (NG a s.heap) ⟨o,es,ep,t,ho,eT,hd,g8,by unfold gC;rw[if_pos (by simpa using gr)];exact iu,hpl,ht⟩;rw[e];exact q
 |none =>
  dsimp only;have cv:∀e∈es.toList,BX e≠(j:Int):=λe he hv=>by obtain⟨m,u,e1⟩:=g8 e he;have no:=KS.mp hr e he;rw[e1]at no hv;have mF:(intKind prog w).is (j:Int) (.int m u)=true:=OJ.mpr hv;exact absurd (mF.symm.trans no) (by simp)
  have ko:(j:Int)∉L:=λhm=>by obtain⟨e,he,hv⟩:=Ak.mp (iu.mem_iff.mpr hm);exact cv e he hv
  have hj:j∉t.place.toList:=λhm=>by
   have:(j:Int)∈es.toList.map BX:=by rw[hpl];exact Ak.mpr ⟨j,hm,rfl⟩
   obtain⟨e,he,hv⟩:=Ak.mp this;exact cv e he hv
  obtain⟨mk,pl,dm,fg,ld,mv,pn⟩:=t;obtain rfl:pn=true:=ht.plain;obtain rfl:dm=#[]:=ht.dum;rw[ME j h8,TH ht hsz h8 hj];dsimp only;obtain⟨_,ny⟩:=MG ht hj;obtain⟨lW,_,_⟩:=JA ht.rise j;have gv:GH prog w (AR es (Ah pl j) ((j:Int),BU j tk)).toList:=λe he=>by
   have:=(Fm _ _ _).mem_iff.mp he;rw[Fp]at this;rcases AW.mp this with q|q
   .exact g8 e q
   .exact⟨j,tk,by rw[ME j h8];exact AA.mp q⟩
  have ib:((AR es (Ah pl j) ((j:Int),BU j tk)).toList.map BX).Perm (gC L j):=by unfold gC;rw[if_neg (by simpa using ko)];refine((Fm _ _ _).map BX).trans ?_;rw[Fp,Bj];exact iu.append_right _
  have fC:(AR es (Ah pl j) ((j:Int),BU j tk)).toList.map BX=(AR pl (Ah pl j) j).toList.map (λ(j:Nat)=>(j:Int)):=by rw[KN,KN,Bj,Bj,Ao,Ao,List.map_take,List.map_take,List.map_drop,List.map_drop,hpl];rfl
  have da:(AR es (Ah pl j) ((j:Int),BU j tk)).size=es.size+1:=bT _ _ _;generalize hE:AR es (Ah pl j) ((j:Int),BU j tk)=es1 at gv ib fC da ⊢;have lL:es1.size<=sizeLine:=by rw[Bo];omega
  refine Aa (Ac ?_);simp only[↓reduceIte];refine Aa ?_;rw[hashByValue_scannable 8 lN];refine Ac ?_;rw[show plainKind (BU (j:Int) tk)=true from rfl];simp only[↓reduceIte];show wpAny (model prog w) A (do
    storeSet a es1 (⟨mk,AR pl (Ah pl j) j,#[],fg,ld,mv,true⟩:SetTable)
    if(!false&&Gw (⟨mk,AR pl (Ah pl j) j,#[],fg,ld,mv,true⟩:SetTable))=true then _ else _) _ E s
  refine Aa (wpAny_storeSet_of ho hd ?_ lL);have jh:=CQ s.heap a (Em es1 (⟨mk,AR pl (Ah pl j) j,#[],fg,ld,mv,true⟩:SetTable))
  by_cases h4:pl.size=4
  .have hm:mk=7:=by have q:=ht.mask;dsimp only at q;rw[h4]at q;exact q
   have kj:Gw (⟨mk,AR pl (Ah pl j) j,#[],fg,ld,mv,true⟩:SetTable)=true:=by unfold Gw F8;simp[bT,h4,ht.dum,hm]
   have hg:(s.heap.update a (Em es1 (⟨mk,AR pl (Ah pl j) j,#[],fg,ld,mv,true⟩:SetTable))).get? a=some {o with data:=.set es1 (ep+1) (⟨mk,AR pl (Ah pl j) j,#[],fg,ld,mv,true⟩:SetTable)}:=by
    have:=Es (Em es1 (⟨mk,AR pl (Ah pl j) j,#[],fg,ld,mv,true⟩:SetTable)) ho (by rw[putSet_of _ _ hd];rfl)
    rwa [putSet_of _ _ hd]at this
   have hh:es1.map (·.1)=((AR pl (Ah pl j) j).toList.map (λ(j:Nat)=>(j:Int))).toArray:=by
    apply Array.toList_inj.mp;rw[Array.toList_map,<-fC];refine Gp λe he=>?_;obtain⟨m,u,e1⟩:=gv e he;have hm:m∈es1.toList.map BX:=Ak.mpr ⟨e,he,by rw[e1];rfl⟩;rw[fC]at hm;obtain⟨k,hk,rfl⟩:=Ak.mp hm;have jK:k<8:=by
     have:=(Fm _ _ _).mem_iff.mp hk;rw[Fp]at this;rcases AW.mp this with q|q
     .exact ht.low k q
     .rw[AA.mp q];exact h8
    rw[e1];exact ME (prog:=prog) (w:=w) k jK
   obtain⟨t',r1,r2,r3⟩:=Vw (b:=!w.params.followText "set-order") (t:=(⟨mk,AR pl (Ah pl j) j,#[],fg,ld,mv,true⟩:SetTable)) (es:=es1) (Q8 ht.rise ny)
    (λk hk=>by
     have:=(Fm _ _ _).mem_iff.mp hk;rw[Fp]at this;rcases AW.mp this with q|q
     .exact ht.low k q
     .rw[AA.mp q];exact h8) (by dsimp only;rw[bT,h4]) hh ht.led ht.plain
   have nL:SetTable.grown es1.size=20:=by rw[da,hsz,h4];rfl
   rw[kj];simp only[Bool.not_false,Bool.and_self,↓reduceIte];rw[nL,r1];dsimp only;refine Aa (Ac (Aa (wpAny_storeSet_of hg rfl ?_ lL)));obtain⟨_,jO⟩:=QJ (prog:=prog) (t':=t') hg eT rfl gv ib (by rw[r2];exact fC) r3;exact Ac (Ac (h true _ (jh.trans (CQ _ a _)) jO))
  .have kj:Gw (⟨mk,AR pl (Ah pl j) j,#[],fg,ld,mv,true⟩:SetTable)=false:=by
    unfold Gw F8;have q:=ht.mask;dsimp only at q;simp only[bT];rw[q];simp;have:=c5;dsimp only at this;split<;>omega
   rw[kj];simp only[Bool.and_false,CP,↓reduceIte];obtain⟨_,nW⟩:=QJ (prog:=prog) (t':=(⟨mk,AR pl (Ah pl j) j,#[],fg,ld,mv,true⟩:SetTable)) ho eT hd gv ib fC (ht.ins h8 hj h4);exact Ac (Ac (h true _ jh nW))
end
section
variable{prog:Program}{w:World}{A:Around}{E:Value->Shared->Prop}{s:Shared}
abbrev Di(w:World):Obj:={cls:=.type "set",dict:=none,data:=.set #[] 0 (.fresh 0 0 (!w.params.followText "set-order"))}
theorem X8(v:Value){Q₁:Value->Shared->Prop}(h:Q₁ (.ref s.heap.objs.size) {s with heap:=s.heap.push (Di w)}):codeAny (model prog w) A (.call (.builtin "set.__new__") ⟨[.type "set",v],[]⟩) (wants Q₁ E) s:=by
 refine codeAny_of_tree ?_;show wpAny _ A.in1 (do checkBuiltinCall "set.__new__" ⟨[.type "set",v],[]⟩;again (.builtin "set.__new__" ⟨[.type "set",v],[]⟩)) _ _ s;refine Aa (wpAny_of_eq (PySem.F.newCall_set_1 v) (Ac ⟨Ij NP _,DT PySem.F.entry_set_new ?_⟩));rw[Ey NP _];unfold Builtin.«set.__new__» Builtin.Frozenset.newClass;have en:=sub_set_self;obtain⟨hp,g,d,tk,os⟩:=s;dsimp only
 wp_walk
 refine Gv (Ac ?_);dsimp only;simp only[newObj];exact Aa (wpAny_alloc (Ac (Ac h)))
theorem VE(h:Heap):Bv prog w (h.push (Di w)) h.objs.size [] :=
 ⟨_,#[],0,_,AI _ rfl,⟨rfl,rfl,rfl⟩,rfl,λe he=>by simp at he,.nil,rfl,dH.fresh _⟩
theorem MQ:∀(l acc:List Int) (x:Int),HM.cx acc (l++[x])=gC (HM.cx acc l) x
 |[],acc,x=>by show HM.cx acc [x]=gC acc x;unfold HM.cx gC;split<;>rfl
 |y::l,acc,x=>by
  show HM.cx acc (y::(l++[x]))=_;unfold HM.cx;split
  .exact MQ l acc x
  .exact MQ l _ x
variable{R:Result->Shared->Prop}{I:Addr}{fp wr:List Addr}{G:Array GenState->Array GenState->Prop}{P:Nat->Value->Prop}{St:Nat->Shared->Prop}
theorem Vj(W:WalksS prog w A.in1 I fp wr G ns.length P St)(oH:Addr)(jN:oH∉fp)(kT:∀i v,P i v->∃t,v=.int (ns.getD i 0) t)(hb:∀n∈ns,0<=n/\n<8):∀(k i:Nat) (s:Shared),ns.length-i=k->i<=ns.length->St i s->Bv prog w s.heap oH (HM.cx [] (ns.take i)) ->(∀s',Moved (oH::wr) G s s'->Bv prog w s'.heap oH (HM.cx [] ns)->R (.ok (.ret .none)) s') ->codeAny (model prog w) A (.builtin "set.update.loop" ⟨[.ref oH,.ref I],[]⟩) R s:=by
 have mf:oH∉wr:=λh=>jN (W.sub _ h);have en:∀b∈wr,b∈oH::wr:=λb hb=>Aq _ hb;intro k
 induction k with
 |zero =>
  intro i s hk hi c9 hS hR;obtain rfl:i=ns.length:=by omega
  rw[List.take_length]at hS;refine DT F.entry_set_update_loop ?_;rw[Ey F.plain_set_update_loop _];show wpAny _ A.in1 (pyNext (.ref I) >>= _) _ _ s;refine Aa (W.done s _ _ c9 λs' hm=>?_);show wpAny _ A.in1 (ret AY) _ _ s';exact Ac (hR s' (hm.mono en) (hS.at' λo e=>hm.heap oH o mf e))
 |succ k ih =>
  intro i s hk hi c9 hS hR;have bS:i<ns.length:=by omega
  refine DT F.entry_set_update_loop ?_;rw[Ey F.plain_set_update_loop _];show wpAny _ A.in1 (pyNext (.ref I) >>= _) _ _ s;refine Aa (W.item i s _ _ bS c9 λv s' hP hst' hm=>?_);obtain⟨t,rfl⟩:=kT i v hP;have hS':=hS.at' (h':=s'.heap) λo e=>hm.heap oH o mf e;show wpAny _ A.in1 (holding [BU (ns.getD i 0) t] (setAdd oH (.int (ns.getD i 0) t)) >>= _) _ _ s';refine Aa (BS ?_);unfold setAdd;refine BS (Aa ((intKind prog w).pyHash (k:=ns.getD i 0) (Gf _ _ _ _) ?_));have me:=hb (ns.getD i 0) (by rw[Dq,AV bS];exact Dr bS);obtain⟨j,ej⟩:∃j:Nat,ns.getD i 0=(j:Int):=⟨(ns.getD i 0).toNat,by omega⟩;have e:gC (HM.cx [] (ns.take i)) (ns.getD i 0)=HM.cx [] (ns.take (i+1)):=by rw[<-MQ,List.take_succ,Dq];simp[bS]
  rw[ej]at e me ⊢;refine Uu (s:={s' with toks:=s'.toks+1}) (by omega) hS' λb h' eJ jO=>?_;rw[e]at jO;refine Ac ⟨Ij F.plain_set_update_loop _,ih (i+1) _ (by omega) bS (W.frame _ s' _ _ hst' (Nat.le_succ _) λb hb o e=>?_) jO λs'' hm'' hS''=>?_⟩
  .rw[eJ.2 b (λh:b=oH=>jN (by rw[<-h];exact hb))];exact e
  .refine hR s'' (Moved.trans W.gtrans ((hm.mono en).then_heap (Nat.le_succ _) λb o hb e=>?_) hm'') hS''
   rw[eJ.2 b (λh:b=oH=>hb (by rw[h];exact An))];exact e
set_option maxHeartbeats 3200000 in
theorem Wn{l:Addr}{items:Array Value}{Q:Value->Shared->Prop}(hh:A.handled=none)(hl:s.heap.IsList l items)(hi:IntsAre items.toList ns)(hb:∀n∈ns,0<=n/\n<8)(h:∀(h':Heap) (tk:Nat),Bv prog w h' s.heap.objs.size (HM.cx [] ns)->(∀b o,b<s.heap.objs.size->s.heap.get? b=some o->h'.get? b=some o)->Q (.ref s.heap.objs.size) {s with heap:=h',toks:=tk}):wpAny (model prog w) A (call (.type "set") [.ref l]) Q E s:=by
 have hsz:items.size=ns.length:=by rw[<-hi.length,Ba]
 obtain⟨c,tl,oD⟩:=DW.mro;have mC:=DW.made;have en:=DW.sub;refine wpAny_call (codeAny_of_tree ?_);show wpAny _ _ (callAny (.type "set") _) _ _ _;refine Ac ⟨Code.quiet_builtin _ (by decide +kernel),DT PySem.F.entry_type_call ?_⟩;rw[Around.under_plain (weight_type_call_type "set" [.ref l] []) rfl];have h1:=DW.notType;have h2:=DW.canCreate;have hct:=PySem.F.typeCall_set_1 (.ref l)
 repeat (any_goals (first|assumption|wp_step))
 refine Eg (X8 (.ref l) (E:=E) (Q₁:=λobj s₁=>obj=.ref s.heap.objs.size/\s₁={s with heap:=s.heap.push (Di w)}) ⟨rfl,rfl⟩) λr s₁ hr=>?_;cases r with
 |error e=>exact hr
 |ok fl =>
  cases fl with
  |ret obj =>
   obtain⟨rfl,rfl⟩:=hr;have hX:=VE (prog:=prog) (w:=w) s.heap;have hS:(s.heap.push (Di w)).get? s.heap.objs.size=some (Di w):=AI _ rfl;have hT:Shared.TypeIs {s with heap:=s.heap.push (Di w)} (.ref s.heap.objs.size) "set":=⟨_,hS,rfl⟩;have hli:=DW.init.lookup;have me:=DW.init.bind (.ref s.heap.objs.size)
   repeat (any_goals (first|assumption|wp_step))
   refine Eg (codeAny_call_builtin (R:=wants (λr s₂=>r=.none/\∃h' tk,s₂={s with heap:=h',toks:=tk}/\Bv prog w h' s.heap.objs.size (HM.cx [] ns) /\
     (∀b o,b<s.heap.objs.size->s.heap.get? b=some o->h'.get? b=some o)) E) DW.init.plain PySem.F.entry_set_init (check_set_init_1 hT ?_)) λr₂ s₂ kl=>?_
   .obtain⟨⟨kQ,jl,jm,ig⟩,gK,cL,nl,iC⟩:=hl
    simp only at cL iC;subst cL;subst iC;have hol':(s.heap.push (Di w)).get? l=some {cls:=.type "list",dict:=jl,data:=.seq items nl,slots:=ig}:=As _ gK;have oB:=PySem.F.sub_list_set;have oC:=PySem.F.sub_list_frozenset;have cv:(Ej "list" == Ej "dict")=false:=by decide
    have lY:(s.heap.push (Di w)).IsList l items:=⟨_,hol',rfl,nl,rfl⟩;unfold Builtin.«set.__init__» noKeywords Builtin.Frozenset.updateFrom;generalize hPI:pyIter=PI
    wp_walk
    subst hPI;refine KI lY (Aa (wpAny_runValue ?_));have lX:l<s.heap.objs.size:=Ai gK;have nJ:A.in1.in1.in1.handled=none:=by simp[hh]
    have lb:l≠(s.heap.push (Di w)).objs.size:=by rw[Gz];exact Ap (Ib lX)
    have jN:s.heap.objs.size∉[(s.heap.push (Di w)).objs.size,l]:=by rw[Gz];simp only[Aw,AA,List.not_mem_nil,or_false,not_or];exact⟨Ap (Fd _),Fg lX⟩
    have Wl:=(Walks.list (prog:=prog) (w:=w) nJ _ l lb items).toS;rw[hsz]at Wl;refine Vj Wl s.heap.objs.size jN (λi v hv=>IntsAre.int_at hi i v (by rw[Dw];exact hv)) hb (ns.length-0) 0 _ (by omega) (CS _)
     ⟨⟨_,AI _ rfl,rfl,rfl⟩,lY.push _⟩ (hX.at' λo e=>As _ e) λs' hm hS'=>?_
    obtain⟨h',g',d',tk',os'⟩:=s';have eg:g'=s.gens:=hm.gens;have ed:d'=s.drawn:=hm.drawn;have eo:os'=s.os:=hm.os;subst eg;subst ed;subst eo
    show wpAny _ _ _ _ _ _;refine Ac ?_;show wpAny _ _ (ret AY) _ _ _;refine Ac ⟨rfl,h',tk',rfl,hS',λb o hb e=>?_⟩;refine hm.heap b o ?_ (As _ (As _ e));simp only[Aw,AA,List.not_mem_nil,or_false,not_or];exact⟨Ap hb,by rw[Gz];exact Ap (Ib hb)⟩
   .cases r₂ with
    |error e=>exact kl
    |ok fl₂ =>
     cases fl₂ with
     |ret r =>
      obtain⟨rfl,h',tk,rfl,hS',hk'⟩:=kl
      repeat (any_goals (first|assumption|wp_step))
      exact h _ _ hS' hk'
     |_=>exact kl.elim
  |_=>exact hr.elim
end
end
theorem FQ:Slot "set_iterator" "__next__" "set_iterator.__next__" :=
 .of (owner:="set_iterator") (n:="__next__") (by rw[typeLookup_type,builtinLookup_eq_fast];kernel_rfl) (by decide +kernel) (by decide +kernel) (by decide +kernel)
  (by first|exact .inl (by decide +kernel)|exact .inr (by decide +kernel)) (by rw[isSubtype_type];kernel_rfl)
theorem Ri:entryFor table "set_iterator.__next__"=some Builtin.«set_iterator.__next__»:=entryFor_of_tree (by kernel_rfl)
theorem Q6:Slot "set_iterator" "__iter__" "set_iterator.__iter__" :=
 .of (owner:="set_iterator") (n:="__iter__") (by rw[typeLookup_type,builtinLookup_eq_fast];kernel_rfl) (by decide +kernel) (by decide +kernel) (by decide +kernel)
  (by first|exact .inl (by decide +kernel)|exact .inr (by decide +kernel)) (by rw[isSubtype_type];kernel_rfl)
theorem Yz:entryFor table "set_iterator.__iter__"=some Builtin.«dict_keyiterator.__iter__» :=
 entryFor_alias (id':="dict_keyiterator.__iter__") (by kernel_rfl) rfl (by decide +kernel) (by kernel_rfl)
theorem YV:entryFor table "set.__iter__"=some Builtin.«frozenset.__iter__» :=
 entryFor_alias (id':="frozenset.__iter__") (by kernel_rfl) rfl (by decide +kernel) (by kernel_rfl)
theorem PL:Manifest.owners.lookup (String.ofList ['r','o','t','a','r','e','t','i','_','t','e','s'].reverse)=some Manifest.sig_set_iterator:=by kernel_rfl
theorem Q5(a:Value):argsOk "set_iterator.__next__" ⟨[a],[]⟩:=by unfold argsOk;rw[signature?_of (id:="set_iterator.__next__") (n:=['_','_','t','x','e','n','_','_']) (o:=['r','o','t','a','r','e','t','i','_','t','e','s']) (by kernel_rfl) PL];kernel_rfl
theorem XJ(a:Value):argsOk "set_iterator.__iter__" ⟨[a],[]⟩:=by unfold argsOk;rw[signature?_of (id:="set_iterator.__iter__") (n:=['_','_','r','e','t','i','_','_']) (o:=['r','o','t','a','r','e','t','i','_','t','e','s']) (by kernel_rfl) PL];kernel_rfl
theorem QO{α:Type}:∀(l:List α) (i:Nat) (h:i<l.length),(l[i]::l.eraseIdx i).Perm l
 |x::l,0,_=>.refl _
 |x::l,i+1,h=>by
  have h':i<l.length:=by simpa using h
  show(l[i]::x::l.eraseIdx i).Perm (x::l);exact(List.Perm.swap x l[i] _).trans ((QO l i h').cons x)
theorem Qu{α:Type}(next:Nat->Nat):∀(n k:Nat) (left:List α) (out:Array α),left.length=n->(FZ.go next n k left out).toList.Perm (out.toList++left)
 |0,k,left,out,h=>by rw[Dy h,CB];exact .refl _
 |n+1,k,left,out,h=>by
  have hl:next k%left.length<left.length:=Nat.mod_lt _ (by omega)
  unfold FZ.go;rw[AV hl];dsimp only;refine(Qu next n (k+1) _ _ (by rw[List.length_eraseIdx_of_lt hl];omega)).trans ?_
  rw[Fp,CO];refine List.Perm.append_left _ ?_;exact QO left _ hl
theorem YL{α:Type}(next:Nat->Nat)(xs:Array α):(FZ next xs).toList.Perm xs.toList:=by
 have:=Qu next xs.size 0 xs.toList #[] (by simp)
 simpa [FZ]using this
section
variable{a it:Addr}{h h':Heap}{ep i n slot:Nat}{Q:Value->Shared->Prop}
structure N1(b:Bool)(t:SetTable):Prop where
 rise:Ck t.place
 led:t.led=b
 plain:t.plain=true
theorem dH.w{b:Bool}{t:SetTable}(h:dH b t):N1 b t:=⟨h.rise,h.led,h.plain⟩
structure BZ(w:World)(h:Heap)(a:Addr)(es:Array (Int×Value))(ep:Nat)(t:SetTable):Prop where
 obj:∃o,h.get? a=some o/\o.ExactSet/\o.data=.set es ep t
 fit:t.fits es.size=true
 siz:es.size=t.place.size
 tab:N1 (!w.params.followText "set-order") t
theorem BZ.at'{w:World}{es:Array (Int×Value)}{t:SetTable}(x:BZ w h a es ep t)(k:∀o,h.get? a=some o->h'.get? a=some o):BZ w h' a es ep t :=
 ⟨let ⟨o,e,r⟩:=x.obj;⟨o,k o e,r⟩,x.fit,x.siz,x.tab⟩
def BM(w:World)(a:Addr)(es:Array (Int×Value))(ep:Nat):Array (Int×Value):=if w.params.followText "set-order" then FZ (w.params.setOrder a ep) es else es
theorem Mi(w:World)(a:Addr)(es:Array (Int×Value))(ep:Nat):(BM w a es ep).toList.Perm es.toList:=by
 unfold BM;split
 .exact YL _ _
 .exact .refl _
theorem Mh(w:World)(a:Addr)(es:Array (Int×Value))(ep:Nat):(BM w a es ep).size=es.size:=by have:=(Mi w a es ep).length_eq;simpa using this
def C2(h:Heap)(it a:Addr)(slot i n ep:Nat):Prop:=∃o,h.get? it=some o/\o.cls=.type "set_iterator"/\o.data=.fields #[.int slot 0,.int i 0,.ref a,.int n 0,.int ep 0]
theorem C2.typeIs{s:Shared}(x:C2 s.heap it a slot i n ep):s.TypeIs (.ref it) "set_iterator":=let ⟨o,ho,hc,_⟩:=x;⟨o,ho,hc⟩
theorem C2.at'(x:C2 h it a slot i n ep)(k:∀o,h.get? it=some o->h'.get? it=some o):C2 h' it a slot i n ep:=let ⟨o,e,r⟩:=x;⟨o,k o e,r⟩
section
variable{prog:Program}{w:World}{A:Around}{E:Value->Shared->Prop}{s:Shared}{it a:Addr}{es:Array (Int×Value)}{ep:Nat}{t:SetTable}
theorem Ug(x:BZ w s.heap a es ep t)(hQ:Q (.ref s.heap.objs.size) {s with heap:=s.heap.push {cls:=.type "set_iterator",data:=.fields #[.int 0 0,.int 0 0,.ref a,.int es.size 0,.int ep 0]}}):wpAny (model prog w) A (pyIter (.ref a)) Q E s:=by
 obtain⟨o,ho,eT,hd⟩:=x.obj;have hT:s.TypeIs (.ref a) "set":=⟨o,ho,eT.1⟩;refine KH hT NO (BI NO hT YV ?_ (PySem.F.args_set_iter_1 _));unfold Builtin.«frozenset.__iter__» Builtin.Frozenset.slot0 slotArgs Builtin.Frozenset.addrOf Builtin.Frozenset.sizeOf;refine Aa (Aa (Ac (Ac ?_)));dsimp only;refine Aa (Aa (KA ho hd x.fit (Ac ?_)));have nP:∀{R:Bool->Shared->Prop} {A':Around} {E':Value->Shared->Prop},R false s->wpAny (model prog w) A' (setDrawn a) R E' s:=λ{R A' E'} hR=>by unfold setDrawn setsByText;refine Aa (Ic ho hd x.fit (Aa (Aa (Gv (Ac (Ac ?_))))));obtain⟨mk,pl,dm,fg,ld,mv,pn⟩:=t;obtain rfl:pn=true:=x.tab.plain;show R (!_&&(!true&&_)) s;simpa using hR
 refine Aa (nP ?_);rw[if_neg (by simp)];refine Aa (Ac (Aa (wpAny_setEpoch_of ho hd x.fit ?_)));show wpAny (model prog w) A.in1 (newFields "set_iterator" [rawInt 0,rawInt 0,A4 a,rawInt (es.size:Int),rawInt (ep:Int)] >>= _) _ E s;refine Aa (B8 (Ac ⟨_,rfl,"set_iterator",_,⟨_,AI _ rfl,rfl⟩,FQ.lookup,?_⟩));simpa [rawInt]using hQ
theorem QC{R:Option (Value×Nat)->Shared->Prop}(x:BZ w s.heap a es ep t)(hs:w.params.followText "set-order"=false->Ah t.place slot=i)(hR:R ((BM w a es ep)[i]?.map λe=>(e.2,if w.params.followText "set-order" then slot else t.place.getD i 0+1)) s):wpAny (model prog w) A (setNext a slot i ep) R E s:=by
 obtain⟨o,ho,eT,hd⟩:=x.obj;unfold setNext setsByText;refine Aa (Ic ho hd x.fit ?_);dsimp only;refine Aa (Aa (Gv (Ac ?_)));dsimp only;cases hb:w.params.followText "set-order" with
 |true=>have hb':(model prog w).w.params.followText "set-order"=true:=hb;rw[hb',if_pos rfl];unfold BM at hR;rw[hb,if_pos rfl]at hR;simp only[if_pos]at hR;refine Eu (λq=>absurd q (by simp)) λ_=>?_;unfold setWalk setsByText;refine Aa (Aa (Ic ho hd x.fit ?_));dsimp only;refine Aa (Aa (Gv (Ac ?_)));dsimp only;rw[hb',if_pos rfl];exact Aa (Gv (Ac (Ac hR)))
 |false =>
  have hb':(model prog w).w.params.followText "set-order"=false:=hb;rw[hb',if_neg (by simp)];unfold BM at hR;rw[hb]at hR;simp only[CP,if_false]at hR;have hi:=hs hb;have lq:t.led=true:=by rw[x.tab.led,hb];rfl
  have hsz:=x.siz;obtain⟨mk,pl,dm,fg,ld,mv,pn⟩:=t;obtain rfl:pn=true:=x.tab.plain;obtain rfl:ld=true:=lq;refine Eu (λq=>absurd (show(!true&&_)=true from q) (by simp)) λ_=>?_;refine Aa ?_;refine Eu (λq=>absurd (show(!true&&_)=true from q) (by simp)) λ_=>?_;refine Ac ?_;dsimp only at hi hsz ⊢;rw[hi];refine Ac ?_
  by_cases bS:i<es.size
  .have h1:es[i]?=some es[i]:=IE bS
   have h2:pl[i]?=some (pl.getD i 0):=by simp[CC,show i<pl.size by omega]
   rw[h1]at hR ⊢;rw[h2];exact hR
  .have h1:es[i]?=none:=Kq (by omega)
   rw[h1]at hR ⊢;exact hR
theorem VO{e:Int×Value}{Q:Option Value->Shared->Prop}(cI:C2 s.heap it a slot i es.size ep)(x:BZ w s.heap a es ep t)(hs:w.params.followText "set-order"=false->Ah t.place slot=i)(he:(BM w a es ep)[i]?=some e)(hQ:∀h',C2 h' it a (if w.params.followText "set-order" then slot else t.place.getD i 0+1) (i+1) es.size ep->CV it s.heap h'->Q (some e.2) {s with heap:=h'}):wpAny (model prog w) A (pyNext (.ref it)) Q E s:=by
 obtain⟨o,ho,hc,hd⟩:=id cI;obtain⟨os,kn,eT,cf⟩:=x.obj;unfold pyNext;refine Aa (Ii (wpAny_callSpecial?_slot (name:=Fe "__next__") cI.typeIs FQ
  (BI FQ cI.typeIs Ri ?_ (Q5 _))))
 unfold Builtin.«set_iterator.__next__» slotArgs;refine Aa (Ac ?_);dsimp only;refine Aa (Io ho hd ?_);dsimp only;refine Aa (KA kn cf x.fit ?_);refine Eu (λq=>absurd q (by simp)) λ_=>?_;simp only[Ia];refine Aa (QC x hs ?_);rw[he];dsimp only[Option.map_some];refine Aa (Gy ho hd (by simp) ?_);have g1:(s.heap.update it (Kj (·.setIfInBounds 0 (rawInt ((if w.params.followText "set-order"=true then slot else t.place.getD i 0+1:Nat):Int))))).get? it=some _:=Es _ ho (Ko (DV hd _));refine Aa (Gy g1 (DV hd _) (by simp) ?_);refine Ac ⟨_,rfl,Ac (hQ _ ⟨_,Es _ g1 (Ko (DV (DV hd _) _)),?_,?_⟩ ((CQ ..).trans (CQ ..)))⟩
 .rw[KG,KG];exact hc
 .rw[DV (DV hd _)];simp[rawInt]
theorem VT{Q:Option Value->Shared->Prop}(hh:A.handled=none)(cI:C2 s.heap it a slot i es.size ep)(x:BZ w s.heap a es ep t)(hs:w.params.followText "set-order"=false->Ah t.place slot=i)(he:es.size<=i)(hQ:∀h',Heap.ExtBut it s.heap h'->Q none {s with heap:=h'}):wpAny (model prog w) A (pyNext (.ref it)) Q E s:=by
 obtain⟨o,ho,hc,hd⟩:=id cI;obtain⟨os,kn,eT,cf⟩:=x.obj;have hn:(BM w a es ep)[i]?=none:=Kq (by rw[Mh];exact he);unfold pyNext;refine Aa (Ii (wpAny_callSpecial?_slot (name:=Fe "__next__") cI.typeIs FQ
  (BI FQ cI.typeIs Ri ?_ (Q5 _))))
 unfold Builtin.«set_iterator.__next__» slotArgs;refine Aa (Ac ?_);dsimp only;refine Aa (Io ho hd ?_);dsimp only;refine Aa (KA kn cf x.fit ?_);refine Eu (λq=>absurd q (by simp)) λ_=>?_;simp only[Ia];refine Aa (QC x hs ?_);rw[hn];dsimp only[Option.map_none];refine Aa (Gy ho hd (by simp) ?_);refine Aa ?_;simp only[newExc,newTuple];refine Aa (B8 ?_ (by size_fits));refine Aa (m:=Im _ _) (wpAny_of_eq (a:=AY) (by first|rfl|(simp only[Im];rfl)) ?_)
 refine B8 ?_ (by size_fits);simp only[raiseNew];refine Aa (wpAny_handled ?_);rw[show A.in1.handled=none from hh];refine Aa (Ac (wpAny_throw ?_));refine Aa (Gu (T:="StopIteration") (b:=true) ⟨_,AI _ rfl,rfl⟩ isSubtype_stop ?_);exact Ac (hQ _ (((CQ ..).extBut.push _).push _))
theorem VF(cI:C2 s.heap it a slot i n ep)(h:Q (.ref it) s):wpAny (model prog w) A (pyIter (.ref it)) Q E s:=by refine KH cI.typeIs Q6 (BI Q6 cI.typeIs Yz ?_ (XJ _));show wpAny _ _ (ret (.ref it)) _ _ s;exact Ac ⟨_,rfl,"set_iterator",_,cI.typeIs,FQ.lookup,h⟩
theorem WA(hh:A.handled=none)(I a:Addr)(cv:a≠I)(es:Array (Int×Value))(ep:Nat)(t:SetTable):Walks prog w A I [I,a] [I] es.size (λi v=>∃e,(BM w a es ep)[i]?=some e/\v=e.2) (λi h=>∃slot,C2 h I a slot i es.size ep/\BZ w h a es ep t/\(w.params.followText "set-order"=false->Ah t.place slot=i)) where
 sub:=λb hb=>by simp at hb;simp[hb]
 frame:=λ_ _ _ ⟨slot,h1,h2,h3⟩ hk=>⟨slot,h1.at' λo e=>hk I (by simp) o e,h2.at' λo e=>hk a (by simp) o e,h3⟩
 item:=λi s Q E hi ⟨slot,h1,h2,h3⟩ hQ=>by
  have bS:i<(BM w a es ep).size:=by rw[Mh];exact hi
  have hx:(BM w a es ep)[i]?=some (BM w a es ep)[i]:=IE bS;refine VO h1 h2 h3 hx λh' hit' hs'=>?_;refine hQ _ h' s.toks ⟨_,hx,rfl⟩ ⟨_,hit',h2.at' λo e=>hs'.extBut a o cv e,λhb=>?_⟩ λb o hb e=>hs'.extBut b o (λh=>hb (by simp[h])) e;rw[hb];exact WW h2.tab.rise (by rw[<-h2.siz];exact hi)
 done:=λs Q E ⟨slot,h1,h2,h3⟩ hQ=>VT hh h1 h2 h3 (Ag _) λh' he'=>hQ h' s.toks λb o hb e=>he' b o (λh=>hb (by simp[h])) e
 self:=λ_ _ _ _ ⟨slot,h1,_⟩ hQ=>VF h1 hQ
end
end
end HP
namespace HP
open PySem PySem.W PyProof.Rows
variable{p:Array Nat}{h:Heap}{ep i j m n:Nat}{Q:Nat×Array Nat->Prop}
section
variable{α β:Type}
def Bc(o:Nat->Nat->Bool)(n:Nat):KasT α->(α->Prop)->Prop
 | .ret a,Q=>Q a
 | .ask i j k,Q=>i<n/\j<n/\Bc o n (k (o i j)) Q
theorem Bc.bnd{o:Nat->Nat->Bool}{n:Nat}{f:α->KasT β}{Q:β->Prop}:∀(t:KasT α),Bc o n t (λa=>Bc o n (f a) Q)->Bc o n (t.bind f) Q
 | .ret a,h=>h
 | .ask i j k,h=>⟨h.1,h.2.1,Bc.bnd (k (o i j)) h.2.2⟩
end
structure Pm(n:Nat)(p:Array Nat):Prop where
 pos:0<n
 perm:p.Perm (List.toArray (Ab n))
theorem Pm.size{n:Nat}{p:Array Nat}(h:Pm n p):p.size=n:=by have:=h.perm.size_eq;simpa using this
theorem Pm.lt(h:Pm n p)(i:Nat):p.getD i 0<n:=by
 by_cases hi:i<p.size
 .have e:p.getD i 0=p[i]:=by simp[CC,hi]
  rw[e];have:=(NR.mp h.perm).mem_iff (a:=p[i]);have h2:=this.mp (by simp);simpa using h2
 .have e:p.getD i 0=0:=by simp[CC,hi]
  rw[e];exact h.pos
theorem Pm.rev(h:Pm n p)(i j:Nat):Pm n (kas_rev p i j):=⟨h.pos,(mirror_perm _ _ _ _).trans h.perm⟩
theorem Pm.bub(h:Pm n p)(i j:Nat):Pm n (bubble p i j):=⟨h.pos,(bubble_perm _ _ _).trans h.perm⟩
theorem b9(p:Array Nat)(i:Nat):p.getD i 0=(p[i]?).getD 0:=by simp[Array.getD_eq_getD_getElem?]
section
variable(oI:KeyOrd)(key:Nat->oI.α)
def Ka(p:Array Nat)(i:Nat):oI.α:=key (p.getD i 0)
def Up(p:Array Nat)(k:Nat):Prop:=∀i j,i<=j->j<k->oI.kle (Ka oI key p i) (Ka oI key p j)
def Dn(p:Array Nat)(k:Nat):Prop:=∀i j,i<=j->j<k->oI.kle (Ka oI key p j) (Ka oI key p i)
def Ev(p:Array Nat)(m q:Nat):Prop:=∀i,m-(q+1)<=i->i<m->Ka oI key p i=Ka oI key p (m-1)
abbrev fU:Nat->Nat->Bool:=λi j=>oI.blt (key i) (key j)
variable{oI key}{p:Array Nat}{n:Nat}
theorem Lm(hj:j<=p.size)(k:Nat):Ka oI key (kas_rev p i j) k=if i<=k/\k<j then Ka oI key p (i+j-1-k)else Ka oI key p k:=by unfold Ka kas_rev;rw[b9,getElem?_mirror_all hj];split<;>rw[<-b9]
theorem Mn(hj:j<=p.size)(h:∀k,i<=k->k<j->Ka oI key p k=Ka oI key p (j-1))(k:Nat):Ka oI key (kas_rev p i j) k=Ka oI key p k:=by
 rw[Lm hj];split
 .rename_i hk
  rw[h _ (by omega) (by omega),h k hk.1 hk.2]
 .rfl
theorem OH{s d:Nat}(hs:s<p.size)(hd:d<=s)(k:Nat):Ka oI key (bubble p s d) k=if k=s-d then Ka oI key p s else if s-d<k/\k<=s then Ka oI key p (k-1)else Ka oI key p k:=by
 unfold Ka;rw[b9,getElem?_bubble hs d hd]
 by_cases h1:k=s-d
 .rw[if_pos h1,if_pos h1,<-b9]
 .rw[if_neg h1,if_neg h1]
  by_cases h2:s-d<k/\k<=s
  .rw[if_pos h2,if_pos h2,<-b9]
  .rw[if_neg h2,if_neg h2,<-b9]
theorem Up.one:Up oI key p 1:=λi j h1 h2=>by
 obtain rfl:i=j:=by omega
 exact E9 _
theorem Up.more{k:Nat}(h:Up oI key p k)(hl:oI.kle (Ka oI key p (k-1)) (Ka oI key p k)):Up oI key p (k+1):=λi j h1 h2=>by
 by_cases hj:j<k
 .exact h i j h1 hj
 obtain rfl:j=k:=by omega
 by_cases hi:i=j
 .subst hi;exact E9 _
 .exact HX (h i (j-1) (by omega) (by omega)) hl
theorem Dn.more{k:Nat}(h:Dn oI key p k)(hl:oI.kle (Ka oI key p k) (Ka oI key p (k-1))):Dn oI key p (k+1):=λi j h1 h2=>by
 by_cases hj:j<k
 .exact h i j h1 hj
 obtain rfl:j=k:=by omega
 by_cases hi:i=j
 .subst hi;exact E9 _
 .exact HX hl (h i (j-1) (by omega) (by omega))
theorem Dn.same{p':Array Nat}{k:Nat}(h:Dn oI key p k)(e:∀i,Ka oI key p' i=Ka oI key p i):Dn oI key p' k:=λi j h1 h2=>by rw[e,e];exact h i j h1 h2
theorem L0(hp:Pm n p){Q:Nat->Prop}:∀(f m:Nat),Up oI key p m->(∀m',m<=m'->m'<=m+f->Up oI key p m'->(m'=m+f\/oI.klt (Ka oI key p m') (Ka oI key p (m'-1)))->Q m')->Bc (fU oI key) n (kas_asc p f m) Q
 |0,m,hu,hq=>hq m (Ag _) (by omega) hu (.inl rfl)
 |f+1,m,hu,hq=>by
  refine⟨hp.lt _,hp.lt _,?_⟩;dsimp only;split
  .rename_i h
   exact hq m (Ag _) (by omega) hu (.inr h)
  .rename_i h
   refine L0 hp f (m+1) (hu.more (GA h)) λm' h1 h2 h3 h4=>hq m' (by omega) (by omega) h3 (h4.imp (λe=>by omega) id)
theorem JF{Q:Array Nat×Nat×Nat->Prop}:∀(f:Nat) (p:Array Nat) (m q:Nat),Pm n p->Dn oI key p m->q+1<=m->Ev oI key p m q->m+f<=n ->(∀p' m' q',Pm n p'->m<=m'->m'<=m+f->Dn oI key p' m'->q'+1<=m'->Ev oI key p' m' q'->Q (p',m',q'))->Bc (fU oI key) n (kas_desc f p m q) Q
 |0,p,m,q,hp,hd,h1,he,hn,hq=>hq p m q hp (Ag _) (by omega) hd h1 he
 |f+1,p,m,q,hp,hd,h1,he,hn,hq=>by
  have hz:m<=p.size:=by rw[hp.size];omega
  have e0:∀p',Ev oI key p' (m+1) 0:=λp' i h1 h2=>by congr 1;omega
  refine⟨hp.lt _,hp.lt _,?_⟩;dsimp only;split
  .rename_i h
   have hd':=hd.more (H8 h);split
   .exact JF f _ (m+1) 0 (hp.rev _ _) (hd'.same (Mn hz he)) (by omega) (e0 _) (by omega) λp' m' q' a b c d e g=>hq p' m' q' a (by omega) (by omega) d e g
   .exact JF f _ (m+1) 0 hp hd' (by omega) (e0 _) (by omega) λp' m' q' a b c d e g=>hq p' m' q' a (by omega) (by omega) d e g
  .rename_i h
   refine⟨hp.lt _,hp.lt _,?_⟩;dsimp only;split
   .exact hq p m q hp (Ag _) (by omega) hd h1 he
   .rename_i h'
    have l1:=GA h;have l2:=GA h';have ee:Ka oI key p m=Ka oI key p (m-1):=NK l2 l1;refine JF f p (m+1) (q+1) hp (hd.more l2) (by omega) (λi a b=>?_) (by omega) λp' m' q' a b c d e g=>hq p' m' q' a (by omega) (by omega) d e g;rw[show m+1-1=m by omega]
    by_cases hi:i=m
    .rw[hi]
    .rw[ee];exact he i (by omega) (by omega)
theorem Qr(hp:Pm n p)(hd:Dn oI key p m)(h1:1<=m)(hm:m<=n)(hq:∀m' p',1<=m'->m'<=n->Pm n p'->Up oI key p' m'->Q (m',p')):Bc (fU oI key) n (kas_tail3 m n p) Q:=by
 have hz:m<=p.size:=by rw[hp.size];omega
 refine Bc.bnd _ (L0 (hp.rev 0 m) (n-m) m (λi j a b=>?_) λm' a b c _=>hq m' _ (by omega) (by omega) (hp.rev 0 m) c);rw[Lm hz,Lm hz,if_pos (by omega),if_pos (by omega)];exact hd _ _ (by omega) (by omega)
theorem Qt(hp:Pm n p)(hd:Dn oI key p (m+1))(hm:m+1<=n)(hq:∀m' p',1<=m'->m'<=n->Pm n p'->Up oI key p' m'->Q (m',p')):Bc (fU oI key) n (kas_descPart m n p) Q:=by
 refine Bc.bnd _ (JF (n-(m+1)) p (m+1) 0 hp hd (by omega) (λi a b=>by congr 1;omega) (by omega) λp' m' q' h1 h2 h3 h4 h5 h6=>?_);have hz:m'<=p'.size:=by rw[h1.size];omega
 dsimp only;split
 .exact Qr (h1.rev _ _) (h4.same (Mn hz h6)) (by omega) (by omega) hq
 .exact Qr h1 h4 (by omega) (by omega) hq
theorem W3(hp:Pm n p)(hq:∀m' p',1<=m'->m'<=n->Pm n p'->Up oI key p' m'->Q (m',p')):Bc (fU oI key) n (kas_count n p) Q:=by
 have h0:=hp.pos;refine Bc.bnd _ (L0 hp (n-1) 1 Up.one λm h1 h2 h3 h4=>?_);have hz:m<=p.size:=by rw[hp.size];omega
 split
 .exact hq m p (by omega) (by omega) hp h3
 .rename_i cv
  have hne':m≠n:=by simpa using cv
  have bS:oI.klt (Ka oI key p m) (Ka oI key p (m-1)):=h4.resolve_left (by omega);split
  .rename_i hm
   refine⟨hp.lt _,hp.lt _,?_⟩;dsimp only;split
   .exact hq m p (by omega) (by omega) hp h3
   .rename_i hr
    have hr':oI.kle (Ka oI key p (m-1)) (Ka oI key p 0):=GA hr;have all:∀k,0<=k->k<m->Ka oI key p k=Ka oI key p (m-1):=λk _ hk=>NK (h3 k (m-1) (by omega) (by omega)) (HX hr' (h3 0 k (by omega) hk));refine Qt (hp.rev _ _) (Dn.same ?_ (Mn hz all)) (by omega) hq;refine Dn.more (λi j a b=>?_) (H8 bS);rw[all i (by omega) (by omega),all j (by omega) b];exact E9 _
  .obtain rfl:m=1:=by omega
   refine Qt hp (Dn.more (λi j a b=>?_) (H8 bS)) (by omega) hq;obtain rfl:i=j:=by omega
   exact E9 _
theorem MD{Q:Nat->Prop}{k:Nat}(hp:Pm n p)(hu:Up oI key p k):∀(f l r:Nat),l<=r->r<=k->r-l<=f->(∀i,i<l->oI.kle (Ka oI key p i) (Ka oI key p k))->(∀i,r<=i->i<k->oI.klt (Ka oI key p k) (Ka oI key p i)) ->(∀l,l<=k->(∀i,i<l->oI.kle (Ka oI key p i) (Ka oI key p k))->(∀i,l<=i->i<k->oI.klt (Ka oI key p k) (Ka oI key p i))->Q l)->Bc (fU oI key) n (kas_place p k f l r) Q
 |0,l,r,h1,h2,h3,lo,hi,hq=>by
  obtain rfl:l=r:=by omega
  exact hq l h2 lo hi
 |f+1,l,r,h1,h2,h3,lo,hi,hq=>by
  unfold kas_place;split
  .obtain rfl:l=r:=by omega
   exact hq l h2 lo hi
  .refine⟨hp.lt _,hp.lt _,?_⟩
   dsimp only;split
   .rename_i h
    exact MD hp hu f l ((l+r) / 2) (by omega) (by omega) (by omega) lo (λi a b=>KeyOrd.klt_of_klt_of_kle h (hu _ _ a b)) hq
   .rename_i h
    refine MD hp hu f ((l+r) / 2+1) r (by omega) (by omega) (by omega) (λi a=>HX (hu i ((l+r) / 2) (by omega) (by omega)) (GA h)) hi hq
theorem PX{Q:Array Nat->Prop}:∀(f:Nat) (p:Array Nat) (k:Nat),Pm n p->Up oI key p k->k+f=n->(∀p',Pm n p'->Up oI key p' n->Q p')->Bc (fU oI key) n (kas_bin f p k) Q
 |0,p,k,hp,hu,hn,hq=>by
  obtain rfl:k=n:=by omega
  exact hq p hp hu
 |f+1,p,k,hp,hu,hn,hq=>by
  refine Bc.bnd _ (MD hp hu k 0 k (by omega) (Ag _) (by omega) (λi a=>by omega) (λi a b=>by omega) λl hl lo hi=>?_);refine PX f _ (k+1) (hp.bub _ _) (λi j a b=>?_) (by omega) hq;have hk:k<p.size:=by rw[hp.size];omega
  rw[OH hk (by omega),OH hk (by omega),show k-(k-l)=l by omega]
  repeat' split
  all_goals first
   |(exfalso;omega)
   |exact E9 _
   |exact lo _ (by omega)
   |exact H8 (hi _ (by omega) (by omega))
   |exact hu _ _ (by omega) (by omega)
theorem V0(hn:0<n){Q:Array Nat->Prop}(hq:∀p,Pm n p->Up oI key p n->Q p):Bc (fU oI key) n (kas_sort n) Q:=by
 refine Bc.bnd _ (W3 ⟨hn,.refl _⟩ λm p h1 h2 h3 h4=>?_);dsimp only;rw[show max m 1=m by omega];split
 .exact PX _ p m h3 h4 (by omega) hq
 .exact hq p h3 (by rwa [show n=m by omega])
end
theorem cC:∀a:List Int,HM.lexLt a a=false
 |[]=>rfl
 |x::a=>by show(if x=x then HM.lexLt a a else decide (x<x))=false;rw[if_pos rfl];exact cC a
theorem He(x y:Int)(a b:List Int):HM.lexLt (x::a) (y::b)=if x=y then HM.lexLt a b else decide (x<y):=rfl
theorem cP:∀a b c:List Int,HM.lexLt a b=true->HM.lexLt b c=true->HM.lexLt a c=true
 |[],[],_,h,_=>by cases h
 |[],_::_,[],_,h=>by cases h
 |[],_::_,_::_,_,_=>rfl
 |_::_,[],_,h,_=>by cases h
 |_::_,_::_,[],_,h=>by cases h
 |x::a,y::b,z::c,h1,h2=>by
  rw[He]at *;split at h1
  .rename_i e
   subst e;split at h2
   .rename_i e;subst e;rw[if_pos rfl];exact cP a b c h1 h2
   .rename_i e;rw[if_neg e];exact h2
  .split at h2
   .rename_i e1 e2;subst e2;rw[if_neg e1];exact h1
   .rename_i e1 e2
    have h1:=of_decide_eq_true h1;have h2:=of_decide_eq_true h2;rw[if_neg (by omega)];exact decide_eq_true (by omega)
theorem LI:∀a b c:List Int,HM.lexLt a c=true->HM.lexLt a b=true\/HM.lexLt b c=true
 |[],[],_,h=>.inr h
 |[],_::_,_,_=>.inl rfl
 |_::_,_,[],h=>by cases h
 |_::_,[],_::_,_=>.inr rfl
 |x::a,y::b,z::c,h=>by
  rw[He]at *;rw[He];split at h
  .rename_i e
   subst e
   by_cases e:x=y
   .subst e;rw[if_pos rfl,if_pos rfl];exact LI a b c h
   .rw[if_neg e,if_neg (Az e)]
    by_cases q:x<y
    .exact .inl (decide_eq_true q)
    .exact .inr (decide_eq_true (by omega))
  .rename_i e
   have h:=of_decide_eq_true h
   by_cases e1:x=y
   .subst e1;rw[if_neg e];exact .inr (decide_eq_true h)
   .rw[if_neg e1]
    by_cases q:x<y
    .exact .inl (decide_eq_true q)
    .rw[if_neg (by omega)];exact .inr (decide_eq_true (by omega))
theorem Mk:∀a b:List Int,HM.lexLt a b=false->HM.lexLt b a=false->a=b
 |[],[],_,_=>rfl
 |[],_::_,h,_=>by cases h
 |_::_,[],_,h=>by cases h
 |x::a,y::b,h1,h2=>by
  rw[He]at h1 h2
  by_cases e:x=y
  .subst e
   rw[if_pos rfl]at h1 h2;rw[Mk a b h1 h2]
  .rw[if_neg e]at h1
   rw[if_neg (Az e)]at h2;have h1:=of_decide_eq_false h1;have h2:=of_decide_eq_false h2;omega
@[reducible] def Lo:KeyOrd where
 α:=List Int
 blt:=HM.lexLt
 irrefl:=cC
 trans:=cP
 negTrans:=LI
 total:=Mk
theorem MF{α:Type}{R:α->α->Prop}(jk:∀a b,R a b->R b a->a=b):∀{l m:List α},l.Perm m->l.Pairwise R->m.Pairwise R->l=m
 |[],m,hp,_,_=>(List.nil_perm.mp hp).symm
 |x::l,[],hp,_,_=>absurd hp.symm (by intro q;exact List.cons_ne_nil _ _ (List.nil_perm.mp q))
 |x::l,y::m,hp,hl,hm=>by
  obtain⟨l1,l2⟩:=B9.mp hl;obtain⟨m1,m2⟩:=B9.mp hm;have e:x=y:=by
   rcases Aw.mp (hp.mem_iff.mp (An ..))with e|e
   .exact e
   .rcases Aw.mp (hp.mem_iff.mpr (An ..))with e'|e'
    .exact e'.symm
    .exact jk x y (l1 y e') (m1 x e)
  subst e;rw[MF jk ((List.perm_cons x).mp hp) l2 m2]
def TI(h:Heap)(b:Addr)(t:List Int):Prop:=∃o its n,h.get? b=some o/\o.cls=.type "tuple"/\o.data=.seq its n/\IntsAre its.toList t
section
variable{prog:Program}{w:World}{A:Around}{E:Value->Shared->Prop}{s:Shared}
theorem Ox{ck:Bool}{Q:Bool->Shared->Prop}:∀{vs ws:List Value} {a b:List Int} (i:Nat),IntsAre vs a->IntsAre ws b->ck=decide (vs.length<ws.length)->Q (HM.lexLt a b) s->KatLex prog w A true ck Q (vs.zip ws) i s
 |_,_,_,_,i,.nil,.nil,e,q=>by subst e;exact kat_nil q
 |_,_,_,_,i,.nil,.cons _ _ _,e,q=>by subst e;exact kat_nil q
 |_,_,_,_,i,.cons _ _ _,.nil,e,q=>by subst e;exact kat_nil q
 |_,_,_,_,i,.cons x t hv,.cons y u hw,e,q=>by
  rw[List.zip_cons_cons];refine kat_cons (wpAny_eqBool_int ?_);rw[He]at q
  by_cases h:x=y
  .rw[if_pos h]at q
   rw[show(x==y)=true by simpa using h];refine kat_yes (Ox (i+1) hv hw ?_ q);rw[e,AL,AL];exact decide_eq_decide.mpr (by omega)
  .rw[if_neg h]at q
   rw[show(x==y)=false by simpa using h];refine kat_no ?_
   by_cases hi:i=0
   .rw[show(true&&i==0)=true by simpa using hi]
    exact oneLt_int q
   .rw[show(true&&i==0)=false by simpa using hi]
    exact kat_one _ _ (PyProof.Rows.lt_int q)
theorem Su{x y:Addr}{a b:List Int}{Q:Bool->Shared->Prop}(hx:TI s.heap x a)(hy:TI s.heap y b)(h:Q (HM.lexLt a b) s):wpAny (model prog w) A (keyLt' (tuples' true) (.ref x) (.ref y)) Q E s:=by obtain⟨ox,ix,n,e1,_,d1,r1⟩:=hx;obtain⟨oy,iy,k,e2,_,d2,r2⟩:=hy;refine kat_lt e1 d1 e2 d2 (Ox 0 r1 r2 ?_ h);rw[Ba,Ba]
theorem Pd{α:Type}{mn:Nat->Nat->(Bool->Shared->Prop)->Shared->Prop}{o:Nat->Nat->Bool}{n:Nat}(hc:∀i j C,i<n->j<n->C (o i j) s->mn i j C s){G:α->Shared->Prop}:∀(t:KasT α),Bc o n t (λa=>G a s)->t.kasWp mn G s
 | .ret a,h=>h
 | .ask i j k,h=>hc i j _ h.1 h.2.1 (Pd hc (k (o i j)) h.2.2)
theorem VI{R:Heap->Addr->List Int->Prop}{F:List Int->Prop}(nH:∀{h h':Heap} {b:Addr} {t:List Int},R h b t->(∀c o,h.get? c=some o->o.cls=.type "tuple"->h'.get? c=some o)->R h' b t)(iA:∀{h:Heap} {b:Addr} {t:List Int},F t->R h b t->∃o its n x u,h.get? b=some o/\o.cls=.type "tuple"/\o.data=.seq its n/\its[0]?=some (.int x u))(bS:∀{s:Shared} {x y:Addr} {a b:List Int} {C:Bool->Shared->Prop} {E:Value->Shared->Prop},R s.heap x a->R s.heap y b->C (HM.lexLt a b) s->wpAny (model prog w) A (keyLt' (tuples' true) (.ref x) (.ref y)) C E s){a:Addr}{vs:List Value}{ts:List (List Int)}{n:Nat}{P:HJ->Shared->Prop}(ho:s.heap.get? a=some (seqObj "list" vs.toArray n))(hl:ts.length=vs.length)(hT:∀(i:Nat) t,ts[i]?=some t->∃b,vs[i]?=some (.ref b)/\R s.heap b t)(cv:vs.length<2\/∀t∈ts,F t)(jP:vs.length<64)(h:∀p:List Nat,p.Perm (Ab vs.length)->(p.map λi=>ts.getD i []).Pairwise (λx y=>HM.lexLt y x=false)->P (.done (.ret .none)) {s with heap:=Ge s.heap a vs (p.map λi=>vs.getD i AY).toArray}):wpAny (model prog w) A (Builtin.«list.sort» ⟨[.ref a],[]⟩) P E s:=by
 rw[list_sort_plain];have ha:a<s.heap.objs.size:=Ai ho;refine Aa (listItems_at ho rfl (Aa (listUpdate_at ho rfl ?_ (by rw[Au,Bo];omega) (CS _))));obtain⟨e1,lU⟩:∃e1,(s.heap.update a (Er λ_=>#[])).get? a=some (seqObj "list" #[] e1):=⟨_,get?_update_seq ho (λ_=>#[])⟩;refine Aa (seqEpoch_at lU rfl ?_);refine Aa (wpAny_newTuple ?_ (by show vs.length<=_;rw[Bo];omega));refine Aa (wpAny_newList ?_ (CS _));refine BS ?_;generalize hG:((s.heap.update a (Er λ_=>#[])).push (seqObj "tuple" vs.toArray 0)).push (seqObj "list" #[] 0)=g;have lT:g.get? a=some (seqObj "list" #[] e1):=by rw[<-hG,HZ _ _ _ (by rw[size_push',HW];exact Ap (Ib ha)),HZ _ _ _ (by rw[HW];exact Ap ha)];exact lU
 have kZ:∀b o,b≠a->s.heap.get? b=some o->g.get? b=some o:=λb o hb e=>by have bS:=Ai e;rw[<-hG,HZ _ _ _ (by rw[size_push',HW];exact Ap (Ib bS)),HZ _ _ _ (by rw[HW];exact Ap bS),Heap.get?_update_ne _ _ _ _ hb];exact e
 have kF:∀(i:Nat) t,ts[i]?=some t->∃b,vs[i]?=some (.ref b)/\R g b t:=λi t e=>by
  obtain⟨b,e1,x⟩:=hT i t e;refine⟨b,e1,nH x λc o q hc=>kZ c o ?_ q⟩
  rintro rfl
  rw[ho]at q;cases q;exact absurd (Value.type.inj hc) (by decide)
 show wpAny (model prog w) A _ P E {s with heap:=g};dsimp only;have ck:∀(st':SortSt) (p:List Nat),p.Perm (Ab vs.length)->(p.map λi=>ts.getD i []).Pairwise (λx y=>HM.lexLt y x=false)->(arrOf st').map (·.2)=(p.map λi=>vs.getD i AY).toArray->failedOf st'=none ->
   wpAny (model prog w) A (do
    let touched:=(<-seqEpoch a) != e1
    Builtin.List.listUpdate (.ref a) λ_=>(arrOf st').map (·.2)
    if let some e:=failedOf st' then rule "list.sort.comparison-raised";throw e
    if touched then rule "list.sort.modified";raiseError "ValueError" "list modified during sort"
    ret .none) P E {s with heap:=g}:=by
  intro st' p hp hs kD hf;refine Aa (seqEpoch_at lT rfl ?_);rw[kD];refine Aa (listUpdate_at lT rfl ?_ (CS _) (by show(p.map λi=>vs.getD i AY).toArray.size<=_;rw[Au,Ae,hp.length_eq,AB,Bo];omega));rw[hf];simp only[bne_self_eq_false,CP,if_false];refine Ac ?_;have:=h p hp hs;unfold Ge at this;rw[hG]at this;exact this
 by_cases h2:vs.toArray.size<2
 .rw[if_pos h2,if_pos h2]
  refine Aa (Ac ?_);rw[StateT.run_pure];refine Aa (Ac ?_);refine ck (SortSt.mk' general' (vs.toArray.zip vs.toArray) #[] 7 none) (Ab vs.length) (.refl _) ?_ ?_ rfl
  .rw[Au]at h2
   have:vs.length=0\/vs.length=1:=by omega
   rcases this with e|e<;>rw[e]<;>simp
  .rw[Au]at h2
   show Array.map (·.2) (vs.toArray.zip vs.toArray)=_
   match vs,h2 with
   |[],_=>simp
   |[v],_=>simp
 .rw[if_neg h2,if_neg h2]
  rw[Au]at h2;have hne':∀t∈ts,F t:=cv.resolve_left h2;have tups:∀(vs:List Value) (ts:List (List Int)),ts.length=vs.length->(∀(i:Nat) t,ts[i]?=some t->∃b,vs[i]?=some (.ref b)/\R g b t)->(∀t∈ts,F t)->∃fs,KatTups g vs fs/\fs.length=vs.length/\∀v∈fs,∃x t,v=BU x t:=by
   intro vs
   induction vs with
   |nil=>intro ts hl _ _;exact⟨[],KatTups.nil,rfl,by simp⟩
   |cons v vs ih =>
    intro ts hl hT hn;cases ts with
    |nil=>simp at hl
    |cons t ts =>
     obtain⟨fs,f1,f2,f3⟩:=ih ts (by simpa using hl) (λi t e=>hT (i+1) t (by simpa using e)) λx hx=>hn x (Aq _ hx);obtain⟨b,eb,hr⟩:=hT 0 t rfl;obtain⟨o,its,m,x,u,g1,g2,g3,g4⟩:=iA (hn t (An ..)) hr;simp at eb;subst eb;refine⟨.int x u::fs,KatTups.cons g1 g2 g3 g4 f1,by simp[f2],λv hv=>?_⟩;rcases Aw.mp hv with e|e
     .exact⟨x,u,e⟩
     .exact f3 v e
  obtain⟨fs,f1,f2,f3⟩:=tups vs ts hl kF hne';refine Aa (kat_kind (s:={s with heap:=g}) (T:=.type "int") f1 (by omega) (λv hv=>?_) (by rfl) ?_)
  .obtain⟨x,t,rfl⟩:=f3 v hv
   exact Looks.of_pure rfl
  rw[show(Ej "int" != Ej "tuple")=true by decide];refine Aa (B7 (kat_run (ks:=vs) (Q:=λst' s'=>s'={s with heap:=g}/\∃p:Array Nat,Pm vs.length p/\Up Lo (λi=>ts.getD i []) p vs.length/\arrOf st'=p.map (kas_item (vs.toArray.zip vs.toArray))/\failedOf st'=none)
   (G:=λp s'=>s'={s with heap:=g}/\Pm vs.length p/\Up Lo (λi=>ts.getD i []) p vs.length) rfl (by omega) jP (λp' st' s' a1 a2 a3 a4=>⟨a4.1,p',a4.2.1,a4.2.2,a2,a3⟩) ?_) ?_ λ_ _ e=>e)
  .refine Pd (o:=fU Lo λi=>ts.getD i []) (n:=vs.length) (λi j C hi hj hC=>?_) _ (V0 (by omega) λp h1 h2=>⟨rfl,h1,h2⟩)
   have gi:ts[i]?=some (ts.getD i []):=by simp[show i<ts.length by omega]
   have gj:ts[j]?=some (ts.getD j []):=by simp[show j<ts.length by omega]
   obtain⟨b1,v1,x1⟩:=kF i _ gi;obtain⟨b2,v2,x2⟩:=kF j _ gj;show wpAny (model prog w) A (keyLt' _ (vs.getD i AY) (vs.getD j AY)) C _ _;rw[show vs.getD i AY=.ref b1 by simp[Dq,v1],show vs.getD j AY=.ref b2 by simp[Dq,v2]];exact bS x1 x2 hC
  .rintro ⟨⟨⟩,st'⟩ s' ⟨rfl,p,hp,hu,kD,hf⟩
   refine ck st' p.toList ?_ ?_ (kat_snds rfl kD) hf
   .have:=NR.mp hp.perm
    simpa using this
   .rw[HY,IG]
    intro i j hi hj ky;have hsz:=hp.size;have q:=hu i j (DX ky) (by rw[Ba]at hj;omega);unfold Ka at q;rw[show p.getD i 0=p.toList[i] by simp[CC,show i<p.size by simpa using hi],show p.getD j 0=p.toList[j] by simp[CC,show j<p.size by simpa using hj]]at q;exact q
theorem Uj{a:Addr}{vs:List Value}{ts:List (List Int)}{P:HJ->Shared->Prop}(ho:s.heap.get? a=some (seqObj "list" vs.toArray n))(hl:ts.length=vs.length)(hT:∀(i:Nat) t,ts[i]?=some t->∃b,vs[i]?=some (.ref b)/\TI s.heap b t)(cv:vs.length<2\/∀t∈ts,t≠[])(jP:vs.length<64)(h:∀p:List Nat,p.Perm (Ab vs.length)->(p.map λi=>ts.getD i []).Pairwise (λx y=>HM.lexLt y x=false)->P (.done (.ret .none)) {s with heap:=Ge s.heap a vs (p.map λi=>vs.getD i AY).toArray}):wpAny (model prog w) A (Builtin.«list.sort» ⟨[.ref a],[]⟩) P E s:=by
 refine VI (R:=TI) (F:=λt=>t≠[]) (λ⟨o,its,n,e,c,r⟩ k=>⟨o,its,n,k _ _ e c,c,r⟩) (λ{h b t} hn x=>?_) Su ho hl hT cv jP h;obtain⟨o,its,m,g1,g2,g3,g4⟩:=x;cases t with
 |nil=>exact absurd rfl hn
 |cons x t =>
  cases hi:its.toList with
  |nil=>rw[hi]at g4;cases g4
  |cons y ys =>
   rw[hi]at g4;cases g4 with
   |cons _ u _=>exact⟨o,its,m,x,u,g1,g2,g3,by rw[<-Dw,hi];rfl⟩
end
def Bx(h:Heap)(d:Addr)(es:Array DictEntry)(ep:Nat):Prop:=∃o,h.get? d=some o/\o.ExactDict/\o.data=.dict es ep
theorem Bx.at'{h':Heap}{d:Addr}{es:Array DictEntry}(x:Bx h d es ep)(e:∀o,h.get? d=some o->h'.get? d=some o):Bx h' d es ep:=let ⟨o,ho,r⟩:=x;⟨o,e _ ho,r⟩
theorem Bx.typeIs{s:Shared}{d:Addr}{es:Array DictEntry}(x:Bx s.heap d es ep):s.TypeIs (.ref d) "dict":=let ⟨o,ho,hc,_⟩:=x;⟨o,ho,hc.1⟩
theorem Bx.lt{d:Addr}{es:Array DictEntry}(x:Bx h d es ep):d<h.objs.size:=let ⟨o,ho,_⟩:=x;Ai ho
section
variable{prog:Program}{w:World}{A:Around}{E:Value->Shared->Prop}{s:Shared}{it d:Addr}{es:Array DictEntry}{ep i:Nat}
theorem Ux{Q:Value->Shared->Prop}(hd:(d==A8)=false)(hm:Bx s.heap d es ep)(hQ:Q (.ref s.heap.objs.size) {s with heap:=s.heap.push {cls:=.type "dict_keyiterator",data:=.fields #[.ref d,.int 0 0,.int es.size 0,.int ep 0]}}):wpAny (model prog w) A (pyIter (.ref d)) Q E s:=by
 obtain⟨o,ho,hc,gw⟩:=id hm;have hT:=hm.typeIs;refine KH hT F.slot_dict_iter (BI F.slot_dict_iter hT F.entry_dict_iter ?_ (F.args_dict_iter_1 _));unfold Builtin.«dict.__iter__»;refine Aa ?_;unfold Builtin.Dict.dictSlotNone;refine Aa (wpAny_notOrdered_dict hT ?_);show wpAny _ _ (pure (A4 d)) _ _ s;refine Ac ?_;show wpAny _ _ (NN d >>= _) _ _ s;unfold NN;rw[if_neg (by rw[hd];exact Bp)];refine Aa (Ac (Aa (Gk ho gw (Aa (Kd ho gw ?_)))));refine Aa (B8 (Ac ⟨_,rfl,"dict_keyiterator",_,⟨_,AI _ rfl,rfl⟩,F.slot_dict_keyiterator_next.lookup,?_⟩));simpa [rawInt]using hQ
theorem VW{e:DictEntry}{Q:Option Value->Shared->Prop}(cI:s.heap.IsKeyIter it d i es.size ep)(hm:Bx s.heap d es ep)(hx:es[i]?=some e)(hQ:∀h',h'.IsKeyIter it d (i+1) es.size ep->CV it s.heap h'->Q (some e.key) {s with heap:=h'}):wpAny (model prog w) A (pyNext (.ref it)) Q E s:=by
 obtain⟨o,ho,hc,hd⟩:=id cI;obtain⟨od,iU,dh,de⟩:=id hm;unfold pyNext;refine Aa (Ii (wpAny_callSpecial?_slot (name:=Fe "__next__") cI.typeIs F.slot_dict_keyiterator_next
  (BI F.slot_dict_keyiterator_next cI.typeIs F.entry_dict_keyiterator_next ?_ (F.args_dict_keyiterator_next_1 _))))
 refine Aa (Ac (Aa (Aa ?_)))
 first|refine Aa (ID cI.typeIs (Ac ?_))|refine Aa (Iy cI.typeIs (Ac ?_))
 refine Aa (Io ho hd ?_);have dR:NX "dict_keyiterator"=false:=by decide
 simp only[dR,CP,if_false];show wpAny _ _ (if(A4 d==AY)=true then _ else _) _ _ s;rw[if_neg (show ¬((A4 d==AY)=true) from Bp)];refine Aa (Ac (Aa (Gk iU de ?_)));rw[if_neg (by simp)];refine Aa (Ac (Aa (Kd iU de ?_)));rw[if_neg (by simp)];refine Ac ?_;obtain⟨bS,he⟩:=Array.getElem?_eq_some_iff.mp hx;simp only[show ¬((i:Int)<0) from by omega,if_false,Ia,IE bS];refine Aa ?_
 first|refine Aa (ID cI.typeIs (Ac ?_))|refine Aa (Iy cI.typeIs (Ac ?_))
 refine Aa (wpAny_isOneOf_keyiter cI.typeIs ?_);show wpAny _ _ (setField (.ref it) 1 (rawInt ((i:Int)+1)) >>= _) _ _ s;refine Aa (Gy ho hd (by simp) ?_);have hit':(s.heap.update it (Kj (·.setIfInBounds 1 (rawInt ((i:Int)+1))))).IsKeyIter it d (i+1) es.size ep :=
  ⟨_,Es _ ho (Ko (DV hd _)),(KG ..).trans hc,by rw[DV hd];simp[rawInt]⟩
 refine Aa (BS ?_);refine Aa (wpAny_isOneOf_keyiter (s:={s with heap:=s.heap.update it (Kj (·.setIfInBounds 1 (rawInt ((i:Int)+1))))}) hit'.typeIs ?_);show wpAny _ _ (pure es[i].key) _ _ _;refine Ac (Ac ⟨_,rfl,Ac ?_⟩);rw[he];exact hQ _ hit' (CQ ..)
theorem UU{Q:Option Value->Shared->Prop}(hh:A.handled=none)(cI:s.heap.IsKeyIter it d i es.size ep)(hm:Bx s.heap d es ep)(hx:es.size<=i)(hQ:∀h',Heap.ExtBut it s.heap h'->Q none {s with heap:=h'}):wpAny (model prog w) A (pyNext (.ref it)) Q E s:=by
 obtain⟨o,ho,hc,hd⟩:=id cI;obtain⟨od,iU,dh,de⟩:=id hm;unfold pyNext;refine Aa (Ii (wpAny_callSpecial?_slot (name:=Fe "__next__") cI.typeIs F.slot_dict_keyiterator_next
  (BI F.slot_dict_keyiterator_next cI.typeIs F.entry_dict_keyiterator_next ?_ (F.args_dict_keyiterator_next_1 _))))
 refine Aa (Ac (Aa (Aa ?_)))
 first|refine Aa (ID cI.typeIs (Ac ?_))|refine Aa (Iy cI.typeIs (Ac ?_))
 refine Aa (Io ho hd ?_);have dR:NX "dict_keyiterator"=false:=by decide
 simp only[dR,CP,if_false];show wpAny _ _ (if(A4 d==AY)=true then _ else _) _ _ s;rw[if_neg (show ¬((A4 d==AY)=true) from Bp)];refine Aa (Ac (Aa (Gk iU de ?_)));rw[if_neg (by simp)];refine Aa (Ac (Aa (Kd iU de ?_)));rw[if_neg (by simp)];refine Ac ?_;simp only[show ¬((i:Int)<0) from by omega,if_false,Ia,Kq hx];refine Aa ?_
 first|refine Aa (ID cI.typeIs (Ac ?_))|refine Aa (Iy cI.typeIs (Ac ?_))
 show wpAny _ _ (setField (.ref it) 0 .none >>= _) _ _ s;refine Aa (Gy ho hd (by simp) ?_);show wpAny _ _ (newExc (.type "StopIteration") [] >>= _) _ _ _;refine Aa ?_;simp only[newExc,newTuple];refine Aa (B8 ?_ (by size_fits));refine Aa (m:=Im _ _) (wpAny_of_eq (a:=AY) (by first|rfl|(simp only[Im];rfl)) ?_)
 refine B8 ?_ (by size_fits);simp only[raiseNew];refine Aa (wpAny_handled ?_);rw[show A.in1.handled=none from hh];refine Aa (Ac (wpAny_throw ?_));refine Aa (Gu (T:="StopIteration") (b:=true) ⟨_,AI _ rfl,rfl⟩ isSubtype_stop ?_);exact Ac (hQ _ (((CQ ..).extBut.push _).push _))
theorem Wf(hh:A.handled=none)(I d:Addr)(cv:d≠I)(es:Array DictEntry)(ep:Nat):Walks prog w A I [I,d] [I] es.size (λi v=>∃e,es[i]?=some e/\v=e.key) (λi h=>h.IsKeyIter I d i es.size ep/\Bx h d es ep) where
 sub:=λb hb=>by simp at hb;simp[hb]
 frame:=λ_ _ _ st hk=>⟨st.1.at λo e=>hk I (by simp) o e,st.2.at' λo e=>hk d (by simp) o e⟩
 item:=λi s Q E hi st hQ=>by have hx:es[i]?=some es[i]:=IE hi;refine VW st.1 st.2 hx λh' hit' hs'=>?_;exact hQ _ h' s.toks ⟨_,hx,rfl⟩ ⟨hit',st.2.at' λo e=>hs'.extBut d o cv e⟩ λb o hb e=>hs'.extBut b o (λh=>hb (by simp[h])) e
 done:=λs Q E st hQ=>UU hh st.1 st.2 (Ag _) λh' he'=>hQ h' s.toks λb o hb e=>he' b o (λh=>hb (by simp[h])) e
 self:=λ_ _ _ _ st hQ=>wpAny_pyIter_keyiter st.1 hQ
end
end HP
namespace HP
open PySem PySem.Spec PySem.W PySem.Calls PyProof.Rows L2
variable[FX]
section
variable{a r:Addr}{es:Array (Int×Value)}{h:Heap}{ep:Nat}
section
variable{prog:Program}{w:World}{A:Around}{E:Value->Shared->Prop}{s:Shared}
theorem Uz{Q:Bool->Shared->Prop}(hT:s.TypeIs (.ref r) "set")(h:Q false s):wpAny (model prog w) A (NV (.ref r)) Q E s:=by
 unfold NV;refine Aa (E8 hT PySem.F.slot_set_len.lookup ?_);generalize hid:("set.__len__":String)=id0
 wp_delta
 rw[show splitId id0=some ("set","__len__") from by subst hid;decide +kernel];subst hid;refine Aa (Gu (T:="set") (b:=true) hT (by rw[isSubtype_type];kernel_rfl) ?_);refine Eu (λq=>absurd q (by decide)) λ_=>?_;refine Eu (λ_=>?_) (λq=>absurd (by decide +kernel) q);exact Aa (wpAny_typeOf hT (Ac h))
theorem Tj{d:Addr}{es:Array DictEntry}(lo:(d==A8)=false):KdlSrc prog w "dict" d d es.size (λi v=>∃e,es[i]?=some e/\v=e.key) (λh=>Bx h d es ep) where
 type:=λ_ hm=>hm.typeIs
 there:=λ_ hm=>⟨hm.lt,hm.lt⟩
 keep:=λ_ _ hm hk=>hm.at' λo e=>hk d (.inl rfl) o e
 notList:=by decide
 notTuple:=by decide
 hint:=λ_ _ _ _ hm hq=>kdl_hint_dict hm.typeIs hq
 iter:=λ_ _ hh hm=>⟨_,_,(λ_ _ hq=>Ux lo hm hq),Wf hh _ d (Ap hm.lt) es ep,⟨⟨_,AI _ rfl,rfl,rfl⟩,hm.at' λo e=>As _ e⟩⟩
theorem BZ.typeIs{t:SetTable}(x:BZ w s.heap a es ep t):s.TypeIs (.ref a) "set":=let ⟨o,ho,hc,_⟩:=x.obj;⟨o,ho,hc.1⟩
theorem BZ.lt{t:SetTable}(x:BZ w h a es ep t):a<h.objs.size:=let ⟨o,ho,_⟩:=x.obj;Ai ho
theorem UJ{t:SetTable}:KdlSrc prog w "set" a a es.size (λi v=>∃e,(BM w a es ep)[i]?=some e/\v=e.2) (λh=>BZ w h a es ep t) where
 type:=λ_ hm=>hm.typeIs
 there:=λ_ hm=>⟨hm.lt,hm.lt⟩
 keep:=λ_ _ hm hk=>hm.at' λo e=>hk a (.inl rfl) o e
 notList:=by decide
 notTuple:=by decide
 hint:=λ_ _ _ _ hm hq=>Uz hm.typeIs hq
 iter:=λ_ _ hh hm=>⟨_,_,(λ_ _ hq=>Ug hm hq),WA hh _ a (Ap hm.lt) es ep t,⟨0,⟨_,AI _ rfl,rfl,rfl⟩,hm.at' λo e=>As _ e,λ_=>WY hm.tab.rise⟩⟩
theorem Mv{T:String}{d:Addr}{n:Nat}{P:Nat->Value->Prop}{OK:Heap->Prop}{R:List Value->Shared->Prop}(K:KdlSrc prog w T r d n P OK)(hh:A.handled=none)(hok:OK s.heap)(hn:n<=sizeLine)(h:∀(h':Heap) (tk:Nat) (acc:Array Value),(∀b o,s.heap.get? b=some o->h'.get? b=some o)->s.heap.objs.size<h'.objs.size->ItemsOf P acc n->R acc.toList {s with heap:=h',toks:=tk}):wpAny (model prog w) A (collect (.ref r)) R E s:=by
 have bS:=K.there _ hok;unfold collect;refine Aa (wpAny_runValue (DT entry_proto_collect' ?_));rw[Ey NU _];show wpAny _ A.in1 (newList [] >>= λl=>again (.builtin "list.__iadd__" ⟨[l,.ref r],[]⟩)) _ _ s;refine Aa (B8 (Ac ⟨Ij Ir _,DT entry_list_iadd' ?_⟩));rw[Ey Ir _];have kG:(s.heap.push {cls:=.type "list",data:=.seq ([]:List Value).toArray}).get? s.heap.objs.size=some {cls:=.type "list",data:=.seq #[]}:=AI _ rfl;show wpAny _ A.in1 (NT (.ref s.heap.objs.size) (.ref r) (.ref s.heap.objs.size)) _ _ _;refine B7 (kdl_extend (A:=A) (s:={s with heap:=s.heap.push {cls:=.type "list",data:=.seq ([]:List Value).toArray}})
  (R:=λ(q:Result) (s':Shared)=>∃(h':Heap) (tk:Nat) (acc':Array Value) (c':Nat),q=.ok (.ret (.ref s.heap.objs.size))/\s'={s with heap:=h',toks:=tk} /\
   (∀b o,s.heap.get? b=some o->h'.get? b=some o)/\h'.get? s.heap.objs.size=some {cls:=.type "list",dict:=none,data:=.seq acc' c',slots:=#[]}/\ItemsOf P acc' n)
  K hh (K.keep _ _ hok λb _ o e=>As _ e) s.heap.objs.size (Fg bS.1) (Fg bS.2) (.ref s.heap.objs.size) 0 kG
  (λh' tk acc' c' hk hS' bU=>⟨h',tk,acc',c',rfl,rfl,λb o e=>hk b o (Ap (Ai e)) (As _ e),hS',bU⟩) hn) (λck s' x=>?_) λe s' x=>?_
 .have go:∀(h':Heap) (tk:Nat) (acc':Array Value) (c':Nat),(∀b o,s.heap.get? b=some o->h'.get? b=some o)->h'.get? s.heap.objs.size=some {cls:=.type "list",dict:=none,data:=.seq acc' c',slots:=#[]}->ItemsOf P acc' n ->
    wpAny (model prog w) A (load s.heap.objs.size >>= λo=>match o.data with | .seq xs _=>pure xs.toList|_=>unsupported "internal:collect") R E {s with heap:=h',toks:=tk}:=λh' tk acc' c' hk hS' bU =>
   Aa (wpAny_load hS' (Ac (h h' tk acc' hk (Ai hS') bU)))
  cases ck with
  |done f=>obtain⟨h',tk,acc',c',e,rfl,hk,hS',bU⟩:=x;cases e;exact go h' tk acc' c' hk hS' bU
  |again c₁=>refine⟨x.1,Eg x.2 λq s₂ y=>?_⟩;obtain⟨h',tk,acc',c',rfl,rfl,hk,hS',bU⟩:=y;exact go h' tk acc' c' hk hS' bU
 .obtain⟨_,_,_,_,e',_⟩:=x
  cases e'
end
inductive DZ(K:Ad)(F H:J)(p:Addr):List PyData->Prop where
 |lst {ds:List PyData} {vs:List V} (h:cm K H p vs) (r:Zt K F ds vs):DZ K F H p ds
 |tup {ds:List PyData} {vs:List V} (h:cE K H p vs) (r:Zt K F ds vs):DZ K F H p ds
 |dk {kvs:List (bO×V)} (h:H p=some (.dK kvs)):DZ K F H p (kvs.map λq=>HM.Ce q.1)
 |dt {kvs:List (List bO×V)} (h:H p=some (.dT kvs)):DZ K F H p (kvs.map λq=>.tuple (q.1.map HM.Ce))
theorem UY{K:Ad}{F:J}(k:bO):bL K F (HM.Ce k) (kV k):=by
 cases k with
 |inl i=>exact .int i
 |inr x=>exact .str x
theorem Ms{K:Ad}{F:J}:∀(ks:List bO),Zt K F (ks.map HM.Ce) (ks.map kV)
 |[]=>.nil
 |k::ks=>.cons (UY k) (Ms ks)
theorem T3{P:Program}{w:World}{k:bO}{u:Value}(h:(Bh P w).is k u=true):RelV (kV k) u:=by
 rw[WV]at h;rcases Dl h with⟨i,t,rfl,rfl⟩|⟨x,t,rfl,rfl⟩
 .exact⟨t,rfl⟩
 .exact⟨t,rfl⟩
section
variable{X:Cx}{bE:List (Addr×Obj)}{Y:L2.St}{H F:J}{s:Shared}{p:Addr}{ds:List PyData}
theorem G4:∀{vs:List V} {us:List Value},vs.length=us.length->(∀(i:Nat) v u,vs[i]?=some v->us[i]?=some u->RelV v u)->bG vs us
 |[],[],_,_=>.nil
 |[],_::_,h,_=>by simp at h
 |_::_,[],h,_=>by simp at h
 |v::vs,u::us,h,k=>.cons (k 0 v u rfl rfl) (G4 (by simpa using h) λi a b e1 e2=>k (i+1) a b (by simpa using e1) (by simpa using e2))
theorem DZ.gath(I:Inv X bE Y H s)(sub:Zp F H)(h:DZ X.K F H p ds):∃vs,Zt X.K (AN F H) ds vs/\∀(A:Around) (E:Value->Shared->Prop) (R:List Value->Shared->Prop),A.handled=none ->(∀us h' tk,bG vs us->(∀b o,s.heap.get? b=some o->h'.get? b=some o)->R us {s with heap:=h',toks:=tk})->wpAny (model X.prog X.w) A (collect (.ref p)) R E s:=by
 cases h with
 | @lst _ vs h r=>obtain⟨its,rv,pl,hz⟩:=I.list h;obtain⟨o,ho,cL,n,hd⟩:=pl.isList;refine⟨vs,r.mono (Cd sub),λA E R _ k=>wpAny_collect_seq p (.inl rfl) ho cL hd (λh' kp=>?_) (by rw[Au,<-rv.length];exact hz)⟩;exact k its h' s.toks rv kp
 | @tup _ vs h r=>obtain⟨its,rv,pl,hz⟩:=I.tuple h;obtain⟨o,ho,cL,n,hd⟩:=pl;refine⟨vs,r.mono (Cd sub),λA E R _ k=>wpAny_collect_seq p (.inr rfl) ho cL hd (λh' kp=>?_) (by rw[Au,<-rv.length];exact hz)⟩;exact k its h' s.toks rv kp
 | @dk kvs h =>
  obtain⟨z,lo,vs,cR,dd⟩:=K8 I.hok h;obtain⟨ep,kC⟩:=dd.dictAt;have hl:kvs.length=vs.length:=Ei cR;refine⟨kvs.map λq=>kV q.1,?_,λA E R hh k=>Mv (kdl_dict (knd:=Bh X.prog X.w) (kvs:=vs) (ep:=ep) lo) hh kC (by omega) λh' tk acc kp hsz bU=>k _ h' tk ?_ kp⟩
  .have:=Ms (K:=X.K) (F:=AN F H) (kvs.map (·.1))
   rw[AG,AG]at this;exact this
  .refine G4 (by have q:acc.toList.length=acc.size:=Ba;rw[Ae,q,bU.1,hl]) λi v u e1 e2=>?_
   obtain⟨kk,x,q1,q2⟩:=bU.2 i u (by rw[<-Dw];exact e2);rw[A9]at e1;obtain⟨q,e3,e4⟩:=Aj.mp e1;subst e4;have key:∀{l:List (bO×V)} {m:List (bO×Value)},KV l m->∀(i:Nat) a b,l[i]?=some a->m[i]?=some b->a.1=b.1:=by
    intro l m r
    induction r with
    |nil=>intro i a b e;simp at e
    |cons hq _ ih =>
     intro i a b e1 e2;cases i with
     |zero=>simp at e1 e2;subst e1;subst e2;exact hq.1
     |succ i=>exact ih i a b (by simpa using e1) (by simpa using e2)
   have ek:=key cR i q (kk,x) e3 q1;rw[ek];exact T3 q2
 | @dt kvs h =>
  obtain⟨z,lo,xs,cR,o,es,ep,h1,h2,h3,h4,h5⟩:=(show ZU X.prog X.w H s.heap p (.dT kvs) from I.hok p _ h);have hl:kvs.length=xs.length:=Ei cR;have jL:es.size=xs.length:=by rw[<-Ba,h4,Ae]
  have hm:Bx s.heap p es ep:=⟨o,h1,h2,h3⟩;refine⟨xs.map λq=>V.ref q.2.1,?_,λA E R hh k=>Mv (Tj (es:=es) (ep:=ep) lo) hh hm (by omega) λh' tk acc kp hsz bU=>k _ h' tk ?_ kp⟩
  .clear h4 jL hl z h h5
   induction cR with
   |nil=>exact .nil
   | @cons p0 _ _ _ hq _ ih=>obtain⟨q1,q2,_⟩:=hq;rw[Ao,Ao];refine .cons ?_ ih;have rk:=Ms (K:=X.K) (F:=AN F H) p0.1;exact .tup (VM q2) rk.1 rk.2
  .refine G4 (by have q:acc.toList.length=acc.size:=Ba;rw[Ae,q,bU.1,jL]) λi v u e1 e2=>?_
   obtain⟨e,q1,q2⟩:=bU.2 i u (by rw[<-Dw];exact e2);subst q2;rw[A9]at e1;obtain⟨q,e3,e4⟩:=Aj.mp e1;subst e4;rw[<-Dw,h4,A9,e3]at q1;cases q1;rfl
theorem Ea{K:Ad}{F:J}:∀{ds:List PyData} {vs:List V} {ns:List Int},HM.Bz ds=some ns->Zt K F ds vs->vs=ns.map V.int
 |[],vs,ns,h,r=>by cases h;exact r.nil_inv
 |d::ds,vs,ns,h,r=>by
  obtain⟨v,us,rfl,r1,r2⟩:=r.cons_inv;cases d with
  |int b=>obtain⟨bs',h1,h2⟩:=Aj.mp h;subst h2;rw[r1.int_inv,Ea h1 r2];rfl
  |none=>cases h
  |bool _=>cases h
  |str _=>cases h
  |list _=>cases h
  |tuple _=>cases h
  |dict _=>cases h
theorem LA:∀(t:List Int),HM.Bz (HM.dB t)=some t
 |[]=>rfl
 |x::t=>by show(HM.Bz (HM.dB t)).map (x::·)=_;rw[LA t];rfl
theorem LR:∀{ds:List PyData} {ns:List Int},HM.Bz ds=some ns->ds=HM.dB ns
 |[],ns,h=>by cases h;rfl
 |d::ds,ns,h=>by
  cases d with
  |int b=>obtain⟨bs',h1,h2⟩:=Aj.mp h;subst h2;rw[LR h1];rfl
  |none=>cases h
  |bool _=>cases h
  |str _=>cases h
  |list _=>cases h
  |tuple _=>cases h
  |dict _=>cases h
theorem Hj{K:Ad}{F:J}:∀(ns:List Int),Zt K F (HM.dB ns) (ns.map V.int)
 |[]=>.nil
 |n::ns=>.cons (.int n) (Hj ns)
theorem Hm:∀{ns:List Int} {us:List Value},bG (ns.map V.int) us->IntsAre us ns
 |[],_,r=>by rw[Ff]at r;cases r;exact .nil
 |n::ns,_,r=>by
  rw[Ao]at r;cases r with
  |cons h t=>obtain⟨u,rfl⟩:=h;exact .cons n u (Hm t)
theorem MR:∀{us:List Value} {ns:List Int},IntsAre us ns->bG (ns.map V.int) us
 |_,_,.nil=>.nil
 |_,_,.cons n t h=>.cons ⟨t,rfl⟩ (MR h)
theorem L7:∀{ds:List PyData} {ts:List (List Int)},HM.FI ds=some ts->ds=HM.Y3 ts
 |[],ts,h=>by cases h;rfl
 |d::ds,ts,h=>by
  cases d with
  |tuple es =>
   unfold HM.FI at h;split at h
   .rename_i ns hn
    obtain⟨r',h1,h2⟩:=Aj.mp h;subst h2;rw[LR hn,L7 h1];rfl
   .cases h
  |none=>cases h
  |bool _=>cases h
  |int _=>cases h
  |str _=>cases h
  |list _=>cases h
  |dict _=>cases h
theorem PK{ns ms:List Int}(h:ms.Perm ns)(hs:ms.Pairwise (·<=·)):ms=HM.sortI ns:=by refine MF (R:=(·<=·)) (λa b h1 h2=>by omega) (h.trans (Kz ns _).symm) hs ?_;have:=KU (le:=λa b:Int=>decide (a<=b)) (λa b c h1 h2=>by simp at *;omega) (λa b=>by simp;omega) ns;exact this.imp λh=>by simpa using h
theorem VA{ts us:List (List Int)}(h:us.Perm ts)(hs:us.Pairwise (λx y=>HM.lexLt y x=false)):us=HM.WS ts:=by
 refine MF (R:=λx y=>HM.lexLt y x=false) (λa b h1 h2=>Mk a b h2 h1) (h.trans (Kz ts _).symm) hs ?_;have:=KU (le:=λa b:List Int=>!HM.lexLt b a) (λa b c h1 h2=>by
  simp only[Bool.not_eq_true']at *;cases q:HM.lexLt c a with
  |false=>rfl
  |true =>
   rcases LI c b a q with z|z
   .rw[h2]at z;cases z
   .rw[h1]at z;cases z) (λa b=>by
  cases q:HM.lexLt b a with
  |false=>simp
  |true =>
   cases q2:HM.lexLt a b with
   |false=>simp
   |true=>have:=cP _ _ _ q q2;rw[cC]at this;cases this) ts
 exact this.imp λh=>by simpa using h
theorem QD{vs:List Value}{out:Array Value}{b:Addr}{o:Obj}(hb:b≠a)(e:h.get? b=some o):(Ge h a vs out).get? b=some o:=by rw[sortedHeap_old hb (Ai e)];exact e
theorem XM(hc:X.calm=true):AJ X (.builtin "sorted") (λxs H Q=>∃p F ds ds',xs=[.ref p]/\Zp F H/\DZ X.K F H p ds/\HM.G9 ds=some ds'/\∀l ws,H l=none->Zt X.K (AN F H) ds' ws->Q (.ref l) (upd H l (.lst ws))):=by
 intro bE s Y H xs us Q I r h;obtain⟨p,F,ds,ds',rfl,sub,kU,cw,q⟩:=h;obtain⟨u,rfl,rx⟩:=vals1 r;cases rx;obtain⟨vs,rv,go⟩:=kU.gath I sub;unfold HM.G9 at cw;split at cw
 .rename_i jP
  have ki:=rv.1;refine KR kind_sorted plain_sorted entry_sorted (args_sorted1 _) ?_;unfold Builtin.«sorted»;refine Aa (m:=checkCount "sorted" 1 1 _) (Ac ?_);refine Aa (go _ _ _ (I.ok.hd hc) λus h' tk ru kp=>?_);have ng:=ru.length;refine Aa (wpAny_newList ?_ (by rw[Bo];omega));have fj:(h'.push (seqObj "list" us.toArray 0)).get? h'.objs.size=some (seqObj "list" us.toArray 0):=AI _ rfl;have ck:∀(out:Array Value) (ws:List V),bG ws out.toList->Zt X.K (AN F H) ds' ws->ws.length<64->EP X bE Y Q (.ref h'.objs.size) {s with heap:=Ge (h'.push (seqObj "list" us.toArray 0)) h'.objs.size us out,toks:=tk}:=λout ws rw' rd hw=>by obtain⟨e,he⟩:=sortedHeap_at (out:=out) fj;have I1:Inv X bE Y H {s with heap:=h',toks:=tk}:=I.kept kp;refine⟨.ref h'.objs.size,_,I1.laid (a:=h'.objs.size) (o:=.lst ws) (t':=tk) (λb o e1=>?_) (Ag _) ⟨by rw[Bo];omega,out.toList,e,rw',by simpa using he⟩,rfl,q _ ws (I1.hok.fresh (Ag _)) rd⟩;exact QD (Ap (Ai e1)) (As _ e1)
  show wpAny _ _ _ _ _ {s with heap:=h'.push (seqObj "list" us.toArray 0),toks:=tk};split at cw
  .rename_i ns cD
   cases cw;have n8:=Ea cD rv;rw[n8]at ru;have hI:=Hm ru;refine Aa (BS (BI slot_list_sort ⟨_,fj,rfl⟩ Kc (list_sort_tree fj hI (by omega) λout ns' a1 a2 a3=>⟨_,rfl,?_⟩) (args_list_sort _)));refine Ac ⟨_,rfl,?_⟩;have e:=PK a2 a3;have hl:ns'.length<64:=by rw[a2.length_eq,<-hI.length,<-ng];omega
   refine ck out (ns'.map V.int) (MR a1) ?_ (by rw[Ae];exact hl);rw[<-e];exact Hj ns'
  .split at cw
   .rename_i ts ni
    split at cw
    .rename_i cv
     cases cw;have kH:=L7 ni;have hT:∀(i:Nat) t,ts[i]?=some t->∃b,us[i]?=some (.ref b)/\TI (h'.push (seqObj "list" us.toArray 0)) b t:=λi t e=>by
      have ed:ds[i]?=some (.tuple (HM.dB t)):=by rw[kH];unfold HM.Y3;rw[A9,e];rfl
      obtain⟨v,hv,rp⟩:=rv.get ed;generalize hq:HM.dB t=q at rp;cases rp with
      | @tupk b x h1 =>
       exfalso;cases t with
       |nil=>cases hq
       |cons a t =>
        injection hq with e1 _
        cases e1
      | @tup b _ xs hb hl hr=>subst hq;obtain⟨u,hu,ru'⟩:=ru.get hv;cases ru';have ev:=Ea (F:=AN F H) (LA t) ⟨hl,hr⟩;subst ev;have hH:H b=some (.tup (t.map V.int)):=(bP.refl sub).tups.sub _ _ hb;obtain⟨z,its,rt,o,h1,h2,n,h3⟩:=(show ZU X.prog X.w H s.heap b (.tup (t.map V.int)) from I.hok b _ hH);exact⟨b,hu,o,its.toArray,n,As _ (kp b o h1),h2,h3,by simpa using Hm rt⟩
     have bS:ts.length=us.length:=by have:=congrArg Bb kH;unfold HM.Y3 at this;rw[Ae]at this;omega
     refine Aa (BS (BI slot_list_sort ⟨_,fj,rfl⟩ Kc (Uj fj bS hT ?_ (by omega) λpm hp hs=>⟨_,rfl,?_⟩) (args_list_sort _)))
     .rw[Fb]at cv
      rcases cv with z|z
      .left
       have:=of_decide_eq_true z;omega
      .right
       intro t ht e;have:=BW.mp z t ht;rw[e]at this;cases this
     .refine Ac ⟨_,rfl,?_⟩
      have hpl:pm.length=us.length:=by rw[hp.length_eq,AB]
      have gr:∀i∈pm,i<us.length:=λi hi=>Am.mp (hp.mem_iff.mp hi);have e:(pm.map λi=>ts.getD i [])=HM.WS ts:=by
       refine VA ?_ hs;refine(hp.map _).trans ?_;have:(Ab us.length).map (λi=>ts.getD i [])=ts:=by refine List.ext_getElem (by simp[bS]) λi h1 h2=>?_;simp at h1;simp[Dq,show i<ts.length by omega]
       rw[this]
      refine ck _ (pm.map λi=>vs.getD i V.non) ?_ ?_ (by rw[Ae];omega)
      .refine G4 (by simp) λk v u e1 e2=>?_
       rw[A9]at e1;rw[List.toList_toArray,A9]at e2;obtain⟨i,hi,rfl⟩:=Aj.mp e1;rw[hi]at e2;cases e2;have hlt':=gr i (DR hi);have hv:vs[i]?=some (vs.getD i V.non):=by simp[Dq,show i<vs.length by omega]
       obtain⟨u,hu,ru'⟩:=ru.get hv;have:us.getD i AY=u:=by simp[Dq,hu]
       show RelV _ (us.getD i AY);rw[this];exact ru'
      .rw[<-e]
       refine⟨by unfold HM.Y3;simp,λk d v e1 e2=>?_⟩;unfold HM.Y3 at e1;rw[A9,A9]at e1;rw[A9]at e2;obtain⟨i,hi,rfl⟩:=Aj.mp e2;rw[hi]at e1;have hlt':=gr i (DR hi);have hd:ds[i]?=some d:=by
        rw[kH];unfold HM.Y3;rw[A9];have:ts[i]?=some (ts.getD i []):=by simp[Dq,show i<ts.length by omega]
        rw[this];exact e1
       have hv:vs[i]?=some (vs.getD i V.non):=by simp[Dq,show i<vs.length by omega]
       exact rv.2 i d _ hd hv
    .cases cw
   .cases cw
 .cases cw
end
end
section
variable{F:J}{p' pos':Pos}{K:Ad}
section
variable{prog:Program}{w:World}{A:Around}{E:Value->Shared->Prop}{s:Shared}
theorem YB{r:Addr}{a b c:Int}{t u v:Tok}{n:Nat}{R:List Value->Shared->Prop}(hh:A.handled=none)(hr:IsRange s.heap r a b c t u v)(eu:NJ a b c=true)(hn:Iv a b c=n)(bK:n<=2 ^ 24)(h:∀(h':Heap) (tk:Nat) (acc:Array Value),(∀b o,s.heap.get? b=some o->h'.get? b=some o)->ItemsOf (λi v=>∃t,v=.int (a+i*c) t) acc n->R acc.toList {s with heap:=h',toks:=tk}):wpAny (model prog w) A (collect (.ref r)) R E s:=by
 unfold collect;refine Aa (wpAny_runValue (DT entry_proto_collect' ?_));rw[Ey NU _];show wpAny _ A.in1 (newList [] >>= λl=>again (.builtin "list.__iadd__" ⟨[l,.ref r],[]⟩)) _ _ s;refine Aa (B8 (Ac ⟨Ij Ir _,DT entry_list_iadd' ?_⟩));rw[Ey Ir _];have kG:(s.heap.push {cls:=.type "list",data:=.seq ([]:List Value).toArray}).get? s.heap.objs.size=some {cls:=.type "list",data:=.seq #[]}:=AI _ rfl;show wpAny _ A.in1 (NT (.ref s.heap.objs.size) (.ref r) (.ref s.heap.objs.size)) _ _ _;have nr:IsRange (s.heap.push {cls:=.type "list",data:=.seq ([]:List Value).toArray}) r a b c t u v:=As _ hr;refine B7 (wpAny_extend_range (A:=A) (s:={s with heap:=s.heap.push {cls:=.type "list",data:=.seq ([]:List Value).toArray}})
  (R:=λ(q:Result) (s':Shared)=>∃(h':Heap) (tk:Nat) (acc':Array Value) (c':Nat),q=.ok (.ret (.ref s.heap.objs.size))/\s'={s with heap:=h',toks:=tk} /\
   (∀b o,s.heap.get? b=some o->h'.get? b=some o)/\h'.get? s.heap.objs.size=some {cls:=.type "list",dict:=none,data:=.seq acc' c',slots:=#[]}/\ItemsOf (λi v=>∃t,v=.int (a+i*c) t) acc' n)
  hh nr eu hn bK s.heap.objs.size (.ref s.heap.objs.size) 0 kG
  (λh' tk acc' c' hk hS' bU=>⟨h',tk,acc',c',rfl,rfl,λb o e=>hk b o (Ap (Ai e)) (As _ e),hS',bU⟩)) (λck s' x=>?_) λe s' x=>?_
 .have go:∀(h':Heap) (tk:Nat) (acc':Array Value) (c':Nat),(∀b o,s.heap.get? b=some o->h'.get? b=some o)->h'.get? s.heap.objs.size=some {cls:=.type "list",dict:=none,data:=.seq acc' c',slots:=#[]}->ItemsOf (λi v=>∃t,v=.int (a+i*c) t) acc' n ->
    wpAny (model prog w) A (load s.heap.objs.size >>= λo=>match o.data with | .seq xs _=>pure xs.toList|_=>unsupported "internal:collect") R E {s with heap:=h',toks:=tk}:=λh' tk acc' c' hk hS' bU =>
   Aa (wpAny_load hS' (Ac (h h' tk acc' hk bU)))
  cases ck with
  |done f=>obtain⟨h',tk,acc',c',e,rfl,hk,hS',bU⟩:=x;cases e;exact go h' tk acc' c' hk hS' bU
  |again c₁=>refine⟨x.1,Eg x.2 λq s₂ y=>?_⟩;obtain⟨h',tk,acc',c',rfl,rfl,hk,hS',bU⟩:=y;exact go h' tk acc' c' hk hS' bU
 .obtain⟨_,_,_,_,e',_⟩:=x
  cases e'
end
theorem Y1(r:Addr)(a b c:Int)(t u v:Tok)(n:Nat)(eu:NJ a b c=true)(hn:Iv a b c=n)(bK:n<=2 ^ 24):Meets (Builtin.«tuple.__new__» ⟨[.type "tuple",.ref r],[]⟩)
   (λA R s=>A.handled=none/\IsRange s.heap r a b c t u v/\∀(h':Heap) (tk:Nat) (acc:Array Value),(∀b o',s.heap.get? b=some o'->h'.get? b=some o')->ItemsOf (λi v=>∃t,v=.int (a+i*c) t) acc n ->
    R (.ok (.ret (.ref h'.objs.size))) {s with heap:=h'.push {cls:=.type "tuple",data:=.seq acc},toks:=tk}) :=
 .of_wp λprog w A R s h=>by
  obtain⟨hp,g,d,tk,os⟩:=s;obtain⟨hh,ht,h⟩:=h;have en:=PySem.sub_tuple_self;have mE:=PySem.init_tuple_lookup;have hmh:=PySem.madeHere_tuple;have hT:Shared.TypeIs ⟨hp,g,d,tk,os⟩ (.ref r) "range":=⟨_,ht,rfl⟩;have nK:A.in1.handled=none:=hh
  wp_walk using wpAny_typeOf hT,YB nK ht eu hn bK
  intro h' tk' acc hk bU;show wpAny _ _ (Iw acc.toList.toArray >>= λv=>ret v) _ _ _;unfold Iw;have e:acc.toList.toArray=acc:=by simp
  rw[e];refine Aa (B8 ?_ (by show acc.size<=sizeLine;rw[bU.1,Bo];omega));exact Ac ⟨_,rfl,h h' tk' acc hk bU⟩
section
variable{X:Cx}{a b c e:Expr}{fa fb fc:HM.EF}{pos p:Pos}{f:HM.BF}
theorem Xm:AJ X (.type "range") (λxs H Q=>∃j,xs=[.int j]/\∀l,H l=none->Q (.ref l) (upd H l (.rng 0 j))):=by intro bE s Y H xs us Q I r h;obtain⟨j,rfl,q⟩:=h;obtain⟨u,rfl,rx⟩:=vals1 r;obtain⟨t,rfl⟩:=rx;refine call_range_1 ⟨.ref s.heap.objs.size,_,I.laid (a:=s.heap.objs.size) (o:=.rng 0 j) (λb o e=>As _ e) (Ag _) ?_,rfl,q _ (I.hok.fresh (Ag _))⟩;exact⟨_,_,_,AI _ rfl⟩
theorem Xy(hc:X.calm=true):AJ X (.type "tuple") (λxs H Q=>∃p lo hi,xs=[.ref p]/\H p=some (.rng lo hi)/\-1000000<lo/\lo<1000000/\-1000000<hi/\hi<1000000 /\
  ∀l,H l=none->Q (.ref l) (upd H l (.tup ((Ab (hi-lo).toNat).map λ(k:Nat)=>V.int (lo+k))))):=by
 intro bE s Y H xs us Q I r h;obtain⟨p,lo,hi,rfl,hp,h1,h2,h3,h4,q⟩:=h;obtain⟨u,rfl,rx⟩:=vals1 r;cases rx;obtain⟨t,u,v,ho⟩:=(show ZU X.prog X.w H s.heap p (.rng lo hi) from I.hok p _ hp);have hn:Iv lo hi 1=((hi-lo).toNat:Nat):=by rw[rangeSize_one];split<;>omega
 refine callType_new PySem.F.called_tuple (by decide) (PySem.F.typeCall_tuple_1 _) (PySem.F.newCall_tuple_1 _) (λobj=>PySem.F.args_object_init_2 obj _) PySem.F.entry_tuple_new
  (Y1 p lo hi 1 t u v (hi-lo).toNat (small_one (by omega) (by omega) (by omega) (by omega)) hn (by omega)) ⟨I.ok.hd hc,ho,λh' tk' acc kp bU=>⟨⟨_,AI _ rfl,rfl⟩,?_⟩⟩
 have I1:Inv X bE Y H {s with heap:=h',toks:=tk'}:=I.kept kp;have rv:bG ((Ab (hi-lo).toNat).map λ(k:Nat)=>V.int (lo+k)) acc.toList:=by
  refine G4 (by have z:acc.toList.length=acc.size:=Ba;rw[Ae,AB,z,bU.1]) λi v u e1 e2=>?_;rw[A9]at e1;obtain⟨k,hk,rfl⟩:=Aj.mp e1;obtain⟨t,rfl⟩:=bU.2 i u (by rw[<-Dw];exact e2);have:k=i:=by have:=AO.mp hk;obtain⟨_,e⟩:=this;simpa using e.symm
  subst this;exact⟨t,by simp⟩
 have I2:=I1.laid (a:=h'.objs.size) (o:=.tup ((Ab (hi-lo).toNat).map λ(k:Nat)=>V.int (lo+k))) (h':=h'.push {cls:=.type "tuple",data:=.seq acc}) (t':=tk') (λb o e=>As _ e) (Ag _)
  ⟨by rw[Ae,AB,Bo];omega,acc.toList,rv,by simpa using IsTup.new _ _⟩
 exact⟨.ref h'.objs.size,_,I2,rfl,q _ (I1.hok.fresh (Ag _))⟩
theorem Xx(lo:Int)(n:Nat):Zt K F (HM.Eb lo n) ((Ab n).map λ(k:Nat)=>V.int (lo+k)):=by unfold HM.Eb;refine⟨by simp,λi d v e1 e2=>?_⟩;rw[A9]at e1 e2;obtain⟨k,hk,rfl⟩:=Aj.mp e1;rw[hk]at e2;cases e2;exact .int _
theorem Xg(nC:X.mg "tuple"=none)(hm:X.mg "range"=none)(hc:X.calm=true)(ha:XE X a fa)(iY:Gl X "tuple":=by rfl)(hg:Gl X "range":=by rfl)(hs:Af [a] X.env=[(false,eval a X.env)]:=by rfl)(cY:Af [Bu (.Name "range" p') [a] [] pos'] X.env=[(false,eval (Bu (.Name "range" p') [a] [] pos') X.env)]:=by rfl):XE X (.Call (.Name "tuple" p) [.Call (.Name "range" p') [a] [] pos'] [] pos) (HM.YU (HM.ZH fa)):=by
 intro r d hd;unfold HM.YU at hd;split at hd
 .rename_i ds cf
  split at hd
  .cases hd
   unfold HM.ZH at cf;split at cf
   .rename_i j hj
    split at cf
    .rename_i hok
     cases cf;obtain⟨k1,k2⟩:=Jn hok;refine PE.imp (EW (Xy hc) iY nC LY (Z4 (EW Xm hg hm boot_range (Z4 (ha r _ hj) BR hs) (he:=hs)) BR cY) (he:=cY)) λY H Q ⟨F0,H0,F,at_,k⟩=>?_;refine⟨F0,H0,F,at_,λv F1 H1 x1 r1=>⟨j,by rw[r1.int_inv],λl hl=>?_⟩⟩;refine⟨l,0,j,rfl,Zz,by omega,by omega,by omega,by omega,λl2 fX=>?_⟩;have x2:=x1.lay' (o:=.rng 0 j) hl;have x3:=x2.lay (o:=.tup ((Ab (j-0).toNat).map λ(k:Nat)=>V.int (0+k))) fX;have rp:=Xx (K:=X.K) (F:=upd F1 l2 (.tup ((Ab (j-0).toNat).map λ(k:Nat)=>V.int (0+k)))) 0 j.toNat;have ej:(j-0).toNat=j.toNat:=by omega
     refine k _ _ _ x3 (.tup Zz ?_ ?_)
     .rw[ej];exact rp.1
     .rw[ej]at rp ⊢;exact rp.2
    .cases cf
   .cases cf
  .cases hd
 .cases hd
theorem VY{H:J}{q:HM.B}{v:V}{fp:List Addr}{ds:List PyData}(sub:Zp F H)(r:ZZ K F H q v fp)(h:HM.US q=some ds):∃a,v=.ref a/\DZ K F H a ds:=by
 cases r with
 |pl r =>
  cases r with
  |tup h1 h2 h3=>cases h;exact⟨_,rfl,.tup (.of (sub _ _ h1)) ⟨h2,h3⟩⟩
  | @tupk a x h1=>cases h;exact⟨_,rfl,.tup (.inr h1) (.one (.str x))⟩
  |lst h1 h2 h3=>cases h;exact⟨_,rfl,.lst (sub.seq h1) ⟨h2,h3⟩⟩
  |dct _ _ _ _=>cases h
  |fn _=>cases h
  |non=>cases h
  |bl _=>cases h
  |int _=>cases h
  |str _=>cases h
 |ol h1 r=>cases h;exact⟨_,rfl,.lst (.of h1) r⟩
 |hd _ _ _ _=>cases h
 |hf _=>cases h
 | @ok a kvs vvs h1 h2 h3 =>
  cases h;refine⟨_,rfl,?_⟩;have e:(kvs.map λp=>HM.Ce p.1)=vvs.map λp=>HM.Ce p.1:=by
   have:=congrArg (F5 HM.Ce) h2
   rwa [AG,AG]at this
  rw[e];exact .dk h1
 | @ot a kvs vvs h1 h2 h3 =>
  cases h;refine⟨_,rfl,?_⟩;have e:(kvs.map λp=>CT (p.1.map HM.Ce))=vvs.map λp=>CT (p.1.map HM.Ce):=by
   have:=congrArg (F5 λk:List bO=>CT (k.map HM.Ce)) h2
   rwa [AG,AG]at this
  rw[e];exact .dt h1
 | @otl a kvs vvs ls h1 h2 h3 h4 =>
  cases h;refine⟨_,rfl,?_⟩;have e:(kvs.map λp=>CT (p.1.map HM.Ce))=vvs.map λp=>CT (p.1.map HM.Ce):=by
   have:=congrArg (F5 λk:List bO=>CT (k.map HM.Ce)) h2
   rwa [AG,AG]at this
  rw[e];exact .dt h1
theorem W0(hm:X.mg "sorted"=none)(hc:X.calm=true)(ha:XB X a f)(hg:Gl X "sorted":=by rfl)(hs:Af [a] X.env=[(false,eval a X.env)]:=by rfl):XF X (.Call (.Name "sorted" p) [a] [] pos) (HM.YI f):=by
 intro r d h;unfold HM.YI at h;split at h
 .rename_i x hx
  split at h
  .rename_i ds cf
   obtain⟨ds',h1,h2⟩:=Aj.mp h;subst h2;refine PE.imp (DF (XM hc) hg hm P5 (EG ha hx hs) (he:=hs)) λY H Q ⟨F0,H0,F,at_,k⟩=>?_;refine⟨F0,H0,F,at_,λv fp F1 H1 x1 r1=>?_⟩;obtain⟨l,e1,mJ⟩:=VY x1.sub r1 cf;subst e1;exact⟨l,F1,ds,ds',rfl,x1.sub,mJ,h1,λl' ws hl' rs=>FO (P:=λv _ H'=>Q v H') x1.tups rs hl' k⟩
  .cases h
 .cases h
theorem VX(hc:X.calm=true):AJ X (.type "set") (λxs H Q=>∃p ns,xs=[.ref p]/\cm X.K H p (ns.map V.int)/\(∀n∈ns,0<=n/\n<8)/\∀l,H l=none->Q (.ref l) (upd H l (.ext λh=>Bv X.prog X.w h l (HM.cx [] ns)))):=by intro bE s Y H xs us Q I r h;obtain⟨p,ns,rfl,hq,hb,q⟩:=h;obtain⟨u,rfl,rx⟩:=vals1 r;cases rx;obtain⟨its,rv,pl,hz⟩:=I.list hq;refine Wn (I.ok.hd hc) pl.isList (by simpa using Hm rv) hb λh' tk hS kp=>?_;have hS':=hS;obtain⟨o,es,ep,t,ho,_⟩:=hS';refine⟨.ref s.heap.objs.size,_,I.laid (a:=s.heap.objs.size) (o:=.ext λh=>Bv X.prog X.w h s.heap.objs.size (HM.cx [] ns)) (λb o e=>kp b o (Ai e) e) (Ag _) ?_,rfl,q _ (I.hok.fresh (Ag _))⟩;exact⟨hS,⟨o,ho⟩,λh1 h2 x kk=>x.at' kk⟩
theorem XR(hc:X.calm=true):AJ X (.builtin "sorted") (λxs H Q=>∃p L,xs=[.ref p]/\H p=some (.ext λh=>Bv X.prog X.w h p L)/\∀l,H l=none->Q (.ref l) (upd H l (.lst ((HM.sortI L).map V.int)))):=by
 intro bE s Y H xs us Q I r h;obtain⟨p,L,rfl,hp,q⟩:=h;obtain⟨u,rfl,rx⟩:=vals1 r;cases rx;obtain⟨hX,_,_⟩:=(show ZU X.prog X.w H s.heap p (.ext λh=>Bv X.prog X.w h p L) from I.hok p _ hp);obtain⟨o,es,ep,t,ho,eT,hd,g8,iu,hpl,ht⟩:=hX;have hsz:=eG hpl;have c5:=ht.few;have mP:BZ X.w s.heap p es ep t:=⟨⟨o,ho,eT,hd⟩,by rw[hsz];exact ht.fits,hsz,ht.w⟩;refine KR kind_sorted plain_sorted entry_sorted (args_sorted1 _) ?_;unfold Builtin.«sorted»;refine Aa (m:=checkCount "sorted" 1 1 _) (Ac ?_);refine Aa (Mv (UJ (es:=es) (ep:=ep) (t:=t)) (I.ok.hd hc) mP (by rw[Bo];omega) λh' tk acc kp _ bU=>?_);have eU:acc.toList.length=es.size:=by rw[Ba];exact bU.1
 have hI:IntsAre acc.toList ((BM X.w p es ep).toList.map BX):=by
  have key:∀(us:List Value) (xs:List (Int×Value)),us.length=xs.length->(∀(i:Nat) u,us[i]?=some u->∃e,xs[i]?=some e/\u=e.2)->(∀e∈xs,∃n t,e=((intKind X.prog X.w).hash n,BU n t))->IntsAre us (xs.map BX):=by
   intro us
   induction us with
   |nil=>intro xs hl _ _;cases xs with|nil=>exact .nil|cons _ _=>simp at hl
   |cons u us ih =>
    intro xs hl hk he;cases xs with
    |nil=>simp at hl
    |cons x xs=>obtain⟨e,e1,e2⟩:=hk 0 u rfl;simp at e1;subst e1;obtain⟨n,t,e3⟩:=he x (An ..);rw[e2,e3];exact .cons n t (ih xs (by simpa using hl) (λi u e=>hk (i+1) u (by simpa using e)) λe h=>he e (Aq _ h))
  refine key acc.toList (BM X.w p es ep).toList (by rw[eU,Ba,Mh]) (λi u e=>?_) λe h=>g8 e ((Mi X.w p es ep).mem_iff.mp h);obtain⟨e',e1,e2⟩:=bU.2 i u (by rw[<-Dw];exact e);exact⟨e',by rw[Dw];exact e1,e2⟩
 refine Aa (wpAny_newList ?_ (by rw[eU,Bo];omega));have fj:(h'.push (seqObj "list" acc.toList.toArray 0)).get? h'.objs.size=some (seqObj "list" acc.toList.toArray 0):=AI _ rfl;show wpAny _ _ _ _ _ {s with heap:=h'.push (seqObj "list" acc.toList.toArray 0),toks:=tk};refine Aa (BS (BI slot_list_sort ⟨_,fj,rfl⟩ Kc (list_sort_tree fj hI (by omega) λout ns' a1 a2 a3=>⟨_,rfl,?_⟩) (args_list_sort _)));refine Ac ⟨_,rfl,?_⟩;have e:ns'=HM.sortI L:=PK (a2.trans (((Mi X.w p es ep).map BX).trans iu)) a3;have hl:ns'.length<64:=by rw[a2.length_eq,<-hI.length,eU];omega
 obtain⟨ee,he⟩:=sortedHeap_at (out:=out) fj;have I1:Inv X bE Y H {s with heap:=h',toks:=tk}:=I.kept kp;refine⟨.ref h'.objs.size,_,I1.laid (a:=h'.objs.size) (o:=.lst (ns'.map V.int)) (t':=tk) (λb o e1=>?_) (Ag _) ⟨by rw[Ae,Bo];omega,out.toList,ee,MR a1,by simpa using he⟩,rfl,?_⟩
 .exact QD (Ap (Ai e1)) (As _ e1)
 .rw[e];exact q _ (I1.hok.fresh (Ag _))
theorem Q1(hm:X.mg "sorted"=none)(fk:X.mg "set"=none)(hc:X.calm=true)(ha:XB X a f)(hg:Gl X "sorted":=by rfl)(fo:Gl X "set":=by rfl)(hs:Af [a] X.env=[(false,eval a X.env)]:=by rfl)(cY:Af [Bu (.Name "set" p') [a] [] pos'] X.env=[(false,eval (Bu (.Name "set" p') [a] [] pos') X.env)]:=by rfl):XF X (.Call (.Name "sorted" p) [.Call (.Name "set" p') [a] [] pos'] [] pos) (HM.JX f):=by
 intro r d h;unfold HM.JX at h;split at h
 .rename_i x hx
  split at h
  .rename_i ds cf
   split at h
   .rename_i ns cD
    split at h
    .rename_i ie
     cases h;refine PE.imp (DF (XR hc) hg hm P5 (Z4 (EW (VX hc) fo fk Sn (EG ha hx hs) (he:=hs)) BR cY) (he:=cY)) λY H Q ⟨F0,H0,F,at_,k⟩=>?_;refine⟨F0,H0,F,at_,λv fp F1 H1 x1 r1=>?_⟩;obtain⟨l,vs,e1,hq,rs⟩:=Hg x1.sub r1 cf;subst e1;rw[Ea cD rs]at hq;refine⟨l,ns,rfl,hq,λn hn=>?_,λl2 fX=>⟨l2,_,rfl,Zz,λl3 nG=>?_⟩⟩
     .have:=BW.mp ie n hn
      rw[BJ,decide_eq_true_eq,decide_eq_true_eq]at this;exact this
     .have x2:=x1.lay' (o:=.ext λh=>Bv X.prog X.w h l2 (HM.cx [] ns)) fX
      exact FO (P:=λv _ H'=>Q v H') x2 (Hj _) nG k
    .cases h
   .cases h
  .cases h
 .cases h
end
end
end HP
namespace HP
open PySem PySem.Spec PyProof.Rows L2
variable[FX]
section
variable{gF:Bool}{q:HM.B}{r:HM.Env}{i:Int}{ns:List Int}{ds:List PyData}
section
variable{X:Cx}{a b:Expr}{fa:HM.EF}{f:HM.BF}{pos:Pos}
theorem L5(i:Int):∀ns:List Int,jG (.int i) (ns.map V.int)=ns.contains i
 |[]=>rfl
 |n::ns=>by have ih:=L5 i ns;unfold jG at ih ⊢;rw[Ao,Eh,ih,List.contains_cons];show(n==i||_)=(i==n||_);rw[show(n==i)=(i==n) from CN.mpr ⟨λh=>beq_iff_eq.mpr (beq_iff_eq.mp h).symm,λh=>beq_iff_eq.mpr (beq_iff_eq.mp h).symm⟩]
theorem Mq:∀ns:List Int,(ns.map V.int).all C9=true
 |[]=>rfl
 |n::ns=>by rw[Ao,Kl,Mq ns];rfl
theorem PJ{d:PyData}(h:HM.Cq fa f r=some d):∃i q ds ns,fa r=some (.int i)/\f r=some q/\HM.G8 q=some ds/\HM.Bz ds=some ns/\d=.bool (ns.contains i):=by
 unfold HM.Cq at h;split at h
 .split at h
  .split at h
   .obtain⟨c,h1,h2⟩:=Aj.mp h
    obtain⟨ns,h3,h4⟩:=Aj.mp h1;exact⟨_,_,_,ns,by assumption,by assumption,by assumption,h3,by rw[<-h2,<-h4]⟩
   .cases h
  .cases h
 .cases h
theorem Uk(ha:XE X a fa)(hb:XB X b f)(h1:fa r=some (.int i))(h2:f r=some q)(h3:HM.G8 q=some ds)(h4:HM.Bz ds=some ns){op:CmpOp}(ho:cN X (BG op) (j7 X.K gF))(hm:CW op b=false):PE X (.Compare a [op] [b] pos) (gX X.K r λ_ F' _ v=>v=.bl (if gF then !ns.contains i else ns.contains i)):=by
 refine PE.imp (OR ho (ha r _ h1) (hb r q h2) hm) λY H Q ⟨F0,H0,F,at_,k⟩=>?_;refine⟨F0,H0,F,at_,λv F1 H1 x1 r1=>⟨F0,H0,F1,at_.grow x1,λw F2 H2 x2 ⟨fp,r2⟩=>?_⟩⟩;obtain⟨p,vs,e1,hq,rs⟩:=Ju x2.sub r2 h3;cases r1;rw[Ea h4 rs]at hq;refine⟨p,_,e1,hq,rfl,Mq ns,k _ F2 H2 (x1.trans x2) ?_⟩;rw[L5]
theorem Uh(ha:XE X a fa)(hb:XB X b f)(h1:fa r=some (.int i))(h2:f r=some q)(h3:HM.G8 q=some ds)(h4:HM.Bz ds=some ns){op:CmpOp}(ho:cN X (BG op) (j7 X.K gF))(hm:CW op b=false):PT X (.Compare a [op] [b] pos) λY H Q=>eD X.K r Y H λF0 H0 F=>∀F' H',bP F H F' H'->Q (if gF then !ns.contains i else ns.contains i) H':=by
 refine PT.imp (OO ho (ha r _ h1) (hb r q h2) hm) λY H Q ⟨F0,H0,F,at_,k⟩=>?_;refine⟨F0,H0,F,at_,λv F1 H1 x1 r1=>⟨F0,H0,F1,at_.grow x1,λw F2 H2 x2 ⟨fp,r2⟩=>?_⟩⟩;obtain⟨p,vs,e1,hq,rs⟩:=Ju x2.sub r2 h3;cases r1;rw[Ea h4 rs]at hq;refine⟨p,_,e1,hq,rfl,Mq ns,_,rfl,?_⟩;rw[L5];exact k F2 H2 (x1.trans x2)
theorem Ls(ha:XE X a fa)(hb:XB X b f)(hm:CW .In b=false:=by rfl):XE X (.Compare a [.In] [b] pos) (HM.Cq fa f):=by intro r d h;obtain⟨i,q,ds,ns,h1,h2,h3,h4,rfl⟩:=PJ h;refine PE.imp (Uk ha hb h1 h2 h3 h4 Qq hm) λY H Q ⟨F0,H0,F,at_,k⟩=>⟨F0,H0,F,at_,λv F' H' x e=>k v F' H' x ?_⟩;subst e;exact .bl _
theorem OD(ha:XE X a fa)(hb:XB X b f)(hm:CW .In b=false:=by rfl):XT X (.Compare a [.In] [b] pos) (HM.tV (HM.Cq fa f)):=by intro r d h;obtain⟨i,q,ds,ns,h1,h2,h3,h4,e⟩:=PJ (Ja h);cases e;exact Uh ha hb h1 h2 h3 h4 Qq hm
theorem TK(hb:XB X b f)(he:∀b7,isTrue b X.env b7=(do let v <-b7;standAt b.pos;holding [v] (truthy v)):=by intro _;rfl):XT X b (HM.Fu f):=by
 intro r c h;unfold HM.Fu at h;split at h
 .rename_i ds hd
  cases h;refine PT.imp (VS (hb r _ hd) he) λY H Q ⟨F0,H0,F,at_,k⟩=>?_;refine⟨F0,H0,F,at_,λv F1 H1 x1 ⟨fp,r1⟩=>?_⟩;obtain⟨p,vs,e1,hq,rs⟩:=Hg x1.sub r1 (ds:=ds) rfl;subst e1;refine⟨_,.inl ⟨vs,hq,rfl⟩,?_⟩;have:=k F1 H1 x1;have e:ds.isEmpty=vs.isEmpty:=by have:=rs.1;cases ds<;>cases vs<;>simp_all
  rwa [e]at this
 .cases h
end
end
section
variable{kt:Nat}{px py:Pos}{x y:Str}
section
variable{X:Cx}{c e:Expr}{fa:HM.EF}{t:HM.TF}{g:HM.SF}{pos:Pos}{body:List Stmt}
theorem Qa(n:Nat)(dW:X.xe=λ_ _=>False)(hc:XT X c t)(hb:eX X body g):XS X (.While c body [] pos) (HM.LC n t g):=by
 intro r o ho;have ho:HM.Dm t g n r=some o:=ho;have pb:cZ X body (λE Y H=>∃r o,g r=some o/\il X.K r o E Y H):=λbE s Y H E I ⟨r,o,h1,h2⟩=>hb r o h1 bE s Y H E I h2;have pc:PT X c (λY H Q=>∃r b,t r=some b/\eD X.K r Y H λF0 H0 F=>∀F' H',bP F H F' H'->Q b H'):=λbE s Y H Q I ⟨r,b,h1,h2⟩=>hc r b h1 bE s Y H Q I h2;refine PS.imp (Vz (JJ dW) pc pb) λE Y H ⟨F0,H0,F,at_,k⟩=>?_;refine⟨λm Y H=>∃F r,At X.K F0 H0 F H r Y/\HM.Dm t g m r=some o,⟨n,F,r,at_,ho⟩,?_⟩
 rintro m Y H ⟨F2,r2,cM,go⟩
 cases m with
 |zero=>cases go
 |succ m =>
  unfold HM.Dm at go;split at go
  .rename_i ht
   refine⟨r2,true,ht,F0,H0,F2,cM,λF' H' x=>?_⟩;dsimp only;rw[if_pos rfl];have cp:=cM.grow x;have a4:=cp.rebase;refine⟨λσ' H'=>∃F r,At X.K F0 H0 F H' r σ'/\HM.Dm t g m r=some o,λσ' H' q=>⟨m,Fd m,q⟩,?_⟩;split at go
   .rename_i r' hr
    exact⟨_,_,hr,F',H0,F',a4,λσ' F' H' a'=>⟨F',r',a'.unbase cp.ext cp.nt0,go⟩⟩
   .rename_i r' hr
    exact⟨_,_,hr,F',H0,F',a4,λσ' F' H' a'=>⟨F',r',a'.unbase cp.ext cp.nt0,go⟩⟩
   .rename_i r' hr
    cases go;exact⟨_,_,hr,F',H0,F',a4,λσ' F' H' a'=>k σ' F' H' (a'.unbase cp.ext cp.nt0)⟩
   .rename_i d hr
    cases go;exact⟨_,_,hr,F',H0,F',a4,λv F' H' x q=>k v F' H' (cp.ext.unbase x) q⟩
   .cases go
  .rename_i ht
   cases go;refine⟨r2,false,ht,F0,H0,F2,cM,λF' H' x=>?_⟩;dsimp only;rw[if_neg (by simp)];exact k Y F' H' (cM.grow x)
  .cases go
theorem UG{i j:Nat}{pt:Pos}(hc:X.calm=true)(hN:X.N.Nodup)(hi:X.N[i]?=some x)(hj:X.N[j]?=some y)(hx:Loc X.env.scope x)(hy:Loc X.env.scope y)(hf:X.fn x=true\/X.env.scope.names.lookup x=some .local)(hg:X.fn y=true\/X.env.scope.names.lookup y=some .local)(h1:(BV [.Name x px,.Name y py] X.env).length=2:=by rfl)(h2:(BV [.Name x px,.Name y py] X.env).findIdx? (·.1)=none:=by rfl):PG X (.Tuple [.Name x px,.Name y py] kt pt) (Oa X.K 2 (K9 (IT i) (K9 (IT j) N8))) :=
 Ow hc (EK (Dh hN hi hx hf) (EK (Dh hN hj hy hg) OX)) h1 h2
theorem UP(i j:Nat){pt:Pos}{iter:Expr}{fi:HM.IF}(hN:X.N.Nodup)(dW:X.xe=λ_ _=>False)(hc:X.calm=true)(hi:XI X (.Tuple [.Name x px,.Name y py] kt pt) iter fi)(hb:eX X body g)(ku:X.N[i]?=some x:=by rfl)(nI:X.N[j]?=some y:=by rfl)(hx:Loc X.env.scope x:=by first|exact AE rfl|exact Ar rfl)(hy:Loc X.env.scope y:=by first|exact AE rfl|exact Ar rfl)(hf:X.fn x=true\/X.env.scope.names.lookup x=some .local:=by first|exact .inl rfl|exact .inr rfl)(nO:X.fn y=true\/X.env.scope.names.lookup y=some .local:=by first|exact .inl rfl|exact .inr rfl)(h1:(BV [.Name x px,.Name y py] X.env).length=2:=by rfl)(h2:(BV [.Name x px,.Name y py] X.env).findIdx? (·.1)=none:=by rfl)(hs:∀x,Dt iter X.env x=pure x:=by intro _;rfl):XS X (.For (.Tuple [.Name x px,.Name y py] kt pt) iter body [] pos) (HM.Mc i j fi g):=by
 intro r o ho;unfold HM.Mc at ho;split at ho
 .rename_i ds cf
  split at ho
  .rename_i eO
   have pb:cZ X body (λE Y H=>∃r o,g r=some o/\il X.K r o E Y H):=λbE s Y H E I ⟨r,o,h1,h2⟩=>hb r o h1 bE s Y H E I h2;refine PS.imp (Lk (JJ dW) hc (hi r ds cf) (UG hc hN ku nI hx hy hf nO h1 h2) pb hs) λE Y H ⟨F0,H0,F,at_,k⟩=>?_;refine⟨F0,H0,F,at_,λoJ F1 H1 x1 it=>?_⟩;refine⟨λn m Y H=>∃F r,At X.K F0 H0 F H r Y/\Zp F1 F/\n+m=ds.length/\HM.Df i j g (ds.drop n) r=some o,⟨ds.length,F1,r,at_.grow x1,Zp.refl _,by omega,ho⟩,?_⟩
   rintro n m Y H ⟨F2,r2,cM,s2,hn,go⟩
   obtain⟨gH,gG⟩:=it F2 H s2 cM.sub;cases m with
   |zero =>
    have e:n=ds.length:=by omega
    subst e;rw[Kg]at go;cases go;exact .inl ⟨gG,k Y F2 H cM⟩
   |succ m =>
    have bS:n<ds.length:=by omega
    rw[IH bS]at go;obtain⟨j1,j2⟩:=gH n ds[n] (AV bS);refine .inr ⟨j1,λσ' H'=>∃F r,At X.K F0 H0 F H' r σ'/\Zp F1 F/\HM.Df i j g (ds.drop (n+1)) r=some o,λσ' H' ⟨F,r,a1,a2,a3⟩=>⟨m,by omega,F,r,a1,a2,by omega,a3⟩,λy H' hy=>?_⟩;obtain⟨e1,ry⟩:=j2 y H' hy;subst e1;obtain⟨F3,cp,s3,ry⟩:∃F3,At X.K F0 H0 F3 H' r2 Y/\Zp F1 F3/\bL X.K F3 ds[n] y:=⟨_,cM.grow cM.refl.tups,s2.trans (Cd cM.sub),ry⟩;have iT:∃d1 d2,ds[n]=.tuple [d1,d2]:=by
     unfold HM.Df at go;split at go
     .cases ‹_=[]›
     .rename_i d1 d2 q hq
      injection hq with hq _
      exact⟨d1,d2,hq⟩
     .cases go
    obtain⟨d1,d2,iT⟩:=iT;rw[iT]at ry go;obtain⟨pa,v1,v2,e7,km,mN,mM⟩:=L3 ry;subst e7;have a3:=(cp.set (i:=i) mN).set (i:=j) mM;have a4:=a3.rebase;refine⟨pa,[v1,v2],rfl,.of (cp.sub _ _ km),rfl,v1,[v2],rfl,v2,[],rfl,rfl,?_⟩;dsimp only[HM.Df]at go;split at go
    .rename_i r' hr
     exact⟨_,_,hr,F3,H0,F3,a4,λσ' F' H' a'=>⟨F',r',a'.unbase cp.ext cp.nt0,s3.trans a'.ext.ff,go⟩⟩
    .rename_i r' hr
     exact⟨_,_,hr,F3,H0,F3,a4,λσ' F' H' a'=>⟨F',r',a'.unbase cp.ext cp.nt0,s3.trans a'.ext.ff,go⟩⟩
    .rename_i r' hr
     cases go;exact⟨_,_,hr,F3,H0,F3,a4,λσ' F' H' a'=>k σ' F' H' (a'.unbase cp.ext cp.nt0)⟩
    .rename_i d hr
     cases go;exact⟨_,_,hr,F3,H0,F3,a4,λv F' H' x q=>k v F' H' (cp.ext.unbase x) q⟩
    .cases go
  .cases ho
 .cases ho
end
end
section
variable{X:Cx}{a b:Expr}{fa:HM.EF}{f:HM.BF}{pos:Pos}
open Classical in
end
section
variable{q:HM.B}{F H:J}{fp:List Addr}{K:Ad}
section
variable{X:Cx}{a b c e:Expr}{fa fb fc:HM.EF}{f:HM.BF}{pos p:Pos}{es:List Expr}
theorem RG{a b:Addr}{kvs:List (List bO×V)}{k:List bO}(e:Rd H a (.dT kvs))(eb:H b=some (.tup (k.map kV))):K0 H a (.ref b) (B0 kvs k):=.inr ⟨kvs,k,b,e,rfl,eb,rfl⟩
theorem Ui{v:V}{kvs:List (List bO×PyData)}(sub:Zp F H)(r:ZZ K F H q v fp)(h:HM.VH q=some kvs):∃l vvs,v=.ref l/\Rd H l (.dT vvs)/\Ay K F kvs vvs:=by
 cases r with
 |pl r =>
  cases r with
  | @dct l es kvs' vvs h1 h2 h3 h4=>subst h2;have h:HM.GV (HM.ZN kvs')=some kvs:=h;rw[HM.gz]at h;cases h;refine⟨l,vvs,rfl,Jl h1 sub,h3,?_,h4⟩;have:=congrArg Bb h3;rw[Ae,Ae]at this;rw[Ae,Ae,this]
  |fn _=>cases h
  |tupk _=>cases h
  |tup _ _ _=>cases h
  |lst _ _ _=>cases h
  |non=>cases h
  |bl _=>cases h
  |int _=>cases h
  |str _=>cases h
 |ol _ _=>cases h
 |ok _ _ _=>cases h
 | @ot l kvs vvs h1 h2 h3=>cases h;exact⟨l,vvs,rfl,.inl h1,h2,h3⟩
 | @hd l o es kvs' vvs h1 h2 h3 h4=>subst h2;have h:HM.GV (HM.ZN kvs')=some kvs:=h;rw[HM.gz]at h;cases h;exact⟨l,vvs,rfl,.inr ⟨o,sub _ _ h1⟩,h3,h4⟩
 |hf _=>cases h
 |otl _ _ _ _=>cases h
theorem Xt{r:HM.Env}{d:PyData}(h:HM.Cw fa f r=some d):∃x q kvs y,fa r=some x/\f r=some q/\HM.VH q=some kvs/\HM.GU x=some y/\d=.bool (!(HM.Ho kvs y).isSome):=by
 unfold HM.Cw at h;split at h
 .split at h
  .split at h
   .obtain⟨y,h1,h2⟩:=Aj.mp h
    exact⟨_,_,_,y,by assumption,by assumption,by assumption,h1,h2.symm⟩
   .cases h
  .cases h
 .cases h
theorem Mm(hu:X.A.units+1<cLine)(ha:XE X a fa)(hb:XB X b f)(hm:CW .NotIn b=false:=by rfl):XT X (.Compare a [.NotIn] [b] pos) (HM.tV (HM.Cw fa f)):=by intro r d h;obtain⟨x,q,kvs,y,h1,h2,h3,h4,e⟩:=Xt (Ja h);cases e;refine PT.imp (Sz (V1 hu (ha r x h1) (hb r q h2)) hm) λY H Q ⟨F0,H0,F,at_,k⟩=>?_;refine⟨F0,H0,F,at_,λv F1 H1 x1 r1=>⟨F0,H0,F1,at_.grow x1,λw F2 H2 x2 ⟨fp,r2⟩=>?_⟩⟩;obtain⟨l,vvs,e1,e2,T⟩:=Ui x2.sub r2 h3;obtain⟨bb,rfl,i6⟩:=Pb h4 (r1.mono x2.ff);exact⟨l,_,e1,RG e2 (x2.sub _ _ i6),_,rfl,by rw[T.some_iff];exact k F2 H2 (x1.trans x2)⟩
structure iG(X:Cx)(es:List Expr)(f:HM.AF):Prop where
 len:∀r ds,f r=some ds->ds.length=es.length
 pa:∀r ds,f r=some ds->PA X es λY H Q=>eD X.K r Y H λF0 H0 F=>∀vs F' H',bP F H F' H'->Zt X.K H' ds vs->Q vs H'
theorem ZZ.lent{v:V}{d:PyData}(sub:Zp F H)(r:ZZ K F H q v fp)(h:HM.frz q=some d):bL K H d v:=by
 cases r with
 |pl r=>cases h;exact r.mono sub
 |ol h1 r=>cases h;exact .lst (.of h1) r.1 (r.mono sub).2
 |ok _ _ _=>cases h
 |hd h1 he hk r=>cases h;exact(bL.dct (.inr ⟨_,h1⟩) he hk r.2).mono sub
 |hf h1=>cases h;exact(bL.fn h1).mono sub
 |ot h1 hk r=>cases h;exact .dct (.inl h1) rfl hk (r.mono sub).2
 |otl _ _ _ _=>cases h
end
end
section
variable{g:HM.AF}{F:J}
section
variable{X:Cx}{a b c e:Expr}{fa fb fc:HM.EF}{f:HM.BF}{pos p:Pos}{es:List Expr}
theorem TJ(h:XA X es g):iG X es g :=
 ⟨h.len,λr ds hd=>PA.imp (h.pa r ds hd) λY H Q ⟨F0,H0,F,at_,k⟩=>⟨F0,H0,F,at_,λvs F' H' x q=>k vs F' H' x (q.mono x.sub)⟩⟩
theorem Ma(ha:XE X e fa)(hr:iG X es g)(hs:Af (e::es) X.env=(false,eval e X.env)::Af es X.env:=by rfl):iG X (e::es) (HM.O fa g):=by
 refine⟨λr ds h=>?_,λr ds h=>?_⟩
 .unfold HM.O at h
  split at h
  .obtain⟨xs,h1,h2⟩:=Aj.mp h
   subst h2;rw[AL,AL,hr.len r xs h1]
  .cases h
 unfold HM.O at h;split at h
 .rename_i x hx
  obtain⟨xs,h1,h2⟩:=Aj.mp h;subst h2;refine PA.imp (Z4 (ha r x hx) (hr.pa r xs h1) hs) λY H Q ⟨F0,H0,F,at_,k⟩=>?_;exact⟨F0,H0,F,at_,λv F1 H1 x1 r1=>⟨F0,H0,F1,at_.grow x1,λvs F2 H2 x2 r2=>k (v::vs) F2 H2 (x1.trans x2) (.cons ((r1.mono x2.ff).mono x2.sub) r2)⟩⟩
 .cases h
theorem Vd(ha:XB X e f)(hr:iG X es g)(hs:Af (e::es) X.env=(false,eval e X.env)::Af es X.env:=by rfl):iG X (e::es) (HM.O (HM.Jb f) g):=by
 refine⟨λr ds h=>?_,λr ds h=>?_⟩
 .unfold HM.O at h
  split at h
  .obtain⟨xs,h1,h2⟩:=Aj.mp h
   subst h2;rw[AL,AL,hr.len r xs h1]
  .cases h
 unfold HM.O at h;split at h
 .rename_i x hx
  obtain⟨xs,h1,h2⟩:=Aj.mp h;subst h2;obtain⟨q,hq,hf⟩:=NA.mp hx;refine PA.imp (Z4 (ha r q hq) (hr.pa r xs h1) hs) λY H Q ⟨F0,H0,F,at_,k⟩=>?_;exact⟨F0,H0,F,at_,λv F1 H1 x1 ⟨fp,r1⟩=>⟨F0,H0,F1,at_.grow x1,λvs F2 H2 x2 r2=>k (v::vs) F2 H2 (x1.trans x2) (.cons ((r1.lent x1.sub hf).monoT x2.hh) r2)⟩⟩
 .cases h
theorem bL.flat{K:Ad}{F':J}{d:PyData}{v:V}(r:bL K F d v)(h:HM.O5 d=true):bL K F' d v:=by
 cases r with
 |non=>exact .non
 |bl b=>exact .bl b
 |int i=>exact .int i
 |str x=>exact .str x
 |tupk _=>cases h
 |tup _ _ _=>cases h
 |lst _ _ _=>cases h
 |dct _ _ _ _=>cases h
 |fn _=>cases h
theorem bP.forget{H F'' H'':J}(s:Zp F H)(n:dM F)(x:bP (B4 H) H F'' H''):bP F H F H'' :=
 ⟨Zp.refl F,x.hh,(n.sub s).trans (x.ff.trans x.sub),λ_ _ z=>.inl z,x.tab,id⟩
theorem Vc{k:Nat}{x:Str}{M:List PyData->Option PyData}(C:Callee X.prog X.w X.K X.mg X.base k x M)(hr:AK k X.A)(ha:iG X (e::es) g)(hg:Gl X x:=by rfl)(eL:(x==("__debug__":Str))=false:=by decide)(he:Af (e::es) X.env=(false,eval e X.env)::Af es X.env:=by rfl)(hpl:(backTo pos (Af es X.env)).any (·.1)=false:=by rfl):XE X (.Call (.Name x p) (e::es) [] pos) (HM.Jr M g):=by
 intro r d hd;unfold HM.Jr at hd;split at hd
 .rename_i ds cf
  split at hd
  .rename_i d' hM
   split at hd
   .rename_i js
    cases hd;obtain⟨fa,fd,ps,hl,F,hm,hk,hb⟩:=C.ex;refine PE.imp (OS (E:=E0) F hr hg hm hk hb .nil Ol (ha.pa r ds cf) eL he hpl) λY H Q ⟨F0,H0,F1,at_,k⟩=>?_;refine⟨F0,H0,F1,at_,λvs F' H' x q=>?_⟩;show spD X.K ps.length M (vs++[]) H' Q E0;rw[CB];exact⟨B4 H',ds,d,by rw[<-q.1];exact hl ds d hM,Qx,at_.tbx x,.drop,q.drop',hM,λv F2 H2 x2 q2=>k v F' H2 (x.trans (bP.forget x.sub (at_.ntx x) x2)) (q2.flat js)⟩
   .cases hd
  .cases hd
 .cases hd
theorem Wg(hc:X.calm=true):AJ X (.builtin "max") (λxs H Q=>∃(p:Addr) (ns:List Int),xs=[.ref p]/\cm X.K H p (ns.map V.int)/\0<ns.length/\∀M,M∈ns->(∀a,a∈ns->a<=M)->Q (.int M) H):=by
 intro bE s Y H xs us Q I r h;obtain⟨p,ns,rfl,hq,cv,q⟩:=h;obtain⟨u,rfl,rx⟩:=vals1 r;cases rx;obtain⟨its,rv,pl,hz⟩:=I.list hq;have hi:=Hm rv;obtain⟨xs,e⟩:=hi.allInts.items;have cD:ns=xs.toList.map (·.1):=by rw[<-hi.numsOf,<-nums_intItems,<-e]
 have hsz:0<xs.size:=by have h3:=cv;rw[cD,Ae,Ba]at h3;exact h3
 have hl:=pl.isList;rw[e]at hl;refine max_intList (I.ok.hd hc) hl hsz λv h' tk hv hk=>?_;obtain⟨t,rfl⟩:=intItems_at hv;obtain⟨h1,h2⟩:=argBest_gt (numAt xs) (xs.size-1);refine⟨.int _,H,I.kept (t':=tk) hk,⟨t,rfl⟩,q _ ?_ λa ha=>?_⟩
 .rw[cD,numAt_eq];exact getD_mem (by rw[Ae,Ba];omega)
 .rw[cD]at ha
  obtain⟨j,hj,rfl⟩:=mem_getD ha;rw[Ae,Ba]at hj;rw[<-numAt_eq];exact h2 j (by omega)
theorem UO(hm:X.mg "max"=none)(hc:X.calm=true)(ha:XB X a f)(hg:Gl X "max":=by rfl)(hs:Af [a] X.env=[(false,eval a X.env)]:=by rfl):XE X (.Call (.Name "max" p) [a] [] pos) (HM.FJ f):=by
 intro r d h;unfold HM.FJ at h;split at h
 .rename_i x hx
  split at h
  .rename_i ds cf
   split at h
   .rename_i ns cD
    obtain⟨m,h1,h2⟩:=Aj.mp h;subst h2;refine PE.imp (DF (Wg hc) hg hm OC (EG ha hx hs) (he:=hs)) λY H Q ⟨F0,H0,F,at_,k⟩=>?_;refine⟨F0,H0,F,at_,λv fp F1 H1 x1 r1=>?_⟩;obtain⟨l,vs,e1,hq,rs⟩:=Hg x1.sub r1 cf;rw[Ea cD rs]at hq;obtain⟨m1,m2⟩:=NM.mp h1;refine⟨l,ns,by rw[e1],hq,List.length_pos_of_mem m1,λM k1 k2=>?_⟩;have:M=m:=Int.le_antisymm (m2 M k1) (k2 m m1);subst this;exact k _ F1 H1 x1 (.int _)
   .cases h
  .cases h
 .cases h
end
end
section
variable{X:Cx}{a b c e:Expr}{fa fb fc:HM.EF}{f:HM.BF}{pos p:Pos}
theorem LL{K:Ad}{F:J}{ds:List PyData}{v:V}(r:bL K F (.tuple ds) v):∃l vs,v=.ref l/\cE K F l vs/\Zt K F ds vs:=by
 cases r with
 |tup h1 h2 h3=>exact⟨_,_,rfl,.of h1,h2,h3⟩
 | @tupk a x h1=>exact⟨_,_,rfl,.inr h1,.one (.str x)⟩
end
end HP
namespace HP
open PySem
end HP
namespace HP
open PySem PySem.Spec PyProof.Rows L2
variable[FX]
end HP
namespace HP
open PySem PySem.Spec PyProof.Rows L2
abbrev mz:FX where
 tl:=[]
 fv:=λ_ _ _ _=>False
 sw:=λ_ _ h=>h
 drop:=λh=>h
 mono:=λh _=>h
end HP
namespace HP
open PySem PySem.Spec PyProof.Rows L2
variable[FX]
def BMod(base:Heap)(mg:Str->Option Value):Prop:=∃bm o,mg "__builtins__"=some (.ref bm)/\bm≠Gi/\bm≠BD/\base.get? bm=some o/\o.cls=.type "module"/\o.dict=some Gi/\o.data=.plain
end HP
namespace HP
open PySem
end HP
namespace HP
open PySem PySem.Spec PyProof.Rows L2
section
variable{tabs:List (Addr×Addr)}{x:Str}
def IS(tabs:List Addr)(H:J):Prop:=(∀b,H b=none\/(∃o xs,H b=some (.frz o (.lst xs)))\/H b=some (.tbl #[]))/\∀T∈tabs,H T=some (.tbl #[])
theorem Vn{P:Program}{w:World}{K:Ad}{mg mb:Str->Option Value}{k:Nat}{fa a:Addr}{fd:FuncData}{sp:Sp}{s₁:Shared}{vs:List Value}{ns:List Int}(hT:∀q∈tabs,HV K q.1 q.2=true/\K.lookup q.2=none/\s₁.heap.get? q.2=some (Il #[]))(KX:K.In s₁.heap)(cD:s₁.heap.Ns BD mg)(hb:s₁.heap.Ns Gi mb)(i6:∀x:Str,x ≠ "__name__"->mb x=Bi x)(lp:s₁.heap.NoLimit)(hg:s₁.gens=#[])(ha:s₁.heap.get? a=some {cls:=.type "list",data:=.seq vs.toArray})(hi:IntsAre vs ns)(hl:ns.length<=sizeLine)(hr:AK k callerA)(nU:PyProof.Rows.BMain s₁.heap mg)(F:∀base:Heap,K.In base->base.Ns BD mg->BMod base mg->BK P w K mg base eE k fa fd [x] sp)(df:∀(s:Shared) (u:Value),BindsTo s fd ⟨[u],[]⟩ [(x,u)])(gJ:∀H:J,IS (tabs.map (·.2)) H->cm K H a (ns.map V.int)->sp [.ref a] H (λv _=>v=.bl true) λ_ _ _=>False):codeAny (model P w) callerA (.call (.ref fa) ⟨[.ref a],[]⟩) (λr s'=>r=.ok (.ret (.bool true))/\OldK s₁.heap s'.heap/\s'.os=s₁.os/\AllBare s'.gens) s₁:=by
 have rv:=Qv hi;have kS:=hi.length;have mG:∀q∈tabs,q.2≠a:=λq hq z=>by have:=(hT q hq).2.2;rw[z,ha]at this;cases this
 have jj:∀oS:Option HO,(oS=none\/∃o xs,oS=some (.frz o (.lst xs)))->(∀H:J,H a=oS->cm K H a (ns.map V.int))->(∀H:J,∀u,oS=some u->ZU P w H s₁.heap a u)->(oS≠none->K.lookup a=none) ->
   codeAny (model P w) callerA (.call (.ref fa) ⟨[.ref a],[]⟩) (λr s'=>r=.ok (.ret (.bool true))/\OldK s₁.heap s'.heap/\s'.os=s₁.os/\AllBare s'.gens) s₁:=by
  intro oS hO hS k0 hK;generalize hH:(λb:Addr=>if b=a then oS else if b∈tabs.map (·.2)then some (HO.tbl #[])else none)=H;have Ha:H a=oS:=by rw[<-hH];exact if_pos rfl
  have Ht:∀T∈tabs.map (·.2),H T=some (.tbl #[]):=λT hT'=>by obtain⟨q,hq,e⟩:=Ak.mp hT';rw[<-hH];show(if T=a then oS else if T∈tabs.map (·.2)then some (HO.tbl #[])else none)=_;rw[if_neg (by rw[<-e];exact mG q hq),if_pos hT']
  have Hc:∀b u,H b=some u->(b=a/\oS=some u)\/(b∈tabs.map (·.2)/\u=.tbl #[]):=λb u e=>by
   rw[<-hH]at e;dsimp only at e;split at e
   .rename_i h;exact .inl ⟨h,e⟩
   .split at e
    .rename_i h;cases e;exact .inr ⟨h,rfl⟩
    .cases e
  have fw:∀T∈tabs.map (·.2),s₁.heap.get? T=some (Il #[])/\K.lookup T=none/\∃c,HV K c T=true:=λT hT'=>by obtain⟨q,hq,e⟩:=Ak.mp hT';subst e;exact⟨(hT q hq).2.2,(hT q hq).2.1,q.1,(hT q hq).1⟩
  have hok:cu P w H s₁.heap:=λb u e=>by
   rcases Hc b u e with⟨rfl,e'⟩|⟨h,rfl⟩
   .exact k0 H u e'
   .exact(fw b h).1
  have dC:∀{b:Addr} {o:Obj},s₁.heap.get? b=some o->H b=none->(C3 s₁.heap H).get? b=some o:=λe n=>UA e n;have iO:∀{b:Addr} {o:Obj} {es:Array DictEntry} {ep:Nat},s₁.heap.get? b=some o->o.data=.dict es ep->H b=none:=λ{b o es ep} e d=>by
   cases q:H b with
   |none=>rfl
   |some u =>
    rcases Hc b u q with⟨rfl,_⟩|⟨h,_⟩
    .rw[ha]at e;cases e
     have d':Data.seq vs.toArray _=Data.dict es ep:=d;cases d'
    .rw[(fw b h).1]at e;cases e;cases d
  have jD:∀{b:Addr} {m:Str->Option Value},s₁.heap.Ns b m->(C3 s₁.heap H).Ns b m:=λ{b m} ⟨o,es,ep,e,d,r⟩=>⟨o,es,ep,dC e (iO e d),d,r⟩;have mh:K.In (C3 s₁.heap H):=λb o e=>dC (KX b o e) (by
   cases q:H b with
   |none=>rfl
   |some u =>
    rcases Hc b u q with⟨rfl,e'⟩|⟨h,_⟩
    .rw[hK (by rw[e'];simp)]at e;cases e
    .rw[(fw b h).2.1]at e;cases e)
  have hM:Mod K mg (C3 s₁.heap H):=⟨mh,jD cD,⟨mb,jD hb,i6⟩,let ⟨mc,h1,h2⟩:=lp;⟨mc,jD h1,h2⟩⟩;have e0:IL P w K mg (C3 s₁.heap H) callerA [] s₁ H:=⟨rfl,hM,λb o e=>Tf e,F6 (Wu _ _),trivial,λb hb=>absurd (show b∈([]:List Addr) from hb) (by simp),hok,.of_eq hg⟩;have nX:IS (tabs.map (·.2)) H:=⟨λb=>by
   cases q:H b with
   |none=>exact .inl rfl
   |some u =>
    rcases Hc b u q with⟨_,e'⟩|⟨_,rfl⟩
    .rcases hO with z|⟨o,xs,z⟩
     .rw[z]at e';cases e'
     .rw[z]at e';cases e';exact .inr (.inl ⟨o,xs,rfl⟩)
    .exact .inr (.inr rfl),Ht⟩
  have n4:BMod (C3 s₁.heap H) mg:=by
   obtain⟨bm,ob,b1,b2,b3,b4,b5,b6⟩:=nU;refine⟨bm,ob,b1,b2,λz=>?_,dC b3 ?_,b4,b5,b6⟩
   .obtain⟨o,es,ep,e,d,_⟩:=cD
    rw[z,e]at b3;cases b3;rw[b6]at d;cases d
   .cases q:H bm with
    |none=>rfl
    |some u =>
     rcases Hc bm u q with⟨z,_⟩|⟨h,_⟩
     .rw[z,ha]at b3;cases b3;exact absurd (show(Ej "list":Value)=.type "module" from b4) (by decide)
     .rw[(fw bm h).1]at b3;cases b3;cases b4
  refine Eg ((F _ mh (jD cD) n4).run callerA [] s₁ H ⟨[.ref a],[]⟩ [.ref a] [.ref a] _ _ hr e0 (df s₁ (.ref a)) (.cons rfl .nil) (gJ H nX (hS H Ha))) λr s' h=>?_;cases r with
  |error e=>exact CD h
  |ok fl =>
   cases fl with
   |next=>exact CD h
   |brk=>exact CD h
   |cont=>exact CD h
   |ret u =>
    obtain⟨v,H',os,bare,un,hok',r',q⟩:=h;have q':v=.bl true:=q;subst q';obtain rfl:u=Ek true:=r';refine⟨rfl,⟨λb o e=>?_,λb o e=>un.there b o e (by simp)⟩,os,bare⟩;cases q:H b with
    |none=>exact .inl (un.keep b o e q (by intro z;exact absurd (show b∈([]:List Addr) from z) (by simp)) (by simp))
    |some u =>
     rcases Hc b u q with⟨rfl,e'⟩|⟨h,rfl⟩
     .rcases hO with z|⟨ob,xs,z⟩
      .rw[z]at e';cases e'
      .rw[z]at e';cases e'
       have z2:=un.frzs _ ob _ q;obtain⟨e1,_⟩:=hok _ _ q;obtain⟨e2,_⟩:=hok' _ _ z2;rw[e]at e1;cases e1;exact .inl e2
     .obtain⟨g1,_,c,g3⟩:=fw b h
      rw[g1]at e;cases e;obtain⟨more,z2⟩:=un.tbls b _ q;have z3:s'.heap.get? b=some {cls:=.none,data:=.fields (#[]++more)}:=hok' b _ z2;refine .inr (.inl ⟨((PySem.W.codeHd_of_K KX g3).tab g1).isCodeTable,rfl,#[],more,rfl,z3⟩)
 cases hk:K.lookup a with
 |some o=>have e:=KX a o hk;rw[ha]at e;cases e;exact jj none (.inl rfl) (λH _=>.inr ⟨_,vs.toArray,_,hk,rfl,rfl,rfl,by rw[Au,kS];exact hl,by simpa using rv⟩) (λH u z=>by cases z) λz=>absurd rfl z
 |none=>refine jj (some (.frz {cls:=.type "list",data:=.seq vs.toArray} (.lst (ns.map V.int)))) (.inr ⟨_,_,rfl⟩) (λH e=>.inl (.inr ⟨_,e⟩)) (λH u z=>?_) λ_=>hk;cases z;exact⟨ha,by rw[Ae];exact hl,vs,_,rv,ha⟩
theorem Ue{l:Kb}{n k:Nat}{q:Program}{dw:List Str}{XP:(Str->Option Value)->Heap->Prop}{YP:World->Heap->Prop}{d:DefRec}{K:Params->Ad}{sp:World->Sp}(hn:l.most=some n)(nz:n<=sizeLine)(fZ:d.params.defaults=[])(hr:AK k callerA)(hY:∀(w:World) (h:Heap),YP w h->(K w.params).In h)(kE:∀(w:World) (h:Heap),YP w h->∀q∈tabs,h.get? q.2=some (Il #[]))(hT:∀(w:World),∀q∈tabs,HV (K w.params) q.1 q.2=true/\(K w.params).lookup q.2=none)
  (F:∀(w:World) (mg:Str->Option Value) (fa:Addr) (h:Heap),(K w.params).In h->h.Ns BD mg->mg d.name=some (.ref fa) ->
   ∃fd:FuncData,(∀(s:Shared) (u:Value),BindsTo s fd ⟨[u],[]⟩ [(x,u)]) /\
    ∀base:Heap,(K w.params).In base->base.Ns BD mg->BMod base mg->BK l.prog w (K w.params) mg base eE k fa fd [x] (sp w))
  (gJ:∀(w:World) (H:J) (a:Addr) (ns:List Int),ns.length<=n->IS (tabs.map (·.2)) H->cm (K w.params) H a (ns.map V.int)->sp w [.ref a] H (λv _=>v=.bl true) λ_ _ _=>False):
  PySem.W.WalkO q dw XP YP l.row.toRowW d [] (λf vs=>PySem.call f vs):=by
 refine Att.aX hn fZ λw s₀ s₁ mg mb fa o pm cd di a vs ns G oG ho hd dh iV ic fG bK hg=>?_;have KX:=hY w _ oG;obtain⟨fd,hb,hF⟩:=F w mg fa _ KX G.T.g iV;exact Vn (λq hq=>⟨(hT w q hq).1,(hT w q hq).2,kE w _ oG q hq⟩) KX G.T.g G.T.b G.T.builtins G.T.nolimit hg ic fG (BE bK nz) hr G.T.bmain hF hb λH hO hS=>gJ w H a ns bK hO hS
end
section
variable[FX]
theorem aO{K:Ad}{M:List PyData->Option PyData}{H:J}{a:Addr}{ns:List Int}{tabs:List Addr}(hO:IS tabs H)(ht:∀T q,(T,q)∈FX.tl->T∈tabs)(hS:cm K H a (ns.map V.int))(hM:M [.list (HM.dB ns)]=some (.bool true)):spD K 1 M [.ref a] H (λv _=>v=.bl true) λ_ _ _=>False:=by
 refine⟨B4 H,[.list (HM.dB ns)],.bool true,rfl,Qx,λT q hT=>⟨#[],hO.2 T (ht T q hT),trivial,λpos c hc=>by cases hc⟩,.drop,.one (bL.drop (.lst hS (Hj (K:=K) (F:=H) ns).1 (Hj ns).2)),hM,λv F1 H1 _ r=>r.bool_inv⟩
end
end HP
namespace HP
open PySem PySem.Spec PyProof.Rows L2
variable[FX]
section
variable{X:Cx}{a b:Expr}{fa fb:HM.EF}{pos:Pos}
def Ry(K:Ad):R2:=λv w H Q=>∃p q xs ys,v=.ref p/\w=.ref q/\cE K H p xs/\cE K H q ys/\xs.length+ys.length<=sizeLine/\(xs=[]->Q w H)/\(xs≠[]->ys=[]->Q v H)/\(xs≠[]->ys≠[]->∀z,H z=none->Q (.ref z) (upd H z (.tup (xs++ys))))
theorem U1:cN X (Cf .Add) (Ry X.K):=by
 intro bE s Y H x y v u Q I rx ry ⟨p,q,xs,ys,e1,e2,hp,hq,hz,q0,q1,q2⟩
 by_cases hx:xs=[]
 .subst e1 e2
  obtain rfl:v=A4 p:=rx;obtain rfl:u=A4 q:=ry;obtain⟨its,r1,p1,_⟩:=I.tuple hp;obtain⟨el,r2,p2,_⟩:=I.tuple hq;obtain⟨⟨cls,dd,data,sl⟩,ho,hc,n,hd⟩:=id p1;obtain⟨⟨lz,jS,data2,jz⟩,g7,i0,n2,iZ⟩:=id p2;simp only at hc hd i0 iZ;subst hc hd i0 iZ;have e0:its=[]:=by rw[hx]at r1;cases r1;rfl
  exact concat_meets ⟨_,ho,rfl⟩ ⟨_,g7,rfl⟩ Kh seq_tuple_add Kr KW (KP _ _)
   (tuple_addW0 p q its.toArray el.toArray n n2 dd jS sl jz (by simp[e0])) ⟨ho,g7,⟨.ref q,H,I,rfl,q0 hx⟩⟩
 .exact Te bE s Y H x y v u Q I rx ry ⟨p,q,xs,ys,e1,e2,hp,hq,hx,hz,λz=>by rw[<-e1];exact q1 hx z,λz=>q2 hx z⟩
theorem L9(ha:XE X a fa)(hb:XE X b fb):XE X (.BinOp a .Add b pos) (HM.ES fa fb):=by
 intro r d h;unfold HM.ES at h;split at h
 case h_2=>cases h
 rename_i xs hx;split at h
 case h_2=>cases h
 rename_i ys hy;split at h
 case isFalse=>cases h
 rename_i bS;cases h;refine PE.imp (GR U1 (ha r _ hx) (hb r _ hy)) λY H Q ⟨F0,H0,F,at_,k⟩=>?_;refine⟨F0,H0,F,at_,λv F1 H1 x1 r1=>⟨F0,H0,F1,at_.grow x1,λw F2 H2 x2 r2=>?_⟩⟩;have r1':=r1.mono x2.ff;obtain⟨l,vs,e1,h1,s1⟩:=LL r1';obtain⟨l',us,e2,h2,s2⟩:=LL r2;have e3:=s1.1;have e4:=s2.1;have hz:xs.length+ys.length<1000000:=bS;have e5:(1000000:Nat)<=sizeLine:=by decide
 refine⟨l,l',vs,us,e1,e2,L6 h1 x2.sub,L6 h2 x2.sub,by omega,λz=>?_,λ_ z=>?_,λ_ _ p hp=>?_⟩
 .rw[z]at e3
  exact k _ F2 H2 (x1.trans x2) (by rw[Dy e3,HQ];exact r2)
 .rw[z]at e4
  exact k _ F2 H2 (x1.trans x2) (by rw[Dy e4,CB];exact r1')
 .have rc:=s1.append s2
  exact k _ (upd F2 p (.tup (vs++us))) _ ((x1.trans x2).lay hp) (.tup Zz rc.1 (rc.mono (Zp.upd' (x2.sub.free hp))).2)
end
end HP
namespace HP
open PySem PySem.W PyProof.Rows
end HP
namespace HP
open PySem PySem.Spec PyProof.Rows L2
variable[FX]
end HP
namespace HP
open PySem PySem.Spec PyProof.Rows L2
section
variable{prog:Program}{w:World}{A:Around}{E:Value->Shared->Prop}{s:Shared}
theorem Ya{d:Addr}{n:Nat}(hd:(d==A8)=false):MeetsIn prog w (Builtin.«dict.__len__» ⟨[.ref d],[]⟩) (λ_ R s=>(∃es ep,Bx s.heap d es ep/\es.size=n)/\R (.ok (.ret (.int n s.toks))) {s with toks:=s.toks+1}) :=
 .of_wp λA R s ⟨⟨es,ep,⟨o,ho,hc,gw⟩,hn⟩,h⟩=>by show wpAny _ _ (dictSize d >>= _) _ _ s;unfold dictSize;refine Aa (Aa (Gk ho gw (Ac ?_)));show wpAny _ _ (Builtin.Dict.pendingCount d >>= _) _ _ s;refine Aa (wpAny_pendingCount_other hd ?_);refine J9 ?_;rw[Nat.add_zero,hn];exact h
theorem UH{d:Addr}{es:Array DictEntry}{ep:Nat}{Q:Value->Shared->Prop}(hd:(d==A8)=false)(hm:Bx s.heap d es ep)(gs:(es.size:Int)<2 ^ 63)(h:Q (.int es.size (s.toks+1)) {s with toks:=s.toks+1+1}):wpAny (model prog w) A (call (.builtin "len") [.ref d]) Q E s:=by
 refine KR kind_len plain_len entry_len (args_len1 _) ?_;unfold Builtin.«len»;refine Aa (m:=oneArg "len" _) (Ac ?_);refine Aa (m:=callSpecial? (.ref d) (Fe "__len__")) (wpAny_callSpecial?_slot (name:=Fe "__len__") hm.typeIs F.slot_dict_len
  (call_meetsIn F.slot_dict_len hm.typeIs F.entry_dict_len (F.args_dict_len_1 _) (Ya (n:=es.size) hd) ⟨⟨es,ep,hm,rfl⟩,?_⟩))
 show wpAny _ _ _ _ _ {s with toks:=s.toks+1};refine Aa (BS (Ac ?_));refine Aa (wpAny_letGo ?_);show wpAny _ _ (if((es.size:Nat):Int)<0 then _ else _) _ _ _;rw[if_neg (by omega)];show wpAny _ _ (if((es.size:Nat):Int) ≥ 2 ^ 63 then _ else _) _ _ _;rw[if_neg (by omega)];exact Aa (wpAny_mkInt (Ac ⟨_,rfl,h⟩))
end
variable[FX]
end HP
namespace HT
open PySem PySem.Spec PyProof.Rows L2
end HT
namespace HP
open PySem PySem.Spec PyProof.Rows L2
end HP
namespace HP
open PySem PySem.Spec PyProof.Rows L2
variable[FX]
end HP
namespace HP
open PySem PySem.Spec PyProof.Rows L2
end HP
namespace HP
open PySem PySem.W PyProof.Rows
end HP
namespace HP
open PySem PySem.Spec PyProof.Rows L2
variable[FX]
section
variable{X:Cx}{bE:List (Addr×Obj)}{Y:L2.St}{H FS:J}{s:Shared}
theorem QV{K:Ad}{F:J}{t:List Int}{v:V}(rp:bL K F (.tuple (HM.dB t)) v):∃c,v=.ref c/\F c=some (.tup (t.map V.int)):=by
 generalize hq:HM.dB t=q at rp;cases rp with
 | @tupk b x h1 =>
  exfalso;cases t with
  |nil=>cases hq
  |cons a t =>
   injection hq with e1 _
   cases e1
 | @tup b _ xs hb hl hr=>subst hq;have ev:=Ea (F:=F) (LA t) ⟨hl,hr⟩;subst ev;exact⟨b,rfl,hb⟩
variable{k:Nat}{params:Arguments}{body:Expr}{scope:Scope}{x:Str}{q:Addr}{ts:List (List Int)}{ws:List V}{its:List Value}{P:HJ->Shared->Prop}{E:Value->Shared->Prop}
end
end HP
namespace HP
open PySem PySem.W PyProof.Rows
end HP
namespace HP
open PySem PySem.Spec PyProof.Rows L2
variable[FX]
end HP
namespace HP
open PySem PySem.Spec PySem.W PySem.Calls PyProof.Rows L2
variable[FX]
end HP
namespace HP
open PySem PySem.Spec PyProof.Rows L2
end HP
namespace HP
open PySem PySem.Spec PyProof.Rows L2
variable[FX]
end HP
namespace HP
open PySem PySem.W PyProof.Rows
end HP
namespace HP
open PySem PySem.Spec PyProof.Rows L2
end HP
namespace HP
open PySem PySem.Spec PyProof.Rows L2
variable[FX]
end HP
namespace HP
open PySem PySem.Spec PyProof.Rows L2
theorem YJ:fillsNumberSlot (.type "tuple") "mul"=pure false :=
 PySem.fillsNumberSlot_seq (r:=some (.builtin "tuple.__rmul__")) F.slot_tuple_mul.lookup (by decide +kernel) F.slot_tuple_rmul.lookup (by decide +kernel)
theorem WN:seqRepeat? (.type "tuple")=pure (some (.builtin "tuple.__mul__")):=by unfold seqRepeat?;rw[PySem.seqSlot_of (T:="tuple") (name:="__mul__") (id:="tuple.__mul__") F.slot_tuple_mul.lookup (by decide +kernel),PySem.seqSlot_of (T:="tuple") (name:="__rmul__") (id:="tuple.__rmul__") F.slot_tuple_rmul.lookup (by decide +kernel)];rfl
theorem Uv(a:Int)(t:Tok)(l:Addr)(dd:Option Addr)(items:Array Value)(n:Nat)(sl:Array (Option Value)):Meets (Builtin.«int.__rmul__» ⟨[.int a t,.ref l],[]⟩) (λ_ R s=>s.heap.get? l=some ⟨.type "tuple",dd,.seq items n,sl⟩/\R (.ok (.ret Value.notImplemented)) s) :=
 .of_wp λprog w A R s h=>by
  obtain⟨hp,g,d,tk,os⟩:=s;obtain⟨hl,h⟩:=h
  wp_walk
  exact⟨_,rfl,h⟩
section
variable{prog:Program}{w:World}{A:Around}{E:Value->Shared->Prop}{s:Shared}
theorem TV{l:Addr}{dd:Option Addr}{items:Array Value}{n:Nat}{sl:Array (Option Value)}{k:Int}{t:Tok}{P:HJ->Shared->Prop}(ho:s.heap.get? l=some ⟨.type "tuple",dd,.seq items n,sl⟩)(h0:0<=k)(h1:k<1000)(hz:items.size<1000)(hs:sizeOk (.seq ((Al k.toNat items).foldl (·++·) #[])))(same:(items.isEmpty||k==1)=true->P (.done (.ret (.ref l))) s)(new:(items.isEmpty||k==1)=false->P (.done (.ret (.ref s.heap.objs.size))) {s with heap:=s.heap.push {cls:=.type "tuple",data:=.seq ((Al k.toNat items).foldl (·++·) #[])}}):wpAny (model prog w) A (Builtin.«tuple.__mul__» ⟨[.ref l,.int k t],[]⟩) P E s:=by
 unfold Builtin.«tuple.__mul__»
 k_delta "repeated"
 have n1:¬(decide (k < -(2:Int) ^ 63)||decide (k ≥ (2:Int) ^ 63))=true:=by rw[Fb,decide_eq_true_eq,decide_eq_true_eq];omega
 obtain⟨hp,g,d,tk,os⟩:=s
 wp_walk
 rw[if_neg n1];dsimp only;refine Aa (Iz ho rfl ?_)
 by_cases c:(items.isEmpty||k==1)=true
 .rw[if_pos c]
  refine Aa ?_;unfold Builtin.Tuple.tupleIsExact;refine Aa (wpAny_typeOf (T:="tuple") ⟨_,ho,rfl⟩ (Ac ?_));rw[if_pos (by decide)];exact Aa (En (Ac (same c)))
 .rw[if_neg c]
  have new:=new (by simpa using c);have ne:items.isEmpty=false:=by
   cases q:items.isEmpty with
   |false=>rfl
   |true=>rw[q]at c;exact absurd rfl c
  by_cases hk:k<=0
  .have e:k=0:=by omega
   subst e;rw[if_pos (by simp)];refine Aa ?_;unfold Iw;exact B8 (Ac new)
  .rw[if_neg (by rw[ne,Ik,decide_eq_true_eq];exact hk)]
   have b1:(items.size:Int)*k<=1000*1000:=Int.mul_le_mul (by omega) (by omega) (by omega) (by omega);rw[if_neg (by omega),if_neg (by unfold Builtin.Tuple.tupleTooMany;rw[decide_eq_true_eq,Bo];omega)];refine Aa ?_;unfold Iw;exact B8 (Ac new) hs
end
section
variable[FX]{X:Cx}{a b:Expr}{fa fb:HM.EF}{pos:Pos}
def Rv(K:Ad)(x y:V)(H:J)(Q:VK):Prop:=∃l k xs,x=.ref l/\y=.int k/\cE K H l xs/\0<=k/\k<1000/\xs.length<1000/\((xs=[]\/k=1)->Q (.ref l) H)/\∀p,H p=none->Q (.ref p) (upd H p (.tup (Al k.toNat xs).flatten))
theorem T2:cN X (Cf .Mult) (Rv X.K):=by
 intro bE s Y H x y v u Q I rx ry h;obtain⟨l,k,xs,rfl,rfl,hq,h0,h1,hz,q1,q2⟩:=h;cases rx;obtain⟨t,rfl⟩:=ry;obtain⟨its,r,⟨o,ho,hc,n,hd⟩,_⟩:=I.tuple hq;have hl:its.length=xs.length:=r.length.symm;obtain⟨kQ,dd,jm,sl⟩:=o;simp only at hc hd;subst hc hd;have f0:Gg (λx1 x2=>x1++x2) #[] (Al k.toNat its.toArray)=(Al k.toNat its).flatten.toArray:=by have:=foldl_rep its k.toNat [];rw[HQ]at this;exact this
 have bK:(Al k.toNat xs).flatten.length<=sizeLine:=by
  rw[eI];have e3:(1000*1000:Nat)<=sizeLine:=by decide
  exact BE (Ip (by omega) (by omega)) e3
 have hsz:sizeOk (.seq (Gg (λx1 x2=>x1++x2) #[] (Al k.toNat its.toArray))):=by rw[f0];show(Al k.toNat its).flatten.toArray.size<=sizeLine;rw[Au,<-(r.rep k.toNat).length];exact bK
 refine wpAny_binaryOp_repeat_ref (T:="tuple") (U:="int") (by decide) ⟨_,ho,rfl⟩ (λs'=>Gh s' k t) YJ F.fills_int_mul F.slot_int_rmul WN F.slot_int_index.lookup
  (call_meets F.slot_int_rmul (Gh s k t) F.entry_int_rmul (F.args_int_rmul_2 _ _) (Uv k t l dd its.toArray n sl) ⟨ho,rfl,⟨_,ho,rfl⟩,BI F.slot_tuple_mul ⟨_,ho,rfl⟩ F.entry_tuple_mul (TV ho h0 h1 (by rw[Au];omega) hsz (λc=>⟨_,rfl,?_⟩) λc=>⟨_,rfl,?_⟩) (F.args_tuple_mul_2 _ _)⟩)
 .refine⟨.ref l,H,I,rfl,q1 ?_⟩
  rw[Fb,beq_iff_eq]at c;rcases c with c|c
  .left
   have:its.length=0:=by simpa using c
   exact Dy (by omega)
  .exact .inr c
 .rw[f0]
  exact⟨.ref _,_,I.laid (a:=s.heap.objs.size) (o:=.tup (Al k.toNat xs).flatten) (t':=s.toks) (λ_ _ e=>As _ e) (Ag _) ⟨bK,_,r.rep k.toNat,_,AI _ rfl,rfl,0,rfl⟩,rfl,q2 _ I.fresh⟩
theorem UN(ha:XE X a fa)(hb:XE X b fb):XE X (.BinOp a .Mult b pos) (HM.Me fa fb):=by
 intro r d h;unfold HM.Me at h;split at h
 case h_2=>cases h
 rename_i xs hx;split at h
 case h_2=>cases h
 rename_i k hk;split at h
 case isFalse=>cases h
 rename_i hz;cases h;rw[BJ,BJ,decide_eq_true_eq,decide_eq_true_eq,decide_eq_true_eq]at hz;refine PE.imp (GR T2 (ha r _ hx) (hb r _ hk)) λY H Q ⟨F0,H0,F,at_,kk⟩=>?_;refine⟨F0,H0,F,at_,λv F1 H1 x1 r1=>⟨F0,H0,F1,at_.grow x1,λw F2 H2 x2 r2=>?_⟩⟩;have r1':=r1.mono x2.ff;obtain⟨l,vs,rfl,hq,rs⟩:=LL r1';have hl:=rs.1;refine⟨l,k,vs,rfl,r2.int_inv,hq.imp (λz=>z.imp (x2.sub _ _) λ⟨o,z⟩=>⟨o,x2.sub _ _ z⟩) id,hz.1.1,hz.1.2,by omega,λc=>?_,λp hp=>?_⟩
 .refine kk _ F2 H2 (x1.trans x2) ?_
  have e:(Al k.toNat xs).flatten=xs:=by
   rcases c with c|c
   .have:xs=[]:=Dy (by rw[hl,c];rfl)
    rw[this];simp
   .rw[c];simp
  rw[e];exact r1'
 .have q:Zt X.K (upd F2 p (.tup (Al k.toNat vs).flatten)) (Al k.toNat xs).flatten (Al k.toNat vs).flatten:=(rs.rep k.toNat).mono (Zp.upd' ((x1.trans x2).sub.free hp))
  exact kk _ _ _ ((x1.trans x2).lay (o:=.tup (Al k.toNat vs).flatten) hp) (.tup Zz q.1 q.2)
end
end HP
namespace HP
open PySem PySem.Spec PyProof.Rows L2
variable[FX]
end HP
namespace HN
open PySem
section
variable{a:Addr}{c:Bool}{Q:Bool->Shared->Prop}{vs xs ys:List Value}{prog:Program}{s:Shared}
section
variable{prog:Program}{w:World}{A:Around}{E:Value->Shared->Prop}{s:Shared}
def bI(b:Bool):Int:=if b then 1 else 0
theorem Ws{b:Bool}{Q:Int->Shared->Prop}(h:Q (hashInt (bI b)) {s with toks:=s.toks+1}):wpAny (model prog w) A (pyHash (.bool b)) Q E s:=by
 have hr:=rawHash_range (bI b);have hT:s.TypeIs (.bool b) "bool":=rfl;unfold pyHash;have hv:[Ek b].any Value.onHeap=false:=rfl;refine Aa ?_;rw[cRoomFor,if_neg (by rw[hv];exact Bp)];refine Ac ?_
 refine Aa (E8 hT F.slot_bool_hash.lookup ?_);show wpAny _ _ (if(some (Value.builtin "int.__hash__")==some AY)=true then _ else _) Q E s;rw[if_neg (by rw[beq_builtin_none];exact Bp)];refine Aa (E8 hT F.slot_bool_hash.lookup ?_);show wpAny _ _ (callSpecialIfBoundUnlessNone? (.bool b) "__hash__" _ >>= _) Q E s;refine Aa (wpAny_callSpecialIfBoundUnlessNone?_slot hT F.slot_bool_hash
  (BI F.slot_bool_hash hT entry_int_hash
   (show wpAny _ _ (do ret (<-mkInt (rawHash (bI b)))) _ _ s from J9 ?_) (by rfl)))
 show wpAny _ _ (if(decide (-(2:Int) ^ 63<=rawHash (bI b))&&decide (rawHash (bI b)<2 ^ 63))=true then _ else _) Q E _;rw[if_pos (by rw[decide_eq_true hr.1,decide_eq_true hr.2];rfl)];exact Ac h
theorem V5{a b:Bool}(h:Q (decide (a=b)) s):wpAny (model prog w) A (eqBool (.bool a) (.bool b)) Q E s:=by
 unfold eqBool;show wpAny _ _ (if(Ek a==Ek b)=true then _ else _) Q E s
 by_cases cS:(Ek a==Ek b)=true
 .rw[if_pos cS]
  have e:a=b:=by have:=eq_of_beq cS;injection this
  subst e;exact Aa (En (Ac (by simpa using h)))
 .rw[if_neg cS]
  refine Aa (wpAny_richCompare_same (op:=.Eq) (T:="bool") rfl rfl F.slot_bool_eq (BI F.slot_bool_eq rfl entry_int_eq (show wpAny _ _ (ret (.bool (bI a==bI b))) _ _ s from Ac ⟨_,rfl,by simp,Du ?_⟩) (by rfl)));have:(bI a==bI b)=decide (a=b):=by cases a<;>cases b<;>rfl
  rw[this];exact h
end
def eZ(b:Bool)(v:Value):Bool:=match v with
 | .bool c=>c==b
 |_=>false
theorem FA{b:Bool}{v:Value}(h:eZ b v=true):v=.bool b:=by
 unfold eZ at h;split at h
 .rw[eq_of_beq h]
 .cases h
theorem S9(v:Value)(a b:Bool)(h1:eZ a v=true)(h2:eZ b v=true):a=b:=by have e1:=FA h1;have e2:=FA h2;rw[e1]at e2;injection e2
theorem Ts(k:Bool)(v:Value)(h:eZ k v=true):carriedByValue v=true:=by rw[FA h];rfl
section
variable{prog:Program}{w:World}{A:Around}{E:Value->Shared->Prop}{s:Shared}
theorem Vr{k:Bool}{v:Value}{Q:Int->Shared->Prop}(hv:eZ k v=true)(h:Q (hashInt (bI k)) {s with toks:=s.toks+1}):wpAny (model prog w) A (pyHash v) Q E s:=by rw[FA hv];exact Ws h
theorem UZ{a b:Bool}{u v:Value}(hu:eZ a u=true)(hv:eZ b v=true)(h:Q (decide (a=b)) s):wpAny (model prog w) A (eqBool u v) Q E s:=by rw[FA hu,FA hv];exact V5 h
end
theorem S6(k:Bool)(x:Str)(t:Tok)(v:Value)(h:eZ k (.str x t)=true):eZ k v=v.isStr x:=by cases h
def R4(prog:Program)(w:World):KeyKind prog w Bool:=⟨eZ,λb=>hashInt (bI b),S9,Ts,Vr,UZ,S6⟩
structure IK(prog:Program)(w:World)(K:Type)[DecidableEq K] where
 is:Heap->K->Value->Prop
 hash:K->Int
 draws:K->Nat
 dep:Nat
 inj:∀{h:Heap} {v:Value} {x y:K},is h x v->is h y v->x=y
 keeps:∀{h h':Heap} {k:K} {v:Value},is h k v->(∀b o items n,o.cls=.type "tuple"->o.data=.seq items n->h.get? b=some o->h'.get? b=some o)->is h' k v
 pyHash:∀{A:Around} {E:Value->Shared->Prop} {s:Shared} {k:K} {v:Value} {Q:Int->Shared->Prop},A.units+dep<=cLine->is s.heap k v->Q (hash k) {s with toks:=s.toks+draws k}->wpAny (model prog w) A (PySem.pyHash v) Q E s
 eqBool:∀{A:Around} {E:Value->Shared->Prop} {s:Shared} {x y:K} {u v:Value} {Q:Bool->Shared->Prop},A.units+dep<=cLine->is s.heap x u->is s.heap y v->Q (decide (x=y)) s->wpAny (model prog w) A (PySem.eqBool u v) Q E s
 quiet:∀{A:Around} {E:Value->Shared->Prop} {s:Shared} {k:K} {v:Value} {Q:Bool->Shared->Prop} (n:Nat),dep<=n->is s.heap k v->Q true s->wpAny (model prog w) A (DQ n v) Q E s
theorem Wm{w:World}{K:Type}[DecidableEq K](knd:KeyKind prog w K){A:Around}{E:Value->Shared->Prop}{k:K}{v:Value}(n:Nat)(h:knd.is k v=true)(q:Q true s):wpAny (model prog w) A (DQ n v) Q E s:=by rw[eqIsQuiet_byValue n (knd.byValue _ _ h)];exact Ac q
def Js{w:World}{K:Type}[DecidableEq K](knd:KeyKind prog w K):IK prog w K:=⟨λ_ k v=>knd.is k v=true,knd.hash,λ_=>1,0,λh1 h2=>knd.inj _ _ _ h1 h2,λh _=>h,λ_ h q=>knd.pyHash h q,λ_ h1 h2 q=>knd.eqBool h1 h2 q,λn _ h q=>Wm knd n h q⟩
section
variable{prog:Program}{w:World}
def oq(prog:Program)(w:World)(A:Around)(h:Heap)(v:Value)(k:Int)(n:Nat):Prop:=∀{E:Value->Shared->Prop} {s:Shared} {Q:Int->Shared->Prop},s.heap=h->Q k {s with toks:=s.toks+n}->wpAny (model prog w) A (pyHash v) Q E s
inductive iI(prog:Program)(w:World)(A:Around)(h:Heap):List Value->List Int->Nat->Prop
 |nil:iI prog w A h [] [] 0
 |cons {v:Value} {k:Int} {n m:Nat} {vs:List Value} {ks:List Int}:oq prog w A h v k n->iI prog w A h vs ks m->iI prog w A h (v::vs) (k::ks) (n+m)
def ou(prog:Program)(w:World)(A:Around)(h:Heap)(u v:Value)(b:Bool):Prop:=∀{E:Value->Shared->Prop} {s:Shared} {Q:Bool->Shared->Prop},s.heap=h->Q b s->wpAny (model prog w) A (eqBool u v) Q E s
inductive gk(prog:Program)(w:World)(A:Around)(h:Heap):List Value->List Value->Bool->Prop
 |nil:gk prog w A h [] [] true
 |l {v:Value} {vs:List Value}:gk prog w A h (v::vs) [] false
 |r {v:Value} {vs:List Value}:gk prog w A h [] (v::vs) false
 |cons {u v:Value} {b c:Bool} {us vs:List Value}:ou prog w A h u v b->gk prog w A h us vs c->gk prog w A h (u::us) (v::vs) (b&&c)
def TupAt(h:Heap)(a:Addr)(vs:List Value):Prop:=∃o items n,h.get? a=some o/\o.cls=.type "tuple"/\o.data=.seq items n/\items.toList=vs
theorem TupAt.typeIs(x:TupAt s.heap a vs):s.TypeIs (.ref a) "tuple":=let ⟨o,_,_,ho,hc,_⟩:=x;⟨o,ho,hc⟩
theorem TupAt.inj{h:Heap}{a:Addr}{x y:List Value}(hx:TupAt h a x)(hy:TupAt h a y):x=y:=by
 obtain⟨o,items,n,ho,_,hd,hi⟩:=hx;obtain⟨o',items',n',ho',_,hd',hi'⟩:=hy;obtain rfl:o=o':=BH (ho.symm.trans ho');rw[hd]at hd';injection hd' with h1 _
 subst h1;rw[<-hi,<-hi']
theorem TupAt.keep{h h':Heap}{x:List Value}(hx:TupAt h a x)(k:∀b o items n,o.cls=.type "tuple"->o.data=.seq items n->h.get? b=some o->h'.get? b=some o):TupAt h' a x :=
 let ⟨o,items,n,ho,hc,hd,r⟩:=hx;⟨o,items,n,k a o items n hc hd ho,hc,hd,r⟩
variable{A:Around}{E:Value->Shared->Prop}{s:Shared}
theorem QE{ks:List Int}{m:Nat}{Q:Int->Shared->Prop}(hu:A.units<cLine)(ht:TupAt s.heap a vs)(hh:iI prog w A.in1 s.heap vs ks m)(h:Q (E5 (C0 ks)) {s with toks:=s.toks+(m+1)}):wpAny (model prog w) A (pyHash (.ref a)) Q E s:=by
 have hT:=ht.typeIs;obtain⟨o,items,n,ho,_,hd,hi⟩:=ht;unfold pyHash
 first|unfold pyHashByItsType|skip
 first|refine Aa (wpAny_cRoomFor_or (.inr hu) ?_)|skip
 refine Aa (E8 hT F.slot_tuple_hash.lookup ?_);show wpAny _ _ (if(some (Value.builtin "tuple.__hash__")==some AY)=true then _ else _) Q E s;rw[if_neg (by rw[beq_builtin_none];exact Bp)];refine Aa (E8 hT F.slot_tuple_hash.lookup ?_);show wpAny _ _ (callSpecialIfBoundUnlessNone? (.ref a) "__hash__" _ >>= _) Q E s;refine Aa (wpAny_callSpecialIfBoundUnlessNone?_slot hT F.slot_tuple_hash (BI F.slot_tuple_hash hT F.entry_tuple_hash ?_ (F.args_tuple_hash_1 _)));show wpAny _ _ (Builtin.Tuple.tupleItemsOf (.ref a) >>= _) _ _ s;refine Aa (Iz ho hd ?_);refine Aa ?_;rw[<-Array.forIn_toList,hi];refine Kf _
  (λrest (b:Array Int) s'=>∃done left m1 m2,ks=done++left/\iI prog w A.in1 s.heap rest left m2/\b.toList=done/\m1+m2=m/\s'={s with toks:=s.toks+m1})
  _ ?_ ?_ _ _ ⟨[],ks,0,m,rfl,hh,rfl,by omega,rfl⟩
 .rintro x rest b s' ⟨done,left,m1,m2,rfl,hl,hb,hm,rfl⟩
  cases hl with
  | @cons _ k n' m' _ ks' h1 hl' =>
   refine Aa (h1 rfl ?_)
   first
    |exact Ac ⟨done++[k],ks',m1+n',m',by simp,hl',by simp[hb],by omega,by simp[Ih]⟩
    |exact Aa (Ac (Ac ⟨done++[k],ks',m1+n',m',by simp,hl',by simp[hb],by omega,by simp[Ih]⟩))
 .rintro b s' ⟨done,left,m1,m2,rfl,hl,hb,hm,rfl⟩
  cases hl;rw[CB]at h;obtain rfl:m1=m:=by omega
  show wpAny _ _ (retInt (C0 b.toList)) _ _ _;rw[hb];refine J9 ?_;show wpAny _ _ (if(decide (-(2:Int) ^ 63<=C0 done)&&decide (C0 done<2 ^ 63))=true then _ else _) Q E _;unfold E5 at h
  by_cases hr:(decide (-(2:Int) ^ 63<=C0 done)&&decide (C0 done<2 ^ 63))=true
  .rw[if_pos hr]
   rw[if_pos hr]at h;exact Ac (by simpa [Ih]using h)
  .rw[if_neg hr]
   rw[if_neg hr]at h;exact Aa (En (Ac (by simpa [Ih]using h)))
theorem Xp{b:Addr}{P:Fin->Shared->Prop}(hx:TupAt s.heap a xs)(hy:TupAt s.heap b ys)(he:gk prog w A s.heap xs ys c)(h:P (.done (.ret (.bool c))) s):wpAny (model prog w) A (Builtin.«tuple.__eq__» ⟨[.ref a,.ref b],[]⟩) P E s:=by
 have nV:=hy.typeIs;obtain⟨oa,xa,na,nv,_,nR,l8⟩:=hx;obtain⟨ob,ya,nb,nu,_,eL,l7⟩:=hy;show wpAny _ _ (isInstance (.ref b) (.type "tuple") >>= _) _ _ s;refine Aa (Gu nV isSubtype_tuple_tuple ?_);simp only[Ig,CP,if_false];refine Aa (Iz nv nR ?_);refine Aa (Iz nu eL ?_);refine Aa ?_;refine Kf _
  (λrest r s'=>r.1=none/\s'=s/\∃xs' ys' c',rest=List.zip xs' ys'/\gk prog w A s.heap xs' ys' c'/\c'=c/\(xs'.length==ys'.length)=(xa.size==ya.size))
  _ ?_ ?_ _ _ ⟨rfl,rfl,xs,ys,c,by rw[l8,l7],he,rfl,by rw[<-l8,<-l7];simp⟩
 .rintro ⟨u,v⟩ rest r s' ⟨hr,rfl,xs',ys',c',hz,hE,hc,bK⟩
  cases hE with
  |nil=>simp at hz
  |l=>simp at hz
  |r=>simp at hz
  | @cons u' v' b' c'' us vs h1 hE' =>
   simp only[List.zip_cons_cons,List.cons.injEq,Prod.mk.injEq]at hz;obtain⟨⟨rfl,rfl⟩,rfl⟩:=hz;refine Aa (h1 rfl ?_);cases b' with
   |true=>simp only[Ig,CP,if_false];exact Ac ⟨rfl,rfl,us,vs,c'',rfl,hE',by simpa using hc,by simpa using bK⟩
   |false =>
    simp only[Bool.not_false,if_true];have hf:c=false:=by rw[<-hc];rfl
    rw[hf]at h;exact Aa (Ac (Ac (Ac h)))
 .rintro ⟨r1,r2⟩ s' ⟨hr,rfl,xs',ys',c',hz,hE,hc,bK⟩
  simp only at hr;subst hr;refine Ac ?_;have eN:(xa.size==ya.size)=c:=by
   rw[<-hc,<-bK];cases hE with
   |nil=>rfl
   |l=>rfl
   |r=>rfl
   |cons _ _=>simp at hz
  show P (.done (.ret (.bool (xa.size==ya.size)))) s';rw[eN];exact h
theorem QI{b:Addr}(hu:A.units<cLine)(hx:TupAt s.heap a xs)(hy:TupAt s.heap b ys)(he:gk prog w A.in1 s.heap xs ys c)(hr:a=b->c=true)(h:Q c s):wpAny (model prog w) A (eqBool (.ref a) (.ref b)) Q E s:=by
 unfold eqBool
 try with_reducible refine BS ?_
 show wpAny _ _ (if(A4 a==A4 b)=true then _ else _) Q E s
 by_cases cS:(A4 a==A4 b)=true
 .rw[if_pos cS]
  have e:a=b:=by have:=eq_of_beq cS;injection this
  rw[hr e]at h;exact Aa (En (Ac (by simpa using h)))
 .rw[if_neg cS]
  exact Aa (wpAny_richCompare_same_room (op:=.Eq) hx.typeIs hy.typeIs F.slot_tuple_eq
   (BI F.slot_tuple_eq hx.typeIs F.entry_tuple_eq (Xp hx hy he ⟨_,rfl,(λe=>nomatch e),Du h⟩) (F.args_tuple_eq_2 _ _)) hu)
theorem P9(n:Nat)(ht:TupAt s.heap a vs)(hq:∀v∈vs,∀{E:Value->Shared->Prop} {Q:Bool->Shared->Prop},Q true s->wpAny (model prog w) A (DQ n v) Q E s)(h:Q true s):wpAny (model prog w) A (DQ (n+1) (.ref a)) Q E s:=by
 have hT:=ht.typeIs;obtain⟨o,items,n',ho,_,hd,hi⟩:=ht;unfold DQ;refine Aa (E8 hT F.slot_tuple_eq.lookup ?_);show wpAny _ _ (isInstance (.ref a) (.type "tuple") >>= _) _ _ s;refine Aa (Gu hT isSubtype_tuple_tuple ?_);simp only[Ig,CP,if_false];refine Aa (wpAny_seqItems ho hd ?_);refine Aa ?_;show wpAny _ _ (forIn items _ _) _ _ s;rw[<-Array.forIn_toList,hi];refine Kf _ (λrest r s'=>r.1=none/\s'=s/\∀v∈rest,v∈vs) _ ?_ ?_ _ _ ⟨rfl,rfl,λ_ h=>h⟩
 .rintro v rest r s' ⟨hr,rfl,dS⟩
  refine Aa (hq v (dS v An) ?_);simp only[Ig,CP,if_false];exact Ac ⟨rfl,rfl,λu hu'=>dS u (Aq _ hu')⟩
 .rintro ⟨r1,r2⟩ s' ⟨hr,rfl,_⟩
  simp only at hr;subst hr;exact Ac h
end
end
section
variable{Q:Bool->Shared->Prop}{h h':Heap}{u:Value}
section
variable{prog:Program}{w:World}{K K':Type}[DecidableEq K][DecidableEq K'](I:IK prog w K)(oJ:IK prog w K')
inductive Bs(h:Heap):List K->List Value->Prop
 |nil:Bs h [] []
 |cons {k:K} {v:Value} {ks:List K} {vs:List Value}:I.is h k v->Bs h ks vs->Bs h (k::ks) (v::vs)
variable{I}
theorem Bs.inj{h:Heap}{x y:List K}{vs:List Value}(hx:Bs I h x vs)(hy:Bs I h y vs):x=y:=by
 induction hx generalizing y with
 |nil=>cases hy;rfl
 |cons h1 _ ih =>
  cases hy with
  |cons h2 t2=>rw[I.inj h1 h2,ih t2]
theorem Bs.keeps{h h':Heap}{x:List K}{vs:List Value}(hx:Bs I h x vs)(k:∀b o items n,o.cls=.type "tuple"->o.data=.seq items n->h.get? b=some o->h'.get? b=some o):Bs I h' x vs:=by
 induction hx with
 |nil=>exact .nil
 |cons h1 _ ih=>exact .cons (I.keeps h1 k) ih
theorem Bs.hash{A:Around}{h:Heap}{x:List K}{vs:List Value}(hu:A.units+I.dep<=cLine)(hx:Bs I h x vs):iI prog w A h vs (x.map I.hash) (x.map I.draws).sum:=by
 induction hx with
 |nil=>exact .nil
 |cons h1 _ ih=>exact .cons (λe q=>I.pyHash hu (e▸h1) q) ih
theorem Bs.eq{A:Around}{x y:List K}{us vs:List Value}(hu:A.units+I.dep<=cLine)(hx:Bs I h x us)(hy:Bs I h y vs):gk prog w A h us vs (decide (x=y)):=by
 induction hx generalizing y vs with
 |nil =>
  cases hy with
  |nil=>exact .nil
  |cons _ _=>exact .r
 | @cons k v ks vs' h1 _ ih =>
  cases hy with
  |nil=>exact .l
  | @cons k2 v2 ks2 vs2 h2 t2 =>
   have:decide (k::ks=k2::ks2)=(decide (k=k2)&&decide (ks=ks2)):=by rw[CN];simp
   rw[this];exact .cons (λe q=>I.eqBool hu (e▸h1) (e▸h2) q) (ih t2)
theorem Bs.quiet{A:Around}{s:Shared}{x:List K}{vs:List Value}{n:Nat}(hn:I.dep<=n)(hx:Bs I s.heap x vs):∀v∈vs,∀{E:Value->Shared->Prop} {Q:Bool->Shared->Prop},Q true s->wpAny (model prog w) A (DQ n v) Q E s:=by
 induction hx with
 |nil=>intro v hv;simp at hv
 |cons h1 _ ih =>
  intro v hv E Q q;rcases Aw.mp hv with rfl|hv
  .exact I.quiet n hn h1 q
  .exact ih v hv q
theorem bX(A:Around):A.in1.units=A.units+1:=rfl
variable(I)
def gd(h:Heap)(ks:List K)(v:Value):Prop:=∃a vs,v=.ref a/\TupAt h a vs/\Bs I h ks vs
theorem T7{v:Value}{x y:List K}(h1:gd I h x v)(h2:gd I h y v):x=y:=by obtain⟨a,vs,rfl,t1,i1⟩:=h1;obtain⟨a',vs',e,t2,i2⟩:=h2;cases e;obtain rfl:=t1.inj t2;exact i1.inj i2
theorem Vs{k:List K}{v:Value}(h1:gd I h k v)(hk:∀b o items n,o.cls=.type "tuple"->o.data=.seq items n->h.get? b=some o->h'.get? b=some o):gd I h' k v:=by obtain⟨a,vs,rfl,t1,i1⟩:=h1;exact⟨a,vs,rfl,t1.keep hk,i1.keeps hk⟩
section
variable{A:Around}{E:Value->Shared->Prop}{s:Shared}
theorem U4{k:List K}{v:Value}{Q:Int->Shared->Prop}(hu:A.units+(I.dep+1)<=cLine)(h1:gd I s.heap k v)(q:Q (E5 (C0 (k.map I.hash))) {s with toks:=s.toks+((k.map I.draws).sum+1)}):wpAny (model prog w) A (pyHash v) Q E s:=by obtain⟨a,vs,rfl,t1,i1⟩:=h1;exact QE (by omega) t1 (i1.hash (by rw[bX];omega)) q
theorem RH{x y:List K}{v:Value}(hu:A.units+(I.dep+1)<=cLine)(h1:gd I s.heap x u)(h2:gd I s.heap y v)(q:Q (decide (x=y)) s):wpAny (model prog w) A (eqBool u v) Q E s:=by obtain⟨a,vs,rfl,t1,i1⟩:=h1;obtain⟨a',vs',rfl,t2,i2⟩:=h2;refine QI (by omega) t1 t2 (i1.eq (by rw[bX];omega) i2) (λe=>?_) q;subst e;obtain rfl:=t1.inj t2;rw[i1.inj i2];exact decide_eq_true rfl
theorem VJ{k:List K}{v:Value}(n:Nat)(hn:I.dep+1<=n)(h1:gd I s.heap k v)(q:Q true s):wpAny (model prog w) A (DQ n v) Q E s:=by obtain⟨a,vs,rfl,t1,i1⟩:=h1;obtain⟨m,rfl⟩:∃m,n=m+1:=⟨n-1,by omega⟩;exact P9 m t1 (i1.quiet (by omega)) q
end
def LD:IK prog w (List K):=⟨gd I,λks=>E5 (C0 (ks.map I.hash)),λks=>(ks.map I.draws).sum+1,I.dep+1,λh1 h2=>T7 I h1 h2,λh1 hk=>Vs I h1 hk,λhu h1 q=>U4 I hu h1 q,λhu h1 h2 q=>RH I hu h1 h2 q,λn hn h1 q=>VJ I n hn h1 q⟩
def gf(h:Heap)(p:K×K')(v:Value):Prop:=∃a u x,v=.ref a/\TupAt h a [u,x]/\I.is h p.1 u/\oJ.is h p.2 x
theorem Ss{v:Value}{x y:K×K'}(h1:gf I oJ h x v)(h2:gf I oJ h y v):x=y:=by
 obtain⟨a,u,z,rfl,t1,i1,j1⟩:=h1;obtain⟨a',u',z',e,t2,i2,j2⟩:=h2;cases e;have e:=t1.inj t2;injection e with e1 e2
 injection e2 with e2 _
 subst e1;subst e2;exact Prod.ext (I.inj i1 i2) (oJ.inj j1 j2)
theorem VU{k:K×K'}{v:Value}(h1:gf I oJ h k v)(hk:∀b o items n,o.cls=.type "tuple"->o.data=.seq items n->h.get? b=some o->h'.get? b=some o):gf I oJ h' k v:=by obtain⟨a,u,z,rfl,t1,i1,j1⟩:=h1;exact⟨a,u,z,rfl,t1.keep hk,I.keeps i1 hk,oJ.keeps j1 hk⟩
section
variable{A:Around}{E:Value->Shared->Prop}{s:Shared}
theorem Tv{k:K×K'}{v:Value}{Q:Int->Shared->Prop}(hu:A.units+(I.dep+oJ.dep+1)<=cLine)(h1:gf I oJ s.heap k v)(q:Q (E5 (C0 [I.hash k.1,oJ.hash k.2])) {s with toks:=s.toks+(I.draws k.1+(oJ.draws k.2+0)+1)}):wpAny (model prog w) A (pyHash v) Q E s:=by obtain⟨a,u,z,rfl,t1,i1,j1⟩:=h1;exact QE (by omega) t1 (.cons (λe q=>I.pyHash (by rw[bX];omega) (e▸i1) q) (.cons (λe q=>oJ.pyHash (by rw[bX];omega) (e▸j1) q) .nil)) q
theorem Rq{x y:K×K'}{v:Value}(hu:A.units+(I.dep+oJ.dep+1)<=cLine)(h1:gf I oJ s.heap x u)(h2:gf I oJ s.heap y v)(q:Q (decide (x=y)) s):wpAny (model prog w) A (eqBool u v) Q E s:=by
 obtain⟨a,u,z,rfl,t1,i1,j1⟩:=h1;obtain⟨a',u',z',rfl,t2,i2,j2⟩:=h2;have hd:decide (x=y)=(decide (x.1=y.1)&&(decide (x.2=y.2)&&true)):=by rw[CN];simp[Prod.ext_iff]
 refine QI (c:=decide (x=y)) (by omega) t1 t2 ?_ (λe=>?_) q
 .rw[hd]
  exact .cons (λe q=>I.eqBool (by rw[bX];omega) (e▸i1) (e▸i2) q) (.cons (λe q=>oJ.eqBool (by rw[bX];omega) (e▸j1) (e▸j2) q) .nil)
 .subst e
  have e:=t1.inj t2;injection e with e1 e2
  injection e2 with e2 _
  subst e1;subst e2;exact decide_eq_true (Prod.ext (I.inj i1 i2) (oJ.inj j1 j2))
theorem Vt{k:K×K'}{v:Value}(n:Nat)(hn:I.dep+oJ.dep+1<=n)(h1:gf I oJ s.heap k v)(q:Q true s):wpAny (model prog w) A (DQ n v) Q E s:=by
 obtain⟨a,u,z,rfl,t1,i1,j1⟩:=h1;obtain⟨m,rfl⟩:∃m,n=m+1:=⟨n-1,by omega⟩;refine P9 m t1 (λv hv E Q q=>?_) q;rcases Aw.mp hv with rfl|hv
 .exact I.quiet m (by omega) i1 q
 .rw[AA.mp hv]
  exact oJ.quiet m (by omega) j1 q
end
def OI:IK prog w (K×K'):=⟨gf I oJ,λp=>E5 (C0 [I.hash p.1,oJ.hash p.2]),λp=>I.draws p.1+(oJ.draws p.2+0)+1,I.dep+oJ.dep+1,λh1 h2=>Ss I oJ h1 h2,λh1 hk=>VU I oJ h1 hk,λhu h1 q=>Tv I oJ hu h1 q,λhu h1 h2 q=>Rq I oJ hu h1 h2 q,λn hn h1 q=>Vt I oJ n hn h1 q⟩
theorem Uq{k:K}{a d:Addr}{o:Obj}{es:Array DictEntry}{ep:Nat}(h1:I.is h k (.ref a))(ho:h.get? d=some o)(de:o.data=.dict es ep)(hs:CV d h h'):I.is h' k (.ref a):=by
 refine I.keeps h1 λb q items n _ hq hb=>?_;have cv:b≠d:=by
  rintro rfl
  rw[ho]at hb;cases hb;rw[de]at hq;exact nomatch hq
 exact(hs.2 b cv).trans hb
def aR(hd:I.dep<=8):HeapKind prog w K:=⟨λh k a=>I.is h k (.ref a),I.hash,I.draws,λA=>A.units+I.dep<=cLine,λh1 h2=>I.inj h1 h2,λh1 ho de hs=>Uq I h1 ho de hs,λhu h1 q=>I.pyHash hu h1 q,λhu h1 h2 q=>I.eqBool hu h1 h2 q,λh1 q=>I.quiet 8 hd h1 q⟩
end
def m1K(prog:Program)(w:World):IK prog w (Bool×List Int):=OI (Js (R4 prog w)) (LD (Js (intKind prog w)))
def m2K(prog:Program)(w:World):IK prog w (Int×List (List Int)):=OI (Js (intKind prog w)) (LD (LD (Js (intKind prog w))))
end
end HN
namespace HP
open PySem PySem.Spec PyProof.Rows L2
variable[FX]
section
variable{a:Addr}{h:Heap}{H:J}{ns:List Int}{fp:Nat->List Addr}
section
variable{P:Program}{w:World}{K:Type}[DecidableEq K]
def dz(knd:HeapKind P w K)(a:Addr)(xs:List (K×Addr×Value)):HO:=.ext λh=>xs.length<=sizeLine/\(a==A8)=false/\∃o es ep,h.get? a=some o/\o.ExactDict/\o.data=.dict es ep/\es.toList=xs.map (entryOfKey knd)/\(xs.map (·.1)).Nodup
theorem Oi{knd:HeapKind P w K}{xs:List (K×Addr×Value)}(z:xs.length<=sizeLine)(hd:(a==A8)=false){o:Obj}{es:Array DictEntry}{ep:Nat}(h1:h.get? a=some o)(h2:o.ExactDict)(h3:o.data=.dict es ep)(h4:es.toList=xs.map (entryOfKey knd))(h5:(xs.map (·.1)).Nodup):ZU P w H h a (dz knd a xs):=by refine⟨⟨z,hd,o,es,ep,h1,h2,h3,h4,h5⟩,⟨o,h1⟩,λg1 g2 ⟨q1,q2,o',es',ep',e1,r⟩ k=>⟨q1,q2,o',es',ep',k _ e1,r⟩⟩
def Fv(knd:HeapKind P w K)(H:J)(k:K)(b:Addr):Prop:=∀h,cu P w H h->knd.is h k b
end
section
variable{X:Cx}{bE:List (Addr×Obj)}{Y:L2.St}{H:J}{s:Shared}{a b:Addr}{z:V}{r:Value}{A:Around}{E:Value->Shared->Prop}{K:Type}[DecidableEq K]{knd:HeapKind X.prog X.w K}{xs:List (K×Addr×Value)}{k:K}
theorem SW(I:Inv X bE Y H s)(e:H a=some (dz knd a xs))(hk:∀x∈xs,Fv knd H x.1 x.2.1):xs.length<=sizeLine/\(a==A8)=false/\s.heap.DictOfH knd a xs:=by obtain⟨⟨z,hd,o,es,ep,h1,h2,h3,h4,h5⟩,_⟩:=(show ZU X.prog X.w H s.heap a (dz knd a xs) from I.hok a _ e);exact⟨z,hd,o,es,ep,h1,h2,h3,h4,λx hx=>hk x hx _ I.hok,h5⟩
theorem TR{Q:Value->Shared->Prop}(hu:knd.room A.in1)(I:Inv X bE Y H s)(e:H a=some (dz knd a xs))(hk:∀x∈xs,Fv knd H x.1 x.2.1)(hb:Fv knd H k b)(hl:xs.length<sizeLine)(h1:∀p,atKey xs k=some p->∀s',Inv X bE Y H s'->Q p.2 s')(h2:atKey xs k=none->∀s',Inv X bE Y (upd H a (dz knd a (xs++[(k,b,r)]))) s'->Q r s'):wpAny (model X.prog X.w) A (call (.builtin "dict.setdefault") [.ref a,.ref b,r]) Q E s:=by
 obtain⟨zz,hd,dd⟩:=SW I e hk;refine call_meetsIn NW dd.typeIs PySem.F.entry_dict_setdefault (PySem.F.args_dict_setdefault_3 _ _ _) (YY (knd:=knd) a b hd r) ⟨hu,k,xs,hb _ I.hok,dd,zz,λp hp=>?_,λhn h' dd' hs=>?_⟩
 .exact h1 p hp _ (I.tok _)
 .refine h2 hn _ ?_
  rw[HE hn]at dd';obtain⟨q,es,ep,hq,g2,g3,g4,_,g5⟩:=dd';exact Hd I (by rw[e];exact DO) hs ⟨q,hq⟩ (Oi (by rw[AH];exact hl) hd hq g2 g3 g4 g5)
end
def K2{X:Cx}{K:Type}[DecidableEq K](knd:HeapKind X.prog X.w K)(td ty tx:TE):TE:=λY H Q=>td Y H λx H1=>∃a,x=.ref a/\(∃ys,H1 a=some (dz knd a ys))/\ty Y H1 λy H2=>tx Y H2 λz H3=>∃xs k b,H3 a=some (dz knd a xs)/\y=.ref b/\(∀x∈xs,Fv knd H3 x.1 x.2.1)/\Fv knd H3 k b/\xs.length<sizeLine /\
 (∀p,atKey xs k=some p->∃v,RelV v p.2/\Q v H3)/\(atKey xs k=none->∀r,RelV z r->Q z (upd H3 a (dz knd a (xs++[(k,b,r)]))))
section
variable{X:Cx}{o e f:Expr}{dU cB:Pos}{td ty tx:TE}{K:Type}[DecidableEq K]{knd:HeapKind X.prog X.w K}
theorem Sg(hu:knd.room X.A.in1)(ho:PE X o td)(he:PE X e ty)(hf:PE X f tx)(m:M2 X o "setdefault" dU e f cB):PE X (.Call (.Attribute o "setdefault" dU) [e,f] [] cB) (K2 knd td ty tx):=by intro bE s Y H Q I h;refine wpAny_Call_method m.base m.few m.line PySem.F.plainAttrs_dict NW PySem.F.type_dict_setdefault (bM (ho bE s Y H _ I h) λu s1 ⟨x,H1,I1,rx,a,ex,⟨ys,d⟩,q1⟩=>?_);subst ex;obtain rfl:u=A4 a:=rx;obtain⟨⟨_,_,ob,_,_,e1,e2,_⟩,_⟩:=(show ZU X.prog X.w H1 s1.heap a (dz knd a ys) from I1.hok a _ d);refine⟨⟨ob,e1,e2.1⟩,λb hb=>by cases hb;exact⟨ob,e1,e2.2.1⟩,?_⟩;rw[m.trees];refine Nw rfl (NL (Kv (bM (he bE s1 Y H1 _ I1 q1) λiv s2 ⟨y,H2,I2,ry,q2⟩=>Kv (bM (hf bE s2 Y H2 _ I2 q2) λfv s3 ⟨z,H3,I3,rz,xs,k,b,ea,ey,hk,hb,hl,q3,q4⟩=>Calls.spliced_nil ?_))));subst ey;obtain rfl:iv=A4 b:=ry;exact TR hu I3 ea hk hb hl (λp hp s4 I4=>let ⟨v,rv,q⟩:=q3 p hp;⟨v,H3,I4,rv,q⟩) λhn s4 I4=>⟨z,_,I4,rz,q4 hn fv rz⟩
theorem Wt:AJ X (.builtin "len") (λxs H Q=>∃a ys,xs=[.ref a]/\H a=some (dz knd a ys)/\Q (.int ys.length) H):=by
 intro bE s Y H xs us Q I r h;obtain⟨a,ys,rfl,ha,q⟩:=h;obtain⟨u,rfl,ru⟩:=vals1 r;cases ru;obtain⟨⟨z,hd,o,es,ep,h1,h2,h3,h4,h5⟩,_⟩:=(show ZU X.prog X.w H s.heap a (dz knd a ys) from I.hok a _ ha);have jL:es.size=ys.length:=by rw[<-Ba,h4,Ae]
 have hm:Bx s.heap a es ep:=⟨o,h1,h2,h3⟩;refine UH hd hm (by rw[Bo]at z;omega) ?_;rw[jL];exact⟨.int ys.length,H,I.tok _,⟨s.toks+1,rfl⟩,q⟩
end
section
variable{K:Ad}{F0 H0 F H:J}{r:HM.Env}{Y:L2.St}{i:Nat}{a:Addr}
theorem Ax.forget(e:Ax K F0 H0 F H r Y fp)(i:Nat):Ax K F0 H0 F H (r.set i none) Y (λj=>if j=i then[]else fp j):=by
 have key:∀(j:Nat) (b:HM.B),(r.set i none)[j]?=some (some b)->j≠i/\r[j]?=some (some b):=λj b h=>by
  by_cases hj:j=i
  .subst hj
   by_cases hl:j<r.length
   .rw[CH hl]at h;cases h
   .rw[Nv (by rw[B6];omega)]at h;cases h
  .rw[Bl (Az hj)]at h
   exact⟨hj,h⟩
 refine⟨e.ext,by rw[B6];exact e.len,λj b h=>?_,λj h=>?_,λj c h=>?_,λj=>?_,λj k c gL h=>?_,e.tb,e.nt⟩
 .obtain⟨h1,h2⟩:=key j b h
  rw[if_neg h1];exact e.at_ j b h2
 .by_cases hj:j=i
  .rw[if_pos hj]
  .rw[if_neg hj]
   exact e.emp j λb hb=>h b (by rw[Bl (Az hj)];exact hb)
 .by_cases hj:j=i
  .rw[if_pos hj]at h;simp at h
  .rw[if_neg hj]at h;exact e.own j c h
 .by_cases hj:j=i
  .rw[if_pos hj];simp
  .rw[if_neg hj];exact e.nd j
 .by_cases hj:j=i
  .rw[if_pos hj]at h;simp at h
  .rw[if_neg hj]at h
   by_cases hk:k=i
   .rw[if_pos hk];simp
   .rw[if_neg hk];exact e.dis j k c gL h
theorem At.forget(e:At K F0 H0 F H r Y)(i:Nat):At K F0 H0 F H (r.set i none) Y:=let ⟨_,e⟩:=e;⟨_,e.forget i⟩
theorem Ax.outer(e:Ax K F0 H0 F H r Y fp)(ob:HO)(hF:F a=none)(h0:H0 a=none)(eR:∀j,a∉fp j)(tb:Tb (upd H a ob)):At K F0 H0 F (upd H a ob) r Y:=by
 refine⟨fp,⟨e.ext.ff,λb o z=>?_,λb o z=>?_,λb o z=>e.ext.new b o z,λ_=>tb,e.ext.nts⟩,e.len,λj b h=>?_,e.emp,e.own,e.nd,e.dis,e.tb,e.nt⟩
 .have hb:b≠a:=λq=>by subst q;rw[h0]at z;cases z
  exact(e.ext.hh b o z).cong (Zu hb)
 .have hb:b≠a:=λq=>by subst q;rw[hF]at z;cases z
  rw[Zu hb];exact e.ext.sub b o z
 .obtain⟨v,h1,h2⟩:=e.at_ j b h
  refine⟨v,h1,h2.mono (Zp.refl F) λc hc o z=>?_⟩;have hb:c≠a:=λq=>by subst q;exact eR j hc
  exact B3.of (by rw[Zu hb];exact z)
theorem At.outer(e:At K F0 H0 F H r Y)(ob:HO)(hF:F a=none)(h0:H0 a=none)(hn:∀u,H a=some u->Ez u=false)(tb:Tb (upd H a ob)):At K F0 H0 F (upd H a ob) r Y:=by obtain⟨fp,e⟩:=e;refine e.outer ob hF h0 (λj hj=>?_) tb;obtain⟨o,h1,h2⟩:=e.there2 hj;rw[hn o h1]at h2;cases h2
end
section
variable{P:Program}{w:World}{Fr:Ad}{F H:J}
def EA{K:Type}[DecidableEq K](knd:HeapKind P w K)(F:J)(k:K)(b:Addr):Prop:=∀H,Zp F H->Fv knd H k b
theorem EA.mono{K:Type}[DecidableEq K]{knd:HeapKind P w K}{F F':J}{k:K}{b:Addr}(h:EA knd F k b)(s:Zp F F'):EA knd F' k b:=λH z=>h H (s.trans z)
def lJ(P:Program)(w:World):HeapKind P w (Bool×List Int):=HN.aR (HN.m1K P w) (by show 2<=8;decide)
def lI(P:Program)(w:World):HeapKind P w (Int×List (List Int)):=HN.aR (HN.m2K P w) (by show 3<=8;decide)
theorem Je(ok:cu P w H h){vs:List V}(e:H a=some (.tup vs)):∃its,bG vs its/\HN.TupAt h a its:=by obtain⟨_,its,r,o,h1,h2,n,h3⟩:=(show ZU P w H h a (.tup vs) from ok a _ e);exact⟨its,r,o,its.toArray,n,h1,h2,h3,by simp⟩
theorem Pw{h:Heap}:∀{ns:List Int} {its:List Value},bG (ns.map V.int) its->HN.Bs (HN.Js (intKind P w)) h ns its
 |[],_,r=>by cases r;exact .nil
 |n::ns,_,r=>by
  cases r with
  |cons h1 r'=>obtain⟨t,rfl⟩:=h1;exact .cons (by show E6 n (.int n t)=true;simp[E6]) (Pw r')
theorem PR(ok:cu P w H h){c:Addr}(e:H c=some (.tup (ns.map V.int))):(HN.LD (HN.Js (intKind P w))).is h ns (.ref c):=by obtain⟨its,r,ht⟩:=Je ok e;exact⟨c,its,rfl,ht,Pw r⟩
theorem P0{h:Heap}(ok:cu P w H h):∀{qs:List (List Int×Addr)} {its:List Value},(∀q∈qs,H q.2=some (.tup (q.1.map V.int)))->bG (qs.map λq=>V.ref q.2) its->HN.Bs (HN.LD (HN.Js (intKind P w))) h (qs.map (·.1)) its
 |[],_,_,r=>by cases r;exact .nil
 |q::qs,_,hq,r=>by
  cases r with
  |cons h1 r'=>cases h1;exact .cons (PR ok (hq q (An ..))) (P0 ok (λx hx=>hq x (Aq _ hx)) r')
theorem vals2{x y:V}{its:List Value}(r:bG [x,y] its):∃u v,its=[u,v]/\RelV x u/\RelV y v:=by
 cases r with
 |cons h1 r=>cases r with
  |cons h2 r=>cases r;exact⟨_,_,rfl,h1,h2⟩
theorem Qs:∀{ts:List (List Int)} {vs:List V},Zt Fr F (HM.Y3 ts) vs->∃qs:List (List Int×Addr),vs=(qs.map λq=>V.ref q.2)/\qs.map (·.1)=ts/\∀q∈qs,F q.2=some (.tup (q.1.map V.int))
 |[],vs,r=>⟨[],r.nil_inv,rfl,λq hq=>by cases hq⟩
 |t::ts,vs,r=>by
  obtain⟨v,us,rfl,r1,r2⟩:=r.cons_inv;obtain⟨c,rfl,hc⟩:=QV r1;obtain⟨qs,rfl,e2,h⟩:=Qs r2;refine⟨(t,c)::qs,rfl,by rw[Ao,e2],λq hq=>?_⟩;rcases Aw.mp hq with rfl|hq
  .exact hc
  .exact h q hq
theorem R1{b:Bool}{v:V}(r:bL Fr F (.tuple [.bool b,.tuple (HM.dB ns)]) v):∃c,v=.ref c/\EA (lJ P w) F (b,ns) c:=by obtain⟨a,v1,v2,rfl,h1,r1,r2⟩:=L3 r;cases r1;obtain⟨c,rfl,h2⟩:=QV r2;refine⟨a,rfl,λH s h ok=>?_⟩;obtain⟨its,rv,ht⟩:=Je ok (s _ _ h1);obtain⟨u,x,rfl,e1,e2⟩:=vals2 rv;cases e1;cases e2;exact⟨a,_,_,rfl,ht,by show(b==b)=true;simp,PR ok (s _ _ h2)⟩
theorem RP{i:Int}{ts:List (List Int)}{v:V}(r:bL Fr F (.tuple [.int i,.tuple (HM.Y3 ts)]) v):∃c,v=.ref c/\EA (lI P w) F (i,ts) c:=by
 obtain⟨a,v1,v2,rfl,h1,r1,r2⟩:=L3 r;cases r1;obtain⟨c,vs,rfl,h2,rr⟩:∃c vs,v2=.ref c/\F c=some (.tup vs)/\Zt Fr F (HM.Y3 ts) vs:=by
  generalize hd:CT (HM.Y3 ts)=d at r2;cases r2 with
  |tup h hl hr=>injection hd with hd;subst hd;exact⟨_,_,rfl,h,hl,hr⟩
  |tupk h =>
   injection hd with hd
   unfold HM.Y3 at hd;cases ts with
   |nil=>cases hd
   |cons t ts=>rw[Ao]at hd;injection hd with hd _;cases hd
  |_=>cases hd
 obtain⟨qs,rfl,e2,hq⟩:=Qs rr;refine⟨a,rfl,λH s h ok=>?_⟩;obtain⟨its,rv,ht⟩:=Je ok (s _ _ h1);obtain⟨u,x,rfl,e3,e4⟩:=vals2 rv;obtain⟨t,rfl⟩:=e3;cases e4;obtain⟨el,mO,iq⟩:=Je ok (s _ _ h2);refine⟨a,_,_,rfl,ht,by show E6 i (.int i t)=true;simp[E6],c,el,rfl,iq,?_⟩;rw[<-e2];exact P0 ok (λq hq'=>s _ _ (hq q hq')) mO
end
theorem Qz{K:Type}[DecidableEq K]:∀{xs:List (K×Addr×Value)} {k:K},(∀i,(xs.map (·.1)).findIdx? (λx=>decide (x=k))=some i->∃x,xs[i]?=some x/\atKey xs k=some x.2)/\((xs.map (·.1)).findIdx? (λx=>decide (x=k))=none->atKey xs k=none)
 |[],k=>⟨λi h=>by simp at h,λ_=>rfl⟩
 |x::xs,k=>by
  obtain⟨h1,h2⟩:=Qz (xs:=xs) (k:=k);rw[Ao,Kt]
  by_cases e:x.1=k
  .have:decide (x.1=k)=true:=decide_eq_true e
   rw[this];refine⟨λi h=>?_,λh=>by simp at h⟩;simp at h;subst h;refine⟨x,rfl,?_⟩;unfold atKey;rw[CA,this];rfl
  .have hf:decide (x.1=k)=false:=decide_eq_false e
   have kC:atKey (x::xs) k=atKey xs k:=by unfold atKey;rw[CA,hf]
   rw[hf,kC];refine⟨λi h=>?_,λh=>?_⟩
   .have h:((xs.map (·.1)).findIdx? λx=>decide (x=k)).map (·+1)=some i:=h
    obtain⟨j,hj,rfl⟩:=Aj.mp h;obtain⟨y,hy,e2⟩:=h1 j hj;exact⟨y,by rw[Bq];exact hy,e2⟩
   .have h:((xs.map (·.1)).findIdx? λx=>decide (x=k)).map (·+1)=none:=h
    exact h2 (Option.map_eq_none_iff.mp h)
section
variable{X:Cx}{pos:Pos}
theorem Tb.outer(t:Tb H){vvs:List (List bO×V)}(h:H a=some (.dT vvs))(ob:HO):Tb (upd H a ob):=t.keep λb o z ht=>by
 have hb:b≠a:=λq=>by subst q;rw[h]at z;cases z;cases ht
 rw[Zu hb];exact z
theorem Tb.lst{H:J}{a l:Addr}{vs us:List V}(t:∀ob,Tb (upd H a ob))(hl:H l=some (.lst vs))(iz:l≠a)(ob:HO):Tb (upd (upd H l (.lst us)) a ob):=(t ob).keep λb o z ht=>by
 by_cases hb:b=a
 .subst hb;rw[Zz]at z ⊢;exact z
 .rw[Zu hb]at z ⊢
  have kB:b≠l:=λq=>by subst q;rw[hl]at z;cases z;cases ht
  rw[Zu kB];exact z
structure iH(X:Cx){K:Type}[DecidableEq K](knd:HeapKind X.prog X.w K)(F0 H0 F1:J)(a:Addr)(ds:List PyData)(ks:List K)(n:Nat)(Y:L2.St)(H:J)(F:J)(ns:List Int)(xs:List (K×Addr×Value)):Prop where
 at_:At X.K F0 H0 F H [some (.pl (.list ds)),none,some (.ol (ns.map AQ)),none] Y
 ff:Zp F1 F
 num:Y[1]?=some (some (.ref a))
 ha:H a=some (dz knd a xs)
 hF:F a=none
 h0:H0 a=none
 tb:∀ob,Tb (upd H a ob)
 kf:∀x∈xs,EA knd F x.1 x.2.1
 vs:∀(i:Nat) (x:K×Addr×Value),xs[i]?=some x->RelV (.int i) x.2.2
 go:ns++HM.BA (xs.map (·.1)) (ks.drop n)=HM.BA [] ks
 len:ns.length=n
 xl:xs.length<=n
theorem Pk{x1 x2 x3:Str}{iter:Expr}{p1 p2 p3 p4 p5 p6 p7 p8 p9 p10 cn pm:Pos}{K:Type}[DecidableEq K]{knd:HeapKind X.prog X.w K}(jo:knd.room X.A.in1)(hN:X.N.Nodup)(dW:X.xe=λ_ _=>False)(hc:X.calm=true)(bK:X.mg "len"=none){ds:List PyData}{ks:List K}(iC:ds.length<1000)(hkl:ks.length=ds.length)(dA:∀(n:Nat) (d:PyData) (k:K) (F:J) (v:V),ds[n]?=some d->ks[n]?=some k->bL X.K F d v->∃c,v=.ref c/\EA knd F k c)(hi:XI X (.Name x3 p1) iter (HM.ZW (HM.bW (HM.S 0))))(h1:X.N[1]?=some x1)(h2:X.N[2]?=some x2)(h3:X.N[3]?=some x3)(v1:d6 X.env.scope x1)(v2:d6 X.env.scope x2)(v3:d6 X.env.scope x3)(l3:Loc X.env.scope x3)(f3:X.fn x3=true\/X.env.scope.names.lookup x3=some .local)(d1:(x1==("__debug__":Str))=false)(d2:(x2==("__debug__":Str))=false)(d3:(x3==("__debug__":Str))=false)(c1:(x1==("__classdict__":Str))=false)(c2:(x2==("__classdict__":Str))=false)(c3:(x3==("__classdict__":Str))=false)(hg:Gl X "len")(iS:Af [HI x1 p7] X.env=[(false,eval (HI x1 p7) X.env)])(m:M2 X (.Name x1 p4) "setdefault" p5 (.Name x3 p6) (.Call (.Name "len" p8) [.Name x1 p7] [] p9) p10)(cW:Gb (.Name x2 p2) "append" X.env (eval (.Name x2 p2) X.env)=eval (.Name x2 p2) X.env)(c5:((backTo cn (Af [Bu (.Attribute (.Name x1 p4) "setdefault" p5) [.Name x3 p6,.Call (.Name "len" p8) [.Name x1 p7] [] p9] [] p10] X.env)).all (λx=>!x.1)&&(backToKw cn (Gd [] X.env)).all (λx=>x.1.isSome)&&decide (([Bu (.Attribute (.Name x1 p4) "setdefault" p5) [.Name x3 p6,.Call (.Name "len" p8) [.Name x1 p7] [] p9] [] p10]:List Expr).length+([]:List Keyword).length+(if([]:List Keyword).isEmpty then 0 else 1)<30))=true)(cU:(p3.endLine==cn.line)=true)(hs:Af [Bu (.Attribute (.Name x1 p4) "setdefault" p5) [.Name x3 p6,.Call (.Name "len" p8) [.Name x1 p7] [] p9] [] p10] X.env=[(false,eval (Bu (.Attribute (.Name x1 p4) "setdefault" p5) [.Name x3 p6,.Call (.Name "len" p8) [.Name x1 p7] [] p9] [] p10) X.env)])(gI:CF (Bu (.Attribute (.Name x2 p2) "append" p3) [Bu (.Attribute (.Name x1 p4) "setdefault" p5) [.Name x3 p6,.Call (.Name "len" p8) [.Name x1 p7] [] p9] [] p10] [] cn) none pm.line X.env=pure false)(iA:∀x,Dt iter X.env x=pure x):PS X (.For (.Name x3 p1) iter [.Expr (.Call (.Attribute (.Name x2 p2) "append" p3) [.Call (.Attribute (.Name x1 p4) "setdefault" p5) [.Name x3 p6,.Call (.Name "len" p8) [.Name x1 p7] [] p9] [] p10] [] cn) pm] [] pos) (il X.K [some (.pl (.list ds)),some (.ot []),some (.ol []),none] (.nx [some (.pl (.list ds)),none,some (.ol ((HM.BA [] ks).map AQ)),none])):=by
 have kP:=Sg (knd:=knd) jo (Dj h1 v1 d1 c1) (Dj h3 v3 d3 c3) (DF (Wt (knd:=knd)) hg bK Ou (Z4 (Dj h1 v1 d1 c1) BR iS) (he:=iS)) m;have gS:=Pc (LN (Oj Nz NC NB Mp (Dj h2 v2 d2 c2) (Z4 kP BR hs) cW c5 cU hs rfl) gI);have ow:∀(b:Option HM.B),([some (HM.B.pl (.list ds)),none,b,none]:HM.Env).set 3 none=[some (.pl (.list ds)),none,b,none]:=λ_=>rfl;have dO:∀(E:er) (F0 H0 F1:J) (a:Addr) (n:Nat) (Y:L2.St) (H F:J) (ns:List Int) (xs:List (K×Addr×Value)) (d:PyData) (k:K) (y:V),iH X knd F0 H0 F1 a ds ks n Y H F ns xs->ds[n]?=some d->ks[n]?=some k->bL X.K F d y->(∀σ' H' F' ns' xs',iH X knd F0 H0 F1 a ds ks (n+1) σ' H' F' ns' xs'->E.nx σ' H') ->
   Lh (j6 X.K "list" LB (DA 2) (GS (K2 knd (DA 1) (DA 3) (jx (λxs H Q=>∃a ys,xs=[.ref a]/\H a=some (dz knd a ys)/\Q (.int ys.length) H) (GS (DA 1) GL))) GL)) E (Y.set 3 (some y)) H:=by
  intro E F0 H0 F1 a n Y H F ns xs d k y oJ hd hk ry post;obtain⟨c,rfl,hc⟩:=dA n d k F y hd hk ry;have cp:=((oJ.at_.set (i:=3) ry).forget 3);have e4:(([some (.pl (.list ds)),none,some (.ol (ns.map AQ)),none]:HM.Env).set 3 (some (.pl d))).set 3 none=[some (.pl (.list ds)),none,some (.ol (ns.map AQ)),none]:=rfl;rw[e4]at cp;have mD:Y.length=4:=oJ.at_.len.symm;have da:(Y.set 3 (some (V.ref c)))[1]?=some (some (.ref a)):=by rw[Bl (by decide)];exact oJ.num
  have nk:(Y.set 3 (some (V.ref c)))[3]?=some (some (.ref c)):=CH (by omega);obtain⟨l,vs,e1,e2,e3,_⟩:=cp.chgList (i:=2) (es:=ns.map AQ) rfl;have hnl:ns.length<1000:=by have:=(AO.mp hd).1;have:=oJ.len;omega
  have iz:l≠a:=λq=>by subst q;rw[oJ.ha]at e2;cases e2
  have jt:ks.drop n=k::ks.drop (n+1):=by obtain⟨bS,e⟩:=AO.mp hk;rw[IH bS,e]
  have cJ:=oJ.go;rw[jt]at cJ;have ki:vs.length=ns.length:=by have:=e3.1;rw[Ae]at this;exact this.symm
  have hz:∀us:List V,us.length=ns.length->us.length<sizeLine:=λus h=>by
   have e5:(1000000:Nat)<=sizeLine:=by decide
   omega
  have m9:xs.length<sizeLine:=by
   have e5:(1000000:Nat)<=sizeLine:=by decide
   have:=oJ.xl;have:=oJ.len;omega
  obtain⟨lK,m6⟩:=Qz (xs:=xs) (k:=k);refine⟨.ref l,e1,.inl ⟨rfl,_,cm.of e2⟩,.ref a,da,a,rfl,⟨xs,oJ.ha⟩,.ref c,nk,.ref a,da,a,xs,rfl,oJ.ha,xs,k,c,oJ.ha,rfl,λx hx=>oJ.kf x hx H oJ.at_.sub,hc H oJ.at_.sub,m9,λp hp=>?_,λhn r rz=>?_⟩
  ·-- it was seen
   cases hf:(xs.map (·.1)).findIdx? (λx=>decide (x=k))with
   |none=>rw[m6 hf]at hp;cases hp
   |some i =>
    obtain⟨x,hx,e5⟩:=lK i hf;rw[hp]at e5;cases e5;refine⟨.int i,oJ.vs i x hx,l,vs,.int i,rfl,rfl,e2,hz vs ki,?_⟩;have dy:HM.BA (xs.map (·.1)) (k::ks.drop (n+1))=(i:Int)::HM.BA (xs.map (·.1)) (ks.drop (n+1)):=by rw[HM.BA,hf]
    rw[dy]at cJ;obtain⟨l',vs',f1,f2,f3,f4⟩:=cp.chgList (i:=2) (es:=(ns++[(i:Int)]).map AQ) rfl;rw[e1]at f1;cases f1;rw[e2]at f2;cases f2;have dZ:=f4 (vs++[.int i]) (by rw[Bj];exact e3.append (.one (.int i)));refine post _ _ F (ns++[(i:Int)]) xs ⟨dZ,oJ.ff,da,by rw[Zu (Az iz)];exact oJ.ha,oJ.hF,oJ.h0,Tb.lst oJ.tb e2 iz,oJ.kf,oJ.vs,?_,by rw[AH,oJ.len];rfl,by have:=oJ.xl;omega⟩;rw[CO];exact cJ
  ·-- it is new
   have hf:(xs.map (·.1)).findIdx? (λx=>decide (x=k))=none:=by
    cases hf:(xs.map (·.1)).findIdx? (λx=>decide (x=k))with
    |none=>rfl
    |some i=>obtain⟨x,hx,e5⟩:=lK i hf;rw[hn]at e5;cases e5
   have kL:At X.K F0 H0 F (upd H a (dz knd a (xs++[(k,c,r)]))) [some (.pl (.list ds)),none,some (.ol (ns.map AQ)),none] (Y.set 3 (some (V.ref c))):=cp.outer _ oJ.hF oJ.h0 (λu z=>by rw[oJ.ha]at z;cases z;rfl) (oJ.tb _);have e2':upd H a (dz knd a (xs++[(k,c,r)])) l=some (.lst vs):=by rw[Zu iz];exact e2
   refine⟨l,vs,.int xs.length,rfl,rfl,e2',hz vs ki,?_⟩;have dy:HM.BA (xs.map (·.1)) (k::ks.drop (n+1))=(xs.length:Int)::HM.BA (xs.map (·.1)++[k]) (ks.drop (n+1)):=by rw[HM.BA,hf,Ae]
   rw[dy]at cJ;obtain⟨l',vs',f1,f2,f3,f4⟩:=kL.chgList (i:=2) (es:=(ns++[(xs.length:Int)]).map AQ) rfl;rw[e1]at f1;cases f1;rw[e2']at f2;cases f2;have dZ:=f4 (vs++[.int xs.length]) (by rw[Bj];exact f3.append (.one (.int _)));refine post _ _ F (ns++[(xs.length:Int)]) (xs++[(k,c,r)]) ⟨dZ,oJ.ff,da,by rw[Zu (Az iz),Zz],oJ.hF,oJ.h0,λob=>?_,λx hx=>?_,λi x hx=>?_,?_,by rw[AH,oJ.len];rfl,by rw[AH,Iq];have:=oJ.xl;omega⟩
   .exact Tb.lst (λob=>by rw[Pg];exact oJ.tb ob) e2' iz ob
   .rcases AW.mp hx with hx|hx
    .exact oJ.kf x hx
    .rw[AA.mp hx];exact hc
   .by_cases hi:i<xs.length
    .rw[CG hi]at hx
     exact oJ.vs i x hx
    .rw[CZ (by omega)]at hx
     cases hj:i-xs.length with
     |zero =>
      rw[hj]at hx;cases hx;have:i=xs.length:=by omega
      subst this;exact rz
     |succ j=>rw[hj]at hx;cases hx
   .rw[CO,Bj]
    exact cJ
 have pbody':cZ X [.Expr (.Call (.Attribute (.Name x2 p2) "append" p3) [.Call (.Attribute (.Name x1 p4) "setdefault" p5) [.Name x3 p6,.Call (.Name "len" p8) [.Name x1 p7] [] p9] [] p10] [] cn) pm] (λE Y H=>∃a H',(H'=H\/(H a=some (.dT [])/\H'=upd H a (dz knd a [])))/\Lh (j6 X.K "list" LB (DA 2) (GS (K2 knd (DA 1) (DA 3) (jx (λxs H Q=>∃a ys,xs=[.ref a]/\H a=some (dz knd a ys)/\Q (.int ys.length) H) (GS (DA 1) GL))) GL)) E Y H'):=by
  intro bE s Y H E I ⟨a,H',hh,t⟩;rcases hh with rfl|⟨ha,rfl⟩
  .exact gS bE s Y H' E I t
  .refine gS bE s Y _ E ?_ t
   obtain⟨z,hd,ys,cR,o,es,ep,g1,g2,g3,g4,g5⟩:=(show ZU X.prog X.w H s.heap a (.dT []) from I.hok a _ ha);have hy:ys=[]:=by have:=Ei cR;exact Dy this.symm
   subst hy;exact Hd (t':=s.toks) I (by rw[ha];exact DO) ⟨rfl,λ_ _=>rfl⟩ ⟨o,g1⟩ (Oi (by simp) hd g1 g2 g3 (by rw[g4];rfl) (by simp))
 refine PS.imp (Lk (JJ dW) hc (hi [some (.pl (.list ds)),some (.ot []),some (.ol []),none] ds rfl) (Dh hN h3 l3 f3) pbody' iA) λE Y H ⟨F0,H0,F,at_,k⟩=>?_;refine⟨F0,H0,F,at_,λoJ F1 H1 x1 it=>?_⟩;refine⟨λn m Y H=>∃F,Zp F1 F/\n+m=ds.length/\((n=0/\At X.K F0 H0 F H [some (.pl (.list ds)),some (.ot []),some (.ol []),none] Y)\/∃a ns xs,iH X knd F0 H0 F1 a ds ks n Y H F ns xs),⟨ds.length,F1,Zp.refl _,by omega,.inl ⟨rfl,at_.grow x1⟩⟩,?_⟩
 rintro n m Y H ⟨F2,s2,hn,c9⟩
 have gn:Zp F2 H:=by
  rcases c9 with⟨_,cM⟩|⟨a,ns,xs,J2⟩
  .exact cM.sub
  .exact J2.at_.sub
 obtain⟨gH,gG⟩:=it F2 H s2 gn;cases m with
 |zero =>
  have e:n=ds.length:=by omega
  refine .inl ⟨by rw[e];exact gG,?_⟩;rcases c9 with⟨h0,cM⟩|⟨a,ns,xs,J2⟩
  .have iX:ks=[]:=Dy (by omega)
   subst iX;exact k Y F2 H (cM.forget 1)
  .have cJ:=J2.go
   rw[List.drop_eq_nil_of_le (by omega)]at cJ;have k9:HM.BA (xs.map (·.1)) ([]:List K)=[]:=rfl;rw[k9,CB]at cJ;rw[<-cJ]at k;exact k Y F2 H J2.at_
 |succ m =>
  have bS:n<ds.length:=by omega
  obtain⟨j1,j2⟩:=gH n ds[n] (AV bS);refine .inr ⟨j1,λσ' H'=>∃F,Zp F1 F/\∃a ns xs,iH X knd F0 H0 F1 a ds ks (n+1) σ' H' F ns xs,λσ' H' ⟨F,a1,a2⟩=>⟨m,by omega,F,a1,by omega,.inr a2⟩,λy H' hy=>?_⟩;obtain⟨e1,ry⟩:=j2 y H' hy;subst e1;have hk:ks[n]?=some ks[n]:=AV (by omega);have hd:ds[n]?=some ds[n]:=AV bS;rcases c9 with⟨h0,cM⟩|⟨a,ns,xs,J2⟩
  .subst h0
   have cp:=cM.grow cM.refl.tups;obtain⟨fp,e⟩:=cp;obtain⟨v,m7,rb⟩:=e.at_ 1 (.ot []) rfl;generalize eR:fp 1=f at rb;cases rb with
   | @ot a kvs vvs hH hkk rr =>
    have nc:vvs=[]:=by have:=congrArg Bb hkk;rw[Ae,Ae]at this;exact Dy this.symm
    subst nc;have dR:=e.own 1 a (by rw[eR];simp);have tbx:∀ob,Tb (upd H' a ob):=λob=>(e.ext.tab e.tb).outer hH ob;have kL:At X.K F0 H0 (AN F2 H') (upd H' a (dz knd a [])) [some (.pl (.list ds)),none,some (.ol []),none] Y:=(e.forget 1).outer _ dR.1 dR.2 (λj hj=>by
     by_cases q:j=1
     .rw[if_pos q]at hj;simp at hj
     .rw[if_neg q]at hj
      exact e.dis 1 j a (Az q) (by rw[eR];simp) hj) (tbx _)
    have J3:iH X knd F0 H0 F1 a ds ks 0 Y (upd H' a (dz knd a [])) (AN F2 H') [] []:=⟨kL,s2.trans (Cd gn),m7,Zz,dR.1,dR.2,λob=>by rw[Pg];exact tbx ob,λx hx=>by simp at hx,λi x hx=>by simp at hx,rfl,rfl,by simp⟩;exact⟨a,_,.inr ⟨hH,rfl⟩,dO _ F0 H0 F1 a 0 Y _ (AN F2 H') [] [] _ _ y J3 hd hk ry λσ' H'' F' ns' xs' J'=>⟨F',J'.ff,a,ns',xs',J'⟩⟩
  .have n0:AN F2 H' a=none:=by
    unfold AN;rw[J2.ha];exact J2.hF
   have J3:iH X knd F0 H0 F1 a ds ks n Y H' (AN F2 H') ns xs:=⟨J2.at_.grow J2.at_.refl.tups,s2.trans (Cd gn),J2.num,J2.ha,n0,J2.h0,J2.tb,λx hx=>(J2.kf x hx).mono (Cd gn),J2.vs,J2.go,J2.len,J2.xl⟩;exact⟨a,_,.inl rfl,dO _ F0 H0 F1 a n Y H' (AN F2 H') ns xs _ _ y J3 hd hk ry λσ' H'' F' ns' xs' J'=>⟨F',J'.ff,a,ns',xs',J'⟩⟩
end
end
section
variable{p1 p2 p3 p4 p5:Pos}{x1 x2 x3:Str}
theorem LF{K:Type}{f:PyData->Option K}:∀{ds:List PyData} {ks:List K},HM.D1 f ds=some ks->ks.length=ds.length/\∀(n:Nat) (d:PyData) (k:K),ds[n]?=some d->ks[n]?=some k->f d=some k
 |[],ks,h=>by cases h;exact⟨rfl,λn d k h=>by simp at h⟩
 |d::ds,ks,h=>by
  unfold HM.D1 at h;split at h
  .rename_i k hk
   obtain⟨ks',e,rfl⟩:=Aj.mp h;obtain⟨l,g⟩:=LF e;refine⟨by rw[AL,AL,l],λn d' k' h1 h2=>?_⟩;cases n with
   |zero=>cases h1;cases h2;exact hk
   |succ n=>exact g n d' k' h1 h2
  .cases h
theorem UX{d:PyData}{k:Bool×List Int}(h:HM.jE d=some k):d=.tuple [.bool k.1,.tuple (HM.dB k.2)]:=by
 unfold HM.jE at h;split at h
 .obtain⟨ns,e,rfl⟩:=Aj.mp h
  rw[LR e]
 .cases h
theorem UI{d:PyData}{k:Int×List (List Int)}(h:HM.kc d=some k):d=.tuple [.int k.1,.tuple (HM.Y3 k.2)]:=by
 unfold HM.kc at h;split at h
 .obtain⟨ns,e,rfl⟩:=Aj.mp h
  rw[L7 e]
 .cases h
section
variable{X:Cx}{pos:Pos}
theorem Wb{iter:Expr}{p6 p7 p8 p9 p10 cn pm:Pos}(hN:X.N.Nodup)(dW:X.xe=λ_ _=>False)(hc:X.calm=true)(bK:X.mg "len"=none)(hr:X.A.units+64<cLine)(hi:XI X (.Name x3 p1) iter (HM.ZW (HM.bW (HM.S 0))))(h1:X.N[1]?=some x1:=by rfl)(h2:X.N[2]?=some x2:=by rfl)(h3:X.N[3]?=some x3:=by rfl)(v1:d6 X.env.scope x1:=by first|exact AE rfl|exact Ar (AE rfl)|exact Ar (Ar rfl))(v2:d6 X.env.scope x2:=by first|exact AE rfl|exact Ar (AE rfl)|exact Ar (Ar rfl))(v3:d6 X.env.scope x3:=by first|exact AE rfl|exact Ar (AE rfl)|exact Ar (Ar rfl))(l3:Loc X.env.scope x3:=by first|exact AE rfl|exact Ar rfl)(f3:X.fn x3=true\/X.env.scope.names.lookup x3=some .local:=by first|exact .inl rfl|exact .inr rfl)(d1:(x1==("__debug__":Str))=false:=by decide)(d2:(x2==("__debug__":Str))=false:=by decide)(d3:(x3==("__debug__":Str))=false:=by decide)(c1:(x1==("__classdict__":Str))=false:=by decide)(c2:(x2==("__classdict__":Str))=false:=by decide)(c3:(x3==("__classdict__":Str))=false:=by decide)(hg:Gl X "len":=by rfl)(iS:Af [HI x1 p7] X.env=[(false,eval (HI x1 p7) X.env)]:=by rfl)(m:M2 X (.Name x1 p4) "setdefault" p5 (.Name x3 p6) (.Call (.Name "len" p8) [.Name x1 p7] [] p9) p10:=by exact⟨rfl,rfl,rfl,rfl⟩)(cW:Gb (.Name x2 p2) "append" X.env (eval (.Name x2 p2) X.env)=eval (.Name x2 p2) X.env:=by rfl)(c5:((backTo cn (Af [Bu (.Attribute (.Name x1 p4) "setdefault" p5) [.Name x3 p6,.Call (.Name "len" p8) [.Name x1 p7] [] p9] [] p10] X.env)).all (λx=>!x.1)&&(backToKw cn (Gd [] X.env)).all (λx=>x.1.isSome)&&decide (([Bu (.Attribute (.Name x1 p4) "setdefault" p5) [.Name x3 p6,.Call (.Name "len" p8) [.Name x1 p7] [] p9] [] p10]:List Expr).length+([]:List Keyword).length+(if([]:List Keyword).isEmpty then 0 else 1)<30))=true:=by rfl)(cU:(p3.endLine==cn.line)=true:=by rfl)(hs:Af [Bu (.Attribute (.Name x1 p4) "setdefault" p5) [.Name x3 p6,.Call (.Name "len" p8) [.Name x1 p7] [] p9] [] p10] X.env=[(false,eval (Bu (.Attribute (.Name x1 p4) "setdefault" p5) [.Name x3 p6,.Call (.Name "len" p8) [.Name x1 p7] [] p9] [] p10) X.env)]:=by rfl)(gI:CF (Bu (.Attribute (.Name x2 p2) "append" p3) [Bu (.Attribute (.Name x1 p4) "setdefault" p5) [.Name x3 p6,.Call (.Name "len" p8) [.Name x1 p7] [] p9] [] p10] [] cn) none pm.line X.env=pure false:=by rfl)(iA:∀x,Dt iter X.env x=pure x:=by intro _;rfl):XS X (.For (.Name x3 p1) iter [.Expr (.Call (.Attribute (.Name x2 p2) "append" p3) [.Call (.Attribute (.Name x1 p4) "setdefault" p5) [.Name x3 p6,.Call (.Name "len" p8) [.Name x1 p7] [] p9] [] p10] [] cn) pm] [] pos) HM.Q4:=by
 intro r o ho;unfold HM.Q4 at ho;split at ho
 .rename_i ds
  obtain⟨ns,cD,rfl⟩:=Aj.mp ho;unfold HM.EB at cD;split at cD
  .rename_i iC
   split at cD
   .rename_i ks iX
    cases cD;obtain⟨hl,iY⟩:=LF iX;exact Pk (knd:=lJ X.prog X.w) (by show X.A.units+1+2<=cLine;omega) hN dW hc bK iC hl (λn d k F v e1 e2 rr=>R1 (by rw[<-UX (iY n d k e1 e2)];exact rr)) hi h1 h2 h3 v1 v2 v3 l3 f3 d1 d2 d3 c1 c2 c3 hg iS m cW c5 cU hs gI iA
   .split at cD
    .rename_i ks iX
     cases cD;obtain⟨hl,iY⟩:=LF iX;exact Pk (knd:=lI X.prog X.w) (by show X.A.units+1+3<=cLine;omega) hN dW hc bK iC hl (λn d k F v e1 e2 rr=>RP (by rw[<-UI (iY n d k e1 e2)];exact rr)) hi h1 h2 h3 v1 v2 v3 l3 f3 d1 d2 d3 c1 c2 c3 hg iS m cW c5 cU hs gI iA
    .cases cD
  .cases cD
 .cases ho
end
section
variable{X:Cx}{pos:Pos}{fa:HM.EF}
theorem Vx{K:Ad}{F:J}{d1 d2 d3 d4 d5:PyData}{v:V}(h:bL K F (.tuple [d1,d2,d3,d4,d5]) v):∃a v1 v2 v3 v4 v5,v=.ref a/\F a=some (.tup [v1,v2,v3,v4,v5])/\bL K F d1 v1/\bL K F d2 v2/\bL K F d3 v3/\bL K F d4 v4/\bL K F d5 v5:=by
 cases h with
 | @tup a ds vs h1 h2 h3 =>
  match vs,h2 with
  |[v1,v2,v3,v4,v5],_=>exact⟨a,v1,v2,v3,v4,v5,rfl,h1,h3 0 _ _ rfl rfl,h3 1 _ _ rfl rfl,h3 2 _ _ rfl rfl,h3 3 _ _ rfl rfl,h3 4 _ _ rfl rfl⟩
theorem UM(i1 i2 i3 i4 i5:Nat){x4 x5:Str}{pt:Pos}{kt:Nat}{e:Expr}(hN:X.N.Nodup)(hc:X.calm=true)(h:XE X e fa)(h1:X.N[i1]?=some x1:=by rfl)(h2:X.N[i2]?=some x2:=by rfl)(h3:X.N[i3]?=some x3:=by rfl)(h4:X.N[i4]?=some x4:=by rfl)(h5:X.N[i5]?=some x5:=by rfl)(l1:Loc X.env.scope x1:=by first|exact AE rfl|exact Ar rfl)(l2:Loc X.env.scope x2:=by first|exact AE rfl|exact Ar rfl)(l3:Loc X.env.scope x3:=by first|exact AE rfl|exact Ar rfl)(l4:Loc X.env.scope x4:=by first|exact AE rfl|exact Ar rfl)(l5:Loc X.env.scope x5:=by first|exact AE rfl|exact Ar rfl)(f1:X.fn x1=true\/X.env.scope.names.lookup x1=some .local:=by first|exact .inl rfl|exact .inr rfl)(f2:X.fn x2=true\/X.env.scope.names.lookup x2=some .local:=by first|exact .inl rfl|exact .inr rfl)(f3:X.fn x3=true\/X.env.scope.names.lookup x3=some .local:=by first|exact .inl rfl|exact .inr rfl)(f4:X.fn x4=true\/X.env.scope.names.lookup x4=some .local:=by first|exact .inl rfl|exact .inr rfl)(f5:X.fn x5=true\/X.env.scope.names.lookup x5=some .local:=by first|exact .inl rfl|exact .inr rfl)(g1:(BV [.Name x1 p1,.Name x2 p2,.Name x3 p3,.Name x4 p4,.Name x5 p5] X.env).length=5:=by rfl)(g2:(BV [.Name x1 p1,.Name x2 p2,.Name x3 p3,.Name x4 p4,.Name x5 p5] X.env).findIdx? (·.1)=none:=by rfl)(hs:swapsWithSole [.Tuple [.Name x1 p1,.Name x2 p2,.Name x3 p3,.Name x4 p4,.Name x5 p5] kt pt] e pos.line X.env=pure false:=by rfl)(hw:swappedStores [.Tuple [.Name x1 p1,.Name x2 p2,.Name x3 p3,.Name x4 p4,.Name x5 p5] kt pt] e X.env=pure none:=by rfl)(h6:(BV [.Tuple [.Name x1 p1,.Name x2 p2,.Name x3 p3,.Name x4 p4,.Name x5 p5] kt pt] X.env).map (·.2)=[assign (.Tuple [.Name x1 p1,.Name x2 p2,.Name x3 p3,.Name x4 p4,.Name x5 p5] kt pt) X.env]:=by rfl):XS X (.Assign [.Tuple [.Name x1 p1,.Name x2 p2,.Name x3 p3,.Name x4 p4,.Name x5 p5] kt pt] e pos) (HM.WZ i1 i2 i3 i4 i5 fa):=by
 intro r o ho;unfold HM.WZ at ho;split at ho
 .rename_i d1 d2 d3 d4 d5 hd
  cases ho;refine PS.imp (Oy (h r _ hd) (Ow hc (EK (Dh hN h1 l1 f1) (EK (Dh hN h2 l2 f2) (EK (Dh hN h3 l3 f3) (EK (Dh hN h4 l4 f4) (EK (Dh hN h5 l5 f5) OX))))) g1 g2) hs hw h6) λE Y H ⟨F0,H0,F,at_,k⟩=>?_;refine⟨F0,H0,F,at_,λv F' H' x1 q=>?_⟩;obtain⟨pa,v1,v2,v3,v4,v5,e7,km,r1,r2,r3,r4,r5⟩:=Vx q;subst e7;exact⟨pa,[v1,v2,v3,v4,v5],rfl,.of (x1.sub _ _ km),rfl,v1,[v2,v3,v4,v5],rfl,v2,[v3,v4,v5],rfl,v3,[v4,v5],rfl,v4,[v5],rfl,v5,[],rfl,rfl,k _ F' H' ((((((at_.grow x1).set (i:=i1) r1).set (i:=i2) r2).set (i:=i3) r3).set (i:=i4) r4).set (i:=i5) r5)⟩
 .cases ho
end
end
end HP
namespace HM
open PySem
variable{n:Nat}
theorem EJ{α:Type}{c:TF}{e:EF}{r:Env}(g:α->D)(p:α->Bool)(f:α->D):∀(xs:List α),(∀x∈xs,c (some (.pl (g x))::r)=some (p x))->(∀x∈xs,p x=true->e (some (.pl (g x))::r)=some (f x))->Bn c e r (xs.map g)=some ((xs.filter p).map f)
 |[],_,_=>rfl
 |x::xs,h1,h2=>by
  have ih:=EJ g p f xs (λy hy=>h1 y (Aq _ hy)) (λy hy=>h2 y (Aq _ hy));have hc:=h1 x (An ..);rw[Ao];unfold Bn;rw[hc];cases hp:p x with
  |true=>have he:=h2 x (An ..) hp;dsimp only;rw[he];dsimp only;rw[ih,List.filter_cons_of_pos hp];rfl
  |false=>dsimp only;rw[ih,List.filter_cons_of_neg (by simp[hp])]
theorem De{α:Type}{e:EF}{r:Env}(g:α->D)(f:α->D)(xs:List α)(h:∀x∈xs,e (some (.pl (g x))::r)=some (f x)):Bn ZR e r (xs.map g)=some (xs.map f):=by rw[EJ g (λ_=>true) f xs (λ_ _=>rfl) λx hx _=>h x hx,List.filter_eq_self.mpr λ_ _=>rfl]
theorem Cz{α:Type}{i:Nat}{body:SF}(g:α->D)(P:List α->Env->Prop)(xs:List α)(r:Env)(h0:P [] r)(hs:∀pre x post r,xs=pre++x::post->P pre r->∃r',body (r.set i (some (.pl (g x))))=some (.nx r')/\P (pre++[x]) r'):∃r',A5 i body (xs.map g) r=some (.nx r')/\P xs r':=by
 have key:∀(post pre:List α) (r:Env),xs=pre++post->P pre r->∃r',A5 i body (post.map g) r=some (.nx r')/\P xs r':=by
  intro post
  induction post with
  |nil=>intro pre r e h;rw[CB]at e;subst e;exact⟨r,rfl,h⟩
  |cons x post ih=>intro pre r e h;obtain⟨r1,h1,h2⟩:=hs pre x post r e h;obtain⟨r2,h3,h4⟩:=ih (pre++[x]) r1 (by rw[e,CO];rfl) h2;refine⟨r2,?_,h4⟩;rw[Ao];unfold A5;rw[h1];exact h3
 exact key xs [] r rfl h0
abbrev dI(i:Int):D:=AQ i
abbrev dN(k:Nat):D:=AQ (k:Int)
theorem QR(ns:List Int):dB ns=ns.map dI:=rfl
theorem ZS(n:Nat):Eb 0 n=(Ab n).map dN:=by unfold Eb;refine Gp λk _=>?_;show AQ (0+(k:Int))=AQ (k:Int);rw[Int.zero_add]
theorem CL(ns:List Int):Bz (ns.map dI)=some ns:=by
 induction ns with
 |nil=>rfl
 |cons n ns ih=>show(Bz (ns.map dI)).map (n::·)=_;rw[ih];rfl
theorem QP(bs:List Bool):FK (bs.map λb=>DP b)=some bs:=by
 induction bs with
 |nil=>rfl
 |cons b bs ih=>show(FK (bs.map λb=>DP b)).map (b::·)=_;rw[ih];rfl
abbrev bF(ns:List Int):D:=CT (ns.map dI)
theorem Dg{ds:List D}{j:Nat}{d:D}(h:ds[j]?=some d):eB ds (j:Int)=some d:=by have hj:j<ds.length:=(AO.mp h).1;unfold eB eQ;rw[if_pos (by omega),if_pos (by omega)];simpa using h
@[simp] theorem Y6(d:D)(r:List D):eB (d::r) 0=some d:=Dg (j:=0) rfl
@[simp] theorem Y4(a d:D)(r:List D):eB (a::d::r) 1=some d:=Dg (j:=1) rfl
@[simp] theorem Y5(a b d:D)(r:List D):eB (a::b::d::r) 2=some d:=Dg (j:=2) rfl
@[simp] theorem Y8(a b c d:D)(r:List D):eB (a::b::c::d::r) 3=some d:=Dg (j:=3) rfl
@[simp] theorem Y7(a b c e d:D)(r:List D):eB (a::b::c::e::d::r) 4=some d:=Dg (j:=4) rfl
theorem aF(i j:Int)(h:(ZG i||ZG j)=true):Bf (.int i) (.int j)=some (.int (i*j)):=by show(if ZG i||ZG j then some (AQ (i*j))else none)=_;rw[if_pos h]
@[simp] theorem aG:ZG 7=true:=rfl
@[simp] theorem ar:ZG 11=true:=rfl
@[simp] theorem ax:ZG 13=true:=rfl
@[simp] theorem az:ZG 17=true:=rfl
@[simp] theorem af:ZG 19=true:=rfl
@[simp] theorem ag:ZG 23=true:=rfl
@[simp] theorem aw:ZG 29=true:=rfl
@[simp] theorem ah:ZG 31=true:=rfl
@[simp] theorem aD:ZG 37=true:=rfl
@[simp] theorem aB:ZG 41=true:=rfl
@[simp] theorem aE:ZG 43=true:=rfl
@[simp] theorem aa:ZG 47=true:=rfl
@[simp] theorem av:ZG 53=true:=rfl
@[simp] theorem aA:ZG 59=true:=rfl
@[simp] theorem aC:ZG 61=true:=rfl
@[simp] theorem ae:ZG 67=true:=rfl
@[simp] theorem ay:ZG 71=true:=rfl
@[simp] theorem au:ZG 73=true:=rfl
@[simp] theorem aK:ZG 48271=true:=rfl
@[simp] theorem aj:ZG 2=true:=rfl
@[simp] theorem ak:ZG 3=true:=rfl
@[simp] theorem ao:ZG 5=true:=rfl
theorem Mg{i:Int}(h1:-1000000000<i)(h2:i<1000000000):ZG i=true:=by
 unfold ZG;have:i.natAbs<18446744073709551616:=by omega
 exact Eo.mpr this
theorem Cy(h:n<1000000):dE (n:Int)=true:=Eo.mpr (by omega)
@[simp] theorem aL(i:Int):Cv (.int i)=true:=rfl
@[simp] theorem aI(i:Bool):Cv (.bool i)=true:=rfl
@[simp] theorem aJ:Cv .none=true:=rfl
@[simp] theorem Y9(i j:Int):Ep (.int i) (.int j)=(i==j):=rfl
structure Wk where
 many:Nat
 deeds:List (List (List Int))
 looks:List (List Int)
 beg:List Int
 goal:List Int
def Zl(dd:List (List Int)):D:=.tuple (dd.map bF)
def Wk.d(w:Wk):D:=.tuple [.int w.many,.tuple (w.deeds.map Zl),.tuple (w.looks.map bF),bF w.beg,bF w.goal]
def Cr(n:Nat)(c:List Int):Prop:=c.Pairwise (· < ·)/\∀x∈c,0<=x/\x<(n:Int)
structure Wk.Ok(w:Wk):Prop where
 m1:2<=w.many
 m2:w.many<=5
 d1:1<=w.deeds.length
 d2:w.deeds.length<=3
 dl:∀dd∈w.deeds,dd.length=w.many
 dc:∀dd∈w.deeds,∀c∈dd,Cr w.many c
 l2:w.looks.length<=3
 ll:∀l∈w.looks,l.length=w.many
 lc:∀l∈w.looks,∀x∈l,0<=x/\x<=9
 b1:w.beg≠[]
 bc:Cr w.many w.beg
 g1:w.goal≠[]
 gc:Cr w.many w.goal
theorem Cr.len:∀{c:List Int},Cr n c->c.length<=n:=by
 have key:∀(c:List Int) (l:Int),c.Pairwise (· < ·)->(∀x∈c,l<=x/\x<(n:Int))->(c.length:Int)<=max 0 ((n:Int)-l):=by
  intro c
  induction c with
  |nil=>intro l _ _;simp;omega
  |cons x c ih=>intro l hp hb;have h1:=hb x (An ..);have h2:=ih (x+1) (B9.mp hp).2 λy hy=>⟨by have:=(B9.mp hp).1 y hy;omega,(hb y (Aq _ hy)).2⟩;rw[AL];omega
 intro c h;have:=key c 0 h.1 h.2;omega
theorem sortI_perm(ns:List Int):(sortI ns).Perm ns:=Kz ns _
theorem Pu(ns:List Int):(sortI ns).Pairwise (·<=·):=by have h:=KU (le:=λa b:Int=>decide (a<=b)) (λa b c h1 h2=>by simp at *;omega) (λa b=>by simp;omega) ns;exact h.imp λh=>by simpa using h
theorem Mt:∀{ns:List Int},ns.Pairwise (·<=·)->ns.Nodup->ns.Pairwise (· < ·)
 |[],_,_=>.nil
 |n::ns,h,hn=>by obtain⟨h1,h2⟩:=B9.mp h;obtain⟨n1,n2⟩:=Fc.mp hn;refine B9.mpr ⟨λx hx=>?_,Mt h2 n2⟩;have:=h1 x hx;have:n≠x:=λe=>n1 (e▸hx);omega
theorem LS{ns:List Int}(hn:ns.Nodup)(hb:∀x∈ns,0<=x/\x<(n:Int)):Cr n (sortI ns) :=
 ⟨Mt (Pu ns) ((sortI_perm ns).nodup_iff.mpr hn),λx hx=>hb x ((sortI_perm ns).mem_iff.mp hx)⟩
theorem QF(ns:List Int)(h:ns.length<64):G9 (ns.map dI)=some ((sortI ns).map dI):=by unfold G9;rw[if_pos (by rw[Ae];exact h),CL];rfl
theorem JG:∀(ns acc:List Int) (x:Int),x∈cx acc ns↔x∈acc\/x∈ns
 |[],acc,x=>by simp[cx]
 |n::ns,acc,x=>by
  unfold cx;split
  .rename_i h
   have h':n∈acc:=by simpa using h
   rw[JG ns acc x]
   constructor
   .rintro (h|h)
    .exact .inl h
    .exact .inr (Aq _ h)
   .rintro (h|h)
    .exact .inl h
    .rcases Aw.mp h with e|e
     .exact .inl (e▸h')
     .exact .inr e
  .rw[JG ns _ x,AW,AA,Aw]
   constructor
   .rintro ((h|h)|h)
    .exact .inl h
    .exact .inr (.inl h)
    .exact .inr (.inr h)
   .rintro (h|h|h)
    .exact .inl (.inl h)
    .exact .inl (.inr h)
    .exact .inr h
theorem JT:∀(ns acc:List Int),acc.Nodup->(cx acc ns).Nodup
 |[],acc,h=>h
 |n::ns,acc,h=>by
  unfold cx;split
  .exact JT ns acc h
  .rename_i hc
   have hc':n∉acc:=by simpa using hc
   refine JT ns _ ?_;rw[Gm];exact⟨h,by simp,λa ha b hb=>by simp at hb;subst hb;exact λe=>hc' (e▸ha)⟩
end HM
namespace HG
open PySem HM
def Q0:SF :=
 (Zs (cQ (gB (tV (FP (S 0) .bool)) (C5 (tV (FP (S 0) .int)))) (ZO (eC (.bool false))) AZ)
  (ZO (QK jQ jQ (S 1) (S 0) (S 2))))
def DL:List D->Option D:=fnOf 3 3 Q0
def Qn:SF :=
 (ZO (C4 (FP (S 0) .tuple) (QK jQ jQ (S 1) (Dc (Zf 0)) (S 2))))
def Cc:List D->Option D:=fnOf 3 3 Qn
def Z1:SF :=
 (Zs (cQ (C5 (tV (Zj DL (O (S 3) (O (S 2) (O (bH GQ (S 1) (eC (.int 1))) Ze)))))) (ZO (eC (.bool false))) AZ)
  (Z5 2 (bH Z6 (S 3) (eC (.int 1)))))
def JR:SF :=
 (Zs (cQ (C5 (tV (FP (S 0) .tuple))) (ZO (eC (.bool false))) AZ)
  (Zs (Z5 2 (eC (.int 0)))
  (Zs (AU 3 (ZW (bW (S 0))) Z1)
  (ZO (eC (.bool true))))))
def Z2:List D->Option D:=fnOf 2 4 JR
def MP:SF :=
 (ZO (C4 (Zj Cc (O (S 0) (O (S 1) (O (S 1) Ze)))) (IY (Zw (ZW (bW (S 0))) ZR (Zj Z2 (O (S 0) (O (S 2) Ze)))))))
def EU:List D->Option D:=fnOf 2 2 MP
def MO:SF :=
 (ZO (C4 (Zj Cc (O (S 0) (O (S 1) (O (S 1) Ze)))) (IY (Zw (ZW (bW (S 0))) ZR (Zj DL (O (S 0) (O (eC (.int 0)) (O (eC (.int 9)) Ze))))))))
def ET:List D->Option D:=fnOf 2 2 MO
def QZ:SF :=
 (ZO (C4 (Zj Cc (O (S 0) (O (eC (.int 1)) (O (eC (.int 5)) Ze)))) (IY (Zw (ZW (bW (S 0))) ZR (Zj EU (O (S 0) (O (S 2) Ze)))))))
def Hy:List D->Option D:=fnOf 2 2 QZ
def QY:SF :=
 (ZO (C4 (Zj Cc (O (S 0) (O (eC (.int 0)) (O (eC (.int 4)) Ze)))) (IY (Zw (ZW (bW (S 0))) ZR (Zj ET (O (S 0) (O (S 2) Ze)))))))
def Hx:List D->Option D:=fnOf 2 2 QY
def Rh:SF :=
 (ZO (C4 (Zj Z2 (O (S 0) (O (S 1) Ze))) (bH i9 (Dc (Zf 0)) (eC (.int 0)))))
def HC:List D->Option D:=fnOf 2 2 Rh
def QX:SF :=
 (Zs (cQ (gB (C5 (tV (Zj Cc (O (S 0) (O (eC (.int 5)) (O (eC (.int 5)) Ze)))))) (C5 (tV (Zj DL (O (bJ (Zf 0) (eC (.int 0))) (O (eC (.int 1)) (O (eC (.int 8)) Ze))))))) (ZO (eC (.bool false))) AZ)
  (Zs (Z5 1 (bJ (Zf 0) (eC (.int 0))))
  (Zs (cQ (gB (C5 (tV (Zj Hy (O (bJ (Zf 0) (eC (.int 1))) (O (S 1) Ze))))) (C5 (tV (Zj Hx (O (bJ (Zf 0) (eC (.int 2))) (O (S 1) Ze)))))) (ZO (eC (.bool false))) AZ)
  (ZO (C4 (Zj HC (O (bJ (Zf 0) (eC (.int 3))) (O (S 1) Ze))) (Zj Z2 (O (bJ (Zf 0) (eC (.int 4))) (O (S 1) Ze))))))))
def Hw:List D->Option D:=fnOf 1 2 QX
def QW:SF :=
 (ZO (bJ (Zf 0) (eC (.int 0))))
def ZJ:List D->Option D:=fnOf 1 1 QW
def Rg:SF :=
 (ZO (bJ (Zf 0) (eC (.int 1))))
def DN:List D->Option D:=fnOf 1 1 Rg
def Rf:SF :=
 (ZO (bJ (Zf 0) (eC (.int 2))))
def DM:List D->Option D:=fnOf 1 1 Rf
def QM:SF :=
 (Zs (cQ (C5 (tV (Zj Hw (O (S 0) Ze)))) WB AZ)
  (ZO (S 0)))
def Hi:List D->Option D:=fnOf 1 1 QM
def Rc:SF :=
 (Zs (cQ (tV (bH i8 (S 1) (Dc (Zf 0)))) (ZO (bJ (Zf 0) (S 1))) AZ)
  (ZO (eC (.int 0))))
def ZE:List D->Option D:=fnOf 2 2 Rc
def QL:SF :=
 (ZO (bH Cn (bH Cn (bH Bf (S 0) (eC (.int 48271))) (S 1)) (S 2)))
def Zy:List D->Option D:=fnOf 3 3 QL
def M1:SF :=
 (Zs (Z7 3 (Zw (ZH (S 1)) (tV (bH i8 (Zj Zy (O (bH Z6 (bH Z6 (S 1) (bH Bf (bH Bf (eC (.int 31)) (S 0)) (S 0))) (bH Bf (eC (.int 7)) (S 0))) (O (eC (.int 9973)) (O (eC (.int 5)) Ze)))) (eC (.int 2)))) (S 0)))
  (Zs (cQ (tV (bH i8 (Dc (Zf 3)) (S 2))) (Z7 3 (Bd (O (Zj Zy (O (S 0) (O (eC (.int 9967)) (O (S 1) Ze)))) Ze))) AZ)
  (ZO (ZI (Zf 3)))))
def E4:List D->Option D:=fnOf 3 4 M1
def E3:SF :=
 (Zs (Z5 4 (bH Z6 (bH Z6 (S 0) (bH Bf (bH Bf (eC (.int 43)) (S 3)) (S 3))) (bH Bf (eC (.int 11)) (S 3))))
  (Zs (Z5 5 (Zj Zy (O (S 4) (O (eC (.int 9949)) (O (eC (.int 10)) Ze)))))
  (Zs (Z7 6 (Xl (Zj Zy (O (S 4) (O (eC (.int 9941)) (O (S 1) Ze)))) (eC (.bool true))))
  (Zs (cQ (tV (bH i8 (S 5) (eC (.int 3)))) (IZ 6 (Zj Zy (O (S 4) (O (eC (.int 9931)) (O (S 1) Ze)))) (eC (.bool true))) AZ)
  (Zs (Dp 2 (ZI (YI (Zf 6))))
  (cQ (tV (bH cA (S 5) (eC (.int 9)))) (WT 2 (eC (.int (-1))) (ZM Ze)) AZ))))))
def Rb:SF :=
 (Zs (Z7 2 (Bd Ze))
  (Zs (AU 3 (ZH (S 1)) E3)
  (ZO (ZI (Zf 2)))))
def HB:List D->Option D:=fnOf 2 7 Rb
def Hv:SF :=
 (Zs (Z5 5 (bH C7 (bH GQ (S 4) (eC (.int 1))) (eC (.int 0))))
  (Zs (Z5 6 (bH C6 (bH Z6 (S 4) (eC (.int 1))) (bH GQ (S 1) (eC (.int 1)))))
  (Zs (Z5 7 (bH cA (Zj Zy (O (bH Z6 (S 0) (bH Bf (eC (.int 17)) (S 4))) (O (eC (.int 9929)) (O (eC (.int 6)) Ze)))) (eC (.int 1))))
  (Zs (Dp 2 (ZI (JX (Lp (Bd (O (S 5) Ze)) (Vu (Bd (O (S 4) Ze)) (XU (S 7)))))))
  (Dp 3 (ZM (O (S 6) Ze)))))))
def Ra:SF :=
 (Zs (Z7 2 (Bd Ze))
  (Zs (Z7 3 (Bd Ze))
  (Zs (AU 4 (ZH (S 1)) Hv)
  (ZO (ZM (O (ZI (Zf 2)) (O (ZI (Zf 3)) Ze)))))))
def HA:List D->Option D:=fnOf 2 8 Ra
def Hn:SF :=
 (Zs (Z5 7 (bH Z6 (Zj ZE (O (S 0) (O (bH Z6 (bH Z6 (S 1) (eC (.int 4))) (S 5)) Ze))) (bH Bf (eC (.int 71)) (S 5))))
  (Zs (Z5 8 (bH Z6 (eC (.int 2)) (Zj Zy (O (S 7) (O (eC (.int 9883)) (O (eC (.int 2)) Ze))))))
  (Dp 6 (ZI (Zw (ZH (S 3)) ZR (Zj Zy (O (bH Z6 (S 8) (bH Bf (bH Bf (eC (.int 13)) (S 0)) (S 0))) (O (eC (.int 9871)) (O (S 9) Ze)))))))))
def J7:SF :=
 (Dp 4 (Zj HB (O (bH Z6 (Zj ZE (O (S 0) (O (bH Z6 (bH Z6 (S 1) (eC (.int 1))) (S 5)) Ze))) (bH Bf (eC (.int 61)) (S 5))) (O (S 3) Ze))))
def Hu:SF :=
 (Zs (Z5 2 (Zj ZE (O (S 0) (O (S 1) Ze))))
  (Zs (Z5 3 (bH Z6 (eC (.int 2)) (Zj Zy (O (S 2) (O (eC (.int 9923)) (O (eC (.int 4)) Ze))))))
  (Zs (cQ (tV (bH i9 (Dc (Zf 0)) (eC (.int 63)))) (Z5 3 (bH Z6 (eC (.int 2)) (Zj Zy (O (S 2) (O (eC (.int 9923)) (O (eC (.int 6)) Ze)))))) AZ)
  (Zs (Z7 4 (Bd Ze))
  (Zs (AU 5 (ZH (bH Z6 (eC (.int 1)) (Zj Zy (O (S 2) (O (eC (.int 9907)) (O (eC (.int 3)) Ze)))))) J7)
  (Zs (cQ (tV (bH cA (Zj Zy (O (S 2) (O (eC (.int 9901)) (O (eC (.int 3)) Ze)))) (eC (.int 1)))) (Z7 4 (Lp (Hl (bW (Zj HA (O (Zj ZE (O (S 0) (O (bH Z6 (S 1) (eC (.int 1))) Ze))) (O (S 3) Ze))))) (VC (Zf 4) none (some (eC (.int 1)))))) AZ)
  (Zs (Z7 6 (Bd Ze))
  (Zs (AU 5 (ZH (Zj Zy (O (S 2) (O (eC (.int 9887)) (O (eC (.int 4)) Ze))))) Hn)
  (Zs (Z5 9 (Zj E4 (O (Zj ZE (O (S 0) (O (bH Z6 (S 1) (eC (.int 7))) Ze))) (O (S 3) (O (eC (.int 1)) Ze)))))
  (Zs (cQ (tV (bH cA (Zj Zy (O (S 2) (O (eC (.int 9859)) (O (eC (.int 3)) Ze)))) (eC (.int 1)))) (Z5 9 (YU (ZH (S 3)))) AZ)
  (Zs (Z5 10 (Zj E4 (O (Zj ZE (O (S 0) (O (bH Z6 (S 1) (eC (.int 8))) Ze))) (O (S 3) (O (eC (.int 1)) Ze)))))
  (ZO (ZM (O (S 3) (O (ZI (Zf 4)) (O (ZI (Zf 6)) (O (S 9) (O (S 10) Ze))))))))))))))))))
def DK:List D->Option D:=fnOf 2 11 Hu
def Zr(ns:List Int)(k:Nat):Int:=if k<ns.length then ns.getD k 0 else 0
theorem EM(ns:List Int)(k:Nat):ZE [.list (ns.map dI),.int k]=some (.int (Zr ns k)):=by
 simp[ZE,Rc,Zr]
 by_cases h:k<ns.length
 .have h':(k:Int)<(ns.length:Int):=by omega
  have e:eB (ns.map dI) (k:Int)=some (.int ns[k]):=Dg (by simp[h]);simp[h,h',e]
 .have h':¬(k:Int)<(ns.length:Int):=by omega
  simp[h,h']
def ZF(c p m:Int):Int:=c*48271%p%m
theorem B1(c p m:Int)(hp:0<p)(hm:0<m):Zy [.int c,.int p,.int m]=some (.int (ZF c p m)):=by simp[Zy,QL,hp,hm,ZF]
theorem Ct(c p m:Int)(hm:0<m):0<=ZF c p m/\ZF c p m<m:=⟨J8 _ (by omega),Int.emod_lt_of_pos _ hm⟩
def kI(c:Int)(k:Nat):Bool:=decide (ZF (c+31*(k:Int)*(k:Int)+7*(k:Int)) 9973 5<2)
def hJ(c:Int)(n:Nat):List Int:=((Ab n).filter (kI c)).map λ(k:Nat)=>(k:Int)
def gR(c:Int)(n:Nat):List Int:=if(hJ c n).length<1 then[ZF c 9967 n]else hJ c n
theorem Px(n:Nat)(p:Nat->Bool):Cr n (((Ab n).filter p).map λ(k:Nat)=>(k:Int)):=by
 refine⟨?_,λx hx=>?_⟩
 .rw[HY]
  refine List.Pairwise.imp (λ{a b} h=>?_) (List.Pairwise.filter p Kp);omega
 .obtain⟨k,hk,rfl⟩:=Ak.mp hx
  have:=Am.mp (Gs.mp hk).1;omega
theorem Om(c:Int)(n:Nat)(hn:0<n):Cr n (gR c n)/\gR c n≠[]:=by
 unfold gR;split
 .refine⟨⟨by simp,λx hx=>?_⟩,by simp⟩
  have e:x=ZF c 9967 n:=by simpa using hx
  rw[e];have:=Ct c 9967 n (by omega);omega
 .rename_i h
  exact⟨Px n _,λe=>h (by rw[e];simp)⟩
theorem PM(c:Int)(n:Nat)(hn:0<n)(hb:n<1000):E4 [.int c,.int n,.int 1]=some (bF (gR c n)):=by
 have hn':(0:Int)<(n:Int):=by omega
 have key:Bn (tV (bH i8 (Zj Zy (O (bH Z6 (bH Z6 (S 1) (bH Bf (bH Bf (eC (.int 31)) (S 0)) (S 0))) (bH Bf (eC (.int 7)) (S 0))) (O (eC (.int 9973)) (O (eC (.int 5)) Ze)))) (eC (.int 2)))) (S 0)
   [some (.pl (.int c)),some (.pl (.int n)),some (.pl (.int 1)),none] (Eb 0 n)=some ((hJ c n).map dI):=by
  rw[ZS];rw[EJ dN (kI c) dN]
  .unfold hJ
   rw[AG];rfl
  .intro k hk
   have hk':=Am.mp hk;have s2:ZG (31*(k:Int))=true:=Mg (by omega) (by omega);simp[B1,kI,s2]
  .intro k hk _
   simp
 have h1:dE (n:Int)=true:=Cy (by omega);have h2:(Eb 0 n).length<1000000:=by rw[ZS];simp;omega
 by_cases hl:(hJ c n).length<1
 .have hl':((hJ c n).length:Int)<1:=by omega
  have hm:=B1 c 9967 n (by decide) hn';simp[E4,M1,h1,h2,key];simp[hl',gR,hl,hm]
 .have hl':¬((hJ c n).length:Int)<1:=by omega
  simp[E4,M1,h1,h2,key];simp[hl',gR,hl]
def K3(c:Int)(n k:Nat):List Int :=
 let s:=c+43*(k:Int)*(k:Int)+11*(k:Int)
 if ZF s 9949 10<3/\ZF s 9941 n≠ZF s 9931 n then[ZF s 9941 n,ZF s 9931 n]else[ZF s 9941 n]
def Cj(c:Int)(n k:Nat):List Int:=if ZF (c+43*(k:Int)*(k:Int)+11*(k:Int)) 9949 10=9 then[]else sortI (K3 c n k)
theorem S4(c:Int)(n k:Nat)(hn:0<n):Cr n (Cj c n k):=by
 unfold Cj;split
 .exact⟨.nil,λx hx=>by simp at hx⟩
 .unfold K3
  dsimp only;have b1:=Ct (c+43*(k:Int)*(k:Int)+11*(k:Int)) 9941 n (by omega);have b2:=Ct (c+43*(k:Int)*(k:Int)+11*(k:Int)) 9931 n (by omega);split
  .rename_i h
   refine LS (by simp[h.2]) λx hx=>?_;simp at hx;rcases hx with e|e<;>(subst e;assumption)
  .refine LS (by simp) λx hx=>?_
   simp at hx;subst hx;assumption
theorem Vq(n:Nat):eQ (n+1) (-1)=some n:=by unfold eQ;rw[if_neg (by decide),if_pos (by omega)];congr 1;omega
theorem VZ(c:Int)(n k:Nat)(gp:List D)(o4 o5 o6:Option B)(hn:0<n)(hk:k<1000)(hl:gp.length<1000):∃r5 r6 r7,E3 [some (.pl (.int c)),some (.pl (.int n)),some (.ol gp),some (.pl (dN k)),o4,o5,o6]=some (.nx [some (.pl (.int c)),some (.pl (.int n)),some (.ol (gp++[bF (Cj c n k)])),some (.pl (dN k)),r5,r6,r7]):=by
 have hn':(0:Int)<(n:Int):=by omega
 have s2:ZG (43*(k:Int))=true:=Mg (by omega) (by omega);have hl':gp.length<1000000:=by omega
 have m1:=B1 (c+43*(k:Int)*(k:Int)+11*(k:Int)) 9949 10 (by decide) (by decide);have m2:=B1 (c+43*(k:Int)*(k:Int)+11*(k:Int)) 9941 n (by decide) hn';have m3:=B1 (c+43*(k:Int)*(k:Int)+11*(k:Int)) 9931 n (by decide) hn';unfold Cj K3;dsimp only;generalize ZF (c+43*(k:Int)*(k:Int)+11*(k:Int)) 9949 10=wy at *;generalize ZF (c+43*(k:Int)*(k:Int)+11*(k:Int)) 9941 n=a at *;generalize ZF (c+43*(k:Int)*(k:Int)+11*(k:Int)) 9931 n=b at *;have t1:G9 [AQ a]=some ((sortI [a]).map dI):=QF [a] (by simp);have t2:G9 [AQ a,AQ b]=some ((sortI [a,b]).map dI):=QF [a,b] (by simp)
 by_cases w3:wy<3
 .have w9:(wy==9)=false:=by simp;omega
  have w9':¬wy=9:=by omega
  by_cases ab:a=b
  .subst ab
   simp[E3,s2,m1,m2,m3,w3,w9,w9',dP,Ce,hl',t1]
  .simp[E3,s2,m1,m2,m3,w3,w9,w9',dP,ab,Ce,hl',t2]
 .by_cases w9:wy=9
  .subst w9
   simp[E3,s2,m1,m2,dP,Ce,hl',t1,Vq]
  .have w9':(wy==9)=false:=by simp[w9]
   simp[E3,s2,m1,m2,w3,w9',w9,dP,Ce,hl',t1]
theorem Ta(c:Int)(n:Nat)(hn:0<n)(hb:n<1000):HB [.int c,.int n]=some (Zl ((Ab n).map λk=>Cj c n k)):=by
 have h1:dE (n:Int)=true:=Cy (by omega);have h2:(Eb 0 n).length<1000000:=by rw[ZS];simp;omega
 obtain⟨r',e1,o3,o4,o5,o6,p1⟩:=Cz (i:=3) (body:=E3) dN (λ(s:List Nat) r=>∃o3 o4 o5 o6,r=[some (.pl (.int c)),some (.pl (.int n)),some (.ol (s.map λk=>bF (Cj c n k))),o3,o4,o5,o6]) (Ab n)
  [some (.pl (.int c)),some (.pl (.int n)),some (.ol []),none,none,none,none] ⟨none,none,none,none,rfl⟩ (by
   rintro s k post r d8 ⟨o3,o4,o5,o6,rfl⟩
   have hk':k<n:=Am.mp (by rw[d8];simp);have hs:s.length<n:=by have:=congrArg Bb d8;simp at this;omega
   obtain⟨r5,r6,r7,e⟩:=VZ c n k (s.map λk=>bF (Cj c n k)) o4 o5 o6 hn (by omega) (by simp;omega);exact⟨_,e,some (.pl (dN k)),r5,r6,r7,by simp⟩)
 subst p1;have hl:n<1000000:=by omega
 simp[HB,Rb,h1,ZS,hl,e1,Zl]
def ahV(k:Nat):Int:=if(0:Int) > (k:Int)-1 then 0 else(k:Int)-1
def eW(n k:Nat):Int:=if(n:Int)-1<(k:Int)+1 then(n:Int)-1 else(k:Int)+1
def fR(c:Int)(k:Nat):List Int:=sortI (cx [] (ahV k::(if ZF (c+17*(k:Int)) 9929 6=1 then[(k:Int)]else[])))
theorem SJ(c:Int)(n k:Nat)(hk:k<n):Cr n (fR c k):=by
 unfold fR;have ha:0<=ahV k/\ahV k<n:=by unfold ahV;split<;>omega
 refine LS (JT _ _ (by simp)) λx hx=>?_;rw[JG]at hx;rcases hx with h|h
 .simp at h
 .rcases Aw.mp h with e|e
  .subst e;exact ha
  .split at e
   .simp at e;subst e;omega
   .simp at e
theorem Sw(n k:Nat)(hk:k<n):Cr n [eW n k]:=by
 have ha:0<=eW n k/\eW n k<n:=by unfold eW;split<;>omega
 exact⟨by simp,λx hx=>by simp at hx;subst hx;exact ha⟩
theorem Vi(c:Int)(n k:Nat)(ls rs:List D)(o4 o5 o6 o7:Option B)(hk:k<8)(h1:ls.length<1000)(h2:rs.length<1000):∃r4 r5 r6,Hv [some (.pl (.int c)),some (.pl (.int n)),some (.ol ls),some (.ol rs),some (.pl (dN k)),o5,o6,o7]=some (.nx [some (.pl (.int c)),some (.pl (.int n)),some (.ol (ls++[bF (fR c k)])),some (.ol (rs++[bF [eW n k]])),some (.pl (dN k)),r4,r5,r6]):=by
 have h1':ls.length<1000000:=by omega
 have h2':rs.length<1000000:=by omega
 have m1:=B1 (c+17*(k:Int)) 9929 6 (by decide) (by decide);have jK:k=0\/k=1\/k=2\/k=3\/k=4\/k=5\/k=6\/k=7:=by omega
 have l1:GI [if(k:Int)-1<0 then 0 else(k:Int)-1,(k:Int)]=true:=by rcases jK with rfl|rfl|rfl|rfl|rfl|rfl|rfl|rfl<;>rfl
 have l2:GI [if(k:Int)-1<0 then 0 else(k:Int)-1]=true:=by rcases jK with rfl|rfl|rfl|rfl|rfl|rfl|rfl|rfl<;>rfl
 unfold fR;generalize ZF (c+17*(k:Int)) 9929 6=a at *
 by_cases e:a=1
 .subst e
  simp[Hv,m1,h1',h2',ahV,eW,Bz,QR,l1]
 .have e':(a==1)=false:=by simp[e]
  simp[Hv,m1,h1',h2',ahV,eW,e,e',Bz,QR,l2]
theorem T5(c:Int)(n:Nat)(hb:n<=8):HA [.int c,.int n]=some (.tuple [Zl ((Ab n).map λk=>fR c k),Zl ((Ab n).map λk=>[eW n k])]):=by
 have h1:dE (n:Int)=true:=Cy (by omega);obtain⟨r',e1,o4,o5,o6,o7,p1⟩:=Cz (i:=4) (body:=Hv) dN (λ(s:List Nat) r=>∃o4 o5 o6 o7,r=[some (.pl (.int c)),some (.pl (.int n)),some (.ol (s.map λk=>bF (fR c k))),some (.ol (s.map λk=>bF [eW n k])),o4,o5,o6,o7]) (Ab n)
  [some (.pl (.int c)),some (.pl (.int n)),some (.ol []),some (.ol []),none,none,none,none] ⟨none,none,none,none,rfl⟩ (by
   rintro s k post r d8 ⟨o4,o5,o6,o7,rfl⟩
   have hk':k<n:=Am.mp (by rw[d8];simp);have hs:s.length<n:=by have:=congrArg Bb d8;simp at this;omega
   obtain⟨r5,r6,r7,e⟩:=Vi c n k (s.map λk=>bF (fR c k)) (s.map λk=>bF [eW n k]) o4 o5 o6 o7 (by omega) (by simp;omega) (by simp;omega);exact⟨_,e,some (.pl (dN k)),r5,r6,r7,by simp⟩)
 subst p1;have hl:n<1000000:=by omega
 simp[HA,Ra,h1,ZS,hl,e1,Zl]
section
variable(ns:List Int)(at_:Nat)
def ZD:Nat:=(2+ZF (Zr ns at_) 9923 4).toNat
def BB:List (List (List Int)):=(Ab (1+ZF (Zr ns at_) 9907 3).toNat).map λk=>(Ab (ZD ns at_)).map λs=>Cj (Zr ns (at_+1+k)+61*(k:Int)) (ZD ns at_) s
def EH:List (List (List Int)) :=
 if ZF (Zr ns at_) 9901 3=1 then[(Ab (ZD ns at_)).map λk=>fR (Zr ns (at_+1)) k,(Ab (ZD ns at_)).map λk=>[eW (ZD ns at_) k]]++(BB ns at_).take 1 else BB ns at_
def D4(k:Nat):List Int:=(Ab (ZD ns at_)).map λ(s:Nat)=>ZF (Zr ns (at_+4+k)+71*(k:Int)+13*(s:Int)*(s:Int)) 9871 (2+ZF (Zr ns (at_+4+k)+71*(k:Int)) 9883 2)
def EI:List (List Int):=(Ab (ZF (Zr ns at_) 9887 4).toNat).map (D4 ns at_)
def GJ:List Int:=if ZF (Zr ns at_) 9859 3=1 then(Ab (ZD ns at_)).map λ(k:Nat)=>(k:Int)else gR (Zr ns (at_+7)) (ZD ns at_)
def Od:List Int:=gR (Zr ns (at_+8)) (ZD ns at_)
def ik:Wk:=⟨ZD ns at_,EH ns at_,EI ns at_,GJ ns at_,Od ns at_⟩
theorem Jm:2<=ZD ns at_/\ZD ns at_<=5:=by have:=Ct (Zr ns at_) 9923 4 (by decide);unfold ZD;omega
theorem T4:((ZD ns at_:Nat):Int)=2+ZF (Zr ns at_) 9923 4:=by have:=Ct (Zr ns at_) 9923 4 (by decide);unfold ZD;omega
theorem Sb:(ik ns at_).Ok:=by
 have hm:=Jm ns at_;have hd3:=Ct (Zr ns at_) 9907 3 (by decide);have dk:∀dd∈BB ns at_,dd.length=ZD ns at_/\∀c∈dd,Cr (ZD ns at_) c:=by intro dd h;unfold BB at h;obtain⟨k,_,rfl⟩:=Ak.mp h;refine⟨by simp,λc hc=>?_⟩;obtain⟨s,_,rfl⟩:=Ak.mp hc;exact S4 _ _ _ (by omega)
 have dv:∀dd∈EH ns at_,dd.length=ZD ns at_/\∀c∈dd,Cr (ZD ns at_) c:=by
  intro dd h;unfold EH at h;split at h
  .rcases AW.mp h with h|h
   .simp at h
    rcases h with rfl|rfl
    .refine⟨by simp,λc hc=>?_⟩
     obtain⟨s,hs,rfl⟩:=Ak.mp hc;exact SJ _ _ _ (Am.mp hs)
    .refine⟨by simp,λc hc=>?_⟩
     obtain⟨s,hs,rfl⟩:=Ak.mp hc;exact Sw _ _ (Am.mp hs)
   .exact dk dd (List.mem_of_mem_take h)
  .exact dk dd h
 have lk:(BB ns at_).length=(1+ZF (Zr ns at_) 9907 3).toNat:=by unfold BB;simp
 have lv:1<=(EH ns at_).length/\(EH ns at_).length<=3:=by
  unfold EH;split
  .simp;omega
  .omega
 have hl4:=Ct (Zr ns at_) 9887 4 (by decide);have lo:∀l∈EI ns at_,l.length=ZD ns at_/\∀x∈l,0<=x/\x<=9:=by intro l h;unfold EI at h;obtain⟨k,_,rfl⟩:=Ak.mp h;unfold D4;refine⟨by simp,λx hx=>?_⟩;obtain⟨s,_,rfl⟩:=Ak.mp hx;have h2:=Ct (Zr ns (at_+4+k)+71*(k:Int)) 9883 2 (by decide);have h3:=Ct (Zr ns (at_+4+k)+71*(k:Int)+13*(s:Int)*(s:Int)) 9871 (2+ZF (Zr ns (at_+4+k)+71*(k:Int)) 9883 2) (by omega);omega
 have ll:(EI ns at_).length<=3:=by unfold EI;simp;omega
 have cb:=Om (Zr ns (at_+7)) (ZD ns at_) (by omega);have cg:=Om (Zr ns (at_+8)) (ZD ns at_) (by omega);have hb:GJ ns at_≠[]/\Cr (ZD ns at_) (GJ ns at_):=by
  unfold GJ;split
  .refine⟨λe=>?_,?_⟩
   .have:=congrArg Bb e
    simp at this;omega
   .have:=Px (ZD ns at_) λ_=>true
    rwa [List.filter_eq_self.mpr λ_ _=>rfl]at this
  .exact⟨cb.2,cb.1⟩
 exact⟨hm.1,hm.2,lv.1,lv.2,λdd h=>(dv dd h).1,λdd h=>(dv dd h).2,ll,λl h=>(lo l h).1,λl h=>(lo l h).2,hb.1,hb.2,cg.2,cg.1⟩
theorem W2(k n:Nat)(c:Option B)(ds:List D)(o6 o7 o8 o9 g0:Option B)(hk:k<1000)(h1:ds.length<1000)(hn:0<n)(hb:n<1000):J7 [some (.pl (.list (ns.map dI))),some (.pl (.int at_)),c,some (.pl (.int n)),some (.ol ds),some (.pl (dN k)),o6,o7,o8,o9,g0] =some (.nx [some (.pl (.list (ns.map dI))),some (.pl (.int at_)),c,some (.pl (.int n)),some (.ol (ds++[Zl ((Ab n).map λs=>Cj (Zr ns (at_+1+k)+61*(k:Int)) n s)])),some (.pl (dN k)),o6,o7,o8,o9,g0]):=by
 have h1':ds.length<1000000:=by omega
 have hc:=EM ns (at_+1+k);have e:((at_+1+k:Nat):Int)=(at_:Int)+1+(k:Int):=by omega
 rw[e]at hc;have hd:=Ta (Zr ns (at_+1+k)+61*(k:Int)) n hn hb;simp[J7,hc,hd,h1']
theorem WM(k n:Nat)(c o4:Option B)(ls:List D)(o7 o8 o9 g0:Option B)(hk:k<1000)(h1:ls.length<1000)(hn:n=ZD ns at_):∃r7 r8,Hn [some (.pl (.list (ns.map dI))),some (.pl (.int at_)),c,some (.pl (.int n)),o4,some (.pl (dN k)),some (.ol ls),o7,o8,o9,g0] =some (.nx [some (.pl (.list (ns.map dI))),some (.pl (.int at_)),c,some (.pl (.int n)),o4,some (.pl (dN k)),some (.ol (ls++[bF (D4 ns at_ k)])),r7,r8,o9,g0]):=by
 have hb:=Jm ns at_;have h1':ls.length<1000000:=by omega
 have hc:=EM ns (at_+4+k);have e:((at_+4+k:Nat):Int)=(at_:Int)+4+(k:Int):=by omega
 rw[e]at hc;have m1:=B1 (Zr ns (at_+4+k)+71*(k:Int)) 9883 2 (by decide) (by decide);have b1:=Ct (Zr ns (at_+4+k)+71*(k:Int)) 9883 2 (by decide);have hok:dE (n:Int)=true:=Cy (by omega);have hl:n<1000000:=by omega
 unfold D4;rw[<-hn];generalize ZF (Zr ns (at_+4+k)+71*(k:Int)) 9883 2=mo at *;generalize Zr ns (at_+4+k)=cc at *;simp[Hn,hc,m1,hok,h1',ZS,hl];rw[De dN λ(s:Nat)=>dI (ZF (cc+71*(k:Int)+13*(s:Int)*(s:Int)) 9871 (2+mo))]
 .refine⟨some (.pl (.int (cc+71*(k:Int)))),some (.pl (.int (2+mo))),?_⟩
  simp
 .intro s hs
  have hs':=Am.mp hs;have s2:ZG (13*(s:Int))=true:=Mg (by omega) (by omega);have m2:=B1 (cc+71*(k:Int)+13*(s:Int)*(s:Int)) 9871 (2+mo) (by decide) (by omega);simp[s2,m2]
theorem VB(h:ns.length<=63):DK [.list (ns.map dI),.int at_]=some (ik ns at_).d:=by
 have hb:=Jm ns at_;have jI:=T4 ns at_;have c0:=EM ns at_;have c1:=EM ns (at_+1);have c7:=EM ns (at_+7);have c8:=EM ns (at_+8);have e1:((at_+1:Nat):Int)=(at_:Int)+1:=by omega
 have e7:((at_+7:Nat):Int)=(at_:Int)+7:=by omega
 have e8:((at_+8:Nat):Int)=(at_:Int)+8:=by omega
 rw[e1]at c1;rw[e7]at c7;rw[e8]at c8;have m4:=B1 (Zr ns at_) 9923 4 (by decide) (by decide);have m3:=B1 (Zr ns at_) 9907 3 (by decide) (by decide);have b3:=Ct (Zr ns at_) 9907 3 (by decide);have mw:=B1 (Zr ns at_) 9901 3 (by decide) (by decide);have ml:=B1 (Zr ns at_) 9887 4 (by decide) (by decide);have bl:=Ct (Zr ns at_) 9887 4 (by decide);have mb:=B1 (Zr ns at_) 9859 3 (by decide) (by decide);have wk:=T5 (Zr ns (at_+1)) (ZD ns at_) (by omega);have k7:=PM (Zr ns (at_+7)) (ZD ns at_) (by omega) (by omega);have k8:=PM (Zr ns (at_+8)) (ZD ns at_) (by omega) (by omega);have bK:¬(63:Int)<(ns.length:Int):=by omega
 have jC:dE (1+ZF (Zr ns at_) 9907 3)=true:=Eo.mpr (by omega);have jB:dE (ZF (Zr ns at_) 9887 4)=true:=Eo.mpr (by omega);have jA:dE ((ZD ns at_:Nat):Int)=true:=Cy (by omega);obtain⟨r1,f1,o5,q1⟩:=Cz (i:=5) (body:=J7) dN (λ(s:List Nat) r=>∃o5,r=[some (.pl (.list (ns.map dI))),some (.pl (.int at_)),some (.pl (.int (Zr ns at_))),some (.pl (.int (ZD ns at_))),
   some (.ol (s.map λk=>Zl ((Ab (ZD ns at_)).map λs=>Cj (Zr ns (at_+1+k)+61*(k:Int)) (ZD ns at_) s))),o5,none,none,none,none,none]) (Ab (1+ZF (Zr ns at_) 9907 3).toNat)
  [some (.pl (.list (ns.map dI))),some (.pl (.int at_)),some (.pl (.int (Zr ns at_))),some (.pl (.int (ZD ns at_))),some (.ol []),none,none,none,none,none,none] ⟨none,rfl⟩ (by
   rintro s k post r d8 ⟨o5,rfl⟩
   have hk':=Am.mp (show k∈Ab (1+ZF (Zr ns at_) 9907 3).toNat by rw[d8];simp);have hs:s.length<4:=by have:=congrArg Bb d8;simp at this;omega
   have e:=W2 ns at_ k (ZD ns at_) (some (.pl (.int (Zr ns at_)))) (s.map λk=>Zl ((Ab (ZD ns at_)).map λs=>Cj (Zr ns (at_+1+k)+61*(k:Int)) (ZD ns at_) s)) none none none none none (by omega) (by simp;omega) (by omega) (by omega);exact⟨_,e,some (.pl (dN k)),by simp⟩)
 subst q1;have ke:∀(o4 o5:Option B),∃r2,A5 5 Hn ((Ab (ZF (Zr ns at_) 9887 4).toNat).map dN) [some (.pl (.list (ns.map dI))),some (.pl (.int at_)),some (.pl (.int (Zr ns at_))),some (.pl (.int (ZD ns at_))),o4,o5,some (.ol []),none,none,none,none]=some (.nx r2) /\
   ∃o5 o7 o8,r2=[some (.pl (.list (ns.map dI))),some (.pl (.int at_)),some (.pl (.int (Zr ns at_))),some (.pl (.int (ZD ns at_))),o4,o5,some (.ol ((Ab (ZF (Zr ns at_) 9887 4).toNat).map λk=>bF (D4 ns at_ k))),o7,o8,none,none]:=by
  intro o4 o5;refine Cz (i:=5) (body:=Hn) dN (λ(s:List Nat) r=>∃o5 o7 o8,r=[some (.pl (.list (ns.map dI))),some (.pl (.int at_)),some (.pl (.int (Zr ns at_))),some (.pl (.int (ZD ns at_))),
   o4,o5,some (.ol (s.map λk=>bF (D4 ns at_ k))),o7,o8,none,none]) (Ab (ZF (Zr ns at_) 9887 4).toNat) _ ⟨o5,none,none,rfl⟩ ?_
  rintro s k post r d8 ⟨o5,o7,o8,rfl⟩
  have hk':=Am.mp (show k∈Ab (ZF (Zr ns at_) 9887 4).toNat by rw[d8];simp);have hs:s.length<4:=by have:=congrArg Bb d8;simp at this;omega
  obtain⟨r7,r8,e⟩:=WM ns at_ k (ZD ns at_) (some (.pl (.int (Zr ns at_)))) o4 (s.map λk=>bF (D4 ns at_ k)) o7 o8 none none (by omega) (by simp;omega) rfl;exact⟨_,e,some (.pl (dN k)),r7,r8,by simp⟩
 have n3:(1+ZF (Zr ns at_) 9907 3).toNat<1000000:=by omega
 have nl:(ZF (Zr ns at_) 9887 4).toNat<1000000:=by omega
 have nm:ZD ns at_<1000000:=by omega
 have nQ:((Ab (1+ZF (Zr ns at_) 9907 3).toNat).map λk=>Zl ((Ab (ZD ns at_)).map λs=>Cj (Zr ns (at_+1+k)+61*(k:Int)) (ZD ns at_) s))=(BB ns at_).map Zl:=by unfold BB;simp
 have nF:((Ab (ZF (Zr ns at_) 9887 4).toNat).map λk=>bF (D4 ns at_ k))=(EI ns at_).map bF:=by unfold EI;simp
 rw[nQ]at f1;simp only[nF]at ke;have dkl:(BB ns at_).length<10:=by unfold BB;simp;omega
 unfold ik Wk.d EH GJ Od;simp only
 by_cases w1:ZF (Zr ns at_) 9901 3=1
 .have w1':(ZF (Zr ns at_) 9901 3==1)=true:=by simp[w1]
  have mm:cutD ((BB ns at_).map Zl) none (some 1)=((BB ns at_).take 1).map Zl:=by unfold cutD iM;simp
  obtain⟨r2,f2,p5,p7,p8,q2⟩:=ke (some (.ol (Zl ((Ab (ZD ns at_)).map λk=>fR (Zr ns (at_+1)) k)::Zl ((Ab (ZD ns at_)).map λk=>[eW (ZD ns at_) k])::List.take 1 ((BB ns at_).map Zl)))) o5;subst q2;have c2:min 1 (BB ns at_).length+1+1<1000000:=by omega
  have c3:(2:Nat)+min 1 (BB ns at_).length<1000000:=by omega
  by_cases w2:ZF (Zr ns at_) 9859 3=1
  .have w2':(ZF (Zr ns at_) 9859 3==1)=true:=by simp[w2]
   simp[DK,Hu,c0,m4,<-jI,bK,m3,jC,ZS,n3,f1,mw,w1',c1,wk,mm,w1,ml,jB,nl,f2,c7,k7,mb,w2',jA,nm,c8,k8,w2,c2,c3]
  .have w2':(ZF (Zr ns at_) 9859 3==1)=false:=by simp[w2]
   simp[DK,Hu,c0,m4,<-jI,bK,m3,jC,ZS,n3,f1,mw,w1',c1,wk,mm,w1,ml,jB,nl,f2,c7,k7,mb,w2',jA,nm,c8,k8,w2,c2,c3]
 .have w1':(ZF (Zr ns at_) 9901 3==1)=false:=by simp[w1]
  obtain⟨r2,f2,p5,p7,p8,q2⟩:=ke (some (.ol ((BB ns at_).map Zl))) o5;subst q2
  by_cases w2:ZF (Zr ns at_) 9859 3=1
  .have w2':(ZF (Zr ns at_) 9859 3==1)=true:=by simp[w2]
   simp[DK,Hu,c0,m4,<-jI,bK,m3,jC,ZS,n3,f1,mw,w1',w1,ml,jB,nl,f2,c7,k7,mb,w2',jA,nm,c8,k8,w2]
  .have w2':(ZF (Zr ns at_) 9859 3==1)=false:=by simp[w2]
   simp[DK,Hu,c0,m4,<-jI,bK,m3,jC,ZS,n3,f1,mw,w1',w1,ml,jB,nl,f2,c7,k7,mb,w2',jA,nm,c8,k8,w2]
end
section
variable{c:List Int}{n:Nat}
theorem PQ{e:EF}{r:HM.Env}{f:D->D}(xs:List D)(h:∀x∈xs,e (some (.pl x)::r)=some (f x)):Bn ZR e r xs=some (xs.map f):=by
 have:=De (e:=e) (r:=r) id f xs h
 rwa [List.map_id]at this
theorem PB(xs:List D)(p:D->Bool):FK (xs.map λx=>DP (p x))=some (xs.map p):=by
 have:=QP (xs.map p)
 rwa [AG]at this
def C1(d:D)(lo hi:Int):Bool:=match d with
 | .int i=>decide (lo<=i)&&decide (i<=hi)
 |_=>false
def fV:D->Prop
 | .dict _=>False
 |_=>True
theorem M5(d:D)(lo hi:Int)(nd:fV d:=by trivial):DL [d,.int lo,.int hi]=some (.bool (C1 d lo hi)):=by
 cases d<;>first|exact nd.elim|simp[DL,Q0,C1]
 rename_i i
 by_cases h:lo<=i<;>simp[h]
def Bw(d:D)(lo hi:Int):Bool:=match d with
 | .tuple ds=>decide (lo<=(ds.length:Int))&&decide ((ds.length:Int)<=hi)
 |_=>false
theorem Hk(d:D)(lo hi:Int)(nd:fV d:=by trivial):Cc [d,.int lo,.int hi]=some (.bool (Bw d lo hi)):=by
 cases d<;>first|exact nd.elim|simp[Cc,Qn,Bw]
 rename_i ds
 by_cases h:lo<=(ds.length:Int)<;>simp[h]
def B2(many:Int):Int->List D->Bool
 |_,[]=>true
 |l,.int i::r=>(decide (l<=i)&&decide (i<=many-1))&&B2 many (i+1) r
 |_,_::_=>false
def Fw(d:D)(many:Int):Bool:=match d with
 | .tuple ds=>B2 many 0 ds
 |_=>false
theorem OP(d:D)(many:Int):∀(ds:List D) (l:Int) (o:Option B),(∀x∈ds,fV x) ->(B2 many l ds=true->∃l' o',A5 3 Z1 ds [some (.pl d),some (.pl (.int many)),some (.pl (.int l)),o]=some (.nx [some (.pl d),some (.pl (.int many)),some (.pl (.int l')),o'])) /\ (B2 many l ds=false->A5 3 Z1 ds [some (.pl d),some (.pl (.int many)),some (.pl (.int l)),o]=some (.rt (.bool false)))
 |[],l,o,_=>⟨λ_=>⟨l,o,rfl⟩,λh=>by simp[B2]at h⟩
 |x::ds,l,o,nd=>by
  have key:=M5 x l (many-1) (nd x (An ..));cases hx:C1 x l (many-1)with
  |false =>
   have e:Z1 [some (.pl d),some (.pl (.int many)),some (.pl (.int l)),some (.pl x)]=some (.rt (.bool false)):=by rw[hx]at key;simp[Z1,key]
   have e2:B2 many l (x::ds)=false:=by cases x<;>simp[B2];rename_i i;simp[C1]at hx;intro h1 h2;exact absurd (hx h1) (by omega)
   refine⟨λh=>?_,λ_=>?_⟩
   .rw[e2]at h;cases h
   .unfold A5
    show(match Z1 [some (.pl d),some (.pl (.int many)),some (.pl (.int l)),some (.pl x)]with|some (.nx r')=>_|some (.ct r')=>_|some (.bk r')=>_|some (.rt d)=>_|none=>_)=_;rw[e]
  |true =>
   cases x with
   |int i =>
    have e:Z1 [some (.pl d),some (.pl (.int many)),some (.pl (.int l)),some (.pl (.int i))]=some (.nx [some (.pl d),some (.pl (.int many)),some (.pl (.int (i+1))),some (.pl (.int i))]):=by rw[hx]at key;simp[Z1,key]
    have e2:B2 many l (.int i::ds)=B2 many (i+1) ds:=by have:(decide (l<=i)&&decide (i<=many-1))=true:=hx;simp only[B2,this,Bool.true_and]
    obtain⟨a1,a2⟩:=OP d many ds (i+1) (some (.pl (.int i))) λx hx=>nd x (Aq _ hx);rw[e2];have e3:A5 3 Z1 (.int i::ds) [some (.pl d),some (.pl (.int many)),some (.pl (.int l)),o]=A5 3 Z1 ds [some (.pl d),some (.pl (.int many)),some (.pl (.int (i+1))),some (.pl (.int i))]:=by show(match Z1 [some (.pl d),some (.pl (.int many)),some (.pl (.int l)),some (.pl (.int i))]with|some (.nx r')=>_|some (.ct r')=>_|some (.bk r')=>_|some (.rt d)=>_|none=>_)=_;rw[e]
    rw[e3];exact⟨a1,a2⟩
   |_=>simp[C1]at hx
theorem QU(d:D)(many:Int)(hl:∀ds,d=.tuple ds->ds.length<1000000/\∀x∈ds,fV x)(nd:fV d:=by trivial):Z2 [d,.int many]=some (.bool (Fw d many)):=by
 cases d with
 |tuple ds =>
  obtain⟨hl,hn⟩:=hl ds rfl;obtain⟨a1,a2⟩:=OP (.tuple ds) many ds 0 none hn;cases h:B2 many 0 ds with
  |true=>obtain⟨l',o',e⟩:=a1 h;simp[Z2,JR,Fw,h,hl,e]
  |false=>have e:=a2 h;simp[Z2,JR,Fw,h,hl,e]
 |dict _=>exact nd.elim
 |_=>simp[Z2,JR,Fw]
def small:D->Prop
 | .tuple ds=>ds.length<1000000/\∀x∈ds,fV x
 | .dict _=>False
 |_=>True
theorem QQ(h:(c.map dI).length<1000000):small (bF c):=⟨h,λx hx=>by obtain⟨i,_,rfl⟩:=Ak.mp hx;trivial⟩
theorem Pa{d:D}(h:small d):fV d:=by cases d<;>first|exact h.elim|trivial
theorem V6{d:D}(h:small d):∀ds,d=.tuple ds->ds.length<1000000/\∀x∈ds,fV x:=by rintro ds rfl;exact h
def G0(d:D)(many:Int):Bool:=Bw d many many&&(match d with | .tuple ds=>ds.all λc=>Fw c many|_=>false)
def Qc(d:D):Prop:=match d with | .tuple ds=>ds.length<1000000/\∀x∈ds,small x | .dict _=>False|_=>True
theorem Vy{d:D}(h:Qc d):fV d:=by cases d<;>first|exact h.elim|trivial
theorem WO(d:D)(many:Int)(hs:Qc d):EU [d,.int many]=some (.bool (G0 d many)):=by
 have h1:=Hk d many many (Vy hs);cases hr:Bw d many many with
 |false=>rw[hr]at h1;simp[EU,MP,h1,G0,hr]
 |true =>
  rw[hr]at h1;cases d with
  |tuple ds =>
   have hs':ds.length<1000000/\∀x∈ds,small x:=hs;simp[EU,MP,h1,G0,hr,hs'.1];rw[PQ (f:=λc=>.bool (Fw c many))]
   .simp[PB]
   .intro x hx
    simp[QU x many (V6 (hs'.2 x hx)) (Pa (hs'.2 x hx))]
  |_=>simp[Bw]at hr
def G2(d:D)(many:Int):Bool:=Bw d many many&&(match d with | .tuple ds=>ds.all λc=>C1 c 0 9|_=>false)
theorem WL(d:D)(many:Int)(hs:small d):ET [d,.int many]=some (.bool (G2 d many)):=by
 have h1:=Hk d many many (Pa hs);cases hr:Bw d many many with
 |false=>rw[hr]at h1;simp[ET,MO,h1,G2,hr]
 |true =>
  rw[hr]at h1;cases d with
  |tuple ds =>
   have hs':ds.length<1000000:=hs.1;simp[ET,MO,h1,G2,hr,hs'];rw[PQ (f:=λc=>.bool (C1 c 0 9))]
   .simp[PB]
   .intro x hx
    simp[M5 x 0 9 (hs.2 x hx)]
  |_=>simp[Bw]at hr
structure Wk.V(w:Wk):Prop where
 m1:1<=w.many
 m2:w.many<=8
 d1:1<=w.deeds.length
 d2:w.deeds.length<=5
 dl:∀dd∈w.deeds,dd.length=w.many
 dc:∀dd∈w.deeds,∀c∈dd,Cr w.many c
 l2:w.looks.length<=4
 ll:∀l∈w.looks,l.length=w.many
 lc:∀l∈w.looks,∀x∈l,0<=x/\x<=9
 b1:w.beg≠[]
 bc:Cr w.many w.beg
 gc:Cr w.many w.goal
theorem Wk.Ok.v{w:Wk}(h:w.Ok):Wk.V w:=by obtain⟨m1,m2,d1,d2,dl,dc,l2,ll,lc,b1,bc,g1,gc⟩:=h;exact⟨by omega,by omega,d1,by omega,dl,dc,by omega,ll,lc,b1,bc,gc⟩
theorem LH(n:Nat):∀(c:List Int) (l:Int),c.Pairwise (· < ·)->(∀x∈c,l<=x/\x<(n:Int))->B2 n l (c.map dI)=true
 |[],_,_,_=>rfl
 |x::c,l,hp,hb=>by have h1:=hb x (An ..);have ih:=LH n c (x+1) (B9.mp hp).2 λy hy=>⟨by have:=(B9.mp hp).1 y hy;omega,(hb y (Aq _ hy)).2⟩;show((decide (l<=x)&&decide (x<=(n:Int)-1))&&B2 n (x+1) (c.map dI))=true;rw[ih,decide_eq_true h1.1,decide_eq_true (show x<=(n:Int)-1 by omega)];rfl
theorem Qk(h:Cr n c)(hn:n<1000):Z2 [bF c,.int n]=some (.bool true):=by have hl:=h.len;rw[QU (bF c) n (by intro ds e;cases e;exact⟨by simp;omega,λx hx=>by obtain⟨i,_,rfl⟩:=Ak.mp hx;trivial⟩)];show some (DP (B2 n 0 (c.map dI)))=_;rw[LH n c 0 h.1 h.2]
theorem Xn(h:Cr n c)(h0:c≠[])(hn:n<1000):HC [bF c,.int n]=some (.bool true):=by
 have h1:=Qk h hn;have h2:(0:Int)<(c.length:Int):=by have:=List.length_pos_iff.mpr h0;omega
 simp[HC,Rh,h1];exact List.length_pos_iff.mpr h0
theorem Tu{w:Wk}(h:Wk.V w){dd:List (List Int)}(hd:dd∈w.deeds):EU [Zl dd,.int w.many]=some (.bool true):=by
 have hl:=h.dl dd hd;have m2:=h.m2;rw[WO (Zl dd) _ (show(dd.map bF).length<1000000/\∀x∈dd.map bF,small x by refine⟨by simp;omega,λx hx=>?_⟩;obtain⟨c,hc,rfl⟩:=Ak.mp hx;have:=(h.dc dd hd c hc).len;refine QQ ?_;simp;omega)];have e:G0 (Zl dd) w.many=true:=by unfold G0 Zl Bw;simp[hl];intro c hc;exact LH w.many c 0 (h.dc dd hd c hc).1 (h.dc dd hd c hc).2
 rw[e]
theorem Tp{w:Wk}(h:Wk.V w){l:List Int}(hd:l∈w.looks):ET [bF l,.int w.many]=some (.bool true):=by
 have hl:=h.ll l hd;have m2:=h.m2;rw[WL (bF l) _ (QQ (show(l.map dI).length<1000000 by simp;omega))];have e:G2 (bF l) w.many=true:=by unfold G2 Bw;simp[hl];intro x hx;have:=h.lc l hd x hx;simp[C1];omega
 rw[e]
theorem allTrue(α:Type)(xs:List α):FK (xs.map λ_=>DP true)=some (xs.map λ_=>true):=by
 have:=QP (xs.map λ_=>true)
 rwa [AG]at this
theorem X4{w:Wk}(h:Wk.V w):Hy [.tuple (w.deeds.map Zl),.int w.many]=some (.bool true):=by
 have h1:=Hk (.tuple (w.deeds.map Zl)) 1 5;have d1:=h.d1;have d2:=h.d2;have e:Bw (.tuple (w.deeds.map Zl)) 1 5=true:=by simp[Bw];omega
 rw[e]at h1;have hl:w.deeds.length<1000000:=by omega
 simp[Hy,QZ,h1,hl];rw[De Zl (λ_=>.bool true)]
 .simp[allTrue]
 .intro x hx
  simp[Tu h hx]
theorem X3{w:Wk}(h:Wk.V w):Hx [.tuple (w.looks.map bF),.int w.many]=some (.bool true):=by
 have h1:=Hk (.tuple (w.looks.map bF)) 0 4;have d2:=h.l2;have e:Bw (.tuple (w.looks.map bF)) 0 4=true:=by simp[Bw];omega
 rw[e]at h1;have hl:w.looks.length<1000000:=by omega
 simp[Hx,QY,h1,hl];rw[De bF (λ_=>.bool true)]
 .simp[allTrue]
 .intro x hx
  simp[Tp h hx]
theorem XZ{w:Wk}(h:Wk.V w):Hw [w.d]=some (.bool true):=by
 have h1:=Hk w.d 5 5;have e:Bw w.d 5 5=true:=by simp[Bw,Wk.d]
 rw[e]at h1;have h2:=M5 (.int w.many) 1 8;have m1:=h.m1;have m2:=h.m2;have e2:C1 (.int w.many) 1 8=true:=by simp[C1];omega
 rw[e2]at h2;have h3:=X4 h;have h4:=X3 h;have h5:=Xn h.bc h.b1 (by omega);have h6:=Qk h.gc (by omega);unfold Wk.d at h1 ⊢;simp[Hw,QX,h1,h2,h3,h4,h5,h6]
theorem W5{w:Wk}(h:Wk.V w):Hi [w.d]=some w.d:=by simp[Hi,QM,XZ h]
theorem X0(w:Wk):ZJ [w.d]=some (.int w.many):=by simp[ZJ,QW,Wk.d]
theorem Xo(w:Wk):DN [w.d]=some (.tuple (w.deeds.map Zl)):=by simp[DN,Rg,Wk.d]
theorem XC(w:Wk):DM [w.d]=some (.tuple (w.looks.map bF)):=by simp[DM,Rf,Wk.d]
end
def RV(w:Wk)(d s:Int):List Int:=(w.deeds[d.toNat]?.getD [])[s.toNat]?.getD []
def C9(w:Wk)(c:List Int)(d:Int):List Int:=c.flatMap λs=>RV w d s
abbrev Bm(k:List Int):List Ky:=k.map CM
theorem Pn{a b:List Int}(h:Bm a=Bm b):a=b:=by
 induction a generalizing b with
 |nil=>cases b with
  |nil=>rfl
  |cons _ _=>simp at h
 |cons x a ih=>cases b with
  |nil=>simp at h
  |cons y b=>simp at h;rw[h.1,ih (by simpa using h.2)]
theorem WX(k:List Int):I0 (k.map dI)=some (Bm k):=by
 induction k with
 |nil=>rfl
 |cons x k ih=>show(I0 (k.map dI)).map (CM x::·)=_;rw[ih];rfl
theorem PV(k:List Int):GU (bF k)=some (Bm k):=WX k
theorem Uw(ks:List (List Int)):FI (ks.map bF)=some ks:=by
 induction ks with
 |nil=>rfl
 |cons k ks ih=>show(match Bz (k.map dI)with|some ns=>(FI (ks.map bF)).map (ns::·)|none=>none)=_;rw[CL,ih];rfl
section
variable{ds:List D}{m n:Nat}
def cK:Nat->D->Bool
 |_,.none=>true
 |_,.int _=>true
 |_,.str x=>PyData.canLay0 (.str x)
 |0,_=>false
 |n+1,.list ds=>ds.all (cK n)
 |n+1,.tuple ds=>ds.all (cK n)
 |_,_=>false
theorem Q7(h:∀d∈ds,d.canLay0=true):Gn ds=true:=by
 induction ds with
 |nil=>rfl
 |cons d ds ih=>show(d.canLay0&&Gn ds)=true;rw[h d (An ..),ih λx hx=>h x (Aq _ hx)];rfl
theorem QB(h:∀d∈ds,d.depth<=n):HK ds<=n:=by
 induction ds with
 |nil=>exact CS _
 |cons d ds ih=>show max d.depth (HK ds)<=n;have h1:=h d (An ..);have h2:=ih λx hx=>h x (Aq _ hx);omega
theorem GZ:∀(n:Nat) (d:D),cK n d=true->d.canLay0=true/\d.depth<=n
 |n,.none,_=>⟨rfl,by show 0<=n;omega⟩
 |n,.int _,_=>⟨rfl,by show 0<=n;omega⟩
 |n,.str x,h=>by refine⟨?_,by show 0<=n;omega⟩;cases n<;>exact h
 |0,.bool _,h=>by cases h
 |0,.list _,h=>by cases h
 |0,.tuple _,h=>by cases h
 |0,.dict _,h=>by cases h
 |n+1,.bool _,h=>by cases h
 |n+1,.dict _,h=>by cases h
 |n+1,.list ds,h=>by have h':ds.all (cK n)=true:=h;have hh:=BW.mp h';refine⟨Q7 λd hd=>(GZ n d (hh d hd)).1,?_⟩;show HK ds+1<=n+1;have:=QB λd hd=>(GZ n d (hh d hd)).2;omega
 |n+1,.tuple ds,h=>by have h':ds.all (cK n)=true:=h;have hh:=BW.mp h';refine⟨Q7 λd hd=>(GZ n d (hh d hd)).1,?_⟩;show HK ds+1<=n+1;have:=QB λd hd=>(GZ n d (hh d hd)).2;omega
theorem DG{d:D}(h:cK n d=true)(hn:n<=60):Cv d=true:=by obtain⟨h1,h2⟩:=GZ n d h;unfold Cv;rw[h1,decide_eq_true (show d.depth<=60 by omega)];rfl
theorem QG(ih:∀d∈ds,∀e,(∃m,cK m e=true)->(Ep d e=true↔d=e)):∀(es:List D),(∀e∈es,∃m,cK m e=true)->(Ie ds es=true↔ds=es):=by
 induction ds with
 |nil =>
  intro es _;cases es with
  |nil=>exact⟨λ_=>rfl,λ_=>rfl⟩
  |cons e es=>exact⟨(λh=>by cases h),(λh=>by cases h)⟩
 |cons d ds ihl =>
  intro es he;cases es with
  |nil=>exact⟨(λh=>by cases h),(λh=>by cases h)⟩
  |cons e es=>show((Ep d e&&Ie ds es)=true)↔_;rw[BJ,ih d (An ..) e (he e (An ..)),ihl (λx hx=>ih x (Aq _ hx)) es (λx hx=>he x (Aq _ hx)),List.cons.injEq]
theorem UC(h:cK m (.list ds)=true):∀d∈ds,∃m,cK m d=true:=by
 cases m with
 |zero=>cases h
 |succ m=>have h':ds.all (cK m)=true:=h;exact λd hd=>⟨m,BW.mp h' d hd⟩
theorem Ut(h:cK m (.tuple ds)=true):∀d∈ds,∃m,cK m d=true:=by
 cases m with
 |zero=>cases h
 |succ m=>have h':ds.all (cK m)=true:=h;exact λd hd=>⟨m,BW.mp h' d hd⟩
theorem EO{b:Bool}(h:cK m (.bool b)=true):False:=by cases m<;>cases h
theorem EN{b:List (D×D)}(h:cK m (.dict b)=true):False:=by cases m<;>cases h
theorem OZ:∀(n:Nat) (d e:D),cK n d=true->(∃m,cK m e=true)->(Ep d e=true↔d=e):=by
 intro n
 induction n with
 |zero =>
  intro d e hd ⟨m,he⟩;cases d<;>first|cases hd|skip
  all_goals cases e<;>first
   |exact(EO he).elim
   |exact(EN he).elim
   |exact⟨λ_=>rfl,λ_=>rfl⟩
   |exact⟨(λh=>by cases h),(λh=>by cases h)⟩
   |(rename_i a b;show((a==b)=true)↔_;simp)
 |succ n ih =>
  intro d e hd ⟨m,he⟩;cases d with
  |bool _=>exact(EO hd).elim
  |dict _=>exact(EN hd).elim
  |list ds =>
   cases e with
   |list es=>show(Ie ds es=true)↔_;rw[QG (λd h e he=>ih d e (BW.mp (show ds.all (cK n)=true from hd) d h) he) es (UC he)];simp
   |bool _=>exact(EO he).elim
   |dict _=>exact(EN he).elim
   |_=>exact⟨(λh=>by cases h),(λh=>by cases h)⟩
  |tuple ds =>
   cases e with
   |tuple es=>show(Ie ds es=true)↔_;rw[QG (λd h e he=>ih d e (BW.mp (show ds.all (cK n)=true from hd) d h) he) es (Ut he)];simp
   |bool _=>exact(EO he).elim
   |dict _=>exact(EN he).elim
   |_=>exact⟨(λh=>by cases h),(λh=>by cases h)⟩
  |none=>cases e<;>first
   |exact(EO he).elim
   |exact(EN he).elim
   |exact⟨λ_=>rfl,λ_=>rfl⟩
   |exact⟨(λh=>by cases h),(λh=>by cases h)⟩
  |int i=>cases e<;>first
   |exact(EO he).elim
   |exact(EN he).elim
   |exact⟨(λh=>by cases h),(λh=>by cases h)⟩
   |(rename_i b;show((i==b)=true)↔_;simp)
  |str i=>cases e<;>first
   |exact(EO he).elim
   |exact(EN he).elim
   |exact⟨(λh=>by cases h),(λh=>by cases h)⟩
   |(rename_i b;show((i==b)=true)↔_;simp)
theorem OT(n:Nat)(ns:List Int):cK (n+1) (bF ns)=true:=by show(ns.map dI).all (cK n)=true;rw[BW];intro d hd;obtain⟨i,_,rfl⟩:=Ak.mp hd;cases n<;>rfl
theorem FL(n:Nat)(ns:List Int):cK (n+1) (.list (ns.map dI))=true:=OT n ns
theorem Tz(h:∀d∈ds,cK n d=true):cK (n+1) (.list ds)=true:=BW.mpr h
theorem Jf(n:Nat)(i:Int):cK n (.int i)=true:=by cases n<;>rfl
end
end HG
namespace HG4
open PySem HM HG
end HG4
namespace HM
open PySem
theorem ZT{P:Option gg->Prop}{a b:SF}{r r':Env}(h:a r=some (.nx r'))(k:P (b r')):P (Zs a b r):=by show P (match a r with|some (.nx r')=>b r'|some (.rt d)=>some (.rt d)|some (.bk r')=>some (.bk r')|some (.ct r')=>some (.ct r')|none=>none);rw[h];exact k
end HM
namespace HG4
open PySem HM HG
end HG4
namespace HM
open PySem
def Av:Option gg->Option D
 |some (.nx _)=>some .none
 |some (.rt d)=>some d
 |_=>none
end HM
namespace HG4
open PySem HM HG
end HG4
namespace HG5
open PySem HM HG HG4
end HG5
namespace HG5
open PySem HM HG
end HG5
namespace HG27
open PySem HM
open HG
def WI:SF :=
 (ZO (bJ (Zf 0) (eC (.int 4))))
def Hh:List D->Option D:=fnOf 1 1 WI
def Xf:SF :=
 (Zs (Z7 1 jR)
  (Zs (Z7 2 (Bd Ze))
  (Zs Q4
  (GP 2 (ZO (S 2))))))
def Ee:List D->Option D:=fnOf 1 4 Xf
def Xe:SF :=
 (ZO (ZI (JX (Zw (ZW (bW (S 0))) ZR (bJ (Zf 2) (S 0))))))
def EV:List D->Option D:=fnOf 2 2 Xe
def Rl:SF :=
 (ZO (ZM (O (Cq (S 1) (bW (Zj Hh (O (S 0) Ze)))) (O (ZI (Zw (ZW (bW (Zj DM (O (S 0) Ze)))) ZR (bJ (Zf 0) (S 2)))) Ze))))
def EX:List D->Option D:=fnOf 2 2 Rl
def Yx:SF :=
 (ZO (ZM (O (bJ (Zf 2) (S 1)) (O (ZI (Zw (ZW (bW (Zj DN (O (S 0) Ze)))) ZR (Zj EV (O (bJ (Zf 0) (S 2)) (O (S 3) Ze))))) Ze))))
def E2:List D->Option D:=fnOf 3 3 Yx
def Vb:SF :=
 (ZO (Zj Ee (O (dY (Zw (ZH (Zj ZJ (O (S 0) Ze))) ZR (Zj E2 (O (S 1) (O (S 0) (O (S 2) Ze)))))) Ze)))
def EL:List D->Option D:=fnOf 2 2 Vb
def Hr:SF :=
 (Z5 1 (Zj EL (O (S 0) (O (S 1) Ze))))
def Ni:SF :=
 (Zs (Z5 1 (Zj Ee (O (dY (Zw (ZH (Zj ZJ (O (S 0) Ze))) ZR (Zj EX (O (S 1) (O (S 0) Ze))))) Ze)))
  (Zs (LC 100000 (tV (bH dq (Zj EL (O (S 0) (O (S 1) Ze))) (S 1))) Hr)
  (ZO (S 1))))
def Hz:List D->Option D:=fnOf 1 2 Ni
def YZ:SF :=
 (ZO (dY (Zw (ZH (Dc (Zf 0))) (tV (bH cA (bJ (Zf 1) (S 0)) (S 2))) (S 0))))
def FV:List D->Option D:=fnOf 2 2 YZ
def Nk:SF :=
 (Zs (UT (Zj Hi (O (S 0) Ze)))
  (Zs (Z5 1 (Zj Hz (O (S 0) Ze)))
  (ZO (dY (Zw (ZH (bH Z6 (FJ (Zf 1)) (eC (.int 1)))) ZR (Zj FV (O (S 2) (O (S 0) Ze))))))))
def FW:List D->Option D:=fnOf 1 2 Nk
def J4:SF :=
 (Zs (Z7 12 (Hl (bW (bJ (Zf 9) (S 11)))))
  (Zs (cQ (D0 (tV (Cq (S 7) (Zf 12))) (tV (bH i9 (Zj Zy (O (bH Z6 (S 1) (bH Bf (eC (.int 13)) (S 11))) (O (eC (.int 9803)) (O (eC (.int 3)) Ze)))) (eC (.int 0))))) (Dp 12 (S 2)) AZ)
  (Dp 10 (ZI (Zf 12)))))
def J1:SF :=
 (Zs (Z7 10 (Bd Ze))
  (Zs (AU 11 (ZH (S 2)) J4)
  (Dp 8 (ZI (Lp (Zf 10) (Bd (O (bJ (Zf 10) (S 7)) Ze)))))))
def Nn:SF :=
 (Zs (WZ 2 3 4 5 6 (S 0))
  (Zs (Z5 7 (bH Cn (S 1) (S 2)))
  (Zs (Z7 8 (Bd Ze))
  (Zs (AU 9 (ZW (bW (S 3))) J1)
  (Zs (Z5 13 (ZI (Zw (ZW (bW (S 4))) ZR (ES (S 0) (ZM (O (bJ (Zf 0) (S 8)) Ze))))))
  (Zs (cQ (tV (Cq (S 7) (Zf 6))) (Z5 6 (ES (S 6) (ZM (O (S 2) Ze)))) AZ)
  (ZO (ZM (O (bH Z6 (S 2) (eC (.int 1))) (O (ZI (Zf 8)) (O (S 13) (O (ES (S 5) (Me (ZM (O (S 2) Ze)) (bH Cn (S 1) (eC (.int 2))))) (O (S 6) Ze)))))))))))))
def Hq:List D->Option D:=fnOf 2 14 Nn
def EZ:SF :=
 (cQ (tV (bH cA (dY (Zw (ZW (bW (S 6))) (tV (Cw (ZM (O (bH C6 (S 8) (S 0)) (O (bH C7 (S 8) (S 0)) Ze))) (Zf 4))) (S 0))) (dY (Bd Ze)))) (ZO (eC (.bool true))) AZ)
def ZP:SF :=
 (AU 7 (ZW (bW (S 5))) EZ)
def EY:SF :=
 (Zs (cQ (tV (bH dq (bH cA (bJ (Zf 4) (S 1)) (ZM Ze)) (bH cA (bJ (Zf 4) (S 2)) (ZM Ze)))) (ZO (eC (.bool true))) AZ)
  (Mc 5 6 (ZW (bW (dY (Bd (O (ZM (O (bJ (Zf 4) (S 1)) (O (bJ (Zf 4) (S 2)) Ze))) (O (ZM (O (bJ (Zf 4) (S 2)) (O (bJ (Zf 4) (S 1)) Ze))) Ze)))))) ZP))
def Nt:SF :=
 (Zs (AU 4 (ZW (bW (bJ (Zf 0) (eC (.int 1))))) EY)
  (ZO (eC (.bool false))))
def Ed:List D->Option D:=fnOf 4 8 Nt
def FG:SF :=
 (Zs (Z7 8 (Zw (ZH (bJ (Zf 1) (eC (.int 0)))) (tV (Cw (ZM (O (bH C6 (S 8) (S 0)) (O (bH C7 (S 8) (S 0)) Ze))) (Zf 3))) (S 0)))
  (cQ (tV (bH cA (bJ (Zf 8) (eC (.int 0))) (S 7))) (GP 8 (Dp 6 (S 8))) AZ))
def G6:SF :=
 (cQ (D0 (tV (Cw (ZM (O (S 3) (O (S 4) Ze))) (Zf 2))) (tV (Jr Ed (O (S 1) (O (S 3) (O (S 4) (O (Jb (Zf 2)) Ze))))))) (Zs (IZ 2 (ZM (O (S 3) (O (S 4) Ze))) (eC (.bool true)))
  (Z5 5 (eC (.bool true)))) AZ)
def Jp:SF :=
 (AU 4 (FH (bH Z6 (S 3) (eC (.int 1))) (bJ (Zf 1) (eC (.int 0)))) G6)
def D5:SF :=
 (Zs (Z5 5 (eC (.bool false)))
  (AU 3 (ZH (bJ (Zf 1) (eC (.int 0)))) Jp))
def Jo:SF :=
 (cQ (gB (tV (bH dq (Cq (S 3) (bW (bJ (Zf 1) (eC (.int 4))))) (Cq (S 4) (bW (bJ (Zf 1) (eC (.int 4))))))) (Fu (Zw (ZW (bW (bJ (Zf 1) (eC (.int 2))))) (tV (bH dq (bJ (Zf 0) (S 4)) (bJ (Zf 0) (S 5)))) (S 0)))) (IZ 2 (ZM (O (S 3) (O (S 4) Ze))) (eC (.bool true))) AZ)
def FF:SF :=
 (AU 4 (FH (bH Z6 (S 3) (eC (.int 1))) (bJ (Zf 1) (eC (.int 0)))) Jo)
def Lr:SF :=
 (Zs (Z5 1 (Zj DK (O (S 0) (O (eC (.int 1)) Ze))))
  (Zs (cQ (tV (bH cA (bH Cn (Zj ZE (O (S 0) (O (eC (.int 0)) Ze))) (eC (.int 3))) (eC (.int 1)))) (Z5 1 (Zj Hq (O (S 1) (O (Zj ZE (O (S 0) (O (eC (.int 0)) Ze))) Ze)))) AZ)
  (Zs (Z7 2 jR)
  (Zs (AU 3 (ZH (bJ (Zf 1) (eC (.int 0)))) FF)
  (Zs (Z5 5 (eC (.bool true)))
  (Zs (LC 100000 (tV (S 5)) D5)
  (Zs (Z7 6 (Bd Ze))
  (Zs (AU 7 (ZH (bJ (Zf 1) (eC (.int 0)))) FG)
  (Zs (Z5 9 (Zj FW (O (S 1) Ze)))
  (GP 6 (ZO (C4 (FP (S 9) .list) (bH cA (S 9) (S 6))))))))))))))
def EE:List D->Option D:=fnOf 1 10 Lr
end HG27
namespace HGN
open PySem HM
variable{i j n:Nat}
section
variable{K K':Type}[DecidableEq K][DecidableEq K']
theorem LP:∀(ms seen:List K),(BA seen ms).length=ms.length
 |[],_=>rfl
 |m::ms,seen=>by
  unfold BA;split
  .rw[AL,AL,LP]
  .rw[AL,AL,LP]
theorem Mo:∀(ps oH:List (K×K')),(∀p∈oH++ps,∀q∈oH++ps,p.1=q.1↔p.2=q.2)->BA (oH.map (·.1)) (ps.map (·.1))=BA (oH.map (·.2)) (ps.map (·.2))
 |[],oH,_=>rfl
 |p::ps,oH,h=>by
  have hf:(oH.map (·.1)).findIdx? (λx=>decide (x=p.1))=(oH.map (·.2)).findIdx? (λx=>decide (x=p.2)):=by
   rw[List.findIdx?_map,List.findIdx?_map];have hp:p∈oH++p::ps:=AX _ (An ..);have:∀T:List (K×K'),(∀q∈T,q∈oH++p::ps)->T.findIdx? ((λx=>decide (x=p.1))∘(·.1))=T.findIdx? ((λx=>decide (x=p.2))∘(·.2)):=by
    intro T
    induction T with
    |nil=>intro _;rfl
    |cons q T ih =>
     intro hT;have e:((λx=>decide (x=p.1))∘(·.1)) q=((λx=>decide (x=p.2))∘(·.2)) q:=by show decide (q.1=p.1)=decide (q.2=p.2);rw[CN,decide_eq_true_iff,decide_eq_true_iff];exact h q (hT q (An ..)) p hp
     rw[Kt,Kt,e,ih λx hx=>hT x (Aq _ hx)]
   exact this oH λq hq=>Dv _ hq
  rw[Ao,Ao];unfold BA;rw[hf];split
  .rw[Mo ps oH λa ha b hb=>h a ?_ b ?_]
   .rcases AW.mp ha with ha|ha
    .exact Dv _ ha
    .exact AX _ (Aq _ ha)
   .rcases AW.mp hb with hb|hb
    .exact Dv _ hb
    .exact AX _ (Aq _ hb)
  .have ih:=Mo ps (oH++[p]) (by rw[CO];exact h)
   rw[Bj,Bj]at ih;rw[Ae,Ae];congr 1
theorem Jd:∀(ms seen:List K),seen.Nodup->∃all:List K,all.Nodup/\(∃r,all=seen++r)/\(∀m∈ms,m∈all)/\(∀x∈all,x∈seen\/x∈ms)/\∀(i:Nat) (m:K) (v:Int),ms[i]?=some m->(BA seen ms)[i]?=some v->∃j:Nat,v=(j:Int)/\all[j]?=some m
 |[],seen,h=>⟨seen,h,⟨[],by simp⟩,by simp,λx hx=>.inl hx,λi m v h=>by simp at h⟩
 |m::ms,seen,h=>by
  unfold BA;split
  .rename_i j hj
   obtain⟨all,nd,⟨r,hr⟩,h1,h2,h3⟩:=Jd ms seen h;obtain⟨bS,hp,_⟩:=KY.mp hj;have hp:seen[j]=m:=of_decide_eq_true hp;refine⟨all,nd,⟨r,hr⟩,λx hx=>?_,λx hx=>(h2 x hx).imp id (Aq _),λi x v hx hv=>?_⟩
   .rcases Aw.mp hx with rfl|hx
    .rw[hr];exact Dv _ (hp▸Dr bS)
    .exact h1 x hx
   .cases i with
    |zero=>rw[DS]at hx hv;cases hx;cases hv;refine⟨j,rfl,?_⟩;rw[hr,CG bS,AV bS,hp]
    |succ i=>rw[Bq]at hx hv;exact h3 i x v hx hv
  .rename_i hn
   have hm:m∉seen:=λz=>by rw[KS]at hn;have:=hn m z;simp at this
   obtain⟨all,nd,⟨r,hr⟩,h1,h2,h3⟩:=Jd ms (seen++[m]) (Gm.mpr ⟨h,by simp,λa ha b hb e=>by rw[AA]at hb;subst hb;subst e;exact hm ha⟩);refine⟨all,nd,⟨m::r,by rw[hr,CO];rfl⟩,λx hx=>?_,λx hx=>?_,λi x v hx hv=>?_⟩
   .rcases Aw.mp hx with rfl|hx
    .rw[hr];simp
    .exact h1 x hx
   .rcases h2 x hx with z|z
    .rcases AW.mp z with z|z
     .exact .inl z
     .rw[AA.mp z];exact .inr (An ..)
    .exact .inr (Aq _ z)
   .cases i with
    |zero=>rw[DS]at hx hv;cases hx;cases hv;refine⟨seen.length,rfl,?_⟩;rw[hr,CO,CZ (Ag _)];simp
    |succ i=>rw[Bq]at hx hv;exact h3 i x v hx hv
theorem Oo{ms seen:List K}(nd:seen.Nodup){m:K}{v:Int}(h:ms[j]?=some m)(hv:(BA seen ms)[j]?=some v)(hn:m∉seen):(seen.length:Int)<=v:=by
 obtain⟨all,_,⟨r,hr⟩,_,_,h3⟩:=Jd ms seen nd;obtain⟨k,rfl,hk⟩:=h3 j m v h hv
 by_cases bS:k<seen.length
 .rw[hr,CG bS]at hk
  exact absurd (DR hk) hn
 .omega
theorem Li:∀(ms seen:List K),seen.Nodup->∀(i j:Nat) (m:K) (u v:Int),i<j->ms[j]?=some m->m∉seen->(∀l,l<j->ms[l]?≠some m)->(BA seen ms)[i]?=some u->(BA seen ms)[j]?=some v->u<v
 |[],_,_,i,j,m,u,v,_,h,_,_,_,_=>by simp at h
 |x::ms,seen,nd,i,j,m,u,v,ky,h,hn,hl,hu,hv=>by
  obtain⟨j,rfl⟩:∃j',j=j'+1:=⟨j-1,by omega⟩;rw[Bq]at h;have hl':∀l,l<j->ms[l]?≠some m:=λl bS=>by
   have:=hl (l+1) (by omega)
   rwa [Bq]at this
  have hx:x≠m:=λe=>hl 0 (by omega) (by rw[DS,e]);unfold BA at hu hv;split at hu
  .rename_i t ht
   rw[ht]at hv;dsimp only at hv;rw[Bq]at hv;cases i with
   |zero=>rw[DS]at hu;cases hu;obtain⟨bS,_⟩:=KY.mp ht;have:=Oo nd h hv hn;omega
   |succ i=>rw[Bq]at hu;exact Li ms seen nd i j m u v (by omega) h hn hl' hu hv
  .rename_i ht
   rw[ht]at hv;dsimp only at hv;rw[Bq]at hv;have d8:x∉seen:=λz=>by rw[KS]at ht;have:=ht x z;simp at this
   have nd':(seen++[x]).Nodup:=Gm.mpr ⟨nd,by simp,λa ha b hb e=>by rw[AA]at hb;subst hb;subst e;exact d8 ha⟩;have hn':m∉seen++[x]:=λz=>by
    rcases AW.mp z with z|z
    .exact hn z
    .exact hx (AA.mp z).symm
   cases i with
   |zero=>rw[DS]at hu;cases hu;have:=Oo nd' h hv hn';rw[AH,Iq]at this;omega
   |succ i=>rw[Bq]at hu;exact Li ms (seen++[x]) nd' i j m u v (by omega) h hn' hl' hu hv
def ka(kd:List Int)(i:Nat):Int:=(kd[i]?).getD 0
def ZB(n:Nat)(f:Nat->K):List Int:=BA [] ((Ab n).map f)
theorem LV(n:Nat)(f:Nat->K):(ZB n f).length=n:=by unfold ZB;rw[LP,Ae,AB]
theorem L1{f:Nat->K}(h:i<n):(ZB n f)[i]?=some (ka (ZB n f) i):=by unfold ka;rw[AV (by rw[LV];exact h)];rfl
theorem Md{f:Nat->K}(h:i<n):((Ab n).map f)[i]?=some (f i):=by rw[A9,IB h];rfl
theorem LU(n:Nat)(f:Nat->K):∃all:List K,all.Nodup/\all.length<=n/\(∀i,i<n->∃j:Nat,ka (ZB n f) i=(j:Int)/\all[j]?=some (f i))/\∀x∈all,∃i,i<n/\f i=x:=by
 obtain⟨all,nd,_,_,h2,h3⟩:=Jd ((Ab n).map f) [] CY;have hx:∀x∈all,∃i,i<n/\f i=x:=λx hx=>by
  rcases h2 x hx with z|z
  .simp at z
  .obtain⟨i,hi,e⟩:=Ak.mp z
   exact⟨i,Am.mp hi,e⟩
 refine⟨all,nd,?_,λi hi=>h3 i _ _ (Md hi) (L1 hi),hx⟩;have:=KL nd (λx h=>by obtain⟨i,hi,e⟩:=hx x h;exact Ak.mpr ⟨i,Am.mpr hi,e⟩:∀x∈all,x∈(Ab n).map f)
 rwa [Ae,AB]at this
theorem Ec{f:Nat->K}(hi:i<n)(hj:j<n):ka (ZB n f) i=ka (ZB n f) j↔f i=f j:=by
 obtain⟨all,nd,_,h,_⟩:=LU n f;obtain⟨a,ha,ga⟩:=h i hi;obtain⟨b,hb,gb⟩:=h j hj;rw[ha,hb]
 constructor
 .intro e
  obtain rfl:a=b:=by omega
  exact BH (ga.symm.trans gb)
 .intro e
  rw[<-e]at gb;have:=(List.getElem?_inj (AO.mp ga).1 nd).mp (ga.trans gb.symm);omega
theorem Sm{f:Nat->K}(hi:i<n):0<=ka (ZB n f) i/\ka (ZB n f) i<n:=by obtain⟨all,nd,hl,h,_⟩:=LU n f;obtain⟨a,ha,ga⟩:=h i hi;have:=(AO.mp ga).1;omega
theorem Qg{f:Nat->K}{g:Nat->K'}(h:∀i j,i<n->j<n->(f i=f j↔g i=g j)):ZB n f=ZB n g:=by have:=Mo ((Ab n).map λi=>(f i,g i)) [] (λp hp q hq=>by rw[HQ]at hp hq;obtain⟨i,hi,rfl⟩:=Ak.mp hp;obtain⟨j,hj,rfl⟩:=Ak.mp hq;exact h i j (Am.mp hi) (Am.mp hj));rw[AG,AG]at this;exact this
theorem Mr(n:Nat)(f:Nat->K):ZB n (ka (ZB n f))=ZB n f:=Qg λ_ _ hi hj=>Ec hi hj
def AD(n:Nat)(e:Nat->Nat->Bool)(i:Nat):List Nat:=(Ab n).filter (e i)
def Br(n:Nat)(e:Nat->Nat->Bool):List Nat:=(Ab n).filter λi=>decide ((AD n e i).head?=some i)
theorem OG{l1 l2:List Int}(h1:l1.Pairwise (· < ·))(h2:l2.Pairwise (· < ·))(h:∀x,x∈l1↔x∈l2):l1=l2:=by
 induction l1 generalizing l2 with
 |nil =>
  cases l2 with
  |nil=>rfl
  |cons y l2=>exact absurd ((h y).mpr (An ..)) (by simp)
 |cons x l1 ih =>
  cases l2 with
  |nil=>exact absurd ((h x).mp (An ..)) (by simp)
  |cons y l2 =>
   obtain⟨p1,q1⟩:=B9.mp h1;obtain⟨p2,q2⟩:=B9.mp h2;have e:x=y:=by
    rcases Aw.mp ((h x).mp (An ..))with e|e
    .exact e
    .rcases Aw.mp ((h y).mpr (An ..))with e'|e'
     .exact e'.symm
     .have:=p1 y e';have:=p2 x e;omega
   subst e;congr 1;refine ih q1 q2 λz=>?_
   constructor
   .intro hz
    rcases Aw.mp ((h z).mp (Aq _ hz))with e|e
    .subst e;have:=p1 z hz;omega
    .exact e
   .intro hz
    rcases Aw.mp ((h z).mpr (Aq _ hz))with e|e
    .subst e;have:=p2 z hz;omega
    .exact e
theorem XX(n:Nat)(f:Nat->K)(L:Nat)(hL:∀v:Int,(∃i,i<n/\ka (ZB n f) i=v)↔0<=v/\v<(L:Int)):((Ab L).map λ(k:Nat)=>(Ab n).filter λi=>decide (ka (ZB n f) i=(k:Int)))=(Br n λi j=>decide (ka (ZB n f) j=ka (ZB n f) i)).map (AD n λi j=>decide (ka (ZB n f) j=ka (ZB n f) i)):=by
 generalize hE:(λi j=>decide (ka (ZB n f) j=ka (ZB n f) i))=e;have he:∀i j,e i j=true↔ka (ZB n f) j=ka (ZB n f) i:=λi j=>by rw[<-hE];simp
 have gu:∀i,i∈Br n e↔i<n/\∀j,j<i->ka (ZB n f) j≠ka (ZB n f) i:=λi=>by
  unfold Br AD;rw[Gs,Am,decide_eq_true_iff,List.head?_filter]
  constructor
  .rintro ⟨hi,hf⟩
   refine⟨hi,λj hj z=>?_⟩;obtain⟨_,as,bs,cS,iw⟩:=List.find?_eq_some_iff_append.mp hf;have bK:as.length=i:=by
    have h1:(as++i::bs)[as.length]?=some i:=by rw[CZ (Ag _)];simp
    rw[<-cS]at h1;obtain⟨h2,h3⟩:=AO.mp h1;rw[List.getElem_range]at h3;exact h3
   have:j∈as:=by
    have h1:(as++i::bs)[j]?=some j:=by rw[<-cS,IB (by omega)]
    rw[CG (by omega)]at h1;exact DR h1
   have:=iw j this;rw[(he i j).mpr z]at this;cases this
  .rintro ⟨hi,iw⟩
   refine⟨hi,?_⟩;rw[List.find?_range_eq_some];refine⟨(he i i).mpr rfl,Am.mpr hi,λj hj=>?_⟩;cases q:e i j with
   |false=>rfl
   |true=>exact absurd ((he i j).mp q) (iw j hj)
 have key:(Br n e).map (λi=>ka (ZB n f) i)=(Ab L).map λ(k:Nat)=>(k:Int):=by
  refine OG ?_ ?_ λv=>?_
  .rw[HY]
   have:(Br n e).Pairwise (· < ·):=Kp.sublist (List.filter_sublist ..);refine(IG.mpr λa b ha hb cS=>?_);have bS:=(IG.mp this) a b ha hb cS;obtain⟨h1,h2⟩:=(gu _).mp (Dr hb);have hi:=((gu _).mp (Dr ha)).1;refine Li ((Ab n).map f) [] CY _ _ _ _ _ bS (Md h1) (by simp) (λl hl z=>?_) (L1 hi) (L1 h1);rw[Md (by omega)]at z;exact h2 l hl ((Ec (by omega) h1).mpr (BH z))
  .rw[HY]
   exact Kp.imp λh=>by omega
  .rw[Ak,Ak]
   constructor
   .rintro ⟨i,hi,rfl⟩
    obtain⟨h1,h2⟩:=(hL _).mp ⟨i,((gu i).mp hi).1,rfl⟩;exact⟨(ka (ZB n f) i).toNat,Am.mpr (by omega),by omega⟩
   .rintro ⟨k,hk,rfl⟩
    obtain⟨i,hi,hv⟩:=(hL (k:Int)).mpr ⟨by omega,by have:=Am.mp hk;omega⟩;have:∃j,j<=i/\ka (ZB n f) j=ka (ZB n f) i/\∀l,l<j->ka (ZB n f) l≠ka (ZB n f) i:=by
     have go:∀m j,j<=i->j<=m->ka (ZB n f) j=ka (ZB n f) i->∃j,j<=i/\ka (ZB n f) j=ka (ZB n f) i/\∀l,l<j->ka (ZB n f) l≠ka (ZB n f) i:=by
      intro m
      induction m with
      |zero=>intro j hj hm e;exact⟨j,hj,e,λl hl=>by omega⟩
      |succ m ih =>
       intro j hj hm e
       by_cases z:∃l,l<j/\ka (ZB n f) l=ka (ZB n f) i
       .obtain⟨l,hl,e'⟩:=z
        exact ih l (by omega) (by omega) e'
       .exact⟨j,hj,e,λl hl e'=>z ⟨l,hl,e'⟩⟩
     exact go i i (Ag _) (Ag _) rfl
    obtain⟨j,hj,e1,e2⟩:=this;exact⟨j,(gu j).mpr ⟨by omega,λl hl z=>e2 l hl (z.trans e1)⟩,e1.trans hv⟩
 have h2:(Br n e).map (AD n e)=((Br n e).map (λi=>ka (ZB n f) i)).map λv=>(Ab n).filter λi=>decide (ka (ZB n f) i=v):=by rw[AG];refine Gp λi _=>?_;show(Ab n).filter (e i)=_;refine List.filter_congr λj _=>?_;rw[<-hE]
 rw[h2,key,AG];rfl
end
end HGN
namespace HGD
open PySem HM
open HG
open HG4
variable{r:HM.Env}{a:SF}{c:TF}
theorem DC{g:D->D->Option D}{e f:EF}{x y:D}{b:Bool}(h1:e r=some x)(h2:f r=some y)(h:g x y=some (.bool b)):tV (bH g e f) r=some b:=by unfold tV bH;rw[h1,h2];dsimp only;rw[h]
theorem D3{b:SF}(h:c r=some true):cQ c a b r=a r:=by unfold cQ;rw[h]
theorem D2{b:SF}(h:c r=some false):cQ c a b r=b r:=by unfold cQ;rw[h]
end HGD
namespace HG27
open PySem HM HGN
open HG
open HG4
open HGD
section
variable{a:EF}{r:HM.Env}{dd:List (List Int)}{ds:List D}{c kd:List Int}{i n:Nat}
theorem D9{d:D}(h:a r=some d):Av (ZO a r)=some d:=by unfold ZO;rw[h];rfl
theorem Pf{b:EF}{x y:D}(h1:a r=some x)(h2:b r=some y):ZM (O a (O b Ze)) r=some (.tuple [x,y]):=by simp[h1,h2]
theorem Qf{f:BF}{xs:List D}(h:f r=some (.ol xs)):ZI f r=some (.tuple xs):=by unfold ZI;rw[h];rfl
theorem cG{m:List D->Option D}{a:AF}{d:D}(h1:a r=some ds)(h2:m ds=some d):Zj m a r=some d:=by unfold Zj;rw[h1];exact h2
def bV(dd:List (List Int))(i:Nat):List Int:=(dd[i]?).getD []
def cH(l:List Int)(i:Nat):Int:=(l[i]?).getD 0
def fm(w:Wk)(i:Nat):Bool×List Int:=(w.goal.contains (i:Int),w.looks.map λl=>cH l i)
def Be(kd c:List Int):List Int:=sortI (cx [] (c.map λs=>ka kd s.toNat))
def nm(w:Wk)(kd:List Int)(i:Nat):Int×List (List Int):=(ka kd i,w.deeds.map λdd=>Be kd (bV dd i))
def fW(p:Bool×List Int):D:=.tuple [.bool p.1,bF p.2]
def fN(p:Int×List (List Int)):D:=.tuple [.int p.1,.tuple (p.2.map bF)]
theorem RN(ks:List (Bool×List Int)):D1 jE (ks.map fW)=some ks:=by
 induction ks with
 |nil=>rfl
 |cons k ks ih =>
  rw[Ao];unfold D1;have:jE (fW k)=some k:=by show(Bz (k.2.map dI)).map (λns=>(k.1,ns))=some k;rw[CL];rfl
  rw[this];dsimp only;rw[ih];rfl
theorem RM(ks:List (Int×List (List Int))):D1 kc (ks.map fN)=some ks:=by
 induction ks with
 |nil=>rfl
 |cons k ks ih =>
  rw[Ao];unfold D1;have:kc (fN k)=some k:=by show(FI (k.2.map bF)).map (λns=>(k.1,ns))=some k;rw[Uw];rfl
  rw[this];dsimp only;rw[ih];rfl
theorem RK(ks:List (Int×List (List Int)))(h:ks≠[]):D1 jE (ks.map fN)=none:=by
 cases ks with
 |nil=>exact absurd rfl h
 |cons k ks=>rfl
theorem O0{ns:List Int}(h:EB ds=some ns):Ee [.list ds]=some (.list (ns.map dI)):=by show Av (Oh [some (.pl (.list ds)),none,none,none])=_;unfold Oh;refine ZT (P:=λq=>Av q=_) (r':=[some (.pl (.list ds)),some (.ot []),none,none]) rfl ?_;refine ZT (P:=λq=>Av q=_) (r':=[some (.pl (.list ds)),some (.ot []),some (.ol []),none]) rfl ?_;refine ZT (P:=λq=>Av q=_) (r':=[some (.pl (.list ds)),none,some (.ol (ns.map AQ)),none]) ?_ rfl;show(EB ds).map _=_;rw[h];rfl
theorem Wj(hn:n<1000)(f:Nat->Bool×List Int):Ee [.list ((Ab n).map λi=>fW (f i))]=some (.list ((ZB n f).map dI)):=by
 have e:((Ab n).map λi=>fW (f i))=((Ab n).map f).map fW:=by rw[AG];rfl
 have h:EB ((Ab n).map λi=>fW (f i))=some (ZB n f):=by unfold EB;rw[if_pos (by rw[Ae,AB];exact hn),e,RN];rfl
 exact O0 h
theorem V7(hn:n<1000)(h0:0<n)(f:Nat->Int×List (List Int)):Ee [.list ((Ab n).map λi=>fN (f i))]=some (.list ((ZB n f).map dI)):=by
 have e:((Ab n).map λi=>fN (f i))=((Ab n).map f).map fN:=by rw[AG];rfl
 have cv:(Ab n).map f≠[]:=λz=>by have:=congrArg Bb z;rw[Ae,AB]at this;simp at this;omega
 have h:EB ((Ab n).map λi=>fN (f i))=some (ZB n f):=by unfold EB;rw[if_pos (by rw[Ae,AB];exact hn),e,RK _ cv,RM];rfl
 exact O0 h
theorem Jk(hl:dd.length=n)(hi:i<n):eB (dd.map bF) (i:Int)=some (bF (bV dd i)):=by refine Dg ?_;unfold bV;rw[A9,AV (by omega)];rfl
theorem G5{l:List Int}(hl:l.length=n)(hi:i<n):eB (l.map dI) (i:Int)=some (.int (cH l i)):=by refine Dg ?_;unfold cH;rw[A9,AV (by omega)];rfl
theorem Lc(hl:kd.length=n)(hi:i<n):eB (kd.map dI) (i:Int)=some (.int (ka kd i)):=G5 hl hi
theorem Cm{w:Wk}(hv:Wk.V w)(hd:dd∈w.deeds)(i:Nat):Cr w.many (bV dd i):=by
 unfold bV;cases h:dd[i]? with
 |none=>exact⟨by simp,by simp⟩
 |some c=>exact hv.dc dd hd c (DR h)
section
variable{w:Wk}(hv:Wk.V w)
include hv
theorem X6(hi:i<w.many):EX [w.d,.int (i:Int)]=some (fW (fm w i)):=by
 have l2:=hv.l2;have hg:Hh [w.d]=some (bF w.goal):=rfl;have hl:=XC w;show Av (Rl [some (.pl w.d),some (.pl (.int i))])=_;have h1:Cq (S 1) (bW (Zj Hh (O (S 0) Ze))) [some (.pl w.d),some (.pl (.int i))]=some (.bool (w.goal.contains (i:Int))):=by simp[hg,GD,CL,-GB]
 have h2:Zw (ZW (bW (Zj DM (O (S 0) Ze)))) ZR (bJ (Zf 0) (S 2)) [some (.pl w.d),some (.pl (.int i))]=some (.ol ((w.looks.map λl=>cH l i).map dI)):=by
  have hI:ZW (bW (Zj DM (O (S 0) Ze))) [some (.pl w.d),some (.pl (.int i))]=some (w.looks.map bF):=by have:Zj DM (O (S 0) Ze) [some (.pl w.d),some (.pl (.int i))]=some (.tuple (w.looks.map bF)):=hl;unfold ZW bW;rw[this];rfl
  have hg:Bn ZR (bJ (Zf 0) (S 2)) [some (.pl w.d),some (.pl (.int i))] (w.looks.map bF)=some ((w.looks.map λl=>cH l i).map dI):=by
   rw[De bF (λl=>dI (cH l i)),AG]
   .rfl
   .intro l hl
    exact G5 (hv.ll l hl) hi
  unfold Zw;rw[hI];dsimp only;rw[if_pos (by rw[Ae];unfold big;omega),hg];rfl
 have h3:ZI (Zw (ZW (bW (Zj DM (O (S 0) Ze)))) ZR (bJ (Zf 0) (S 2))) [some (.pl w.d),some (.pl (.int i))]=some (bF (w.looks.map λl=>cH l i)):=by unfold ZI;rw[h2];rfl
 exact D9 (Pf h1 h3)
theorem Xv(h8:n<=8)(hl:kd.length=n)(hb:∀i,i<n->0<=ka kd i/\ka kd i<8)(hc:Cr n c):EV [bF c,.list (kd.map dI)]=some (bF (Be kd c)):=by
 have cL:=hc.len;have hg:Bn ZR (bJ (Zf 2) (S 0)) [some (.pl (bF c)),some (.pl (.list (kd.map dI)))] (c.map dI)=some ((c.map λs=>ka kd s.toNat).map dI):=by
  rw[De dI (λs=>dI (ka kd s.toNat)),AG]
  .rfl
  .intro s hs
   have:=hc.2 s hs;have e:s=((s.toNat:Nat):Int):=(Kx this.1).symm;show eB (kd.map dI) s=_;rw[e];exact Lc hl (by omega)
 have hf:Zw (ZW (bW (S 0))) ZR (bJ (Zf 2) (S 0)) [some (.pl (bF c)),some (.pl (.list (kd.map dI)))]=some (.ol ((c.map λs=>ka kd s.toNat).map dI)):=by have hI:ZW (bW (S 0)) [some (.pl (bF c)),some (.pl (.list (kd.map dI)))]=some (c.map dI):=rfl;unfold Zw;rw[hI];dsimp only;rw[if_pos (by rw[Ae];unfold big;omega),hg];rfl
 have ie:GI (c.map λs=>ka kd s.toNat)=true:=by unfold GI;refine BW.mpr λx hx=>?_;obtain⟨s,hs,rfl⟩:=Ak.mp hx;have h1:=hc.2 s hs;have:=hb s.toNat (by omega);rw[decide_eq_true this.1,decide_eq_true this.2];rfl
 have hs:JX (Zw (ZW (bW (S 0))) ZR (bJ (Zf 2) (S 0))) [some (.pl (bF c)),some (.pl (.list (kd.map dI)))]=some (.ol ((Be kd c).map dI)):=by unfold JX;rw[hf];show(match Bz ((c.map λs=>ka kd s.toNat).map dI)with|some ns=>_|none=>_)=_;rw[CL];dsimp only;rw[if_pos ie];rfl
 exact D9 (Qf hs)
theorem Xk(hl:kd.length=w.many)(hb:∀i,i<w.many->0<=ka kd i/\ka kd i<8)(hi:i<w.many):E2 [w.d,.int (i:Int),.list (kd.map dI)]=some (fN (nm w kd i)):=by
 have d2:=hv.d2;have hm:=hv.m2;have hd:=Xo w;have h1:bJ (Zf 2) (S 1) [some (.pl w.d),some (.pl (.int (i:Int))),some (.pl (.list (kd.map dI)))]=some (.int (ka kd i)):=Lc hl hi;have hg:Bn ZR (Zj EV (O (bJ (Zf 0) (S 2)) (O (S 3) Ze))) [some (.pl w.d),some (.pl (.int (i:Int))),some (.pl (.list (kd.map dI)))] (w.deeds.map Zl)=some ((w.deeds.map λdd=>Be kd (bV dd i)).map bF):=by
  rw[De Zl (λdd=>bF (Be kd (bV dd i))),AG]
  .rfl
  .intro dd de
   have hr:bJ (Zf 0) (S 2) (some (.pl (Zl dd))::[some (.pl w.d),some (.pl (.int (i:Int))),some (.pl (.list (kd.map dI)))])=some (bF (bV dd i)):=Jk (hv.dl dd de) hi;have ha:O (bJ (Zf 0) (S 2)) (O (S 3) Ze) (some (.pl (Zl dd))::[some (.pl w.d),some (.pl (.int (i:Int))),some (.pl (.list (kd.map dI)))])=some [bF (bV dd i),.list (kd.map dI)]:=by generalize bJ (Zf 0) (S 2)=E at hr ⊢;simp[hr]
   unfold Zj;rw[ha];exact Xv hv hm hl hb (Cm hv de i)
 have h2:ZI (Zw (ZW (bW (Zj DN (O (S 0) Ze)))) ZR (Zj EV (O (bJ (Zf 0) (S 2)) (O (S 3) Ze)))) [some (.pl w.d),some (.pl (.int (i:Int))),some (.pl (.list (kd.map dI)))]=some (.tuple ((w.deeds.map λdd=>Be kd (bV dd i)).map bF)):=by
  have hI:ZW (bW (Zj DN (O (S 0) Ze))) [some (.pl w.d),some (.pl (.int (i:Int))),some (.pl (.list (kd.map dI)))]=some (w.deeds.map Zl):=by have:Zj DN (O (S 0) Ze) [some (.pl w.d),some (.pl (.int (i:Int))),some (.pl (.list (kd.map dI)))]=some (.tuple (w.deeds.map Zl)):=hd;unfold ZW bW;rw[this];rfl
  have hf:Zw (ZW (bW (Zj DN (O (S 0) Ze)))) ZR (Zj EV (O (bJ (Zf 0) (S 2)) (O (S 3) Ze))) [some (.pl w.d),some (.pl (.int (i:Int))),some (.pl (.list (kd.map dI)))]=some (.ol ((w.deeds.map λdd=>Be kd (bV dd i)).map bF)):=by unfold Zw;rw[hI];dsimp only;rw[if_pos (by rw[Ae];unfold big;omega),hg];rfl
  unfold ZI;rw[hf];rfl
 exact D9 (Pf h1 h2)
theorem Q9(E:EF)(r:HM.Env)(g:Nat->D)(h:∀i,i<w.many->E (some (.pl (.int (i:Int)))::r)=some (g i))(h0:r[0]?=some (some (.pl w.d))):dY (Zw (ZH (Zj ZJ (O (S 0) Ze))) ZR E) r=some (.list ((Ab w.many).map g)):=by
 have hm:=hv.m2;have hs:=X0 w;have hok:dE (w.many:Int)=true:=Cy (by omega);have hi:ZH (Zj ZJ (O (S 0) Ze)) r=some ((Ab w.many).map dN):=by
  have:Zj ZJ (O (S 0) Ze) r=some (.int w.many):=by
   have:O (S 0) Ze r=some [w.d]:=by simp[h0]
   unfold Zj;rw[this];exact hs
  generalize Zj ZJ (O (S 0) Ze)=X at this ⊢;simp[this,hok,ZS]
 have hg:Bn ZR E r ((Ab w.many).map dN)=some ((Ab w.many).map g):=De dN g _ λi hi=>h i (Am.mp hi);have hf:Zw (ZH (Zj ZJ (O (S 0) Ze))) ZR E r=some (.ol ((Ab w.many).map g)):=by unfold Zw;rw[hi];dsimp only;rw[if_pos (by rw[Ae,AB];unfold big;omega),hg];rfl
 show(Zw _ _ _ r).bind frz=_;rw[hf];rfl
theorem Um(hl:kd.length=w.many)(hb:∀i,i<w.many->0<=ka kd i/\ka kd i<8):EL [w.d,.list (kd.map dI)]=some (.list ((ZB w.many (nm w kd)).map dI)):=by
 have hm:=hv.m2;have h:=Q9 hv (Zj E2 (O (S 1) (O (S 0) (O (S 2) Ze)))) [some (.pl w.d),some (.pl (.list (kd.map dI)))] (λi=>fN (nm w kd i)) (λi hi=>Xk hv hl hb hi) rfl;have ha:O (dY (Zw (ZH (Zj ZJ (O (S 0) Ze))) ZR (Zj E2 (O (S 1) (O (S 0) (O (S 2) Ze)))))) Ze [some (.pl w.d),some (.pl (.list (kd.map dI)))]=some [.list ((Ab w.many).map λi=>fN (nm w kd i))]:=by generalize dY (Zw (ZH (Zj ZJ (O (S 0) Ze))) ZR (Zj E2 (O (S 1) (O (S 0) (O (S 2) Ze)))))=X at h ⊢;simp[h]
 exact D9 (cG ha (V7 (by omega) hv.m1 _))
def mB(w:Wk)(N:Nat->Nat->Prop):Prop:=∀i j,i<w.many->j<w.many->N i j->fm w i=fm w j/\∀dd∈w.deeds,(∀t∈bV dd i,∃t'∈bV dd j,N t.toNat t'.toNat)/\∀t'∈bV dd j,∃t∈bV dd i,N t.toNat t'.toNat
structure Cb(w:Wk)(kd:List Int):Prop where
 len:kd.length=w.many
 can:ZB w.many (ka kd)=kd
 fmr:∀i j,i<w.many->j<w.many->ka kd i=ka kd j->fm w i=fm w j
 bis:∀N,mB w N->∀i j,i<w.many->j<w.many->N i j->ka kd i=ka kd j
omit hv in
theorem Cb.b(I:Cb w kd)(hi:i<w.many):0<=ka kd i/\ka kd i<w.many:=by
 have:=Sm (f:=ka kd) hi
 rwa [I.can]at this
theorem Cb.b8(I:Cb w kd):∀i,i<w.many->0<=ka kd i/\ka kd i<8:=λi hi=>by have:=I.b hi;have:=hv.m2;omega
theorem Wv:Cb w (ZB w.many (fm w)) :=
 ⟨LV _ _,Mr _ _,λi j hi hj h=>(Ec hi hj).mp h,λN hN i j hi hj h=>(Ec hi hj).mpr (hN i j hi hj h).1⟩
omit hv in
theorem FE{x:Int}:x∈Be kd c↔∃s∈c,ka kd s.toNat=x:=by unfold Be;rw[(sortI_perm _).mem_iff,JG];simp
omit hv in
theorem OF(kd c:List Int):(Be kd c).Pairwise (· < ·):=by unfold Be;exact Mt (Pu _) ((sortI_perm _).nodup_iff.mpr (JT _ _ CY))
theorem Vk(I:Cb w kd):Cb w (ZB w.many (nm w kd)):=by
 refine⟨LV _ _,Mr _ _,λi j hi hj h=>?_,λN hN i j hi hj h=>?_⟩
 .have h:=(Ec hi hj).mp h
  exact I.fmr i j hi hj (congrArg (·.1) h)
 .refine(Ec hi hj).mpr ?_
  obtain⟨_,hd⟩:=hN i j hi hj h;unfold nm;rw[I.bis N hN i j hi hj h];congr 1;refine Gp λdd de=>?_;obtain⟨h1,h2⟩:=hd dd de;have lP:=(Cm hv de i).2;have lO:=(Cm hv de j).2;refine OG (OF _ _) (OF _ _) λx=>?_;rw[FE,FE]
  constructor
  .rintro ⟨s,hs,rfl⟩
   obtain⟨t,ht,c9⟩:=h1 s hs;have:=lP s hs;have:=lO t ht;exact⟨t,ht,(I.bis N hN _ _ (by omega) (by omega) c9).symm⟩
  .rintro ⟨s,hs,rfl⟩
   obtain⟨t,ht,c9⟩:=h2 s hs;have:=lO s hs;have:=lP t ht;exact⟨t,ht,I.bis N hN _ _ (by omega) (by omega) c9⟩
def fT(n:Nat):List (Nat×Nat):=(Ab n).flatMap λi=>(Ab n).map λj=>(i,j)
omit hv in
theorem LQ{j:Nat}:(i,j)∈fT n↔i<n/\j<n:=by
 unfold fT;rw[List.mem_flatMap]
 constructor
 .rintro ⟨a,ha,h⟩
  obtain⟨b,hb,e⟩:=Ak.mp h;cases e;exact⟨Am.mp ha,Am.mp hb⟩
 .rintro ⟨h1,h2⟩
  exact⟨i,Am.mpr h1,Ak.mpr ⟨j,Am.mpr h2,rfl⟩⟩
def mu(n:Nat)(kd:List Int):Nat:=(fT n).countP λp=>decide (ka kd p.1=ka kd p.2)
omit hv in
theorem Qw{α:Type}{p q:α->Bool}:∀(l:List α),(∀x∈l,q x=true->p x=true)->(∃x∈l,p x=true/\q x=false)->l.countP q<l.countP p
 |[],_,⟨x,hx,_⟩=>by simp at hx
 |y::l,h,⟨x,hx,h1,h2⟩=>by
  have lW:l.countP q<=l.countP p:=List.countP_mono_left λz hz=>h z (Aq _ hz);rw[List.countP_cons,List.countP_cons];rcases Aw.mp hx with rfl|hx
  .rw[h1,h2]
   simp;omega
  .have ih:=Qw l (λz hz=>h z (Aq _ hz)) ⟨x,hx,h1,h2⟩
   cases hq:q y with
   |true=>rw[h y (An ..) hq];simp;omega
   |false=>cases p y<;>simp<;>omega
theorem SM(I:Cb w kd)(cv:ZB w.many (nm w kd)≠kd):mu w.many (ZB w.many (nm w kd))<mu w.many kd:=by
 have eN:∀i j,i<w.many->j<w.many->ka (ZB w.many (nm w kd)) i=ka (ZB w.many (nm w kd)) j->ka kd i=ka kd j:=λi j hi hj h=>congrArg (·.1) ((Ec hi hj).mp h);refine Qw _ (λp hp h=>?_) ?_
 .obtain⟨h1,h2⟩:=LQ.mp (show(p.1,p.2)∈fT w.many from hp)
  exact decide_eq_true (eN _ _ h1 h2 (of_decide_eq_true h))
 .apply Et
  intro z;refine cv ?_;rw[<-Mr,Qg (g:=ka kd),I.can];intro i j hi hj
  constructor
  .exact eN i j hi hj
  .intro h
   apply Et;intro hn;exact z ⟨(i,j),LQ.mpr ⟨hi,hj⟩,decide_eq_true h,decide_eq_false hn⟩
omit hv in
theorem Wz(a b:List Int):dq (.list (a.map dI)) (.list (b.map dI))=some (.bool (!decide (a=b))):=by
 have h:=OZ 1 (.list (a.map dI)) (.list (b.map dI)) (FL 0 a) ⟨1,FL 0 b⟩;unfold dq;rw[DG (FL 0 a) (by decide),DG (FL 0 b) (by decide),if_pos (by rfl)];congr 3;rw[CN,h,decide_eq_true_iff]
 constructor
 .intro e
  injection e with e
  have:=congrArg Bz e;rw[CL,CL]at this;exact BH this
 .intro e
  rw[e]
theorem Qe:∀(b0:Nat) (kd:List Int),Cb w kd->mu w.many kd<b0 ->∃kd':List Int,Dm (tV (bH dq (Zj EL (O (S 0) (O (S 1) Ze))) (S 1))) Hr b0 [some (.pl w.d),some (.pl (.list (kd.map dI)))]=some (.nx [some (.pl w.d),some (.pl (.list (kd'.map dI)))])/\Cb w kd'/\ZB w.many (nm w kd')=kd'
 |0,kd,_,h=>by omega
 |b0+1,kd,I,h=>by
  have hf:=Um hv I.len (I.b8 hv);have hc:Zj EL (O (S 0) (O (S 1) Ze)) [some (.pl w.d),some (.pl (.list (kd.map dI)))]=some (.list ((ZB w.many (nm w kd)).map dI)):=hf;have ht:=DC (g:=dq) (f:=S 1) hc rfl (Wz _ _);rw[Dm,ht]
  by_cases e:ZB w.many (nm w kd)=kd
  .refine⟨kd,?_,I,e⟩
   rw[decide_eq_true e];rfl
  .obtain⟨kd',g,oJ⟩:=Qe b0 (ZB w.many (nm w kd)) (Vk hv I) (by have:=SM hv I e;omega)
   refine⟨kd',?_,oJ⟩;rw[decide_eq_false e,<-g];show(match Hr [some (.pl w.d),some (.pl (.list (kd.map dI)))]with|some (.nx r')=>_|some (.ct r')=>_|some (.bk r')=>_|some (.rt d)=>_|none=>_)=_;have:Hr [some (.pl w.d),some (.pl (.list (kd.map dI)))]=some (.nx [some (.pl w.d),some (.pl (.list ((ZB w.many (nm w kd)).map dI)))]):=by unfold Hr Z5;rw[hc];rfl
   rw[this]
theorem Xw:∃kd:List Int,Hz [w.d]=some (.list (kd.map dI))/\Cb w kd/\ZB w.many (nm w kd)=kd:=by
 have hm:=hv.m2;have h:=Q9 hv (Zj EX (O (S 1) (O (S 0) Ze))) [some (.pl w.d),none] (λi=>fW (fm w i)) (λi hi=>X6 hv hi) rfl;have bK:(fT w.many).length<=64:=by
  have key:∀l:List Nat,(l.flatMap λi=>(Ab w.many).map λj=>(i,j)).length=l.length*w.many:=by
   intro l
   induction l with
   |nil=>simp
   |cons x l ih=>rw[List.flatMap_cons,AH,ih,Ae,AB,AL,Nat.succ_mul,HH]
  unfold fT;rw[key,AB];exact Ip hm hm
 have nB:∀kd,mu w.many kd<100000:=λkd=>by have:=List.countP_le_length (p:=λp:Nat×Nat=>decide (ka kd p.1=ka kd p.2)) (l:=fT w.many);unfold mu;omega
 obtain⟨kd,g,oJ⟩:=Qe hv 100000 (ZB w.many (fm w)) (Wv hv) (nB _);refine⟨kd,?_,oJ⟩;show Av (Ni [some (.pl w.d),none])=_;unfold Ni;have ha:O (dY (Zw (ZH (Zj ZJ (O (S 0) Ze))) ZR (Zj EX (O (S 1) (O (S 0) Ze))))) Ze [some (.pl w.d),none]=some [.list ((Ab w.many).map λi=>fW (fm w i))]:=by generalize dY (Zw (ZH (Zj ZJ (O (S 0) Ze))) ZR (Zj EX (O (S 1) (O (S 0) Ze))))=X at h ⊢;simp[h]
 refine ZT (P:=λq=>Av q=_) (r':=[some (.pl w.d),some (.pl (.list ((ZB w.many (fm w)).map dI)))]) ?_ ?_
 .unfold Z5
  rw[cG ha (Wj (by omega) _)];rfl
 .exact ZT (P:=λq=>Av q=_) g rfl
end
end
def eK(kd:List Int)(i j:Nat):Bool:=decide (ka kd j=ka kd i)
theorem LZ(a b:Int):cA (.int a) (.int b)=some (.bool (decide (a=b))):=by unfold cA;rw[DG (Jf 1 a) (by decide),DG (Jf 1 b) (by decide),if_pos (by rfl)];rfl
section
variable{w:Wk}(hv:Wk.V w){kd:List Int}(I:Cb w kd)
include hv I
theorem Y0(k:Int):FV [.list (kd.map dI),.int k]=some (.list (((Ab w.many).filter λi=>decide (ka kd i=k)).map dN)):=by
 have hm:=hv.m2;have hok:dE (w.many:Int)=true:=Cy (by omega);have bK:Dc (Zf 0) [some (.pl (.list (kd.map dI))),some (.pl (.int k))]=some (.int (w.many:Int)):=by simp[I.len]
 have hi:ZH (Dc (Zf 0)) [some (.pl (.list (kd.map dI))),some (.pl (.int k))]=some ((Ab w.many).map dN):=by generalize Dc (Zf 0)=X at bK ⊢;simp[bK,hok,ZS]
 have hg:Bn (tV (bH cA (bJ (Zf 1) (S 0)) (S 2))) (S 0) [some (.pl (.list (kd.map dI))),some (.pl (.int k))] ((Ab w.many).map dN)=some (((Ab w.many).filter λi=>decide (ka kd i=k)).map dN):=by
  rw[EJ dN (λi=>decide (ka kd i=k)) dN]
  .intro i hi
   exact DC (Lc I.len (Am.mp hi)) rfl (LZ _ _)
  .intro i _ _
   rfl
 refine D9 ?_;show(Zw _ _ _ _).bind frz=_;have hf:Zw (ZH (Dc (Zf 0))) (tV (bH cA (bJ (Zf 1) (S 0)) (S 2))) (S 0) [some (.pl (.list (kd.map dI))),some (.pl (.int k))]=some (.ol (((Ab w.many).filter λi=>decide (ka kd i=k)).map dN)):=by unfold Zw;rw[hi];dsimp only;rw[if_pos (by rw[Ae,AB];unfold big;omega),hg];rfl
 exact(congrArg (λq:Option B=>q.bind frz) hf).trans rfl
theorem TX:∃L:Nat,L<=8/\kd.max?=some ((L:Int)-1)/\∀v:Int,(∃i,i<w.many/\ka kd i=v)↔0<=v/\v<(L:Int):=by
 have lV:=hv.m1;have hm:=hv.m2;obtain⟨all,nd,hl,h1,h2⟩:=LU w.many (ka kd);rw[I.can]at h1;have hv':∀v:Int,(∃i,i<w.many/\ka kd i=v)↔0<=v/\v<(all.length:Int):=λv=>by
  constructor
  .rintro ⟨i,hi,rfl⟩
   obtain⟨j,hj,g⟩:=h1 i hi;have:=(AO.mp g).1;omega
  .rintro ⟨v0,v1⟩
   have bS:v.toNat<all.length:=by omega
   obtain⟨i,hi,e⟩:=h2 _ (Dr bS);obtain⟨j,hj,g⟩:=h1 i hi;refine⟨i,hi,?_⟩;have g2:all[v.toNat]?=some (ka kd i):=by rw[AV bS,e]
   have:=(List.getElem?_inj bS nd).mp (g2.trans g.symm);omega
 refine⟨all.length,by omega,?_,hv'⟩;obtain⟨h3,h4⟩:=(hv' (ka kd 0)).mp ⟨0,lV,rfl⟩;rw[NM]
 constructor
 .obtain⟨i,hi,e⟩:=(hv' ((all.length:Int)-1)).mpr ⟨by omega,by omega⟩
  rw[<-e];unfold ka;rw[AV (by rw[I.len];exact hi)];exact Dr _
 .intro x hx
  obtain⟨i,hi,e⟩:=IA hx;have:ka kd i=x:=by unfold ka;rw[AV hi];exact e
  have:=((hv' x).mp ⟨i,by rw[<-I.len];exact hi,this⟩).2;omega
theorem VQ(hk:Hz [w.d]=some (.list (kd.map dI))):FW [w.d]=some (.list ((Br w.many (eK kd)).map λi=>.list ((AD w.many (eK kd) i).map dN))):=by
 have hm:=hv.m2;obtain⟨L,hL8,nA,hL⟩:=TX hv I;have jJ:=XX w.many (ka kd) L (by rw[I.can];exact hL);rw[I.can]at jJ;have hc:=W5 hv;have hok:dE (L:Int)=true:=Cy (by omega);have hi:ZH (bH Z6 (FJ (Zf 1)) (eC (.int 1))) [some (.pl w.d),some (.pl (.list (kd.map dI)))]=some ((Ab L).map dN):=by
  have hx:FJ (Zf 1) [some (.pl w.d),some (.pl (.list (kd.map dI)))]=some (.int ((L:Int)-1)):=by show(match Bz (kd.map dI)with|some ns=>ns.max?.map λi=>AQ i|none=>none)=_;rw[CL];dsimp only;rw[nA];rfl
  have ha:bH Z6 (FJ (Zf 1)) (eC (.int 1)) [some (.pl w.d),some (.pl (.list (kd.map dI)))]=some (.int (L:Int)):=by unfold bH;rw[hx];show some (AQ ((L:Int)-1+1))=_;rw[show(L:Int)-1+1=L by omega]
  generalize bH Z6 (FJ (Zf 1)) (eC (.int 1))=X at ha ⊢;simp[ha,hok,ZS]
 have hg:Bn ZR (Zj FV (O (S 2) (O (S 0) Ze))) [some (.pl w.d),some (.pl (.list (kd.map dI)))] ((Ab L).map dN)=some ((Br w.many (eK kd)).map λi=>.list ((AD w.many (eK kd) i).map dN)):=by
  rw[De dN (λ(k:Nat)=>.list (((Ab w.many).filter λi=>decide (ka kd i=(k:Int))).map dN))]
  .have:(Br w.many (eK kd)).map (λi=>HD ((AD w.many (eK kd) i).map dN))=((Br w.many (eK kd)).map (AD w.many (eK kd))).map λc=>HD (c.map dN):=by rw[AG];rfl
   rw[this];have jJ:((Ab L).map λ(k:Nat)=>(Ab w.many).filter λi=>decide (ka kd i=(k:Int)))=(Br w.many (eK kd)).map (AD w.many (eK kd)):=jJ;rw[<-jJ,AG];rfl
  .intro k _
   exact cG rfl (Y0 hv I (k:Int))
 show Av (Nk [some (.pl w.d),none])=_;unfold Nk;refine ZT (P:=λq=>Av q=_) (r':=[some (.pl w.d),none]) (by simp[hc]) ?_;refine ZT (P:=λq=>Av q=_) (r':=[some (.pl w.d),some (.pl (.list (kd.map dI)))]) (by simp[hk]) ?_;refine D9 ?_;have hf:Zw (ZH (bH Z6 (FJ (Zf 1)) (eC (.int 1)))) ZR (Zj FV (O (S 2) (O (S 0) Ze))) [some (.pl w.d),some (.pl (.list (kd.map dI)))]=some (.ol ((Br w.many (eK kd)).map λi=>.list ((AD w.many (eK kd) i).map dN))):=by unfold Zw;rw[hi];dsimp only;rw[if_pos (by rw[Ae,AB];unfold big;omega),hg];rfl
 exact(congrArg (λq:Option B=>q.bind frz) hf).trans rfl
end
section
variable{A:List (List Int)}{x y:List Int}{i j:Nat}
theorem Mf{α:Type}{i:Nat}{body:SF}(g:α->D)(Pr:HM.Env->Prop)(p:α->Bool)(d:D):∀(xs:List α),(∀x∈xs,∀r,Pr r->(p x=true->body (r.set i (some (.pl (g x))))=some (.rt d))/\(p x=false->∃r',body (r.set i (some (.pl (g x))))=some (.nx r')/\Pr r'))->∀r,Pr r ->(xs.any p=true->A5 i body (xs.map g) r=some (.rt d))/\(xs.any p=false->∃r',A5 i body (xs.map g) r=some (.nx r')/\Pr r')
 |[],_,r,hr=>⟨λh=>by simp at h,λ_=>⟨r,rfl,hr⟩⟩
 |x::xs,h,r,hr=>by
  obtain⟨h1,h2⟩:=h x (An ..) r hr;rw[Eh,Ao];cases hp:p x with
  |true=>refine⟨λ_=>?_,λz=>by simp at z⟩;rw[A5,h1 hp]
  |false=>obtain⟨r',e,hr'⟩:=h2 hp;have ih:=Mf g Pr p d xs (λy hy=>h y (Aq _ hy)) r' hr';rw[A5,e,Fi];exact ih
theorem Cz{α:Type}{body:SF}(g:α->D)(xs:List α)(P:List α->HM.Env->Prop)(h:∀pre x post r,xs=pre++x::post->P pre r->∃r',body (r.set i (some (.pl (g x))))=some (.nx r')/\P (pre++[x]) r'):∀r,P [] r->∃r',A5 i body (xs.map g) r=some (.nx r')/\P xs r':=by
 have key:∀(post pre:List α) (r:HM.Env),xs=pre++post->P pre r->∃r',A5 i body (post.map g) r=some (.nx r')/\P xs r':=by
  intro post
  induction post with
  |nil=>intro pre r e hr;rw[CB]at e;subst e;exact⟨r,rfl,hr⟩
  |cons x post ih=>intro pre r e hr;obtain⟨r',eb,hr'⟩:=h pre x post r e hr;obtain⟨r2,e2,h2⟩:=ih (pre++[x]) r' (by rw[e,CO];rfl) hr';refine⟨r2,?_,h2⟩;rw[Ao,A5,eb];exact e2
 exact λr hr=>key xs [] r rfl hr
def Zo(A:List (List Int)):List (List Ky×D):=A.map λk=>(Bm k,.bool true)
def dD(s t:Int):List Int:=[if t<s then t else s,if t > s then t else s]
theorem V3(A:List (List Int))(k:List Int):(Ho (Zo A) (Bm k)).isSome=A.contains k:=by
 unfold Ho Zo
 induction A with
 |nil=>rfl
 |cons c A ih =>
  rw[Ao,CA]
  by_cases h:c=k
  .subst h
   simp
  .have h':decide ((Bm c,(DP true)).1=Bm k)=false:=decide_eq_false λe=>h (Pn e)
   rw[h'];dsimp only;rw[ih,List.contains_cons,show(k==c)=false from beq_eq_false_iff_ne.mpr (Az h),Fi]
def Co(A:List (List Int))(k:List Int):List (List Int):=if k∈A then A else A++[k]
theorem U6(A:List (List Int))(k:List Int):dP (Zo A) (Bm k) (.bool true)=Zo (Co A k):=by
 unfold dP Co
 by_cases h:k∈A
 .rw[if_pos h,if_pos]
  .refine(Gp λp hp=>?_).trans (List.map_id _)
   unfold Zo at hp;obtain⟨c,hc,rfl⟩:=Ak.mp hp;show(if Bm c=Bm k then(Bm c,DP true)else(Bm c,DP true))=_;split<;>rfl
  .exact HU.mpr ⟨(Bm k,.bool true),Ak.mpr ⟨k,h,rfl⟩,decide_eq_true rfl⟩
 .rw[if_neg h,if_neg]
  .unfold Zo
   rw[Bj];rfl
  .intro z
   obtain⟨p,hp,e⟩:=HU.mp z;unfold Zo at hp;obtain⟨c,hc,rfl⟩:=Ak.mp hp;have e:=Pn (of_decide_eq_true e);subst e;exact h hc
theorem Jt{k:List Int}:x∈Co A k↔x∈A\/x=k:=by
 unfold Co;split
 .rename_i h
  exact⟨.inl,λz=>z.elim id λe=>e▸h⟩
 .rw[AW,AA]
theorem To{k:List Int}(h:A.Nodup):(Co A k).Nodup:=by
 unfold Co;split
 .exact h
 .rename_i hk
  refine Gm.mpr ⟨h,by simp,λa ha b hb e=>?_⟩;rw[AA]at hb;subst hb;subst e;exact hk ha
theorem LO{k:List Int}(r:HM.Env)(E:EF)(i:Nat)(he:E r=some (bF k))(hi:r[i]?=some (some (.pl (.dict (ZN (Zo A)))))\/r[i]?=some (some (.ot (Zo A)))):tV (Cw E (Zf i)) r=some (!A.contains k):=by
 have hk:GU (bF k)=some (Bm k):=PV k;have nD:=V3 A k;have hz:(Ho (Zo A) (Bm k)).isNone=!A.contains k:=by rw[<-nD];cases Ho (Zo A) (Bm k)<;>rfl
 rcases hi with hi|hi<;>simp[he,hi,gz,hk,hz,-GB]
def eY(A:List (List Int))(x y:List Int):Bool:=x.any λs=>y.all λt=>A.contains (dD s t)
def ft(A:List (List Int))(i j:Nat)(dd:List (List Int)):Bool:=(decide (bV dd i=[]) != decide (bV dd j=[]))||(eY A (bV dd i) (bV dd j)||eY A (bV dd j) (bV dd i))
def d9(w:Wk)(A:List (List Int))(i j:Nat):Bool:=w.deeds.any (ft A i j)
theorem OU(c:List Int):cA (bF c) (.tuple [])=some (.bool (decide (c=[]))):=by have hp:Cv (bF c)=true:=DG (OT 0 c) (by decide);unfold cA;rw[hp,if_pos (by decide +kernel)];cases c<;>rfl
theorem Ql(a b:Bool):dq (.bool a) (.bool b)=some (.bool (a != b)):=by
 have hp:∀b,Cv (.bool b)=true:=λb=>by cases b<;>decide +kernel
 unfold dq;rw[hp,hp,if_pos (by rfl)];cases a<;>cases b<;>rfl
section
variable{w:Wk}(hv:Wk.V w)(A:List (List Int))(e1 e2:Option B)
include hv
theorem Td(hy:y.length<1000)(e4 e5 o7:Option B)(s:Int):(((y.all λt=>A.contains (dD s t))=true)->EZ [some (.pl w.d),e1,e2,some (.pl (.dict (ZN (Zo A)))),e4,e5,some (.pl (bF y)),some (.pl (.int s))]=some (.rt (.bool true))) /\ ((y.all λt=>A.contains (dD s t))=false->EZ [some (.pl w.d),e1,e2,some (.pl (.dict (ZN (Zo A)))),e4,e5,some (.pl (bF y)),some (.pl (.int s))]=some (.nx [some (.pl w.d),e1,e2,some (.pl (.dict (ZN (Zo A)))),e4,e5,some (.pl (bF y)),some (.pl (.int s))])):=by
 have hg:Bn (tV (Cw (ZM (O (bH C6 (S 8) (S 0)) (O (bH C7 (S 8) (S 0)) Ze))) (Zf 4))) (S 0) [some (.pl w.d),e1,e2,some (.pl (.dict (ZN (Zo A)))),e4,e5,some (.pl (bF y)),some (.pl (.int s))] (y.map dI)=some ((y.filter λt=>!A.contains (dD s t)).map dI):=by
  rw[EJ dI (λt=>!A.contains (dD s t)) dI]
  .intro t _
   exact LO (k:=dD s t) _ _ 4 rfl (.inl rfl)
  .intro t _ _
   rfl
 have hf:Zw (ZW (bW (S 6))) (tV (Cw (ZM (O (bH C6 (S 8) (S 0)) (O (bH C7 (S 8) (S 0)) Ze))) (Zf 4))) (S 0) [some (.pl w.d),e1,e2,some (.pl (.dict (ZN (Zo A)))),e4,e5,some (.pl (bF y)),some (.pl (.int s))]=some (.ol ((y.filter λt=>!A.contains (dD s t)).map dI)):=by have hI:ZW (bW (S 6)) [some (.pl w.d),e1,e2,some (.pl (.dict (ZN (Zo A)))),e4,e5,some (.pl (bF y)),some (.pl (.int s))]=some (y.map dI):=rfl;unfold Zw;rw[hI];dsimp only;rw[if_pos (by rw[Ae];unfold big;omega),hg];rfl
 have ht:tV (bH cA (dY (Zw (ZW (bW (S 6))) (tV (Cw (ZM (O (bH C6 (S 8) (S 0)) (O (bH C7 (S 8) (S 0)) Ze))) (Zf 4))) (S 0))) (dY (Bd Ze))) [some (.pl w.d),e1,e2,some (.pl (.dict (ZN (Zo A)))),e4,e5,some (.pl (bF y)),some (.pl (.int s))]=some (y.all λt=>A.contains (dD s t)):=by
  refine DC (x:=.list ((y.filter λt=>!A.contains (dD s t)).map dI)) (y:=.list []) ((congrArg (λq:Option B=>q.bind frz) hf).trans rfl) rfl ?_;have hpl:Cv (.list ((y.filter λt=>!A.contains (dD s t)).map dI))=true:=DG (FL 0 _) (by decide);have he:∀X:List Int,Ep (.list (X.map dI)) (.list [])=X.isEmpty:=λX=>by cases X<;>rfl
  unfold cA;rw[hpl,if_pos (by rfl),he];congr 2;rw[CN];simp
 constructor
 .intro h
  rw[h]at ht;unfold EZ;rw[D3 ht];rfl
 .intro h
  rw[h]at ht;unfold EZ;rw[D2 ht];rfl
theorem Oe(hx:x.length<1000)(hy:y.length<1000)(e4 o7:Option B):(eY A x y=true->ZP [some (.pl w.d),e1,e2,some (.pl (.dict (ZN (Zo A)))),e4,some (.pl (bF x)),some (.pl (bF y)),o7]=some (.rt (.bool true))) /\ (eY A x y=false->∃p7,ZP [some (.pl w.d),e1,e2,some (.pl (.dict (ZN (Zo A)))),e4,some (.pl (bF x)),some (.pl (bF y)),o7]=some (.nx [some (.pl w.d),e1,e2,some (.pl (.dict (ZN (Zo A)))),e4,some (.pl (bF x)),some (.pl (bF y)),p7])):=by
 have hf:ZP [some (.pl w.d),e1,e2,some (.pl (.dict (ZN (Zo A)))),e4,some (.pl (bF x)),some (.pl (bF y)),o7]=A5 7 EZ (x.map dI) [some (.pl w.d),e1,e2,some (.pl (.dict (ZN (Zo A)))),e4,some (.pl (bF x)),some (.pl (bF y)),o7]:=by show(if(x.map dI).length<big then _ else _)=_;rw[if_pos (by rw[Ae];unfold big;omega)]
 have h:=Mf (i:=7) (body:=EZ) dI (λr=>∃p7,r=[some (.pl w.d),e1,e2,some (.pl (.dict (ZN (Zo A)))),e4,some (.pl (bF x)),some (.pl (bF y)),p7]) (λs=>y.all λt=>A.contains (dD s t)) (.bool true) x (λs _ r hr=>by obtain⟨p7,rfl⟩:=hr;obtain⟨h1,h2⟩:=Td hv A e1 e2 hy e4 (some (.pl (bF x))) p7 s;exact⟨h1,λz=>⟨_,h2 z,_,rfl⟩⟩) _ ⟨o7,rfl⟩;rw[hf];refine⟨h.1,λz=>?_⟩;obtain⟨r',e,p7,rfl⟩:=h.2 z;exact⟨p7,e⟩
theorem Xs{dd:List (List Int)}(hd:dd∈w.deeds)(hi:i<w.many)(hj:j<w.many)(o5 o6 o7:Option B):(ft A i j dd=true->EY [some (.pl w.d),some (.pl (.int (i:Int))),some (.pl (.int (j:Int))),some (.pl (.dict (ZN (Zo A)))),some (.pl (Zl dd)),o5,o6,o7]=some (.rt (.bool true))) /\ (ft A i j dd=false->∃p5 p6 p7,EY [some (.pl w.d),some (.pl (.int (i:Int))),some (.pl (.int (j:Int))),some (.pl (.dict (ZN (Zo A)))),some (.pl (Zl dd)),o5,o6,o7]=some (.nx [some (.pl w.d),some (.pl (.int (i:Int))),some (.pl (.int (j:Int))),some (.pl (.dict (ZN (Zo A)))),some (.pl (Zl dd)),p5,p6,p7])):=by
 have hm:=hv.m2;have l1:=(Cm hv hd i).len;have l2:=(Cm hv hd j).len;have g1:∀q5 q6 q7,bJ (Zf 4) (S 1) [some (.pl w.d),some (.pl (.int (i:Int))),some (.pl (.int (j:Int))),some (.pl (.dict (ZN (Zo A)))),some (.pl (Zl dd)),q5,q6,q7]=some (bF (bV dd i)):=λ_ _ _=>Jk (hv.dl dd hd) hi;have g2:∀q5 q6 q7,bJ (Zf 4) (S 2) [some (.pl w.d),some (.pl (.int (i:Int))),some (.pl (.int (j:Int))),some (.pl (.dict (ZN (Zo A)))),some (.pl (Zl dd)),q5,q6,q7]=some (bF (bV dd j)):=λ_ _ _=>Jk (hv.dl dd hd) hj;generalize hx:bV dd i=x at *;generalize hy:bV dd j=y at *;have ht:tV (bH dq (bH cA (bJ (Zf 4) (S 1)) (ZM Ze)) (bH cA (bJ (Zf 4) (S 2)) (ZM Ze))) [some (.pl w.d),some (.pl (.int (i:Int))),some (.pl (.int (j:Int))),some (.pl (.dict (ZN (Zo A)))),some (.pl (Zl dd)),o5,o6,o7]=some (decide (x=[]) != decide (y=[])):=by
  have h1:bH cA (bJ (Zf 4) (S 1)) (ZM Ze) [some (.pl w.d),some (.pl (.int (i:Int))),some (.pl (.int (j:Int))),some (.pl (.dict (ZN (Zo A)))),some (.pl (Zl dd)),o5,o6,o7]=some (.bool (decide (x=[]))):=by unfold bH;rw[g1];exact OU x
  have h2:bH cA (bJ (Zf 4) (S 2)) (ZM Ze) [some (.pl w.d),some (.pl (.int (i:Int))),some (.pl (.int (j:Int))),some (.pl (.dict (ZN (Zo A)))),some (.pl (Zl dd)),o5,o6,o7]=some (.bool (decide (y=[]))):=by unfold bH;rw[g2];exact OU y
  exact DC h1 h2 (Ql _ _)
 have de:ft A i j dd=((decide (x=[]) != decide (y=[]))||(eY A x y||eY A y x)):=by unfold ft;rw[hx,hy]
 rw[de];unfold EY;cases cv:(decide (x=[]) != decide (y=[]))with
 |true=>rw[cv]at ht;refine⟨λ_=>?_,λz=>by simp at z⟩;unfold Zs;rw[D3 ht];rfl
 |false =>
  rw[cv]at ht;rw[Fi];have fF:∀q:Option gg,Df 5 6 ZP [.tuple [bF x,bF y],.tuple [bF y,bF x]] [some (.pl w.d),some (.pl (.int (i:Int))),some (.pl (.int (j:Int))),some (.pl (.dict (ZN (Zo A)))),some (.pl (Zl dd)),o5,o6,o7]=q ->
    Zs (cQ (tV (bH dq (bH cA (bJ (Zf 4) (S 1)) (ZM Ze)) (bH cA (bJ (Zf 4) (S 2)) (ZM Ze)))) (ZO (eC (.bool true))) AZ) (Mc 5 6 (ZW (bW (dY (Bd (O (ZM (O (bJ (Zf 4) (S 1)) (O (bJ (Zf 4) (S 2)) Ze))) (O (ZM (O (bJ (Zf 4) (S 2)) (O (bJ (Zf 4) (S 1)) Ze))) Ze)))))) ZP) [some (.pl w.d),some (.pl (.int (i:Int))),some (.pl (.int (j:Int))),some (.pl (.dict (ZN (Zo A)))),some (.pl (Zl dd)),o5,o6,o7]=q:=λq hq=>by
   refine ZT (P:=λz=>z=q) (r':=[some (.pl w.d),some (.pl (.int (i:Int))),some (.pl (.int (j:Int))),some (.pl (.dict (ZN (Zo A)))),some (.pl (Zl dd)),o5,o6,o7]) (by rw[D2 ht];rfl) ?_;have hi:ZW (bW (dY (Bd (O (ZM (O (bJ (Zf 4) (S 1)) (O (bJ (Zf 4) (S 2)) Ze))) (O (ZM (O (bJ (Zf 4) (S 2)) (O (bJ (Zf 4) (S 1)) Ze))) Ze))))) [some (.pl w.d),some (.pl (.int (i:Int))),some (.pl (.int (j:Int))),some (.pl (.dict (ZN (Zo A)))),some (.pl (Zl dd)),o5,o6,o7]=some [.tuple [bF x,bF y],.tuple [bF y,bF x]]:=by have h1:=g1 o5 o6 o7;have h2:=g2 o5 o6 o7;generalize bJ (Zf 4) (S 1)=X1 at h1 ⊢;generalize bJ (Zf 4) (S 2)=X2 at h2 ⊢;simp[h1,h2]
   unfold Mc;rw[hi];exact hq
  obtain⟨a1,a2⟩:=Oe hv A (some (.pl (.int (i:Int)))) (some (.pl (.int (j:Int)))) (x:=x) (y:=y) (by omega) (by omega) (some (.pl (Zl dd))) o7;cases ho:eY A x y with
  |true=>refine⟨λ_=>fF _ ?_,λz=>by simp at z⟩;rw[Df];show(match ZP [some (.pl w.d),some (.pl (.int (i:Int))),some (.pl (.int (j:Int))),some (.pl (.dict (ZN (Zo A)))),some (.pl (Zl dd)),some (.pl (bF x)),some (.pl (bF y)),o7]with|some (.nx r')=>_|some (.ct r')=>_|some (.bk r')=>_|some (.rt d)=>_|none=>_)=_;rw[a1 ho]
  |false =>
   obtain⟨p7,ea⟩:=a2 ho;obtain⟨b1,b2⟩:=Oe hv A (some (.pl (.int (i:Int)))) (some (.pl (.int (j:Int)))) (x:=y) (y:=x) (by omega) (by omega) (some (.pl (Zl dd))) p7;rw[Fi];have dy:∀q:Option gg,Df 5 6 ZP [.tuple [bF y,bF x]] [some (.pl w.d),some (.pl (.int (i:Int))),some (.pl (.int (j:Int))),some (.pl (.dict (ZN (Zo A)))),some (.pl (Zl dd)),some (.pl (bF x)),some (.pl (bF y)),p7]=q->Df 5 6 ZP [.tuple [bF x,bF y],.tuple [bF y,bF x]] [some (.pl w.d),some (.pl (.int (i:Int))),some (.pl (.int (j:Int))),some (.pl (.dict (ZN (Zo A)))),some (.pl (Zl dd)),o5,o6,o7]=q:=λq hq=>by rw[Df];show(match ZP [some (.pl w.d),some (.pl (.int (i:Int))),some (.pl (.int (j:Int))),some (.pl (.dict (ZN (Zo A)))),some (.pl (Zl dd)),some (.pl (bF x)),some (.pl (bF y)),o7]with|some (.nx r')=>_|some (.ct r')=>_|some (.bk r')=>_|some (.rt d)=>_|none=>_)=_;rw[ea];exact hq
   constructor
   .intro h
    refine fF _ (dy _ ?_);rw[Df];show(match ZP [some (.pl w.d),some (.pl (.int (i:Int))),some (.pl (.int (j:Int))),some (.pl (.dict (ZN (Zo A)))),some (.pl (Zl dd)),some (.pl (bF y)),some (.pl (bF x)),p7]with|some (.nx r')=>_|some (.ct r')=>_|some (.bk r')=>_|some (.rt d)=>_|none=>_)=_;rw[b1 h]
   .intro h
    obtain⟨q7,eb⟩:=b2 h;refine⟨some (.pl (bF y)),some (.pl (bF x)),q7,fF _ (dy _ ?_)⟩;rw[Df];show(match ZP [some (.pl w.d),some (.pl (.int (i:Int))),some (.pl (.int (j:Int))),some (.pl (.dict (ZN (Zo A)))),some (.pl (Zl dd)),some (.pl (bF y)),some (.pl (bF x)),p7]with|some (.nx r')=>_|some (.ct r')=>_|some (.bk r')=>_|some (.rt d)=>_|none=>_)=_;rw[eb];rfl
theorem Vo(hi:i<w.many)(hj:j<w.many):Ed [w.d,.int (i:Int),.int (j:Int),.dict (ZN (Zo A))]=some (.bool (d9 w A i j)):=by
 have d2:=hv.d2;have hf:AU 4 (ZW (bW (bJ (Zf 0) (eC (.int 1))))) EY [some (.pl w.d),some (.pl (.int (i:Int))),some (.pl (.int (j:Int))),some (.pl (.dict (ZN (Zo A)))),none,none,none,none]=A5 4 EY (w.deeds.map Zl) [some (.pl w.d),some (.pl (.int (i:Int))),some (.pl (.int (j:Int))),some (.pl (.dict (ZN (Zo A)))),none,none,none,none]:=by show(if(w.deeds.map Zl).length<big then _ else _)=_;rw[if_pos (by rw[Ae];unfold big;omega)]
 have h:=Mf (i:=4) (body:=EY) Zl (λr=>∃p4 p5 p6 p7,r=[some (.pl w.d),some (.pl (.int (i:Int))),some (.pl (.int (j:Int))),some (.pl (.dict (ZN (Zo A)))),p4,p5,p6,p7]) (ft A i j) (.bool true) w.deeds (λdd hd r hr=>by obtain⟨p4,p5,p6,p7,rfl⟩:=hr;obtain⟨h1,h2⟩:=Xs hv A hd hi hj p5 p6 p7;refine⟨h1,λz=>?_⟩;obtain⟨q5,q6,q7,e⟩:=h2 z;exact⟨_,e,_,_,_,_,rfl⟩) _ ⟨none,none,none,none,rfl⟩;show Av (Nt [some (.pl w.d),some (.pl (.int (i:Int))),some (.pl (.int (j:Int))),some (.pl (.dict (ZN (Zo A)))),none,none,none,none])=_;unfold Nt Zs;rw[hf];unfold d9;cases hq:w.deeds.any (ft A i j)with
 |true=>rw[h.1 hq];rfl
 |false=>obtain⟨r',e,_⟩:=h.2 hq;rw[e];rfl
end
end
section
variable{A:List (List Int)}{i j:Nat}
structure Ci(w:Wk)(A:List (List Int)):Prop where
 nd:A.Nodup
 lt:∀k∈A,∃i j:Nat,i<j/\j<w.many/\k=[(i:Int),(j:Int)]
def K7(n:Nat):List (List Int):=(fT n).map λp=>[(p.1:Int),(p.2:Int)]
theorem Ci.len{w:Wk}(hv:Wk.V w)(I:Ci w A):A.length<=64:=by
 have hm:=hv.m2;have h1:=KL I.nd (λk hk=>by obtain⟨i,j,h1,h2,rfl⟩:=I.lt k hk;exact Ak.mpr ⟨(i,j),LQ.mpr ⟨by omega,h2⟩,rfl⟩:∀k∈A,k∈K7 w.many);have h2:(K7 w.many).length<=64:=by
  unfold K7;rw[Ae];have key:∀l:List Nat,(l.flatMap λi=>(Ab w.many).map λj=>(i,j)).length=l.length*w.many:=by
   intro l
   induction l with
   |nil=>simp
   |cons x l ih=>rw[List.flatMap_cons,AH,ih,Ae,AB,AL,Nat.succ_mul,HH]
  unfold fT;rw[key,AB];exact Ip hm hm
 omega
theorem Ci.add{w:Wk}(I:Ci w A)(h1:i<j)(h2:j<w.many):Ci w (Co A [(i:Int),(j:Int)]) :=
 ⟨To I.nd,λk hk=>by
  rcases Jt.mp hk with h|h
  .exact I.lt k h
  .exact⟨i,j,h1,h2,h⟩⟩
def d7(i j:Nat):List Int:=dD (i:Int) (j:Int)
theorem R7(h:i<j):d7 i j=[(i:Int),(j:Int)]:=by unfold d7 dD;rw[if_neg (by omega),if_pos (by omega)]
theorem Uo(s t:Int):dD s t=dD t s:=by
 unfold dD
 by_cases h:t<s
 .rw[if_pos h,if_neg (by omega),if_neg (by omega),if_pos (by omega)]
 .by_cases h2:s<t
  .rw[if_neg h,if_pos (by omega),if_pos h2,if_neg (by omega)]
  .obtain rfl:s=t:=by omega
   rfl
theorem Jz(i j:Nat):d7 i j=d7 j i:=Uo _ _
section
variable{w:Wk}(hv:Wk.V w)
include hv
theorem Po(I:Ci w A)(e0 e5 e6 e7 e8 e9:Option B)(i j:Nat):IZ 2 (ZM (O (S 3) (O (S 4) Ze))) (eC (.bool true)) [e0,some (.pl w.d),some (.ot (Zo A)),some (.pl (.int (i:Int))),some (.pl (.int (j:Int))),e5,e6,e7,e8,e9]=some (.nx [e0,some (.pl w.d),some (.ot (Zo (Co A [(i:Int),(j:Int)]))),some (.pl (.int (i:Int))),some (.pl (.int (j:Int))),e5,e6,e7,e8,e9]):=by
 have hl:=I.len hv;have bK:(Zo A).length<1000000:=by unfold Zo;rw[Ae];omega
 have hk:GU (bF [(i:Int),(j:Int)])=some (Bm [(i:Int),(j:Int)]):=PV _;have hE:ZM (O (S 3) (O (S 4) Ze)) [e0,some (.pl w.d),some (.ot (Zo A)),some (.pl (.int (i:Int))),some (.pl (.int (j:Int))),e5,e6,e7,e8,e9]=some (bF [(i:Int),(j:Int)]):=rfl;rw[<-U6];generalize ZM (O (S 3) (O (S 4) Ze))=X at hE ⊢;generalize Zo A=oG at bK hE ⊢;simp[hE,hk,bK]
theorem N6(e0 e2 o4 e5 e6 e7 e8 e9:Option B)(hi:i<w.many):FH (bH Z6 (S 3) (eC (.int 1))) (bJ (Zf 1) (eC (.int 0))) [e0,some (.pl w.d),e2,some (.pl (.int (i:Int))),o4,e5,e6,e7,e8,e9]=some (((Ab (w.many-(i+1))).map λk=>i+1+k).map dN):=by have hm:=hv.m2;have h1:bH Z6 (S 3) (eC (.int 1)) [e0,some (.pl w.d),e2,some (.pl (.int (i:Int))),o4,e5,e6,e7,e8,e9]=some (.int ((i+1:Nat):Int)):=rfl;have h2:bJ (Zf 1) (eC (.int 0)) [e0,some (.pl w.d),e2,some (.pl (.int (i:Int))),o4,e5,e6,e7,e8,e9]=some (.int (w.many:Int)):=rfl;have mU:dE ((i+1:Nat):Int)=true:=Cy (by omega);have mT:dE (w.many:Int)=true:=Cy (by omega);unfold FH;rw[h1,h2];dsimp only;rw[mU,mT,if_pos (by rfl),show((w.many:Int)-((i+1:Nat):Int)).toNat=w.many-(i+1) by omega,AG];unfold Eb;congr 1
theorem IJ(r:HM.Env)(h:r[1]?=some (some (.pl w.d))):ZH (bJ (Zf 1) (eC (.int 0))) r=some ((Ab w.many).map dN):=by
 have hm:=hv.m2;have hok:dE (w.many:Int)=true:=Cy (by omega);have hx:bJ (Zf 1) (eC (.int 0)) r=some (.int (w.many:Int)):=by unfold bJ Zf;rw[h];rfl
 generalize bJ (Zf 1) (eC (.int 0))=X at hx ⊢;simp[hx,hok,ZS]
def iF(w:Wk)(i:Nat):List Nat:=(Ab (w.many-(i+1))).map λk=>i+1+k
omit hv in
theorem FD:j∈iF w i↔i<j/\j<w.many:=by
 unfold iF;rw[Ak]
 constructor
 .rintro ⟨k,hk,rfl⟩
  have:=Am.mp hk;omega
 .rintro ⟨h1,h2⟩
  exact⟨j-(i+1),Am.mpr (by omega),by omega⟩
theorem V8(e0 e5 e6 e7 e8 e9:Option B)(hi:i<w.many)(hj:j<w.many):gB (tV (bH dq (Cq (S 3) (bW (bJ (Zf 1) (eC (.int 4))))) (Cq (S 4) (bW (bJ (Zf 1) (eC (.int 4))))))) (Fu (Zw (ZW (bW (bJ (Zf 1) (eC (.int 2))))) (tV (bH dq (bJ (Zf 0) (S 4)) (bJ (Zf 0) (S 5)))) (S 0))) [e0,some (.pl w.d),some (.ot (Zo A)),some (.pl (.int (i:Int))),some (.pl (.int (j:Int))),e5,e6,e7,e8,e9]=some (!decide (fm w i=fm w j)):=by
 have l2:=hv.l2;generalize hE:([e0,some (.pl w.d),some (.ot (Zo A)),some (.pl (.int (i:Int))),some (.pl (.int (j:Int))),e5,e6,e7,e8,e9]:HM.Env)=E;have ma:bJ (Zf 1) (eC (.int 4)) E=some (bF w.goal):=by rw[<-hE];rfl
 have fY:∀(n:Nat) (k:Nat),E[n]?=some (some (.pl (.int (k:Int))))->Cq (S n) (bW (bJ (Zf 1) (eC (.int 4)))) E=some (.bool (w.goal.contains (k:Int))):=λn k h=>by generalize bJ (Zf 1) (eC (.int 4))=X at ma ⊢;simp[h,ma,GD,CL,-GB]
 have t1:=DC (g:=dq) (fY 3 i (by rw[<-hE];rfl)) (fY 4 j (by rw[<-hE];rfl)) (Ql _ _);have fK:∀a b:Int,dq (.int a) (.int b)=some (.bool (!decide (a=b))):=λa b=>by unfold dq;rw[DG (Jf 1 a) (by decide),DG (Jf 1 b) (by decide),if_pos (by rfl)];rfl
 have hg:Bn (tV (bH dq (bJ (Zf 0) (S 4)) (bJ (Zf 0) (S 5)))) (S 0) E (w.looks.map bF)=some ((w.looks.filter λl=>!decide (cH l i=cH l j)).map bF):=by
  rw[EJ bF (λl=>!decide (cH l i=cH l j)) bF]
  .intro l hl
   rw[<-hE];exact DC (G5 (hv.ll l hl) hi) (G5 (hv.ll l hl) hj) (fK _ _)
  .intro l _ _
   rfl
 have hf:Zw (ZW (bW (bJ (Zf 1) (eC (.int 2))))) (tV (bH dq (bJ (Zf 0) (S 4)) (bJ (Zf 0) (S 5)))) (S 0) E=some (.ol ((w.looks.filter λl=>!decide (cH l i=cH l j)).map bF)):=by
  have hI:ZW (bW (bJ (Zf 1) (eC (.int 2)))) E=some (w.looks.map bF):=by rw[<-hE];rfl
  unfold Zw;rw[hI];dsimp only;rw[if_pos (by rw[Ae];unfold big;omega),hg];rfl
 have t2:Fu (Zw (ZW (bW (bJ (Zf 1) (eC (.int 2))))) (tV (bH dq (bJ (Zf 0) (S 4)) (bJ (Zf 0) (S 5)))) (S 0)) E=some (w.looks.any λl=>!decide (cH l i=cH l j)):=by unfold Fu;rw[hf];show some (!((w.looks.filter λl=>!decide (cH l i=cH l j)).map bF).isEmpty)=_;congr 1;rw[CN];simp
 have lh:(w.looks.any λl=>!decide (cH l i=cH l j))=!decide ((w.looks.map λl=>cH l i)=w.looks.map λl=>cH l j):=by
  rw[CN,HU];simp only[Bool.not_eq_true',decide_eq_false_iff_not]
  constructor
  .rintro ⟨l,hl,h⟩ e
   exact h (KD.mp e l hl)
  .intro h
   apply Et;intro z;exact h (KD.mpr λl hl=>Et λq=>z ⟨l,hl,q⟩)
 have eN:(!decide (fm w i=fm w j))=((w.goal.contains (i:Int) != w.goal.contains (j:Int))||(w.looks.any λl=>!decide (cH l i=cH l j))):=by
  rw[lh];unfold fm
  by_cases h1:w.goal.contains (i:Int)=w.goal.contains (j:Int)
  .rw[h1,bne_self_eq_false,Fi]
   congr 1;rw[CN,decide_eq_true_iff,decide_eq_true_iff];exact⟨λe=>congrArg (·.2) e,λe=>by rw[e]⟩
  .rw[decide_eq_false (λe=>h1 (congrArg (·.1) e)),bne_iff_ne.mpr h1]
   rfl
 rw[eN];unfold gB;rw[t1];cases w.goal.contains (i:Int) != w.goal.contains (j:Int)
 .exact t2
 .rfl
theorem Ul(e0 e5 e6 e7 e8 e9:Option B)(I:Ci w A)(hi:i<w.many)(o4:Option B):∃A' p4,FF [e0,some (.pl w.d),some (.ot (Zo A)),some (.pl (.int (i:Int))),o4,e5,e6,e7,e8,e9]=some (.nx [e0,some (.pl w.d),some (.ot (Zo A')),some (.pl (.int (i:Int))),p4,e5,e6,e7,e8,e9])/\Ci w A'/\∀k,k∈A'↔k∈A\/∃j,i<j/\j<w.many/\k=[(i:Int),(j:Int)]/\fm w i≠fm w j:=by
 have hm:=hv.m2;have h:=Cz (i:=4) (body:=Jo) dN (iF w i) (λpre r=>∃A' p4,r=[e0,some (.pl w.d),some (.ot (Zo A')),some (.pl (.int (i:Int))),p4,e5,e6,e7,e8,e9]/\Ci w A'/\∀k,k∈A'↔k∈A\/∃j∈pre,k=[(i:Int),(j:Int)]/\fm w i≠fm w j) (λpre x post r e hr=>by
  obtain⟨A',p4,rfl,I',hk⟩:=hr;have hx:x∈iF w i:=by rw[e];exact AX _ (An ..)
  obtain⟨x1,x2⟩:=FD.mp hx;have ht:=V8 hv (A:=A') e0 e5 e6 e7 e8 e9 hi x2
  by_cases hq:fm w i=fm w x
  .rw[decide_eq_true hq]at ht
   refine⟨[e0,some (.pl w.d),some (.ot (Zo A')),some (.pl (.int (i:Int))),some (.pl (.int (x:Int))),e5,e6,e7,e8,e9],?_,A',_,rfl,I',λk=>?_⟩
   .unfold Jo
    exact(D2 ht).trans rfl
   .rw[hk]
    constructor
    .rintro (h|⟨j,hj,h⟩)
     .exact .inl h
     .exact .inr ⟨j,Dv _ hj,h⟩
    .rintro (h|⟨j,hj,h,h2⟩)
     .exact .inl h
     .rcases AW.mp hj with hj|hj
      .exact .inr ⟨j,hj,h,h2⟩
      .rw[AA.mp hj]at h2
       exact absurd hq h2
  .rw[decide_eq_false hq]at ht
   refine⟨[e0,some (.pl w.d),some (.ot (Zo (Co A' [(i:Int),(x:Int)]))),some (.pl (.int (i:Int))),some (.pl (.int (x:Int))),e5,e6,e7,e8,e9],?_,_,_,rfl,I'.add x1 x2,λk=>?_⟩
   .unfold Jo
    exact(D3 ht).trans (Po hv I' e0 e5 e6 e7 e8 e9 i x)
   .rw[Jt,hk]
    constructor
    .rintro ((h|⟨j,hj,h⟩)|h)
     .exact .inl h
     .exact .inr ⟨j,Dv _ hj,h⟩
     .exact .inr ⟨x,AX _ (AA.mpr rfl),h,hq⟩
    .rintro (h|⟨j,hj,h,h2⟩)
     .exact .inl (.inl h)
     .rcases AW.mp hj with hj|hj
      .exact .inl (.inr ⟨j,hj,h,h2⟩)
      .rw[AA.mp hj]at h
       exact .inr h)
 obtain⟨r',e,A',p4,rfl,I',hk⟩:=h [e0,some (.pl w.d),some (.ot (Zo A)),some (.pl (.int (i:Int))),o4,e5,e6,e7,e8,e9] ⟨A,o4,rfl,I,λk=>by simp⟩;refine⟨A',p4,?_,I',λk=>?_⟩
 .unfold FF AU
  rw[N6 hv e0 _ o4 e5 e6 e7 e8 e9 hi];dsimp only;rw[if_pos (by rw[Ae,Ae,AB];unfold big;omega)];exact e
 .rw[hk]
  constructor
  .rintro (h|⟨j,hj,h⟩)
   .exact .inl h
   .exact .inr ⟨j,(FD.mp hj).1,(FD.mp hj).2,h⟩
  .rintro (h|⟨j,h1,h2,h⟩)
   .exact .inl h
   .exact .inr ⟨j,FD.mpr ⟨h1,h2⟩,h⟩
theorem TY(e0 e5 e6 e7 e8 e9:Option B):∃A p3 p4,AU 3 (ZH (bJ (Zf 1) (eC (.int 0)))) FF [e0,some (.pl w.d),some (.ot (Zo [])),none,none,e5,e6,e7,e8,e9]=some (.nx [e0,some (.pl w.d),some (.ot (Zo A)),p3,p4,e5,e6,e7,e8,e9])/\Ci w A/\∀k,k∈A↔∃i j:Nat,i<j/\j<w.many/\k=[(i:Int),(j:Int)]/\fm w i≠fm w j:=by
 have hm:=hv.m2;have h:=Cz (i:=3) (body:=FF) dN (Ab w.many) (λpre r=>∃A p3 p4,r=[e0,some (.pl w.d),some (.ot (Zo A)),p3,p4,e5,e6,e7,e8,e9]/\Ci w A/\∀k,k∈A↔∃i∈pre,∃j:Nat,i<j/\j<w.many/\k=[(i:Int),(j:Int)]/\fm w i≠fm w j) (λpre x post r e hr=>by
  obtain⟨A,p3,p4,rfl,I,hk⟩:=hr;have hx:x∈Ab w.many:=by rw[e];exact AX _ (An ..)
  obtain⟨A',q4,eb,I',hk'⟩:=Ul hv e0 e5 e6 e7 e8 e9 I (Am.mp hx) p4;refine⟨_,eb,A',_,_,rfl,I',λk=>?_⟩;rw[hk',hk]
  constructor
  .rintro (⟨i,hi,h⟩|h)
   .exact⟨i,Dv _ hi,h⟩
   .exact⟨x,AX _ (AA.mpr rfl),h⟩
  .rintro ⟨i,hi,h⟩
   rcases AW.mp hi with hi|hi
   .exact .inl ⟨i,hi,h⟩
   .rw[AA.mp hi]at h
    exact .inr h)
 obtain⟨r',e,A,p3,p4,rfl,I,hk⟩:=h [e0,some (.pl w.d),some (.ot (Zo [])),none,none,e5,e6,e7,e8,e9] ⟨[],none,none,rfl,⟨CY,λk hk=>by simp at hk⟩,λk=>by simp⟩;refine⟨A,p3,p4,?_,I,λk=>?_⟩
 .unfold AU
  rw[IJ hv _ rfl];dsimp only;rw[if_pos (by rw[Ae,AB];unfold big;omega)];exact e
 .rw[hk]
  constructor
  .rintro ⟨i,_,j,h⟩
   exact⟨i,j,h⟩
  .rintro ⟨i,j,h1,h2,h⟩
   exact⟨i,Am.mpr (by omega),j,h1,h2,h⟩
end
end
section
variable{A:List (List Int)}{i j:Nat}
structure BL(w:Wk)(kd:List Int)(A:List (List Int)):Prop where
 p:Ci w A
 base:∀i j:Nat,i<j->j<w.many->fm w i≠fm w j->[(i:Int),(j:Int)]∈A
 snd:∀i j:Nat,i<j->[(i:Int),(j:Int)]∈A->ka kd i≠ka kd j
section
variable{w:Wk}{kd:List Int}{A:List (List Int)}
theorem BL.no(oH:BL w kd A){s t:Int}(hs:0<=s)(ht:0<=t)(h:ka kd s.toNat=ka kd t.toNat):dD s t∉A:=λz=>by
 obtain⟨i,j,h1,h2,e⟩:=oH.p.lt _ z;have cv:=oH.snd i j h1 (e▸z);unfold dD at e;injection e with e1 e2
 injection e2 with e2 _
 by_cases q:t<s
 .rw[if_pos q]at e1
  rw[if_neg (by omega)]at e2;have:t.toNat=i:=by omega
  have:s.toNat=j:=by omega
  subst_vars
  exact cv h.symm
 .rw[if_neg q]at e1
  by_cases q2:t > s
  .rw[if_pos q2]at e2
   have:s.toNat=i:=by omega
   have:t.toNat=j:=by omega
   subst_vars
   exact cv h
  .rw[if_neg q2]at e2
   omega
theorem PZ(oH:BL w kd A){x y:List Int}(hx:∀s∈x,0<=s)(hy:∀s∈y,0<=s)(h:Be kd x=Be kd y):eY A x y=false:=by
 unfold eY;rw[KC];intro s hs dS;have hm:ka kd s.toNat∈Be kd y:=by rw[<-h];exact FE.mpr ⟨s,hs,rfl⟩
 obtain⟨t,ht,e⟩:=FE.mp hm;have:=BW.mp dS t ht;exact oH.no (hx s hs) (hy t ht) e.symm (by simpa using this)
theorem VG(hv:Wk.V w)(oH:BL w kd A)(h:nm w kd i=nm w kd j):d9 w A i j=false:=by
 unfold d9;rw[KC];intro dd hd;have hk:Be kd (bV dd i)=Be kd (bV dd j):=KD.mp (congrArg (·.2) h) dd hd;have h1:=(Cm hv hd i).2;have h2:=(Cm hv hd j).2;unfold ft;rw[PZ oH (λs hs=>(h1 s hs).1) (λs hs=>(h2 s hs).1) hk,PZ oH (λs hs=>(h2 s hs).1) (λs hs=>(h1 s hs).1) hk.symm,Ik,Ik];have he:(bV dd i=[])↔(bV dd j=[]):=by
  have key:∀x y:List Int,Be kd x=Be kd y->x=[]->y=[]:=λx y e hx=>by
   cases y with
   |nil=>rfl
   |cons t y =>
    have:ka kd t.toNat∈Be kd x:=by rw[e];exact FE.mpr ⟨t,An ..,rfl⟩
    obtain⟨s,hs,_⟩:=FE.mp this;rw[hx]at hs;simp at hs
  exact⟨key _ _ hk,key _ _ hk.symm⟩
 have:decide (bV dd i=[])=decide (bV dd j=[]):=decide_eq_decide.mpr he;rw[this];simp
theorem BL.add(hv:Wk.V w)(c9:ZB w.many (nm w kd)=kd)(oH:BL w kd A){i j:Nat}(h1:i<j)(h2:j<w.many)(h:d9 w A i j=true):BL w kd (Co A [(i:Int),(j:Int)]):=by
 refine⟨oH.p.add h1 h2,λa b ha hb hf=>Jt.mpr (.inl (oH.base a b ha hb hf)),λa b ha hm=>?_⟩;rcases Jt.mp hm with hm|hm
 .exact oH.snd a b ha hm
 .injection hm with e1 e2
  injection e2 with e2 _
  have:a=i:=by omega
  have:b=j:=by omega
  subst_vars
  intro e;have ko:nm w kd a=nm w kd b:=by have:=(Ec (f:=nm w kd) (show a<w.many by omega) h2).mp;rw[c9]at this;exact this e
  rw[VG hv oH ko]at h;cases h
end
section
variable{w:Wk}(hv:Wk.V w){kd:List Int}(c9:ZB w.many (nm w kd)=kd)
include hv c9
theorem WC(oH:BL w kd A)(e0 e6 e7 e8 e9:Option B)(g:Bool)(h1:i<j)(h2:j<w.many):((!A.contains [(i:Int),(j:Int)]&&d9 w A i j)=true->G6 [e0,some (.pl w.d),some (.ot (Zo A)),some (.pl (.int (i:Int))),some (.pl (.int (j:Int))),some (.pl (.bool g)),e6,e7,e8,e9]=some (.nx [e0,some (.pl w.d),some (.ot (Zo (A++[[(i:Int),(j:Int)]]))),some (.pl (.int (i:Int))),some (.pl (.int (j:Int))),some (.pl (.bool true)),e6,e7,e8,e9])/\BL w kd (A++[[(i:Int),(j:Int)]])) /\ ((!A.contains [(i:Int),(j:Int)]&&d9 w A i j)=false->G6 [e0,some (.pl w.d),some (.ot (Zo A)),some (.pl (.int (i:Int))),some (.pl (.int (j:Int))),some (.pl (.bool g)),e6,e7,e8,e9]=some (.nx [e0,some (.pl w.d),some (.ot (Zo A)),some (.pl (.int (i:Int))),some (.pl (.int (j:Int))),some (.pl (.bool g)),e6,e7,e8,e9])):=by
 have hd:=Vo hv A (i:=i) (j:=j) (by omega) h2;generalize hE:([e0,some (.pl w.d),some (.ot (Zo A)),some (.pl (.int (i:Int))),some (.pl (.int (j:Int))),some (.pl (.bool g)),e6,e7,e8,e9]:HM.Env)=E;have t1:tV (Cw (ZM (O (S 3) (O (S 4) Ze))) (Zf 2)) E=some (!A.contains [(i:Int),(j:Int)]):=LO (k:=[(i:Int),(j:Int)]) E _ 2 (by rw[<-hE];rfl) (.inr (by rw[<-hE];rfl));have t2:tV (Jr Ed (O (S 1) (O (S 3) (O (S 4) (O (Jb (Zf 2)) Ze))))) E=some (d9 w A i j):=by
  have:Jr Ed (O (S 1) (O (S 3) (O (S 4) (O (Jb (Zf 2)) Ze)))) E=some (.bool (d9 w A i j)):=by rw[<-hE];show(match Ed [w.d,.int (i:Int),.int (j:Int),.dict (ZN (Zo A))]with|some d=>if O5 d then some d else none|none=>none)=_;rw[hd];rfl
  unfold tV;rw[this]
 have tt:D0 (tV (Cw (ZM (O (S 3) (O (S 4) Ze))) (Zf 2))) (tV (Jr Ed (O (S 1) (O (S 3) (O (S 4) (O (Jb (Zf 2)) Ze)))))) E=some (!A.contains [(i:Int),(j:Int)]&&d9 w A i j):=by
  unfold D0;rw[t1];cases A.contains [(i:Int),(j:Int)]
  .exact t2
  .rfl
 unfold G6
 constructor
 .intro h
  rw[h]at tt;obtain⟨q1,q2⟩:=Bool.and_eq_true_iff.mp h;have hn:[(i:Int),(j:Int)]∉A:=by simpa using q1
  have ha:Co A [(i:Int),(j:Int)]=A++[[(i:Int),(j:Int)]]:=by unfold Co;rw[if_neg hn]
  have S':=oH.add hv c9 h1 h2 q2;have hp:=Po hv oH.p e0 (some (.pl (.bool g))) e6 e7 e8 e9 i j;rw[ha]at S' hp;refine⟨?_,S'⟩;rw[D3 tt,<-hE];refine ZT (P:=λq=>q=_) hp rfl
 .intro h
  rw[h]at tt;rw[D2 tt,<-hE];rfl
def jb(w:Wk)(kd:List Int)(A A':List (List Int))(g:Bool)(Ok:Nat->Nat->Prop):Prop:=BL w kd A'/\((g=true/\A.length<A'.length)\/(g=false/\A'=A/\∀i j,Ok i j->[(i:Int),(j:Int)]∈A\/d9 w A i j=false))
theorem U9(e0 e6 e7 e8 e9:Option B){A1:List (List Int)}{g1:Bool}{Ok:Nat->Nat->Prop}(hi:i<w.many)(P1:jb w kd A A1 g1 Ok)(o4:Option B):∃A2 g2 p4,Jp [e0,some (.pl w.d),some (.ot (Zo A1)),some (.pl (.int (i:Int))),o4,some (.pl (.bool g1)),e6,e7,e8,e9]=some (.nx [e0,some (.pl w.d),some (.ot (Zo A2)),some (.pl (.int (i:Int))),p4,some (.pl (.bool g2)),e6,e7,e8,e9])/\jb w kd A A2 g2 (λa b=>Ok a b\/(a=i/\i<b/\b<w.many)):=by
 have hm:=hv.m2;have h:=Cz (i:=4) (body:=G6) dN (iF w i) (λpre r=>∃A2 g2 p4,r=[e0,some (.pl w.d),some (.ot (Zo A2)),some (.pl (.int (i:Int))),p4,some (.pl (.bool g2)),e6,e7,e8,e9]/\jb w kd A A2 g2 (λa b=>Ok a b\/(a=i/\b∈pre))) (λpre x post r e hr=>by
  obtain⟨A2,g2,p4,rfl,S2,h2⟩:=hr;have hx:x∈iF w i:=by rw[e];exact AX _ (An ..)
  obtain⟨x1,x2⟩:=FD.mp hx;obtain⟨t1,t2⟩:=WC hv c9 S2 e0 e6 e7 e8 e9 g2 x1 x2;cases hq:(!A2.contains [(i:Int),(x:Int)]&&d9 w A2 i x)with
  |true =>
   obtain⟨eb,S'⟩:=t1 hq;refine⟨_,eb,_,true,_,rfl,S',.inl ⟨rfl,?_⟩⟩;rw[AH,Iq];rcases h2 with⟨_,h⟩|⟨_,h,_⟩
   .omega
   .rw[h];omega
  |false =>
   refine⟨_,t2 hq,A2,g2,_,rfl,S2,?_⟩;rcases h2 with h|⟨h,rfl,hok⟩
   .exact .inl h
   .refine .inr ⟨h,rfl,λa b cS=>?_⟩
    rcases cS with cS|⟨rfl,hb⟩
    .exact hok a b (.inl cS)
    .rcases AW.mp hb with hb|hb
     .exact hok a b (.inr ⟨rfl,hb⟩)
     .rw[AA.mp hb]
      by_cases hc:[(a:Int),(x:Int)]∈A2
      .exact .inl hc
      .right
       have:A2.contains [(a:Int),(x:Int)]=false:=by simpa using hc
       rw[this]at hq;simpa using hq)
 obtain⟨S1,h1⟩:=P1;obtain⟨r',e,A2,g2,p4,rfl,S2,h2⟩:=h [e0,some (.pl w.d),some (.ot (Zo A1)),some (.pl (.int (i:Int))),o4,some (.pl (.bool g1)),e6,e7,e8,e9] ⟨A1,g1,o4,rfl,S1,h1.imp id λ⟨a,b,c⟩=>⟨a,b,λx y kg=>c x y (kg.resolve_right λz=>by simp at z)⟩⟩;refine⟨A2,g2,p4,?_,S2,h2.imp id λ⟨a,b,c⟩=>⟨a,b,λx y kg=>c x y (kg.imp id λ⟨q1,q2,q3⟩=>⟨q1,FD.mpr ⟨q2,q3⟩⟩)⟩⟩;unfold Jp AU;rw[N6 hv e0 _ o4 _ e6 e7 e8 e9 hi];dsimp only;rw[if_pos (by rw[Ae,Ae,AB];unfold big;omega)];exact e
theorem Tn(oH:BL w kd A)(e0 o3 o4 e6 e7 e8 e9:Option B):∃A2 g2 p3 p4,D5 [e0,some (.pl w.d),some (.ot (Zo A)),o3,o4,some (.pl (.bool true)),e6,e7,e8,e9]=some (.nx [e0,some (.pl w.d),some (.ot (Zo A2)),p3,p4,some (.pl (.bool g2)),e6,e7,e8,e9])/\jb w kd A A2 g2 (λa b=>a<b/\b<w.many):=by
 have hm:=hv.m2;have h:=Cz (i:=3) (body:=Jp) dN (Ab w.many) (λpre r=>∃A2 g2 p3 p4,r=[e0,some (.pl w.d),some (.ot (Zo A2)),p3,p4,some (.pl (.bool g2)),e6,e7,e8,e9]/\jb w kd A A2 g2 (λa b=>a∈pre/\a<b/\b<w.many)) (λpre x post r e hr=>by
  obtain⟨A2,g2,p3,p4,rfl,P⟩:=hr;have hx:x∈Ab w.many:=by rw[e];exact AX _ (An ..)
  obtain⟨A3,g3,q4,eb,S3,h3⟩:=U9 hv c9 (A:=A) e0 e6 e7 e8 e9 (Am.mp hx) P p4;refine⟨_,eb,A3,g3,_,_,rfl,S3,h3.imp id λ⟨a,b,c⟩=>⟨a,b,λy z ⟨hy,h1,h2⟩=>c y z ?_⟩⟩;rcases AW.mp hy with hy|hy
  .exact .inl ⟨hy,h1,h2⟩
  .have:=AA.mp hy
   subst this;exact .inr ⟨rfl,h1,h2⟩)
 obtain⟨r',e,A2,g2,p3,p4,rfl,S2,h2⟩:=h [e0,some (.pl w.d),some (.ot (Zo A)),o3,o4,some (.pl (.bool false)),e6,e7,e8,e9] ⟨A,false,o3,o4,rfl,oH,.inr ⟨rfl,rfl,λa b z=>by simp at z⟩⟩;refine⟨A2,g2,p3,p4,?_,S2,h2.imp id λ⟨a,b,c⟩=>⟨a,b,λx y ⟨q1,q2⟩=>c x y ⟨Am.mpr (by omega),q1,q2⟩⟩⟩;unfold D5;refine ZT (P:=λq=>q=_) (r':=[e0,some (.pl w.d),some (.ot (Zo A)),o3,o4,some (.pl (.bool false)),e6,e7,e8,e9]) rfl ?_;unfold AU;rw[IJ hv _ rfl];dsimp only;rw[if_pos (by rw[Ae,AB];unfold big;omega)];exact e
theorem QH(e0 e6 e7 e8 e9:Option B):∀(b0:Nat) (A:List (List Int)) (o3 o4:Option B),BL w kd A->66<=A.length+b0 ->∃A2 p3 p4 p5,Dm (tV (S 5)) D5 b0 [e0,some (.pl w.d),some (.ot (Zo A)),o3,o4,some (.pl (.bool true)),e6,e7,e8,e9]=some (.nx [e0,some (.pl w.d),some (.ot (Zo A2)),p3,p4,p5,e6,e7,e8,e9])/\BL w kd A2/\∀i j,i<j->j<w.many->[(i:Int),(j:Int)]∈A2\/d9 w A2 i j=false
 |0,A,o3,o4,oH,h=>by have:=oH.p.len hv;omega
 |b0+1,A,o3,o4,oH,h=>by
  have hl:=oH.p.len hv;obtain⟨A2,g2,p3,p4,e,S2,h2⟩:=Tn hv c9 oH e0 o3 o4 e6 e7 e8 e9;have hw:Dm (tV (S 5)) D5 (b0+1) [e0,some (.pl w.d),some (.ot (Zo A)),o3,o4,some (.pl (.bool true)),e6,e7,e8,e9]=Dm (tV (S 5)) D5 b0 [e0,some (.pl w.d),some (.ot (Zo A2)),p3,p4,some (.pl (.bool g2)),e6,e7,e8,e9]:=by rw[Dm];show(match D5 _ with|some (.nx r')=>_|some (.ct r')=>_|some (.bk r')=>_|some (.rt d)=>_|none=>_)=_;rw[e]
  rw[hw];rcases h2 with⟨rfl,bS⟩|⟨rfl,rfl,hok⟩
  .exact QH e0 e6 e7 e8 e9 b0 A2 p3 p4 S2 (by omega)
  .obtain⟨f',rfl⟩:∃f',b0=f'+1:=⟨b0-1,by omega⟩
   exact⟨A2,_,_,_,by rw[Dm];rfl,S2,λi j h1 h2=>hok i j ⟨h1,h2⟩⟩
omit c9 in
theorem Ww(I:Cb w kd)(oH:BL w kd A)(cL:∀i j,i<j->j<w.many->[(i:Int),(j:Int)]∈A\/d9 w A i j=false)(hi:i<w.many)(hj:j<w.many):d7 i j∉A↔ka kd j=ka kd i:=by
 have gU:∀t:Nat,d7 t t∉A:=λt=>oH.no (s:=(t:Int)) (t:=(t:Int)) (by omega) (by omega) rfl;have hB:mB w λa b=>d7 a b∉A:=by
  have key:∀a b:Nat,a<b->b<w.many->d7 a b∉A->fm w a=fm w b/\∀dd∈w.deeds,(∀t∈bV dd a,∃t'∈bV dd b,d7 t.toNat t'.toNat∉A)/\∀t'∈bV dd b,∃t∈bV dd a,d7 t.toNat t'.toNat∉A:=λa b cS hb hn=>by
   rw[R7 cS]at hn;have fZ:=(cL a b cS hb).resolve_left hn;refine⟨Et λz=>hn (oH.base a b cS hb z),λdd hd=>?_⟩;have ra:=(Cm hv hd a).2;have rb:=(Cm hv hd b).2;unfold d9 at fZ;have de:ft A a b dd=false:=by
    cases q:ft A a b dd with
    |false=>rfl
    |true=>rw[HU.mpr ⟨dd,hd,q⟩]at fZ;cases fZ
   unfold ft at de;rw[Bool.or_eq_false_iff,Bool.or_eq_false_iff]at de;obtain⟨_,o1,o2⟩:=de;have lR:∀x y:List Int,(∀s∈x,0<=s)->(∀s∈y,0<=s)->eY A x y=false->∀s∈x,∃t∈y,d7 s.toNat t.toNat∉A:=λx y hx hy ho s hs=>by unfold eY at ho;have h1:=KC.mp ho s hs;apply Et;intro z;refine h1 (BW.mpr λt ht=>?_);apply Et;intro q;refine z ⟨t,ht,λfY=>q ?_⟩;unfold d7 at fY;rw[Kx (hx s hs),Kx (hy t ht)]at fY;simpa using fY
   refine⟨lR _ _ (λs hs=>(ra s hs).1) (λs hs=>(rb s hs).1) o1,λt' ht'=>?_⟩;obtain⟨t,ht,h⟩:=lR _ _ (λs hs=>(rb s hs).1) (λs hs=>(ra s hs).1) o2 t' ht';exact⟨t,ht,by rw[Jz];exact h⟩
  intro a b ha hb hn;rcases Nat.lt_trichotomy a b with cS|cS|cS
  .exact key a b cS hb hn
  .subst cS
   exact⟨rfl,λdd hd=>⟨λt ht=>⟨t,ht,gU _⟩,λt ht=>⟨t,ht,gU _⟩⟩⟩
  .obtain⟨h1,h2⟩:=key b a cS ha (by rw[Jz];exact hn)
   refine⟨h1.symm,λdd hd=>⟨λt ht=>?_,λt' ht'=>?_⟩⟩
   .obtain⟨t',ht',h⟩:=(h2 dd hd).2 t ht
    exact⟨t',ht',λz=>h (by rw[Jz];exact z)⟩
   .obtain⟨t,ht,h⟩:=(h2 dd hd).1 t' ht'
    exact⟨t,ht,λz=>h (by rw[Jz];exact z)⟩
 constructor
 .intro h
  exact(I.bis _ hB i j hi hj h).symm
 .intro h
  exact oH.no (s:=(i:Int)) (t:=(j:Int)) (by omega) (by omega) h.symm
end
end
def BY(w:Wk)(kd:List Int)(i:Nat):D:=.list ((AD w.many (eK kd) i).map dN)
section
variable{w:Wk}(hv:Wk.V w){kd:List Int}{A:List (List Int)}(i7:∀i j,i<w.many->j<w.many->(d7 i j∉A↔ka kd j=ka kd i))
include hv i7
theorem Va(e0 e3 e4 e5 o8 e9:Option B){acc:List D}(ha:acc.length<1000){s:Nat}(hs:s<w.many):∃p8,FG [e0,some (.pl w.d),some (.ot (Zo A)),e3,e4,e5,some (.ol acc),some (.pl (.int (s:Int))),o8,e9]=some (.nx [e0,some (.pl w.d),some (.ot (Zo A)),e3,e4,e5,some (.ol (if(AD w.many (eK kd) s).head?=some s then acc++[BY w kd s]else acc)),some (.pl (.int (s:Int))),p8,e9]):=by
 have hm:=hv.m2;generalize hE:([e0,some (.pl w.d),some (.ot (Zo A)),e3,e4,e5,some (.ol acc),some (.pl (.int (s:Int))),o8,e9]:HM.Env)=E;have hg:Bn (tV (Cw (ZM (O (bH C6 (S 8) (S 0)) (O (bH C7 (S 8) (S 0)) Ze))) (Zf 3))) (S 0) E ((Ab w.many).map dN)=some ((AD w.many (eK kd) s).map dN):=by
  rw[EJ dN (eK kd s) dN]
  .rfl
  .intro t ht
   have hk:=LO (A:=A) (k:=d7 s t) (some (.pl (dN t))::E) (ZM (O (bH C6 (S 8) (S 0)) (O (bH C7 (S 8) (S 0)) Ze))) 3 (by rw[<-hE];rfl) (.inr (by rw[<-hE];rfl));rw[hk];congr 1;unfold eK;have:=i7 s t hs (Am.mp ht);rw[CN,decide_eq_true_iff,<-this];simp
  .intro t _ _
   rfl
 have hf:Zw (ZH (bJ (Zf 1) (eC (.int 0)))) (tV (Cw (ZM (O (bH C6 (S 8) (S 0)) (O (bH C7 (S 8) (S 0)) Ze))) (Zf 3))) (S 0) E=some (.ol ((AD w.many (eK kd) s).map dN)):=by unfold Zw;rw[IJ hv E (by rw[<-hE];rfl)];dsimp only;rw[if_pos (by rw[Ae,AB];unfold big;omega),hg];rfl
 have fY:s∈AD w.many (eK kd) s:=by unfold AD;exact Gs.mpr ⟨Am.mpr hs,by unfold eK;exact decide_eq_true rfl⟩
 obtain⟨h,t,ht⟩:∃h t,AD w.many (eK kd) s=h::t:=by
  cases q:AD w.many (eK kd) s with
  |nil=>rw[q]at fY;simp at fY
  |cons h t=>exact⟨h,t,rfl⟩
 have s1:Z7 8 (Zw (ZH (bJ (Zf 1) (eC (.int 0)))) (tV (Cw (ZM (O (bH C6 (S 8) (S 0)) (O (bH C7 (S 8) (S 0)) Ze))) (Zf 3))) (S 0)) E=some (.nx [e0,some (.pl w.d),some (.ot (Zo A)),e3,e4,e5,some (.ol acc),some (.pl (.int (s:Int))),some (.ol ((h::t).map dN)),e9]):=by unfold Z7;rw[hf,ht,<-hE];rfl
 have hx:bJ (Zf 8) (eC (.int 0)) [e0,some (.pl w.d),some (.ot (Zo A)),e3,e4,e5,some (.ol acc),some (.pl (.int (s:Int))),some (.ol ((h::t).map dN)),e9]=some (.int (h:Int)):=Dg (ds:=(h::t).map dN) (j:=0) rfl;have iq:=DC (g:=cA) (f:=S 7) hx rfl (LZ _ _);unfold FG
 by_cases hh:h=s
 .refine⟨some (.pl (BY w kd s)),?_⟩
  refine ZT (P:=λq=>q=_) s1 ?_;rw[decide_eq_true (by rw[hh])]at iq;rw[D3 iq,ht,if_pos (by rw[hh];rfl)];show Dp 6 (S 8) [e0,some (.pl w.d),some (.ot (Zo A)),e3,e4,e5,some (.ol acc),some (.pl (.int (s:Int))),some (.pl (.list ((h::t).map dN))),e9]=_;unfold BY;rw[ht];generalize HD ((h::t).map dN)=X;have:acc.length<1000000:=by omega
  simp[this]
 .refine⟨some (.ol ((h::t).map dN)),?_⟩
  refine ZT (P:=λq=>q=_) s1 ?_;rw[decide_eq_false (by omega)]at iq;rw[D2 iq,ht,if_neg (by intro z;have:h=s:=BH z;exact hh this)];rfl
theorem Sq(e0 e3 e4 e5 e9:Option B):∃p7 p8,AU 7 (ZH (bJ (Zf 1) (eC (.int 0)))) FG [e0,some (.pl w.d),some (.ot (Zo A)),e3,e4,e5,some (.ol []),none,none,e9]=some (.nx [e0,some (.pl w.d),some (.ot (Zo A)),e3,e4,e5,some (.ol ((Br w.many (eK kd)).map (BY w kd))),p7,p8,e9]):=by
 have hm:=hv.m2;have h:=Cz (i:=7) (body:=FG) dN (Ab w.many) (λpre r=>∃p7 p8,r=[e0,some (.pl w.d),some (.ot (Zo A)),e3,e4,e5,some (.ol ((pre.filter λi=>decide ((AD w.many (eK kd) i).head?=some i)).map (BY w kd))),p7,p8,e9]) (λpre x post r e hr=>by
  obtain⟨p7,p8,rfl⟩:=hr;have hx:x∈Ab w.many:=by rw[e];exact AX _ (An ..)
  have hl:pre.length<=w.many:=by have:=congrArg Bb e;rw[AB,AH]at this;omega
  have eS:=List.length_filter_le (λi=>decide ((AD w.many (eK kd) i).head?=some i)) pre;obtain⟨q8,eb⟩:=Va hv i7 e0 e3 e4 e5 p8 e9 (acc:=(pre.filter λi=>decide ((AD w.many (eK kd) i).head?=some i)).map (BY w kd)) (by rw[Ae];omega) (Am.mp hx);refine⟨_,eb,some (.pl (.int (x:Int))),q8,?_⟩
  suffices hs:(if(AD w.many (eK kd) x).head?=some x then(pre.filter λi=>decide ((AD w.many (eK kd) i).head?=some i)).map (BY w kd)++[BY w kd x]else(pre.filter λi=>decide ((AD w.many (eK kd) i).head?=some i)).map (BY w kd))=((pre++[x]).filter λi=>decide ((AD w.many (eK kd) i).head?=some i)).map (BY w kd) by rw[hs]
  rw[List.filter_append,Bj]
  by_cases hq:(AD w.many (eK kd) x).head?=some x
  .rw[if_pos hq]
   simp[hq]
  .rw[if_neg hq]
   simp[hq])
 obtain⟨r',e,p7,p8,rfl⟩:=h [e0,some (.pl w.d),some (.ot (Zo A)),e3,e4,e5,some (.ol []),none,none,e9] ⟨none,none,rfl⟩;refine⟨p7,p8,?_⟩;unfold AU;rw[IJ hv _ rfl];dsimp only;rw[if_pos (by rw[Ae,AB];unfold big;omega)];exact e
end
theorem PD{w:Wk}(hv:Wk.V w)(e0:Option B):Av ((Zs (Z7 2 jR)
  (Zs (AU 3 (ZH (bJ (Zf 1) (eC (.int 0)))) FF)
  (Zs (Z5 5 (eC (.bool true)))
  (Zs (LC 100000 (tV (S 5)) D5)
  (Zs (Z7 6 (Bd Ze))
  (Zs (AU 7 (ZH (bJ (Zf 1) (eC (.int 0)))) FG)
  (Zs (Z5 9 (Zj FW (O (S 1) Ze)))
  (GP 6 (ZO (C4 (FP (S 9) .list) (bH cA (S 9) (S 6)))))))))))) [e0,some (.pl w.d),none,none,none,none,none,none,none,none])=some (.bool true):=by
 obtain⟨kd,hk,I,c9⟩:=Xw hv;have eU:=VQ hv I hk;obtain⟨A0,p3,p4,eb,IP,mj⟩:=TY hv e0 none none none none none;have S0:BL w kd A0:=⟨IP,λi j h1 h2 h3=>(mj _).mpr ⟨i,j,h1,h2,rfl,h3⟩,λi j h1 hm e=>by
  obtain⟨a,b,h2,h3,e2,h4⟩:=(mj _).mp hm;injection e2 with e3 e4
  injection e4 with e4 _
  obtain rfl:i=a:=by omega
  obtain rfl:j=b:=by omega
  exact h4 (I.fmr i j (by omega) h3 e)⟩
 obtain⟨A,q3,q4,q5,ew,oH,cL⟩:=QH hv c9 e0 none none none none 100000 A0 p3 p4 S0 (by omega);have i7:∀i j,i<w.many->j<w.many->(d7 i j∉A↔ka kd j=ka kd i):=λi j hi hj=>Ww hv I oH cL hi hj;obtain⟨p7,p8,ed⟩:=Sq hv i7 e0 q3 q4 q5 none;refine ZT (P:=λq=>Av q=_) (r':=[e0,some (.pl w.d),some (.ot (Zo [])),none,none,none,none,none,none,none]) rfl ?_;refine ZT (P:=λq=>Av q=_) eb ?_;refine ZT (P:=λq=>Av q=_) (r':=[e0,some (.pl w.d),some (.ot (Zo A0)),p3,p4,some (.pl (.bool true)),none,none,none,none]) rfl ?_;refine ZT (P:=λq=>Av q=_) ew ?_;refine ZT (P:=λq=>Av q=_) (r':=[e0,some (.pl w.d),some (.ot (Zo A)),q3,q4,q5,some (.ol []),none,none,none]) rfl ?_;refine ZT (P:=λq=>Av q=_) ed ?_;have jn:HD ((Br w.many (eK kd)).map λi=>.list ((AD w.many (eK kd) i).map dN))=.list ((Br w.many (eK kd)).map (BY w kd)):=rfl;rw[jn]at eU;generalize hX:(Br w.many (eK kd)).map (BY w kd)=X at eU ⊢;have kq:cK 2 (.list X)=true:=Tz λd hd=>by
  rw[<-hX]at hd;obtain⟨i,_,rfl⟩:=Ak.mp hd;have:BY w kd i=.list (((AD w.many (eK kd) i).map λ(n:Nat)=>(n:Int)).map dI):=by unfold BY;rw[AG];rfl
  rw[this];exact FL 0 _
 refine ZT (P:=λq=>Av q=_) (r':=[e0,some (.pl w.d),some (.ot (Zo A)),q3,q4,q5,some (.ol X),p7,p8,some (.pl (.list X))]) ?_ ?_
 .have:Zj FW (O (S 1) Ze) [e0,some (.pl w.d),some (.ot (Zo A)),q3,q4,q5,some (.ol X),p7,p8,none]=some (.list X):=eU
  unfold Z5;rw[this];rfl
 .show Av (ZO _ [e0,some (.pl w.d),some (.ot (Zo A)),q3,q4,q5,some (.pl (.list X)),p7,p8,some (.pl (.list X))])=_
  refine D9 ?_;have h1:bH cA (S 9) (S 6) [e0,some (.pl w.d),some (.ot (Zo A)),q3,q4,q5,some (.pl (.list X)),p7,p8,some (.pl (.list X))]=some (.bool true):=by show cA (.list X) (.list X)=_;have h:=(OZ 2 (.list X) (.list X) kq ⟨2,kq⟩).mpr rfl;unfold cA;rw[DG kq (by decide),if_pos (by rfl),h]
  unfold C4;exact h1
section
variable{dd:List (List Int)}{acc:List D}{c:List Int}{n:Nat}
def olV(w:Wk)(c:Int):Nat:=(c%(w.many:Int)).toNat
def jT(w:Wk)(c:Int)(dd:List (List Int))(s:Nat):Bool:=(bV dd s).contains (olV w c:Int)&&decide (0<ZF (c+13*(s:Int)) 9803 3)
def dJ(w:Wk)(c:Int)(dd:List (List Int))(s:Nat):List Int:=if jT w c dd s then bV dd s++[(w.many:Int)]else bV dd s
def dG(w:Wk)(c:Int)(dd:List (List Int)):List (List Int):=(Ab w.many).map (dJ w c dd)++[dJ w c dd (olV w c)]
def du(w:Wk)(c:Int):Wk where
 many:=w.many+1
 deeds:=w.deeds.map (dG w c)
 looks:=w.looks.map λl=>l++[cH l (olV w c)]
 beg:=w.beg++(Al (c%2).toNat [(w.many:Int)]).flatten
 goal:=if w.goal.contains (olV w c:Int)then w.goal++[(w.many:Int)]else w.goal
theorem LJ(h:Cr n c):Cr (n+1) (c++[(n:Int)]):=by
 refine⟨List.pairwise_append.mpr ⟨h.1,by simp,λa ha b hb=>?_⟩,λx hx=>?_⟩
 .rw[AA.mp hb]
  exact(h.2 a ha).2
 .rcases AW.mp hx with hx|hx
  .have:=h.2 x hx
   omega
  .rw[AA.mp hx]
   omega
theorem Le(h:Cr n c):Cr (n+1) c:=⟨h.1,λx hx=>by have:=h.2 x hx;omega⟩
section
variable{w:Wk}(hv:Wk.V w)(h7:w.many<=7)(c:Int)
include hv
theorem Lg:olV w c<w.many:=by have:=hv.m1;have h1:=J8 c (show(w.many:Int)≠0 by omega);have h2:=Int.emod_lt_of_pos c (show(0:Int)<w.many by omega);unfold olV;omega
theorem Ru:c%(w.many:Int)=((olV w c:Nat):Int):=by have:=hv.m1;have h1:=J8 c (show(w.many:Int)≠0 by omega);unfold olV;omega
theorem Oz(hd:dd∈w.deeds)(s:Nat):Cr (w.many+1) (dJ w c dd s):=by
 unfold dJ;split
 .exact LJ (Cm hv hd s)
 .exact Le (Cm hv hd s)
include h7
theorem RL:Wk.V (du w c):=by
 have gK:=Lg hv c;refine⟨by show 1<=w.many+1;omega,by show w.many+1<=8;omega,by show 1<=(w.deeds.map _).length;rw[Ae];exact hv.d1,by show(w.deeds.map _).length<=5;rw[Ae];exact hv.d2,λdd hd=>?_,λdd hd c' hc=>?_,by show(w.looks.map _).length<=4;rw[Ae];exact hv.l2,λl hl=>?_,λl hl x hx=>?_,?_,?_,?_⟩
 .obtain⟨d0,_,rfl⟩:=Ak.mp hd
  unfold dG;rw[AH,Ae,AB];rfl
 .obtain⟨d0,md,rfl⟩:=Ak.mp hd
  unfold dG at hc;rcases AW.mp hc with hc|hc
  .obtain⟨s,_,rfl⟩:=Ak.mp hc
   exact Oz hv c md s
  .rw[AA.mp hc]
   exact Oz hv c md _
 .obtain⟨l0,iW,rfl⟩:=Ak.mp hl
  rw[AH,hv.ll l0 iW];rfl
 .obtain⟨l0,iW,rfl⟩:=Ak.mp hl
  rcases AW.mp hx with hx|hx
  .exact hv.lc l0 iW x hx
  .rw[AA.mp hx]
   unfold cH;rw[AV (by rw[hv.ll l0 iW];exact gK)];exact hv.lc l0 iW _ (Dr _)
 .intro z
  exact hv.b1 (List.append_eq_nil_iff.mp z).1
 .show Cr (w.many+1) (w.beg++_)
  have h2:c%2=0\/c%2=1:=by omega
  rcases h2 with h2|h2
  .rw[h2]
   show Cr (w.many+1) (w.beg++[]);rw[CB];exact Le hv.bc
  .rw[h2]
   exact LJ hv.bc
 .show Cr (w.many+1) (if _ then _ else _)
  split
  .exact LJ hv.gc
  .exact Le hv.gc
theorem Ti(e0 e3 e4 e5 e6 e8 fM dn:Option B)(hd:dd∈w.deeds)(ha:acc.length<1000){s:Nat}(hs:s<w.many):∃c6,J4 [e0,some (.pl (.int c)),some (.pl (.int (w.many:Int))),e3,e4,e5,e6,some (.pl (.int (olV w c:Int))),e8,some (.pl (Zl dd)),some (.ol acc),some (.pl (.int (s:Int))),fM,dn]=some (.nx [e0,some (.pl (.int c)),some (.pl (.int (w.many:Int))),e3,e4,e5,e6,some (.pl (.int (olV w c:Int))),e8,some (.pl (Zl dd)),some (.ol (acc++[bF (dJ w c dd s)])),some (.pl (.int (s:Int))),c6,dn]):=by
 have hm:=hv.m2;have hr:=(Cm hv hd s).len;have hx:bJ (Zf 9) (S 11) [e0,some (.pl (.int c)),some (.pl (.int (w.many:Int))),e3,e4,e5,e6,some (.pl (.int (olV w c:Int))),e8,some (.pl (Zl dd)),some (.ol acc),some (.pl (.int (s:Int))),fM,dn]=some (bF (bV dd s)):=Jk (hv.dl dd hd) hs;have s1:Z7 12 (Hl (bW (bJ (Zf 9) (S 11)))) [e0,some (.pl (.int c)),some (.pl (.int (w.many:Int))),e3,e4,e5,e6,some (.pl (.int (olV w c:Int))),e8,some (.pl (Zl dd)),some (.ol acc),some (.pl (.int (s:Int))),fM,dn]=some (.nx [e0,some (.pl (.int c)),some (.pl (.int (w.many:Int))),e3,e4,e5,e6,some (.pl (.int (olV w c:Int))),e8,some (.pl (Zl dd)),some (.ol acc),some (.pl (.int (s:Int))),some (.ol ((bV dd s).map dI)),dn]):=by
  have:Hl (bW (bJ (Zf 9) (S 11))) [e0,some (.pl (.int c)),some (.pl (.int (w.many:Int))),e3,e4,e5,e6,some (.pl (.int (olV w c:Int))),e8,some (.pl (Zl dd)),some (.ol acc),some (.pl (.int (s:Int))),fM,dn]=some (.ol ((bV dd s).map dI)):=by unfold Hl bW;rw[hx];rfl
  unfold Z7;rw[this];rfl
 have lg:=B1 (c+13*(s:Int)) 9803 3 (by decide) (by decide);have t1:tV (Cq (S 7) (Zf 12)) [e0,some (.pl (.int c)),some (.pl (.int (w.many:Int))),e3,e4,e5,e6,some (.pl (.int (olV w c:Int))),e8,some (.pl (Zl dd)),some (.ol acc),some (.pl (.int (s:Int))),some (.ol ((bV dd s).map dI)),dn]=some ((bV dd s).contains (olV w c:Int)):=by simp[GD,CL,-GB]
 have t2:tV (bH i9 (Zj Zy (O (bH Z6 (S 1) (bH Bf (eC (.int 13)) (S 11))) (O (eC (.int 9803)) (O (eC (.int 3)) Ze)))) (eC (.int 0))) [e0,some (.pl (.int c)),some (.pl (.int (w.many:Int))),e3,e4,e5,e6,some (.pl (.int (olV w c:Int))),e8,some (.pl (Zl dd)),some (.ol acc),some (.pl (.int (s:Int))),some (.ol ((bV dd s).map dI)),dn]=some (decide (0<ZF (c+13*(s:Int)) 9803 3)):=by have kW:ZG 13=true:=rfl;refine DC (cG (ds:=[.int (c+13*(s:Int)),.int 9803,.int 3]) ?_ lg) rfl rfl;simp[kW]
 have tt:D0 (tV (Cq (S 7) (Zf 12))) (tV (bH i9 (Zj Zy (O (bH Z6 (S 1) (bH Bf (eC (.int 13)) (S 11))) (O (eC (.int 9803)) (O (eC (.int 3)) Ze)))) (eC (.int 0)))) [e0,some (.pl (.int c)),some (.pl (.int (w.many:Int))),e3,e4,e5,e6,some (.pl (.int (olV w c:Int))),e8,some (.pl (Zl dd)),some (.ol acc),some (.pl (.int (s:Int))),some (.ol ((bV dd s).map dI)),dn]=some (jT w c dd s):=by
  unfold D0 jT;rw[t1];cases(bV dd s).contains (olV w c:Int)
  .rfl
  .exact t2
 have eU:acc.length<1000000:=by omega
 unfold J4 dJ;cases hc:jT w c dd s with
 |true =>
  rw[hc]at tt;refine⟨some (.ol (((bV dd s)++[(w.many:Int)]).map dI)),?_⟩;refine ZT (P:=λq=>q=_) s1 ?_;refine ZT (P:=λq=>q=_) (r':=[e0,some (.pl (.int c)),some (.pl (.int (w.many:Int))),e3,e4,e5,e6,some (.pl (.int (olV w c:Int))),e8,some (.pl (Zl dd)),some (.ol acc),some (.pl (.int (s:Int))),some (.ol (((bV dd s)++[(w.many:Int)]).map dI)),dn]) ?_ ?_
  .rw[D3 tt]
   have:(bV dd s).length<1000000:=by omega
   simp[this]
  .rw[if_pos rfl]
   generalize ((bV dd s)++[(w.many:Int)])=z;simp[eU]
 |false=>rw[hc]at tt;refine⟨some (.ol ((bV dd s).map dI)),?_⟩;refine ZT (P:=λq=>q=_) s1 ?_;refine ZT (P:=λq=>q=_) (r':=[e0,some (.pl (.int c)),some (.pl (.int (w.many:Int))),e3,e4,e5,e6,some (.pl (.int (olV w c:Int))),e8,some (.pl (Zl dd)),some (.ol acc),some (.pl (.int (s:Int))),some (.ol ((bV dd s).map dI)),dn]) (by rw[D2 tt];rfl) ?_;rw[if_neg (by decide)];generalize bV dd s=z;simp[eU]
theorem UK(e0 e3 e4 e5 e6 g0 iN fM dn:Option B)(hd:dd∈w.deeds)(ha:acc.length<1000):∃p10 cn c6,J1 [e0,some (.pl (.int c)),some (.pl (.int (w.many:Int))),e3,e4,e5,e6,some (.pl (.int (olV w c:Int))),some (.ol acc),some (.pl (Zl dd)),g0,iN,fM,dn]=some (.nx [e0,some (.pl (.int c)),some (.pl (.int (w.many:Int))),e3,e4,e5,e6,some (.pl (.int (olV w c:Int))),some (.ol (acc++[Zl (dG w c dd)])),some (.pl (Zl dd)),p10,cn,c6,dn]):=by
 have hm:=hv.m2;have gK:=Lg hv c;have hok:dE (w.many:Int)=true:=Cy (by omega);have h:=Cz (i:=11) (body:=J4) dN (Ab w.many) (λpre r=>∃cn c6,r=[e0,some (.pl (.int c)),some (.pl (.int (w.many:Int))),e3,e4,e5,e6,some (.pl (.int (olV w c:Int))),some (.ol acc),some (.pl (Zl dd)),some (.ol (pre.map λs=>bF (dJ w c dd s))),cn,c6,dn]) (λpre x post r e hr=>by
  obtain⟨cn,c6,rfl⟩:=hr;have hx:x∈Ab w.many:=by rw[e];exact AX _ (An ..)
  have hl:pre.length<=w.many:=by have:=congrArg Bb e;rw[AB,AH]at this;omega
  obtain⟨j8,eb⟩:=Ti hv h7 c e0 e3 e4 e5 e6 (some (.ol acc)) c6 dn hd (acc:=pre.map λs=>bF (dJ w c dd s)) (by rw[Ae];omega) (Am.mp hx);exact⟨_,eb,some (.pl (.int (x:Int))),j8,by rw[Bj];rfl⟩)
 obtain⟨r',e,cn,c6,rfl⟩:=h [e0,some (.pl (.int c)),some (.pl (.int (w.many:Int))),e3,e4,e5,e6,some (.pl (.int (olV w c:Int))),some (.ol acc),some (.pl (Zl dd)),some (.ol []),iN,fM,dn] ⟨iN,fM,rfl⟩;refine⟨some (.ol ((Ab w.many).map λs=>bF (dJ w c dd s))),cn,c6,?_⟩;unfold J1;refine ZT (P:=λq=>q=_) (r':=[e0,some (.pl (.int c)),some (.pl (.int (w.many:Int))),e3,e4,e5,e6,some (.pl (.int (olV w c:Int))),some (.ol acc),some (.pl (Zl dd)),some (.ol []),iN,fM,dn]) rfl ?_;refine ZT (P:=λq=>q=_) (r':=[e0,some (.pl (.int c)),some (.pl (.int (w.many:Int))),e3,e4,e5,e6,some (.pl (.int (olV w c:Int))),some (.ol acc),some (.pl (Zl dd)),some (.ol ((Ab w.many).map λs=>bF (dJ w c dd s))),cn,c6,dn]) ?_ ?_
 .have hi:ZH (S 2) [e0,some (.pl (.int c)),some (.pl (.int (w.many:Int))),e3,e4,e5,e6,some (.pl (.int (olV w c:Int))),some (.ol acc),some (.pl (Zl dd)),some (.ol []),iN,fM,dn]=some ((Ab w.many).map dN):=by
   simp[hok,ZS]
  unfold AU;rw[hi];dsimp only;rw[if_pos (by rw[Ae,AB];unfold big;omega)];exact e
 .have hx:bJ (Zf 10) (S 7) [e0,some (.pl (.int c)),some (.pl (.int (w.many:Int))),e3,e4,e5,e6,some (.pl (.int (olV w c:Int))),some (.ol acc),some (.pl (Zl dd)),some (.ol ((Ab w.many).map λs=>bF (dJ w c dd s))),cn,c6,dn]=some (bF (dJ w c dd (olV w c))):=by
   refine Dg (ds:=(Ab w.many).map λs=>bF (dJ w c dd s)) ?_;rw[A9,IB gK];rfl
  have hD:Zl (dG w c dd)=.tuple ((Ab w.many).map (λs=>bF (dJ w c dd s))++[bF (dJ w c dd (olV w c))]):=by unfold Zl dG;rw[Bj,AG];rfl
  rw[hD];generalize bJ (Zf 10) (S 7)=E at hx ⊢;have hl:((Ab w.many).map λs=>bF (dJ w c dd s)).length+1<1000000:=by rw[Ae,AB];omega
  have eU:acc.length<1000000:=by omega
  generalize (Ab w.many).map (λs=>bF (dJ w c dd s))=Z at *;simp[hx,hl,eU]
theorem WQ:Hq [w.d,.int c]=some (du w c).d:=by
 have hm:=hv.m2;have lV:=hv.m1;have d2:=hv.d2;have l2:=hv.l2;have gK:=Lg hv c;have kY:=Ru hv c;have h:=Cz (i:=9) (body:=J1) Zl w.deeds (λpre r=>∃p9 p10 cn c6,r=[some (.pl w.d),some (.pl (.int c)),some (.pl (.int (w.many:Int))),some (.pl (.tuple (w.deeds.map Zl))),some (.pl (.tuple (w.looks.map bF))),some (.pl (bF w.beg)),some (.pl (bF w.goal)),some (.pl (.int (olV w c:Int))),some (.ol (pre.map λdd=>Zl (dG w c dd))),p9,p10,cn,c6,none]) (λpre x post r e hr=>by
  obtain⟨p9,p10,cn,c6,rfl⟩:=hr;have hx:x∈w.deeds:=by rw[e];exact AX _ (An ..)
  have hl:pre.length<=w.deeds.length:=by rw[e,AH];omega
  obtain⟨j9,mR,j8,eb⟩:=UK hv h7 c (some (.pl w.d)) (some (.pl (.tuple (w.deeds.map Zl)))) (some (.pl (.tuple (w.looks.map bF)))) (some (.pl (bF w.beg))) (some (.pl (bF w.goal))) p10 cn c6 none hx (acc:=pre.map λdd=>Zl (dG w c dd)) (by rw[Ae];omega);exact⟨_,eb,some (.pl (Zl x)),j9,mR,j8,by rw[Bj];rfl⟩)
 obtain⟨r',e,p9,p10,cn,c6,rfl⟩:=h [some (.pl w.d),some (.pl (.int c)),some (.pl (.int (w.many:Int))),some (.pl (.tuple (w.deeds.map Zl))),some (.pl (.tuple (w.looks.map bF))),some (.pl (bF w.beg)),some (.pl (bF w.goal)),some (.pl (.int (olV w c:Int))),some (.ol []),none,none,none,none,none] ⟨none,none,none,none,rfl⟩;show Av (Nn [some (.pl w.d),some (.pl (.int c)),none,none,none,none,none,none,none,none,none,none,none,none])=_;unfold Nn;refine ZT (P:=λq=>Av q=_) (r':=[some (.pl w.d),some (.pl (.int c)),some (.pl (.int (w.many:Int))),some (.pl (.tuple (w.deeds.map Zl))),some (.pl (.tuple (w.looks.map bF))),some (.pl (bF w.beg)),some (.pl (bF w.goal)),none,none,none,none,none,none,none]) rfl ?_;refine ZT (P:=λq=>Av q=_) (r':=[some (.pl w.d),some (.pl (.int c)),some (.pl (.int (w.many:Int))),some (.pl (.tuple (w.deeds.map Zl))),some (.pl (.tuple (w.looks.map bF))),some (.pl (bF w.beg)),some (.pl (bF w.goal)),some (.pl (.int (olV w c:Int))),none,none,none,none,none,none]) ?_ ?_
 .have hp:(0:Int)<(w.many:Int):=by omega
  have hg:bH Cn (S 1) (S 2) [some (.pl w.d),some (.pl (.int c)),some (.pl (.int (w.many:Int))),some (.pl (.tuple (w.deeds.map Zl))),some (.pl (.tuple (w.looks.map bF))),some (.pl (bF w.beg)),some (.pl (bF w.goal)),none,none,none,none,none,none,none]=some (.int (olV w c:Int)):=by show(if(0:Int)<(w.many:Int)then some (AQ (c%(w.many:Int)))else none)=_;rw[if_pos hp,kY]
  unfold Z5;rw[hg];rfl
 refine ZT (P:=λq=>Av q=_) (r':=[some (.pl w.d),some (.pl (.int c)),some (.pl (.int (w.many:Int))),some (.pl (.tuple (w.deeds.map Zl))),some (.pl (.tuple (w.looks.map bF))),some (.pl (bF w.beg)),some (.pl (bF w.goal)),some (.pl (.int (olV w c:Int))),some (.ol []),none,none,none,none,none]) rfl ?_;refine ZT (P:=λq=>Av q=_) (r':=[some (.pl w.d),some (.pl (.int c)),some (.pl (.int (w.many:Int))),some (.pl (.tuple (w.deeds.map Zl))),some (.pl (.tuple (w.looks.map bF))),some (.pl (bF w.beg)),some (.pl (bF w.goal)),some (.pl (.int (olV w c:Int))),some (.ol (w.deeds.map λdd=>Zl (dG w c dd))),p9,p10,cn,c6,none]) ?_ ?_
 .show(if(w.deeds.map Zl).length<big then _ else _)=_
  rw[if_pos (by rw[Ae];unfold big;omega)];exact e
 have hg:∀r:HM.Env,r[7]?=some (some (.pl (.int (olV w c:Int))))->Bn ZR (ES (S 0) (ZM (O (bJ (Zf 0) (S 8)) Ze))) r (w.looks.map bF)=some ((w.looks.map λl=>l++[cH l (olV w c)]).map bF):=λr hr=>by
  rw[De bF (λl=>bF (l++[cH l (olV w c)])),AG]
  .rfl
  .intro l hl
   have nE:=hv.ll l hl;have hx:bJ (Zf 0) (S 8) (some (.pl (bF l))::r)=some (.int (cH l (olV w c))):=by
    have lM:S 8 (some (.pl (bF l))::r)=some (.int (olV w c:Int)):=by unfold S;rw[Bq,hr]
    generalize S 8=X at lM ⊢;show(match X (some (.pl (bF l))::r)with|some (.int i)=>eB (l.map dI) i|_=>none)=_;rw[lM];exact G5 nE gK
   have hb:(l.map dI).length+1<1000000:=by rw[Ae];omega
   generalize bJ (Zf 0) (S 8)=X at hx ⊢;have lj:l.length+1<1000000:=by omega
   simp[hx,lj]
 have cL:ZI (Zw (ZW (bW (S 4))) ZR (ES (S 0) (ZM (O (bJ (Zf 0) (S 8)) Ze)))) [some (.pl w.d),some (.pl (.int c)),some (.pl (.int (w.many:Int))),some (.pl (.tuple (w.deeds.map Zl))),some (.pl (.tuple (w.looks.map bF))),some (.pl (bF w.beg)),some (.pl (bF w.goal)),some (.pl (.int (olV w c:Int))),some (.ol (w.deeds.map λdd=>Zl (dG w c dd))),p9,p10,cn,c6,none]=some (.tuple ((du w c).looks.map bF)):=by refine Qf ?_;have hI:ZW (bW (S 4)) [some (.pl w.d),some (.pl (.int c)),some (.pl (.int (w.many:Int))),some (.pl (.tuple (w.deeds.map Zl))),some (.pl (.tuple (w.looks.map bF))),some (.pl (bF w.beg)),some (.pl (bF w.goal)),some (.pl (.int (olV w c:Int))),some (.ol (w.deeds.map λdd=>Zl (dG w c dd))),p9,p10,cn,c6,none]=some (w.looks.map bF):=rfl;unfold Zw;rw[hI];dsimp only;rw[if_pos (by rw[Ae];unfold big;omega),hg _ rfl];rfl
 refine ZT (P:=λq=>Av q=_) (r':=[some (.pl w.d),some (.pl (.int c)),some (.pl (.int (w.many:Int))),some (.pl (.tuple (w.deeds.map Zl))),some (.pl (.tuple (w.looks.map bF))),some (.pl (bF w.beg)),some (.pl (bF w.goal)),some (.pl (.int (olV w c:Int))),some (.ol (w.deeds.map λdd=>Zl (dG w c dd))),p9,p10,cn,c6,some (.pl (.tuple ((du w c).looks.map bF)))]) (by unfold Z5;rw[cL];rfl) ?_;have hgl:=hv.gc.len;have kB:=hv.bc.len;refine ZT (P:=λq=>Av q=_) (r':=[some (.pl w.d),some (.pl (.int c)),some (.pl (.int (w.many:Int))),some (.pl (.tuple (w.deeds.map Zl))),some (.pl (.tuple (w.looks.map bF))),some (.pl (bF w.beg)),some (.pl (bF (du w c).goal)),some (.pl (.int (olV w c:Int))),some (.ol (w.deeds.map λdd=>Zl (dG w c dd))),p9,p10,cn,c6,some (.pl (.tuple ((du w c).looks.map bF)))]) ?_ ?_
 .have ht:tV (Cq (S 7) (Zf 6)) [some (.pl w.d),some (.pl (.int c)),some (.pl (.int (w.many:Int))),some (.pl (.tuple (w.deeds.map Zl))),some (.pl (.tuple (w.looks.map bF))),some (.pl (bF w.beg)),some (.pl (bF w.goal)),some (.pl (.int (olV w c:Int))),some (.ol (w.deeds.map λdd=>Zl (dG w c dd))),p9,p10,cn,c6,some (.pl (.tuple ((du w c).looks.map bF)))]=some (w.goal.contains (olV w c:Int)):=by
   simp[GD,CL,-GB]
  have cJ:(du w c).goal=if w.goal.contains (olV w c:Int)then w.goal++[(w.many:Int)]else w.goal:=rfl
  rw[cJ];cases hq:w.goal.contains (olV w c:Int)with
  |true =>
   rw[hq]at ht;rw[D3 ht,if_pos rfl];have hb:w.goal.length+1<1000000:=by omega
   simp[hb]
  |false=>rw[hq]at ht;rw[D2 ht];rfl
 refine D9 ?_;have ji:ES (S 5) (Me (ZM (O (S 2) Ze)) (bH Cn (S 1) (eC (.int 2)))) [some (.pl w.d),some (.pl (.int c)),some (.pl (.int (w.many:Int))),some (.pl (.tuple (w.deeds.map Zl))),some (.pl (.tuple (w.looks.map bF))),some (.pl (bF w.beg)),some (.pl (bF (du w c).goal)),some (.pl (.int (olV w c:Int))),some (.ol (w.deeds.map λdd=>Zl (dG w c dd))),p9,p10,cn,c6,some (.pl (.tuple ((du w c).looks.map bF)))]=some (bF (du w c).beg):=by
  have f6:(du w c).beg=w.beg++(Al (c%2).toNat [(w.many:Int)]).flatten:=rfl;rw[f6];have h2:c%2=0\/c%2=1:=by omega
  have fD:bH Cn (S 1) (eC (.int 2)) [some (.pl w.d),some (.pl (.int c)),some (.pl (.int (w.many:Int))),some (.pl (.tuple (w.deeds.map Zl))),some (.pl (.tuple (w.looks.map bF))),some (.pl (bF w.beg)),some (.pl (bF (du w c).goal)),some (.pl (.int (olV w c:Int))),some (.ol (w.deeds.map λdd=>Zl (dG w c dd))),p9,p10,cn,c6,some (.pl (.tuple ((du w c).looks.map bF)))]=some (.int (c%2)):=rfl;have hb:w.beg.length+1<1000000:=by omega
  have hb':w.beg.length<1000000:=by omega
  generalize bH Cn (S 1) (eC (.int 2))=X at fD ⊢;rcases h2 with h2|h2
  .rw[h2]at fD ⊢
   simp[fD,hb']
  .rw[h2]at fD ⊢
   simp[fD,hb]
 generalize ES (S 5) (Me (ZM (O (S 2) Ze)) (bH Cn (S 1) (eC (.int 2))))=E at ji ⊢;have de:(du w c).d=.tuple [.int ((w.many:Int)+1),.tuple (w.deeds.map λdd=>Zl (dG w c dd)),.tuple ((du w c).looks.map bF),bF (du w c).beg,bF (du w c).goal]:=by unfold Wk.d;show CT [.int ((w.many+1:Nat):Int),.tuple ((w.deeds.map (dG w c)).map Zl),_,_,_]=_;rw[AG];rfl
 rw[de];simp[ji]
end
theorem QA(ns:List Int)(h:ns.length<=63):EE [.list (ns.map dI)]=some (.bool true):=by
 have hv:=Wk.Ok.v (Sb ns 1);have h5:(ik ns 1).many<=5:=by have:(ik ns 1).many=ZD ns 1:=rfl;have:=(Jm ns 1).2;omega
 have hw:=VB ns 1 h;have nT:=EM ns 0;generalize ik ns 1=w at *;have h7:w.many<=7:=by omega
 have hw':DK [.list (ns.map dI),.int 1]=some w.d:=hw;have hc':ZE [.list (ns.map dI),.int 0]=some (.int (Zr ns 0)):=nT;generalize Zr ns 0=c at *;have eL:=WQ hv h7 c;show Av (Lr [some (.pl (.list (ns.map dI))),none,none,none,none,none,none,none,none,none])=_;unfold Lr;refine ZT (P:=λq=>Av q=_) (r':=[some (.pl (.list (ns.map dI))),some (.pl w.d),none,none,none,none,none,none,none,none]) (by simp[hw']) ?_;have ht:tV (bH cA (bH Cn (Zj ZE (O (S 0) (O (eC (.int 0)) Ze))) (eC (.int 3))) (eC (.int 1))) [some (.pl (.list (ns.map dI))),some (.pl w.d),none,none,none,none,none,none,none,none]=some (decide (c%3=1)):=by
  have h1:bH Cn (Zj ZE (O (S 0) (O (eC (.int 0)) Ze))) (eC (.int 3)) [some (.pl (.list (ns.map dI))),some (.pl w.d),none,none,none,none,none,none,none,none]=some (.int (c%3)):=by have:Zj ZE (O (S 0) (O (eC (.int 0)) Ze)) [some (.pl (.list (ns.map dI))),some (.pl w.d),none,none,none,none,none,none,none,none]=some (.int c):=hc';unfold bH;rw[this];rfl
  exact DC h1 rfl (LZ _ _)
 by_cases hq:c%3=1
 .rw[decide_eq_true hq]at ht
  refine ZT (P:=λq=>Av q=_) (r':=[some (.pl (.list (ns.map dI))),some (.pl (du w c).d),none,none,none,none,none,none,none,none]) ?_ (PD (RL hv h7 c) _);rw[D3 ht];have:Zj Hq (O (S 1) (O (Zj ZE (O (S 0) (O (eC (.int 0)) Ze))) Ze)) [some (.pl (.list (ns.map dI))),some (.pl w.d),none,none,none,none,none,none,none,none]=some (du w c).d:=by refine cG (ds:=[w.d,.int c]) ?_ eL;have gN:Zj ZE (O (S 0) (O (eC (.int 0)) Ze)) [some (.pl (.list (ns.map dI))),some (.pl w.d),none,none,none,none,none,none,none,none]=some (.int c):=hc';generalize Zj ZE (O (S 0) (O (eC (.int 0)) Ze))=X at gN ⊢;simp[gN]
  unfold Z5;rw[this];rfl
 .rw[decide_eq_false hq]at ht
  exact ZT (P:=λq=>Av q=_) (by rw[D2 ht];rfl) (PD hv _)
end
end HG27
namespace HT
open PySem PySem.Spec PyProof.Rows L2 HP HM
open HG
open HG27
variable{f:Addr}{h:Heap}{ps:List Str}{x:Str}
def cy(i:Nat):Stmt:=PySem.Challenge.pw_halfseen_k27_states_alike.main.body.getD i (.Pass ⟨0,0,0,0⟩)
abbrev M0:Stmt:=cy 8
abbrev Ml:Stmt:=cy 9
abbrev MZ:Stmt:=cy 10
abbrev JE:Stmt:=cy 11
abbrev JD:Stmt:=cy 12
abbrev JQ:Stmt:=cy 13
abbrev JP:Stmt:=cy 14
abbrev Nh:Stmt:=cy 15
abbrev MY:Stmt:=cy 16
abbrev MX:Stmt:=cy 17
abbrev Ng:Stmt:=cy 18
abbrev Nf:Stmt:=cy 19
abbrev MN:Stmt:=cy 20
abbrev MM:Stmt:=cy 21
abbrev Nd:Stmt:=cy 23
abbrev JV:Stmt:=cy 24
abbrev J6:Stmt:=cy 25
abbrev JO:Stmt:=cy 26
abbrev Jw:Stmt:=cy 27
abbrev JU:Stmt:=cy 28
abbrev JW:Stmt:=cy 29
abbrev J0:Stmt:=cy 30
abbrev Nc:Stmt:=cy 32
abbrev ML:Stmt:=cy 33
abbrev JN:Stmt:=cy 34
abbrev Nb:Stmt:=cy 35
abbrev Na:Stmt:=cy 36
abbrev JM:Stmt:=cy 37
abbrev JZ:Stmt:=cy 38
abbrev J5:Stmt:=cy 39
abbrev DD:Stmt:=cy 40
structure bR(K:Ad)(mg:Str->Option Value)(x:Str)(st:Stmt)(ps:List Str):Prop where
 ex:∃f fd,fQ K x x st f fd/\mg x=some (.ref f)/\Binds K fd ps []
structure cq(K:Ad)(mg:Str->Option Value):Prop where
 n_len:mg "len"=none
 n_tuple:mg "tuple"=none
 n_list:mg "list"=none
 n_set:mg "set"=none
 n_sorted:mg "sorted"=none
 n_range:mg "range"=none
 n_all:mg "all"=none
 n_isinstance:mg "isinstance"=none
 n_int:mg "int"=none
 n_bool:mg "bool"=none
 n_max:mg "max"=none
 n_min:mg "min"=none
 c_MOST_STATES:∃t,mg "MOST_STATES"=some (.int 8 t)
 c_MOST_DEEDS:∃t,mg "MOST_DEEDS"=some (.int 5 t)
 c_MOST_LOOKS:∃t,mg "MOST_LOOKS"=some (.int 4 t)
 c_MOST_SEEN:∃t,mg "MOST_SEEN"=some (.int 9 t)
section
variable[FX]{P:Program}{w:World}{K:Ad}{mg:Str->Option Value}{base:Heap}{k:Nat}
set_option maxHeartbeats 8000000
theorem cz{N:List Str}{sc:Scope}(a:sc.kind=.function:=by rfl)(b:sc.isCoroutine=false:=by rfl)(c:sc.isGenerator=false:=by rfl)(d:N.Nodup:=by decide +kernel)(e:N.take ps.length=ps:=by rfl)(f:∀x∈ps,sc.names.lookup x=some .local\/sc.names.lookup x=some .cell:=by decide +kernel)(g:∀y∈sc.names,y.2≠.free:=by decide +kernel):Zx N ps sc:=⟨a,b,c,d,e,f,g⟩
theorem bR.ok{x:Str}{st:Stmt}{N ps:List Str}{g:HM.SF}(D:bR K mg x st ps)(oH:Zx N ps (Zk st))(body:∀(f:Addr) (bQ:Value) (A:Around) (outer:List PySem.Env) (s:Shared) (H:J) (E:XK),AK k (A.deeper (envOfC x (Zk st) s.heap.objs.size f bQ))->eX (Dz eE P w K mg base N x (Zk st) f bQ A outer s H E).nox (CJ st) g):Callee P w K mg base (k+1) x (HM.fnOf ps.length N.length g):=by obtain⟨f,fd,F,m,b⟩:=D.ex;exact Wr F oH m b (body f)
theorem bZ{j:Nat}{M:List PyData->Option PyData}(C:Callee P w K mg base j x M)(h:j<=k:=by decide):Callee P w K mg base k x M:=C.mono h
theorem Yw:Zx ["_law_script","_law_k"] ["_law_script","_law_k"] (Zk Nc):=cz
theorem Yv(T:cq K mg)(D:bR K mg "_law_cell" Nc ["_law_script","_law_k"]):Callee P w K mg base (k+1) "_law_cell" ZE :=
 D.ok Yw λ_ bQ A outer s H E hr=>by
  exact(Zi (A6 (Bt jV (Zc 1) (FC T.n_len (Zq 0))) (Zm (ZC (ZK (Zq 0) (Zc 1)))) Z3)
  (Zm (ZC Zg)))
theorem Xd:Zx ["_law_cell_here","_law_prime","_law_many"] ["_law_cell_here","_law_prime","_law_many"] (Zk ML):=cz
theorem Xc(T:cq K mg)(D:bR K mg "_law_mix" ML ["_law_cell_here","_law_prime","_law_many"]):Callee P w K mg base (k+1) "_law_mix" Zy :=
 D.ok Xd λ_ bQ A outer s H E hr=>by exact(Zm (ZC (Zv fA (Zv fA (Zv Ca (Zc 0) Zg) (Zc 1)) (Zc 2))))
abbrev M4:List Str:=["_law_cell_here","_law_many","_law_least","_law_found"]
theorem Nr:Zx M4 ["_law_cell_here","_law_many","_law_least"] (Zk JN):=cz
theorem Yo(T:cq K mg)(ZA:Callee P w K mg base k "_law_mix" Zy)(D:bR K mg "_law_crowd" JN ["_law_cell_here","_law_many","_law_least"]):Callee P w K mg base (k+1) "_law_crowd" E4 :=
 D.ok Nr λ_ bQ A outer s H E hr=>by
  exact(Zi (QN 3 Nr.nd rfl rfl (N:="_law_state" :: M4) (Z0 (sc:=Zk JN) (XN:=M4)) (Z8 T.n_range (Zc 1)) (λ_ _ _ _ _=>(G7 (Bt jV (Zn ZA hr (Zd (Zv AM (Zv AM (Zc 1) (Zv Ca (Zv Ca Zg (Zc 0)) (Zc 0))) (Zv Ca Zg (Zc 0))) (Zd Zg (Zd Zg Zh)))) Zg))) (λ_ _ _ _ _=>(Zc 0)))
  (Zi (A6 (Bt jV (FC T.n_len (Zq 3)) (Zc 2)) (Zm (BN 3 Nr.nd (BO (Zd (Zn ZA hr (Zd (Zc 0) (Zd Zg (Zd (Zc 1) Zh)))) Zh)))) Z3)
  (Zm (ZC (ZX T.n_tuple (Zq 3))))))
theorem FT:Zx ["_law_cell_here","_law_many","_law_found","_law_state","_law_seed","_law_way","_law_row"] ["_law_cell_here","_law_many"] (Zk Nb):=cz
theorem Yu(T:cq K mg)(ZA:Callee P w K mg base k "_law_mix" Zy)(D:bR K mg "_law_deed" Nb ["_law_cell_here","_law_many"]):Callee P w K mg base (k+1) "_law_deed" HB :=
 D.ok FT λ_ bQ A outer s H E hr=>by
  have hu:=Lf hr;exact(Zi (BN 2 FT.nd (BO Zh))
  (Zi (B5 3 FT.nd rfl rfl (Z8 T.n_range (Zc 1)) (Zi (ZV 4 FT.nd (Zv AM (Zv AM (Zc 0) (Zv Ca (Zv Ca Zg (Zc 3)) (Zc 3))) (Zv Ca Zg (Zc 3))))
  (Zi (ZV 5 FT.nd (Zn ZA hr (Zd (Zc 4) (Zd Zg (Zd Zg Zh)))))
  (Zi (BN 6 FT.nd (Vf (Zn ZA hr (Zd (Zc 4) (Zd Zg (Zd (Zc 1) Zh)))) By))
  (Zi (A6 (Bt jV (Zc 5) Zg) (Zm (Lu hu 6 (Zn ZA hr (Zd (Zc 4) (Zd Zg (Zd (Zc 1) Zh)))) By)) Z3)
  (Zi (DH 2 (ZX T.n_tuple (A7 (W0 T.n_sorted rfl (Zq 6)))))
  (Zm (A6 (Bt (fu hr) (Zc 5) Zg) (Zm (UQ 2 TN (Bg Zh))) Z3))))))))
  (Zm (ZC (ZX T.n_tuple (Zq 2))))))
theorem E1:Zx ["_law_cell_here","_law_many","_law_left","_law_right","_law_state","_law_ahead","_law_behind","_law_slips"] ["_law_cell_here","_law_many"] (Zk Na):=cz
theorem Yt(T:cq K mg)(ZA:Callee P w K mg base k "_law_mix" Zy)(D:bR K mg "_law_walk" Na ["_law_cell_here","_law_many"]):Callee P w K mg base (k+1) "_law_walk" HA :=
 D.ok E1 λ_ bQ A outer s H E hr=>by
  exact(Zi (BN 2 E1.nd (BO Zh))
  (Zi (BN 3 E1.nd (BO Zh))
  (Zi (B5 4 E1.nd rfl rfl (Z8 T.n_range (Zc 1)) (Zi (ZV 5 E1.nd (Lx T.n_max rfl (Zv K4 (Zc 4) Zg) Zg))
  (Zi (ZV 6 E1.nd (Lw T.n_min rfl (Zv AM (Zc 4) Zg) (Zv K4 (Zc 1) Zg)))
  (Zi (ZV 7 E1.nd (GX (fu hr) (Zn ZA hr (Zd (Zv AM (Zc 0) (Zv Ca Zg (Zc 4))) (Zd Zg (Zd Zg Zh)))) Zg))
  (Zi (DH 2 (ZX T.n_tuple (A7 (Q1 T.n_sorted T.n_set rfl (A7 (Lv (A7 (BO (Zd (Zc 5) Zh))) (A7 (TM (A7 (BO (Zd (Zc 4) Zh))) (Vg T.n_int (Zc 7))))))))))
  (Zm (DH 3 (Bg (Zd (Zc 6) Zh)))))))))
  (Zm (ZC (Bg (Zd (ZX T.n_tuple (Zq 2)) (Zd (ZX T.n_tuple (Zq 3)) Zh))))))))
abbrev M6:List Str:=["_law_script","_law_at","_law_cell_here","_law_many","_law_deeds","_law_k","_law_looks","_law_seed","_law_most","_law_begin","_law_goal"]
theorem ZL:Zx M6 ["_law_script","_law_at"] (Zk JM):=cz
theorem Yn(T:cq K mg)(Cu:Callee P w K mg base k "_law_cell" ZE)(JL:Callee P w K mg base k "_law_crowd" E4)(ZA:Callee P w K mg base k "_law_mix" Zy)(M9:Callee P w K mg base k "_law_deed" HB)(M8:Callee P w K mg base k "_law_walk" HA)(D:bR K mg "_law_works" JM ["_law_script","_law_at"]):Callee P w K mg base (k+1) "_law_works" DK :=
 D.ok ZL λ_ bQ A outer s H E hr=>by
  exact(Zi (ZV 2 ZL.nd (Zn Cu hr (Zd (Zc 0) (Zd (Zc 1) Zh))))
  (Zi (ZV 3 ZL.nd (Zv AM Zg (Zn ZA hr (Zd (Zc 2) (Zd Zg (Zd Zg Zh))))))
  (Zi (A6 (Bt kJ (FC T.n_len (Zq 0)) Zg) (Zm (ZV 3 ZL.nd (Zv AM Zg (Zn ZA hr (Zd (Zc 2) (Zd Zg (Zd Zg Zh))))))) Z3)
  (Zi (BN 4 ZL.nd (BO Zh))
  (Zi (B5 5 ZL.nd rfl rfl (Z8 T.n_range (Zv AM Zg (Zn ZA hr (Zd (Zc 2) (Zd Zg (Zd Zg Zh)))))) (Zm (DH 4 (Zn M9 hr (Zd (Zv AM (Zn Cu hr (Zd (Zc 0) (Zd (Zv AM (Zv AM (Zc 1) Zg) (Zc 5)) Zh))) (Zv Ca Zg (Zc 5))) (Zd (Zc 3) Zh))))))
  (Zi (A6 (Bt (fu hr) (Zn ZA hr (Zd (Zc 2) (Zd Zg (Zd Zg Zh)))) Zg) (Zm (BN 4 ZL.nd (Lv (A7 (Qp T.n_list (GY (Zn M8 hr (Zd (Zn Cu hr (Zd (Zc 0) (Zd (Zv AM (Zc 1) Zg) Zh))) (Zd (Zc 3) Zh)))))) (A7 (TL (Zq 4) Tg (Tc Zg)))))) Z3)
  (Zi (BN 6 ZL.nd (BO Zh))
  (Zi (B5 5 ZL.nd rfl rfl (Z8 T.n_range (Zn ZA hr (Zd (Zc 2) (Zd Zg (Zd Zg Zh))))) (Zi (ZV 7 ZL.nd (Zv AM (Zn Cu hr (Zd (Zc 0) (Zd (Zv AM (Zv AM (Zc 1) Zg) (Zc 5)) Zh))) (Zv Ca Zg (Zc 5))))
  (Zi (ZV 8 ZL.nd (Zv AM Zg (Zn ZA hr (Zd (Zc 7) (Zd Zg (Zd Zg Zh))))))
  (Zm (DH 6 (ZX T.n_tuple (A7 (BQ rfl rfl (N:="_law_state" :: M6) (Z0 (sc:=Zk JM) (XN:=M6)) (Z8 T.n_range (Zc 3)) (λ_ _ _ _ _=>Cp) (λ_ _ _ _ _=>(Zn ZA hr (Zd (Zv AM (Zc 8) (Zv Ca (Zv Ca Zg (Zc 0)) (Zc 0))) (Zd Zg (Zd (Zc 9) Zh)))))))))))))
  (Zi (ZV 9 ZL.nd (Zn JL hr (Zd (Zn Cu hr (Zd (Zc 0) (Zd (Zv AM (Zc 1) Zg) Zh))) (Zd (Zc 3) (Zd Zg Zh)))))
  (Zi (A6 (Bt (fu hr) (Zn ZA hr (Zd (Zc 2) (Zd Zg (Zd Zg Zh)))) Zg) (Zm (ZV 9 ZL.nd (Xg T.n_tuple T.n_range rfl (Zc 3)))) Z3)
  (Zi (ZV 10 ZL.nd (Zn JL hr (Zd (Zn Cu hr (Zd (Zc 0) (Zd (Zv AM (Zc 1) Zg) Zh))) (Zd (Zc 3) (Zd Zg Zh)))))
  (Zm (ZC (Bg (Zd (Zc 3) (Zd (ZX T.n_tuple (Zq 4)) (Zd (ZX T.n_tuple (Zq 6)) (Zd (Zc 9) (Zd (Zc 10) Zh)))))))))))))))))))
theorem Ym:Zx ["thing","least","most"] ["thing","least","most"] (Zk M0):=cz
theorem Yl(T:cq K mg)(D:bR K mg "is_number" M0 ["thing","least","most"]):Callee P w K mg base (k+1) "is_number" DL :=
 D.ok Ym λ_ bQ A outer s H E hr=>by
  exact(Zi (A6 (Fq (IU (CK (Xj T.n_isinstance T.n_bool (Zc 0))) (Ji (D8 (CK (WJ T.n_isinstance T.n_int (Zc 0))))))) (Zm (ZC By)) Z3)
  (Zm (ZC (Qb jW jW (Zc 1) (Zc 0) (Zc 2)))))
theorem JS:Zx ["thing","many","least","number"] ["thing","many"] (Zk MZ):=cz
theorem Yk(T:cq K mg)(DJ:Callee P w K mg base k "is_number" DL)(D:bR K mg "is_rising" MZ ["thing","many"]):Callee P w K mg base (k+1) "is_rising" Z2 :=
 D.ok JS λ_ bQ A outer s H E hr=>by
  exact(Zi (A6 (D8 (CK (Q2 T.n_isinstance T.n_tuple (Zc 0)))) (Zm (ZC By)) Z3)
  (Zi (ZV 2 JS.nd Zg)
  (Zi (B5 3 JS.nd rfl rfl (BC (Zc 0)) (Zi (A6 (D8 (CK (Zn DJ hr (Zd (Zc 3) (Zd (Zc 2) (Zd (Zv K4 (Zc 1) Zg) Zh)))))) (Zm (ZC By)) Z3)
  (Zm (ZV 2 JS.nd (Zv AM (Zc 3) Zg)))))
  (Zm (ZC By)))))
theorem Ys:Zx ["thing","many"] ["thing","many"] (Zk Nh):=cz
theorem Yr(T:cq K mg)(DI:Callee P w K mg base k "is_rising" Z2)(D:bR K mg "is_crowd" Nh ["thing","many"]):Callee P w K mg base (k+1) "is_crowd" HC :=
 D.ok Ys λ_ bQ A outer s H E hr=>by exact(Zm (ZC (D6 (Zn DI hr (Zd (Zc 0) (Zd (Zc 1) Zh))) (D7 (GX kJ (FC T.n_len (Zq 0)) Zg)))))
theorem WH:Zx ["thing","least","most"] ["thing","least","most"] (Zk Ml):=cz
theorem WG(T:cq K mg)(D:bR K mg "is_row" Ml ["thing","least","most"]):Callee P w K mg base (k+1) "is_row" Cc :=
 D.ok WH λ_ bQ A outer s H E hr=>by exact(Zm (ZC (D6 (Q2 T.n_isinstance T.n_tuple (Zc 0)) (D7 (Qb jW jW (Zc 1) (FC T.n_len (Zq 0)) (Zc 2))))))
theorem Xb:Zx ["thing","many"] ["thing","many"] (Zk JE):=cz
theorem Xa(T:cq K mg)(Z9:Callee P w K mg base k "is_row" Cc)(DI:Callee P w K mg base k "is_rising" Z2)(D:bR K mg "is_deed" JE ["thing","many"]):Callee P w K mg base (k+1) "is_deed" EU :=
 D.ok Xb λ_ bQ A outer s H E hr=>by exact(Zm (ZC (D6 (Zn Z9 hr (Zd (Zc 0) (Zd (Zc 1) (Zd (Zc 1) Zh)))) (D7 (Jh T.n_all rfl (A7 (BQ rfl rfl (N:=["crowd","thing","many"]) (Z0 (sc:=Zk JE) (XN:=["thing","many"])) (BC (Zc 0)) (λ_ _ _ _ _=>Cp) (λ_ _ _ _ _=>(Zn DI hr (Zd (Zc 0) (Zd (Zc 2) Zh)))))))))))
theorem Yj:Zx ["thing","many"] ["thing","many"] (Zk JQ):=cz
theorem Yi(T:cq K mg)(Z9:Callee P w K mg base k "is_row" Cc)(MK:Callee P w K mg base k "is_deed" EU)(D:bR K mg "are_deeds" JQ ["thing","many"]):Callee P w K mg base (k+1) "are_deeds" Hy :=
 D.ok Yj λ_ bQ A outer s H E hr=>by exact(Zm (ZC (D6 (Zn Z9 hr (Zd (Zc 0) (Zd Zg (Zd (Jq T.c_MOST_DEEDS) Zh)))) (D7 (Jh T.n_all rfl (A7 (BQ rfl rfl (N:=["deed","thing","many"]) (Z0 (sc:=Zk JQ) (XN:=["thing","many"])) (BC (Zc 0)) (λ_ _ _ _ _=>Cp) (λ_ _ _ _ _=>(Zn MK hr (Zd (Zc 0) (Zd (Zc 2) Zh)))))))))))
theorem W9:Zx ["thing","many"] ["thing","many"] (Zk JD):=cz
theorem W8(T:cq K mg)(Z9:Callee P w K mg base k "is_row" Cc)(DJ:Callee P w K mg base k "is_number" DL)(D:bR K mg "is_look" JD ["thing","many"]):Callee P w K mg base (k+1) "is_look" ET :=
 D.ok W9 λ_ bQ A outer s H E hr=>by exact(Zm (ZC (D6 (Zn Z9 hr (Zd (Zc 0) (Zd (Zc 1) (Zd (Zc 1) Zh)))) (D7 (Jh T.n_all rfl (A7 (BQ rfl rfl (N:=["told","thing","many"]) (Z0 (sc:=Zk JD) (XN:=["thing","many"])) (BC (Zc 0)) (λ_ _ _ _ _=>Cp) (λ_ _ _ _ _=>(Zn DJ hr (Zd (Zc 0) (Zd Zg (Zd (Jq T.c_MOST_SEEN) Zh))))))))))))
theorem Yh:Zx ["thing","many"] ["thing","many"] (Zk JP):=cz
theorem Yg(T:cq K mg)(Z9:Callee P w K mg base k "is_row" Cc)(MJ:Callee P w K mg base k "is_look" ET)(D:bR K mg "are_looks" JP ["thing","many"]):Callee P w K mg base (k+1) "are_looks" Hx :=
 D.ok Yh λ_ bQ A outer s H E hr=>by exact(Zm (ZC (D6 (Zn Z9 hr (Zd (Zc 0) (Zd Zg (Zd (Jq T.c_MOST_LOOKS) Zh)))) (D7 (Jh T.n_all rfl (A7 (BQ rfl rfl (N:=["look","thing","many"]) (Z0 (sc:=Zk JP) (XN:=["thing","many"])) (BC (Zc 0)) (λ_ _ _ _ _=>Cp) (λ_ _ _ _ _=>(Zn MJ hr (Zd (Zc 0) (Zd (Zc 2) Zh)))))))))))
theorem Rk:Zx ["thing","many"] ["thing"] (Zk MY):=cz
theorem Yf(T:cq K mg)(MB:Callee P w K mg base k "is_crowd" HC)(DI:Callee P w K mg base k "is_rising" Z2)(Z9:Callee P w K mg base k "is_row" Cc)(DJ:Callee P w K mg base k "is_number" DL)(MW:Callee P w K mg base k "are_deeds" Hy)(MV:Callee P w K mg base k "are_looks" Hx)(D:bR K mg "are_works" MY ["thing"]):Callee P w K mg base (k+1) "are_works" Hw :=
 D.ok Rk λ_ bQ A outer s H E hr=>by
  exact(Zi (A6 (Fq (IU (D8 (CK (Zn Z9 hr (Zd (Zc 0) (Zd Zg (Zd Zg Zh)))))) (Ji (D8 (CK (Zn DJ hr (Zd (ZK (Zq 0) Zg) (Zd Zg (Zd (Jq T.c_MOST_STATES) Zh))))))))) (Zm (ZC By)) Z3)
  (Zi (ZV 1 Rk.nd (ZK (Zq 0) Zg))
  (Zi (A6 (Fq (IU (D8 (CK (Zn MW hr (Zd (ZK (Zq 0) Zg) (Zd (Zc 1) Zh))))) (Ji (D8 (CK (Zn MV hr (Zd (ZK (Zq 0) Zg) (Zd (Zc 1) Zh)))))))) (Zm (ZC By)) Z3)
  (Zm (ZC (D6 (Zn MB hr (Zd (ZK (Zq 0) Zg) (Zd (Zc 1) Zh))) (D7 (Zn DI hr (Zd (ZK (Zq 0) Zg) (Zd (Zc 1) Zh))))))))))
theorem W7:Zx ["works"] ["works"] (Zk MM):=cz
theorem W6(T:cq K mg)(MU:Callee P w K mg base k "are_works" Hw)(D:bR K mg "checked" MM ["works"]):Callee P w K mg base (k+1) "checked" Hi :=
 D.ok W7 λ_ bQ A outer s H E hr=>by
  exact(Zi (A6 (D8 (CK (Zn MU hr (Zd (Zc 0) Zh)))) (Zm Vh) Z3)
  (Zm (ZC (Zc 0))))
theorem JK:Zx ["marks","numbers","kinds","mark"] ["marks"] (Zk Nd):=cz
theorem Yq(T:cq K mg)(D:bR K mg "numbered" Nd ["marks"]):Callee P w K mg base (k+1) "numbered" Ee :=
 D.ok JK λ_ bQ A outer s H E hr=>by
  exact(Zi (BN 1 JK.nd Ob)
  (Zi (BN 2 JK.nd (BO Zh))
  (Zi (Wb JK.nd rfl rfl T.n_len hr.units (BC (Zc 0)))
  (Zm (Ly 2 (ZC (Zc 2)))))))
theorem Yp:Zx ["crowd","kinds"] ["crowd","kinds"] (Zk JV):=cz
theorem YH(T:cq K mg)(D:bR K mg "kinds_in" JV ["crowd","kinds"]):Callee P w K mg base (k+1) "kinds_in" EV :=
 D.ok Yp λ_ bQ A outer s H E hr=>by exact(Zm (ZC (ZX T.n_tuple (A7 (Q1 T.n_sorted T.n_set rfl (A7 (BQ rfl rfl (N:=["state","crowd","kinds"]) (Z0 (sc:=Zk JV) (XN:=["crowd","kinds"])) (BC (Zc 0)) (λ_ _ _ _ _=>Cp) (λ_ _ _ _ _=>(ZK (Zq 2) (Zc 0))))))))))
theorem YG:Zx ["works"] ["works"] (Zk Ng):=cz
theorem YF(T:cq K mg)(D:bR K mg "deeds_of" Ng ["works"]):Callee P w K mg base (k+1) "deeds_of" DN :=
 D.ok YG λ_ bQ A outer s H E hr=>by exact(Zm (ZC (ZK (Zq 0) Zg)))
theorem Ye:Zx ["works","state","kinds"] ["works","state","kinds"] (Zk JO):=cz
theorem Yd(T:cq K mg)(MA:Callee P w K mg base k "kinds_in" EV)(Mz:Callee P w K mg base k "deeds_of" DN)(D:bR K mg "next_mark" JO ["works","state","kinds"]):Callee P w K mg base (k+1) "next_mark" E2 :=
 D.ok Ye λ_ bQ A outer s H E hr=>by exact(Zm (ZC (Bg (Zd (ZK (Zq 2) (Zc 1)) (Zd (ZX T.n_tuple (A7 (BQ rfl rfl (N:=["leads","works","state","kinds"]) (Z0 (sc:=Zk JO) (XN:=["works","state","kinds"])) (BC (Zn Mz hr (Zd (Zc 0) Zh))) (λ_ _ _ _ _=>Cp) (λ_ _ _ _ _=>(Zn MA hr (Zd (ZK (Zq 0) (Zc 2)) (Zd (Zc 3) Zh))))))) Zh)))))
theorem Yc:Zx ["works"] ["works"] (Zk MX):=cz
theorem Yb(T:cq K mg)(D:bR K mg "states_of" MX ["works"]):Callee P w K mg base (k+1) "states_of" ZJ :=
 D.ok Yc λ_ bQ A outer s H E hr=>by exact(Zm (ZC (ZK (Zq 0) Zg)))
theorem Wa:Zx ["works","kinds"] ["works","kinds"] (Zk Jw):=cz
theorem V9(T:cq K mg)(FU:Callee P w K mg base k "numbered" Ee)(MT:Callee P w K mg base k "next_mark" E2)(FR:Callee P w K mg base k "states_of" ZJ)(D:bR K mg "finer" Jw ["works","kinds"]):Callee P w K mg base (k+1) "finer" EL :=
 D.ok Wa λ_ bQ A outer s H E hr=>by exact(Zm (ZC (Zn FU hr (Zd (EC (BQ rfl rfl (N:=["state","works","kinds"]) (Z0 (sc:=Zk Jw) (XN:=["works","kinds"])) (Z8 T.n_range (Zn FR hr (Zd (Zc 0) Zh))) (λ_ _ _ _ _=>Cp) (λ_ _ _ _ _=>(Zn MT hr (Zd (Zc 1) (Zd (Zc 0) (Zd (Zc 2) Zh))))))) Zh))))
theorem XG:Zx ["works"] ["works"] (Zk MN):=cz
theorem XD(T:cq K mg)(D:bR K mg "goal_of" MN ["works"]):Callee P w K mg base (k+1) "goal_of" Hh :=
 D.ok XG λ_ bQ A outer s H E hr=>by exact(Zm (ZC (ZK (Zq 0) Zg)))
theorem YE:Zx ["works"] ["works"] (Zk Nf):=cz
theorem YD(T:cq K mg)(D:bR K mg "looks_of" Nf ["works"]):Callee P w K mg base (k+1) "looks_of" DM :=
 D.ok YE λ_ bQ A outer s H E hr=>by exact(Zm (ZC (ZK (Zq 0) Zg)))
theorem YO:Zx ["works","state"] ["works","state"] (Zk J6):=cz
theorem YN(T:cq K mg)(MI:Callee P w K mg base k "goal_of" Hh)(My:Callee P w K mg base k "looks_of" DM)(D:bR K mg "first_mark" J6 ["works","state"]):Callee P w K mg base (k+1) "first_mark" EX :=
 D.ok YO λ_ bQ A outer s H E hr=>by exact(Zm (ZC (Bg (Zd (Ls (Zc 1) (GY (Zn MI hr (Zd (Zc 0) Zh)))) (Zd (ZX T.n_tuple (A7 (BQ rfl rfl (N:=["look","works","state"]) (Z0 (sc:=Zk J6) (XN:=["works","state"])) (BC (Zn My hr (Zd (Zc 0) Zh))) (λ_ _ _ _ _=>Cp) (λ_ _ _ _ _=>(ZK (Zq 0) (Zc 2)))))) Zh)))))
theorem MS:Zx ["works","kinds"] ["works"] (Zk JU):=cz
theorem YC(T:cq K mg)(FU:Callee P w K mg base k "numbered" Ee)(Jv:Callee P w K mg base k "finer" EL)(Nq:Callee P w K mg base k "first_mark" EX)(FR:Callee P w K mg base k "states_of" ZJ)(D:bR K mg "kinds_of" JU ["works"]):Callee P w K mg base (k+1) "kinds_of" Hz :=
 D.ok MS λ_ bQ A outer s H E hr=>by
  exact(Zi (ZV 1 MS.nd (Zn FU hr (Zd (EC (BQ rfl rfl (N:=["state","works","kinds"]) (Z0 (sc:=Zk JU) (XN:=["works","kinds"])) (Z8 T.n_range (Zn FR hr (Zd (Zc 0) Zh))) (λ_ _ _ _ _=>Cp) (λ_ _ _ _ _=>(Zn Nq hr (Zd (Zc 1) (Zd (Zc 0) Zh)))))) Zh)))
  (Zi (Qa 100000 rfl (Bt (jU hr) (Zn Jv hr (Zd (Zc 0) (Zd (Zc 1) Zh))) (Zc 1)) (Zm (ZV 1 MS.nd (Zn Jv hr (Zd (Zc 0) (Zd (Zc 1) Zh))))))
  (Zm (ZC (Zc 1)))))
theorem YX:Zx ["kinds","kind"] ["kinds","kind"] (Zk JW):=cz
theorem YW(T:cq K mg)(D:bR K mg "states_of_kind" JW ["kinds","kind"]):Callee P w K mg base (k+1) "states_of_kind" FV :=
 D.ok YX λ_ bQ A outer s H E hr=>by exact(Zm (ZC (EC (BQ rfl rfl (N:=["state","kinds","kind"]) (Z0 (sc:=Zk JW) (XN:=["kinds","kind"])) (Z8 T.n_range (FC T.n_len (Zq 0))) (λ_ _ _ _ _=>(G7 (Bt (fu hr) (ZK (Zq 1) (Zc 0)) (Zc 2)))) (λ_ _ _ _ _=>(Zc 0))))))
theorem Rm:Zx ["works","kinds"] ["works"] (Zk J0):=cz
theorem YS(T:cq K mg)(MH:Callee P w K mg base k "checked" Hi)(Mx:Callee P w K mg base k "kinds_of" Hz)(Nu:Callee P w K mg base k "states_of_kind" FV)(D:bR K mg "alike_states" J0 ["works"]):Callee P w K mg base (k+1) "alike_states" FW :=
 D.ok Rm λ_ bQ A outer s H E hr=>by
  exact(Zi (UR (Zn MH hr (Zd (Zc 0) Zh)))
  (Zi (ZV 1 Rm.nd (Zn Mx hr (Zd (Zc 0) Zh)))
  (Zm (ZC (EC (BQ rfl rfl (N:=["kind","works","kinds"]) (Z0 (sc:=Zk J0) (XN:=["works","kinds"])) (Z8 T.n_range (Zv AM (UO T.n_max rfl (Zq 1)) Zg)) (λ_ _ _ _ _=>Cp) (λ_ _ _ _ _=>(Zn Nu hr (Zd (Zc 2) (Zd (Zc 0) Zh))))))))))
abbrev Nl:List Str:=["_law_works_here","_law_cell_here","_law_many","_law_deeds","_law_looks","_law_begin","_law_goal","_law_old","_law_rows","_law_deed_here","_law_row","_law_state","_law_some","_law_seen"]
theorem ZY:Zx Nl ["_law_works_here","_law_cell_here"] (Zk JZ):=cz
theorem YT(T:cq K mg)(ZA:Callee P w K mg base k "_law_mix" Zy)(D:bR K mg "_law_doubled" JZ ["_law_works_here","_law_cell_here"]):Callee P w K mg base (k+1) "_law_doubled" Hq :=
 D.ok ZY λ_ bQ A outer s H E hr=>by
  exact(Zi (UM 2 3 4 5 6 ZY.nd rfl (Zc 0))
  (Zi (ZV 7 ZY.nd (Zv fA (Zc 1) (Zc 2)))
  (Zi (BN 8 ZY.nd (BO Zh))
  (Zi (B5 9 ZY.nd rfl rfl (BC (Zc 3)) (Zi (BN 10 ZY.nd (BO Zh))
  (Zi (B5 11 ZY.nd rfl rfl (Z8 T.n_range (Zc 2)) (Zi (BN 12 ZY.nd (Qp T.n_list (GY (ZK (Zq 9) (Zc 11)))))
  (Zi (A6 (Fq (O7 (OD (Zc 7) (Zq 12)) (Pl (Bt kJ (Zn ZA hr (Zd (Zv AM (Zc 1) (Zv Ca Zg (Zc 11))) (Zd Zg (Zd Zg Zh)))) Zg)))) (Zm (DH 12 (Zc 2))) Z3)
  (Zm (DH 10 (ZX T.n_tuple (Zq 12)))))))
  (Zm (DH 8 (ZX T.n_tuple (A7 (Lv (Zq 10) (A7 (BO (Zd (ZK (Zq 10) (Zc 7)) Zh)))))))))))
  (Zi (ZV 13 ZY.nd (ZX T.n_tuple (A7 (BQ rfl rfl (N:="_law_look" :: Nl) (Z0 (sc:=Zk JZ) (XN:=Nl)) (BC (Zc 4)) (λ_ _ _ _ _=>Cp) (λ_ _ _ _ _=>(L9 (Zc 0) (Bg (Zd (ZK (Zq 0) (Zc 8)) Zh))))))))
  (Zi (A6 (OD (Zc 7) (Zq 6)) (Zm (ZV 6 ZY.nd (L9 (Zc 6) (Bg (Zd (Zc 2) Zh))))) Z3)
  (Zm (ZC (Bg (Zd (Zv AM (Zc 2) Zg) (Zd (ZX T.n_tuple (Zq 8)) (Zd (Zc 13) (Zd (L9 (Zc 5) (UN (Bg (Zd (Zc 2) Zh)) (Zv fA (Zc 1) Zg))) (Zd (Zc 6) Zh))))))))))))))
abbrev M3:List Str:=["_law_works_here","_law_one","_law_other","_law_apart","_law_deed_here","_law_first","_law_second","_law_state"]
theorem JY:Zx M3 ["_law_works_here","_law_one","_law_other","_law_apart"] (Zk J5):=cz
theorem YM(T:cq K mg)(D:bR K mg "_law_differ" J5 ["_law_works_here","_law_one","_law_other","_law_apart"]):Callee P w K mg base (k+1) "_law_differ" Ed :=
 D.ok JY λ_ bQ A outer s H E hr=>by
  have hu:=Lf hr;exact(Zi (B5 4 JY.nd rfl rfl (BC (ZK (Zq 0) Zg)) (Zi (A6 (Bt (jU hr) (GX (fu hr) (ZK (Zq 4) (Zc 1)) (Bg Zh)) (GX (fu hr) (ZK (Zq 4) (Zc 2)) (Bg Zh))) (Zm (ZC By)) Z3)
  (Zm (UP 5 6 JY.nd rfl rfl (BC (EC (BO (Zd (Bg (Zd (ZK (Zq 4) (Zc 1)) (Zd (ZK (Zq 4) (Zc 2)) Zh))) (Zd (Bg (Zd (ZK (Zq 4) (Zc 2)) (Zd (ZK (Zq 4) (Zc 1)) Zh))) Zh))))) (Zm (B5 7 JY.nd rfl rfl (BC (Zc 5)) (Zm (A6 (Bt (fu hr) (EC (BQ rfl rfl (N:="_law_near" :: M3) (Z0 (sc:=Zk J5) (XN:=M3)) (BC (Zc 6)) (λ_ _ _ _ _=>(G7 (Mm hu (Bg (Zd (Lw T.n_min rfl (Zc 8) (Zc 0)) (Zd (Lx T.n_max rfl (Zc 8) (Zc 0)) Zh))) (Zq 4)))) (λ_ _ _ _ _=>(Zc 0)))) (EC (BO Zh))) (Zm (ZC By)) Z3))))))))
  (Zm (ZC By)))
abbrev IV:List Str:=["_law_script","_law_works_here","_law_apart","_law_one","_law_other","_law_grows","_law_due","_law_state","_law_kin","_law_found"]
theorem BP:Zx IV ["_law_script"] (Zk DD):=cz
theorem UL(T:cq K mg)(M7:Callee P w K mg base k "_law_works" DK)(Nj:Callee P w K mg base k "alike_states" FW)(Nm:Callee P w K mg base k "_law_doubled" Hq)(Cu:Callee P w K mg base k "_law_cell" ZE)(Np:Callee P w K mg base k "_law_differ" Ed){fd:FuncData}(Fn:fQ K "law" "law" DD f fd):BK P w K mg base eE (k+1) f fd ["_law_script"] (spD K 1 EE) :=
 OW Fn BP λbQ A outer s H E hr=>by
  have hu:=Lf hr;exact(Zi (ZV 1 BP.nd (Zn M7 hr (Zd (Zc 0) (Zd Zg Zh))))
  (Zi (A6 (Bt (fu hr) (Zv fA (Zn Cu hr (Zd (Zc 0) (Zd Zg Zh))) Zg) Zg) (Zm (ZV 1 BP.nd (Zn Nm hr (Zd (Zc 1) (Zd (Zn Cu hr (Zd (Zc 0) (Zd Zg Zh))) Zh))))) Z3)
  (Zi (BN 2 BP.nd Ob)
  (Zi (B5 3 BP.nd rfl rfl (Z8 T.n_range (ZK (Zq 1) Zg)) (Zm (B5 4 BP.nd rfl rfl (Qo T.n_range (Zv AM (Zc 3) Zg) (ZK (Zq 1) Zg)) (Zm (A6 (Fq (IU (Bt (jU hr) (Ls (Zc 3) (GY (ZK (Zq 1) Zg))) (Ls (Zc 4) (GY (ZK (Zq 1) Zg)))) (Ji (TK (A7 (BQ rfl rfl (N:="_law_look" :: IV) (Z0 (sc:=Zk DD) (XN:=IV)) (BC (ZK (Zq 1) Zg)) (λ_ _ _ _ _=>(G7 (Bt (jU hr) (ZK (Zq 0) (Zc 4)) (ZK (Zq 0) (Zc 5))))) (λ_ _ _ _ _=>(Zc 0)))))))) (Zm (Lu hu 2 (Bg (Zd (Zc 3) (Zd (Zc 4) Zh))) By)) Z3)))))
  (Zi (ZV 5 BP.nd By)
  (Zi (Qa 100000 rfl (CK (Zc 5)) (Zi (ZV 5 BP.nd By)
  (Zm (B5 3 BP.nd rfl rfl (Z8 T.n_range (ZK (Zq 1) Zg)) (Zm (B5 4 BP.nd rfl rfl (Qo T.n_range (Zv AM (Zc 3) Zg) (ZK (Zq 1) Zg)) (Zm (A6 (Fq (O7 (Mm hu (Bg (Zd (Zc 3) (Zd (Zc 4) Zh))) (Zq 2)) (Pl (CK (Vc Np hr (Ma (Zc 1) (Ma (Zc 3) (Ma (Zc 4) (Vd (Zq 2) (TJ Zh)))))))))) (Zi (Lu hu 2 (Bg (Zd (Zc 3) (Zd (Zc 4) Zh))) By)
  (Zm (ZV 5 BP.nd By))) Z3))))))))
  (Zi (BN 6 BP.nd (BO Zh))
  (Zi (B5 7 BP.nd rfl rfl (Z8 T.n_range (ZK (Zq 1) Zg)) (Zi (QN 8 BP.nd rfl rfl (N:=["_law_other","_law_script","_law_works_here","_law_apart","_law_one"," ","_law_grows","_law_due","_law_state","_law_kin","_law_found"]) (Z0 (sc:=Zk DD) (XN:=IV)) (Z8 T.n_range (ZK (Zq 1) Zg)) (λ_ _ _ _ _=>(G7 (Mm hu (Bg (Zd (Lw T.n_min rfl (Zc 8) (Zc 0)) (Zd (Lx T.n_max rfl (Zc 8) (Zc 0)) Zh))) (Zq 3)))) (λ_ _ _ _ _=>(Zc 0)))
  (Zm (A6 (Bt (fu hr) (ZK (Zq 8) Zg) (Zc 7)) (Zm (Ly 8 (DH 6 (Zc 8)))) Z3))))
  (Zi (ZV 9 BP.nd (Zn Nj hr (Zd (Zc 1) Zh)))
  (Zm (Ly 6 (ZC (D6 (Xi T.n_isinstance T.n_list (Zc 9)) (D7 (GX (fu hr) (Zc 9) (Zc 6))))))))))))))))
def oF:List (Addr×Str):=[]
@[reducible] def ja(K:Ad):FX:=mz
theorem aM{st:Stmt}{oc:Value}{od an:Option Addr}{fL:Array (Option Value)}{kV di pm bQ ct:Value}(X:K.In h)(G:h.Ns BD mg)(a:PySem.W.nsIn K BD x=some (some (.ref f)))(l:K.lookup f=some ⟨oc,od,.func (Dx x x (ER st) (CJ st) (Zk st) .none kV di pm an bQ ct),fL⟩)(c:Gr K bQ x=true)(kp:E7 K (.ref f)=true)(b:∀(kV di pm:Value) (an:Option Addr) (bQ ct:Value) (us:List Value),us.length=ps.length->bindArgs (Dx x x (ER st) (CJ st) (Zk st) .none kV di pm an bQ ct) ⟨us,[]⟩=pure (ps.zip us)):bR K mg x st ps :=
 ⟨f,_,Ll l c kp,Ki X G a,(Ll l c kp).binds b⟩
end
structure Ds(K:Ad)(mg:Str->Option Value):Prop where
 bg:bR K mg "_law_cell" Nc ["_law_script","_law_k"]
 aW:bR K mg "_law_mix" ML ["_law_cell_here","_law_prime","_law_many"]
 bA:bR K mg "_law_crowd" JN ["_law_cell_here","_law_many","_law_least"]
 bf:bR K mg "_law_deed" Nb ["_law_cell_here","_law_many"]
 ba:bR K mg "_law_walk" Na ["_law_cell_here","_law_many"]
 bz:bR K mg "_law_works" JM ["_law_script","_law_at"]
 bx:bR K mg "is_number" M0 ["thing","least","most"]
 bw:bR K mg "is_rising" MZ ["thing","many"]
 a8:bR K mg "is_crowd" Nh ["thing","many"]
 aQ:bR K mg "is_row" Ml ["thing","least","most"]
 aV:bR K mg "is_deed" JE ["thing","many"]
 bq:bR K mg "are_deeds" JQ ["thing","many"]
 aU:bR K mg "is_look" JD ["thing","many"]
 bp:bR K mg "are_looks" JP ["thing","many"]
 bo:bR K mg "are_works" MY ["thing"]
 aT:bR K mg "checked" MM ["works"]
 a7:bR K mg "numbered" Nd ["marks"]
 a6:bR K mg "kinds_in" JV ["crowd","kinds"]
 a5:bR K mg "deeds_of" Ng ["works"]
 bj:bR K mg "next_mark" JO ["works","state","kinds"]
 bh:bR K mg "states_of" MX ["works"]
 aP:bR K mg "finer" Jw ["works","kinds"]
 aS:bR K mg "goal_of" MN ["works"]
 aZ:bR K mg "looks_of" Nf ["works"]
 bu:bR K mg "first_mark" J6 ["works","state"]
 aY:bR K mg "kinds_of" JU ["works"]
 bD:bR K mg "states_of_kind" JW ["kinds","kind"]
 bC:bR K mg "alike_states" J0 ["works"]
 bB:bR K mg "_law_doubled" JZ ["_law_works_here","_law_cell_here"]
 br:bR K mg "_law_differ" J5 ["_law_works_here","_law_one","_law_other","_law_apart"]
section
variable[FX]{P:Program}{w:World}{K:Ad}{mg:Str->Option Value}{base:Heap}{k:Nat}
theorem aH(T:cq K mg)(Dd:Ds K mg){f:Addr}{fd:FuncData}(Fn:fQ K "law" "law" DD f fd):BK P w K mg base eE 8 f fd ["_law_script"] (spD K 1 EE):=by have Cu:Callee P w K mg base 1 _ _:=Yv T Dd.bg;have ZA:Callee P w K mg base 1 _ _:=Xc T Dd.aW;have JL:Callee P w K mg base 2 _ _:=Yo T (bZ ZA) Dd.bA;have M9:Callee P w K mg base 2 _ _:=Yu T (bZ ZA) Dd.bf;have M8:Callee P w K mg base 2 _ _:=Yt T (bZ ZA) Dd.ba;have M7:Callee P w K mg base 3 _ _:=Yn T (bZ Cu) (bZ JL) (bZ ZA) (bZ M9) (bZ M8) Dd.bz;have DJ:Callee P w K mg base 1 _ _:=Yl T Dd.bx;have DI:Callee P w K mg base 2 _ _:=Yk T (bZ DJ) Dd.bw;have MB:Callee P w K mg base 3 _ _:=Yr T (bZ DI) Dd.a8;have Z9:Callee P w K mg base 1 _ _:=WG T Dd.aQ;have MK:Callee P w K mg base 3 _ _:=Xa T (bZ Z9) (bZ DI) Dd.aV;have MW:Callee P w K mg base 4 _ _:=Yi T (bZ Z9) (bZ MK) Dd.bq;have MJ:Callee P w K mg base 2 _ _:=W8 T (bZ Z9) (bZ DJ) Dd.aU;have MV:Callee P w K mg base 3 _ _:=Yg T (bZ Z9) (bZ MJ) Dd.bp;have MU:Callee P w K mg base 5 _ _:=Yf T (bZ MB) (bZ DI) (bZ Z9) (bZ DJ) (bZ MW) (bZ MV) Dd.bo;have MH:Callee P w K mg base 6 _ _:=W6 T (bZ MU) Dd.aT;have FU:Callee P w K mg base 1 _ _:=Yq T Dd.a7;have MA:Callee P w K mg base 1 _ _:=YH T Dd.a6;have Mz:Callee P w K mg base 1 _ _:=YF T Dd.a5;have MT:Callee P w K mg base 2 _ _:=Yd T (bZ MA) (bZ Mz) Dd.bj;have FR:Callee P w K mg base 1 _ _:=Yb T Dd.bh;have Jv:Callee P w K mg base 3 _ _:=V9 T (bZ FU) (bZ MT) (bZ FR) Dd.aP;have MI:Callee P w K mg base 1 _ _:=XD T Dd.aS;have My:Callee P w K mg base 1 _ _:=YD T Dd.aZ;have Nq:Callee P w K mg base 2 _ _:=YN T (bZ MI) (bZ My) Dd.bu;have Mx:Callee P w K mg base 4 _ _:=YC T (bZ FU) (bZ Jv) (bZ Nq) (bZ FR) Dd.aY;have Nu:Callee P w K mg base 1 _ _:=YW T Dd.bD;have Nj:Callee P w K mg base 7 _ _:=YS T (bZ MH) (bZ Mx) (bZ Nu) Dd.bC;have Nm:Callee P w K mg base 2 _ _:=YT T (bZ ZA) Dd.bB;have Np:Callee P w K mg base 1 _ _:=YM T Dd.br;exact UL (k:=7) T (bZ M7) (bZ Nj) (bZ Nm) (bZ Cu) (bZ Np) Fn
end
theorem lB{l:Kb}{w:World}{K:Ad}{mg:Str->Option Value}{fa f4:Addr}{mV oi:Option Addr}{mK:Array (Option Value)}{mW m5 og mS mq oh:Value}(X:K.In h)(G:h.Ns BD mg)(nN:mg "law"=some (.ref fa))(T:cq K mg)(Dd:Ds K mg)(a4:PySem.W.nsIn K BD "law"=some (some (.ref f4)))(l4:K.lookup f4=some ⟨mW,mV,.func (Dx "law" "law" (ER DD) (CJ DD) (Zk DD) .none m5 og mS oi mq oh),mK⟩)(c4:Gr K mq "law"=true)(k4:E7 K (.ref f4)=true):∃fd:FuncData,(∀(s:Shared) (v:Value),BindsTo s fd ⟨[v],[]⟩ [("_law_script",v)])/\∀base:Heap,K.In base->base.Ns BD mg->BMod base mg->BK l.prog w K mg base eE 8 fa fd ["_law_script"] (@spD (ja K) K 1 EE):=by
 have e:=nN.symm.trans (Ki X G a4);cases e;have n6:FX:=mz;exact⟨_,λs v=>.of_eq rfl,λbase _ _ bm=>@aH (ja K) _ _ _ _ _ T  Dd _ _ (Ll (st:=DD) l4 c4 k4)⟩
theorem oz{l:Kb}{q:Program}{dw:List Str}{XP:(Str->Option Value)->Heap->Prop}{YP:World->Heap->Prop}{d:DefRec}{K:Params->Ad}(hn:l.most=some 63)(fZ:d.params.defaults=[])(QA:∀ns:List Int,ns.length<=63->EE [.list (HM.dB ns)]=some (.bool true))(hY:∀(w:World) (h:Heap),YP w h->(K w.params).In h)(kE:∀(w:World) (h:Heap),YP w h->∀q∈([]:List (Addr×Addr)),h.get? q.2=some (Il #[]))(hT:∀(w:World),∀q∈([]:List (Addr×Addr)),HV (K w.params) q.1 q.2=true/\(K w.params).lookup q.2=none)
  (F:∀(w:World) (mg:Str->Option Value) (fa:Addr) (h:Heap),(K w.params).In h->h.Ns BD mg->mg d.name=some (.ref fa) ->
   ∃fd:FuncData,(∀(s:Shared) (u:Value),BindsTo s fd ⟨[u],[]⟩ [("_law_script",u)])/\∀base:Heap,(K w.params).In base->base.Ns BD mg->BMod base mg->BK l.prog w (K w.params) mg base eE 8 fa fd ["_law_script"] (@spD (ja (K w.params)) (K w.params) 1 EE)):
  PySem.W.WalkO q dw XP YP l.row.toRowW d [] (λf vs=>PySem.call f vs) :=
 Ue (n:=63) (k:=8) (x:="_law_script") (sp:=λw=>@spD (ja (K w.params)) (K w.params) 1 EE) (tabs:=[]) hn (by decide) fZ ⟨rfl,by decide,by decide⟩ hY kE hT F λw H a ns hl hO hS=>@aO (ja (K w.params)) _ _ _ _ _ _ hO (λT q h=>by exact absurd (show(T,q)∈([]:List (Addr×Str)) from h) (by simp)) hS (QA ns hl)
section
variable{P:Program}{w:World}{K:Ad}{mg:Str->Option Value}{base:Heap}{k:Nat}
abbrev aq{K:Ad}(_:K.In h)(mg:Str->Option Value):Prop:=Ds K mg
abbrev ai{K:Ad}(_:K.In h)(mg:Str->Option Value):Prop:=cq K mg
theorem lA{mg:Str->Option Value}{n:Str}{v:Value}{k:Int}(h:mg n=some v)(e:∃t,v=.int k t):∃t,mg n=some (.int k t):=by obtain⟨t,rfl⟩:=e;exact⟨t,h⟩
end
end HT
namespace PySem.W.Fast
theorem tw10183601828576089596:True:=⟨⟩
theorem tw11400759853695473424:True:=⟨⟩
theorem tw11760600958315930307:True:=⟨⟩
theorem tw12235246067038206608:True:=⟨⟩
theorem tw12398915903418815799:True:=⟨⟩
theorem tw13591307994306949166:True:=⟨⟩
theorem tw14516871962212288378:True:=⟨⟩
theorem tw14901245977322319679:True:=⟨⟩
theorem tw16241771529188895477:True:=⟨⟩
theorem tw2039817131917770944:True:=⟨⟩
theorem tw2299312683213430688:True:=⟨⟩
theorem tw2788432153561779136:True:=⟨⟩
theorem tw2991581847070664753:True:=⟨⟩
theorem tw3047501778772188381:True:=⟨⟩
theorem tw3228732386585414622:True:=⟨⟩
theorem tw3515103660740221057:True:=⟨⟩
theorem tw6239580378510284611:True:=⟨⟩
theorem tw6302408310308956126:True:=⟨⟩
theorem tw6973356662084292065:True:=⟨⟩
theorem tw8017473224879976620:True:=⟨⟩
theorem tw837826853325059354:True:=⟨⟩
theorem tw9856619342422963150:True:=⟨⟩
theorem tw9955623868661872966:True:=⟨⟩
end PySem.W.Fast
open PySem PySem.W PyProof.Rows
set_option maxRecDepth 100000 in
set_option maxHeartbeats 0 in
theorem PySem.Challenge.cw_halfseen_k27_states_alike_holds : PySem.Challenge.rw_halfseen_k27_states_alike.Holds := by
 w_on;o_law;k_head;(case hw=>w_witness2)
 k_fill
 refine HT.oz (l:=PySem.Challenge.rw_halfseen_k27_states_alike) rfl rfl HG27.QA (λw h oG=>PySem.W.kIn_of oG) (λ_ _ _ q hq=>absurd hq (by simp)) (λ_ q hq=>absurd hq (by simp)) ?F
 case F =>
  intro w mg fa h KX G iV;have n6:HP.FX:=HP.mz;have T:HT.ai KX mg:=by
   refine⟨?_,?_,?_,?_,?_,?_,?_,?_,?_,?_,?_,?_,?_,?_,?_,?_⟩
   all_goals first
    |(refine PySem.W.mg_none_of KX G ?z;(case z=>k_is))
    |(refine' HT.lA (Ki KX G ?z) ?e;(case z=>k_is);(case e=>exact⟨_,rfl⟩))
  have Dd:HT.aq KX mg:=by
   refine⟨?_,?_,?_,?_,?_,?_,?_,?_,?_,?_,?_,?_,?_,?_,?_,?_,?_,?_,?_,?_,?_,?_,?_,?_,?_,?_,?_,?_,?_,?_⟩
   all_goals first
    |(refine' HT.aM KX G ?a ?l ?c ?k ?b;(case a=>k_is);(case l=>k_is);(case c=>k_is);(case k=>k_is);(case b=>first|exact λ_ _ _ _ _ _ us hl=>(match us,hl with|[_],_=>rfl)|exact λ_ _ _ _ _ _ us hl=>(match us,hl with|[_,_],_=>rfl)|exact λ_ _ _ _ _ _ us hl=>(match us,hl with|[_,_,_],_=>rfl)|exact λ_ _ _ _ _ _ us hl=>(match us,hl with|[_,_,_,_],_=>rfl)))
  refine' HT.lB KX G iV T Dd ?a4 ?l4 ?c4 ?k4
  (case a4=>k_is);(case l4=>k_is);(case c4=>k_is);(case k4=>k_is)