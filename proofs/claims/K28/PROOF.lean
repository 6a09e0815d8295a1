import PyProof.Rows.All
import Wide.All
import OpenK.AllK
import Wide.FinOn
import Lean
import PyProof.EqAt
import PyProof.EqKinds
import PyProof.TupleCall
import PyProof.P3Statements
import PyProof.P3Eq
import PyProof.NeData
import PyProof.IsiPairs
import PyProof.IsiHeapPairs
import KE.LcSums
import PyProof.IsiNone
import PyProof.DictRoadsH
import PyProof.Rows.SetFrom
import PyProof.DictWalks
import PyProof.Rows.MinMaxN
import PyProof.Rows.SumAny
import PyProof.WalkInts
import PyProof.Draws
import PyProof.EnumMake
import PyProof.TupleIter
import PyProof.TupleKey
import PyProof.FactsAll.bool
import PyProof.DictKinds
import PySem.Challenge.RW_halfseen_k28_merged
set_option Elab.async false
set_option linter.all false
set_option maxRecDepth 100000
open PySem renaming wpAny_bind->Aa,wpAny_pure->Ac,starEach->Ag,wpAny_call_entry->BH,wpAny_newObj_type->BO,bootBuiltins->Be,sysModules->A4,foldedSetIterable->Cz,sizeLine_eq->Bm,wpAny_holding->BR,mainGlobals->BJ,assignEach->BQ,wpAny_truthy_bool->DS,wpAny_mono->B5,codeAny_builtin->DW,compareOp->BZ,wpAny_typeNameOfWhole_keyiter->ID,wpAny_passesOwn->Eo,wpAny_ite_split->En,behindInMarks->DO,swapsWith->Ct,binaryOp->Cb,wpAny_typeNameOf_keyiter->II,mem_of_lookup->GF,wpAny_specialOf->Fl,wpAny_dictEntries->GC,codeAny_mono->Ep,wpAny_askSetting->Gv,wpAny_isInstance->GG,sliceBounds->Eu,cellsFrom->DQ,wpAny_comprehension_free->Kx,wpAny_tupleItemsOf->Ii,eqIsQuiet->DL,wpAny_rule->Eh,wpAny_setField->Gj,wpAny_setState_of->Ic,codeAny_compStart_list->Ks,attributeBase->Gi,wpAny_execs_nil->Ir,letOwnedTupleGo->Iq,reduceHash->Fc,wpAny_setEntries_of->KA,wpAny_fieldsOf->Il,firstArgMember->Ik,keywordEach->Gr,wpAny_Call_Name_kw->KI,plainId_quiet->H8,wpAny_attempt->HZ,wpAny_pyIter_list->J9,wpAny_pyIter_slot->J8,builtinsNs->Gd,typeIs_int->Gb,intKind_is->F8,noFill_tuple_add->J4,compEnvC->E8,wpAny_forIn_list->Kl,tupleKind->Gg,pickOrder->Gf,wpAny_dictEpoch->Ki,wpAny_ret_mkInt->Kf,pushCells->Ge,storedH_new->Ia,Fin->HR
open List renaming length_map->Ae,range->Ab,getElem?_eq_some_iff->AE,getElem?_eq_getElem->AB,mem_cons_of_mem->Av,replicate->Ak,mem_cons_self->Au,size_toArray->Aw,mem_map->Aj,map_cons->Am,length_append->Az,mem_cons->Ao,mem_range->As,map_map->Aq,mem_singleton->AR,mem_append_right->A1,getElem?_map->AQ,length_range->AO,getElem?_cons_succ->Bo,length_replicate->Bh,getElem?_set_ne->Bg,length_cons->A2,getElem?_append_right->Ce,getElem?_append_left->Cd,map_append->Bf,eq_nil_of_length_eq_zero->Dl,mem_append->Bk,getElem?_set_self->Cw,lookup_cons->BI,pairwise_cons->B4,length->A5,all_eq_true->B3,append_assoc->Cc,mem_filter->B2,append_nil->B1,length_set->B0,contains_iff_mem->Di,getElem?_cons_zero->DV,mem_of_getElem?->Dq,map_congr_left->Dp,getElem_mem->CL,getElem?_of_mem->Ey,replicate_succ->Ew,nodup_nil->Dr,drop_eq_getElem_cons->GI,mem_append_left->Fv,getElem?_replicate->Gu,getElem?_range->Fi,flatten_cons->Fh,pairwise_iff_getElem->IC,findIdx?_eq_none_iff->IB,findIdx?_eq_some_iff_getElem->KN,length_take->Fe,nodup_cons->Fp,find?_cons->Fo,pairwise_map->Gz,getD->Dg,length_drop->Gy,contains_eq_mem->IM,any_cons->Ft,getElem_of_mem->IJ,map_nil->Fq,getElem_range->Ih,pairwise_mergeSort->Ku,nodup_append->Ig,pairwise_lt_range->Kq,drop_length->Iz,ext_getElem->Iv,length_singleton->KG,nil_append->Ip,filterMap_cons->KC,mergeSort_perm->Kz,mem_filterMap->KL,findIdx?_cons->KH,getElem?_inj->J6,map_inj_left->J5,foldl->Ga,getElem?_take_of_lt->Nt,set_eq_of_length_le->Nr,set_set->HU,filter_cons->Kk,of_mem_zip->Kj,range_succ_eq_map->NC,getElem?_eq_none->NB,set_getElem_self->NA,max?_eq_some_iff->NN,length_filter_le->NM,map->Gh,all_cons->Kp
open PySem.W renaming Frag->Ad,fnOf->De,keepIn->Fj,codeIn->Gk,codeHdIn->Iu,tabObj->Ij,methodObj->Kb,OpenLaw->Kg,cellsFrom_some->NG,mg_of->Km
open Option renaming map_eq_some_iff->An,isSome_iff_exists->GH
open PySem.Heap renaming get?_push_of_some->Ap,lt_size->Ah,get?_push_size->AA,get?_update_self->Ez,SameBut->Cy,size_push->DP,get?_push_ne->GA,size_update->Iw,get?_update_other->NF
open PySem.SetTable renaming below->Ai,insertAt->AN,insertAt_perm->Fu,tooFull->Gw,toList_insertAt->Kw,fits->Gn,fill->Gm,turns->Kc,bits->Ko
open Nat renaming le_refl->Af,ne_of_lt->Al,lt_of_lt_of_le->AW,le_trans->Ba,lt_succ_self->DR,zero_le->CA,le_of_lt->CP,lt_trans->CO,ne_of_gt->Df,le_of_eq->Dc,lt_succ_of_lt->Ff,lt_irrefl->Es,le_of_not_lt->Gx,blt_eq->Ei,le_succ->Gq,add_assoc->HY,add_comm->HV,mul_le_mul->Kd
open Array renaming length_toList->A6,getElem?_toList->Dj,getD->Cu,toList_push->Fg,getElem?_eq_getElem->IA,getElem?_eq_none->Kr,perm_iff_toList_perm->Nv
open Bool renaming false_ne_true->Bn,and_eq_true->Bw,false_eq_true->CM,or_eq_true->DX,eq_iff_iff->Em,not_true->HX
open Option.some renaming inj->Bl
open PySem.PyData renaming int->AM,tuple->CN,canLayAll0->GD,eqv->Fd,depthAll->Im,bool->Gp,eqvAll->HW
open PySem.Builtin.Tuple renaming tupleHashOf->CK,tupleExact->IH
open PySem.Value renaming none->A0,ref->Bb,int->BP,type->Dh,bool->El,isInt->E9
open Or renaming inr->Ar,inl->AJ
open Ne renaming symm->AH
open PySem.Heap.SameBut renaming update->CJ,refl->Nl
open Int renaming toNat_of_nonneg->Dm,toNat_natCast->GB,emod_nonneg->Ke
open PySem.F renaming called_set->DU,plain_list_iadd->IE,args_tuple_add_2->KQ,entry_tuple_add->Kv,slot_tuple_add->Kt,slot_dict_setdefault->NO,plain_proto_collect->NS,slot_list_append->Nq,type_list_append->NI,plainAttrs_list->NH,plain_set_new->Nz,slot_set_iter->Ny
open PySem.Obj renaming data_mapFields->DT,mapSeq->Ek,putSet->Eg,isFreed_of_fields->KD,cls_mapFields->J7,mapFields->Kn
open PySem.Expr renaming Call->Bx,Name->HQ
open PySem.Around renaming under_plainId->Ex
open False renaming elim->Cv
open PyProof.Rows.KeyOrd renaming kle_of_not_klt->Gs,kle_refl->Fm,kle_of_klt->Ib,kle_trans->Iy,kle_antisymm->NJ
open PySem.NameKind renaming free->DN,cell->Er
open PySem.Builtin.Range renaming rangeSize->IG,small->Np
open PySem.Paired renaming length->Et
open PyProof.Rows renaming callWith_type1->KO,sortedHeap->F6,entry_list_sort->Kh
open PySem.Calls renaming call_function_entry->KR,spliced_cons->KJ,Name_function_global->Nw,callWith_builtin->ND,evalArgs_plain->NL
open PySem.Builtin.List renaming listTooLong->KP,listLengthHint->NT,listExtendWith->NR
open PySem.Str renaming ofString->Fb
open True renaming intro->Ej
open PySem.SetTable.below renaming go->Ie
open ForInStep renaming yield->Io
open List.Nodup renaming length_le_of_subset->NQ
open Sum renaming inl->DM,inr->Ef
open PySem.Builtin.Dict_items renaming ownsTuple->NP
open Classical renaming byContradiction->Nu
open PySem.Builtin.Dict renaming showsAll->Nx
open List.Pairwise renaming filter->NK
open PySem.SeqAt.EqAt renaming int_str->Nn,str_int->Nm
open PyProof.Rows.IsTup renaming new->HS
namespace L2
open PySem PySem.Spec PyProof.Rows
abbrev cn:=Sum Int Str
def EE:cn->Value->Bool
 | .inl k,v=>E9 k v
 | .inr x,v=>Value.isStrOf x v
def R5(w:World):cn->Int
 | .inl k=>hashInt k
 | .inr x=>hashStr w x
theorem C4:∀{k:cn} {v:Value},EE k v=true->(∃i t,k=DM i/\v=BP i t)\/(∃x t,k=Ef x/\v=Value.str x t)
 | .inl i,v,h=>by obtain⟨t,e⟩:=Value.isInt_shape (k:=i) (v:=v) h;exact .inl ⟨i,t,rfl,e⟩
 | .inr x,v,h=>by obtain⟨t,e⟩:=Value.isStrOf_shape (x:=x) (v:=v) h;exact .inr ⟨x,t,rfl,e⟩
theorem WE(i:Int)(t:Tok):EE (.inl i) (.int i t)=true:=by simp[EE,E9]
theorem Vm(x:Str)(t:Tok):EE (.inr x) (.str x t)=true:=by simp[EE,Value.isStrOf]
theorem S0(a b:Int):decide ((DM a:cn)=DM b)=(a==b):=by
 by_cases e:a=b
 .subst e;simp
 .have h:¬(DM a:cn)=DM b:=λq=>e (Sum.inl.inj q)
  rw[decide_eq_false h];exact(beq_eq_false_iff_ne.mpr e).symm
theorem Sx(a b:Str):decide ((Ef a:cn)=Ef b)=decide (a=b):=by
 by_cases e:a=b
 .subst e;simp
 .have h:¬(Ef a:cn)=Ef b:=λq=>e (Sum.inr.inj q)
  rw[decide_eq_false h,decide_eq_false e]
theorem SQ(a:Int)(b:Str):decide ((DM a:cn)=Ef b)=false:=decide_eq_false (λq=>nomatch q)
theorem Sn(a:Str)(b:Int):decide ((Ef a:cn)=DM b)=false:=decide_eq_false (λq=>nomatch q)
def Bd(prog:Program)(w:World):PySem.KeyKind prog w cn where
 is:=EE
 hash:=R5 w
 inj:=λv a b ha hb=>by
  rcases C4 ha with⟨i,t,rfl,rfl⟩|⟨x,t,rfl,rfl⟩
  .rcases C4 hb with⟨j,u,rfl,e⟩|⟨y,u,rfl,e⟩
   .injection e with e1 _;rw[e1]
   .exact nomatch e
  .rcases C4 hb with⟨j,u,rfl,e⟩|⟨y,u,rfl,e⟩
   .exact nomatch e
   .injection e with e1 _;rw[e1]
 byValue:=λk v h=>by rcases C4 h with⟨i,t,rfl,rfl⟩|⟨x,t,rfl,rfl⟩<;>rfl
 pyHash:=λhv h=>by
  rcases C4 hv with⟨i,t,rfl,rfl⟩|⟨x,t,rfl,rfl⟩
  .exact wpAny_pyHash_int h
  .exact wpAny_pyHash_str h
 eqBool:=λhu hv h=>by
  rcases C4 hu with⟨i,t,rfl,rfl⟩|⟨x,t,rfl,rfl⟩
  .rcases C4 hv with⟨j,u,rfl,rfl⟩|⟨y,u,rfl,rfl⟩
   .rw[S0]at h;exact wpAny_eqBool_int h
   .rw[SQ]at h;exact Nn i t y u _ _ _ _ h
  .rcases C4 hv with⟨j,u,rfl,rfl⟩|⟨y,u,rfl,rfl⟩
   .rw[Sn]at h;exact Nm x t j u _ _ _ _ h
   .rw[Sx]at h;exact wpAny_eqBool_str h
 «strs»:=λk x t v h=>by
  rcases C4 h with⟨i,u,rfl,e⟩|⟨y,u,rfl,e⟩
  .exact nomatch e
  .injection e with e1 _
   subst e1;cases v<;>rfl
theorem WX(prog:Program)(w:World)(k:cn)(v:Value):(Bd prog w).is k v=EE k v:=rfl
theorem Xq(prog:Program)(w:World)(i:Int)(t:Tok):(Bd prog w).is (.inl i) (.int i t)=true:=WE i t
theorem XG(prog:Program)(w:World)(x:Str)(t:Tok):(Bd prog w).is (.inr x) (.str x t)=true:=Vm x t
section
variable{a:Addr}{o u:HO}{h:Heap}{H:J}
inductive V where
 |non|bl (b:Bool)|int (i:Int)|str (x:Str)|byt (b:Array UInt8)|flt (b:UInt64)|ref (a:Addr)|ty (n:String)
 deriving DecidableEq
def RelV:V->Value->Prop
 | .non,u=>u=A0
 | .bl b,u=>u=El b
 | .int i,u=>∃t,u=BP i t
 | .str x,u=>∃t,u=Value.str x t
 | .byt b,u=>∃t,u=Value.bytes b t
 | .flt b,u=>∃t,u=Value.float b t
 | .ref a,u=>u=Bb a
 | .ty n,u=>u=Dh n
abbrev bW:List V->List Value->Prop:=Paired RelV
theorem bW.length{xs:List V}{us:List Value}(r:bW xs us):xs.length=us.length:=Et r
theorem bW.get:∀{xs:List V} {us:List Value} {i:Nat} {x:V},bW xs us->xs[i]?=some x->∃u,us[i]?=some u/\RelV x u
 |_,_,_,_,.nil,e=>by simp at e
 |_,_,0,_,.cons r _,e=>by simp at e;subst e;exact⟨_,rfl,r⟩
 |_,_,i+1,x,.cons _ t,e=>by obtain⟨u,h1,h2⟩:=bW.get (i:=i) (x:=x) t (by simpa using e);exact⟨u,by simpa using h1,h2⟩
theorem bW.set{x:V}{u:Value}(r:RelV x u):∀{xs:List V} {us:List Value} (i:Nat),bW xs us->bW (xs.set i x) (us.set i u)
 |_,_,_,.nil=>.nil
 |_,_,0,.cons _ t=>.cons r t
 |_,_,i+1,.cons q t=>.cons q (bW.set r i t)
theorem bW.append:∀{xs ys:List V} {us ws:List Value},bW xs us->bW ys ws->bW (xs++ys) (us++ws)
 |_,_,_,_,.nil,s=>s
 |_,_,_,_,.cons r t,s=>.cons r (bW.append t s)
theorem bW.take:∀{xs:List V} {us:List Value} (n:Nat),bW xs us->bW (xs.take n) (us.take n)
 |_,_,0,_=>.nil
 |_,_,_+1,.nil=>.nil
 |_,_,n+1,.cons r t=>.cons r (bW.take n t)
theorem bW.drop:∀{xs:List V} {us:List Value} (n:Nat),bW xs us->bW (xs.drop n) (us.drop n)
 |_,_,0,r=>r
 |_,_,_+1,.nil=>.nil
 |_,_,n+1,.cons _ t=>bW.drop n t
def GU:Option V->Option Value->Prop
 |some v,some u=>RelV v u
 |none,none=>True
 |_,_=>False
def KV{κ:Type}:List (κ×V)->List (κ×Value)->Prop:=Paired λ(p:κ×V) (q:κ×Value)=>p.1=q.1/\RelV p.2 q.2
def kV:cn->V
 | .inl i=>.int i
 | .inr x=>.str x
inductive HO where
 |lst (xs:List V)
 |tup (xs:List V)
 |dK (kvs:List (cn×V))|dT (kvs:List (List cn×V))
 |set (pw:Int->Bool) (n:Nat)
 |ins (C dx:Addr) (fs:List (Str×V))
 |own (x:Addr)
 |xd (fs:List (Str×V))
 |met (f x:Addr)
 |rng (lo hi:Int)
 |frz (o:Obj) (u:HO)
 |tbl (ps:Array Value)
 |ext (φ:Heap->Prop)
abbrev J:=Addr->Option HO
def upd(H:J)(a:Addr)(o:HO):J:=λb=>if b=a then some o else H b
theorem ZA:upd H a o a=some o:=by unfold upd;rw[if_pos rfl]
theorem Zt{b:Addr}(h:b≠a):upd H a o b=H b:=by unfold upd;rw[if_neg h]
theorem OP:upd (upd H a o) a u=upd H a u:=by funext b;unfold upd;split<;>rfl
theorem S1{b:Addr}(h:H a=some o)(h':H b=some u)(d:o≠u):a≠b:=by intro e;subst e;rw[h]at h';exact d (Bl h')
theorem Cp{b:Addr}(h:H a=some o)(h':H b=none):a≠b:=by intro e;subst e;rw[h]at h';cases h'
section
variable(P:Program)(w:World)
def ZV(H:J)(h:Heap)(a:Addr):HO->Prop
 | .lst xs=>xs.length<=sizeLine/\∃(its:List Value) (n:Nat),bW xs its/\h.get? a=some {cls:=.type "list",data:=.seq its.toArray n}
 | .tup xs=>xs.length<=sizeLine/\∃its:List Value,bW xs its/\IsTup h a its.toArray
 | .dK kvs=>kvs.length<=sizeLine/\(a==A4)=false/\∃vs,KV kvs vs/\h.DictOf (Bd P w) a vs
 | .dT kvs=>kvs.length<=sizeLine/\(a==A4)=false/\∃xs:List (List cn×Addr×Value),
   Paired (λ(p:List cn×V) (q:List cn×Addr×Value)=>p.1=q.1/\H q.2.1=some (.tup (p.1.map kV))/\RelV p.2 q.2.2) kvs xs /\
   ∃o es ep,h.get? a=some o/\o.ExactDict/\o.data=.dict es ep/\es.toList=xs.map (entryOfKey (Gg (Bd P w)))/\(xs.map (·.1)).Nodup
 | .set pw n=>h.SetOf (intKind P w) a pw n
 | .ins C dx fs=>H dx=some (.own a)/\fs.length<=1000/\dx≠a/\h.get? a=some (PySem.W.instObj C dx) /\
   ∃mA,h.Ns1 dx mA/\(∀f,GU (fs.lookup f) (mA f))/\PySem.Within mA (fs.map (·.1))
 | .own _=>∃o,h.get? a=some o
 | .xd fs=>∃mA,h.Ns1 a mA/\∀f,GU (fs.lookup f) (mA f)
 | .rng lo hi=>∃t u v,h.get? a=some {cls:=.type "range",data:=.fields #[.int lo t,.int hi u,.int 1 v]}
 | .frz o u=>h.get? a=some o/\ZV H h a u
 | .tbl ps=>h.get? a=some {cls:=.none,data:=.fields ps}
 | .met f x=>h.get? a=some (Kb (.ref f) (.ref x))
 | .ext φ=>φ h/\(∃o,h.get? a=some o)/\∀h1 h2:Heap,φ h1->(∀o,h1.get? a=some o->h2.get? a=some o)->φ h2
def cV(H:J)(h:Heap):Prop:=∀a o,H a=some o->ZV P w H h a o
end
section
variable{P:Program}{w:World}{H H':J}{h h':Heap}{a:Addr}{o:HO}
theorem ZV.lt(x:ZV P w H h a o):a<h.objs.size:=by
 cases o with
 |lst xs=>obtain⟨_,_,_,_,e⟩:=x;exact Ah e
 |tup xs=>obtain⟨_,_,_,p⟩:=x;exact p.lt
 |dK kvs=>obtain⟨_,_,_,_,o,_,_,e,_⟩:=x;exact Ah e
 |dT kvs=>obtain⟨_,_,_,_,o,_,_,e,_⟩:=x;exact Ah e
 |set pw n=>obtain⟨o,_,_,_,e,_⟩:=x;exact Ah e
 |ins C dx fs=>obtain⟨_,_,_,e,_⟩:=x;exact Ah e
 |own y=>obtain⟨_,e⟩:=x;exact Ah e
 |xd fs=>obtain⟨_,⟨_,_,_,e,_⟩,_⟩:=x;exact Ah e
 |rng lo hi=>obtain⟨_,_,_,e⟩:=x;exact Ah e
 |frz ob u=>obtain⟨e,_⟩:=x;exact Ah e
 |tbl ps=>exact Ah (show h.get? a=some _ from x)
 |met f y=>exact Ah (show h.get? a=some _ from x)
 |ext φ=>obtain⟨_,⟨_,e⟩,_⟩:=x;exact Ah e
theorem Paired.mapP{α β:Type}{F G:α->β->Prop}:∀{l₁:List α} {l₂:List β},Paired F l₁ l₂->(∀a b,F a b->G a b)->Paired G l₁ l₂
 |_,_,.nil,_=>.nil
 |_,_,.cons r t,f=>.cons (f _ _ r) (Paired.mapP t f)
theorem ZV.stay(x:ZV P w H h a o)(k:∀b u,(b=a\/H b=some (.own a))->h.get? b=some u->h'.get? b=some u)(ho:∀b,H b=some (.own a)->H' b=some (.own a))(ht:∀b xs,H b=some (.tup xs)->H' b=some (.tup xs)):ZV P w H' h' a o:=by
 induction o with
 |lst xs=>obtain⟨z,its,n,r,e⟩:=x;exact⟨z,its,n,r,k _ _ (.inl rfl) e⟩
 |tup xs=>obtain⟨z,its,r,ob,e,c⟩:=x;exact⟨z,its,r,ob,k _ _ (.inl rfl) e,c⟩
 |dK kvs=>obtain⟨z,y,vs,r,ob,es,ep,e,c⟩:=x;exact⟨z,y,vs,r,ob,es,ep,k _ _ (.inl rfl) e,c⟩
 |dT kvs=>obtain⟨z,y,xs,r,ob,es,ep,e,c⟩:=x;exact⟨z,y,xs,Paired.mapP r λp q z=>⟨z.1,ht _ _ z.2.1,z.2.2⟩,ob,es,ep,k _ _ (.inl rfl) e,c⟩
 |set pw n=>obtain⟨ob,es,ep,t,e,c⟩:=x;exact⟨ob,es,ep,t,k _ _ (.inl rfl) e,c⟩
 |ins C dx fs=>obtain⟨d,z,ne,e,mA,⟨od,es,ep,e2,c⟩,r⟩:=x;exact⟨ho _ d,z,ne,k _ _ (.inl rfl) e,mA,⟨od,es,ep,k _ _ (.inr d) e2,c⟩,r⟩
 |own y=>obtain⟨ob,e⟩:=x;exact⟨ob,k _ _ (.inl rfl) e⟩
 |xd fs=>obtain⟨mA,⟨od,es,ep,e,c⟩,r⟩:=x;exact⟨mA,⟨od,es,ep,k _ _ (.inl rfl) e,c⟩,r⟩
 |rng lo hi=>obtain⟨t,u,v,e⟩:=x;exact⟨t,u,v,k _ _ (.inl rfl) e⟩
 |frz ob u ih=>obtain⟨e,q⟩:=x;exact⟨k _ _ (.inl rfl) e,ih q⟩
 |tbl ps=>have e:h.get? a=some {cls:=.none,data:=.fields ps}:=x;show h'.get? a=some {cls:=.none,data:=.fields ps};exact k a _ (.inl rfl) e
 |met f y=>have e:h.get? a=some (Kb (.ref f) (.ref y)):=x;show h'.get? a=some (Kb (.ref f) (.ref y));exact k a _ (.inl rfl) e
 |ext φ=>obtain⟨p,⟨o,e⟩,st⟩:=x;exact⟨st _ _ p λo q=>k _ _ (.inl rfl) q,⟨o,k _ _ (.inl rfl) e⟩,st⟩
theorem cV.lt(x:cV P w H h)(e:H a=some o):a<h.objs.size:=(x a o e).lt
theorem cV.fresh(x:cV P w H h)(e:h.objs.size<=a):H a=none:=by
 cases q:H a with
 |none=>rfl
 |some u=>exact absurd (AW (x.lt q) e) (Es _)
theorem cV.kept(x:cV P w H h)(k:∀b u,h.get? b=some u->h'.get? b=some u):cV P w H h':=λa o e=>(x a o e).stay (λb u _ q=>k b u q) (λ_ q=>q) λ_ _ q=>q
theorem cV.laid(x:cV P w H h)(k:∀b u,h.get? b=some u->h'.get? b=some u)(hp:h.objs.size<=a)(new:ZV P w (upd H a o) h' a o):cV P w (upd H a o) h':=λb u e=>by
 have hn:=x.fresh hp
 by_cases hb:b=a
 .subst hb;rw[ZA]at e;cases e;exact new
 .rw[Zt hb]at e
  exact(x b u e).stay (λc v _ q=>k c v q) (λc q=>by rw[Zt (Cp q hn)];exact q) λc xs q=>by rw[Zt (Cp q hn)];exact q
end
def Rd(H:J)(a:Addr)(u:HO):Prop:=H a=some u\/∃o,H a=some (.frz o u)
theorem Rd.ok{P:Program}{w:World}{H:J}{h:Heap}{a:Addr}{u:HO}(r:Rd H a u)(x:cV P w H h):ZV P w H h a u:=by
 rcases r with r|⟨o,r⟩
 .exact x a u r
 .obtain⟨_,q⟩:=x a _ r
  exact q
def jA:Option HO->Prop
 |some (.lst _)=>True
 |some (.dK _)=>True
 |some (.dT _)=>True
 |some (.set _ _)=>True
 |some (.ins _ _ _)=>True
 |some (.ext _)=>True
 |_=>False
section
variable{P:Program}{w:World}{H:J}{h h':Heap}{x e:Addr}{o':HO}
theorem cV.write(ok:cV P w H h)(mu:jA (H x))(he:e=x\/H e=some (.own x))(k:∀b u,b≠e->h.get? b=some u->h'.get? b=some u)(iX:∃u,h'.get? e=some u)(new:ZV P w (upd H x o') h' x o'):cV P w (upd H x o') h':=λb u q=>by
 have jB:∀c y,H c=some (.own y)->c≠x:=λc y r z=>by subst z;rw[r]at mu;exact mu
 have lB:∀c xs,H c=some (.tup xs)->c≠x:=λc xs r z=>by subst z;rw[r]at mu;exact mu
 by_cases hb:b=x
 .subst hb;rw[ZA]at q;cases q;exact new
 .rw[Zt hb]at q
  by_cases gF:b=e
  .have q':H b=some (.own x):=by
    rcases he with z|z
    .exact absurd (gF.trans z) hb
    .rw[gF];exact z
   rw[q]at q';cases q';obtain⟨v,hv⟩:=iX;exact⟨v,by rw[gF];exact hv⟩
  .refine(ok b u q).stay (λc v hc r=>k c v ?_ r) (λc r=>by rw[Zt (jB c b r)];exact r) λc xs r=>by rw[Zt (lB c xs r)];exact r
   rcases hc with rfl|hc
   .exact gF
   .rintro rfl
    rcases he with z|z
    .exact jB c b hc z
    .rw[hc]at z;cases z;exact hb rfl
end
structure Un(fs ex:List Addr)(H H':J)(h h':Heap):Prop where
 keep:∀b o,h.get? b=some o->H b=none->b∉fs->b∉ex->h'.get? b=some o
 slot:∀b o,h.get? b=some o->H b=none->b∈fs->b∉ex->∃sl,h'.get? b=some {o with slots:=sl}
 free:∀b o,h.get? b=some o->H b=none->b∉ex->H' b=none
 there:∀b o,h.get? b=some o->b∉ex->∃o',h'.get? b=some o'
 tups:∀b xs,H b=some (.tup xs)->H' b=some (.tup xs)
 frzs:∀b o u,H b=some (.frz o u)->H' b=some (.frz o u)
 tbls:∀b ps,H b=some (.tbl ps)->∃more,H' b=some (.tbl (ps++more))
section
variable{fs fs' ex ex':List Addr}{H H1 H2:J}{h h1 h2 h':Heap}{a x e:Addr}{o:HO}
theorem Un.any(u:Un fs ex H H1 h h1){b:Addr}{ob:Obj}(q:h.get? b=some ob)(n:H b=none)(hx:b∉ex):∃sl,h1.get? b=some {ob with slots:=sl}:=by
 by_cases hb:b∈fs
 .exact u.slot b ob q n hb hx
 .exact⟨ob.slots,u.keep b ob q n hb hx⟩
theorem Un.kept(k:∀b u,h.get? b=some u->h'.get? b=some u):Un fs ex H H h h' :=
 ⟨λb ob q _ _ _=>k b ob q,λb ob q _ _ _=>⟨ob.slots,k b ob q⟩,λ_ _ _ n _=>n,λb ob q _=>⟨ob,k b ob q⟩,λ_ _ q=>q,λ_ _ _ q=>q,λ_ ps q=>⟨#[],by rw[q];simp⟩⟩
theorem Un.refl:Un fs ex H H h h:=Un.kept λ_ _ q=>q
theorem Un.laid(k:∀b u,h.get? b=some u->h'.get? b=some u)(hp:h.objs.size<=a)(hn:H a=none):Un fs ex H (upd H a o) h h' where
 keep:=λb u q _ _ _=>k b u q
 slot:=λb u q _ _ _=>⟨u.slots,k b u q⟩
 free:=λb u q n _=>by rw[Zt (Al (AW (Ah q) hp))];exact n
 there:=λb u q _=>⟨u,k b u q⟩
 tups:=λb xs q=>by rw[Zt (Cp q hn)];exact q
 frzs:=λb u xs q=>by rw[Zt (Cp q hn)];exact q
 tbls:=λb ps q=>⟨#[],by rw[Zt (Cp q hn),q];simp⟩
theorem Un.write(mu:jA (H x))(he:e=x\/H e=some (.own x))(k:∀b u,b≠e->h.get? b=some u->h'.get? b=some u)(iX:∃u,h'.get? e=some u):Un fs ex H (upd H x o) h h':=by
 have hx:∀b,H b=none->b≠x:=λb n z=>by subst z;rw[n]at mu;exact mu
 have hb:∀b,H b=none->b≠e:=λb n z=>by
  subst z;rcases he with r|r
  .exact hx b n r
  .rw[n]at r;cases r
 have hm:∀b u,H b=some u->¬jA (some u)->b≠x:=λb u q nm z=>by subst z;rw[q]at mu;exact nm mu
 refine⟨λb u q n _ _=>k b u (hb b n) q,λb u q n _ _=>⟨u.slots,k b u (hb b n) q⟩,λb u q n _=>by rw[Zt (hx b n)];exact n,λb u q _=>?_,
  λb xs q=>by rw[Zt (hm b _ q λz=>z)];exact q,λb u xs q=>by rw[Zt (hm b _ q λz=>z)];exact q,λb ps q=>⟨#[],by rw[Zt (hm b _ q λz=>z),q];simp⟩⟩
 by_cases gF:b=e
 .subst gF;exact iX
 .exact⟨u,k b u gF q⟩
end
def jP(h:Heap)(H:J):List Addr:=(Ab h.objs.size).filter λa=>(H a).isSome
def CU(h:Heap)(H:J):Heap:=PySem.W.hideAll h (jP h H)
theorem Wt(h:Heap)(H:J):(CU h H).objs.size=h.objs.size:=PySem.W.hideAll_size _ _
theorem VE{b:Addr}{o:Obj}(e:h.get? b=some o)(n:H b=none):(CU h H).get? b=some o :=
 PySem.W.hideAll_get _ e λhm=>by have q:(H b).isSome=true:=(B2.mp hm).2;rw[n]at q;simp at q
theorem UM{b:Addr}{o:Obj}(e:(CU h H).get? b=some o):h.get? b=some o/\H b=none:=by
 have e':h.get? b=some o:=PySem.W.of_hideAll (jP h H) e;refine⟨e',?_⟩;cases q:H b with
 |none=>rfl
 |some x=>have hm:b∈jP h H:=B2.mpr ⟨As.mpr (Ah e'),by simp[q]⟩;have z:(CU h H).get? b=none:=PySem.W.hideAll_none (jP h H) hm;rw[z]at e;cases e
end
section
variable{A:Around}{ch:List Addr}{i t':Nat}{x:Str}{u:Value}{E:Value->Shared->Prop}
structure Mod(K:Ad)(mg:Str->Option Value)(base:Heap):Prop where
 kin:K.In base
 glob:base.Ns BJ mg
 blt:∃mb,base.Ns Gd mb/\∀x:Str,x ≠ "__name__"->mb x=Be x
 nolimit:base.NoLimit
structure Cx where
 prog:Program
 w:World
 K:Ad
 mg:Str->Option Value
 base:Heap
 A:Around
 N:List Str
 s₀:Shared
 H₀:J
 env:Env
 outer:List Env
 stack:List Env
 ex:List Addr
 fn:Str->Bool
 calm:Bool
 pn:List (Addr×Obj)
 xe:Value->Shared->Prop
def fF(l:List Env):List Addr:=l.filterMap (·.frame)
abbrev Cx.fs(X:Cx):List Addr:=fF X.outer
def d6(sc:Scope)(x:Str):Prop:=sc.names.lookup x=some .local\/sc.names.lookup x=some .cell\/sc.names.lookup x=some .free
def Loc(sc:Scope)(x:Str):Prop:=sc.names.lookup x=some .local\/sc.names.lookup x=some .cell
def Look(env:Env)(h:Heap)(m:Str->Option Value)(x:Str)(u:Value):Prop :=
 (env.kindOf x=some .local/\m x=some u)\/((env.kindOf x=some .cell\/env.kindOf x=some .free)/\∃c,env.cells.lookup x=some c/\h.IsCell c (some u))
structure Cx.Ok(X:Cx):Prop where
 mod:Mod X.K X.mg X.base
 kind:X.env.scope.kind=.function
 glob:X.env.globals=BJ
 blt:X.env.builtins=Gd
 above:X.s₀.heap.objs.size<=X.env.locals
 inj:∀x y c,X.env.cells.lookup x=some c->X.env.cells.lookup y=some c->x=y
 has:∀x,(X.env.kindOf x=some .cell\/X.env.kindOf x=some .free)->∃c,X.env.cells.lookup x=some c
 cab:∀x c,X.fn x=true->X.env.cells.lookup x=some c->X.s₀.heap.objs.size<=c
 hd:X.calm=true->X.A.handled=none
 frames:X.A.frames=some X.stack
 stk:X.stack=X.outer\/(X.stack=X.env::X.outer/\X.env.frame=some X.env.locals)
 exf:∀b∈X.ex,b≠X.env.locals/\∀x c,X.env.cells.lookup x=some c->c≠b
 bs:∀b o,X.base.get? b=some o->X.s₀.heap.get? b=some o/\X.H₀ b=none
 bsz:X.base.objs.size<=X.s₀.heap.objs.size
 noex:∀b o,X.base.get? b=some o->b∉X.ex
 exfs:∀b∈X.ex,b∉X.fs
 funs:X.s₀.heap.FunFrames X.base X.outer
 frf:∀b∈X.fs,X.H₀ b=none
structure Inv(X:Cx)(bT:List (Addr×Obj))(Y:List (Option V))(H:J)(s:Shared):Prop where
 ok:X.Ok
 os:s.os=X.s₀.os
 bare:AllBare s.gens
 base:Un X.fs X.ex X.H₀ H X.s₀.heap s.heap
 loc:∃m,s.heap.Ns X.env.locals m/\∀(i:Nat) (x:Str) (v:V),X.N[i]?=some x->Y[i]?=some (some v)->d6 X.env.scope x->∃u,RelV v u/\Look X.env s.heap m x u
 cell:∀x c,X.env.cells.lookup x=some c->∃v,s.heap.IsCell c v
 free:H X.env.locals=none
 freeC:∀x c,X.env.cells.lookup x=some c->H c=none
 pin:∀p∈X.pn++bT,s.heap.get? p.1=some p.2/\H p.1=none/\p.1≠X.env.locals/\p.1∉X.fs/\∀v,p.2.data≠.cell v
 hok:cV X.prog X.w H s.heap
 len:Y.length=X.N.length
section
variable{X:Cx}{bT:List (Addr×Obj)}{Y:List (Option V)}{H H':J}{s:Shared}{h':Heap}
theorem Cx.Ok.nofr(ok:X.Ok){b:Addr}{o:Obj}(e:X.base.get? b=some o):b∉X.fs:=λhb=>by have:=(ok.funs.mem hb).1;rw[e]at this;cases this
theorem Inv.bs(I:Inv X bT Y H s):∀b o,X.base.get? b=some o->s.heap.get? b=some o/\H b=none:=λb o e=>⟨I.base.keep b o (I.ok.bs b o e).1 (I.ok.bs b o e).2 (I.ok.nofr e) (I.ok.noex b o e),I.base.free b o (I.ok.bs b o e).1 (I.ok.bs b o e).2 (I.ok.noex b o e)⟩
theorem Inv.bk(I:Inv X bT Y H s):∀b o,X.base.get? b=some o->s.heap.get? b=some o:=λb o e=>(I.bs b o e).1
theorem Inv.mod(I:Inv X bT Y H s):Mod X.K X.mg X.base:=I.ok.mod
theorem Inv.kIn(I:Inv X bT Y H s):X.K.In s.heap:=I.ok.mod.kin.keeps I.bk
theorem Inv.lt(I:Inv X bT Y H s):X.env.locals<s.heap.objs.size:=let ⟨_,hn,_⟩:=I.loc;hn.lt
theorem Inv.sz(I:Inv X bT Y H s):X.s₀.heap.objs.size<=s.heap.objs.size:=Ba I.ok.above (CP I.lt)
theorem Inv.nofs(I:Inv X bT Y H s){a:Addr}(h:s.heap.objs.size<=a):a∉X.fs:=λhb=>by obtain⟨_,o,ho,_⟩:=I.ok.funs.mem hb;exact absurd (AW (Ah ho) (Ba I.sz h)) (Es _)
theorem Inv.cne(I:Inv X bT Y H s):∀x c,X.env.cells.lookup x=some c->c≠X.env.locals:=λx c e z=>by obtain⟨v,o,ho,hd⟩:=I.cell x c e;obtain⟨m,⟨o',es,ep,ho',hd',_⟩,_⟩:=I.loc;rw[z,ho']at ho;cases ho;rw[hd']at hd;cases hd
theorem Inv.funs(I:Inv X bT Y H s):s.heap.FunFrames X.base X.outer:=by
 have all:∀(l:List Env),(∀b∈fF l,b∈X.fs)->X.s₀.heap.FunFrames X.base l->s.heap.FunFrames X.base l:=by
  intro l
  induction l with
  |nil=>intro _ _;trivial
  |cons env r ih=>intro hs hl;obtain⟨hk,⟨L,o,hf,hn,ho,hd⟩,hr⟩:=hl;have hL:L∈X.fs:=hs L (by unfold fF;rw[KC,hf];exact Au);obtain⟨sl,e⟩:=I.base.slot L o ho (I.ok.frf L hL) hL λz=>I.ok.exfs L z hL;exact⟨hk,⟨L,_,hf,hn,e,hd⟩,ih (λb hb=>hs b (by unfold fF;rw[KC,hf];exact Av _ hb)) hr⟩
 exact all X.outer (λ_ hb=>hb) I.ok.funs
theorem Inv.stack(I:Inv X bT Y H s):s.heap.FunFrames X.base X.stack:=by
 rcases I.ok.stk with e|⟨e,hf⟩
 .rw[e];exact I.funs
 .rw[e]
  obtain⟨m,hn,_⟩:=I.loc;refine .cons (by rw[I.ok.kind];decide) hf hn ?_ I.funs;exact Heap.get?_none_of_le (Ba I.ok.bsz I.ok.above)
theorem Inv.stkSub(I:Inv X bT Y H s):∀b∈fF X.stack,b∈X.env.locals::X.fs:=λb hb=>by
 rcases I.ok.stk with e|⟨e,hf⟩
 .rw[e]at hb;exact Av _ hb
 .rw[e]at hb
  unfold fF at hb;rw[KC,hf]at hb;exact hb
theorem Inv.stkFree(I:Inv X bT Y H s):∀b∈fF X.stack,H b=none:=λb hb=>by
 rcases Ao.mp (I.stkSub b hb)with e|hb
 .rw[e];exact I.free
 .obtain⟨_,o,ho,_⟩:=I.ok.funs.mem hb
  exact I.base.free b o ho (I.ok.frf b hb) λz=>I.ok.exfs b z hb
theorem Inv.step{g':Array GenState}{d':Drawn}(I:Inv X bT Y H s)(gq:∀b∈ch,(b∈X.ex\/X.s₀.heap.objs.size<=b)/\b≠X.env.locals/\(∀x c,X.env.cells.lookup x=some c->c≠b)/\∀p∈X.pn++bT,p.1≠b)(keep:∀b o,b≠X.env.locals->b∉X.fs->b∉ch->s.heap.get? b=some o->H b=none->h'.get? b=some o)(slot:∀b o,b≠X.env.locals->b∈X.fs->b∉ch->s.heap.get? b=some o->H b=none->∃sl,h'.get? b=some {o with slots:=sl})(free:∀b o,b∉ch->s.heap.get? b=some o->H b=none->H' b=none)(there:∀b o,b∉ch->s.heap.get? b=some o->∃o',h'.get? b=some o')(tups:∀b xs,H b=some (.tup xs)->H' b=some (.tup xs))(frzs:∀b o u,H b=some (.frz o u)->H' b=some (.frz o u))(tbls:∀b ps,H b=some (.tbl ps)->∃more,H' b=some (.tbl (ps++more)))(ns:∀m,s.heap.Ns X.env.locals m->h'.Ns X.env.locals m)(hok:cV X.prog X.w H' h')(hg:AllBare g'):Inv X bT Y H' {s with heap:=h',gens:=g',drawn:=d',toks:=t'}:=by
 have jh:∀b o,X.s₀.heap.get? b=some o->b≠X.env.locals:=λb o e=>Al (AW (Ah e) I.ok.above);have iw:∀b o,X.s₀.heap.get? b=some o->b∉X.ex->b∉ch:=λb o e hx hb=>by
  rcases(gq b hb).1 with z|z
  .exact hx z
  .exact absurd (AW (Ah e) z) (Es _)
 have il:∀x c,X.env.cells.lookup x=some c->∀v,s.heap.IsCell c v->h'.IsCell c v:=λx c e v ⟨o,ho,hd⟩=>by
  have ji:c∉ch:=λz=>(gq c z).2.2.1 x c e rfl
  by_cases hc:c∈X.fs
  .obtain⟨sl,q⟩:=slot c o (I.cne x c e) hc ji ho (I.freeC x c e)
   exact⟨_,q,hd⟩
  .exact⟨o,keep c o (I.cne x c e) hc ji ho (I.freeC x c e),hd⟩
 refine⟨I.ok,I.os,hg,⟨λb o e n hb hx=>?_,λb o e n hb hx=>?_,λb o e n hx=>?_,λb o e hx=>?_,λb xs e=>tups b xs (I.base.tups b xs e),λb o xs e=>frzs b o xs (I.base.frzs b o xs e),λb ps e=>?_⟩,?_,λx c e=>?_,?_,λx c e=>?_,λp hp=>?_,hok,I.len⟩
 .exact keep b o (jh b o e) hb (iw b o e hx) (I.base.keep b o e n hb hx) (I.base.free b o e n hx)
 .obtain⟨sl,e1⟩:=I.base.slot b o e n hb hx
  obtain⟨sl',e2⟩:=slot b _ (jh b o e) hb (iw b o e hx) e1 (I.base.free b o e n hx);exact⟨sl',e2⟩
 .obtain⟨o',e1⟩:=I.base.there b o e hx
  exact free b o' (iw b o e hx) e1 (I.base.free b o e n hx)
 .obtain⟨o',e1⟩:=I.base.there b o e hx
  exact there b o' (iw b o e hx) e1
 .obtain⟨m1,e1⟩:=I.base.tbls b ps e
  obtain⟨m2,e2⟩:=tbls b _ e1;exact⟨m1++m2,by rw[e2,Array.append_assoc]⟩
 .obtain⟨m,hn,hl⟩:=I.loc
  refine⟨m,ns m hn,λi x v e1 e2 e3=>?_⟩;obtain⟨u,r,l⟩:=hl i x v e1 e2 e3;refine⟨u,r,?_⟩;rcases l with l|⟨k,c,e,z⟩
  .exact .inl l
  .exact .inr ⟨k,c,e,il x c e _ z⟩
 .obtain⟨v,z⟩:=I.cell x c e
  exact⟨v,il x c e v z⟩
 .obtain⟨m,⟨o,_,_,ho,_⟩,_⟩:=I.loc
  exact free _ o (λz=>(gq _ z).2.1 rfl) ho I.free
 .obtain⟨v,o,ho,hd⟩:=I.cell x c e
  exact free c o (λz=>(gq c z).2.2.1 x c e rfl) ho (I.freeC x c e)
 .obtain⟨e,n,ne,nf,d⟩:=I.pin p hp
  have ji:p.1∉ch:=λz=>(gq p.1 z).2.2.2 p hp rfl;exact⟨keep p.1 p.2 ne nf ji e n,free p.1 p.2 ji e n,ne,nf,d⟩
theorem Inv.un(I:Inv X bT Y H s)(u:Un X.fs [] H H' s.heap h')(hok:cV X.prog X.w H' h'):Inv X bT Y H' {s with heap:=h',toks:=t'}:=by obtain⟨m,⟨o,es,ep,ho,r⟩,_⟩:=id I.loc;obtain⟨sl,hL⟩:=u.any ho I.free (by simp);exact I.step (g':=s.gens) (d':=s.drawn) (ch:=[]) (λ_ z=>nomatch z) (λb o _ hb _ e n=>u.keep b o e n hb (by simp)) (λb o _ hb _ e n=>u.slot b o e n hb (by simp)) (λb o _ e n=>u.free b o e n (by simp)) (λb o _ e=>u.there b o e (by simp)) u.tups u.frzs u.tbls (λm' hm=>by obtain⟨o',es',ep',ho',r'⟩:=hm;rw[ho]at ho';cases ho';exact⟨_,es',ep',hL,r'⟩) hok I.bare
theorem Inv.call{g':Array GenState}{d':Drawn}(I:Inv X bT Y H s)(u:Un (fF X.stack) ch H H' s.heap h')(hok:cV X.prog X.w H' h')(hg:AllBare g')(gq:∀b∈ch,(b∈X.ex\/X.s₀.heap.objs.size<=b)/\b≠X.env.locals/\(∀x c,X.env.cells.lookup x=some c->c≠b)/\∀p∈X.pn++bT,p.1≠b):Inv X bT Y H' {s with heap:=h',gens:=g',drawn:=d',toks:=t'}:=by
 obtain⟨m,⟨o,es,ep,ho,r⟩,_⟩:=id I.loc;obtain⟨sl,hL⟩:=u.any ho I.free λz=>(gq _ z).2.1 rfl;exact I.step (ch:=ch) gq (λb o hL hb hc e n=>u.keep b o e n (λz=>(Ao.mp (I.stkSub b z)).elim hL hb) hc) (λb o _ _ hc e n=>u.any e n hc) (λb o hc e n=>u.free b o e n hc) (λb o hc e=>u.there b o e hc) u.tups u.frzs u.tbls (λm' hm=>by obtain⟨o',es',ep',ho',r'⟩:=hm;rw[ho]at ho';cases ho';exact⟨_,es',ep',hL,r'⟩) hok hg
theorem Inv.turned{it:Addr}(I:Inv X bT Y H s)(k:∀b o,b≠it->s.heap.get? b=some o->h'.get? b=some o)(hn:H it=none)(hL:it≠X.env.locals)(h1:it∈X.ex\/X.s₀.heap.objs.size<=it)(h2:∀x c,X.env.cells.lookup x=some c->c≠it)(h3:∀p∈X.pn++bT,p.1≠it):Inv X bT Y H {s with heap:=h',toks:=t'}:=by
 have l7:∀b u,H b=some u->b≠it:=λb u e z=>by rw[z,hn]at e;cases e
 refine I.step (g':=s.gens) (d':=s.drawn) (ch:=[it]) (λb hb=>?_) (λb o _ _ hc e _=>k b o (λz=>hc (by simp[z])) e) (λb o _ _ hc e _=>⟨o.slots,k b o (λz=>hc (by simp[z])) e⟩) (λ_ _ _ _ n=>n)
  (λb o hc e=>⟨o,k b o (λz=>hc (by simp[z])) e⟩) (λ_ _ e=>e) (λ_ _ _ e=>e) (λb ps e=>⟨#[],by rw[e];simp⟩) (λm hm=>?_) (λb u e=>?_) I.bare
 .have e:b=it:=by simpa using hb
  subst e;exact⟨h1,hL,h2,h3⟩
 .obtain⟨o,es,ep,ho,r⟩:=hm
  exact⟨o,es,ep,k _ o (AH hL) ho,r⟩
 .refine(I.hok b u e).stay (λc v hc q=>k c v ?_ q) (λ_ q=>q) λ_ _ q=>q
  rcases hc with z|z
  .rw[z];exact l7 b u e
  .exact l7 c _ z
theorem Inv.tok(I:Inv X bT Y H s)(t:Nat):Inv X bT Y H {s with toks:=t}:=I.un (h':=s.heap) (t':=t) Un.refl I.hok
theorem Inv.kept{t':Nat}(I:Inv X bT Y H s)(k:∀b u,s.heap.get? b=some u->h'.get? b=some u):Inv X bT Y H {s with heap:=h',toks:=t'}:=I.un (Un.kept k) (I.hok.kept k)
theorem Inv.laid{a:Addr}{o:HO}{t':Nat}(I:Inv X bT Y H s)(k:∀b u,s.heap.get? b=some u->h'.get? b=some u)(hp:s.heap.objs.size<=a)(new:ZV X.prog X.w (upd H a o) h' a o):Inv X bT Y (upd H a o) {s with heap:=h',toks:=t'}:=I.un (Un.laid k hp (I.hok.fresh hp)) (I.hok.laid k hp new)
theorem Inv.write{x e:Addr}{o:HO}{t':Nat}(I:Inv X bT Y H s)(mu:jA (H x))(he:e=x\/H e=some (.own x))(k:∀b u,b≠e->s.heap.get? b=some u->h'.get? b=some u)(iX:∃u,h'.get? e=some u)(new:ZV X.prog X.w (upd H x o) h' x o):Inv X bT Y (upd H x o) {s with heap:=h',toks:=t'}:=I.un (Un.write mu he k iX) (I.hok.write mu he k iX new)
theorem Inv.weak{σ':List (Option V)}(I:Inv X bT Y H s)(hl:σ'.length=Y.length)(w:∀(i:Nat) v,σ'[i]?=some (some v)->Y[i]?=some (some v)):Inv X bT σ' H s :=
 ⟨I.ok,I.os,I.bare,I.base,let ⟨m,hn,hl'⟩:=I.loc;⟨m,hn,λi x v e1 e2 e3=>hl' i x v e1 (w i v e2) e3⟩,I.cell,I.free,I.freeC,I.pin,I.hok,hl.trans I.len⟩
theorem Inv.pins_of{pins':List (Addr×Obj)}(I:Inv X bT Y H s)(h:∀p∈pins',s.heap.get? p.1=some p.2/\H p.1=none/\p.1≠X.env.locals/\p.1∉X.fs/\∀v,p.2.data≠.cell v):Inv X pins' Y H s :=
 ⟨I.ok,I.os,I.bare,I.base,I.loc,I.cell,I.free,I.freeC,λp hp=>(Bk.mp hp).elim (λz=>I.pin p (Fv _ z)) (h p),I.hok,I.len⟩
theorem PM{N:List Str}(hN:N.Nodup){j:Nat}(a:N[i]?=some x)(b:N[j]?=some x):i=j:=by obtain⟨h1,e1⟩:=AE.mp a;obtain⟨h2,e2⟩:=AE.mp b;exact(List.getElem_inj hN).mp (e1.trans e2.symm)
theorem P6{M:Model}{v:V}{Q:Unit->Shared->Prop}(I:Inv X bT Y H s)(hN:X.N.Nodup)(hi:X.N[i]?=some x)(hx:Loc X.env.scope x)(r:RelV v u)(h:∀s',Inv X bT (Y.set i (some v)) H s'->(∃a,Cy a s.heap s'.heap/\(a=X.env.locals\/X.env.cells.lookup x=some a))->Q () s')(hf:X.fn x=true\/X.env.scope.names.lookup x=some .local:=by first|exact .inl rfl|exact .inr rfl|assumption):wpAny M A (storeName X.env x u) Q E s:=by
 obtain⟨m,hn,hl⟩:=id I.loc;have lT:(X.env.scope.kind==.class||(X.env.scope.kind==.module&&X.env.locals != X.env.globals))=false:=by rw[I.ok.kind];rfl
 have mD:i<Y.length:=by rw[I.len];exact(AE.mp hi).1
 have cne:=I.cne;have fz:∀{a:Addr} {h':Heap},(∃o,s.heap.get? a=some o/\H a=none)->Cy a s.heap h'->cV X.prog X.w H h':=λ{a h'} ha hs b ob e=>by
  obtain⟨_,_,cK⟩:=ha;refine(I.hok b ob e).stay (λc w' hc q=>(hs.2 c ?_).trans q) (λ_ q=>q) λ_ _ q=>q
  rintro rfl
  rcases hc with rfl|hc
  .rw[cK]at e;cases e
  .rw[cK]at hc;cases hc
 rcases hx with hk|hk
 .refine wpAny_storeName_local hk hn (λh' hn' hs=>?_) lT
  obtain⟨oL,_,_,fT,_⟩:=id hn;refine h _ ⟨I.ok,I.os,I.bare,⟨λb o e n hb hx=>?_,λb o e n hb hx=>?_,I.base.free,λb o e hx=>?_,I.base.tups,I.base.frzs,I.base.tbls⟩,⟨_,hn',λj y v' e1 e2 e3=>?_⟩,λy c e=>?_,I.free,I.freeC,λp hp=>?_,fz ⟨oL,fT,I.free⟩ hs,by simpa using I.len⟩ ⟨_,hs,.inl rfl⟩
  .exact(hs.2 b (Al (AW (Ah e) I.ok.above))).trans (I.base.keep b o e n hb hx)
  .obtain⟨sl,e1⟩:=I.base.slot b o e n hb hx
   exact⟨sl,(hs.2 b (Al (AW (Ah e) I.ok.above))).trans e1⟩
  .obtain⟨o',e1⟩:=I.base.there b o e hx
   exact⟨o',(hs.2 b (Al (AW (Ah e) I.ok.above))).trans e1⟩
  .by_cases hj:j=i
   .subst hj
    rw[hi]at e1;cases e1;rw[Cw mD]at e2;cases e2;exact⟨u,r,.inl ⟨hk,by simp⟩⟩
   .rw[Bg (AH hj)]at e2
    obtain⟨u',r',q⟩:=hl j y v' e1 e2 e3;refine⟨u',r',?_⟩;rcases q with⟨k,e⟩|⟨k,c,e,z⟩
    .refine .inl ⟨k,?_⟩
     have:y≠x:=λe=>hj (PM hN e1 (e▸hi));simp[this,e]
    .exact .inr ⟨k,c,e,z.sameBut hs (cne y c e)⟩
  .obtain⟨w',z⟩:=I.cell y c e
   exact⟨w',z.sameBut hs (cne y c e)⟩
  .obtain⟨e,n,ne,nf,d⟩:=I.pin p hp
   exact⟨(hs.2 p.1 ne).trans e,n,ne,nf,d⟩
 .have kY:X.fn x=true:=by
   rcases hf with z|z
   .exact z
   .rw[z]at hk;cases hk
  obtain⟨c,hc⟩:=I.ok.has x (.inl hk);obtain⟨w',z⟩:=I.cell x c hc;refine wpAny_storeName_cell I.ok.kind hk hc z (λh' hc' hs=>?_);obtain⟨oc,mm,lK⟩:=id z;refine h {s with heap:=h'} ⟨I.ok,I.os,I.bare,⟨λb o e n hb hx=>?_,λb o e n hb hx=>?_,I.base.free,λb o e hx=>?_,I.base.tups,I.base.frzs,I.base.tbls⟩,⟨m,hn.sameBut hs (AH (cne x c hc)),λj y v' e1 e2 e3=>?_⟩,λy c' e=>?_,I.free,I.freeC,λp hp=>?_,fz ⟨oc,mm,I.freeC x c hc⟩ hs,by simpa using I.len⟩ ⟨c,hs,.inr hc⟩
  .exact(hs.2 b (Al (AW (Ah e) (I.ok.cab x c kY hc)))).trans (I.base.keep b o e n hb hx)
  .obtain⟨sl,e1⟩:=I.base.slot b o e n hb hx
   exact⟨sl,(hs.2 b (Al (AW (Ah e) (I.ok.cab x c kY hc)))).trans e1⟩
  .obtain⟨o',e1⟩:=I.base.there b o e hx
   exact⟨o',(hs.2 b (Al (AW (Ah e) (I.ok.cab x c kY hc)))).trans e1⟩
  .by_cases hj:j=i
   .subst hj
    rw[hi]at e1;cases e1;rw[Cw mD]at e2;cases e2;exact⟨u,r,.inr ⟨.inl hk,c,hc,hc'⟩⟩
   .rw[Bg (AH hj)]at e2
    obtain⟨u',r',q⟩:=hl j y v' e1 e2 e3;refine⟨u',r',?_⟩;rcases q with q|⟨k,c',e,z'⟩
    .exact .inl q
    .refine .inr ⟨k,c',e,z'.sameBut hs ?_⟩
     rintro rfl
     exact hj (PM hN e1 (I.ok.inj _ _ _ e hc▸hi))
  .by_cases fV:c'=c
   .subst fV;exact⟨_,hc'⟩
   .obtain⟨w2,z2⟩:=I.cell y c' e
    exact⟨w2,z2.sameBut hs fV⟩
  .obtain⟨e,n,ne,nf,d⟩:=I.pin p hp
   refine⟨(hs.2 p.1 ?_).trans e,n,ne,nf,d⟩;intro q;rw[q,mm]at e;have q':oc=p.2:=Bl e;exact d w' (by rw[<-q'];exact lK)
theorem PR{M:Model}{v:V}{Q:Unit->Shared->Prop}(I:Inv X bT Y H s)(hN:X.N.Nodup)(hi:X.N[i]?=some x)(hx:Loc X.env.scope x)(r:RelV v u)(h:∀s',Inv X bT (Y.set i (some v)) H s'->Q () s')(hf:X.fn x=true\/X.env.scope.names.lookup x=some .local:=by first|exact .inl rfl|exact .inr rfl|assumption):wpAny M A (storeName X.env x u) Q E s :=
 P6 I hN hi hx r (λs' I' _=>h s' I') hf
theorem Inv.call'{s':Shared}(I:Inv X bT Y H s)(ho:s'.os=s.os)(u:Un (fF X.stack) ch H H' s.heap s'.heap)(hok:cV X.prog X.w H' s'.heap)(hg:AllBare s'.gens)(gq:∀b∈ch,(b∈X.ex\/X.s₀.heap.objs.size<=b)/\b≠X.env.locals/\(∀x c,X.env.cells.lookup x=some c->c≠b)/\∀p∈X.pn++bT,p.1≠b):Inv X bT Y H' s':=by
 obtain⟨h',g',d',t',o'⟩:=s';have e:o'=s.os:=ho;subst e;exact I.call (g':=g') (t':=t') (d':=d') u hok hg gq
end
abbrev XK:=Value->Option Addr->J->Prop
abbrev St:=List (Option V)
abbrev VK:=V->J->Prop
abbrev TE:=St->J->VK->Prop
abbrev TT:=St->J->(Bool->J->Prop)->Prop
abbrev TA:=St->J->(List V->J->Prop)->Prop
structure fj where
 nx:St->J->Prop
 rt:VK
 bk:St->J->Prop:=λ_ _=>False
 ct:St->J->Prop:=λ_ _=>False
abbrev TS:=fj->St->J->Prop
inductive EP(X:Cx)(bT:List (Addr×Obj))(Y:St)(Q:VK)(u:Value)(s':Shared):Prop
 |mk (v:V) (H':J) (I:Inv X bT Y H' s') (r:RelV v u) (q:Q v H'):EP X bT Y Q u s'
inductive TP(X:Cx)(bT:List (Addr×Obj))(Y:St)(Q:Bool->J->Prop)(b:Bool)(s':Shared):Prop
 |mk (H':J) (I:Inv X bT Y H' s') (q:Q b H'):TP X bT Y Q b s'
inductive AP(X:Cx)(bT:List (Addr×Obj))(Y:St)(Q:List V->J->Prop)(us:List Value)(s':Shared):Prop
 |mk (vs:List V) (H':J) (I:Inv X bT Y H' s') (r:bW vs us) (q:Q vs H'):AP X bT Y Q us s'
inductive km(X:Cx)(bT:List (Addr×Obj))(N:St->J->Prop)(s':Shared):Prop
 |mk (σ':St) (H':J) (I:Inv X bT σ' H' s') (q:N σ' H'):km X bT N s'
inductive mR(X:Cx)(bT:List (Addr×Obj))(R:V->J->Prop)(u:Value)(s':Shared):Prop
 |mk (v:V) (σ':St) (H':J) (I:Inv X bT σ' H' s') (r:RelV v u) (q:R v H'):mR X bT R u s'
def SP(X:Cx)(bT:List (Addr×Obj))(D:fj)(f:Flow)(s':Shared):Prop :=
 match f with
 | .next=>km X bT D.nx s'
 | .brk=>km X bT D.bk s'
 | .cont=>km X bT D.ct s'
 | .ret u=>mR X bT D.rt u s'
def PE(X:Cx)(e:Expr)(t:TE):Prop :=
 ∀(bT:List (Addr×Obj)) (s:Shared) (Y:St) (H:J) (Q:VK),Inv X bT Y H s->t Y H Q->wpAny (model X.prog X.w) X.A (eval e X.env) (EP X bT Y Q) X.xe s
def PT(X:Cx)(e:Expr)(t:TT):Prop :=
 ∀(bT:List (Addr×Obj)) (s:Shared) (Y:St) (H:J) (Q:Bool->J->Prop),Inv X bT Y H s->t Y H Q->wpAny (model X.prog X.w) X.A (isTrue e X.env (eval e X.env)) (TP X bT Y Q) X.xe s
def PW(X:Cx)(e:Expr)(t:TT):Prop :=
 ∀(cG:Sem Value) (bT:List (Addr×Obj)) (s:Shared) (Y:St) (H:J) (Q:Bool->J->Prop),Inv X bT Y H s->t Y H Q->wpAny (model X.prog X.w) X.A (isTrue e X.env cG) (TP X bT Y Q) X.xe s
theorem PW.pt{X:Cx}{e:Expr}{t:TT}(h:PW X e t):PT X e t:=h _
def PA(X:Cx)(es:List Expr)(t:TA):Prop :=
 ∀(pos:Pos) (bT:List (Addr×Obj)) (s:Shared) (Y:St) (H:J) (Q:List V->J->Prop),Inv X bT Y H s->t Y H Q->wpAny (model X.prog X.w) X.A (spliced (backTo pos (Ag es X.env))) (AP X bT Y Q) X.xe s
def PS(X:Cx)(st:Stmt)(t:TS):Prop :=
 ∀(bT:List (Addr×Obj)) (s:Shared) (Y:St) (H:J) (D:fj),Inv X bT Y H s->t D Y H->wpAny (model X.prog X.w) X.A (exec st X.env) (SP X bT D) X.xe s
def dz(X:Cx)(st:List Stmt)(t:TS):Prop :=
 ∀(bT:List (Addr×Obj)) (s:Shared) (Y:St) (H:J) (D:fj),Inv X bT Y H s->t D Y H->wpAny (model X.prog X.w) X.A (execs st X.env) (SP X bT D) X.xe s
theorem b9{α:Type}{t:Sem α}{Q Q':α->Shared->Prop}{M:Model}{s:Shared}(h:wpAny M A t Q E s)(hQ:∀a s,Q a s->Q' a s):wpAny M A t Q' E s:=B5 h hQ λ_ _ x=>x
end
section
variable{H:J}{bT:List (Addr×Obj)}{pos:Pos}{s:Shared}{Y:St}{x:Str}{u:Value}{E Q:Value->Shared->Prop}
section
variable{X:Cx}
def Dt(i:Nat):TE:=λY H Q=>∃v,Y[i]?=some (some v)/\Q v H
def tC(v:V):TE:=λ_ H Q=>Q v H
theorem CY{i:Nat}(hN:X.N[i]?=some x)(hv:d6 X.env.scope x)(hd:(x==("__debug__":Str))=false:=by decide)(dP:(x==("__classdict__":Str))=false:=by decide):PE X (.Name x pos) (Dt i):=by
 intro bT s Y H Q I h;obtain⟨v,e,h⟩:=h;obtain⟨m,hn,hl⟩:=I.loc;obtain⟨u,r,l⟩:=hl i x v hN e hv;have cN:EP X bT Y Q u s:=⟨v,H,I,r,h⟩;rcases l with⟨hk,hm⟩|⟨hk,c,hc,ik⟩
 .exact wpAny_Name (wpAny_loadName_local I.ok.kind hk hn hm cN) hd
 .rcases hk with hk|hk
  .exact wpAny_Name (wpAny_loadName_cell I.ok.kind hk hc ik cN) hd
  .exact wpAny_Name (wpAny_loadName_free I.ok.kind hk hc ik cN dP) hd
theorem OD{i j pos}:PE X (.Constant (.int i) j pos) (tC (.int i)):=λ_ _ _ H _ I h=>wpAny_Constant_int ⟨.int i,H,I.tok _,⟨_,rfl⟩,h⟩
theorem RU{b j pos}:PE X (.Constant (.bool b) j pos) (tC (.bl b)):=λ_ _ _ H _ I h=>Constant_bool ⟨.bl b,H,I,rfl,h⟩
def Gl(X:Cx)(x:Str):Prop:=X.env.kindOf x=some .globalImplicit
theorem OR(I:Inv X bT Y H s)(hg:Gl X x)(hm:X.mg x=some u)(h:Q u s)(hd:(x==("__debug__":Str))=false:=by decide):wpAny (model X.prog X.w) X.A (eval (.Name x pos) X.env) Q E s :=
 Nw I.ok.kind hg (Calls.loadGlobal_global (by rw[I.ok.glob];exact I.mod.glob.keeps I.bk) hm h) hd
theorem G6(I:Inv X bT Y H s)(hg:Gl X x)(hm:X.mg x=none)(hv:Be x=some u)(h:Q u s)(hn:x ≠ "__name__":=by decide)(hd:(x==("__debug__":Str))=false:=by decide):wpAny (model X.prog X.w) X.A (eval (.Name x pos) X.env) Q E s:=by
 obtain⟨mb,h1,h2⟩:=I.mod.blt;exact Nw I.ok.kind hg (Calls.loadGlobal_builtin (by rw[I.ok.glob];exact I.mod.glob.keeps I.bk) hm (by rw[I.ok.blt];exact h1.keeps I.bk) ((h2 x hn).trans hv) h) hd
theorem TY{v:V}(hg:Gl X x)(hm:X.mg x=some u)(r:RelV v u)(hd:(x==("__debug__":Str))=false:=by decide):PE X (.Name x pos) (tC v) :=
 λ_ _ _ H _ I h=>OR I hg hm ⟨v,H,I,r,h⟩ hd
theorem Tz{v:V}(hg:Gl X x)(hm:X.mg x=none)(hv:Be x=some u)(r:RelV v u)(hn:x ≠ "__name__":=by decide)(hd:(x==("__debug__":Str))=false:=by decide):PE X (.Name x pos) (tC v) :=
 λ_ _ _ H _ I h=>G6 I hg hm hv ⟨v,H,I,r,h⟩ hn hd
variable{a b:Expr}{ta tb:TE}{pos:Pos}
theorem PC(b:Expr){op:CmpOp}(h:op≠.In)(h2:op≠.NotIn):DO op b=false:=by
 have e1:(op==CmpOp.In)=false:=by cases op<;>first|rfl|exact absurd rfl h
 have e2:(op==CmpOp.NotIn)=false:=by cases op<;>first|rfl|exact absurd rfl h2
 cases b<;>simp[DO,e1,e2]
def tB(t:TE):TT:=λY H Q=>t Y H λx H1=>∃c,x=.bl c/\Q c H1
theorem Uh{e:Expr}{t:TE}(h:PE X e t)(he:∀cG,isTrue e X.env cG=(do let v <-cG;standAt e.pos;holding [v] (truthy v)):=by intro _;rfl):PT X e (tB t):=by intro bT s Y H Q I hw;refine isTrue_plain (b9 (h bT s Y H _ I hw) λv s1 ⟨x,H1,I1,r1,q1⟩=>?_) (he _);obtain⟨d,rfl,q⟩:=q1;cases r1;exact DS ⟨H1,I1,q⟩
variable{tA tB':TT}{rest:List Expr}
def GZ(t u:TT):TT:=λY H Q=>t Y H λc H1=>if c=true then u Y H1 Q else Q false H1
def i9(t u:TT):TT:=λY H Q=>t Y H λc H1=>if c=true then Q true H1 else u Y H1 Q
def CW(t:TT):TT:=λY H Q=>t Y H λc H1=>Q (!c) H1
theorem U5(ha:PT X a tA):PW X (.BoolOp .And [a] pos) tA:=by
 intro wh bT s Y H Q I h;refine isTrue_and (b9 (ha bT s Y H Q I h) λc s1 e=>?_);cases c with
 |true=>exact isTrue_and_nil e
 |false=>exact e
theorem Ug(ha:PT X a tA):PW X (.BoolOp .Or [a] pos) tA:=by
 intro wh bT s Y H Q I h;refine isTrue_or (b9 (ha bT s Y H Q I h) λc s1 e=>?_);cases c with
 |false=>exact isTrue_or_nil e
 |true=>exact e
theorem Oo(ha:PT X a tA)(hb:PW X (.BoolOp .And (b::rest) pos) tB'):PW X (.BoolOp .And (a::b::rest) pos) (GZ tA tB'):=by
 intro wh bT s Y H Q I h;refine isTrue_and (b9 (ha bT s Y H _ I h) λc s1 ⟨H1,I1,q1⟩=>?_);cases c with
 |true=>exact hb wh bT s1 Y H1 Q I1 q1
 |false=>exact⟨H1,I1,q1⟩
theorem Oc(ha:PT X a tA)(hb:PW X (.BoolOp .Or (b::rest) pos) tB'):PW X (.BoolOp .Or (a::b::rest) pos) (i9 tA tB'):=by
 intro wh bT s Y H Q I h;refine isTrue_or (b9 (ha bT s Y H _ I h) λc s1 ⟨H1,I1,q1⟩=>?_);cases c with
 |true=>exact⟨H1,I1,q1⟩
 |false=>exact hb wh bT s1 Y H1 Q I1 q1
theorem SO(ha:PT X a tA):PT X (.UnaryOp .Not a pos) (CW tA):=by intro bT s Y H Q I h;exact isTrue_not (b9 (ha bT s Y H (λc H1=>Q (!c) H1) I h) λ_ _ ⟨H',I',q'⟩=>⟨H',I',q'⟩)
def RA(ta tb:TE):TE:=λY H Q=>ta Y H λx H1=>∃c,x=.bl c/\if c=true then tb Y H1 Q else Q (.bl false) H1
theorem Sj{op}{t:TE}(h:PE X a t):PE X (.BoolOp op [a] pos) t:=λbT s Y H Q I hw=>BoolOp_one (h bT s Y H Q I hw)
theorem Ot(ha:PE X a ta)(hb:PE X (.BoolOp .And (b::rest) pos) tb):PE X (.BoolOp .And (a::b::rest) pos) (RA ta tb):=by
 intro bT s Y H Q I h;refine BoolOp_and (b9 (ha bT s Y H _ I h) λv s1 ⟨x,H1,I1,r1,q1⟩=>?_);obtain⟨c,rfl,q1⟩:=q1;cases r1;refine DS ?_;cases c with
 |true=>exact hb bT s1 Y H1 Q I1 q1
 |false=>exact⟨.bl false,H1,I1,rfl,q1⟩
end
end
section
variable{X:Cx}{c tg:Expr}{H:J}{bT:List (Addr×Obj)}{es:List Expr}{i:Nat}{P:Program}{K:Ad}{s:Shared}{Y:St}{x:Str}{u:Value}{E:Value->Shared->Prop}
def cF(K:Ad)(H:J)(a:Addr)(xs:List V):Prop :=
 Rd H a (.lst xs) \/
  ∃(o:Obj) (its:Array Value) (n:Nat),K.lookup a=some o/\o.cls=.type "list"/\o.dict=none/\o.data=.seq its n/\its.size<=sizeLine/\bW xs its.toList
def da(K:Ad)(H:J)(a:Addr)(xs:List V):Prop :=
 Rd H a (.tup xs) \/
  ∃(o:Obj) (its:Array Value) (n:Nat),K.lookup a=some o/\o.cls=.type "tuple"/\o.data=.seq its n/\its.size<=sizeLine/\bW xs its.toList
def Rr:Value->Option V
 | .none=>some .non
 | .bool b=>some (.bl b)
 | .int i _=>some (.int i)
 | .str x _=>some (.str x)
 | .bytes b _=>some (.byt b)
 | .float b _=>some (.flt b)
 | .ref a=>some (.ref a)
 | .type n=>some (.ty n)
 |_=>none
theorem RelV.abs{x:V}(r:RelV x u):Rr u=some x:=by
 cases x with
 |non=>cases r;rfl
 |bl _=>cases r;rfl
 |int _=>obtain⟨t,rfl⟩:=r;rfl
 |str _=>obtain⟨t,rfl⟩:=r;rfl
 |byt _=>obtain⟨t,rfl⟩:=r;rfl
 |flt _=>obtain⟨t,rfl⟩:=r;rfl
 |ref _=>cases r;rfl
 |ty _=>cases r;rfl
theorem RelV.inj{x y:V}{u:Value}(r:RelV x u)(q:RelV y u):x=y:=Bl (r.abs.symm.trans q.abs)
theorem bW.inj:∀{xs ys:List V} {us:List Value},bW xs us->bW ys us->xs=ys
 |_,_,_,.nil,.nil=>rfl
 |_,_,_,.cons r t,.cons r' t'=>by rw[r.inj r',bW.inj t t']
section
variable{X:Cx}{bT:List (Addr×Obj)}{Y:St}{H:J}{s:Shared}{a:Addr}{xs ys:List V}
theorem cF.of(h:H a=some (.lst xs)):cF K H a xs:=.inl (.inl h)
theorem da.of(h:H a=some (.tup xs)):da K H a xs:=.inl (.inl h)
theorem Inv.list(I:Inv X bT Y H s)(h:cF X.K H a xs):∃its:List Value,bW xs its/\PlainL s.heap a its.toArray/\xs.length<=sizeLine:=by
 rcases h with h|⟨o,its,n,hk,hc,hd,hs,hz,r⟩
 .obtain⟨z,its,n,r,e⟩:=h.ok I.hok
  exact⟨its,r,⟨_,n,e,rfl,rfl,rfl⟩,z⟩
 .refine⟨its.toList,r,⟨o,n,I.kIn a o hk,hc,hd,by simpa using hs⟩,?_⟩
  have e:=r.length;simp only[A6]at e;omega
theorem Inv.tuple(I:Inv X bT Y H s)(h:da X.K H a xs):∃its:List Value,bW xs its/\IsTup s.heap a its.toArray/\xs.length<=sizeLine:=by
 rcases h with h|⟨o,its,n,hk,hc,hs,hz,r⟩
 .obtain⟨z,its,r,p⟩:=h.ok I.hok
  exact⟨its,r,p,z⟩
 .refine⟨its.toList,r,⟨o,I.kIn a o hk,hc,n,by simpa using hs⟩,?_⟩
  have e:=r.length;simp only[A6]at e;omega
theorem Inv.list_inj(I:Inv X bT Y H s)(h:cF X.K H a xs)(h':cF X.K H a ys):xs=ys:=by
 obtain⟨its,r,⟨o,n,e,_,_,d⟩,_⟩:=I.list h;obtain⟨its',r',⟨o',n',e',_,_,d'⟩,_⟩:=I.list h';rw[e]at e';cases e';rw[d]at d';injection d' with d1 _
 have:its=its':=by simpa using congrArg Array.toList d1
 subst this;exact r.inj r'
theorem Inv.tuple_inj(I:Inv X bT Y H s)(h:da X.K H a xs)(h':da X.K H a ys):xs=ys:=by
 obtain⟨its,r,⟨o,e,_,n,d⟩,_⟩:=I.tuple h;obtain⟨its',r',⟨o',e',_,n',d'⟩,_⟩:=I.tuple h';rw[e]at e';cases e';rw[d]at d';injection d' with d1 _
 have:its=its':=by simpa using congrArg Array.toList d1
 subst this;exact r.inj r'
end
abbrev Cx.wish(X:Cx)(E:Value->Shared->Prop):Cx:={X with xe:=E}
abbrev Cx.nox(X:Cx):Cx:=X.wish λ_ _=>False
theorem Cx.Ok.wish{X:Cx}(ok:X.Ok)(E:Value->Shared->Prop):(X.wish E).Ok :=
 ⟨ok.mod,ok.kind,ok.glob,ok.blt,ok.above,ok.inj,ok.has,ok.cab,ok.hd,ok.frames,ok.stk,ok.exf,ok.bs,ok.bsz,ok.noex,ok.exfs,ok.funs,ok.frf⟩
theorem Cx.Ok.unwish(ok:(X.wish E).Ok):X.Ok :=
 ⟨ok.mod,ok.kind,ok.glob,ok.blt,ok.above,ok.inj,ok.has,ok.cab,ok.hd,ok.frames,ok.stk,ok.exf,ok.bs,ok.bsz,ok.noex,ok.exfs,ok.funs,ok.frf⟩
section
variable{X:Cx}{bT:List (Addr×Obj)}{Y:St}{H:J}{s:Shared}{E:Value->Shared->Prop}
theorem Inv.wish(I:Inv X bT Y H s)(E:Value->Shared->Prop):Inv (X.wish E) bT Y H s:=⟨I.ok.wish E,I.os,I.bare,I.base,I.loc,I.cell,I.free,I.freeC,I.pin,I.hok,I.len⟩
theorem Inv.unwish(I:Inv (X.wish E) bT Y H s):Inv X bT Y H s:=⟨I.ok.unwish,I.os,I.bare,I.base,I.loc,I.cell,I.free,I.freeC,I.pin,I.hok,I.len⟩
theorem SP.unwish{D:fj}{f:Flow}{s':Shared}(h:SP (X.wish E) bT D f s'):SP X bT D f s':=by
 cases f with
 |next=>obtain⟨σ',H',I,q⟩:=h;exact⟨σ',H',I.unwish,q⟩
 |brk=>obtain⟨σ',H',I,q⟩:=h;exact⟨σ',H',I.unwish,q⟩
 |cont=>obtain⟨σ',H',I,q⟩:=h;exact⟨σ',H',I.unwish,q⟩
 |ret u=>obtain⟨v,σ',H',I,r,q⟩:=h;exact⟨v,σ',H',I.unwish,r,q⟩
theorem dz.nox{st:List Stmt}{t:TS}(h:dz X.nox st t):dz X st t:=λbT s Y H D I hw=>B5 (h bT s Y H D (I.wish _) hw) (λ_ _ q=>q.unwish) λ_ _ z=>Cv z
end
section
variable{X:Cx}{st:Stmt}{rest:List Stmt}{t u:TS}{e:Expr}{te:TE}{pos:Pos}
def RF:TS:=λD Y H=>D.nx Y H
def Rk(t u:TS):TS:=λD Y H=>t {D with nx:=u D} Y H
theorem Tv:dz X [] RF:=λ_ _ Y H _ I h=>Ir ⟨Y,H,I,h⟩
theorem PQ(h1:PS X st t)(h2:dz X rest u):dz X (st::rest) (Rk t u):=by
 intro bT s Y H D I h;refine wpAny_execs_cons (b9 (h1 bT s Y H {D with nx:=u D} I h) λf s1 q=>?_);cases f with
 |next=>obtain⟨σ',H',I',q⟩:=q;exact h2 bT s1 σ' H' D I' q
 |ret v=>exact q
 |brk=>exact q
 |cont=>exact q
theorem OJ(h1:PS X st t):dz X [st] t:=by
 intro bT s Y H D I h;refine wpAny_execs_cons (b9 (h1 bT s Y H D I h) λf s1 q=>?_);cases f with
 |next=>exact Ir q
 |ret v=>exact q
 |brk=>exact q
 |cont=>exact q
theorem Inv.quiet(I:Inv X bT Y H s):interactive X.env=false:=by simp[interactive,I.ok.kind]
def K3(te:TE):TS:=λD Y H=>te Y H λ_ H1=>D.nx Y H1
theorem LC(he:PE X e te)(hs:Ct e none pos.line X.env=pure false:=by rfl):PS X (.Expr e pos) (K3 te):=by intro bT s Y H D I h;exact wpAny_Expr_any (b9 (he bT s Y H _ I h) λv s1 ⟨x,H1,I1,r1,q1⟩=>⟨Y,H1,I1,q1⟩) I.quiet hs
def Sb(te:TE):TS:=λD Y H=>te Y H D.rt
theorem SH(he:PE X e te):PS X (.Return (some e) pos) (Sb te):=by intro bT s Y H D I h;exact wpAny_Return_some (b9 (he bT s Y H _ I h) λv s1 ⟨x,H1,I1,r1,q1⟩=>⟨x,Y,H1,I1,r1,q1⟩)
def Sd(c:TT)(t u:TS):TS:=λD Y H=>c Y H λb H1=>if b=true then t D Y H1 else u D Y H1
theorem Od{a b:List Stmt}{tc:TT}(hc:PT X c tc)(ha:dz X a t)(hb:dz X b u):PS X (.If c a b pos) (Sd tc t u):=by
 intro bT s Y H D I h;refine wpAny_If (b9 (hc bT s Y H _ I h) λd s1 ⟨H1,I1,q1⟩=>?_);cases d with
 |true=>exact ha bT s1 Y H1 D I1 q1
 |false=>exact hb bT s1 Y H1 D I1 q1
def SD:TS:=λ_ _ _=>False
theorem Md{iT:List Stmt}:dz X iT SD:=λ_ _ _ _ _ _ h=>h.elim
end
abbrev TG:=V->St->J->(St->J->Prop)->Prop
abbrev iG:=List V->St->J->(St->J->Prop)->Prop
def PG(X:Cx)(dn:Expr)(t:TG):Prop :=
 ∀(bT:List (Addr×Obj)) (s:Shared) (Y:St) (H:J) (v:V) (u:Value) (Q:St->J->Prop),Inv X bT Y H s->RelV v u->t v Y H Q ->
  wpAny (model X.prog X.w) X.A (assign dn X.env u) (λ_ s'=>∃σ' H',Inv X bT σ' H' s'/\Q σ' H') X.xe s
def ko(X:Cx)(ts:List Expr)(t:iG):Prop :=
 ∀(bT:List (Addr×Obj)) (s:Shared) (Y:St) (H:J) (vs:List V) (us:List Value) (Q:St->J->Prop),Inv X bT Y H s->bW vs us->t vs Y H Q ->
  wpAny (model X.prog X.w) X.A (assignInOrder ((BQ ts X.env).map (·.2)) us) (λ_ s'=>∃σ' H',Inv X bT σ' H' s'/\Q σ' H') X.xe s
abbrev KY:=V->V->V->J->(J->Prop)->Prop
def NU(X:Cx)(t:KY):Prop :=
 ∀(bT:List (Addr×Obj)) (s:Shared) (Y:St) (H:J) (o i v:V) (ov iv u:Value) (Q:J->Prop),Inv X bT Y H s->RelV o ov->RelV i iv->RelV v u->t o i v H Q ->
  wpAny (model X.prog X.w) X.A (setItem ov iv u) (λ_ s'=>∃H',Inv X bT Y H' s'/\Q H') X.xe s
section
variable{X:Cx}{pos:Pos}
def IY(i:Nat):TG:=λv Y H Q=>Q (Y.set i (some v)) H
theorem CF(hN:X.N.Nodup)(hi:X.N[i]?=some x)(hx:Loc X.env.scope x)(hf:X.fn x=true\/X.env.scope.names.lookup x=some .local:=by first|exact .inl rfl|exact .inr rfl|assumption):PG X (.Name x pos) (IY i):=by intro bT s Y H v u Q I r h;exact wpAny_assign_Name (PR I hN hi hx r (λs' I'=>⟨_,H,I',h⟩) hf)
def NV:iG:=λvs Y H Q=>vs=[]/\Q Y H
def K4(t:TG)(u:iG):iG:=λvs Y H Q=>∃v r,vs=v::r/\t v Y H λσ' H'=>u r σ' H' Q
theorem OZ:ko X [] NV:=by intro bT s Y H vs us Q I r h;obtain⟨e,h⟩:=h;subst e;cases r;exact assignInOrder_nil ⟨Y,H,I,h⟩
theorem EN{e:Expr}{t:TG}{u:iG}(h1:PG X e t)(h2:ko X es u)(hs:(BQ (e::es) X.env).map (·.2)=assign e X.env::(BQ es X.env).map (·.2):=by rfl):ko X (e::es) (K4 t u):=by
 intro bT s Y H vs us Q I r h;obtain⟨v,vr,e1,h⟩:=h;subst e1;cases r with
 |cons r rr=>rw[hs];refine assignInOrder_cons (b9 (h1 bT s Y H _ _ _ I r h) λ_ s1 ⟨σ1,H1,I1,q1⟩=>?_);exact h2 bT s1 σ1 H1 _ _ Q I1 rr q1
def NY(K:Ad)(n:Nat)(t:iG):TG:=λv Y H Q=>∃a xs,v=.ref a/\da K H a xs/\xs.length=n/\t xs Y H Q
theorem Oz{k:Nat}{t:iG}{n:Nat}(hc:X.calm=true)(h:ko X es t)(hn:(BQ es X.env).length=n:=by rfl)(dM:(BQ es X.env).findIdx? (·.1)=none:=by rfl):PG X (.Tuple es k pos) (NY X.K n t):=by
 intro bT s Y H v u Q I r hw;obtain⟨a,xs,e1,hq,hl,hw⟩:=hw;subst e1;cases r;obtain⟨its,rv,ht,hz⟩:=I.tuple hq;refine assign_Tuple_tuple (I.ok.hd hc) ht (by simp[hn,<-hl,rv.length]) dM λh' hx=>?_;have I1:Inv X bT Y H {s with heap:=h'}:=I.kept (t':=s.toks) λb o e=>hx b o (Al (Ah e)) e;exact h bT _ Y H xs _ Q I1 (by simpa using rv) hw
def GX(to ti:TE)(t:KY):TG:=λv Y H Q=>to Y H λo H1=>ti Y H1 λi H2=>t o i v H2 λH3=>Q Y H3
theorem Se{o i:Expr}{to ti:TE}{t:KY}(ho:PE X o to)(hi:PE X i ti)(hs:NU X t)
  (ha:∀v,assign (.Subscript o i pos) X.env v=(do
   let ov <-holding [v] (eval o X.env)
   let iv <-holding [v,ov] (eval i X.env)
   standAt pos
   holding [v,ov,iv] (setItem ov iv v)
   release [v,ov,iv] []):=by intro _;rfl):PG X (.Subscript o i pos) (GX to ti t):=by
 intro bT s Y H v u Q I r h;rw[ha];refine Aa (BR (b9 (ho bT s Y H _ I h) λov s1 ⟨x,H1,I1,r1,q1⟩=>?_));refine Aa (BR (b9 (hi bT s1 Y H1 _ I1 q1) λiv s2 ⟨y,H2,I2,r2,q2⟩=>?_));refine Aa (wpAny_standAt (Aa (BR (b9 (hs bT s2 Y H2 x y v ov iv u _ I2 r1 r2 r q2) λ_ s3 ⟨H3,I3,q3⟩=>?_))));exact wpAny_release ⟨Y,H3,I3,q3⟩
def NZ(te:TE)(g:TG):TS:=λD Y H=>te Y H λx H1=>g x Y H1 D.nx
theorem Ov{e:Expr}{te:TE}{g:TG}(he:PE X e te)(hg:PG X tg g)(hs:swapsWithSole [tg] e pos.line X.env=pure false:=by rfl)(hw:swappedStores [tg] e X.env=pure none:=by rfl)(h1:(BQ [tg] X.env).map (·.2)=[assign tg X.env]:=by rfl):PS X (.Assign [tg] e pos) (NZ te g):=by
 intro bT s Y H D I h;refine wpAny_Assign_stores (b9 (he bT s Y H _ I h) λv s1 ⟨x,H1,I1,r1,q1⟩=>?_) hs hw;rw[h1];exact b9 (hg bT s1 Y H1 x v _ I1 r1 q1) λ_ s2 ⟨σ',H',I',q'⟩=>⟨σ',H',I',q'⟩
theorem Og{e:Expr}{te:TE}{pos':Pos}(hN:X.N.Nodup)(hi:X.N[i]?=some x)(hx:Loc X.env.scope x)(he:PE X e te)(hs:Ct e (some (.Name x pos')) pos.line X.env=pure false:=by rfl)(hf:X.fn x=true\/X.env.scope.names.lookup x=some .local:=by first|exact .inl rfl|exact .inr rfl|assumption):PS X (.Assign [.Name x pos'] e pos) (NZ te (IY i)):=by
 intro bT s Y H D I h;refine wpAny_Assign_Name (b9 (he bT s Y H _ I h) λv s1 ⟨y,H1,I1,r1,q1⟩=>?_) hs;exact PR I1 hN hi hx r1 (λs2 I2=>⟨_,H1,I2,q1⟩) hf
end
section
variable{X:Cx}{pos:Pos}
def SE(c:TT)(tb:TS):TS:=λD Y H=>∃W:Nat->St->J->Prop,(∃m,W m Y H)/\∀m Y H,W m Y H ->
 c Y H λb H1=>if b=true then ∃N:St->J->Prop,(∀σ' H',N σ' H'->∃m',m'<m/\W m' σ' H')/\tb {D with nx:=N,ct:=N,bk:=D.nx} Y H1 else D.nx Y H1
theorem UD{body:List Stmt}{tc:TT}{tb:TS}(hp:PassesOwn (model X.prog X.w) X.A X.env X.xe)(hc:PT X c tc)(hb:dz X body tb):PS X (.While c body [] pos) (SE tc tb):=by
 intro bT s Y H D I h;obtain⟨W,⟨m0,w0⟩,eG⟩:=h;refine wpAny_While (codeAny_whileLoop (λn s'=>∃σ' H',Inv X bT σ' H' s'/\W n σ' H') ?_ m0 ⟨Y,H,I,w0⟩)
 rintro n s1 ⟨σ1,H1,I1,w1⟩
 refine Eo hp (b9 (hc bT s1 σ1 H1 _ I1 (eG n σ1 H1 w1)) λb s2 ⟨H2,I2,q2⟩=>?_);cases b with
 |true =>
  obtain⟨N,hN,q2⟩:=q2;rw[if_pos rfl];refine Eo hp (b9 (hb bT s2 σ1 H2 _ I2 q2) λf s3 q3=>?_);cases f with
  |next=>obtain⟨σ3,H3,I3,n3⟩:=q3;obtain⟨m',hm,w3⟩:=hN σ3 H3 n3;exact⟨m',hm,σ3,H3,I3,w3⟩
  |cont=>obtain⟨σ3,H3,I3,n3⟩:=q3;obtain⟨m',hm,w3⟩:=hN σ3 H3 n3;exact⟨m',hm,σ3,H3,I3,w3⟩
  |brk=>exact q3
  |ret v=>exact q3
 |false=>rw[if_neg Bn];exact Ir ⟨σ1,H2,I2,q2⟩
end
structure It where
 go:Nat->J->Prop
 yld:Nat->J->V->J->Prop
 stop:Nat->J->Prop
def Bq(X:Cx)(bT:List (Addr×Obj))(H:J)(b:Addr):Prop :=
 H b=none/\b≠X.env.locals/\b∉X.fs/\(b∈X.ex\/X.s₀.heap.objs.size<=b)/\(∀x c,X.env.cells.lookup x=some c->c≠b)/\∀p∈X.pn++bT,p.1≠b
theorem Inv.fpOk{H':J}{b:Addr}(I:Inv X bT Y H s)(hb:s.heap.objs.size<=b)(hn:H' b=none):Bq X bT H' b:=by
 refine⟨hn,Df (AW I.lt hb),I.nofs hb,.inr (Ba I.sz hb),λx c e z=>?_,λp hp z=>?_⟩
 .obtain⟨v,q⟩:=I.cell x c e
  exact absurd (AW q.lt (by rw[z];exact hb)) (Es _)
 .exact absurd (AW (Ah (I.pin p hp).1) (by rw[z];exact hb)) (Es _)
structure e9(P:Program)(w:World)(K:Ad)(tg:Expr)(pA:It)(fp:List Addr)(it:Addr)(tn:Nat->Heap->Prop):Prop where
 mem:it∈fp
 obj:∀i h,tn i h->∀b∈fp,∃o,h.get? b=some o/\∀v,o.data≠.cell v
 keep:∀i h h',tn i h->(∀b∈fp,∀o,h.get? b=some o->h'.get? b=some o)->tn i h'
 item:∀(X:Cx),X.prog=P->X.w=w->X.K=K->X.calm=true->∀(i:Nat) (bT:List (Addr×Obj)) (s:Shared) (Y:St) (H:J) (E:Value->Shared->Prop),Inv X bT Y H s->(∀b∈fp,Bq X bT H b)->tn i s.heap->pA.go i H ->
  wpAny (model P w) X.A (pyNext (.ref it)) (λr s1=>∃u,r=some u /\
   wpAny (model P w) X.A (Iq tg (.ref it) u) (λ_ s2=>∃x H',Inv X bT Y H' s2/\RelV x u/\pA.yld i H x H'/\tn (i+1) s2.heap/\∀b∈fp,H' b=none) E s1) E s
 done:∀(X:Cx),X.prog=P->X.w=w->X.K=K->X.calm=true->∀(i:Nat) (bT:List (Addr×Obj)) (s:Shared) (Y:St) (H:J) (E:Value->Shared->Prop),Inv X bT Y H s->(∀b∈fp,Bq X bT H b)->tn i s.heap->pA.stop i H ->
  wpAny (model P w) X.A (pyNext (.ref it)) (λr s1=>r=none/\Inv X bT Y H s1) E s
 self:∀(A:Around) (i:Nat) (s:Shared) (Q:Value->Shared->Prop) (E:Value->Shared->Prop),tn i s.heap->Q (.ref it) s->wpAny (model P w) A (pyIter (.ref it)) Q E s
abbrev TI:=St->J->(It->J->Prop)->Prop
def mS(X:Cx)(bT:List (Addr×Obj))(Y:St)(tg:Expr)(R:It->J->Prop)(jj:Value)(s2:Shared):Prop :=
 ∃(it:Addr) (fp:List Addr) (tn:Nat->Heap->Prop) (pA:It) (H':J),jj=.ref it/\Inv X bT Y H' s2/\e9 X.prog X.w X.K tg pA fp it tn/\tn 0 s2.heap/\(∀b∈fp,Bq X bT H' b)/\R pA H'
def PI(X:Cx)(tg iter:Expr)(wi:TI):Prop :=
 ∀(bT:List (Addr×Obj)) (s:Shared) (Y:St) (H:J) (R:It->J->Prop),Inv X bT Y H s->wi Y H R ->
  wpAny (model X.prog X.w) X.A (eval iter X.env) (λv s1=>wpAny (model X.prog X.w) X.A (pyIter v) (mS X bT Y tg R) X.xe s1) X.xe s
theorem K9{M:Model}{A:Around}{it:Addr}{o:Obj}{n:String}{vs:Array Value}{Q:Unit->Shared->Prop}(ho:s.heap.get? it=some o)(hc:o.cls=.type n)(hd:o.data=.fields vs)(hn:["enumerate","zip","dict_itemiterator","dict_reverseitemiterator","odict_iterator","itertools.zip_longest","itertools.pairwise"].contains n=false)(hQ:Q () s):wpAny M A (Iq tg (.ref it) u) Q E s:=by
  unfold Iq
  cases tg<;>first
    | exact Ac hQ
    | (cases u<;>first
        | exact Ac hQ
        | (refine Aa (wpAny_load ho ?_)
           rw [hc, hd]
           show wpAny M A (if (["enumerate", "zip", "dict_itemiterator", "dict_reverseitemiterator", "odict_iterator", "itertools.zip_longest", "itertools.pairwise"].contains n && vs[0]? == some (rawInt _)) = true then _ else _) Q E s
           rw [if_neg (by intro h; rw [hn, Bool.false_and] at h; cases h)]
           exact Ac hQ))
def lx(K:Ad)(a:Addr):It :=
 ⟨λi H=>∃xs x,cF K H a xs/\xs[i]?=some x,λi H x H'=>H'=H/\∀xs,cF K H a xs->xs[i]?=some x,λi H=>∃xs,cF K H a xs/\xs.length<=i⟩
def kq(K:Ad)(a:Addr):It :=
 ⟨λi H=>∃xs x,da K H a xs/\xs[i]?=some x,λi H x H'=>H'=H/\∀xs,da K H a xs->xs[i]?=some x,λi H=>∃xs,da K H a xs/\xs.length<=i⟩
def kr(lo:Int)(n:Nat):It:=⟨λi _=>i<n,λi H x H'=>H'=H/\x=.int (lo+i),λi _=>n<=i⟩
theorem Vs{w:World}(a it:Addr):e9 P w K tg (lx K a) [it] it (λi h=>h.IsListIter it a i) where
 mem:=by simp
 obj:=λi h st b hb=>by
  have e:b=it:=by simpa using hb
  subst e;obtain⟨o,e,c,d⟩:=st;exact⟨o,e,λv z=>by rw[d]at z;cases z⟩
 keep:=λi h h' st k=>st.at λo e=>k it (by simp) o e
 item:=by intro X hP hw hK hc i bT s Y H E I hf st hg;subst hP hw hK;obtain⟨xs,x,hq,hx⟩:=hg;obtain⟨its,rv,p,hz⟩:=I.list hq;obtain⟨u,hu,ru⟩:=rv.get hx;obtain⟨f0,f1,f2,f3,f4,f5⟩:=hf it (by simp);refine wpAny_pyNext_list_item st p.isList (x:=u) (by simpa using hu) λh' st' sb=>?_;have I1:Inv X bT Y H {s with heap:=h'}:=I.turned (t':=s.toks) (λb o hb e=>(sb.2 b hb).trans e) f0 f1 f3 f4 f5;obtain⟨o,e,c,d⟩:=id st';exact⟨u,rfl,K9 (s:={s with heap:=h'}) e c d (by decide) ⟨x,H,I1,ru,⟨rfl,λys hy=>by rw[I.list_inj hy hq];exact hx⟩,st',λb hb=>(hf b hb).1⟩⟩
 done:=by intro X hP hw hK hc i bT s Y H E I hf st hg;subst hP hw hK;obtain⟨xs,hq,hx⟩:=hg;obtain⟨its,rv,p,hz⟩:=I.list hq;obtain⟨f0,f1,f2,f3,f4,f5⟩:=hf it (by simp);have hl:=rv.length;exact wpAny_pyNext_list_end (I.ok.hd hc) st p.isList (by simp;omega) λh' eb=>⟨rfl,I.turned (t':=s.toks) (λb o hb e=>eb b o hb e) f0 f1 f3 f4 f5⟩
 self:=λ_ _ _ _ _ st h=>wpAny_pyIter_listiter st h
theorem WS{w:World}(a it:Addr):e9 P w K tg (kq K a) [it] it (λi h=>h.IsTupleIter it a i) where
 mem:=by simp
 obj:=λi h st b hb=>by
  have e:b=it:=by simpa using hb
  subst e;obtain⟨o,e,c,d⟩:=st;exact⟨o,e,λv z=>by rw[d]at z;cases z⟩
 keep:=λi h h' st k=>st.at λo e=>k it (by simp) o e
 item:=by intro X hP hw hK hc i bT s Y H E I hf st hg;subst hP hw hK;obtain⟨xs,x,hq,hx⟩:=hg;obtain⟨its,rv,p,hz⟩:=I.tuple hq;obtain⟨u,hu,ru⟩:=rv.get hx;obtain⟨f0,f1,f2,f3,f4,f5⟩:=hf it (by simp);refine wpAny_pyNext_tuple_item st (show s.heap.IsTuple a its.toArray from p) (x:=u) (by simpa using hu) λh' st' sb=>?_;have I1:Inv X bT Y H {s with heap:=h'}:=I.turned (t':=s.toks) (λb o hb e=>(sb.2 b hb).trans e) f0 f1 f3 f4 f5;obtain⟨o,e,c,d⟩:=id st';exact⟨u,rfl,K9 (s:={s with heap:=h'}) e c d (by decide) ⟨x,H,I1,ru,⟨rfl,λys hy=>by rw[I.tuple_inj hy hq];exact hx⟩,st',λb hb=>(hf b hb).1⟩⟩
 done:=by intro X hP hw hK hc i bT s Y H E I hf st hg;subst hP hw hK;obtain⟨xs,hq,hx⟩:=hg;obtain⟨its,rv,p,hz⟩:=I.tuple hq;obtain⟨f0,f1,f2,f3,f4,f5⟩:=hf it (by simp);have hl:=rv.length;exact wpAny_pyNext_tuple_end (I.ok.hd hc) st (show s.heap.IsTuple a its.toArray from p) (by simp;omega) λh' eb=>⟨rfl,I.turned (t':=s.toks) (λb o hb e=>eb b o hb e) f0 f1 f3 f4 f5⟩
 self:=λ_ _ _ _ _ st h=>wpAny_pyIter_tupleiter st h
theorem Wj{w:World}(it:Addr)(lo:Int)(n:Nat):e9 P w K tg (kr lo n) [it] it (λi h=>IsRangeIter h it (lo+(i:Nat)*1) ((n:Int)-(i:Nat)) 1) where
 mem:=by simp
 obj:=λi h st b hb=>by
  have e:b=it:=by simpa using hb
  subst e;exact⟨_,st,λv z=>by have z':Data.fields _=Data.cell v:=z;cases z'⟩
 keep:=λi h h' st k=>k it (by simp) _ st
 item:=by intro X hP hw hK hc i bT s Y H E I hf st hg;subst hP hw hK;obtain⟨f0,f1,f2,f3,f4,f5⟩:=hf it (by simp);have W:=Walks.range (prog:=X.prog) (w:=X.w) (I.ok.hd hc) it lo 1 n;refine W.item i s _ _ hg st λv h' tk hv st' kk=>?_;obtain⟨t,rfl⟩:=hv;have I1:Inv X bT Y H {s with heap:=h',toks:=tk}:=I.turned (λb o hb e=>kk b o (by simpa using hb) e) f0 f1 f3 f4 f5;refine⟨_,rfl,K9 (s:={s with heap:=h',toks:=tk}) (n:="range_iterator") st' rfl rfl (by decide) ⟨.int (lo+i),H,I1,⟨t,?_⟩,⟨rfl,rfl⟩,st',λb hb=>(hf b hb).1⟩⟩;rw[Int.mul_one]
 done:=by intro X hP hw hK hc i bT s Y H E I hf st hg;subst hP hw hK;obtain⟨f0,f1,f2,f3,f4,f5⟩:=hf it (by simp);exact wpAny_pyNext_range_end (I.ok.hd hc) st (by have:n<=i:=hg;omega) λh' eb=>⟨rfl,I.turned (t':=s.toks) (λb o hb e=>eb b o hb e) f0 f1 f3 f4 f5⟩
 self:=λ_ _ _ _ _ st h=>wpAny_pyIter_rangeiter st h
end
section
variable{h:Heap}{H:J}{bT:List (Addr×Obj)}{fp:List Addr}{pos:Pos}{s:Shared}{Y:St}
section
variable{X:Cx}{tg:Expr}
theorem VZ{R:It->J->Prop}{E:Value->Shared->Prop}{lo hi:Int}{t u v:Tok}{tk:Nat}(I:Inv X bT Y H s)(h1:-(2 ^ 62)<=lo)(h2:lo<2 ^ 62)(h3:-(2 ^ 62)<=hi)(h4:hi<2 ^ 62)(q:R (kr lo (hi-lo).toNat) H):wpAny (model X.prog X.w) X.A (pyIter (.ref s.heap.objs.size)) (mS X bT Y tg R) E {s with heap:=s.heap.push {cls:=.type "range",data:=.fields #[.int lo t,.int hi u,.int 1 v]},toks:=tk}:=by
 refine wpAny_pyIter_range (IsRange.new ..) (small_one h1 h2 h3 h4) ?_;have I1:Inv X bT Y H {s with heap:=s.heap.push {cls:=.type "range",data:=.fields #[.int lo t,.int hi u,.int 1 v]},toks:=tk}:=I.kept λb o e=>Ap _ e;refine⟨(s.heap.push {cls:=.type "range",data:=.fields #[.int lo t,.int hi u,.int 1 v]}).objs.size,[(s.heap.push {cls:=.type "range",data:=.fields #[.int lo t,.int hi u,.int 1 v]}).objs.size],_,_,H,rfl,
  I1.kept (t':=tk) λb o e=>Ap _ e,Wj _ lo (hi-lo).toNat,?_,λb hb=>?_,q⟩
 .have e1:lo+((0:Nat):Int)*1=lo:=by simp
  have e2:(((hi-lo).toNat:Nat):Int)-((0:Nat):Int)=IG lo hi 1:=by rw[rangeSize_one];split<;>omega
  show IsRangeIter _ _ (lo+((0:Nat):Int)*1) ((((hi-lo).toNat:Nat):Int)-((0:Nat):Int)) 1;rw[e1,e2];exact AA _ rfl
 .have e:b=(s.heap.push {cls:=.type "range",data:=.fields #[.int lo t,.int hi u,.int 1 v]}).objs.size:=by simpa using hb
  subst e;exact I1.fpOk (Af _) (I1.hok.fresh (Af _))
def Z5(ta:TA):TI:=λY H R=>ta Y H λvs H1=>∃j:Int,vs=[.int j]/\-(2 ^ 62)<=j/\j<2 ^ 62/\R (kr 0 j.toNat) H1
theorem V4{a:Expr}{ta:TA}{p:Pos}(hg:Gl X "range")(hm:X.mg "range"=none)(ha:PA X [a] ta)(hs:Ag [a] X.env=[(false,eval a X.env)]:=by rfl):PI X tg (.Call (.Name "range" p) [a] [] pos) (Z5 ta):=by
 intro bT s Y H R I h;refine Call_ (G6 I hg hm boot_range (KO (b9 (ha pos bT s Y H _ I h) λus s1 ⟨vs,H1,I1,r1,q1⟩=>?_) hs rfl));obtain⟨j,e,q1,q2,q⟩:=q1;subst e;cases r1 with
 |cons r rr=>cases rr;obtain⟨t,rfl⟩:=r;exact call_range_1 (VZ I1 (by omega) (by omega) q1 q2 (by simpa using q))
def Rn(wi:TI)(g:TG)(tb:TS):TS:=λD Y H=>wi Y H λpA H1=>∃W:Nat->Nat->St->J->Prop,(∃m,W 0 m Y H1)/\∀i m Y H,W i m Y H ->
 (pA.stop i H/\D.nx Y H)\/(pA.go i H/\∃N:St->J->Prop,(∀σ' H',N σ' H'->∃m',m'<m/\W (i+1) m' σ' H')/\∀x H',pA.yld i H x H'->g x Y H' λσ2 H2=>tb {D with nx:=N,ct:=N,bk:=D.nx} σ2 H2)
def Fy(fp:List Addr)(h:Heap):List (Addr×Obj):=fp.filterMap λb=>(h.get? b).map λo=>(b,o)
theorem FU{b:Addr}{o:Obj}(hb:b∈fp)(e:h.get? b=some o):(b,o)∈Fy fp h:=KL.mpr ⟨b,hb,by rw[e];rfl⟩
theorem WC{p:Addr×Obj}(hp:p∈Fy fp h):p.1∈fp/\h.get? p.1=some p.2:=by
 obtain⟨b,hb,e⟩:=KL.mp hp;cases q:h.get? b with
 |none=>rw[q]at e;cases e
 |some o=>rw[q]at e;have e':(b,o)=p:=Bl e;subst e';exact⟨hb,q⟩
theorem Inv.pinned(I:Inv X bT Y H s)(hf:∀b∈fp,Bq X bT H b)(ho:∀b∈fp,∃o,s.heap.get? b=some o/\∀v,o.data≠.cell v):Inv X (bT++Fy fp s.heap) Y H s :=
 I.pins_of λp hp=>(Bk.mp hp).elim (λz=>I.pin p (A1 _ z)) λz=>by obtain⟨hb,e⟩:=WC z;obtain⟨f0,f1,f2,_⟩:=hf p.1 hb;obtain⟨o,e',d⟩:=ho p.1 hb;rw[e]at e';cases e';exact⟨e,f0,f1,f2,d⟩
theorem Inv.unpinned{pl:List (Addr×Obj)}(I:Inv X (bT++pl) Y H s):Inv X bT Y H s:=I.pins_of λp hp=>I.pin p (A1 _ (Fv _ hp))
theorem Lf{iter:Expr}{body:List Stmt}{wi:TI}{g:TG}{tb:TS}(hp:PassesOwn (model X.prog X.w) X.A X.env X.xe)(hc:X.calm=true)(hi:PI X tg iter wi)(hg:PG X tg g)(hb:dz X body tb)(hs:∀x,Cz iter X.env x=pure x:=by intro _;rfl):PS X (.For tg iter body [] pos) (Rn wi g tb):=by
 intro bT s Y H D I h;refine wpAny_For (b9 (hi bT s Y H _ I h) λv s1 h1=>b9 h1 λjj s2 h2=>?_) hs;obtain⟨it,fp,tn,pA,H2,e,I2,T,gk,f2,W,⟨m0,w0⟩,eG⟩:=h2;subst e;have dF:∀{H':J},(∀b∈fp,H' b=none)->∀b∈fp,Bq X bT H' b:=λhn b hb=>⟨hn b hb,(f2 b hb).2⟩;refine codeAny_forLoop_any (λn s'=>∃i σ' H',Inv X bT σ' H' s'/\tn i s'.heap/\(∀b∈fp,H' b=none)/\W i n σ' H') ?_ m0 ⟨0,Y,H2,I2,gk,λb hb=>(f2 b hb).1,w0⟩
 rintro n s3 ⟨i,σ3,H3,I3,st3,fr3,w3⟩
 rcases eG i n σ3 H3 w3 with⟨stop,qn⟩|⟨go,N,hN,step⟩
 .refine Eo hp (b9 (T.done X rfl rfl rfl hc i bT s3 σ3 H3 X.xe I3 (dF fr3) st3 stop) λr s4 ⟨hr,I4⟩=>?_)
  subst hr;exact Ir ⟨σ3,H3,I4,qn⟩
 .refine Eo hp (b9 (T.item X rfl rfl rfl hc i bT s3 σ3 H3 X.xe I3 (dF fr3) st3 go) λr s4 ⟨u,hr,h4⟩=>?_)
  subst hr;refine Eo hp (b9 h4 λ_ s5 ⟨x,H5,I5,r5,y5,st5,fr5⟩=>?_);have I5':=I5.pinned (dF fr5) (T.obj _ _ st5);refine Eo hp (b9 (hg _ s5 σ3 H5 x u _ I5' r5 (step x H5 y5)) λ_ s6 ⟨σ6,H6,I6,q6⟩=>?_);refine Eo hp (b9 (hb _ s6 σ6 H6 _ I6 q6) λf s7 q7=>?_);have again:∀{σ7:St} {H7:J},Inv X (bT++Fy fp s5.heap) σ7 H7 s7->N σ7 H7->∃m,m<n/\∃i σ' H',Inv X bT σ' H' s7/\tn i s7.heap/\(∀b∈fp,H' b=none)/\W i m σ' H':=λ{σ7 H7} I7 n7=>by obtain⟨m',hm,w7⟩:=hN σ7 H7 n7;refine⟨m',hm,i+1,σ7,H7,I7.unpinned,T.keep _ _ _ st5 λb hb o e=>(I7.pin (b,o) (A1 _ (A1 _ (FU hb e)))).1,λb hb=>?_,w7⟩;obtain⟨o,e,d⟩:=T.obj _ _ st5 b hb;exact(I7.pin (b,o) (A1 _ (A1 _ (FU hb e)))).2.1
  cases f with
  |next=>obtain⟨σ7,H7,I7,n7⟩:=q7;exact again I7 n7
  |cont=>obtain⟨σ7,H7,I7,n7⟩:=q7;exact again I7 n7
  |brk=>obtain⟨σ7,H7,I7,q7⟩:=q7;exact⟨σ7,H7,I7.unpinned,q7⟩
  |ret v=>obtain⟨x7,σ7,H7,I7,r7,q7⟩:=q7;exact⟨x7,σ7,H7,I7.unpinned,r7,q7⟩
end
end
section
variable{g:Int->Int->Int}{us:List Value}{x:V}
abbrev R2:=V->V->J->VK->Prop
def dj(X:Cx)(f:Value->Value->Sem Value)(r:R2):Prop :=
 ∀(bT:List (Addr×Obj)) (s:Shared) (Y:St) (H:J) (x y:V) (v u:Value) (Q:VK),Inv X bT Y H s->RelV x v->RelV y u->r x y H Q ->
  wpAny (model X.prog X.w) X.A (f v u) (EP X bT Y Q) X.xe s
def AK(X:Cx)(f:Value)(r:List V->J->VK->Prop):Prop :=
 ∀(bT:List (Addr×Obj)) (s:Shared) (Y:St) (H:J) (xs:List V) (us:List Value) (Q:VK),Inv X bT Y H s->bW xs us->r xs H Q ->
  wpAny (model X.prog X.w) X.A (call f us) (EP X bT Y Q) X.xe s
def Rw(X:Cx)(r:V->J->(Bool->J->Prop)->Prop):Prop :=
 ∀(bT:List (Addr×Obj)) (s:Shared) (Y:St) (H:J) (x:V) (v:Value) (Q:Bool->J->Prop),Inv X bT Y H s->RelV x v->r x H Q ->
  wpAny (model X.prog X.w) X.A (truthy v) (TP X bT Y Q) X.xe s
def ja(r:R2)(ta tb:TE):TE:=λY H Q=>ta Y H λx H1=>tb Y H1 λy H2=>r x y H2 Q
def rI(C:Int->Int->Prop)(g:Int->Int->V):R2:=λx y H Q=>∃i j,x=.int i/\y=.int j/\C i j/\Q (g i j) H
def g0(g:Int->Int->V):R2:=λx y H Q=>∃i j,x=.int i/\y=.int j/\Q (g i j) H
section
variable{X:Cx}{a b c:Expr}{ta tb tc:TE}{pos:Pos}
theorem KS(ha:PE X a ta)(hb:PE X b tb){bT:List (Addr×Obj)}{s:Shared}{Y:St}{H:J}{R:V->V->J->Prop}(I:Inv X bT Y H s)(h:ta Y H λx H1=>tb Y H1 λy H2=>R x y H2){Q:Value->Shared->Prop}{f:Value->Value->Sem Value}(hf:∀v u s2 x y H2,Inv X bT Y H2 s2->RelV x v->RelV y u->R x y H2->wpAny (model X.prog X.w) X.A (f v u) Q X.xe s2):wpAny (model X.prog X.w) X.A (eval a X.env) (λv s₁=>wpAny (model X.prog X.w) X.A (eval b X.env) (λu s₂=>wpAny (model X.prog X.w) X.A (f v u) Q X.xe s₂) X.xe s₁) X.xe s:=by
 refine b9 (ha bT s Y H _ I h) λv s1 ⟨x,H1,I1,r1,q1⟩=>?_;refine b9 (hb bT s1 Y H1 _ I1 q1) λu s2 ⟨y,H2,I2,r2,q2⟩=>?_;exact hf v u s2 x y H2 I2 r1 r2 q2
theorem G1{op:Operator}{r:R2}(ho:dj X (Cb op) r)(ha:PE X a ta)(hb:PE X b tb):PE X (.BinOp a op b pos) (ja r ta tb):=by intro bT s Y H Q I h;exact wpAny_BinOp (KS ha hb I h λv u s2 x y H2 I2 rx ry q=>ho bT s2 Y H2 x y v u Q I2 rx ry q)
theorem l6{f:Value->Value->Sem Value}{C:Int->Int->Prop}(rule:∀(i j:Int) (t u:Tok) (s:Shared) (Q:Value->Shared->Prop) (E:Value->Shared->Prop),C i j->Q (.int (g i j) s.toks) {s with toks:=s.toks+1}->wpAny (model X.prog X.w) X.A (f (.int i t) (.int j u)) Q E s):dj X f (rI C λi j=>.int (g i j)):=by
 intro bT s Y H x y v u Q I rx ry h;obtain⟨i,j,rfl,rfl,hc,q⟩:=h;obtain⟨t,rfl⟩:=rx;obtain⟨t',rfl⟩:=ry;exact rule i j t t' s _ _ hc ⟨.int (g i j),H,I.tok _,⟨_,rfl⟩,q⟩
theorem N5{f:Value->Value->Sem Value}(rule:∀(i j:Int) (t u:Tok) (s:Shared) (Q:Value->Shared->Prop) (E:Value->Shared->Prop),Q (.int (g i j) s.toks) {s with toks:=s.toks+1}->wpAny (model X.prog X.w) X.A (f (.int i t) (.int j u)) Q E s):dj X f (g0 λi j=>.int (g i j)):=by
 intro bT s Y H x y v u Q I rx ry h;obtain⟨i,j,rfl,rfl,q⟩:=h;obtain⟨t,rfl⟩:=rx;obtain⟨t',rfl⟩:=ry;exact rule i j t t' s _ _ ⟨.int (g i j),H,I.tok _,⟨_,rfl⟩,q⟩
theorem KU{f:Value->Value->Sem Value}{g:Int->Int->Bool}(rule:∀(i j:Int) (t u:Tok) (s:Shared) (Q:Value->Shared->Prop) (E:Value->Shared->Prop),Q (.bool (g i j)) s->wpAny (model X.prog X.w) X.A (f (.int i t) (.int j u)) Q E s):dj X f (g0 λi j=>.bl (g i j)):=by
 intro bT s Y H x y v u Q I rx ry h;obtain⟨i,j,rfl,rfl,q⟩:=h;obtain⟨t,rfl⟩:=rx;obtain⟨t',rfl⟩:=ry;exact rule i j t t' s _ _ ⟨.bl (g i j),H,I,rfl,q⟩
def IT(i j:Int):Prop:=(-(2 ^ 64)<i/\i<2 ^ 64)\/(-(2 ^ 64)<j/\j<2 ^ 64)
theorem IT.ok{i j:Int}(h:IT i j):IntMulOk i j:=by
 rcases h with⟨h1,h2⟩|⟨h1,h2⟩
 .exact .of_left (intBits_le_64 h1 h2)
 .exact .of_right (intBits_le_64 h1 h2)
theorem SS:dj X (Cb .Add) (g0 λi j=>.int (i+j)):=N5 λ_ _ _ _ _ _ _ q=>add_int q
theorem Sm:dj X (Cb .Sub) (g0 λi j=>.int (i-j)):=N5 λ_ _ _ _ _ _ _ q=>sub_int q
theorem SV:dj X (Cb .Mult) (rI IT λi j=>.int (i*j)):=l6 λ_ _ _ _ _ _ _ hc q=>mul_int q hc.ok
theorem Ud:dj X (Cb .Mod) (rI (λ_ j=>0<j) λi j=>.int (i%j)):=l6 λi j _ _ _ _ _ hc q=>by have h1:(0:Int)<j:=hc;exact mod_int' (by omega) (by rw[Int.fmod_eq_emod_of_nonneg i (by omega)];exact q)
end
section
variable{X:Cx}{a b c:Expr}{ta tb tc:TE}{pos:Pos}
theorem RP:dj X (BZ .Lt) (g0 λi j=>.bl (decide (i<j))):=KU λ_ _ _ _ _ _ _ q=>lt_int q
theorem RK:dj X (BZ .LtE) (g0 λi j=>.bl (decide (i<=j))):=KU λ_ _ _ _ _ _ _ q=>le_int q
theorem RO:dj X (BZ .Gt) (g0 λi j=>.bl (decide (j<i))):=KU λ_ _ _ _ _ _ _ q=>gt_int q
theorem OV{op:CmpOp}{r:R2}(ho:dj X (BZ op) r)(ha:PE X a ta)(hb:PE X b tb)(hm:DO op b=false):PE X (.Compare a [op] [b] pos) (ja r ta tb):=by intro bT s Y H Q I h;exact wpAny_Compare1 (KS ha hb I h λv u s2 x y H2 I2 rx ry q=>ho bT s2 Y H2 x y v u Q I2 rx ry q) hm
def RD(t:TE):TT:=λY H Q=>t Y H λx H'=>∃k,x=.bl k/\Q k H'
theorem Pg{op:CmpOp}{r:R2}(ho:dj X (BZ op) r)(ha:PE X a ta)(hb:PE X b tb)(hm:DO op b=false):PT X (.Compare a [op] [b] pos) (RD (ja r ta tb)):=by intro bT s Y H Q I h;refine wpAny_isTrue_Compare1 (b9 (ha bT s Y H _ I h) λv s1 ⟨x,H1,I1,r1,q1⟩=>b9 (hb bT s1 Y H1 _ I1 q1) λu s2 ⟨y,H2,I2,r2,q2⟩=>b9 (ho bT s2 Y H2 x y v u _ I2 r1 r2 q2) λc s3 ⟨z,H3,I3,r3,k,e,q3⟩=>?_) hm;subst e;cases r3;exact DS ⟨H3,I3,q3⟩
def S4(r r':R2)(ta tb tc:TE):TE:=λY H Q=>ta Y H λx H1=>tb Y H1 λy H2=>r x y H2 λz H3=>∃k,z=.bl k /\
 (if k=true then tc Y H3 λw' H4=>r' y w' H4 Q else Q (.bl false) H3)
theorem PK{op op':CmpOp}{r r':R2}(ho:dj X (BZ op) r)(ho':dj X (BZ op') r')(ha:PE X a ta)(hb:PE X b tb)(hc:PE X c tc)(hm:lastMarks [op,op'] [b,c]=false:=by with_unfolding_all rfl):PE X (.Compare a [op,op'] [b,c] pos) (S4 r r' ta tb tc):=by
 intro bT s Y H Q I h;refine Compare_chain (b9 (ha bT s Y H _ I h) λv s1 ⟨x,H1,I1,r1,q1⟩=>chain_link (b9 (hb bT s1 Y H1 _ I1 q1) λu s2 ⟨y,H2,I2,r2,q2⟩=>b9 (ho bT s2 Y H2 x y v u _ I2 r1 r2 q2) λd s3 ⟨z,H3,I3,r3,k,e,q3⟩=>?_)) hm;subst e;cases r3;refine DS ?_;cases k with
 |false=>exact ite_ff ⟨.bl false,H3,I3,rfl,q3⟩
 |true=>exact ite_tt (chain_last (b9 (hc bT s3 Y H3 _ I3 q3) λw' s4 ⟨z',H4,I4,r4,q4⟩=>ho' bT s4 Y H4 y z' u w' Q I4 r2 r4 q4))
def NW(K:Ad)(x:V)(H:J)(k:Bool):Prop :=
 match x with
 | .non=>k=false
 | .bl b=>k=b
 | .int i=>k=(i != 0)
 | .str y=>y.length<=sizeLine/\k=((y.length:Int) != 0)
 | .byt y=>y.size<=sizeLine/\k=((y.size:Int) != 0)
 | .ref p=>(∃xs,cF K H p xs/\k=!xs.isEmpty)\/(∃xs,da K H p xs/\k=!xs.isEmpty)\/∃kvs,H p=some (.dK kvs)/\k=!kvs.isEmpty
 |_=>False
theorem W0{κ:Type}{kvs:List (κ×V)}{vs:List (κ×Value)}(r:KV kvs vs):(!vs.isEmpty)=!kvs.isEmpty:=by cases r<;>rfl
theorem QL{xs:List V}{its:List Value}(r:bW xs its):(!its.toArray.isEmpty)=!xs.isEmpty:=by cases r<;>simp
theorem FC:(sizeLine:Nat)<2 ^ 63:=by rw[Bm];decide
theorem SX:Rw X (λx H Q=>∃k,NW X.K x H k/\Q k H):=by
 intro bT s Y H x v Q I rx h;obtain⟨k,e,q⟩:=h;have hl:=FC;have hs:sizeLine=16777216:=Bm;cases x with
 |non=>cases rx;have e':k=false:=e;subst e';exact truthy_none ⟨H,I,q⟩
 |bl b=>cases rx;have e':k=b:=e;subst e';exact DS ⟨H,I,q⟩
 |int i=>obtain⟨t,rfl⟩:=rx;have e':k=(i != 0):=e;subst e';exact PySem.P.truthy_int ⟨H,I,q⟩
 |str y=>obtain⟨t,rfl⟩:=rx;obtain⟨hy,e'⟩:y.length<=sizeLine/\k=((y.length:Int) != 0):=e;subst e';exact PySem.P.truthy_str (by omega) ⟨H,I.tok _,q⟩
 |byt y=>obtain⟨t,rfl⟩:=rx;obtain⟨hy,e'⟩:y.size<=sizeLine/\k=((y.size:Int) != 0):=e;subst e';exact PySem.W.truthy_bytes (by omega) ⟨H,I.tok _,q⟩
 |ref p =>
  cases rx;have e':(∃xs,cF X.K H p xs/\k=!xs.isEmpty)\/(∃xs,da X.K H p xs/\k=!xs.isEmpty)\/∃kvs,H p=some (.dK kvs)/\k=!kvs.isEmpty:=e;rcases e' with⟨xs,hx,e'⟩|⟨xs,hx,e'⟩|⟨kvs,hx,e'⟩
  .subst e'
   obtain⟨its,r,pl,hz⟩:=I.list hx;have bY:=r.length;exact wpAny_truthy_list pl.isList (by simp only[Aw];omega) ⟨H,I.tok _,by rw[QL r];exact q⟩
  .subst e'
   obtain⟨its,r,pl,hz⟩:=I.tuple hx;have bY:=r.length;exact truthy_tuple pl (by simp only[Aw];omega) ⟨H,I.tok _,by rw[QL r];exact q⟩
  .subst e'
   obtain⟨hz,hS,vs,r,m⟩:kvs.length<=sizeLine/\(p==A4)=false/\∃vs,KV kvs vs/\s.heap.DictOf (Bd X.prog X.w) p vs:=I.hok p _ hx;have bY:kvs.length=vs.length:=Et r;exact wpAny_truthy_dict hS m (by omega) ⟨H,I.tok _,by rw[W0 r];exact q⟩
 |_=>exact(show False from e).elim
theorem Uy(ha:PE X a ta)(he:∀cG,isTrue a X.env cG=(do let v <-cG;standAt a.pos;holding [v] (truthy v))):PT X a (λY H Q=>ta Y H λx H'=>∃k,NW X.K x H' k/\Q k H'):=by
 intro bT s Y H Q I h;exact isTrue_plain (b9 (ha bT s Y H _ I h) λv s1 ⟨x,H1,I1,r1,q1⟩=>SX bT s1 Y H1 x v Q I1 r1 q1) (he _)
theorem vals1(r:bW [x] us):∃u,us=[u]/\RelV x u:=by
 cases r with
 |cons r1 r2=>cases r2;exact⟨_,rfl,r1⟩
theorem vals2{y:V}(r:bW [x,y] us):∃u w',us=[u,w']/\RelV x u/\RelV y w':=by
 cases r with
 |cons r1 r2 =>
  cases r2 with
  |cons r3 r4=>cases r4;exact⟨_,_,rfl,r1,r3⟩
theorem Vk(hc:X.calm=true):AK X (.builtin "max") (λxs H Q=>∃i j,xs=[.int i,.int j]/\Q (.int (if j > i then j else i)) H):=by
 intro bT s Y H xs us Q I r h;obtain⟨i,j,rfl,q⟩:=h;obtain⟨u,w',rfl,⟨t,rfl⟩,⟨t',rfl⟩⟩:=vals2 r;refine max_two_ints (I.ok.hd hc) λh' tk k=>⟨_,H,I.kept k,?_,q⟩
 by_cases hj:j > i
 .rw[if_pos hj,if_pos hj];exact⟨_,rfl⟩
 .rw[if_neg hj,if_neg hj];exact⟨_,rfl⟩
theorem WB(hc:X.calm=true):AK X (.builtin "min") (λxs H Q=>∃i j,xs=[.int i,.int j]/\Q (.int (if j<i then j else i)) H):=by
 intro bT s Y H xs us Q I r h;obtain⟨i,j,rfl,q⟩:=h;obtain⟨u,w',rfl,⟨t,rfl⟩,⟨t',rfl⟩⟩:=vals2 r;refine min_two_ints (I.ok.hd hc) λh' tk k=>⟨_,H,I.kept k,?_,q⟩
 by_cases hj:j<i
 .rw[if_pos hj,if_pos hj];exact⟨_,rfl⟩
 .rw[if_neg hj,if_neg hj];exact⟨_,rfl⟩
theorem Qi:AK X (.type "int") (λxs H Q=>(∃i,xs=[.int i]/\Q (.int i) H)\/∃k,xs=[.bl k]/\Q (.int (if k then 1 else 0)) H):=by
 intro bT s Y H xs us Q I r h;rcases h with⟨i,rfl,q⟩|⟨k,rfl,q⟩
 .obtain⟨u,rfl,t,rfl⟩:=vals1 r
  exact call_int_int ⟨.int i,H,I,⟨_,rfl⟩,q⟩
 .obtain⟨u,rfl,r1⟩:=vals1 r
  cases r1;exact call_int_bool ⟨.int (if k then 1 else 0),H,I.tok _,⟨_,rfl⟩,q⟩
end
end
section
variable{f:Addr}{A:Around}{base:Heap}{H:J}{ps:List Str}{vs:List V}{us:List Value}{P:Program}{K:Ad}{scope:Scope}{s:Shared}{cj:Str}{mg:Str->Option Value}
structure AL(k:Nat)(A:Around):Prop where
 hd:A.handled=none
 dp:A.depth+3*k+5<recursionLimit
 un:A.units+16*k+200<cLine
theorem AL.mono{j k:Nat}(r:AL k A)(h:j<=k):AL j A:=⟨r.hd,by have:=r.dp;omega,by have:=r.un;omega⟩
theorem AL.deeper{k:Nat}{A:Around}(r:AL (k+1) A)(env:Env):AL k (A.deeper env) :=
 ⟨r.hd,by have:=r.dp;show A.depth+1+3*k+5<_;omega,by have:=r.un;show A.units+3+16*k+200<_;omega⟩
theorem AL.depth{k:Nat}{A:Around}(r:AL k A):A.depth<recursionLimit:=by have:=r.dp;omega
theorem AL.units{k:Nat}{A:Around}(r:AL k A):A.units+64<cLine:=by have:=r.un;omega
def GL:TA:=λ_ H Q=>Q [] H
def G0(ta:TE)(tr:TA):TA:=λY H Q=>ta Y H λx H1=>tr Y H1 λxs H2=>Q (x::xs) H2
section
variable{X:Cx}{e:Expr}{es:List Expr}{te:TE}{t:TA}{pos:Pos}
theorem BW:PA X [] GL:=λ_ _ _ _ H Q I h=>Calls.spliced_nil ⟨[],H,I,.nil,h⟩
theorem Br(ha:PE X e te)(hr:PA X es t)(hs:Ag (e::es) X.env=(false,eval e X.env)::Ag es X.env:=by rfl):PA X (e::es) (G0 te t):=by intro pos bT s Y H Q I h;rw[hs];show wpAny _ _ (spliced ((false,eval e X.env)::backTo pos (Ag es X.env))) _ _ s;refine KJ (b9 (ha bT s Y H _ I h) λu s1 ⟨x,H1,I1,r1,q1⟩=>?_);exact b9 (hr pos bT s1 Y H1 _ I1 q1) λus s2 ⟨xs,H2,I2,r2,q2⟩=>⟨x::xs,H2,I2,.cons r1 r2,q2⟩
def R9(t:TA):TE:=λY H Q=>t Y H λxs H1=>xs.length<=sizeLine/\∀p,H1 p=none->Q (.ref p) (upd H1 p (.tup xs))
def GY(t:TA):TE:=λY H Q=>t Y H λxs H1=>xs.length<=sizeLine/\∀p,H1 p=none->Q (.ref p) (upd H1 p (.lst xs))
theorem SA{x1}(h:PA X es t):PE X (.Tuple es x1 pos) (R9 t):=by intro bT s Y H Q I hq;refine wpAny_Tuple_spliced (b9 (h pos bT s Y H _ I hq) λus s1 ⟨xs,H1,I1,r,z,q⟩=>⟨by rw[<-r.length];exact z,?_⟩);have hf:H1 s1.heap.objs.size=none:=I1.hok.fresh (Af _);refine⟨.ref s1.heap.objs.size,upd H1 s1.heap.objs.size (.tup xs),I1.laid (t':=s1.toks) (λb u e=>Ap _ e) (Af _) ?_,rfl,q _ hf⟩;exact⟨z,us,r,⟨_,AA _ rfl,rfl,_,rfl⟩⟩
theorem SR(h:PA X es t):PE X (.List es pos) (GY t):=by intro bT s Y H Q I hq;refine wpAny_List_spliced (b9 (h pos bT s Y H _ I hq) λus s1 ⟨xs,H1,I1,r,z,q⟩=>⟨by rw[<-r.length];exact z,?_⟩);have hf:H1 s1.heap.objs.size=none:=I1.hok.fresh (Af _);refine⟨.ref s1.heap.objs.size,upd H1 s1.heap.objs.size (.lst xs),I1.laid (t':=s1.toks) (λb u e=>Ap _ e) (Af _) ?_,rfl,q _ hf⟩;exact⟨z,us,0,r,AA _ rfl⟩
end
abbrev Sp:=List V->J->VK->XK->Prop
abbrev gN:=List Env->J->Shared->XK->Value->Shared->Prop
structure IP(P:Program)(w:World)(K:Ad)(mg:Str->Option Value)(base:Heap)(A:Around)(outer:List Env)(s:Shared)(H:J):Prop where
 frames:A.frames=some outer
 mod:Mod K mg base
 bs:∀b o,base.get? b=some o->s.heap.get? b=some o/\H b=none
 bsz:base.objs.size<=s.heap.objs.size
 funs:s.heap.FunFrames base outer
 frf:∀b∈fF outer,H b=none
 hok:cV P w H s.heap
 bare:AllBare s.gens
def CE(outer:List Env)(P:Program)(w:World)(H:J)(s:Shared)(Q:VK)(u:Value)(s':Shared):Prop :=
 ∃v H',s'.os=s.os/\AllBare s'.gens/\Un (fF outer) [] H H' s.heap s'.heap/\cV P w H' s'.heap/\RelV v u/\Q v H'
def CR(CX:gN)(outer:List Env)(P:Program)(w:World)(H:J)(s:Shared)(Q:VK)(E:XK)(r:Result)(s':Shared):Prop :=
 match r with
 | .ok (.ret u)=>CE outer P w H s Q u s'
 | .ok _=>False
 | .error e=>CX outer H s E e s'
structure BK(P:Program)(w:World)(K:Ad)(mg:Str->Option Value)(base:Heap)(CX:gN)(k:Nat)(f:Addr)(fd:FuncData)(ps:List Str)(sp:Sp):Prop where
 len:∀vs H Q E,sp vs H Q E->vs.length=ps.length
 run:∀(A:Around) (outer:List Env) (s:Shared) (H:J) (args:Args) (us:List Value) (vs:List V) (Q:VK) (E:XK),AL k A->IP P w K mg base A outer s H->BindsTo s fd args (ps.zip us)->bW vs us->sp vs H Q E ->
  codeAny (model P w) A (.call (.ref f) args) (CR CX outer P w H s Q E) s
theorem BK.mono{P:Program}{w:World}{K:Ad}{mg:Str->Option Value}{base:Heap}{CX:gN}{j k:Nat}{f:Addr}{fd:FuncData}{ps:List Str}{sp:Sp}(F:BK P w K mg base CX j f fd ps sp)(h:j<=k):BK P w K mg base CX k f fd ps sp:=⟨F.len,λA outer s H args us vs Q E hr=>F.run A outer s H args us vs Q E (hr.mono h)⟩
section
variable{X:Cx}{bT:List (Addr×Obj)}{Y:St}{H:J}{s s':Shared}
theorem Inv.env0(I:Inv X bT Y H s):IP X.prog X.w X.K X.mg X.base X.A X.stack s H :=
 ⟨I.ok.frames,I.ok.mod,I.bs,Ba I.ok.bsz I.sz,I.stack,I.stkFree,I.hok,I.bare⟩
theorem Inv.after{Q:VK}{u:Value}(I:Inv X bT Y H s)(h:CE X.stack X.prog X.w H s Q u s'):EP X bT Y Q u s':=by obtain⟨v,H',os,bare,un,hok,r,q⟩:=h;obtain⟨hh,g,d,t,os'⟩:=s';obtain rfl:os'=s.os:=os;exact⟨v,H',I.call (h':=hh) (g':=g) (d':=d) (t':=t) (ch:=[]) un hok bare (λb z=>absurd z (by simp)),r,q⟩
end
def RI(sp:Sp)(ic:List V)(E:XK)(t:TA):TE:=λY H Q=>t Y H λvs H1=>sp (vs++ic) H1 Q E
def Binds(K:Ad)(fd:FuncData)(ps:List Str)(ds:List Value):Prop :=
 ∀(s:Shared) (us:List Value),K.In s.heap->(us++ds).length=ps.length->BindsTo s fd ⟨us,[]⟩ (ps.zip (us++ds))
theorem Binds.all{fd:FuncData}(h:∀us:List Value,us.length=ps.length->bindArgs fd ⟨us,[]⟩=pure (ps.zip us)):Binds K fd ps []:=λs us _ hl=>by rw[B1]at hl ⊢;exact .of_eq (h us hl)
def fo(CX:gN)(X:Cx)(E:XK):Prop:=∀(bT:List (Addr×Obj)) (Y:St) (H:J) (s:Shared) (e:Value) (s':Shared),Inv X bT Y H s->CX X.stack H s E e s'->X.xe e s'
section
variable{X:Cx}{CX:gN}{k:Nat}{f C:Addr}{fd:FuncData}{ps:List Str}{sp:Sp}{ic:List V}{ds:List Value}{E:XK}{x m:Str}{p pos eM:Pos}{e o:Expr}{es:List Expr}{ta:TE}{t:TA}
theorem Ui{bT:List (Addr×Obj)}{Y:St}{Q:VK}(F:BK X.prog X.w X.K X.mg X.base CX k f fd ps sp)(hr:AL k X.A)(hb:Binds X.K fd ps ds)(hd:bW ic ds)(hx:fo CX X E)(I:Inv X bT Y H s)(r:bW vs us)(h:sp (vs++ic) H Q E):wpAny (model X.prog X.w) X.A (call (.ref f) us) (EP X bT Y Q) X.xe s:=by
 have r2:bW (vs++ic) (us++ds):=r.append hd;have hl:(us++ds).length=ps.length:=by rw[<-r2.length];exact F.len _ _ _ _ h
 refine wpAny_call (Ep (F.run X.A X.stack s H ⟨us,[]⟩ (us++ds) (vs++ic) Q E hr I.env0 (hb s us I.kIn hl) r2 h) λr s' hq=>?_);cases r with
 |error e=>exact hx bT Y H s e s' I hq
 |ok fl =>
  cases fl with
  |ret u=>exact I.after hq
  |next=>exact Cv hq
  |brk=>exact Cv hq
  |cont=>exact Cv hq
theorem Tu(F:BK X.prog X.w X.K X.mg X.base CX k f fd ps sp)(hr:AL k X.A)(hg:Gl X x)(hm:X.mg x=some (.ref f))(hk:Fj X.K (.ref f)=true)(hb:Binds X.K fd ps ds)(hd:bW ic ds)(hx:fo CX X E)(ha:PA X (e::es) t)(fU:(x==("__debug__":Str))=false:=by decide)(he:Ag (e::es) X.env=(false,eval e X.env)::Ag es X.env:=by rfl)(hpl:(backTo pos (Ag es X.env)).any (·.1)=false:=by rfl):PE X (.Call (.Name x p) (e::es) [] pos) (RI sp ic E t):=by
 intro bT s Y H Q I h;refine KI (OR I hg hm ?_ fU);refine PySem.W.callWith_K (h₀:=X.base) I.ok.mod.kin hk (b9 (ha pos bT s Y H _ I h) λus s1 ⟨vs,H1,I1,r,q⟩=>⟨I1.kIn,?_⟩) he hpl;exact Ui F hr hb hd hx I1 r q
end
structure Zy(N P:List Str)(sc:Scope):Prop where
 kind:sc.kind=.function
 co:sc.isCoroutine=false
 gen:sc.isGenerator=false
 nd:N.Nodup
 pre:N.take P.length=P
 par:∀x∈P,sc.names.lookup x=some .local\/sc.names.lookup x=some .cell
 nofree:∀y∈sc.names,y.2≠.free
theorem PV{kindOf:Str->Option NameKind}{x:Str}:∀{binds:List (Str×Value)} {m:Str->Option Value},(∀v,(x,v)∉binds)->bindL kindOf binds m x=m x
 |[],_,_=>rfl
 |(n,v)::r,m,h=>by
  unfold bindL;rw[PV λw hw=>h w (Av _ hw)];split
  .have:x≠n:=by rintro rfl;exact h v Au
   simp[this]
  .rfl
theorem Qo{kindOf:Str->Option NameKind}{x:Str}:∀{binds:List (Str×Value)} {m:Str->Option Value},(∀v,(x,v)∉binds)->bindC kindOf binds m x=m x
 |[],_,_=>rfl
 |(n,v)::r,m,h=>by
  unfold bindC;rw[Qo λw hw=>h w (Av _ hw)];split
  .rfl
  .have:x≠n:=by rintro rfl;exact h v Au
   simp[this]
theorem Qs{kindOf:Str->Option NameKind}{x:Str}{v:Value}:∀{P:List Str} {vs:List Value} {i:Nat} {m:Str->Option Value},P.Nodup->P[i]?=some x->vs[i]?=some v->kindOf x=some .local ->bindL kindOf (P.zip vs) m x=some v
 |[],_,_,_,_,h,_,_=>by simp at h
 |_::_,[],_,_,_,_,h,_=>by simp at h
 |p::P,w::vs,0,m,nd,h1,h2,hk=>by simp at h1 h2;subst h1;subst h2;show bindL kindOf ((p,w)::P.zip vs) m p=_;unfold bindL;rw[PV λv hv=>(Fp.mp nd).1 (Kj hv).1,if_pos hk];simp
 |p::P,w::vs,i+1,m,nd,h1,h2,hk=>by show bindL kindOf ((p,w)::P.zip vs) m x=_;unfold bindL;exact Qs (i:=i) (Fp.mp nd).2 (by simpa using h1) (by simpa using h2) hk
theorem Qn{kindOf:Str->Option NameKind}{x:Str}{v:Value}:∀{P:List Str} {vs:List Value} {i:Nat} {m:Str->Option Value},P.Nodup->P[i]?=some x->vs[i]?=some v->kindOf x≠some .local ->bindC kindOf (P.zip vs) m x=some v
 |[],_,_,_,_,h,_,_=>by simp at h
 |_::_,[],_,_,_,_,h,_=>by simp at h
 |p::P,w::vs,0,m,nd,h1,h2,hk=>by simp at h1 h2;subst h1;subst h2;show bindC kindOf ((p,w)::P.zip vs) m p=_;unfold bindC;rw[Qo λv hv=>(Fp.mp nd).1 (Kj hv).1,if_neg hk];simp
 |p::P,w::vs,i+1,m,nd,h1,h2,hk=>by show bindC kindOf ((p,w)::P.zip vs) m x=_;unfold bindC;exact Qn (i:=i) (Fp.mp nd).2 (by simpa using h1) (by simpa using h2) hk
def start(N:List Str)(vs:List V):St:=vs.map some++Ak (N.length-vs.length) none
def Dv(CX:gN)(P:Program)(w:World)(K:Ad)(mg:Str->Option Value)(base:Heap)(N:List Str)(cj:Str)(scope:Scope)(f:Addr)(cd:Value)(A:Around)(outer:List Env)(s:Shared)(H:J)(E:XK):Cx where
 prog:=P
 w:=w
 K:=K
 mg:=mg
 base:=base
 A:=A.deeper (envOfC cj scope s.heap.objs.size f cd)
 N:=N
 s₀:=s
 H₀:=H
 env:=envOfC cj scope s.heap.objs.size f cd
 outer:=outer
 stack:=envOfC cj scope s.heap.objs.size f cd::outer
 ex:=[]
 calm:=true
 fn:=λ_=>true
 pn:=[]
 xe:=λe s'=>wpAny (model P w) (A.deeper (envOfC cj scope s.heap.objs.size f cd)) (leaving (envOfC cj scope s.heap.objs.size f cd) e) (λ_ s''=>CX outer H s E e s'') (λe' s''=>CX outer H s E e' s'') s'
theorem PF{sc:Scope}{n:Nat}{x:Str}(h:sc.names.lookup x=some .cell):∃c,(DQ n sc.names []).lookup x=some c:=by have q:=NG sc.names n [] (.inl h);exact GH.mp q
theorem WG{CX:gN}{w:World}{N:List Str}{cd:Value}{outer:List Env}{s1:Shared}{E:XK}(pw:Zy N ps scope)(hd:A.handled=none)(e0:IP P w K mg base A outer s H)(hl:vs.length=ps.length)(r:bW vs us)(x:InCallC s s.heap.objs.size (bindL (envOfC cj scope s.heap.objs.size f cd).kindOf (ps.zip us) λ_=>none) (DQ (s.heap.objs.size+1) scope.names []) (bindC (envOfC cj scope s.heap.objs.size f cd).kindOf (ps.zip us) λ_=>none) s1):Inv (Dv CX P w K mg base N cj scope f cd A outer s H E) [] (start N vs) H s1:=by
 have hpl:ps.length<=N.length:=by have:=congrArg A5 pw.pre;rw[Fe]at this;omega
 obtain⟨h1,tk,rfl,hk⟩:=x.done;have jf:∀b:Addr,b∉(Dv CX P w K mg base N cj scope f cd A outer s H E).ex:=λb z=>absurd (show b∈([]:List Addr) from z) (by simp);refine⟨⟨e0.mod,pw.kind,rfl,rfl,Af _,λy z c h1 h2=>?_,λy hy=>?_,λy c _ h=>?_,λ_=>hd,Around.frames_deeper e0.frames,.inr ⟨rfl,rfl⟩,λb z=>absurd z (jf b),e0.bs,e0.bsz,λb _ _=>jf b,λb z=>absurd z (jf b),e0.funs,e0.frf⟩,
  rfl,e0.bare,Un.kept hk,⟨_,x.toInCall.ns,λi y v h1 h2 h3=>?_⟩,λy c h=>⟨_,x.cell y c h⟩,e0.hok.fresh (Af _),λy c h=>?_,λp hp=>absurd (show p∈([]:List (Addr×Obj)) from hp) (by simp),e0.hok.kept hk,?_⟩
 .exact name_of_addr x.apart (GF h1) (GF h2)
 .have hy:scope.names.lookup y=some .cell\/scope.names.lookup y=some .free:=hy
  rcases hy with hy|hy
  .exact PF hy
  .exact absurd rfl (pw.nofree _ (GF hy))
 .exact CP (x.above y c (GF h))
 .have hi:i<vs.length:=by
   unfold start at h2
   by_cases hi:i<vs.length
   .exact hi
   .rw[Ce (by simpa using hi)]at h2
    rw[Gu]at h2;split at h2<;>cases h2
  have ha:vs[i]?=some v:=by
   unfold start at h2;rw[Cd (by simpa using hi),AQ]at h2;cases e:vs[i]? with
   |none=>rw[e]at h2;cases h2
   |some a=>rw[e]at h2;cases h2;rfl
  obtain⟨u,hu,rv⟩:=r.get ha;have hp:ps[i]?=some y:=by rw[<-pw.pre,Nt (by omega)];exact h1
  have l8:ps.Nodup:=by rw[<-pw.pre];exact pw.nd.sublist (List.take_sublist _ _)
  refine⟨u,rv,?_⟩;rcases pw.par y (Dq hp)with k|k
  .exact .inl ⟨k,Qs l8 hp hu k⟩
  .obtain⟨c,e⟩:=PF (n:=s.heap.objs.size+1) k
   refine .inr ⟨.inl k,c,e,?_⟩;have q:=x.cell y c e;rw[Qn l8 hp hu (by show scope.names.lookup y≠_;rw[k];decide)]at q;exact q
 .exact e0.hok.fresh (CP (x.above y c (GF h)))
 .unfold start
  show _=N.length;rw[Az,Ae,Bh];omega
theorem RW{CX:gN}{w:World}{k:Nat}{name:Str}{params:Arguments}{body:List Stmt}{dV kV dR pm cm ct oc:Value}{an od:Option Addr}{gm:Array (Option Value)}{N ps:List Str}{sp:Sp}(lk:K.lookup f=some ⟨oc,od,.func (De name cj params body scope dV kV dR pm an cm ct),gm⟩)(dP:Gk K cm cj=true)(pw:Zy N ps scope)(len:∀vs H Q E,sp vs H Q E->vs.length=ps.length)
  (gg:∀(A:Around) (outer:List Env) (s:Shared) (H:J) (vs:List V) (Q:VK) (E:XK),AL k (A.deeper (envOfC cj scope s.heap.objs.size f cm))->sp vs H Q E ->
   ∃t,dz (Dv CX P w K mg base N cj scope f cm A outer s H E) body t/\t {nx:=λ_ H'=>Q .non H',rt:=Q} (start N vs) H):
  BK P w K mg base CX (k+1) f (De name cj params body scope dV kV dR pm an cm ct) ps sp:=by
 refine⟨len,λA outer s H args us vs Q E hr e0 hb r g8=>?_⟩;have hl:=len _ _ _ _ g8;have KX:K.In s.heap:=e0.mod.kin.keeps λb o e=>(e0.bs b o e).1;have nz:s.heap.NoLimit:=e0.mod.nolimit.keeps λb o e=>(e0.bs b o e).1;have jM:∀y∈ps.zip us,scope.names.lookup y.1=some .local\/(scope.names.lookup y.1=some .cell/\((DQ (s.heap.objs.size+1) scope.names []).lookup y.1).isSome=true):=λ⟨n,v⟩ hy=>by
  rcases pw.par n (Kj hy).1 with q|q
  .exact .inl q
  .exact .inr ⟨q,NG _ _ _ (.inl q)⟩
 refine codeAny_call_function hr.depth (KX _ _ lk) rfl pw.co pw.gen rfl (PySem.W.codeRec_of KX dP) (hb _ _ _ _ ?_);refine wpAny_newFunctionEnv_cells pw.kind jM λenv he s1 x=>?_;subst he;refine⟨nz.keeps x.toInCall.keep,codeAny_func ?_⟩;obtain⟨t,ht,hq⟩:=gg A outer s H vs Q E (hr.deeper _) g8;have I:Inv (Dv CX P w K mg base N cj scope f cm A outer s H E) [] (start N vs) H s1:=WG pw hr.hd e0 hl r x;refine B5 (ht [] s1 (start N vs) H _ I hq) (λfl s' hs=>?_) λe s' hs=>hs;have cN:∀{σ':St} {H':J} {v:V} {u:Value},Inv (Dv CX P w K mg base N cj scope f cm A outer s H E) [] σ' H' s'->RelV v u->Q v H'->CE outer P w H s Q u s' :=
  λ{σ' H' v u} pA rv q=>⟨v,H',pA.os,pA.bare,pA.base,pA.hok,rv,q⟩
 cases fl with
 |ret u=>obtain⟨v,σ',H',pA,rv,q⟩:=hs;exact cN pA rv q
 |next=>obtain⟨σ',H',pA,q⟩:=hs;exact cN (v:=V.non) (u:=A0) pA rfl q
 |brk=>obtain⟨_,_,_,q⟩:=hs;exact Cv q
 |cont=>obtain⟨_,_,_,q⟩:=hs;exact Cv q
end
section
variable{X:Cx}{x:Str}{p pos:Pos}{e:Expr}{es:List Expr}{t:TA}{id T:String}{r:List V->J->VK->Prop}
def jQ(r:List V->J->VK->Prop)(t:TA):TE:=λY H Q=>t Y H λvs H1=>r vs H1 Q
theorem DC(hc:AK X (.builtin id) r)(hg:Gl X x)(hm:X.mg x=none)(hv:Be x=some (.builtin id))(ha:PA X (e::es) t)(hn:x ≠ "__name__":=by decide)(fU:(x==("__debug__":Str))=false:=by decide)(he:Ag (e::es) X.env=(false,eval e X.env)::Ag es X.env:=by rfl)(hpl:(backTo pos (Ag es X.env)).any (·.1)=false:=by rfl):PE X (.Call (.Name x p) (e::es) [] pos) (jQ r t):=by
 intro bT s Y H Q I h;refine KI (G6 I hg hm hv ?_ hn fU);exact PyProof.Rows.callWith_builtin1 (b9 (ha pos bT s Y H _ I h) λus s1 ⟨vs,H1,I1,r1,q1⟩=>hc bT s1 Y H1 vs us Q I1 r1 q1) he hpl
theorem EZ(hc:AK X (.type T) r)(hg:Gl X x)(hm:X.mg x=none)(hv:Be x=some (.type T))(ha:PA X (e::es) t)(hn:x ≠ "__name__":=by decide)(fU:(x==("__debug__":Str))=false:=by decide)(he:Ag (e::es) X.env=(false,eval e X.env)::Ag es X.env:=by rfl)(hpl:(backTo pos (Ag es X.env)).any (·.1)=false:=by rfl):PE X (.Call (.Name x p) (e::es) [] pos) (jQ r t):=by
 intro bT s Y H Q I h;refine KI (G6 I hg hm hv ?_ hn fU);exact KO (b9 (ha pos bT s Y H _ I h) λus s1 ⟨vs,H1,I1,r1,q1⟩=>hc bT s1 Y H1 vs us Q I1 r1 q1) he hpl
end
end L2
namespace HT
set_option maxHeartbeats 8000000
open PySem PyProof.Rows
section
open PySem.SeqAt
open PySem.MeetsSeq PySem.MeetsSeq2 PySem.MeetsSeq3
end
section
variable{prog:Program}{w:World}{A:Around}{E:Value->Shared->Prop}{s:Shared}
theorem aY{t b:Addr}{vs ws:List Value}{Q:Value->Shared->Prop}(ht:IsTup s.heap t vs.toArray)(hb:IsTup s.heap b ws.toArray)(hv:vs≠[])(h1:ws=[]->Q (.ref t) s)(h2:ws≠[]->Q (.ref s.heap.objs.size) {s with heap:=s.heap.push {cls:=.type "tuple",data:=.seq (vs++ws).toArray}})(hsz:vs.length+ws.length<=sizeLine):wpAny (model prog w) A (Cb .Add (.ref t) (.ref b)) Q E s:=by
 obtain⟨⟨cls,dd,data,sl⟩,ho,hc,n,hd⟩:=id ht;obtain⟨⟨lV,kh,data2,jR⟩,eP,ju,n2,jt⟩:=id hb;simp only at hc hd ju jt;subst hc hd ju jt;have e:vs.toArray++ws.toArray=(vs++ws).toArray:=by simp
 by_cases hw:ws=[]
 .exact concat_meets ⟨_,ho,rfl⟩ ⟨_,eP,rfl⟩ J4 seq_tuple_add Kt Kv (KQ _ _)
   (tuple_addW1 t b vs.toArray ws.toArray n n2 dd kh sl jR (by simpa using hv) (by simp[hw])) ⟨ho,eP,h1 hw⟩
 .refine concat_meets ⟨_,ho,rfl⟩ ⟨_,eP,rfl⟩ J4 seq_tuple_add Kt Kv (KQ _ _)
   (tuple_addW2 t b vs.toArray ws.toArray n n2 dd kh sl jR (by simpa using hv) (by simpa using hw) (by rw[Aw,Aw];exact hsz)) ⟨ho,eP,?_⟩
  rw[e];exact h2 hw
def jb(n d:Nat):Option Int->Nat
 |none=>d
 |some v=>if v<0 then(v+(n:Int)).toNat else min v.toNat n
end
end HT
namespace L2
open PySem PySem.Spec PyProof.Rows
abbrev TO:=St->J->(Option Int->J->Prop)->Prop
def PO(X:Cx)(e:Option Expr)(t:TO):Prop :=
 ∀(bT:List (Addr×Obj)) (s:Shared) (Y:St) (H:J) (Q:Option Int->J->Prop),Inv X bT Y H s->t Y H Q ->
  wpAny (model X.prog X.w) X.A (evalPart e X.env) (λu s'=>∃o H',Inv X bT Y H' s'/\IsPart u o/\Q o H') X.xe s
def Ta:TO:=λ_ H Q=>Q none H
def RZ(t:TE):TO:=λY H Q=>t Y H λx H1=>∃i,x=.int i/\Q (some i) H1
section
variable{X:Cx}{e:Expr}{te:TE}{lo hi:Option Expr}{tl th:TO}{pos p2:Pos}
theorem U4:PO X none Ta:=by intro bT s Y H Q I h;rw[evalPart_none];exact Ac ⟨none,H,I,.none,h⟩
theorem TC(h:PE X e te):PO X (some e) (RZ te):=by intro bT s Y H Q I hw;rw[evalPart_some];refine b9 (h bT s Y H _ I hw) λu s1 ⟨x,H1,I1,r1,q1⟩=>?_;obtain⟨i,rfl,q⟩:=q1;obtain⟨t,rfl⟩:=r1;exact⟨some i,H1,I1,.int i t,q⟩
def mQ(X:Cx)(r:V->Option Int->Option Int->J->VK->Prop):Prop :=
 ∀(bT:List (Addr×Obj)) (s:Shared) (Y:St) (H:J) (x:V) (v vl vu:Value) (lo hi:Option Int) (sl:Addr) (Q:VK),Inv X bT Y H s->RelV x v->s.heap.IsSliceOf sl vl vu .none->IsPart vl lo->IsPart vu hi->r x lo hi H Q ->
  ∃T id,typeLookup (.type T) "__getitem__"=pure (some (.builtin id))/\s.TypeIs v T/\wpAny (model X.prog X.w) X.A (getItem v (.ref sl)) (EP X bT Y Q) X.xe s
def m6(r:V->Option Int->Option Int->J->VK->Prop)(te:TE)(tl th:TO):TE:=λY H Q=>te Y H λx H1=>tl Y H1 λl H2=>th Y H2 λu H3=>r x l u H3 Q
theorem U1{r:V->Option Int->Option Int->J->VK->Prop}(hr:mQ X r)(he:PE X e te)(hl:PO X lo tl)(hu:PO X hi th):PE X (.Subscript e (.Slice lo hi none p2) pos) (m6 r te tl th):=by intro bT s Y H Q I h;refine Subscript_ (b9 (he bT s Y H _ I h) λv s1 ⟨x,H1,I1,r1,q1⟩=>?_);refine wpAny_Slice (b9 (hl bT s1 Y H1 _ I1 q1) λvl s2 ⟨l,H2,I2,pl,q2⟩=>b9 (hu bT s2 Y H2 _ I2 q2) λvu s3 ⟨u,H3,I3,pu,q3⟩=>?_);rw[evalPart_none];refine Ac ?_;have I4:Inv X bT Y H3 {s3 with heap:=s3.heap.push {cls:=.type "slice",data:=.fields #[vl,vu,.none]}}:=I3.kept (t':=s3.toks) λb ob q=>Ap _ q;obtain⟨T,id,hT,ht,hg⟩:=hr bT {s3 with heap:=s3.heap.push {cls:=.type "slice",data:=.fields #[vl,vu,.none]}} Y H3 x v vl vu l u s3.heap.objs.size Q I4 r1 (Heap.IsSliceOf.new ..) pl pu q3;show wpAny (model X.prog X.w) X.A (subscriptTail e (.Slice lo hi none p2) v (.ref s3.heap.objs.size)) (EP X bT Y Q) X.xe {s3 with heap:=s3.heap.push {cls:=.type "slice",data:=.fields #[vl,vu,.none]}};exact tail_any (ops:=[.ref s3.heap.objs.size,v]) ht hT hg (by with_unfolding_all rfl)
def GJ(xs:List V)(lo hi:Option Int):List V:=(xs.drop (HT.jb xs.length 0 lo)).take (HT.jb xs.length xs.length hi-HT.jb xs.length 0 lo)
theorem Xs(xs:List V)(lo hi:Option Int):(GJ xs lo hi).length<=xs.length:=by unfold GJ;rw[Fe,Gy];omega
def Rz(K:Ad):R2:=λx y H Q=>∃a b xs ys,x=.ref a/\y=.ref b/\da K H a xs/\da K H b ys/\xs≠[]/\xs.length+ys.length<=sizeLine /\
 (ys=[]->Q (.ref a) H)/\(ys≠[]->∀p,H p=none->Q (.ref p) (upd H p (.tup (xs++ys))))
theorem bW.nil_iff{xs:List V}{us:List Value}(r:bW xs us):us=[]↔xs=[]:=by
 cases r with
 |nil=>simp
 |cons _ _=>simp
theorem Va:dj X (Cb .Add) (Rz X.K):=by intro bT s Y H x y v u Q I rx ry h;obtain⟨a,b,xs,ys,rfl,rfl,ha,hb,hx,hz,q1,q2⟩:=h;cases rx;cases ry;obtain⟨its,r1,p1,_⟩:=I.tuple ha;obtain⟨eW,r2,p2,_⟩:=I.tuple hb;refine HT.aY p1 p2 (λz=>hx (r1.nil_iff.mp z)) (λz=>⟨.ref a,H,I,rfl,q1 (r2.nil_iff.mp z)⟩) (λz=>?_) (by rw[<-r1.length,<-r2.length];exact hz);refine⟨.ref s.heap.objs.size,_,I.laid (t':=s.toks) (o:=.tup (xs++ys)) (λb ob q=>Ap _ q) (Af _) ?_,rfl,q2 (λw=>z (r2.nil_iff.mpr w)) _ (I.hok.fresh (Af _))⟩;exact⟨by rw[Az];exact hz,_,r1.append r2,HS _ _⟩
end
section
variable{H:J}{i:Int}{bT:List (Addr×Obj)}{n:Nat}{s:Shared}{Y:St}{x y:V}{u:Value}
def fK(n:Nat)(i:Int):Option Nat:=if 0<=i then(if i<n then some i.toNat else none)else if -(n:Int)<=i then some (i+n).toNat else none
def iF{α:Type}(xs:List α)(i:Int):Option α:=(fK xs.length i).bind λj=>xs[j]?
theorem Pj{j:Nat}(h:fK n i=some j):seqIndex? i n=some j/\j<n/\-(n:Int)<=i/\i<n:=by
 unfold fK at h
 by_cases h0:0<=i
 .rw[if_pos h0]at h
  by_cases h1:i<n
  .rw[if_pos h1]at h
   have e:i.toNat=j:=Bl h;exact⟨by rw[seqIndex_of h0 h1,e],by omega,by omega,h1⟩
  .rw[if_neg h1]at h;cases h
 .rw[if_neg h0]at h
  by_cases h1:-(n:Int)<=i
  .rw[if_pos h1]at h
   have e:(i+n).toNat=j:=Bl h;exact⟨by rw[seqIndex_neg (by omega) h1,e],by omega,h1,by omega⟩
  .rw[if_neg h1]at h;cases h
theorem LK{α:Type}{xs:List α}{v:α}(h:iF xs i=some v):∃j,seqIndex? i xs.length=some j/\xs[j]?=some v/\j<xs.length/\-(xs.length:Int)<=i/\i<xs.length:=by
 unfold iF at h;cases e:fK xs.length i with
 |none=>rw[e]at h;cases h
 |some j=>rw[e]at h;obtain⟨h1,h2,h3,h4⟩:=Pj e;exact⟨j,h1,h,h2,h3,h4⟩
def OU(b:Expr):Prop:=∀o i,subscripted b false o i=operate [o,i] (getItem o i)
def gL(X:Cx)(r:R2):Prop :=
 ∀(value du:Expr) (bT:List (Addr×Obj)) (s:Shared) (Y:St) (H:J) (x y:V) (v u:Value) (Q:VK),Inv X bT Y H s->RelV x v->RelV y u->r x y H Q ->
  subscripted du false v u=operate [v,u] (getItem v u)->wpAny (model X.prog X.w) X.A (subscriptTail value du v u) (EP X bT Y Q) X.xe s
def oW(X:Cx)(id:String)(r:V->List V->J->VK->Prop):Prop :=
 ∀(bT:List (Addr×Obj)) (s:Shared) (Y:St) (H:J) (x:V) (xs:List V) (v:Value) (us:List Value) (Q:VK),Inv X bT Y H s->RelV x v->bW xs us->r x xs H Q ->
  wpAny (model X.prog X.w) X.A (call (.builtin id) (v::us)) (EP X bT Y Q) X.xe s
section
variable{X:Cx}{a b:Expr}{ta tb:TE}{pos:Pos}
theorem gL.or{r r':R2}(h:gL X r)(h':gL X r'):gL X (λx y H Q=>r x y H Q\/r' x y H Q):=by
 intro value du bT s Y H x y v u Q I rx ry q hs;rcases q with q|q
 .exact h value du bT s Y H x y v u Q I rx ry q hs
 .exact h' value du bT s Y H x y v u Q I rx ry q hs
theorem RQ{r:R2}(hr:gL X r)(ha:PE X a ta)(hb:PE X b tb)(hs:OU b):PE X (.Subscript a b pos) (ja r ta tb):=by intro bT s Y H Q I h;exact Subscript_ (KS ha hb I h λv u s2 x y H2 I2 rx ry q=>hr a b bT s2 Y H2 x y v u Q I2 rx ry q (hs _ _))
def N2(K:Ad):R2:=λx y H Q=>∃p xs i v,x=.ref p/\y=.int i/\cF K H p xs/\iF xs i=some v/\Q v H
def N1(K:Ad):R2:=λx y H Q=>∃p xs i v,x=.ref p/\y=.int i/\da K H p xs/\iF xs i=some v/\Q v H
def N4:R2:=λx y H Q=>∃z i c,x=.str z/\y=.int i/\z.length<=sizeLine/\iF z.cps.toList i=some c/\Q (.str ⟨#[c]⟩) H
theorem U9:gL X (N2 X.K):=by
 intro value du bT s Y H x y v u Q I rx ry h hs;obtain⟨p,xs,i,z,rfl,rfl,hq,he,q⟩:=h;cases rx;obtain⟨t,rfl⟩:=ry;obtain⟨its,r,pl,hz⟩:=I.list hq;obtain⟨j,h1,h2,h3,h4,h5⟩:=LK he;obtain⟨w,ew,rw'⟩:=r.get h2;have hl:=r.length;have hn:=FC;have cN:EP X bT Y Q w s:=⟨z,H,I,rw',q⟩
 by_cases h0:0<=i
 .have hj:i.toNat=j:=by
   rw[seqIndex_of h0 h5]at h1;exact Bl h1
  exact item_listR pl.isList h0 (by omega) (by rw[hj];simpa using ew) cN hs
 .have hj:(i+(its.toArray.size:Int)).toNat=j:=by
   rw[seqIndex_neg (by omega) h4]at h1;rw[Aw,<-hl];exact Bl h1
  exact subscriptTail_builtinR (x:=w) pl.isList.typeIs slot_list_getitem.lookup
   (wpAny_getItem_list_neg (Q:=λr s'=>r=w/\EP X bT Y Q r s') pl.isList (by omega) (by rw[Aw]<;>omega) (by omega) (by rw[hj];simpa using ew) ⟨rfl,cN⟩) hs
theorem Sv:gL X (N1 X.K):=by
 intro value du bT s Y H x y v u Q I rx ry h hs;obtain⟨p,xs,i,z,rfl,rfl,hq,he,q⟩:=h;cases rx;obtain⟨t,rfl⟩:=ry;obtain⟨its,r,pl,hz⟩:=I.tuple hq;obtain⟨j,h1,h2,h3,h4,h5⟩:=LK he;obtain⟨w,ew,rw'⟩:=r.get h2;have hl:=r.length;have hn:=FC;have cN:EP X bT Y Q w s:=⟨z,H,I,rw',q⟩;exact subscriptTail_builtinR (x:=w) pl.typeIs slot_tuple_getitem.lookup
  (getItem_tuple (j:=j) (Q:=λr s'=>r=w/\EP X bT Y Q r s') pl (by omega) (by omega) (by rw[Aw,<-hl];exact h1) (by simpa using ew) ⟨rfl,cN⟩) hs
theorem S3:gL X N4:=by
 intro value du bT s Y H x y v u Q I rx ry h hs;obtain⟨z,i,c,rfl,rfl,hz,he,q⟩:=h;obtain⟨t,rfl⟩:=rx;obtain⟨t',rfl⟩:=ry;obtain⟨j,h1,h2,h3,h4,h5⟩:=LK he;have hl:z.cps.toList.length=z.length:=by simp[Str.length]
 rw[hl]at h1 h4 h5;have hn:=FC;exact tail_any (typeIs_str s z t) slot_str_getitem.lookup (getItem_str (c:=c) (by have e1:decide (i < -(2 ^ 63:Int))=false:=decide_eq_false (by omega);have e2:decide (i ≥ 2 ^ 63)=false:=decide_eq_false (by omega);rw[e1,e2,Bool.or_false]) (by rw[h1];simpa using h2) ⟨.str ⟨#[c]⟩,H,I.tok _,⟨_,rfl⟩,q⟩) hs
def ni(K:Ad):R2:=λx y H Q=>N2 K x y H Q\/N1 K x y H Q\/N4 x y H Q
theorem Su:gL X (ni X.K):=U9.or (Sv.or S3)
theorem WW(its:List Value)(n j:Nat)(u:Value):Ek (·.setIfInBounds j u) {cls:=.type "list",data:=.seq its.toArray n}={cls:=.type "list",data:=.seq (its.set j u).toArray n}:=by simp[Ek]
theorem Inv.lst{bT:List (Addr×Obj)}{Y:St}{H:J}{s:Shared}{p:Addr}{xs:List V}(I:Inv X bT Y H s)(h:H p=some (.lst xs)):∃(its:List Value) (n:Nat),bW xs its/\s.heap.get? p=some {cls:=.type "list",data:=.seq its.toArray n}/\xs.length<=sizeLine:=by
 obtain⟨z,its,n,r,e⟩:=I.hok p _ h;exact⟨its,n,r,e,z⟩
theorem Inv.lstUpd{p:Addr}{xs ys:List V}{its its':List Value}{n':Nat}{f:Obj->Obj}(I:Inv X bT Y H s)(h:H p=some (.lst xs))(ho:s.heap.get? p=some {cls:=.type "list",data:=.seq its.toArray n})(hf:f {cls:=.type "list",data:=.seq its.toArray n}={cls:=.type "list",data:=.seq its'.toArray n'})(r:bW ys its')(hz:ys.length<=sizeLine)(t:Nat):Inv X bT Y (upd H p (.lst ys)) {s with heap:=s.heap.update p f,toks:=t}:=by
 have e:(s.heap.update p f).get? p=some {cls:=.type "list",data:=.seq its'.toArray n'}:=by rw[Ez f ho (by rw[hf]<;>rfl),hf]
 refine I.write (x:=p) (e:=p) (by rw[h];trivial) (.inl rfl) (λb u hb q=>(NF _ _ (AH hb)).trans q) ⟨_,e⟩ ?_;exact⟨hz,its',n',r,e⟩
def RY:V->V->V->J->(J->Prop)->Prop:=λo i v H Q=>∃p xs k j,o=.ref p/\i=.int k/\H p=some (.lst xs)/\fK xs.length k=some j/\Q (upd H p (.lst (xs.set j v)))
theorem gh:NU X RY:=by
 intro bT s Y H o i v ov iv u Q I ro ri rv h;obtain⟨p,xs,k,j,rfl,rfl,hp,hj,q⟩:=h;cases ro;obtain⟨t,rfl⟩:=ri;obtain⟨its,n,r,ho,hz⟩:=I.lst hp;obtain⟨h1,h2,h3,h4⟩:=Pj hj;have hl:=r.length;have hn:=FC;have I':Inv X bT Y (upd H p (.lst (xs.set j v))) {s with heap:=s.heap.update p (Ek (·.setIfInBounds j u))} :=
  I.lstUpd hp ho (WW its n j u) (r.set rv j) (by rw[B0];exact hz) s.toks
 by_cases h0:0<=k
 .have hk:k.toNat=j:=by
   rw[seqIndex_of h0 h4]at h1;exact Bl h1
  exact PySem.W.ki_setAt ho h0 (by omega) (by rw[Aw,<-hl];exact h4) (by rw[hk];exact⟨_,I',q⟩)
 .have hk:(k+(its.toArray.size:Int)).toNat=j:=by
   rw[seqIndex_neg (by omega) h3]at h1;rw[Aw,<-hl];exact Bl h1
  exact PySem.W.ki_setBack ho (by omega) (by rw[Aw,<-hl];exact h3) (by omega) (by rw[hk];exact⟨_,I',q⟩)
theorem XY(lo hi:Option Int)(n:Nat):(Eu lo hi none n).1=((HT.jb n 0 lo:Nat):Int)/\(Eu lo hi none n).2.1=((HT.jb n n hi:Nat):Int)/\(Eu lo hi none n).2.2=1:=by
 refine⟨?_,?_,rfl⟩
 .cases lo with
  |none=>simp[Eu,HT.jb]
  |some i =>
   simp only[Eu,HT.jb,Option.getD_none,show(1:Int) > 0 by decide,if_true]
   by_cases h:i<0
   .simp only[h,if_true]<;>omega
   .simp only[h,if_false]<;>omega
 .cases hi with
  |none=>simp[Eu,HT.jb]
  |some i =>
   simp only[Eu,HT.jb,Option.getD_none,show(1:Int) > 0 by decide,if_true]
   by_cases h:i<0
   .simp only[h,if_true]<;>omega
   .simp only[h,if_false]<;>omega
theorem Ya(its:List Value)(lo hi:Option Int):slicePick its.toArray lo hi none=((its.drop (HT.jb its.length 0 lo)).take (HT.jb its.length its.length hi-HT.jb its.length 0 lo)).toArray:=by obtain⟨h1,h2,h3⟩:=XY lo hi its.toArray.size;unfold slicePick;rw[h1,h2,h3];simp only[sliceRange_one,pick_run,Aw]<;>rfl
def R7(K:Ad):V->Option Int->Option Int->J->VK->Prop:=λx lo hi H Q=>∃a xs,x=.ref a/\cF K H a xs/\∀p,H p=none->Q (.ref p) (upd H p (.lst (GJ xs lo hi)))
theorem Tw:mQ X (R7 X.K):=by intro bT s Y H x v vl vu lo hi sl Q I rx hs pl pu h;obtain⟨a,xs,rfl,hx,q⟩:=h;cases rx;obtain⟨its,r,ht,hz⟩:=I.list hx;have bY:=r.length;refine⟨"list",_,slot_list_getitem.lookup,ht.isList.typeIs,?_⟩;refine wpAny_getItem_list_slice ht.isList hs pl pu .none (by simp) ?_ (by rw[Aw]<;>omega);rw[Ya,<-bY];refine⟨.ref s.heap.objs.size,_,I.laid (t':=s.toks) (o:=.lst (GJ xs lo hi)) (λb ob q=>Ap _ q) (Af _) ?_,rfl,q _ (I.hok.fresh (Af _))⟩;exact⟨Ba (Xs xs lo hi) hz,_,0,(r.drop (HT.jb xs.length 0 lo)).take (HT.jb xs.length xs.length hi-HT.jb xs.length 0 lo),AA _ rfl⟩
def C1:V->Bool
 | .non=>true
 | .bl _=>true
 | .int _=>true
 | .str _=>true
 |_=>false
def ib:V->V->Bool
 | .non,.non=>true
 | .bl a,.bl b=>a==b
 | .bl a,.int b=>(if a then 1 else 0)==b
 | .int a,.bl b=>a==(if b then 1 else 0)
 | .int a,.int b=>a==b
 | .str a,.str b=>a==b
 |_,_=>false
theorem SW{A:Around}{v:Value}(ry:RelV y u)(rx:RelV x v)(fy:C1 y=true)(fx:C1 x=true):SeqAt.EqAt A s u v (ib y x):=by
 cases y with
 |non =>
  cases ry;cases x with
  |non=>cases rx;exact SeqAt.EqAt.same _
  |bl b=>cases rx;exact SeqAt.EqAt.none_bool b
  |int b=>obtain⟨t,rfl⟩:=rx;exact SeqAt.EqAt.none_int b t
  |str b=>obtain⟨t,rfl⟩:=rx;exact SeqAt.EqAt.none_str b t
  |_=>exact absurd (show false=true from fx) Bn
 |bl a =>
  cases ry;cases x with
  |non=>cases rx;exact SeqAt.EqAt.bool_none a
  |bl b=>cases rx;exact SeqAt.EqAt.bool_bool a b
  |int b=>obtain⟨t,rfl⟩:=rx;exact SeqAt.EqAt.bool_int a b t
  |str b=>obtain⟨t,rfl⟩:=rx;exact SeqAt.EqAt.bool_str a b t
  |_=>exact absurd (show false=true from fx) Bn
 |int a =>
  obtain⟨t',rfl⟩:=ry;cases x with
  |non=>cases rx;exact SeqAt.EqAt.int_none a t'
  |bl b=>cases rx;exact SeqAt.EqAt.int_bool a t' b
  |int b=>obtain⟨t,rfl⟩:=rx;exact SeqAt.EqAt.int_int a t' b t
  |str b=>obtain⟨t,rfl⟩:=rx;exact Nn a t' b t
  |_=>exact absurd (show false=true from fx) Bn
 |str a =>
  obtain⟨t',rfl⟩:=ry;cases x with
  |non=>cases rx;exact SeqAt.EqAt.str_none a t'
  |bl b=>cases rx;exact SeqAt.EqAt.str_bool a t' b
  |int b=>obtain⟨t,rfl⟩:=rx;exact Nm a t' b t
  |str b=>obtain⟨t,rfl⟩:=rx;exact SeqAt.EqAt.str_str a t' b t
  |_=>exact absurd (show false=true from fx) Bn
 |_=>exact absurd (show false=true from fy) Bn
def gG(x:V)(u:Value):Bool:=match u with
 | .none=>ib .non x
 | .bool b=>ib (.bl b) x
 | .int i _=>ib (.int i) x
 | .str z _=>ib (.str z) x
 |_=>false
theorem OF(r:RelV y u)(f:C1 y=true):gG x u=ib y x:=by
 cases y with
 |non=>cases r;rfl
 |bl b=>cases r;rfl
 |int i=>obtain⟨t,rfl⟩:=r;rfl
 |str z=>obtain⟨t,rfl⟩:=r;rfl
 |_=>exact absurd (show false=true from f) Bn
theorem LG{x:V}:∀{xs:List V} {us:List Value},bW xs us->xs.all C1=true->us.any (gG x)=xs.any λy=>ib y x
 |_,_,.nil,_=>rfl
 |y::xs,u::us,.cons r t,f=>by rw[Kp,Bw]at f;rw[Ft,Ft,OF r f.1,LG t f.2]
theorem LY{A:Around}{s:Shared}{x:V}{v:Value}(rx:RelV x v)(fx:C1 x=true):∀{xs:List V} {us:List Value},bW xs us->xs.all C1=true->∀u∈us,SeqAt.EqAt A s u v (gG x u)
 |_,_,.nil,_=>λu hu=>by cases hu
 |y::xs,u::us,.cons r t,f=>λu' hu=>by
  rw[Kp,Bw]at f;rcases Ao.mp hu with rfl|hu
  .rw[OF r f.1];exact SW r rx f.1 fx
  .exact LY rx fx t f.2 u' hu
def jX(x:V)(xs:List V):Bool:=xs.any λy=>ib y x
def kB(K:Ad)(g6:Bool):R2:=λx y H Q=>∃p xs,y=.ref p/\(cF K H p xs\/da K H p xs)/\C1 x=true/\xs.all C1=true/\Q (.bl (if g6 then !jX x xs else jX x xs)) H
theorem Qp:dj X (BZ .In) (kB X.K false):=by
 intro bT s Y H x y v u Q I rx ry h;obtain⟨p,xs,rfl,hq,fx,fs,q⟩:=h;cases ry;rcases hq with hq|hq
 .obtain⟨its,r,pl,hz⟩:=I.list hq
  refine SeqAt.in_listAt (gG x) pl.isList (λw hw=>LY rx fx r fs w (by simpa using hw)) ⟨.bl _,H,I,rfl,?_⟩;rw[show its.toArray.any (gG x)=its.any (gG x) by simp,LG r fs];exact q
 .obtain⟨its,r,pl,hz⟩:=I.tuple hq
  refine SeqAt.in_tupleAt (gG x) pl (λw hw=>LY rx fx r fs w (by simpa using hw)) ⟨.bl _,H,I,rfl,?_⟩;rw[show its.toArray.any (gG x)=its.any (gG x) by simp,LG r fs];exact q
theorem X3:AK X (.builtin "len") (λxs H Q=>∃p ys,xs=[.ref p]/\(cF X.K H p ys\/da X.K H p ys)/\Q (.int ys.length) H):=by
 intro bT s Y H xs us Q I r h;obtain⟨p,ys,rfl,hq,q⟩:=h;obtain⟨u,rfl,rx⟩:=vals1 r;cases rx;have hn:=FC;rcases hq with hq|hq
 .obtain⟨its,r',pl,hz⟩:=I.list hq
  have bY:=r'.length;exact Calls.call_len_list pl.isList (by simp only[Aw]<;>omega) ⟨.int ys.length,H,I.tok _,⟨s.toks+1,by rw[Aw,bY]⟩,q⟩
 .obtain⟨its,r',pl,hz⟩:=I.tuple hq
  have bY:=r'.length;exact len_tuple pl (by simp only[Aw]<;>omega) ⟨.int ys.length,H,I.tok _,⟨s.toks+1,by rw[Aw,bY]⟩,q⟩
theorem AK.or{f:Value}{r r':List V->J->VK->Prop}(h:AK X f r)(h':AK X f r'):AK X f (λxs H Q=>r xs H Q\/r' xs H Q):=by
 intro bT s Y H xs us Q I rs q;rcases q with q|q
 .exact h bT s Y H xs us Q I rs q
 .exact h' bT s Y H xs us Q I rs q
theorem Xi:AK X (.type "list") (λxs H Q=>∃p ys,xs=[.ref p]/\(cF X.K H p ys\/da X.K H p ys)/\∀l,H l=none->Q (.ref l) (upd H l (.lst ys))):=by
 intro bT s Y H xs us Q I r h;obtain⟨p,ys,rfl,hq,q⟩:=h;obtain⟨u,rfl,rx⟩:=vals1 r;cases rx;have cN:∀(its:List Value),bW ys its->ys.length<=sizeLine->∀(h':Heap) (c':Nat),(∀b o',s.heap.get? b=some o'->h'.get? b=some o') ->
   h'.get? s.heap.objs.size=some {cls:=.type "list",dict:=none,data:=.seq its.toArray c',slots:=#[]}->EP X bT Y Q (.ref s.heap.objs.size) {s with heap:=h'}:=λits r' hz h' c' kp e =>
  ⟨.ref s.heap.objs.size,_,I.laid (t':=s.toks) kp (Af _) (show ZV X.prog X.w _ h' _ (.lst ys) from⟨hz,its,c',r',e⟩),rfl,q _ (I.hok.fresh (Af _))⟩
 rcases hq with hq|hq
 .obtain⟨its,r',pl,hz⟩:=I.list hq
  have bY:=r'.length;obtain⟨o,ho,hc,n,hd⟩:=pl.isList;exact call_list_seq p (.inl rfl) ho hc hd (λh' c' kp e=>cN its r' hz h' c' kp e) (by simp only[Aw]<;>omega)
 .obtain⟨its,r',pl,hz⟩:=I.tuple hq
  have bY:=r'.length;obtain⟨o,ho,hc,n,hd⟩:=pl;exact call_list_seq p (.inr rfl) ho hc hd (λh' c' kp e=>cN its r' hz h' c' kp e) (by simp only[Aw]<;>omega)
theorem X8:AK X (.type "tuple") (λxs H Q=>∃p ys,xs=[.ref p]/\((cF X.K H p ys/\∀l,H l=none->Q (.ref l) (upd H l (.tup ys)))\/(da X.K H p ys/\Q (.ref p) H))):=by
 intro bT s Y H xs us Q I r h;obtain⟨p,ys,rfl,h⟩:=h;obtain⟨u,rfl,rx⟩:=vals1 r;cases rx;rcases h with⟨hq,q⟩|⟨hq,q⟩
 .obtain⟨its,r',pl,hz⟩:=I.list hq
  have bY:=r'.length;refine call_tuple_list pl.isList (λh' kp=>?_) (by simp only[Aw]<;>omega);have I1:Inv X bT Y H {s with heap:=h'}:=I.kept (t':=s.toks) kp;have I2:Inv X bT Y (upd H h'.objs.size (.tup ys)) {s with heap:=h'.push {cls:=.type "tuple",data:=.seq its.toArray}} :=
   I1.laid (t':=s.toks) (λb o e=>Ap _ e) (Af _) (show ZV X.prog X.w _ _ _ (.tup ys) from⟨hz,its,r',HS _ _⟩)
  exact⟨.ref h'.objs.size,_,I2,rfl,q _ (I1.hok.fresh (Af _))⟩
 .obtain⟨its,r',pl,hz⟩:=I.tuple hq
  exact call_tuple_same pl ⟨.ref p,H,I,rfl,q⟩
def lY(K:Ad)(T:String)(x:V)(H:J):Prop:=match x with
 | .str _=>T = "str"
 | .int _=>T = "int"
 | .ref p=>(T = "list"/\∃xs,cF K H p xs)\/(T = "tuple"/\∃o,K.lookup p=some o/\o.cls=.type "tuple"/\o.dict=none) \/
   (T = "dict"/\((∃kvs,H p=some (.dK kvs))\/∃kvs,H p=some (.dT kvs)))\/(T = "set"/\∃pw n,H p=some (.set pw n))
 |_=>False
theorem Ss{T:String}{v:Value}(I:Inv X bT Y H s)(r:RelV x v)(ty:lY X.K T x H):s.TypeIs v T/\∀a,v=.ref a->∃ob,s.heap.get? a=some ob/\ob.dict=none:=by
 cases x with
 |str z=>obtain⟨t,rfl⟩:=r;cases(show T = "str" from ty);exact⟨typeIs_str s z t,λ_ e=>nomatch e⟩
 |int i=>obtain⟨t,rfl⟩:=r;cases(show T = "int" from ty);exact⟨Gb s i t,λ_ e=>nomatch e⟩
 |ref p =>
  cases r;rcases ty with⟨rfl,xs,hq⟩|⟨rfl,o,hk,hc,hd⟩|⟨rfl,hk⟩|⟨rfl,pw,n,hk⟩
  .obtain⟨its,_,pl,_⟩:=I.list hq
   refine⟨pl.isList.typeIs,λa e=>?_⟩;cases e;obtain⟨o,n,e,c,hd,_⟩:=pl;exact⟨o,e,hd⟩
  .refine⟨⟨o,I.kIn p o hk,hc⟩,λa e=>?_⟩
   cases e;exact⟨o,I.kIn _ o hk,hd⟩
  .have z:∃o,s.heap.get? p=some o/\o.ExactDict:=by
    rcases hk with⟨kvs,hk⟩|⟨kvs,hk⟩
    .obtain⟨_,_,_,_,o,_,_,e,ex,_⟩:=I.hok p _ hk
     exact⟨o,e,ex⟩
    .obtain⟨_,_,_,_,o,_,_,e,ex,_⟩:=I.hok p _ hk
     exact⟨o,e,ex⟩
   obtain⟨o,e,ex⟩:=z;refine⟨⟨o,e,ex.1⟩,λa e2=>?_⟩;cases e2;exact⟨o,e,ex.2.1⟩
  .obtain⟨o,_,_,_,e,ex,_⟩:=I.hok p _ hk
   refine⟨⟨o,e,ex.1⟩,λa e2=>?_⟩;cases e2;exact⟨o,e,ex.2.1⟩
 |_=>exact Cv ty
def kz(K:Ad)(T:String)(r:V->List V->J->VK->Prop)(to:TE)(t:TA):TE:=λY H Q=>to Y H λx H1=>lY K T x H1/\t Y H1 λxs H2=>r x xs H2 Q
variable{o e:Expr}{es:List Expr}{to:TE}{t:TA}{name:Str}{eM c5:Pos}{T id:String}{r:V->List V->J->VK->Prop}
theorem N8(pa:PlainAttrs T)(slot:Slot T name id)(nJ:typeOf (.builtin id)=pure (.type "method_descriptor"))(hm:oW X id r)(ho:PE X o to)(ha:PA X (e::es) t)(dy:Gi o name X.env (eval o X.env)=eval o X.env:=by rfl)
  (dA:((backTo c5 (Ag (e::es) X.env)).all (λx=>!x.1)&&(backToKw c5 (Gr [] X.env)).all (λx=>x.1.isSome)
   && decide ((e::es).length+([]:List Keyword).length+(if([]:List Keyword).isEmpty then 0 else 1)<30))=true:=by rfl)
  (dw:(eM.endLine==c5.line)=true:=by rfl)(hs:Ag (e::es) X.env=(false,eval e X.env)::Ag es X.env:=by rfl)(iQ:(backTo c5 (Ag es X.env)).any (·.1)=false:=by rfl):
  PE X (.Call (.Attribute o name eM) (e::es) [] c5) (kz X.K T r to t):=by
 intro bT s Y H Q I h;refine wpAny_Call_method_late dy dA dw rfl (b9 (ho bT s Y H _ I h) λv s1 ⟨x,H1,I1,r1,ty,q1⟩=>?_);obtain⟨h1,h2⟩:=Ss I1 r1 ty;refine⟨T,id,pa,slot,nJ,h1,h2,?_⟩;have hA:=ha c5 bT s1 Y H1 _ I1 q1;rw[hs]at hA ⊢;refine ND (by show(false||(backTo c5 (Ag es X.env)).any (·.1))=false;rw[iQ]<;>rfl) (NL ?_);exact b9 hA λus s2 ⟨vs,H2,I2,r2,q2⟩=>hm bT s2 Y H2 x vs v us Q I2 r1 r2 q2
end
end
section
variable{its:List Value}{n t':Nat}
def oX(X:Cx)(id:String)(r:V->List V->J->VK->Prop):Prop :=
 ∀(bT:List (Addr×Obj)) (s:Shared) (Y:St) (H:J) (x:V) (xs:List V) (v:Value) (us:List Value) (Q:VK),Inv X bT Y H s->RelV x v->bW xs us->r x xs H Q ->
  wpAny (model X.prog X.w) X.A (call (.builtin id) (v::us)) (EP X bT Y Q) X.xe s
theorem bW.one:∀{x:V} {us:List Value},bW [x] us->∃u,us=[u]/\RelV x u
 |_,_,.cons r .nil=>⟨_,rfl,r⟩
theorem bW.rep{xs:List V}{us:List Value}(h:bW xs us):∀k:Nat,bW (Ak k xs).flatten (Ak k us).flatten
 |0=>.nil
 |k+1=>by rw[Ew,Ew,Fh,Fh];exact bW.append h (bW.rep h k)
theorem foldl_rep(its:List Value):∀(k:Nat) (acc:List Value),Ga (λx1 x2=>x1++x2) acc.toArray (Ak k its.toArray)=(acc++(Ak k its).flatten).toArray
 |0,acc=>by simp
 |k+1,acc=>by
  have e:acc.toArray++its.toArray=(acc++its).toArray:=by simp
  have e2:(acc++its)++(Ak k its).flatten=acc++(Ak (k+1) its).flatten:=by rw[Ew,Fh,Cc]
  rw[<-e2,<-foldl_rep its k (acc++its),<-e,Ew,List.foldl_cons]
section
variable{X:Cx}{bT:List (Addr×Obj)}{Y:St}{H:J}{s:Shared}{l b:Addr}{xs ys zs:List V}
theorem Inv.lset{its':List Value}{f:Array Value->Array Value}(I:Inv X bT Y H s)(hH:H l=some (.lst xs))(e:s.heap.get? l=some {cls:=.type "list",data:=.seq its.toArray n})(hf:f its.toArray=its'.toArray)(hv:bW ys its')(hz:ys.length<=sizeLine):Inv X bT Y (upd H l (.lst ys)) {s with heap:=s.heap.update l (Ek f),toks:=t'}:=by
 have q:=PySem.IsL.update e f;rw[hf]at q;refine I.write (x:=l) (e:=l) (by rw[hH];exact trivial) (.inl rfl) (λb' u hb hu=>(NF s.heap (Ek f) (AH hb)).trans hu) ⟨_,q⟩ ?_;exact⟨hz,its',_,hv,q⟩
theorem Inv.lnew(I:Inv X bT Y H s)(hv:bW ys its)(hz:ys.length<=sizeLine):Inv X bT Y (upd H s.heap.objs.size (.lst ys)) {s with heap:=s.heap.push {cls:=.type "list",data:=.seq its.toArray},toks:=t'} :=
 I.laid (λ_ _ q=>Ap _ q) (Af _) ⟨hz,its,0,hv,AA _ rfl⟩
theorem Inv.fresh(I:Inv X bT Y H s):H s.heap.objs.size=none:=I.hok.fresh (Af _)
theorem Inv.lstM(I:Inv X bT Y H s)(hH:H l=some (.lst xs)):xs.length<=sizeLine/\∃(its:List Value) (n:Nat),bW xs its/\xs.length=its.length/\s.heap.get? l=some {cls:=.type "list",data:=.seq its.toArray n}:=by obtain⟨z,its,n,r,e⟩:=I.hok l _ hH;exact⟨z,its,n,r,r.length,e⟩
theorem VT(h:n<=sizeLine):KP n=false:=by unfold KP;exact decide_eq_false (by omega)
end
section
variable{X:Cx}
def LJ:V->List V->J->VK->Prop:=λx vs H Q=>∃l xs y,x=.ref l/\vs=[y]/\H l=some (.lst xs)/\xs.length<sizeLine/\Q .non (upd H l (.lst (xs++[y])))
theorem Jz:oX X "list.append" LJ:=by intro bT s Y H x vs v us Q I rx rv h;obtain⟨l,xs,y,rfl,rfl,hH,hz,q⟩:=h;cases rx;obtain⟨u,rfl,ru⟩:=rv.one;obtain⟨z,its,n,r,hl,e⟩:=I.lstM hH;refine call_meets F.slot_list_append ⟨_,e,rfl⟩ F.entry_list_append (F.args_list_append_2 _ _) (PySem.list_append l its.toArray n u (by rw[Aw];omega)) ⟨e,?_⟩;refine⟨.non,_,I.lset (its':=its++[u]) hH e (by simp) (r.append (.cons ru .nil)) ?_,rfl,q⟩;rw[Az,KG];omega
def RV:R2:=λx y H Q=>∃l b xs zs,x=.ref l/\y=.ref b/\H l=some (.lst xs)/\H b=some (.lst zs)/\xs.length+zs.length<=sizeLine/\∀p,H p=none->Q (.ref p) (upd H p (.lst (xs++zs)))
theorem SG:dj X (Cb .Add) RV:=by
 intro bT s Y H x y v u Q I rx ry h;obtain⟨l,b,xs,zs,rfl,rfl,hH,hB,hz,q⟩:=h;cases rx;cases ry;obtain⟨z,its,n,r,hl,e⟩:=I.lstM hH;obtain⟨z2,eW,n2,r2,gC,e2⟩:=I.lstM hB;refine PySem.P.add_list e e2 ?_ (by rw[Aw,Aw];omega);have ea:its.toArray++eW.toArray=(its++eW).toArray:=by simp
 rw[ea];exact⟨.ref _,_,I.lnew (t':=s.toks) (r.append r2) (by rw[Az];omega),rfl,q _ I.fresh⟩
def R8:R2:=λx y H Q=>∃l k xs,x=.ref l/\y=.int k/\H l=some (.lst xs)/\-(2 ^ 63)<=k/\k<2 ^ 63/\xs.length*k.toNat<=sizeLine /\
 ∀p,H p=none->Q (.ref p) (upd H p (.lst (Ak k.toNat xs).flatten))
theorem fB{α:Type}(xs:List α)(k:Nat):(Ak k xs).flatten.length=k*xs.length:=by
 induction k with
 |zero=>simp
 |succ k ih=>rw[Ew,Fh,Az,ih,Nat.succ_mul,HV]
theorem Sg:dj X (Cb .Mult) R8:=by
 intro bT s Y H x y v u Q I rx ry h;obtain⟨l,k,xs,rfl,rfl,hH,h1,h2,hz,q⟩:=h;cases rx;obtain⟨t,rfl⟩:=ry;obtain⟨z,its,n,r,hl,e⟩:=I.lstM hH;have bY:its.toArray.size*k.toNat<=sizeLine:=by rw[Aw,<-hl];exact hz
 have eZ:¬its.toArray.size*k.toNat > (2 ^ 63-1) / 8:=by
  have:(sizeLine:Nat)<=(2 ^ 63-1) / 8:=by decide
  omega
 have gS:¬(!Builtin.List.listFitsIndex k)=true:=by rw[fitsIndex_both h1 h2];exact Bn
 have jL:¬KP (its.toArray.size*k.toNat)=true:=by rw[VT bY];exact Bn
 have lN:Ga (λx1 x2=>x1++x2) #[] (Ak (if its.toArray.isEmpty=true then 0 else k.toNat) its.toArray)=(Ak k.toNat its).flatten.toArray:=by
  have f0:∀m:Nat,Ga (λx1 x2=>x1++x2) #[] (Ak m its.toArray)=(Ak m its).flatten.toArray:=λm=>by have:=foldl_rep its m [];rw[Ip]at this;exact this
  rw[f0];cases its with
  |nil=>simp
  |cons a r'=>rw[if_neg (by simp)]
 refine wpAny_binaryOp_repeat_ref (T:="list") (U:="int") (by decide) ⟨_,e,rfl⟩ (λs'=>Gb s' k t) noFill_list_mul F.fills_int_mul F.slot_int_rmul repeat_list F.slot_int_index.lookup
  (call_meets F.slot_int_rmul (Gb s k t) F.entry_int_rmul (F.args_int_rmul_2 _ _) (int___rmul___int_list k t l its.toArray n)
   ⟨e,rfl,⟨_,e,rfl⟩,call_meets F.slot_list_mul ⟨_,e,rfl⟩ F.entry_list_mul (F.args_list_mul_2 _ _) (AutoListH.list___mul___list_int_3 l its.toArray n k t gS eZ jL) ⟨e,?_⟩⟩)
 rw[lN];exact⟨.ref _,_,I.lnew (t':=s.toks) (r.rep k.toNat) (by rw[fB,Nat.mul_comm];exact hz),rfl,q _ I.fresh⟩
end
end
section
variable{X:Cx}{h':Heap}{H H':J}{xs:List (List cn×Addr×Value)}{kvs:List (List cn×V)}{pos:Pos}{P:Program}{y:V}{u:Value}
section
variable{κ:Type}[DecidableEq κ]
def EC(kvs:List (κ×V))(k:κ):Option V:=(kvs.find? λkv=>decide (kv.1=k)).map (·.2)
def cM(kvs:List (κ×V))(k:κ)(v:V):List (κ×V) :=
 if(kvs.any λkv=>decide (kv.1=k))=true then kvs.map (λkv=>if kv.1=k then(kv.1,v)else kv)else kvs++[(k,v)]
theorem PH{p:κ×V}{r:List (κ×V)}{k:κ}(e:p.1=k):EC (p::r) k=some p.2:=by simp[EC,Fo,e]
theorem PU{p:κ×V}{r:List (κ×V)}{k:κ}(e:¬p.1=k):EC (p::r) k=EC r k:=by simp[EC,Fo,e]
theorem PD(k:κ):∀kvs:List (κ×V),(kvs.any λkv=>decide (kv.1=k))=(EC kvs k).isSome
 |[]=>rfl
 |p::r=>by
  rw[Ft]
  by_cases e:p.1=k
  .simp only[PH e,decide_eq_true e,Bool.true_or,Option.isSome_some]
  .rw[PU e,decide_eq_false e,Bool.false_or];exact PD k r
theorem Mm(kvs:List (κ×V))(k:κ)(v:V):(cM kvs k v).length<=kvs.length+1:=by
 unfold cM;split
 .rw[Ae];omega
 .rw[Az,A2,List.length_nil];omega
theorem GU.isSome_eq{o:Option V}{u:Option Value}(r:GU o u):o.isSome=u.isSome:=by
 cases o with
 |none=>cases u with
  |none=>rfl
  |some _=>exact(show False from r).elim
 |some _=>cases u with
  |none=>exact(show False from r).elim
  |some _=>rfl
theorem KV.any{kvs:List (κ×V)}{vs:List (κ×Value)}(r:KV kvs vs)(k:κ):(kvs.any λkv=>decide (kv.1=k))=vs.any λkv=>decide (kv.1=k):=by
 unfold KV at r
 induction r with
 |nil=>rfl
 |cons h t ih=>rw[Ft,Ft,ih,h.1]
theorem KV.repl{kvs:List (κ×V)}{vs:List (κ×Value)}(r:KV kvs vs)(k:κ)(ry:RelV y u):KV (kvs.map λkv=>if kv.1=k then(kv.1,y)else kv) (vs.map λkv=>if kv.1=k then(kv.1,u)else kv):=by
 unfold KV at r ⊢
 induction r with
 |nil=>exact .nil
 | @cons p q ps qs h t ih =>
  rw[Am,Am];refine .cons ?_ ih;obtain⟨h1,h2⟩:=h
  by_cases e:p.1=k
  .rw[if_pos e,if_pos (h1.symm.trans e)];exact⟨h1,ry⟩
  .rw[if_neg e,if_neg (λz=>e (h1.trans z))];exact⟨h1,h2⟩
theorem KV.put{kvs:List (κ×V)}{vs:List (κ×Value)}(r:KV kvs vs)(k:κ)(ry:RelV y u):KV (cM kvs k y) (stored vs k u):=by
 unfold cM stored;rw[r.any k]
 by_cases e:(vs.any λkv=>decide (kv.1=k))=true
 .rw[if_pos e,if_pos e];exact r.repl k ry
 .rw[if_neg e,if_neg e];exact Paired.snoc r ⟨rfl,ry⟩
theorem KV.length{kvs:List (κ×V)}{vs:List (κ×Value)}(r:KV kvs vs):kvs.length=vs.length:=Et r
end
theorem K7{w:World}{k:cn}(r:RelV (kV k) u):(Bd P w).is k u=true:=by
 cases k with
 |inl i=>obtain⟨t,e⟩:=(show ∃t,u=BP i t from r);subst e;exact Xq P w i t
 |inr x=>obtain⟨t,e⟩:=(show ∃t,u=Value.str x t from r);subst e;exact XG P w x t
theorem Qq{P:Program}{w:World}:∀{ks:List cn} {us:List Value},bW (ks.map kV) us->ItemsAre (Bd P w) ks us
 |[],_,r=>by rw[Fq]at r;cases r;exact .nil
 |k::ks,_,r=>by
  rw[Am]at r;cases r with
  |cons h t=>exact .cons (K7 h) (Qq t)
abbrev KT(H:J):List (List cn×V)->List (List cn×Addr×Value)->Prop:=Paired λp q=>p.1=q.1/\H q.2.1=some (.tup (p.1.map kV))/\RelV p.2 q.2.2
theorem KT.val(r:KT H kvs xs)(k:List cn):GU (EC kvs k) ((atKey xs k).map (·.2)):=by
 induction r with
 |nil=>exact Ej
 | @cons p q ps qs h t ih =>
  obtain⟨h1,_,h2⟩:=h
  by_cases e:p.1=k
  .have e':q.1=k:=h1.symm.trans e
   have b:atKey (q::qs) k=some q.2:=by simp[atKey,Fo,e']
   rw[PH e,b];exact h2
  .have e':¬q.1=k:=λz=>e (h1.trans z)
   have b:atKey (q::qs) k=atKey qs k:=by simp[atKey,Fo,e']
   rw[PU e,b];exact ih
theorem KT.repl(r:KT H kvs xs)(k:List cn)(ry:RelV y u):KT H (kvs.map λkv=>if kv.1=k then(kv.1,y)else kv) (xs.map (putAt k u)):=by
 induction r with
 |nil=>exact .nil
 | @cons p q ps qs h t ih =>
  rw[Am,Am];refine .cons ?_ ih;obtain⟨h1,h2,h3⟩:=h;unfold putAt
  by_cases e:p.1=k
  .rw[if_pos e,if_pos (h1.symm.trans e)];exact⟨h1,h2,ry⟩
  .rw[if_neg e,if_neg (λz=>e (h1.trans z))];exact⟨h1,h2,h3⟩
theorem KT.put(r:KT H kvs xs)(k:List cn){b:Addr}(hb:H b=some (.tup (k.map kV)))(ry:RelV y u):KT H (cM kvs k y) (storedH xs k b u):=by
 have e:(kvs.any λkv=>decide (kv.1=k))=(atKey xs k).isSome:=by rw[PD,(r.val k).isSome_eq,Option.isSome_map]
 unfold cM storedH;rw[e]
 by_cases q:(atKey xs k).isSome=true
 .rw[if_pos q,if_pos q];exact r.repl k ry
 .rw[if_neg q,if_neg q];exact Paired.snoc r ⟨rfl,hb,ry⟩
theorem KT.keeps(r:KT H kvs xs)(ht:∀b ys,H b=some (.tup ys)->H' b=some (.tup ys)):KT H' kvs xs :=
 Paired.mapP r λ_ _ z=>⟨z.1,ht _ _ z.2.1,z.2.2⟩
section
variable{P:Program}{w:World}{H:J}{h:Heap}{a:Addr}
theorem La{u:HO}(ok:cV P w H h)(e:Rd H a u):ZV P w H h a u:=e.ok ok
theorem Of{kvs:List (cn×V)}(ok:cV P w H h)(e:Rd H a (.dK kvs)):kvs.length<=sizeLine/\(a==A4)=false/\∃vs,KV kvs vs/\h.DictOf (Bd P w) a vs :=
 show ZV P w H h a (.dK kvs) from La ok e
theorem K6{kvs:List (cn×V)}(ok:cV P w H h)(e:H a=some (.dK kvs)):kvs.length<=sizeLine/\(a==A4)=false/\∃vs,KV kvs vs/\h.DictOf (Bd P w) a vs:=Of ok (.inl e)
theorem OH{ks:List cn}(ok:cV P w H h)(e:H a=some (.tup (ks.map kV))):(Gg (Bd P w)).is h ks a:=by obtain⟨_,its,r,o,h1,h2,n,h3⟩:=(show ZV P w H h a (.tup (ks.map kV)) from ok a _ e);exact⟨o,its.toArray,n,h1,h2,h3,by simpa using Qq r⟩
theorem R1(ok:cV P w H h)(e:Rd H a (.dT kvs)):kvs.length<=sizeLine/\(a==A4)=false /\ ∃xs,KT H kvs xs/\h.DictOfH (Gg (Bd P w)) a xs:=by
 obtain⟨z,y,xs,r,o,es,ep,h1,h2,h3,h4,h5⟩:=(show ZV P w H h a (.dT kvs) from La ok e);refine⟨z,y,xs,r,o,es,ep,h1,h2,h3,h4,λx hx=>?_,h5⟩;have all:∀{l:List (List cn×V)} {m:List (List cn×Addr×Value)},KT H l m->∀x∈m,(Gg (Bd P w)).is h x.1 x.2.1:=by
  intro l m q
  induction q with
  |nil=>intro x hx;exact nomatch hx
  | @cons p q ps qs hq t ih =>
   intro x hx;rcases Ao.mp hx with e|hx
   .subst e
    exact OH ok (by rw[<-hq.1];exact hq.2.1)
   .exact ih x hx
 exact all r x hx
theorem RL(ok:cV P w H h)(e:H a=some (.dT kvs)):kvs.length<=sizeLine/\(a==A4)=false /\ ∃xs,KT H kvs xs/\h.DictOfH (Gg (Bd P w)) a xs:=R1 ok (.inl e)
end
def DY(H:J)(a:Addr)(y v:V)(H':J):Prop :=
 (∃kvs k,H a=some (.dK kvs)/\y=kV k/\kvs.length<sizeLine/\H'=upd H a (.dK (cM kvs k v))) \/
 ∃kvs k b,H a=some (.dT kvs)/\y=.ref b/\H b=some (.tup (k.map kV))/\kvs.length<sizeLine/\H'=upd H a (.dT (cM kvs k v))
theorem DY.k{H:J}{a:Addr}{kvs:List (cn×V)}{k:cn}{v:V}(e:H a=some (.dK kvs))(hl:kvs.length<sizeLine):DY H a (kV k) v (upd H a (.dK (cM kvs k v))):=.inl ⟨kvs,k,e,rfl,hl,rfl⟩
theorem DY.t{a b:Addr}{k:List cn}{v:V}(e:H a=some (.dT kvs))(eb:H b=some (.tup (k.map kV)))(hl:kvs.length<sizeLine):DY H a (.ref b) v (upd H a (.dT (cM kvs k v))):=.inr ⟨kvs,k,b,e,rfl,eb,hl,rfl⟩
section
variable{X:Cx}{bT:List (Addr×Obj)}{Y:St}{H:J}{s:Shared}{a:Addr}{y v:V}{u r:Value}{o:Option V}{A:Around}{E:Value->Shared->Prop}
theorem Inv.big(I:Inv X bT Y H s):A4<s.heap.objs.size:=by have h:BJ<s.heap.objs.size:=(I.mod.glob.keeps I.bk).lt;exact CO (by decide) h
theorem He{t':Nat}{ob:HO}(I:Inv X bT Y H s)(mu:jA (H a))(hs:Cy a s.heap h')(he:∃q,h'.get? a=some q)(new:ZV X.prog X.w (upd H a ob) h' a ob):Inv X bT Y (upd H a ob) {s with heap:=h',toks:=t'} :=
 I.write (x:=a) (e:=a) mu (.inl rfl) (λb q hb z=>(hs.2 b hb).trans z) he new
theorem Ow{w:World}{kvs:List (cn×V)}{vs:List (cn×Value)}(z:kvs.length<=sizeLine)(hd:(a==A4)=false)(dJ:KV kvs vs)(dd:h'.DictOf (Bd P w) a vs):ZV P w H' h' a (.dK kvs):=⟨z,hd,vs,dJ,dd⟩
theorem Vq{Q:Unit->Shared->Prop}(hu:A.units+1<cLine)(I:Inv X bT Y H s)(g:DY H a y v H')(ry:RelV y u)(rv:RelV v r)(h:∀s',Inv X bT Y H' s'->Q () s'):wpAny (model X.prog X.w) A (setItem (.ref a) u r) Q E s:=by
 rcases g with⟨kvs,k,e,ey,l,eH⟩|⟨kvs,k,b,e,ey,eb,l,eH⟩
 .subst ey eH
  obtain⟨z,hd,vs,dJ,dd⟩:=K6 I.hok e;have hz:vs.length<=sizeLine:=by rw[<-dJ.length];exact z
  have hl:(cM kvs k v).length<=sizeLine:=by have:=Mm kvs k v;omega
  refine wpAny_setItem_pairs (hsz:=hz) (K7 ry) dd λh' dd' hs=>h _ ?_;have he:∃q,h'.get? a=some q:=let ⟨q,_,_,hq,_⟩:=dd';⟨q,hq⟩
  exact He I (by rw[e];exact Ej) hs he (Ow hl hd (dJ.put k rv) dd')
 .subst ey eH
  cases(show u=Bb b from ry);obtain⟨z,hd,xs,dJ,dd⟩:=RL I.hok e;have hz:xs.length<=sizeLine:=by rw[<-Et dJ];exact z
  have hl:(cM kvs k v).length<=sizeLine:=by have:=Mm kvs k v;omega
  refine wpAny_setItem_heap (hsz:=hz) (tupleKind_room_in1 hu) (OH I.hok eb) dd λh' dd' hs=>h _ ?_;obtain⟨q,es,ep,hq,h2,h3,h4,_,h5⟩:=dd';refine He I (by rw[e];exact Ej) hs ⟨q,hq⟩ ⟨hl,hd,_,(dJ.put k eb rv).keeps λc ys ec=>?_,q,es,ep,hq,h2,h3,h4,h5⟩;rw[Zt (S1 ec e (λz=>nomatch z))];exact ec
end
section
variable{X:Cx}{bT:List (Addr×Obj)}{Y:St}{H:J}{s:Shared}{a:Addr}{kvs:List (cn×V)}{k:cn}{u:Value}{A:Around}{E:Value->Shared->Prop}
theorem RM{Q:Value->Shared->Prop}(I:Inv X bT Y H s)(e:Rd H a (.dK kvs))(h:∀t s',Inv X bT Y H s'->Q (.int kvs.length t) s'):wpAny (model X.prog X.w) A (call (.builtin "len") [.ref a]) Q E s:=by obtain⟨z,hd,vs,dJ,dd⟩:=Of I.hok e;refine call_len_dict hd dd (by rw[<-dJ.length];rw[Bm]at z;omega) ?_;rw[<-dJ.length];exact h _ _ (I.tok _)
end
def RJ(td ty tv:TE):TS:=λD Y H=>tv Y H λv H1=>td Y H1 λx H2=>ty Y H2 λy H3=>∃a H4,x=.ref a/\DY H3 a y v H4/\D.nx Y H4
section
variable{X:Cx}{o i e value:Expr}{pos pos' pf:Pos}{td ty tv:TE}
theorem O0(hu:X.A.units+1<cLine)(ho:PE X o td)(hi:PE X i ty)(hv:PE X value tv)(hs:Ct value (some (.Subscript o i pos')) pos.line X.env=pure false):PS X (.Assign [.Subscript o i pos'] value pos) (RJ td ty tv):=by
 intro bT s Y H D I h;refine wpAny_Assign_Subscript (b9 (hv bT s Y H _ I h) λr s1 ⟨v,H1,I1,rv,q1⟩=>b9 (ho bT s1 Y H1 _ I1 q1) λu s2 ⟨x,H2,I2,rx,q2⟩=>b9 (hi bT s2 Y H2 _ I2 q2) λiv s3 ⟨y,H3,I3,ry,a,H4,ex,g,q3⟩=>?_) hs;subst ex;obtain rfl:u=Bb a:=rx;exact Vq hu I3 g ry rv λs4 I4=>⟨Y,H4,I4,q3⟩
end
theorem UW{w:World}(h:Heap)(hb:A4<h.objs.size):ZV P w H (h.push {cls:=.type "dict",data:=.dict #[]}) h.objs.size (.dK []) :=
 ⟨CA _,beq_eq_false_iff_ne.mpr (AH (Al hb)),[],.nil,Heap.DictOf.new h⟩
theorem V3{w:World}(h:Heap)(hb:A4<h.objs.size):ZV P w H (h.push {cls:=.type "dict",data:=.dict #[]}) h.objs.size (.dT []) :=
 ⟨CA _,beq_eq_false_iff_ne.mpr (AH (Al hb)),[],.nil,_,#[],0,AA _ rfl,⟨rfl,rfl,rfl⟩,rfl,rfl,Dr⟩
def SJ:TE:=λ_ H Q=>∀p,H p=none->Q (.ref p) (upd H p (.dT []))
section
variable{X:Cx}{pos:Pos}
theorem VM:PE X (.Dict [] [] pos) SJ:=λbT s Y H Q I h=>wpAny_Dict_empty ⟨.ref s.heap.objs.size,_,I.laid (a:=s.heap.objs.size) (o:=.dT []) (t':=s.toks) (λ_ _ q=>Ap _ q) (Af _) (V3 s.heap I.big),rfl,h _ (I.hok.fresh (Af _))⟩
end
def Lm:List (TE×TE)->St->J->(List (V×V)->J->Prop)->Prop
 |[],_,H,Q=>Q [] H
 |(tk,tv)::r,Y,H,Q=>tk Y H λx H1=>tv Y H1 λy H2=>Lm r Y H2 λps H3=>Q ((x,y)::ps) H3
abbrev VV:List (V×V)->List (Value×Value)->Prop:=Paired λp q=>RelV p.1 q.1/\RelV p.2 q.2
def kn(X:Cx)(pos:Pos)(eJ:List (Option Expr))(dH:List Expr)(gw:List (TE×TE)):Prop :=
 ∀(bT:List (Addr×Obj)) (s:Shared) (Y:St) (H:J) (Q:List (V×V)->J->Prop),Inv X bT Y H s->Lm gw Y H Q ->
  wpAny (model X.prog X.w) X.A (evalPairs (pairTrees eJ dH X.env pos)) (λvs s'=>∃ps H',Inv X bT Y H' s'/\VV ps vs/\Q ps H') X.xe s
theorem Vb:kn X pos [] [] []:=λbT s Y H Q I h=>pairTrees_nil_walk ⟨[],H,I,.nil,h⟩
theorem Vw{k v:Expr}{ks:List (Option Expr)}{vs:List Expr}{tk tv:TE}{gw:List (TE×TE)}(hk:PE X k tk)(hv:PE X v tv)(hr:kn X pos ks vs gw):kn X pos (some k::ks) (v::vs) ((tk,tv)::gw):=λbT s Y H Q I h =>
 pairTrees_cons_walk (b9 (hk bT s Y H _ I h) λu s1 ⟨x,H1,I1,rx,q1⟩=>b9 (hv bT s1 Y H1 _ I1 q1) λw2 s2 ⟨y,H2,I2,ry,q2⟩=>b9 (hr bT s2 Y H2 _ I2 q2) λws s3 ⟨ps,H3,I3,dJ,q3⟩=>⟨(x,y)::ps,H3,I3,.cons ⟨rx,ry⟩ dJ,q3⟩)
def Fz(kvs more:List (cn×V)):List (cn×V):=more.foldl (λacc kv=>cM acc kv.1 kv.2) kvs
theorem KV.merge:∀{more:List (cn×V)} {rs:List (cn×Value)} {kvs:List (cn×V)} {vs:List (cn×Value)},KV more rs->KV kvs vs->KV (Fz kvs more) (merged vs rs):=by
 intro more rs kvs vs r;unfold KV at r
 induction r generalizing kvs vs with
 |nil=>intro q;exact q
 | @cons p q ps qs h t ih =>
  intro r0;have e:KV (cM kvs p.1 p.2) (stored vs q.1 q.2):=by have:=r0.put p.1 h.2;rw[<-h.1];exact this
  exact ih e
theorem QW:∀(more kvs:List (cn×V)),(Fz kvs more).length<=kvs.length+more.length
 |[],kvs=>by show kvs.length<=kvs.length+0;omega
 |p::r,kvs=>by have h1:=QW r (cM kvs p.1 p.2);have h2:=Mm kvs p.1 p.2;show(Fz (cM kvs p.1 p.2) r).length<=_;rw[A2];omega
theorem QG{P:Program}{w:World}:∀{kvs:List (cn×V)} {ws:List (Value×Value)},VV (kvs.map λkv=>(kV kv.1,kv.2)) ws->∃rs,Carries (Bd P w) ws rs/\KV kvs rs
 |[],_,r=>by rw[Fq]at r;cases r;exact⟨[],Ej,.nil⟩
 |p::kvs,_,r=>by
  rw[Am]at r;cases r with
  | @cons a b as bs h t=>obtain⟨rs,c,q⟩:=QG (P:=P) (w:=w) t;obtain⟨b1,b2⟩:=b;exact⟨(p.1,b2)::rs,⟨K7 h.1,rfl,c⟩,.cons ⟨rfl,h.2⟩ q⟩
def R3(gw:List (TE×TE)):TE:=λY H Q=>∀p,H p=none->Lm gw Y (upd H p (.dK [])) λps H2=>H2 p=some (.dK [])/\∃kvs:List (cn×V),ps=kvs.map (λkv=>(kV kv.1,kv.2))/\kvs.length<=15/\Q (.ref p) (upd H2 p (.dK (Fz [] kvs)))
theorem TX{eJ:List (Option Expr)}{dH:List Expr}{gw:List (TE×TE)}(h:kn X pos eJ dH gw)(fJ:eJ.all (·.isSome)=true)(hl:eJ.length=dH.length)(h0:eJ≠[])(oM:eJ.length<=15):PE X (.Dict eJ dH pos) (R3 gw):=by
 intro bT s Y H Q I q;have hn:=I.hok.fresh (Af s.heap.objs.size);have I1:=I.laid (a:=s.heap.objs.size) (o:=.dK []) (h':=s.heap.push {cls:=.type "dict",data:=.dict #[]}) (t':=s.toks) (λ_ _ q=>Ap _ q) (Af _) (UW s.heap I.big);refine wpAny_Dict_walk (knd:=Bd X.prog X.w) fJ hl h0 oM (b9 (h bT _ Y _ _ I1 (q _ hn)) λws s2 ⟨ps,H2,I2,dJ,e,kvs,ep,lk,q2⟩=>?_);subst ep;obtain⟨rs,c,rk⟩:=QG (P:=X.prog) (w:=X.w) dJ;obtain⟨z,hd,vs0,r0,dd⟩:=K6 I2.hok e;cases r0;refine⟨rs,c,dd,λh' dd' hs=>⟨.ref s.heap.objs.size,_,?_,rfl,q2⟩⟩;have hz:(Fz [] kvs).length<=sizeLine:=by have h1:=QW kvs [];rw[List.length_nil]at h1;rw[Bm];omega
 have he:∃q,h'.get? s.heap.objs.size=some q:=let ⟨q,_,_,hq,_⟩:=dd';⟨q,hq⟩
 exact He I2 (by rw[e];exact Ej) hs he (Ow hz hd (rk.merge .nil) dd')
structure M2(X:Cx)(o:Expr)(m:Str)(eM:Pos)(e f:Expr)(c5:Pos):Prop where
 base:Gi o m X.env (eval o X.env)=eval o X.env
 few:((backTo c5 (Ag [e,f] X.env)).all (λx=>!x.1)&&(backToKw c5 (Gr [] X.env)).all (λx=>x.1.isSome)
  && decide (([e,f]:List Expr).length+([]:List Keyword).length+(if([]:List Keyword).isEmpty then 0 else 1)<30))=true
 line:(eM.endLine==c5.line)=true
 trees:backTo c5 (Ag [e,f] X.env)=[(false,eval e X.env),(false,eval f X.env)]
end
end L2
namespace Att
open PySem PySem.W PySem.Calls PyProof.Rows
variable{h:Heap}{n:Nat}
theorem Y4{P:Params}:∀(ns:List Int) (vs:List Value),WellAll P h vs (ns.map WData.int)->IntsAre vs ns:=by
 intro ns
 induction ns with
 |nil=>intro vs w;rw[Fq]at w;cases w;exact .nil
 |cons n ns ih =>
  intro vs w;rw[Am]at w;cases w with
  |cons a b=>cases a;exact .cons _ _ (ih _ b)
theorem WA{l:OpenLaw}(hn:l.most=some n){P:Params}{args:List WData}{iJ:List Value}(gQ:l.row.toRowW.claim.pre args=true)(kG:WellAll P h iJ args):∃a vs ns,iJ=[Bb a]/\args=[WData.list (ns.map WData.int)]/\h.get? a=some {cls:=.type "list",data:=.seq vs.toArray}/\IntsAre vs ns/\ns.length<=n:=by
 have jl:WShape.hasAll [] args [.list .int]=true:=(pre_splitW gQ).1;have hc:l.pre.holds [] {args:=args}=true:=(pre_splitW gQ).2;obtain⟨d,r,rfl,h1,h2⟩:=hasAllW_cons jl;obtain rfl:=hasAllW_nil h2;obtain⟨xs,rfl,h3⟩:=hasW_list h1;obtain⟨ns,rfl⟩:=items_int h3;have bY:ns.length<=n:=by
  unfold OpenLaw.pre at hc;have h4:(WTm.not (.lt (.lit (.int (n:Int))) (.len (.arg 0)))).holds [] {args:=[.list (ns.map .int)]}=true:=by have h4:=(holds_andW hc).1;rw[hn]at h4;exact h4
  have h5:=condW_of h4 (w_not (w_lt w_lit (w_len_list (w_arg rfl))));rw[Ae]at h5;refine Gx λq=>?_;have q':(n:Int)<((ns.length:Nat):Int):=by omega
  first
   |(rw[decide_eq_true q']at h5;exact absurd h5 (by decide))
   |(simp at h5;omega)
 cases kG with
 |cons w1 w2 =>
  cases w2;cases w1 with
  |list ho fJ=>exact⟨_,_,ns,rfl,rfl,ho,Y4 ns _ fJ,bY⟩
theorem Vr(l:OpenLaw)(args:List WData):l.row.toRowW.claim.post args (.bool true) args=true :=
 postW_of (r:=l.row.toRowW) (X:=(true==true))
  (show WShape.has [] (.bool true) .bool=true by first|rfl|decide|simp[WShape.has,WShape.arms,WShape.armsAll])
  (show(WTm.eq .res (.lit (.bool true))).value [] {args:=args,res:=some (.bool true),after:=args}=some (.bool (true==true)) from w_eq_bool (w_res rfl) w_lit) rfl
theorem bB{l:OpenLaw}{q:Program}{dY:List Str}{XP:(Str->Option Value)->Heap->Prop}{YP:World->Heap->Prop}{d:DefRec}(hn:l.most=some n)(js:d.params.defaults=[])
  (call:∀(w:World) (s₀ s₁:Shared) (mg mb:Str->Option Value) (fa:Addr) (o:Obj) (pm cd dR:Value) (a:Addr) (vs:List Value) (ns:List Int),
   Ground q dY [] XP w s₀ mg mb s₁.heap->YP w s₁.heap ->
   s₁.heap.get? fa=some o->o.data=.func (docDef d.name d.params d.body d.scope pm cd dR)->s₁.heap.CodeRec cd d.name->mg d.name=some (.ref fa) ->
   s₁.heap.get? a=some {cls:=.type "list",data:=.seq vs.toArray}->IntsAre vs ns->ns.length<=n->s₁.gens=#[] ->
   codeAny (model l.prog w) callerA (.call (.ref fa) ⟨[.ref a],[]⟩) (λr s'=>r=.ok (.ret (.bool true))/\OldK s₁.heap s'.heap/\s'.os=s₁.os/\AllBare s'.gens) s₁):
  WalkO q dY XP YP l.row.toRowW d [] (λf vs=>PySem.call f vs):=by
 intro w s₀ s₁ mg mb G pv fa o pm cd dR dV kV ho hd dP hD iz hg args iJ as gQ pk hrd kG mx;obtain rfl:dV=.none:=Dflts.none hD js;obtain rfl:kV=.none:=Dflts.noKw hD;obtain⟨a,vs,ns,rfl,rfl,iL,gf,bY⟩:=WA hn gQ kG;refine enter_call (Ep (call w s₀ s₁ mg mb fa o pm cd dR a vs ns G pv ho (fd_plain hd) dP iz iL gf bY hg) λr s' hq=>?_);obtain⟨rfl,h2,h3,h4⟩:=hq;exact⟨.inl ⟨.bool true,.bool true,[],rfl,λ_=>rfl,.bool true,Vr l _,λ_=>⟨List.Pairwise.nil,λ_ hm=>(nomatch hm)⟩⟩,h2,h3,h4⟩
end Att
namespace L2
open PySem PySem.Spec PyProof.Rows
theorem P5:∀{vs:List Value} {ns:List Int},IntsAre vs ns->bW (ns.map V.int) vs
 |_,_,.nil=>.nil
 |_,_,.cons n t h=>.cons ⟨t,rfl⟩ (P5 h)
section
variable{f:Addr}{H H':J}{A:Prop}{st:Stmt}{cj x:Str}
def ET(s:Stmt):Arguments:=match s with
 | .FunctionDef _ a _ _ _ _ _ _ _ _=>a
 |_=>{posonlyargs:=[],args:=[],vararg:=none,kwonlyargs:=[],kw_defaults:=[],kwarg:=none,defaults:=[]}
def CC(s:Stmt):List Stmt:=match s with
 | .FunctionDef _ _ b _ _ _ _ _ _ _=>b
 |_=>[]
def Zi(s:Stmt):Scope:=match s with
 | .FunctionDef _ _ _ _ _ _ sc _ _ _=>sc
 |_=>{kind:=.function,names:=[],isGenerator:=false,isCoroutine:=false}
abbrev fw:gN:=λ_ _ _ _ _ _=>False
abbrev E0:XK:=λ_ _ _=>False
theorem RX{X:Cx}:fo fw X E0:=λ_ _ _ _ _ _ _ h=>h.elim
structure gs(K:Ad)(x cj:Str)(st:Stmt)(f:Addr)(fd:FuncData):Prop where
 ex:∃(oc:Value) (od:Option Addr) (kV dR pm:Value) (an:Option Addr) (cm ct:Value) (gm:Array (Option Value)),
  fd=De x cj (ET st) (CC st) (Zi st) .none kV dR pm an cm ct/\K.lookup f=some ⟨oc,od,.func fd,gm⟩/\Gk K cm cj=true
 kp:Fj K (.ref f)=true
section
variable{P:Program}{w:World}{K:Ad}{mg:Str->Option Value}{base:Heap}
theorem gs.ok{x cj:Str}{st:Stmt}{f:Addr}{fd:FuncData}{N ps:List Str}{k:Nat}{sp:Sp}(F:gs K x cj st f fd)(pw:Zy N ps (Zi st))(len:∀vs H Q E,sp vs H Q E->vs.length=ps.length)
  (gg:∀(cm:Value) (A:Around) (outer:List Env) (s:Shared) (H:J) (vs:List V) (Q:VK) (E:XK),AL k (A.deeper (envOfC cj (Zi st) s.heap.objs.size f cm))->sp vs H Q E ->
   ∃t,dz (Dv fw P w K mg base N cj (Zi st) f cm A outer s H E).nox (CC st) t/\t {nx:=λ_ H'=>Q .non H',rt:=Q} (start N vs) H):BK P w K mg base fw (k+1) f fd ps sp:=by
 obtain⟨oc,od,kV,dR,pm,an,cm,ct,gm,rfl,lk,dP⟩:=F.ex;refine RW lk dP pw len λA outer s H vs Q E hr g8=>?_;obtain⟨t,h,q⟩:=gg cm A outer s H vs Q E hr g8;exact⟨t,h.nox,q⟩
theorem gs.binds{fd:FuncData}{ps:List Str}(F:gs K x cj st f fd)(h:∀(kV dR pm:Value) (an:Option Addr) (cm ct:Value) (us:List Value),us.length=ps.length->bindArgs (De x cj (ET st) (CC st) (Zi st) .none kV dR pm an cm ct) ⟨us,[]⟩=pure (ps.zip us)):Binds K fd ps []:=by
 obtain⟨oc,od,kV,dR,pm,an,cm,ct,gm,rfl,lk,dP⟩:=F.ex;exact .all (h kV dR pm an cm ct)
theorem Ll{oc:Value}{od an:Option Addr}{gm:Array (Option Value)}{kV dR pm cm ct:Value}(l:K.lookup f=some ⟨oc,od,.func (De x cj (ET st) (CC st) (Zi st) .none kV dR pm an cm ct),gm⟩)(c:Gk K cm cj=true)(k:Fj K (.ref f)=true):gs K x cj st f (De x cj (ET st) (CC st) (Zi st) .none kV dR pm an cm ct):=⟨⟨oc,od,kV,dR,pm,an,cm,ct,gm,rfl,l,c⟩,k⟩
end
theorem Ry{A:Around}{k:Nat}(hr:AL k A):A.units+1<cLine:=Nat.lt_of_le_of_lt (Nat.add_le_add_left (by decide:1<=64) _) hr.units
theorem GV{B:Prop}(h:B):if false=true then A else B:=by rw[if_neg Bn];exact h
theorem GK{B:Prop}(h:A):if true=true then A else B:=by rw[if_pos rfl];exact h
def Zo(H H':J):Prop:=∀b o,H b=some o->H' b=some o
theorem Zo.refl(H:J):Zo H H:=λ_ _ h=>h
theorem Zo.trans{H1 H2:J}(a:Zo H H1)(b:Zo H1 H2):Zo H H2:=λc o h=>b c o (a c o h)
theorem Zo.free(e:Zo H H'){l:Addr}(h:H' l=Option.none):H l=Option.none:=by
 cases q:H l with
 |none=>rfl
 |some o=>rw[e l o q]at h;cases h
theorem Zo.seq{K:Ad}{a:Addr}{xs:List V}(e:Zo H H')(h:cF K H a xs):cF K H' a xs:=by
 rcases h with(h|⟨o,h⟩)|h
 .exact .inl (.inl (e _ _ h))
 .exact .inl (.inr ⟨o,e _ _ h⟩)
 .exact .inr h
end
section
variable{X:Cx}
theorem V7:AK X (.builtin "len") (λxs H Q=>∃a kvs,xs=[V.ref a]/\H a=some (.dK kvs)/\Q (.int kvs.length) H):=by intro bT s Y H xs us Q I r h;obtain⟨a,kvs,rfl,ha,q⟩:=h;obtain⟨u,rfl,ru⟩:=vals1 r;cases ru;exact RM I (.inl ha) λt s' I'=>⟨.int kvs.length,H,I',⟨t,rfl⟩,q⟩
end
end L2
namespace HM
open PySem
abbrev D:=PyData
abbrev Ky:=Sum Int Str
inductive B where
 |pl (d:D)
 |ol (ds:List D)
 |ok (kvs:List (Ky×D))
 |ot (kvs:List (List Ky×D))
 |otl (kvs:List (List Ky×List D))
 |hd (es:List (D×D))
abbrev Env:=List (Option B)
inductive iH where
 |nx (r:Env)
 |rt (d:D)
 |bk (r:Env)
 |ct (r:Env)
abbrev EF:=Env->Option D
abbrev BF:=Env->Option B
abbrev TF:=Env->Option Bool
abbrev IF:=Env->Option (List D)
abbrev AF:=Env->Option (List D)
abbrev SF:=Env->Option iH
@[simp] def big:Nat:=1000000
@[simp] def S(i:Nat):EF:=λr=>match r[i]? with
 |some (some (.pl d))=>some d
 |_=>none
@[simp] def Zm(i:Nat):BF:=λr=>match r[i]? with
 |some (some b)=>some b
 |_=>none
@[simp] def cu(f:EF):BF:=λr=>(f r).map B.pl
def Eb:Ky->D
 | .inl i=>.int i
 | .inr x=>.str x
def O6(kvs:List (List Ky×D)):List (D×D):=kvs.map λp=>(.tuple (p.1.map Eb),p.2)
@[simp] def frz:B->Option D
 | .pl d=>some d
 | .ol ds=>some (.list ds)
 | .ot kvs=>some (.dict (O6 kvs))
 | .hd es=>some (.dict es)
 |_=>none
@[simp] def gH(f:BF):EF:=λr=>(f r).bind frz
@[simp] def eC(d:D):EF:=λ_=>some d
@[simp] def bZ(g:D->D->Option D)(a b:EF):EF:=λr=>match a r with
 |some x=>match b r with
  |some y=>g x y
  |none=>none
 |none=>none
@[simp] def Dx(g:Int->Int->Option D):D->D->Option D
 | .int i,.int j=>g i j
 |_,_=>none
def ZL(i:Int):Bool:=Nat.blt i.natAbs 18446744073709551616
@[simp] def Ay(x y:D):Option D:=Dx (λi j=>some (.int (i+j))) x y
@[simp] def GX(x y:D):Option D:=Dx (λi j=>some (.int (i-j))) x y
@[simp] def Bc(x y:D):Option D:=Dx (λi j=>if ZL i||ZL j then some (.int (i*j))else none) x y
@[simp] def Ck(x y:D):Option D:=Dx (λi j=>if 0<j then some (.int (i%j))else none) x y
@[simp] def jw(x y:D):Option D:=Dx (λi j=>some (.bool (decide (i<j)))) x y
@[simp] def kg(x y:D):Option D:=Dx (λi j=>some (.bool (decide (i<=j)))) x y
@[simp] def jx(x y:D):Option D:=Dx (λi j=>some (.bool (decide (j<i)))) x y
def DD(d:D):Bool:=d.canLay0&&decide (d.depth<=60)
@[simp] def dU(a b:D):Option D:=if DD a&&DD b then some (.bool (Fd a b))else none
@[simp] def jv(a b:D):Option D:=if DD a&&DD b then some (.bool (!PyData.eqv a b))else none
@[simp] def QI(g g':D->D->Option D)(a b c:EF):EF:=λr=>match a r with
 |some x=>match b r with
  |some y=>match g x y with
   |some (.bool true)=>match c r with
    |some z=>g' y z
    |none=>none
   |some (.bool false)=>some (.bool false)
   |_=>none
  |none=>none
 |none=>none
@[simp] def CB(a b:EF):EF:=λr=>match a r with
 |some (.bool true)=>b r
 |some (.bool false)=>some (.bool false)
 |_=>none
@[simp] def tV(a:EF):TF:=λr=>match a r with
 |some (.bool b)=>some b
 |_=>none
@[simp] def CW(a:TF):TF:=λr=>(a r).map (!·)
@[simp] def GZ(a b:TF):TF:=λr=>match a r with
 |some true=>b r
 |some false=>some false
 |none=>none
@[simp] def i9(a b:TF):TF:=λr=>match a r with
 |some true=>some true
 |some false=>b r
 |none=>none
@[simp] def G9:B->Option (List D)
 | .pl (.tuple ds)=>some ds
 | .pl (.list ds)=>some ds
 | .ol ds=>some ds
 |_=>none
def fK(n:Nat)(i:Int):Option Nat :=
 if 0<=i then(if i<n then some i.toNat else none)else(if -(n:Int)<=i then some (i+n).toNat else none)
def eR(ds:List D)(i:Int):Option D:=match fK ds.length i with
 |some j=>ds[j]?
 |none=>none
@[simp] def b0(a:BF)(b:EF):EF:=λr=>match a r with
 |some x=>match G9 x with
  |some ds=>match b r with
   |some (.int i)=>eR ds i
   |_=>none
  |none=>none
 |none=>none
@[simp] def Rp:B->Option Nat
 | .pl (.tuple ds)=>some ds.length
 | .pl (.list ds)=>some ds.length
 | .ol ds=>some ds.length
 | .ok kvs=>some kvs.length
 |_=>none
@[simp] def B6(a:BF):EF:=λr=>match a r with
 |some x=>(Rp x).map λ(n:Nat)=>AM (n:Int)
 |none=>none
@[simp] def Zr(a:BF):EF:=λr=>match a r with
 |some x=>(G9 x).map λds=>.tuple ds
 |none=>none
@[simp] def Hz(a:BF):BF:=λr=>match a r with
 |some x=>(G9 x).map λds=>.ol ds
 |none=>none
def FD:List D->Option (List Bool)
 |[]=>some []
 | .bool b::r=>(FD r).map (b::·)
 |_::_=>none
@[simp] def IV:B->Option (List D)
 | .pl (.list ds)=>some ds
 | .ol ds=>some ds
 |_=>none
@[simp] def Jc(a:BF):EF:=λr=>match a r with
 |some x=>match IV x with
  |some ds=>(FD ds).map λbs=>.bool (bs.all id)
  |none=>none
 |none=>none
@[simp] def Zf:AF:=λ_=>some []
@[simp] def O(a:EF)(b:AF):AF:=λr=>match a r with
 |some x=>(b r).map (x::·)
 |none=>none
@[simp] def Bi(a:AF):EF:=λr=>(a r).map λds=>.tuple ds
@[simp] def Bz(a:AF):BF:=λr=>(a r).map λds=>.ol ds
inductive Ty where
 |bool|int|str|tuple|list|dict
@[simp] def ae:Ty->D->Bool
 | .bool,.bool _=>true
 | .int,.int _=>true
 | .int,.bool _=>true
 | .str,.str _=>true
 | .tuple,.tuple _=>true
 | .list,.list _=>true
 | .dict,.dict _=>true
 |_,_=>false
@[simp] def Jr(a:EF)(t:Ty):EF:=λr=>match a r with
 |some (.dict _)=>none
 |some d=>some (.bool (ae t d))
 |none=>none
@[simp] def Sk(x y:D):Option D:=Dx (λi j=>some (.int (if j > i then j else i))) x y
@[simp] def SI(x y:D):Option D:=Dx (λi j=>some (.int (if j<i then j else i))) x y
@[simp] def Xj(a:EF):EF:=λr=>match a r with
 |some (.int i)=>some (.int i)
 |some (.bool b)=>some (.int (if b then 1 else 0))
 |_=>none
@[simp] def Lg(a b:BF):BF:=λr=>match a r with
 |some (.ol xs)=>match b r with
  |some (.ol ys)=>if xs.length+ys.length<big then some (.ol (xs++ys))else none
  |_=>none
 |_=>none
@[simp] def Uo(a:BF)(b:EF):BF:=λr=>match a r with
 |some (.ol xs)=>match b r with
  |some (.int k)=>if decide (k.natAbs<1000)&&decide (xs.length<1000)then some (.ol (Ak k.toNat xs).flatten)else none
  |_=>none
 |_=>none
def jb(n d:Nat):Option Int->Nat
 |none=>d
 |some v=>if v<0 then(v+(n:Int)).toNat else min v.toNat n
def cutD(xs:List D)(lo hi:Option Int):List D:=(xs.drop (jb xs.length 0 lo)).take (jb xs.length xs.length hi-jb xs.length 0 lo)
@[simp] def O5(a:Option EF)(r:Env):Option (Option Int):=match a with
 |none=>some none
 |some f=>match f r with
  |some (.int i)=>some (some i)
  |_=>none
@[simp] def VG(a:BF)(lo hi:Option EF):BF:=λr=>match a r with
 |some x=>match IV x with
  |some xs=>match O5 lo r with
   |some l=>match O5 hi r with
    |some h=>some (.ol (cutD xs l h))
    |none=>none
   |none=>none
  |none=>none
 |none=>none
def BC:List D->Option (List Int)
 |[]=>some []
 | .int i::r=>(BC r).map (i::·)
 |_::_=>none
def FE:List D->Option (List (List Int))
 |[]=>some []
 | .tuple ds::r=>match BC ds with
  |some ns=>(FE r).map (ns::·)
  |none=>none
 |_::_=>none
def lexLt:List Int->List Int->Bool
 |[],[]=>false
 |[],_::_=>true
 |_::_,[]=>false
 |a::r,b::q=>if a=b then lexLt r q else decide (a<b)
def sortI(ns:List Int):List Int:=ns.mergeSort λa b=>decide (a<=b)
def W5(ts:List (List Int)):List (List Int):=ts.mergeSort λa b=>!lexLt b a
def el(ns:List Int):List D:=ns.map λi=>AM i
def ag(ts:List (List Int)):List D:=ts.map λt=>CN (el t)
def Hv(ds:List D):Option (List D) :=
 if ds.length<64 then match BC ds with
  |some ns=>some (el (sortI ns))
  |none=>match FE ds with
   |some ts=>if ds.length<2||ts.all (λt=>!t.isEmpty)then some (ag (W5 ts))else none
   |none=>none
 else none
@[simp] def UU:B->Option (List D)
 | .pl (.tuple ds)=>some ds
 | .pl (.list ds)=>some ds
 | .ol ds=>some ds
 | .ok kvs=>some (kvs.map λp=>Eb p.1)
 | .ot kvs=>some (kvs.map λp=>.tuple (p.1.map Eb))
 | .otl kvs=>some (kvs.map λp=>.tuple (p.1.map Eb))
 |_=>none
@[simp] def YK(a:BF):BF:=λr=>match a r with
 |some x=>match UU x with
  |some ds=>(Hv ds).map λds=>.ol ds
  |none=>none
 |none=>none
def cY:List Int->List Int->List Int
 |acc,[]=>acc
 |acc,i::r=>if acc.contains i then cY acc r else cY (acc++[i]) r
def GQ(ns:List Int):Bool:=ns.all λn=>decide (0<=n)&&decide (n<8)
@[simp] def J1(a:BF):BF:=λr=>match a r with
 |some x=>match IV x with
  |some ds=>match BC ds with
   |some ns=>if GQ ns then some (.ol (el (sortI (cY [] ns))))else none
   |none=>none
  |none=>none
 |none=>none
@[simp] def Ze(m:List D->Option D)(a:AF):EF:=λr=>match a r with
 |some ds=>m ds
 |none=>none
@[simp] def ZF(a:BF):IF:=λr=>match a r with
 |some x=>G9 x
 |none=>none
def FT(lo:Int)(n:Nat):List D:=(Ab n).map λ(k:Nat)=>AM (lo+(k:Int))
def fC(j:Int):Bool:=Nat.blt j.natAbs 1000000
@[simp] def Z5(a:EF):IF:=λr=>match a r with
 |some (.int j)=>if fC j then some (FT 0 j.toNat)else none
 |_=>none
@[simp] def YU(i:IF):EF:=λr=>match i r with
 |some ds=>if ds.length<big then some (.tuple ds)else none
 |none=>none
def Z4(c:TF)(e:EF)(r:Env):List D->Option (List D)
 |[]=>some []
 |x::xs=>match c (some (.pl x)::r)with
  |some true=>match e (some (.pl x)::r)with
   |some y=>(Z4 c e r xs).map (y::·)
   |none=>none
  |some false=>Z4 c e r xs
  |none=>none
@[simp] def Zw:TF:=λ_=>some true
@[simp] def Zp(i:IF)(c:TF)(e:EF):BF:=λr=>match i r with
 |some xs=>if xs.length<big then(Z4 c e r xs).map λys=>.ol ys else none
 |none=>none
@[simp] def Zv(a b:SF):SF:=λr=>match a r with
 |some (.nx r')=>b r'
 |some (.rt d)=>some (.rt d)
 |some (.bk r')=>some (.bk r')
 |some (.ct r')=>some (.ct r')
 |none=>none
@[simp] def Bv:SF:=λr=>some (.nx r)
@[simp] def V5:SF:=λ_=>none
@[simp] def ZT(a:EF):SF:=λr=>(a r).map iH.rt
@[simp] def ZS(i:Nat)(a:EF):SF:=λr=>(a r).map λd=>.nx (r.set i (some (.pl d)))
@[simp] def AY(i:Nat)(a:BF):SF:=λr=>(a r).map λb=>.nx (r.set i (some b))
@[simp] def YC(i:Nat)(r:Env):Env:=match r[i]? with
 |some (some (.ol ds))=>r.set i (some (.pl (.list ds)))
 |some (some (.ot kvs))=>r.set i (some (.pl (.dict (O6 kvs))))
 |_=>r
@[simp] def IU(i:Nat):SF->SF:=λa r=>a (YC i r)
@[simp] def O3(a:EF):SF:=λr=>(a r).map λ_=>.nx r
@[simp] def dS(c:TF)(a b:SF):SF:=λr=>match c r with
 |some true=>a r
 |some false=>b r
 |none=>none
def BN(i:Nat)(body:SF):List D->Env->Option iH
 |[],r=>some (.nx r)
 |x::xs,r=>match body (r.set i (some (.pl x)))with
  |some (.nx r')=>BN i body xs r'
  |some (.ct r')=>BN i body xs r'
  |some (.bk r')=>some (.nx r')
  |some (.rt d)=>some (.rt d)
  |none=>none
@[simp] def CV(i:Nat)(it:IF)(body:SF):SF:=λr=>match it r with
 |some xs=>if xs.length<big then BN i body xs r else none
 |none=>none
def HL(c:TF)(body:SF):Nat->Env->Option iH
 |0,_=>none
 |n+1,r=>match c r with
  |some true=>match body r with
   |some (.nx r')=>HL c body n r'
   |some (.ct r')=>HL c body n r'
   |some (.bk r')=>some (.nx r')
   |some (.rt d)=>some (.rt d)
   |none=>none
  |some false=>some (.nx r)
  |none=>none
@[simp] def C9(i:Nat)(a:EF):SF:=λr=>match r[i]? with
 |some (some (.ol ds))=>match a r with
  |some d=>if ds.length<big then some (.nx (r.set i (some (.ol (ds++[d])))))else none
  |none=>none
 |_=>none
@[simp] def Wh(i:Nat)(k v:EF):SF:=λr=>match v r with
 |some d=>match r[i]? with
  |some (some (.ol ds))=>match k r with
   |some (.int n)=>match fK ds.length n with
    |some j=>some (.nx (r.set i (some (.ol (ds.set j d)))))
    |none=>none
   |_=>none
  |_=>none
 |none=>none
def fI{k v:Type}[DecidableEq k](kvs:List (k×v))(x:k)(y:v):List (k×v) :=
 if(kvs.any λp=>decide (p.1=x))=true then kvs.map (λp=>if p.1=x then(p.1,y)else p)else kvs++[(x,y)]
@[simp] def Le:D->Option Ky
 | .int i=>some (.inl i)
 | .str x=>some (.inr x)
 |_=>none
def Y3:List D->Option (List Ky)
 |[]=>some []
 |d::r=>match Le d with
  |some k=>(Y3 r).map (k::·)
  |none=>none
def O4:List D->Option (List Ky)
 |[]=>some []
 | .int i::r=>(O4 r).map (DM i::·)
 |_::_=>none
def SN:D->Option (List Ky)
 | .tuple ds=>O4 ds
 |_=>none
@[simp] def VX(i:Nat)(k v:EF):SF:=λr=>match v r with
 |some d=>match k r with
  |some x=>match r[i]? with
   |some (some (.ok kvs))=>match Le x with
    |some y=>if kvs.length<big then some (.nx (r.set i (some (.ok (fI kvs y d)))))else none
    |none=>none
   |some (some (.ot kvs))=>match SN x with
    |some y=>if kvs.length<big then some (.nx (r.set i (some (.ot (fI kvs y d)))))else none
    |none=>none
   |_=>none
  |none=>none
 |none=>none
@[simp] def mM:BF:=λ_=>some (.ot [])
@[simp] def XQ(k v:EF):BF:=λr=>match k r with
 |some x=>match v r with
  |some d=>match Le x with
   |some y=>some (.ok [(y,d)])
   |none=>none
  |none=>none
 |none=>none
@[simp] def YX(n:Nat)(ds:List D):Env:=ds.map (λd=>some (B.pl d))++Ak (n-ds.length) none
@[simp] def fnOf(k n:Nat)(m:SF):List D->Option D:=λds =>
 if ds.length=k then match m (YX n ds)with
  |some (.nx _)=>some .none
  |some (.rt d)=>some d
  |_=>none
 else none
def GN(ds:List D)(i:Int):Option Bool:=(BC ds).map λns=>ns.contains i
@[simp] def CZ(k:EF)(a:BF):EF:=λr=>match k r with
 |some (.int i)=>match a r with
  |some b=>match G9 b with
   |some ds=>(GN ds i).map λc=>.bool c
   |none=>none
  |none=>none
 |_=>none
@[simp] def GY(a:BF):TF:=λr=>match a r with
 |some (.ol ds)=>some (!ds.isEmpty)
 |_=>none
@[simp] def Wu(n:Nat)(c:TF)(body:SF):SF:=λr=>HL c body n r
def FH(i j:Nat)(body:SF):List D->Env->Option iH
 |[],r=>some (.nx r)
 | .tuple [x,y]::xs,r=>match body ((r.set i (some (.pl x))).set j (some (.pl y)))with
  |some (.nx r')=>FH i j body xs r'
  |some (.ct r')=>FH i j body xs r'
  |some (.bk r')=>some (.nx r')
  |some (.rt d)=>some (.rt d)
  |none=>none
 |_,_=>none
@[simp] def PY(i j:Nat)(it:IF)(body:SF):SF:=λr=>match it r with
 |some xs=>if xs.length<big then FH i j body xs r else none
 |none=>none
@[simp] def FF(a:BF):EF:=λr=>match a r with
 |some x=>match IV x with
  |some ds=>match BC ds with
   |some ns=>ns.max?.map λi=>AM i
   |none=>none
  |none=>none
 |none=>none
@[simp] def EU(a b:EF):EF:=λr=>match a r with
 |some (.tuple xs)=>match b r with
  |some (.tuple ys)=>if xs.length+ys.length<big then some (.tuple (xs++ys))else none
  |_=>none
 |_=>none
def Hd(n:Nat):List D->List D
 |[]=>[]
 |d::ds=>.tuple [.int n,d]::Hd (n+1) ds
@[simp] def L7(a b:EF):EF:=λr=>match a r with
 |some (.tuple xs)=>match b r with
  |some (.int k)=>if decide (0<=k)&&decide (k<1000)&&decide (xs.length<1000)then some (.tuple (Ak k.toNat xs).flatten)else none
  |_=>none
 |_=>none
def Bj{K:Type}[DecidableEq K]:List K->List K->List Int
 |_,[]=>[]
 |seen,m::ms=>match seen.findIdx? (λx=>decide (x=m))with
  |some i=>(i:Int)::Bj seen ms
  |none=>(seen.length:Int)::Bj (seen++[m]) ms
def jW:D->Option (Bool×List Int)
 | .tuple [.bool b,.tuple ds]=>(BC ds).map λns=>(b,ns)
 |_=>none
def kD:D->Option (Int×List (List Int))
 | .tuple [.int i,.tuple ds]=>(FE ds).map λts=>(i,ts)
 |_=>none
def DZ{K:Type}(f:D->Option K):List D->Option (List K)
 |[]=>some []
 |d::r=>match f d with
  |some k=>(DZ f r).map (k::·)
  |none=>none
def ED(ds:List D):Option (List Int):=if ds.length<1000 then
  match DZ jW ds with
  |some ks=>some (Bj [] ks)
  |none=>match DZ kD ds with
   |some ks=>some (Bj [] ks)
   |none=>none
 else none
def Q1:SF:=λr=>match r with
 |[some (.pl (.list ds)),some (.ot []),some (.ol []),none]=>(ED ds).map λns=>.nx [some (.pl (.list ds)),none,some (.ol (ns.map AM)),none]
 |_=>none
def Oa:SF:=Zv (AY 1 mM) (Zv (AY 2 (Bz Zf)) (Zv Q1 (IU 2 (ZT (S 2)))))
@[simp] def WV(i j k l m:Nat)(a:EF):SF:=λr=>match a r with
 |some (.tuple [x1,x2,x3,x4,x5])=>some (.nx (((((r.set i (some (.pl x1))).set j (some (.pl x2))).set k (some (.pl x3))).set l (some (.pl x4))).set m (some (.pl x5))))
 |_=>none
@[simp] def QF(a:EF):IF:=λr=>match a r with
 |some (.list ds)=>some (Hd 0 ds)
 |_=>none
end HM
namespace HP
open PySem PySem.Spec PyProof.Rows L2
variable{a l p:Addr}{o u:HO}{F F' H H' H1:J}{fp':List Addr}
@[reducible] def Ci(H':J)(b:Addr):HO->Prop
 | .tbl _=>∃ps',H' b=some (.tbl ps')
 |o=>H' b=some o
def A9(H H':J):Prop:=∀b o,H b=some o->Ci H' b o
theorem Ci.of{b:Addr}(h:H' b=some o):Ci H' b o:=by cases o<;>first|exact h|exact⟨_,h⟩
theorem Ci.ex{b:Addr}(h:Ci H' b o):∃u,H' b=some u:=by cases o<;>first|exact⟨_,h⟩|(obtain⟨ps,e⟩:=h;exact⟨_,e⟩)
theorem A9.of{H H':J}(s:Zo H H'):A9 H H':=λb o h=>.of (s b o h)
theorem A9.refl(H:J):A9 H H:=.of (.refl H)
theorem A9.trans{H2:J}(a:A9 H H1)(b:A9 H1 H2):A9 H H2:=λc o h=>by have h1:=a c o h;cases o<;>first|exact b c _ h1|(obtain⟨ps,e⟩:=h1;exact(show ∃ps',H2 c=some (.tbl ps') from b c _ e))
theorem A9.free(e:A9 H H')(h:H' l=none):H l=none:=by
 cases q:H l with
 |none=>rfl
 |some o=>obtain⟨u,z⟩:=(e l o q).ex;rw[h]at z;cases z
theorem A9.back(e:A9 H H')(h:H l=some o)(h':H' l=some u)(n:∀ps,u≠.tbl ps):o=u:=by have z:=e l o h;cases o<;>first|(obtain⟨ps,q⟩:=z;rw[h']at q;cases q;exact absurd rfl (n _))|(have z:H' l=some _:=z;rw[h']at z;cases z;rfl)
def Dw(H:J):J:=λb=>match H b with
 |some (.tbl _)=>none
 |x=>x
def nt:HO->Bool
 | .tbl _=>false
 |_=>true
def fu(F:J):Prop:=∀b o,F b=some o->nt o=true
theorem Ho{b:Addr}(h:H b=some o)(n:nt o=true):Dw H b=some o:=by unfold Dw;rw[h];cases o<;>first|rfl|cases n
theorem Qm{b:Addr}(h:Dw H b=some o):H b=some o/\nt o=true:=by
 unfold Dw at h;split at h
 .cases h
 .rename_i n
  refine⟨h,?_⟩;cases o<;>first|rfl|exact absurd h (n _)
theorem V9:Zo (Dw H) H:=λb o h=>(Qm h).1
theorem fu.drop:fu (Dw H):=λb o h=>(Qm h).2
theorem fu.upd{F:J}{p:Addr}{o:HO}(n:fu F)(h:nt o=true):fu (upd F p o):=λb u z=>by
 by_cases hb:b=p
 .subst hb;rw[ZA]at z;cases z;exact h
 .rw[Zt hb]at z;exact n b u z
def Dk(vvs:List (List cn×V))(u:HO):Prop:=u=.dT vvs\/∃o,u=.frz o (.dT vvs)
def sw(a:Addr)(ob:HO)(G:J):J:=λb=>if b=a then(G a).map (λ_=>ob)else G b
class FX where
 tl:List (Addr×Str)
 fv:Nat->List PyData->J->Addr->Prop
 sw:∀{t:Nat} {cs:List PyData} {F:J} {a b:Addr} {ob:HO} {vvs:List (List cn×V)},(∀u,F a=some u->Dk vvs u)->Dk vvs ob->fv t cs F b->fv t cs (sw a ob F) b
 drop:∀{t:Nat} {cs:List PyData} {F:J} {a:Addr},fv t cs F a->fv t cs (Dw F) a
 mono:∀{t:Nat} {cs:List PyData} {F F':J} {a:Addr},fv t cs F a->Zo F F'->fv t cs F' a
variable[FX]
def Sa(a:Addr)(o:Obj):HO:=.ext λh=>h.get? a=some o
def T3(o:Obj)(q:Str):Prop:=∃vs t,o.data=.fields vs/\vs[1]?=some (.str q t)
def Tb(H:J):Prop:=∀P q,(P,q)∈FX.tl->∃ps,H P=some (.tbl ps)/\TriplesOk ps.toList/\∀pos c,codeAmong pos ps.toList=some c->∃a o,c=.ref a/\H a=some (Sa a o)/\T3 o q
def EB:HO->Bool
 | .lst _=>true
 | .dK _=>true
 | .dT _=>true
 |_=>false
def te:HO->Bool
 | .tbl _=>true
 | .ext _=>true
 |_=>false
theorem Oi(h:EB o=true)(h':te o=true):False:=by cases o<;>simp_all [EB,te]
theorem Tb.keep(t:Tb H)(k:∀a o,H a=some o->te o=true->H' a=some o):Tb H':=λP q hP=>by obtain⟨ps,h1,h2,h3⟩:=t P q hP;refine⟨ps,k _ _ h1 rfl,h2,λpos c hc=>?_⟩;obtain⟨a,o,e1,e2,e3⟩:=h3 pos c hc;exact⟨a,o,e1,k _ _ e2 rfl,e3⟩
theorem Ci.cong{b:Addr}(e:H' b=H b)(h:Ci H b o):Ci H' b o:=by unfold Ci at h ⊢;rw[e];exact h
theorem Tb.same(t:Tb H)(s:Zo H H'):Tb H':=t.keep λa o h _=>s a o h
theorem LB(r:Rd F a u)(s:Zo F F'):Rd F' a u:=r.imp (λh=>s _ _ h) λ⟨o,h⟩=>⟨o,s _ _ h⟩
def Rv(K:Ad)(a:Addr)(vs:List V):Prop:=∃(o:Obj) (its:Array Value) (n:Nat),K.lookup a=some o/\o.cls=.type "tuple"/\o.data=.seq its n/\its.size<=sizeLine/\bW vs its.toList
theorem LU{K:Ad}{vs:List V}(h:da K F a vs)(s:Zo F F'):da K F' a vs:=h.imp (λh=>LB h s) id
inductive b7(K:Ad)(F:J):PyData->V->Prop where
 |non:b7 K F .none .non
 |bl (b:Bool):b7 K F (.bool b) (.bl b)
 |int (i:Int):b7 K F (.int i) (.int i)
 |str (x:Str):b7 K F (.str x) (.str x)
 |tupk {a:Addr} {x:Str} (h:Rv K a [.str x]):b7 K F (.tuple [.str x]) (.ref a)
 |tup {a:Addr} {ds:List PyData} {vs:List V} (h:F a=some (.tup vs)) (hl:ds.length=vs.length) (hr:∀(i:Nat) (d:PyData) (v:V),ds[i]?=some d->vs[i]?=some v->b7 K F d v):b7 K F (.tuple ds) (.ref a)
 |lst {a:Addr} {ds:List PyData} {vs:List V} (h:cF K F a vs) (hl:ds.length=vs.length) (hr:∀(i:Nat) (d:PyData) (v:V),ds[i]?=some d->vs[i]?=some v->b7 K F d v):b7 K F (.list ds) (.ref a)
 |dct {a:Addr} {es:List (PyData×PyData)} {kvs:List (List cn×PyData)} {vvs:List (List cn×V)} (h:Rd F a (.dT vvs)) (he:es=HM.O6 kvs) (hk:kvs.map (·.1)=vvs.map (·.1)) (hr:∀(i:Nat) (d:PyData) (v:V),(kvs.map (·.2))[i]?=some d->(vvs.map (·.2))[i]?=some v->b7 K F d v):b7 K F (.dict es) (.ref a)
 |fn {a:Addr} {t:Nat} {cs:List PyData} (h:FX.fv t cs F a):b7 K F (.dict [(.none,.int (Int.ofNat t)),(.none,.list cs)]) (.ref a)
def Zs(K:Ad)(F:J)(ds:List PyData)(vs:List V):Prop:=ds.length=vs.length/\∀(i:Nat) (d:PyData) (v:V),ds[i]?=some d->vs[i]?=some v->b7 K F d v
section
variable{K:Ad}{F F':J}{d:PyData}{v:V}{ds es:List PyData}{vs us:List V}
theorem b7.mono(r:b7 K F d v)(s:Zo F F'):b7 K F' d v:=by
 induction r with
 |non=>exact .non
 |bl b=>exact .bl b
 |int i=>exact .int i
 |str x=>exact .str x
 |tup h hl _ ih=>exact .tup (s _ _ h) hl ih
 |tupk h=>exact .tupk h
 |lst h hl _ ih=>exact .lst (s.seq h) hl ih
 |dct h he hk _ ih=>exact .dct (LB h s) he hk ih
 |fn h=>exact .fn (FX.mono h s)
theorem b7.drop(r:b7 K F d v):b7 K (Dw F) d v:=by
 induction r with
 |non=>exact .non
 |bl b=>exact .bl b
 |int i=>exact .int i
 |str x=>exact .str x
 |tup h hl _ ih=>exact .tup (Ho h rfl) hl ih
 |tupk h=>exact .tupk h
 |lst h hl _ ih =>
  refine .lst ?_ hl ih;rcases h with(h|⟨o,h⟩)|h
  .exact .inl (.inl (Ho h rfl))
  .exact .inl (.inr ⟨o,Ho h rfl⟩)
  .exact .inr h
 |dct h he hk _ ih =>
  refine .dct ?_ he hk ih;rcases h with h|⟨o,h⟩
  .exact .inl (Ho h rfl)
  .exact .inr ⟨o,Ho h rfl⟩
 |fn h=>exact .fn (FX.drop h)
theorem Zs.mono(r:Zs K F ds vs)(s:Zo F F'):Zs K F' ds vs:=⟨r.1,λi d v h1 h2=>(r.2 i d v h1 h2).mono s⟩
theorem Zs.nil:Zs K F [] []:=⟨rfl,λi d v h=>by simp at h⟩
theorem Zs.cons(r:b7 K F d v)(q:Zs K F ds vs):Zs K F (d::ds) (v::vs) :=
 ⟨by rw[A2,A2,q.1],λi e u h1 h2=>by
  cases i with
  |zero=>rw[DV]at h1 h2;cases h1;cases h2;exact r
  |succ i=>rw[Bo]at h1 h2;exact q.2 i e u h1 h2⟩
theorem Zs.nil_inv(r:Zs K F [] vs):vs=[]:=Dl r.1.symm
theorem Zs.cons_inv(r:Zs K F (d::ds) vs):∃v us,vs=v::us/\b7 K F d v/\Zs K F ds us:=by
 cases vs with
 |nil=>exact absurd r.1 (by simp)
 |cons v us =>
  refine⟨v,us,rfl,r.2 0 d v rfl rfl,?_,λi e u h1 h2=>r.2 (i+1) e u ?_ ?_⟩
  .have:=r.1
   rw[A2,A2]at this;omega
  .rw[Bo];exact h1
  .rw[Bo];exact h2
theorem Zs.append(r:Zs K F ds vs)(q:Zs K F es us):Zs K F (ds++es) (vs++us):=by
 refine⟨by rw[Az,Az,r.1,q.1],λi e u h1 h2=>?_⟩
 by_cases hi:i<ds.length
 .rw[Cd hi]at h1
  rw[Cd (by rw[<-r.1];exact hi)]at h2;exact r.2 i e u h1 h2
 .rw[Ce (by omega)]at h1
  rw[Ce (by have:=r.1;omega),<-r.1]at h2;exact q.2 _ e u h1 h2
theorem Zs.get(r:Zs K F ds vs){i:Nat}(h:ds[i]?=some d):∃v,vs[i]?=some v/\b7 K F d v:=by
 have hi:i<vs.length:=by rw[<-r.1];exact(AE.mp h).1
 exact⟨vs[i],AB hi,r.2 i d _ h (AB hi)⟩
theorem Zs.drop(r:Zs K F ds vs)(n:Nat):Zs K F (ds.drop n) (vs.drop n) :=
 ⟨by rw[Gy,Gy,r.1],λi e u h1 h2=>by rw[List.getElem?_drop]at h1 h2;exact r.2 _ e u h1 h2⟩
theorem Zs.take(r:Zs K F ds vs)(n:Nat):Zs K F (ds.take n) (vs.take n) :=
 ⟨by rw[Fe,Fe,r.1],λi e u h1 h2=>by
  by_cases hi:i<n
  .rw[Nt hi]at h1 h2
   exact r.2 _ e u h1 h2
  .rw[List.getElem?_take_eq_none (by omega)]at h1
   cases h1⟩
theorem Zs.set(r:Zs K F ds vs)(q:b7 K F d v)(j:Nat):Zs K F (ds.set j d) (vs.set j v):=by
 refine⟨by rw[B0,B0,r.1],λi e u h1 h2=>?_⟩;have hi:i<ds.length:=by have:=(AE.mp h1).1;rwa [B0]at this
 by_cases e1:j=i
 .subst e1
  rw[Cw hi]at h1;rw[Cw (by rw[<-r.1];exact hi)]at h2;cases h1;cases h2;exact q
 .rw[Bg e1]at h1 h2
  exact r.2 i e u h1 h2
theorem Zs.rep(r:Zs K F ds vs)(k:Nat):Zs K F (Ak k ds).flatten (Ak k vs).flatten:=by
 induction k with
 |zero=>exact Zs.nil
 |succ k ih=>rw[Ew,Ew,Fh,Fh];exact r.append ih
theorem Zs.one(r:b7 K F d v):Zs K F [d] [v]:=.cons r .nil
end
def i8(H:J)(a:Addr)(o:HO):Prop:=H a=none\/∃xs,o=.tup xs/\H a=some (.tup xs)
theorem i8.back{H H':J}{a:Addr}{o:HO}(s:A9 H H')(f:i8 H' a o):i8 H a o:=by
 rcases f with f|⟨xs,e,f⟩
 .exact .inl (s.free f)
 .cases q:H a with
  |none=>exact .inl q
  |some u =>
   have:=s.back q f λ_ z=>by cases z
   subst this;exact .inr ⟨xs,e,q⟩
theorem i8.no(f:i8 H a o)(h:H a=some u)(n:∀xs,u≠.tup xs):False:=by
 rcases f with f|⟨xs,_,f⟩
 .rw[h]at f;cases f
 .rw[h]at f;cases f;exact n xs rfl
structure cf(F H F' H':J):Prop where
 ff:Zo F F'
 hh:A9 H H'
 sub:Zo F' H'
 new:∀a o,F' a=some o->F a=some o\/i8 H a o
 tab:Tb H->Tb H'
 nts:fu F->fu F'
theorem cf.refl{F H:J}(s:Zo F H):cf F H F H:=⟨Zo.refl F,A9.refl H,s,λ_ _ h=>.inl h,id,id⟩
theorem cf.trans{F H F1 H1 F2 H2:J}(a:cf F H F1 H1)(b:cf F1 H1 F2 H2):cf F H F2 H2 :=
 ⟨a.ff.trans b.ff,a.hh.trans b.hh,b.sub,λx o h=>by
  rcases b.new x o h with q|q
  .exact a.new x o q
  .exact .inr (q.back a.hh),λt=>b.tab (a.tab t),λt=>b.nts (a.nts t)⟩
theorem GR(h:F p=none):Zo F (upd F p o):=λb q z=>by rw[Zt (Cp z h)];exact z
theorem cf.lay(e:cf F H F' H')(h:H' p=none)(no:nt o=true:=by rfl):cf F H (upd F' p o) (upd H' p o):=by
 have hF:F' p=none:=e.sub.free h;refine⟨λb q z=>?_,e.hh.trans (.of (GR h)),λb q z=>?_,λb q z=>?_,λt=>(e.tab t).same (GR h),λt=>(e.nts t).upd no⟩
 .rw[Zt (Cp (e.ff b q z) hF)];exact e.ff b q z
 .by_cases hb:b=p
  .subst hb;rw[ZA]at z ⊢;exact z
  .rw[Zt hb]at z ⊢;exact e.sub b q z
 .by_cases hb:b=p
  .subst hb;exact .inr (.inl (e.hh.free h))
  .rw[Zt hb]at z;exact e.new b q z
theorem cf.lay'(e:cf F H F' H')(h:H' p=none):cf F H F' (upd H' p o):=by refine⟨e.ff,e.hh.trans (.of (GR h)),λb q z=>?_,e.new,λt=>(e.tab t).same (GR h),e.nts⟩;rw[Zt (Cp (e.sub b q z) h)];exact e.sub b q z
theorem Zo.upd'(h:F p=none):Zo F (upd F p o):=λb q z=>by rw[Zt (Cp z h)];exact z
def Ax(F H:J):J:=λa=>match H a with
 |some (.tup xs)=>some (.tup xs)
 |_=>F a
theorem UC{xs:List V}(h:H a=some (.tup xs)):Ax F H a=some (.tup xs):=by unfold Ax;rw[h]
theorem BE(s:Zo F H):Zo F (Ax F H):=λa o h=>by
 have:=s a o h;unfold Ax;split
 .rename_i xs q
  rw[q]at this;exact this
 .exact h
theorem cf.tups(e:cf F H F' H'):cf F H (Ax F' H') H':=by
 have key:cf F' H' (Ax F' H') H':=by
  refine⟨BE e.sub,A9.refl H',λa o h=>?_,λa o h=>?_,id,λn a o h=>?_⟩
  .unfold Ax at h
   split at h
   .rename_i xs q;rw[q];exact h
   .exact e.sub a o h
  .unfold Ax at h
   split at h
   .rename_i xs q
    cases h;exact .inr (.inr ⟨xs,rfl,q⟩)
   .exact .inl h
  .unfold Ax at h
   split at h
   .cases h;rfl
   .exact n a o h
 exact e.trans key
inductive Z8(K:Ad)(F H:J):HM.B->V->List Addr->Prop where
 |pl {d:PyData} {v:V} (r:b7 K F d v):Z8 K F H (.pl d) v []
 |ol {a:Addr} {ds:List PyData} {vs:List V} (h:H a=some (.lst vs)) (r:Zs K F ds vs):Z8 K F H (.ol ds) (.ref a) [a]
 |ok {a:Addr} {kvs:List (cn×PyData)} {vvs:List (cn×V)} (h:H a=some (.dK vvs)) (hk:kvs.map (·.1)=vvs.map (·.1)) (r:Zs K F (kvs.map (·.2)) (vvs.map (·.2))):Z8 K F H (.ok kvs) (.ref a) [a]
 |ot {a:Addr} {kvs:List (List cn×PyData)} {vvs:List (List cn×V)} (h:H a=some (.dT vvs)) (hk:kvs.map (·.1)=vvs.map (·.1)) (r:Zs K F (kvs.map (·.2)) (vvs.map (·.2))):Z8 K F H (.ot kvs) (.ref a) [a]
 | otl {a:Addr} {kvs:List (List cn×List PyData)} {vvs:List (List cn×V)} {ls:List Addr} (h:H a=some (.dT vvs)) (hk:kvs.map (·.1)=vvs.map (·.1)) (hv:vvs.map (·.2)=ls.map V.ref)
   (r:∀(i:Nat) (ds:List PyData) (l:Addr),(kvs.map (·.2))[i]?=some ds->ls[i]?=some l->∃vs,H l=some (.lst vs)/\Zs K F ds vs):Z8 K F H (.otl kvs) (.ref a) (a::ls)
 |hd {a:Addr} {o:Obj} {es:List (PyData×PyData)} {kvs:List (List cn×PyData)} {vvs:List (List cn×V)} (h:F a=some (.frz o (.dT vvs))) (he:es=HM.O6 kvs) (hk:kvs.map (·.1)=vvs.map (·.1)) (r:Zs K F (kvs.map (·.2)) (vvs.map (·.2))):Z8 K F H (.hd es) (.ref a) []
 |hf {a:Addr} {t:Nat} {cs:List PyData} (h:FX.fv t cs F a):Z8 K F H (.hd [(.none,.int (Int.ofNat t)),(.none,.list cs)]) (.ref a) []
section
variable{K:Ad}{F F' H H':J}{b:HM.B}{v:V}{fp:List Addr}
theorem Z8.mono(r:Z8 K F H b v fp)(s:Zo F F')(k:∀a∈fp,∀o,H a=some o->Ci H' a o):Z8 K F' H' b v fp:=by
 cases r with
 |pl r=>exact .pl (r.mono s)
 |ol h r=>exact .ol (k _ (by simp) _ h) (r.mono s)
 |ok h hk r=>exact .ok (k _ (by simp) _ h) hk (r.mono s)
 |ot h hk r=>exact .ot (k _ (by simp) _ h) hk (r.mono s)
 |hd h he hk r=>exact .hd (s _ _ h) he hk (r.mono s)
 |hf h=>exact .hf (FX.mono h s)
 |otl h hk hv r=>refine .otl (k _ (by simp) _ h) hk hv λi ds l h1 h2=>?_;obtain⟨vs,q1,q2⟩:=r i ds l h1 h2;exact⟨vs,k l (Av _ (Dq h2)) _ q1,q2.mono s⟩
theorem Z8.there2(r:Z8 K F H b v fp)(h:a∈fp):∃o,H a=some o/\EB o=true:=by
 cases r with
 |pl r=>simp at h
 |hd _ _ _ _=>simp at h
 |hf _=>simp at h
 |ol q r=>simp at h;subst h;exact⟨_,q,rfl⟩
 |ok q hk r=>simp at h;subst h;exact⟨_,q,rfl⟩
 |ot q hk r=>simp at h;subst h;exact⟨_,q,rfl⟩
 | @otl a' kvs vvs ls q hk hv r =>
  rcases Ao.mp h with e|e
  .subst e;exact⟨_,q,rfl⟩
  .obtain⟨i,hi⟩:=Ey e
   have hl:kvs.length=ls.length:=by have e1:=congrArg A5 hk;have e2:=congrArg A5 hv;rw[Ae,Ae]at e1 e2;omega
   have hi':i<kvs.length:=by rw[hl];exact(AE.mp hi).1
   obtain⟨vs,q1,_⟩:=r i (kvs[i].2) a (by simp[hi']) hi;exact⟨_,q1,rfl⟩
theorem Z8.there'(r:Z8 K F H b v fp)(h:a∈fp):∃o,H a=some o/\∀xs,o≠.tup xs:=by
 cases r with
 |pl r=>simp at h
 |hd _ _ _ _=>simp at h
 |hf _=>simp at h
 |ol q r=>simp at h;subst h;exact⟨_,q,λ_ z=>by cases z⟩
 |ok q hk r=>simp at h;subst h;exact⟨_,q,λ_ z=>by cases z⟩
 |ot q hk r=>simp at h;subst h;exact⟨_,q,λ_ z=>by cases z⟩
 | @otl a' kvs vvs ls q hk hv r =>
  rcases Ao.mp h with e|e
  .subst e;exact⟨_,q,λ_ z=>by cases z⟩
  .obtain⟨i,hi⟩:=Ey e
   have hl:kvs.length=ls.length:=by have e1:=congrArg A5 hk;have e2:=congrArg A5 hv;rw[Ae,Ae]at e1 e2;omega
   have hi':i<kvs.length:=by rw[hl];exact(AE.mp hi).1
   obtain⟨vs,q1,_⟩:=r i (kvs[i].2) a (by simp[hi']) hi;exact⟨_,q1,λ_ z=>by cases z⟩
theorem Z8.there(r:Z8 K F H b v fp)(h:a∈fp):∃o,H a=some o:=let ⟨o,q,_⟩:=r.there' h;⟨o,q⟩
end
structure AD(K:Ad)(F0 H0 F H:J)(r:HM.Env)(Y:L2.St)(fp:Nat->List Addr):Prop where
 ext:cf F0 H0 F H
 len:r.length=Y.length
 at_:∀(i:Nat) (b:HM.B),r[i]?=some (some b)->∃v,Y[i]?=some (some v)/\Z8 K F H b v (fp i)
 emp:∀(i:Nat),(∀b,r[i]?≠some (some b))->fp i=[]
 own:∀(i:Nat) (a:Addr),a∈fp i->F a=none/\H0 a=none
 nd:∀i,(fp i).Nodup
 dis:∀(i j:Nat) (a:Addr),i≠j->a∈fp i->¬a∈fp j
 tb:Tb H0
 nt:fu F0
def At(K:Ad)(F0 H0 F H:J)(r:HM.Env)(Y:L2.St):Prop:=∃fp,AD K F0 H0 F H r Y fp
section
variable{K:Ad}{F0 H0 F H F' H':J}{r:HM.Env}{Y:L2.St}{fp:Nat->List Addr}{i:Nat}{b:HM.B}{v:V}{d:PyData}
theorem AD.bound(e:AD K F0 H0 F H r Y fp)(h:a∈fp i):∃b,r[i]?=some (some b):=by
 cases q:r[i]? with
 |none=>rw[e.emp i (λb z=>by rw[q]at z;cases z)]at h;simp at h
 |some x =>
  cases x with
  |none=>rw[e.emp i (λb z=>by rw[q]at z;cases z)]at h;simp at h
  |some b=>exact⟨b,rfl⟩
theorem AD.there'(e:AD K F0 H0 F H r Y fp){a:Addr}(h:a∈fp i):∃o,H a=some o/\∀xs,o≠.tup xs:=by obtain⟨b,hb⟩:=e.bound h;obtain⟨v,_,q⟩:=e.at_ i b hb;exact q.there' h
theorem AD.there2(e:AD K F0 H0 F H r Y fp){a:Addr}(h:a∈fp i):∃o,H a=some o/\EB o=true:=by obtain⟨b,hb⟩:=e.bound h;obtain⟨v,_,q⟩:=e.at_ i b hb;exact q.there2 h
theorem AD.there(e:AD K F0 H0 F H r Y fp)(h:a∈fp i):∃o,H a=some o:=let ⟨o,q,_⟩:=e.there' h;⟨o,q⟩
theorem AD.sub(e:AD K F0 H0 F H r Y fp):Zo F H:=e.ext.sub
theorem AD.grow(e:AD K F0 H0 F H r Y fp)(x:cf F H F' H'):AD K F0 H0 F' H' r Y fp:=by
 refine⟨e.ext.trans x,e.len,λi b h=>?_,e.emp,λi a h=>⟨?_,(e.own i a h).2⟩,e.nd,e.dis,e.tb,e.nt⟩
 .obtain⟨v,h1,h2⟩:=e.at_ i b h
  exact⟨v,h1,h2.mono x.ff λa _ o q=>x.hh a o q⟩
 .cases q:F' a with
  |none=>rfl
  |some o =>
   rcases x.new a o q with z|z
   .rw[(e.own i a h).1]at z;cases z
   .obtain⟨o',h',hn⟩:=e.there' h
    exact(z.no h' hn).elim
theorem At.grow(e:At K F0 H0 F H r Y)(x:cf F H F' H'):At K F0 H0 F' H' r Y:=let ⟨fp,e⟩:=e;⟨fp,e.grow x⟩
theorem At.tb(e:At K F0 H0 F H r Y):Tb H:=let ⟨_,e⟩:=e;e.ext.tab e.tb
theorem At.tbx(e:At K F0 H0 F H r Y)(x:cf F H F' H'):Tb H':=x.tab e.tb
theorem At.nt(e:At K F0 H0 F H r Y):fu F:=let ⟨_,e⟩:=e;e.ext.nts e.nt
theorem At.ntx(e:At K F0 H0 F H r Y)(x:cf F H F' H'):fu F':=x.nts e.nt
theorem At.nt0(e:At K F0 H0 F H r Y):fu F0:=let ⟨_,e⟩:=e;e.nt
theorem At.sub(e:At K F0 H0 F H r Y):Zo F H:=let ⟨_,e⟩:=e;e.ext.sub
theorem At.ext(e:At K F0 H0 F H r Y):cf F0 H0 F H:=let ⟨_,e⟩:=e;e.ext
theorem At.len(e:At K F0 H0 F H r Y):r.length=Y.length:=let ⟨_,e⟩:=e;e.len
theorem At.refl(e:At K F0 H0 F H r Y):cf F H F H:=.refl e.sub
theorem At.plain(e:At K F0 H0 F H r Y)(h:r[i]?=some (some (.pl d))):∃v,Y[i]?=some (some v)/\b7 K F d v:=by
 obtain⟨fp,e⟩:=e;obtain⟨v,h1,h2⟩:=e.at_ i _ h;generalize fp i=f at h2;cases h2 with
 |pl q=>exact⟨v,h1,q⟩
theorem At.any(e:At K F0 H0 F H r Y)(h:r[i]?=some (some b)):∃v fp,Y[i]?=some (some v)/\Z8 K F H b v fp:=by obtain⟨fp,e⟩:=e;obtain⟨v,h1,h2⟩:=e.at_ i _ h;exact⟨v,_,h1,h2⟩
theorem At.store(e:At K F0 H0 F H r Y)(q:Z8 K F H b v fp')(nd:fp'.Nodup)(h1:∀a∈fp',F a=none/\H0 a=none)(h2:∀fp,AD K F0 H0 F H r Y fp->∀j a,j≠i->a∈fp j->¬a∈fp'):At K F0 H0 F H (r.set i (some b)) (Y.set i (some v)):=by
 obtain⟨fp,e⟩:=e;have h2:=h2 fp e
 by_cases hi:i<r.length
 .refine⟨λj=>if j=i then fp' else fp j,e.ext,by rw[B0,B0,e.len],λj c h=>?_,λj h=>?_,λj a h=>?_,λj=>?_,λj k a ia h=>?_,e.tb,e.nt⟩
  .by_cases hj:j=i
   .subst hj
    rw[Cw hi]at h;cases h;refine⟨v,Cw (by rw[<-e.len];exact hi),?_⟩;rw[if_pos rfl];exact q
   .rw[Bg (AH hj)]at h
    obtain⟨u,q1,q2⟩:=e.at_ j c h;refine⟨u,by rw[Bg (AH hj)];exact q1,?_⟩;rw[if_neg hj];exact q2
  .by_cases hj:j=i
   .subst hj
    exact absurd (Cw hi) (h b)
   .show(if j=i then fp' else fp j)=[]
    rw[if_neg hj];exact e.emp j λc z=>h c (by rw[Bg (AH hj)];exact z)
  .by_cases hj:j=i
   .rw[if_pos hj]at h;exact h1 a h
   .rw[if_neg hj]at h;exact e.own j a h
  .show(if j=i then fp' else fp j).Nodup
   by_cases hj:j=i
   .rw[if_pos hj];exact nd
   .rw[if_neg hj];exact e.nd j
  .show ¬a∈(if k=i then fp' else fp k)
   by_cases hj:j=i
   .rw[if_pos hj]at h
    by_cases hk:k=i
    .exact absurd (hj.trans hk.symm) ia
    .rw[if_neg hk];exact λz=>h2 k a hk z h
   .rw[if_neg hj]at h
    by_cases hk:k=i
    .rw[if_pos hk];exact h2 j a hj h
    .rw[if_neg hk];exact e.dis j k a ia h
 .have e1:r.set i (some b)=r:=Nr (by omega)
  have e2:Y.set i (some v)=Y:=Nr (by have:=e.len;omega);rw[e1,e2];exact⟨fp,e⟩
theorem At.set(e:At K F0 H0 F H r Y)(q:b7 K F d v):At K F0 H0 F H (r.set i (some (.pl d))) (Y.set i (some v)) :=
 e.store (.pl q) Dr (λa h=>by simp at h) λ_ _ _ _ _ _ h=>by simp at h
theorem AD.changeW(e:AD K F0 H0 F H r Y fp)(hv:Y[i]?=some (some v))(q:Z8 K F H' b v fp')(nd:fp'.Nodup)(h1:∀a∈fp',a∈fp i\/(F a=none/\H0 a=none/\∀j,a∉fp j))(h2:∀a o,H a=some o->¬a∈fp i->H' a=some o):At K F0 H0 F H' (r.set i (some b)) Y:=by
 have sF:Zo F H':=λa o z=>h2 a o (e.sub a o z) λm=>by rw[(e.own i a m).1]at z;cases z
 have sH:A9 H0 H':=λa o z=>by
  have nm:¬a∈fp i:=λm=>by rw[(e.own i a m).2]at z;cases z
  have y:=e.ext.hh a o z;cases o<;>first|exact h2 a _ y nm|(obtain⟨ps,q⟩:=y;exact⟨ps,h2 a _ q nm⟩)
 have sT:Tb H0->Tb H':=λt=>(e.ext.tab t).keep λa o z ho=>h2 a o z λm=>by obtain⟨o',q1,q2⟩:=e.there2 m;rw[z]at q1;cases q1;exact Oi q2 ho
 have e':AD K F0 H0 F H' (r.set i none) (Y.set i none) (λj=>if j=i then[]else fp j):=by
  refine⟨⟨e.ext.ff,sH,sF,e.ext.new,sT,e.ext.nts⟩,by rw[B0,B0,e.len],λj c h=>?_,λj h=>?_,λj a h=>?_,λj=>?_,λj k a ia h=>?_,e.tb,e.nt⟩
  .by_cases hj:j=i
   .subst hj
    by_cases hi:j<r.length
    .rw[Cw hi]at h;cases h
    .rw[NB (by rw[B0];omega)]at h;cases h
   .rw[Bg (AH hj)]at h
    obtain⟨u,q1,q2⟩:=e.at_ j c h;refine⟨u,by rw[Bg (AH hj)];exact q1,?_⟩;rw[if_neg hj];exact q2.mono (Zo.refl F) λa ha o z=>.of (h2 a o z (e.dis j i a hj ha))
  .show(if j=i then[]else fp j)=[]
   by_cases hj:j=i
   .rw[if_pos hj]
   .rw[if_neg hj]
    exact e.emp j λc z=>h c (by rw[Bg (AH hj)];exact z)
  .by_cases hj:j=i
   .rw[if_pos hj]at h;simp at h
   .rw[if_neg hj]at h;exact e.own j a h
  .show(if j=i then[]else fp j).Nodup
   by_cases hj:j=i
   .rw[if_pos hj];exact Dr
   .rw[if_neg hj];exact e.nd j
  .show ¬a∈(if k=i then[]else fp k)
   by_cases hj:j=i
   .rw[if_pos hj]at h;simp at h
   .rw[if_neg hj]at h
    by_cases hk:k=i
    .rw[if_pos hk];simp
    .rw[if_neg hk];exact e.dis j k a ia h
 have hF:∀a∈fp',F a=none/\H0 a=none:=λa ha=>by
  rcases h1 a ha with z|z
  .exact e.own i a z
  .exact⟨z.1,z.2.1⟩
 have e2:=At.store (i:=i) ⟨_,e'⟩ q nd hF λfq eq j a hj ha z=>by
  obtain⟨c,hc⟩:=eq.bound ha;rw[Bg (AH hj)]at hc;obtain⟨u1,s1,r1⟩:=eq.at_ j c (by rw[Bg (AH hj)];exact hc);obtain⟨u2,s2,r2⟩:=e.at_ j c hc;rw[Bg (AH hj),s2]at s1;cases s1;have hm:a∈fp j:=by
   have r2':=r2.mono (H':=H') (Zo.refl F) λa ha o z=>.of (h2 a o z (e.dis j i a hj ha))
   clear r2
   generalize fq j=f1 at r1 ha;generalize fp j=f2 at r2' ⊢;cases r1 with
   |pl _=>simp at ha
   |hd _ _ _ _=>simp at ha
   |hf _=>simp at ha
   |ol _ _=>cases r2' with|ol _ _=>exact ha
   |ok _ _ _=>cases r2' with|ok _ _ _=>exact ha
   |ot _ _ _=>cases r2' with|ot _ _ _=>exact ha
   |otl a1 _ v1 _ =>
    cases r2' with
    |otl a2 _ v2 _ =>
     rw[a1]at a2;cases a2;rw[v1]at v2;have:∀{l l':List Addr},l.map V.ref=l'.map V.ref->l=l':=by
      intro l
      induction l with
      |nil=>intro l' h;cases l' with|nil=>rfl|cons _ _=>simp at h
      |cons x xs ih =>
       intro l' h;cases l' with
       |nil=>simp at h
       |cons y ys =>
        rw[Am,Am]at h;injection h with h1 h2
        injection h1 with h1
        rw[h1,ih h2]
     rw[<-this v2];exact ha
  rcases h1 a z with w|w
  .exact e.dis j i a hj hm w
  .exact w.2.2 j hm
 rw[HU,HU]at e2;have es:Y.set i (some v)=Y:=by have hi:i<Y.length:=(AE.mp hv).1;have hq:Y[i]=some v:=(AE.mp hv).2;rw[<-hq];exact NA hi
 rwa [es]at e2
theorem AD.change(e:AD K F0 H0 F H r Y fp)(hv:Y[i]?=some (some v))(q:Z8 K F H' b v fp')(nd:fp'.Nodup)(h1:∀a∈fp',a∈fp i\/H a=none)(h2:∀a o,H a=some o->¬a∈fp i->H' a=some o):At K F0 H0 F H' (r.set i (some b)) Y :=
 e.changeW hv q nd (λa ha=>(h1 a ha).imp id λz=>⟨e.sub.free z,e.ext.hh.free z,λj hj=>by obtain⟨o,ho⟩:=e.there hj;rw[z]at ho;cases ho⟩) h2
theorem At.storeNew{Hb:J}(e:At K F0 H0 F H r Y)(hb:At K F0 H0 F' Hb r Y)(sb:A9 Hb H)(q:Z8 K F H b v fp')(nd:fp'.Nodup)(h1:∀a∈fp',F a=none/\Hb a=none):At K F0 H0 F H (r.set i (some b)) (Y.set i (some v)):=by
 refine e.store q nd (λa h=>⟨(h1 a h).1,hb.ext.hh.free (h1 a h).2⟩) λfp e1 j a hj ha z=>?_;obtain⟨fq,eb⟩:=hb;obtain⟨c,hc⟩:=e1.bound ha;obtain⟨u1,s1,r1⟩:=e1.at_ j c hc;obtain⟨u2,s2,r2⟩:=eb.at_ j c hc;rw[s2]at s1;cases s1;have hn:=(h1 a z).2;have eD:∀{x:Addr} {o o':HO},Hb x=some o->H x=some o'->(∀ps,o'≠.tbl ps)->o=o':=λ{x o o'} h1 h2 n=>sb.back h1 h2 n;generalize fp j=f1 at r1 ha;generalize fq j=f2 at r2;cases r1 with
 |pl _=>simp at ha
 |hd _ _ _ _=>simp at ha
 |hf _=>simp at ha
 |ol k _=>cases r2 with|ol k' _=>simp at ha;subst ha;rw[hn]at k';cases k'
 |ok k _ _=>cases r2 with|ok k' _ _=>simp at ha;subst ha;rw[hn]at k';cases k'
 |ot k _ _=>cases r2 with|ot k' _ _=>simp at ha;subst ha;rw[hn]at k';cases k'
 |otl k _ v1 _ =>
  cases r2 with
  |otl k' hk' v2 r2' =>
   have eo:=eD k' k λ_ z=>by cases z
   injection eo with eo
   subst eo;have v2':=v2;rw[v1]at v2;rcases Ao.mp ha with z2|z2
   .subst z2;rw[hn]at k';cases k'
   .have:V.ref a∈Gh V.ref _:=Aj.mpr ⟨a,z2,rfl⟩
    rw[v2]at this;obtain⟨a',m1,m2⟩:=Aj.mp this;injection m2 with m2
    subst m2;obtain⟨o,ho⟩:=Z8.there (Z8.otl k' hk' v2' r2') (Av _ m1);rw[hn]at ho;cases ho
theorem At.rebase(e:At K F0 H0 F H r Y):At K F H0 F H r Y:=by obtain⟨fp,e⟩:=e;exact⟨fp,⟨Zo.refl F,e.ext.hh,e.ext.sub,λ_ _ z=>.inl z,e.ext.tab,id⟩,e.len,e.at_,e.emp,e.own,e.nd,e.dis,e.tb,e.ext.nts e.nt⟩
theorem cf.unbase{F1:J}(x:cf F0 H0 F1 H1)(y:cf F1 H0 F H):cf F0 H0 F H :=
 ⟨x.ff.trans y.ff,y.hh,y.sub,λa o z=>(y.new a o z).elim (λq=>x.new a o q) .inr,y.tab,λt=>y.nts (x.nts t)⟩
theorem At.unbase{F1 H1:J}(x:cf F0 H0 F1 H1)(n:fu F0)(e:At K F1 H0 F H r Y):At K F0 H0 F H r Y:=by obtain⟨fp,e⟩:=e;exact⟨fp,x.unbase e.ext,e.len,e.at_,e.emp,e.own,e.nd,e.dis,e.tb,n⟩
theorem AD.freeze{fp:Nat->List Addr}(e:AD K F0 H0 F H r Y fp)(i:Nat){b:HM.B}{ob:HO}{d:PyData}(hb:r[i]?=some (some b))(h1:Y[i]?=some (some (.ref a)))(fL:fp i=[a])(ha:H a=some ob)(hr:Zo F (upd F a ob)->b7 K (upd F a ob) d (.ref a))(no:HP.nt ob=true:=by rfl):∃F',cf F0 H0 F' H/\Zo F F'/\At K F0 H0 F' H (r.set i (some (.pl d))) Y:=by
 have hF:F a=none:=(e.own i a (by rw[fL];simp)).1;have s:Zo F (upd F a ob):=Zo.upd' hF;have x:cf F0 H0 (upd F a ob) H:=by
  refine⟨e.ext.ff.trans s,e.ext.hh,λc o z=>?_,λc o z=>?_,e.ext.tab,λt=>(e.ext.nts t).upd no⟩
  .by_cases hc:c=a
   .subst hc;rw[ZA]at z;cases z;exact ha
   .rw[Zt hc]at z;exact e.sub c o z
  .by_cases hc:c=a
   .subst hc;exact .inr (.inl (e.own i c (by rw[fL];simp)).2)
   .rw[Zt hc]at z;exact e.ext.new c o z
 refine⟨_,x,s,?_⟩;have e1:AD K F0 H0 (upd F a ob) H (r.set i none) (Y.set i none) (λj=>if j=i then[]else fp j):=by
  refine⟨x,by rw[B0,B0,e.len],λj c h=>?_,λj h=>?_,λj c h=>?_,λj=>?_,λj k c ia h=>?_,e.tb,e.nt⟩
  .by_cases hj:j=i
   .subst hj
    rw[Cw (AE.mp hb).1]at h;cases h
   .rw[Bg (AH hj)]at h
    obtain⟨u,q1,q2⟩:=e.at_ j c h;refine⟨u,by rw[Bg (AH hj)];exact q1,?_⟩;rw[if_neg hj];exact q2.mono s λ_ _ _ z=>.of z
  .show(if j=i then[]else fp j)=[]
   by_cases hj:j=i
   .rw[if_pos hj]
   .rw[if_neg hj]
    exact e.emp j λc z=>h c (by rw[Bg (AH hj)];exact z)
  .by_cases hj:j=i
   .rw[if_pos hj]at h;simp at h
   .rw[if_neg hj]at h
    have ow:c≠a:=λz=>e.dis j i c hj h (by rw[fL,z];simp);exact⟨by rw[Zt ow];exact(e.own j c h).1,(e.own j c h).2⟩
  .show(if j=i then[]else fp j).Nodup
   by_cases hj:j=i
   .rw[if_pos hj];exact Dr
   .rw[if_neg hj];exact e.nd j
  .show ¬c∈(if k=i then[]else fp k)
   by_cases hj:j=i
   .rw[if_pos hj]at h;simp at h
   .rw[if_neg hj]at h
    by_cases hk:k=i
    .rw[if_pos hk];simp
    .rw[if_neg hk];exact e.dis j k c ia h
 have rp:=hr s;have e2:=At.set (i:=i) ⟨_,e1⟩ rp;rw[HU,HU]at e2;have es:Y.set i (some (.ref a))=Y:=by have hi:i<Y.length:=(AE.mp h1).1;have hq:Y[i]=some (.ref a):=(AE.mp h1).2;rw[<-hq];exact NA hi
 rwa [es]at e2
theorem At.freeze(e:At K F0 H0 F H r Y)(i:Nat):∃F',cf F0 H0 F' H/\Zo F F'/\At K F0 H0 F' H (HM.YC i r) Y:=by
 unfold HM.YC;split
 .rename_i ds hb
  obtain⟨fp,e⟩:=e;obtain⟨v,h1,h2⟩:=e.at_ i _ hb;generalize fL:fp i=f at h2;cases h2 with
  | @ol a _ vs ha q=>exact e.freeze i hb h1 fL ha λs=>.lst (.of ZA) q.1 (q.mono s).2
 .rename_i kvs hb
  obtain⟨fp,e⟩:=e;obtain⟨v,h1,h2⟩:=e.at_ i _ hb;generalize fL:fp i=f at h2;cases h2 with
  | @ot a _ vvs ha hk q=>exact e.freeze i hb h1 fL ha λs=>.dct (.inl ZA) rfl hk (q.mono s).2
 .exact⟨F,e.ext,Zo.refl F,e⟩
end
inductive fH(K:Ad)(r:HM.Env)(Y:L2.St)(H:J)(C:J->J->J->Prop):Prop
 |mk (F0 H0 F:J) (at_:At K F0 H0 F H r Y) (k:C F0 H0 F):fH K r Y H C
end HP
namespace HP
open PySem PySem.Spec PyProof.Rows L2
variable[FX]
section
variable{X:Cx}{f:HM.AF}{r:HM.Env}{u:HM.TF}{F:J}{i:Int}{es rest:List Expr}{j:Nat}{g:PyData->PyData->Option PyData}{K:Ad}{x:Str}
def ip(K:Ad)(r:HM.Env)(P:J->J->J->V->Prop):TE:=λY H Q=>fH K r Y H λF0 H0 F=>∀v F' H',cf F H F' H'->P H F' H' v->Q v H'
def XE(X:Cx)(e:Expr)(f:HM.EF):Prop:=∀r d,f r=some d->PE X e (ip X.K r λ_ F' _ v=>b7 X.K F' d v)
def XB(X:Cx)(e:Expr)(f:HM.BF):Prop:=∀r b,f r=some b->PE X e (ip X.K r λ_ F' H' v=>∃fp,Z8 X.K F' H' b v fp)
def XF(X:Cx)(e:Expr)(f:HM.BF):Prop:=∀r b,f r=some b->PE X e (ip X.K r λH F' H' v=>∃fp,Z8 X.K F' H' b v fp/\fp.Nodup/\∀a∈fp,F' a=none/\H a=none)
def XT(X:Cx)(e:Expr)(f:HM.TF):Prop:=∀r c,f r=some c->PT X e λY H Q=>fH X.K r Y H λF0 H0 F=>∀F' H',cf F H F' H'->Q c H'
def XW(X:Cx)(e:Expr)(f:HM.TF):Prop:=∀r c,f r=some c->PW X e λY H Q=>fH X.K r Y H λF0 H0 F=>∀F' H',cf F H F' H'->Q c H'
structure XA(X:Cx)(es:List Expr)(f:HM.AF):Prop where
 len:∀r ds,f r=some ds->ds.length=es.length
 pa:∀r ds,f r=some ds->PA X es λY H Q=>fH X.K r Y H λF0 H0 F=>∀vs F' H',cf F H F' H'->Zs X.K F' ds vs->Q vs H'
def iI(K:Ad)(pA:It)(ds:List PyData)(F:J):Prop:=∀F' H,Zo F F'->Zo F' H ->
 (∀(i:Nat) (d:PyData),ds[i]?=some d->pA.go i H/\∀x H',pA.yld i H x H'->H'=H/\b7 K (Ax F' H) d x)/\pA.stop ds.length H
def XI(X:Cx)(tg e:Expr)(f:HM.IF):Prop:=∀r ds,f r=some ds->PI X tg e λY H R=>fH X.K r Y H λF0 H0 F=>∀pA F' H',cf F H F' H'->iI X.K pA ds F'->R pA H'
def Ru(K:Ad)(F0 H0:J)(o:HM.iH)(E:fj):Prop:=match o with
 | .nx r=>∀Y F H,At K F0 H0 F H r Y->E.nx Y H
 | .rt d=>∀v F H,cf F0 H0 F H->b7 K F d v->E.rt v H
 | .bk r=>∀Y F H,At K F0 H0 F H r Y->E.bk Y H
 | .ct r=>∀Y F H,At K F0 H0 F H r Y->E.ct Y H
def iS(K:Ad)(r:HM.Env)(o:HM.iH):TS:=λE Y H=>fH K r Y H λF0 H0 F=>Ru K F0 H0 o E
def XS(X:Cx)(st:Stmt)(g:HM.SF):Prop:=∀r o,g r=some o->PS X st (iS X.K r o)
def fP(X:Cx)(iT:List Stmt)(g:HM.SF):Prop:=∀r o,g r=some o->dz X iT (iS X.K r o)
theorem PE.imp{e:Expr}{t u:TE}(h:PE X e t)(hi:∀Y H Q,u Y H Q->t Y H Q):PE X e u:=λbT s Y H Q I q=>h bT s Y H Q I (hi Y H Q q)
theorem PT.imp{e:Expr}{t u:TT}(h:PT X e t)(hi:∀Y H Q,u Y H Q->t Y H Q):PT X e u:=λbT s Y H Q I q=>h bT s Y H Q I (hi Y H Q q)
theorem PW.imp{e:Expr}{t u:TT}(h:PW X e t)(hi:∀Y H Q,u Y H Q->t Y H Q):PW X e u:=λwh bT s Y H Q I q=>h wh bT s Y H Q I (hi Y H Q q)
theorem PA.imp{t u:TA}(h:PA X es t)(hi:∀Y H Q,u Y H Q->t Y H Q):PA X es u:=λp bT s Y H Q I q=>h p bT s Y H Q I (hi Y H Q q)
theorem PS.imp{st:Stmt}{t u:TS}(h:PS X st t)(hi:∀E Y H,u E Y H->t E Y H):PS X st u:=λbT s Y H E I q=>h bT s Y H E I (hi E Y H q)
theorem dz.imp{iT:List Stmt}{t u:TS}(h:dz X iT t)(hi:∀E Y H,u E Y H->t E Y H):dz X iT u:=λbT s Y H E I q=>h bT s Y H E I (hi E Y H q)
section
variable{X:Cx}{a b c e:Expr}{fa fb fc:HM.EF}{pos p:Pos}
theorem Ur{i:Nat}{d:PyData}(h:HM.S i r=some d):r[i]?=some (some (.pl d)):=by
 unfold HM.S at h;split at h
 .rename_i q;cases h;exact q
 .cases h
theorem Uq{i:Nat}{d:HM.B}(h:HM.Zm i r=some d):r[i]?=some (some d):=by
 unfold HM.Zm at h;split at h
 .rename_i q;cases h;exact q
 .cases h
theorem Zd(i:Nat){pos:Pos}(hN:X.N[i]?=some x:=by rfl)(hv:d6 X.env.scope x:=by first|exact AJ rfl|exact Ar (AJ rfl)|exact Ar (Ar rfl))(hd:(x==("__debug__":Str))=false:=by decide)(dP:(x==("__classdict__":Str))=false:=by decide):XE X (.Name x pos) (HM.S i):=by
 intro r d h;refine PE.imp (CY hN hv hd dP) λY H Q ⟨F0,H0,F,at_,k⟩=>?_;obtain⟨v,h1,h2⟩:=at_.plain (Ur h);exact⟨v,h1,k v F H at_.refl h2⟩
theorem Zu(i:Nat){pos:Pos}(hN:X.N[i]?=some x:=by rfl)(hv:d6 X.env.scope x:=by first|exact AJ rfl|exact Ar (AJ rfl)|exact Ar (Ar rfl))(hd:(x==("__debug__":Str))=false:=by decide)(dP:(x==("__classdict__":Str))=false:=by decide):XB X (.Name x pos) (HM.Zm i):=by
 intro r d h;refine PE.imp (CY hN hv hd dP) λY H Q ⟨F0,H0,F,at_,k⟩=>?_;obtain⟨v,fp,h1,h2⟩:=at_.any (Uq h);exact⟨v,h1,k v F H at_.refl ⟨fp,h2⟩⟩
theorem L5{v:V}{d:PyData}(h:PE X e (tC v))(r:∀F,b7 X.K F d v):XE X e (HM.eC d):=by intro r' d' h';cases h';exact PE.imp h λY H Q ⟨F0,H0,F,at_,k⟩=>k v F H at_.refl (r F)
theorem Zj:XE X (.Constant (.int i) j pos) (HM.eC (.int i)):=L5 OD λ_=>.int i
theorem D7{q:Bool}:XE X (.Constant (.bool q) j pos) (HM.eC (.bool q)):=L5 RU λ_=>.bl q
theorem Jm(hm:∃t,X.mg x=some (.int i t))(hg:Gl X x:=by rfl)(hd:(x==("__debug__":Str))=false:=by decide):XE X (.Name x pos) (HM.eC (.int i)):=by obtain⟨t,hm⟩:=hm;exact L5 (TY hg hm (v:=.int i) ⟨t,rfl⟩ hd) λ_=>.int i
theorem TU{p':Pos}:XE X (.UnaryOp .USub (.Constant (.int i) j p') pos) (HM.eC (.int (-i))):=by intro r d h;cases h;intro bT s Y H Q I q;obtain⟨F0,H0,F,at_,k⟩:=q;refine UnaryOp_ (b9 (OD bT s Y H (λv H'=>v=.int i/\H'=H) I ⟨rfl,rfl⟩) λu s1 ⟨x,H1,I1,r1,e1,e2⟩=>?_);subst e1 e2;obtain⟨t,rfl⟩:=r1;exact neg_int ⟨.int (-i),H1,I1.tok _,⟨_,rfl⟩,k _ F H1 at_.refl (.int _)⟩
theorem Lv(h:XE X e fa):XB X e (HM.cu fa):=by intro r b hb;obtain⟨d,h1,h2⟩:=An.mp hb;subst h2;exact PE.imp (h r d h1) λY H Q ⟨F0,H0,F,at_,k⟩=>⟨F0,H0,F,at_,λv F' H' x q=>k v F' H' x ⟨[],.pl q⟩⟩
theorem AI{f:HM.BF}(h:XF X e f):XB X e f:=λr b hb=>PE.imp (h r b hb) λY H Q ⟨F0,H0,F,at_,k⟩=>⟨F0,H0,F,at_,λv F' H' x ⟨fp,q,_⟩=>k v F' H' x ⟨fp,q⟩⟩
theorem IW{f:HM.BF}(h:XF X e f):XE X e (HM.gH f):=by
 intro r d hd;unfold HM.gH at hd;obtain⟨b,h1,h2⟩:=Option.bind_eq_some_iff.mp hd;refine PE.imp (h r b h1) λY H Q ⟨F0,H0,F,at_,k⟩=>⟨F0,H0,F,at_,λv F' H' x ⟨fp,q,_,hn⟩=>?_⟩;cases q with
 |pl q=>cases h2;exact k v F' H' x q
 | @ol l ds vs hl q =>
  cases h2;have hF:F' l=none:=(hn l (by simp)).1;have s:Zo F' (upd F' l (.lst vs)):=Zo.upd' hF;refine k _ (upd F' l (.lst vs)) H' ⟨x.ff.trans s,x.hh,λc o z=>?_,λc o z=>?_,x.tab,λt=>(x.nts t).upd rfl⟩ (.lst (.of ZA) q.1 (q.mono s).2)
  .by_cases hc:c=l
   .subst hc;rw[ZA]at z;cases z;exact hl
   .rw[Zt hc]at z;exact x.sub c o z
  .by_cases hc:c=l
   .subst hc;exact .inr (.inl (hn c (by simp)).2)
   .rw[Zt hc]at z;exact x.new c o z
 | @ot l kvs vvs hl hk q =>
  cases h2;have hF:F' l=none:=(hn l (by simp)).1;have s:Zo F' (upd F' l (.dT vvs)):=Zo.upd' hF;refine k _ (upd F' l (.dT vvs)) H' ⟨x.ff.trans s,x.hh,λc o z=>?_,λc o z=>?_,x.tab,λt=>(x.nts t).upd rfl⟩ (.dct (.inl ZA) rfl hk (q.mono s).2)
  .by_cases hc:c=l
   .subst hc;rw[ZA]at z;cases z;exact hl
   .rw[Zt hc]at z;exact x.sub c o z
  .by_cases hc:c=l
   .subst hc;exact .inr (.inl (hn c (by simp)).2)
   .rw[Zt hc]at z;exact x.new c o z
 |ok _ _ _=>cases h2
 |hd h3 h4 h5 h6=>cases h2;exact k _ F' H' x (.dct (.inr ⟨_,h3⟩) h4 h5 h6.2)
 |hf h3=>cases h2;exact k _ F' H' x (.fn h3)
 |otl _ _ _ _=>cases h2
def ly(K:Ad)(r:R2)(g:PyData->PyData->Option PyData):Prop:=∀(F H:J) (x y z:PyData) (v w:V) (Q:VK),Zo F H->g x y=some z->b7 K F x v->b7 K F y w->(∀u,b7 K F z u->Q u H)->r v w H Q
structure GO(X:Cx)(op:Operator)(g:PyData->PyData->Option PyData):Prop where
 ex:∃r,dj X (Cb op) r/\ly X.K r g
structure Du(X:Cx)(op:CmpOp)(g:PyData->PyData->Option PyData):Prop where
 ex:∃r,dj X (BZ op) r/\ly X.K r g
 n1:op≠.In
 n2:op≠.NotIn
theorem Hg{d:PyData}(h:HM.bZ g fa fb r=some d):∃x y,fa r=some x/\fb r=some y/\g x y=some d:=by
 unfold HM.bZ at h;split at h
 .split at h
  .exact⟨_,_,by assumption,by assumption,h⟩
  .cases h
 .cases h
theorem lZ{x y:PyData}{P:J->J->J->V->Prop}{Y:L2.St}{H:J}{Q:VK}{R:V->V->J->VK->Prop}(h:ip K r P Y H Q)(hk:∀H F2 H2 v w,Zo F2 H2->b7 K F2 x v->b7 K F2 y w->(∀u F3 H3,cf F2 H2 F3 H3->P H F3 H3 u->Q u H3)->A9 H H2->R v w H2 Q):ja R (ip K r λ_ F' _ v=>b7 K F' x v) (ip K r λ_ F' _ v=>b7 K F' y v) Y H Q:=by
 obtain⟨F0,H0,F,at_,k⟩:=h;refine⟨F0,H0,F,at_,λv F1 H1 x1 r1=>⟨F0,H0,F1,at_.grow x1,λw F2 H2 x2 r2=>?_⟩⟩;exact hk H F2 H2 v w x2.sub (r1.mono x2.ff) r2 (λu F3 H3 x3 q=>k u F3 H3 ((x1.trans x2).trans x3) q) (x1.hh.trans x2.hh)
theorem ZB{op:Operator}(o:GO X op g)(ha:XE X a fa)(hb:XE X b fb):XE X (.BinOp a op b pos) (HM.bZ g fa fb):=by intro r d h;obtain⟨x,y,h1,h2,h3⟩:=Hg h;obtain⟨R,o1,o2⟩:=o.ex;refine PE.imp (G1 o1 (ha r x h1) (hb r y h2)) λY H Q q=>?_;exact lZ q λ_ F2 H2 v w s r1 r2 k _=>o2 F2 H2 x y d v w Q s h3 r1 r2 λu ru=>k u F2 H2 (.refl s) ru
theorem G5{op:CmpOp}(o:Du X op g)(ha:XE X a fa)(hb:XE X b fb):XE X (.Compare a [op] [b] pos) (HM.bZ g fa fb):=by intro r d h;obtain⟨x,y,h1,h2,h3⟩:=Hg h;obtain⟨R,o1,o2⟩:=o.ex;refine PE.imp (OV o1 (ha r x h1) (hb r y h2) (PC _ o.n1 o.n2)) λY H Q q=>?_;exact lZ q λ_ F2 H2 v w s r1 r2 k _=>o2 F2 H2 x y d v w Q s h3 r1 r2 λu ru=>k u F2 H2 (.refl s) ru
theorem Ln{c:Bool}(h:HM.tV fa r=some c):fa r=some (.bool c):=by
 unfold HM.tV at h;split at h
 .rename_i q;cases h;exact q
 .cases h
theorem b7.bool_inv{c:Bool}{v:V}(h:b7 K F (.bool c) v):v=.bl c:=by cases h;rfl
theorem b7.int_inv{v:V}(h:b7 K F (.int i) v):v=.int i:=by cases h;rfl
theorem Co{op:CmpOp}(o:Du X op g)(ha:XE X a fa)(hb:XE X b fb):XT X (.Compare a [op] [b] pos) (HM.tV (HM.bZ g fa fb)):=by intro r d h;obtain⟨x,y,h1,h2,h3⟩:=Hg (Ln h);obtain⟨R,o1,o2⟩:=o.ex;refine PT.imp (Pg o1 (ha r x h1) (hb r y h2) (PC _ o.n1 o.n2)) λY H Q ⟨F0,H0,F,at_,k⟩=>?_;refine⟨F0,H0,F,at_,λv F1 H1 x1 r1=>⟨F0,H0,F1,at_.grow x1,λw F2 H2 x2 r2=>?_⟩⟩;refine o2 F2 H2 x y _ v w _ x2.sub h3 (r1.mono x2.ff) r2 λu ru=>?_;exact⟨d,ru.bool_inv,k F2 H2 (x1.trans x2)⟩
theorem Dz(h:XE X e fa)(he:∀cG,isTrue e X.env cG=(do let v <-cG;standAt e.pos;holding [v] (truthy v)):=by intro _;rfl):XT X e (HM.tV fa):=by intro r c hc;refine PT.imp (Uh (h r _ (Ln hc)) he) λY H Q ⟨F0,H0,F,at_,k⟩=>?_;exact⟨F0,H0,F,at_,λv F1 H1 x1 r1=>⟨c,r1.bool_inv,k F1 H1 x1⟩⟩
theorem D8{t:HM.TF}(h:XT X a t):XT X (.UnaryOp .Not a pos) (HM.CW t):=by intro r c hc;obtain⟨d,h1,h2⟩:=An.mp hc;subst h2;refine PT.imp (SO (h r d h1)) λY H Q ⟨F0,H0,F,at_,k⟩=>?_;exact⟨F0,H0,F,at_,λF1 H1 x1=>k F1 H1 x1⟩
theorem IQ{t:HM.TF}(h:XW X e t):XT X e t:=λr c hc=>(h r c hc).pt
theorem UT{t:HM.TF}(h:XT X a t):XW X (.BoolOp .And [a] pos) t:=λr c hc=>U5 (h r c hc)
theorem Lu{t:HM.TF}(h:XT X a t):XW X (.BoolOp .Or [a] pos) t:=λr c hc=>Ug (h r c hc)
theorem Pn{e:Expr}:PW X e λ_ _ _=>False:=λ_ _ _ _ _ _ _ h=>h.elim
theorem O9{e:Expr}:PE X e λ_ _ _=>False:=λ_ _ _ _ _ _ h=>h.elim
theorem TR{t:HM.TF}(ha:XT X a t)(hb:XW X (.BoolOp .And (b::rest) pos) u):XW X (.BoolOp .And (a::b::rest) pos) (HM.GZ t u):=by
 intro r c hc;unfold HM.GZ at hc;split at hc
 .rename_i q
  refine PW.imp (Oo (ha r true q) (hb r c hc)) λY H Q ⟨F0,H0,F,at_,k⟩=>?_;exact⟨F0,H0,F,at_,λF1 H1 x1=>GK ⟨F0,H0,F1,at_.grow x1,λF2 H2 x2=>k F2 H2 (x1.trans x2)⟩⟩
 .rename_i q
  cases hc;refine PW.imp (Oo (ha r false q) Pn) λY H Q ⟨F0,H0,F,at_,k⟩=>?_;exact⟨F0,H0,F,at_,λF1 H1 x1=>GV (k F1 H1 x1)⟩
 .cases hc
theorem K2{t:HM.TF}(ha:XT X a t)(hb:XW X (.BoolOp .Or (b::rest) pos) u):XW X (.BoolOp .Or (a::b::rest) pos) (HM.i9 t u):=by
 intro r c hc;unfold HM.i9 at hc;split at hc
 .rename_i q
  cases hc;refine PW.imp (Oc (ha r true q) Pn) λY H Q ⟨F0,H0,F,at_,k⟩=>?_;exact⟨F0,H0,F,at_,λF1 H1 x1=>GK (k F1 H1 x1)⟩
 .rename_i q
  refine PW.imp (Oc (ha r false q) (hb r c hc)) λY H Q ⟨F0,H0,F,at_,k⟩=>?_;exact⟨F0,H0,F,at_,λF1 H1 x1=>GV ⟨F0,H0,F1,at_.grow x1,λF2 H2 x2=>k F2 H2 (x1.trans x2)⟩⟩
 .cases hc
theorem D3{op:BoolOp}(h:XE X a fa):XE X (.BoolOp op [a] pos) fa:=λr d hd=>Sj (h r d hd)
theorem Dy(ha:XE X a fa)(hb:XE X (.BoolOp .And (b::rest) pos) fb):XE X (.BoolOp .And (a::b::rest) pos) (HM.CB fa fb):=by
 intro r d hd;unfold HM.CB at hd;split at hd
 .rename_i q
  refine PE.imp (Ot (ha r _ q) (hb r d hd)) λY H Q ⟨F0,H0,F,at_,k⟩=>?_;exact⟨F0,H0,F,at_,λv F1 H1 x1 r1=>⟨true,r1.bool_inv,GK ⟨F0,H0,F1,at_.grow x1,λw F2 H2 x2 r2=>k w F2 H2 (x1.trans x2) r2⟩⟩⟩
 .rename_i q
  cases hd;refine PE.imp (Ot (ha r _ q) O9) λY H Q ⟨F0,H0,F,at_,k⟩=>?_;exact⟨F0,H0,F,at_,λv F1 H1 x1 r1=>⟨false,r1.bool_inv,GV (k _ F1 H1 x1 (.bl false))⟩⟩
 .cases hd
theorem PX{op op':CmpOp}{g':PyData->PyData->Option PyData}(o:Du X op g)(o':Du X op' g')(ha:XE X a fa)(hb:XE X b fb)(hc:XE X c fc)(hm:lastMarks [op,op'] [b,c]=false:=by with_unfolding_all rfl):XE X (.Compare a [op,op'] [b,c] pos) (HM.QI g g' fa fb fc):=by
 intro r d hd;unfold HM.QI at hd;obtain⟨R,o1,o2⟩:=o.ex;obtain⟨R',o1',o2'⟩:=o'.ex;split at hd
 .rename_i x hx
  split at hd
  .rename_i y hy
   split at hd
   .rename_i hg
    split at hd
    .rename_i z hz
     refine PE.imp (PK o1 o1' (ha r x hx) (hb r y hy) (hc r z hz) hm) λY H Q ⟨F0,H0,F,at_,k⟩=>?_;refine⟨F0,H0,F,at_,λv F1 H1 x1 r1=>⟨F0,H0,F1,at_.grow x1,λw F2 H2 x2 r2=>?_⟩⟩;refine o2 F2 H2 x y _ v w _ x2.sub hg (r1.mono x2.ff) r2 λu ru=>?_;refine⟨true,ru.bool_inv,GK ⟨F0,H0,F2,(at_.grow x1).grow x2,λw' F3 H3 x3 r3=>?_⟩⟩;exact o2' F3 H3 y z d w w' Q x3.sub hd (r2.mono x3.ff) r3 λu' ru'=>k u' F3 H3 ((x1.trans x2).trans x3) ru'
    .cases hd
   .rename_i hg
    cases hd;refine PE.imp (PK o1 o1' (ha r x hx) (hb r y hy) O9 hm) λY H Q ⟨F0,H0,F,at_,k⟩=>?_;refine⟨F0,H0,F,at_,λv F1 H1 x1 r1=>⟨F0,H0,F1,at_.grow x1,λw F2 H2 x2 r2=>?_⟩⟩;refine o2 F2 H2 x y _ v w _ x2.sub hg (r1.mono x2.ff) r2 λu ru=>?_;exact⟨false,ru.bool_inv,GV (k _ F2 H2 (x1.trans x2) (.bl false))⟩
   .cases hd
  .cases hd
 .cases hd
theorem Zh:XA X [] HM.Zf:=by refine⟨λr ds h=>by cases h;rfl,λr ds h=>?_⟩;cases h;exact PA.imp BW λY H Q ⟨F0,H0,F,at_,k⟩=>k [] F H at_.refl .nil
theorem Zc(ha:XE X e fa)(hr:XA X es f)(hs:Ag (e::es) X.env=(false,eval e X.env)::Ag es X.env:=by rfl):XA X (e::es) (HM.O fa f):=by
 refine⟨λr ds h=>?_,λr ds h=>?_⟩
 .unfold HM.O at h
  split at h
  .obtain⟨xs,h1,h2⟩:=An.mp h
   subst h2;rw[A2,A2,hr.len r xs h1]
  .cases h
 unfold HM.O at h;split at h
 .rename_i x hx
  obtain⟨xs,h1,h2⟩:=An.mp h;subst h2;refine PA.imp (Br (ha r x hx) (hr.pa r xs h1) hs) λY H Q ⟨F0,H0,F,at_,k⟩=>?_;exact⟨F0,H0,F,at_,λv F1 H1 x1 r1=>⟨F0,H0,F1,at_.grow x1,λvs F2 H2 x2 r2=>k (v::vs) F2 H2 (x1.trans x2) (.cons (r1.mono x2.ff) r2)⟩⟩
 .cases h
theorem Cn{x1:Nat}(h:XA X es f)(hl:es.length<=100:=by exact Nat.le_of_ble_eq_true rfl):XE X (.Tuple es x1 pos) (HM.Bi f):=by
 intro r d hd;obtain⟨ds,h1,h2⟩:=An.mp hd;subst h2;refine PE.imp (SA (h.pa r ds h1)) λY H Q ⟨F0,H0,F,at_,k⟩=>⟨F0,H0,F,at_,λvs F1 H1 x1 r1=>⟨?_,λp hp=>?_⟩⟩
 .have e1:=h.len r ds h1
  have e2:=r1.1;have e3:(100:Nat)<=sizeLine:=by decide
  omega
 .have hF:F1 p=none:=x1.sub.free hp
  exact k _ (upd F1 p (.tup vs)) _ (x1.lay hp) (.tup ZA r1.1 (r1.mono (Zo.upd' hF)).2)
theorem BY(h:XA X es f)(hl:es.length<=100:=by exact Nat.le_of_ble_eq_true rfl):XF X (.List es pos) (HM.Bz f):=by
 intro r d hd;obtain⟨ds,h1,h2⟩:=An.mp hd;subst h2;refine PE.imp (SR (h.pa r ds h1)) λY H Q ⟨F0,H0,F,at_,k⟩=>⟨F0,H0,F,at_,λvs F1 H1 x1 r1=>⟨?_,λp hp=>?_⟩⟩
 .have e1:=h.len r ds h1
  have e2:=r1.1;have e3:(100:Nat)<=sizeLine:=by decide
  omega
 .have hF:F1 p=none:=x1.sub.free hp
  refine k _ F1 _ (x1.lay' hp) ⟨[p],.ol ZA r1,by simp,λa ha=>?_⟩;have:a=p:=by simpa using ha
  subst this;exact⟨hF,x1.hh.free hp⟩
end
end
section
variable{f:Addr}{fd:FuncData}{g:HM.SF}{base:Heap}{N ps:List Str}{p':Pos}{P:Program}{K:Ad}{st:Stmt}{cj x:Str}{mg:Str->Option Value}
section
variable{X:Cx}{a b c e:Expr}{fa fb fc:HM.EF}{pos p:Pos}{st:Stmt}{rest:List Stmt}{g u:HM.SF}
theorem Jx(h:X.xe=λ_ _=>False):PassesOwn (model X.prog X.w) X.A X.env X.xe:=by rw[h];exact PassesOwn.never
theorem Bs:fP X [] HM.Bv:=by intro r o h;cases h;exact dz.imp Tv λE Y H ⟨F0,H0,F,at_,k⟩=>k Y F H at_
theorem Zn(h:XS X st g):fP X [st] g:=λr o ho=>OJ (h r o ho)
theorem Zk(h1:XS X st g)(h2:fP X rest u):fP X (st::rest) (HM.Zv g u):=by
  intro r o h
  unfold HM.Zv at h
  split at h
  · rename_i r' q
    refine dz.imp (PQ (h1 r _ q) (h2 r' o h)) λE Y H ⟨F0,H0,F,at_,k⟩=>?_
    exact⟨F0,H0,F,at_,λσ' F' H' at'=>⟨F0,H0,F',at',k⟩⟩
  all_goals first
    | cases h
      rename_i q
      refine dz.imp (PQ (h1 r _ q) Md) λE Y H ⟨F0,H0,F,at_,k⟩=>?_
      exact⟨F0,H0,F,at_,k⟩
    |cases h
theorem Vg:XS X st HM.V5:=λr o h=>nomatch h
theorem ZH(h:XE X e fa):XS X (.Return (some e) pos) (HM.ZT fa):=by intro r o ho;obtain⟨d,h1,h2⟩:=An.mp ho;subst h2;refine PS.imp (SH (h r d h1)) λE Y H ⟨F0,H0,F,at_,k⟩=>?_;exact⟨F0,H0,F,at_,λv F' H' x q=>k v F' H' (at_.ext.trans x) q⟩
theorem Pl(h:XE X e fa)(hs:Ct e none pos.line X.env=pure false:=by rfl):XS X (.Expr e pos) (HM.O3 fa):=by intro r o ho;obtain⟨d,h1,h2⟩:=An.mp ho;subst h2;refine PS.imp (LC (h r d h1) hs) λE Y H ⟨F0,H0,F,at_,k⟩=>?_;exact⟨F0,H0,F,at_,λv F' H' x q=>k Y F' H' (at_.grow x)⟩
theorem Bu{t:HM.TF}{sa sb:List Stmt}(hc:XT X c t)(ha:fP X sa g)(hb:fP X sb u):XS X (.If c sa sb pos) (HM.dS t g u):=by
 intro r o ho;unfold HM.dS at ho;split at ho
 .rename_i q
  refine PS.imp (Od (hc r _ q) (ha r o ho) Md) λE Y H ⟨F0,H0,F,at_,k⟩=>?_;exact⟨F0,H0,F,at_,λF' H' x=>GK ⟨F0,H0,F',at_.grow x,k⟩⟩
 .rename_i q
  refine PS.imp (Od (hc r _ q) Md (hb r o ho)) λE Y H ⟨F0,H0,F,at_,k⟩=>?_;exact⟨F0,H0,F,at_,λF' H' x=>GV ⟨F0,H0,F',at_.grow x,k⟩⟩
 .cases ho
theorem Ls(i:Nat)(h:XS X st g):XS X st (HM.IU i g):=by intro r o ho;refine PS.imp (h (HM.YC i r) o ho) λE Y H ⟨F0,H0,F,at_,k⟩=>?_;obtain⟨F',_,_,a'⟩:=at_.freeze i;exact⟨F0,H0,F',a',k⟩
theorem ZR(i:Nat)(hN:X.N.Nodup)(h:XE X e fa)(hi:X.N[i]?=some x:=by rfl)(hx:Loc X.env.scope x:=by first|exact AJ rfl|exact Ar rfl)(hs:Ct e (some (.Name x p')) pos.line X.env=pure false:=by rfl)(hf:X.fn x=true\/X.env.scope.names.lookup x=some .local:=by first|exact .inl rfl|exact .inr rfl):XS X (.Assign [.Name x p'] e pos) (HM.ZS i fa):=by
 intro r o ho;obtain⟨d,h1,h2⟩:=An.mp ho;subst h2;refine PS.imp (Og hN hi hx (h r d h1) hs hf) λE Y H ⟨F0,H0,F,at_,k⟩=>?_;exact⟨F0,H0,F,at_,λv F' H' x q=>k _ F' H' ((at_.grow x).set q)⟩
theorem BG(i:Nat){f:HM.BF}(hN:X.N.Nodup)(h:XF X e f)(hi:X.N[i]?=some x:=by rfl)(hx:Loc X.env.scope x:=by first|exact AJ rfl|exact Ar rfl)(hs:Ct e (some (.Name x p')) pos.line X.env=pure false:=by rfl)(hf:X.fn x=true\/X.env.scope.names.lookup x=some .local:=by first|exact .inl rfl|exact .inr rfl):XS X (.Assign [.Name x p'] e pos) (HM.AY i f):=by
 intro r o ho;obtain⟨d,h1,h2⟩:=An.mp ho;subst h2;refine PS.imp (Og hN hi hx (h r d h1) hs hf) λE Y H ⟨F0,H0,F,at_,k⟩=>?_;exact⟨F0,H0,F,at_,λv F' H' x ⟨fp,q,nd,hn⟩=>k _ F' H' ((at_.grow x).storeNew at_ x.hh q nd hn)⟩
theorem D2(i:Nat){iter:Expr}{body:List Stmt}{fi:HM.IF}(hN:X.N.Nodup)(dZ:X.xe=λ_ _=>False)(hc:X.calm=true)(hi:XI X (.Name x p') iter fi)(hb:fP X body g)(kU:X.N[i]?=some x:=by rfl)(hx:Loc X.env.scope x:=by first|exact AJ rfl|exact Ar rfl)(hf:X.fn x=true\/X.env.scope.names.lookup x=some .local:=by first|exact .inl rfl|exact .inr rfl)(hs:∀x,Cz iter X.env x=pure x:=by intro _;rfl):XS X (.For (.Name x p') iter body [] pos) (HM.CV i fi g):=by
 intro r o ho;unfold HM.CV at ho;split at ho
 .rename_i ds cI
  split at ho
  .rename_i d9
   have pb:dz X body (λE Y H=>∃r o,g r=some o/\iS X.K r o E Y H):=λbT s Y H E I ⟨r,o,h1,h2⟩=>hb r o h1 bT s Y H E I h2;refine PS.imp (Lf (Jx dZ) hc (hi r ds cI) (CF hN kU hx hf) pb hs) λE Y H ⟨F0,H0,F,at_,k⟩=>?_;refine⟨F0,H0,F,at_,λpA F1 H1 x1 it=>?_⟩;refine⟨λn m Y H=>∃F r,At X.K F0 H0 F H r Y/\Zo F1 F/\n+m=ds.length/\HM.BN i g (ds.drop n) r=some o,⟨ds.length,F1,r,at_.grow x1,Zo.refl _,by omega,ho⟩,?_⟩
   rintro n m Y H ⟨F2,r2,di,s2,hn,go⟩
   obtain⟨fR,fQ⟩:=it F2 H s2 di.sub;cases m with
   |zero =>
    have e:n=ds.length:=by omega
    subst e;rw[Iz]at go;cases go;exact .inl ⟨fQ,k Y F2 H di⟩
   |succ m =>
    have cq:n<ds.length:=by omega
    rw[GI cq]at go;obtain⟨j1,j2⟩:=fR n ds[n] (AB cq);refine .inr ⟨j1,λσ' H'=>∃F r,At X.K F0 H0 F H' r σ'/\Zo F1 F/\HM.BN i g (ds.drop (n+1)) r=some o,λσ' H' ⟨F,r,a1,a2,a3⟩=>⟨m,by omega,F,r,a1,a2,by omega,a3⟩,λy H' hy=>?_⟩;obtain⟨e1,ry⟩:=j2 y H' hy;subst e1;obtain⟨F3,cU,s3,ry⟩:∃F3,At X.K F0 H0 F3 H' r2 Y/\Zo F1 F3/\b7 X.K F3 ds[n] y:=⟨_,di.grow di.refl.tups,s2.trans (BE di.sub),ry⟩;have a3:=cU.set (i:=i) ry;have a4:=a3.rebase;unfold HM.BN at go;split at go
    .rename_i r' hr
     exact⟨_,_,hr,F3,H0,F3,a4,λσ' F' H' a'=>⟨F',r',a'.unbase cU.ext cU.nt0,s3.trans a'.ext.ff,go⟩⟩
    .rename_i r' hr
     exact⟨_,_,hr,F3,H0,F3,a4,λσ' F' H' a'=>⟨F',r',a'.unbase cU.ext cU.nt0,s3.trans a'.ext.ff,go⟩⟩
    .rename_i r' hr
     cases go;exact⟨_,_,hr,F3,H0,F3,a4,λσ' F' H' a'=>k σ' F' H' (a'.unbase cU.ext cU.nt0)⟩
    .rename_i d hr
     cases go;exact⟨_,_,hr,F3,H0,F3,a4,λv F' H' x q=>k v F' H' (cU.ext.unbase x) q⟩
    .cases go
  .cases ho
 .cases ho
end
def spD(K:Ad)(n:Nat)(M:List PyData->Option PyData):Sp:=λvs H Q _=>∃F ds d,vs.length=n/\Zo F H/\Tb H/\fu F/\Zs K F ds vs/\M ds=some d/\∀v F' H',cf F H F' H'->b7 K F' d v->Q v H'
structure Callee(P:Program)(w:World)(K:Ad)(mg:Str->Option Value)(base:Heap)(k:Nat)(x:Str)(M:List PyData->Option PyData):Prop where
 ex:∃f fd ps,(∀ds d,M ds=some d->ds.length=ps.length)/\BK P w K mg base fw k f fd ps (spD K ps.length M)/\mg x=some (.ref f)/\Fj K (.ref f)=true/\Binds K fd ps []
theorem Callee.mono{P:Program}{w:World}{K:Ad}{mg:Str->Option Value}{base:Heap}{j k:Nat}{x:Str}{M:List PyData->Option PyData}(C:Callee P w K mg base j x M)(h:j<=k):Callee P w K mg base k x M:=by obtain⟨f,fd,ps,l,F,r⟩:=C.ex;exact⟨f,fd,ps,l,F.mono h,r⟩
section
variable{X:Cx}{pos p:Pos}{e:Expr}{es:List Expr}{f:HM.AF}
theorem Zl{k:Nat}{M:List PyData->Option PyData}(C:Callee X.prog X.w X.K X.mg X.base k x M)(hr:AL k X.A)(ha:XA X (e::es) f)(hg:Gl X x:=by rfl)(fU:(x==("__debug__":Str))=false:=by decide)(he:Ag (e::es) X.env=(false,eval e X.env)::Ag es X.env:=by rfl)(hpl:(backTo pos (Ag es X.env)).any (·.1)=false:=by rfl):XE X (.Call (.Name x p) (e::es) [] pos) (HM.Ze M f):=by
 intro r d hd;unfold HM.Ze at hd;split at hd
 .rename_i ds cI
  obtain⟨fa,fd,ps,hl,F,hm,hk,hb⟩:=C.ex;refine PE.imp (Tu (E:=E0) F hr hg hm hk hb .nil RX (ha.pa r ds cI) fU he hpl) λY H Q ⟨F0,H0,F1,at_,k⟩=>?_;refine⟨F0,H0,F1,at_,λvs F' H' x q=>?_⟩;show spD X.K ps.length M (vs++[]) H' Q E0;rw[B1];exact⟨F',ds,d,by rw[<-q.1];exact hl ds d hd,x.sub,at_.tbx x,at_.ntx x,q,hd,λv F2 H2 x2 q2=>k v F2 H2 (x.trans x2) q2⟩
 .cases hd
end
theorem VL{F H:J}{ds:List PyData}{vs:List V}(s:Zo F H)(tb:Tb H)(nt:fu F)(q:Zs K F ds vs)(hl:ds.length<=N.length):At K F H F H (HM.YX N.length ds) (L2.start N vs):=by
 have hv:=q.1;refine⟨λ_=>[],.refl s,?_,λi b h=>?_,λ_ _=>rfl,λi a h=>by simp at h,λ_=>Dr,λi j a _ h=>by simp at h,tb,nt⟩
 .unfold HM.YX L2.start
  rw[Az,Az,Ae,Ae,Bh,Bh,hv]
 .unfold HM.YX at h
  by_cases hi:i<ds.length
  .rw[Cd (by rw[Ae];exact hi),AQ,AB hi]at h
   cases h;obtain⟨v,h1,h2⟩:=q.get (AB hi);refine⟨v,?_,.pl h2⟩;unfold L2.start;rw[Cd (by rw[Ae,<-hv];exact hi),AQ,h1];rfl
  .rw[Ce (by rw[Ae];omega),Gu]at h
   split at h<;>cases h
theorem ON{w:World}{k:Nat}(Fn:gs K x cj st f fd)(pw:Zy N ps (Zi st))(body:∀(cm:Value) (A:Around) (outer:List Env) (s:Shared) (H:J) (E:XK),AL k (A.deeper (envOfC cj (Zi st) s.heap.objs.size f cm))->fP (Dv fw P w K mg base N cj (Zi st) f cm A outer s H E).nox (CC st) g):BK P w K mg base fw (k+1) f fd ps (spD K ps.length (HM.fnOf ps.length N.length g)):=by
 have hpl:ps.length<=N.length:=by have:=congrArg A5 pw.pre;rw[Fe]at this;omega
 refine Fn.ok pw (λvs H Q E h=>?_) (λcm A outer s H vs Q E hr h=>?_)
 .obtain⟨_,_,_,h,_⟩:=h
  exact h
 .obtain⟨F,ds,d,hl,sub,tb,nt,q,hM,kk⟩:=h
  unfold HM.fnOf at hM;split at hM
  .rename_i cI
   have a0:=VL (N:=N) sub tb nt q (by omega);split at hM
   .rename_i r hr'
    cases hM;exact⟨_,body cm A outer s H E hr _ _ hr',F,H,F,a0,λY F' H' a'=>kk .non F' H' a'.ext .non⟩
   .rename_i d' hr'
    cases hM;exact⟨_,body cm A outer s H E hr _ _ hr',F,H,F,a0,λv F' H' x q=>kk v F' H' x q⟩
   .cases hM
  .cases hM
theorem Vu{w:World}{k:Nat}(Fn:gs K x cj st f fd)(pw:Zy N ps (Zi st))(hm:mg x=some (.ref f))(hb:Binds K fd ps [])(body:∀(cm:Value) (A:Around) (outer:List Env) (s:Shared) (H:J) (E:XK),AL k (A.deeper (envOfC cj (Zi st) s.heap.objs.size f cm))->fP (Dv fw P w K mg base N cj (Zi st) f cm A outer s H E).nox (CC st) g):Callee P w K mg base (k+1) x (HM.fnOf ps.length N.length g):=by
 refine⟨f,fd,ps,λds d h=>?_,ON Fn pw body,hm,Fn.kp,hb⟩;unfold HM.fnOf at h;split at h
 .assumption
 .cases h
end
section
variable{q:HM.B}{F H:J}{ds:List PyData}{K:Ad}
section
variable{X:Cx}{a b c e:Expr}{fa fb fc:HM.EF}{pos p:Pos}
theorem Hn{h:Int->Int->Option PyData}{x y z:PyData}(e:HM.Dx h x y=some z):∃i j,x=.int i/\y=.int j/\h i j=some z:=by
 unfold HM.Dx at e;split at e
 .exact⟨_,_,rfl,rfl,e⟩
 .cases e
theorem GP{g:Int->Int->V}{h:Int->Int->PyData}(hr:∀F i j,b7 K F (h i j) (g i j)):ly K (g0 g) (HM.Dx λi j=>some (h i j)):=by intro F H x y z v w Q s e r1 r2 k;obtain⟨i,j,rfl,rfl,e⟩:=Hn e;cases e;exact⟨i,j,r1.int_inv,r2.int_inv,k _ (hr F i j)⟩
theorem AS:GO X .Add HM.Ay:=⟨_,SS,GP λ_ _ _=>.int _⟩
theorem K0:GO X .Sub HM.GX:=⟨_,Sm,GP λ_ _ _=>.int _⟩
theorem B7:GO X .Mult HM.Bc:=by
 refine⟨_,SV,λF H x y z v w Q s e r1 r2 k=>?_⟩;obtain⟨i,j,rfl,rfl,e'⟩:=Hn e;split at e'
 .rename_i hs
  cases e';refine⟨i,j,r1.int_inv,r2.int_inv,?_,k _ (.int _)⟩;unfold HM.ZL at hs;rw[DX,Ei,Ei]at hs;unfold IT;omega
 .cases e'
theorem fZ:GO X .Mod HM.Ck:=by
 refine⟨_,Ud,λF H x y z v w Q s e r1 r2 k=>?_⟩;obtain⟨i,j,rfl,rfl,e'⟩:=Hn e;split at e'
 .rename_i hs
  cases e';exact⟨i,j,r1.int_inv,r2.int_inv,hs,k _ (.int _)⟩
 .cases e'
theorem kj:Du X .Lt HM.jw:=⟨⟨_,RP,GP λ_ _ _=>.bl _⟩,by decide,by decide⟩
theorem kl:Du X .LtE HM.kg:=⟨⟨_,RK,GP λ_ _ _=>.bl _⟩,by decide,by decide⟩
theorem lq:Du X .Gt HM.jx:=⟨⟨_,RO,GP λ_ _ _=>.bl _⟩,by decide,by decide⟩
theorem Mk{h:Heap}:∀{ds:List PyData} {us:List Value},ds.length=us.length->(∀(i:Nat) d u,ds[i]?=some d->us[i]?=some u->∃as,Reads h u d as)->∃as,ReadsAll h us ds as
 |[],[],_,_=>⟨[],.nil⟩
 |[],_::_,hl,_=>by simp at hl
 |_::_,[],hl,_=>by simp at hl
 |d::ds,u::us,hl,k=>by obtain⟨as,h1⟩:=k 0 d u rfl rfl;obtain⟨bs,h2⟩:=Mk (ds:=ds) (us:=us) (by simpa using hl) λi d u e1 e2=>k (i+1) d u (by simpa using e1) (by simpa using e2);exact⟨_,.cons h1 h2⟩
theorem O2:∀{ds:List PyData},GD ds=true->∀{i:Nat} {d:PyData},ds[i]?=some d->d.canLay0=true
 |[],_,i,d,e=>by simp at e
 |x::ds,h,i,d,e=>by
  have h':(x.canLay0&&GD ds)=true:=h;rw[Bw]at h';cases i with
  |zero=>rw[DV]at e;cases e;exact h'.1
  |succ i=>rw[Bo]at e;exact O2 h'.2 e
theorem Px(h:GD ds=true){i:Nat}{d:PyData}(e:ds[i]?=some d):d.canLay0=true:=O2 h e
theorem b7.reads{bT:List (Addr×Obj)}{s:Shared}{Y:L2.St}{d:PyData}{v:V}(I:Inv X bT Y H s)(sub:Zo F H)(r:b7 X.K F d v):d.canLay0=true->∀u,RelV v u->∃as,Reads s.heap u d as:=by
 induction r with
 |non=>intro _ u ru;cases ru;exact⟨[],.none⟩
 |bl b=>intro _ u ru;cases ru;exact⟨[],.bool b⟩
 |int i=>intro _ u ru;obtain⟨t,rfl⟩:=ru;exact⟨[],.int i t⟩
 |str x=>intro _ u ru;obtain⟨t,rfl⟩:=ru;exact⟨[],.str x t⟩
 |dct _ _ _ _ _=>intro z;cases z
 |fn _=>intro z;cases z
 | @tupk a x h=>intro z u ru;cases ru;obtain⟨its,rv,⟨o,ho,hc,n,hd⟩,_⟩:=I.tuple (.inr h);obtain⟨u,rfl,t,rfl⟩:=rv.one;exact⟨_,.tuple ho hc hd (by simpa using ReadsAll.cons (.str x t) .nil)⟩
 | @tup a ds vs h hl _ ih =>
  intro z u ru;cases ru;obtain⟨its,rv,⟨o,ho,hc,n,hd⟩,_⟩:=I.tuple (.of (sub _ _ h));obtain⟨as,hr⟩:=Mk (h:=s.heap) (ds:=ds) (us:=its) (hl.trans rv.length) λi d u e1 e2=>by
   have hi:i<vs.length:=by rw[<-hl];exact(AE.mp e1).1
   obtain⟨u',q1,q2⟩:=rv.get (AB hi);rw[e2]at q1;cases q1;exact ih i d _ e1 (AB hi) (Px z e1) u q2
  exact⟨_,.tuple ho hc hd (by simpa using hr)⟩
 | @lst a ds vs h hl _ ih =>
  intro z u ru;cases ru;obtain⟨its,rv,⟨o,n,ho,hc,_,hd⟩,_⟩:=I.list (sub.seq h);obtain⟨as,hr⟩:=Mk (h:=s.heap) (ds:=ds) (us:=its) (hl.trans rv.length) λi d u e1 e2=>by
   have hi:i<vs.length:=by rw[<-hl];exact(AE.mp e1).1
   obtain⟨u',q1,q2⟩:=rv.get (AB hi);rw[e2]at q1;cases q1;exact ih i d _ e1 (AB hi) (Px z e1) u q2
  exact⟨_,.list ho hc hd (by simpa using hr)⟩
def N3(K:Ad)(g6:Bool):R2:=λv w H Q=>∃F x y,Zo F H/\b7 K F x v/\b7 K F y w/\HM.DD x=true/\HM.DD y=true/\Q (.bl (if g6 then !PyData.eqv x y else Fd x y)) H
theorem Jt{d:PyData}(h:HM.DD d=true):d.canLay0=true/\d.depth<=60:=by unfold HM.DD at h;simpa using h
theorem RC{k:Nat}(hr:AL k X.A):dj X (BZ .Eq) (N3 X.K false):=by intro bT s Y H v w u u' Q I r1 r2 ⟨F,x,y,sub,q1,q2,p1,p2,q⟩;obtain⟨a1,a2⟩:=Jt p1;obtain⟨b1,b2⟩:=Jt p2;obtain⟨as,h1⟩:=q1.reads I sub a1 u r1;obtain⟨bs,h2⟩:=q2.reads I sub b1 u' r2;refine PySem.SeqAt.eqOverData X.prog X.w X.A X.xe s u u' x y as bs _ h1 h2 a1 b1 ?_ ⟨.bl _,H,I,rfl,q⟩;have:=hr.un;have:min x.depth y.depth<=60:=Ba (Nat.min_le_left _ _) a2;omega
theorem RE{k:Nat}(hr:AL k X.A):dj X (BZ .NotEq) (N3 X.K true):=by intro bT s Y H v w u u' Q I r1 r2 ⟨F,x,y,sub,q1,q2,p1,p2,q⟩;obtain⟨a1,a2⟩:=Jt p1;obtain⟨b1,b2⟩:=Jt p2;obtain⟨as,h1⟩:=q1.reads I sub a1 u r1;obtain⟨bs,h2⟩:=q2.reads I sub b1 u' r2;refine PySem.SeqAt.neOverData X.prog X.w X.A X.xe s u u' x y as bs _ h1 h2 a1 b1 ?_ ⟨.bl _,H,I,rfl,q⟩;have:=hr.un;have:min x.depth y.depth<=60:=Ba (Nat.min_le_left _ _) a2;omega
theorem gI{k:Nat}(hr:AL k X.A):Du X .Eq HM.dU:=by
 refine⟨⟨_,RC hr,λF H x y z v w Q s e r1 r2 k=>?_⟩,by decide,by decide⟩;unfold HM.dU at e;split at e
 .rename_i hp
  cases e;rw[Bw]at hp;exact⟨F,x,y,s,r1,r2,hp.1,hp.2,k _ (.bl _)⟩
 .cases e
theorem oT{k:Nat}(hr:AL k X.A):Du X .NotEq HM.jv:=by
 refine⟨⟨_,RE hr,λF H x y z v w Q s e r1 r2 k=>?_⟩,by decide,by decide⟩;unfold HM.jv at e;split at e
 .rename_i hp
  cases e;rw[Bw]at hp;exact⟨F,x,y,s,r1,r2,hp.1,hp.2,k _ (.bl _)⟩
 .cases e
theorem Jq{v:V}{fp:List Addr}(sub:Zo F H)(r:Z8 K F H q v fp)(h:HM.G9 q=some ds):∃a vs,v=.ref a/\(cF K H a vs\/da K H a vs)/\Zs K F ds vs:=by
 cases r with
 |pl r =>
  cases r with
  |tup h1 h2 h3=>cases h;exact⟨_,_,rfl,.inr (.of (sub _ _ h1)),h2,h3⟩
  | @tupk a x h1=>cases h;exact⟨_,_,rfl,.inr (.inr h1),.one (.str x)⟩
  |lst h1 h2 h3=>cases h;exact⟨_,_,rfl,.inl (sub.seq h1),h2,h3⟩
  |dct _ _ _ _=>cases h
  |fn _=>cases h
  |non=>cases h
  |bl _=>cases h
  |int _=>cases h
  |str _=>cases h
 |ol h1 r=>cases h;exact⟨_,_,rfl,.inl (.of h1),r⟩
 |ok _ _ _=>cases h
 |hd _ _ _ _=>cases h
 |hf _=>cases h
 |ot _ _ _=>cases h
 |otl _ _ _ _=>cases h
theorem Te{vs:List V}{i:Int}{d:PyData}(r:Zs K F ds vs)(h:HM.eR ds i=some d):∃v,iF vs i=some v/\b7 K F d v:=by
 unfold HM.eR at h;split at h
 .rename_i j hj
  obtain⟨v,h1,h2⟩:=r.get h;refine⟨v,?_,h2⟩;unfold iF;rw[<-r.1,show fK ds.length i=some j from hj];exact h1
 .cases h
theorem Z1{fb':HM.BF}(ha:XB X a fb')(hb:XE X b fb)(hs:OU b:=by intro _ _;rfl):XE X (.Subscript a b pos) (HM.b0 fb' fb):=by
 intro r d h;unfold HM.b0 at h;split at h
 .rename_i x hx
  split at h
  .rename_i ds cI
   split at h
   .rename_i i hi
    refine PE.imp (RQ Su (ha r x hx) (hb r _ hi) hs) λY H Q ⟨F0,H0,F,at_,k⟩=>?_;refine⟨F0,H0,F,at_,λv F1 H1 x1 ⟨fp,r1⟩=>⟨F0,H0,F1,at_.grow x1,λw F2 H2 x2 r2=>?_⟩⟩;obtain⟨l,vs,e1,hq,rs⟩:=Jq x2.sub (r1.mono x2.ff λ_ _ _ z=>x2.hh _ _ z) cI;obtain⟨u,hu,ru⟩:=Te rs h;have cN:=k u F2 H2 (x1.trans x2) ru;rcases hq with hq|hq
    .exact .inl ⟨l,vs,i,u,e1,r2.int_inv,hq,hu,cN⟩
    .exact .inr (.inl ⟨l,vs,i,u,e1,r2.int_inv,hq,hu,cN⟩)
   .cases h
  .cases h
 .cases h
def oV(X:Cx)(e:Expr)(r:HM.Env)(q:HM.B):Prop:=PA X [e] λY H Q=>fH X.K r Y H λF0 H0 F=>∀v fp F' H',cf F H F' H'->Z8 X.K F' H' q v fp->Q [v] H'
theorem EJ{f:HM.BF}{r:HM.Env}(ha:XB X e f)(h:f r=some q)(hs:Ag [e] X.env=[(false,eval e X.env)]:=by rfl):oV X e r q:=by refine PA.imp (Br (ha r q h) BW hs) λY H Q ⟨F0,H0,F,at_,k⟩=>?_;exact⟨F0,H0,F,at_,λv F1 H1 x1 ⟨fp,r1⟩=>k v fp F1 H1 x1 r1⟩
end
end
theorem Uj:Be "all"=some (.builtin "all"):=by decide +kernel
theorem Oq:Be "len"=some (.builtin "len"):=by decide +kernel
theorem OB:Be "max"=some (.builtin "max"):=by decide +kernel
theorem So:Be "min"=some (.builtin "min"):=by decide +kernel
theorem Qt:Be "sorted"=some (.builtin "sorted"):=by decide +kernel
theorem X5:Be "isinstance"=some (.builtin "isinstance"):=by decide +kernel
theorem Lb:Be "int"=some (.type "int"):=by decide +kernel
theorem To:Be "bool"=some (.type "bool"):=by decide +kernel
theorem Tt:Be "list"=some (.type "list"):=by decide +kernel
theorem L3:Be "tuple"=some (.type "tuple"):=by decide +kernel
theorem Sw:Be "set"=some (.type "set"):=by decide +kernel
section
variable{X:Cx}{a b c e:Expr}{fa fb fc:HM.EF}{pos p:Pos}{f:HM.BF}
theorem D1(hm:X.mg "len"=none)(ha:XB X a f)(hg:Gl X "len":=by rfl)(hs:Ag [a] X.env=[(false,eval a X.env)]:=by rfl):XE X (.Call (.Name "len" p) [a] [] pos) (HM.B6 f):=by
 intro r d h;unfold HM.B6 at h;split at h
 .rename_i x hx
  obtain⟨n,h1,h2⟩:=An.mp h;subst h2;refine PE.imp (DC (X3.or V7) hg hm Oq (EJ ha hx hs) (he:=hs)) λY H Q ⟨F0,H0,F,at_,k⟩=>?_;refine⟨F0,H0,F,at_,λv fp F1 H1 x1 r1=>?_⟩;have cN:=λ(m:Nat) (e:m=n)=>k (.int m) F1 H1 x1 (by rw[e];exact .int _);cases r1 with
  |pl q =>
   cases q with
   |tup q1 q2 q3=>cases h1;exact .inl ⟨_,_,rfl,.inr (.of (x1.sub _ _ q1)),cN _ q2.symm⟩
   |tupk q1=>cases h1;exact .inl ⟨_,_,rfl,.inr (.inr q1),cN _ rfl⟩
   |lst q1 q2 q3=>cases h1;exact .inl ⟨_,_,rfl,.inl (x1.sub.seq q1),cN _ q2.symm⟩
   |dct _ _ _ _=>cases h1
   |fn _=>cases h1
   |non=>cases h1
   |bl _=>cases h1
   |int _=>cases h1
   |str _=>cases h1
  |ol q1 q2=>cases h1;exact .inl ⟨_,_,rfl,.inl (.of q1),cN _ q2.1.symm⟩
  |ok q1 q2 q3=>cases h1;refine .inr ⟨_,_,rfl,q1,cN _ ?_⟩;have:=congrArg A5 q2;rw[Ae,Ae]at this;exact this.symm
  |ot _ _ _=>cases h1
  |otl _ _ _ _=>cases h1
  |hd _ _ _ _=>cases h1
  |hf _=>cases h1
 .cases h
theorem ZD(hm:X.mg "tuple"=none)(ha:XB X a f)(hg:Gl X "tuple":=by rfl)(hs:Ag [a] X.env=[(false,eval a X.env)]:=by rfl):XE X (.Call (.Name "tuple" p) [a] [] pos) (HM.Zr f):=by
 intro r d h;unfold HM.Zr at h;split at h
 .rename_i x hx
  obtain⟨ds,h1,h2⟩:=An.mp h;subst h2;refine PE.imp (EZ X8 hg hm L3 (EJ ha hx hs) (he:=hs)) λY H Q ⟨F0,H0,F,at_,k⟩=>?_;refine⟨F0,H0,F,at_,λv fp F1 H1 x1 r1=>?_⟩;have new:∀(vs:List V),Zs X.K F1 ds vs->∀l,H1 l=none->Q (.ref l) (upd H1 l (.tup vs)):=λvs q l hl=>k _ (upd F1 l (.tup vs)) _ (x1.lay hl) (.tup ZA q.1 (q.mono (Zo.upd' (x1.sub.free hl))).2);cases r1 with
  |pl q =>
   cases q with
   |tup q1 q2 q3=>cases h1;exact⟨_,_,rfl,.inr ⟨.of (x1.sub _ _ q1),k _ F1 H1 x1 (.tup q1 q2 q3)⟩⟩
   |tupk q1=>cases h1;exact⟨_,_,rfl,.inr ⟨.inr q1,k _ F1 H1 x1 (.tupk q1)⟩⟩
   |lst q1 q2 q3=>cases h1;exact⟨_,_,rfl,.inl ⟨x1.sub.seq q1,new _ ⟨q2,q3⟩⟩⟩
   |dct _ _ _ _=>cases h1
   |fn _=>cases h1
   |non=>cases h1
   |bl _=>cases h1
   |int _=>cases h1
   |str _=>cases h1
  |ol q1 q2=>cases h1;exact⟨_,_,rfl,.inl ⟨.of q1,new _ q2⟩⟩
  |ok _ _ _=>cases h1
  |ot _ _ _=>cases h1
  |otl _ _ _ _=>cases h1
  |hd _ _ _ _=>cases h1
  |hf _=>cases h1
 .cases h
theorem FI{K:Ad}{F H F1 H1:J}{ds:List PyData}{vs:List V}{l:Addr}{P:V->J->J->Prop}(x1:cf F H F1 H1)(q:Zs K F1 ds vs)(hl:H1 l=none)(k:∀v F' H',cf F H F' H'->(∃fp,Z8 K F' H' (.ol ds) v fp/\fp.Nodup/\∀a∈fp,F' a=none/\H a=none)->P v F' H'):P (.ref l) F1 (upd H1 l (.lst vs)):=by
 refine k _ F1 _ (x1.lay' hl) ⟨[l],.ol ZA q,by simp,λa ha=>?_⟩;have:a=l:=by simpa using ha
 subst this;exact⟨x1.sub.free hl,x1.hh.free hl⟩
theorem Qk(hm:X.mg "list"=none)(ha:XB X a f)(hg:Gl X "list":=by rfl)(hs:Ag [a] X.env=[(false,eval a X.env)]:=by rfl):XF X (.Call (.Name "list" p) [a] [] pos) (HM.Hz f):=by
 intro r d h;unfold HM.Hz at h;split at h
 .rename_i x hx
  obtain⟨ds,h1,h2⟩:=An.mp h;subst h2;refine PE.imp (EZ Xi hg hm Tt (EJ ha hx hs) (he:=hs)) λY H Q ⟨F0,H0,F,at_,k⟩=>?_;refine⟨F0,H0,F,at_,λv fp F1 H1 x1 r1=>?_⟩;obtain⟨l,vs,e1,hq,rs⟩:=Jq x1.sub r1 h1;subst e1;exact⟨l,vs,rfl,hq,λl' hl'=>FI (P:=λv _ H'=>Q v H') x1 rs hl' k⟩
 .cases h
theorem QB{K:Ad}{F:J}:∀{ds:List PyData} {vs:List V} {bs:List Bool},HM.FD ds=some bs->Zs K F ds vs->vs=bs.map V.bl
 |[],vs,bs,h,r=>by cases h;exact r.nil_inv
 |d::ds,vs,bs,h,r=>by
  obtain⟨v,us,rfl,r1,r2⟩:=r.cons_inv;cases d with
  |bool b=>obtain⟨bs',h1,h2⟩:=An.mp h;subst h2;rw[r1.bool_inv,QB h1 r2];rfl
  |none=>cases h
  |int _=>cases h
  |str _=>cases h
  |list _=>cases h
  |tuple _=>cases h
  |dict _=>cases h
end
section
variable{p2:Pos}
section
variable{X:Cx}{a b c e:Expr}{fa fb fc:HM.EF}{pos p:Pos}{f:HM.BF}
theorem Xr:∀{bs:List Bool} {us:List Value},bW (bs.map V.bl) us->LSm.BoolsAre us bs:=by
 intro bs
 induction bs with
 |nil=>intro us r;rw[Fq]at r;cases r;exact .nil
 |cons b bs ih =>
  intro us r;rw[Am]at r;cases r with
  |cons r1 r2=>cases r1;exact .cons b (ih r2)
theorem Sr{A:Around}{s:Shared}{l:Addr}{vs:List Value}{bs:List Bool}{dflt:Bool}(hh:A.handled=none)(hl:s.heap.IsList l vs.toArray)(hb:LSm.BoolsAre vs bs){E:Value->Shared->Prop}{Q:Value->Shared->Prop}{prog:Program}{w:World}(h:∀it fp wr (P:Nat->Value->Prop) St,Walks prog w A it fp wr vs.length P St->St 0 (s.heap.push {cls:=.type "list_iterator",data:=.fields #[.ref l,rawInt 0]})->TruthOf prog w A P (λi=>(bs[i]?).getD dflt)->wr=[s.heap.objs.size]->it=s.heap.objs.size->Q (.ref it) {s with heap:=s.heap.push {cls:=.type "list_iterator",data:=.fields #[.ref l,rawInt 0]}}):wpAny (model prog w) A (pyIter (.ref l)) Q E s:=by
 have cq:l<s.heap.objs.size:=let ⟨_,e,_⟩:=hl;Ah e
 refine J9 hl ?_;have W:=Walks.list (prog:=prog) (w:=w) hh s.heap.objs.size l (Al cq) vs.toArray;rw[Aw]at W;refine h _ _ _ _ _ W ⟨⟨_,AA _ rfl,rfl,rfl⟩,hl.push _⟩ (λi v s' Q' E' hP hQ=>?_) rfl rfl;obtain⟨b,e,rfl⟩:=hb.get i v (by simpa using hP);simp only[e,Option.getD_some]at hQ;exact DS hQ
theorem WD(hc:X.calm=true):AK X (.builtin "all") (λxs H Q=>∃(p:Addr) (bs:List Bool),xs=[.ref p]/\cF X.K H p (bs.map V.bl)/\Q (.bl (bs.all id)) H):=by intro bT s Y H xs us Q I r h;obtain⟨p,bs,rfl,hq,q⟩:=h;obtain⟨u,rfl,rx⟩:=vals1 r;cases rx;obtain⟨its,rv,pl,hz⟩:=I.list hq;have hb:=Xr rv;refine call_all_walk (Sr (dflt:=true) (A:=X.A.in1) (I.ok.hd hc) pl.isList hb λit fp wr P St W st tr e1 e2=>?_);subst e1 e2;refine⟨_,_,_,_,P,St,_,rfl,W,st,tr,λh' tk hk=>?_⟩;rw[hb.length,LSm.range_all bs];exact⟨.bl _,H,I.kept (LSm.kept_iter hk),rfl,q⟩
theorem Hm{K:Ad}{F H:J}{q:HM.B}{v:V}{fp:List Addr}{ds:List PyData}(sub:Zo F H)(r:Z8 K F H q v fp)(h:HM.IV q=some ds):∃a vs,v=.ref a/\cF K H a vs/\Zs K F ds vs:=by
 cases r with
 |pl r =>
  cases r with
  |lst h1 h2 h3=>cases h;exact⟨_,_,rfl,sub.seq h1,h2,h3⟩
  |dct _ _ _ _=>cases h
  |fn _=>cases h
  |tupk _=>cases h
  |tup _ _ _=>cases h
  |non=>cases h
  |bl _=>cases h
  |int _=>cases h
  |str _=>cases h
 |ol h1 r=>cases h;exact⟨_,_,rfl,.of h1,r⟩
 |ok _ _ _=>cases h
 |hd _ _ _ _=>cases h
 |hf _=>cases h
 |ot _ _ _=>cases h
 |otl _ _ _ _=>cases h
theorem Jj(hm:X.mg "all"=none)(hc:X.calm=true)(ha:XB X a f)(hg:Gl X "all":=by rfl)(hs:Ag [a] X.env=[(false,eval a X.env)]:=by rfl):XE X (.Call (.Name "all" p) [a] [] pos) (HM.Jc f):=by
 intro r d h;unfold HM.Jc at h;split at h
 .rename_i x hx
  split at h
  .rename_i ds cI
   obtain⟨bs,h1,h2⟩:=An.mp h;subst h2;refine PE.imp (DC (WD hc) hg hm Uj (EJ ha hx hs) (he:=hs)) λY H Q ⟨F0,H0,F,at_,k⟩=>?_;refine⟨F0,H0,F,at_,λv fp F1 H1 x1 r1=>?_⟩;obtain⟨l,vs,e1,hq,rs⟩:=Hm x1.sub r1 cI;rw[QB h1 rs]at hq;exact⟨l,bs,by rw[e1],hq,k _ F1 H1 x1 (.bl _)⟩
  .cases h
 .cases h
theorem Lh{ft:String}{t:HM.Ty}(hr:∀(s:Shared) (d:PyData) (v:V) (u:Value) (Q:Value->Shared->Prop),RelV v u->(∃(K:Ad) (F:J),b7 K F d v)->(∀es,d≠.dict es)->(∀x,v=.ref x->∃o,s.heap.get? x=some o/\((∃ds,d=.tuple ds/\o.cls=.type "tuple")\/(∃ds,d=.list ds/\o.cls=.type "list")\/∃ds,d=.dict ds/\o.cls=.type "dict")) ->
   (∀tk,Q (.bool (HM.ae t d)) {s with toks:=tk})->wpAny (model X.prog X.w) X.A (call (.builtin "isinstance") [u,.type ft]) Q X.xe s):
  AK X (.builtin "isinstance") (λxs H Q=>∃F d v,xs=[v,.ty ft]/\Zo F H/\b7 X.K F d v/\(∀es,d≠.dict es)/\Q (.bl (HM.ae t d)) H):=by
 intro bT s Y H xs us Q I r h;obtain⟨F,d,v,rfl,sub,rp,nd,q⟩:=h;obtain⟨u,u',rfl,ru,ru'⟩:=vals2 r;cases(show u'=Dh ft from ru');refine hr s d v u _ ru ⟨_,_,rp⟩ nd (λx e=>?_) λtk=>⟨.bl _,H,I.tok tk,rfl,q⟩;subst e;cases rp with
 |tup h1 h2 h3=>obtain⟨its,rv,⟨o,ho,hc,n,hd⟩,_⟩:=I.tuple (.of (sub _ _ h1));exact⟨o,ho,.inl ⟨_,rfl,hc⟩⟩
 |tupk h1=>obtain⟨its,rv,⟨o,ho,hc,n,hd⟩,_⟩:=I.tuple (.inr h1);exact⟨o,ho,.inl ⟨_,rfl,hc⟩⟩
 |lst h1 h2 h3=>obtain⟨its,rv,⟨o,n,ho,hc,_,hd⟩,_⟩:=I.list (sub.seq h1);exact⟨o,ho,.inr (.inl ⟨_,rfl,hc⟩)⟩
 | @dct a es kvs vvs h1 _ _ _=>obtain⟨_,_,xs,_,o,es,ep,q1,q2,_⟩:=(show ZV X.prog X.w H s.heap x (.dT vvs) from La I.hok (LB h1 sub));exact⟨o,q1,.inr (.inr ⟨_,rfl,q2.1⟩)⟩
 |fn _=>exact absurd rfl (nd _)
theorem Ul:AK X (.builtin "isinstance") (λxs H Q=>∃F d v,xs=[v,.ty "bool"]/\Zo F H/\b7 X.K F d v/\(∀es,d≠.dict es)/\Q (.bl (HM.ae .bool d)) H):=by
 refine Lh λs d v u Q ru ⟨K,F,rp⟩ nd ho k=>?_;cases rp with
 |non=>cases ru;exact IsiPair.NoneType_bool (k _)
 |bl _=>cases ru;exact IsiPair.bool_bool (k _)
 |int _=>obtain⟨t,rfl⟩:=ru;exact IsiPair.int_bool (k _)
 |str _=>obtain⟨t,rfl⟩:=ru;exact IsiPair.str_bool (k _)
 |tup _ _ _|tupk _ =>
  cases ru;obtain⟨o,h1,⟨_,_,h2⟩|⟨_,e,_⟩|⟨_,e,_⟩⟩:=ho _ rfl
  .exact IsiPair.tuple_bool h1 h2 (k _)
  .cases e
  .cases e
 |lst _ _ _ =>
  cases ru;obtain⟨o,h1,⟨_,e,_⟩|⟨_,_,h2⟩|⟨_,e,_⟩⟩:=ho _ rfl
  .cases e
  .exact IsiPair.list_bool h1 h2 (k _)
  .cases e
 |dct _ _ _ _ =>
  cases ru;obtain⟨o,h1,⟨_,e,_⟩|⟨_,e,_⟩|⟨_,_,h2⟩⟩:=ho _ rfl
  .cases e
  .cases e
  .exact IsiPair.dict_bool h1 h2 (k _)
 |fn _=>exact absurd rfl (nd _)
theorem S7:AK X (.builtin "isinstance") (λxs H Q=>∃F d v,xs=[v,.ty "int"]/\Zo F H/\b7 X.K F d v/\(∀es,d≠.dict es)/\Q (.bl (HM.ae .int d)) H):=by
 refine Lh λs d v u Q ru ⟨K,F,rp⟩ nd ho k=>?_;cases rp with
 |non=>cases ru;exact IsiPair.NoneType_int (k _)
 |bl _=>cases ru;exact IsiPair.bool_int (k _)
 |int _=>obtain⟨t,rfl⟩:=ru;exact IsiPair.int_int (k _)
 |str _=>obtain⟨t,rfl⟩:=ru;exact IsiPair.str_int (k _)
 |tup _ _ _|tupk _ =>
  cases ru;obtain⟨o,h1,⟨_,_,h2⟩|⟨_,e,_⟩|⟨_,e,_⟩⟩:=ho _ rfl
  .exact IsiPair.tuple_int h1 h2 (k _)
  .cases e
  .cases e
 |lst _ _ _ =>
  cases ru;obtain⟨o,h1,⟨_,e,_⟩|⟨_,_,h2⟩|⟨_,e,_⟩⟩:=ho _ rfl
  .cases e
  .exact IsiPair.list_int h1 h2 (k _)
  .cases e
 |dct _ _ _ _ =>
  cases ru;obtain⟨o,h1,⟨_,e,_⟩|⟨_,e,_⟩|⟨_,_,h2⟩⟩:=ho _ rfl
  .cases e
  .cases e
  .exact IsiPair.dict_int h1 h2 (k _)
 |fn _=>exact absurd rfl (nd _)
theorem Vv:AK X (.builtin "isinstance") (λxs H Q=>∃F d v,xs=[v,.ty "tuple"]/\Zo F H/\b7 X.K F d v/\(∀es,d≠.dict es)/\Q (.bl (HM.ae .tuple d)) H):=by
 refine Lh λs d v u Q ru ⟨K,F,rp⟩ nd ho k=>?_;cases rp with
 |non=>cases ru;exact IsiPair.NoneType_tuple (k _)
 |bl _=>cases ru;exact IsiPair.bool_tuple (k _)
 |int _=>obtain⟨t,rfl⟩:=ru;exact IsiPair.int_tuple (k _)
 |str _=>obtain⟨t,rfl⟩:=ru;exact IsiPair.str_tuple (k _)
 |tup _ _ _|tupk _ =>
  cases ru;obtain⟨o,h1,⟨_,_,h2⟩|⟨_,e,_⟩|⟨_,e,_⟩⟩:=ho _ rfl
  .exact IsiPair.tuple_tuple h1 h2 (k _)
  .cases e
  .cases e
 |lst _ _ _ =>
  cases ru;obtain⟨o,h1,⟨_,e,_⟩|⟨_,_,h2⟩|⟨_,e,_⟩⟩:=ho _ rfl
  .cases e
  .exact IsiPair.list_tuple h1 h2 (k _)
  .cases e
 |dct _ _ _ _ =>
  cases ru;obtain⟨o,h1,⟨_,e,_⟩|⟨_,e,_⟩|⟨_,_,h2⟩⟩:=ho _ rfl
  .cases e
  .cases e
  .exact IsiPair.dict_tuple h1 h2 (k _)
 |fn _=>exact absurd rfl (nd _)
theorem Lr{ft:Str}{kx:String}{t:HM.Ty}(hR:AK X (.builtin "isinstance") (λxs H Q=>∃F d v,xs=[v,.ty kx]/\Zo F H/\b7 X.K F d v/\(∀es,d≠.dict es)/\Q (.bl (HM.ae t d)) H))(bt:Be ft=some (.type kx))(hm:X.mg "isinstance"=none)(gB:X.mg ft=none)(ha:XE X a fa)(hg:Gl X "isinstance")(gD:Gl X ft)(hn:ft ≠ "__name__")(hd:(ft==("__debug__":Str))=false)(dO:Ag [a,.Name ft p2] X.env=(false,eval a X.env)::Ag [.Name ft p2] X.env)(dE:Ag [.Name ft p2] X.env=[(false,eval (.Name ft p2) X.env)]):XE X (.Call (.Name "isinstance" p) [a,.Name ft p2] [] pos) (HM.Jr fa t):=by
 intro r d h;have key:∃x,fa r=some x/\(∀es,x≠.dict es)/\d=.bool (HM.ae t x):=by
  unfold HM.Jr at h;split at h
  .cases h
  .rename_i x hn hx
   cases h;exact⟨x,hx,λes z=>hn es (by rw[z]),rfl⟩
  .cases h
 obtain⟨x,h1,nd,h2⟩:=key;subst h2;refine PE.imp (DC hR hg hm X5 (Br (ha r x h1) (Br (Tz (v:=.ty kx) gD gB bt rfl hn hd) BW (by rw[dE];rfl)) dO) (he:=dO) (hpl:=by rw[dE];rfl)) λY H Q ⟨F0,H0,F,at_,k⟩=>?_;exact⟨F0,H0,F,at_,λv F1 H1 x1 r1=>⟨F1,x,v,rfl,x1.sub,r1,nd,k _ F1 H1 x1 (.bl _)⟩⟩
theorem Xg(hm:X.mg "isinstance"=none)(gB:X.mg "bool"=none)(ha:XE X a fa)(hg:Gl X "isinstance":=by rfl)(gD:Gl X "bool":=by rfl)(dO:Ag [a,.Name "bool" p2] X.env=(false,eval a X.env)::Ag [.Name "bool" p2] X.env:=by rfl):XE X (.Call (.Name "isinstance" p) [a,.Name "bool" p2] [] pos) (HM.Jr fa .bool):=Lr Ul To hm gB ha hg gD (by decide) (by decide) dO rfl
theorem WR(hm:X.mg "isinstance"=none)(gB:X.mg "int"=none)(ha:XE X a fa)(hg:Gl X "isinstance":=by rfl)(gD:Gl X "int":=by rfl)(dO:Ag [a,.Name "int" p2] X.env=(false,eval a X.env)::Ag [.Name "int" p2] X.env:=by rfl):XE X (.Call (.Name "isinstance" p) [a,.Name "int" p2] [] pos) (HM.Jr fa .int):=Lr S7 Lb hm gB ha hg gD (by decide) (by decide) dO rfl
theorem QU(hm:X.mg "isinstance"=none)(gB:X.mg "tuple"=none)(ha:XE X a fa)(hg:Gl X "isinstance":=by rfl)(gD:Gl X "tuple":=by rfl)(dO:Ag [a,.Name "tuple" p2] X.env=(false,eval a X.env)::Ag [.Name "tuple" p2] X.env:=by rfl):XE X (.Call (.Name "isinstance" p) [a,.Name "tuple" p2] [] pos) (HM.Jr fa .tuple):=Lr Vv L3 hm gB ha hg gD (by decide) (by decide) dO rfl
theorem TQ(hm:X.mg "max"=none)(hc:X.calm=true)(ha:XE X a fa)(hb:XE X b fb)(hg:Gl X "max":=by rfl)(dO:Ag [a,b] X.env=(false,eval a X.env)::Ag [b] X.env:=by rfl)(dE:Ag [b] X.env=[(false,eval b X.env)]:=by rfl):XE X (.Call (.Name "max" p) [a,b] [] pos) (HM.bZ HM.Sk fa fb):=by
 intro r d h;obtain⟨x,y,h1,h2,h3⟩:=Hg h;obtain⟨i,j,rfl,rfl,e⟩:=Hn h3;cases e;refine PE.imp (DC (Vk hc) hg hm OB (Br (ha r _ h1) (Br (hb r _ h2) BW dE) dO) (he:=dO) (hpl:=by rw[dE];rfl)) λY H Q ⟨F0,H0,F,at_,k⟩=>?_;exact⟨F0,H0,F,at_,λv F1 H1 x1 r1=>⟨F0,H0,F1,at_.grow x1,λw F2 H2 x2 r2=>⟨i,j,by rw[r1.int_inv,r2.int_inv],k _ F2 H2 (x1.trans x2) (.int _)⟩⟩⟩
theorem TN(hm:X.mg "min"=none)(hc:X.calm=true)(ha:XE X a fa)(hb:XE X b fb)(hg:Gl X "min":=by rfl)(dO:Ag [a,b] X.env=(false,eval a X.env)::Ag [b] X.env:=by rfl)(dE:Ag [b] X.env=[(false,eval b X.env)]:=by rfl):XE X (.Call (.Name "min" p) [a,b] [] pos) (HM.bZ HM.SI fa fb):=by
 intro r d h;obtain⟨x,y,h1,h2,h3⟩:=Hg h;obtain⟨i,j,rfl,rfl,e⟩:=Hn h3;cases e;refine PE.imp (DC (WB hc) hg hm So (Br (ha r _ h1) (Br (hb r _ h2) BW dE) dO) (he:=dO) (hpl:=by rw[dE];rfl)) λY H Q ⟨F0,H0,F,at_,k⟩=>?_;exact⟨F0,H0,F,at_,λv F1 H1 x1 r1=>⟨F0,H0,F1,at_.grow x1,λw F2 H2 x2 r2=>⟨i,j,by rw[r1.int_inv,r2.int_inv],k _ F2 H2 (x1.trans x2) (.int _)⟩⟩⟩
theorem Vf(hm:X.mg "int"=none)(ha:XE X a fa)(hg:Gl X "int":=by rfl)(hs:Ag [a] X.env=[(false,eval a X.env)]:=by rfl):XE X (.Call (.Name "int" p) [a] [] pos) (HM.Xj fa):=by
 intro r d h;unfold HM.Xj at h;split at h
 .rename_i i hi
  cases h;refine PE.imp (EZ Qi hg hm Lb (Br (ha r _ hi) BW hs) (he:=hs)) λY H Q ⟨F0,H0,F,at_,k⟩=>?_;exact⟨F0,H0,F,at_,λv F1 H1 x1 r1=>.inl ⟨i,by rw[r1.int_inv],k _ F1 H1 x1 (.int _)⟩⟩
 .rename_i q hq
  cases h;refine PE.imp (EZ Qi hg hm Lb (Br (ha r _ hq) BW hs) (he:=hs)) λY H Q ⟨F0,H0,F,at_,k⟩=>?_;exact⟨F0,H0,F,at_,λv F1 H1 x1 r1=>.inr ⟨q,by rw[r1.bool_inv],k _ F1 H1 x1 (.int _)⟩⟩
 .cases h
end
end
section
variable{ga:HM.BF}{r:HM.Env}{F F0 H H0:J}{Y:L2.St}{ds:List PyData}{vs:List V}{i:Nat}{p1 p2:Pos}{K:Ad}{x:Str}
section
variable{X:Cx}{a b c e:Expr}{fa fb fc:HM.EF}{pos p:Pos}{f:HM.BF}{tg:Expr}
theorem PI.imp{X:Cx}{tg e:Expr}{t u:TI}(h:PI X tg e t)(hi:∀Y H R,u Y H R->t Y H R):PI X tg e u:=λbT s Y H R I q=>h bT s Y H R I (hi Y H R q)
theorem Ue{l:Expr}{tl:TE}(hl:PE X l tl):PI X tg l (λY H R=>tl Y H λx H1=>∃a,x=.ref a/\((∃xs,cF X.K H1 a xs)/\R (lx X.K a) H1\/(∃xs,da X.K H1 a xs)/\R (kq X.K a) H1)):=by
 intro bT s Y H R I h;refine b9 (hl bT s Y H _ I h) λv s1 ⟨x,H1,I1,r1,q1⟩=>?_;obtain⟨a,e,q1⟩:=q1;subst e;cases r1;rcases q1 with⟨⟨xs,hq⟩,q⟩|⟨⟨xs,hq⟩,q⟩
 .obtain⟨its,rv,p,hz⟩:=I1.list hq
  refine J9 p.isList ⟨s1.heap.objs.size,[s1.heap.objs.size],_,_,H1,rfl,I1.kept (t':=s1.toks) λb o e=>Ap _ e,Vs a _,⟨_,AA _ rfl,rfl,rfl⟩,λb hb=>?_,q⟩;obtain rfl:b=s1.heap.objs.size:=by simpa using hb
  exact I1.fpOk (Af _) (I1.hok.fresh (Af _))
 .obtain⟨its,rv,p,hz⟩:=I1.tuple hq
  refine wpAny_pyIter_tuple (show s1.heap.IsTuple a its.toArray from p) ⟨s1.heap.objs.size,[s1.heap.objs.size],_,_,H1,rfl,I1.kept (t':=s1.toks) λb o e=>Ap _ e,WS a _,⟨_,AA _ rfl,rfl,rfl⟩,λb hb=>?_,q⟩;obtain rfl:b=s1.heap.objs.size:=by simpa using hb
  exact I1.fpOk (Af _) (I1.hok.fresh (Af _))
theorem UJ{a:Addr}(h:cF K F a vs)(r:Zs K F ds vs):iI K (lx K a) ds F:=by intro F' H s1 s2;have hq:cF K H a vs:=(s1.trans s2).seq h;refine⟨λi d hd=>?_,⟨vs,hq,by rw[r.1];exact Af _⟩⟩;obtain⟨v,h1,h2⟩:=r.get hd;refine⟨⟨vs,v,hq,h1⟩,λx H' hy=>?_⟩;obtain⟨e,y⟩:=hy;refine⟨e,?_⟩;have:=y vs hq;rw[h1]at this;cases this;exact h2.mono (s1.trans (BE s2))
theorem V1{a:Addr}(h:da K F a vs)(r:Zs K F ds vs):iI K (kq K a) ds F:=by intro F' H s1 s2;have hq:da K H a vs:=LU h (s1.trans s2);refine⟨λi d hd=>?_,⟨vs,hq,by rw[r.1];exact Af _⟩⟩;obtain⟨v,h1,h2⟩:=r.get hd;refine⟨⟨vs,v,hq,h1⟩,λx H' hy=>?_⟩;obtain⟨e,y⟩:=hy;refine⟨e,?_⟩;have:=y vs hq;rw[h1]at this;cases this;exact h2.mono (s1.trans (BE s2))
theorem T9{a:Addr}(h:F a=some (.tup vs))(r:Zs K F ds vs):iI K (kq K a) ds F:=by intro F' H s1 s2;have hq:da K H a vs:=.of (s2 _ _ (s1 _ _ h));refine⟨λi d hd=>?_,⟨vs,hq,by rw[r.1];exact Af _⟩⟩;obtain⟨v,h1,h2⟩:=r.get hd;refine⟨⟨vs,v,hq,h1⟩,λx H' hy=>?_⟩;obtain⟨e,y⟩:=hy;refine⟨e,?_⟩;have:=y vs hq;rw[h1]at this;cases this;exact h2.mono (s1.trans (BE s2))
theorem A3(h:XE X e fa):XI X tg e (HM.ZF (HM.cu fa)):=by
 intro r ds hd;unfold HM.ZF HM.cu at hd;cases hx:fa r with
 |none=>rw[hx]at hd;cases hd
 |some d =>
  rw[hx]at hd;have hd:HM.G9 (.pl d)=some ds:=hd;refine PI.imp (Ue (h r d hx)) λY H R ⟨F0,H0,F,at_,k⟩=>?_;refine⟨F0,H0,F,at_,λv F1 H1 x1 r1=>?_⟩;cases r1 with
  | @tupk a x h1=>cases hd;exact⟨a,rfl,.inr ⟨⟨_,.inr h1⟩,k _ F1 H1 x1 (V1 (.inr h1) (.one (.str x)))⟩⟩
  | @tup a ds' vs h1 h2 h3=>cases hd;exact⟨a,rfl,.inr ⟨⟨vs,.of (x1.sub _ _ h1)⟩,k _ F1 H1 x1 (T9 h1 ⟨h2,h3⟩)⟩⟩
  | @lst a ds' vs h1 h2 h3=>cases hd;exact⟨a,rfl,.inl ⟨⟨vs,x1.sub.seq h1⟩,k _ F1 H1 x1 (UJ h1 ⟨h2,h3⟩)⟩⟩
  |dct _ _ _ _=>cases hd
  |fn _=>cases hd
  |non=>cases hd
  |bl _=>cases hd
  |int _=>cases hd
  |str _=>cases hd
theorem TZ(lo:Int)(n:Nat):iI K (kr lo n) (HM.FT lo n) F:=by
 intro F' H s1 s2;have hl:(HM.FT lo n).length=n:=by unfold HM.FT;rw[Ae,AO]
 refine⟨λi d hd=>?_,?_⟩
 .have hi:i<n:=by rw[<-hl];exact(AE.mp hd).1
  unfold HM.FT at hd;rw[AQ,Fi hi]at hd;cases hd;exact⟨hi,λx H' ⟨e1,e2⟩=>⟨e1,by rw[e2];exact .int _⟩⟩
 .rw[hl];exact Af _
theorem OX{j:Int}(h:HM.fC j=true):-1000000<j/\j<1000000:=by unfold HM.fC at h;rw[Ei]at h;omega
theorem CH(hm:X.mg "range"=none)(ha:XE X a fa)(hg:Gl X "range":=by rfl)(hs:Ag [a] X.env=[(false,eval a X.env)]:=by rfl):XI X tg (.Call (.Name "range" p) [a] [] pos) (HM.Z5 fa):=by
 intro r ds hd;unfold HM.Z5 at hd;split at hd
 .rename_i j hj
  split at hd
  .rename_i hok
   cases hd;obtain⟨k1,k2⟩:=OX hok;refine PI.imp (V4 hg hm (Br (ha r _ hj) BW hs) hs) λY H R ⟨F0,H0,F,at_,k⟩=>?_;exact⟨F0,H0,F,at_,λv F1 H1 x1 r1=>⟨j,by rw[r1.int_inv],by omega,by omega,k _ F1 H1 x1 (TZ 0 j.toNat)⟩⟩
  .cases hd
 .cases hd
theorem Lq{gb:HM.BF}(ha:XB X a ga)(hb:XB X b gb):XF X (.BinOp a .Add b pos) (HM.Lg ga gb):=by
 intro r d h;unfold HM.Lg at h;split at h
 .rename_i xs hx
  split at h
  .rename_i ys hy
   split at h
   .rename_i hz
    cases h;refine PE.imp (G1 SG (ha r _ hx) (hb r _ hy)) λY H Q ⟨F0,H0,F,at_,k⟩=>?_;refine⟨F0,H0,F,at_,λv F1 H1 x1 ⟨fp,r1⟩=>⟨F0,H0,F1,at_.grow x1,λw F2 H2 x2 ⟨fq,r2⟩=>?_⟩⟩;cases r1 with
    |ol h1 q1 =>
     cases r2 with
     |ol h2 q2 =>
      have q1':=q1.mono x2.ff;refine⟨_,_,_,_,rfl,rfl,x2.hh _ _ h1,h2,?_,λl hl=>FI (P:=λv _ H'=>Q v H') (x1.trans x2) (q1'.append q2) hl k⟩;have e1:=q1.1;have e2:=q2.1;have e3:(1000000:Nat)<=sizeLine:=by decide
      unfold HM.big at hz;omega
   .cases h
  .cases h
 .cases h
theorem TM(ha:XB X a ga)(hb:XE X b fb):XF X (.BinOp a .Mult b pos) (HM.Uo ga fb):=by
 intro r d h;unfold HM.Uo at h;split at h
 .rename_i xs hx
  split at h
  .rename_i i hy
   split at h
   .rename_i hz
    cases h;rw[Bw,decide_eq_true_eq,decide_eq_true_eq]at hz;refine PE.imp (G1 Sg (ha r _ hx) (hb r _ hy)) λY H Q ⟨F0,H0,F,at_,k⟩=>?_;refine⟨F0,H0,F,at_,λv F1 H1 x1 ⟨fp,r1⟩=>⟨F0,H0,F1,at_.grow x1,λw F2 H2 x2 r2=>?_⟩⟩;cases r1 with
    |ol h1 q1 =>
     have q1':=q1.mono x2.ff;refine⟨_,i,_,rfl,r2.int_inv,x2.hh _ _ h1,by omega,by omega,?_,λl hl=>FI (P:=λv _ H'=>Q v H') (x1.trans x2) (q1'.rep i.toNat) hl k⟩;have e1:=q1.1;have e3:(1000*1000:Nat)<=sizeLine:=by decide
     refine Ba (Kd (?_:_<=1000) (?_:_<=1000)) e3<;>omega
   .cases h
  .cases h
 .cases h
def XO(X:Cx)(e:Option Expr)(f:Option HM.EF):Prop:=∀r o,HM.O5 f r=some o->PO X e λY H Q=>fH X.K r Y H λF0 H0 F=>∀F' H',cf F H F' H'->Q o H'
theorem T6:XO X none none:=by intro r o h;cases h;intro bT s Y H Q I q;obtain⟨F0,H0,F,at_,k⟩:=q;exact U4 bT s Y H Q I (k F H at_.refl)
theorem Tc(h:XE X e fa):XO X (some e) (some fa):=by
 intro r o ho;unfold HM.O5 at ho;split at ho
 .rename_i z;cases z
 .rename_i g z
  cases z;split at ho
  .rename_i i hi
   cases ho;intro bT s Y H Q I q;obtain⟨F0,H0,F,at_,k⟩:=q;exact TC (h r _ hi) bT s Y H Q I ⟨F0,H0,F,at_,λv F1 H1 x1 r1=>⟨i,r1.int_inv,k F1 H1 x1⟩⟩
  .cases ho
theorem TL{lo hi:Option Expr}{fl fh:Option HM.EF}(ha:XB X a ga)(hl:XO X lo fl)(hh:XO X hi fh):XF X (.Subscript a (.Slice lo hi none p2) pos) (HM.VG ga fl fh):=by
 intro r d h;unfold HM.VG at h;split at h
 .rename_i x hx
  split at h
  .rename_i xs eS
   split at h
   .rename_i l hl'
    split at h
    .rename_i u hu'
     cases h;refine PE.imp (U1 Tw (ha r _ hx) (hl r _ hl') (hh r _ hu')) λY H Q ⟨F0,H0,F,at_,k⟩=>?_;refine⟨F0,H0,F,at_,λv F1 H1 x1 ⟨fp,r1⟩=>⟨F0,H0,F1,at_.grow x1,λF2 H2 x2=>⟨F0,H0,F2,(at_.grow x1).grow x2,λF3 H3 x3=>?_⟩⟩⟩;have ku:=x2.trans x3;obtain⟨l',vs,e1,hq,rs⟩:=Hm x3.sub (r1.mono ku.ff λ_ _ _ z=>ku.hh _ _ z) eS;refine⟨l',vs,e1,hq,λl2 gC=>FI (P:=λv _ H'=>Q v H') (x1.trans ku) ?_ gC k⟩;unfold HM.cutD GJ;rw[<-rs.1];exact(rs.drop _).take _
    .cases h
   .cases h
  .cases h
 .cases h
theorem AD.val{fp:Nat->List Addr}(e:AD K F0 H0 F H r Y fp)(h:r[i]?=some (some (.ol ds))):∃l vs,Y[i]?=some (some (.ref l))/\H l=some (.lst vs)/\Zs K F ds vs/\fp i=[l]:=by
 obtain⟨v,h1,h2⟩:=e.at_ i _ h;generalize hf:fp i=q at h2;cases h2 with
 |ol k1 k2=>exact⟨_,_,h1,k1,k2,rfl⟩
theorem At.chgList{es:List PyData}(e:At K F0 H0 F H r Y)(h:r[i]?=some (some (.ol ds))):∃l vs,Y[i]?=some (some (.ref l))/\H l=some (.lst vs)/\Zs K F ds vs/\∀us,Zs K F es us->At K F0 H0 F (upd H l (.lst us)) (r.set i (some (.ol es))) Y:=by
 obtain⟨fp,e⟩:=e;obtain⟨l,vs,h1,h2,h3,h4⟩:=e.val h;refine⟨l,vs,h1,h2,h3,λus q=>e.change (fp':=[l]) h1 (.ol ZA q) (by simp) (λa ha=>.inl (by rw[h4];exact ha)) λa o z hn=>?_⟩;rw[Zt (λz=>hn (by rw[h4,z];simp))];exact z
theorem C6(i:Nat){p3:Pos}(ha:XE X a fa)(hN:X.N[i]?=some x:=by rfl)(hv:d6 X.env.scope x:=by first|exact AJ rfl|exact Ar (AJ rfl)|exact Ar (Ar rfl))(hd:(x==("__debug__":Str))=false:=by decide)(dP:(x==("__classdict__":Str))=false:=by decide)(dy:Gi (.Name x p1) "append" X.env (eval (.Name x p1) X.env)=eval (.Name x p1) X.env:=by rfl)(dA:((backTo p3 (Ag [a] X.env)).all (λx=>!x.1)&&(backToKw p3 (Gr [] X.env)).all (λx=>x.1.isSome)&&decide (([a]:List Expr).length+([]:List Keyword).length+(if([]:List Keyword).isEmpty then 0 else 1)<30))=true:=by rfl)(dw:(p2.endLine==p3.line)=true:=by rfl)(hs:Ag [a] X.env=[(false,eval a X.env)]:=by rfl):XS X (.Expr (.Call (.Attribute (.Name x p1) "append" p2) [a] [] p3) pos) (HM.C9 i fa):=by
 intro r o h;unfold HM.C9 at h;split at h
 .rename_i ds cI
  split at h
  .rename_i d hd'
   split at h
   .rename_i hz
    cases h;refine PS.imp (LC (N8 NH Nq NI Jz (CY hN hv hd dP) (Br (ha r d hd') BW hs) dy dA dw hs rfl)) λE Y H ⟨F0,H0,F,at_,k⟩=>?_;obtain⟨l,vs,e1,e2,e3,_⟩:=at_.chgList (es:=ds) cI;refine⟨.ref l,e1,.inl ⟨rfl,_,cF.of e2⟩,F0,H0,F,at_,λv F1 H1 x1 r1=>?_⟩;have fG:=at_.grow x1;obtain⟨l',vs',f1,f2,f3,f4⟩:=fG.chgList (es:=ds++[d]) cI;rw[e1]at f1;cases f1;refine⟨_,vs',v,rfl,rfl,f2,?_,k _ F1 _ (f4 _ (f3.append (.one r1)))⟩;have e4:=f3.1;have e5:(1000000:Nat)<=sizeLine:=by decide
    unfold HM.big at hz;omega
   .cases h
  .cases h
 .cases h
theorem US(i:Nat)(hk:XE X b fb)(ha:XE X a fa)(hN:X.N[i]?=some x:=by rfl)(hv:d6 X.env.scope x:=by first|exact AJ rfl|exact Ar (AJ rfl)|exact Ar (Ar rfl))(hd:(x==("__debug__":Str))=false:=by decide)(dP:(x==("__classdict__":Str))=false:=by decide)
  (eX:∀v,assign (.Subscript (.Name x p1) b p2) X.env v=(do
   let ov <-holding [v] (eval (.Name x p1) X.env)
   let iv <-holding [v,ov] (eval b X.env)
   standAt p2
   holding [v,ov,iv] (setItem ov iv v)
   release [v,ov,iv] []):=by intro _;rfl)
  (hs:swapsWithSole [.Subscript (.Name x p1) b p2] a pos.line X.env=pure false:=by rfl) (hw:swappedStores [.Subscript (.Name x p1) b p2] a X.env=pure none:=by rfl)
  (h1:(BQ [.Subscript (.Name x p1) b p2] X.env).map (·.2)=[assign (.Subscript (.Name x p1) b p2) X.env]:=by rfl):XS X (.Assign [.Subscript (.Name x p1) b p2] a pos) (HM.Wh i fb fa):=by
 intro r o h;unfold HM.Wh at h;split at h
 .rename_i d hd'
  split at h
  .rename_i ds cI
   split at h
   .rename_i n hn
    split at h
    .rename_i j hj
     cases h;refine PS.imp (Ov (ha r d hd') (Se (CY hN hv hd dP) (hk r _ hn) gh eX) hs hw h1) λE Y H ⟨F0,H0,F,at_,k⟩=>?_;refine⟨F0,H0,F,at_,λv F1 H1 x1 r1=>?_⟩;have fG:=at_.grow x1;obtain⟨l,vs,e1,e2,e3,_⟩:=fG.chgList (es:=ds) cI;refine⟨.ref l,e1,F0,H0,F1,fG,λw F2 H2 x2 r2=>?_⟩;obtain⟨l',vs',f1,f2,f3,f4⟩:=(fG.grow x2).chgList (es:=ds.set j d) cI;rw[e1]at f1;cases f1;refine⟨_,vs',n,j,rfl,r2.int_inv,f2,?_,k _ F2 _ (f4 _ (f3.set (r1.mono x2.ff) j))⟩;rw[<-f3.1];exact hj
    .cases h
   .cases h
  .cases h
 .cases h
end
end
section
variable{K:Ad}{F:J}{κ:Type}[DecidableEq κ]
def AU(K:Ad)(F:J)(kvs:List (κ×PyData))(vvs:List (κ×V)):Prop:=kvs.map (·.1)=vvs.map (·.1)/\Zs K F (kvs.map (·.2)) (vvs.map (·.2))
theorem AU.nil:AU K F ([]:List (κ×PyData)) []:=⟨rfl,.nil⟩
theorem AU.cons{k:κ}{d:PyData}{v:V}{kvs:List (κ×PyData)}{vvs:List (κ×V)}(r:b7 K F d v)(q:AU K F kvs vvs):AU K F ((k,d)::kvs) ((k,v)::vvs) :=
 ⟨by rw[Am,Am,q.1],by rw[Am,Am];exact .cons r q.2⟩
theorem AU.inv{kvs:List (κ×PyData)}{vvs:List (κ×V)}(q:AU K F kvs vvs):(kvs=[]/\vvs=[])\/∃k d v kvs' vvs',kvs=(k,d)::kvs'/\vvs=(k,v)::vvs'/\b7 K F d v/\AU K F kvs' vvs':=by
 cases kvs with
 |nil =>
  cases vvs with
  |nil=>exact .inl ⟨rfl,rfl⟩
  |cons p r=>exact absurd q.1 (by simp)
 |cons p kvs' =>
  cases vvs with
  |nil=>exact absurd q.1 (by simp)
  |cons p' vvs' =>
   obtain⟨k,d⟩:=p;obtain⟨k',v⟩:=p';obtain⟨q1,q2⟩:=q;rw[Am,Am]at q1 q2;injection q1 with e1 e2
   have e1:k=k':=e1;subst e1;obtain⟨v',us,e3,r1,r2⟩:=q2.cons_inv;injection e3 with e3 e4
   refine .inr ⟨k,d,v,kvs',vvs',rfl,rfl,?_,e2,?_⟩
   .rw[show v=v' from e3];exact r1
   .rw[e4];exact r2
theorem AU.len{kvs:List (κ×PyData)}{vvs:List (κ×V)}(q:AU K F kvs vvs):kvs.length=vvs.length:=by
 have:=congrArg A5 q.1
 rwa [Ae,Ae]at this
theorem AU.any{kvs:List (κ×PyData)}{vvs:List (κ×V)}(k:κ)(q:AU K F kvs vvs):(kvs.any λp=>decide (p.1=k))=vvs.any λp=>decide (p.1=k):=by
 have e:∀{β:Type} (l:List (κ×β)),(l.any λp=>decide (p.1=k))=(l.map (·.1)).any λx=>decide (x=k):=λl=>by rw[List.any_map];rfl
 rw[e,e,q.1]
theorem AU.repl{d:PyData}{v:V}(k:κ)(r:b7 K F d v):∀{kvs:List (κ×PyData)} {vvs:List (κ×V)},AU K F kvs vvs->AU K F (kvs.map λp=>if p.1=k then(p.1,d)else p) (vvs.map λp=>if p.1=k then(p.1,v)else p)
 |[],vvs,q=>by
  rcases q.inv with⟨_,e⟩|⟨_,_,_,_,_,e,_⟩
  .subst e;exact .nil
  .cases e
 |p::kvs,vvs,q=>by
  rcases q.inv with⟨e,_⟩|⟨k',d',v',kvs',vvs',e1,e2,r1,r2⟩
  .cases e
  .cases e1
   subst e2;have ih:=AU.repl k r r2;rw[Am,Am]
   by_cases h:k'=k
   .rw[if_pos h,if_pos h];exact .cons r ih
   .rw[if_neg h,if_neg h];exact .cons r1 ih
theorem AU.snoc{kvs:List (κ×PyData)}{vvs:List (κ×V)}{k:κ}{d:PyData}{v:V}(q:AU K F kvs vvs)(r:b7 K F d v):AU K F (kvs++[(k,d)]) (vvs++[(k,v)]) :=
 ⟨by rw[Bf,Bf,q.1];rfl,by rw[Bf,Bf];exact q.2.append (.one r)⟩
theorem AU.put{kvs:List (κ×PyData)}{vvs:List (κ×V)}{d:PyData}{v:V}(q:AU K F kvs vvs)(k:κ)(r:b7 K F d v):AU K F (HM.fI kvs k d) (cM vvs k v):=by
 unfold HM.fI cM;rw[q.any k]
 by_cases h:(vvs.any λp=>decide (p.1=k))=true
 .rw[if_pos h,if_pos h];exact q.repl k r
 .rw[if_neg h,if_neg h];exact q.snoc r
end
section
variable{K:Ad}{F:J}
theorem LR{d:PyData}{k:cn}{v:V}(h:HM.Le d=some k)(r:b7 K F d v):v=kV k:=by cases r<;>first|(cases h;rfl)|cases h
theorem Qb:∀{ds:List PyData} {ks:List cn} {vs:List V},HM.Y3 ds=some ks->Zs K F ds vs->vs=ks.map kV
 |[],ks,vs,h,r=>by cases h;exact r.nil_inv
 |d::ds,ks,vs,h,r=>by
  obtain⟨v,us,rfl,r1,r2⟩:=r.cons_inv;unfold HM.Y3 at h;split at h
  .rename_i k hk
   obtain⟨ks',h1,h2⟩:=An.mp h;subst h2;rw[LR hk r1,Qb h1 r2];rfl
  .cases h
theorem OY:∀{ds:List PyData} {ks:List cn},HM.O4 ds=some ks->HM.Y3 ds=some ks
 |[],ks,h=>h
 |d::ds,ks,h=>by
  unfold HM.O4 at h;split at h
  .cases ‹_=[]›
  .rename_i i r e
   injection e with e1 e2
   subst e1 e2;obtain⟨ks',h1,h2⟩:=An.mp h;subst h2;show(match HM.Le (.int i)with|some k=>(HM.Y3 ds).map (k::·)|none=>none)=_;rw[OY h1];rfl
  .cases h
theorem Uz{d:PyData}{ks:List cn}{v:V}(h:HM.SN d=some ks)(r:b7 K F d v):∃b,v=.ref b/\F b=some (.tup (ks.map kV)):=by
 cases r with
 |tup h1 h2 h3=>refine⟨_,rfl,?_⟩;rw[<-Qb (OY h) ⟨h2,h3⟩];exact h1
 |tupk _=>cases h
 |lst _ _ _=>cases h
 |dct _ _ _ _=>cases h
 |fn _=>cases h
 |non=>cases h
 |bl _=>cases h
 |int _=>cases h
 |str _=>cases h
end
section
variable{X:Cx}{a b c e:Expr}{fa fb fc:HM.EF}{pos p:Pos}{f:HM.BF}
theorem fresh_one{K:Ad}{F H F1 H1:J}{o:HO}{q:HM.B}{l:Addr}{P:V->J->J->Prop}(x1:cf F H F1 H1)(hl:H1 l=none)(hq:Z8 K F1 (upd H1 l o) q (.ref l) [l])(k:∀v F' H',cf F H F' H'->(∃fp,Z8 K F' H' q v fp/\fp.Nodup/\∀a∈fp,F' a=none/\H a=none)->P v F' H'):P (.ref l) F1 (upd H1 l o):=by
 refine k _ F1 _ (x1.lay' hl) ⟨[l],hq,by simp,λa ha=>?_⟩;obtain rfl:a=l:=by simpa using ha
 exact⟨x1.sub.free hl,x1.hh.free hl⟩
theorem S2:XF X (.Dict [] [] pos) HM.mM:=by intro r d h;cases h;exact PE.imp VM λY H Q ⟨F0,H0,F,at_,k⟩ l hl=>fresh_one (P:=λv _ H'=>Q v H') at_.refl hl (.ot ZA rfl .nil) k
theorem Ve(ha:XE X a fa)(hb:XE X b fb):XF X (.Dict [some a] [b] pos) (HM.XQ fa fb):=by
 intro r d h;unfold HM.XQ at h;split at h
 .rename_i x hx
  split at h
  .rename_i y hy
   split at h
   .rename_i k hk
    cases h;refine PE.imp (TX (Vw (ha r x hx) (hb r y hy) Vb) rfl rfl (by simp) (by simp)) λY H Q ⟨F0,H0,F,at_,kk⟩ l hl=>?_;have oI:F l=none:=at_.sub.free hl;have x0:cf F H F (upd H l (.dK [])):=at_.refl.lay' hl;refine⟨F0,H0,F,at_.grow x0,λv F1 H1 x1 r1=>⟨F0,H0,F1,(at_.grow x0).grow x1,λw F2 H2 x2 r2=>?_⟩⟩;have gX:=x1.trans x2;have gC:H2 l=some (.dK []):=gX.hh l _ ZA;have mK:F2 l=none:=by
     cases q:F2 l with
     |none=>rfl
     |some o =>
      rcases gX.new l o q with z|z
      .rw[oI]at z;cases z
      .exact(z.no ZA λ_ q=>by cases q).elim
    refine⟨gC,[(k,w)],?_,by simp,?_⟩
    .rw[LR hk r1]
     rfl
    have xe:cf F H F2 (upd H2 l (.dK (Fz [] [(k,w)]))):=by
     refine⟨gX.ff,λc o z=>?_,λc o z=>?_,λc o z=>?_,λt=>(gX.tab (t.same (GR hl))).keep λa u z hu=>?_,gX.nts⟩
     .have hc:c≠l:=Cp z hl
      exact(gX.hh c o (by rw[Zt hc];exact z)).cong (Zt hc)
     .rw[Zt (λe=>by rw[e,mK]at z;cases z)]
      exact gX.sub c o z
     .rcases gX.new c o z with q|q
      .exact .inl q
      .exact .inr (q.back (.of (Zo.upd' hl)))
     .rw[Zt (λe=>by subst e;rw[gC]at z;cases z;cases hu)];exact z
    refine kk _ F2 _ xe ⟨[l],.ok ZA rfl (.one r2),by simp,λc hc=>?_⟩;obtain rfl:c=l:=by simpa using hc
    exact⟨mK,hl⟩
   .cases h
  .cases h
 .cases h
end
theorem At.chgOne{K:Ad}{F0 H0 F H:J}{r:HM.Env}{Y:L2.St}{i:Nat}{q:HM.B}{l:Addr}(e:At K F0 H0 F H r Y)(h:r[i]?=some (some q))(hv:Y[i]?=some (some (.ref l)))(lG:∀v fp,Z8 K F H q v fp->∃a,v=.ref a/\fp=[a]):∀o q',Z8 K F (upd H l o) q' (.ref l) [l]->At K F0 H0 F (upd H l o) (r.set i (some q')) Y:=by
 intro o q' hq;obtain⟨fp,e⟩:=e;obtain⟨v,h1,h2⟩:=e.at_ i _ h;obtain⟨a,e1,e2⟩:=lG v _ h2;subst e1;rw[hv]at h1;cases h1;refine e.change (fp':=[l]) hv hq (by simp) (λc hc=>.inl (by rw[e2];exact hc)) λc o' z hn=>?_;rw[Zt (λz=>hn (by rw[e2,z];simp))];exact z
section
variable{X:Cx}{a b c e:Expr}{fa fb fc:HM.EF}{pos p:Pos}{f:HM.BF}
theorem Jk{n:Nat}(h:n<HM.big):n<sizeLine:=by
 have e5:(1000000:Nat)<=sizeLine:=by decide
 unfold HM.big at h;omega
theorem TK(hu:X.A.units+1<cLine)(i:Nat){x:Str}{p1 p2:Pos}(hk:XE X b fb)(ha:XE X a fa)(hN:X.N[i]?=some x:=by rfl)(hv:d6 X.env.scope x:=by first|exact AJ rfl|exact Ar (AJ rfl)|exact Ar (Ar rfl))(hd:(x==("__debug__":Str))=false:=by decide)(dP:(x==("__classdict__":Str))=false:=by decide)(hs:Ct a (some (.Subscript (.Name x p1) b p2)) pos.line X.env=pure false:=by rfl):XS X (.Assign [.Subscript (.Name x p1) b p2] a pos) (HM.VX i fb fa):=by
 intro r o h;unfold HM.VX at h;split at h
 .rename_i d hd'
  split at h
  .rename_i y hy
   split at h
   .rename_i kvs hb
    split at h
    .rename_i k hk'
     split at h
     .rename_i hz
      cases h;refine PS.imp (O0 hu (CY hN hv hd dP) (hk r y hy) (ha r d hd') hs) λE Y H ⟨F0,H0,F,at_,kk⟩=>?_;refine⟨F0,H0,F,at_,λv F1 H1 x1 r1=>?_⟩;have fG:=at_.grow x1;obtain⟨u,fp,e1,e2⟩:=fG.any hb;refine⟨u,e1,F0,H0,F1,fG,λw F2 H2 x2 r2=>?_⟩;have di:=fG.grow x2;cases e2 with
      | @ok l _ vvs e2 e3 e4=>have T:AU X.K F2 kvs vvs:=⟨e3,e4.mono x2.ff⟩;have T':=T.put k (r1.mono x2.ff);rw[LR hk' r2];have hH:H2 l=some (.dK vvs):=x2.hh _ _ e2;refine⟨l,_,rfl,DY.k hH (by rw[<-T.len];exact Jk hz),kk _ F2 _ (di.chgOne hb e1 (λv fp q=>by cases q;exact⟨_,rfl,rfl⟩) _ _ (.ok ZA T'.1 T'.2))⟩
     .cases h
    .cases h
   .rename_i kvs hb
    split at h
    .rename_i k hk'
     split at h
     .rename_i hz
      cases h;refine PS.imp (O0 hu (CY hN hv hd dP) (hk r y hy) (ha r d hd') hs) λE Y H ⟨F0,H0,F,at_,kk⟩=>?_;refine⟨F0,H0,F,at_,λv F1 H1 x1 r1=>?_⟩;have fG:=at_.grow x1;obtain⟨u,fp,e1,e2⟩:=fG.any hb;refine⟨u,e1,F0,H0,F1,fG,λw F2 H2 x2 r2=>?_⟩;have di:=fG.grow x2;cases e2 with
      | @ot l _ vvs e2 e3 e4=>have T:AU X.K F2 kvs vvs:=⟨e3,e4.mono x2.ff⟩;have T':=T.put k (r1.mono x2.ff);obtain⟨bb,rfl,k3⟩:=Uz hk' r2;have hH:H2 l=some (.dT vvs):=x2.hh _ _ e2;refine⟨l,_,rfl,DY.t hH (x2.sub _ _ k3) (by rw[<-T.len];exact Jk hz),kk _ F2 _ (di.chgOne hb e1 (λv fp q=>by cases q;exact⟨_,rfl,rfl⟩) _ _ (.ot ZA T'.1 T'.2))⟩
     .cases h
    .cases h
   .cases h
  .cases h
 .cases h
end
section
variable{p:Addr}{env:Env}{r:HM.Env}{F F0 H H0:J}{Y:L2.St}{K:Ad}{scope:Scope}
abbrev No:Value->Shared->Prop:=λ_ _=>False
abbrev OT(cT:List Expr)(env:Env):Sem Bool :=
 forIn cT true λc r=>if r=true then do let ok <-isTrue c env (eval c env);pure (Io ok)else pure (Io r)
theorem Qc{prog:Program}{w:World}{A:Around}{R:Result->Shared->Prop}{s:Shared}{c9 dn iter:Expr}{cT:List Expr}{pos:Pos}{it acc:Value}(pA:Nat->Shared->Prop)
  (eG:∀n s,pA n s->wpAny (model prog w) A (pyNext it) (λr s1=>match r with
   |none=>R (.ok .next) s1
   |some v=>wpAny (model prog w) A (Iq dn it v) (λ_ s2=>wpAny (model prog w) A (assign dn env v) (λ_ s3=>wpAny (model prog w) A (OT cT env) (λok s4=>if ok=true then wpAny (model prog w) A (eval c9 env) (λx s5=>wpAny (model prog w) A (call (.builtin "list.append") [acc,x]) (λ_ s6=>∃m,m<n/\pA m s6) No s5) No s4 else ∃m,m<n/\pA m s4) No s3) No s2) No s1) No s)
  (n:Nat)(h:pA n s):codeAny (model prog w) A (.compLoop (.ListComp c9 [⟨dn,iter,cT,0⟩] scope pos) 0 it acc env) R s:=by
 refine codeAny_loop rfl pA (λn s hI=>?_) n h;show wpAny _ A ((compTurn (.ListComp c9 [⟨dn,iter,cT,0⟩] scope pos) 0 it acc env).onRaise (λx=>do noteFrame x env;theTreesLotGoes x)) _ _ s;refine wpAny_noted ?_;rw[compTurn_list];refine Aa (wpAny_standAt (Aa (B5 (eG n s hI) (λr s1 h1=>?_) λ_ _ z=>z.elim)));cases r with
 |none=>exact Ac h1
 |some v =>
  refine Aa (B5 h1 (λ_ s2 h2=>Aa (B5 h2 (λ_ s3 h3=>Aa (B5 h3 (λok s4 h4=>?_) λ_ _ z=>z.elim)) λ_ _ z=>z.elim)) λ_ _ z=>z.elim);cases ok with
  |false=>exact Ac ⟨rfl,h4⟩
  |true=>refine Aa (Aa (B5 h4 (λx s5 h5=>?_) λ_ _ z=>z.elim));exact Aa (B5 h5 (λ_ s6 h6=>Ac (Ac ⟨rfl,h6⟩)) λ_ _ z=>z.elim)
def ZU(X:Cx)(N:List Str)(scope:Scope)(cl:List (Str×Addr))(C:Addr)(s₀:Shared)(H₀:J)(ex:List Addr):Cx where
 prog:=X.prog
 w:=X.w
 K:=X.K
 mg:=X.mg
 base:=X.base
 A:=X.A
 N:=N
 s₀:=s₀
 H₀:=H₀
 env:=E8 scope cl C X.env
 outer:=X.stack
 stack:=X.stack
 ex:=ex
 fn:=λ_=>false
 calm:=true
 pn:=[]
 xe:=λ_ _=>False
theorem MC{env:Env}:∀(names:List (Str×NameKind)) (cs:List (Str×Addr)),(∀y∈names,y.2=.free->∃c,env.cells.lookup y.1=some c)->(∀x c,cs.lookup x=some c->env.cells.lookup x=some c) ->∃cl,(forIn names cs λ(x:Str×NameKind) r=>(match x with|(name,kind)=>if kind==.free then do let c <-cellOf env name;pure (Io ((name,c)::r))else pure (Io r):Sem (ForInStep (List (Str×Addr)))))=pure cl /\ (∀x c,cl.lookup x=some c->env.cells.lookup x=some c)/\(∀x,(cs.lookup x).isSome=true->(cl.lookup x).isSome=true)/\∀y∈names,y.2=.free->(cl.lookup y.1).isSome=true
 |[],cs,_,h2=>⟨cs,rfl,h2,λ_ h=>h,λy hy=>by simp at hy⟩
 |(n,k)::r,cs,h1,h2=>by
  rw[List.forIn_cons]
  by_cases hk:(k==DN)=true
  .obtain⟨c,hc⟩:=h1 (n,k) (Au ..) (by simpa using hk)
   have ec:cellOf env n=pure c:=by unfold cellOf;rw[hc]
   obtain⟨cl,e1,e2,e3,e4⟩:=MC r ((n,c)::cs) (λy hy=>h1 y (Av _ hy)) (λx d hx=>by
    rw[BI]at hx;split at hx
    .rename_i hb
     have:x=n:=by simpa using hb
     cases hx;rw[this];exact hc
    .exact h2 x d hx)
   refine⟨cl,?_,e2,λx hx=>e3 x ?_,λy hy hf=>?_⟩
   .simp only[hk,if_true,ec,pure_bind]
    exact e1
   .rw[BI]
    split
    .rfl
    .exact hx
   .rcases Ao.mp hy with e|hy
    .subst e
     exact e3 n (by rw[BI];simp)
    .exact e4 y hy hf
  .obtain⟨cl,e1,e2,e3,e4⟩:=MC r cs (λy hy=>h1 y (Av _ hy)) h2
   refine⟨cl,?_,e2,e3,λy hy hf=>?_⟩
   .simp only[hk,if_false,pure_bind,CM]
    exact e1
   .rcases Ao.mp hy with e|hy
    .subst e
     exact absurd (by simpa using hf) hk
    .exact e4 y hy hf
theorem MX(h:∀y∈scope.names,y.2=.free->∃c,env.cells.lookup y.1=some c):∃cl,closureFor scope env=pure cl/\(∀x c,cl.lookup x=some c->env.cells.lookup x=some c)/\∀y∈scope.names,y.2=.free->(cl.lookup y.1).isSome=true:=by
 obtain⟨cl,e1,e2,_,e4⟩:=MC (env:=env) scope.names [] h (λx c hx=>by simp at hx);refine⟨cl,?_,e2,e4⟩;unfold closureFor;exact(congrArg (λm:Sem (List (Str×Addr))=>m >>= λcs=>pure cs) e1).trans (pure_bind cl λcs=>pure cs)
theorem cf.chg{F' H':J}(x:cf F H F' H')(o:HO)(h1:H p=none)(h2:F' p=none)(h3:∀u,H' p=some u->EB u=true):cf F H F' (upd H' p o) :=
 ⟨x.ff,λb q z=>by
  have hb:b≠p:=Cp z h1;have y:=x.hh b q z;unfold Ci at y ⊢;rw[Zt hb];exact y,λb q z=>by rw[Zt (Cp z h2)];exact x.sub b q z,x.new,λt=>(x.tab t).keep λa u z hu=>by
   have ha:a≠p:=λe=>by subst e;exact Oi (h3 u z) hu
   rw[Zt ha];exact z,x.nts⟩
theorem At.push{d:PyData}{v:V}(e:At K F0 H0 F H r Y)(q:b7 K F d v):At K F0 H0 F H (some (.pl d)::r) (some v::Y):=by
 obtain⟨fp,e⟩:=e;refine⟨λi=>match i with|0=>[]|i+1=>fp i,e.ext,by rw[A2,A2,e.len],λi b h=>?_,λi h=>?_,λi a h=>?_,λi=>?_,λi j a kX h=>?_,e.tb,e.nt⟩
 .cases i with
  |zero=>rw[DV]at h;cases h;exact⟨v,rfl,.pl q⟩
  |succ i=>rw[Bo]at h;obtain⟨u,h1,h2⟩:=e.at_ i b h;exact⟨u,by rw[Bo];exact h1,h2⟩
 .cases i with
  |zero=>rfl
  |succ i=>exact e.emp i λb z=>h b (by rw[Bo];exact z)
 .cases i with
  |zero=>simp at h
  |succ i=>exact e.own i a h
 .cases i with
  |zero=>exact Dr
  |succ i=>exact e.nd i
 .cases i with
  |zero=>simp at h
  |succ i =>
   cases j with
   |zero=>simp
   |succ j=>exact e.dis i j a (by omega) h
theorem At.chgNew(o:HO){Hs Fs:J}(e:At K F0 H0 F H r Y)(es:At K F0 H0 Fs Hs r Y)(hs:A9 Hs H)(h1:Hs p=none)(h2:F p=none)(h3:∀u,H p=some u->EB u=true):At K F0 H0 F (upd H p o) r Y:=by
 obtain⟨fp,e⟩:=e;obtain⟨fq,es⟩:=es;have hp:∀i,¬p∈fp i:=λi hm=>by
  obtain⟨b,hb⟩:=e.bound hm;obtain⟨v,q1,q2⟩:=e.at_ i b hb;obtain⟨v',q3,q4⟩:=es.at_ i b hb;rw[q1]at q3;cases q3;generalize fp i=f1 at q2 hm;generalize fq i=f2 at q4;cases q2 with
  |pl _=>simp at hm
  |hd _ _ _ _=>simp at hm
  |hf _=>simp at hm
  |ol k _=>cases q4 with|ol k' _=>simp at hm;subst hm;rw[h1]at k';cases k'
  |ok k _ _=>cases q4 with|ok k' _ _=>simp at hm;subst hm;rw[h1]at k';cases k'
  |ot k _ _=>cases q4 with|ot k' _ _=>simp at hm;subst hm;rw[h1]at k';cases k'
  |otl k _ v1 _ =>
   cases q4 with
   |otl k' hk' v2 r2' =>
    have eo:=hs.back k' k λ_ z=>by cases z
    cases eo;have v2':=v2;rw[v1]at v2;rcases Ao.mp hm with z2|z2
    .subst z2;rw[h1]at k';cases k'
    .have:V.ref p∈Gh V.ref _:=Aj.mpr ⟨p,z2,rfl⟩
     rw[v2]at this;obtain⟨a',m1,m2⟩:=Aj.mp this;injection m2 with m2
     subst m2;obtain⟨o,ho⟩:=Z8.there (Z8.otl k' hk' v2' r2') (Av _ m1);rw[h1]at ho;cases ho
 have oH:H0 p=none:=es.ext.hh.free h1;refine⟨fp,e.ext.chg o oH h2 h3,e.len,λi b h=>?_,e.emp,e.own,e.nd,e.dis,e.tb,e.nt⟩;obtain⟨v,q1,q2⟩:=e.at_ i b h;refine⟨v,q1,q2.mono (Zo.refl F) λa ha o' z=>?_⟩;have dr:a≠p:=λe=>hp i (by rw[<-e];exact ha);exact .of (by rw[Zt dr];exact z)
end
section
variable{pv:Cx}{H H1:J}{Y:L2.St}{bT:List (Addr×Obj)}{fp:List Addr}{s s2:Shared}
structure C0(X:Cx)(N:List Str)(scope:Scope)(fr:List Str):Prop where
 kind:scope.kind=.function
 cell:∀y∈scope.names,y.2≠.cell
 names:∀y∈scope.names,y.2=.local->scope.names.lookup y.1=some .local
 loc:∀x∈fr,scope.names.lookup x=some .local
 first:∀(i:Nat) (x:Str),fr[i]?=some x->N[i]?=some x
 nd:N.Nodup
 len:N.length=X.N.length+fr.length
 cap:∀y∈scope.names,y.2=.free->X.env.kindOf y.1=some .cell\/X.env.kindOf y.1=some .free
 same:∀(i:Nat) (y:Str),N[i+fr.length]?=some y->scope.names.lookup y=some .free->X.N[i]?=some y
 vis:∀(i:Nat) (y:Str),N[i+fr.length]?=some y->d6 scope y->scope.names.lookup y=some .free
def eV(dh:PyData->Option (List PyData))(c:HM.TF)(e:HM.EF)(r:HM.Env):List PyData->Option (List PyData)
 |[]=>some []
 |x::xs=>match dh x with
  |some ys=>match c (ys.map (λd=>some (HM.B.pl d))++r)with
   |some true=>match e (ys.map (λd=>some (HM.B.pl d))++r)with
    |some y=>(eV dh c e r xs).map (y::·)
    |none=>none
   |some false=>eV dh c e r xs
   |none=>none
  |none=>none
def D0(dh:PyData->Option (List PyData))(i:HM.IF)(c:HM.TF)(e:HM.EF):HM.BF:=λr=>match i r with
 |some xs=>if xs.length<HM.big then(eV dh c e r xs).map λys=>HM.B.ol ys else none
 |none=>none
def EM(pv:Cx)(m:Nat)(tg:Expr)(dh:PyData->Option (List PyData)):Prop:=∀(bT:List (Addr×Obj)) (s:Shared) (Y:L2.St) (sv:List (Option V)) (H F:J) (d:PyData) (ys:List PyData) (xv:V) (u:Value),sv.length=m->Inv pv bT (sv++Y) H s->RelV xv u->Zo F H->b7 pv.K F d xv->dh d=some ys ->
 wpAny (model pv.prog pv.w) pv.A (assign tg pv.env u) (λ_ s'=>∃vs:List V,vs.length=m/\Inv pv bT (vs.map some++Y) H s'/\Zs pv.K F ys vs) pv.xe s
theorem At.pushes{K:Ad}{F0 H0 F H:J}{r:HM.Env}{Y:L2.St}:∀{ds:List PyData} {vs:List V},At K F0 H0 F H r Y->Zs K F ds vs->At K F0 H0 F H (ds.map (λd=>some (HM.B.pl d))++r) (vs.map some++Y)
 |[],vs,e,q=>by rw[q.nil_inv];exact e
 |d::ds,vs,e,q=>by obtain⟨v,us,rfl,r1,r2⟩:=q.cons_inv;exact(At.pushes e r2).push r1
section
variable{X:Cx}{N:List Str}{scope:Scope}{fr:List Str}{cl:List (Str×Addr)}{C:Addr}
theorem ZO{env:Env}{y:Str}{k:NameKind}:∀{names:List (Str×NameKind)},(names.map λ(n,k)=>if(k==DN&&env.scope.kind==.function&&env.kindOf n==some .cell)then(n,Er)else(n,k)).lookup y=some k ->names.lookup y=some k\/(k=.cell/\names.lookup y=some .free)
 |[],h=>by simp at h
 |(n,k')::r,h=>by
  have ih:=@ZO env y k r;rw[Am]at h;dsimp only at h
  by_cases hc:(k'==DN&&env.scope.kind==.function&&env.kindOf n==some .cell)=true
  .rw[if_pos hc,BI]at h
   rw[BI];split at h
   .cases h
    refine .inr ⟨rfl,?_⟩;have:(k'==DN)=true:=by rw[Bw,Bw]at hc;exact hc.1.1
    rw[show k'=DN by simpa using this]
   .exact ih h
  .rw[if_neg hc,BI]at h
   rw[BI];split at h
   .cases h
    exact .inl rfl
   .exact ih h
theorem ck{y:Str}{k:NameKind}:∀{names:List (Str×NameKind)},names.lookup y=some k->(y,k)∈names
 |[],h=>by simp at h
 |(n,k')::r,h=>by
  rw[BI]at h;split at h
  .cases h
   rename_i hb;rw[show y=n by simpa using hb];exact Au ..
  .exact Av _ (ck h)
theorem U6(T:C0 X N scope fr)(cE:∀y c,cl.lookup y=some c->X.env.cells.lookup y=some c)(eU:∀y∈scope.names,y.2=.free->(cl.lookup y.1).isSome=true)(I:Inv X bT Y H s)(hc:X.calm=true)(hf:∀b∈fp,Bq X bT H b)(dD:∀b∈fp,b<s.heap.objs.size)(hC:s.heap.objs.size<=C):(ZU X N scope cl C s H fp).Ok:=by
 refine⟨I.ok.mod,T.kind,I.ok.glob,I.ok.blt,hC,λy z c h1 h2=>I.ok.inj y z c (cE y c h1) (cE z c h2),λy h=>?_,λy c h=>?_,λ_=>I.ok.hd hc,I.ok.frames,.inl rfl,λb hb=>⟨?_,λy c h=>?_⟩,λb o h=>I.bs b o h,
  Ba I.ok.bsz I.sz,λb o h hb=>?_,λb hb hs=>?_,I.stack,I.stkFree⟩
 .have h':(relabel scope X.env).names.lookup y=some .cell\/(relabel scope X.env).names.lookup y=some .free:=h
  have hm:(y,DN)∈scope.names:=by
   rcases h' with h'|h'
   .rcases ZO h' with q|⟨_,q⟩
    .exact absurd rfl (T.cell _ (ck q))
    .exact ck q
   .rcases ZO h' with q|⟨e,_⟩
    .exact ck q
    .cases e
  exact GH.mp (eU _ hm rfl)
 .exact absurd h (by show ¬false=true;simp)
 .exact Al (AW (dD b hb) hC)
 .obtain⟨_,_,_,_,q,_⟩:=hf b hb
  exact q y c (cE y c h)
 .obtain⟨_,_,_,q,_⟩:=hf b hb
  rcases q with q|q
  .exact I.ok.noex b o h q
  .exact absurd (AW (Ah h) (Ba I.ok.bsz q)) (Es _)
 .obtain⟨_,q1,q2,_⟩:=hf b hb
  rcases Ao.mp (I.stkSub b hs)with z|z
  .exact q1 z
  .exact q2 z
theorem O8{D:Addr}{h1:Heap}{tk:Nat}(T:C0 X N scope fr)(cE:∀y c,cl.lookup y=some c->X.env.cells.lookup y=some c)(eU:∀y∈scope.names,y.2=.free->(cl.lookup y.1).isSome=true)(I:Inv X bT Y H s)(hc:X.calm=true)(hf:∀b∈fp,Bq X bT H b)(dD:∀b∈fp,b<s.heap.objs.size)(hD:s.heap.objs.size=D)(hC:D<C)(ns:h1.Ns C (λ_=>none))(hl:h1.get? D=some {cls:=.type "list",data:=.seq #[] 0})(k:∀b o,s.heap.get? b=some o->h1.get? b=some o):Inv (ZU X N scope cl C s H fp) [] (Ak fr.length none++Y) (upd H D (.lst [])) {s with heap:=h1,toks:=tk}:=by
 have hn:H D=none:=I.hok.fresh (Dc hD);have dQ:s.heap.objs.size<=C:=Ba (Dc hD) (CP hC);have fW:H C=none:=I.hok.fresh dQ;refine⟨U6 T cE eU I hc hf dD dQ,rfl,I.bare,Un.laid k (Dc hD) hn,⟨_,ns,λi y v e1 e2 e3=>?_⟩,λy c h=>?_,?_,λy c h=>?_,λp hp=>absurd (show p∈([]:List (Addr×Obj)) from hp) (by simp),I.hok.laid k (Dc hD) ⟨CA _,[],0,.nil,hl⟩,?_⟩
 .have n8:fr.length<=i:=by
   apply Gx;intro cq;rw[Cd (by rw[Bh];exact cq),Gu,if_pos cq]at e2;cases e2
  rw[Ce (by rw[Bh];exact n8),Bh]at e2;obtain⟨j,rfl⟩:∃j,i=j+fr.length:=⟨i-fr.length,by omega⟩;rw[Nat.add_sub_cancel]at e2
  .have e3':d6 scope y:=by
    have e3:d6 (relabel scope X.env) y:=e3;rcases e3 with q|q|q
    .rcases ZO q with q|⟨z,_⟩
     .exact .inl q
     .cases z
    .rcases ZO q with q|⟨_,q⟩
     .exact .inr (.inl q)
     .exact .inr (.inr q)
    .rcases ZO q with q|⟨z,_⟩
     .exact .inr (.inr q)
     .cases z
   have cK:=T.vis j y e1 e3';have hm:=ck cK;have hN:=T.same j y e1 cK;have eZ:=T.cap _ hm rfl;obtain⟨m,_,hl⟩:=I.loc;obtain⟨u,ru,lu⟩:=hl j y v hN e2 (by
    rcases eZ with q|q
    .exact .inr (.inl q)
    .exact .inr (.inr q))
   refine⟨u,ru,?_⟩;obtain⟨c,fV⟩:=GH.mp (eU _ hm rfl);rcases lu with⟨q,_⟩|⟨_,c',e,z⟩
   .rcases eZ with q'|q'<;>(rw[q']at q;cases q)
   .refine .inr ⟨?_,c,fV,?_⟩
    .rcases e3 with q|q|q
     .have q:(relabel scope X.env).names.lookup y=some .local:=q
      rcases ZO q with q|⟨z,_⟩
      .rw[cK]at q;cases q
      .cases z
     .exact .inl q
     .exact .inr q
    .rw[cE y c fV]at e
     cases e;obtain⟨o,ho,hd⟩:=z;exact⟨o,k _ _ ho,hd⟩
 .obtain⟨v,o,ho,hd⟩:=I.cell y c (cE y c h)
  exact⟨v,o,k _ _ ho,hd⟩
 .show upd H D (.lst []) C=none
  rw[Zt (Df hC)];exact fW
 .have hq:=I.freeC y c (cE y c h)
  obtain⟨v,o,ho,_⟩:=I.cell y c (cE y c h);have:c≠D:=Al (by rw[<-hD];exact Ah ho);rw[Zt this];exact hq
 .show(Ak fr.length none++Y).length=N.length
  rw[Az,Bh,I.len,T.len,HV]
def gr(pv:Cx)(cT:List Expr)(f:HM.TF):Prop:=∀r c,f r=some c->∀(bT:List (Addr×Obj)) (s:Shared) (Y:L2.St) (H:J) (Q:Bool->J->Prop),Inv pv bT Y H s->(fH pv.K r Y H λF0 H0 F=>∀F' H',cf F H F' H'->Q c H') ->
 wpAny (model pv.prog pv.w) pv.A (OT cT pv.env) (TP pv bT Y Q) pv.xe s
theorem A8:gr pv [] HM.Zw:=by intro r c h bT s Y H Q I ⟨F0,H0,F,at_,k⟩;cases h;exact wpAny_tests_nil ⟨H,I,k F H at_.refl⟩
theorem LH{e:Expr}{f:HM.TF}(h:XT pv e f):gr pv [e] f:=λr c hc bT s Y H Q I q=>wpAny_tests_one (h r c hc bT s Y H Q I q)
def ig(K:Ad)(pA:It)(ds:List PyData)(F:J):Prop:=∀F' H,Zo F F'->Zo F' H ->
 (∀(i:Nat) (d:PyData),ds[i]?=some d->pA.go i H/\∀x H',pA.yld i H x H'->∃F2,cf (Ax F' H) H F2 H'/\b7 K F2 d x)/\pA.stop ds.length H
theorem iI.e{K:Ad}{pA:It}{ds:List PyData}{F:J}(h:iI K pA ds F):ig K pA ds F:=λF' H s1 s2=>by obtain⟨a,b⟩:=h F' H s1 s2;refine⟨λi d hd=>⟨(a i d hd).1,λx H' hy=>?_⟩,b⟩;obtain⟨e,r⟩:=(a i d hd).2 x H' hy;subst e;exact⟨_,.refl (cf.refl s2).tups.sub,r⟩
def iZ(X:Cx)(tg e:Expr)(f:HM.IF):Prop:=∀r ds,f r=some ds->PI X tg e λY H R=>fH X.K r Y H λF0 H0 F=>∀pA F' H',cf F H F' H'->ig X.K pA ds F'->R pA H'
theorem XI.e{X:Cx}{tg e:Expr}{f:HM.IF}(h:XI X tg e f):iZ X tg e f:=λr ds hr bT s Y H R I ⟨F0,H0,F,at_,k⟩=>h r ds hr bT s Y H R I ⟨F0,H0,F,at_,λpA F' H' x q=>k pA F' H' x q.e⟩
theorem PN{it D:Addr}{tn:Nat->Heap->Prop}{pA:It}{c9 iter:Expr}{cT:List Expr}{tg:Expr}{pos:Pos}{dh:PyData->Option (List PyData)}{fc:HM.TF}{fe:HM.EF}{s4:Shared}{r:HM.Env}{ds out:List PyData}{Fs Hs F0 H0 F1:J}{R:Result->Shared->Prop}(T:C0 X N scope fr)(I2:Inv X bT Y H1 s2)(W:e9 X.prog X.w X.K tg pA fp it tn)(hf:∀b∈fp,Bq X bT H1 b)(I4:Inv (ZU X N scope cl C s2 H1 fp) [] (Ak fr.length none++Y) (upd H1 D (.lst [])) s4)(ky:tn 0 s4.heap)(hD:s2.heap.objs.size<=D)(dD:∀b∈fp,b<s2.heap.objs.size)(j9:X.calm=true)(hc:gr (ZU X N scope cl C s2 H1 fp) cT fc)(he:XE (ZU X N scope cl C s2 H1 fp) c9 fe)(at_:At X.K F0 H0 Fs Hs r Y)(x1:cf Fs Hs F1 H1)(gA:ig X.K pA ds F1)(cR:EM (ZU X N scope cl C s2 H1 fp) fr.length tg dh)(d9:ds.length<HM.big)(go:eV dh fc fe r ds=some out)(hR:∀s',(∃F H vs,Inv (ZU X N scope cl C s2 H1 fp) [] (Ak fr.length none++Y) H s'/\cf Fs Hs F H/\H D=some (.lst vs)/\F D=none/\Zs X.K F out vs)->R (.ok .next) s'):codeAny (model X.prog X.w) X.A (.compLoop (.ListComp c9 [⟨tg,iter,cT,0⟩] scope pos) 0 (.ref it) (.ref D) (E8 scope cl C X.env)) R s4:=by
 have eh:H1 D=none:=I2.hok.fresh hD;have dG:Hs D=none:=x1.hh.free eh;have iO:F1 D=none:=x1.sub.free eh;have iN:∀b∈fp,b≠D:=λb hb=>Al (AW (dD b hb) hD);have ir:=I4.ok;have dF:∀{H:J},(∀b∈fp,H b=none)->∀b∈fp,Bq (ZU X N scope cl C s2 H1 fp) [] H b:=λhn b hb=>⟨hn b hb,(ir.exf b hb).1,ir.exfs b hb,.inl hb,(ir.exf b hb).2,λp hp=>absurd (show p∈([]:List (Addr×Obj)) from hp) (by simp)⟩;refine Qc (λn s'=>∃(j:Nat) (sv:List (Option V)) (F H:J) (ys:List PyData) (vs:List V) (rest:List PyData),sv.length=fr.length/\Inv (ZU X N scope cl C s2 H1 fp) [] (sv++Y) H s'/\tn j s'.heap/\(∀b∈fp,H b=none)/\cf Fs Hs F H/\Zo F1 F/\At X.K F0 H0 F H r Y /\
  H D=some (.lst vs)/\F D=none/\Zs X.K F ys vs/\j+n=ds.length/\ys.length<=j/\eV dh fc fe r (ds.drop j)=some rest/\out=ys++rest) ?_ ds.length
  ⟨0,Ak fr.length none,F1,_,[],[],out,Bh,I4,ky,λb hb=>by rw[Zt (iN b hb)];exact(hf b hb).1,x1.lay' eh,Zo.refl _,(at_.grow x1).grow ((at_.grow x1).refl.lay' eh),ZA,iO,.nil,by omega,Af _,go,rfl⟩
 rintro n s5 ⟨j,sv,F,H,ys,vs,rest,fD,I5,tn5,hfp5,x5,sF,de,eE,fE,eB,hjn,hyl,cC,hout⟩
 obtain⟨fR,fQ⟩:=gA F H sF de.sub;cases n with
 |zero =>
  have ej:j=ds.length:=by omega
  subst ej;rw[Iz]at cC;cases cC;rw[B1]at hout;subst hout;refine b9 (W.done (ZU X N scope cl C s2 H1 fp) rfl rfl rfl rfl _ [] s5 _ H No I5 (dF hfp5) tn5 fQ) λrv s6 ⟨e,I6⟩=>?_;subst e;refine hR s6 ⟨F,H,vs,I6.weak (by rw[Az,Az,Bh,fD]) λi v hv=>?_,x5,eE,fE,eB⟩
  by_cases hi:i<fr.length
  .rw[Cd (by rw[Bh];exact hi),Gu,if_pos hi]at hv
   cases hv
  .rw[Ce (by rw[Bh];omega),Bh]at hv
   rw[Ce (by omega),fD];exact hv
 |succ n =>
  have cq:j<ds.length:=by omega
  obtain⟨jg,jy⟩:=fR j ds[j] (AB cq);obtain⟨F2,x5,sF,de,fE,eB,jy⟩:∃F2,cf Fs Hs F2 H/\Zo F1 F2/\At X.K F0 H0 F2 H r Y/\F2 D=none/\Zs X.K F2 ys vs/\∀x H',pA.yld j H x H'->∃F3,cf F2 H F3 H'/\b7 X.K F3 ds[j] x :=
   ⟨Ax F H,x5.tups,sF.trans (BE de.sub),de.grow de.refl.tups,by unfold Ax;rw[eE];exact fE,eB.mono (BE de.sub),jy⟩
  clear fR fQ
  rw[GI cq]at cC;refine b9 (W.item (ZU X N scope cl C s2 H1 fp) rfl rfl rfl rfl j [] s5 _ H No I5 (dF hfp5) tn5 jg) λrv s6 ⟨u,e,h6⟩=>?_;subst e;refine b9 h6 λ_ s7 ⟨xv,H7,I7,r7,y7,tn7,fr7⟩=>?_;obtain⟨F7,x7,rx⟩:=jy xv H7 y7;obtain⟨F2,x5,sF,de,eE,fE,eB,rx⟩:∃F2,cf Fs Hs F2 H7/\Zo F1 F2/\At X.K F0 H0 F2 H7 r Y/\H7 D=some (.lst vs)/\F2 D=none/\Zs X.K F2 ys vs/\b7 X.K F2 ds[j] xv:=by
   refine⟨F7,x5.trans x7,sF.trans x7.ff,de.grow x7,x7.hh _ _ eE,?_,eB.mono x7.ff,rx⟩;cases q:F7 D with
   |none=>rfl
   |some o =>
    rcases x7.new D o q with z|z
    .rw[fE]at z;cases z
    .exact(z.no eE λ_ q=>by cases q).elim
  have I7':=I7.pinned (dF fr7) (W.obj _ _ tn7);unfold eV at cC;split at cC
  case h_2=>cases cC
  rename_i zs kF;have lj:=cR _ s7 Y sv H7 F2 ds[j] zs xv u fD I7' r7 de.sub rx kF;refine b9 lj λ_ s8 ⟨ws,hws,I8,rws⟩=>?_;have iE:=de.pushes rws;have again:∀{s9:Shared} {F9 H9:J} {zs9:List PyData} {gu:List V} {rest':List PyData},Inv (ZU X N scope cl C s2 H1 fp) ([]++Fy fp s7.heap) (ws.map some++Y) H9 s9->cf Fs Hs F9 H9->Zo F2 F9->At X.K F0 H0 F9 H9 r Y->H9 D=some (.lst gu)->F9 D=none->Zs X.K F9 zs9 gu->zs9.length<=j+1->eV dh fc fe r (ds.drop (j+1))=some rest'->out=zs9++rest' ->
    ∃m,m<n+1/\∃(j:Nat) (sv:List (Option V)) (F2 H:J) (ys:List PyData) (vs:List V) (rest:List PyData),sv.length=fr.length/\Inv (ZU X N scope cl C s2 H1 fp) [] (sv++Y) H s9/\tn j s9.heap/\(∀b∈fp,H b=none)/\cf Fs Hs F2 H/\Zo F1 F2/\At X.K F0 H0 F2 H r Y /\
     H D=some (.lst vs)/\F2 D=none/\Zs X.K F2 ys vs/\j+m=ds.length/\ys.length<=j/\eV dh fc fe r (ds.drop j)=some rest/\out=ys++rest:=by
   intro s9 F9 H9 zs9 gu rest' I9 x9 kA a9 h9 f9 r9 l9 g9 o9;refine⟨n,DR n,j+1,ws.map some,F9,H9,zs9,gu,rest',by rw[Ae];exact hws,I9.unpinned,W.keep _ _ _ tn7 λb hb o e=>(I9.pin (b,o) (A1 _ (A1 _ (FU hb e)))).1,λb hb=>?_,x9,sF.trans kA,a9,h9,f9,r9,by omega,l9,g9,o9⟩;obtain⟨o,e,d⟩:=W.obj _ _ tn7 b hb;exact(I9.pin (b,o) (A1 _ (A1 _ (FU hb e)))).2.1
  have je:∀{F' H':J},cf F2 H7 F' H'->F' D=none:=λ{F' H'} y=>by
   cases q:F' D with
   |none=>rfl
   |some o =>
    rcases y.new D o q with z|z
    .rw[fE]at z;cases z
    .exact(z.no eE λ_ q=>by cases q).elim
  split at cC
  .rename_i iC
   split at cC
   .rename_i y hy
    obtain⟨rest',g1,g2⟩:=An.mp cC;subst g2;refine b9 (hc _ _ iC _ s8 _ H7 (λc' H'=>c'=true/\∃F',cf F2 H7 F' H') I8 ⟨F0,H0,F2,iE,λF' H' y=>⟨rfl,F',y⟩⟩) λok s9 ⟨H9,I9,eok,F9,x9⟩=>?_;subst eok;rw[if_pos rfl];refine b9 (he _ _ hy _ s9 _ H9 (λv' H'=>∃F',cf F9 H9 F' H'/\b7 X.K F' y v') I9 ⟨F0,H0,F9,iE.grow x9,λv' F' H' x q=>⟨F',x,q⟩⟩) λu' s10 ⟨v',H10,I10,r10,F10,x10,jc⟩=>?_;have cZ:=x9.trans x10;have hHD':H10 D=some (.lst vs):=cZ.hh _ _ eE;have hFD':=je cZ;refine b9 (Jz (X:=ZU X N scope cl C s2 H1 fp) _ s10 _ H10 (.ref D) [v'] (.ref D) [u'] (λ_ H'=>H'=upd H10 D (.lst (vs++[v']))) I10 rfl (.cons r10 .nil) ⟨D,vs,v',rfl,rfl,hHD',?_,rfl⟩) λ_ s11 ⟨_,H11,I11,_,e11⟩=>?_
    .have:=eB.1
     exact Jk (by omega)
    subst e11;refine again (zs9:=ys++[y]) I11 ((x5.trans cZ).chg _ dG hFD' λu z=>by rw[hHD']at z;cases z;rfl) cZ.ff ((de.grow cZ).chgNew _ at_ (x5.trans cZ).hh dG hFD' λu z=>by rw[hHD']at z;cases z;rfl) ZA hFD' ((eB.mono cZ.ff).append (.one jc)) (by rw[Az];show ys.length+1<=j+1;omega) g1 (by rw[hout,Cc];rfl)
   .cases cC
  .rename_i iC
   refine b9 (hc _ _ iC _ s8 _ H7 (λc' H'=>c'=false/\∃F',cf F2 H7 F' H') I8 ⟨F0,H0,F2,iE,λF' H' y=>⟨rfl,F',y⟩⟩) λok s9 ⟨H9,I9,eok,F9,x9⟩=>?_;subst eok;rw[if_neg (by simp)];exact again (zs9:=ys) I9 (x5.trans x9) x9.ff (de.grow x9) (x9.hh _ _ eE) (je x9) (eB.mono x9.ff) (by omega) cC hout
  .cases cC
theorem Pq{s':Shared}{sv:List (Option V)}{h':Heap}(I2:Inv X bT Y H1 s2)(hf:∀b∈fp,Bq X bT H1 b)(hC:s2.heap.objs.size<=C)(I:Inv (ZU X N scope cl C s2 H1 fp) [] (sv++Y) H s')(hs:Cy C s'.heap h'):Inv X bT Y H {s' with heap:=h'}:=by
 have u:Un (fF X.stack) fp H1 H s2.heap s'.heap:=I.base;have fW:H C=none:=I.free;have ne:∀b o,s2.heap.get? b=some o->b≠C:=λb o e=>Al (AW (Ah e) hC);refine I2.call' (s':={s' with heap:=h'}) (ch:=fp) I.os ⟨λb o e n hb hx=>(hs.2 b (ne b o e)).trans (u.keep b o e n hb hx),λb o e n hb hx=>?_,u.free,λb o e hx=>?_,u.tups,u.frzs,u.tbls⟩ (λb o e=>?_) I.bare λb hb=>?_
 .obtain⟨sl,q⟩:=u.slot b o e n hb hx
  exact⟨sl,(hs.2 b (ne b o e)).trans q⟩
 .obtain⟨o',q⟩:=u.there b o e hx
  exact⟨o',(hs.2 b (ne b o e)).trans q⟩
 .refine(I.hok b o e).stay (λc w' hc q=>(hs.2 c ?_).trans q) (λ_ q=>q) λ_ _ q=>q
  rintro rfl
  rcases hc with rfl|hc
  .rw[fW]at e;cases e
  .rw[fW]at hc;cases hc
 .obtain⟨q0,q1,q2,q3,q4,q5⟩:=hf b hb
  exact⟨q3,q1,q4,q5⟩
variable{c9 iter:Expr}{cT:List Expr}{tg:Expr}{pos:Pos}{fi:HM.IF}{dh:PyData->Option (List PyData)}{fc:HM.TF}{fe:HM.EF}
theorem Pu(T:C0 X N scope fr)(I:Inv X bT Y H s):∀y∈scope.names,y.2=.free->∃c,X.env.cells.lookup y.1=some c:=λy hy e=>I.ok.has y.1 (T.cap y hy e)
theorem Vd(dZ:X.xe=λ_ _=>False)(cD:X.calm=true)(T:C0 X N scope fr)(cR:∀cl C s H ex,EM (ZU X N scope cl C s H ex) fr.length tg dh)(hi:iZ X tg iter fi)(hc:∀cl C s H ex,gr (ZU X N scope cl C s H ex) cT fc)(he:∀cl C s H ex,XE (ZU X N scope cl C s H ex) c9 fe)(hs:∀x,Cz iter X.env x=pure x:=by intro _;rfl):XF X (.ListComp c9 [⟨tg,iter,cT,0⟩] scope pos) (D0 dh fi fc fe):=by
 intro r b h;unfold D0 at h;split at h
 .rename_i ds cI
  split at h
  .rename_i d9
   obtain⟨out,cC,e⟩:=An.mp h;subst e;intro bT s Y H Q I ⟨F0,H0,F,at_,k⟩;obtain⟨cl,eO,cE,eU⟩:=MX (Pu T I);rw[eval_ListComp];refine Kx (use:=none) rfl hs eO T.kind T.names (b9 (hi r ds cI bT s Y H (λpA H'=>∃F',cf F H F' H'/\ig X.K pA ds F') I ⟨F0,H0,F,at_,λpA F' H' x q=>⟨F',x,q⟩⟩) λv s1 h1=>b9 h1 λjj s2 h2=>?_);obtain⟨it,fp,tn,pA,H1,rfl,I2,W,gk,f2,F1,x1,gA⟩:=h2;have dD:∀b∈fp,b<s2.heap.objs.size:=λb hb=>let ⟨o,ho,_⟩:=W.obj 0 _ gk b hb;Ah ho
   refine BO (wpAny_newFunctionEnv T.cell (by intro y hy;simp at hy) (λh1 cW eT=>?_) T.kind);dsimp only at cW eT ⊢;generalize hP:s2.heap.push {cls:=.type "list",dict:=none,data:=.seq ([]:List Value).toArray}=h0 at cW eT ⊢;have hsz:h0.objs.size=s2.heap.objs.size+1:=by rw[<-hP,DP]
   have dQ:s2.heap.objs.size<h0.objs.size:=by rw[hsz];exact DR _
   have eD:∀b o,s2.heap.get? b=some o->h1.get? b=some o:=λb o e=>eT.extBut b o (Al (CO (Ah e) dQ)) (Ap _ (by rw[<-hP];exact Ap _ e));have hl:h1.get? s2.heap.objs.size=some {cls:=.type "list",data:=.seq #[] 0}:=eT.extBut _ _ (Al dQ) (Ap _ (by rw[<-hP];exact AA _ rfl));have I4:Inv (ZU X N scope cl h0.objs.size s2 H1 fp) [] (Ak fr.length none++Y) (upd H1 s2.heap.objs.size (.lst [])) {s2 with heap:=h1,toks:=s2.toks+([]:List (Str×Value)).length}:=O8 T cE eU I2 cD f2 dD rfl dQ cW hl eD;have gY:tn 0 h1:=W.keep _ _ _ gk λb _ o e=>eD b o e;have dG:H s2.heap.objs.size=none:=x1.hh.free (I2.hok.fresh (Af _));have eI:codeAny (model X.prog X.w) X.A (.compLoop (.ListComp c9 [⟨tg,iter,cT,0⟩] scope pos) 0 (.ref it) (.ref s2.heap.objs.size) (E8 scope cl h0.objs.size X.env)) (compPost (model X.prog X.w) X.A X.xe none (EP X bT Y Q) (.ref s2.heap.objs.size) h0.objs.size)
     {s2 with heap:=h1,toks:=s2.toks+([]:List (Str×Value)).length}:=by
    refine PN T I2 W f2 I4 gY (Af _) dD cD (hc _ _ _ _ _) (he _ _ _ _ _) at_ x1 gA (cR _ _ _ _ _) d9 cC λs' ⟨F',H',vs,I',x',hD',hFD',rs⟩=>?_;obtain⟨m,hn,_⟩:=id I'.loc;refine⟨m,hn,λh2 dE=>⟨.ref s2.heap.objs.size,H',Pq I2 f2 (CP dQ) I' dE,rfl,k _ F' H' x' ⟨[s2.heap.objs.size],.ol hD' rs,by simp,λa ha=>?_⟩⟩⟩;obtain rfl:a=s2.heap.objs.size:=by simpa using ha
    exact⟨hFD',dG⟩
   exact Ks eI (W.self _ 0 _ _ _ gY eI)
  .cases h
 .cases h
theorem Xf(i:Nat){y:Str}{py fY:Pos}(hN:X.N.Nodup)(dZ:X.xe=λ_ _=>False)(cD:X.calm=true)(T:C0 X N scope fr)(cR:∀cl C s H ex,EM (ZU X N scope cl C s H ex) fr.length tg dh)(hi:iZ X tg iter fi)(hc:∀cl C s H ex,gr (ZU X N scope cl C s H ex) cT fc)(he:∀cl C s H ex,XE (ZU X N scope cl C s H ex) c9 fe)(kT:X.N[i]?=some y:=by rfl)(hy:X.env.scope.names.lookup y=some .local:=by rfl)(g7:Ct (.ListComp c9 [⟨tg,iter,cT,0⟩] scope pos) (some (.Name y py)) fY.line X.env=pure true:=by rfl)(hs:∀x,Cz iter X.env x=pure x:=by intro _;rfl):XS X (.Assign [.Name y py] (.ListComp c9 [⟨tg,iter,cT,0⟩] scope pos) fY) (HM.AY i (D0 dh fi fc fe)):=by
 intro r o h;obtain⟨b,hb,e⟩:=An.mp h;subst e;unfold D0 at hb;split at hb
 .rename_i ds cI
  split at hb
  .rename_i d9
   obtain⟨out,cC,e⟩:=An.mp hb;subst e;intro bT s Y H E I ⟨F0,H0,F,at_,k⟩;obtain⟨cl,eO,cE,eU⟩:=MX (Pu T I);rw[exec_Assign_Name_used _ _ _ _ g7];refine Aa (wpAny_standAt (Aa ?_));show wpAny _ X.A (do let _ <-comprehension (.ListComp c9 [⟨tg,iter,cT,0⟩] scope pos) scope X.env _ (newList []) false (eval iter X.env) (some (assign (.Name y py) X.env))) _ _ s;refine Aa (B5 (Kx (use:=some (assign (.Name y py) X.env)) (Q:=λ_ s'=>SP X bT E .next s') rfl hs eO T.kind T.names (b9 (hi r ds cI bT s Y H (λpA H'=>∃F',cf F H F' H'/\ig X.K pA ds F') I ⟨F0,H0,F,at_,λpA F' H' x q=>⟨F',x,q⟩⟩) λv s1 h1=>b9 h1 λjj s2 h2=>?_)) (λ_ s' hq=>Ac (Ac hq)) λ_ _ e=>e)
   obtain⟨it,fp,tn,pA,H1,rfl,I2,W,gk,f2,F1,x1,gA⟩:=h2;have dD:∀b∈fp,b<s2.heap.objs.size:=λb hb=>let ⟨o,ho,_⟩:=W.obj 0 _ gk b hb;Ah ho
   refine BO (wpAny_newFunctionEnv T.cell (by intro y hy;simp at hy) (λh1 cW eT=>?_) T.kind);dsimp only at cW eT ⊢;generalize hP:s2.heap.push {cls:=.type "list",dict:=none,data:=.seq ([]:List Value).toArray}=h0 at cW eT ⊢;have hsz:h0.objs.size=s2.heap.objs.size+1:=by rw[<-hP,DP]
   have dQ:s2.heap.objs.size<h0.objs.size:=by rw[hsz];exact DR _
   have eD:∀b o,s2.heap.get? b=some o->h1.get? b=some o:=λb o e=>eT.extBut b o (Al (CO (Ah e) dQ)) (Ap _ (by rw[<-hP];exact Ap _ e));have hl:h1.get? s2.heap.objs.size=some {cls:=.type "list",data:=.seq #[] 0}:=eT.extBut _ _ (Al dQ) (Ap _ (by rw[<-hP];exact AA _ rfl));have I4:Inv (ZU X N scope cl h0.objs.size s2 H1 fp) [] (Ak fr.length none++Y) (upd H1 s2.heap.objs.size (.lst [])) {s2 with heap:=h1,toks:=s2.toks+([]:List (Str×Value)).length}:=O8 T cE eU I2 cD f2 dD rfl dQ cW hl eD;have gY:tn 0 h1:=W.keep _ _ _ gk λb _ o e=>eD b o e;have dG:H s2.heap.objs.size=none:=x1.hh.free (I2.hok.fresh (Af _));have eI:codeAny (model X.prog X.w) X.A (.compLoop (.ListComp c9 [⟨tg,iter,cT,0⟩] scope pos) 0 (.ref it) (.ref s2.heap.objs.size) (E8 scope cl h0.objs.size X.env)) (compPost (model X.prog X.w) X.A X.xe (some (assign (.Name y py) X.env)) (λ_ s'=>SP X bT E .next s') (.ref s2.heap.objs.size) h0.objs.size)
     {s2 with heap:=h1,toks:=s2.toks+([]:List (Str×Value)).length}:=by
    refine PN T I2 W f2 I4 gY (Af _) dD cD (hc _ _ _ _ _) (he _ _ _ _ _) at_ x1 gA (cR _ _ _ _ _) d9 cC λs' ⟨F',H',vs,I',x',hD',hFD',rs⟩=>?_;obtain⟨m,hn,_⟩:=id I'.loc;have IX:Inv X bT Y H' s':=Pq (h':=s'.heap) I2 f2 (CP dQ) I' (Nl _ _);have fW:H' h0.objs.size=none:=I'.free;have jh:h0.objs.size≠X.env.locals:=Df (CO I2.lt dQ);have iw:∀z c,X.env.cells.lookup z=some c->c≠h0.objs.size:=λz c hz=>by obtain⟨v,o,ho,_⟩:=I2.cell z c hz;exact Al (CO (Ah ho) dQ)
    have nv:∀p∈X.pn++bT,p.1≠h0.objs.size:=λp hp=>Al (CO (Ah (I2.pin p hp).1) dQ);show wpAny _ X.A (assign (.Name y py) X.env (.ref s2.heap.objs.size)) _ _ _;refine wpAny_assign_Name (P6 IX hN kT (.inl hy) (v:=.ref s2.heap.objs.size) rfl (λs3 I3 nM=>?_) (.inr hy));obtain⟨a,sa,ea⟩:=nM;have ny:h0.objs.size≠a:=by
     rcases ea with e|e
     .rw[e];exact jh
     .exact AH (iw _ _ e)
    refine⟨m,hn.sameBut sa ny,λh2 dE=>?_⟩;refine⟨_,H',I3.turned (t':=s3.toks) (it:=h0.objs.size) (λb o hb e=>(dE.2 b hb).trans e) fW jh (.inr (Ba I2.sz (CP dQ))) iw nv,k _ F' H' ((at_.grow x').storeNew at_ x'.hh (fp':=[s2.heap.objs.size]) (.ol hD' rs) (by simp) λa ha=>?_)⟩;obtain rfl:a=s2.heap.objs.size:=by simpa using ha
    exact⟨hFD',dG⟩
   exact Ks eI (W.self _ 0 _ _ _ gY eI)
  .cases hb
 .cases hb
end
end
def IS(d:PyData):Option (List PyData):=some [d]
theorem N7(c:HM.TF)(e:HM.EF)(r:HM.Env):∀xs,HM.Z4 c e r xs=eV IS c e r xs
 |[]=>rfl
 |x::xs=>by unfold HM.Z4 eV;rw[N7 c e r xs];rfl
theorem LA(i:HM.IF)(c:HM.TF)(e:HM.EF):HM.Zp i c e=D0 IS i c e:=by
 funext r
 unfold HM.Zp D0;cases i r with
 |none=>rfl
 |some xs=>dsimp only;rw[N7]
theorem L1{K:Ad}{F:J}{d1 d2:PyData}{v:V}(h:b7 K F (.tuple [d1,d2]) v):∃a v1 v2,v=.ref a/\F a=some (.tup [v1,v2])/\b7 K F d1 v1/\b7 K F d2 v2:=by
 cases h with
 | @tup a ds vs h1 h2 h3 =>
  cases vs with
  |nil=>simp at h2
  |cons v1 vs=>cases vs with
   |nil=>simp at h2
   |cons v2 vs=>cases vs with
    |nil=>exact⟨a,v1,v2,rfl,h1,h3 0 _ _ rfl rfl,h3 1 _ _ rfl rfl⟩
    |cons _ _=>simp at h2
section
variable{X:Cx}{N:List Str}{scope:Scope}{x x2:Str}{px px2 pt:Pos}{kt:Nat}
theorem Oh(T:C0 X N scope [x])(cl:List (Str×Addr))(C:Addr)(s₀:Shared)(H₀:J)(ex:List Addr):EM (ZU X N scope cl C s₀ H₀ ex) 1 (.Name x px) IS:=by
 intro bT s Y sv H F d ys xv u fD I r sub q hd;cases hd;have hx:=T.loc x (AR.mpr rfl);refine b9 (CF (X:=ZU X N scope cl C s₀ H₀ ex) (i:=0) T.nd (T.first 0 x rfl) (.inl (lookup_relabel_local hx)) (.inr (lookup_relabel_local hx)) _ s _ H xv u (λσ' H'=>σ'=(sv++Y).set 0 (some xv)/\H'=H) I r ⟨rfl,rfl⟩) λ_ s' ⟨σ',H',I',e1,e2⟩=>?_
 subst e1 e2;refine⟨[xv],rfl,?_,.one q⟩;cases sv with
 |nil=>simp at fD
 |cons a sv=>cases sv with
  |nil=>exact I'
  |cons _ _=>simp at fD
def Ol(eN:Str->Option NameKind)(XN N:List Str)(names:List (Str×NameKind))(fr:List Str):Bool :=
 names.all (λy=>y.2 != .cell)&&names.all (λy=>y.2 != .local||names.lookup y.1==some .local)&&fr.all (λx=>names.lookup x==some .local)&&(Ab fr.length).all (λi=>N[i]?==fr[i]?)&&decide N.Nodup&&N.length==XN.length+fr.length &&
 names.all (λy=>y.2 != .free||eN y.1==some .cell||eN y.1==some .free) &&
 (Ab (N.length-fr.length)).all (λi=>match N[i+fr.length]? with
  |some y=>(names.lookup y != some .free||XN[i]?==some y)&&(names.lookup y==some .free||(names.lookup y != some .local&&names.lookup y != some .cell))
  |none=>true)
theorem ZM{X:Cx}{N XN:List Str}{scope sc:Scope}{fr:List Str}(hs:X.env.scope=sc:=by rfl)(hN:X.N=XN:=by rfl)(hk:scope.kind=.function:=by rfl)(h:Ol (λy=>sc.names.lookup y) XN N scope.names fr=true:=by decide +kernel):C0 X N scope fr:=by
 subst hN;unfold Ol at h;simp only[Bw,B3,DX,bne_iff_ne,beq_iff_eq,decide_eq_true_eq]at h;obtain⟨⟨⟨⟨⟨⟨⟨h1,h2⟩,h3⟩,h4⟩,h5⟩,h6⟩,h7⟩,h8⟩:=h;have at_:∀(i:Nat) (y:Str),N[i+fr.length]?=some y->(scope.names.lookup y≠some .free\/X.N[i]?=some y)/\(scope.names.lookup y=some .free\/(scope.names.lookup y≠some .local/\scope.names.lookup y≠some .cell)):=λi y e=>by have hi:i+fr.length<N.length:=(AE.mp e).1;have:=h8 i (As.mpr (by omega));rw[e]at this;simpa only[Bw,DX,bne_iff_ne,beq_iff_eq]using this
 refine⟨hk,h1,λy hy e=>(h2 y hy).resolve_left (λz=>z e),h3,λi x e=>?_,h5,h6,λy hy e=>?_,λi y e q=>(at_ i y e).1.resolve_left (λz=>z q),λi y e v=>?_⟩
 .rw[h4 i (As.mpr (AE.mp e).1)]
  exact e
 .have:=h7 y hy
  rw[show X.env.kindOf y.1=sc.names.lookup y.1 by rw[<-hs];rfl];rcases this with(z|z)|z
  .exact absurd e z
  .exact .inl z
  .exact .inr z
 .rcases(at_ i y e).2 with z|⟨z1,z2⟩
  .exact z
  .rcases v with v|v|v
   .exact absurd v z1
   .exact absurd v z2
   .exact v
variable{c9 iter:Expr}{cT:List Expr}{pos:Pos}{fi:HM.IF}{fc:HM.TF}{fe:HM.EF}
theorem Z6(dZ:X.xe=λ_ _=>False)(cD:X.calm=true)(T:C0 X N scope [x])(hi:XI X (.Name x px) iter fi)(hc:∀cl C s H ex,gr (ZU X N scope cl C s H ex) cT fc)(he:∀cl C s H ex,XE (ZU X N scope cl C s H ex) c9 fe)(hs:∀x,Cz iter X.env x=pure x:=by intro _;rfl):XF X (.ListComp c9 [⟨.Name x px,iter,cT,0⟩] scope pos) (HM.Zp fi fc fe):=by
 rw[LA];exact Vd dZ cD T (Oh T) hi.e hc he hs
theorem WQ(i:Nat){y:Str}{py fY:Pos}(hN:X.N.Nodup)(dZ:X.xe=λ_ _=>False)(cD:X.calm=true)(T:C0 X N scope [x])(hi:XI X (.Name x px) iter fi)(hc:∀cl C s H ex,gr (ZU X N scope cl C s H ex) cT fc)(he:∀cl C s H ex,XE (ZU X N scope cl C s H ex) c9 fe)(kT:X.N[i]?=some y:=by rfl)(hy:X.env.scope.names.lookup y=some .local:=by rfl)(g7:Ct (.ListComp c9 [⟨.Name x px,iter,cT,0⟩] scope pos) (some (.Name y py)) fY.line X.env=pure true:=by rfl)(hs:∀x,Cz iter X.env x=pure x:=by intro _;rfl):XS X (.Assign [.Name y py] (.ListComp c9 [⟨.Name x px,iter,cT,0⟩] scope pos) fY) (HM.AY i (HM.Zp fi fc fe)):=by
 rw[LA];exact Xf i hN dZ cD T (Oh T) hi.e hc he kT hy g7 hs
end
section
variable{prog:Program}{w:World}{K:Type}[DecidableEq K]{knd:HeapKind prog w K}{A:Around}{E:Value->Shared->Prop}{s:Shared}
theorem YR{d a:Addr}{xs:List (K×Addr×Value)}{k:K}{v:Value}{Q:Value->Shared->Prop}(hu:knd.room A)(d8:knd.is s.heap k a)(hm:s.heap.DictOfH knd d xs)(hsz:xs.length<=sizeLine)(h1:∀p,atKey xs k=some p->Q p.2 {s with toks:=s.toks+knd.draws k})(h2:atKey xs k=none->∀h',h'.DictOfH knd d (storedH xs k a v)->Cy d s.heap h'->Q v {s with heap:=h',toks:=s.toks+knd.draws k}):wpAny (model prog w) A (dictSetDefault d (.ref a) v) Q E s:=by
 obtain⟨o,es,ep,ho,hc,hd,he,jq,hn⟩:=hm;unfold dictSetDefault
 try with_reducible refine BR ?_
 refine Aa (knd.pyHash hu d8 ?_);refine Aa (wpAny_dictFind_heap (s:={s with toks:=s.toks+knd.draws k}) hu d8 ho hd he jq hn ?_ ?_)
 .intro iV
  have lL:k∉xs.map (·.1):=not_mem_keys_of_get iV;have jY:=atKey_none_of_get iV;refine Aa (Eh (Aa (wpAny_updateDictKeys (hz:=by have e:=size_of_entries he;omega) (s:={s with toks:=s.toks+knd.draws k}) ho hd (Ac (h2 jY _ ⟨_,_,ep+1,Ez _ ho (Obj.isFreed_of_dict (Obj.data_mapDictKeys hd _)),
   hc.mapDictKeys _,Obj.data_mapDictKeys hd _,?_,?_,?_⟩ (CJ ..))))))
  .rw[Ia jY]
   simp[he,entryOfKey]
  .rw[Ia jY]
   intro x hx;rcases Bk.mp hx with hx|hx
   .exact knd.keeps (jq x hx) ho hd (CJ ..)
   .simp only[AR]at hx
    subst hx;exact knd.keeps d8 ho hd (CJ ..)
  .rw[Ia jY]
   rw[Bf,Ig];refine⟨hn,by simp,?_⟩;intro x hx y hy;simp only[Am,Fq,AR]at hy;subst hy;exact λe=>lL (e▸hx)
 .intro j p hj
  refine Aa (GC (s:={s with toks:=s.toks+knd.draws k}) ho hd ?_);rw[entry_at he j,hj];exact Aa (Eh (Ac (h1 p (atKey_of_get hn hj))))
theorem Y8(d a:Addr)(hd:(d==A4)=false)(dflt:Value):
  MeetsIn prog w (Builtin.«dict.setdefault» ⟨[.ref d,.ref a,dflt],[]⟩) (λA R s=>knd.room A.in1/\∃k xs,knd.is s.heap k a/\s.heap.DictOfH knd d xs/\xs.length<=sizeLine /\
   (∀p,atKey xs k=some p->R (.ok (.ret p.2)) {s with toks:=s.toks+knd.draws k}) /\
   (atKey xs k=none->∀h',h'.DictOfH knd d (storedH xs k a dflt)->Cy d s.heap h'->R (.ok (.ret dflt)) {s with heap:=h',toks:=s.toks+knd.draws k})) :=
 .of_wp λA R s ⟨hu,k,xs,d8,hm,hz,h1,h2⟩=>by unfold Builtin.«dict.setdefault»;refine Aa ?_;unfold Builtin.Dict.keyAndDefault;refine Aa (wpAny_notOrdered_dict hm.typeIs ?_);show wpAny _ _ (pure (d,Bb a,some dflt)) _ _ s;refine Ac ?_;show wpAny _ _ (if(d==A4)=true then _ else(dictSetDefault d (.ref a) dflt >>= _)) _ _ s;rw[if_neg (by rw[hd];exact Bn)];exact Aa (YR hu d8 hm hz (λp hp=>Ac ⟨p.2,rfl,h1 p hp⟩) λhn h' hm' hs'=>Ac ⟨dflt,rfl,h2 hn h' hm' hs'⟩)
end
end HP
namespace HP
open PySem PyProof.Rows
section
variable{xs:Array Nat}{i j:Nat}
def Cg(xs:Array Nat):Prop:=xs.toList.Pairwise (· < ·)
theorem Cg.lt(h:Cg xs){k:Nat}(hk:k<xs.size)(kW:i<k):xs.getD i 0<xs.getD k 0:=by have:=IC.mp h i k (by simpa using CO kW hk) (by simpa using hk) kW;simpa [Cu,hk,CO kW hk]using this
theorem LO{xs:Array Nat}(h:Cg xs)(j:Nat):∀(dB lo hi:Nat),lo<=hi->hi<=xs.size->hi-lo<=dB->(∀i,i<lo->xs.getD i 0<j)->(∀i,hi<=i->i<xs.size->j<=xs.getD i 0) ->Ie xs j dB lo hi<=xs.size/\(∀i,i<Ie xs j dB lo hi->xs.getD i 0<j)/\∀i,Ie xs j dB lo hi<=i->i<xs.size->j<=xs.getD i 0
 |0,lo,hi,h1,h2,h3,a,b=>by
  obtain rfl:lo=hi:=by omega
  exact⟨h2,a,b⟩
 |dB+1,lo,hi,h1,h2,h3,a,b=>by
  unfold Ie;split
  .rename_i cq
   have hm:(lo+hi) / 2<xs.size:=by omega
   have e:xs.getD ((lo+hi) / 2) j=xs.getD ((lo+hi) / 2) 0:=by simp[Cu,hm]
   dsimp only;rw[e]
   by_cases q:xs.getD ((lo+hi) / 2) 0<j
   .rw[if_pos q]
    refine LO h j dB ((lo+hi) / 2+1) hi (by omega) h2 (by omega) (λi hi'=>?_) b
    by_cases c:i=(lo+hi) / 2
    .rw[c];exact q
    .exact CO (h.lt hm (by omega)) q
   .rw[if_neg q]
    refine LO h j dB lo ((lo+hi) / 2) (by omega) (by omega) (by omega) a (λi hi' hs=>?_)
    by_cases c:i=(lo+hi) / 2
    .rw[c];omega
    .have:=h.lt hs (show(lo+hi) / 2<i by omega);omega
  .obtain rfl:lo=hi:=by omega
   exact⟨h2,a,b⟩
theorem Ju(h:Cg xs)(j:Nat):Ai xs j<=xs.size/\(∀i,i<Ai xs j->xs.getD i 0<j)/\∀i,Ai xs j<=i->i<xs.size->j<=xs.getD i 0 :=
 LO h j xs.size 0 xs.size (CA _) (Af _) (by omega) (λi hi=>by omega) λi h1 h2=>by omega
theorem W8(h:Cg xs)(hi:i<xs.size):Ai xs (xs.getD i 0+1)=i+1:=by
 obtain⟨a,b,c⟩:=Ju h (xs.getD i 0+1);apply Nat.le_antisymm
 .apply Gx
  intro q;have h1:=b (i+1) q;have h2:=h.lt (show i+1<xs.size by omega) (DR i);omega
 .apply Gx
  intro q;have h1:=c (Ai xs (xs.getD i 0+1)) (Af _) (by omega)
  by_cases e:Ai xs (xs.getD i 0+1)=i
  .rw[e]at h1;omega
  .have:=h.lt hi (show Ai xs (xs.getD i 0+1)<i by omega);omega
theorem W4(h:Cg xs):Ai xs 0=0:=by obtain⟨a,b,c⟩:=Ju h 0;apply Nat.eq_zero_of_not_pos;intro q;have:=b 0 q;omega
theorem Q7(h:Cg xs)(hn:xs[Ai xs j]?≠some j):Cg (AN xs (Ai xs j) j):=by
 obtain⟨a,b,c⟩:=Ju h j;unfold Cg;rw[Kw];have gt:∀i,Ai xs j<=i->i<xs.size->j<xs.getD i 0:=by
  intro i h1 h2
  by_cases e:Ai xs j=i
  .subst e
   have h3:=c _ h1 h2;have:xs.getD (Ai xs j) 0≠j:=λq=>hn (by
    have z:xs[Ai xs j]?=some (xs.getD (Ai xs j) 0):=by simp[Cu,h2]
    rw[z,q])
   omega
  .have h3:=h.lt h2 (show Ai xs j<i by omega)
   have h4:=c _ (Af _) (show Ai xs j<xs.size by omega);omega
 rw[List.pairwise_append];refine⟨h.sublist (List.take_sublist ..),B4.mpr ⟨λx hx=>?_,h.sublist (List.drop_sublist ..)⟩,λx hx y hy=>?_⟩
 .obtain⟨i,hi,rfl⟩:=IJ hx
  rw[Gy,A6]at hi;rw[List.getElem_drop];have:=gt (Ai xs j+i) (by omega) (by omega);simpa [Cu,show Ai xs j+i<xs.size by omega]using this
 .obtain⟨i,hi,rfl⟩:=IJ hx
  rw[Fe,A6]at hi;rw[List.getElem_take];have h1:=b i (by omega);have h1':xs.toList[i]'(by simp;omega)<j:=by simpa [Cu,show i<xs.size by omega]using h1
  rcases Ao.mp hy with e|e
  .rw[e];exact h1'
  .obtain⟨k,hk,rfl⟩:=IJ e
   rw[Gy,A6]at hk;rw[List.getElem_drop];have h2:=gt (Ai xs j+k) (by omega) (by omega);have h2':j<xs.toList[Ai xs j+k]'(by simp;omega):=by simpa [Cu,show Ai xs j+k<xs.size by omega]using h2
   exact CO h1' h2'
theorem has_none(j:Nat):SetTable.has #[] j=false:=by simp[SetTable.has]
structure eA(b:Bool)(t:SetTable):Prop where
 dum:t.dummies=#[]
 rise:Cg t.place
 led:t.led=b
 plain:t.plain=true
 low:∀j∈t.place.toList,j<8
 mask:t.mask=if t.place.size<=4 then 7 else 31
theorem eA.fresh(b:Bool):eA b (SetTable.fresh 0 0 b):=⟨rfl,.nil,rfl,rfl,λj hj=>by simp[SetTable.fresh]at hj,rfl⟩
theorem eA.few{b:Bool}{t:SetTable}(h:eA b t):t.place.size<=8:=by
 have key:∀(l:List Nat) (lo:Nat),l.Pairwise (· < ·)->(∀j∈l,lo<=j/\j<8)->l.length<=8-lo:=by
  intro l
  induction l with
  |nil=>intro lo _ _;simp
  |cons x l ih=>intro lo hp hb;have h1:=hb x (Au ..);have h2:=ih (x+1) (B4.mp hp).2 λy hy=>⟨(B4.mp hp).1 y hy,(hb y (Av _ hy)).2⟩;rw[A2];omega
 have:=key t.place.toList 0 h.rise λj hj=>⟨CA _,h.low j hj⟩;simpa using this
theorem MP{b:Bool}{t:SetTable}(h:eA b t)(hj:j∉t.place.toList):t.slot j=.empty/\t.place[Ai t.place j]?≠some j:=by have q:t.place[Ai t.place j]?≠some j:=λe=>hj (by rw[<-Dj]at e;exact Dq e);unfold SetTable.slot;dsimp only;rw[if_neg (by simpa using q),h.dum,has_none,if_neg (by simp)];exact⟨rfl,q⟩
theorem S5{b:Bool}{t:SetTable}(h:eA b t)(j:Nat):t.put j=({t with place:=AN t.place (Ai t.place j) j},Ai t.place j):=by
 unfold SetTable.put;dsimp only;rw[h.dum,has_none];cases t;have:=h.dum
 simp_all
theorem cw{α:Type}(xs:Array α)(p:Nat)(x:α):(AN xs p x).size=xs.size+1:=by rw[<-A6,(Fu xs p x).length_eq];simp
theorem Sq{b:Bool}{t:SetTable}(h:eA b t){es:Array (Int×Value)}(he:es.size=t.place.size)(h8:j<8)(hj:j∉t.place.toList)(v:Value):layNew t es (j:Int) v=(AN es (Ai t.place j) ((j:Int),v),{t with place:=AN t.place (Ai t.place j) j},false,false):=by
 obtain⟨e1,e2⟩:=MP h hj;have dA:=h.few;have hm:t.mask=7\/t.mask=31:=by rw[h.mask];split<;>simp
 have jO:Ko (j:Int)%(t.mask+1)=j:=by
  have hb:Ko (j:Int)=j:=by unfold Ko;omega
  rw[hb];rcases hm with e|e<;>rw[e]<;>omega
 have cK:t.freeSlot (j:Int)=some (j,false):=by
  unfold SetTable.freeSlot SetTable.probe;have hf:10*Kc t.mask=(10*Kc t.mask-1)+1:=by unfold Kc;omega
  rw[hf];unfold SetTable.probe.go;have hp:(t.probeStart (j:Int)).j=j:=jO;rw[hp,e1];rfl
 have my:t.place.size<=7:=by
  apply Gx;intro q;have h8':t.place.size=8:=by omega
  have:=NQ (l₁:=j::t.place.toList) (l₂:=Ab 8) (Fp.mpr ⟨hj,h.rise.imp λq=>Al q⟩) (λx hx=>by
   rcases Ao.mp hx with e|e
   .rw[e];exact As.mpr h8
   .exact As.mpr (h.low x e))
  simp at this;omega
 have gS:(Gn {t with place:=AN t.place (Ai t.place j) j} (AN es (Ai t.place j) ((j:Int),v)).size)=true:=by unfold Gn Gm;simp only[cw,he,h.dum];simp;rw[h.mask];split<;>omega
 unfold layNew;rw[cK];dsimp only;rw[S5 h];dsimp only;unfold SetTable.orStandIn;rw[gS];rfl
theorem eA.ins{b:Bool}{t:SetTable}(h:eA b t)(h8:j<8)(hj:j∉t.place.toList)(hs:t.place.size≠4):eA b {t with place:=AN t.place (Ai t.place j) j}:=by
 obtain⟨_,e2⟩:=MP h hj;refine⟨h.dum,Q7 h.rise e2,h.led,h.plain,λx hx=>?_,?_⟩
 .have:=(Fu t.place (Ai t.place j) j).mem_iff.mp hx
  rw[Fg]at this;rcases Bk.mp this with q|q
  .exact h.low x q
  .rw[AR.mp q];exact h8
 .dsimp only
  rw[cw,h.mask];split<;>split<;>omega
def LL:List (List Nat):=(Ab 8).flatMap λa=>(Ab 8).flatMap λb=>(Ab 8).flatMap λc=>(Ab 8).flatMap λd=>(Ab 8).filterMap λe=>if a<b/\b<c/\c<d/\d<e then some [a,b,c,d,e]else none
theorem XJ{l:List Nat}(h:l.Pairwise (· < ·))(h8:∀j∈l,j<8)(h5:l.length=5):l∈LL:=by
 match l,h5 with
 |[a,b,c,d,e],_=>simp at h h8;unfold LL;simp only[List.mem_flatMap,As,KL];refine⟨a,by omega,b,by omega,c,by omega,d,by omega,e,by omega,?_⟩;rw[if_pos (by omega)]
theorem Sl:∀l∈LL,(SetTable.layClean 31 (l.map λ(n:Nat)=>(n:Int)).toArray).map (λowner=>(Ab 32).filterMap λj=>(owner.getD j none).map (j,·))=some (l.zip (Ab 5)):=by decide +kernel
end
section
variable{es:Array (Int×Value)}{h:Heap}{ns:List Int}
def BU(e:Int×Value):Int:=match e.2 with
 | .int n _=>n
 |_=>0
section
variable(prog:Program)(w:World)
def GW(es:List (Int×Value)):Prop:=∀e∈es,∃n t,e=((intKind prog w).hash n,BP n t)
def BB(h:Heap)(a:Addr)(L:List Int):Prop:=∃o es ep t,h.get? a=some o/\o.ExactSet/\o.data=.set es ep t/\GW prog w es.toList/\(es.toList.map BU).Perm L/\es.toList.map BU=t.place.toList.map (λ(j:Nat)=>(j:Int))/\eA (!w.params.followText "set-order") t
end
section
variable{prog:Program}{w:World}{A:Around}{E:Value->Shared->Prop}{s:Shared}{a:Addr}{L:List Int}
theorem GW.elems{es:List (Int×Value)}(h:GW prog w es):ElemsOf (intKind prog w) es:=λe he=>by obtain⟨n,t,rfl⟩:=h e he;exact⟨⟨n,F8 _ _ _ _,rfl⟩,rfl⟩
theorem BB.at'{h':Heap}(x:BB prog w h a L)(k:∀o,h.get? a=some o->h'.get? a=some o):BB prog w h' a L:=let ⟨o,es,ep,t,e,r⟩:=x;⟨o,es,ep,t,k o e,r⟩
def gZ(L:List Int)(n:Int):List Int:=if L.contains n then L else L++[n]
theorem Oy{k n:Int}{t:Tok}:(intKind prog w).is k (.int n t)=true↔n=k:=by
 constructor
 .intro h
  exact(intKind prog w).inj _ _ _ (F8 _ _ _ _) h
 .rintro rfl;exact F8 _ _ _ _
theorem ME:∀(j:Nat),j<8->(intKind prog w).hash (j:Int)=(j:Int)
 |0,_=>rfl
 |1,_=>rfl
 |2,_=>rfl
 |3,_=>rfl
 |4,_=>rfl
 |5,_=>rfl
 |6,_=>rfl
 |7,_=>rfl
 |n+8,h=>by omega
theorem eA.fits{b:Bool}{t:SetTable}(h:eA b t):t.fits t.place.size=true:=by have hf:=h.few;unfold Gn Gm;rw[h.dum,h.mask];simp;split<;>omega
theorem fA{t:SetTable}(h:es.toList.map BU=t.place.toList.map (λ(j:Nat)=>(j:Int))):es.size=t.place.size:=by have:=congrArg A5 h;simpa using this
theorem QJ{o:Obj}{es':Array (Int×Value)}{ep:Nat}{t t':SetTable}(ho:h.get? a=some o)(fM:o.ExactSet)(hd:o.data=.set es ep t)(j7:GW prog w es'.toList)(hp:(es'.toList.map BU).Perm L)(hs:es'.toList.map BU=t'.place.toList.map (λ(j:Nat)=>(j:Int)))(ht:eA (!w.params.followText "set-order") t'):(h.update a (Eg es' t')).get? a=some {o with data:=.set es' (ep+1) t'}/\BB prog w (h.update a (Eg es' t')) a L:=by
 have hg:(h.update a (Eg es' t')).get? a=some {o with data:=.set es' (ep+1) t'}:=by
  have:=Ez (Eg es' t') ho (by rw[putSet_of es' t' hd];rfl)
  rwa [putSet_of es' t' hd]at this
 exact⟨hg,_,es',ep+1,t',hg,fM,rfl,j7,hp,hs,ht⟩
theorem VY{b:Bool}{t:SetTable}(hr:Cg t.place)(h8:∀j∈t.place.toList,j<8)(h5:t.place.size=5)(he:es.map (·.1)=(t.place.toList.map (λ(j:Nat)=>(j:Int))).toArray)(hl:t.led=b)(hp:t.plain=true):∃t',relayAll t es 20=(es,t',false)/\t'.place=t.place/\eA b t':=by
 have hc:=Sl _ (XJ hr h8 (by simpa using h5));obtain⟨owner,o1,o2⟩:=An.mp hc;have hsz:es.size=5:=by have:=congrArg Array.size he;simp at this;omega
 have bY:t.place.toList.length=5:=by simpa using h5
 have z1:(t.place.toList.zip (Ab 5)).map (·.1)=t.place.toList:=List.map_fst_zip (by rw[bY];simp);have z2:(t.place.toList.zip (Ab 5)).map (·.2)=Ab 5:=List.map_snd_zip (by rw[bY];simp);have nO:t.relaid (es.map (·.1)) 20=some ({mask:=31,place:=t.place,dummies:=#[],finger:=t.finger,led:=t.led,moves:=t.movedTo 31,plain:=t.plain},(Ab 5).toArray):=by
  unfold SetTable.relaid SetTable.laid;have oP:SetTable.sizeAbove 20-1=31:=by decide
  rw[oP,he,o1];show some _=some _;rw[o2,z1,z2]
 refine⟨{mask:=31,place:=t.place,dummies:=#[],finger:=t.finger,led:=t.led,moves:=t.movedTo 31,plain:=t.plain},?_,rfl,⟨rfl,hr,hl,hp,h8,?_⟩⟩
 .unfold relayAll
  rw[nO];dsimp only;have ef:(Ab 5).toArray.filterMap (λx=>es[x]?)=es:=by apply Array.toList_inj.mp;rw[Array.toList_filterMap];have:=filterMap_getElem?_range es;rw[hsz]at this;simpa using this
  rw[ef];have ec:coversAll (Ab 5).toArray es.size=true:=by rw[hsz];decide
  have et:Gn {mask:=31,place:=t.place,dummies:=#[],finger:=t.finger,led:=t.led,moves:=t.movedTo 31,plain:=t.plain} es.size=true:=by unfold Gn Gm;simp[h5,hsz]
  rw[ec,et];rfl
 .dsimp only
  rw[h5];rfl
theorem U2{j:Nat}{tk:Tok}{Q:Bool->Shared->Prop}(h8:j<8)(hX:BB prog w s.heap a L)(h:∀b h',Cy a s.heap h'->BB prog w h' a (gZ L j)->Q b {s with heap:=h'}):wpAny (model prog w) A (setAddHashed a (.int j tk) ((intKind prog w).hash j)) Q E s:=by
 obtain⟨o,es,ep,t,ho,fM,hd,iB,iU,hpl,ht⟩:=hX;have j7:=iB.elems;have mi:(BP (j:Int) tk).scannable=true:=rfl;have d8:(intKind prog w).is (j:Int) (.int j tk)=true:=F8 _ _ _ _;have hsz:=fA hpl;have dA:=ht.few;have hf:t.fits es.size=true:=by rw[hsz];exact ht.fits
 have eT:scanBound=4096:=rfl;have hb:es.size<scanBound:=by omega
 unfold setAddHashed setAddHashedIn;refine BR (Aa (Ic ho hd hf ?_));dsimp only;rw[byScan_of mi hb j7];simp only[↓reduceIte];unfold setAddByScan;refine Aa (Aa (Eh (Aa (wpAny_setScan_of d8 ho hd hf j7 ?_))));cases hr:List.findIdx? (λe=>(intKind prog w).is (j:Int) e.2) es.toList with
 |some i =>
  dsimp only;obtain⟨hi,mj,_⟩:=KN.mp hr;have gR:(j:Int)∈L:=by refine iU.mem_iff.mp (Aj.mpr ⟨es.toList[i],CL hi,?_⟩);obtain⟨m,u,e⟩:=iB _ (CL hi);rw[e]at mj ⊢;exact Oy.mp mj
  refine Ac (Ac ?_);have e:s={s with heap:=s.heap}:=by cases s;rfl
  have q:=h false s.heap (Nl a s.heap) ⟨o,es,ep,t,ho,fM,hd,iB,by unfold gZ;rw[if_pos (by simpa using gR)];exact iU,hpl,ht⟩;rw[e];exact q
 |none =>
  dsimp only;have dr:∀e∈es.toList,BU e≠(j:Int):=λe he hv=>by obtain⟨m,u,e1⟩:=iB e he;have no:=IB.mp hr e he;rw[e1]at no hv;have mZ:(intKind prog w).is (j:Int) (.int m u)=true:=Oy.mpr hv;exact absurd (mZ.symm.trans no) (by simp)
  have jn:(j:Int)∉L:=λhm=>by obtain⟨e,he,hv⟩:=Aj.mp (iU.mem_iff.mpr hm);exact dr e he hv
  have hj:j∉t.place.toList:=λhm=>by
   have:(j:Int)∈es.toList.map BU:=by rw[hpl];exact Aj.mpr ⟨j,hm,rfl⟩
   obtain⟨e,he,hv⟩:=Aj.mp this;exact dr e he hv
  obtain⟨mk,pl,dm,fg,ld,mv,pn⟩:=t;obtain rfl:pn=true:=ht.plain;obtain rfl:dm=#[]:=ht.dum;rw[ME j h8,Sq ht hsz h8 hj];dsimp only;obtain⟨_,nS⟩:=MP ht hj;obtain⟨my,_,_⟩:=Ju ht.rise j;have gV:GW prog w (AN es (Ai pl j) ((j:Int),BP j tk)).toList:=λe he=>by
   have:=(Fu _ _ _).mem_iff.mp he;rw[Fg]at this;rcases Bk.mp this with q|q
   .exact iB e q
   .exact⟨j,tk,by rw[ME j h8];exact AR.mp q⟩
  have iK:((AN es (Ai pl j) ((j:Int),BP j tk)).toList.map BU).Perm (gZ L j):=by unfold gZ;rw[if_neg (by simpa using jn)];refine((Fu _ _ _).map BU).trans ?_;rw[Fg,Bf];exact iU.append_right _
  have f6:(AN es (Ai pl j) ((j:Int),BP j tk)).toList.map BU=(AN pl (Ai pl j) j).toList.map (λ(j:Nat)=>(j:Int)):=by rw[Kw,Kw,Bf,Bf,Am,Am,List.map_take,List.map_take,List.map_drop,List.map_drop,hpl];rfl
  have dO:(AN es (Ai pl j) ((j:Int),BP j tk)).size=es.size+1:=cw _ _ _;generalize hE:AN es (Ai pl j) ((j:Int),BP j tk)=es1 at gV iK f6 dO ⊢;have mf:es1.size<=sizeLine:=by rw[Bm];omega
  refine Aa (Ac ?_);simp only[↓reduceIte];refine Aa ?_;rw[hashByValue_scannable 8 mi];refine Ac ?_;rw[show plainKind (BP (j:Int) tk)=true from rfl];simp only[↓reduceIte];show wpAny (model prog w) A (do
    storeSet a es1 (⟨mk,AN pl (Ai pl j) j,#[],fg,ld,mv,true⟩:SetTable)
    if(!false&&Gw (⟨mk,AN pl (Ai pl j) j,#[],fg,ld,mv,true⟩:SetTable))=true then _ else _) _ E s
  refine Aa (wpAny_storeSet_of ho hd ?_ mf);have jC:=CJ s.heap a (Eg es1 (⟨mk,AN pl (Ai pl j) j,#[],fg,ld,mv,true⟩:SetTable))
  by_cases h4:pl.size=4
  .have hm:mk=7:=by have q:=ht.mask;dsimp only at q;rw[h4]at q;exact q
   have kI:Gw (⟨mk,AN pl (Ai pl j) j,#[],fg,ld,mv,true⟩:SetTable)=true:=by unfold Gw Gm;simp[cw,h4,ht.dum,hm]
   have hg:(s.heap.update a (Eg es1 (⟨mk,AN pl (Ai pl j) j,#[],fg,ld,mv,true⟩:SetTable))).get? a=some {o with data:=.set es1 (ep+1) (⟨mk,AN pl (Ai pl j) j,#[],fg,ld,mv,true⟩:SetTable)}:=by
    have:=Ez (Eg es1 (⟨mk,AN pl (Ai pl j) j,#[],fg,ld,mv,true⟩:SetTable)) ho (by rw[putSet_of _ _ hd];rfl)
    rwa [putSet_of _ _ hd]at this
   have hh:es1.map (·.1)=((AN pl (Ai pl j) j).toList.map (λ(j:Nat)=>(j:Int))).toArray:=by
    apply Array.toList_inj.mp;rw[Array.toList_map,<-f6];refine Dp λe he=>?_;obtain⟨m,u,e1⟩:=gV e he;have hm:m∈es1.toList.map BU:=Aj.mpr ⟨e,he,by rw[e1];rfl⟩;rw[f6]at hm;obtain⟨k,hk,rfl⟩:=Aj.mp hm;have j4:k<8:=by
     have:=(Fu _ _ _).mem_iff.mp hk;rw[Fg]at this;rcases Bk.mp this with q|q
     .exact ht.low k q
     .rw[AR.mp q];exact h8
    rw[e1];exact ME (prog:=prog) (w:=w) k j4
   obtain⟨t',r1,r2,r3⟩:=VY (b:=!w.params.followText "set-order") (t:=(⟨mk,AN pl (Ai pl j) j,#[],fg,ld,mv,true⟩:SetTable)) (es:=es1) (Q7 ht.rise nS)
    (λk hk=>by
     have:=(Fu _ _ _).mem_iff.mp hk;rw[Fg]at this;rcases Bk.mp this with q|q
     .exact ht.low k q
     .rw[AR.mp q];exact h8) (by dsimp only;rw[cw,h4]) hh ht.led ht.plain
   have n6:SetTable.grown es1.size=20:=by rw[dO,hsz,h4];rfl
   rw[kI];simp only[Bool.not_false,Bool.and_self,↓reduceIte];rw[n6,r1];dsimp only;refine Aa (Ac (Aa (wpAny_storeSet_of hg rfl ?_ mf)));obtain⟨_,kc⟩:=QJ (prog:=prog) (t':=t') hg fM rfl gV iK (by rw[r2];exact f6) r3;exact Ac (Ac (h true _ (jC.trans (CJ _ a _)) kc))
  .have kI:Gw (⟨mk,AN pl (Ai pl j) j,#[],fg,ld,mv,true⟩:SetTable)=false:=by
    unfold Gw Gm;have q:=ht.mask;dsimp only at q;simp only[cw];rw[q];simp;have:=dA;dsimp only at this;split<;>omega
   rw[kI];simp only[Bool.and_false,CM,↓reduceIte];obtain⟨_,oF⟩:=QJ (prog:=prog) (t':=(⟨mk,AN pl (Ai pl j) j,#[],fg,ld,mv,true⟩:SetTable)) ho fM hd gV iK f6 (ht.ins h8 hj h4);exact Ac (Ac (h true _ jC oF))
end
section
variable{prog:Program}{w:World}{A:Around}{E:Value->Shared->Prop}{s:Shared}
abbrev C3(w:World):Obj:={cls:=.type "set",dict:=none,data:=.set #[] 0 (.fresh 0 0 (!w.params.followText "set-order"))}
theorem X9(v:Value){Q₁:Value->Shared->Prop}(h:Q₁ (.ref s.heap.objs.size) {s with heap:=s.heap.push (C3 w)}):codeAny (model prog w) A (.call (.builtin "set.__new__") ⟨[.type "set",v],[]⟩) (wants Q₁ E) s:=by
 refine codeAny_of_tree ?_;show wpAny _ A.in1 (do checkBuiltinCall "set.__new__" ⟨[.type "set",v],[]⟩;again (.builtin "set.__new__" ⟨[.type "set",v],[]⟩)) _ _ s;refine Aa (wpAny_of_eq (PySem.F.newCall_set_1 v) (Ac ⟨H8 Nz _,DW PySem.F.entry_set_new ?_⟩));rw[Ex Nz _];unfold Builtin.«set.__new__» Builtin.Frozenset.newClass;have eX:=sub_set_self;obtain⟨hp,g,d,tk,os⟩:=s;dsimp only
 wp_walk
 refine Gv (Ac ?_);dsimp only;simp only[newObj];exact Aa (wpAny_alloc (Ac (Ac h)))
theorem Vz(h:Heap):BB prog w (h.push (C3 w)) h.objs.size [] :=
 ⟨_,#[],0,_,AA _ rfl,⟨rfl,rfl,rfl⟩,rfl,λe he=>by simp at he,.nil,rfl,eA.fresh _⟩
theorem MD:∀(l acc:List Int) (x:Int),HM.cY acc (l++[x])=gZ (HM.cY acc l) x
 |[],acc,x=>by show HM.cY acc [x]=gZ acc x;unfold HM.cY gZ;split<;>rfl
 |y::l,acc,x=>by
  show HM.cY acc (y::(l++[x]))=_;unfold HM.cY;split
  .exact MD l acc x
  .exact MD l _ x
variable{R:Result->Shared->Prop}{I:Addr}{fp wr:List Addr}{G:Array GenState->Array GenState->Prop}{P:Nat->Value->Prop}{St:Nat->Shared->Prop}
theorem Ws(W:WalksS prog w A.in1 I fp wr G ns.length P St)(pw:Addr)(kb:pw∉fp)(lD:∀i v,P i v->∃t,v=.int (ns.getD i 0) t)(hb:∀n∈ns,0<=n/\n<8):∀(k i:Nat) (s:Shared),ns.length-i=k->i<=ns.length->St i s->BB prog w s.heap pw (HM.cY [] (ns.take i)) ->(∀s',Moved (pw::wr) G s s'->BB prog w s'.heap pw (HM.cY [] ns)->R (.ok (.ret .none)) s') ->codeAny (model prog w) A (.builtin "set.update.loop" ⟨[.ref pw,.ref I],[]⟩) R s:=by
 have mH:pw∉wr:=λh=>kb (W.sub _ h);have eX:∀b∈wr,b∈pw::wr:=λb hb=>Av _ hb;intro k
 induction k with
 |zero =>
  intro i s hk hi dM hS hR;obtain rfl:i=ns.length:=by omega
  rw[List.take_length]at hS;refine DW F.entry_set_update_loop ?_;rw[Ex F.plain_set_update_loop _];show wpAny _ A.in1 (pyNext (.ref I) >>= _) _ _ s;refine Aa (W.done s _ _ dM λs' hm=>?_);show wpAny _ A.in1 (ret A0) _ _ s';exact Ac (hR s' (hm.mono eX) (hS.at' λo e=>hm.heap pw o mH e))
 |succ k ih =>
  intro i s hk hi dM hS hR;have cq:i<ns.length:=by omega
  refine DW F.entry_set_update_loop ?_;rw[Ex F.plain_set_update_loop _];show wpAny _ A.in1 (pyNext (.ref I) >>= _) _ _ s;refine Aa (W.item i s _ _ cq dM λv s' hP hst' hm=>?_);obtain⟨t,rfl⟩:=lD i v hP;have hS':=hS.at' (h':=s'.heap) λo e=>hm.heap pw o mH e;show wpAny _ A.in1 (holding [BP (ns.getD i 0) t] (setAdd pw (.int (ns.getD i 0) t)) >>= _) _ _ s';refine Aa (BR ?_);unfold setAdd;refine BR (Aa ((intKind prog w).pyHash (k:=ns.getD i 0) (F8 _ _ _ _) ?_));have mG:=hb (ns.getD i 0) (by rw[Dg,AB cq];exact CL cq);obtain⟨j,ej⟩:∃j:Nat,ns.getD i 0=(j:Int):=⟨(ns.getD i 0).toNat,by omega⟩;have e:gZ (HM.cY [] (ns.take i)) (ns.getD i 0)=HM.cY [] (ns.take (i+1)):=by rw[<-MD,List.take_succ,Dg];simp[cq]
  rw[ej]at e mG ⊢;refine U2 (s:={s' with toks:=s'.toks+1}) (by omega) hS' λb h' eT kc=>?_;rw[e]at kc;refine Ac ⟨H8 F.plain_set_update_loop _,ih (i+1) _ (by omega) cq (W.frame _ s' _ _ hst' (Gq _) λb hb o e=>?_) kc λs'' hm'' hS''=>?_⟩
  .rw[eT.2 b (λh:b=pw=>kb (by rw[<-h];exact hb))];exact e
  .refine hR s'' (Moved.trans W.gtrans ((hm.mono eX).then_heap (Gq _) λb o hb e=>?_) hm'') hS''
   rw[eT.2 b (λh:b=pw=>hb (by rw[h];exact Au))];exact e
set_option maxHeartbeats 3200000 in
theorem WK{l:Addr}{items:Array Value}{Q:Value->Shared->Prop}(hh:A.handled=none)(hl:s.heap.IsList l items)(hi:IntsAre items.toList ns)(hb:∀n∈ns,0<=n/\n<8)(h:∀(h':Heap) (tk:Nat),BB prog w h' s.heap.objs.size (HM.cY [] ns)->(∀b o,b<s.heap.objs.size->s.heap.get? b=some o->h'.get? b=some o)->Q (.ref s.heap.objs.size) {s with heap:=h',toks:=tk}):wpAny (model prog w) A (call (.type "set") [.ref l]) Q E s:=by
 have hsz:items.size=ns.length:=by rw[<-hi.length,A6]
 obtain⟨c,tl,pj⟩:=DU.mro;have mW:=DU.made;have eX:=DU.sub;refine wpAny_call (codeAny_of_tree ?_);show wpAny _ _ (callAny (.type "set") _) _ _ _;refine Ac ⟨Code.quiet_builtin _ (by decide +kernel),DW PySem.F.entry_type_call ?_⟩;rw[Around.under_plain (weight_type_call_type "set" [.ref l] []) rfl];have h1:=DU.notType;have h2:=DU.canCreate;have hct:=PySem.F.typeCall_set_1 (.ref l)
 repeat (any_goals (first|assumption|wp_step))
 refine Ep (X9 (.ref l) (E:=E) (Q₁:=λobj s₁=>obj=.ref s.heap.objs.size/\s₁={s with heap:=s.heap.push (C3 w)}) ⟨rfl,rfl⟩) λr s₁ hr=>?_;cases r with
 |error e=>exact hr
 |ok fl =>
  cases fl with
  |ret obj =>
   obtain⟨rfl,rfl⟩:=hr;have hX:=Vz (prog:=prog) (w:=w) s.heap;have hS:(s.heap.push (C3 w)).get? s.heap.objs.size=some (C3 w):=AA _ rfl;have hT:Shared.TypeIs {s with heap:=s.heap.push (C3 w)} (.ref s.heap.objs.size) "set":=⟨_,hS,rfl⟩;have hli:=DU.init.lookup;have mG:=DU.init.bind (.ref s.heap.objs.size)
   repeat (any_goals (first|assumption|wp_step))
   refine Ep (codeAny_call_builtin (R:=wants (λr s₂=>r=.none/\∃h' tk,s₂={s with heap:=h',toks:=tk}/\BB prog w h' s.heap.objs.size (HM.cY [] ns) /\
     (∀b o,b<s.heap.objs.size->s.heap.get? b=some o->h'.get? b=some o)) E) DU.init.plain PySem.F.entry_set_init (check_set_init_1 hT ?_)) λr₂ s₂ kJ=>?_
   .obtain⟨⟨lA,jI,jJ,iP⟩,hU,cE,nl,iY⟩:=hl
    simp only at cE iY;subst cE;subst iY;have hol':(s.heap.push (C3 w)).get? l=some {cls:=.type "list",dict:=jI,data:=.seq items nl,slots:=iP}:=Ap _ hU;have pg:=PySem.F.sub_list_set;have ph:=PySem.F.sub_list_frozenset;have dr:(Dh "list" == Dh "dict")=false:=by decide
    have j3:(s.heap.push (C3 w)).IsList l items:=⟨_,hol',rfl,nl,rfl⟩;unfold Builtin.«set.__init__» noKeywords Builtin.Frozenset.updateFrom;generalize hPI:pyIter=PI
    wp_walk
    subst hPI;refine J9 j3 (Aa (wpAny_runValue ?_));have mz:l<s.heap.objs.size:=Ah hU;have n4:A.in1.in1.in1.handled=none:=by simp[hh]
    have lO:l≠(s.heap.push (C3 w)).objs.size:=by rw[DP];exact Al (Ff mz)
    have kb:s.heap.objs.size∉[(s.heap.push (C3 w)).objs.size,l]:=by rw[DP];simp only[Ao,AR,List.not_mem_nil,or_false,not_or];exact⟨Al (DR _),Df mz⟩
    have Wl:=(Walks.list (prog:=prog) (w:=w) n4 _ l lO items).toS;rw[hsz]at Wl;refine Ws Wl s.heap.objs.size kb (λi v hv=>IntsAre.int_at hi i v (by rw[Dj];exact hv)) hb (ns.length-0) 0 _ (by omega) (CA _)
     ⟨⟨_,AA _ rfl,rfl,rfl⟩,j3.push _⟩ (hX.at' λo e=>Ap _ e) λs' hm hS'=>?_
    obtain⟨h',g',d',tk',os'⟩:=s';have eg:g'=s.gens:=hm.gens;have ed:d'=s.drawn:=hm.drawn;have eo:os'=s.os:=hm.os;subst eg;subst ed;subst eo
    show wpAny _ _ _ _ _ _;refine Ac ?_;show wpAny _ _ (ret A0) _ _ _;refine Ac ⟨rfl,h',tk',rfl,hS',λb o hb e=>?_⟩;refine hm.heap b o ?_ (Ap _ (Ap _ e));simp only[Ao,AR,List.not_mem_nil,or_false,not_or];exact⟨Al hb,by rw[DP];exact Al (Ff hb)⟩
   .cases r₂ with
    |error e=>exact kJ
    |ok fl₂ =>
     cases fl₂ with
     |ret r =>
      obtain⟨rfl,h',tk,rfl,hS',hk'⟩:=kJ
      repeat (any_goals (first|assumption|wp_step))
      exact h _ _ hS' hk'
     |_=>exact kJ.elim
  |_=>exact hr.elim
end
end
theorem FJ:Slot "set_iterator" "__next__" "set_iterator.__next__" :=
 .of (owner:="set_iterator") (n:="__next__") (by rw[typeLookup_type,builtinLookup_eq_fast];kernel_rfl) (by decide +kernel) (by decide +kernel) (by decide +kernel)
  (by first|exact .inl (by decide +kernel)|exact .inr (by decide +kernel)) (by rw[isSubtype_type];kernel_rfl)
theorem QV:entryFor table "set_iterator.__next__"=some Builtin.«set_iterator.__next__»:=entryFor_of_tree (by kernel_rfl)
theorem QM:Slot "set_iterator" "__iter__" "set_iterator.__iter__" :=
 .of (owner:="set_iterator") (n:="__iter__") (by rw[typeLookup_type,builtinLookup_eq_fast];kernel_rfl) (by decide +kernel) (by decide +kernel) (by decide +kernel)
  (by first|exact .inl (by decide +kernel)|exact .inr (by decide +kernel)) (by rw[isSubtype_type];kernel_rfl)
theorem Yb:entryFor table "set_iterator.__iter__"=some Builtin.«dict_keyiterator.__iter__» :=
 entryFor_alias (id':="dict_keyiterator.__iter__") (by kernel_rfl) rfl (by decide +kernel) (by kernel_rfl)
theorem YW:entryFor table "set.__iter__"=some Builtin.«frozenset.__iter__» :=
 entryFor_alias (id':="frozenset.__iter__") (by kernel_rfl) rfl (by decide +kernel) (by kernel_rfl)
theorem PB:Manifest.owners.lookup (String.ofList ['r','o','t','a','r','e','t','i','_','t','e','s'].reverse)=some Manifest.sig_set_iterator:=by kernel_rfl
theorem QN(a:Value):argsOk "set_iterator.__next__" ⟨[a],[]⟩:=by unfold argsOk;rw[signature?_of (id:="set_iterator.__next__") (n:=['_','_','t','x','e','n','_','_']) (o:=['r','o','t','a','r','e','t','i','_','t','e','s']) (by kernel_rfl) PB];kernel_rfl
theorem Xl(a:Value):argsOk "set_iterator.__iter__" ⟨[a],[]⟩:=by unfold argsOk;rw[signature?_of (id:="set_iterator.__iter__") (n:=['_','_','r','e','t','i','_','_']) (o:=['r','o','t','a','r','e','t','i','_','t','e','s']) (by kernel_rfl) PB];kernel_rfl
theorem Qz{α:Type}:∀(l:List α) (i:Nat) (h:i<l.length),(l[i]::l.eraseIdx i).Perm l
 |x::l,0,_=>.refl _
 |x::l,i+1,h=>by
  have h':i<l.length:=by simpa using h
  show(l[i]::x::l.eraseIdx i).Perm (x::l);exact(List.Perm.swap x l[i] _).trans ((Qz l i h').cons x)
theorem P9{α:Type}(next:Nat->Nat):∀(n k:Nat) (left:List α) (out:Array α),left.length=n->(Gf.go next n k left out).toList.Perm (out.toList++left)
 |0,k,left,out,h=>by rw[Dl h,B1];exact .refl _
 |n+1,k,left,out,h=>by
  have hl:next k%left.length<left.length:=Nat.mod_lt _ (by omega)
  unfold Gf.go;rw[AB hl];dsimp only;refine(P9 next n (k+1) _ _ (by rw[List.length_eraseIdx_of_lt hl];omega)).trans ?_
  rw[Fg,Cc];refine List.Perm.append_left _ ?_;exact Qz left _ hl
theorem YT{α:Type}(next:Nat->Nat)(xs:Array α):(Gf next xs).toList.Perm xs.toList:=by
 have:=P9 next xs.size 0 xs.toList #[] (by simp)
 simpa [Gf]using this
section
variable{a it:Addr}{h h':Heap}{ep i n slot:Nat}{Q:Value->Shared->Prop}
structure N6(b:Bool)(t:SetTable):Prop where
 rise:Cg t.place
 led:t.led=b
 plain:t.plain=true
theorem eA.w{b:Bool}{t:SetTable}(h:eA b t):N6 b t:=⟨h.rise,h.led,h.plain⟩
structure BS(w:World)(h:Heap)(a:Addr)(es:Array (Int×Value))(ep:Nat)(t:SetTable):Prop where
 obj:∃o,h.get? a=some o/\o.ExactSet/\o.data=.set es ep t
 fit:t.fits es.size=true
 siz:es.size=t.place.size
 tab:N6 (!w.params.followText "set-order") t
theorem BS.at'{w:World}{es:Array (Int×Value)}{t:SetTable}(x:BS w h a es ep t)(k:∀o,h.get? a=some o->h'.get? a=some o):BS w h' a es ep t :=
 ⟨let ⟨o,e,r⟩:=x.obj;⟨o,k o e,r⟩,x.fit,x.siz,x.tab⟩
def BL(w:World)(a:Addr)(es:Array (Int×Value))(ep:Nat):Array (Int×Value):=if w.params.followText "set-order" then Gf (w.params.setOrder a ep) es else es
theorem Mb(w:World)(a:Addr)(es:Array (Int×Value))(ep:Nat):(BL w a es ep).toList.Perm es.toList:=by
 unfold BL;split
 .exact YT _ _
 .exact .refl _
theorem Mh(w:World)(a:Addr)(es:Array (Int×Value))(ep:Nat):(BL w a es ep).size=es.size:=by have:=(Mb w a es ep).length_eq;simpa using this
def CQ(h:Heap)(it a:Addr)(slot i n ep:Nat):Prop:=∃o,h.get? it=some o/\o.cls=.type "set_iterator"/\o.data=.fields #[.int slot 0,.int i 0,.ref a,.int n 0,.int ep 0]
theorem CQ.typeIs{s:Shared}(x:CQ s.heap it a slot i n ep):s.TypeIs (.ref it) "set_iterator":=let ⟨o,ho,hc,_⟩:=x;⟨o,ho,hc⟩
theorem CQ.at'(x:CQ h it a slot i n ep)(k:∀o,h.get? it=some o->h'.get? it=some o):CQ h' it a slot i n ep:=let ⟨o,e,r⟩:=x;⟨o,k o e,r⟩
section
variable{prog:Program}{w:World}{A:Around}{E:Value->Shared->Prop}{s:Shared}{it a:Addr}{es:Array (Int×Value)}{ep:Nat}{t:SetTable}
theorem VC(x:BS w s.heap a es ep t)(hQ:Q (.ref s.heap.objs.size) {s with heap:=s.heap.push {cls:=.type "set_iterator",data:=.fields #[.int 0 0,.int 0 0,.ref a,.int es.size 0,.int ep 0]}}):wpAny (model prog w) A (pyIter (.ref a)) Q E s:=by
 obtain⟨o,ho,fM,hd⟩:=x.obj;have hT:s.TypeIs (.ref a) "set":=⟨o,ho,fM.1⟩;refine J8 hT Ny (BH Ny hT YW ?_ (PySem.F.args_set_iter_1 _));unfold Builtin.«frozenset.__iter__» Builtin.Frozenset.slot0 slotArgs Builtin.Frozenset.addrOf Builtin.Frozenset.sizeOf;refine Aa (Aa (Ac (Ac ?_)));dsimp only;refine Aa (Aa (KA ho hd x.fit (Ac ?_)));have oj:∀{R:Bool->Shared->Prop} {A':Around} {E':Value->Shared->Prop},R false s->wpAny (model prog w) A' (setDrawn a) R E' s:=λ{R A' E'} hR=>by unfold setDrawn setsByText;refine Aa (Ic ho hd x.fit (Aa (Aa (Gv (Ac (Ac ?_))))));obtain⟨mk,pl,dm,fg,ld,mv,pn⟩:=t;obtain rfl:pn=true:=x.tab.plain;show R (!_&&(!true&&_)) s;simpa using hR
 refine Aa (oj ?_);rw[if_neg (by simp)];refine Aa (Ac (Aa (wpAny_setEpoch_of ho hd x.fit ?_)));show wpAny (model prog w) A.in1 (newFields "set_iterator" [rawInt 0,rawInt 0,Bb a,rawInt (es.size:Int),rawInt (ep:Int)] >>= _) _ E s;refine Aa (BO (Ac ⟨_,rfl,"set_iterator",_,⟨_,AA _ rfl,rfl⟩,FJ.lookup,?_⟩));simpa [rawInt]using hQ
theorem Qw{R:Option (Value×Nat)->Shared->Prop}(x:BS w s.heap a es ep t)(hs:w.params.followText "set-order"=false->Ai t.place slot=i)(hR:R ((BL w a es ep)[i]?.map λe=>(e.2,if w.params.followText "set-order" then slot else t.place.getD i 0+1)) s):wpAny (model prog w) A (setNext a slot i ep) R E s:=by
 obtain⟨o,ho,fM,hd⟩:=x.obj;unfold setNext setsByText;refine Aa (Ic ho hd x.fit ?_);dsimp only;refine Aa (Aa (Gv (Ac ?_)));dsimp only;cases hb:w.params.followText "set-order" with
 |true=>have hb':(model prog w).w.params.followText "set-order"=true:=hb;rw[hb',if_pos rfl];unfold BL at hR;rw[hb,if_pos rfl]at hR;simp only[if_pos]at hR;refine En (λq=>absurd q (by simp)) λ_=>?_;unfold setWalk setsByText;refine Aa (Aa (Ic ho hd x.fit ?_));dsimp only;refine Aa (Aa (Gv (Ac ?_)));dsimp only;rw[hb',if_pos rfl];exact Aa (Gv (Ac (Ac hR)))
 |false =>
  have hb':(model prog w).w.params.followText "set-order"=false:=hb;rw[hb',if_neg (by simp)];unfold BL at hR;rw[hb]at hR;simp only[CM,if_false]at hR;have hi:=hs hb;have lS:t.led=true:=by rw[x.tab.led,hb];rfl
  have hsz:=x.siz;obtain⟨mk,pl,dm,fg,ld,mv,pn⟩:=t;obtain rfl:pn=true:=x.tab.plain;obtain rfl:ld=true:=lS;refine En (λq=>absurd (show(!true&&_)=true from q) (by simp)) λ_=>?_;refine Aa ?_;refine En (λq=>absurd (show(!true&&_)=true from q) (by simp)) λ_=>?_;refine Ac ?_;dsimp only at hi hsz ⊢;rw[hi];refine Ac ?_
  by_cases cq:i<es.size
  .have h1:es[i]?=some es[i]:=IA cq
   have h2:pl[i]?=some (pl.getD i 0):=by simp[Cu,show i<pl.size by omega]
   rw[h1]at hR ⊢;rw[h2];exact hR
  .have h1:es[i]?=none:=Kr (by omega)
   rw[h1]at hR ⊢;exact hR
theorem U0{e:Int×Value}{Q:Option Value->Shared->Prop}(cQ:CQ s.heap it a slot i es.size ep)(x:BS w s.heap a es ep t)(hs:w.params.followText "set-order"=false->Ai t.place slot=i)(he:(BL w a es ep)[i]?=some e)(hQ:∀h',CQ h' it a (if w.params.followText "set-order" then slot else t.place.getD i 0+1) (i+1) es.size ep->Cy it s.heap h'->Q (some e.2) {s with heap:=h'}):wpAny (model prog w) A (pyNext (.ref it)) Q E s:=by
 obtain⟨o,ho,hc,hd⟩:=id cQ;obtain⟨os,kN,fM,cI⟩:=x.obj;unfold pyNext;refine Aa (HZ (wpAny_callSpecial?_slot (name:=Fb "__next__") cQ.typeIs FJ
  (BH FJ cQ.typeIs QV ?_ (QN _))))
 unfold Builtin.«set_iterator.__next__» slotArgs;refine Aa (Ac ?_);dsimp only;refine Aa (Il ho hd ?_);dsimp only;refine Aa (KA kN cI x.fit ?_);refine En (λq=>absurd q (by simp)) λ_=>?_;simp only[GB];refine Aa (Qw x hs ?_);rw[he];dsimp only[Option.map_some];refine Aa (Gj ho hd (by simp) ?_);have g1:(s.heap.update it (Kn (·.setIfInBounds 0 (rawInt ((if w.params.followText "set-order"=true then slot else t.place.getD i 0+1:Nat):Int))))).get? it=some _:=Ez _ ho (KD (DT hd _));refine Aa (Gj g1 (DT hd _) (by simp) ?_);refine Ac ⟨_,rfl,Ac (hQ _ ⟨_,Ez _ g1 (KD (DT (DT hd _) _)),?_,?_⟩ ((CJ ..).trans (CJ ..)))⟩
 .rw[J7,J7];exact hc
 .rw[DT (DT hd _)];simp[rawInt]
theorem UB{Q:Option Value->Shared->Prop}(hh:A.handled=none)(cQ:CQ s.heap it a slot i es.size ep)(x:BS w s.heap a es ep t)(hs:w.params.followText "set-order"=false->Ai t.place slot=i)(he:es.size<=i)(hQ:∀h',Heap.ExtBut it s.heap h'->Q none {s with heap:=h'}):wpAny (model prog w) A (pyNext (.ref it)) Q E s:=by
 obtain⟨o,ho,hc,hd⟩:=id cQ;obtain⟨os,kN,fM,cI⟩:=x.obj;have hn:(BL w a es ep)[i]?=none:=Kr (by rw[Mh];exact he);unfold pyNext;refine Aa (HZ (wpAny_callSpecial?_slot (name:=Fb "__next__") cQ.typeIs FJ
  (BH FJ cQ.typeIs QV ?_ (QN _))))
 unfold Builtin.«set_iterator.__next__» slotArgs;refine Aa (Ac ?_);dsimp only;refine Aa (Il ho hd ?_);dsimp only;refine Aa (KA kN cI x.fit ?_);refine En (λq=>absurd q (by simp)) λ_=>?_;simp only[GB];refine Aa (Qw x hs ?_);rw[hn];dsimp only[Option.map_none];refine Aa (Gj ho hd (by simp) ?_);refine Aa ?_;simp only[newExc,newTuple];refine Aa (BO ?_ (by size_fits));refine Aa (m:=Ik _ _) (wpAny_of_eq (a:=A0) (by first|rfl|(simp only[Ik];rfl)) ?_)
 refine BO ?_ (by size_fits);simp only[raiseNew];refine Aa (wpAny_handled ?_);rw[show A.in1.handled=none from hh];refine Aa (Ac (wpAny_throw ?_));refine Aa (GG (T:="StopIteration") (b:=true) ⟨_,AA _ rfl,rfl⟩ isSubtype_stop ?_);exact Ac (hQ _ (((CJ ..).extBut.push _).push _))
theorem Vx(cQ:CQ s.heap it a slot i n ep)(h:Q (.ref it) s):wpAny (model prog w) A (pyIter (.ref it)) Q E s:=by refine J8 cQ.typeIs QM (BH QM cQ.typeIs Yb ?_ (Xl _));show wpAny _ _ (ret (.ref it)) _ _ s;exact Ac ⟨_,rfl,"set_iterator",_,cQ.typeIs,FJ.lookup,h⟩
theorem Vj(hh:A.handled=none)(I a:Addr)(dr:a≠I)(es:Array (Int×Value))(ep:Nat)(t:SetTable):Walks prog w A I [I,a] [I] es.size (λi v=>∃e,(BL w a es ep)[i]?=some e/\v=e.2) (λi h=>∃slot,CQ h I a slot i es.size ep/\BS w h a es ep t/\(w.params.followText "set-order"=false->Ai t.place slot=i)) where
 sub:=λb hb=>by simp at hb;simp[hb]
 frame:=λ_ _ _ ⟨slot,h1,h2,h3⟩ hk=>⟨slot,h1.at' λo e=>hk I (by simp) o e,h2.at' λo e=>hk a (by simp) o e,h3⟩
 item:=λi s Q E hi ⟨slot,h1,h2,h3⟩ hQ=>by
  have cq:i<(BL w a es ep).size:=by rw[Mh];exact hi
  have hx:(BL w a es ep)[i]?=some (BL w a es ep)[i]:=IA cq;refine U0 h1 h2 h3 hx λh' hit' hs'=>?_;refine hQ _ h' s.toks ⟨_,hx,rfl⟩ ⟨_,hit',h2.at' λo e=>hs'.extBut a o dr e,λhb=>?_⟩ λb o hb e=>hs'.extBut b o (λh=>hb (by simp[h])) e;rw[hb];exact W8 h2.tab.rise (by rw[<-h2.siz];exact hi)
 done:=λs Q E ⟨slot,h1,h2,h3⟩ hQ=>UB hh h1 h2 h3 (Af _) λh' he'=>hQ h' s.toks λb o hb e=>he' b o (λh=>hb (by simp[h])) e
 self:=λ_ _ _ _ ⟨slot,h1,_⟩ hQ=>Vx h1 hQ
end
end
end HP
namespace HP
open PySem PySem.W PyProof.Rows
variable{p:Array Nat}{h:Heap}{ep i j m n:Nat}{Q:Nat×Array Nat->Prop}
section
variable{α β:Type}
def A7(o:Nat->Nat->Bool)(n:Nat):KasT α->(α->Prop)->Prop
 | .ret a,Q=>Q a
 | .ask i j k,Q=>i<n/\j<n/\A7 o n (k (o i j)) Q
theorem A7.bnd{o:Nat->Nat->Bool}{n:Nat}{f:α->KasT β}{Q:β->Prop}:∀(t:KasT α),A7 o n t (λa=>A7 o n (f a) Q)->A7 o n (t.bind f) Q
 | .ret a,h=>h
 | .ask i j k,h=>⟨h.1,h.2.1,A7.bnd (k (o i j)) h.2.2⟩
end
structure Pm(n:Nat)(p:Array Nat):Prop where
 pos:0<n
 perm:p.Perm (List.toArray (Ab n))
theorem Pm.size{n:Nat}{p:Array Nat}(h:Pm n p):p.size=n:=by have:=h.perm.size_eq;simpa using this
theorem Pm.lt(h:Pm n p)(i:Nat):p.getD i 0<n:=by
 by_cases hi:i<p.size
 .have e:p.getD i 0=p[i]:=by simp[Cu,hi]
  rw[e];have:=(Nv.mp h.perm).mem_iff (a:=p[i]);have h2:=this.mp (by simp);simpa using h2
 .have e:p.getD i 0=0:=by simp[Cu,hi]
  rw[e];exact h.pos
theorem Pm.rev(h:Pm n p)(i j:Nat):Pm n (kas_rev p i j):=⟨h.pos,(mirror_perm _ _ _ _).trans h.perm⟩
theorem Pm.bub(h:Pm n p)(i j:Nat):Pm n (bubble p i j):=⟨h.pos,(bubble_perm _ _ _).trans h.perm⟩
theorem cH(p:Array Nat)(i:Nat):p.getD i 0=(p[i]?).getD 0:=by simp[Array.getD_eq_getD_getElem?]
section
variable(pz:KeyOrd)(key:Nat->pz.α)
def Ka(p:Array Nat)(i:Nat):pz.α:=key (p.getD i 0)
def Up(p:Array Nat)(k:Nat):Prop:=∀i j,i<=j->j<k->pz.kle (Ka pz key p i) (Ka pz key p j)
def Dn(p:Array Nat)(k:Nat):Prop:=∀i j,i<=j->j<k->pz.kle (Ka pz key p j) (Ka pz key p i)
def Ev(p:Array Nat)(m q:Nat):Prop:=∀i,m-(q+1)<=i->i<m->Ka pz key p i=Ka pz key p (m-1)
abbrev gx:Nat->Nat->Bool:=λi j=>pz.blt (key i) (key j)
variable{pz key}{p:Array Nat}{n:Nat}
theorem Li(hj:j<=p.size)(k:Nat):Ka pz key (kas_rev p i j) k=if i<=k/\k<j then Ka pz key p (i+j-1-k)else Ka pz key p k:=by unfold Ka kas_rev;rw[cH,getElem?_mirror_all hj];split<;>rw[<-cH]
theorem Me(hj:j<=p.size)(h:∀k,i<=k->k<j->Ka pz key p k=Ka pz key p (j-1))(k:Nat):Ka pz key (kas_rev p i j) k=Ka pz key p k:=by
 rw[Li hj];split
 .rename_i hk
  rw[h _ (by omega) (by omega),h k hk.1 hk.2]
 .rfl
theorem Om{s d:Nat}(hs:s<p.size)(hd:d<=s)(k:Nat):Ka pz key (bubble p s d) k=if k=s-d then Ka pz key p s else if s-d<k/\k<=s then Ka pz key p (k-1)else Ka pz key p k:=by
 unfold Ka;rw[cH,getElem?_bubble hs d hd]
 by_cases h1:k=s-d
 .rw[if_pos h1,if_pos h1,<-cH]
 .rw[if_neg h1,if_neg h1]
  by_cases h2:s-d<k/\k<=s
  .rw[if_pos h2,if_pos h2,<-cH]
  .rw[if_neg h2,if_neg h2,<-cH]
theorem Up.one:Up pz key p 1:=λi j h1 h2=>by
 obtain rfl:i=j:=by omega
 exact Fm _
theorem Up.more{k:Nat}(h:Up pz key p k)(hl:pz.kle (Ka pz key p (k-1)) (Ka pz key p k)):Up pz key p (k+1):=λi j h1 h2=>by
 by_cases hj:j<k
 .exact h i j h1 hj
 obtain rfl:j=k:=by omega
 by_cases hi:i=j
 .subst hi;exact Fm _
 .exact Iy (h i (j-1) (by omega) (by omega)) hl
theorem Dn.more{k:Nat}(h:Dn pz key p k)(hl:pz.kle (Ka pz key p k) (Ka pz key p (k-1))):Dn pz key p (k+1):=λi j h1 h2=>by
 by_cases hj:j<k
 .exact h i j h1 hj
 obtain rfl:j=k:=by omega
 by_cases hi:i=j
 .subst hi;exact Fm _
 .exact Iy hl (h i (j-1) (by omega) (by omega))
theorem Dn.same{p':Array Nat}{k:Nat}(h:Dn pz key p k)(e:∀i,Ka pz key p' i=Ka pz key p i):Dn pz key p' k:=λi j h1 h2=>by rw[e,e];exact h i j h1 h2
theorem LN(hp:Pm n p){Q:Nat->Prop}:∀(f m:Nat),Up pz key p m->(∀m',m<=m'->m'<=m+f->Up pz key p m'->(m'=m+f\/pz.klt (Ka pz key p m') (Ka pz key p (m'-1)))->Q m')->A7 (gx pz key) n (kas_asc p f m) Q
 |0,m,hu,hq=>hq m (Af _) (by omega) hu (.inl rfl)
 |f+1,m,hu,hq=>by
  refine⟨hp.lt _,hp.lt _,?_⟩;dsimp only;split
  .rename_i h
   exact hq m (Af _) (by omega) hu (.inr h)
  .rename_i h
   refine LN hp f (m+1) (hu.more (Gs h)) λm' h1 h2 h3 h4=>hq m' (by omega) (by omega) h3 (h4.imp (λe=>by omega) id)
theorem JA{Q:Array Nat×Nat×Nat->Prop}:∀(f:Nat) (p:Array Nat) (m q:Nat),Pm n p->Dn pz key p m->q+1<=m->Ev pz key p m q->m+f<=n ->(∀p' m' q',Pm n p'->m<=m'->m'<=m+f->Dn pz key p' m'->q'+1<=m'->Ev pz key p' m' q'->Q (p',m',q'))->A7 (gx pz key) n (kas_desc f p m q) Q
 |0,p,m,q,hp,hd,h1,he,hn,hq=>hq p m q hp (Af _) (by omega) hd h1 he
 |f+1,p,m,q,hp,hd,h1,he,hn,hq=>by
  have hz:m<=p.size:=by rw[hp.size];omega
  have e0:∀p',Ev pz key p' (m+1) 0:=λp' i h1 h2=>by congr 1;omega
  refine⟨hp.lt _,hp.lt _,?_⟩;dsimp only;split
  .rename_i h
   have hd':=hd.more (Ib h);split
   .exact JA f _ (m+1) 0 (hp.rev _ _) (hd'.same (Me hz he)) (by omega) (e0 _) (by omega) λp' m' q' a b c d e g=>hq p' m' q' a (by omega) (by omega) d e g
   .exact JA f _ (m+1) 0 hp hd' (by omega) (e0 _) (by omega) λp' m' q' a b c d e g=>hq p' m' q' a (by omega) (by omega) d e g
  .rename_i h
   refine⟨hp.lt _,hp.lt _,?_⟩;dsimp only;split
   .exact hq p m q hp (Af _) (by omega) hd h1 he
   .rename_i h'
    have l1:=Gs h;have l2:=Gs h';have ee:Ka pz key p m=Ka pz key p (m-1):=NJ l2 l1;refine JA f p (m+1) (q+1) hp (hd.more l2) (by omega) (λi a b=>?_) (by omega) λp' m' q' a b c d e g=>hq p' m' q' a (by omega) (by omega) d e g;rw[show m+1-1=m by omega]
    by_cases hi:i=m
    .rw[hi]
    .rw[ee];exact he i (by omega) (by omega)
theorem Qg(hp:Pm n p)(hd:Dn pz key p m)(h1:1<=m)(hm:m<=n)(hq:∀m' p',1<=m'->m'<=n->Pm n p'->Up pz key p' m'->Q (m',p')):A7 (gx pz key) n (kas_tail3 m n p) Q:=by
 have hz:m<=p.size:=by rw[hp.size];omega
 refine A7.bnd _ (LN (hp.rev 0 m) (n-m) m (λi j a b=>?_) λm' a b c _=>hq m' _ (by omega) (by omega) (hp.rev 0 m) c);rw[Li hz,Li hz,if_pos (by omega),if_pos (by omega)];exact hd _ _ (by omega) (by omega)
theorem Qh(hp:Pm n p)(hd:Dn pz key p (m+1))(hm:m+1<=n)(hq:∀m' p',1<=m'->m'<=n->Pm n p'->Up pz key p' m'->Q (m',p')):A7 (gx pz key) n (kas_descPart m n p) Q:=by
 refine A7.bnd _ (JA (n-(m+1)) p (m+1) 0 hp hd (by omega) (λi a b=>by congr 1;omega) (by omega) λp' m' q' h1 h2 h3 h4 h5 h6=>?_);have hz:m'<=p'.size:=by rw[h1.size];omega
 dsimp only;split
 .exact Qg (h1.rev _ _) (h4.same (Me hz h6)) (by omega) (by omega) hq
 .exact Qg h1 h4 (by omega) (by omega) hq
theorem WU(hp:Pm n p)(hq:∀m' p',1<=m'->m'<=n->Pm n p'->Up pz key p' m'->Q (m',p')):A7 (gx pz key) n (kas_count n p) Q:=by
 have h0:=hp.pos;refine A7.bnd _ (LN hp (n-1) 1 Up.one λm h1 h2 h3 h4=>?_);have hz:m<=p.size:=by rw[hp.size];omega
 split
 .exact hq m p (by omega) (by omega) hp h3
 .rename_i dr
  have hne':m≠n:=by simpa using dr
  have cq:pz.klt (Ka pz key p m) (Ka pz key p (m-1)):=h4.resolve_left (by omega);split
  .rename_i hm
   refine⟨hp.lt _,hp.lt _,?_⟩;dsimp only;split
   .exact hq m p (by omega) (by omega) hp h3
   .rename_i hr
    have hr':pz.kle (Ka pz key p (m-1)) (Ka pz key p 0):=Gs hr;have all:∀k,0<=k->k<m->Ka pz key p k=Ka pz key p (m-1):=λk _ hk=>NJ (h3 k (m-1) (by omega) (by omega)) (Iy hr' (h3 0 k (by omega) hk));refine Qh (hp.rev _ _) (Dn.same ?_ (Me hz all)) (by omega) hq;refine Dn.more (λi j a b=>?_) (Ib cq);rw[all i (by omega) (by omega),all j (by omega) b];exact Fm _
  .obtain rfl:m=1:=by omega
   refine Qh hp (Dn.more (λi j a b=>?_) (Ib cq)) (by omega) hq;obtain rfl:i=j:=by omega
   exact Fm _
theorem MO{Q:Nat->Prop}{k:Nat}(hp:Pm n p)(hu:Up pz key p k):∀(f l r:Nat),l<=r->r<=k->r-l<=f->(∀i,i<l->pz.kle (Ka pz key p i) (Ka pz key p k))->(∀i,r<=i->i<k->pz.klt (Ka pz key p k) (Ka pz key p i)) ->(∀l,l<=k->(∀i,i<l->pz.kle (Ka pz key p i) (Ka pz key p k))->(∀i,l<=i->i<k->pz.klt (Ka pz key p k) (Ka pz key p i))->Q l)->A7 (gx pz key) n (kas_place p k f l r) Q
 |0,l,r,h1,h2,h3,lo,hi,hq=>by
  obtain rfl:l=r:=by omega
  exact hq l h2 lo hi
 |f+1,l,r,h1,h2,h3,lo,hi,hq=>by
  unfold kas_place;split
  .obtain rfl:l=r:=by omega
   exact hq l h2 lo hi
  .refine⟨hp.lt _,hp.lt _,?_⟩
   dsimp only;split
   .rename_i h
    exact MO hp hu f l ((l+r) / 2) (by omega) (by omega) (by omega) lo (λi a b=>KeyOrd.klt_of_klt_of_kle h (hu _ _ a b)) hq
   .rename_i h
    refine MO hp hu f ((l+r) / 2+1) r (by omega) (by omega) (by omega) (λi a=>Iy (hu i ((l+r) / 2) (by omega) (by omega)) (Gs h)) hi hq
theorem Pa{Q:Array Nat->Prop}:∀(f:Nat) (p:Array Nat) (k:Nat),Pm n p->Up pz key p k->k+f=n->(∀p',Pm n p'->Up pz key p' n->Q p')->A7 (gx pz key) n (kas_bin f p k) Q
 |0,p,k,hp,hu,hn,hq=>by
  obtain rfl:k=n:=by omega
  exact hq p hp hu
 |f+1,p,k,hp,hu,hn,hq=>by
  refine A7.bnd _ (MO hp hu k 0 k (by omega) (Af _) (by omega) (λi a=>by omega) (λi a b=>by omega) λl hl lo hi=>?_);refine Pa f _ (k+1) (hp.bub _ _) (λi j a b=>?_) (by omega) hq;have hk:k<p.size:=by rw[hp.size];omega
  rw[Om hk (by omega),Om hk (by omega),show k-(k-l)=l by omega]
  repeat' split
  all_goals first
   |(exfalso;omega)
   |exact Fm _
   |exact lo _ (by omega)
   |exact Ib (hi _ (by omega) (by omega))
   |exact hu _ _ (by omega) (by omega)
theorem WJ(hn:0<n){Q:Array Nat->Prop}(hq:∀p,Pm n p->Up pz key p n->Q p):A7 (gx pz key) n (kas_sort n) Q:=by
 refine A7.bnd _ (WU ⟨hn,.refl _⟩ λm p h1 h2 h3 h4=>?_);dsimp only;rw[show max m 1=m by omega];split
 .exact Pa _ p m h3 h4 (by omega) hq
 .exact hq p h3 (by rwa [show n=m by omega])
end
theorem c6:∀a:List Int,HM.lexLt a a=false
 |[]=>rfl
 |x::a=>by show(if x=x then HM.lexLt a a else decide (x<x))=false;rw[if_pos rfl];exact c6 a
theorem Hq(x y:Int)(a b:List Int):HM.lexLt (x::a) (y::b)=if x=y then HM.lexLt a b else decide (x<y):=rfl
theorem dq:∀a b c:List Int,HM.lexLt a b=true->HM.lexLt b c=true->HM.lexLt a c=true
 |[],[],_,h,_=>by cases h
 |[],_::_,[],_,h=>by cases h
 |[],_::_,_::_,_,_=>rfl
 |_::_,[],_,h,_=>by cases h
 |_::_,_::_,[],_,h=>by cases h
 |x::a,y::b,z::c,h1,h2=>by
  rw[Hq]at *;split at h1
  .rename_i e
   subst e;split at h2
   .rename_i e;subst e;rw[if_pos rfl];exact dq a b c h1 h2
   .rename_i e;rw[if_neg e];exact h2
  .split at h2
   .rename_i e1 e2;subst e2;rw[if_neg e1];exact h1
   .rename_i e1 e2
    have h1:=of_decide_eq_true h1;have h2:=of_decide_eq_true h2;rw[if_neg (by omega)];exact decide_eq_true (by omega)
theorem Lx:∀a b c:List Int,HM.lexLt a c=true->HM.lexLt a b=true\/HM.lexLt b c=true
 |[],[],_,h=>.inr h
 |[],_::_,_,_=>.inl rfl
 |_::_,_,[],h=>by cases h
 |_::_,[],_::_,_=>.inr rfl
 |x::a,y::b,z::c,h=>by
  rw[Hq]at *;rw[Hq];split at h
  .rename_i e
   subst e
   by_cases e:x=y
   .subst e;rw[if_pos rfl,if_pos rfl];exact Lx a b c h
   .rw[if_neg e,if_neg (AH e)]
    by_cases q:x<y
    .exact .inl (decide_eq_true q)
    .exact .inr (decide_eq_true (by omega))
  .rename_i e
   have h:=of_decide_eq_true h
   by_cases e1:x=y
   .subst e1;rw[if_neg e];exact .inr (decide_eq_true h)
   .rw[if_neg e1]
    by_cases q:x<y
    .exact .inl (decide_eq_true q)
    .rw[if_neg (by omega)];exact .inr (decide_eq_true (by omega))
theorem Ma:∀a b:List Int,HM.lexLt a b=false->HM.lexLt b a=false->a=b
 |[],[],_,_=>rfl
 |[],_::_,h,_=>by cases h
 |_::_,[],_,h=>by cases h
 |x::a,y::b,h1,h2=>by
  rw[Hq]at h1 h2
  by_cases e:x=y
  .subst e
   rw[if_pos rfl]at h1 h2;rw[Ma a b h1 h2]
  .rw[if_neg e]at h1
   rw[if_neg (AH e)]at h2;have h1:=of_decide_eq_false h1;have h2:=of_decide_eq_false h2;omega
@[reducible] def Ld:KeyOrd where
 α:=List Int
 blt:=HM.lexLt
 irrefl:=c6
 trans:=dq
 negTrans:=Lx
 total:=Ma
theorem MQ{α:Type}{R:α->α->Prop}(jH:∀a b,R a b->R b a->a=b):∀{l m:List α},l.Perm m->l.Pairwise R->m.Pairwise R->l=m
 |[],m,hp,_,_=>(List.nil_perm.mp hp).symm
 |x::l,[],hp,_,_=>absurd hp.symm (by intro q;exact List.cons_ne_nil _ _ (List.nil_perm.mp q))
 |x::l,y::m,hp,hl,hm=>by
  obtain⟨l1,l2⟩:=B4.mp hl;obtain⟨m1,m2⟩:=B4.mp hm;have e:x=y:=by
   rcases Ao.mp (hp.mem_iff.mp (Au ..))with e|e
   .exact e
   .rcases Ao.mp (hp.mem_iff.mpr (Au ..))with e'|e'
    .exact e'.symm
    .exact jH x y (l1 y e') (m1 x e)
  subst e;rw[MQ jH ((List.perm_cons x).mp hp) l2 m2]
def TI(h:Heap)(b:Addr)(t:List Int):Prop:=∃o its n,h.get? b=some o/\o.cls=.type "tuple"/\o.data=.seq its n/\IntsAre its.toList t
section
variable{prog:Program}{w:World}{A:Around}{E:Value->Shared->Prop}{s:Shared}
theorem OG{cN:Bool}{Q:Bool->Shared->Prop}:∀{vs ws:List Value} {a b:List Int} (i:Nat),IntsAre vs a->IntsAre ws b->cN=decide (vs.length<ws.length)->Q (HM.lexLt a b) s->KatLex prog w A true cN Q (vs.zip ws) i s
 |_,_,_,_,i,.nil,.nil,e,q=>by subst e;exact kat_nil q
 |_,_,_,_,i,.nil,.cons _ _ _,e,q=>by subst e;exact kat_nil q
 |_,_,_,_,i,.cons _ _ _,.nil,e,q=>by subst e;exact kat_nil q
 |_,_,_,_,i,.cons x t hv,.cons y u hw,e,q=>by
  rw[List.zip_cons_cons];refine kat_cons (wpAny_eqBool_int ?_);rw[Hq]at q
  by_cases h:x=y
  .rw[if_pos h]at q
   rw[show(x==y)=true by simpa using h];refine kat_yes (OG (i+1) hv hw ?_ q);rw[e,A2,A2];exact decide_eq_decide.mpr (by omega)
  .rw[if_neg h]at q
   rw[show(x==y)=false by simpa using h];refine kat_no ?_
   by_cases hi:i=0
   .rw[show(true&&i==0)=true by simpa using hi]
    exact oneLt_int q
   .rw[show(true&&i==0)=false by simpa using hi]
    exact kat_one _ _ (PyProof.Rows.lt_int q)
theorem SY{x y:Addr}{a b:List Int}{Q:Bool->Shared->Prop}(hx:TI s.heap x a)(hy:TI s.heap y b)(h:Q (HM.lexLt a b) s):wpAny (model prog w) A (keyLt' (tuples' true) (.ref x) (.ref y)) Q E s:=by obtain⟨ox,ix,n,e1,_,d1,r1⟩:=hx;obtain⟨oy,iy,k,e2,_,d2,r2⟩:=hy;refine kat_lt e1 d1 e2 d2 (OG 0 r1 r2 ?_ h);rw[A6,A6]
theorem Ph{α:Type}{mO:Nat->Nat->(Bool->Shared->Prop)->Shared->Prop}{o:Nat->Nat->Bool}{n:Nat}(hc:∀i j C,i<n->j<n->C (o i j) s->mO i j C s){G:α->Shared->Prop}:∀(t:KasT α),A7 o n t (λa=>G a s)->t.kasWp mO G s
 | .ret a,h=>h
 | .ask i j k,h=>hc i j _ h.1 h.2.1 (Ph hc (k (o i j)) h.2.2)
theorem Um{R:Heap->Addr->List Int->Prop}{F:List Int->Prop}(nZ:∀{h h':Heap} {b:Addr} {t:List Int},R h b t->(∀c o,h.get? c=some o->o.cls=.type "tuple"->h'.get? c=some o)->R h' b t)(gE:∀{h:Heap} {b:Addr} {t:List Int},F t->R h b t->∃o its n x u,h.get? b=some o/\o.cls=.type "tuple"/\o.data=.seq its n/\its[0]?=some (.int x u))(cq:∀{s:Shared} {x y:Addr} {a b:List Int} {C:Bool->Shared->Prop} {E:Value->Shared->Prop},R s.heap x a->R s.heap y b->C (HM.lexLt a b) s->wpAny (model prog w) A (keyLt' (tuples' true) (.ref x) (.ref y)) C E s){a:Addr}{vs:List Value}{ts:List (List Int)}{n:Nat}{P:HR->Shared->Prop}(ho:s.heap.get? a=some (seqObj "list" vs.toArray n))(hl:ts.length=vs.length)(hT:∀(i:Nat) t,ts[i]?=some t->∃b,vs[i]?=some (.ref b)/\R s.heap b t)(dr:vs.length<2\/∀t∈ts,F t)(ke:vs.length<64)(h:∀p:List Nat,p.Perm (Ab vs.length)->(p.map λi=>ts.getD i []).Pairwise (λx y=>HM.lexLt y x=false)->P (.done (.ret .none)) {s with heap:=F6 s.heap a vs (p.map λi=>vs.getD i A0).toArray}):wpAny (model prog w) A (Builtin.«list.sort» ⟨[.ref a],[]⟩) P E s:=by
 rw[list_sort_plain];have ha:a<s.heap.objs.size:=Ah ho;refine Aa (listItems_at ho rfl (Aa (listUpdate_at ho rfl ?_ (by rw[Aw,Bm];omega) (CA _))));obtain⟨e1,mq⟩:∃e1,(s.heap.update a (Ek λ_=>#[])).get? a=some (seqObj "list" #[] e1):=⟨_,get?_update_seq ho (λ_=>#[])⟩;refine Aa (seqEpoch_at mq rfl ?_);refine Aa (wpAny_newTuple ?_ (by show vs.length<=_;rw[Bm];omega));refine Aa (wpAny_newList ?_ (CA _));refine BR ?_;generalize hG:((s.heap.update a (Ek λ_=>#[])).push (seqObj "tuple" vs.toArray 0)).push (seqObj "list" #[] 0)=g;have mn:g.get? a=some (seqObj "list" #[] e1):=by rw[<-hG,GA _ _ _ (by rw[size_push',Iw];exact Al (Ff ha)),GA _ _ _ (by rw[Iw];exact Al ha)];exact mq
 have lI:∀b o,b≠a->s.heap.get? b=some o->g.get? b=some o:=λb o hb e=>by have cq:=Ah e;rw[<-hG,GA _ _ _ (by rw[size_push',Iw];exact Al (Ff cq)),GA _ _ _ (by rw[Iw];exact Al cq),Heap.get?_update_ne _ _ _ _ hb];exact e
 have lb:∀(i:Nat) t,ts[i]?=some t->∃b,vs[i]?=some (.ref b)/\R g b t:=λi t e=>by
  obtain⟨b,e1,x⟩:=hT i t e;refine⟨b,e1,nZ x λc o q hc=>lI c o ?_ q⟩
  rintro rfl
  rw[ho]at q;cases q;exact absurd (Value.type.inj hc) (by decide)
 show wpAny (model prog w) A _ P E {s with heap:=g};dsimp only;have cN:∀(st':SortSt) (p:List Nat),p.Perm (Ab vs.length)->(p.map λi=>ts.getD i []).Pairwise (λx y=>HM.lexLt y x=false)->(arrOf st').map (·.2)=(p.map λi=>vs.getD i A0).toArray->failedOf st'=none ->
   wpAny (model prog w) A (do
    let touched:=(<-seqEpoch a) != e1
    Builtin.List.listUpdate (.ref a) λ_=>(arrOf st').map (·.2)
    if let some e:=failedOf st' then rule "list.sort.comparison-raised";throw e
    if touched then rule "list.sort.modified";raiseError "ValueError" "list modified during sort"
    ret .none) P E {s with heap:=g}:=by
  intro st' p hp hs k6 hf;refine Aa (seqEpoch_at mn rfl ?_);rw[k6];refine Aa (listUpdate_at mn rfl ?_ (CA _) (by show(p.map λi=>vs.getD i A0).toArray.size<=_;rw[Aw,Ae,hp.length_eq,AO,Bm];omega));rw[hf];simp only[bne_self_eq_false,CM,if_false];refine Ac ?_;have:=h p hp hs;unfold F6 at this;rw[hG]at this;exact this
 by_cases h2:vs.toArray.size<2
 .rw[if_pos h2,if_pos h2]
  refine Aa (Ac ?_);rw[StateT.run_pure];refine Aa (Ac ?_);refine cN (SortSt.mk' general' (vs.toArray.zip vs.toArray) #[] 7 none) (Ab vs.length) (.refl _) ?_ ?_ rfl
  .rw[Aw]at h2
   have:vs.length=0\/vs.length=1:=by omega
   rcases this with e|e<;>rw[e]<;>simp
  .rw[Aw]at h2
   show Array.map (·.2) (vs.toArray.zip vs.toArray)=_
   match vs,h2 with
   |[],_=>simp
   |[v],_=>simp
 .rw[if_neg h2,if_neg h2]
  rw[Aw]at h2;have hne':∀t∈ts,F t:=dr.resolve_left h2;have tups:∀(vs:List Value) (ts:List (List Int)),ts.length=vs.length->(∀(i:Nat) t,ts[i]?=some t->∃b,vs[i]?=some (.ref b)/\R g b t)->(∀t∈ts,F t)->∃fs,KatTups g vs fs/\fs.length=vs.length/\∀v∈fs,∃x t,v=BP x t:=by
   intro vs
   induction vs with
   |nil=>intro ts hl _ _;exact⟨[],KatTups.nil,rfl,by simp⟩
   |cons v vs ih =>
    intro ts hl hT hn;cases ts with
    |nil=>simp at hl
    |cons t ts =>
     obtain⟨fs,f1,f2,f3⟩:=ih ts (by simpa using hl) (λi t e=>hT (i+1) t (by simpa using e)) λx hx=>hn x (Av _ hx);obtain⟨b,eb,hr⟩:=hT 0 t rfl;obtain⟨o,its,m,x,u,g1,g2,g3,g4⟩:=gE (hn t (Au ..)) hr;simp at eb;subst eb;refine⟨.int x u::fs,KatTups.cons g1 g2 g3 g4 f1,by simp[f2],λv hv=>?_⟩;rcases Ao.mp hv with e|e
     .exact⟨x,u,e⟩
     .exact f3 v e
  obtain⟨fs,f1,f2,f3⟩:=tups vs ts hl lb hne';refine Aa (kat_kind (s:={s with heap:=g}) (T:=.type "int") f1 (by omega) (λv hv=>?_) (by rfl) ?_)
  .obtain⟨x,t,rfl⟩:=f3 v hv
   exact Looks.of_pure rfl
  rw[show(Dh "int" != Dh "tuple")=true by decide];refine Aa (B5 (kat_run (ks:=vs) (Q:=λst' s'=>s'={s with heap:=g}/\∃p:Array Nat,Pm vs.length p/\Up Ld (λi=>ts.getD i []) p vs.length/\arrOf st'=p.map (kas_item (vs.toArray.zip vs.toArray))/\failedOf st'=none)
   (G:=λp s'=>s'={s with heap:=g}/\Pm vs.length p/\Up Ld (λi=>ts.getD i []) p vs.length) rfl (by omega) ke (λp' st' s' a1 a2 a3 a4=>⟨a4.1,p',a4.2.1,a4.2.2,a2,a3⟩) ?_) ?_ λ_ _ e=>e)
  .refine Ph (o:=gx Ld λi=>ts.getD i []) (n:=vs.length) (λi j C hi hj hC=>?_) _ (WJ (by omega) λp h1 h2=>⟨rfl,h1,h2⟩)
   have gi:ts[i]?=some (ts.getD i []):=by simp[show i<ts.length by omega]
   have gj:ts[j]?=some (ts.getD j []):=by simp[show j<ts.length by omega]
   obtain⟨b1,v1,x1⟩:=lb i _ gi;obtain⟨b2,v2,x2⟩:=lb j _ gj;show wpAny (model prog w) A (keyLt' _ (vs.getD i A0) (vs.getD j A0)) C _ _;rw[show vs.getD i A0=.ref b1 by simp[Dg,v1],show vs.getD j A0=.ref b2 by simp[Dg,v2]];exact cq x1 x2 hC
  .rintro ⟨⟨⟩,st'⟩ s' ⟨rfl,p,hp,hu,k6,hf⟩
   refine cN st' p.toList ?_ ?_ (kat_snds rfl k6) hf
   .have:=Nv.mp hp.perm
    simpa using this
   .rw[Gz,IC]
    intro i j hi hj kX;have hsz:=hp.size;have q:=hu i j (CP kX) (by rw[A6]at hj;omega);unfold Ka at q;rw[show p.getD i 0=p.toList[i] by simp[Cu,show i<p.size by simpa using hi],show p.getD j 0=p.toList[j] by simp[Cu,show j<p.size by simpa using hj]]at q;exact q
theorem Ut{a:Addr}{vs:List Value}{ts:List (List Int)}{P:HR->Shared->Prop}(ho:s.heap.get? a=some (seqObj "list" vs.toArray n))(hl:ts.length=vs.length)(hT:∀(i:Nat) t,ts[i]?=some t->∃b,vs[i]?=some (.ref b)/\TI s.heap b t)(dr:vs.length<2\/∀t∈ts,t≠[])(ke:vs.length<64)(h:∀p:List Nat,p.Perm (Ab vs.length)->(p.map λi=>ts.getD i []).Pairwise (λx y=>HM.lexLt y x=false)->P (.done (.ret .none)) {s with heap:=F6 s.heap a vs (p.map λi=>vs.getD i A0).toArray}):wpAny (model prog w) A (Builtin.«list.sort» ⟨[.ref a],[]⟩) P E s:=by
 refine Um (R:=TI) (F:=λt=>t≠[]) (λ⟨o,its,n,e,c,r⟩ k=>⟨o,its,n,k _ _ e c,c,r⟩) (λ{h b t} hn x=>?_) SY ho hl hT dr ke h;obtain⟨o,its,m,g1,g2,g3,g4⟩:=x;cases t with
 |nil=>exact absurd rfl hn
 |cons x t =>
  cases hi:its.toList with
  |nil=>rw[hi]at g4;cases g4
  |cons y ys =>
   rw[hi]at g4;cases g4 with
   |cons _ u _=>exact⟨o,its,m,x,u,g1,g2,g3,by rw[<-Dj,hi];rfl⟩
end
def By(h:Heap)(d:Addr)(es:Array DictEntry)(ep:Nat):Prop:=∃o,h.get? d=some o/\o.ExactDict/\o.data=.dict es ep
theorem By.at'{h':Heap}{d:Addr}{es:Array DictEntry}(x:By h d es ep)(e:∀o,h.get? d=some o->h'.get? d=some o):By h' d es ep:=let ⟨o,ho,r⟩:=x;⟨o,e _ ho,r⟩
theorem By.typeIs{s:Shared}{d:Addr}{es:Array DictEntry}(x:By s.heap d es ep):s.TypeIs (.ref d) "dict":=let ⟨o,ho,hc,_⟩:=x;⟨o,ho,hc.1⟩
theorem By.lt{d:Addr}{es:Array DictEntry}(x:By h d es ep):d<h.objs.size:=let ⟨o,ho,_⟩:=x;Ah ho
section
variable{prog:Program}{w:World}{A:Around}{E:Value->Shared->Prop}{s:Shared}{it d:Addr}{es:Array DictEntry}{ep i:Nat}
theorem UE{Q:Value->Shared->Prop}(hd:(d==A4)=false)(hm:By s.heap d es ep)(hQ:Q (.ref s.heap.objs.size) {s with heap:=s.heap.push {cls:=.type "dict_keyiterator",data:=.fields #[.ref d,.int 0 0,.int es.size 0,.int ep 0]}}):wpAny (model prog w) A (pyIter (.ref d)) Q E s:=by
 obtain⟨o,ho,hc,gW⟩:=id hm;have hT:=hm.typeIs;refine J8 hT F.slot_dict_iter (BH F.slot_dict_iter hT F.entry_dict_iter ?_ (F.args_dict_iter_1 _));unfold Builtin.«dict.__iter__»;refine Aa ?_;unfold Builtin.Dict.dictSlotNone;refine Aa (wpAny_notOrdered_dict hT ?_);show wpAny _ _ (pure (Bb d)) _ _ s;refine Ac ?_;show wpAny _ _ (Nx d >>= _) _ _ s;unfold Nx;rw[if_neg (by rw[hd];exact Bn)];refine Aa (Ac (Aa (GC ho gW (Aa (Ki ho gW ?_)))));refine Aa (BO (Ac ⟨_,rfl,"dict_keyiterator",_,⟨_,AA _ rfl,rfl⟩,F.slot_dict_keyiterator_next.lookup,?_⟩));simpa [rawInt]using hQ
theorem VA{e:DictEntry}{Q:Option Value->Shared->Prop}(cQ:s.heap.IsKeyIter it d i es.size ep)(hm:By s.heap d es ep)(hx:es[i]?=some e)(hQ:∀h',h'.IsKeyIter it d (i+1) es.size ep->Cy it s.heap h'->Q (some e.key) {s with heap:=h'}):wpAny (model prog w) A (pyNext (.ref it)) Q E s:=by
 obtain⟨o,ho,hc,hd⟩:=id cQ;obtain⟨od,jm,dP,dg⟩:=id hm;unfold pyNext;refine Aa (HZ (wpAny_callSpecial?_slot (name:=Fb "__next__") cQ.typeIs F.slot_dict_keyiterator_next
  (BH F.slot_dict_keyiterator_next cQ.typeIs F.entry_dict_keyiterator_next ?_ (F.args_dict_keyiterator_next_1 _))))
 refine Aa (Ac (Aa (Aa ?_)))
 first|refine Aa (ID cQ.typeIs (Ac ?_))|refine Aa (II cQ.typeIs (Ac ?_))
 refine Aa (Il ho hd ?_);have eL:NP "dict_keyiterator"=false:=by decide
 simp only[eL,CM,if_false];show wpAny _ _ (if(Bb d==A0)=true then _ else _) _ _ s;rw[if_neg (show ¬((Bb d==A0)=true) from Bn)];refine Aa (Ac (Aa (GC jm dg ?_)));rw[if_neg (by simp)];refine Aa (Ac (Aa (Ki jm dg ?_)));rw[if_neg (by simp)];refine Ac ?_;obtain⟨cq,he⟩:=Array.getElem?_eq_some_iff.mp hx;simp only[show ¬((i:Int)<0) from by omega,if_false,GB,IA cq];refine Aa ?_
 first|refine Aa (ID cQ.typeIs (Ac ?_))|refine Aa (II cQ.typeIs (Ac ?_))
 refine Aa (wpAny_isOneOf_keyiter cQ.typeIs ?_);show wpAny _ _ (setField (.ref it) 1 (rawInt ((i:Int)+1)) >>= _) _ _ s;refine Aa (Gj ho hd (by simp) ?_);have hit':(s.heap.update it (Kn (·.setIfInBounds 1 (rawInt ((i:Int)+1))))).IsKeyIter it d (i+1) es.size ep :=
  ⟨_,Ez _ ho (KD (DT hd _)),(J7 ..).trans hc,by rw[DT hd];simp[rawInt]⟩
 refine Aa (BR ?_);refine Aa (wpAny_isOneOf_keyiter (s:={s with heap:=s.heap.update it (Kn (·.setIfInBounds 1 (rawInt ((i:Int)+1))))}) hit'.typeIs ?_);show wpAny _ _ (pure es[i].key) _ _ _;refine Ac (Ac ⟨_,rfl,Ac ?_⟩);rw[he];exact hQ _ hit' (CJ ..)
theorem S8{Q:Option Value->Shared->Prop}(hh:A.handled=none)(cQ:s.heap.IsKeyIter it d i es.size ep)(hm:By s.heap d es ep)(hx:es.size<=i)(hQ:∀h',Heap.ExtBut it s.heap h'->Q none {s with heap:=h'}):wpAny (model prog w) A (pyNext (.ref it)) Q E s:=by
 obtain⟨o,ho,hc,hd⟩:=id cQ;obtain⟨od,jm,dP,dg⟩:=id hm;unfold pyNext;refine Aa (HZ (wpAny_callSpecial?_slot (name:=Fb "__next__") cQ.typeIs F.slot_dict_keyiterator_next
  (BH F.slot_dict_keyiterator_next cQ.typeIs F.entry_dict_keyiterator_next ?_ (F.args_dict_keyiterator_next_1 _))))
 refine Aa (Ac (Aa (Aa ?_)))
 first|refine Aa (ID cQ.typeIs (Ac ?_))|refine Aa (II cQ.typeIs (Ac ?_))
 refine Aa (Il ho hd ?_);have eL:NP "dict_keyiterator"=false:=by decide
 simp only[eL,CM,if_false];show wpAny _ _ (if(Bb d==A0)=true then _ else _) _ _ s;rw[if_neg (show ¬((Bb d==A0)=true) from Bn)];refine Aa (Ac (Aa (GC jm dg ?_)));rw[if_neg (by simp)];refine Aa (Ac (Aa (Ki jm dg ?_)));rw[if_neg (by simp)];refine Ac ?_;simp only[show ¬((i:Int)<0) from by omega,if_false,GB,Kr hx];refine Aa ?_
 first|refine Aa (ID cQ.typeIs (Ac ?_))|refine Aa (II cQ.typeIs (Ac ?_))
 show wpAny _ _ (setField (.ref it) 0 .none >>= _) _ _ s;refine Aa (Gj ho hd (by simp) ?_);show wpAny _ _ (newExc (.type "StopIteration") [] >>= _) _ _ _;refine Aa ?_;simp only[newExc,newTuple];refine Aa (BO ?_ (by size_fits));refine Aa (m:=Ik _ _) (wpAny_of_eq (a:=A0) (by first|rfl|(simp only[Ik];rfl)) ?_)
 refine BO ?_ (by size_fits);simp only[raiseNew];refine Aa (wpAny_handled ?_);rw[show A.in1.handled=none from hh];refine Aa (Ac (wpAny_throw ?_));refine Aa (GG (T:="StopIteration") (b:=true) ⟨_,AA _ rfl,rfl⟩ isSubtype_stop ?_);exact Ac (hQ _ (((CJ ..).extBut.push _).push _))
theorem Vi(hh:A.handled=none)(I d:Addr)(dr:d≠I)(es:Array DictEntry)(ep:Nat):Walks prog w A I [I,d] [I] es.size (λi v=>∃e,es[i]?=some e/\v=e.key) (λi h=>h.IsKeyIter I d i es.size ep/\By h d es ep) where
 sub:=λb hb=>by simp at hb;simp[hb]
 frame:=λ_ _ _ st hk=>⟨st.1.at λo e=>hk I (by simp) o e,st.2.at' λo e=>hk d (by simp) o e⟩
 item:=λi s Q E hi st hQ=>by have hx:es[i]?=some es[i]:=IA hi;refine VA st.1 st.2 hx λh' hit' hs'=>?_;exact hQ _ h' s.toks ⟨_,hx,rfl⟩ ⟨hit',st.2.at' λo e=>hs'.extBut d o dr e⟩ λb o hb e=>hs'.extBut b o (λh=>hb (by simp[h])) e
 done:=λs Q E st hQ=>S8 hh st.1 st.2 (Af _) λh' he'=>hQ h' s.toks λb o hb e=>he' b o (λh=>hb (by simp[h])) e
 self:=λ_ _ _ _ st hQ=>wpAny_pyIter_keyiter st.1 hQ
end
end HP
namespace HP
open PySem PySem.Spec PySem.W PySem.Calls PyProof.Rows L2
variable[FX]
section
variable{a r:Addr}{es:Array (Int×Value)}{h:Heap}{ep:Nat}
section
variable{prog:Program}{w:World}{A:Around}{E:Value->Shared->Prop}{s:Shared}
theorem V2{Q:Bool->Shared->Prop}(hT:s.TypeIs (.ref r) "set")(h:Q false s):wpAny (model prog w) A (NT (.ref r)) Q E s:=by
 unfold NT;refine Aa (Fl hT PySem.F.slot_set_len.lookup ?_);generalize j6:("set.__len__":String)=id0
 wp_delta
 rw[show splitId id0=some ("set","__len__") from by subst j6;decide +kernel];subst j6;refine Aa (GG (T:="set") (b:=true) hT (by rw[isSubtype_type];kernel_rfl) ?_);refine En (λq=>absurd q (by decide)) λ_=>?_;refine En (λ_=>?_) (λq=>absurd (by decide +kernel) q);exact Aa (wpAny_typeOf hT (Ac h))
theorem Tq{d:Addr}{es:Array DictEntry}(lo:(d==A4)=false):KdlSrc prog w "dict" d d es.size (λi v=>∃e,es[i]?=some e/\v=e.key) (λh=>By h d es ep) where
 type:=λ_ hm=>hm.typeIs
 there:=λ_ hm=>⟨hm.lt,hm.lt⟩
 keep:=λ_ _ hm hk=>hm.at' λo e=>hk d (.inl rfl) o e
 notList:=by decide
 notTuple:=by decide
 hint:=λ_ _ _ _ hm hq=>kdl_hint_dict hm.typeIs hq
 iter:=λ_ _ hh hm=>⟨_,_,(λ_ _ hq=>UE lo hm hq),Vi hh _ d (Al hm.lt) es ep,⟨⟨_,AA _ rfl,rfl,rfl⟩,hm.at' λo e=>Ap _ e⟩⟩
theorem BS.typeIs{t:SetTable}(x:BS w s.heap a es ep t):s.TypeIs (.ref a) "set":=let ⟨o,ho,hc,_⟩:=x.obj;⟨o,ho,hc.1⟩
theorem BS.lt{t:SetTable}(x:BS w h a es ep t):a<h.objs.size:=let ⟨o,ho,_⟩:=x.obj;Ah ho
theorem T2{t:SetTable}:KdlSrc prog w "set" a a es.size (λi v=>∃e,(BL w a es ep)[i]?=some e/\v=e.2) (λh=>BS w h a es ep t) where
 type:=λ_ hm=>hm.typeIs
 there:=λ_ hm=>⟨hm.lt,hm.lt⟩
 keep:=λ_ _ hm hk=>hm.at' λo e=>hk a (.inl rfl) o e
 notList:=by decide
 notTuple:=by decide
 hint:=λ_ _ _ _ hm hq=>V2 hm.typeIs hq
 iter:=λ_ _ hh hm=>⟨_,_,(λ_ _ hq=>VC hm hq),Vj hh _ a (Al hm.lt) es ep t,⟨0,⟨_,AA _ rfl,rfl,rfl⟩,hm.at' λo e=>Ap _ e,λ_=>W4 hm.tab.rise⟩⟩
theorem Mn{T:String}{d:Addr}{n:Nat}{P:Nat->Value->Prop}{OK:Heap->Prop}{R:List Value->Shared->Prop}(K:KdlSrc prog w T r d n P OK)(hh:A.handled=none)(hok:OK s.heap)(hn:n<=sizeLine)(h:∀(h':Heap) (tk:Nat) (acc:Array Value),(∀b o,s.heap.get? b=some o->h'.get? b=some o)->s.heap.objs.size<h'.objs.size->ItemsOf P acc n->R acc.toList {s with heap:=h',toks:=tk}):wpAny (model prog w) A (collect (.ref r)) R E s:=by
 have cq:=K.there _ hok;unfold collect;refine Aa (wpAny_runValue (DW entry_proto_collect' ?_));rw[Ex NS _];show wpAny _ A.in1 (newList [] >>= λl=>again (.builtin "list.__iadd__" ⟨[l,.ref r],[]⟩)) _ _ s;refine Aa (BO (Ac ⟨H8 IE _,DW entry_list_iadd' ?_⟩));rw[Ex IE _];have lg:(s.heap.push {cls:=.type "list",data:=.seq ([]:List Value).toArray}).get? s.heap.objs.size=some {cls:=.type "list",data:=.seq #[]}:=AA _ rfl;show wpAny _ A.in1 (NR (.ref s.heap.objs.size) (.ref r) (.ref s.heap.objs.size)) _ _ _;refine B5 (kdl_extend (A:=A) (s:={s with heap:=s.heap.push {cls:=.type "list",data:=.seq ([]:List Value).toArray}})
  (R:=λ(q:Result) (s':Shared)=>∃(h':Heap) (tk:Nat) (acc':Array Value) (c':Nat),q=.ok (.ret (.ref s.heap.objs.size))/\s'={s with heap:=h',toks:=tk} /\
   (∀b o,s.heap.get? b=some o->h'.get? b=some o)/\h'.get? s.heap.objs.size=some {cls:=.type "list",dict:=none,data:=.seq acc' c',slots:=#[]}/\ItemsOf P acc' n)
  K hh (K.keep _ _ hok λb _ o e=>Ap _ e) s.heap.objs.size (Df cq.1) (Df cq.2) (.ref s.heap.objs.size) 0 lg
  (λh' tk acc' c' hk hS' cx=>⟨h',tk,acc',c',rfl,rfl,λb o e=>hk b o (Al (Ah e)) (Ap _ e),hS',cx⟩) hn) (λcN s' x=>?_) λe s' x=>?_
 .have go:∀(h':Heap) (tk:Nat) (acc':Array Value) (c':Nat),(∀b o,s.heap.get? b=some o->h'.get? b=some o)->h'.get? s.heap.objs.size=some {cls:=.type "list",dict:=none,data:=.seq acc' c',slots:=#[]}->ItemsOf P acc' n ->
    wpAny (model prog w) A (load s.heap.objs.size >>= λo=>match o.data with | .seq xs _=>pure xs.toList|_=>unsupported "internal:collect") R E {s with heap:=h',toks:=tk}:=λh' tk acc' c' hk hS' cx =>
   Aa (wpAny_load hS' (Ac (h h' tk acc' hk (Ah hS') cx)))
  cases cN with
  |done f=>obtain⟨h',tk,acc',c',e,rfl,hk,hS',cx⟩:=x;cases e;exact go h' tk acc' c' hk hS' cx
  |again c₁=>refine⟨x.1,Ep x.2 λq s₂ y=>?_⟩;obtain⟨h',tk,acc',c',rfl,rfl,hk,hS',cx⟩:=y;exact go h' tk acc' c' hk hS' cx
 .obtain⟨_,_,_,_,e',_⟩:=x
  cases e'
end
inductive CT(K:Ad)(F H:J)(p:Addr):List PyData->Prop where
 |lst {ds:List PyData} {vs:List V} (h:cF K H p vs) (r:Zs K F ds vs):CT K F H p ds
 |tup {ds:List PyData} {vs:List V} (h:da K H p vs) (r:Zs K F ds vs):CT K F H p ds
 |dk {kvs:List (cn×V)} (h:H p=some (.dK kvs)):CT K F H p (kvs.map λq=>HM.Eb q.1)
 |dt {kvs:List (List cn×V)} (h:H p=some (.dT kvs)):CT K F H p (kvs.map λq=>.tuple (q.1.map HM.Eb))
theorem T4{K:Ad}{F:J}(k:cn):b7 K F (HM.Eb k) (kV k):=by
 cases k with
 |inl i=>exact .int i
 |inr x=>exact .str x
theorem L9{K:Ad}{F:J}:∀(ks:List cn),Zs K F (ks.map HM.Eb) (ks.map kV)
 |[]=>.nil
 |k::ks=>.cons (T4 k) (L9 ks)
theorem U8{P:Program}{w:World}{k:cn}{u:Value}(h:(Bd P w).is k u=true):RelV (kV k) u:=by
 rw[WX]at h;rcases C4 h with⟨i,t,rfl,rfl⟩|⟨x,t,rfl,rfl⟩
 .exact⟨t,rfl⟩
 .exact⟨t,rfl⟩
section
variable{X:Cx}{bT:List (Addr×Obj)}{Y:L2.St}{H F:J}{s:Shared}{p:Addr}{ds:List PyData}
theorem Hf:∀{vs:List V} {us:List Value},vs.length=us.length->(∀(i:Nat) v u,vs[i]?=some v->us[i]?=some u->RelV v u)->bW vs us
 |[],[],_,_=>.nil
 |[],_::_,h,_=>by simp at h
 |_::_,[],h,_=>by simp at h
 |v::vs,u::us,h,k=>.cons (k 0 v u rfl rfl) (Hf (by simpa using h) λi a b e1 e2=>k (i+1) a b (by simpa using e1) (by simpa using e2))
def mT(X:Cx)(s:Shared)(ds:List PyData)(F:J)(p:Addr):Prop:=∃vs,Zs X.K F ds vs/\∀(A:Around) (E:Value->Shared->Prop) (R:List Value->Shared->Prop),A.handled=none ->
  (∀us h' tk,bW vs us->(∀b o,s.heap.get? b=some o->h'.get? b=some o)->R us {s with heap:=h',toks:=tk})->wpAny (model X.prog X.w) A (collect (.ref p)) R E s
theorem CT.gath(I:Inv X bT Y H s)(sub:Zo F H)(h:CT X.K F H p ds):mT X s ds (Ax F H) p:=by
 cases h with
 | @lst _ vs h r=>obtain⟨its,rv,pl,hz⟩:=I.list h;obtain⟨o,ho,cE,n,hd⟩:=pl.isList;refine⟨vs,r.mono (BE sub),λA E R _ k=>wpAny_collect_seq p (.inl rfl) ho cE hd (λh' kp=>?_) (by rw[Aw,<-rv.length];exact hz)⟩;exact k its h' s.toks rv kp
 | @tup _ vs h r=>obtain⟨its,rv,pl,hz⟩:=I.tuple h;obtain⟨o,ho,cE,n,hd⟩:=pl;refine⟨vs,r.mono (BE sub),λA E R _ k=>wpAny_collect_seq p (.inr rfl) ho cE hd (λh' kp=>?_) (by rw[Aw,<-rv.length];exact hz)⟩;exact k its h' s.toks rv kp
 | @dk kvs h =>
  obtain⟨z,lo,vs,dJ,dd⟩:=K6 I.hok h;obtain⟨ep,k5⟩:=dd.dictAt;have hl:kvs.length=vs.length:=Et dJ;refine⟨kvs.map λq=>kV q.1,?_,λA E R hh k=>Mn (kdl_dict (knd:=Bd X.prog X.w) (kvs:=vs) (ep:=ep) lo) hh k5 (by omega) λh' tk acc kp hsz cx=>k _ h' tk ?_ kp⟩
  .have:=L9 (K:=X.K) (F:=Ax F H) (kvs.map (·.1))
   rw[Aq,Aq]at this;exact this
  .refine Hf (by have q:acc.toList.length=acc.size:=A6;rw[Ae,q,cx.1,hl]) λi v u e1 e2=>?_
   obtain⟨kk,x,q1,q2⟩:=cx.2 i u (by rw[<-Dj];exact e2);rw[AQ]at e1;obtain⟨q,e3,e4⟩:=An.mp e1;subst e4;have key:∀{l:List (cn×V)} {m:List (cn×Value)},KV l m->∀(i:Nat) a b,l[i]?=some a->m[i]?=some b->a.1=b.1:=by
    intro l m r
    induction r with
    |nil=>intro i a b e;simp at e
    |cons hq _ ih =>
     intro i a b e1 e2;cases i with
     |zero=>simp at e1 e2;subst e1;subst e2;exact hq.1
     |succ i=>exact ih i a b (by simpa using e1) (by simpa using e2)
   have ek:=key dJ i q (kk,x) e3 q1;rw[ek];exact U8 q2
 | @dt kvs h =>
  obtain⟨z,lo,xs,dJ,o,es,ep,h1,h2,h3,h4,h5⟩:=(show ZV X.prog X.w H s.heap p (.dT kvs) from I.hok p _ h);have hl:kvs.length=xs.length:=Et dJ;have iA:es.size=xs.length:=by rw[<-A6,h4,Ae]
  have hm:By s.heap p es ep:=⟨o,h1,h2,h3⟩;refine⟨xs.map λq=>V.ref q.2.1,?_,λA E R hh k=>Mn (Tq (es:=es) (ep:=ep) lo) hh hm (by omega) λh' tk acc kp hsz cx=>k _ h' tk ?_ kp⟩
  .clear h4 iA hl z h h5
   induction dJ with
   |nil=>exact .nil
   | @cons p0 _ _ _ hq _ ih=>obtain⟨q1,q2,_⟩:=hq;rw[Am,Am];refine .cons ?_ ih;have rk:=L9 (K:=X.K) (F:=Ax F H) p0.1;exact .tup (UC q2) rk.1 rk.2
  .refine Hf (by have q:acc.toList.length=acc.size:=A6;rw[Ae,q,cx.1,iA]) λi v u e1 e2=>?_
   obtain⟨e,q1,q2⟩:=cx.2 i u (by rw[<-Dj];exact e2);subst q2;rw[AQ]at e1;obtain⟨q,e3,e4⟩:=An.mp e1;subst e4;rw[<-Dj,h4,AQ,e3]at q1;cases q1;rfl
theorem D9{K:Ad}{F:J}:∀{ds:List PyData} {vs:List V} {ns:List Int},HM.BC ds=some ns->Zs K F ds vs->vs=ns.map V.int
 |[],vs,ns,h,r=>by cases h;exact r.nil_inv
 |d::ds,vs,ns,h,r=>by
  obtain⟨v,us,rfl,r1,r2⟩:=r.cons_inv;cases d with
  |int b=>obtain⟨bs',h1,h2⟩:=An.mp h;subst h2;rw[r1.int_inv,D9 h1 r2];rfl
  |none=>cases h
  |bool _=>cases h
  |str _=>cases h
  |list _=>cases h
  |tuple _=>cases h
  |dict _=>cases h
theorem LF:∀(t:List Int),HM.BC (HM.el t)=some t
 |[]=>rfl
 |x::t=>by show(HM.BC (HM.el t)).map (x::·)=_;rw[LF t];rfl
theorem LS:∀{ds:List PyData} {ns:List Int},HM.BC ds=some ns->ds=HM.el ns
 |[],ns,h=>by cases h;rfl
 |d::ds,ns,h=>by
  cases d with
  |int b=>obtain⟨bs',h1,h2⟩:=An.mp h;subst h2;rw[LS h1];rfl
  |none=>cases h
  |bool _=>cases h
  |str _=>cases h
  |list _=>cases h
  |tuple _=>cases h
  |dict _=>cases h
theorem Hk{K:Ad}{F:J}:∀(ns:List Int),Zs K F (HM.el ns) (ns.map V.int)
 |[]=>.nil
 |n::ns=>.cons (.int n) (Hk ns)
theorem Hj:∀{ns:List Int} {us:List Value},bW (ns.map V.int) us->IntsAre us ns
 |[],_,r=>by rw[Fq]at r;cases r;exact .nil
 |n::ns,_,r=>by
  rw[Am]at r;cases r with
  |cons h t=>obtain⟨u,rfl⟩:=h;exact .cons n u (Hj t)
theorem MN:∀{us:List Value} {ns:List Int},IntsAre us ns->bW (ns.map V.int) us
 |_,_,.nil=>.nil
 |_,_,.cons n t h=>.cons ⟨t,rfl⟩ (MN h)
theorem LP:∀{ds:List PyData} {ts:List (List Int)},HM.FE ds=some ts->ds=HM.ag ts
 |[],ts,h=>by cases h;rfl
 |d::ds,ts,h=>by
  cases d with
  |tuple es =>
   unfold HM.FE at h;split at h
   .rename_i ns hn
    obtain⟨r',h1,h2⟩:=An.mp h;subst h2;rw[LS hn,LP h1];rfl
   .cases h
  |none=>cases h
  |bool _=>cases h
  |int _=>cases h
  |str _=>cases h
  |list _=>cases h
  |dict _=>cases h
theorem PJ{ns ms:List Int}(h:ms.Perm ns)(hs:ms.Pairwise (·<=·)):ms=HM.sortI ns:=by refine MQ (R:=(·<=·)) (λa b h1 h2=>by omega) (h.trans (Kz ns _).symm) hs ?_;have:=Ku (le:=λa b:Int=>decide (a<=b)) (λa b c h1 h2=>by simp at *;omega) (λa b=>by simp;omega) ns;exact this.imp λh=>by simpa using h
theorem Uk{ts us:List (List Int)}(h:us.Perm ts)(hs:us.Pairwise (λx y=>HM.lexLt y x=false)):us=HM.W5 ts:=by
 refine MQ (R:=λx y=>HM.lexLt y x=false) (λa b h1 h2=>Ma a b h2 h1) (h.trans (Kz ts _).symm) hs ?_;have:=Ku (le:=λa b:List Int=>!HM.lexLt b a) (λa b c h1 h2=>by
  simp only[Bool.not_eq_true']at *;cases q:HM.lexLt c a with
  |false=>rfl
  |true =>
   rcases Lx c b a q with z|z
   .rw[h2]at z;cases z
   .rw[h1]at z;cases z) (λa b=>by
  cases q:HM.lexLt b a with
  |false=>simp
  |true =>
   cases q2:HM.lexLt a b with
   |false=>simp
   |true=>have:=dq _ _ _ q q2;rw[c6]at this;cases this) ts
 exact this.imp λh=>by simpa using h
theorem Q6{vs:List Value}{out:Array Value}{b:Addr}{o:Obj}(hb:b≠a)(e:h.get? b=some o):(F6 h a vs out).get? b=some o:=by rw[sortedHeap_old hb (Ah e)];exact e
theorem XR{Src:J->J->Addr->List PyData->Prop}(hc:X.calm=true)(hg:∀{bT:List (Addr×Obj)} {s:Shared} {Y:L2.St} {H F:J} {p:Addr} {ds:List PyData},Inv X bT Y H s->Zo F H->Src F H p ds->mT X s ds (Ax F H) p):AK X (.builtin "sorted") (λxs H Q=>∃p F ds ds',xs=[.ref p]/\Zo F H/\Src F H p ds/\HM.Hv ds=some ds'/\∀l ws,H l=none->Zs X.K (Ax F H) ds' ws->Q (.ref l) (upd H l (.lst ws))):=by
 intro bT s Y H xs us Q I r h;obtain⟨p,F,ds,ds',rfl,sub,lE,cX,q⟩:=h;obtain⟨u,rfl,rx⟩:=vals1 r;cases rx;obtain⟨vs,rv,go⟩:=hg I sub lE;unfold HM.Hv at cX;split at cX
 .rename_i ke
  have kH:=rv.1;refine KR kind_sorted plain_sorted entry_sorted (args_sorted1 _) ?_;unfold Builtin.«sorted»;refine Aa (m:=checkCount "sorted" 1 1 _) (Ac ?_);refine Aa (go _ _ _ (I.ok.hd hc) λus h' tk ru kp=>?_);have nI:=ru.length;refine Aa (wpAny_newList ?_ (by rw[Bm];omega));have fT:(h'.push (seqObj "list" us.toArray 0)).get? h'.objs.size=some (seqObj "list" us.toArray 0):=AA _ rfl;have cN:∀(out:Array Value) (ws:List V),bW ws out.toList->Zs X.K (Ax F H) ds' ws->ws.length<64->EP X bT Y Q (.ref h'.objs.size) {s with heap:=F6 (h'.push (seqObj "list" us.toArray 0)) h'.objs.size us out,toks:=tk}:=λout ws rw' rd hw=>by obtain⟨e,he⟩:=sortedHeap_at (out:=out) fT;have I1:Inv X bT Y H {s with heap:=h',toks:=tk}:=I.kept kp;refine⟨.ref h'.objs.size,_,I1.laid (a:=h'.objs.size) (o:=.lst ws) (t':=tk) (λb o e1=>?_) (Af _) ⟨by rw[Bm];omega,out.toList,e,rw',by simpa using he⟩,rfl,q _ ws (I1.hok.fresh (Af _)) rd⟩;exact Q6 (Al (Ah e1)) (Ap _ e1)
  show wpAny _ _ _ _ _ {s with heap:=h'.push (seqObj "list" us.toArray 0),toks:=tk};split at cX
  .rename_i ns cW
   cases cX;have oO:=D9 cW rv;rw[oO]at ru;have hI:=Hj ru;refine Aa (BR (BH slot_list_sort ⟨_,fT,rfl⟩ Kh (list_sort_tree fT hI (by omega) λout ns' a1 a2 a3=>⟨_,rfl,?_⟩) (args_list_sort _)));refine Ac ⟨_,rfl,?_⟩;have e:=PJ a2 a3;have hl:ns'.length<64:=by rw[a2.length_eq,<-hI.length,<-nI];omega
   refine cN out (ns'.map V.int) (MN a1) ?_ (by rw[Ae];exact hl);rw[<-e];exact Hk ns'
  .split at cX
   .rename_i ts nK
    split at cX
    .rename_i dr
     cases cX;have lh:=LP nK;have hT:∀(i:Nat) t,ts[i]?=some t->∃b,us[i]?=some (.ref b)/\TI (h'.push (seqObj "list" us.toArray 0)) b t:=λi t e=>by
      have ed:ds[i]?=some (.tuple (HM.el t)):=by rw[lh];unfold HM.ag;rw[AQ,e];rfl
      obtain⟨v,hv,rp⟩:=rv.get ed;generalize hq:HM.el t=q at rp;cases rp with
      | @tupk b x h1 =>
       exfalso;cases t with
       |nil=>cases hq
       |cons a t =>
        injection hq with e1 _
        cases e1
      | @tup b _ xs hb hl hr=>subst hq;obtain⟨u,hu,ru'⟩:=ru.get hv;cases ru';have ev:=D9 (F:=Ax F H) (LF t) ⟨hl,hr⟩;subst ev;have hH:H b=some (.tup (t.map V.int)):=(cf.refl sub).tups.sub _ _ hb;obtain⟨z,its,rt,o,h1,h2,n,h3⟩:=(show ZV X.prog X.w H s.heap b (.tup (t.map V.int)) from I.hok b _ hH);exact⟨b,hu,o,its.toArray,n,Ap _ (kp b o h1),h2,h3,by simpa using Hj rt⟩
     have cq:ts.length=us.length:=by have:=congrArg A5 lh;unfold HM.ag at this;rw[Ae]at this;omega
     refine Aa (BR (BH slot_list_sort ⟨_,fT,rfl⟩ Kh (Ut fT cq hT ?_ (by omega) λpm hp hs=>⟨_,rfl,?_⟩) (args_list_sort _)))
     .rw[DX]at dr
      rcases dr with z|z
      .left
       have:=of_decide_eq_true z;omega
      .right
       intro t ht e;have:=B3.mp z t ht;rw[e]at this;cases this
     .refine Ac ⟨_,rfl,?_⟩
      have hpl:pm.length=us.length:=by rw[hp.length_eq,AO]
      have gR:∀i∈pm,i<us.length:=λi hi=>As.mp (hp.mem_iff.mp hi);have e:(pm.map λi=>ts.getD i [])=HM.W5 ts:=by
       refine Uk ?_ hs;refine(hp.map _).trans ?_;have:(Ab us.length).map (λi=>ts.getD i [])=ts:=by refine Iv (by simp[cq]) λi h1 h2=>?_;simp at h1;simp[Dg,show i<ts.length by omega]
       rw[this]
      refine cN _ (pm.map λi=>vs.getD i V.non) ?_ ?_ (by rw[Ae];omega)
      .refine Hf (by simp) λk v u e1 e2=>?_
       rw[AQ]at e1;rw[List.toList_toArray,AQ]at e2;obtain⟨i,hi,rfl⟩:=An.mp e1;rw[hi]at e2;cases e2;have hlt':=gR i (Dq hi);have hv:vs[i]?=some (vs.getD i V.non):=by simp[Dg,show i<vs.length by omega]
       obtain⟨u,hu,ru'⟩:=ru.get hv;have:us.getD i A0=u:=by simp[Dg,hu]
       show RelV _ (us.getD i A0);rw[this];exact ru'
      .rw[<-e]
       refine⟨by unfold HM.ag;simp,λk d v e1 e2=>?_⟩;unfold HM.ag at e1;rw[AQ,AQ]at e1;rw[AQ]at e2;obtain⟨i,hi,rfl⟩:=An.mp e2;rw[hi]at e1;have hlt':=gR i (Dq hi);have hd:ds[i]?=some d:=by
        rw[lh];unfold HM.ag;rw[AQ];have:ts[i]?=some (ts.getD i []):=by simp[Dg,show i<ts.length by omega]
        rw[this];exact e1
       have hv:vs[i]?=some (vs.getD i V.non):=by simp[Dg,show i<vs.length by omega]
       exact rv.2 i d _ hd hv
    .cases cX
   .cases cX
 .cases cX
theorem XU(hc:X.calm=true):AK X (.builtin "sorted") (λxs H Q=>∃p F ds ds',xs=[.ref p]/\Zo F H/\CT X.K F H p ds/\HM.Hv ds=some ds'/\∀l ws,H l=none->Zs X.K (Ax F H) ds' ws->Q (.ref l) (upd H l (.lst ws))):=XR (Src:=CT X.K) hc λI sub h=>CT.gath I sub h
end
end
section
variable{F:J}{p' pos':Pos}{K:Ad}
section
variable{prog:Program}{w:World}{A:Around}{E:Value->Shared->Prop}{s:Shared}
theorem X7{r:Addr}{a b c:Int}{t u v:Tok}{n:Nat}{R:List Value->Shared->Prop}(hh:A.handled=none)(hr:IsRange s.heap r a b c t u v)(fk:Np a b c=true)(hn:IG a b c=n)(bY:n<=2 ^ 24)(h:∀(h':Heap) (tk:Nat) (acc:Array Value),(∀b o,s.heap.get? b=some o->h'.get? b=some o)->ItemsOf (λi v=>∃t,v=.int (a+i*c) t) acc n->R acc.toList {s with heap:=h',toks:=tk}):wpAny (model prog w) A (collect (.ref r)) R E s:=by
 unfold collect;refine Aa (wpAny_runValue (DW entry_proto_collect' ?_));rw[Ex NS _];show wpAny _ A.in1 (newList [] >>= λl=>again (.builtin "list.__iadd__" ⟨[l,.ref r],[]⟩)) _ _ s;refine Aa (BO (Ac ⟨H8 IE _,DW entry_list_iadd' ?_⟩));rw[Ex IE _];have lg:(s.heap.push {cls:=.type "list",data:=.seq ([]:List Value).toArray}).get? s.heap.objs.size=some {cls:=.type "list",data:=.seq #[]}:=AA _ rfl;show wpAny _ A.in1 (NR (.ref s.heap.objs.size) (.ref r) (.ref s.heap.objs.size)) _ _ _;have nP:IsRange (s.heap.push {cls:=.type "list",data:=.seq ([]:List Value).toArray}) r a b c t u v:=Ap _ hr;refine B5 (wpAny_extend_range (A:=A) (s:={s with heap:=s.heap.push {cls:=.type "list",data:=.seq ([]:List Value).toArray}})
  (R:=λ(q:Result) (s':Shared)=>∃(h':Heap) (tk:Nat) (acc':Array Value) (c':Nat),q=.ok (.ret (.ref s.heap.objs.size))/\s'={s with heap:=h',toks:=tk} /\
   (∀b o,s.heap.get? b=some o->h'.get? b=some o)/\h'.get? s.heap.objs.size=some {cls:=.type "list",dict:=none,data:=.seq acc' c',slots:=#[]}/\ItemsOf (λi v=>∃t,v=.int (a+i*c) t) acc' n)
  hh nP fk hn bY s.heap.objs.size (.ref s.heap.objs.size) 0 lg
  (λh' tk acc' c' hk hS' cx=>⟨h',tk,acc',c',rfl,rfl,λb o e=>hk b o (Al (Ah e)) (Ap _ e),hS',cx⟩)) (λcN s' x=>?_) λe s' x=>?_
 .have go:∀(h':Heap) (tk:Nat) (acc':Array Value) (c':Nat),(∀b o,s.heap.get? b=some o->h'.get? b=some o)->h'.get? s.heap.objs.size=some {cls:=.type "list",dict:=none,data:=.seq acc' c',slots:=#[]}->ItemsOf (λi v=>∃t,v=.int (a+i*c) t) acc' n ->
    wpAny (model prog w) A (load s.heap.objs.size >>= λo=>match o.data with | .seq xs _=>pure xs.toList|_=>unsupported "internal:collect") R E {s with heap:=h',toks:=tk}:=λh' tk acc' c' hk hS' cx =>
   Aa (wpAny_load hS' (Ac (h h' tk acc' hk cx)))
  cases cN with
  |done f=>obtain⟨h',tk,acc',c',e,rfl,hk,hS',cx⟩:=x;cases e;exact go h' tk acc' c' hk hS' cx
  |again c₁=>refine⟨x.1,Ep x.2 λq s₂ y=>?_⟩;obtain⟨h',tk,acc',c',rfl,rfl,hk,hS',cx⟩:=y;exact go h' tk acc' c' hk hS' cx
 .obtain⟨_,_,_,_,e',_⟩:=x
  cases e'
end
theorem Y9(r:Addr)(a b c:Int)(t u v:Tok)(n:Nat)(fk:Np a b c=true)(hn:IG a b c=n)(bY:n<=2 ^ 24):Meets (Builtin.«tuple.__new__» ⟨[.type "tuple",.ref r],[]⟩)
   (λA R s=>A.handled=none/\IsRange s.heap r a b c t u v/\∀(h':Heap) (tk:Nat) (acc:Array Value),(∀b o',s.heap.get? b=some o'->h'.get? b=some o')->ItemsOf (λi v=>∃t,v=.int (a+i*c) t) acc n ->
    R (.ok (.ret (.ref h'.objs.size))) {s with heap:=h'.push {cls:=.type "tuple",data:=.seq acc},toks:=tk}) :=
 .of_wp λprog w A R s h=>by
  obtain⟨hp,g,d,tk,os⟩:=s;obtain⟨hh,ht,h⟩:=h;have eX:=PySem.sub_tuple_self;have mY:=PySem.init_tuple_lookup;have hmh:=PySem.madeHere_tuple;have hT:Shared.TypeIs ⟨hp,g,d,tk,os⟩ (.ref r) "range":=⟨_,ht,rfl⟩;have n5:A.in1.handled=none:=hh
  wp_walk using wpAny_typeOf hT,X7 n5 ht fk hn bY
  intro h' tk' acc hk cx;show wpAny _ _ (IH acc.toList.toArray >>= λv=>ret v) _ _ _;unfold IH;have e:acc.toList.toArray=acc:=by simp
  rw[e];refine Aa (BO ?_ (by show acc.size<=sizeLine;rw[cx.1,Bm];omega));exact Ac ⟨_,rfl,h h' tk' acc hk cx⟩
section
variable{X:Cx}{a b c e:Expr}{fa fb fc:HM.EF}{pos p:Pos}{f:HM.BF}
theorem Xh:AK X (.type "range") (λxs H Q=>∃j,xs=[.int j]/\∀l,H l=none->Q (.ref l) (upd H l (.rng 0 j))):=by intro bT s Y H xs us Q I r h;obtain⟨j,rfl,q⟩:=h;obtain⟨u,rfl,rx⟩:=vals1 r;obtain⟨t,rfl⟩:=rx;refine call_range_1 ⟨.ref s.heap.objs.size,_,I.laid (a:=s.heap.objs.size) (o:=.rng 0 j) (λb o e=>Ap _ e) (Af _) ?_,rfl,q _ (I.hok.fresh (Af _))⟩;exact⟨_,_,_,AA _ rfl⟩
theorem Xp(hc:X.calm=true):AK X (.type "tuple") (λxs H Q=>∃p lo hi,xs=[.ref p]/\H p=some (.rng lo hi)/\-1000000<lo/\lo<1000000/\-1000000<hi/\hi<1000000 /\
  ∀l,H l=none->Q (.ref l) (upd H l (.tup ((Ab (hi-lo).toNat).map λ(k:Nat)=>V.int (lo+k))))):=by
 intro bT s Y H xs us Q I r h;obtain⟨p,lo,hi,rfl,hp,h1,h2,h3,h4,q⟩:=h;obtain⟨u,rfl,rx⟩:=vals1 r;cases rx;obtain⟨t,u,v,ho⟩:=(show ZV X.prog X.w H s.heap p (.rng lo hi) from I.hok p _ hp);have hn:IG lo hi 1=((hi-lo).toNat:Nat):=by rw[rangeSize_one];split<;>omega
 refine callType_new PySem.F.called_tuple (by decide) (PySem.F.typeCall_tuple_1 _) (PySem.F.newCall_tuple_1 _) (λobj=>PySem.F.args_object_init_2 obj _) PySem.F.entry_tuple_new
  (Y9 p lo hi 1 t u v (hi-lo).toNat (small_one (by omega) (by omega) (by omega) (by omega)) hn (by omega)) ⟨I.ok.hd hc,ho,λh' tk' acc kp cx=>⟨⟨_,AA _ rfl,rfl⟩,?_⟩⟩
 have I1:Inv X bT Y H {s with heap:=h',toks:=tk'}:=I.kept kp;have rv:bW ((Ab (hi-lo).toNat).map λ(k:Nat)=>V.int (lo+k)) acc.toList:=by
  refine Hf (by have z:acc.toList.length=acc.size:=A6;rw[Ae,AO,z,cx.1]) λi v u e1 e2=>?_;rw[AQ]at e1;obtain⟨k,hk,rfl⟩:=An.mp e1;obtain⟨t,rfl⟩:=cx.2 i u (by rw[<-Dj];exact e2);have:k=i:=by have:=AE.mp hk;obtain⟨_,e⟩:=this;simpa using e.symm
  subst this;exact⟨t,by simp⟩
 have I2:=I1.laid (a:=h'.objs.size) (o:=.tup ((Ab (hi-lo).toNat).map λ(k:Nat)=>V.int (lo+k))) (h':=h'.push {cls:=.type "tuple",data:=.seq acc}) (t':=tk') (λb o e=>Ap _ e) (Af _)
  ⟨by rw[Ae,AO,Bm];omega,acc.toList,rv,by simpa using HS _ _⟩
 exact⟨.ref h'.objs.size,_,I2,rfl,q _ (I1.hok.fresh (Af _))⟩
theorem Xn(lo:Int)(n:Nat):Zs K F (HM.FT lo n) ((Ab n).map λ(k:Nat)=>V.int (lo+k)):=by unfold HM.FT;refine⟨by simp,λi d v e1 e2=>?_⟩;rw[AQ]at e1 e2;obtain⟨k,hk,rfl⟩:=An.mp e1;rw[hk]at e2;cases e2;exact .int _
theorem Xe(nX:X.mg "tuple"=none)(hm:X.mg "range"=none)(hc:X.calm=true)(ha:XE X a fa)(jr:Gl X "tuple":=by rfl)(hg:Gl X "range":=by rfl)(hs:Ag [a] X.env=[(false,eval a X.env)]:=by rfl)(dE:Ag [Bx (.Name "range" p') [a] [] pos'] X.env=[(false,eval (Bx (.Name "range" p') [a] [] pos') X.env)]:=by rfl):XE X (.Call (.Name "tuple" p) [.Call (.Name "range" p') [a] [] pos'] [] pos) (HM.YU (HM.Z5 fa)):=by
 intro r d hd;unfold HM.YU at hd;split at hd
 .rename_i ds cI
  split at hd
  .cases hd
   unfold HM.Z5 at cI;split at cI
   .rename_i j hj
    split at cI
    .rename_i hok
     cases cI;obtain⟨k1,k2⟩:=OX hok;refine PE.imp (EZ (Xp hc) jr nX L3 (Br (EZ Xh hg hm boot_range (Br (ha r _ hj) BW hs) (he:=hs)) BW dE) (he:=dE)) λY H Q ⟨F0,H0,F,at_,k⟩=>?_;refine⟨F0,H0,F,at_,λv F1 H1 x1 r1=>⟨j,by rw[r1.int_inv],λl hl=>?_⟩⟩;refine⟨l,0,j,rfl,ZA,by omega,by omega,by omega,by omega,λl2 gC=>?_⟩;have x2:=x1.lay' (o:=.rng 0 j) hl;have x3:=x2.lay (o:=.tup ((Ab (j-0).toNat).map λ(k:Nat)=>V.int (0+k))) gC;have rp:=Xn (K:=X.K) (F:=upd F1 l2 (.tup ((Ab (j-0).toNat).map λ(k:Nat)=>V.int (0+k)))) 0 j.toNat;have ej:(j-0).toNat=j.toNat:=by omega
     refine k _ _ _ x3 (.tup ZA ?_ ?_)
     .rw[ej];exact rp.1
     .rw[ej]at rp ⊢;exact rp.2
    .cases cI
   .cases cI
  .cases hd
 .cases hd
theorem WL{H:J}{q:HM.B}{v:V}{fp:List Addr}{ds:List PyData}(sub:Zo F H)(r:Z8 K F H q v fp)(h:HM.UU q=some ds):∃a,v=.ref a/\CT K F H a ds:=by
 cases r with
 |pl r =>
  cases r with
  |tup h1 h2 h3=>cases h;exact⟨_,rfl,.tup (.of (sub _ _ h1)) ⟨h2,h3⟩⟩
  | @tupk a x h1=>cases h;exact⟨_,rfl,.tup (.inr h1) (.one (.str x))⟩
  |lst h1 h2 h3=>cases h;exact⟨_,rfl,.lst (sub.seq h1) ⟨h2,h3⟩⟩
  |dct _ _ _ _=>cases h
  |fn _=>cases h
  |non=>cases h
  |bl _=>cases h
  |int _=>cases h
  |str _=>cases h
 |ol h1 r=>cases h;exact⟨_,rfl,.lst (.of h1) r⟩
 |hd _ _ _ _=>cases h
 |hf _=>cases h
 | @ok a kvs vvs h1 h2 h3 =>
  cases h;refine⟨_,rfl,?_⟩;have e:(kvs.map λp=>HM.Eb p.1)=vvs.map λp=>HM.Eb p.1:=by
   have:=congrArg (Gh HM.Eb) h2
   rwa [Aq,Aq]at this
  rw[e];exact .dk h1
 | @ot a kvs vvs h1 h2 h3 =>
  cases h;refine⟨_,rfl,?_⟩;have e:(kvs.map λp=>CN (p.1.map HM.Eb))=vvs.map λp=>CN (p.1.map HM.Eb):=by
   have:=congrArg (Gh λk:List cn=>CN (k.map HM.Eb)) h2
   rwa [Aq,Aq]at this
  rw[e];exact .dt h1
 | @otl a kvs vvs ls h1 h2 h3 h4 =>
  cases h;refine⟨_,rfl,?_⟩;have e:(kvs.map λp=>CN (p.1.map HM.Eb))=vvs.map λp=>CN (p.1.map HM.Eb):=by
   have:=congrArg (Gh λk:List cn=>CN (k.map HM.Eb)) h2
   rwa [Aq,Aq]at this
  rw[e];exact .dt h1
theorem Wf(hm:X.mg "sorted"=none)(hc:X.calm=true)(ha:XB X a f)(hg:Gl X "sorted":=by rfl)(hs:Ag [a] X.env=[(false,eval a X.env)]:=by rfl):XF X (.Call (.Name "sorted" p) [a] [] pos) (HM.YK f):=by
 intro r d h;unfold HM.YK at h;split at h
 .rename_i x hx
  split at h
  .rename_i ds cI
   obtain⟨ds',h1,h2⟩:=An.mp h;subst h2;refine PE.imp (DC (XU hc) hg hm Qt (EJ ha hx hs) (he:=hs)) λY H Q ⟨F0,H0,F,at_,k⟩=>?_;refine⟨F0,H0,F,at_,λv fp F1 H1 x1 r1=>?_⟩;obtain⟨l,e1,m7⟩:=WL x1.sub r1 cI;subst e1;exact⟨l,F1,ds,ds',rfl,x1.sub,m7,h1,λl' ws hl' rs=>FI (P:=λv _ H'=>Q v H') x1.tups rs hl' k⟩
  .cases h
 .cases h
theorem Vn(hc:X.calm=true):AK X (.type "set") (λxs H Q=>∃p ns,xs=[.ref p]/\cF X.K H p (ns.map V.int)/\(∀n∈ns,0<=n/\n<8)/\∀l,H l=none->Q (.ref l) (upd H l (.ext λh=>BB X.prog X.w h l (HM.cY [] ns)))):=by intro bT s Y H xs us Q I r h;obtain⟨p,ns,rfl,hq,hb,q⟩:=h;obtain⟨u,rfl,rx⟩:=vals1 r;cases rx;obtain⟨its,rv,pl,hz⟩:=I.list hq;refine WK (I.ok.hd hc) pl.isList (by simpa using Hj rv) hb λh' tk hS kp=>?_;have hS':=hS;obtain⟨o,es,ep,t,ho,_⟩:=hS';refine⟨.ref s.heap.objs.size,_,I.laid (a:=s.heap.objs.size) (o:=.ext λh=>BB X.prog X.w h s.heap.objs.size (HM.cY [] ns)) (λb o e=>kp b o (Ah e) e) (Af _) ?_,rfl,q _ (I.hok.fresh (Af _))⟩;exact⟨hS,⟨o,ho⟩,λh1 h2 x kk=>x.at' kk⟩
theorem X1(hc:X.calm=true):AK X (.builtin "sorted") (λxs H Q=>∃p L,xs=[.ref p]/\H p=some (.ext λh=>BB X.prog X.w h p L)/\∀l,H l=none->Q (.ref l) (upd H l (.lst ((HM.sortI L).map V.int)))):=by
 intro bT s Y H xs us Q I r h;obtain⟨p,L,rfl,hp,q⟩:=h;obtain⟨u,rfl,rx⟩:=vals1 r;cases rx;obtain⟨hX,_,_⟩:=(show ZV X.prog X.w H s.heap p (.ext λh=>BB X.prog X.w h p L) from I.hok p _ hp);obtain⟨o,es,ep,t,ho,fM,hd,iB,iU,hpl,ht⟩:=hX;have hsz:=fA hpl;have dA:=ht.few;have nh:BS X.w s.heap p es ep t:=⟨⟨o,ho,fM,hd⟩,by rw[hsz];exact ht.fits,hsz,ht.w⟩;refine KR kind_sorted plain_sorted entry_sorted (args_sorted1 _) ?_;unfold Builtin.«sorted»;refine Aa (m:=checkCount "sorted" 1 1 _) (Ac ?_);refine Aa (Mn (T2 (es:=es) (ep:=ep) (t:=t)) (I.ok.hd hc) nh (by rw[Bm];omega) λh' tk acc kp _ cx=>?_);have eQ:acc.toList.length=es.size:=by rw[A6];exact cx.1
 have hI:IntsAre acc.toList ((BL X.w p es ep).toList.map BU):=by
  have key:∀(us:List Value) (xs:List (Int×Value)),us.length=xs.length->(∀(i:Nat) u,us[i]?=some u->∃e,xs[i]?=some e/\u=e.2)->(∀e∈xs,∃n t,e=((intKind X.prog X.w).hash n,BP n t))->IntsAre us (xs.map BU):=by
   intro us
   induction us with
   |nil=>intro xs hl _ _;cases xs with|nil=>exact .nil|cons _ _=>simp at hl
   |cons u us ih =>
    intro xs hl hk he;cases xs with
    |nil=>simp at hl
    |cons x xs=>obtain⟨e,e1,e2⟩:=hk 0 u rfl;simp at e1;subst e1;obtain⟨n,t,e3⟩:=he x (Au ..);rw[e2,e3];exact .cons n t (ih xs (by simpa using hl) (λi u e=>hk (i+1) u (by simpa using e)) λe h=>he e (Av _ h))
  refine key acc.toList (BL X.w p es ep).toList (by rw[eQ,A6,Mh]) (λi u e=>?_) λe h=>iB e ((Mb X.w p es ep).mem_iff.mp h);obtain⟨e',e1,e2⟩:=cx.2 i u (by rw[<-Dj];exact e);exact⟨e',by rw[Dj];exact e1,e2⟩
 refine Aa (wpAny_newList ?_ (by rw[eQ,Bm];omega));have fT:(h'.push (seqObj "list" acc.toList.toArray 0)).get? h'.objs.size=some (seqObj "list" acc.toList.toArray 0):=AA _ rfl;show wpAny _ _ _ _ _ {s with heap:=h'.push (seqObj "list" acc.toList.toArray 0),toks:=tk};refine Aa (BR (BH slot_list_sort ⟨_,fT,rfl⟩ Kh (list_sort_tree fT hI (by omega) λout ns' a1 a2 a3=>⟨_,rfl,?_⟩) (args_list_sort _)));refine Ac ⟨_,rfl,?_⟩;have e:ns'=HM.sortI L:=PJ (a2.trans (((Mb X.w p es ep).map BU).trans iU)) a3;have hl:ns'.length<64:=by rw[a2.length_eq,<-hI.length,eQ];omega
 obtain⟨ee,he⟩:=sortedHeap_at (out:=out) fT;have I1:Inv X bT Y H {s with heap:=h',toks:=tk}:=I.kept kp;refine⟨.ref h'.objs.size,_,I1.laid (a:=h'.objs.size) (o:=.lst (ns'.map V.int)) (t':=tk) (λb o e1=>?_) (Af _) ⟨by rw[Ae,Bm];omega,out.toList,ee,MN a1,by simpa using he⟩,rfl,?_⟩
 .exact Q6 (Al (Ah e1)) (Ap _ e1)
 .rw[e];exact q _ (I1.hok.fresh (Af _))
theorem QT(hm:X.mg "sorted"=none)(gB:X.mg "set"=none)(hc:X.calm=true)(ha:XB X a f)(hg:Gl X "sorted":=by rfl)(gD:Gl X "set":=by rfl)(hs:Ag [a] X.env=[(false,eval a X.env)]:=by rfl)(dE:Ag [Bx (.Name "set" p') [a] [] pos'] X.env=[(false,eval (Bx (.Name "set" p') [a] [] pos') X.env)]:=by rfl):XF X (.Call (.Name "sorted" p) [.Call (.Name "set" p') [a] [] pos'] [] pos) (HM.J1 f):=by
 intro r d h;unfold HM.J1 at h;split at h
 .rename_i x hx
  split at h
  .rename_i ds cI
   split at h
   .rename_i ns cW
    split at h
    .rename_i iM
     cases h;refine PE.imp (DC (X1 hc) hg hm Qt (Br (EZ (Vn hc) gD gB Sw (EJ ha hx hs) (he:=hs)) BW dE) (he:=dE)) λY H Q ⟨F0,H0,F,at_,k⟩=>?_;refine⟨F0,H0,F,at_,λv fp F1 H1 x1 r1=>?_⟩;obtain⟨l,vs,e1,hq,rs⟩:=Hm x1.sub r1 cI;subst e1;rw[D9 cW rs]at hq;refine⟨l,ns,rfl,hq,λn hn=>?_,λl2 gC=>⟨l2,_,rfl,ZA,λl3 nY=>?_⟩⟩
     .have:=B3.mp iM n hn
      rw[Bw,decide_eq_true_eq,decide_eq_true_eq]at this;exact this
     .have x2:=x1.lay' (o:=.ext λh=>BB X.prog X.w h l2 (HM.cY [] ns)) gC
      exact FI (P:=λv _ H'=>Q v H') x2 (Hk _) nY k
    .cases h
   .cases h
  .cases h
 .cases h
end
end
end HP
namespace HP
open PySem PySem.Spec PyProof.Rows L2
variable[FX]
section
variable{g6:Bool}{q:HM.B}{r:HM.Env}{i:Int}{ns:List Int}{ds:List PyData}
section
variable{X:Cx}{a b:Expr}{fa:HM.EF}{f:HM.BF}{pos:Pos}
theorem L0(i:Int):∀ns:List Int,jX (.int i) (ns.map V.int)=ns.contains i
 |[]=>rfl
 |n::ns=>by have ih:=L0 i ns;unfold jX at ih ⊢;rw[Am,Ft,ih,List.contains_cons];show(n==i||_)=(i==n||_);rw[show(n==i)=(i==n) from Em.mpr ⟨λh=>beq_iff_eq.mpr (beq_iff_eq.mp h).symm,λh=>beq_iff_eq.mpr (beq_iff_eq.mp h).symm⟩]
theorem L8:∀ns:List Int,(ns.map V.int).all C1=true
 |[]=>rfl
 |n::ns=>by rw[Am,Kp,L8 ns];rfl
theorem Po{d:PyData}(h:HM.CZ fa f r=some d):∃i q ds ns,fa r=some (.int i)/\f r=some q/\HM.G9 q=some ds/\HM.BC ds=some ns/\d=.bool (ns.contains i):=by
 unfold HM.CZ at h;split at h
 .split at h
  .split at h
   .obtain⟨c,h1,h2⟩:=An.mp h
    obtain⟨ns,h3,h4⟩:=An.mp h1;exact⟨_,_,_,ns,by assumption,by assumption,by assumption,h3,by rw[<-h2,<-h4]⟩
   .cases h
  .cases h
 .cases h
theorem Ux(ha:XE X a fa)(hb:XB X b f)(h1:fa r=some (.int i))(h2:f r=some q)(h3:HM.G9 q=some ds)(h4:HM.BC ds=some ns){op:CmpOp}(ho:dj X (BZ op) (kB X.K g6))(hm:DO op b=false):PE X (.Compare a [op] [b] pos) (ip X.K r λ_ F' _ v=>v=.bl (if g6 then !ns.contains i else ns.contains i)):=by
 refine PE.imp (OV ho (ha r _ h1) (hb r q h2) hm) λY H Q ⟨F0,H0,F,at_,k⟩=>?_;refine⟨F0,H0,F,at_,λv F1 H1 x1 r1=>⟨F0,H0,F1,at_.grow x1,λw F2 H2 x2 ⟨fp,r2⟩=>?_⟩⟩;obtain⟨p,vs,e1,hq,rs⟩:=Jq x2.sub r2 h3;cases r1;rw[D9 h4 rs]at hq;refine⟨p,_,e1,hq,rfl,L8 ns,k _ F2 H2 (x1.trans x2) ?_⟩;rw[L0]
theorem VF(ha:XE X a fa)(hb:XB X b f)(h1:fa r=some (.int i))(h2:f r=some q)(h3:HM.G9 q=some ds)(h4:HM.BC ds=some ns){op:CmpOp}(ho:dj X (BZ op) (kB X.K g6))(hm:DO op b=false):PT X (.Compare a [op] [b] pos) λY H Q=>fH X.K r Y H λF0 H0 F=>∀F' H',cf F H F' H'->Q (if g6 then !ns.contains i else ns.contains i) H':=by
 refine PT.imp (Pg ho (ha r _ h1) (hb r q h2) hm) λY H Q ⟨F0,H0,F,at_,k⟩=>?_;refine⟨F0,H0,F,at_,λv F1 H1 x1 r1=>⟨F0,H0,F1,at_.grow x1,λw F2 H2 x2 ⟨fp,r2⟩=>?_⟩⟩;obtain⟨p,vs,e1,hq,rs⟩:=Jq x2.sub r2 h3;cases r1;rw[D9 h4 rs]at hq;refine⟨p,_,e1,hq,rfl,L8 ns,_,rfl,?_⟩;rw[L0];exact k F2 H2 (x1.trans x2)
theorem TJ(ha:XE X a fa)(hb:XB X b f)(hm:DO .In b=false:=by rfl):XE X (.Compare a [.In] [b] pos) (HM.CZ fa f):=by intro r d h;obtain⟨i,q,ds,ns,h1,h2,h3,h4,rfl⟩:=Po h;refine PE.imp (Ux ha hb h1 h2 h3 h4 Qp hm) λY H Q ⟨F0,H0,F,at_,k⟩=>⟨F0,H0,F,at_,λv F' H' x e=>k v F' H' x ?_⟩;subst e;exact .bl _
theorem Lp(ha:XE X a fa)(hb:XB X b f)(hm:DO .In b=false:=by rfl):XT X (.Compare a [.In] [b] pos) (HM.tV (HM.CZ fa f)):=by intro r d h;obtain⟨i,q,ds,ns,h1,h2,h3,h4,e⟩:=Po (Ln h);cases e;exact VF ha hb h1 h2 h3 h4 Qp hm
theorem TH(hb:XB X b f)(he:∀cG,isTrue b X.env cG=(do let v <-cG;standAt b.pos;holding [v] (truthy v)):=by intro _;rfl):XT X b (HM.GY f):=by
 intro r c h;unfold HM.GY at h;split at h
 .rename_i ds hd
  cases h;refine PT.imp (Uy (hb r _ hd) he) λY H Q ⟨F0,H0,F,at_,k⟩=>?_;refine⟨F0,H0,F,at_,λv F1 H1 x1 ⟨fp,r1⟩=>?_⟩;obtain⟨p,vs,e1,hq,rs⟩:=Hm x1.sub r1 (ds:=ds) rfl;subst e1;refine⟨_,.inl ⟨vs,hq,rfl⟩,?_⟩;have:=k F1 H1 x1;have e:ds.isEmpty=vs.isEmpty:=by have:=rs.1;cases ds<;>cases vs<;>simp_all
  rwa [e]at this
 .cases h
end
end
section
variable{X:Cx}{c e:Expr}{fa:HM.EF}{t:HM.TF}{g:HM.SF}{pos:Pos}{body:List Stmt}
theorem VS(n:Nat)(dZ:X.xe=λ_ _=>False)(hc:XT X c t)(hb:fP X body g):XS X (.While c body [] pos) (HM.Wu n t g):=by
 intro r o ho;have ho:HM.HL t g n r=some o:=ho;have pb:dz X body (λE Y H=>∃r o,g r=some o/\iS X.K r o E Y H):=λbT s Y H E I ⟨r,o,h1,h2⟩=>hb r o h1 bT s Y H E I h2;have pc:PT X c (λY H Q=>∃r b,t r=some b/\fH X.K r Y H λF0 H0 F=>∀F' H',cf F H F' H'->Q b H'):=λbT s Y H Q I ⟨r,b,h1,h2⟩=>hc r b h1 bT s Y H Q I h2;refine PS.imp (UD (Jx dZ) pc pb) λE Y H ⟨F0,H0,F,at_,k⟩=>?_;refine⟨λm Y H=>∃F r,At X.K F0 H0 F H r Y/\HM.HL t g m r=some o,⟨n,F,r,at_,ho⟩,?_⟩
 rintro m Y H ⟨F2,r2,di,go⟩
 cases m with
 |zero=>cases go
 |succ m =>
  unfold HM.HL at go;split at go
  .rename_i ht
   refine⟨r2,true,ht,F0,H0,F2,di,λF' H' x=>?_⟩;dsimp only;rw[if_pos rfl];have cU:=di.grow x;have a4:=cU.rebase;refine⟨λσ' H'=>∃F r,At X.K F0 H0 F H' r σ'/\HM.HL t g m r=some o,λσ' H' q=>⟨m,DR m,q⟩,?_⟩;split at go
   .rename_i r' hr
    exact⟨_,_,hr,F',H0,F',a4,λσ' F' H' a'=>⟨F',r',a'.unbase cU.ext cU.nt0,go⟩⟩
   .rename_i r' hr
    exact⟨_,_,hr,F',H0,F',a4,λσ' F' H' a'=>⟨F',r',a'.unbase cU.ext cU.nt0,go⟩⟩
   .rename_i r' hr
    cases go;exact⟨_,_,hr,F',H0,F',a4,λσ' F' H' a'=>k σ' F' H' (a'.unbase cU.ext cU.nt0)⟩
   .rename_i d hr
    cases go;exact⟨_,_,hr,F',H0,F',a4,λv F' H' x q=>k v F' H' (cU.ext.unbase x) q⟩
   .cases go
  .rename_i ht
   cases go;refine⟨r2,false,ht,F0,H0,F2,di,λF' H' x=>?_⟩;dsimp only;rw[if_neg (by simp)];exact k Y F' H' (di.grow x)
  .cases go
theorem Ub{i j:Nat}{x y:Str}{px py pt:Pos}{kt:Nat}(hc:X.calm=true)(hN:X.N.Nodup)(hi:X.N[i]?=some x)(hj:X.N[j]?=some y)(hx:Loc X.env.scope x)(hy:Loc X.env.scope y)(hf:X.fn x=true\/X.env.scope.names.lookup x=some .local)(hg:X.fn y=true\/X.env.scope.names.lookup y=some .local)(h1:(BQ [.Name x px,.Name y py] X.env).length=2:=by rfl)(h2:(BQ [.Name x px,.Name y py] X.env).findIdx? (·.1)=none:=by rfl):PG X (.Tuple [.Name x px,.Name y py] kt pt) (NY X.K 2 (K4 (IY i) (K4 (IY j) NV))) :=
 Oz hc (EN (CF hN hi hx hf) (EN (CF hN hj hy hg) OZ)) h1 h2
end
section
variable{X:Cx}{a b:Expr}{fa:HM.EF}{f:HM.BF}{pos:Pos}
open Classical in
end
section
variable{X:Cx}{a b c e:Expr}{fa fb fc:HM.EF}{f:HM.BF}{pos p:Pos}{es:List Expr}
theorem Vo(hc:X.calm=true):AK X (.builtin "max") (λxs H Q=>∃(p:Addr) (ns:List Int),xs=[.ref p]/\cF X.K H p (ns.map V.int)/\0<ns.length/\∀M,M∈ns->(∀a,a∈ns->a<=M)->Q (.int M) H):=by
 intro bT s Y H xs us Q I r h;obtain⟨p,ns,rfl,hq,dr,q⟩:=h;obtain⟨u,rfl,rx⟩:=vals1 r;cases rx;obtain⟨its,rv,pl,hz⟩:=I.list hq;have hi:=Hj rv;obtain⟨xs,e⟩:=hi.allInts.items;have cW:ns=xs.toList.map (·.1):=by rw[<-hi.numsOf,<-nums_intItems,<-e]
 have hsz:0<xs.size:=by have h3:=dr;rw[cW,Ae,A6]at h3;exact h3
 have hl:=pl.isList;rw[e]at hl;refine max_intList (I.ok.hd hc) hl hsz λv h' tk hv hk=>?_;obtain⟨t,rfl⟩:=intItems_at hv;obtain⟨h1,h2⟩:=argBest_gt (numAt xs) (xs.size-1);refine⟨.int _,H,I.kept (t':=tk) hk,⟨t,rfl⟩,q _ ?_ λa ha=>?_⟩
 .rw[cW,numAt_eq];exact getD_mem (by rw[Ae,A6];omega)
 .rw[cW]at ha
  obtain⟨j,hj,rfl⟩:=mem_getD ha;rw[Ae,A6]at hj;rw[<-numAt_eq];exact h2 j (by omega)
theorem UR(hm:X.mg "max"=none)(hc:X.calm=true)(ha:XB X a f)(hg:Gl X "max":=by rfl)(hs:Ag [a] X.env=[(false,eval a X.env)]:=by rfl):XE X (.Call (.Name "max" p) [a] [] pos) (HM.FF f):=by
 intro r d h;unfold HM.FF at h;split at h
 .rename_i x hx
  split at h
  .rename_i ds cI
   split at h
   .rename_i ns cW
    obtain⟨m,h1,h2⟩:=An.mp h;subst h2;refine PE.imp (DC (Vo hc) hg hm OB (EJ ha hx hs) (he:=hs)) λY H Q ⟨F0,H0,F,at_,k⟩=>?_;refine⟨F0,H0,F,at_,λv fp F1 H1 x1 r1=>?_⟩;obtain⟨l,vs,e1,hq,rs⟩:=Hm x1.sub r1 cI;rw[D9 cW rs]at hq;obtain⟨m1,m2⟩:=NN.mp h1;refine⟨l,ns,by rw[e1],hq,List.length_pos_of_mem m1,λM k1 k2=>?_⟩;have:M=m:=Int.le_antisymm (m2 M k1) (k2 m m1);subst this;exact k _ F1 H1 x1 (.int _)
   .cases h
  .cases h
 .cases h
end
section
variable{X:Cx}{a b c e:Expr}{fa fb fc:HM.EF}{f:HM.BF}{pos p:Pos}
theorem Ly{K:Ad}{F:J}{ds:List PyData}{v:V}(r:b7 K F (.tuple ds) v):∃l vs,v=.ref l/\da K F l vs/\Zs K F ds vs:=by
 cases r with
 |tup h1 h2 h3=>exact⟨_,_,rfl,.of h1,h2,h3⟩
 | @tupk a x h1=>exact⟨_,_,rfl,.inr h1,.one (.str x)⟩
end
end HP
namespace HP
open PySem
end HP
namespace HP
open PySem PySem.Spec PyProof.Rows L2
variable[FX]
end HP
namespace HP
open PySem PySem.Spec PyProof.Rows L2
abbrev mU:FX where
 tl:=[]
 fv:=λ_ _ _ _=>False
 sw:=λ_ _ h=>h
 drop:=λh=>h
 mono:=λh _=>h
end HP
namespace HP
open PySem PySem.Spec PyProof.Rows L2
variable[FX]
def BMod(base:Heap)(mg:Str->Option Value):Prop:=∃bm o,mg "__builtins__"=some (.ref bm)/\bm≠Gd/\bm≠BJ/\base.get? bm=some o/\o.cls=.type "module"/\o.dict=some Gd/\o.data=.plain
end HP
namespace HP
open PySem
end HP
namespace HP
open PySem PySem.Spec PyProof.Rows L2
section
variable{tabs:List (Addr×Addr)}{x:Str}
def I0(tabs:List Addr)(H:J):Prop:=(∀b,H b=none\/(∃o xs,H b=some (.frz o (.lst xs)))\/H b=some (.tbl #[]))/\∀T∈tabs,H T=some (.tbl #[])
theorem Wz{P:Program}{w:World}{K:Ad}{mg mb:Str->Option Value}{k:Nat}{fa a:Addr}{fd:FuncData}{sp:Sp}{s₁:Shared}{vs:List Value}{ns:List Int}(hT:∀q∈tabs,Iu K q.1 q.2=true/\K.lookup q.2=none/\s₁.heap.get? q.2=some (Ij #[]))(KX:K.In s₁.heap)(cW:s₁.heap.Ns BJ mg)(hb:s₁.heap.Ns Gd mb)(k3:∀x:Str,x ≠ "__name__"->mb x=Be x)(lR:s₁.heap.NoLimit)(hg:s₁.gens=#[])(ha:s₁.heap.get? a=some {cls:=.type "list",data:=.seq vs.toArray})(hi:IntsAre vs ns)(hl:ns.length<=sizeLine)(hr:AL k callerA)(oB:PyProof.Rows.BMain s₁.heap mg)(F:∀base:Heap,K.In base->base.Ns BJ mg->BMod base mg->BK P w K mg base fw k fa fd [x] sp)(cR:∀(s:Shared) (u:Value),BindsTo s fd ⟨[u],[]⟩ [(x,u)])(g8:∀H:J,I0 (tabs.map (·.2)) H->cF K H a (ns.map V.int)->sp [.ref a] H (λv _=>v=.bl true) λ_ _ _=>False):codeAny (model P w) callerA (.call (.ref fa) ⟨[.ref a],[]⟩) (λr s'=>r=.ok (.ret (.bool true))/\OldK s₁.heap s'.heap/\s'.os=s₁.os/\AllBare s'.gens) s₁:=by
 have rv:=P5 hi;have lC:=hi.length;have m5:∀q∈tabs,q.2≠a:=λq hq z=>by have:=(hT q hq).2.2;rw[z,ha]at this;cases this
 have jG:∀oS:Option HO,(oS=none\/∃o xs,oS=some (.frz o (.lst xs)))->(∀H:J,H a=oS->cF K H a (ns.map V.int))->(∀H:J,∀u,oS=some u->ZV P w H s₁.heap a u)->(oS≠none->K.lookup a=none) ->
   codeAny (model P w) callerA (.call (.ref fa) ⟨[.ref a],[]⟩) (λr s'=>r=.ok (.ret (.bool true))/\OldK s₁.heap s'.heap/\s'.os=s₁.os/\AllBare s'.gens) s₁:=by
  intro oS hO hS lJ hK;generalize hH:(λb:Addr=>if b=a then oS else if b∈tabs.map (·.2)then some (HO.tbl #[])else none)=H;have Ha:H a=oS:=by rw[<-hH];exact if_pos rfl
  have Ht:∀T∈tabs.map (·.2),H T=some (.tbl #[]):=λT hT'=>by obtain⟨q,hq,e⟩:=Aj.mp hT';rw[<-hH];show(if T=a then oS else if T∈tabs.map (·.2)then some (HO.tbl #[])else none)=_;rw[if_neg (by rw[<-e];exact m5 q hq),if_pos hT']
  have Hc:∀b u,H b=some u->(b=a/\oS=some u)\/(b∈tabs.map (·.2)/\u=.tbl #[]):=λb u e=>by
   rw[<-hH]at e;dsimp only at e;split at e
   .rename_i h;exact .inl ⟨h,e⟩
   .split at e
    .rename_i h;cases e;exact .inr ⟨h,rfl⟩
    .cases e
  have fX:∀T∈tabs.map (·.2),s₁.heap.get? T=some (Ij #[])/\K.lookup T=none/\∃c,Iu K c T=true:=λT hT'=>by obtain⟨q,hq,e⟩:=Aj.mp hT';subst e;exact⟨(hT q hq).2.2,(hT q hq).2.1,q.1,(hT q hq).1⟩
  have hok:cV P w H s₁.heap:=λb u e=>by
   rcases Hc b u e with⟨rfl,e'⟩|⟨h,rfl⟩
   .exact lJ H u e'
   .exact(fX b h).1
  have eu:∀{b:Addr} {o:Obj},s₁.heap.get? b=some o->H b=none->(CU s₁.heap H).get? b=some o:=λe n=>VE e n;have jf:∀{b:Addr} {o:Obj} {es:Array DictEntry} {ep:Nat},s₁.heap.get? b=some o->o.data=.dict es ep->H b=none:=λ{b o es ep} e d=>by
   cases q:H b with
   |none=>rfl
   |some u =>
    rcases Hc b u q with⟨rfl,_⟩|⟨h,_⟩
    .rw[ha]at e;cases e
     have d':Data.seq vs.toArray _=Data.dict es ep:=d;cases d'
    .rw[(fX b h).1]at e;cases e;cases d
  have jV:∀{b:Addr} {m:Str->Option Value},s₁.heap.Ns b m->(CU s₁.heap H).Ns b m:=λ{b m} ⟨o,es,ep,e,d,r⟩=>⟨o,es,ep,eu e (jf e d),d,r⟩;have mJ:K.In (CU s₁.heap H):=λb o e=>eu (KX b o e) (by
   cases q:H b with
   |none=>rfl
   |some u =>
    rcases Hc b u q with⟨rfl,e'⟩|⟨h,_⟩
    .rw[hK (by rw[e'];simp)]at e;cases e
    .rw[(fX b h).2.1]at e;cases e)
  have hM:Mod K mg (CU s₁.heap H):=⟨mJ,jV cW,⟨mb,jV hb,k3⟩,let ⟨mc,h1,h2⟩:=lR;⟨mc,jV h1,h2⟩⟩;have e0:IP P w K mg (CU s₁.heap H) callerA [] s₁ H:=⟨rfl,hM,λb o e=>UM e,Dc (Wt _ _),trivial,λb hb=>absurd (show b∈([]:List Addr) from hb) (by simp),hok,.of_eq hg⟩;have oG:I0 (tabs.map (·.2)) H:=⟨λb=>by
   cases q:H b with
   |none=>exact .inl rfl
   |some u =>
    rcases Hc b u q with⟨_,e'⟩|⟨_,rfl⟩
    .rcases hO with z|⟨o,xs,z⟩
     .rw[z]at e';cases e'
     .rw[z]at e';cases e';exact .inr (.inl ⟨o,xs,rfl⟩)
    .exact .inr (.inr rfl),Ht⟩
  have oK:BMod (CU s₁.heap H) mg:=by
   obtain⟨bm,ob,b1,b2,b3,b4,b5,b6⟩:=oB;refine⟨bm,ob,b1,b2,λz=>?_,eu b3 ?_,b4,b5,b6⟩
   .obtain⟨o,es,ep,e,d,_⟩:=cW
    rw[z,e]at b3;cases b3;rw[b6]at d;cases d
   .cases q:H bm with
    |none=>rfl
    |some u =>
     rcases Hc bm u q with⟨z,_⟩|⟨h,_⟩
     .rw[z,ha]at b3;cases b3;exact absurd (show(Dh "list":Value)=.type "module" from b4) (by decide)
     .rw[(fX bm h).1]at b3;cases b3;cases b4
  refine Ep ((F _ mJ (jV cW) oK).run callerA [] s₁ H ⟨[.ref a],[]⟩ [.ref a] [.ref a] _ _ hr e0 (cR s₁ (.ref a)) (.cons rfl .nil) (g8 H oG (hS H Ha))) λr s' h=>?_;cases r with
  |error e=>exact Cv h
  |ok fl =>
   cases fl with
   |next=>exact Cv h
   |brk=>exact Cv h
   |cont=>exact Cv h
   |ret u =>
    obtain⟨v,H',os,bare,un,hok',r',q⟩:=h;have q':v=.bl true:=q;subst q';obtain rfl:u=El true:=r';refine⟨rfl,⟨λb o e=>?_,λb o e=>un.there b o e (by simp)⟩,os,bare⟩;cases q:H b with
    |none=>exact .inl (un.keep b o e q (by intro z;exact absurd (show b∈([]:List Addr) from z) (by simp)) (by simp))
    |some u =>
     rcases Hc b u q with⟨rfl,e'⟩|⟨h,rfl⟩
     .rcases hO with z|⟨ob,xs,z⟩
      .rw[z]at e';cases e'
      .rw[z]at e';cases e'
       have z2:=un.frzs _ ob _ q;obtain⟨e1,_⟩:=hok _ _ q;obtain⟨e2,_⟩:=hok' _ _ z2;rw[e]at e1;cases e1;exact .inl e2
     .obtain⟨g1,_,c,g3⟩:=fX b h
      rw[g1]at e;cases e;obtain⟨more,z2⟩:=un.tbls b _ q;have z3:s'.heap.get? b=some {cls:=.none,data:=.fields (#[]++more)}:=hok' b _ z2;refine .inr (.inl ⟨((PySem.W.codeHd_of_K KX g3).tab g1).isCodeTable,rfl,#[],more,rfl,z3⟩)
 cases hk:K.lookup a with
 |some o=>have e:=KX a o hk;rw[ha]at e;cases e;exact jG none (.inl rfl) (λH _=>.inr ⟨_,vs.toArray,_,hk,rfl,rfl,rfl,by rw[Aw,lC];exact hl,by simpa using rv⟩) (λH u z=>by cases z) λz=>absurd rfl z
 |none=>refine jG (some (.frz {cls:=.type "list",data:=.seq vs.toArray} (.lst (ns.map V.int)))) (.inr ⟨_,_,rfl⟩) (λH e=>.inl (.inr ⟨_,e⟩)) (λH u z=>?_) λ_=>hk;cases z;exact⟨ha,by rw[Ae];exact hl,vs,_,rv,ha⟩
theorem UZ{l:Kg}{n k:Nat}{q:Program}{dY:List Str}{XP:(Str->Option Value)->Heap->Prop}{YP:World->Heap->Prop}{d:DefRec}{K:Params->Ad}{sp:World->Sp}(hn:l.most=some n)(nU:n<=sizeLine)(js:d.params.defaults=[])(hr:AL k callerA)(hY:∀(w:World) (h:Heap),YP w h->(K w.params).In h)(la:∀(w:World) (h:Heap),YP w h->∀q∈tabs,h.get? q.2=some (Ij #[]))(hT:∀(w:World),∀q∈tabs,Iu (K w.params) q.1 q.2=true/\(K w.params).lookup q.2=none)
  (F:∀(w:World) (mg:Str->Option Value) (fa:Addr) (h:Heap),(K w.params).In h->h.Ns BJ mg->mg d.name=some (.ref fa) ->
   ∃fd:FuncData,(∀(s:Shared) (u:Value),BindsTo s fd ⟨[u],[]⟩ [(x,u)]) /\
    ∀base:Heap,(K w.params).In base->base.Ns BJ mg->BMod base mg->BK l.prog w (K w.params) mg base fw k fa fd [x] (sp w))
  (g8:∀(w:World) (H:J) (a:Addr) (ns:List Int),ns.length<=n->I0 (tabs.map (·.2)) H->cF (K w.params) H a (ns.map V.int)->sp w [.ref a] H (λv _=>v=.bl true) λ_ _ _=>False):
  PySem.W.WalkO q dY XP YP l.row.toRowW d [] (λf vs=>PySem.call f vs):=by
 refine Att.bB hn js λw s₀ s₁ mg mb fa o pm cd dR a vs ns G pv ho hd dP iz iL gf bY hg=>?_;have KX:=hY w _ pv;obtain⟨fd,hb,hF⟩:=F w mg fa _ KX G.T.g iz;exact Wz (λq hq=>⟨(hT w q hq).1,(hT w q hq).2,la w _ pv q hq⟩) KX G.T.g G.T.b G.T.builtins G.T.nolimit hg iL gf (Ba bY nU) hr G.T.bmain hF hb λH hO hS=>g8 w H a ns bY hO hS
end
section
variable[FX]
theorem aS{K:Ad}{M:List PyData->Option PyData}{H:J}{a:Addr}{ns:List Int}{tabs:List Addr}(hO:I0 tabs H)(ht:∀T q,(T,q)∈FX.tl->T∈tabs)(hS:cF K H a (ns.map V.int))(hM:M [.list (HM.el ns)]=some (.bool true)):spD K 1 M [.ref a] H (λv _=>v=.bl true) λ_ _ _=>False:=by
 refine⟨Dw H,[.list (HM.el ns)],.bool true,rfl,V9,λT q hT=>⟨#[],hO.2 T (ht T q hT),trivial,λpos c hc=>by cases hc⟩,.drop,.one (b7.drop (.lst hS (Hk (K:=K) (F:=H) ns).1 (Hk ns).2)),hM,λv F1 H1 _ r=>r.bool_inv⟩
end
end HP
namespace HP
open PySem PySem.Spec PyProof.Rows L2
variable[FX]
section
variable{X:Cx}{a b:Expr}{fa fb:HM.EF}{pos:Pos}
def R4(K:Ad):R2:=λv w H Q=>∃p q xs ys,v=.ref p/\w=.ref q/\da K H p xs/\da K H q ys/\xs.length+ys.length<=sizeLine/\(xs=[]->Q w H)/\(xs≠[]->ys=[]->Q v H)/\(xs≠[]->ys≠[]->∀z,H z=none->Q (.ref z) (upd H z (.tup (xs++ys))))
theorem Td:dj X (Cb .Add) (R4 X.K):=by
 intro bT s Y H x y v u Q I rx ry ⟨p,q,xs,ys,e1,e2,hp,hq,hz,q0,q1,q2⟩
 by_cases hx:xs=[]
 .subst e1 e2
  obtain rfl:v=Bb p:=rx;obtain rfl:u=Bb q:=ry;obtain⟨its,r1,p1,_⟩:=I.tuple hp;obtain⟨eW,r2,p2,_⟩:=I.tuple hq;obtain⟨⟨cls,dd,data,sl⟩,ho,hc,n,hd⟩:=id p1;obtain⟨⟨lV,kh,data2,jR⟩,eP,ju,n2,jt⟩:=id p2;simp only at hc hd ju jt;subst hc hd ju jt;have e0:its=[]:=by rw[hx]at r1;cases r1;rfl
  exact concat_meets ⟨_,ho,rfl⟩ ⟨_,eP,rfl⟩ J4 seq_tuple_add Kt Kv (KQ _ _)
   (tuple_addW0 p q its.toArray eW.toArray n n2 dd kh sl jR (by simp[e0])) ⟨ho,eP,⟨.ref q,H,I,rfl,q0 hx⟩⟩
 .exact Va bT s Y H x y v u Q I rx ry ⟨p,q,xs,ys,e1,e2,hp,hq,hx,hz,λz=>by rw[<-e1];exact q1 hx z,λz=>q2 hx z⟩
theorem L4(ha:XE X a fa)(hb:XE X b fb):XE X (.BinOp a .Add b pos) (HM.EU fa fb):=by
 intro r d h;unfold HM.EU at h;split at h
 case h_2=>cases h
 rename_i xs hx;split at h
 case h_2=>cases h
 rename_i ys hy;split at h
 case isFalse=>cases h
 rename_i cq;cases h;refine PE.imp (G1 Td (ha r _ hx) (hb r _ hy)) λY H Q ⟨F0,H0,F,at_,k⟩=>?_;refine⟨F0,H0,F,at_,λv F1 H1 x1 r1=>⟨F0,H0,F1,at_.grow x1,λw F2 H2 x2 r2=>?_⟩⟩;have r1':=r1.mono x2.ff;obtain⟨l,vs,e1,h1,s1⟩:=Ly r1';obtain⟨l',us,e2,h2,s2⟩:=Ly r2;have e3:=s1.1;have e4:=s2.1;have hz:xs.length+ys.length<1000000:=cq;have e5:(1000000:Nat)<=sizeLine:=by decide
 refine⟨l,l',vs,us,e1,e2,LU h1 x2.sub,LU h2 x2.sub,by omega,λz=>?_,λ_ z=>?_,λ_ _ p hp=>?_⟩
 .rw[z]at e3
  exact k _ F2 H2 (x1.trans x2) (by rw[Dl e3,Ip];exact r2)
 .rw[z]at e4
  exact k _ F2 H2 (x1.trans x2) (by rw[Dl e4,B1];exact r1')
 .have rc:=s1.append s2
  exact k _ (upd F2 p (.tup (vs++us))) _ ((x1.trans x2).lay hp) (.tup ZA rc.1 (rc.mono (Zo.upd' (x2.sub.free hp))).2)
end
end HP
namespace HP
open PySem PySem.W PyProof.Rows
end HP
namespace HP
open PySem PySem.Spec PyProof.Rows L2
variable[FX]
end HP
namespace HP
open PySem PySem.Spec PyProof.Rows L2
section
variable{prog:Program}{w:World}{A:Around}{E:Value->Shared->Prop}{s:Shared}
theorem X6{d:Addr}{n:Nat}(hd:(d==A4)=false):MeetsIn prog w (Builtin.«dict.__len__» ⟨[.ref d],[]⟩) (λ_ R s=>(∃es ep,By s.heap d es ep/\es.size=n)/\R (.ok (.ret (.int n s.toks))) {s with toks:=s.toks+1}) :=
 .of_wp λA R s ⟨⟨es,ep,⟨o,ho,hc,gW⟩,hn⟩,h⟩=>by show wpAny _ _ (dictSize d >>= _) _ _ s;unfold dictSize;refine Aa (Aa (GC ho gW (Ac ?_)));show wpAny _ _ (Builtin.Dict.pendingCount d >>= _) _ _ s;refine Aa (wpAny_pendingCount_other hd ?_);refine Kf ?_;rw[Nat.add_zero,hn];exact h
theorem T5{d:Addr}{es:Array DictEntry}{ep:Nat}{Q:Value->Shared->Prop}(hd:(d==A4)=false)(hm:By s.heap d es ep)(gS:(es.size:Int)<2 ^ 63)(h:Q (.int es.size (s.toks+1)) {s with toks:=s.toks+1+1}):wpAny (model prog w) A (call (.builtin "len") [.ref d]) Q E s:=by
 refine KR kind_len plain_len entry_len (args_len1 _) ?_;unfold Builtin.«len»;refine Aa (m:=oneArg "len" _) (Ac ?_);refine Aa (m:=callSpecial? (.ref d) (Fb "__len__")) (wpAny_callSpecial?_slot (name:=Fb "__len__") hm.typeIs F.slot_dict_len
  (call_meetsIn F.slot_dict_len hm.typeIs F.entry_dict_len (F.args_dict_len_1 _) (X6 (n:=es.size) hd) ⟨⟨es,ep,hm,rfl⟩,?_⟩))
 show wpAny _ _ _ _ _ {s with toks:=s.toks+1};refine Aa (BR (Ac ?_));refine Aa (wpAny_letGo ?_);show wpAny _ _ (if((es.size:Nat):Int)<0 then _ else _) _ _ _;rw[if_neg (by omega)];show wpAny _ _ (if((es.size:Nat):Int) ≥ 2 ^ 63 then _ else _) _ _ _;rw[if_neg (by omega)];exact Aa (wpAny_mkInt (Ac ⟨_,rfl,h⟩))
end
variable[FX]
end HP
namespace HT
open PySem PySem.Spec PyProof.Rows L2
end HT
namespace HP
open PySem PySem.Spec PyProof.Rows L2
end HP
namespace HP
open PySem PySem.Spec PyProof.Rows L2
variable[FX]
section
omit [FX]in
theorem Qu{X:Cx}{bT:List (Addr×Obj)}{Y:L2.St}{H:J}{s:Shared}{h':Heap}{t':Nat}{fp:List Addr}(I:Inv X bT Y H s)(k:∀b o,b∉fp->s.heap.get? b=some o->h'.get? b=some o)(hf:∀b∈fp,Bq X bT H b):Inv X bT Y H {s with heap:=h',toks:=t'}:=by
 refine I.step (g':=s.gens) (d':=s.drawn) (ch:=fp) (λb hb=>⟨(hf b hb).2.2.2.1,(hf b hb).2.1,(hf b hb).2.2.2.2.1,(hf b hb).2.2.2.2.2⟩) (λb o _ _ hc e _=>k b o hc e) (λb o _ _ hc e _=>⟨o.slots,k b o hc e⟩) (λ_ _ _ _ n=>n) (λb o hc e=>⟨o,k b o hc e⟩) (λ_ _ e=>e) (λ_ _ _ e=>e) (λb ps e=>⟨#[],by rw[e];simp⟩) (λm hm=>?_) (λb u e=>?_) I.bare
 .obtain⟨o,es,ep,ho,r⟩:=hm;exact⟨o,es,ep,k _ o (λz=>(hf _ z).2.1 rfl) ho,r⟩
 .refine(I.hok b u e).stay (λc v hc q=>k c v (λz=>?_) q) (λ_ q=>q) λ_ _ q=>q
  rcases hc with y|y
  .subst y;rw[(hf _ z).1]at e;cases e
  .rw[(hf c z).1]at y;cases y
omit [FX]in
theorem OW:∀(ds:List PyData) (k i:Nat) (d:PyData),(HM.Hd k ds)[i]?=some d->∃x,ds[i]?=some x/\d=.tuple [.int ((k+i:Nat):Int),x]
 |[],_,_,_,h=>by cases h
 |x::ds,k,0,d,h=>by cases h;exact⟨x,rfl,rfl⟩
 |x::ds,k,i+1,d,h=>by obtain⟨y,h1,h2⟩:=OW ds (k+1) i d h;exact⟨y,h1,by rw[h2,show k+1+i=k+(i+1) by omega]⟩
omit [FX]in
theorem Pe:∀(ds:List PyData) (k:Nat),(HM.Hd k ds).length=ds.length
 |[],_=>rfl
 |_::ds,k=>congrArg (·+1) (Pe ds (k+1))
end
end HP
namespace HP
open PySem PySem.Spec PyProof.Rows L2
end HP
namespace HP
open PySem PySem.W PyProof.Rows
end HP
namespace HP
open PySem PySem.Spec PyProof.Rows L2
variable[FX]
section
variable{X:Cx}{bT:List (Addr×Obj)}{Y:L2.St}{H FS:J}{s:Shared}
theorem Q2{K:Ad}{F:J}{t:List Int}{v:V}(rp:b7 K F (.tuple (HM.el t)) v):∃c,v=.ref c/\F c=some (.tup (t.map V.int)):=by
 generalize hq:HM.el t=q at rp;cases rp with
 | @tupk b x h1 =>
  exfalso;cases t with
  |nil=>cases hq
  |cons a t =>
   injection hq with e1 _
   cases e1
 | @tup b _ xs hb hl hr=>subst hq;have ev:=D9 (F:=F) (LF t) ⟨hl,hr⟩;subst ev;exact⟨b,rfl,hb⟩
variable{k:Nat}{params:Arguments}{body:Expr}{scope:Scope}{x:Str}{q:Addr}{ts:List (List Int)}{ws:List V}{its:List Value}{P:HR->Shared->Prop}{E:Value->Shared->Prop}
end
end HP
namespace HP
open PySem PySem.W PyProof.Rows
end HP
namespace HP
open PySem PySem.Spec PyProof.Rows L2
variable[FX]
end HP
namespace HP
open PySem PySem.Spec PySem.W PySem.Calls PyProof.Rows L2
variable[FX]
end HP
namespace HP
open PySem PySem.Spec PyProof.Rows L2
end HP
namespace HP
open PySem PySem.Spec PyProof.Rows L2
variable[FX]
end HP
namespace HP
open PySem PySem.W PyProof.Rows
end HP
namespace HP
open PySem PySem.Spec PyProof.Rows L2
end HP
namespace HP
open PySem PySem.Spec PyProof.Rows L2
variable[FX]
end HP
namespace HP
open PySem PySem.Spec PyProof.Rows L2
theorem YL:fillsNumberSlot (.type "tuple") "mul"=pure false :=
 PySem.fillsNumberSlot_seq (r:=some (.builtin "tuple.__rmul__")) F.slot_tuple_mul.lookup (by decide +kernel) F.slot_tuple_rmul.lookup (by decide +kernel)
theorem WY:seqRepeat? (.type "tuple")=pure (some (.builtin "tuple.__mul__")):=by unfold seqRepeat?;rw[PySem.seqSlot_of (T:="tuple") (name:="__mul__") (id:="tuple.__mul__") F.slot_tuple_mul.lookup (by decide +kernel),PySem.seqSlot_of (T:="tuple") (name:="__rmul__") (id:="tuple.__rmul__") F.slot_tuple_rmul.lookup (by decide +kernel)];rfl
theorem UY(a:Int)(t:Tok)(l:Addr)(dd:Option Addr)(items:Array Value)(n:Nat)(sl:Array (Option Value)):Meets (Builtin.«int.__rmul__» ⟨[.int a t,.ref l],[]⟩) (λ_ R s=>s.heap.get? l=some ⟨.type "tuple",dd,.seq items n,sl⟩/\R (.ok (.ret Value.notImplemented)) s) :=
 .of_wp λprog w A R s h=>by
  obtain⟨hp,g,d,tk,os⟩:=s;obtain⟨hl,h⟩:=h
  wp_walk
  exact⟨_,rfl,h⟩
section
variable{prog:Program}{w:World}{A:Around}{E:Value->Shared->Prop}{s:Shared}
theorem Tj{l:Addr}{dd:Option Addr}{items:Array Value}{n:Nat}{sl:Array (Option Value)}{k:Int}{t:Tok}{P:HR->Shared->Prop}(ho:s.heap.get? l=some ⟨.type "tuple",dd,.seq items n,sl⟩)(h0:0<=k)(h1:k<1000)(hz:items.size<1000)(hs:sizeOk (.seq ((Ak k.toNat items).foldl (·++·) #[])))(same:(items.isEmpty||k==1)=true->P (.done (.ret (.ref l))) s)(new:(items.isEmpty||k==1)=false->P (.done (.ret (.ref s.heap.objs.size))) {s with heap:=s.heap.push {cls:=.type "tuple",data:=.seq ((Ak k.toNat items).foldl (·++·) #[])}}):wpAny (model prog w) A (Builtin.«tuple.__mul__» ⟨[.ref l,.int k t],[]⟩) P E s:=by
 unfold Builtin.«tuple.__mul__»
 k_delta "repeated"
 have n1:¬(decide (k < -(2:Int) ^ 63)||decide (k ≥ (2:Int) ^ 63))=true:=by rw[DX,decide_eq_true_eq,decide_eq_true_eq];omega
 obtain⟨hp,g,d,tk,os⟩:=s
 wp_walk
 rw[if_neg n1];dsimp only;refine Aa (Ii ho rfl ?_)
 by_cases c:(items.isEmpty||k==1)=true
 .rw[if_pos c]
  refine Aa ?_;unfold Builtin.Tuple.tupleIsExact;refine Aa (wpAny_typeOf (T:="tuple") ⟨_,ho,rfl⟩ (Ac ?_));rw[if_pos (by decide)];exact Aa (Eh (Ac (same c)))
 .rw[if_neg c]
  have new:=new (by simpa using c);have ne:items.isEmpty=false:=by
   cases q:items.isEmpty with
   |false=>rfl
   |true=>rw[q]at c;exact absurd rfl c
  by_cases hk:k<=0
  .have e:k=0:=by omega
   subst e;rw[if_pos (by simp)];refine Aa ?_;unfold IH;exact BO (Ac new)
  .rw[if_neg (by rw[ne,Bool.or_false,decide_eq_true_eq];exact hk)]
   have b1:(items.size:Int)*k<=1000*1000:=Int.mul_le_mul (by omega) (by omega) (by omega) (by omega);rw[if_neg (by omega),if_neg (by unfold Builtin.Tuple.tupleTooMany;rw[decide_eq_true_eq,Bm];omega)];refine Aa ?_;unfold IH;exact BO (Ac new) hs
end
section
variable[FX]{X:Cx}{a b:Expr}{fa fb:HM.EF}{pos:Pos}
def R0(K:Ad)(x y:V)(H:J)(Q:VK):Prop:=∃l k xs,x=.ref l/\y=.int k/\da K H l xs/\0<=k/\k<1000/\xs.length<1000/\((xs=[]\/k=1)->Q (.ref l) H)/\∀p,H p=none->Q (.ref p) (upd H p (.tup (Ak k.toNat xs).flatten))
theorem Vc:dj X (Cb .Mult) (R0 X.K):=by
 intro bT s Y H x y v u Q I rx ry h;obtain⟨l,k,xs,rfl,rfl,hq,h0,h1,hz,q1,q2⟩:=h;cases rx;obtain⟨t,rfl⟩:=ry;obtain⟨its,r,⟨o,ho,hc,n,hd⟩,_⟩:=I.tuple hq;have hl:its.length=xs.length:=r.length.symm;obtain⟨lA,dd,jJ,sl⟩:=o;simp only at hc hd;subst hc hd;have f0:Ga (λx1 x2=>x1++x2) #[] (Ak k.toNat its.toArray)=(Ak k.toNat its).flatten.toArray:=by have:=foldl_rep its k.toNat [];rw[Ip]at this;exact this
 have bY:(Ak k.toNat xs).flatten.length<=sizeLine:=by
  rw[fB];have e3:(1000*1000:Nat)<=sizeLine:=by decide
  exact Ba (Kd (by omega) (by omega)) e3
 have hsz:sizeOk (.seq (Ga (λx1 x2=>x1++x2) #[] (Ak k.toNat its.toArray))):=by rw[f0];show(Ak k.toNat its).flatten.toArray.size<=sizeLine;rw[Aw,<-(r.rep k.toNat).length];exact bY
 refine wpAny_binaryOp_repeat_ref (T:="tuple") (U:="int") (by decide) ⟨_,ho,rfl⟩ (λs'=>Gb s' k t) YL F.fills_int_mul F.slot_int_rmul WY F.slot_int_index.lookup
  (call_meets F.slot_int_rmul (Gb s k t) F.entry_int_rmul (F.args_int_rmul_2 _ _) (UY k t l dd its.toArray n sl) ⟨ho,rfl,⟨_,ho,rfl⟩,BH F.slot_tuple_mul ⟨_,ho,rfl⟩ F.entry_tuple_mul (Tj ho h0 h1 (by rw[Aw];omega) hsz (λc=>⟨_,rfl,?_⟩) λc=>⟨_,rfl,?_⟩) (F.args_tuple_mul_2 _ _)⟩)
 .refine⟨.ref l,H,I,rfl,q1 ?_⟩
  rw[DX,beq_iff_eq]at c;rcases c with c|c
  .left
   have:its.length=0:=by simpa using c
   exact Dl (by omega)
  .exact .inr c
 .rw[f0]
  exact⟨.ref _,_,I.laid (a:=s.heap.objs.size) (o:=.tup (Ak k.toNat xs).flatten) (t':=s.toks) (λ_ _ e=>Ap _ e) (Af _) ⟨bY,_,r.rep k.toNat,_,AA _ rfl,rfl,0,rfl⟩,rfl,q2 _ I.fresh⟩
theorem UQ(ha:XE X a fa)(hb:XE X b fb):XE X (.BinOp a .Mult b pos) (HM.L7 fa fb):=by
 intro r d h;unfold HM.L7 at h;split at h
 case h_2=>cases h
 rename_i xs hx;split at h
 case h_2=>cases h
 rename_i k hk;split at h
 case isFalse=>cases h
 rename_i hz;cases h;rw[Bw,Bw,decide_eq_true_eq,decide_eq_true_eq,decide_eq_true_eq]at hz;refine PE.imp (G1 Vc (ha r _ hx) (hb r _ hk)) λY H Q ⟨F0,H0,F,at_,kk⟩=>?_;refine⟨F0,H0,F,at_,λv F1 H1 x1 r1=>⟨F0,H0,F1,at_.grow x1,λw F2 H2 x2 r2=>?_⟩⟩;have r1':=r1.mono x2.ff;obtain⟨l,vs,rfl,hq,rs⟩:=Ly r1';have hl:=rs.1;refine⟨l,k,vs,rfl,r2.int_inv,hq.imp (λz=>z.imp (x2.sub _ _) λ⟨o,z⟩=>⟨o,x2.sub _ _ z⟩) id,hz.1.1,hz.1.2,by omega,λc=>?_,λp hp=>?_⟩
 .refine kk _ F2 H2 (x1.trans x2) ?_
  have e:(Ak k.toNat xs).flatten=xs:=by
   rcases c with c|c
   .have:xs=[]:=Dl (by rw[hl,c];rfl)
    rw[this];simp
   .rw[c];simp
  rw[e];exact r1'
 .have q:Zs X.K (upd F2 p (.tup (Ak k.toNat vs).flatten)) (Ak k.toNat xs).flatten (Ak k.toNat vs).flatten:=(rs.rep k.toNat).mono (Zo.upd' ((x1.trans x2).sub.free hp))
  exact kk _ _ _ ((x1.trans x2).lay (o:=.tup (Ak k.toNat vs).flatten) hp) (.tup ZA q.1 q.2)
end
end HP
namespace HP
open PySem PySem.Spec PyProof.Rows L2
variable[FX]
end HP
namespace HN
open PySem
section
variable{a:Addr}{c:Bool}{Q:Bool->Shared->Prop}{vs xs ys:List Value}{prog:Program}{s:Shared}
section
variable{prog:Program}{w:World}{A:Around}{E:Value->Shared->Prop}{s:Shared}
def bI(b:Bool):Int:=if b then 1 else 0
theorem Wr{b:Bool}{Q:Int->Shared->Prop}(h:Q (hashInt (bI b)) {s with toks:=s.toks+1}):wpAny (model prog w) A (pyHash (.bool b)) Q E s:=by
 have hr:=rawHash_range (bI b);have hT:s.TypeIs (.bool b) "bool":=rfl;unfold pyHash;have hv:[El b].any Value.onHeap=false:=rfl;refine Aa ?_;rw[cRoomFor,if_neg (by rw[hv];exact Bn)];refine Ac ?_
 refine Aa (Fl hT F.slot_bool_hash.lookup ?_);show wpAny _ _ (if(some (Value.builtin "int.__hash__")==some A0)=true then _ else _) Q E s;rw[if_neg (by rw[beq_builtin_none];exact Bn)];refine Aa (Fl hT F.slot_bool_hash.lookup ?_);show wpAny _ _ (callSpecialIfBoundUnlessNone? (.bool b) "__hash__" _ >>= _) Q E s;refine Aa (wpAny_callSpecialIfBoundUnlessNone?_slot hT F.slot_bool_hash
  (BH F.slot_bool_hash hT entry_int_hash
   (show wpAny _ _ (do ret (<-mkInt (rawHash (bI b)))) _ _ s from Kf ?_) (by rfl)))
 show wpAny _ _ (if(decide (-(2:Int) ^ 63<=rawHash (bI b))&&decide (rawHash (bI b)<2 ^ 63))=true then _ else _) Q E _;rw[if_pos (by rw[decide_eq_true hr.1,decide_eq_true hr.2];rfl)];exact Ac h
theorem Wo{a b:Bool}(h:Q (decide (a=b)) s):wpAny (model prog w) A (eqBool (.bool a) (.bool b)) Q E s:=by
 unfold eqBool;show wpAny _ _ (if(El a==El b)=true then _ else _) Q E s
 by_cases fN:(El a==El b)=true
 .rw[if_pos fN]
  have e:a=b:=by have:=eq_of_beq fN;injection this
  subst e;exact Aa (Eh (Ac (by simpa using h)))
 .rw[if_neg fN]
  refine Aa (wpAny_richCompare_same (op:=.Eq) (T:="bool") rfl rfl F.slot_bool_eq (BH F.slot_bool_eq rfl entry_int_eq (show wpAny _ _ (ret (.bool (bI a==bI b))) _ _ s from Ac ⟨_,rfl,by simp,DS ?_⟩) (by rfl)));have:(bI a==bI b)=decide (a=b):=by cases a<;>cases b<;>rfl
  rw[this];exact h
end
def fS(b:Bool)(v:Value):Bool:=match v with
 | .bool c=>c==b
 |_=>false
theorem FA{b:Bool}{v:Value}(h:fS b v=true):v=.bool b:=by
 unfold fS at h;split at h
 .rw[eq_of_beq h]
 .cases h
theorem TV(v:Value)(a b:Bool)(h1:fS a v=true)(h2:fS b v=true):a=b:=by have e1:=FA h1;have e2:=FA h2;rw[e1]at e2;injection e2
theorem TB(k:Bool)(v:Value)(h:fS k v=true):carriedByValue v=true:=by rw[FA h];rfl
section
variable{prog:Program}{w:World}{A:Around}{E:Value->Shared->Prop}{s:Shared}
theorem UG{k:Bool}{v:Value}{Q:Int->Shared->Prop}(hv:fS k v=true)(h:Q (hashInt (bI k)) {s with toks:=s.toks+1}):wpAny (model prog w) A (pyHash v) Q E s:=by rw[FA hv];exact Wr h
theorem Uc{a b:Bool}{u v:Value}(hu:fS a u=true)(hv:fS b v=true)(h:Q (decide (a=b)) s):wpAny (model prog w) A (eqBool u v) Q E s:=by rw[FA hu,FA hv];exact Wo h
end
theorem Tx(k:Bool)(x:Str)(t:Tok)(v:Value)(h:fS k (.str x t)=true):fS k v=v.isStr x:=by cases h
def Sy(prog:Program)(w:World):KeyKind prog w Bool:=⟨fS,λb=>hashInt (bI b),TV,TB,UG,Uc,Tx⟩
structure IK(prog:Program)(w:World)(K:Type)[DecidableEq K] where
 is:Heap->K->Value->Prop
 hash:K->Int
 draws:K->Nat
 dep:Nat
 inj:∀{h:Heap} {v:Value} {x y:K},is h x v->is h y v->x=y
 keeps:∀{h h':Heap} {k:K} {v:Value},is h k v->(∀b o items n,o.cls=.type "tuple"->o.data=.seq items n->h.get? b=some o->h'.get? b=some o)->is h' k v
 pyHash:∀{A:Around} {E:Value->Shared->Prop} {s:Shared} {k:K} {v:Value} {Q:Int->Shared->Prop},A.units+dep<=cLine->is s.heap k v->Q (hash k) {s with toks:=s.toks+draws k}->wpAny (model prog w) A (PySem.pyHash v) Q E s
 eqBool:∀{A:Around} {E:Value->Shared->Prop} {s:Shared} {x y:K} {u v:Value} {Q:Bool->Shared->Prop},A.units+dep<=cLine->is s.heap x u->is s.heap y v->Q (decide (x=y)) s->wpAny (model prog w) A (PySem.eqBool u v) Q E s
 quiet:∀{A:Around} {E:Value->Shared->Prop} {s:Shared} {k:K} {v:Value} {Q:Bool->Shared->Prop} (n:Nat),dep<=n->is s.heap k v->Q true s->wpAny (model prog w) A (DL n v) Q E s
theorem WH{w:World}{K:Type}[DecidableEq K](knd:KeyKind prog w K){A:Around}{E:Value->Shared->Prop}{k:K}{v:Value}(n:Nat)(h:knd.is k v=true)(q:Q true s):wpAny (model prog w) A (DL n v) Q E s:=by rw[eqIsQuiet_byValue n (knd.byValue _ _ h)];exact Ac q
def Jn{w:World}{K:Type}[DecidableEq K](knd:KeyKind prog w K):IK prog w K:=⟨λ_ k v=>knd.is k v=true,knd.hash,λ_=>1,0,λh1 h2=>knd.inj _ _ _ h1 h2,λh _=>h,λ_ h q=>knd.pyHash h q,λ_ h1 h2 q=>knd.eqBool h1 h2 q,λn _ h q=>WH knd n h q⟩
section
variable{prog:Program}{w:World}
def oY(prog:Program)(w:World)(A:Around)(h:Heap)(v:Value)(k:Int)(n:Nat):Prop:=∀{E:Value->Shared->Prop} {s:Shared} {Q:Int->Shared->Prop},s.heap=h->Q k {s with toks:=s.toks+n}->wpAny (model prog w) A (pyHash v) Q E s
inductive i7(prog:Program)(w:World)(A:Around)(h:Heap):List Value->List Int->Nat->Prop
 |nil:i7 prog w A h [] [] 0
 |cons {v:Value} {k:Int} {n m:Nat} {vs:List Value} {ks:List Int}:oY prog w A h v k n->i7 prog w A h vs ks m->i7 prog w A h (v::vs) (k::ks) (n+m)
def oZ(prog:Program)(w:World)(A:Around)(h:Heap)(u v:Value)(b:Bool):Prop:=∀{E:Value->Shared->Prop} {s:Shared} {Q:Bool->Shared->Prop},s.heap=h->Q b s->wpAny (model prog w) A (eqBool u v) Q E s
inductive gM(prog:Program)(w:World)(A:Around)(h:Heap):List Value->List Value->Bool->Prop
 |nil:gM prog w A h [] [] true
 |l {v:Value} {vs:List Value}:gM prog w A h (v::vs) [] false
 |r {v:Value} {vs:List Value}:gM prog w A h [] (v::vs) false
 |cons {u v:Value} {b c:Bool} {us vs:List Value}:oZ prog w A h u v b->gM prog w A h us vs c->gM prog w A h (u::us) (v::vs) (b&&c)
def TupAt(h:Heap)(a:Addr)(vs:List Value):Prop:=∃o items n,h.get? a=some o/\o.cls=.type "tuple"/\o.data=.seq items n/\items.toList=vs
theorem TupAt.typeIs(x:TupAt s.heap a vs):s.TypeIs (.ref a) "tuple":=let ⟨o,_,_,ho,hc,_⟩:=x;⟨o,ho,hc⟩
theorem TupAt.inj{h:Heap}{a:Addr}{x y:List Value}(hx:TupAt h a x)(hy:TupAt h a y):x=y:=by
 obtain⟨o,items,n,ho,_,hd,hi⟩:=hx;obtain⟨o',items',n',ho',_,hd',hi'⟩:=hy;obtain rfl:o=o':=Bl (ho.symm.trans ho');rw[hd]at hd';injection hd' with h1 _
 subst h1;rw[<-hi,<-hi']
theorem TupAt.keep{h h':Heap}{x:List Value}(hx:TupAt h a x)(k:∀b o items n,o.cls=.type "tuple"->o.data=.seq items n->h.get? b=some o->h'.get? b=some o):TupAt h' a x :=
 let ⟨o,items,n,ho,hc,hd,r⟩:=hx;⟨o,items,n,k a o items n hc hd ho,hc,hd,r⟩
variable{A:Around}{E:Value->Shared->Prop}{s:Shared}
theorem P1{ks:List Int}{m:Nat}{Q:Int->Shared->Prop}(hu:A.units<cLine)(ht:TupAt s.heap a vs)(hh:i7 prog w A.in1 s.heap vs ks m)(h:Q (Fc (CK ks)) {s with toks:=s.toks+(m+1)}):wpAny (model prog w) A (pyHash (.ref a)) Q E s:=by
 have hT:=ht.typeIs;obtain⟨o,items,n,ho,_,hd,hi⟩:=ht;unfold pyHash
 first|unfold pyHashByItsType|skip
 first|refine Aa (wpAny_cRoomFor_or (.inr hu) ?_)|skip
 refine Aa (Fl hT F.slot_tuple_hash.lookup ?_);show wpAny _ _ (if(some (Value.builtin "tuple.__hash__")==some A0)=true then _ else _) Q E s;rw[if_neg (by rw[beq_builtin_none];exact Bn)];refine Aa (Fl hT F.slot_tuple_hash.lookup ?_);show wpAny _ _ (callSpecialIfBoundUnlessNone? (.ref a) "__hash__" _ >>= _) Q E s;refine Aa (wpAny_callSpecialIfBoundUnlessNone?_slot hT F.slot_tuple_hash (BH F.slot_tuple_hash hT F.entry_tuple_hash ?_ (F.args_tuple_hash_1 _)));show wpAny _ _ (Builtin.Tuple.tupleItemsOf (.ref a) >>= _) _ _ s;refine Aa (Ii ho hd ?_);refine Aa ?_;rw[<-Array.forIn_toList,hi];refine Kl _
  (λrest (b:Array Int) s'=>∃done left m1 m2,ks=done++left/\i7 prog w A.in1 s.heap rest left m2/\b.toList=done/\m1+m2=m/\s'={s with toks:=s.toks+m1})
  _ ?_ ?_ _ _ ⟨[],ks,0,m,rfl,hh,rfl,by omega,rfl⟩
 .rintro x rest b s' ⟨done,left,m1,m2,rfl,hl,hb,hm,rfl⟩
  cases hl with
  | @cons _ k n' m' _ ks' h1 hl' =>
   refine Aa (h1 rfl ?_)
   first
    |exact Ac ⟨done++[k],ks',m1+n',m',by simp,hl',by simp[hb],by omega,by simp[HY]⟩
    |exact Aa (Ac (Ac ⟨done++[k],ks',m1+n',m',by simp,hl',by simp[hb],by omega,by simp[HY]⟩))
 .rintro b s' ⟨done,left,m1,m2,rfl,hl,hb,hm,rfl⟩
  cases hl;rw[B1]at h;obtain rfl:m1=m:=by omega
  show wpAny _ _ (retInt (CK b.toList)) _ _ _;rw[hb];refine Kf ?_;show wpAny _ _ (if(decide (-(2:Int) ^ 63<=CK done)&&decide (CK done<2 ^ 63))=true then _ else _) Q E _;unfold Fc at h
  by_cases hr:(decide (-(2:Int) ^ 63<=CK done)&&decide (CK done<2 ^ 63))=true
  .rw[if_pos hr]
   rw[if_pos hr]at h;exact Ac (by simpa [HY]using h)
  .rw[if_neg hr]
   rw[if_neg hr]at h;exact Aa (Eh (Ac (by simpa [HY]using h)))
theorem XH{b:Addr}{P:Fin->Shared->Prop}(hx:TupAt s.heap a xs)(hy:TupAt s.heap b ys)(he:gM prog w A s.heap xs ys c)(h:P (.done (.ret (.bool c))) s):wpAny (model prog w) A (Builtin.«tuple.__eq__» ⟨[.ref a,.ref b],[]⟩) P E s:=by
 have oE:=hy.typeIs;obtain⟨oa,xa,na,nR,_,oq,mF⟩:=hx;obtain⟨ob,ya,nb,nQ,_,fU,mE⟩:=hy;show wpAny _ _ (isInstance (.ref b) (.type "tuple") >>= _) _ _ s;refine Aa (GG oE isSubtype_tuple_tuple ?_);simp only[HX,CM,if_false];refine Aa (Ii nR oq ?_);refine Aa (Ii nQ fU ?_);refine Aa ?_;refine Kl _
  (λrest r s'=>r.1=none/\s'=s/\∃xs' ys' c',rest=List.zip xs' ys'/\gM prog w A s.heap xs' ys' c'/\c'=c/\(xs'.length==ys'.length)=(xa.size==ya.size))
  _ ?_ ?_ _ _ ⟨rfl,rfl,xs,ys,c,by rw[mF,mE],he,rfl,by rw[<-mF,<-mE];simp⟩
 .rintro ⟨u,v⟩ rest r s' ⟨hr,rfl,xs',ys',c',hz,hE,hc,bY⟩
  cases hE with
  |nil=>simp at hz
  |l=>simp at hz
  |r=>simp at hz
  | @cons u' v' b' c'' us vs h1 hE' =>
   simp only[List.zip_cons_cons,List.cons.injEq,Prod.mk.injEq]at hz;obtain⟨⟨rfl,rfl⟩,rfl⟩:=hz;refine Aa (h1 rfl ?_);cases b' with
   |true=>simp only[HX,CM,if_false];exact Ac ⟨rfl,rfl,us,vs,c'',rfl,hE',by simpa using hc,by simpa using bY⟩
   |false =>
    simp only[Bool.not_false,if_true];have hf:c=false:=by rw[<-hc];rfl
    rw[hf]at h;exact Aa (Ac (Ac (Ac h)))
 .rintro ⟨r1,r2⟩ s' ⟨hr,rfl,xs',ys',c',hz,hE,hc,bY⟩
  simp only at hr;subst hr;refine Ac ?_;have gU:(xa.size==ya.size)=c:=by
   rw[<-hc,<-bY];cases hE with
   |nil=>rfl
   |l=>rfl
   |r=>rfl
   |cons _ _=>simp at hz
  show P (.done (.ret (.bool (xa.size==ya.size)))) s';rw[gU];exact h
theorem QK{b:Addr}(hu:A.units<cLine)(hx:TupAt s.heap a xs)(hy:TupAt s.heap b ys)(he:gM prog w A.in1 s.heap xs ys c)(hr:a=b->c=true)(h:Q c s):wpAny (model prog w) A (eqBool (.ref a) (.ref b)) Q E s:=by
 unfold eqBool
 try with_reducible refine BR ?_
 show wpAny _ _ (if(Bb a==Bb b)=true then _ else _) Q E s
 by_cases fN:(Bb a==Bb b)=true
 .rw[if_pos fN]
  have e:a=b:=by have:=eq_of_beq fN;injection this
  rw[hr e]at h;exact Aa (Eh (Ac (by simpa using h)))
 .rw[if_neg fN]
  exact Aa (wpAny_richCompare_same_room (op:=.Eq) hx.typeIs hy.typeIs F.slot_tuple_eq
   (BH F.slot_tuple_eq hx.typeIs F.entry_tuple_eq (XH hx hy he ⟨_,rfl,(λe=>nomatch e),DS h⟩) (F.args_tuple_eq_2 _ _)) hu)
theorem P8(n:Nat)(ht:TupAt s.heap a vs)(hq:∀v∈vs,∀{E:Value->Shared->Prop} {Q:Bool->Shared->Prop},Q true s->wpAny (model prog w) A (DL n v) Q E s)(h:Q true s):wpAny (model prog w) A (DL (n+1) (.ref a)) Q E s:=by
 have hT:=ht.typeIs;obtain⟨o,items,n',ho,_,hd,hi⟩:=ht;unfold DL;refine Aa (Fl hT F.slot_tuple_eq.lookup ?_);show wpAny _ _ (isInstance (.ref a) (.type "tuple") >>= _) _ _ s;refine Aa (GG hT isSubtype_tuple_tuple ?_);simp only[HX,CM,if_false];refine Aa (wpAny_seqItems ho hd ?_);refine Aa ?_;show wpAny _ _ (forIn items _ _) _ _ s;rw[<-Array.forIn_toList,hi];refine Kl _ (λrest r s'=>r.1=none/\s'=s/\∀v∈rest,v∈vs) _ ?_ ?_ _ _ ⟨rfl,rfl,λ_ h=>h⟩
 .rintro v rest r s' ⟨hr,rfl,fJ⟩
  refine Aa (hq v (fJ v Au) ?_);simp only[HX,CM,if_false];exact Ac ⟨rfl,rfl,λu hu'=>fJ u (Av _ hu')⟩
 .rintro ⟨r1,r2⟩ s' ⟨hr,rfl,_⟩
  simp only at hr;subst hr;exact Ac h
end
end
section
variable{Q:Bool->Shared->Prop}{h h':Heap}{u:Value}
section
variable{prog:Program}{w:World}{K K':Type}[DecidableEq K][DecidableEq K'](I:IK prog w K)(pA:IK prog w K')
inductive Bt(h:Heap):List K->List Value->Prop
 |nil:Bt h [] []
 |cons {k:K} {v:Value} {ks:List K} {vs:List Value}:I.is h k v->Bt h ks vs->Bt h (k::ks) (v::vs)
variable{I}
theorem Bt.inj{h:Heap}{x y:List K}{vs:List Value}(hx:Bt I h x vs)(hy:Bt I h y vs):x=y:=by
 induction hx generalizing y with
 |nil=>cases hy;rfl
 |cons h1 _ ih =>
  cases hy with
  |cons h2 t2=>rw[I.inj h1 h2,ih t2]
theorem Bt.keeps{h h':Heap}{x:List K}{vs:List Value}(hx:Bt I h x vs)(k:∀b o items n,o.cls=.type "tuple"->o.data=.seq items n->h.get? b=some o->h'.get? b=some o):Bt I h' x vs:=by
 induction hx with
 |nil=>exact .nil
 |cons h1 _ ih=>exact .cons (I.keeps h1 k) ih
theorem Bt.hash{A:Around}{h:Heap}{x:List K}{vs:List Value}(hu:A.units+I.dep<=cLine)(hx:Bt I h x vs):i7 prog w A h vs (x.map I.hash) (x.map I.draws).sum:=by
 induction hx with
 |nil=>exact .nil
 |cons h1 _ ih=>exact .cons (λe q=>I.pyHash hu (e▸h1) q) ih
theorem Bt.eq{A:Around}{x y:List K}{us vs:List Value}(hu:A.units+I.dep<=cLine)(hx:Bt I h x us)(hy:Bt I h y vs):gM prog w A h us vs (decide (x=y)):=by
 induction hx generalizing y vs with
 |nil =>
  cases hy with
  |nil=>exact .nil
  |cons _ _=>exact .r
 | @cons k v ks vs' h1 _ ih =>
  cases hy with
  |nil=>exact .l
  | @cons k2 v2 ks2 vs2 h2 t2 =>
   have:decide (k::ks=k2::ks2)=(decide (k=k2)&&decide (ks=ks2)):=by rw[Em];simp
   rw[this];exact .cons (λe q=>I.eqBool hu (e▸h1) (e▸h2) q) (ih t2)
theorem Bt.quiet{A:Around}{s:Shared}{x:List K}{vs:List Value}{n:Nat}(hn:I.dep<=n)(hx:Bt I s.heap x vs):∀v∈vs,∀{E:Value->Shared->Prop} {Q:Bool->Shared->Prop},Q true s->wpAny (model prog w) A (DL n v) Q E s:=by
 induction hx with
 |nil=>intro v hv;simp at hv
 |cons h1 _ ih =>
  intro v hv E Q q;rcases Ao.mp hv with rfl|hv
  .exact I.quiet n hn h1 q
  .exact ih v hv q
theorem cB(A:Around):A.in1.units=A.units+1:=rfl
variable(I)
def gJ(h:Heap)(ks:List K)(v:Value):Prop:=∃a vs,v=.ref a/\TupAt h a vs/\Bt I h ks vs
theorem Sh{v:Value}{x y:List K}(h1:gJ I h x v)(h2:gJ I h y v):x=y:=by obtain⟨a,vs,rfl,t1,i1⟩:=h1;obtain⟨a',vs',e,t2,i2⟩:=h2;cases e;obtain rfl:=t1.inj t2;exact i1.inj i2
theorem Uv{k:List K}{v:Value}(h1:gJ I h k v)(hk:∀b o items n,o.cls=.type "tuple"->o.data=.seq items n->h.get? b=some o->h'.get? b=some o):gJ I h' k v:=by obtain⟨a,vs,rfl,t1,i1⟩:=h1;exact⟨a,vs,rfl,t1.keep hk,i1.keeps hk⟩
section
variable{A:Around}{E:Value->Shared->Prop}{s:Shared}
theorem T1{k:List K}{v:Value}{Q:Int->Shared->Prop}(hu:A.units+(I.dep+1)<=cLine)(h1:gJ I s.heap k v)(q:Q (Fc (CK (k.map I.hash))) {s with toks:=s.toks+((k.map I.draws).sum+1)}):wpAny (model prog w) A (pyHash v) Q E s:=by obtain⟨a,vs,rfl,t1,i1⟩:=h1;exact P1 (by omega) t1 (i1.hash (by rw[cB];omega)) q
theorem RG{x y:List K}{v:Value}(hu:A.units+(I.dep+1)<=cLine)(h1:gJ I s.heap x u)(h2:gJ I s.heap y v)(q:Q (decide (x=y)) s):wpAny (model prog w) A (eqBool u v) Q E s:=by obtain⟨a,vs,rfl,t1,i1⟩:=h1;obtain⟨a',vs',rfl,t2,i2⟩:=h2;refine QK (by omega) t1 t2 (i1.eq (by rw[cB];omega) i2) (λe=>?_) q;subst e;obtain rfl:=t1.inj t2;rw[i1.inj i2];exact decide_eq_true rfl
theorem VI{k:List K}{v:Value}(n:Nat)(hn:I.dep+1<=n)(h1:gJ I s.heap k v)(q:Q true s):wpAny (model prog w) A (DL n v) Q E s:=by obtain⟨a,vs,rfl,t1,i1⟩:=h1;obtain⟨m,rfl⟩:∃m,n=m+1:=⟨n-1,by omega⟩;exact P8 m t1 (i1.quiet (by omega)) q
end
def L6:IK prog w (List K):=⟨gJ I,λks=>Fc (CK (ks.map I.hash)),λks=>(ks.map I.draws).sum+1,I.dep+1,λh1 h2=>Sh I h1 h2,λh1 hk=>Uv I h1 hk,λhu h1 q=>T1 I hu h1 q,λhu h1 h2 q=>RG I hu h1 h2 q,λn hn h1 q=>VI I n hn h1 q⟩
def gK(h:Heap)(p:K×K')(v:Value):Prop:=∃a u x,v=.ref a/\TupAt h a [u,x]/\I.is h p.1 u/\pA.is h p.2 x
theorem Sf{v:Value}{x y:K×K'}(h1:gK I pA h x v)(h2:gK I pA h y v):x=y:=by
 obtain⟨a,u,z,rfl,t1,i1,j1⟩:=h1;obtain⟨a',u',z',e,t2,i2,j2⟩:=h2;cases e;have e:=t1.inj t2;injection e with e1 e2
 injection e2 with e2 _
 subst e1;subst e2;exact Prod.ext (I.inj i1 i2) (pA.inj j1 j2)
theorem VJ{k:K×K'}{v:Value}(h1:gK I pA h k v)(hk:∀b o items n,o.cls=.type "tuple"->o.data=.seq items n->h.get? b=some o->h'.get? b=some o):gK I pA h' k v:=by obtain⟨a,u,z,rfl,t1,i1,j1⟩:=h1;exact⟨a,u,z,rfl,t1.keep hk,I.keeps i1 hk,pA.keeps j1 hk⟩
section
variable{A:Around}{E:Value->Shared->Prop}{s:Shared}
theorem Ti{k:K×K'}{v:Value}{Q:Int->Shared->Prop}(hu:A.units+(I.dep+pA.dep+1)<=cLine)(h1:gK I pA s.heap k v)(q:Q (Fc (CK [I.hash k.1,pA.hash k.2])) {s with toks:=s.toks+(I.draws k.1+(pA.draws k.2+0)+1)}):wpAny (model prog w) A (pyHash v) Q E s:=by obtain⟨a,u,z,rfl,t1,i1,j1⟩:=h1;exact P1 (by omega) t1 (.cons (λe q=>I.pyHash (by rw[cB];omega) (e▸i1) q) (.cons (λe q=>pA.pyHash (by rw[cB];omega) (e▸j1) q) .nil)) q
theorem Rx{x y:K×K'}{v:Value}(hu:A.units+(I.dep+pA.dep+1)<=cLine)(h1:gK I pA s.heap x u)(h2:gK I pA s.heap y v)(q:Q (decide (x=y)) s):wpAny (model prog w) A (eqBool u v) Q E s:=by
 obtain⟨a,u,z,rfl,t1,i1,j1⟩:=h1;obtain⟨a',u',z',rfl,t2,i2,j2⟩:=h2;have hd:decide (x=y)=(decide (x.1=y.1)&&(decide (x.2=y.2)&&true)):=by rw[Em];simp[Prod.ext_iff]
 refine QK (c:=decide (x=y)) (by omega) t1 t2 ?_ (λe=>?_) q
 .rw[hd]
  exact .cons (λe q=>I.eqBool (by rw[cB];omega) (e▸i1) (e▸i2) q) (.cons (λe q=>pA.eqBool (by rw[cB];omega) (e▸j1) (e▸j2) q) .nil)
 .subst e
  have e:=t1.inj t2;injection e with e1 e2
  injection e2 with e2 _
  subst e1;subst e2;exact decide_eq_true (Prod.ext (I.inj i1 i2) (pA.inj j1 j2))
theorem VU{k:K×K'}{v:Value}(n:Nat)(hn:I.dep+pA.dep+1<=n)(h1:gK I pA s.heap k v)(q:Q true s):wpAny (model prog w) A (DL n v) Q E s:=by
 obtain⟨a,u,z,rfl,t1,i1,j1⟩:=h1;obtain⟨m,rfl⟩:∃m,n=m+1:=⟨n-1,by omega⟩;refine P8 m t1 (λv hv E Q q=>?_) q;rcases Ao.mp hv with rfl|hv
 .exact I.quiet m (by omega) i1 q
 .rw[AR.mp hv]
  exact pA.quiet m (by omega) j1 q
end
def Oj:IK prog w (K×K'):=⟨gK I pA,λp=>Fc (CK [I.hash p.1,pA.hash p.2]),λp=>I.draws p.1+(pA.draws p.2+0)+1,I.dep+pA.dep+1,λh1 h2=>Sf I pA h1 h2,λh1 hk=>VJ I pA h1 hk,λhu h1 q=>Ti I pA hu h1 q,λhu h1 h2 q=>Rx I pA hu h1 h2 q,λn hn h1 q=>VU I pA n hn h1 q⟩
theorem Uw{k:K}{a d:Addr}{o:Obj}{es:Array DictEntry}{ep:Nat}(h1:I.is h k (.ref a))(ho:h.get? d=some o)(dg:o.data=.dict es ep)(hs:Cy d h h'):I.is h' k (.ref a):=by
 refine I.keeps h1 λb q items n _ hq hb=>?_;have dr:b≠d:=by
  rintro rfl
  rw[ho]at hb;cases hb;rw[dg]at hq;exact nomatch hq
 exact(hs.2 b dr).trans hb
def a5(hd:I.dep<=8):HeapKind prog w K:=⟨λh k a=>I.is h k (.ref a),I.hash,I.draws,λA=>A.units+I.dep<=cLine,λh1 h2=>I.inj h1 h2,λh1 ho dg hs=>Uw I h1 ho dg hs,λhu h1 q=>I.pyHash hu h1 q,λhu h1 h2 q=>I.eqBool hu h1 h2 q,λh1 q=>I.quiet 8 hd h1 q⟩
end
def m1K(prog:Program)(w:World):IK prog w (Bool×List Int):=Oj (Jn (Sy prog w)) (L6 (Jn (intKind prog w)))
def m2K(prog:Program)(w:World):IK prog w (Int×List (List Int)):=Oj (Jn (intKind prog w)) (L6 (L6 (Jn (intKind prog w))))
end
end HN
namespace HP
open PySem PySem.Spec PyProof.Rows L2
variable[FX]
section
variable{a:Addr}{h:Heap}{H:J}{ns:List Int}{fp:Nat->List Addr}
section
variable{P:Program}{w:World}{K:Type}[DecidableEq K]
def d7(knd:HeapKind P w K)(a:Addr)(xs:List (K×Addr×Value)):HO:=.ext λh=>xs.length<=sizeLine/\(a==A4)=false/\∃o es ep,h.get? a=some o/\o.ExactDict/\o.data=.dict es ep/\es.toList=xs.map (entryOfKey knd)/\(xs.map (·.1)).Nodup
theorem N9{knd:HeapKind P w K}{xs:List (K×Addr×Value)}(z:xs.length<=sizeLine)(hd:(a==A4)=false){o:Obj}{es:Array DictEntry}{ep:Nat}(h1:h.get? a=some o)(h2:o.ExactDict)(h3:o.data=.dict es ep)(h4:es.toList=xs.map (entryOfKey knd))(h5:(xs.map (·.1)).Nodup):ZV P w H h a (d7 knd a xs):=by refine⟨⟨z,hd,o,es,ep,h1,h2,h3,h4,h5⟩,⟨o,h1⟩,λg1 g2 ⟨q1,q2,o',es',ep',e1,r⟩ k=>⟨q1,q2,o',es',ep',k _ e1,r⟩⟩
def Fx(knd:HeapKind P w K)(H:J)(k:K)(b:Addr):Prop:=∀h,cV P w H h->knd.is h k b
end
section
variable{X:Cx}{bT:List (Addr×Obj)}{Y:L2.St}{H:J}{s:Shared}{a b:Addr}{z:V}{r:Value}{A:Around}{E:Value->Shared->Prop}{K:Type}[DecidableEq K]{knd:HeapKind X.prog X.w K}{xs:List (K×Addr×Value)}{k:K}
theorem RR(I:Inv X bT Y H s)(e:H a=some (d7 knd a xs))(hk:∀x∈xs,Fx knd H x.1 x.2.1):xs.length<=sizeLine/\(a==A4)=false/\s.heap.DictOfH knd a xs:=by obtain⟨⟨z,hd,o,es,ep,h1,h2,h3,h4,h5⟩,_⟩:=(show ZV X.prog X.w H s.heap a (d7 knd a xs) from I.hok a _ e);exact⟨z,hd,o,es,ep,h1,h2,h3,h4,λx hx=>hk x hx _ I.hok,h5⟩
theorem U7{Q:Value->Shared->Prop}(hu:knd.room A.in1)(I:Inv X bT Y H s)(e:H a=some (d7 knd a xs))(hk:∀x∈xs,Fx knd H x.1 x.2.1)(hb:Fx knd H k b)(hl:xs.length<sizeLine)(h1:∀p,atKey xs k=some p->∀s',Inv X bT Y H s'->Q p.2 s')(h2:atKey xs k=none->∀s',Inv X bT Y (upd H a (d7 knd a (xs++[(k,b,r)]))) s'->Q r s'):wpAny (model X.prog X.w) A (call (.builtin "dict.setdefault") [.ref a,.ref b,r]) Q E s:=by
 obtain⟨zz,hd,dd⟩:=RR I e hk;refine call_meetsIn NO dd.typeIs PySem.F.entry_dict_setdefault (PySem.F.args_dict_setdefault_3 _ _ _) (Y8 (knd:=knd) a b hd r) ⟨hu,k,xs,hb _ I.hok,dd,zz,λp hp=>?_,λhn h' dd' hs=>?_⟩
 .exact h1 p hp _ (I.tok _)
 .refine h2 hn _ ?_
  rw[Ia hn]at dd';obtain⟨q,es,ep,hq,g2,g3,g4,_,g5⟩:=dd';exact He I (by rw[e];exact Ej) hs ⟨q,hq⟩ (N9 (by rw[Az];exact hl) hd hq g2 g3 g4 g5)
end
def KZ{X:Cx}{K:Type}[DecidableEq K](knd:HeapKind X.prog X.w K)(td ty tx:TE):TE:=λY H Q=>td Y H λx H1=>∃a,x=.ref a/\(∃ys,H1 a=some (d7 knd a ys))/\ty Y H1 λy H2=>tx Y H2 λz H3=>∃xs k b,H3 a=some (d7 knd a xs)/\y=.ref b/\(∀x∈xs,Fx knd H3 x.1 x.2.1)/\Fx knd H3 k b/\xs.length<sizeLine /\
 (∀p,atKey xs k=some p->∃v,RelV v p.2/\Q v H3)/\(atKey xs k=none->∀r,RelV z r->Q z (upd H3 a (d7 knd a (xs++[(k,b,r)]))))
section
variable{X:Cx}{o e f:Expr}{eM c5:Pos}{td ty tx:TE}{K:Type}[DecidableEq K]{knd:HeapKind X.prog X.w K}
theorem SM(hu:knd.room X.A.in1)(ho:PE X o td)(he:PE X e ty)(hf:PE X f tx)(m:M2 X o "setdefault" eM e f c5):PE X (.Call (.Attribute o "setdefault" eM) [e,f] [] c5) (KZ knd td ty tx):=by intro bT s Y H Q I h;refine wpAny_Call_method m.base m.few m.line PySem.F.plainAttrs_dict NO PySem.F.type_dict_setdefault (b9 (ho bT s Y H _ I h) λu s1 ⟨x,H1,I1,rx,a,ex,⟨ys,d⟩,q1⟩=>?_);subst ex;obtain rfl:u=Bb a:=rx;obtain⟨⟨_,_,ob,_,_,e1,e2,_⟩,_⟩:=(show ZV X.prog X.w H1 s1.heap a (d7 knd a ys) from I1.hok a _ d);refine⟨⟨ob,e1,e2.1⟩,λb hb=>by cases hb;exact⟨ob,e1,e2.2.1⟩,?_⟩;rw[m.trees];refine ND rfl (NL (KJ (b9 (he bT s1 Y H1 _ I1 q1) λiv s2 ⟨y,H2,I2,ry,q2⟩=>KJ (b9 (hf bT s2 Y H2 _ I2 q2) λfv s3 ⟨z,H3,I3,rz,xs,k,b,ea,ey,hk,hb,hl,q3,q4⟩=>Calls.spliced_nil ?_))));subst ey;obtain rfl:iv=Bb b:=ry;exact U7 hu I3 ea hk hb hl (λp hp s4 I4=>let ⟨v,rv,q⟩:=q3 p hp;⟨v,H3,I4,rv,q⟩) λhn s4 I4=>⟨z,_,I4,rz,q4 hn fv rz⟩
theorem V6:AK X (.builtin "len") (λxs H Q=>∃a ys,xs=[.ref a]/\H a=some (d7 knd a ys)/\Q (.int ys.length) H):=by
 intro bT s Y H xs us Q I r h;obtain⟨a,ys,rfl,ha,q⟩:=h;obtain⟨u,rfl,ru⟩:=vals1 r;cases ru;obtain⟨⟨z,hd,o,es,ep,h1,h2,h3,h4,h5⟩,_⟩:=(show ZV X.prog X.w H s.heap a (d7 knd a ys) from I.hok a _ ha);have iA:es.size=ys.length:=by rw[<-A6,h4,Ae]
 have hm:By s.heap a es ep:=⟨o,h1,h2,h3⟩;refine T5 hd hm (by rw[Bm]at z;omega) ?_;rw[iA];exact⟨.int ys.length,H,I.tok _,⟨s.toks+1,rfl⟩,q⟩
end
section
variable{K:Ad}{F0 H0 F H:J}{r:HM.Env}{Y:L2.St}{i:Nat}{a:Addr}
theorem AD.forget(e:AD K F0 H0 F H r Y fp)(i:Nat):AD K F0 H0 F H (r.set i none) Y (λj=>if j=i then[]else fp j):=by
 have key:∀(j:Nat) (b:HM.B),(r.set i none)[j]?=some (some b)->j≠i/\r[j]?=some (some b):=λj b h=>by
  by_cases hj:j=i
  .subst hj
   by_cases hl:j<r.length
   .rw[Cw hl]at h;cases h
   .rw[NB (by rw[B0];omega)]at h;cases h
  .rw[Bg (AH hj)]at h
   exact⟨hj,h⟩
 refine⟨e.ext,by rw[B0];exact e.len,λj b h=>?_,λj h=>?_,λj c h=>?_,λj=>?_,λj k c ia h=>?_,e.tb,e.nt⟩
 .obtain⟨h1,h2⟩:=key j b h
  rw[if_neg h1];exact e.at_ j b h2
 .by_cases hj:j=i
  .rw[if_pos hj]
  .rw[if_neg hj]
   exact e.emp j λb hb=>h b (by rw[Bg (AH hj)];exact hb)
 .by_cases hj:j=i
  .rw[if_pos hj]at h;simp at h
  .rw[if_neg hj]at h;exact e.own j c h
 .by_cases hj:j=i
  .rw[if_pos hj];simp
  .rw[if_neg hj];exact e.nd j
 .by_cases hj:j=i
  .rw[if_pos hj]at h;simp at h
  .rw[if_neg hj]at h
   by_cases hk:k=i
   .rw[if_pos hk];simp
   .rw[if_neg hk];exact e.dis j k c ia h
theorem At.forget(e:At K F0 H0 F H r Y)(i:Nat):At K F0 H0 F H (r.set i none) Y:=let ⟨_,e⟩:=e;⟨_,e.forget i⟩
theorem AD.outer(e:AD K F0 H0 F H r Y fp)(ob:HO)(hF:F a=none)(h0:H0 a=none)(fL:∀j,a∉fp j)(tb:Tb (upd H a ob)):At K F0 H0 F (upd H a ob) r Y:=by
 refine⟨fp,⟨e.ext.ff,λb o z=>?_,λb o z=>?_,λb o z=>e.ext.new b o z,λ_=>tb,e.ext.nts⟩,e.len,λj b h=>?_,e.emp,e.own,e.nd,e.dis,e.tb,e.nt⟩
 .have hb:b≠a:=λq=>by subst q;rw[h0]at z;cases z
  exact(e.ext.hh b o z).cong (Zt hb)
 .have hb:b≠a:=λq=>by subst q;rw[hF]at z;cases z
  rw[Zt hb];exact e.ext.sub b o z
 .obtain⟨v,h1,h2⟩:=e.at_ j b h
  refine⟨v,h1,h2.mono (Zo.refl F) λc hc o z=>?_⟩;have hb:c≠a:=λq=>by subst q;exact fL j hc
  exact Ci.of (by rw[Zt hb];exact z)
theorem At.outer(e:At K F0 H0 F H r Y)(ob:HO)(hF:F a=none)(h0:H0 a=none)(hn:∀u,H a=some u->EB u=false)(tb:Tb (upd H a ob)):At K F0 H0 F (upd H a ob) r Y:=by obtain⟨fp,e⟩:=e;refine e.outer ob hF h0 (λj hj=>?_) tb;obtain⟨o,h1,h2⟩:=e.there2 hj;rw[hn o h1]at h2;cases h2
end
section
variable{P:Program}{w:World}{Fr:Ad}{F H:J}
def EA{K:Type}[DecidableEq K](knd:HeapKind P w K)(F:J)(k:K)(b:Addr):Prop:=∀H,Zo F H->Fx knd H k b
theorem EA.mono{K:Type}[DecidableEq K]{knd:HeapKind P w K}{F F':J}{k:K}{b:Addr}(h:EA knd F k b)(s:Zo F F'):EA knd F' k b:=λH z=>h H (s.trans z)
def md(P:Program)(w:World):HeapKind P w (Bool×List Int):=HN.a5 (HN.m1K P w) (by show 2<=8;decide)
def ma(P:Program)(w:World):HeapKind P w (Int×List (List Int)):=HN.a5 (HN.m2K P w) (by show 3<=8;decide)
theorem Jg(ok:cV P w H h){vs:List V}(e:H a=some (.tup vs)):∃its,bW vs its/\HN.TupAt h a its:=by obtain⟨_,its,r,o,h1,h2,n,h3⟩:=(show ZV P w H h a (.tup vs) from ok a _ e);exact⟨its,r,o,its.toArray,n,h1,h2,h3,by simp⟩
theorem Pp{h:Heap}:∀{ns:List Int} {its:List Value},bW (ns.map V.int) its->HN.Bt (HN.Jn (intKind P w)) h ns its
 |[],_,r=>by cases r;exact .nil
 |n::ns,_,r=>by
  cases r with
  |cons h1 r'=>obtain⟨t,rfl⟩:=h1;exact .cons (by show E9 n (.int n t)=true;simp[E9]) (Pp r')
theorem Pc(ok:cV P w H h){c:Addr}(e:H c=some (.tup (ns.map V.int))):(HN.L6 (HN.Jn (intKind P w))).is h ns (.ref c):=by obtain⟨its,r,ht⟩:=Jg ok e;exact⟨c,its,rfl,ht,Pp r⟩
theorem Pz{h:Heap}(ok:cV P w H h):∀{qs:List (List Int×Addr)} {its:List Value},(∀q∈qs,H q.2=some (.tup (q.1.map V.int)))->bW (qs.map λq=>V.ref q.2) its->HN.Bt (HN.L6 (HN.Jn (intKind P w))) h (qs.map (·.1)) its
 |[],_,_,r=>by cases r;exact .nil
 |q::qs,_,hq,r=>by
  cases r with
  |cons h1 r'=>cases h1;exact .cons (Pc ok (hq q (Au ..))) (Pz ok (λx hx=>hq x (Av _ hx)) r')
theorem vals2{x y:V}{its:List Value}(r:bW [x,y] its):∃u v,its=[u,v]/\RelV x u/\RelV y v:=by
 cases r with
 |cons h1 r=>cases r with
  |cons h2 r=>cases r;exact⟨_,_,rfl,h1,h2⟩
theorem Ql:∀{ts:List (List Int)} {vs:List V},Zs Fr F (HM.ag ts) vs->∃qs:List (List Int×Addr),vs=(qs.map λq=>V.ref q.2)/\qs.map (·.1)=ts/\∀q∈qs,F q.2=some (.tup (q.1.map V.int))
 |[],vs,r=>⟨[],r.nil_inv,rfl,λq hq=>by cases hq⟩
 |t::ts,vs,r=>by
  obtain⟨v,us,rfl,r1,r2⟩:=r.cons_inv;obtain⟨c,rfl,hc⟩:=Q2 r1;obtain⟨qs,rfl,e2,h⟩:=Ql r2;refine⟨(t,c)::qs,rfl,by rw[Am,e2],λq hq=>?_⟩;rcases Ao.mp hq with rfl|hq
  .exact hc
  .exact h q hq
theorem Rl{b:Bool}{v:V}(r:b7 Fr F (.tuple [.bool b,.tuple (HM.el ns)]) v):∃c,v=.ref c/\EA (md P w) F (b,ns) c:=by obtain⟨a,v1,v2,rfl,h1,r1,r2⟩:=L1 r;cases r1;obtain⟨c,rfl,h2⟩:=Q2 r2;refine⟨a,rfl,λH s h ok=>?_⟩;obtain⟨its,rv,ht⟩:=Jg ok (s _ _ h1);obtain⟨u,x,rfl,e1,e2⟩:=vals2 rv;cases e1;cases e2;exact⟨a,_,_,rfl,ht,by show(b==b)=true;simp,Pc ok (s _ _ h2)⟩
theorem R6{i:Int}{ts:List (List Int)}{v:V}(r:b7 Fr F (.tuple [.int i,.tuple (HM.ag ts)]) v):∃c,v=.ref c/\EA (ma P w) F (i,ts) c:=by
 obtain⟨a,v1,v2,rfl,h1,r1,r2⟩:=L1 r;cases r1;obtain⟨c,vs,rfl,h2,rr⟩:∃c vs,v2=.ref c/\F c=some (.tup vs)/\Zs Fr F (HM.ag ts) vs:=by
  generalize hd:CN (HM.ag ts)=d at r2;cases r2 with
  |tup h hl hr=>injection hd with hd;subst hd;exact⟨_,_,rfl,h,hl,hr⟩
  |tupk h =>
   injection hd with hd
   unfold HM.ag at hd;cases ts with
   |nil=>cases hd
   |cons t ts=>rw[Am]at hd;injection hd with hd _;cases hd
  |_=>cases hd
 obtain⟨qs,rfl,e2,hq⟩:=Ql rr;refine⟨a,rfl,λH s h ok=>?_⟩;obtain⟨its,rv,ht⟩:=Jg ok (s _ _ h1);obtain⟨u,x,rfl,e3,e4⟩:=vals2 rv;obtain⟨t,rfl⟩:=e3;cases e4;obtain⟨eW,ng,nL⟩:=Jg ok (s _ _ h2);refine⟨a,_,_,rfl,ht,by show E9 i (.int i t)=true;simp[E9],c,eW,rfl,nL,?_⟩;rw[<-e2];exact Pz ok (λq hq'=>s _ _ (hq q hq')) ng
end
theorem Qa{K:Type}[DecidableEq K]:∀{xs:List (K×Addr×Value)} {k:K},(∀i,(xs.map (·.1)).findIdx? (λx=>decide (x=k))=some i->∃x,xs[i]?=some x/\atKey xs k=some x.2)/\((xs.map (·.1)).findIdx? (λx=>decide (x=k))=none->atKey xs k=none)
 |[],k=>⟨λi h=>by simp at h,λ_=>rfl⟩
 |x::xs,k=>by
  obtain⟨h1,h2⟩:=Qa (xs:=xs) (k:=k);rw[Am,KH]
  by_cases e:x.1=k
  .have:decide (x.1=k)=true:=decide_eq_true e
   rw[this];refine⟨λi h=>?_,λh=>by simp at h⟩;simp at h;subst h;refine⟨x,rfl,?_⟩;unfold atKey;rw[Fo,this];rfl
  .have hf:decide (x.1=k)=false:=decide_eq_false e
   have k5:atKey (x::xs) k=atKey xs k:=by unfold atKey;rw[Fo,hf]
   rw[hf,k5];refine⟨λi h=>?_,λh=>?_⟩
   .have h:((xs.map (·.1)).findIdx? λx=>decide (x=k)).map (·+1)=some i:=h
    obtain⟨j,hj,rfl⟩:=An.mp h;obtain⟨y,hy,e2⟩:=h1 j hj;exact⟨y,by rw[Bo];exact hy,e2⟩
   .have h:((xs.map (·.1)).findIdx? λx=>decide (x=k)).map (·+1)=none:=h
    exact h2 (Option.map_eq_none_iff.mp h)
section
variable{X:Cx}{pos:Pos}
theorem Tb.outer(t:Tb H){vvs:List (List cn×V)}(h:H a=some (.dT vvs))(ob:HO):Tb (upd H a ob):=t.keep λb o z ht=>by
 have hb:b≠a:=λq=>by subst q;rw[h]at z;cases z;cases ht
 rw[Zt hb];exact z
theorem Tb.lst{H:J}{a l:Addr}{vs us:List V}(t:∀ob,Tb (upd H a ob))(hl:H l=some (.lst vs))(iW:l≠a)(ob:HO):Tb (upd (upd H l (.lst us)) a ob):=(t ob).keep λb o z ht=>by
 by_cases hb:b=a
 .subst hb;rw[ZA]at z ⊢;exact z
 .rw[Zt hb]at z ⊢
  have j9:b≠l:=λq=>by subst q;rw[hl]at z;cases z;cases ht
  rw[Zt j9];exact z
structure i6(X:Cx){K:Type}[DecidableEq K](knd:HeapKind X.prog X.w K)(F0 H0 F1:J)(a:Addr)(ds:List PyData)(ks:List K)(n:Nat)(Y:L2.St)(H:J)(F:J)(ns:List Int)(xs:List (K×Addr×Value)):Prop where
 at_:At X.K F0 H0 F H [some (.pl (.list ds)),none,some (.ol (ns.map AM)),none] Y
 ff:Zo F1 F
 num:Y[1]?=some (some (.ref a))
 ha:H a=some (d7 knd a xs)
 hF:F a=none
 h0:H0 a=none
 tb:∀ob,Tb (upd H a ob)
 kf:∀x∈xs,EA knd F x.1 x.2.1
 vs:∀(i:Nat) (x:K×Addr×Value),xs[i]?=some x->RelV (.int i) x.2.2
 go:ns++HM.Bj (xs.map (·.1)) (ks.drop n)=HM.Bj [] ks
 len:ns.length=n
 xl:xs.length<=n
theorem Pk{x1 x2 x3:Str}{iter:Expr}{p1 p2 p3 p4 p5 p6 p7 p8 p9 p10 cS pm:Pos}{K:Type}[DecidableEq K]{knd:HeapKind X.prog X.w K}(jK:knd.room X.A.in1)(hN:X.N.Nodup)(dZ:X.xe=λ_ _=>False)(hc:X.calm=true)(bY:X.mg "len"=none){ds:List PyData}{ks:List K}(iY:ds.length<1000)(hkl:ks.length=ds.length)(d8:∀(n:Nat) (d:PyData) (k:K) (F:J) (v:V),ds[n]?=some d->ks[n]?=some k->b7 X.K F d v->∃c,v=.ref c/\EA knd F k c)(hi:XI X (.Name x3 p1) iter (HM.ZF (HM.cu (HM.S 0))))(h1:X.N[1]?=some x1)(h2:X.N[2]?=some x2)(h3:X.N[3]?=some x3)(v1:d6 X.env.scope x1)(v2:d6 X.env.scope x2)(v3:d6 X.env.scope x3)(l3:Loc X.env.scope x3)(f3:X.fn x3=true\/X.env.scope.names.lookup x3=some .local)(d1:(x1==("__debug__":Str))=false)(d2:(x2==("__debug__":Str))=false)(d3:(x3==("__debug__":Str))=false)(c1:(x1==("__classdict__":Str))=false)(c2:(x2==("__classdict__":Str))=false)(c3:(x3==("__classdict__":Str))=false)(hg:Gl X "len")(jk:Ag [HQ x1 p7] X.env=[(false,eval (HQ x1 p7) X.env)])(m:M2 X (.Name x1 p4) "setdefault" p5 (.Name x3 p6) (.Call (.Name "len" p8) [.Name x1 p7] [] p9) p10)(dy:Gi (.Name x2 p2) "append" X.env (eval (.Name x2 p2) X.env)=eval (.Name x2 p2) X.env)(dA:((backTo cS (Ag [Bx (.Attribute (.Name x1 p4) "setdefault" p5) [.Name x3 p6,.Call (.Name "len" p8) [.Name x1 p7] [] p9] [] p10] X.env)).all (λx=>!x.1)&&(backToKw cS (Gr [] X.env)).all (λx=>x.1.isSome)&&decide (([Bx (.Attribute (.Name x1 p4) "setdefault" p5) [.Name x3 p6,.Call (.Name "len" p8) [.Name x1 p7] [] p9] [] p10]:List Expr).length+([]:List Keyword).length+(if([]:List Keyword).isEmpty then 0 else 1)<30))=true)(dw:(p3.endLine==cS.line)=true)(hs:Ag [Bx (.Attribute (.Name x1 p4) "setdefault" p5) [.Name x3 p6,.Call (.Name "len" p8) [.Name x1 p7] [] p9] [] p10] X.env=[(false,eval (Bx (.Attribute (.Name x1 p4) "setdefault" p5) [.Name x3 p6,.Call (.Name "len" p8) [.Name x1 p7] [] p9] [] p10) X.env)])(g7:Ct (Bx (.Attribute (.Name x2 p2) "append" p3) [Bx (.Attribute (.Name x1 p4) "setdefault" p5) [.Name x3 p6,.Call (.Name "len" p8) [.Name x1 p7] [] p9] [] p10] [] cS) none pm.line X.env=pure false)(gE:∀x,Cz iter X.env x=pure x):PS X (.For (.Name x3 p1) iter [.Expr (.Call (.Attribute (.Name x2 p2) "append" p3) [.Call (.Attribute (.Name x1 p4) "setdefault" p5) [.Name x3 p6,.Call (.Name "len" p8) [.Name x1 p7] [] p9] [] p10] [] cS) pm] [] pos) (iS X.K [some (.pl (.list ds)),some (.ot []),some (.ol []),none] (.nx [some (.pl (.list ds)),none,some (.ol ((HM.Bj [] ks).map AM)),none])):=by
 have lz:=SM (knd:=knd) jK (CY h1 v1 d1 c1) (CY h3 v3 d3 c3) (DC (V6 (knd:=knd)) hg bY Oq (Br (CY h1 v1 d1 c1) BW jk) (he:=jk)) m;have ij:=OJ (LC (N8 NH Nq NI Jz (CY h2 v2 d2 c2) (Br lz BW hs) dy dA dw hs rfl) g7);have pd:∀(b:Option HM.B),([some (HM.B.pl (.list ds)),none,b,none]:HM.Env).set 3 none=[some (.pl (.list ds)),none,b,none]:=λ_=>rfl;have eG:∀(E:fj) (F0 H0 F1:J) (a:Addr) (n:Nat) (Y:L2.St) (H F:J) (ns:List Int) (xs:List (K×Addr×Value)) (d:PyData) (k:K) (y:V),i6 X knd F0 H0 F1 a ds ks n Y H F ns xs->ds[n]?=some d->ks[n]?=some k->b7 X.K F d y->(∀σ' H' F' ns' xs',i6 X knd F0 H0 F1 a ds ks (n+1) σ' H' F' ns' xs'->E.nx σ' H') ->
   K3 (kz X.K "list" LJ (Dt 2) (G0 (KZ knd (Dt 1) (Dt 3) (jQ (λxs H Q=>∃a ys,xs=[.ref a]/\H a=some (d7 knd a ys)/\Q (.int ys.length) H) (G0 (Dt 1) GL))) GL)) E (Y.set 3 (some y)) H:=by
  intro E F0 H0 F1 a n Y H F ns xs d k y pA hd hk ry post;obtain⟨c,rfl,hc⟩:=d8 n d k F y hd hk ry;have cU:=((pA.at_.set (i:=3) ry).forget 3);have e4:(([some (.pl (.list ds)),none,some (.ol (ns.map AM)),none]:HM.Env).set 3 (some (.pl d))).set 3 none=[some (.pl (.list ds)),none,some (.ol (ns.map AM)),none]:=rfl;rw[e4]at cU;have mX:Y.length=4:=pA.at_.len.symm;have dO:(Y.set 3 (some (V.ref c)))[1]?=some (some (.ref a)):=by rw[Bg (by decide)];exact pA.num
  have nN:(Y.set 3 (some (V.ref c)))[3]?=some (some (.ref c)):=Cw (by omega);obtain⟨l,vs,e1,e2,e3,_⟩:=cU.chgList (i:=2) (es:=ns.map AM) rfl;have hnl:ns.length<1000:=by have:=(AE.mp hd).1;have:=pA.len;omega
  have iW:l≠a:=λq=>by subst q;rw[pA.ha]at e2;cases e2
  have jN:ks.drop n=k::ks.drop (n+1):=by obtain⟨cq,e⟩:=AE.mp hk;rw[GI cq,e]
  have cC:=pA.go;rw[jN]at cC;have kH:vs.length=ns.length:=by have:=e3.1;rw[Ae]at this;exact this.symm
  have hz:∀us:List V,us.length=ns.length->us.length<sizeLine:=λus h=>by
   have e5:(1000000:Nat)<=sizeLine:=by decide
   omega
  have nF:xs.length<sizeLine:=by
   have e5:(1000000:Nat)<=sizeLine:=by decide
   have:=pA.xl;have:=pA.len;omega
  obtain⟨me,nB⟩:=Qa (xs:=xs) (k:=k);refine⟨.ref l,e1,.inl ⟨rfl,_,cF.of e2⟩,.ref a,dO,a,rfl,⟨xs,pA.ha⟩,.ref c,nN,.ref a,dO,a,xs,rfl,pA.ha,xs,k,c,pA.ha,rfl,λx hx=>pA.kf x hx H pA.at_.sub,hc H pA.at_.sub,nF,λp hp=>?_,λhn r rz=>?_⟩
  ·-- it was seen
   cases hf:(xs.map (·.1)).findIdx? (λx=>decide (x=k))with
   |none=>rw[nB hf]at hp;cases hp
   |some i =>
    obtain⟨x,hx,e5⟩:=me i hf;rw[hp]at e5;cases e5;refine⟨.int i,pA.vs i x hx,l,vs,.int i,rfl,rfl,e2,hz vs kH,?_⟩;have gd:HM.Bj (xs.map (·.1)) (k::ks.drop (n+1))=(i:Int)::HM.Bj (xs.map (·.1)) (ks.drop (n+1)):=by rw[HM.Bj,hf]
    rw[gd]at cC;obtain⟨l',vs',f1,f2,f3,f4⟩:=cU.chgList (i:=2) (es:=(ns++[(i:Int)]).map AM) rfl;rw[e1]at f1;cases f1;rw[e2]at f2;cases f2;have de:=f4 (vs++[.int i]) (by rw[Bf];exact e3.append (.one (.int i)));refine post _ _ F (ns++[(i:Int)]) xs ⟨de,pA.ff,dO,by rw[Zt (AH iW)];exact pA.ha,pA.hF,pA.h0,Tb.lst pA.tb e2 iW,pA.kf,pA.vs,?_,by rw[Az,pA.len];rfl,by have:=pA.xl;omega⟩;rw[Cc];exact cC
  ·-- it is new
   have hf:(xs.map (·.1)).findIdx? (λx=>decide (x=k))=none:=by
    cases hf:(xs.map (·.1)).findIdx? (λx=>decide (x=k))with
    |none=>rfl
    |some i=>obtain⟨x,hx,e5⟩:=me i hf;rw[hn]at e5;cases e5
   have lr:At X.K F0 H0 F (upd H a (d7 knd a (xs++[(k,c,r)]))) [some (.pl (.list ds)),none,some (.ol (ns.map AM)),none] (Y.set 3 (some (V.ref c))):=cU.outer _ pA.hF pA.h0 (λu z=>by rw[pA.ha]at z;cases z;rfl) (pA.tb _);have e2':upd H a (d7 knd a (xs++[(k,c,r)])) l=some (.lst vs):=by rw[Zt iW];exact e2
   refine⟨l,vs,.int xs.length,rfl,rfl,e2',hz vs kH,?_⟩;have gd:HM.Bj (xs.map (·.1)) (k::ks.drop (n+1))=(xs.length:Int)::HM.Bj (xs.map (·.1)++[k]) (ks.drop (n+1)):=by rw[HM.Bj,hf,Ae]
   rw[gd]at cC;obtain⟨l',vs',f1,f2,f3,f4⟩:=lr.chgList (i:=2) (es:=(ns++[(xs.length:Int)]).map AM) rfl;rw[e1]at f1;cases f1;rw[e2']at f2;cases f2;have de:=f4 (vs++[.int xs.length]) (by rw[Bf];exact f3.append (.one (.int _)));refine post _ _ F (ns++[(xs.length:Int)]) (xs++[(k,c,r)]) ⟨de,pA.ff,dO,by rw[Zt (AH iW),ZA],pA.hF,pA.h0,λob=>?_,λx hx=>?_,λi x hx=>?_,?_,by rw[Az,pA.len];rfl,by rw[Az,KG];have:=pA.xl;omega⟩
   .exact Tb.lst (λob=>by rw[OP];exact pA.tb ob) e2' iW ob
   .rcases Bk.mp hx with hx|hx
    .exact pA.kf x hx
    .rw[AR.mp hx];exact hc
   .by_cases hi:i<xs.length
    .rw[Cd hi]at hx
     exact pA.vs i x hx
    .rw[Ce (by omega)]at hx
     cases hj:i-xs.length with
     |zero =>
      rw[hj]at hx;cases hx;have:i=xs.length:=by omega
      subst this;exact rz
     |succ j=>rw[hj]at hx;cases hx
   .rw[Cc,Bf]
    exact cC
 have pbody':dz X [.Expr (.Call (.Attribute (.Name x2 p2) "append" p3) [.Call (.Attribute (.Name x1 p4) "setdefault" p5) [.Name x3 p6,.Call (.Name "len" p8) [.Name x1 p7] [] p9] [] p10] [] cS) pm] (λE Y H=>∃a H',(H'=H\/(H a=some (.dT [])/\H'=upd H a (d7 knd a [])))/\K3 (kz X.K "list" LJ (Dt 2) (G0 (KZ knd (Dt 1) (Dt 3) (jQ (λxs H Q=>∃a ys,xs=[.ref a]/\H a=some (d7 knd a ys)/\Q (.int ys.length) H) (G0 (Dt 1) GL))) GL)) E Y H'):=by
  intro bT s Y H E I ⟨a,H',hh,t⟩;rcases hh with rfl|⟨ha,rfl⟩
  .exact ij bT s Y H' E I t
  .refine ij bT s Y _ E ?_ t
   obtain⟨z,hd,ys,dJ,o,es,ep,g1,g2,g3,g4,g5⟩:=(show ZV X.prog X.w H s.heap a (.dT []) from I.hok a _ ha);have hy:ys=[]:=by have:=Et dJ;exact Dl this.symm
   subst hy;exact He (t':=s.toks) I (by rw[ha];exact Ej) ⟨rfl,λ_ _=>rfl⟩ ⟨o,g1⟩ (N9 (by simp) hd g1 g2 g3 (by rw[g4];rfl) (by simp))
 refine PS.imp (Lf (Jx dZ) hc (hi [some (.pl (.list ds)),some (.ot []),some (.ol []),none] ds rfl) (CF hN h3 l3 f3) pbody' gE) λE Y H ⟨F0,H0,F,at_,k⟩=>?_;refine⟨F0,H0,F,at_,λpA F1 H1 x1 it=>?_⟩;refine⟨λn m Y H=>∃F,Zo F1 F/\n+m=ds.length/\((n=0/\At X.K F0 H0 F H [some (.pl (.list ds)),some (.ot []),some (.ol []),none] Y)\/∃a ns xs,i6 X knd F0 H0 F1 a ds ks n Y H F ns xs),⟨ds.length,F1,Zo.refl _,by omega,.inl ⟨rfl,at_.grow x1⟩⟩,?_⟩
 rintro n m Y H ⟨F2,s2,hn,dM⟩
 have gO:Zo F2 H:=by
  rcases dM with⟨_,di⟩|⟨a,ns,xs,J2⟩
  .exact di.sub
  .exact J2.at_.sub
 obtain⟨fR,fQ⟩:=it F2 H s2 gO;cases m with
 |zero =>
  have e:n=ds.length:=by omega
  refine .inl ⟨by rw[e];exact fQ,?_⟩;rcases dM with⟨h0,di⟩|⟨a,ns,xs,J2⟩
  .have jo:ks=[]:=Dl (by omega)
   subst jo;exact k Y F2 H (di.forget 1)
  .have cC:=J2.go
   rw[List.drop_eq_nil_of_le (by omega)]at cC;have lM:HM.Bj (xs.map (·.1)) ([]:List K)=[]:=rfl;rw[lM,B1]at cC;rw[<-cC]at k;exact k Y F2 H J2.at_
 |succ m =>
  have cq:n<ds.length:=by omega
  obtain⟨j1,j2⟩:=fR n ds[n] (AB cq);refine .inr ⟨j1,λσ' H'=>∃F,Zo F1 F/\∃a ns xs,i6 X knd F0 H0 F1 a ds ks (n+1) σ' H' F ns xs,λσ' H' ⟨F,a1,a2⟩=>⟨m,by omega,F,a1,by omega,.inr a2⟩,λy H' hy=>?_⟩;obtain⟨e1,ry⟩:=j2 y H' hy;subst e1;have hk:ks[n]?=some ks[n]:=AB (by omega);have hd:ds[n]?=some ds[n]:=AB cq;rcases dM with⟨h0,di⟩|⟨a,ns,xs,J2⟩
  .subst h0
   have cU:=di.grow di.refl.tups;obtain⟨fp,e⟩:=cU;obtain⟨v,nC,rb⟩:=e.at_ 1 (.ot []) rfl;generalize fL:fp 1=f at rb;cases rb with
   | @ot a kvs vvs hH hkk rr =>
    have nH:vvs=[]:=by have:=congrArg A5 hkk;rw[Ae,Ae]at this;exact Dl this.symm
    subst nH;have eL:=e.own 1 a (by rw[fL];simp);have tbx:∀ob,Tb (upd H' a ob):=λob=>(e.ext.tab e.tb).outer hH ob;have lr:At X.K F0 H0 (Ax F2 H') (upd H' a (d7 knd a [])) [some (.pl (.list ds)),none,some (.ol []),none] Y:=(e.forget 1).outer _ eL.1 eL.2 (λj hj=>by
     by_cases q:j=1
     .rw[if_pos q]at hj;simp at hj
     .rw[if_neg q]at hj
      exact e.dis 1 j a (AH q) (by rw[fL];simp) hj) (tbx _)
    have J3:i6 X knd F0 H0 F1 a ds ks 0 Y (upd H' a (d7 knd a [])) (Ax F2 H') [] []:=⟨lr,s2.trans (BE gO),nC,ZA,eL.1,eL.2,λob=>by rw[OP];exact tbx ob,λx hx=>by simp at hx,λi x hx=>by simp at hx,rfl,rfl,by simp⟩;exact⟨a,_,.inr ⟨hH,rfl⟩,eG _ F0 H0 F1 a 0 Y _ (Ax F2 H') [] [] _ _ y J3 hd hk ry λσ' H'' F' ns' xs' J'=>⟨F',J'.ff,a,ns',xs',J'⟩⟩
  .have oJ:Ax F2 H' a=none:=by
    unfold Ax;rw[J2.ha];exact J2.hF
   have J3:i6 X knd F0 H0 F1 a ds ks n Y H' (Ax F2 H') ns xs:=⟨J2.at_.grow J2.at_.refl.tups,s2.trans (BE gO),J2.num,J2.ha,oJ,J2.h0,J2.tb,λx hx=>(J2.kf x hx).mono (BE gO),J2.vs,J2.go,J2.len,J2.xl⟩;exact⟨a,_,.inl rfl,eG _ F0 H0 F1 a n Y H' (Ax F2 H') ns xs _ _ y J3 hd hk ry λσ' H'' F' ns' xs' J'=>⟨F',J'.ff,a,ns',xs',J'⟩⟩
end
end
section
variable{p1 p2 p3 p4 p5:Pos}{x1 x2 x3:Str}
theorem Lz{K:Type}{f:PyData->Option K}:∀{ds:List PyData} {ks:List K},HM.DZ f ds=some ks->ks.length=ds.length/\∀(n:Nat) (d:PyData) (k:K),ds[n]?=some d->ks[n]?=some k->f d=some k
 |[],ks,h=>by cases h;exact⟨rfl,λn d k h=>by simp at h⟩
 |d::ds,ks,h=>by
  unfold HM.DZ at h;split at h
  .rename_i k hk
   obtain⟨ks',e,rfl⟩:=An.mp h;obtain⟨l,g⟩:=Lz e;refine⟨by rw[A2,A2,l],λn d' k' h1 h2=>?_⟩;cases n with
   |zero=>cases h1;cases h2;exact hk
   |succ n=>exact g n d' k' h1 h2
  .cases h
theorem Tf{d:PyData}{k:Bool×List Int}(h:HM.jW d=some k):d=.tuple [.bool k.1,.tuple (HM.el k.2)]:=by
 unfold HM.jW at h;split at h
 .obtain⟨ns,e,rfl⟩:=An.mp h
  rw[LS e]
 .cases h
theorem T8{d:PyData}{k:Int×List (List Int)}(h:HM.kD d=some k):d=.tuple [.int k.1,.tuple (HM.ag k.2)]:=by
 unfold HM.kD at h;split at h
 .obtain⟨ns,e,rfl⟩:=An.mp h
  rw[LP e]
 .cases h
section
variable{X:Cx}{pos:Pos}
theorem We{iter:Expr}{p6 p7 p8 p9 p10 cS pm:Pos}(hN:X.N.Nodup)(dZ:X.xe=λ_ _=>False)(hc:X.calm=true)(bY:X.mg "len"=none)(hr:X.A.units+64<cLine)(hi:XI X (.Name x3 p1) iter (HM.ZF (HM.cu (HM.S 0))))(h1:X.N[1]?=some x1:=by rfl)(h2:X.N[2]?=some x2:=by rfl)(h3:X.N[3]?=some x3:=by rfl)(v1:d6 X.env.scope x1:=by first|exact AJ rfl|exact Ar (AJ rfl)|exact Ar (Ar rfl))(v2:d6 X.env.scope x2:=by first|exact AJ rfl|exact Ar (AJ rfl)|exact Ar (Ar rfl))(v3:d6 X.env.scope x3:=by first|exact AJ rfl|exact Ar (AJ rfl)|exact Ar (Ar rfl))(l3:Loc X.env.scope x3:=by first|exact AJ rfl|exact Ar rfl)(f3:X.fn x3=true\/X.env.scope.names.lookup x3=some .local:=by first|exact .inl rfl|exact .inr rfl)(d1:(x1==("__debug__":Str))=false:=by decide)(d2:(x2==("__debug__":Str))=false:=by decide)(d3:(x3==("__debug__":Str))=false:=by decide)(c1:(x1==("__classdict__":Str))=false:=by decide)(c2:(x2==("__classdict__":Str))=false:=by decide)(c3:(x3==("__classdict__":Str))=false:=by decide)(hg:Gl X "len":=by rfl)(jk:Ag [HQ x1 p7] X.env=[(false,eval (HQ x1 p7) X.env)]:=by rfl)(m:M2 X (.Name x1 p4) "setdefault" p5 (.Name x3 p6) (.Call (.Name "len" p8) [.Name x1 p7] [] p9) p10:=by exact⟨rfl,rfl,rfl,rfl⟩)(dy:Gi (.Name x2 p2) "append" X.env (eval (.Name x2 p2) X.env)=eval (.Name x2 p2) X.env:=by rfl)(dA:((backTo cS (Ag [Bx (.Attribute (.Name x1 p4) "setdefault" p5) [.Name x3 p6,.Call (.Name "len" p8) [.Name x1 p7] [] p9] [] p10] X.env)).all (λx=>!x.1)&&(backToKw cS (Gr [] X.env)).all (λx=>x.1.isSome)&&decide (([Bx (.Attribute (.Name x1 p4) "setdefault" p5) [.Name x3 p6,.Call (.Name "len" p8) [.Name x1 p7] [] p9] [] p10]:List Expr).length+([]:List Keyword).length+(if([]:List Keyword).isEmpty then 0 else 1)<30))=true:=by rfl)(dw:(p3.endLine==cS.line)=true:=by rfl)(hs:Ag [Bx (.Attribute (.Name x1 p4) "setdefault" p5) [.Name x3 p6,.Call (.Name "len" p8) [.Name x1 p7] [] p9] [] p10] X.env=[(false,eval (Bx (.Attribute (.Name x1 p4) "setdefault" p5) [.Name x3 p6,.Call (.Name "len" p8) [.Name x1 p7] [] p9] [] p10) X.env)]:=by rfl)(g7:Ct (Bx (.Attribute (.Name x2 p2) "append" p3) [Bx (.Attribute (.Name x1 p4) "setdefault" p5) [.Name x3 p6,.Call (.Name "len" p8) [.Name x1 p7] [] p9] [] p10] [] cS) none pm.line X.env=pure false:=by rfl)(gE:∀x,Cz iter X.env x=pure x:=by intro _;rfl):XS X (.For (.Name x3 p1) iter [.Expr (.Call (.Attribute (.Name x2 p2) "append" p3) [.Call (.Attribute (.Name x1 p4) "setdefault" p5) [.Name x3 p6,.Call (.Name "len" p8) [.Name x1 p7] [] p9] [] p10] [] cS) pm] [] pos) HM.Q1:=by
 intro r o ho;unfold HM.Q1 at ho;split at ho
 .rename_i ds
  obtain⟨ns,cW,rfl⟩:=An.mp ho;unfold HM.ED at cW;split at cW
  .rename_i iY
   split at cW
   .rename_i ks jo
    cases cW;obtain⟨hl,jr⟩:=Lz jo;exact Pk (knd:=md X.prog X.w) (by show X.A.units+1+2<=cLine;omega) hN dZ hc bY iY hl (λn d k F v e1 e2 rr=>Rl (by rw[<-Tf (jr n d k e1 e2)];exact rr)) hi h1 h2 h3 v1 v2 v3 l3 f3 d1 d2 d3 c1 c2 c3 hg jk m dy dA dw hs g7 gE
   .split at cW
    .rename_i ks jo
     cases cW;obtain⟨hl,jr⟩:=Lz jo;exact Pk (knd:=ma X.prog X.w) (by show X.A.units+1+3<=cLine;omega) hN dZ hc bY iY hl (λn d k F v e1 e2 rr=>R6 (by rw[<-T8 (jr n d k e1 e2)];exact rr)) hi h1 h2 h3 v1 v2 v3 l3 f3 d1 d2 d3 c1 c2 c3 hg jk m dy dA dw hs g7 gE
    .cases cW
  .cases cW
 .cases ho
end
section
variable{X:Cx}{pos:Pos}{fa:HM.EF}
theorem Us{K:Ad}{F:J}{d1 d2 d3 d4 d5:PyData}{v:V}(h:b7 K F (.tuple [d1,d2,d3,d4,d5]) v):∃a v1 v2 v3 v4 v5,v=.ref a/\F a=some (.tup [v1,v2,v3,v4,v5])/\b7 K F d1 v1/\b7 K F d2 v2/\b7 K F d3 v3/\b7 K F d4 v4/\b7 K F d5 v5:=by
 cases h with
 | @tup a ds vs h1 h2 h3 =>
  match vs,h2 with
  |[v1,v2,v3,v4,v5],_=>exact⟨a,v1,v2,v3,v4,v5,rfl,h1,h3 0 _ _ rfl rfl,h3 1 _ _ rfl rfl,h3 2 _ _ rfl rfl,h3 3 _ _ rfl rfl,h3 4 _ _ rfl rfl⟩
theorem UP(i1 i2 i3 i4 i5:Nat){x4 x5:Str}{pt:Pos}{kt:Nat}{e:Expr}(hN:X.N.Nodup)(hc:X.calm=true)(h:XE X e fa)(h1:X.N[i1]?=some x1:=by rfl)(h2:X.N[i2]?=some x2:=by rfl)(h3:X.N[i3]?=some x3:=by rfl)(h4:X.N[i4]?=some x4:=by rfl)(h5:X.N[i5]?=some x5:=by rfl)(l1:Loc X.env.scope x1:=by first|exact AJ rfl|exact Ar rfl)(l2:Loc X.env.scope x2:=by first|exact AJ rfl|exact Ar rfl)(l3:Loc X.env.scope x3:=by first|exact AJ rfl|exact Ar rfl)(l4:Loc X.env.scope x4:=by first|exact AJ rfl|exact Ar rfl)(l5:Loc X.env.scope x5:=by first|exact AJ rfl|exact Ar rfl)(f1:X.fn x1=true\/X.env.scope.names.lookup x1=some .local:=by first|exact .inl rfl|exact .inr rfl)(f2:X.fn x2=true\/X.env.scope.names.lookup x2=some .local:=by first|exact .inl rfl|exact .inr rfl)(f3:X.fn x3=true\/X.env.scope.names.lookup x3=some .local:=by first|exact .inl rfl|exact .inr rfl)(f4:X.fn x4=true\/X.env.scope.names.lookup x4=some .local:=by first|exact .inl rfl|exact .inr rfl)(f5:X.fn x5=true\/X.env.scope.names.lookup x5=some .local:=by first|exact .inl rfl|exact .inr rfl)(g1:(BQ [.Name x1 p1,.Name x2 p2,.Name x3 p3,.Name x4 p4,.Name x5 p5] X.env).length=5:=by rfl)(g2:(BQ [.Name x1 p1,.Name x2 p2,.Name x3 p3,.Name x4 p4,.Name x5 p5] X.env).findIdx? (·.1)=none:=by rfl)(hs:swapsWithSole [.Tuple [.Name x1 p1,.Name x2 p2,.Name x3 p3,.Name x4 p4,.Name x5 p5] kt pt] e pos.line X.env=pure false:=by rfl)(hw:swappedStores [.Tuple [.Name x1 p1,.Name x2 p2,.Name x3 p3,.Name x4 p4,.Name x5 p5] kt pt] e X.env=pure none:=by rfl)(h6:(BQ [.Tuple [.Name x1 p1,.Name x2 p2,.Name x3 p3,.Name x4 p4,.Name x5 p5] kt pt] X.env).map (·.2)=[assign (.Tuple [.Name x1 p1,.Name x2 p2,.Name x3 p3,.Name x4 p4,.Name x5 p5] kt pt) X.env]:=by rfl):XS X (.Assign [.Tuple [.Name x1 p1,.Name x2 p2,.Name x3 p3,.Name x4 p4,.Name x5 p5] kt pt] e pos) (HM.WV i1 i2 i3 i4 i5 fa):=by
 intro r o ho;unfold HM.WV at ho;split at ho
 .rename_i d1 d2 d3 d4 d5 hd
  cases ho;refine PS.imp (Ov (h r _ hd) (Oz hc (EN (CF hN h1 l1 f1) (EN (CF hN h2 l2 f2) (EN (CF hN h3 l3 f3) (EN (CF hN h4 l4 f4) (EN (CF hN h5 l5 f5) OZ))))) g1 g2) hs hw h6) λE Y H ⟨F0,H0,F,at_,k⟩=>?_;refine⟨F0,H0,F,at_,λv F' H' x1 q=>?_⟩;obtain⟨pa,v1,v2,v3,v4,v5,e7,kM,r1,r2,r3,r4,r5⟩:=Us q;subst e7;exact⟨pa,[v1,v2,v3,v4,v5],rfl,.of (x1.sub _ _ kM),rfl,v1,[v2,v3,v4,v5],rfl,v2,[v3,v4,v5],rfl,v3,[v4,v5],rfl,v4,[v5],rfl,v5,[],rfl,rfl,k _ F' H' ((((((at_.grow x1).set (i:=i1) r1).set (i:=i2) r2).set (i:=i3) r3).set (i:=i4) r4).set (i:=i5) r5)⟩
 .cases ho
end
end
section
variable{a:Addr}{X:Cx}{c9 iter:Expr}{fe:HM.EF}{fc:HM.TF}{H H1:J}{Y:L2.St}{bT:List (Addr×Obj)}{fp:List Addr}{cT:List Expr}{N:List Str}{pos px:Pos}{scope:Scope}{s s2:Shared}{x y:Str}
def ZW(X:Cx)(N:List Str)(scope:Scope)(cl:List (Str×Addr))(C:Addr)(s₀:Shared)(H₀:J)(ex:List Addr)(x:Str):Cx:={ZU X N scope cl C s₀ H₀ ex with fn:=λy=>y==x}
structure EK(X:Cx)(N:List Str)(scope:Scope)(x:Str):Prop where
 kind:scope.kind=.function
 one:scope.names.filter (λy=>y.2==.cell)=[(x,.cell)]
 names:∀y∈scope.names,y.2=.local->scope.names.lookup y.1=some .local
 loc:scope.names.lookup x=some .cell
 nx:∀y∈scope.names,y.2=.free->y.1≠x
 first:N[0]?=some x
 nd:N.Nodup
 len:N.length=X.N.length+1
 cap:∀y∈scope.names,y.2=.free->X.env.kindOf y.1=some .cell\/X.env.kindOf y.1=some .free
 same:∀(i:Nat) (y:Str),N[i+1]?=some y->scope.names.lookup y=some .free->X.N[i]?=some y
 vis:∀(i:Nat) (y:Str),N[i+1]?=some y->d6 scope y->scope.names.lookup y=some .free
theorem P7:∀(names:List (Str×NameKind)) (a:Addr) (acc:List (Str×Addr)) (h:Heap),names.filter (λy=>y.2==.cell)=[]->DQ a names acc=acc/\Ge h names=h
 |[],_,_,_,_=>⟨rfl,rfl⟩
 |(n,k)::r,a,acc,h,e=>by
  rw[Kk]at e;split at e
  .cases e
  .rename_i hk
   have hk:¬(k==Er)=true:=hk;obtain⟨e1,e2⟩:=P7 r a acc h e;unfold DQ Ge;rw[if_neg hk,if_neg hk];exact⟨e1,e2⟩
theorem Qf{x:Str}:∀(names:List (Str×NameKind)) (a:Addr) (acc:List (Str×Addr)) (h:Heap),names.filter (λy=>y.2==.cell)=[(x,.cell)]->DQ a names acc=(x,a)::acc/\Ge h names=h.push {cls:=.type "cell",data:=.cell none}
 |[],_,_,_,e=>by cases e
 |(n,k)::r,a,acc,h,e=>by
  rw[Kk]at e;split at e
  .rename_i hk
   have hk:(k==Er)=true:=hk;injection e with e1 e2
   injection e1 with e1 _
   subst e1;unfold DQ Ge;rw[if_pos hk,if_pos hk];exact P7 r _ _ _ e2
  .rename_i hk
   have hk:¬(k==Er)=true:=hk;unfold DQ Ge;rw[if_neg hk,if_neg hk];exact Qf r a acc h e
theorem VD{M:Model}{A:Around}{E:Value->Shared->Prop}{globals:Addr}{er:List (Str×Addr)}{cj:Str}{func:Option Addr}{code:Value}{outer:Env}{builtins:Addr}{Q:Env->Shared->Prop}(h1:scope.names.filter (λy=>y.2==.cell)=[(x,.cell)])(hQ:Q (newEnv scope s.heap.objs.size globals ((x,s.heap.objs.size+1)::er) cj func code (some outer) builtins) {s with heap:=(s.heap.push {cls:=.type "dict",data:=.dict #[]}).push {cls:=.type "cell",data:=.cell none}}):wpAny M A (newFunctionEnv scope globals er [] cj func code (some outer) builtins) Q E s:=by
 simp only[newFunctionEnv,Option.isSome_some,if_true];refine Aa (wpAny_alloc ?_);refine Aa (wpAny_layCells _ (λname kind cells=>by cases hkc:kind==Er<;>simp[hkc]) _ _ _ _ ?_);obtain⟨e1,e2⟩:=Qf scope.names (s.heap.objs.size+1) er (s.heap.push {cls:=.type "dict",data:=.dict #[]}) h1;rw[show({s with heap:=s.heap.push {cls:=.type "dict",data:=.dict #[]}}:Shared).heap.objs.size=s.heap.objs.size+1 from DP ..,e1,e2];rw[List.forIn_nil];exact Aa (Ac (Ac hQ))
section
variable{X:Cx}{N:List Str}{scope:Scope}{cl:List (Str×Addr)}{C:Addr}{x:Str}
theorem af{env:Env}{y:Str}:∀{names:List (Str×NameKind)},names.lookup y=some .cell->(names.map λ(n,k)=>if(k==DN&&env.scope.kind==.function&&env.kindOf n==some .cell)then(n,Er)else(n,k)).lookup y=some .cell
 |[],h=>by simp at h
 |(n,k')::r,h=>by
  have ih:=@af env y r;rw[Am];dsimp only;rw[BI]at h;split at h
  .rename_i hb
   cases h;rw[if_neg (by simp)];rw[BI,hb]
  .rename_i hb
   split
   .rw[BI,hb];exact ih h
   .rw[BI,hb];exact ih h
theorem FV{c:Addr}(h:((x,a)::cl).lookup y=some c):(y=x/\c=a)\/(y≠x/\cl.lookup y=some c):=by
 rw[BI]at h;split at h
 .rename_i hb
  cases h;exact .inl ⟨by simpa using hb,rfl⟩
 .rename_i hb
  exact .inr ⟨by simpa using hb,h⟩
theorem Q5(h:y≠x):((x,a)::cl).lookup y=cl.lookup y:=by
 rw[BI];split
 .rename_i hb
  exact absurd (by simpa using hb) h
 .rfl
theorem UH(T:EK X N scope x)(cE:∀y c,cl.lookup y=some c->X.env.cells.lookup y=some c)(eU:∀y∈scope.names,y.2=.free->(cl.lookup y.1).isSome=true)(I:Inv X bT Y H s)(hc:X.calm=true)(hf:∀b∈fp,Bq X bT H b)(dD:∀b∈fp,b<s.heap.objs.size)(hC:s.heap.objs.size<=C):(ZW X N scope ((x,C+1)::cl) C s H fp x).Ok:=by
 have mL:∀y,X.env.cells.lookup y≠some (C+1):=λy e=>by obtain⟨v,o,ho,_⟩:=I.cell y _ e;exact absurd (Ah ho) (Nat.not_lt.mpr (Ba hC (Gq C)))
 refine⟨I.ok.mod,T.kind,I.ok.glob,I.ok.blt,hC,λy z c h1 h2=>?_,λy h=>?_,λy c h h2=>?_,λ_=>I.ok.hd hc,I.ok.frames,.inl rfl,λb hb=>⟨?_,λy c h=>?_⟩,λb o h=>I.bs b o h,
  Ba I.ok.bsz I.sz,λb o h hb=>?_,λb hb hs=>?_,I.stack,I.stkFree⟩
 .rcases FV h1 with⟨e1,e2⟩|⟨_,e1⟩<;>rcases FV h2 with⟨e3,e4⟩|⟨_,e3⟩
  .rw[e1,e3]
  .rw[e2]at e3;exact absurd (cE z _ e3) (mL z)
  .rw[e4]at e1;exact absurd (cE y _ e1) (mL y)
  .exact I.ok.inj y z c (cE y c e1) (cE z c e3)
 .have h':(relabel scope X.env).names.lookup y=some .cell\/(relabel scope X.env).names.lookup y=some .free:=h
  by_cases hy:y=x
  .subst hy
   exact⟨C+1,by show((y,C+1)::cl).lookup y=_;rw[BI];simp⟩
  .have hm:(y,DN)∈scope.names:=by
    rcases h' with h'|h'
    .rcases ZO h' with q|⟨_,q⟩
     .have:(y,Er)∈scope.names.filter (λy=>y.2==.cell):=B2.mpr ⟨ck q,rfl⟩
      rw[T.one]at this;have:=AR.mp this;injection this with this _
      exact absurd this hy
     .exact ck q
    .rcases ZO h' with q|⟨e,_⟩
     .exact ck q
     .cases e
   obtain⟨c,hc⟩:=GH.mp (eU _ hm rfl);exact⟨c,(Q5 hy).trans hc⟩
 .have hy:y=x:=by simpa using(show(y==x)=true from h)
  subst hy;rcases FV h2 with⟨_,e⟩|⟨e,_⟩
  .rw[e];show s.heap.objs.size<=C+1;omega
  .exact absurd rfl e
 .exact Al (AW (dD b hb) hC)
 .rcases FV h with⟨_,e⟩|⟨_,e⟩
  .rw[e];exact Df (Ff (AW (dD b hb) hC))
  .obtain⟨_,_,_,_,q,_⟩:=hf b hb
   exact q y c (cE y c e)
 .obtain⟨_,_,_,q,_⟩:=hf b hb
  rcases q with q|q
  .exact I.ok.noex b o h q
  .exact absurd (AW (Ah h) (Ba I.ok.bsz q)) (Es _)
 .obtain⟨_,q1,q2,_⟩:=hf b hb
  rcases Ao.mp (I.stkSub b hs)with z|z
  .exact q1 z
  .exact q2 z
theorem Vl{D:Addr}{h1:Heap}(T:EK X N scope x)(cE:∀y c,cl.lookup y=some c->X.env.cells.lookup y=some c)(eU:∀y∈scope.names,y.2=.free->(cl.lookup y.1).isSome=true)(I:Inv X bT Y H s)(hc:X.calm=true)(hf:∀b∈fp,Bq X bT H b)(dD:∀b∈fp,b<s.heap.objs.size)(hD:s.heap.objs.size=D)(hC:D<C)(ns:h1.Ns C (λ_=>none))(hl:h1.get? D=some {cls:=.type "list",data:=.seq #[] 0})(k:∀b o,s.heap.get? b=some o->h1.get? b=some o)(k0:h1.IsCell (C+1) none):Inv (ZW X N scope ((x,C+1)::cl) C s H fp x) [] (Ak 1 none++Y) (upd H D (.lst [])) {s with heap:=h1}:=by
 have hn:H D=none:=I.hok.fresh (Dc hD);have dQ:s.heap.objs.size<=C:=Ba (Dc hD) (CP hC);have fW:H C=none:=I.hok.fresh dQ;have lU:H (C+1)=none:=I.hok.fresh (by omega);refine⟨UH T cE eU I hc hf dD dQ,rfl,I.bare,Un.laid k (Dc hD) hn,⟨_,ns,λi y v e1 e2 e3=>?_⟩,λy c h=>?_,?_,λy c h=>?_,λp hp=>absurd (show p∈([]:List (Addr×Obj)) from hp) (by simp),I.hok.laid k (Dc hD) ⟨CA _,[],0,.nil,hl⟩,?_⟩
 .cases i with
  |zero=>cases e2
  |succ j =>
   have e2:Y[j]?=some (some v):=e2;have e1:N[j+1]?=some y:=e1;have nD:y≠x:=λz=>by subst z;exact absurd ((J6 (AE.mp e1).1 T.nd).mp (e1.trans T.first.symm)) (Nat.succ_ne_zero j)
   have e3':d6 scope y:=by
    have e3:d6 (relabel scope X.env) y:=e3;rcases e3 with q|q|q
    .rcases ZO q with q|⟨z,_⟩
     .exact .inl q
     .cases z
    .rcases ZO q with q|⟨_,q⟩
     .exact .inr (.inl q)
     .exact .inr (.inr q)
    .rcases ZO q with q|⟨z,_⟩
     .exact .inr (.inr q)
     .cases z
   have cK:=T.vis j y e1 e3';have hm:=ck cK;have hN:=T.same j y e1 cK;have eZ:=T.cap _ hm rfl;obtain⟨m,_,hl⟩:=I.loc;obtain⟨u,ru,lu⟩:=hl j y v hN e2 (by
    rcases eZ with q|q
    .exact .inr (.inl q)
    .exact .inr (.inr q))
   refine⟨u,ru,?_⟩;obtain⟨c,fV⟩:=GH.mp (eU _ hm rfl);rcases lu with⟨q,_⟩|⟨_,c',e,z⟩
   .rcases eZ with q'|q'<;>(rw[q']at q;cases q)
   .refine .inr ⟨?_,c,(Q5 nD).trans fV,?_⟩
    .rcases e3 with q|q|q
     .have q:(relabel scope X.env).names.lookup y=some .local:=q
      rcases ZO q with q|⟨z,_⟩
      .rw[cK]at q;cases q
      .cases z
     .exact .inl q
     .exact .inr q
    .rw[cE y c fV]at e
     cases e;obtain⟨o,ho,hd⟩:=z;exact⟨o,k _ _ ho,hd⟩
 .rcases FV h with⟨_,e⟩|⟨_,e⟩
  .subst e
   exact⟨none,k0⟩
  .obtain⟨v,o,ho,hd⟩:=I.cell y c (cE y c e)
   exact⟨v,o,k _ _ ho,hd⟩
 .show upd H D (.lst []) C=none
  rw[Zt (Df hC)];exact fW
 .rcases FV h with⟨_,e⟩|⟨_,e⟩
  .subst e
   rw[Zt (show C+1≠D from Df (Ff hC))];exact lU
  .have hq:=I.freeC y c (cE y c e)
   obtain⟨v,o,ho,_⟩:=I.cell y c (cE y c e);have:c≠D:=Al (by rw[<-hD];exact Ah ho);rw[Zt this];exact hq
 .show(Ak 1 none++Y).length=N.length
  rw[Az,Bh,I.len,T.len,HV]
theorem Wa{it D:Addr}{tn:Nat->Heap->Prop}{pA:It}{tg:Expr}{dh:PyData->Option (List PyData)}{s4:Shared}{r:HM.Env}{ds out:List PyData}{Fs Hs F0 H0 F1:J}{R:Result->Shared->Prop}(I2:Inv X bT Y H1 s2)(W:e9 X.prog X.w X.K tg pA fp it tn)(hf:∀b∈fp,Bq X bT H1 b)(I4:Inv (ZW X N scope cl C s2 H1 fp x) [] (Ak 1 none++Y) (upd H1 D (.lst [])) s4)(ky:tn 0 s4.heap)(hD:s2.heap.objs.size<=D)(dD:∀b∈fp,b<s2.heap.objs.size)(j9:X.calm=true)(hc:gr (ZW X N scope cl C s2 H1 fp x) cT fc)(he:XE (ZW X N scope cl C s2 H1 fp x) c9 fe)(at_:At X.K F0 H0 Fs Hs r Y)(x1:cf Fs Hs F1 H1)(gA:ig X.K pA ds F1)(cR:EM (ZW X N scope cl C s2 H1 fp x) 1 tg dh)(d9:ds.length<HM.big)(go:eV dh fc fe r ds=some out)(hR:∀s',(∃F H vs,Inv (ZW X N scope cl C s2 H1 fp x) [] (Ak 1 none++Y) H s'/\cf Fs Hs F H/\H D=some (.lst vs)/\F D=none/\Zs X.K F out vs)->R (.ok .next) s'):codeAny (model X.prog X.w) X.A (.compLoop (.ListComp c9 [⟨tg,iter,cT,0⟩] scope pos) 0 (.ref it) (.ref D) (E8 scope cl C X.env)) R s4:=by
 have eh:H1 D=none:=I2.hok.fresh hD;have dG:Hs D=none:=x1.hh.free eh;have iO:F1 D=none:=x1.sub.free eh;have iN:∀b∈fp,b≠D:=λb hb=>Al (AW (dD b hb) hD);have ir:=I4.ok;have dF:∀{H:J},(∀b∈fp,H b=none)->∀b∈fp,Bq (ZW X N scope cl C s2 H1 fp x) [] H b:=λhn b hb=>⟨hn b hb,(ir.exf b hb).1,ir.exfs b hb,.inl hb,(ir.exf b hb).2,λp hp=>absurd (show p∈([]:List (Addr×Obj)) from hp) (by simp)⟩;refine Qc (λn s'=>∃(j:Nat) (sv:List (Option V)) (F H:J) (ys:List PyData) (vs:List V) (rest:List PyData),sv.length=1/\Inv (ZW X N scope cl C s2 H1 fp x) [] (sv++Y) H s'/\tn j s'.heap/\(∀b∈fp,H b=none)/\cf Fs Hs F H/\Zo F1 F/\At X.K F0 H0 F H r Y /\
  H D=some (.lst vs)/\F D=none/\Zs X.K F ys vs/\j+n=ds.length/\ys.length<=j/\eV dh fc fe r (ds.drop j)=some rest/\out=ys++rest) ?_ ds.length
  ⟨0,Ak 1 none,F1,_,[],[],out,Bh,I4,ky,λb hb=>by rw[Zt (iN b hb)];exact(hf b hb).1,x1.lay' eh,Zo.refl _,(at_.grow x1).grow ((at_.grow x1).refl.lay' eh),ZA,iO,.nil,by omega,Af _,go,rfl⟩
 rintro n s5 ⟨j,sv,F,H,ys,vs,rest,fD,I5,tn5,hfp5,x5,sF,de,eE,fE,eB,hjn,hyl,cC,hout⟩
 obtain⟨fR,fQ⟩:=gA F H sF de.sub;cases n with
 |zero =>
  have ej:j=ds.length:=by omega
  subst ej;rw[Iz]at cC;cases cC;rw[B1]at hout;subst hout;refine b9 (W.done (ZW X N scope cl C s2 H1 fp x) rfl rfl rfl rfl _ [] s5 _ H No I5 (dF hfp5) tn5 fQ) λrv s6 ⟨e,I6⟩=>?_;subst e;refine hR s6 ⟨F,H,vs,I6.weak (by rw[Az,Az,Bh,fD]) λi v hv=>?_,x5,eE,fE,eB⟩
  by_cases hi:i<1
  .rw[Cd (by rw[Bh];exact hi),Gu,if_pos hi]at hv
   cases hv
  .rw[Ce (by rw[Bh];omega),Bh]at hv
   rw[Ce (by omega),fD];exact hv
 |succ n =>
  have cq:j<ds.length:=by omega
  obtain⟨jg,jy⟩:=fR j ds[j] (AB cq);obtain⟨F2,x5,sF,de,fE,eB,jy⟩:∃F2,cf Fs Hs F2 H/\Zo F1 F2/\At X.K F0 H0 F2 H r Y/\F2 D=none/\Zs X.K F2 ys vs/\∀x H',pA.yld j H x H'->∃F3,cf F2 H F3 H'/\b7 X.K F3 ds[j] x :=
   ⟨Ax F H,x5.tups,sF.trans (BE de.sub),de.grow de.refl.tups,by unfold Ax;rw[eE];exact fE,eB.mono (BE de.sub),jy⟩
  clear fR fQ
  rw[GI cq]at cC;refine b9 (W.item (ZW X N scope cl C s2 H1 fp x) rfl rfl rfl rfl j [] s5 _ H No I5 (dF hfp5) tn5 jg) λrv s6 ⟨u,e,h6⟩=>?_;subst e;refine b9 h6 λ_ s7 ⟨xv,H7,I7,r7,y7,tn7,fr7⟩=>?_;obtain⟨F7,x7,rx⟩:=jy xv H7 y7;obtain⟨F2,x5,sF,de,eE,fE,eB,rx⟩:∃F2,cf Fs Hs F2 H7/\Zo F1 F2/\At X.K F0 H0 F2 H7 r Y/\H7 D=some (.lst vs)/\F2 D=none/\Zs X.K F2 ys vs/\b7 X.K F2 ds[j] xv:=by
   refine⟨F7,x5.trans x7,sF.trans x7.ff,de.grow x7,x7.hh _ _ eE,?_,eB.mono x7.ff,rx⟩;cases q:F7 D with
   |none=>rfl
   |some o =>
    rcases x7.new D o q with z|z
    .rw[fE]at z;cases z
    .exact(z.no eE λ_ q=>by cases q).elim
  have I7':=I7.pinned (dF fr7) (W.obj _ _ tn7);unfold eV at cC;split at cC
  case h_2=>cases cC
  rename_i zs kF;have lj:=cR _ s7 Y sv H7 F2 ds[j] zs xv u fD I7' r7 de.sub rx kF;refine b9 lj λ_ s8 ⟨ws,hws,I8,rws⟩=>?_;have iE:=de.pushes rws;have again:∀{s9:Shared} {F9 H9:J} {zs9:List PyData} {gu:List V} {rest':List PyData},Inv (ZW X N scope cl C s2 H1 fp x) ([]++Fy fp s7.heap) (ws.map some++Y) H9 s9->cf Fs Hs F9 H9->Zo F2 F9->At X.K F0 H0 F9 H9 r Y->H9 D=some (.lst gu)->F9 D=none->Zs X.K F9 zs9 gu->zs9.length<=j+1->eV dh fc fe r (ds.drop (j+1))=some rest'->out=zs9++rest' ->
    ∃m,m<n+1/\∃(j:Nat) (sv:List (Option V)) (F2 H:J) (ys:List PyData) (vs:List V) (rest:List PyData),sv.length=1/\Inv (ZW X N scope cl C s2 H1 fp x) [] (sv++Y) H s9/\tn j s9.heap/\(∀b∈fp,H b=none)/\cf Fs Hs F2 H/\Zo F1 F2/\At X.K F0 H0 F2 H r Y /\
     H D=some (.lst vs)/\F2 D=none/\Zs X.K F2 ys vs/\j+m=ds.length/\ys.length<=j/\eV dh fc fe r (ds.drop j)=some rest/\out=ys++rest:=by
   intro s9 F9 H9 zs9 gu rest' I9 x9 kA a9 h9 f9 r9 l9 g9 o9;refine⟨n,DR n,j+1,ws.map some,F9,H9,zs9,gu,rest',by rw[Ae];exact hws,I9.unpinned,W.keep _ _ _ tn7 λb hb o e=>(I9.pin (b,o) (A1 _ (A1 _ (FU hb e)))).1,λb hb=>?_,x9,sF.trans kA,a9,h9,f9,r9,by omega,l9,g9,o9⟩;obtain⟨o,e,d⟩:=W.obj _ _ tn7 b hb;exact(I9.pin (b,o) (A1 _ (A1 _ (FU hb e)))).2.1
  have je:∀{F' H':J},cf F2 H7 F' H'->F' D=none:=λ{F' H'} y=>by
   cases q:F' D with
   |none=>rfl
   |some o =>
    rcases y.new D o q with z|z
    .rw[fE]at z;cases z
    .exact(z.no eE λ_ q=>by cases q).elim
  split at cC
  .rename_i iC
   split at cC
   .rename_i y hy
    obtain⟨rest',g1,g2⟩:=An.mp cC;subst g2;refine b9 (hc _ _ iC _ s8 _ H7 (λc' H'=>c'=true/\∃F',cf F2 H7 F' H') I8 ⟨F0,H0,F2,iE,λF' H' y=>⟨rfl,F',y⟩⟩) λok s9 ⟨H9,I9,eok,F9,x9⟩=>?_;subst eok;rw[if_pos rfl];refine b9 (he _ _ hy _ s9 _ H9 (λv' H'=>∃F',cf F9 H9 F' H'/\b7 X.K F' y v') I9 ⟨F0,H0,F9,iE.grow x9,λv' F' H' x q=>⟨F',x,q⟩⟩) λu' s10 ⟨v',H10,I10,r10,F10,x10,jc⟩=>?_;have cZ:=x9.trans x10;have hHD':H10 D=some (.lst vs):=cZ.hh _ _ eE;have hFD':=je cZ;refine b9 (Jz (X:=ZW X N scope cl C s2 H1 fp x) _ s10 _ H10 (.ref D) [v'] (.ref D) [u'] (λ_ H'=>H'=upd H10 D (.lst (vs++[v']))) I10 rfl (.cons r10 .nil) ⟨D,vs,v',rfl,rfl,hHD',?_,rfl⟩) λ_ s11 ⟨_,H11,I11,_,e11⟩=>?_
    .have:=eB.1
     exact Jk (by omega)
    subst e11;refine again (zs9:=ys++[y]) I11 ((x5.trans cZ).chg _ dG hFD' λu z=>by rw[hHD']at z;cases z;rfl) cZ.ff ((de.grow cZ).chgNew _ at_ (x5.trans cZ).hh dG hFD' λu z=>by rw[hHD']at z;cases z;rfl) ZA hFD' ((eB.mono cZ.ff).append (.one jc)) (by rw[Az];show ys.length+1<=j+1;omega) g1 (by rw[hout,Cc];rfl)
   .cases cC
  .rename_i iC
   refine b9 (hc _ _ iC _ s8 _ H7 (λc' H'=>c'=false/\∃F',cf F2 H7 F' H') I8 ⟨F0,H0,F2,iE,λF' H' y=>⟨rfl,F',y⟩⟩) λok s9 ⟨H9,I9,eok,F9,x9⟩=>?_;subst eok;rw[if_neg (by simp)];exact again (zs9:=ys) I9 (x5.trans x9) x9.ff (de.grow x9) (x9.hh _ _ eE) (je x9) (eB.mono x9.ff) (by omega) cC hout
  .cases cC
theorem Wx{s':Shared}{sv:List (Option V)}{h':Heap}(I2:Inv X bT Y H1 s2)(hf:∀b∈fp,Bq X bT H1 b)(hC:s2.heap.objs.size<=C)(I:Inv (ZW X N scope cl C s2 H1 fp x) [] (sv++Y) H s')(hs:Cy C s'.heap h'):Inv X bT Y H {s' with heap:=h'}:=by
 have u:Un (fF X.stack) fp H1 H s2.heap s'.heap:=I.base;have fW:H C=none:=I.free;have ne:∀b o,s2.heap.get? b=some o->b≠C:=λb o e=>Al (AW (Ah e) hC);refine I2.call' (s':={s' with heap:=h'}) (ch:=fp) I.os ⟨λb o e n hb hx=>(hs.2 b (ne b o e)).trans (u.keep b o e n hb hx),λb o e n hb hx=>?_,u.free,λb o e hx=>?_,u.tups,u.frzs,u.tbls⟩ (λb o e=>?_) I.bare λb hb=>?_
 .obtain⟨sl,q⟩:=u.slot b o e n hb hx
  exact⟨sl,(hs.2 b (ne b o e)).trans q⟩
 .obtain⟨o',q⟩:=u.there b o e hx
  exact⟨o',(hs.2 b (ne b o e)).trans q⟩
 .refine(I.hok b o e).stay (λc w' hc q=>(hs.2 c ?_).trans q) (λ_ q=>q) λ_ _ q=>q
  rintro rfl
  rcases hc with rfl|hc
  .rw[fW]at e;cases e
  .rw[fW]at hc;cases hc
 .obtain⟨q0,q1,q2,q3,q4,q5⟩:=hf b hb
  exact⟨q3,q1,q4,q5⟩
variable{c9 iter:Expr}{cT:List Expr}{tg:Expr}{pos:Pos}{fi:HM.IF}{dh:PyData->Option (List PyData)}{fc:HM.TF}{fe:HM.EF}
theorem Vh(T:EK X N scope x)(I:Inv X bT Y H s):∀y∈scope.names,y.2=.free->∃c,X.env.cells.lookup y.1=some c:=λy hy e=>I.ok.has y.1 (T.cap y hy e)
theorem Wd(dZ:X.xe=λ_ _=>False)(cD:X.calm=true)(T:EK X N scope x)(cR:∀cl C s H ex,EM (ZW X N scope cl C s H ex x) 1 tg dh)(hi:iZ X tg iter fi)(hc:∀cl C s H ex,gr (ZW X N scope cl C s H ex x) cT fc)(he:∀cl C s H ex,XE (ZW X N scope cl C s H ex x) c9 fe)(hs:∀x,Cz iter X.env x=pure x:=by intro _;rfl):XF X (.ListComp c9 [⟨tg,iter,cT,0⟩] scope pos) (D0 dh fi fc fe):=by
 intro r b h;unfold D0 at h;split at h
 .rename_i ds cI
  split at h
  .rename_i d9
   obtain⟨out,cC,e⟩:=An.mp h;subst e;intro bT s Y H Q I ⟨F0,H0,F,at_,k⟩;obtain⟨cl,eO,cE,eU⟩:=MX (Vh T I);rw[eval_ListComp];refine Kx (use:=none) rfl hs eO T.kind T.names (b9 (hi r ds cI bT s Y H (λpA H'=>∃F',cf F H F' H'/\ig X.K pA ds F') I ⟨F0,H0,F,at_,λpA F' H' x q=>⟨F',x,q⟩⟩) λv s1 h1=>b9 h1 λjj s2 h2=>?_);obtain⟨it,fp,tn,pA,H1,rfl,I2,W,gk,f2,F1,x1,gA⟩:=h2;have dD:∀b∈fp,b<s2.heap.objs.size:=λb hb=>let ⟨o,ho,_⟩:=W.obj 0 _ gk b hb;Ah ho
   refine BO (VD (x:=x) T.one ?_);dsimp only;generalize hP:s2.heap.push {cls:=.type "list",dict:=none,data:=.seq ([]:List Value).toArray}=h0;have hsz:h0.objs.size=s2.heap.objs.size+1:=by rw[<-hP,DP]
   have dQ:s2.heap.objs.size<h0.objs.size:=by rw[hsz];exact DR _
   generalize hP1:(h0.push {cls:=.type "dict",data:=.dict #[]}).push {cls:=.type "cell",data:=.cell none}=h1;have up:∀b o,h0.get? b=some o->h1.get? b=some o:=λb o e=>by rw[<-hP1];exact Ap _ (Ap _ e)
   have eD:∀b o,s2.heap.get? b=some o->h1.get? b=some o:=λb o e=>up b o (by rw[<-hP];exact Ap _ e);have hl:h1.get? s2.heap.objs.size=some {cls:=.type "list",data:=.seq #[] 0}:=up _ _ (by rw[<-hP];exact AA _ rfl);have cW:h1.Ns h0.objs.size (λ_=>none):=by rw[<-hP1];exact(Heap.Ns.new h0 (.type "dict")).keeps λb o e=>Ap _ e
   have k0:h1.IsCell (h0.objs.size+1) none:=by rw[<-hP1];have q:=AA (h0.push {cls:=.type "dict",data:=.dict #[]}) (o:={cls:=.type "cell",data:=.cell none}) rfl;rw[DP]at q;exact⟨_,q,rfl⟩
   have I4:Inv (ZW X N scope ((x,h0.objs.size+1)::cl) h0.objs.size s2 H1 fp x) [] (Ak 1 none++Y) (upd H1 s2.heap.objs.size (.lst [])) {s2 with heap:=h1}:=Vl T cE eU I2 cD f2 dD rfl dQ cW hl eD k0;have gY:tn 0 h1:=W.keep _ _ _ gk λb _ o e=>eD b o e;have dG:H s2.heap.objs.size=none:=x1.hh.free (I2.hok.fresh (Af _));have eI:codeAny (model X.prog X.w) X.A (.compLoop (.ListComp c9 [⟨tg,iter,cT,0⟩] scope pos) 0 (.ref it) (.ref s2.heap.objs.size) (E8 scope ((x,h0.objs.size+1)::cl) h0.objs.size X.env)) (compPost (model X.prog X.w) X.A X.xe none (EP X bT Y Q) (.ref s2.heap.objs.size) h0.objs.size)
     {s2 with heap:=h1}:=by
    refine Wa I2 W f2 I4 gY (Af _) dD cD (hc _ _ _ _ _) (he _ _ _ _ _) at_ x1 gA (cR _ _ _ _ _) d9 cC λs' ⟨F',H',vs,I',x',hD',hFD',rs⟩=>?_;obtain⟨m,hn,_⟩:=id I'.loc;refine⟨m,hn,λh2 dE=>⟨.ref s2.heap.objs.size,H',Wx I2 f2 (CP dQ) I' dE,rfl,k _ F' H' x' ⟨[s2.heap.objs.size],.ol hD' rs,by simp,λa ha=>?_⟩⟩⟩;obtain rfl:a=s2.heap.objs.size:=by simpa using ha
    exact⟨hFD',dG⟩
   exact Ks eI (W.self _ 0 _ _ _ gY eI)
  .cases h
 .cases h
theorem UL(T:EK X N scope x)(cl:List (Str×Addr))(C:Addr)(s₀:Shared)(H₀:J)(ex:List Addr):EM (ZW X N scope cl C s₀ H₀ ex x) 1 (.Name x px) IS:=by
 intro bT s Y sv H F d ys xv u fD I r sub q hd;cases hd;refine b9 (CF (X:=ZW X N scope cl C s₀ H₀ ex x) (i:=0) T.nd T.first (.inr (af T.loc)) (.inl (by show(x==x)=true;simp)) _ s _ H xv u (λσ' H'=>σ'=(sv++Y).set 0 (some xv)/\H'=H) I r ⟨rfl,rfl⟩) λ_ s' ⟨σ',H',I',e1,e2⟩=>?_
 subst e1 e2;refine⟨[xv],rfl,?_,.one q⟩;cases sv with
 |nil=>simp at fD
 |cons a sv=>cases sv with
  |nil=>exact I'
  |cons _ _=>simp at fD
end
def OO(eN:Str->Option NameKind)(XN N:List Str)(names:List (Str×NameKind))(x:Str):Bool :=
 names.filter (λy=>y.2==.cell)==[(x,.cell)]&&names.all (λy=>y.2 != .local||names.lookup y.1==some .local)&&names.lookup x==some .cell&&names.all (λy=>y.2 != .free||y.1 != x)&&N[0]?==some x&&decide N.Nodup&&N.length==XN.length+1 &&
 names.all (λy=>y.2 != .free||eN y.1==some .cell||eN y.1==some .free) &&
 (Ab (N.length-1)).all (λi=>match N[i+1]? with
  |some y=>(names.lookup y != some .free||XN[i]?==some y)&&(names.lookup y==some .free||(names.lookup y != some .local&&names.lookup y != some .cell))
  |none=>true)
theorem W9{XN:List Str}{sc:Scope}(hs:X.env.scope=sc:=by rfl)(hN:X.N=XN:=by rfl)(hk:scope.kind=.function:=by rfl)(h:OO (λy=>sc.names.lookup y) XN N scope.names x=true:=by decide +kernel):EK X N scope x:=by
 subst hN;unfold OO at h;simp only[Bw,B3,DX,bne_iff_ne,beq_iff_eq,decide_eq_true_eq]at h;obtain⟨⟨⟨⟨⟨⟨⟨⟨h1,h2⟩,h3⟩,h4⟩,h5⟩,h6⟩,h7⟩,h8⟩,h9⟩:=h;have at_:∀(i:Nat) (y:Str),N[i+1]?=some y->(scope.names.lookup y≠some .free\/X.N[i]?=some y)/\(scope.names.lookup y=some .free\/(scope.names.lookup y≠some .local/\scope.names.lookup y≠some .cell)):=λi y e=>by have hi:i+1<N.length:=(AE.mp e).1;have:=h9 i (As.mpr (by omega));rw[e]at this;simpa only[Bw,DX,bne_iff_ne,beq_iff_eq]using this
 refine⟨hk,h1,λy hy e=>(h2 y hy).resolve_left (λz=>z e),h3,λy hy e=>(h4 y hy).resolve_left (λz=>z e),h5,h6,h7,λy hy e=>?_,λi y e q=>(at_ i y e).1.resolve_left (λz=>z q),λi y e v=>?_⟩
 .unfold Env.kindOf
  rw[hs];rcases h8 y hy with(z|z)|z
  .exact absurd e z
  .exact .inl z
  .exact .inr z
 .rcases(at_ i y e).2 with z|⟨z1,z2⟩
  .exact z
  .rcases v with v|v|v
   .exact absurd v z1
   .exact absurd v z2
   .exact v
theorem VR{fi:HM.IF}(dZ:X.xe=λ_ _=>False)(cD:X.calm=true)(T:EK X N scope x)(hi:XI X (.Name x px) iter fi)(hc:∀cl C s H ex,gr (ZW X N scope cl C s H ex x) cT fc)(he:∀cl C s H ex,XE (ZW X N scope cl C s H ex x) c9 fe)(hs:∀x,Cz iter X.env x=pure x:=by intro _;rfl):XF X (.ListComp c9 [⟨.Name x px,iter,cT,0⟩] scope pos) (HM.Zp fi fc fe):=by
 rw[LA];exact Wd dZ cD T (λcl C s H ex=>UL T cl C s H ex) hi.e hc he hs
end
section
variable{F:J}{jF:List Expr}{ds:List PyData}{kt:Nat}{K:Ad}
theorem VN{v:V}(r:b7 K F (.list ds) v):∃l vs,v=.ref l/\cF K F l vs/\Zs K F ds vs:=by
 cases r with
 |lst h1 h2 h3=>exact⟨_,_,rfl,h1,h2,h3⟩
def NX(K:Ad)(a:Addr):It :=
 ⟨λi H=>∃xs x,cF K H a xs/\xs[i]?=some x,λi H y H'=>∃T x,H T=none/\y=.ref T/\(∀xs,cF K H a xs->xs[i]?=some x)/\H'=upd H T (.tup [.int (i:Int),x]),λi H=>∃xs,cF K H a xs/\xs.length=i⟩
omit [FX]in
theorem WZ{P:Program}{w:World}{pt:Pos}(a e it:Addr)(kZ:e≠it):e9 P w K (.Tuple jF kt pt) (NX K a) [e,it] e (λi h=>(∃eD,IsEnum h e it (i:Int) eD)/\h.IsListIter it a i) where
 mem:=by simp
 obj:=λi h st b hb=>by
  rcases Ao.mp hb with rfl|hb
  .obtain⟨⟨eD,he⟩,_⟩:=st;exact⟨_,he,λv z=>by cases z⟩
  .rw[AR.mp hb];obtain⟨_,o,ho,hc,hd⟩:=st;exact⟨o,ho,λv z=>by rw[hd]at z;cases z⟩
 keep:=λi h h' ⟨⟨eD,he⟩,o,ho,r⟩ k=>⟨⟨eD,k e (by simp) _ he⟩,o,k it (by simp) o ho,r⟩
 item:=by
  intro X hP hw hK hc i bT s Y H E I hf st hg;subst hP hw hK;obtain⟨⟨eD,he⟩,cQ⟩:=st;obtain⟨xs,x,hq,hx⟩:=hg;obtain⟨its,rv,p,hz⟩:=I.list hq;obtain⟨u,hu,ru⟩:=rv.get hx;have hp:s.heap.IsList a its.toArray:=let ⟨o,n,e1,e2,_,e3⟩:=p;⟨o,e1,e2,n,e3⟩
  have k9:a≠it:=by
   rintro rfl
   obtain⟨o,ho,cE,_⟩:=cQ;obtain⟨o2,eP,eY,_⟩:=hp;rw[ho]at eP;cases eP;rw[cE]at eY;exact absurd eY (by decide)
  have oD:e≠a:=by
   rintro rfl
   obtain⟨o2,eP,eY,_⟩:=hp;rw[he]at eP;cases eP;exact absurd (show Dh "enumerate"=Dh "list" from eY) (by decide)
  have D:=Draws.list (prog:=X.prog) (w:=X.w) (A:=X.A.in1) (I.ok.hd hc) it a k9 its.toArray;have cq:i<its.length:=(AE.mp hu).1;have iA:e<s.heap.objs.size:=Ah he;have jq:it<s.heap.objs.size:=by obtain⟨o,ho,_⟩:=cQ;exact Ah ho
  refine wpAny_pyNext_enum_itemD D he ⟨cQ,hp⟩ (by simpa using cq) kZ (by simp[kZ,oD]) λy h' tk hP ho hs' hT hsz hk=>⟨_,rfl,wpAny_letOwnedTupleGo_enum ho λh2 oi dE=>?_⟩;have ey:y=u:=by
   have:its.toArray[i]?=some u:=by simpa using hu
   rw[this]at hP;exact(Bl hP).symm
  subst ey;have hn:H s.heap.objs.size=none:=I.hok.fresh (Af _);have IL:Inv X bT Y (upd H s.heap.objs.size (.tup [.int (i:Int),x])) {s with heap:=s.heap.push {cls:=.type "tuple",data:=.seq #[.int i tk,y]},toks:=s.toks}:=I.laid (λb ob q=>Ap _ q) (Af _) ⟨by show 2<=sizeLine;decide,[.int i tk,y],.cons ⟨tk,rfl⟩ (.cons ru .nil),HS _ _⟩;have I2:Inv X bT Y (upd H s.heap.objs.size (.tup [.int (i:Int),x])) {s with heap:=h2,toks:=tk+1}:=Qu (s:={s with heap:=s.heap.push {cls:=.type "tuple",data:=.seq #[.int i tk,y]},toks:=s.toks}) (fp:=[e,it]) IL (λb o hb q=>by
   have h1:b≠e:=λz=>hb (by simp[z]);have h3:b≠it:=λz=>hb (by simp[z]);show h2.get? b=some o;rw[dE.2 b h1]
   by_cases eb:b=s.heap.objs.size
   .subst eb
    have:(s.heap.push {cls:=.type "tuple",data:=.seq #[.int i tk,y]}).get? s.heap.objs.size=some {cls:=.type "tuple",data:=.seq #[.int i tk,y]}:=AA _ rfl;rw[show(some o:Option Obj)=_ from q.symm.trans this];exact hT
   .exact hk b o h1 h3 (by rw[<-GA _ _ _ eb];exact q)) λb hb=>by
    obtain⟨f0,f1,f2,f3,f4,f5⟩:=hf b hb;refine⟨?_,f1,f2,f3,f4,f5⟩;rw[Zt]
    .exact f0
    .rcases Ao.mp hb with rfl|hb
     .exact Al iA
     .rw[AR.mp hb];exact Al jq
  refine⟨.ref s.heap.objs.size,_,I2,rfl,⟨_,x,hn,rfl,λys hy=>by rw[I.list_inj hy hq];exact hx,rfl⟩,⟨⟨_,by simpa using oi⟩,?_⟩,λb hb=>?_⟩
  .obtain⟨⟨o,ho',r⟩,_⟩:=hs'
   exact⟨o,(dE.2 it kZ.symm).trans ho',r⟩
  .rw[Zt]
   .exact(hf b hb).1
   .rcases Ao.mp hb with rfl|hb
    .exact Al iA
    .rw[AR.mp hb];exact Al jq
 done:=by
  intro X hP hw hK hc i bT s Y H E I hf st hg;subst hP hw hK;obtain⟨⟨eD,he⟩,cQ⟩:=st;obtain⟨xs,hq,hx⟩:=hg;obtain⟨its,rv,p,hz⟩:=I.list hq;have hp:s.heap.IsList a its.toArray:=let ⟨o,n,e1,e2,_,e3⟩:=p;⟨o,e1,e2,n,e3⟩
  have hl:=rv.length;have k9:a≠it:=by
   rintro rfl
   obtain⟨o,ho,cE,_⟩:=cQ;obtain⟨o2,eP,eY,_⟩:=hp;rw[ho]at eP;cases eP;rw[cE]at eY;exact absurd eY (by decide)
  have D:=Draws.list (prog:=X.prog) (w:=X.w) (A:=X.A.in1) (I.ok.hd hc) it a k9 its.toArray;have en:i=its.toArray.size:=by simp;omega
  subst en;exact wpAny_pyNext_enum_endD D he ⟨cQ,hp⟩ λh' eb=>⟨rfl,Qu (t':=s.toks) (fp:=[e,it]) I (λb o hb q=>eb b o (λz=>hb (by simp[z])) q) hf⟩
 self:=λ_ _ _ _ _ ⟨⟨_,he⟩,_⟩ h=>wpAny_pyIter_enum he h
theorem Vp{a:Addr}{vs:List V}(h:cF K F a vs)(r:Zs K F ds vs):ig K (NX K a) (HM.Hd 0 ds) F:=by
 intro F' H s1 s2;have hq:cF K H a vs:=(s1.trans s2).seq h;refine⟨λi d hd=>?_,vs,hq,by rw[Pe,r.1]⟩;obtain⟨x,hx,rfl⟩:=OW ds 0 i d hd;obtain⟨v,h1,h2⟩:=r.get hx;refine⟨⟨vs,v,hq,h1⟩,λy H' ⟨T,z,hn,ey,hz,eH⟩=>?_⟩;subst ey eH;have:=hz vs hq;rw[h1]at this;cases this;have hs:=(cf.refl s2).tups.sub;refine⟨_,(cf.refl hs).lay hn,.tup ZA rfl ?_⟩;have hT:Ax F' H T=none:=hs.free hn;have hr:Zs K (upd (Ax F' H) T (.tup [.int (i:Int),v])) [.int ((0+i:Nat):Int),x] [.int (i:Int),v]:=by rw[Nat.zero_add];exact .cons (.int _) (.one ((h2.mono (s1.trans (BE s2))).mono (Zo.upd' hT)))
 exact hr.2
theorem VQ{X:Cx}{a:Expr}{f:HM.EF}{p pos:Pos}{pt:Pos}(hm:X.mg "enumerate"=none)(ha:XE X a f)(hg:Gl X "enumerate":=by rfl)(hs:Ag [a] X.env=[(false,eval a X.env)]:=by rfl):iZ X (.Tuple jF kt pt) (.Call (.Name "enumerate" p) [a] [] pos) (HM.QF f):=by
 intro r ds h;unfold HM.QF at h;split at h
 .rename_i xs hx
  cases h;intro bT s Y H R I ⟨F0,H0,F,at_,k⟩;have nG:=Zc ha (Zh (X:=X)) hs;refine Call_ (G6 I hg hm boot_enumerate (KO (b9 (nG.pa r [.list xs] (by show(match f r with|some x=>_|none=>_)=_;rw[hx];rfl) pos bT s Y H (λvs H1=>∃F1,cf F H F1 H1/\Zs X.K F1 [.list xs] vs) I ⟨F0,H0,F,at_,λvs F' H' x q=>⟨F',x,q⟩⟩) λus s1 ⟨vs,H1,I1,r1,F1,x1,q1⟩=>?_) hs rfl));obtain⟨v,rfl,rv⟩:∃v,vs=[v]/\b7 X.K F1 (.list xs) v:=by
   obtain⟨e,hh⟩:=q1
   match vs,e with
   |[v],_=>exact⟨v,rfl,hh 0 _ v rfl rfl⟩
  obtain⟨l,ws,rfl,hq,rs⟩:=VN rv;obtain⟨u,rfl,ru⟩:=vals1 r1;cases ru;obtain⟨its,_,nk,_⟩:=I1.list (x1.sub.seq hq);refine call_enumerate_list (items:=its.toArray) (let ⟨o,n,e1,e2,_,e3⟩:=nk;⟨o,e1,e2,n,e3⟩) λh' he hi hsz hk=>wpAny_pyIter_enum he ?_;refine⟨_,[s1.heap.objs.size+1,s1.heap.objs.size],_,_,H1,rfl,I1.kept (t':=s1.toks) hk,WZ l _ _ (Nat.succ_ne_self _),⟨⟨_,he⟩,hi⟩,λb hb=>?_,k _ F1 H1 x1 (Vp hq rs)⟩;rcases Ao.mp hb with rfl|hb
  .exact I1.fpOk (Gq _) (I1.hok.fresh (Gq _))
  .rw[AR.mp hb];exact I1.fpOk (Af _) (I1.hok.fresh (Af _))
 .cases h
section
variable{X:Cx}{c e:Expr}{fa:HM.EF}{t:HM.TF}{g:HM.SF}{pos:Pos}{body:List Stmt}
theorem VP(i j:Nat){x y:Str}{px py pt:Pos}{iter:Expr}{fi:HM.IF}(hN:X.N.Nodup)(dZ:X.xe=λ_ _=>False)(hc:X.calm=true)(hi:iZ X (.Tuple [.Name x px,.Name y py] kt pt) iter fi)(hb:fP X body g)(kU:X.N[i]?=some x:=by rfl)(n0:X.N[j]?=some y:=by rfl)(hx:Loc X.env.scope x:=by first|exact AJ rfl|exact Ar rfl)(hy:Loc X.env.scope y:=by first|exact AJ rfl|exact Ar rfl)(hf:X.fn x=true\/X.env.scope.names.lookup x=some .local:=by first|exact .inl rfl|exact .inr rfl)(oh:X.fn y=true\/X.env.scope.names.lookup y=some .local:=by first|exact .inl rfl|exact .inr rfl)(h1:(BQ [.Name x px,.Name y py] X.env).length=2:=by rfl)(h2:(BQ [.Name x px,.Name y py] X.env).findIdx? (·.1)=none:=by rfl)(hs:∀x,Cz iter X.env x=pure x:=by intro _;rfl):XS X (.For (.Tuple [.Name x px,.Name y py] kt pt) iter body [] pos) (HM.PY i j fi g):=by
 intro r o ho;unfold HM.PY at ho;split at ho
 .rename_i ds cI
  split at ho
  .rename_i d9
   have pb:dz X body (λE Y H=>∃r o,g r=some o/\iS X.K r o E Y H):=λbT s Y H E I ⟨r,o,h1,h2⟩=>hb r o h1 bT s Y H E I h2;refine PS.imp (Lf (Jx dZ) hc (hi r ds cI) (Ub hc hN kU n0 hx hy hf oh h1 h2) pb hs) λE Y H ⟨F0,H0,F,at_,k⟩=>?_;refine⟨F0,H0,F,at_,λpA F1 H1 x1 it=>?_⟩;refine⟨λn m Y H=>∃F r,At X.K F0 H0 F H r Y/\Zo F1 F/\n+m=ds.length/\HM.FH i j g (ds.drop n) r=some o,⟨ds.length,F1,r,at_.grow x1,Zo.refl _,by omega,ho⟩,?_⟩
   rintro n m Y H ⟨F2,r2,di,s2,hn,go⟩
   obtain⟨fR,fQ⟩:=it F2 H s2 di.sub;cases m with
   |zero =>
    have e:n=ds.length:=by omega
    subst e;rw[Iz]at go;cases go;exact .inl ⟨fQ,k Y F2 H di⟩
   |succ m =>
    have cq:n<ds.length:=by omega
    rw[GI cq]at go;obtain⟨j1,j2⟩:=fR n ds[n] (AB cq);refine .inr ⟨j1,λσ' H'=>∃F r,At X.K F0 H0 F H' r σ'/\Zo F1 F/\HM.FH i j g (ds.drop (n+1)) r=some o,λσ' H' ⟨F,r,a1,a2,a3⟩=>⟨m,by omega,F,r,a1,a2,by omega,a3⟩,λy H' hy=>?_⟩;obtain⟨F4,x4,ry⟩:=j2 y H' hy;obtain⟨F3,cU,s3,ry⟩:∃F3,At X.K F0 H0 F3 H' r2 Y/\Zo F1 F3/\b7 X.K F3 ds[n] y:=⟨_,(di.grow di.refl.tups).grow x4,(s2.trans (BE di.sub)).trans x4.ff,ry⟩;have jl:∃d1 d2,ds[n]=.tuple [d1,d2]:=by
     unfold HM.FH at go;split at go
     .cases ‹_=[]›
     .rename_i d1 d2 q hq
      injection hq with hq _
      exact⟨d1,d2,hq⟩
     .cases go
    obtain⟨d1,d2,jl⟩:=jl;rw[jl]at ry go;obtain⟨pa,v1,v2,e7,kM,nc,m9⟩:=L1 ry;subst e7;have a3:=(cU.set (i:=i) nc).set (i:=j) m9;have a4:=a3.rebase;refine⟨pa,[v1,v2],rfl,.of (cU.sub _ _ kM),rfl,v1,[v2],rfl,v2,[],rfl,rfl,?_⟩;dsimp only[HM.FH]at go;split at go
    .rename_i r' hr
     exact⟨_,_,hr,F3,H0,F3,a4,λσ' F' H' a'=>⟨F',r',a'.unbase cU.ext cU.nt0,s3.trans a'.ext.ff,go⟩⟩
    .rename_i r' hr
     exact⟨_,_,hr,F3,H0,F3,a4,λσ' F' H' a'=>⟨F',r',a'.unbase cU.ext cU.nt0,s3.trans a'.ext.ff,go⟩⟩
    .rename_i r' hr
     cases go;exact⟨_,_,hr,F3,H0,F3,a4,λσ' F' H' a'=>k σ' F' H' (a'.unbase cU.ext cU.nt0)⟩
    .rename_i d hr
     cases go;exact⟨_,_,hr,F3,H0,F3,a4,λv F' H' x q=>k v F' H' (cU.ext.unbase x) q⟩
    .cases go
  .cases ho
 .cases ho
end
end
end HP
namespace HM
open PySem
variable{n:Nat}
theorem Hu{α:Type}{c:TF}{e:EF}{r:Env}(g:α->D)(p:α->Bool)(f:α->D):∀(xs:List α),(∀x∈xs,c (some (.pl (g x))::r)=some (p x))->(∀x∈xs,p x=true->e (some (.pl (g x))::r)=some (f x))->Z4 c e r (xs.map g)=some ((xs.filter p).map f)
 |[],_,_=>rfl
 |x::xs,h1,h2=>by
  have ih:=Hu g p f xs (λy hy=>h1 y (Av _ hy)) (λy hy=>h2 y (Av _ hy));have hc:=h1 x (Au ..);rw[Am];unfold Z4;rw[hc];cases hp:p x with
  |true=>have he:=h2 x (Au ..) hp;dsimp only;rw[he];dsimp only;rw[ih,List.filter_cons_of_pos hp];rfl
  |false=>dsimp only;rw[ih,List.filter_cons_of_neg (by simp[hp])]
theorem Z9{α:Type}{e:EF}{r:Env}(g:α->D)(f:α->D)(xs:List α)(h:∀x∈xs,e (some (.pl (g x))::r)=some (f x)):Z4 Zw e r (xs.map g)=some (xs.map f):=by rw[Hu g (λ_=>true) f xs (λ_ _=>rfl) λx hx _=>h x hx,List.filter_eq_self.mpr λ_ _=>rfl]
theorem D6{α:Type}{i:Nat}{body:SF}(g:α->D)(P:List α->Env->Prop)(xs:List α)(r:Env)(h0:P [] r)(hs:∀pre x post r,xs=pre++x::post->P pre r->∃r',body (r.set i (some (.pl (g x))))=some (.nx r')/\P (pre++[x]) r'):∃r',BN i body (xs.map g) r=some (.nx r')/\P xs r':=by
 have key:∀(post pre:List α) (r:Env),xs=pre++post->P pre r->∃r',BN i body (post.map g) r=some (.nx r')/\P xs r':=by
  intro post
  induction post with
  |nil=>intro pre r e h;rw[B1]at e;subst e;exact⟨r,rfl,h⟩
  |cons x post ih=>intro pre r e h;obtain⟨r1,h1,h2⟩:=hs pre x post r e h;obtain⟨r2,h3,h4⟩:=ih (pre++[x]) r1 (by rw[e,Cc];rfl) h2;refine⟨r2,?_,h4⟩;rw[Am];unfold BN;rw[h1];exact h3
 exact key xs [] r rfl h0
abbrev dI(i:Int):D:=AM i
abbrev dN(k:Nat):D:=AM (k:Int)
theorem P4(ns:List Int):el ns=ns.map dI:=rfl
theorem Z0(n:Nat):FT 0 n=(Ab n).map dN:=by unfold FT;refine Dp λk _=>?_;show AM (0+(k:Int))=AM (k:Int);rw[Int.zero_add]
theorem CI(ns:List Int):BC (ns.map dI)=some ns:=by
 induction ns with
 |nil=>rfl
 |cons n ns ih=>show(BC (ns.map dI)).map (n::·)=_;rw[ih];rfl
theorem PZ(bs:List Bool):FD (bs.map λb=>Gp b)=some bs:=by
 induction bs with
 |nil=>rfl
 |cons b bs ih=>show(FD (bs.map λb=>Gp b)).map (b::·)=_;rw[ih];rfl
abbrev bV(ns:List Int):D:=CN (ns.map dI)
theorem C2{ds:List D}{j:Nat}{d:D}(h:ds[j]?=some d):eR ds (j:Int)=some d:=by have hj:j<ds.length:=(AE.mp h).1;unfold eR fK;rw[if_pos (by omega),if_pos (by omega)];simpa using h
@[simp] theorem ak(d:D)(r:List D):eR (d::r) 0=some d:=C2 (j:=0) rfl
@[simp] theorem ai(a d:D)(r:List D):eR (a::d::r) 1=some d:=C2 (j:=1) rfl
@[simp] theorem ao(a b d:D)(r:List D):eR (a::b::d::r) 2=some d:=C2 (j:=2) rfl
@[simp] theorem aj(a b c d:D)(r:List D):eR (a::b::c::d::r) 3=some d:=C2 (j:=3) rfl
@[simp] theorem ah(a b c e d:D)(r:List D):eR (a::b::c::e::d::r) 4=some d:=C2 (j:=4) rfl
theorem au(i j:Int)(h:(ZL i||ZL j)=true):Bc (.int i) (.int j)=some (.int (i*j)):=by show(if ZL i||ZL j then some (AM (i*j))else none)=_;rw[if_pos h]
@[simp] theorem ar:ZL 7=true:=rfl
@[simp] theorem aP:ZL 11=true:=rfl
@[simp] theorem aM:ZL 13=true:=rfl
@[simp] theorem aD:ZL 17=true:=rfl
@[simp] theorem aB:ZL 19=true:=rfl
@[simp] theorem aA:ZL 23=true:=rfl
@[simp] theorem aE:ZL 29=true:=rfl
@[simp] theorem aL:ZL 31=true:=rfl
@[simp] theorem aF:ZL 37=true:=rfl
@[simp] theorem aG:ZL 41=true:=rfl
@[simp] theorem aK:ZL 43=true:=rfl
@[simp] theorem aO:ZL 47=true:=rfl
@[simp] theorem aC:ZL 53=true:=rfl
@[simp] theorem aI:ZL 59=true:=rfl
@[simp] theorem aJ:ZL 61=true:=rfl
@[simp] theorem aN:ZL 67=true:=rfl
@[simp] theorem aH:ZL 71=true:=rfl
@[simp] theorem az:ZL 73=true:=rfl
@[simp] theorem aT:ZL 48271=true:=rfl
@[simp] theorem aR:ZL 2=true:=rfl
@[simp] theorem av:ZL 3=true:=rfl
@[simp] theorem aQ:ZL 5=true:=rfl
theorem Mj{i:Int}(h1:-1000000000<i)(h2:i<1000000000):ZL i=true:=by
 unfold ZL;have:i.natAbs<18446744073709551616:=by omega
 exact Ei.mpr this
theorem DE(h:n<1000000):fC (n:Int)=true:=Ei.mpr (by omega)
@[simp] theorem ay(i:Int):DD (.int i)=true:=rfl
@[simp] theorem aW(i:Bool):DD (.bool i)=true:=rfl
@[simp] theorem aX:DD .none=true:=rfl
@[simp] theorem aq(i j:Int):Fd (.int i) (.int j)=(i==j):=rfl
structure Wk where
 many:Nat
 deeds:List (List (List Int))
 looks:List (List Int)
 beg:List Int
 goal:List Int
def Zg(dd:List (List Int)):D:=.tuple (dd.map bV)
def Wk.d(w:Wk):D:=.tuple [.int w.many,.tuple (w.deeds.map Zg),.tuple (w.looks.map bV),bV w.beg,bV w.goal]
def Cr(n:Nat)(c:List Int):Prop:=c.Pairwise (· < ·)/\∀x∈c,0<=x/\x<(n:Int)
structure Wk.Ok(w:Wk):Prop where
 m1:2<=w.many
 m2:w.many<=5
 d1:1<=w.deeds.length
 d2:w.deeds.length<=3
 dl:∀dd∈w.deeds,dd.length=w.many
 dc:∀dd∈w.deeds,∀c∈dd,Cr w.many c
 l2:w.looks.length<=3
 ll:∀l∈w.looks,l.length=w.many
 lc:∀l∈w.looks,∀x∈l,0<=x/\x<=9
 b1:w.beg≠[]
 bc:Cr w.many w.beg
 g1:w.goal≠[]
 gc:Cr w.many w.goal
theorem Cr.len:∀{c:List Int},Cr n c->c.length<=n:=by
 have key:∀(c:List Int) (l:Int),c.Pairwise (· < ·)->(∀x∈c,l<=x/\x<(n:Int))->(c.length:Int)<=max 0 ((n:Int)-l):=by
  intro c
  induction c with
  |nil=>intro l _ _;simp;omega
  |cons x c ih=>intro l hp hb;have h1:=hb x (Au ..);have h2:=ih (x+1) (B4.mp hp).2 λy hy=>⟨by have:=(B4.mp hp).1 y hy;omega,(hb y (Av _ hy)).2⟩;rw[A2];omega
 intro c h;have:=key c 0 h.1 h.2;omega
theorem sortI_perm(ns:List Int):(sortI ns).Perm ns:=Kz ns _
theorem O7(ns:List Int):(sortI ns).Pairwise (·<=·):=by have h:=Ku (le:=λa b:Int=>decide (a<=b)) (λa b c h1 h2=>by simp at *;omega) (λa b=>by simp;omega) ns;exact h.imp λh=>by simpa using h
theorem Ml:∀{ns:List Int},ns.Pairwise (·<=·)->ns.Nodup->ns.Pairwise (· < ·)
 |[],_,_=>.nil
 |n::ns,h,hn=>by obtain⟨h1,h2⟩:=B4.mp h;obtain⟨n1,n2⟩:=Fp.mp hn;refine B4.mpr ⟨λx hx=>?_,Ml h2 n2⟩;have:=h1 x hx;have:n≠x:=λe=>n1 (e▸hx);omega
theorem LV{ns:List Int}(hn:ns.Nodup)(hb:∀x∈ns,0<=x/\x<(n:Int)):Cr n (sortI ns) :=
 ⟨Ml (O7 ns) ((sortI_perm ns).nodup_iff.mpr hn),λx hx=>hb x ((sortI_perm ns).mem_iff.mp hx)⟩
theorem P0(ns:List Int)(h:ns.length<64):Hv (ns.map dI)=some ((sortI ns).map dI):=by unfold Hv;rw[if_pos (by rw[Ae];exact h),CI];rfl
theorem Jy:∀(ns acc:List Int) (x:Int),x∈cY acc ns↔x∈acc\/x∈ns
 |[],acc,x=>by simp[cY]
 |n::ns,acc,x=>by
  unfold cY;split
  .rename_i h
   have h':n∈acc:=by simpa using h
   rw[Jy ns acc x]
   constructor
   .rintro (h|h)
    .exact .inl h
    .exact .inr (Av _ h)
   .rintro (h|h)
    .exact .inl h
    .rcases Ao.mp h with e|e
     .exact .inl (e▸h')
     .exact .inr e
  .rw[Jy ns _ x,Bk,AR,Ao]
   constructor
   .rintro ((h|h)|h)
    .exact .inl h
    .exact .inr (.inl h)
    .exact .inr (.inr h)
   .rintro (h|h|h)
    .exact .inl (.inl h)
    .exact .inl (.inr h)
    .exact .inr h
theorem JQ:∀(ns acc:List Int),acc.Nodup->(cY acc ns).Nodup
 |[],acc,h=>h
 |n::ns,acc,h=>by
  unfold cY;split
  .exact JQ ns acc h
  .rename_i hc
   have hc':n∉acc:=by simpa using hc
   refine JQ ns _ ?_;rw[Ig];exact⟨h,by simp,λa ha b hb=>by simp at hb;subst hb;exact λe=>hc' (e▸ha)⟩
end HM
namespace HG
open PySem HM
def QS:SF :=
 (Zv (dS (i9 (tV (Jr (S 0) .bool)) (CW (tV (Jr (S 0) .int)))) (ZT (eC (.bool false))) Bv)
  (ZT (QI kg kg (S 1) (S 0) (S 2))))
def DJ:List D->Option D:=fnOf 3 3 QS
def Qj:SF :=
 (ZT (CB (Jr (S 0) .tuple) (QI kg kg (S 1) (B6 (Zm 0)) (S 2))))
def Ca:List D->Option D:=fnOf 3 3 Qj
def Z2:SF :=
 (Zv (dS (CW (tV (Ze DJ (O (S 3) (O (S 2) (O (bZ GX (S 1) (eC (.int 1))) Zf)))))) (ZT (eC (.bool false))) Bv)
  (ZS 2 (bZ Ay (S 3) (eC (.int 1)))))
def JD:SF :=
 (Zv (dS (CW (tV (Jr (S 0) .tuple))) (ZT (eC (.bool false))) Bv)
  (Zv (ZS 2 (eC (.int 0)))
  (Zv (CV 3 (ZF (cu (S 0))) Z2)
  (ZT (eC (.bool true))))))
def Z3:List D->Option D:=fnOf 2 4 JD
def MM:SF :=
 (ZT (CB (Ze Ca (O (S 0) (O (S 1) (O (S 1) Zf)))) (Jc (Zp (ZF (cu (S 0))) Zw (Ze Z3 (O (S 0) (O (S 2) Zf)))))))
def EX:List D->Option D:=fnOf 2 2 MM
def ML:SF :=
 (ZT (CB (Ze Ca (O (S 0) (O (S 1) (O (S 1) Zf)))) (Jc (Zp (ZF (cu (S 0))) Zw (Ze DJ (O (S 0) (O (eC (.int 0)) (O (eC (.int 9)) Zf))))))))
def EW:List D->Option D:=fnOf 2 2 ML
def QR:SF :=
 (ZT (CB (Ze Ca (O (S 0) (O (eC (.int 1)) (O (eC (.int 5)) Zf)))) (Jc (Zp (ZF (cu (S 0))) Zw (Ze EX (O (S 0) (O (S 2) Zf)))))))
def HK:List D->Option D:=fnOf 2 2 QR
def QQ:SF :=
 (ZT (CB (Ze Ca (O (S 0) (O (eC (.int 0)) (O (eC (.int 4)) Zf)))) (Jc (Zp (ZF (cu (S 0))) Zw (Ze EW (O (S 0) (O (S 2) Zf)))))))
def HJ:List D->Option D:=fnOf 2 2 QQ
def Q0:SF :=
 (ZT (CB (Ze Z3 (O (S 0) (O (S 1) Zf))) (bZ jx (B6 (Zm 0)) (eC (.int 0)))))
def Hy:List D->Option D:=fnOf 2 2 Q0
def QP:SF :=
 (Zv (dS (i9 (CW (tV (Ze Ca (O (S 0) (O (eC (.int 5)) (O (eC (.int 5)) Zf)))))) (CW (tV (Ze DJ (O (b0 (Zm 0) (eC (.int 0))) (O (eC (.int 1)) (O (eC (.int 8)) Zf))))))) (ZT (eC (.bool false))) Bv)
  (Zv (ZS 1 (b0 (Zm 0) (eC (.int 0))))
  (Zv (dS (i9 (CW (tV (Ze HK (O (b0 (Zm 0) (eC (.int 1))) (O (S 1) Zf))))) (CW (tV (Ze HJ (O (b0 (Zm 0) (eC (.int 2))) (O (S 1) Zf)))))) (ZT (eC (.bool false))) Bv)
  (ZT (CB (Ze Hy (O (b0 (Zm 0) (eC (.int 3))) (O (S 1) Zf))) (Ze Z3 (O (b0 (Zm 0) (eC (.int 4))) (O (S 1) Zf))))))))
def HI:List D->Option D:=fnOf 1 2 QP
def QO:SF :=
 (ZT (b0 (Zm 0) (eC (.int 0))))
def ZN:List D->Option D:=fnOf 1 1 QO
def QZ:SF :=
 (ZT (b0 (Zm 0) (eC (.int 1))))
def ZX:List D->Option D:=fnOf 1 1 QZ
def QY:SF :=
 (ZT (b0 (Zm 0) (eC (.int 2))))
def ZY:List D->Option D:=fnOf 1 1 QY
def QE:SF :=
 (Zv (dS (CW (tV (Ze HI (O (S 0) Zf)))) V5 Bv)
  (ZT (S 0)))
def C8:List D->Option D:=fnOf 1 1 QE
def QX:SF :=
 (Zv (dS (tV (bZ jw (S 1) (B6 (Zm 0)))) (ZT (b0 (Zm 0) (S 1))) Bv)
  (ZT (eC (.int 0))))
def ZJ:List D->Option D:=fnOf 2 2 QX
def QD:SF :=
 (ZT (bZ Ck (bZ Ck (bZ Bc (S 0) (eC (.int 48271))) (S 1)) (S 2)))
def ZC:List D->Option D:=fnOf 3 3 QD
def MW:SF :=
 (Zv (AY 3 (Zp (Z5 (S 1)) (tV (bZ jw (Ze ZC (O (bZ Ay (bZ Ay (S 1) (bZ Bc (bZ Bc (eC (.int 31)) (S 0)) (S 0))) (bZ Bc (eC (.int 7)) (S 0))) (O (eC (.int 9973)) (O (eC (.int 5)) Zf)))) (eC (.int 2)))) (S 0)))
  (Zv (dS (tV (bZ jw (B6 (Zm 3)) (S 2))) (AY 3 (Bz (O (Ze ZC (O (S 0) (O (eC (.int 9967)) (O (S 1) Zf)))) Zf))) Bv)
  (ZT (Zr (Zm 3)))))
def E6:List D->Option D:=fnOf 3 4 MW
def E5:SF :=
 (Zv (ZS 4 (bZ Ay (bZ Ay (S 0) (bZ Bc (bZ Bc (eC (.int 43)) (S 3)) (S 3))) (bZ Bc (eC (.int 11)) (S 3))))
  (Zv (ZS 5 (Ze ZC (O (S 4) (O (eC (.int 9949)) (O (eC (.int 10)) Zf)))))
  (Zv (AY 6 (XQ (Ze ZC (O (S 4) (O (eC (.int 9941)) (O (S 1) Zf)))) (eC (.bool true))))
  (Zv (dS (tV (bZ jw (S 5) (eC (.int 3)))) (VX 6 (Ze ZC (O (S 4) (O (eC (.int 9931)) (O (S 1) Zf)))) (eC (.bool true))) Bv)
  (Zv (C9 2 (Zr (YK (Zm 6))))
  (dS (tV (bZ dU (S 5) (eC (.int 9)))) (Wh 2 (eC (.int (-1))) (Bi Zf)) Bv))))))
def Rg:SF :=
 (Zv (AY 2 (Bz Zf))
  (Zv (CV 3 (Z5 (S 1)) E5)
  (ZT (Zr (Zm 2)))))
def Hx:List D->Option D:=fnOf 2 7 Rg
def HH:SF :=
 (Zv (ZS 5 (bZ Sk (bZ GX (S 4) (eC (.int 1))) (eC (.int 0))))
  (Zv (ZS 6 (bZ SI (bZ Ay (S 4) (eC (.int 1))) (bZ GX (S 1) (eC (.int 1)))))
  (Zv (ZS 7 (bZ dU (Ze ZC (O (bZ Ay (S 0) (bZ Bc (eC (.int 17)) (S 4))) (O (eC (.int 9929)) (O (eC (.int 6)) Zf)))) (eC (.int 1))))
  (Zv (C9 2 (Zr (J1 (Lg (Bz (O (S 5) Zf)) (Uo (Bz (O (S 4) Zf)) (Xj (S 7)))))))
  (C9 3 (Bi (O (S 6) Zf)))))))
def Rf:SF :=
 (Zv (AY 2 (Bz Zf))
  (Zv (AY 3 (Bz Zf))
  (Zv (CV 4 (Z5 (S 1)) HH)
  (ZT (Bi (O (Zr (Zm 2)) (O (Zr (Zm 3)) Zf)))))))
def Hw:List D->Option D:=fnOf 2 8 Rf
def HB:SF :=
 (Zv (ZS 7 (bZ Ay (Ze ZJ (O (S 0) (O (bZ Ay (bZ Ay (S 1) (eC (.int 4))) (S 5)) Zf))) (bZ Bc (eC (.int 71)) (S 5))))
  (Zv (ZS 8 (bZ Ay (eC (.int 2)) (Ze ZC (O (S 7) (O (eC (.int 9883)) (O (eC (.int 2)) Zf))))))
  (C9 6 (Zr (Zp (Z5 (S 3)) Zw (Ze ZC (O (bZ Ay (S 8) (bZ Bc (bZ Bc (eC (.int 13)) (S 0)) (S 0))) (O (eC (.int 9871)) (O (S 9) Zf)))))))))
def JH:SF :=
 (C9 4 (Ze Hx (O (bZ Ay (Ze ZJ (O (S 0) (O (bZ Ay (bZ Ay (S 1) (eC (.int 1))) (S 5)) Zf))) (bZ Bc (eC (.int 61)) (S 5))) (O (S 3) Zf))))
def HF:SF :=
 (Zv (ZS 2 (Ze ZJ (O (S 0) (O (S 1) Zf))))
  (Zv (ZS 3 (bZ Ay (eC (.int 2)) (Ze ZC (O (S 2) (O (eC (.int 9923)) (O (eC (.int 4)) Zf))))))
  (Zv (dS (tV (bZ jx (B6 (Zm 0)) (eC (.int 63)))) (ZS 3 (bZ Ay (eC (.int 2)) (Ze ZC (O (S 2) (O (eC (.int 9923)) (O (eC (.int 6)) Zf)))))) Bv)
  (Zv (AY 4 (Bz Zf))
  (Zv (CV 5 (Z5 (bZ Ay (eC (.int 1)) (Ze ZC (O (S 2) (O (eC (.int 9907)) (O (eC (.int 3)) Zf)))))) JH)
  (Zv (dS (tV (bZ dU (Ze ZC (O (S 2) (O (eC (.int 9901)) (O (eC (.int 3)) Zf)))) (eC (.int 1)))) (AY 4 (Lg (Hz (cu (Ze Hw (O (Ze ZJ (O (S 0) (O (bZ Ay (S 1) (eC (.int 1))) Zf))) (O (S 3) Zf))))) (VG (Zm 4) none (some (eC (.int 1)))))) Bv)
  (Zv (AY 6 (Bz Zf))
  (Zv (CV 5 (Z5 (Ze ZC (O (S 2) (O (eC (.int 9887)) (O (eC (.int 4)) Zf))))) HB)
  (Zv (ZS 9 (Ze E6 (O (Ze ZJ (O (S 0) (O (bZ Ay (S 1) (eC (.int 7))) Zf))) (O (S 3) (O (eC (.int 1)) Zf)))))
  (Zv (dS (tV (bZ dU (Ze ZC (O (S 2) (O (eC (.int 9859)) (O (eC (.int 3)) Zf)))) (eC (.int 1)))) (ZS 9 (YU (Z5 (S 3)))) Bv)
  (Zv (ZS 10 (Ze E6 (O (Ze ZJ (O (S 0) (O (bZ Ay (S 1) (eC (.int 8))) Zf))) (O (S 3) (O (eC (.int 1)) Zf)))))
  (ZT (Bi (O (S 3) (O (Zr (Zm 4)) (O (Zr (Zm 6)) (O (S 9) (O (S 10) Zf))))))))))))))))))
def DI:List D->Option D:=fnOf 2 11 HF
def Zq(ns:List Int)(k:Nat):Int:=if k<ns.length then ns.getD k 0 else 0
theorem EV(ns:List Int)(k:Nat):ZJ [.list (ns.map dI),.int k]=some (.int (Zq ns k)):=by
 simp[ZJ,QX,Zq]
 by_cases h:k<ns.length
 .have h':(k:Int)<(ns.length:Int):=by omega
  have e:eR (ns.map dI) (k:Int)=some (.int ns[k]):=C2 (by simp[h]);simp[h,h',e]
 .have h':¬(k:Int)<(ns.length:Int):=by omega
  simp[h,h']
def ZK(c p m:Int):Int:=c*48271%p%m
theorem BV(c p m:Int)(hp:0<p)(hm:0<m):ZC [.int c,.int p,.int m]=some (.int (ZK c p m)):=by simp[ZC,QD,hp,hm,ZK]
theorem Cq(c p m:Int)(hm:0<m):0<=ZK c p m/\ZK c p m<m:=⟨Ke _ (by omega),Int.emod_lt_of_pos _ hm⟩
def lp(c:Int)(k:Nat):Bool:=decide (ZK (c+31*(k:Int)*(k:Int)+7*(k:Int)) 9973 5<2)
def iD(c:Int)(n:Nat):List Int:=((Ab n).filter (lp c)).map λ(k:Nat)=>(k:Int)
def ie(c:Int)(n:Nat):List Int:=if(iD c n).length<1 then[ZK c 9967 n]else iD c n
theorem Pw(n:Nat)(p:Nat->Bool):Cr n (((Ab n).filter p).map λ(k:Nat)=>(k:Int)):=by
 refine⟨?_,λx hx=>?_⟩
 .rw[Gz]
  refine List.Pairwise.imp (λ{a b} h=>?_) (NK p Kq);omega
 .obtain⟨k,hk,rfl⟩:=Aj.mp hx
  have:=As.mp (B2.mp hk).1;omega
theorem OI(c:Int)(n:Nat)(hn:0<n):Cr n (ie c n)/\ie c n≠[]:=by
 unfold ie;split
 .refine⟨⟨by simp,λx hx=>?_⟩,by simp⟩
  have e:x=ZK c 9967 n:=by simpa using hx
  rw[e];have:=Cq c 9967 n (by omega);omega
 .rename_i h
  exact⟨Pw n _,λe=>h (by rw[e];simp)⟩
theorem Pr(c:Int)(n:Nat)(hn:0<n)(hb:n<1000):E6 [.int c,.int n,.int 1]=some (bV (ie c n)):=by
 have hn':(0:Int)<(n:Int):=by omega
 have key:Z4 (tV (bZ jw (Ze ZC (O (bZ Ay (bZ Ay (S 1) (bZ Bc (bZ Bc (eC (.int 31)) (S 0)) (S 0))) (bZ Bc (eC (.int 7)) (S 0))) (O (eC (.int 9973)) (O (eC (.int 5)) Zf)))) (eC (.int 2)))) (S 0)
   [some (.pl (.int c)),some (.pl (.int n)),some (.pl (.int 1)),none] (FT 0 n)=some ((iD c n).map dI):=by
  rw[Z0];rw[Hu dN (lp c) dN]
  .unfold iD
   rw[Aq];rfl
  .intro k hk
   have hk':=As.mp hk;have s2:ZL (31*(k:Int))=true:=Mj (by omega) (by omega);simp[BV,lp,s2]
  .intro k hk _
   simp
 have h1:fC (n:Int)=true:=DE (by omega);have h2:(FT 0 n).length<1000000:=by rw[Z0];simp;omega
 by_cases hl:(iD c n).length<1
 .have hl':((iD c n).length:Int)<1:=by omega
  have hm:=BV c 9967 n (by decide) hn';simp[E6,MW,h1,h2,key];simp[hl',ie,hl,hm]
 .have hl':¬((iD c n).length:Int)<1:=by omega
  simp[E6,MW,h1,h2,key];simp[hl',ie,hl]
def KW(c:Int)(n k:Nat):List Int :=
 let s:=c+43*(k:Int)*(k:Int)+11*(k:Int)
 if ZK s 9949 10<3/\ZK s 9941 n≠ZK s 9931 n then[ZK s 9941 n,ZK s 9931 n]else[ZK s 9941 n]
def Cf(c:Int)(n k:Nat):List Int:=if ZK (c+43*(k:Int)*(k:Int)+11*(k:Int)) 9949 10=9 then[]else sortI (KW c n k)
theorem U3(c:Int)(n k:Nat)(hn:0<n):Cr n (Cf c n k):=by
 unfold Cf;split
 .exact⟨.nil,λx hx=>by simp at hx⟩
 .unfold KW
  dsimp only;have b1:=Cq (c+43*(k:Int)*(k:Int)+11*(k:Int)) 9941 n (by omega);have b2:=Cq (c+43*(k:Int)*(k:Int)+11*(k:Int)) 9931 n (by omega);split
  .rename_i h
   refine LV (by simp[h.2]) λx hx=>?_;simp at hx;rcases hx with e|e<;>(subst e;assumption)
  .refine LV (by simp) λx hx=>?_
   simp at hx;subst hx;assumption
theorem VH(n:Nat):fK (n+1) (-1)=some n:=by unfold fK;rw[if_neg (by decide),if_pos (by omega)];congr 1;omega
theorem WI(c:Int)(n k:Nat)(gP:List D)(o4 o5 o6:Option B)(hn:0<n)(hk:k<1000)(hl:gP.length<1000):∃r5 r6 r7,E5 [some (.pl (.int c)),some (.pl (.int n)),some (.ol gP),some (.pl (dN k)),o4,o5,o6]=some (.nx [some (.pl (.int c)),some (.pl (.int n)),some (.ol (gP++[bV (Cf c n k)])),some (.pl (dN k)),r5,r6,r7]):=by
 have hn':(0:Int)<(n:Int):=by omega
 have s2:ZL (43*(k:Int))=true:=Mj (by omega) (by omega);have hl':gP.length<1000000:=by omega
 have m1:=BV (c+43*(k:Int)*(k:Int)+11*(k:Int)) 9949 10 (by decide) (by decide);have m2:=BV (c+43*(k:Int)*(k:Int)+11*(k:Int)) 9941 n (by decide) hn';have m3:=BV (c+43*(k:Int)*(k:Int)+11*(k:Int)) 9931 n (by decide) hn';unfold Cf KW;dsimp only;generalize ZK (c+43*(k:Int)*(k:Int)+11*(k:Int)) 9949 10=wy at *;generalize ZK (c+43*(k:Int)*(k:Int)+11*(k:Int)) 9941 n=a at *;generalize ZK (c+43*(k:Int)*(k:Int)+11*(k:Int)) 9931 n=b at *;have t1:Hv [AM a]=some ((sortI [a]).map dI):=P0 [a] (by simp);have t2:Hv [AM a,AM b]=some ((sortI [a,b]).map dI):=P0 [a,b] (by simp)
 by_cases w3:wy<3
 .have w9:(wy==9)=false:=by simp;omega
  have w9':¬wy=9:=by omega
  by_cases ab:a=b
  .subst ab
   simp[E5,s2,m1,m2,m3,w3,w9,w9',fI,Eb,hl',t1]
  .simp[E5,s2,m1,m2,m3,w3,w9,w9',fI,ab,Eb,hl',t2]
 .by_cases w9:wy=9
  .subst w9
   simp[E5,s2,m1,m2,fI,Eb,hl',t1,VH]
  .have w9':(wy==9)=false:=by simp[w9]
   simp[E5,s2,m1,m2,w3,w9',w9,fI,Eb,hl',t1]
theorem Tp(c:Int)(n:Nat)(hn:0<n)(hb:n<1000):Hx [.int c,.int n]=some (Zg ((Ab n).map λk=>Cf c n k)):=by
 have h1:fC (n:Int)=true:=DE (by omega);have h2:(FT 0 n).length<1000000:=by rw[Z0];simp;omega
 obtain⟨r',e1,o3,o4,o5,o6,p1⟩:=D6 (i:=3) (body:=E5) dN (λ(s:List Nat) r=>∃o3 o4 o5 o6,r=[some (.pl (.int c)),some (.pl (.int n)),some (.ol (s.map λk=>bV (Cf c n k))),o3,o4,o5,o6]) (Ab n)
  [some (.pl (.int c)),some (.pl (.int n)),some (.ol []),none,none,none,none] ⟨none,none,none,none,rfl⟩ (by
   rintro s k post r eS ⟨o3,o4,o5,o6,rfl⟩
   have hk':k<n:=As.mp (by rw[eS];simp);have hs:s.length<n:=by have:=congrArg A5 eS;simp at this;omega
   obtain⟨r5,r6,r7,e⟩:=WI c n k (s.map λk=>bV (Cf c n k)) o4 o5 o6 hn (by omega) (by simp;omega);exact⟨_,e,some (.pl (dN k)),r5,r6,r7,by simp⟩)
 subst p1;have hl:n<1000000:=by omega
 simp[Hx,Rg,h1,Z0,hl,e1,Zg]
def ahV(k:Nat):Int:=if(0:Int) > (k:Int)-1 then 0 else(k:Int)-1
def fO(n k:Nat):Int:=if(n:Int)-1<(k:Int)+1 then(n:Int)-1 else(k:Int)+1
def gv(c:Int)(k:Nat):List Int:=sortI (cY [] (ahV k::(if ZK (c+17*(k:Int)) 9929 6=1 then[(k:Int)]else[])))
theorem S6(c:Int)(n k:Nat)(hk:k<n):Cr n (gv c k):=by
 unfold gv;have ha:0<=ahV k/\ahV k<n:=by unfold ahV;split<;>omega
 refine LV (JQ _ _ (by simp)) λx hx=>?_;rw[Jy]at hx;rcases hx with h|h
 .simp at h
 .rcases Ao.mp h with e|e
  .subst e;exact ha
  .split at e
   .simp at e;subst e;omega
   .simp at e
theorem Si(n k:Nat)(hk:k<n):Cr n [fO n k]:=by
 have ha:0<=fO n k/\fO n k<n:=by unfold fO;split<;>omega
 exact⟨by simp,λx hx=>by simp at hx;subst hx;exact ha⟩
theorem Wy(c:Int)(n k:Nat)(ls rs:List D)(o4 o5 o6 o7:Option B)(hk:k<8)(h1:ls.length<1000)(h2:rs.length<1000):∃r4 r5 r6,HH [some (.pl (.int c)),some (.pl (.int n)),some (.ol ls),some (.ol rs),some (.pl (dN k)),o5,o6,o7]=some (.nx [some (.pl (.int c)),some (.pl (.int n)),some (.ol (ls++[bV (gv c k)])),some (.ol (rs++[bV [fO n k]])),some (.pl (dN k)),r4,r5,r6]):=by
 have h1':ls.length<1000000:=by omega
 have h2':rs.length<1000000:=by omega
 have m1:=BV (c+17*(k:Int)) 9929 6 (by decide) (by decide);have j4:k=0\/k=1\/k=2\/k=3\/k=4\/k=5\/k=6\/k=7:=by omega
 have l1:GQ [if(k:Int)-1<0 then 0 else(k:Int)-1,(k:Int)]=true:=by rcases j4 with rfl|rfl|rfl|rfl|rfl|rfl|rfl|rfl<;>rfl
 have l2:GQ [if(k:Int)-1<0 then 0 else(k:Int)-1]=true:=by rcases j4 with rfl|rfl|rfl|rfl|rfl|rfl|rfl|rfl<;>rfl
 unfold gv;generalize ZK (c+17*(k:Int)) 9929 6=a at *
 by_cases e:a=1
 .subst e
  simp[HH,m1,h1',h2',ahV,fO,BC,P4,l1]
 .have e':(a==1)=false:=by simp[e]
  simp[HH,m1,h1',h2',ahV,fO,e,e',BC,P4,l2]
theorem UN(c:Int)(n:Nat)(hb:n<=8):Hw [.int c,.int n]=some (.tuple [Zg ((Ab n).map λk=>gv c k),Zg ((Ab n).map λk=>[fO n k])]):=by
 have h1:fC (n:Int)=true:=DE (by omega);obtain⟨r',e1,o4,o5,o6,o7,p1⟩:=D6 (i:=4) (body:=HH) dN (λ(s:List Nat) r=>∃o4 o5 o6 o7,r=[some (.pl (.int c)),some (.pl (.int n)),some (.ol (s.map λk=>bV (gv c k))),some (.ol (s.map λk=>bV [fO n k])),o4,o5,o6,o7]) (Ab n)
  [some (.pl (.int c)),some (.pl (.int n)),some (.ol []),some (.ol []),none,none,none,none] ⟨none,none,none,none,rfl⟩ (by
   rintro s k post r eS ⟨o4,o5,o6,o7,rfl⟩
   have hk':k<n:=As.mp (by rw[eS];simp);have hs:s.length<n:=by have:=congrArg A5 eS;simp at this;omega
   obtain⟨r5,r6,r7,e⟩:=Wy c n k (s.map λk=>bV (gv c k)) (s.map λk=>bV [fO n k]) o4 o5 o6 o7 (by omega) (by simp;omega) (by simp;omega);exact⟨_,e,some (.pl (dN k)),r5,r6,r7,by simp⟩)
 subst p1;have hl:n<1000000:=by omega
 simp[Hw,Rf,h1,Z0,hl,e1,Zg]
section
variable(ns:List Int)(at_:Nat)
def ZI:Nat:=(2+ZK (Zq ns at_) 9923 4).toNat
def BD:List (List (List Int)):=(Ab (1+ZK (Zq ns at_) 9907 3).toNat).map λk=>(Ab (ZI ns at_)).map λs=>Cf (Zq ns (at_+1+k)+61*(k:Int)) (ZI ns at_) s
def EI:List (List (List Int)) :=
 if ZK (Zq ns at_) 9901 3=1 then[(Ab (ZI ns at_)).map λk=>gv (Zq ns (at_+1)) k,(Ab (ZI ns at_)).map λk=>[fO (ZI ns at_) k]]++(BD ns at_).take 1 else BD ns at_
def D4(k:Nat):List Int:=(Ab (ZI ns at_)).map λ(s:Nat)=>ZK (Zq ns (at_+4+k)+71*(k:Int)+13*(s:Int)*(s:Int)) 9871 (2+ZK (Zq ns (at_+4+k)+71*(k:Int)) 9883 2)
def EL:List (List Int):=(Ab (ZK (Zq ns at_) 9887 4).toNat).map (D4 ns at_)
def GS:List Int:=if ZK (Zq ns at_) 9859 3=1 then(Ab (ZI ns at_)).map λ(k:Nat)=>(k:Int)else ie (Zq ns (at_+7)) (ZI ns at_)
def Oe:List Int:=ie (Zq ns (at_+8)) (ZI ns at_)
def iR:Wk:=⟨ZI ns at_,EI ns at_,EL ns at_,GS ns at_,Oe ns at_⟩
theorem Jl:2<=ZI ns at_/\ZI ns at_<=5:=by have:=Cq (Zq ns at_) 9923 4 (by decide);unfold ZI;omega
theorem Ua:((ZI ns at_:Nat):Int)=2+ZK (Zq ns at_) 9923 4:=by have:=Cq (Zq ns at_) 9923 4 (by decide);unfold ZI;omega
theorem SK:(iR ns at_).Ok:=by
 have hm:=Jl ns at_;have hd3:=Cq (Zq ns at_) 9907 3 (by decide);have dk:∀dd∈BD ns at_,dd.length=ZI ns at_/\∀c∈dd,Cr (ZI ns at_) c:=by intro dd h;unfold BD at h;obtain⟨k,_,rfl⟩:=Aj.mp h;refine⟨by simp,λc hc=>?_⟩;obtain⟨s,_,rfl⟩:=Aj.mp hc;exact U3 _ _ _ (by omega)
 have dv:∀dd∈EI ns at_,dd.length=ZI ns at_/\∀c∈dd,Cr (ZI ns at_) c:=by
  intro dd h;unfold EI at h;split at h
  .rcases Bk.mp h with h|h
   .simp at h
    rcases h with rfl|rfl
    .refine⟨by simp,λc hc=>?_⟩
     obtain⟨s,hs,rfl⟩:=Aj.mp hc;exact S6 _ _ _ (As.mp hs)
    .refine⟨by simp,λc hc=>?_⟩
     obtain⟨s,hs,rfl⟩:=Aj.mp hc;exact Si _ _ (As.mp hs)
   .exact dk dd (List.mem_of_mem_take h)
  .exact dk dd h
 have lk:(BD ns at_).length=(1+ZK (Zq ns at_) 9907 3).toNat:=by unfold BD;simp
 have lv:1<=(EI ns at_).length/\(EI ns at_).length<=3:=by
  unfold EI;split
  .simp;omega
  .omega
 have hl4:=Cq (Zq ns at_) 9887 4 (by decide);have lo:∀l∈EL ns at_,l.length=ZI ns at_/\∀x∈l,0<=x/\x<=9:=by intro l h;unfold EL at h;obtain⟨k,_,rfl⟩:=Aj.mp h;unfold D4;refine⟨by simp,λx hx=>?_⟩;obtain⟨s,_,rfl⟩:=Aj.mp hx;have h2:=Cq (Zq ns (at_+4+k)+71*(k:Int)) 9883 2 (by decide);have h3:=Cq (Zq ns (at_+4+k)+71*(k:Int)+13*(s:Int)*(s:Int)) 9871 (2+ZK (Zq ns (at_+4+k)+71*(k:Int)) 9883 2) (by omega);omega
 have ll:(EL ns at_).length<=3:=by unfold EL;simp;omega
 have cb:=OI (Zq ns (at_+7)) (ZI ns at_) (by omega);have cg:=OI (Zq ns (at_+8)) (ZI ns at_) (by omega);have hb:GS ns at_≠[]/\Cr (ZI ns at_) (GS ns at_):=by
  unfold GS;split
  .refine⟨λe=>?_,?_⟩
   .have:=congrArg A5 e
    simp at this;omega
   .have:=Pw (ZI ns at_) λ_=>true
    rwa [List.filter_eq_self.mpr λ_ _=>rfl]at this
  .exact⟨cb.2,cb.1⟩
 exact⟨hm.1,hm.2,lv.1,lv.2,λdd h=>(dv dd h).1,λdd h=>(dv dd h).2,ll,λl h=>(lo l h).1,λl h=>(lo l h).2,hb.1,hb.2,cg.2,cg.1⟩
theorem W2(k n:Nat)(c:Option B)(ds:List D)(o6 o7 o8 o9 iu:Option B)(hk:k<1000)(h1:ds.length<1000)(hn:0<n)(hb:n<1000):JH [some (.pl (.list (ns.map dI))),some (.pl (.int at_)),c,some (.pl (.int n)),some (.ol ds),some (.pl (dN k)),o6,o7,o8,o9,iu] =some (.nx [some (.pl (.list (ns.map dI))),some (.pl (.int at_)),c,some (.pl (.int n)),some (.ol (ds++[Zg ((Ab n).map λs=>Cf (Zq ns (at_+1+k)+61*(k:Int)) n s)])),some (.pl (dN k)),o6,o7,o8,o9,iu]):=by
 have h1':ds.length<1000000:=by omega
 have hc:=EV ns (at_+1+k);have e:((at_+1+k:Nat):Int)=(at_:Int)+1+(k:Int):=by omega
 rw[e]at hc;have hd:=Tp (Zq ns (at_+1+k)+61*(k:Int)) n hn hb;simp[JH,hc,hd,h1']
theorem W7(k n:Nat)(c o4:Option B)(ls:List D)(o7 o8 o9 iu:Option B)(hk:k<1000)(h1:ls.length<1000)(hn:n=ZI ns at_):∃r7 r8,HB [some (.pl (.list (ns.map dI))),some (.pl (.int at_)),c,some (.pl (.int n)),o4,some (.pl (dN k)),some (.ol ls),o7,o8,o9,iu] =some (.nx [some (.pl (.list (ns.map dI))),some (.pl (.int at_)),c,some (.pl (.int n)),o4,some (.pl (dN k)),some (.ol (ls++[bV (D4 ns at_ k)])),r7,r8,o9,iu]):=by
 have hb:=Jl ns at_;have h1':ls.length<1000000:=by omega
 have hc:=EV ns (at_+4+k);have e:((at_+4+k:Nat):Int)=(at_:Int)+4+(k:Int):=by omega
 rw[e]at hc;have m1:=BV (Zq ns (at_+4+k)+71*(k:Int)) 9883 2 (by decide) (by decide);have b1:=Cq (Zq ns (at_+4+k)+71*(k:Int)) 9883 2 (by decide);have hok:fC (n:Int)=true:=DE (by omega);have hl:n<1000000:=by omega
 unfold D4;rw[<-hn];generalize ZK (Zq ns (at_+4+k)+71*(k:Int)) 9883 2=mo at *;generalize Zq ns (at_+4+k)=cc at *;simp[HB,hc,m1,hok,h1',Z0,hl];rw[Z9 dN λ(s:Nat)=>dI (ZK (cc+71*(k:Int)+13*(s:Int)*(s:Int)) 9871 (2+mo))]
 .refine⟨some (.pl (.int (cc+71*(k:Int)))),some (.pl (.int (2+mo))),?_⟩
  simp
 .intro s hs
  have hs':=As.mp hs;have s2:ZL (13*(s:Int))=true:=Mj (by omega) (by omega);have m2:=BV (cc+71*(k:Int)+13*(s:Int)*(s:Int)) 9871 (2+mo) (by decide) (by omega);simp[s2,m2]
theorem Vy(h:ns.length<=63):DI [.list (ns.map dI),.int at_]=some (iR ns at_).d:=by
 have hb:=Jl ns at_;have jZ:=Ua ns at_;have c0:=EV ns at_;have c1:=EV ns (at_+1);have c7:=EV ns (at_+7);have c8:=EV ns (at_+8);have e1:((at_+1:Nat):Int)=(at_:Int)+1:=by omega
 have e7:((at_+7:Nat):Int)=(at_:Int)+7:=by omega
 have e8:((at_+8:Nat):Int)=(at_:Int)+8:=by omega
 rw[e1]at c1;rw[e7]at c7;rw[e8]at c8;have m4:=BV (Zq ns at_) 9923 4 (by decide) (by decide);have m3:=BV (Zq ns at_) 9907 3 (by decide) (by decide);have b3:=Cq (Zq ns at_) 9907 3 (by decide);have mw:=BV (Zq ns at_) 9901 3 (by decide) (by decide);have ml:=BV (Zq ns at_) 9887 4 (by decide) (by decide);have bl:=Cq (Zq ns at_) 9887 4 (by decide);have mb:=BV (Zq ns at_) 9859 3 (by decide) (by decide);have wk:=UN (Zq ns (at_+1)) (ZI ns at_) (by omega);have k7:=Pr (Zq ns (at_+7)) (ZI ns at_) (by omega) (by omega);have k8:=Pr (Zq ns (at_+8)) (ZI ns at_) (by omega) (by omega);have bY:¬(63:Int)<(ns.length:Int):=by omega
 have jU:fC (1+ZK (Zq ns at_) 9907 3)=true:=Ei.mpr (by omega);have jT:fC (ZK (Zq ns at_) 9887 4)=true:=Ei.mpr (by omega);have jS:fC ((ZI ns at_:Nat):Int)=true:=DE (by omega);obtain⟨r1,f1,o5,q1⟩:=D6 (i:=5) (body:=JH) dN (λ(s:List Nat) r=>∃o5,r=[some (.pl (.list (ns.map dI))),some (.pl (.int at_)),some (.pl (.int (Zq ns at_))),some (.pl (.int (ZI ns at_))),
   some (.ol (s.map λk=>Zg ((Ab (ZI ns at_)).map λs=>Cf (Zq ns (at_+1+k)+61*(k:Int)) (ZI ns at_) s))),o5,none,none,none,none,none]) (Ab (1+ZK (Zq ns at_) 9907 3).toNat)
  [some (.pl (.list (ns.map dI))),some (.pl (.int at_)),some (.pl (.int (Zq ns at_))),some (.pl (.int (ZI ns at_))),some (.ol []),none,none,none,none,none,none] ⟨none,rfl⟩ (by
   rintro s k post r eS ⟨o5,rfl⟩
   have hk':=As.mp (show k∈Ab (1+ZK (Zq ns at_) 9907 3).toNat by rw[eS];simp);have hs:s.length<4:=by have:=congrArg A5 eS;simp at this;omega
   have e:=W2 ns at_ k (ZI ns at_) (some (.pl (.int (Zq ns at_)))) (s.map λk=>Zg ((Ab (ZI ns at_)).map λs=>Cf (Zq ns (at_+1+k)+61*(k:Int)) (ZI ns at_) s)) none none none none none (by omega) (by simp;omega) (by omega) (by omega);exact⟨_,e,some (.pl (dN k)),by simp⟩)
 subst q1;have kE:∀(o4 o5:Option B),∃r2,BN 5 HB ((Ab (ZK (Zq ns at_) 9887 4).toNat).map dN) [some (.pl (.list (ns.map dI))),some (.pl (.int at_)),some (.pl (.int (Zq ns at_))),some (.pl (.int (ZI ns at_))),o4,o5,some (.ol []),none,none,none,none]=some (.nx r2) /\
   ∃o5 o7 o8,r2=[some (.pl (.list (ns.map dI))),some (.pl (.int at_)),some (.pl (.int (Zq ns at_))),some (.pl (.int (ZI ns at_))),o4,o5,some (.ol ((Ab (ZK (Zq ns at_) 9887 4).toNat).map λk=>bV (D4 ns at_ k))),o7,o8,none,none]:=by
  intro o4 o5;refine D6 (i:=5) (body:=HB) dN (λ(s:List Nat) r=>∃o5 o7 o8,r=[some (.pl (.list (ns.map dI))),some (.pl (.int at_)),some (.pl (.int (Zq ns at_))),some (.pl (.int (ZI ns at_))),
   o4,o5,some (.ol (s.map λk=>bV (D4 ns at_ k))),o7,o8,none,none]) (Ab (ZK (Zq ns at_) 9887 4).toNat) _ ⟨o5,none,none,rfl⟩ ?_
  rintro s k post r eS ⟨o5,o7,o8,rfl⟩
  have hk':=As.mp (show k∈Ab (ZK (Zq ns at_) 9887 4).toNat by rw[eS];simp);have hs:s.length<4:=by have:=congrArg A5 eS;simp at this;omega
  obtain⟨r7,r8,e⟩:=W7 ns at_ k (ZI ns at_) (some (.pl (.int (Zq ns at_)))) o4 (s.map λk=>bV (D4 ns at_ k)) o7 o8 none none (by omega) (by simp;omega) rfl;exact⟨_,e,some (.pl (dN k)),r7,r8,by simp⟩
 have n3:(1+ZK (Zq ns at_) 9907 3).toNat<1000000:=by omega
 have nl:(ZK (Zq ns at_) 9887 4).toNat<1000000:=by omega
 have nm:ZI ns at_<1000000:=by omega
 have oo:((Ab (1+ZK (Zq ns at_) 9907 3).toNat).map λk=>Zg ((Ab (ZI ns at_)).map λs=>Cf (Zq ns (at_+1+k)+61*(k:Int)) (ZI ns at_) s))=(BD ns at_).map Zg:=by unfold BD;simp
 have kP:((Ab (ZK (Zq ns at_) 9887 4).toNat).map λk=>bV (D4 ns at_ k))=(EL ns at_).map bV:=by unfold EL;simp
 rw[oo]at f1;simp only[kP]at kE;have dkl:(BD ns at_).length<10:=by unfold BD;simp;omega
 unfold iR Wk.d EI GS Oe;simp only
 by_cases w1:ZK (Zq ns at_) 9901 3=1
 .have w1':(ZK (Zq ns at_) 9901 3==1)=true:=by simp[w1]
  have mN:cutD ((BD ns at_).map Zg) none (some 1)=((BD ns at_).take 1).map Zg:=by unfold cutD jb;simp
  obtain⟨r2,f2,p5,p7,p8,q2⟩:=kE (some (.ol (Zg ((Ab (ZI ns at_)).map λk=>gv (Zq ns (at_+1)) k)::Zg ((Ab (ZI ns at_)).map λk=>[fO (ZI ns at_) k])::List.take 1 ((BD ns at_).map Zg)))) o5;subst q2;have c2:min 1 (BD ns at_).length+1+1<1000000:=by omega
  have c3:(2:Nat)+min 1 (BD ns at_).length<1000000:=by omega
  by_cases w2:ZK (Zq ns at_) 9859 3=1
  .have w2':(ZK (Zq ns at_) 9859 3==1)=true:=by simp[w2]
   simp[DI,HF,c0,m4,<-jZ,bY,m3,jU,Z0,n3,f1,mw,w1',c1,wk,mN,w1,ml,jT,nl,f2,c7,k7,mb,w2',jS,nm,c8,k8,w2,c2,c3]
  .have w2':(ZK (Zq ns at_) 9859 3==1)=false:=by simp[w2]
   simp[DI,HF,c0,m4,<-jZ,bY,m3,jU,Z0,n3,f1,mw,w1',c1,wk,mN,w1,ml,jT,nl,f2,c7,k7,mb,w2',jS,nm,c8,k8,w2,c2,c3]
 .have w1':(ZK (Zq ns at_) 9901 3==1)=false:=by simp[w1]
  obtain⟨r2,f2,p5,p7,p8,q2⟩:=kE (some (.ol ((BD ns at_).map Zg))) o5;subst q2
  by_cases w2:ZK (Zq ns at_) 9859 3=1
  .have w2':(ZK (Zq ns at_) 9859 3==1)=true:=by simp[w2]
   simp[DI,HF,c0,m4,<-jZ,bY,m3,jU,Z0,n3,f1,mw,w1',w1,ml,jT,nl,f2,c7,k7,mb,w2',jS,nm,c8,k8,w2]
  .have w2':(ZK (Zq ns at_) 9859 3==1)=false:=by simp[w2]
   simp[DI,HF,c0,m4,<-jZ,bY,m3,jU,Z0,n3,f1,mw,w1',w1,ml,jT,nl,f2,c7,k7,mb,w2',jS,nm,c8,k8,w2]
end
section
variable{c:List Int}{n:Nat}
theorem Pb{e:EF}{r:HM.Env}{f:D->D}(xs:List D)(h:∀x∈xs,e (some (.pl x)::r)=some (f x)):Z4 Zw e r xs=some (xs.map f):=by
 have:=Z9 (e:=e) (r:=r) id f xs h
 rwa [List.map_id]at this
theorem Py(xs:List D)(p:D->Bool):FD (xs.map λx=>Gp (p x))=some (xs.map p):=by
 have:=PZ (xs.map p)
 rwa [Aq]at this
def CS(d:D)(lo hi:Int):Bool:=match d with
 | .int i=>decide (lo<=i)&&decide (i<=hi)
 |_=>false
def gy:D->Prop
 | .dict _=>False
 |_=>True
theorem M1(d:D)(lo hi:Int)(nd:gy d:=by trivial):DJ [d,.int lo,.int hi]=some (.bool (CS d lo hi)):=by
 cases d<;>first|exact nd.elim|simp[DJ,QS,CS]
 rename_i i
 by_cases h:lo<=i<;>simp[h]
def BA(d:D)(lo hi:Int):Bool:=match d with
 | .tuple ds=>decide (lo<=(ds.length:Int))&&decide ((ds.length:Int)<=hi)
 |_=>false
theorem Hl(d:D)(lo hi:Int)(nd:gy d:=by trivial):Ca [d,.int lo,.int hi]=some (.bool (BA d lo hi)):=by
 cases d<;>first|exact nd.elim|simp[Ca,Qj,BA]
 rename_i ds
 by_cases h:lo<=(ds.length:Int)<;>simp[h]
def BX(many:Int):Int->List D->Bool
 |_,[]=>true
 |l,.int i::r=>(decide (l<=i)&&decide (i<=many-1))&&BX many (i+1) r
 |_,_::_=>false
def Fw(d:D)(many:Int):Bool:=match d with
 | .tuple ds=>BX many 0 ds
 |_=>false
theorem Pf(d:D)(many:Int):∀(ds:List D) (l:Int) (o:Option B),(∀x∈ds,gy x) ->(BX many l ds=true->∃l' o',BN 3 Z2 ds [some (.pl d),some (.pl (.int many)),some (.pl (.int l)),o]=some (.nx [some (.pl d),some (.pl (.int many)),some (.pl (.int l')),o'])) /\ (BX many l ds=false->BN 3 Z2 ds [some (.pl d),some (.pl (.int many)),some (.pl (.int l)),o]=some (.rt (.bool false)))
 |[],l,o,_=>⟨λ_=>⟨l,o,rfl⟩,λh=>by simp[BX]at h⟩
 |x::ds,l,o,nd=>by
  have key:=M1 x l (many-1) (nd x (Au ..));cases hx:CS x l (many-1)with
  |false =>
   have e:Z2 [some (.pl d),some (.pl (.int many)),some (.pl (.int l)),some (.pl x)]=some (.rt (.bool false)):=by rw[hx]at key;simp[Z2,key]
   have e2:BX many l (x::ds)=false:=by cases x<;>simp[BX];rename_i i;simp[CS]at hx;intro h1 h2;exact absurd (hx h1) (by omega)
   refine⟨λh=>?_,λ_=>?_⟩
   .rw[e2]at h;cases h
   .unfold BN
    show(match Z2 [some (.pl d),some (.pl (.int many)),some (.pl (.int l)),some (.pl x)]with|some (.nx r')=>_|some (.ct r')=>_|some (.bk r')=>_|some (.rt d)=>_|none=>_)=_;rw[e]
  |true =>
   cases x with
   |int i =>
    have e:Z2 [some (.pl d),some (.pl (.int many)),some (.pl (.int l)),some (.pl (.int i))]=some (.nx [some (.pl d),some (.pl (.int many)),some (.pl (.int (i+1))),some (.pl (.int i))]):=by rw[hx]at key;simp[Z2,key]
    have e2:BX many l (.int i::ds)=BX many (i+1) ds:=by have:(decide (l<=i)&&decide (i<=many-1))=true:=hx;simp only[BX,this,Bool.true_and]
    obtain⟨a1,a2⟩:=Pf d many ds (i+1) (some (.pl (.int i))) λx hx=>nd x (Av _ hx);rw[e2];have e3:BN 3 Z2 (.int i::ds) [some (.pl d),some (.pl (.int many)),some (.pl (.int l)),o]=BN 3 Z2 ds [some (.pl d),some (.pl (.int many)),some (.pl (.int (i+1))),some (.pl (.int i))]:=by show(match Z2 [some (.pl d),some (.pl (.int many)),some (.pl (.int l)),some (.pl (.int i))]with|some (.nx r')=>_|some (.ct r')=>_|some (.bk r')=>_|some (.rt d)=>_|none=>_)=_;rw[e]
    rw[e3];exact⟨a1,a2⟩
   |_=>simp[CS]at hx
theorem Q3(d:D)(many:Int)(hl:∀ds,d=.tuple ds->ds.length<1000000/\∀x∈ds,gy x)(nd:gy d:=by trivial):Z3 [d,.int many]=some (.bool (Fw d many)):=by
 cases d with
 |tuple ds =>
  obtain⟨hl,hn⟩:=hl ds rfl;obtain⟨a1,a2⟩:=Pf (.tuple ds) many ds 0 none hn;cases h:BX many 0 ds with
  |true=>obtain⟨l',o',e⟩:=a1 h;simp[Z3,JD,Fw,h,hl,e]
  |false=>have e:=a2 h;simp[Z3,JD,Fw,h,hl,e]
 |dict _=>exact nd.elim
 |_=>simp[Z3,JD,Fw]
def small:D->Prop
 | .tuple ds=>ds.length<1000000/\∀x∈ds,gy x
 | .dict _=>False
 |_=>True
theorem Qy(h:(c.map dI).length<1000000):small (bV c):=⟨h,λx hx=>by obtain⟨i,_,rfl⟩:=Aj.mp hx;trivial⟩
theorem Pt{d:D}(h:small d):gy d:=by cases d<;>first|exact h.elim|trivial
theorem Wq{d:D}(h:small d):∀ds,d=.tuple ds->ds.length<1000000/\∀x∈ds,gy x:=by rintro ds rfl;exact h
def G7(d:D)(many:Int):Bool:=BA d many many&&(match d with | .tuple ds=>ds.all λc=>Fw c many|_=>false)
def P2(d:D):Prop:=match d with | .tuple ds=>ds.length<1000000/\∀x∈ds,small x | .dict _=>False|_=>True
theorem VW{d:D}(h:P2 d):gy d:=by cases d<;>first|exact h.elim|trivial
theorem W3(d:D)(many:Int)(hs:P2 d):EX [d,.int many]=some (.bool (G7 d many)):=by
 have h1:=Hl d many many (VW hs);cases hr:BA d many many with
 |false=>rw[hr]at h1;simp[EX,MM,h1,G7,hr]
 |true =>
  rw[hr]at h1;cases d with
  |tuple ds =>
   have hs':ds.length<1000000/\∀x∈ds,small x:=hs;simp[EX,MM,h1,G7,hr,hs'.1];rw[Pb (f:=λc=>.bool (Fw c many))]
   .simp[Py]
   .intro x hx
    simp[Q3 x many (Wq (hs'.2 x hx)) (Pt (hs'.2 x hx))]
  |_=>simp[BA]at hr
def G2(d:D)(many:Int):Bool:=BA d many many&&(match d with | .tuple ds=>ds.all λc=>CS c 0 9|_=>false)
theorem Wi(d:D)(many:Int)(hs:small d):EW [d,.int many]=some (.bool (G2 d many)):=by
 have h1:=Hl d many many (Pt hs);cases hr:BA d many many with
 |false=>rw[hr]at h1;simp[EW,ML,h1,G2,hr]
 |true =>
  rw[hr]at h1;cases d with
  |tuple ds =>
   have hs':ds.length<1000000:=hs.1;simp[EW,ML,h1,G2,hr,hs'];rw[Pb (f:=λc=>.bool (CS c 0 9))]
   .simp[Py]
   .intro x hx
    simp[M1 x 0 9 (hs.2 x hx)]
  |_=>simp[BA]at hr
structure Wk.V(w:Wk):Prop where
 m1:1<=w.many
 m2:w.many<=8
 d1:1<=w.deeds.length
 d2:w.deeds.length<=5
 dl:∀dd∈w.deeds,dd.length=w.many
 dc:∀dd∈w.deeds,∀c∈dd,Cr w.many c
 l2:w.looks.length<=4
 ll:∀l∈w.looks,l.length=w.many
 lc:∀l∈w.looks,∀x∈l,0<=x/\x<=9
 b1:w.beg≠[]
 bc:Cr w.many w.beg
 gc:Cr w.many w.goal
theorem Wk.Ok.v{w:Wk}(h:w.Ok):Wk.V w:=by obtain⟨m1,m2,d1,d2,dl,dc,l2,ll,lc,b1,bc,g1,gc⟩:=h;exact⟨by omega,by omega,d1,by omega,dl,dc,by omega,ll,lc,b1,bc,gc⟩
theorem LM(n:Nat):∀(c:List Int) (l:Int),c.Pairwise (· < ·)->(∀x∈c,l<=x/\x<(n:Int))->BX n l (c.map dI)=true
 |[],_,_,_=>rfl
 |x::c,l,hp,hb=>by have h1:=hb x (Au ..);have ih:=LM n c (x+1) (B4.mp hp).2 λy hy=>⟨by have:=(B4.mp hp).1 y hy;omega,(hb y (Av _ hy)).2⟩;show((decide (l<=x)&&decide (x<=(n:Int)-1))&&BX n (x+1) (c.map dI))=true;rw[ih,decide_eq_true h1.1,decide_eq_true (show x<=(n:Int)-1 by omega)];rfl
theorem Qr(h:Cr n c)(hn:n<1000):Z3 [bV c,.int n]=some (.bool true):=by have hl:=h.len;rw[Q3 (bV c) n (by intro ds e;cases e;exact⟨by simp;omega,λx hx=>by obtain⟨i,_,rfl⟩:=Aj.mp hx;trivial⟩)];show some (Gp (BX n 0 (c.map dI)))=_;rw[LM n c 0 h.1 h.2]
theorem Xm(h:Cr n c)(h0:c≠[])(hn:n<1000):Hy [bV c,.int n]=some (.bool true):=by
 have h1:=Qr h hn;have h2:(0:Int)<(c.length:Int):=by have:=List.length_pos_iff.mpr h0;omega
 simp[Hy,Q0,h1];exact List.length_pos_iff.mpr h0
theorem Tr{w:Wk}(h:Wk.V w){dd:List (List Int)}(hd:dd∈w.deeds):EX [Zg dd,.int w.many]=some (.bool true):=by
 have hl:=h.dl dd hd;have m2:=h.m2;rw[W3 (Zg dd) _ (show(dd.map bV).length<1000000/\∀x∈dd.map bV,small x by refine⟨by simp;omega,λx hx=>?_⟩;obtain⟨c,hc,rfl⟩:=Aj.mp hx;have:=(h.dc dd hd c hc).len;refine Qy ?_;simp;omega)];have e:G7 (Zg dd) w.many=true:=by unfold G7 Zg BA;simp[hl];intro c hc;exact LM w.many c 0 (h.dc dd hd c hc).1 (h.dc dd hd c hc).2
 rw[e]
theorem Th{w:Wk}(h:Wk.V w){l:List Int}(hd:l∈w.looks):EW [bV l,.int w.many]=some (.bool true):=by
 have hl:=h.ll l hd;have m2:=h.m2;rw[Wi (bV l) _ (Qy (show(l.map dI).length<1000000 by simp;omega))];have e:G2 (bV l) w.many=true:=by unfold G2 BA;simp[hl];intro x hx;have:=h.lc l hd x hx;simp[CS];omega
 rw[e]
theorem allTrue(α:Type)(xs:List α):FD (xs.map λ_=>Gp true)=some (xs.map λ_=>true):=by
 have:=PZ (xs.map λ_=>true)
 rwa [Aq]at this
theorem Xk{w:Wk}(h:Wk.V w):HK [.tuple (w.deeds.map Zg),.int w.many]=some (.bool true):=by
 have h1:=Hl (.tuple (w.deeds.map Zg)) 1 5;have d1:=h.d1;have d2:=h.d2;have e:BA (.tuple (w.deeds.map Zg)) 1 5=true:=by simp[BA];omega
 rw[e]at h1;have hl:w.deeds.length<1000000:=by omega
 simp[HK,QR,h1,hl];rw[Z9 Zg (λ_=>.bool true)]
 .simp[allTrue]
 .intro x hx
  simp[Tr h hx]
theorem XX{w:Wk}(h:Wk.V w):HJ [.tuple (w.looks.map bV),.int w.many]=some (.bool true):=by
 have h1:=Hl (.tuple (w.looks.map bV)) 0 4;have d2:=h.l2;have e:BA (.tuple (w.looks.map bV)) 0 4=true:=by simp[BA];omega
 rw[e]at h1;have hl:w.looks.length<1000000:=by omega
 simp[HJ,QQ,h1,hl];rw[Z9 bV (λ_=>.bool true)]
 .simp[allTrue]
 .intro x hx
  simp[Th h hx]
theorem XZ{w:Wk}(h:Wk.V w):HI [w.d]=some (.bool true):=by
 have h1:=Hl w.d 5 5;have e:BA w.d 5 5=true:=by simp[BA,Wk.d]
 rw[e]at h1;have h2:=M1 (.int w.many) 1 8;have m1:=h.m1;have m2:=h.m2;have e2:CS (.int w.many) 1 8=true:=by simp[CS];omega
 rw[e2]at h2;have h3:=Xk h;have h4:=XX h;have h5:=Xm h.bc h.b1 (by omega);have h6:=Qr h.gc (by omega);unfold Wk.d at h1 ⊢;simp[HI,QP,h1,h2,h3,h4,h5,h6]
theorem MF{w:Wk}(h:Wk.V w):C8 [w.d]=some w.d:=by simp[C8,QE,XZ h]
theorem X2(w:Wk):ZN [w.d]=some (.int w.many):=by simp[ZN,QO,Wk.d]
theorem Ra(w:Wk):ZX [w.d]=some (.tuple (w.deeds.map Zg)):=by simp[ZX,QZ,Wk.d]
theorem Q8(w:Wk):ZY [w.d]=some (.tuple (w.looks.map bV)):=by simp[ZY,QY,Wk.d]
end
def Rq(w:Wk)(d s:Int):List Int:=(w.deeds[d.toNat]?.getD [])[s.toNat]?.getD []
def C1(w:Wk)(c:List Int)(d:Int):List Int:=c.flatMap λs=>Rq w d s
theorem V0(ks:List (List Int)):FE (ks.map bV)=some ks:=by
 induction ks with
 |nil=>rfl
 |cons k ks ih=>show(match BC (k.map dI)with|some ns=>(FE (ks.map bV)).map (ns::·)|none=>none)=_;rw[CI,ih];rfl
section
variable{ds:List D}{m n:Nat}
def df:Nat->D->Bool
 |_,.none=>true
 |_,.int _=>true
 |_,.str x=>PyData.canLay0 (.str x)
 |0,_=>false
 |n+1,.list ds=>ds.all (df n)
 |n+1,.tuple ds=>ds.all (df n)
 |_,_=>false
theorem Q4(h:∀d∈ds,d.canLay0=true):GD ds=true:=by
 induction ds with
 |nil=>rfl
 |cons d ds ih=>show(d.canLay0&&GD ds)=true;rw[h d (Au ..),ih λx hx=>h x (Av _ hx)];rfl
theorem Q9(h:∀d∈ds,d.depth<=n):Im ds<=n:=by
 induction ds with
 |nil=>exact CA _
 |cons d ds ih=>show max d.depth (Im ds)<=n;have h1:=h d (Au ..);have h2:=ih λx hx=>h x (Av _ hx);omega
theorem G4:∀(n:Nat) (d:D),df n d=true->d.canLay0=true/\d.depth<=n
 |n,.none,_=>⟨rfl,by show 0<=n;omega⟩
 |n,.int _,_=>⟨rfl,by show 0<=n;omega⟩
 |n,.str x,h=>by refine⟨?_,by show 0<=n;omega⟩;cases n<;>exact h
 |0,.bool _,h=>by cases h
 |0,.list _,h=>by cases h
 |0,.tuple _,h=>by cases h
 |0,.dict _,h=>by cases h
 |n+1,.bool _,h=>by cases h
 |n+1,.dict _,h=>by cases h
 |n+1,.list ds,h=>by have h':ds.all (df n)=true:=h;have hh:=B3.mp h';refine⟨Q4 λd hd=>(G4 n d (hh d hd)).1,?_⟩;show Im ds+1<=n+1;have:=Q9 λd hd=>(G4 n d (hh d hd)).2;omega
 |n+1,.tuple ds,h=>by have h':ds.all (df n)=true:=h;have hh:=B3.mp h';refine⟨Q4 λd hd=>(G4 n d (hh d hd)).1,?_⟩;show Im ds+1<=n+1;have:=Q9 λd hd=>(G4 n d (hh d hd)).2;omega
theorem Hr{d:D}(h:df n d=true)(hn:n<=60):DD d=true:=by obtain⟨h1,h2⟩:=G4 n d h;unfold DD;rw[h1,decide_eq_true (show d.depth<=60 by omega)];rfl
theorem QC(ih:∀d∈ds,∀e,(∃m,df m e=true)->(Fd d e=true↔d=e)):∀(es:List D),(∀e∈es,∃m,df m e=true)->(HW ds es=true↔ds=es):=by
 induction ds with
 |nil =>
  intro es _;cases es with
  |nil=>exact⟨λ_=>rfl,λ_=>rfl⟩
  |cons e es=>exact⟨(λh=>by cases h),(λh=>by cases h)⟩
 |cons d ds ihl =>
  intro es he;cases es with
  |nil=>exact⟨(λh=>by cases h),(λh=>by cases h)⟩
  |cons e es=>show((Fd d e&&HW ds es)=true)↔_;rw[Bw,ih d (Au ..) e (he e (Au ..)),ihl (λx hx=>ih x (Av _ hx)) es (λx hx=>he x (Av _ hx)),List.cons.injEq]
theorem Tg(h:df m (.list ds)=true):∀d∈ds,∃m,df m d=true:=by
 cases m with
 |zero=>cases h
 |succ m=>have h':ds.all (df m)=true:=h;exact λd hd=>⟨m,B3.mp h' d hd⟩
theorem Uu(h:df m (.tuple ds)=true):∀d∈ds,∃m,df m d=true:=by
 cases m with
 |zero=>cases h
 |succ m=>have h':ds.all (df m)=true:=h;exact λd hd=>⟨m,B3.mp h' d hd⟩
theorem ES{b:Bool}(h:df m (.bool b)=true):False:=by cases m<;>cases h
theorem ER{b:List (D×D)}(h:df m (.dict b)=true):False:=by cases m<;>cases h
theorem OQ:∀(n:Nat) (d e:D),df n d=true->(∃m,df m e=true)->(Fd d e=true↔d=e):=by
 intro n
 induction n with
 |zero =>
  intro d e hd ⟨m,he⟩;cases d<;>first|cases hd|skip
  all_goals cases e<;>first
   |exact(ES he).elim
   |exact(ER he).elim
   |exact⟨λ_=>rfl,λ_=>rfl⟩
   |exact⟨(λh=>by cases h),(λh=>by cases h)⟩
   |(rename_i a b;show((a==b)=true)↔_;simp)
 |succ n ih =>
  intro d e hd ⟨m,he⟩;cases d with
  |bool _=>exact(ES hd).elim
  |dict _=>exact(ER hd).elim
  |list ds =>
   cases e with
   |list es=>show(HW ds es=true)↔_;rw[QC (λd h e he=>ih d e (B3.mp (show ds.all (df n)=true from hd) d h) he) es (Tg he)];simp
   |bool _=>exact(ES he).elim
   |dict _=>exact(ER he).elim
   |_=>exact⟨(λh=>by cases h),(λh=>by cases h)⟩
  |tuple ds =>
   cases e with
   |tuple es=>show(HW ds es=true)↔_;rw[QC (λd h e he=>ih d e (B3.mp (show ds.all (df n)=true from hd) d h) he) es (Uu he)];simp
   |bool _=>exact(ES he).elim
   |dict _=>exact(ER he).elim
   |_=>exact⟨(λh=>by cases h),(λh=>by cases h)⟩
  |none=>cases e<;>first
   |exact(ES he).elim
   |exact(ER he).elim
   |exact⟨λ_=>rfl,λ_=>rfl⟩
   |exact⟨(λh=>by cases h),(λh=>by cases h)⟩
  |int i=>cases e<;>first
   |exact(ES he).elim
   |exact(ER he).elim
   |exact⟨(λh=>by cases h),(λh=>by cases h)⟩
   |(rename_i b;show((i==b)=true)↔_;simp)
  |str i=>cases e<;>first
   |exact(ES he).elim
   |exact(ER he).elim
   |exact⟨(λh=>by cases h),(λh=>by cases h)⟩
   |(rename_i b;show((i==b)=true)↔_;simp)
theorem UK{d:D}(hd:df n d=true)(hn:n<=60):dU d d=some (.bool true):=by unfold dU;rw[Hr hd hn,(OQ n d d hd ⟨n,hd⟩).mpr rfl];rfl
theorem Hh(n:Nat)(ns:List Int):df (n+1) (bV ns)=true:=by show(ns.map dI).all (df n)=true;rw[B3];intro d hd;obtain⟨i,_,rfl⟩:=Aj.mp hd;cases n<;>rfl
theorem Js(n:Nat)(ns:List Int):df (n+1) (.list (ns.map dI))=true:=Hh n ns
theorem Jh(h:∀d∈ds,df n d=true):df (n+1) (.tuple ds)=true:=B3.mpr h
theorem Lk(n:Nat)(i:Int):df n (.int i)=true:=by cases n<;>rfl
end
end HG
namespace HG4
open PySem HM HG
end HG4
namespace HM
open PySem
theorem AX{P:Option iH->Prop}{a b:SF}{r r':Env}(h:a r=some (.nx r'))(k:P (b r')):P (Zv a b r):=by show P (match a r with|some (.nx r')=>b r'|some (.rt d)=>some (.rt d)|some (.bk r')=>some (.bk r')|some (.ct r')=>some (.ct r')|none=>none);rw[h];exact k
end HM
namespace HG4
open PySem HM HG
end HG4
namespace HM
open PySem
def AG:Option iH->Option D
 |some (.nx _)=>some .none
 |some (.rt d)=>some d
 |_=>none
end HM
namespace HG4
open PySem HM HG
theorem B9{a b:SF}{r r':HM.Env}{d:Option D}(h:a r=some (.nx r'))(k:AG (b r')=d):AG (Zv a b r)=d:=AX (P:=λq=>AG q=d) h k
end HG4
namespace HG5
open PySem HM HG HG4
end HG5
namespace HG5
open PySem HM HG
end HG5
namespace HG27
open PySem HM
open HG
def WO:SF :=
 (ZT (b0 (Zm 0) (eC (.int 4))))
def Ee:List D->Option D:=fnOf 1 1 WO
def Xd:SF :=
 (Zv (AY 1 mM)
  (Zv (AY 2 (Bz Zf))
  (Zv Q1
  (IU 2 (ZT (S 2))))))
def Ed:List D->Option D:=fnOf 1 4 Xd
def Xc:SF :=
 (ZT (Zr (J1 (Zp (ZF (cu (S 0))) Zw (b0 (Zm 2) (S 0))))))
def Z7:List D->Option D:=fnOf 2 2 Xc
def Ri:SF :=
 (ZT (Bi (O (CZ (S 1) (cu (Ze Ee (O (S 0) Zf)))) (O (Zr (Zp (ZF (cu (Ze ZY (O (S 0) Zf)))) Zw (b0 (Zm 0) (S 2)))) Zf))))
def E7:List D->Option D:=fnOf 2 2 Ri
def YB:SF :=
 (ZT (Bi (O (b0 (Zm 2) (S 1)) (O (Zr (Zp (ZF (cu (Ze ZX (O (S 0) Zf)))) Zw (Ze Z7 (O (b0 (Zm 0) (S 2)) (O (S 3) Zf))))) Zf))))
def E2:List D->Option D:=fnOf 3 3 YB
def VO:SF :=
 (ZT (Ze Ed (O (gH (Zp (Z5 (Ze ZN (O (S 0) Zf))) Zw (Ze E2 (O (S 1) (O (S 0) (O (S 2) Zf)))))) Zf)))
def EO:List D->Option D:=fnOf 2 2 VO
def HE:SF :=
 (ZS 1 (Ze EO (O (S 0) (O (S 1) Zf))))
def MA:SF :=
 (Zv (ZS 1 (Ze Ed (O (gH (Zp (Z5 (Ze ZN (O (S 0) Zf))) Zw (Ze E7 (O (S 1) (O (S 0) Zf))))) Zf)))
  (Zv (Wu 100000 (tV (bZ jv (Ze EO (O (S 0) (O (S 1) Zf))) (S 1))) HE)
  (ZT (S 1))))
def Ec:List D->Option D:=fnOf 1 2 MA
def aa:SF :=
 (ZT (gH (Zp (Z5 (B6 (Zm 0))) (tV (bZ dU (b0 (Zm 1) (S 0)) (S 2))) (S 0))))
def F5:List D->Option D:=fnOf 2 2 aa
def Nd:SF :=
 (Zv (O3 (Ze C8 (O (S 0) Zf)))
  (Zv (ZS 1 (Ze Ec (O (S 0) Zf)))
  (ZT (gH (Zp (Z5 (bZ Ay (FF (Zm 1)) (eC (.int 1)))) Zw (Ze F5 (O (S 2) (O (S 0) Zf))))))))
def ZP:List D->Option D:=fnOf 1 2 Nd
def J0:SF :=
 (Zv (AY 12 (Hz (cu (b0 (Zm 9) (S 11)))))
  (Zv (dS (GZ (tV (CZ (S 7) (Zm 12))) (tV (bZ jx (Ze ZC (O (bZ Ay (S 1) (bZ Bc (eC (.int 13)) (S 11))) (O (eC (.int 9803)) (O (eC (.int 3)) Zf)))) (eC (.int 0))))) (C9 12 (S 2)) Bv)
  (C9 10 (Zr (Zm 12)))))
def JZ:SF :=
 (Zv (AY 10 (Bz Zf))
  (Zv (CV 11 (Z5 (S 2)) J0)
  (C9 8 (Zr (Lg (Zm 10) (Bz (O (b0 (Zm 10) (S 7)) Zf)))))))
def Nj:SF :=
 (Zv (WV 2 3 4 5 6 (S 0))
  (Zv (ZS 7 (bZ Ck (S 1) (S 2)))
  (Zv (AY 8 (Bz Zf))
  (Zv (CV 9 (ZF (cu (S 3))) JZ)
  (Zv (ZS 13 (Zr (Zp (ZF (cu (S 4))) Zw (EU (S 0) (Bi (O (b0 (Zm 0) (S 8)) Zf))))))
  (Zv (dS (tV (CZ (S 7) (Zm 6))) (ZS 6 (EU (S 6) (Bi (O (S 2) Zf)))) Bv)
  (ZT (Bi (O (bZ Ay (S 2) (eC (.int 1))) (O (Zr (Zm 8)) (O (S 13) (O (EU (S 5) (L7 (Bi (O (S 2) Zf)) (bZ Ck (S 1) (eC (.int 2))))) (O (S 6) Zf)))))))))))))
def HC:List D->Option D:=fnOf 2 14 Nj
end HG27
namespace HGN
open PySem HM
variable{i j n:Nat}
section
variable{K K':Type}[DecidableEq K][DecidableEq K']
theorem Lw:∀(ms seen:List K),(Bj seen ms).length=ms.length
 |[],_=>rfl
 |m::ms,seen=>by
  unfold Bj;split
  .rw[A2,A2,Lw]
  .rw[A2,A2,Lw]
theorem Mi:∀(ps pw:List (K×K')),(∀p∈pw++ps,∀q∈pw++ps,p.1=q.1↔p.2=q.2)->Bj (pw.map (·.1)) (ps.map (·.1))=Bj (pw.map (·.2)) (ps.map (·.2))
 |[],pw,_=>rfl
 |p::ps,pw,h=>by
  have hf:(pw.map (·.1)).findIdx? (λx=>decide (x=p.1))=(pw.map (·.2)).findIdx? (λx=>decide (x=p.2)):=by
   rw[List.findIdx?_map,List.findIdx?_map];have hp:p∈pw++p::ps:=A1 _ (Au ..);have:∀T:List (K×K'),(∀q∈T,q∈pw++p::ps)->T.findIdx? ((λx=>decide (x=p.1))∘(·.1))=T.findIdx? ((λx=>decide (x=p.2))∘(·.2)):=by
    intro T
    induction T with
    |nil=>intro _;rfl
    |cons q T ih =>
     intro hT;have e:((λx=>decide (x=p.1))∘(·.1)) q=((λx=>decide (x=p.2))∘(·.2)) q:=by show decide (q.1=p.1)=decide (q.2=p.2);rw[Em,decide_eq_true_iff,decide_eq_true_iff];exact h q (hT q (Au ..)) p hp
     rw[KH,KH,e,ih λx hx=>hT x (Av _ hx)]
   exact this pw λq hq=>Fv _ hq
  rw[Am,Am];unfold Bj;rw[hf];split
  .rw[Mi ps pw λa ha b hb=>h a ?_ b ?_]
   .rcases Bk.mp ha with ha|ha
    .exact Fv _ ha
    .exact A1 _ (Av _ ha)
   .rcases Bk.mp hb with hb|hb
    .exact Fv _ hb
    .exact A1 _ (Av _ hb)
  .have ih:=Mi ps (pw++[p]) (by rw[Cc];exact h)
   rw[Bf,Bf]at ih;rw[Ae,Ae];congr 1
theorem Jd:∀(ms seen:List K),seen.Nodup->∃all:List K,all.Nodup/\(∃r,all=seen++r)/\(∀m∈ms,m∈all)/\(∀x∈all,x∈seen\/x∈ms)/\∀(i:Nat) (m:K) (v:Int),ms[i]?=some m->(Bj seen ms)[i]?=some v->∃j:Nat,v=(j:Int)/\all[j]?=some m
 |[],seen,h=>⟨seen,h,⟨[],by simp⟩,by simp,λx hx=>.inl hx,λi m v h=>by simp at h⟩
 |m::ms,seen,h=>by
  unfold Bj;split
  .rename_i j hj
   obtain⟨all,nd,⟨r,hr⟩,h1,h2,h3⟩:=Jd ms seen h;obtain⟨cq,hp,_⟩:=KN.mp hj;have hp:seen[j]=m:=of_decide_eq_true hp;refine⟨all,nd,⟨r,hr⟩,λx hx=>?_,λx hx=>(h2 x hx).imp id (Av _),λi x v hx hv=>?_⟩
   .rcases Ao.mp hx with rfl|hx
    .rw[hr];exact Fv _ (hp▸CL cq)
    .exact h1 x hx
   .cases i with
    |zero=>rw[DV]at hx hv;cases hx;cases hv;refine⟨j,rfl,?_⟩;rw[hr,Cd cq,AB cq,hp]
    |succ i=>rw[Bo]at hx hv;exact h3 i x v hx hv
  .rename_i hn
   have hm:m∉seen:=λz=>by rw[IB]at hn;have:=hn m z;simp at this
   obtain⟨all,nd,⟨r,hr⟩,h1,h2,h3⟩:=Jd ms (seen++[m]) (Ig.mpr ⟨h,by simp,λa ha b hb e=>by rw[AR]at hb;subst hb;subst e;exact hm ha⟩);refine⟨all,nd,⟨m::r,by rw[hr,Cc];rfl⟩,λx hx=>?_,λx hx=>?_,λi x v hx hv=>?_⟩
   .rcases Ao.mp hx with rfl|hx
    .rw[hr];simp
    .exact h1 x hx
   .rcases h2 x hx with z|z
    .rcases Bk.mp z with z|z
     .exact .inl z
     .rw[AR.mp z];exact .inr (Au ..)
    .exact .inr (Av _ z)
   .cases i with
    |zero=>rw[DV]at hx hv;cases hx;cases hv;refine⟨seen.length,rfl,?_⟩;rw[hr,Cc,Ce (Af _)];simp
    |succ i=>rw[Bo]at hx hv;exact h3 i x v hx hv
theorem Ou{ms seen:List K}(nd:seen.Nodup){m:K}{v:Int}(h:ms[j]?=some m)(hv:(Bj seen ms)[j]?=some v)(hn:m∉seen):(seen.length:Int)<=v:=by
 obtain⟨all,_,⟨r,hr⟩,_,_,h3⟩:=Jd ms seen nd;obtain⟨k,rfl,hk⟩:=h3 j m v h hv
 by_cases cq:k<seen.length
 .rw[hr,Cd cq]at hk
  exact absurd (Dq hk) hn
 .omega
theorem Lj:∀(ms seen:List K),seen.Nodup->∀(i j:Nat) (m:K) (u v:Int),i<j->ms[j]?=some m->m∉seen->(∀l,l<j->ms[l]?≠some m)->(Bj seen ms)[i]?=some u->(Bj seen ms)[j]?=some v->u<v
 |[],_,_,i,j,m,u,v,_,h,_,_,_,_=>by simp at h
 |x::ms,seen,nd,i,j,m,u,v,kX,h,hn,hl,hu,hv=>by
  obtain⟨j,rfl⟩:∃j',j=j'+1:=⟨j-1,by omega⟩;rw[Bo]at h;have hl':∀l,l<j->ms[l]?≠some m:=λl cq=>by
   have:=hl (l+1) (by omega)
   rwa [Bo]at this
  have hx:x≠m:=λe=>hl 0 (by omega) (by rw[DV,e]);unfold Bj at hu hv;split at hu
  .rename_i t ht
   rw[ht]at hv;dsimp only at hv;rw[Bo]at hv;cases i with
   |zero=>rw[DV]at hu;cases hu;obtain⟨cq,_⟩:=KN.mp ht;have:=Ou nd h hv hn;omega
   |succ i=>rw[Bo]at hu;exact Lj ms seen nd i j m u v (by omega) h hn hl' hu hv
  .rename_i ht
   rw[ht]at hv;dsimp only at hv;rw[Bo]at hv;have eS:x∉seen:=λz=>by rw[IB]at ht;have:=ht x z;simp at this
   have nd':(seen++[x]).Nodup:=Ig.mpr ⟨nd,by simp,λa ha b hb e=>by rw[AR]at hb;subst hb;subst e;exact eS ha⟩;have hn':m∉seen++[x]:=λz=>by
    rcases Bk.mp z with z|z
    .exact hn z
    .exact hx (AR.mp z).symm
   cases i with
   |zero=>rw[DV]at hu;cases hu;have:=Ou nd' h hv hn';rw[Az,KG]at this;omega
   |succ i=>rw[Bo]at hu;exact Lj ms (seen++[x]) nd' i j m u v (by omega) h hn' hl' hu hv
def ka(kd:List Int)(i:Nat):Int:=(kd[i]?).getD 0
def Zx(n:Nat)(f:Nat->K):List Int:=Bj [] ((Ab n).map f)
theorem LW(n:Nat)(f:Nat->K):(Zx n f).length=n:=by unfold Zx;rw[Lw,Ae,AO]
theorem LQ{f:Nat->K}(h:i<n):(Zx n f)[i]?=some (ka (Zx n f) i):=by unfold ka;rw[AB (by rw[LW];exact h)];rfl
theorem LZ{f:Nat->K}(h:i<n):((Ab n).map f)[i]?=some (f i):=by rw[AQ,Fi h];rfl
theorem LX(n:Nat)(f:Nat->K):∃all:List K,all.Nodup/\all.length<=n/\(∀i,i<n->∃j:Nat,ka (Zx n f) i=(j:Int)/\all[j]?=some (f i))/\∀x∈all,∃i,i<n/\f i=x:=by
 obtain⟨all,nd,_,_,h2,h3⟩:=Jd ((Ab n).map f) [] Dr;have hx:∀x∈all,∃i,i<n/\f i=x:=λx hx=>by
  rcases h2 x hx with z|z
  .simp at z
  .obtain⟨i,hi,e⟩:=Aj.mp z
   exact⟨i,As.mp hi,e⟩
 refine⟨all,nd,?_,λi hi=>h3 i _ _ (LZ hi) (LQ hi),hx⟩;have:=NQ nd (λx h=>by obtain⟨i,hi,e⟩:=hx x h;exact Aj.mpr ⟨i,As.mpr hi,e⟩:∀x∈all,x∈(Ab n).map f)
 rwa [Ae,AO]at this
theorem DB{f:Nat->K}(hi:i<n)(hj:j<n):ka (Zx n f) i=ka (Zx n f) j↔f i=f j:=by
 obtain⟨all,nd,_,h,_⟩:=LX n f;obtain⟨a,ha,ga⟩:=h i hi;obtain⟨b,hb,gb⟩:=h j hj;rw[ha,hb]
 constructor
 .intro e
  obtain rfl:a=b:=by omega
  exact Bl (ga.symm.trans gb)
 .intro e
  rw[<-e]at gb;have:=(J6 (AE.mp ga).1 nd).mp (ga.trans gb.symm);omega
theorem Sz{f:Nat->K}(hi:i<n):0<=ka (Zx n f) i/\ka (Zx n f) i<n:=by obtain⟨all,nd,hl,h,_⟩:=LX n f;obtain⟨a,ha,ga⟩:=h i hi;have:=(AE.mp ga).1;omega
theorem MB{f:Nat->K}{g:Nat->K'}(h:∀i j,i<n->j<n->(f i=f j↔g i=g j)):Zx n f=Zx n g:=by have:=Mi ((Ab n).map λi=>(f i,g i)) [] (λp hp q hq=>by rw[Ip]at hp hq;obtain⟨i,hi,rfl⟩:=Aj.mp hp;obtain⟨j,hj,rfl⟩:=Aj.mp hq;exact h i j (As.mp hi) (As.mp hj));rw[Aq,Aq]at this;exact this
theorem Mc(n:Nat)(f:Nat->K):Zx n (ka (Zx n f))=Zx n f:=MB λ_ _ hi hj=>DB hi hj
def AV(n:Nat)(e:Nat->Nat->Bool)(i:Nat):List Nat:=(Ab n).filter (e i)
def Bp(n:Nat)(e:Nat->Nat->Bool):List Nat:=(Ab n).filter λi=>decide ((AV n e i).head?=some i)
theorem Je{l1 l2:List Int}(h1:l1.Pairwise (· < ·))(h2:l2.Pairwise (· < ·))(h:∀x,x∈l1↔x∈l2):l1=l2:=by
 induction l1 generalizing l2 with
 |nil =>
  cases l2 with
  |nil=>rfl
  |cons y l2=>exact absurd ((h y).mpr (Au ..)) (by simp)
 |cons x l1 ih =>
  cases l2 with
  |nil=>exact absurd ((h x).mp (Au ..)) (by simp)
  |cons y l2 =>
   obtain⟨p1,q1⟩:=B4.mp h1;obtain⟨p2,q2⟩:=B4.mp h2;have e:x=y:=by
    rcases Ao.mp ((h x).mp (Au ..))with e|e
    .exact e
    .rcases Ao.mp ((h y).mpr (Au ..))with e'|e'
     .exact e'.symm
     .have:=p1 y e';have:=p2 x e;omega
   subst e;congr 1;refine ih q1 q2 λz=>?_
   constructor
   .intro hz
    rcases Ao.mp ((h z).mp (Av _ hz))with e|e
    .subst e;have:=p1 z hz;omega
    .exact e
   .intro hz
    rcases Ao.mp ((h z).mpr (Av _ hz))with e|e
    .subst e;have:=p2 z hz;omega
    .exact e
theorem Qx(n:Nat)(f:Nat->K)(L:Nat)(hL:∀v:Int,(∃i,i<n/\ka (Zx n f) i=v)↔0<=v/\v<(L:Int)):(Bp n λi j=>decide (ka (Zx n f) j=ka (Zx n f) i)).map (λi=>ka (Zx n f) i)=(Ab L).map λ(k:Nat)=>(k:Int):=by
 generalize hE:(λi j=>decide (ka (Zx n f) j=ka (Zx n f) i))=e;have he:∀i j,e i j=true↔ka (Zx n f) j=ka (Zx n f) i:=λi j=>by rw[<-hE];simp
 have gT:∀i,i∈Bp n e↔i<n/\∀j,j<i->ka (Zx n f) j≠ka (Zx n f) i:=λi=>by
  unfold Bp AV;rw[B2,As,decide_eq_true_iff,List.head?_filter]
  constructor
  .rintro ⟨hi,hf⟩
   refine⟨hi,λj hj z=>?_⟩;obtain⟨_,as,bs,fN,iV⟩:=List.find?_eq_some_iff_append.mp hf;have bY:as.length=i:=by
    have h1:(as++i::bs)[as.length]?=some i:=by rw[Ce (Af _)];simp
    rw[<-fN]at h1;obtain⟨h2,h3⟩:=AE.mp h1;rw[Ih]at h3;exact h3
   have:j∈as:=by
    have h1:(as++i::bs)[j]?=some j:=by rw[<-fN,Fi (by omega)]
    rw[Cd (by omega)]at h1;exact Dq h1
   have:=iV j this;rw[(he i j).mpr z]at this;cases this
  .rintro ⟨hi,iV⟩
   refine⟨hi,?_⟩;rw[List.find?_range_eq_some];refine⟨(he i i).mpr rfl,As.mpr hi,λj hj=>?_⟩;cases q:e i j with
   |false=>rfl
   |true=>exact absurd ((he i j).mp q) (iV j hj)
 have key:(Bp n e).map (λi=>ka (Zx n f) i)=(Ab L).map λ(k:Nat)=>(k:Int):=by
  refine Je ?_ ?_ λv=>?_
  .rw[Gz]
   have:(Bp n e).Pairwise (· < ·):=Kq.sublist (List.filter_sublist ..);refine(IC.mpr λa b ha hb fN=>?_);have cq:=(IC.mp this) a b ha hb fN;obtain⟨h1,h2⟩:=(gT _).mp (CL hb);have hi:=((gT _).mp (CL ha)).1;refine Lj ((Ab n).map f) [] Dr _ _ _ _ _ cq (LZ h1) (by simp) (λl hl z=>?_) (LQ hi) (LQ h1);rw[LZ (by omega)]at z;exact h2 l hl ((DB (by omega) h1).mpr (Bl z))
  .rw[Gz]
   exact Kq.imp λh=>by omega
  .rw[Aj,Aj]
   constructor
   .rintro ⟨i,hi,rfl⟩
    obtain⟨h1,h2⟩:=(hL _).mp ⟨i,((gT i).mp hi).1,rfl⟩;exact⟨(ka (Zx n f) i).toNat,As.mpr (by omega),by omega⟩
   .rintro ⟨k,hk,rfl⟩
    obtain⟨i,hi,hv⟩:=(hL (k:Int)).mpr ⟨by omega,by have:=As.mp hk;omega⟩;have:∃j,j<=i/\ka (Zx n f) j=ka (Zx n f) i/\∀l,l<j->ka (Zx n f) l≠ka (Zx n f) i:=by
     have go:∀m j,j<=i->j<=m->ka (Zx n f) j=ka (Zx n f) i->∃j,j<=i/\ka (Zx n f) j=ka (Zx n f) i/\∀l,l<j->ka (Zx n f) l≠ka (Zx n f) i:=by
      intro m
      induction m with
      |zero=>intro j hj hm e;exact⟨j,hj,e,λl hl=>by omega⟩
      |succ m ih =>
       intro j hj hm e
       by_cases z:∃l,l<j/\ka (Zx n f) l=ka (Zx n f) i
       .obtain⟨l,hl,e'⟩:=z
        exact ih l (by omega) (by omega) e'
       .exact⟨j,hj,e,λl hl e'=>z ⟨l,hl,e'⟩⟩
     exact go i i (Af _) (Af _) rfl
    obtain⟨j,hj,e1,e2⟩:=this;exact⟨j,(gT j).mpr ⟨by omega,λl hl z=>e2 l hl (z.trans e1)⟩,e1.trans hv⟩
 exact key
theorem X0(n:Nat)(f:Nat->K)(L:Nat)(hL:∀v:Int,(∃i,i<n/\ka (Zx n f) i=v)↔0<=v/\v<(L:Int)):((Ab L).map λ(k:Nat)=>(Ab n).filter λi=>decide (ka (Zx n f) i=(k:Int)))=(Bp n λi j=>decide (ka (Zx n f) j=ka (Zx n f) i)).map (AV n λi j=>decide (ka (Zx n f) j=ka (Zx n f) i)):=by
 have key:=Qx n f L hL;generalize hE:(λi j=>decide (ka (Zx n f) j=ka (Zx n f) i))=e at key ⊢;have h2:(Bp n e).map (AV n e)=((Bp n e).map (λi=>ka (Zx n f) i)).map λv=>(Ab n).filter λi=>decide (ka (Zx n f) i=v):=by rw[Aq];refine Dp λi _=>?_;show(Ab n).filter (e i)=_;refine List.filter_congr λj _=>?_;rw[<-hE]
 rw[h2,key,Aq];rfl
end
end HGN
namespace HGD
open PySem HM
open HG
open HG4
variable{r:HM.Env}{a:SF}{c:TF}
theorem Ja{g:D->D->Option D}{e f:EF}{x y:D}{b:Bool}(h1:e r=some x)(h2:f r=some y)(h:g x y=some (.bool b)):tV (bZ g e f) r=some b:=by unfold tV bZ;rw[h1,h2];dsimp only;rw[h]
theorem Jb{b:SF}(h:c r=some true):dS c a b r=a r:=by unfold dS;rw[h]
theorem IZ{b:SF}(h:c r=some false):dS c a b r=b r:=by unfold dS;rw[h]
end HGD
namespace HG27
open PySem HM HGN
open HG
open HG4
open HGD
section
variable{a:EF}{r:HM.Env}{dd:List (List Int)}{ds:List D}{c kd:List Int}{i n:Nat}
theorem Cm{d:D}(h:a r=some d):AG (ZT a r)=some d:=by unfold ZT;rw[h];rfl
theorem O1{b:EF}{x y:D}(h1:a r=some x)(h2:b r=some y):Bi (O a (O b Zf)) r=some (.tuple [x,y]):=by simp[h1,h2]
theorem C7{f:BF}{xs:List D}(h:f r=some (.ol xs)):Zr f r=some (.tuple xs):=by unfold Zr;rw[h];rfl
theorem cA{m:List D->Option D}{a:AF}{d:D}(h1:a r=some ds)(h2:m ds=some d):Ze m a r=some d:=by unfold Ze;rw[h1];exact h2
def cv(dd:List (List Int))(i:Nat):List Int:=(dd[i]?).getD []
def cL(l:List Int)(i:Nat):Int:=(l[i]?).getD 0
def fm(w:Wk)(i:Nat):Bool×List Int:=(w.goal.contains (i:Int),w.looks.map λl=>cL l i)
def Zz(kd c:List Int):List Int:=sortI (cY [] (c.map λs=>ka kd s.toNat))
def nm(w:Wk)(kd:List Int)(i:Nat):Int×List (List Int):=(ka kd i,w.deeds.map λdd=>Zz kd (cv dd i))
def gz(p:Bool×List Int):D:=.tuple [.bool p.1,bV p.2]
def gp(p:Int×List (List Int)):D:=.tuple [.int p.1,.tuple (p.2.map bV)]
theorem Ro(ks:List (Bool×List Int)):DZ jW (ks.map gz)=some ks:=by
 induction ks with
 |nil=>rfl
 |cons k ks ih =>
  rw[Am];unfold DZ;have:jW (gz k)=some k:=by show(BC (k.2.map dI)).map (λns=>(k.1,ns))=some k;rw[CI];rfl
  rw[this];dsimp only;rw[ih];rfl
theorem Rt(ks:List (Int×List (List Int))):DZ kD (ks.map gp)=some ks:=by
 induction ks with
 |nil=>rfl
 |cons k ks ih =>
  rw[Am];unfold DZ;have:kD (gp k)=some k:=by show(FE (k.2.map bV)).map (λns=>(k.1,ns))=some k;rw[V0];rfl
  rw[this];dsimp only;rw[ih];rfl
theorem RH(ks:List (Int×List (List Int)))(h:ks≠[]):DZ jW (ks.map gp)=none:=by
 cases ks with
 |nil=>exact absurd rfl h
 |cons k ks=>rfl
theorem OM{ns:List Int}(h:ED ds=some ns):Ed [.list ds]=some (.list (ns.map dI)):=by show AG (Oa [some (.pl (.list ds)),none,none,none])=_;unfold Oa;refine AX (P:=λq=>AG q=_) (r':=[some (.pl (.list ds)),some (.ot []),none,none]) rfl ?_;refine AX (P:=λq=>AG q=_) (r':=[some (.pl (.list ds)),some (.ot []),some (.ol []),none]) rfl ?_;refine AX (P:=λq=>AG q=_) (r':=[some (.pl (.list ds)),none,some (.ol (ns.map AM)),none]) ?_ rfl;show(ED ds).map _=_;rw[h];rfl
theorem V8(hn:n<1000)(f:Nat->Bool×List Int):Ed [.list ((Ab n).map λi=>gz (f i))]=some (.list ((Zx n f).map dI)):=by
 have e:((Ab n).map λi=>gz (f i))=((Ab n).map f).map gz:=by rw[Aq];rfl
 have h:ED ((Ab n).map λi=>gz (f i))=some (Zx n f):=by unfold ED;rw[if_pos (by rw[Ae,AO];exact hn),e,Ro];rfl
 exact OM h
theorem Wn(hn:n<1000)(h0:0<n)(f:Nat->Int×List (List Int)):Ed [.list ((Ab n).map λi=>gp (f i))]=some (.list ((Zx n f).map dI)):=by
 have e:((Ab n).map λi=>gp (f i))=((Ab n).map f).map gp:=by rw[Aq];rfl
 have dr:(Ab n).map f≠[]:=λz=>by have:=congrArg A5 z;rw[Ae,AO]at this;simp at this;omega
 have h:ED ((Ab n).map λi=>gp (f i))=some (Zx n f):=by unfold ED;rw[if_pos (by rw[Ae,AO];exact hn),e,RH _ dr,Rt];rfl
 exact OM h
theorem Jf(hl:dd.length=n)(hi:i<n):eR (dd.map bV) (i:Int)=some (bV (cv dd i)):=by refine C2 ?_;unfold cv;rw[AQ,AB (by omega)];rfl
theorem Hi{l:List Int}(hl:l.length=n)(hi:i<n):eR (l.map dI) (i:Int)=some (.int (cL l i)):=by refine C2 ?_;unfold cL;rw[AQ,AB (by omega)];rfl
theorem K5(hl:kd.length=n)(hi:i<n):eR (kd.map dI) (i:Int)=some (.int (ka kd i)):=Hi hl hi
theorem Cj{w:Wk}(hv:Wk.V w)(hd:dd∈w.deeds)(i:Nat):Cr w.many (cv dd i):=by
 unfold cv;cases h:dd[i]? with
 |none=>exact⟨by simp,by simp⟩
 |some c=>exact hv.dc dd hd c (Dq h)
section
variable{w:Wk}(hv:Wk.V w)
include hv
theorem X4(hi:i<w.many):E7 [w.d,.int (i:Int)]=some (gz (fm w i)):=by
 have l2:=hv.l2;have hg:Ee [w.d]=some (bV w.goal):=rfl;have hl:=Q8 w;show AG (Ri [some (.pl w.d),some (.pl (.int i))])=_;have h1:CZ (S 1) (cu (Ze Ee (O (S 0) Zf))) [some (.pl w.d),some (.pl (.int i))]=some (.bool (w.goal.contains (i:Int))):=by simp[hg,GN,CI,-IM]
 have h2:Zp (ZF (cu (Ze ZY (O (S 0) Zf)))) Zw (b0 (Zm 0) (S 2)) [some (.pl w.d),some (.pl (.int i))]=some (.ol ((w.looks.map λl=>cL l i).map dI)):=by
  have hI:ZF (cu (Ze ZY (O (S 0) Zf))) [some (.pl w.d),some (.pl (.int i))]=some (w.looks.map bV):=by have:Ze ZY (O (S 0) Zf) [some (.pl w.d),some (.pl (.int i))]=some (.tuple (w.looks.map bV)):=hl;unfold ZF cu;rw[this];rfl
  have hg:Z4 Zw (b0 (Zm 0) (S 2)) [some (.pl w.d),some (.pl (.int i))] (w.looks.map bV)=some ((w.looks.map λl=>cL l i).map dI):=by
   rw[Z9 bV (λl=>dI (cL l i)),Aq]
   .rfl
   .intro l hl
    exact Hi (hv.ll l hl) hi
  unfold Zp;rw[hI];dsimp only;rw[if_pos (by rw[Ae];unfold big;omega),hg];rfl
 have h3:Zr (Zp (ZF (cu (Ze ZY (O (S 0) Zf)))) Zw (b0 (Zm 0) (S 2))) [some (.pl w.d),some (.pl (.int i))]=some (bV (w.looks.map λl=>cL l i)):=by unfold Zr;rw[h2];rfl
 exact Cm (O1 h1 h3)
theorem JP(h8:n<=8)(hl:kd.length=n)(hb:∀i,i<n->0<=ka kd i/\ka kd i<8)(hc:Cr n c):Z7 [bV c,.list (kd.map dI)]=some (bV (Zz kd c)):=by
 have cE:=hc.len;have hg:Z4 Zw (b0 (Zm 2) (S 0)) [some (.pl (bV c)),some (.pl (.list (kd.map dI)))] (c.map dI)=some ((c.map λs=>ka kd s.toNat).map dI):=by
  rw[Z9 dI (λs=>dI (ka kd s.toNat)),Aq]
  .rfl
  .intro s hs
   have:=hc.2 s hs;have e:s=((s.toNat:Nat):Int):=(Dm this.1).symm;show eR (kd.map dI) s=_;rw[e];exact K5 hl (by omega)
 have hf:Zp (ZF (cu (S 0))) Zw (b0 (Zm 2) (S 0)) [some (.pl (bV c)),some (.pl (.list (kd.map dI)))]=some (.ol ((c.map λs=>ka kd s.toNat).map dI)):=by have hI:ZF (cu (S 0)) [some (.pl (bV c)),some (.pl (.list (kd.map dI)))]=some (c.map dI):=rfl;unfold Zp;rw[hI];dsimp only;rw[if_pos (by rw[Ae];unfold big;omega),hg];rfl
 have iM:GQ (c.map λs=>ka kd s.toNat)=true:=by unfold GQ;refine B3.mpr λx hx=>?_;obtain⟨s,hs,rfl⟩:=Aj.mp hx;have h1:=hc.2 s hs;have:=hb s.toNat (by omega);rw[decide_eq_true this.1,decide_eq_true this.2];rfl
 have hs:J1 (Zp (ZF (cu (S 0))) Zw (b0 (Zm 2) (S 0))) [some (.pl (bV c)),some (.pl (.list (kd.map dI)))]=some (.ol ((Zz kd c).map dI)):=by unfold J1;rw[hf];show(match BC ((c.map λs=>ka kd s.toNat).map dI)with|some ns=>_|none=>_)=_;rw[CI];dsimp only;rw[if_pos iM];rfl
 exact Cm (C7 hs)
theorem XM(hl:kd.length=w.many)(hb:∀i,i<w.many->0<=ka kd i/\ka kd i<8)(hi:i<w.many):E2 [w.d,.int (i:Int),.list (kd.map dI)]=some (gp (nm w kd i)):=by
 have d2:=hv.d2;have hm:=hv.m2;have hd:=Ra w;have h1:b0 (Zm 2) (S 1) [some (.pl w.d),some (.pl (.int (i:Int))),some (.pl (.list (kd.map dI)))]=some (.int (ka kd i)):=K5 hl hi;have hg:Z4 Zw (Ze Z7 (O (b0 (Zm 0) (S 2)) (O (S 3) Zf))) [some (.pl w.d),some (.pl (.int (i:Int))),some (.pl (.list (kd.map dI)))] (w.deeds.map Zg)=some ((w.deeds.map λdd=>Zz kd (cv dd i)).map bV):=by
  rw[Z9 Zg (λdd=>bV (Zz kd (cv dd i))),Aq]
  .rfl
  .intro dd dg
   have hr:b0 (Zm 0) (S 2) (some (.pl (Zg dd))::[some (.pl w.d),some (.pl (.int (i:Int))),some (.pl (.list (kd.map dI)))])=some (bV (cv dd i)):=Jf (hv.dl dd dg) hi;have ha:O (b0 (Zm 0) (S 2)) (O (S 3) Zf) (some (.pl (Zg dd))::[some (.pl w.d),some (.pl (.int (i:Int))),some (.pl (.list (kd.map dI)))])=some [bV (cv dd i),.list (kd.map dI)]:=by generalize b0 (Zm 0) (S 2)=E at hr ⊢;simp[hr]
   unfold Ze;rw[ha];exact JP hv hm hl hb (Cj hv dg i)
 have h2:Zr (Zp (ZF (cu (Ze ZX (O (S 0) Zf)))) Zw (Ze Z7 (O (b0 (Zm 0) (S 2)) (O (S 3) Zf)))) [some (.pl w.d),some (.pl (.int (i:Int))),some (.pl (.list (kd.map dI)))]=some (.tuple ((w.deeds.map λdd=>Zz kd (cv dd i)).map bV)):=by
  have hI:ZF (cu (Ze ZX (O (S 0) Zf))) [some (.pl w.d),some (.pl (.int (i:Int))),some (.pl (.list (kd.map dI)))]=some (w.deeds.map Zg):=by have:Ze ZX (O (S 0) Zf) [some (.pl w.d),some (.pl (.int (i:Int))),some (.pl (.list (kd.map dI)))]=some (.tuple (w.deeds.map Zg)):=hd;unfold ZF cu;rw[this];rfl
  have hf:Zp (ZF (cu (Ze ZX (O (S 0) Zf)))) Zw (Ze Z7 (O (b0 (Zm 0) (S 2)) (O (S 3) Zf))) [some (.pl w.d),some (.pl (.int (i:Int))),some (.pl (.list (kd.map dI)))]=some (.ol ((w.deeds.map λdd=>Zz kd (cv dd i)).map bV)):=by unfold Zp;rw[hI];dsimp only;rw[if_pos (by rw[Ae];unfold big;omega),hg];rfl
  unfold Zr;rw[hf];rfl
 exact Cm (O1 h1 h2)
theorem Rb(E:EF)(r:HM.Env)(g:Nat->D)(h:∀i,i<w.many->E (some (.pl (.int (i:Int)))::r)=some (g i))(h0:r[0]?=some (some (.pl w.d))):gH (Zp (Z5 (Ze ZN (O (S 0) Zf))) Zw E) r=some (.list ((Ab w.many).map g)):=by
 have hm:=hv.m2;have hs:=X2 w;have hok:fC (w.many:Int)=true:=DE (by omega);have hi:Z5 (Ze ZN (O (S 0) Zf)) r=some ((Ab w.many).map dN):=by
  have:Ze ZN (O (S 0) Zf) r=some (.int w.many):=by
   have:O (S 0) Zf r=some [w.d]:=by simp[h0]
   unfold Ze;rw[this];exact hs
  generalize Ze ZN (O (S 0) Zf)=X at this ⊢;simp[this,hok,Z0]
 have hg:Z4 Zw E r ((Ab w.many).map dN)=some ((Ab w.many).map g):=Z9 dN g _ λi hi=>h i (As.mp hi);have hf:Zp (Z5 (Ze ZN (O (S 0) Zf))) Zw E r=some (.ol ((Ab w.many).map g)):=by unfold Zp;rw[hi];dsimp only;rw[if_pos (by rw[Ae,AO];unfold big;omega),hg];rfl
 show(Zp _ _ _ r).bind frz=_;rw[hf];rfl
theorem VB(hl:kd.length=w.many)(hb:∀i,i<w.many->0<=ka kd i/\ka kd i<8):EO [w.d,.list (kd.map dI)]=some (.list ((Zx w.many (nm w kd)).map dI)):=by
 have hm:=hv.m2;have h:=Rb hv (Ze E2 (O (S 1) (O (S 0) (O (S 2) Zf)))) [some (.pl w.d),some (.pl (.list (kd.map dI)))] (λi=>gp (nm w kd i)) (λi hi=>XM hv hl hb hi) rfl;have ha:O (gH (Zp (Z5 (Ze ZN (O (S 0) Zf))) Zw (Ze E2 (O (S 1) (O (S 0) (O (S 2) Zf)))))) Zf [some (.pl w.d),some (.pl (.list (kd.map dI)))]=some [.list ((Ab w.many).map λi=>gp (nm w kd i))]:=by generalize gH (Zp (Z5 (Ze ZN (O (S 0) Zf))) Zw (Ze E2 (O (S 1) (O (S 0) (O (S 2) Zf)))))=X at h ⊢;simp[h]
 exact Cm (cA ha (Wn (by omega) hv.m1 _))
def mV(w:Wk)(N:Nat->Nat->Prop):Prop:=∀i j,i<w.many->j<w.many->N i j->fm w i=fm w j/\∀dd∈w.deeds,(∀t∈cv dd i,∃t'∈cv dd j,N t.toNat t'.toNat)/\∀t'∈cv dd j,∃t∈cv dd i,N t.toNat t'.toNat
structure AZ(w:Wk)(kd:List Int):Prop where
 len:kd.length=w.many
 can:Zx w.many (ka kd)=kd
 fmr:∀i j,i<w.many->j<w.many->ka kd i=ka kd j->fm w i=fm w j
 bis:∀N,mV w N->∀i j,i<w.many->j<w.many->N i j->ka kd i=ka kd j
omit hv in
theorem AZ.b(I:AZ w kd)(hi:i<w.many):0<=ka kd i/\ka kd i<w.many:=by
 have:=Sz (f:=ka kd) hi
 rwa [I.can]at this
theorem AZ.b8(I:AZ w kd):∀i,i<w.many->0<=ka kd i/\ka kd i<8:=λi hi=>by have:=I.b hi;have:=hv.m2;omega
theorem Ww:AZ w (Zx w.many (fm w)) :=
 ⟨LW _ _,Mc _ _,λi j hi hj h=>(DB hi hj).mp h,λN hN i j hi hj h=>(DB hi hj).mpr (hN i j hi hj h).1⟩
omit hv in
theorem CD{x:Int}:x∈Zz kd c↔∃s∈c,ka kd s.toNat=x:=by unfold Zz;rw[(sortI_perm _).mem_iff,Jy];simp
omit hv in
theorem G3(kd c:List Int):(Zz kd c).Pairwise (· < ·):=by unfold Zz;exact Ml (O7 _) ((sortI_perm _).nodup_iff.mpr (JQ _ _ Dr))
theorem Wv(I:AZ w kd):AZ w (Zx w.many (nm w kd)):=by
 refine⟨LW _ _,Mc _ _,λi j hi hj h=>?_,λN hN i j hi hj h=>?_⟩
 .have h:=(DB hi hj).mp h
  exact I.fmr i j hi hj (congrArg (·.1) h)
 .refine(DB hi hj).mpr ?_
  obtain⟨_,hd⟩:=hN i j hi hj h;unfold nm;rw[I.bis N hN i j hi hj h];congr 1;refine Dp λdd dg=>?_;obtain⟨h1,h2⟩:=hd dd dg;have kL:=(Cj hv dg i).2;have kK:=(Cj hv dg j).2;refine Je (G3 _ _) (G3 _ _) λx=>?_;rw[CD,CD]
  constructor
  .rintro ⟨s,hs,rfl⟩
   obtain⟨t,ht,dM⟩:=h1 s hs;have:=kL s hs;have:=kK t ht;exact⟨t,ht,(I.bis N hN _ _ (by omega) (by omega) dM).symm⟩
  .rintro ⟨s,hs,rfl⟩
   obtain⟨t,ht,dM⟩:=h2 s hs;have:=kK s hs;have:=kL t ht;exact⟨t,ht,I.bis N hN _ _ (by omega) (by omega) dM⟩
def iq(n:Nat):List (Nat×Nat):=(Ab n).flatMap λi=>(Ab n).map λj=>(i,j)
omit hv in
theorem OL{j:Nat}:(i,j)∈iq n↔i<n/\j<n:=by
 unfold iq;rw[List.mem_flatMap]
 constructor
 .rintro ⟨a,ha,h⟩
  obtain⟨b,hb,e⟩:=Aj.mp h;cases e;exact⟨As.mp ha,As.mp hb⟩
 .rintro ⟨h1,h2⟩
  exact⟨i,As.mpr h1,Aj.mpr ⟨j,As.mpr h2,rfl⟩⟩
def mu(n:Nat)(kd:List Int):Nat:=(iq n).countP λp=>decide (ka kd p.1=ka kd p.2)
omit hv in
theorem Qe{α:Type}{p q:α->Bool}:∀(l:List α),(∀x∈l,q x=true->p x=true)->(∃x∈l,p x=true/\q x=false)->l.countP q<l.countP p
 |[],_,⟨x,hx,_⟩=>by simp at hx
 |y::l,h,⟨x,hx,h1,h2⟩=>by
  have my:l.countP q<=l.countP p:=List.countP_mono_left λz hz=>h z (Av _ hz);rw[List.countP_cons,List.countP_cons];rcases Ao.mp hx with rfl|hx
  .rw[h1,h2]
   simp;omega
  .have ih:=Qe l (λz hz=>h z (Av _ hz)) ⟨x,hx,h1,h2⟩
   cases hq:q y with
   |true=>rw[h y (Au ..) hq];simp;omega
   |false=>cases p y<;>simp<;>omega
theorem RT(I:AZ w kd)(dr:Zx w.many (nm w kd)≠kd):mu w.many (Zx w.many (nm w kd))<mu w.many kd:=by
 have gU:∀i j,i<w.many->j<w.many->ka (Zx w.many (nm w kd)) i=ka (Zx w.many (nm w kd)) j->ka kd i=ka kd j:=λi j hi hj h=>congrArg (·.1) ((DB hi hj).mp h);refine Qe _ (λp hp h=>?_) ?_
 .obtain⟨h1,h2⟩:=OL.mp (show(p.1,p.2)∈iq w.many from hp)
  exact decide_eq_true (gU _ _ h1 h2 (of_decide_eq_true h))
 .apply Nu
  intro z;refine dr ?_;rw[<-Mc,MB (g:=ka kd),I.can];intro i j hi hj
  constructor
  .exact gU i j hi hj
  .intro h
   apply Nu;intro hn;exact z ⟨(i,j),OL.mpr ⟨hi,hj⟩,decide_eq_true h,decide_eq_false hn⟩
omit hv in
theorem Vt(a b:List Int):jv (.list (a.map dI)) (.list (b.map dI))=some (.bool (!decide (a=b))):=by
 have h:=OQ 1 (.list (a.map dI)) (.list (b.map dI)) (Js 0 a) ⟨1,Js 0 b⟩;unfold jv;rw[Hr (Js 0 a) (by decide),Hr (Js 0 b) (by decide),if_pos (by rfl)];congr 3;rw[Em,h,decide_eq_true_iff]
 constructor
 .intro e
  injection e with e
  have:=congrArg BC e;rw[CI,CI]at this;exact Bl this
 .intro e
  rw[e]
theorem QH:∀(dB:Nat) (kd:List Int),AZ w kd->mu w.many kd<dB ->∃kd':List Int,HL (tV (bZ jv (Ze EO (O (S 0) (O (S 1) Zf))) (S 1))) HE dB [some (.pl w.d),some (.pl (.list (kd.map dI)))]=some (.nx [some (.pl w.d),some (.pl (.list (kd'.map dI)))])/\AZ w kd'/\Zx w.many (nm w kd')=kd'
 |0,kd,_,h=>by omega
 |dB+1,kd,I,h=>by
  have hf:=VB hv I.len (I.b8 hv);have hc:Ze EO (O (S 0) (O (S 1) Zf)) [some (.pl w.d),some (.pl (.list (kd.map dI)))]=some (.list ((Zx w.many (nm w kd)).map dI)):=hf;have ht:=Ja (g:=jv) (f:=S 1) hc rfl (Vt _ _);rw[HL,ht]
  by_cases e:Zx w.many (nm w kd)=kd
  .refine⟨kd,?_,I,e⟩
   rw[decide_eq_true e];rfl
  .obtain⟨kd',g,pA⟩:=QH dB (Zx w.many (nm w kd)) (Wv hv I) (by have:=RT hv I e;omega)
   refine⟨kd',?_,pA⟩;rw[decide_eq_false e,<-g];show(match HE [some (.pl w.d),some (.pl (.list (kd.map dI)))]with|some (.nx r')=>_|some (.ct r')=>_|some (.bk r')=>_|some (.rt d)=>_|none=>_)=_;have:HE [some (.pl w.d),some (.pl (.list (kd.map dI)))]=some (.nx [some (.pl w.d),some (.pl (.list ((Zx w.many (nm w kd)).map dI)))]):=by unfold HE ZS;rw[hc];rfl
   rw[this]
theorem Rc:∃kd:List Int,Ec [w.d]=some (.list (kd.map dI))/\AZ w kd/\Zx w.many (nm w kd)=kd:=by
 have hm:=hv.m2;have h:=Rb hv (Ze E7 (O (S 1) (O (S 0) Zf))) [some (.pl w.d),none] (λi=>gz (fm w i)) (λi hi=>X4 hv hi) rfl;have bY:(iq w.many).length<=64:=by
  have key:∀l:List Nat,(l.flatMap λi=>(Ab w.many).map λj=>(i,j)).length=l.length*w.many:=by
   intro l
   induction l with
   |nil=>simp
   |cons x l ih=>rw[List.flatMap_cons,Az,ih,Ae,AO,A2,Nat.succ_mul,HV]
  unfold iq;rw[key,AO];exact Kd hm hm
 have nW:∀kd,mu w.many kd<100000:=λkd=>by have:=List.countP_le_length (p:=λp:Nat×Nat=>decide (ka kd p.1=ka kd p.2)) (l:=iq w.many);unfold mu;omega
 obtain⟨kd,g,pA⟩:=QH hv 100000 (Zx w.many (fm w)) (Ww hv) (nW _);refine⟨kd,?_,pA⟩;show AG (MA [some (.pl w.d),none])=_;unfold MA;have ha:O (gH (Zp (Z5 (Ze ZN (O (S 0) Zf))) Zw (Ze E7 (O (S 1) (O (S 0) Zf))))) Zf [some (.pl w.d),none]=some [.list ((Ab w.many).map λi=>gz (fm w i))]:=by generalize gH (Zp (Z5 (Ze ZN (O (S 0) Zf))) Zw (Ze E7 (O (S 1) (O (S 0) Zf))))=X at h ⊢;simp[h]
 refine AX (P:=λq=>AG q=_) (r':=[some (.pl w.d),some (.pl (.list ((Zx w.many (fm w)).map dI)))]) ?_ ?_
 .unfold ZS
  rw[cA ha (V8 (by omega) _)];rfl
 .exact AX (P:=λq=>AG q=_) g rfl
end
end
def eK(kd:List Int)(i j:Nat):Bool:=decide (ka kd j=ka kd i)
theorem Pd(a b:Int):dU (.int a) (.int b)=some (.bool (decide (a=b))):=by unfold dU;rw[Hr (Lk 1 a) (by decide),Hr (Lk 1 b) (by decide),if_pos (by rfl)];rfl
section
variable{w:Wk}(hv:Wk.V w){kd:List Int}(I:AZ w kd)
include hv I
theorem Y7(k:Int):F5 [.list (kd.map dI),.int k]=some (.list (((Ab w.many).filter λi=>decide (ka kd i=k)).map dN)):=by
 have hm:=hv.m2;have hok:fC (w.many:Int)=true:=DE (by omega);have bY:B6 (Zm 0) [some (.pl (.list (kd.map dI))),some (.pl (.int k))]=some (.int (w.many:Int)):=by simp[I.len]
 have hi:Z5 (B6 (Zm 0)) [some (.pl (.list (kd.map dI))),some (.pl (.int k))]=some ((Ab w.many).map dN):=by generalize B6 (Zm 0)=X at bY ⊢;simp[bY,hok,Z0]
 have hg:Z4 (tV (bZ dU (b0 (Zm 1) (S 0)) (S 2))) (S 0) [some (.pl (.list (kd.map dI))),some (.pl (.int k))] ((Ab w.many).map dN)=some (((Ab w.many).filter λi=>decide (ka kd i=k)).map dN):=by
  rw[Hu dN (λi=>decide (ka kd i=k)) dN]
  .intro i hi
   exact Ja (K5 I.len (As.mp hi)) rfl (Pd _ _)
  .intro i _ _
   rfl
 refine Cm ?_;show(Zp _ _ _ _).bind frz=_;have hf:Zp (Z5 (B6 (Zm 0))) (tV (bZ dU (b0 (Zm 1) (S 0)) (S 2))) (S 0) [some (.pl (.list (kd.map dI))),some (.pl (.int k))]=some (.ol (((Ab w.many).filter λi=>decide (ka kd i=k)).map dN)):=by unfold Zp;rw[hi];dsimp only;rw[if_pos (by rw[Ae,AO];unfold big;omega),hg];rfl
 exact(congrArg (λq:Option B=>q.bind frz) hf).trans rfl
theorem OS:∃L:Nat,L<=8/\kd.max?=some ((L:Int)-1)/\∀v:Int,(∃i,i<w.many/\ka kd i=v)↔0<=v/\v<(L:Int):=by
 have mr:=hv.m1;have hm:=hv.m2;obtain⟨all,nd,hl,h1,h2⟩:=LX w.many (ka kd);rw[I.can]at h1;have hv':∀v:Int,(∃i,i<w.many/\ka kd i=v)↔0<=v/\v<(all.length:Int):=λv=>by
  constructor
  .rintro ⟨i,hi,rfl⟩
   obtain⟨j,hj,g⟩:=h1 i hi;have:=(AE.mp g).1;omega
  .rintro ⟨v0,v1⟩
   have cq:v.toNat<all.length:=by omega
   obtain⟨i,hi,e⟩:=h2 _ (CL cq);obtain⟨j,hj,g⟩:=h1 i hi;refine⟨i,hi,?_⟩;have g2:all[v.toNat]?=some (ka kd i):=by rw[AB cq,e]
   have:=(J6 cq nd).mp (g2.trans g.symm);omega
 refine⟨all.length,by omega,?_,hv'⟩;obtain⟨h3,h4⟩:=(hv' (ka kd 0)).mp ⟨0,mr,rfl⟩;rw[NN]
 constructor
 .obtain⟨i,hi,e⟩:=(hv' ((all.length:Int)-1)).mpr ⟨by omega,by omega⟩
  rw[<-e];unfold ka;rw[AB (by rw[I.len];exact hi)];exact CL _
 .intro x hx
  obtain⟨i,hi,e⟩:=IJ hx;have:ka kd i=x:=by unfold ka;rw[AB hi];exact e
  have:=((hv' x).mp ⟨i,by rw[<-I.len];exact hi,this⟩).2;omega
theorem PL(hk:Ec [w.d]=some (.list (kd.map dI))):ZP [w.d]=some (.list ((Bp w.many (eK kd)).map λi=>.list ((AV w.many (eK kd) i).map dN))):=by
 have hm:=hv.m2;obtain⟨L,mI,nV,hL⟩:=OS hv I;have hZ:=X0 w.many (ka kd) L (by rw[I.can];exact hL);rw[I.can]at hZ;have hc:=MF hv;have hok:fC (L:Int)=true:=DE (by omega);have hi:Z5 (bZ Ay (FF (Zm 1)) (eC (.int 1))) [some (.pl w.d),some (.pl (.list (kd.map dI)))]=some ((Ab L).map dN):=by
  have hx:FF (Zm 1) [some (.pl w.d),some (.pl (.list (kd.map dI)))]=some (.int ((L:Int)-1)):=by show(match BC (kd.map dI)with|some ns=>ns.max?.map λi=>AM i|none=>none)=_;rw[CI];dsimp only;rw[nV];rfl
  have ha:bZ Ay (FF (Zm 1)) (eC (.int 1)) [some (.pl w.d),some (.pl (.list (kd.map dI)))]=some (.int (L:Int)):=by unfold bZ;rw[hx];show some (AM ((L:Int)-1+1))=_;rw[show(L:Int)-1+1=L by omega]
  generalize bZ Ay (FF (Zm 1)) (eC (.int 1))=X at ha ⊢;simp[ha,hok,Z0]
 have hg:Z4 Zw (Ze F5 (O (S 2) (O (S 0) Zf))) [some (.pl w.d),some (.pl (.list (kd.map dI)))] ((Ab L).map dN)=some ((Bp w.many (eK kd)).map λi=>.list ((AV w.many (eK kd) i).map dN)):=by
  rw[Z9 dN (λ(k:Nat)=>.list (((Ab w.many).filter λi=>decide (ka kd i=(k:Int))).map dN))]
  .have:(Bp w.many (eK kd)).map (λi=>PyData.list ((AV w.many (eK kd) i).map dN))=((Bp w.many (eK kd)).map (AV w.many (eK kd))).map λc=>PyData.list (c.map dN):=by rw[Aq];rfl
   rw[this];have hZ:((Ab L).map λ(k:Nat)=>(Ab w.many).filter λi=>decide (ka kd i=(k:Int)))=(Bp w.many (eK kd)).map (AV w.many (eK kd)):=hZ;rw[<-hZ,Aq];rfl
  .intro k _
   exact cA rfl (Y7 hv I (k:Int))
 show AG (Nd [some (.pl w.d),none])=_;unfold Nd;refine AX (P:=λq=>AG q=_) (r':=[some (.pl w.d),none]) (by simp[hc]) ?_;refine AX (P:=λq=>AG q=_) (r':=[some (.pl w.d),some (.pl (.list (kd.map dI)))]) (by simp[hk]) ?_;refine Cm ?_;have hf:Zp (Z5 (bZ Ay (FF (Zm 1)) (eC (.int 1)))) Zw (Ze F5 (O (S 2) (O (S 0) Zf))) [some (.pl w.d),some (.pl (.list (kd.map dI)))]=some (.ol ((Bp w.many (eK kd)).map λi=>.list ((AV w.many (eK kd) i).map dN))):=by unfold Zp;rw[hi];dsimp only;rw[if_pos (by rw[Ae,AO];unfold big;omega),hg];rfl
 exact(congrArg (λq:Option B=>q.bind frz) hf).trans rfl
end
theorem D6{α:Type}{i:Nat}{body:SF}(g:α->D)(xs:List α)(P:List α->HM.Env->Prop)(h:∀pre x post r,xs=pre++x::post->P pre r->∃r',body (r.set i (some (.pl (g x))))=some (.nx r')/\P (pre++[x]) r'):∀r,P [] r->∃r',BN i body (xs.map g) r=some (.nx r')/\P xs r':=by
 have key:∀(post pre:List α) (r:HM.Env),xs=pre++post->P pre r->∃r',BN i body (post.map g) r=some (.nx r')/\P xs r':=by
  intro post
  induction post with
  |nil=>intro pre r e hr;rw[B1]at e;subst e;exact⟨r,rfl,hr⟩
  |cons x post ih=>intro pre r e hr;obtain⟨r',eb,hr'⟩:=h pre x post r e hr;obtain⟨r2,e2,h2⟩:=ih (pre++[x]) r' (by rw[e,Cc];rfl) hr';refine⟨r2,?_,h2⟩;rw[Am,BN,eb];exact e2
 exact λr hr=>key xs [] r rfl hr
def ZG(w:Wk)(kd:List Int)(i:Nat):D:=.list ((AV w.many (eK kd) i).map dN)
section
variable{dd:List (List Int)}{acc:List D}{c:List Int}{n:Nat}
def olV(w:Wk)(c:Int):Nat:=(c%(w.many:Int)).toNat
def ki(w:Wk)(c:Int)(dd:List (List Int))(s:Nat):Bool:=(cv dd s).contains (olV w c:Int)&&decide (0<ZK (c+13*(s:Int)) 9803 3)
def eF(w:Wk)(c:Int)(dd:List (List Int))(s:Nat):List Int:=if ki w c dd s then cv dd s++[(w.many:Int)]else cv dd s
def ez(w:Wk)(c:Int)(dd:List (List Int)):List (List Int):=(Ab w.many).map (eF w c dd)++[eF w c dd (olV w c)]
def dX(w:Wk)(c:Int):Wk where
 many:=w.many+1
 deeds:=w.deeds.map (ez w c)
 looks:=w.looks.map λl=>l++[cL l (olV w c)]
 beg:=w.beg++(Ak (c%2).toNat [(w.many:Int)]).flatten
 goal:=if w.goal.contains (olV w c:Int)then w.goal++[(w.many:Int)]else w.goal
theorem LD(h:Cr n c):Cr (n+1) (c++[(n:Int)]):=by
 refine⟨List.pairwise_append.mpr ⟨h.1,by simp,λa ha b hb=>?_⟩,λx hx=>?_⟩
 .rw[AR.mp hb]
  exact(h.2 a ha).2
 .rcases Bk.mp hx with hx|hx
  .have:=h.2 x hx
   omega
  .rw[AR.mp hx]
   omega
theorem K1(h:Cr n c):Cr (n+1) c:=⟨h.1,λx hx=>by have:=h.2 x hx;omega⟩
section
variable{w:Wk}(hv:Wk.V w)(h7:w.many<=7)(c:Int)
include hv
theorem K8:olV w c<w.many:=by have:=hv.m1;have h1:=Ke c (show(w.many:Int)≠0 by omega);have h2:=Int.emod_lt_of_pos c (show(0:Int)<w.many by omega);unfold olV;omega
theorem RN:c%(w.many:Int)=((olV w c:Nat):Int):=by have:=hv.m1;have h1:=Ke c (show(w.many:Int)≠0 by omega);unfold olV;omega
theorem OE(hd:dd∈w.deeds)(s:Nat):Cr (w.many+1) (eF w c dd s):=by
 unfold eF;split
 .exact LD (Cj hv hd s)
 .exact K1 (Cj hv hd s)
include h7
theorem Rm:Wk.V (dX w c):=by
 have hU:=K8 hv c;refine⟨by show 1<=w.many+1;omega,by show w.many+1<=8;omega,by show 1<=(w.deeds.map _).length;rw[Ae];exact hv.d1,by show(w.deeds.map _).length<=5;rw[Ae];exact hv.d2,λdd hd=>?_,λdd hd c' hc=>?_,by show(w.looks.map _).length<=4;rw[Ae];exact hv.l2,λl hl=>?_,λl hl x hx=>?_,?_,?_,?_⟩
 .obtain⟨d0,_,rfl⟩:=Aj.mp hd
  unfold ez;rw[Az,Ae,AO];rfl
 .obtain⟨d0,j8,rfl⟩:=Aj.mp hd
  unfold ez at hc;rcases Bk.mp hc with hc|hc
  .obtain⟨s,_,rfl⟩:=Aj.mp hc
   exact OE hv c j8 s
  .rw[AR.mp hc]
   exact OE hv c j8 _
 .obtain⟨l0,hW,rfl⟩:=Aj.mp hl
  rw[Az,hv.ll l0 hW];rfl
 .obtain⟨l0,hW,rfl⟩:=Aj.mp hl
  rcases Bk.mp hx with hx|hx
  .exact hv.lc l0 hW x hx
  .rw[AR.mp hx]
   unfold cL;rw[AB (by rw[hv.ll l0 hW];exact hU)];exact hv.lc l0 hW _ (CL _)
 .intro z
  exact hv.b1 (List.append_eq_nil_iff.mp z).1
 .show Cr (w.many+1) (w.beg++_)
  have h2:c%2=0\/c%2=1:=by omega
  rcases h2 with h2|h2
  .rw[h2]
   show Cr (w.many+1) (w.beg++[]);rw[B1];exact K1 hv.bc
  .rw[h2]
   exact LD hv.bc
 .show Cr (w.many+1) (if _ then _ else _)
  split
  .exact LD hv.gc
  .exact K1 hv.gc
theorem Ts(e0 e3 e4 e5 e6 e8 gn dW:Option B)(hd:dd∈w.deeds)(ha:acc.length<1000){s:Nat}(hs:s<w.many):∃dC,J0 [e0,some (.pl (.int c)),some (.pl (.int (w.many:Int))),e3,e4,e5,e6,some (.pl (.int (olV w c:Int))),e8,some (.pl (Zg dd)),some (.ol acc),some (.pl (.int (s:Int))),gn,dW]=some (.nx [e0,some (.pl (.int c)),some (.pl (.int (w.many:Int))),e3,e4,e5,e6,some (.pl (.int (olV w c:Int))),e8,some (.pl (Zg dd)),some (.ol (acc++[bV (eF w c dd s)])),some (.pl (.int (s:Int))),dC,dW]):=by
 have hm:=hv.m2;have hr:=(Cj hv hd s).len;have hx:b0 (Zm 9) (S 11) [e0,some (.pl (.int c)),some (.pl (.int (w.many:Int))),e3,e4,e5,e6,some (.pl (.int (olV w c:Int))),e8,some (.pl (Zg dd)),some (.ol acc),some (.pl (.int (s:Int))),gn,dW]=some (bV (cv dd s)):=Jf (hv.dl dd hd) hs;have s1:AY 12 (Hz (cu (b0 (Zm 9) (S 11)))) [e0,some (.pl (.int c)),some (.pl (.int (w.many:Int))),e3,e4,e5,e6,some (.pl (.int (olV w c:Int))),e8,some (.pl (Zg dd)),some (.ol acc),some (.pl (.int (s:Int))),gn,dW]=some (.nx [e0,some (.pl (.int c)),some (.pl (.int (w.many:Int))),e3,e4,e5,e6,some (.pl (.int (olV w c:Int))),e8,some (.pl (Zg dd)),some (.ol acc),some (.pl (.int (s:Int))),some (.ol ((cv dd s).map dI)),dW]):=by
  have:Hz (cu (b0 (Zm 9) (S 11))) [e0,some (.pl (.int c)),some (.pl (.int (w.many:Int))),e3,e4,e5,e6,some (.pl (.int (olV w c:Int))),e8,some (.pl (Zg dd)),some (.ol acc),some (.pl (.int (s:Int))),gn,dW]=some (.ol ((cv dd s).map dI)):=by unfold Hz cu;rw[hx];rfl
  unfold AY;rw[this];rfl
 have lP:=BV (c+13*(s:Int)) 9803 3 (by decide) (by decide);have t1:tV (CZ (S 7) (Zm 12)) [e0,some (.pl (.int c)),some (.pl (.int (w.many:Int))),e3,e4,e5,e6,some (.pl (.int (olV w c:Int))),e8,some (.pl (Zg dd)),some (.ol acc),some (.pl (.int (s:Int))),some (.ol ((cv dd s).map dI)),dW]=some ((cv dd s).contains (olV w c:Int)):=by simp[GN,CI,-IM]
 have t2:tV (bZ jx (Ze ZC (O (bZ Ay (S 1) (bZ Bc (eC (.int 13)) (S 11))) (O (eC (.int 9803)) (O (eC (.int 3)) Zf)))) (eC (.int 0))) [e0,some (.pl (.int c)),some (.pl (.int (w.many:Int))),e3,e4,e5,e6,some (.pl (.int (olV w c:Int))),e8,some (.pl (Zg dd)),some (.ol acc),some (.pl (.int (s:Int))),some (.ol ((cv dd s).map dI)),dW]=some (decide (0<ZK (c+13*(s:Int)) 9803 3)):=by have lF:ZL 13=true:=rfl;refine Ja (cA (ds:=[.int (c+13*(s:Int)),.int 9803,.int 3]) ?_ lP) rfl rfl;simp[lF]
 have tt:GZ (tV (CZ (S 7) (Zm 12))) (tV (bZ jx (Ze ZC (O (bZ Ay (S 1) (bZ Bc (eC (.int 13)) (S 11))) (O (eC (.int 9803)) (O (eC (.int 3)) Zf)))) (eC (.int 0)))) [e0,some (.pl (.int c)),some (.pl (.int (w.many:Int))),e3,e4,e5,e6,some (.pl (.int (olV w c:Int))),e8,some (.pl (Zg dd)),some (.ol acc),some (.pl (.int (s:Int))),some (.ol ((cv dd s).map dI)),dW]=some (ki w c dd s):=by
  unfold GZ ki;rw[t1];cases(cv dd s).contains (olV w c:Int)
  .rfl
  .exact t2
 have eQ:acc.length<1000000:=by omega
 unfold J0 eF;cases hc:ki w c dd s with
 |true =>
  rw[hc]at tt;refine⟨some (.ol (((cv dd s)++[(w.many:Int)]).map dI)),?_⟩;refine AX (P:=λq=>q=_) s1 ?_;refine AX (P:=λq=>q=_) (r':=[e0,some (.pl (.int c)),some (.pl (.int (w.many:Int))),e3,e4,e5,e6,some (.pl (.int (olV w c:Int))),e8,some (.pl (Zg dd)),some (.ol acc),some (.pl (.int (s:Int))),some (.ol (((cv dd s)++[(w.many:Int)]).map dI)),dW]) ?_ ?_
  .rw[Jb tt]
   have:(cv dd s).length<1000000:=by omega
   simp[this]
  .rw[if_pos rfl]
   generalize ((cv dd s)++[(w.many:Int)])=z;simp[eQ]
 |false=>rw[hc]at tt;refine⟨some (.ol ((cv dd s).map dI)),?_⟩;refine AX (P:=λq=>q=_) s1 ?_;refine AX (P:=λq=>q=_) (r':=[e0,some (.pl (.int c)),some (.pl (.int (w.many:Int))),e3,e4,e5,e6,some (.pl (.int (olV w c:Int))),e8,some (.pl (Zg dd)),some (.ol acc),some (.pl (.int (s:Int))),some (.ol ((cv dd s).map dI)),dW]) (by rw[IZ tt];rfl) ?_;rw[if_neg (by decide)];generalize cv dd s=z;simp[eQ]
theorem Tn(e0 e3 e4 e5 e6 iu jd gn dW:Option B)(hd:dd∈w.deeds)(ha:acc.length<1000):∃p10 cS dC,JZ [e0,some (.pl (.int c)),some (.pl (.int (w.many:Int))),e3,e4,e5,e6,some (.pl (.int (olV w c:Int))),some (.ol acc),some (.pl (Zg dd)),iu,jd,gn,dW]=some (.nx [e0,some (.pl (.int c)),some (.pl (.int (w.many:Int))),e3,e4,e5,e6,some (.pl (.int (olV w c:Int))),some (.ol (acc++[Zg (ez w c dd)])),some (.pl (Zg dd)),p10,cS,dC,dW]):=by
 have hm:=hv.m2;have hU:=K8 hv c;have hok:fC (w.many:Int)=true:=DE (by omega);have h:=D6 (i:=11) (body:=J0) dN (Ab w.many) (λpre r=>∃cS dC,r=[e0,some (.pl (.int c)),some (.pl (.int (w.many:Int))),e3,e4,e5,e6,some (.pl (.int (olV w c:Int))),some (.ol acc),some (.pl (Zg dd)),some (.ol (pre.map λs=>bV (eF w c dd s))),cS,dC,dW]) (λpre x post r e hr=>by
  obtain⟨cS,dC,rfl⟩:=hr;have hx:x∈Ab w.many:=by rw[e];exact A1 _ (Au ..)
  have hl:pre.length<=w.many:=by have:=congrArg A5 e;rw[AO,Az]at this;omega
  obtain⟨kC,eb⟩:=Ts hv h7 c e0 e3 e4 e5 e6 (some (.ol acc)) dC dW hd (acc:=pre.map λs=>bV (eF w c dd s)) (by rw[Ae];omega) (As.mp hx);exact⟨_,eb,some (.pl (.int (x:Int))),kC,by rw[Bf];rfl⟩)
 obtain⟨r',e,cS,dC,rfl⟩:=h [e0,some (.pl (.int c)),some (.pl (.int (w.many:Int))),e3,e4,e5,e6,some (.pl (.int (olV w c:Int))),some (.ol acc),some (.pl (Zg dd)),some (.ol []),jd,gn,dW] ⟨jd,gn,rfl⟩;refine⟨some (.ol ((Ab w.many).map λs=>bV (eF w c dd s))),cS,dC,?_⟩;unfold JZ;refine AX (P:=λq=>q=_) (r':=[e0,some (.pl (.int c)),some (.pl (.int (w.many:Int))),e3,e4,e5,e6,some (.pl (.int (olV w c:Int))),some (.ol acc),some (.pl (Zg dd)),some (.ol []),jd,gn,dW]) rfl ?_;refine AX (P:=λq=>q=_) (r':=[e0,some (.pl (.int c)),some (.pl (.int (w.many:Int))),e3,e4,e5,e6,some (.pl (.int (olV w c:Int))),some (.ol acc),some (.pl (Zg dd)),some (.ol ((Ab w.many).map λs=>bV (eF w c dd s))),cS,dC,dW]) ?_ ?_
 .have hi:Z5 (S 2) [e0,some (.pl (.int c)),some (.pl (.int (w.many:Int))),e3,e4,e5,e6,some (.pl (.int (olV w c:Int))),some (.ol acc),some (.pl (Zg dd)),some (.ol []),jd,gn,dW]=some ((Ab w.many).map dN):=by
   simp[hok,Z0]
  unfold CV;rw[hi];dsimp only;rw[if_pos (by rw[Ae,AO];unfold big;omega)];exact e
 .have hx:b0 (Zm 10) (S 7) [e0,some (.pl (.int c)),some (.pl (.int (w.many:Int))),e3,e4,e5,e6,some (.pl (.int (olV w c:Int))),some (.ol acc),some (.pl (Zg dd)),some (.ol ((Ab w.many).map λs=>bV (eF w c dd s))),cS,dC,dW]=some (bV (eF w c dd (olV w c))):=by
   refine C2 (ds:=(Ab w.many).map λs=>bV (eF w c dd s)) ?_;rw[AQ,Fi hU];rfl
  have hD:Zg (ez w c dd)=.tuple ((Ab w.many).map (λs=>bV (eF w c dd s))++[bV (eF w c dd (olV w c))]):=by unfold Zg ez;rw[Bf,Aq];rfl
  rw[hD];generalize b0 (Zm 10) (S 7)=E at hx ⊢;have hl:((Ab w.many).map λs=>bV (eF w c dd s)).length+1<1000000:=by rw[Ae,AO];omega
  have eQ:acc.length<1000000:=by omega
  generalize (Ab w.many).map (λs=>bV (eF w c dd s))=Z at *;simp[hx,hl,eQ]
theorem WT:HC [w.d,.int c]=some (dX w c).d:=by
 have hm:=hv.m2;have mr:=hv.m1;have d2:=hv.d2;have l2:=hv.l2;have hU:=K8 hv c;have lH:=RN hv c;have h:=D6 (i:=9) (body:=JZ) Zg w.deeds (λpre r=>∃p9 p10 cS dC,r=[some (.pl w.d),some (.pl (.int c)),some (.pl (.int (w.many:Int))),some (.pl (.tuple (w.deeds.map Zg))),some (.pl (.tuple (w.looks.map bV))),some (.pl (bV w.beg)),some (.pl (bV w.goal)),some (.pl (.int (olV w c:Int))),some (.ol (pre.map λdd=>Zg (ez w c dd))),p9,p10,cS,dC,none]) (λpre x post r e hr=>by
  obtain⟨p9,p10,cS,dC,rfl⟩:=hr;have hx:x∈w.deeds:=by rw[e];exact A1 _ (Au ..)
  have hl:pre.length<=w.deeds.length:=by rw[e,Az];omega
  obtain⟨jc,nj,kC,eb⟩:=Tn hv h7 c (some (.pl w.d)) (some (.pl (.tuple (w.deeds.map Zg)))) (some (.pl (.tuple (w.looks.map bV)))) (some (.pl (bV w.beg))) (some (.pl (bV w.goal))) p10 cS dC none hx (acc:=pre.map λdd=>Zg (ez w c dd)) (by rw[Ae];omega);exact⟨_,eb,some (.pl (Zg x)),jc,nj,kC,by rw[Bf];rfl⟩)
 obtain⟨r',e,p9,p10,cS,dC,rfl⟩:=h [some (.pl w.d),some (.pl (.int c)),some (.pl (.int (w.many:Int))),some (.pl (.tuple (w.deeds.map Zg))),some (.pl (.tuple (w.looks.map bV))),some (.pl (bV w.beg)),some (.pl (bV w.goal)),some (.pl (.int (olV w c:Int))),some (.ol []),none,none,none,none,none] ⟨none,none,none,none,rfl⟩;show AG (Nj [some (.pl w.d),some (.pl (.int c)),none,none,none,none,none,none,none,none,none,none,none,none])=_;unfold Nj;refine AX (P:=λq=>AG q=_) (r':=[some (.pl w.d),some (.pl (.int c)),some (.pl (.int (w.many:Int))),some (.pl (.tuple (w.deeds.map Zg))),some (.pl (.tuple (w.looks.map bV))),some (.pl (bV w.beg)),some (.pl (bV w.goal)),none,none,none,none,none,none,none]) rfl ?_;refine AX (P:=λq=>AG q=_) (r':=[some (.pl w.d),some (.pl (.int c)),some (.pl (.int (w.many:Int))),some (.pl (.tuple (w.deeds.map Zg))),some (.pl (.tuple (w.looks.map bV))),some (.pl (bV w.beg)),some (.pl (bV w.goal)),some (.pl (.int (olV w c:Int))),none,none,none,none,none,none]) ?_ ?_
 .have hp:(0:Int)<(w.many:Int):=by omega
  have hg:bZ Ck (S 1) (S 2) [some (.pl w.d),some (.pl (.int c)),some (.pl (.int (w.many:Int))),some (.pl (.tuple (w.deeds.map Zg))),some (.pl (.tuple (w.looks.map bV))),some (.pl (bV w.beg)),some (.pl (bV w.goal)),none,none,none,none,none,none,none]=some (.int (olV w c:Int)):=by show(if(0:Int)<(w.many:Int)then some (AM (c%(w.many:Int)))else none)=_;rw[if_pos hp,lH]
  unfold ZS;rw[hg];rfl
 refine AX (P:=λq=>AG q=_) (r':=[some (.pl w.d),some (.pl (.int c)),some (.pl (.int (w.many:Int))),some (.pl (.tuple (w.deeds.map Zg))),some (.pl (.tuple (w.looks.map bV))),some (.pl (bV w.beg)),some (.pl (bV w.goal)),some (.pl (.int (olV w c:Int))),some (.ol []),none,none,none,none,none]) rfl ?_;refine AX (P:=λq=>AG q=_) (r':=[some (.pl w.d),some (.pl (.int c)),some (.pl (.int (w.many:Int))),some (.pl (.tuple (w.deeds.map Zg))),some (.pl (.tuple (w.looks.map bV))),some (.pl (bV w.beg)),some (.pl (bV w.goal)),some (.pl (.int (olV w c:Int))),some (.ol (w.deeds.map λdd=>Zg (ez w c dd))),p9,p10,cS,dC,none]) ?_ ?_
 .show(if(w.deeds.map Zg).length<big then _ else _)=_
  rw[if_pos (by rw[Ae];unfold big;omega)];exact e
 have hg:∀r:HM.Env,r[7]?=some (some (.pl (.int (olV w c:Int))))->Z4 Zw (EU (S 0) (Bi (O (b0 (Zm 0) (S 8)) Zf))) r (w.looks.map bV)=some ((w.looks.map λl=>l++[cL l (olV w c)]).map bV):=λr hr=>by
  rw[Z9 bV (λl=>bV (l++[cL l (olV w c)])),Aq]
  .rfl
  .intro l hl
   have kO:=hv.ll l hl;have hx:b0 (Zm 0) (S 8) (some (.pl (bV l))::r)=some (.int (cL l (olV w c))):=by
    have mh:S 8 (some (.pl (bV l))::r)=some (.int (olV w c:Int)):=by unfold S;rw[Bo,hr]
    generalize S 8=X at mh ⊢;show(match X (some (.pl (bV l))::r)with|some (.int i)=>eR (l.map dI) i|_=>none)=_;rw[mh];exact Hi kO hU
   have hb:(l.map dI).length+1<1000000:=by rw[Ae];omega
   generalize b0 (Zm 0) (S 8)=X at hx ⊢;have lQ:l.length+1<1000000:=by omega
   simp[hx,lQ]
 have cE:Zr (Zp (ZF (cu (S 4))) Zw (EU (S 0) (Bi (O (b0 (Zm 0) (S 8)) Zf)))) [some (.pl w.d),some (.pl (.int c)),some (.pl (.int (w.many:Int))),some (.pl (.tuple (w.deeds.map Zg))),some (.pl (.tuple (w.looks.map bV))),some (.pl (bV w.beg)),some (.pl (bV w.goal)),some (.pl (.int (olV w c:Int))),some (.ol (w.deeds.map λdd=>Zg (ez w c dd))),p9,p10,cS,dC,none]=some (.tuple ((dX w c).looks.map bV)):=by refine C7 ?_;have hI:ZF (cu (S 4)) [some (.pl w.d),some (.pl (.int c)),some (.pl (.int (w.many:Int))),some (.pl (.tuple (w.deeds.map Zg))),some (.pl (.tuple (w.looks.map bV))),some (.pl (bV w.beg)),some (.pl (bV w.goal)),some (.pl (.int (olV w c:Int))),some (.ol (w.deeds.map λdd=>Zg (ez w c dd))),p9,p10,cS,dC,none]=some (w.looks.map bV):=rfl;unfold Zp;rw[hI];dsimp only;rw[if_pos (by rw[Ae];unfold big;omega),hg _ rfl];rfl
 refine AX (P:=λq=>AG q=_) (r':=[some (.pl w.d),some (.pl (.int c)),some (.pl (.int (w.many:Int))),some (.pl (.tuple (w.deeds.map Zg))),some (.pl (.tuple (w.looks.map bV))),some (.pl (bV w.beg)),some (.pl (bV w.goal)),some (.pl (.int (olV w c:Int))),some (.ol (w.deeds.map λdd=>Zg (ez w c dd))),p9,p10,cS,dC,some (.pl (.tuple ((dX w c).looks.map bV)))]) (by unfold ZS;rw[cE];rfl) ?_;have hgl:=hv.gc.len;have j9:=hv.bc.len;refine AX (P:=λq=>AG q=_) (r':=[some (.pl w.d),some (.pl (.int c)),some (.pl (.int (w.many:Int))),some (.pl (.tuple (w.deeds.map Zg))),some (.pl (.tuple (w.looks.map bV))),some (.pl (bV w.beg)),some (.pl (bV (dX w c).goal)),some (.pl (.int (olV w c:Int))),some (.ol (w.deeds.map λdd=>Zg (ez w c dd))),p9,p10,cS,dC,some (.pl (.tuple ((dX w c).looks.map bV)))]) ?_ ?_
 .have ht:tV (CZ (S 7) (Zm 6)) [some (.pl w.d),some (.pl (.int c)),some (.pl (.int (w.many:Int))),some (.pl (.tuple (w.deeds.map Zg))),some (.pl (.tuple (w.looks.map bV))),some (.pl (bV w.beg)),some (.pl (bV w.goal)),some (.pl (.int (olV w c:Int))),some (.ol (w.deeds.map λdd=>Zg (ez w c dd))),p9,p10,cS,dC,some (.pl (.tuple ((dX w c).looks.map bV)))]=some (w.goal.contains (olV w c:Int)):=by
   simp[GN,CI,-IM]
  have cC:(dX w c).goal=if w.goal.contains (olV w c:Int)then w.goal++[(w.many:Int)]else w.goal:=rfl
  rw[cC];cases hq:w.goal.contains (olV w c:Int)with
  |true =>
   rw[hq]at ht;rw[Jb ht,if_pos rfl];have hb:w.goal.length+1<1000000:=by omega
   simp[hb]
  |false=>rw[hq]at ht;rw[IZ ht];rfl
 refine Cm ?_;have jE:EU (S 5) (L7 (Bi (O (S 2) Zf)) (bZ Ck (S 1) (eC (.int 2)))) [some (.pl w.d),some (.pl (.int c)),some (.pl (.int (w.many:Int))),some (.pl (.tuple (w.deeds.map Zg))),some (.pl (.tuple (w.looks.map bV))),some (.pl (bV w.beg)),some (.pl (bV (dX w c).goal)),some (.pl (.int (olV w c:Int))),some (.ol (w.deeds.map λdd=>Zg (ez w c dd))),p9,p10,cS,dC,some (.pl (.tuple ((dX w c).looks.map bV)))]=some (bV (dX w c).beg):=by
  have gF:(dX w c).beg=w.beg++(Ak (c%2).toNat [(w.many:Int)]).flatten:=rfl;rw[gF];have h2:c%2=0\/c%2=1:=by omega
  have f7:bZ Ck (S 1) (eC (.int 2)) [some (.pl w.d),some (.pl (.int c)),some (.pl (.int (w.many:Int))),some (.pl (.tuple (w.deeds.map Zg))),some (.pl (.tuple (w.looks.map bV))),some (.pl (bV w.beg)),some (.pl (bV (dX w c).goal)),some (.pl (.int (olV w c:Int))),some (.ol (w.deeds.map λdd=>Zg (ez w c dd))),p9,p10,cS,dC,some (.pl (.tuple ((dX w c).looks.map bV)))]=some (.int (c%2)):=rfl;have hb:w.beg.length+1<1000000:=by omega
  have hb':w.beg.length<1000000:=by omega
  generalize bZ Ck (S 1) (eC (.int 2))=X at f7 ⊢;rcases h2 with h2|h2
  .rw[h2]at f7 ⊢
   simp[f7,hb']
  .rw[h2]at f7 ⊢
   simp[f7,hb]
 generalize EU (S 5) (L7 (Bi (O (S 2) Zf)) (bZ Ck (S 1) (eC (.int 2))))=E at jE ⊢;have dg:(dX w c).d=.tuple [.int ((w.many:Int)+1),.tuple (w.deeds.map λdd=>Zg (ez w c dd)),.tuple ((dX w c).looks.map bV),bV (dX w c).beg,bV (dX w c).goal]:=by unfold Wk.d;show CN [.int ((w.many+1:Nat):Int),.tuple ((w.deeds.map (ez w c)).map Zg),_,_,_]=_;rw[Aq];rfl
 rw[dg];simp[jE]
end
end
end HG27
namespace HG28
open PySem HM
open HG
open HG27
def Xb:SF :=
 (ZT (b0 (Zm 0) (eC (.int 3))))
def JT:List D->Option D:=fnOf 1 1 Xb
def YQ:SF :=
 (ZT (Zr (Zp (ZF (cu (S 1))) Zw (Ze Z7 (O (b0 (Zm 1) (S 0)) (O (S 3) Zf))))))
def FY:List D->Option D:=fnOf 3 3 YQ
def YO:SF :=
 (ZT (Zr (Zp (ZF (cu (S 1))) Zw (b0 (Zm 1) (S 0)))))
def FW:List D->Option D:=fnOf 2 2 YO
def Mg:SF :=
 (Zv (O3 (Ze C8 (O (S 0) Zf)))
  (Zv (ZS 1 (Ze Ec (O (S 0) Zf)))
  (Zv (AY 2 (Zp (ZF (cu (Ze ZP (O (S 0) Zf)))) Zw (b0 (Zm 0) (eC (.int 0)))))
  (Zv (IU 2 (ZS 3 (Zr (Zp (ZF (cu (Ze ZX (O (S 0) Zf)))) Zw (Ze FY (O (S 0) (O (S 3) (O (S 2) Zf))))))))
  (Zv (IU 2 (ZS 4 (Zr (Zp (ZF (cu (Ze ZY (O (S 0) Zf)))) Zw (Ze FW (O (S 0) (O (S 3) Zf)))))))
  (ZT (Bi (O (B6 (Zm 2)) (O (S 3) (O (S 4) (O (Ze Z7 (O (Ze JT (O (S 0) Zf)) (O (S 1) Zf))) (O (Ze Z7 (O (Ze Ee (O (S 0) Zf)) (O (S 1) Zf))) Zf))))))))))))
def Ea:List D->Option D:=fnOf 1 5 Mg
def JG:SF :=
 (dS (GY (Zp (ZF (cu (S 4))) (tV (CZ (S 0) (Zm 2))) (S 0))) (C9 2 (S 3)) Bv)
def MV:SF :=
 (Zv (AY 2 (Bz Zf))
  (Zv (PY 3 4 (QF (S 0)) JG)
  (ZT (Zr (Zm 2)))))
def CG:List D->Option D:=fnOf 2 5 MV
def G8:SF :=
 (C9 3 (Zr (Zp (ZF (cu (S 2))) Zw (Ze CG (O (S 3) (O (b0 (Zm 5) (b0 (Zm 0) (eC (.int 0)))) Zf))))))
def Lo:SF :=
 (Zv (ZS 1 (Ze DI (O (S 0) (O (eC (.int 1)) Zf))))
  (Zv (dS (tV (bZ dU (bZ Ck (Ze ZJ (O (S 0) (O (eC (.int 0)) Zf))) (eC (.int 3))) (eC (.int 1)))) (ZS 1 (Ze HC (O (S 1) (O (Ze ZJ (O (S 0) (O (eC (.int 0)) Zf))) Zf)))) Bv)
  (Zv (ZS 2 (Ze ZP (O (S 1) Zf)))
  (Zv (AY 3 (Bz Zf))
  (Zv (CV 4 (ZF (cu (b0 (Zm 1) (eC (.int 1))))) G8)
  (Zv (ZS 5 (Zr (Zp (ZF (cu (b0 (Zm 1) (eC (.int 2))))) Zw (Zr (Zp (ZF (cu (S 3))) Zw (b0 (Zm 1) (b0 (Zm 0) (eC (.int 0)))))))))
  (Zv (ZS 6 (Bi (O (B6 (Zm 2)) (O (Zr (Zm 3)) (O (S 5) (O (Ze CG (O (S 2) (O (b0 (Zm 1) (eC (.int 3))) Zf))) (O (Ze CG (O (S 2) (O (b0 (Zm 1) (eC (.int 4))) Zf))) Zf)))))))
  (Zv (ZS 7 (Ze Ea (O (S 1) Zf)))
  (ZT (CB (bZ dU (S 7) (S 6)) (CB (bZ dU (Ze Ea (O (S 7) Zf)) (S 6)) (bZ dU (Ze C8 (O (S 7) Zf)) (S 6)))))))))))))
def EG:List D->Option D:=fnOf 1 8 Lo
end HG28
namespace HG28
open PySem HM HGN
open HG
open HG4
open HG27
open HGD
section
variable{i:Nat}
def bX(w:Wk)(kd:List Int):List Nat:=Bp w.many (eK kd)
def cz(w:Wk)(kd:List Int):Wk where
 many:=(bX w kd).length
 deeds:=w.deeds.map λdd=>(bX w kd).map λf=>Zz kd (cv dd f)
 looks:=w.looks.map λl=>(bX w kd).map λf=>cL l f
 beg:=Zz kd w.beg
 goal:=Zz kd w.goal
section
variable{w:Wk}(hv:Wk.V w){kd:List Int}(I:AZ w kd)
include hv I
theorem SU:∃L:Nat,L<=8/\(bX w kd).map (λi=>ka kd i)=(Ab L).map (λ(k:Nat)=>(k:Int))/\∀v:Int,(∃i,i<w.many/\ka kd i=v)↔0<=v/\v<(L:Int):=by obtain⟨L,mI,_,hL⟩:=OS hv I;have:=Qx w.many (ka kd) L (by rw[I.can];exact hL);rw[I.can]at this;exact⟨L,mI,this,hL⟩
theorem B8:1<=(bX w kd).length/\(bX w kd).length<=8/\((bX w kd).map (λi=>ka kd i)=(Ab (bX w kd).length).map λ(k:Nat)=>(k:Int))/\∀v:Int,(∃i,i<w.many/\ka kd i=v)↔0<=v/\v<((bX w kd).length:Int):=by
 obtain⟨L,h8,hm,hL⟩:=SU hv I;have e:(bX w kd).length=L:=by
  have:=congrArg A5 hm
  rwa [Ae,Ae,AO]at this
 rw[e];have:=(hL (ka kd 0)).mp ⟨0,hv.m1,rfl⟩;exact⟨by omega,h8,hm,hL⟩
theorem D5{k f:Nat}(h:(bX w kd)[k]?=some f):f<w.many/\ka kd f=(k:Int):=by
 obtain⟨_,_,hm,_⟩:=B8 hv I;have h1:((bX w kd).map (λi=>ka kd i))[k]?=some (ka kd f):=by rw[AQ,h];rfl
 rw[hm,AQ,Fi (AE.mp h).1]at h1;refine⟨?_,(Bl h1).symm⟩;have:=Dq h;unfold bX Bp at this;exact As.mp (B2.mp this).1
theorem Ox(hi:i<w.many):∃k f:Nat,ka kd i=(k:Int)/\k<(bX w kd).length/\(bX w kd)[k]?=some f/\f<w.many/\ka kd f=ka kd i:=by
 obtain⟨_,_,_,hL⟩:=B8 hv I;obtain⟨h0,h1⟩:=(hL _).mp ⟨i,hi,rfl⟩;have cq:(ka kd i).toNat<(bX w kd).length:=by omega
 have hg:(bX w kd)[(ka kd i).toNat]?=some (bX w kd)[(ka kd i).toNat]:=AB cq;obtain⟨h2,h3⟩:=D5 hv I hg;exact⟨(ka kd i).toNat,_,by omega,cq,hg,h2,by omega⟩
theorem Ji{c:List Int}(hc:Cr w.many c):Cr (bX w kd).length (Zz kd c):=by obtain⟨_,_,_,hL⟩:=B8 hv I;refine⟨G3 kd c,λx hx=>?_⟩;obtain⟨s,hs,rfl⟩:=CD.mp hx;have:=hc.2 s hs;exact(hL _).mp ⟨s.toNat,by omega,rfl⟩
theorem N0:Wk.V (cz w kd):=by
 obtain⟨h1,h8,_,hL⟩:=B8 hv I;refine⟨h1,h8,by show 1<=(w.deeds.map _).length;rw[Ae];exact hv.d1,by show(w.deeds.map _).length<=5;rw[Ae];exact hv.d2,λdd hd=>?_,λdd hd c hc=>?_,by show(w.looks.map _).length<=4;rw[Ae];exact hv.l2,λl hl=>?_,λl hl x hx=>?_,?_,Ji hv I hv.bc,Ji hv I hv.gc⟩
 .obtain⟨d0,_,rfl⟩:=Aj.mp hd
  rw[Ae];rfl
 .obtain⟨d0,j8,rfl⟩:=Aj.mp hd
  obtain⟨f,_,rfl⟩:=Aj.mp hc;exact Ji hv I (Cj hv j8 f)
 .obtain⟨l0,_,rfl⟩:=Aj.mp hl
  rw[Ae];rfl
 .obtain⟨l0,hW,rfl⟩:=Aj.mp hl
  obtain⟨f,hf,rfl⟩:=Aj.mp hx;obtain⟨k,hk⟩:=Ey hf;have dD:=(D5 hv I hk).1;unfold cL;rw[AB (by rw[hv.ll l0 hW];exact dD)];exact hv.lc l0 hW _ (CL _)
 .intro z
  obtain⟨s,hs⟩:=List.exists_mem_of_ne_nil _ hv.b1;have:ka kd s.toNat∈Zz kd w.beg:=CD.mpr ⟨s,hs,rfl⟩;have z:Zz kd w.beg=[]:=z;rw[z]at this;simp at this
theorem OA{dd:List (List Int)}(dM:Zx w.many (nm w kd)=kd)(hd:dd∈w.deeds){k:Nat}(hi:i<w.many)(hk:ka kd i=(k:Int)):cv ((bX w kd).map λf=>Zz kd (cv dd f)) k=Zz kd (cv dd i):=by
 obtain⟨k',f,e,hl,hg,hf,hZ⟩:=Ox hv I hi;obtain rfl:k'=k:=by omega
 unfold cv;rw[AQ,hg];have jn:nm w kd f=nm w kd i:=by have:=(DB (f:=nm w kd) hf hi).mp;rw[dM]at this;exact this hZ
 exact J5.mp (congrArg (·.2) jn) dd hd
theorem Ob{k:Nat}(hi:i<w.many)(hk:ka kd i=(k:Int)):fm (cz w kd) k=fm w i:=by
 obtain⟨k',f,e,hl,hg,hf,hZ⟩:=Ox hv I hi;obtain rfl:k'=k:=by omega
 have oe:=I.fmr f i hf hi hZ;have n9:(Zz kd w.goal).contains (k':Int)=w.goal.contains (i:Int):=by
  rw[Em,Di,Di,CD]
  constructor
  .rintro ⟨s,hs,es⟩
   have eT:=hv.gc.2 s hs;have h2:=I.fmr s.toNat i (by omega) hi (by rw[es,hk]);have h3:w.goal.contains ((s.toNat:Nat):Int)=w.goal.contains (i:Int):=congrArg (·.1) h2;rw[Dm eT.1]at h3;rw[<-Di,<-h3,Di];exact hs
  .intro h
   exact⟨(i:Int),h,hk⟩
 have j3:((w.looks.map λl=>(bX w kd).map λf=>cL l f).map λl=>cL l k')=w.looks.map λl=>cL l i:=by rw[Aq];refine Dp λl hl=>?_;have h1:cL l f=cL l i:=J5.mp (congrArg (·.2) oe) l hl;show cL ((bX w kd).map λf=>cL l f) k'=cL l i;rw[<-h1];show(((bX w kd).map λf=>cL l f)[k']?).getD 0=_;rw[AQ,hg];rfl
 unfold fm;show((Zz kd w.goal).contains (k':Int),(w.looks.map λl=>(bX w kd).map λf=>cL l f).map λl=>cL l k')=_;rw[n9,j3]
theorem UA(dM:Zx w.many (nm w kd)=kd){kd':List Int}(I':AZ (cz w kd) kd')(hst':Zx (cz w kd).many (nm (cz w kd) kd')=kd'){k l:Nat}(hk:k<(bX w kd).length)(hl:l<(bX w kd).length)(h:ka kd' k=ka kd' l):k=l:=by
 obtain⟨_,_,_,hL⟩:=B8 hv I;have hB:mV w λi j=>ka kd' (ka kd i).toNat=ka kd' (ka kd j).toNat:=by
  intro i j hi hj hN;obtain⟨i0,i1⟩:=(hL _).mp ⟨i,hi,rfl⟩;obtain⟨j0,j1⟩:=(hL _).mp ⟨j,hj,rfl⟩;have ei:ka kd i=(((ka kd i).toNat:Nat):Int):=(Dm i0).symm;have ej:ka kd j=(((ka kd j).toNat:Nat):Int):=(Dm j0).symm;have mC:(ka kd i).toNat<(cz w kd).many:=by show _<(bX w kd).length;omega
  have mB:(ka kd j).toNat<(cz w kd).many:=by show _<(bX w kd).length;omega
  refine⟨?_,λdd hd=>?_⟩
  .have:=I'.fmr _ _ mC mB hN
   rwa [Ob hv I hi ei,Ob hv I hj ej]at this
  .have jn:nm (cz w kd) kd' (ka kd i).toNat=nm (cz w kd) kd' (ka kd j).toNat:=by
    have:=(DB (f:=nm (cz w kd) kd') mC mB).mp;rw[hst']at this;exact this hN
   have jD:Zz kd' (Zz kd (cv dd i))=Zz kd' (Zz kd (cv dd j)):=by
    have h2:(w.deeds.map λdd=>(bX w kd).map λf=>Zz kd (cv dd f)).map (λd2=>Zz kd' (cv d2 (ka kd i).toNat))=(w.deeds.map λdd=>(bX w kd).map λf=>Zz kd (cv dd f)).map (λd2=>Zz kd' (cv d2 (ka kd j).toNat)):=congrArg (·.2) jn;have h3:=J5.mp h2 _ (Aj.mpr ⟨dd,hd,rfl⟩)
    rwa [OA hv I dM hd hi ei,OA hv I dM hd hj ej]at h3
   have kL:=(Cj hv hd i).2;have kK:=(Cj hv hd j).2;have key:∀x y:List Int,Zz kd' (Zz kd x)=Zz kd' (Zz kd y)->∀t∈x,∃t'∈y,ka kd' (ka kd t.toNat).toNat=ka kd' (ka kd t'.toNat).toNat:=λx y nE t ht=>by
    have h1:ka kd' (ka kd t.toNat).toNat∈Zz kd' (Zz kd y):=by rw[<-nE];exact CD.mpr ⟨_,CD.mpr ⟨t,ht,rfl⟩,rfl⟩
    obtain⟨z,hz,e1⟩:=CD.mp h1;obtain⟨t',ht',e2⟩:=CD.mp hz;exact⟨t',ht',by rw[e2,e1]⟩
   refine⟨key _ _ jD,λt' ht'=>?_⟩;obtain⟨t,ht,e⟩:=key _ _ jD.symm t' ht';exact⟨t,ht,e.symm⟩
 obtain⟨i,hi,ei⟩:=(hL (k:Int)).mpr ⟨by omega,by omega⟩;obtain⟨j,hj,ej⟩:=(hL (l:Int)).mpr ⟨by omega,by omega⟩;have:=I.bis _ hB i j hi hj (by show ka kd' (ka kd i).toNat=ka kd' (ka kd j).toNat;rw[ei,ej];exact h);omega
end
end
section
variable{i:Nat}
theorem OC:∀(m n:Nat),Bj (Ab n) ((Ab m).map λk=>n+k)=(Ab m).map λ(k:Nat)=>((n+k:Nat):Int)
 |0,n=>rfl
 |m+1,n=>by
  have h1:(Ab (m+1)).map (λk=>n+k)=n::(Ab m).map λk=>(n+1)+k:=by rw[NC,Am,Aq];congr 1;refine Dp λk _=>?_;show n+(k+1)=n+1+k;omega
  have h2:(Ab (m+1)).map (λ(k:Nat)=>((n+k:Nat):Int))=(n:Int)::(Ab m).map λ(k:Nat)=>((n+1+k:Nat):Int):=by rw[NC,Am,Aq];congr 1;refine Dp λk _=>?_;show((n+(k+1):Nat):Int)=((n+1+k:Nat):Int);congr 1;omega
  have hf:(Ab n).findIdx? (λx=>decide (x=n))=none:=by rw[IB];intro x hx;have:=As.mp hx;exact decide_eq_false (by omega)
  rw[h1,h2,Bj,hf];dsimp only;rw[AO,<-List.range_succ,OC m (n+1)]
theorem T7(n:Nat):Zx n (λi:Nat=>i)=(Ab n).map λ(k:Nat)=>(k:Int):=by have:=OC n 0;unfold Zx;simp only[Nat.zero_add]at this;exact this
theorem Lc{n:Nat}{kd' c:List Int}(h:∀k,k<n->ka kd' k=(k:Int))(hc:Cr n c):Zz kd' c=c:=by
 refine Je (G3 _ _) hc.1 λx=>?_;rw[CD]
 constructor
 .rintro ⟨s,hs,rfl⟩
  have:=hc.2 s hs;rw[h s.toNat (by omega),Dm this.1];exact hs
 .intro hx
  have:=hc.2 x hx;exact⟨x,hx,by rw[h x.toNat (by omega),Dm this.1]⟩
section
variable{w:Wk}(hv:Wk.V w){kd:List Int}
include hv
theorem RB(I:AZ w kd)(h:∀k,k<w.many->ka kd k=(k:Int)):cz w kd=w:=by
 obtain⟨h1,h8,hm,hL⟩:=B8 hv I;have bY:(bX w kd).length=w.many:=by
  have a1:¬(bX w kd).length<w.many:=λz=>by have:=((hL ((bX w kd).length:Int)).mp ⟨(bX w kd).length,z,h _ z⟩).2;omega
  have a2:¬w.many<(bX w kd).length:=λz=>by obtain⟨i,hi,e⟩:=(hL (w.many:Int)).mpr ⟨by omega,by omega⟩;rw[h i hi]at e;omega
  omega
 have gE:bX w kd=Ab w.many:=by refine Iv (by rw[bY,AO]) λk kS j5=>?_;have hg:(bX w kd)[k]?=some (bX w kd)[k]:=AB kS;obtain⟨f1,f2⟩:=D5 hv I hg;rw[h _ f1]at f2;rw[Ih];omega
 have hd:(w.deeds.map λdd=>(bX w kd).map λf=>Zz kd (cv dd f))=w.deeds:=by refine(Dp λdd dg=>?_).trans (List.map_id _);rw[gE];have hl:=hv.dl dd dg;show _=dd;refine Iv (by rw[Ae,AO];exact hl.symm) λk kS j5=>?_;rw[List.getElem_map,Ih,Lc h (Cj hv dg k)];unfold cv;rw[AB j5];rfl
 have hl:(w.looks.map λl=>(bX w kd).map λf=>cL l f)=w.looks:=by refine(Dp λl kO=>?_).trans (List.map_id _);rw[gE];have hl:=hv.ll l kO;show _=l;refine Iv (by rw[Ae,AO];exact hl.symm) λk kS j5=>?_;rw[List.getElem_map,Ih];unfold cL;rw[AB j5];rfl
 unfold cz;rw[hd,hl,bY,Lc h hv.bc,Lc h hv.gc]
theorem YJ(I:AZ w kd){dd:List (List Int)}(hd:dd∈w.deeds):FY [Zg dd,.list ((bX w kd).map dN),.list (kd.map dI)]=some (Zg ((bX w kd).map λf=>Zz kd (cv dd f))):=by
 obtain⟨_,h8,_,_⟩:=B8 hv I;have hg:Z4 Zw (Ze Z7 (O (b0 (Zm 1) (S 0)) (O (S 3) Zf))) [some (.pl (Zg dd)),some (.pl (.list ((bX w kd).map dN))),some (.pl (.list (kd.map dI)))] ((bX w kd).map dN)=some (((bX w kd).map λf=>Zz kd (cv dd f)).map bV):=by
  rw[Z9 dN (λf=>bV (Zz kd (cv dd f))),Aq]
  .rfl
  .intro f hf
   obtain⟨k,hk⟩:=Ey hf;have hr:b0 (Zm 1) (S 0) (some (.pl (dN f))::[some (.pl (Zg dd)),some (.pl (.list ((bX w kd).map dN))),some (.pl (.list (kd.map dI)))])=some (bV (cv dd f)):=Jf (hv.dl dd hd) (D5 hv I hk).1;refine cA (ds:=[bV (cv dd f),.list (kd.map dI)]) ?_ (JP hv hv.m2 I.len (I.b8 hv) (Cj hv hd f));generalize b0 (Zm 1) (S 0)=E at hr ⊢;simp[hr]
 refine Cm (C7 (xs:=((bX w kd).map λf=>Zz kd (cv dd f)).map bV) ?_);have hI:ZF (cu (S 1)) [some (.pl (Zg dd)),some (.pl (.list ((bX w kd).map dN))),some (.pl (.list (kd.map dI)))]=some ((bX w kd).map dN):=rfl;show Zp _ _ _ [some (.pl (Zg dd)),some (.pl (.list ((bX w kd).map dN))),some (.pl (.list (kd.map dI)))]=_;unfold Zp;rw[hI];dsimp only;rw[if_pos (by rw[Ae];unfold big;omega),hg];rfl
theorem YS(I:AZ w kd){l:List Int}(hl:l∈w.looks):FW [bV l,.list ((bX w kd).map dN)]=some (bV ((bX w kd).map λf=>cL l f)):=by
 obtain⟨_,h8,_,_⟩:=B8 hv I;have hg:Z4 Zw (b0 (Zm 1) (S 0)) [some (.pl (bV l)),some (.pl (.list ((bX w kd).map dN)))] ((bX w kd).map dN)=some (((bX w kd).map λf=>cL l f).map dI):=by
  rw[Z9 dN (λf=>dI (cL l f)),Aq]
  .rfl
  .intro f hf
   obtain⟨k,hk⟩:=Ey hf;exact Hi (hv.ll l hl) (D5 hv I hk).1
 refine Cm (C7 (xs:=((bX w kd).map λf=>cL l f).map dI) ?_);have hI:ZF (cu (S 1)) [some (.pl (bV l)),some (.pl (.list ((bX w kd).map dN)))]=some ((bX w kd).map dN):=rfl;show Zp _ _ _ [some (.pl (bV l)),some (.pl (.list ((bX w kd).map dN)))]=_;unfold Zp;rw[hI];dsimp only;rw[if_pos (by rw[Ae];unfold big;omega),hg];rfl
theorem UI(hi:i∈bX w kd):∃t,AV w.many (eK kd) i=i::t:=by
 unfold bX Bp at hi;have h:=of_decide_eq_true (B2.mp hi).2;cases q:AV w.many (eK kd) i with
 |nil=>rw[q]at h;cases h
 |cons x t=>rw[q]at h;have:x=i:=Bl h;subst this;exact⟨t,rfl⟩
theorem LI(hi:i∈bX w kd)(r:HM.Env):b0 (Zm 0) (eC (.int 0)) (some (.pl (ZG w kd i))::r)=some (dN i):=by obtain⟨t,ht⟩:=UI hv hi;unfold ZG;rw[ht];exact C2 (ds:=(i::t).map dN) (j:=0) rfl
theorem Qd(I:AZ w kd)(hk:Ec [w.d]=some (.list (kd.map dI))):Ea [w.d]=some (cz w kd).d:=by
 obtain⟨_,h8,_,_⟩:=B8 hv I;have d2:=hv.d2;have l2:=hv.l2;have hc:=MF hv;have eQ:ZP [w.d]=some (.list ((bX w kd).map (ZG w kd))):=PL hv I hk;have om:=Ra w;have mx:=Q8 w;have oA:JT [w.d]=some (bV w.beg):=rfl;have cC:Ee [w.d]=some (bV w.goal):=rfl;have s2:Zp (ZF (cu (Ze ZP (O (S 0) Zf)))) Zw (b0 (Zm 0) (eC (.int 0))) [some (.pl w.d),some (.pl (.list (kd.map dI))),none,none,none]=some (.ol ((bX w kd).map dN)):=by
  have hI:ZF (cu (Ze ZP (O (S 0) Zf))) [some (.pl w.d),some (.pl (.list (kd.map dI))),none,none,none]=some ((bX w kd).map (ZG w kd)):=by have:Ze ZP (O (S 0) Zf) [some (.pl w.d),some (.pl (.list (kd.map dI))),none,none,none]=some (.list ((bX w kd).map (ZG w kd))):=eQ;unfold ZF cu;rw[this];rfl
  have hg:Z4 Zw (b0 (Zm 0) (eC (.int 0))) [some (.pl w.d),some (.pl (.list (kd.map dI))),none,none,none] ((bX w kd).map (ZG w kd))=some ((bX w kd).map dN):=Z9 (ZG w kd) dN _ λi hi=>LI hv hi _;unfold Zp;rw[hI];dsimp only;rw[if_pos (by rw[Ae];unfold big;omega),hg];rfl
 have s3:Zr (Zp (ZF (cu (Ze ZX (O (S 0) Zf)))) Zw (Ze FY (O (S 0) (O (S 3) (O (S 2) Zf))))) [some (.pl w.d),some (.pl (.list (kd.map dI))),some (.pl (.list ((bX w kd).map dN))),none,none]=some (.tuple ((cz w kd).deeds.map Zg)):=by
  refine C7 ?_;have hI:ZF (cu (Ze ZX (O (S 0) Zf))) [some (.pl w.d),some (.pl (.list (kd.map dI))),some (.pl (.list ((bX w kd).map dN))),none,none]=some (w.deeds.map Zg):=by have:Ze ZX (O (S 0) Zf) [some (.pl w.d),some (.pl (.list (kd.map dI))),some (.pl (.list ((bX w kd).map dN))),none,none]=some (.tuple (w.deeds.map Zg)):=om;unfold ZF cu;rw[this];rfl
  have hg:Z4 Zw (Ze FY (O (S 0) (O (S 3) (O (S 2) Zf)))) [some (.pl w.d),some (.pl (.list (kd.map dI))),some (.pl (.list ((bX w kd).map dN))),none,none] (w.deeds.map Zg)=some ((cz w kd).deeds.map Zg):=by
   rw[Z9 Zg (λdd=>Zg ((bX w kd).map λf=>Zz kd (cv dd f)))]
   .show _=some ((w.deeds.map λdd=>(bX w kd).map λf=>Zz kd (cv dd f)).map Zg)
    rw[Aq];rfl
   .intro dd dg
    exact cA rfl (YJ hv I dg)
  unfold Zp;rw[hI];dsimp only;rw[if_pos (by rw[Ae];unfold big;omega),hg];rfl
 have s4:Zr (Zp (ZF (cu (Ze ZY (O (S 0) Zf)))) Zw (Ze FW (O (S 0) (O (S 3) Zf)))) [some (.pl w.d),some (.pl (.list (kd.map dI))),some (.pl (.list ((bX w kd).map dN))),some (.pl (.tuple ((cz w kd).deeds.map Zg))),none]=some (.tuple ((cz w kd).looks.map bV)):=by
  refine C7 ?_;have hI:ZF (cu (Ze ZY (O (S 0) Zf))) [some (.pl w.d),some (.pl (.list (kd.map dI))),some (.pl (.list ((bX w kd).map dN))),some (.pl (.tuple ((cz w kd).deeds.map Zg))),none]=some (w.looks.map bV):=by have:Ze ZY (O (S 0) Zf) [some (.pl w.d),some (.pl (.list (kd.map dI))),some (.pl (.list ((bX w kd).map dN))),some (.pl (.tuple ((cz w kd).deeds.map Zg))),none]=some (.tuple (w.looks.map bV)):=mx;unfold ZF cu;rw[this];rfl
  have hg:Z4 Zw (Ze FW (O (S 0) (O (S 3) Zf))) [some (.pl w.d),some (.pl (.list (kd.map dI))),some (.pl (.list ((bX w kd).map dN))),some (.pl (.tuple ((cz w kd).deeds.map Zg))),none] (w.looks.map bV)=some ((cz w kd).looks.map bV):=by
   rw[Z9 bV (λl=>bV ((bX w kd).map λf=>cL l f))]
   .show _=some ((w.looks.map λl=>(bX w kd).map λf=>cL l f).map bV)
    rw[Aq];rfl
   .intro l hl
    exact cA rfl (YS hv I hl)
  unfold Zp;rw[hI];dsimp only;rw[if_pos (by rw[Ae];unfold big;omega),hg];rfl
 have kR:=JP hv hv.m2 I.len (I.b8 hv) hv.bc;have kQ:=JP hv hv.m2 I.len (I.b8 hv) hv.gc;show AG (Mg [some (.pl w.d),none,none,none,none])=_;unfold Mg;refine B9 (r':=[some (.pl w.d),none,none,none,none]) (by simp[hc]) ?_;refine B9 (r':=[some (.pl w.d),some (.pl (.list (kd.map dI))),none,none,none]) (by simp[hk]) ?_;refine B9 (r':=[some (.pl w.d),some (.pl (.list (kd.map dI))),some (.ol ((bX w kd).map dN)),none,none]) (by unfold AY;rw[s2];rfl) ?_;refine B9 (r':=[some (.pl w.d),some (.pl (.list (kd.map dI))),some (.pl (.list ((bX w kd).map dN))),some (.pl (.tuple ((cz w kd).deeds.map Zg))),none]) ?_ ?_
 .show ZS 3 _ [some (.pl w.d),some (.pl (.list (kd.map dI))),some (.pl (.list ((bX w kd).map dN))),none,none]=_
  unfold ZS;rw[s3];rfl
 refine B9 (r':=[some (.pl w.d),some (.pl (.list (kd.map dI))),some (.pl (.list ((bX w kd).map dN))),some (.pl (.tuple ((cz w kd).deeds.map Zg))),some (.pl (.tuple ((cz w kd).looks.map bV)))]) ?_ ?_
 .show ZS 4 _ [some (.pl w.d),some (.pl (.list (kd.map dI))),some (.pl (.list ((bX w kd).map dN))),some (.pl (.tuple ((cz w kd).deeds.map Zg))),none]=_
  unfold ZS;rw[s4];rfl
 refine Cm ?_;have dg:(cz w kd).d=.tuple [.int ((bX w kd).length:Int),.tuple ((cz w kd).deeds.map Zg),.tuple ((cz w kd).looks.map bV),bV (Zz kd w.beg),bV (Zz kd w.goal)]:=rfl;rw[dg];simp[oA,cC,kR,kQ]
end
end
section
variable{acc:List D}{c:List Int}
theorem UX{α:Type}{i j:Nat}{body:SF}(a b:α->D)(P:List α->HM.Env->Prop)(xs:List α)(r:HM.Env)(h0:P [] r)(hs:∀pre x post r,xs=pre++x::post->P pre r->∃r',body ((r.set i (some (.pl (a x)))).set j (some (.pl (b x))))=some (.nx r')/\P (pre++[x]) r'):∃r',FH i j body (xs.map λx=>.tuple [a x,b x]) r=some (.nx r')/\P xs r':=by
 have key:∀(post pre:List α) (r:HM.Env),xs=pre++post->P pre r->∃r',FH i j body (post.map λx=>.tuple [a x,b x]) r=some (.nx r')/\P xs r':=by
  intro post
  induction post with
  |nil=>intro pre r e h;rw[B1]at e;subst e;exact⟨r,rfl,h⟩
  |cons x post ih=>intro pre r e h;obtain⟨r1,h1,h2⟩:=hs pre x post r e h;obtain⟨r2,h3,h4⟩:=ih (pre++[x]) r1 (by rw[e,Cc];rfl) h2;refine⟨r2,?_,h4⟩;rw[Am];unfold FH;rw[h1];exact h3
 exact key xs [] r rfl h0
theorem enum_zip(g:Nat->D):∀(l:List Nat) (k:Nat),Hd k (l.map g)=(l.zipIdx k).map λp=>.tuple [dN p.2,g p.1]
 |[],_=>rfl
 |x::l,k=>by rw[Am,List.zipIdx_cons,Am];unfold Hd;rw[enum_zip g l (k+1)]
section
variable{w:Wk}(hv:Wk.V w){kd:List Int}
include hv
theorem Wm(I:AZ w kd)(hc:Cr w.many c)(A:D)(ha:acc.length<1000){f k:Nat}(hf:(bX w kd)[k]?=some f):JG [some (.pl A),some (.pl (bV c)),some (.ol acc),some (.pl (dN k)),some (.pl (ZG w kd f))]=some (.nx [some (.pl A),some (.pl (bV c)),some (.ol (acc++if(Zz kd c).contains (k:Int)then[dN k]else[])),some (.pl (dN k)),some (.pl (ZG w kd f))]):=by
 obtain⟨h1,h2⟩:=D5 hv I hf;have hm:=hv.m2;have hg:Zp (ZF (cu (S 4))) (tV (CZ (S 0) (Zm 2))) (S 0) [some (.pl A),some (.pl (bV c)),some (.ol acc),some (.pl (dN k)),some (.pl (ZG w kd f))]=some (.ol (((AV w.many (eK kd) f).filter λ(s:Nat)=>c.contains (s:Int)).map dN)):=by
  have hl:(AV w.many (eK kd) f).length<=8:=by unfold AV;have:=NM (eK kd f) (Ab w.many);rw[AO]at this;omega
  have hI:ZF (cu (S 4)) [some (.pl A),some (.pl (bV c)),some (.ol acc),some (.pl (dN k)),some (.pl (ZG w kd f))]=some ((AV w.many (eK kd) f).map dN):=rfl;unfold Zp;rw[hI];dsimp only;rw[if_pos (by rw[Ae];unfold big;omega),Hu dN (λ(s:Nat)=>c.contains (s:Int)) dN]
  .rfl
  .intro s _
   simp[GN,CI,-IM]
  .intro s _ _
   rfl
 have he:(!(((AV w.many (eK kd) f).filter λ(s:Nat)=>c.contains (s:Int)).map dN).isEmpty)=(Zz kd c).contains (k:Int):=by
  rw[Em,Di,CD]
  constructor
  .intro h
   cases q:(AV w.many (eK kd) f).filter λ(s:Nat)=>c.contains (s:Int)with
   |nil=>rw[q]at h;cases h
   |cons s t =>
    have hs:s∈(AV w.many (eK kd) f).filter λ(s:Nat)=>c.contains (s:Int):=by rw[q];exact Au ..
    obtain⟨s1,s2⟩:=B2.mp hs;unfold AV at s1;have s3:=of_decide_eq_true (B2.mp s1).2;exact⟨(s:Int),Di.mp s2,by rw[GB];omega⟩
  .rintro ⟨s,hs,e⟩
   have hb:=hc.2 s hs;have hm:s.toNat∈(AV w.many (eK kd) f).filter λ(s:Nat)=>c.contains (s:Int):=by
    refine B2.mpr ⟨?_,?_⟩
    .unfold AV
     exact B2.mpr ⟨As.mpr (by omega),decide_eq_true (by omega)⟩
    .rw[Dm hb.1]
     exact Di.mpr hs
   cases q:(AV w.many (eK kd) f).filter λ(s:Nat)=>c.contains (s:Int)with
   |nil=>rw[q]at hm;cases hm
   |cons _ _=>rfl
 have ht:GY (Zp (ZF (cu (S 4))) (tV (CZ (S 0) (Zm 2))) (S 0)) [some (.pl A),some (.pl (bV c)),some (.ol acc),some (.pl (dN k)),some (.pl (ZG w kd f))]=some ((Zz kd c).contains (k:Int)):=by unfold GY;rw[hg];dsimp only;rw[he]
 have eQ:acc.length<1000000:=by omega
 unfold JG;cases q:(Zz kd c).contains (k:Int)with
 |true=>rw[q]at ht;rw[Jb ht,if_pos rfl];simp[eQ]
 |false=>rw[q]at ht;rw[IZ ht,if_neg (by decide),B1];rfl
theorem M6(I:AZ w kd)(hc:Cr w.many c):CG [.list ((bX w kd).map (ZG w kd)),bV c]=some (bV (Zz kd c)):=by
  obtain⟨_,h8,_,_⟩:=B8 hv I
  obtain⟨r',e,p3,p4,rfl⟩:=UX (i:=3) (j:=4) (body:=JG) (λp:Nat×Nat=>dN p.2) (λp=>ZG w kd p.1)
    (λpre r=>∃p3 p4,r=[some (.pl (.list ((bX w kd).map (ZG w kd)))),some (.pl (bV c)),some (.ol ((pre.filter λp=>(Zz kd c).contains (p.2:Int)).map λp=>dN p.2)),p3,p4])
    ((bX w kd).zipIdx 0) [some (.pl (.list ((bX w kd).map (ZG w kd)))), some (.pl (bV c)), some (.ol []), none, none] ⟨none, none, rfl⟩ (fun pre x post r ex hr => by
      obtain⟨p3,p4,rfl⟩:=hr
      obtain⟨f,k⟩:=x
      have hx:(f,k)∈(bX w kd).zipIdx 0:=by rw[ex]; exact A1 _ (Au ..)
      have hf:(bX w kd)[k]?=some f:=by
        have:=List.mem_zipIdx_iff_getElem?.mp hx
        exact this
      have hl:pre.length<=8:=by
        have:=congrArg A5 ex
        rw[List.length_zipIdx,Az]at this
        omega
      have dD:=NM (λp:Nat×Nat=>(Zz kd c).contains (p.2:Int)) pre
      refine⟨_,Wm hv I hc _ (by rw[Ae]; omega) hf,some (.pl (dN k)),some (.pl (ZG w kd f)),?_⟩
      have hq:((pre.filter λp:Nat×Nat=>(Zz kd c).contains (p.2:Int)).map λp=>dN p.2)++(if(Zz kd c).contains (k:Int)then[dN k]else[])=((pre++[(f,k)]).filter λp=>(Zz kd c).contains (p.2:Int)).map λp=>dN p.2:=by
        rw[List.filter_append,Bf,Kk]
        congr 1
        split<;>rfl
      rw[<-hq])
  show AG (MV [some (.pl (.list ((bX w kd).map (ZG w kd)))),some (.pl (bV c)),none,none,none])=_
  unfold MV
  refine B9 (r':=[some (.pl (.list ((bX w kd).map (ZG w kd)))),some (.pl (bV c)),some (.ol []),none,none]) rfl ?_
  refine B9 (r':=[some (.pl (.list ((bX w kd).map (ZG w kd)))),some (.pl (bV c)),some (.ol ((((bX w kd).zipIdx 0).filter λp=>(Zz kd c).contains (p.2:Int)).map λp=>dN p.2)),p3,p4]) ?_ ?_
  · have hi:QF (S 0) [some (.pl (.list ((bX w kd).map (ZG w kd)))),some (.pl (bV c)),some (.ol []),none,none]=some (((bX w kd).zipIdx 0).map λp=>.tuple [dN p.2,ZG w kd p.1]):=by
      show some (Hd 0 ((bX w kd).map (ZG w kd)))=_
      rw[enum_zip]
    unfold PY
    rw[hi]
    dsimp only
    rw[if_pos (by rw[Ae,List.length_zipIdx]; unfold big; omega)]
    exact e
  · refine Cm (C7 ?_)
    show some (B.ol _)=some (B.ol ((Zz kd c).map dI))
    have hK:=Ji hv I hc
    have hz:((((bX w kd).zipIdx 0).filter λp=>(Zz kd c).contains (p.2:Int)).map λp=>dN p.2)=((((List.range' 0 (bX w kd).length).filter λ(k:Nat)=>(Zz kd c).contains (k:Int)).map λ(k:Nat)=>(k:Int)).map dI):=by
      rw[<-List.zipIdx_map_snd,List.filter_map,Aq,Aq]
      rfl
    have hq:(((List.range' 0 (bX w kd).length).filter λ(k:Nat)=>(Zz kd c).contains (k:Int)).map λ(k:Nat)=>(k:Int))=Zz kd c:=by
      refine Je ?_ (G3 _ _) λx=>?_
      · refine Gz.mpr ((NK _ List.pairwise_lt_range').imp fun h => ?_)
        omega
      · rw [Aj]
        constructor
        · rintro ⟨k, hk, rfl⟩
          exact Di.mp (B2.mp hk).2
        · intro hx
          have:=hK.2 x hx
          refine⟨x.toNat,B2.mpr ⟨?_,?_⟩,Dm this.1⟩
          · rw [List.mem_range'_1]
            omega
          · rw [Dm this.1]
            exact Di.mpr hx
    rw[hz,hq]
theorem Wg(I:AZ w kd)(e0 e5 e6 e7:Option B)(ha:acc.length<1000){dd:List (List Int)}(hd:dd∈w.deeds):G8 [e0,some (.pl w.d),some (.pl (.list ((bX w kd).map (ZG w kd)))),some (.ol acc),some (.pl (Zg dd)),e5,e6,e7]=some (.nx [e0,some (.pl w.d),some (.pl (.list ((bX w kd).map (ZG w kd)))),some (.ol (acc++[Zg ((bX w kd).map λf=>Zz kd (cv dd f))])),some (.pl (Zg dd)),e5,e6,e7]):=by
 obtain⟨_,h8,_,_⟩:=B8 hv I;have hg:Z4 Zw (Ze CG (O (S 3) (O (b0 (Zm 5) (b0 (Zm 0) (eC (.int 0)))) Zf))) [e0,some (.pl w.d),some (.pl (.list ((bX w kd).map (ZG w kd)))),some (.ol acc),some (.pl (Zg dd)),e5,e6,e7] ((bX w kd).map (ZG w kd))=some (((bX w kd).map λf=>Zz kd (cv dd f)).map bV):=by
  rw[Z9 (ZG w kd) (λf=>bV (Zz kd (cv dd f))),Aq]
  .rfl
  .intro f hf
   obtain⟨k,hk⟩:=Ey hf;have h0:=LI hv hf [e0,some (.pl w.d),some (.pl (.list ((bX w kd).map (ZG w kd)))),some (.ol acc),some (.pl (Zg dd)),e5,e6,e7];have hr:b0 (Zm 5) (b0 (Zm 0) (eC (.int 0))) (some (.pl (ZG w kd f))::[e0,some (.pl w.d),some (.pl (.list ((bX w kd).map (ZG w kd)))),some (.ol acc),some (.pl (Zg dd)),e5,e6,e7])=some (bV (cv dd f)):=by generalize b0 (Zm 0) (eC (.int 0))=X at h0 ⊢;have:b0 (Zm 5) X (some (.pl (ZG w kd f))::[e0,some (.pl w.d),some (.pl (.list ((bX w kd).map (ZG w kd)))),some (.ol acc),some (.pl (Zg dd)),e5,e6,e7])=(match X (some (.pl (ZG w kd f))::[e0,some (.pl w.d),some (.pl (.list ((bX w kd).map (ZG w kd)))),some (.ol acc),some (.pl (Zg dd)),e5,e6,e7])with|some (.int i)=>eR (dd.map bV) i|_=>none):=rfl;rw[this,h0];exact Jf (hv.dl dd hd) (D5 hv I hk).1
   refine cA (ds:=[.list ((bX w kd).map (ZG w kd)),bV (cv dd f)]) ?_ (M6 hv I (Cj hv hd f));generalize b0 (Zm 5) (b0 (Zm 0) (eC (.int 0)))=E at hr ⊢;simp[hr]
 have ht:Zr (Zp (ZF (cu (S 2))) Zw (Ze CG (O (S 3) (O (b0 (Zm 5) (b0 (Zm 0) (eC (.int 0)))) Zf)))) [e0,some (.pl w.d),some (.pl (.list ((bX w kd).map (ZG w kd)))),some (.ol acc),some (.pl (Zg dd)),e5,e6,e7]=some (Zg ((bX w kd).map λf=>Zz kd (cv dd f))):=by refine C7 ?_;have hI:ZF (cu (S 2)) [e0,some (.pl w.d),some (.pl (.list ((bX w kd).map (ZG w kd)))),some (.ol acc),some (.pl (Zg dd)),e5,e6,e7]=some ((bX w kd).map (ZG w kd)):=rfl;unfold Zp;rw[hI];dsimp only;rw[if_pos (by rw[Ae];unfold big;omega),hg];rfl
 unfold G8;generalize Zr (Zp (ZF (cu (S 2))) Zw (Ze CG (O (S 3) (O (b0 (Zm 5) (b0 (Zm 0) (eC (.int 0)))) Zf))))=E at ht ⊢;have eQ:acc.length<1000000:=by omega
 simp[ht,eQ]
theorem Xo(I:AZ w kd)(e0 e3 e4 e5 e6 e7:Option B):Zr (Zp (ZF (cu (b0 (Zm 1) (eC (.int 2))))) Zw (Zr (Zp (ZF (cu (S 3))) Zw (b0 (Zm 1) (b0 (Zm 0) (eC (.int 0))))))) [e0,some (.pl w.d),some (.pl (.list ((bX w kd).map (ZG w kd)))),e3,e4,e5,e6,e7]=some (.tuple ((cz w kd).looks.map bV)):=by
 obtain⟨_,h8,_,_⟩:=B8 hv I;have l2:=hv.l2;refine C7 ?_;have hI:ZF (cu (b0 (Zm 1) (eC (.int 2)))) [e0,some (.pl w.d),some (.pl (.list ((bX w kd).map (ZG w kd)))),e3,e4,e5,e6,e7]=some (w.looks.map bV):=rfl;have hg:Z4 Zw (Zr (Zp (ZF (cu (S 3))) Zw (b0 (Zm 1) (b0 (Zm 0) (eC (.int 0)))))) [e0,some (.pl w.d),some (.pl (.list ((bX w kd).map (ZG w kd)))),e3,e4,e5,e6,e7] (w.looks.map bV)=some ((cz w kd).looks.map bV):=by
  rw[Z9 bV (λl=>bV ((bX w kd).map λf=>cL l f))]
  .show _=some ((w.looks.map λl=>(bX w kd).map λf=>cL l f).map bV)
   rw[Aq];rfl
  .intro l hl
   refine C7 ?_;have hJ:ZF (cu (S 3)) (some (.pl (bV l))::[e0,some (.pl w.d),some (.pl (.list ((bX w kd).map (ZG w kd)))),e3,e4,e5,e6,e7])=some ((bX w kd).map (ZG w kd)):=rfl;have hh:Z4 Zw (b0 (Zm 1) (b0 (Zm 0) (eC (.int 0)))) (some (.pl (bV l))::[e0,some (.pl w.d),some (.pl (.list ((bX w kd).map (ZG w kd)))),e3,e4,e5,e6,e7]) ((bX w kd).map (ZG w kd))=some (((bX w kd).map λf=>cL l f).map dI):=by
    rw[Z9 (ZG w kd) (λf=>dI (cL l f)),Aq]
    .rfl
    .intro f hf
     obtain⟨k,hk⟩:=Ey hf;have h0:=LI hv hf (some (.pl (bV l))::[e0,some (.pl w.d),some (.pl (.list ((bX w kd).map (ZG w kd)))),e3,e4,e5,e6,e7]);generalize b0 (Zm 0) (eC (.int 0))=X at h0 ⊢;have:b0 (Zm 1) X (some (.pl (ZG w kd f))::some (.pl (bV l))::[e0,some (.pl w.d),some (.pl (.list ((bX w kd).map (ZG w kd)))),e3,e4,e5,e6,e7])=(match X (some (.pl (ZG w kd f))::some (.pl (bV l))::[e0,some (.pl w.d),some (.pl (.list ((bX w kd).map (ZG w kd)))),e3,e4,e5,e6,e7])with|some (.int i)=>eR (l.map dI) i|_=>none):=rfl;rw[this,h0];exact Hi (hv.ll l hl) (D5 hv I hk).1
   unfold Zp;rw[hJ];dsimp only;rw[if_pos (by rw[Ae];unfold big;omega),hh];rfl
 generalize Zr (Zp (ZF (cu (S 3))) Zw (b0 (Zm 1) (b0 (Zm 0) (eC (.int 0)))))=E at hg ⊢;unfold Zp;rw[hI];dsimp only;rw[if_pos (by rw[Ae];unfold big;omega),hg];rfl
theorem RS(v:Wk):df 4 v.d=true:=by
 unfold Wk.d;refine Jh λd hd=>?_;rcases Ao.mp hd with rfl|hd
 .exact Lk _ _
 rcases Ao.mp hd with rfl|hd
 .refine Jh λd hd=>?_
  obtain⟨dd,_,rfl⟩:=Aj.mp hd;refine Jh λd hd=>?_;obtain⟨c,_,rfl⟩:=Aj.mp hd;exact Hh 0 c
 rcases Ao.mp hd with rfl|hd
 .refine Jh λd hd=>?_
  obtain⟨c,_,rfl⟩:=Aj.mp hd;exact Hh 1 c
 rcases Ao.mp hd with rfl|hd
 .exact Hh 2 _
 rcases Ao.mp hd with rfl|hd
 .exact Hh 2 _
 .cases hd
theorem S9(I:AZ w kd)(dM:Zx w.many (nm w kd)=kd):Ea [(cz w kd).d]=some (cz w kd).d:=by
 have hV:=N0 hv I;obtain⟨kd',hk',I',hst'⟩:=Rc hV;have j6:∀k,k<(cz w kd).many->ka kd' k=(k:Int):=by have h1:Zx (cz w kd).many (ka kd')=Zx (cz w kd).many (λi:Nat=>i):=MB λi j hi hj=>⟨λh=>UA hv I dM I' hst' hi hj h,λh=>by rw[h]⟩;rw[I'.can,T7]at h1;intro k hk;rw[h1];unfold ka;rw[AQ,Fi hk];rfl
 have:=Qd hV I' hk';rw[RB hV I' j6]at this;exact this
theorem QA(e0:Option B):AG ((Zv (ZS 2 (Ze ZP (O (S 1) Zf)))
  (Zv (AY 3 (Bz Zf))
  (Zv (CV 4 (ZF (cu (b0 (Zm 1) (eC (.int 1))))) G8)
  (Zv (ZS 5 (Zr (Zp (ZF (cu (b0 (Zm 1) (eC (.int 2))))) Zw (Zr (Zp (ZF (cu (S 3))) Zw (b0 (Zm 1) (b0 (Zm 0) (eC (.int 0)))))))))
  (Zv (ZS 6 (Bi (O (B6 (Zm 2)) (O (Zr (Zm 3)) (O (S 5) (O (Ze CG (O (S 2) (O (b0 (Zm 1) (eC (.int 3))) Zf))) (O (Ze CG (O (S 2) (O (b0 (Zm 1) (eC (.int 4))) Zf))) Zf)))))))
  (Zv (ZS 7 (Ze Ea (O (S 1) Zf)))
  (ZT (CB (bZ dU (S 7) (S 6)) (CB (bZ dU (Ze Ea (O (S 7) Zf)) (S 6)) (bZ dU (Ze C8 (O (S 7) Zf)) (S 6))))))))))) [e0,some (.pl w.d),none,none,none,none,none,none])=some (.bool true):=by
 obtain⟨kd,hk,I,dM⟩:=Rc hv;have d2:=hv.d2;have eQ:ZP [w.d]=some (.list ((bX w kd).map (ZG w kd))):=PL hv I hk;have iz:=Qd hv I hk;have oC:=S9 hv I dM;have ou:=MF (N0 hv I);have kR:=M6 hv I hv.bc;have kQ:=M6 hv I hv.gc;have nT:=RS hv (cz w kd);have kP:=Xo hv I e0;obtain⟨_,h8,_,_⟩:=B8 hv I;obtain⟨r',e,p4,rfl⟩:=D6 (i:=4) (body:=G8) Zg w.deeds (λpre r=>∃p4,r=[e0,some (.pl w.d),some (.pl (.list ((bX w kd).map (ZG w kd)))),some (.ol (pre.map λdd=>Zg ((bX w kd).map λf=>Zz kd (cv dd f)))),p4,none,none,none]) (λpre x post r ex hr=>by
  obtain⟨p4,rfl⟩:=hr;have hx:x∈w.deeds:=by rw[ex];exact A1 _ (Au ..)
  have hl:pre.length<=w.deeds.length:=by rw[ex,Az];omega
  refine⟨_,Wg hv I e0 none none none (by rw[Ae];omega) hx,some (.pl (Zg x)),?_⟩;rw[Bf];rfl) [e0,some (.pl w.d),some (.pl (.list ((bX w kd).map (ZG w kd)))),some (.ol []),none,none,none,none] ⟨none,rfl⟩
 refine B9 (r':=[e0,some (.pl w.d),some (.pl (.list ((bX w kd).map (ZG w kd)))),none,none,none,none,none]) (by simp[eQ]) ?_;refine B9 (r':=[e0,some (.pl w.d),some (.pl (.list ((bX w kd).map (ZG w kd)))),some (.ol []),none,none,none,none]) rfl ?_;refine B9 (r':=[e0,some (.pl w.d),some (.pl (.list ((bX w kd).map (ZG w kd)))),some (.ol (w.deeds.map λdd=>Zg ((bX w kd).map λf=>Zz kd (cv dd f)))),p4,none,none,none]) ?_ ?_
 .show(if(w.deeds.map Zg).length<big then _ else _)=_
  rw[if_pos (by rw[Ae];unfold big;omega)];exact e
 have hD:(w.deeds.map λdd=>Zg ((bX w kd).map λf=>Zz kd (cv dd f)))=(cz w kd).deeds.map Zg:=by show _=(w.deeds.map λdd=>(bX w kd).map λf=>Zz kd (cv dd f)).map Zg;rw[Aq];rfl
 rw[hD];refine B9 (r':=[e0,some (.pl w.d),some (.pl (.list ((bX w kd).map (ZG w kd)))),some (.ol ((cz w kd).deeds.map Zg)),p4,some (.pl (.tuple ((cz w kd).looks.map bV))),none,none]) ?_ ?_
 .unfold ZS
  rw[kP];rfl
 refine B9 (r':=[e0,some (.pl w.d),some (.pl (.list ((bX w kd).map (ZG w kd)))),some (.ol ((cz w kd).deeds.map Zg)),p4,some (.pl (.tuple ((cz w kd).looks.map bV))),some (.pl (cz w kd).d),none]) ?_ ?_
 .have dg:(cz w kd).d=.tuple [.int ((bX w kd).length:Int),.tuple ((cz w kd).deeds.map Zg),.tuple ((cz w kd).looks.map bV),bV (Zz kd w.beg),bV (Zz kd w.goal)]:=rfl
  have h3:b0 (Zm 1) (eC (.int 3)) [e0,some (.pl w.d),some (.pl (.list ((bX w kd).map (ZG w kd)))),some (.ol ((cz w kd).deeds.map Zg)),p4,some (.pl (.tuple ((cz w kd).looks.map bV))),none,none]=some (bV w.beg):=rfl;have h4:b0 (Zm 1) (eC (.int 4)) [e0,some (.pl w.d),some (.pl (.list ((bX w kd).map (ZG w kd)))),some (.ol ((cz w kd).deeds.map Zg)),p4,some (.pl (.tuple ((cz w kd).looks.map bV))),none,none]=some (bV w.goal):=rfl;rw[dg];generalize b0 (Zm 1) (eC (.int 3))=E3 at h3 ⊢;generalize b0 (Zm 1) (eC (.int 4))=E4 at h4 ⊢;simp[h3,h4,kR,kQ]
 generalize (cz w kd).d=M at *;refine B9 (r':=[e0,some (.pl w.d),some (.pl (.list ((bX w kd).map (ZG w kd)))),some (.ol ((cz w kd).deeds.map Zg)),p4,some (.pl (.tuple ((cz w kd).looks.map bV))),some (.pl M),some (.pl M)]) (by simp[iz]) ?_;refine Cm ?_;have hs:dU M M=some (.bool true):=UK nT (by decide);generalize dU=g at hs ⊢;simp[oC,ou,hs]
end
theorem Qv(ns:List Int)(h:ns.length<=63):EG [.list (ns.map dI)]=some (.bool true):=by
 have hv:=Wk.Ok.v (SK ns 1);have h5:(iR ns 1).many<=5:=by have:(iR ns 1).many=ZI ns 1:=rfl;have:=(Jl ns 1).2;omega
 have hw:=Vy ns 1 h;have oz:=EV ns 0;generalize iR ns 1=w at *;have h7:w.many<=7:=by omega
 have hw':DI [.list (ns.map dI),.int 1]=some w.d:=hw;have hc':ZJ [.list (ns.map dI),.int 0]=some (.int (Zq ns 0)):=oz;generalize Zq ns 0=c at *;have fU:=WT hv h7 c;show AG (Lo [some (.pl (.list (ns.map dI))),none,none,none,none,none,none,none])=_;unfold Lo;refine AX (P:=λq=>AG q=_) (r':=[some (.pl (.list (ns.map dI))),some (.pl w.d),none,none,none,none,none,none]) (by simp[hw']) ?_;have ht:tV (bZ dU (bZ Ck (Ze ZJ (O (S 0) (O (eC (.int 0)) Zf))) (eC (.int 3))) (eC (.int 1))) [some (.pl (.list (ns.map dI))),some (.pl w.d),none,none,none,none,none,none]=some (decide (c%3=1)):=by
  have h1:bZ Ck (Ze ZJ (O (S 0) (O (eC (.int 0)) Zf))) (eC (.int 3)) [some (.pl (.list (ns.map dI))),some (.pl w.d),none,none,none,none,none,none]=some (.int (c%3)):=by have:Ze ZJ (O (S 0) (O (eC (.int 0)) Zf)) [some (.pl (.list (ns.map dI))),some (.pl w.d),none,none,none,none,none,none]=some (.int c):=hc';unfold bZ;rw[this];rfl
  exact Ja h1 rfl (Pd _ _)
 by_cases hq:c%3=1
 .rw[decide_eq_true hq]at ht
  refine AX (P:=λq=>AG q=_) (r':=[some (.pl (.list (ns.map dI))),some (.pl (dX w c).d),none,none,none,none,none,none]) ?_ (QA (Rm hv h7 c) _);rw[Jb ht];have:Ze HC (O (S 1) (O (Ze ZJ (O (S 0) (O (eC (.int 0)) Zf))) Zf)) [some (.pl (.list (ns.map dI))),some (.pl w.d),none,none,none,none,none,none]=some (dX w c).d:=by refine cA (ds:=[w.d,.int c]) ?_ fU;have fV:Ze ZJ (O (S 0) (O (eC (.int 0)) Zf)) [some (.pl (.list (ns.map dI))),some (.pl w.d),none,none,none,none,none,none]=some (.int c):=hc';generalize Ze ZJ (O (S 0) (O (eC (.int 0)) Zf))=X at fV ⊢;simp[fV]
  unfold ZS;rw[this];rfl
 .rw[decide_eq_false hq]at ht
  exact AX (P:=λq=>AG q=_) (by rw[IZ ht];rfl) (QA hv _)
end
end HG28
namespace HT
open PySem PySem.Spec PyProof.Rows L2 HP HM
open HG
open HG27
open HG28
variable{f:Addr}{h:Heap}{ps:List Str}{x:Str}
def cO(i:Nat):Stmt:=PySem.Challenge.pw_halfseen_k28_merged.main.body.getD i (.Pass ⟨0,0,0,0⟩)
abbrev MU:Stmt:=cO 8
abbrev Mf:Stmt:=cO 9
abbrev MT:Stmt:=cO 10
abbrev Jw:Stmt:=cO 11
abbrev Jv:Stmt:=cO 12
abbrev JC:Stmt:=cO 13
abbrev JO:Stmt:=cO 14
abbrev Mz:Stmt:=cO 15
abbrev MS:Stmt:=cO 16
abbrev MR:Stmt:=cO 17
abbrev My:Stmt:=cO 18
abbrev Mx:Stmt:=cO 19
abbrev Mw:Stmt:=cO 20
abbrev MK:Stmt:=cO 21
abbrev MJ:Stmt:=cO 22
abbrev Mv:Stmt:=cO 24
abbrev JS:Stmt:=cO 25
abbrev JF:Stmt:=cO 26
abbrev JN:Stmt:=cO 27
abbrev Jp:Stmt:=cO 28
abbrev JR:Stmt:=cO 29
abbrev JU:Stmt:=cO 30
abbrev JY:Stmt:=cO 31
abbrev JX:Stmt:=cO 32
abbrev JW:Stmt:=cO 33
abbrev FG:Stmt:=cO 34
abbrev Mu:Stmt:=cO 36
abbrev MI:Stmt:=cO 37
abbrev JM:Stmt:=cO 38
abbrev Mt:Stmt:=cO 39
abbrev Ms:Stmt:=cO 40
abbrev JL:Stmt:=cO 41
abbrev JV:Stmt:=cO 42
abbrev JK:Stmt:=cO 43
abbrev DA:Stmt:=cO 44
structure cp(K:Ad)(mg:Str->Option Value)(x:Str)(st:Stmt)(ps:List Str):Prop where
 ex:∃f fd,gs K x x st f fd/\mg x=some (.ref f)/\Binds K fd ps []
structure cJ(K:Ad)(mg:Str->Option Value):Prop where
 n_len:mg "len"=none
 n_tuple:mg "tuple"=none
 n_list:mg "list"=none
 n_set:mg "set"=none
 n_sorted:mg "sorted"=none
 n_range:mg "range"=none
 n_all:mg "all"=none
 n_isinstance:mg "isinstance"=none
 n_int:mg "int"=none
 n_bool:mg "bool"=none
 n_max:mg "max"=none
 n_min:mg "min"=none
 n_enumerate:mg "enumerate"=none
 c_MOST_STATES:∃t,mg "MOST_STATES"=some (.int 8 t)
 c_MOST_DEEDS:∃t,mg "MOST_DEEDS"=some (.int 5 t)
 c_MOST_LOOKS:∃t,mg "MOST_LOOKS"=some (.int 4 t)
 c_MOST_SEEN:∃t,mg "MOST_SEEN"=some (.int 9 t)
section
variable[FX]{P:Program}{w:World}{K:Ad}{mg:Str->Option Value}{base:Heap}{k:Nat}
set_option maxHeartbeats 8000000
theorem cP{N:List Str}{sc:Scope}(a:sc.kind=.function:=by rfl)(b:sc.isCoroutine=false:=by rfl)(c:sc.isGenerator=false:=by rfl)(d:N.Nodup:=by decide +kernel)(e:N.take ps.length=ps:=by rfl)(f:∀x∈ps,sc.names.lookup x=some .local\/sc.names.lookup x=some .cell:=by decide +kernel)(g:∀y∈sc.names,y.2≠.free:=by decide +kernel):Zy N ps sc:=⟨a,b,c,d,e,f,g⟩
theorem cp.ok{x:Str}{st:Stmt}{N ps:List Str}{g:HM.SF}(D:cp K mg x st ps)(pw:Zy N ps (Zi st))(body:∀(f:Addr) (cm:Value) (A:Around) (outer:List PySem.Env) (s:Shared) (H:J) (E:XK),AL k (A.deeper (envOfC x (Zi st) s.heap.objs.size f cm))->fP (Dv fw P w K mg base N x (Zi st) f cm A outer s H E).nox (CC st) g):Callee P w K mg base (k+1) x (HM.fnOf ps.length N.length g):=by obtain⟨f,fd,F,m,b⟩:=D.ex;exact Vu F pw m b (body f)
theorem cy{j:Nat}{M:List PyData->Option PyData}(C:Callee P w K mg base j x M)(h:j<=k:=by decide):Callee P w K mg base k x M:=C.mono h
theorem YA:Zy ["_law_script","_law_k"] ["_law_script","_law_k"] (Zi Mu):=cP
theorem Yz(T:cJ K mg)(D:cp K mg "_law_cell" Mu ["_law_script","_law_k"]):Callee P w K mg base (k+1) "_law_cell" ZJ :=
 D.ok YA λ_ cm A outer s H E hr=>by
  exact(Zk (Bu (Co kj (Zd 1) (D1 T.n_len (Zu 0))) (Zn (ZH (Z1 (Zu 0) (Zd 1)))) Bs)
  (Zn (ZH Zj)))
theorem Xa:Zy ["_law_cell_here","_law_prime","_law_many"] ["_law_cell_here","_law_prime","_law_many"] (Zi MI):=cP
theorem XD(T:cJ K mg)(D:cp K mg "_law_mix" MI ["_law_cell_here","_law_prime","_law_many"]):Callee P w K mg base (k+1) "_law_mix" ZC :=
 D.ok Xa λ_ cm A outer s H E hr=>by exact(Zn (ZH (ZB fZ (ZB fZ (ZB B7 (Zd 0) Zj) (Zd 1)) (Zd 2))))
abbrev M5:List Str:=["_law_cell_here","_law_many","_law_least","_law_found"]
theorem M0:Zy M5 ["_law_cell_here","_law_many","_law_least"] (Zi JM):=cP
theorem Yq(T:cJ K mg)(ZE:Callee P w K mg base k "_law_mix" ZC)(D:cp K mg "_law_crowd" JM ["_law_cell_here","_law_many","_law_least"]):Callee P w K mg base (k+1) "_law_crowd" E6 :=
 D.ok M0 λ_ cm A outer s H E hr=>by
  exact(Zk (WQ 3 M0.nd rfl rfl (N:="_law_state" :: M5) (ZM (sc:=Zi JM) (XN:=M5)) (CH T.n_range (Zd 1)) (λ_ _ _ _ _=>(LH (Co kj (Zl ZE hr (Zc (ZB AS (ZB AS (Zd 1) (ZB B7 (ZB B7 Zj (Zd 0)) (Zd 0))) (ZB B7 Zj (Zd 0))) (Zc Zj (Zc Zj Zh)))) Zj))) (λ_ _ _ _ _=>(Zd 0)))
  (Zk (Bu (Co kj (D1 T.n_len (Zu 3)) (Zd 2)) (Zn (BG 3 M0.nd (BY (Zc (Zl ZE hr (Zc (Zd 0) (Zc Zj (Zc (Zd 1) Zh)))) Zh)))) Bs)
  (Zn (ZH (ZD T.n_tuple (Zu 3))))))
theorem FL:Zy ["_law_cell_here","_law_many","_law_found","_law_state","_law_seed","_law_way","_law_row"] ["_law_cell_here","_law_many"] (Zi Mt):=cP
theorem Yy(T:cJ K mg)(ZE:Callee P w K mg base k "_law_mix" ZC)(D:cp K mg "_law_deed" Mt ["_law_cell_here","_law_many"]):Callee P w K mg base (k+1) "_law_deed" Hx :=
 D.ok FL λ_ cm A outer s H E hr=>by
  have hu:=Ry hr;exact(Zk (BG 2 FL.nd (BY Zh))
  (Zk (D2 3 FL.nd rfl rfl (CH T.n_range (Zd 1)) (Zk (ZR 4 FL.nd (ZB AS (ZB AS (Zd 0) (ZB B7 (ZB B7 Zj (Zd 3)) (Zd 3))) (ZB B7 Zj (Zd 3))))
  (Zk (ZR 5 FL.nd (Zl ZE hr (Zc (Zd 4) (Zc Zj (Zc Zj Zh)))))
  (Zk (BG 6 FL.nd (Ve (Zl ZE hr (Zc (Zd 4) (Zc Zj (Zc (Zd 1) Zh)))) D7))
  (Zk (Bu (Co kj (Zd 5) Zj) (Zn (TK hu 6 (Zl ZE hr (Zc (Zd 4) (Zc Zj (Zc (Zd 1) Zh)))) D7)) Bs)
  (Zk (C6 2 (ZD T.n_tuple (AI (Wf T.n_sorted rfl (Zu 6)))))
  (Zn (Bu (Co (gI hr) (Zd 5) Zj) (Zn (US 2 TU (Cn Zh))) Bs))))))))
  (Zn (ZH (ZD T.n_tuple (Zu 2))))))
theorem E1:Zy ["_law_cell_here","_law_many","_law_left","_law_right","_law_state","_law_ahead","_law_behind","_law_slips"] ["_law_cell_here","_law_many"] (Zi Ms):=cP
theorem Yx(T:cJ K mg)(ZE:Callee P w K mg base k "_law_mix" ZC)(D:cp K mg "_law_walk" Ms ["_law_cell_here","_law_many"]):Callee P w K mg base (k+1) "_law_walk" Hw :=
 D.ok E1 λ_ cm A outer s H E hr=>by
  exact(Zk (BG 2 E1.nd (BY Zh))
  (Zk (BG 3 E1.nd (BY Zh))
  (Zk (D2 4 E1.nd rfl rfl (CH T.n_range (Zd 1)) (Zk (ZR 5 E1.nd (TQ T.n_max rfl (ZB K0 (Zd 4) Zj) Zj))
  (Zk (ZR 6 E1.nd (TN T.n_min rfl (ZB AS (Zd 4) Zj) (ZB K0 (Zd 1) Zj)))
  (Zk (ZR 7 E1.nd (G5 (gI hr) (Zl ZE hr (Zc (ZB AS (Zd 0) (ZB B7 Zj (Zd 4))) (Zc Zj (Zc Zj Zh)))) Zj))
  (Zk (C6 2 (ZD T.n_tuple (AI (QT T.n_sorted T.n_set rfl (AI (Lq (AI (BY (Zc (Zd 5) Zh))) (AI (TM (AI (BY (Zc (Zd 4) Zh))) (Vf T.n_int (Zd 7))))))))))
  (Zn (C6 3 (Cn (Zc (Zd 6) Zh)))))))))
  (Zn (ZH (Cn (Zc (ZD T.n_tuple (Zu 2)) (Zc (ZD T.n_tuple (Zu 3)) Zh))))))))
abbrev M3:List Str:=["_law_script","_law_at","_law_cell_here","_law_many","_law_deeds","_law_k","_law_looks","_law_seed","_law_most","_law_begin","_law_goal"]
theorem ZQ:Zy M3 ["_law_script","_law_at"] (Zi JL):=cP
theorem Yp(T:cJ K mg)(Cs:Callee P w K mg base k "_law_cell" ZJ)(JJ:Callee P w K mg base k "_law_crowd" E6)(ZE:Callee P w K mg base k "_law_mix" ZC)(Mr:Callee P w K mg base k "_law_deed" Hx)(Mq:Callee P w K mg base k "_law_walk" Hw)(D:cp K mg "_law_works" JL ["_law_script","_law_at"]):Callee P w K mg base (k+1) "_law_works" DI :=
 D.ok ZQ λ_ cm A outer s H E hr=>by
  exact(Zk (ZR 2 ZQ.nd (Zl Cs hr (Zc (Zd 0) (Zc (Zd 1) Zh))))
  (Zk (ZR 3 ZQ.nd (ZB AS Zj (Zl ZE hr (Zc (Zd 2) (Zc Zj (Zc Zj Zh))))))
  (Zk (Bu (Co lq (D1 T.n_len (Zu 0)) Zj) (Zn (ZR 3 ZQ.nd (ZB AS Zj (Zl ZE hr (Zc (Zd 2) (Zc Zj (Zc Zj Zh))))))) Bs)
  (Zk (BG 4 ZQ.nd (BY Zh))
  (Zk (D2 5 ZQ.nd rfl rfl (CH T.n_range (ZB AS Zj (Zl ZE hr (Zc (Zd 2) (Zc Zj (Zc Zj Zh)))))) (Zn (C6 4 (Zl Mr hr (Zc (ZB AS (Zl Cs hr (Zc (Zd 0) (Zc (ZB AS (ZB AS (Zd 1) Zj) (Zd 5)) Zh))) (ZB B7 Zj (Zd 5))) (Zc (Zd 3) Zh))))))
  (Zk (Bu (Co (gI hr) (Zl ZE hr (Zc (Zd 2) (Zc Zj (Zc Zj Zh)))) Zj) (Zn (BG 4 ZQ.nd (Lq (AI (Qk T.n_list (Lv (Zl Mq hr (Zc (Zl Cs hr (Zc (Zd 0) (Zc (ZB AS (Zd 1) Zj) Zh))) (Zc (Zd 3) Zh)))))) (AI (TL (Zu 4) T6 (Tc Zj)))))) Bs)
  (Zk (BG 6 ZQ.nd (BY Zh))
  (Zk (D2 5 ZQ.nd rfl rfl (CH T.n_range (Zl ZE hr (Zc (Zd 2) (Zc Zj (Zc Zj Zh))))) (Zk (ZR 7 ZQ.nd (ZB AS (Zl Cs hr (Zc (Zd 0) (Zc (ZB AS (ZB AS (Zd 1) Zj) (Zd 5)) Zh))) (ZB B7 Zj (Zd 5))))
  (Zk (ZR 8 ZQ.nd (ZB AS Zj (Zl ZE hr (Zc (Zd 7) (Zc Zj (Zc Zj Zh))))))
  (Zn (C6 6 (ZD T.n_tuple (AI (Z6 rfl rfl (N:="_law_state" :: M3) (ZM (sc:=Zi JL) (XN:=M3)) (CH T.n_range (Zd 3)) (λ_ _ _ _ _=>A8) (λ_ _ _ _ _=>(Zl ZE hr (Zc (ZB AS (Zd 8) (ZB B7 (ZB B7 Zj (Zd 0)) (Zd 0))) (Zc Zj (Zc (Zd 9) Zh)))))))))))))
  (Zk (ZR 9 ZQ.nd (Zl JJ hr (Zc (Zl Cs hr (Zc (Zd 0) (Zc (ZB AS (Zd 1) Zj) Zh))) (Zc (Zd 3) (Zc Zj Zh)))))
  (Zk (Bu (Co (gI hr) (Zl ZE hr (Zc (Zd 2) (Zc Zj (Zc Zj Zh)))) Zj) (Zn (ZR 9 ZQ.nd (Xe T.n_tuple T.n_range rfl (Zd 3)))) Bs)
  (Zk (ZR 10 ZQ.nd (Zl JJ hr (Zc (Zl Cs hr (Zc (Zd 0) (Zc (ZB AS (Zd 1) Zj) Zh))) (Zc (Zd 3) (Zc Zj Zh)))))
  (Zn (ZH (Cn (Zc (Zd 3) (Zc (ZD T.n_tuple (Zu 4)) (Zc (ZD T.n_tuple (Zu 6)) (Zc (Zd 9) (Zc (Zd 10) Zh)))))))))))))))))))
theorem Yo:Zy ["thing","least","most"] ["thing","least","most"] (Zi MU):=cP
theorem Yn(T:cJ K mg)(D:cp K mg "is_number" MU ["thing","least","most"]):Callee P w K mg base (k+1) "is_number" DJ :=
 D.ok Yo λ_ cm A outer s H E hr=>by
  exact(Zk (Bu (IQ (K2 (Dz (Xg T.n_isinstance T.n_bool (Zd 0))) (Lu (D8 (Dz (WR T.n_isinstance T.n_int (Zd 0))))))) (Zn (ZH D7)) Bs)
  (Zn (ZH (PX kl kl (Zd 1) (Zd 0) (Zd 2)))))
theorem JE:Zy ["thing","many","least","number"] ["thing","many"] (Zi MT):=cP
theorem Ym(T:cJ K mg)(DH:Callee P w K mg base k "is_number" DJ)(D:cp K mg "is_rising" MT ["thing","many"]):Callee P w K mg base (k+1) "is_rising" Z3 :=
 D.ok JE λ_ cm A outer s H E hr=>by
  exact(Zk (Bu (D8 (Dz (QU T.n_isinstance T.n_tuple (Zd 0)))) (Zn (ZH D7)) Bs)
  (Zk (ZR 2 JE.nd Zj)
  (Zk (D2 3 JE.nd rfl rfl (A3 (Zd 0)) (Zk (Bu (D8 (Dz (Zl DH hr (Zc (Zd 3) (Zc (Zd 2) (Zc (ZB K0 (Zd 1) Zj) Zh)))))) (Zn (ZH D7)) Bs)
  (Zn (ZR 2 JE.nd (ZB AS (Zd 3) Zj)))))
  (Zn (ZH D7)))))
theorem Yw:Zy ["thing","many"] ["thing","many"] (Zi Mz):=cP
theorem Yv(T:cJ K mg)(DG:Callee P w K mg base k "is_rising" Z3)(D:cp K mg "is_crowd" Mz ["thing","many"]):Callee P w K mg base (k+1) "is_crowd" Hy :=
 D.ok Yw λ_ cm A outer s H E hr=>by exact(Zn (ZH (Dy (Zl DG hr (Zc (Zd 0) (Zc (Zd 1) Zh))) (D3 (G5 lq (D1 T.n_len (Zu 0)) Zj)))))
theorem WN:Zy ["thing","least","most"] ["thing","least","most"] (Zi Mf):=cP
theorem WM(T:cJ K mg)(D:cp K mg "is_row" Mf ["thing","least","most"]):Callee P w K mg base (k+1) "is_row" Ca :=
 D.ok WN λ_ cm A outer s H E hr=>by exact(Zn (ZH (Dy (QU T.n_isinstance T.n_tuple (Zd 0)) (D3 (PX kl kl (Zd 1) (D1 T.n_len (Zu 0)) (Zd 2))))))
theorem XC:Zy ["thing","many"] ["thing","many"] (Zi Jw):=cP
theorem Xz(T:cJ K mg)(BM:Callee P w K mg base k "is_row" Ca)(DG:Callee P w K mg base k "is_rising" Z3)(D:cp K mg "is_deed" Jw ["thing","many"]):Callee P w K mg base (k+1) "is_deed" EX :=
 D.ok XC λ_ cm A outer s H E hr=>by exact(Zn (ZH (Dy (Zl BM hr (Zc (Zd 0) (Zc (Zd 1) (Zc (Zd 1) Zh)))) (D3 (Jj T.n_all rfl (AI (Z6 rfl rfl (N:=["crowd","thing","many"]) (ZM (sc:=Zi Jw) (XN:=["thing","many"])) (A3 (Zd 0)) (λ_ _ _ _ _=>A8) (λ_ _ _ _ _=>(Zl DG hr (Zc (Zd 0) (Zc (Zd 2) Zh)))))))))))
theorem Yl:Zy ["thing","many"] ["thing","many"] (Zi JC):=cP
theorem Yk(T:cJ K mg)(BM:Callee P w K mg base k "is_row" Ca)(MH:Callee P w K mg base k "is_deed" EX)(D:cp K mg "are_deeds" JC ["thing","many"]):Callee P w K mg base (k+1) "are_deeds" HK :=
 D.ok Yl λ_ cm A outer s H E hr=>by exact(Zn (ZH (Dy (Zl BM hr (Zc (Zd 0) (Zc Zj (Zc (Jm T.c_MOST_DEEDS) Zh)))) (D3 (Jj T.n_all rfl (AI (Z6 rfl rfl (N:=["deed","thing","many"]) (ZM (sc:=Zi JC) (XN:=["thing","many"])) (A3 (Zd 0)) (λ_ _ _ _ _=>A8) (λ_ _ _ _ _=>(Zl MH hr (Zc (Zd 0) (Zc (Zd 2) Zh)))))))))))
theorem Xy:Zy ["thing","many"] ["thing","many"] (Zi Jv):=cP
theorem Xx(T:cJ K mg)(BM:Callee P w K mg base k "is_row" Ca)(DH:Callee P w K mg base k "is_number" DJ)(D:cp K mg "is_look" Jv ["thing","many"]):Callee P w K mg base (k+1) "is_look" EW :=
 D.ok Xy λ_ cm A outer s H E hr=>by exact(Zn (ZH (Dy (Zl BM hr (Zc (Zd 0) (Zc (Zd 1) (Zc (Zd 1) Zh)))) (D3 (Jj T.n_all rfl (AI (Z6 rfl rfl (N:=["told","thing","many"]) (ZM (sc:=Zi Jv) (XN:=["thing","many"])) (A3 (Zd 0)) (λ_ _ _ _ _=>A8) (λ_ _ _ _ _=>(Zl DH hr (Zc (Zd 0) (Zc Zj (Zc (Jm T.c_MOST_SEEN) Zh))))))))))))
theorem Yj:Zy ["thing","many"] ["thing","many"] (Zi JO):=cP
theorem Yi(T:cJ K mg)(BM:Callee P w K mg base k "is_row" Ca)(MG:Callee P w K mg base k "is_look" EW)(D:cp K mg "are_looks" JO ["thing","many"]):Callee P w K mg base (k+1) "are_looks" HJ :=
 D.ok Yj λ_ cm A outer s H E hr=>by exact(Zn (ZH (Dy (Zl BM hr (Zc (Zd 0) (Zc Zj (Zc (Jm T.c_MOST_LOOKS) Zh)))) (D3 (Jj T.n_all rfl (AI (Z6 rfl rfl (N:=["look","thing","many"]) (ZM (sc:=Zi JO) (XN:=["thing","many"])) (A3 (Zd 0)) (λ_ _ _ _ _=>A8) (λ_ _ _ _ _=>(Zl MG hr (Zc (Zd 0) (Zc (Zd 2) Zh)))))))))))
theorem Rh:Zy ["thing","many"] ["thing"] (Zi MS):=cP
theorem Yh(T:cJ K mg)(Mp:Callee P w K mg base k "is_crowd" Hy)(DG:Callee P w K mg base k "is_rising" Z3)(BM:Callee P w K mg base k "is_row" Ca)(DH:Callee P w K mg base k "is_number" DJ)(Nc:Callee P w K mg base k "are_deeds" HK)(Nb:Callee P w K mg base k "are_looks" HJ)(D:cp K mg "are_works" MS ["thing"]):Callee P w K mg base (k+1) "are_works" HI :=
 D.ok Rh λ_ cm A outer s H E hr=>by
  exact(Zk (Bu (IQ (K2 (D8 (Dz (Zl BM hr (Zc (Zd 0) (Zc Zj (Zc Zj Zh)))))) (Lu (D8 (Dz (Zl DH hr (Zc (Z1 (Zu 0) Zj) (Zc Zj (Zc (Jm T.c_MOST_STATES) Zh))))))))) (Zn (ZH D7)) Bs)
  (Zk (ZR 1 Rh.nd (Z1 (Zu 0) Zj))
  (Zk (Bu (IQ (K2 (D8 (Dz (Zl Nc hr (Zc (Z1 (Zu 0) Zj) (Zc (Zd 1) Zh))))) (Lu (D8 (Dz (Zl Nb hr (Zc (Z1 (Zu 0) Zj) (Zc (Zd 1) Zh)))))))) (Zn (ZH D7)) Bs)
  (Zn (ZH (Dy (Zl Mp hr (Zc (Z1 (Zu 0) Zj) (Zc (Zd 1) Zh))) (D3 (Zl DG hr (Zc (Z1 (Zu 0) Zj) (Zc (Zd 1) Zh))))))))))
theorem Xw:Zy ["works"] ["works"] (Zi MJ):=cP
theorem Xv(T:cJ K mg)(Na:Callee P w K mg base k "are_works" HI)(D:cp K mg "checked" MJ ["works"]):Callee P w K mg base (k+1) "checked" C8 :=
 D.ok Xw λ_ cm A outer s H E hr=>by
  exact(Zk (Bu (D8 (Dz (Zl Na hr (Zc (Zd 0) Zh)))) (Zn Vg) Bs)
  (Zn (ZH (Zd 0))))
theorem JI:Zy ["marks","numbers","kinds","mark"] ["marks"] (Zi Mv):=cP
theorem Yu(T:cJ K mg)(D:cp K mg "numbered" Mv ["marks"]):Callee P w K mg base (k+1) "numbered" Ed :=
 D.ok JI λ_ cm A outer s H E hr=>by
  exact(Zk (BG 1 JI.nd S2)
  (Zk (BG 2 JI.nd (BY Zh))
  (Zk (We JI.nd rfl rfl T.n_len hr.units (A3 (Zd 0)))
  (Zn (Ls 2 (ZH (Zd 2)))))))
theorem Yt:Zy ["crowd","kinds"] ["crowd","kinds"] (Zi JS):=cP
theorem Ys(T:cJ K mg)(D:cp K mg "kinds_in" JS ["crowd","kinds"]):Callee P w K mg base (k+1) "kinds_in" Z7 :=
 D.ok Yt λ_ cm A outer s H E hr=>by exact(Zn (ZH (ZD T.n_tuple (AI (QT T.n_sorted T.n_set rfl (AI (Z6 rfl rfl (N:=["state","crowd","kinds"]) (ZM (sc:=Zi JS) (XN:=["crowd","kinds"])) (A3 (Zd 0)) (λ_ _ _ _ _=>A8) (λ_ _ _ _ _=>(Z1 (Zu 2) (Zd 0))))))))))
theorem Yr:Zy ["works"] ["works"] (Zi My):=cP
theorem YI(T:cJ K mg)(D:cp K mg "deeds_of" My ["works"]):Callee P w K mg base (k+1) "deeds_of" ZX :=
 D.ok Yr λ_ cm A outer s H E hr=>by exact(Zn (ZH (Z1 (Zu 0) Zj)))
theorem Yg:Zy ["works","state","kinds"] ["works","state","kinds"] (Zi JN):=cP
theorem Yf(T:cJ K mg)(C5:Callee P w K mg base k "kinds_in" Z7)(FR:Callee P w K mg base k "deeds_of" ZX)(D:cp K mg "next_mark" JN ["works","state","kinds"]):Callee P w K mg base (k+1) "next_mark" E2 :=
 D.ok Yg λ_ cm A outer s H E hr=>by exact(Zn (ZH (Cn (Zc (Z1 (Zu 2) (Zd 1)) (Zc (ZD T.n_tuple (AI (Z6 rfl rfl (N:=["leads","works","state","kinds"]) (ZM (sc:=Zi JN) (XN:=["works","state","kinds"])) (A3 (Zl FR hr (Zc (Zd 0) Zh))) (λ_ _ _ _ _=>A8) (λ_ _ _ _ _=>(Zl C5 hr (Zc (Z1 (Zu 0) (Zd 2)) (Zc (Zd 3) Zh))))))) Zh)))))
theorem Ye:Zy ["works"] ["works"] (Zi MR):=cP
theorem Yd(T:cJ K mg)(D:cp K mg "states_of" MR ["works"]):Callee P w K mg base (k+1) "states_of" ZN :=
 D.ok Ye λ_ cm A outer s H E hr=>by exact(Zn (ZH (Z1 (Zu 0) Zj)))
theorem Wc:Zy ["works","kinds"] ["works","kinds"] (Zi Jp):=cP
theorem Wb(T:cJ K mg)(FQ:Callee P w K mg base k "numbered" Ed)(M9:Callee P w K mg base k "next_mark" E2)(FK:Callee P w K mg base k "states_of" ZN)(D:cp K mg "finer" Jp ["works","kinds"]):Callee P w K mg base (k+1) "finer" EO :=
 D.ok Wc λ_ cm A outer s H E hr=>by exact(Zn (ZH (Zl FQ hr (Zc (IW (Z6 rfl rfl (N:=["state","works","kinds"]) (ZM (sc:=Zi Jp) (XN:=["works","kinds"])) (CH T.n_range (Zl FK hr (Zc (Zd 0) Zh))) (λ_ _ _ _ _=>A8) (λ_ _ _ _ _=>(Zl M9 hr (Zc (Zd 1) (Zc (Zd 0) (Zc (Zd 2) Zh))))))) Zh))))
theorem Xu:Zy ["works"] ["works"] (Zi MK):=cP
theorem Xt(T:cJ K mg)(D:cp K mg "goal_of" MK ["works"]):Callee P w K mg base (k+1) "goal_of" Ee :=
 D.ok Xu λ_ cm A outer s H E hr=>by exact(Zn (ZH (Z1 (Zu 0) Zj)))
theorem YH:Zy ["works"] ["works"] (Zi Mx):=cP
theorem YG(T:cJ K mg)(D:cp K mg "looks_of" Mx ["works"]):Callee P w K mg base (k+1) "looks_of" ZY :=
 D.ok YH λ_ cm A outer s H E hr=>by exact(Zn (ZH (Z1 (Zu 0) Zj)))
theorem YN:Zy ["works","state"] ["works","state"] (Zi JF):=cP
theorem YM(T:cJ K mg)(FN:Callee P w K mg base k "goal_of" Ee)(FP:Callee P w K mg base k "looks_of" ZY)(D:cp K mg "first_mark" JF ["works","state"]):Callee P w K mg base (k+1) "first_mark" E7 :=
 D.ok YN λ_ cm A outer s H E hr=>by exact(Zn (ZH (Cn (Zc (TJ (Zd 1) (Lv (Zl FN hr (Zc (Zd 0) Zh)))) (Zc (ZD T.n_tuple (AI (Z6 rfl rfl (N:=["look","works","state"]) (ZM (sc:=Zi JF) (XN:=["works","state"])) (A3 (Zl FP hr (Zc (Zd 0) Zh))) (λ_ _ _ _ _=>A8) (λ_ _ _ _ _=>(Z1 (Zu 0) (Zd 2)))))) Zh)))))
theorem M8:Zy ["works","kinds"] ["works"] (Zi JR):=cP
theorem YF(T:cJ K mg)(FQ:Callee P w K mg base k "numbered" Ed)(Jo:Callee P w K mg base k "finer" EO)(MZ:Callee P w K mg base k "first_mark" E7)(FK:Callee P w K mg base k "states_of" ZN)(D:cp K mg "kinds_of" JR ["works"]):Callee P w K mg base (k+1) "kinds_of" Ec :=
 D.ok M8 λ_ cm A outer s H E hr=>by
  exact(Zk (ZR 1 M8.nd (Zl FQ hr (Zc (IW (Z6 rfl rfl (N:=["state","works","kinds"]) (ZM (sc:=Zi JR) (XN:=["works","kinds"])) (CH T.n_range (Zl FK hr (Zc (Zd 0) Zh))) (λ_ _ _ _ _=>A8) (λ_ _ _ _ _=>(Zl MZ hr (Zc (Zd 1) (Zc (Zd 0) Zh)))))) Zh)))
  (Zk (VS 100000 rfl (Co (oT hr) (Zl Jo hr (Zc (Zd 0) (Zc (Zd 1) Zh))) (Zd 1)) (Zn (ZR 1 M8.nd (Zl Jo hr (Zc (Zd 0) (Zc (Zd 1) Zh))))))
  (Zn (ZH (Zd 1)))))
theorem Y6:Zy ["kinds","kind"] ["kinds","kind"] (Zi JU):=cP
theorem Y5(T:cJ K mg)(D:cp K mg "states_of_kind" JU ["kinds","kind"]):Callee P w K mg base (k+1) "states_of_kind" F5 :=
 D.ok Y6 λ_ cm A outer s H E hr=>by exact(Zn (ZH (IW (Z6 rfl rfl (N:=["state","kinds","kind"]) (ZM (sc:=Zi JU) (XN:=["kinds","kind"])) (CH T.n_range (D1 T.n_len (Zu 0))) (λ_ _ _ _ _=>(LH (Co (gI hr) (Z1 (Zu 1) (Zd 0)) (Zd 2)))) (λ_ _ _ _ _=>(Zd 0))))))
theorem Rj:Zy ["works","kinds"] ["works"] (Zi JY):=cP
theorem YV(T:cJ K mg)(DK:Callee P w K mg base k "checked" C8)(FO:Callee P w K mg base k "kinds_of" Ec)(Nk:Callee P w K mg base k "states_of_kind" F5)(D:cp K mg "alike_states" JY ["works"]):Callee P w K mg base (k+1) "alike_states" ZP :=
 D.ok Rj λ_ cm A outer s H E hr=>by
  exact(Zk (Pl (Zl DK hr (Zc (Zd 0) Zh)))
  (Zk (ZR 1 Rj.nd (Zl FO hr (Zc (Zd 0) Zh)))
  (Zn (ZH (IW (Z6 rfl rfl (N:=["kind","works","kinds"]) (ZM (sc:=Zi JY) (XN:=["works","kinds"])) (CH T.n_range (ZB AS (UR T.n_max rfl (Zu 1)) Zj)) (λ_ _ _ _ _=>A8) (λ_ _ _ _ _=>(Zl Nk hr (Zc (Zd 2) (Zc (Zd 0) Zh))))))))))
theorem Y2:Zy ["leads","firsts","kinds"] ["leads","firsts","kinds"] (Zi JX):=cP
theorem Y1(T:cJ K mg)(C5:Callee P w K mg base k "kinds_in" Z7)(D:cp K mg "merged_deed" JX ["leads","firsts","kinds"]):Callee P w K mg base (k+1) "merged_deed" FY :=
 D.ok Y2 λ_ cm A outer s H E hr=>by exact(Zn (ZH (ZD T.n_tuple (AI (Z6 rfl rfl (N:=["state","leads","firsts","kinds"]) (ZM (sc:=Zi JX) (XN:=["leads","firsts","kinds"])) (A3 (Zd 1)) (λ_ _ _ _ _=>A8) (λ_ _ _ _ _=>(Zl C5 hr (Zc (Z1 (Zu 1) (Zd 0)) (Zc (Zd 3) Zh)))))))))
theorem Y0:Zy ["look","firsts"] ["look","firsts"] (Zi JW):=cP
theorem YZ(T:cJ K mg)(D:cp K mg "merged_look" JW ["look","firsts"]):Callee P w K mg base (k+1) "merged_look" FW :=
 D.ok Y0 λ_ cm A outer s H E hr=>by exact(Zn (ZH (ZD T.n_tuple (AI (Z6 rfl rfl (N:=["state","look","firsts"]) (ZM (sc:=Zi JW) (XN:=["look","firsts"])) (A3 (Zd 1)) (λ_ _ _ _ _=>A8) (λ_ _ _ _ _=>(Z1 (Zu 1) (Zd 0))))))))
theorem YE:Zy ["works"] ["works"] (Zi Mw):=cP
theorem YD(T:cJ K mg)(D:cp K mg "begin_of" Mw ["works"]):Callee P w K mg base (k+1) "begin_of" JT :=
 D.ok YE λ_ cm A outer s H E hr=>by exact(Zn (ZH (Z1 (Zu 0) Zj)))
abbrev EY:List Str:=["works","kinds","firsts","deeds","looks"]
theorem HA:Zy EY ["works"] (Zi FG):=cP
theorem W6(T:cJ K mg)(DK:Callee P w K mg base k "checked" C8)(FO:Callee P w K mg base k "kinds_of" Ec)(C5:Callee P w K mg base k "kinds_in" Z7)(FZ:Callee P w K mg base k "alike_states" ZP)(Ni:Callee P w K mg base k "merged_deed" FY)(Nh:Callee P w K mg base k "merged_look" FW)(Mo:Callee P w K mg base k "begin_of" JT)(FN:Callee P w K mg base k "goal_of" Ee)(FR:Callee P w K mg base k "deeds_of" ZX)(FP:Callee P w K mg base k "looks_of" ZY)(D:cp K mg "merged" FG ["works"]):Callee P w K mg base (k+1) "merged" Ea :=
 D.ok HA λ_ cm A outer s H E hr=>by
  exact(Zk (Pl (Zl DK hr (Zc (Zd 0) Zh)))
  (Zk (ZR 1 HA.nd (Zl FO hr (Zc (Zd 0) Zh)))
  (Zk (BG 2 HA.nd (Z6 rfl rfl (N:="states" :: EY) (ZM (sc:=Zi FG) (XN:=EY)) (A3 (Zl FZ hr (Zc (Zd 0) Zh))) (λ_ _ _ _ _=>A8) (λ_ _ _ _ _=>(Z1 (Zu 0) Zj))))
  (Zk (Ls 2 (ZR 3 HA.nd (ZD T.n_tuple (AI (Z6 rfl rfl (N:="leads" :: EY) (ZM (sc:=Zi FG) (XN:=EY)) (A3 (Zl FR hr (Zc (Zd 0) Zh))) (λ_ _ _ _ _=>A8) (λ_ _ _ _ _=>(Zl Ni hr (Zc (Zd 0) (Zc (Zd 3) (Zc (Zd 2) Zh))))))))))
  (Zk (Ls 2 (ZR 4 HA.nd (ZD T.n_tuple (AI (Z6 rfl rfl (N:="look" :: EY) (ZM (sc:=Zi FG) (XN:=EY)) (A3 (Zl FP hr (Zc (Zd 0) Zh))) (λ_ _ _ _ _=>A8) (λ_ _ _ _ _=>(Zl Nh hr (Zc (Zd 0) (Zc (Zd 3) Zh)))))))))
  (Zn (ZH (Cn (Zc (D1 T.n_len (Zu 2)) (Zc (Zd 3) (Zc (Zd 4) (Zc (Zl C5 hr (Zc (Zl Mo hr (Zc (Zd 0) Zh)) (Zc (Zd 1) Zh))) (Zc (Zl C5 hr (Zc (Zl FN hr (Zc (Zd 0) Zh)) (Zc (Zd 1) Zh))) Zh)))))))))))))
abbrev Nf:List Str:=["_law_works_here","_law_cell_here","_law_many","_law_deeds","_law_looks","_law_begin","_law_goal","_law_old","_law_rows","_law_deed_here","_law_row","_law_state","_law_some","_law_seen"]
theorem ZZ:Zy Nf ["_law_works_here","_law_cell_here"] (Zi JV):=cP
theorem YY(T:cJ K mg)(ZE:Callee P w K mg base k "_law_mix" ZC)(D:cp K mg "_law_doubled" JV ["_law_works_here","_law_cell_here"]):Callee P w K mg base (k+1) "_law_doubled" HC :=
 D.ok ZZ λ_ cm A outer s H E hr=>by
  exact(Zk (UP 2 3 4 5 6 ZZ.nd rfl (Zd 0))
  (Zk (ZR 7 ZZ.nd (ZB fZ (Zd 1) (Zd 2)))
  (Zk (BG 8 ZZ.nd (BY Zh))
  (Zk (D2 9 ZZ.nd rfl rfl (A3 (Zd 3)) (Zk (BG 10 ZZ.nd (BY Zh))
  (Zk (D2 11 ZZ.nd rfl rfl (CH T.n_range (Zd 2)) (Zk (BG 12 ZZ.nd (Qk T.n_list (Lv (Z1 (Zu 9) (Zd 11)))))
  (Zk (Bu (IQ (TR (Lp (Zd 7) (Zu 12)) (UT (Co lq (Zl ZE hr (Zc (ZB AS (Zd 1) (ZB B7 Zj (Zd 11))) (Zc Zj (Zc Zj Zh)))) Zj)))) (Zn (C6 12 (Zd 2))) Bs)
  (Zn (C6 10 (ZD T.n_tuple (Zu 12)))))))
  (Zn (C6 8 (ZD T.n_tuple (AI (Lq (Zu 10) (AI (BY (Zc (Z1 (Zu 10) (Zd 7)) Zh)))))))))))
  (Zk (ZR 13 ZZ.nd (ZD T.n_tuple (AI (Z6 rfl rfl (N:="_law_look" :: Nf) (ZM (sc:=Zi JV) (XN:=Nf)) (A3 (Zd 4)) (λ_ _ _ _ _=>A8) (λ_ _ _ _ _=>(L4 (Zd 0) (Cn (Zc (Z1 (Zu 0) (Zd 8)) Zh))))))))
  (Zk (Bu (Lp (Zd 7) (Zu 6)) (Zn (ZR 6 ZZ.nd (L4 (Zd 6) (Cn (Zc (Zd 2) Zh))))) Bs)
  (Zn (ZH (Cn (Zc (ZB AS (Zd 2) Zj) (Zc (ZD T.n_tuple (Zu 8)) (Zc (Zd 13) (Zc (L4 (Zd 5) (UQ (Cn (Zc (Zd 2) Zh)) (ZB fZ (Zd 1) Zj))) (Zc (Zd 6) Zh))))))))))))))
abbrev M4:List Str:=["_law_some","_law_states","_law_found","_law_kind","_law_kin"]
theorem MY:Zy M4 ["_law_some","_law_states"] (Zi JK):=cP
theorem Yc(T:cJ K mg)(D:cp K mg "_law_kinds" JK ["_law_some","_law_states"]):Callee P w K mg base (k+1) "_law_kinds" CG :=
 D.ok MY λ_ cm A outer s H E hr=>by
  exact(Zk (BG 2 MY.nd (BY Zh))
  (Zk (VP 3 4 MY.nd rfl rfl (VQ T.n_enumerate (Zd 0)) (Zn (Bu (TH (AI (Z6 rfl rfl (N:="_law_state" :: M4) (ZM (sc:=Zi JK) (XN:=M4)) (A3 (Zd 4)) (λ_ _ _ _ _=>(LH (Lp (Zd 0) (Zu 2)))) (λ_ _ _ _ _=>(Zd 0))))) (Zn (C6 2 (Zd 3))) Bs)))
  (Zn (ZH (ZD T.n_tuple (Zu 2))))))
abbrev EH:List Str:=["_law_script","_law_works_here","_law_some","_law_deeds","_law_deed_here","_law_looks","_law_due","_law_found"]
theorem DF:Zy EH ["_law_script"] (Zi DA):=cP
theorem UO(T:cJ K mg)(M7:Callee P w K mg base k "_law_works" DI)(FZ:Callee P w K mg base k "alike_states" ZP)(JB:Callee P w K mg base k "merged" Ea)(Ng:Callee P w K mg base k "_law_doubled" HC)(HD:Callee P w K mg base k "_law_kinds" CG)(Cs:Callee P w K mg base k "_law_cell" ZJ)(DK:Callee P w K mg base k "checked" C8){fd:FuncData}(Fn:gs K "law" "law" DA f fd):BK P w K mg base fw (k+1) f fd ["_law_script"] (spD K 1 EG) :=
 ON Fn DF λcm A outer s H E hr=>by
  exact(Zk (ZR 1 DF.nd (Zl M7 hr (Zc (Zd 0) (Zc Zj Zh))))
  (Zk (Bu (Co (gI hr) (ZB fZ (Zl Cs hr (Zc (Zd 0) (Zc Zj Zh))) Zj) Zj) (Zn (ZR 1 DF.nd (Zl Ng hr (Zc (Zd 1) (Zc (Zl Cs hr (Zc (Zd 0) (Zc Zj Zh))) Zh))))) Bs)
  (Zk (ZR 2 DF.nd (Zl FZ hr (Zc (Zd 1) Zh)))
  (Zk (BG 3 DF.nd (BY Zh))
  (Zk (D2 4 DF.nd rfl rfl (A3 (Z1 (Zu 1) Zj)) (Zn (C6 3 (ZD T.n_tuple (AI (Z6 rfl rfl (N:="_law_kin" :: EH) (ZM (sc:=Zi DA) (XN:=EH)) (A3 (Zd 2)) (λ_ _ _ _ _=>A8) (λ_ _ _ _ _=>(Zl HD hr (Zc (Zd 3) (Zc (Z1 (Zu 5) (Z1 (Zu 0) Zj)) Zh))))))))))
  (Zk (ZR 5 DF.nd (ZD T.n_tuple (AI (VR rfl rfl (N:="_law_look" :: EH) (W9 (sc:=Zi DA) (XN:=EH)) (A3 (Z1 (Zu 1) Zj)) (λ_ _ _ _ _=>A8) (λ_ _ _ _ _=>(ZD T.n_tuple (AI (Z6 rfl rfl (N:="_law_kin" :: "_law_look" :: EH) (ZM (XN:="_law_look" :: EH) rfl rfl rfl (by kernel_rfl)) (A3 (Zd 3)) (λ_ _ _ _ _=>A8) (λ_ _ _ _ _=>(Z1 (Zu 1) (Z1 (Zu 0) Zj)))))))))))
  (Zk (ZR 6 DF.nd (Cn (Zc (D1 T.n_len (Zu 2)) (Zc (ZD T.n_tuple (Zu 3)) (Zc (Zd 5) (Zc (Zl HD hr (Zc (Zd 2) (Zc (Z1 (Zu 1) Zj) Zh))) (Zc (Zl HD hr (Zc (Zd 2) (Zc (Z1 (Zu 1) Zj) Zh))) Zh)))))))
  (Zk (ZR 7 DF.nd (Zl JB hr (Zc (Zd 1) Zh)))
  (Zn (ZH (Dy (G5 (gI hr) (Zd 7) (Zd 6)) (Dy (G5 (gI hr) (Zl JB hr (Zc (Zd 7) Zh)) (Zd 6)) (D3 (G5 (gI hr) (Zl DK hr (Zc (Zd 7) Zh)) (Zd 6)))))))))))))))
def pq:List (Addr×Str):=[]
@[reducible] def jz(K:Ad):FX:=mU
theorem aV{st:Stmt}{oc:Value}{od an:Option Addr}{gm:Array (Option Value)}{kV dR pm cm ct:Value}(X:K.In h)(G:h.Ns BJ mg)(a:PySem.W.nsIn K BJ x=some (some (.ref f)))(l:K.lookup f=some ⟨oc,od,.func (De x x (ET st) (CC st) (Zi st) .none kV dR pm an cm ct),gm⟩)(c:Gk K cm x=true)(kp:Fj K (.ref f)=true)(b:∀(kV dR pm:Value) (an:Option Addr) (cm ct:Value) (us:List Value),us.length=ps.length->bindArgs (De x x (ET st) (CC st) (Zi st) .none kV dR pm an cm ct) ⟨us,[]⟩=pure (ps.zip us)):cp K mg x st ps :=
 ⟨f,_,Ll l c kp,Km X G a,(Ll l c kp).binds b⟩
end
structure Ds(K:Ad)(mg:Str->Option Value):Prop where
 bA:cp K mg "_law_cell" Mu ["_law_script","_law_k"]
 bh:cp K mg "_law_mix" MI ["_law_cell_here","_law_prime","_law_many"]
 bN:cp K mg "_law_crowd" JM ["_law_cell_here","_law_many","_law_least"]
 bz:cp K mg "_law_deed" Mt ["_law_cell_here","_law_many"]
 bx:cp K mg "_law_walk" Ms ["_law_cell_here","_law_many"]
 bM:cp K mg "_law_works" JL ["_law_script","_law_at"]
 bL:cp K mg "is_number" MU ["thing","least","most"]
 bK:cp K mg "is_rising" MT ["thing","many"]
 bw:cp K mg "is_crowd" Mz ["thing","many"]
 a7:cp K mg "is_row" Mf ["thing","least","most"]
 bg:cp K mg "is_deed" Jw ["thing","many"]
 bH:cp K mg "are_deeds" JC ["thing","many"]
 bf:cp K mg "is_look" Jv ["thing","many"]
 bG:cp K mg "are_looks" JO ["thing","many"]
 bF:cp K mg "are_works" MS ["thing"]
 ba:cp K mg "checked" MJ ["works"]
 bu:cp K mg "numbered" Mv ["marks"]
 br:cp K mg "kinds_in" JS ["crowd","kinds"]
 bq:cp K mg "deeds_of" My ["works"]
 bE:cp K mg "next_mark" JN ["works","state","kinds"]
 bD:cp K mg "states_of" MR ["works"]
 aZ:cp K mg "finer" Jp ["works","kinds"]
 a8:cp K mg "goal_of" MK ["works"]
 bp:cp K mg "looks_of" Mx ["works"]
 bJ:cp K mg "first_mark" JF ["works","state"]
 bo:cp K mg "kinds_of" JR ["works"]
 bS:cp K mg "states_of_kind" JU ["kinds","kind"]
 bR:cp K mg "alike_states" JY ["works"]
 bQ:cp K mg "merged_deed" JX ["leads","firsts","kinds"]
 bP:cp K mg "merged_look" JW ["look","firsts"]
 bj:cp K mg "begin_of" Mw ["works"]
 a6:cp K mg "merged" FG ["works"]
 bO:cp K mg "_law_doubled" JV ["_law_works_here","_law_cell_here"]
 bC:cp K mg "_law_kinds" JK ["_law_some","_law_states"]
section
variable[FX]{P:Program}{w:World}{K:Ad}{mg:Str->Option Value}{base:Heap}{k:Nat}
theorem aU(T:cJ K mg)(Dd:Ds K mg){f:Addr}{fd:FuncData}(Fn:gs K "law" "law" DA f fd):BK P w K mg base fw 9 f fd ["_law_script"] (spD K 1 EG):=by have Cs:Callee P w K mg base 1 _ _:=Yz T Dd.bA;have ZE:Callee P w K mg base 1 _ _:=XD T Dd.bh;have JJ:Callee P w K mg base 2 _ _:=Yq T (cy ZE) Dd.bN;have Mr:Callee P w K mg base 2 _ _:=Yy T (cy ZE) Dd.bz;have Mq:Callee P w K mg base 2 _ _:=Yx T (cy ZE) Dd.bx;have M7:Callee P w K mg base 3 _ _:=Yp T (cy Cs) (cy JJ) (cy ZE) (cy Mr) (cy Mq) Dd.bM;have DH:Callee P w K mg base 1 _ _:=Yn T Dd.bL;have DG:Callee P w K mg base 2 _ _:=Ym T (cy DH) Dd.bK;have Mp:Callee P w K mg base 3 _ _:=Yv T (cy DG) Dd.bw;have BM:Callee P w K mg base 1 _ _:=WM T Dd.a7;have MH:Callee P w K mg base 3 _ _:=Xz T (cy BM) (cy DG) Dd.bg;have Nc:Callee P w K mg base 4 _ _:=Yk T (cy BM) (cy MH) Dd.bH;have MG:Callee P w K mg base 2 _ _:=Xx T (cy BM) (cy DH) Dd.bf;have Nb:Callee P w K mg base 3 _ _:=Yi T (cy BM) (cy MG) Dd.bG;have Na:Callee P w K mg base 5 _ _:=Yh T (cy Mp) (cy DG) (cy BM) (cy DH) (cy Nc) (cy Nb) Dd.bF;have DK:Callee P w K mg base 6 _ _:=Xv T (cy Na) Dd.ba;have FQ:Callee P w K mg base 1 _ _:=Yu T Dd.bu;have C5:Callee P w K mg base 1 _ _:=Ys T Dd.br;have FR:Callee P w K mg base 1 _ _:=YI T Dd.bq;have M9:Callee P w K mg base 2 _ _:=Yf T (cy C5) (cy FR) Dd.bE;have FK:Callee P w K mg base 1 _ _:=Yd T Dd.bD;have Jo:Callee P w K mg base 3 _ _:=Wb T (cy FQ) (cy M9) (cy FK) Dd.aZ;have FN:Callee P w K mg base 1 _ _:=Xt T Dd.a8;have FP:Callee P w K mg base 1 _ _:=YG T Dd.bp;have MZ:Callee P w K mg base 2 _ _:=YM T (cy FN) (cy FP) Dd.bJ;have FO:Callee P w K mg base 4 _ _:=YF T (cy FQ) (cy Jo) (cy MZ) (cy FK) Dd.bo;have Nk:Callee P w K mg base 1 _ _:=Y5 T Dd.bS;have FZ:Callee P w K mg base 7 _ _:=YV T (cy DK) (cy FO) (cy Nk) Dd.bR;have Ni:Callee P w K mg base 2 _ _:=Y1 T (cy C5) Dd.bQ;have Nh:Callee P w K mg base 1 _ _:=YZ T Dd.bP;have Mo:Callee P w K mg base 1 _ _:=YD T Dd.bj;have JB:Callee P w K mg base 8 _ _:=W6 T (cy DK) (cy FO) (cy C5) (cy FZ) (cy Ni) (cy Nh) (cy Mo) (cy FN) (cy FR) (cy FP) Dd.a6;have Ng:Callee P w K mg base 2 _ _:=YY T (cy ZE) Dd.bO;have HD:Callee P w K mg base 1 _ _:=Yc T Dd.bC;exact UO (k:=8) T (cy M7) (cy FZ) (cy JB) (cy Ng) (cy HD) (cy Cs) (cy DK) Fn
end
theorem lX{l:Kg}{w:World}{K:Ad}{mg:Str->Option Value}{fa f4:Addr}{nr oU:Option Addr}{m8:Array (Option Value)}{nu nA oQ nq mP oR:Value}(X:K.In h)(G:h.Ns BJ mg)(og:mg "law"=some (.ref fa))(T:cJ K mg)(Dd:Ds K mg)(a4:PySem.W.nsIn K BJ "law"=some (some (.ref f4)))(l4:K.lookup f4=some ⟨nu,nr,.func (De "law" "law" (ET DA) (CC DA) (Zi DA) .none nA oQ nq oU mP oR),m8⟩)(c4:Gk K mP "law"=true)(k4:Fj K (.ref f4)=true):∃fd:FuncData,(∀(s:Shared) (v:Value),BindsTo s fd ⟨[v],[]⟩ [("_law_script",v)])/\∀base:Heap,K.In base->base.Ns BJ mg->BMod base mg->BK l.prog w K mg base fw 9 fa fd ["_law_script"] (@spD (jz K) K 1 EG):=by
 have e:=og.symm.trans (Km X G a4);cases e;have oN:FX:=mU;exact⟨_,λs v=>.of_eq rfl,λbase _ _ bm=>@aU (jz K) _ _ _ _ _ T  Dd _ _ (Ll (st:=DA) l4 c4 k4)⟩
theorem pe{l:Kg}{q:Program}{dY:List Str}{XP:(Str->Option Value)->Heap->Prop}{YP:World->Heap->Prop}{d:DefRec}{K:Params->Ad}(hn:l.most=some 63)(js:d.params.defaults=[])(Qv:∀ns:List Int,ns.length<=63->EG [.list (HM.el ns)]=some (.bool true))(hY:∀(w:World) (h:Heap),YP w h->(K w.params).In h)(la:∀(w:World) (h:Heap),YP w h->∀q∈([]:List (Addr×Addr)),h.get? q.2=some (Ij #[]))(hT:∀(w:World),∀q∈([]:List (Addr×Addr)),Iu (K w.params) q.1 q.2=true/\(K w.params).lookup q.2=none)
  (F:∀(w:World) (mg:Str->Option Value) (fa:Addr) (h:Heap),(K w.params).In h->h.Ns BJ mg->mg d.name=some (.ref fa) ->
   ∃fd:FuncData,(∀(s:Shared) (u:Value),BindsTo s fd ⟨[u],[]⟩ [("_law_script",u)])/\∀base:Heap,(K w.params).In base->base.Ns BJ mg->BMod base mg->BK l.prog w (K w.params) mg base fw 9 fa fd ["_law_script"] (@spD (jz (K w.params)) (K w.params) 1 EG)):
  PySem.W.WalkO q dY XP YP l.row.toRowW d [] (λf vs=>PySem.call f vs) :=
 UZ (n:=63) (k:=9) (x:="_law_script") (sp:=λw=>@spD (jz (K w.params)) (K w.params) 1 EG) (tabs:=[]) hn (by decide) js ⟨rfl,by decide,by decide⟩ hY la hT F λw H a ns hl hO hS=>@aS (jz (K w.params)) _ _ _ _ _ _ hO (λT q h=>by exact absurd (show(T,q)∈([]:List (Addr×Str)) from h) (by simp)) hS (Qv ns hl)
section
variable{P:Program}{w:World}{K:Ad}{mg:Str->Option Value}{base:Heap}{k:Nat}
abbrev aw{K:Ad}(_:K.In h)(mg:Str->Option Value):Prop:=Ds K mg
abbrev ax{K:Ad}(_:K.In h)(mg:Str->Option Value):Prop:=cJ K mg
theorem lW{mg:Str->Option Value}{n:Str}{v:Value}{k:Int}(h:mg n=some v)(e:∃t,v=.int k t):∃t,mg n=some (.int k t):=by obtain⟨t,rfl⟩:=e;exact⟨t,h⟩
end
end HT
namespace PySem.W.Fast
theorem tw16883078925552127342:1=1:=rfl
theorem tw3029008534470527753:1=1:=rfl
theorem tw15976774758948216339:1=1:=rfl
theorem tw14162993636793138422:1=1:=rfl
theorem tw1135768724562301814:1=1:=rfl
theorem tw3252732277477929809:1=1:=rfl
theorem tw12079811408292270893:1=1:=rfl
theorem tw8580108880606770956:1=1:=rfl
theorem tw12863173410647962400:1=1:=rfl
theorem tw12638419465623069169:1=1:=rfl
theorem tw5071841291604123255:1=1:=rfl
theorem tw6407623251970539300:1=1:=rfl
theorem tw18420098285321956313:1=1:=rfl
theorem tw6302313486446545953:1=1:=rfl
theorem tw15156011548914840222:1=1:=rfl
theorem tw15223914630740144028:1=1:=rfl
theorem tw4937554162433819093:1=1:=rfl
theorem tw7135370070441973703:1=1:=rfl
theorem tw10772306911128815246:1=1:=rfl
theorem tw5474071019782017598:1=1:=rfl
theorem tw10729288458869356016:1=1:=rfl
theorem tw1093484436067068341:1=1:=rfl
theorem tw13370919995446691384:1=1:=rfl
theorem tw17147869084600589646:1=1:=rfl
theorem tw17943361936117292850:1=1:=rfl
theorem tw13889677331298333104:1=1:=rfl
theorem tw15852141059035329768:1=1:=rfl
theorem tw1301962545086026544:1=1:=rfl
theorem tw7795428421274145013:1=1:=rfl
theorem tw8807842482936958563:1=1:=rfl
theorem tw14842944706401009962:1=1:=rfl
theorem tw6520427193388654977:1=1:=rfl
theorem tw11426120010918724618:1=1:=rfl
theorem tw15417378723070852814:1=1:=rfl
theorem tw3587344443496498814:1=1:=rfl
theorem tw16197803818092078683:1=1:=rfl
theorem tw6312674150720002968:1=1:=rfl
theorem tw15334923548305607636:1=1:=rfl
theorem tw684949470799925834:1=1:=rfl
theorem tw14856421051229149110:1=1:=rfl
theorem tw10301212184567972696:1=1:=rfl
theorem tw10183601828576089596:True:=⟨⟩
theorem tw11400759853695473424:True:=⟨⟩
theorem tw11760600958315930307:True:=⟨⟩
theorem tw12235246067038206608:True:=⟨⟩
theorem tw12398915903418815799:True:=⟨⟩
theorem tw13591307994306949166:True:=⟨⟩
theorem tw14516871962212288378:True:=⟨⟩
theorem tw14901245977322319679:True:=⟨⟩
theorem tw16241771529188895477:True:=⟨⟩
theorem tw2039817131917770944:True:=⟨⟩
theorem tw2299312683213430688:True:=⟨⟩
theorem tw2788432153561779136:True:=⟨⟩
theorem tw2991581847070664753:True:=⟨⟩
theorem tw3047501778772188381:True:=⟨⟩
theorem tw3228732386585414622:True:=⟨⟩
theorem tw3515103660740221057:True:=⟨⟩
theorem tw6239580378510284611:True:=⟨⟩
theorem tw6302408310308956126:True:=⟨⟩
theorem tw6973356662084292065:True:=⟨⟩
theorem tw8017473224879976620:True:=⟨⟩
theorem tw837826853325059354:True:=⟨⟩
theorem tw9856619342422963150:True:=⟨⟩
theorem tw9955623868661872966:True:=⟨⟩
end PySem.W.Fast
open PySem PySem.W PyProof.Rows
set_option maxRecDepth 100000 in
set_option maxHeartbeats 0 in
theorem PySem.Challenge.cw_halfseen_k28_merged_holds : PySem.Challenge.rw_halfseen_k28_merged.Holds := by
 w_on;o_law;k_head;(case hw=>w_witness2)
 k_fill
 refine HT.pe (l:=PySem.Challenge.rw_halfseen_k28_merged) rfl rfl HG28.Qv (λw h pv=>PySem.W.kIn_of pv) (λ_ _ _ q hq=>absurd hq (by simp)) (λ_ q hq=>absurd hq (by simp)) ?F
 case F =>
  intro w mg fa h KX G iz;have oN:HP.FX:=HP.mU;have T:HT.ax KX mg:=by
   refine⟨?_,?_,?_,?_,?_,?_,?_,?_,?_,?_,?_,?_,?_,?_,?_,?_,?_⟩
   all_goals first
    |(refine PySem.W.mg_none_of KX G ?z;(case z=>k_is))
    |(refine' HT.lW (Km KX G ?z) ?e;(case z=>k_is);(case e=>exact⟨_,rfl⟩))
  have Dd:HT.aw KX mg:=by
   refine⟨?_,?_,?_,?_,?_,?_,?_,?_,?_,?_,?_,?_,?_,?_,?_,?_,?_,?_,?_,?_,?_,?_,?_,?_,?_,?_,?_,?_,?_,?_,?_,?_,?_,?_⟩
   all_goals first
    |(refine' HT.aV KX G ?a ?l ?c ?k ?b;(case a=>k_is);(case l=>k_is);(case c=>k_is);(case k=>k_is);(case b=>first|exact λ_ _ _ _ _ _ us hl=>(match us,hl with|[_],_=>rfl)|exact λ_ _ _ _ _ _ us hl=>(match us,hl with|[_,_],_=>rfl)|exact λ_ _ _ _ _ _ us hl=>(match us,hl with|[_,_,_],_=>rfl)))
  refine' HT.lX KX G iz T Dd ?a4 ?l4 ?c4 ?k4
  (case a4=>k_is);(case l4=>k_is);(case c4=>k_is);(case k4=>k_is)