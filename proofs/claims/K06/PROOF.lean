import PyProof.Rows.All
import Wide.All
import OpenK.AllK
import Wide.FinOn
import Lean
import PyProof.EqAt
import PyProof.EqKinds
import PyProof.TupleCall
import PyProof.P3Statements
import PyProof.P3Eq
import PyProof.NeData
import PyProof.IsiPairs
import PyProof.IsiHeapPairs
import KE.LcSums
import PyProof.IsiNone
import PyProof.DictRoadsH
import PyProof.Rows.SetFrom
import PyProof.DictWalks
import PyProof.Rows.MinMaxN
import PyProof.Rows.SumAny
import PySem.Challenge.RW_halfseen_k06_plans_found
set_option Elab.async false
set_option linter.all false
set_option maxRecDepth 100000
namespace L2
open PySem PySem.Spec PyProof.Rows
abbrev Key:=Sum Int Str
def Zij:Key->Value->Bool
 | .inl k,v=>Value.isInt k v
 | .inr x,v=>Value.isStrOf x v
def Zwy (w:World):Key->Int
 | .inl k=>hashInt k
 | .inr x=>hashStr w x
theorem Zbe:∀ {k:Key} {v:Value},Zij k v = true->(∃ i t,k = Sum.inl i/\v = Value.int i t)\/(∃ x t,k = Sum.inr x/\v = Value.str x t)
  | .inl i, v, h => by
    obtain ⟨t,e⟩:=Value.isInt_shape (k:=i) (v:=v) h
    exact .inl ⟨i,t,rfl,e⟩
  | .inr x, v, h => by
    obtain ⟨t,e⟩:=Value.isStrOf_shape (x:=x) (v:=v) h
    exact .inr ⟨x,t,rfl,e⟩
theorem Zrl (i:Int) (t:Tok):Zij (.inl i) (.int i t) = true:=by simp [Zij,Value.isInt]
theorem Zq6 (x:Str) (t:Tok):Zij (.inr x) (.str x t) = true:=by simp [Zij,Value.isStrOf]
theorem ZuW (a b:Int):decide ((Sum.inl a:Key) = Sum.inl b) = (a == b):=by
 by_cases e:a = b
 ·subst e; simp
 ·have h:¬ (Sum.inl a:Key) = Sum.inl b:=fun q=>e (Sum.inl.inj q)
  rw [decide_eq_false h]
  exact (beq_eq_false_iff_ne.mpr e).symm
theorem Zvo (a b:Str):decide ((Sum.inr a:Key) = Sum.inr b) = decide (a = b):=by
 by_cases e:a = b
 ·subst e; simp
 ·have h:¬ (Sum.inr a:Key) = Sum.inr b:=fun q=>e (Sum.inr.inj q)
  rw [decide_eq_false h,decide_eq_false e]
theorem Zvn (a:Int) (b:Str):decide ((Sum.inl a:Key) = Sum.inr b) = false:=decide_eq_false (fun q=>nomatch q)
theorem Zu3 (a:Str) (b:Int):decide ((Sum.inr a:Key) = Sum.inl b) = false:=decide_eq_false (fun q=>nomatch q)
def Zau (prog:Program) (w:World):PySem.KeyKind prog w Key where
 is:=Zij
 hash:=Zwy w
 inj:=fun v a b ha hb=>by
  rcases Zbe ha with ⟨i,t,rfl,rfl⟩ | ⟨x,t,rfl,rfl⟩
  ·rcases Zbe hb with ⟨j,u,rfl,e⟩ | ⟨y,u,rfl,e⟩
   ·injection e with e1 _; rw [e1]
   ·exact nomatch e
  ·rcases Zbe hb with ⟨j,u,rfl,e⟩ | ⟨y,u,rfl,e⟩
   ·exact nomatch e
   ·injection e with e1 _; rw [e1]
 byValue:=fun k v h=>by
  rcases Zbe h with ⟨i,t,rfl,rfl⟩ | ⟨x,t,rfl,rfl⟩ <;> rfl
 pyHash:=fun hv h=>by
  rcases Zbe hv with ⟨i,t,rfl,rfl⟩ | ⟨x,t,rfl,rfl⟩
  ·exact wpAny_pyHash_int h
  ·exact wpAny_pyHash_str h
 eqBool:=fun hu hv h=>by
  rcases Zbe hu with ⟨i,t,rfl,rfl⟩ | ⟨x,t,rfl,rfl⟩
  ·rcases Zbe hv with ⟨j,u,rfl,rfl⟩ | ⟨y,u,rfl,rfl⟩
   ·rw [ZuW] at h; exact wpAny_eqBool_int h
   ·rw [Zvn] at h; exact SeqAt.EqAt.int_str i t y u _ _ _ _ h
  ·rcases Zbe hv with ⟨j,u,rfl,rfl⟩ | ⟨y,u,rfl,rfl⟩
   ·rw [Zu3] at h; exact SeqAt.EqAt.str_int x t j u _ _ _ _ h
   ·rw [Zvo] at h; exact wpAny_eqBool_str h
 «strs»:=fun k x t v h=>by
  rcases Zbe h with ⟨i,u,rfl,e⟩ | ⟨y,u,rfl,e⟩
  ·exact nomatch e
  ·injection e with e1 _
   subst e1
   cases v <;> rfl
theorem ZpD (prog:Program) (w:World) (k:Key) (v:Value):(Zau prog w).is k v = Zij k v:=rfl
theorem ZoL (prog:Program) (w:World) (i:Int) (t:Tok):(Zau prog w).is (.inl i) (.int i t) = true:=Zrl i t
theorem ZoR (prog:Program) (w:World) (x:Str) (t:Tok):(Zau prog w).is (.inr x) (.str x t) = true:=Zq6 x t
end L2
namespace L2
open PySem PySem.Spec PyProof.Rows
inductive V where
 | non | bl (b:Bool) | int (i:Int) | str (x:Str) | byt (b:Array UInt8) | flt (b:UInt64) | ref (a:Addr) | ty (n:String)
 deriving DecidableEq
def RelV:V->Value->Prop
 | .non,u=>u = Value.none
 | .bl b,u=>u = Value.bool b
 | .int i,u=>∃ t,u = Value.int i t
 | .str x,u=>∃ t,u = Value.str x t
 | .byt b,u=>∃ t,u = Value.bytes b t
 | .flt b,u=>∃ t,u = Value.float b t
 | .ref a,u=>u = Value.ref a
 | .ty n,u=>u = Value.type n
abbrev Vals:List V->List Value->Prop:=Paired RelV
theorem Vals.length {xs:List V} {us:List Value} (r:Vals xs us):xs.length = us.length:=Paired.length r
theorem Vals.get:∀ {xs:List V} {us:List Value} {i:Nat} {x:V},Vals xs us->xs[i]? = some x->∃ u,us[i]? = some u/\RelV x u
  | _,_,_,_,.nil,e=>by simp at e
  | _,_,0,_,.cons r _,e=>by simp at e; subst e; exact ⟨_,rfl,r⟩
  | _, _, i + 1, x, .cons _ t, e => by
    obtain ⟨u,h1,h2⟩:=Vals.get (i:=i) (x:=x) t (by simpa using e)
    exact ⟨u,by simpa using h1,h2⟩
theorem Vals.set {x:V} {u:Value} (r:RelV x u):∀ {xs:List V} {us:List Value} (i:Nat),Vals xs us->Vals (xs.set i x) (us.set i u)
 | _,_,_,.nil=>.nil
 | _,_,0,.cons _ t=>.cons r t
 | _,_,i + 1,.cons q t=>.cons q (Vals.set r i t)
theorem Vals.append:∀ {xs ys:List V} {us ws:List Value},Vals xs us->Vals ys ws->Vals (xs ++ ys) (us ++ ws)
 | _,_,_,_,.nil,s=>s
 | _,_,_,_,.cons r t,s=>.cons r (Vals.append t s)
theorem Vals.take:∀ {xs:List V} {us:List Value} (n:Nat),Vals xs us->Vals (xs.take n) (us.take n)
 | _,_,0,_=>.nil
 | _,_,_ + 1,.nil=>.nil
 | _,_,n + 1,.cons r t=>.cons r (Vals.take n t)
theorem Vals.drop:∀ {xs:List V} {us:List Value} (n:Nat),Vals xs us->Vals (xs.drop n) (us.drop n)
 | _,_,0,r=>r
 | _,_,_ + 1,.nil=>.nil
 | _,_,n + 1,.cons _ t=>Vals.drop n t
def Zgt:Option V->Option Value->Prop
 | some v,some u=>RelV v u
 | none,none=>True
 | _,_=>False
def KV {κ:Type}:List (κ × V)->List (κ × Value)->Prop:=Paired fun (p:κ × V) (q:κ × Value)=>p.1 = q.1/\RelV p.2 q.2
def kV:Key->V
 | .inl i=>.int i
 | .inr x=>.str x
inductive HO where
 | lst (xs:List V)
 | tup (xs:List V)
 | dK (kvs:List (Key × V)) | dT (kvs:List (List Key × V))
 | set (S:Int->Bool) (n:Nat)
 | ins (C dx:Addr) (fs:List (Str × V))
 | own (x:Addr)
 | xd (fs:List (Str × V))
 | met (f x:Addr)
 | rng (lo hi:Int)
 | frz (o:Obj) (u:HO)
 | tbl (ps:Array Value)
 | ext (φ:Heap->Prop)
abbrev Hp:=Addr->Option HO
def upd (H:Hp) (a:Addr) (o:HO):Hp:=fun b=>if b = a then some o else H b
theorem ZP {H:Hp} {a:Addr} {o:HO}:upd H a o a = some o:=by unfold upd; rw [if_pos rfl]
theorem ZG {H:Hp} {a b:Addr} {o:HO} (h:b ≠ a):upd H a o b = H b:=by unfold upd; rw [if_neg h]
theorem Zs0 {H:Hp} {a b:Addr} {o u:HO} (h:H a = some o) (h':H b = some u) (d:o ≠ u):a ≠ b:=by
 intro e; subst e; rw [h] at h'; exact d (Option.some.inj h')
theorem ZaT {H:Hp} {a b:Addr} {o:HO} (h:H a = some o) (h':H b = none):a ≠ b:=by
 intro e; subst e; rw [h] at h'; cases h'
section
variable (P:Program) (w:World)
def Zap (H:Hp) (h:Heap) (a:Addr):HO->Prop
 | .lst xs=>xs.length <= sizeLine/\∃ (its:List Value) (n:Nat),Vals xs its/\h.get? a = some { cls:=.type "list",data:=.seq its.toArray n }
 | .tup xs=>xs.length <= sizeLine/\∃ its:List Value,Vals xs its/\IsTup h a its.toArray
 | .dK kvs=>kvs.length <= sizeLine/\(a == sysModules) = false/\∃ vs,KV kvs vs/\h.DictOf (Zau P w) a vs
 | .dT kvs=>kvs.length <= sizeLine/\(a == sysModules) = false/\∃ xs:List (List Key × Addr × Value),
   Paired (fun (p:List Key × V) (q:List Key × Addr × Value)=>p.1 = q.1/\H q.2.1 = some (.tup (p.1.map kV))/\RelV p.2 q.2.2) kvs xs /\
   ∃ o es ep,h.get? a = some o/\o.ExactDict/\o.data = .dict es ep/\es.toList = xs.map (entryOfKey (tupleKind (Zau P w)))/\(xs.map (·.1)).Nodup
 | .set S n=>h.SetOf (intKind P w) a S n
 | .ins C dx fs=>H dx = some (.own a)/\fs.length <= 1000/\dx ≠ a/\h.get? a = some (PySem.W.instObj C dx) /\
   ∃ mA,h.Ns1 dx mA/\(∀ f,Zgt (fs.lookup f) (mA f))/\PySem.Within mA (fs.map (·.1))
 | .own _=>∃ o,h.get? a = some o
 | .xd fs=>∃ mA,h.Ns1 a mA/\∀ f,Zgt (fs.lookup f) (mA f)
 | .rng lo hi=>∃ t u v,h.get? a = some { cls:=.type "range",data:=.fields #[.int lo t,.int hi u,.int 1 v] }
 | .frz o u=>h.get? a = some o/\Zap H h a u
 | .tbl ps=>h.get? a = some { cls:=.none,data:=.fields ps }
 | .met f x=>h.get? a = some (PySem.W.methodObj (.ref f) (.ref x))
 | .ext φ=>φ h/\(∃ o,h.get? a = some o)/\∀ h1 h2:Heap,φ h1->(∀ o,h1.get? a = some o->h2.get? a = some o)->φ h2
def HOk (H:Hp) (h:Heap):Prop:=∀ a o,H a = some o->Zap P w H h a o
end
section
variable {P:Program} {w:World} {H H':Hp} {h h':Heap} {a:Addr} {o:HO}
theorem Zap.lt (x:Zap P w H h a o):a < h.objs.size:=by
 cases o with
 | lst xs=>obtain ⟨_,_,_,_,e⟩:=x; exact Heap.lt_size e
 | tup xs=>obtain ⟨_,_,_,p⟩:=x; exact p.lt
 | dK kvs=>obtain ⟨_,_,_,_,o,_,_,e,_⟩:=x; exact Heap.lt_size e
 | dT kvs=>obtain ⟨_,_,_,_,o,_,_,e,_⟩:=x; exact Heap.lt_size e
 | set S n=>obtain ⟨o,_,_,_,e,_⟩:=x; exact Heap.lt_size e
 | ins C dx fs=>obtain ⟨_,_,_,e,_⟩:=x; exact Heap.lt_size e
 | own y=>obtain ⟨_,e⟩:=x; exact Heap.lt_size e
 | xd fs=>obtain ⟨_,⟨_,_,_,e,_⟩,_⟩:=x; exact Heap.lt_size e
 | rng lo hi=>obtain ⟨_,_,_,e⟩:=x; exact Heap.lt_size e
 | frz ob u=>obtain ⟨e,_⟩:=x; exact Heap.lt_size e
 | tbl ps=>exact Heap.lt_size (show h.get? a = some _ from x)
 | met f y=>exact Heap.lt_size (show h.get? a = some _ from x)
 | ext φ=>obtain ⟨_,⟨_,e⟩,_⟩:=x; exact Heap.lt_size e
theorem Paired.mapP {α β:Type} {F G:α->β->Prop}:∀ {l₁:List α} {l₂:List β},Paired F l₁ l₂->(∀ a b,F a b->G a b)->Paired G l₁ l₂
 | _,_,.nil,_=>.nil
 | _,_,.cons r t,f=>.cons (f _ _ r) (Paired.mapP t f)
theorem Zap.stay (x:Zap P w H h a o) (k:∀ b u,(b = a\/H b = some (.own a))->h.get? b = some u->h'.get? b = some u)
    (ho:∀ b,H b = some (.own a)->H' b = some (.own a)) (ht:∀ b xs,H b = some (.tup xs)->H' b = some (.tup xs)):Zap P w H' h' a o:=by
  induction o with
  | lst xs=>obtain ⟨z,its,n,r,e⟩:=x; exact ⟨z,its,n,r,k _ _ (.inl rfl) e⟩
  | tup xs=>obtain ⟨z,its,r,ob,e,c⟩:=x; exact ⟨z,its,r,ob,k _ _ (.inl rfl) e,c⟩
  | dK kvs=>obtain ⟨z,y,vs,r,ob,es,ep,e,c⟩:=x; exact ⟨z,y,vs,r,ob,es,ep,k _ _ (.inl rfl) e,c⟩
  | dT kvs =>
    obtain ⟨z,y,xs,r,ob,es,ep,e,c⟩:=x
    exact ⟨z,y,xs,Paired.mapP r fun p q z=>⟨z.1,ht _ _ z.2.1,z.2.2⟩,ob,es,ep,k _ _ (.inl rfl) e,c⟩
  | set S n=>obtain ⟨ob,es,ep,t,e,c⟩:=x; exact ⟨ob,es,ep,t,k _ _ (.inl rfl) e,c⟩
  | ins C dx fs =>
    obtain ⟨d,z,ne,e,mA,⟨od,es,ep,e2,c⟩,r⟩:=x
    exact ⟨ho _ d,z,ne,k _ _ (.inl rfl) e,mA,⟨od,es,ep,k _ _ (.inr d) e2,c⟩,r⟩
  | own y=>obtain ⟨ob,e⟩:=x; exact ⟨ob,k _ _ (.inl rfl) e⟩
  | xd fs=>obtain ⟨mA,⟨od,es,ep,e,c⟩,r⟩:=x; exact ⟨mA,⟨od,es,ep,k _ _ (.inl rfl) e,c⟩,r⟩
  | rng lo hi=>obtain ⟨t,u,v,e⟩:=x; exact ⟨t,u,v,k _ _ (.inl rfl) e⟩
  | frz ob u ih=>obtain ⟨e,q⟩:=x; exact ⟨k _ _ (.inl rfl) e,ih q⟩
  | tbl ps =>
    have e:h.get? a = some { cls:=.none,data:=.fields ps }:=x
    show h'.get? a = some { cls:=.none,data:=.fields ps }
    exact k a _ (.inl rfl) e
  | met f y =>
    have e:h.get? a = some (PySem.W.methodObj (.ref f) (.ref y)):=x
    show h'.get? a = some (PySem.W.methodObj (.ref f) (.ref y))
    exact k a _ (.inl rfl) e
  | ext φ=>obtain ⟨p,⟨o,e⟩,st⟩:=x; exact ⟨st _ _ p fun o q=>k _ _ (.inl rfl) q,⟨o,k _ _ (.inl rfl) e⟩,st⟩
theorem HOk.lt (x:HOk P w H h) (e:H a = some o):a < h.objs.size:=(x a o e).lt
theorem HOk.fresh (x:HOk P w H h) (e:h.objs.size <= a):H a = none:=by
 cases q:H a with
 | none=>rfl
 | some u=>exact absurd (Nat.lt_of_lt_of_le (x.lt q) e) (Nat.lt_irrefl _)
theorem HOk.kept (x:HOk P w H h) (k:∀ b u,h.get? b = some u->h'.get? b = some u):HOk P w H h':=fun a o e =>
 (x a o e).stay (fun b u _ q=>k b u q) (fun _ q=>q) fun _ _ q=>q
theorem HOk.laid (x:HOk P w H h) (k:∀ b u,h.get? b = some u->h'.get? b = some u) (hp:h.objs.size <= a) (new:Zap P w (upd H a o) h' a o):HOk P w (upd H a o) h':=fun b u e=>by
 have hn:=x.fresh hp
 by_cases hb:b = a
 ·subst hb; rw [ZP] at e; cases e; exact new
 ·rw [ZG hb] at e
  exact (x b u e).stay (fun c v _ q=>k c v q) (fun c q=>by rw [ZG (ZaT q hn)]; exact q) fun c xs q=>by rw [ZG (ZaT q hn)]; exact q
end
def Rd (H:Hp) (a:Addr) (u:HO):Prop:=H a = some u\/∃ o,H a = some (.frz o u)
theorem Rd.ok {P:Program} {w:World} {H:Hp} {h:Heap} {a:Addr} {u:HO} (r:Rd H a u) (x:HOk P w H h):Zap P w H h a u:=by
 rcases r with r | ⟨o,r⟩
 ·exact x a u r
 ·obtain ⟨_,q⟩:=x a _ r
  exact q
def Mut:Option HO->Prop
 | some (.lst _)=>True
 | some (.dK _)=>True
 | some (.dT _)=>True
 | some (.set _ _)=>True
 | some (.ins _ _ _)=>True
 | some (.ext _)=>True
 | _=>False
section
variable {P:Program} {w:World} {H:Hp} {h h':Heap} {x e:Addr} {o':HO}
theorem HOk.write (ok:HOk P w H h) (mu:Mut (H x)) (he:e = x\/H e = some (.own x)) (k:∀ b u,b ≠ e->h.get? b = some u->h'.get? b = some u) (heo:∃ u,h'.get? e = some u)
  (new:Zap P w (upd H x o') h' x o'):HOk P w (upd H x o') h':=fun b u q=>by
 have nown:∀ c y,H c = some (.own y)->c ≠ x:=fun c y r z=>by subst z; rw [r] at mu; exact mu
 have ntup:∀ c xs,H c = some (.tup xs)->c ≠ x:=fun c xs r z=>by subst z; rw [r] at mu; exact mu
 by_cases hb:b = x
 ·subst hb; rw [ZP] at q; cases q; exact new
 ·rw [ZG hb] at q
  by_cases hbe:b = e
  ·have q':H b = some (.own x):=by
    rcases he with z | z
    ·exact absurd (hbe.trans z) hb
    ·rw [hbe]; exact z
   rw [q] at q'; cases q'
   obtain ⟨v,hv⟩:=heo
   exact ⟨v,by rw [hbe]; exact hv⟩
  ·refine (ok b u q).stay (fun c v hc r=>k c v ?_ r) (fun c r=>by rw [ZG (nown c b r)]; exact r) fun c xs r=>by rw [ZG (ntup c xs r)]; exact r
   rcases hc with rfl | hc
   ·exact hbe
   ·rintro rfl
    rcases he with z | z
    ·exact nown c b hc z
    ·rw [hc] at z; cases z; exact hb rfl
end
structure Un (fs ex:List Addr) (H H':Hp) (h h':Heap):Prop where
 keep:∀ b o,h.get? b = some o->H b = none->b ∉ fs->b ∉ ex->h'.get? b = some o
 slot:∀ b o,h.get? b = some o->H b = none->b ∈ fs->b ∉ ex->∃ sl,h'.get? b = some { o with slots:=sl }
 free:∀ b o,h.get? b = some o->H b = none->b ∉ ex->H' b = none
 there:∀ b o,h.get? b = some o->b ∉ ex->∃ o',h'.get? b = some o'
 tups:∀ b xs,H b = some (.tup xs)->H' b = some (.tup xs)
 frzs:∀ b o u,H b = some (.frz o u)->H' b = some (.frz o u)
 tbls:∀ b ps,H b = some (.tbl ps)->∃ more,H' b = some (.tbl (ps ++ more))
section
variable {fs fs' ex ex':List Addr} {H H1 H2:Hp} {h h1 h2 h':Heap} {a x e:Addr} {o:HO}
theorem Un.any (u:Un fs ex H H1 h h1) {b:Addr} {ob:Obj} (q:h.get? b = some ob) (n:H b = none) (hx:b ∉ ex):∃ sl,h1.get? b = some { ob with slots:=sl }:=by
 by_cases hb:b ∈ fs
 ·exact u.slot b ob q n hb hx
 ·exact ⟨ob.slots,u.keep b ob q n hb hx⟩
theorem Un.kept (k:∀ b u,h.get? b = some u->h'.get? b = some u):Un fs ex H H h h' :=
 ⟨fun b ob q _ _ _=>k b ob q,fun b ob q _ _ _=>⟨ob.slots,k b ob q⟩,fun _ _ _ n _=>n,fun b ob q _=>⟨ob,k b ob q⟩,fun _ _ q=>q,fun _ _ _ q=>q,fun _ ps q=>⟨#[],by rw [q]; simp⟩⟩
theorem Un.refl:Un fs ex H H h h:=Un.kept fun _ _ q=>q
theorem Un.laid (k:∀ b u,h.get? b = some u->h'.get? b = some u) (hp:h.objs.size <= a) (hn:H a = none):Un fs ex H (upd H a o) h h' where
 keep:=fun b u q _ _ _=>k b u q
 slot:=fun b u q _ _ _=>⟨u.slots,k b u q⟩
 free:=fun b u q n _=>by rw [ZG (Nat.ne_of_lt (Nat.lt_of_lt_of_le (Heap.lt_size q) hp))]; exact n
 there:=fun b u q _=>⟨u,k b u q⟩
 tups:=fun b xs q=>by rw [ZG (ZaT q hn)]; exact q
 frzs:=fun b u xs q=>by rw [ZG (ZaT q hn)]; exact q
 tbls:=fun b ps q=>⟨#[],by rw [ZG (ZaT q hn),q]; simp⟩
theorem Un.write (mu:Mut (H x)) (he:e = x\/H e = some (.own x)) (k:∀ b u,b ≠ e->h.get? b = some u->h'.get? b = some u) (heo:∃ u,h'.get? e = some u):Un fs ex H (upd H x o) h h':=by
 have hx:∀ b,H b = none->b ≠ x:=fun b n z=>by subst z; rw [n] at mu; exact mu
 have hb:∀ b,H b = none->b ≠ e:=fun b n z=>by
  subst z
  rcases he with r | r
  ·exact hx b n r
  ·rw [n] at r; cases r
 have hm:∀ b u,H b = some u->¬ Mut (some u)->b ≠ x:=fun b u q nm z=>by subst z; rw [q] at mu; exact nm mu
 refine ⟨fun b u q n _ _=>k b u (hb b n) q,fun b u q n _ _=>⟨u.slots,k b u (hb b n) q⟩,fun b u q n _=>by rw [ZG (hx b n)]; exact n,fun b u q _=>?_,
  fun b xs q=>by rw [ZG (hm b _ q fun z=>z)]; exact q,fun b u xs q=>by rw [ZG (hm b _ q fun z=>z)]; exact q,fun b ps q=>⟨#[],by rw [ZG (hm b _ q fun z=>z),q]; simp⟩⟩
 by_cases hbe:b = e
 ·subst hbe; exact heo
 ·exact ⟨u,k b u hbe q⟩
end
def trk (h:Heap) (H:Hp):List Addr:=(List.range h.objs.size).filter fun a=>(H a).isSome
def Zit (h:Heap) (H:Hp):Heap:=PySem.W.hideAll h (trk h H)
theorem Zri (h:Heap) (H:Hp):(Zit h H).objs.size = h.objs.size:=PySem.W.hideAll_size _ _
theorem ZrQ {h:Heap} {H:Hp} {b:Addr} {o:Obj} (e:h.get? b = some o) (n:H b = none):(Zit h H).get? b = some o :=
 PySem.W.hideAll_get _ e fun hm=>by
  have q:(H b).isSome = true:=(List.mem_filter.mp hm).2
  rw [n] at q; simp at q
theorem Zt0 {h:Heap} {H:Hp} {b:Addr} {o:Obj} (e:(Zit h H).get? b = some o):h.get? b = some o/\H b = none:=by
  have e':h.get? b = some o:=PySem.W.of_hideAll (trk h H) e
  refine ⟨e',?_⟩
  cases q:H b with
  | none=>rfl
  | some x =>
    have hm:b ∈ trk h H:=List.mem_filter.mpr ⟨List.mem_range.mpr (Heap.lt_size e'),by simp [q]⟩
    have z:(Zit h H).get? b = none:=PySem.W.hideAll_none (trk h H) hm
    rw [z] at e; cases e
end L2
namespace L2
open PySem PySem.Spec PyProof.Rows
structure Mod (K:PySem.W.Frag) (mg:Str->Option Value) (base:Heap):Prop where
 kin:K.In base
 glob:base.Ns mainGlobals mg
 blt:∃ mb,base.Ns builtinsNs mb/\∀ x:Str,x ≠ "__name__"->mb x = bootBuiltins x
 nolimit:base.NoLimit
structure Cx where
 prog:Program
 w:World
 K:PySem.W.Frag
 mg:Str->Option Value
 base:Heap
 A:Around
 N:List Str
 s₀:Shared
 H₀:Hp
 env:Env
 outer:List Env
 stack:List Env
 ex:List Addr
 fn:Str->Bool
 calm:Bool
 pn:List (Addr × Obj)
 xe:Value->Shared->Prop
def frs (l:List Env):List Addr:=l.filterMap (·.frame)
abbrev Cx.fs (X:Cx):List Addr:=frs X.outer
def Vis (sc:Scope) (x:Str):Prop:=sc.names.lookup x = some .local\/sc.names.lookup x = some .cell\/sc.names.lookup x = some .free
def Loc (sc:Scope) (x:Str):Prop:=sc.names.lookup x = some .local\/sc.names.lookup x = some .cell
def Look (env:Env) (h:Heap) (m:Str->Option Value) (x:Str) (u:Value):Prop :=
 (env.kindOf x = some .local/\m x = some u)\/((env.kindOf x = some .cell\/env.kindOf x = some .free)/\∃ c,env.cells.lookup x = some c/\h.IsCell c (some u))
structure Cx.Ok (X:Cx):Prop where
 mod:Mod X.K X.mg X.base
 kind:X.env.scope.kind = .function
 glob:X.env.globals = mainGlobals
 blt:X.env.builtins = builtinsNs
 above:X.s₀.heap.objs.size <= X.env.locals
 inj:∀ x y c,X.env.cells.lookup x = some c->X.env.cells.lookup y = some c->x = y
 has:∀ x,(X.env.kindOf x = some .cell\/X.env.kindOf x = some .free)->∃ c,X.env.cells.lookup x = some c
 cab:∀ x c,X.fn x = true->X.env.cells.lookup x = some c->X.s₀.heap.objs.size <= c
 hd:X.calm = true->X.A.handled = none
 frames:X.A.frames = some X.stack
 stk:X.stack = X.outer\/(X.stack = X.env :: X.outer/\X.env.frame = some X.env.locals)
 exf:∀ b ∈ X.ex,b ≠ X.env.locals/\∀ x c,X.env.cells.lookup x = some c->c ≠ b
 bs:∀ b o,X.base.get? b = some o->X.s₀.heap.get? b = some o/\X.H₀ b = none
 bsz:X.base.objs.size <= X.s₀.heap.objs.size
 noex:∀ b o,X.base.get? b = some o->b ∉ X.ex
 exfs:∀ b ∈ X.ex,b ∉ X.fs
 funs:X.s₀.heap.FunFrames X.base X.outer
 frf:∀ b ∈ X.fs,X.H₀ b = none
structure Inv (X:Cx) (pins:List (Addr × Obj)) (σ:List (Option V)) (H:Hp) (s:Shared):Prop where
 ok:X.Ok
 os:s.os = X.s₀.os
 bare:AllBare s.gens
 base:Un X.fs X.ex X.H₀ H X.s₀.heap s.heap
 loc:∃ m,s.heap.Ns X.env.locals m/\∀ (i:Nat) (x:Str) (v:V),X.N[i]? = some x->σ[i]? = some (some v)->Vis X.env.scope x->∃ u,RelV v u/\Look X.env s.heap m x u
 cell:∀ x c,X.env.cells.lookup x = some c->∃ v,s.heap.IsCell c v
 free:H X.env.locals = none
 freeC:∀ x c,X.env.cells.lookup x = some c->H c = none
 pin:∀ p ∈ X.pn ++ pins,s.heap.get? p.1 = some p.2/\H p.1 = none/\p.1 ≠ X.env.locals/\p.1 ∉ X.fs/\∀ v,p.2.data ≠ .cell v
 hok:HOk X.prog X.w H s.heap
 len:σ.length = X.N.length
section
variable {X:Cx} {pins:List (Addr × Obj)} {σ:List (Option V)} {H H':Hp} {s:Shared} {h':Heap}
theorem Cx.Ok.nofr (ok:X.Ok) {b:Addr} {o:Obj} (e:X.base.get? b = some o):b ∉ X.fs:=fun hb=>by
 have:=(ok.funs.mem hb).1
 rw [e] at this; cases this
theorem Inv.bs (I:Inv X pins σ H s):∀ b o,X.base.get? b = some o->s.heap.get? b = some o/\H b = none:=fun b o e =>
 ⟨I.base.keep b o (I.ok.bs b o e).1 (I.ok.bs b o e).2 (I.ok.nofr e) (I.ok.noex b o e),I.base.free b o (I.ok.bs b o e).1 (I.ok.bs b o e).2 (I.ok.noex b o e)⟩
theorem Inv.bk (I:Inv X pins σ H s):∀ b o,X.base.get? b = some o->s.heap.get? b = some o:=fun b o e=>(I.bs b o e).1
theorem Inv.mod (I:Inv X pins σ H s):Mod X.K X.mg X.base:=I.ok.mod
theorem Inv.kIn (I:Inv X pins σ H s):X.K.In s.heap:=I.ok.mod.kin.keeps I.bk
theorem Inv.lt (I:Inv X pins σ H s):X.env.locals < s.heap.objs.size:=let ⟨_,hn,_⟩:=I.loc; hn.lt
theorem Inv.sz (I:Inv X pins σ H s):X.s₀.heap.objs.size <= s.heap.objs.size:=Nat.le_trans I.ok.above (Nat.le_of_lt I.lt)
theorem Inv.nofs (I:Inv X pins σ H s) {a:Addr} (h:s.heap.objs.size <= a):a ∉ X.fs:=fun hb=>by
 obtain ⟨_,o,ho,_⟩:=I.ok.funs.mem hb
 exact absurd (Nat.lt_of_lt_of_le (Heap.lt_size ho) (Nat.le_trans I.sz h)) (Nat.lt_irrefl _)
theorem Inv.cne (I:Inv X pins σ H s):∀ x c,X.env.cells.lookup x = some c->c ≠ X.env.locals:=fun x c e z=>by
 obtain ⟨v,o,ho,hd⟩:=I.cell x c e
 obtain ⟨m,⟨o',es,ep,ho',hd',_⟩,_⟩:=I.loc
 rw [z,ho'] at ho; cases ho; rw [hd'] at hd; cases hd
theorem Inv.funs (I:Inv X pins σ H s):s.heap.FunFrames X.base X.outer:=by
  have all:∀ (l:List Env),(∀ b ∈ frs l,b ∈ X.fs)->X.s₀.heap.FunFrames X.base l->s.heap.FunFrames X.base l:=by
    intro l
    induction l with
    | nil=>intro _ _; trivial
    | cons env r ih =>
      intro hs hl
      obtain ⟨hk,⟨L,o,hf,hn,ho,hd⟩,hr⟩:=hl
      have hL:L ∈ X.fs:=hs L (by unfold frs; rw [List.filterMap_cons,hf]; exact List.mem_cons_self)
      obtain ⟨sl,e⟩:=I.base.slot L o ho (I.ok.frf L hL) hL fun z=>I.ok.exfs L z hL
      exact ⟨hk,⟨L,_,hf,hn,e,hd⟩,ih (fun b hb=>hs b (by unfold frs; rw [List.filterMap_cons,hf]; exact List.mem_cons_of_mem _ hb)) hr⟩
  exact all X.outer (fun _ hb=>hb) I.ok.funs
theorem Inv.stack (I:Inv X pins σ H s):s.heap.FunFrames X.base X.stack:=by
 rcases I.ok.stk with e | ⟨e,hf⟩
 ·rw [e]; exact I.funs
 ·rw [e]
  obtain ⟨m,hn,_⟩:=I.loc
  refine .cons (by rw [I.ok.kind]; decide) hf hn ?_ I.funs
  exact Heap.get?_none_of_le (Nat.le_trans I.ok.bsz I.ok.above)
theorem Inv.stkSub (I:Inv X pins σ H s):∀ b ∈ frs X.stack,b ∈ X.env.locals :: X.fs:=fun b hb=>by
 rcases I.ok.stk with e | ⟨e,hf⟩
 ·rw [e] at hb; exact List.mem_cons_of_mem _ hb
 ·rw [e] at hb
  unfold frs at hb
  rw [List.filterMap_cons,hf] at hb
  exact hb
theorem Inv.stkFree (I:Inv X pins σ H s):∀ b ∈ frs X.stack,H b = none:=fun b hb=>by
 rcases List.mem_cons.mp (I.stkSub b hb) with e | hb
 ·rw [e]; exact I.free
 ·obtain ⟨_,o,ho,_⟩:=I.ok.funs.mem hb
  exact I.base.free b o ho (I.ok.frf b hb) fun z=>I.ok.exfs b z hb
theorem Inv.step {g':Array GenState} {t':Nat} {d':Drawn} {ch:List Addr} (I:Inv X pins σ H s)
  (hch:∀ b ∈ ch,(b ∈ X.ex\/X.s₀.heap.objs.size <= b)/\b ≠ X.env.locals/\(∀ x c,X.env.cells.lookup x = some c->c ≠ b)/\∀ p ∈ X.pn ++ pins,p.1 ≠ b)
  (keep:∀ b o,b ≠ X.env.locals->b ∉ X.fs->b ∉ ch->s.heap.get? b = some o->H b = none->h'.get? b = some o)
  (slot:∀ b o,b ≠ X.env.locals->b ∈ X.fs->b ∉ ch->s.heap.get? b = some o->H b = none->∃ sl,h'.get? b = some { o with slots:=sl }) (free:∀ b o,b ∉ ch->s.heap.get? b = some o->H b = none->H' b = none)
  (there:∀ b o,b ∉ ch->s.heap.get? b = some o->∃ o',h'.get? b = some o')
  (tups:∀ b xs,H b = some (.tup xs)->H' b = some (.tup xs)) (frzs:∀ b o u,H b = some (.frz o u)->H' b = some (.frz o u)) (tbls:∀ b ps,H b = some (.tbl ps)->∃ more,H' b = some (.tbl (ps ++ more)))
  (ns:∀ m,s.heap.Ns X.env.locals m->h'.Ns X.env.locals m) (hok:HOk X.prog X.w H' h') (hg:AllBare g') :
  Inv X pins σ H' { s with heap:=h',gens:=g',drawn:=d',toks:=t' }:=by
 have neL:∀ b o,X.s₀.heap.get? b = some o->b ≠ X.env.locals:=fun b o e=>Nat.ne_of_lt (Nat.lt_of_lt_of_le (Heap.lt_size e) I.ok.above)
 have neC:∀ b o,X.s₀.heap.get? b = some o->b ∉ X.ex->b ∉ ch:=fun b o e hx hb=>by
  rcases (hch b hb).1 with z | z
  ·exact hx z
  ·exact absurd (Nat.lt_of_lt_of_le (Heap.lt_size e) z) (Nat.lt_irrefl _)
 have cellK:∀ x c,X.env.cells.lookup x = some c->∀ v,s.heap.IsCell c v->h'.IsCell c v:=fun x c e v ⟨o,ho,hd⟩=>by
  have nch:c ∉ ch:=fun z=>(hch c z).2.2.1 x c e rfl
  by_cases hc:c ∈ X.fs
  ·obtain ⟨sl,q⟩:=slot c o (I.cne x c e) hc nch ho (I.freeC x c e)
   exact ⟨_,q,hd⟩
  ·exact ⟨o,keep c o (I.cne x c e) hc nch ho (I.freeC x c e),hd⟩
 refine ⟨I.ok,I.os,hg,⟨fun b o e n hb hx=>?_,fun b o e n hb hx=>?_,fun b o e n hx=>?_,fun b o e hx=>?_,fun b xs e=>tups b xs (I.base.tups b xs e),fun b o xs e=>frzs b o xs (I.base.frzs b o xs e),fun b ps e=>?_⟩,?_,fun x c e=>?_,?_,fun x c e=>?_,fun p hp=>?_,hok,I.len⟩
 ·exact keep b o (neL b o e) hb (neC b o e hx) (I.base.keep b o e n hb hx) (I.base.free b o e n hx)
 ·obtain ⟨sl,e1⟩:=I.base.slot b o e n hb hx
  obtain ⟨sl',e2⟩:=slot b _ (neL b o e) hb (neC b o e hx) e1 (I.base.free b o e n hx)
  exact ⟨sl',e2⟩
 ·obtain ⟨o',e1⟩:=I.base.there b o e hx
  exact free b o' (neC b o e hx) e1 (I.base.free b o e n hx)
 ·obtain ⟨o',e1⟩:=I.base.there b o e hx
  exact there b o' (neC b o e hx) e1
 ·obtain ⟨m1,e1⟩:=I.base.tbls b ps e
  obtain ⟨m2,e2⟩:=tbls b _ e1
  exact ⟨m1 ++ m2,by rw [e2,Array.append_assoc]⟩
 ·obtain ⟨m,hn,hl⟩:=I.loc
  refine ⟨m,ns m hn,fun i x v e1 e2 e3=>?_⟩
  obtain ⟨u,r,l⟩:=hl i x v e1 e2 e3
  refine ⟨u,r,?_⟩
  rcases l with l | ⟨k,c,e,z⟩
  ·exact .inl l
  ·exact .inr ⟨k,c,e,cellK x c e _ z⟩
 ·obtain ⟨v,z⟩:=I.cell x c e
  exact ⟨v,cellK x c e v z⟩
 ·obtain ⟨m,⟨o,_,_,ho,_⟩,_⟩:=I.loc
  exact free _ o (fun z=>(hch _ z).2.1 rfl) ho I.free
 ·obtain ⟨v,o,ho,hd⟩:=I.cell x c e
  exact free c o (fun z=>(hch c z).2.2.1 x c e rfl) ho (I.freeC x c e)
 ·obtain ⟨e,n,ne,nf,d⟩:=I.pin p hp
  have nch:p.1 ∉ ch:=fun z=>(hch p.1 z).2.2.2 p hp rfl
  exact ⟨keep p.1 p.2 ne nf nch e n,free p.1 p.2 nch e n,ne,nf,d⟩
theorem Inv.un {t':Nat} (I:Inv X pins σ H s) (u:Un X.fs [] H H' s.heap h') (hok:HOk X.prog X.w H' h'):Inv X pins σ H' { s with heap:=h',toks:=t' }:=by
 obtain ⟨m,⟨o,es,ep,ho,r⟩,_⟩:=id I.loc
 obtain ⟨sl,hL⟩:=u.any ho I.free (by simp)
 exact I.step (g':=s.gens) (d':=s.drawn) (ch:=[]) (fun _ z=>nomatch z) (fun b o _ hb _ e n=>u.keep b o e n hb (by simp)) (fun b o _ hb _ e n=>u.slot b o e n hb (by simp)) (fun b o _ e n=>u.free b o e n (by simp)) (fun b o _ e=>u.there b o e (by simp)) u.tups u.frzs u.tbls (fun m' hm=>by
  obtain ⟨o',es',ep',ho',r'⟩:=hm
  rw [ho] at ho'; cases ho'
  exact ⟨_,es',ep',hL,r'⟩) hok I.bare
theorem Inv.call {g':Array GenState} {t':Nat} {d':Drawn} {ch:List Addr} (I:Inv X pins σ H s) (u:Un (frs X.stack) ch H H' s.heap h') (hok:HOk X.prog X.w H' h') (hg:AllBare g')
  (hch:∀ b ∈ ch,(b ∈ X.ex\/X.s₀.heap.objs.size <= b)/\b ≠ X.env.locals/\(∀ x c,X.env.cells.lookup x = some c->c ≠ b)/\∀ p ∈ X.pn ++ pins,p.1 ≠ b) :
  Inv X pins σ H' { s with heap:=h',gens:=g',drawn:=d',toks:=t' }:=by
 obtain ⟨m,⟨o,es,ep,ho,r⟩,_⟩:=id I.loc
 obtain ⟨sl,hL⟩:=u.any ho I.free fun z=>(hch _ z).2.1 rfl
 exact I.step (ch:=ch) hch (fun b o hL hb hc e n=>u.keep b o e n (fun z=>(List.mem_cons.mp (I.stkSub b z)).elim hL hb) hc) (fun b o _ _ hc e n=>u.any e n hc) (fun b o hc e n=>u.free b o e n hc) (fun b o hc e=>u.there b o e hc) u.tups u.frzs u.tbls (fun m' hm=>by
  obtain ⟨o',es',ep',ho',r'⟩:=hm
  rw [ho] at ho'; cases ho'
  exact ⟨_,es',ep',hL,r'⟩) hok hg
theorem Inv.turned {t':Nat} {it:Addr} (I:Inv X pins σ H s) (k:∀ b o,b ≠ it->s.heap.get? b = some o->h'.get? b = some o) (hn:H it = none) (hL:it ≠ X.env.locals)
  (h1:it ∈ X.ex\/X.s₀.heap.objs.size <= it) (h2:∀ x c,X.env.cells.lookup x = some c->c ≠ it) (h3:∀ p ∈ X.pn ++ pins,p.1 ≠ it):Inv X pins σ H { s with heap:=h',toks:=t' }:=by
 have nit:∀ b u,H b = some u->b ≠ it:=fun b u e z=>by rw [z,hn] at e; cases e
 refine I.step (g':=s.gens) (d':=s.drawn) (ch:=[it]) (fun b hb=>?_) (fun b o _ _ hc e _=>k b o (fun z=>hc (by simp [z])) e) (fun b o _ _ hc e _=>⟨o.slots,k b o (fun z=>hc (by simp [z])) e⟩) (fun _ _ _ _ n=>n)
  (fun b o hc e=>⟨o,k b o (fun z=>hc (by simp [z])) e⟩) (fun _ _ e=>e) (fun _ _ _ e=>e) (fun b ps e=>⟨#[],by rw [e]; simp⟩) (fun m hm=>?_) (fun b u e=>?_) I.bare
 ·have e:b = it:=by simpa using hb
  subst e
  exact ⟨h1,hL,h2,h3⟩
 ·obtain ⟨o,es,ep,ho,r⟩:=hm
  exact ⟨o,es,ep,k _ o (Ne.symm hL) ho,r⟩
 ·refine (I.hok b u e).stay (fun c v hc q=>k c v ?_ q) (fun _ q=>q) fun _ _ q=>q
  rcases hc with z | z
  ·rw [z]; exact nit b u e
  ·exact nit c _ z
theorem Inv.tok (I:Inv X pins σ H s) (t:Nat):Inv X pins σ H { s with toks:=t }:=I.un (h':=s.heap) (t':=t) Un.refl I.hok
theorem Inv.kept {t':Nat} (I:Inv X pins σ H s) (k:∀ b u,s.heap.get? b = some u->h'.get? b = some u):Inv X pins σ H { s with heap:=h',toks:=t' }:=I.un (Un.kept k) (I.hok.kept k)
theorem Inv.laid {a:Addr} {o:HO} {t':Nat} (I:Inv X pins σ H s) (k:∀ b u,s.heap.get? b = some u->h'.get? b = some u) (hp:s.heap.objs.size <= a) (new:Zap X.prog X.w (upd H a o) h' a o) :
  Inv X pins σ (upd H a o) { s with heap:=h',toks:=t' }:=I.un (Un.laid k hp (I.hok.fresh hp)) (I.hok.laid k hp new)
theorem Inv.write {x e:Addr} {o:HO} {t':Nat} (I:Inv X pins σ H s) (mu:Mut (H x)) (he:e = x\/H e = some (.own x)) (k:∀ b u,b ≠ e->s.heap.get? b = some u->h'.get? b = some u) (heo:∃ u,h'.get? e = some u)
  (new:Zap X.prog X.w (upd H x o) h' x o):Inv X pins σ (upd H x o) { s with heap:=h',toks:=t' }:=I.un (Un.write mu he k heo) (I.hok.write mu he k heo new)
theorem Inv.weak {σ':List (Option V)} (I:Inv X pins σ H s) (hl:σ'.length = σ.length) (w:∀ (i:Nat) v,σ'[i]? = some (some v)->σ[i]? = some (some v)):Inv X pins σ' H s :=
 ⟨I.ok,I.os,I.bare,I.base,let ⟨m,hn,hl'⟩:=I.loc; ⟨m,hn,fun i x v e1 e2 e3=>hl' i x v e1 (w i v e2) e3⟩,I.cell,I.free,I.freeC,I.pin,I.hok,hl.trans I.len⟩
theorem Inv.pins_of {pins':List (Addr × Obj)} (I:Inv X pins σ H s) (h:∀ p ∈ pins',s.heap.get? p.1 = some p.2/\H p.1 = none/\p.1 ≠ X.env.locals/\p.1 ∉ X.fs/\∀ v,p.2.data ≠ .cell v):Inv X pins' σ H s :=
 ⟨I.ok,I.os,I.bare,I.base,I.loc,I.cell,I.free,I.freeC,fun p hp=>(List.mem_append.mp hp).elim (fun z=>I.pin p (List.mem_append_left _ z)) (h p),I.hok,I.len⟩
theorem Znu {N:List Str} (hN:N.Nodup) {i j:Nat} {x:Str} (a:N[i]? = some x) (b:N[j]? = some x):i = j:=by
 obtain ⟨h1,e1⟩:=List.getElem?_eq_some_iff.mp a
 obtain ⟨h2,e2⟩:=List.getElem?_eq_some_iff.mp b
 exact (List.getElem_inj hN).mp (e1.trans e2.symm)
theorem ZlG {M:Model} {A:Around} {E:Value->Shared->Prop} {i:Nat} {x:Str} {v:V} {u:Value} {Q:Unit->Shared->Prop} (I:Inv X pins σ H s) (hN:X.N.Nodup) (hi:X.N[i]? = some x) (hx:Loc X.env.scope x) (r:RelV v u)
  (h:∀ s',Inv X pins (σ.set i (some v)) H s'->(∃ a,Heap.SameBut a s.heap s'.heap/\(a = X.env.locals\/X.env.cells.lookup x = some a))->Q () s') (hf:X.fn x = true\/X.env.scope.names.lookup x = some .local:=by first | exact .inl rfl | exact .inr rfl | assumption):wpAny M A (storeName X.env x u) Q E s:=by
 obtain ⟨m,hn,hl⟩:=id I.loc
 have hcls:(X.env.scope.kind == .class || (X.env.scope.kind == .module && X.env.locals != X.env.globals)) = false:=by rw [I.ok.kind]; rfl
 have hiσ:i < σ.length:=by rw [I.len]; exact (List.getElem?_eq_some_iff.mp hi).1
 have cne:=I.cne
 have tracked:∀ {a:Addr} {h':Heap},(∃ o,s.heap.get? a = some o/\H a = none)->Heap.SameBut a s.heap h'->HOk X.prog X.w H h':=fun {a h'} ha hs b ob e=>by
  obtain ⟨_,_,hfree⟩:=ha
  refine (I.hok b ob e).stay (fun c w' hc q=>(hs.2 c ?_).trans q) (fun _ q=>q) fun _ _ q=>q
  rintro rfl
  rcases hc with rfl | hc
  ·rw [hfree] at e; cases e
  ·rw [hfree] at hc; cases hc
 rcases hx with hk | hk
 ·refine wpAny_storeName_local hk hn (fun h' hn' hs=>?_) hcls
  obtain ⟨oL,_,_,hoL,_⟩:=id hn
  refine h _ ⟨I.ok,I.os,I.bare,⟨fun b o e n hb hx=>?_,fun b o e n hb hx=>?_,I.base.free,fun b o e hx=>?_,I.base.tups,I.base.frzs,I.base.tbls⟩,⟨_,hn',fun j y v' e1 e2 e3=>?_⟩,fun y c e=>?_,I.free,I.freeC,fun p hp=>?_,tracked ⟨oL,hoL,I.free⟩ hs,by simpa using I.len⟩ ⟨_,hs,.inl rfl⟩
  ·exact (hs.2 b (Nat.ne_of_lt (Nat.lt_of_lt_of_le (Heap.lt_size e) I.ok.above))).trans (I.base.keep b o e n hb hx)
  ·obtain ⟨sl,e1⟩:=I.base.slot b o e n hb hx
   exact ⟨sl,(hs.2 b (Nat.ne_of_lt (Nat.lt_of_lt_of_le (Heap.lt_size e) I.ok.above))).trans e1⟩
  ·obtain ⟨o',e1⟩:=I.base.there b o e hx
   exact ⟨o',(hs.2 b (Nat.ne_of_lt (Nat.lt_of_lt_of_le (Heap.lt_size e) I.ok.above))).trans e1⟩
  ·by_cases hj:j = i
   ·subst hj
    rw [hi] at e1; cases e1
    rw [List.getElem?_set_self hiσ] at e2
    cases e2
    exact ⟨u,r,.inl ⟨hk,by simp⟩⟩
   ·rw [List.getElem?_set_ne (Ne.symm hj)] at e2
    obtain ⟨u',r',q⟩:=hl j y v' e1 e2 e3
    refine ⟨u',r',?_⟩
    rcases q with ⟨k,e⟩ | ⟨k,c,e,z⟩
    ·refine .inl ⟨k,?_⟩
     have:y ≠ x:=fun e=>hj (Znu hN e1 (e ▸ hi))
     simp [this,e]
    ·exact .inr ⟨k,c,e,z.sameBut hs (cne y c e)⟩
  ·obtain ⟨w',z⟩:=I.cell y c e
   exact ⟨w',z.sameBut hs (cne y c e)⟩
  ·obtain ⟨e,n,ne,nf,d⟩:=I.pin p hp
   exact ⟨(hs.2 p.1 ne).trans e,n,ne,nf,d⟩
 ·have hfn:X.fn x = true:=by
   rcases hf with z | z
   ·exact z
   ·rw [z] at hk; cases hk
  obtain ⟨c,hc⟩:=I.ok.has x (.inl hk)
  obtain ⟨w',z⟩:=I.cell x c hc
  refine wpAny_storeName_cell I.ok.kind hk hc z (fun h' hc' hs=>?_)
  obtain ⟨oc,hoc,hocd⟩:=id z
  refine h { s with heap:=h' } ⟨I.ok,I.os,I.bare,⟨fun b o e n hb hx=>?_,fun b o e n hb hx=>?_,I.base.free,fun b o e hx=>?_,I.base.tups,I.base.frzs,I.base.tbls⟩,⟨m,hn.sameBut hs (Ne.symm (cne x c hc)),fun j y v' e1 e2 e3=>?_⟩,fun y c' e=>?_,I.free,I.freeC,fun p hp=>?_,tracked ⟨oc,hoc,I.freeC x c hc⟩ hs,by simpa using I.len⟩ ⟨c,hs,.inr hc⟩
  ·exact (hs.2 b (Nat.ne_of_lt (Nat.lt_of_lt_of_le (Heap.lt_size e) (I.ok.cab x c hfn hc)))).trans (I.base.keep b o e n hb hx)
  ·obtain ⟨sl,e1⟩:=I.base.slot b o e n hb hx
   exact ⟨sl,(hs.2 b (Nat.ne_of_lt (Nat.lt_of_lt_of_le (Heap.lt_size e) (I.ok.cab x c hfn hc)))).trans e1⟩
  ·obtain ⟨o',e1⟩:=I.base.there b o e hx
   exact ⟨o',(hs.2 b (Nat.ne_of_lt (Nat.lt_of_lt_of_le (Heap.lt_size e) (I.ok.cab x c hfn hc)))).trans e1⟩
  ·by_cases hj:j = i
   ·subst hj
    rw [hi] at e1; cases e1
    rw [List.getElem?_set_self hiσ] at e2
    cases e2
    exact ⟨u,r,.inr ⟨.inl hk,c,hc,hc'⟩⟩
   ·rw [List.getElem?_set_ne (Ne.symm hj)] at e2
    obtain ⟨u',r',q⟩:=hl j y v' e1 e2 e3
    refine ⟨u',r',?_⟩
    rcases q with q | ⟨k,c',e,z'⟩
    ·exact .inl q
    ·refine .inr ⟨k,c',e,z'.sameBut hs ?_⟩
     rintro rfl
     exact hj (Znu hN e1 (I.ok.inj _ _ _ e hc ▸ hi))
  ·by_cases hcc:c' = c
   ·subst hcc; exact ⟨_,hc'⟩
   ·obtain ⟨w2,z2⟩:=I.cell y c' e
    exact ⟨w2,z2.sameBut hs hcc⟩
  ·obtain ⟨e,n,ne,nf,d⟩:=I.pin p hp
   refine ⟨(hs.2 p.1 ?_).trans e,n,ne,nf,d⟩
   intro q
   rw [q,hoc] at e
   have q':oc = p.2:=Option.some.inj e
   exact d w' (by rw [<- q']; exact hocd)
theorem Zkk {M:Model} {A:Around} {E:Value->Shared->Prop} {i:Nat} {x:Str} {v:V} {u:Value} {Q:Unit->Shared->Prop} (I:Inv X pins σ H s) (hN:X.N.Nodup) (hi:X.N[i]? = some x) (hx:Loc X.env.scope x) (r:RelV v u)
  (h:∀ s',Inv X pins (σ.set i (some v)) H s'->Q () s') (hf:X.fn x = true\/X.env.scope.names.lookup x = some .local:=by first | exact .inl rfl | exact .inr rfl | assumption):wpAny M A (storeName X.env x u) Q E s :=
 ZlG I hN hi hx r (fun s' I' _=>h s' I') hf
theorem Inv.call' {s':Shared} {ch:List Addr} (I:Inv X pins σ H s) (ho:s'.os = s.os) (u:Un (frs X.stack) ch H H' s.heap s'.heap) (hok:HOk X.prog X.w H' s'.heap) (hg:AllBare s'.gens)
  (hch:∀ b ∈ ch,(b ∈ X.ex\/X.s₀.heap.objs.size <= b)/\b ≠ X.env.locals/\(∀ x c,X.env.cells.lookup x = some c->c ≠ b)/\∀ p ∈ X.pn ++ pins,p.1 ≠ b):Inv X pins σ H' s':=by
 obtain ⟨h',g',d',t',o'⟩:=s'
 have e:o' = s.os:=ho
 subst e
 exact I.call (g':=g') (t':=t') (d':=d') u hok hg hch
end
abbrev XK:=Value->Option Addr->Hp->Prop
abbrev St:=List (Option V)
abbrev VK:=V->Hp->Prop
abbrev TE:=St->Hp->VK->Prop
abbrev TT:=St->Hp->(Bool->Hp->Prop)->Prop
abbrev TA:=St->Hp->(List V->Hp->Prop)->Prop
structure Ends where
 nx:St->Hp->Prop
 rt:VK
 bk:St->Hp->Prop:=fun _ _=>False
 ct:St->Hp->Prop:=fun _ _=>False
abbrev TS:=Ends->St->Hp->Prop
inductive EP (X:Cx) (pins:List (Addr × Obj)) (σ:St) (Q:VK) (u:Value) (s':Shared):Prop
 | mk (v:V) (H':Hp) (I:Inv X pins σ H' s') (r:RelV v u) (q:Q v H'):EP X pins σ Q u s'
inductive TP (X:Cx) (pins:List (Addr × Obj)) (σ:St) (Q:Bool->Hp->Prop) (b:Bool) (s':Shared):Prop
 | mk (H':Hp) (I:Inv X pins σ H' s') (q:Q b H'):TP X pins σ Q b s'
inductive AP (X:Cx) (pins:List (Addr × Obj)) (σ:St) (Q:List V->Hp->Prop) (us:List Value) (s':Shared):Prop
 | mk (vs:List V) (H':Hp) (I:Inv X pins σ H' s') (r:Vals vs us) (q:Q vs H'):AP X pins σ Q us s'
inductive SPn (X:Cx) (pins:List (Addr × Obj)) (N:St->Hp->Prop) (s':Shared):Prop
 | mk (σ':St) (H':Hp) (I:Inv X pins σ' H' s') (q:N σ' H'):SPn X pins N s'
inductive SPr (X:Cx) (pins:List (Addr × Obj)) (R:V->Hp->Prop) (u:Value) (s':Shared):Prop
 | mk (v:V) (σ':St) (H':Hp) (I:Inv X pins σ' H' s') (r:RelV v u) (q:R v H'):SPr X pins R u s'
def SP (X:Cx) (pins:List (Addr × Obj)) (D:Ends) (f:Flow) (s':Shared):Prop :=
 match f with
 | .next=>SPn X pins D.nx s'
 | .brk=>SPn X pins D.bk s'
 | .cont=>SPn X pins D.ct s'
 | .ret u=>SPr X pins D.rt u s'
def PE (X:Cx) (e:Expr) (t:TE):Prop :=
 ∀ (pins:List (Addr × Obj)) (s:Shared) (σ:St) (H:Hp) (Q:VK),Inv X pins σ H s->t σ H Q->wpAny (model X.prog X.w) X.A (eval e X.env) (EP X pins σ Q) X.xe s
def PT (X:Cx) (e:Expr) (t:TT):Prop :=
 ∀ (pins:List (Addr × Obj)) (s:Shared) (σ:St) (H:Hp) (Q:Bool->Hp->Prop),Inv X pins σ H s->t σ H Q->wpAny (model X.prog X.w) X.A (isTrue e X.env (eval e X.env)) (TP X pins σ Q) X.xe s
def PW (X:Cx) (e:Expr) (t:TT):Prop :=
 ∀ (whole:Sem Value) (pins:List (Addr × Obj)) (s:Shared) (σ:St) (H:Hp) (Q:Bool->Hp->Prop),Inv X pins σ H s->t σ H Q->wpAny (model X.prog X.w) X.A (isTrue e X.env whole) (TP X pins σ Q) X.xe s
theorem PW.pt {X:Cx} {e:Expr} {t:TT} (h:PW X e t):PT X e t:=h _
def PA (X:Cx) (es:List Expr) (t:TA):Prop :=
 ∀ (pos:Pos) (pins:List (Addr × Obj)) (s:Shared) (σ:St) (H:Hp) (Q:List V->Hp->Prop),Inv X pins σ H s->t σ H Q->wpAny (model X.prog X.w) X.A (spliced (backTo pos (starEach es X.env))) (AP X pins σ Q) X.xe s
def PS (X:Cx) (st:Stmt) (t:TS):Prop :=
 ∀ (pins:List (Addr × Obj)) (s:Shared) (σ:St) (H:Hp) (D:Ends),Inv X pins σ H s->t D σ H->wpAny (model X.prog X.w) X.A (exec st X.env) (SP X pins D) X.xe s
def PSs (X:Cx) (st:List Stmt) (t:TS):Prop :=
 ∀ (pins:List (Addr × Obj)) (s:Shared) (σ:St) (H:Hp) (D:Ends),Inv X pins σ H s->t D σ H->wpAny (model X.prog X.w) X.A (execs st X.env) (SP X pins D) X.xe s
theorem thn {α:Type} {t:Sem α} {Q Q':α->Shared->Prop} {M:Model} {A:Around} {E:Value->Shared->Prop} {s:Shared} (h:wpAny M A t Q E s) (hQ:∀ a s,Q a s->Q' a s):wpAny M A t Q' E s:=wpAny_mono h hQ fun _ _ x=>x
end L2
namespace L2
open PySem PySem.Spec PyProof.Rows
section
variable {X:Cx}
def Zwx (i:Nat):TE:=fun σ H Q=>∃ v,σ[i]? = some (some v)/\Q v H
def tC (v:V):TE:=fun _ H Q=>Q v H
theorem Zcu {i:Nat} {x:Str} {pos:Pos} (hN:X.N[i]? = some x) (hv:Vis X.env.scope x) (hd:(x == ("__debug__":Str)) = false:=by decide) (hcd:(x == ("__classdict__":Str)) = false:=by decide):PE X (.Name x pos) (Zwx i):=by
 intro pins s σ H Q I h
 obtain ⟨v,e,h⟩:=h
 obtain ⟨m,hn,hl⟩:=I.loc
 obtain ⟨u,r,l⟩:=hl i x v hN e hv
 have fin:EP X pins σ Q u s:=⟨v,H,I,r,h⟩
 rcases l with ⟨hk,hm⟩ | ⟨hk,c,hc,hcell⟩
 ·exact wpAny_Name (wpAny_loadName_local I.ok.kind hk hn hm fin) hd
 ·rcases hk with hk | hk
  ·exact wpAny_Name (wpAny_loadName_cell I.ok.kind hk hc hcell fin) hd
  ·exact wpAny_Name (wpAny_loadName_free I.ok.kind hk hc hcell fin hcd) hd
theorem Zql {i j pos}:PE X (.Constant (.int i) j pos) (tC (.int i)):=fun _ _ _ H _ I h=>wpAny_Constant_int ⟨.int i,H,I.tok _,⟨_,rfl⟩,h⟩
theorem ZvM {b j pos}:PE X (.Constant (.bool b) j pos) (tC (.bl b)):=fun _ _ _ H _ I h=>Constant_bool ⟨.bl b,H,I,rfl,h⟩
theorem Zvp {j pos}:PE X (.Constant .none j pos) (tC .non):=fun _ _ _ H _ I h=>Constant_none ⟨.non,H,I,rfl,h⟩
theorem ZuN {x j pos}:PE X (.Constant (.str x) j pos) (tC (.str x)):=fun _ _ _ H _ I h=>Calls.Constant_str ⟨.str x,H,I.tok _,⟨_,rfl⟩,h⟩
def Gl (X:Cx) (x:Str):Prop:=X.env.kindOf x = some .globalImplicit
theorem Zpl {E:Value->Shared->Prop} {pins:List (Addr × Obj)} {s:Shared} {σ:St} {H:Hp} {x:Str} {u:Value} {pos:Pos} {Q:Value->Shared->Prop} (I:Inv X pins σ H s) (hg:Gl X x) (hm:X.mg x = some u) (h:Q u s)
  (hd:(x == ("__debug__":Str)) = false:=by decide):wpAny (model X.prog X.w) X.A (eval (.Name x pos) X.env) Q E s :=
 Calls.Name_function_global I.ok.kind hg (Calls.loadGlobal_global (by rw [I.ok.glob]; exact I.mod.glob.keeps I.bk) hm h) hd
theorem Zjm {E:Value->Shared->Prop} {pins:List (Addr × Obj)} {s:Shared} {σ:St} {H:Hp} {x:Str} {u:Value} {pos:Pos} {Q:Value->Shared->Prop} (I:Inv X pins σ H s) (hg:Gl X x) (hm:X.mg x = none) (hv:bootBuiltins x = some u) (h:Q u s)
  (hn:x ≠ "__name__":=by decide) (hd:(x == ("__debug__":Str)) = false:=by decide):wpAny (model X.prog X.w) X.A (eval (.Name x pos) X.env) Q E s:=by
 obtain ⟨mb,h1,h2⟩:=I.mod.blt
 exact Calls.Name_function_global I.ok.kind hg (Calls.loadGlobal_builtin (by rw [I.ok.glob]; exact I.mod.glob.keeps I.bk) hm (by rw [I.ok.blt]; exact h1.keeps I.bk) ((h2 x hn).trans hv) h) hd
theorem Zpa {x:Str} {v:V} {u:Value} {pos:Pos} (hg:Gl X x) (hm:X.mg x = some u) (r:RelV v u) (hd:(x == ("__debug__":Str)) = false:=by decide):PE X (.Name x pos) (tC v) :=
 fun _ _ _ H _ I h=>Zpl I hg hm ⟨v,H,I,r,h⟩ hd
theorem ZtR {x:Str} {v:V} {u:Value} {pos:Pos} (hg:Gl X x) (hm:X.mg x = none) (hv:bootBuiltins x = some u) (r:RelV v u) (hn:x ≠ "__name__":=by decide) (hd:(x == ("__debug__":Str)) = false:=by decide):PE X (.Name x pos) (tC v) :=
 fun _ _ _ H _ I h=>Zjm I hg hm hv ⟨v,H,I,r,h⟩ hn hd
variable {a b:Expr} {ta tb:TE} {pos:Pos}
def PC (X:Cx) (op:CmpOp) (a b:Expr) (t:TE):Prop :=
 ∀ (pins:List (Addr × Obj)) (s:Shared) (σ:St) (H:Hp) (Q:VK),Inv X pins σ H s->t σ H Q ->
  wpAny (model X.prog X.w) X.A (eval a X.env) (fun v s₁=>wpAny (model X.prog X.w) X.A (eval b X.env) (fun u s₂=>wpAny (model X.prog X.w) X.A (compareOp op v u) (EP X pins σ Q) X.xe s₂) X.xe s₁) X.xe s
theorem Zg2 (b:Expr) {op:CmpOp} (h:op ≠ .In) (h2:op ≠ .NotIn):behindInMarks op b = false:=by
 have e1:(op == CmpOp.In) = false:=by cases op <;> first | rfl | exact absurd rfl h
 have e2:(op == CmpOp.NotIn) = false:=by cases op <;> first | rfl | exact absurd rfl h2
 cases b <;> simp [behindInMarks,e1,e2]
def tB (t:TE):TT:=fun σ H Q=>t σ H fun x H1=>∃ c,x = .bl c/\Q c H1
theorem Zue {op:CmpOp} {t:TE} (h:PC X op a b t) (h1:behindInMarks op b = false:=by first | exact Zg2 _ (by decide) (by decide) | rfl):PE X (.Compare a [op] [b] pos) t:=fun pins s σ H Q I hw=>wpAny_Compare1 (h pins s σ H Q I hw) h1
theorem ZqM {op:CmpOp} {t:TE} (h:PC X op a b t) (h1:behindInMarks op b = false:=by first | exact Zg2 _ (by decide) (by decide) | rfl):PT X (.Compare a [op] [b] pos) (tB t):=by
 intro pins s σ H Q I hw
 refine wpAny_isTrue_Compare1 (thn (h pins s σ H _ I hw) fun v s1 h1=>thn h1 fun u s2 h2=>thn h2 fun c s3 ⟨x,H1,I1,r1,q1⟩=>?_) h1
 obtain ⟨d,rfl,q⟩:=q1
 cases r1
 exact wpAny_truthy_bool ⟨H1,I1,q⟩
theorem Zun {e:Expr} {t:TE} (h:PE X e t) (he:∀ whole,isTrue e X.env whole = (do let v <- whole; standAt e.pos; holding [v] (truthy v)):=by intro _; rfl):PT X e (tB t):=by
 intro pins s σ H Q I hw
 refine isTrue_plain (thn (h pins s σ H _ I hw) fun v s1 ⟨x,H1,I1,r1,q1⟩=>?_) (he _)
 obtain ⟨d,rfl,q⟩:=q1
 cases r1
 exact wpAny_truthy_bool ⟨H1,I1,q⟩
variable {tA tB':TT} {rest:List Expr}
def Zhz (t u:TT):TT:=fun σ H Q=>t σ H fun c H1=>if c = true then u σ H1 Q else Q false H1
def tOr (t u:TT):TT:=fun σ H Q=>t σ H fun c H1=>if c = true then Q true H1 else u σ H1 Q
def ZbJ (t:TT):TT:=fun σ H Q=>t σ H fun c H1=>Q (!c) H1
theorem ZtB (ha:PT X a tA):PW X (.BoolOp .And [a] pos) tA:=by
 intro wh pins s σ H Q I h
 refine isTrue_and (thn (ha pins s σ H Q I h) fun c s1 e=>?_)
 cases c with
 | true=>exact isTrue_and_nil e
 | false=>exact e
theorem Zuu (ha:PT X a tA):PW X (.BoolOp .Or [a] pos) tA:=by
 intro wh pins s σ H Q I h
 refine isTrue_or (thn (ha pins s σ H Q I h) fun c s1 e=>?_)
 cases c with
 | false=>exact isTrue_or_nil e
 | true=>exact e
theorem Zqw (ha:PT X a tA) (hb:PW X (.BoolOp .And (b :: rest) pos) tB'):PW X (.BoolOp .And (a :: b :: rest) pos) (Zhz tA tB'):=by
 intro wh pins s σ H Q I h
 refine isTrue_and (thn (ha pins s σ H _ I h) fun c s1 ⟨H1,I1,q1⟩=>?_)
 cases c with
 | true=>exact hb wh pins s1 σ H1 Q I1 q1
 | false=>exact ⟨H1,I1,q1⟩
theorem ZsY (ha:PT X a tA) (hb:PW X (.BoolOp .Or (b :: rest) pos) tB'):PW X (.BoolOp .Or (a :: b :: rest) pos) (tOr tA tB'):=by
 intro wh pins s σ H Q I h
 refine isTrue_or (thn (ha pins s σ H _ I h) fun c s1 ⟨H1,I1,q1⟩=>?_)
 cases c with
 | true=>exact ⟨H1,I1,q1⟩
 | false=>exact hb wh pins s1 σ H1 Q I1 q1
theorem ZuC (ha:PT X a tA):PT X (.UnaryOp .Not a pos) (ZbJ tA):=by
 intro pins s σ H Q I h
 exact isTrue_not (thn (ha pins s σ H (fun c H1=>Q (!c) H1) I h) fun _ _ ⟨H',I',q'⟩=>⟨H',I',q'⟩)
def ZvN (ta tb:TE):TE:=fun σ H Q=>ta σ H fun x H1=>∃ c,x = .bl c/\if c = true then tb σ H1 Q else Q (.bl false) H1
def ZvK (ta:TE):TE:=fun σ H Q=>ta σ H fun x H1=>∃ c,x = .bl c/\Q (.bl (!c)) H1
theorem ZuM {op} {t:TE} (h:PE X a t):PE X (.BoolOp op [a] pos) t:=fun pins s σ H Q I hw=>BoolOp_one (h pins s σ H Q I hw)
theorem ZqF (ha:PE X a ta) (hb:PE X (.BoolOp .And (b :: rest) pos) tb):PE X (.BoolOp .And (a :: b :: rest) pos) (ZvN ta tb):=by
 intro pins s σ H Q I h
 refine BoolOp_and (thn (ha pins s σ H _ I h) fun v s1 ⟨x,H1,I1,r1,q1⟩=>?_)
 obtain ⟨c,rfl,q1⟩:=q1
 cases r1
 refine wpAny_truthy_bool ?_
 cases c with
 | true=>exact hb pins s1 σ H1 Q I1 q1
 | false=>exact ⟨.bl false,H1,I1,rfl,q1⟩
theorem Zul (ha:PE X a ta):PE X (.UnaryOp .Not a pos) (ZvK ta):=by
 intro pins s σ H Q I h
 refine UnaryOp_ (thn (ha pins s σ H _ I h) fun v s1 ⟨x,H1,I1,r1,q1⟩=>?_)
 obtain ⟨c,rfl,q1⟩:=q1
 cases r1
 exact not_of (wpAny_truthy_bool ⟨.bl (!c),H1,I1,rfl,q1⟩)
end
end L2
namespace L2
open PySem PySem.Spec PyProof.Rows
def SqL (K:PySem.W.Frag) (H:Hp) (a:Addr) (xs:List V):Prop :=
 Rd H a (.lst xs) \/
  ∃ (o:Obj) (its:Array Value) (n:Nat),K.lookup a = some o/\o.cls = .type "list"/\o.dict = none/\o.data = .seq its n/\its.size <= sizeLine/\Vals xs its.toList
def SqT (K:PySem.W.Frag) (H:Hp) (a:Addr) (xs:List V):Prop :=
 Rd H a (.tup xs) \/
  ∃ (o:Obj) (its:Array Value) (n:Nat),K.lookup a = some o/\o.cls = .type "tuple"/\o.data = .seq its n/\its.size <= sizeLine/\Vals xs its.toList
def Zwh:Value->Option V
 | .none=>some .non
 | .bool b=>some (.bl b)
 | .int i _=>some (.int i)
 | .str x _=>some (.str x)
 | .bytes b _=>some (.byt b)
 | .float b _=>some (.flt b)
 | .ref a=>some (.ref a)
 | .type n=>some (.ty n)
 | _=>none
theorem RelV.abs {x:V} {u:Value} (r:RelV x u):Zwh u = some x:=by
 cases x with
 | non=>cases r; rfl
 | bl _=>cases r; rfl
 | int _=>obtain ⟨t,rfl⟩:=r; rfl
 | str _=>obtain ⟨t,rfl⟩:=r; rfl
 | byt _=>obtain ⟨t,rfl⟩:=r; rfl
 | flt _=>obtain ⟨t,rfl⟩:=r; rfl
 | ref _=>cases r; rfl
 | ty _=>cases r; rfl
theorem RelV.inj {x y:V} {u:Value} (r:RelV x u) (q:RelV y u):x = y:=Option.some.inj (r.abs.symm.trans q.abs)
theorem Vals.inj:∀ {xs ys:List V} {us:List Value},Vals xs us->Vals ys us->xs = ys
 | _,_,_,.nil,.nil=>rfl
 | _,_,_,.cons r t,.cons r' t'=>by rw [r.inj r',Vals.inj t t']
section
variable {X:Cx} {pins:List (Addr × Obj)} {σ:St} {H:Hp} {s:Shared} {a:Addr} {xs ys:List V}
theorem SqL.of {K:PySem.W.Frag} (h:H a = some (.lst xs)):SqL K H a xs:=.inl (.inl h)
theorem SqT.of {K:PySem.W.Frag} (h:H a = some (.tup xs)):SqT K H a xs:=.inl (.inl h)
theorem Inv.list (I:Inv X pins σ H s) (h:SqL X.K H a xs):∃ its:List Value,Vals xs its/\PlainL s.heap a its.toArray/\xs.length <= sizeLine:=by
 rcases h with h | ⟨o,its,n,hk,hc,hd,hs,hz,r⟩
 ·obtain ⟨z,its,n,r,e⟩:=h.ok I.hok
  exact ⟨its,r,⟨_,n,e,rfl,rfl,rfl⟩,z⟩
 ·refine ⟨its.toList,r,⟨o,n,I.kIn a o hk,hc,hd,by simpa using hs⟩,?_⟩
  have e:=r.length
  simp only [Array.length_toList] at e
  omega
theorem Inv.tuple (I:Inv X pins σ H s) (h:SqT X.K H a xs):∃ its:List Value,Vals xs its/\IsTup s.heap a its.toArray/\xs.length <= sizeLine:=by
 rcases h with h | ⟨o,its,n,hk,hc,hs,hz,r⟩
 ·obtain ⟨z,its,r,p⟩:=h.ok I.hok
  exact ⟨its,r,p,z⟩
 ·refine ⟨its.toList,r,⟨o,I.kIn a o hk,hc,n,by simpa using hs⟩,?_⟩
  have e:=r.length
  simp only [Array.length_toList] at e
  omega
theorem Inv.list_inj (I:Inv X pins σ H s) (h:SqL X.K H a xs) (h':SqL X.K H a ys):xs = ys:=by
 obtain ⟨its,r,⟨o,n,e,_,_,d⟩,_⟩:=I.list h
 obtain ⟨its',r',⟨o',n',e',_,_,d'⟩,_⟩:=I.list h'
 rw [e] at e'; cases e'
 rw [d] at d'
 injection d' with d1 _
 have:its = its':=by simpa using congrArg Array.toList d1
 subst this
 exact r.inj r'
theorem Inv.tuple_inj (I:Inv X pins σ H s) (h:SqT X.K H a xs) (h':SqT X.K H a ys):xs = ys:=by
 obtain ⟨its,r,⟨o,e,_,n,d⟩,_⟩:=I.tuple h
 obtain ⟨its',r',⟨o',e',_,n',d'⟩,_⟩:=I.tuple h'
 rw [e] at e'; cases e'
 rw [d] at d'
 injection d' with d1 _
 have:its = its':=by simpa using congrArg Array.toList d1
 subst this
 exact r.inj r'
end
abbrev Cx.wish (X:Cx) (E:Value->Shared->Prop):Cx:={ X with xe:=E }
abbrev Cx.nox (X:Cx):Cx:=X.wish fun _ _=>False
theorem Cx.Ok.wish {X:Cx} (ok:X.Ok) (E:Value->Shared->Prop):(X.wish E).Ok :=
 ⟨ok.mod,ok.kind,ok.glob,ok.blt,ok.above,ok.inj,ok.has,ok.cab,ok.hd,ok.frames,ok.stk,ok.exf,ok.bs,ok.bsz,ok.noex,ok.exfs,ok.funs,ok.frf⟩
theorem Cx.Ok.unwish {X:Cx} {E:Value->Shared->Prop} (ok:(X.wish E).Ok):X.Ok :=
 ⟨ok.mod,ok.kind,ok.glob,ok.blt,ok.above,ok.inj,ok.has,ok.cab,ok.hd,ok.frames,ok.stk,ok.exf,ok.bs,ok.bsz,ok.noex,ok.exfs,ok.funs,ok.frf⟩
section
variable {X:Cx} {pins:List (Addr × Obj)} {σ:St} {H:Hp} {s:Shared} {E:Value->Shared->Prop}
theorem Inv.wish (I:Inv X pins σ H s) (E:Value->Shared->Prop):Inv (X.wish E) pins σ H s:=⟨I.ok.wish E,I.os,I.bare,I.base,I.loc,I.cell,I.free,I.freeC,I.pin,I.hok,I.len⟩
theorem Inv.unwish (I:Inv (X.wish E) pins σ H s):Inv X pins σ H s:=⟨I.ok.unwish,I.os,I.bare,I.base,I.loc,I.cell,I.free,I.freeC,I.pin,I.hok,I.len⟩
theorem SP.unwish {D:Ends} {f:Flow} {s':Shared} (h:SP (X.wish E) pins D f s'):SP X pins D f s':=by
 cases f with
 | next=>obtain ⟨σ',H',I,q⟩:=h; exact ⟨σ',H',I.unwish,q⟩
 | brk=>obtain ⟨σ',H',I,q⟩:=h; exact ⟨σ',H',I.unwish,q⟩
 | cont=>obtain ⟨σ',H',I,q⟩:=h; exact ⟨σ',H',I.unwish,q⟩
 | ret u=>obtain ⟨v,σ',H',I,r,q⟩:=h; exact ⟨v,σ',H',I.unwish,r,q⟩
theorem PSs.nox {st:List Stmt} {t:TS} (h:PSs X.nox st t):PSs X st t:=fun pins s σ H D I hw =>
 wpAny_mono (h pins s σ H D (I.wish _) hw) (fun _ _ q=>q.unwish) fun _ _ z=>False.elim z
end
section
variable {X:Cx} {st:Stmt} {rest:List Stmt} {t u:TS} {e:Expr} {te:TE} {pos:Pos}
def ZvA:TS:=fun D σ H=>D.nx σ H
def Zws (t u:TS):TS:=fun D σ H=>t { D with nx:=u D } σ H
theorem ZtL:PSs X [] ZvA:=fun _ _ σ H _ I h=>wpAny_execs_nil ⟨σ,H,I,h⟩
theorem ZnR (h1:PS X st t) (h2:PSs X rest u):PSs X (st :: rest) (Zws t u):=by
  intro pins s σ H D I h
  refine wpAny_execs_cons (thn (h1 pins s σ H { D with nx:=u D } I h) fun f s1 q=>?_)
  cases f with
  | next =>
    obtain ⟨σ',H',I',q⟩:=q
    exact h2 pins s1 σ' H' D I' q
  | ret v=>exact q
  | brk=>exact q
  | cont=>exact q
theorem Zph (h1:PS X st t):PSs X [st] t:=by
 intro pins s σ H D I h
 refine wpAny_execs_cons (thn (h1 pins s σ H D I h) fun f s1 q=>?_)
 cases f with
 | next=>exact wpAny_execs_nil q
 | ret v=>exact q
 | brk=>exact q
 | cont=>exact q
theorem Inv.quiet {pins:List (Addr × Obj)} {σ:St} {H:Hp} {s:Shared} (I:Inv X pins σ H s):interactive X.env = false:=by simp [interactive,I.ok.kind]
def ZvG (te:TE):TS:=fun D σ H=>te σ H fun _ H1=>D.nx σ H1
theorem ZhO (he:PE X e te) (hs:swapsWith e none pos.line X.env = pure false:=by rfl):PS X (.Expr e pos) (ZvG te):=by
 intro pins s σ H D I h
 exact wpAny_Expr_any (thn (he pins s σ H _ I h) fun v s1 ⟨x,H1,I1,r1,q1⟩=>⟨σ,H1,I1,q1⟩) I.quiet hs
def Zwp (te:TE):TS:=fun D σ H=>te σ H D.rt
theorem ZqZ (he:PE X e te):PS X (.Return (some e) pos) (Zwp te):=by
 intro pins s σ H D I h
 exact wpAny_Return_some (thn (he pins s σ H _ I h) fun v s1 ⟨x,H1,I1,r1,q1⟩=>⟨x,σ,H1,I1,r1,q1⟩)
def Zwq (c:TT) (t u:TS):TS:=fun D σ H=>c σ H fun b H1=>if b = true then t D σ H1 else u D σ H1
theorem Zs8 {c:Expr} {a b:List Stmt} {tc:TT} (hc:PT X c tc) (ha:PSs X a t) (hb:PSs X b u):PS X (.If c a b pos) (Zwq tc t u):=by
 intro pins s σ H D I h
 refine wpAny_If (thn (hc pins s σ H _ I h) fun d s1 ⟨H1,I1,q1⟩=>?_)
 cases d with
 | true=>exact ha pins s1 σ H1 D I1 q1
 | false=>exact hb pins s1 σ H1 D I1 q1
def ZuA:TS:=fun _ _ _=>False
theorem Zi2 {sts:List Stmt}:PSs X sts ZuA:=fun _ _ _ _ _ _ h=>h.elim
end
abbrev TG:=V->St->Hp->(St->Hp->Prop)->Prop
abbrev TGs:=List V->St->Hp->(St->Hp->Prop)->Prop
def PG (X:Cx) (target:Expr) (t:TG):Prop :=
 ∀ (pins:List (Addr × Obj)) (s:Shared) (σ:St) (H:Hp) (v:V) (u:Value) (Q:St->Hp->Prop),Inv X pins σ H s->RelV v u->t v σ H Q ->
  wpAny (model X.prog X.w) X.A (assign target X.env u) (fun _ s'=>∃ σ' H',Inv X pins σ' H' s'/\Q σ' H') X.xe s
def PGs (X:Cx) (ts:List Expr) (t:TGs):Prop :=
 ∀ (pins:List (Addr × Obj)) (s:Shared) (σ:St) (H:Hp) (vs:List V) (us:List Value) (Q:St->Hp->Prop),Inv X pins σ H s->Vals vs us->t vs σ H Q ->
  wpAny (model X.prog X.w) X.A (assignInOrder ((assignEach ts X.env).map (·.2)) us) (fun _ s'=>∃ σ' H',Inv X pins σ' H' s'/\Q σ' H') X.xe s
abbrev Zss:=V->V->V->Hp->(Hp->Prop)->Prop
def Zu9 (X:Cx) (t:Zss):Prop :=
 ∀ (pins:List (Addr × Obj)) (s:Shared) (σ:St) (H:Hp) (o i v:V) (ov iv u:Value) (Q:Hp->Prop),Inv X pins σ H s->RelV o ov->RelV i iv->RelV v u->t o i v H Q ->
  wpAny (model X.prog X.w) X.A (setItem ov iv u) (fun _ s'=>∃ H',Inv X pins σ H' s'/\Q H') X.xe s
abbrev TIp:=V->V->Hp->VK->Prop
def PIp (X:Cx) (op:Operator) (t:TIp):Prop :=
 ∀ (pins:List (Addr × Obj)) (s:Shared) (σ:St) (H:Hp) (x y:V) (v u:Value) (Q:VK),Inv X pins σ H s->RelV x v->RelV y u->t x y H Q ->
  wpAny (model X.prog X.w) X.A (inplaceOp op v u) (EP X pins σ Q) X.xe s
section
variable {X:Cx} {pos:Pos}
def Zs7 (i:Nat):TG:=fun v σ H Q=>Q (σ.set i (some v)) H
theorem ZjA {i:Nat} {x:Str} (hN:X.N.Nodup) (hi:X.N[i]? = some x) (hx:Loc X.env.scope x) (hf:X.fn x = true\/X.env.scope.names.lookup x = some .local:=by first | exact .inl rfl | exact .inr rfl | assumption):PG X (.Name x pos) (Zs7 i):=by
 intro pins s σ H v u Q I r h
 exact wpAny_assign_Name (Zkk I hN hi hx r (fun s' I'=>⟨_,H,I',h⟩) hf)
def Zww:TGs:=fun vs σ H Q=>vs = []/\Q σ H
def ZvD (t:TG) (u:TGs):TGs:=fun vs σ H Q=>∃ v r,vs = v :: r/\t v σ H fun σ' H'=>u r σ' H' Q
theorem ZtV:PGs X [] Zww:=by
 intro pins s σ H vs us Q I r h
 obtain ⟨e,h⟩:=h
 subst e
 cases r
 exact assignInOrder_nil ⟨σ,H,I,h⟩
theorem ZmX {e:Expr} {es:List Expr} {t:TG} {u:TGs} (h1:PG X e t) (h2:PGs X es u)
    (hs:(assignEach (e :: es) X.env).map (·.2) = assign e X.env :: (assignEach es X.env).map (·.2):=by rfl):PGs X (e :: es) (ZvD t u):=by
  intro pins s σ H vs us Q I r h
  obtain ⟨v,vr,e1,h⟩:=h
  subst e1
  cases r with
  | cons r rr =>
    rw [hs]
    refine assignInOrder_cons (thn (h1 pins s σ H _ _ _ I r h) fun _ s1 ⟨σ1,H1,I1,q1⟩=>?_)
    exact h2 pins s1 σ1 H1 _ _ Q I1 rr q1
def ZwA (K:PySem.W.Frag) (n:Nat) (t:TGs):TG:=fun v σ H Q=>∃ a xs,v = .ref a/\SqT K H a xs/\xs.length = n/\t xs σ H Q
theorem Zuc {es:List Expr} {k:Nat} {t:TGs} {n:Nat} (hc:X.calm = true) (h:PGs X es t)
  (hn:(assignEach es X.env).length = n:=by rfl) (hst:(assignEach es X.env).findIdx? (·.1) = none:=by rfl):PG X (.Tuple es k pos) (ZwA X.K n t):=by
 intro pins s σ H v u Q I r hw
 obtain ⟨a,xs,e1,hq,hl,hw⟩:=hw
 subst e1
 cases r
 obtain ⟨its,rv,ht,hz⟩:=I.tuple hq
 refine assign_Tuple_tuple (I.ok.hd hc) ht (by simp [hn,<- hl,rv.length]) hst fun h' hx=>?_
 have I1:Inv X pins σ H { s with heap:=h' }:=I.kept (t':=s.toks) fun b o e=>hx b o (Nat.ne_of_lt (Heap.lt_size e)) e
 exact h pins _ σ H xs _ Q I1 (by simpa using rv) hw
def Zld (to ti:TE) (t:Zss):TG:=fun v σ H Q=>to σ H fun o H1=>ti σ H1 fun i H2=>t o i v H2 fun H3=>Q σ H3
theorem Zuh {o i:Expr} {to ti:TE} {t:Zss} (ho:PE X o to) (hi:PE X i ti) (hs:Zu9 X t)
  (ha:∀ v,assign (.Subscript o i pos) X.env v = (do
   let ov <- holding [v] (eval o X.env)
   let iv <- holding [v,ov] (eval i X.env)
   standAt pos
   holding [v,ov,iv] (setItem ov iv v)
   release [v,ov,iv] []):=by intro _; rfl):PG X (.Subscript o i pos) (Zld to ti t):=by
 intro pins s σ H v u Q I r h
 rw [ha]
 refine wpAny_bind (wpAny_holding (thn (ho pins s σ H _ I h) fun ov s1 ⟨x,H1,I1,r1,q1⟩=>?_))
 refine wpAny_bind (wpAny_holding (thn (hi pins s1 σ H1 _ I1 q1) fun iv s2 ⟨y,H2,I2,r2,q2⟩=>?_))
 refine wpAny_bind (wpAny_standAt (wpAny_bind (wpAny_holding (thn (hs pins s2 σ H2 x y v ov iv u _ I2 r1 r2 r q2) fun _ s3 ⟨H3,I3,q3⟩=>?_))))
 exact wpAny_release ⟨σ,H3,I3,q3⟩
def ZuT (te:TE) (g:TG):TS:=fun D σ H=>te σ H fun x H1=>g x σ H1 D.nx
theorem ZuS {tg e:Expr} {te:TE} {g:TG} (he:PE X e te) (hg:PG X tg g) (hs:swapsWithSole [tg] e pos.line X.env = pure false:=by rfl) (hw:swappedStores [tg] e X.env = pure none:=by rfl)
  (h1:(assignEach [tg] X.env).map (·.2) = [assign tg X.env]:=by rfl):PS X (.Assign [tg] e pos) (ZuT te g):=by
 intro pins s σ H D I h
 refine wpAny_Assign_stores (thn (he pins s σ H _ I h) fun v s1 ⟨x,H1,I1,r1,q1⟩=>?_) hs hw
 rw [h1]
 exact thn (hg pins s1 σ H1 x v _ I1 r1 q1) fun _ s2 ⟨σ',H',I',q'⟩=>⟨σ',H',I',q'⟩
theorem Znk {i:Nat} {x:Str} {e:Expr} {te:TE} {pos':Pos} (hN:X.N.Nodup) (hi:X.N[i]? = some x) (hx:Loc X.env.scope x) (he:PE X e te) (hs:swapsWith e (some (.Name x pos')) pos.line X.env = pure false:=by rfl) (hf:X.fn x = true\/X.env.scope.names.lookup x = some .local:=by first | exact .inl rfl | exact .inr rfl | assumption) :
  PS X (.Assign [.Name x pos'] e pos) (ZuT te (Zs7 i)):=by
 intro pins s σ H D I h
 refine wpAny_Assign_Name (thn (he pins s σ H _ I h) fun v s1 ⟨y,H1,I1,r1,q1⟩=>?_) hs
 exact Zkk I1 hN hi hx r1 (fun s2 I2=>⟨_,H1,I2,q1⟩) hf
def Zwb (i:Nat) (te:TE) (ti:TIp):TS:=fun D σ H=>∃ x,σ[i]? = some (some x)/\te σ H fun y H1=>ti x y H1 fun z H2=>D.nx (σ.set i (some z)) H2
theorem Zu8 {i:Nat} {x:Str} {e:Expr} {te:TE} {op:Operator} {ti:TIp} {pos':Pos} (hN:X.N.Nodup) (hi:X.N[i]? = some x) (hx:Loc X.env.scope x) (he:PE X e te) (ho:PIp X op ti) (hf:X.fn x = true\/X.env.scope.names.lookup x = some .local:=by first | exact .inl rfl | exact .inr rfl | assumption) :
  PS X (.AugAssign (.Name x pos') op e pos) (Zwb i te ti):=by
 intro pins s σ H D I h
 obtain ⟨v,e1,h⟩:=h
 obtain ⟨m,hn,hl⟩:=I.loc
 have vis:Vis X.env.scope x:=by rcases hx with k | k; exact .inl k; exact .inr (.inl k)
 obtain ⟨u,r,l⟩:=hl i x v hi e1 vis
 refine wpAny_AugAssign_Name ?_
 have go:wpAny (model X.prog X.w) X.A (eval e X.env) (fun w s₂=>wpAny (model X.prog X.w) X.A (inplaceOp op u w) (fun r s₃=>wpAny (model X.prog X.w) X.A (storeName X.env x r) (fun _=>SP X pins D .next) X.xe s₃) X.xe s₂) X.xe s:=by
  refine thn (he pins s σ H _ I h) fun w s1 ⟨y,H1,I1,r1,q1⟩=>?_
  refine thn (ho pins s1 σ H1 v y u w _ I1 r r1 q1) fun z s2 ⟨zv,H2,I2,r2,q2⟩=>?_
  exact Zkk I2 hN hi hx r2 (fun s3 I3=>⟨_,H2,I3,q2⟩) hf
 rcases l with ⟨hk,hm⟩ | ⟨hk,c,hc,hcell⟩
 ·exact wpAny_loadName_local I.ok.kind hk hn hm go
 ·rcases hk with hk | hk
  ·exact wpAny_loadName_cell I.ok.kind hk hc hcell go
  ·rcases hx with k | k
   ·have:X.env.scope.names.lookup x = some .free:=hk
    rw [k] at this; cases this
   ·have:X.env.scope.names.lookup x = some .free:=hk
    rw [k] at this; cases this
def ipI (f:Int->Int->Int):TIp:=fun x y H Q=>∃ i j,x = .int i/\y = .int j/\Q (.int (f i j)) H
theorem Zu4:PIp X .Add (ipI fun i j=>i + j):=by
 intro pins s σ H x y v u Q I r1 r2 h
 obtain ⟨i,j,e1,e2,q⟩:=h
 subst e1; subst e2
 obtain ⟨t,rfl⟩:=r1
 obtain ⟨t',rfl⟩:=r2
 exact iadd_int ⟨.int _,H,I.tok _,⟨_,rfl⟩,q⟩
end
section
variable {X:Cx} {pos:Pos}
def Zua (c:TT) (tb:TS):TS:=fun D σ H=>∃ W:Nat->St->Hp->Prop,(∃ m,W m σ H)/\∀ m σ H,W m σ H ->
 c σ H fun b H1=>if b = true then ∃ N:St->Hp->Prop,(∀ σ' H',N σ' H'->∃ m',m' < m/\W m' σ' H')/\tb { D with nx:=N,ct:=N,bk:=D.nx } σ H1 else D.nx σ H1
theorem Zr9 {c:Expr} {body:List Stmt} {tc:TT} {tb:TS} (hp:PassesOwn (model X.prog X.w) X.A X.env X.xe) (hc:PT X c tc) (hb:PSs X body tb):PS X (.While c body [] pos) (Zua tc tb):=by
  intro pins s σ H D I h
  obtain ⟨W,⟨m0,w0⟩,turn⟩:=h
  refine wpAny_While (codeAny_whileLoop (fun n s'=>∃ σ' H',Inv X pins σ' H' s'/\W n σ' H') ?_ m0 ⟨σ,H,I,w0⟩)
  rintro n s1 ⟨σ1,H1,I1,w1⟩
  refine wpAny_passesOwn hp (thn (hc pins s1 σ1 H1 _ I1 (turn n σ1 H1 w1)) fun b s2 ⟨H2,I2,q2⟩=>?_)
  cases b with
  | true =>
    obtain ⟨N,hN,q2⟩:=q2
    rw [if_pos rfl]
    refine wpAny_passesOwn hp (thn (hb pins s2 σ1 H2 _ I2 q2) fun f s3 q3=>?_)
    cases f with
    | next =>
      obtain ⟨σ3,H3,I3,n3⟩:=q3
      obtain ⟨m',hm,w3⟩:=hN σ3 H3 n3
      exact ⟨m',hm,σ3,H3,I3,w3⟩
    | cont =>
      obtain ⟨σ3,H3,I3,n3⟩:=q3
      obtain ⟨m',hm,w3⟩:=hN σ3 H3 n3
      exact ⟨m',hm,σ3,H3,I3,w3⟩
    | brk=>exact q3
    | ret v=>exact q3
  | false =>
    rw [if_neg Bool.false_ne_true]
    exact wpAny_execs_nil ⟨σ1,H2,I2,q2⟩
end
structure It where
 go:Nat->Hp->Prop
 yld:Nat->Hp->V->Hp->Prop
 stop:Nat->Hp->Prop
def Zhf (X:Cx) (pins:List (Addr × Obj)) (H:Hp) (b:Addr):Prop :=
 H b = none/\b ≠ X.env.locals/\b ∉ X.fs/\(b ∈ X.ex\/X.s₀.heap.objs.size <= b)/\(∀ x c,X.env.cells.lookup x = some c->c ≠ b)/\∀ p ∈ X.pn ++ pins,p.1 ≠ b
theorem Inv.fpOk {X:Cx} {pins:List (Addr × Obj)} {σ:St} {H H':Hp} {s:Shared} {b:Addr} (I:Inv X pins σ H s) (hb:s.heap.objs.size <= b) (hn:H' b = none):Zhf X pins H' b:=by
 refine ⟨hn,Nat.ne_of_gt (Nat.lt_of_lt_of_le I.lt hb),I.nofs hb,.inr (Nat.le_trans I.sz hb),fun x c e z=>?_,fun p hp z=>?_⟩
 ·obtain ⟨v,q⟩:=I.cell x c e
  exact absurd (Nat.lt_of_lt_of_le q.lt (by rw [z]; exact hb)) (Nat.lt_irrefl _)
 ·exact absurd (Nat.lt_of_lt_of_le (Heap.lt_size (I.pin p hp).1) (by rw [z]; exact hb)) (Nat.lt_irrefl _)
structure Turn (P:Program) (w:World) (K:PySem.W.Frag) (tg:Expr) (J:It) (fp:List Addr) (it:Addr) (tn:Nat->Heap->Prop):Prop where
 mem:it ∈ fp
 obj:∀ i h,tn i h->∀ b ∈ fp,∃ o,h.get? b = some o/\∀ v,o.data ≠ .cell v
 keep:∀ i h h',tn i h->(∀ b ∈ fp,∀ o,h.get? b = some o->h'.get? b = some o)->tn i h'
 item:∀ (X:Cx),X.prog = P->X.w = w->X.K = K->X.calm = true->∀ (i:Nat) (pins:List (Addr × Obj)) (s:Shared) (σ:St) (H:Hp) (E:Value->Shared->Prop),Inv X pins σ H s->(∀ b ∈ fp,Zhf X pins H b)->tn i s.heap->J.go i H ->
  wpAny (model P w) X.A (pyNext (.ref it)) (fun r s1=>∃ u,r = some u /\
   wpAny (model P w) X.A (letOwnedTupleGo tg (.ref it) u) (fun _ s2=>∃ x H',Inv X pins σ H' s2/\RelV x u/\J.yld i H x H'/\tn (i + 1) s2.heap/\∀ b ∈ fp,H' b = none) E s1) E s
 done:∀ (X:Cx),X.prog = P->X.w = w->X.K = K->X.calm = true->∀ (i:Nat) (pins:List (Addr × Obj)) (s:Shared) (σ:St) (H:Hp) (E:Value->Shared->Prop),Inv X pins σ H s->(∀ b ∈ fp,Zhf X pins H b)->tn i s.heap->J.stop i H ->
  wpAny (model P w) X.A (pyNext (.ref it)) (fun r s1=>r = none/\Inv X pins σ H s1) E s
 self:∀ (A:Around) (i:Nat) (s:Shared) (Q:Value->Shared->Prop) (E:Value->Shared->Prop),tn i s.heap->Q (.ref it) s->wpAny (model P w) A (pyIter (.ref it)) Q E s
abbrev TI:=St->Hp->(It->Hp->Prop)->Prop
def PIE (X:Cx) (pins:List (Addr × Obj)) (σ:St) (tg:Expr) (R:It->Hp->Prop) (itv:Value) (s2:Shared):Prop :=
 ∃ (it:Addr) (fp:List Addr) (tn:Nat->Heap->Prop) (J:It) (H':Hp),itv = .ref it/\Inv X pins σ H' s2/\Turn X.prog X.w X.K tg J fp it tn/\tn 0 s2.heap/\(∀ b ∈ fp,Zhf X pins H' b)/\R J H'
def PI (X:Cx) (tg iter:Expr) (wi:TI):Prop :=
 ∀ (pins:List (Addr × Obj)) (s:Shared) (σ:St) (H:Hp) (R:It->Hp->Prop),Inv X pins σ H s->wi σ H R ->
  wpAny (model X.prog X.w) X.A (eval iter X.env) (fun v s1=>wpAny (model X.prog X.w) X.A (pyIter v) (PIE X pins σ tg R) X.xe s1) X.xe s
theorem Zmv {M:Model} {A:Around} {E:Value->Shared->Prop} {s:Shared} {tg:Expr} {it:Addr} {u:Value} {o:Obj} {n:String} {vs:Array Value} {Q:Unit->Shared->Prop} (ho:s.heap.get? it = some o) (hc:o.cls = .type n) (hd:o.data = .fields vs)
    (hn:["enumerate","zip","dict_itemiterator","dict_reverseitemiterator","odict_iterator","itertools.zip_longest","itertools.pairwise"].contains n = false) (hQ:Q () s):wpAny M A (letOwnedTupleGo tg (.ref it) u) Q E s:=by
  unfold letOwnedTupleGo
  cases tg <;> first
    | exact wpAny_pure hQ
    | (cases u <;> first
        | exact wpAny_pure hQ
        | (refine wpAny_bind (wpAny_load ho ?_)
           rw [hc, hd]
           show wpAny M A (if (["enumerate", "zip", "dict_itemiterator", "dict_reverseitemiterator", "odict_iterator", "itertools.zip_longest", "itertools.pairwise"].contains n && vs[0]? == some (rawInt _)) = true then _ else _) Q E s
           rw [if_neg (by intro h; rw [hn, Bool.false_and] at h; cases h)]
           exact wpAny_pure hQ))
def Itl (K:PySem.W.Frag) (a:Addr):It :=
 ⟨fun i H=>∃ xs x,SqL K H a xs/\xs[i]? = some x,fun i H x H'=>H' = H/\∀ xs,SqL K H a xs->xs[i]? = some x,fun i H=>∃ xs,SqL K H a xs/\xs.length <= i⟩
def Itt (K:PySem.W.Frag) (a:Addr):It :=
 ⟨fun i H=>∃ xs x,SqT K H a xs/\xs[i]? = some x,fun i H x H'=>H' = H/\∀ xs,SqT K H a xs->xs[i]? = some x,fun i H=>∃ xs,SqT K H a xs/\xs.length <= i⟩
def Itr (lo:Int) (n:Nat):It:=⟨fun i _=>i < n,fun i H x H'=>H' = H/\x = .int (lo + i),fun i _=>n <= i⟩
theorem Zqo {P:Program} {w:World} {K:PySem.W.Frag} {tg:Expr} (a it:Addr):Turn P w K tg (Itl K a) [it] it (fun i h=>h.IsListIter it a i) where
 mem:=by simp
 obj:=fun i h st b hb=>by
  have e:b = it:=by simpa using hb
  subst e
  obtain ⟨o,e,c,d⟩:=st
  exact ⟨o,e,fun v z=>by rw [d] at z; cases z⟩
 keep:=fun i h h' st k=>st.at fun o e=>k it (by simp) o e
 item:=by
  intro X hP hw hK hc i pins s σ H E I hf st hg
  subst hP hw hK
  obtain ⟨xs,x,hq,hx⟩:=hg
  obtain ⟨its,rv,p,hz⟩:=I.list hq
  obtain ⟨u,hu,ru⟩:=rv.get hx
  obtain ⟨f0,f1,f2,f3,f4,f5⟩:=hf it (by simp)
  refine wpAny_pyNext_list_item st p.isList (x:=u) (by simpa using hu) fun h' st' sb=>?_
  have I1:Inv X pins σ H { s with heap:=h' }:=I.turned (t':=s.toks) (fun b o hb e=>(sb.2 b hb).trans e) f0 f1 f3 f4 f5
  obtain ⟨o,e,c,d⟩:=id st'
  exact ⟨u,rfl,Zmv (s:={ s with heap:=h' }) e c d (by decide) ⟨x,H,I1,ru,⟨rfl,fun ys hy=>by rw [I.list_inj hy hq]; exact hx⟩,st',fun b hb=>(hf b hb).1⟩⟩
 done:=by
  intro X hP hw hK hc i pins s σ H E I hf st hg
  subst hP hw hK
  obtain ⟨xs,hq,hx⟩:=hg
  obtain ⟨its,rv,p,hz⟩:=I.list hq
  obtain ⟨f0,f1,f2,f3,f4,f5⟩:=hf it (by simp)
  have hl:=rv.length
  exact wpAny_pyNext_list_end (I.ok.hd hc) st p.isList (by simp; omega) fun h' eb=>⟨rfl,I.turned (t':=s.toks) (fun b o hb e=>eb b o hb e) f0 f1 f3 f4 f5⟩
 self:=fun _ _ _ _ _ st h=>wpAny_pyIter_listiter st h
theorem Zpx {P:Program} {w:World} {K:PySem.W.Frag} {tg:Expr} (a it:Addr):Turn P w K tg (Itt K a) [it] it (fun i h=>h.IsTupleIter it a i) where
 mem:=by simp
 obj:=fun i h st b hb=>by
  have e:b = it:=by simpa using hb
  subst e
  obtain ⟨o,e,c,d⟩:=st
  exact ⟨o,e,fun v z=>by rw [d] at z; cases z⟩
 keep:=fun i h h' st k=>st.at fun o e=>k it (by simp) o e
 item:=by
  intro X hP hw hK hc i pins s σ H E I hf st hg
  subst hP hw hK
  obtain ⟨xs,x,hq,hx⟩:=hg
  obtain ⟨its,rv,p,hz⟩:=I.tuple hq
  obtain ⟨u,hu,ru⟩:=rv.get hx
  obtain ⟨f0,f1,f2,f3,f4,f5⟩:=hf it (by simp)
  refine wpAny_pyNext_tuple_item st (show s.heap.IsTuple a its.toArray from p) (x:=u) (by simpa using hu) fun h' st' sb=>?_
  have I1:Inv X pins σ H { s with heap:=h' }:=I.turned (t':=s.toks) (fun b o hb e=>(sb.2 b hb).trans e) f0 f1 f3 f4 f5
  obtain ⟨o,e,c,d⟩:=id st'
  exact ⟨u,rfl,Zmv (s:={ s with heap:=h' }) e c d (by decide) ⟨x,H,I1,ru,⟨rfl,fun ys hy=>by rw [I.tuple_inj hy hq]; exact hx⟩,st',fun b hb=>(hf b hb).1⟩⟩
 done:=by
  intro X hP hw hK hc i pins s σ H E I hf st hg
  subst hP hw hK
  obtain ⟨xs,hq,hx⟩:=hg
  obtain ⟨its,rv,p,hz⟩:=I.tuple hq
  obtain ⟨f0,f1,f2,f3,f4,f5⟩:=hf it (by simp)
  have hl:=rv.length
  exact wpAny_pyNext_tuple_end (I.ok.hd hc) st (show s.heap.IsTuple a its.toArray from p) (by simp; omega) fun h' eb=>⟨rfl,I.turned (t':=s.toks) (fun b o hb e=>eb b o hb e) f0 f1 f3 f4 f5⟩
 self:=fun _ _ _ _ _ st h=>wpAny_pyIter_tupleiter st h
theorem ZpN {P:Program} {w:World} {K:PySem.W.Frag} {tg:Expr} (it:Addr) (lo:Int) (n:Nat):Turn P w K tg (Itr lo n) [it] it (fun i h=>IsRangeIter h it (lo + (i:Nat) * 1) ((n:Int) - (i:Nat)) 1) where
 mem:=by simp
 obj:=fun i h st b hb=>by
  have e:b = it:=by simpa using hb
  subst e
  exact ⟨_,st,fun v z=>by
   have z':Data.fields _ = Data.cell v:=z
   cases z'⟩
 keep:=fun i h h' st k=>k it (by simp) _ st
 item:=by
  intro X hP hw hK hc i pins s σ H E I hf st hg
  subst hP hw hK
  obtain ⟨f0,f1,f2,f3,f4,f5⟩:=hf it (by simp)
  have W:=Walks.range (prog:=X.prog) (w:=X.w) (I.ok.hd hc) it lo 1 n
  refine W.item i s _ _ hg st fun v h' tk hv st' kk=>?_
  obtain ⟨t,rfl⟩:=hv
  have I1:Inv X pins σ H { s with heap:=h',toks:=tk }:=I.turned (fun b o hb e=>kk b o (by simpa using hb) e) f0 f1 f3 f4 f5
  refine ⟨_,rfl,Zmv (s:={ s with heap:=h',toks:=tk }) (n:="range_iterator") st' rfl rfl (by decide) ⟨.int (lo + i),H,I1,⟨t,?_⟩,⟨rfl,rfl⟩,st',fun b hb=>(hf b hb).1⟩⟩
  rw [Int.mul_one]
 done:=by
  intro X hP hw hK hc i pins s σ H E I hf st hg
  subst hP hw hK
  obtain ⟨f0,f1,f2,f3,f4,f5⟩:=hf it (by simp)
  exact wpAny_pyNext_range_end (I.ok.hd hc) st (by have:n <= i:=hg; omega) fun h' eb=>⟨rfl,I.turned (t':=s.toks) (fun b o hb e=>eb b o hb e) f0 f1 f3 f4 f5⟩
 self:=fun _ _ _ _ _ st h=>wpAny_pyIter_rangeiter st h
end L2
namespace L2
open PySem PySem.Spec PyProof.Rows
section
variable {X:Cx} {tg:Expr}
theorem Zn8 {pins:List (Addr × Obj)} {σ:St} {H:Hp} {s:Shared} {R:It->Hp->Prop} {E:Value->Shared->Prop} {lo hi:Int} {t u v:Tok} {tk:Nat} (I:Inv X pins σ H s) (h1:-(2 ^ 62) <= lo) (h2:lo < 2 ^ 62) (h3:-(2 ^ 62) <= hi) (h4:hi < 2 ^ 62)
  (q:R (Itr lo (hi - lo).toNat) H):wpAny (model X.prog X.w) X.A (pyIter (.ref s.heap.objs.size)) (PIE X pins σ tg R) E { s with heap:=s.heap.push { cls:=.type "range",data:=.fields #[.int lo t,.int hi u,.int 1 v] },toks:=tk }:=by
 refine wpAny_pyIter_range (IsRange.new ..) (small_one h1 h2 h3 h4) ?_
 have I1:Inv X pins σ H { s with heap:=s.heap.push { cls:=.type "range",data:=.fields #[.int lo t,.int hi u,.int 1 v] },toks:=tk }:=I.kept fun b o e=>Heap.get?_push_of_some _ e
 refine ⟨(s.heap.push { cls:=.type "range",data:=.fields #[.int lo t,.int hi u,.int 1 v] }).objs.size,[(s.heap.push { cls:=.type "range",data:=.fields #[.int lo t,.int hi u,.int 1 v] }).objs.size],_,_,H,rfl,
  I1.kept (t':=tk) fun b o e=>Heap.get?_push_of_some _ e,ZpN _ lo (hi - lo).toNat,?_,fun b hb=>?_,q⟩
 ·have e1:lo + ((0:Nat):Int) * 1 = lo:=by simp
  have e2:(((hi - lo).toNat:Nat):Int) - ((0:Nat):Int) = Builtin.Range.rangeSize lo hi 1:=by rw [rangeSize_one]; split <;> omega
  show IsRangeIter _ _ (lo + ((0:Nat):Int) * 1) ((((hi - lo).toNat:Nat):Int) - ((0:Nat):Int)) 1
  rw [e1,e2]
  exact Heap.get?_push_size _ rfl
 ·have e:b = (s.heap.push { cls:=.type "range",data:=.fields #[.int lo t,.int hi u,.int 1 v] }).objs.size:=by simpa using hb
  subst e
  exact I1.fpOk (Nat.le_refl _) (I1.hok.fresh (Nat.le_refl _))
def ZbV (ta:TA):TI:=fun σ H R=>ta σ H fun vs H1=>∃ j:Int,vs = [.int j]/\-(2 ^ 62) <= j/\j < 2 ^ 62/\R (Itr 0 j.toNat) H1
def Zjy (ta:TA):TI:=fun σ H R=>ta σ H fun vs H1=>∃ i j:Int,vs = [.int i,.int j]/\(-(2 ^ 62) <= i/\i < 2 ^ 62/\-(2 ^ 62) <= j/\j < 2 ^ 62)/\R (Itr i (j - i).toNat) H1
theorem Zqq {a:Expr} {ta:TA} {p pos:Pos} (hg:Gl X "range") (hm:X.mg "range" = none) (ha:PA X [a] ta) (hs:starEach [a] X.env = [(false,eval a X.env)]:=by rfl):PI X tg (.Call (.Name "range" p) [a] [] pos) (ZbV ta):=by
  intro pins s σ H R I h
  refine Call_ (Zjm I hg hm boot_range (PyProof.Rows.callWith_type1 (thn (ha pos pins s σ H _ I h) fun us s1 ⟨vs,H1,I1,r1,q1⟩=>?_) hs rfl))
  obtain ⟨j,e,q1,q2,q⟩:=q1
  subst e
  cases r1 with
  | cons r rr =>
    cases rr
    obtain ⟨t,rfl⟩:=r
    exact call_range_1 (Zn8 I1 (by omega) (by omega) q1 q2 (by simpa using q))
theorem ZqQ {a b:Expr} {ta:TA} {p pos:Pos} (hg:Gl X "range") (hm:X.mg "range" = none) (ha:PA X [a,b] ta) (hs:starEach [a,b] X.env = [(false,eval a X.env),(false,eval b X.env)]:=by rfl) (hs2:starEach [b] X.env = [(false,eval b X.env)]:=by rfl) :
    PI X tg (.Call (.Name "range" p) [a,b] [] pos) (Zjy ta):=by
  intro pins s σ H R I h
  refine Call_ (Zjm I hg hm boot_range (PyProof.Rows.callWith_type1 (thn (ha pos pins s σ H _ I h) fun us s1 ⟨vs,H1,I1,r1,q1⟩=>?_) (by rw [hs,hs2]) (by rw [hs2]; rfl)))
  obtain ⟨i,j,e,⟨q1,q2,q3,q4⟩,q⟩:=q1
  subst e
  cases r1 with
  | cons r rr =>
    cases rr with
    | cons r' rr =>
      cases rr
      obtain ⟨t,rfl⟩:=r
      obtain ⟨t',rfl⟩:=r'
      exact call_range_2 (Zn8 I1 q1 q2 q3 q4 q)
def Zwl (wi:TI) (g:TG) (tb:TS):TS:=fun D σ H=>wi σ H fun J H1=>∃ W:Nat->Nat->St->Hp->Prop,(∃ m,W 0 m σ H1)/\∀ i m σ H,W i m σ H ->
 (J.stop i H/\D.nx σ H)\/(J.go i H/\∃ N:St->Hp->Prop,(∀ σ' H',N σ' H'->∃ m',m' < m/\W (i + 1) m' σ' H')/\∀ x H',J.yld i H x H'->g x σ H' fun σ2 H2=>tb { D with nx:=N,ct:=N,bk:=D.nx } σ2 H2)
def Zjb (fp:List Addr) (h:Heap):List (Addr × Obj):=fp.filterMap fun b=>(h.get? b).map fun o=>(b,o)
theorem ZgB {fp:List Addr} {h:Heap} {b:Addr} {o:Obj} (hb:b ∈ fp) (e:h.get? b = some o):(b,o) ∈ Zjb fp h:=List.mem_filterMap.mpr ⟨b,hb,by rw [e]; rfl⟩
theorem Zq3 {fp:List Addr} {h:Heap} {p:Addr × Obj} (hp:p ∈ Zjb fp h):p.1 ∈ fp/\h.get? p.1 = some p.2:=by
  obtain ⟨b,hb,e⟩:=List.mem_filterMap.mp hp
  cases q:h.get? b with
  | none=>rw [q] at e; cases e
  | some o =>
    rw [q] at e
    have e':(b,o) = p:=Option.some.inj e
    subst e'
    exact ⟨hb,q⟩
theorem Inv.pinned {pins:List (Addr × Obj)} {σ:St} {H:Hp} {s:Shared} {fp:List Addr} (I:Inv X pins σ H s) (hf:∀ b ∈ fp,Zhf X pins H b) (ho:∀ b ∈ fp,∃ o,s.heap.get? b = some o/\∀ v,o.data ≠ .cell v):Inv X (pins ++ Zjb fp s.heap) σ H s :=
 I.pins_of fun p hp=>(List.mem_append.mp hp).elim (fun z=>I.pin p (List.mem_append_right _ z)) fun z=>by
  obtain ⟨hb,e⟩:=Zq3 z
  obtain ⟨f0,f1,f2,_⟩:=hf p.1 hb
  obtain ⟨o,e',d⟩:=ho p.1 hb
  rw [e] at e'; cases e'
  exact ⟨e,f0,f1,f2,d⟩
theorem Inv.unpinned {pins pl:List (Addr × Obj)} {σ:St} {H:Hp} {s:Shared} (I:Inv X (pins ++ pl) σ H s):Inv X pins σ H s:=I.pins_of fun p hp=>I.pin p (List.mem_append_right _ (List.mem_append_left _ hp))
theorem Zum {iter:Expr} {body:List Stmt} {wi:TI} {g:TG} {tb:TS} {pos:Pos} (hp:PassesOwn (model X.prog X.w) X.A X.env X.xe) (hc:X.calm = true) (hi:PI X tg iter wi) (hg:PG X tg g) (hb:PSs X body tb)
  (hs:∀ x,foldedSetIterable iter X.env x = pure x:=by intro _; rfl):PS X (.For tg iter body [] pos) (Zwl wi g tb):=by
 intro pins s σ H D I h
 refine wpAny_For (thn (hi pins s σ H _ I h) fun v s1 h1=>thn h1 fun itv s2 h2=>?_) hs
 obtain ⟨it,fp,tn,J,H2,e,I2,T,st2,f2,W,⟨m0,w0⟩,turn⟩:=h2
 subst e
 have stat:∀ {H':Hp},(∀ b ∈ fp,H' b = none)->∀ b ∈ fp,Zhf X pins H' b:=fun hn b hb=>⟨hn b hb,(f2 b hb).2⟩
 refine codeAny_forLoop_any (fun n s'=>∃ i σ' H',Inv X pins σ' H' s'/\tn i s'.heap/\(∀ b ∈ fp,H' b = none)/\W i n σ' H') ?_ m0 ⟨0,σ,H2,I2,st2,fun b hb=>(f2 b hb).1,w0⟩
 rintro n s3 ⟨i,σ3,H3,I3,st3,fr3,w3⟩
 rcases turn i n σ3 H3 w3 with ⟨stop,qn⟩ | ⟨go,N,hN,step⟩
 ·refine wpAny_passesOwn hp (thn (T.done X rfl rfl rfl hc i pins s3 σ3 H3 X.xe I3 (stat fr3) st3 stop) fun r s4 ⟨hr,I4⟩=>?_)
  subst hr
  exact wpAny_execs_nil ⟨σ3,H3,I4,qn⟩
 ·refine wpAny_passesOwn hp (thn (T.item X rfl rfl rfl hc i pins s3 σ3 H3 X.xe I3 (stat fr3) st3 go) fun r s4 ⟨u,hr,h4⟩=>?_)
  subst hr
  refine wpAny_passesOwn hp (thn h4 fun _ s5 ⟨x,H5,I5,r5,y5,st5,fr5⟩=>?_)
  have I5':=I5.pinned (stat fr5) (T.obj _ _ st5)
  refine wpAny_passesOwn hp (thn (hg _ s5 σ3 H5 x u _ I5' r5 (step x H5 y5)) fun _ s6 ⟨σ6,H6,I6,q6⟩=>?_)
  refine wpAny_passesOwn hp (thn (hb _ s6 σ6 H6 _ I6 q6) fun f s7 q7=>?_)
  have again:∀ {σ7:St} {H7:Hp},Inv X (pins ++ Zjb fp s5.heap) σ7 H7 s7->N σ7 H7->∃ m,m < n/\∃ i σ' H',Inv X pins σ' H' s7/\tn i s7.heap/\(∀ b ∈ fp,H' b = none)/\W i m σ' H':=fun {σ7 H7} I7 n7=>by
   obtain ⟨m',hm,w7⟩:=hN σ7 H7 n7
   refine ⟨m',hm,i + 1,σ7,H7,I7.unpinned,T.keep _ _ _ st5 fun b hb o e=>(I7.pin (b,o) (List.mem_append_right _ (List.mem_append_right _ (ZgB hb e)))).1,fun b hb=>?_,w7⟩
   obtain ⟨o,e,d⟩:=T.obj _ _ st5 b hb
   exact (I7.pin (b,o) (List.mem_append_right _ (List.mem_append_right _ (ZgB hb e)))).2.1
  cases f with
  | next=>obtain ⟨σ7,H7,I7,n7⟩:=q7; exact again I7 n7
  | cont=>obtain ⟨σ7,H7,I7,n7⟩:=q7; exact again I7 n7
  | brk=>obtain ⟨σ7,H7,I7,q7⟩:=q7; exact ⟨σ7,H7,I7.unpinned,q7⟩
  | ret v=>obtain ⟨x7,σ7,H7,I7,r7,q7⟩:=q7; exact ⟨x7,σ7,H7,I7.unpinned,r7,q7⟩
end
end L2
namespace L2
open PySem PySem.Spec PyProof.Rows
abbrev R2:=V->V->Hp->VK->Prop
def OpR (X:Cx) (f:Value->Value->Sem Value) (r:R2):Prop :=
 ∀ (pins:List (Addr × Obj)) (s:Shared) (σ:St) (H:Hp) (x y:V) (v u:Value) (Q:VK),Inv X pins σ H s->RelV x v->RelV y u->r x y H Q ->
  wpAny (model X.prog X.w) X.A (f v u) (EP X pins σ Q) X.xe s
def Za7 (X:Cx) (f:Value) (r:List V->Hp->VK->Prop):Prop :=
 ∀ (pins:List (Addr × Obj)) (s:Shared) (σ:St) (H:Hp) (xs:List V) (us:List Value) (Q:VK),Inv X pins σ H s->Vals xs us->r xs H Q ->
  wpAny (model X.prog X.w) X.A (call f us) (EP X pins σ Q) X.xe s
def tOp (r:R2) (ta tb:TE):TE:=fun σ H Q=>ta σ H fun x H1=>tb σ H1 fun y H2=>r x y H2 Q
def rI (C:Int->Int->Prop) (g:Int->Int->V):R2:=fun x y H Q=>∃ i j,x = .int i/\y = .int j/\C i j/\Q (g i j) H
def rI0 (g:Int->Int->V):R2:=fun x y H Q=>∃ i j,x = .int i/\y = .int j/\Q (g i j) H
section
variable {X:Cx} {a b c:Expr} {ta tb tc:TE} {pos:Pos}
theorem ZsU (ha:PE X a ta) (hb:PE X b tb) {pins:List (Addr × Obj)} {s:Shared} {σ:St} {H:Hp} {R:V->V->Hp->Prop} (I:Inv X pins σ H s)
  (h:ta σ H fun x H1=>tb σ H1 fun y H2=>R x y H2) {Q:Value->Shared->Prop} {f:Value->Value->Sem Value}
  (hf:∀ v u s2 x y H2,Inv X pins σ H2 s2->RelV x v->RelV y u->R x y H2->wpAny (model X.prog X.w) X.A (f v u) Q X.xe s2) :
  wpAny (model X.prog X.w) X.A (eval a X.env) (fun v s₁=>wpAny (model X.prog X.w) X.A (eval b X.env) (fun u s₂=>wpAny (model X.prog X.w) X.A (f v u) Q X.xe s₂) X.xe s₁) X.xe s:=by
 refine thn (ha pins s σ H _ I h) fun v s1 ⟨x,H1,I1,r1,q1⟩=>?_
 refine thn (hb pins s1 σ H1 _ I1 q1) fun u s2 ⟨y,H2,I2,r2,q2⟩=>?_
 exact hf v u s2 x y H2 I2 r1 r2 q2
theorem ZpT {op:Operator} {r:R2} (ho:OpR X (binaryOp op) r) (ha:PE X a ta) (hb:PE X b tb):PE X (.BinOp a op b pos) (tOp r ta tb):=by
 intro pins s σ H Q I h
 exact wpAny_BinOp (ZsU ha hb I h fun v u s2 x y H2 I2 rx ry q=>ho pins s2 σ H2 x y v u Q I2 rx ry q)
theorem opI {f:Value->Value->Sem Value} {C:Int->Int->Prop} {g:Int->Int->Int}
  (rule:∀ (i j:Int) (t u:Tok) (s:Shared) (Q:Value->Shared->Prop) (E:Value->Shared->Prop),C i j->Q (.int (g i j) s.toks) { s with toks:=s.toks + 1 }->wpAny (model X.prog X.w) X.A (f (.int i t) (.int j u)) Q E s) :
  OpR X f (rI C fun i j=>.int (g i j)):=by
 intro pins s σ H x y v u Q I rx ry h
 obtain ⟨i,j,rfl,rfl,hc,q⟩:=h
 obtain ⟨t,rfl⟩:=rx
 obtain ⟨t',rfl⟩:=ry
 exact rule i j t t' s _ _ hc ⟨.int (g i j),H,I.tok _,⟨_,rfl⟩,q⟩
theorem ZuH {f:Value->Value->Sem Value} {g:Int->Int->Int}
  (rule:∀ (i j:Int) (t u:Tok) (s:Shared) (Q:Value->Shared->Prop) (E:Value->Shared->Prop),Q (.int (g i j) s.toks) { s with toks:=s.toks + 1 }->wpAny (model X.prog X.w) X.A (f (.int i t) (.int j u)) Q E s) :
  OpR X f (rI0 fun i j=>.int (g i j)):=by
 intro pins s σ H x y v u Q I rx ry h
 obtain ⟨i,j,rfl,rfl,q⟩:=h
 obtain ⟨t,rfl⟩:=rx
 obtain ⟨t',rfl⟩:=ry
 exact rule i j t t' s _ _ ⟨.int (g i j),H,I.tok _,⟨_,rfl⟩,q⟩
theorem ZrP {f:Value->Value->Sem Value} {g:Int->Int->Bool}
  (rule:∀ (i j:Int) (t u:Tok) (s:Shared) (Q:Value->Shared->Prop) (E:Value->Shared->Prop),Q (.bool (g i j)) s->wpAny (model X.prog X.w) X.A (f (.int i t) (.int j u)) Q E s) :
  OpR X f (rI0 fun i j=>.bl (g i j)):=by
 intro pins s σ H x y v u Q I rx ry h
 obtain ⟨i,j,rfl,rfl,q⟩:=h
 obtain ⟨t,rfl⟩:=rx
 obtain ⟨t',rfl⟩:=ry
 exact rule i j t t' s _ _ ⟨.bl (g i j),H,I,rfl,q⟩
def Zpy (i j:Int):Prop:=(-(2 ^ 64) < i/\i < 2 ^ 64)\/(-(2 ^ 64) < j/\j < 2 ^ 64)
theorem Zpy.ok {i j:Int} (h:Zpy i j):IntMulOk i j:=by
 rcases h with ⟨h1,h2⟩ | ⟨h1,h2⟩
 ·exact .of_left (intBits_le_64 h1 h2)
 ·exact .of_right (intBits_le_64 h1 h2)
theorem Zu2:OpR X (binaryOp .Add) (rI0 fun i j=>.int (i + j)):=ZuH fun _ _ _ _ _ _ _ q=>add_int q
theorem Zug:OpR X (binaryOp .Sub) (rI0 fun i j=>.int (i - j)):=ZuH fun _ _ _ _ _ _ _ q=>sub_int q
theorem Zuf:OpR X (binaryOp .Mult) (rI Zpy fun i j=>.int (i * j)):=opI fun _ _ _ _ _ _ _ hc q=>mul_int q hc.ok
theorem Zur:OpR X (binaryOp .Mod) (rI (fun _ j=>0 < j) fun i j=>.int (i % j)):=opI fun i j _ _ _ _ _ hc q=>by
 have h1:(0:Int) < j:=hc
 exact mod_int' (by omega) (by rw [Int.fmod_eq_emod_of_nonneg i (by omega)]; exact q)
end
section
variable {X:Cx} {a b c:Expr} {ta tb tc:TE} {pos:Pos}
theorem Zrq {pins:List (Addr × Obj)} {σ:St} {H:Hp} {s:Shared} {Q:VK} {k k':Bool} (I:Inv X pins σ H s) (q:Q (.bl k) H) (e:k = k'):EP X pins σ Q (.bool k') s:=by
 subst e
 exact ⟨.bl k,H,I,rfl,q⟩
theorem ZvC:OpR X (compareOp .Lt) (rI0 fun i j=>.bl (decide (i < j))):=ZrP fun _ _ _ _ _ _ _ q=>lt_int q
theorem Zvw:OpR X (compareOp .LtE) (rI0 fun i j=>.bl (decide (i <= j))):=ZrP fun _ _ _ _ _ _ _ q=>le_int q
theorem ZvF:OpR X (compareOp .Gt) (rI0 fun i j=>.bl (decide (j < i))):=ZrP fun _ _ _ _ _ _ _ q=>gt_int q
theorem Zuj:OpR X (compareOp .Is) (fun x y H Q=>y = .non/\Q (.bl (decide (x = .non))) H):=by
 intro pins s σ H x y v u Q I rx ry h
 obtain ⟨rfl,q⟩:=h
 cases ry
 refine is_none_gen (Zrq I q ?_)
 cases x <;> first
  | (cases rx; rfl)
  | (obtain ⟨t,rfl⟩:=rx; rfl)
theorem Zto:OpR X (compareOp .IsNot) (fun x y H Q=>y = .non/\Q (.bl (!decide (x = .non))) H):=by
 intro pins s σ H x y v u Q I rx ry h
 obtain ⟨rfl,q⟩:=h
 cases ry
 refine isnot_none_gen (Zrq I q ?_)
 cases x <;> first
  | (cases rx; rfl)
  | (obtain ⟨t,rfl⟩:=rx; rfl)
theorem Zo0 {op:CmpOp} {r:R2} (ho:OpR X (compareOp op) r) (ha:PE X a ta) (hb:PE X b tb) (hm:behindInMarks op b = false):PE X (.Compare a [op] [b] pos) (tOp r ta tb):=by
 intro pins s σ H Q I h
 exact wpAny_Compare1 (ZsU ha hb I h fun v u s2 x y H2 I2 rx ry q=>ho pins s2 σ H2 x y v u Q I2 rx ry q) hm
def Zs2 (t:TE):TT:=fun σ H Q=>t σ H fun x H'=>∃ k,x = .bl k/\Q k H'
theorem Zjx {op:CmpOp} {r:R2} (ho:OpR X (compareOp op) r) (ha:PE X a ta) (hb:PE X b tb) (hm:behindInMarks op b = false):PT X (.Compare a [op] [b] pos) (Zs2 (tOp r ta tb)):=by
 intro pins s σ H Q I h
 refine wpAny_isTrue_Compare1 (thn (ha pins s σ H _ I h) fun v s1 ⟨x,H1,I1,r1,q1⟩=>thn (hb pins s1 σ H1 _ I1 q1) fun u s2 ⟨y,H2,I2,r2,q2⟩ =>
  thn (ho pins s2 σ H2 x y v u _ I2 r1 r2 q2) fun c s3 ⟨z,H3,I3,r3,k,e,q3⟩=>?_) hm
 subst e
 cases r3
 exact wpAny_truthy_bool ⟨H3,I3,q3⟩
def Zrk (r r':R2) (ta tb tc:TE):TE:=fun σ H Q=>ta σ H fun x H1=>tb σ H1 fun y H2=>r x y H2 fun z H3=>∃ k,z = .bl k /\
 (if k = true then tc σ H3 fun w' H4=>r' y w' H4 Q else Q (.bl false) H3)
theorem Znx {op op':CmpOp} {r r':R2} (ho:OpR X (compareOp op) r) (ho':OpR X (compareOp op') r') (ha:PE X a ta) (hb:PE X b tb) (hc:PE X c tc)
  (hm:lastMarks [op,op'] [b,c] = false:=by with_unfolding_all rfl):PE X (.Compare a [op,op'] [b,c] pos) (Zrk r r' ta tb tc):=by
 intro pins s σ H Q I h
 refine Compare_chain (thn (ha pins s σ H _ I h) fun v s1 ⟨x,H1,I1,r1,q1⟩=>chain_link (thn (hb pins s1 σ H1 _ I1 q1) fun u s2 ⟨y,H2,I2,r2,q2⟩ =>
  thn (ho pins s2 σ H2 x y v u _ I2 r1 r2 q2) fun d s3 ⟨z,H3,I3,r3,k,e,q3⟩=>?_)) hm
 subst e
 cases r3
 refine wpAny_truthy_bool ?_
 cases k with
 | false=>exact ite_ff ⟨.bl false,H3,I3,rfl,q3⟩
 | true=>exact ite_tt (chain_last (thn (hc pins s3 σ H3 _ I3 q3) fun w' s4 ⟨z',H4,I4,r4,q4⟩=>ho' pins s4 σ H4 y z' u w' Q I4 r2 r4 q4))
theorem Znd {op op':CmpOp} {r r':R2} (ho:OpR X (compareOp op) r) (ho':OpR X (compareOp op') r') (ha:PE X a ta) (hb:PE X b tb) (hc:PE X c tc)
    (hm:lastMarks [op,op'] [b,c] = false:=by with_unfolding_all rfl):PT X (.Compare a [op,op'] [b,c] pos) (Zs2 (Zrk r r' ta tb tc)):=by
  intro pins s σ H Q I h
  refine isTrue_chain (thn (ha pins s σ H _ I h) fun v s1 ⟨x,H1,I1,r1,q1⟩=>test_link (thn (hb pins s1 σ H1 _ I1 q1) fun u s2 ⟨y,H2,I2,r2,q2⟩ =>
    thn (ho pins s2 σ H2 x y v u _ I2 r1 r2 q2) fun d s3 ⟨z,H3,I3,r3,k,e,q3⟩=>?_)) hm
  subst e
  cases r3
  refine wpAny_truthy_bool ?_
  cases k with
  | false =>
    obtain ⟨k',e',q'⟩:=q3
    cases e'
    exact ite_ff ⟨H3,I3,q'⟩
  | true =>
    refine ite_tt (test_last (thn (hc pins s3 σ H3 _ I3 q3) fun w' s4 ⟨z',H4,I4,r4,q4⟩=>thn (ho' pins s4 σ H4 y z' u w' _ I4 r2 r4 q4) fun d' s5 ⟨z2,H5,I5,r5,k2,e2,q5⟩=>?_))
    subst e2
    cases r5
    exact wpAny_truthy_bool ⟨H5,I5,q5⟩
theorem Zjl:(sizeLine:Nat) < 2 ^ 63:=by rw [sizeLine_eq]; decide
theorem vals1 {x:V} {us:List Value} (r:Vals [x] us):∃ u,us = [u]/\RelV x u:=by
 cases r with
 | cons r1 r2=>cases r2; exact ⟨_,rfl,r1⟩
theorem vals2 {x y:V} {us:List Value} (r:Vals [x,y] us):∃ u w',us = [u,w']/\RelV x u/\RelV y w':=by
  cases r with
  | cons r1 r2 =>
    cases r2 with
    | cons r3 r4=>cases r4; exact ⟨_,_,rfl,r1,r3⟩
theorem Zqr (hc:X.calm = true):Za7 X (.builtin "max") (fun xs H Q=>∃ i j,xs = [.int i,.int j]/\Q (.int (if j > i then j else i)) H):=by
 intro pins s σ H xs us Q I r h
 obtain ⟨i,j,rfl,q⟩:=h
 obtain ⟨u,w',rfl,⟨t,rfl⟩,⟨t',rfl⟩⟩:=vals2 r
 refine max_two_ints (I.ok.hd hc) fun h' tk k=>⟨_,H,I.kept k,?_,q⟩
 by_cases hj:j > i
 ·rw [if_pos hj,if_pos hj]; exact ⟨_,rfl⟩
 ·rw [if_neg hj,if_neg hj]; exact ⟨_,rfl⟩
theorem ZqO (hc:X.calm = true):Za7 X (.builtin "min") (fun xs H Q=>∃ i j,xs = [.int i,.int j]/\Q (.int (if j < i then j else i)) H):=by
 intro pins s σ H xs us Q I r h
 obtain ⟨i,j,rfl,q⟩:=h
 obtain ⟨u,w',rfl,⟨t,rfl⟩,⟨t',rfl⟩⟩:=vals2 r
 refine min_two_ints (I.ok.hd hc) fun h' tk k=>⟨_,H,I.kept k,?_,q⟩
 by_cases hj:j < i
 ·rw [if_pos hj,if_pos hj]; exact ⟨_,rfl⟩
 ·rw [if_neg hj,if_neg hj]; exact ⟨_,rfl⟩
theorem ZlO:Za7 X (.type "int") (fun xs H Q=>(∃ i,xs = [.int i]/\Q (.int i) H)\/∃ k,xs = [.bl k]/\Q (.int (if k then 1 else 0)) H):=by
 intro pins s σ H xs us Q I r h
 rcases h with ⟨i,rfl,q⟩ | ⟨k,rfl,q⟩
 ·obtain ⟨u,rfl,t,rfl⟩:=vals1 r
  exact call_int_int ⟨.int i,H,I,⟨_,rfl⟩,q⟩
 ·obtain ⟨u,rfl,r1⟩:=vals1 r
  cases r1
  exact call_int_bool ⟨.int (if k then 1 else 0),H,I.tok _,⟨_,rfl⟩,q⟩
end
end L2
namespace L2
open PySem PySem.Spec PyProof.Rows
theorem Zgt.some_of {v:V} {o:Option Value} (r:Zgt (some v) o):∃ u,o = some u/\RelV v u:=by
 cases o with
 | none=>exact (show False from r).elim
 | some u=>exact ⟨u,rfl,r⟩
end L2
namespace L2
open PySem PySem.Spec PyProof.Rows
structure ZaN (k:Nat) (A:Around):Prop where
 hd:A.handled = none
 dp:A.depth + 3 * k + 5 < recursionLimit
 un:A.units + 16 * k + 200 < cLine
theorem ZaN.mono {j k:Nat} {A:Around} (r:ZaN k A) (h:j <= k):ZaN j A:=⟨r.hd,by have:=r.dp; omega,by have:=r.un; omega⟩
theorem ZaN.deeper {k:Nat} {A:Around} (r:ZaN (k + 1) A) (env:Env):ZaN k (A.deeper env) :=
 ⟨r.hd,by have:=r.dp; show A.depth + 1 + 3 * k + 5 < _; omega,by have:=r.un; show A.units + 3 + 16 * k + 200 < _; omega⟩
theorem ZaN.depth {k:Nat} {A:Around} (r:ZaN k A):A.depth < recursionLimit:=by have:=r.dp; omega
theorem ZaN.units {k:Nat} {A:Around} (r:ZaN k A):A.units + 64 < cLine:=by have:=r.un; omega
def Zwk:TA:=fun _ H Q=>Q [] H
def Zvv (ta:TE) (tr:TA):TA:=fun σ H Q=>ta σ H fun x H1=>tr σ H1 fun xs H2=>Q (x :: xs) H2
section
variable {X:Cx} {e:Expr} {es:List Expr} {te:TE} {t:TA} {pos:Pos}
theorem ZbU:PA X [] Zwk:=fun _ _ _ _ H Q I h=>Calls.spliced_nil ⟨[],H,I,.nil,h⟩
theorem Zav (ha:PE X e te) (hr:PA X es t) (hs:starEach (e :: es) X.env = (false,eval e X.env) :: starEach es X.env:=by rfl):PA X (e :: es) (Zvv te t):=by
 intro pos pins s σ H Q I h
 rw [hs]
 show wpAny _ _ (spliced ((false,eval e X.env) :: backTo pos (starEach es X.env))) _ _ s
 refine Calls.spliced_cons (thn (ha pins s σ H _ I h) fun u s1 ⟨x,H1,I1,r1,q1⟩=>?_)
 exact thn (hr pos pins s1 σ H1 _ I1 q1) fun us s2 ⟨xs,H2,I2,r2,q2⟩=>⟨x :: xs,H2,I2,.cons r1 r2,q2⟩
def ZwC (t:TA):TE:=fun σ H Q=>t σ H fun xs H1=>xs.length <= sizeLine/\∀ p,H1 p = none->Q (.ref p) (upd H1 p (.tup xs))
def ZwB (t:TA):TE:=fun σ H Q=>t σ H fun xs H1=>xs.length <= sizeLine/\∀ p,H1 p = none->Q (.ref p) (upd H1 p (.lst xs))
theorem ZuG {x1} (h:PA X es t):PE X (.Tuple es x1 pos) (ZwC t):=by
 intro pins s σ H Q I hq
 refine wpAny_Tuple_spliced (thn (h pos pins s σ H _ I hq) fun us s1 ⟨xs,H1,I1,r,z,q⟩=>⟨by rw [<- r.length]; exact z,?_⟩)
 have hf:H1 s1.heap.objs.size = none:=I1.hok.fresh (Nat.le_refl _)
 refine ⟨.ref s1.heap.objs.size,upd H1 s1.heap.objs.size (.tup xs),I1.laid (t':=s1.toks) (fun b u e=>Heap.get?_push_of_some _ e) (Nat.le_refl _) ?_,rfl,q _ hf⟩
 exact ⟨z,us,r,⟨_,Heap.get?_push_size _ rfl,rfl,_,rfl⟩⟩
theorem Zva (h:PA X es t):PE X (.List es pos) (ZwB t):=by
 intro pins s σ H Q I hq
 refine wpAny_List_spliced (thn (h pos pins s σ H _ I hq) fun us s1 ⟨xs,H1,I1,r,z,q⟩=>⟨by rw [<- r.length]; exact z,?_⟩)
 have hf:H1 s1.heap.objs.size = none:=I1.hok.fresh (Nat.le_refl _)
 refine ⟨.ref s1.heap.objs.size,upd H1 s1.heap.objs.size (.lst xs),I1.laid (t':=s1.toks) (fun b u e=>Heap.get?_push_of_some _ e) (Nat.le_refl _) ?_,rfl,q _ hf⟩
 exact ⟨z,us,0,r,Heap.get?_push_size _ rfl⟩
end
abbrev Sp:=List V->Hp->VK->XK->Prop
abbrev CXT:=List Env->Hp->Shared->XK->Value->Shared->Prop
structure ZpA (P:Program) (w:World) (K:PySem.W.Frag) (mg:Str->Option Value) (base:Heap) (A:Around) (outer:List Env) (s:Shared) (H:Hp):Prop where
 frames:A.frames = some outer
 mod:Mod K mg base
 bs:∀ b o,base.get? b = some o->s.heap.get? b = some o/\H b = none
 bsz:base.objs.size <= s.heap.objs.size
 funs:s.heap.FunFrames base outer
 frf:∀ b ∈ frs outer,H b = none
 hok:HOk P w H s.heap
 bare:AllBare s.gens
def CE (outer:List Env) (P:Program) (w:World) (H:Hp) (s:Shared) (Q:VK) (u:Value) (s':Shared):Prop :=
 ∃ v H',s'.os = s.os/\AllBare s'.gens/\Un (frs outer) [] H H' s.heap s'.heap/\HOk P w H' s'.heap/\RelV v u/\Q v H'
def CR (CX:CXT) (outer:List Env) (P:Program) (w:World) (H:Hp) (s:Shared) (Q:VK) (E:XK) (r:Result) (s':Shared):Prop :=
 match r with
 | .ok (.ret u)=>CE outer P w H s Q u s'
 | .ok _=>False
 | .error e=>CX outer H s E e s'
structure Zen (P:Program) (w:World) (K:PySem.W.Frag) (mg:Str->Option Value) (base:Heap) (CX:CXT) (k:Nat) (f:Addr) (fd:FuncData) (ps:List Str) (sp:Sp):Prop where
 len:∀ vs H Q E,sp vs H Q E->vs.length = ps.length
 run:∀ (A:Around) (outer:List Env) (s:Shared) (H:Hp) (args:Args) (us:List Value) (vs:List V) (Q:VK) (E:XK),ZaN k A->ZpA P w K mg base A outer s H->BindsTo s fd args (ps.zip us)->Vals vs us->sp vs H Q E ->
  codeAny (model P w) A (.call (.ref f) args) (CR CX outer P w H s Q E) s
theorem Zen.mono {P:Program} {w:World} {K:PySem.W.Frag} {mg:Str->Option Value} {base:Heap} {CX:CXT} {j k:Nat} {f:Addr} {fd:FuncData} {ps:List Str} {sp:Sp} (F:Zen P w K mg base CX j f fd ps sp) (h:j <= k) :
  Zen P w K mg base CX k f fd ps sp:=⟨F.len,fun A outer s H args us vs Q E hr=>F.run A outer s H args us vs Q E (hr.mono h)⟩
section
variable {X:Cx} {pins:List (Addr × Obj)} {σ:St} {H:Hp} {s s':Shared}
theorem Inv.env0 (I:Inv X pins σ H s):ZpA X.prog X.w X.K X.mg X.base X.A X.stack s H :=
 ⟨I.ok.frames,I.ok.mod,I.bs,Nat.le_trans I.ok.bsz I.sz,I.stack,I.stkFree,I.hok,I.bare⟩
theorem Inv.after {Q:VK} {u:Value} (I:Inv X pins σ H s) (h:CE X.stack X.prog X.w H s Q u s'):EP X pins σ Q u s':=by
 obtain ⟨v,H',os,bare,un,hok,r,q⟩:=h
 obtain ⟨hh,g,d,t,os'⟩:=s'
 obtain rfl:os' = s.os:=os
 exact ⟨v,H',I.call (h':=hh) (g':=g) (d':=d) (t':=t) (ch:=[]) un hok bare (fun b z=>absurd z (by simp)),r,q⟩
end
def ZvR (sp:Sp) (dvs:List V) (E:XK) (t:TA):TE:=fun σ H Q=>t σ H fun vs H1=>sp (vs ++ dvs) H1 Q E
def Binds (K:PySem.W.Frag) (fd:FuncData) (ps:List Str) (ds:List Value):Prop :=
 ∀ (s:Shared) (us:List Value),K.In s.heap->(us ++ ds).length = ps.length->BindsTo s fd ⟨us,[]⟩ (ps.zip (us ++ ds))
theorem Binds.all {K:PySem.W.Frag} {fd:FuncData} {ps:List Str} (h:∀ us:List Value,us.length = ps.length->bindArgs fd ⟨us,[]⟩ = pure (ps.zip us)):Binds K fd ps []:=fun s us _ hl=>by
 rw [List.append_nil] at hl ⊢
 exact .of_eq (h us hl)
def Passes (CX:CXT) (X:Cx) (E:XK):Prop:=∀ (pins:List (Addr × Obj)) (σ:St) (H:Hp) (s:Shared) (e:Value) (s':Shared),Inv X pins σ H s->CX X.stack H s E e s'->X.xe e s'
section
variable {X:Cx} {CX:CXT} {k:Nat} {f C:Addr} {fd:FuncData} {ps:List Str} {sp:Sp} {dvs:List V} {ds:List Value} {E:XK} {x m:Str} {p pos apos:Pos} {e o:Expr} {es:List Expr} {ta:TE} {t:TA}
theorem Zup {pins:List (Addr × Obj)} {σ:St} {H:Hp} {s:Shared} {Q:VK} {us:List Value} {vs:List V} (F:Zen X.prog X.w X.K X.mg X.base CX k f fd ps sp) (hr:ZaN k X.A) (hb:Binds X.K fd ps ds) (hd:Vals dvs ds) (hx:Passes CX X E)
    (I:Inv X pins σ H s) (r:Vals vs us) (h:sp (vs ++ dvs) H Q E):wpAny (model X.prog X.w) X.A (call (.ref f) us) (EP X pins σ Q) X.xe s:=by
  have r2:Vals (vs ++ dvs) (us ++ ds):=r.append hd
  have hl:(us ++ ds).length = ps.length:=by rw [<- r2.length]; exact F.len _ _ _ _ h
  refine wpAny_call (codeAny_mono (F.run X.A X.stack s H ⟨us,[]⟩ (us ++ ds) (vs ++ dvs) Q E hr I.env0 (hb s us I.kIn hl) r2 h) fun r s' hq=>?_)
  cases r with
  | error e=>exact hx pins σ H s e s' I hq
  | ok fl =>
    cases fl with
    | ret u=>exact I.after hq
    | next=>exact False.elim hq
    | brk=>exact False.elim hq
    | cont=>exact False.elim hq
theorem ZhL (F:Zen X.prog X.w X.K X.mg X.base CX k f fd ps sp) (hr:ZaN k X.A) (hg:Gl X x) (hm:X.mg x = some (.ref f)) (hk:PySem.W.keepIn X.K (.ref f) = true) (hb:Binds X.K fd ps ds) (hd:Vals dvs ds) (hx:Passes CX X E)
  (ha:PA X (e :: es) t) (hdb:(x == ("__debug__":Str)) = false:=by decide) (he:starEach (e :: es) X.env = (false,eval e X.env) :: starEach es X.env:=by rfl) (hpl:(backTo pos (starEach es X.env)).any (·.1) = false:=by rfl) :
  PE X (.Call (.Name x p) (e :: es) [] pos) (ZvR sp dvs E t):=by
 intro pins s σ H Q I h
 refine wpAny_Call_Name_kw (Zpl I hg hm ?_ hdb)
 refine PySem.W.callWith_K (h₀:=X.base) I.ok.mod.kin hk (thn (ha pos pins s σ H _ I h) fun us s1 ⟨vs,H1,I1,r,q⟩=>⟨I1.kIn,?_⟩) he hpl
 exact Zup F hr hb hd hx I1 r q
end
structure ZB (N P:List Str) (sc:Scope):Prop where
 kind:sc.kind = .function
 co:sc.isCoroutine = false
 gen:sc.isGenerator = false
 nd:N.Nodup
 pre:N.take P.length = P
 par:∀ x ∈ P,sc.names.lookup x = some .local\/sc.names.lookup x = some .cell
 nofree:∀ y ∈ sc.names,y.2 ≠ .free
theorem ZlR {kindOf:Str->Option NameKind} {x:Str}:∀ {binds:List (Str × Value)} {m:Str->Option Value},(∀ v,(x,v) ∉ binds)->bindL kindOf binds m x = m x
  | [],_,_=>rfl
  | (n, v) :: r, m, h => by
    unfold bindL
    rw [ZlR fun w hw=>h w (List.mem_cons_of_mem _ hw)]
    split
    · have : x ≠ n := by rintro rfl; exact h v List.mem_cons_self
      simp [this]
    · rfl
theorem ZlJ {kindOf:Str->Option NameKind} {x:Str}:∀ {binds:List (Str × Value)} {m:Str->Option Value},(∀ v,(x,v) ∉ binds)->bindC kindOf binds m x = m x
  | [],_,_=>rfl
  | (n, v) :: r, m, h => by
    unfold bindC
    rw [ZlJ fun w hw=>h w (List.mem_cons_of_mem _ hw)]
    split
    · rfl
    · have : x ≠ n := by rintro rfl; exact h v List.mem_cons_self
      simp [this]
theorem ZlB {kindOf:Str->Option NameKind} {x:Str} {v:Value}:∀ {P:List Str} {vs:List Value} {i:Nat} {m:Str->Option Value},P.Nodup->P[i]? = some x->vs[i]? = some v->kindOf x = some .local ->
    bindL kindOf (P.zip vs) m x = some v
  | [],_,_,_,_,h,_,_=>by simp at h
  | _ :: _,[],_,_,_,_,h,_=>by simp at h
  | p :: P, w :: vs, 0, m, nd, h1, h2, hk => by
    simp at h1 h2; subst h1; subst h2
    show bindL kindOf ((p,w) :: P.zip vs) m p = _
    unfold bindL
    rw [ZlR fun v hv=>(List.nodup_cons.mp nd).1 (List.of_mem_zip hv).1,if_pos hk]
    simp
  | p :: P, w :: vs, i + 1, m, nd, h1, h2, hk => by
    show bindL kindOf ((p,w) :: P.zip vs) m x = _
    unfold bindL
    exact ZlB (i:=i) (List.nodup_cons.mp nd).2 (by simpa using h1) (by simpa using h2) hk
theorem ZlH {kindOf:Str->Option NameKind} {x:Str} {v:Value}:∀ {P:List Str} {vs:List Value} {i:Nat} {m:Str->Option Value},P.Nodup->P[i]? = some x->vs[i]? = some v->kindOf x ≠ some .local ->
    bindC kindOf (P.zip vs) m x = some v
  | [],_,_,_,_,h,_,_=>by simp at h
  | _ :: _,[],_,_,_,_,h,_=>by simp at h
  | p :: P, w :: vs, 0, m, nd, h1, h2, hk => by
    simp at h1 h2; subst h1; subst h2
    show bindC kindOf ((p,w) :: P.zip vs) m p = _
    unfold bindC
    rw [ZlJ fun v hv=>(List.nodup_cons.mp nd).1 (List.of_mem_zip hv).1,if_neg hk]
    simp
  | p :: P, w :: vs, i + 1, m, nd, h1, h2, hk => by
    show bindC kindOf ((p,w) :: P.zip vs) m x = _
    unfold bindC
    exact ZlH (i:=i) (List.nodup_cons.mp nd).2 (by simpa using h1) (by simpa using h2) hk
def start (N:List Str) (vs:List V):St:=vs.map some ++ List.replicate (N.length - vs.length) none
def Zii (CX:CXT) (P:Program) (w:World) (K:PySem.W.Frag) (mg:Str->Option Value) (base:Heap) (N:List Str) (qual:Str) (scope:Scope) (f:Addr) (cd:Value) (A:Around) (outer:List Env) (s:Shared) (H:Hp) (E:XK):Cx where
 prog:=P
 w:=w
 K:=K
 mg:=mg
 base:=base
 A:=A.deeper (envOfC qual scope s.heap.objs.size f cd)
 N:=N
 s₀:=s
 H₀:=H
 env:=envOfC qual scope s.heap.objs.size f cd
 outer:=outer
 stack:=envOfC qual scope s.heap.objs.size f cd :: outer
 ex:=[]
 calm:=true
 fn:=fun _=>true
 pn:=[]
 xe:=fun e s'=>wpAny (model P w) (A.deeper (envOfC qual scope s.heap.objs.size f cd)) (leaving (envOfC qual scope s.heap.objs.size f cd) e) (fun _ s''=>CX outer H s E e s'') (fun e' s''=>CX outer H s E e' s'') s'
theorem Zob {sc:Scope} {n:Nat} {x:Str} (h:sc.names.lookup x = some .cell):∃ c,(cellsFrom n sc.names []).lookup x = some c:=by
 have q:=PySem.W.cellsFrom_some sc.names n [] (.inl h)
 exact Option.isSome_iff_exists.mp q
theorem ZrA {CX:CXT} {P:Program} {w:World} {K:PySem.W.Frag} {mg:Str->Option Value} {base:Heap} {N ps:List Str} {qual:Str} {scope:Scope} {f:Addr} {cd:Value} {A:Around} {outer:List Env} {s s1:Shared} {H:Hp} {E:XK} {us:List Value} {vs:List V}
  (S:ZB N ps scope) (hd:A.handled = none) (e0:ZpA P w K mg base A outer s H) (hl:vs.length = ps.length) (r:Vals vs us)
  (x:InCallC s s.heap.objs.size (bindL (envOfC qual scope s.heap.objs.size f cd).kindOf (ps.zip us) fun _=>none) (cellsFrom (s.heap.objs.size + 1) scope.names []) (bindC (envOfC qual scope s.heap.objs.size f cd).kindOf (ps.zip us) fun _=>none) s1) :
  Inv (Zii CX P w K mg base N qual scope f cd A outer s H E) [] (start N vs) H s1:=by
 have hpl:ps.length <= N.length:=by have:=congrArg List.length S.pre; rw [List.length_take] at this; omega
 obtain ⟨h1,tk,rfl,hk⟩:=x.done
 have noA:∀ b:Addr,b ∉ (Zii CX P w K mg base N qual scope f cd A outer s H E).ex:=fun b z=>absurd (show b ∈ ([]:List Addr) from z) (by simp)
 refine ⟨⟨e0.mod,S.kind,rfl,rfl,Nat.le_refl _,fun y z c h1 h2=>?_,fun y hy=>?_,fun y c _ h=>?_,fun _=>hd,Around.frames_deeper e0.frames,.inr ⟨rfl,rfl⟩,fun b z=>absurd z (noA b),e0.bs,e0.bsz,fun b _ _=>noA b,fun b z=>absurd z (noA b),e0.funs,e0.frf⟩,
  rfl,e0.bare,Un.kept hk,⟨_,x.toInCall.ns,fun i y v h1 h2 h3=>?_⟩,fun y c h=>⟨_,x.cell y c h⟩,e0.hok.fresh (Nat.le_refl _),fun y c h=>?_,fun p hp=>absurd (show p ∈ ([]:List (Addr × Obj)) from hp) (by simp),e0.hok.kept hk,?_⟩
 ·exact name_of_addr x.apart (PySem.mem_of_lookup h1) (PySem.mem_of_lookup h2)
 ·have hy:scope.names.lookup y = some .cell\/scope.names.lookup y = some .free:=hy
  rcases hy with hy | hy
  ·exact Zob hy
  ·exact absurd rfl (S.nofree _ (PySem.mem_of_lookup hy))
 ·exact Nat.le_of_lt (x.above y c (PySem.mem_of_lookup h))
 ·have hi:i < vs.length:=by
   unfold start at h2
   by_cases hi:i < vs.length
   ·exact hi
   ·rw [List.getElem?_append_right (by simpa using hi)] at h2
    rw [List.getElem?_replicate] at h2
    split at h2 <;> cases h2
  have ha:vs[i]? = some v:=by
   unfold start at h2
   rw [List.getElem?_append_left (by simpa using hi),List.getElem?_map] at h2
   cases e:vs[i]? with
   | none=>rw [e] at h2; cases h2
   | some a=>rw [e] at h2; cases h2; rfl
  obtain ⟨u,hu,rv⟩:=r.get ha
  have hp:ps[i]? = some y:=by
   rw [<- S.pre,List.getElem?_take_of_lt (by omega)]; exact h1
  have ndP:ps.Nodup:=by rw [<- S.pre]; exact S.nd.sublist (List.take_sublist _ _)
  refine ⟨u,rv,?_⟩
  rcases S.par y (List.mem_of_getElem? hp) with k | k
  ·exact .inl ⟨k,ZlB ndP hp hu k⟩
  ·obtain ⟨c,e⟩:=Zob (n:=s.heap.objs.size + 1) k
   refine .inr ⟨.inl k,c,e,?_⟩
   have q:=x.cell y c e
   rw [ZlH ndP hp hu (by show scope.names.lookup y ≠ _; rw [k]; decide)] at q
   exact q
 ·exact e0.hok.fresh (Nat.le_of_lt (x.above y c (PySem.mem_of_lookup h)))
 ·unfold start
  show _ = N.length
  rw [List.length_append,List.length_map,List.length_replicate]
  omega
theorem ZvI {CX:CXT} {P:Program} {w:World} {K:PySem.W.Frag} {mg:Str->Option Value} {base:Heap} {k:Nat} {f:Addr} {name qual:Str} {params:Arguments} {body:List Stmt} {scope:Scope} {dV kV doc pm cdv ct oc:Value} {an od:Option Addr}
    {osl:Array (Option Value)} {N ps:List Str} {sp:Sp} (lk:K.lookup f = some ⟨oc,od,.func (PySem.W.fnOf name qual params body scope dV kV doc pm an cdv ct),osl⟩) (hcd:PySem.W.codeIn K cdv qual = true) (S:ZB N ps scope)
    (len:∀ vs H Q E,sp vs H Q E->vs.length = ps.length)
    (hbody:∀ (A:Around) (outer:List Env) (s:Shared) (H:Hp) (vs:List V) (Q:VK) (E:XK),ZaN k (A.deeper (envOfC qual scope s.heap.objs.size f cdv))->sp vs H Q E ->
      ∃ t,PSs (Zii CX P w K mg base N qual scope f cdv A outer s H E) body t/\t { nx:=fun _ H'=>Q .non H',rt:=Q } (start N vs) H) :
    Zen P w K mg base CX (k + 1) f (PySem.W.fnOf name qual params body scope dV kV doc pm an cdv ct) ps sp:=by
  refine ⟨len,fun A outer s H args us vs Q E hr e0 hb r hsp=>?_⟩
  have hl:=len _ _ _ _ hsp
  have KX:K.In s.heap:=e0.mod.kin.keeps fun b o e=>(e0.bs b o e).1
  have lim:s.heap.NoLimit:=e0.mod.nolimit.keeps fun b o e=>(e0.bs b o e).1
  have hkind:∀ y ∈ ps.zip us,scope.names.lookup y.1 = some .local\/(scope.names.lookup y.1 = some .cell/\((cellsFrom (s.heap.objs.size + 1) scope.names []).lookup y.1).isSome = true):=fun ⟨n,v⟩ hy=>by
    rcases S.par n (List.of_mem_zip hy).1 with q | q
    · exact .inl q
    · exact .inr ⟨q,PySem.W.cellsFrom_some _ _ _ (.inl q)⟩
  refine codeAny_call_function hr.depth (KX _ _ lk) rfl S.co S.gen rfl (PySem.W.codeRec_of KX hcd) (hb _ _ _ _ ?_)
  refine wpAny_newFunctionEnv_cells S.kind hkind fun env he s1 x=>?_
  subst he
  refine ⟨lim.keeps x.toInCall.keep,codeAny_func ?_⟩
  obtain ⟨t,ht,hq⟩:=hbody A outer s H vs Q E (hr.deeper _) hsp
  have I:Inv (Zii CX P w K mg base N qual scope f cdv A outer s H E) [] (start N vs) H s1:=ZrA S hr.hd e0 hl r x
  refine wpAny_mono (ht [] s1 (start N vs) H _ I hq) (fun fl s' hs=>?_) fun e s' hs=>hs
  have fin:∀ {σ':St} {H':Hp} {v:V} {u:Value},Inv (Zii CX P w K mg base N qual scope f cdv A outer s H E) [] σ' H' s'->RelV v u->Q v H'->CE outer P w H s Q u s' :=
    fun {σ' H' v u} J rv q=>⟨v,H',J.os,J.bare,J.base,J.hok,rv,q⟩
  cases fl with
  | ret u =>
    obtain ⟨v,σ',H',J,rv,q⟩:=hs
    exact fin J rv q
  | next =>
    obtain ⟨σ',H',J,q⟩:=hs
    exact fin (v:=V.non) (u:=Value.none) J rfl q
  | brk =>
    obtain ⟨_,_,_,q⟩:=hs
    exact False.elim q
  | cont =>
    obtain ⟨_,_,_,q⟩:=hs
    exact False.elim q
end L2
namespace L2
open PySem PySem.Spec PyProof.Rows
section
variable {X:Cx} {x:Str} {p pos:Pos} {e:Expr} {es:List Expr} {t:TA} {id T:String} {r:List V->Hp->VK->Prop}
def tCB (r:List V->Hp->VK->Prop) (t:TA):TE:=fun σ H Q=>t σ H fun vs H1=>r vs H1 Q
theorem Zd0 (hc:Za7 X (.builtin id) r) (hg:Gl X x) (hm:X.mg x = none) (hv:bootBuiltins x = some (.builtin id)) (ha:PA X (e :: es) t) (hn:x ≠ "__name__":=by decide) (hdb:(x == ("__debug__":Str)) = false:=by decide)
  (he:starEach (e :: es) X.env = (false,eval e X.env) :: starEach es X.env:=by rfl) (hpl:(backTo pos (starEach es X.env)).any (·.1) = false:=by rfl):PE X (.Call (.Name x p) (e :: es) [] pos) (tCB r t):=by
 intro pins s σ H Q I h
 refine wpAny_Call_Name_kw (Zjm I hg hm hv ?_ hn hdb)
 exact PyProof.Rows.callWith_builtin1 (thn (ha pos pins s σ H _ I h) fun us s1 ⟨vs,H1,I1,r1,q1⟩=>hc pins s1 σ H1 vs us Q I1 r1 q1) he hpl
theorem ZdX (hc:Za7 X (.type T) r) (hg:Gl X x) (hm:X.mg x = none) (hv:bootBuiltins x = some (.type T)) (ha:PA X (e :: es) t) (hn:x ≠ "__name__":=by decide) (hdb:(x == ("__debug__":Str)) = false:=by decide)
  (he:starEach (e :: es) X.env = (false,eval e X.env) :: starEach es X.env:=by rfl) (hpl:(backTo pos (starEach es X.env)).any (·.1) = false:=by rfl):PE X (.Call (.Name x p) (e :: es) [] pos) (tCB r t):=by
 intro pins s σ H Q I h
 refine wpAny_Call_Name_kw (Zjm I hg hm hv ?_ hn hdb)
 exact PyProof.Rows.callWith_type1 (thn (ha pos pins s σ H _ I h) fun us s1 ⟨vs,H1,I1,r1,q1⟩=>hc pins s1 σ H1 vs us Q I1 r1 q1) he hpl
end
end L2
namespace HT
set_option maxHeartbeats 8000000
open PySem PyProof.Rows
section
open PySem.SeqAt
open PySem.AutoSeq1 (wpAny_loadPart')
open PySem.MeetsSeq PySem.MeetsSeq2 PySem.MeetsSeq3
end
section
variable {prog:Program} {w:World} {A:Around} {E:Value->Shared->Prop} {s:Shared}
def sIx (n d:Nat):Option Int->Nat
 | none=>d
 | some v=>if v < 0 then (v + (n:Int)).toNat else min v.toNat n
end
end HT
namespace L2
open PySem PySem.Spec PyProof.Rows
abbrev TO:=St->Hp->(Option Int->Hp->Prop)->Prop
def PO (X:Cx) (e:Option Expr) (t:TO):Prop :=
 ∀ (pins:List (Addr × Obj)) (s:Shared) (σ:St) (H:Hp) (Q:Option Int->Hp->Prop),Inv X pins σ H s->t σ H Q ->
  wpAny (model X.prog X.w) X.A (evalPart e X.env) (fun u s'=>∃ o H',Inv X pins σ H' s'/\IsPart u o/\Q o H') X.xe s
def ZtE:TO:=fun _ H Q=>Q none H
def ZvQ (t:TE):TO:=fun σ H Q=>t σ H fun x H1=>∃ i,x = .int i/\Q (some i) H1
section
variable {X:Cx} {e:Expr} {te:TE} {lo hi:Option Expr} {tl th:TO} {pos p2:Pos}
theorem Ztt:PO X none ZtE:=by
 intro pins s σ H Q I h
 rw [evalPart_none]
 exact wpAny_pure ⟨none,H,I,.none,h⟩
theorem Ztg (h:PE X e te):PO X (some e) (ZvQ te):=by
 intro pins s σ H Q I hw
 rw [evalPart_some]
 refine thn (h pins s σ H _ I hw) fun u s1 ⟨x,H1,I1,r1,q1⟩=>?_
 obtain ⟨i,rfl,q⟩:=q1
 obtain ⟨t,rfl⟩:=r1
 exact ⟨some i,H1,I1,.int i t,q⟩
def SlR (X:Cx) (r:V->Option Int->Option Int->Hp->VK->Prop):Prop :=
 ∀ (pins:List (Addr × Obj)) (s:Shared) (σ:St) (H:Hp) (x:V) (v vl vu:Value) (lo hi:Option Int) (sl:Addr) (Q:VK),Inv X pins σ H s->RelV x v->s.heap.IsSliceOf sl vl vu .none->IsPart vl lo->IsPart vu hi->r x lo hi H Q ->
  ∃ T id,typeLookup (.type T) "__getitem__" = pure (some (.builtin id))/\s.TypeIs v T/\wpAny (model X.prog X.w) X.A (getItem v (.ref sl)) (EP X pins σ Q) X.xe s
def tSl (r:V->Option Int->Option Int->Hp->VK->Prop) (te:TE) (tl th:TO):TE:=fun σ H Q=>te σ H fun x H1=>tl σ H1 fun l H2=>th σ H2 fun u H3=>r x l u H3 Q
theorem Zsd {r:V->Option Int->Option Int->Hp->VK->Prop} (hr:SlR X r) (he:PE X e te) (hl:PO X lo tl) (hu:PO X hi th):PE X (.Subscript e (.Slice lo hi none p2) pos) (tSl r te tl th):=by
 intro pins s σ H Q I h
 refine Subscript_ (thn (he pins s σ H _ I h) fun v s1 ⟨x,H1,I1,r1,q1⟩=>?_)
 refine wpAny_Slice (thn (hl pins s1 σ H1 _ I1 q1) fun vl s2 ⟨l,H2,I2,pl,q2⟩=>thn (hu pins s2 σ H2 _ I2 q2) fun vu s3 ⟨u,H3,I3,pu,q3⟩=>?_)
 rw [evalPart_none]
 refine wpAny_pure ?_
 have I4:Inv X pins σ H3 { s3 with heap:=s3.heap.push { cls:=.type "slice",data:=.fields #[vl,vu,.none] } }:=I3.kept (t':=s3.toks) fun b ob q=>Heap.get?_push_of_some _ q
 obtain ⟨T,id,hT,ht,hg⟩:=hr pins { s3 with heap:=s3.heap.push { cls:=.type "slice",data:=.fields #[vl,vu,.none] } } σ H3 x v vl vu l u s3.heap.objs.size Q I4 r1 (Heap.IsSliceOf.new ..) pl pu q3
 show wpAny (model X.prog X.w) X.A (subscriptTail e (.Slice lo hi none p2) v (.ref s3.heap.objs.size)) (EP X pins σ Q) X.xe { s3 with heap:=s3.heap.push { cls:=.type "slice",data:=.fields #[vl,vu,.none] } }
 exact tail_any (ops:=[.ref s3.heap.objs.size,v]) ht hT hg (by with_unfolding_all rfl)
def Zn7 (xs:List V) (lo hi:Option Int):List V:=(xs.drop (HT.sIx xs.length 0 lo)).take (HT.sIx xs.length xs.length hi - HT.sIx xs.length 0 lo)
theorem ZoD (xs:List V) (lo hi:Option Int):(Zn7 xs lo hi).length <= xs.length:=by
 unfold Zn7
 rw [List.length_take,List.length_drop]
 omega
end
end L2
namespace L2
open PySem PySem.Spec PyProof.Rows
def ixN (n:Nat) (i:Int):Option Nat:=if 0 <= i then (if i < n then some i.toNat else none) else if -(n:Int) <= i then some (i + n).toNat else none
def atI {α:Type} (xs:List α) (i:Int):Option α:=(ixN xs.length i).bind fun j=>xs[j]?
theorem Zpk {n:Nat} {i:Int} {j:Nat} (h:ixN n i = some j):seqIndex? i n = some j/\j < n/\-(n:Int) <= i/\i < n:=by
 unfold ixN at h
 by_cases h0:0 <= i
 ·rw [if_pos h0] at h
  by_cases h1:i < n
  ·rw [if_pos h1] at h
   have e:i.toNat = j:=Option.some.inj h
   exact ⟨by rw [seqIndex_of h0 h1,e],by omega,by omega,h1⟩
  ·rw [if_neg h1] at h; cases h
 ·rw [if_neg h0] at h
  by_cases h1:-(n:Int) <= i
  ·rw [if_pos h1] at h
   have e:(i + n).toNat = j:=Option.some.inj h
   exact ⟨by rw [seqIndex_neg (by omega) h1,e],by omega,h1,by omega⟩
  ·rw [if_neg h1] at h; cases h
theorem Zlj {α:Type} {xs:List α} {i:Int} {v:α} (h:atI xs i = some v):∃ j,seqIndex? i xs.length = some j/\xs[j]? = some v/\j < xs.length/\-(xs.length:Int) <= i/\i < xs.length:=by
  unfold atI at h
  cases e:ixN xs.length i with
  | none=>rw [e] at h; cases h
  | some j =>
    rw [e] at h
    obtain ⟨h1,h2,h3,h4⟩:=Zpk e
    exact ⟨j,h1,h,h2,h3,h4⟩
def Zpd (b:Expr):Prop:=∀ o i,subscripted b false o i = operate [o,i] (getItem o i)
def IxR (X:Cx) (r:R2):Prop :=
 ∀ (value slice:Expr) (pins:List (Addr × Obj)) (s:Shared) (σ:St) (H:Hp) (x y:V) (v u:Value) (Q:VK),Inv X pins σ H s->RelV x v->RelV y u->r x y H Q ->
  subscripted slice false v u = operate [v,u] (getItem v u)->wpAny (model X.prog X.w) X.A (subscriptTail value slice v u) (EP X pins σ Q) X.xe s
def MtR (X:Cx) (id:String) (r:V->List V->Hp->VK->Prop):Prop :=
 ∀ (pins:List (Addr × Obj)) (s:Shared) (σ:St) (H:Hp) (x:V) (xs:List V) (v:Value) (us:List Value) (Q:VK),Inv X pins σ H s->RelV x v->Vals xs us->r x xs H Q ->
  wpAny (model X.prog X.w) X.A (call (.builtin id) (v :: us)) (EP X pins σ Q) X.xe s
section
variable {X:Cx} {a b:Expr} {ta tb:TE} {pos:Pos}
theorem IxR.or {r r':R2} (h:IxR X r) (h':IxR X r'):IxR X (fun x y H Q=>r x y H Q\/r' x y H Q):=by
 intro value slice pins s σ H x y v u Q I rx ry q hs
 rcases q with q | q
 ·exact h value slice pins s σ H x y v u Q I rx ry q hs
 ·exact h' value slice pins s σ H x y v u Q I rx ry q hs
theorem ZvE {r:R2} (hr:IxR X r) (ha:PE X a ta) (hb:PE X b tb) (hs:Zpd b):PE X (.Subscript a b pos) (tOp r ta tb):=by
 intro pins s σ H Q I h
 exact Subscript_ (ZsU ha hb I h fun v u s2 x y H2 I2 rx ry q=>hr a b pins s2 σ H2 x y v u Q I2 rx ry q (hs _ _))
def Zuy (K:PySem.W.Frag):R2:=fun x y H Q=>∃ p xs i v,x = .ref p/\y = .int i/\SqL K H p xs/\atI xs i = some v/\Q v H
def Zuq (K:PySem.W.Frag):R2:=fun x y H Q=>∃ p xs i v,x = .ref p/\y = .int i/\SqT K H p xs/\atI xs i = some v/\Q v H
def ZuV:R2:=fun x y H Q=>∃ z i c,x = .str z/\y = .int i/\z.length <= sizeLine/\atI z.cps.toList i = some c/\Q (.str ⟨#[c]⟩) H
theorem ZtO:IxR X (Zuy X.K):=by
 intro value slice pins s σ H x y v u Q I rx ry h hs
 obtain ⟨p,xs,i,z,rfl,rfl,hq,he,q⟩:=h
 cases rx
 obtain ⟨t,rfl⟩:=ry
 obtain ⟨its,r,pl,hz⟩:=I.list hq
 obtain ⟨j,h1,h2,h3,h4,h5⟩:=Zlj he
 obtain ⟨w,ew,rw'⟩:=r.get h2
 have hl:=r.length
 have hn:=Zjl
 have fin:EP X pins σ Q w s:=⟨z,H,I,rw',q⟩
 by_cases h0:0 <= i
 ·have hj:i.toNat = j:=by
   rw [seqIndex_of h0 h5] at h1
   exact Option.some.inj h1
  exact item_listR pl.isList h0 (by omega) (by rw [hj]; simpa using ew) fin hs
 ·have hj:(i + (its.toArray.size:Int)).toNat = j:=by
   rw [seqIndex_neg (by omega) h4] at h1
   rw [List.size_toArray,<- hl]
   exact Option.some.inj h1
  exact subscriptTail_builtinR (x:=w) pl.isList.typeIs slot_list_getitem.lookup
   (wpAny_getItem_list_neg (Q:=fun r s'=>r = w/\EP X pins σ Q r s') pl.isList (by omega) (by rw [List.size_toArray] <;> omega) (by omega) (by rw [hj]; simpa using ew) ⟨rfl,fin⟩) hs
theorem ZuD:IxR X (Zuq X.K):=by
 intro value slice pins s σ H x y v u Q I rx ry h hs
 obtain ⟨p,xs,i,z,rfl,rfl,hq,he,q⟩:=h
 cases rx
 obtain ⟨t,rfl⟩:=ry
 obtain ⟨its,r,pl,hz⟩:=I.tuple hq
 obtain ⟨j,h1,h2,h3,h4,h5⟩:=Zlj he
 obtain ⟨w,ew,rw'⟩:=r.get h2
 have hl:=r.length
 have hn:=Zjl
 have fin:EP X pins σ Q w s:=⟨z,H,I,rw',q⟩
 exact subscriptTail_builtinR (x:=w) pl.typeIs slot_tuple_getitem.lookup
  (getItem_tuple (j:=j) (Q:=fun r s'=>r = w/\EP X pins σ Q r s') pl (by omega) (by omega) (by rw [List.size_toArray,<- hl]; exact h1) (by simpa using ew) ⟨rfl,fin⟩) hs
theorem Zvj:IxR X ZuV:=by
 intro value slice pins s σ H x y v u Q I rx ry h hs
 obtain ⟨z,i,c,rfl,rfl,hz,he,q⟩:=h
 obtain ⟨t,rfl⟩:=rx
 obtain ⟨t',rfl⟩:=ry
 obtain ⟨j,h1,h2,h3,h4,h5⟩:=Zlj he
 have hl:z.cps.toList.length = z.length:=by simp [Str.length]
 rw [hl] at h1 h4 h5
 have hn:=Zjl
 exact tail_any (typeIs_str s z t) slot_str_getitem.lookup (getItem_str (c:=c) (by
  have e1:decide (i < -(2 ^ 63:Int)) = false:=decide_eq_false (by omega)
  have e2:decide (i ≥ 2 ^ 63) = false:=decide_eq_false (by omega)
  rw [e1,e2,Bool.or_false]) (by rw [h1]; simpa using h2) ⟨.str ⟨#[c]⟩,H,I.tok _,⟨_,rfl⟩,q⟩) hs
def rIx (K:PySem.W.Frag):R2:=fun x y H Q=>Zuy K x y H Q\/Zuq K x y H Q\/ZuV x y H Q
theorem Zuk:IxR X (rIx X.K):=ZtO.or (ZuD.or Zvj)
theorem Zp3 (its:List Value) (n j:Nat) (u:Value):Obj.mapSeq (·.setIfInBounds j u) { cls:=.type "list",data:=.seq its.toArray n } = { cls:=.type "list",data:=.seq (its.set j u).toArray n }:=by
 simp [Obj.mapSeq]
theorem Inv.lst {pins:List (Addr × Obj)} {σ:St} {H:Hp} {s:Shared} {p:Addr} {xs:List V} (I:Inv X pins σ H s) (h:H p = some (.lst xs)) :
  ∃ (its:List Value) (n:Nat),Vals xs its/\s.heap.get? p = some { cls:=.type "list",data:=.seq its.toArray n }/\xs.length <= sizeLine:=by
 obtain ⟨z,its,n,r,e⟩:=I.hok p _ h
 exact ⟨its,n,r,e,z⟩
theorem Inv.lstUpd {pins:List (Addr × Obj)} {σ:St} {H:Hp} {s:Shared} {p:Addr} {xs ys:List V} {its its':List Value} {n n':Nat} {f:Obj->Obj} (I:Inv X pins σ H s) (h:H p = some (.lst xs))
  (ho:s.heap.get? p = some { cls:=.type "list",data:=.seq its.toArray n }) (hf:f { cls:=.type "list",data:=.seq its.toArray n } = { cls:=.type "list",data:=.seq its'.toArray n' }) (r:Vals ys its') (hz:ys.length <= sizeLine) (t:Nat) :
  Inv X pins σ (upd H p (.lst ys)) { s with heap:=s.heap.update p f,toks:=t }:=by
 have e:(s.heap.update p f).get? p = some { cls:=.type "list",data:=.seq its'.toArray n' }:=by
  rw [Heap.get?_update_self f ho (by rw [hf] <;> rfl),hf]
 refine I.write (x:=p) (e:=p) (by rw [h]; trivial) (.inl rfl) (fun b u hb q=>(Heap.get?_update_other _ _ (Ne.symm hb)).trans q) ⟨_,e⟩ ?_
 exact ⟨hz,its',n',r,e⟩
def Zvz:V->V->V->Hp->(Hp->Prop)->Prop:=fun o i v H Q=>∃ p xs k j,o = .ref p/\i = .int k/\H p = some (.lst xs)/\ixN xs.length k = some j/\Q (upd H p (.lst (xs.set j v)))
theorem set_list:Zu9 X Zvz:=by
 intro pins s σ H o i v ov iv u Q I ro ri rv h
 obtain ⟨p,xs,k,j,rfl,rfl,hp,hj,q⟩:=h
 cases ro
 obtain ⟨t,rfl⟩:=ri
 obtain ⟨its,n,r,ho,hz⟩:=I.lst hp
 obtain ⟨h1,h2,h3,h4⟩:=Zpk hj
 have hl:=r.length
 have hn:=Zjl
 have I':Inv X pins σ (upd H p (.lst (xs.set j v))) { s with heap:=s.heap.update p (Obj.mapSeq (·.setIfInBounds j u)) } :=
  I.lstUpd hp ho (Zp3 its n j u) (r.set rv j) (by rw [List.length_set]; exact hz) s.toks
 by_cases h0:0 <= k
 ·have hk:k.toNat = j:=by
   rw [seqIndex_of h0 h4] at h1
   exact Option.some.inj h1
  exact PySem.W.ki_setAt ho h0 (by omega) (by rw [List.size_toArray,<- hl]; exact h4) (by rw [hk]; exact ⟨_,I',q⟩)
 ·have hk:(k + (its.toArray.size:Int)).toNat = j:=by
   rw [seqIndex_neg (by omega) h3] at h1
   rw [List.size_toArray,<- hl]
   exact Option.some.inj h1
  exact PySem.W.ki_setBack ho (by omega) (by rw [List.size_toArray,<- hl]; exact h3) (by omega) (by rw [hk]; exact ⟨_,I',q⟩)
theorem Zns (lo hi:Option Int) (n:Nat):(sliceBounds lo hi none n).1 = ((HT.sIx n 0 lo:Nat):Int)/\(sliceBounds lo hi none n).2.1 = ((HT.sIx n n hi:Nat):Int)/\(sliceBounds lo hi none n).2.2 = 1:=by
  refine ⟨?_,?_,rfl⟩
  · cases lo with
    | none=>simp [sliceBounds,HT.sIx]
    | some i =>
      simp only [sliceBounds,HT.sIx,Option.getD_none,show (1:Int) > 0 by decide,if_true]
      by_cases h:i < 0
      · simp only [h,if_true] <;> omega
      · simp only [h,if_false] <;> omega
  · cases hi with
    | none=>simp [sliceBounds,HT.sIx]
    | some i =>
      simp only [sliceBounds,HT.sIx,Option.getD_none,show (1:Int) > 0 by decide,if_true]
      by_cases h:i < 0
      · simp only [h,if_true] <;> omega
      · simp only [h,if_false] <;> omega
theorem Zmk (its:List Value) (lo hi:Option Int):slicePick its.toArray lo hi none = ((its.drop (HT.sIx its.length 0 lo)).take (HT.sIx its.length its.length hi - HT.sIx its.length 0 lo)).toArray:=by
 obtain ⟨h1,h2,h3⟩:=Zns lo hi its.toArray.size
 unfold slicePick
 rw [h1,h2,h3]
 simp only [sliceRange_one,pick_run,List.size_toArray] <;> rfl
def Zwv (K:PySem.W.Frag):V->Option Int->Option Int->Hp->VK->Prop:=fun x lo hi H Q=>∃ a xs,x = .ref a/\SqL K H a xs/\∀ p,H p = none->Q (.ref p) (upd H p (.lst (Zn7 xs lo hi)))
theorem Ztw:SlR X (Zwv X.K):=by
 intro pins s σ H x v vl vu lo hi sl Q I rx hs pl pu h
 obtain ⟨a,xs,rfl,hx,q⟩:=h
 cases rx
 obtain ⟨its,r,ht,hz⟩:=I.list hx
 have hlen:=r.length
 refine ⟨"list",_,slot_list_getitem.lookup,ht.isList.typeIs,?_⟩
 refine wpAny_getItem_list_slice ht.isList hs pl pu .none (by simp) ?_ (by rw [List.size_toArray] <;> omega)
 rw [Zmk,<- hlen]
 refine ⟨.ref s.heap.objs.size,_,I.laid (t':=s.toks) (o:=.lst (Zn7 xs lo hi)) (fun b ob q=>Heap.get?_push_of_some _ q) (Nat.le_refl _) ?_,rfl,q _ (I.hok.fresh (Nat.le_refl _))⟩
 exact ⟨Nat.le_trans (ZoD xs lo hi) hz,_,0,(r.drop (HT.sIx xs.length 0 lo)).take (HT.sIx xs.length xs.length hi - HT.sIx xs.length 0 lo),Heap.get?_push_size _ rfl⟩
def Za6:V->Bool
 | .non=>true
 | .bl _=>true
 | .int _=>true
 | .str _=>true
 | _=>false
def eqV:V->V->Bool
 | .non,.non=>true
 | .bl a,.bl b=>a == b
 | .bl a,.int b=>(if a then 1 else 0) == b
 | .int a,.bl b=>a == (if b then 1 else 0)
 | .int a,.int b=>a == b
 | .str a,.str b=>a == b
 | _,_=>false
theorem Zvg {A:Around} {s:Shared} {y x:V} {u v:Value} (ry:RelV y u) (rx:RelV x v) (fy:Za6 y = true) (fx:Za6 x = true):SeqAt.EqAt A s u v (eqV y x):=by
  cases y with
  | non =>
    cases ry
    cases x with
    | non=>cases rx; exact SeqAt.EqAt.same _
    | bl b=>cases rx; exact SeqAt.EqAt.none_bool b
    | int b=>obtain ⟨t,rfl⟩:=rx; exact SeqAt.EqAt.none_int b t
    | str b=>obtain ⟨t,rfl⟩:=rx; exact SeqAt.EqAt.none_str b t
    | _=>exact absurd (show false = true from fx) Bool.false_ne_true
  | bl a =>
    cases ry
    cases x with
    | non=>cases rx; exact SeqAt.EqAt.bool_none a
    | bl b=>cases rx; exact SeqAt.EqAt.bool_bool a b
    | int b=>obtain ⟨t,rfl⟩:=rx; exact SeqAt.EqAt.bool_int a b t
    | str b=>obtain ⟨t,rfl⟩:=rx; exact SeqAt.EqAt.bool_str a b t
    | _=>exact absurd (show false = true from fx) Bool.false_ne_true
  | int a =>
    obtain ⟨t',rfl⟩:=ry
    cases x with
    | non=>cases rx; exact SeqAt.EqAt.int_none a t'
    | bl b=>cases rx; exact SeqAt.EqAt.int_bool a t' b
    | int b=>obtain ⟨t,rfl⟩:=rx; exact SeqAt.EqAt.int_int a t' b t
    | str b=>obtain ⟨t,rfl⟩:=rx; exact SeqAt.EqAt.int_str a t' b t
    | _=>exact absurd (show false = true from fx) Bool.false_ne_true
  | str a =>
    obtain ⟨t',rfl⟩:=ry
    cases x with
    | non=>cases rx; exact SeqAt.EqAt.str_none a t'
    | bl b=>cases rx; exact SeqAt.EqAt.str_bool a t' b
    | int b=>obtain ⟨t,rfl⟩:=rx; exact SeqAt.EqAt.str_int a t' b t
    | str b=>obtain ⟨t,rfl⟩:=rx; exact SeqAt.EqAt.str_str a t' b t
    | _=>exact absurd (show false = true from fx) Bool.false_ne_true
  | _=>exact absurd (show false = true from fy) Bool.false_ne_true
def eqU (x:V) (u:Value):Bool:=match u with
 | .none=>eqV .non x
 | .bool b=>eqV (.bl b) x
 | .int i _=>eqV (.int i) x
 | .str z _=>eqV (.str z) x
 | _=>false
theorem Zq8 {x y:V} {u:Value} (r:RelV y u) (f:Za6 y = true):eqU x u = eqV y x:=by
 cases y with
 | non=>cases r; rfl
 | bl b=>cases r; rfl
 | int i=>obtain ⟨t,rfl⟩:=r; rfl
 | str z=>obtain ⟨t,rfl⟩:=r; rfl
 | _=>exact absurd (show false = true from f) Bool.false_ne_true
theorem ZhN {x:V}:∀ {xs:List V} {us:List Value},Vals xs us->xs.all Za6 = true->us.any (eqU x) = xs.any fun y=>eqV y x
  | _,_,.nil,_=>rfl
  | y :: xs, u :: us, .cons r t, f => by
    rw [List.all_cons,Bool.and_eq_true] at f
    rw [List.any_cons,List.any_cons,Zq8 r f.1,ZhN t f.2]
theorem Zg3 {A:Around} {s:Shared} {x:V} {v:Value} (rx:RelV x v) (fx:Za6 x = true):∀ {xs:List V} {us:List Value},Vals xs us->xs.all Za6 = true->∀ u ∈ us,SeqAt.EqAt A s u v (eqU x u)
  | _,_,.nil,_=>fun u hu=>by cases hu
  | y :: xs, u :: us, .cons r t, f => fun u' hu => by
    rw [List.all_cons,Bool.and_eq_true] at f
    rcases List.mem_cons.mp hu with rfl | hu
    · rw [Zq8 r f.1]; exact Zvg r rx f.1 fx
    · exact Zg3 rx fx t f.2 u' hu
def inV (x:V) (xs:List V):Bool:=xs.any fun y=>eqV y x
def rIn (K:PySem.W.Frag) (neg:Bool):R2:=fun x y H Q=>∃ p xs,y = .ref p/\(SqL K H p xs\/SqT K H p xs)/\Za6 x = true/\xs.all Za6 = true/\Q (.bl (if neg then !inV x xs else inV x xs)) H
theorem Zrc:OpR X (compareOp .In) (rIn X.K false):=by
 intro pins s σ H x y v u Q I rx ry h
 obtain ⟨p,xs,rfl,hq,fx,fs,q⟩:=h
 cases ry
 rcases hq with hq | hq
 ·obtain ⟨its,r,pl,hz⟩:=I.list hq
  refine SeqAt.in_listAt (eqU x) pl.isList (fun w hw=>Zg3 rx fx r fs w (by simpa using hw)) ⟨.bl _,H,I,rfl,?_⟩
  rw [show its.toArray.any (eqU x) = its.any (eqU x) by simp,ZhN r fs]
  exact q
 ·obtain ⟨its,r,pl,hz⟩:=I.tuple hq
  refine SeqAt.in_tupleAt (eqU x) pl (fun w hw=>Zg3 rx fx r fs w (by simpa using hw)) ⟨.bl _,H,I,rfl,?_⟩
  rw [show its.toArray.any (eqU x) = its.any (eqU x) by simp,ZhN r fs]
  exact q
theorem ZnM:OpR X (compareOp .NotIn) (rIn X.K true):=by
 intro pins s σ H x y v u Q I rx ry h
 obtain ⟨p,xs,rfl,hq,fx,fs,q⟩:=h
 cases ry
 rcases hq with hq | hq
 ·obtain ⟨its,r,pl,hz⟩:=I.list hq
  refine SeqAt.notIn_listAt (eqU x) pl.isList (fun w hw=>Zg3 rx fx r fs w (by simpa using hw)) ⟨.bl _,H,I,rfl,?_⟩
  rw [show its.toArray.any (eqU x) = its.any (eqU x) by simp,ZhN r fs]
  exact q
 ·obtain ⟨its,r,pl,hz⟩:=I.tuple hq
  refine SeqAt.notIn_tupleAt (eqU x) pl (fun w hw=>Zg3 rx fx r fs w (by simpa using hw)) ⟨.bl _,H,I,rfl,?_⟩
  rw [show its.toArray.any (eqU x) = its.any (eqU x) by simp,ZhN r fs]
  exact q
theorem Znq:Za7 X (.builtin "len") (fun xs H Q=>∃ p ys,xs = [.ref p]/\(SqL X.K H p ys\/SqT X.K H p ys)/\Q (.int ys.length) H):=by
 intro pins s σ H xs us Q I r h
 obtain ⟨p,ys,rfl,hq,q⟩:=h
 obtain ⟨u,rfl,rx⟩:=vals1 r
 cases rx
 have hn:=Zjl
 rcases hq with hq | hq
 ·obtain ⟨its,r',pl,hz⟩:=I.list hq
  have hlen:=r'.length
  exact Calls.call_len_list pl.isList (by simp only [List.size_toArray] <;> omega) ⟨.int ys.length,H,I.tok _,⟨s.toks + 1,by rw [List.size_toArray,hlen]⟩,q⟩
 ·obtain ⟨its,r',pl,hz⟩:=I.tuple hq
  have hlen:=r'.length
  exact len_tuple pl (by simp only [List.size_toArray] <;> omega) ⟨.int ys.length,H,I.tok _,⟨s.toks + 1,by rw [List.size_toArray,hlen]⟩,q⟩
theorem Za7.or {f:Value} {r r':List V->Hp->VK->Prop} (h:Za7 X f r) (h':Za7 X f r'):Za7 X f (fun xs H Q=>r xs H Q\/r' xs H Q):=by
 intro pins s σ H xs us Q I rs q
 rcases q with q | q
 ·exact h pins s σ H xs us Q I rs q
 ·exact h' pins s σ H xs us Q I rs q
theorem ZnC:Za7 X (.type "list") (fun xs H Q=>∃ p ys,xs = [.ref p]/\(SqL X.K H p ys\/SqT X.K H p ys)/\∀ l,H l = none->Q (.ref l) (upd H l (.lst ys))):=by
 intro pins s σ H xs us Q I r h
 obtain ⟨p,ys,rfl,hq,q⟩:=h
 obtain ⟨u,rfl,rx⟩:=vals1 r
 cases rx
 have fin:∀ (its:List Value),Vals ys its->ys.length <= sizeLine->∀ (h':Heap) (c':Nat),(∀ b o',s.heap.get? b = some o'->h'.get? b = some o') ->
   h'.get? s.heap.objs.size = some { cls:=.type "list",dict:=none,data:=.seq its.toArray c',slots:=#[] }->EP X pins σ Q (.ref s.heap.objs.size) { s with heap:=h' }:=fun its r' hz h' c' kp e =>
  ⟨.ref s.heap.objs.size,_,I.laid (t':=s.toks) kp (Nat.le_refl _) (show Zap X.prog X.w _ h' _ (.lst ys) from ⟨hz,its,c',r',e⟩),rfl,q _ (I.hok.fresh (Nat.le_refl _))⟩
 rcases hq with hq | hq
 ·obtain ⟨its,r',pl,hz⟩:=I.list hq
  have hlen:=r'.length
  obtain ⟨o,ho,hc,n,hd⟩:=pl.isList
  exact call_list_seq p (.inl rfl) ho hc hd (fun h' c' kp e=>fin its r' hz h' c' kp e) (by simp only [List.size_toArray] <;> omega)
 ·obtain ⟨its,r',pl,hz⟩:=I.tuple hq
  have hlen:=r'.length
  obtain ⟨o,ho,hc,n,hd⟩:=pl
  exact call_list_seq p (.inr rfl) ho hc hd (fun h' c' kp e=>fin its r' hz h' c' kp e) (by simp only [List.size_toArray] <;> omega)
theorem Zms:Za7 X (.type "tuple") (fun xs H Q=>∃ p ys,xs = [.ref p]/\((SqL X.K H p ys/\∀ l,H l = none->Q (.ref l) (upd H l (.tup ys)))\/(SqT X.K H p ys/\Q (.ref p) H))):=by
 intro pins s σ H xs us Q I r h
 obtain ⟨p,ys,rfl,h⟩:=h
 obtain ⟨u,rfl,rx⟩:=vals1 r
 cases rx
 rcases h with ⟨hq,q⟩ | ⟨hq,q⟩
 ·obtain ⟨its,r',pl,hz⟩:=I.list hq
  have hlen:=r'.length
  refine call_tuple_list pl.isList (fun h' kp=>?_) (by simp only [List.size_toArray] <;> omega)
  have I1:Inv X pins σ H { s with heap:=h' }:=I.kept (t':=s.toks) kp
  have I2:Inv X pins σ (upd H h'.objs.size (.tup ys)) { s with heap:=h'.push { cls:=.type "tuple",data:=.seq its.toArray } } :=
   I1.laid (t':=s.toks) (fun b o e=>Heap.get?_push_of_some _ e) (Nat.le_refl _) (show Zap X.prog X.w _ _ _ (.tup ys) from ⟨hz,its,r',IsTup.new _ _⟩)
  exact ⟨.ref h'.objs.size,_,I2,rfl,q _ (I1.hok.fresh (Nat.le_refl _))⟩
 ·obtain ⟨its,r',pl,hz⟩:=I.tuple hq
  exact call_tuple_same pl ⟨.ref p,H,I,rfl,q⟩
def tyV (K:PySem.W.Frag) (T:String) (x:V) (H:Hp):Prop:=match x with
 | .str _=>T = "str"
 | .int _=>T = "int"
 | .ref p=>(T = "list"/\∃ xs,SqL K H p xs)\/(T = "tuple"/\∃ o,K.lookup p = some o/\o.cls = .type "tuple"/\o.dict = none) \/
   (T = "dict"/\((∃ kvs,H p = some (.dK kvs))\/∃ kvs,H p = some (.dT kvs)))\/(T = "set"/\∃ S n,H p = some (.set S n))
 | _=>False
theorem Zrn {pins:List (Addr × Obj)} {σ:St} {H:Hp} {s:Shared} {T:String} {x:V} {v:Value} (I:Inv X pins σ H s) (r:RelV x v) (ty:tyV X.K T x H) :
    s.TypeIs v T/\∀ a,v = .ref a->∃ ob,s.heap.get? a = some ob/\ob.dict = none:=by
  cases x with
  | str z =>
    obtain ⟨t,rfl⟩:=r
    cases (show T = "str" from ty)
    exact ⟨typeIs_str s z t,fun _ e=>nomatch e⟩
  | int i =>
    obtain ⟨t,rfl⟩:=r
    cases (show T = "int" from ty)
    exact ⟨typeIs_int s i t,fun _ e=>nomatch e⟩
  | ref p =>
    cases r
    rcases ty with ⟨rfl,xs,hq⟩ | ⟨rfl,o,hk,hc,hd⟩ | ⟨rfl,hk⟩ | ⟨rfl,S,n,hk⟩
    · obtain ⟨its, _, pl, _⟩ := I.list hq
      refine ⟨pl.isList.typeIs,fun a e=>?_⟩
      cases e
      obtain ⟨o,n,e,c,hd,_⟩:=pl
      exact ⟨o,e,hd⟩
    · refine ⟨⟨o, I.kIn p o hk, hc⟩, fun a e => ?_⟩
      cases e
      exact ⟨o,I.kIn _ o hk,hd⟩
    · have z:∃ o,s.heap.get? p = some o/\o.ExactDict:=by
        rcases hk with ⟨kvs,hk⟩ | ⟨kvs,hk⟩
        · obtain ⟨_, _, _, _, o, _, _, e, ex, _⟩ := I.hok p _ hk
          exact ⟨o,e,ex⟩
        · obtain ⟨_, _, _, _, o, _, _, e, ex, _⟩ := I.hok p _ hk
          exact ⟨o,e,ex⟩
      obtain ⟨o,e,ex⟩:=z
      refine ⟨⟨o,e,ex.1⟩,fun a e2=>?_⟩
      cases e2
      exact ⟨o,e,ex.2.1⟩
    · obtain ⟨o, _, _, _, e, ex, _⟩ := I.hok p _ hk
      refine ⟨⟨o,e,ex.1⟩,fun a e2=>?_⟩
      cases e2
      exact ⟨o,e,ex.2.1⟩
  | _=>exact False.elim ty
def Zwn (K:PySem.W.Frag) (T:String) (r:V->List V->Hp->VK->Prop) (to:TE):TE:=fun σ H Q=>to σ H fun x H1=>tyV K T x H1/\r x [] H1 Q
def tBM (K:PySem.W.Frag) (T:String) (r:V->List V->Hp->VK->Prop) (to:TE) (t:TA):TE:=fun σ H Q=>to σ H fun x H1=>tyV K T x H1/\t σ H1 fun xs H2=>r x xs H2 Q
variable {o e:Expr} {es:List Expr} {to:TE} {t:TA} {name:Str} {apos cpos:Pos} {T id:String} {r:V->List V->Hp->VK->Prop}
theorem ZuO (pa:PlainAttrs T) (slot:Slot T name id) (hty:typeOf (.builtin id) = pure (.type "method_descriptor")) (hm:MtR X id r) (ho:PE X o to)
  (hbase:attributeBase o name X.env (eval o X.env) = eval o X.env:=by rfl) (hline:(apos.endLine == cpos.line) = true:=by rfl):PE X (.Call (.Attribute o name apos) [] [] cpos) (Zwn X.K T r to):=by
 intro pins s σ H Q I h
 refine wpAny_Call_method0_late hbase hline (thn (ho pins s σ H _ I h) fun v s1 ⟨x,H1,I1,r1,ty,q1⟩=>?_)
 obtain ⟨h1,h2⟩:=Zrn I1 r1 ty
 exact ⟨T,id,pa,slot,hty,h1,h2,Calls.callWith_builtin rfl (PySem.evalArgs_none (hm pins s1 σ H1 x [] v [] Q I1 r1 .nil q1))⟩
theorem Zmw (pa:PlainAttrs T) (slot:Slot T name id) (hty:typeOf (.builtin id) = pure (.type "method_descriptor")) (hm:MtR X id r) (ho:PE X o to) (ha:PA X (e :: es) t)
  (hbase:attributeBase o name X.env (eval o X.env) = eval o X.env:=by rfl)
  (hfew:((backTo cpos (starEach (e :: es) X.env)).all (fun x=>!x.1) && (backToKw cpos (keywordEach [] X.env)).all (fun x=>x.1.isSome)
   && decide ((e :: es).length + ([]:List Keyword).length + (if ([]:List Keyword).isEmpty then 0 else 1) < 30)) = true:=by rfl)
  (hline:(apos.endLine == cpos.line) = true:=by rfl) (hs:starEach (e :: es) X.env = (false,eval e X.env) :: starEach es X.env:=by rfl) (hplain:(backTo cpos (starEach es X.env)).any (·.1) = false:=by rfl) :
  PE X (.Call (.Attribute o name apos) (e :: es) [] cpos) (tBM X.K T r to t):=by
 intro pins s σ H Q I h
 refine wpAny_Call_method_late hbase hfew hline rfl (thn (ho pins s σ H _ I h) fun v s1 ⟨x,H1,I1,r1,ty,q1⟩=>?_)
 obtain ⟨h1,h2⟩:=Zrn I1 r1 ty
 refine ⟨T,id,pa,slot,hty,h1,h2,?_⟩
 have hA:=ha cpos pins s1 σ H1 _ I1 q1
 rw [hs] at hA ⊢
 refine Calls.callWith_builtin (by show (false || (backTo cpos (starEach es X.env)).any (·.1)) = false; rw [hplain] <;> rfl) (Calls.evalArgs_plain ?_)
 exact thn hA fun us s2 ⟨vs,H2,I2,r2,q2⟩=>hm pins s2 σ H2 x vs v us Q I2 r1 r2 q2
end
end L2
namespace L2
open PySem PySem.Spec PyProof.Rows
def MtM (X:Cx) (id:String) (r:V->List V->Hp->VK->Prop):Prop :=
 ∀ (pins:List (Addr × Obj)) (s:Shared) (σ:St) (H:Hp) (x:V) (xs:List V) (v:Value) (us:List Value) (Q:VK),Inv X pins σ H s->RelV x v->Vals xs us->r x xs H Q ->
  wpAny (model X.prog X.w) X.A (call (.builtin id) (v :: us)) (EP X pins σ Q) X.xe s
theorem Vals.one:∀ {x:V} {us:List Value},Vals [x] us->∃ u,us = [u]/\RelV x u
 | _,_,.cons r .nil=>⟨_,rfl,r⟩
theorem Vals.zero:∀ {us:List Value},Vals [] us->us = []
 | _,.nil=>rfl
theorem Vals.dropLast {xs:List V} {us:List Value} (h:Vals xs us):Vals xs.dropLast us.dropLast:=by
  induction h with
  | nil=>exact .nil
  | cons r t ih =>
    cases t with
    | nil=>exact .nil
    | cons q t'=>exact .cons r ih
theorem Vals.rep {xs:List V} {us:List Value} (h:Vals xs us):∀ k:Nat,Vals (List.replicate k xs).flatten (List.replicate k us).flatten
  | 0=>.nil
  | k + 1 => by
    rw [List.replicate_succ,List.replicate_succ,List.flatten_cons,List.flatten_cons]
    exact Vals.append h (Vals.rep h k)
theorem ZpM {α:Type} (l:List α):l.eraseIdx (l.length - 1) = l.dropLast:=by
  induction l with
  | nil=>rfl
  | cons a r ih =>
    cases r with
    | nil=>rfl
    | cons b r =>
      have e:(a :: b :: r).length - 1 = ((b :: r).length - 1) + 1:=by
        have h1:(a :: b :: r).length = r.length + 2:=rfl
        have h2:(b :: r).length = r.length + 1:=rfl
        omega
      rw [e,List.eraseIdx_cons_succ,ih]
      all_goals rfl
theorem foldl_rep (its:List Value):∀ (k:Nat) (acc:List Value),
    List.foldl (fun x1 x2=>x1 ++ x2) acc.toArray (List.replicate k its.toArray) = (acc ++ (List.replicate k its).flatten).toArray
  | 0,acc=>by simp
  | k + 1, acc => by
    have e:acc.toArray ++ its.toArray = (acc ++ its).toArray:=by simp
    have e2:(acc ++ its) ++ (List.replicate k its).flatten = acc ++ (List.replicate (k + 1) its).flatten:=by
      rw [List.replicate_succ,List.flatten_cons,List.append_assoc]
    rw [<- e2,<- foldl_rep its k (acc ++ its),<- e,List.replicate_succ,List.foldl_cons]
section
variable {X:Cx} {pins:List (Addr × Obj)} {σ:St} {H:Hp} {s:Shared} {l b:Addr} {xs ys zs:List V}
theorem Inv.lset {its its':List Value} {n:Nat} {f:Array Value->Array Value} {t':Nat} (I:Inv X pins σ H s) (hH:H l = some (.lst xs))
  (e:s.heap.get? l = some { cls:=.type "list",data:=.seq its.toArray n }) (hf:f its.toArray = its'.toArray) (hv:Vals ys its') (hz:ys.length <= sizeLine) :
  Inv X pins σ (upd H l (.lst ys)) { s with heap:=s.heap.update l (Obj.mapSeq f),toks:=t' }:=by
 have q:=PySem.IsL.update e f
 rw [hf] at q
 refine I.write (x:=l) (e:=l) (by rw [hH]; exact trivial) (.inl rfl) (fun b' u hb hu=>(Heap.get?_update_other s.heap (Obj.mapSeq f) (Ne.symm hb)).trans hu) ⟨_,q⟩ ?_
 exact ⟨hz,its',_,hv,q⟩
theorem Inv.lnew {its:List Value} {t':Nat} (I:Inv X pins σ H s) (hv:Vals ys its) (hz:ys.length <= sizeLine) :
  Inv X pins σ (upd H s.heap.objs.size (.lst ys)) { s with heap:=s.heap.push { cls:=.type "list",data:=.seq its.toArray },toks:=t' } :=
 I.laid (fun _ _ q=>Heap.get?_push_of_some _ q) (Nat.le_refl _) ⟨hz,its,0,hv,Heap.get?_push_size _ rfl⟩
theorem Inv.fresh (I:Inv X pins σ H s):H s.heap.objs.size = none:=I.hok.fresh (Nat.le_refl _)
theorem Inv.lstM (I:Inv X pins σ H s) (hH:H l = some (.lst xs)):xs.length <= sizeLine/\∃ (its:List Value) (n:Nat),Vals xs its/\xs.length = its.length/\s.heap.get? l = some { cls:=.type "list",data:=.seq its.toArray n }:=by
 obtain ⟨z,its,n,r,e⟩:=I.hok l _ hH
 exact ⟨z,its,n,r,r.length,e⟩
theorem Zm8 {n:Nat} (h:n <= sizeLine):Builtin.List.listTooLong n = false:=by
 unfold Builtin.List.listTooLong
 exact decide_eq_false (by omega)
end
section
variable {X:Cx}
def Zo5:V->List V->Hp->VK->Prop:=fun x vs H Q=>∃ l xs y,x = .ref l/\vs = [y]/\H l = some (.lst xs)/\xs.length < sizeLine/\Q .non (upd H l (.lst (xs ++ [y])))
theorem Zhs:MtM X "list.append" Zo5:=by
 intro pins s σ H x vs v us Q I rx rv h
 obtain ⟨l,xs,y,rfl,rfl,hH,hz,q⟩:=h
 cases rx
 obtain ⟨u,rfl,ru⟩:=rv.one
 obtain ⟨z,its,n,r,hl,e⟩:=I.lstM hH
 refine call_meets F.slot_list_append ⟨_,e,rfl⟩ F.entry_list_append (F.args_list_append_2 _ _) (PySem.list_append l its.toArray n u (by rw [List.size_toArray]; omega)) ⟨e,?_⟩
 refine ⟨.non,_,I.lset (its':=its ++ [u]) hH e (by simp) (r.append (.cons ru .nil)) ?_,rfl,q⟩
 rw [List.length_append,List.length_singleton]
 omega
def Ztx:V->List V->Hp->VK->Prop:=fun x vs H Q=>∃ l b xs zs,x = .ref l/\vs = [.ref b]/\H l = some (.lst xs)/\H b = some (.lst zs)/\xs.length + zs.length <= sizeLine/\Q .non (upd H l (.lst (xs ++ zs)))
theorem Zrv:MtM X "list.extend" Ztx:=by
 intro pins s σ H x vs v us Q I rx rv h
 obtain ⟨l,b,xs,zs,rfl,rfl,hH,hB,hz,q⟩:=h
 cases rx
 obtain ⟨u,rfl,ru⟩:=rv.one
 cases ru
 obtain ⟨z,its,n,r,hl,e⟩:=I.lstM hH
 obtain ⟨z2,its2,n2,r2,hl2,e2⟩:=I.lstM hB
 have hsz:its.toArray.size + its2.toArray.size <= sizeLine:=by rw [List.size_toArray,List.size_toArray]; omega
 have hlong:¬ (!its.toArray.isEmpty && Builtin.List.listTooLong (its.toArray.size + its2.toArray.size)) = true:=by
  rw [Zm8 hsz,Bool.and_false]
  exact Bool.false_ne_true
 refine call_meets F.slot_list_extend ⟨_,e,rfl⟩ F.entry_list_extend (F.args_list_extend_2 _ _)
  (AutoSeq1.list_extend_list_list_0 l its.toArray n b its2.toArray n2 hlong (by rw [List.size_toArray]; omega) (by omega)) ⟨e,e2,?_⟩
 refine ⟨.non,_,I.lset (its':=its ++ its2) hH e (by simp) (r.append r2) ?_,rfl,q⟩
 rw [List.length_append]
 omega
def Zwg:V->List V->Hp->VK->Prop:=fun x vs H Q=>∃ l xs y,x = .ref l/\vs = []/\H l = some (.lst xs)/\xs[xs.length - 1]? = some y/\Q y (upd H l (.lst xs.dropLast))
theorem Zvi:MtM X "list.pop" Zwg:=by
 intro pins s σ H x vs v us Q I rx rv h
 obtain ⟨l,xs,y,rfl,rfl,hH,hy,q⟩:=h
 cases rx
 have hus:=rv.zero
 subst hus
 obtain ⟨z,its,n,r,hl,e⟩:=I.lstM hH
 obtain ⟨u,hu,ru⟩:=r.get hy
 have hy':its.toArray[its.toArray.size - 1]? = some u:=by
  show its.toArray[its.length - 1]? = some u
  rw [<- Array.getElem?_toList,<- hl]
  exact hu
 refine call_meets F.slot_list_pop ⟨_,e,rfl⟩ F.entry_list_pop (F.args_list_pop_1 _) (MeetsSeq.list_pop_last l its.toArray n u hy' (by rw [List.size_toArray]; omega)) ⟨e,?_⟩
 refine ⟨y,_,I.lset (its':=its.dropLast) hH e ?_ r.dropLast ?_,ru,q⟩
 ·show its.toArray.eraseIdxIfInBounds (its.toArray.size - 1) = its.dropLast.toArray
  rw [List.size_toArray,List.eraseIdxIfInBounds_toArray,ZpM]
 ·rw [List.length_dropLast]
  omega
def Zwd:R2:=fun x y H Q=>∃ l b xs zs,x = .ref l/\y = .ref b/\H l = some (.lst xs)/\H b = some (.lst zs)/\xs.length + zs.length <= sizeLine/\∀ p,H p = none->Q (.ref p) (upd H p (.lst (xs ++ zs)))
theorem ZuI:OpR X (binaryOp .Add) Zwd:=by
 intro pins s σ H x y v u Q I rx ry h
 obtain ⟨l,b,xs,zs,rfl,rfl,hH,hB,hz,q⟩:=h
 cases rx
 cases ry
 obtain ⟨z,its,n,r,hl,e⟩:=I.lstM hH
 obtain ⟨z2,its2,n2,r2,hl2,e2⟩:=I.lstM hB
 refine PySem.P.add_list e e2 ?_ (by rw [List.size_toArray,List.size_toArray]; omega)
 have ea:its.toArray ++ its2.toArray = (its ++ its2).toArray:=by simp
 rw [ea]
 exact ⟨.ref _,_,I.lnew (t':=s.toks) (r.append r2) (by rw [List.length_append]; omega),rfl,q _ I.fresh⟩
def ZwD:R2:=fun x y H Q=>∃ l k xs,x = .ref l/\y = .int k/\H l = some (.lst xs)/\-(2 ^ 63) <= k/\k < 2 ^ 63/\xs.length * k.toNat <= sizeLine /\
 ∀ p,H p = none->Q (.ref p) (upd H p (.lst (List.replicate k.toNat xs).flatten))
theorem len_rep {α:Type} (xs:List α) (k:Nat):(List.replicate k xs).flatten.length = k * xs.length:=by
 induction k with
 | zero=>simp
 | succ k ih=>rw [List.replicate_succ,List.flatten_cons,List.length_append,ih,Nat.succ_mul,Nat.add_comm]
theorem ZuB:OpR X (binaryOp .Mult) ZwD:=by
 intro pins s σ H x y v u Q I rx ry h
 obtain ⟨l,k,xs,rfl,rfl,hH,h1,h2,hz,q⟩:=h
 cases rx
 obtain ⟨t,rfl⟩:=ry
 obtain ⟨z,its,n,r,hl,e⟩:=I.lstM hH
 have hlen:its.toArray.size * k.toNat <= sizeLine:=by rw [List.size_toArray,<- hl]; exact hz
 have hcap:¬ its.toArray.size * k.toNat > (2 ^ 63 - 1) / 8:=by
  have:(sizeLine:Nat) <= (2 ^ 63 - 1) / 8:=by decide
  omega
 have hfit:¬ (!Builtin.List.listFitsIndex k) = true:=by
  rw [fitsIndex_both h1 h2]
  exact Bool.false_ne_true
 have hlong:¬ Builtin.List.listTooLong (its.toArray.size * k.toNat) = true:=by
  rw [Zm8 hlen]
  exact Bool.false_ne_true
 have hnew:List.foldl (fun x1 x2=>x1 ++ x2) #[] (List.replicate (if its.toArray.isEmpty = true then 0 else k.toNat) its.toArray) = (List.replicate k.toNat its).flatten.toArray:=by
  have f0:∀ m:Nat,List.foldl (fun x1 x2=>x1 ++ x2) #[] (List.replicate m its.toArray) = (List.replicate m its).flatten.toArray:=fun m=>by
   have:=foldl_rep its m []
   rw [List.nil_append] at this
   exact this
  rw [f0]
  cases its with
  | nil=>simp
  | cons a r'=>rw [if_neg (by simp)]
 refine wpAny_binaryOp_repeat_ref (T:="list") (U:="int") (by decide) ⟨_,e,rfl⟩ (fun s'=>typeIs_int s' k t) noFill_list_mul F.fills_int_mul F.slot_int_rmul repeat_list F.slot_int_index.lookup
  (call_meets F.slot_int_rmul (typeIs_int s k t) F.entry_int_rmul (F.args_int_rmul_2 _ _) (int___rmul___int_list k t l its.toArray n)
   ⟨e,rfl,⟨_,e,rfl⟩,call_meets F.slot_list_mul ⟨_,e,rfl⟩ F.entry_list_mul (F.args_list_mul_2 _ _) (AutoListH.list___mul___list_int_3 l its.toArray n k t hfit hcap hlong) ⟨e,?_⟩⟩)
 rw [hnew]
 exact ⟨.ref _,_,I.lnew (t':=s.toks) (r.rep k.toNat) (by rw [len_rep,Nat.mul_comm]; exact hz),rfl,q _ I.fresh⟩
end
end L2
namespace L2
open PySem PySem.Spec PyProof.Rows
section
variable {κ:Type} [DecidableEq κ]
def ZaL (kvs:List (κ × V)) (k:κ):Option V:=(kvs.find? fun kv=>decide (kv.1 = k)).map (·.2)
def putK (kvs:List (κ × V)) (k:κ) (v:V):List (κ × V) :=
 if (kvs.any fun kv=>decide (kv.1 = k)) = true then kvs.map (fun kv=>if kv.1 = k then (kv.1,v) else kv) else kvs ++ [(k,v)]
theorem ZeW {p:κ × V} {r:List (κ × V)} {k:κ} (e:p.1 = k):ZaL (p :: r) k = some p.2:=by simp [ZaL,List.find?_cons,e]
theorem ZeY {p:κ × V} {r:List (κ × V)} {k:κ} (e:¬ p.1 = k):ZaL (p :: r) k = ZaL r k:=by simp [ZaL,List.find?_cons,e]
theorem Zim (k:κ):∀ kvs:List (κ × V),(kvs.any fun kv=>decide (kv.1 = k)) = (ZaL kvs k).isSome
  | []=>rfl
  | p :: r => by
    rw [List.any_cons]
    by_cases e:p.1 = k
    · simp only [ZeW e,decide_eq_true e,Bool.true_or,Option.isSome_some]
    · rw [ZeY e,decide_eq_false e,Bool.false_or]; exact Zim k r
theorem ZhD (kvs:List (κ × V)) (k:κ) (v:V):(putK kvs k v).length <= kvs.length + 1:=by
 unfold putK
 split
 ·rw [List.length_map]; omega
 ·rw [List.length_append,List.length_cons,List.length_nil]; omega
theorem Zgt.isSome_eq {o:Option V} {u:Option Value} (r:Zgt o u):o.isSome = u.isSome:=by
  cases o with
  | none => cases u with
    | none=>rfl
    | some _=>exact (show False from r).elim
  | some _ => cases u with
    | none=>exact (show False from r).elim
    | some _=>rfl
theorem Zgt.getD {o:Option V} {u:Option Value} {d:V} {d':Value} (r:Zgt o u) (rd:RelV d d'):RelV (o.getD d) (u.getD d'):=by
  cases o with
  | none => cases u with
    | none=>exact rd
    | some _=>exact (show False from r).elim
  | some _ => cases u with
    | none=>exact (show False from r).elim
    | some _=>exact r
theorem KV.val {kvs:List (κ × V)} {vs:List (κ × Value)} (r:KV kvs vs) (k:κ):Zgt (ZaL kvs k) (valueAt vs k):=by
  unfold KV at r
  induction r with
  | nil=>exact True.intro
  | @cons p q ps qs h t ih =>
    obtain ⟨h1,h2⟩:=h
    by_cases e:p.1 = k
    · have e' : q.1 = k := h1.symm.trans e
      have b:valueAt (q :: qs) k = some q.2:=by simp [valueAt,List.find?_cons,e']
      rw [ZeW e,b]; exact h2
    · have e' : ¬ q.1 = k := fun z => e (h1.trans z)
      have b:valueAt (q :: qs) k = valueAt qs k:=by simp [valueAt,List.find?_cons,e']
      rw [ZeY e,b]; exact ih
theorem KV.any {kvs:List (κ × V)} {vs:List (κ × Value)} (r:KV kvs vs) (k:κ):(kvs.any fun kv=>decide (kv.1 = k)) = vs.any fun kv=>decide (kv.1 = k):=by
 unfold KV at r
 induction r with
 | nil=>rfl
 | cons h t ih=>rw [List.any_cons,List.any_cons,ih,h.1]
theorem KV.repl {kvs:List (κ × V)} {vs:List (κ × Value)} (r:KV kvs vs) (k:κ) {y:V} {u:Value} (ry:RelV y u) :
    KV (kvs.map fun kv=>if kv.1 = k then (kv.1,y) else kv) (vs.map fun kv=>if kv.1 = k then (kv.1,u) else kv):=by
  unfold KV at r ⊢
  induction r with
  | nil=>exact .nil
  | @cons p q ps qs h t ih =>
    rw [List.map_cons,List.map_cons]
    refine .cons ?_ ih
    obtain ⟨h1,h2⟩:=h
    by_cases e:p.1 = k
    · rw [if_pos e,if_pos (h1.symm.trans e)]; exact ⟨h1,ry⟩
    · rw [if_neg e,if_neg (fun z=>e (h1.trans z))]; exact ⟨h1,h2⟩
theorem KV.put {kvs:List (κ × V)} {vs:List (κ × Value)} (r:KV kvs vs) (k:κ) {y:V} {u:Value} (ry:RelV y u):KV (putK kvs k y) (stored vs k u):=by
 unfold putK stored
 rw [r.any k]
 by_cases e:(vs.any fun kv=>decide (kv.1 = k)) = true
 ·rw [if_pos e,if_pos e]; exact r.repl k ry
 ·rw [if_neg e,if_neg e]; exact Paired.snoc r ⟨rfl,ry⟩
theorem KV.length {kvs:List (κ × V)} {vs:List (κ × Value)} (r:KV kvs vs):kvs.length = vs.length:=Paired.length r
end
theorem Zif {P:Program} {w:World} {k:Key} {u:Value} (r:RelV (kV k) u):(Zau P w).is k u = true:=by
 cases k with
 | inl i=>obtain ⟨t,e⟩:=(show ∃ t,u = Value.int i t from r); subst e; exact ZoL P w i t
 | inr x=>obtain ⟨t,e⟩:=(show ∃ t,u = Value.str x t from r); subst e; exact ZoR P w x t
theorem ZlU {P:Program} {w:World}:∀ {ks:List Key} {us:List Value},Vals (ks.map kV) us->ItemsAre (Zau P w) ks us
  | [],_,r=>by rw [List.map_nil] at r; cases r; exact .nil
  | k :: ks, _, r => by
    rw [List.map_cons] at r
    cases r with
    | cons h t=>exact .cons (Zif h) (ZlU t)
abbrev KT (H:Hp):List (List Key × V)->List (List Key × Addr × Value)->Prop:=Paired fun p q=>p.1 = q.1/\H q.2.1 = some (.tup (p.1.map kV))/\RelV p.2 q.2.2
theorem KT.val {H:Hp} {kvs:List (List Key × V)} {xs:List (List Key × Addr × Value)} (r:KT H kvs xs) (k:List Key):Zgt (ZaL kvs k) ((atKey xs k).map (·.2)):=by
  induction r with
  | nil=>exact True.intro
  | @cons p q ps qs h t ih =>
    obtain ⟨h1,_,h2⟩:=h
    by_cases e:p.1 = k
    · have e' : q.1 = k := h1.symm.trans e
      have b:atKey (q :: qs) k = some q.2:=by simp [atKey,List.find?_cons,e']
      rw [ZeW e,b]; exact h2
    · have e' : ¬ q.1 = k := fun z => e (h1.trans z)
      have b:atKey (q :: qs) k = atKey qs k:=by simp [atKey,List.find?_cons,e']
      rw [ZeY e,b]; exact ih
theorem KT.repl {H:Hp} {kvs:List (List Key × V)} {xs:List (List Key × Addr × Value)} (r:KT H kvs xs) (k:List Key) {y:V} {u:Value} (ry:RelV y u) :
    KT H (kvs.map fun kv=>if kv.1 = k then (kv.1,y) else kv) (xs.map (putAt k u)):=by
  induction r with
  | nil=>exact .nil
  | @cons p q ps qs h t ih =>
    rw [List.map_cons,List.map_cons]
    refine .cons ?_ ih
    obtain ⟨h1,h2,h3⟩:=h
    unfold putAt
    by_cases e:p.1 = k
    · rw [if_pos e,if_pos (h1.symm.trans e)]; exact ⟨h1,h2,ry⟩
    · rw [if_neg e,if_neg (fun z=>e (h1.trans z))]; exact ⟨h1,h2,h3⟩
theorem KT.put {H:Hp} {kvs:List (List Key × V)} {xs:List (List Key × Addr × Value)} (r:KT H kvs xs) (k:List Key) {b:Addr} {y:V} {u:Value} (hb:H b = some (.tup (k.map kV))) (ry:RelV y u) :
  KT H (putK kvs k y) (storedH xs k b u):=by
 have e:(kvs.any fun kv=>decide (kv.1 = k)) = (atKey xs k).isSome:=by
  rw [Zim,(r.val k).isSome_eq,Option.isSome_map]
 unfold putK storedH
 rw [e]
 by_cases q:(atKey xs k).isSome = true
 ·rw [if_pos q,if_pos q]; exact r.repl k ry
 ·rw [if_neg q,if_neg q]; exact Paired.snoc r ⟨rfl,hb,ry⟩
theorem KT.keeps {H H':Hp} {kvs:List (List Key × V)} {xs:List (List Key × Addr × Value)} (r:KT H kvs xs) (ht:∀ b ys,H b = some (.tup ys)->H' b = some (.tup ys)):KT H' kvs xs :=
 Paired.mapP r fun _ _ z=>⟨z.1,ht _ _ z.2.1,z.2.2⟩
section
variable {P:Program} {w:World} {H:Hp} {h:Heap} {a:Addr}
theorem ZkE {u:HO} (ok:HOk P w H h) (e:Rd H a u):Zap P w H h a u:=e.ok ok
theorem Zhn {kvs:List (Key × V)} (ok:HOk P w H h) (e:Rd H a (.dK kvs)):kvs.length <= sizeLine/\(a == sysModules) = false/\∃ vs,KV kvs vs/\h.DictOf (Zau P w) a vs :=
 show Zap P w H h a (.dK kvs) from ZkE ok e
theorem ZpJ {kvs:List (Key × V)} (ok:HOk P w H h) (e:H a = some (.dK kvs)):kvs.length <= sizeLine/\(a == sysModules) = false/\∃ vs,KV kvs vs/\h.DictOf (Zau P w) a vs:=Zhn ok (.inl e)
theorem Zg9 {ks:List Key} (ok:HOk P w H h) (e:H a = some (.tup (ks.map kV))):(tupleKind (Zau P w)).is h ks a:=by
 obtain ⟨_,its,r,o,h1,h2,n,h3⟩:=(show Zap P w H h a (.tup (ks.map kV)) from ok a _ e)
 exact ⟨o,its.toArray,n,h1,h2,h3,by simpa using ZlU r⟩
theorem Ziv {kvs:List (List Key × V)} (ok:HOk P w H h) (e:Rd H a (.dT kvs)):kvs.length <= sizeLine/\(a == sysModules) = false /\
    ∃ xs,KT H kvs xs/\h.DictOfH (tupleKind (Zau P w)) a xs:=by
  obtain ⟨z,y,xs,r,o,es,ep,h1,h2,h3,h4,h5⟩:=(show Zap P w H h a (.dT kvs) from ZkE ok e)
  refine ⟨z,y,xs,r,o,es,ep,h1,h2,h3,h4,fun x hx=>?_,h5⟩
  have all:∀ {l:List (List Key × V)} {m:List (List Key × Addr × Value)},KT H l m->∀ x ∈ m,(tupleKind (Zau P w)).is h x.1 x.2.1:=by
    intro l m q
    induction q with
    | nil=>intro x hx; exact nomatch hx
    | @cons p q ps qs hq t ih =>
      intro x hx
      rcases List.mem_cons.mp hx with e | hx
      · subst e
        exact Zg9 ok (by rw [<- hq.1]; exact hq.2.1)
      · exact ih x hx
  exact all r x hx
theorem ZsZ {kvs:List (List Key × V)} (ok:HOk P w H h) (e:H a = some (.dT kvs)):kvs.length <= sizeLine/\(a == sysModules) = false /\
  ∃ xs,KT H kvs xs/\h.DictOfH (tupleKind (Zau P w)) a xs:=Ziv ok (.inl e)
end
def Zcd (H:Hp) (a:Addr) (y:V) (r:Option V):Prop :=
 (∃ kvs k,Rd H a (.dK kvs)/\y = kV k/\r = ZaL kvs k)\/∃ kvs k b,Rd H a (.dT kvs)/\y = .ref b/\H b = some (.tup (k.map kV))/\r = ZaL kvs k
def Zig (H:Hp) (a:Addr) (y v:V) (H':Hp):Prop :=
 (∃ kvs k,H a = some (.dK kvs)/\y = kV k/\kvs.length < sizeLine/\H' = upd H a (.dK (putK kvs k v))) \/
 ∃ kvs k b,H a = some (.dT kvs)/\y = .ref b/\H b = some (.tup (k.map kV))/\kvs.length < sizeLine/\H' = upd H a (.dT (putK kvs k v))
theorem Zcd.k {H:Hp} {a:Addr} {kvs:List (Key × V)} {k:Key} (e:H a = some (.dK kvs)):Zcd H a (kV k) (ZaL kvs k):=.inl ⟨kvs,k,.inl e,rfl,rfl⟩
theorem Zcd.t {H:Hp} {a b:Addr} {kvs:List (List Key × V)} {k:List Key} (e:H a = some (.dT kvs)) (eb:H b = some (.tup (k.map kV))):Zcd H a (.ref b) (ZaL kvs k):=.inr ⟨kvs,k,b,.inl e,rfl,eb,rfl⟩
theorem Zig.k {H:Hp} {a:Addr} {kvs:List (Key × V)} {k:Key} {v:V} (e:H a = some (.dK kvs)) (hl:kvs.length < sizeLine):Zig H a (kV k) v (upd H a (.dK (putK kvs k v))):=.inl ⟨kvs,k,e,rfl,hl,rfl⟩
theorem Zig.t {H:Hp} {a b:Addr} {kvs:List (List Key × V)} {k:List Key} {v:V} (e:H a = some (.dT kvs)) (eb:H b = some (.tup (k.map kV))) (hl:kvs.length < sizeLine) :
  Zig H a (.ref b) v (upd H a (.dT (putK kvs k v))):=.inr ⟨kvs,k,b,e,rfl,eb,hl,rfl⟩
section
variable {X:Cx} {pins:List (Addr × Obj)} {σ:St} {H:Hp} {s:Shared} {a:Addr} {y v:V} {u r:Value} {o:Option V} {A:Around} {E:Value->Shared->Prop}
theorem Inv.big (I:Inv X pins σ H s):sysModules < s.heap.objs.size:=by
 have h:mainGlobals < s.heap.objs.size:=(I.mod.glob.keeps I.bk).lt
 exact Nat.lt_trans (by decide) h
theorem ZqC {Q:Value->Shared->Prop} (hu:A.units + 1 < cLine) (I:Inv X pins σ H s) (g:Zcd H a y (some v)) (ry:RelV y u) (h:∀ w' s',Inv X pins σ H s'->RelV v w'->Q w' s') :
  wpAny (model X.prog X.w) A (getItem (.ref a) u) Q E s:=by
 rcases g with ⟨kvs,k,e,ey,l⟩ | ⟨kvs,k,b,e,ey,eb,l⟩
 ·subst ey
  obtain ⟨z,hd,vs,rel,dd⟩:=Zhn I.hok e
  obtain ⟨w',hw,rw'⟩:=Zgt.some_of (v:=v) (o:=valueAt vs k) (by rw [l]; exact rel.val k)
  exact wpAny_getItem_of (Zif ry) dd.mapOf hw (h w' _ (I.tok _) rw')
 ·subst ey
  cases (show u = Value.ref b from ry)
  obtain ⟨z,hd,xs,rel,dd⟩:=Ziv I.hok e
  obtain ⟨w',hw,rw'⟩:=Zgt.some_of (v:=v) (o:=(atKey xs k).map (·.2)) (by rw [l]; exact rel.val k)
  obtain ⟨p,hp,hp2⟩:=Option.map_eq_some_iff.mp hw
  refine wpAny_getItem_heap (tupleKind_room_in1 hu) (Zg9 I.hok eb) dd hp ?_
  rw [hp2]
  exact h w' _ (I.tok _) rw'
theorem Zwt {Q:Value->Shared->Prop} (hu:A.units + 1 < cLine) (I:Inv X pins σ H s) (g:Zcd H a y o) (ry:RelV y u) (h:∀ s',Inv X pins σ H s'->Q (.bool o.isSome) s') :
  wpAny (model X.prog X.w) A (compareOp .In u (.ref a)) Q E s:=by
 rcases g with ⟨kvs,k,e,ey,l⟩ | ⟨kvs,k,b,e,ey,eb,l⟩
 ·subst ey
  obtain ⟨z,hd,vs,rel,dd⟩:=Zhn I.hok e
  refine wpAny_in_of (Zif ry) hd dd.mapOf ?_
  rw [<- (rel.val k).isSome_eq,<- l]
  exact h _ (I.tok _)
 ·subst ey
  cases (show u = Value.ref b from ry)
  obtain ⟨z,hd,xs,rel,dd⟩:=Ziv I.hok e
  refine wpAny_in_heap (tupleKind_room_in1 hu) (Zg9 I.hok eb) hd dd ?_
  have q:=(rel.val k).isSome_eq
  rw [Option.isSome_map] at q
  rw [<- q,<- l]
  exact h _ (I.tok _)
theorem Ztr {Q:Value->Shared->Prop} (hu:A.units + 1 < cLine) (I:Inv X pins σ H s) (g:Zcd H a y o) (ry:RelV y u) (h:∀ s',Inv X pins σ H s'->Q (.bool (!o.isSome)) s') :
  wpAny (model X.prog X.w) A (compareOp .NotIn u (.ref a)) Q E s:=by
 rcases g with ⟨kvs,k,e,ey,l⟩ | ⟨kvs,k,b,e,ey,eb,l⟩
 ·subst ey
  obtain ⟨z,hd,vs,rel,dd⟩:=Zhn I.hok e
  refine wpAny_notIn_of (Zif ry) hd dd.mapOf ?_
  rw [<- (rel.val k).isSome_eq,<- l]
  exact h _ (I.tok _)
 ·subst ey
  cases (show u = Value.ref b from ry)
  obtain ⟨z,hd,xs,rel,dd⟩:=Ziv I.hok e
  refine wpAny_notIn_heap (tupleKind_room_in1 hu) (Zg9 I.hok eb) hd dd ?_
  have q:=(rel.val k).isSome_eq
  rw [Option.isSome_map] at q
  rw [<- q,<- l]
  exact h _ (I.tok _)
theorem Zjp {h':Heap} {t':Nat} {ob:HO} (I:Inv X pins σ H s) (mu:Mut (H a)) (hs:Heap.SameBut a s.heap h') (he:∃ q,h'.get? a = some q) (new:Zap X.prog X.w (upd H a ob) h' a ob) :
  Inv X pins σ (upd H a ob) { s with heap:=h',toks:=t' } :=
 I.write (x:=a) (e:=a) mu (.inl rfl) (fun b q hb z=>(hs.2 b hb).trans z) he new
theorem Zqz {P:Program} {w:World} {H':Hp} {h':Heap} {kvs:List (Key × V)} {vs:List (Key × Value)} (z:kvs.length <= sizeLine) (hd:(a == sysModules) = false) (rel:KV kvs vs) (dd:h'.DictOf (Zau P w) a vs) :
  Zap P w H' h' a (.dK kvs):=⟨z,hd,vs,rel,dd⟩
theorem ZqH {H':Hp} {Q:Unit->Shared->Prop} (hu:A.units + 1 < cLine) (I:Inv X pins σ H s) (g:Zig H a y v H') (ry:RelV y u) (rv:RelV v r) (h:∀ s',Inv X pins σ H' s'->Q () s') :
  wpAny (model X.prog X.w) A (setItem (.ref a) u r) Q E s:=by
 rcases g with ⟨kvs,k,e,ey,l,eH⟩ | ⟨kvs,k,b,e,ey,eb,l,eH⟩
 ·subst ey eH
  obtain ⟨z,hd,vs,rel,dd⟩:=ZpJ I.hok e
  have hz:vs.length <= sizeLine:=by rw [<- rel.length]; exact z
  have hl:(putK kvs k v).length <= sizeLine:=by have:=ZhD kvs k v; omega
  refine wpAny_setItem_pairs (hsz:=hz) (Zif ry) dd fun h' dd' hs=>h _ ?_
  have he:∃ q,h'.get? a = some q:=let ⟨q,_,_,hq,_⟩:=dd'; ⟨q,hq⟩
  exact Zjp I (by rw [e]; exact True.intro) hs he (Zqz hl hd (rel.put k rv) dd')
 ·subst ey eH
  cases (show u = Value.ref b from ry)
  obtain ⟨z,hd,xs,rel,dd⟩:=ZsZ I.hok e
  have hz:xs.length <= sizeLine:=by rw [<- Paired.length rel]; exact z
  have hl:(putK kvs k v).length <= sizeLine:=by have:=ZhD kvs k v; omega
  refine wpAny_setItem_heap (hsz:=hz) (tupleKind_room_in1 hu) (Zg9 I.hok eb) dd fun h' dd' hs=>h _ ?_
  obtain ⟨q,es,ep,hq,h2,h3,h4,_,h5⟩:=dd'
  refine Zjp I (by rw [e]; exact True.intro) hs ⟨q,hq⟩ ⟨hl,hd,_,(rel.put k eb rv).keeps fun c ys ec=>?_,q,es,ep,hq,h2,h3,h4,h5⟩
  rw [ZG (Zs0 ec e (fun z=>nomatch z))]
  exact ec
end
section
variable {X:Cx} {pins:List (Addr × Obj)} {σ:St} {H:Hp} {s:Shared} {a:Addr} {kvs:List (Key × V)} {k:Key} {u:Value} {A:Around} {E:Value->Shared->Prop}
theorem ZvL {Q:Value->Shared->Prop} (I:Inv X pins σ H s) (e:Rd H a (.dK kvs)) (h:∀ t s',Inv X pins σ H s'->Q (.int kvs.length t) s'):wpAny (model X.prog X.w) A (call (.builtin "len") [.ref a]) Q E s:=by
 obtain ⟨z,hd,vs,rel,dd⟩:=Zhn I.hok e
 refine call_len_dict hd dd (by rw [<- rel.length]; rw [sizeLine_eq] at z; omega) ?_
 rw [<- rel.length]
 exact h _ _ (I.tok _)
end
def Zn0 (i:Expr):Prop:=∀ ov iv,subscripted i false ov iv = operate [ov,iv] (getItem ov iv)
theorem Zte {prog:Program} {w:World} {A:Around} {E:Value->Shared->Prop} {s:Shared} {env:Env} {value slice:Expr} {pos:Pos} {T id:String} {Q:Value->Shared->Prop}
  (hl:typeLookup (.type T) "__getitem__" = pure (some (.builtin id))) (hs:Zn0 slice)
  (h:wpAny (model prog w) A (eval value env) (fun o s₁=>wpAny (model prog w) A (eval slice env) (fun i s₂=>s₂.TypeIs o T/\wpAny (model prog w) A (getItem o i) Q E s₂) E s₁) E s) :
  wpAny (model prog w) A (eval (.Subscript value slice pos) env) Q E s:=by
 refine Subscript_ (wpAny_mono h (fun o s₁ h₁=>wpAny_mono h₁ (fun i s₂ h₂=>?_) fun _ _ x=>x) fun _ _ x=>x)
 obtain ⟨hT,h₂⟩:=h₂
 unfold subscriptTail
 refine wpAny_bind ?_
 rw [getitemInPython_of_ne hT.not_modules]
 refine wpAny_bind (wpAny_specialOf hT hl ?_)
 have fin:wpAny (model prog w) A (subscripted slice false o i) (fun r s₃=>wpAny (model prog w) A (letTemporaryGo value o r >>= fun _=>pure r) Q E s₃) E s₂:=by
  rw [hs o i]
  exact wpAny_operating (wpAny_mono h₂ (fun r s₃ h₃=>wpAny_bind (wpAny_letTemporaryGo (wpAny_pure h₃))) fun _ _ x=>x)
 first
  | exact wpAny_pure (wpAny_bind fin)
  | exact wpAny_bind (wpAny_pure (wpAny_bind fin))
  | exact wpAny_bind fin
theorem ZoC {X:Cx} {pins:List (Addr × Obj)} {σ:St} {H:Hp} {s:Shared} {a:Addr} {y:V} {o:Option V} (I:Inv X pins σ H s) (g:Zcd H a y o):s.TypeIs (.ref a) "dict":=by
 rcases g with ⟨kvs,k,e,_,_⟩ | ⟨kvs,k,b,e,_,_,_⟩
 ·obtain ⟨_,_,vs,_,dd⟩:=Zhn I.hok e
  exact dd.typeIs
 ·obtain ⟨_,_,xs,_,dd⟩:=Ziv I.hok e
  exact dd.typeIs
def ZvB (td ty:TE):TE:=fun σ H Q=>td σ H fun x H1=>ty σ H1 fun y H2=>∃ a v,x = .ref a/\Zcd H2 a y (some v)/\Q v H2
def Zwm (ty td:TE):TE:=fun σ H Q=>ty σ H fun y H1=>td σ H1 fun x H2=>∃ a o,x = .ref a/\Zcd H2 a y o/\Q (.bl o.isSome) H2
def ZtT (ty td:TE):TE:=fun σ H Q=>ty σ H fun y H1=>td σ H1 fun x H2=>∃ a o,x = .ref a/\Zcd H2 a y o/\Q (.bl (!o.isSome)) H2
def Zvx (td ty tv:TE):TS:=fun D σ H=>tv σ H fun v H1=>td σ H1 fun x H2=>ty σ H2 fun y H3=>∃ a H4,x = .ref a/\Zig H3 a y v H4/\D.nx σ H4
section
variable {X:Cx} {o i e value:Expr} {pos pos' tpos:Pos} {td ty tv:TE}
theorem Zln (hu:X.A.units + 1 < cLine) (ho:PE X o td) (hi:PE X i ty) (hs:Zn0 i):PE X (.Subscript o i pos) (ZvB td ty):=by
 intro pins s σ H Q I h
 refine Zte PySem.F.slot_dict_getitem.lookup hs (thn (ho pins s σ H _ I h) fun u s1 ⟨x,H1,I1,rx,q1⟩=>thn (hi pins s1 σ H1 _ I1 q1) fun iv s2 ⟨y,H2,I2,ry,a,v,ex,g,q2⟩=>?_)
 subst ex
 obtain rfl:u = Value.ref a:=rx
 exact ⟨ZoC I2 g,ZqC hu I2 g ry fun w' s3 I3 rw'=>⟨v,H2,I3,rw',q2⟩⟩
theorem Zu0 (hu:X.A.units + 1 < cLine) (hi:PE X i ty) (ho:PE X o td):PC X .In i o (Zwm ty td):=by
 intro pins s σ H Q I h
 refine thn (hi pins s σ H _ I h) fun iv s1 ⟨y,H1,I1,ry,q1⟩=>thn (ho pins s1 σ H1 _ I1 q1) fun u s2 ⟨x,H2,I2,rx,a,ov,ex,g,q2⟩=>?_
 subst ex
 obtain rfl:u = Value.ref a:=rx
 exact Zwt hu I2 g ry fun s3 I3=>⟨.bl ov.isSome,H2,I3,rfl,q2⟩
theorem ZlC (hu:X.A.units + 1 < cLine) (hi:PE X i ty) (ho:PE X o td):PC X .NotIn i o (ZtT ty td):=by
 intro pins s σ H Q I h
 refine thn (hi pins s σ H _ I h) fun iv s1 ⟨y,H1,I1,ry,q1⟩=>thn (ho pins s1 σ H1 _ I1 q1) fun u s2 ⟨x,H2,I2,rx,a,ov,ex,g,q2⟩=>?_
 subst ex
 obtain rfl:u = Value.ref a:=rx
 exact Ztr hu I2 g ry fun s3 I3=>⟨.bl (!ov.isSome),H2,I3,rfl,q2⟩
theorem Zlu (hu:X.A.units + 1 < cLine) (ho:PE X o td) (hi:PE X i ty) (hv:PE X value tv) (hs:swapsWith value (some (.Subscript o i pos')) pos.line X.env = pure false) :
  PS X (.Assign [.Subscript o i pos'] value pos) (Zvx td ty tv):=by
 intro pins s σ H D I h
 refine wpAny_Assign_Subscript (thn (hv pins s σ H _ I h) fun r s1 ⟨v,H1,I1,rv,q1⟩=>thn (ho pins s1 σ H1 _ I1 q1) fun u s2 ⟨x,H2,I2,rx,q2⟩=>thn (hi pins s2 σ H2 _ I2 q2) fun iv s3 ⟨y,H3,I3,ry,a,H4,ex,g,q3⟩=>?_) hs
 subst ex
 obtain rfl:u = Value.ref a:=rx
 exact ZqH hu I3 g ry rv fun s4 I4=>⟨σ,H4,I4,q3⟩
end
theorem Zn9 {P:Program} {w:World} {H:Hp} (h:Heap) (hb:sysModules < h.objs.size):Zap P w H (h.push { cls:=.type "dict",data:=.dict #[] }) h.objs.size (.dK []) :=
 ⟨Nat.zero_le _,beq_eq_false_iff_ne.mpr (Ne.symm (Nat.ne_of_lt hb)),[],.nil,Heap.DictOf.new h⟩
theorem ZrU {P:Program} {w:World} {H:Hp} (h:Heap) (hb:sysModules < h.objs.size):Zap P w H (h.push { cls:=.type "dict",data:=.dict #[] }) h.objs.size (.dT []) :=
 ⟨Nat.zero_le _,beq_eq_false_iff_ne.mpr (Ne.symm (Nat.ne_of_lt hb)),[],.nil,_,#[],0,Heap.get?_push_size _ rfl,⟨rfl,rfl,rfl⟩,rfl,rfl,List.nodup_nil⟩
def Zvm:TE:=fun _ H Q=>∀ p,H p = none->Q (.ref p) (upd H p (.dK []))
def Zu5:TE:=fun _ H Q=>∀ p,H p = none->Q (.ref p) (upd H p (.dT []))
section
variable {X:Cx} {pos:Pos}
theorem Zso:PE X (.Dict [] [] pos) Zvm:=fun pins s σ H Q I h =>
 wpAny_Dict_empty ⟨.ref s.heap.objs.size,_,I.laid (a:=s.heap.objs.size) (o:=.dK []) (t':=s.toks) (fun _ _ q=>Heap.get?_push_of_some _ q) (Nat.le_refl _) (Zn9 s.heap I.big),rfl,h _ (I.hok.fresh (Nat.le_refl _))⟩
theorem ZmZ:PE X (.Dict [] [] pos) Zu5:=fun pins s σ H Q I h =>
 wpAny_Dict_empty ⟨.ref s.heap.objs.size,_,I.laid (a:=s.heap.objs.size) (o:=.dT []) (t':=s.toks) (fun _ _ q=>Heap.get?_push_of_some _ q) (Nat.le_refl _) (ZrU s.heap I.big),rfl,h _ (I.hok.fresh (Nat.le_refl _))⟩
end
def Znw:List (TE × TE)->St->Hp->(List (V × V)->Hp->Prop)->Prop
 | [],_,H,Q=>Q [] H
 | (tk,tv) :: r,σ,H,Q=>tk σ H fun x H1=>tv σ H1 fun y H2=>Znw r σ H2 fun ps H3=>Q ((x,y) :: ps) H3
abbrev VV:List (V × V)->List (Value × Value)->Prop:=Paired fun p q=>RelV p.1 q.1/\RelV p.2 q.2
def PPs (X:Cx) (pos:Pos) (keys:List (Option Expr)) (values:List Expr) (trs:List (TE × TE)):Prop :=
 ∀ (pins:List (Addr × Obj)) (s:Shared) (σ:St) (H:Hp) (Q:List (V × V)->Hp->Prop),Inv X pins σ H s->Znw trs σ H Q ->
  wpAny (model X.prog X.w) X.A (evalPairs (pairTrees keys values X.env pos)) (fun vs s'=>∃ ps H',Inv X pins σ H' s'/\VV ps vs/\Q ps H') X.xe s
theorem ZtS {X:Cx} {pos:Pos}:PPs X pos [] [] []:=fun pins s σ H Q I h=>pairTrees_nil_walk ⟨[],H,I,.nil,h⟩
theorem ZrS {X:Cx} {pos:Pos} {k v:Expr} {ks:List (Option Expr)} {vs:List Expr} {tk tv:TE} {trs:List (TE × TE)} (hk:PE X k tk) (hv:PE X v tv) (hr:PPs X pos ks vs trs) :
  PPs X pos (some k :: ks) (v :: vs) ((tk,tv) :: trs):=fun pins s σ H Q I h =>
 pairTrees_cons_walk (thn (hk pins s σ H _ I h) fun u s1 ⟨x,H1,I1,rx,q1⟩=>thn (hv pins s1 σ H1 _ I1 q1) fun w2 s2 ⟨y,H2,I2,ry,q2⟩ =>
  thn (hr pins s2 σ H2 _ I2 q2) fun ws s3 ⟨ps,H3,I3,rel,q3⟩=>⟨(x,y) :: ps,H3,I3,.cons ⟨rx,ry⟩ rel,q3⟩)
def ZhR (kvs more:List (Key × V)):List (Key × V):=more.foldl (fun acc kv=>putK acc kv.1 kv.2) kvs
theorem KV.merge:∀ {more:List (Key × V)} {rs:List (Key × Value)} {kvs:List (Key × V)} {vs:List (Key × Value)},KV more rs->KV kvs vs->KV (ZhR kvs more) (merged vs rs):=by
  intro more rs kvs vs r
  unfold KV at r
  induction r generalizing kvs vs with
  | nil=>intro q; exact q
  | @cons p q ps qs h t ih =>
    intro r0
    have e:KV (putK kvs p.1 p.2) (stored vs q.1 q.2):=by
      have:=r0.put p.1 h.2
      rw [<- h.1]; exact this
    exact ih e
theorem ZiD:∀ (more kvs:List (Key × V)),(ZhR kvs more).length <= kvs.length + more.length
  | [],kvs=>by show kvs.length <= kvs.length + 0; omega
  | p :: r, kvs => by
    have h1:=ZiD r (putK kvs p.1 p.2)
    have h2:=ZhD kvs p.1 p.2
    show (ZhR (putK kvs p.1 p.2) r).length <= _
    rw [List.length_cons]; omega
theorem ZkU {P:Program} {w:World}:∀ {kvs:List (Key × V)} {ws:List (Value × Value)},VV (kvs.map fun kv=>(kV kv.1,kv.2)) ws->∃ rs,Carries (Zau P w) ws rs/\KV kvs rs
  | [],_,r=>by rw [List.map_nil] at r; cases r; exact ⟨[],True.intro,.nil⟩
  | p :: kvs, _, r => by
    rw [List.map_cons] at r
    cases r with
    | @cons a b as bs h t =>
      obtain ⟨rs,c,q⟩:=ZkU (P:=P) (w:=w) t
      obtain ⟨b1,b2⟩:=b
      exact ⟨(p.1,b2) :: rs,⟨Zif h.1,rfl,c⟩,.cons ⟨rfl,h.2⟩ q⟩
def ZvO (trs:List (TE × TE)):TE:=fun σ H Q=>∀ p,H p = none->Znw trs σ (upd H p (.dK [])) fun ps H2=>H2 p = some (.dK [])/\∃ kvs:List (Key × V),ps = kvs.map (fun kv=>(kV kv.1,kv.2))/\kvs.length <= 15/\Q (.ref p) (upd H2 p (.dK (ZhR [] kvs)))
theorem ZtC {X:Cx} {pos:Pos} {keys:List (Option Expr)} {values:List Expr} {trs:List (TE × TE)} (h:PPs X pos keys values trs) (hall:keys.all (·.isSome) = true) (hl:keys.length = values.length) (h0:keys ≠ [])
  (h15:keys.length <= 15):PE X (.Dict keys values pos) (ZvO trs):=by
 intro pins s σ H Q I q
 have hn:=I.hok.fresh (Nat.le_refl s.heap.objs.size)
 have I1:=I.laid (a:=s.heap.objs.size) (o:=.dK []) (h':=s.heap.push { cls:=.type "dict",data:=.dict #[] }) (t':=s.toks) (fun _ _ q=>Heap.get?_push_of_some _ q) (Nat.le_refl _) (Zn9 s.heap I.big)
 refine wpAny_Dict_walk (knd:=Zau X.prog X.w) hall hl h0 h15 (thn (h pins _ σ _ _ I1 (q _ hn)) fun ws s2 ⟨ps,H2,I2,rel,e,kvs,ep,lk,q2⟩=>?_)
 subst ep
 obtain ⟨rs,c,rk⟩:=ZkU (P:=X.prog) (w:=X.w) rel
 obtain ⟨z,hd,vs0,r0,dd⟩:=ZpJ I2.hok e
 cases r0
 refine ⟨rs,c,dd,fun h' dd' hs=>⟨.ref s.heap.objs.size,_,?_,rfl,q2⟩⟩
 have hz:(ZhR [] kvs).length <= sizeLine:=by
  have h1:=ZiD kvs []
  rw [List.length_nil] at h1
  rw [sizeLine_eq]; omega
 have he:∃ q,h'.get? s.heap.objs.size = some q:=let ⟨q,_,_,hq,_⟩:=dd'; ⟨q,hq⟩
 exact Zjp I2 (by rw [e]; exact True.intro) hs he (Zqz hz hd (rk.merge .nil) dd')
structure M2 (X:Cx) (o:Expr) (m:Str) (apos:Pos) (e f:Expr) (cpos:Pos):Prop where
 base:attributeBase o m X.env (eval o X.env) = eval o X.env
 few:((backTo cpos (starEach [e,f] X.env)).all (fun x=>!x.1) && (backToKw cpos (keywordEach [] X.env)).all (fun x=>x.1.isSome)
  && decide (([e,f]:List Expr).length + ([]:List Keyword).length + (if ([]:List Keyword).isEmpty then 0 else 1) < 30)) = true
 line:(apos.endLine == cpos.line) = true
 trees:backTo cpos (starEach [e,f] X.env) = [(false,eval e X.env),(false,eval f X.env)]
def IsD (H:Hp) (a:Addr):Prop:=(∃ kvs,Rd H a (.dK kvs))\/∃ kvs,Rd H a (.dT kvs)
theorem Zqx {X:Cx} {pins:List (Addr × Obj)} {σ:St} {H:Hp} {s:Shared} {a:Addr} (I:Inv X pins σ H s) (d:IsD H a) :
  s.TypeIs (.ref a) "dict"/\(∀ b,Value.ref a = .ref b->∃ ob,s.heap.get? b = some ob/\ob.dict = none)/\(a == sysModules) = false:=by
 rcases d with ⟨kvs,e⟩ | ⟨kvs,e⟩
 ·obtain ⟨_,hd,vs,_,dd⟩:=Zhn I.hok e
  refine ⟨dd.typeIs,fun b q=>?_,hd⟩
  cases q
  obtain ⟨ob,_,_,h1,h2,_⟩:=dd
  exact ⟨ob,h1,h2.2.1⟩
 ·obtain ⟨_,hd,xs,_,dd⟩:=Ziv I.hok e
  refine ⟨dd.typeIs,fun b q=>?_,hd⟩
  cases q
  obtain ⟨ob,_,_,h1,h2,_⟩:=dd
  exact ⟨ob,h1,h2.2.1⟩
section
variable {X:Cx} {pins:List (Addr × Obj)} {σ:St} {H:Hp} {s:Shared} {a:Addr} {y d:V} {u r:Value} {o:Option V} {A:Around} {E:Value->Shared->Prop}
theorem ZuP {Q:Value->Shared->Prop} (hu:A.units + 1 < cLine) (I:Inv X pins σ H s) (g:Zcd H a y o) (ry:RelV y u) (rd:RelV d r) (h:∀ w' s',Inv X pins σ H s'->RelV (o.getD d) w'->Q w' s') :
  wpAny (model X.prog X.w) A (call (.builtin "dict.get") [.ref a,u,r]) Q E s:=by
 rcases g with ⟨kvs,k,e,ey,l⟩ | ⟨kvs,k,b,e,ey,eb,l⟩
 ·subst ey
  obtain ⟨z,hd,vs,rel,dd⟩:=Zhn I.hok e
  refine call_meetsIn PySem.F.slot_dict_get dd.typeIs PySem.F.entry_dict_get (PySem.F.args_dict_get_3 _ _ _) (meets_dict_get_default (Zau X.prog X.w) a (Zif ry) hd r) ⟨_,dd.mapOf,h _ _ (I.tok _) ?_⟩
  rw [l]
  exact (rel.val k).getD rd
 ·subst ey
  cases (show u = Value.ref b from ry)
  obtain ⟨z,hd,xs,rel,dd⟩:=Ziv I.hok e
  refine call_meetsIn PySem.F.slot_dict_get dd.typeIs PySem.F.entry_dict_get (PySem.F.args_dict_get_3 _ _ _) (meetsH_dict_get_default (tupleKind (Zau X.prog X.w)) a b hd r) ⟨tupleKind_room_in1 hu,k,xs,Zg9 I.hok eb,dd,h _ _ (I.tok _) ?_⟩
  rw [l]
  exact (rel.val k).getD rd
end
def Zu1 (td ty tx:TE):TE:=fun σ H Q=>td σ H fun x H1=>∃ a,x = .ref a/\IsD H1 a/\ty σ H1 fun y H2=>tx σ H2 fun z H3=>∃ o,Zcd H3 a y o/\Q (o.getD z) H3
section
variable {X:Cx} {o e f:Expr} {apos cpos:Pos} {td ty tx:TE}
theorem ZsX (hu:X.A.units + 1 < cLine) (ho:PE X o td) (he:PE X e ty) (hf:PE X f tx) (m:M2 X o "get" apos e f cpos):PE X (.Call (.Attribute o "get" apos) [e,f] [] cpos) (Zu1 td ty tx):=by
 intro pins s σ H Q I h
 refine wpAny_Call_method m.base m.few m.line PySem.F.plainAttrs_dict PySem.F.slot_dict_get PySem.F.type_dict_get (thn (ho pins s σ H _ I h) fun u s1 ⟨x,H1,I1,rx,a,ex,d,q1⟩=>?_)
 subst ex
 obtain rfl:u = Value.ref a:=rx
 obtain ⟨t1,t2,_⟩:=Zqx I1 d
 refine ⟨t1,t2,?_⟩
 rw [m.trees]
 refine Calls.callWith_builtin rfl (Calls.evalArgs_plain (Calls.spliced_cons (thn (he pins s1 σ H1 _ I1 q1) fun iv s2 ⟨y,H2,I2,ry,q2⟩ =>
  Calls.spliced_cons (thn (hf pins s2 σ H2 _ I2 q2) fun fv s3 ⟨z,H3,I3,rz,ov,g,q3⟩=>Calls.spliced_nil ?_))))
 exact ZuP hu I3 g ry rz fun w' s4 I4 rw'=>⟨_,H3,I4,rw',q3⟩
end
end L2
namespace Att
open PySem PySem.W PySem.Calls PyProof.Rows
theorem ZkG {P:Params} {h:Heap}:∀ (ns:List Int) (vs:List Value),WellAll P h vs (ns.map WData.int)->IntsAre vs ns:=by
  intro ns
  induction ns with
  | nil =>
    intro vs w
    rw [List.map_nil] at w
    cases w
    exact .nil
  | cons n ns ih =>
    intro vs w
    rw [List.map_cons] at w
    cases w with
    | cons a b =>
      cases a
      exact .cons _ _ (ih _ b)
theorem ZqU {l:OpenLaw} {n:Nat} (hn:l.most = some n) {P:Params} {h:Heap} {args:List WData} {vals:List Value}
    (hpre:l.row.toRowW.claim.pre args = true) (hwl:WellAll P h vals args) :
    ∃ a vs ns,vals = [Value.ref a]/\args = [WData.list (ns.map WData.int)]/\h.get? a = some { cls:=.type "list",data:=.seq vs.toArray }/\IntsAre vs ns/\ns.length <= n:=by
  have hsh:WShape.hasAll [] args [.list .int] = true:=(pre_splitW hpre).1
  have hc:l.pre.holds [] { args:=args } = true:=(pre_splitW hpre).2
  obtain ⟨d,r,rfl,h1,h2⟩:=hasAllW_cons hsh
  obtain rfl:=hasAllW_nil h2
  obtain ⟨xs,rfl,h3⟩:=hasW_list h1
  obtain ⟨ns,rfl⟩:=items_int h3
  have hlen:ns.length <= n:=by
    unfold OpenLaw.pre at hc
    have h4:(WTm.not (.lt (.lit (.int (n:Int))) (.len (.arg 0)))).holds [] { args:=[.list (ns.map .int)] } = true:=by
      have h4:=(holds_andW hc).1
      rw [hn] at h4
      exact h4
    have h5:=condW_of h4 (w_not (w_lt w_lit (w_len_list (w_arg rfl))))
    rw [List.length_map] at h5
    refine Nat.le_of_not_lt fun q=>?_
    have q':(n:Int) < ((ns.length:Nat):Int):=by omega
    first
      | (rw [decide_eq_true q'] at h5; exact absurd h5 (by decide))
      | (simp at h5; omega)
  cases hwl with
  | cons w1 w2 =>
    cases w2
    cases w1 with
    | list ho hall=>exact ⟨_,_,ns,rfl,rfl,ho,ZkG ns _ hall,hlen⟩
theorem ZqA (l:OpenLaw) (args:List WData):l.row.toRowW.claim.post args (.bool true) args = true :=
 postW_of (r:=l.row.toRowW) (X:=(true == true))
  (show WShape.has [] (.bool true) .bool = true by first | rfl | decide | simp [WShape.has,WShape.arms,WShape.armsAll])
  (show (WTm.eq .res (.lit (.bool true))).value [] { args:=args,res:=some (.bool true),after:=args } = some (.bool (true == true)) from w_eq_bool (w_res rfl) w_lit) rfl
theorem ZoH {l:OpenLaw} {n:Nat} {q:Program} {loose:List Str} {XP:(Str->Option Value)->Heap->Prop} {YP:World->Heap->Prop} {d:DefRec}
  (hn:l.most = some n) (hdf:d.params.defaults = [])
  (call:∀ (w:World) (s₀ s₁:Shared) (mg mb:Str->Option Value) (fa:Addr) (o:Obj) (pm cd doc:Value) (a:Addr) (vs:List Value) (ns:List Int),
   Ground q loose [] XP w s₀ mg mb s₁.heap->YP w s₁.heap ->
   s₁.heap.get? fa = some o->o.data = .func (docDef d.name d.params d.body d.scope pm cd doc)->s₁.heap.CodeRec cd d.name->mg d.name = some (.ref fa) ->
   s₁.heap.get? a = some { cls:=.type "list",data:=.seq vs.toArray }->IntsAre vs ns->ns.length <= n->s₁.gens = #[] ->
   codeAny (model l.prog w) callerA (.call (.ref fa) ⟨[.ref a],[]⟩) (fun r s'=>r = .ok (.ret (.bool true))/\OldK s₁.heap s'.heap/\s'.os = s₁.os/\AllBare s'.gens) s₁) :
  WalkO q loose XP YP l.row.toRowW d [] (fun f vs=>PySem.call f vs):=by
 intro w s₀ s₁ mg mb G Y fa o pm cd doc dV kV ho hd hcd hD hmg hg args vals as hpre hlay hrd hwl hlo
 obtain rfl:dV = .none:=Dflts.none hD hdf
 obtain rfl:kV = .none:=Dflts.noKw hD
 obtain ⟨a,vs,ns,rfl,rfl,hobj,hints,hlen⟩:=ZqU hn hpre hwl
 refine enter_call (codeAny_mono (call w s₀ s₁ mg mb fa o pm cd doc a vs ns G Y ho (fd_plain hd) hcd hmg hobj hints hlen hg) fun r s' hq=>?_)
 obtain ⟨rfl,h2,h3,h4⟩:=hq
 exact ⟨.inl ⟨.bool true,.bool true,[],rfl,fun _=>rfl,.bool true,ZqA l _,fun _=>⟨List.Pairwise.nil,fun _ hm=>(nomatch hm)⟩⟩,h2,h3,h4⟩
end Att
namespace L2
open PySem PySem.Spec PyProof.Rows
theorem ZlD:∀ {vs:List Value} {ns:List Int},IntsAre vs ns->Vals (ns.map V.int) vs
 | _,_,.nil=>.nil
 | _,_,.cons n t h=>.cons ⟨t,rfl⟩ (ZlD h)
def Zsz (H:Hp):Prop:=∀ b,H b = none\/∃ o xs,H b = some (.frz o (.lst xs))
theorem Zr8 {P:Program} {w:World} {K:PySem.W.Frag} {mg mb:Str->Option Value} {CX:CXT} {k:Nat} {fa a:Addr} {fd:FuncData} {x:Str} {sp:Sp} {s₁:Shared} {vs:List Value} {ns:List Int}
    (KX:K.In s₁.heap) (hns:s₁.heap.Ns mainGlobals mg) (hb:s₁.heap.Ns builtinsNs mb) (hbb:∀ x:Str,x ≠ "__name__"->mb x = bootBuiltins x) (hlim:s₁.heap.NoLimit) (hg:s₁.gens = #[])
    (ha:s₁.heap.get? a = some { cls:=.type "list",data:=.seq vs.toArray }) (hi:IntsAre vs ns) (hl:ns.length <= sizeLine) (hr:ZaN k callerA)
    (F:∀ base:Heap,K.In base->base.Ns mainGlobals mg->Zen P w K mg base CX k fa fd [x] sp) (hbind:∀ (s:Shared) (u:Value),BindsTo s fd ⟨[u],[]⟩ [(x,u)])
    (hsp:∀ H:Hp,Zsz H->SqL K H a (ns.map V.int)->sp [.ref a] H (fun v _=>v = .bl true) fun _ _ _=>False)
    (hCX:∀ H e s',CX [] H s₁ (fun _ _ _=>False) e s'->False) :
    codeAny (model P w) callerA (.call (.ref fa) ⟨[.ref a],[]⟩) (fun r s'=>r = .ok (.ret (.bool true))/\OldK s₁.heap s'.heap/\s'.os = s₁.os/\AllBare s'.gens) s₁:=by
  have rv:=ZlD hi
  have lenV:=hi.length
  have core:∀ H:Hp,Zsz H->SqL K H a (ns.map V.int)->HOk P w H s₁.heap->(∀ b,H b ≠ none->b = a)->(H a ≠ none->K.lookup a = none) ->
      codeAny (model P w) callerA (.call (.ref fa) ⟨[.ref a],[]⟩) (fun r s'=>r = .ok (.ret (.bool true))/\OldK s₁.heap s'.heap/\s'.os = s₁.os/\AllBare s'.gens) s₁:=by
    intro H hO hS hok hA hK
    have base_of:∀ {b:Addr} {o:Obj},s₁.heap.get? b = some o->H b = none->(Zit s₁.heap H).get? b = some o:=fun e n=>ZrQ e n
    have noA:∀ {b:Addr} {o:Obj} {es:Array DictEntry} {ep:Nat},s₁.heap.get? b = some o->o.data = .dict es ep->H b = none:=fun {b o es ep} e d=>by
      cases q:H b with
      | none=>rfl
      | some u =>
        have e':b = a:=hA b (by rw [q]; simp)
        subst e'
        rw [ha] at e; cases e
        have d':Data.seq vs.toArray _ = Data.dict es ep:=d
        cases d'
    have nsK:∀ {b:Addr} {m:Str->Option Value},s₁.heap.Ns b m->(Zit s₁.heap H).Ns b m:=fun {b m} ⟨o,es,ep,e,d,r⟩=>⟨o,es,ep,base_of e (noA e d),d,r⟩
    have hKb:K.In (Zit s₁.heap H):=fun b o e=>base_of (KX b o e) (by
      cases q:H b with
      | none=>rfl
      | some u =>
        have e':b = a:=hA b (by rw [q]; simp)
        subst e'
        rw [hK (by rw [q]; simp)] at e; cases e)
    have hM:Mod K mg (Zit s₁.heap H):=⟨hKb,nsK hns,⟨mb,nsK hb,hbb⟩,let ⟨mc,h1,h2⟩:=hlim; ⟨mc,nsK h1,h2⟩⟩
    have e0:ZpA P w K mg (Zit s₁.heap H) callerA [] s₁ H:=⟨rfl,hM,fun b o e=>Zt0 e,Nat.le_of_eq (Zri _ _),trivial,fun b hb=>absurd (show b ∈ ([]:List Addr) from hb) (by simp),hok,.of_eq hg⟩
    refine codeAny_mono ((F _ hKb (nsK hns)).run callerA [] s₁ H ⟨[.ref a],[]⟩ [.ref a] [.ref a] _ _ hr e0 (hbind s₁ (.ref a)) (.cons rfl .nil) (hsp H hO hS)) fun r s' h=>?_
    cases r with
    | error e=>exact (hCX H e s' h).elim
    | ok fl =>
      cases fl with
      | next=>exact False.elim h
      | brk=>exact False.elim h
      | cont=>exact False.elim h
      | ret u =>
        obtain ⟨v,H',os,bare,un,hok',r',q⟩:=h
        have q':v = .bl true:=q
        subst q'
        obtain rfl:u = Value.bool true:=r'
        refine ⟨rfl,OldK.of_keep fun b o e=>?_,os,bare⟩
        cases q:H b with
        | none=>exact un.keep b o e q (by intro z; exact absurd (show b ∈ ([]:List Addr) from z) (by simp)) (by simp)
        | some u =>
          rcases hO b with z | ⟨ob,xs,z⟩
          · rw [q] at z; cases z
          · have z2 := un.frzs b ob _ z
            obtain ⟨e1,_⟩:=hok b _ z
            obtain ⟨e2,_⟩:=hok' b _ z2
            rw [e] at e1; cases e1
            exact e2
  cases hk:K.lookup a with
  | some o =>
    have e:=KX a o hk
    rw [ha] at e
    cases e
    refine core (fun _=>none) (fun _=>.inl rfl) (.inr ⟨_,vs.toArray,_,hk,rfl,rfl,rfl,by rw [List.size_toArray,lenV]; exact hl,by simpa using rv⟩) (fun b u z=>by have z':(none:Option HO) = some u:=z; cases z') (fun b z=>absurd rfl z) fun z=>absurd rfl z
  | none =>
    refine core (fun b=>if b = a then some (.frz { cls:=.type "list",data:=.seq vs.toArray } (.lst (ns.map V.int))) else none) (fun b=>?_) (.inl (.inr ⟨{ cls:=.type "list",data:=.seq vs.toArray },if_pos rfl⟩)) (fun b u z=>?_) (fun b z=>?_) fun _=>hk
    · by_cases hb : b = a
      · exact .inr ⟨_,_,if_pos hb⟩
      · exact .inl (if_neg hb)
    · by_cases hb : b = a
      · have z' := (if_pos hb).symm.trans z
        cases z'
        subst hb
        exact ⟨ha,by rw [List.length_map]; exact hl,vs,_,rv,ha⟩
      · have z' := (if_neg hb).symm.trans z
        cases z'
    · by_cases hb : b = a
      · exact hb
      · exact absurd (if_neg hb) z
end L2
namespace L2
open PySem PySem.Spec PyProof.Rows
theorem Ztu {l:PySem.W.OpenLaw} {n k:Nat} {q:Program} {loose:List Str} {XP:(Str->Option Value)->Heap->Prop} {YP:World->Heap->Prop} {d:DefRec} {K:Params->PySem.W.Frag} {CX:World->CXT} {sp:World->Sp} {x:Str}
  (hn:l.most = some n) (hn2:n <= sizeLine) (hdf:d.params.defaults = []) (hr:ZaN k callerA)
  (hY:∀ (w:World) (h:Heap),YP w h->(K w.params).In h)
  (F:∀ (w:World) (mg:Str->Option Value) (fa:Addr) (h:Heap),(K w.params).In h->h.Ns mainGlobals mg->mg d.name = some (.ref fa) ->
   ∃ fd:FuncData,(∀ (s:Shared) (u:Value),BindsTo s fd ⟨[u],[]⟩ [(x,u)]) /\
    ∀ base:Heap,(K w.params).In base->base.Ns mainGlobals mg->Zen l.prog w (K w.params) mg base (CX w) k fa fd [x] (sp w))
  (hsp:∀ (w:World) (H:Hp) (a:Addr) (ns:List Int),ns.length <= n->Zsz H->SqL (K w.params) H a (ns.map V.int)->sp w [.ref a] H (fun v _=>v = .bl true) fun _ _ _=>False)
  (hCX:∀ (w:World) (H:Hp) (s:Shared) (e:Value) (s':Shared),CX w [] H s (fun _ _ _=>False) e s'->False) :
  PySem.W.WalkO q loose XP YP l.row.toRowW d [] (fun f vs=>PySem.call f vs):=by
 refine Att.ZoH hn hdf fun w s₀ s₁ mg mb fa o pm cd doc a vs ns G Y ho hd hcd hmg hobj hints hlen hg=>?_
 have KX:=hY w _ Y
 obtain ⟨fd,hb,hF⟩:=F w mg fa _ KX G.T.g hmg
 exact Zr8 KX G.T.g G.T.b G.T.builtins G.T.nolimit hg hobj hints (Nat.le_trans hlen hn2) hr hF hb (fun H hO hS=>hsp w H a ns hlen hO hS) fun H e s'=>hCX w H s₁ e s'
end L2
namespace L2
open PySem PySem.Spec PyProof.Rows
def ZfK (s:Stmt):Arguments:=match s with
 | .FunctionDef _ a _ _ _ _ _ _ _ _=>a
 | _=>{ posonlyargs:=[],args:=[],vararg:=none,kwonlyargs:=[],kw_defaults:=[],kwarg:=none,defaults:=[] }
def Zc1 (s:Stmt):List Stmt:=match s with
 | .FunctionDef _ _ b _ _ _ _ _ _ _=>b
 | _=>[]
def Zg (s:Stmt):Scope:=match s with
 | .FunctionDef _ _ _ _ _ _ sc _ _ _=>sc
 | _=>{ kind:=.function,names:=[],isGenerator:=false,isCoroutine:=false }
abbrev CX0:CXT:=fun _ _ _ _ _ _=>False
abbrev E0:XK:=fun _ _ _=>False
theorem ZkJ {X:Cx}:Passes CX0 X E0:=fun _ _ _ _ _ _ _ h=>h.elim
structure Fun (K:PySem.W.Frag) (x qual:Str) (st:Stmt) (f:Addr) (fd:FuncData):Prop where
 ex:∃ (oc:Value) (od:Option Addr) (kV doc pm:Value) (an:Option Addr) (cdv ct:Value) (osl:Array (Option Value)),
  fd = PySem.W.fnOf x qual (ZfK st) (Zc1 st) (Zg st) .none kV doc pm an cdv ct/\K.lookup f = some ⟨oc,od,.func fd,osl⟩/\PySem.W.codeIn K cdv qual = true
 kp:PySem.W.keepIn K (.ref f) = true
section
variable {P:Program} {w:World} {K:PySem.W.Frag} {mg:Str->Option Value} {base:Heap}
theorem Fun.ok {x qual:Str} {st:Stmt} {f:Addr} {fd:FuncData} {N ps:List Str} {k:Nat} {sp:Sp} (F:Fun K x qual st f fd) (S:ZB N ps (Zg st)) (len:∀ vs H Q E,sp vs H Q E->vs.length = ps.length)
  (hbody:∀ (cdv:Value) (A:Around) (outer:List Env) (s:Shared) (H:Hp) (vs:List V) (Q:VK) (E:XK),ZaN k (A.deeper (envOfC qual (Zg st) s.heap.objs.size f cdv))->sp vs H Q E ->
   ∃ t,PSs (Zii CX0 P w K mg base N qual (Zg st) f cdv A outer s H E).nox (Zc1 st) t/\t { nx:=fun _ H'=>Q .non H',rt:=Q } (start N vs) H):Zen P w K mg base CX0 (k + 1) f fd ps sp:=by
 obtain ⟨oc,od,kV,doc,pm,an,cdv,ct,osl,rfl,lk,hcd⟩:=F.ex
 refine ZvI lk hcd S len fun A outer s H vs Q E hr hsp=>?_
 obtain ⟨t,h,q⟩:=hbody cdv A outer s H vs Q E hr hsp
 exact ⟨t,h.nox,q⟩
theorem Fun.binds {x qual:Str} {st:Stmt} {f:Addr} {fd:FuncData} {ps:List Str} (F:Fun K x qual st f fd)
  (h:∀ (kV doc pm:Value) (an:Option Addr) (cdv ct:Value) (us:List Value),us.length = ps.length->bindArgs (PySem.W.fnOf x qual (ZfK st) (Zc1 st) (Zg st) .none kV doc pm an cdv ct) ⟨us,[]⟩ = pure (ps.zip us)):Binds K fd ps []:=by
 obtain ⟨oc,od,kV,doc,pm,an,cdv,ct,osl,rfl,lk,hcd⟩:=F.ex
 exact .all (h kV doc pm an cdv ct)
theorem Zna {x qual:Str} {st:Stmt} {f:Addr} {oc:Value} {od an:Option Addr} {osl:Array (Option Value)} {kV doc pm cdv ct:Value} (l:K.lookup f = some ⟨oc,od,.func (PySem.W.fnOf x qual (ZfK st) (Zc1 st) (Zg st) .none kV doc pm an cdv ct),osl⟩)
  (c:PySem.W.codeIn K cdv qual = true) (k:PySem.W.keepIn K (.ref f) = true):Fun K x qual st f (PySem.W.fnOf x qual (ZfK st) (Zc1 st) (Zg st) .none kV doc pm an cdv ct):=⟨⟨oc,od,kV,doc,pm,an,cdv,ct,osl,rfl,l,c⟩,k⟩
end
theorem ZU {A:Around} {k:Nat} (hr:ZaN k A):A.units + 1 < cLine:=Nat.lt_of_le_of_lt (Nat.add_le_add_left (by decide:1 <= 64) _) hr.units
theorem Zlt {A B:Prop} (h:B):if false = true then A else B:=by
 rw [if_neg Bool.false_ne_true]
 exact h
theorem Zlc {A B:Prop} (h:A):if true = true then A else B:=by
 rw [if_pos rfl]
 exact h
def Zw (H H':Hp):Prop:=∀ b o,H b = some o->H' b = some o
theorem Zw.refl (H:Hp):Zw H H:=fun _ _ h=>h
theorem Zw.trans {H H1 H2:Hp} (a:Zw H H1) (b:Zw H1 H2):Zw H H2:=fun c o h=>b c o (a c o h)
theorem Zw.free {H H':Hp} (e:Zw H H') {l:Addr} (h:H' l = Option.none):H l = Option.none:=by
  cases q:H l with
  | none=>rfl
  | some o =>
    rw [e l o q] at h
    cases h
theorem Zw.seq {K:PySem.W.Frag} {H H':Hp} {a:Addr} {xs:List V} (e:Zw H H') (h:SqL K H a xs):SqL K H' a xs:=by
 rcases h with (h | ⟨o,h⟩) | h
 ·exact .inl (.inl (e _ _ h))
 ·exact .inl (.inr ⟨o,e _ _ h⟩)
 ·exact .inr h
end L2
namespace L2
open PySem PySem.Spec PyProof.Rows
section
variable {X:Cx}
theorem Zrp:Za7 X (.builtin "len") (fun xs H Q=>∃ a kvs,xs = [V.ref a]/\H a = some (.dK kvs)/\Q (.int kvs.length) H):=by
 intro pins s σ H xs us Q I r h
 obtain ⟨a,kvs,rfl,ha,q⟩:=h
 obtain ⟨u,rfl,ru⟩:=vals1 r
 cases ru
 exact ZvL I (.inl ha) fun t s' I'=>⟨.int kvs.length,H,I',⟨t,rfl⟩,q⟩
end
end L2
namespace HM
open PySem
abbrev D:=PyData
abbrev Ky:=Sum Int Str
inductive B where
 | pl (d:D)
 | ol (ds:List D)
 | ok (kvs:List (Ky × D))
 | ot (kvs:List (List Ky × D))
 | otl (kvs:List (List Ky × List D))
 | hd (es:List (D × D))
abbrev Env:=List (Option B)
inductive Out where
 | nx (r:Env)
 | rt (d:D)
 | bk (r:Env)
 | ct (r:Env)
abbrev EF:=Env->Option D
abbrev BF:=Env->Option B
abbrev TF:=Env->Option Bool
abbrev IF:=Env->Option (List D)
abbrev AF:=Env->Option (List D)
abbrev SF:=Env->Option Out
@[simp] def big:Nat:=1000000
@[simp] def Zb (i:Nat):EF:=fun r=>match r[i]? with
 | some (some (.pl d))=>some d
 | _=>none
@[simp] def Zk (i:Nat):BF:=fun r=>match r[i]? with
 | some (some b)=>some b
 | _=>none
@[simp] def bOf (f:EF):BF:=fun r=>(f r).map B.pl
def ZaO:Ky->D
 | .inl i=>.int i
 | .inr x=>.str x
def Zo (kvs:List (List Ky × D)):List (D × D):=kvs.map fun p=>(.tuple (p.1.map ZaO),p.2)
@[simp] def frz:B->Option D
 | .pl d=>some d
 | .ol ds=>some (.list ds)
 | .ot kvs=>some (.dict (Zo kvs))
 | .hd es=>some (.dict es)
 | _=>none
@[simp] def eOf (f:BF):EF:=fun r=>(f r).bind frz
@[simp] def eC (d:D):EF:=fun _=>some d
@[simp] def op2 (g:D->D->Option D) (a b:EF):EF:=fun r=>match a r with
  | some x => match b r with
    | some y=>g x y
    | none=>none
  | none=>none
@[simp] def Zgs (g:Int->Int->Option D):D->D->Option D
 | .int i,.int j=>g i j
 | _,_=>none
def Z7 (i:Int):Bool:=Nat.blt i.natAbs 18446744073709551616
@[simp] def Zbc (x y:D):Option D:=Zgs (fun i j=>some (.int (i + j))) x y
@[simp] def Zld (x y:D):Option D:=Zgs (fun i j=>some (.int (i - j))) x y
@[simp] def Zdu (x y:D):Option D:=Zgs (fun i j=>if Z7 i || Z7 j then some (.int (i * j)) else none) x y
@[simp] def Zr1 (x y:D):Option D:=Zgs (fun i j=>if 0 < j then some (.int (i % j)) else none) x y
@[simp] def gLt (x y:D):Option D:=Zgs (fun i j=>some (.bool (decide (i < j)))) x y
@[simp] def gLe (x y:D):Option D:=Zgs (fun i j=>some (.bool (decide (i <= j)))) x y
@[simp] def gGt (x y:D):Option D:=Zgs (fun i j=>some (.bool (decide (j < i)))) x y
def Zaf (d:D):Bool:=d.canLay0 && decide (d.depth <= 60)
@[simp] def gEq (a b:D):Option D:=if Zaf a && Zaf b then some (.bool (PyData.eqv a b)) else none
@[simp] def gNe (a b:D):Option D:=if Zaf a && Zaf b then some (.bool (!PyData.eqv a b)) else none
@[simp] def Zlv (a b:D):Option D:=match b with
  | .none => match a with
    | .none=>some (.bool true)
    | _=>some (.bool false)
  | _=>none
@[simp] def ZjF (a b:D):Option D:=match b with
  | .none => match a with
    | .none=>some (.bool false)
    | _=>some (.bool true)
  | _=>none
@[simp] def Zga (g g':D->D->Option D) (a b c:EF):EF:=fun r=>match a r with
  | some x => match b r with
    | some y => match g x y with
      | some (.bool true) => match c r with
        | some z=>g' y z
        | none=>none
      | some (.bool false)=>some (.bool false)
      | _=>none
    | none=>none
  | none=>none
@[simp] def Zsg (a:EF):EF:=fun r=>match a r with
 | some (.bool b)=>some (.bool (!b))
 | _=>none
@[simp] def Ze0 (a b:EF):EF:=fun r=>match a r with
 | some (.bool true)=>b r
 | some (.bool false)=>some (.bool false)
 | _=>none
@[simp] def tV (a:EF):TF:=fun r=>match a r with
 | some (.bool b)=>some b
 | _=>none
@[simp] def ZbJ (a:TF):TF:=fun r=>(a r).map (!·)
@[simp] def Zhz (a b:TF):TF:=fun r=>match a r with
 | some true=>b r
 | some false=>some false
 | none=>none
@[simp] def tOr (a b:TF):TF:=fun r=>match a r with
 | some true=>some true
 | some false=>b r
 | none=>none
@[simp] def Zbb:B->Option (List D)
 | .pl (.tuple ds)=>some ds
 | .pl (.list ds)=>some ds
 | .ol ds=>some ds
 | _=>none
def ixN (n:Nat) (i:Int):Option Nat :=
 if 0 <= i then (if i < n then some i.toNat else none) else (if -(n:Int) <= i then some (i + n).toNat else none)
def atD (ds:List D) (i:Int):Option D:=match ixN ds.length i with
 | some j=>ds[j]?
 | none=>none
@[simp] def eIx (a:BF) (b:EF):EF:=fun r=>match a r with
  | some x => match Zbb x with
    | some ds => match b r with
      | some (.int i)=>atD ds i
      | _=>none
    | none=>none
  | none=>none
@[simp] def Zwu:B->Option Nat
 | .pl (.tuple ds)=>some ds.length
 | .pl (.list ds)=>some ds.length
 | .ol ds=>some ds.length
 | .ok kvs=>some kvs.length
 | _=>none
@[simp] def ZaB (a:BF):EF:=fun r=>match a r with
 | some x=>(Zwu x).map fun (n:Nat)=>PyData.int (n:Int)
 | none=>none
@[simp] def Zam (a:BF):EF:=fun r=>match a r with
 | some x=>(Zbb x).map fun ds=>.tuple ds
 | none=>none
@[simp] def Zjr (a:BF):BF:=fun r=>match a r with
 | some x=>(Zbb x).map fun ds=>.ol ds
 | none=>none
def ZeP:List D->Option (List Bool)
 | []=>some []
 | .bool b :: r=>(ZeP r).map (b :: ·)
 | _ :: _=>none
@[simp] def ZmW:B->Option (List D)
 | .pl (.list ds)=>some ds
 | .ol ds=>some ds
 | _=>none
@[simp] def ZfB (a:BF):EF:=fun r=>match a r with
  | some x => match ZmW x with
    | some ds=>(ZeP ds).map fun bs=>.bool (bs.all id)
    | none=>none
  | none=>none
@[simp] def Zm:AF:=fun _=>some []
@[simp] def Zc (a:EF) (b:AF):AF:=fun r=>match a r with
 | some x=>(b r).map (x :: ·)
 | none=>none
@[simp] def Zca (a:AF):EF:=fun r=>(a r).map fun ds=>.tuple ds
@[simp] def ZfR (a:AF):BF:=fun r=>(a r).map fun ds=>.ol ds
inductive Ty where
 | bool | int | str | tuple | list | dict
@[simp] def Zja:Ty->D->Bool
 | .bool,.bool _=>true
 | .int,.int _=>true
 | .int,.bool _=>true
 | .str,.str _=>true
 | .tuple,.tuple _=>true
 | .list,.list _=>true
 | .dict,.dict _=>true
 | _,_=>false
@[simp] def Zeo (a:EF) (t:Ty):EF:=fun r=>(a r).map fun d=>.bool (Zja t d)
@[simp] def Zp6 (x y:D):Option D:=Zgs (fun i j=>some (.int (if j > i then j else i))) x y
@[simp] def Zvc (x y:D):Option D:=Zgs (fun i j=>some (.int (if j < i then j else i))) x y
@[simp] def Zoa (a:EF):EF:=fun r=>match a r with
 | some (.int i)=>some (.int i)
 | some (.bool b)=>some (.int (if b then 1 else 0))
 | _=>none
@[simp] def Zlp (a b:BF):BF:=fun r=>match a r with
  | some (.ol xs) => match b r with
    | some (.ol ys)=>if xs.length + ys.length < big then some (.ol (xs ++ ys)) else none
    | _=>none
  | _=>none
@[simp] def ZsD (a:BF) (b:EF):BF:=fun r=>match a r with
  | some (.ol xs) => match b r with
    | some (.int k)=>if decide (k.natAbs < 1000) && decide (xs.length < 1000) then some (.ol (List.replicate k.toNat xs).flatten) else none
    | _=>none
  | _=>none
def sIx (n d:Nat):Option Int->Nat
 | none=>d
 | some v=>if v < 0 then (v + (n:Int)).toNat else min v.toNat n
def cutD (xs:List D) (lo hi:Option Int):List D:=(xs.drop (sIx xs.length 0 lo)).take (sIx xs.length xs.length hi - sIx xs.length 0 lo)
@[simp] def Zp5 (a:Option EF) (r:Env):Option (Option Int):=match a with
  | none=>some none
  | some f => match f r with
    | some (.int i)=>some (some i)
    | _=>none
@[simp] def ZsQ (a:BF) (lo hi:Option EF):BF:=fun r=>match a r with
  | some x => match ZmW x with
    | some xs => match Zp5 lo r with
      | some l => match Zp5 hi r with
        | some h=>some (.ol (cutD xs l h))
        | none=>none
      | none=>none
    | none=>none
  | none=>none
def Zbk:List D->Option (List Int)
 | []=>some []
 | .int i :: r=>(Zbk r).map (i :: ·)
 | _ :: _=>none
def Zjs:List D->Option (List (List Int))
  | []=>some []
  | .tuple ds :: r => match Zbk ds with
    | some ns=>(Zjs r).map (ns :: ·)
    | none=>none
  | _ :: _=>none
def lexLt:List Int->List Int->Bool
 | [],[]=>false
 | [],_ :: _=>true
 | _ :: _,[]=>false
 | a :: r,b :: q=>if a = b then lexLt r q else decide (a < b)
def sortI (ns:List Int):List Int:=ns.mergeSort fun a b=>decide (a <= b)
def ZeT (ts:List (List Int)):List (List Int):=ts.mergeSort fun a b=>!lexLt b a
def ofInts (ns:List Int):List D:=ns.map fun i=>PyData.int i
def Zgh (ts:List (List Int)):List D:=ts.map fun t=>PyData.tuple (ofInts t)
def ZfZ (ds:List D):Option (List D) :=
  if ds.length < 64 then match Zbk ds with
    | some ns=>some (ofInts (sortI ns))
    | none => match Zjs ds with
      | some ts=>if ds.length < 2 || ts.all (fun t=>!t.isEmpty) then some (Zgh (ZeT ts)) else none
      | none=>none
  else none
@[simp] def Zs6:B->Option (List D)
 | .pl (.tuple ds)=>some ds
 | .pl (.list ds)=>some ds
 | .ol ds=>some ds
 | .ok kvs=>some (kvs.map fun p=>ZaO p.1)
 | .ot kvs=>some (kvs.map fun p=>.tuple (p.1.map ZaO))
 | .otl kvs=>some (kvs.map fun p=>.tuple (p.1.map ZaO))
 | _=>none
@[simp] def ZgJ (a:BF):BF:=fun r=>match a r with
  | some x => match Zs6 x with
    | some ds=>(ZfZ ds).map fun ds=>.ol ds
    | none=>none
  | none=>none
def dedup:List Int->List Int->List Int
 | acc,[]=>acc
 | acc,i :: r=>if acc.contains i then dedup acc r else dedup (acc ++ [i]) r
def Zpw (ns:List Int):Bool:=ns.all fun n=>decide (0 <= n) && decide (n < 8)
@[simp] def ZgH (a:BF):BF:=fun r=>match a r with
  | some x => match ZmW x with
    | some ds => match Zbk ds with
      | some ns=>if Zpw ns then some (.ol (ofInts (sortI (dedup [] ns)))) else none
      | none=>none
    | none=>none
  | none=>none
@[simp] def Zp (m:List D->Option D) (a:AF):EF:=fun r=>match a r with
 | some ds=>m ds
 | none=>none
@[simp] def Z1 (a:BF):IF:=fun r=>match a r with
 | some x=>Zbb x
 | none=>none
def ZbT (lo:Int) (n:Nat):List D:=(List.range n).map fun (k:Nat)=>PyData.int (lo + (k:Int))
def okR (j:Int):Bool:=Nat.blt j.natAbs 1000000
@[simp] def ZbV (a:EF):IF:=fun r=>match a r with
 | some (.int j)=>if okR j then some (ZbT 0 j.toNat) else none
 | _=>none
@[simp] def Zjy (a b:EF):IF:=fun r=>match a r with
  | some (.int i) => match b r with
    | some (.int j)=>if okR i && okR j then some (ZbT i (j - i).toNat) else none
    | _=>none
  | _=>none
@[simp] def Zkn (i:IF):EF:=fun r=>match i r with
 | some ds=>if ds.length < big then some (.tuple ds) else none
 | none=>none
def ZaM (c:TF) (e:EF) (r:Env):List D->Option (List D)
  | []=>some []
  | x :: xs => match c (some (.pl x) :: r) with
    | some true => match e (some (.pl x) :: r) with
      | some y=>(ZaM c e r xs).map (y :: ·)
      | none=>none
    | some false=>ZaM c e r xs
    | none=>none
@[simp] def ZV:TF:=fun _=>some true
@[simp] def ZT (i:IF) (c:TF) (e:EF):BF:=fun r=>match i r with
 | some xs=>if xs.length < big then (ZaM c e r xs).map fun ys=>.ol ys else none
 | none=>none
@[simp] def Zu (a b:SF):SF:=fun r=>match a r with
 | some (.nx r')=>b r'
 | some (.rt d)=>some (.rt d)
 | some (.bk r')=>some (.bk r')
 | some (.ct r')=>some (.ct r')
 | none=>none
@[simp] def Zai:SF:=fun r=>some (.nx r)
@[simp] def Zi0:SF:=fun _=>none
@[simp] def ZH (a:EF):SF:=fun r=>(a r).map Out.rt
@[simp] def Z9 (i:Nat) (a:EF):SF:=fun r=>(a r).map fun d=>.nx (r.set i (some (.pl d)))
@[simp] def Zac (i:Nat) (a:BF):SF:=fun r=>(a r).map fun b=>.nx (r.set i (some b))
@[simp] def ZkV (i:Nat) (r:Env):Env:=match r[i]? with
 | some (some (.ol ds))=>r.set i (some (.pl (.list ds)))
 | some (some (.ot kvs))=>r.set i (some (.pl (.dict (Zo kvs))))
 | _=>r
@[simp] def Zg4 (i:Nat):SF->SF:=fun a r=>a (ZkV i r)
@[simp] def ZpP (a:EF):SF:=fun r=>(a r).map fun _=>.nx r
@[simp] def sIf (c:TF) (a b:SF):SF:=fun r=>match c r with
 | some true=>a r
 | some false=>b r
 | none=>none
def Z2 (i:Nat) (body:SF):List D->Env->Option Out
  | [],r=>some (.nx r)
  | x :: xs, r => match body (r.set i (some (.pl x))) with
    | some (.nx r')=>Z2 i body xs r'
    | some (.ct r')=>Z2 i body xs r'
    | some (.bk r')=>some (.nx r')
    | some (.rt d)=>some (.rt d)
    | none=>none
@[simp] def Za9 (i:Nat) (it:IF) (body:SF):SF:=fun r=>match it r with
 | some xs=>if xs.length < big then Z2 i body xs r else none
 | none=>none
def ZaE (c:TF) (body:SF):Nat->Env->Option Out
  | 0,_=>none
  | n + 1, r => match c r with
    | some true => match body r with
      | some (.nx r')=>ZaE c body n r'
      | some (.ct r')=>ZaE c body n r'
      | some (.bk r')=>some (.nx r')
      | some (.rt d)=>some (.rt d)
      | none=>none
    | some false=>some (.nx r)
    | none=>none
@[simp] def Ze8 (i:Nat) (a:EF):SF:=fun r=>match r[i]? with
  | some (some (.ol ds)) => match a r with
    | some d=>if ds.length < big then some (.nx (r.set i (some (.ol (ds ++ [d]))))) else none
    | none=>none
  | _=>none
@[simp] def Zp9 (i:Nat) (k v:EF):SF:=fun r=>match v r with
  | some d => match r[i]? with
    | some (some (.ol ds)) => match k r with
      | some (.int n) => match ixN ds.length n with
        | some j=>some (.nx (r.set i (some (.ol (ds.set j d)))))
        | none=>none
      | _=>none
    | _=>none
  | none=>none
def putD {k v:Type} [DecidableEq k] (kvs:List (k × v)) (x:k) (y:v):List (k × v) :=
 if (kvs.any fun p=>decide (p.1 = x)) = true then kvs.map (fun p=>if p.1 = x then (p.1,y) else p) else kvs ++ [(x,y)]
def Ze {k v:Type} [DecidableEq k] (kvs:List (k × v)) (x:k):Option v:=(kvs.find? fun p=>decide (p.1 = x)).map (·.2)
@[simp] def Zio:D->Option Ky
 | .int i=>some (.inl i)
 | .str x=>some (.inr x)
 | _=>none
def Zhm:List D->Option (List Ky)
  | []=>some []
  | d :: r => match Zio d with
    | some k=>(Zhm r).map (k :: ·)
    | none=>none
def tkL:D->Option (List Ky)
 | .tuple ds=>Zhm ds
 | _=>none
def Zle:List D->Option (List Ky)
 | []=>some []
 | .int i :: r=>(Zle r).map (Sum.inl i :: ·)
 | _ :: _=>none
def ZaV:D->Option (List Ky)
 | .tuple ds=>Zle ds
 | _=>none
@[simp] def ZhE (i:Nat) (k v:EF):SF:=fun r=>match v r with
  | some d => match k r with
    | some x => match r[i]? with
      | some (some (.ok kvs)) => match Zio x with
        | some y=>if kvs.length < big then some (.nx (r.set i (some (.ok (putD kvs y d))))) else none
        | none=>none
      | some (some (.ot kvs)) => match ZaV x with
        | some y=>if kvs.length < big then some (.nx (r.set i (some (.ot (putD kvs y d))))) else none
        | none=>none
      | _=>none
    | none=>none
  | none=>none
@[simp] def fDk:BF:=fun _=>some (.ok [])
@[simp] def fDt:BF:=fun _=>some (.ot [])
@[simp] def ZrO:BF:=fun _=>some (.otl [])
@[simp] def ZnP (k v:EF):BF:=fun r=>match k r with
  | some x => match v r with
    | some d => match Zio x with
      | some y=>some (.ok [(y,d)])
      | none=>none
    | none=>none
  | none=>none
def ZbK {k v:Type} [DecidableEq k] (kvs:List (k × List v)) (x:k):List (k × List v):=match Ze kvs x with
 | some _=>kvs
 | none=>kvs ++ [(x,[])]
def ZdY {k v:Type} [DecidableEq k]:List (k × List v)->k->v->List (k × List v)
 | [],_,_=>[]
 | (x,ds) :: r,y,d=>if x = y then (x,ds ++ [d]) :: r else (x,ds) :: ZdY r y d
@[simp] def Zm7 (i:Nat) (k v:EF):SF:=fun r=>match k r with
  | some x => match r[i]? with
    | some (some (.otl kvs)) => match ZaV x with
      | some y=>if kvs.length < big then
          match v (r.set i (some (.otl (ZbK kvs y)))) with
          | some d => match Ze (ZbK kvs y) y with
            | some ds=>if ds.length < big then some (.nx (r.set i (some (.otl (ZdY (ZbK kvs y) y d))))) else none
            | none=>none
          | none=>none
        else none
      | none=>none
    | _=>none
  | none=>none
@[simp] def Zlr (i:Nat) (k:EF):SF:=fun r=>match k r with
  | some x => match r[i]? with
    | some (some (.otl kvs)) => match ZaV x with
      | some y=>if kvs.length < big then
          match Ze kvs y with
          | none=>some (.nx (r.set i (some (.otl (kvs ++ [(y,[])])))))
          | some _=>none
        else none
      | none=>none
    | _=>none
  | none=>none
@[simp] def Znp (i:Nat) (k v:EF):SF:=fun r=>match k r with
  | some x => match r[i]? with
    | some (some (.otl kvs)) => match ZaV x with
      | some y => match v r with
        | some d => match Ze kvs y with
          | some ds=>if ds.length < big then some (.nx (r.set i (some (.otl (ZdY kvs y d))))) else none
          | none=>none
        | none=>none
      | none=>none
    | _=>none
  | none=>none
@[simp] def hasB (b:B) (x:D):Option Bool:=match b with
 | .ok kvs=>(Zio x).map fun y=>(Ze kvs y).isSome
 | .ot kvs=>(ZaV x).map fun y=>(Ze kvs y).isSome
 | .otl kvs=>(ZaV x).map fun y=>(Ze kvs y).isSome
 | _=>none
@[simp] def ZkW (k:EF) (a:BF):EF:=fun r=>match k r with
  | some x => match a r with
    | some b=>(hasB b x).map fun c=>.bool (!c)
    | none=>none
  | none=>none
@[simp] def ZnY (i:Nat) (k:EF):BF:=fun r=>match k r with
  | some x => match r[i]? with
    | some (some (.ok kvs)) => match Zio x with
      | some y=>(Ze kvs y).map B.pl
      | none=>none
    | some (some (.ot kvs)) => match ZaV x with
      | some y=>(Ze kvs y).map B.pl
      | none=>none
    | some (some (.otl kvs)) => match ZaV x with
      | some y=>(Ze kvs y).map B.ol
      | none=>none
    | _=>none
  | none=>none
@[simp] def ZhU (n:Nat) (ds:List D):Env:=ds.map (fun d=>some (B.pl d)) ++ List.replicate (n - ds.length) none
@[simp] def fnOf (k n:Nat) (m:SF):List D->Option D:=fun ds =>
 if ds.length = k then match m (ZhU n ds) with
  | some (.nx _)=>some .none
  | some (.rt d)=>some d
  | _=>none
 else none
end HM
namespace HM
open PySem
def ZcV (c:TF) (e:EF) (r:Env):List D->Option (List D)
  | []=>some []
  | .tuple [x, y] :: xs => match c (some (.pl x) :: some (.pl y) :: r) with
    | some true => match e (some (.pl x) :: some (.pl y) :: r) with
      | some z=>(ZcV c e r xs).map (z :: ·)
      | none=>none
    | some false=>ZcV c e r xs
    | none=>none
  | _=>none
@[simp] def Zdg (i:IF) (c:TF) (e:EF):BF:=fun r=>match i r with
 | some xs=>if xs.length < big then (ZcV c e r xs).map fun ys=>.ol ys else none
 | none=>none
def Zne (ds:List D) (i:Int):Option Bool:=(Zbk ds).map fun ns=>ns.contains i
@[simp] def ZnK (k:EF) (a:BF):EF:=fun r=>match k r with
  | some (.int i) => match a r with
    | some b => match Zbb b with
      | some ds=>(Zne ds i).map fun c=>.bool c
      | none=>none
    | none=>none
  | _=>none
@[simp] def ZhT (k:EF) (a:BF):EF:=fun r=>match k r with
  | some (.int i) => match a r with
    | some b => match Zbb b with
      | some ds=>(Zne ds i).map fun c=>.bool (!c)
      | none=>none
    | none=>none
  | _=>none
end HM
namespace HM
open PySem
@[simp] def ZkH (n:Nat) (c:TF) (body:SF):SF:=fun r=>ZaE c body n r
end HM
namespace HM
open PySem
def Znh (ds:List D) (x:D):Option Bool:=if Zaf x && ds.all Zaf then some (ds.any fun d=>PyData.eqv d x) else none
@[simp] def ZhV (k:EF) (a:BF):EF:=fun r=>match k r with
  | some x => match a r with
    | some b => match Zbb b with
      | some ds=>(Znh ds x).map fun c=>.bool (!c)
      | none=>none
    | none=>none
  | none=>none
end HM
namespace HM
open PySem
def ZgY:List (D × D)->Option (List (List Ky × D))
  | []=>some []
  | (k, v) :: r => match tkL k with
    | some ks=>(ZgY r).map ((ks,v) :: ·)
    | none=>none
@[simp] def Zks:B->Option (List (List Ky × D))
 | .ot kvs=>some kvs
 | .pl (.dict es)=>ZgY es
 | .hd es=>ZgY es
 | _=>none
@[simp] def ZhB (k:EF) (a:BF):EF:=fun r=>match k r with
  | some x => match a r with
    | some b => match Zks b with
      | some kvs=>(ZaV x).map fun y=>.bool (Ze kvs y).isSome
      | none=>none
    | none=>none
  | none=>none
@[simp] def Zck (k:EF) (a:BF):EF:=fun r=>match k r with
  | some x => match a r with
    | some b => match Zks b with
      | some kvs=>(ZaV x).map fun y=>.bool (!(Ze kvs y).isSome)
      | none=>none
    | none=>none
  | none=>none
@[simp] def Zbi (a:BF) (k:EF):EF:=fun r=>match a r with
  | some b => match Zks b with
    | some kvs => match k r with
      | some x => match ZaV x with
        | some y=>Ze kvs y
        | none=>none
      | none=>none
    | none=>none
  | none=>none
@[simp] def Zji (a:BF) (k e:EF):EF:=fun r=>match a r with
  | some b => match Zks b with
    | some kvs => match k r with
      | some x => match e r with
        | some z => match ZaV x with
          | some y=>some ((Ze kvs y).getD z)
          | none=>none
        | none=>none
      | none=>none
    | none=>none
  | none=>none
@[simp] def Zs3:D->Bool
 | .none=>true
 | .bool _=>true
 | .int _=>true
 | .str _=>true
 | _=>false
@[simp] def Zgz (f:BF):EF:=fun r=>(f r).bind frz
@[simp] def Znm (m:List D->Option D) (a:AF):EF:=fun r=>match a r with
  | some ds => match m ds with
    | some d=>if Zs3 d then some d else none
    | none=>none
  | none=>none
theorem ZtK (ks:List Ky):tkL (.tuple (ks.map ZaO)) = some ks:=by
  show Zhm (ks.map ZaO) = some ks
  induction ks with
  | nil=>rfl
  | cons k ks ih =>
    show (match Zio (ZaO k) with | some q=>(Zhm (ks.map ZaO)).map (q :: ·) | none=>none) = _
    rw [ih]
    cases k <;> rfl
theorem dec_enc (kvs:List (List Ky × D)):ZgY (Zo kvs) = some kvs:=by
  induction kvs with
  | nil=>rfl
  | cons p kvs ih =>
    obtain ⟨k,d⟩:=p
    show (match tkL (.tuple (k.map ZaO)) with | some ks=>(ZgY (Zo kvs)).map ((ks,d) :: ·) | none=>none) = _
    rw [ZtK,ih]
    rfl
end HM
namespace HM
open PySem
@[simp] def Zis (a:BF):EF:=fun r=>match a r with
  | some x => match ZmW x with
    | some ds => match Zbk ds with
      | some ns=>ns.max?.map fun i=>PyData.int i
      | none=>none
    | none=>none
  | none=>none
end HM
namespace HM
open PySem
end HM
namespace HM
open PySem
@[simp] def Zjw (i:Nat) (f:BF):SF:=fun r=>match r[i]? with
  | some (some (.ol ds)) => match f r with
    | some (.ol es)=>if ds.length + es.length < big then some (.nx (r.set i (some (.ol (ds ++ es))))) else none
    | _=>none
  | _=>none
@[simp] def ZrY (i j:Nat):SF:=fun r=>match r[j]? with
  | some (some (.ol ds)) => match ds[ds.length - 1]? with
    | some d=>some (.nx ((r.set j (some (.ol ds.dropLast))).set i (some (.pl d))))
    | none=>none
  | _=>none
@[simp] def Zsv (i:Nat) (a:EF):SF:=fun r=>match r[i]? with
  | some (some (.pl (.int n))) => match a r with
    | some (.int m)=>some (.nx (r.set i (some (.pl (.int (n + m))))))
    | _=>none
  | _=>none
@[simp] def ZhM (m:List D->Option D) (a:AF):BF:=fun r=>match a r with
  | some ds => match m ds with
    | some (.list ys)=>some (.ol ys)
    | _=>none
  | none=>none
def Zbw:Option B->Bool
 | some (.hd _)=>true
 | _=>false
@[simp] def ZjG (i:Nat) (g:SF):SF:=fun r=>match r[i]? with
  | some (some (.pl (.dict es)))=>if r.all (fun q=>!Zbw q) then match g (r.set i (some (.hd es))) with
      | some (.nx r') => match r'[i]? with
        | some (some (.hd es'))=>if (r'.set i none).all (fun q=>!Zbw q) then some (.nx (r'.set i (some (.pl (.dict es'))))) else none
        | _=>none
      | some (.rt d)=>some (.rt d)
      | _=>none
    else none
  | _=>g r
@[simp] def Zeg (i:Nat):IF:=fun r=>match r[i]? with
 | some (some (.pl (.tuple ds)))=>some ds
 | some (some (.pl (.list ds)))=>some ds
 | some (some (.hd es))=>(ZgY es).map fun kvs=>kvs.map fun p=>.tuple (p.1.map ZaO)
 | _=>none
@[simp] def eHd (i:Nat):EF:=fun r=>match r[i]? with
 | some (some (.pl d))=>some d
 | some (some (.hd es))=>some (.dict es)
 | _=>none
end HM
namespace HM
open PySem
end HM
namespace HM
open PySem
def Zeh:Nat->D->Bool
 | _,.none=>true
 | _,.bool _=>true
 | _,.int _=>true
 | _,.str _=>true
 | n + 1,.tuple ds=>ds.all (Zeh n)
 | _,_=>false
@[simp] def Zhc (m:List D->Option D) (a:AF):EF:=fun r=>match a r with
  | some ds => match m ds with
    | some d=>if Zeh 400 d then some d else none
    | none=>none
  | none=>none
@[simp] def ZfA (a b:D):Option D:=if a.canLay0 && Zaf b then some (.bool (!PyData.eqv a b)) else none
end HM
namespace HP
open PySem PySem.Spec PyProof.Rows L2
theorem ZfM {F F':Hp} {a:Addr} {u:HO} (r:Rd F a u) (s:Zw F F'):Rd F' a u:=r.imp (fun h=>s _ _ h) fun ⟨o,h⟩=>⟨o,s _ _ h⟩
def Zog (K:PySem.W.Frag) (a:Addr) (vs:List V):Prop:=∃ (o:Obj) (its:Array Value) (n:Nat),K.lookup a = some o/\o.cls = .type "tuple"/\o.data = .seq its n/\its.size <= sizeLine/\Vals vs its.toList
theorem Zr3 {K:PySem.W.Frag} {F F':Hp} {a:Addr} {vs:List V} (h:SqT K F a vs) (s:Zw F F'):SqT K F' a vs:=h.imp (fun h=>ZfM h s) id
inductive Rep (K:PySem.W.Frag) (F:Hp):PyData->V->Prop where
 | non:Rep K F .none .non
 | bl (b:Bool):Rep K F (.bool b) (.bl b)
 | int (i:Int):Rep K F (.int i) (.int i)
 | str (x:Str):Rep K F (.str x) (.str x)
 | tupk {a:Addr} {x:Str} (h:Zog K a [.str x]):Rep K F (.tuple [.str x]) (.ref a)
 | tup {a:Addr} {ds:List PyData} {vs:List V} (h:F a = some (.tup vs)) (hl:ds.length = vs.length) (hr:∀ (i:Nat) (d:PyData) (v:V),ds[i]? = some d->vs[i]? = some v->Rep K F d v):Rep K F (.tuple ds) (.ref a)
 | lst {a:Addr} {ds:List PyData} {vs:List V} (h:SqL K F a vs) (hl:ds.length = vs.length) (hr:∀ (i:Nat) (d:PyData) (v:V),ds[i]? = some d->vs[i]? = some v->Rep K F d v):Rep K F (.list ds) (.ref a)
 | dct {a:Addr} {es:List (PyData × PyData)} {kvs:List (List Key × PyData)} {vvs:List (List Key × V)} (h:Rd F a (.dT vvs)) (he:es = HM.Zo kvs) (hk:kvs.map (·.1) = vvs.map (·.1)) (hr:∀ (i:Nat) (d:PyData) (v:V),(kvs.map (·.2))[i]? = some d->(vvs.map (·.2))[i]? = some v->Rep K F d v):Rep K F (.dict es) (.ref a)
def ZC (K:PySem.W.Frag) (F:Hp) (ds:List PyData) (vs:List V):Prop:=ds.length = vs.length/\∀ (i:Nat) (d:PyData) (v:V),ds[i]? = some d->vs[i]? = some v->Rep K F d v
section
variable {K:PySem.W.Frag} {F F':Hp} {d:PyData} {v:V} {ds es:List PyData} {vs us:List V}
theorem Rep.mono (r:Rep K F d v) (s:Zw F F'):Rep K F' d v:=by
 induction r with
 | non=>exact .non
 | bl b=>exact .bl b
 | int i=>exact .int i
 | str x=>exact .str x
 | tup h hl _ ih=>exact .tup (s _ _ h) hl ih
 | tupk h=>exact .tupk h
 | lst h hl _ ih=>exact .lst (s.seq h) hl ih
 | dct h he hk _ ih=>exact .dct (ZfM h s) he hk ih
theorem ZC.mono (r:ZC K F ds vs) (s:Zw F F'):ZC K F' ds vs:=⟨r.1,fun i d v h1 h2=>(r.2 i d v h1 h2).mono s⟩
theorem ZC.nil:ZC K F [] []:=⟨rfl,fun i d v h=>by simp at h⟩
theorem ZC.cons (r:Rep K F d v) (q:ZC K F ds vs):ZC K F (d :: ds) (v :: vs) :=
  ⟨by rw [List.length_cons,List.length_cons,q.1],fun i e u h1 h2=>by
    cases i with
    | zero =>
      rw [List.getElem?_cons_zero] at h1 h2
      cases h1; cases h2; exact r
    | succ i =>
      rw [List.getElem?_cons_succ] at h1 h2
      exact q.2 i e u h1 h2⟩
theorem ZC.nil_inv (r:ZC K F [] vs):vs = []:=List.eq_nil_of_length_eq_zero r.1.symm
theorem ZC.cons_inv (r:ZC K F (d :: ds) vs):∃ v us,vs = v :: us/\Rep K F d v/\ZC K F ds us:=by
  cases vs with
  | nil=>exact absurd r.1 (by simp)
  | cons v us =>
    refine ⟨v,us,rfl,r.2 0 d v rfl rfl,?_,fun i e u h1 h2=>r.2 (i + 1) e u ?_ ?_⟩
    · have := r.1
      rw [List.length_cons,List.length_cons] at this
      omega
    · rw [List.getElem?_cons_succ]; exact h1
    · rw [List.getElem?_cons_succ]; exact h2
theorem ZC.append (r:ZC K F ds vs) (q:ZC K F es us):ZC K F (ds ++ es) (vs ++ us):=by
 refine ⟨by rw [List.length_append,List.length_append,r.1,q.1],fun i e u h1 h2=>?_⟩
 by_cases hi:i < ds.length
 ·rw [List.getElem?_append_left hi] at h1
  rw [List.getElem?_append_left (by rw [<- r.1]; exact hi)] at h2
  exact r.2 i e u h1 h2
 ·rw [List.getElem?_append_right (by omega)] at h1
  rw [List.getElem?_append_right (by have:=r.1; omega),<- r.1] at h2
  exact q.2 _ e u h1 h2
theorem ZC.get (r:ZC K F ds vs) {i:Nat} (h:ds[i]? = some d):∃ v,vs[i]? = some v/\Rep K F d v:=by
 have hi:i < vs.length:=by rw [<- r.1]; exact (List.getElem?_eq_some_iff.mp h).1
 exact ⟨vs[i],List.getElem?_eq_getElem hi,r.2 i d _ h (List.getElem?_eq_getElem hi)⟩
theorem ZC.drop (r:ZC K F ds vs) (n:Nat):ZC K F (ds.drop n) (vs.drop n) :=
 ⟨by rw [List.length_drop,List.length_drop,r.1],fun i e u h1 h2=>by
  rw [List.getElem?_drop] at h1 h2
  exact r.2 _ e u h1 h2⟩
theorem ZC.take (r:ZC K F ds vs) (n:Nat):ZC K F (ds.take n) (vs.take n) :=
 ⟨by rw [List.length_take,List.length_take,r.1],fun i e u h1 h2=>by
  by_cases hi:i < n
  ·rw [List.getElem?_take_of_lt hi] at h1 h2
   exact r.2 _ e u h1 h2
  ·rw [List.getElem?_take_eq_none (by omega)] at h1
   cases h1⟩
theorem ZC.set (r:ZC K F ds vs) (q:Rep K F d v) (j:Nat):ZC K F (ds.set j d) (vs.set j v):=by
 refine ⟨by rw [List.length_set,List.length_set,r.1],fun i e u h1 h2=>?_⟩
 have hi:i < ds.length:=by have:=(List.getElem?_eq_some_iff.mp h1).1; rwa [List.length_set] at this
 by_cases e1:j = i
 ·subst e1
  rw [List.getElem?_set_self hi] at h1
  rw [List.getElem?_set_self (by rw [<- r.1]; exact hi)] at h2
  cases h1; cases h2; exact q
 ·rw [List.getElem?_set_ne e1] at h1 h2
  exact r.2 i e u h1 h2
theorem ZC.rep (r:ZC K F ds vs) (k:Nat):ZC K F (List.replicate k ds).flatten (List.replicate k vs).flatten:=by
 induction k with
 | zero=>exact ZC.nil
 | succ k ih=>rw [List.replicate_succ,List.replicate_succ,List.flatten_cons,List.flatten_cons]; exact r.append ih
theorem ZC.one (r:Rep K F d v):ZC K F [d] [v]:=.cons r .nil
end
def Fre (H:Hp) (a:Addr) (o:HO):Prop:=H a = none\/∃ xs,o = .tup xs/\H a = some (.tup xs)
theorem Fre.back {H H':Hp} {a:Addr} {o:HO} (s:Zw H H') (f:Fre H' a o):Fre H a o:=by
  rcases f with f | ⟨xs,e,f⟩
  · exact .inl (s.free f)
  · cases q : H a with
    | none=>exact .inl q
    | some u =>
      have:=s a u q
      rw [f] at this
      cases this
      exact .inr ⟨xs,e,q⟩
theorem Fre.no {H:Hp} {a:Addr} {o u:HO} (f:Fre H a o) (h:H a = some u) (n:∀ xs,u ≠ .tup xs):False:=by
 rcases f with f | ⟨xs,_,f⟩
 ·rw [h] at f; cases f
 ·rw [h] at f; cases f; exact n xs rfl
structure Ext (F H F' H':Hp):Prop where
 ff:Zw F F'
 hh:Zw H H'
 sub:Zw F' H'
 new:∀ a o,F' a = some o->F a = some o\/Fre H a o
theorem Ext.refl {F H:Hp} (s:Zw F H):Ext F H F H:=⟨Zw.refl F,Zw.refl H,s,fun _ _ h=>.inl h⟩
theorem Ext.trans {F H F1 H1 F2 H2:Hp} (a:Ext F H F1 H1) (b:Ext F1 H1 F2 H2):Ext F H F2 H2 :=
 ⟨a.ff.trans b.ff,a.hh.trans b.hh,b.sub,fun x o h=>by
  rcases b.new x o h with q | q
  ·exact a.new x o q
  ·exact .inr (q.back a.hh)⟩
theorem Ext.lay {F H F' H':Hp} (e:Ext F H F' H') {p:Addr} {o:HO} (h:H' p = none):Ext F H (upd F' p o) (upd H' p o):=by
 have hF:F' p = none:=e.sub.free h
 refine ⟨fun b q z=>?_,fun b q z=>?_,fun b q z=>?_,fun b q z=>?_⟩
 ·rw [ZG (ZaT (e.ff b q z) hF)]; exact e.ff b q z
 ·rw [ZG (ZaT (e.hh b q z) h)]; exact e.hh b q z
 ·by_cases hb:b = p
  ·subst hb; rw [ZP] at z ⊢; exact z
  ·rw [ZG hb] at z ⊢; exact e.sub b q z
 ·by_cases hb:b = p
  ·subst hb; exact .inr (.inl (e.hh.free h))
  ·rw [ZG hb] at z; exact e.new b q z
theorem Ext.lay' {F H F' H':Hp} (e:Ext F H F' H') {p:Addr} {o:HO} (h:H' p = none):Ext F H F' (upd H' p o):=by
 refine ⟨e.ff,fun b q z=>?_,fun b q z=>?_,e.new⟩
 ·rw [ZG (ZaT (e.hh b q z) h)]; exact e.hh b q z
 ·rw [ZG (ZaT (e.sub b q z) h)]; exact e.sub b q z
theorem Zw.upd' {F:Hp} {p:Addr} {o:HO} (h:F p = none):Zw F (upd F p o):=fun b q z=>by
 rw [ZG (ZaT z h)]; exact z
def ZcW (F H:Hp):Hp:=fun a=>match H a with
 | some (.tup xs)=>some (.tup xs)
 | _=>F a
theorem Zkd {F H:Hp} {a:Addr} {xs:List V} (h:H a = some (.tup xs)):ZcW F H a = some (.tup xs):=by unfold ZcW; rw [h]
theorem Zec {F H:Hp} (s:Zw F H):Zw F (ZcW F H):=fun a o h=>by
 have:=s a o h
 unfold ZcW
 split
 ·rename_i xs q
  rw [q] at this
  exact this
 ·exact h
theorem Ext.tups {F H F' H':Hp} (e:Ext F H F' H'):Ext F H (ZcW F' H') H':=by
 have key:Ext F' H' (ZcW F' H') H':=by
  refine ⟨Zec e.sub,Zw.refl H',fun a o h=>?_,fun a o h=>?_⟩
  ·unfold ZcW at h
   split at h
   ·rename_i xs q; rw [q]; exact h
   ·exact e.sub a o h
  ·unfold ZcW at h
   split at h
   ·rename_i xs q
    cases h
    exact .inr (.inr ⟨xs,rfl,q⟩)
   ·exact .inl h
 exact e.trans key
inductive Zat (K:PySem.W.Frag) (F H:Hp):HM.B->V->List Addr->Prop where
 | pl {d:PyData} {v:V} (r:Rep K F d v):Zat K F H (.pl d) v []
 | ol {a:Addr} {ds:List PyData} {vs:List V} (h:H a = some (.lst vs)) (r:ZC K F ds vs):Zat K F H (.ol ds) (.ref a) [a]
 | ok {a:Addr} {kvs:List (Key × PyData)} {vvs:List (Key × V)} (h:H a = some (.dK vvs)) (hk:kvs.map (·.1) = vvs.map (·.1)) (r:ZC K F (kvs.map (·.2)) (vvs.map (·.2))):Zat K F H (.ok kvs) (.ref a) [a]
 | ot {a:Addr} {kvs:List (List Key × PyData)} {vvs:List (List Key × V)} (h:H a = some (.dT vvs)) (hk:kvs.map (·.1) = vvs.map (·.1)) (r:ZC K F (kvs.map (·.2)) (vvs.map (·.2))):Zat K F H (.ot kvs) (.ref a) [a]
 | otl {a:Addr} {kvs:List (List Key × List PyData)} {vvs:List (List Key × V)} {ls:List Addr} (h:H a = some (.dT vvs)) (hk:kvs.map (·.1) = vvs.map (·.1)) (hv:vvs.map (·.2) = ls.map V.ref)
   (r:∀ (i:Nat) (ds:List PyData) (l:Addr),(kvs.map (·.2))[i]? = some ds->ls[i]? = some l->∃ vs,H l = some (.lst vs)/\ZC K F ds vs):Zat K F H (.otl kvs) (.ref a) (a :: ls)
 | hd {a:Addr} {o:Obj} {es:List (PyData × PyData)} {kvs:List (List Key × PyData)} {vvs:List (List Key × V)} (h:F a = some (.frz o (.dT vvs))) (he:es = HM.Zo kvs) (hk:kvs.map (·.1) = vvs.map (·.1)) (r:ZC K F (kvs.map (·.2)) (vvs.map (·.2))):Zat K F H (.hd es) (.ref a) []
section
variable {K:PySem.W.Frag} {F F' H H':Hp} {b:HM.B} {v:V} {fp:List Addr}
theorem Zat.mono (r:Zat K F H b v fp) (s:Zw F F') (k:∀ a ∈ fp,∀ o,H a = some o->H' a = some o):Zat K F' H' b v fp:=by
  cases r with
  | pl r=>exact .pl (r.mono s)
  | ol h r=>exact .ol (k _ (by simp) _ h) (r.mono s)
  | ok h hk r=>exact .ok (k _ (by simp) _ h) hk (r.mono s)
  | ot h hk r=>exact .ot (k _ (by simp) _ h) hk (r.mono s)
  | hd h he hk r=>exact .hd (s _ _ h) he hk (r.mono s)
  | otl h hk hv r =>
    refine .otl (k _ (by simp) _ h) hk hv fun i ds l h1 h2=>?_
    obtain ⟨vs,q1,q2⟩:=r i ds l h1 h2
    exact ⟨vs,k l (List.mem_cons_of_mem _ (List.mem_of_getElem? h2)) _ q1,q2.mono s⟩
theorem Zat.there' (r:Zat K F H b v fp) {a:Addr} (h:a ∈ fp):∃ o,H a = some o/\∀ xs,o ≠ .tup xs:=by
  cases r with
  | pl r=>simp at h
  | hd _ _ _ _=>simp at h
  | ol q r=>simp at h; subst h; exact ⟨_,q,fun _ z=>by cases z⟩
  | ok q hk r=>simp at h; subst h; exact ⟨_,q,fun _ z=>by cases z⟩
  | ot q hk r=>simp at h; subst h; exact ⟨_,q,fun _ z=>by cases z⟩
  | @otl a' kvs vvs ls q hk hv r =>
    rcases List.mem_cons.mp h with e | e
    · subst e; exact ⟨_,q,fun _ z=>by cases z⟩
    · obtain ⟨i, hi⟩ := List.getElem?_of_mem e
      have hl:kvs.length = ls.length:=by
        have e1:=congrArg List.length hk
        have e2:=congrArg List.length hv
        rw [List.length_map,List.length_map] at e1 e2
        omega
      have hi':i < kvs.length:=by rw [hl]; exact (List.getElem?_eq_some_iff.mp hi).1
      obtain ⟨vs,q1,_⟩:=r i (kvs[i].2) a (by simp [hi']) hi
      exact ⟨_,q1,fun _ z=>by cases z⟩
theorem Zat.there (r:Zat K F H b v fp) {a:Addr} (h:a ∈ fp):∃ o,H a = some o:=let ⟨o,q,_⟩:=r.there' h; ⟨o,q⟩
end
structure Zby (K:PySem.W.Frag) (F0 H0 F H:Hp) (r:HM.Env) (σ:L2.St) (fp:Nat->List Addr):Prop where
 ext:Ext F0 H0 F H
 len:r.length = σ.length
 at_:∀ (i:Nat) (b:HM.B),r[i]? = some (some b)->∃ v,σ[i]? = some (some v)/\Zat K F H b v (fp i)
 emp:∀ (i:Nat),(∀ b,r[i]? ≠ some (some b))->fp i = []
 own:∀ (i:Nat) (a:Addr),a ∈ fp i->F a = none/\H0 a = none
 nd:∀ i,(fp i).Nodup
 dis:∀ (i j:Nat) (a:Addr),i ≠ j->a ∈ fp i->¬ a ∈ fp j
def At (K:PySem.W.Frag) (F0 H0 F H:Hp) (r:HM.Env) (σ:L2.St):Prop:=∃ fp,Zby K F0 H0 F H r σ fp
section
variable {K:PySem.W.Frag} {F0 H0 F H F' H':Hp} {r:HM.Env} {σ:L2.St} {fp:Nat->List Addr} {i:Nat} {b:HM.B} {v:V} {d:PyData}
theorem Zby.bound (e:Zby K F0 H0 F H r σ fp) {a:Addr} (h:a ∈ fp i):∃ b,r[i]? = some (some b):=by
  cases q:r[i]? with
  | none=>rw [e.emp i (fun b z=>by rw [q] at z; cases z)] at h; simp at h
  | some x =>
    cases x with
    | none=>rw [e.emp i (fun b z=>by rw [q] at z; cases z)] at h; simp at h
    | some b=>exact ⟨b,rfl⟩
theorem Zby.there' (e:Zby K F0 H0 F H r σ fp) {a:Addr} (h:a ∈ fp i):∃ o,H a = some o/\∀ xs,o ≠ .tup xs:=by
 obtain ⟨b,hb⟩:=e.bound h
 obtain ⟨v,_,q⟩:=e.at_ i b hb
 exact q.there' h
theorem Zby.there (e:Zby K F0 H0 F H r σ fp) {a:Addr} (h:a ∈ fp i):∃ o,H a = some o:=let ⟨o,q,_⟩:=e.there' h; ⟨o,q⟩
theorem Zby.sub (e:Zby K F0 H0 F H r σ fp):Zw F H:=e.ext.sub
theorem Zby.grow (e:Zby K F0 H0 F H r σ fp) (x:Ext F H F' H'):Zby K F0 H0 F' H' r σ fp:=by
  refine ⟨e.ext.trans x,e.len,fun i b h=>?_,e.emp,fun i a h=>⟨?_,(e.own i a h).2⟩,e.nd,e.dis⟩
  · obtain ⟨v, h1, h2⟩ := e.at_ i b h
    exact ⟨v,h1,h2.mono x.ff fun a _ o q=>x.hh a o q⟩
  · cases q : F' a with
    | none=>rfl
    | some o =>
      rcases x.new a o q with z | z
      · rw [(e.own i a h).1] at z; cases z
      · obtain ⟨o', h', hn⟩ := e.there' h
        exact (z.no h' hn).elim
theorem At.grow (e:At K F0 H0 F H r σ) (x:Ext F H F' H'):At K F0 H0 F' H' r σ:=let ⟨fp,e⟩:=e; ⟨fp,e.grow x⟩
theorem At.sub (e:At K F0 H0 F H r σ):Zw F H:=let ⟨_,e⟩:=e; e.ext.sub
theorem At.ext (e:At K F0 H0 F H r σ):Ext F0 H0 F H:=let ⟨_,e⟩:=e; e.ext
theorem At.refl (e:At K F0 H0 F H r σ):Ext F H F H:=.refl e.sub
theorem At.plain (e:At K F0 H0 F H r σ) (h:r[i]? = some (some (.pl d))):∃ v,σ[i]? = some (some v)/\Rep K F d v:=by
 obtain ⟨fp,e⟩:=e
 obtain ⟨v,h1,h2⟩:=e.at_ i _ h
 generalize fp i = f at h2
 cases h2 with
 | pl q=>exact ⟨v,h1,q⟩
theorem At.any (e:At K F0 H0 F H r σ) (h:r[i]? = some (some b)):∃ v fp,σ[i]? = some (some v)/\Zat K F H b v fp:=by
 obtain ⟨fp,e⟩:=e
 obtain ⟨v,h1,h2⟩:=e.at_ i _ h
 exact ⟨v,_,h1,h2⟩
theorem At.store (e:At K F0 H0 F H r σ) {fp':List Addr} (q:Zat K F H b v fp') (nd:fp'.Nodup) (h1:∀ a ∈ fp',F a = none/\H0 a = none) (h2:∀ fp,Zby K F0 H0 F H r σ fp->∀ j a,j ≠ i->a ∈ fp j->¬ a ∈ fp') :
  At K F0 H0 F H (r.set i (some b)) (σ.set i (some v)):=by
 obtain ⟨fp,e⟩:=e
 have h2:=h2 fp e
 by_cases hi:i < r.length
 ·refine ⟨fun j=>if j = i then fp' else fp j,e.ext,by rw [List.length_set,List.length_set,e.len],fun j c h=>?_,fun j h=>?_,fun j a h=>?_,fun j=>?_,fun j k a hjk h=>?_⟩
  ·by_cases hj:j = i
   ·subst hj
    rw [List.getElem?_set_self hi] at h
    cases h
    refine ⟨v,List.getElem?_set_self (by rw [<- e.len]; exact hi),?_⟩
    rw [if_pos rfl]; exact q
   ·rw [List.getElem?_set_ne (Ne.symm hj)] at h
    obtain ⟨u,q1,q2⟩:=e.at_ j c h
    refine ⟨u,by rw [List.getElem?_set_ne (Ne.symm hj)]; exact q1,?_⟩
    rw [if_neg hj]; exact q2
  ·by_cases hj:j = i
   ·subst hj
    exact absurd (List.getElem?_set_self hi) (h b)
   ·show (if j = i then fp' else fp j) = []
    rw [if_neg hj]
    exact e.emp j fun c z=>h c (by rw [List.getElem?_set_ne (Ne.symm hj)]; exact z)
  ·by_cases hj:j = i
   ·rw [if_pos hj] at h; exact h1 a h
   ·rw [if_neg hj] at h; exact e.own j a h
  ·show (if j = i then fp' else fp j).Nodup
   by_cases hj:j = i
   ·rw [if_pos hj]; exact nd
   ·rw [if_neg hj]; exact e.nd j
  ·show ¬ a ∈ (if k = i then fp' else fp k)
   by_cases hj:j = i
   ·rw [if_pos hj] at h
    by_cases hk:k = i
    ·exact absurd (hj.trans hk.symm) hjk
    ·rw [if_neg hk]; exact fun z=>h2 k a hk z h
   ·rw [if_neg hj] at h
    by_cases hk:k = i
    ·rw [if_pos hk]; exact h2 j a hj h
    ·rw [if_neg hk]; exact e.dis j k a hjk h
 ·have e1:r.set i (some b) = r:=List.set_eq_of_length_le (by omega)
  have e2:σ.set i (some v) = σ:=List.set_eq_of_length_le (by have:=e.len; omega)
  rw [e1,e2]
  exact ⟨fp,e⟩
theorem At.set (e:At K F0 H0 F H r σ) (q:Rep K F d v):At K F0 H0 F H (r.set i (some (.pl d))) (σ.set i (some v)) :=
 e.store (.pl q) List.nodup_nil (fun a h=>by simp at h) fun _ _ _ _ _ _ h=>by simp at h
theorem Zby.changeW (e:Zby K F0 H0 F H r σ fp) (hv:σ[i]? = some (some v)) {fp':List Addr} (q:Zat K F H' b v fp') (nd:fp'.Nodup) (h1:∀ a ∈ fp',a ∈ fp i\/(F a = none/\H0 a = none/\∀ j,a ∉ fp j))
    (h2:∀ a o,H a = some o->¬ a ∈ fp i->H' a = some o):At K F0 H0 F H' (r.set i (some b)) σ:=by
  have sF:Zw F H':=fun a o z=>h2 a o (e.sub a o z) fun m=>by rw [(e.own i a m).1] at z; cases z
  have sH:Zw H0 H':=fun a o z=>h2 a o (e.ext.hh a o z) fun m=>by rw [(e.own i a m).2] at z; cases z
  have e':Zby K F0 H0 F H' (r.set i none) (σ.set i none) (fun j=>if j = i then [] else fp j):=by
    refine ⟨⟨e.ext.ff,sH,sF,e.ext.new⟩,by rw [List.length_set,List.length_set,e.len],fun j c h=>?_,fun j h=>?_,fun j a h=>?_,fun j=>?_,fun j k a hjk h=>?_⟩
    · by_cases hj : j = i
      · subst hj
        by_cases hi:j < r.length
        · rw [List.getElem?_set_self hi] at h; cases h
        · rw [List.getElem?_eq_none (by rw [List.length_set]; omega)] at h; cases h
      · rw [List.getElem?_set_ne (Ne.symm hj)] at h
        obtain ⟨u,q1,q2⟩:=e.at_ j c h
        refine ⟨u,by rw [List.getElem?_set_ne (Ne.symm hj)]; exact q1,?_⟩
        rw [if_neg hj]
        exact q2.mono (Zw.refl F) fun a ha o z=>h2 a o z (e.dis j i a hj ha)
    · show (if j = i then [] else fp j) = []
      by_cases hj:j = i
      · rw [if_pos hj]
      · rw [if_neg hj]
        exact e.emp j fun c z=>h c (by rw [List.getElem?_set_ne (Ne.symm hj)]; exact z)
    · by_cases hj : j = i
      · rw [if_pos hj] at h; simp at h
      · rw [if_neg hj] at h; exact e.own j a h
    · show (if j = i then [] else fp j).Nodup
      by_cases hj:j = i
      · rw [if_pos hj]; exact List.nodup_nil
      · rw [if_neg hj]; exact e.nd j
    · show ¬ a ∈ (if k = i then [] else fp k)
      by_cases hj:j = i
      · rw [if_pos hj] at h; simp at h
      · rw [if_neg hj] at h
        by_cases hk:k = i
        · rw [if_pos hk]; simp
        · rw [if_neg hk]; exact e.dis j k a hjk h
  have hF:∀ a ∈ fp',F a = none/\H0 a = none:=fun a ha=>by
    rcases h1 a ha with z | z
    · exact e.own i a z
    · exact ⟨z.1,z.2.1⟩
  have e2:=At.store (i:=i) ⟨_,e'⟩ q nd hF fun fq eq j a hj ha z=>by
    obtain ⟨c,hc⟩:=eq.bound ha
    rw [List.getElem?_set_ne (Ne.symm hj)] at hc
    obtain ⟨u1,s1,r1⟩:=eq.at_ j c (by rw [List.getElem?_set_ne (Ne.symm hj)]; exact hc)
    obtain ⟨u2,s2,r2⟩:=e.at_ j c hc
    rw [List.getElem?_set_ne (Ne.symm hj),s2] at s1
    cases s1
    have hm:a ∈ fp j:=by
      have r2':=r2.mono (H':=H') (Zw.refl F) fun a ha o z=>h2 a o z (e.dis j i a hj ha)
      clear r2
      generalize fq j = f1 at r1 ha
      generalize fp j = f2 at r2' ⊢
      cases r1 with
      | pl _=>simp at ha
      | hd _ _ _ _=>simp at ha
      | ol _ _=>cases r2' with | ol _ _=>exact ha
      | ok _ _ _=>cases r2' with | ok _ _ _=>exact ha
      | ot _ _ _=>cases r2' with | ot _ _ _=>exact ha
      | otl a1 _ v1 _ =>
        cases r2' with
        | otl a2 _ v2 _ =>
          rw [a1] at a2
          cases a2
          rw [v1] at v2
          have:∀ {l l':List Addr},l.map V.ref = l'.map V.ref->l = l':=by
            intro l
            induction l with
            | nil=>intro l' h; cases l' with | nil=>rfl | cons _ _=>simp at h
            | cons x xs ih =>
              intro l' h
              cases l' with
              | nil=>simp at h
              | cons y ys =>
                rw [List.map_cons,List.map_cons] at h
                injection h with h1 h2
                injection h1 with h1
                rw [h1,ih h2]
          rw [<- this v2]; exact ha
    rcases h1 a z with w | w
    · exact e.dis j i a hj hm w
    · exact w.2.2 j hm
  rw [List.set_set,List.set_set] at e2
  have es:σ.set i (some v) = σ:=by
    have hi:i < σ.length:=(List.getElem?_eq_some_iff.mp hv).1
    have hq:σ[i] = some v:=(List.getElem?_eq_some_iff.mp hv).2
    rw [<- hq]
    exact List.set_getElem_self hi
  rwa [es] at e2
theorem Zby.change (e:Zby K F0 H0 F H r σ fp) (hv:σ[i]? = some (some v)) {fp':List Addr} (q:Zat K F H' b v fp') (nd:fp'.Nodup) (h1:∀ a ∈ fp',a ∈ fp i\/H a = none)
  (h2:∀ a o,H a = some o->¬ a ∈ fp i->H' a = some o):At K F0 H0 F H' (r.set i (some b)) σ :=
 e.changeW hv q nd (fun a ha=>(h1 a ha).imp id fun z=>⟨e.sub.free z,e.ext.hh.free z,fun j hj=>by
  obtain ⟨o,ho⟩:=e.there hj
  rw [z] at ho; cases ho⟩) h2
theorem At.storeNew {Hb:Hp} (e:At K F0 H0 F H r σ) (hb:At K F0 H0 F' Hb r σ) (sb:Zw Hb H) {fp':List Addr} (q:Zat K F H b v fp') (nd:fp'.Nodup) (h1:∀ a ∈ fp',F a = none/\Hb a = none) :
    At K F0 H0 F H (r.set i (some b)) (σ.set i (some v)):=by
  refine e.store q nd (fun a h=>⟨(h1 a h).1,hb.ext.hh.free (h1 a h).2⟩) fun fp e1 j a hj ha z=>?_
  obtain ⟨fq,eb⟩:=hb
  obtain ⟨c,hc⟩:=e1.bound ha
  obtain ⟨u1,s1,r1⟩:=e1.at_ j c hc
  obtain ⟨u2,s2,r2⟩:=eb.at_ j c hc
  rw [s2] at s1
  cases s1
  have hn:=(h1 a z).2
  have old:∀ {x:Addr} {o o':HO},Hb x = some o->H x = some o'->o = o':=fun {x o o'} h1 h2=>by
    rw [sb x o h1] at h2; exact Option.some.inj h2
  generalize fp j = f1 at r1 ha
  generalize fq j = f2 at r2
  cases r1 with
  | pl _=>simp at ha
  | hd _ _ _ _=>simp at ha
  | ol k _=>cases r2 with | ol k' _=>simp at ha; subst ha; rw [hn] at k'; cases k'
  | ok k _ _=>cases r2 with | ok k' _ _=>simp at ha; subst ha; rw [hn] at k'; cases k'
  | ot k _ _=>cases r2 with | ot k' _ _=>simp at ha; subst ha; rw [hn] at k'; cases k'
  | otl k _ v1 _ =>
    cases r2 with
    | otl k' hk' v2 r2' =>
      have eo:=old k' k
      injection eo with eo
      subst eo
      have v2':=v2
      rw [v1] at v2
      rcases List.mem_cons.mp ha with z2 | z2
      · subst z2; rw [hn] at k'; cases k'
      · have : V.ref a ∈ List.map V.ref _ := List.mem_map.mpr ⟨a, z2, rfl⟩
        rw [v2] at this
        obtain ⟨a',m1,m2⟩:=List.mem_map.mp this
        injection m2 with m2
        subst m2
        obtain ⟨o,ho⟩:=Zat.there (Zat.otl k' hk' v2' r2') (List.mem_cons_of_mem _ m1)
        rw [hn] at ho; cases ho
theorem At.rebase (e:At K F0 H0 F H r σ):At K F H0 F H r σ:=by
 obtain ⟨fp,e⟩:=e
 exact ⟨fp,⟨Zw.refl F,e.ext.hh,e.ext.sub,fun _ _ z=>.inl z⟩,e.len,e.at_,e.emp,e.own,e.nd,e.dis⟩
theorem Ext.unbase {F1 H1:Hp} (x:Ext F0 H0 F1 H1) (y:Ext F1 H0 F H):Ext F0 H0 F H :=
 ⟨x.ff.trans y.ff,y.hh,y.sub,fun a o z=>(y.new a o z).elim (fun q=>x.new a o q) .inr⟩
theorem At.unbase {F1 H1:Hp} (x:Ext F0 H0 F1 H1) (e:At K F1 H0 F H r σ):At K F0 H0 F H r σ:=by
 obtain ⟨fp,e⟩:=e
 exact ⟨fp,x.unbase e.ext,e.len,e.at_,e.emp,e.own,e.nd,e.dis⟩
theorem Zby.freeze {fp:Nat->List Addr} (e:Zby K F0 H0 F H r σ fp) (i:Nat) {b:HM.B} {a:Addr} {ob:HO} {d:PyData} (hb:r[i]? = some (some b)) (h1:σ[i]? = some (some (.ref a))) (hfp:fp i = [a]) (ha:H a = some ob) (hr:Zw F (upd F a ob)->Rep K (upd F a ob) d (.ref a)) :
  ∃ F',Ext F0 H0 F' H/\Zw F F'/\At K F0 H0 F' H (r.set i (some (.pl d))) σ:=by
 have hF:F a = none:=(e.own i a (by rw [hfp]; simp)).1
 have s:Zw F (upd F a ob):=Zw.upd' hF
 have x:Ext F0 H0 (upd F a ob) H:=by
  refine ⟨e.ext.ff.trans s,e.ext.hh,fun c o z=>?_,fun c o z=>?_⟩
  ·by_cases hc:c = a
   ·subst hc; rw [ZP] at z; cases z; exact ha
   ·rw [ZG hc] at z; exact e.sub c o z
  ·by_cases hc:c = a
   ·subst hc; exact .inr (.inl (e.own i c (by rw [hfp]; simp)).2)
   ·rw [ZG hc] at z; exact e.ext.new c o z
 refine ⟨_,x,s,?_⟩
 have e1:Zby K F0 H0 (upd F a ob) H (r.set i none) (σ.set i none) (fun j=>if j = i then [] else fp j):=by
  refine ⟨x,by rw [List.length_set,List.length_set,e.len],fun j c h=>?_,fun j h=>?_,fun j c h=>?_,fun j=>?_,fun j k c hjk h=>?_⟩
  ·by_cases hj:j = i
   ·subst hj
    rw [List.getElem?_set_self (List.getElem?_eq_some_iff.mp hb).1] at h; cases h
   ·rw [List.getElem?_set_ne (Ne.symm hj)] at h
    obtain ⟨u,q1,q2⟩:=e.at_ j c h
    refine ⟨u,by rw [List.getElem?_set_ne (Ne.symm hj)]; exact q1,?_⟩
    rw [if_neg hj]; exact q2.mono s fun _ _ _ z=>z
  ·show (if j = i then [] else fp j) = []
   by_cases hj:j = i
   ·rw [if_pos hj]
   ·rw [if_neg hj]
    exact e.emp j fun c z=>h c (by rw [List.getElem?_set_ne (Ne.symm hj)]; exact z)
  ·by_cases hj:j = i
   ·rw [if_pos hj] at h; simp at h
   ·rw [if_neg hj] at h
    have hca:c ≠ a:=fun z=>e.dis j i c hj h (by rw [hfp,z]; simp)
    exact ⟨by rw [ZG hca]; exact (e.own j c h).1,(e.own j c h).2⟩
  ·show (if j = i then [] else fp j).Nodup
   by_cases hj:j = i
   ·rw [if_pos hj]; exact List.nodup_nil
   ·rw [if_neg hj]; exact e.nd j
  ·show ¬ c ∈ (if k = i then [] else fp k)
   by_cases hj:j = i
   ·rw [if_pos hj] at h; simp at h
   ·rw [if_neg hj] at h
    by_cases hk:k = i
    ·rw [if_pos hk]; simp
    ·rw [if_neg hk]; exact e.dis j k c hjk h
 have rp:=hr s
 have e2:=At.set (i:=i) ⟨_,e1⟩ rp
 rw [List.set_set,List.set_set] at e2
 have es:σ.set i (some (.ref a)) = σ:=by
  have hi:i < σ.length:=(List.getElem?_eq_some_iff.mp h1).1
  have hq:σ[i] = some (.ref a):=(List.getElem?_eq_some_iff.mp h1).2
  rw [<- hq]
  exact List.set_getElem_self hi
 rwa [es] at e2
theorem At.freeze (e:At K F0 H0 F H r σ) (i:Nat):∃ F',Ext F0 H0 F' H/\Zw F F'/\At K F0 H0 F' H (HM.ZkV i r) σ:=by
 unfold HM.ZkV
 split
 ·rename_i ds hb
  obtain ⟨fp,e⟩:=e
  obtain ⟨v,h1,h2⟩:=e.at_ i _ hb
  generalize hfp:fp i = f at h2
  cases h2 with
  | @ol a _ vs ha q=>exact e.freeze i hb h1 hfp ha fun s=>.lst (.of ZP) q.1 (q.mono s).2
 ·rename_i kvs hb
  obtain ⟨fp,e⟩:=e
  obtain ⟨v,h1,h2⟩:=e.at_ i _ hb
  generalize hfp:fp i = f at h2
  cases h2 with
  | @ot a _ vvs ha hk q=>exact e.freeze i hb h1 hfp ha fun s=>.dct (.inl ZP) rfl hk (q.mono s).2
 ·exact ⟨F,e.ext,Zw.refl F,e⟩
end
inductive Now (K:PySem.W.Frag) (r:HM.Env) (σ:L2.St) (H:Hp) (C:Hp->Hp->Hp->Prop):Prop
 | mk (F0 H0 F:Hp) (at_:At K F0 H0 F H r σ) (k:C F0 H0 F):Now K r σ H C
end HP
namespace HP
open PySem PySem.Spec PyProof.Rows L2
def tAt (K:PySem.W.Frag) (r:HM.Env) (P:Hp->Hp->Hp->V->Prop):TE:=fun σ H Q =>
 Now K r σ H fun F0 H0 F=>∀ v F' H',Ext F H F' H'->P H F' H' v->Q v H'
def XE (X:Cx) (e:Expr) (f:HM.EF):Prop:=∀ r d,f r = some d->PE X e (tAt X.K r fun _ F' _ v=>Rep X.K F' d v)
def XB (X:Cx) (e:Expr) (f:HM.BF):Prop:=∀ r b,f r = some b->PE X e (tAt X.K r fun _ F' H' v=>∃ fp,Zat X.K F' H' b v fp)
def XF (X:Cx) (e:Expr) (f:HM.BF):Prop:=∀ r b,f r = some b->PE X e (tAt X.K r fun H F' H' v=>∃ fp,Zat X.K F' H' b v fp/\fp.Nodup/\∀ a ∈ fp,F' a = none/\H a = none)
def XT (X:Cx) (e:Expr) (f:HM.TF):Prop:=∀ r c,f r = some c->PT X e fun σ H Q=>Now X.K r σ H fun F0 H0 F=>∀ F' H',Ext F H F' H'->Q c H'
def XW (X:Cx) (e:Expr) (f:HM.TF):Prop:=∀ r c,f r = some c->PW X e fun σ H Q=>Now X.K r σ H fun F0 H0 F=>∀ F' H',Ext F H F' H'->Q c H'
structure XA (X:Cx) (es:List Expr) (f:HM.AF):Prop where
 len:∀ r ds,f r = some ds->ds.length = es.length
 pa:∀ r ds,f r = some ds->PA X es fun σ H Q=>Now X.K r σ H fun F0 H0 F=>∀ vs F' H',Ext F H F' H'->ZC X.K F' ds vs->Q vs H'
def ItD (K:PySem.W.Frag) (J:It) (ds:List PyData) (F:Hp):Prop:=∀ F' H,Zw F F'->Zw F' H ->
 (∀ (i:Nat) (d:PyData),ds[i]? = some d->J.go i H/\∀ x H',J.yld i H x H'->H' = H/\Rep K (ZcW F' H) d x)/\J.stop ds.length H
def XI (X:Cx) (tg e:Expr) (f:HM.IF):Prop:=∀ r ds,f r = some ds->PI X tg e fun σ H R=>Now X.K r σ H fun F0 H0 F=>∀ J F' H',Ext F H F' H'->ItD X.K J ds F'->R J H'
def Zwc (K:PySem.W.Frag) (F0 H0:Hp) (o:HM.Out) (E:Ends):Prop:=match o with
 | .nx r=>∀ σ F H,At K F0 H0 F H r σ->E.nx σ H
 | .rt d=>∀ v F H,Ext F0 H0 F H->Rep K F d v->E.rt v H
 | .bk r=>∀ σ F H,At K F0 H0 F H r σ->E.bk σ H
 | .ct r=>∀ σ F H,At K F0 H0 F H r σ->E.ct σ H
def tSt (K:PySem.W.Frag) (r:HM.Env) (o:HM.Out):TS:=fun E σ H=>Now K r σ H fun F0 H0 F=>Zwc K F0 H0 o E
def XS (X:Cx) (st:Stmt) (g:HM.SF):Prop:=∀ r o,g r = some o->PS X st (tSt X.K r o)
def XSs (X:Cx) (sts:List Stmt) (g:HM.SF):Prop:=∀ r o,g r = some o->PSs X sts (tSt X.K r o)
theorem PE.imp {X:Cx} {e:Expr} {t u:TE} (h:PE X e t) (hi:∀ σ H Q,u σ H Q->t σ H Q):PE X e u:=fun pins s σ H Q I q=>h pins s σ H Q I (hi σ H Q q)
theorem PT.imp {X:Cx} {e:Expr} {t u:TT} (h:PT X e t) (hi:∀ σ H Q,u σ H Q->t σ H Q):PT X e u:=fun pins s σ H Q I q=>h pins s σ H Q I (hi σ H Q q)
theorem PW.imp {X:Cx} {e:Expr} {t u:TT} (h:PW X e t) (hi:∀ σ H Q,u σ H Q->t σ H Q):PW X e u:=fun wh pins s σ H Q I q=>h wh pins s σ H Q I (hi σ H Q q)
theorem PA.imp {X:Cx} {es:List Expr} {t u:TA} (h:PA X es t) (hi:∀ σ H Q,u σ H Q->t σ H Q):PA X es u:=fun p pins s σ H Q I q=>h p pins s σ H Q I (hi σ H Q q)
theorem PS.imp {X:Cx} {st:Stmt} {t u:TS} (h:PS X st t) (hi:∀ E σ H,u E σ H->t E σ H):PS X st u:=fun pins s σ H E I q=>h pins s σ H E I (hi E σ H q)
theorem PSs.imp {X:Cx} {sts:List Stmt} {t u:TS} (h:PSs X sts t) (hi:∀ E σ H,u E σ H->t E σ H):PSs X sts u:=fun pins s σ H E I q=>h pins s σ H E I (hi E σ H q)
section
variable {X:Cx} {a b c e:Expr} {fa fb fc:HM.EF} {pos p:Pos}
theorem Zsk {i:Nat} {r:HM.Env} {d:PyData} (h:HM.Zb i r = some d):r[i]? = some (some (.pl d)):=by
 unfold HM.Zb at h
 split at h
 ·rename_i q; cases h; exact q
 ·cases h
theorem ZrZ {i:Nat} {r:HM.Env} {d:HM.B} (h:HM.Zk i r = some d):r[i]? = some (some d):=by
 unfold HM.Zk at h
 split at h
 ·rename_i q; cases h; exact q
 ·cases h
theorem Za (i:Nat) {x:Str} {pos:Pos} (hN:X.N[i]? = some x:=by rfl) (hv:Vis X.env.scope x:=by first | exact Or.inl rfl | exact Or.inr (Or.inl rfl) | exact Or.inr (Or.inr rfl)) (hd:(x == ("__debug__":Str)) = false:=by decide)
  (hcd:(x == ("__classdict__":Str)) = false:=by decide):XE X (.Name x pos) (HM.Zb i):=by
 intro r d h
 refine PE.imp (Zcu hN hv hd hcd) fun σ H Q ⟨F0,H0,F,at_,k⟩=>?_
 obtain ⟨v,h1,h2⟩:=at_.plain (Zsk h)
 exact ⟨v,h1,k v F H at_.refl h2⟩
theorem Zq (i:Nat) {x:Str} {pos:Pos} (hN:X.N[i]? = some x:=by rfl) (hv:Vis X.env.scope x:=by first | exact Or.inl rfl | exact Or.inr (Or.inl rfl) | exact Or.inr (Or.inr rfl)) (hd:(x == ("__debug__":Str)) = false:=by decide)
  (hcd:(x == ("__classdict__":Str)) = false:=by decide):XB X (.Name x pos) (HM.Zk i):=by
 intro r d h
 refine PE.imp (Zcu hN hv hd hcd) fun σ H Q ⟨F0,H0,F,at_,k⟩=>?_
 obtain ⟨v,fp,h1,h2⟩:=at_.any (ZrZ h)
 exact ⟨v,h1,k v F H at_.refl ⟨fp,h2⟩⟩
theorem ZfF {v:V} {d:PyData} (h:PE X e (tC v)) (r:∀ F,Rep X.K F d v):XE X e (HM.eC d):=by
 intro r' d' h'
 cases h'
 exact PE.imp h fun σ H Q ⟨F0,H0,F,at_,k⟩=>k v F H at_.refl (r F)
theorem Zh {i:Int} {j:Nat}:XE X (.Constant (.int i) j pos) (HM.eC (.int i)):=ZfF Zql fun _=>.int i
theorem ZcB {q:Bool} {j:Nat}:XE X (.Constant (.bool q) j pos) (HM.eC (.bool q)):=ZfF ZvM fun _=>.bl q
theorem Zb0 {j:Nat}:XE X (.Constant .none j pos) (HM.eC .none):=ZfF Zvp fun _=>.non
theorem Zku {x:Str} {j:Nat}:XE X (.Constant (.str x) j pos) (HM.eC (.str x)):=ZfF ZuN fun _=>.str x
theorem Zjo {x:Str} {i:Int} (hm:∃ t,X.mg x = some (.int i t)) (hg:Gl X x:=by rfl) (hd:(x == ("__debug__":Str)) = false:=by decide):XE X (.Name x pos) (HM.eC (.int i)):=by
 obtain ⟨t,hm⟩:=hm
 exact ZfF (Zpa hg hm (v:=.int i) ⟨t,rfl⟩ hd) fun _=>.int i
theorem ZiH {i:Int} {j:Nat} {p':Pos}:XE X (.UnaryOp .USub (.Constant (.int i) j p') pos) (HM.eC (.int (-i))):=by
 intro r d h
 cases h
 intro pins s σ H Q I q
 obtain ⟨F0,H0,F,at_,k⟩:=q
 refine UnaryOp_ (thn (Zql pins s σ H (fun v H'=>v = .int i/\H' = H) I ⟨rfl,rfl⟩) fun u s1 ⟨x,H1,I1,r1,e1,e2⟩=>?_)
 subst e1 e2
 obtain ⟨t,rfl⟩:=r1
 exact neg_int ⟨.int (-i),H1,I1.tok _,⟨_,rfl⟩,k _ F H1 at_.refl (.int _)⟩
theorem ZaF (h:XE X e fa):XB X e (HM.bOf fa):=by
 intro r b hb
 obtain ⟨d,h1,h2⟩:=Option.map_eq_some_iff.mp hb
 subst h2
 exact PE.imp (h r d h1) fun σ H Q ⟨F0,H0,F,at_,k⟩=>⟨F0,H0,F,at_,fun v F' H' x q=>k v F' H' x ⟨[],.pl q⟩⟩
theorem ZaR {f:HM.BF} (h:XF X e f):XB X e f:=fun r b hb =>
 PE.imp (h r b hb) fun σ H Q ⟨F0,H0,F,at_,k⟩=>⟨F0,H0,F,at_,fun v F' H' x ⟨fp,q,_⟩=>k v F' H' x ⟨fp,q⟩⟩
theorem Zd1 {f:HM.BF} (h:XF X e f):XE X e (HM.eOf f):=by
  intro r d hd
  unfold HM.eOf at hd
  obtain ⟨b,h1,h2⟩:=Option.bind_eq_some_iff.mp hd
  refine PE.imp (h r b h1) fun σ H Q ⟨F0,H0,F,at_,k⟩=>⟨F0,H0,F,at_,fun v F' H' x ⟨fp,q,_,hn⟩=>?_⟩
  cases q with
  | pl q =>
    cases h2
    exact k v F' H' x q
  | @ol l ds vs hl q =>
    cases h2
    have hF:F' l = none:=(hn l (by simp)).1
    have s:Zw F' (upd F' l (.lst vs)):=Zw.upd' hF
    refine k _ (upd F' l (.lst vs)) H' ⟨x.ff.trans s,x.hh,fun c o z=>?_,fun c o z=>?_⟩ (.lst (.of ZP) q.1 (q.mono s).2)
    · by_cases hc : c = l
      · subst hc; rw [ZP] at z; cases z; exact hl
      · rw [ZG hc] at z; exact x.sub c o z
    · by_cases hc : c = l
      · subst hc; exact .inr (.inl (hn c (by simp)).2)
      · rw [ZG hc] at z; exact x.new c o z
  | @ot l kvs vvs hl hk q =>
    cases h2
    have hF:F' l = none:=(hn l (by simp)).1
    have s:Zw F' (upd F' l (.dT vvs)):=Zw.upd' hF
    refine k _ (upd F' l (.dT vvs)) H' ⟨x.ff.trans s,x.hh,fun c o z=>?_,fun c o z=>?_⟩ (.dct (.inl ZP) rfl hk (q.mono s).2)
    · by_cases hc : c = l
      · subst hc; rw [ZP] at z; cases z; exact hl
      · rw [ZG hc] at z; exact x.sub c o z
    · by_cases hc : c = l
      · subst hc; exact .inr (.inl (hn c (by simp)).2)
      · rw [ZG hc] at z; exact x.new c o z
  | ok _ _ _=>cases h2
  | hd h3 h4 h5 h6=>cases h2; exact k _ F' H' x (.dct (.inr ⟨_,h3⟩) h4 h5 h6.2)
  | otl _ _ _ _=>cases h2
def Bin (K:PySem.W.Frag) (r:R2) (g:PyData->PyData->Option PyData):Prop:=∀ (F H:Hp) (x y z:PyData) (v w:V) (Q:VK),Zw F H->g x y = some z->Rep K F x v->Rep K F y w->(∀ u,Rep K F z u->Q u H)->r v w H Q
structure Znj (X:Cx) (op:Operator) (g:PyData->PyData->Option PyData):Prop where
 ex:∃ r,OpR X (binaryOp op) r/\Bin X.K r g
structure ZeX (X:Cx) (op:CmpOp) (g:PyData->PyData->Option PyData):Prop where
 ex:∃ r,OpR X (compareOp op) r/\Bin X.K r g
 n1:op ≠ .In
 n2:op ≠ .NotIn
theorem ZgI {g:PyData->PyData->Option PyData} {r:HM.Env} {d:PyData} (h:HM.op2 g fa fb r = some d):∃ x y,fa r = some x/\fb r = some y/\g x y = some d:=by
 unfold HM.op2 at h
 split at h
 ·split at h
  ·exact ⟨_,_,by assumption,by assumption,h⟩
  ·cases h
 ·cases h
theorem two {K:PySem.W.Frag} {r:HM.Env} {x y:PyData} {P:Hp->Hp->Hp->V->Prop} {σ:L2.St} {H:Hp} {Q:VK} {R:V->V->Hp->VK->Prop} (h:tAt K r P σ H Q)
  (hk:∀ H F2 H2 v w,Zw F2 H2->Rep K F2 x v->Rep K F2 y w->(∀ u F3 H3,Ext F2 H2 F3 H3->P H F3 H3 u->Q u H3)->Zw H H2->R v w H2 Q) :
  tOp R (tAt K r fun _ F' _ v=>Rep K F' x v) (tAt K r fun _ F' _ v=>Rep K F' y v) σ H Q:=by
 obtain ⟨F0,H0,F,at_,k⟩:=h
 refine ⟨F0,H0,F,at_,fun v F1 H1 x1 r1=>⟨F0,H0,F1,at_.grow x1,fun w F2 H2 x2 r2=>?_⟩⟩
 exact hk H F2 H2 v w x2.sub (r1.mono x2.ff) r2 (fun u F3 H3 x3 q=>k u F3 H3 ((x1.trans x2).trans x3) q) (x1.hh.trans x2.hh)
theorem ZL {op:Operator} {g:PyData->PyData->Option PyData} (o:Znj X op g) (ha:XE X a fa) (hb:XE X b fb):XE X (.BinOp a op b pos) (HM.op2 g fa fb):=by
 intro r d h
 obtain ⟨x,y,h1,h2,h3⟩:=ZgI h
 obtain ⟨R,o1,o2⟩:=o.ex
 refine PE.imp (ZpT o1 (ha r x h1) (hb r y h2)) fun σ H Q q=>?_
 exact two q fun _ F2 H2 v w s r1 r2 k _=>o2 F2 H2 x y d v w Q s h3 r1 r2 fun u ru=>k u F2 H2 (.refl s) ru
theorem ZgK {op:CmpOp} {g:PyData->PyData->Option PyData} (o:ZeX X op g) (ha:XE X a fa) (hb:XE X b fb):XE X (.Compare a [op] [b] pos) (HM.op2 g fa fb):=by
 intro r d h
 obtain ⟨x,y,h1,h2,h3⟩:=ZgI h
 obtain ⟨R,o1,o2⟩:=o.ex
 refine PE.imp (Zo0 o1 (ha r x h1) (hb r y h2) (Zg2 _ o.n1 o.n2)) fun σ H Q q=>?_
 exact two q fun _ F2 H2 v w s r1 r2 k _=>o2 F2 H2 x y d v w Q s h3 r1 r2 fun u ru=>k u F2 H2 (.refl s) ru
theorem Zgb {r:HM.Env} {c:Bool} (h:HM.tV fa r = some c):fa r = some (.bool c):=by
 unfold HM.tV at h
 split at h
 ·rename_i q; cases h; exact q
 ·cases h
theorem Rep.bool_inv {K:PySem.W.Frag} {F:Hp} {c:Bool} {v:V} (h:Rep K F (.bool c) v):v = .bl c:=by cases h; rfl
theorem Rep.int_inv {K:PySem.W.Frag} {F:Hp} {i:Int} {v:V} (h:Rep K F (.int i) v):v = .int i:=by cases h; rfl
theorem Rep.none_inv {K:PySem.W.Frag} {F:Hp} {v:V} (h:Rep K F .none v):v = .non:=by cases h; rfl
theorem Zar {op:CmpOp} {g:PyData->PyData->Option PyData} (o:ZeX X op g) (ha:XE X a fa) (hb:XE X b fb):XT X (.Compare a [op] [b] pos) (HM.tV (HM.op2 g fa fb)):=by
 intro r d h
 obtain ⟨x,y,h1,h2,h3⟩:=ZgI (Zgb h)
 obtain ⟨R,o1,o2⟩:=o.ex
 refine PT.imp (Zjx o1 (ha r x h1) (hb r y h2) (Zg2 _ o.n1 o.n2)) fun σ H Q ⟨F0,H0,F,at_,k⟩=>?_
 refine ⟨F0,H0,F,at_,fun v F1 H1 x1 r1=>⟨F0,H0,F1,at_.grow x1,fun w F2 H2 x2 r2=>?_⟩⟩
 refine o2 F2 H2 x y _ v w _ x2.sub h3 (r1.mono x2.ff) r2 fun u ru=>?_
 exact ⟨d,ru.bool_inv,k F2 H2 (x1.trans x2)⟩
theorem Zba (h:XE X e fa) (he:∀ whole,isTrue e X.env whole = (do let v <- whole; standAt e.pos; holding [v] (truthy v)):=by intro _; rfl):XT X e (HM.tV fa):=by
 intro r c hc
 refine PT.imp (Zun (h r _ (Zgb hc)) he) fun σ H Q ⟨F0,H0,F,at_,k⟩=>?_
 exact ⟨F0,H0,F,at_,fun v F1 H1 x1 r1=>⟨c,r1.bool_inv,k F1 H1 x1⟩⟩
theorem Zcl {t:HM.TF} (h:XT X a t):XT X (.UnaryOp .Not a pos) (HM.ZbJ t):=by
 intro r c hc
 obtain ⟨d,h1,h2⟩:=Option.map_eq_some_iff.mp hc
 subst h2
 refine PT.imp (ZuC (h r d h1)) fun σ H Q ⟨F0,H0,F,at_,k⟩=>?_
 exact ⟨F0,H0,F,at_,fun F1 H1 x1=>k F1 H1 x1⟩
theorem ZiI {t:HM.TF} (h:XW X e t):XT X e t:=fun r c hc=>(h r c hc).pt
theorem ZoS {t:HM.TF} (h:XT X a t):XW X (.BoolOp .And [a] pos) t:=fun r c hc=>ZtB (h r c hc)
theorem ZhI {t:HM.TF} (h:XT X a t):XW X (.BoolOp .Or [a] pos) t:=fun r c hc=>Zuu (h r c hc)
theorem ZnD {e:Expr}:PW X e fun _ _ _=>False:=fun _ _ _ _ _ _ _ h=>h.elim
theorem Zkq {e:Expr}:PE X e fun _ _ _=>False:=fun _ _ _ _ _ _ h=>h.elim
theorem Zqa {t u:HM.TF} {rest:List Expr} (ha:XT X a t) (hb:XW X (.BoolOp .And (b :: rest) pos) u):XW X (.BoolOp .And (a :: b :: rest) pos) (HM.Zhz t u):=by
 intro r c hc
 unfold HM.Zhz at hc
 split at hc
 ·rename_i q
  refine PW.imp (Zqw (ha r true q) (hb r c hc)) fun σ H Q ⟨F0,H0,F,at_,k⟩=>?_
  exact ⟨F0,H0,F,at_,fun F1 H1 x1=>Zlc ⟨F0,H0,F1,at_.grow x1,fun F2 H2 x2=>k F2 H2 (x1.trans x2)⟩⟩
 ·rename_i q
  cases hc
  refine PW.imp (Zqw (ha r false q) ZnD) fun σ H Q ⟨F0,H0,F,at_,k⟩=>?_
  exact ⟨F0,H0,F,at_,fun F1 H1 x1=>Zlt (k F1 H1 x1)⟩
 ·cases hc
theorem Zhh {t u:HM.TF} {rest:List Expr} (ha:XT X a t) (hb:XW X (.BoolOp .Or (b :: rest) pos) u):XW X (.BoolOp .Or (a :: b :: rest) pos) (HM.tOr t u):=by
 intro r c hc
 unfold HM.tOr at hc
 split at hc
 ·rename_i q
  cases hc
  refine PW.imp (ZsY (ha r true q) ZnD) fun σ H Q ⟨F0,H0,F,at_,k⟩=>?_
  exact ⟨F0,H0,F,at_,fun F1 H1 x1=>Zlc (k F1 H1 x1)⟩
 ·rename_i q
  refine PW.imp (ZsY (ha r false q) (hb r c hc)) fun σ H Q ⟨F0,H0,F,at_,k⟩=>?_
  exact ⟨F0,H0,F,at_,fun F1 H1 x1=>Zlt ⟨F0,H0,F1,at_.grow x1,fun F2 H2 x2=>k F2 H2 (x1.trans x2)⟩⟩
 ·cases hc
theorem Zer {op:BoolOp} (h:XE X a fa):XE X (.BoolOp op [a] pos) fa:=fun r d hd=>ZuM (h r d hd)
theorem Zes {rest:List Expr} (ha:XE X a fa) (hb:XE X (.BoolOp .And (b :: rest) pos) fb):XE X (.BoolOp .And (a :: b :: rest) pos) (HM.Ze0 fa fb):=by
 intro r d hd
 unfold HM.Ze0 at hd
 split at hd
 ·rename_i q
  refine PE.imp (ZqF (ha r _ q) (hb r d hd)) fun σ H Q ⟨F0,H0,F,at_,k⟩=>?_
  exact ⟨F0,H0,F,at_,fun v F1 H1 x1 r1=>⟨true,r1.bool_inv,Zlc ⟨F0,H0,F1,at_.grow x1,fun w F2 H2 x2 r2=>k w F2 H2 (x1.trans x2) r2⟩⟩⟩
 ·rename_i q
  cases hd
  refine PE.imp (ZqF (ha r _ q) Zkq) fun σ H Q ⟨F0,H0,F,at_,k⟩=>?_
  exact ⟨F0,H0,F,at_,fun v F1 H1 x1 r1=>⟨false,r1.bool_inv,Zlt (k _ F1 H1 x1 (.bl false))⟩⟩
 ·cases hd
theorem Zt2 (ha:XE X a fa):XE X (.UnaryOp .Not a pos) (HM.Zsg fa):=by
 intro r d hd
 unfold HM.Zsg at hd
 split at hd
 ·rename_i c q
  cases hd
  refine PE.imp (Zul (ha r _ q)) fun σ H Q ⟨F0,H0,F,at_,k⟩=>?_
  exact ⟨F0,H0,F,at_,fun v F1 H1 x1 r1=>⟨c,r1.bool_inv,k _ F1 H1 x1 (.bl _)⟩⟩
 ·cases hd
theorem Zmy {op op':CmpOp} {g g':PyData->PyData->Option PyData} (o:ZeX X op g) (o':ZeX X op' g') (ha:XE X a fa) (hb:XE X b fb) (hc:XE X c fc)
  (hm:lastMarks [op,op'] [b,c] = false:=by with_unfolding_all rfl):XE X (.Compare a [op,op'] [b,c] pos) (HM.Zga g g' fa fb fc):=by
 intro r d hd
 unfold HM.Zga at hd
 obtain ⟨R,o1,o2⟩:=o.ex
 obtain ⟨R',o1',o2'⟩:=o'.ex
 split at hd
 ·rename_i x hx
  split at hd
  ·rename_i y hy
   split at hd
   ·rename_i hg
    split at hd
    ·rename_i z hz
     refine PE.imp (Znx o1 o1' (ha r x hx) (hb r y hy) (hc r z hz) hm) fun σ H Q ⟨F0,H0,F,at_,k⟩=>?_
     refine ⟨F0,H0,F,at_,fun v F1 H1 x1 r1=>⟨F0,H0,F1,at_.grow x1,fun w F2 H2 x2 r2=>?_⟩⟩
     refine o2 F2 H2 x y _ v w _ x2.sub hg (r1.mono x2.ff) r2 fun u ru=>?_
     refine ⟨true,ru.bool_inv,Zlc ⟨F0,H0,F2,(at_.grow x1).grow x2,fun w' F3 H3 x3 r3=>?_⟩⟩
     exact o2' F3 H3 y z d w w' Q x3.sub hd (r2.mono x3.ff) r3 fun u' ru'=>k u' F3 H3 ((x1.trans x2).trans x3) ru'
    ·cases hd
   ·rename_i hg
    cases hd
    refine PE.imp (Znx o1 o1' (ha r x hx) (hb r y hy) Zkq hm) fun σ H Q ⟨F0,H0,F,at_,k⟩=>?_
    refine ⟨F0,H0,F,at_,fun v F1 H1 x1 r1=>⟨F0,H0,F1,at_.grow x1,fun w F2 H2 x2 r2=>?_⟩⟩
    refine o2 F2 H2 x y _ v w _ x2.sub hg (r1.mono x2.ff) r2 fun u ru=>?_
    exact ⟨false,ru.bool_inv,Zlt (k _ F2 H2 (x1.trans x2) (.bl false))⟩
   ·cases hd
  ·cases hd
 ·cases hd
theorem Zj:XA X [] HM.Zm:=by
 refine ⟨fun r ds h=>by cases h; rfl,fun r ds h=>?_⟩
 cases h
 exact PA.imp ZbU fun σ H Q ⟨F0,H0,F,at_,k⟩=>k [] F H at_.refl .nil
theorem Zd {es:List Expr} {f:HM.AF} (ha:XE X e fa) (hr:XA X es f) (hs:starEach (e :: es) X.env = (false,eval e X.env) :: starEach es X.env:=by rfl):XA X (e :: es) (HM.Zc fa f):=by
 refine ⟨fun r ds h=>?_,fun r ds h=>?_⟩
 ·unfold HM.Zc at h
  split at h
  ·obtain ⟨xs,h1,h2⟩:=Option.map_eq_some_iff.mp h
   subst h2
   rw [List.length_cons,List.length_cons,hr.len r xs h1]
  ·cases h
 unfold HM.Zc at h
 split at h
 ·rename_i x hx
  obtain ⟨xs,h1,h2⟩:=Option.map_eq_some_iff.mp h
  subst h2
  refine PA.imp (Zav (ha r x hx) (hr.pa r xs h1) hs) fun σ H Q ⟨F0,H0,F,at_,k⟩=>?_
  exact ⟨F0,H0,F,at_,fun v F1 H1 x1 r1=>⟨F0,H0,F1,at_.grow x1,fun vs F2 H2 x2 r2=>k (v :: vs) F2 H2 (x1.trans x2) (.cons (r1.mono x2.ff) r2)⟩⟩
 ·cases h
theorem Zc7 {es:List Expr} {f:HM.AF} {x1:Nat} (h:XA X es f) (hl:es.length <= 100:=by exact Nat.le_of_ble_eq_true rfl):XE X (.Tuple es x1 pos) (HM.Zca f):=by
 intro r d hd
 obtain ⟨ds,h1,h2⟩:=Option.map_eq_some_iff.mp hd
 subst h2
 refine PE.imp (ZuG (h.pa r ds h1)) fun σ H Q ⟨F0,H0,F,at_,k⟩=>⟨F0,H0,F,at_,fun vs F1 H1 x1 r1=>⟨?_,fun p hp=>?_⟩⟩
 ·have e1:=h.len r ds h1
  have e2:=r1.1
  have e3:(100:Nat) <= sizeLine:=by decide
  omega
 ·have hF:F1 p = none:=x1.sub.free hp
  exact k _ (upd F1 p (.tup vs)) _ (x1.lay hp) (.tup ZP r1.1 (r1.mono (Zw.upd' hF)).2)
theorem Zcm {es:List Expr} {f:HM.AF} (h:XA X es f) (hl:es.length <= 100:=by exact Nat.le_of_ble_eq_true rfl):XF X (.List es pos) (HM.ZfR f):=by
 intro r d hd
 obtain ⟨ds,h1,h2⟩:=Option.map_eq_some_iff.mp hd
 subst h2
 refine PE.imp (Zva (h.pa r ds h1)) fun σ H Q ⟨F0,H0,F,at_,k⟩=>⟨F0,H0,F,at_,fun vs F1 H1 x1 r1=>⟨?_,fun p hp=>?_⟩⟩
 ·have e1:=h.len r ds h1
  have e2:=r1.1
  have e3:(100:Nat) <= sizeLine:=by decide
  omega
 ·have hF:F1 p = none:=x1.sub.free hp
  refine k _ F1 _ (x1.lay' hp) ⟨[p],.ol ZP r1,by simp,fun a ha=>?_⟩
  have:a = p:=by simpa using ha
  subst this
  exact ⟨hF,x1.hh.free hp⟩
end
end HP
namespace HP
open PySem PySem.Spec PyProof.Rows L2
section
variable {X:Cx} {a b c e:Expr} {fa fb fc:HM.EF} {pos p:Pos} {st:Stmt} {rest:List Stmt} {g u:HM.SF}
theorem ZlL (h:X.xe = fun _ _=>False):PassesOwn (model X.prog X.w) X.A X.env X.xe:=by rw [h]; exact PassesOwn.never
theorem ZX:XSs X [] HM.Zai:=by
 intro r o h
 cases h
 exact PSs.imp ZtL fun E σ H ⟨F0,H0,F,at_,k⟩=>k σ F H at_
theorem Zi (h:XS X st g):XSs X [st] g:=fun r o ho=>Zph (h r o ho)
theorem Zf (h1:XS X st g) (h2:XSs X rest u):XSs X (st :: rest) (HM.Zu g u):=by
  intro r o h
  unfold HM.Zu at h
  split at h
  · rename_i r' q
    refine PSs.imp (ZnR (h1 r _ q) (h2 r' o h)) fun E σ H ⟨F0,H0,F,at_,k⟩=>?_
    exact ⟨F0,H0,F,at_,fun σ' F' H' at'=>⟨F0,H0,F',at',k⟩⟩
  all_goals first
    | cases h
      rename_i q
      refine PSs.imp (ZnR (h1 r _ q) Zi2) fun E σ H ⟨F0,H0,F,at_,k⟩=>?_
      exact ⟨F0,H0,F,at_,k⟩
    | cases h
theorem Zmz:XS X st HM.Zi0:=fun r o h=>nomatch h
theorem Zx (h:XE X e fa):XS X (.Return (some e) pos) (HM.ZH fa):=by
 intro r o ho
 obtain ⟨d,h1,h2⟩:=Option.map_eq_some_iff.mp ho
 subst h2
 refine PS.imp (ZqZ (h r d h1)) fun E σ H ⟨F0,H0,F,at_,k⟩=>?_
 exact ⟨F0,H0,F,at_,fun v F' H' x q=>k v F' H' (at_.ext.trans x) q⟩
theorem ZoT (h:XE X e fa) (hs:swapsWith e none pos.line X.env = pure false:=by rfl):XS X (.Expr e pos) (HM.ZpP fa):=by
 intro r o ho
 obtain ⟨d,h1,h2⟩:=Option.map_eq_some_iff.mp ho
 subst h2
 refine PS.imp (ZhO (h r d h1) hs) fun E σ H ⟨F0,H0,F,at_,k⟩=>?_
 exact ⟨F0,H0,F,at_,fun v F' H' x q=>k σ F' H' (at_.grow x)⟩
theorem Zan {t:HM.TF} {sa sb:List Stmt} (hc:XT X c t) (ha:XSs X sa g) (hb:XSs X sb u):XS X (.If c sa sb pos) (HM.sIf t g u):=by
 intro r o ho
 unfold HM.sIf at ho
 split at ho
 ·rename_i q
  refine PS.imp (Zs8 (hc r _ q) (ha r o ho) Zi2) fun E σ H ⟨F0,H0,F,at_,k⟩=>?_
  exact ⟨F0,H0,F,at_,fun F' H' x=>Zlc ⟨F0,H0,F',at_.grow x,k⟩⟩
 ·rename_i q
  refine PS.imp (Zs8 (hc r _ q) Zi2 (hb r o ho)) fun E σ H ⟨F0,H0,F,at_,k⟩=>?_
  exact ⟨F0,H0,F,at_,fun F' H' x=>Zlt ⟨F0,H0,F',at_.grow x,k⟩⟩
 ·cases ho
theorem Zfa (i:Nat) (h:XS X st g):XS X st (HM.Zg4 i g):=by
 intro r o ho
 refine PS.imp (h (HM.ZkV i r) o ho) fun E σ H ⟨F0,H0,F,at_,k⟩=>?_
 obtain ⟨F',_,_,a'⟩:=at_.freeze i
 exact ⟨F0,H0,F',a',k⟩
theorem ZO (i:Nat) {x:Str} {p':Pos} (hN:X.N.Nodup) (h:XE X e fa) (hi:X.N[i]? = some x:=by rfl) (hx:Loc X.env.scope x:=by first | exact Or.inl rfl | exact Or.inr rfl)
  (hs:swapsWith e (some (.Name x p')) pos.line X.env = pure false:=by rfl) (hf:X.fn x = true\/X.env.scope.names.lookup x = some .local:=by first | exact .inl rfl | exact .inr rfl) :
  XS X (.Assign [.Name x p'] e pos) (HM.Z9 i fa):=by
 intro r o ho
 obtain ⟨d,h1,h2⟩:=Option.map_eq_some_iff.mp ho
 subst h2
 refine PS.imp (Znk hN hi hx (h r d h1) hs hf) fun E σ H ⟨F0,H0,F,at_,k⟩=>?_
 exact ⟨F0,H0,F,at_,fun v F' H' x q=>k _ F' H' ((at_.grow x).set q)⟩
theorem ZaD (i:Nat) {x:Str} {p':Pos} {f:HM.BF} (hN:X.N.Nodup) (h:XF X e f) (hi:X.N[i]? = some x:=by rfl) (hx:Loc X.env.scope x:=by first | exact Or.inl rfl | exact Or.inr rfl)
  (hs:swapsWith e (some (.Name x p')) pos.line X.env = pure false:=by rfl) (hf:X.fn x = true\/X.env.scope.names.lookup x = some .local:=by first | exact .inl rfl | exact .inr rfl) :
  XS X (.Assign [.Name x p'] e pos) (HM.Zac i f):=by
 intro r o ho
 obtain ⟨d,h1,h2⟩:=Option.map_eq_some_iff.mp ho
 subst h2
 refine PS.imp (Znk hN hi hx (h r d h1) hs hf) fun E σ H ⟨F0,H0,F,at_,k⟩=>?_
 exact ⟨F0,H0,F,at_,fun v F' H' x ⟨fp,q,nd,hn⟩=>k _ F' H' ((at_.grow x).storeNew at_ x.hh q nd hn)⟩
theorem ZaY (i:Nat) {x:Str} {p':Pos} {iter:Expr} {body:List Stmt} {fi:HM.IF} (hN:X.N.Nodup) (hxe:X.xe = fun _ _=>False) (hc:X.calm = true) (hi:XI X (.Name x p') iter fi) (hb:XSs X body g) (hix:X.N[i]? = some x:=by rfl)
    (hx:Loc X.env.scope x:=by first | exact Or.inl rfl | exact Or.inr rfl) (hf:X.fn x = true\/X.env.scope.names.lookup x = some .local:=by first | exact .inl rfl | exact .inr rfl)
    (hs:∀ x,foldedSetIterable iter X.env x = pure x:=by intro _; rfl):XS X (.For (.Name x p') iter body [] pos) (HM.Za9 i fi g):=by
  intro r o ho
  unfold HM.Za9 at ho
  split at ho
  · rename_i ds hds
    split at ho
    · rename_i hbig
      have pb:PSs X body (fun E σ H=>∃ r o,g r = some o/\tSt X.K r o E σ H):=fun pins s σ H E I ⟨r,o,h1,h2⟩=>hb r o h1 pins s σ H E I h2
      refine PS.imp (Zum (ZlL hxe) hc (hi r ds hds) (ZjA hN hix hx hf) pb hs) fun E σ H ⟨F0,H0,F,at_,k⟩=>?_
      refine ⟨F0,H0,F,at_,fun J F1 H1 x1 it=>?_⟩
      refine ⟨fun n m σ H=>∃ F r,At X.K F0 H0 F H r σ/\Zw F1 F/\n + m = ds.length/\HM.Z2 i g (ds.drop n) r = some o,⟨ds.length,F1,r,at_.grow x1,Zw.refl _,by omega,ho⟩,?_⟩
      rintro n m σ H ⟨F2,r2,at2,s2,hn,go⟩
      obtain ⟨it1,it2⟩:=it F2 H s2 at2.sub
      cases m with
      | zero =>
        have e:n = ds.length:=by omega
        subst e
        rw [List.drop_length] at go
        cases go
        exact .inl ⟨it2,k σ F2 H at2⟩
      | succ m =>
        have hlt:n < ds.length:=by omega
        rw [List.drop_eq_getElem_cons hlt] at go
        obtain ⟨j1,j2⟩:=it1 n ds[n] (List.getElem?_eq_getElem hlt)
        refine .inr ⟨j1,fun σ' H'=>∃ F r,At X.K F0 H0 F H' r σ'/\Zw F1 F/\HM.Z2 i g (ds.drop (n + 1)) r = some o,fun σ' H' ⟨F,r,a1,a2,a3⟩=>⟨m,by omega,F,r,a1,a2,by omega,a3⟩,fun y H' hy=>?_⟩
        obtain ⟨e1,ry⟩:=j2 y H' hy
        subst e1
        obtain ⟨F3,at3,s3,ry⟩:∃ F3,At X.K F0 H0 F3 H' r2 σ/\Zw F1 F3/\Rep X.K F3 ds[n] y:=⟨_,at2.grow at2.refl.tups,s2.trans (Zec at2.sub),ry⟩
        have a3:=at3.set (i:=i) ry
        have a4:=a3.rebase
        unfold HM.Z2 at go
        split at go
        · rename_i r' hr
          exact ⟨_,_,hr,F3,H0,F3,a4,fun σ' F' H' a'=>⟨F',r',a'.unbase at3.ext,s3.trans a'.ext.ff,go⟩⟩
        · rename_i r' hr
          exact ⟨_,_,hr,F3,H0,F3,a4,fun σ' F' H' a'=>⟨F',r',a'.unbase at3.ext,s3.trans a'.ext.ff,go⟩⟩
        · rename_i r' hr
          cases go
          exact ⟨_,_,hr,F3,H0,F3,a4,fun σ' F' H' a'=>k σ' F' H' (a'.unbase at3.ext)⟩
        · rename_i d hr
          cases go
          exact ⟨_,_,hr,F3,H0,F3,a4,fun v F' H' x q=>k v F' H' (at3.ext.unbase x) q⟩
        · cases go
    · cases ho
  · cases ho
end
def spD (K:PySem.W.Frag) (n:Nat) (M:List PyData->Option PyData):Sp:=fun vs H Q _=>∃ F ds d,vs.length = n/\Zw F H/\ZC K F ds vs/\M ds = some d/\∀ v F' H',Ext F H F' H'->Rep K F' d v->Q v H'
structure Callee (P:Program) (w:World) (K:PySem.W.Frag) (mg:Str->Option Value) (base:Heap) (k:Nat) (x:Str) (M:List PyData->Option PyData):Prop where
 ex:∃ f fd ps,(∀ ds d,M ds = some d->ds.length = ps.length)/\Zen P w K mg base CX0 k f fd ps (spD K ps.length M)/\mg x = some (.ref f)/\PySem.W.keepIn K (.ref f) = true/\Binds K fd ps []
theorem Callee.mono {P:Program} {w:World} {K:PySem.W.Frag} {mg:Str->Option Value} {base:Heap} {j k:Nat} {x:Str} {M:List PyData->Option PyData} (C:Callee P w K mg base j x M) (h:j <= k):Callee P w K mg base k x M:=by
 obtain ⟨f,fd,ps,l,F,r⟩:=C.ex
 exact ⟨f,fd,ps,l,F.mono h,r⟩
section
variable {X:Cx} {pos p:Pos} {e:Expr} {es:List Expr} {f:HM.AF}
theorem Zn {k:Nat} {x:Str} {M:List PyData->Option PyData} (C:Callee X.prog X.w X.K X.mg X.base k x M) (hr:ZaN k X.A) (ha:XA X (e :: es) f) (hg:Gl X x:=by rfl) (hdb:(x == ("__debug__":Str)) = false:=by decide)
  (he:starEach (e :: es) X.env = (false,eval e X.env) :: starEach es X.env:=by rfl) (hpl:(backTo pos (starEach es X.env)).any (·.1) = false:=by rfl):XE X (.Call (.Name x p) (e :: es) [] pos) (HM.Zp M f):=by
 intro r d hd
 unfold HM.Zp at hd
 split at hd
 ·rename_i ds hds
  obtain ⟨fa,fd,ps,hl,F,hm,hk,hb⟩:=C.ex
  refine PE.imp (ZhL (E:=E0) F hr hg hm hk hb .nil ZkJ (ha.pa r ds hds) hdb he hpl) fun σ H Q ⟨F0,H0,F1,at_,k⟩=>?_
  refine ⟨F0,H0,F1,at_,fun vs F' H' x q=>?_⟩
  show spD X.K ps.length M (vs ++ []) H' Q E0
  rw [List.append_nil]
  exact ⟨F',ds,d,by rw [<- q.1]; exact hl ds d hd,x.sub,q,hd,fun v F2 H2 x2 q2=>k v F2 H2 (x.trans x2) q2⟩
 ·cases hd
end
theorem Znv {K:PySem.W.Frag} {F H:Hp} {N:List Str} {ds:List PyData} {vs:List V} (s:Zw F H) (q:ZC K F ds vs) (hl:ds.length <= N.length):At K F H F H (HM.ZhU N.length ds) (L2.start N vs):=by
 have hv:=q.1
 refine ⟨fun _=>[],.refl s,?_,fun i b h=>?_,fun _ _=>rfl,fun i a h=>by simp at h,fun _=>List.nodup_nil,fun i j a _ h=>by simp at h⟩
 ·unfold HM.ZhU L2.start
  rw [List.length_append,List.length_append,List.length_map,List.length_map,List.length_replicate,List.length_replicate,hv]
 ·unfold HM.ZhU at h
  by_cases hi:i < ds.length
  ·rw [List.getElem?_append_left (by rw [List.length_map]; exact hi),List.getElem?_map,List.getElem?_eq_getElem hi] at h
   cases h
   obtain ⟨v,h1,h2⟩:=q.get (List.getElem?_eq_getElem hi)
   refine ⟨v,?_,.pl h2⟩
   unfold L2.start
   rw [List.getElem?_append_left (by rw [List.length_map,<- hv]; exact hi),List.getElem?_map,h1]
   rfl
  ·rw [List.getElem?_append_right (by rw [List.length_map]; omega),List.getElem?_replicate] at h
   split at h <;> cases h
theorem Zpb {P:Program} {w:World} {K:PySem.W.Frag} {mg:Str->Option Value} {base:Heap} {k:Nat} {x qual:Str} {st:Stmt} {f:Addr} {fd:FuncData} {N ps:List Str} {g:HM.SF} (Fn:Fun K x qual st f fd) (S:ZB N ps (Zg st))
  (body:∀ (cdv:Value) (A:Around) (outer:List Env) (s:Shared) (H:Hp) (E:XK),ZaN k (A.deeper (envOfC qual (Zg st) s.heap.objs.size f cdv))->XSs (Zii CX0 P w K mg base N qual (Zg st) f cdv A outer s H E).nox (Zc1 st) g) :
  Zen P w K mg base CX0 (k + 1) f fd ps (spD K ps.length (HM.fnOf ps.length N.length g)):=by
 have hpl:ps.length <= N.length:=by have:=congrArg List.length S.pre; rw [List.length_take] at this; omega
 refine Fn.ok S (fun vs H Q E h=>?_) (fun cdv A outer s H vs Q E hr h=>?_)
 ·obtain ⟨_,_,_,h,_⟩:=h
  exact h
 ·obtain ⟨F,ds,d,hl,sub,q,hM,kk⟩:=h
  unfold HM.fnOf at hM
  split at hM
  ·rename_i hds
   have a0:=Znv (N:=N) sub q (by omega)
   split at hM
   ·rename_i r hr'
    cases hM
    exact ⟨_,body cdv A outer s H E hr _ _ hr',F,H,F,a0,fun σ F' H' a'=>kk .non F' H' a'.ext .non⟩
   ·rename_i d' hr'
    cases hM
    exact ⟨_,body cdv A outer s H E hr _ _ hr',F,H,F,a0,fun v F' H' x q=>kk v F' H' x q⟩
   ·cases hM
  ·cases hM
theorem Zv {P:Program} {w:World} {K:PySem.W.Frag} {mg:Str->Option Value} {base:Heap} {k:Nat} {x qual:Str} {st:Stmt} {f:Addr} {fd:FuncData} {N ps:List Str} {g:HM.SF} (Fn:Fun K x qual st f fd) (S:ZB N ps (Zg st)) (hm:mg x = some (.ref f)) (hb:Binds K fd ps [])
  (body:∀ (cdv:Value) (A:Around) (outer:List Env) (s:Shared) (H:Hp) (E:XK),ZaN k (A.deeper (envOfC qual (Zg st) s.heap.objs.size f cdv))->XSs (Zii CX0 P w K mg base N qual (Zg st) f cdv A outer s H E).nox (Zc1 st) g) :
  Callee P w K mg base (k + 1) x (HM.fnOf ps.length N.length g):=by
 refine ⟨f,fd,ps,fun ds d h=>?_,Zpb Fn S body,hm,Fn.kp,hb⟩
 unfold HM.fnOf at h
 split at h
 ·assumption
 ·cases h
end HP
namespace HP
open PySem PySem.Spec PyProof.Rows L2
section
variable {X:Cx} {a b c e:Expr} {fa fb fc:HM.EF} {pos p:Pos}
theorem Zg0 {h:Int->Int->Option PyData} {x y z:PyData} (e:HM.Zgs h x y = some z):∃ i j,x = .int i/\y = .int j/\h i j = some z:=by
 unfold HM.Zgs at e
 split at e
 ·exact ⟨_,_,rfl,rfl,e⟩
 ·cases e
theorem ZnT {K:PySem.W.Frag} {g:Int->Int->V} {h:Int->Int->PyData} (hr:∀ F i j,Rep K F (h i j) (g i j)):Bin K (rI0 g) (HM.Zgs fun i j=>some (h i j)):=by
 intro F H x y z v w Q s e r1 r2 k
 obtain ⟨i,j,rfl,rfl,e⟩:=Zg0 e
 cases e
 exact ⟨i,j,r1.int_inv,r2.int_inv,k _ (hr F i j)⟩
theorem ZbO:Znj X .Add HM.Zbc:=⟨_,Zu2,ZnT fun _ _ _=>.int _⟩
theorem Zsi:Znj X .Sub HM.Zld:=⟨_,Zug,ZnT fun _ _ _=>.int _⟩
theorem ZfS:Znj X .Mult HM.Zdu:=by
 refine ⟨_,Zuf,fun F H x y z v w Q s e r1 r2 k=>?_⟩
 obtain ⟨i,j,rfl,rfl,e'⟩:=Zg0 e
 split at e'
 ·rename_i hs
  cases e'
  refine ⟨i,j,r1.int_inv,r2.int_inv,?_,k _ (.int _)⟩
  unfold HM.Z7 at hs
  rw [Bool.or_eq_true,Nat.blt_eq,Nat.blt_eq] at hs
  unfold Zpy
  omega
 ·cases e'
theorem oMod:Znj X .Mod HM.Zr1:=by
 refine ⟨_,Zur,fun F H x y z v w Q s e r1 r2 k=>?_⟩
 obtain ⟨i,j,rfl,rfl,e'⟩:=Zg0 e
 split at e'
 ·rename_i hs
  cases e'
  exact ⟨i,j,r1.int_inv,r2.int_inv,hs,k _ (.int _)⟩
 ·cases e'
theorem cLt:ZeX X .Lt HM.gLt:=⟨⟨_,ZvC,ZnT fun _ _ _=>.bl _⟩,by decide,by decide⟩
theorem cLe:ZeX X .LtE HM.gLe:=⟨⟨_,Zvw,ZnT fun _ _ _=>.bl _⟩,by decide,by decide⟩
theorem cGt:ZeX X .Gt HM.gGt:=⟨⟨_,ZvF,ZnT fun _ _ _=>.bl _⟩,by decide,by decide⟩
theorem Rep.non_iff {K:PySem.W.Frag} {F:Hp} {d:PyData} {v:V} (h:Rep K F d v):decide (v = .non) = match d with | .none=>true | _=>false:=by
 cases h <;> first | rfl | exact decide_eq_false (fun z=>nomatch z)
theorem ZpC:ZeX X .Is HM.Zlv:=by
 refine ⟨⟨_,Zuj,fun F H x y z v w Q s e r1 r2 k=>?_⟩,by decide,by decide⟩
 unfold HM.Zlv at e
 split at e
 ·refine ⟨r2.none_inv,k _ ?_⟩
  rw [r1.non_iff]
  split at e
  ·cases e; exact .bl _
  ·rename_i hx
   cases e
   cases x <;> first | exact .bl _ | exact absurd rfl hx
 ·cases e
theorem ZpE:ZeX X .IsNot HM.ZjF:=by
 refine ⟨⟨_,Zto,fun F H x y z v w Q s e r1 r2 k=>?_⟩,by decide,by decide⟩
 unfold HM.ZjF at e
 split at e
 ·refine ⟨r2.none_inv,k _ ?_⟩
  rw [r1.non_iff]
  split at e
  ·cases e; exact .bl _
  ·rename_i hx
   cases e
   cases x <;> first | exact .bl _ | exact absurd rfl hx
 ·cases e
theorem ZhF {h:Heap}:∀ {ds:List PyData} {us:List Value},ds.length = us.length->(∀ (i:Nat) d u,ds[i]? = some d->us[i]? = some u->∃ as,Reads h u d as)->∃ as,ReadsAll h us ds as
  | [],[],_,_=>⟨[],.nil⟩
  | [],_ :: _,hl,_=>by simp at hl
  | _ :: _,[],hl,_=>by simp at hl
  | d :: ds, u :: us, hl, k => by
    obtain ⟨as,h1⟩:=k 0 d u rfl rfl
    obtain ⟨bs,h2⟩:=ZhF (ds:=ds) (us:=us) (by simpa using hl) fun i d u e1 e2=>k (i + 1) d u (by simpa using e1) (by simpa using e2)
    exact ⟨_,.cons h1 h2⟩
theorem Zpe:∀ {ds:List PyData},PyData.canLayAll0 ds = true->∀ {i:Nat} {d:PyData},ds[i]? = some d->d.canLay0 = true
  | [],_,i,d,e=>by simp at e
  | x :: ds, h, i, d, e => by
    have h':(x.canLay0 && PyData.canLayAll0 ds) = true:=h
    rw [Bool.and_eq_true] at h'
    cases i with
    | zero=>rw [List.getElem?_cons_zero] at e; cases e; exact h'.1
    | succ i=>rw [List.getElem?_cons_succ] at e; exact Zpe h'.2 e
theorem Zm0 {ds:List PyData} (h:PyData.canLayAll0 ds = true) {i:Nat} {d:PyData} (e:ds[i]? = some d):d.canLay0 = true:=Zpe h e
theorem Rep.reads {pins:List (Addr × Obj)} {s:Shared} {σ:L2.St} {H F:Hp} {d:PyData} {v:V} (I:Inv X pins σ H s) (sub:Zw F H) (r:Rep X.K F d v):d.canLay0 = true->∀ u,RelV v u->∃ as,Reads s.heap u d as:=by
  induction r with
  | non=>intro _ u ru; cases ru; exact ⟨[],.none⟩
  | bl b=>intro _ u ru; cases ru; exact ⟨[],.bool b⟩
  | int i=>intro _ u ru; obtain ⟨t,rfl⟩:=ru; exact ⟨[],.int i t⟩
  | str x=>intro _ u ru; obtain ⟨t,rfl⟩:=ru; exact ⟨[],.str x t⟩
  | dct _ _ _ _ _=>intro z; cases z
  | @tupk a x h =>
    intro z u ru
    cases ru
    obtain ⟨its,rv,⟨o,ho,hc,n,hd⟩,_⟩:=I.tuple (.inr h)
    obtain ⟨u,rfl,t,rfl⟩:=rv.one
    exact ⟨_,.tuple ho hc hd (by simpa using ReadsAll.cons (.str x t) .nil)⟩
  | @tup a ds vs h hl _ ih =>
    intro z u ru
    cases ru
    obtain ⟨its,rv,⟨o,ho,hc,n,hd⟩,_⟩:=I.tuple (.of (sub _ _ h))
    obtain ⟨as,hr⟩:=ZhF (h:=s.heap) (ds:=ds) (us:=its) (hl.trans rv.length) fun i d u e1 e2=>by
      have hi:i < vs.length:=by rw [<- hl]; exact (List.getElem?_eq_some_iff.mp e1).1
      obtain ⟨u',q1,q2⟩:=rv.get (List.getElem?_eq_getElem hi)
      rw [e2] at q1
      cases q1
      exact ih i d _ e1 (List.getElem?_eq_getElem hi) (Zm0 z e1) u q2
    exact ⟨_,.tuple ho hc hd (by simpa using hr)⟩
  | @lst a ds vs h hl _ ih =>
    intro z u ru
    cases ru
    obtain ⟨its,rv,⟨o,n,ho,hc,_,hd⟩,_⟩:=I.list (sub.seq h)
    obtain ⟨as,hr⟩:=ZhF (h:=s.heap) (ds:=ds) (us:=its) (hl.trans rv.length) fun i d u e1 e2=>by
      have hi:i < vs.length:=by rw [<- hl]; exact (List.getElem?_eq_some_iff.mp e1).1
      obtain ⟨u',q1,q2⟩:=rv.get (List.getElem?_eq_getElem hi)
      rw [e2] at q1
      cases q1
      exact ih i d _ e1 (List.getElem?_eq_getElem hi) (Zm0 z e1) u q2
    exact ⟨_,.list ho hc hd (by simpa using hr)⟩
def ZuU (K:PySem.W.Frag) (neg:Bool):R2:=fun v w H Q=>∃ F x y,Zw F H/\Rep K F x v/\Rep K F y w/\HM.Zaf x = true/\HM.Zaf y = true/\Q (.bl (if neg then !PyData.eqv x y else PyData.eqv x y)) H
theorem Zc4 {d:PyData} (h:HM.Zaf d = true):d.canLay0 = true/\d.depth <= 60:=by
 unfold HM.Zaf at h
 simpa using h
theorem ZvH {k:Nat} (hr:ZaN k X.A):OpR X (compareOp .Eq) (ZuU X.K false):=by
 intro pins s σ H v w u u' Q I r1 r2 ⟨F,x,y,sub,q1,q2,p1,p2,q⟩
 obtain ⟨a1,a2⟩:=Zc4 p1
 obtain ⟨b1,b2⟩:=Zc4 p2
 obtain ⟨as,h1⟩:=q1.reads I sub a1 u r1
 obtain ⟨bs,h2⟩:=q2.reads I sub b1 u' r2
 refine PySem.SeqAt.eqOverData X.prog X.w X.A X.xe s u u' x y as bs _ h1 h2 a1 b1 ?_ ⟨.bl _,H,I,rfl,q⟩
 have:=hr.un
 have:min x.depth y.depth <= 60:=Nat.le_trans (Nat.min_le_left _ _) a2
 omega
theorem ZvP {k:Nat} (hr:ZaN k X.A):OpR X (compareOp .NotEq) (ZuU X.K true):=by
 intro pins s σ H v w u u' Q I r1 r2 ⟨F,x,y,sub,q1,q2,p1,p2,q⟩
 obtain ⟨a1,a2⟩:=Zc4 p1
 obtain ⟨b1,b2⟩:=Zc4 p2
 obtain ⟨as,h1⟩:=q1.reads I sub a1 u r1
 obtain ⟨bs,h2⟩:=q2.reads I sub b1 u' r2
 refine PySem.SeqAt.neOverData X.prog X.w X.A X.xe s u u' x y as bs _ h1 h2 a1 b1 ?_ ⟨.bl _,H,I,rfl,q⟩
 have:=hr.un
 have:min x.depth y.depth <= 60:=Nat.le_trans (Nat.min_le_left _ _) a2
 omega
theorem cEq {k:Nat} (hr:ZaN k X.A):ZeX X .Eq HM.gEq:=by
 refine ⟨⟨_,ZvH hr,fun F H x y z v w Q s e r1 r2 k=>?_⟩,by decide,by decide⟩
 unfold HM.gEq at e
 split at e
 ·rename_i hp
  cases e
  rw [Bool.and_eq_true] at hp
  exact ⟨F,x,y,s,r1,r2,hp.1,hp.2,k _ (.bl _)⟩
 ·cases e
theorem cNe {k:Nat} (hr:ZaN k X.A):ZeX X .NotEq HM.gNe:=by
 refine ⟨⟨_,ZvP hr,fun F H x y z v w Q s e r1 r2 k=>?_⟩,by decide,by decide⟩
 unfold HM.gNe at e
 split at e
 ·rename_i hp
  cases e
  rw [Bool.and_eq_true] at hp
  exact ⟨F,x,y,s,r1,r2,hp.1,hp.2,k _ (.bl _)⟩
 ·cases e
theorem ZgZ {K:PySem.W.Frag} {F H:Hp} {q:HM.B} {v:V} {fp:List Addr} {ds:List PyData} (sub:Zw F H) (r:Zat K F H q v fp) (h:HM.Zbb q = some ds):∃ a vs,v = .ref a/\(SqL K H a vs\/SqT K H a vs)/\ZC K F ds vs:=by
  cases r with
  | pl r =>
    cases r with
    | tup h1 h2 h3=>cases h; exact ⟨_,_,rfl,.inr (.of (sub _ _ h1)),h2,h3⟩
    | @tupk a x h1=>cases h; exact ⟨_,_,rfl,.inr (.inr h1),.one (.str x)⟩
    | lst h1 h2 h3=>cases h; exact ⟨_,_,rfl,.inl (sub.seq h1),h2,h3⟩
    | dct _ _ _ _=>cases h
    | non=>cases h
    | bl _=>cases h
    | int _=>cases h
    | str _=>cases h
  | ol h1 r=>cases h; exact ⟨_,_,rfl,.inl (.of h1),r⟩
  | ok _ _ _=>cases h
  | hd _ _ _ _=>cases h
  | ot _ _ _=>cases h
  | otl _ _ _ _=>cases h
theorem ZtN {K:PySem.W.Frag} {F:Hp} {ds:List PyData} {vs:List V} {i:Int} {d:PyData} (r:ZC K F ds vs) (h:HM.atD ds i = some d):∃ v,atI vs i = some v/\Rep K F d v:=by
 unfold HM.atD at h
 split at h
 ·rename_i j hj
  obtain ⟨v,h1,h2⟩:=r.get h
  refine ⟨v,?_,h2⟩
  unfold atI
  rw [<- r.1,show ixN ds.length i = some j from hj]
  exact h1
 ·cases h
theorem ZJ {fb':HM.BF} (ha:XB X a fb') (hb:XE X b fb) (hs:Zpd b:=by intro _ _; rfl):XE X (.Subscript a b pos) (HM.eIx fb' fb):=by
 intro r d h
 unfold HM.eIx at h
 split at h
 ·rename_i x hx
  split at h
  ·rename_i ds hds
   split at h
   ·rename_i i hi
    refine PE.imp (ZvE Zuk (ha r x hx) (hb r _ hi) hs) fun σ H Q ⟨F0,H0,F,at_,k⟩=>?_
    refine ⟨F0,H0,F,at_,fun v F1 H1 x1 ⟨fp,r1⟩=>⟨F0,H0,F1,at_.grow x1,fun w F2 H2 x2 r2=>?_⟩⟩
    obtain ⟨l,vs,e1,hq,rs⟩:=ZgZ x2.sub (r1.mono x2.ff fun _ _ _ z=>x2.hh _ _ z) hds
    obtain ⟨u,hu,ru⟩:=ZtN rs h
    have fin:=k u F2 H2 (x1.trans x2) ru
    rcases hq with hq | hq
    ·exact .inl ⟨l,vs,i,u,e1,r2.int_inv,hq,hu,fin⟩
    ·exact .inr (.inl ⟨l,vs,i,u,e1,r2.int_inv,hq,hu,fin⟩)
   ·cases h
  ·cases h
 ·cases h
def PAB (X:Cx) (e:Expr) (r:HM.Env) (q:HM.B):Prop:=PA X [e] fun σ H Q=>Now X.K r σ H fun F0 H0 F=>∀ v fp F' H',Ext F H F' H'->Zat X.K F' H' q v fp->Q [v] H'
theorem Zg1 {f:HM.BF} {r:HM.Env} {q:HM.B} (ha:XB X e f) (h:f r = some q) (hs:starEach [e] X.env = [(false,eval e X.env)]:=by rfl):PAB X e r q:=by
 refine PA.imp (Zav (ha r q h) ZbU hs) fun σ H Q ⟨F0,H0,F,at_,k⟩=>?_
 exact ⟨F0,H0,F,at_,fun v F1 H1 x1 ⟨fp,r1⟩=>k v fp F1 H1 x1 r1⟩
end
end HP
namespace HP
open PySem PySem.Spec PyProof.Rows L2
theorem Zu6:bootBuiltins "all" = some (.builtin "all"):=by decide +kernel
theorem Zve:bootBuiltins "len" = some (.builtin "len"):=by decide +kernel
theorem ZqS:bootBuiltins "max" = some (.builtin "max"):=by decide +kernel
theorem Zvf:bootBuiltins "min" = some (.builtin "min"):=by decide +kernel
theorem ZlF:bootBuiltins "sorted" = some (.builtin "sorted"):=by decide +kernel
theorem Zmp:bootBuiltins "isinstance" = some (.builtin "isinstance"):=by decide +kernel
theorem Zm9:bootBuiltins "int" = some (.type "int"):=by decide +kernel
theorem Zt1:bootBuiltins "bool" = some (.type "bool"):=by decide +kernel
theorem ZtX:bootBuiltins "list" = some (.type "list"):=by decide +kernel
theorem Zkh:bootBuiltins "tuple" = some (.type "tuple"):=by decide +kernel
theorem ZuJ:bootBuiltins "set" = some (.type "set"):=by decide +kernel
section
variable {X:Cx} {a b c e:Expr} {fa fb fc:HM.EF} {pos p:Pos} {f:HM.BF}
theorem Zbt (hm:X.mg "len" = none) (ha:XB X a f) (hg:Gl X "len":=by rfl) (hs:starEach [a] X.env = [(false,eval a X.env)]:=by rfl):XE X (.Call (.Name "len" p) [a] [] pos) (HM.ZaB f):=by
  intro r d h
  unfold HM.ZaB at h
  split at h
  · rename_i x hx
    obtain ⟨n,h1,h2⟩:=Option.map_eq_some_iff.mp h
    subst h2
    refine PE.imp (Zd0 (Znq.or Zrp) hg hm Zve (Zg1 ha hx hs) (he:=hs)) fun σ H Q ⟨F0,H0,F,at_,k⟩=>?_
    refine ⟨F0,H0,F,at_,fun v fp F1 H1 x1 r1=>?_⟩
    have fin:=fun (m:Nat) (e:m = n)=>k (.int m) F1 H1 x1 (by rw [e]; exact .int _)
    cases r1 with
    | pl q =>
      cases q with
      | tup q1 q2 q3=>cases h1; exact .inl ⟨_,_,rfl,.inr (.of (x1.sub _ _ q1)),fin _ q2.symm⟩
      | tupk q1=>cases h1; exact .inl ⟨_,_,rfl,.inr (.inr q1),fin _ rfl⟩
      | lst q1 q2 q3=>cases h1; exact .inl ⟨_,_,rfl,.inl (x1.sub.seq q1),fin _ q2.symm⟩
      | dct _ _ _ _=>cases h1
      | non=>cases h1
      | bl _=>cases h1
      | int _=>cases h1
      | str _=>cases h1
    | ol q1 q2=>cases h1; exact .inl ⟨_,_,rfl,.inl (.of q1),fin _ q2.1.symm⟩
    | ok q1 q2 q3 =>
      cases h1
      refine .inr ⟨_,_,rfl,q1,fin _ ?_⟩
      have:=congrArg List.length q2
      rw [List.length_map,List.length_map] at this
      exact this.symm
    | ot _ _ _=>cases h1
    | otl _ _ _ _=>cases h1
    | hd _ _ _ _=>cases h1
  · cases h
theorem Zag (hm:X.mg "tuple" = none) (ha:XB X a f) (hg:Gl X "tuple":=by rfl) (hs:starEach [a] X.env = [(false,eval a X.env)]:=by rfl):XE X (.Call (.Name "tuple" p) [a] [] pos) (HM.Zam f):=by
  intro r d h
  unfold HM.Zam at h
  split at h
  · rename_i x hx
    obtain ⟨ds,h1,h2⟩:=Option.map_eq_some_iff.mp h
    subst h2
    refine PE.imp (ZdX Zms hg hm Zkh (Zg1 ha hx hs) (he:=hs)) fun σ H Q ⟨F0,H0,F,at_,k⟩=>?_
    refine ⟨F0,H0,F,at_,fun v fp F1 H1 x1 r1=>?_⟩
    have new:∀ (vs:List V),ZC X.K F1 ds vs->∀ l,H1 l = none->Q (.ref l) (upd H1 l (.tup vs)):=fun vs q l hl =>
      k _ (upd F1 l (.tup vs)) _ (x1.lay hl) (.tup ZP q.1 (q.mono (Zw.upd' (x1.sub.free hl))).2)
    cases r1 with
    | pl q =>
      cases q with
      | tup q1 q2 q3=>cases h1; exact ⟨_,_,rfl,.inr ⟨.of (x1.sub _ _ q1),k _ F1 H1 x1 (.tup q1 q2 q3)⟩⟩
      | tupk q1=>cases h1; exact ⟨_,_,rfl,.inr ⟨.inr q1,k _ F1 H1 x1 (.tupk q1)⟩⟩
      | lst q1 q2 q3=>cases h1; exact ⟨_,_,rfl,.inl ⟨x1.sub.seq q1,new _ ⟨q2,q3⟩⟩⟩
      | dct _ _ _ _=>cases h1
      | non=>cases h1
      | bl _=>cases h1
      | int _=>cases h1
      | str _=>cases h1
    | ol q1 q2=>cases h1; exact ⟨_,_,rfl,.inl ⟨.of q1,new _ q2⟩⟩
    | ok _ _ _=>cases h1
    | ot _ _ _=>cases h1
    | otl _ _ _ _=>cases h1
    | hd _ _ _ _=>cases h1
  · cases h
theorem ZfN {K:PySem.W.Frag} {F H F1 H1:Hp} {ds:List PyData} {vs:List V} {l:Addr} {P:V->Hp->Hp->Prop} (x1:Ext F H F1 H1) (q:ZC K F1 ds vs) (hl:H1 l = none)
  (k:∀ v F' H',Ext F H F' H'->(∃ fp,Zat K F' H' (.ol ds) v fp/\fp.Nodup/\∀ a ∈ fp,F' a = none/\H a = none)->P v F' H'):P (.ref l) F1 (upd H1 l (.lst vs)):=by
 refine k _ F1 _ (x1.lay' hl) ⟨[l],.ol ZP q,by simp,fun a ha=>?_⟩
 have:a = l:=by simpa using ha
 subst this
 exact ⟨x1.sub.free hl,x1.hh.free hl⟩
theorem Zlw (hm:X.mg "list" = none) (ha:XB X a f) (hg:Gl X "list":=by rfl) (hs:starEach [a] X.env = [(false,eval a X.env)]:=by rfl):XF X (.Call (.Name "list" p) [a] [] pos) (HM.Zjr f):=by
 intro r d h
 unfold HM.Zjr at h
 split at h
 ·rename_i x hx
  obtain ⟨ds,h1,h2⟩:=Option.map_eq_some_iff.mp h
  subst h2
  refine PE.imp (ZdX ZnC hg hm ZtX (Zg1 ha hx hs) (he:=hs)) fun σ H Q ⟨F0,H0,F,at_,k⟩=>?_
  refine ⟨F0,H0,F,at_,fun v fp F1 H1 x1 r1=>?_⟩
  obtain ⟨l,vs,e1,hq,rs⟩:=ZgZ x1.sub r1 h1
  subst e1
  exact ⟨l,vs,rfl,hq,fun l' hl'=>ZfN (P:=fun v _ H'=>Q v H') x1 rs hl' k⟩
 ·cases h
theorem ZkF {K:PySem.W.Frag} {F:Hp}:∀ {ds:List PyData} {vs:List V} {bs:List Bool},HM.ZeP ds = some bs->ZC K F ds vs->vs = bs.map V.bl
  | [], vs, bs, h, r => by
    cases h
    exact r.nil_inv
  | d :: ds, vs, bs, h, r => by
    obtain ⟨v,us,rfl,r1,r2⟩:=r.cons_inv
    cases d with
    | bool b =>
      obtain ⟨bs',h1,h2⟩:=Option.map_eq_some_iff.mp h
      subst h2
      rw [r1.bool_inv,ZkF h1 r2]
      rfl
    | none=>cases h
    | int _=>cases h
    | str _=>cases h
    | list _=>cases h
    | tuple _=>cases h
    | dict _=>cases h
end
end HP
namespace HP
open PySem PySem.Spec PyProof.Rows L2
section
variable {X:Cx} {a b c e:Expr} {fa fb fc:HM.EF} {pos p:Pos} {f:HM.BF}
theorem ZoO:∀ {bs:List Bool} {us:List Value},Vals (bs.map V.bl) us->LSm.BoolsAre us bs:=by
  intro bs
  induction bs with
  | nil=>intro us r; rw [List.map_nil] at r; cases r; exact .nil
  | cons b bs ih =>
    intro us r
    rw [List.map_cons] at r
    cases r with
    | cons r1 r2 =>
      cases r1
      exact .cons b (ih r2)
theorem Zvk {A:Around} {s:Shared} {l:Addr} {vs:List Value} {bs:List Bool} {dflt:Bool} (hh:A.handled = none) (hl:s.heap.IsList l vs.toArray) (hb:LSm.BoolsAre vs bs) {E:Value->Shared->Prop} {Q:Value->Shared->Prop} {prog:Program} {w:World}
  (h:∀ it fp wr (P:Nat->Value->Prop) St,Walks prog w A it fp wr vs.length P St->St 0 (s.heap.push { cls:=.type "list_iterator",data:=.fields #[.ref l,rawInt 0] })->TruthOf prog w A P (fun i=>(bs[i]?).getD dflt)->wr = [s.heap.objs.size]->it = s.heap.objs.size->Q (.ref it) { s with heap:=s.heap.push { cls:=.type "list_iterator",data:=.fields #[.ref l,rawInt 0] } }) :
  wpAny (model prog w) A (pyIter (.ref l)) Q E s:=by
 have hlt:l < s.heap.objs.size:=let ⟨_,e,_⟩:=hl; Heap.lt_size e
 refine wpAny_pyIter_list hl ?_
 have W:=Walks.list (prog:=prog) (w:=w) hh s.heap.objs.size l (Nat.ne_of_lt hlt) vs.toArray
 rw [List.size_toArray] at W
 refine h _ _ _ _ _ W ⟨⟨_,Heap.get?_push_size _ rfl,rfl,rfl⟩,hl.push _⟩ (fun i v s' Q' E' hP hQ=>?_) rfl rfl
 obtain ⟨b,e,rfl⟩:=hb.get i v (by simpa using hP)
 simp only [e,Option.getD_some] at hQ
 exact wpAny_truthy_bool hQ
theorem Zqp (hc:X.calm = true):Za7 X (.builtin "all") (fun xs H Q=>∃ (p:Addr) (bs:List Bool),xs = [.ref p]/\SqL X.K H p (bs.map V.bl)/\Q (.bl (bs.all id)) H):=by
 intro pins s σ H xs us Q I r h
 obtain ⟨p,bs,rfl,hq,q⟩:=h
 obtain ⟨u,rfl,rx⟩:=vals1 r
 cases rx
 obtain ⟨its,rv,pl,hz⟩:=I.list hq
 have hb:=ZoO rv
 refine call_all_walk (Zvk (dflt:=true) (A:=X.A.in1) (I.ok.hd hc) pl.isList hb fun it fp wr P St W st tr e1 e2=>?_)
 subst e1 e2
 refine ⟨_,_,_,_,P,St,_,rfl,W,st,tr,fun h' tk hk=>?_⟩
 rw [hb.length,LSm.range_all bs]
 exact ⟨.bl _,H,I.kept (LSm.kept_iter hk),rfl,q⟩
theorem Zin {K:PySem.W.Frag} {F H:Hp} {q:HM.B} {v:V} {fp:List Addr} {ds:List PyData} (sub:Zw F H) (r:Zat K F H q v fp) (h:HM.ZmW q = some ds):∃ a vs,v = .ref a/\SqL K H a vs/\ZC K F ds vs:=by
  cases r with
  | pl r =>
    cases r with
    | lst h1 h2 h3=>cases h; exact ⟨_,_,rfl,sub.seq h1,h2,h3⟩
    | dct _ _ _ _=>cases h
    | tupk _=>cases h
    | tup _ _ _=>cases h
    | non=>cases h
    | bl _=>cases h
    | int _=>cases h
    | str _=>cases h
  | ol h1 r=>cases h; exact ⟨_,_,rfl,.of h1,r⟩
  | ok _ _ _=>cases h
  | hd _ _ _ _=>cases h
  | ot _ _ _=>cases h
  | otl _ _ _ _=>cases h
theorem Zf0 (hm:X.mg "all" = none) (hc:X.calm = true) (ha:XB X a f) (hg:Gl X "all":=by rfl) (hs:starEach [a] X.env = [(false,eval a X.env)]:=by rfl):XE X (.Call (.Name "all" p) [a] [] pos) (HM.ZfB f):=by
 intro r d h
 unfold HM.ZfB at h
 split at h
 ·rename_i x hx
  split at h
  ·rename_i ds hds
   obtain ⟨bs,h1,h2⟩:=Option.map_eq_some_iff.mp h
   subst h2
   refine PE.imp (Zd0 (Zqp hc) hg hm Zu6 (Zg1 ha hx hs) (he:=hs)) fun σ H Q ⟨F0,H0,F,at_,k⟩=>?_
   refine ⟨F0,H0,F,at_,fun v fp F1 H1 x1 r1=>?_⟩
   obtain ⟨l,vs,e1,hq,rs⟩:=Zin x1.sub r1 hds
   rw [ZkF h1 rs] at hq
   exact ⟨l,bs,by rw [e1],hq,k _ F1 H1 x1 (.bl _)⟩
  ·cases h
 ·cases h
theorem Zm6 {tyn:String} {t:HM.Ty} (hr:∀ (s:Shared) (d:PyData) (v:V) (u:Value) (Q:Value->Shared->Prop),RelV v u->(∃ (K:PySem.W.Frag) (F:Hp),Rep K F d v)->(∀ x,v = .ref x->∃ o,s.heap.get? x = some o/\((∃ ds,d = .tuple ds/\o.cls = .type "tuple")\/(∃ ds,d = .list ds/\o.cls = .type "list")\/∃ ds,d = .dict ds/\o.cls = .type "dict")) ->
      (∀ tk,Q (.bool (HM.Zja t d)) { s with toks:=tk })->wpAny (model X.prog X.w) X.A (call (.builtin "isinstance") [u,.type tyn]) Q X.xe s) :
    Za7 X (.builtin "isinstance") (fun xs H Q=>∃ F d v,xs = [v,.ty tyn]/\Zw F H/\Rep X.K F d v/\Q (.bl (HM.Zja t d)) H):=by
  intro pins s σ H xs us Q I r h
  obtain ⟨F,d,v,rfl,sub,rp,q⟩:=h
  obtain ⟨u,u',rfl,ru,ru'⟩:=vals2 r
  cases (show u' = Value.type tyn from ru')
  refine hr s d v u _ ru ⟨_,_,rp⟩ (fun x e=>?_) fun tk=>⟨.bl _,H,I.tok tk,rfl,q⟩
  subst e
  cases rp with
  | tup h1 h2 h3 =>
    obtain ⟨its,rv,⟨o,ho,hc,n,hd⟩,_⟩:=I.tuple (.of (sub _ _ h1))
    exact ⟨o,ho,.inl ⟨_,rfl,hc⟩⟩
  | tupk h1 =>
    obtain ⟨its,rv,⟨o,ho,hc,n,hd⟩,_⟩:=I.tuple (.inr h1)
    exact ⟨o,ho,.inl ⟨_,rfl,hc⟩⟩
  | lst h1 h2 h3 =>
    obtain ⟨its,rv,⟨o,n,ho,hc,_,hd⟩,_⟩:=I.list (sub.seq h1)
    exact ⟨o,ho,.inr (.inl ⟨_,rfl,hc⟩)⟩
  | @dct a es kvs vvs h1 _ _ _ =>
    obtain ⟨_,_,xs,_,o,es,ep,q1,q2,_⟩:=(show Zap X.prog X.w H s.heap x (.dT vvs) from ZkE I.hok (ZfM h1 sub))
    exact ⟨o,q1,.inr (.inr ⟨_,rfl,q2.1⟩)⟩
theorem Zsf:Za7 X (.builtin "isinstance") (fun xs H Q=>∃ F d v,xs = [v,.ty "bool"]/\Zw F H/\Rep X.K F d v/\Q (.bl (HM.Zja .bool d)) H):=by
  refine Zm6 fun s d v u Q ru ⟨K,F,rp⟩ ho k=>?_
  cases rp with
  | non=>cases ru; exact IsiPair.NoneType_bool (k _)
  | bl _=>cases ru; exact IsiPair.bool_bool (k _)
  | int _=>obtain ⟨t,rfl⟩:=ru; exact IsiPair.int_bool (k _)
  | str _=>obtain ⟨t,rfl⟩:=ru; exact IsiPair.str_bool (k _)
  | tup _ _ _ | tupk _ =>
    cases ru
    obtain ⟨o,h1,⟨_,_,h2⟩ | ⟨_,e,_⟩ | ⟨_,e,_⟩⟩:=ho _ rfl
    · exact IsiPair.tuple_bool h1 h2 (k _)
    · cases e
    · cases e
  | lst _ _ _ =>
    cases ru
    obtain ⟨o,h1,⟨_,e,_⟩ | ⟨_,_,h2⟩ | ⟨_,e,_⟩⟩:=ho _ rfl
    · cases e
    · exact IsiPair.list_bool h1 h2 (k _)
    · cases e
  | dct _ _ _ _ =>
    cases ru
    obtain ⟨o,h1,⟨_,e,_⟩ | ⟨_,e,_⟩ | ⟨_,_,h2⟩⟩:=ho _ rfl
    · cases e
    · cases e
    · exact IsiPair.dict_bool h1 h2 (k _)
theorem ZtD:Za7 X (.builtin "isinstance") (fun xs H Q=>∃ F d v,xs = [v,.ty "int"]/\Zw F H/\Rep X.K F d v/\Q (.bl (HM.Zja .int d)) H):=by
  refine Zm6 fun s d v u Q ru ⟨K,F,rp⟩ ho k=>?_
  cases rp with
  | non=>cases ru; exact IsiPair.NoneType_int (k _)
  | bl _=>cases ru; exact IsiPair.bool_int (k _)
  | int _=>obtain ⟨t,rfl⟩:=ru; exact IsiPair.int_int (k _)
  | str _=>obtain ⟨t,rfl⟩:=ru; exact IsiPair.str_int (k _)
  | tup _ _ _ | tupk _ =>
    cases ru
    obtain ⟨o,h1,⟨_,_,h2⟩ | ⟨_,e,_⟩ | ⟨_,e,_⟩⟩:=ho _ rfl
    · exact IsiPair.tuple_int h1 h2 (k _)
    · cases e
    · cases e
  | lst _ _ _ =>
    cases ru
    obtain ⟨o,h1,⟨_,e,_⟩ | ⟨_,_,h2⟩ | ⟨_,e,_⟩⟩:=ho _ rfl
    · cases e
    · exact IsiPair.list_int h1 h2 (k _)
    · cases e
  | dct _ _ _ _ =>
    cases ru
    obtain ⟨o,h1,⟨_,e,_⟩ | ⟨_,e,_⟩ | ⟨_,_,h2⟩⟩:=ho _ rfl
    · cases e
    · cases e
    · exact IsiPair.dict_int h1 h2 (k _)
theorem Zrg:Za7 X (.builtin "isinstance") (fun xs H Q=>∃ F d v,xs = [v,.ty "tuple"]/\Zw F H/\Rep X.K F d v/\Q (.bl (HM.Zja .tuple d)) H):=by
  refine Zm6 fun s d v u Q ru ⟨K,F,rp⟩ ho k=>?_
  cases rp with
  | non=>cases ru; exact IsiPair.NoneType_tuple (k _)
  | bl _=>cases ru; exact IsiPair.bool_tuple (k _)
  | int _=>obtain ⟨t,rfl⟩:=ru; exact IsiPair.int_tuple (k _)
  | str _=>obtain ⟨t,rfl⟩:=ru; exact IsiPair.str_tuple (k _)
  | tup _ _ _ | tupk _ =>
    cases ru
    obtain ⟨o,h1,⟨_,_,h2⟩ | ⟨_,e,_⟩ | ⟨_,e,_⟩⟩:=ho _ rfl
    · exact IsiPair.tuple_tuple h1 h2 (k _)
    · cases e
    · cases e
  | lst _ _ _ =>
    cases ru
    obtain ⟨o,h1,⟨_,e,_⟩ | ⟨_,_,h2⟩ | ⟨_,e,_⟩⟩:=ho _ rfl
    · cases e
    · exact IsiPair.list_tuple h1 h2 (k _)
    · cases e
  | dct _ _ _ _ =>
    cases ru
    obtain ⟨o,h1,⟨_,e,_⟩ | ⟨_,e,_⟩ | ⟨_,_,h2⟩⟩:=ho _ rfl
    · cases e
    · cases e
    · exact IsiPair.dict_tuple h1 h2 (k _)
theorem ZmA {tyn:Str} {tys:String} {t:HM.Ty} {p2:Pos} (hR:Za7 X (.builtin "isinstance") (fun xs H Q=>∃ F d v,xs = [v,.ty tys]/\Zw F H/\Rep X.K F d v/\Q (.bl (HM.Zja t d)) H)) (bt:bootBuiltins tyn = some (.type tys))
  (hm:X.mg "isinstance" = none) (hm2:X.mg tyn = none) (ha:XE X a fa) (hg:Gl X "isinstance") (hg2:Gl X tyn) (hn:tyn ≠ "__name__") (hd:(tyn == ("__debug__":Str)) = false)
  (hs1:starEach [a,.Name tyn p2] X.env = (false,eval a X.env) :: starEach [.Name tyn p2] X.env) (hs2:starEach [.Name tyn p2] X.env = [(false,eval (.Name tyn p2) X.env)]):XE X (.Call (.Name "isinstance" p) [a,.Name tyn p2] [] pos) (HM.Zeo fa t):=by
 intro r d h
 obtain ⟨x,h1,h2⟩:=Option.map_eq_some_iff.mp h
 subst h2
 refine PE.imp (Zd0 hR hg hm Zmp (Zav (ha r x h1) (Zav (ZtR (v:=.ty tys) hg2 hm2 bt rfl hn hd) ZbU (by rw [hs2]; rfl)) hs1) (he:=hs1) (hpl:=by rw [hs2]; rfl)) fun σ H Q ⟨F0,H0,F,at_,k⟩=>?_
 exact ⟨F0,H0,F,at_,fun v F1 H1 x1 r1=>⟨F1,x,v,rfl,x1.sub,r1,k _ F1 H1 x1 (.bl _)⟩⟩
theorem ZjN {p2:Pos} (hm:X.mg "isinstance" = none) (hm2:X.mg "bool" = none) (ha:XE X a fa) (hg:Gl X "isinstance":=by rfl) (hg2:Gl X "bool":=by rfl) (hs1:starEach [a,.Name "bool" p2] X.env = (false,eval a X.env) :: starEach [.Name "bool" p2] X.env:=by rfl) :
  XE X (.Call (.Name "isinstance" p) [a,.Name "bool" p2] [] pos) (HM.Zeo fa .bool):=ZmA Zsf Zt1 hm hm2 ha hg hg2 (by decide) (by decide) hs1 rfl
theorem Zkv {p2:Pos} (hm:X.mg "isinstance" = none) (hm2:X.mg "int" = none) (ha:XE X a fa) (hg:Gl X "isinstance":=by rfl) (hg2:Gl X "int":=by rfl) (hs1:starEach [a,.Name "int" p2] X.env = (false,eval a X.env) :: starEach [.Name "int" p2] X.env:=by rfl) :
  XE X (.Call (.Name "isinstance" p) [a,.Name "int" p2] [] pos) (HM.Zeo fa .int):=ZmA ZtD Zm9 hm hm2 ha hg hg2 (by decide) (by decide) hs1 rfl
theorem Zdv {p2:Pos} (hm:X.mg "isinstance" = none) (hm2:X.mg "tuple" = none) (ha:XE X a fa) (hg:Gl X "isinstance":=by rfl) (hg2:Gl X "tuple":=by rfl) (hs1:starEach [a,.Name "tuple" p2] X.env = (false,eval a X.env) :: starEach [.Name "tuple" p2] X.env:=by rfl) :
  XE X (.Call (.Name "isinstance" p) [a,.Name "tuple" p2] [] pos) (HM.Zeo fa .tuple):=ZmA Zrg Zkh hm hm2 ha hg hg2 (by decide) (by decide) hs1 rfl
theorem Zqb (hm:X.mg "max" = none) (hc:X.calm = true) (ha:XE X a fa) (hb:XE X b fb) (hg:Gl X "max":=by rfl) (hs1:starEach [a,b] X.env = (false,eval a X.env) :: starEach [b] X.env:=by rfl) (hs2:starEach [b] X.env = [(false,eval b X.env)]:=by rfl) :
  XE X (.Call (.Name "max" p) [a,b] [] pos) (HM.op2 HM.Zp6 fa fb):=by
 intro r d h
 obtain ⟨x,y,h1,h2,h3⟩:=ZgI h
 obtain ⟨i,j,rfl,rfl,e⟩:=Zg0 h3
 cases e
 refine PE.imp (Zd0 (Zqr hc) hg hm ZqS (Zav (ha r _ h1) (Zav (hb r _ h2) ZbU hs2) hs1) (he:=hs1) (hpl:=by rw [hs2]; rfl)) fun σ H Q ⟨F0,H0,F,at_,k⟩=>?_
 exact ⟨F0,H0,F,at_,fun v F1 H1 x1 r1=>⟨F0,H0,F1,at_.grow x1,fun w F2 H2 x2 r2=>⟨i,j,by rw [r1.int_inv,r2.int_inv],k _ F2 H2 (x1.trans x2) (.int _)⟩⟩⟩
theorem Zt3 (hm:X.mg "min" = none) (hc:X.calm = true) (ha:XE X a fa) (hb:XE X b fb) (hg:Gl X "min":=by rfl) (hs1:starEach [a,b] X.env = (false,eval a X.env) :: starEach [b] X.env:=by rfl) (hs2:starEach [b] X.env = [(false,eval b X.env)]:=by rfl) :
  XE X (.Call (.Name "min" p) [a,b] [] pos) (HM.op2 HM.Zvc fa fb):=by
 intro r d h
 obtain ⟨x,y,h1,h2,h3⟩:=ZgI h
 obtain ⟨i,j,rfl,rfl,e⟩:=Zg0 h3
 cases e
 refine PE.imp (Zd0 (ZqO hc) hg hm Zvf (Zav (ha r _ h1) (Zav (hb r _ h2) ZbU hs2) hs1) (he:=hs1) (hpl:=by rw [hs2]; rfl)) fun σ H Q ⟨F0,H0,F,at_,k⟩=>?_
 exact ⟨F0,H0,F,at_,fun v F1 H1 x1 r1=>⟨F0,H0,F1,at_.grow x1,fun w F2 H2 x2 r2=>⟨i,j,by rw [r1.int_inv,r2.int_inv],k _ F2 H2 (x1.trans x2) (.int _)⟩⟩⟩
theorem ZrB (hm:X.mg "int" = none) (ha:XE X a fa) (hg:Gl X "int":=by rfl) (hs:starEach [a] X.env = [(false,eval a X.env)]:=by rfl):XE X (.Call (.Name "int" p) [a] [] pos) (HM.Zoa fa):=by
 intro r d h
 unfold HM.Zoa at h
 split at h
 ·rename_i i hi
  cases h
  refine PE.imp (ZdX ZlO hg hm Zm9 (Zav (ha r _ hi) ZbU hs) (he:=hs)) fun σ H Q ⟨F0,H0,F,at_,k⟩=>?_
  exact ⟨F0,H0,F,at_,fun v F1 H1 x1 r1=>.inl ⟨i,by rw [r1.int_inv],k _ F1 H1 x1 (.int _)⟩⟩
 ·rename_i q hq
  cases h
  refine PE.imp (ZdX ZlO hg hm Zm9 (Zav (ha r _ hq) ZbU hs) (he:=hs)) fun σ H Q ⟨F0,H0,F,at_,k⟩=>?_
  exact ⟨F0,H0,F,at_,fun v F1 H1 x1 r1=>.inr ⟨q,by rw [r1.bool_inv],k _ F1 H1 x1 (.int _)⟩⟩
 ·cases h
end
end HP
namespace HP
open PySem PySem.Spec PyProof.Rows L2
section
variable {X:Cx} {a b c e:Expr} {fa fb fc:HM.EF} {pos p:Pos} {f:HM.BF} {tg:Expr}
theorem PI.imp {X:Cx} {tg e:Expr} {t u:TI} (h:PI X tg e t) (hi:∀ σ H R,u σ H R->t σ H R):PI X tg e u:=fun pins s σ H R I q=>h pins s σ H R I (hi σ H R q)
theorem Zub {l:Expr} {tl:TE} (hl:PE X l tl):PI X tg l (fun σ H R=>tl σ H fun x H1=>∃ a,x = .ref a/\((∃ xs,SqL X.K H1 a xs)/\R (Itl X.K a) H1\/(∃ xs,SqT X.K H1 a xs)/\R (Itt X.K a) H1)):=by
 intro pins s σ H R I h
 refine thn (hl pins s σ H _ I h) fun v s1 ⟨x,H1,I1,r1,q1⟩=>?_
 obtain ⟨a,e,q1⟩:=q1
 subst e
 cases r1
 rcases q1 with ⟨⟨xs,hq⟩,q⟩ | ⟨⟨xs,hq⟩,q⟩
 ·obtain ⟨its,rv,p,hz⟩:=I1.list hq
  refine wpAny_pyIter_list p.isList ⟨s1.heap.objs.size,[s1.heap.objs.size],_,_,H1,rfl,I1.kept (t':=s1.toks) fun b o e=>Heap.get?_push_of_some _ e,Zqo a _,⟨_,Heap.get?_push_size _ rfl,rfl,rfl⟩,fun b hb=>?_,q⟩
  obtain rfl:b = s1.heap.objs.size:=by simpa using hb
  exact I1.fpOk (Nat.le_refl _) (I1.hok.fresh (Nat.le_refl _))
 ·obtain ⟨its,rv,p,hz⟩:=I1.tuple hq
  refine wpAny_pyIter_tuple (show s1.heap.IsTuple a its.toArray from p) ⟨s1.heap.objs.size,[s1.heap.objs.size],_,_,H1,rfl,I1.kept (t':=s1.toks) fun b o e=>Heap.get?_push_of_some _ e,Zpx a _,⟨_,Heap.get?_push_size _ rfl,rfl,rfl⟩,fun b hb=>?_,q⟩
  obtain rfl:b = s1.heap.objs.size:=by simpa using hb
  exact I1.fpOk (Nat.le_refl _) (I1.hok.fresh (Nat.le_refl _))
theorem Zsm {K:PySem.W.Frag} {F:Hp} {a:Addr} {ds:List PyData} {vs:List V} (h:SqL K F a vs) (r:ZC K F ds vs):ItD K (Itl K a) ds F:=by
 intro F' H s1 s2
 have hq:SqL K H a vs:=(s1.trans s2).seq h
 refine ⟨fun i d hd=>?_,⟨vs,hq,by rw [r.1]; exact Nat.le_refl _⟩⟩
 obtain ⟨v,h1,h2⟩:=r.get hd
 refine ⟨⟨vs,v,hq,h1⟩,fun x H' hy=>?_⟩
 obtain ⟨e,y⟩:=hy
 refine ⟨e,?_⟩
 have:=y vs hq
 rw [h1] at this
 cases this
 exact h2.mono (s1.trans (Zec s2))
theorem ZsJ {K:PySem.W.Frag} {F:Hp} {a:Addr} {ds:List PyData} {vs:List V} (h:SqT K F a vs) (r:ZC K F ds vs):ItD K (Itt K a) ds F:=by
 intro F' H s1 s2
 have hq:SqT K H a vs:=Zr3 h (s1.trans s2)
 refine ⟨fun i d hd=>?_,⟨vs,hq,by rw [r.1]; exact Nat.le_refl _⟩⟩
 obtain ⟨v,h1,h2⟩:=r.get hd
 refine ⟨⟨vs,v,hq,h1⟩,fun x H' hy=>?_⟩
 obtain ⟨e,y⟩:=hy
 refine ⟨e,?_⟩
 have:=y vs hq
 rw [h1] at this
 cases this
 exact h2.mono (s1.trans (Zec s2))
theorem ZtY {K:PySem.W.Frag} {F:Hp} {a:Addr} {ds:List PyData} {vs:List V} (h:F a = some (.tup vs)) (r:ZC K F ds vs):ItD K (Itt K a) ds F:=by
 intro F' H s1 s2
 have hq:SqT K H a vs:=.of (s2 _ _ (s1 _ _ h))
 refine ⟨fun i d hd=>?_,⟨vs,hq,by rw [r.1]; exact Nat.le_refl _⟩⟩
 obtain ⟨v,h1,h2⟩:=r.get hd
 refine ⟨⟨vs,v,hq,h1⟩,fun x H' hy=>?_⟩
 obtain ⟨e,y⟩:=hy
 refine ⟨e,?_⟩
 have:=y vs hq
 rw [h1] at this
 cases this
 exact h2.mono (s1.trans (Zec s2))
theorem ZR (h:XE X e fa):XI X tg e (HM.Z1 (HM.bOf fa)):=by
  intro r ds hd
  unfold HM.Z1 HM.bOf at hd
  cases hx:fa r with
  | none=>rw [hx] at hd; cases hd
  | some d =>
    rw [hx] at hd
    have hd:HM.Zbb (.pl d) = some ds:=hd
    refine PI.imp (Zub (h r d hx)) fun σ H R ⟨F0,H0,F,at_,k⟩=>?_
    refine ⟨F0,H0,F,at_,fun v F1 H1 x1 r1=>?_⟩
    cases r1 with
    | @tupk a x h1 =>
      cases hd
      exact ⟨a,rfl,.inr ⟨⟨_,.inr h1⟩,k _ F1 H1 x1 (ZsJ (.inr h1) (.one (.str x)))⟩⟩
    | @tup a ds' vs h1 h2 h3 =>
      cases hd
      exact ⟨a,rfl,.inr ⟨⟨vs,.of (x1.sub _ _ h1)⟩,k _ F1 H1 x1 (ZtY h1 ⟨h2,h3⟩)⟩⟩
    | @lst a ds' vs h1 h2 h3 =>
      cases hd
      exact ⟨a,rfl,.inl ⟨⟨vs,x1.sub.seq h1⟩,k _ F1 H1 x1 (Zsm h1 ⟨h2,h3⟩)⟩⟩
    | dct _ _ _ _=>cases hd
    | non=>cases hd
    | bl _=>cases hd
    | int _=>cases hd
    | str _=>cases hd
theorem Zo1 {K:PySem.W.Frag} {F:Hp} (lo:Int) (n:Nat):ItD K (Itr lo n) (HM.ZbT lo n) F:=by
 intro F' H s1 s2
 have hl:(HM.ZbT lo n).length = n:=by unfold HM.ZbT; rw [List.length_map,List.length_range]
 refine ⟨fun i d hd=>?_,?_⟩
 ·have hi:i < n:=by rw [<- hl]; exact (List.getElem?_eq_some_iff.mp hd).1
  unfold HM.ZbT at hd
  rw [List.getElem?_map,List.getElem?_range hi] at hd
  cases hd
  exact ⟨hi,fun x H' ⟨e1,e2⟩=>⟨e1,by rw [e2]; exact .int _⟩⟩
 ·rw [hl]; exact Nat.le_refl _
theorem Zjv {j:Int} (h:HM.okR j = true):-1000000 < j/\j < 1000000:=by
 unfold HM.okR at h
 rw [Nat.blt_eq] at h
 omega
theorem ZbC (hm:X.mg "range" = none) (ha:XE X a fa) (hg:Gl X "range":=by rfl) (hs:starEach [a] X.env = [(false,eval a X.env)]:=by rfl):XI X tg (.Call (.Name "range" p) [a] [] pos) (HM.ZbV fa):=by
 intro r ds hd
 unfold HM.ZbV at hd
 split at hd
 ·rename_i j hj
  split at hd
  ·rename_i hok
   cases hd
   obtain ⟨k1,k2⟩:=Zjv hok
   refine PI.imp (Zqq hg hm (Zav (ha r _ hj) ZbU hs) hs) fun σ H R ⟨F0,H0,F,at_,k⟩=>?_
   exact ⟨F0,H0,F,at_,fun v F1 H1 x1 r1=>⟨j,by rw [r1.int_inv],by omega,by omega,k _ F1 H1 x1 (Zo1 0 j.toNat)⟩⟩
  ·cases hd
 ·cases hd
theorem Zqc (hm:X.mg "range" = none) (ha:XE X a fa) (hb:XE X b fb) (hg:Gl X "range":=by rfl) (hs:starEach [a,b] X.env = [(false,eval a X.env),(false,eval b X.env)]:=by rfl) (hs2:starEach [b] X.env = [(false,eval b X.env)]:=by rfl) :
  XI X tg (.Call (.Name "range" p) [a,b] [] pos) (HM.Zjy fa fb):=by
 intro r ds hd
 unfold HM.Zjy at hd
 split at hd
 ·rename_i i hi
  split at hd
  ·rename_i j hj
   split at hd
   ·rename_i hok
    cases hd
    rw [Bool.and_eq_true] at hok
    obtain ⟨k1,k2⟩:=Zjv hok.1
    obtain ⟨k3,k4⟩:=Zjv hok.2
    refine PI.imp (ZqQ hg hm (Zav (ha r _ hi) (Zav (hb r _ hj) ZbU hs2) (by rw [hs,hs2])) hs hs2) fun σ H R ⟨F0,H0,F,at_,k⟩=>?_
    exact ⟨F0,H0,F,at_,fun v F1 H1 x1 r1=>⟨F0,H0,F1,at_.grow x1,fun w F2 H2 x2 r2=>⟨i,j,by rw [r1.int_inv,r2.int_inv],⟨by omega,by omega,by omega,by omega⟩,k _ F2 H2 (x1.trans x2) (Zo1 i (j - i).toNat)⟩⟩⟩
   ·cases hd
  ·cases hd
 ·cases hd
theorem Zkw {ga gb:HM.BF} (ha:XB X a ga) (hb:XB X b gb):XF X (.BinOp a .Add b pos) (HM.Zlp ga gb):=by
  intro r d h
  unfold HM.Zlp at h
  split at h
  · rename_i xs hx
    split at h
    · rename_i ys hy
      split at h
      · rename_i hz
        cases h
        refine PE.imp (ZpT ZuI (ha r _ hx) (hb r _ hy)) fun σ H Q ⟨F0,H0,F,at_,k⟩=>?_
        refine ⟨F0,H0,F,at_,fun v F1 H1 x1 ⟨fp,r1⟩=>⟨F0,H0,F1,at_.grow x1,fun w F2 H2 x2 ⟨fq,r2⟩=>?_⟩⟩
        cases r1 with
        | ol h1 q1 =>
          cases r2 with
          | ol h2 q2 =>
            have q1':=q1.mono x2.ff
            refine ⟨_,_,_,_,rfl,rfl,x2.hh _ _ h1,h2,?_,fun l hl=>ZfN (P:=fun v _ H'=>Q v H') (x1.trans x2) (q1'.append q2) hl k⟩
            have e1:=q1.1
            have e2:=q2.1
            have e3:(1000000:Nat) <= sizeLine:=by decide
            unfold HM.big at hz
            omega
      · cases h
    · cases h
  · cases h
theorem Zt4 {ga:HM.BF} (ha:XB X a ga) (hb:XE X b fb):XF X (.BinOp a .Mult b pos) (HM.ZsD ga fb):=by
  intro r d h
  unfold HM.ZsD at h
  split at h
  · rename_i xs hx
    split at h
    · rename_i i hy
      split at h
      · rename_i hz
        cases h
        rw [Bool.and_eq_true,decide_eq_true_eq,decide_eq_true_eq] at hz
        refine PE.imp (ZpT ZuB (ha r _ hx) (hb r _ hy)) fun σ H Q ⟨F0,H0,F,at_,k⟩=>?_
        refine ⟨F0,H0,F,at_,fun v F1 H1 x1 ⟨fp,r1⟩=>⟨F0,H0,F1,at_.grow x1,fun w F2 H2 x2 r2=>?_⟩⟩
        cases r1 with
        | ol h1 q1 =>
          have q1':=q1.mono x2.ff
          refine ⟨_,i,_,rfl,r2.int_inv,x2.hh _ _ h1,by omega,by omega,?_,fun l hl=>ZfN (P:=fun v _ H'=>Q v H') (x1.trans x2) (q1'.rep i.toNat) hl k⟩
          have e1:=q1.1
          have e3:(1000 * 1000:Nat) <= sizeLine:=by decide
          refine Nat.le_trans (Nat.mul_le_mul (?_:_ <= 1000) (?_:_ <= 1000)) e3 <;> omega
      · cases h
    · cases h
  · cases h
def XO (X:Cx) (e:Option Expr) (f:Option HM.EF):Prop:=∀ r o,HM.Zp5 f r = some o->PO X e fun σ H Q=>Now X.K r σ H fun F0 H0 F=>∀ F' H',Ext F H F' H'->Q o H'
theorem ZtZ:XO X none none:=by
 intro r o h
 cases h
 intro pins s σ H Q I q
 obtain ⟨F0,H0,F,at_,k⟩:=q
 exact Ztt pins s σ H Q I (k F H at_.refl)
theorem Ztp (h:XE X e fa):XO X (some e) (some fa):=by
 intro r o ho
 unfold HM.Zp5 at ho
 split at ho
 ·rename_i z; cases z
 ·rename_i g z
  cases z
  split at ho
  ·rename_i i hi
   cases ho
   intro pins s σ H Q I q
   obtain ⟨F0,H0,F,at_,k⟩:=q
   exact Ztg (h r _ hi) pins s σ H Q I ⟨F0,H0,F,at_,fun v F1 H1 x1 r1=>⟨i,r1.int_inv,k F1 H1 x1⟩⟩
  ·cases ho
theorem Zt5 {ga:HM.BF} {lo hi:Option Expr} {fl fh:Option HM.EF} {p2:Pos} (ha:XB X a ga) (hl:XO X lo fl) (hh:XO X hi fh):XF X (.Subscript a (.Slice lo hi none p2) pos) (HM.ZsQ ga fl fh):=by
 intro r d h
 unfold HM.ZsQ at h
 split at h
 ·rename_i x hx
  split at h
  ·rename_i xs hxs
   split at h
   ·rename_i l hl'
    split at h
    ·rename_i u hu'
     cases h
     refine PE.imp (Zsd Ztw (ha r _ hx) (hl r _ hl') (hh r _ hu')) fun σ H Q ⟨F0,H0,F,at_,k⟩=>?_
     refine ⟨F0,H0,F,at_,fun v F1 H1 x1 ⟨fp,r1⟩=>⟨F0,H0,F1,at_.grow x1,fun F2 H2 x2=>⟨F0,H0,F2,(at_.grow x1).grow x2,fun F3 H3 x3=>?_⟩⟩⟩
     have x23:=x2.trans x3
     obtain ⟨l',vs,e1,hq,rs⟩:=Zin x3.sub (r1.mono x23.ff fun _ _ _ z=>x23.hh _ _ z) hxs
     refine ⟨l',vs,e1,hq,fun l2 hl2=>ZfN (P:=fun v _ H'=>Q v H') (x1.trans x23) ?_ hl2 k⟩
     unfold HM.cutD Zn7
     rw [<- rs.1]
     exact (rs.drop _).take _
    ·cases h
   ·cases h
  ·cases h
 ·cases h
theorem Zby.val {K:PySem.W.Frag} {F0 H0 F H:Hp} {r:HM.Env} {σ:L2.St} {fp:Nat->List Addr} {i:Nat} {ds:List PyData} (e:Zby K F0 H0 F H r σ fp) (h:r[i]? = some (some (.ol ds))) :
  ∃ l vs,σ[i]? = some (some (.ref l))/\H l = some (.lst vs)/\ZC K F ds vs/\fp i = [l]:=by
 obtain ⟨v,h1,h2⟩:=e.at_ i _ h
 generalize hf:fp i = q at h2
 cases h2 with
 | ol k1 k2=>exact ⟨_,_,h1,k1,k2,rfl⟩
theorem At.chgList {K:PySem.W.Frag} {F0 H0 F H:Hp} {r:HM.Env} {σ:L2.St} {i:Nat} {ds es:List PyData} (e:At K F0 H0 F H r σ) (h:r[i]? = some (some (.ol ds))) :
  ∃ l vs,σ[i]? = some (some (.ref l))/\H l = some (.lst vs)/\ZC K F ds vs/\∀ us,ZC K F es us->At K F0 H0 F (upd H l (.lst us)) (r.set i (some (.ol es))) σ:=by
 obtain ⟨fp,e⟩:=e
 obtain ⟨l,vs,h1,h2,h3,h4⟩:=e.val h
 refine ⟨l,vs,h1,h2,h3,fun us q=>e.change (fp':=[l]) h1 (.ol ZP q) (by simp) (fun a ha=>.inl (by rw [h4]; exact ha)) fun a o z hn=>?_⟩
 rw [ZG (fun z=>hn (by rw [h4,z]; simp))]
 exact z
theorem Ze1 (i:Nat) {x:Str} {p1 p2 p3:Pos} (ha:XE X a fa) (hN:X.N[i]? = some x:=by rfl) (hv:Vis X.env.scope x:=by first | exact Or.inl rfl | exact Or.inr (Or.inl rfl) | exact Or.inr (Or.inr rfl)) (hd:(x == ("__debug__":Str)) = false:=by decide) (hcd:(x == ("__classdict__":Str)) = false:=by decide)
  (hbase:attributeBase (.Name x p1) "append" X.env (eval (.Name x p1) X.env) = eval (.Name x p1) X.env:=by rfl)
  (hfew:((backTo p3 (starEach [a] X.env)).all (fun x=>!x.1) && (backToKw p3 (keywordEach [] X.env)).all (fun x=>x.1.isSome) && decide (([a]:List Expr).length + ([]:List Keyword).length + (if ([]:List Keyword).isEmpty then 0 else 1) < 30)) = true:=by rfl)
  (hline:(p2.endLine == p3.line) = true:=by rfl) (hs:starEach [a] X.env = [(false,eval a X.env)]:=by rfl):XS X (.Expr (.Call (.Attribute (.Name x p1) "append" p2) [a] [] p3) pos) (HM.Ze8 i fa):=by
 intro r o h
 unfold HM.Ze8 at h
 split at h
 ·rename_i ds hds
  split at h
  ·rename_i d hd'
   split at h
   ·rename_i hz
    cases h
    refine PS.imp (ZhO (Zmw PySem.F.plainAttrs_list PySem.F.slot_list_append PySem.F.type_list_append Zhs (Zcu hN hv hd hcd) (Zav (ha r d hd') ZbU hs) hbase hfew hline hs rfl)) fun E σ H ⟨F0,H0,F,at_,k⟩=>?_
    obtain ⟨l,vs,e1,e2,e3,_⟩:=at_.chgList (es:=ds) hds
    refine ⟨.ref l,e1,.inl ⟨rfl,_,SqL.of e2⟩,F0,H0,F,at_,fun v F1 H1 x1 r1=>?_⟩
    have at1:=at_.grow x1
    obtain ⟨l',vs',f1,f2,f3,f4⟩:=at1.chgList (es:=ds ++ [d]) hds
    rw [e1] at f1
    cases f1
    refine ⟨_,vs',v,rfl,rfl,f2,?_,k _ F1 _ (f4 _ (f3.append (.one r1)))⟩
    have e4:=f3.1
    have e5:(1000000:Nat) <= sizeLine:=by decide
    unfold HM.big at hz
    omega
   ·cases h
  ·cases h
 ·cases h
theorem Zs9 (i:Nat) {x:Str} {p1 p2:Pos} (hk:XE X b fb) (ha:XE X a fa) (hN:X.N[i]? = some x:=by rfl) (hv:Vis X.env.scope x:=by first | exact Or.inl rfl | exact Or.inr (Or.inl rfl) | exact Or.inr (Or.inr rfl)) (hd:(x == ("__debug__":Str)) = false:=by decide) (hcd:(x == ("__classdict__":Str)) = false:=by decide)
  (hsub:∀ v,assign (.Subscript (.Name x p1) b p2) X.env v = (do
   let ov <- holding [v] (eval (.Name x p1) X.env)
   let iv <- holding [v,ov] (eval b X.env)
   standAt p2
   holding [v,ov,iv] (setItem ov iv v)
   release [v,ov,iv] []):=by intro _; rfl)
  (hs:swapsWithSole [.Subscript (.Name x p1) b p2] a pos.line X.env = pure false:=by rfl) (hw:swappedStores [.Subscript (.Name x p1) b p2] a X.env = pure none:=by rfl)
  (h1:(assignEach [.Subscript (.Name x p1) b p2] X.env).map (·.2) = [assign (.Subscript (.Name x p1) b p2) X.env]:=by rfl):XS X (.Assign [.Subscript (.Name x p1) b p2] a pos) (HM.Zp9 i fb fa):=by
 intro r o h
 unfold HM.Zp9 at h
 split at h
 ·rename_i d hd'
  split at h
  ·rename_i ds hds
   split at h
   ·rename_i n hn
    split at h
    ·rename_i j hj
     cases h
     refine PS.imp (ZuS (ha r d hd') (Zuh (Zcu hN hv hd hcd) (hk r _ hn) set_list hsub) hs hw h1) fun E σ H ⟨F0,H0,F,at_,k⟩=>?_
     refine ⟨F0,H0,F,at_,fun v F1 H1 x1 r1=>?_⟩
     have at1:=at_.grow x1
     obtain ⟨l,vs,e1,e2,e3,_⟩:=at1.chgList (es:=ds) hds
     refine ⟨.ref l,e1,F0,H0,F1,at1,fun w F2 H2 x2 r2=>?_⟩
     obtain ⟨l',vs',f1,f2,f3,f4⟩:=(at1.grow x2).chgList (es:=ds.set j d) hds
     rw [e1] at f1
     cases f1
     refine ⟨_,vs',n,j,rfl,r2.int_inv,f2,?_,k _ F2 _ (f4 _ (f3.set (r1.mono x2.ff) j))⟩
     rw [<- f3.1]
     exact hj
    ·cases h
   ·cases h
  ·cases h
 ·cases h
end
end HP
namespace HP
open PySem PySem.Spec PyProof.Rows L2
section
variable {K:PySem.W.Frag} {F:Hp} {κ:Type} [DecidableEq κ]
def ZaG (K:PySem.W.Frag) (F:Hp) (kvs:List (κ × PyData)) (vvs:List (κ × V)):Prop:=kvs.map (·.1) = vvs.map (·.1)/\ZC K F (kvs.map (·.2)) (vvs.map (·.2))
theorem ZaG.nil:ZaG K F ([]:List (κ × PyData)) []:=⟨rfl,.nil⟩
theorem ZaG.cons {k:κ} {d:PyData} {v:V} {kvs:List (κ × PyData)} {vvs:List (κ × V)} (r:Rep K F d v) (q:ZaG K F kvs vvs):ZaG K F ((k,d) :: kvs) ((k,v) :: vvs) :=
 ⟨by rw [List.map_cons,List.map_cons,q.1],by rw [List.map_cons,List.map_cons]; exact .cons r q.2⟩
theorem ZaG.inv {kvs:List (κ × PyData)} {vvs:List (κ × V)} (q:ZaG K F kvs vvs):(kvs = []/\vvs = [])\/∃ k d v kvs' vvs',kvs = (k,d) :: kvs'/\vvs = (k,v) :: vvs'/\Rep K F d v/\ZaG K F kvs' vvs':=by
  cases kvs with
  | nil =>
    cases vvs with
    | nil=>exact .inl ⟨rfl,rfl⟩
    | cons p r=>exact absurd q.1 (by simp)
  | cons p kvs' =>
    cases vvs with
    | nil=>exact absurd q.1 (by simp)
    | cons p' vvs' =>
      obtain ⟨k,d⟩:=p
      obtain ⟨k',v⟩:=p'
      obtain ⟨q1,q2⟩:=q
      rw [List.map_cons,List.map_cons] at q1 q2
      injection q1 with e1 e2
      have e1:k = k':=e1
      subst e1
      obtain ⟨v',us,e3,r1,r2⟩:=q2.cons_inv
      injection e3 with e3 e4
      refine .inr ⟨k,d,v,kvs',vvs',rfl,rfl,?_,e2,?_⟩
      · rw [show v = v' from e3]; exact r1
      · rw [e4]; exact r2
theorem ZaG.len {kvs:List (κ × PyData)} {vvs:List (κ × V)} (q:ZaG K F kvs vvs):kvs.length = vvs.length:=by
 have:=congrArg List.length q.1
 rwa [List.length_map,List.length_map] at this
theorem ZaG.any {kvs:List (κ × PyData)} {vvs:List (κ × V)} (k:κ) (q:ZaG K F kvs vvs):(kvs.any fun p=>decide (p.1 = k)) = vvs.any fun p=>decide (p.1 = k):=by
 have e:∀ {β:Type} (l:List (κ × β)),(l.any fun p=>decide (p.1 = k)) = (l.map (·.1)).any fun x=>decide (x = k):=fun l=>by rw [List.any_map]; rfl
 rw [e,e,q.1]
theorem ZaG.repl {d:PyData} {v:V} (k:κ) (r:Rep K F d v):∀ {kvs:List (κ × PyData)} {vvs:List (κ × V)},ZaG K F kvs vvs->ZaG K F (kvs.map fun p=>if p.1 = k then (p.1,d) else p) (vvs.map fun p=>if p.1 = k then (p.1,v) else p)
  | [], vvs, q => by
    rcases q.inv with ⟨_,e⟩ | ⟨_,_,_,_,_,e,_⟩
    · subst e; exact .nil
    · cases e
  | p :: kvs, vvs, q => by
    rcases q.inv with ⟨e,_⟩ | ⟨k',d',v',kvs',vvs',e1,e2,r1,r2⟩
    · cases e
    · cases e1
      subst e2
      have ih:=ZaG.repl k r r2
      rw [List.map_cons,List.map_cons]
      by_cases h:k' = k
      · rw [if_pos h,if_pos h]; exact .cons r ih
      · rw [if_neg h,if_neg h]; exact .cons r1 ih
theorem ZaG.snoc {kvs:List (κ × PyData)} {vvs:List (κ × V)} {k:κ} {d:PyData} {v:V} (q:ZaG K F kvs vvs) (r:Rep K F d v):ZaG K F (kvs ++ [(k,d)]) (vvs ++ [(k,v)]) :=
 ⟨by rw [List.map_append,List.map_append,q.1]; rfl,by rw [List.map_append,List.map_append]; exact q.2.append (.one r)⟩
theorem ZaG.put {kvs:List (κ × PyData)} {vvs:List (κ × V)} {d:PyData} {v:V} (q:ZaG K F kvs vvs) (k:κ) (r:Rep K F d v):ZaG K F (HM.putD kvs k d) (putK vvs k v):=by
 unfold HM.putD putK
 rw [q.any k]
 by_cases h:(vvs.any fun p=>decide (p.1 = k)) = true
 ·rw [if_pos h,if_pos h]; exact q.repl k r
 ·rw [if_neg h,if_neg h]; exact q.snoc r
theorem ZaG.look {k:κ}:∀ {kvs:List (κ × PyData)} {vvs:List (κ × V)},ZaG K F kvs vvs->(∀ d,HM.Ze kvs k = some d->∃ v,ZaL vvs k = some v/\Rep K F d v)/\(HM.Ze kvs k = none->ZaL vvs k = none)
  | [], vvs, q => by
    rcases q.inv with ⟨_,e⟩ | ⟨_,_,_,_,_,e,_⟩
    · subst e; exact ⟨fun d h=>(by cases h),fun _=>rfl⟩
    · cases e
  | p :: kvs, vvs, q => by
    rcases q.inv with ⟨e,_⟩ | ⟨k',d',v',kvs',vvs',e1,e2,r1,r2⟩
    · cases e
    · cases e1
      subst e2
      obtain ⟨i1,i2⟩:=ZaG.look (k:=k) r2
      by_cases h:k' = k
      · have e3 : HM.Ze ((k', d') :: kvs) k = some d' := by simp [HM.Ze, List.find?_cons, h]
        rw [e3,ZeW (p:=(k',v')) h]
        exact ⟨fun d hd=>(by cases hd; exact ⟨v',rfl,r1⟩),fun hd=>by cases hd⟩
      · have e3 : HM.Ze ((k', d') :: kvs) k = HM.Ze kvs k := by simp [HM.Ze, List.find?_cons, h]
        rw [e3,ZeY (p:=(k',v')) h]
        exact ⟨i1,i2⟩
theorem ZaG.some_iff {k:κ} {kvs:List (κ × PyData)} {vvs:List (κ × V)} (q:ZaG K F kvs vvs):(ZaL vvs k).isSome = (HM.Ze kvs k).isSome:=by
 obtain ⟨i1,i2⟩:=q.look (k:=k)
 cases h:HM.Ze kvs k with
 | none=>rw [i2 h]; rfl
 | some d=>obtain ⟨v,h1,_⟩:=i1 d h; rw [h1]; rfl
end
section
variable {K:PySem.W.Frag} {F:Hp}
theorem Zg7 {d:PyData} {k:Key} {v:V} (h:HM.Zio d = some k) (r:Rep K F d v):v = kV k:=by
 cases r <;> first | (cases h; rfl) | cases h
theorem ZlI:∀ {ds:List PyData} {ks:List Key} {vs:List V},HM.Zhm ds = some ks->ZC K F ds vs->vs = ks.map kV
  | [],ks,vs,h,r=>by cases h; exact r.nil_inv
  | d :: ds, ks, vs, h, r => by
    obtain ⟨v,us,rfl,r1,r2⟩:=r.cons_inv
    unfold HM.Zhm at h
    split at h
    · rename_i k hk
      obtain ⟨ks',h1,h2⟩:=Option.map_eq_some_iff.mp h
      subst h2
      rw [Zg7 hk r1,ZlI h1 r2]
      rfl
    · cases h
theorem Zo7:∀ {ds:List PyData} {ks:List Key},HM.Zle ds = some ks->HM.Zhm ds = some ks
  | [],ks,h=>h
  | d :: ds, ks, h => by
    unfold HM.Zle at h
    split at h
    · cases ‹_ = []›
    · rename_i i r e
      injection e with e1 e2
      subst e1 e2
      obtain ⟨ks',h1,h2⟩:=Option.map_eq_some_iff.mp h
      subst h2
      show (match HM.Zio (.int i) with | some k=>(HM.Zhm ds).map (k :: ·) | none=>none) = _
      rw [Zo7 h1]
      rfl
    · cases h
theorem ZbN {d:PyData} {ks:List Key} {v:V} (h:HM.ZaV d = some ks) (r:Rep K F d v):∃ b,v = .ref b/\F b = some (.tup (ks.map kV)):=by
  cases r with
  | tup h1 h2 h3 =>
    refine ⟨_,rfl,?_⟩
    rw [<- ZlI (Zo7 h) ⟨h2,h3⟩]
    exact h1
  | tupk _=>cases h
  | lst _ _ _=>cases h
  | dct _ _ _ _=>cases h
  | non=>cases h
  | bl _=>cases h
  | int _=>cases h
  | str _=>cases h
end
section
variable {X:Cx} {a b c e:Expr} {fa fb fc:HM.EF} {pos p:Pos} {f:HM.BF}
theorem fresh_one {K:PySem.W.Frag} {F H F1 H1:Hp} {o:HO} {q:HM.B} {l:Addr} {P:V->Hp->Hp->Prop} (x1:Ext F H F1 H1) (hl:H1 l = none) (hq:Zat K F1 (upd H1 l o) q (.ref l) [l])
  (k:∀ v F' H',Ext F H F' H'->(∃ fp,Zat K F' H' q v fp/\fp.Nodup/\∀ a ∈ fp,F' a = none/\H a = none)->P v F' H'):P (.ref l) F1 (upd H1 l o):=by
 refine k _ F1 _ (x1.lay' hl) ⟨[l],hq,by simp,fun a ha=>?_⟩
 obtain rfl:a = l:=by simpa using ha
 exact ⟨x1.sub.free hl,x1.hh.free hl⟩
theorem Zvs:XF X (.Dict [] [] pos) HM.fDk:=by
 intro r d h
 cases h
 exact PE.imp Zso fun σ H Q ⟨F0,H0,F,at_,k⟩ l hl=>fresh_one (P:=fun v _ H'=>Q v H') at_.refl hl (.ok ZP rfl .nil) k
theorem Zmt:XF X (.Dict [] [] pos) HM.fDt:=by
 intro r d h
 cases h
 exact PE.imp ZmZ fun σ H Q ⟨F0,H0,F,at_,k⟩ l hl=>fresh_one (P:=fun v _ H'=>Q v H') at_.refl hl (.ot ZP rfl .nil) k
theorem Zqd:XF X (.Dict [] [] pos) HM.ZrO:=by
 intro r d h
 cases h
 exact PE.imp ZmZ fun σ H Q ⟨F0,H0,F,at_,k⟩ l hl=>fresh_one (P:=fun v _ H'=>Q v H') at_.refl hl (.otl ZP rfl rfl fun i ds l' h=>by simp at h) k
theorem ZrC (ha:XE X a fa) (hb:XE X b fb):XF X (.Dict [some a] [b] pos) (HM.ZnP fa fb):=by
  intro r d h
  unfold HM.ZnP at h
  split at h
  · rename_i x hx
    split at h
    · rename_i y hy
      split at h
      · rename_i k hk
        cases h
        refine PE.imp (ZtC (ZrS (ha r x hx) (hb r y hy) ZtS) rfl rfl (by simp) (by simp)) fun σ H Q ⟨F0,H0,F,at_,kk⟩ l hl=>?_
        have hFl:F l = none:=at_.sub.free hl
        have x0:Ext F H F (upd H l (.dK [])):=at_.refl.lay' hl
        refine ⟨F0,H0,F,at_.grow x0,fun v F1 H1 x1 r1=>⟨F0,H0,F1,(at_.grow x0).grow x1,fun w F2 H2 x2 r2=>?_⟩⟩
        have x12:=x1.trans x2
        have hl2:H2 l = some (.dK []):=x12.hh l _ ZP
        have hF2:F2 l = none:=by
          cases q:F2 l with
          | none=>rfl
          | some o =>
            rcases x12.new l o q with z | z
            · rw [hFl] at z; cases z
            · exact (z.no ZP fun _ q=>by cases q).elim
        refine ⟨hl2,[(k,w)],?_,by simp,?_⟩
        · rw [Zg7 hk r1]
          rfl
        have xe:Ext F H F2 (upd H2 l (.dK (ZhR [] [(k,w)]))):=by
          refine ⟨x12.ff,fun c o z=>?_,fun c o z=>?_,fun c o z=>?_⟩
          · have hc : c ≠ l := ZaT z hl
            rw [ZG hc]
            exact x12.hh c o (by rw [ZG hc]; exact z)
          · rw [ZG (fun e => by rw [e, hF2] at z; cases z)]
            exact x12.sub c o z
          · rcases x12.new c o z with q | q
            · exact .inl q
            · exact .inr (q.back (Zw.upd' hl))
        refine kk _ F2 _ xe ⟨[l],.ok ZP rfl (.one r2),by simp,fun c hc=>?_⟩
        obtain rfl:c = l:=by simpa using hc
        exact ⟨hF2,hl⟩
      · cases h
    · cases h
  · cases h
end
end HP
namespace HP
open PySem PySem.Spec PyProof.Rows L2
theorem At.chgOne {K:PySem.W.Frag} {F0 H0 F H:Hp} {r:HM.Env} {σ:L2.St} {i:Nat} {q:HM.B} {l:Addr} (e:At K F0 H0 F H r σ) (h:r[i]? = some (some q)) (hv:σ[i]? = some (some (.ref l))) (hone:∀ v fp,Zat K F H q v fp->∃ a,v = .ref a/\fp = [a]) :
  ∀ o q',Zat K F (upd H l o) q' (.ref l) [l]->At K F0 H0 F (upd H l o) (r.set i (some q')) σ:=by
 intro o q' hq
 obtain ⟨fp,e⟩:=e
 obtain ⟨v,h1,h2⟩:=e.at_ i _ h
 obtain ⟨a,e1,e2⟩:=hone v _ h2
 subst e1
 rw [hv] at h1
 cases h1
 refine e.change (fp':=[l]) hv hq (by simp) (fun c hc=>.inl (by rw [e2]; exact hc)) fun c o' z hn=>?_
 rw [ZG (fun z=>hn (by rw [e2,z]; simp))]
 exact z
section
variable {X:Cx} {a b c e:Expr} {fa fb fc:HM.EF} {pos p:Pos} {f:HM.BF}
theorem ZfP {n:Nat} (h:n < HM.big):n < sizeLine:=by
 have e5:(1000000:Nat) <= sizeLine:=by decide
 unfold HM.big at h
 omega
theorem Zf1 (hu:X.A.units + 1 < cLine) (i:Nat) {x:Str} {p1 p2:Pos} (hk:XE X b fb) (ha:XE X a fa) (hN:X.N[i]? = some x:=by rfl) (hv:Vis X.env.scope x:=by first | exact Or.inl rfl | exact Or.inr (Or.inl rfl) | exact Or.inr (Or.inr rfl)) (hd:(x == ("__debug__":Str)) = false:=by decide) (hcd:(x == ("__classdict__":Str)) = false:=by decide)
    (hs:swapsWith a (some (.Subscript (.Name x p1) b p2)) pos.line X.env = pure false:=by rfl):XS X (.Assign [.Subscript (.Name x p1) b p2] a pos) (HM.ZhE i fb fa):=by
  intro r o h
  unfold HM.ZhE at h
  split at h
  · rename_i d hd'
    split at h
    · rename_i y hy
      split at h
      · rename_i kvs hb
        split at h
        · rename_i k hk'
          split at h
          · rename_i hz
            cases h
            refine PS.imp (Zlu hu (Zcu hN hv hd hcd) (hk r y hy) (ha r d hd') hs) fun E σ H ⟨F0,H0,F,at_,kk⟩=>?_
            refine ⟨F0,H0,F,at_,fun v F1 H1 x1 r1=>?_⟩
            have at1:=at_.grow x1
            obtain ⟨u,fp,e1,e2⟩:=at1.any hb
            refine ⟨u,e1,F0,H0,F1,at1,fun w F2 H2 x2 r2=>?_⟩
            have at2:=at1.grow x2
            cases e2 with
            | @ok l _ vvs e2 e3 e4 =>
              have T:ZaG X.K F2 kvs vvs:=⟨e3,e4.mono x2.ff⟩
              have T':=T.put k (r1.mono x2.ff)
              rw [Zg7 hk' r2]
              have hH:H2 l = some (.dK vvs):=x2.hh _ _ e2
              refine ⟨l,_,rfl,Zig.k hH (by rw [<- T.len]; exact ZfP hz),kk _ F2 _ (at2.chgOne hb e1 (fun v fp q=>by cases q; exact ⟨_,rfl,rfl⟩) _ _ (.ok ZP T'.1 T'.2))⟩
          · cases h
        · cases h
      · rename_i kvs hb
        split at h
        · rename_i k hk'
          split at h
          · rename_i hz
            cases h
            refine PS.imp (Zlu hu (Zcu hN hv hd hcd) (hk r y hy) (ha r d hd') hs) fun E σ H ⟨F0,H0,F,at_,kk⟩=>?_
            refine ⟨F0,H0,F,at_,fun v F1 H1 x1 r1=>?_⟩
            have at1:=at_.grow x1
            obtain ⟨u,fp,e1,e2⟩:=at1.any hb
            refine ⟨u,e1,F0,H0,F1,at1,fun w F2 H2 x2 r2=>?_⟩
            have at2:=at1.grow x2
            cases e2 with
            | @ot l _ vvs e2 e3 e4 =>
              have T:ZaG X.K F2 kvs vvs:=⟨e3,e4.mono x2.ff⟩
              have T':=T.put k (r1.mono x2.ff)
              obtain ⟨bb,rfl,hbb⟩:=ZbN hk' r2
              have hH:H2 l = some (.dT vvs):=x2.hh _ _ e2
              refine ⟨l,_,rfl,Zig.t hH (x2.sub _ _ hbb) (by rw [<- T.len]; exact ZfP hz),kk _ F2 _ (at2.chgOne hb e1 (fun v fp q=>by cases q; exact ⟨_,rfl,rfl⟩) _ _ (.ot ZP T'.1 T'.2))⟩
          · cases h
        · cases h
      · cases h
    · cases h
  · cases h
theorem Zkt {K:PySem.W.Frag} {F H:Hp} (k:List Key):∀ (kvs:List (List Key × List PyData)) (vvs:List (List Key × V)) (ls:List Addr),kvs.map (·.1) = vvs.map (·.1)->vvs.map (·.2) = ls.map V.ref ->
    (∀ (i:Nat) (ds:List PyData) (l:Addr),(kvs.map (·.2))[i]? = some ds->ls[i]? = some l->∃ vs,H l = some (.lst vs)/\ZC K F ds vs) ->
    (∀ ds,HM.Ze kvs k = some ds->∃ l' vs,ZaL vvs k = some (.ref l')/\l' ∈ ls/\H l' = some (.lst vs)/\ZC K F ds vs)/\(HM.Ze kvs k = none->ZaL vvs k = none)
  | [],[],_,_,_,_=>⟨(fun ds h=>by cases h),fun _=>rfl⟩
  | [],_ :: _,_,hk,_,_=>by simp at hk
  | _ :: _,[],_,hk,_,_=>by simp at hk
  | _ :: _,_ :: _,[],_,hv,_=>by simp at hv
  | (k1, ds1) :: kvs, (k2, v2) :: vvs, l1 :: ls, hk, hv, r => by
    rw [List.map_cons,List.map_cons] at hk hv
    injection hk with e1 e2
    injection hv with e3 e4
    have e1:k1 = k2:=e1
    have e3:v2 = .ref l1:=e3
    subst e1 e3
    obtain ⟨i1,i2⟩:=Zkt k kvs vvs ls e2 e4 fun i ds l h1 h2=>r (i + 1) ds l (by simpa using h1) (by simpa using h2)
    by_cases hkk:k1 = k
    · have e5 : HM.Ze ((k1, ds1) :: kvs) k = some ds1 := by simp [HM.Ze, List.find?_cons, hkk]
      rw [e5,ZeW (p:=(k1,V.ref l1)) hkk]
      obtain ⟨vs,q1,q2⟩:=r 0 ds1 l1 rfl rfl
      exact ⟨(fun ds h=>by cases h; exact ⟨l1,vs,rfl,by simp,q1,q2⟩),(fun h=>by cases h)⟩
    · have e5 : HM.Ze ((k1, ds1) :: kvs) k = HM.Ze kvs k := by simp [HM.Ze, List.find?_cons, hkk]
      rw [e5,ZeY (p:=(k1,V.ref l1)) hkk]
      exact ⟨fun ds h=>let ⟨l',vs,a1,a2,a3⟩:=i1 ds h; ⟨l',vs,a1,List.mem_cons_of_mem _ a2,a3⟩,i2⟩
theorem Zn2 {K:PySem.W.Frag} {F H:Hp} {kvs:List (List Key × List PyData)} {v:V} {fp:List Addr} (q:Zat K F H (.otl kvs) v fp) :
  ∃ l vvs ls,v = .ref l/\fp = l :: ls/\H l = some (.dT vvs)/\kvs.map (·.1) = vvs.map (·.1)/\vvs.map (·.2) = ls.map V.ref /\
   ∀ k,(∀ ds,HM.Ze kvs k = some ds->∃ l' vs,ZaL vvs k = some (.ref l')/\l' ∈ ls/\H l' = some (.lst vs)/\ZC K F ds vs)/\(HM.Ze kvs k = none->ZaL vvs k = none):=by
 cases q with
 | @otl l _ vvs ls h hk hv r=>exact ⟨l,vvs,ls,rfl,rfl,h,hk,hv,fun k=>Zkt k kvs vvs ls hk hv r⟩
theorem ZrT {K:PySem.W.Frag} {F H:Hp} {q:HM.B} {v w:V} {fp:List Addr} {x:PyData} {c:Bool} (sub:Zw F H) (rq:Zat K F H q v fp) (rx:Rep K F x w) (h:HM.hasB q x = some c):∃ l o,v = .ref l/\Zcd H l w o/\o.isSome = c:=by
  cases rq with
  | pl _=>cases h
  | hd _ _ _ _=>cases h
  | ol _ _=>cases h
  | @ok l kvs vvs h1 h2 h3 =>
    obtain ⟨k,e1,e2⟩:=Option.map_eq_some_iff.mp h
    rw [Zg7 e1 rx]
    exact ⟨l,_,rfl,Zcd.k h1,by rw [ZaG.some_iff (K:=K) (F:=F) ⟨h2,h3⟩,<- e2]⟩
  | @ot l kvs vvs h1 h2 h3 =>
    obtain ⟨k,e1,e2⟩:=Option.map_eq_some_iff.mp h
    obtain ⟨bb,rfl,hbb⟩:=ZbN e1 rx
    exact ⟨l,_,rfl,Zcd.t h1 (sub _ _ hbb),by rw [ZaG.some_iff (K:=K) (F:=F) ⟨h2,h3⟩,<- e2]⟩
  | @otl l kvs vvs ls h1 h2 h3 h4 =>
    obtain ⟨k,e1,e2⟩:=Option.map_eq_some_iff.mp h
    obtain ⟨bb,rfl,hbb⟩:=ZbN e1 rx
    refine ⟨l,_,rfl,Zcd.t h1 (sub _ _ hbb),?_⟩
    obtain ⟨l2,vvs2,ls2,e3,e4,e5,_,_,hl⟩:=Zn2 (Zat.otl h1 h2 h3 h4)
    cases e3
    rw [h1] at e5
    cases e5
    obtain ⟨i1,i2⟩:=hl k
    rw [<- e2]
    cases hq:HM.Ze kvs k with
    | none=>rw [i2 hq]; rfl
    | some ds=>obtain ⟨_,_,h5,_⟩:=i1 ds hq; rw [h5]; rfl
theorem ZpF {r:HM.Env} {d:PyData} (h:HM.ZkW fa f r = some d):∃ x q c,fa r = some x/\f r = some q/\HM.hasB q x = some c/\d = .bool (!c):=by
 unfold HM.ZkW at h
 split at h
 ·split at h
  ·obtain ⟨c,h1,h2⟩:=Option.map_eq_some_iff.mp h
   exact ⟨_,_,c,by assumption,by assumption,h1,h2.symm⟩
  ·cases h
 ·cases h
theorem ZrD (hu:X.A.units + 1 < cLine) (ha:XE X a fa) (hb:XB X b f) (hm:behindInMarks .NotIn b = false:=by rfl):XT X (.Compare a [.NotIn] [b] pos) (HM.tV (HM.ZkW fa f)):=by
 intro r d h
 obtain ⟨x,q,c,h1,h2,h3,e⟩:=ZpF (Zgb h)
 cases e
 refine PT.imp (ZqM (ZlC hu (ha r x h1) (hb r q h2)) hm) fun σ H Q ⟨F0,H0,F,at_,k⟩=>?_
 refine ⟨F0,H0,F,at_,fun v F1 H1 x1 r1=>⟨F0,H0,F1,at_.grow x1,fun w F2 H2 x2 ⟨fp,r2⟩=>?_⟩⟩
 obtain ⟨l,o,e1,e2,e3⟩:=ZrT x2.sub r2 (r1.mono x2.ff) h3
 exact ⟨l,o,e1,e2,_,rfl,by rw [e3]; exact k F2 H2 (x1.trans x2)⟩
theorem Zr5 {i:Nat} {r:HM.Env} {q:HM.B} (h:HM.ZnY i fa r = some q):∃ x bb,fa r = some x/\r[i]? = some (some bb) /\
  ((∃ kvs k d,bb = .ok kvs/\HM.Zio x = some k/\HM.Ze kvs k = some d/\q = .pl d)\/(∃ kvs k d,bb = .ot kvs/\HM.ZaV x = some k/\HM.Ze kvs k = some d/\q = .pl d)\/∃ kvs k ds,bb = .otl kvs/\HM.ZaV x = some k/\HM.Ze kvs k = some ds/\q = .ol ds):=by
 unfold HM.ZnY at h
 split at h
 ·rename_i x hx
  split at h
  ·rename_i kvs hb
   split at h
   ·rename_i k hk
    obtain ⟨d,h1,h2⟩:=Option.map_eq_some_iff.mp h
    exact ⟨x,_,hx,hb,.inl ⟨kvs,k,d,rfl,hk,h1,h2.symm⟩⟩
   ·cases h
  ·rename_i kvs hb
   split at h
   ·rename_i k hk
    obtain ⟨d,h1,h2⟩:=Option.map_eq_some_iff.mp h
    exact ⟨x,_,hx,hb,.inr (.inl ⟨kvs,k,d,rfl,hk,h1,h2.symm⟩)⟩
   ·cases h
  ·rename_i kvs hb
   split at h
   ·rename_i k hk
    obtain ⟨d,h1,h2⟩:=Option.map_eq_some_iff.mp h
    exact ⟨x,_,hx,hb,.inr (.inr ⟨kvs,k,d,rfl,hk,h1,h2.symm⟩)⟩
   ·cases h
  ·cases h
 ·cases h
theorem Zqe (hu:X.A.units + 1 < cLine) (i:Nat) {x:Str} {p1:Pos} (hk:XE X b fb) (hN:X.N[i]? = some x:=by rfl) (hv:Vis X.env.scope x:=by first | exact Or.inl rfl | exact Or.inr (Or.inl rfl) | exact Or.inr (Or.inr rfl)) (hd:(x == ("__debug__":Str)) = false:=by decide) (hcd:(x == ("__classdict__":Str)) = false:=by decide)
    (hs:Zn0 b:=by intro _ _; rfl):XB X (.Subscript (.Name x p1) b pos) (HM.ZnY i fb):=by
  intro r q h
  obtain ⟨y,bb,h1,h2,h3⟩:=Zr5 h
  refine PE.imp (Zln hu (Zcu hN hv hd hcd) (hk r y h1) hs) fun σ H Q ⟨F0,H0,F,at_,kk⟩=>?_
  obtain ⟨u,fp,e1,e2⟩:=at_.any h2
  refine ⟨u,e1,F0,H0,F,at_,fun w F2 H2 x2 r2=>?_⟩
  have e2':=e2.mono x2.ff fun _ _ _ z=>x2.hh _ _ z
  rcases h3 with ⟨kvs,k,d,rfl,hk',hl,rfl⟩ | ⟨kvs,k,d,rfl,hk',hl,rfl⟩ | ⟨kvs,k,ds,rfl,hk',hl,rfl⟩
  · cases e2' with
    | @ok l _ vvs g1 g2 g3 =>
      obtain ⟨v,q1,q2⟩:=(ZaG.look (k:=k) (K:=X.K) (F:=F2) ⟨g2,g3⟩).1 d hl
      rw [Zg7 hk' r2]
      exact ⟨l,v,rfl,by rw [<- q1]; exact Zcd.k g1,kk v F2 H2 x2 ⟨[],.pl q2⟩⟩
  · cases e2' with
    | @ot l _ vvs g1 g2 g3 =>
      obtain ⟨v,q1,q2⟩:=(ZaG.look (k:=k) (K:=X.K) (F:=F2) ⟨g2,g3⟩).1 d hl
      obtain ⟨bb',rfl,hbb⟩:=ZbN hk' r2
      exact ⟨l,v,rfl,by rw [<- q1]; exact Zcd.t g1 (x2.sub _ _ hbb),kk v F2 H2 x2 ⟨[],.pl q2⟩⟩
  · obtain ⟨l, vvs, ls, rfl, _, g1, _, _, hlk⟩ := Zn2 e2'
    obtain ⟨l',vs,q1,_,q2,q3⟩:=(hlk k).1 ds hl
    obtain ⟨bb',rfl,hbb⟩:=ZbN hk' r2
    exact ⟨l,_,rfl,by rw [<- q1]; exact Zcd.t g1 (x2.sub _ _ hbb),kk _ F2 H2 x2 ⟨[l'],.ol q2 q3⟩⟩
end
end HP
namespace HP
open PySem PySem.Spec PyProof.Rows L2
abbrev No:Value->Shared->Prop:=fun _ _=>False
abbrev ZoW (ifs:List Expr) (env:Env):Sem Bool :=
 forIn ifs true fun c r=>if r = true then do let ok <- isTrue c env (eval c env); pure (ForInStep.yield ok) else pure (ForInStep.yield r)
theorem Zrz {prog:Program} {w:World} {A:Around} {R:Result->Shared->Prop} {s:Shared} {elt target iter:Expr} {ifs:List Expr} {scope:Scope} {pos:Pos} {it acc:Value} {env:Env} (J:Nat->Shared->Prop)
    (turn:∀ n s,J n s->wpAny (model prog w) A (pyNext it) (fun r s1=>match r with
      | none=>R (.ok .next) s1
      | some v=>wpAny (model prog w) A (letOwnedTupleGo target it v) (fun _ s2=>wpAny (model prog w) A (assign target env v) (fun _ s3=>wpAny (model prog w) A (ZoW ifs env) (fun ok s4 =>
          if ok = true then wpAny (model prog w) A (eval elt env) (fun x s5=>wpAny (model prog w) A (call (.builtin "list.append") [acc,x]) (fun _ s6=>∃ m,m < n/\J m s6) No s5) No s4 else ∃ m,m < n/\J m s4) No s3) No s2) No s1) No s)
    (n:Nat) (h:J n s):codeAny (model prog w) A (.compLoop (.ListComp elt [⟨target,iter,ifs,0⟩] scope pos) 0 it acc env) R s:=by
  refine codeAny_loop rfl J (fun n s hI=>?_) n h
  show wpAny _ A ((compTurn (.ListComp elt [⟨target,iter,ifs,0⟩] scope pos) 0 it acc env).onRaise (fun x=>do noteFrame x env; theTreesLotGoes x)) _ _ s
  refine wpAny_noted ?_
  rw [compTurn_list]
  refine wpAny_bind (wpAny_standAt (wpAny_bind (wpAny_mono (turn n s hI) (fun r s1 h1=>?_) fun _ _ z=>z.elim)))
  cases r with
  | none=>exact wpAny_pure h1
  | some v =>
    refine wpAny_bind (wpAny_mono h1 (fun _ s2 h2=>wpAny_bind (wpAny_mono h2 (fun _ s3 h3=>wpAny_bind (wpAny_mono h3 (fun ok s4 h4=>?_) fun _ _ z=>z.elim)) fun _ _ z=>z.elim)) fun _ _ z=>z.elim)
    cases ok with
    | false=>exact wpAny_pure ⟨rfl,h4⟩
    | true =>
      refine wpAny_bind (wpAny_bind (wpAny_mono h4 (fun x s5 h5=>?_) fun _ _ z=>z.elim))
      exact wpAny_bind (wpAny_mono h5 (fun _ s6 h6=>wpAny_pure (wpAny_pure ⟨rfl,h6⟩)) fun _ _ z=>z.elim)
def Z3 (X:Cx) (N:List Str) (scope:Scope) (cl:List (Str × Addr)) (C:Addr) (s₀:Shared) (H₀:Hp) (ex:List Addr):Cx where
 prog:=X.prog
 w:=X.w
 K:=X.K
 mg:=X.mg
 base:=X.base
 A:=X.A
 N:=N
 s₀:=s₀
 H₀:=H₀
 env:=compEnvC scope cl C X.env
 outer:=X.stack
 stack:=X.stack
 ex:=ex
 fn:=fun _=>false
 calm:=true
 pn:=[]
 xe:=fun _ _=>False
theorem Zh9 {env:Env}:∀ (names:List (Str × NameKind)) (cs:List (Str × Addr)),(∀ y ∈ names,y.2 = .free->∃ c,env.cells.lookup y.1 = some c)->(∀ x c,cs.lookup x = some c->env.cells.lookup x = some c) ->
    ∃ cl,(forIn names cs fun (x:Str × NameKind) r=>(match x with | (name,kind)=>if kind == .free then do let c <- cellOf env name; pure (ForInStep.yield ((name,c) :: r)) else pure (ForInStep.yield r):Sem (ForInStep (List (Str × Addr))))) = pure cl /\
      (∀ x c,cl.lookup x = some c->env.cells.lookup x = some c)/\(∀ x,(cs.lookup x).isSome = true->(cl.lookup x).isSome = true)/\∀ y ∈ names,y.2 = .free->(cl.lookup y.1).isSome = true
  | [],cs,_,h2=>⟨cs,rfl,h2,fun _ h=>h,fun y hy=>by simp at hy⟩
  | (n, k) :: r, cs, h1, h2 => by
    rw [List.forIn_cons]
    by_cases hk:(k == NameKind.free) = true
    · obtain ⟨c, hc⟩ := h1 (n, k) (List.mem_cons_self ..) (by simpa using hk)
      have ec:cellOf env n = pure c:=by unfold cellOf; rw [hc]
      obtain ⟨cl,e1,e2,e3,e4⟩:=Zh9 r ((n,c) :: cs) (fun y hy=>h1 y (List.mem_cons_of_mem _ hy)) (fun x d hx=>by
        rw [List.lookup_cons] at hx
        split at hx
        · rename_i hb
          have:x = n:=by simpa using hb
          cases hx; rw [this]; exact hc
        · exact h2 x d hx)
      refine ⟨cl,?_,e2,fun x hx=>e3 x ?_,fun y hy hf=>?_⟩
      · simp only [hk, if_true, ec, pure_bind]
        exact e1
      · rw [List.lookup_cons]
        split
        · rfl
        · exact hx
      · rcases List.mem_cons.mp hy with e | hy
        · subst e
          exact e3 n (by rw [List.lookup_cons]; simp)
        · exact e4 y hy hf
    · obtain ⟨cl, e1, e2, e3, e4⟩ := Zh9 r cs (fun y hy => h1 y (List.mem_cons_of_mem _ hy)) h2
      refine ⟨cl,?_,e2,e3,fun y hy hf=>?_⟩
      · simp only [hk, if_false, pure_bind, Bool.false_eq_true]
        exact e1
      · rcases List.mem_cons.mp hy with e | hy
        · subst e
          exact absurd (by simpa using hf) hk
        · exact e4 y hy hf
theorem ZiG {scope:Scope} {env:Env} (h:∀ y ∈ scope.names,y.2 = .free->∃ c,env.cells.lookup y.1 = some c) :
  ∃ cl,closureFor scope env = pure cl/\(∀ x c,cl.lookup x = some c->env.cells.lookup x = some c)/\∀ y ∈ scope.names,y.2 = .free->(cl.lookup y.1).isSome = true:=by
 obtain ⟨cl,e1,e2,_,e4⟩:=Zh9 (env:=env) scope.names [] h (fun x c hx=>by simp at hx)
 refine ⟨cl,?_,e2,e4⟩
 unfold closureFor
 exact (congrArg (fun m:Sem (List (Str × Addr))=>m >>= fun cs=>pure cs) e1).trans (pure_bind cl fun cs=>pure cs)
theorem Ext.chg {F H F' H':Hp} (x:Ext F H F' H') {p:Addr} (o:HO) (h1:H p = none) (h2:F' p = none):Ext F H F' (upd H' p o) :=
 ⟨x.ff,fun b q z=>by rw [ZG (ZaT z h1)]; exact x.hh b q z,fun b q z=>by rw [ZG (ZaT z h2)]; exact x.sub b q z,x.new⟩
theorem At.push {K:PySem.W.Frag} {F0 H0 F H:Hp} {r:HM.Env} {σ:L2.St} {d:PyData} {v:V} (e:At K F0 H0 F H r σ) (q:Rep K F d v):At K F0 H0 F H (some (.pl d) :: r) (some v :: σ):=by
  obtain ⟨fp,e⟩:=e
  refine ⟨fun i=>match i with | 0=>[] | i + 1=>fp i,e.ext,by rw [List.length_cons,List.length_cons,e.len],fun i b h=>?_,fun i h=>?_,fun i a h=>?_,fun i=>?_,fun i j a hij h=>?_⟩
  · cases i with
    | zero =>
      rw [List.getElem?_cons_zero] at h
      cases h
      exact ⟨v,rfl,.pl q⟩
    | succ i =>
      rw [List.getElem?_cons_succ] at h
      obtain ⟨u,h1,h2⟩:=e.at_ i b h
      exact ⟨u,by rw [List.getElem?_cons_succ]; exact h1,h2⟩
  · cases i with
    | zero=>rfl
    | succ i=>exact e.emp i fun b z=>h b (by rw [List.getElem?_cons_succ]; exact z)
  · cases i with
    | zero=>simp at h
    | succ i=>exact e.own i a h
  · cases i with
    | zero=>exact List.nodup_nil
    | succ i=>exact e.nd i
  · cases i with
    | zero=>simp at h
    | succ i =>
      cases j with
      | zero=>simp
      | succ j=>exact e.dis i j a (by omega) h
theorem At.chgNew {K:PySem.W.Frag} {F0 H0 F H:Hp} {r:HM.Env} {σ:L2.St} {p:Addr} (o:HO) {Hs Fs:Hp} (e:At K F0 H0 F H r σ) (es:At K F0 H0 Fs Hs r σ) (hs:Zw Hs H) (h1:Hs p = none) (h2:F p = none):At K F0 H0 F (upd H p o) r σ:=by
  obtain ⟨fp,e⟩:=e
  obtain ⟨fq,es⟩:=es
  have hp:∀ i,¬ p ∈ fp i:=fun i hm=>by
    obtain ⟨b,hb⟩:=e.bound hm
    obtain ⟨v,q1,q2⟩:=e.at_ i b hb
    obtain ⟨v',q3,q4⟩:=es.at_ i b hb
    rw [q1] at q3
    cases q3
    generalize fp i = f1 at q2 hm
    generalize fq i = f2 at q4
    cases q2 with
    | pl _=>simp at hm
    | hd _ _ _ _=>simp at hm
    | ol k _=>cases q4 with | ol k' _=>simp at hm; subst hm; rw [h1] at k'; cases k'
    | ok k _ _=>cases q4 with | ok k' _ _=>simp at hm; subst hm; rw [h1] at k'; cases k'
    | ot k _ _=>cases q4 with | ot k' _ _=>simp at hm; subst hm; rw [h1] at k'; cases k'
    | otl k _ v1 _ =>
      cases q4 with
      | otl k' hk' v2 r2' =>
        have eo:=hs _ _ k'
        rw [k] at eo
        cases eo
        have v2':=v2
        rw [v1] at v2
        rcases List.mem_cons.mp hm with z2 | z2
        · subst z2; rw [h1] at k'; cases k'
        · have : V.ref p ∈ List.map V.ref _ := List.mem_map.mpr ⟨p, z2, rfl⟩
          rw [v2] at this
          obtain ⟨a',m1,m2⟩:=List.mem_map.mp this
          injection m2 with m2
          subst m2
          obtain ⟨o,ho⟩:=Zat.there (Zat.otl k' hk' v2' r2') (List.mem_cons_of_mem _ m1)
          rw [h1] at ho; cases ho
  have hH0:H0 p = none:=es.ext.hh.free h1
  refine ⟨fp,e.ext.chg o hH0 h2,e.len,fun i b h=>?_,e.emp,e.own,e.nd,e.dis⟩
  obtain ⟨v,q1,q2⟩:=e.at_ i b h
  refine ⟨v,q1,q2.mono (Zw.refl F) fun a ha o' z=>?_⟩
  have hne:a ≠ p:=fun e=>hp i (by rw [<- e]; exact ha)
  rw [ZG hne]
  exact z
end HP
namespace HP
open PySem PySem.Spec PyProof.Rows L2
structure Zef (X:Cx) (N:List Str) (scope:Scope) (fr:List Str):Prop where
 kind:scope.kind = .function
 cell:∀ y ∈ scope.names,y.2 ≠ .cell
 names:∀ y ∈ scope.names,y.2 = .local->scope.names.lookup y.1 = some .local
 loc:∀ x ∈ fr,scope.names.lookup x = some .local
 first:∀ (i:Nat) (x:Str),fr[i]? = some x->N[i]? = some x
 nd:N.Nodup
 len:N.length = X.N.length + fr.length
 cap:∀ y ∈ scope.names,y.2 = .free->X.env.kindOf y.1 = some .cell\/X.env.kindOf y.1 = some .free
 same:∀ (i:Nat) (y:Str),N[i + fr.length]? = some y->scope.names.lookup y = some .free->X.N[i]? = some y
 vis:∀ (i:Nat) (y:Str),N[i + fr.length]? = some y->Vis scope y->scope.names.lookup y = some .free
def goG (dec:PyData->Option (List PyData)) (c:HM.TF) (e:HM.EF) (r:HM.Env):List PyData->Option (List PyData)
  | []=>some []
  | x :: xs => match dec x with
    | some ys => match c (ys.map (fun d => some (HM.B.pl d)) ++ r) with
      | some true => match e (ys.map (fun d => some (HM.B.pl d)) ++ r) with
        | some y=>(goG dec c e r xs).map (y :: ·)
        | none=>none
      | some false=>goG dec c e r xs
      | none=>none
    | none=>none
def Zgi (dec:PyData->Option (List PyData)) (i:HM.IF) (c:HM.TF) (e:HM.EF):HM.BF:=fun r=>match i r with
 | some xs=>if xs.length < HM.big then (goG dec c e r xs).map fun ys=>HM.B.ol ys else none
 | none=>none
def Zi6 (Y:Cx) (m:Nat) (tg:Expr) (dec:PyData->Option (List PyData)):Prop:=∀ (pins:List (Addr × Obj)) (s:Shared) (σ:L2.St) (sv:List (Option V)) (H F:Hp) (d:PyData) (ys:List PyData) (xv:V) (u:Value),sv.length = m->Inv Y pins (sv ++ σ) H s->RelV xv u->Zw F H->Rep Y.K F d xv->dec d = some ys ->
 wpAny (model Y.prog Y.w) Y.A (assign tg Y.env u) (fun _ s'=>∃ vs:List V,vs.length = m/\Inv Y pins (vs.map some ++ σ) H s'/\ZC Y.K F ys vs) Y.xe s
theorem At.pushes {K:PySem.W.Frag} {F0 H0 F H:Hp} {r:HM.Env} {σ:L2.St}:∀ {ds:List PyData} {vs:List V},At K F0 H0 F H r σ->ZC K F ds vs->At K F0 H0 F H (ds.map (fun d=>some (HM.B.pl d)) ++ r) (vs.map some ++ σ)
  | [], vs, e, q => by
    rw [q.nil_inv]
    exact e
  | d :: ds, vs, e, q => by
    obtain ⟨v,us,rfl,r1,r2⟩:=q.cons_inv
    exact (At.pushes e r2).push r1
section
variable {X:Cx} {N:List Str} {scope:Scope} {fr:List Str} {cl:List (Str × Addr)} {C:Addr}
theorem Zbx {env:Env} {y:Str} {k:NameKind}:∀ {names:List (Str × NameKind)},(names.map fun (n,k)=>if (k == NameKind.free && env.scope.kind == .function && env.kindOf n == some .cell) then (n,NameKind.cell) else (n,k)).lookup y = some k ->
    names.lookup y = some k\/(k = .cell/\names.lookup y = some .free)
  | [],h=>by simp at h
  | (n, k') :: r, h => by
    have ih:=@Zbx env y k r
    rw [List.map_cons] at h
    dsimp only at h
    by_cases hc:(k' == NameKind.free && env.scope.kind == .function && env.kindOf n == some .cell) = true
    · rw [if_pos hc, List.lookup_cons] at h
      rw [List.lookup_cons]
      split at h
      · cases h
        refine .inr ⟨rfl,?_⟩
        have:(k' == NameKind.free) = true:=by
          rw [Bool.and_eq_true,Bool.and_eq_true] at hc
          exact hc.1.1
        rw [show k' = NameKind.free by simpa using this]
      · exact ih h
    · rw [if_neg hc, List.lookup_cons] at h
      rw [List.lookup_cons]
      split at h
      · cases h
        exact .inl rfl
      · exact ih h
theorem lookup_mem {y:Str} {k:NameKind}:∀ {names:List (Str × NameKind)},names.lookup y = some k->(y,k) ∈ names
  | [],h=>by simp at h
  | (n, k') :: r, h => by
    rw [List.lookup_cons] at h
    split at h
    · cases h
      rename_i hb
      rw [show y = n by simpa using hb]
      exact List.mem_cons_self ..
    · exact List.mem_cons_of_mem _ (lookup_mem h)
theorem Zth {pins:List (Addr × Obj)} {σ:L2.St} {H:Hp} {s:Shared} {fp:List Addr} (T:Zef X N scope fr) (hcl:∀ y c,cl.lookup y = some c->X.env.cells.lookup y = some c) (hfr:∀ y ∈ scope.names,y.2 = .free->(cl.lookup y.1).isSome = true)
  (I:Inv X pins σ H s) (hc:X.calm = true) (hf:∀ b ∈ fp,Zhf X pins H b) (hfl:∀ b ∈ fp,b < s.heap.objs.size) (hC:s.heap.objs.size <= C):(Z3 X N scope cl C s H fp).Ok:=by
 refine ⟨I.ok.mod,T.kind,I.ok.glob,I.ok.blt,hC,fun y z c h1 h2=>I.ok.inj y z c (hcl y c h1) (hcl z c h2),fun y h=>?_,fun y c h=>?_,fun _=>I.ok.hd hc,I.ok.frames,.inl rfl,fun b hb=>⟨?_,fun y c h=>?_⟩,fun b o h=>I.bs b o h,
  Nat.le_trans I.ok.bsz I.sz,fun b o h hb=>?_,fun b hb hs=>?_,I.stack,I.stkFree⟩
 ·have h':(relabel scope X.env).names.lookup y = some .cell\/(relabel scope X.env).names.lookup y = some .free:=h
  have hm:(y,NameKind.free) ∈ scope.names:=by
   rcases h' with h' | h'
   ·rcases Zbx h' with q | ⟨_,q⟩
    ·exact absurd rfl (T.cell _ (lookup_mem q))
    ·exact lookup_mem q
   ·rcases Zbx h' with q | ⟨e,_⟩
    ·exact lookup_mem q
    ·cases e
  exact Option.isSome_iff_exists.mp (hfr _ hm rfl)
 ·exact absurd h (by show ¬ false = true; simp)
 ·exact Nat.ne_of_lt (Nat.lt_of_lt_of_le (hfl b hb) hC)
 ·obtain ⟨_,_,_,_,q,_⟩:=hf b hb
  exact q y c (hcl y c h)
 ·obtain ⟨_,_,_,q,_⟩:=hf b hb
  rcases q with q | q
  ·exact I.ok.noex b o h q
  ·exact absurd (Nat.lt_of_lt_of_le (Heap.lt_size h) (Nat.le_trans I.ok.bsz q)) (Nat.lt_irrefl _)
 ·obtain ⟨_,q1,q2,_⟩:=hf b hb
  rcases List.mem_cons.mp (I.stkSub b hs) with z | z
  ·exact q1 z
  ·exact q2 z
theorem Zoc {pins:List (Addr × Obj)} {σ:L2.St} {H:Hp} {s:Shared} {fp:List Addr} {D:Addr} {h1:Heap} {tk:Nat} (T:Zef X N scope fr) (hcl:∀ y c,cl.lookup y = some c->X.env.cells.lookup y = some c) (hfr:∀ y ∈ scope.names,y.2 = .free->(cl.lookup y.1).isSome = true)
  (I:Inv X pins σ H s) (hc:X.calm = true) (hf:∀ b ∈ fp,Zhf X pins H b) (hfl:∀ b ∈ fp,b < s.heap.objs.size) (hD:s.heap.objs.size = D) (hC:D < C) (ns:h1.Ns C (fun _=>none)) (hl:h1.get? D = some { cls:=.type "list",data:=.seq #[] 0 })
  (k:∀ b o,s.heap.get? b = some o->h1.get? b = some o):Inv (Z3 X N scope cl C s H fp) [] (List.replicate fr.length none ++ σ) (upd H D (.lst [])) { s with heap:=h1,toks:=tk }:=by
 have hn:H D = none:=I.hok.fresh (Nat.le_of_eq hD)
 have hDC:s.heap.objs.size <= C:=Nat.le_trans (Nat.le_of_eq hD) (Nat.le_of_lt hC)
 have hCn:H C = none:=I.hok.fresh hDC
 refine ⟨Zth T hcl hfr I hc hf hfl hDC,rfl,I.bare,Un.laid k (Nat.le_of_eq hD) hn,⟨_,ns,fun i y v e1 e2 e3=>?_⟩,fun y c h=>?_,?_,fun y c h=>?_,fun p hp=>absurd (show p ∈ ([]:List (Addr × Obj)) from hp) (by simp),I.hok.laid k (Nat.le_of_eq hD) ⟨Nat.zero_le _,[],0,.nil,hl⟩,?_⟩
 ·have hge:fr.length <= i:=by
   apply Nat.le_of_not_lt
   intro hlt
   rw [List.getElem?_append_left (by rw [List.length_replicate]; exact hlt),List.getElem?_replicate,if_pos hlt] at e2
   cases e2
  rw [List.getElem?_append_right (by rw [List.length_replicate]; exact hge),List.length_replicate] at e2
  obtain ⟨j,rfl⟩:∃ j,i = j + fr.length:=⟨i - fr.length,by omega⟩
  rw [Nat.add_sub_cancel] at e2
  ·have e3':Vis scope y:=by
    have e3:Vis (relabel scope X.env) y:=e3
    rcases e3 with q | q | q
    ·rcases Zbx q with q | ⟨z,_⟩
     ·exact .inl q
     ·cases z
    ·rcases Zbx q with q | ⟨_,q⟩
     ·exact .inr (.inl q)
     ·exact .inr (.inr q)
    ·rcases Zbx q with q | ⟨z,_⟩
     ·exact .inr (.inr q)
     ·cases z
   have hfree:=T.vis j y e1 e3'
   have hm:=lookup_mem hfree
   have hN:=T.same j y e1 hfree
   have hcap:=T.cap _ hm rfl
   obtain ⟨m,_,hl⟩:=I.loc
   obtain ⟨u,ru,lu⟩:=hl j y v hN e2 (by
    rcases hcap with q | q
    ·exact .inr (.inl q)
    ·exact .inr (.inr q))
   refine ⟨u,ru,?_⟩
   obtain ⟨c,hcc⟩:=Option.isSome_iff_exists.mp (hfr _ hm rfl)
   rcases lu with ⟨q,_⟩ | ⟨_,c',e,z⟩
   ·rcases hcap with q' | q' <;> (rw [q'] at q; cases q)
   ·refine .inr ⟨?_,c,hcc,?_⟩
    ·rcases e3 with q | q | q
     ·have q:(relabel scope X.env).names.lookup y = some .local:=q
      rcases Zbx q with q | ⟨z,_⟩
      ·rw [hfree] at q; cases q
      ·cases z
     ·exact .inl q
     ·exact .inr q
    ·rw [hcl y c hcc] at e
     cases e
     obtain ⟨o,ho,hd⟩:=z
     exact ⟨o,k _ _ ho,hd⟩
 ·obtain ⟨v,o,ho,hd⟩:=I.cell y c (hcl y c h)
  exact ⟨v,o,k _ _ ho,hd⟩
 ·show upd H D (.lst []) C = none
  rw [ZG (Nat.ne_of_gt hC)]
  exact hCn
 ·have hq:=I.freeC y c (hcl y c h)
  obtain ⟨v,o,ho,_⟩:=I.cell y c (hcl y c h)
  have:c ≠ D:=Nat.ne_of_lt (by rw [<- hD]; exact Heap.lt_size ho)
  rw [ZG this]
  exact hq
 ·show (List.replicate fr.length none ++ σ).length = N.length
  rw [List.length_append,List.length_replicate,I.len,T.len,Nat.add_comm]
def XTs (Y:Cx) (ifs:List Expr) (f:HM.TF):Prop:=∀ r c,f r = some c->∀ (pins:List (Addr × Obj)) (s:Shared) (σ:L2.St) (H:Hp) (Q:Bool->Hp->Prop),Inv Y pins σ H s->(Now Y.K r σ H fun F0 H0 F=>∀ F' H',Ext F H F' H'->Q c H') ->
 wpAny (model Y.prog Y.w) Y.A (ZoW ifs Y.env) (TP Y pins σ Q) Y.xe s
theorem ZaI {Y:Cx}:XTs Y [] HM.ZV:=by
 intro r c h pins s σ H Q I ⟨F0,H0,F,at_,k⟩
 cases h
 exact wpAny_tests_nil ⟨H,I,k F H at_.refl⟩
theorem Zd2 {Y:Cx} {e:Expr} {f:HM.TF} (h:XT Y e f):XTs Y [e] f:=fun r c hc pins s σ H Q I q=>wpAny_tests_one (h r c hc pins s σ H Q I q)
theorem ZnS {pins:List (Addr × Obj)} {σ:L2.St} {H1:Hp} {s2:Shared} {fp:List Addr} {it D:Addr} {tn:Nat->Heap->Prop} {J:It} {elt iter:Expr} {ifs:List Expr} {tg:Expr} {pos:Pos} {dec:PyData->Option (List PyData)} {fc:HM.TF} {fe:HM.EF} {s4:Shared} {r:HM.Env} {ds out:List PyData} {Fs Hs F0 H0 F1:Hp}
    {R:Result->Shared->Prop} (T:Zef X N scope fr) (I2:Inv X pins σ H1 s2) (W:Turn X.prog X.w X.K tg J fp it tn) (hf:∀ b ∈ fp,Zhf X pins H1 b)
    (I4:Inv (Z3 X N scope cl C s2 H1 fp) [] (List.replicate fr.length none ++ σ) (upd H1 D (.lst [])) s4) (tn0:tn 0 s4.heap) (hD:s2.heap.objs.size <= D) (hfl:∀ b ∈ fp,b < s2.heap.objs.size) (hbl:X.calm = true)
    (hc:XTs (Z3 X N scope cl C s2 H1 fp) ifs fc) (he:XE (Z3 X N scope cl C s2 H1 fp) elt fe) (at_:At X.K F0 H0 Fs Hs r σ) (x1:Ext Fs Hs F1 H1) (itd:ItD X.K J ds F1) (hbind:Zi6 (Z3 X N scope cl C s2 H1 fp) fr.length tg dec) (hbig:ds.length < HM.big) (go:goG dec fc fe r ds = some out)
    (hR:∀ s',(∃ F H vs,Inv (Z3 X N scope cl C s2 H1 fp) [] (List.replicate fr.length none ++ σ) H s'/\Ext Fs Hs F H/\H D = some (.lst vs)/\F D = none/\ZC X.K F out vs)->R (.ok .next) s') :
    codeAny (model X.prog X.w) X.A (.compLoop (.ListComp elt [⟨tg,iter,ifs,0⟩] scope pos) 0 (.ref it) (.ref D) (compEnvC scope cl C X.env)) R s4:=by
  have hH1D:H1 D = none:=I2.hok.fresh hD
  have hHsD:Hs D = none:=x1.hh.free hH1D
  have hF1D:F1 D = none:=x1.sub.free hH1D
  have hfpD:∀ b ∈ fp,b ≠ D:=fun b hb=>Nat.ne_of_lt (Nat.lt_of_lt_of_le (hfl b hb) hD)
  have okY:=I4.ok
  have stat:∀ {H:Hp},(∀ b ∈ fp,H b = none)->∀ b ∈ fp,Zhf (Z3 X N scope cl C s2 H1 fp) [] H b:=fun hn b hb =>
    ⟨hn b hb,(okY.exf b hb).1,okY.exfs b hb,.inl hb,(okY.exf b hb).2,fun p hp=>absurd (show p ∈ ([]:List (Addr × Obj)) from hp) (by simp)⟩
  refine Zrz (fun n s'=>∃ (j:Nat) (sv:List (Option V)) (F H:Hp) (ys:List PyData) (vs:List V) (rest:List PyData),sv.length = fr.length/\Inv (Z3 X N scope cl C s2 H1 fp) [] (sv ++ σ) H s'/\tn j s'.heap/\(∀ b ∈ fp,H b = none)/\Ext Fs Hs F H/\Zw F1 F/\At X.K F0 H0 F H r σ /\
    H D = some (.lst vs)/\F D = none/\ZC X.K F ys vs/\j + n = ds.length/\ys.length <= j/\goG dec fc fe r (ds.drop j) = some rest/\out = ys ++ rest) ?_ ds.length
    ⟨0,List.replicate fr.length none,F1,_,[],[],out,List.length_replicate,I4,tn0,fun b hb=>by rw [ZG (hfpD b hb)]; exact (hf b hb).1,x1.lay' hH1D,Zw.refl _,(at_.grow x1).grow ((at_.grow x1).refl.lay' hH1D),ZP,hF1D,.nil,by omega,Nat.le_refl _,go,rfl⟩
  rintro n s5 ⟨j,sv,F,H,ys,vs,rest,hsv,I5,tn5,hfp5,x5,sF,at5,hHD,hFD,rys,hjn,hyl,hgo,hout⟩
  obtain ⟨it1,it2⟩:=itd F H sF at5.sub
  cases n with
  | zero =>
    have ej:j = ds.length:=by omega
    subst ej
    rw [List.drop_length] at hgo
    cases hgo
    rw [List.append_nil] at hout
    subst hout
    refine thn (W.done (Z3 X N scope cl C s2 H1 fp) rfl rfl rfl rfl _ [] s5 _ H No I5 (stat hfp5) tn5 it2) fun rv s6 ⟨e,I6⟩=>?_
    subst e
    refine hR s6 ⟨F,H,vs,I6.weak (by rw [List.length_append,List.length_append,List.length_replicate,hsv]) fun i v hv=>?_,x5,hHD,hFD,rys⟩
    by_cases hi:i < fr.length
    · rw [List.getElem?_append_left (by rw [List.length_replicate]; exact hi), List.getElem?_replicate, if_pos hi] at hv
      cases hv
    · rw [List.getElem?_append_right (by rw [List.length_replicate]; omega), List.length_replicate] at hv
      rw [List.getElem?_append_right (by omega),hsv]
      exact hv
  | succ n =>
    have hlt:j < ds.length:=by omega
    obtain ⟨jg,jy⟩:=it1 j ds[j] (List.getElem?_eq_getElem hlt)
    obtain ⟨F2,x5,sF,at5,hFD,rys,jy⟩:∃ F2,Ext Fs Hs F2 H/\Zw F1 F2/\At X.K F0 H0 F2 H r σ/\F2 D = none/\ZC X.K F2 ys vs/\∀ x H',J.yld j H x H'->H' = H/\Rep X.K F2 ds[j] x :=
      ⟨ZcW F H,x5.tups,sF.trans (Zec at5.sub),at5.grow at5.refl.tups,by unfold ZcW; rw [hHD]; exact hFD,rys.mono (Zec at5.sub),jy⟩
    clear it1 it2
    rw [List.drop_eq_getElem_cons hlt] at hgo
    refine thn (W.item (Z3 X N scope cl C s2 H1 fp) rfl rfl rfl rfl j [] s5 _ H No I5 (stat hfp5) tn5 jg) fun rv s6 ⟨u,e,h6⟩=>?_
    subst e
    refine thn h6 fun _ s7 ⟨xv,H7,I7,r7,y7,tn7,fr7⟩=>?_
    obtain ⟨e7,rx⟩:=jy xv H7 y7
    subst e7
    have I7':=I7.pinned (stat fr7) (W.obj _ _ tn7)
    unfold goG at hgo
    split at hgo
    case h_2=>cases hgo
    rename_i zs hzs
    have dok:=hbind _ s7 σ sv H7 F2 ds[j] zs xv u hsv I7' r7 at5.sub rx hzs
    refine thn dok fun _ s8 ⟨ws,hws,I8,rws⟩=>?_
    have atp:=at5.pushes rws
    have again:∀ {s9:Shared} {F9 H9:Hp} {zs9:List PyData} {ws9:List V} {rest':List PyData},Inv (Z3 X N scope cl C s2 H1 fp) ([] ++ Zjb fp s7.heap) (ws.map some ++ σ) H9 s9->Ext Fs Hs F9 H9->Zw F2 F9->At X.K F0 H0 F9 H9 r σ->H9 D = some (.lst ws9)->F9 D = none->ZC X.K F9 zs9 ws9->zs9.length <= j + 1->goG dec fc fe r (ds.drop (j + 1)) = some rest'->out = zs9 ++ rest' ->
        ∃ m,m < n + 1/\∃ (j:Nat) (sv:List (Option V)) (F2 H:Hp) (ys:List PyData) (vs:List V) (rest:List PyData),sv.length = fr.length/\Inv (Z3 X N scope cl C s2 H1 fp) [] (sv ++ σ) H s9/\tn j s9.heap/\(∀ b ∈ fp,H b = none)/\Ext Fs Hs F2 H/\Zw F1 F2/\At X.K F0 H0 F2 H r σ /\
          H D = some (.lst vs)/\F2 D = none/\ZC X.K F2 ys vs/\j + m = ds.length/\ys.length <= j/\goG dec fc fe r (ds.drop j) = some rest/\out = ys ++ rest:=by
      intro s9 F9 H9 zs9 ws9 rest' I9 x9 s9F a9 h9 f9 r9 l9 g9 o9
      refine ⟨n,Nat.lt_succ_self n,j + 1,ws.map some,F9,H9,zs9,ws9,rest',by rw [List.length_map]; exact hws,I9.unpinned,W.keep _ _ _ tn7 fun b hb o e=>(I9.pin (b,o) (List.mem_append_right _ (List.mem_append_right _ (ZgB hb e)))).1,fun b hb=>?_,x9,sF.trans s9F,a9,h9,f9,r9,by omega,l9,g9,o9⟩
      obtain ⟨o,e,d⟩:=W.obj _ _ tn7 b hb
      exact (I9.pin (b,o) (List.mem_append_right _ (List.mem_append_right _ (ZgB hb e)))).2.1
    have noD:∀ {F' H':Hp},Ext F2 H7 F' H'->F' D = none:=fun {F' H'} y=>by
      cases q:F' D with
      | none=>rfl
      | some o =>
        rcases y.new D o q with z | z
        · rw [hFD] at z; cases z
        · exact (z.no hHD fun _ q=>by cases q).elim
    split at hgo
    · rename_i hcv
      split at hgo
      · rename_i y hy
        obtain ⟨rest',g1,g2⟩:=Option.map_eq_some_iff.mp hgo
        subst g2
        refine thn (hc _ _ hcv _ s8 _ H7 (fun c' H'=>c' = true/\∃ F',Ext F2 H7 F' H') I8 ⟨F0,H0,F2,atp,fun F' H' y=>⟨rfl,F',y⟩⟩) fun ok s9 ⟨H9,I9,eok,F9,x9⟩=>?_
        subst eok
        rw [if_pos rfl]
        refine thn (he _ _ hy _ s9 _ H9 (fun v' H'=>∃ F',Ext F9 H9 F' H'/\Rep X.K F' y v') I9 ⟨F0,H0,F9,atp.grow x9,fun v' F' H' x q=>⟨F',x,q⟩⟩) fun u' s10 ⟨v',H10,I10,r10,F10,x10,q10⟩=>?_
        have x910:=x9.trans x10
        have hHD':H10 D = some (.lst vs):=x910.hh _ _ hHD
        have hFD':=noD x910
        refine thn (Zhs (X:=Z3 X N scope cl C s2 H1 fp) _ s10 _ H10 (.ref D) [v'] (.ref D) [u'] (fun _ H'=>H' = upd H10 D (.lst (vs ++ [v']))) I10 rfl (.cons r10 .nil) ⟨D,vs,v',rfl,rfl,hHD',?_,rfl⟩) fun _ s11 ⟨_,H11,I11,_,e11⟩=>?_
        · have := rys.1
          exact ZfP (by omega)
        subst e11
        refine again (zs9:=ys ++ [y]) I11 ((x5.trans x910).chg _ hHsD hFD') x910.ff ((at5.grow x910).chgNew _ at_ (x5.trans x910).hh hHsD hFD') ZP hFD' ((rys.mono x910.ff).append (.one q10)) (by rw [List.length_append]; show ys.length + 1 <= j + 1; omega) g1 (by rw [hout,List.append_assoc]; rfl)
      · cases hgo
    · rename_i hcv
      refine thn (hc _ _ hcv _ s8 _ H7 (fun c' H'=>c' = false/\∃ F',Ext F2 H7 F' H') I8 ⟨F0,H0,F2,atp,fun F' H' y=>⟨rfl,F',y⟩⟩) fun ok s9 ⟨H9,I9,eok,F9,x9⟩=>?_
      subst eok
      rw [if_neg (by simp)]
      exact again (zs9:=ys) I9 (x5.trans x9) x9.ff (at5.grow x9) (x9.hh _ _ hHD) (noD x9) (rys.mono x9.ff) (by omega) hgo hout
    · cases hgo
theorem Zny {pins:List (Addr × Obj)} {σ:L2.St} {H1 H:Hp} {s2 s':Shared} {fp:List Addr} {sv:List (Option V)} {h':Heap} (I2:Inv X pins σ H1 s2) (hf:∀ b ∈ fp,Zhf X pins H1 b) (hC:s2.heap.objs.size <= C)
  (I:Inv (Z3 X N scope cl C s2 H1 fp) [] (sv ++ σ) H s') (hs:Heap.SameBut C s'.heap h'):Inv X pins σ H { s' with heap:=h' }:=by
 have u:Un (frs X.stack) fp H1 H s2.heap s'.heap:=I.base
 have hCn:H C = none:=I.free
 have ne:∀ b o,s2.heap.get? b = some o->b ≠ C:=fun b o e=>Nat.ne_of_lt (Nat.lt_of_lt_of_le (Heap.lt_size e) hC)
 refine I2.call' (s':={ s' with heap:=h' }) (ch:=fp) I.os ⟨fun b o e n hb hx=>(hs.2 b (ne b o e)).trans (u.keep b o e n hb hx),fun b o e n hb hx=>?_,u.free,fun b o e hx=>?_,u.tups,u.frzs,u.tbls⟩ (fun b o e=>?_) I.bare fun b hb=>?_
 ·obtain ⟨sl,q⟩:=u.slot b o e n hb hx
  exact ⟨sl,(hs.2 b (ne b o e)).trans q⟩
 ·obtain ⟨o',q⟩:=u.there b o e hx
  exact ⟨o',(hs.2 b (ne b o e)).trans q⟩
 ·refine (I.hok b o e).stay (fun c w' hc q=>(hs.2 c ?_).trans q) (fun _ q=>q) fun _ _ q=>q
  rintro rfl
  rcases hc with rfl | hc
  ·rw [hCn] at e; cases e
  ·rw [hCn] at hc; cases hc
 ·obtain ⟨q0,q1,q2,q3,q4,q5⟩:=hf b hb
  exact ⟨q3,q1,q4,q5⟩
variable {elt iter:Expr} {ifs:List Expr} {tg:Expr} {pos:Pos} {fi:HM.IF} {dec:PyData->Option (List PyData)} {fc:HM.TF} {fe:HM.EF}
theorem Zng {pins:List (Addr × Obj)} {σ:L2.St} {H:Hp} {s:Shared} (T:Zef X N scope fr) (I:Inv X pins σ H s):∀ y ∈ scope.names,y.2 = .free->∃ c,X.env.cells.lookup y.1 = some c:=fun y hy e=>I.ok.has y.1 (T.cap y hy e)
theorem ZmB (hxe:X.xe = fun _ _=>False) (hcalm:X.calm = true) (T:Zef X N scope fr) (hbind:∀ cl C s H ex,Zi6 (Z3 X N scope cl C s H ex) fr.length tg dec) (hi:XI X tg iter fi) (hc:∀ cl C s H ex,XTs (Z3 X N scope cl C s H ex) ifs fc) (he:∀ cl C s H ex,XE (Z3 X N scope cl C s H ex) elt fe)
  (hs:∀ x,foldedSetIterable iter X.env x = pure x:=by intro _; rfl):XF X (.ListComp elt [⟨tg,iter,ifs,0⟩] scope pos) (Zgi dec fi fc fe):=by
 intro r b h
 unfold Zgi at h
 split at h
 ·rename_i ds hds
  split at h
  ·rename_i hbig
   obtain ⟨out,hgo,e⟩:=Option.map_eq_some_iff.mp h
   subst e
   intro pins s σ H Q I ⟨F0,H0,F,at_,k⟩
   obtain ⟨cl,hclos,hcl,hfr⟩:=ZiG (Zng T I)
   rw [eval_ListComp]
   refine wpAny_comprehension_free (use:=none) rfl hs hclos T.kind T.names (thn (hi r ds hds pins s σ H (fun J H'=>∃ F',Ext F H F' H'/\ItD X.K J ds F') I ⟨F0,H0,F,at_,fun J F' H' x q=>⟨F',x,q⟩⟩) fun v s1 h1=>thn h1 fun itv s2 h2=>?_)
   obtain ⟨it,fp,tn,J,H1,rfl,I2,W,st2,f2,F1,x1,itd⟩:=h2
   have hfl:∀ b ∈ fp,b < s2.heap.objs.size:=fun b hb=>let ⟨o,ho,_⟩:=W.obj 0 _ st2 b hb; Heap.lt_size ho
   refine wpAny_newObj_type (wpAny_newFunctionEnv T.cell (by intro y hy; simp at hy) (fun h1 hns hsb=>?_) T.kind)
   dsimp only at hns hsb ⊢
   generalize hP:s2.heap.push { cls:=.type "list",dict:=none,data:=.seq ([]:List Value).toArray } = h0 at hns hsb ⊢
   have hsz:h0.objs.size = s2.heap.objs.size + 1:=by rw [<- hP,Heap.size_push]
   have hDC:s2.heap.objs.size < h0.objs.size:=by rw [hsz]; exact Nat.lt_succ_self _
   have old:∀ b o,s2.heap.get? b = some o->h1.get? b = some o:=fun b o e =>
    hsb.extBut b o (Nat.ne_of_lt (Nat.lt_trans (Heap.lt_size e) hDC)) (Heap.get?_push_of_some _ (by rw [<- hP]; exact Heap.get?_push_of_some _ e))
   have hl:h1.get? s2.heap.objs.size = some { cls:=.type "list",data:=.seq #[] 0 }:=hsb.extBut _ _ (Nat.ne_of_lt hDC) (Heap.get?_push_of_some _ (by rw [<- hP]; exact Heap.get?_push_size _ rfl))
   have I4:Inv (Z3 X N scope cl h0.objs.size s2 H1 fp) [] (List.replicate fr.length none ++ σ) (upd H1 s2.heap.objs.size (.lst [])) { s2 with heap:=h1,toks:=s2.toks + ([]:List (Str × Value)).length }:=Zoc T hcl hfr I2 hcalm f2 hfl rfl hDC hns hl old
   have tn1:tn 0 h1:=W.keep _ _ _ st2 fun b _ o e=>old b o e
   have hHsD:H s2.heap.objs.size = none:=x1.hh.free (I2.hok.fresh (Nat.le_refl _))
   have loop:codeAny (model X.prog X.w) X.A (.compLoop (.ListComp elt [⟨tg,iter,ifs,0⟩] scope pos) 0 (.ref it) (.ref s2.heap.objs.size) (compEnvC scope cl h0.objs.size X.env)) (compPost (model X.prog X.w) X.A X.xe none (EP X pins σ Q) (.ref s2.heap.objs.size) h0.objs.size)
     { s2 with heap:=h1,toks:=s2.toks + ([]:List (Str × Value)).length }:=by
    refine ZnS T I2 W f2 I4 tn1 (Nat.le_refl _) hfl hcalm (hc _ _ _ _ _) (he _ _ _ _ _) at_ x1 itd (hbind _ _ _ _ _) hbig hgo fun s' ⟨F',H',vs,I',x',hD',hFD',rs⟩=>?_
    obtain ⟨m,hn,_⟩:=id I'.loc
    refine ⟨m,hn,fun h2 hs2=>⟨.ref s2.heap.objs.size,H',Zny I2 f2 (Nat.le_of_lt hDC) I' hs2,rfl,k _ F' H' x' ⟨[s2.heap.objs.size],.ol hD' rs,by simp,fun a ha=>?_⟩⟩⟩
    obtain rfl:a = s2.heap.objs.size:=by simpa using ha
    exact ⟨hFD',hHsD⟩
   exact codeAny_compStart_list loop (W.self _ 0 _ _ _ tn1 loop)
  ·cases h
 ·cases h
theorem ZjO (i:Nat) {y:Str} {py spos:Pos} (hN:X.N.Nodup) (hxe:X.xe = fun _ _=>False) (hcalm:X.calm = true) (T:Zef X N scope fr) (hbind:∀ cl C s H ex,Zi6 (Z3 X N scope cl C s H ex) fr.length tg dec) (hi:XI X tg iter fi) (hc:∀ cl C s H ex,XTs (Z3 X N scope cl C s H ex) ifs fc) (he:∀ cl C s H ex,XE (Z3 X N scope cl C s H ex) elt fe)
  (hiy:X.N[i]? = some y:=by rfl) (hy:X.env.scope.names.lookup y = some .local:=by rfl) (hsw:swapsWith (.ListComp elt [⟨tg,iter,ifs,0⟩] scope pos) (some (.Name y py)) spos.line X.env = pure true:=by rfl)
  (hs:∀ x,foldedSetIterable iter X.env x = pure x:=by intro _; rfl):XS X (.Assign [.Name y py] (.ListComp elt [⟨tg,iter,ifs,0⟩] scope pos) spos) (HM.Zac i (Zgi dec fi fc fe)):=by
 intro r o h
 obtain ⟨b,hb,e⟩:=Option.map_eq_some_iff.mp h
 subst e
 unfold Zgi at hb
 split at hb
 ·rename_i ds hds
  split at hb
  ·rename_i hbig
   obtain ⟨out,hgo,e⟩:=Option.map_eq_some_iff.mp hb
   subst e
   intro pins s σ H E I ⟨F0,H0,F,at_,k⟩
   obtain ⟨cl,hclos,hcl,hfr⟩:=ZiG (Zng T I)
   rw [exec_Assign_Name_used _ _ _ _ hsw]
   refine wpAny_bind (wpAny_standAt (wpAny_bind ?_))
   show wpAny _ X.A (do let _ <- comprehension (.ListComp elt [⟨tg,iter,ifs,0⟩] scope pos) scope X.env _ (newList []) false (eval iter X.env) (some (assign (.Name y py) X.env))) _ _ s
   refine wpAny_bind (wpAny_mono (wpAny_comprehension_free (use:=some (assign (.Name y py) X.env)) (Q:=fun _ s'=>SP X pins E .next s') rfl hs hclos T.kind T.names (thn (hi r ds hds pins s σ H (fun J H'=>∃ F',Ext F H F' H'/\ItD X.K J ds F') I ⟨F0,H0,F,at_,fun J F' H' x q=>⟨F',x,q⟩⟩) fun v s1 h1=>thn h1 fun itv s2 h2=>?_)) (fun _ s' hq=>wpAny_pure (wpAny_pure hq)) fun _ _ e=>e)
   obtain ⟨it,fp,tn,J,H1,rfl,I2,W,st2,f2,F1,x1,itd⟩:=h2
   have hfl:∀ b ∈ fp,b < s2.heap.objs.size:=fun b hb=>let ⟨o,ho,_⟩:=W.obj 0 _ st2 b hb; Heap.lt_size ho
   refine wpAny_newObj_type (wpAny_newFunctionEnv T.cell (by intro y hy; simp at hy) (fun h1 hns hsb=>?_) T.kind)
   dsimp only at hns hsb ⊢
   generalize hP:s2.heap.push { cls:=.type "list",dict:=none,data:=.seq ([]:List Value).toArray } = h0 at hns hsb ⊢
   have hsz:h0.objs.size = s2.heap.objs.size + 1:=by rw [<- hP,Heap.size_push]
   have hDC:s2.heap.objs.size < h0.objs.size:=by rw [hsz]; exact Nat.lt_succ_self _
   have old:∀ b o,s2.heap.get? b = some o->h1.get? b = some o:=fun b o e =>
    hsb.extBut b o (Nat.ne_of_lt (Nat.lt_trans (Heap.lt_size e) hDC)) (Heap.get?_push_of_some _ (by rw [<- hP]; exact Heap.get?_push_of_some _ e))
   have hl:h1.get? s2.heap.objs.size = some { cls:=.type "list",data:=.seq #[] 0 }:=hsb.extBut _ _ (Nat.ne_of_lt hDC) (Heap.get?_push_of_some _ (by rw [<- hP]; exact Heap.get?_push_size _ rfl))
   have I4:Inv (Z3 X N scope cl h0.objs.size s2 H1 fp) [] (List.replicate fr.length none ++ σ) (upd H1 s2.heap.objs.size (.lst [])) { s2 with heap:=h1,toks:=s2.toks + ([]:List (Str × Value)).length }:=Zoc T hcl hfr I2 hcalm f2 hfl rfl hDC hns hl old
   have tn1:tn 0 h1:=W.keep _ _ _ st2 fun b _ o e=>old b o e
   have hHsD:H s2.heap.objs.size = none:=x1.hh.free (I2.hok.fresh (Nat.le_refl _))
   have loop:codeAny (model X.prog X.w) X.A (.compLoop (.ListComp elt [⟨tg,iter,ifs,0⟩] scope pos) 0 (.ref it) (.ref s2.heap.objs.size) (compEnvC scope cl h0.objs.size X.env)) (compPost (model X.prog X.w) X.A X.xe (some (assign (.Name y py) X.env)) (fun _ s'=>SP X pins E .next s') (.ref s2.heap.objs.size) h0.objs.size)
     { s2 with heap:=h1,toks:=s2.toks + ([]:List (Str × Value)).length }:=by
    refine ZnS T I2 W f2 I4 tn1 (Nat.le_refl _) hfl hcalm (hc _ _ _ _ _) (he _ _ _ _ _) at_ x1 itd (hbind _ _ _ _ _) hbig hgo fun s' ⟨F',H',vs,I',x',hD',hFD',rs⟩=>?_
    obtain ⟨m,hn,_⟩:=id I'.loc
    have IX:Inv X pins σ H' s':=Zny (h':=s'.heap) I2 f2 (Nat.le_of_lt hDC) I' (Heap.SameBut.refl _ _)
    have hCn:H' h0.objs.size = none:=I'.free
    have neL:h0.objs.size ≠ X.env.locals:=Nat.ne_of_gt (Nat.lt_trans I2.lt hDC)
    have neC:∀ z c,X.env.cells.lookup z = some c->c ≠ h0.objs.size:=fun z c hz=>by
     obtain ⟨v,o,ho,_⟩:=I2.cell z c hz
     exact Nat.ne_of_lt (Nat.lt_trans (Heap.lt_size ho) hDC)
    have neP:∀ p ∈ X.pn ++ pins,p.1 ≠ h0.objs.size:=fun p hp=>Nat.ne_of_lt (Nat.lt_trans (Heap.lt_size (I2.pin p hp).1) hDC)
    show wpAny _ X.A (assign (.Name y py) X.env (.ref s2.heap.objs.size)) _ _ _
    refine wpAny_assign_Name (ZlG IX hN hiy (.inl hy) (v:=.ref s2.heap.objs.size) rfl (fun s3 I3 hsa=>?_) (.inr hy))
    obtain ⟨a,sa,ea⟩:=hsa
    have neA:h0.objs.size ≠ a:=by
     rcases ea with e | e
     ·rw [e]; exact neL
     ·exact Ne.symm (neC _ _ e)
    refine ⟨m,hn.sameBut sa neA,fun h2 hs2=>?_⟩
    refine ⟨_,H',I3.turned (t':=s3.toks) (it:=h0.objs.size) (fun b o hb e=>(hs2.2 b hb).trans e) hCn neL (.inr (Nat.le_trans I2.sz (Nat.le_of_lt hDC))) neC neP,k _ F' H' ((at_.grow x').storeNew at_ x'.hh (fp':=[s2.heap.objs.size]) (.ol hD' rs) (by simp) fun a ha=>?_)⟩
    obtain rfl:a = s2.heap.objs.size:=by simpa using ha
    exact ⟨hFD',hHsD⟩
   exact codeAny_compStart_list loop (W.self _ 0 _ _ _ tn1 loop)
  ·cases hb
 ·cases hb
end
end HP
namespace HP
open PySem PySem.Spec PyProof.Rows L2
def Zsq (d:PyData):Option (List PyData):=some [d]
def Zlk:PyData->Option (List PyData)
 | .tuple [x,y]=>some [x,y]
 | _=>none
theorem ZuY (c:HM.TF) (e:HM.EF) (r:HM.Env):∀ xs,HM.ZaM c e r xs = goG Zsq c e r xs
  | []=>rfl
  | x :: xs => by
    unfold HM.ZaM goG
    rw [ZuY c e r xs]
    rfl
theorem ZuX (c:HM.TF) (e:HM.EF) (r:HM.Env):∀ xs,HM.ZcV c e r xs = goG Zlk c e r xs
  | []=>rfl
  | x :: xs => by
    have ih:=ZuX c e r xs
    unfold HM.ZcV goG
    split
    · rename_i h; cases h
    · rename_i a b q h
      cases h
      rw [ih]
      rfl
    · rename_i h1
      have hn:Zlk x = none:=by
        unfold Zlk
        split
        · exact (h1 _ _ _ rfl).elim
        · rfl
      rw [hn]
theorem Zo6 (i:HM.IF) (c:HM.TF) (e:HM.EF):HM.ZT i c e = Zgi Zsq i c e:=by
 funext r
 unfold HM.ZT Zgi
 cases i r with
 | none=>rfl
 | some xs=>dsimp only; rw [ZuY]
theorem ZoY (i:HM.IF) (c:HM.TF) (e:HM.EF):HM.Zdg i c e = Zgi Zlk i c e:=by
 funext r
 unfold HM.Zdg Zgi
 cases i r with
 | none=>rfl
 | some xs=>dsimp only; rw [ZuX]
theorem ZsM {K:PySem.W.Frag} {F:Hp} {d1 d2:PyData} {v:V} (h:Rep K F (.tuple [d1,d2]) v):∃ a v1 v2,v = .ref a/\F a = some (.tup [v1,v2])/\Rep K F d1 v1/\Rep K F d2 v2:=by
  cases h with
  | @tup a ds vs h1 h2 h3 =>
    cases vs with
    | nil=>simp at h2
    | cons v1 vs => cases vs with
      | nil=>simp at h2
      | cons v2 vs => cases vs with
        | nil=>exact ⟨a,v1,v2,rfl,h1,h3 0 _ _ rfl rfl,h3 1 _ _ rfl rfl⟩
        | cons _ _=>simp at h2
section
variable {X:Cx} {N:List Str} {scope:Scope} {x x2:Str} {px px2 pt:Pos} {kt:Nat}
theorem Zrf (T:Zef X N scope [x]) (cl:List (Str × Addr)) (C:Addr) (s₀:Shared) (H₀:Hp) (ex:List Addr):Zi6 (Z3 X N scope cl C s₀ H₀ ex) 1 (.Name x px) Zsq:=by
  intro pins s σ sv H F d ys xv u hsv I r sub q hd
  cases hd
  have hx:=T.loc x (List.mem_singleton.mpr rfl)
  refine thn (ZjA (X:=Z3 X N scope cl C s₀ H₀ ex) (i:=0) T.nd (T.first 0 x rfl) (.inl (lookup_relabel_local hx)) (.inr (lookup_relabel_local hx)) _ s _ H xv u (fun σ' H'=>σ' = (sv ++ σ).set 0 (some xv)/\H' = H) I r ⟨rfl,rfl⟩) fun _ s' ⟨σ',H',I',e1,e2⟩=>?_
  subst e1 e2
  refine ⟨[xv],rfl,?_,.one q⟩
  cases sv with
  | nil=>simp at hsv
  | cons a sv => cases sv with
    | nil=>exact I'
    | cons _ _=>simp at hsv
theorem ZqB (T:Zef X N scope [x,x2]) (cl:List (Str × Addr)) (C:Addr) (s₀:Shared) (H₀:Hp) (ex:List Addr):Zi6 (Z3 X N scope cl C s₀ H₀ ex) 2 (.Tuple [.Name x px,.Name x2 px2] kt pt) Zlk:=by
  intro pins s σ sv H F d ys xv u hsv I r sub q hd
  have hx:=T.loc x (List.mem_cons_self ..)
  have hx2:=T.loc x2 (List.mem_cons_of_mem _ (List.mem_cons_self ..))
  unfold Zlk at hd
  split at hd
  · rename_i d1 d2
    cases hd
    obtain ⟨pa,v1,v2,e7,hpa,rx1,rx2⟩:=ZsM q
    subst e7
    refine thn (Zuc (X:=Z3 X N scope cl C s₀ H₀ ex) (n:=2) rfl (ZmX (ZjA (X:=Z3 X N scope cl C s₀ H₀ ex) (i:=0) T.nd (T.first 0 x rfl) (.inl (lookup_relabel_local hx)) (.inr (lookup_relabel_local hx))) (ZmX (ZjA (X:=Z3 X N scope cl C s₀ H₀ ex) (i:=1) T.nd (T.first 1 x2 rfl) (.inl (lookup_relabel_local hx2)) (.inr (lookup_relabel_local hx2))) ZtV)) rfl rfl _ s _ H (.ref pa) u (fun σ' H'=>σ' = ((sv ++ σ).set 0 (some v1)).set 1 (some v2)/\H' = H) I r ⟨pa,[v1,v2],rfl,.of (sub _ _ hpa),rfl,v1,[v2],rfl,v2,[],rfl,rfl,rfl,rfl⟩) fun _ s' ⟨σ',H',I',e1,e2⟩=>?_
    subst e1 e2
    refine ⟨[v1,v2],rfl,?_,.cons rx1 (.one rx2)⟩
    cases sv with
    | nil=>simp at hsv
    | cons a sv => cases sv with
      | nil=>simp at hsv
      | cons b sv => cases sv with
        | nil=>exact I'
        | cons _ _=>simp at hsv
  · cases hd
def ZqE (kinds:Str->Option NameKind) (XN N:List Str) (names:List (Str × NameKind)) (fr:List Str):Bool :=
 names.all (fun y=>y.2 != .cell) && names.all (fun y=>y.2 != .local || names.lookup y.1 == some .local) && fr.all (fun x=>names.lookup x == some .local) && (List.range fr.length).all (fun i=>N[i]? == fr[i]?) && decide N.Nodup && N.length == XN.length + fr.length &&
 names.all (fun y=>y.2 != .free || kinds y.1 == some .cell || kinds y.1 == some .free) &&
 (List.range (N.length - fr.length)).all (fun i=>match N[i + fr.length]? with
  | some y=>(names.lookup y != some .free || XN[i]? == some y) && (names.lookup y == some .free || (names.lookup y != some .local && names.lookup y != some .cell))
  | none=>true)
theorem ZF {X:Cx} {N XN:List Str} {scope sc:Scope} {fr:List Str} (hs:X.env.scope = sc:=by rfl) (hN:X.N = XN:=by rfl) (hk:scope.kind = .function:=by rfl) (h:ZqE (fun y=>sc.names.lookup y) XN N scope.names fr = true:=by decide +kernel):Zef X N scope fr:=by
 subst hN
 unfold ZqE at h
 simp only [Bool.and_eq_true,List.all_eq_true,Bool.or_eq_true,bne_iff_ne,beq_iff_eq,decide_eq_true_eq] at h
 obtain ⟨⟨⟨⟨⟨⟨⟨h1,h2⟩,h3⟩,h4⟩,h5⟩,h6⟩,h7⟩,h8⟩:=h
 have at_:∀ (i:Nat) (y:Str),N[i + fr.length]? = some y->(scope.names.lookup y ≠ some .free\/X.N[i]? = some y)/\(scope.names.lookup y = some .free\/(scope.names.lookup y ≠ some .local/\scope.names.lookup y ≠ some .cell)):=fun i y e=>by
  have hi:i + fr.length < N.length:=(List.getElem?_eq_some_iff.mp e).1
  have:=h8 i (List.mem_range.mpr (by omega))
  rw [e] at this
  simpa only [Bool.and_eq_true,Bool.or_eq_true,bne_iff_ne,beq_iff_eq] using this
 refine ⟨hk,h1,fun y hy e=>(h2 y hy).resolve_left (fun z=>z e),h3,fun i x e=>?_,h5,h6,fun y hy e=>?_,fun i y e q=>(at_ i y e).1.resolve_left (fun z=>z q),fun i y e v=>?_⟩
 ·rw [h4 i (List.mem_range.mpr (List.getElem?_eq_some_iff.mp e).1)]
  exact e
 ·have:=h7 y hy
  rw [show X.env.kindOf y.1 = sc.names.lookup y.1 by rw [<- hs]; rfl]
  rcases this with (z | z) | z
  ·exact absurd e z
  ·exact .inl z
  ·exact .inr z
 ·rcases (at_ i y e).2 with z | ⟨z1,z2⟩
  ·exact z
  ·rcases v with v | v | v
   ·exact absurd v z1
   ·exact absurd v z2
   ·exact v
variable {elt iter:Expr} {ifs:List Expr} {pos:Pos} {fi:HM.IF} {fc:HM.TF} {fe:HM.EF}
theorem Zas (hxe:X.xe = fun _ _=>False) (hcalm:X.calm = true) (T:Zef X N scope [x]) (hi:XI X (.Name x px) iter fi) (hc:∀ cl C s H ex,XTs (Z3 X N scope cl C s H ex) ifs fc) (he:∀ cl C s H ex,XE (Z3 X N scope cl C s H ex) elt fe)
  (hs:∀ x,foldedSetIterable iter X.env x = pure x:=by intro _; rfl):XF X (.ListComp elt [⟨.Name x px,iter,ifs,0⟩] scope pos) (HM.ZT fi fc fe):=by
 rw [Zo6]
 exact ZmB hxe hcalm T (Zrf T) hi hc he hs
theorem Zj7 (hxe:X.xe = fun _ _=>False) (hcalm:X.calm = true) (T:Zef X N scope [x,x2]) (hi:XI X (.Tuple [.Name x px,.Name x2 px2] kt pt) iter fi) (hc:∀ cl C s H ex,XTs (Z3 X N scope cl C s H ex) ifs fc) (he:∀ cl C s H ex,XE (Z3 X N scope cl C s H ex) elt fe)
  (hs:∀ x,foldedSetIterable iter X.env x = pure x:=by intro _; rfl):XF X (.ListComp elt [⟨.Tuple [.Name x px,.Name x2 px2] kt pt,iter,ifs,0⟩] scope pos) (HM.Zdg fi fc fe):=by
 rw [ZoY]
 exact ZmB hxe hcalm T (ZqB T) hi hc he hs
theorem Zgw (i:Nat) {y:Str} {py spos:Pos} (hN:X.N.Nodup) (hxe:X.xe = fun _ _=>False) (hcalm:X.calm = true) (T:Zef X N scope [x]) (hi:XI X (.Name x px) iter fi) (hc:∀ cl C s H ex,XTs (Z3 X N scope cl C s H ex) ifs fc) (he:∀ cl C s H ex,XE (Z3 X N scope cl C s H ex) elt fe)
  (hiy:X.N[i]? = some y:=by rfl) (hy:X.env.scope.names.lookup y = some .local:=by rfl) (hsw:swapsWith (.ListComp elt [⟨.Name x px,iter,ifs,0⟩] scope pos) (some (.Name y py)) spos.line X.env = pure true:=by rfl)
  (hs:∀ x,foldedSetIterable iter X.env x = pure x:=by intro _; rfl):XS X (.Assign [.Name y py] (.ListComp elt [⟨.Name x px,iter,ifs,0⟩] scope pos) spos) (HM.Zac i (HM.ZT fi fc fe)):=by
 rw [Zo6]
 exact ZjO i hN hxe hcalm T (Zrf T) hi hc he hiy hy hsw hs
theorem ZjP (i:Nat) {y:Str} {py spos:Pos} (hN:X.N.Nodup) (hxe:X.xe = fun _ _=>False) (hcalm:X.calm = true) (T:Zef X N scope [x,x2]) (hi:XI X (.Tuple [.Name x px,.Name x2 px2] kt pt) iter fi) (hc:∀ cl C s H ex,XTs (Z3 X N scope cl C s H ex) ifs fc) (he:∀ cl C s H ex,XE (Z3 X N scope cl C s H ex) elt fe)
  (hiy:X.N[i]? = some y:=by rfl) (hy:X.env.scope.names.lookup y = some .local:=by rfl) (hsw:swapsWith (.ListComp elt [⟨.Tuple [.Name x px,.Name x2 px2] kt pt,iter,ifs,0⟩] scope pos) (some (.Name y py)) spos.line X.env = pure true:=by rfl)
  (hs:∀ x,foldedSetIterable iter X.env x = pure x:=by intro _; rfl):XS X (.Assign [.Name y py] (.ListComp elt [⟨.Tuple [.Name x px,.Name x2 px2] kt pt,iter,ifs,0⟩] scope pos) spos) (HM.Zac i (HM.Zdg fi fc fe)):=by
 rw [ZoY]
 exact ZjO i hN hxe hcalm T (ZqB T) hi hc he hiy hy hsw hs
end
end HP
namespace HP
open PySem PySem.Spec PyProof.Rows L2
section
variable {prog:Program} {w:World} {K:Type} [DecidableEq K] {knd:HeapKind prog w K} {A:Around} {E:Value->Shared->Prop} {s:Shared}
theorem Zlb {d a:Addr} {xs:List (K × Addr × Value)} {k:K} {v:Value} {Q:Value->Shared->Prop} (hu:knd.room A) (hkey:knd.is s.heap k a) (hm:s.heap.DictOfH knd d xs) (hsz:xs.length <= sizeLine)
  (h1:∀ p,atKey xs k = some p->Q p.2 { s with toks:=s.toks + knd.draws k })
  (h2:atKey xs k = none->∀ h',h'.DictOfH knd d (storedH xs k a v)->Heap.SameBut d s.heap h'->Q v { s with heap:=h',toks:=s.toks + knd.draws k }) :
  wpAny (model prog w) A (dictSetDefault d (.ref a) v) Q E s:=by
 obtain ⟨o,es,ep,ho,hc,hd,he,his,hn⟩:=hm
 unfold dictSetDefault
 try with_reducible refine wpAny_holding ?_
 refine wpAny_bind (knd.pyHash hu hkey ?_)
 refine wpAny_bind (wpAny_dictFind_heap (s:={ s with toks:=s.toks + knd.draws k }) hu hkey ho hd he his hn ?_ ?_)
 ·intro hno
  have hnot:k ∉ xs.map (·.1):=not_mem_keys_of_get hno
  have hnk:=atKey_none_of_get hno
  refine wpAny_bind (wpAny_rule (wpAny_bind (wpAny_updateDictKeys (hz:=by have e:=size_of_entries he; omega) (s:={ s with toks:=s.toks + knd.draws k }) ho hd (wpAny_pure (h2 hnk _ ⟨_,_,ep + 1,Heap.get?_update_self _ ho (Obj.isFreed_of_dict (Obj.data_mapDictKeys hd _)),
   hc.mapDictKeys _,Obj.data_mapDictKeys hd _,?_,?_,?_⟩ (Heap.SameBut.update ..))))))
  ·rw [storedH_new hnk]
   simp [he,entryOfKey]
  ·rw [storedH_new hnk]
   intro x hx
   rcases List.mem_append.mp hx with hx | hx
   ·exact knd.keeps (his x hx) ho hd (Heap.SameBut.update ..)
   ·simp only [List.mem_singleton] at hx
    subst hx
    exact knd.keeps hkey ho hd (Heap.SameBut.update ..)
  ·rw [storedH_new hnk]
   rw [List.map_append,List.nodup_append]
   refine ⟨hn,by simp,?_⟩
   intro x hx y hy
   simp only [List.map_cons,List.map_nil,List.mem_singleton] at hy
   subst hy
   exact fun e=>hnot (e ▸ hx)
 ·intro j p hj
  refine wpAny_bind (wpAny_dictEntries (s:={ s with toks:=s.toks + knd.draws k }) ho hd ?_)
  rw [entry_at he j,hj]
  exact wpAny_bind (wpAny_rule (wpAny_pure (h1 p (atKey_of_get hn hj))))
theorem ZjM (d a:Addr) (hd:(d == sysModules) = false) (dflt:Value) :
  MeetsIn prog w (Builtin.«dict.setdefault» ⟨[.ref d,.ref a,dflt],[]⟩) (fun A R s=>knd.room A.in1/\∃ k xs,knd.is s.heap k a/\s.heap.DictOfH knd d xs/\xs.length <= sizeLine /\
   (∀ p,atKey xs k = some p->R (.ok (.ret p.2)) { s with toks:=s.toks + knd.draws k }) /\
   (atKey xs k = none->∀ h',h'.DictOfH knd d (storedH xs k a dflt)->Heap.SameBut d s.heap h'->R (.ok (.ret dflt)) { s with heap:=h',toks:=s.toks + knd.draws k })) :=
 .of_wp fun A R s ⟨hu,k,xs,hkey,hm,hz,h1,h2⟩=>by
  unfold Builtin.«dict.setdefault»
  refine wpAny_bind ?_
  unfold Builtin.Dict.keyAndDefault
  refine wpAny_bind (wpAny_notOrdered_dict hm.typeIs ?_)
  show wpAny _ _ (pure (d,Value.ref a,some dflt)) _ _ s
  refine wpAny_pure ?_
  show wpAny _ _ (if (d == sysModules) = true then _ else (dictSetDefault d (.ref a) dflt >>= _)) _ _ s
  rw [if_neg (by rw [hd]; exact Bool.false_ne_true)]
  exact wpAny_bind (Zlb hu hkey hm hz (fun p hp=>wpAny_pure ⟨p.2,rfl,h1 p hp⟩) fun hn h' hm' hs'=>wpAny_pure ⟨dflt,rfl,h2 hn h' hm' hs'⟩)
end
section
variable {X:Cx} {pins:List (Addr × Obj)} {σ:L2.St} {H:Hp} {s:Shared} {a b:Addr} {z:V} {r:Value} {A:Around} {E:Value->Shared->Prop} {kvs:List (List Key × V)} {k:List Key}
theorem Zus {Q:Value->Shared->Prop} (hu:A.units + 1 < cLine) (I:Inv X pins σ H s) (e:H a = some (.dT kvs)) (eb:H b = some (.tup (k.map kV))) (hl:kvs.length < sizeLine) (rz:RelV z r)
  (h1:∀ v,ZaL kvs k = some v->∀ w' s',Inv X pins σ H s'->RelV v w'->Q w' s') (h2:ZaL kvs k = none->∀ s',Inv X pins σ (upd H a (.dT (kvs ++ [(k,z)]))) s'->Q r s') :
  wpAny (model X.prog X.w) A (call (.builtin "dict.setdefault") [.ref a,.ref b,r]) Q E s:=by
 obtain ⟨zz,hd,xs,rel,dd⟩:=ZsZ I.hok e
 have hz:xs.length <= sizeLine:=by rw [<- Paired.length rel]; exact zz
 have hv:=rel.val k
 refine call_meetsIn PySem.F.slot_dict_setdefault dd.typeIs PySem.F.entry_dict_setdefault (PySem.F.args_dict_setdefault_3 _ _ _) (ZjM (knd:=tupleKind (Zau X.prog X.w)) a b hd r) ⟨tupleKind_room_in1 hu,k,xs,Zg9 I.hok eb,dd,hz,fun p hp=>?_,fun hn h' dd' hs=>?_⟩
 ·rw [hp] at hv
  cases hvv:ZaL kvs k with
  | none=>rw [hvv] at hv; exact hv.elim
  | some v=>rw [hvv] at hv; exact h1 v hvv _ _ (I.tok _) hv
 ·rw [hn] at hv
  have hvv:ZaL kvs k = none:=by
   cases hvv:ZaL kvs k with
   | none=>rfl
   | some v=>rw [hvv] at hv; exact hv.elim
  refine h2 hvv _ ?_
  have hp:=rel.put k eb rz
  have epk:putK kvs k z = kvs ++ [(k,z)]:=by
   unfold putK
   rw [if_neg]
   rw [Zim,hvv]
   simp
  rw [epk] at hp
  obtain ⟨q,es,ep,hq,g2,g3,g4,_,g5⟩:=dd'
  refine Zjp I (by rw [e]; exact True.intro) hs ⟨q,hq⟩ ⟨by rw [List.length_append]; exact hl,hd,_,hp.keeps fun c ys ec=>?_,q,es,ep,hq,g2,g3,g4,g5⟩
  rw [ZG (Zs0 ec e (fun z=>nomatch z))]
  exact ec
end
def Zwf (td ty tx:TE):TE:=fun σ H Q=>td σ H fun x H1=>∃ a,x = .ref a/\IsD H1 a/\ty σ H1 fun y H2=>tx σ H2 fun z H3=>∃ kvs k b,H3 a = some (.dT kvs)/\y = .ref b/\H3 b = some (.tup (k.map kV))/\kvs.length < sizeLine /\
 (∀ v,ZaL kvs k = some v->Q v H3)/\(ZaL kvs k = none->Q z (upd H3 a (.dT (kvs ++ [(k,z)]))))
section
variable {X:Cx} {o e f:Expr} {apos cpos:Pos} {td ty tx:TE}
theorem Zuz (hu:X.A.units + 1 < cLine) (ho:PE X o td) (he:PE X e ty) (hf:PE X f tx) (m:M2 X o "setdefault" apos e f cpos):PE X (.Call (.Attribute o "setdefault" apos) [e,f] [] cpos) (Zwf td ty tx):=by
 intro pins s σ H Q I h
 refine wpAny_Call_method m.base m.few m.line PySem.F.plainAttrs_dict PySem.F.slot_dict_setdefault PySem.F.type_dict_setdefault (thn (ho pins s σ H _ I h) fun u s1 ⟨x,H1,I1,rx,a,ex,d,q1⟩=>?_)
 subst ex
 obtain rfl:u = Value.ref a:=rx
 obtain ⟨t1,t2,_⟩:=Zqx I1 d
 refine ⟨t1,t2,?_⟩
 rw [m.trees]
 refine Calls.callWith_builtin rfl (Calls.evalArgs_plain (Calls.spliced_cons (thn (he pins s1 σ H1 _ I1 q1) fun iv s2 ⟨y,H2,I2,ry,q2⟩ =>
  Calls.spliced_cons (thn (hf pins s2 σ H2 _ I2 q2) fun fv s3 ⟨z,H3,I3,rz,kvs,k,b,ea,ey,eb,hl,q3,q4⟩=>Calls.spliced_nil ?_))))
 subst ey
 obtain rfl:iv = Value.ref b:=ry
 exact Zus hu I3 ea eb hl rz (fun v hv w' s4 I4 rw'=>⟨v,H3,I4,rw',q3 v hv⟩) fun hn s4 I4=>⟨z,_,I4,rz,q4 hn⟩
end
def OT (K:PySem.W.Frag) (F H:Hp) (kvs:List (List Key × List PyData)) (vvs:List (List Key × V)) (ls:List Addr):Prop:=kvs.map (·.1) = vvs.map (·.1)/\vvs.map (·.2) = ls.map V.ref /\
 ∀ (i:Nat) (ds:List PyData) (l:Addr),(kvs.map (·.2))[i]? = some ds->ls[i]? = some l->∃ vs,H l = some (.lst vs)/\ZC K F ds vs
section
variable {K:PySem.W.Frag} {F F' H H':Hp} {kvs:List (List Key × List PyData)} {vvs:List (List Key × V)} {ls:List Addr}
theorem OT.len (q:OT K F H kvs vvs ls):kvs.length = ls.length/\kvs.length = vvs.length:=by
 have e1:=congrArg List.length q.1
 have e2:=congrArg List.length q.2.1
 rw [List.length_map,List.length_map] at e1 e2
 omega
theorem OT.mono (q:OT K F H kvs vvs ls) (s:Zw F F') (k:∀ a ∈ ls,∀ o,H a = some o->H' a = some o):OT K F' H' kvs vvs ls :=
 ⟨q.1,q.2.1,fun i ds l h1 h2=>let ⟨vs,q1,q2⟩:=q.2.2 i ds l h1 h2; ⟨vs,k l (List.mem_of_getElem? h2) _ q1,q2.mono s⟩⟩
theorem OT.snoc (q:OT K F H kvs vvs ls) (k:List Key) {p:Addr} (hp:H p = some (.lst [])):OT K F H (kvs ++ [(k,[])]) (vvs ++ [(k,.ref p)]) (ls ++ [p]):=by
  refine ⟨by rw [List.map_append,List.map_append,q.1]; rfl,by rw [List.map_append,List.map_append,q.2.1]; rfl,fun i ds l h1 h2=>?_⟩
  have hl:=q.len
  rw [List.map_append] at h1
  by_cases hi:i < kvs.length
  · rw [List.getElem?_append_left (by rw [List.length_map]; exact hi)] at h1
    rw [List.getElem?_append_left (by omega)] at h2
    exact q.2.2 i ds l h1 h2
  · rw [List.getElem?_append_right (by rw [List.length_map]; omega), List.length_map] at h1
    rw [List.getElem?_append_right (by omega),<- hl.1] at h2
    cases hj:i - kvs.length with
    | zero =>
      rw [hj] at h1 h2
      cases h1; cases h2
      exact ⟨[],hp,.nil⟩
    | succ j=>rw [hj] at h1; cases h1
theorem OT.look (q:OT K F H kvs vvs ls) (k:List Key):(∀ ds,HM.Ze kvs k = some ds->∃ l' vs,ZaL vvs k = some (.ref l')/\l' ∈ ls/\H l' = some (.lst vs)/\ZC K F ds vs)/\(HM.Ze kvs k = none->ZaL vvs k = none):=Zkt k kvs vvs ls q.1 q.2.1 q.2.2
theorem OT.app (k:List Key) {d:PyData} {v:V}:∀ {kvs:List (List Key × List PyData)} {vvs:List (List Key × V)} {ls:List Addr},OT K F H kvs vvs ls->ls.Nodup->Rep K F d v->∀ {l':Addr} {vs:List V},ZaL vvs k = some (.ref l')->H l' = some (.lst vs) ->
    OT K F (upd H l' (.lst (vs ++ [v]))) (HM.ZdY kvs k d) vvs ls
  | [],[],_,q,_,_,l',vs,hv,_=>by cases hv
  | [],_ :: _,_,q,_,_,_,_,_,_=>by have:=q.len; simp at this
  | _ :: _,[],_,q,_,_,_,_,_,_=>by have:=q.len; simp at this
  | _ :: _,_ :: _,[],q,_,_,_,_,_,_=>by have:=q.len; simp at this
  | (k1, ds1) :: kvs, (k2, v2) :: vvs, l1 :: ls, q, nd, rd, l', vs, hv, hl => by
    obtain ⟨q1,q2,q3⟩:=q
    rw [List.map_cons,List.map_cons] at q1 q2
    injection q1 with e1 e2
    injection q2 with e3 e4
    have e1:k1 = k2:=e1
    have e3:v2 = .ref l1:=e3
    subst e1 e3
    have rest:OT K F H kvs vvs ls:=⟨e2,e4,fun i ds l h1 h2=>q3 (i + 1) ds l (by simpa using h1) (by simpa using h2)⟩
    obtain ⟨n1,n2⟩:=List.nodup_cons.mp nd
    obtain ⟨us,f1,f2⟩:=q3 0 ds1 l1 rfl rfl
    unfold HM.ZdY
    by_cases hk:k1 = k
    · rw [if_pos hk]
      rw [ZeW (p:=(k1,V.ref l1)) hk] at hv
      cases hv
      rw [hl] at f1
      cases f1
      refine ⟨by rw [List.map_cons,List.map_cons,e2],by rw [List.map_cons,List.map_cons,e4],fun i ds l h1 h2=>?_⟩
      cases i with
      | zero =>
        cases h1; cases h2
        exact ⟨_,ZP,f2.append (.one rd)⟩
      | succ i =>
        rw [List.map_cons,List.getElem?_cons_succ] at h1
        rw [List.getElem?_cons_succ] at h2
        obtain ⟨us,g1,g2⟩:=rest.2.2 i ds l h1 h2
        exact ⟨us,by rw [ZG (fun z=>n1 (by rw [<- z]; exact List.mem_of_getElem? h2))]; exact g1,g2⟩
    · rw [if_neg hk]
      rw [ZeY (p:=(k1,V.ref l1)) hk] at hv
      have ih:=OT.app k rest n2 rd hv hl
      have hne:l1 ≠ l':=by
        rintro rfl
        have:∀ (vvs:List (List Key × V)) (ls:List Addr),vvs.map (·.2) = ls.map V.ref->∀ l',ZaL vvs k = some (.ref l')->l' ∈ ls:=by
          intro vvs
          induction vvs with
          | nil=>intro ls _ l' h; cases h
          | cons p vvs ih =>
            intro ls he l' h
            cases ls with
            | nil=>simp at he
            | cons l ls =>
              rw [List.map_cons,List.map_cons] at he
              injection he with he1 he2
              by_cases hp:p.1 = k
              · rw [ZeW hp] at h
                rw [he1] at h
                cases h
                exact List.mem_cons_self
              · rw [ZeY hp] at h
                exact List.mem_cons_of_mem _ (ih ls he2 l' h)
        exact n1 (this vvs ls e4 _ hv)
      refine ⟨by rw [List.map_cons,List.map_cons,ih.1],by rw [List.map_cons,List.map_cons,e4],fun i ds l h1 h2=>?_⟩
      cases i with
      | zero =>
        cases h1; cases h2
        exact ⟨us,by rw [ZG hne]; exact f1,f2⟩
      | succ i =>
        rw [List.map_cons,List.getElem?_cons_succ] at h1
        rw [List.getElem?_cons_succ] at h2
        exact ih.2.2 i ds l h1 h2
end
theorem Zby.otl {K:PySem.W.Frag} {F0 H0 F H:Hp} {r:HM.Env} {σ:L2.St} {fp:Nat->List Addr} {i:Nat} {kvs:List (List Key × List PyData)} (e:Zby K F0 H0 F H r σ fp) (h:r[i]? = some (some (.otl kvs))) :
  ∃ a vvs ls,σ[i]? = some (some (.ref a))/\H a = some (.dT vvs)/\OT K F H kvs vvs ls/\fp i = a :: ls:=by
 obtain ⟨v,h1,h2⟩:=e.at_ i _ h
 generalize hf:fp i = q at h2
 cases h2 with
 | otl k1 k2 k3 k4=>exact ⟨_,_,_,h1,k1,⟨k2,k3,k4⟩,rfl⟩
theorem Zby.otlNew {K:PySem.W.Frag} {F0 H0 Fb Hb F H:Hp} {r:HM.Env} {σ:L2.St} {fp:Nat->List Addr} {i:Nat} {kvs:List (List Key × List PyData)} {p:Addr} (k:List Key) (eb:Zby K F0 H0 Fb Hb r σ fp) (x:Ext Fb Hb F H) (h:r[i]? = some (some (.otl kvs))) (hp:H p = some (.lst [])) (hF:F p = none) (hb:Hb p = none) :
  ∃ a vvs,σ[i]? = some (some (.ref a))/\H a = some (.dT vvs)/\vvs.length = kvs.length/\(HM.Ze kvs k = none->ZaL vvs k = none)/\At K F0 H0 F (upd H a (.dT (vvs ++ [(k,.ref p)]))) (r.set i (some (.otl (kvs ++ [(k,[])])))) σ:=by
 have e:=eb.grow x
 obtain ⟨a,vvs,ls,h1,h2,h3,h4⟩:=e.otl h
 have hpn:∀ j,p ∉ fp j:=fun j hj=>by
  obtain ⟨o,ho⟩:=eb.there hj
  rw [hb] at ho; cases ho
 have hpa:p ≠ a:=fun z=>hpn i (by rw [h4,z]; exact List.mem_cons_self)
 have hal:a ∉ ls:=(List.nodup_cons.mp (h4 ▸ e.nd i)).1
 have nl:ls.Nodup:=(List.nodup_cons.mp (h4 ▸ e.nd i)).2
 have hpl:p ∉ ls:=fun z=>hpn i (by rw [h4]; exact List.mem_cons_of_mem _ z)
 refine ⟨a,vvs,h1,h2,h3.len.2.symm,(h3.look k).2,?_⟩
 have q:=h3.snoc k hp
 have q':OT K F (upd H a (.dT (vvs ++ [(k,.ref p)]))) (kvs ++ [(k,[])]) (vvs ++ [(k,.ref p)]) (ls ++ [p]):=q.mono (Zw.refl F) fun c hc o z=>by
  rw [ZG]
  ·exact z
  ·rintro rfl
   rcases List.mem_append.mp hc with hc | hc
   ·exact hal hc
   ·exact hpa (List.mem_singleton.mp hc).symm
 have nd':(a :: (ls ++ [p])).Nodup:=by
  refine List.nodup_cons.mpr ⟨?_,?_⟩
  ·intro z
   rcases List.mem_append.mp z with z | z
   ·exact hal z
   ·exact hpa (List.mem_singleton.mp z).symm
  ·rw [List.nodup_append]
   refine ⟨nl,by simp,fun x hx y hy=>?_⟩
   obtain rfl:y = p:=by simpa using hy
   rintro rfl
   exact hpl hx
 refine e.changeW h1 (fp':=a :: (ls ++ [p])) (.otl ZP q'.1 q'.2.1 q'.2.2) nd' (fun c hc=>?_) fun c o z hn=>?_
 ·rcases List.mem_cons.mp hc with z | z
  ·subst z; exact .inl (by rw [h4]; exact List.mem_cons_self)
  ·rcases List.mem_append.mp z with z | z
   ·exact .inl (by rw [h4]; exact List.mem_cons_of_mem _ z)
   ·obtain rfl:c = p:=List.mem_singleton.mp z
    exact .inr ⟨hF,eb.ext.hh.free hb,hpn⟩
 ·rw [ZG (fun y=>hn (by rw [h4,y]; exact List.mem_cons_self))]
  exact z
theorem At.otlApp {K:PySem.W.Frag} {F0 H0 F H:Hp} {r:HM.Env} {σ:L2.St} {i:Nat} {kvs:List (List Key × List PyData)} {ds:List PyData} (k:List Key) (e:At K F0 H0 F H r σ) (h:r[i]? = some (some (.otl kvs))) (hd:HM.Ze kvs k = some ds) :
  ∃ a vvs l vs,σ[i]? = some (some (.ref a))/\H a = some (.dT vvs)/\ZaL vvs k = some (.ref l)/\H l = some (.lst vs)/\ZC K F ds vs/\∀ d v,Rep K F d v->At K F0 H0 F (upd H l (.lst (vs ++ [v]))) (r.set i (some (.otl (HM.ZdY kvs k d)))) σ:=by
 obtain ⟨fp,e⟩:=e
 obtain ⟨a,vvs,ls,h1,h2,h3,h4⟩:=e.otl h
 obtain ⟨l,vs,g1,g2,g3,g4⟩:=(h3.look k).1 ds hd
 have hal:a ∉ ls:=(List.nodup_cons.mp (h4 ▸ e.nd i)).1
 have nl:ls.Nodup:=(List.nodup_cons.mp (h4 ▸ e.nd i)).2
 have hne:a ≠ l:=fun z=>hal (by rw [z]; exact g2)
 refine ⟨a,vvs,l,vs,h1,h2,g1,g3,g4,fun d v rd=>?_⟩
 have q:=h3.app k nl rd g1 g3
 refine e.change h1 (fp':=a :: ls) (.otl (by rw [ZG hne]; exact h2) q.1 q.2.1 q.2.2) (h4 ▸ e.nd i) (fun c hc=>.inl (by rw [h4]; exact hc)) fun c o z hn=>?_
 rw [ZG (fun y=>hn (by rw [h4,y]; exact List.mem_cons_of_mem _ g2))]
 exact z
section
variable {X:Cx} {a b c e:Expr} {fa fb fc:HM.EF} {pos p:Pos} {f:HM.BF}
theorem Zqf (hu:X.A.units + 1 < cLine) (i:Nat) {x:Str} {p1 p2 p3:Pos} (hk:XE X b fb) (hN:X.N[i]? = some x:=by rfl) (hv:Vis X.env.scope x:=by first | exact Or.inl rfl | exact Or.inr (Or.inl rfl) | exact Or.inr (Or.inr rfl)) (hd:(x == ("__debug__":Str)) = false:=by decide) (hcd:(x == ("__classdict__":Str)) = false:=by decide)
    (hs:swapsWith (.List [] p3) (some (.Subscript (.Name x p1) b p2)) pos.line X.env = pure false:=by rfl):XS X (.Assign [.Subscript (.Name x p1) b p2] (.List [] p3) pos) (HM.Zlr i fb):=by
  intro r o h
  unfold HM.Zlr at h
  split at h
  · rename_i y hy
    split at h
    · rename_i kvs hb
      split at h
      · rename_i k hk'
        split at h
        · rename_i hz
          split at h
          · rename_i hl
            cases h
            refine PS.imp (Zlu hu (Zcu hN hv hd hcd) (hk r y hy) (Zcm (X:=X) Zj (by simp) r (.ol []) rfl) hs) fun E σ H ⟨F0,H0,F,at_,kk⟩=>?_
            refine ⟨F0,H0,F,at_,fun v F1 H1 x1 ⟨fp,r1,nd,hn⟩=>?_⟩
            cases r1 with
            | @ol l _ vs hl1 rs =>
              obtain rfl:vs = []:=rs.nil_inv
              have at1:=at_.grow x1
              obtain ⟨u,fp,e1,e2⟩:=at1.any hb
              refine ⟨u,e1,F0,H0,F1,at1,fun w F2 H2 x2 r2=>?_⟩
              obtain ⟨fq,eb⟩:=at_
              have hlF:F2 l = none:=by
                cases q:F2 l with
                | none=>rfl
                | some o =>
                  rcases x2.new l o q with z | z
                  · rw [(hn l (by simp)).1] at z; cases z
                  · exact (z.no hl1 fun _ q=>by cases q).elim
              obtain ⟨aa,vvs,g1,g2,g3,g4,g5⟩:=eb.otlNew k (x1.trans x2) hb (x2.hh _ _ hl1) hlF (hn l (by simp)).2
              rw [e1] at g1
              cases g1
              obtain ⟨bb,rfl,hbb⟩:=ZbN hk' r2
              have hpk:putK vvs k (V.ref l) = vvs ++ [(k,.ref l)]:=by
                unfold putK
                rw [if_neg]
                rw [Zim,g4 hl]
                simp
              refine ⟨aa,_,rfl,Zig.t g2 (x2.sub _ _ hbb) (by rw [g3]; exact ZfP hz),?_⟩
              rw [hpk]
              exact kk _ F2 _ g5
          · cases h
        · cases h
      · cases h
    · cases h
  · cases h
theorem ZrE (hu:X.A.units + 1 < cLine) (i:Nat) {x:Str} {p1 p2 p3 p4:Pos} (hk:XE X b fb) (ha:XE X a fa) (hN:X.N[i]? = some x:=by rfl) (hv:Vis X.env.scope x:=by first | exact Or.inl rfl | exact Or.inr (Or.inl rfl) | exact Or.inr (Or.inr rfl)) (hd:(x == ("__debug__":Str)) = false:=by decide) (hcd:(x == ("__classdict__":Str)) = false:=by decide)
  (hsl:Zn0 b:=by intro _ _; rfl)
  (hbase:attributeBase (.Subscript (.Name x p1) b p2) "append" X.env (eval (.Subscript (.Name x p1) b p2) X.env) = eval (.Subscript (.Name x p1) b p2) X.env:=by rfl)
  (hfew:((backTo p4 (starEach [a] X.env)).all (fun x=>!x.1) && (backToKw p4 (keywordEach [] X.env)).all (fun x=>x.1.isSome) && decide (([a]:List Expr).length + ([]:List Keyword).length + (if ([]:List Keyword).isEmpty then 0 else 1) < 30)) = true:=by rfl)
  (hline:(p3.endLine == p4.line) = true:=by rfl) (hs:starEach [a] X.env = [(false,eval a X.env)]:=by rfl):XS X (.Expr (.Call (.Attribute (.Subscript (.Name x p1) b p2) "append" p3) [a] [] p4) pos) (HM.Znp i fb fa):=by
 intro r o h
 unfold HM.Znp at h
 split at h
 ·rename_i y hy
  split at h
  ·rename_i kvs hb
   split at h
   ·rename_i k hk'
    split at h
    ·rename_i d hd'
     split at h
     ·rename_i ds hds
      split at h
      ·rename_i hz
       cases h
       refine PS.imp (ZhO (Zmw PySem.F.plainAttrs_list PySem.F.slot_list_append PySem.F.type_list_append Zhs (Zln hu (Zcu hN hv hd hcd) (hk r y hy) hsl) (Zav (ha r d hd') ZbU hs) hbase hfew hline hs rfl)) fun E σ H ⟨F0,H0,F,at_,kk⟩=>?_
       obtain ⟨aa,vvs,l,vs,e1,e2,e3,e4,e5,_⟩:=at_.otlApp k hb hds
       refine ⟨.ref aa,e1,F0,H0,F,at_,fun w F1 H1 x1 r1=>?_⟩
       obtain ⟨bb,rfl,hbb⟩:=ZbN hk' r1
       have at1:=at_.grow x1
       refine ⟨aa,.ref l,rfl,by rw [<- e3]; exact Zcd.t (x1.hh _ _ e2) (x1.sub _ _ hbb),.inl ⟨rfl,_,SqL.of (x1.hh _ _ e4)⟩,F0,H0,F1,at1,fun v F2 H2 x2 r2=>?_⟩
       obtain ⟨aa',vvs',l',vs',g1,g2,g3,g4,g5,g6⟩:=(at1.grow x2).otlApp k hb hds
       rw [e1] at g1
       cases g1
       have:=(x1.trans x2).hh _ _ e2
       rw [this] at g2
       cases g2
       rw [e3] at g3
       cases g3
       refine ⟨_,vs',v,rfl,rfl,g4,?_,kk _ F2 _ (g6 d v r2)⟩
       rw [<- g5.1]
       exact ZfP hz
      ·cases h
     ·cases h
    ·cases h
   ·cases h
  ·cases h
 ·cases h
theorem ZqG {k:List Key} {kvs:List (List Key × List PyData)} {ds:List PyData} (h:HM.Ze kvs k = some ds):HM.ZbK kvs k = kvs:=by unfold HM.ZbK; rw [h]
theorem Zqv {k:List Key} {kvs:List (List Key × List PyData)} (h:HM.Ze kvs k = none):HM.ZbK kvs k = kvs ++ [(k,[])]:=by unfold HM.ZbK; rw [h]
theorem ZrF (hu:X.A.units + 1 < cLine) (i:Nat) {x:Str} {p0 p1 p2 p3 p4 p5:Pos} (hk:XE X b fb) (ha:XE X a fa) (m:M2 X (.Name x p0) "setdefault" p1 b (.List [] p2) p3) (hN:X.N[i]? = some x:=by rfl) (hv:Vis X.env.scope x:=by first | exact Or.inl rfl | exact Or.inr (Or.inl rfl) | exact Or.inr (Or.inr rfl)) (hd:(x == ("__debug__":Str)) = false:=by decide) (hcd:(x == ("__classdict__":Str)) = false:=by decide)
    (hbase:attributeBase (.Call (.Attribute (.Name x p0) "setdefault" p1) [b,.List [] p2] [] p3) "append" X.env (eval (.Call (.Attribute (.Name x p0) "setdefault" p1) [b,.List [] p2] [] p3) X.env) = eval (.Call (.Attribute (.Name x p0) "setdefault" p1) [b,.List [] p2] [] p3) X.env:=by rfl)
    (hfew:((backTo p5 (starEach [a] X.env)).all (fun x=>!x.1) && (backToKw p5 (keywordEach [] X.env)).all (fun x=>x.1.isSome) && decide (([a]:List Expr).length + ([]:List Keyword).length + (if ([]:List Keyword).isEmpty then 0 else 1) < 30)) = true:=by rfl)
    (hline:(p4.endLine == p5.line) = true:=by rfl) (hs:starEach [a] X.env = [(false,eval a X.env)]:=by rfl):XS X (.Expr (.Call (.Attribute (.Call (.Attribute (.Name x p0) "setdefault" p1) [b,.List [] p2] [] p3) "append" p4) [a] [] p5) pos) (HM.Zm7 i fb fa):=by
  intro r o h
  unfold HM.Zm7 at h
  split at h
  · rename_i y hy
    split at h
    · rename_i kvs hb
      split at h
      · rename_i k hk'
        split at h
        · rename_i hzz
          split at h
          · rename_i d hd'
            split at h
            · rename_i ds hds
              split at h
              · rename_i hz
                cases h
                have hi:i < r.length:=(List.getElem?_eq_some_iff.mp hb).1
                have hb':(r.set i (some (.otl (HM.ZbK kvs k))))[i]? = some (some (.otl (HM.ZbK kvs k))):=List.getElem?_set_self hi
                refine PS.imp (ZhO (Zmw PySem.F.plainAttrs_list PySem.F.slot_list_append PySem.F.type_list_append Zhs (Zuz hu (Zcu hN hv hd hcd) (hk r y hy) (Zcm (X:=X) Zj (by simp) r (.ol []) rfl) m) (Zav (ha _ d hd') ZbU hs) hbase hfew hline hs rfl)) fun E σ H ⟨F0,H0,F,at_,kk⟩=>?_
                have fin:∀ {F3 H3:Hp} {l:Addr},At X.K F0 H0 F3 H3 (r.set i (some (.otl (HM.ZbK kvs k)))) σ->(∃ vs,SqL X.K H3 l vs)->(∀ a' vvs',σ[i]? = some (some (.ref a'))->H3 a' = some (.dT vvs')->ZaL vvs' k = some (.ref l)) ->
                    tyV X.K "list" (.ref l) H3/\Now X.K (r.set i (some (.otl (HM.ZbK kvs k)))) σ H3 fun F0 H0 F=>∀ v F' H',Ext F H3 F' H'->Rep X.K F' d v->Zo5 (.ref l) [v] H' fun _ H'=>E.nx σ H':=by
                  intro F3 H3 l at3 hl hat
                  refine ⟨.inl ⟨rfl,hl⟩,F0,H0,F3,at3,fun v F4 H4 x4 r4=>?_⟩
                  obtain ⟨aa',vvs',l',vs',g1,g2,g3,g4,g5,g6⟩:=(at3.grow x4).otlApp k hb' hds
                  obtain ⟨aa2,vvs2,l2,vs2,f1,f2,f3,_⟩:=at3.otlApp k hb' hds
                  rw [f1] at g1
                  cases g1
                  rw [x4.hh _ _ f2] at g2
                  cases g2
                  rw [hat _ _ f1 f2] at g3
                  cases g3
                  have g7:=g6 d v r4
                  rw [List.set_set] at g7
                  refine ⟨_,vs',v,rfl,rfl,g4,?_,kk _ F4 _ g7⟩
                  rw [<- g5.1]
                  exact ZfP hz
                obtain ⟨fq,eb⟩:=at_
                obtain ⟨aa,vvs,ls,e1,e2,e3,e4⟩:=eb.otl hb
                refine ⟨.ref aa,e1,aa,rfl,.inr ⟨vvs,.inl e2⟩,F0,H0,F,⟨fq,eb⟩,fun w F1 H1 x1 r1=>⟨F0,H0,F1,At.grow ⟨fq,eb⟩ x1,fun v F2 H2 x2 ⟨fp,r2,nd,hn⟩=>?_⟩⟩
                obtain ⟨bb,rfl,hbb⟩:=ZbN hk' r1
                have x12:=x1.trans x2
                have hz0:vvs.length < sizeLine:=by rw [<- e3.len.2]; exact ZfP hzz
                refine ⟨vvs,k,bb,x12.hh _ _ e2,rfl,x2.hh _ _ (x1.sub _ _ hbb),hz0,fun u hu'=>?_,fun hno=>?_⟩
                · have hls:∃ ds0,HM.Ze kvs k = some ds0:=by
                    cases hq:HM.Ze kvs k with
                    | some ds0=>exact ⟨ds0,rfl⟩
                    | none=>rw [(e3.look k).2 hq] at hu'; cases hu'
                  obtain ⟨ds0,hls⟩:=hls
                  have ead:=ZqG hls
                  obtain ⟨l0,vs0,q1,q2,q3,q4⟩:=(e3.look k).1 ds0 hls
                  rw [q1] at hu'
                  cases hu'
                  refine fin (F3:=F2) ?_ ⟨vs0,SqL.of (x12.hh _ _ q3)⟩ fun a' vvs' z1 z2=>?_
                  · rw [ead]
                    have:r.set i (some (.otl kvs)) = r:=by
                      obtain ⟨h1,h2⟩:=List.getElem?_eq_some_iff.mp hb
                      rw [<- h2]
                      exact List.set_getElem_self h1
                    rw [this]
                    exact At.grow ⟨fq,eb⟩ x12
                  · rw [e1] at z1
                    cases z1
                    rw [x12.hh _ _ e2] at z2
                    cases z2
                    exact q1
                · have hls:HM.Ze kvs k = none:=by
                    cases hq:HM.Ze kvs k with
                    | none=>rfl
                    | some ds0 =>
                      obtain ⟨l0,vs0,q1,_⟩:=(e3.look k).1 ds0 hq
                      rw [hno] at q1; cases q1
                  have ead:=Zqv hls
                  cases r2 with
                  | @ol l _ vs hl1 rs =>
                    obtain rfl:vs = []:=rs.nil_inv
                    have hHl:H l = none:=x1.hh.free (hn l (by simp)).2
                    obtain ⟨aa2,vvs2,g1,g2,g3,g4,g5⟩:=eb.otlNew k x12 hb hl1 (hn l (by simp)).1 hHl
                    rw [e1] at g1
                    cases g1
                    rw [x12.hh _ _ e2] at g2
                    cases g2
                    have hne:l ≠ aa:=fun z=>by rw [z,e2] at hHl; cases hHl
                    refine fin (F3:=F2) (by rw [ead]; exact g5) ⟨[],SqL.of (by rw [ZG hne]; exact hl1)⟩ fun a' vvs' z1 z2=>?_
                    rw [e1] at z1
                    cases z1
                    rw [ZP] at z2
                    cases z2
                    unfold ZaL at hno ⊢
                    rw [Option.map_eq_none_iff] at hno
                    rw [List.find?_append,hno]
                    simp
              · cases h
            · cases h
          · cases h
        · cases h
      · cases h
    · cases h
  · cases h
end
end HP
namespace HP
open PySem PyProof.Rows
def ZfD (xs:Array Nat):Prop:=xs.toList.Pairwise (· < ·)
theorem ZfD.lt {xs:Array Nat} (h:ZfD xs) {i k:Nat} (hk:k < xs.size) (hik:i < k):xs.getD i 0 < xs.getD k 0:=by
 have:=List.pairwise_iff_getElem.mp h i k (by simpa using Nat.lt_trans hik hk) (by simpa using hk) hik
 simpa [Array.getD,hk,Nat.lt_trans hik hk] using this
theorem Zkc {xs:Array Nat} (h:ZfD xs) (j:Nat):∀ (fuel lo hi:Nat),lo <= hi->hi <= xs.size->hi - lo <= fuel->(∀ i,i < lo->xs.getD i 0 < j)->(∀ i,hi <= i->i < xs.size->j <= xs.getD i 0) ->
    SetTable.below.go xs j fuel lo hi <= xs.size/\(∀ i,i < SetTable.below.go xs j fuel lo hi->xs.getD i 0 < j)/\∀ i,SetTable.below.go xs j fuel lo hi <= i->i < xs.size->j <= xs.getD i 0
  | 0, lo, hi, h1, h2, h3, a, b => by
    obtain rfl:lo = hi:=by omega
    exact ⟨h2,a,b⟩
  | fuel + 1, lo, hi, h1, h2, h3, a, b => by
    unfold SetTable.below.go
    split
    · rename_i hlt
      have hm:(lo + hi) / 2 < xs.size:=by omega
      have e:xs.getD ((lo + hi) / 2) j = xs.getD ((lo + hi) / 2) 0:=by simp [Array.getD,hm]
      dsimp only
      rw [e]
      by_cases q:xs.getD ((lo + hi) / 2) 0 < j
      · rw [if_pos q]
        refine Zkc h j fuel ((lo + hi) / 2 + 1) hi (by omega) h2 (by omega) (fun i hi'=>?_) b
        by_cases c:i = (lo + hi) / 2
        · rw [c]; exact q
        · exact Nat.lt_trans (h.lt hm (by omega)) q
      · rw [if_neg q]
        refine Zkc h j fuel lo ((lo + hi) / 2) (by omega) (by omega) (by omega) a (fun i hi' hs=>?_)
        by_cases c:i = (lo + hi) / 2
        · rw [c]; omega
        · have:=h.lt hs (show (lo + hi) / 2 < i by omega); omega
    · obtain rfl : lo = hi := by omega
      exact ⟨h2,a,b⟩
theorem ZgA {xs:Array Nat} (h:ZfD xs) (j:Nat):SetTable.below xs j <= xs.size/\(∀ i,i < SetTable.below xs j->xs.getD i 0 < j)/\∀ i,SetTable.below xs j <= i->i < xs.size->j <= xs.getD i 0 :=
 Zkc h j xs.size 0 xs.size (Nat.zero_le _) (Nat.le_refl _) (by omega) (fun i hi=>by omega) fun i h1 h2=>by omega
theorem ZpB {xs:Array Nat} (h:ZfD xs) {i:Nat} (hi:i < xs.size):SetTable.below xs (xs.getD i 0 + 1) = i + 1:=by
 obtain ⟨a,b,c⟩:=ZgA h (xs.getD i 0 + 1)
 apply Nat.le_antisymm
 ·apply Nat.le_of_not_lt
  intro q
  have h1:=b (i + 1) q
  have h2:=h.lt (show i + 1 < xs.size by omega) (Nat.lt_succ_self i)
  omega
 ·apply Nat.le_of_not_lt
  intro q
  have h1:=c (SetTable.below xs (xs.getD i 0 + 1)) (Nat.le_refl _) (by omega)
  by_cases e:SetTable.below xs (xs.getD i 0 + 1) = i
  ·rw [e] at h1; omega
  ·have:=h.lt hi (show SetTable.below xs (xs.getD i 0 + 1) < i by omega); omega
theorem ZpW {xs:Array Nat} (h:ZfD xs):SetTable.below xs 0 = 0:=by
 obtain ⟨a,b,c⟩:=ZgA h 0
 apply Nat.eq_zero_of_not_pos
 intro q
 have:=b 0 q
 omega
theorem Zj1 {xs:Array Nat} (h:ZfD xs) {j:Nat} (hn:xs[SetTable.below xs j]? ≠ some j):ZfD (SetTable.insertAt xs (SetTable.below xs j) j):=by
 obtain ⟨a,b,c⟩:=ZgA h j
 unfold ZfD
 rw [SetTable.toList_insertAt]
 have gt:∀ i,SetTable.below xs j <= i->i < xs.size->j < xs.getD i 0:=by
  intro i h1 h2
  by_cases e:SetTable.below xs j = i
  ·subst e
   have h3:=c _ h1 h2
   have:xs.getD (SetTable.below xs j) 0 ≠ j:=fun q=>hn (by
    have z:xs[SetTable.below xs j]? = some (xs.getD (SetTable.below xs j) 0):=by simp [Array.getD,h2]
    rw [z,q])
   omega
  ·have h3:=h.lt h2 (show SetTable.below xs j < i by omega)
   have h4:=c _ (Nat.le_refl _) (show SetTable.below xs j < xs.size by omega)
   omega
 rw [List.pairwise_append]
 refine ⟨h.sublist (List.take_sublist ..),List.pairwise_cons.mpr ⟨fun x hx=>?_,h.sublist (List.drop_sublist ..)⟩,fun x hx y hy=>?_⟩
 ·obtain ⟨i,hi,rfl⟩:=List.getElem_of_mem hx
  rw [List.length_drop,Array.length_toList] at hi
  rw [List.getElem_drop]
  have:=gt (SetTable.below xs j + i) (by omega) (by omega)
  simpa [Array.getD,show SetTable.below xs j + i < xs.size by omega] using this
 ·obtain ⟨i,hi,rfl⟩:=List.getElem_of_mem hx
  rw [List.length_take,Array.length_toList] at hi
  rw [List.getElem_take]
  have h1:=b i (by omega)
  have h1':xs.toList[i]'(by simp; omega) < j:=by simpa [Array.getD,show i < xs.size by omega] using h1
  rcases List.mem_cons.mp hy with e | e
  ·rw [e]; exact h1'
  ·obtain ⟨k,hk,rfl⟩:=List.getElem_of_mem e
   rw [List.length_drop,Array.length_toList] at hk
   rw [List.getElem_drop]
   have h2:=gt (SetTable.below xs j + k) (by omega) (by omega)
   have h2':j < xs.toList[SetTable.below xs j + k]'(by simp; omega):=by simpa [Array.getD,show SetTable.below xs j + k < xs.size by omega] using h2
   exact Nat.lt_trans h1' h2'
theorem has_none (j:Nat):SetTable.has #[] j = false:=by simp [SetTable.has]
structure Tab (b:Bool) (t:SetTable):Prop where
 dum:t.dummies = #[]
 rise:ZfD t.place
 led:t.led = b
 plain:t.plain = true
 low:∀ j ∈ t.place.toList,j < 8
 mask:t.mask = if t.place.size <= 4 then 7 else 31
theorem Tab.fresh (b:Bool):Tab b (SetTable.fresh 0 0 b):=⟨rfl,.nil,rfl,rfl,fun j hj=>by simp [SetTable.fresh] at hj,rfl⟩
theorem Tab.few {b:Bool} {t:SetTable} (h:Tab b t):t.place.size <= 8:=by
  have key:∀ (l:List Nat) (lo:Nat),l.Pairwise (· < ·)->(∀ j ∈ l,lo <= j/\j < 8)->l.length <= 8 - lo:=by
    intro l
    induction l with
    | nil=>intro lo _ _; simp
    | cons x l ih =>
      intro lo hp hb
      have h1:=hb x (List.mem_cons_self ..)
      have h2:=ih (x + 1) (List.pairwise_cons.mp hp).2 fun y hy=>⟨(List.pairwise_cons.mp hp).1 y hy,(hb y (List.mem_cons_of_mem _ hy)).2⟩
      rw [List.length_cons]; omega
  have:=key t.place.toList 0 h.rise fun j hj=>⟨Nat.zero_le _,h.low j hj⟩
  simpa using this
theorem Zia {b:Bool} {t:SetTable} (h:Tab b t) {j:Nat} (hj:j ∉ t.place.toList):t.slot j = .empty/\t.place[SetTable.below t.place j]? ≠ some j:=by
 have q:t.place[SetTable.below t.place j]? ≠ some j:=fun e=>hj (by
  rw [<- Array.getElem?_toList] at e
  exact List.mem_of_getElem? e)
 unfold SetTable.slot
 dsimp only
 rw [if_neg (by simpa using q),h.dum,has_none,if_neg (by simp)]
 exact ⟨rfl,q⟩
theorem ZuK {b:Bool} {t:SetTable} (h:Tab b t) (j:Nat):t.put j = ({ t with place:=SetTable.insertAt t.place (SetTable.below t.place j) j },SetTable.below t.place j):=by
 unfold SetTable.put
 dsimp only
 rw [h.dum,has_none]
 cases t
 have:=h.dum
 simp_all
theorem size_insert {α:Type} (xs:Array α) (p:Nat) (x:α):(SetTable.insertAt xs p x).size = xs.size + 1:=by
 rw [<- Array.length_toList,(SetTable.insertAt_perm xs p x).length_eq]
 simp
theorem Zvl {b:Bool} {t:SetTable} (h:Tab b t) {es:Array (Int × Value)} (he:es.size = t.place.size) {j:Nat} (h8:j < 8) (hj:j ∉ t.place.toList) (v:Value) :
  layNew t es (j:Int) v = (SetTable.insertAt es (SetTable.below t.place j) ((j:Int),v),{ t with place:=SetTable.insertAt t.place (SetTable.below t.place j) j },false,false):=by
 obtain ⟨e1,e2⟩:=Zia h hj
 have hfew:=h.few
 have hm:t.mask = 7\/t.mask = 31:=by rw [h.mask]; split <;> simp
 have hbits:SetTable.bits (j:Int) % (t.mask + 1) = j:=by
  have hb:SetTable.bits (j:Int) = j:=by unfold SetTable.bits; omega
  rw [hb]
  rcases hm with e | e <;> rw [e] <;> omega
 have hfree:t.freeSlot (j:Int) = some (j,false):=by
  unfold SetTable.freeSlot SetTable.probe
  have hf:10 * SetTable.turns t.mask = (10 * SetTable.turns t.mask - 1) + 1:=by unfold SetTable.turns; omega
  rw [hf]
  unfold SetTable.probe.go
  have hp:(t.probeStart (j:Int)).j = j:=hbits
  rw [hp,e1]
  rfl
 have hle:t.place.size <= 7:=by
  apply Nat.le_of_not_lt
  intro q
  have h8':t.place.size = 8:=by omega
  have:=List.Nodup.length_le_of_subset (l₁:=j :: t.place.toList) (l₂:=List.range 8) (List.nodup_cons.mpr ⟨hj,h.rise.imp fun q=>Nat.ne_of_lt q⟩) (fun x hx=>by
   rcases List.mem_cons.mp hx with e | e
   ·rw [e]; exact List.mem_range.mpr h8
   ·exact List.mem_range.mpr (h.low x e))
  simp at this
  omega
 have hfit:(SetTable.fits { t with place:=SetTable.insertAt t.place (SetTable.below t.place j) j } (SetTable.insertAt es (SetTable.below t.place j) ((j:Int),v)).size) = true:=by
  unfold SetTable.fits SetTable.fill
  simp only [size_insert,he,h.dum]
  simp
  rw [h.mask]
  split <;> omega
 unfold layNew
 rw [hfree]
 dsimp only
 rw [ZuK h]
 dsimp only
 unfold SetTable.orStandIn
 rw [hfit]
 rfl
theorem Tab.ins {b:Bool} {t:SetTable} (h:Tab b t) {j:Nat} (h8:j < 8) (hj:j ∉ t.place.toList) (hs:t.place.size ≠ 4):Tab b { t with place:=SetTable.insertAt t.place (SetTable.below t.place j) j }:=by
 obtain ⟨_,e2⟩:=Zia h hj
 refine ⟨h.dum,Zj1 h.rise e2,h.led,h.plain,fun x hx=>?_,?_⟩
 ·have:=(SetTable.insertAt_perm t.place (SetTable.below t.place j) j).mem_iff.mp hx
  rw [Array.toList_push] at this
  rcases List.mem_append.mp this with q | q
  ·exact h.low x q
  ·rw [List.mem_singleton.mp q]; exact h8
 ·dsimp only
  rw [size_insert,h.mask]
  split <;> split <;> omega
def Zlq:List (List Nat):=(List.range 8).flatMap fun a=>(List.range 8).flatMap fun b=>(List.range 8).flatMap fun c=>(List.range 8).flatMap fun d=>(List.range 8).filterMap fun e=>if a < b/\b < c/\c < d/\d < e then some [a,b,c,d,e] else none
theorem ZoA {l:List Nat} (h:l.Pairwise (· < ·)) (h8:∀ j ∈ l,j < 8) (h5:l.length = 5):l ∈ Zlq:=by
  match l,h5 with
  | [a, b, c, d, e], _ =>
    simp at h h8
    unfold Zlq
    simp only [List.mem_flatMap,List.mem_range,List.mem_filterMap]
    refine ⟨a,by omega,b,by omega,c,by omega,d,by omega,e,by omega,?_⟩
    rw [if_pos (by omega)]
theorem Zvh:∀ l ∈ Zlq,(SetTable.layClean 31 (l.map fun (n:Nat)=>(n:Int)).toArray).map (fun owner=>(List.range 32).filterMap fun j=>(owner.getD j none).map (j,·)) = some (l.zip (List.range 5)):=by decide +kernel
end HP
namespace HP
open PySem PyProof.Rows
def Zfz (e:Int × Value):Int:=match e.2 with
 | .int n _=>n
 | _=>0
section
variable (prog:Program) (w:World)
def ZnL (es:List (Int × Value)):Prop:=∀ e ∈ es,∃ n t,e = ((intKind prog w).hash n,Value.int n t)
def Zeq (h:Heap) (a:Addr) (L:List Int):Prop:=∃ o es ep t,h.get? a = some o/\o.ExactSet/\o.data = .set es ep t/\ZnL prog w es.toList/\(es.toList.map Zfz).Perm L/\es.toList.map Zfz = t.place.toList.map (fun (j:Nat)=>(j:Int))/\Tab (!w.params.followText "set-order") t
end
section
variable {prog:Program} {w:World} {A:Around} {E:Value->Shared->Prop} {s:Shared} {a:Addr} {L:List Int}
theorem ZnL.elems {es:List (Int × Value)} (h:ZnL prog w es):ElemsOf (intKind prog w) es:=fun e he=>by
 obtain ⟨n,t,rfl⟩:=h e he
 exact ⟨⟨n,intKind_is _ _ _ _,rfl⟩,rfl⟩
theorem Zeq.at' {h h':Heap} (x:Zeq prog w h a L) (k:∀ o,h.get? a = some o->h'.get? a = some o):Zeq prog w h' a L:=let ⟨o,es,ep,t,e,r⟩:=x; ⟨o,es,ep,t,k o e,r⟩
def stp (L:List Int) (n:Int):List Int:=if L.contains n then L else L ++ [n]
theorem ZqD {k n:Int} {t:Tok}:(intKind prog w).is k (.int n t) = true ↔ n = k:=by
 constructor
 ·intro h
  exact (intKind prog w).inj _ _ _ (intKind_is _ _ _ _) h
 ·rintro rfl; exact intKind_is _ _ _ _
theorem Ziy:∀ (j:Nat),j < 8->(intKind prog w).hash (j:Int) = (j:Int)
 | 0,_=>rfl
 | 1,_=>rfl
 | 2,_=>rfl
 | 3,_=>rfl
 | 4,_=>rfl
 | 5,_=>rfl
 | 6,_=>rfl
 | 7,_=>rfl
 | n + 8,h=>by omega
theorem Tab.fits {b:Bool} {t:SetTable} (h:Tab b t):t.fits t.place.size = true:=by
 have hf:=h.few
 unfold SetTable.fits SetTable.fill
 rw [h.dum,h.mask]
 simp
 split <;> omega
theorem size_of {es:Array (Int × Value)} {t:SetTable} (h:es.toList.map Zfz = t.place.toList.map (fun (j:Nat)=>(j:Int))):es.size = t.place.size:=by
 have:=congrArg List.length h
 simpa using this
theorem ZkL {h:Heap} {o:Obj} {es es':Array (Int × Value)} {ep:Nat} {t t':SetTable} (ho:h.get? a = some o) (hex:o.ExactSet) (hd:o.data = .set es ep t) (hel:ZnL prog w es'.toList) (hp:(es'.toList.map Zfz).Perm L)
  (hs:es'.toList.map Zfz = t'.place.toList.map (fun (j:Nat)=>(j:Int))) (ht:Tab (!w.params.followText "set-order") t') :
  (h.update a (Obj.putSet es' t')).get? a = some { o with data:=.set es' (ep + 1) t' }/\Zeq prog w (h.update a (Obj.putSet es' t')) a L:=by
 have hg:(h.update a (Obj.putSet es' t')).get? a = some { o with data:=.set es' (ep + 1) t' }:=by
  have:=Heap.get?_update_self (Obj.putSet es' t') ho (by rw [putSet_of es' t' hd]; rfl)
  rwa [putSet_of es' t' hd] at this
 exact ⟨hg,_,es',ep + 1,t',hg,hex,rfl,hel,hp,hs,ht⟩
theorem Zr0 {b:Bool} {t:SetTable} {es:Array (Int × Value)} (hr:ZfD t.place) (h8:∀ j ∈ t.place.toList,j < 8) (h5:t.place.size = 5) (he:es.map (·.1) = (t.place.toList.map (fun (j:Nat)=>(j:Int))).toArray) (hl:t.led = b) (hp:t.plain = true) :
  ∃ t',relayAll t es 20 = (es,t',false)/\t'.place = t.place/\Tab b t':=by
 have hc:=Zvh _ (ZoA hr h8 (by simpa using h5))
 obtain ⟨owner,o1,o2⟩:=Option.map_eq_some_iff.mp hc
 have hsz:es.size = 5:=by
  have:=congrArg Array.size he
  simp at this
  omega
 have hlen:t.place.toList.length = 5:=by simpa using h5
 have z1:(t.place.toList.zip (List.range 5)).map (·.1) = t.place.toList:=List.map_fst_zip (by rw [hlen]; simp)
 have z2:(t.place.toList.zip (List.range 5)).map (·.2) = List.range 5:=List.map_snd_zip (by rw [hlen]; simp)
 have hrl:t.relaid (es.map (·.1)) 20 = some ({ mask:=31,place:=t.place,dummies:=#[],finger:=t.finger,led:=t.led,moves:=t.movedTo 31,plain:=t.plain },(List.range 5).toArray):=by
  unfold SetTable.relaid SetTable.laid
  have e31:SetTable.sizeAbove 20 - 1 = 31:=by decide
  rw [e31,he,o1]
  show some _ = some _
  rw [o2,z1,z2]
 refine ⟨{ mask:=31,place:=t.place,dummies:=#[],finger:=t.finger,led:=t.led,moves:=t.movedTo 31,plain:=t.plain },?_,rfl,⟨rfl,hr,hl,hp,h8,?_⟩⟩
 ·unfold relayAll
  rw [hrl]
  dsimp only
  have ef:(List.range 5).toArray.filterMap (fun x=>es[x]?) = es:=by
   apply Array.toList_inj.mp
   rw [Array.toList_filterMap]
   have:=filterMap_getElem?_range es
   rw [hsz] at this
   simpa using this
  rw [ef]
  have ec:coversAll (List.range 5).toArray es.size = true:=by rw [hsz]; decide
  have et:SetTable.fits { mask:=31,place:=t.place,dummies:=#[],finger:=t.finger,led:=t.led,moves:=t.movedTo 31,plain:=t.plain } es.size = true:=by
   unfold SetTable.fits SetTable.fill
   simp [h5,hsz]
  rw [ec,et]
  rfl
 ·dsimp only
  rw [h5]
  rfl
theorem ZrX {j:Nat} {tk:Tok} {Q:Bool->Shared->Prop} (h8:j < 8) (hX:Zeq prog w s.heap a L)
    (h:∀ b h',Heap.SameBut a s.heap h'->Zeq prog w h' a (stp L j)->Q b { s with heap:=h' }) :
    wpAny (model prog w) A (setAddHashed a (.int j tk) ((intKind prog w).hash j)) Q E s:=by
  obtain ⟨o,es,ep,t,ho,hex,hd,hen,hpm,hpl,ht⟩:=hX
  have hel:=hen.elems
  have hsc:(Value.int (j:Int) tk).scannable = true:=rfl
  have hkey:(intKind prog w).is (j:Int) (.int j tk) = true:=intKind_is _ _ _ _
  have hsz:=size_of hpl
  have hfew:=ht.few
  have hf:t.fits es.size = true:=by rw [hsz]; exact ht.fits
  have hsb:scanBound = 4096:=rfl
  have hb:es.size < scanBound:=by omega
  unfold setAddHashed setAddHashedIn
  refine wpAny_holding (wpAny_bind (wpAny_setState_of ho hd hf ?_))
  dsimp only
  rw [byScan_of hsc hb hel]
  simp only [↓reduceIte]
  unfold setAddByScan
  refine wpAny_bind (wpAny_bind (wpAny_rule (wpAny_bind (wpAny_setScan_of hkey ho hd hf hel ?_))))
  cases hr:List.findIdx? (fun e=>(intKind prog w).is (j:Int) e.2) es.toList with
  | some i =>
    dsimp only
    obtain ⟨hi,hpi,_⟩:=List.findIdx?_eq_some_iff_getElem.mp hr
    have hmem:(j:Int) ∈ L:=by
      refine hpm.mem_iff.mp (List.mem_map.mpr ⟨es.toList[i],List.getElem_mem hi,?_⟩)
      obtain ⟨m,u,e⟩:=hen _ (List.getElem_mem hi)
      rw [e] at hpi ⊢
      exact ZqD.mp hpi
    refine wpAny_pure (wpAny_pure ?_)
    have e:s = { s with heap:=s.heap }:=by cases s; rfl
    have q:=h false s.heap (Heap.SameBut.refl a s.heap) ⟨o,es,ep,t,ho,hex,hd,hen,by unfold stp; rw [if_pos (by simpa using hmem)]; exact hpm,hpl,ht⟩
    rw [e]
    exact q
  | none =>
    dsimp only
    have hne:∀ e ∈ es.toList,Zfz e ≠ (j:Int):=fun e he hv=>by
      obtain ⟨m,u,e1⟩:=hen e he
      have no:=List.findIdx?_eq_none_iff.mp hr e he
      rw [e1] at no hv
      have yes:(intKind prog w).is (j:Int) (.int m u) = true:=ZqD.mpr hv
      exact absurd (yes.symm.trans no) (by simp)
    have hnm:(j:Int) ∉ L:=fun hm=>by
      obtain ⟨e,he,hv⟩:=List.mem_map.mp (hpm.mem_iff.mpr hm)
      exact hne e he hv
    have hj:j ∉ t.place.toList:=fun hm=>by
      have:(j:Int) ∈ es.toList.map Zfz:=by rw [hpl]; exact List.mem_map.mpr ⟨j,hm,rfl⟩
      obtain ⟨e,he,hv⟩:=List.mem_map.mp this
      exact hne e he hv
    obtain ⟨mk,pl,dm,fg,ld,mv,pn⟩:=t
    obtain rfl:pn = true:=ht.plain
    obtain rfl:dm = #[]:=ht.dum
    rw [Ziy j h8,Zvl ht hsz h8 hj]
    dsimp only
    obtain ⟨_,hnj⟩:=Zia ht hj
    obtain ⟨hle,_,_⟩:=ZgA ht.rise j
    have hen1:ZnL prog w (SetTable.insertAt es (SetTable.below pl j) ((j:Int),Value.int j tk)).toList:=fun e he=>by
      have:=(SetTable.insertAt_perm _ _ _).mem_iff.mp he
      rw [Array.toList_push] at this
      rcases List.mem_append.mp this with q | q
      · exact hen e q
      · exact ⟨j,tk,by rw [Ziy j h8]; exact List.mem_singleton.mp q⟩
    have hpm1:((SetTable.insertAt es (SetTable.below pl j) ((j:Int),Value.int j tk)).toList.map Zfz).Perm (stp L j):=by
      unfold stp
      rw [if_neg (by simpa using hnm)]
      refine ((SetTable.insertAt_perm _ _ _).map Zfz).trans ?_
      rw [Array.toList_push,List.map_append]
      exact hpm.append_right _
    have hpl1:(SetTable.insertAt es (SetTable.below pl j) ((j:Int),Value.int j tk)).toList.map Zfz = (SetTable.insertAt pl (SetTable.below pl j) j).toList.map (fun (j:Nat)=>(j:Int)):=by
      rw [SetTable.toList_insertAt,SetTable.toList_insertAt,List.map_append,List.map_append,List.map_cons,List.map_cons,List.map_take,List.map_take,List.map_drop,List.map_drop,hpl]
      rfl
    have hs1:(SetTable.insertAt es (SetTable.below pl j) ((j:Int),Value.int j tk)).size = es.size + 1:=size_insert _ _ _
    generalize hE:SetTable.insertAt es (SetTable.below pl j) ((j:Int),Value.int j tk) = es1 at hen1 hpm1 hpl1 hs1 ⊢
    have hz1:es1.size <= sizeLine:=by rw [sizeLine_eq]; omega
    refine wpAny_bind (wpAny_pure ?_)
    simp only [↓reduceIte]
    refine wpAny_bind ?_
    rw [hashByValue_scannable 8 hsc]
    refine wpAny_pure ?_
    rw [show plainKind (Value.int (j:Int) tk) = true from rfl]
    simp only [↓reduceIte]
    show wpAny (model prog w) A (do
        storeSet a es1 (⟨mk,SetTable.insertAt pl (SetTable.below pl j) j,#[],fg,ld,mv,true⟩:SetTable)
        if (!false && SetTable.tooFull (⟨mk,SetTable.insertAt pl (SetTable.below pl j) j,#[],fg,ld,mv,true⟩:SetTable)) = true then _ else _) _ E s
    refine wpAny_bind (wpAny_storeSet_of ho hd ?_ hz1)
    have hsb1:=Heap.SameBut.update s.heap a (Obj.putSet es1 (⟨mk,SetTable.insertAt pl (SetTable.below pl j) j,#[],fg,ld,mv,true⟩:SetTable))
    by_cases h4:pl.size = 4
    · have hm : mk = 7 := by have q := ht.mask; dsimp only at q; rw [h4] at q; exact q
      have htf:SetTable.tooFull (⟨mk,SetTable.insertAt pl (SetTable.below pl j) j,#[],fg,ld,mv,true⟩:SetTable) = true:=by
        unfold SetTable.tooFull SetTable.fill
        simp [size_insert,h4,ht.dum,hm]
      have hg:(s.heap.update a (Obj.putSet es1 (⟨mk,SetTable.insertAt pl (SetTable.below pl j) j,#[],fg,ld,mv,true⟩:SetTable))).get? a = some { o with data:=.set es1 (ep + 1) (⟨mk,SetTable.insertAt pl (SetTable.below pl j) j,#[],fg,ld,mv,true⟩:SetTable) }:=by
        have:=Heap.get?_update_self (Obj.putSet es1 (⟨mk,SetTable.insertAt pl (SetTable.below pl j) j,#[],fg,ld,mv,true⟩:SetTable)) ho (by rw [putSet_of _ _ hd]; rfl)
        rwa [putSet_of _ _ hd] at this
      have hh:es1.map (·.1) = ((SetTable.insertAt pl (SetTable.below pl j) j).toList.map (fun (j:Nat)=>(j:Int))).toArray:=by
        apply Array.toList_inj.mp
        rw [Array.toList_map,<- hpl1]
        refine List.map_congr_left fun e he=>?_
        obtain ⟨m,u,e1⟩:=hen1 e he
        have hm:m ∈ es1.toList.map Zfz:=List.mem_map.mpr ⟨e,he,by rw [e1]; rfl⟩
        rw [hpl1] at hm
        obtain ⟨k,hk,rfl⟩:=List.mem_map.mp hm
        have hk8:k < 8:=by
          have:=(SetTable.insertAt_perm _ _ _).mem_iff.mp hk
          rw [Array.toList_push] at this
          rcases List.mem_append.mp this with q | q
          · exact ht.low k q
          · rw [List.mem_singleton.mp q]; exact h8
        rw [e1]
        exact Ziy (prog:=prog) (w:=w) k hk8
      obtain ⟨t',r1,r2,r3⟩:=Zr0 (b:=!w.params.followText "set-order") (t:=(⟨mk,SetTable.insertAt pl (SetTable.below pl j) j,#[],fg,ld,mv,true⟩:SetTable)) (es:=es1) (Zj1 ht.rise hnj)
        (fun k hk=>by
          have:=(SetTable.insertAt_perm _ _ _).mem_iff.mp hk
          rw [Array.toList_push] at this
          rcases List.mem_append.mp this with q | q
          · exact ht.low k q
          · rw [List.mem_singleton.mp q]; exact h8) (by dsimp only; rw [size_insert,h4]) hh ht.led ht.plain
      have hgr:SetTable.grown es1.size = 20:=by rw [hs1,hsz,h4]; rfl
      rw [htf]
      simp only [Bool.not_false,Bool.and_self,↓reduceIte]
      rw [hgr,r1]
      dsimp only
      refine wpAny_bind (wpAny_pure (wpAny_bind (wpAny_storeSet_of hg rfl ?_ hz1)))
      obtain ⟨_,hS2⟩:=ZkL (prog:=prog) (t':=t') hg hex rfl hen1 hpm1 (by rw [r2]; exact hpl1) r3
      exact wpAny_pure (wpAny_pure (h true _ (hsb1.trans (Heap.SameBut.update _ a _)) hS2))
    · have htf:SetTable.tooFull (⟨mk,SetTable.insertAt pl (SetTable.below pl j) j,#[],fg,ld,mv,true⟩:SetTable) = false:=by
        unfold SetTable.tooFull SetTable.fill
        have q:=ht.mask
        dsimp only at q
        simp only [size_insert]
        rw [q]
        simp
        have:=hfew
        dsimp only at this
        split <;> omega
      rw [htf]
      simp only [Bool.and_false,Bool.false_eq_true,↓reduceIte]
      obtain ⟨_,hS1⟩:=ZkL (prog:=prog) (t':=(⟨mk,SetTable.insertAt pl (SetTable.below pl j) j,#[],fg,ld,mv,true⟩:SetTable)) ho hex hd hen1 hpm1 hpl1 (ht.ins h8 hj h4)
      exact wpAny_pure (wpAny_pure (h true _ hsb1 hS1))
end
section
variable {prog:Program} {w:World} {A:Around} {E:Value->Shared->Prop} {s:Shared}
abbrev Zds (w:World):Obj:={ cls:=.type "set",dict:=none,data:=.set #[] 0 (.fresh 0 0 (!w.params.followText "set-order")) }
theorem Zmn (v:Value) {Q₁:Value->Shared->Prop} (h:Q₁ (.ref s.heap.objs.size) { s with heap:=s.heap.push (Zds w) }) :
  codeAny (model prog w) A (.call (.builtin "set.__new__") ⟨[.type "set",v],[]⟩) (wants Q₁ E) s:=by
 refine codeAny_of_tree ?_
 show wpAny _ A.in1 (do checkBuiltinCall "set.__new__" ⟨[.type "set",v],[]⟩; again (.builtin "set.__new__" ⟨[.type "set",v],[]⟩)) _ _ s
 refine wpAny_bind (wpAny_of_eq (PySem.F.newCall_set_1 v) (wpAny_pure ⟨plainId_quiet PySem.F.plain_set_new _,codeAny_builtin PySem.F.entry_set_new ?_⟩))
 rw [Around.under_plainId PySem.F.plain_set_new _]
 unfold Builtin.«set.__new__» Builtin.Frozenset.newClass
 have hsub:=sub_set_self
 obtain ⟨hp,g,d,tk,os⟩:=s
 dsimp only
 wp_walk
 refine wpAny_askSetting (wpAny_pure ?_)
 dsimp only
 simp only [newObj]
 exact wpAny_bind (wpAny_alloc (wpAny_pure (wpAny_pure h)))
theorem ZsV (h:Heap):Zeq prog w (h.push (Zds w)) h.objs.size [] :=
 ⟨_,#[],0,_,Heap.get?_push_size _ rfl,⟨rfl,rfl,rfl⟩,rfl,fun e he=>by simp at he,.nil,rfl,Tab.fresh _⟩
theorem Zic:∀ (l acc:List Int) (x:Int),HM.dedup acc (l ++ [x]) = stp (HM.dedup acc l) x
  | [], acc, x => by
    show HM.dedup acc [x] = stp acc x
    unfold HM.dedup stp
    split <;> rfl
  | y :: l, acc, x => by
    show HM.dedup acc (y :: (l ++ [x])) = _
    unfold HM.dedup
    split
    · exact Zic l acc x
    · exact Zic l _ x
variable {R:Result->Shared->Prop} {I:Addr} {fp wr:List Addr} {G:Array GenState->Array GenState->Prop} {P:Nat->Value->Prop} {St:Nat->Shared->Prop}
theorem Zrw {ns:List Int} (W:WalksS prog w A.in1 I fp wr G ns.length P St) (S:Addr) (hSf:S ∉ fp) (hval:∀ i v,P i v->∃ t,v = .int (ns.getD i 0) t) (hb:∀ n ∈ ns,0 <= n/\n < 8) :
    ∀ (k i:Nat) (s:Shared),ns.length - i = k->i <= ns.length->St i s->Zeq prog w s.heap S (HM.dedup [] (ns.take i)) ->
      (∀ s',Moved (S :: wr) G s s'->Zeq prog w s'.heap S (HM.dedup [] ns)->R (.ok (.ret .none)) s') ->
      codeAny (model prog w) A (.builtin "set.update.loop" ⟨[.ref S,.ref I],[]⟩) R s:=by
  have hSw:S ∉ wr:=fun h=>hSf (W.sub _ h)
  have hsub:∀ b ∈ wr,b ∈ S :: wr:=fun b hb=>List.mem_cons_of_mem _ hb
  intro k
  induction k with
  | zero =>
    intro i s hk hi hst hS hR
    obtain rfl:i = ns.length:=by omega
    rw [List.take_length] at hS
    refine codeAny_builtin F.entry_set_update_loop ?_
    rw [Around.under_plainId F.plain_set_update_loop _]
    show wpAny _ A.in1 (pyNext (.ref I) >>= _) _ _ s
    refine wpAny_bind (W.done s _ _ hst fun s' hm=>?_)
    show wpAny _ A.in1 (ret Value.none) _ _ s'
    exact wpAny_pure (hR s' (hm.mono hsub) (hS.at' fun o e=>hm.heap S o hSw e))
  | succ k ih =>
    intro i s hk hi hst hS hR
    have hlt:i < ns.length:=by omega
    refine codeAny_builtin F.entry_set_update_loop ?_
    rw [Around.under_plainId F.plain_set_update_loop _]
    show wpAny _ A.in1 (pyNext (.ref I) >>= _) _ _ s
    refine wpAny_bind (W.item i s _ _ hlt hst fun v s' hP hst' hm=>?_)
    obtain ⟨t,rfl⟩:=hval i v hP
    have hS':=hS.at' (h':=s'.heap) fun o e=>hm.heap S o hSw e
    show wpAny _ A.in1 (holding [Value.int (ns.getD i 0) t] (setAdd S (.int (ns.getD i 0) t)) >>= _) _ _ s'
    refine wpAny_bind (wpAny_holding ?_)
    unfold setAdd
    refine wpAny_holding (wpAny_bind ((intKind prog w).pyHash (k:=ns.getD i 0) (intKind_is _ _ _ _) ?_))
    have hbi:=hb (ns.getD i 0) (by rw [List.getD,List.getElem?_eq_getElem hlt]; exact List.getElem_mem hlt)
    obtain ⟨j,ej⟩:∃ j:Nat,ns.getD i 0 = (j:Int):=⟨(ns.getD i 0).toNat,by omega⟩
    have e:stp (HM.dedup [] (ns.take i)) (ns.getD i 0) = HM.dedup [] (ns.take (i + 1)):=by
      rw [<- Zic,List.take_succ,List.getD]
      simp [hlt]
    rw [ej] at e hbi ⊢
    refine ZrX (s:={ s' with toks:=s'.toks + 1 }) (by omega) hS' fun b h' hsb hS2=>?_
    rw [e] at hS2
    refine wpAny_pure ⟨plainId_quiet F.plain_set_update_loop _,ih (i + 1) _ (by omega) hlt (W.frame _ s' _ _ hst' (Nat.le_succ _) fun b hb o e=>?_) hS2 fun s'' hm'' hS''=>?_⟩
    · rw [hsb.2 b (fun h:b = S=>hSf (by rw [<- h]; exact hb))]; exact e
    · refine hR s'' (Moved.trans W.gtrans ((hm.mono hsub).then_heap (Nat.le_succ _) fun b o hb e => ?_) hm'') hS''
      rw [hsb.2 b (fun h:b = S=>hb (by rw [h]; exact List.mem_cons_self))]; exact e
set_option maxHeartbeats 3200000 in
theorem ZqW {l:Addr} {items:Array Value} {ns:List Int} {Q:Value->Shared->Prop} (hh:A.handled = none) (hl:s.heap.IsList l items) (hi:IntsAre items.toList ns) (hb:∀ n ∈ ns,0 <= n/\n < 8)
    (h:∀ (h':Heap) (tk:Nat),Zeq prog w h' s.heap.objs.size (HM.dedup [] ns)->(∀ b o,b < s.heap.objs.size->s.heap.get? b = some o->h'.get? b = some o)->Q (.ref s.heap.objs.size) { s with heap:=h',toks:=tk }) :
    wpAny (model prog w) A (call (.type "set") [.ref l]) Q E s:=by
  have hsz:items.size = ns.length:=by rw [<- hi.length,Array.length_toList]
  obtain ⟨c,tl,hmro⟩:=PySem.F.called_set.mro
  have hmade:=PySem.F.called_set.made
  have hsub:=PySem.F.called_set.sub
  refine wpAny_call (codeAny_of_tree ?_)
  show wpAny _ _ (callAny (.type "set") _) _ _ _
  refine wpAny_pure ⟨Code.quiet_builtin _ (by decide +kernel),codeAny_builtin PySem.F.entry_type_call ?_⟩
  rw [Around.under_plain (weight_type_call_type "set" [.ref l] []) rfl]
  have h1:=PySem.F.called_set.notType
  have h2:=PySem.F.called_set.canCreate
  have hct:=PySem.F.typeCall_set_1 (.ref l)
  repeat (any_goals (first | assumption | wp_step))
  refine codeAny_mono (Zmn (.ref l) (E:=E) (Q₁:=fun obj s₁=>obj = .ref s.heap.objs.size/\s₁ = { s with heap:=s.heap.push (Zds w) }) ⟨rfl,rfl⟩) fun r s₁ hr=>?_
  cases r with
  | error e=>exact hr
  | ok fl =>
    cases fl with
    | ret obj =>
      obtain ⟨rfl,rfl⟩:=hr
      have hX:=ZsV (prog:=prog) (w:=w) s.heap
      have hS:(s.heap.push (Zds w)).get? s.heap.objs.size = some (Zds w):=Heap.get?_push_size _ rfl
      have hT:Shared.TypeIs { s with heap:=s.heap.push (Zds w) } (.ref s.heap.objs.size) "set":=⟨_,hS,rfl⟩
      have hli:=PySem.F.called_set.init.lookup
      have hbi:=PySem.F.called_set.init.bind (.ref s.heap.objs.size)
      repeat (any_goals (first | assumption | wp_step))
      refine codeAny_mono (codeAny_call_builtin (R:=wants (fun r s₂=>r = .none/\∃ h' tk,s₂ = { s with heap:=h',toks:=tk }/\Zeq prog w h' s.heap.objs.size (HM.dedup [] ns) /\
          (∀ b o,b < s.heap.objs.size->s.heap.get? b = some o->h'.get? b = some o)) E) PySem.F.called_set.init.plain PySem.F.entry_set_init (check_set_init_1 hT ?_)) fun r₂ s₂ hr₂=>?_
      · obtain ⟨⟨ocls, odict, odata, oslots⟩, hol, hcl, nl, hdl⟩ := hl
        simp only at hcl hdl
        subst hcl; subst hdl
        have hol':(s.heap.push (Zds w)).get? l = some { cls:=.type "list",dict:=odict,data:=.seq items nl,slots:=oslots }:=Heap.get?_push_of_some _ hol
        have hsls:=PySem.F.sub_list_set
        have hslf:=PySem.F.sub_list_frozenset
        have hne:(Value.type "list" == Value.type "dict") = false:=by decide
        have hl1:(s.heap.push (Zds w)).IsList l items:=⟨_,hol',rfl,nl,rfl⟩
        unfold Builtin.«set.__init__» noKeywords Builtin.Frozenset.updateFrom
        generalize hPI:pyIter = PI
        wp_walk
        subst hPI
        refine wpAny_pyIter_list hl1 (wpAny_bind (wpAny_runValue ?_))
        have hlS:l < s.heap.objs.size:=Heap.lt_size hol
        have hh3:A.in1.in1.in1.handled = none:=by simp [hh]
        have hneI:l ≠ (s.heap.push (Zds w)).objs.size:=by rw [Heap.size_push]; exact Nat.ne_of_lt (Nat.lt_succ_of_lt hlS)
        have hSf:s.heap.objs.size ∉ [(s.heap.push (Zds w)).objs.size,l]:=by
          rw [Heap.size_push]; simp only [List.mem_cons,List.mem_singleton,List.not_mem_nil,or_false,not_or]
          exact ⟨Nat.ne_of_lt (Nat.lt_succ_self _),Nat.ne_of_gt hlS⟩
        have Wl:=(Walks.list (prog:=prog) (w:=w) hh3 _ l hneI items).toS
        rw [hsz] at Wl
        refine Zrw Wl s.heap.objs.size hSf (fun i v hv=>IntsAre.int_at hi i v (by rw [Array.getElem?_toList]; exact hv)) hb (ns.length - 0) 0 _ (by omega) (Nat.zero_le _)
          ⟨⟨_,Heap.get?_push_size _ rfl,rfl,rfl⟩,hl1.push _⟩ (hX.at' fun o e=>Heap.get?_push_of_some _ e) fun s' hm hS'=>?_
        obtain ⟨h',g',d',tk',os'⟩:=s'
        have eg:g' = s.gens:=hm.gens
        have ed:d' = s.drawn:=hm.drawn
        have eo:os' = s.os:=hm.os
        subst eg; subst ed; subst eo
        show wpAny _ _ _ _ _ _
        refine wpAny_pure ?_
        show wpAny _ _ (ret Value.none) _ _ _
        refine wpAny_pure ⟨rfl,h',tk',rfl,hS',fun b o hb e=>?_⟩
        refine hm.heap b o ?_ (Heap.get?_push_of_some _ (Heap.get?_push_of_some _ e))
        simp only [List.mem_cons,List.mem_singleton,List.not_mem_nil,or_false,not_or]
        exact ⟨Nat.ne_of_lt hb,by rw [Heap.size_push]; exact Nat.ne_of_lt (Nat.lt_succ_of_lt hb)⟩
      · cases r₂ with
        | error e=>exact hr₂
        | ok fl₂ =>
          cases fl₂ with
          | ret r =>
            obtain ⟨rfl,h',tk,rfl,hS',hk'⟩:=hr₂
            repeat (any_goals (first | assumption | wp_step))
            exact h _ _ hS' hk'
          | _=>exact hr₂.elim
    | _=>exact hr.elim
end
end HP
namespace HP
open PySem PyProof.Rows
theorem Zc0:Slot "set_iterator" "__next__" "set_iterator.__next__" :=
 .of (owner:="set_iterator") (n:="__next__") (by rw [typeLookup_type,builtinLookup_eq_fast]; kernel_rfl) (by decide +kernel) (by decide +kernel) (by decide +kernel)
  (by first | exact .inl (by decide +kernel) | exact .inr (by decide +kernel)) (by rw [isSubtype_type]; kernel_rfl)
theorem ZiF:entryFor table "set_iterator.__next__" = some Builtin.«set_iterator.__next__»:=entryFor_of_tree (by kernel_rfl)
theorem Zjf:Slot "set_iterator" "__iter__" "set_iterator.__iter__" :=
 .of (owner:="set_iterator") (n:="__iter__") (by rw [typeLookup_type,builtinLookup_eq_fast]; kernel_rfl) (by decide +kernel) (by decide +kernel) (by decide +kernel)
  (by first | exact .inl (by decide +kernel) | exact .inr (by decide +kernel)) (by rw [isSubtype_type]; kernel_rfl)
theorem Zmr:entryFor table "set_iterator.__iter__" = some Builtin.«dict_keyiterator.__iter__» :=
 entryFor_alias (id':="dict_keyiterator.__iter__") (by kernel_rfl) rfl (by decide +kernel) (by kernel_rfl)
theorem ZkR:entryFor table "set.__iter__" = some Builtin.«frozenset.__iter__» :=
 entryFor_alias (id':="frozenset.__iter__") (by kernel_rfl) rfl (by decide +kernel) (by kernel_rfl)
theorem ZnF:Manifest.owners.lookup (String.ofList ['r','o','t','a','r','e','t','i','_','t','e','s'].reverse) = some Manifest.sig_set_iterator:=by kernel_rfl
theorem Zjj (a:Value):argsOk "set_iterator.__next__" ⟨[a],[]⟩:=by
 unfold argsOk; rw [signature?_of (id:="set_iterator.__next__") (n:=['_','_','t','x','e','n','_','_']) (o:=['r','o','t','a','r','e','t','i','_','t','e','s']) (by kernel_rfl) ZnF]; kernel_rfl
theorem Znn (a:Value):argsOk "set_iterator.__iter__" ⟨[a],[]⟩:=by
 unfold argsOk; rw [signature?_of (id:="set_iterator.__iter__") (n:=['_','_','r','e','t','i','_','_']) (o:=['r','o','t','a','r','e','t','i','_','t','e','s']) (by kernel_rfl) ZnF]; kernel_rfl
theorem ZkQ {α:Type}:∀ (l:List α) (i:Nat) (h:i < l.length),(l[i] :: l.eraseIdx i).Perm l
  | x :: l,0,_=>.refl _
  | x :: l, i + 1, h => by
    have h':i < l.length:=by simpa using h
    show (l[i] :: x :: l.eraseIdx i).Perm (x :: l)
    exact (List.Perm.swap x l[i] _).trans ((ZkQ l i h').cons x)
theorem ZlP {α:Type} (next:Nat->Nat):∀ (n k:Nat) (left:List α) (out:Array α),left.length = n->(pickOrder.go next n k left out).toList.Perm (out.toList ++ left)
  | 0, k, left, out, h => by
    rw [List.eq_nil_of_length_eq_zero h,List.append_nil]
    exact .refl _
  | n + 1, k, left, out, h => by
    have hl:next k % left.length < left.length:=Nat.mod_lt _ (by omega)
    unfold pickOrder.go
    rw [List.getElem?_eq_getElem hl]
    dsimp only
    refine (ZlP next n (k + 1) _ _ (by rw [List.length_eraseIdx_of_lt hl]; omega)).trans ?_
    rw [Array.toList_push,List.append_assoc]
    refine List.Perm.append_left _ ?_
    exact ZkQ left _ hl
theorem Zlg {α:Type} (next:Nat->Nat) (xs:Array α):(pickOrder next xs).toList.Perm xs.toList:=by
 have:=ZlP next xs.size 0 xs.toList #[] (by simp)
 simpa [pickOrder] using this
end HP
namespace HP
open PySem PyProof.Rows
structure Zfy (w:World) (h:Heap) (a:Addr) (es:Array (Int × Value)) (ep:Nat) (t:SetTable):Prop where
 obj:∃ o,h.get? a = some o/\o.ExactSet/\o.data = .set es ep t
 fit:t.fits es.size = true
 siz:es.size = t.place.size
 tab:Tab (!w.params.followText "set-order") t
theorem Zfy.at' {w:World} {h h':Heap} {a:Addr} {es:Array (Int × Value)} {ep:Nat} {t:SetTable} (x:Zfy w h a es ep t) (k:∀ o,h.get? a = some o->h'.get? a = some o):Zfy w h' a es ep t :=
 ⟨let ⟨o,e,r⟩:=x.obj; ⟨o,k o e,r⟩,x.fit,x.siz,x.tab⟩
def ZeV (w:World) (a:Addr) (es:Array (Int × Value)) (ep:Nat):Array (Int × Value):=if w.params.followText "set-order" then pickOrder (w.params.setOrder a ep) es else es
theorem Zje (w:World) (a:Addr) (es:Array (Int × Value)) (ep:Nat):(ZeV w a es ep).toList.Perm es.toList:=by
 unfold ZeV; split
 ·exact Zlg _ _
 ·exact .refl _
theorem Zi5 (w:World) (a:Addr) (es:Array (Int × Value)) (ep:Nat):(ZeV w a es ep).size = es.size:=by
 have:=(Zje w a es ep).length_eq
 simpa using this
def Zhy (h:Heap) (it a:Addr) (slot i n ep:Nat):Prop:=∃ o,h.get? it = some o/\o.cls = .type "set_iterator"/\o.data = .fields #[.int slot 0,.int i 0,.ref a,.int n 0,.int ep 0]
theorem Zhy.typeIs {s:Shared} {it a:Addr} {slot i n ep:Nat} (x:Zhy s.heap it a slot i n ep):s.TypeIs (.ref it) "set_iterator":=let ⟨o,ho,hc,_⟩:=x; ⟨o,ho,hc⟩
theorem Zhy.at' {h h':Heap} {it a:Addr} {slot i n ep:Nat} (x:Zhy h it a slot i n ep) (k:∀ o,h.get? it = some o->h'.get? it = some o):Zhy h' it a slot i n ep:=let ⟨o,e,r⟩:=x; ⟨o,k o e,r⟩
section
variable {prog:Program} {w:World} {A:Around} {E:Value->Shared->Prop} {s:Shared} {it a:Addr} {es:Array (Int × Value)} {ep:Nat} {t:SetTable}
theorem Zr6 {Q:Value->Shared->Prop} (x:Zfy w s.heap a es ep t)
  (hQ:Q (.ref s.heap.objs.size) { s with heap:=s.heap.push { cls:=.type "set_iterator",data:=.fields #[.int 0 0,.int 0 0,.ref a,.int es.size 0,.int ep 0] } }) :
  wpAny (model prog w) A (pyIter (.ref a)) Q E s:=by
 obtain ⟨o,ho,hex,hd⟩:=x.obj
 have hT:s.TypeIs (.ref a) "set":=⟨o,ho,hex.1⟩
 refine wpAny_pyIter_slot hT PySem.F.slot_set_iter (wpAny_call_entry PySem.F.slot_set_iter hT ZkR ?_ (PySem.F.args_set_iter_1 _))
 unfold Builtin.«frozenset.__iter__» Builtin.Frozenset.slot0 slotArgs Builtin.Frozenset.addrOf Builtin.Frozenset.sizeOf
 refine wpAny_bind (wpAny_bind (wpAny_pure (wpAny_pure ?_)))
 dsimp only
 refine wpAny_bind (wpAny_bind (wpAny_setEntries_of ho hd x.fit (wpAny_pure ?_)))
 have hdr:∀ {R:Bool->Shared->Prop} {A':Around} {E':Value->Shared->Prop},R false s->wpAny (model prog w) A' (setDrawn a) R E' s:=fun {R A' E'} hR=>by
  unfold setDrawn setsByText
  refine wpAny_bind (wpAny_setState_of ho hd x.fit (wpAny_bind (wpAny_bind (wpAny_askSetting (wpAny_pure (wpAny_pure ?_))))))
  obtain ⟨mk,pl,dm,fg,ld,mv,pn⟩:=t
  obtain rfl:pn = true:=x.tab.plain
  show R (!_ && (!true && _)) s
  simpa using hR
 refine wpAny_bind (hdr ?_)
 rw [if_neg (by simp)]
 refine wpAny_bind (wpAny_pure (wpAny_bind (wpAny_setEpoch_of ho hd x.fit ?_)))
 show wpAny (model prog w) A.in1 (newFields "set_iterator" [rawInt 0,rawInt 0,Value.ref a,rawInt (es.size:Int),rawInt (ep:Int)] >>= _) _ E s
 refine wpAny_bind (wpAny_newObj_type (wpAny_pure ⟨_,rfl,"set_iterator",_,⟨_,Heap.get?_push_size _ rfl,rfl⟩,Zc0.lookup,?_⟩))
 simpa [rawInt] using hQ
theorem ZjY {slot i:Nat} {R:Option (Value × Nat)->Shared->Prop} (x:Zfy w s.heap a es ep t) (hs:w.params.followText "set-order" = false->SetTable.below t.place slot = i)
    (hR:R ((ZeV w a es ep)[i]?.map fun e=>(e.2,if w.params.followText "set-order" then slot else t.place.getD i 0 + 1)) s):wpAny (model prog w) A (setNext a slot i ep) R E s:=by
  obtain ⟨o,ho,hex,hd⟩:=x.obj
  unfold setNext setsByText
  refine wpAny_bind (wpAny_setState_of ho hd x.fit ?_)
  dsimp only
  refine wpAny_bind (wpAny_bind (wpAny_askSetting (wpAny_pure ?_)))
  dsimp only
  cases hb:w.params.followText "set-order" with
  | true =>
    have hb':(model prog w).w.params.followText "set-order" = true:=hb
    rw [hb',if_pos rfl]
    unfold ZeV at hR
    rw [hb,if_pos rfl] at hR
    simp only [if_pos] at hR
    refine wpAny_ite_split (fun q=>absurd q (by simp)) fun _=>?_
    unfold setWalk setsByText
    refine wpAny_bind (wpAny_bind (wpAny_setState_of ho hd x.fit ?_))
    dsimp only
    refine wpAny_bind (wpAny_bind (wpAny_askSetting (wpAny_pure ?_)))
    dsimp only
    rw [hb',if_pos rfl]
    exact wpAny_bind (wpAny_askSetting (wpAny_pure (wpAny_pure hR)))
  | false =>
    have hb':(model prog w).w.params.followText "set-order" = false:=hb
    rw [hb',if_neg (by simp)]
    unfold ZeV at hR
    rw [hb] at hR
    simp only [Bool.false_eq_true,if_false] at hR
    have hi:=hs hb
    have hled:t.led = true:=by rw [x.tab.led,hb]; rfl
    have hsz:=x.siz
    obtain ⟨mk,pl,dm,fg,ld,mv,pn⟩:=t
    obtain rfl:pn = true:=x.tab.plain
    obtain rfl:ld = true:=hled
    refine wpAny_ite_split (fun q=>absurd (show (!true && _) = true from q) (by simp)) fun _=>?_
    refine wpAny_bind ?_
    refine wpAny_ite_split (fun q=>absurd (show (!true && _) = true from q) (by simp)) fun _=>?_
    refine wpAny_pure ?_
    dsimp only at hi hsz ⊢
    rw [hi]
    refine wpAny_pure ?_
    by_cases hlt:i < es.size
    · have h1 : es[i]? = some es[i] := Array.getElem?_eq_getElem hlt
      have h2:pl[i]? = some (pl.getD i 0):=by simp [Array.getD,show i < pl.size by omega]
      rw [h1] at hR ⊢
      rw [h2]
      exact hR
    · have h1 : es[i]? = none := Array.getElem?_eq_none (by omega)
      rw [h1] at hR ⊢
      exact hR
theorem ZrN {slot i:Nat} {e:Int × Value} {Q:Option Value->Shared->Prop} (hit:Zhy s.heap it a slot i es.size ep) (x:Zfy w s.heap a es ep t) (hs:w.params.followText "set-order" = false->SetTable.below t.place slot = i) (he:(ZeV w a es ep)[i]? = some e)
  (hQ:∀ h',Zhy h' it a (if w.params.followText "set-order" then slot else t.place.getD i 0 + 1) (i + 1) es.size ep->Heap.SameBut it s.heap h'->Q (some e.2) { s with heap:=h' }) :
  wpAny (model prog w) A (pyNext (.ref it)) Q E s:=by
 obtain ⟨o,ho,hc,hd⟩:=id hit
 obtain ⟨os,hos,hex,hds⟩:=x.obj
 unfold pyNext
 refine wpAny_bind (wpAny_attempt (wpAny_callSpecial?_slot (name:=Str.ofString "__next__") hit.typeIs Zc0
  (wpAny_call_entry Zc0 hit.typeIs ZiF ?_ (Zjj _))))
 unfold Builtin.«set_iterator.__next__» slotArgs
 refine wpAny_bind (wpAny_pure ?_)
 dsimp only
 refine wpAny_bind (wpAny_fieldsOf ho hd ?_)
 dsimp only
 refine wpAny_bind (wpAny_setEntries_of hos hds x.fit ?_)
 refine wpAny_ite_split (fun q=>absurd q (by simp)) fun _=>?_
 simp only [Int.toNat_natCast]
 refine wpAny_bind (ZjY x hs ?_)
 rw [he]
 dsimp only [Option.map_some]
 refine wpAny_bind (wpAny_setField ho hd (by simp) ?_)
 have g1:(s.heap.update it (Obj.mapFields (·.setIfInBounds 0 (rawInt ((if w.params.followText "set-order" = true then slot else t.place.getD i 0 + 1:Nat):Int))))).get? it = some _:=Heap.get?_update_self _ ho (Obj.isFreed_of_fields (Obj.data_mapFields hd _))
 refine wpAny_bind (wpAny_setField g1 (Obj.data_mapFields hd _) (by simp) ?_)
 refine wpAny_pure ⟨_,rfl,wpAny_pure (hQ _ ⟨_,Heap.get?_update_self _ g1 (Obj.isFreed_of_fields (Obj.data_mapFields (Obj.data_mapFields hd _) _)),?_,?_⟩ ((Heap.SameBut.update ..).trans (Heap.SameBut.update ..)))⟩
 ·rw [Obj.cls_mapFields,Obj.cls_mapFields]; exact hc
 ·rw [Obj.data_mapFields (Obj.data_mapFields hd _)]; simp [rawInt]
theorem ZsH {slot i:Nat} {Q:Option Value->Shared->Prop} (hh:A.handled = none) (hit:Zhy s.heap it a slot i es.size ep) (x:Zfy w s.heap a es ep t) (hs:w.params.followText "set-order" = false->SetTable.below t.place slot = i) (he:es.size <= i)
  (hQ:∀ h',Heap.ExtBut it s.heap h'->Q none { s with heap:=h' }):wpAny (model prog w) A (pyNext (.ref it)) Q E s:=by
 obtain ⟨o,ho,hc,hd⟩:=id hit
 obtain ⟨os,hos,hex,hds⟩:=x.obj
 have hn:(ZeV w a es ep)[i]? = none:=Array.getElem?_eq_none (by rw [Zi5]; exact he)
 unfold pyNext
 refine wpAny_bind (wpAny_attempt (wpAny_callSpecial?_slot (name:=Str.ofString "__next__") hit.typeIs Zc0
  (wpAny_call_entry Zc0 hit.typeIs ZiF ?_ (Zjj _))))
 unfold Builtin.«set_iterator.__next__» slotArgs
 refine wpAny_bind (wpAny_pure ?_)
 dsimp only
 refine wpAny_bind (wpAny_fieldsOf ho hd ?_)
 dsimp only
 refine wpAny_bind (wpAny_setEntries_of hos hds x.fit ?_)
 refine wpAny_ite_split (fun q=>absurd q (by simp)) fun _=>?_
 simp only [Int.toNat_natCast]
 refine wpAny_bind (ZjY x hs ?_)
 rw [hn]
 dsimp only [Option.map_none]
 refine wpAny_bind (wpAny_setField ho hd (by simp) ?_)
 refine wpAny_bind ?_
 simp only [newExc,newTuple]
 refine wpAny_bind (wpAny_newObj_type ?_ (by size_fits))
 refine wpAny_bind (m:=firstArgMember _ _) (wpAny_of_eq (a:=Value.none) (by first | rfl | (simp only [firstArgMember]; rfl)) ?_)
 refine wpAny_newObj_type ?_ (by size_fits)
 simp only [raiseNew]
 refine wpAny_bind (wpAny_handled ?_)
 rw [show A.in1.handled = none from hh]
 refine wpAny_bind (wpAny_pure (wpAny_throw ?_))
 refine wpAny_bind (wpAny_isInstance (T:="StopIteration") (b:=true) ⟨_,Heap.get?_push_size _ rfl,rfl⟩ isSubtype_stop ?_)
 exact wpAny_pure (hQ _ (((Heap.SameBut.update ..).extBut.push _).push _))
theorem Zr2 {slot i n:Nat} {Q:Value->Shared->Prop} (hit:Zhy s.heap it a slot i n ep) (h:Q (.ref it) s):wpAny (model prog w) A (pyIter (.ref it)) Q E s:=by
 refine wpAny_pyIter_slot hit.typeIs Zjf (wpAny_call_entry Zjf hit.typeIs Zmr ?_ (Znn _))
 show wpAny _ _ (ret (.ref it)) _ _ s
 exact wpAny_pure ⟨_,rfl,"set_iterator",_,hit.typeIs,Zc0.lookup,h⟩
theorem Zre (hh:A.handled = none) (I a:Addr) (hne:a ≠ I) (es:Array (Int × Value)) (ep:Nat) (t:SetTable) :
  Walks prog w A I [I,a] [I] es.size (fun i v=>∃ e,(ZeV w a es ep)[i]? = some e/\v = e.2) (fun i h=>∃ slot,Zhy h I a slot i es.size ep/\Zfy w h a es ep t/\(w.params.followText "set-order" = false->SetTable.below t.place slot = i)) where
 sub:=fun b hb=>by simp at hb; simp [hb]
 frame:=fun _ _ _ ⟨slot,h1,h2,h3⟩ hk=>⟨slot,h1.at' fun o e=>hk I (by simp) o e,h2.at' fun o e=>hk a (by simp) o e,h3⟩
 item:=fun i s Q E hi ⟨slot,h1,h2,h3⟩ hQ=>by
  have hlt:i < (ZeV w a es ep).size:=by rw [Zi5]; exact hi
  have hx:(ZeV w a es ep)[i]? = some (ZeV w a es ep)[i]:=Array.getElem?_eq_getElem hlt
  refine ZrN h1 h2 h3 hx fun h' hit' hs'=>?_
  refine hQ _ h' s.toks ⟨_,hx,rfl⟩ ⟨_,hit',h2.at' fun o e=>hs'.extBut a o hne e,fun hb=>?_⟩ fun b o hb e=>hs'.extBut b o (fun h=>hb (by simp [h])) e
  rw [hb]
  exact ZpB h2.tab.rise (by rw [<- h2.siz]; exact hi)
 done:=fun s Q E ⟨slot,h1,h2,h3⟩ hQ=>ZsH hh h1 h2 h3 (Nat.le_refl _) fun h' he'=>hQ h' s.toks fun b o hb e=>he' b o (fun h=>hb (by simp [h])) e
 self:=fun _ _ _ _ ⟨slot,h1,_⟩ hQ=>Zr2 h1 hQ
end
end HP
namespace HP
open PySem PySem.W PyProof.Rows
section
variable {α β:Type}
def ZcX (o:Nat->Nat->Bool) (n:Nat):KasT α->(α->Prop)->Prop
 | .ret a,Q=>Q a
 | .ask i j k,Q=>i < n/\j < n/\ZcX o n (k (o i j)) Q
theorem ZcX.bnd {o:Nat->Nat->Bool} {n:Nat} {f:α->KasT β} {Q:β->Prop}:∀ (t:KasT α),ZcX o n t (fun a=>ZcX o n (f a) Q)->ZcX o n (t.bind f) Q
 | .ret a,h=>h
 | .ask i j k,h=>⟨h.1,h.2.1,ZcX.bnd (k (o i j)) h.2.2⟩
end
structure Pm (n:Nat) (p:Array Nat):Prop where
 pos:0 < n
 perm:p.Perm (List.toArray (List.range n))
theorem Pm.size {n:Nat} {p:Array Nat} (h:Pm n p):p.size = n:=by
 have:=h.perm.size_eq
 simpa using this
theorem Pm.lt {n:Nat} {p:Array Nat} (h:Pm n p) (i:Nat):p.getD i 0 < n:=by
 by_cases hi:i < p.size
 ·have e:p.getD i 0 = p[i]:=by simp [Array.getD,hi]
  rw [e]
  have:=(Array.perm_iff_toList_perm.mp h.perm).mem_iff (a:=p[i])
  have h2:=this.mp (by simp)
  simpa using h2
 ·have e:p.getD i 0 = 0:=by simp [Array.getD,hi]
  rw [e]; exact h.pos
theorem Pm.rev {n:Nat} {p:Array Nat} (h:Pm n p) (i j:Nat):Pm n (kas_rev p i j):=⟨h.pos,(mirror_perm _ _ _ _).trans h.perm⟩
theorem Pm.bub {n:Nat} {p:Array Nat} (h:Pm n p) (i j:Nat):Pm n (bubble p i j):=⟨h.pos,(bubble_perm _ _ _).trans h.perm⟩
theorem getD_eq? (p:Array Nat) (i:Nat):p.getD i 0 = (p[i]?).getD 0:=by simp [Array.getD_eq_getD_getElem?]
section
variable (O:KeyOrd) (key:Nat->O.α)
def Ka (p:Array Nat) (i:Nat):O.α:=key (p.getD i 0)
def Up (p:Array Nat) (k:Nat):Prop:=∀ i j,i <= j->j < k->O.kle (Ka O key p i) (Ka O key p j)
def Dn (p:Array Nat) (k:Nat):Prop:=∀ i j,i <= j->j < k->O.kle (Ka O key p j) (Ka O key p i)
def Ev (p:Array Nat) (m q:Nat):Prop:=∀ i,m - (q + 1) <= i->i < m->Ka O key p i = Ka O key p (m - 1)
abbrev orc:Nat->Nat->Bool:=fun i j=>O.blt (key i) (key j)
variable {O key} {p:Array Nat} {n:Nat}
theorem Zn6 {i j:Nat} (hj:j <= p.size) (k:Nat):Ka O key (kas_rev p i j) k = if i <= k/\k < j then Ka O key p (i + j - 1 - k) else Ka O key p k:=by
 unfold Ka kas_rev
 rw [getD_eq?,getElem?_mirror_all hj]
 split <;> rw [<- getD_eq?]
theorem Zjc {i j:Nat} (hj:j <= p.size) (h:∀ k,i <= k->k < j->Ka O key p k = Ka O key p (j - 1)) (k:Nat):Ka O key (kas_rev p i j) k = Ka O key p k:=by
 rw [Zn6 hj]
 split
 ·rename_i hk
  rw [h _ (by omega) (by omega),h k hk.1 hk.2]
 ·rfl
theorem ZqJ {s d:Nat} (hs:s < p.size) (hd:d <= s) (k:Nat):Ka O key (bubble p s d) k = if k = s - d then Ka O key p s else if s - d < k/\k <= s then Ka O key p (k - 1) else Ka O key p k:=by
 unfold Ka
 rw [getD_eq?,getElem?_bubble hs d hd]
 by_cases h1:k = s - d
 ·rw [if_pos h1,if_pos h1,<- getD_eq?]
 ·rw [if_neg h1,if_neg h1]
  by_cases h2:s - d < k/\k <= s
  ·rw [if_pos h2,if_pos h2,<- getD_eq?]
  ·rw [if_neg h2,if_neg h2,<- getD_eq?]
theorem Up.one:Up O key p 1:=fun i j h1 h2=>by
 obtain rfl:i = j:=by omega
 exact KeyOrd.kle_refl _
theorem Up.more {k:Nat} (h:Up O key p k) (hl:O.kle (Ka O key p (k - 1)) (Ka O key p k)):Up O key p (k + 1):=fun i j h1 h2=>by
 by_cases hj:j < k
 ·exact h i j h1 hj
 obtain rfl:j = k:=by omega
 by_cases hi:i = j
 ·subst hi; exact KeyOrd.kle_refl _
 ·exact KeyOrd.kle_trans (h i (j - 1) (by omega) (by omega)) hl
theorem Dn.more {k:Nat} (h:Dn O key p k) (hl:O.kle (Ka O key p k) (Ka O key p (k - 1))):Dn O key p (k + 1):=fun i j h1 h2=>by
 by_cases hj:j < k
 ·exact h i j h1 hj
 obtain rfl:j = k:=by omega
 by_cases hi:i = j
 ·subst hi; exact KeyOrd.kle_refl _
 ·exact KeyOrd.kle_trans hl (h i (j - 1) (by omega) (by omega))
theorem Dn.same {p':Array Nat} {k:Nat} (h:Dn O key p k) (e:∀ i,Ka O key p' i = Ka O key p i):Dn O key p' k:=fun i j h1 h2=>by
 rw [e,e]; exact h i j h1 h2
theorem Zkm (hp:Pm n p) {Q:Nat->Prop}:∀ (f m:Nat),Up O key p m->(∀ m',m <= m'->m' <= m + f->Up O key p m'->(m' = m + f\/O.klt (Ka O key p m') (Ka O key p (m' - 1)))->Q m')->ZcX (orc O key) n (kas_asc p f m) Q
  | 0,m,hu,hq=>hq m (Nat.le_refl _) (by omega) hu (.inl rfl)
  | f + 1, m, hu, hq => by
    refine ⟨hp.lt _,hp.lt _,?_⟩
    dsimp only
    split
    · rename_i h
      exact hq m (Nat.le_refl _) (by omega) hu (.inr h)
    · rename_i h
      refine Zkm hp f (m + 1) (hu.more (KeyOrd.kle_of_not_klt h)) fun m' h1 h2 h3 h4=>hq m' (by omega) (by omega) h3 (h4.imp (fun e=>by omega) id)
theorem Zhp {Q:Array Nat × Nat × Nat->Prop}:∀ (f:Nat) (p:Array Nat) (m q:Nat),Pm n p->Dn O key p m->q + 1 <= m->Ev O key p m q->m + f <= n ->
    (∀ p' m' q',Pm n p'->m <= m'->m' <= m + f->Dn O key p' m'->q' + 1 <= m'->Ev O key p' m' q'->Q (p',m',q'))->ZcX (orc O key) n (kas_desc f p m q) Q
  | 0,p,m,q,hp,hd,h1,he,hn,hq=>hq p m q hp (Nat.le_refl _) (by omega) hd h1 he
  | f + 1, p, m, q, hp, hd, h1, he, hn, hq => by
    have hz:m <= p.size:=by rw [hp.size]; omega
    have e0:∀ p',Ev O key p' (m + 1) 0:=fun p' i h1 h2=>by congr 1; omega
    refine ⟨hp.lt _,hp.lt _,?_⟩
    dsimp only
    split
    · rename_i h
      have hd':=hd.more (KeyOrd.kle_of_klt h)
      split
      · exact Zhp f _ (m + 1) 0 (hp.rev _ _) (hd'.same (Zjc hz he)) (by omega) (e0 _) (by omega) fun p' m' q' a b c d e g=>hq p' m' q' a (by omega) (by omega) d e g
      · exact Zhp f _ (m + 1) 0 hp hd' (by omega) (e0 _) (by omega) fun p' m' q' a b c d e g=>hq p' m' q' a (by omega) (by omega) d e g
    · rename_i h
      refine ⟨hp.lt _,hp.lt _,?_⟩
      dsimp only
      split
      · exact hq p m q hp (Nat.le_refl _) (by omega) hd h1 he
      · rename_i h'
        have l1:=KeyOrd.kle_of_not_klt h
        have l2:=KeyOrd.kle_of_not_klt h'
        have ee:Ka O key p m = Ka O key p (m - 1):=KeyOrd.kle_antisymm l2 l1
        refine Zhp f p (m + 1) (q + 1) hp (hd.more l2) (by omega) (fun i a b=>?_) (by omega) fun p' m' q' a b c d e g=>hq p' m' q' a (by omega) (by omega) d e g
        rw [show m + 1 - 1 = m by omega]
        by_cases hi:i = m
        · rw [hi]
        · rw [ee]; exact he i (by omega) (by omega)
theorem ZlV {Q:Nat × Array Nat->Prop} {m:Nat} (hp:Pm n p) (hd:Dn O key p m) (h1:1 <= m) (hm:m <= n) (hq:∀ m' p',1 <= m'->m' <= n->Pm n p'->Up O key p' m'->Q (m',p')):ZcX (orc O key) n (kas_tail3 m n p) Q:=by
 have hz:m <= p.size:=by rw [hp.size]; omega
 refine ZcX.bnd _ (Zkm (hp.rev 0 m) (n - m) m (fun i j a b=>?_) fun m' a b c _=>hq m' _ (by omega) (by omega) (hp.rev 0 m) c)
 rw [Zn6 hz,Zn6 hz,if_pos (by omega),if_pos (by omega)]
 exact hd _ _ (by omega) (by omega)
theorem ZlN {Q:Nat × Array Nat->Prop} {m:Nat} (hp:Pm n p) (hd:Dn O key p (m + 1)) (hm:m + 1 <= n) (hq:∀ m' p',1 <= m'->m' <= n->Pm n p'->Up O key p' m'->Q (m',p')):ZcX (orc O key) n (kas_descPart m n p) Q:=by
 refine ZcX.bnd _ (Zhp (n - (m + 1)) p (m + 1) 0 hp hd (by omega) (fun i a b=>by congr 1; omega) (by omega) fun p' m' q' h1 h2 h3 h4 h5 h6=>?_)
 have hz:m' <= p'.size:=by rw [h1.size]; omega
 dsimp only
 split
 ·exact ZlV (h1.rev _ _) (h4.same (Zjc hz h6)) (by omega) (by omega) hq
 ·exact ZlV h1 h4 (by omega) (by omega) hq
theorem Zp4 {Q:Nat × Array Nat->Prop} (hp:Pm n p) (hq:∀ m' p',1 <= m'->m' <= n->Pm n p'->Up O key p' m'->Q (m',p')):ZcX (orc O key) n (kas_count n p) Q:=by
 have h0:=hp.pos
 refine ZcX.bnd _ (Zkm hp (n - 1) 1 Up.one fun m h1 h2 h3 h4=>?_)
 have hz:m <= p.size:=by rw [hp.size]; omega
 split
 ·exact hq m p (by omega) (by omega) hp h3
 ·rename_i hne
  have hne':m ≠ n:=by simpa using hne
  have hlt:O.klt (Ka O key p m) (Ka O key p (m - 1)):=h4.resolve_left (by omega)
  split
  ·rename_i hm
   refine ⟨hp.lt _,hp.lt _,?_⟩
   dsimp only
   split
   ·exact hq m p (by omega) (by omega) hp h3
   ·rename_i hr
    have hr':O.kle (Ka O key p (m - 1)) (Ka O key p 0):=KeyOrd.kle_of_not_klt hr
    have all:∀ k,0 <= k->k < m->Ka O key p k = Ka O key p (m - 1):=fun k _ hk =>
     KeyOrd.kle_antisymm (h3 k (m - 1) (by omega) (by omega)) (KeyOrd.kle_trans hr' (h3 0 k (by omega) hk))
    refine ZlN (hp.rev _ _) (Dn.same ?_ (Zjc hz all)) (by omega) hq
    refine Dn.more (fun i j a b=>?_) (KeyOrd.kle_of_klt hlt)
    rw [all i (by omega) (by omega),all j (by omega) b]; exact KeyOrd.kle_refl _
  ·obtain rfl:m = 1:=by omega
   refine ZlN hp (Dn.more (fun i j a b=>?_) (KeyOrd.kle_of_klt hlt)) (by omega) hq
   obtain rfl:i = j:=by omega
   exact KeyOrd.kle_refl _
theorem Zh8 {Q:Nat->Prop} {k:Nat} (hp:Pm n p) (hu:Up O key p k):∀ (f l r:Nat),l <= r->r <= k->r - l <= f->(∀ i,i < l->O.kle (Ka O key p i) (Ka O key p k))->(∀ i,r <= i->i < k->O.klt (Ka O key p k) (Ka O key p i)) ->
    (∀ l,l <= k->(∀ i,i < l->O.kle (Ka O key p i) (Ka O key p k))->(∀ i,l <= i->i < k->O.klt (Ka O key p k) (Ka O key p i))->Q l)->ZcX (orc O key) n (kas_place p k f l r) Q
  | 0, l, r, h1, h2, h3, lo, hi, hq => by
    obtain rfl:l = r:=by omega
    exact hq l h2 lo hi
  | f + 1, l, r, h1, h2, h3, lo, hi, hq => by
    unfold kas_place
    split
    · obtain rfl : l = r := by omega
      exact hq l h2 lo hi
    · refine ⟨hp.lt _, hp.lt _, ?_⟩
      dsimp only
      split
      · rename_i h
        exact Zh8 hp hu f l ((l + r) / 2) (by omega) (by omega) (by omega) lo (fun i a b=>KeyOrd.klt_of_klt_of_kle h (hu _ _ a b)) hq
      · rename_i h
        refine Zh8 hp hu f ((l + r) / 2 + 1) r (by omega) (by omega) (by omega) (fun i a=>KeyOrd.kle_trans (hu i ((l + r) / 2) (by omega) (by omega)) (KeyOrd.kle_of_not_klt h)) hi hq
theorem Znb {Q:Array Nat->Prop}:∀ (f:Nat) (p:Array Nat) (k:Nat),Pm n p->Up O key p k->k + f = n->(∀ p',Pm n p'->Up O key p' n->Q p')->ZcX (orc O key) n (kas_bin f p k) Q
  | 0, p, k, hp, hu, hn, hq => by
    obtain rfl:k = n:=by omega
    exact hq p hp hu
  | f + 1, p, k, hp, hu, hn, hq => by
    refine ZcX.bnd _ (Zh8 hp hu k 0 k (by omega) (Nat.le_refl _) (by omega) (fun i a=>by omega) (fun i a b=>by omega) fun l hl lo hi=>?_)
    refine Znb f _ (k + 1) (hp.bub _ _) (fun i j a b=>?_) (by omega) hq
    have hk:k < p.size:=by rw [hp.size]; omega
    rw [ZqJ hk (by omega),ZqJ hk (by omega),show k - (k - l) = l by omega]
    repeat' split
    all_goals first
      | (exfalso; omega)
      | exact KeyOrd.kle_refl _
      | exact lo _ (by omega)
      | exact KeyOrd.kle_of_klt (hi _ (by omega) (by omega))
      | exact hu _ _ (by omega) (by omega)
theorem Zqm (hn:0 < n) {Q:Array Nat->Prop} (hq:∀ p,Pm n p->Up O key p n->Q p):ZcX (orc O key) n (kas_sort n) Q:=by
 refine ZcX.bnd _ (Zp4 ⟨hn,.refl _⟩ fun m p h1 h2 h3 h4=>?_)
 dsimp only
 rw [show max m 1 = m by omega]
 split
 ·exact Znb _ p m h3 h4 (by omega) hq
 ·exact hq p h3 (by rwa [show n = m by omega])
end
theorem lex_irrefl:∀ a:List Int,HM.lexLt a a = false
  | []=>rfl
  | x :: a => by
    show (if x = x then HM.lexLt a a else decide (x < x)) = false
    rw [if_pos rfl]; exact lex_irrefl a
theorem Zhd (x y:Int) (a b:List Int):HM.lexLt (x :: a) (y :: b) = if x = y then HM.lexLt a b else decide (x < y):=rfl
theorem lex_trans:∀ a b c:List Int,HM.lexLt a b = true->HM.lexLt b c = true->HM.lexLt a c = true
  | [],[],_,h,_=>by cases h
  | [],_ :: _,[],_,h=>by cases h
  | [],_ :: _,_ :: _,_,_=>rfl
  | _ :: _,[],_,h,_=>by cases h
  | _ :: _,_ :: _,[],_,h=>by cases h
  | x :: a, y :: b, z :: c, h1, h2 => by
    rw [Zhd] at *
    split at h1
    · rename_i e
      subst e
      split at h2
      · rename_i e; subst e; rw [if_pos rfl]; exact lex_trans a b c h1 h2
      · rename_i e; rw [if_neg e]; exact h2
    · split at h2
      · rename_i e1 e2; subst e2; rw [if_neg e1]; exact h1
      · rename_i e1 e2
        have h1:=of_decide_eq_true h1
        have h2:=of_decide_eq_true h2
        rw [if_neg (by omega)]; exact decide_eq_true (by omega)
theorem Zk8:∀ a b c:List Int,HM.lexLt a c = true->HM.lexLt a b = true\/HM.lexLt b c = true
  | [],[],_,h=>.inr h
  | [],_ :: _,_,_=>.inl rfl
  | _ :: _,_,[],h=>by cases h
  | _ :: _,[],_ :: _,_=>.inr rfl
  | x :: a, y :: b, z :: c, h => by
    rw [Zhd] at *
    rw [Zhd]
    split at h
    · rename_i e
      subst e
      by_cases e:x = y
      · subst e; rw [if_pos rfl,if_pos rfl]; exact Zk8 a b c h
      · rw [if_neg e, if_neg (Ne.symm e)]
        by_cases q:x < y
        · exact .inl (decide_eq_true q)
        · exact .inr (decide_eq_true (by omega))
    · rename_i e
      have h:=of_decide_eq_true h
      by_cases e1:x = y
      · subst e1; rw [if_neg e]; exact .inr (decide_eq_true h)
      · rw [if_neg e1]
        by_cases q:x < y
        · exact .inl (decide_eq_true q)
        · rw [if_neg (by omega)]; exact .inr (decide_eq_true (by omega))
theorem Zjg:∀ a b:List Int,HM.lexLt a b = false->HM.lexLt b a = false->a = b
  | [],[],_,_=>rfl
  | [],_ :: _,h,_=>by cases h
  | _ :: _,[],_,h=>by cases h
  | x :: a, y :: b, h1, h2 => by
    rw [Zhd] at h1 h2
    by_cases e:x = y
    · subst e
      rw [if_pos rfl] at h1 h2
      rw [Zjg a b h1 h2]
    · rw [if_neg e] at h1
      rw [if_neg (Ne.symm e)] at h2
      have h1:=of_decide_eq_false h1
      have h2:=of_decide_eq_false h2
      omega
@[reducible] def Zm4:KeyOrd where
 α:=List Int
 blt:=HM.lexLt
 irrefl:=lex_irrefl
 trans:=lex_trans
 negTrans:=Zk8
 total:=Zjg
theorem Ziw {α:Type} {R:α->α->Prop} (anti:∀ a b,R a b->R b a->a = b):∀ {l m:List α},l.Perm m->l.Pairwise R->m.Pairwise R->l = m
  | [],m,hp,_,_=>(List.nil_perm.mp hp).symm
  | x :: l,[],hp,_,_=>absurd hp.symm (by intro q; exact List.cons_ne_nil _ _ (List.nil_perm.mp q))
  | x :: l, y :: m, hp, hl, hm => by
    obtain ⟨l1,l2⟩:=List.pairwise_cons.mp hl
    obtain ⟨m1,m2⟩:=List.pairwise_cons.mp hm
    have e:x = y:=by
      rcases List.mem_cons.mp (hp.mem_iff.mp (List.mem_cons_self ..)) with e | e
      · exact e
      · rcases List.mem_cons.mp (hp.mem_iff.mpr (List.mem_cons_self ..)) with e' | e'
        · exact e'.symm
        · exact anti x y (l1 y e') (m1 x e)
    subst e
    rw [Ziw anti ((List.perm_cons x).mp hp) l2 m2]
def TI (h:Heap) (b:Addr) (t:List Int):Prop:=∃ o its n,h.get? b = some o/\o.cls = .type "tuple"/\o.data = .seq its n/\IntsAre its.toList t
theorem TI.keep {h h':Heap} {b:Addr} {t:List Int} (x:TI h b t) (k:∀ o,h.get? b = some o->h'.get? b = some o):TI h' b t:=let ⟨o,its,n,e,r⟩:=x; ⟨o,its,n,k o e,r⟩
section
variable {prog:Program} {w:World} {A:Around} {E:Value->Shared->Prop} {s:Shared}
theorem Zq2 {fin:Bool} {Q:Bool->Shared->Prop}:∀ {vs ws:List Value} {a b:List Int} (i:Nat),IntsAre vs a->IntsAre ws b->fin = decide (vs.length < ws.length)->Q (HM.lexLt a b) s->KatLex prog w A true fin Q (vs.zip ws) i s
  | _,_,_,_,i,.nil,.nil,e,q=>by subst e; exact kat_nil q
  | _,_,_,_,i,.nil,.cons _ _ _,e,q=>by subst e; exact kat_nil q
  | _,_,_,_,i,.cons _ _ _,.nil,e,q=>by subst e; exact kat_nil q
  | _, _, _, _, i, .cons x t hv, .cons y u hw, e, q => by
    rw [List.zip_cons_cons]
    refine kat_cons (wpAny_eqBool_int ?_)
    rw [Zhd] at q
    by_cases h:x = y
    · rw [if_pos h] at q
      rw [show (x == y) = true by simpa using h]
      refine kat_yes (Zq2 (i + 1) hv hw ?_ q)
      rw [e,List.length_cons,List.length_cons]
      exact decide_eq_decide.mpr (by omega)
    · rw [if_neg h] at q
      rw [show (x == y) = false by simpa using h]
      refine kat_no ?_
      by_cases hi:i = 0
      · rw [show (true && i == 0) = true by simpa using hi]
        exact oneLt_int q
      · rw [show (true && i == 0) = false by simpa using hi]
        exact kat_one _ _ (PyProof.Rows.lt_int q)
theorem ZuL {x y:Addr} {a b:List Int} {Q:Bool->Shared->Prop} (hx:TI s.heap x a) (hy:TI s.heap y b) (h:Q (HM.lexLt a b) s):wpAny (model prog w) A (keyLt' (tuples' true) (.ref x) (.ref y)) Q E s:=by
 obtain ⟨ox,ix,n,e1,_,d1,r1⟩:=hx
 obtain ⟨oy,iy,k,e2,_,d2,r2⟩:=hy
 refine kat_lt e1 d1 e2 d2 (Zq2 0 r1 r2 ?_ h)
 rw [Array.length_toList,Array.length_toList]
theorem Zo3 {α:Type} {cmp:Nat->Nat->(Bool->Shared->Prop)->Shared->Prop} {o:Nat->Nat->Bool} {n:Nat} (hc:∀ i j C,i < n->j < n->C (o i j) s->cmp i j C s) {G:α->Shared->Prop}:∀ (t:KasT α),ZcX o n t (fun a=>G a s)->t.kasWp cmp G s
 | .ret a,h=>h
 | .ask i j k,h=>hc i j _ h.1 h.2.1 (Zo3 hc (k (o i j)) h.2.2)
theorem ZsP {a:Addr} {vs:List Value} {ts:List (List Int)} {n:Nat} {P:PySem.Fin->Shared->Prop} (ho:s.heap.get? a = some (seqObj "list" vs.toArray n)) (hl:ts.length = vs.length)
    (hT:∀ (i:Nat) t,ts[i]? = some t->∃ b,vs[i]? = some (.ref b)/\TI s.heap b t) (hne:vs.length < 2\/∀ t ∈ ts,t ≠ []) (h64:vs.length < 64)
    (h:∀ p:List Nat,p.Perm (List.range vs.length)->(p.map fun i=>ts.getD i []).Pairwise (fun x y=>HM.lexLt y x = false)->P (.done (.ret .none)) { s with heap:=sortedHeap s.heap a vs (p.map fun i=>vs.getD i Value.none).toArray }) :
    wpAny (model prog w) A (Builtin.«list.sort» ⟨[.ref a],[]⟩) P E s:=by
  rw [list_sort_plain]
  have ha:a < s.heap.objs.size:=Heap.lt_size ho
  refine wpAny_bind (listItems_at ho rfl (wpAny_bind (listUpdate_at ho rfl ?_ (by rw [List.size_toArray,sizeLine_eq]; omega) (Nat.zero_le _))))
  obtain ⟨e1,ho1⟩:∃ e1,(s.heap.update a (Obj.mapSeq fun _=>#[])).get? a = some (seqObj "list" #[] e1):=⟨_,get?_update_seq ho (fun _=>#[])⟩
  refine wpAny_bind (seqEpoch_at ho1 rfl ?_)
  refine wpAny_bind (wpAny_newTuple ?_ (by show vs.length <= _; rw [sizeLine_eq]; omega))
  refine wpAny_bind (wpAny_newList ?_ (Nat.zero_le _))
  refine wpAny_holding ?_
  generalize hG:((s.heap.update a (Obj.mapSeq fun _=>#[])).push (seqObj "tuple" vs.toArray 0)).push (seqObj "list" #[] 0) = g
  have ho6:g.get? a = some (seqObj "list" #[] e1):=by
    rw [<- hG,Heap.get?_push_ne _ _ _ (by rw [size_push',Heap.size_update]; exact Nat.ne_of_lt (Nat.lt_succ_of_lt ha)),Heap.get?_push_ne _ _ _ (by rw [Heap.size_update]; exact Nat.ne_of_lt ha)]
    exact ho1
  have hold:∀ b o,b ≠ a->s.heap.get? b = some o->g.get? b = some o:=fun b o hb e=>by
    have hlt:=Heap.lt_size e
    rw [<- hG,Heap.get?_push_ne _ _ _ (by rw [size_push',Heap.size_update]; exact Nat.ne_of_lt (Nat.lt_succ_of_lt hlt)),Heap.get?_push_ne _ _ _ (by rw [Heap.size_update]; exact Nat.ne_of_lt hlt),Heap.get?_update_ne _ _ _ _ hb]
    exact e
  have hT6:∀ (i:Nat) t,ts[i]? = some t->∃ b,vs[i]? = some (.ref b)/\TI g b t:=fun i t e=>by
    obtain ⟨b,e1,x⟩:=hT i t e
    refine ⟨b,e1,x.keep fun o q=>hold b o ?_ q⟩
    rintro rfl
    obtain ⟨o',_,_,q1,q2,_⟩:=x
    rw [ho] at q1
    cases q1
    injection q2 with q2
    exact absurd q2 (by decide)
  show wpAny (model prog w) A _ P E { s with heap:=g }
  dsimp only
  have fin:∀ (st':SortSt) (p:List Nat),p.Perm (List.range vs.length)->(p.map fun i=>ts.getD i []).Pairwise (fun x y=>HM.lexLt y x = false)->(arrOf st').map (·.2) = (p.map fun i=>vs.getD i Value.none).toArray->failedOf st' = none ->
      wpAny (model prog w) A (do
        let touched:=(<- seqEpoch a) != e1
        Builtin.List.listUpdate (.ref a) fun _=>(arrOf st').map (·.2)
        if let some e:=failedOf st' then rule "list.sort.comparison-raised"; throw e
        if touched then rule "list.sort.modified"; raiseError "ValueError" "list modified during sort"
        ret .none) P E { s with heap:=g }:=by
    intro st' p hp hs har hf
    refine wpAny_bind (seqEpoch_at ho6 rfl ?_)
    rw [har]
    refine wpAny_bind (listUpdate_at ho6 rfl ?_ (Nat.zero_le _) (by show (p.map fun i=>vs.getD i Value.none).toArray.size <= _; rw [List.size_toArray,List.length_map,hp.length_eq,List.length_range,sizeLine_eq]; omega))
    rw [hf]
    simp only [bne_self_eq_false,Bool.false_eq_true,if_false]
    refine wpAny_pure ?_
    have:=h p hp hs
    unfold sortedHeap at this
    rw [hG] at this
    exact this
  by_cases h2:vs.toArray.size < 2
  · rw [if_pos h2, if_pos h2]
    refine wpAny_bind (wpAny_pure ?_)
    rw [StateT.run_pure]
    refine wpAny_bind (wpAny_pure ?_)
    refine fin (SortSt.mk' general' (vs.toArray.zip vs.toArray) #[] 7 none) (List.range vs.length) (.refl _) ?_ ?_ rfl
    · rw [List.size_toArray] at h2
      have:vs.length = 0\/vs.length = 1:=by omega
      rcases this with e | e <;> rw [e] <;> simp
    · rw [List.size_toArray] at h2
      show Array.map (·.2) (vs.toArray.zip vs.toArray) = _
      match vs,h2 with
      | [],_=>simp
      | [v],_=>simp
  · rw [if_neg h2, if_neg h2]
    rw [List.size_toArray] at h2
    have hne':∀ t ∈ ts,t ≠ []:=hne.resolve_left h2
    have tups:∀ (vs:List Value) (ts:List (List Int)),ts.length = vs.length->(∀ (i:Nat) t,ts[i]? = some t->∃ b,vs[i]? = some (.ref b)/\TI g b t)->(∀ t ∈ ts,t ≠ [])->∃ fs,KatTups g vs fs/\fs.length = vs.length/\∀ v ∈ fs,∃ x t,v = Value.int x t:=by
      intro vs
      induction vs with
      | nil=>intro ts hl _ _; exact ⟨[],KatTups.nil,rfl,by simp⟩
      | cons v vs ih =>
        intro ts hl hT hn
        cases ts with
        | nil=>simp at hl
        | cons t ts =>
          obtain ⟨fs,f1,f2,f3⟩:=ih ts (by simpa using hl) (fun i t e=>hT (i + 1) t (by simpa using e)) fun x hx=>hn x (List.mem_cons_of_mem _ hx)
          obtain ⟨b,eb,o,its,m,g1,g2,g3,g4⟩:=hT 0 t rfl
          simp at eb
          subst eb
          cases t with
          | nil=>exact absurd rfl (hn [] (List.mem_cons_self ..))
          | cons x t =>
            cases hi:its.toList with
            | nil=>rw [hi] at g4; cases g4
            | cons y ys =>
              rw [hi] at g4
              cases g4 with
              | cons _ u _ =>
                refine ⟨.int x u :: fs,KatTups.cons g1 g2 g3 ?_ f1,by simp [f2],fun v hv=>?_⟩
                · rw [<- Array.getElem?_toList,hi]; rfl
                · rcases List.mem_cons.mp hv with e | e
                  · exact ⟨x,u,e⟩
                  · exact f3 v e
    obtain ⟨fs,f1,f2,f3⟩:=tups vs ts hl hT6 hne'
    refine wpAny_bind (kat_kind (s:={ s with heap:=g }) (T:=.type "int") f1 (by omega) (fun v hv=>?_) (by rfl) ?_)
    · obtain ⟨x, t, rfl⟩ := f3 v hv
      exact Looks.of_pure rfl
    rw [show (Value.type "int" != Value.type "tuple") = true by decide]
    refine wpAny_bind (wpAny_mono (kat_run (ks:=vs) (Q:=fun st' s'=>s' = { s with heap:=g }/\∃ p:Array Nat,Pm vs.length p/\Up Zm4 (fun i=>ts.getD i []) p vs.length/\arrOf st' = p.map (kas_item (vs.toArray.zip vs.toArray))/\failedOf st' = none)
      (G:=fun p s'=>s' = { s with heap:=g }/\Pm vs.length p/\Up Zm4 (fun i=>ts.getD i []) p vs.length) rfl (by omega) h64 (fun p' st' s' a1 a2 a3 a4=>⟨a4.1,p',a4.2.1,a4.2.2,a2,a3⟩) ?_) ?_ fun _ _ e=>e)
    · refine Zo3 (o := orc Zm4 fun i => ts.getD i []) (n := vs.length) (fun i j C hi hj hC => ?_) _ (Zqm (by omega) fun p h1 h2 => ⟨rfl, h1, h2⟩)
      have gi:ts[i]? = some (ts.getD i []):=by simp [show i < ts.length by omega]
      have gj:ts[j]? = some (ts.getD j []):=by simp [show j < ts.length by omega]
      obtain ⟨b1,v1,x1⟩:=hT6 i _ gi
      obtain ⟨b2,v2,x2⟩:=hT6 j _ gj
      show wpAny (model prog w) A (keyLt' _ (vs.getD i Value.none) (vs.getD j Value.none)) C _ _
      rw [show vs.getD i Value.none = .ref b1 by simp [List.getD,v1],show vs.getD j Value.none = .ref b2 by simp [List.getD,v2]]
      exact ZuL x1 x2 hC
    · rintro ⟨⟨⟩, st'⟩ s' ⟨rfl, p, hp, hu, har, hf⟩
      refine fin st' p.toList ?_ ?_ (kat_snds rfl har) hf
      · have := Array.perm_iff_toList_perm.mp hp.perm
        simpa using this
      · rw [List.pairwise_map, List.pairwise_iff_getElem]
        intro i j hi hj hij
        have hsz:=hp.size
        have q:=hu i j (Nat.le_of_lt hij) (by rw [Array.length_toList] at hj; omega)
        unfold Ka at q
        rw [show p.getD i 0 = p.toList[i] by simp [Array.getD,show i < p.size by simpa using hi],show p.getD j 0 = p.toList[j] by simp [Array.getD,show j < p.size by simpa using hj]] at q
        exact q
end
def ZfT (h:Heap) (d:Addr) (es:Array DictEntry) (ep:Nat):Prop:=∃ o,h.get? d = some o/\o.ExactDict/\o.data = .dict es ep
theorem ZfT.at' {h h':Heap} {d:Addr} {es:Array DictEntry} {ep:Nat} (x:ZfT h d es ep) (e:∀ o,h.get? d = some o->h'.get? d = some o):ZfT h' d es ep:=let ⟨o,ho,r⟩:=x; ⟨o,e _ ho,r⟩
theorem ZfT.typeIs {s:Shared} {d:Addr} {es:Array DictEntry} {ep:Nat} (x:ZfT s.heap d es ep):s.TypeIs (.ref d) "dict":=let ⟨o,ho,hc,_⟩:=x; ⟨o,ho,hc.1⟩
theorem ZfT.lt {h:Heap} {d:Addr} {es:Array DictEntry} {ep:Nat} (x:ZfT h d es ep):d < h.objs.size:=let ⟨o,ho,_⟩:=x; Heap.lt_size ho
section
variable {prog:Program} {w:World} {A:Around} {E:Value->Shared->Prop} {s:Shared} {it d:Addr} {es:Array DictEntry} {ep i:Nat}
theorem Znc {Q:Value->Shared->Prop} (hd:(d == sysModules) = false) (hm:ZfT s.heap d es ep)
  (hQ:Q (.ref s.heap.objs.size) { s with heap:=s.heap.push { cls:=.type "dict_keyiterator",data:=.fields #[.ref d,.int 0 0,.int es.size 0,.int ep 0] } }) :
  wpAny (model prog w) A (pyIter (.ref d)) Q E s:=by
 obtain ⟨o,ho,hc,hdat⟩:=id hm
 have hT:=hm.typeIs
 refine wpAny_pyIter_slot hT F.slot_dict_iter (wpAny_call_entry F.slot_dict_iter hT F.entry_dict_iter ?_ (F.args_dict_iter_1 _))
 unfold Builtin.«dict.__iter__»
 refine wpAny_bind ?_
 unfold Builtin.Dict.dictSlotNone
 refine wpAny_bind (wpAny_notOrdered_dict hT ?_)
 show wpAny _ _ (pure (Value.ref d)) _ _ s
 refine wpAny_pure ?_
 show wpAny _ _ (Builtin.Dict.showsAll d >>= _) _ _ s
 unfold Builtin.Dict.showsAll
 rw [if_neg (by rw [hd]; exact Bool.false_ne_true)]
 refine wpAny_bind (wpAny_pure (wpAny_bind (wpAny_dictEntries ho hdat (wpAny_bind (wpAny_dictEpoch ho hdat ?_)))))
 refine wpAny_bind (wpAny_newObj_type (wpAny_pure ⟨_,rfl,"dict_keyiterator",_,⟨_,Heap.get?_push_size _ rfl,rfl⟩,F.slot_dict_keyiterator_next.lookup,?_⟩))
 simpa [rawInt] using hQ
theorem ZnG {e:DictEntry} {Q:Option Value->Shared->Prop} (hit:s.heap.IsKeyIter it d i es.size ep) (hm:ZfT s.heap d es ep) (hx:es[i]? = some e)
  (hQ:∀ h',h'.IsKeyIter it d (i + 1) es.size ep->Heap.SameBut it s.heap h'->Q (some e.key) { s with heap:=h' }) :
  wpAny (model prog w) A (pyNext (.ref it)) Q E s:=by
 obtain ⟨o,ho,hc,hd⟩:=id hit
 obtain ⟨od,hod,hcd,hdd⟩:=id hm
 unfold pyNext
 refine wpAny_bind (wpAny_attempt (wpAny_callSpecial?_slot (name:=Str.ofString "__next__") hit.typeIs F.slot_dict_keyiterator_next
  (wpAny_call_entry F.slot_dict_keyiterator_next hit.typeIs F.entry_dict_keyiterator_next ?_ (F.args_dict_keyiterator_next_1 _))))
 refine wpAny_bind (wpAny_pure (wpAny_bind (wpAny_bind ?_)))
 first | refine wpAny_bind (wpAny_typeNameOfWhole_keyiter hit.typeIs (wpAny_pure ?_)) | refine wpAny_bind (wpAny_typeNameOf_keyiter hit.typeIs (wpAny_pure ?_))
 refine wpAny_bind (wpAny_fieldsOf ho hd ?_)
 have hown:Builtin.Dict_items.ownsTuple "dict_keyiterator" = false:=by decide
 simp only [hown,Bool.false_eq_true,if_false]
 show wpAny _ _ (if (Value.ref d == Value.none) = true then _ else _) _ _ s
 rw [if_neg (show ¬ ((Value.ref d == Value.none) = true) from Bool.false_ne_true)]
 refine wpAny_bind (wpAny_pure (wpAny_bind (wpAny_dictEntries hod hdd ?_)))
 rw [if_neg (by simp)]
 refine wpAny_bind (wpAny_pure (wpAny_bind (wpAny_dictEpoch hod hdd ?_)))
 rw [if_neg (by simp)]
 refine wpAny_pure ?_
 obtain ⟨hlt,he⟩:=Array.getElem?_eq_some_iff.mp hx
 simp only [show ¬ ((i:Int) < 0) from by omega,if_false,Int.toNat_natCast,Array.getElem?_eq_getElem hlt]
 refine wpAny_bind ?_
 first | refine wpAny_bind (wpAny_typeNameOfWhole_keyiter hit.typeIs (wpAny_pure ?_)) | refine wpAny_bind (wpAny_typeNameOf_keyiter hit.typeIs (wpAny_pure ?_))
 refine wpAny_bind (wpAny_isOneOf_keyiter hit.typeIs ?_)
 show wpAny _ _ (setField (.ref it) 1 (rawInt ((i:Int) + 1)) >>= _) _ _ s
 refine wpAny_bind (wpAny_setField ho hd (by simp) ?_)
 have hit':(s.heap.update it (Obj.mapFields (·.setIfInBounds 1 (rawInt ((i:Int) + 1))))).IsKeyIter it d (i + 1) es.size ep :=
  ⟨_,Heap.get?_update_self _ ho (Obj.isFreed_of_fields (Obj.data_mapFields hd _)),(Obj.cls_mapFields ..).trans hc,by rw [Obj.data_mapFields hd]; simp [rawInt]⟩
 refine wpAny_bind (wpAny_holding ?_)
 refine wpAny_bind (wpAny_isOneOf_keyiter (s:={ s with heap:=s.heap.update it (Obj.mapFields (·.setIfInBounds 1 (rawInt ((i:Int) + 1)))) }) hit'.typeIs ?_)
 show wpAny _ _ (pure es[i].key) _ _ _
 refine wpAny_pure (wpAny_pure ⟨_,rfl,wpAny_pure ?_⟩)
 rw [he]
 exact hQ _ hit' (Heap.SameBut.update ..)
theorem Zo9 {Q:Option Value->Shared->Prop} (hh:A.handled = none) (hit:s.heap.IsKeyIter it d i es.size ep) (hm:ZfT s.heap d es ep) (hx:es.size <= i)
  (hQ:∀ h',Heap.ExtBut it s.heap h'->Q none { s with heap:=h' }):wpAny (model prog w) A (pyNext (.ref it)) Q E s:=by
 obtain ⟨o,ho,hc,hd⟩:=id hit
 obtain ⟨od,hod,hcd,hdd⟩:=id hm
 unfold pyNext
 refine wpAny_bind (wpAny_attempt (wpAny_callSpecial?_slot (name:=Str.ofString "__next__") hit.typeIs F.slot_dict_keyiterator_next
  (wpAny_call_entry F.slot_dict_keyiterator_next hit.typeIs F.entry_dict_keyiterator_next ?_ (F.args_dict_keyiterator_next_1 _))))
 refine wpAny_bind (wpAny_pure (wpAny_bind (wpAny_bind ?_)))
 first | refine wpAny_bind (wpAny_typeNameOfWhole_keyiter hit.typeIs (wpAny_pure ?_)) | refine wpAny_bind (wpAny_typeNameOf_keyiter hit.typeIs (wpAny_pure ?_))
 refine wpAny_bind (wpAny_fieldsOf ho hd ?_)
 have hown:Builtin.Dict_items.ownsTuple "dict_keyiterator" = false:=by decide
 simp only [hown,Bool.false_eq_true,if_false]
 show wpAny _ _ (if (Value.ref d == Value.none) = true then _ else _) _ _ s
 rw [if_neg (show ¬ ((Value.ref d == Value.none) = true) from Bool.false_ne_true)]
 refine wpAny_bind (wpAny_pure (wpAny_bind (wpAny_dictEntries hod hdd ?_)))
 rw [if_neg (by simp)]
 refine wpAny_bind (wpAny_pure (wpAny_bind (wpAny_dictEpoch hod hdd ?_)))
 rw [if_neg (by simp)]
 refine wpAny_pure ?_
 simp only [show ¬ ((i:Int) < 0) from by omega,if_false,Int.toNat_natCast,Array.getElem?_eq_none hx]
 refine wpAny_bind ?_
 first | refine wpAny_bind (wpAny_typeNameOfWhole_keyiter hit.typeIs (wpAny_pure ?_)) | refine wpAny_bind (wpAny_typeNameOf_keyiter hit.typeIs (wpAny_pure ?_))
 show wpAny _ _ (setField (.ref it) 0 .none >>= _) _ _ s
 refine wpAny_bind (wpAny_setField ho hd (by simp) ?_)
 show wpAny _ _ (newExc (.type "StopIteration") [] >>= _) _ _ _
 refine wpAny_bind ?_
 simp only [newExc,newTuple]
 refine wpAny_bind (wpAny_newObj_type ?_ (by size_fits))
 refine wpAny_bind (m:=firstArgMember _ _) (wpAny_of_eq (a:=Value.none) (by first | rfl | (simp only [firstArgMember]; rfl)) ?_)
 refine wpAny_newObj_type ?_ (by size_fits)
 simp only [raiseNew]
 refine wpAny_bind (wpAny_handled ?_)
 rw [show A.in1.handled = none from hh]
 refine wpAny_bind (wpAny_pure (wpAny_throw ?_))
 refine wpAny_bind (wpAny_isInstance (T:="StopIteration") (b:=true) ⟨_,Heap.get?_push_size _ rfl,rfl⟩ isSubtype_stop ?_)
 exact wpAny_pure (hQ _ (((Heap.SameBut.update ..).extBut.push _).push _))
theorem Zq7 (hh:A.handled = none) (I d:Addr) (hne:d ≠ I) (es:Array DictEntry) (ep:Nat) :
  Walks prog w A I [I,d] [I] es.size (fun i v=>∃ e,es[i]? = some e/\v = e.key) (fun i h=>h.IsKeyIter I d i es.size ep/\ZfT h d es ep) where
 sub:=fun b hb=>by simp at hb; simp [hb]
 frame:=fun _ _ _ st hk=>⟨st.1.at fun o e=>hk I (by simp) o e,st.2.at' fun o e=>hk d (by simp) o e⟩
 item:=fun i s Q E hi st hQ=>by
  have hx:es[i]? = some es[i]:=Array.getElem?_eq_getElem hi
  refine ZnG st.1 st.2 hx fun h' hit' hs'=>?_
  exact hQ _ h' s.toks ⟨_,hx,rfl⟩ ⟨hit',st.2.at' fun o e=>hs'.extBut d o hne e⟩ fun b o hb e=>hs'.extBut b o (fun h=>hb (by simp [h])) e
 done:=fun s Q E st hQ=>Zo9 hh st.1 st.2 (Nat.le_refl _) fun h' he'=>hQ h' s.toks fun b o hb e=>he' b o (fun h=>hb (by simp [h])) e
 self:=fun _ _ _ _ st hQ=>wpAny_pyIter_keyiter st.1 hQ
end
end HP
namespace HP
open PySem PySem.Spec PySem.W PySem.Calls PyProof.Rows L2
section
variable {prog:Program} {w:World} {A:Around} {E:Value->Shared->Prop} {s:Shared}
theorem Zsa {r:Addr} {Q:Bool->Shared->Prop} (hT:s.TypeIs (.ref r) "set") (h:Q false s):wpAny (model prog w) A (Builtin.List.listLengthHint (.ref r)) Q E s:=by
 unfold Builtin.List.listLengthHint
 refine wpAny_bind (wpAny_specialOf hT PySem.F.slot_set_len.lookup ?_)
 generalize hid:("set.__len__":String) = id0
 wp_delta
 rw [show splitId id0 = some ("set","__len__") from by subst hid; decide +kernel]
 subst hid
 refine wpAny_bind (wpAny_isInstance (T:="set") (b:=true) hT (by rw [isSubtype_type]; kernel_rfl) ?_)
 refine wpAny_ite_split (fun q=>absurd q (by decide)) fun _=>?_
 refine wpAny_ite_split (fun _=>?_) (fun q=>absurd (by decide +kernel) q)
 exact wpAny_bind (wpAny_typeOf hT (wpAny_pure h))
theorem Ztl {d:Addr} {es:Array DictEntry} {ep:Nat} (lo:(d == sysModules) = false):KdlSrc prog w "dict" d d es.size (fun i v=>∃ e,es[i]? = some e/\v = e.key) (fun h=>ZfT h d es ep) where
 type:=fun _ hm=>hm.typeIs
 there:=fun _ hm=>⟨hm.lt,hm.lt⟩
 keep:=fun _ _ hm hk=>hm.at' fun o e=>hk d (.inl rfl) o e
 notList:=by decide
 notTuple:=by decide
 hint:=fun _ _ _ _ hm hq=>kdl_hint_dict hm.typeIs hq
 iter:=fun _ _ hh hm=>⟨_,_,(fun _ _ hq=>Znc lo hm hq),Zq7 hh _ d (Nat.ne_of_lt hm.lt) es ep,⟨⟨_,Heap.get?_push_size _ rfl,rfl,rfl⟩,hm.at' fun o e=>Heap.get?_push_of_some _ e⟩⟩
theorem Zfy.typeIs {a:Addr} {es:Array (Int × Value)} {ep:Nat} {t:SetTable} (x:Zfy w s.heap a es ep t):s.TypeIs (.ref a) "set":=let ⟨o,ho,hc,_⟩:=x.obj; ⟨o,ho,hc.1⟩
theorem Zfy.lt {h:Heap} {a:Addr} {es:Array (Int × Value)} {ep:Nat} {t:SetTable} (x:Zfy w h a es ep t):a < h.objs.size:=let ⟨o,ho,_⟩:=x.obj; Heap.lt_size ho
theorem Ztn {a:Addr} {es:Array (Int × Value)} {ep:Nat} {t:SetTable}:KdlSrc prog w "set" a a es.size (fun i v=>∃ e,(ZeV w a es ep)[i]? = some e/\v = e.2) (fun h=>Zfy w h a es ep t) where
 type:=fun _ hm=>hm.typeIs
 there:=fun _ hm=>⟨hm.lt,hm.lt⟩
 keep:=fun _ _ hm hk=>hm.at' fun o e=>hk a (.inl rfl) o e
 notList:=by decide
 notTuple:=by decide
 hint:=fun _ _ _ _ hm hq=>Zsa hm.typeIs hq
 iter:=fun _ _ hh hm=>⟨_,_,(fun _ _ hq=>Zr6 hm hq),Zre hh _ a (Nat.ne_of_lt hm.lt) es ep t,⟨0,⟨_,Heap.get?_push_size _ rfl,rfl,rfl⟩,hm.at' fun o e=>Heap.get?_push_of_some _ e,fun _=>ZpW hm.tab.rise⟩⟩
theorem ZhC {T:String} {r d:Addr} {n:Nat} {P:Nat->Value->Prop} {OK:Heap->Prop} {R:List Value->Shared->Prop} (K:KdlSrc prog w T r d n P OK) (hh:A.handled = none) (hok:OK s.heap) (hn:n <= sizeLine)
    (h:∀ (h':Heap) (tk:Nat) (acc:Array Value),(∀ b o,s.heap.get? b = some o->h'.get? b = some o)->s.heap.objs.size < h'.objs.size->ItemsOf P acc n->R acc.toList { s with heap:=h',toks:=tk }) :
    wpAny (model prog w) A (collect (.ref r)) R E s:=by
  have hlt:=K.there _ hok
  unfold collect
  refine wpAny_bind (wpAny_runValue (codeAny_builtin entry_proto_collect' ?_))
  rw [Around.under_plainId PySem.F.plain_proto_collect _]
  show wpAny _ A.in1 (newList [] >>= fun l=>again (.builtin "list.__iadd__" ⟨[l,.ref r],[]⟩)) _ _ s
  refine wpAny_bind (wpAny_newObj_type (wpAny_pure ⟨plainId_quiet PySem.F.plain_list_iadd _,codeAny_builtin entry_list_iadd' ?_⟩))
  rw [Around.under_plainId PySem.F.plain_list_iadd _]
  have hS₁:(s.heap.push { cls:=.type "list",data:=.seq ([]:List Value).toArray }).get? s.heap.objs.size = some { cls:=.type "list",data:=.seq #[] }:=Heap.get?_push_size _ rfl
  show wpAny _ A.in1 (Builtin.List.listExtendWith (.ref s.heap.objs.size) (.ref r) (.ref s.heap.objs.size)) _ _ _
  refine wpAny_mono (kdl_extend (A:=A) (s:={ s with heap:=s.heap.push { cls:=.type "list",data:=.seq ([]:List Value).toArray } })
    (R:=fun (q:Result) (s':Shared)=>∃ (h':Heap) (tk:Nat) (acc':Array Value) (c':Nat),q = .ok (.ret (.ref s.heap.objs.size))/\s' = { s with heap:=h',toks:=tk } /\
      (∀ b o,s.heap.get? b = some o->h'.get? b = some o)/\h'.get? s.heap.objs.size = some { cls:=.type "list",dict:=none,data:=.seq acc' c',slots:=#[] }/\ItemsOf P acc' n)
    K hh (K.keep _ _ hok fun b _ o e=>Heap.get?_push_of_some _ e) s.heap.objs.size (Nat.ne_of_gt hlt.1) (Nat.ne_of_gt hlt.2) (.ref s.heap.objs.size) 0 hS₁
    (fun h' tk acc' c' hk hS' hacc=>⟨h',tk,acc',c',rfl,rfl,fun b o e=>hk b o (Nat.ne_of_lt (Heap.lt_size e)) (Heap.get?_push_of_some _ e),hS',hacc⟩) hn) (fun fin s' x=>?_) fun e s' x=>?_
  · have go:∀ (h':Heap) (tk:Nat) (acc':Array Value) (c':Nat),(∀ b o,s.heap.get? b = some o->h'.get? b = some o)->h'.get? s.heap.objs.size = some { cls:=.type "list",dict:=none,data:=.seq acc' c',slots:=#[] }->ItemsOf P acc' n ->
        wpAny (model prog w) A (load s.heap.objs.size >>= fun o=>match o.data with | .seq xs _=>pure xs.toList | _=>unsupported "internal:collect") R E { s with heap:=h',toks:=tk }:=fun h' tk acc' c' hk hS' hacc =>
      wpAny_bind (wpAny_load hS' (wpAny_pure (h h' tk acc' hk (Heap.lt_size hS') hacc)))
    cases fin with
    | done f =>
      obtain ⟨h',tk,acc',c',e,rfl,hk,hS',hacc⟩:=x
      cases e
      exact go h' tk acc' c' hk hS' hacc
    | again c₁ =>
      refine ⟨x.1,codeAny_mono x.2 fun q s₂ y=>?_⟩
      obtain ⟨h',tk,acc',c',rfl,rfl,hk,hS',hacc⟩:=y
      exact go h' tk acc' c' hk hS' hacc
  · obtain ⟨_, _, _, _, e', _⟩ := x
    cases e'
end
inductive Zi7 (K:PySem.W.Frag) (F H:Hp) (p:Addr):List PyData->Prop where
 | lst {ds:List PyData} {vs:List V} (h:SqL K H p vs) (r:ZC K F ds vs):Zi7 K F H p ds
 | tup {ds:List PyData} {vs:List V} (h:SqT K H p vs) (r:ZC K F ds vs):Zi7 K F H p ds
 | dk {kvs:List (Key × V)} (h:H p = some (.dK kvs)):Zi7 K F H p (kvs.map fun q=>HM.ZaO q.1)
 | dt {kvs:List (List Key × V)} (h:H p = some (.dT kvs)):Zi7 K F H p (kvs.map fun q=>.tuple (q.1.map HM.ZaO))
theorem ZtW {K:PySem.W.Frag} {F:Hp} (k:Key):Rep K F (HM.ZaO k) (kV k):=by
 cases k with
 | inl i=>exact .int i
 | inr x=>exact .str x
theorem Zhr {K:PySem.W.Frag} {F:Hp}:∀ (ks:List Key),ZC K F (ks.map HM.ZaO) (ks.map kV)
 | []=>.nil
 | k :: ks=>.cons (ZtW k) (Zhr ks)
theorem Ztq {P:Program} {w:World} {k:Key} {u:Value} (h:(Zau P w).is k u = true):RelV (kV k) u:=by
 rw [ZpD] at h
 rcases Zbe h with ⟨i,t,rfl,rfl⟩ | ⟨x,t,rfl,rfl⟩
 ·exact ⟨t,rfl⟩
 ·exact ⟨t,rfl⟩
section
variable {X:Cx} {pins:List (Addr × Obj)} {σ:L2.St} {H F:Hp} {s:Shared} {p:Addr} {ds:List PyData}
theorem ZhP:∀ {vs:List V} {us:List Value},vs.length = us.length->(∀ (i:Nat) v u,vs[i]? = some v->us[i]? = some u->RelV v u)->Vals vs us
 | [],[],_,_=>.nil
 | [],_ :: _,h,_=>by simp at h
 | _ :: _,[],h,_=>by simp at h
 | v :: vs,u :: us,h,k=>.cons (k 0 v u rfl rfl) (ZhP (by simpa using h) fun i a b e1 e2=>k (i + 1) a b (by simpa using e1) (by simpa using e2))
theorem Zi7.gath (I:Inv X pins σ H s) (sub:Zw F H) (h:Zi7 X.K F H p ds):∃ vs,ZC X.K (ZcW F H) ds vs/\∀ (A:Around) (E:Value->Shared->Prop) (R:List Value->Shared->Prop),A.handled = none ->
    (∀ us h' tk,Vals vs us->(∀ b o,s.heap.get? b = some o->h'.get? b = some o)->R us { s with heap:=h',toks:=tk })->wpAny (model X.prog X.w) A (collect (.ref p)) R E s:=by
  cases h with
  | @lst _ vs h r =>
    obtain ⟨its,rv,pl,hz⟩:=I.list h
    obtain ⟨o,ho,hcl,n,hd⟩:=pl.isList
    refine ⟨vs,r.mono (Zec sub),fun A E R _ k=>wpAny_collect_seq p (.inl rfl) ho hcl hd (fun h' kp=>?_) (by rw [List.size_toArray,<- rv.length]; exact hz)⟩
    exact k its h' s.toks rv kp
  | @tup _ vs h r =>
    obtain ⟨its,rv,pl,hz⟩:=I.tuple h
    obtain ⟨o,ho,hcl,n,hd⟩:=pl
    refine ⟨vs,r.mono (Zec sub),fun A E R _ k=>wpAny_collect_seq p (.inr rfl) ho hcl hd (fun h' kp=>?_) (by rw [List.size_toArray,<- rv.length]; exact hz)⟩
    exact k its h' s.toks rv kp
  | @dk kvs h =>
    obtain ⟨z,lo,vs,rel,dd⟩:=ZpJ I.hok h
    obtain ⟨ep,hat⟩:=dd.dictAt
    have hl:kvs.length = vs.length:=Paired.length rel
    refine ⟨kvs.map fun q=>kV q.1,?_,fun A E R hh k=>ZhC (kdl_dict (knd:=Zau X.prog X.w) (kvs:=vs) (ep:=ep) lo) hh hat (by omega) fun h' tk acc kp hsz hacc=>k _ h' tk ?_ kp⟩
    · have := Zhr (K := X.K) (F := ZcW F H) (kvs.map (·.1))
      rw [List.map_map,List.map_map] at this
      exact this
    · refine ZhP (by have q : acc.toList.length = acc.size := Array.length_toList; rw [List.length_map, q, hacc.1, hl]) fun i v u e1 e2 => ?_
      obtain ⟨kk,x,q1,q2⟩:=hacc.2 i u (by rw [<- Array.getElem?_toList]; exact e2)
      rw [List.getElem?_map] at e1
      obtain ⟨q,e3,e4⟩:=Option.map_eq_some_iff.mp e1
      subst e4
      have key:∀ {l:List (Key × V)} {m:List (Key × Value)},KV l m->∀ (i:Nat) a b,l[i]? = some a->m[i]? = some b->a.1 = b.1:=by
        intro l m r
        induction r with
        | nil=>intro i a b e; simp at e
        | cons hq _ ih =>
          intro i a b e1 e2
          cases i with
          | zero=>simp at e1 e2; subst e1; subst e2; exact hq.1
          | succ i=>exact ih i a b (by simpa using e1) (by simpa using e2)
      have ek:=key rel i q (kk,x) e3 q1
      rw [ek]
      exact Ztq q2
  | @dt kvs h =>
    obtain ⟨z,lo,xs,rel,o,es,ep,h1,h2,h3,h4,h5⟩:=(show Zap X.prog X.w H s.heap p (.dT kvs) from I.hok p _ h)
    have hl:kvs.length = xs.length:=Paired.length rel
    have hes:es.size = xs.length:=by rw [<- Array.length_toList,h4,List.length_map]
    have hm:ZfT s.heap p es ep:=⟨o,h1,h2,h3⟩
    refine ⟨xs.map fun q=>V.ref q.2.1,?_,fun A E R hh k=>ZhC (Ztl (es:=es) (ep:=ep) lo) hh hm (by omega) fun h' tk acc kp hsz hacc=>k _ h' tk ?_ kp⟩
    · clear h4 hes hl z h h5
      induction rel with
      | nil=>exact .nil
      | @cons p0 _ _ _ hq _ ih =>
        obtain ⟨q1,q2,_⟩:=hq
        rw [List.map_cons,List.map_cons]
        refine .cons ?_ ih
        have rk:=Zhr (K:=X.K) (F:=ZcW F H) p0.1
        exact .tup (Zkd q2) rk.1 rk.2
    · refine ZhP (by have q : acc.toList.length = acc.size := Array.length_toList; rw [List.length_map, q, hacc.1, hes]) fun i v u e1 e2 => ?_
      obtain ⟨e,q1,q2⟩:=hacc.2 i u (by rw [<- Array.getElem?_toList]; exact e2)
      subst q2
      rw [List.getElem?_map] at e1
      obtain ⟨q,e3,e4⟩:=Option.map_eq_some_iff.mp e1
      subst e4
      rw [<- Array.getElem?_toList,h4,List.getElem?_map,e3] at q1
      cases q1
      rfl
theorem ZdW {K:PySem.W.Frag} {F:Hp}:∀ {ds:List PyData} {vs:List V} {ns:List Int},HM.Zbk ds = some ns->ZC K F ds vs->vs = ns.map V.int
  | [], vs, ns, h, r => by
    cases h
    exact r.nil_inv
  | d :: ds, vs, ns, h, r => by
    obtain ⟨v,us,rfl,r1,r2⟩:=r.cons_inv
    cases d with
    | int b =>
      obtain ⟨bs',h1,h2⟩:=Option.map_eq_some_iff.mp h
      subst h2
      rw [r1.int_inv,ZdW h1 r2]
      rfl
    | none=>cases h
    | bool _=>cases h
    | str _=>cases h
    | list _=>cases h
    | tuple _=>cases h
    | dict _=>cases h
theorem Zo2:∀ (t:List Int),HM.Zbk (HM.ofInts t) = some t
  | []=>rfl
  | x :: t => by
    show (HM.Zbk (HM.ofInts t)).map (x :: ·) = _
    rw [Zo2 t]
    rfl
theorem ZnI:∀ {ds:List PyData} {ns:List Int},HM.Zbk ds = some ns->ds = HM.ofInts ns
  | [],ns,h=>by cases h; rfl
  | d :: ds, ns, h => by
    cases d with
    | int b =>
      obtain ⟨bs',h1,h2⟩:=Option.map_eq_some_iff.mp h
      subst h2
      rw [ZnI h1]
      rfl
    | none=>cases h
    | bool _=>cases h
    | str _=>cases h
    | list _=>cases h
    | tuple _=>cases h
    | dict _=>cases h
theorem Zgf {K:PySem.W.Frag} {F:Hp}:∀ (ns:List Int),ZC K F (HM.ofInts ns) (ns.map V.int)
 | []=>.nil
 | n :: ns=>.cons (.int n) (Zgf ns)
theorem Zge:∀ {ns:List Int} {us:List Value},Vals (ns.map V.int) us->IntsAre us ns
  | [],_,r=>by rw [List.map_nil] at r; cases r; exact .nil
  | n :: ns, _, r => by
    rw [List.map_cons] at r
    cases r with
    | cons h t=>obtain ⟨u,rfl⟩:=h; exact .cons n u (Zge t)
theorem Zil:∀ {us:List Value} {ns:List Int},IntsAre us ns->Vals (ns.map V.int) us
 | _,_,.nil=>.nil
 | _,_,.cons n t h=>.cons ⟨t,rfl⟩ (Zil h)
theorem Znr:∀ {ds:List PyData} {ts:List (List Int)},HM.Zjs ds = some ts->ds = HM.Zgh ts
  | [],ts,h=>by cases h; rfl
  | d :: ds, ts, h => by
    cases d with
    | tuple es =>
      unfold HM.Zjs at h
      split at h
      · rename_i ns hn
        obtain ⟨r',h1,h2⟩:=Option.map_eq_some_iff.mp h
        subst h2
        rw [ZnI hn,Znr h1]
        rfl
      · cases h
    | none=>cases h
    | bool _=>cases h
    | int _=>cases h
    | str _=>cases h
    | list _=>cases h
    | dict _=>cases h
theorem Znf {ns ms:List Int} (h:ms.Perm ns) (hs:ms.Pairwise (· <= ·)):ms = HM.sortI ns:=by
 refine Ziw (R:=(· <= ·)) (fun a b h1 h2=>by omega) (h.trans (List.mergeSort_perm ns _).symm) hs ?_
 have:=List.pairwise_mergeSort (le:=fun a b:Int=>decide (a <= b)) (fun a b c h1 h2=>by simp at *; omega) (fun a b=>by simp; omega) ns
 exact this.imp fun h=>by simpa using h
theorem ZsO {ts us:List (List Int)} (h:us.Perm ts) (hs:us.Pairwise (fun x y=>HM.lexLt y x = false)):us = HM.ZeT ts:=by
  refine Ziw (R:=fun x y=>HM.lexLt y x = false) (fun a b h1 h2=>Zjg a b h2 h1) (h.trans (List.mergeSort_perm ts _).symm) hs ?_
  have:=List.pairwise_mergeSort (le:=fun a b:List Int=>!HM.lexLt b a) (fun a b c h1 h2=>by
    simp only [Bool.not_eq_true'] at *
    cases q:HM.lexLt c a with
    | false=>rfl
    | true =>
      rcases Zk8 c b a q with z | z
      · rw [h2] at z; cases z
      · rw [h1] at z; cases z) (fun a b=>by
    cases q:HM.lexLt b a with
    | false=>simp
    | true =>
      cases q2:HM.lexLt a b with
      | false=>simp
      | true=>have:=lex_trans _ _ _ q q2; rw [lex_irrefl] at this; cases this) ts
  exact this.imp fun h=>by simpa using h
theorem Zj5 {h:Heap} {a:Addr} {vs:List Value} {out:Array Value} {b:Addr} {o:Obj} (hb:b ≠ a) (e:h.get? b = some o):(sortedHeap h a vs out).get? b = some o:=by
 rw [sortedHeap_old hb (Heap.lt_size e)]; exact e
theorem Zm3 (hc:X.calm = true):Za7 X (.builtin "sorted") (fun xs H Q=>∃ p F ds ds',xs = [.ref p]/\Zw F H/\Zi7 X.K F H p ds/\HM.ZfZ ds = some ds'/\∀ l ws,H l = none->ZC X.K (ZcW F H) ds' ws->Q (.ref l) (upd H l (.lst ws))):=by
  intro pins s σ H xs us Q I r h
  obtain ⟨p,F,ds,ds',rfl,sub,hsrc,hsort,q⟩:=h
  obtain ⟨u,rfl,rx⟩:=vals1 r
  cases rx
  obtain ⟨vs,rv,go⟩:=hsrc.gath I sub
  unfold HM.ZfZ at hsort
  split at hsort
  · rename_i h64
    have hvl:=rv.1
    refine Calls.call_function_entry kind_sorted plain_sorted entry_sorted (args_sorted1 _) ?_
    unfold Builtin.«sorted»
    refine wpAny_bind (m:=checkCount "sorted" 1 1 _) (wpAny_pure ?_)
    refine wpAny_bind (go _ _ _ (I.ok.hd hc) fun us h' tk ru kp=>?_)
    have hul:=ru.length
    refine wpAny_bind (wpAny_newList ?_ (by rw [sizeLine_eq]; omega))
    have hoL:(h'.push (seqObj "list" us.toArray 0)).get? h'.objs.size = some (seqObj "list" us.toArray 0):=Heap.get?_push_size _ rfl
    have fin:∀ (out:Array Value) (ws:List V),Vals ws out.toList->ZC X.K (ZcW F H) ds' ws->ws.length < 64->EP X pins σ Q (.ref h'.objs.size) { s with heap:=sortedHeap (h'.push (seqObj "list" us.toArray 0)) h'.objs.size us out,toks:=tk }:=fun out ws rw' rd hw=>by
      obtain ⟨e,he⟩:=sortedHeap_at (out:=out) hoL
      have I1:Inv X pins σ H { s with heap:=h',toks:=tk }:=I.kept kp
      refine ⟨.ref h'.objs.size,_,I1.laid (a:=h'.objs.size) (o:=.lst ws) (t':=tk) (fun b o e1=>?_) (Nat.le_refl _) ⟨by rw [sizeLine_eq]; omega,out.toList,e,rw',by simpa using he⟩,rfl,q _ ws (I1.hok.fresh (Nat.le_refl _)) rd⟩
      exact Zj5 (Nat.ne_of_lt (Heap.lt_size e1)) (Heap.get?_push_of_some _ e1)
    show wpAny _ _ _ _ _ { s with heap:=h'.push (seqObj "list" us.toArray 0),toks:=tk }
    split at hsort
    · rename_i ns hns
      cases hsort
      have evs:=ZdW hns rv
      rw [evs] at ru
      have hI:=Zge ru
      refine wpAny_bind (wpAny_holding (wpAny_call_entry slot_list_sort ⟨_,hoL,rfl⟩ entry_list_sort (list_sort_tree hoL hI (by omega) fun out ns' a1 a2 a3=>⟨_,rfl,?_⟩) (args_list_sort _)))
      refine wpAny_pure ⟨_,rfl,?_⟩
      have e:=Znf a2 a3
      have hl:ns'.length < 64:=by rw [a2.length_eq,<- hI.length,<- hul]; omega
      refine fin out (ns'.map V.int) (Zil a1) ?_ (by rw [List.length_map]; exact hl)
      rw [<- e]
      exact Zgf ns'
    · split at hsort
      · rename_i ts hts
        split at hsort
        · rename_i hne
          cases hsort
          have eds:=Znr hts
          have hT:∀ (i:Nat) t,ts[i]? = some t->∃ b,us[i]? = some (.ref b)/\TI (h'.push (seqObj "list" us.toArray 0)) b t:=fun i t e=>by
            have ed:ds[i]? = some (.tuple (HM.ofInts t)):=by rw [eds]; unfold HM.Zgh; rw [List.getElem?_map,e]; rfl
            obtain ⟨v,hv,rp⟩:=rv.get ed
            generalize hq:HM.ofInts t = q at rp
            cases rp with
            | @tupk b x h1 =>
              exfalso
              cases t with
              | nil=>cases hq
              | cons a t =>
                injection hq with e1 _
                cases e1
            | @tup b _ xs hb hl hr =>
              subst hq
              obtain ⟨u,hu,ru'⟩:=ru.get hv
              cases ru'
              have ev:=ZdW (F:=ZcW F H) (Zo2 t) ⟨hl,hr⟩
              subst ev
              have hH:H b = some (.tup (t.map V.int)):=(Ext.refl sub).tups.sub _ _ hb
              obtain ⟨z,its,rt,o,h1,h2,n,h3⟩:=(show Zap X.prog X.w H s.heap b (.tup (t.map V.int)) from I.hok b _ hH)
              exact ⟨b,hu,o,its.toArray,n,Heap.get?_push_of_some _ (kp b o h1),h2,h3,by simpa using Zge rt⟩
          have hlt:ts.length = us.length:=by
            have:=congrArg List.length eds
            unfold HM.Zgh at this
            rw [List.length_map] at this
            omega
          refine wpAny_bind (wpAny_holding (wpAny_call_entry slot_list_sort ⟨_,hoL,rfl⟩ entry_list_sort (ZsP hoL hlt hT ?_ (by omega) fun pm hp hs=>⟨_,rfl,?_⟩) (args_list_sort _)))
          · rw [Bool.or_eq_true] at hne
            rcases hne with z | z
            · left
              have:=of_decide_eq_true z
              omega
            · right
              intro t ht e
              have:=List.all_eq_true.mp z t ht
              rw [e] at this
              cases this
          · refine wpAny_pure ⟨_, rfl, ?_⟩
            have hpl:pm.length = us.length:=by rw [hp.length_eq,List.length_range]
            have hmem:∀ i ∈ pm,i < us.length:=fun i hi=>List.mem_range.mp (hp.mem_iff.mp hi)
            have e:(pm.map fun i=>ts.getD i []) = HM.ZeT ts:=by
              refine ZsO ?_ hs
              refine (hp.map _).trans ?_
              have:(List.range us.length).map (fun i=>ts.getD i []) = ts:=by
                refine List.ext_getElem (by simp [hlt]) fun i h1 h2=>?_
                simp at h1
                simp [List.getD,show i < ts.length by omega]
              rw [this]
            refine fin _ (pm.map fun i=>vs.getD i V.non) ?_ ?_ (by rw [List.length_map]; omega)
            · refine ZhP (by simp) fun k v u e1 e2 => ?_
              rw [List.getElem?_map] at e1
              rw [List.toList_toArray,List.getElem?_map] at e2
              obtain ⟨i,hi,rfl⟩:=Option.map_eq_some_iff.mp e1
              rw [hi] at e2
              cases e2
              have hlt':=hmem i (List.mem_of_getElem? hi)
              have hv:vs[i]? = some (vs.getD i V.non):=by simp [List.getD,show i < vs.length by omega]
              obtain ⟨u,hu,ru'⟩:=ru.get hv
              have:us.getD i Value.none = u:=by simp [List.getD,hu]
              show RelV _ (us.getD i Value.none)
              rw [this]
              exact ru'
            · rw [<- e]
              refine ⟨by unfold HM.Zgh; simp,fun k d v e1 e2=>?_⟩
              unfold HM.Zgh at e1
              rw [List.getElem?_map,List.getElem?_map] at e1
              rw [List.getElem?_map] at e2
              obtain ⟨i,hi,rfl⟩:=Option.map_eq_some_iff.mp e2
              rw [hi] at e1
              have hlt':=hmem i (List.mem_of_getElem? hi)
              have hd:ds[i]? = some d:=by
                rw [eds]; unfold HM.Zgh
                rw [List.getElem?_map]
                have:ts[i]? = some (ts.getD i []):=by simp [List.getD,show i < ts.length by omega]
                rw [this]
                exact e1
              have hv:vs[i]? = some (vs.getD i V.non):=by simp [List.getD,show i < vs.length by omega]
              exact rv.2 i d _ hd hv
        · cases hsort
      · cases hsort
  · cases hsort
end
end HP
namespace HP
open PySem PySem.Spec PySem.W PySem.Calls PyProof.Rows L2
section
variable {prog:Program} {w:World} {A:Around} {E:Value->Shared->Prop} {s:Shared}
theorem Zmq {r:Addr} {a b c:Int} {t u v:Tok} {n:Nat} {R:List Value->Shared->Prop} (hh:A.handled = none) (hr:IsRange s.heap r a b c t u v) (hsmall:Builtin.Range.small a b c = true) (hn:Builtin.Range.rangeSize a b c = n) (hlen:n <= 2 ^ 24)
    (h:∀ (h':Heap) (tk:Nat) (acc:Array Value),(∀ b o,s.heap.get? b = some o->h'.get? b = some o)->ItemsOf (fun i v=>∃ t,v = .int (a + i * c) t) acc n->R acc.toList { s with heap:=h',toks:=tk }) :
    wpAny (model prog w) A (collect (.ref r)) R E s:=by
  unfold collect
  refine wpAny_bind (wpAny_runValue (codeAny_builtin entry_proto_collect' ?_))
  rw [Around.under_plainId PySem.F.plain_proto_collect _]
  show wpAny _ A.in1 (newList [] >>= fun l=>again (.builtin "list.__iadd__" ⟨[l,.ref r],[]⟩)) _ _ s
  refine wpAny_bind (wpAny_newObj_type (wpAny_pure ⟨plainId_quiet PySem.F.plain_list_iadd _,codeAny_builtin entry_list_iadd' ?_⟩))
  rw [Around.under_plainId PySem.F.plain_list_iadd _]
  have hS₁:(s.heap.push { cls:=.type "list",data:=.seq ([]:List Value).toArray }).get? s.heap.objs.size = some { cls:=.type "list",data:=.seq #[] }:=Heap.get?_push_size _ rfl
  show wpAny _ A.in1 (Builtin.List.listExtendWith (.ref s.heap.objs.size) (.ref r) (.ref s.heap.objs.size)) _ _ _
  have hr1:IsRange (s.heap.push { cls:=.type "list",data:=.seq ([]:List Value).toArray }) r a b c t u v:=Heap.get?_push_of_some _ hr
  refine wpAny_mono (wpAny_extend_range (A:=A) (s:={ s with heap:=s.heap.push { cls:=.type "list",data:=.seq ([]:List Value).toArray } })
    (R:=fun (q:Result) (s':Shared)=>∃ (h':Heap) (tk:Nat) (acc':Array Value) (c':Nat),q = .ok (.ret (.ref s.heap.objs.size))/\s' = { s with heap:=h',toks:=tk } /\
      (∀ b o,s.heap.get? b = some o->h'.get? b = some o)/\h'.get? s.heap.objs.size = some { cls:=.type "list",dict:=none,data:=.seq acc' c',slots:=#[] }/\ItemsOf (fun i v=>∃ t,v = .int (a + i * c) t) acc' n)
    hh hr1 hsmall hn hlen s.heap.objs.size (.ref s.heap.objs.size) 0 hS₁
    (fun h' tk acc' c' hk hS' hacc=>⟨h',tk,acc',c',rfl,rfl,fun b o e=>hk b o (Nat.ne_of_lt (Heap.lt_size e)) (Heap.get?_push_of_some _ e),hS',hacc⟩)) (fun fin s' x=>?_) fun e s' x=>?_
  · have go:∀ (h':Heap) (tk:Nat) (acc':Array Value) (c':Nat),(∀ b o,s.heap.get? b = some o->h'.get? b = some o)->h'.get? s.heap.objs.size = some { cls:=.type "list",dict:=none,data:=.seq acc' c',slots:=#[] }->ItemsOf (fun i v=>∃ t,v = .int (a + i * c) t) acc' n ->
        wpAny (model prog w) A (load s.heap.objs.size >>= fun o=>match o.data with | .seq xs _=>pure xs.toList | _=>unsupported "internal:collect") R E { s with heap:=h',toks:=tk }:=fun h' tk acc' c' hk hS' hacc =>
      wpAny_bind (wpAny_load hS' (wpAny_pure (h h' tk acc' hk hacc)))
    cases fin with
    | done f =>
      obtain ⟨h',tk,acc',c',e,rfl,hk,hS',hacc⟩:=x
      cases e
      exact go h' tk acc' c' hk hS' hacc
    | again c₁ =>
      refine ⟨x.1,codeAny_mono x.2 fun q s₂ y=>?_⟩
      obtain ⟨h',tk,acc',c',rfl,rfl,hk,hS',hacc⟩:=y
      exact go h' tk acc' c' hk hS' hacc
  · obtain ⟨_, _, _, _, e', _⟩ := x
    cases e'
end
theorem ZjL (r:Addr) (a b c:Int) (t u v:Tok) (n:Nat) (hsmall:Builtin.Range.small a b c = true) (hn:Builtin.Range.rangeSize a b c = n) (hlen:n <= 2 ^ 24) :
  Meets (Builtin.«tuple.__new__» ⟨[.type "tuple",.ref r],[]⟩)
   (fun A R s=>A.handled = none/\IsRange s.heap r a b c t u v/\∀ (h':Heap) (tk:Nat) (acc:Array Value),(∀ b o',s.heap.get? b = some o'->h'.get? b = some o')->ItemsOf (fun i v=>∃ t,v = .int (a + i * c) t) acc n ->
    R (.ok (.ret (.ref h'.objs.size))) { s with heap:=h'.push { cls:=.type "tuple",data:=.seq acc },toks:=tk }) :=
 .of_wp fun prog w A R s h=>by
  obtain ⟨hp,g,d,tk,os⟩:=s; obtain ⟨hh,ht,h⟩:=h
  have hsub:=PySem.sub_tuple_self
  have hinit:=PySem.init_tuple_lookup
  have hmh:=PySem.madeHere_tuple
  have hT:Shared.TypeIs ⟨hp,g,d,tk,os⟩ (.ref r) "range":=⟨_,ht,rfl⟩
  have hh1:A.in1.handled = none:=hh
  wp_walk using wpAny_typeOf hT,Zmq hh1 ht hsmall hn hlen
  intro h' tk' acc hk hacc
  show wpAny _ _ (Builtin.Tuple.tupleExact acc.toList.toArray >>= fun v=>ret v) _ _ _
  unfold Builtin.Tuple.tupleExact
  have e:acc.toList.toArray = acc:=by simp
  rw [e]
  refine wpAny_bind (wpAny_newObj_type ?_ (by show acc.size <= sizeLine; rw [hacc.1,sizeLine_eq]; omega))
  exact wpAny_pure ⟨_,rfl,h h' tk' acc hk hacc⟩
section
variable {X:Cx} {a b c e:Expr} {fa fb fc:HM.EF} {pos p:Pos} {f:HM.BF}
theorem Zm5:Za7 X (.type "range") (fun xs H Q=>∃ j,xs = [.int j]/\∀ l,H l = none->Q (.ref l) (upd H l (.rng 0 j))):=by
 intro pins s σ H xs us Q I r h
 obtain ⟨j,rfl,q⟩:=h
 obtain ⟨u,rfl,rx⟩:=vals1 r
 obtain ⟨t,rfl⟩:=rx
 refine call_range_1 ⟨.ref s.heap.objs.size,_,I.laid (a:=s.heap.objs.size) (o:=.rng 0 j) (fun b o e=>Heap.get?_push_of_some _ e) (Nat.le_refl _) ?_,rfl,q _ (I.hok.fresh (Nat.le_refl _))⟩
 exact ⟨_,_,_,Heap.get?_push_size _ rfl⟩
theorem ZoF (hc:X.calm = true):Za7 X (.type "tuple") (fun xs H Q=>∃ p lo hi,xs = [.ref p]/\H p = some (.rng lo hi)/\-1000000 < lo/\lo < 1000000/\-1000000 < hi/\hi < 1000000 /\
  ∀ l,H l = none->Q (.ref l) (upd H l (.tup ((List.range (hi - lo).toNat).map fun (k:Nat)=>V.int (lo + k))))):=by
 intro pins s σ H xs us Q I r h
 obtain ⟨p,lo,hi,rfl,hp,h1,h2,h3,h4,q⟩:=h
 obtain ⟨u,rfl,rx⟩:=vals1 r
 cases rx
 obtain ⟨t,u,v,ho⟩:=(show Zap X.prog X.w H s.heap p (.rng lo hi) from I.hok p _ hp)
 have hn:Builtin.Range.rangeSize lo hi 1 = ((hi - lo).toNat:Nat):=by rw [rangeSize_one]; split <;> omega
 refine callType_new PySem.F.called_tuple (by decide) (PySem.F.typeCall_tuple_1 _) (PySem.F.newCall_tuple_1 _) (fun obj=>PySem.F.args_object_init_2 obj _) PySem.F.entry_tuple_new
  (ZjL p lo hi 1 t u v (hi - lo).toNat (small_one (by omega) (by omega) (by omega) (by omega)) hn (by omega)) ⟨I.ok.hd hc,ho,fun h' tk' acc kp hacc=>⟨⟨_,Heap.get?_push_size _ rfl,rfl⟩,?_⟩⟩
 have I1:Inv X pins σ H { s with heap:=h',toks:=tk' }:=I.kept kp
 have rv:Vals ((List.range (hi - lo).toNat).map fun (k:Nat)=>V.int (lo + k)) acc.toList:=by
  refine ZhP (by have z:acc.toList.length = acc.size:=Array.length_toList; rw [List.length_map,List.length_range,z,hacc.1]) fun i v u e1 e2=>?_
  rw [List.getElem?_map] at e1
  obtain ⟨k,hk,rfl⟩:=Option.map_eq_some_iff.mp e1
  obtain ⟨t,rfl⟩:=hacc.2 i u (by rw [<- Array.getElem?_toList]; exact e2)
  have:k = i:=by
   have:=List.getElem?_eq_some_iff.mp hk
   obtain ⟨_,e⟩:=this
   simpa using e.symm
  subst this
  exact ⟨t,by simp⟩
 have I2:=I1.laid (a:=h'.objs.size) (o:=.tup ((List.range (hi - lo).toNat).map fun (k:Nat)=>V.int (lo + k))) (h':=h'.push { cls:=.type "tuple",data:=.seq acc }) (t':=tk') (fun b o e=>Heap.get?_push_of_some _ e) (Nat.le_refl _)
  ⟨by rw [List.length_map,List.length_range,sizeLine_eq]; omega,acc.toList,rv,by simpa using IsTup.new _ _⟩
 exact ⟨.ref h'.objs.size,_,I2,rfl,q _ (I1.hok.fresh (Nat.le_refl _))⟩
theorem ZoG {K:PySem.W.Frag} {F:Hp} (lo:Int) (n:Nat):ZC K F (HM.ZbT lo n) ((List.range n).map fun (k:Nat)=>V.int (lo + k)):=by
 unfold HM.ZbT
 refine ⟨by simp,fun i d v e1 e2=>?_⟩
 rw [List.getElem?_map] at e1 e2
 obtain ⟨k,hk,rfl⟩:=Option.map_eq_some_iff.mp e1
 rw [hk] at e2
 cases e2
 exact .int _
theorem Zoi (hmt:X.mg "tuple" = none) (hm:X.mg "range" = none) (hc:X.calm = true) (ha:XE X a fa) {p' pos':Pos} (hgt:Gl X "tuple":=by rfl) (hg:Gl X "range":=by rfl) (hs:starEach [a] X.env = [(false,eval a X.env)]:=by rfl)
  (hs2:starEach [Expr.Call (.Name "range" p') [a] [] pos'] X.env = [(false,eval (Expr.Call (.Name "range" p') [a] [] pos') X.env)]:=by rfl) :
  XE X (.Call (.Name "tuple" p) [.Call (.Name "range" p') [a] [] pos'] [] pos) (HM.Zkn (HM.ZbV fa)):=by
 intro r d hd
 unfold HM.Zkn at hd
 split at hd
 ·rename_i ds hds
  split at hd
  ·cases hd
   unfold HM.ZbV at hds
   split at hds
   ·rename_i j hj
    split at hds
    ·rename_i hok
     cases hds
     obtain ⟨k1,k2⟩:=Zjv hok
     refine PE.imp (ZdX (ZoF hc) hgt hmt Zkh (Zav (ZdX Zm5 hg hm boot_range (Zav (ha r _ hj) ZbU hs) (he:=hs)) ZbU hs2) (he:=hs2)) fun σ H Q ⟨F0,H0,F,at_,k⟩=>?_
     refine ⟨F0,H0,F,at_,fun v F1 H1 x1 r1=>⟨j,by rw [r1.int_inv],fun l hl=>?_⟩⟩
     refine ⟨l,0,j,rfl,ZP,by omega,by omega,by omega,by omega,fun l2 hl2=>?_⟩
     have x2:=x1.lay' (o:=.rng 0 j) hl
     have x3:=x2.lay (o:=.tup ((List.range (j - 0).toNat).map fun (k:Nat)=>V.int (0 + k))) hl2
     have rp:=ZoG (K:=X.K) (F:=upd F1 l2 (.tup ((List.range (j - 0).toNat).map fun (k:Nat)=>V.int (0 + k)))) 0 j.toNat
     have ej:(j - 0).toNat = j.toNat:=by omega
     refine k _ _ _ x3 (.tup ZP ?_ ?_)
     ·rw [ej]; exact rp.1
     ·rw [ej] at rp ⊢; exact rp.2
    ·cases hds
   ·cases hds
  ·cases hd
 ·cases hd
theorem ZqY {K:PySem.W.Frag} {F H:Hp} {q:HM.B} {v:V} {fp:List Addr} {ds:List PyData} (sub:Zw F H) (r:Zat K F H q v fp) (h:HM.Zs6 q = some ds):∃ a,v = .ref a/\Zi7 K F H a ds:=by
  cases r with
  | pl r =>
    cases r with
    | tup h1 h2 h3=>cases h; exact ⟨_,rfl,.tup (.of (sub _ _ h1)) ⟨h2,h3⟩⟩
    | @tupk a x h1=>cases h; exact ⟨_,rfl,.tup (.inr h1) (.one (.str x))⟩
    | lst h1 h2 h3=>cases h; exact ⟨_,rfl,.lst (sub.seq h1) ⟨h2,h3⟩⟩
    | dct _ _ _ _=>cases h
    | non=>cases h
    | bl _=>cases h
    | int _=>cases h
    | str _=>cases h
  | ol h1 r=>cases h; exact ⟨_,rfl,.lst (.of h1) r⟩
  | hd _ _ _ _=>cases h
  | @ok a kvs vvs h1 h2 h3 =>
    cases h
    refine ⟨_,rfl,?_⟩
    have e:(kvs.map fun p=>HM.ZaO p.1) = vvs.map fun p=>HM.ZaO p.1:=by
      have:=congrArg (List.map HM.ZaO) h2
      rwa [List.map_map,List.map_map] at this
    rw [e]
    exact .dk h1
  | @ot a kvs vvs h1 h2 h3 =>
    cases h
    refine ⟨_,rfl,?_⟩
    have e:(kvs.map fun p=>PyData.tuple (p.1.map HM.ZaO)) = vvs.map fun p=>PyData.tuple (p.1.map HM.ZaO):=by
      have:=congrArg (List.map fun k:List Key=>PyData.tuple (k.map HM.ZaO)) h2
      rwa [List.map_map,List.map_map] at this
    rw [e]
    exact .dt h1
  | @otl a kvs vvs ls h1 h2 h3 h4 =>
    cases h
    refine ⟨_,rfl,?_⟩
    have e:(kvs.map fun p=>PyData.tuple (p.1.map HM.ZaO)) = vvs.map fun p=>PyData.tuple (p.1.map HM.ZaO):=by
      have:=congrArg (List.map fun k:List Key=>PyData.tuple (k.map HM.ZaO)) h2
      rwa [List.map_map,List.map_map] at this
    rw [e]
    exact .dt h1
theorem Zhi (hm:X.mg "sorted" = none) (hc:X.calm = true) (ha:XB X a f) (hg:Gl X "sorted":=by rfl) (hs:starEach [a] X.env = [(false,eval a X.env)]:=by rfl):XF X (.Call (.Name "sorted" p) [a] [] pos) (HM.ZgJ f):=by
 intro r d h
 unfold HM.ZgJ at h
 split at h
 ·rename_i x hx
  split at h
  ·rename_i ds hds
   obtain ⟨ds',h1,h2⟩:=Option.map_eq_some_iff.mp h
   subst h2
   refine PE.imp (Zd0 (Zm3 hc) hg hm ZlF (Zg1 ha hx hs) (he:=hs)) fun σ H Q ⟨F0,H0,F,at_,k⟩=>?_
   refine ⟨F0,H0,F,at_,fun v fp F1 H1 x1 r1=>?_⟩
   obtain ⟨l,e1,src⟩:=ZqY x1.sub r1 hds
   subst e1
   exact ⟨l,F1,ds,ds',rfl,x1.sub,src,h1,fun l' ws hl' rs=>ZfN (P:=fun v _ H'=>Q v H') x1.tups rs hl' k⟩
  ·cases h
 ·cases h
theorem Zqs (hc:X.calm = true):Za7 X (.type "set") (fun xs H Q=>∃ p ns,xs = [.ref p]/\SqL X.K H p (ns.map V.int)/\(∀ n ∈ ns,0 <= n/\n < 8)/\∀ l,H l = none->Q (.ref l) (upd H l (.ext fun h=>Zeq X.prog X.w h l (HM.dedup [] ns)))):=by
 intro pins s σ H xs us Q I r h
 obtain ⟨p,ns,rfl,hq,hb,q⟩:=h
 obtain ⟨u,rfl,rx⟩:=vals1 r
 cases rx
 obtain ⟨its,rv,pl,hz⟩:=I.list hq
 refine ZqW (I.ok.hd hc) pl.isList (by simpa using Zge rv) hb fun h' tk hS kp=>?_
 have hS':=hS
 obtain ⟨o,es,ep,t,ho,_⟩:=hS'
 refine ⟨.ref s.heap.objs.size,_,I.laid (a:=s.heap.objs.size) (o:=.ext fun h=>Zeq X.prog X.w h s.heap.objs.size (HM.dedup [] ns)) (fun b o e=>kp b o (Heap.lt_size e) e) (Nat.le_refl _) ?_,rfl,q _ (I.hok.fresh (Nat.le_refl _))⟩
 exact ⟨hS,⟨o,ho⟩,fun h1 h2 x kk=>x.at' kk⟩
theorem Zn5 (hc:X.calm = true):Za7 X (.builtin "sorted") (fun xs H Q=>∃ p L,xs = [.ref p]/\H p = some (.ext fun h=>Zeq X.prog X.w h p L)/\∀ l,H l = none->Q (.ref l) (upd H l (.lst ((HM.sortI L).map V.int)))):=by
  intro pins s σ H xs us Q I r h
  obtain ⟨p,L,rfl,hp,q⟩:=h
  obtain ⟨u,rfl,rx⟩:=vals1 r
  cases rx
  obtain ⟨hX,_,_⟩:=(show Zap X.prog X.w H s.heap p (.ext fun h=>Zeq X.prog X.w h p L) from I.hok p _ hp)
  obtain ⟨o,es,ep,t,ho,hex,hd,hen,hpm,hpl,ht⟩:=hX
  have hsz:=size_of hpl
  have hfew:=ht.few
  have raw:Zfy X.w s.heap p es ep t:=⟨⟨o,ho,hex,hd⟩,by rw [hsz]; exact ht.fits,hsz,ht⟩
  refine Calls.call_function_entry kind_sorted plain_sorted entry_sorted (args_sorted1 _) ?_
  unfold Builtin.«sorted»
  refine wpAny_bind (m:=checkCount "sorted" 1 1 _) (wpAny_pure ?_)
  refine wpAny_bind (ZhC (Ztn (es:=es) (ep:=ep) (t:=t)) (I.ok.hd hc) raw (by rw [sizeLine_eq]; omega) fun h' tk acc kp _ hacc=>?_)
  have hal:acc.toList.length = es.size:=by rw [Array.length_toList]; exact hacc.1
  have hI:IntsAre acc.toList ((ZeV X.w p es ep).toList.map Zfz):=by
    have key:∀ (us:List Value) (xs:List (Int × Value)),us.length = xs.length->(∀ (i:Nat) u,us[i]? = some u->∃ e,xs[i]? = some e/\u = e.2)->(∀ e ∈ xs,∃ n t,e = ((intKind X.prog X.w).hash n,Value.int n t))->IntsAre us (xs.map Zfz):=by
      intro us
      induction us with
      | nil=>intro xs hl _ _; cases xs with | nil=>exact .nil | cons _ _=>simp at hl
      | cons u us ih =>
        intro xs hl hk he
        cases xs with
        | nil=>simp at hl
        | cons x xs =>
          obtain ⟨e,e1,e2⟩:=hk 0 u rfl
          simp at e1
          subst e1
          obtain ⟨n,t,e3⟩:=he x (List.mem_cons_self ..)
          rw [e2,e3]
          exact .cons n t (ih xs (by simpa using hl) (fun i u e=>hk (i + 1) u (by simpa using e)) fun e h=>he e (List.mem_cons_of_mem _ h))
    refine key acc.toList (ZeV X.w p es ep).toList (by rw [hal,Array.length_toList,Zi5]) (fun i u e=>?_) fun e h=>hen e ((Zje X.w p es ep).mem_iff.mp h)
    obtain ⟨e',e1,e2⟩:=hacc.2 i u (by rw [<- Array.getElem?_toList]; exact e)
    exact ⟨e',by rw [Array.getElem?_toList]; exact e1,e2⟩
  refine wpAny_bind (wpAny_newList ?_ (by rw [hal,sizeLine_eq]; omega))
  have hoL:(h'.push (seqObj "list" acc.toList.toArray 0)).get? h'.objs.size = some (seqObj "list" acc.toList.toArray 0):=Heap.get?_push_size _ rfl
  show wpAny _ _ _ _ _ { s with heap:=h'.push (seqObj "list" acc.toList.toArray 0),toks:=tk }
  refine wpAny_bind (wpAny_holding (wpAny_call_entry slot_list_sort ⟨_,hoL,rfl⟩ entry_list_sort (list_sort_tree hoL hI (by omega) fun out ns' a1 a2 a3=>⟨_,rfl,?_⟩) (args_list_sort _)))
  refine wpAny_pure ⟨_,rfl,?_⟩
  have e:ns' = HM.sortI L:=Znf (a2.trans (((Zje X.w p es ep).map Zfz).trans hpm)) a3
  have hl:ns'.length < 64:=by rw [a2.length_eq,<- hI.length,hal]; omega
  obtain ⟨ee,he⟩:=sortedHeap_at (out:=out) hoL
  have I1:Inv X pins σ H { s with heap:=h',toks:=tk }:=I.kept kp
  refine ⟨.ref h'.objs.size,_,I1.laid (a:=h'.objs.size) (o:=.lst (ns'.map V.int)) (t':=tk) (fun b o e1=>?_) (Nat.le_refl _) ⟨by rw [List.length_map,sizeLine_eq]; omega,out.toList,ee,Zil a1,by simpa using he⟩,rfl,?_⟩
  · exact Zj5 (Nat.ne_of_lt (Heap.lt_size e1)) (Heap.get?_push_of_some _ e1)
  · rw [e]; exact q _ (I1.hok.fresh (Nat.le_refl _))
theorem ZiJ (hm:X.mg "sorted" = none) (hm2:X.mg "set" = none) (hc:X.calm = true) {p' pos':Pos} (ha:XB X a f) (hg:Gl X "sorted":=by rfl) (hg2:Gl X "set":=by rfl) (hs:starEach [a] X.env = [(false,eval a X.env)]:=by rfl)
  (hs2:starEach [Expr.Call (.Name "set" p') [a] [] pos'] X.env = [(false,eval (Expr.Call (.Name "set" p') [a] [] pos') X.env)]:=by rfl) :
  XF X (.Call (.Name "sorted" p) [.Call (.Name "set" p') [a] [] pos'] [] pos) (HM.ZgH f):=by
 intro r d h
 unfold HM.ZgH at h
 split at h
 ·rename_i x hx
  split at h
  ·rename_i ds hds
   split at h
   ·rename_i ns hns
    split at h
    ·rename_i hlow
     cases h
     refine PE.imp (Zd0 (Zn5 hc) hg hm ZlF (Zav (ZdX (Zqs hc) hg2 hm2 ZuJ (Zg1 ha hx hs) (he:=hs)) ZbU hs2) (he:=hs2)) fun σ H Q ⟨F0,H0,F,at_,k⟩=>?_
     refine ⟨F0,H0,F,at_,fun v fp F1 H1 x1 r1=>?_⟩
     obtain ⟨l,vs,e1,hq,rs⟩:=Zin x1.sub r1 hds
     subst e1
     rw [ZdW hns rs] at hq
     refine ⟨l,ns,rfl,hq,fun n hn=>?_,fun l2 hl2=>⟨l2,_,rfl,ZP,fun l3 hl3=>?_⟩⟩
     ·have:=List.all_eq_true.mp hlow n hn
      rw [Bool.and_eq_true,decide_eq_true_eq,decide_eq_true_eq] at this
      exact this
     ·have x2:=x1.lay' (o:=.ext fun h=>Zeq X.prog X.w h l2 (HM.dedup [] ns)) hl2
      exact ZfN (P:=fun v _ H'=>Q v H') x2 (Zgf _) hl3 k
    ·cases h
   ·cases h
  ·cases h
 ·cases h
end
end HP
namespace HP
open PySem PySem.Spec PyProof.Rows L2
section
variable {X:Cx} {a b:Expr} {fa:HM.EF} {f:HM.BF} {pos:Pos}
theorem Zko (i:Int):∀ ns:List Int,inV (.int i) (ns.map V.int) = ns.contains i
  | []=>rfl
  | n :: ns => by
    have ih:=Zko i ns
    unfold inV at ih ⊢
    rw [List.map_cons,List.any_cons,ih,List.contains_cons]
    show (n == i || _) = (i == n || _)
    rw [show (n == i) = (i == n) from Bool.eq_iff_iff.mpr ⟨fun h=>beq_iff_eq.mpr (beq_iff_eq.mp h).symm,fun h=>beq_iff_eq.mpr (beq_iff_eq.mp h).symm⟩]
theorem Zjk:∀ ns:List Int,(ns.map V.int).all Za6 = true
 | []=>rfl
 | n :: ns=>by rw [List.map_cons,List.all_cons,Zjk ns]; rfl
theorem ZrV {r:HM.Env} {d:PyData} (h:HM.ZnK fa f r = some d):∃ i q ds ns,fa r = some (.int i)/\f r = some q/\HM.Zbb q = some ds/\HM.Zbk ds = some ns/\d = .bool (ns.contains i):=by
 unfold HM.ZnK at h
 split at h
 ·split at h
  ·split at h
   ·obtain ⟨c,h1,h2⟩:=Option.map_eq_some_iff.mp h
    obtain ⟨ns,h3,h4⟩:=Option.map_eq_some_iff.mp h1
    exact ⟨_,_,_,ns,by assumption,by assumption,by assumption,h3,by rw [<- h2,<- h4]⟩
   ·cases h
  ·cases h
 ·cases h
theorem ZoI {r:HM.Env} {d:PyData} (h:HM.ZhT fa f r = some d):∃ i q ds ns,fa r = some (.int i)/\f r = some q/\HM.Zbb q = some ds/\HM.Zbk ds = some ns/\d = .bool (!ns.contains i):=by
 unfold HM.ZhT at h
 split at h
 ·split at h
  ·split at h
   ·obtain ⟨c,h1,h2⟩:=Option.map_eq_some_iff.mp h
    obtain ⟨ns,h3,h4⟩:=Option.map_eq_some_iff.mp h1
    exact ⟨_,_,_,ns,by assumption,by assumption,by assumption,h3,by rw [<- h2,<- h4]⟩
   ·cases h
  ·cases h
 ·cases h
theorem Zsb {neg:Bool} {r:HM.Env} {i:Int} {q:HM.B} {ds:List PyData} {ns:List Int} (ha:XE X a fa) (hb:XB X b f) (h1:fa r = some (.int i)) (h2:f r = some q) (h3:HM.Zbb q = some ds) (h4:HM.Zbk ds = some ns) {op:CmpOp} (ho:OpR X (compareOp op) (rIn X.K neg)) (hm:behindInMarks op b = false) :
  PE X (.Compare a [op] [b] pos) (tAt X.K r fun _ F' _ v=>v = .bl (if neg then !ns.contains i else ns.contains i)):=by
 refine PE.imp (Zo0 ho (ha r _ h1) (hb r q h2) hm) fun σ H Q ⟨F0,H0,F,at_,k⟩=>?_
 refine ⟨F0,H0,F,at_,fun v F1 H1 x1 r1=>⟨F0,H0,F1,at_.grow x1,fun w F2 H2 x2 ⟨fp,r2⟩=>?_⟩⟩
 obtain ⟨p,vs,e1,hq,rs⟩:=ZgZ x2.sub r2 h3
 cases r1
 rw [ZdW h4 rs] at hq
 refine ⟨p,_,e1,hq,rfl,Zjk ns,k _ F2 H2 (x1.trans x2) ?_⟩
 rw [Zko]
theorem ZsI {neg:Bool} {r:HM.Env} {i:Int} {q:HM.B} {ds:List PyData} {ns:List Int} (ha:XE X a fa) (hb:XB X b f) (h1:fa r = some (.int i)) (h2:f r = some q) (h3:HM.Zbb q = some ds) (h4:HM.Zbk ds = some ns) {op:CmpOp} (ho:OpR X (compareOp op) (rIn X.K neg)) (hm:behindInMarks op b = false) :
  PT X (.Compare a [op] [b] pos) fun σ H Q=>Now X.K r σ H fun F0 H0 F=>∀ F' H',Ext F H F' H'->Q (if neg then !ns.contains i else ns.contains i) H':=by
 refine PT.imp (Zjx ho (ha r _ h1) (hb r q h2) hm) fun σ H Q ⟨F0,H0,F,at_,k⟩=>?_
 refine ⟨F0,H0,F,at_,fun v F1 H1 x1 r1=>⟨F0,H0,F1,at_.grow x1,fun w F2 H2 x2 ⟨fp,r2⟩=>?_⟩⟩
 obtain ⟨p,vs,e1,hq,rs⟩:=ZgZ x2.sub r2 h3
 cases r1
 rw [ZdW h4 rs] at hq
 refine ⟨p,_,e1,hq,rfl,Zjk ns,_,rfl,?_⟩
 rw [Zko]
 exact k F2 H2 (x1.trans x2)
theorem Zt6 (ha:XE X a fa) (hb:XB X b f) (hm:behindInMarks .In b = false:=by rfl):XE X (.Compare a [.In] [b] pos) (HM.ZnK fa f):=by
 intro r d h
 obtain ⟨i,q,ds,ns,h1,h2,h3,h4,rfl⟩:=ZrV h
 refine PE.imp (Zsb ha hb h1 h2 h3 h4 Zrc hm) fun σ H Q ⟨F0,H0,F,at_,k⟩=>⟨F0,H0,F,at_,fun v F' H' x e=>k v F' H' x ?_⟩
 subst e
 exact .bl _
theorem Zqg (ha:XE X a fa) (hb:XB X b f) (hm:behindInMarks .NotIn b = false:=by rfl):XT X (.Compare a [.NotIn] [b] pos) (HM.tV (HM.ZhT fa f)):=by
 intro r d h
 obtain ⟨i,q,ds,ns,h1,h2,h3,h4,e⟩:=ZoI (Zgb h)
 cases e
 exact ZsI ha hb h1 h2 h3 h4 ZnM hm
end
end HP
namespace HP
open PySem PySem.Spec PyProof.Rows L2
section
variable {X:Cx} {c e:Expr} {fa:HM.EF} {t:HM.TF} {g:HM.SF} {pos:Pos} {body:List Stmt}
theorem Zj8 (n:Nat) (hxe:X.xe = fun _ _=>False) (hc:XT X c t) (hb:XSs X body g):XS X (.While c body [] pos) (HM.ZkH n t g):=by
  intro r o ho
  have ho:HM.ZaE t g n r = some o:=ho
  have pb:PSs X body (fun E σ H=>∃ r o,g r = some o/\tSt X.K r o E σ H):=fun pins s σ H E I ⟨r,o,h1,h2⟩=>hb r o h1 pins s σ H E I h2
  have pc:PT X c (fun σ H Q=>∃ r b,t r = some b/\Now X.K r σ H fun F0 H0 F=>∀ F' H',Ext F H F' H'->Q b H'):=fun pins s σ H Q I ⟨r,b,h1,h2⟩=>hc r b h1 pins s σ H Q I h2
  refine PS.imp (Zr9 (ZlL hxe) pc pb) fun E σ H ⟨F0,H0,F,at_,k⟩=>?_
  refine ⟨fun m σ H=>∃ F r,At X.K F0 H0 F H r σ/\HM.ZaE t g m r = some o,⟨n,F,r,at_,ho⟩,?_⟩
  rintro m σ H ⟨F2,r2,at2,go⟩
  cases m with
  | zero=>cases go
  | succ m =>
    unfold HM.ZaE at go
    split at go
    · rename_i ht
      refine ⟨r2,true,ht,F0,H0,F2,at2,fun F' H' x=>?_⟩
      dsimp only
      rw [if_pos rfl]
      have at3:=at2.grow x
      have a4:=at3.rebase
      refine ⟨fun σ' H'=>∃ F r,At X.K F0 H0 F H' r σ'/\HM.ZaE t g m r = some o,fun σ' H' q=>⟨m,Nat.lt_succ_self m,q⟩,?_⟩
      split at go
      · rename_i r' hr
        exact ⟨_,_,hr,F',H0,F',a4,fun σ' F' H' a'=>⟨F',r',a'.unbase at3.ext,go⟩⟩
      · rename_i r' hr
        exact ⟨_,_,hr,F',H0,F',a4,fun σ' F' H' a'=>⟨F',r',a'.unbase at3.ext,go⟩⟩
      · rename_i r' hr
        cases go
        exact ⟨_,_,hr,F',H0,F',a4,fun σ' F' H' a'=>k σ' F' H' (a'.unbase at3.ext)⟩
      · rename_i d hr
        cases go
        exact ⟨_,_,hr,F',H0,F',a4,fun v F' H' x q=>k v F' H' (at3.ext.unbase x) q⟩
      · cases go
    · rename_i ht
      cases go
      refine ⟨r2,false,ht,F0,H0,F2,at2,fun F' H' x=>?_⟩
      dsimp only
      rw [if_neg (by simp)]
      exact k σ F' H' (at2.grow x)
    · cases go
end
end HP
namespace HP
open PySem PySem.Spec PyProof.Rows L2
section
variable {X:Cx} {a b:Expr} {fa:HM.EF} {f:HM.BF} {pos:Pos}
theorem Zry {e:Value->Bool} {f:PyData->Bool}:∀ {ds:List PyData} {us:List Value},ds.length = us.length->(∀ (i:Nat) d u,ds[i]? = some d->us[i]? = some u->e u = f d)->us.any e = ds.any f
  | [],[],_,_=>rfl
  | [],_ :: _,hl,_=>by simp at hl
  | _ :: _,[],hl,_=>by simp at hl
  | d :: ds, u :: us, hl, k => by
    rw [List.any_cons,List.any_cons,k 0 d u rfl rfl,Zry (ds:=ds) (us:=us) (by simpa using hl) fun i d u e1 e2=>k (i + 1) d u (by simpa using e1) (by simpa using e2)]
def Zvb (K:PySem.W.Frag) (neg:Bool):R2:=fun vx vy H Q=>∃ F p xs x ds,Zw F H/\vy = .ref p/\(SqL K H p xs\/SqT K H p xs)/\Rep K F x vx/\ZC K F ds xs/\HM.Zaf x = true/\ds.all HM.Zaf = true /\
 Q (.bl (if neg then !ds.any fun d=>PyData.eqv d x else ds.any fun d=>PyData.eqv d x)) H
open Classical in
noncomputable def ZhH (h:Heap) (x:PyData) (u:Value):Bool:=decide (∃ d as,Reads h u d as/\d.canLay0 = true/\PyData.eqv d x = true)
theorem Zq4 {h:Heap} {x d:PyData} {u:Value} {as:List Addr} (r:Reads h u d as) (hl:d.canLay0 = true):ZhH h x u = PyData.eqv d x:=by
  classical
  unfold ZhH
  cases q:PyData.eqv d x with
  | true=>exact decide_eq_true ⟨d,as,r,hl,q⟩
  | false =>
    refine decide_eq_false fun ⟨d',as',r',hl',q'⟩=>?_
    rw [SeqAt.Reads.unique d d' u as as' hl r r'] at q
    rw [q] at q'
    cases q'
theorem Zn4 {k:Nat} (hr:ZaN k X.A) {pins:List (Addr × Obj)} {s:Shared} {σ:L2.St} {H F:Hp} {x:PyData} {vx:V} {u:Value} {ds:List PyData} {xs:List V} {its:List Value} (I:Inv X pins σ H s) (sub:Zw F H) (rx:Rep X.K F x vx) (ru:RelV vx u) (rs:ZC X.K F ds xs) (rv:Vals xs its) (px:HM.Zaf x = true) (pd:ds.all HM.Zaf = true) :
  (∀ y ∈ its,SeqAt.EqAt X.A.in1 s y u (ZhH s.heap x y))/\its.any (ZhH s.heap x) = ds.any fun d=>PyData.eqv d x:=by
 obtain ⟨x1,x2⟩:=Zc4 px
 obtain ⟨as,hx⟩:=rx.reads I sub x1 u ru
 have hun:=hr.un
 have each:∀ (i:Nat) d y,ds[i]? = some d->its[i]? = some y->(∃ bs,Reads s.heap y d bs)/\d.canLay0 = true/\d.depth <= 60:=fun i d y e1 e2=>by
  have hi:i < xs.length:=by rw [<- rs.1]; exact (List.getElem?_eq_some_iff.mp e1).1
  obtain ⟨y',q1,q2⟩:=rv.get (List.getElem?_eq_getElem hi)
  rw [e2] at q1
  cases q1
  have hp:=Zc4 (List.all_eq_true.mp pd d (List.mem_of_getElem? e1))
  exact ⟨(rs.2 i d _ e1 (List.getElem?_eq_getElem hi)).reads I sub hp.1 y q2,hp⟩
 have hl:ds.length = its.length:=rs.1.trans rv.length
 refine ⟨fun y hy=>?_,Zry hl fun i d y e1 e2=>?_⟩
 ·obtain ⟨i,hi,e⟩:=List.getElem_of_mem hy
  have hi':i < ds.length:=by omega
  obtain ⟨⟨bs,q⟩,h1,h2⟩:=each i ds[i] y (List.getElem?_eq_getElem hi') (by rw [List.getElem?_eq_getElem hi,e])
  rw [Zq4 q h1]
  refine SeqAt.eqAt_reads _ _ _ _ _ _ _ _ q hx h1 x1 ?_
  have:min (ds[i]).depth x.depth <= 60:=Nat.le_trans (Nat.min_le_left _ _) h2
  show X.A.units + 1 + _ < _
  omega
 ·obtain ⟨⟨bs,q⟩,h1,_⟩:=each i d y e1 e2
  exact Zq4 q h1
theorem Zra {k:Nat} (hr:ZaN k X.A):OpR X (compareOp .NotIn) (Zvb X.K true):=by
 intro pins s σ H vx vy v u Q I r1 r2 ⟨F,p,xs,x,ds,sub,e,hq,rx,rs,px,pd,q⟩
 subst e
 cases r2
 rcases hq with hq | hq
 ·obtain ⟨its,r,pl,hz⟩:=I.list hq
  obtain ⟨h1,h2⟩:=Zn4 hr I sub rx r1 rs r px pd
  refine SeqAt.notIn_listAt (ZhH s.heap x) pl.isList (fun w hw=>h1 w (by simpa using hw)) ⟨.bl _,H,I,rfl,?_⟩
  rw [show its.toArray.any (ZhH s.heap x) = its.any (ZhH s.heap x) by simp,h2]
  exact q
 ·obtain ⟨its,r,pl,hz⟩:=I.tuple hq
  obtain ⟨h1,h2⟩:=Zn4 hr I sub rx r1 rs r px pd
  refine SeqAt.notIn_tupleAt (ZhH s.heap x) pl (fun w hw=>h1 w (by simpa using hw)) ⟨.bl _,H,I,rfl,?_⟩
  rw [show its.toArray.any (ZhH s.heap x) = its.any (ZhH s.heap x) by simp,h2]
  exact q
theorem ZsE {ds:List PyData} {x:PyData} {c:Bool} (h:HM.Znh ds x = some c):HM.Zaf x = true/\ds.all HM.Zaf = true/\c = ds.any fun d=>PyData.eqv d x:=by
 unfold HM.Znh at h
 split at h
 ·rename_i hp
  rw [Bool.and_eq_true] at hp
  cases h
  exact ⟨hp.1,hp.2,rfl⟩
 ·cases h
theorem ZoN {r:HM.Env} {d:PyData} (h:HM.ZhV fa f r = some d):∃ x q ds,fa r = some x/\f r = some q/\HM.Zbb q = some ds/\HM.Zaf x = true/\ds.all HM.Zaf = true/\d = .bool (!ds.any fun d=>PyData.eqv d x):=by
 unfold HM.ZhV at h
 split at h
 ·split at h
  ·split at h
   ·obtain ⟨c,h1,h2⟩:=Option.map_eq_some_iff.mp h
    obtain ⟨h3,h4,h5⟩:=ZsE h1
    exact ⟨_,_,_,by assumption,by assumption,by assumption,h3,h4,by rw [<- h2,<- h5]⟩
   ·cases h
  ·cases h
 ·cases h
theorem ZsB {neg:Bool} {r:HM.Env} {x:PyData} {q:HM.B} {ds:List PyData} (ha:XE X a fa) (hb:XB X b f) (h1:fa r = some x) (h2:f r = some q) (h3:HM.Zbb q = some ds) (p1:HM.Zaf x = true) (p2:ds.all HM.Zaf = true) {op:CmpOp} (ho:OpR X (compareOp op) (Zvb X.K neg)) (hm:behindInMarks op b = false) :
  PT X (.Compare a [op] [b] pos) fun σ H Q=>Now X.K r σ H fun F0 H0 F=>∀ F' H',Ext F H F' H'->Q (if neg then !ds.any fun d=>PyData.eqv d x else ds.any fun d=>PyData.eqv d x) H':=by
 refine PT.imp (Zjx ho (ha r _ h1) (hb r q h2) hm) fun σ H Q ⟨F0,H0,F,at_,k⟩=>?_
 refine ⟨F0,H0,F,at_,fun v F1 H1 x1 r1=>⟨F0,H0,F1,at_.grow x1,fun w F2 H2 x2 ⟨fp,r2⟩=>?_⟩⟩
 obtain ⟨p,vs,e1,hq,rs⟩:=ZgZ x2.sub r2 h3
 exact ⟨F2,p,vs,x,ds,x2.sub,e1,hq,r1.mono x2.ff,rs,p1,p2,_,rfl,k F2 H2 (x1.trans x2)⟩
theorem Zqh {k:Nat} (hr:ZaN k X.A) (ha:XE X a fa) (hb:XB X b f) (hm:behindInMarks .NotIn b = false:=by rfl):XT X (.Compare a [.NotIn] [b] pos) (HM.tV (HM.ZhV fa f)):=by
 intro r d h
 obtain ⟨x,q,ds,h1,h2,h3,h4,h5,e⟩:=ZoN (Zgb h)
 cases e
 exact ZsB ha hb h1 h2 h3 h4 h5 (Zra hr) hm
end
end HP
namespace HP
open PySem PySem.Spec PyProof.Rows L2
section
variable {X:Cx} {a b c e:Expr} {fa fb fc:HM.EF} {f:HM.BF} {pos p:Pos} {es:List Expr}
theorem Zmx {H:Hp} {a b:Addr} {kvs:List (List Key × V)} {k:List Key} (e:Rd H a (.dT kvs)) (eb:H b = some (.tup (k.map kV))):Zcd H a (.ref b) (ZaL kvs k):=.inr ⟨kvs,k,b,e,rfl,eb,rfl⟩
theorem Ziq {K:PySem.W.Frag} {F H:Hp} {q:HM.B} {v:V} {fp:List Addr} {kvs:List (List Key × PyData)} (sub:Zw F H) (r:Zat K F H q v fp) (h:HM.Zks q = some kvs):∃ l vvs,v = .ref l/\Rd H l (.dT vvs)/\ZaG K F kvs vvs:=by
  cases r with
  | pl r =>
    cases r with
    | @dct l es kvs' vvs h1 h2 h3 h4 =>
      subst h2
      have h:HM.ZgY (HM.Zo kvs') = some kvs:=h
      rw [HM.dec_enc] at h
      cases h
      refine ⟨l,vvs,rfl,ZfM h1 sub,h3,?_,h4⟩
      have:=congrArg List.length h3
      rw [List.length_map,List.length_map] at this
      rw [List.length_map,List.length_map,this]
    | tupk _=>cases h
    | tup _ _ _=>cases h
    | lst _ _ _=>cases h
    | non=>cases h
    | bl _=>cases h
    | int _=>cases h
    | str _=>cases h
  | ol _ _=>cases h
  | ok _ _ _=>cases h
  | @ot l kvs vvs h1 h2 h3=>cases h; exact ⟨l,vvs,rfl,.inl h1,h2,h3⟩
  | @hd l o es kvs' vvs h1 h2 h3 h4 =>
    subst h2
    have h:HM.ZgY (HM.Zo kvs') = some kvs:=h
    rw [HM.dec_enc] at h
    cases h
    exact ⟨l,vvs,rfl,.inr ⟨o,sub _ _ h1⟩,h3,h4⟩
  | otl _ _ _ _=>cases h
theorem Zsh {r:HM.Env} {d:PyData} (h:HM.ZhB fa f r = some d):∃ x q kvs y,fa r = some x/\f r = some q/\HM.Zks q = some kvs/\HM.ZaV x = some y/\d = .bool (HM.Ze kvs y).isSome:=by
 unfold HM.ZhB at h
 split at h
 ·split at h
  ·split at h
   ·obtain ⟨y,h1,h2⟩:=Option.map_eq_some_iff.mp h
    exact ⟨_,_,_,y,by assumption,by assumption,by assumption,h1,h2.symm⟩
   ·cases h
  ·cases h
 ·cases h
theorem ZoK {r:HM.Env} {d:PyData} (h:HM.Zck fa f r = some d):∃ x q kvs y,fa r = some x/\f r = some q/\HM.Zks q = some kvs/\HM.ZaV x = some y/\d = .bool (!(HM.Ze kvs y).isSome):=by
 unfold HM.Zck at h
 split at h
 ·split at h
  ·split at h
   ·obtain ⟨y,h1,h2⟩:=Option.map_eq_some_iff.mp h
    exact ⟨_,_,_,y,by assumption,by assumption,by assumption,h1,h2.symm⟩
   ·cases h
  ·cases h
 ·cases h
theorem Zqi (hu:X.A.units + 1 < cLine) (ha:XE X a fa) (hb:XB X b f) (hm:behindInMarks .In b = false:=by rfl):XE X (.Compare a [.In] [b] pos) (HM.ZhB fa f):=by
 intro r d h
 obtain ⟨x,q,kvs,y,h1,h2,h3,h4,rfl⟩:=Zsh h
 refine PE.imp (Zue (Zu0 hu (ha r x h1) (hb r q h2)) hm) fun σ H Q ⟨F0,H0,F,at_,k⟩=>?_
 refine ⟨F0,H0,F,at_,fun v F1 H1 x1 r1=>⟨F0,H0,F1,at_.grow x1,fun w F2 H2 x2 ⟨fp,r2⟩=>?_⟩⟩
 obtain ⟨l,vvs,e1,e2,T⟩:=Ziq x2.sub r2 h3
 obtain ⟨bb,rfl,hbb⟩:=ZbN h4 (r1.mono x2.ff)
 exact ⟨l,_,e1,Zmx e2 (x2.sub _ _ hbb),k _ F2 H2 (x1.trans x2) (by rw [T.some_iff]; exact .bl _)⟩
theorem Zhj (hu:X.A.units + 1 < cLine) (ha:XE X a fa) (hb:XB X b f) (hm:behindInMarks .NotIn b = false:=by rfl):XT X (.Compare a [.NotIn] [b] pos) (HM.tV (HM.Zck fa f)):=by
 intro r d h
 obtain ⟨x,q,kvs,y,h1,h2,h3,h4,e⟩:=ZoK (Zgb h)
 cases e
 refine PT.imp (ZqM (ZlC hu (ha r x h1) (hb r q h2)) hm) fun σ H Q ⟨F0,H0,F,at_,k⟩=>?_
 refine ⟨F0,H0,F,at_,fun v F1 H1 x1 r1=>⟨F0,H0,F1,at_.grow x1,fun w F2 H2 x2 ⟨fp,r2⟩=>?_⟩⟩
 obtain ⟨l,vvs,e1,e2,T⟩:=Ziq x2.sub r2 h3
 obtain ⟨bb,rfl,hbb⟩:=ZbN h4 (r1.mono x2.ff)
 exact ⟨l,_,e1,Zmx e2 (x2.sub _ _ hbb),_,rfl,by rw [T.some_iff]; exact k F2 H2 (x1.trans x2)⟩
theorem Ze2 (hu:X.A.units + 1 < cLine) (ha:XB X a f) (hk:XE X b fb) (hs:Zn0 b:=by intro _ _; rfl):XE X (.Subscript a b pos) (HM.Zbi f fb):=by
 intro r d h
 unfold HM.Zbi at h
 split at h
 ·rename_i q hq
  split at h
  ·rename_i kvs hd
   split at h
   ·rename_i x hx
    split at h
    ·rename_i y hy
     refine PE.imp (Zln hu (ha r q hq) (hk r x hx) hs) fun σ H Q ⟨F0,H0,F,at_,kk⟩=>?_
     refine ⟨F0,H0,F,at_,fun v F1 H1 x1 ⟨fp,r1⟩=>⟨F0,H0,F1,at_.grow x1,fun w F2 H2 x2 r2=>?_⟩⟩
     obtain ⟨l,vvs,e1,e2,T⟩:=Ziq x1.sub r1 hd
     have e2':=ZfM e2 x2.hh
     have T':ZaG X.K F2 kvs vvs:=⟨T.1,T.2.mono x2.ff⟩
     obtain ⟨bb,rfl,hbb⟩:=ZbN hy r2
     obtain ⟨u,q1,q2⟩:=T'.look.1 d h
     exact ⟨l,u,e1,by rw [<- q1]; exact Zmx e2' (x2.sub _ _ hbb),kk u F2 H2 (x1.trans x2) q2⟩
    ·cases h
   ·cases h
  ·cases h
 ·cases h
theorem ZrG {apos:Pos} (hu:X.A.units + 1 < cLine) (ha:XB X a f) (hk:XE X b fb) (hz:XE X c fc) (m:M2 X a "get" apos b c pos):XE X (.Call (.Attribute a "get" apos) [b,c] [] pos) (HM.Zji f fb fc):=by
 intro r d h
 unfold HM.Zji at h
 split at h
 ·rename_i q hq
  split at h
  ·rename_i kvs hd
   split at h
   ·rename_i x hx
    split at h
    ·rename_i z hz'
     split at h
     ·rename_i y hy
      cases h
      refine PE.imp (ZsX hu (ha r q hq) (hk r x hx) (hz r z hz') m) fun σ H Q ⟨F0,H0,F,at_,kk⟩=>?_
      refine ⟨F0,H0,F,at_,fun v F1 H1 x1 ⟨fp,r1⟩=>?_⟩
      obtain ⟨l,vvs,e1,e2,T⟩:=Ziq x1.sub r1 hd
      refine ⟨l,e1,.inr ⟨vvs,e2⟩,F0,H0,F1,at_.grow x1,fun w F2 H2 x2 r2=>⟨F0,H0,F2,(at_.grow x1).grow x2,fun w' F3 H3 x3 r3=>?_⟩⟩
      have e3:=ZfM (ZfM e2 x2.hh) x3.hh
      have T':ZaG X.K F3 kvs vvs:=⟨T.1,(T.2.mono x2.ff).mono x3.ff⟩
      obtain ⟨bb,rfl,hbb⟩:=ZbN hy (r2.mono x3.ff)
      refine ⟨_,Zmx e3 (x3.sub _ _ hbb),kk _ F3 H3 ((x1.trans x2).trans x3) ?_⟩
      obtain ⟨t1,t2⟩:=T'.look (k:=y)
      cases hl:HM.Ze kvs y with
      | none=>rw [t2 hl]; exact r3
      | some dd=>obtain ⟨u,q1,q2⟩:=t1 dd hl; rw [q1]; exact q2
     ·cases h
    ·cases h
   ·cases h
  ·cases h
 ·cases h
structure XAL (X:Cx) (es:List Expr) (f:HM.AF):Prop where
 len:∀ r ds,f r = some ds->ds.length = es.length
 pa:∀ r ds,f r = some ds->PA X es fun σ H Q=>Now X.K r σ H fun F0 H0 F=>∀ vs F' H',Ext F H F' H'->ZC X.K H' ds vs->Q vs H'
theorem Zat.lent {K:PySem.W.Frag} {F H:Hp} {q:HM.B} {v:V} {fp:List Addr} {d:PyData} (sub:Zw F H) (r:Zat K F H q v fp) (h:HM.frz q = some d):Rep K H d v:=by
 cases r with
 | pl r=>cases h; exact r.mono sub
 | ol h1 r=>cases h; exact .lst (.of h1) r.1 (r.mono sub).2
 | ok _ _ _=>cases h
 | hd h1 he hk r=>cases h; exact (Rep.dct (.inr ⟨_,h1⟩) he hk r.2).mono sub
 | ot h1 hk r=>cases h; exact .dct (.inl h1) rfl hk (r.mono sub).2
 | otl _ _ _ _=>cases h
end
end HP
namespace HP
open PySem PySem.Spec PyProof.Rows L2
section
variable {X:Cx} {a b c e:Expr} {fa fb fc:HM.EF} {f:HM.BF} {pos p:Pos} {es:List Expr}
theorem ZmC {g:HM.AF} (h:XA X es g):XAL X es g :=
 ⟨h.len,fun r ds hd=>PA.imp (h.pa r ds hd) fun σ H Q ⟨F0,H0,F,at_,k⟩=>⟨F0,H0,F,at_,fun vs F' H' x q=>k vs F' H' x (q.mono x.sub)⟩⟩
theorem ZfG {g:HM.AF} (ha:XE X e fa) (hr:XAL X es g) (hs:starEach (e :: es) X.env = (false,eval e X.env) :: starEach es X.env:=by rfl):XAL X (e :: es) (HM.Zc fa g):=by
 refine ⟨fun r ds h=>?_,fun r ds h=>?_⟩
 ·unfold HM.Zc at h
  split at h
  ·obtain ⟨xs,h1,h2⟩:=Option.map_eq_some_iff.mp h
   subst h2
   rw [List.length_cons,List.length_cons,hr.len r xs h1]
  ·cases h
 unfold HM.Zc at h
 split at h
 ·rename_i x hx
  obtain ⟨xs,h1,h2⟩:=Option.map_eq_some_iff.mp h
  subst h2
  refine PA.imp (Zav (ha r x hx) (hr.pa r xs h1) hs) fun σ H Q ⟨F0,H0,F,at_,k⟩=>?_
  exact ⟨F0,H0,F,at_,fun v F1 H1 x1 r1=>⟨F0,H0,F1,at_.grow x1,fun vs F2 H2 x2 r2=>k (v :: vs) F2 H2 (x1.trans x2) (.cons ((r1.mono x2.ff).mono x2.sub) r2)⟩⟩
 ·cases h
theorem Zj9 {g:HM.AF} (ha:XB X e f) (hr:XAL X es g) (hs:starEach (e :: es) X.env = (false,eval e X.env) :: starEach es X.env:=by rfl):XAL X (e :: es) (HM.Zc (HM.Zgz f) g):=by
 refine ⟨fun r ds h=>?_,fun r ds h=>?_⟩
 ·unfold HM.Zc at h
  split at h
  ·obtain ⟨xs,h1,h2⟩:=Option.map_eq_some_iff.mp h
   subst h2
   rw [List.length_cons,List.length_cons,hr.len r xs h1]
  ·cases h
 unfold HM.Zc at h
 split at h
 ·rename_i x hx
  obtain ⟨xs,h1,h2⟩:=Option.map_eq_some_iff.mp h
  subst h2
  obtain ⟨q,hq,hf⟩:=Option.bind_eq_some_iff.mp hx
  refine PA.imp (Zav (ha r q hq) (hr.pa r xs h1) hs) fun σ H Q ⟨F0,H0,F,at_,k⟩=>?_
  exact ⟨F0,H0,F,at_,fun v F1 H1 x1 ⟨fp,r1⟩=>⟨F0,H0,F1,at_.grow x1,fun vs F2 H2 x2 r2=>k (v :: vs) F2 H2 (x1.trans x2) (.cons ((r1.lent x1.sub hf).mono x2.hh) r2)⟩⟩
 ·cases h
theorem Rep.flat {K:PySem.W.Frag} {F F':Hp} {d:PyData} {v:V} (r:Rep K F d v) (h:HM.Zs3 d = true):Rep K F' d v:=by
 cases r with
 | non=>exact .non
 | bl b=>exact .bl b
 | int i=>exact .int i
 | str x=>exact .str x
 | tupk _=>cases h
 | tup _ _ _=>cases h
 | lst _ _ _=>cases h
 | dct _ _ _ _=>cases h
theorem Ext.forget {F H F'' H'':Hp} (s:Zw F H) (x:Ext H H F'' H''):Ext F H F H'' :=
 ⟨Zw.refl F,x.hh,s.trans x.hh,fun _ _ z=>.inl z⟩
theorem ZrH {k:Nat} {x:Str} {g:HM.AF} {M:List PyData->Option PyData} (C:Callee X.prog X.w X.K X.mg X.base k x M) (hr:ZaN k X.A) (ha:XAL X (e :: es) g) (hg:Gl X x:=by rfl) (hdb:(x == ("__debug__":Str)) = false:=by decide)
  (he:starEach (e :: es) X.env = (false,eval e X.env) :: starEach es X.env:=by rfl) (hpl:(backTo pos (starEach es X.env)).any (·.1) = false:=by rfl):XE X (.Call (.Name x p) (e :: es) [] pos) (HM.Znm M g):=by
 intro r d hd
 unfold HM.Znm at hd
 split at hd
 ·rename_i ds hds
  split at hd
  ·rename_i d' hM
   split at hd
   ·rename_i hflat
    cases hd
    obtain ⟨fa,fd,ps,hl,F,hm,hk,hb⟩:=C.ex
    refine PE.imp (ZhL (E:=E0) F hr hg hm hk hb .nil ZkJ (ha.pa r ds hds) hdb he hpl) fun σ H Q ⟨F0,H0,F1,at_,k⟩=>?_
    refine ⟨F0,H0,F1,at_,fun vs F' H' x q=>?_⟩
    show spD X.K ps.length M (vs ++ []) H' Q E0
    rw [List.append_nil]
    exact ⟨H',ds,d,by rw [<- q.1]; exact hl ds d hM,Zw.refl H',q,hM,fun v F2 H2 x2 q2=>k v F' H2 (x.trans (Ext.forget x.sub x2)) (q2.flat hflat)⟩
   ·cases hd
  ·cases hd
 ·cases hd
theorem Zrx (hc:X.calm = true):Za7 X (.builtin "max") (fun xs H Q=>∃ (p:Addr) (ns:List Int),xs = [.ref p]/\SqL X.K H p (ns.map V.int)/\0 < ns.length/\∀ M,M ∈ ns->(∀ a,a ∈ ns->a <= M)->Q (.int M) H):=by
 intro pins s σ H xs us Q I r h
 obtain ⟨p,ns,rfl,hq,hne,q⟩:=h
 obtain ⟨u,rfl,rx⟩:=vals1 r
 cases rx
 obtain ⟨its,rv,pl,hz⟩:=I.list hq
 have hi:=Zge rv
 obtain ⟨xs,e⟩:=hi.allInts.items
 have hns:ns = xs.toList.map (·.1):=by
  rw [<- hi.numsOf,<- nums_intItems,<- e]
 have hsz:0 < xs.size:=by
  have h3:=hne; rw [hns,List.length_map,Array.length_toList] at h3; exact h3
 have hl:=pl.isList
 rw [e] at hl
 refine max_intList (I.ok.hd hc) hl hsz fun v h' tk hv hk=>?_
 obtain ⟨t,rfl⟩:=intItems_at hv
 obtain ⟨h1,h2⟩:=argBest_gt (numAt xs) (xs.size - 1)
 refine ⟨.int _,H,I.kept (t':=tk) hk,⟨t,rfl⟩,q _ ?_ fun a ha=>?_⟩
 ·rw [hns,numAt_eq]; exact getD_mem (by rw [List.length_map,Array.length_toList]; omega)
 ·rw [hns] at ha
  obtain ⟨j,hj,rfl⟩:=mem_getD ha
  rw [List.length_map,Array.length_toList] at hj
  rw [<- numAt_eq]; exact h2 j (by omega)
theorem ZkY (hm:X.mg "max" = none) (hc:X.calm = true) (ha:XB X a f) (hg:Gl X "max":=by rfl) (hs:starEach [a] X.env = [(false,eval a X.env)]:=by rfl):XE X (.Call (.Name "max" p) [a] [] pos) (HM.Zis f):=by
 intro r d h
 unfold HM.Zis at h
 split at h
 ·rename_i x hx
  split at h
  ·rename_i ds hds
   split at h
   ·rename_i ns hns
    obtain ⟨m,h1,h2⟩:=Option.map_eq_some_iff.mp h
    subst h2
    refine PE.imp (Zd0 (Zrx hc) hg hm ZqS (Zg1 ha hx hs) (he:=hs)) fun σ H Q ⟨F0,H0,F,at_,k⟩=>?_
    refine ⟨F0,H0,F,at_,fun v fp F1 H1 x1 r1=>?_⟩
    obtain ⟨l,vs,e1,hq,rs⟩:=Zin x1.sub r1 hds
    rw [ZdW hns rs] at hq
    obtain ⟨m1,m2⟩:=List.max?_eq_some_iff.mp h1
    refine ⟨l,ns,by rw [e1],hq,List.length_pos_of_mem m1,fun M k1 k2=>?_⟩
    have:M = m:=Int.le_antisymm (m2 M k1) (k2 m m1)
    subst this
    exact k _ F1 H1 x1 (.int _)
   ·cases h
  ·cases h
 ·cases h
end
end HP
namespace HP
open PySem PySem.Spec PyProof.Rows L2
section
variable {X:Cx} {a b c e:Expr} {fa fb fc:HM.EF} {f:HM.BF} {pos p:Pos}
theorem ZrI {op op':CmpOp} {g g':PyData->PyData->Option PyData} (o:ZeX X op g) (o':ZeX X op' g') (ha:XE X a fa) (hb:XE X b fb) (hc:XE X c fc)
  (hm:lastMarks [op,op'] [b,c] = false:=by with_unfolding_all rfl):XT X (.Compare a [op,op'] [b,c] pos) (HM.tV (HM.Zga g g' fa fb fc)):=by
 intro r t ht
 have hd:=Zgb ht
 unfold HM.Zga at hd
 obtain ⟨R,o1,o2⟩:=o.ex
 obtain ⟨R',o1',o2'⟩:=o'.ex
 split at hd
 ·rename_i x hx
  split at hd
  ·rename_i y hy
   split at hd
   ·rename_i hg
    split at hd
    ·rename_i z hz
     refine PT.imp (Znd o1 o1' (ha r x hx) (hb r y hy) (hc r z hz) hm) fun σ H Q ⟨F0,H0,F,at_,k⟩=>?_
     refine ⟨F0,H0,F,at_,fun v F1 H1 x1 r1=>⟨F0,H0,F1,at_.grow x1,fun w F2 H2 x2 r2=>?_⟩⟩
     refine o2 F2 H2 x y _ v w _ x2.sub hg (r1.mono x2.ff) r2 fun u ru=>?_
     refine ⟨true,ru.bool_inv,Zlc ⟨F0,H0,F2,(at_.grow x1).grow x2,fun w' F3 H3 x3 r3=>?_⟩⟩
     exact o2' F3 H3 y z _ w w' _ x3.sub hd (r2.mono x3.ff) r3 fun u' ru'=>⟨t,ru'.bool_inv,k F3 H3 ((x1.trans x2).trans x3)⟩
    ·cases hd
   ·rename_i hg
    cases hd
    refine PT.imp (Znd o1 o1' (ha r x hx) (hb r y hy) Zkq hm) fun σ H Q ⟨F0,H0,F,at_,k⟩=>?_
    refine ⟨F0,H0,F,at_,fun v F1 H1 x1 r1=>⟨F0,H0,F1,at_.grow x1,fun w F2 H2 x2 r2=>?_⟩⟩
    refine o2 F2 H2 x y _ v w _ x2.sub hg (r1.mono x2.ff) r2 fun u ru=>?_
    exact ⟨false,ru.bool_inv,Zlt ⟨false,rfl,k F2 H2 (x1.trans x2)⟩⟩
   ·cases hd
  ·cases hd
 ·cases hd
end
end HP
namespace HP
open PySem PySem.Spec PyProof.Rows L2
section
variable {X:Cx} {a b c e:Expr} {fa fb fc:HM.EF} {f:HM.BF} {pos p:Pos} {es:List Expr}
theorem Zqj (i:Nat) {x:Str} {p1 p2 p3:Pos} (ha:XB X a f) (hN:X.N[i]? = some x:=by rfl) (hv:Vis X.env.scope x:=by first | exact Or.inl rfl | exact Or.inr (Or.inl rfl) | exact Or.inr (Or.inr rfl)) (hd:(x == ("__debug__":Str)) = false:=by decide) (hcd:(x == ("__classdict__":Str)) = false:=by decide)
    (hbase:attributeBase (.Name x p1) "extend" X.env (eval (.Name x p1) X.env) = eval (.Name x p1) X.env:=by rfl)
    (hfew:((backTo p3 (starEach [a] X.env)).all (fun x=>!x.1) && (backToKw p3 (keywordEach [] X.env)).all (fun x=>x.1.isSome) && decide (([a]:List Expr).length + ([]:List Keyword).length + (if ([]:List Keyword).isEmpty then 0 else 1) < 30)) = true:=by rfl)
    (hline:(p2.endLine == p3.line) = true:=by rfl) (hs:starEach [a] X.env = [(false,eval a X.env)]:=by rfl):XS X (.Expr (.Call (.Attribute (.Name x p1) "extend" p2) [a] [] p3) pos) (HM.Zjw i f):=by
  intro r o h
  unfold HM.Zjw at h
  split at h
  · rename_i ds hds
    split at h
    · rename_i es hes
      split at h
      · rename_i hz
        cases h
        refine PS.imp (ZhO (Zmw PySem.F.plainAttrs_list PySem.F.slot_list_extend PySem.F.type_list_extend Zrv (Zcu hN hv hd hcd) (Zav (ha r _ hes) ZbU hs) hbase hfew hline hs rfl)) fun E σ H ⟨F0,H0,F,at_,k⟩=>?_
        obtain ⟨l,vs,e1,e2,e3,_⟩:=at_.chgList (es:=ds) hds
        refine ⟨.ref l,e1,.inl ⟨rfl,_,SqL.of e2⟩,F0,H0,F,at_,fun v F1 H1 x1 ⟨fp,r1⟩=>?_⟩
        have at1:=at_.grow x1
        obtain ⟨l',vs',f1,f2,f3,f4⟩:=at1.chgList (es:=ds ++ es) hds
        rw [e1] at f1
        cases f1
        cases r1 with
        | @ol b _ us hb rs =>
          refine ⟨_,b,vs',us,rfl,rfl,f2,hb,?_,k _ F1 _ (f4 _ (f3.append rs))⟩
          have e4:=f3.1
          have e6:=rs.1
          have e5:(1000000:Nat) <= sizeLine:=by decide
          unfold HM.big at hz
          omega
      · cases h
    · cases h
  · cases h
theorem Zt7 (i j:Nat) {x y:Str} {p1 p2 p3 p4:Pos} (hN:X.N.Nodup) (hNi:X.N[i]? = some x:=by rfl) (hNj:X.N[j]? = some y:=by rfl) (hx:Loc X.env.scope x:=by first | exact Or.inl rfl | exact Or.inr rfl) (hv:Vis X.env.scope y:=by first | exact Or.inl rfl | exact Or.inr (Or.inl rfl) | exact Or.inr (Or.inr rfl)) (hd:(y == ("__debug__":Str)) = false:=by decide) (hcd:(y == ("__classdict__":Str)) = false:=by decide)
  (hbase:attributeBase (.Name y p1) "pop" X.env (eval (.Name y p1) X.env) = eval (.Name y p1) X.env:=by rfl) (hline:(p2.endLine == p3.line) = true:=by rfl)
  (hs:swapsWith (.Call (.Attribute (.Name y p1) "pop" p2) [] [] p3) (some (.Name x p4)) pos.line X.env = pure false:=by rfl) (hf:X.fn x = true\/X.env.scope.names.lookup x = some .local:=by first | exact .inl rfl | exact .inr rfl) :
  XS X (.Assign [.Name x p4] (.Call (.Attribute (.Name y p1) "pop" p2) [] [] p3) pos) (HM.ZrY i j):=by
 intro r o h
 unfold HM.ZrY at h
 split at h
 ·rename_i ds hds
  split at h
  ·rename_i d hd'
   cases h
   refine PS.imp (Znk hN hNi hx (ZuO PySem.F.plainAttrs_list PySem.F.slot_list_pop PySem.F.type_list_pop Zvi (Zcu hNj hv hd hcd) hbase hline) hs hf) fun E σ H ⟨F0,H0,F,at_,k⟩=>?_
   obtain ⟨l,vs,e1,e2,e3,e4⟩:=at_.chgList (es:=ds.dropLast) hds
   obtain ⟨v,q1,q2⟩:=e3.get hd'
   refine ⟨.ref l,e1,.inl ⟨rfl,_,SqL.of e2⟩,l,vs,v,rfl,rfl,e2,by rw [<- e3.1]; exact q1,k _ F _ ((e4 _ ?_).set q2)⟩
   rw [List.dropLast_eq_take,List.dropLast_eq_take,<- e3.1]
   exact e3.take _
  ·cases h
 ·cases h
theorem Zt8 (i:Nat) {x:Str} {p':Pos} (hN:X.N.Nodup) (ha:XE X a fa) (hi:X.N[i]? = some x:=by rfl) (hx:Loc X.env.scope x:=by first | exact Or.inl rfl | exact Or.inr rfl) (hf:X.fn x = true\/X.env.scope.names.lookup x = some .local:=by first | exact .inl rfl | exact .inr rfl) :
  XS X (.AugAssign (.Name x p') .Add a pos) (HM.Zsv i fa):=by
 intro r o h
 unfold HM.Zsv at h
 split at h
 ·rename_i n hn
  split at h
  ·rename_i m hm
   cases h
   refine PS.imp (Zu8 hN hi hx (ha r _ hm) Zu4 hf) fun E σ H ⟨F0,H0,F,at_,k⟩=>?_
   obtain ⟨v,h1,h2⟩:=at_.plain hn
   cases h2
   refine ⟨_,h1,F0,H0,F,at_,fun w F1 H1 x1 r1=>?_⟩
   cases r1
   exact ⟨n,m,rfl,rfl,k _ F1 H1 ((at_.grow x1).set (.int _))⟩
  ·cases h
 ·cases h
def spF (K:PySem.W.Frag) (n:Nat) (M:List PyData->Option PyData):Sp:=fun vs H Q _=>∃ F ds ys,vs.length = n/\Zw F H/\ZC K F ds vs/\M ds = some (.list ys)/\∀ l us F' H',Ext F H F' H'->H' l = some (.lst us)->ZC K F' ys us->F' l = none->H l = none->Q (.ref l) H'
structure Ze6 (P:Program) (w:World) (K:PySem.W.Frag) (mg:Str->Option Value) (base:Heap) (k:Nat) (x:Str) (M:List PyData->Option PyData):Prop where
 ex:∃ f fd ps,(∀ ds d,M ds = some d->ds.length = ps.length)/\Zen P w K mg base CX0 k f fd ps (spF K ps.length M)/\mg x = some (.ref f)/\PySem.W.keepIn K (.ref f) = true/\Binds K fd ps []
theorem Ze6.mono {P:Program} {w:World} {K:PySem.W.Frag} {mg:Str->Option Value} {base:Heap} {j k:Nat} {x:Str} {M:List PyData->Option PyData} (C:Ze6 P w K mg base j x M) (h:j <= k):Ze6 P w K mg base k x M:=by
 obtain ⟨f,fd,ps,l,F,r⟩:=C.ex
 exact ⟨f,fd,ps,l,F.mono h,r⟩
theorem ZmD {k:Nat} {x:Str} {g:HM.AF} {M:List PyData->Option PyData} (C:Ze6 X.prog X.w X.K X.mg X.base k x M) (hr:ZaN k X.A) (ha:XA X (e :: es) g) (hg:Gl X x:=by rfl) (hdb:(x == ("__debug__":Str)) = false:=by decide)
  (he:starEach (e :: es) X.env = (false,eval e X.env) :: starEach es X.env:=by rfl) (hpl:(backTo pos (starEach es X.env)).any (·.1) = false:=by rfl):XF X (.Call (.Name x p) (e :: es) [] pos) (HM.ZhM M g):=by
 intro r d hd
 unfold HM.ZhM at hd
 split at hd
 ·rename_i ds hds
  split at hd
  ·rename_i ys hM
   cases hd
   obtain ⟨fa,fd,ps,hl,F,hm,hk,hb⟩:=C.ex
   refine PE.imp (ZhL (E:=E0) F hr hg hm hk hb .nil ZkJ (ha.pa r ds hds) hdb he hpl) fun σ H Q ⟨F0,H0,F1,at_,k⟩=>?_
   refine ⟨F0,H0,F1,at_,fun vs F' H' x q=>?_⟩
   show spF X.K ps.length M (vs ++ []) H' Q E0
   rw [List.append_nil]
   refine ⟨F',ds,ys,by rw [<- q.1]; exact hl ds _ hM,x.sub,q,hM,fun l us F2 H2 x2 h1 h2 h3 h4=>k _ F2 H2 (x.trans x2) ⟨[l],.ol h1 h2,by simp,fun a ha=>?_⟩⟩
   obtain rfl:a = l:=by simpa using ha
   exact ⟨h3,x.hh.free h4⟩
  ·cases hd
 ·cases hd
theorem ZpO {P:Program} {w:World} {K:PySem.W.Frag} {mg:Str->Option Value} {base:Heap} {k:Nat} {x qual:Str} {st:Stmt} {f:Addr} {fd:FuncData} {N ps:List Str} {e:Expr} {g:HM.BF} {p1:Pos} (Fn:Fun K x qual st f fd) (S:ZB N ps (Zg st)) (hm:mg x = some (.ref f)) (hb:Binds K fd ps [])
  (hst:Zc1 st = [.Return (some e) p1]) (hol:∀ r b,g r = some b->∃ ys,b = .ol ys)
  (body:∀ (cdv:Value) (A:Around) (outer:List Env) (s:Shared) (H:Hp) (E:XK),ZaN k (A.deeper (envOfC qual (Zg st) s.heap.objs.size f cdv))->XF (Zii CX0 P w K mg base N qual (Zg st) f cdv A outer s H E).nox e g) :
  Ze6 P w K mg base (k + 1) x (HM.fnOf ps.length N.length (HM.ZH (HM.eOf g))):=by
 have hpl:ps.length <= N.length:=by have:=congrArg List.length S.pre; rw [List.length_take] at this; omega
 refine ⟨f,fd,ps,fun ds d h=>?_,Fn.ok S (fun vs H Q E h=>?_) (fun cdv A outer s H vs Q E hr h=>?_),hm,Fn.kp,hb⟩
 ·unfold HM.fnOf at h
  split at h
  ·assumption
  ·cases h
 ·obtain ⟨_,_,_,h,_⟩:=h
  exact h
 ·obtain ⟨F,ds,ys,hl,sub,q,hM,kk⟩:=h
  unfold HM.fnOf at hM
  split at hM
  ·rename_i hds
   have a0:=Znv (N:=N) sub q (by omega)
   have hg:g (HM.ZhU N.length ds) = some (.ol ys):=by
    split at hM
    ·rename_i r hr'
     cases hq:HM.eOf g (HM.ZhU N.length ds) with
     | none=>unfold HM.ZH at hr'; rw [hq] at hr'; cases hr'
     | some d=>unfold HM.ZH at hr'; rw [hq] at hr'; cases hr'
    ·rename_i d' hr'
     cases hM
     obtain ⟨d,h1,h2⟩:=Option.map_eq_some_iff.mp hr'
     cases h2
     obtain ⟨b,h3,h4⟩:=Option.bind_eq_some_iff.mp h1
     obtain ⟨zs,rfl⟩:=hol _ _ h3
     cases h4
     exact h3
    ·cases hM
   rw [hst]
   refine ⟨_,Zph (ZqZ (body cdv A outer s H E hr _ _ hg)),F,H,F,a0,fun v F' H' x ⟨fp,r1,nd,hn⟩=>?_⟩
   cases r1 with
   | @ol l _ us h1 h2=>exact kk l us F' H' x h1 h2 (hn l (by simp)).1 (hn l (by simp)).2
  ·cases hM
theorem ZsT (i:HM.IF) (c:HM.TF) (e:HM.EF) (r:HM.Env) (b:HM.B) (h:HM.ZT i c e r = some b):∃ ys,b = .ol ys:=by
 unfold HM.ZT at h
 split at h
 ·split at h
  ·obtain ⟨ys,_,h2⟩:=Option.map_eq_some_iff.mp h
   exact ⟨ys,h2.symm⟩
  ·cases h
 ·cases h
def XV (X:Cx) (e:Expr) (f:HM.EF):Prop:=∀ r d,f r = some d->PE X e (tAt X.K r fun _ _ H' v=>Rep X.K H' d v)
theorem ZrJ {k:Nat} {x:Str} {g:HM.AF} {M:List PyData->Option PyData} (C:Callee X.prog X.w X.K X.mg X.base k x M) (hr:ZaN k X.A) (ha:XAL X (e :: es) g) (hg:Gl X x:=by rfl) (hdb:(x == ("__debug__":Str)) = false:=by decide)
  (he:starEach (e :: es) X.env = (false,eval e X.env) :: starEach es X.env:=by rfl) (hpl:(backTo pos (starEach es X.env)).any (·.1) = false:=by rfl):XV X (.Call (.Name x p) (e :: es) [] pos) (HM.Zp M g):=by
 intro r d hd
 unfold HM.Zp at hd
 split at hd
 ·rename_i ds hds
  obtain ⟨fa,fd,ps,hl,F,hm,hk,hb⟩:=C.ex
  refine PE.imp (ZhL (E:=E0) F hr hg hm hk hb .nil ZkJ (ha.pa r ds hds) hdb he hpl) fun σ H Q ⟨F0,H0,F1,at_,k⟩=>?_
  refine ⟨F0,H0,F1,at_,fun vs F' H' x q=>?_⟩
  show spD X.K ps.length M (vs ++ []) H' Q E0
  rw [List.append_nil]
  exact ⟨H',ds,d,by rw [<- q.1]; exact hl ds d hd,Zw.refl H',q,hd,fun v F2 H2 x2 q2=>k v F' H2 (x.trans (Ext.forget x.sub x2)) (q2.mono x2.sub)⟩
 ·cases hd
theorem Zta {op:CmpOp} {g:PyData->PyData->Option PyData} (o:ZeX X op g) (ha:XV X a fa) (hb:XE X b fb):XT X (.Compare a [op] [b] pos) (HM.tV (HM.op2 g fa fb)):=by
 intro r d h
 obtain ⟨x,y,h1,h2,h3⟩:=ZgI (Zgb h)
 obtain ⟨R,o1,o2⟩:=o.ex
 refine PT.imp (Zjx o1 (ha r x h1) (hb r y h2) (Zg2 _ o.n1 o.n2)) fun σ H Q ⟨F0,H0,F,at_,k⟩=>?_
 refine ⟨F0,H0,F,at_,fun v F1 H1 x1 r1=>⟨F0,H0,F1,at_.grow x1,fun w F2 H2 x2 r2=>?_⟩⟩
 refine o2 H2 H2 x y _ v w _ (Zw.refl _) h3 (r1.mono x2.hh) (r2.mono x2.sub) fun u ru=>?_
 exact ⟨d,ru.bool_inv,k F2 H2 (x1.trans x2)⟩
end
end HP
namespace HP
open PySem PySem.Spec PyProof.Rows L2
def Dk (vvs:List (List Key × V)) (u:HO):Prop:=u = .dT vvs\/∃ o,u = .frz o (.dT vvs)
def sw (a:Addr) (ob:HO) (G:Hp):Hp:=fun b=>if b = a then (G a).map (fun _=>ob) else G b
section
variable {K:PySem.W.Frag} {F H F0 H0 G:Hp} {a b:Addr} {ob u:HO} {vvs:List (List Key × V)} {d:PyData} {v:V} {ds:List PyData} {vs:List V} {r:HM.Env} {σ:L2.St} {i:Nat} {es:List (PyData × PyData)}
theorem Zbj (h:b ≠ a):sw a ob G b = G b:=by unfold sw; rw [if_neg h]
theorem ZgD:sw a ob G a = (G a).map fun _=>ob:=by unfold sw; rw [if_pos rfl]
theorem Zll (s:Zw F H):Zw (sw a ob F) (sw a ob H):=fun b o z=>by
 by_cases hb:b = a
 ·subst hb
  rw [ZgD] at z ⊢
  obtain ⟨x,h1,h2⟩:=Option.map_eq_some_iff.mp z
  rw [s _ _ h1,<- h2]; rfl
 ·rw [Zbj hb] at z ⊢; exact s b o z
theorem Zs5 (hG:∀ u,G a = some u->u = .dT vvs):sw a (.dT vvs) (sw a ob G) = G:=by
 funext b
 by_cases hb:b = a
 ·subst hb
  rw [ZgD,ZgD]
  cases h:G b with
  | none=>rfl
  | some u=>rw [hG u h]; rfl
 ·rw [Zbj hb,Zbj hb]
theorem Dk.nt (h:Dk vvs u):(∀ xs,u ≠ .tup xs)/\(∀ xs,u ≠ .lst xs)/\(∀ o xs,u ≠ .frz o (.lst xs))/\(∀ ps,u ≠ .tbl ps)/\(∀ x,u ≠ .own x):=by
 rcases h with h | ⟨o,h⟩ <;> subst h <;> exact ⟨fun _ z=>(by cases z),fun _ z=>(by cases z),fun _ _ z=>(by cases z),fun _ z=>(by cases z),fun _ z=>(by cases z)⟩
theorem Rep.sw (hF:∀ u,F a = some u->Dk vvs u) (hob:Dk vvs ob) (r:Rep K F d v):Rep K (HP.sw a ob F) d v:=by
  induction r with
  | non=>exact .non
  | bl b=>exact .bl b
  | int i=>exact .int i
  | str x=>exact .str x
  | tupk h=>exact .tupk h
  | @tup b ds vs h hl _ ih=>exact .tup (by rw [Zbj (fun z=>(hF _ (z ▸ h)).nt.1 _ rfl)]; exact h) hl ih
  | @lst b ds vs h hl _ ih =>
    refine .lst ?_ hl ih
    rcases h with h | h
    · refine .inl ?_
      have hb:b ≠ a:=fun z=>by
        rcases h with h | ⟨o,h⟩
        · exact (hF _ (z ▸ h)).nt.2.1 _ rfl
        · exact (hF _ (z ▸ h)).nt.2.2.1 _ _ rfl
      unfold Rd
      rw [Zbj hb]
      exact h
    · exact .inr h
  | @dct b es kvs vvs' h he hk _ ih =>
    refine .dct ?_ he hk ih
    by_cases hb:b = a
    · subst hb
      have:vvs' = vvs/\∃ u,F b = some u:=by
        rcases h with h | ⟨o,h⟩
        · rcases hF _ h with z | ⟨o', z⟩
          · cases z; exact ⟨rfl,_,h⟩
          · cases z
        · rcases hF _ h with z | ⟨o', z⟩
          · cases z
          · cases z; exact ⟨rfl,_,h⟩
      obtain ⟨rfl,u,hu⟩:=this
      unfold Rd
      rw [ZgD,hu]
      rcases hob with z | ⟨o,z⟩
      · subst z; exact .inl rfl
      · subst z; exact .inr ⟨o,rfl⟩
    · unfold Rd
      rw [Zbj hb]
      exact h
theorem ZC.sw (hF:∀ u,F a = some u->Dk vvs u) (hob:Dk vvs ob) (r:ZC K F ds vs):ZC K (HP.sw a ob F) ds vs:=⟨r.1,fun i d v h1 h2=>(r.2 i d v h1 h2).sw hF hob⟩
theorem Ext.sw (x:Ext F0 H0 F H) (hH:∀ u,H a = some u->Dk vvs u):Ext (HP.sw a ob F0) (HP.sw a ob H0) (HP.sw a ob F) (HP.sw a ob H) :=
 ⟨Zll x.ff,Zll x.hh,Zll x.sub,fun b o z=>by
  by_cases hb:b = a
  ·subst hb
   rw [ZgD] at z
   obtain ⟨u,h1,h2⟩:=Option.map_eq_some_iff.mp z
   rcases x.new b u h1 with q | q | ⟨xs,e,q⟩
   ·exact .inl (by rw [ZgD,q,<- h2]; rfl)
   ·exact .inr (.inl (by rw [ZgD,q]; rfl))
   ·exact absurd e ((hH _ (x.sub _ _ h1)).nt.1 xs)
  ·rw [Zbj hb] at z
   rcases x.new b o z with q | q
   ·exact .inl (by rw [Zbj hb]; exact q)
   ·refine .inr ?_
    unfold Fre
    rw [Zbj hb]
    exact q⟩
theorem At.sw (e:At K F0 H0 F H r σ) (hFa:F a = some u) (hu:Dk vvs u) (hob:Dk vvs ob) (nh:∀ (i:Nat) (es:List (PyData × PyData)),r[i]? ≠ some (some (HM.B.hd es))):At K (HP.sw a ob F0) (HP.sw a ob H0) (HP.sw a ob F) (HP.sw a ob H) r σ:=by
  obtain ⟨fp,e⟩:=e
  have hF:∀ u,F a = some u->Dk vvs u:=fun u' h=>by rw [hFa] at h; cases h; exact hu
  have hH:∀ u,H a = some u->Dk vvs u:=fun u' h=>by rw [e.sub _ _ hFa] at h; cases h; exact hu
  have own:∀ i,∀ c ∈ fp i,c ≠ a:=fun i c hc z=>by rw [<- z,(e.own i c hc).1] at hFa; cases hFa
  refine ⟨fp,e.ext.sw hH,e.len,fun i b h=>?_,e.emp,fun i b h=>?_,e.nd,e.dis⟩
  · obtain ⟨v, h1, h2⟩ := e.at_ i b h
    refine ⟨v,h1,?_⟩
    have own:=own i
    generalize fp i = f at h2 own
    cases h2 with
    | pl q=>exact .pl (q.sw hF hob)
    | ol k q=>exact .ol (by rw [Zbj (own _ (by simp))]; exact k) (q.sw hF hob)
    | ok k hk q=>exact .ok (by rw [Zbj (own _ (by simp))]; exact k) hk (q.sw hF hob)
    | ot k hk q=>exact .ot (by rw [Zbj (own _ (by simp))]; exact k) hk (q.sw hF hob)
    | otl k hk hv q =>
      refine .otl (by rw [Zbj (own _ (by simp))]; exact k) hk hv fun i ds l h1 h2=>?_
      obtain ⟨vs,q1,q2⟩:=q i ds l h1 h2
      exact ⟨vs,by rw [Zbj (own l (List.mem_cons_of_mem _ (List.mem_of_getElem? h2)))]; exact q1,q2.sw hF hob⟩
    | hd _ _ _ _=>exact absurd h (nh _ _)
  · rw [Zbj (own i b h), Zbj (own i b h)]
    exact e.own i b h
theorem set_same {x:Option V} (h:σ[i]? = some x):σ.set i x = σ:=by
 obtain ⟨h1,h2⟩:=List.getElem?_eq_some_iff.mp h
 rw [<- h2]
 exact List.set_getElem_self h1
theorem At.say {b':HM.B} (e:At K F0 H0 F H r σ) (h1:σ[i]? = some (some v)) (q:Zat K F H b' v []):At K F0 H0 F H (r.set i (some b')) σ:=by
 have:=e.store (i:=i) q List.nodup_nil (fun a h=>by simp at h) fun _ _ _ _ _ _ h=>by simp at h
 rwa [set_same h1] at this
theorem At.loosen (e:At K F0 H0 F H r σ) (h:r[i]? = some (some (.hd es))):At K F0 H0 F H (r.set i (some (.pl (.dict es)))) σ:=by
 obtain ⟨v,fp,h1,h2⟩:=e.any h
 cases h2 with
 | hd k1 k2 k3 k4=>exact e.say h1 (.pl (.dct (.inr ⟨_,k1⟩) k2 k3 k4.2))
theorem Zs4 (h:r.all (fun q=>!HM.Zbw q) = true) (i:Nat) (es:List (PyData × PyData)):r[i]? ≠ some (some (.hd es)):=fun z=>by
 have:=List.all_eq_true.mp h _ (List.mem_of_getElem? z)
 cases this
theorem Zqk {b':HM.B} (h:(r.set i none).all (fun q=>!HM.Zbw q) = true) (hb:∀ es,b' ≠ .hd es) (j:Nat) (es:List (PyData × PyData)):(r.set i (some b'))[j]? ≠ some (some (.hd es)):=fun z=>by
 by_cases hj:i = j
 ·subst hj
  by_cases hi:i < r.length
  ·rw [List.getElem?_set_self hi] at z
   injection z with z
   injection z with z
   exact hb _ z
  ·rw [List.getElem?_eq_none (by rw [List.length_set]; omega)] at z
   cases z
 ·rw [List.getElem?_set_ne hj] at z
  exact Zs4 h j es (by rw [List.getElem?_set_ne hj]; exact z)
end
section
variable {X:Cx} {pins:List (Addr × Obj)} {σ:L2.St} {H:Hp} {s:Shared} {a:Addr} {u ob:HO} {vvs:List (List Key × V)}
theorem Zmu {h:Heap} {o:HO} {b:Addr} (ha:H a = some u) (hu:Dk vvs u) (x:Zap X.prog X.w H h b o):Zap X.prog X.w (sw a ob H) h b o :=
 x.stay (fun _ _ _ q=>q) (fun c q=>by rw [Zbj (fun z=>by rw [z,ha] at q; cases q; exact hu.nt.2.2.2.2 _ rfl)]; exact q) fun c xs q=>by rw [Zbj (fun z=>by rw [z,ha] at q; cases q; exact hu.nt.1 _ rfl)]; exact q
theorem ZnN (I:Inv X pins σ H s) (ha:H a = some u) (hu:Dk vvs u) (ok:Zap X.prog X.w (sw a ob H) s.heap a ob) (hn:∀ o w,X.H₀ a ≠ some (.frz o w)):Inv X pins σ (HP.sw a ob H) s:=by
 have none':∀ b,H b = none->HP.sw a ob H b = none:=fun b h=>by rw [Zbj (fun z=>by rw [z,ha] at h; cases h)]; exact h
 refine ⟨I.ok,I.os,I.bare,⟨I.base.keep,I.base.slot,fun b o h1 h2 h3=>none' b (I.base.free b o h1 h2 h3),I.base.there,fun b xs h=>?_,fun b o w h=>?_,fun b ps h=>?_⟩,I.loc,I.cell,none' _ I.free,fun x c h=>none' _ (I.freeC x c h),fun p hp=>?_,fun b o h=>?_,I.len⟩
 ·have q:=I.base.tups b xs h
  rw [Zbj (fun z=>by rw [z,ha] at q; cases q; exact hu.nt.1 _ rfl)]
  exact q
 ·have q:=I.base.frzs b o w h
  rw [Zbj (fun z=>hn o w (by rw [<- z]; exact h))]
  exact q
 ·obtain ⟨m,q⟩:=I.base.tbls b ps h
  exact ⟨m,by rw [Zbj (fun z=>by rw [z,ha] at q; cases q; exact hu.nt.2.2.2.1 _ rfl)]; exact q⟩
 ·have q:=I.pin p hp
  exact ⟨q.1,none' _ q.2.1,q.2.2⟩
 ·by_cases hb:b = a
  ·subst hb
   rw [ZgD,ha] at h
   cases h
   exact ok
  ·rw [Zbj hb] at h
   exact Zmu ha hu (I.hok b o h)
theorem ZkZ (i:Nat) {st:Stmt} {g:HM.SF} (h:XS X st g):XS X st (HM.ZjG i g):=by
  intro r o ho
  unfold HM.ZjG at ho
  split at ho
  case h_2=>exact h r o ho
  rename_i es hr
  split at ho
  case isFalse=>cases ho
  rename_i hall
  have nh:=Zs4 hall
  intro pins s σ H E I ⟨F0,H0,F,at_,k⟩
  obtain ⟨v,h1,h2⟩:=at_.plain hr
  cases h2 with
  | @dct a _ kvs vvs hd he hk hrr =>
    have rs:∀ {F':Hp},Zw F F'->ZC X.K F' (kvs.map (·.2)) (vvs.map (·.2)):=fun s=>by
      refine ZC.mono ⟨?_,hrr⟩ s
      have:=congrArg List.length hk
      rw [List.length_map,List.length_map] at this ⊢
      exact this
    rcases hd with hd | ⟨q,hd⟩
    · have hHa := at_.sub _ _ hd
      obtain ⟨z,y,xs,rl,q,es1,ep,e1,c1⟩:=(show Zap X.prog X.w H s.heap a (.dT vvs) from I.hok a _ hHa)
      have hn:∀ o w,X.H₀ a ≠ some (.frz o w):=fun o w z=>by
        have:=I.base.frzs _ _ _ z
        rw [hHa] at this; cases this
      have I1:=ZnN (ob:=.frz q (.dT vvs)) I hHa (.inl rfl) ⟨e1,Zmu hHa (.inl rfl) ⟨z,y,xs,rl,q,es1,ep,e1,c1⟩⟩ hn
      have at1:=at_.sw (ob:=.frz q (.dT vvs)) hd (.inl rfl) (.inr ⟨q,rfl⟩) nh
      have Ra:HP.sw a (.frz q (.dT vvs)) F a = some (.frz q (.dT vvs)):=by rw [ZgD,hd]; rfl
      have hFd:∀ u,F a = some u->Dk vvs u:=fun u z=>by rw [hd] at z; cases z; exact .inl rfl
      have at2:=(at1.say (i:=i) h1 (.hd Ra he hk (ZC.sw hFd (.inr ⟨q,rfl⟩) (rs (Zw.refl F))))).rebase
      have e0:HP.sw a (.dT vvs) (HP.sw a (.frz q (.dT vvs)) F0) = F0:=Zs5 fun u z=>by
        have:=at_.ext.ff _ _ z
        rw [hd] at this; cases this; rfl
      have e1:HP.sw a (.dT vvs) (HP.sw a (.frz q (.dT vvs)) H0) = H0:=Zs5 fun u z=>by
        have:=at_.ext.hh _ _ z
        rw [hHa] at this; cases this; rfl
      split at ho
      · rename_i r' hg
        split at ho
        case h_2=>cases ho
        rename_i es' hr'
        split at ho
        case isFalse=>cases ho
        rename_i hall'
        cases ho
        refine thn (h _ _ hg pins s σ _ { nx:=fun σ' H'=>∃ F',At X.K (HP.sw a (.frz q (.dT vvs)) F) (HP.sw a (.frz q (.dT vvs)) H0) F' H' r' σ',rt:=fun _ _=>False,bk:=fun _ _=>False,ct:=fun _ _=>False } I1 ⟨_,_,_,at2,fun σ' F' H' a'=>⟨F',a'⟩⟩) fun fl s' z=>?_
        cases fl with
        | next =>
          obtain ⟨σ',H',I',F',a'⟩:=z
          have Fa:=a'.ext.ff _ _ Ra
          have Ha:=a'.sub _ _ Fa
          have a3:=((a'.unbase at1.ext).loosen hr').sw (ob:=.dT vvs) Fa (.inr ⟨q,rfl⟩) (.inl rfl) (Zqk hall' fun _ z=>by cases z)
          rw [e0,e1] at a3
          exact ⟨σ',_,ZnN I' Ha (.inr ⟨q,rfl⟩) (Zmu Ha (.inr ⟨q,rfl⟩) (ZkE I'.hok (.inr ⟨q,Ha⟩))) hn,k σ' _ _ a3⟩
        | brk=>obtain ⟨_,_,_,z⟩:=z; exact z.elim
        | cont=>obtain ⟨_,_,_,z⟩:=z; exact z.elim
        | ret u=>obtain ⟨_,_,_,_,_,z⟩:=z; exact z.elim
      · rename_i d hg
        cases ho
        refine thn (h _ _ hg pins s σ _ { nx:=fun _ _=>False,bk:=fun _ _=>False,ct:=fun _ _=>False,rt:=fun v' H'=>∃ F',Ext (HP.sw a (.frz q (.dT vvs)) F) (HP.sw a (.frz q (.dT vvs)) H0) F' H'/\Rep X.K F' d v' } I1 ⟨_,_,_,at2,fun v' F' H' x q=>⟨F',x,q⟩⟩) fun fl s' z=>?_
        cases fl with
        | ret u =>
          obtain ⟨v',σ',H',I',rv,F',x',r'⟩:=z
          have Fa:=x'.ff _ _ Ra
          have Ha:=x'.sub _ _ Fa
          have x3:=(Ext.unbase at1.ext x').sw (a:=a) (vvs:=vvs) (ob:=.dT vvs) fun u z=>by rw [Ha] at z; cases z; exact .inr ⟨q,rfl⟩
          rw [e0,e1] at x3
          exact ⟨v',σ',_,ZnN I' Ha (.inr ⟨q,rfl⟩) (Zmu Ha (.inr ⟨q,rfl⟩) (ZkE I'.hok (.inr ⟨q,Ha⟩))) hn,rv,k v' _ _ x3 (r'.sw (fun u z=>by rw [Fa] at z; cases z; exact .inr ⟨q,rfl⟩) (.inl rfl))⟩
        | next=>obtain ⟨_,_,_,z⟩:=z; exact z.elim
        | brk=>obtain ⟨_,_,_,z⟩:=z; exact z.elim
        | cont=>obtain ⟨_,_,_,z⟩:=z; exact z.elim
      · cases ho
    · have at2 := at_.say (i := i) h1 (.hd hd he hk (rs (Zw.refl F)))
      split at ho
      · rename_i r' hg
        split at ho
        case h_2=>cases ho
        rename_i es' hr'
        split at ho
        case isFalse=>cases ho
        cases ho
        exact h _ _ hg pins s σ H E I ⟨F0,H0,F,at2,fun σ' F' H' a'=>k σ' F' H' (a'.loosen hr')⟩
      · rename_i d hg
        cases ho
        exact h _ _ hg pins s σ H E I ⟨F0,H0,F,at2,k⟩
      · cases ho
def Itd (a:Addr) (o:Obj):It :=
 ⟨fun i H=>∃ vvs q,H a = some (.frz o (.dT vvs))/\vvs[i]? = some q,fun i H x H'=>H' = H/\∀ vvs,H a = some (.frz o (.dT vvs))->∃ q b,vvs[i]? = some q/\x = .ref b/\H b = some (.tup (q.1.map kV)),fun i H=>∃ vvs,H a = some (.frz o (.dT vvs))/\vvs.length <= i⟩
theorem Zp7 {α β:Type} {R:α->β->Prop} {l:List α} {m:List β} (r:Paired R l m):∀ {i:Nat} {x:α},l[i]? = some x->∃ y,m[i]? = some y/\R x y:=by
  induction r with
  | nil=>intro i x e; simp at e
  | @cons p q _ _ hq _ ih =>
    intro i x e
    cases i with
    | zero=>rw [List.getElem?_cons_zero] at e; cases e; exact ⟨q,rfl,hq⟩
    | succ i=>rw [List.getElem?_cons_succ] at e ⊢; exact ih e
theorem Zrs {P:Program} {w:World} {K:PySem.W.Frag} {tg:Expr} (a it:Addr) (o:Obj) (es:Array DictEntry) (ep:Nat) (hd:o.data = .dict es ep):Turn P w K tg (Itd a o) [it] it (fun i h=>h.IsKeyIter it a i es.size ep) where
 mem:=by simp
 obj:=fun i h st b hb=>by
  have e:b = it:=by simpa using hb
  subst e
  obtain ⟨o,e,c,d⟩:=st
  exact ⟨o,e,fun v z=>by rw [d] at z; cases z⟩
 keep:=fun i h h' st k=>st.at fun o e=>k it (by simp) o e
 item:=by
  intro X hP hw hK hc i pins s σ H E I hf st hg
  subst hP hw hK
  obtain ⟨vvs,q,hH,hq⟩:=hg
  obtain ⟨h1,z,lo,xs,rel,o2,es2,ep2,h2,h3,h4,h5,h6⟩:=(show Zap X.prog X.w H s.heap a (.frz o (.dT vvs)) from I.hok a _ hH)
  rw [h1] at h2
  cases h2
  rw [hd] at h4
  cases h4
  obtain ⟨f0,f1,f2,f3,f4,f5⟩:=hf it (by simp)
  obtain ⟨p,hp,hr1,hr2,_⟩:=Zp7 rel hq
  have he:es[i]? = some (entryOfKey (tupleKind (Zau X.prog X.w)) p):=by rw [<- Array.getElem?_toList,h5,List.getElem?_map,hp]; rfl
  refine ZnG st ⟨o,h1,h3,hd⟩ he fun h' st' sb=>?_
  have I1:Inv X pins σ H { s with heap:=h' }:=I.turned (t':=s.toks) (fun b o hb e=>(sb.2 b hb).trans e) f0 f1 f3 f4 f5
  obtain ⟨oi,e,c,d⟩:=id st'
  refine ⟨_,rfl,Zmv (s:={ s with heap:=h' }) e c d (by decide) ⟨.ref p.2.1,H,I1,rfl,⟨rfl,fun vv hv=>?_⟩,st',fun b hb=>(hf b hb).1⟩⟩
  rw [hH] at hv
  cases hv
  exact ⟨q,p.2.1,hq,rfl,hr2⟩
 done:=by
  intro X hP hw hK hc i pins s σ H E I hf st hg
  subst hP hw hK
  obtain ⟨vvs,hH,hq⟩:=hg
  obtain ⟨h1,z,lo,xs,rel,o2,es2,ep2,h2,h3,h4,h5,h6⟩:=(show Zap X.prog X.w H s.heap a (.frz o (.dT vvs)) from I.hok a _ hH)
  rw [h1] at h2
  cases h2
  rw [hd] at h4
  cases h4
  obtain ⟨f0,f1,f2,f3,f4,f5⟩:=hf it (by simp)
  have hl:vvs.length = xs.length:=Paired.length rel
  have hes:es.size = xs.length:=by rw [<- Array.length_toList,h5,List.length_map]
  exact Zo9 (I.ok.hd hc) st ⟨o,h1,h3,hd⟩ (by omega) fun h' eb=>⟨rfl,I.turned (t':=s.toks) (fun b o hb e=>eb b o hb e) f0 f1 f3 f4 f5⟩
 self:=fun _ _ _ _ _ st h=>wpAny_pyIter_keyiter st h
theorem ZtM {tg l:Expr} {tl:TE} (hl:PE X l tl):PI X tg l (fun σ H R=>tl σ H fun x H1=>∃ a o vvs,x = .ref a/\H1 a = some (.frz o (.dT vvs))/\R (Itd a o) H1):=by
 intro pins s σ H R I h
 refine thn (hl pins s σ H _ I h) fun v s1 ⟨x,H1,I1,r1,a,o,vvs,e,hH,q⟩=>?_
 subst e
 cases r1
 obtain ⟨h1,z,lo,xs,rel,o2,es,ep,h2,h3,h4,h5,h6⟩:=(show Zap X.prog X.w H1 s1.heap a (.frz o (.dT vvs)) from I1.hok a _ hH)
 rw [h1] at h2
 cases h2
 refine Znc lo ⟨o,h1,h3,h4⟩ ⟨s1.heap.objs.size,[s1.heap.objs.size],_,_,H1,rfl,I1.kept (t':=s1.toks) fun b o e=>Heap.get?_push_of_some _ e,Zrs a _ o es ep h4,⟨_,Heap.get?_push_size _ rfl,rfl,rfl⟩,fun b hb=>?_,q⟩
 obtain rfl:b = s1.heap.objs.size:=by simpa using hb
 exact I1.fpOk (Nat.le_refl _) (I1.hok.fresh (Nat.le_refl _))
theorem Zsy {K:PySem.W.Frag} {F:Hp} {a:Addr} {o:Obj} {kvs:List (List Key × PyData)} {vvs:List (List Key × V)} (h:F a = some (.frz o (.dT vvs))) (hk:kvs.map (·.1) = vvs.map (·.1)):ItD K (Itd a o) (kvs.map fun p=>.tuple (p.1.map HM.ZaO)) F:=by
 intro F' H s1 s2
 have hH:=s2 _ _ (s1 _ _ h)
 have hl:kvs.length = vvs.length:=by
  have:=congrArg List.length hk
  rwa [List.length_map,List.length_map] at this
 refine ⟨fun i d hd=>?_,vvs,hH,by rw [List.length_map,hl]; exact Nat.le_refl _⟩
 rw [List.getElem?_map] at hd
 obtain ⟨q,hq,hd⟩:=Option.map_eq_some_iff.mp hd
 subst hd
 have hi:i < vvs.length:=by rw [<- hl]; exact (List.getElem?_eq_some_iff.mp hq).1
 have hw:vvs[i]? = some vvs[i]:=List.getElem?_eq_getElem hi
 have hw1:vvs[i].1 = q.1:=by
  have:(kvs.map (·.1))[i]? = (vvs.map (·.1))[i]?:=by rw [hk]
  rw [List.getElem?_map,List.getElem?_map,hq,hw] at this
  exact (Option.some.inj this).symm
 refine ⟨⟨vvs,_,hH,hw⟩,fun x H' hy=>?_⟩
 obtain ⟨e,y⟩:=hy
 refine ⟨e,?_⟩
 obtain ⟨q',b,e1,e2,e3⟩:=y vvs hH
 rw [hw] at e1
 cases e1
 subst e2
 rw [hw1] at e3
 have rk:=Zhr (K:=K) (F:=ZcW F' H) q.1
 exact .tup (Zkd e3) rk.1 rk.2
theorem Zk0 (i:Nat) {tg:Expr} {x:Str} {pos:Pos} (hN:X.N[i]? = some x:=by rfl) (hv:Vis X.env.scope x:=by first | exact Or.inl rfl | exact Or.inr (Or.inl rfl) | exact Or.inr (Or.inr rfl)) (hd:(x == ("__debug__":Str)) = false:=by decide)
    (hcd:(x == ("__classdict__":Str)) = false:=by decide):XI X tg (.Name x pos) (HM.Zeg i):=by
  intro r ds h
  have row:∀ {d:PyData},r[i]? = some (some (.pl d))->HM.Zbb (.pl d) = some ds->HM.Z1 (HM.bOf (HM.Zb i)) r = some ds:=fun {d} h1 h2=>by
    have e:HM.Zb i r = some d:=by unfold HM.Zb; rw [h1]
    unfold HM.Z1 HM.bOf
    rw [e]
    exact h2
  unfold HM.Zeg at h
  split at h
  · rename_i q; exact ZR (Za i hN hv hd hcd) r ds (row q h)
  · rename_i q; exact ZR (Za i hN hv hd hcd) r ds (row q h)
  · rename_i es q
    obtain ⟨kvs,h1,h2⟩:=Option.map_eq_some_iff.mp h
    subst h2
    refine PI.imp (ZtM (Zcu hN hv hd hcd)) fun σ H R ⟨F0,H0,F,at_,k⟩=>?_
    obtain ⟨v,fp,g1,g2⟩:=at_.any q
    cases g2 with
    | @hd a o _ kvs' vvs k1 k2 k3 k4 =>
      subst k2
      rw [HM.dec_enc] at h1
      cases h1
      exact ⟨.ref a,g1,a,o,vvs,rfl,at_.sub _ _ k1,k _ F H at_.refl (Zsy k1 k3)⟩
  · cases h
theorem Zvt (i:Nat) {x:Str} {pos:Pos} (hN:X.N[i]? = some x:=by rfl) (hv:Vis X.env.scope x:=by first | exact Or.inl rfl | exact Or.inr (Or.inl rfl) | exact Or.inr (Or.inr rfl)) (hd:(x == ("__debug__":Str)) = false:=by decide)
  (hcd:(x == ("__classdict__":Str)) = false:=by decide):XE X (.Name x pos) (HM.eHd i):=by
 intro r d h
 unfold HM.eHd at h
 split at h
 ·rename_i q
  cases h
  exact Za i hN hv hd hcd r d (by unfold HM.Zb; rw [q])
 ·rename_i es q
  cases h
  refine PE.imp (Zcu hN hv hd hcd) fun σ H Q ⟨F0,H0,F,at_,k⟩=>?_
  obtain ⟨v,fp,g1,g2⟩:=at_.any q
  cases g2 with
  | hd k1 k2 k3 k4=>exact ⟨_,g1,k _ F H at_.refl (.dct (.inr ⟨_,k1⟩) k2 k3 k4.2)⟩
 ·cases h
end
end HP
namespace HM
open PySem
theorem Zcw {α:Type} {c:TF} {e:EF} {r:Env} (g:α->D) (p:α->Bool) (f:α->D):∀ (xs:List α),(∀ x ∈ xs,c (some (.pl (g x)) :: r) = some (p x))->(∀ x ∈ xs,p x = true->e (some (.pl (g x)) :: r) = some (f x))->ZaM c e r (xs.map g) = some ((xs.filter p).map f)
  | [],_,_=>rfl
  | x :: xs, h1, h2 => by
    have ih:=Zcw g p f xs (fun y hy=>h1 y (List.mem_cons_of_mem _ hy)) (fun y hy=>h2 y (List.mem_cons_of_mem _ hy))
    have hc:=h1 x (List.mem_cons_self ..)
    rw [List.map_cons]
    unfold ZaM
    rw [hc]
    cases hp:p x with
    | true =>
      have he:=h2 x (List.mem_cons_self ..) hp
      dsimp only
      rw [he]
      dsimp only
      rw [ih,List.filter_cons_of_pos hp]
      rfl
    | false =>
      dsimp only
      rw [ih,List.filter_cons_of_neg (by simp [hp])]
theorem ZaU {α:Type} {e:EF} {r:Env} (g:α->D) (f:α->D) (xs:List α) (h:∀ x ∈ xs,e (some (.pl (g x)) :: r) = some (f x)):ZaM ZV e r (xs.map g) = some (xs.map f):=by
 rw [Zcw g (fun _=>true) f xs (fun _ _=>rfl) fun x hx _=>h x hx,List.filter_eq_self.mpr fun _ _=>rfl]
theorem ZjB {α:Type} {i:Nat} {body:SF} (g:α->D) (P:List α->Env->Prop) (xs:List α) (r:Env) (h0:P [] r)
    (hs:∀ pre x post r,xs = pre ++ x :: post->P pre r->∃ r',body (r.set i (some (.pl (g x)))) = some (.nx r')/\P (pre ++ [x]) r'):∃ r',Z2 i body (xs.map g) r = some (.nx r')/\P xs r':=by
  have key:∀ (post pre:List α) (r:Env),xs = pre ++ post->P pre r->∃ r',Z2 i body (post.map g) r = some (.nx r')/\P xs r':=by
    intro post
    induction post with
    | nil=>intro pre r e h; rw [List.append_nil] at e; subst e; exact ⟨r,rfl,h⟩
    | cons x post ih =>
      intro pre r e h
      obtain ⟨r1,h1,h2⟩:=hs pre x post r e h
      obtain ⟨r2,h3,h4⟩:=ih (pre ++ [x]) r1 (by rw [e,List.append_assoc]; rfl) h2
      refine ⟨r2,?_,h4⟩
      rw [List.map_cons]
      unfold Z2
      rw [h1]
      exact h3
  exact key xs [] r rfl h0
def Zuo {α S:Type} (q:S->α->Bool) (step:S->α->S):S->List α->Bool
 | _,[]=>true
 | s,x :: xs=>q s x && Zuo q step (step s x) xs
abbrev dI (i:Int):D:=PyData.int i
abbrev dN (k:Nat):D:=PyData.int (k:Int)
theorem ZgC (ns:List Int):ofInts ns = ns.map dI:=rfl
theorem Zaa (n:Nat):ZbT 0 n = (List.range n).map dN:=by
 unfold ZbT
 refine List.map_congr_left fun k _=>?_
 show PyData.int (0 + (k:Int)) = PyData.int (k:Int)
 rw [Int.zero_add]
theorem Zcb (ns:List Int):Zbk (ns.map dI) = some ns:=by
 induction ns with
 | nil=>rfl
 | cons n ns ih=>show (Zbk (ns.map dI)).map (n :: ·) = _; rw [ih]; rfl
theorem ZgE (bs:List Bool):ZeP (bs.map fun b=>PyData.bool b) = some bs:=by
 induction bs with
 | nil=>rfl
 | cons b bs ih=>show (ZeP (bs.map fun b=>PyData.bool b)).map (b :: ·) = _; rw [ih]; rfl
abbrev tupI (ns:List Int):D:=PyData.tuple (ns.map dI)
theorem Zdr {ds:List D} {j:Nat} {d:D} (h:ds[j]? = some d):atD ds (j:Int) = some d:=by
 have hj:j < ds.length:=(List.getElem?_eq_some_iff.mp h).1
 unfold atD ixN
 rw [if_pos (by omega),if_pos (by omega)]
 simpa using h
theorem ZjD {ds:List D} {i:Int} {d:D} (h0:0 <= i) (h:ds[i.toNat]? = some d):atD ds i = some d:=by
 have e:i = ((i.toNat:Nat):Int):=by omega
 rw [e]; exact Zdr (by simpa using h)
@[simp] theorem ZwL (d:D) (r:List D):atD (d :: r) 0 = some d:=Zdr (j:=0) rfl
@[simp] theorem ZwI (a d:D) (r:List D):atD (a :: d :: r) 1 = some d:=Zdr (j:=1) rfl
@[simp] theorem ZwJ (a b d:D) (r:List D):atD (a :: b :: d :: r) 2 = some d:=Zdr (j:=2) rfl
@[simp] theorem ZwM (a b c d:D) (r:List D):atD (a :: b :: c :: d :: r) 3 = some d:=Zdr (j:=3) rfl
@[simp] theorem ZwK (a b c e d:D) (r:List D):atD (a :: b :: c :: e :: d :: r) 4 = some d:=Zdr (j:=4) rfl
theorem Zwj (i j:Int) (h:(Z7 i || Z7 j) = true):Zdu (.int i) (.int j) = some (.int (i * j)):=by
 show (if Z7 i || Z7 j then some (PyData.int (i * j)) else none) = _
 rw [if_pos h]
@[simp] theorem Zv9:Z7 7 = true:=rfl
@[simp] theorem ZvY:Z7 11 = true:=rfl
@[simp] theorem ZvU:Z7 13 = true:=rfl
@[simp] theorem Zv4:Z7 17 = true:=rfl
@[simp] theorem Zv1:Z7 19 = true:=rfl
@[simp] theorem Zv3:Z7 23 = true:=rfl
@[simp] theorem ZvT:Z7 29 = true:=rfl
@[simp] theorem ZvS:Z7 31 = true:=rfl
@[simp] theorem ZvZ:Z7 37 = true:=rfl
@[simp] theorem ZvW:Z7 41 = true:=rfl
@[simp] theorem Zv2:Z7 43 = true:=rfl
@[simp] theorem Zv0:Z7 47 = true:=rfl
@[simp] theorem ZvV:Z7 53 = true:=rfl
@[simp] theorem Zv5:Z7 59 = true:=rfl
@[simp] theorem Zv8:Z7 61 = true:=rfl
@[simp] theorem ZvX:Z7 67 = true:=rfl
@[simp] theorem Zv7:Z7 71 = true:=rfl
@[simp] theorem Zv6:Z7 73 = true:=rfl
@[simp] theorem ZuZ:Z7 48271 = true:=rfl
@[simp] theorem Zwi:Z7 2 = true:=rfl
@[simp] theorem Zwo:Z7 3 = true:=rfl
@[simp] theorem Zwr:Z7 5 = true:=rfl
theorem Zi4 {i:Int} (h1:-1000000000 < i) (h2:i < 1000000000):Z7 i = true:=by
 unfold Z7
 have:i.natAbs < 18446744073709551616:=by omega
 exact Nat.blt_eq.mpr this
theorem Zc2 {n:Nat} (h:n < 1000000):okR (n:Int) = true:=Nat.blt_eq.mpr (by omega)
@[simp] theorem Zvu (i:Int):Zaf (.int i) = true:=rfl
@[simp] theorem Zvr (i:Bool):Zaf (.bool i) = true:=rfl
@[simp] theorem Zvq:Zaf .none = true:=rfl
@[simp] theorem ZwF (i j:Int):PyData.eqv (.int i) (.int j) = (i == j):=rfl
structure Wk where
 many:Nat
 deeds:List (List (List Int))
 looks:List (List Int)
 beg:List Int
 goal:List Int
def ZS (dd:List (List Int)):D:=.tuple (dd.map tupI)
def Wk.d (w:Wk):D:=.tuple [.int w.many,.tuple (w.deeds.map ZS),.tuple (w.looks.map tupI),tupI w.beg,tupI w.goal]
def Cr (n:Nat) (c:List Int):Prop:=c.Pairwise (· < ·)/\∀ x ∈ c,0 <= x/\x < (n:Int)
structure Wk.Ok (w:Wk):Prop where
 m1:2 <= w.many
 m2:w.many <= 5
 d1:1 <= w.deeds.length
 d2:w.deeds.length <= 3
 dl:∀ dd ∈ w.deeds,dd.length = w.many
 dc:∀ dd ∈ w.deeds,∀ c ∈ dd,Cr w.many c
 l2:w.looks.length <= 3
 ll:∀ l ∈ w.looks,l.length = w.many
 lc:∀ l ∈ w.looks,∀ x ∈ l,0 <= x/\x <= 9
 b1:w.beg ≠ []
 bc:Cr w.many w.beg
 g1:w.goal ≠ []
 gc:Cr w.many w.goal
theorem Cr.len {n:Nat}:∀ {c:List Int},Cr n c->c.length <= n:=by
  have key:∀ (c:List Int) (l:Int),c.Pairwise (· < ·)->(∀ x ∈ c,l <= x/\x < (n:Int))->(c.length:Int) <= max 0 ((n:Int) - l):=by
    intro c
    induction c with
    | nil=>intro l _ _; simp; omega
    | cons x c ih =>
      intro l hp hb
      have h1:=hb x (List.mem_cons_self ..)
      have h2:=ih (x + 1) (List.pairwise_cons.mp hp).2 fun y hy=>⟨by have:=(List.pairwise_cons.mp hp).1 y hy; omega,(hb y (List.mem_cons_of_mem _ hy)).2⟩
      rw [List.length_cons]
      omega
  intro c h
  have:=key c 0 h.1 h.2
  omega
theorem sortI_perm (ns:List Int):(sortI ns).Perm ns:=List.mergeSort_perm ns _
theorem ZrW (ns:List Int):(sortI ns).Pairwise (· <= ·):=by
 have h:=List.pairwise_mergeSort (le:=fun a b:Int=>decide (a <= b)) (fun a b c h1 h2=>by simp at *; omega) (fun a b=>by simp; omega) ns
 exact h.imp fun h=>by simpa using h
theorem ZjZ:∀ {ns:List Int},ns.Pairwise (· <= ·)->ns.Nodup->ns.Pairwise (· < ·)
  | [],_,_=>.nil
  | n :: ns, h, hn => by
    obtain ⟨h1,h2⟩:=List.pairwise_cons.mp h
    obtain ⟨n1,n2⟩:=List.nodup_cons.mp hn
    refine List.pairwise_cons.mpr ⟨fun x hx=>?_,ZjZ h2 n2⟩
    have:=h1 x hx
    have:n ≠ x:=fun e=>n1 (e ▸ hx)
    omega
theorem Ziz {n:Nat} {ns:List Int} (hn:ns.Nodup) (hb:∀ x ∈ ns,0 <= x/\x < (n:Int)):Cr n (sortI ns) :=
 ⟨ZjZ (ZrW ns) ((sortI_perm ns).nodup_iff.mpr hn),fun x hx=>hb x ((sortI_perm ns).mem_iff.mp hx)⟩
theorem Ziu (ns:List Int) (h:ns.length < 64):ZfZ (ns.map dI) = some ((sortI ns).map dI):=by
 unfold ZfZ
 rw [if_pos (by rw [List.length_map]; exact h),Zcb]
 rfl
theorem Zgd:∀ (ns acc:List Int) (x:Int),x ∈ dedup acc ns ↔ x ∈ acc\/x ∈ ns
  | [],acc,x=>by simp [dedup]
  | n :: ns, acc, x => by
    unfold dedup
    split
    · rename_i h
      have h':n ∈ acc:=by simpa using h
      rw [Zgd ns acc x]
      constructor
      · rintro (h | h)
        · exact .inl h
        · exact .inr (List.mem_cons_of_mem _ h)
      · rintro (h | h)
        · exact .inl h
        · rcases List.mem_cons.mp h with e | e
          · exact .inl (e ▸ h')
          · exact .inr e
    · rw [Zgd ns _ x, List.mem_append, List.mem_singleton, List.mem_cons]
      constructor
      · rintro ((h | h) | h)
        · exact .inl h
        · exact .inr (.inl h)
        · exact .inr (.inr h)
      · rintro (h | h | h)
        · exact .inl (.inl h)
        · exact .inl (.inr h)
        · exact .inr h
theorem ZfY:∀ (ns acc:List Int),acc.Nodup->(dedup acc ns).Nodup
  | [],acc,h=>h
  | n :: ns, acc, h => by
    unfold dedup
    split
    · exact ZfY ns acc h
    · rename_i hc
      have hc':n ∉ acc:=by simpa using hc
      refine ZfY ns _ ?_
      rw [List.nodup_append]
      exact ⟨h,by simp,fun a ha b hb=>by simp at hb; subst hb; exact fun e=>hc' (e ▸ ha)⟩
end HM
namespace HG
open PySem HM
def ZiK:SF :=
 (Zu (sIf (tOr (tV (Zeo (Zb 0) .bool)) (ZbJ (tV (Zeo (Zb 0) .int)))) (ZH (eC (.bool false))) Zai)
  (ZH (Zga gLe gLe (Zb 1) (Zb 0) (Zb 2))))
def ZaZ:List D->Option D:=fnOf 3 3 ZiK
def Zlx:SF :=
 (ZH (Ze0 (Zeo (Zb 0) .tuple) (Zga gLe gLe (Zb 1) (ZaB (Zk 0)) (Zb 2))))
def ZaX:List D->Option D:=fnOf 3 3 Zlx
def Zay:SF :=
 (Zu (sIf (ZbJ (tV (Zp ZaZ (Zc (Zb 3) (Zc (Zb 2) (Zc (op2 Zld (Zb 1) (eC (.int 1))) Zm)))))) (ZH (eC (.bool false))) Zai)
  (Z9 2 (op2 Zbc (Zb 3) (eC (.int 1)))))
def Zfb:SF :=
 (Zu (sIf (ZbJ (tV (Zeo (Zb 0) .tuple))) (ZH (eC (.bool false))) Zai)
  (Zu (Z9 2 (eC (.int 0)))
  (Zu (Za9 3 (Z1 (bOf (Zb 0))) Zay)
  (ZH (eC (.bool true))))))
def Zad:List D->Option D:=fnOf 2 4 Zfb
def ZhW:SF :=
 (ZH (Ze0 (Zp ZaX (Zc (Zb 0) (Zc (Zb 1) (Zc (Zb 1) Zm)))) (ZfB (ZT (Z1 (bOf (Zb 0))) ZV (Zp Zad (Zc (Zb 0) (Zc (Zb 2) Zm)))))))
def Zcn:List D->Option D:=fnOf 2 2 ZhW
def ZhX:SF :=
 (ZH (Ze0 (Zp ZaX (Zc (Zb 0) (Zc (Zb 1) (Zc (Zb 1) Zm)))) (ZfB (ZT (Z1 (bOf (Zb 0))) ZV (Zp ZaZ (Zc (Zb 0) (Zc (eC (.int 0)) (Zc (eC (.int 9)) Zm))))))))
def Zco:List D->Option D:=fnOf 2 2 ZhX
def ZiL:SF :=
 (ZH (Ze0 (Zp ZaX (Zc (Zb 0) (Zc (eC (.int 1)) (Zc (eC (.int 5)) Zm)))) (ZfB (ZT (Z1 (bOf (Zb 0))) ZV (Zp Zcn (Zc (Zb 0) (Zc (Zb 2) Zm)))))))
def ZcC:List D->Option D:=fnOf 2 2 ZiL
def ZiM:SF :=
 (ZH (Ze0 (Zp ZaX (Zc (Zb 0) (Zc (eC (.int 0)) (Zc (eC (.int 4)) Zm)))) (ZfB (ZT (Z1 (bOf (Zb 0))) ZV (Zp Zco (Zc (Zb 0) (Zc (Zb 2) Zm)))))))
def ZcD:List D->Option D:=fnOf 2 2 ZiM
def ZjQ:SF :=
 (ZH (Ze0 (Zp Zad (Zc (Zb 0) (Zc (Zb 1) Zm))) (op2 gGt (ZaB (Zk 0)) (eC (.int 0)))))
def Zdi:List D->Option D:=fnOf 2 2 ZjQ
def ZiN:SF :=
 (Zu (sIf (tOr (ZbJ (tV (Zp ZaX (Zc (Zb 0) (Zc (eC (.int 5)) (Zc (eC (.int 5)) Zm)))))) (ZbJ (tV (Zp ZaZ (Zc (eIx (Zk 0) (eC (.int 0))) (Zc (eC (.int 1)) (Zc (eC (.int 8)) Zm))))))) (ZH (eC (.bool false))) Zai)
  (Zu (Z9 1 (eIx (Zk 0) (eC (.int 0))))
  (Zu (sIf (tOr (ZbJ (tV (Zp ZcC (Zc (eIx (Zk 0) (eC (.int 1))) (Zc (Zb 1) Zm))))) (ZbJ (tV (Zp ZcD (Zc (eIx (Zk 0) (eC (.int 2))) (Zc (Zb 1) Zm)))))) (ZH (eC (.bool false))) Zai)
  (ZH (Ze0 (Zp Zdi (Zc (eIx (Zk 0) (eC (.int 3))) (Zc (Zb 1) Zm))) (Zp Zad (Zc (eIx (Zk 0) (eC (.int 4))) (Zc (Zb 1) Zm))))))))
def ZcE:List D->Option D:=fnOf 1 2 ZiN
def ZjR:SF :=
 (ZH (eIx (Zk 0) (eC (.int 1))))
def Zbd:List D->Option D:=fnOf 1 1 ZjR
def ZjS:SF :=
 (ZH (eIx (Zk 0) (eC (.int 2))))
def ZbW:List D->Option D:=fnOf 1 1 ZjS
def Zkx:SF :=
 (Zu (sIf (ZbJ (tV (Zp ZcE (Zc (Zb 0) Zm)))) Zi0 Zai)
  (ZH (Zb 0)))
def Zd3:List D->Option D:=fnOf 1 1 Zkx
def ZgL:SF :=
 (Zu (sIf (ZbJ (tV (Zp Zad (Zc (Zb 1) (Zc (ZaB (bOf (Zp ZbW (Zc (Zb 0) Zm)))) Zm))))) Zi0 Zai)
  (ZH (Zb 1)))
def Zbv:List D->Option D:=fnOf 2 2 ZgL
def Zky:SF :=
 (ZH (Zam (ZT (Z1 (bOf (Zb 1))) ZV (eIx (bOf (eIx (bOf (Zp ZbW (Zc (Zb 1) Zm))) (Zb 0))) (Zb 3)))))
def Zd4:List D->Option D:=fnOf 3 3 Zky
def ZhJ:SF :=
 (Zu (Z9 3 (eIx (bOf (Zp Zbd (Zc (Zb 0) Zm))) (Zb 2)))
  (ZH (ZfB (ZT (Z1 (bOf (Zb 1))) ZV (op2 gGt (ZaB (bOf (eIx (Zk 4) (Zb 0)))) (eC (.int 0)))))))
def Zb1:List D->Option D:=fnOf 3 4 ZhJ
def ZiA:SF :=
 (ZH (eOf (ZT (ZbV (ZaB (bOf (Zp Zbd (Zc (Zb 0) Zm))))) (tV (Zp Zb1 (Zc (Zb 1) (Zc (Zb 2) (Zc (Zb 0) Zm))))) (Zb 0))))
def Zce:List D->Option D:=fnOf 2 2 ZiA
def Zfc:SF :=
 (ZhE 4 (Zb 6) (eC (.bool true)))
def Zfd:SF :=
 (Za9 6 (Z1 (bOf (eIx (Zk 3) (Zb 5)))) Zfc)
def Zly:SF :=
 (Zu (Z9 3 (eIx (bOf (Zp Zbd (Zc (Zb 0) Zm))) (Zb 2)))
  (Zu (Zac 4 fDk)
  (Zu (Za9 5 (Z1 (bOf (Zb 1))) Zfd)
  (ZH (Zam (ZgJ (Zk 4)))))))
def Zdw:List D->Option D:=fnOf 3 7 Zly
def Zfe:SF :=
 (Zm7 3 (Zp Zd4 (Zc (Zb 0) (Zc (Zb 1) (Zc (Zb 4) Zm)))) (Zb 4))
def Zlz:SF :=
 (Zu (Zac 3 ZrO)
  (Zu (Za9 4 (Z1 (bOf (Zb 2))) Zfe)
  (ZH (eOf (ZT (Z1 (bOf (eOf (ZgJ (Zk 3))))) ZV (Zca (Zc (Zb 0) (Zc (Zam (ZnY 4 (Zb 0))) Zm))))))))
def ZbD:List D->Option D:=fnOf 3 5 Zlz
def ZjT:SF :=
 (Zu (sIf (tV (op2 gLt (Zb 1) (ZaB (Zk 0)))) (ZH (eIx (Zk 0) (Zb 1))) Zai)
  (ZH (eC (.int 0))))
def Zal:List D->Option D:=fnOf 2 2 ZjT
def Zkz:SF :=
 (ZH (op2 Zr1 (op2 Zr1 (op2 Zdu (Zb 0) (eC (.int 48271))) (Zb 1)) (Zb 2)))
def ZM:List D->Option D:=fnOf 3 3 Zkz
def ZgM:SF :=
 (Zu (Zac 3 (ZT (ZbV (Zb 1)) (tV (op2 gLt (Zp ZM (Zc (op2 Zbc (op2 Zbc (Zb 1) (op2 Zdu (op2 Zdu (eC (.int 31)) (Zb 0)) (Zb 0))) (op2 Zdu (eC (.int 7)) (Zb 0))) (Zc (eC (.int 9973)) (Zc (eC (.int 5)) Zm)))) (eC (.int 2)))) (Zb 0)))
  (Zu (sIf (tV (op2 gLt (ZaB (Zk 3)) (Zb 2))) (Zac 3 (ZfR (Zc (Zp ZM (Zc (Zb 0) (Zc (eC (.int 9967)) (Zc (Zb 1) Zm)))) Zm))) Zai)
  (ZH (Zam (Zk 3)))))
def ZbE:List D->Option D:=fnOf 3 4 ZgM
def Zb3:SF :=
 (Zu (Z9 4 (op2 Zbc (op2 Zbc (Zb 0) (op2 Zdu (op2 Zdu (eC (.int 43)) (Zb 3)) (Zb 3))) (op2 Zdu (eC (.int 11)) (Zb 3))))
  (Zu (Z9 5 (Zp ZM (Zc (Zb 4) (Zc (eC (.int 9949)) (Zc (eC (.int 10)) Zm)))))
  (Zu (Zac 6 (ZnP (Zp ZM (Zc (Zb 4) (Zc (eC (.int 9941)) (Zc (Zb 1) Zm)))) (eC (.bool true))))
  (Zu (sIf (tV (op2 gLt (Zb 5) (eC (.int 3)))) (ZhE 6 (Zp ZM (Zc (Zb 4) (Zc (eC (.int 9931)) (Zc (Zb 1) Zm)))) (eC (.bool true))) Zai)
  (Zu (Ze8 2 (Zam (ZgJ (Zk 6))))
  (sIf (tV (op2 gEq (Zb 5) (eC (.int 9)))) (Zp9 2 (eC (.int (-1))) (Zca Zm)) Zai))))))
def ZjU:SF :=
 (Zu (Zac 2 (ZfR Zm))
  (Zu (Za9 3 (ZbV (Zb 1)) Zb3)
  (ZH (Zam (Zk 2)))))
def Zdj:List D->Option D:=fnOf 2 7 ZjU
def Zdx:SF :=
 (Zu (Z9 5 (op2 Zp6 (op2 Zld (Zb 4) (eC (.int 1))) (eC (.int 0))))
  (Zu (Z9 6 (op2 Zvc (op2 Zbc (Zb 4) (eC (.int 1))) (op2 Zld (Zb 1) (eC (.int 1)))))
  (Zu (Z9 7 (op2 gEq (Zp ZM (Zc (op2 Zbc (Zb 0) (op2 Zdu (eC (.int 17)) (Zb 4))) (Zc (eC (.int 9929)) (Zc (eC (.int 6)) Zm)))) (eC (.int 1))))
  (Zu (Ze8 2 (Zam (ZgH (Zlp (ZfR (Zc (Zb 5) Zm)) (ZsD (ZfR (Zc (Zb 4) Zm)) (Zoa (Zb 7)))))))
  (Ze8 3 (Zca (Zc (Zb 6) Zm)))))))
def ZjV:SF :=
 (Zu (Zac 2 (ZfR Zm))
  (Zu (Zac 3 (ZfR Zm))
  (Zu (Za9 4 (ZbV (Zb 1)) Zdx)
  (ZH (Zca (Zc (Zam (Zk 2)) (Zc (Zam (Zk 3)) Zm)))))))
def Zdk:List D->Option D:=fnOf 2 8 ZjV
def Zc8:SF :=
 (Zu (Z9 7 (op2 Zbc (Zp Zal (Zc (Zb 0) (Zc (op2 Zbc (op2 Zbc (Zb 1) (eC (.int 4))) (Zb 5)) Zm))) (op2 Zdu (eC (.int 71)) (Zb 5))))
  (Zu (Z9 8 (op2 Zbc (eC (.int 2)) (Zp ZM (Zc (Zb 7) (Zc (eC (.int 9883)) (Zc (eC (.int 2)) Zm))))))
  (Ze8 6 (Zam (ZT (ZbV (Zb 3)) ZV (Zp ZM (Zc (op2 Zbc (Zb 8) (op2 Zdu (op2 Zdu (eC (.int 13)) (Zb 0)) (Zb 0))) (Zc (eC (.int 9871)) (Zc (Zb 9) Zm)))))))))
def ZeQ:SF :=
 (Ze8 4 (Zp Zdj (Zc (op2 Zbc (Zp Zal (Zc (Zb 0) (Zc (op2 Zbc (op2 Zbc (Zb 1) (eC (.int 1))) (Zb 5)) Zm))) (op2 Zdu (eC (.int 61)) (Zb 5))) (Zc (Zb 3) Zm))))
def Zdy:SF :=
 (Zu (Z9 2 (Zp Zal (Zc (Zb 0) (Zc (Zb 1) Zm))))
  (Zu (Z9 3 (op2 Zbc (eC (.int 2)) (Zp ZM (Zc (Zb 2) (Zc (eC (.int 9923)) (Zc (eC (.int 4)) Zm))))))
  (Zu (sIf (tV (op2 gGt (ZaB (Zk 0)) (eC (.int 63)))) (Z9 3 (op2 Zbc (eC (.int 2)) (Zp ZM (Zc (Zb 2) (Zc (eC (.int 9923)) (Zc (eC (.int 6)) Zm)))))) Zai)
  (Zu (Zac 4 (ZfR Zm))
  (Zu (Za9 5 (ZbV (op2 Zbc (eC (.int 1)) (Zp ZM (Zc (Zb 2) (Zc (eC (.int 9907)) (Zc (eC (.int 3)) Zm)))))) ZeQ)
  (Zu (sIf (tV (op2 gEq (Zp ZM (Zc (Zb 2) (Zc (eC (.int 9901)) (Zc (eC (.int 3)) Zm)))) (eC (.int 1)))) (Zac 4 (Zlp (Zjr (bOf (Zp Zdk (Zc (Zp Zal (Zc (Zb 0) (Zc (op2 Zbc (Zb 1) (eC (.int 1))) Zm))) (Zc (Zb 3) Zm))))) (ZsQ (Zk 4) none (some (eC (.int 1)))))) Zai)
  (Zu (Zac 6 (ZfR Zm))
  (Zu (Za9 5 (ZbV (Zp ZM (Zc (Zb 2) (Zc (eC (.int 9887)) (Zc (eC (.int 4)) Zm))))) Zc8)
  (Zu (Z9 9 (Zp ZbE (Zc (Zp Zal (Zc (Zb 0) (Zc (op2 Zbc (Zb 1) (eC (.int 7))) Zm))) (Zc (Zb 3) (Zc (eC (.int 1)) Zm)))))
  (Zu (sIf (tV (op2 gEq (Zp ZM (Zc (Zb 2) (Zc (eC (.int 9859)) (Zc (eC (.int 3)) Zm)))) (eC (.int 1)))) (Z9 9 (Zkn (ZbV (Zb 3)))) Zai)
  (Zu (Z9 10 (Zp ZbE (Zc (Zp Zal (Zc (Zb 0) (Zc (op2 Zbc (Zb 1) (eC (.int 8))) Zm))) (Zc (Zb 3) (Zc (eC (.int 1)) Zm)))))
  (ZH (Zca (Zc (Zb 3) (Zc (Zam (Zk 4)) (Zc (Zam (Zk 6)) (Zc (Zb 9) (Zc (Zb 10) Zm))))))))))))))))))
def Za0:List D->Option D:=fnOf 2 11 Zdy
def ZiO:SF :=
 (ZH (Zam (ZT (ZbV (ZaB (bOf (eIx (Zk 0) (eC (.int 2)))))) (tV (op2 gGt (Zp ZM (Zc (op2 Zbc (Zb 2) (op2 Zdu (eC (.int 19)) (Zb 0))) (Zc (eC (.int 9857)) (Zc (eC (.int 4)) Zm)))) (eC (.int 0)))) (Zb 0))))
def ZcF:List D->Option D:=fnOf 2 2 ZiO
def Za1:SF :=
 (Zu (sIf (tV (op2 gEq (eIx (bOf (eIx (bOf (eIx (Zk 0) (eC (.int 1)))) (Zb 2))) (Zb 4)) (Zca Zm))) (ZH (eC .none)) Zai)
  (Zac 3 (Zlp (Zk 3) (Zjr (bOf (eIx (bOf (eIx (bOf (eIx (Zk 0) (eC (.int 1)))) (Zb 2))) (Zb 4)))))))
def ZhY:SF :=
 (Zu (Zac 3 (ZfR Zm))
  (Zu (Za9 4 (Z1 (bOf (Zb 1))) Za1)
  (ZH (Zam (ZgH (Zk 3))))))
def ZaS:List D->Option D:=fnOf 3 5 ZhY
def Zcf:SF :=
 (Zu (Z9 5 (Zam (ZT (Z1 (bOf (Zb 1))) ZV (eIx (bOf (eIx (bOf (eIx (Zk 1) (eC (.int 2)))) (Zb 0))) (Zb 5)))))
  (Zu (sIf (tV (ZkW (Zb 5) (Zk 3))) (Zlr 3 (Zb 5)) Zai)
  (Znp 3 (Zb 5) (Zb 4))))
def ZiP:SF :=
 (Zu (Zac 3 ZrO)
  (Zu (Za9 4 (Z1 (bOf (Zb 2))) Zcf)
  (ZH (eOf (ZT (Z1 (bOf (eOf (ZgJ (Zk 3))))) ZV (Zca (Zc (Zb 0) (Zc (Zam (ZnY 4 (Zb 0))) Zm))))))))
def Zah:List D->Option D:=fnOf 3 6 ZiP
end HG
namespace HG
open PySem HM
def Zy (ns:List Int) (k:Nat):Int:=if k < ns.length then ns.getD k 0 else 0
theorem Ze7 (ns:List Int) (k:Nat):Zal [.list (ns.map dI),.int k] = some (.int (Zy ns k)):=by
 simp [Zal,ZjT,Zy]
 by_cases h:k < ns.length
 ·have h':(k:Int) < (ns.length:Int):=by omega
  have e:atD (ns.map dI) (k:Int) = some (.int ns[k]):=Zdr (by simp [h])
  simp [h,h',e]
 ·have h':¬ (k:Int) < (ns.length:Int):=by omega
  simp [h,h']
def Z4 (c p m:Int):Int:=c * 48271 % p % m
theorem Zct (c p m:Int) (hp:0 < p) (hm:0 < m):ZM [.int c,.int p,.int m] = some (.int (Z4 c p m)):=by
 simp [ZM,Zkz,hp,hm,Z4]
theorem ZaQ (c p m:Int) (hm:0 < m):0 <= Z4 c p m/\Z4 c p m < m:=⟨Int.emod_nonneg _ (by omega),Int.emod_lt_of_pos _ hm⟩
def crP (c:Int) (k:Nat):Bool:=decide (Z4 (c + 31 * (k:Int) * (k:Int) + 7 * (k:Int)) 9973 5 < 2)
def crF (c:Int) (n:Nat):List Int:=((List.range n).filter (crP c)).map fun (k:Nat)=>(k:Int)
def crV (c:Int) (n:Nat):List Int:=if (crF c n).length < 1 then [Z4 c 9967 n] else crF c n
theorem Zih (n:Nat) (p:Nat->Bool):Cr n (((List.range n).filter p).map fun (k:Nat)=>(k:Int)):=by
 refine ⟨?_,fun x hx=>?_⟩
 ·rw [List.pairwise_map]
  refine List.Pairwise.imp (fun {a b} h=>?_) (List.Pairwise.filter p List.pairwise_lt_range)
  omega
 ·obtain ⟨k,hk,rfl⟩:=List.mem_map.mp hx
  have:=List.mem_range.mp (List.mem_filter.mp hk).1
  omega
theorem Zrh (c:Int) (n:Nat) (hn:0 < n):Cr n (crV c n)/\crV c n ≠ []:=by
 unfold crV
 split
 ·refine ⟨⟨by simp,fun x hx=>?_⟩,by simp⟩
  have e:x = Z4 c 9967 n:=by simpa using hx
  rw [e]
  have:=ZaQ c 9967 n (by omega)
  omega
 ·rename_i h
  exact ⟨Zih n _,fun e=>h (by rw [e]; simp)⟩
theorem Znt (c:Int) (n:Nat) (hn:0 < n) (hb:n < 1000):ZbE [.int c,.int n,.int 1] = some (tupI (crV c n)):=by
 have hn':(0:Int) < (n:Int):=by omega
 have key:ZaM (tV (op2 gLt (Zp ZM (Zc (op2 Zbc (op2 Zbc (Zb 1) (op2 Zdu (op2 Zdu (eC (.int 31)) (Zb 0)) (Zb 0))) (op2 Zdu (eC (.int 7)) (Zb 0))) (Zc (eC (.int 9973)) (Zc (eC (.int 5)) Zm)))) (eC (.int 2)))) (Zb 0)
   [some (.pl (.int c)),some (.pl (.int n)),some (.pl (.int 1)),none] (ZbT 0 n) = some ((crF c n).map dI):=by
  rw [Zaa]
  rw [Zcw dN (crP c) dN]
  ·unfold crF
   rw [List.map_map]
   rfl
  ·intro k hk
   have hk':=List.mem_range.mp hk
   have s2:Z7 (31 * (k:Int)) = true:=Zi4 (by omega) (by omega)
   simp [Zct,crP,s2]
  ·intro k hk _
   simp
 have h1:okR (n:Int) = true:=Zc2 (by omega)
 have h2:(ZbT 0 n).length < 1000000:=by rw [Zaa]; simp; omega
 by_cases hl:(crF c n).length < 1
 ·have hl':((crF c n).length:Int) < 1:=by omega
  have hm:=Zct c 9967 n (by decide) hn'
  simp [ZbE,ZgM,h1,h2,key]
  simp [hl',crV,hl,hm]
 ·have hl':¬ ((crF c n).length:Int) < 1:=by omega
  simp [ZbE,ZgM,h1,h2,key]
  simp [hl',crV,hl]
def ZsA (c:Int) (n k:Nat):List Int :=
 let s:=c + 43 * (k:Int) * (k:Int) + 11 * (k:Int)
 if Z4 s 9949 10 < 3/\Z4 s 9941 n ≠ Z4 s 9931 n then [Z4 s 9941 n,Z4 s 9931 n] else [Z4 s 9941 n]
def Zgr (c:Int) (n k:Nat):List Int:=if Z4 (c + 43 * (k:Int) * (k:Int) + 11 * (k:Int)) 9949 10 = 9 then [] else sortI (ZsA c n k)
theorem Ztz (c:Int) (n k:Nat) (hn:0 < n):Cr n (Zgr c n k):=by
 unfold Zgr
 split
 ·exact ⟨.nil,fun x hx=>by simp at hx⟩
 ·unfold ZsA
  dsimp only
  have b1:=ZaQ (c + 43 * (k:Int) * (k:Int) + 11 * (k:Int)) 9941 n (by omega)
  have b2:=ZaQ (c + 43 * (k:Int) * (k:Int) + 11 * (k:Int)) 9931 n (by omega)
  split
  ·rename_i h
   refine Ziz (by simp [h.2]) fun x hx=>?_
   simp at hx
   rcases hx with e | e <;> (subst e; assumption)
  ·refine Ziz (by simp) fun x hx=>?_
   simp at hx
   subst hx; assumption
theorem ZsR (n:Nat):ixN (n + 1) (-1) = some n:=by
 unfold ixN
 rw [if_neg (by decide),if_pos (by omega)]
 congr 1
 omega
theorem ZqK (c:Int) (n k:Nat) (rows:List D) (o4 o5 o6:Option B) (hn:0 < n) (hk:k < 1000) (hl:rows.length < 1000) :
  ∃ r5 r6 r7,Zb3 [some (.pl (.int c)),some (.pl (.int n)),some (.ol rows),some (.pl (dN k)),o4,o5,o6] = some (.nx [some (.pl (.int c)),some (.pl (.int n)),some (.ol (rows ++ [tupI (Zgr c n k)])),some (.pl (dN k)),r5,r6,r7]):=by
 have hn':(0:Int) < (n:Int):=by omega
 have s2:Z7 (43 * (k:Int)) = true:=Zi4 (by omega) (by omega)
 have hl':rows.length < 1000000:=by omega
 have m1:=Zct (c + 43 * (k:Int) * (k:Int) + 11 * (k:Int)) 9949 10 (by decide) (by decide)
 have m2:=Zct (c + 43 * (k:Int) * (k:Int) + 11 * (k:Int)) 9941 n (by decide) hn'
 have m3:=Zct (c + 43 * (k:Int) * (k:Int) + 11 * (k:Int)) 9931 n (by decide) hn'
 unfold Zgr ZsA
 dsimp only
 generalize Z4 (c + 43 * (k:Int) * (k:Int) + 11 * (k:Int)) 9949 10 = wy at *
 generalize Z4 (c + 43 * (k:Int) * (k:Int) + 11 * (k:Int)) 9941 n = a at *
 generalize Z4 (c + 43 * (k:Int) * (k:Int) + 11 * (k:Int)) 9931 n = b at *
 have t1:ZfZ [PyData.int a] = some ((sortI [a]).map dI):=Ziu [a] (by simp)
 have t2:ZfZ [PyData.int a,PyData.int b] = some ((sortI [a,b]).map dI):=Ziu [a,b] (by simp)
 by_cases w3:wy < 3
 ·have w9:(wy == 9) = false:=by simp; omega
  have w9':¬ wy = 9:=by omega
  by_cases ab:a = b
  ·subst ab
   simp [Zb3,s2,m1,m2,m3,w3,w9,w9',putD,ZaO,hl',t1]
  ·simp [Zb3,s2,m1,m2,m3,w3,w9,w9',putD,ab,ZaO,hl',t2]
 ·by_cases w9:wy = 9
  ·subst w9
   simp [Zb3,s2,m1,m2,putD,ZaO,hl',t1,ZsR]
  ·have w9':(wy == 9) = false:=by simp [w9]
   simp [Zb3,s2,m1,m2,w3,w9',w9,putD,ZaO,hl',t1]
theorem ZtU (c:Int) (n:Nat) (hn:0 < n) (hb:n < 1000):Zdj [.int c,.int n] = some (ZS ((List.range n).map fun k=>Zgr c n k)):=by
 have h1:okR (n:Int) = true:=Zc2 (by omega)
 have h2:(ZbT 0 n).length < 1000000:=by rw [Zaa]; simp; omega
 obtain ⟨r',e1,o3,o4,o5,o6,p1⟩:=ZjB (i:=3) (body:=Zb3) dN (fun (s:List Nat) r=>∃ o3 o4 o5 o6,r = [some (.pl (.int c)),some (.pl (.int n)),some (.ol (s.map fun k=>tupI (Zgr c n k))),o3,o4,o5,o6]) (List.range n)
  [some (.pl (.int c)),some (.pl (.int n)),some (.ol []),none,none,none,none] ⟨none,none,none,none,rfl⟩ (by
   rintro s k post r hxs ⟨o3,o4,o5,o6,rfl⟩
   have hk':k < n:=List.mem_range.mp (by rw [hxs]; simp)
   have hs:s.length < n:=by have:=congrArg List.length hxs; simp at this; omega
   obtain ⟨r5,r6,r7,e⟩:=ZqK c n k (s.map fun k=>tupI (Zgr c n k)) o4 o5 o6 hn (by omega) (by simp; omega)
   exact ⟨_,e,some (.pl (dN k)),r5,r6,r7,by simp⟩)
 subst p1
 have hl:n < 1000000:=by omega
 simp [Zdj,ZjU,h1,Zaa,hl,e1,ZS]
end HG
namespace HG
open PySem HM
def ahV (k:Nat):Int:=if (0:Int) > (k:Int) - 1 then 0 else (k:Int) - 1
def beV (n k:Nat):Int:=if (n:Int) - 1 < (k:Int) + 1 then (n:Int) - 1 else (k:Int) + 1
def wlV (c:Int) (k:Nat):List Int:=sortI (dedup [] (ahV k :: (if Z4 (c + 17 * (k:Int)) 9929 6 = 1 then [(k:Int)] else [])))
theorem Zud (c:Int) (n k:Nat) (hk:k < n):Cr n (wlV c k):=by
 unfold wlV
 have ha:0 <= ahV k/\ahV k < n:=by unfold ahV; split <;> omega
 refine Ziz (ZfY _ _ (by simp)) fun x hx=>?_
 rw [Zgd] at hx
 rcases hx with h | h
 ·simp at h
 ·rcases List.mem_cons.mp h with e | e
  ·subst e; exact ha
  ·split at e
   ·simp at e; subst e; omega
   ·simp at e
theorem Zui (n k:Nat) (hk:k < n):Cr n [beV n k]:=by
 have ha:0 <= beV n k/\beV n k < n:=by unfold beV; split <;> omega
 exact ⟨by simp,fun x hx=>by simp at hx; subst hx; exact ha⟩
theorem ZqI (c:Int) (n k:Nat) (ls rs:List D) (o4 o5 o6 o7:Option B) (hk:k < 8) (h1:ls.length < 1000) (h2:rs.length < 1000) :
  ∃ r4 r5 r6,Zdx [some (.pl (.int c)),some (.pl (.int n)),some (.ol ls),some (.ol rs),some (.pl (dN k)),o5,o6,o7] = some (.nx [some (.pl (.int c)),some (.pl (.int n)),some (.ol (ls ++ [tupI (wlV c k)])),some (.ol (rs ++ [tupI [beV n k]])),some (.pl (dN k)),r4,r5,r6]):=by
 have h1':ls.length < 1000000:=by omega
 have h2':rs.length < 1000000:=by omega
 have m1:=Zct (c + 17 * (k:Int)) 9929 6 (by decide) (by decide)
 have hk8:k = 0\/k = 1\/k = 2\/k = 3\/k = 4\/k = 5\/k = 6\/k = 7:=by omega
 have l1:Zpw [if (k:Int) - 1 < 0 then 0 else (k:Int) - 1,(k:Int)] = true:=by rcases hk8 with rfl | rfl | rfl | rfl | rfl | rfl | rfl | rfl <;> rfl
 have l2:Zpw [if (k:Int) - 1 < 0 then 0 else (k:Int) - 1] = true:=by rcases hk8 with rfl | rfl | rfl | rfl | rfl | rfl | rfl | rfl <;> rfl
 unfold wlV
 generalize Z4 (c + 17 * (k:Int)) 9929 6 = a at *
 by_cases e:a = 1
 ·subst e
  simp [Zdx,m1,h1',h2',ahV,beV,Zbk,ZgC,l1]
 ·have e':(a == 1) = false:=by simp [e]
  simp [Zdx,m1,h1',h2',ahV,beV,e,e',Zbk,ZgC,l2]
theorem Ztk (c:Int) (n:Nat) (hb:n <= 8):Zdk [.int c,.int n] = some (.tuple [ZS ((List.range n).map fun k=>wlV c k),ZS ((List.range n).map fun k=>[beV n k])]):=by
 have h1:okR (n:Int) = true:=Zc2 (by omega)
 obtain ⟨r',e1,o4,o5,o6,o7,p1⟩:=ZjB (i:=4) (body:=Zdx) dN (fun (s:List Nat) r=>∃ o4 o5 o6 o7,r = [some (.pl (.int c)),some (.pl (.int n)),some (.ol (s.map fun k=>tupI (wlV c k))),some (.ol (s.map fun k=>tupI [beV n k])),o4,o5,o6,o7]) (List.range n)
  [some (.pl (.int c)),some (.pl (.int n)),some (.ol []),some (.ol []),none,none,none,none] ⟨none,none,none,none,rfl⟩ (by
   rintro s k post r hxs ⟨o4,o5,o6,o7,rfl⟩
   have hk':k < n:=List.mem_range.mp (by rw [hxs]; simp)
   have hs:s.length < n:=by have:=congrArg List.length hxs; simp at this; omega
   obtain ⟨r5,r6,r7,e⟩:=ZqI c n k (s.map fun k=>tupI (wlV c k)) (s.map fun k=>tupI [beV n k]) o4 o5 o6 o7 (by omega) (by simp; omega) (by simp; omega)
   exact ⟨_,e,some (.pl (dN k)),r5,r6,r7,by simp⟩)
 subst p1
 have hl:n < 1000000:=by omega
 simp [Zdk,ZjV,h1,Zaa,hl,e1,ZS]
section
variable (ns:List Int) (at_:Nat)
def ZW:Nat:=(2 + Z4 (Zy ns at_) 9923 4).toNat
def ZbS:List (List (List Int)):=(List.range (1 + Z4 (Zy ns at_) 9907 3).toNat).map fun k=>(List.range (ZW ns at_)).map fun s=>Zgr (Zy ns (at_ + 1 + k) + 61 * (k:Int)) (ZW ns at_) s
def ZgX:List (List (List Int)) :=
 if Z4 (Zy ns at_) 9901 3 = 1 then [(List.range (ZW ns at_)).map fun k=>wlV (Zy ns (at_ + 1)) k,(List.range (ZW ns at_)).map fun k=>[beV (ZW ns at_) k]] ++ (ZbS ns at_).take 1 else ZbS ns at_
def Zhq (k:Nat):List Int:=(List.range (ZW ns at_)).map fun (s:Nat)=>Z4 (Zy ns (at_ + 4 + k) + 71 * (k:Int) + 13 * (s:Int) * (s:Int)) 9871 (2 + Z4 (Zy ns (at_ + 4 + k) + 71 * (k:Int)) 9883 2)
def Zhg:List (List Int):=(List.range (Z4 (Zy ns at_) 9887 4).toNat).map (Zhq ns at_)
def ZnV:List Int:=if Z4 (Zy ns at_) 9859 3 = 1 then (List.range (ZW ns at_)).map fun (k:Nat)=>(k:Int) else crV (Zy ns (at_ + 7)) (ZW ns at_)
def Zs1:List Int:=crV (Zy ns (at_ + 8)) (ZW ns at_)
def wkV:Wk:=⟨ZW ns at_,ZgX ns at_,Zhg ns at_,ZnV ns at_,Zs1 ns at_⟩
theorem Zjz:2 <= ZW ns at_/\ZW ns at_ <= 5:=by
 have:=ZaQ (Zy ns at_) 9923 4 (by decide)
 unfold ZW; omega
theorem ZtP:((ZW ns at_:Nat):Int) = 2 + Z4 (Zy ns at_) 9923 4:=by
 have:=ZaQ (Zy ns at_) 9923 4 (by decide)
 unfold ZW; omega
theorem Zut:(wkV ns at_).Ok:=by
 have hm:=Zjz ns at_
 have hd3:=ZaQ (Zy ns at_) 9907 3 (by decide)
 have dk:∀ dd ∈ ZbS ns at_,dd.length = ZW ns at_/\∀ c ∈ dd,Cr (ZW ns at_) c:=by
  intro dd h
  unfold ZbS at h
  obtain ⟨k,_,rfl⟩:=List.mem_map.mp h
  refine ⟨by simp,fun c hc=>?_⟩
  obtain ⟨s,_,rfl⟩:=List.mem_map.mp hc
  exact Ztz _ _ _ (by omega)
 have dv:∀ dd ∈ ZgX ns at_,dd.length = ZW ns at_/\∀ c ∈ dd,Cr (ZW ns at_) c:=by
  intro dd h
  unfold ZgX at h
  split at h
  ·rcases List.mem_append.mp h with h | h
   ·simp at h
    rcases h with rfl | rfl
    ·refine ⟨by simp,fun c hc=>?_⟩
     obtain ⟨s,hs,rfl⟩:=List.mem_map.mp hc
     exact Zud _ _ _ (List.mem_range.mp hs)
    ·refine ⟨by simp,fun c hc=>?_⟩
     obtain ⟨s,hs,rfl⟩:=List.mem_map.mp hc
     exact Zui _ _ (List.mem_range.mp hs)
   ·exact dk dd (List.mem_of_mem_take h)
  ·exact dk dd h
 have lk:(ZbS ns at_).length = (1 + Z4 (Zy ns at_) 9907 3).toNat:=by unfold ZbS; simp
 have lv:1 <= (ZgX ns at_).length/\(ZgX ns at_).length <= 3:=by
  unfold ZgX
  split
  ·simp; omega
  ·omega
 have hl4:=ZaQ (Zy ns at_) 9887 4 (by decide)
 have lo:∀ l ∈ Zhg ns at_,l.length = ZW ns at_/\∀ x ∈ l,0 <= x/\x <= 9:=by
  intro l h
  unfold Zhg at h
  obtain ⟨k,_,rfl⟩:=List.mem_map.mp h
  unfold Zhq
  refine ⟨by simp,fun x hx=>?_⟩
  obtain ⟨s,_,rfl⟩:=List.mem_map.mp hx
  have h2:=ZaQ (Zy ns (at_ + 4 + k) + 71 * (k:Int)) 9883 2 (by decide)
  have h3:=ZaQ (Zy ns (at_ + 4 + k) + 71 * (k:Int) + 13 * (s:Int) * (s:Int)) 9871 (2 + Z4 (Zy ns (at_ + 4 + k) + 71 * (k:Int)) 9883 2) (by omega)
  omega
 have ll:(Zhg ns at_).length <= 3:=by unfold Zhg; simp; omega
 have cb:=Zrh (Zy ns (at_ + 7)) (ZW ns at_) (by omega)
 have cg:=Zrh (Zy ns (at_ + 8)) (ZW ns at_) (by omega)
 have hb:ZnV ns at_ ≠ []/\Cr (ZW ns at_) (ZnV ns at_):=by
  unfold ZnV
  split
  ·refine ⟨fun e=>?_,?_⟩
   ·have:=congrArg List.length e
    simp at this
    omega
   ·have:=Zih (ZW ns at_) fun _=>true
    rwa [List.filter_eq_self.mpr fun _ _=>rfl] at this
  ·exact ⟨cb.2,cb.1⟩
 exact ⟨hm.1,hm.2,lv.1,lv.2,fun dd h=>(dv dd h).1,fun dd h=>(dv dd h).2,ll,fun l h=>(lo l h).1,fun l h=>(lo l h).2,hb.1,hb.2,cg.2,cg.1⟩
theorem Zwz (k:Int) (h:0 <= k):Zal [.list (ns.map dI),.int k] = some (.int (Zy ns k.toNat)):=by
 have:=Ze7 ns k.toNat
 rwa [Int.toNat_of_nonneg h] at this
theorem ZpL (k n:Nat) (c:Option B) (ds:List D) (o6 o7 o8 o9 o10:Option B) (hk:k < 1000) (h1:ds.length < 1000) (hn:0 < n) (hb:n < 1000) :
  ZeQ [some (.pl (.list (ns.map dI))),some (.pl (.int at_)),c,some (.pl (.int n)),some (.ol ds),some (.pl (dN k)),o6,o7,o8,o9,o10] =
   some (.nx [some (.pl (.list (ns.map dI))),some (.pl (.int at_)),c,some (.pl (.int n)),some (.ol (ds ++ [ZS ((List.range n).map fun s=>Zgr (Zy ns (at_ + 1 + k) + 61 * (k:Int)) n s)])),some (.pl (dN k)),o6,o7,o8,o9,o10]):=by
 have h1':ds.length < 1000000:=by omega
 have hc:=Ze7 ns (at_ + 1 + k)
 have e:((at_ + 1 + k:Nat):Int) = (at_:Int) + 1 + (k:Int):=by omega
 rw [e] at hc
 have hd:=ZtU (Zy ns (at_ + 1 + k) + 61 * (k:Int)) n hn hb
 simp [ZeQ,hc,hd,h1']
theorem ZpH (k n:Nat) (c o4:Option B) (ls:List D) (o7 o8 o9 o10:Option B) (hk:k < 1000) (h1:ls.length < 1000) (hn:n = ZW ns at_) :
  ∃ r7 r8,Zc8 [some (.pl (.list (ns.map dI))),some (.pl (.int at_)),c,some (.pl (.int n)),o4,some (.pl (dN k)),some (.ol ls),o7,o8,o9,o10] =
   some (.nx [some (.pl (.list (ns.map dI))),some (.pl (.int at_)),c,some (.pl (.int n)),o4,some (.pl (dN k)),some (.ol (ls ++ [tupI (Zhq ns at_ k)])),r7,r8,o9,o10]):=by
 have hb:=Zjz ns at_
 have h1':ls.length < 1000000:=by omega
 have hc:=Ze7 ns (at_ + 4 + k)
 have e:((at_ + 4 + k:Nat):Int) = (at_:Int) + 4 + (k:Int):=by omega
 rw [e] at hc
 have m1:=Zct (Zy ns (at_ + 4 + k) + 71 * (k:Int)) 9883 2 (by decide) (by decide)
 have b1:=ZaQ (Zy ns (at_ + 4 + k) + 71 * (k:Int)) 9883 2 (by decide)
 have hok:okR (n:Int) = true:=Zc2 (by omega)
 have hl:n < 1000000:=by omega
 unfold Zhq
 rw [<- hn]
 generalize Z4 (Zy ns (at_ + 4 + k) + 71 * (k:Int)) 9883 2 = mo at *
 generalize Zy ns (at_ + 4 + k) = cc at *
 simp [Zc8,hc,m1,hok,h1',Zaa,hl]
 rw [ZaU dN fun (s:Nat)=>dI (Z4 (cc + 71 * (k:Int) + 13 * (s:Int) * (s:Int)) 9871 (2 + mo))]
 ·refine ⟨some (.pl (.int (cc + 71 * (k:Int)))),some (.pl (.int (2 + mo))),?_⟩
  simp
 ·intro s hs
  have hs':=List.mem_range.mp hs
  have s2:Z7 (13 * (s:Int)) = true:=Zi4 (by omega) (by omega)
  have m2:=Zct (cc + 71 * (k:Int) + 13 * (s:Int) * (s:Int)) 9871 (2 + mo) (by decide) (by omega)
  simp [s2,m2]
theorem ZsF (h:ns.length <= 63):Za0 [.list (ns.map dI),.int at_] = some (wkV ns at_).d:=by
 have hb:=Zjz ns at_
 have hmc:=ZtP ns at_
 have c0:=Ze7 ns at_
 have c1:=Ze7 ns (at_ + 1)
 have c7:=Ze7 ns (at_ + 7)
 have c8:=Ze7 ns (at_ + 8)
 have e1:((at_ + 1:Nat):Int) = (at_:Int) + 1:=by omega
 have e7:((at_ + 7:Nat):Int) = (at_:Int) + 7:=by omega
 have e8:((at_ + 8:Nat):Int) = (at_:Int) + 8:=by omega
 rw [e1] at c1
 rw [e7] at c7
 rw [e8] at c8
 have m4:=Zct (Zy ns at_) 9923 4 (by decide) (by decide)
 have m3:=Zct (Zy ns at_) 9907 3 (by decide) (by decide)
 have b3:=ZaQ (Zy ns at_) 9907 3 (by decide)
 have mw:=Zct (Zy ns at_) 9901 3 (by decide) (by decide)
 have ml:=Zct (Zy ns at_) 9887 4 (by decide) (by decide)
 have bl:=ZaQ (Zy ns at_) 9887 4 (by decide)
 have mb:=Zct (Zy ns at_) 9859 3 (by decide) (by decide)
 have wk:=Ztk (Zy ns (at_ + 1)) (ZW ns at_) (by omega)
 have k7:=Znt (Zy ns (at_ + 7)) (ZW ns at_) (by omega) (by omega)
 have k8:=Znt (Zy ns (at_ + 8)) (ZW ns at_) (by omega) (by omega)
 have hlen:¬ (63:Int) < (ns.length:Int):=by omega
 have ok3:okR (1 + Z4 (Zy ns at_) 9907 3) = true:=Nat.blt_eq.mpr (by omega)
 have okl:okR (Z4 (Zy ns at_) 9887 4) = true:=Nat.blt_eq.mpr (by omega)
 have okm:okR ((ZW ns at_:Nat):Int) = true:=Zc2 (by omega)
 obtain ⟨r1,f1,o5,q1⟩:=ZjB (i:=5) (body:=ZeQ) dN (fun (s:List Nat) r=>∃ o5,r = [some (.pl (.list (ns.map dI))),some (.pl (.int at_)),some (.pl (.int (Zy ns at_))),some (.pl (.int (ZW ns at_))),
   some (.ol (s.map fun k=>ZS ((List.range (ZW ns at_)).map fun s=>Zgr (Zy ns (at_ + 1 + k) + 61 * (k:Int)) (ZW ns at_) s))),o5,none,none,none,none,none]) (List.range (1 + Z4 (Zy ns at_) 9907 3).toNat)
  [some (.pl (.list (ns.map dI))),some (.pl (.int at_)),some (.pl (.int (Zy ns at_))),some (.pl (.int (ZW ns at_))),some (.ol []),none,none,none,none,none,none] ⟨none,rfl⟩ (by
   rintro s k post r hxs ⟨o5,rfl⟩
   have hk':=List.mem_range.mp (show k ∈ List.range (1 + Z4 (Zy ns at_) 9907 3).toNat by rw [hxs]; simp)
   have hs:s.length < 4:=by have:=congrArg List.length hxs; simp at this; omega
   have e:=ZpL ns at_ k (ZW ns at_) (some (.pl (.int (Zy ns at_)))) (s.map fun k=>ZS ((List.range (ZW ns at_)).map fun s=>Zgr (Zy ns (at_ + 1 + k) + 61 * (k:Int)) (ZW ns at_) s)) none none none none none (by omega) (by simp; omega) (by omega) (by omega)
   exact ⟨_,e,some (.pl (dN k)),by simp⟩)
 subst q1
 have lks:∀ (o4 o5:Option B),∃ r2,Z2 5 Zc8 ((List.range (Z4 (Zy ns at_) 9887 4).toNat).map dN) [some (.pl (.list (ns.map dI))),some (.pl (.int at_)),some (.pl (.int (Zy ns at_))),some (.pl (.int (ZW ns at_))),o4,o5,some (.ol []),none,none,none,none] = some (.nx r2) /\
   ∃ o5 o7 o8,r2 = [some (.pl (.list (ns.map dI))),some (.pl (.int at_)),some (.pl (.int (Zy ns at_))),some (.pl (.int (ZW ns at_))),o4,o5,some (.ol ((List.range (Z4 (Zy ns at_) 9887 4).toNat).map fun k=>tupI (Zhq ns at_ k))),o7,o8,none,none]:=by
  intro o4 o5
  refine ZjB (i:=5) (body:=Zc8) dN (fun (s:List Nat) r=>∃ o5 o7 o8,r = [some (.pl (.list (ns.map dI))),some (.pl (.int at_)),some (.pl (.int (Zy ns at_))),some (.pl (.int (ZW ns at_))),
   o4,o5,some (.ol (s.map fun k=>tupI (Zhq ns at_ k))),o7,o8,none,none]) (List.range (Z4 (Zy ns at_) 9887 4).toNat) _ ⟨o5,none,none,rfl⟩ ?_
  rintro s k post r hxs ⟨o5,o7,o8,rfl⟩
  have hk':=List.mem_range.mp (show k ∈ List.range (Z4 (Zy ns at_) 9887 4).toNat by rw [hxs]; simp)
  have hs:s.length < 4:=by have:=congrArg List.length hxs; simp at this; omega
  obtain ⟨r7,r8,e⟩:=ZpH ns at_ k (ZW ns at_) (some (.pl (.int (Zy ns at_)))) o4 (s.map fun k=>tupI (Zhq ns at_ k)) o7 o8 none none (by omega) (by simp; omega) rfl
  exact ⟨_,e,some (.pl (dN k)),r7,r8,by simp⟩
 have n3:(1 + Z4 (Zy ns at_) 9907 3).toNat < 1000000:=by omega
 have nl:(Z4 (Zy ns at_) 9887 4).toNat < 1000000:=by omega
 have nm:ZW ns at_ < 1000000:=by omega
 have hdk:((List.range (1 + Z4 (Zy ns at_) 9907 3).toNat).map fun k=>ZS ((List.range (ZW ns at_)).map fun s=>Zgr (Zy ns (at_ + 1 + k) + 61 * (k:Int)) (ZW ns at_) s)) = (ZbS ns at_).map ZS:=by
  unfold ZbS; simp
 have hlk:((List.range (Z4 (Zy ns at_) 9887 4).toNat).map fun k=>tupI (Zhq ns at_ k)) = (Zhg ns at_).map tupI:=by
  unfold Zhg; simp
 rw [hdk] at f1
 simp only [hlk] at lks
 have dkl:(ZbS ns at_).length < 10:=by unfold ZbS; simp; omega
 unfold wkV Wk.d ZgX ZnV Zs1
 simp only
 by_cases w1:Z4 (Zy ns at_) 9901 3 = 1
 ·have w1':(Z4 (Zy ns at_) 9901 3 == 1) = true:=by simp [w1]
  have cut:cutD ((ZbS ns at_).map ZS) none (some 1) = ((ZbS ns at_).take 1).map ZS:=by
   unfold cutD sIx
   simp
  obtain ⟨r2,f2,p5,p7,p8,q2⟩:=lks (some (.ol (ZS ((List.range (ZW ns at_)).map fun k=>wlV (Zy ns (at_ + 1)) k) :: ZS ((List.range (ZW ns at_)).map fun k=>[beV (ZW ns at_) k]) :: List.take 1 ((ZbS ns at_).map ZS)))) o5
  subst q2
  have c2:min 1 (ZbS ns at_).length + 1 + 1 < 1000000:=by omega
  have c3:(2:Nat) + min 1 (ZbS ns at_).length < 1000000:=by omega
  by_cases w2:Z4 (Zy ns at_) 9859 3 = 1
  ·have w2':(Z4 (Zy ns at_) 9859 3 == 1) = true:=by simp [w2]
   simp [Za0,Zdy,c0,m4,<- hmc,hlen,m3,ok3,Zaa,n3,f1,mw,w1',c1,wk,cut,w1,ml,okl,nl,f2,c7,k7,mb,w2',okm,nm,c8,k8,w2,c2,c3]
  ·have w2':(Z4 (Zy ns at_) 9859 3 == 1) = false:=by simp [w2]
   simp [Za0,Zdy,c0,m4,<- hmc,hlen,m3,ok3,Zaa,n3,f1,mw,w1',c1,wk,cut,w1,ml,okl,nl,f2,c7,k7,mb,w2',okm,nm,c8,k8,w2,c2,c3]
 ·have w1':(Z4 (Zy ns at_) 9901 3 == 1) = false:=by simp [w1]
  obtain ⟨r2,f2,p5,p7,p8,q2⟩:=lks (some (.ol ((ZbS ns at_).map ZS))) o5
  subst q2
  by_cases w2:Z4 (Zy ns at_) 9859 3 = 1
  ·have w2':(Z4 (Zy ns at_) 9859 3 == 1) = true:=by simp [w2]
   simp [Za0,Zdy,c0,m4,<- hmc,hlen,m3,ok3,Zaa,n3,f1,mw,w1',w1,ml,okl,nl,f2,c7,k7,mb,w2',okm,nm,c8,k8,w2]
  ·have w2':(Z4 (Zy ns at_) 9859 3 == 1) = false:=by simp [w2]
   simp [Za0,Zdy,c0,m4,<- hmc,hlen,m3,ok3,Zaa,n3,f1,mw,w1',w1,ml,okl,nl,f2,c7,k7,mb,w2',okm,nm,c8,k8,w2]
end
end HG
namespace HG
open PySem HM
theorem ZnO {e:EF} {r:HM.Env} {f:D->D} (xs:List D) (h:∀ x ∈ xs,e (some (.pl x) :: r) = some (f x)):ZaM ZV e r xs = some (xs.map f):=by
 have:=ZaU (e:=e) (r:=r) id f xs h
 rwa [List.map_id] at this
theorem Zoe (xs:List D) (p:D->Bool):ZeP (xs.map fun x=>PyData.bool (p x)) = some (xs.map p):=by
 have:=ZgE (xs.map p)
 rwa [List.map_map] at this
def ZhG (d:D) (lo hi:Int):Bool:=match d with
 | .int i=>decide (lo <= i) && decide (i <= hi)
 | _=>false
theorem Zha (d:D) (lo hi:Int):ZaZ [d,.int lo,.int hi] = some (.bool (ZhG d lo hi)):=by
 cases d <;> simp [ZaZ,ZiK,ZhG]
 rename_i i
 by_cases h:lo <= i <;> simp [h]
def Zel (d:D) (lo hi:Int):Bool:=match d with
 | .tuple ds=>decide (lo <= (ds.length:Int)) && decide ((ds.length:Int) <= hi)
 | _=>false
theorem Zgj (d:D) (lo hi:Int):ZaX [d,.int lo,.int hi] = some (.bool (Zel d lo hi)):=by
 cases d <;> simp [ZaX,Zlx,Zel]
 rename_i ds
 by_cases h:lo <= (ds.length:Int) <;> simp [h]
def Zcv (many:Int):Int->List D->Bool
 | _,[]=>true
 | l,.int i :: r=>(decide (l <= i) && decide (i <= many - 1)) && Zcv many (i + 1) r
 | _,_ :: _=>false
def Zjq (d:D) (many:Int):Bool:=match d with
 | .tuple ds=>Zcv many 0 ds
 | _=>false
theorem ZoZ (d:D) (many:Int):∀ (ds:List D) (l:Int) (o:Option B),
    (Zcv many l ds = true->∃ l' o',Z2 3 Zay ds [some (.pl d),some (.pl (.int many)),some (.pl (.int l)),o] = some (.nx [some (.pl d),some (.pl (.int many)),some (.pl (.int l')),o'])) /\
    (Zcv many l ds = false->Z2 3 Zay ds [some (.pl d),some (.pl (.int many)),some (.pl (.int l)),o] = some (.rt (.bool false)))
  | [],l,o=>⟨fun _=>⟨l,o,rfl⟩,fun h=>by simp [Zcv] at h⟩
  | x :: ds, l, o => by
    have key:=Zha x l (many - 1)
    cases hx:ZhG x l (many - 1) with
    | false =>
      have e:Zay [some (.pl d),some (.pl (.int many)),some (.pl (.int l)),some (.pl x)] = some (.rt (.bool false)):=by
        rw [hx] at key
        simp [Zay,key]
      have e2:Zcv many l (x :: ds) = false:=by
        cases x <;> simp [Zcv]
        rename_i i
        simp [ZhG] at hx
        intro h1 h2
        exact absurd (hx h1) (by omega)
      refine ⟨fun h=>?_,fun _=>?_⟩
      · rw [e2] at h; cases h
      · unfold Z2
        show (match Zay [some (.pl d),some (.pl (.int many)),some (.pl (.int l)),some (.pl x)] with | some (.nx r')=>_ | some (.ct r')=>_ | some (.bk r')=>_ | some (.rt d)=>_ | none=>_) = _
        rw [e]
    | true =>
      cases x with
      | int i =>
        have e:Zay [some (.pl d),some (.pl (.int many)),some (.pl (.int l)),some (.pl (.int i))] = some (.nx [some (.pl d),some (.pl (.int many)),some (.pl (.int (i + 1))),some (.pl (.int i))]):=by
          rw [hx] at key
          simp [Zay,key]
        have e2:Zcv many l (.int i :: ds) = Zcv many (i + 1) ds:=by
          have:(decide (l <= i) && decide (i <= many - 1)) = true:=hx
          simp only [Zcv,this,Bool.true_and]
        obtain ⟨a1,a2⟩:=ZoZ d many ds (i + 1) (some (.pl (.int i)))
        rw [e2]
        have e3:Z2 3 Zay (.int i :: ds) [some (.pl d),some (.pl (.int many)),some (.pl (.int l)),o] = Z2 3 Zay ds [some (.pl d),some (.pl (.int many)),some (.pl (.int (i + 1))),some (.pl (.int i))]:=by
          show (match Zay [some (.pl d),some (.pl (.int many)),some (.pl (.int l)),some (.pl (.int i))] with | some (.nx r')=>_ | some (.ct r')=>_ | some (.bk r')=>_ | some (.rt d)=>_ | none=>_) = _
          rw [e]
        rw [e3]
        exact ⟨a1,a2⟩
      | _=>simp [ZhG] at hx
theorem Zi1 (d:D) (many:Int) (hl:∀ ds,d = .tuple ds->ds.length < 1000000):Zad [d,.int many] = some (.bool (Zjq d many)):=by
  cases d with
  | tuple ds =>
    have hl:=hl ds rfl
    obtain ⟨a1,a2⟩:=ZoZ (.tuple ds) many ds 0 none
    cases h:Zcv many 0 ds with
    | true =>
      obtain ⟨l',o',e⟩:=a1 h
      simp [Zad,Zfb,Zjq,h,hl,e]
    | false =>
      have e:=a2 h
      simp [Zad,Zfb,Zjq,h,hl,e]
  | _=>simp [Zad,Zfb,Zjq]
def small:D->Prop
 | .tuple ds=>ds.length < 1000000
 | _=>True
theorem Zro {d:D} (h:small d):∀ ds,d = .tuple ds->ds.length < 1000000:=by
 rintro ds rfl; exact h
def Zjh (d:D) (many:Int):Bool:=Zel d many many && (match d with | .tuple ds=>ds.all fun c=>Zjq c many | _=>false)
def ZpV (d:D):Prop:=match d with | .tuple ds=>ds.length < 1000000/\∀ x ∈ ds,small x | _=>True
theorem Zp2 (d:D) (many:Int) (hs:ZpV d):Zcn [d,.int many] = some (.bool (Zjh d many)):=by
  have h1:=Zgj d many many
  cases hr:Zel d many many with
  | false=>rw [hr] at h1; simp [Zcn,ZhW,h1,Zjh,hr]
  | true =>
    rw [hr] at h1
    cases d with
    | tuple ds =>
      have hs':ds.length < 1000000/\∀ x ∈ ds,small x:=hs
      simp [Zcn,ZhW,h1,Zjh,hr,hs'.1]
      rw [ZnO (f:=fun c=>.bool (Zjq c many))]
      · simp [Zoe]
      · intro x hx
        simp [Zi1 x many (Zro (hs'.2 x hx))]
    | _=>simp [Zel] at hr
def ZiX (d:D) (many:Int):Bool:=Zel d many many && (match d with | .tuple ds=>ds.all fun c=>ZhG c 0 9 | _=>false)
theorem ZpQ (d:D) (many:Int) (hs:small d):Zco [d,.int many] = some (.bool (ZiX d many)):=by
  have h1:=Zgj d many many
  cases hr:Zel d many many with
  | false=>rw [hr] at h1; simp [Zco,ZhX,h1,ZiX,hr]
  | true =>
    rw [hr] at h1
    cases d with
    | tuple ds =>
      have hs':ds.length < 1000000:=hs
      simp [Zco,ZhX,h1,ZiX,hr,hs']
      rw [ZnO (f:=fun c=>.bool (ZhG c 0 9))]
      · simp [Zoe]
      · intro x hx
        simp [Zha]
    | _=>simp [Zel] at hr
structure Wk.V (w:Wk):Prop where
 m1:1 <= w.many
 m2:w.many <= 8
 d1:1 <= w.deeds.length
 d2:w.deeds.length <= 5
 dl:∀ dd ∈ w.deeds,dd.length = w.many
 dc:∀ dd ∈ w.deeds,∀ c ∈ dd,Cr w.many c
 l2:w.looks.length <= 4
 ll:∀ l ∈ w.looks,l.length = w.many
 lc:∀ l ∈ w.looks,∀ x ∈ l,0 <= x/\x <= 9
 b1:w.beg ≠ []
 bc:Cr w.many w.beg
 gc:Cr w.many w.goal
theorem Wk.Ok.v {w:Wk} (h:w.Ok):Wk.V w:=by
 obtain ⟨m1,m2,d1,d2,dl,dc,l2,ll,lc,b1,bc,g1,gc⟩:=h
 exact ⟨by omega,by omega,d1,by omega,dl,dc,by omega,ll,lc,b1,bc,gc⟩
theorem Zlh (n:Nat):∀ (c:List Int) (l:Int),c.Pairwise (· < ·)->(∀ x ∈ c,l <= x/\x < (n:Int))->Zcv n l (c.map dI) = true
  | [],_,_,_=>rfl
  | x :: c, l, hp, hb => by
    have h1:=hb x (List.mem_cons_self ..)
    have ih:=Zlh n c (x + 1) (List.pairwise_cons.mp hp).2 fun y hy=>⟨by have:=(List.pairwise_cons.mp hp).1 y hy; omega,(hb y (List.mem_cons_of_mem _ hy)).2⟩
    show ((decide (l <= x) && decide (x <= (n:Int) - 1)) && Zcv n (x + 1) (c.map dI)) = true
    rw [ih,decide_eq_true h1.1,decide_eq_true (show x <= (n:Int) - 1 by omega)]
    rfl
theorem Zi9 {n:Nat} {c:List Int} (h:Cr n c) (hn:n < 1000):Zad [tupI c,.int n] = some (.bool true):=by
 have hl:=h.len
 rw [Zi1 (tupI c) n (by intro ds e; cases e; simp; omega)]
 show some (PyData.bool (Zcv n 0 (c.map dI))) = _
 rw [Zlh n c 0 h.1 h.2]
theorem ZoQ {n:Nat} {c:List Int} (h:Cr n c) (h0:c ≠ []) (hn:n < 1000):Zdi [tupI c,.int n] = some (.bool true):=by
 have h1:=Zi9 h hn
 have h2:(0:Int) < (c.length:Int):=by
  have:=List.length_pos_iff.mpr h0
  omega
 simp [Zdi,ZjQ,h1]
 exact List.length_pos_iff.mpr h0
theorem ZfU {w:Wk} (h:Wk.V w) {dd:List (List Int)} (hd:dd ∈ w.deeds):Zcn [ZS dd,.int w.many] = some (.bool true):=by
 have hl:=h.dl dd hd
 have m2:=h.m2
 rw [Zp2 (ZS dd) _ (show (dd.map tupI).length < 1000000/\∀ x ∈ dd.map tupI,small x by
  refine ⟨by simp; omega,fun x hx=>?_⟩
  obtain ⟨c,hc,rfl⟩:=List.mem_map.mp hx
  have:=(h.dc dd hd c hc).len
  show (c.map dI).length < 1000000
  simp; omega)]
 have e:Zjh (ZS dd) w.many = true:=by
  unfold Zjh ZS Zel
  simp [hl]
  intro c hc
  exact Zlh w.many c 0 (h.dc dd hd c hc).1 (h.dc dd hd c hc).2
 rw [e]
theorem Ztf {w:Wk} (h:Wk.V w) {l:List Int} (hd:l ∈ w.looks):Zco [tupI l,.int w.many] = some (.bool true):=by
 have hl:=h.ll l hd
 have m2:=h.m2
 rw [ZpQ (tupI l) _ (show (l.map dI).length < 1000000 by simp; omega)]
 have e:ZiX (tupI l) w.many = true:=by
  unfold ZiX Zel
  simp [hl]
  intro x hx
  have:=h.lc l hd x hx
  simp [ZhG]
  omega
 rw [e]
theorem allTrue (α:Type) (xs:List α):ZeP (xs.map fun _=>PyData.bool true) = some (xs.map fun _=>true):=by
 have:=ZgE (xs.map fun _=>true)
 rwa [List.map_map] at this
theorem ZnH {w:Wk} (h:Wk.V w):ZcC [.tuple (w.deeds.map ZS),.int w.many] = some (.bool true):=by
 have h1:=Zgj (.tuple (w.deeds.map ZS)) 1 5
 have d1:=h.d1
 have d2:=h.d2
 have e:Zel (.tuple (w.deeds.map ZS)) 1 5 = true:=by simp [Zel]; omega
 rw [e] at h1
 have hl:w.deeds.length < 1000000:=by omega
 simp [ZcC,ZiL,h1,hl]
 rw [ZaU ZS (fun _=>.bool true)]
 ·simp [allTrue]
 ·intro x hx
  simp [ZfU h hx]
theorem Zof {w:Wk} (h:Wk.V w):ZcD [.tuple (w.looks.map tupI),.int w.many] = some (.bool true):=by
 have h1:=Zgj (.tuple (w.looks.map tupI)) 0 4
 have d2:=h.l2
 have e:Zel (.tuple (w.looks.map tupI)) 0 4 = true:=by simp [Zel]; omega
 rw [e] at h1
 have hl:w.looks.length < 1000000:=by omega
 simp [ZcD,ZiM,h1,hl]
 rw [ZaU tupI (fun _=>.bool true)]
 ·simp [allTrue]
 ·intro x hx
  simp [Ztf h hx]
theorem ZnU {w:Wk} (h:Wk.V w):ZcE [w.d] = some (.bool true):=by
 have h1:=Zgj w.d 5 5
 have e:Zel w.d 5 5 = true:=by simp [Zel,Wk.d]
 rw [e] at h1
 have h2:=Zha (.int w.many) 1 8
 have m1:=h.m1
 have m2:=h.m2
 have e2:ZhG (.int w.many) 1 8 = true:=by simp [ZhG]; omega
 rw [e2] at h2
 have h3:=ZnH h
 have h4:=Zof h
 have h5:=ZoQ h.bc h.b1 (by omega)
 have h6:=Zi9 h.gc (by omega)
 unfold Wk.d at h1 ⊢
 simp [ZcE,ZiN,h1,h2,h3,h4,h5,h6]
theorem ZpY {w:Wk} (h:Wk.V w):Zd3 [w.d] = some w.d:=by
 simp [Zd3,Zkx,ZnU h]
theorem ZhA (w:Wk):Zbd [w.d] = some (.tuple (w.deeds.map ZS)):=by simp [Zbd,ZjR,Wk.d]
theorem Zj0 (w:Wk):ZbW [w.d] = some (.tuple (w.looks.map tupI)):=by simp [ZbW,ZjS,Wk.d]
theorem Zkf {w:Wk} (h:Wk.V w) {ls:List Int} (hl:Cr w.looks.length ls):Zbv [w.d,tupI ls] = some (tupI ls):=by
 have l2:=h.l2
 have h1:=Zi9 hl (by omega)
 simp [Zbv,ZgL,Zj0,h1]
end HG
namespace HG
open PySem HM
def ZbI (w:Wk) (d s:Int):List Int:=(w.deeds[d.toNat]?.getD [])[s.toNat]?.getD []
def ZkO (w:Wk) (l s:Int):Int:=(w.looks[l.toNat]?.getD [])[s.toNat]?.getD 0
def Zak (w:Wk) (c:List Int) (d:Int):Bool:=c.all fun s=>decide (0 < (ZbI w d s).length)
def Za6 (w:Wk) (c:List Int) (d:Int):List Int:=c.flatMap fun s=>ZbI w d s
def Zs (w:Wk) (c:List Int) (d:Int):List Int:=sortI (dedup [] (Za6 w c d))
def ZA (w:Wk) (ls:List Int) (s:Int):List Int:=ls.map fun l=>ZkO w l s
theorem Zlm {w:Wk} {d:Int} (h0:0 <= d) (h1:d < w.deeds.length):atD (w.deeds.map ZS) d = some (ZS (w.deeds[d.toNat]?.getD [])):=by
 refine ZjD h0 ?_
 have h:d.toNat < w.deeds.length:=by omega
 simp [h,List.getD]
theorem Zno {w:Wk} (hv:Wk.V w) {d s:Int} (h0:0 <= d) (h1:d < w.deeds.length) (h2:0 <= s) (h3:s < w.many):atD ((w.deeds[d.toNat]?.getD []).map tupI) s = some (tupI (ZbI w d s)):=by
 refine ZjD h2 ?_
 have h:d.toNat < w.deeds.length:=by omega
 have hl:(w.deeds[d.toNat]?.getD []).length = w.many:=by
  have:w.deeds[d.toNat]?.getD [] = w.deeds[d.toNat]:=by simp [h,List.getD]
  rw [this]
  exact hv.dl _ (List.getElem_mem h)
 have h':s.toNat < (w.deeds[d.toNat]?.getD []).length:=by omega
 unfold ZbI
 rw [List.getElem?_map,List.getElem?_eq_getElem h']
 simp [List.getD,h']
theorem Zod {w:Wk} (hv:Wk.V w) {d s:Int} (h0:0 <= d) (h1:d < w.deeds.length) (h2:0 <= s) (h3:s < w.many):Cr w.many (ZbI w d s):=by
 have h:d.toNat < w.deeds.length:=by omega
 have e:w.deeds[d.toNat]?.getD [] = w.deeds[d.toNat]:=by simp [h,List.getD]
 have hl:=hv.dl _ (List.getElem_mem h)
 unfold ZbI
 rw [e]
 have h':s.toNat < (w.deeds[d.toNat]).length:=by omega
 have e2:(w.deeds[d.toNat])[s.toNat]?.getD [] = (w.deeds[d.toNat])[s.toNat]:=by simp [h',List.getD]
 rw [e2]
 exact hv.dc _ (List.getElem_mem h) _ (List.getElem_mem h')
theorem Zpj {w:Wk} {l:Int} (h0:0 <= l) (h1:l < w.looks.length):atD (w.looks.map tupI) l = some (tupI (w.looks[l.toNat]?.getD [])):=by
 refine ZjD h0 ?_
 have h:l.toNat < w.looks.length:=by omega
 simp [h,List.getD]
theorem Zo4 {w:Wk} (hv:Wk.V w) {l s:Int} (h0:0 <= l) (h1:l < w.looks.length) (h2:0 <= s) (h3:s < w.many):atD ((w.looks[l.toNat]?.getD []).map dI) s = some (.int (ZkO w l s)):=by
 refine ZjD h2 ?_
 have h:l.toNat < w.looks.length:=by omega
 have hl:(w.looks[l.toNat]?.getD []).length = w.many:=by
  have:w.looks[l.toNat]?.getD [] = w.looks[l.toNat]:=by simp [h,List.getD]
  rw [this]
  exact hv.ll _ (List.getElem_mem h)
 have h':s.toNat < (w.looks[l.toNat]?.getD []).length:=by omega
 unfold ZkO
 rw [List.getElem?_map,List.getElem?_eq_getElem h']
 simp [List.getD,h']
theorem Zpu {w:Wk} (hv:Wk.V w) {ls:List Int} (hl:Cr w.looks.length ls) {s:Int} (h2:0 <= s) (h3:s < w.many):Zd4 [w.d,tupI ls,.int s] = some (tupI (ZA w ls s)):=by
 have l2:=hv.l2
 have hlen:=hl.len
 have hb:ls.length < 1000000:=by omega
 simp [Zd4,Zky,hb]
 rw [ZaU dI (fun l=>dI (ZkO w l s))]
 ·simp [ZA]
 ·intro l hl'
  have hb:=hl.2 l hl'
  simp [Zj0,Zpj hb.1 hb.2,Zo4 hv hb.1 hb.2 h2 h3]
theorem Zlf {w:Wk} (hv:Wk.V w) {c:List Int} (hc:Cr w.many c) {d:Int} (h0:0 <= d) (h1:d < w.deeds.length):Zb1 [w.d,tupI c,.int d] = some (.bool (Zak w c d)):=by
 have m2:=hv.m2
 have hlen:=hc.len
 have hb:c.length < 1000000:=by omega
 simp [Zb1,ZhJ,ZhA,Zlm h0 h1,hb]
 rw [ZaU dI (fun s=>.bool (decide (0 < (ZbI w d s).length)))]
 ·have e:=ZgE (c.map fun s=>decide (0 < (ZbI w d s).length))
  rw [List.map_map] at e
  have e':((fun b=>PyData.bool b) ∘ fun s=>decide (0 < (ZbI w d s).length)) = fun s=>PyData.bool (decide (0 < (ZbI w d s).length)):=rfl
  rw [e'] at e
  simp [e,Zak]
 ·intro s hs
  have hb:=hc.2 s hs
  simp [ZS,Zno hv h0 h1 hb.1 hb.2]
def doV (w:Wk) (c:List Int):List Int:=((List.range w.deeds.length).filter fun (d:Nat)=>Zak w c (d:Int)).map fun (k:Nat)=>(k:Int)
theorem Zmo {w:Wk} (hv:Wk.V w) {c:List Int} (hc:Cr w.many c):Zce [w.d,tupI c] = some (.list ((doV w c).map dI)):=by
 have d2:=hv.d2
 have hok:okR (w.deeds.length:Int) = true:=Zc2 (by omega)
 have hb:w.deeds.length < 1000000:=by omega
 simp [Zce,ZiA,ZhA,hok,Zaa,hb]
 rw [Zcw dN (fun k:Nat=>Zak w c k) dN]
 ·simp [doV]
 ·intro k hk
  have hk':=List.mem_range.mp hk
  simp [Zlf hv hc (show (0:Int) <= (k:Int) by omega) (by omega)]
 ·intro k hk _
  simp
def Zcy (acc:List Int) (x:Int):List Int:=if acc.contains x then acc else acc ++ [x]
theorem ZgG:∀ (l acc:List Int),dedup acc l = l.foldl Zcy acc
  | [],acc=>rfl
  | x :: l, acc => by
    unfold dedup
    rw [List.foldl_cons]
    unfold Zcy
    split
    · rw [ZgG l acc]; rfl
    · rw [ZgG l (acc ++ [x])]; rfl
def tru (acc:List Int):List (Ky × D):=acc.map fun i=>(Sum.inl i,PyData.bool true)
theorem ZtI (acc:List Int) (x:Int):putD (tru acc) (Sum.inl x) (PyData.bool true) = tru (Zcy acc x):=by
 unfold putD Zcy tru
 by_cases h:x ∈ acc
 ·have e1:((acc.map fun i=>((Sum.inl i:Ky),PyData.bool true)).any fun p=>decide (p.1 = Sum.inl x)) = true:=by
   simp; exact h
  have e2:acc.contains x = true:=by simpa using h
  rw [if_pos e1,if_pos e2,List.map_map]
  refine List.map_congr_left fun i _=>?_
  simp
 ·have e1:¬ ((acc.map fun i=>((Sum.inl i:Ky),PyData.bool true)).any fun p=>decide (p.1 = Sum.inl x)) = true:=by
   simp; exact h
  have e2:¬ acc.contains x = true:=by simpa using h
  rw [if_neg e1,if_neg e2]
  simp
theorem ZlM (acc:List Int) (x:Int):(Zcy acc x).length <= acc.length + 1:=by
 unfold Zcy; split <;> simp
theorem Zn1:∀ (l acc:List Int),(l.foldl Zcy acc).length <= acc.length + l.length
  | [],acc=>by simp
  | x :: l, acc => by
    rw [List.foldl_cons]
    have:=Zn1 l (Zcy acc x)
    have:=ZlM acc x
    simp; omega
theorem Zrm (e0 e1 e2 e3 e5:Option B):∀ (l acc:List Int) (o:Option B),acc.length + l.length < 1000000 ->
    ∃ o',Z2 6 Zfc (l.map dI) [e0,e1,e2,e3,some (.ok (tru acc)),e5,o] = some (.nx [e0,e1,e2,e3,some (.ok (tru (l.foldl Zcy acc))),e5,o'])
  | [],acc,o,_=>⟨o,rfl⟩
  | x :: l, acc, o, h => by
    rw [List.length_cons] at h
    have hb:acc.length < 1000000:=by omega
    have e:Zfc [e0,e1,e2,e3,some (.ok (tru acc)),e5,some (.pl (dI x))] = some (.nx [e0,e1,e2,e3,some (.ok (tru (Zcy acc x))),e5,some (.pl (dI x))]):=by
      have hl:(tru acc).length < 1000000:=by unfold tru; simp; exact hb
      simp [Zfc,hl,ZtI]
    have hd:=ZlM acc x
    obtain ⟨o',e'⟩:=Zrm e0 e1 e2 e3 e5 l (Zcy acc x) (some (.pl (dI x))) (by omega)
    refine ⟨o',?_⟩
    rw [List.map_cons,List.foldl_cons,<- e']
    unfold Z2
    show (match Zfc [e0,e1,e2,e3,some (.ok (tru acc)),e5,some (.pl (dI x))] with | some (.nx r')=>_ | some (.ct r')=>_ | some (.bk r')=>_ | some (.rt d)=>_ | none=>_) = _
    rw [e]
    cases l <;> rfl
theorem ZqT {w:Wk} (hv:Wk.V w) {d:Int} (h0:0 <= d) (h1:d < w.deeds.length) (e1 e2:Option B):∀ (c acc:List Int) (o5 o6:Option B),(∀ s ∈ c,0 <= s/\s < (w.many:Int))->acc.length + c.length * 10 < 100000 ->
    ∃ o5' o6',Z2 5 Zfd (c.map dI) [some (.pl w.d),e1,e2,some (.pl (ZS (w.deeds[d.toNat]?.getD []))),some (.ok (tru acc)),o5,o6] = some (.nx [some (.pl w.d),e1,e2,some (.pl (ZS (w.deeds[d.toNat]?.getD []))),some (.ok (tru ((Za6 w c d).foldl Zcy acc))),o5',o6'])
  | [],acc,o5,o6,_,_=>⟨o5,o6,rfl⟩
  | s :: c, acc, o5, o6, hs, hl => by
    rw [List.length_cons] at hl
    have hb:=hs s (List.mem_cons_self ..)
    have hr:=(Zod hv h0 h1 hb.1 hb.2).len
    have m2:=hv.m2
    have hrl:(ZbI w d s).length < 1000000:=by omega
    obtain ⟨o',e⟩:=Zrm (some (.pl w.d)) e1 e2 (some (.pl (ZS (w.deeds[d.toNat]?.getD [])))) (some (.pl (dI s))) (ZbI w d s) acc o6 (by omega)
    have e':Zfd [some (.pl w.d),e1,e2,some (.pl (ZS (w.deeds[d.toNat]?.getD []))),some (.ok (tru acc)),some (.pl (dI s)),o6] = some (.nx [some (.pl w.d),e1,e2,some (.pl (ZS (w.deeds[d.toNat]?.getD []))),some (.ok (tru ((ZbI w d s).foldl Zcy acc))),some (.pl (dI s)),o']):=by
      unfold ZS at e ⊢
      simp [Zfd,Zno hv h0 h1 hb.1 hb.2,hrl,e]
    have hf:=Zn1 (ZbI w d s) acc
    obtain ⟨p5,p6,ih⟩:=ZqT hv h0 h1 e1 e2 c ((ZbI w d s).foldl Zcy acc) (some (.pl (dI s))) o' (fun x hx=>hs x (List.mem_cons_of_mem _ hx)) (by omega)
    refine ⟨p5,p6,?_⟩
    have ef:Za6 w (s :: c) d = ZbI w d s ++ Za6 w c d:=rfl
    rw [ef,List.foldl_append,<- ih,List.map_cons]
    show (match Zfd [some (.pl w.d),e1,e2,some (.pl (ZS (w.deeds[d.toNat]?.getD []))),some (.ok (tru acc)),some (.pl (dI s)),o6] with | some (.nx r')=>_ | some (.ct r')=>_ | some (.bk r')=>_ | some (.rt d)=>_ | none=>_) = _
    rw [e']
theorem Zrj {w:Wk} (hv:Wk.V w) {c:List Int} (hc:Cr w.many c) {d:Int} (h0:0 <= d) (h1:d < w.deeds.length):∀ x ∈ Za6 w c d,0 <= x/\x < (w.many:Int):=by
 intro x hx
 obtain ⟨s,hs,h⟩:=List.mem_flatMap.mp hx
 exact (Zod hv h0 h1 (hc.2 s hs).1 (hc.2 s hs).2).2 x h
theorem Zdq {w:Wk} (hv:Wk.V w) {c:List Int} (hc:Cr w.many c) {d:Int} (h0:0 <= d) (h1:d < w.deeds.length):Cr w.many (Zs w c d):=by
 refine Ziz (ZfY _ _ (by simp)) fun x hx=>Zrj hv hc h0 h1 x ?_
 rw [Zgd] at hx
 simpa using hx
theorem Zrr {w:Wk} (hv:Wk.V w) {c:List Int} (hc:Cr w.many c) {d:Int} (h0:0 <= d) (h1:d < w.deeds.length):Zdw [w.d,tupI c,.int d] = some (tupI (Zs w c d)):=by
 have m2:=hv.m2
 have hlen:=hc.len
 have hb:c.length < 1000000:=by omega
 obtain ⟨o5,o6,e⟩:=ZqT hv h0 h1 (some (.pl (tupI c))) (some (.pl (.int d))) c [] none none hc.2 (by simp; omega)
 have hl:(dedup [] (Za6 w c d)).length < 64:=by
  have h:=(Zdq hv hc h0 h1).len
  have:=(sortI_perm (dedup [] (Za6 w c d))).length_eq
  unfold Zs at h
  omega
 have hs:=Ziu _ hl
 rw [ZgG] at hs
 have ek:(tru ((Za6 w c d).foldl Zcy [])).map (fun p=>ZaO p.1) = ((Za6 w c d).foldl Zcy []).map dI:=by
  unfold tru
  rw [List.map_map]
  rfl
 simp [Zdw,Zly,ZhA,Zlm h0 h1,hb]
 rw [show some (B.ok []) = some (B.ok (tru [])) from rfl,e]
 simp [ek,hs,Zs,ZgG]
end HG
namespace HG
open PySem HM
abbrev Gs:=List (List Int × List Int)
abbrev Z8 (k:List Int):List Ky:=k.map Sum.inl
def ZaH (g:Gs):List (List Ky × List D):=g.map fun p=>(Z8 p.1,p.2.map dI)
theorem ZeZ {a b:List Int} (h:Z8 a = Z8 b):a = b:=by
  induction a generalizing b with
  | nil => cases b with
    | nil=>rfl
    | cons _ _=>simp at h
  | cons x a ih => cases b with
    | nil=>simp at h
    | cons y b =>
      simp at h
      rw [h.1,ih (by simpa using h.2)]
theorem Zlo (a b:List Int):(Z8 a = Z8 b) ↔ a = b:=⟨ZeZ,fun h=>by rw [h]⟩
theorem Zpv (k:List Int):Zle (k.map dI) = some (Z8 k):=by
  induction k with
  | nil=>rfl
  | cons x k ih =>
    show (Zle (k.map dI)).map (Sum.inl x :: ·) = _
    rw [ih]
    rfl
theorem Zax (k:List Int):ZaV (tupI k) = some (Z8 k):=Zpv k
theorem Zg5 (g:Gs) (k:List Int):Ze (ZaH g) (Z8 k) = (Ze g k).map fun p=>p.map dI:=by
 unfold Ze ZaH
 rw [List.find?_map]
 have e:((fun p:List Ky × List D=>decide (p.1 = Z8 k)) ∘ fun p:List Int × List Int=>(Z8 p.1,p.2.map dI)) = fun p=>decide (p.1 = k):=by
  funext p
  simp only [Function.comp]
  exact decide_eq_decide.mpr (Zlo p.1 k)
 rw [e]
 cases g.find? fun p=>decide (p.1 = k) <;> rfl
theorem Zo8 (g:Gs) (k:List Int):ZbK (ZaH g) (Z8 k) = ZaH (ZbK g k):=by
 unfold ZbK
 rw [Zg5]
 cases Ze g k with
 | none=>simp [ZaH]
 | some p=>rfl
theorem Zjt (k:List Int) (s:Int):∀ (g:Gs),ZdY (ZaH g) (Z8 k) (dI s) = ZaH (ZdY g k s)
  | []=>rfl
  | (x, p) :: g => by
    show ZdY ((Z8 x,p.map dI) :: ZaH g) (Z8 k) (dI s) = ZaH (ZdY ((x,p) :: g) k s)
    unfold ZdY
    by_cases h:x = k
    · rw [if_pos (by rw [h]), if_pos h]
      simp [ZaH]
    · rw [if_neg (fun e => h (ZeZ e)), if_neg h, Zjt k s g]
      rfl
def Zep (g:Gs) (k:List Int) (s:Int):Gs:=ZdY (ZbK g k) k s
theorem ZfQ (k:List Int):Ze ([]:Gs) k = none:=rfl
theorem ZbZ (x:List Int) (p:List Int) (g:Gs) (k:List Int):Ze ((x,p) :: g) k = if x = k then some p else Ze g k:=by
 unfold Ze
 rw [List.find?_cons]
 by_cases h:x = k <;> simp [h]
theorem ZnQ (k:List Int) (s:Int) (k':List Int):∀ (g:Gs),Ze (ZdY g k s) k' = if k = k' then (Ze g k).map (· ++ [s]) else Ze g k'
  | []=>by simp [ZdY,ZfQ]
  | (x, p) :: g => by
    unfold ZdY
    by_cases h:x = k
    · subst h
      rw [if_pos rfl,ZbZ,ZbZ,ZbZ,if_pos rfl]
      split <;> rfl
    · rw [if_neg h, ZbZ, ZnQ k s k' g, ZbZ, ZbZ, if_neg h]
      by_cases h2:x = k'
      · subst h2
        rw [if_pos rfl,if_pos rfl,if_neg (Ne.symm h)]
      · rw [if_neg h2,if_neg h2]
theorem ZkT (x:List Int) (p:List Int) (k:List Int):∀ (g:Gs),Ze (g ++ [(x,p)]) k = match Ze g k with | some q=>some q | none=>if x = k then some p else none
  | []=>by simp [ZfQ,ZbZ]
  | (y, q) :: g => by
    rw [List.cons_append,ZbZ,ZbZ,ZkT x p k g]
    split <;> rfl
theorem Zix (g:Gs) (k k':List Int):Ze (ZbK g k) k' = if k = k' then some ((Ze g k).getD []) else Ze g k':=by
  unfold ZbK
  cases h:Ze g k with
  | some p =>
    by_cases e:k = k'
    · subst e; rw [if_pos rfl]; exact h
    · rw [if_neg e]
  | none =>
    show Ze (g ++ [(k,[])]) k' = _
    rw [ZkT]
    by_cases e:k = k'
    · subst e; rw [if_pos rfl,if_pos rfl,h]; rfl
    · rw [if_neg e, if_neg e]
      cases Ze g k' <;> rfl
theorem ZsS (g:Gs) (k k':List Int) (s:Int):Ze (Zep g k s) k' = if k = k' then some ((Ze g k).getD [] ++ [s]) else Ze g k':=by
 unfold Zep
 rw [ZnQ,Zix,Zix,if_pos rfl]
 by_cases e:k = k'
 ·rw [if_pos e,if_pos e]; rfl
 ·rw [if_neg e,if_neg e,if_neg e]
theorem ZnA (k:List Int) (s:Int):∀ (g:Gs),(ZdY g k s).map (·.1) = g.map (·.1)
  | []=>rfl
  | (x, p) :: g => by
    unfold ZdY
    split
    · rfl
    · rw [List.map_cons,ZnA k s g]; rfl
theorem Zkb (g:Gs) (k:List Int):(Ze g k).isSome = true ↔ k ∈ g.map (·.1):=by
  induction g with
  | nil=>simp [ZfQ]
  | cons p g ih =>
    obtain ⟨x,q⟩:=p
    rw [ZbZ,List.map_cons,List.mem_cons]
    by_cases h:x = k
    · simp [h]
    · rw [if_neg h, ih]
      constructor
      · exact .inr
      · rintro (e | e)
        · exact absurd e.symm h
        · exact e
theorem Zr4 (g:Gs) (k:List Int):(ZbK g k).map (·.1) = if k ∈ g.map (·.1) then g.map (·.1) else g.map (·.1) ++ [k]:=by
  unfold ZbK
  cases h:Ze g k with
  | some p=>rw [if_pos ((Zkb g k).mp (by rw [h]; rfl))]
  | none =>
    rw [if_neg (fun m=>by have:=(Zkb g k).mpr m; rw [h] at this; cases this)]
    simp
theorem Zsc (g:Gs) (k:List Int) (s:Int):(Zep g k s).map (·.1) = if k ∈ g.map (·.1) then g.map (·.1) else g.map (·.1) ++ [k]:=by
 unfold Zep
 rw [ZnA,Zr4]
def Zdt (f:Int->List Int) (c:List Int):Gs:=c.foldl (fun g s=>Zep g (f s) s) []
structure Grp (f:Int->List Int) (pre:List Int) (g:Gs):Prop where
 nd:(g.map (·.1)).Nodup
 look:∀ k,Ze g k = if k ∈ pre.map f then some (pre.filter fun s=>f s == k) else none
theorem Grp.mem {f:Int->List Int} {pre:List Int} {g:Gs} (h:Grp f pre g) (k:List Int):k ∈ g.map (·.1) ↔ k ∈ pre.map f:=by
 rw [<- Zkb,h.look]
 split
 ·rename_i m; exact ⟨fun _=>m,fun _=>rfl⟩
 ·rename_i m; exact ⟨(fun e=>by cases e),fun e=>absurd e m⟩
theorem Grp.step {f:Int->List Int} {pre:List Int} {g:Gs} (h:Grp f pre g) (s:Int):Grp f (pre ++ [s]) (Zep g (f s) s):=by
 refine ⟨?_,fun k=>?_⟩
 ·rw [Zsc]
  split
  ·exact h.nd
  ·rename_i m
   rw [List.nodup_append]
   exact ⟨h.nd,by simp,fun a ha b hb=>by simp at hb; subst hb; exact fun e=>m (e ▸ ha)⟩
 ·rw [ZsS,h.look,h.look,List.map_append,List.filter_append]
  by_cases e:f s = k
  ·subst e
   have e0:f s ∈ pre.map f ++ [s].map f:=by simp
   rw [if_pos rfl,if_pos e0]
   have e2:[s].filter (fun x=>f x == f s) = [s]:=by simp
   rw [e2]
   split
   ·rfl
   ·rename_i m
    have:pre.filter (fun x=>f x == f s) = []:=by
     rw [List.filter_eq_nil_iff]
     intro a ha q
     exact m (List.mem_map.mpr ⟨a,ha,by simpa using q⟩)
    rw [this]; rfl
  ·have e2:[s].filter (fun x=>f x == k) = []:=by simp [e]
   rw [if_neg e,e2,List.append_nil]
   have e3:(k ∈ pre.map f ++ [s].map f) ↔ k ∈ pre.map f:=by
    rw [List.mem_append]
    constructor
    ·rintro (q | q)
     ·exact q
     ·simp at q; exact absurd q.symm e
    ·exact .inl
   by_cases q:k ∈ pre.map f
   ·rw [if_pos q,if_pos (e3.mpr q)]
   ·rw [if_neg q,if_neg (fun z=>q (e3.mp z))]
theorem ZoX (f:Int->List Int):∀ (c pre:List Int) (g:Gs),Grp f pre g->Grp f (pre ++ c) (c.foldl (fun g s=>Zep g (f s) s) g)
  | [],pre,g,h=>by rw [List.append_nil]; exact h
  | s :: c, pre, g, h => by
    have:=ZoX f c (pre ++ [s]) _ (h.step s)
    rw [List.append_assoc] at this
    exact this
theorem ZcZ (f:Int->List Int) (c:List Int):Grp f c (Zdt f c):=by
 have:=ZoX f c [] [] ⟨List.nodup_nil,fun k=>by simp [ZfQ]⟩
 rwa [List.nil_append] at this
def Zt (w:Wk) (ls c:List Int):Gs:=(ZeT ((Zdt (ZA w ls) c).map (·.1))).map fun k=>(k,c.filter fun s=>ZA w ls s == k)
def ZK (p:List Int × List Int):D:=.tuple [tupI p.1,tupI p.2]
theorem ZsW (ks:List (List Int)):Zjs (ks.map tupI) = some ks:=by
  induction ks with
  | nil=>rfl
  | cons k ks ih =>
    show (match Zbk (k.map dI) with | some ns=>(Zjs (ks.map tupI)).map (ns :: ·) | none=>none) = _
    rw [Zcb,ih]
    rfl
theorem Zp8 (ks:List (List Int)) (h:ks.length < 64) (hn:ks.length < 2\/∀ k ∈ ks,k ≠ []):ZfZ (ks.map tupI) = some ((ZeT ks).map tupI):=by
  unfold ZfZ
  rw [if_pos (by rw [List.length_map]; exact h)]
  cases ks with
  | nil=>simp [Zbk,sortI,ZeT,ofInts]
  | cons k ks =>
    have e:Zbk (List.map tupI (k :: ks)) = none:=rfl
    rw [e,ZsW]
    have e2:(decide ((List.map tupI (k :: ks)).length < 2) || (k :: ks).all fun t=>!t.isEmpty) = true:=by
      rw [Bool.or_eq_true,List.length_map]
      rcases hn with q | q
      · exact .inl (by simpa using q)
      · refine .inr (List.all_eq_true.mpr fun t ht => ?_)
        have:=q t ht
        cases t with
        | nil=>exact absurd rfl this
        | cons _ _=>rfl
    dsimp only
    rw [if_pos e2]
    unfold Zgh
    simp only [ZgC]
theorem Za8 (ks:List (List Int)):(ZeT ks).Perm ks:=List.mergeSort_perm ks _
theorem Zpg (w:Wk) (ls c:List Int) (hc:c.length < 60):ZfZ ((ZaH (Zdt (ZA w ls) c)).map fun p=>PyData.tuple (p.1.map ZaO)) = some ((ZeT ((Zdt (ZA w ls) c).map (·.1))).map tupI):=by
  have hg:=ZcZ (ZA w ls) c
  have e:((ZaH (Zdt (ZA w ls) c)).map fun p=>PyData.tuple (p.1.map ZaO)) = ((Zdt (ZA w ls) c).map (·.1)).map tupI:=by
    unfold ZaH
    rw [List.map_map,List.map_map]
    refine List.map_congr_left fun p _=>?_
    simp only [Function.comp]
    unfold Z8 tupI
    rw [List.map_map]
    rfl
  rw [e]
  have hsub:∀ k ∈ (Zdt (ZA w ls) c).map (·.1),k ∈ c.map (ZA w ls):=fun k hk=>(hg.mem k).mp hk
  refine Zp8 _ ?_ ?_
  · have : (Zdt (ZA w ls) c).map (·.1) ⊆ c.map (ZA w ls) := hsub
    have:=(List.Nodup.length_le_of_subset hg.nd this)
    rw [List.length_map,List.length_map] at this
    rw [List.length_map]
    omega
  · cases ls with
    | nil =>
      left
      have:(Zdt (ZA w []) c).map (·.1) ⊆ [[]]:=fun k hk=>by
        obtain ⟨s,_,e⟩:=List.mem_map.mp (hsub k hk)
        rw [<- e]
        simp [ZA]
      have:=(List.Nodup.length_le_of_subset hg.nd this)
      simp at this ⊢
      omega
    | cons l ls =>
      right
      intro k hk e
      obtain ⟨s,_,e'⟩:=List.mem_map.mp (hsub k hk)
      rw [e] at e'
      simp [ZA] at e'
theorem ZkD (w:Wk) (ls c:List Int) (e:EF) (r:HM.Env) (h:∀ k ∈ (Zdt (ZA w ls) c).map (·.1),e (some (.pl (tupI k)) :: r) = some (.tuple [tupI k,.tuple ((c.filter fun s=>ZA w ls s == k).map dI)])) :
  ZaM ZV e r ((ZeT ((Zdt (ZA w ls) c).map (·.1))).map tupI) = some ((Zt w ls c).map ZK):=by
 rw [ZaU tupI (fun k=>.tuple [tupI k,.tuple ((c.filter fun s=>ZA w ls s == k).map dI)])]
 ·unfold Zt
  rw [List.map_map]
  rfl
 ·intro k hk
  exact h k ((Za8 _).mem_iff.mp hk)
theorem Zoh (w:Wk) (ls c:List Int) (k:List Int) (hk:k ∈ (Zdt (ZA w ls) c).map (·.1)):Ze (ZaH (Zdt (ZA w ls) c)) (Z8 k) = some ((c.filter fun s=>ZA w ls s == k).map dI):=by
 have hg:=ZcZ (ZA w ls) c
 rw [Zg5,hg.look,if_pos ((hg.mem k).mp hk)]
 rfl
theorem ZoU (f:Int->List Int) (pre:List Int) (g:Gs) (h:Grp f pre g) (k:List Int) (p:List Int) (e:Ze g k = some p):p.length <= pre.length:=by
 rw [h.look] at e
 split at e
 ·cases e; exact List.length_filter_le _ _
 ·cases e
theorem ZgF (f:Int->List Int) (pre:List Int) (g:Gs) (h:Grp f pre g):g.length <= pre.length:=by
 have h2:g.map (·.1) ⊆ pre.map f:=fun k hk=>(h.mem k).mp hk
 have:=List.Nodup.length_le_of_subset h.nd h2
 simpa using this
theorem ZlX {w:Wk} (hv:Wk.V w) {ls:List Int} (hl:Cr w.looks.length ls) (e2:Option B):∀ (c pre:List Int) (g:Gs) (o:Option B),Grp (ZA w ls) pre g->(∀ s ∈ c,0 <= s/\s < (w.many:Int))->pre.length + c.length < 1000 ->
    ∃ o',Z2 4 Zfe (c.map dI) [some (.pl w.d),some (.pl (tupI ls)),e2,some (.otl (ZaH g)),o] = some (.nx [some (.pl w.d),some (.pl (tupI ls)),e2,some (.otl (ZaH (c.foldl (fun g s=>Zep g (ZA w ls s) s) g))),o'])
  | [],pre,g,o,_,_,_=>⟨o,rfl⟩
  | s :: c, pre, g, o, hg, hb, hn => by
    rw [List.length_cons] at hn
    have hs:=hb s (List.mem_cons_self ..)
    have hlen:(ZaH g).length < 1000000:=by
      have:=ZgF _ _ _ hg
      unfold ZaH
      rw [List.length_map]; omega
    have h1:Ze (ZbK (ZaH g) (Z8 (ZA w ls s))) (Z8 (ZA w ls s)) = some (((Ze g (ZA w ls s)).getD []).map dI):=by
      rw [Zo8,Zg5,Zix,if_pos rfl]; rfl
    have h2:(((Ze g (ZA w ls s)).getD []).map dI).length < 1000000:=by
      rw [List.length_map]
      cases e:Ze g (ZA w ls s) with
      | none=>simp
      | some p =>
        have:=ZoU _ _ _ hg _ _ e
        simp; omega
    have h2':((Ze g (ZA w ls s)).getD []).length < 1000000:=by rwa [List.length_map] at h2
    have e:Zfe [some (.pl w.d),some (.pl (tupI ls)),e2,some (.otl (ZaH g)),some (.pl (dI s))] = some (.nx [some (.pl w.d),some (.pl (tupI ls)),e2,some (.otl (ZaH (Zep g (ZA w ls s) s))),some (.pl (dI s))]):=by
      have ek:=Zpu hv hl hs.1 hs.2
      simp [Zfe,ek,Zax,hlen,h1,h2']
      rw [Zo8,Zjt]
      rfl
    obtain ⟨o',ih⟩:=ZlX hv hl e2 c (pre ++ [s]) (Zep g (ZA w ls s) s) (some (.pl (dI s))) (hg.step s) (fun x hx=>hb x (List.mem_cons_of_mem _ hx)) (by simp; omega)
    refine ⟨o',?_⟩
    rw [List.map_cons,List.foldl_cons,<- ih]
    show (match Zfe [some (.pl w.d),some (.pl (tupI ls)),e2,some (.otl (ZaH g)),some (.pl (dI s))] with | some (.nx r')=>_ | some (.ct r')=>_ | some (.bk r')=>_ | some (.rt d)=>_ | none=>_) = _
    rw [e]
theorem Zjn {w:Wk} (hv:Wk.V w) {ls:List Int} (hl:Cr w.looks.length ls) {c:List Int} (hc:Cr w.many c):ZbD [w.d,tupI ls,tupI c] = some (.list ((Zt w ls c).map ZK)):=by
 have m2:=hv.m2
 have hlen:=hc.len
 have hb:c.length < 1000000:=by omega
 obtain ⟨o',e⟩:=ZlX hv hl (some (.pl (tupI c))) c [] [] none ⟨List.nodup_nil,fun k=>by simp [ZfQ]⟩ hc.2 (by simp; omega)
 have hk:=Zpg w ls c (by omega)
 have hg:c.foldl (fun g s=>Zep g (ZA w ls s) s) [] = Zdt (ZA w ls) c:=rfl
 rw [hg] at e
 have hn:(ZeT ((Zdt (ZA w ls) c).map (·.1))).length < 1000000:=by
  rw [(Za8 _).length_eq,List.length_map]
  have:=ZgF _ _ _ (ZcZ (ZA w ls) c)
  omega
 simp [ZbD,Zlz,hb]
 rw [show some (B.otl []) = some (B.otl (ZaH [])) from rfl,e]
 simp [hk,hn]
 rw [ZkD]
 ·simp
 ·intro k hk'
  simp [Zax,Zoh w ls c k hk']
end HG
namespace HG
open PySem HM
def nbD:Nat->D->Bool
 | _,.none=>true
 | _,.int _=>true
 | _,.str x=>PyData.canLay0 (.str x)
 | 0,_=>false
 | n + 1,.list ds=>ds.all (nbD n)
 | n + 1,.tuple ds=>ds.all (nbD n)
 | _,_=>false
theorem ZcY {ds:List D} (h:∀ d ∈ ds,d.canLay0 = true):PyData.canLayAll0 ds = true:=by
  induction ds with
  | nil=>rfl
  | cons d ds ih =>
    show (d.canLay0 && PyData.canLayAll0 ds) = true
    rw [h d (List.mem_cons_self ..),ih fun x hx=>h x (List.mem_cons_of_mem _ hx)]
    rfl
theorem ZjX {ds:List D} {n:Nat} (h:∀ d ∈ ds,d.depth <= n):PyData.depthAll ds <= n:=by
  induction ds with
  | nil=>exact Nat.zero_le _
  | cons d ds ih =>
    show max d.depth (PyData.depthAll ds) <= n
    have h1:=h d (List.mem_cons_self ..)
    have h2:=ih fun x hx=>h x (List.mem_cons_of_mem _ hx)
    omega
theorem ZhS:∀ (n:Nat) (d:D),nbD n d = true->d.canLay0 = true/\d.depth <= n
  | n,.none,_=>⟨rfl,by show 0 <= n; omega⟩
  | n,.int _,_=>⟨rfl,by show 0 <= n; omega⟩
  | n, .str x, h => by
    refine ⟨?_,by show 0 <= n; omega⟩
    cases n <;> exact h
  | 0,.bool _,h=>by cases h
  | 0,.list _,h=>by cases h
  | 0,.tuple _,h=>by cases h
  | 0,.dict _,h=>by cases h
  | n + 1,.bool _,h=>by cases h
  | n + 1,.dict _,h=>by cases h
  | n + 1, .list ds, h => by
    have h':ds.all (nbD n) = true:=h
    have hh:=List.all_eq_true.mp h'
    refine ⟨ZcY fun d hd=>(ZhS n d (hh d hd)).1,?_⟩
    show PyData.depthAll ds + 1 <= n + 1
    have:=ZjX fun d hd=>(ZhS n d (hh d hd)).2
    omega
  | n + 1, .tuple ds, h => by
    have h':ds.all (nbD n) = true:=h
    have hh:=List.all_eq_true.mp h'
    refine ⟨ZcY fun d hd=>(ZhS n d (hh d hd)).1,?_⟩
    show PyData.depthAll ds + 1 <= n + 1
    have:=ZjX fun d hd=>(ZhS n d (hh d hd)).2
    omega
theorem Zhb {n:Nat} {d:D} (h:nbD n d = true) (hn:n <= 60):Zaf d = true:=by
 obtain ⟨h1,h2⟩:=ZhS n d h
 unfold Zaf
 rw [h1,decide_eq_true (show d.depth <= 60 by omega)]
 rfl
theorem ZkM {ds:List D} (ih:∀ d ∈ ds,∀ e,(∃ m,nbD m e = true)->(PyData.eqv d e = true ↔ d = e)):∀ (es:List D),(∀ e ∈ es,∃ m,nbD m e = true)->(PyData.eqvAll ds es = true ↔ ds = es):=by
  induction ds with
  | nil =>
    intro es _
    cases es with
    | nil=>exact ⟨fun _=>rfl,fun _=>rfl⟩
    | cons e es=>exact ⟨(fun h=>by cases h),(fun h=>by cases h)⟩
  | cons d ds ihl =>
    intro es he
    cases es with
    | nil=>exact ⟨(fun h=>by cases h),(fun h=>by cases h)⟩
    | cons e es =>
      show ((PyData.eqv d e && PyData.eqvAll ds es) = true) ↔ _
      rw [Bool.and_eq_true,ih d (List.mem_cons_self ..) e (he e (List.mem_cons_self ..)),ihl (fun x hx=>ih x (List.mem_cons_of_mem _ hx)) es (fun x hx=>he x (List.mem_cons_of_mem _ hx)),List.cons.injEq]
theorem Zts {m:Nat} {ds:List D} (h:nbD m (.list ds) = true):∀ d ∈ ds,∃ m,nbD m d = true:=by
  cases m with
  | zero=>cases h
  | succ m =>
    have h':ds.all (nbD m) = true:=h
    exact fun d hd=>⟨m,List.all_eq_true.mp h' d hd⟩
theorem ZsN {m:Nat} {ds:List D} (h:nbD m (.tuple ds) = true):∀ d ∈ ds,∃ m,nbD m d = true:=by
  cases m with
  | zero=>cases h
  | succ m =>
    have h':ds.all (nbD m) = true:=h
    exact fun d hd=>⟨m,List.all_eq_true.mp h' d hd⟩
theorem ZfL {m:Nat} {b:Bool} (h:nbD m (.bool b) = true):False:=by cases m <;> cases h
theorem ZfO {m:Nat} {b:List (D × D)} (h:nbD m (.dict b) = true):False:=by cases m <;> cases h
theorem ZjE:∀ (n:Nat) (d e:D),nbD n d = true->(∃ m,nbD m e = true)->(PyData.eqv d e = true ↔ d = e):=by
  intro n
  induction n with
  | zero =>
    intro d e hd ⟨m,he⟩
    cases d <;> first | cases hd | skip
    all_goals cases e <;> first
      | exact (ZfL he).elim
      | exact (ZfO he).elim
      | exact ⟨fun _=>rfl,fun _=>rfl⟩
      | exact ⟨(fun h=>by cases h),(fun h=>by cases h)⟩
      | (rename_i a b; show ((a == b) = true) ↔ _; simp)
  | succ n ih =>
    intro d e hd ⟨m,he⟩
    cases d with
    | bool _=>exact (ZfL hd).elim
    | dict _=>exact (ZfO hd).elim
    | list ds =>
      cases e with
      | list es =>
        show (PyData.eqvAll ds es = true) ↔ _
        rw [ZkM (fun d h e he=>ih d e (List.all_eq_true.mp (show ds.all (nbD n) = true from hd) d h) he) es (Zts he)]
        simp
      | bool _=>exact (ZfL he).elim
      | dict _=>exact (ZfO he).elim
      | _=>exact ⟨(fun h=>by cases h),(fun h=>by cases h)⟩
    | tuple ds =>
      cases e with
      | tuple es =>
        show (PyData.eqvAll ds es = true) ↔ _
        rw [ZkM (fun d h e he=>ih d e (List.all_eq_true.mp (show ds.all (nbD n) = true from hd) d h) he) es (ZsN he)]
        simp
      | bool _=>exact (ZfL he).elim
      | dict _=>exact (ZfO he).elim
      | _=>exact ⟨(fun h=>by cases h),(fun h=>by cases h)⟩
    | none => cases e <;> first
      | exact (ZfL he).elim
      | exact (ZfO he).elim
      | exact ⟨fun _=>rfl,fun _=>rfl⟩
      | exact ⟨(fun h=>by cases h),(fun h=>by cases h)⟩
    | int i => cases e <;> first
      | exact (ZfL he).elim
      | exact (ZfO he).elim
      | exact ⟨(fun h=>by cases h),(fun h=>by cases h)⟩
      | (rename_i b; show ((i == b) = true) ↔ _; simp)
    | str i => cases e <;> first
      | exact (ZfL he).elim
      | exact (ZfO he).elim
      | exact ⟨(fun h=>by cases h),(fun h=>by cases h)⟩
      | (rename_i b; show ((i == b) = true) ↔ _; simp)
theorem Ztv {n m:Nat} {d e:D} (hd:nbD n d = true) (he:nbD m e = true) (hn:n <= 60) (hm:m <= 60) [Decidable (d = e)]:gEq d e = some (.bool (decide (d = e))):=by
 unfold gEq
 rw [Zhb hd hn,Zhb he hm,if_pos (by rfl)]
 congr 2
 have h:=ZjE n d e hd ⟨m,he⟩
 cases q:PyData.eqv d e with
 | true=>exact (decide_eq_true (h.mp q)).symm
 | false=>exact (decide_eq_false fun z=>by rw [h.mpr z] at q; cases q).symm
theorem Zie {n:Nat} {d:D} (hd:nbD n d = true) (hn:n <= 60):gEq d d = some (.bool true):=by
 unfold gEq
 rw [Zhb hd hn,(ZjE n d d hd ⟨n,hd⟩).mpr rfl]
 rfl
theorem Znl {n m:Nat} {d e:D} (hd:nbD n d = true) (he:nbD m e = true) (hn:n <= 60) (hm:m <= 60) (h:d ≠ e):gEq d e = some (.bool false):=by
 have:Decidable (d = e):=isFalse h
 rw [Ztv hd he hn hm,decide_eq_false h]
theorem ZsL {n:Nat} {d:D} (hd:nbD n d = true) (hn:n <= 60):gNe d d = some (.bool false):=by
 unfold gNe
 rw [Zhb hd hn,(ZjE n d d hd ⟨n,hd⟩).mpr rfl]
 rfl
theorem Zdp (n:Nat) (ns:List Int):nbD (n + 1) (tupI ns) = true:=by
 show (ns.map dI).all (nbD n) = true
 rw [List.all_eq_true]
 intro d hd
 obtain ⟨i,_,rfl⟩:=List.mem_map.mp hd
 cases n <;> rfl
theorem Zke (n:Nat) (ns:List Int):nbD (n + 1) (.list (ns.map dI)) = true:=Zdp n ns
theorem ZwH {n:Nat} {ds:List D} (h:∀ d ∈ ds,nbD n d = true):nbD (n + 1) (.tuple ds) = true:=List.all_eq_true.mpr h
theorem ZqV {n:Nat} {ds:List D} (h:∀ d ∈ ds,nbD n d = true):nbD (n + 1) (.list ds) = true:=List.all_eq_true.mpr h
theorem ZuE (n:Nat) (i:Int):nbD n (.int i) = true:=by cases n <;> rfl
theorem ZwE (n:Nat):nbD n .none = true:=by cases n <;> rfl
end HG
namespace HG
open PySem HM
def lkV (n:Nat) (c:Int):List Int:=((List.range n).filter fun (k:Nat)=>decide (0 < Z4 (c + 19 * (k:Int)) 9857 4)).map fun (k:Nat)=>(k:Int)
theorem Zuv (n:Nat) (c:Int):Cr n (lkV n c):=Zih n _
theorem ZsC {w:Wk} (hv:Wk.V w) (c:Int):ZcF [w.d,.int c] = some (tupI (lkV w.looks.length c)):=by
 have l2:=hv.l2
 have hok:okR (w.looks.length:Int) = true:=Zc2 (by omega)
 have hb:w.looks.length < 1000000:=by omega
 have e2:atD [PyData.int w.many,.tuple (w.deeds.map ZS),.tuple (w.looks.map tupI),tupI w.beg,tupI w.goal] 2 = some (.tuple (w.looks.map tupI)):=by simp
 unfold Wk.d
 simp [ZcF,ZiO,hok,Zaa,hb]
 rw [Zcw dN (fun k:Nat=>decide (0 < Z4 (c + 19 * (k:Int)) 9857 4)) dN]
 ·simp [lkV]
 ·intro k hk
  have m:=Zct (c + 19 * (k:Int)) 9857 4 (by decide) (by decide)
  simp [m]
 ·intro k hk _
  simp
def ZnW (w:Wk) (c:List Int) (d:Int):D:=if Zak w c d then tupI (Zs w c d) else .none
theorem ZkS {w:Wk} (hv:Wk.V w) {d:Int} (h0:0 <= d) (h1:d < w.deeds.length) (e1:Option B):∀ (c acc:List Int) (o:Option B),(∀ s ∈ c,0 <= s/\s < (w.many:Int))->acc.length + c.length * 10 < 100000 ->
    (Zak w c d = true->∃ o',Z2 4 Za1 (c.map dI) [some (.pl w.d),e1,some (.pl (.int d)),some (.ol (acc.map dI)),o] = some (.nx [some (.pl w.d),e1,some (.pl (.int d)),some (.ol ((acc ++ Za6 w c d).map dI)),o'])) /\
    (Zak w c d = false->Z2 4 Za1 (c.map dI) [some (.pl w.d),e1,some (.pl (.int d)),some (.ol (acc.map dI)),o] = some (.rt .none))
  | [],acc,o,_,_=>⟨fun _=>⟨o,by simp [Za6]; rfl⟩,fun h=>by simp [Zak] at h⟩
  | s :: c, acc, o, hs, hl => by
    rw [List.length_cons] at hl
    have hb:=hs s (List.mem_cons_self ..)
    have hr:=(Zod hv h0 h1 hb.1 hb.2).len
    have m2:=hv.m2
    have hd:=Zlm h0 h1 (w:=w)
    have hrow:=Zno hv h0 h1 hb.1 hb.2
    have g1:atD [PyData.int w.many,.tuple (w.deeds.map ZS),.tuple (w.looks.map tupI),tupI w.beg,tupI w.goal] 1 = some (.tuple (w.deeds.map ZS)):=by simp
    have ec:Zak w (s :: c) d = (decide (0 < (ZbI w d s).length) && Zak w c d):=rfl
    have ef:Za6 w (s :: c) d = ZbI w d s ++ Za6 w c d:=rfl
    cases hz:ZbI w d s with
    | nil =>
      have e:Za1 [some (.pl w.d),e1,some (.pl (.int d)),some (.ol (acc.map dI)),some (.pl (dI s))] = some (.rt .none):=by
        rw [hz] at hrow
        have e3:gEq (tupI []) (.tuple []) = some (.bool true):=Zie (Zdp 0 []) (by decide)
        unfold Wk.d
        simp [Za1,hd,ZS,hrow,-gEq]
        rw [e3]
      have ec':Zak w (s :: c) d = false:=by rw [ec,hz]; rfl
      refine ⟨fun h=>(by rw [ec'] at h; cases h),fun _=>?_⟩
      rw [List.map_cons]
      show (match Za1 [some (.pl w.d),e1,some (.pl (.int d)),some (.ol (acc.map dI)),some (.pl (dI s))] with | some (.nx r')=>_ | some (.ct r')=>_ | some (.bk r')=>_ | some (.rt d)=>_ | none=>_) = _
      rw [e]
    | cons x xs =>
      have hlen:acc.length + (ZbI w d s).length < 1000000:=by omega
      have e:Za1 [some (.pl w.d),e1,some (.pl (.int d)),some (.ol (acc.map dI)),some (.pl (dI s))] = some (.nx [some (.pl w.d),e1,some (.pl (.int d)),some (.ol ((acc ++ ZbI w d s).map dI)),some (.pl (dI s))]):=by
        rw [hz] at hrow hlen
        rw [List.length_cons] at hlen
        have e3:gEq (tupI (x :: xs)) (.tuple []) = some (.bool false):=Znl (Zdp 0 (x :: xs)) (Zdp 0 []) (by decide) (by decide) (by simp)
        unfold Wk.d
        simp [Za1,hd,ZS,hrow,hz,-gEq]
        rw [e3]
        simp [hd,ZS,hrow,hlen]
      have ec':Zak w (s :: c) d = Zak w c d:=by rw [ec,hz]; rfl
      obtain ⟨i1,i2⟩:=ZkS hv h0 h1 e1 c (acc ++ ZbI w d s) (some (.pl (dI s))) (fun x hx=>hs x (List.mem_cons_of_mem _ hx)) (by rw [List.length_append]; omega)
      have e5:Z2 4 Za1 ((s :: c).map dI) [some (.pl w.d),e1,some (.pl (.int d)),some (.ol (acc.map dI)),o] = Z2 4 Za1 (c.map dI) [some (.pl w.d),e1,some (.pl (.int d)),some (.ol ((acc ++ ZbI w d s).map dI)),some (.pl (dI s))]:=by
        rw [List.map_cons]
        show (match Za1 [some (.pl w.d),e1,some (.pl (.int d)),some (.ol (acc.map dI)),some (.pl (dI s))] with | some (.nx r')=>_ | some (.ct r')=>_ | some (.bk r')=>_ | some (.rt d)=>_ | none=>_) = _
        rw [e]
      rw [e5,ec',ef,<- List.append_assoc]
      exact ⟨i1,i2⟩
theorem Zid {w:Wk} (hv:Wk.V w) (h7:w.many <= 7) {c:List Int} (hc:Cr w.many c) {d:Int} (h0:0 <= d) (h1:d < w.deeds.length):ZaS [w.d,tupI c,.int d] = some (ZnW w c d):=by
  have m2:=hv.m2
  have hlen:=hc.len
  have hb:c.length < 1000000:=by omega
  obtain ⟨i1,i2⟩:=ZkS hv h0 h1 (some (.pl (tupI c))) c [] none hc.2 (by simp; omega)
  unfold ZnW
  cases h:Zak w c d with
  | false =>
    have e:=i2 h
    rw [List.map_nil] at e
    simp [ZaS,ZhY,hb,e]
  | true =>
    obtain ⟨o',e⟩:=i1 h
    rw [List.map_nil,List.nil_append] at e
    have hf:Zpw (Za6 w c d) = true:=List.all_eq_true.mpr fun x hx=>by
      have:=Zrj hv hc h0 h1 x hx
      rw [Bool.and_eq_true,decide_eq_true_eq,decide_eq_true_eq]
      omega
    simp [ZaS,ZhY,hb,e,Zcb,hf,Zs,ZgC]
theorem Zi3 {w:Wk} (hv:Wk.V w) {ls:List Int} (hl:Cr w.looks.length ls) (e2:Option B):∀ (c pre:List Int) (g:Gs) (o o':Option B),Grp (ZA w ls) pre g->(∀ s ∈ c,0 <= s/\s < (w.many:Int))->pre.length + c.length < 1000 ->
    ∃ p p',Z2 4 Zcf (c.map dI) [some (.pl w.d),some (.pl (tupI ls)),e2,some (.otl (ZaH g)),o,o'] = some (.nx [some (.pl w.d),some (.pl (tupI ls)),e2,some (.otl (ZaH (c.foldl (fun g s=>Zep g (ZA w ls s) s) g))),p,p'])
  | [],pre,g,o,o',_,_,_=>⟨o,o',rfl⟩
  | s :: c, pre, g, o, o', hg, hb, hn => by
    rw [List.length_cons] at hn
    have hs:=hb s (List.mem_cons_self ..)
    have hlen:(ZaH g).length < 1000000:=by
      have:=ZgF _ _ _ hg
      unfold ZaH
      rw [List.length_map]; omega
    have l2:=hv.l2
    have hll:=hl.len
    have hlb:ls.length < 1000000:=by omega
    have ec:ZaM ZV (eIx (bOf (eIx (bOf (eIx (Zk 1) (eC (.int 2)))) (Zb 0))) (Zb 5)) [some (.pl w.d),some (.pl (tupI ls)),e2,some (.otl (ZaH g)),some (.pl (dI s)),o'] (ls.map dI) = some ((ZA w ls s).map dI):=by
      rw [ZaU dI (fun l=>dI (ZkO w l s))]
      · simp [ZA]
      · intro l hl'
        have hb:=hl.2 l hl'
        unfold Wk.d
        simp [Zpj hb.1 hb.2,Zo4 hv hb.1 hb.2 hs.1 hs.2]
    have e:Zcf [some (.pl w.d),some (.pl (tupI ls)),e2,some (.otl (ZaH g)),some (.pl (dI s)),o'] = some (.nx [some (.pl w.d),some (.pl (tupI ls)),e2,some (.otl (ZaH (Zep g (ZA w ls s) s))),some (.pl (dI s)),some (.pl (tupI (ZA w ls s)))]):=by
      have ek:=Zg5 g (ZA w ls s)
      have et:=Zax (ZA w ls s)
      cases h:Ze g (ZA w ls s) with
      | none =>
        rw [h] at ek
        have ea:ZbK g (ZA w ls s) = g ++ [(ZA w ls s,[])]:=by unfold ZbK; rw [h]
        have eb:ZaH g ++ [(Z8 (ZA w ls s),[])] = ZaH (ZbK g (ZA w ls s)):=by rw [ea]; simp [ZaH]
        have h1:Ze (ZaH (ZbK g (ZA w ls s))) (Z8 (ZA w ls s)) = some []:=by rw [Zg5,Zix,if_pos rfl,h]; rfl
        simp [Zcf,hlb,ec,et,ek,hlen]
        rw [eb,h1]
        simp [Zjt]
        rfl
      | some p =>
        rw [h] at ek
        have ea:ZbK g (ZA w ls s) = g:=by unfold ZbK; rw [h]
        have hp:p.length < 1000000:=by have:=ZoU _ _ _ hg _ _ h; omega
        simp [Zcf,hlb,ec,et,ek,hlen,hp,Zjt]
        unfold Zep
        rw [ea]
    obtain ⟨p,p',ih⟩:=Zi3 hv hl e2 c (pre ++ [s]) (Zep g (ZA w ls s) s) (some (.pl (dI s))) (some (.pl (tupI (ZA w ls s)))) (hg.step s) (fun x hx=>hb x (List.mem_cons_of_mem _ hx)) (by simp; omega)
    refine ⟨p,p',?_⟩
    rw [List.map_cons,List.foldl_cons,<- ih]
    show (match Zcf [some (.pl w.d),some (.pl (tupI ls)),e2,some (.otl (ZaH g)),some (.pl (dI s)),o'] with | some (.nx r')=>_ | some (.ct r')=>_ | some (.bk r')=>_ | some (.rt d)=>_ | none=>_) = _
    rw [e]
theorem ZdZ {w:Wk} (hv:Wk.V w) {ls:List Int} (hl:Cr w.looks.length ls) {c:List Int} (hc:Cr w.many c):Zah [w.d,tupI ls,tupI c] = some (.list ((Zt w ls c).map ZK)):=by
 have m2:=hv.m2
 have hlen:=hc.len
 have hb:c.length < 1000000:=by omega
 obtain ⟨p,p',e⟩:=Zi3 hv hl (some (.pl (tupI c))) c [] [] none none ⟨List.nodup_nil,fun k=>by simp [ZfQ]⟩ hc.2 (by simp; omega)
 have hk:=Zpg w ls c (by omega)
 have hg:c.foldl (fun g s=>Zep g (ZA w ls s) s) [] = Zdt (ZA w ls) c:=rfl
 rw [hg] at e
 have hn:(ZeT ((Zdt (ZA w ls) c).map (·.1))).length < 1000000:=by
  rw [(Za8 _).length_eq,List.length_map]
  have:=ZgF _ _ _ (ZcZ (ZA w ls) c)
  omega
 simp [Zah,ZiP,hb]
 rw [show some (B.otl []) = some (B.otl (ZaH [])) from rfl,e]
 simp [hk,hn]
 rw [ZkD]
 ·simp
 ·intro k hk'
  simp [Zax,Zoh w ls c k hk']
theorem Zcx {w:Wk} {c:List Int} {d:Int} (h:d ∈ doV w c):0 <= d/\d < w.deeds.length/\Zak w c d = true:=by
 unfold doV at h
 obtain ⟨k,hk,rfl⟩:=List.mem_map.mp h
 obtain ⟨h1,h2⟩:=List.mem_filter.mp hk
 have:=List.mem_range.mp h1
 exact ⟨by omega,by omega,h2⟩
end HG
namespace HG4
open PySem HM HG
end HG4
namespace HM
open PySem
theorem Ze9 {α:Type} {c:TF} {e:EF} {r:Env} (a b:α->D) (p:α->Bool) (f:α->D):∀ (xs:List α),(∀ x ∈ xs,c (some (.pl (a x)) :: some (.pl (b x)) :: r) = some (p x))->(∀ x ∈ xs,p x = true->e (some (.pl (a x)) :: some (.pl (b x)) :: r) = some (f x)) ->
    ZcV c e r (xs.map fun x=>.tuple [a x,b x]) = some ((xs.filter p).map f)
  | [],_,_=>rfl
  | x :: xs, h1, h2 => by
    have ih:=Ze9 a b p f xs (fun y hy=>h1 y (List.mem_cons_of_mem _ hy)) (fun y hy=>h2 y (List.mem_cons_of_mem _ hy))
    have hc:=h1 x (List.mem_cons_self ..)
    rw [List.map_cons]
    unfold ZcV
    rw [hc]
    cases hp:p x with
    | true =>
      have he:=h2 x (List.mem_cons_self ..) hp
      dsimp only
      rw [he]
      dsimp only
      rw [ih,List.filter_cons_of_pos hp]
      rfl
    | false =>
      dsimp only
      rw [ih,List.filter_cons_of_neg (by simp [hp])]
theorem ZQ {P:Option Out->Prop} {a b:SF} {r r':Env} (h:a r = some (.nx r')) (k:P (b r')):P (Zu a b r):=by
 show P (match a r with | some (.nx r')=>b r' | some (.rt d)=>some (.rt d) | some (.bk r')=>some (.bk r') | some (.ct r')=>some (.ct r') | none=>none)
 rw [h]
 exact k
end HM
namespace HG4
open PySem HM HG
def Zp1 (w:Wk) (ls c:List Int) (s:Int):List Int:=c.filter fun x=>ZA w ls x == ZA w ls s
theorem Zux {n:Nat} {c:List Int} (p:Int->Bool) (h:Cr n c):Cr n (c.filter p):=⟨h.1.filter p,fun x hx=>h.2 x (List.mem_filter.mp hx).1⟩
def alV (w:Wk):List Int:=(List.range w.looks.length).map fun (k:Nat)=>(k:Int)
theorem ZwG (w:Wk):Cr w.looks.length (alV w):=by
 have:=Zih w.looks.length fun _=>true
 rwa [List.filter_eq_self.mpr fun _ _=>rfl] at this
theorem ZnX {w:Wk} {ls c:List Int} {s x:Int}:x ∈ Zp1 w ls c s ↔ x ∈ c/\ZA w ls x = ZA w ls s:=by
 unfold Zp1
 rw [List.mem_filter,beq_iff_eq]
theorem Ztj {w:Wk} {c:List Int} {d x:Int}:x ∈ Zs w c d ↔ ∃ s ∈ c,x ∈ ZbI w d s:=by
 unfold Zs
 rw [(sortI_perm _).mem_iff,Zgd]
 unfold Za6
 rw [List.mem_flatMap]
 constructor
 ·rintro (h | h)
  ·cases h
  ·exact h
 ·exact .inr
end HG4
namespace HM
open PySem
def Zbs:Option Out->Option D
 | some (.nx _)=>some .none
 | some (.rt d)=>some d
 | _=>none
end HM
namespace HG4
open PySem HM HG
end HG4
namespace HG5
open PySem HM HG HG4
def Zl (w:Wk) (ls c:List Int):List (List Int):=(Zt w ls c).map (·.2)
theorem ZlS {w:Wk} {ls c p:List Int}:p ∈ Zl w ls c ↔ ∃ s ∈ c,p = Zp1 w ls c s:=by
 unfold Zl Zt
 rw [List.map_map,List.mem_map]
 have hg:=ZcZ (ZA w ls) c
 constructor
 ·rintro ⟨k,hk,rfl⟩
  obtain ⟨s,hs,e⟩:=List.mem_map.mp ((hg.mem k).mp ((Za8 _).mem_iff.mp hk))
  refine ⟨s,hs,?_⟩
  subst e
  rfl
 ·rintro ⟨s,hs,rfl⟩
  exact ⟨ZA w ls s,(Za8 _).mem_iff.mpr ((hg.mem _).mpr (List.mem_map.mpr ⟨s,hs,rfl⟩)),rfl⟩
theorem Ze5 {w:Wk} {ls c p:List Int} (hc:Cr w.many c) (h:p ∈ Zl w ls c):Cr w.many p/\p ≠ []/\∀ x ∈ p,x ∈ c:=by
 obtain ⟨s,hs,rfl⟩:=ZlS.mp h
 exact ⟨Zux _ hc,List.ne_nil_of_mem (ZnX.mpr ⟨hs,rfl⟩),fun x hx=>(ZnX.mp hx).1⟩
theorem Zj3 (w:Wk) (ls c:List Int):(Zl w ls c).Nodup:=by
 unfold Zl Zt
 rw [List.map_map]
 have hg:=ZcZ (ZA w ls) c
 have hn:(ZeT ((Zdt (ZA w ls) c).map (·.1))).Nodup:=(Za8 _).nodup_iff.mpr hg.nd
 rw [List.nodup_iff_pairwise_ne,List.pairwise_map]
 refine List.Pairwise.imp_of_mem (fun {a b} ha hb hne e=>?_) (List.nodup_iff_pairwise_ne.mp hn)
 obtain ⟨s,hs,es⟩:=List.mem_map.mp ((hg.mem a).mp ((Za8 _).mem_iff.mp ha))
 have h1:s ∈ c.filter fun s=>ZA w ls s == a:=List.mem_filter.mpr ⟨hs,beq_iff_eq.mpr es⟩
 have e':(c.filter fun s=>ZA w ls s == a) = c.filter fun s=>ZA w ls s == b:=e
 rw [e'] at h1
 have:=beq_iff_eq.mp (List.mem_filter.mp h1).2
 exact hne (es.symm.trans this)
theorem Zip {w:Wk} {ls c:List Int} (h:c ≠ []):Zl w ls c ≠ []:=by
 cases c with
 | nil=>exact absurd rfl h
 | cons s c=>exact List.ne_nil_of_mem (ZlS.mpr ⟨s,List.mem_cons_self ..,rfl⟩)
def Zjd:Nat->List (List Int)
 | 0=>[[]]
 | n + 1=>Zjd n ++ (Zjd n).map (· ++ [(n:Int)])
theorem ZnZ:∀ n,(Zjd n).length = 2 ^ n
  | 0=>rfl
  | n + 1 => by
    show (Zjd n ++ (Zjd n).map (· ++ [(n:Int)])).length = _
    rw [List.length_append,List.length_map,ZnZ n,Nat.pow_succ]
    omega
theorem Zkl:∀ (n:Nat) (c:List Int),Cr n c->c ∈ Zjd n
  | 0, c, h => by
    cases c with
    | nil=>exact List.mem_singleton.mpr rfl
    | cons x c=>have:=h.2 x (List.mem_cons_self ..); omega
  | n + 1, c, h => by
    show c ∈ Zjd n ++ (Zjd n).map (· ++ [(n:Int)])
    by_cases hm:(n:Int) ∈ c
    · -- the last is n
      have key:∀ (c:List Int),c.Pairwise (· < ·)->(∀ x ∈ c,0 <= x/\x < ((n + 1:Nat):Int))->(n:Int) ∈ c->∃ c',c = c' ++ [(n:Int)]/\c'.Pairwise (· < ·)/\∀ x ∈ c',0 <= x/\x < (n:Int):=by
        intro c
        induction c with
        | nil=>intro _ _ h; simp at h
        | cons x c ih =>
          intro hp hb hm
          obtain ⟨p1,p2⟩:=List.pairwise_cons.mp hp
          by_cases hx:x = (n:Int)
          · cases c with
            | nil=>exact ⟨[],by rw [hx]; rfl,.nil,fun y hy=>by simp at hy⟩
            | cons y c =>
              have h1:=p1 y (List.mem_cons_self ..)
              have h2:=hb y (List.mem_cons_of_mem _ (List.mem_cons_self ..))
              omega
          · have hm':(n:Int) ∈ c:=by
              rcases List.mem_cons.mp hm with e | e
              · exact absurd e.symm hx
              · exact e
            obtain ⟨c',e,q1,q2⟩:=ih p2 (fun y hy=>hb y (List.mem_cons_of_mem _ hy)) hm'
            refine ⟨x :: c',by rw [e]; rfl,List.pairwise_cons.mpr ⟨fun y hy=>p1 y (by rw [e]; exact List.mem_append_left _ hy),q1⟩,fun y hy=>?_⟩
            rcases List.mem_cons.mp hy with e' | hy
            · have h1 := p1 (n : Int) hm'
              have h2:=hb x (List.mem_cons_self ..)
              rw [e']
              omega
            · exact q2 y hy
      obtain ⟨c',e,q1,q2⟩:=key c h.1 h.2 hm
      exact List.mem_append_right _ (List.mem_map.mpr ⟨c',Zkl n c' ⟨q1,q2⟩,e.symm⟩)
    · refine List.mem_append_left _ (Zkl n c ⟨h.1, fun x hx => ?_⟩)
      have h1:=h.2 x hx
      have:x ≠ (n:Int):=fun e=>hm (e ▸ hx)
      omega
theorem Zir {n:Nat} {L:List (List Int)} (hn:L.Nodup) (h:∀ c ∈ L,Cr n c):L.length <= 2 ^ n:=by
 rw [<- ZnZ n]
 exact List.Nodup.length_le_of_subset hn fun c hc=>Zkl n c (h c hc)
def Z0 (w:Wk) (c:List Int):Bool:=c.all fun s=>w.goal.contains s
def Win (w:Wk) (ls:List Int):Nat->List Int->Bool
 | 0,c=>Z0 w c
 | n + 1,c=>Z0 w c || (List.range w.deeds.length).any fun d=>Zak w c d && (Zl w ls (Zs w c d)).all fun p=>Win w ls n p
theorem Zh6 {w:Wk} {ls:List Int}:∀ (n:Nat) (c:List Int),Win w ls n c = true->Win w ls (n + 1) c = true
  | 0, c, h => by
    show (Z0 w c || _) = true
    rw [show Z0 w c = true from h]
    rfl
  | n + 1, c, h => by
    have h':(Z0 w c || (List.range w.deeds.length).any fun d=>Zak w c d && (Zl w ls (Zs w c d)).all fun p=>Win w ls n p) = true:=h
    show (Z0 w c || (List.range w.deeds.length).any fun d=>Zak w c d && (Zl w ls (Zs w c d)).all fun p=>Win w ls (n + 1) p) = true
    rw [Bool.or_eq_true] at h' ⊢
    rcases h' with h' | h'
    · exact .inl h'
    · right
      obtain ⟨d,hd,hq⟩:=List.any_eq_true.mp h'
      rw [Bool.and_eq_true] at hq
      refine List.any_eq_true.mpr ⟨d,hd,?_⟩
      rw [Bool.and_eq_true]
      exact ⟨hq.1,List.all_eq_true.mpr fun p hp=>Zh6 n p (List.all_eq_true.mp hq.2 p hp)⟩
theorem Zhe {w:Wk} {ls:List Int} {n m:Nat} (h:n <= m) {c:List Int} (q:Win w ls n c = true):Win w ls m c = true:=by
 induction h with
 | refl=>exact q
 | step _ ih=>exact Zh6 _ _ ih
def Zbu (w:Wk) (ls:List Int) (L:List (List Int)):Prop:=∀ c ∈ L,∀ d:Nat,d < w.deeds.length->Zak w c d = true->∀ p ∈ Zl w ls (Zs w c d),p ∈ L
theorem Zib {w:Wk} {ls:List Int} {L:List (List Int)} (hL:Zbu w ls L) {n:Nat} (h:∀ c ∈ L,Win w ls (n + 1) c = true->Win w ls n c = true):∀ (m:Nat),∀ c ∈ L,Win w ls m c = true->Win w ls n c = true
  | 0,c,_,q=>Zhe (Nat.zero_le n) q
  | m + 1, c, hc, q => by
    refine h c hc ?_
    have q':(Z0 w c || (List.range w.deeds.length).any fun d=>Zak w c d && (Zl w ls (Zs w c d)).all fun p=>Win w ls m p) = true:=q
    show (Z0 w c || (List.range w.deeds.length).any fun d=>Zak w c d && (Zl w ls (Zs w c d)).all fun p=>Win w ls n p) = true
    rw [Bool.or_eq_true] at q' ⊢
    rcases q' with q' | q'
    · exact .inl q'
    · right
      obtain ⟨d,hd,hq⟩:=List.any_eq_true.mp q'
      rw [Bool.and_eq_true] at hq
      refine List.any_eq_true.mpr ⟨d,hd,?_⟩
      rw [Bool.and_eq_true]
      exact ⟨hq.1,List.all_eq_true.mpr fun p hp=>Zib hL h m p (hL c hc d (List.mem_range.mp hd) hq.1 p hp) (List.all_eq_true.mp hq.2 p hp)⟩
theorem Zdh {α:Type} {p q:α->Bool}:∀ {L:List α},(∀ x ∈ L,p x = true->q x = true)->(∃ x ∈ L,q x = true/\p x = false)->(L.filter p).length < (L.filter q).length
  | [],_,⟨x,hx,_⟩=>by simp at hx
  | y :: L, h, ⟨x, hx, h1, h2⟩ => by
    have le:∀ {L:List α},(∀ x ∈ L,p x = true->q x = true)->(L.filter p).length <= (L.filter q).length:=by
      intro L
      induction L with
      | nil=>intro _; exact Nat.le_refl _
      | cons z L ih =>
        intro h
        have:=ih fun x hx=>h x (List.mem_cons_of_mem _ hx)
        have hz:=h z (List.mem_cons_self ..)
        rw [List.filter_cons,List.filter_cons]
        cases hp:p z with
        | true=>rw [hz hp]; simpa using this
        | false =>
          cases q z
          · simpa using this
          · simp; omega
    have hL:=fun x hx=>h x (List.mem_cons_of_mem y hx)
    have hy:=h y (List.mem_cons_self ..)
    rw [List.filter_cons,List.filter_cons]
    rcases List.mem_cons.mp hx with e | hx
    · subst e
      rw [h2,h1]
      have:=le hL
      simp; omega
    · have := Zdh hL ⟨x, hx, h1, h2⟩
      cases hp:p y with
      | true=>rw [hy hp]; simpa using this
      | false =>
        cases q y
        · simpa using this
        · simp; omega
theorem Zla {w:Wk} {ls:List Int} {L:List (List Int)} (hL:Zbu w ls L) {m:Nat} {c:List Int} (hc:c ∈ L) (q:Win w ls m c = true):Win w ls L.length c = true:=by
  have key:∀ t:Nat,(∃ n,n <= t/\∀ c ∈ L,Win w ls (n + 1) c = true->Win w ls n c = true)\/t + 1 <= (L.filter fun c=>Win w ls (t + 1) c).length:=by
    intro t
    induction t with
    | zero =>
      by_cases h:∀ c ∈ L,Win w ls 1 c = true->Win w ls 0 c = true
      · exact .inl ⟨0,Nat.le_refl 0,h⟩
      · right
        have h':∃ c ∈ L,Win w ls 1 c = true/\Win w ls 0 c = false:=by
          apply Classical.byContradiction
          intro z
          apply h
          intro c hc h1
          cases h0:Win w ls 0 c with
          | true=>rfl
          | false=>exact absurd ⟨c,hc,h1,h0⟩ z
        have:=Zdh (p:=fun c=>Win w ls 0 c) (q:=fun c=>Win w ls 1 c) (L:=L) (fun x _ hx=>Zh6 0 x hx) h'
        show 1 <= (L.filter fun c=>Win w ls 1 c).length
        omega
    | succ t ih =>
      rcases ih with ⟨n,hn,hs⟩ | ih
      · exact .inl ⟨n,by omega,hs⟩
      · by_cases h : ∀ c ∈ L, Win w ls (t + 1 + 1) c = true -> Win w ls (t + 1) c = true
        · exact .inl ⟨t + 1,Nat.le_refl _,h⟩
        · right
          have h':∃ c ∈ L,Win w ls (t + 1 + 1) c = true/\Win w ls (t + 1) c = false:=by
            apply Classical.byContradiction
            intro z
            apply h
            intro c hc h1
            cases h0:Win w ls (t + 1) c with
            | true=>rfl
            | false=>exact absurd ⟨c,hc,h1,h0⟩ z
          have:=Zdh (p:=fun c=>Win w ls (t + 1) c) (q:=fun c=>Win w ls (t + 1 + 1) c) (L:=L) (fun x _ hx=>Zh6 (t + 1) x hx) h'
          omega
  rcases key L.length with ⟨n,hn,hs⟩ | h
  · exact Zhe hn (Zib hL hs m c hc q)
  · have := List.length_filter_le (fun c => Win w ls (L.length + 1) c) L
    omega
end HG5
namespace HG5
open PySem HM HG
def ZmE:SF :=
 (ZH (Ze0 (Zeo (Zb 0) .int) (Zsg (Zeo (Zb 0) .bool))))
def Zb4:List D->Option D:=fnOf 1 1 ZmE
def Zdl:SF :=
 (Zu (Z9 5 (Zp ZaS (Zc (Zb 0) (Zc (eIx (Zk 2) (Zb 3)) (Zc (Zb 4) Zm)))))
  (sIf (tV (op2 ZjF (Zb 5) (eC .none))) (Zu (Zac 6 (Zdg (Z1 (bOf (Zp Zah (Zc (Zb 0) (Zc (Zb 1) (Zc (Zb 5) Zm)))))) ZV (Zb 1)))
  (Zg4 6 (Zac 2 (Zlp (Zk 2) (ZT (Z1 (bOf (Zb 6))) (tV (ZhV (Zb 0) (Zk 3))) (Zb 0)))))) Zai))
def Zet:SF :=
 (Zu (Za9 4 (ZbV (ZaB (bOf (eIx (Zk 0) (eC (.int 1)))))) Zdl)
  (Z9 3 (op2 Zbc (Zb 3) (eC (.int 1)))))
def Zgx:SF :=
 (Zu (Zac 2 (Zdg (Z1 (bOf (Zp Zah (Zc (Zb 0) (Zc (Zb 1) (Zc (eIx (Zk 0) (eC (.int 3))) Zm)))))) ZV (Zb 1)))
  (Zu (Z9 3 (eC (.int 0)))
  (Zu (ZkH 100000 (tV (op2 gLt (Zb 3) (ZaB (Zk 2)))) Zet)
  (Zg4 2 (ZH (Zb 2))))))
def Zff:List D->Option D:=fnOf 2 7 Zgx
def ZiQ:SF :=
 (ZH (op2 gEq (eOf (ZT (Z1 (bOf (Zb 1))) (tV (ZhT (Zb 0) (bOf (eIx (Zk 1) (eC (.int 4)))))) (Zb 0))) (eOf (ZfR Zm))))
def Zaz:List D->Option D:=fnOf 2 2 ZiQ
def ZZ:SF :=
 (Zu (Z9 5 (Zp ZaS (Zc (Zb 0) (Zc (Zb 2) (Zc (Zb 4) Zm)))))
  (sIf (tV (op2 ZjF (Zb 5) (eC .none))) (sIf (tV (op2 gEq (eOf (Zdg (Z1 (bOf (Zp Zah (Zc (Zb 0) (Zc (Zb 1) (Zc (Zb 5) Zm)))))) (tV (Zck (Zb 1) (Zk 5))) (Zb 1))) (eOf (ZfR Zm)))) (ZH (eC (.bool true))) Zai) Zai))
def Zbl:SF :=
 (Zu (Za9 4 (ZbV (ZaB (bOf (eIx (Zk 0) (eC (.int 1)))))) ZZ)
  (ZH (eC (.bool false))))
def ZbP:List D->Option D:=fnOf 4 6 Zbl
def Zc9:SF :=
 (ZhE 3 (Zb 4) (Zb 5))
def Za4:SF :=
 (sIf (Zhz (tV (Zck (Zb 4) (Zk 3))) (tV (Znm ZbP (Zc (Zb 0) (Zc (Zb 1) (Zc (Zb 4) (Zc (Zgz (Zk 3)) Zm))))))) (Ze8 6 (Zb 4)) Zai)
def Zcg:SF :=
 (Zu (Zac 6 (ZfR Zm))
  (Zu (Za9 4 (Z1 (bOf (Zb 2))) Za4)
  (Zg4 6 (Za9 4 (Z1 (bOf (Zb 6))) Zc9))))
def Zbp:SF :=
 (sIf (tV (Zp Zaz (Zc (Zb 0) (Zc (Zb 4) Zm)))) (ZhE 3 (Zb 4) (eC (.int 0))) Zai)
def Zfg:SF :=
 (Zu (Z9 2 (Zp Zff (Zc (Zb 0) (Zc (Zb 1) Zm))))
  (Zu (Zac 3 fDt)
  (Zu (Za9 4 (Z1 (bOf (Zb 2))) Zbp)
  (Zu (Za9 5 (Zjy (eC (.int 1)) (op2 Zbc (ZaB (Zk 2)) (eC (.int 1)))) Zcg)
  (Zg4 3 (ZH (Zb 3)))))))
def Zdz:List D->Option D:=fnOf 2 7 Zfg
def Zgk:SF :=
 (Zu (Z9 2 (Zp Zdz (Zc (Zb 0) (Zc (Zb 1) Zm))))
  (Zu (Zac 3 (Zdg (Z1 (bOf (Zp Zah (Zc (Zb 0) (Zc (Zb 1) (Zc (eIx (Zk 0) (eC (.int 3))) Zm)))))) ZV (Zji (Zk 4) (Zb 1) (eC (.int 999)))))
  (Zu (sIf (tV (op2 gEq (Zis (Zk 3)) (eC (.int 999)))) (ZH (eC .none)) Zai)
  (ZH (Zis (Zk 3))))))
def Zch:List D->Option D:=fnOf 2 4 Zgk
end HG5
namespace HG5
open PySem HM HG HG4
theorem Zsr {a b:List Int} (h:tupI a = tupI b):a = b:=by
 injection h with h
 have:=congrArg Zbk h
 rw [Zcb,Zcb] at this
 exact Option.some.inj this
theorem ZlK (p:List Int):Zaf (tupI p) = true:=Zhb (Zdp 0 p) (by decide)
theorem ZtJ (a b:List Int):PyData.eqv (tupI a) (tupI b) = (a == b):=by
 have h:=ZjE 1 (tupI a) (tupI b) (Zdp 0 a) ⟨1,Zdp 0 b⟩
 apply Bool.eq_iff_iff.mpr
 rw [h,beq_iff_eq]
 exact ⟨Zsr,fun e=>by rw [e]⟩
theorem Zsu (L:List (List Int)) (p:List Int):Znh (L.map tupI) (tupI p) = some (L.contains p):=by
  unfold Znh
  have h1:(L.map tupI).all Zaf = true:=List.all_eq_true.mpr fun d hd=>by
    obtain ⟨c,_,rfl⟩:=List.mem_map.mp hd
    exact ZlK c
  rw [ZlK,h1,if_pos (by rfl)]
  congr 1
  induction L with
  | nil=>rfl
  | cons c L ih =>
    rw [List.map_cons,List.any_cons,ZtJ,List.contains_cons,ih (by
      rw [List.map_cons,List.all_cons,Bool.and_eq_true] at h1
      exact h1.2)]
    rw [show (c == p) = (p == c) from Bool.eq_iff_iff.mpr ⟨fun h=>beq_iff_eq.mpr (beq_iff_eq.mp h).symm,fun h=>beq_iff_eq.mpr (beq_iff_eq.mp h).symm⟩]
inductive Rch (w:Wk) (ls:List Int):List Int->Prop where
 | beg {p:List Int} (h:p ∈ Zl w ls w.beg):Rch w ls p
 | step {c p:List Int} {d:Nat} (r:Rch w ls c) (hd:d < w.deeds.length) (hc:Zak w c d = true) (h:p ∈ Zl w ls (Zs w c d)):Rch w ls p
structure ZfC (w:Wk) (ls:List Int) (L:List (List Int)):Prop where
 nd:L.Nodup
 cr:∀ c ∈ L,Cr w.many c/\c ≠ []
 rch:∀ c ∈ L,Rch w ls c
theorem ZfC.len {w:Wk} {ls:List Int} {L:List (List Int)} (I:ZfC w ls L) (h7:w.many <= 7):L.length <= 128:=by
 have h1:=Zir I.nd fun c hc=>(I.cr c hc).1
 have h2:2 ^ w.many <= 2 ^ 7:=Nat.pow_le_pow_right (by decide) h7
 have h3:2 ^ 7 = 128:=rfl
 omega
theorem Zrt {w:Wk} {c:List Int} {d:Int} (h0:c ≠ []) (hc:Zak w c d = true):Zs w c d ≠ []:=by
  cases c with
  | nil=>exact absurd rfl h0
  | cons s c =>
    unfold Zak at hc
    have h1:=List.all_eq_true.mp hc s (List.mem_cons_self ..)
    have h2:0 < (ZbI w d s).length:=by simpa using h1
    cases hr:ZbI w d s with
    | nil=>rw [hr] at h2; simp at h2
    | cons x xs=>exact List.ne_nil_of_mem (Ztj.mpr ⟨s,List.mem_cons_self ..,by rw [hr]; exact List.mem_cons_self ..⟩)
def Zcz (w:Wk) (ls c:List Int) (L:List (List Int)) (d:Nat):List (List Int):=if Zak w c d then L ++ (Zl w ls (Zs w c d)).filter (fun p=>!L.contains p) else L
theorem ZqP {w:Wk} {ls c:List Int} {L:List (List Int)} {d:Nat}:∃ M,Zcz w ls c L d = L ++ M:=by
 unfold Zcz
 split
 ·exact ⟨_,rfl⟩
 ·exact ⟨[],by simp⟩
theorem Zq0 {w:Wk} {ls c:List Int} {L:List (List Int)} {d:Nat} (h:Zak w c d = true) {p:List Int} (hp:p ∈ Zl w ls (Zs w c d)):p ∈ Zcz w ls c L d:=by
 unfold Zcz
 rw [if_pos h]
 by_cases q:p ∈ L
 ·exact List.mem_append_left _ q
 ·refine List.mem_append_right _ (List.mem_filter.mpr ⟨hp,?_⟩)
  simp [q]
theorem Zq1 {w:Wk} (hv:Wk.V w) {ls c:List Int} {L:List (List Int)} {d:Nat} (I:ZfC w ls L) (hc:c ∈ L) (hd:d < w.deeds.length):ZfC w ls (Zcz w ls c L d):=by
 unfold Zcz
 split
 ·rename_i can
  have hl:=Zdq hv (I.cr c hc).1 (show (0:Int) <= (d:Int) by omega) (by omega)
  refine ⟨?_,fun p hp=>?_,fun p hp=>?_⟩
  ·rw [List.nodup_append]
   refine ⟨I.nd,(Zj3 w ls _).filter _,fun a ha b hb e=>?_⟩
   subst e
   have:=(List.mem_filter.mp hb).2
   simp [ha] at this
  ·rcases List.mem_append.mp hp with hp | hp
   ·exact I.cr p hp
   ·have:=Ze5 hl (List.mem_filter.mp hp).1
    exact ⟨this.1,this.2.1⟩
  ·rcases List.mem_append.mp hp with hp | hp
   ·exact I.rch p hp
   ·exact .step (I.rch c hc) hd can (List.mem_filter.mp hp).1
 ·exact I
section
variable {w:Wk} (hv:Wk.V w) (h7:w.many <= 7) {ls:List Int} (hl:Cr w.looks.length ls)
include hv h7 hl
theorem Zsx {L:List (List Int)} (I:ZfC w ls L) {at_:Nat} {c:List Int} (hc:L[at_]? = some c) {d:Nat} (hd:d < w.deeds.length) (o5 o6:Option B) :
    ∃ p5 p6,Zdl [some (.pl w.d),some (.pl (tupI ls)),some (.ol (L.map tupI)),some (.pl (dN at_)),some (.pl (dN d)),o5,o6] = some (.nx [some (.pl w.d),some (.pl (tupI ls)),some (.ol ((Zcz w ls c L d).map tupI)),some (.pl (dN at_)),some (.pl (dN d)),p5,p6]):=by
  have hm:c ∈ L:=List.mem_of_getElem? hc
  obtain ⟨cr,ne⟩:=I.cr c hm
  have hat:atD (L.map tupI) (at_:Int) = some (tupI c):=Zdr (by rw [List.getElem?_map,hc]; rfl)
  have hled:=Zid hv h7 cr (show (0:Int) <= (d:Int) by omega) (by omega)
  have hlen:=I.len h7
  unfold ZnW at hled
  cases can:Zak w c d with
  | false =>
    rw [can] at hled
    refine ⟨some (.pl .none),o6,?_⟩
    unfold Zcz
    rw [can]
    simp [Zdl,hat,hled]
  | true =>
    rw [can] at hled
    have lc:=Zdq hv cr (show (0:Int) <= (d:Int) by omega) (by omega)
    have hs:=ZdZ hv hl lc
    have hsn:(Zt w ls (Zs w c d)).length <= 8:=by
      unfold Zt
      rw [List.length_map,(Za8 _).length_eq,List.length_map]
      have:=ZgF _ _ _ (ZcZ (ZA w ls) (Zs w c d))
      have:=lc.len
      omega
    have hsb:(Zt w ls (Zs w c d)).length < 1000000:=by omega
    have hpn:(Zl w ls (Zs w c d)).length <= 8:=by unfold Zl; rw [List.length_map]; exact hsn
    have e1:∀ r:HM.Env,ZcV ZV (Zb 1) r ((Zt w ls (Zs w c d)).map ZK) = some ((Zl w ls (Zs w c d)).map tupI):=fun r=>by
      have e:=Ze9 (c:=ZV) (e:=Zb 1) (r:=r) (fun p:List Int × List Int=>tupI p.1) (fun p=>tupI p.2) (fun _=>true) (fun p=>tupI p.2) (Zt w ls (Zs w c d)) (fun p _=>rfl) (fun p _ _=>by simp)
      rw [List.filter_eq_self.mpr fun _ _=>rfl] at e
      unfold Zl
      rw [List.map_map]
      exact e
    have e2:∀ r:HM.Env,r[2]? = some (some (.ol (L.map tupI)))->ZaM (tV (ZhV (Zb 0) (Zk 3))) (Zb 0) r ((Zl w ls (Zs w c d)).map tupI) = some (((Zl w ls (Zs w c d)).filter fun p=>!L.contains p).map tupI):=fun r r2=>by
      rw [Zcw tupI (fun p=>!L.contains p) tupI]
      · intro p _
        simp [r2,Zsu,-List.contains_eq_mem]
      · intro p _ _
        simp
    have hfl:=List.length_filter_le (fun p=>!L.contains p) (Zl w ls (Zs w c d))
    have hbig:L.length + ((Zl w ls (Zs w c d)).filter fun p=>!L.contains p).length < 1000000:=by omega
    have hpb:(Zl w ls (Zs w c d)).length < 1000000:=by omega
    refine ⟨some (.pl (tupI (Zs w c d))),some (.pl (.list ((Zl w ls (Zs w c d)).map tupI))),?_⟩
    unfold Zcz
    rw [can]
    simp [Zdl,hat,hled,hs,hsb,e1,hpb,e2,hbig,-List.contains_eq_mem]
theorem ZlW {at_:Nat} {c:List Int}:∀ (ds:List Nat) (M:List (List Int)) (o4 o5 o6:Option B),ZfC w ls M->M[at_]? = some c->(∀ d ∈ ds,d < w.deeds.length) ->
    ∃ p4 p5 p6,Z2 4 Zdl (ds.map dN) [some (.pl w.d),some (.pl (tupI ls)),some (.ol (M.map tupI)),some (.pl (dN at_)),o4,o5,o6] = some (.nx [some (.pl w.d),some (.pl (tupI ls)),some (.ol ((ds.foldl (Zcz w ls c) M).map tupI)),some (.pl (dN at_)),p4,p5,p6]) /\
      ZfC w ls (ds.foldl (Zcz w ls c) M)/\(∃ N,ds.foldl (Zcz w ls c) M = M ++ N)/\∀ d ∈ ds,Zak w c d = true->∀ p ∈ Zl w ls (Zs w c d),p ∈ ds.foldl (Zcz w ls c) M
  | [],M,o4,o5,o6,I,hc,_=>⟨o4,o5,o6,rfl,I,⟨[],by simp⟩,fun d hd=>by simp at hd⟩
  | d :: ds, M, o4, o5, o6, I, hc, hds => by
    have hm:c ∈ M:=List.mem_of_getElem? hc
    have hd:=hds d (List.mem_cons_self ..)
    obtain ⟨p5,p6,e⟩:=Zsx hv h7 hl I hc hd o5 o6
    obtain ⟨N1,eN1⟩:=ZqP (w:=w) (ls:=ls) (c:=c) (L:=M) (d:=d)
    have hc':(Zcz w ls c M d)[at_]? = some c:=by
      rw [eN1,List.getElem?_append_left (List.getElem?_eq_some_iff.mp hc).1]
      exact hc
    obtain ⟨q4,q5,q6,f,I',⟨N2,eN2⟩,hall⟩:=ZlW ds (Zcz w ls c M d) (some (.pl (dN d))) p5 p6 (Zq1 hv I hm hd) hc' fun x hx=>hds x (List.mem_cons_of_mem _ hx)
    refine ⟨q4,q5,q6,?_,I',⟨N1 ++ N2,?_⟩,fun x hx can p hp=>?_⟩
    · rw [List.map_cons, List.foldl_cons, <- f]
      show (match Zdl [some (.pl w.d),some (.pl (tupI ls)),some (.ol (M.map tupI)),some (.pl (dN at_)),some (.pl (dN d)),o5,o6] with | some (.nx r')=>_ | some (.ct r')=>_ | some (.bk r')=>_ | some (.rt d)=>_ | none=>_) = _
      rw [e]
    · rw [List.foldl_cons,eN2,eN1,List.append_assoc]
    · rw [List.foldl_cons]
      rcases List.mem_cons.mp hx with e' | hx
      · subst e'
        rw [eN2]
        exact List.mem_append_left _ (Zq0 can hp)
      · exact hall x hx can p hp
theorem ZkP:∀ (fuel at_:Nat) (L:List (List Int)) (o4 o5 o6:Option B),ZfC w ls L->at_ <= L.length->129 <= at_ + fuel->(∀ i c,i < at_->L[i]? = some c->∀ d:Nat,d < w.deeds.length->Zak w c d = true->∀ p ∈ Zl w ls (Zs w c d),p ∈ L) ->
    ∃ L' p3 p4 p5 p6,ZaE (tV (op2 gLt (Zb 3) (ZaB (Zk 2)))) Zet fuel [some (.pl w.d),some (.pl (tupI ls)),some (.ol (L.map tupI)),some (.pl (dN at_)),o4,o5,o6] = some (.nx [some (.pl w.d),some (.pl (tupI ls)),some (.ol (L'.map tupI)),p3,p4,p5,p6]) /\
      ZfC w ls L'/\(∃ N,L' = L ++ N)/\Zbu w ls L'
  | 0, at_, L, o4, o5, o6, I, h1, h2, _ => by
    have:=I.len h7
    omega
  | fuel + 1, at_, L, o4, o5, o6, I, h1, h2, hdone => by
    by_cases hlt:at_ < L.length
    · have hok : okR (w.deeds.length : Int) = true := Zc2 (by have := hv.d2; omega)
      have hdb:w.deeds.length < 1000000:=by have:=hv.d2; omega
      obtain ⟨c,hc⟩:∃ c,L[at_]? = some c:=⟨_,List.getElem?_eq_getElem hlt⟩
      obtain ⟨p4,p5,p6,f,I',⟨N,eN⟩,hall⟩:=ZlW hv h7 hl (at_:=at_) (c:=c) (List.range w.deeds.length) L o4 o5 o6 I hc fun d hd=>List.mem_range.mp hd
      generalize hM:(List.range w.deeds.length).foldl (Zcz w ls c) L = M at *
      have body:Zet [some (.pl w.d),some (.pl (tupI ls)),some (.ol (L.map tupI)),some (.pl (dN at_)),o4,o5,o6] = some (.nx [some (.pl w.d),some (.pl (tupI ls)),some (.ol (M.map tupI)),some (.pl (dN (at_ + 1))),p4,p5,p6]):=by
        have i0:Zbb (.pl w.d) = some [PyData.int w.many,.tuple (w.deeds.map ZS),.tuple (w.looks.map tupI),tupI w.beg,tupI w.goal]:=rfl
        simp [Zet,i0,hok,Zaa,hdb,-Zbb]
        simp [hok,Zaa,hdb,f]
      obtain ⟨L',q3,q4,q5,q6,g,J,⟨N',eN'⟩,hcl⟩:=ZkP fuel (at_ + 1) M p4 p5 p6 I' (by rw [eN,List.length_append]; omega) (by omega) (fun i c' hi hc' d hd can p hp=>by
        by_cases e:i = at_
        · subst e
          rw [eN,List.getElem?_append_left hlt,hc] at hc'
          cases hc'
          exact hall d (List.mem_range.mpr hd) can p hp
        · have hi' : i < at_ := by omega
          rw [eN,List.getElem?_append_left (by omega)] at hc'
          rw [eN]
          exact List.mem_append_left _ (hdone i c' hi' hc' d hd can p hp))
      refine ⟨L',q3,q4,q5,q6,?_,J,⟨N ++ N',by rw [eN',eN,List.append_assoc]⟩,hcl⟩
      have ht:(tV (op2 gLt (Zb 3) (ZaB (Zk 2)))) [some (.pl w.d),some (.pl (tupI ls)),some (.ol (L.map tupI)),some (.pl (dN at_)),o4,o5,o6] = some true:=by
        simp [hlt]
      unfold ZaE
      rw [ht]
      dsimp only
      rw [body]
      exact g
    · have e : at_ = L.length := by omega
      have ht:(tV (op2 gLt (Zb 3) (ZaB (Zk 2)))) [some (.pl w.d),some (.pl (tupI ls)),some (.ol (L.map tupI)),some (.pl (dN at_)),o4,o5,o6] = some false:=by
        simp [hlt]
      refine ⟨L,some (.pl (dN at_)),o4,o5,o6,?_,I,⟨[],by simp⟩,fun c hc d hd can p hp=>?_⟩
      · unfold ZaE
        rw [ht]
      · obtain ⟨i, hi, hq⟩ := List.getElem_of_mem hc
        exact hdone i c (by omega) (by rw [List.getElem?_eq_getElem hi,hq]) d hd can p hp
theorem Zpz:∃ L,Zff [w.d,tupI ls] = some (.list (L.map tupI))/\ZfC w ls L/\Zbu w ls L/\∀ p ∈ Zl w ls w.beg,p ∈ L:=by
 have hs:=ZdZ hv hl hv.bc
 have hbl:=hv.bc.len
 have hsb:(Zt w ls w.beg).length < 1000000:=by
  unfold Zt
  rw [List.length_map,(Za8 _).length_eq,List.length_map]
  have:=ZgF _ _ _ (ZcZ (ZA w ls) w.beg)
  omega
 have e1:∀ r:HM.Env,ZcV ZV (Zb 1) r ((Zt w ls w.beg).map ZK) = some ((Zl w ls w.beg).map tupI):=fun r=>by
  have e:=Ze9 (c:=ZV) (e:=Zb 1) (r:=r) (fun p:List Int × List Int=>tupI p.1) (fun p=>tupI p.2) (fun _=>true) (fun p=>tupI p.2) (Zt w ls w.beg) (fun p _=>rfl) (fun p _ _=>by simp)
  rw [List.filter_eq_self.mpr fun _ _=>rfl] at e
  unfold Zl
  rw [List.map_map]
  exact e
 have I0:ZfC w ls (Zl w ls w.beg):=⟨Zj3 w ls w.beg,fun c hc=>⟨(Ze5 hv.bc hc).1,(Ze5 hv.bc hc).2.1⟩,fun c hc=>.beg hc⟩
 obtain ⟨L,p3,p4,p5,p6,g,I,⟨N,eN⟩,hcl⟩:=ZkP hv h7 hl 100000 0 (Zl w ls w.beg) none none none I0 (Nat.zero_le _) (by omega) (fun i c hi=>by omega)
 refine ⟨L,?_,I,hcl,fun p hp=>by rw [eN]; exact List.mem_append_left _ hp⟩
 have i0:Zbb (.pl w.d) = some [PyData.int w.many,.tuple (w.deeds.map ZS),.tuple (w.looks.map tupI),tupI w.beg,tupI w.goal]:=rfl
 have g':ZaE (tV (op2 gLt (Zb 3) (ZaB (Zk 2)))) Zet 100000 [some (.pl w.d),some (.pl (tupI ls)),some (.ol ((Zl w ls w.beg).map tupI)),some (.pl (.int 0)),none,none,none] = some (.nx [some (.pl w.d),some (.pl (tupI ls)),some (.ol (L.map tupI)),p3,p4,p5,p6]):=g
 show Zbs (Zgx [some (.pl w.d),some (.pl (tupI ls)),none,none,none,none,none]) = _
 have e':Zgx [some (.pl w.d),some (.pl (tupI ls)),none,none,none,none,none] = some (.rt (.list (L.map tupI))):=by
  unfold Zgx
  refine ZQ (P:=fun q=>q = _) (r':=[some (.pl w.d),some (.pl (tupI ls)),some (.ol ((Zl w ls w.beg).map tupI)),none,none,none,none]) (by simp [i0,hs,hsb,e1,-Zbb]; simp [hs,hsb,e1]) ?_
  refine ZQ (P:=fun q=>q = _) (r':=[some (.pl w.d),some (.pl (tupI ls)),some (.ol ((Zl w ls w.beg).map tupI)),some (.pl (.int 0)),none,none,none]) (by simp) ?_
  refine ZQ (P:=fun q=>q = _) (r':=[some (.pl w.d),some (.pl (tupI ls)),some (.ol (L.map tupI)),p3,p4,p5,p6]) g' ?_
  simp
 rw [e']
 rfl
end
end HG5
namespace HG5
open PySem HM HG HG4
theorem Zni {α:Type} (ns:List Int):gEq (.list (ns.map dI)) (.list []) = some (.bool ns.isEmpty):=by
 cases ns with
 | nil=>exact Zie (Zke 0 []) (by decide)
 | cons n ns=>exact Znl (Zke 0 (n :: ns)) (Zke 0 []) (by decide) (by decide) (by simp)
theorem ZrM (L:List (List Int)):gEq (.list (L.map tupI)) (.list []) = some (.bool L.isEmpty):=by
 have h:∀ L:List (List Int),nbD 2 (.list (L.map tupI)) = true:=fun L=>ZqV fun d hd=>by
  obtain ⟨c,_,rfl⟩:=List.mem_map.mp hd
  exact Zdp 0 c
 cases L with
 | nil=>exact Zie (h []) (by decide)
 | cons c L=>exact Znl (h (c :: L)) (h []) (by decide) (by decide) (by simp)
theorem filter_empty {α:Type} (p:α->Bool) (L:List α):(L.filter fun x=>!p x).isEmpty = L.all p:=by
  induction L with
  | nil=>rfl
  | cons x L ih =>
    rw [List.filter_cons,List.all_cons]
    cases p x with
    | true=>simpa using ih
    | false=>rfl
theorem ZiY {w:Wk} (hv:Wk.V w) {c:List Int} (hc:c.length < 1000):Zaz [w.d,tupI c] = some (.bool (Z0 w c)):=by
 have hb:c.length < 1000000:=by omega
 have i0:Zbb (.pl w.d) = some [PyData.int w.many,.tuple (w.deeds.map ZS),.tuple (w.looks.map tupI),tupI w.beg,tupI w.goal]:=rfl
 have e:∀ r:HM.Env,r[0]? = some (some (.pl w.d))->ZaM (tV (ZhT (Zb 0) (bOf (eIx (Zk 1) (eC (.int 4)))))) (Zb 0) r (c.map dI) = some ((c.filter fun s=>!w.goal.contains s).map dI):=fun r r0=>by
  rw [Zcw dI (fun s=>!w.goal.contains s) dI]
  ·intro s _
   simp [r0,i0,Zne,Zcb,-Zbb,-List.contains_eq_mem]
   simp [Zne,Zcb,-List.contains_eq_mem]
  ·intro s _ _
   simp
 have g:=Zni (α:=Int) (c.filter fun s=>!w.goal.contains s)
 rw [filter_empty (fun s=>w.goal.contains s) c] at g
 simp [Zaz,ZiQ,hb,e,g,Z0,-gEq,-List.contains_eq_mem]
abbrev Tb:=List (List Int × Int)
def encM (M:Tb):List (List Ky × D):=M.map fun p=>(Z8 p.1,dI p.2)
theorem Zc3 (M:Tb) (k:List Int):Ze (encM M) (Z8 k) = (Ze M k).map dI:=by
 unfold Ze encM
 rw [List.find?_map]
 have e:((fun p:List Ky × D=>decide (p.1 = Z8 k)) ∘ fun p:List Int × Int=>(Z8 p.1,dI p.2)) = fun p=>decide (p.1 = k):=by
  funext p
  simp only [Function.comp]
  exact decide_eq_decide.mpr (Zlo p.1 k)
 rw [e]
 cases M.find? fun p=>decide (p.1 = k) <;> rfl
theorem Zki (M:Tb) (k:List Int) (v:Int):putD (encM M) (Z8 k) (dI v) = encM (putD M k v):=by
 unfold putD
 have e1:((encM M).any fun p=>decide (p.1 = Z8 k)) = M.any fun p=>decide (p.1 = k):=by
  unfold encM
  rw [List.any_map]
  congr 1
  funext p
  simp only [Function.comp]
  exact decide_eq_decide.mpr (Zlo p.1 k)
 rw [e1]
 split
 ·unfold encM
  rw [List.map_map,List.map_map]
  refine List.map_congr_left fun p _=>?_
  simp only [Function.comp]
  by_cases h:p.1 = k
  ·rw [if_pos h,if_pos (by rw [h])]
  ·rw [if_neg h,if_neg (fun e=>h (ZeZ e))]
 ·unfold encM
  rw [List.map_append]
  rfl
theorem Zi8 (k:List Int):Ze ([]:Tb) k = none:=rfl
theorem ZbB (x:List Int) (v:Int) (M:Tb) (k:List Int):Ze ((x,v) :: M) k = if x = k then some v else Ze M k:=by
 unfold Ze
 rw [List.find?_cons]
 by_cases h:x = k <;> simp [h]
theorem Zru (x k:List Int) (v:Int) (M:Tb):Ze (putD M x v) k = if x = k then some v else Ze M k:=by
  have rep:∀ M:Tb,Ze (M.map fun p=>if p.1 = x then (p.1,v) else p) k = if x = k then (Ze M k).map (fun _=>v) else Ze M k:=by
    intro M
    induction M with
    | nil=>rw [List.map_nil,Zi8]; split <;> rfl
    | cons p M ih =>
      obtain ⟨a,b⟩:=p
      rw [List.map_cons]
      by_cases ha:a = x
      · rw [if_pos (show (a, b).1 = x from ha), ZbB, ZbB, ih]
        show (if a = k then some v else _) = _
        by_cases hk:x = k
        · rw [if_pos (by rw [ha,hk]),if_pos hk,if_pos (by rw [ha,hk])]; rfl
        · rw [if_neg (by rw [ha]; exact hk),if_neg hk,if_neg hk,if_neg (by rw [ha]; exact hk)]
      · rw [if_neg (show ¬ (a, b).1 = x from ha), ZbB, ZbB, ih]
        by_cases hk:a = k
        · rw [if_pos hk, if_pos hk]
          have:x ≠ k:=fun e=>ha (hk.trans e.symm)
          rw [if_neg this]
        · rw [if_neg hk,if_neg hk]
  have app:∀ M:Tb,Ze (M ++ [(x,v)]) k = match Ze M k with | some u=>some u | none=>if x = k then some v else none:=by
    intro M
    induction M with
    | nil=>rw [List.nil_append,ZbB,Zi8]
    | cons p M ih =>
      obtain ⟨a,b⟩:=p
      rw [List.cons_append,ZbB,ZbB,ih]
      by_cases hk:a = k
      · rw [if_pos hk,if_pos hk]
      · rw [if_neg hk,if_neg hk]
  have has:∀ M:Tb,(M.any fun p=>decide (p.1 = x)) = (Ze M x).isSome:=by
    intro M
    induction M with
    | nil=>rfl
    | cons p M ih =>
      obtain ⟨a,b⟩:=p
      rw [List.any_cons,ZbB,ih]
      by_cases ha:a = x <;> simp [ha]
  unfold putD
  split
  · rename_i h
    rw [rep]
    by_cases hk:x = k
    · subst hk
      rw [has] at h
      rw [if_pos rfl,if_pos rfl]
      obtain ⟨u,hu⟩:=Option.isSome_iff_exists.mp h
      rw [hu]; rfl
    · rw [if_neg hk,if_neg hk]
  · rename_i h
    rw [app]
    by_cases hk:x = k
    · subst hk
      rw [has] at h
      rw [if_pos rfl,if_pos rfl]
      cases hq:Ze M x with
      | none=>rfl
      | some u=>rw [hq] at h; exact absurd rfl h
    · rw [if_neg hk, if_neg hk]
      cases Ze M k <;> rfl
theorem Zju (x:List Int) (v:Int) (M:Tb):(putD M x v).length <= M.length + 1:=by
 unfold putD
 split
 ·rw [List.length_map]; omega
 ·rw [List.length_append]; exact Nat.le_refl _
def ZD (M:Tb) (p:List Int):Bool:=(Ze M p).isSome
def Zem (w:Wk) (ls c:List Int) (M:Tb):Bool:=(List.range w.deeds.length).any fun d=>Zak w c d && (Zl w ls (Zs w c d)).all fun p=>ZD M p
section
variable {w:Wk} (hv:Wk.V w) (h7:w.many <= 7) {ls:List Int} (hl:Cr w.looks.length ls)
include hv h7 hl
theorem ZoJ {c:List Int} (hc:Cr w.many c) {M:Tb} {d:Nat} (hd:d < w.deeds.length) (o5:Option B) :
    ((Zak w c d && (Zl w ls (Zs w c d)).all fun p=>ZD M p) = true->ZZ [some (.pl w.d),some (.pl (tupI ls)),some (.pl (tupI c)),some (.pl (.dict (Zo (encM M)))),some (.pl (dN d)),o5] = some (.rt (.bool true))) /\
    ((Zak w c d && (Zl w ls (Zs w c d)).all fun p=>ZD M p) = false->∃ p5,ZZ [some (.pl w.d),some (.pl (tupI ls)),some (.pl (tupI c)),some (.pl (.dict (Zo (encM M)))),some (.pl (dN d)),o5] = some (.nx [some (.pl w.d),some (.pl (tupI ls)),some (.pl (tupI c)),some (.pl (.dict (Zo (encM M)))),some (.pl (dN d)),p5])):=by
  have hled:=Zid hv h7 hc (show (0:Int) <= (d:Int) by omega) (by omega)
  unfold ZnW at hled
  cases can:Zak w c d with
  | false =>
    rw [can] at hled
    refine ⟨fun h=>(by cases h),fun _=>⟨some (.pl .none),?_⟩⟩
    simp [ZZ,hled]
  | true =>
    rw [can] at hled
    have lc:=Zdq hv hc (show (0:Int) <= (d:Int) by omega) (by omega)
    have hs:=ZdZ hv hl lc
    have hsb:(Zt w ls (Zs w c d)).length < 1000000:=by
      unfold Zt
      rw [List.length_map,(Za8 _).length_eq,List.length_map]
      have:=ZgF _ _ _ (ZcZ (ZA w ls) (Zs w c d))
      have:=lc.len
      omega
    have e1:∀ r:HM.Env,r[3]? = some (some (.pl (.dict (Zo (encM M)))))->ZcV (tV (Zck (Zb 1) (Zk 5))) (Zb 1) r ((Zt w ls (Zs w c d)).map ZK) = some (((Zl w ls (Zs w c d)).filter fun p=>!ZD M p).map tupI):=fun r r3=>by
      have e:=Ze9 (c:=tV (Zck (Zb 1) (Zk 5))) (e:=Zb 1) (r:=r) (fun p:List Int × List Int=>tupI p.1) (fun p=>tupI p.2) (fun p=>!ZD M p.2) (fun p=>tupI p.2) (Zt w ls (Zs w c d)) (fun p _=>by
        have hk:ZaV (tupI p.2) = some (Z8 p.2):=Zax p.2
        simp [r3,dec_enc,hk,Zc3,ZD]) (fun p _ _=>by simp)
      have e':((Zt w ls (Zs w c d)).map fun p:List Int × List Int=>PyData.tuple [tupI p.1,tupI p.2]) = (Zt w ls (Zs w c d)).map ZK:=rfl
      rw [<- e',e]
      unfold Zl
      rw [List.filter_map,List.map_map]
      rfl
    have g:=ZrM ((Zl w ls (Zs w c d)).filter fun p=>!ZD M p)
    rw [filter_empty] at g
    cases ha:(Zl w ls (Zs w c d)).all fun p=>ZD M p with
    | true =>
      rw [ha] at g
      refine ⟨fun _=>?_,fun h=>(by cases h)⟩
      simp [ZZ,hled,hs,hsb,e1,g,-gEq]
    | false =>
      rw [ha] at g
      refine ⟨fun h=>(by cases h),fun _=>⟨some (.pl (tupI (Zs w c d))),?_⟩⟩
      simp [ZZ,hled,hs,hsb,e1,g,-gEq]
theorem ZlA {c:List Int} (hc:Cr w.many c) {M:Tb}:∀ (ds:List Nat) (o4 o5:Option B),(∀ d ∈ ds,d < w.deeds.length) ->
    ((ds.any fun d=>Zak w c d && (Zl w ls (Zs w c d)).all fun p=>ZD M p) = true->Z2 4 ZZ (ds.map dN) [some (.pl w.d),some (.pl (tupI ls)),some (.pl (tupI c)),some (.pl (.dict (Zo (encM M)))),o4,o5] = some (.rt (.bool true))) /\
    ((ds.any fun d=>Zak w c d && (Zl w ls (Zs w c d)).all fun p=>ZD M p) = false->∃ p4 p5,Z2 4 ZZ (ds.map dN) [some (.pl w.d),some (.pl (tupI ls)),some (.pl (tupI c)),some (.pl (.dict (Zo (encM M)))),o4,o5] = some (.nx [some (.pl w.d),some (.pl (tupI ls)),some (.pl (tupI c)),some (.pl (.dict (Zo (encM M)))),p4,p5]))
  | [],o4,o5,_=>⟨fun h=>(by cases h),fun _=>⟨o4,o5,rfl⟩⟩
  | d :: ds, o4, o5, hds => by
    obtain ⟨t1,t2⟩:=ZoJ hv h7 hl hc (M:=M) (hds d (List.mem_cons_self ..)) o5
    rw [List.any_cons]
    cases hq:(Zak w c d && (Zl w ls (Zs w c d)).all fun p=>ZD M p) with
    | true =>
      refine ⟨fun _=>?_,fun h=>(by cases h)⟩
      rw [List.map_cons]
      show (match ZZ [some (.pl w.d),some (.pl (tupI ls)),some (.pl (tupI c)),some (.pl (.dict (Zo (encM M)))),some (.pl (dN d)),o5] with | some (.nx r')=>_ | some (.ct r')=>_ | some (.bk r')=>_ | some (.rt d)=>_ | none=>_) = _
      rw [t1 hq]
    | false =>
      obtain ⟨p5,e⟩:=t2 hq
      obtain ⟨i1,i2⟩:=ZlA hc ds (some (.pl (dN d))) p5 fun x hx=>hds x (List.mem_cons_of_mem _ hx)
      have e5:Z2 4 ZZ ((d :: ds).map dN) [some (.pl w.d),some (.pl (tupI ls)),some (.pl (tupI c)),some (.pl (.dict (Zo (encM M)))),o4,o5] = Z2 4 ZZ (ds.map dN) [some (.pl w.d),some (.pl (tupI ls)),some (.pl (tupI c)),some (.pl (.dict (Zo (encM M)))),some (.pl (dN d)),p5]:=by
        rw [List.map_cons]
        show (match ZZ [some (.pl w.d),some (.pl (tupI ls)),some (.pl (tupI c)),some (.pl (.dict (Zo (encM M)))),some (.pl (dN d)),o5] with | some (.nx r')=>_ | some (.ct r')=>_ | some (.bk r')=>_ | some (.rt d)=>_ | none=>_) = _
        rw [e]
      rw [e5,Bool.false_or]
      exact ⟨i1,i2⟩
theorem Zrb {c:List Int} (hc:Cr w.many c) {M:Tb}:ZbP [w.d,tupI ls,tupI c,.dict (Zo (encM M))] = some (.bool (Zem w ls c M)):=by
  obtain ⟨i1,i2⟩:=ZlA hv h7 hl hc (M:=M) (List.range w.deeds.length) none none fun d hd=>List.mem_range.mp hd
  have hok:okR (w.deeds.length:Int) = true:=Zc2 (by have:=hv.d2; omega)
  have hdb:w.deeds.length < 1000000:=by have:=hv.d2; omega
  have i0:Zbb (.pl w.d) = some [PyData.int w.many,.tuple (w.deeds.map ZS),.tuple (w.looks.map tupI),tupI w.beg,tupI w.goal]:=rfl
  show Zbs (Zbl [some (.pl w.d),some (.pl (tupI ls)),some (.pl (tupI c)),some (.pl (.dict (Zo (encM M)))),none,none]) = _
  unfold Zem
  cases h:(List.range w.deeds.length).any fun d=>Zak w c d && (Zl w ls (Zs w c d)).all fun p=>ZD M p with
  | true =>
    have e:Zbl [some (.pl w.d),some (.pl (tupI ls)),some (.pl (tupI c)),some (.pl (.dict (Zo (encM M)))),none,none] = some (.rt (.bool true)):=by
      simp [Zbl,i0,-Zbb]
      simp [hok,Zaa,hdb,i1 h]
    rw [e]; rfl
  | false =>
    obtain ⟨p4,p5,f⟩:=i2 h
    have e:Zbl [some (.pl w.d),some (.pl (tupI ls)),some (.pl (tupI c)),some (.pl (.dict (Zo (encM M)))),none,none] = some (.rt (.bool false)):=by
      simp [Zbl,i0,-Zbb]
      simp [hok,Zaa,hdb,f]
    rw [e]; rfl
end
end HG5
namespace HG5
open PySem HM HG HG4
def ZcA (w:Wk) (ls:List Int) (t:Nat) (c:List Int):Option Int:=((List.range (t + 1)).find? fun n=>Win w ls n c).map fun (n:Nat)=>(n:Int)
theorem Zc6 {w:Wk} {ls:List Int} {t:Nat} {c:List Int}:(ZcA w ls t c).isSome = Win w ls t c:=by
  unfold ZcA
  rw [Option.isSome_map]
  cases h:Win w ls t c with
  | true=>rw [List.find?_isSome]; exact ⟨t,List.mem_range.mpr (by omega),h⟩
  | false =>
    cases q:(List.range (t + 1)).find? fun n=>Win w ls n c with
    | none=>rfl
    | some n =>
      have h1:=List.find?_some q
      have h2:=List.mem_range.mp (List.mem_of_find?_eq_some q)
      rw [Zhe (show n <= t by omega) h1] at h
      cases h
theorem ZpG {w:Wk} {ls:List Int} {t:Nat} {c:List Int}:ZcA w ls (t + 1) c = match ZcA w ls t c with
    | some k=>some k
    | none=>if Win w ls (t + 1) c then some ((t + 1:Nat):Int) else none:=by
  unfold ZcA
  rw [List.range_succ (n:=t + 1),List.find?_append]
  cases (List.range (t + 1)).find? fun n=>Win w ls n c with
  | some n=>rfl
  | none =>
    show Option.map _ (Option.or none ([t + 1].find? fun n=>Win w ls n c)) = _
    rw [Option.none_or,List.find?_cons]
    cases Win w ls (t + 1) c <;> rfl
theorem Zed {w:Wk} {ls:List Int} {t:Nat} {c:List Int} {k:Int} (h:ZcA w ls t c = some k):∃ n:Nat,k = (n:Int)/\n <= t/\Win w ls n c = true/\∀ m,m < n->Win w ls m c = false:=by
  unfold ZcA at h
  obtain ⟨n,hn,rfl⟩:=Option.map_eq_some_iff.mp h
  refine ⟨n,rfl,?_,List.find?_some (p:=fun n=>Win w ls n c) hn,fun m hm=>?_⟩
  · have := List.mem_range.mp (List.mem_of_find?_eq_some hn)
    omega
  · cases q : Win w ls m c with
    | false=>rfl
    | true =>
      obtain ⟨_,as,bs,e,hno⟩:=List.find?_eq_some_iff_append.mp hn
      have hmem:m ∈ List.range (t + 1):=List.mem_range.mpr (by
        have:=List.mem_range.mp (List.mem_of_find?_eq_some hn)
        omega)
      have hp:(as ++ n :: bs).Pairwise (· < ·):=by rw [<- e]; exact List.pairwise_lt_range
      rw [e] at hmem
      rcases List.mem_append.mp hmem with h1 | h1
      · have := hno m h1
        rw [q] at this
        cases this
      · rcases List.mem_cons.mp h1 with h2 | h2
        · omega
        · have := (List.pairwise_cons.mp (List.pairwise_append.mp hp).2.1).1 m h2
          omega
structure Zik (w:Wk) (ls:List Int) (L:List (List Int)) (t:Nat) (M:Tb):Prop where
 look:∀ c,Ze M c = if c ∈ L then ZcA w ls t c else none
theorem Zgg (v:Int) (k:List Int):∀ (ms:List (List Int)) (M:Tb),Ze (ms.foldl (fun M c=>putD M c v) M) k = if k ∈ ms then some v else Ze M k
  | [],M=>by simp
  | c :: ms, M => by
    rw [List.foldl_cons,Zgg v k ms,Zru]
    by_cases h1:k ∈ ms
    · rw [if_pos h1,if_pos (List.mem_cons_of_mem _ h1)]
    · rw [if_neg h1]
      by_cases h2:c = k
      · rw [if_pos h2,if_pos (by rw [h2]; exact List.mem_cons_self ..)]
      · rw [if_neg h2, if_neg]
        intro h
        rcases List.mem_cons.mp h with e | e
        · exact h2 e.symm
        · exact h1 e
theorem Zgc (v:Int):∀ (ms:List (List Int)) (M:Tb),(ms.foldl (fun M c=>putD M c v) M).length <= M.length + ms.length
  | [],M=>Nat.le_refl _
  | c :: ms, M => by
    rw [List.foldl_cons,List.length_cons]
    have:=Zgc v ms (putD M c v)
    have:=Zju c v M
    omega
def Zaj (w:Wk) (ls:List Int) (L:List (List Int)) (M:Tb):List (List Int):=L.filter fun c=>!ZD M c && Zem w ls c M
theorem Zh7 {w:Wk} {ls:List Int} {L:List (List Int)} (hL:Zbu w ls L) {t:Nat} {M:Tb} (T:Zik w ls L t M):Zik w ls L (t + 1) ((Zaj w ls L M).foldl (fun M c=>putD M c ((t + 1:Nat):Int)) M):=by
  have hhas:∀ c ∈ L,ZD M c = Win w ls t c:=fun c hc=>by
    unfold ZD
    rw [T.look,if_pos hc,Zc6]
  refine ⟨fun c=>?_⟩
  rw [Zgg,T.look]
  by_cases hc:c ∈ L
  · rw [if_pos hc, if_pos hc, ZpG]
    have hcan:Zem w ls c M = (List.range w.deeds.length).any fun d=>Zak w c d && (Zl w ls (Zs w c d)).all fun p=>Win w ls t p:=by
      unfold Zem
      apply Bool.eq_iff_iff.mpr
      rw [List.any_eq_true,List.any_eq_true]
      constructor
      · rintro ⟨d, hd, hq⟩
        rw [Bool.and_eq_true] at hq
        refine ⟨d,hd,?_⟩
        rw [Bool.and_eq_true]
        refine ⟨hq.1,List.all_eq_true.mpr fun p hp=>?_⟩
        rw [<- hhas p (hL c hc d (List.mem_range.mp hd) hq.1 p hp)]
        exact List.all_eq_true.mp hq.2 p hp
      · rintro ⟨d, hd, hq⟩
        rw [Bool.and_eq_true] at hq
        refine ⟨d,hd,?_⟩
        rw [Bool.and_eq_true]
        refine ⟨hq.1,List.all_eq_true.mpr fun p hp=>?_⟩
        rw [hhas p (hL c hc d (List.mem_range.mp hd) hq.1 p hp)]
        exact List.all_eq_true.mp hq.2 p hp
    have hmem:c ∈ Zaj w ls L M ↔ (Win w ls t c = false/\Zem w ls c M = true):=by
      unfold Zaj
      rw [List.mem_filter,Bool.and_eq_true,hhas c hc]
      constructor
      · rintro ⟨_, h1, h2⟩
        exact ⟨by simpa using h1,h2⟩
      · rintro ⟨h1, h2⟩
        exact ⟨hc,by simp [h1],h2⟩
    cases hw:Win w ls t c with
    | true =>
      have hs:(ZcA w ls t c).isSome = true:=by rw [Zc6]; exact hw
      obtain ⟨k,hk⟩:=Option.isSome_iff_exists.mp hs
      rw [if_neg (fun h=>by rw [hw] at hmem; cases (hmem.mp h).1),hk]
    | false =>
      have hs:ZcA w ls t c = none:=by
        have:=Zc6 (w:=w) (ls:=ls) (t:=t) (c:=c)
        rw [hw] at this
        cases q:ZcA w ls t c with
        | none=>rfl
        | some k=>rw [q] at this; cases this
      have hth:Z0 w c = false:=by
        cases q:Z0 w c with
        | false=>rfl
        | true =>
          have:Win w ls t c = true:=Zhe (Nat.zero_le t) (show Win w ls 0 c = true from q)
          rw [hw] at this
          cases this
      have hwin:Win w ls (t + 1) c = Zem w ls c M:=by
        rw [hcan]
        show (Z0 w c || _) = _
        rw [hth,Bool.false_or]
      rw [hs]
      dsimp only
      rw [hwin]
      cases hcw:Zem w ls c M with
      | true=>rw [if_pos (hmem.mpr ⟨hw,hcw⟩),if_pos rfl]
      | false=>rw [if_neg (fun h=>by have:=(hmem.mp h).2; rw [hcw] at this; cases this)]; rfl
  · rw [if_neg hc, if_neg hc, if_neg]
    intro h
    exact hc (List.mem_filter.mp h).1
def M0 (w:Wk) (L:List (List Int)):Tb:=(L.filter fun c=>Z0 w c).foldl (fun M c=>putD M c 0) []
theorem Zka {w:Wk} {ls:List Int} {L:List (List Int)}:Zik w ls L 0 (M0 w L):=by
 refine ⟨fun c=>?_⟩
 unfold M0
 rw [Zgg,Zi8]
 have e:ZcA w ls 0 c = if Z0 w c then some 0 else none:=by
  unfold ZcA
  show Option.map _ (([0]:List Nat).find? fun n=>Win w ls n c) = _
  rw [List.find?_cons]
  show Option.map _ (match Win w ls 0 c with | true=>some 0 | false=>_) = _
  have:Win w ls 0 c = Z0 w c:=rfl
  rw [this]
  cases Z0 w c <;> rfl
 rw [e]
 by_cases hc:c ∈ L
 ·rw [if_pos hc]
  cases ht:Z0 w c with
  | true=>rw [if_pos (List.mem_filter.mpr ⟨hc,ht⟩)]; rfl
  | false=>rw [if_neg (fun h=>by have:=(List.mem_filter.mp h).2; rw [ht] at this; cases this)]; rfl
 ·rw [if_neg hc,if_neg fun h=>hc (List.mem_filter.mp h).1]
section
variable {w:Wk} (hv:Wk.V w) (h7:w.many <= 7) {ls:List Int} (hl:Cr w.looks.length ls) {L:List (List Int)} (I:ZfC w ls L)
include hv h7 hl I
theorem Zls (e2 e5 e6:Option B):∀ (cs:List (List Int)) (M:Tb) (o4:Option B),(∀ c ∈ cs,c ∈ L)->M.length + cs.length < 100000 ->
    ∃ p4,Z2 4 Zbp (cs.map tupI) [some (.pl w.d),some (.pl (tupI ls)),e2,some (.ot (encM M)),o4,e5,e6] = some (.nx [some (.pl w.d),some (.pl (tupI ls)),e2,some (.ot (encM ((cs.filter fun c=>Z0 w c).foldl (fun M c=>putD M c 0) M))),p4,e5,e6])
  | [],M,o4,_,_=>⟨o4,rfl⟩
  | c :: cs, M, o4, hcs, hlen => by
    rw [List.length_cons] at hlen
    have hc:=(I.cr c (hcs c (List.mem_cons_self ..))).1
    have hcl:=hc.len
    have ht:=ZiY hv (c:=c) (by omega)
    have hml:(encM M).length < 1000000:=by unfold encM; rw [List.length_map]; omega
    have hk:ZaV (tupI c) = some (Z8 c):=Zax c
    have hput:=Zki M c 0
    have hpl:=Zju c 0 M
    rw [List.map_cons,List.filter_cons]
    cases hth:Z0 w c with
    | true =>
      rw [hth] at ht
      have e:Zbp [some (.pl w.d),some (.pl (tupI ls)),e2,some (.ot (encM M)),some (.pl (tupI c)),e5,e6] = some (.nx [some (.pl w.d),some (.pl (tupI ls)),e2,some (.ot (encM (putD M c 0))),some (.pl (tupI c)),e5,e6]):=by
        rw [<- hput]
        simp [Zbp,ht,hk,hml]
      obtain ⟨p4,ih⟩:=Zls e2 e5 e6 cs (putD M c 0) (some (.pl (tupI c))) (fun x hx=>hcs x (List.mem_cons_of_mem _ hx)) (by omega)
      refine ⟨p4,?_⟩
      rw [if_pos rfl,List.foldl_cons,<- ih]
      show (match Zbp [some (.pl w.d),some (.pl (tupI ls)),e2,some (.ot (encM M)),some (.pl (tupI c)),e5,e6] with | some (.nx r')=>_ | some (.ct r')=>_ | some (.bk r')=>_ | some (.rt d)=>_ | none=>_) = _
      rw [e]
    | false =>
      rw [hth] at ht
      have e:Zbp [some (.pl w.d),some (.pl (tupI ls)),e2,some (.ot (encM M)),some (.pl (tupI c)),e5,e6] = some (.nx [some (.pl w.d),some (.pl (tupI ls)),e2,some (.ot (encM M)),some (.pl (tupI c)),e5,e6]):=by
        simp [Zbp,ht]
      obtain ⟨p4,ih⟩:=Zls e2 e5 e6 cs M (some (.pl (tupI c))) (fun x hx=>hcs x (List.mem_cons_of_mem _ hx)) (by omega)
      refine ⟨p4,?_⟩
      rw [if_neg (by simp),<- ih]
      show (match Zbp [some (.pl w.d),some (.pl (tupI ls)),e2,some (.ot (encM M)),some (.pl (tupI c)),e5,e6] with | some (.nx r')=>_ | some (.ct r')=>_ | some (.bk r')=>_ | some (.rt d)=>_ | none=>_) = _
      rw [e]
theorem Zk9 (e2 e5:Option B) (M:Tb):∀ (cs ms:List (List Int)) (o4:Option B),(∀ c ∈ cs,c ∈ L)->ms.length + cs.length < 100000 ->
    ∃ p4,Z2 4 Za4 (cs.map tupI) [some (.pl w.d),some (.pl (tupI ls)),e2,some (.ot (encM M)),o4,e5,some (.ol (ms.map tupI))] = some (.nx [some (.pl w.d),some (.pl (tupI ls)),e2,some (.ot (encM M)),p4,e5,some (.ol ((ms ++ Zaj w ls cs M).map tupI))])
  | [],ms,o4,_,_=>⟨o4,by unfold Zaj; simp [Z2]⟩
  | c :: cs, ms, o4, hcs, hlen => by
    rw [List.length_cons] at hlen
    have hc:=(I.cr c (hcs c (List.mem_cons_self ..))).1
    have hw:=Zrb hv h7 hl hc (M:=M)
    have hk:ZaV (tupI c) = some (Z8 c):=Zax c
    have hlk:=Zc3 M c
    have hmb:ms.length < 1000000:=by omega
    have em:Zaj w ls (c :: cs) M = if (!ZD M c && Zem w ls c M) = true then c :: Zaj w ls cs M else Zaj w ls cs M:=by unfold Zaj; rw [List.filter_cons]
    cases hq:(!ZD M c && Zem w ls c M) with
    | true =>
      have hq':=hq
      rw [Bool.and_eq_true] at hq'
      have h1:ZD M c = false:=by simpa using hq'.1
      have h1':Ze M c = none:=by
        have h1:(Ze M c).isSome = false:=h1
        cases q:Ze M c with
        | none=>rfl
        | some k=>rw [q] at h1; cases h1
      rw [h1'] at hlk
      have e:Za4 [some (.pl w.d),some (.pl (tupI ls)),e2,some (.ot (encM M)),some (.pl (tupI c)),e5,some (.ol (ms.map tupI))] = some (.nx [some (.pl w.d),some (.pl (tupI ls)),e2,some (.ot (encM M)),some (.pl (tupI c)),e5,some (.ol ((ms ++ [c]).map tupI))]):=by
        rw [hq'.2] at hw
        simp [Za4,hk,hlk,hw,hmb]
      obtain ⟨p4,ih⟩:=Zk9 e2 e5 M cs (ms ++ [c]) (some (.pl (tupI c))) (fun x hx=>hcs x (List.mem_cons_of_mem _ hx)) (by rw [List.length_append,List.length_singleton]; omega)
      refine ⟨p4,?_⟩
      rw [em,hq,if_pos rfl,show ms ++ c :: Zaj w ls cs M = (ms ++ [c]) ++ Zaj w ls cs M by simp,<- ih,List.map_cons]
      show (match Za4 [some (.pl w.d),some (.pl (tupI ls)),e2,some (.ot (encM M)),some (.pl (tupI c)),e5,some (.ol (ms.map tupI))] with | some (.nx r')=>_ | some (.ct r')=>_ | some (.bk r')=>_ | some (.rt d)=>_ | none=>_) = _
      rw [e]
    | false =>
      have e:Za4 [some (.pl w.d),some (.pl (tupI ls)),e2,some (.ot (encM M)),some (.pl (tupI c)),e5,some (.ol (ms.map tupI))] = some (.nx [some (.pl w.d),some (.pl (tupI ls)),e2,some (.ot (encM M)),some (.pl (tupI c)),e5,some (.ol (ms.map tupI))]):=by
        cases h1:Ze M c with
        | some k=>rw [h1] at hlk; simp [Za4,hk,hlk]
        | none =>
          have h2:ZD M c = false:=by unfold ZD; rw [h1]; rfl
          rw [h2] at hq
          have h3:Zem w ls c M = false:=by simpa using hq
          rw [h3] at hw
          rw [h1] at hlk
          simp [Za4,hk,hlk,hw]
      obtain ⟨p4,ih⟩:=Zk9 e2 e5 M cs ms (some (.pl (tupI c))) (fun x hx=>hcs x (List.mem_cons_of_mem _ hx)) (by omega)
      refine ⟨p4,?_⟩
      rw [em,hq,if_neg (by simp),<- ih,List.map_cons]
      show (match Za4 [some (.pl w.d),some (.pl (tupI ls)),e2,some (.ot (encM M)),some (.pl (tupI c)),e5,some (.ol (ms.map tupI))] with | some (.nx r')=>_ | some (.ct r')=>_ | some (.bk r')=>_ | some (.rt d)=>_ | none=>_) = _
      rw [e]
end
theorem ZqN (e0 e1 e2 e6:Option B) (v:Int):∀ (ms:List (List Int)) (M:Tb) (o4:Option B),M.length + ms.length < 100000 ->
    ∃ p4,Z2 4 Zc9 (ms.map tupI) [e0,e1,e2,some (.ot (encM M)),o4,some (.pl (dI v)),e6] = some (.nx [e0,e1,e2,some (.ot (encM (ms.foldl (fun M c=>putD M c v) M))),p4,some (.pl (dI v)),e6])
  | [],M,o4,_=>⟨o4,rfl⟩
  | c :: ms, M, o4, hlen => by
    rw [List.length_cons] at hlen
    have hml:(encM M).length < 1000000:=by unfold encM; rw [List.length_map]; omega
    have hk:ZaV (tupI c) = some (Z8 c):=Zax c
    have hput:=Zki M c v
    have hpl:=Zju c v M
    have e:Zc9 [e0,e1,e2,some (.ot (encM M)),some (.pl (tupI c)),some (.pl (dI v)),e6] = some (.nx [e0,e1,e2,some (.ot (encM (putD M c v))),some (.pl (tupI c)),some (.pl (dI v)),e6]):=by
      rw [<- hput]
      simp [Zc9,hk,hml]
    obtain ⟨p4,ih⟩:=ZqN e0 e1 e2 e6 v ms (putD M c v) (some (.pl (tupI c))) (by omega)
    refine ⟨p4,?_⟩
    rw [List.map_cons,List.foldl_cons,<- ih]
    show (match Zc9 [e0,e1,e2,some (.ot (encM M)),some (.pl (tupI c)),some (.pl (dI v)),e6] with | some (.nx r')=>_ | some (.ct r')=>_ | some (.bk r')=>_ | some (.rt d)=>_ | none=>_) = _
    rw [e]
end HG5
namespace HG5
open PySem HM HG HG4
section
variable {w:Wk} (hv:Wk.V w) (h7:w.many <= 7) {ls:List Int} (hl:Cr w.looks.length ls) {L:List (List Int)} (I:ZfC w ls L)
include hv h7 hl I
theorem ZpS {M:Tb} (hM:M.length < 50000) (v:Int) (o4 o6:Option B) :
  ∃ p4 p6,Zcg [some (.pl w.d),some (.pl (tupI ls)),some (.pl (.list (L.map tupI))),some (.ot (encM M)),o4,some (.pl (dI v)),o6] =
   some (.nx [some (.pl w.d),some (.pl (tupI ls)),some (.pl (.list (L.map tupI))),some (.ot (encM ((Zaj w ls L M).foldl (fun M c=>putD M c v) M))),p4,some (.pl (dI v)),p6]):=by
 have hlen:=I.len h7
 have hLb:L.length < 1000000:=by omega
 obtain ⟨p4,e1⟩:=Zk9 hv h7 hl I (some (.pl (.list (L.map tupI)))) (some (.pl (dI v))) M L [] o4 (fun _ h=>h) (by simp; omega)
 have hml:(Zaj w ls L M).length <= L.length:=List.length_filter_le _ _
 have hmb:(Zaj w ls L M).length < 1000000:=by omega
 obtain ⟨q4,e2⟩:=ZqN (some (.pl w.d)) (some (.pl (tupI ls))) (some (.pl (.list (L.map tupI)))) (some (.pl (.list ((Zaj w ls L M).map tupI)))) v (Zaj w ls L M) M p4 (by omega)
 rw [List.map_nil,List.nil_append] at e1
 refine ⟨q4,some (.pl (.list ((Zaj w ls L M).map tupI))),?_⟩
 simp [Zcg,hLb,e1,hmb,e2]
theorem ZiZ (hL:Zbu w ls L):∀ (n t:Nat) (M:Tb) (o4 o5 o6:Option B),Zik w ls L t M->M.length <= 128 * (t + 1)->t + n <= 128 ->
    ∃ M' p4 p5 p6,Z2 5 Zcg ((List.range' (t + 1) n).map dN) [some (.pl w.d),some (.pl (tupI ls)),some (.pl (.list (L.map tupI))),some (.ot (encM M)),o4,o5,o6] =
      some (.nx [some (.pl w.d),some (.pl (tupI ls)),some (.pl (.list (L.map tupI))),some (.ot (encM M')),p4,p5,p6])/\Zik w ls L (t + n) M'
  | 0,t,M,o4,o5,o6,T,_,_=>⟨M,o4,o5,o6,rfl,T⟩
  | n + 1, t, M, o4, o5, o6, T, hM, ht => by
    obtain ⟨p4,p6,e⟩:=ZpS hv h7 hl I (M:=M) (by omega) ((t + 1:Nat):Int) o4 o6
    have T':=Zh7 hL T
    have hlen:=I.len h7
    have hml:(Zaj w ls L M).length <= L.length:=List.length_filter_le _ _
    have hfl:=Zgc ((t + 1:Nat):Int) (Zaj w ls L M) M
    have hM1:((Zaj w ls L M).foldl (fun M c=>putD M c ((t + 1:Nat):Int)) M).length <= 128 * (t + 1 + 1):=Nat.le_trans hfl (by omega)
    obtain ⟨M',q4,q5,q6,f,T''⟩:=ZiZ hL n (t + 1) _ p4 (some (.pl (dN (t + 1)))) p6 T' hM1 (by omega)
    refine ⟨M',q4,q5,q6,?_,by rw [show t + (n + 1) = t + 1 + n by omega]; exact T''⟩
    rw [List.range'_succ,List.map_cons,<- f]
    show (match Zcg [some (.pl w.d),some (.pl (tupI ls)),some (.pl (.list (L.map tupI))),some (.ot (encM M)),o4,some (.pl (dN (t + 1))),o6] with | some (.nx r')=>_ | some (.ct r')=>_ | some (.bk r')=>_ | some (.rt d)=>_ | none=>_) = _
    rw [e]
end
theorem ZpX (n:Nat):ZbT 1 n = (List.range' 1 n).map dN:=by
 unfold ZbT
 rw [List.range'_eq_map_range,List.map_map]
 refine List.map_congr_left fun k _=>?_
 show PyData.int (1 + (k:Int)) = PyData.int ((1 + k:Nat):Int)
 congr 1
section
variable {w:Wk} (hv:Wk.V w) (h7:w.many <= 7) {ls:List Int} (hl:Cr w.looks.length ls)
include hv h7 hl
theorem Znz:∃ L M,Zdz [w.d,tupI ls] = some (.dict (Zo (encM M)))/\ZfC w ls L/\Zbu w ls L/\(∀ p ∈ Zl w ls w.beg,p ∈ L)/\Zik w ls L L.length M:=by
 obtain ⟨L,hall,I,hL,hbeg⟩:=Zpz hv h7 hl
 have hlen:=I.len h7
 have hLb:L.length < 1000000:=by omega
 obtain ⟨p4,e0⟩:=Zls hv h7 hl I (some (.pl (.list (L.map tupI)))) none none L [] none (fun _ h=>h) (by simp; omega)
 have hm0:(M0 w L).length <= L.length:=by
  unfold M0
  have h1:=Zgc 0 (L.filter fun c=>Z0 w c) []
  have h2:=List.length_filter_le (fun c=>Z0 w c) L
  exact Nat.le_trans h1 (by rw [List.length_nil]; omega)
 obtain ⟨M,q4,q5,q6,f,T⟩:=ZiZ hv h7 hl I hL L.length 0 (M0 w L) p4 none none Zka (by omega) (by omega)
 rw [Nat.zero_add] at T
 refine ⟨L,M,?_,I,hL,hbeg,T⟩
 have hok1:okR 1 = true:=rfl
 have hok:okR ((L.length:Int) + 1) = true:=by
  have:=Zc2 (n:=L.length + 1) (by omega)
  rwa [show ((L.length + 1:Nat):Int) = (L.length:Int) + 1 by omega] at this
 have hr:ZbT 1 ((L.length:Int) + 1 - 1).toNat = (List.range' 1 L.length).map dN:=by
  rw [show ((L.length:Int) + 1 - 1).toNat = L.length by omega,ZpX]
 show Zbs (Zfg [some (.pl w.d),some (.pl (tupI ls)),none,none,none,none,none]) = _
 have e:Zfg [some (.pl w.d),some (.pl (tupI ls)),none,none,none,none,none] = some (.rt (.dict (Zo (encM M)))):=by
  unfold Zfg
  refine ZQ (P:=fun q=>q = _) (r':=[some (.pl w.d),some (.pl (tupI ls)),some (.pl (.list (L.map tupI))),none,none,none,none]) (by simp [hall]) ?_
  refine ZQ (P:=fun q=>q = _) (r':=[some (.pl w.d),some (.pl (tupI ls)),some (.pl (.list (L.map tupI))),some (.ot (encM [])),none,none,none]) (by simp [encM]) ?_
  refine ZQ (P:=fun q=>q = _) (r':=[some (.pl w.d),some (.pl (tupI ls)),some (.pl (.list (L.map tupI))),some (.ot (encM (M0 w L))),p4,none,none]) (by simp [hLb,e0,M0]) ?_
  refine ZQ (P:=fun q=>q = _) (r':=[some (.pl w.d),some (.pl (tupI ls)),some (.pl (.list (L.map tupI))),some (.ot (encM M)),q4,q5,q6]) ?_ (by simp)
  have f':Z2 5 Zcg ((List.range' 1 L.length).map dN) [some (.pl w.d),some (.pl (tupI ls)),some (.pl (.list (L.map tupI))),some (.ot (encM (M0 w L))),p4,none,none] = some (.nx [some (.pl w.d),some (.pl (tupI ls)),some (.pl (.list (L.map tupI))),some (.ot (encM M)),q4,q5,q6]):=f
  have ei:Zjy (eC (.int 1)) (op2 Zbc (ZaB (Zk 2)) (eC (.int 1))) [some (.pl w.d),some (.pl (tupI ls)),some (.pl (.list (L.map tupI))),some (.ot (encM (M0 w L))),p4,none,none] = some ((List.range' 1 L.length).map dN):=by
   simp [hok1,hok]
   rw [show ((L.length:Int) + 1 - 1).toNat = L.length by omega] at hr
   exact hr
  unfold Za9
  rw [ei]
  dsimp only
  rw [if_pos (by rw [List.length_map,List.length_range']; exact hLb)]
  exact f'
 rw [e]
 rfl
end
def ZsK (w:Wk) (ls:List Int) (n:Nat):Prop:=∀ p ∈ Zl w ls w.beg,Win w ls n p = true
def Few (w:Wk) (ls:List Int) (d:D):Prop:=(∃ n:Nat,d = .int n/\ZsK w ls n/\∀ m,m < n->¬ ZsK w ls m)\/(d = .none/\∀ n,¬ ZsK w ls n)
theorem Few.unique {w:Wk} {ls:List Int} {d e:D} (h1:Few w ls d) (h2:Few w ls e):d = e:=by
 rcases h1 with ⟨n,rfl,a1,a2⟩ | ⟨rfl,a⟩
 ·rcases h2 with ⟨m,rfl,b1,b2⟩ | ⟨rfl,b⟩
  ·have:n = m:=by
    rcases Nat.lt_trichotomy n m with h | h | h
    ·exact absurd a1 (b2 n h)
    ·exact h
    ·exact absurd b1 (a2 m h)
   rw [this]
  ·exact absurd a1 (b n)
 ·rcases h2 with ⟨m,rfl,b1,b2⟩ | ⟨rfl,b⟩
  ·exact absurd b1 (a m)
  ·rfl
section
variable {w:Wk} (hv:Wk.V w) (h7:w.many <= 7) {ls:List Int} (hl:Cr w.looks.length ls)
include hv h7 hl
theorem Zml:∃ d,Zch [w.d,tupI ls] = some d/\Few w ls d:=by
  obtain ⟨L,M,hco,I,hL,hbeg,T⟩:=Znz hv h7 hl
  have hlen:=I.len h7
  have hs:=ZdZ hv hl hv.bc
  have hbl:=hv.bc.len
  have hsb:(Zt w ls w.beg).length < 1000000:=by
    unfold Zt
    rw [List.length_map,(Za8 _).length_eq,List.length_map]
    have:=ZgF _ _ _ (ZcZ (ZA w ls) w.beg)
    omega
  have hlook:∀ p ∈ Zl w ls w.beg,Ze M p = ZcA w ls L.length p:=fun p hp=>by rw [T.look,if_pos (hbeg p hp)]
  have e1:∀ r:HM.Env,r[2]? = some (some (.pl (.dict (Zo (encM M)))))->ZcV ZV (Zji (Zk 4) (Zb 1) (eC (.int 999))) r ((Zt w ls w.beg).map ZK) = some (((Zl w ls w.beg).map fun p=>(Ze M p).getD 999).map dI):=fun r r2=>by
    have e:=Ze9 (c:=ZV) (e:=Zji (Zk 4) (Zb 1) (eC (.int 999))) (r:=r) (fun p:List Int × List Int=>tupI p.1) (fun p=>tupI p.2) (fun _=>true) (fun p=>dI ((Ze M p.2).getD 999)) (Zt w ls w.beg) (fun p _=>rfl) (fun p _ _=>by
      have hk:ZaV (tupI p.2) = some (Z8 p.2):=Zax p.2
      have hlk:=Zc3 M p.2
      cases hq:Ze M p.2 with
      | none=>rw [hq] at hlk; simp [r2,dec_enc,hk,hlk]
      | some k=>rw [hq] at hlk; simp [r2,dec_enc,hk,hlk])
    rw [List.filter_eq_self.mpr fun _ _=>rfl] at e
    have e':((Zt w ls w.beg).map fun p:List Int × List Int=>PyData.tuple [tupI p.1,tupI p.2]) = (Zt w ls w.beg).map ZK:=rfl
    rw [<- e',e]
    unfold Zl
    rw [List.map_map,List.map_map]
    rfl
  have hne:(Zl w ls w.beg).map (fun p=>(Ze M p).getD 999) ≠ []:=fun e=>Zip hv.b1 (List.map_eq_nil_iff.mp e)
  obtain ⟨m,hm⟩:∃ m,((Zl w ls w.beg).map fun p=>(Ze M p).getD 999).max? = some m:=by
    cases q:((Zl w ls w.beg).map fun p=>(Ze M p).getD 999).max? with
    | none=>rw [List.max?_eq_none_iff] at q; exact absurd q hne
    | some m=>exact ⟨m,rfl⟩
  obtain ⟨m1,m2⟩:=List.max?_eq_some_iff.mp hm
  have i0:Zbb (.pl w.d) = some [PyData.int w.many,.tuple (w.deeds.map ZS),.tuple (w.looks.map tupI),tupI w.beg,tupI w.goal]:=rfl
  have ecs:∀ tl:Option D,Zgk [some (.pl w.d),some (.pl (tupI ls)),none,none] = (if m = 999 then some (.rt .none) else some (.rt (.int m))):=fun _=>by
    unfold Zgk
    refine ZQ (P:=fun q=>q = _) (r':=[some (.pl w.d),some (.pl (tupI ls)),some (.pl (.dict (Zo (encM M)))),none]) (by simp [hco]) ?_
    refine ZQ (P:=fun q=>q = _) (r':=[some (.pl w.d),some (.pl (tupI ls)),some (.pl (.dict (Zo (encM M)))),some (.ol (((Zl w ls w.beg).map fun p=>(Ze M p).getD 999).map dI))]) (by simp [i0,hs,hsb,e1,-Zbb]; simp [hs,hsb,e1]) ?_
    generalize hcs:(Zl w ls w.beg).map (fun p=>(Ze M p).getD 999) = cs at *
    by_cases hq:m = 999
    · rw [if_pos hq]
      subst hq
      simp [Zcb,hm]
    · rw [if_neg hq]
      have hq':(m == 999) = false:=by simp [hq]
      simp [Zcb,hm,hq']
  have hend:Zch [w.d,tupI ls] = Zbs (if m = 999 then some (.rt .none) else some (.rt (.int m))):=by
    rw [<- ecs none]
    rfl
  by_cases hq:m = 999
  · rw [if_pos hq] at hend
    refine ⟨.none,hend,.inr ⟨rfl,fun n hn=>?_⟩⟩
    subst hq
    obtain ⟨p,hp,e⟩:=List.mem_map.mp m1
    rw [hlook p hp] at e
    have hwin:Win w ls L.length p = true:=Zla hL (hbeg p hp) (hn p hp)
    rw [<- Zc6] at hwin
    obtain ⟨k,hk⟩:=Option.isSome_iff_exists.mp hwin
    obtain ⟨j,rfl,hj,_⟩:=Zed hk
    rw [hk] at e
    have:((j:Nat):Int) = 999:=e
    omega
  · rw [if_neg hq] at hend
    have hall:∀ p ∈ Zl w ls w.beg,∃ n:Nat,Ze M p = some (n:Int)/\(n:Int) <= m/\Win w ls n p = true/\∀ j,j < n->Win w ls j p = false:=fun p hp=>by
      have hle:=m2 _ (List.mem_map.mpr ⟨p,hp,rfl⟩)
      cases hk:Ze M p with
      | none =>
        rw [hk] at hle
        have hle:(999:Int) <= m:=hle
        obtain ⟨p',hp',e⟩:=List.mem_map.mp m1
        cases hk':Ze M p' with
        | none=>rw [hk'] at e; exact absurd e.symm hq
        | some k' =>
          rw [hk'] at e
          rw [hlook p' hp'] at hk'
          obtain ⟨j,rfl,hj,_⟩:=Zed hk'
          have:((j:Nat):Int) = m:=e
          omega
      | some k =>
        rw [hk] at hle
        have hk0:=hk
        rw [hlook p hp] at hk
        obtain ⟨n,rfl,_,h2,h3⟩:=Zed hk
        exact ⟨n,rfl,hle,h2,h3⟩
    obtain ⟨p,hp,e⟩:=List.mem_map.mp m1
    obtain ⟨n,k1,k2,k3,k4⟩:=hall p hp
    rw [k1] at e
    have e:(n:Int) = m:=e
    subst e
    refine ⟨_,hend,.inl ⟨n,rfl,fun q hq'=>?_,fun j hj hw=>?_⟩⟩
    · obtain ⟨n', a1, a2, a3, _⟩ := hall q hq'
      exact Zhe (by omega) a3
    · have := hw p hp
      rw [k4 j hj] at this
      cases this
end
end HG5
namespace HG5
open PySem HM HG
def Zoj:SF :=
 (ZH (eIx (Zk 0) (eC (.int 3))))
def Zdm:List D->Option D:=fnOf 1 1 Zoj
def Zpm:SF :=
 (ZH (eIx (Zk 0) (eC (.int 4))))
def Zd5:List D->Option D:=fnOf 1 1 Zpm
def ZjW:SF :=
 (ZH (ZfB (ZT (Z1 (bOf (Zb 1))) ZV (ZnK (Zb 0) (bOf (Zp Zd5 (Zc (Zb 1) Zm)))))))
def Zbz:List D->Option D:=fnOf 2 2 ZjW
def ZiR:SF :=
 (ZH (eOf (ZT (Z1 (bOf (Zb 0))) ZV (eIx (Zk 0) (eC (.int 1))))))
def ZE:List D->Option D:=fnOf 1 1 ZiR
def ZiS:SF :=
 (ZH (eOf (ZT (Z1 (bOf (Zp Zce (Zc (Zb 0) (Zc (Zb 2) Zm))))) ZV (Zca (Zc (Zb 0) (Zc (Zp ZbD (Zc (Zb 1) (Zc (Zb 2) (Zc (Zp Zdw (Zc (Zb 1) (Zc (Zb 3) (Zc (Zb 0) Zm)))) Zm)))) Zm))))))
def ZcG:List D->Option D:=fnOf 3 3 ZiS
def Zcp:SF :=
 (Zjw 4 (ZhM ZE (Zc (eIx (Zk 6) (eC (.int 1))) Zm)))
def ZbL:SF :=
 (Zu (ZrY 5 4)
  (sIf (tV (Zck (Zb 5) (Zk 3))) (Zu (ZhE 3 (Zb 5) (Zp ZcG (Zc (Zb 0) (Zc (Zb 1) (Zc (Zb 5) Zm)))))
  (Za9 6 (Z1 (bOf (Zbi (Zk 3) (Zb 5)))) Zcp)) Zai))
def Zd6:SF :=
 (Zu (Zac 3 fDt)
  (Zu (Zac 4 (ZhM ZE (Zc (Zp ZbD (Zc (Zb 0) (Zc (Zb 1) (Zc (Zb 2) Zm)))) Zm)))
  (Zu (ZkH 100000 (tV (op2 gGt (ZaB (Zk 4)) (eC (.int 0)))) ZbL)
  (Zg4 3 (ZH (Zb 3))))))
def ZcH:List D->Option D:=fnOf 3 7 Zd6
def Z5:SF :=
 (sIf (tV (ZfB (ZT (Z1 (bOf (Zp ZE (Zc (eIx (Zk 3) (eC (.int 1))) Zm)))) ZV (Ze0 (ZhB (Zb 0) (Zk 2)) (op2 gLt (Zbi (Zk 2) (Zb 0)) (Zb 3)))))) (ZH (Zb 3)) Zai)
def Zej:SF :=
 (Zu (Za9 3 (Z1 (bOf (Zb 0))) Z5)
  (ZH (eC .none)))
def Zaq:List D->Option D:=fnOf 3 4 Zej
def Zda:SF :=
 (ZhE 2 (Zb 5) (Zb 3))
def Zdb:SF :=
 (Zu (Zg4 4 (Za9 5 (Z1 (bOf (Zb 4))) Zda))
  (Zu (Zsv 3 (eC (.int 1)))
  (Zu (ZjG 1 (Zac 6 (ZT (Zeg 1) (tV (Zck (Zb 0) (Zk 3))) (Zb 0))))
  (Zg4 6 (Zac 4 (ZT (Z1 (bOf (Zb 6))) (tV (op2 ZjF (Zp Zaq (Zc (Zbi (Zk 2) (Zb 0)) (Zc (Zgz (Zk 3)) (Zc (Zb 4) Zm)))) (eC .none))) (Zb 0)))))))
def Zb5:SF :=
 (Zu (Zac 2 fDt)
  (Zu (Z9 3 (eC (.int 0)))
  (Zu (ZjG 1 (Zac 4 (ZT (Zeg 1) (tV (Zp Zbz (Zc (Zb 1) (Zc (Zb 0) Zm)))) (Zb 0))))
  (Zu (ZkH 100000 (tV (op2 gGt (ZaB (Zk 4)) (eC (.int 0)))) Zdb)
  (Zg4 2 (ZH (Zb 2)))))))
def ZcI:List D->Option D:=fnOf 2 7 Zb5
def Zgl:SF :=
 (Zu (sIf (ZbJ (tV (ZfB (ZT (Z1 (bOf (Zp ZE (Zc (Zb 0) Zm)))) ZV (ZhB (Zb 0) (Zk 2)))))) (ZH (eC .none)) Zai)
  (ZH (Zis (ZT (Z1 (bOf (Zp ZE (Zc (Zb 0) Zm)))) ZV (Zbi (Zk 2) (Zb 0))))))
def Zdc:List D->Option D:=fnOf 2 2 Zgl
end HG5
namespace HG5
open PySem HM HG HG4
theorem Zwa (w:Wk):Zbb (.pl w.d) = some [PyData.int w.many,.tuple (w.deeds.map ZS),.tuple (w.looks.map tupI),tupI w.beg,tupI w.goal]:=rfl
theorem ZoB (w:Wk):Zdm [w.d] = some (tupI w.beg):=rfl
theorem Zp0 (w:Wk):Zd5 [w.d] = some (tupI w.goal):=rfl
theorem Zkp {α:Type} (xs:List α) (p:α->Bool):ZeP (xs.map fun x=>PyData.bool (p x)) = some (xs.map p):=by
 have:=ZgE (xs.map p)
 rwa [List.map_map] at this
theorem ZoP {w:Wk} {c:List Int} (hc:c.length < 1000):Zbz [w.d,tupI c] = some (.bool (Z0 w c)):=by
 have hb:c.length < 1000000:=by omega
 have e:∀ r:HM.Env,r[0]? = some (some (.pl w.d))->ZaM ZV (ZnK (Zb 0) (bOf (Zp Zd5 (Zc (Zb 1) Zm)))) r (c.map dI) = some (c.map fun s=>PyData.bool (w.goal.contains s)):=fun r r0=>by
  rw [ZaU dI (fun s=>PyData.bool (w.goal.contains s))]
  ·intro s _
   simp [r0,Zp0,Zne,Zcb,-List.contains_eq_mem]
 simp [Zbz,ZjW,hb,e,Zkp,Z0,-List.contains_eq_mem]
theorem ZfE (g:Gs) (h:g.length < 1000000):ZE [.list (g.map ZK)] = some (.list ((g.map (·.2)).map tupI)):=by
 have e:∀ r:HM.Env,ZaM ZV (eIx (Zk 0) (eC (.int 1))) r (g.map ZK) = some ((g.map (·.2)).map tupI):=fun r=>by
  rw [ZaU ZK (fun p=>tupI p.2),List.map_map]
  ·rfl
  ·intro p _
   rfl
 simp [ZE,ZiR,h,e]
def ZaW (w:Wk) (ls c:List Int) (d:Int):D:=.tuple [dI d,.list ((Zt w ls (Zs w c d)).map ZK)]
def Zei (w:Wk) (ls c:List Int):D:=.list ((doV w c).map (ZaW w ls c))
theorem split_len {w:Wk} {ls c:List Int}:(Zt w ls c).length <= c.length:=by
 unfold Zt
 rw [List.length_map,(Za8 _).length_eq,List.length_map]
 exact ZgF _ _ _ (ZcZ (ZA w ls) c)
theorem ZjH (w:Wk) (c:List Int):(doV w c).length <= w.deeds.length:=by
 unfold doV
 rw [List.length_map]
 have:=List.length_filter_le (fun (d:Nat)=>Zak w c (d:Int)) (List.range w.deeds.length)
 rwa [List.length_range] at this
theorem ZoV {w:Wk} {c:List Int} {d:Nat} (hd:d < w.deeds.length) (hc:Zak w c d = true):(d:Int) ∈ doV w c:=by
 unfold doV
 exact List.mem_map.mpr ⟨d,List.mem_filter.mpr ⟨List.mem_range.mpr hd,hc⟩,rfl⟩
section
variable {w:Wk} (hv:Wk.V w) {ls:List Int} (hl:Cr w.looks.length ls)
include hv hl
theorem Zm1 {c:List Int} (hc:Cr w.many c):ZcG [w.d,tupI ls,tupI c] = some (Zei w ls c):=by
 have hdo:=Zmo hv hc
 have hb:(doV w c).length < 1000000:=by have:=ZjH w c; have:=hv.d2; omega
 have e:∀ r:HM.Env,r[0]? = some (some (.pl w.d))->r[1]? = some (some (.pl (tupI ls)))->r[2]? = some (some (.pl (tupI c))) ->
   ZaM ZV (Zca (Zc (Zb 0) (Zc (Zp ZbD (Zc (Zb 1) (Zc (Zb 2) (Zc (Zp Zdw (Zc (Zb 1) (Zc (Zb 3) (Zc (Zb 0) Zm)))) Zm)))) Zm))) r ((doV w c).map dI) = some ((doV w c).map (ZaW w ls c)):=fun r r0 r1 r2=>by
  rw [ZaU dI (ZaW w ls c)]
  intro d hd
  obtain ⟨d0,d1,_⟩:=Zcx hd
  have h1:=Zrr hv hc d0 d1
  have h2:=Zjn hv hl (Zdq hv hc d0 d1)
  simp [r0,r1,r2,h1,h2,ZaW]
 simp [ZcG,ZiS,hdo,hb,e,Zei]
end
def okP (M:Tb) (n:Int) (p:List Int):Bool:=match Ze M p with | some k=>decide (k < n) | none=>false
def okW (w:Wk) (ls c:List Int) (M:Tb) (n:Int) (d:Int):Bool:=(Zl w ls (Zs w c d)).all (okP M n)
theorem ZqX {w:Wk} {ls c:List Int} {M:Tb} {n:Int} (e0:Option B):∀ (ds:List Int) (o:Option B),(∀ d ∈ ds,(Zt w ls (Zs w c d)).length < 1000000) ->
    (∀ d,ds.find? (okW w ls c M n) = some d->Z2 3 Z5 (ds.map (ZaW w ls c)) [e0,some (.pl (.dict (Zo (encM M)))),some (.pl (.int n)),o] = some (.rt (ZaW w ls c d))) /\
    (ds.find? (okW w ls c M n) = none->∃ o',Z2 3 Z5 (ds.map (ZaW w ls c)) [e0,some (.pl (.dict (Zo (encM M)))),some (.pl (.int n)),o] = some (.nx [e0,some (.pl (.dict (Zo (encM M)))),some (.pl (.int n)),o']))
  | [],o,_=>⟨fun d h=>(by cases h),fun _=>⟨o,rfl⟩⟩
  | d :: ds, o, hds => by
    have hb:=hds d (List.mem_cons_self ..)
    have hci:=ZfE (Zt w ls (Zs w c d)) hb
    have e:∀ r:HM.Env,r[1]? = some (some (.pl (.dict (Zo (encM M)))))->r[2]? = some (some (.pl (.int n))) ->
        ZaM ZV (Ze0 (ZhB (Zb 0) (Zk 2)) (op2 gLt (Zbi (Zk 2) (Zb 0)) (Zb 3))) r (((Zt w ls (Zs w c d)).map (·.2)).map tupI) = some ((Zl w ls (Zs w c d)).map fun p=>PyData.bool (okP M n p)):=fun r r1 r2=>by
      rw [ZaU tupI (fun p=>PyData.bool (okP M n p))]
      · rfl
      · intro p _
        unfold okP
        have hk:ZaV (tupI p) = some (Z8 p):=Zax p
        have hlk:=Zc3 M p
        cases hq:Ze M p with
        | none=>rw [hq] at hlk; simp [r1,r2,dec_enc,hk,hlk]
        | some k=>rw [hq] at hlk; simp [r1,r2,dec_enc,hk,hlk]
    have hat:atD [dI d,.list ((Zt w ls (Zs w c d)).map ZK)] 1 = some (.list ((Zt w ls (Zs w c d)).map ZK)):=rfl
    have body:Z5 [e0,some (.pl (.dict (Zo (encM M)))),some (.pl (.int n)),some (.pl (ZaW w ls c d))] = if okW w ls c M n d then some (.rt (ZaW w ls c d)) else some (.nx [e0,some (.pl (.dict (Zo (encM M)))),some (.pl (.int n)),some (.pl (ZaW w ls c d))]):=by
      have hlen:(((Zt w ls (Zs w c d)).map (·.2)).map tupI).length < big:=by rw [List.length_map,List.length_map]; exact hb
      generalize hr:[e0,some (B.pl (.dict (Zo (encM M)))),some (.pl (.int n)),some (.pl (ZaW w ls c d))] = r
      have h0:Zp ZE (Zc (eIx (Zk 3) (eC (.int 1))) Zm) r = some (.list (((Zt w ls (Zs w c d)).map (·.2)).map tupI)):=by rw [<- hr]; exact hci
      have h1:Z1 (bOf (Zp ZE (Zc (eIx (Zk 3) (eC (.int 1))) Zm))) r = some (((Zt w ls (Zs w c d)).map (·.2)).map tupI):=by
        unfold Z1 bOf
        rw [h0]
        rfl
      have h2:ZT (Z1 (bOf (Zp ZE (Zc (eIx (Zk 3) (eC (.int 1))) Zm)))) ZV (Ze0 (ZhB (Zb 0) (Zk 2)) (op2 gLt (Zbi (Zk 2) (Zb 0)) (Zb 3))) r = some (.ol ((Zl w ls (Zs w c d)).map fun p=>PyData.bool (okP M n p))):=by
        unfold ZT
        rw [h1]
        dsimp only
        rw [if_pos hlen,e r (by rw [<- hr]; rfl) (by rw [<- hr]; rfl)]
        rfl
      have h3:ZfB (ZT (Z1 (bOf (Zp ZE (Zc (eIx (Zk 3) (eC (.int 1))) Zm)))) ZV (Ze0 (ZhB (Zb 0) (Zk 2)) (op2 gLt (Zbi (Zk 2) (Zb 0)) (Zb 3)))) r = some (.bool (okW w ls c M n d)):=by
        unfold ZfB
        rw [h2]
        show (ZeP ((Zl w ls (Zs w c d)).map fun p=>PyData.bool (okP M n p))).map _ = _
        rw [Zkp]
        show some (PyData.bool (((Zl w ls (Zs w c d)).map (okP M n)).all id)) = _
        rw [List.all_map]
        rfl
      have h4:Zb 3 r = some (ZaW w ls c d):=by rw [<- hr]; rfl
      unfold Z5 sIf tV ZH
      rw [h3,h4]
      cases okW w ls c M n d <;> rfl
    obtain ⟨i1,i2⟩:=ZqX (w:=w) (ls:=ls) (c:=c) (M:=M) (n:=n) e0 ds (some (.pl (ZaW w ls c d))) fun x hx=>hds x (List.mem_cons_of_mem _ hx)
    have step:Z2 3 Z5 ((d :: ds).map (ZaW w ls c)) [e0,some (.pl (.dict (Zo (encM M)))),some (.pl (.int n)),o] = match Z5 [e0,some (.pl (.dict (Zo (encM M)))),some (.pl (.int n)),some (.pl (ZaW w ls c d))] with
        | some (.nx r')=>Z2 3 Z5 (ds.map (ZaW w ls c)) r'
        | some (.ct r')=>Z2 3 Z5 (ds.map (ZaW w ls c)) r'
        | some (.bk r')=>some (.nx r')
        | some (.rt d)=>some (.rt d)
        | none=>none:=rfl
    rw [step,body,List.find?_cons]
    cases hq:okW w ls c M n d with
    | true=>exact ⟨fun d' h=>by cases h; rfl,fun h=>by cases h⟩
    | false=>exact ⟨i1,i2⟩
theorem Zgv {w:Wk} (hv:Wk.V w) {ls c:List Int} {M:Tb} {n:Int} (hc:Cr w.many c):Zaq [Zei w ls c,.dict (Zo (encM M)),.int n] = some (match (doV w c).find? (okW w ls c M n) with | some d=>ZaW w ls c d | none=>.none):=by
  have hb:(doV w c).length < 1000000:=by have:=ZjH w c; have:=hv.d2; omega
  obtain ⟨i1,i2⟩:=ZqX (w:=w) (ls:=ls) (c:=c) (M:=M) (n:=n) (some (.pl (Zei w ls c))) (doV w c) none fun d hd=>by
    obtain ⟨d0,d1,_⟩:=Zcx hd
    have:=split_len (w:=w) (ls:=ls) (c:=Zs w c d)
    have:=(Zdq hv hc d0 d1).len
    have:=hv.m2
    omega
  show Zbs (Zej [some (.pl (Zei w ls c)),some (.pl (.dict (Zo (encM M)))),some (.pl (.int n)),none]) = _
  have hi:Za9 3 (Z1 (bOf (Zb 0))) Z5 [some (.pl (Zei w ls c)),some (.pl (.dict (Zo (encM M)))),some (.pl (.int n)),none] = Z2 3 Z5 ((doV w c).map (ZaW w ls c)) [some (.pl (Zei w ls c)),some (.pl (.dict (Zo (encM M)))),some (.pl (.int n)),none]:=by
    simp [Zei,hb]
  unfold Zej
  cases hq:(doV w c).find? (okW w ls c M n) with
  | some d =>
    unfold Zu
    rw [hi,i1 d hq]
    rfl
  | none =>
    obtain ⟨o',e⟩:=i2 hq
    unfold Zu
    rw [hi,e]
    rfl
end HG5
namespace HG5
open PySem HM HG HG4
inductive Zk7 (w:Wk) (ls b:List Int):List Int->Prop where
 | beg {p:List Int} (h:p ∈ Zl w ls b):Zk7 w ls b p
 | step {c p:List Int} {d:Nat} (r:Zk7 w ls b c) (hd:d < w.deeds.length) (hc:Zak w c d = true) (h:p ∈ Zl w ls (Zs w c d)):Zk7 w ls b p
structure Zg8 (w:Wk) (ls b:List Int) (C W:List (List Int)):Prop where
 nd:C.Nodup
 cr:∀ c ∈ C,Cr w.many c/\c ≠ []
 wr:∀ c ∈ W,Cr w.many c/\c ≠ []
 rc:∀ c ∈ C,Zk7 w ls b c
 rw:∀ c ∈ W,Zk7 w ls b c
 cl:∀ c ∈ C,∀ d:Nat,d < w.deeds.length->Zak w c d = true->∀ p ∈ Zl w ls (Zs w c d),p ∈ C\/p ∈ W
 bg:∀ p ∈ Zl w ls b,p ∈ C\/p ∈ W
def Zz (w:Wk) (ls:List Int) (C:List (List Int)):List (List Ky × D):=C.map fun c=>(Z8 c,Zei w ls c)
theorem Zho (w:Wk) (ls:List Int) (C:List (List Int)) (k:List Int):Ze (Zz w ls C) (Z8 k) = if k ∈ C then some (Zei w ls k) else none:=by
  unfold Ze Zz
  induction C with
  | nil=>rfl
  | cons c C ih =>
    rw [List.map_cons,List.find?_cons]
    by_cases h:c = k
    · subst h
      rw [if_pos (List.mem_cons_self ..)]
      simp
    · have h' : decide ((Z8 c, Zei w ls c).1 = Z8 k) = false := decide_eq_false fun e => h (ZeZ e)
      rw [h']
      dsimp only
      rw [ih]
      by_cases q:k ∈ C
      · rw [if_pos q,if_pos (List.mem_cons_of_mem _ q)]
      · rw [if_neg q,if_neg fun z=>by
          rcases List.mem_cons.mp z with e | e
          · exact h e.symm
          · exact q e]
theorem ZrR {w:Wk} {ls:List Int} {C:List (List Int)} {k:List Int} (h:k ∉ C):putD (Zz w ls C) (Z8 k) (Zei w ls k) = Zz w ls (C ++ [k]):=by
 unfold putD
 rw [if_neg]
 ·unfold Zz
  rw [List.map_append]
  rfl
 ·intro z
  obtain ⟨p,hp,e⟩:=List.any_eq_true.mp z
  unfold Zz at hp
  obtain ⟨c,hc,rfl⟩:=List.mem_map.mp hp
  have e:=ZeZ (of_decide_eq_true e)
  subst e
  exact h hc
def Zkg (w:Wk) (ls c:List Int):List (List Int):=(doV w c).flatMap fun d=>Zl w ls (Zs w c d)
theorem Zqt {w:Wk} {ls c:List Int}:(Zl w ls c).length <= c.length:=by
 unfold Zl
 rw [List.length_map]
 exact split_len
theorem Zqn {w:Wk} {ls c:List Int} (e0 e1 e2 e3 e5:Option B):∀ (ds:List Int) (W:List (List Int)) (o:Option B),(∀ d ∈ ds,(Zt w ls (Zs w c d)).length <= 8)->W.length + 8 * ds.length < 900000 ->
    ∃ o',Z2 6 Zcp (ds.map (ZaW w ls c)) [e0,e1,e2,e3,some (.ol (W.map tupI)),e5,o] = some (.nx [e0,e1,e2,e3,some (.ol ((W ++ ds.flatMap fun d=>Zl w ls (Zs w c d)).map tupI)),e5,o'])
  | [],W,o,_,_=>⟨o,by rw [List.flatMap_nil,List.append_nil]; rfl⟩
  | d :: ds, W, o, hds, hlen => by
    rw [List.length_cons] at hlen
    have hb:=hds d (List.mem_cons_self ..)
    have hci:=ZfE (Zt w ls (Zs w c d)) (by omega)
    have hpl:(Zl w ls (Zs w c d)).length <= 8:=by unfold Zl; rw [List.length_map]; exact hb
    have body:Zcp [e0,e1,e2,e3,some (.ol (W.map tupI)),e5,some (.pl (ZaW w ls c d))] = some (.nx [e0,e1,e2,e3,some (.ol ((W ++ Zl w ls (Zs w c d)).map tupI)),e5,some (.pl (ZaW w ls c d))]):=by
      have h1:ZhM ZE (Zc (eIx (Zk 6) (eC (.int 1))) Zm) [e0,e1,e2,e3,some (.ol (W.map tupI)),e5,some (.pl (ZaW w ls c d))] = some (.ol ((Zl w ls (Zs w c d)).map tupI)):=by
        unfold ZhM
        show (match ZE [.list ((Zt w ls (Zs w c d)).map ZK)] with | some (.list ys)=>some (B.ol ys) | _=>none) = _
        rw [hci]
        rfl
      unfold Zcp Zjw
      rw [h1]
      show (if _ then _ else _) = _
      rw [if_pos (by rw [List.length_map,List.length_map]; show _ < 1000000; omega),List.map_append]
      rfl
    obtain ⟨o',ih⟩:=Zqn e0 e1 e2 e3 e5 ds (W ++ Zl w ls (Zs w c d)) (some (.pl (ZaW w ls c d))) (fun x hx=>hds x (List.mem_cons_of_mem _ hx)) (by rw [List.length_append]; omega)
    refine ⟨o',?_⟩
    rw [List.flatMap_cons,<- List.append_assoc,<- ih,List.map_cons]
    show (match Zcp [e0,e1,e2,e3,some (.ol (W.map tupI)),e5,some (.pl (ZaW w ls c d))] with | some (.nx r')=>_ | some (.ct r')=>_ | some (.bk r')=>_ | some (.rt d)=>_ | none=>_) = _
    rw [body]
section
variable {w:Wk} (hv:Wk.V w) (h7:w.many <= 7) {ls:List Int} (hl:Cr w.looks.length ls) {b:List Int}
include hv h7
theorem Zq9 {c:List Int} (hc:Cr w.many c) {d:Int} (hd:d ∈ doV w c):(Zt w ls (Zs w c d)).length <= 8:=by
 obtain ⟨d0,d1,_⟩:=Zcx hd
 have:=split_len (w:=w) (ls:=ls) (c:=Zs w c d)
 have:=(Zdq hv hc d0 d1).len
 omega
omit h7 in
theorem ZuQ {c p:List Int} (hc:Cr w.many c) (hp:p ∈ Zkg w ls c):Cr w.many p/\p ≠ []:=by
 obtain ⟨d,hd,hq⟩:=List.mem_flatMap.mp hp
 obtain ⟨d0,d1,_⟩:=Zcx hd
 have:=Ze5 (Zdq hv hc d0 d1) hq
 exact ⟨this.1,this.2.1⟩
theorem ZtQ {c:List Int} (hc:Cr w.many c):(Zkg w ls c).length <= 40:=by
  have key:∀ ds:List Int,(∀ d ∈ ds,d ∈ doV w c)->(ds.flatMap fun d=>Zl w ls (Zs w c d)).length <= 8 * ds.length:=by
    intro ds
    induction ds with
    | nil=>intro _; exact Nat.le_refl 0
    | cons d ds ih =>
      intro h
      rw [List.flatMap_cons,List.length_append,List.length_cons]
      have h1:=ih fun x hx=>h x (List.mem_cons_of_mem _ hx)
      have h2:=Zq9 hv h7 (ls:=ls) hc (h d (List.mem_cons_self ..))
      have h3:(Zl w ls (Zs w c d)).length = (Zt w ls (Zs w c d)).length:=by unfold Zl; rw [List.length_map]
      omega
  have h1:=key (doV w c) fun _ h=>h
  have h2:=ZjH w c
  have h3:=hv.d2
  unfold Zkg
  omega
theorem Zg8.len {C W:List (List Int)} (I:Zg8 w ls b C W):C.length <= 128:=by
 have h1:=Zir I.nd fun c hc=>(I.cr c hc).1
 have h2:2 ^ w.many <= 2 ^ 7:=Nat.pow_le_pow_right (by decide) h7
 have h3:2 ^ 7 = 128:=rfl
 omega
omit hv h7 in
theorem Zg8.old {C V:List (List Int)} {p:List Int} (I:Zg8 w ls b C (V ++ [p])) (hp:p ∈ C):Zg8 w ls b C V:=by
 have key:∀ q,q ∈ C\/q ∈ V ++ [p]->q ∈ C\/q ∈ V:=fun q h=>by
  rcases h with h | h
  ·exact .inl h
  ·rcases List.mem_append.mp h with h | h
   ·exact .inr h
   ·rw [List.mem_singleton.mp h]; exact .inl hp
 exact ⟨I.nd,I.cr,fun c h=>I.wr c (List.mem_append_left _ h),I.rc,fun c h=>I.rw c (List.mem_append_left _ h),fun c hc d hd can q hq=>key q (I.cl c hc d hd can q hq),fun q hq=>key q (I.bg q hq)⟩
omit h7 in
theorem Zg8.new {C V:List (List Int)} {p:List Int} (I:Zg8 w ls b C (V ++ [p])) (hp:p ∉ C):Zg8 w ls b (C ++ [p]) (V ++ Zkg w ls p):=by
 have hpc:=I.wr p (List.mem_append_right _ (List.mem_singleton.mpr rfl))
 have hpr:=I.rw p (List.mem_append_right _ (List.mem_singleton.mpr rfl))
 have key:∀ q,q ∈ C\/q ∈ V ++ [p]->q ∈ C ++ [p]\/q ∈ V ++ Zkg w ls p:=fun q h=>by
  rcases h with h | h
  ·exact .inl (List.mem_append_left _ h)
  ·rcases List.mem_append.mp h with h | h
   ·exact .inr (List.mem_append_left _ h)
   ·exact .inl (List.mem_append_right _ h)
 refine ⟨?_,fun c h=>?_,fun c h=>?_,fun c h=>?_,fun c h=>?_,fun c h d hd can q hq=>?_,fun q hq=>key q (I.bg q hq)⟩
 ·rw [List.nodup_append]
  refine ⟨I.nd,by simp,fun x hx y hy e=>?_⟩
  rw [List.mem_singleton.mp hy] at e
  exact hp (e ▸ hx)
 ·rcases List.mem_append.mp h with h | h
  ·exact I.cr c h
  ·rw [List.mem_singleton.mp h]; exact hpc
 ·rcases List.mem_append.mp h with h | h
  ·exact I.wr c (List.mem_append_left _ h)
  ·exact ZuQ hv hpc.1 h
 ·rcases List.mem_append.mp h with h | h
  ·exact I.rc c h
  ·rw [List.mem_singleton.mp h]; exact hpr
 ·rcases List.mem_append.mp h with h | h
  ·exact I.rw c (List.mem_append_left _ h)
  ·obtain ⟨d,hd,hq⟩:=List.mem_flatMap.mp h
   obtain ⟨d0,d1,d2⟩:=Zcx hd
   have e:((d.toNat:Nat):Int) = d:=Int.toNat_of_nonneg d0
   exact .step (d:=d.toNat) hpr (by omega) (by rw [e]; exact d2) (by rw [e]; exact hq)
 ·rcases List.mem_append.mp h with h | h
  ·exact key q (I.cl c h d hd can q hq)
  ·rw [List.mem_singleton.mp h] at can hq
   exact .inr (List.mem_append_right _ (List.mem_flatMap.mpr ⟨(d:Int),ZoV hd can,hq⟩))
omit h7 in
theorem Zj6 (C:List (List Int)) (p:List Int) (r:HM.Env) (i j:Nat) (h1:r[i]? = some (some (.pl (tupI p)))) (h2:r[j]? = some (some (.ot (Zz w ls C)))):tV (Zck (Zb i) (Zk j)) r = some (!decide (p ∈ C)):=by
 have hk:ZaV (tupI p) = some (Z8 p):=Zax p
 have hlk:=Zho w ls C p
 by_cases hp:p ∈ C
 ·rw [if_pos hp] at hlk
  simp [h1,h2,hk,hlk,hp]
 ·rw [if_neg hp] at hlk
  simp [h1,h2,hk,hlk,hp]
include hl
theorem ZsG {C V:List (List Int)} {p:List Int} (e2 o5 o6:Option B) (hp:p ∈ C) :
  ZbL [some (.pl w.d),some (.pl (tupI ls)),e2,some (.ot (Zz w ls C)),some (.ol ((V ++ [p]).map tupI)),o5,o6] = some (.nx [some (.pl w.d),some (.pl (tupI ls)),e2,some (.ot (Zz w ls C)),some (.ol (V.map tupI)),some (.pl (tupI p)),o6]):=by
 unfold ZbL
 refine ZQ (P:=fun q=>q = _) (r':=[some (.pl w.d),some (.pl (tupI ls)),e2,some (.ot (Zz w ls C)),some (.ol (V.map tupI)),some (.pl (tupI p)),o6]) ?_ ?_
 ·rw [List.map_append]
  simp
 ·have ht:=Zj6 hv (w:=w) (ls:=ls) C p [some (.pl w.d),some (.pl (tupI ls)),e2,some (.ot (Zz w ls C)),some (.ol (V.map tupI)),some (.pl (tupI p)),o6] 5 3 rfl rfl
  rw [decide_eq_true hp] at ht
  unfold sIf
  rw [ht]
  rfl
theorem Zsl {C V:List (List Int)} {p:List Int} (e2 o5 o6:Option B) (hp:p ∉ C) (hc:Cr w.many p) (hC:C.length < 1000) (hV:V.length < 100000) :
  ∃ o6',ZbL [some (.pl w.d),some (.pl (tupI ls)),e2,some (.ot (Zz w ls C)),some (.ol ((V ++ [p]).map tupI)),o5,o6] = some (.nx [some (.pl w.d),some (.pl (tupI ls)),e2,some (.ot (Zz w ls (C ++ [p]))),some (.ol ((V ++ Zkg w ls p).map tupI)),some (.pl (tupI p)),o6']):=by
 have hdl:=ZjH w p
 have hd5:=hv.d2
 obtain ⟨o6',go⟩:=Zqn (w:=w) (ls:=ls) (c:=p) (some (.pl w.d)) (some (.pl (tupI ls))) e2 (some (.ot (Zz w ls (C ++ [p])))) (some (.pl (tupI p))) (doV w p) V o6 (fun d hd=>Zq9 hv h7 hc hd) (by omega)
 refine ⟨o6',?_⟩
 unfold ZbL
 refine ZQ (P:=fun q=>q = _) (r':=[some (.pl w.d),some (.pl (tupI ls)),e2,some (.ot (Zz w ls C)),some (.ol (V.map tupI)),some (.pl (tupI p)),o6]) ?_ ?_
 ·rw [List.map_append]
  simp
 ·have ht:=Zj6 hv (w:=w) (ls:=ls) C p [some (.pl w.d),some (.pl (tupI ls)),e2,some (.ot (Zz w ls C)),some (.ol (V.map tupI)),some (.pl (tupI p)),o6] 5 3 rfl rfl
  rw [decide_eq_false hp] at ht
  unfold sIf
  rw [ht]
  show Zu _ _ _ = _
  have hk:ZaV (tupI p) = some (Z8 p):=Zax p
  have hww:=Zm1 hv hl hc
  have hcl:(Zz w ls C).length < 1000000:=by unfold Zz; rw [List.length_map]; omega
  refine ZQ (P:=fun q=>q = _) (r':=[some (.pl w.d),some (.pl (tupI ls)),e2,some (.ot (Zz w ls (C ++ [p]))),some (.ol (V.map tupI)),some (.pl (tupI p)),o6]) ?_ ?_
  ·rw [<- ZrR hp]
   simp [hww,hk,hcl]
  ·have hlk:=Zho w ls (C ++ [p]) p
   rw [if_pos (List.mem_append_right _ (List.mem_singleton.mpr rfl))] at hlk
   have hi:Z1 (bOf (Zbi (Zk 3) (Zb 5))) [some (.pl w.d),some (.pl (tupI ls)),e2,some (.ot (Zz w ls (C ++ [p]))),some (.ol (V.map tupI)),some (.pl (tupI p)),o6] = some ((doV w p).map (ZaW w ls p)):=by
    simp [hk,hlk,Zei]
   unfold Za9
   rw [hi]
   dsimp only
   rw [if_pos (by rw [List.length_map]; show _ < 1000000; omega)]
   exact go
theorem Zgq (e2:Option B):∀ (fuel:Nat) (C W:List (List Int)) (o5 o6:Option B),Zg8 w ls b C W->(128 - C.length) * 41 + W.length < fuel->(128 - C.length) * 41 + W.length < 60000 ->
    ∃ C' o5' o6',ZaE (tV (op2 gGt (ZaB (Zk 4)) (eC (.int 0)))) ZbL fuel [some (.pl w.d),some (.pl (tupI ls)),e2,some (.ot (Zz w ls C)),some (.ol (W.map tupI)),o5,o6] = some (.nx [some (.pl w.d),some (.pl (tupI ls)),e2,some (.ot (Zz w ls C')),some (.ol []),o5',o6'])/\Zg8 w ls b C' []
  | 0,C,W,o5,o6,I,h,_=>by omega
  | fuel + 1, C, W, o5, o6, I, h, hW => by
    have hlen:=I.len hv h7
    by_cases hw:W = []
    · subst hw
      refine ⟨C,o5,o6,?_,I⟩
      unfold ZaE
      have ht:(tV (op2 gGt (ZaB (Zk 4)) (eC (.int 0)))) [some (.pl w.d),some (.pl (tupI ls)),e2,some (.ot (Zz w ls C)),some (.ol (([]:List (List Int)).map tupI)),o5,o6] = some false:=by simp
      rw [ht]
      rfl
    · obtain ⟨V, p, rfl⟩ : ∃ V p, W = V ++ [p] := ⟨W.dropLast, W.getLast hw, (List.dropLast_concat_getLast hw).symm⟩
      rw [List.length_append,List.length_singleton] at h hW
      have ht:(tV (op2 gGt (ZaB (Zk 4)) (eC (.int 0)))) [some (.pl w.d),some (.pl (tupI ls)),e2,some (.ot (Zz w ls C)),some (.ol ((V ++ [p]).map tupI)),o5,o6] = some true:=by
        simp
      by_cases hp:p ∈ C
      · obtain ⟨C', o5', o6', g, J⟩ := Zgq e2 fuel C V (some (.pl (tupI p))) o6 (I.old hp) (by omega) (by omega)
        refine ⟨C',o5',o6',?_,J⟩
        unfold ZaE
        rw [ht]
        dsimp only
        rw [ZsG hv h7 hl e2 o5 o6 hp]
        exact g
      · have hpc := I.wr p (List.mem_append_right _ (List.mem_singleton.mpr rfl))
        have J0:=I.new hv hp
        have hl2:=J0.len hv h7
        rw [List.length_append,List.length_singleton] at hl2
        have hbl:=ZtQ hv h7 (ls:=ls) hpc.1
        obtain ⟨q6,e⟩:=Zsl hv h7 hl (V:=V) e2 o5 o6 hp hpc.1 (by omega) (by omega)
        obtain ⟨C',o5',o6',g,J⟩:=Zgq e2 fuel (C ++ [p]) (V ++ Zkg w ls p) (some (.pl (tupI p))) q6 J0 (by rw [List.length_append,List.length_append,List.length_singleton]; omega) (by rw [List.length_append,List.length_append,List.length_singleton]; omega)
        refine ⟨C',o5',o6',?_,J⟩
        unfold ZaE
        rw [ht]
        dsimp only
        rw [e]
        exact g
theorem Zli (hb:Cr w.many b):∃ L,ZcH [w.d,tupI ls,tupI b] = some (.dict (Zo (Zz w ls L)))/\L.Nodup/\L.length <= 128/\(∀ c ∈ L,Cr w.many c/\c ≠ [])/\(∀ c ∈ L,Zk7 w ls b c)/\Zbu w ls L/\∀ p ∈ Zl w ls b,p ∈ L:=by
 have hp:=Zjn hv hl hb
 have hsl:=split_len (w:=w) (ls:=ls) (c:=b)
 have hbl:=hb.len
 have hci:=ZfE (Zt w ls b) (by omega)
 have hpl:=Zqt (w:=w) (ls:=ls) (c:=b)
 have I0:Zg8 w ls b [] (Zl w ls b):=⟨.nil,fun c h=>(by simp at h),fun c h=>⟨(Ze5 hb h).1,(Ze5 hb h).2.1⟩,fun c h=>(by simp at h),fun c h=>.beg h,fun c h=>(by simp at h),fun p h=>.inr h⟩
 obtain ⟨L,o5,o6,g,J⟩:=Zgq hv h7 hl (b:=b) (some (.pl (tupI b))) 100000 [] (Zl w ls b) none none I0 (by simp; omega) (by simp; omega)
 refine ⟨L,?_,J.nd,J.len hv h7,J.cr,J.rc,fun c hc d hd can p hp=>?_,fun p hp=>?_⟩
 ·show Zbs (Zd6 [some (.pl w.d),some (.pl (tupI ls)),some (.pl (tupI b)),none,none,none,none]) = _
  have e:Zd6 [some (.pl w.d),some (.pl (tupI ls)),some (.pl (tupI b)),none,none,none,none] = some (.rt (.dict (Zo (Zz w ls L)))):=by
   unfold Zd6
   refine ZQ (P:=fun q=>q = _) (r':=[some (.pl w.d),some (.pl (tupI ls)),some (.pl (tupI b)),some (.ot (Zz w ls [])),none,none,none]) rfl ?_
   refine ZQ (P:=fun q=>q = _) (r':=[some (.pl w.d),some (.pl (tupI ls)),some (.pl (tupI b)),some (.ot (Zz w ls [])),some (.ol ((Zl w ls b).map tupI)),none,none]) ?_ ?_
   ·simp [hp,hci,Zl]
   ·refine ZQ (P:=fun q=>q = _) g ?_
    simp
  rw [e]
  rfl
 ·rcases J.cl c hc d hd can p hp with h | h
  ·exact h
  ·simp at h
 ·rcases J.bg p hp with h | h
  ·exact h
  ·simp at h
end
end HG5
namespace HG5
open PySem HM HG HG4
theorem ZlQ (w:Wk) (ls:List Int) (L:List (List Int)):((Zz w ls L).map fun p=>PyData.tuple (p.1.map ZaO)) = L.map tupI:=by
 unfold Zz
 rw [List.map_map]
 refine List.map_congr_left fun c _=>?_
 show PyData.tuple ((c.map Sum.inl).map ZaO) = PyData.tuple (c.map dI)
 rw [List.map_map]
 rfl
theorem Zpc (e0 e1 e4 e6:Option B) (v:Int):∀ (ms:List (List Int)) (M:Tb) (o:Option B),M.length + ms.length < 100000->Zbw o = false ->
    ∃ p,Zbw p = false/\Z2 5 Zda (ms.map tupI) [e0,e1,some (.ot (encM M)),some (.pl (dI v)),e4,o,e6] = some (.nx [e0,e1,some (.ot (encM (ms.foldl (fun M c=>putD M c v) M))),some (.pl (dI v)),e4,p,e6])
  | [],M,o,_,h=>⟨o,h,rfl⟩
  | c :: ms, M, o, hlen, _ => by
    rw [List.length_cons] at hlen
    have hml:(encM M).length < 1000000:=by unfold encM; rw [List.length_map]; omega
    have hk:ZaV (tupI c) = some (Z8 c):=Zax c
    have hput:=Zki M c v
    have hpl:=Zju c v M
    have e:Zda [e0,e1,some (.ot (encM M)),some (.pl (dI v)),e4,some (.pl (tupI c)),e6] = some (.nx [e0,e1,some (.ot (encM (putD M c v))),some (.pl (dI v)),e4,some (.pl (tupI c)),e6]):=by
      rw [<- hput]
      simp [Zda,hk,hml]
    obtain ⟨p,hp,ih⟩:=Zpc e0 e1 e4 e6 v ms (putD M c v) (some (.pl (tupI c))) (by omega) rfl
    refine ⟨p,hp,?_⟩
    rw [List.map_cons,List.foldl_cons,<- ih]
    show (match Zda [e0,e1,some (.ot (encM M)),some (.pl (dI v)),e4,some (.pl (tupI c)),e6] with | some (.nx r')=>_ | some (.ct r')=>_ | some (.bk r')=>_ | some (.rt d)=>_ | none=>_) = _
    rw [e]
theorem ZtG {L:List (List Int)} {M:Tb} (r:HM.Env) (h:r[2]? = some (some (.ot (encM M)))):ZaM (tV (Zck (Zb 0) (Zk 3))) (Zb 0) r (L.map tupI) = some ((L.filter fun c=>!ZD M c).map tupI):=by
 rw [Zcw tupI (fun c=>!ZD M c) tupI]
 ·intro c _
  have hk:ZaV (tupI c) = some (Z8 c):=Zax c
  have hlk:=Zc3 M c
  unfold ZD
  cases hq:Ze M c with
  | none=>rw [hq] at hlk; simp [h,hk,hlk]
  | some k=>rw [hq] at hlk; simp [h,hk,hlk]
 ·intro c _ _
  simp
theorem Ztm {M:Tb} {n:Int} (h:∀ p k,Ze M p = some k->k < n) (p:List Int):okP M n p = ZD M p:=by
 unfold okP ZD
 cases hq:Ze M p with
 | none=>rfl
 | some k=>simp [h p k hq]
theorem Zst {w:Wk} {ls c:List Int} {M:Tb} {n:Int} (h:∀ p k,Ze M p = some k->k < n):((doV w c).find? (okW w ls c M n)).isSome = Zem w ls c M:=by
 have e:okW w ls c M n = fun d=>(Zl w ls (Zs w c d)).all fun p=>ZD M p:=by
  funext d
  unfold okW
  congr 1
  funext p
  exact Ztm h p
 rw [e,show ∀ (p:Int->Bool) (l:List Int),(l.find? p).isSome = l.any p from fun p l=>Bool.eq_iff_iff.mpr (by rw [List.find?_isSome,List.any_eq_true])]
 unfold doV Zem
 rw [List.any_map,List.any_filter]
 rfl
section
variable {w:Wk} (hv:Wk.V w) (h7:w.many <= 7) {ls:List Int} (hl:Cr w.looks.length ls) {L:List (List Int)} (hcr:∀ c ∈ L,Cr w.many c/\c ≠ []) (hlen:L.length <= 128)
include hv hcr hlen
theorem Zse {M:Tb} {n:Int} (hn:∀ p k,Ze M p = some k->k < n) {K:List (List Int)} (hK:∀ c ∈ K,c ∈ L) (r:HM.Env) (h1:r[1]? = some (some (.pl (.dict (Zo (Zz w ls L)))))) (h2:r[2]? = some (some (.ot (encM M)))) (h3:r[3]? = some (some (.pl (.int n)))) :
    ZaM (tV (op2 ZjF (Zp Zaq (Zc (Zbi (Zk 2) (Zb 0)) (Zc (Zgz (Zk 3)) (Zc (Zb 4) Zm)))) (eC .none))) (Zb 0) r (K.map tupI) = some ((K.filter fun c=>Zem w ls c M).map tupI):=by
  rw [Zcw tupI (fun c=>Zem w ls c M) tupI]
  · intro c hc
    have hk:ZaV (tupI c) = some (Z8 c):=Zax c
    have hlk:=Zho w ls L c
    rw [if_pos (hK c hc)] at hlk
    have hww:=Zgv hv (ls:=ls) (M:=M) (n:=n) (hcr c (hK c hc)).1
    have hfc:=Zst (w:=w) (ls:=ls) (c:=c) hn
    cases hq:(doV w c).find? (okW w ls c M n) with
    | none =>
      rw [hq] at hww hfc
      rw [<- hfc]
      simp [h1,h2,h3,dec_enc,hk,hlk,hww]
    | some d =>
      rw [hq] at hww hfc
      rw [<- hfc]
      simp [h1,h2,h3,dec_enc,hk,hlk,hww,ZaW]
  · intro c _ _
    simp
def Zgu (w:Wk) (ls:List Int) (L:List (List Int)) (M:Tb):Prop:=∃ t,Zik w ls L t M/\Zaj w ls L M = []
theorem Zj2 {M:Tb} {t:Nat} {found:List (List Int)} {o5 o6:Option B} (h5:Zbw o5 = false) (h6:Zbw o6 = false) (hf:found.length <= 128) (hM:M.length < 50000)
  (hn:∀ p k,Ze (found.foldl (fun M c=>putD M c (t:Int)) M) p = some k->k < ((t + 1:Nat):Int)) :
  ∃ p5 p6,Zbw p5 = false/\Zbw p6 = false/\Zdb [some (.pl w.d),some (.pl (.dict (Zo (Zz w ls L)))),some (.ot (encM M)),some (.pl (dN t)),some (.ol (found.map tupI)),o5,o6] =
   some (.nx [some (.pl w.d),some (.pl (.dict (Zo (Zz w ls L)))),some (.ot (encM (found.foldl (fun M c=>putD M c (t:Int)) M))),some (.pl (dN (t + 1))),some (.ol ((Zaj w ls L (found.foldl (fun M c=>putD M c (t:Int)) M)).map tupI)),p5,p6]):=by
 obtain ⟨p5,hp5,e1⟩:=Zpc (some (.pl w.d)) (some (.pl (.dict (Zo (Zz w ls L))))) (some (.pl (.list (found.map tupI)))) o6 (t:Int) found M o5 (by omega) h5
 generalize hM':found.foldl (fun M c=>putD M c (t:Int)) M = M' at *
 have hfb:found.length < 1000000:=by omega
 have hlb:L.length < 1000000:=by omega
 have hfl:(L.filter fun c=>!ZD M' c).length < 1000000:=by
  have:=List.length_filter_le (fun c=>!ZD M' c) L
  omega
 refine ⟨p5,some (.pl (.list ((L.filter fun c=>!ZD M' c).map tupI))),hp5,rfl,?_⟩
 unfold Zdb
 refine ZQ (P:=fun q=>q = _) (r':=[some (.pl w.d),some (.pl (.dict (Zo (Zz w ls L)))),some (.ot (encM M')),some (.pl (dN t)),some (.pl (.list (found.map tupI))),p5,o6]) ?_ ?_
 ·unfold Zg4 ZkV Za9
  simp [hfb]
  exact e1
 ·refine ZQ (P:=fun q=>q = _) (r':=[some (.pl w.d),some (.pl (.dict (Zo (Zz w ls L)))),some (.ot (encM M')),some (.pl (dN (t + 1))),some (.pl (.list (found.map tupI))),p5,o6]) (by simp) ?_
  refine ZQ (P:=fun q=>q = _) (r':=[some (.pl w.d),some (.pl (.dict (Zo (Zz w ls L)))),some (.ot (encM M')),some (.pl (dN (t + 1))),some (.pl (.list (found.map tupI))),p5,some (.ol ((L.filter fun c=>!ZD M' c).map tupI))]) ?_ ?_
  ·have hw:Zeg 1 [some (.pl w.d),some (.hd (Zo (Zz w ls L))),some (.ot (encM M')),some (.pl (dN (t + 1))),some (.pl (.list (found.map tupI))),p5,o6] = some (L.map tupI):=by
    show (ZgY (Zo (Zz w ls L))).map _ = _
    rw [dec_enc,<- ZlQ w ls L]
    rfl
   have hc:ZT (Zeg 1) (tV (Zck (Zb 0) (Zk 3))) (Zb 0) [some (.pl w.d),some (.hd (Zo (Zz w ls L))),some (.ot (encM M')),some (.pl (dN (t + 1))),some (.pl (.list (found.map tupI))),p5,o6] = some (.ol ((L.filter fun c=>!ZD M' c).map tupI)):=by
    unfold ZT
    rw [hw]
    dsimp only
    rw [if_pos (by rw [List.length_map]; exact hlb),ZtG _ rfl]
    rfl
   have a1:[some (B.pl w.d),some (.pl (.dict (Zo (Zz w ls L)))),some (.ot (encM M')),some (.pl (dN (t + 1))),some (.pl (.list (found.map tupI))),p5,o6].all (fun q=>!Zbw q) = true:=by
    simp only [List.all_cons,List.all_nil,hp5,h6]
    rfl
   have a2:([some (B.pl w.d),none,some (.ot (encM M')),some (.pl (dN (t + 1))),some (.pl (.list (found.map tupI))),p5,some (.ol ((L.filter fun c=>!ZD M' c).map tupI))]:HM.Env).all (fun q=>!Zbw q) = true:=by
    simp only [List.all_cons,List.all_nil,hp5]
    rfl
   show (if _ then _ else _) = _
   rw [if_pos a1]
   show (match Zac 6 _ [some (.pl w.d),some (.hd (Zo (Zz w ls L))),some (.ot (encM M')),some (.pl (dN (t + 1))),some (.pl (.list (found.map tupI))),p5,o6] with | some (.nx r')=>_ | some (.rt d)=>_ | _=>none) = _
   unfold Zac
   rw [hc]
   show (if ([some (B.pl w.d),none,some (.ot (encM M')),some (.pl (dN (t + 1))),some (.pl (.list (found.map tupI))),p5,some (.ol ((L.filter fun c=>!ZD M' c).map tupI))]:HM.Env).all (fun q=>!Zbw q) = true then _ else _) = _
   rw [if_pos a2]
   rfl
  ·have hg:=Zse hv hcr hlen (M:=M') (n:=((t + 1:Nat):Int)) hn (K:=L.filter fun c=>!ZD M' c) (fun c hc=>(List.mem_filter.mp hc).1) [some (.pl w.d),some (.pl (.dict (Zo (Zz w ls L)))),some (.ot (encM M')),some (.pl (dN (t + 1))),some (.pl (.list (found.map tupI))),p5,some (.pl (.list ((L.filter fun c=>!ZD M' c).map tupI)))] rfl rfl rfl
   have hmm:(L.filter fun c=>!ZD M' c).filter (fun c=>Zem w ls c M') = Zaj w ls L M':=by
    unfold Zaj
    rw [List.filter_filter]
    congr 1
    funext c
    exact Bool.and_comm _ _
   rw [hmm] at hg
   show Zac 4 _ [some (.pl w.d),some (.pl (.dict (Zo (Zz w ls L)))),some (.ot (encM M')),some (.pl (dN (t + 1))),some (.pl (.list (found.map tupI))),p5,some (.pl (.list ((L.filter fun c=>!ZD M' c).map tupI)))] = _
   unfold Zac ZT
   show Option.map _ (if ((L.filter fun c=>!ZD M' c).map tupI).length < big then _ else _) = _
   rw [if_pos (by rw [List.length_map]; exact hfl),hg]
   rfl
theorem ZiE (hL:Zbu w ls L):∀ (fuel t:Nat) (M:Tb) (found:List (List Int)) (o5 o6:Option B),Zbw o5 = false->Zbw o6 = false->(∀ c ∈ found,c ∈ L/\ZD M c = false)->Zik w ls L t (found.foldl (fun M c=>putD M c (t:Int)) M)->M.length <= 128 * t->t <= (L.filter fun c=>ZD M c).length->found.length <= 128->130 <= t + fuel->(found = []->Zaj w ls L M = []) ->
    ∃ M' p3 p4 p5 p6,ZaE (tV (op2 gGt (ZaB (Zk 4)) (eC (.int 0)))) Zdb fuel [some (.pl w.d),some (.pl (.dict (Zo (Zz w ls L)))),some (.ot (encM M)),some (.pl (dN t)),some (.ol (found.map tupI)),o5,o6] = some (.nx [some (.pl w.d),some (.pl (.dict (Zo (Zz w ls L)))),some (.ot (encM M')),p3,p4,p5,p6])/\Zgu w ls L M'
  | 0, t, M, found, o5, o6, _, _, _, _, _, ht, _, hfu, _ => by
    have:=List.length_filter_le (fun c=>ZD M c) L
    omega
  | fuel + 1, t, M, found, o5, o6, h5, h6, hfo, T, hM, ht, hfl, hfu, hfin => by
    have htl:=List.length_filter_le (fun c=>ZD M c) L
    by_cases hf:found = []
    · subst hf
      refine ⟨M,some (.pl (dN t)),some (.ol []),o5,o6,?_,t,T,hfin rfl⟩
      unfold ZaE
      have e:(tV (op2 gGt (ZaB (Zk 4)) (eC (.int 0)))) [some (.pl w.d),some (.pl (.dict (Zo (Zz w ls L)))),some (.ot (encM M)),some (.pl (dN t)),some (.ol (([]:List (List Int)).map tupI)),o5,o6] = some false:=by simp
      rw [e]
      rfl
    · have e:(tV (op2 gGt (ZaB (Zk 4)) (eC (.int 0)))) [some (.pl w.d),some (.pl (.dict (Zo (Zz w ls L)))),some (.ot (encM M)),some (.pl (dN t)),some (.ol (found.map tupI)),o5,o6] = some true:=by
        have:0 < found.length:=List.length_pos_iff.mpr hf
        simp
        omega
      have hlt:∀ p k,Ze (found.foldl (fun M c=>putD M c (t:Int)) M) p = some k->k < ((t + 1:Nat):Int):=fun p k hk=>by
        rw [T.look] at hk
        split at hk
        · obtain ⟨n, rfl, hn, _⟩ := Zed hk
          omega
        · cases hk
      obtain ⟨p5,p6,g5,g6,ht1⟩:=Zj2 hv hcr hlen (ls:=ls) (M:=M) (t:=t) (found:=found) h5 h6 hfl (by omega) hlt
      have hml:=Zgc (t:Int) found M
      have hlk:=fun k=>Zgg (t:Int) k found M
      generalize hM':found.foldl (fun M c=>putD M c (t:Int)) M = M' at T hlt ht1 hml hlk
      have T':=Zh7 hL T
      have hcnt:(L.filter fun c=>ZD M c).length < (L.filter fun c=>ZD M' c).length:=by
        refine Zdh (fun x _ hx=>?_) ?_
        · unfold ZD at hx ⊢
          rw [hlk]
          split
          · rfl
          · exact hx
        · obtain ⟨c, cs, rfl⟩ := List.exists_cons_of_ne_nil hf
          refine ⟨c,(hfo c (List.mem_cons_self ..)).1,?_,(hfo c (List.mem_cons_self ..)).2⟩
          unfold ZD
          rw [hlk,if_pos (List.mem_cons_self ..)]
          rfl
      have hmo:∀ c ∈ Zaj w ls L M',c ∈ L/\ZD M' c = false:=fun c hc=>by
        obtain ⟨h1,h2⟩:=List.mem_filter.mp hc
        rw [Bool.and_eq_true] at h2
        exact ⟨h1,by simpa using h2.1⟩
      have hmol:(Zaj w ls L M').length <= 128:=by
        have:(Zaj w ls L M').length <= L.length:=List.length_filter_le _ _
        omega
      obtain ⟨M'',q3,q4,q5,q6,g,J⟩:=ZiE hL fuel (t + 1) M' (Zaj w ls L M') p5 p6 g5 g6 hmo T' (by omega) (by omega) hmol (by omega) id
      refine ⟨M'',q3,q4,q5,q6,?_,J⟩
      unfold ZaE
      rw [e]
      dsimp only
      rw [ht1]
      exact g
theorem ZnB:Zaj w ls L [] = []:=by
 refine List.filter_eq_nil_iff.mpr fun c hc h=>?_
 rw [Bool.and_eq_true] at h
 obtain ⟨d,hd,hq⟩:=List.any_eq_true.mp h.2
 rw [Bool.and_eq_true] at hq
 obtain ⟨p,hp⟩:=List.exists_mem_of_ne_nil _ (Zip (w:=w) (ls:=ls) (Zrt (hcr c hc).2 hq.1))
 have:=List.all_eq_true.mp hq.2 p hp
 cases this
theorem Zj4:ZjG 1 (Zac 4 (ZT (Zeg 1) (tV (Zp Zbz (Zc (Zb 1) (Zc (Zb 0) Zm)))) (Zb 0))) [some (.pl w.d),some (.pl (.dict (Zo (Zz w ls L)))),some (.ot (encM [])),some (.pl (dN 0)),none,none,none] = some (.nx [some (.pl w.d),some (.pl (.dict (Zo (Zz w ls L)))),some (.ot (encM [])),some (.pl (dN 0)),some (.ol ((L.filter fun c=>Z0 w c).map tupI)),none,none]):=by
 have hlb:L.length < 1000000:=by omega
 have hw:Zeg 1 [some (.pl w.d),some (.hd (Zo (Zz w ls L))),some (.ot (encM [])),some (.pl (dN 0)),none,none,none] = some (L.map tupI):=by
  show (ZgY (Zo (Zz w ls L))).map _ = _
  rw [dec_enc,<- ZlQ w ls L]
  rfl
 have hgo:∀ r:HM.Env,r[0]? = some (some (.pl w.d))->ZaM (tV (Zp Zbz (Zc (Zb 1) (Zc (Zb 0) Zm)))) (Zb 0) r (L.map tupI) = some ((L.filter fun c=>Z0 w c).map tupI):=fun r r0=>by
  rw [Zcw tupI (fun c=>Z0 w c) tupI]
  ·intro c hc
   have:=ZoP (w:=w) (c:=c) (by have:=(hcr c hc).1.len; have:=hv.m2; omega)
   simp [r0,this]
  ·intro c _ _
   simp
 have hc:ZT (Zeg 1) (tV (Zp Zbz (Zc (Zb 1) (Zc (Zb 0) Zm)))) (Zb 0) [some (.pl w.d),some (.hd (Zo (Zz w ls L))),some (.ot (encM [])),some (.pl (dN 0)),none,none,none] = some (.ol ((L.filter fun c=>Z0 w c).map tupI)):=by
  unfold ZT
  rw [hw]
  dsimp only
  rw [if_pos (by rw [List.length_map]; exact hlb),hgo _ rfl]
  rfl
 show (match Zac 4 _ [some (.pl w.d),some (.hd (Zo (Zz w ls L))),some (.ot (encM [])),some (.pl (dN 0)),none,none,none] with | some (.nx r')=>_ | some (.rt d)=>_ | _=>none) = _
 unfold Zac
 rw [hc]
 rfl
theorem Zn3 (hL:Zbu w ls L):∃ M,ZcI [w.d,.dict (Zo (Zz w ls L))] = some (.dict (Zo (encM M)))/\Zgu w ls L M:=by
 have hlb:L.length < 1000000:=by omega
 have hfl:(L.filter fun c=>Z0 w c).length <= 128:=Nat.le_trans (List.length_filter_le _ _) hlen
 obtain ⟨M,p3,p4,p5,p6,g,J⟩:=ZiE hv hcr hlen hL 100000 0 [] (L.filter fun c=>Z0 w c) none none rfl rfl (fun c hc=>⟨(List.mem_filter.mp hc).1,rfl⟩) Zka (by simp) (Nat.zero_le _) hfl (by omega) fun _=>ZnB hv hcr hlen
 refine ⟨M,?_,J⟩
 show Zbs (Zb5 [some (.pl w.d),some (.pl (.dict (Zo (Zz w ls L)))),none,none,none,none,none]) = _
 have e:Zb5 [some (.pl w.d),some (.pl (.dict (Zo (Zz w ls L)))),none,none,none,none,none] = some (.rt (.dict (Zo (encM M)))):=by
  unfold Zb5
  refine ZQ (P:=fun q=>q = _) (r':=[some (.pl w.d),some (.pl (.dict (Zo (Zz w ls L)))),some (.ot (encM [])),none,none,none,none]) rfl ?_
  refine ZQ (P:=fun q=>q = _) (r':=[some (.pl w.d),some (.pl (.dict (Zo (Zz w ls L)))),some (.ot (encM [])),some (.pl (dN 0)),none,none,none]) rfl ?_
  refine ZQ (P:=fun q=>q = _) (r':=[some (.pl w.d),some (.pl (.dict (Zo (Zz w ls L)))),some (.ot (encM [])),some (.pl (dN 0)),some (.ol ((L.filter fun c=>Z0 w c).map tupI)),none,none]) ?_ ?_
  ·exact Zj4 hv hcr hlen
  ·refine ZQ (P:=fun q=>q = _) g ?_
   simp
 rw [e]
 rfl
end
end HG5
namespace HG5
open PySem HM HG
end HG5
namespace HG5
open PySem HM HG HG4
theorem Zgu.cost {w:Wk} {ls:List Int} {L:List (List Int)} {M:Tb} (F:Zgu w ls L M) {c:List Int} {k:Int} (h:Ze M c = some k):c ∈ L/\∃ n:Nat,k = (n:Int)/\Win w ls n c = true/\∀ m,m < n->Win w ls m c = false:=by
 obtain ⟨t,T,_⟩:=F
 rw [T.look] at h
 split at h
 ·rename_i hc
  obtain ⟨n,h1,_,h2,h3⟩:=Zed h
  exact ⟨hc,n,h1,h2,h3⟩
 ·cases h
theorem Zgu.all {w:Wk} {ls:List Int} {L:List (List Int)} (hL:Zbu w ls L) {M:Tb} (F:Zgu w ls L M) {c:List Int} (hc:c ∈ L) {n:Nat} (h:Win w ls n c = true):ZD M c = true:=by
 obtain ⟨t,T,hm⟩:=F
 have T':=Zh7 hL T
 rw [hm] at T'
 have st:∀ c ∈ L,Win w ls (t + 1) c = true->Win w ls t c = true:=fun c hc q=>by
  have e1:=T.look c
  have e2:=T'.look c
  rw [if_pos hc] at e1 e2
  have e3:ZcA w ls t c = ZcA w ls (t + 1) c:=e1.symm.trans e2
  rw [<- Zc6,e3,Zc6]
  exact q
 have:=Zib hL st n c hc h
 unfold ZD
 rw [T.look,if_pos hc,Zc6]
 exact this
theorem Zmm {g:Gs} (hg:g.length < 1000000) {M:Tb}:Zdc [.list (g.map ZK),.dict (Zo (encM M))] =
    if (g.map (·.2)).all (ZD M) then (((g.map (·.2)).map fun p=>(Ze M p).getD 0).max?).map fun i=>PyData.int i else some .none:=by
  have hci:=ZfE g hg
  have hlen:((g.map (·.2)).map tupI).length < big:=by rw [List.length_map,List.length_map]; exact hg
  show Zbs (Zgl [some (.pl (.list (g.map ZK))),some (.pl (.dict (Zo (encM M))))]) = _
  have h1:Z1 (bOf (Zp ZE (Zc (Zb 0) Zm))) [some (.pl (.list (g.map ZK))),some (.pl (.dict (Zo (encM M))))] = some ((g.map (·.2)).map tupI):=by
    unfold Z1 bOf
    show (match Option.map B.pl (ZE [.list (g.map ZK)]) with | some x=>Zbb x | none=>none) = _
    rw [hci]
    rfl
  have h2:ZaM ZV (ZhB (Zb 0) (Zk 2)) [some (.pl (.list (g.map ZK))),some (.pl (.dict (Zo (encM M))))] ((g.map (·.2)).map tupI) = some ((g.map (·.2)).map fun p=>PyData.bool (ZD M p)):=by
    rw [ZaU tupI (fun p=>PyData.bool (ZD M p))]
    intro p _
    have hk:ZaV (tupI p) = some (Z8 p):=Zax p
    simp [dec_enc,hk,Zc3,ZD]
  have h3:ZfB (ZT (Z1 (bOf (Zp ZE (Zc (Zb 0) Zm)))) ZV (ZhB (Zb 0) (Zk 2))) [some (.pl (.list (g.map ZK))),some (.pl (.dict (Zo (encM M))))] = some (.bool ((g.map (·.2)).all (ZD M))):=by
    unfold ZfB ZT
    rw [h1]
    dsimp only
    rw [if_pos hlen,h2]
    show (ZeP ((g.map (·.2)).map fun p=>PyData.bool (ZD M p))).map _ = _
    rw [Zkp]
    show some (PyData.bool (((g.map (·.2)).map (ZD M)).all id)) = _
    rw [List.all_map]
    rfl
  unfold Zgl Zu sIf ZbJ tV
  rw [h3]
  cases hq:(g.map (·.2)).all (ZD M) with
  | false=>rfl
  | true =>
    rw [if_pos rfl]
    show Zbs (Option.map Out.rt (Zis _ _)) = _
    have h4:ZaM ZV (Zbi (Zk 2) (Zb 0)) [some (.pl (.list (g.map ZK))),some (.pl (.dict (Zo (encM M))))] ((g.map (·.2)).map tupI) = some (((g.map (·.2)).map fun p=>(Ze M p).getD 0).map dI):=by
      rw [ZaU tupI (fun p=>dI ((Ze M p).getD 0))]
      · simp only [List.map_map]; rfl
      · intro p hp
        have hk:ZaV (tupI p) = some (Z8 p):=Zax p
        have hh:=List.all_eq_true.mp hq p hp
        unfold ZD at hh
        obtain ⟨k,hk'⟩:=Option.isSome_iff_exists.mp hh
        have hlk:=Zc3 M p
        rw [hk'] at hlk
        simp [dec_enc,hk,hlk,hk']
    unfold Zis ZT
    rw [h1]
    dsimp only
    rw [if_pos hlen,h4]
    show Zbs (Option.map Out.rt (match Zbk (((g.map (·.2)).map fun p=>(Ze M p).getD 0).map dI) with | some ns=>ns.max?.map fun i=>PyData.int i | none=>none)) = _
    rw [Zcb]
    dsimp only
    cases ((g.map (·.2)).map fun p=>(Ze M p).getD 0).max? <;> rfl
def ZwN (w:Wk) (ls:List Int) (P:List (List Int)) (d:D):Prop:=(∃ n:Nat,d = .int n/\(∀ p ∈ P,Win w ls n p = true)/\∀ m,m < n->¬ ∀ p ∈ P,Win w ls m p = true)\/(d = .none/\∀ n,¬ ∀ p ∈ P,Win w ls n p = true)
end HG5
namespace HP
open PySem PySem.Spec PyProof.Rows L2
end HP
namespace HP
open PySem PySem.Spec PyProof.Rows L2
section
variable {X:Cx} {a b c e:Expr} {fa fb fc:HM.EF} {f:HM.BF} {pos p:Pos} {es:List Expr}
theorem ZrK {x y:Str} (hm:∃ a,X.mg x = some (.ref a)/\Zog X.K a [.str y]) (hg:Gl X x:=by rfl) (hd:(x == ("__debug__":Str)) = false:=by decide):XE X (.Name x pos) (HM.eC (.tuple [.str y])):=by
 obtain ⟨a,hm,hk⟩:=hm
 exact ZfF (Zpa hg hm (v:=.ref a) rfl hd) fun _=>.tupk hk
theorem Zqu {K:PySem.W.Frag} {F F2 H2:Hp} (s:Zw F2 H2):∀ (n:Nat) {d:PyData} {v:V},HM.Zeh n d = true->Rep K F2 d v->Rep K (ZcW F H2) d v:=by
  intro n
  induction n with
  | zero =>
    intro d v h r
    cases r with
    | non=>exact .non
    | bl b=>exact .bl b
    | int i=>exact .int i
    | str x=>exact .str x
    | tupk h1=>exact .tupk h1
    | tup _ _ _=>cases h
    | lst _ _ _=>cases h
    | dct _ _ _ _=>cases h
  | succ n ih =>
    intro d v h r
    cases r with
    | non=>exact .non
    | bl b=>exact .bl b
    | int i=>exact .int i
    | str x=>exact .str x
    | tupk h1=>exact .tupk h1
    | tup h1 h2 h3=>exact .tup (Zkd (s _ _ h1)) h2 fun i d v e1 e2=>ih (List.all_eq_true.mp h d (List.mem_of_getElem? e1)) (h3 i d v e1 e2)
    | lst _ _ _=>cases h
    | dct _ _ _ _=>cases h
theorem ZrL {k:Nat} {x:Str} {g:HM.AF} {M:List PyData->Option PyData} (C:Callee X.prog X.w X.K X.mg X.base k x M) (hr:ZaN k X.A) (ha:XAL X (e :: es) g) (hg:Gl X x:=by rfl) (hdb:(x == ("__debug__":Str)) = false:=by decide)
  (he:starEach (e :: es) X.env = (false,eval e X.env) :: starEach es X.env:=by rfl) (hpl:(backTo pos (starEach es X.env)).any (·.1) = false:=by rfl):XE X (.Call (.Name x p) (e :: es) [] pos) (HM.Zhc M g):=by
 intro r d hd
 unfold HM.Zhc at hd
 split at hd
 ·rename_i ds hds
  split at hd
  ·rename_i d' hM
   split at hd
   ·rename_i ht
    cases hd
    obtain ⟨fa,fd,ps,hl,F,hm,hk,hb⟩:=C.ex
    refine PE.imp (ZhL (E:=E0) F hr hg hm hk hb .nil ZkJ (ha.pa r ds hds) hdb he hpl) fun σ H Q ⟨F0,H0,F1,at_,k⟩=>?_
    refine ⟨F0,H0,F1,at_,fun vs F' H' x q=>?_⟩
    show spD X.K ps.length M (vs ++ []) H' Q E0
    rw [List.append_nil]
    exact ⟨H',ds,d,by rw [<- q.1]; exact hl ds d hM,Zw.refl H',q,hM,fun v F2 H2 x2 q2=>k v (ZcW F' H2) H2 (x.trans (Ext.forget x.sub x2).tups) (Zqu x2.sub 400 ht q2)⟩
   ·cases hd
  ·cases hd
 ·cases hd
def Zwe (K:PySem.W.Frag) (neg:Bool):R2:=fun v w H Q=>∃ F x y,Zw F H/\Rep K F x v/\Rep K F y w/\x.canLay0 = true/\HM.Zaf y = true/\Q (.bl (if neg then !PyData.eqv x y else PyData.eqv x y)) H
theorem Zvy {k:Nat} (hr:ZaN k X.A):OpR X (compareOp .NotEq) (Zwe X.K true):=by
 intro pins s σ H v w u u' Q I r1 r2 ⟨F,x,y,sub,q1,q2,a1,p2,q⟩
 obtain ⟨b1,b2⟩:=Zc4 p2
 obtain ⟨as,h1⟩:=q1.reads I sub a1 u r1
 obtain ⟨bs,h2⟩:=q2.reads I sub b1 u' r2
 refine PySem.SeqAt.neOverData X.prog X.w X.A X.xe s u u' x y as bs _ h1 h2 a1 b1 ?_ ⟨.bl _,H,I,rfl,q⟩
 have:=hr.un
 have:min x.depth y.depth <= 60:=Nat.le_trans (Nat.min_le_right _ _) b2
 omega
theorem Zvd {k:Nat} (hr:ZaN k X.A):ZeX X .NotEq HM.ZfA:=by
 refine ⟨⟨_,Zvy hr,fun F H x y z v w Q s e r1 r2 k=>?_⟩,by decide,by decide⟩
 unfold HM.ZfA at e
 split at e
 ·rename_i hp
  cases e
  rw [Bool.and_eq_true] at hp
  exact ⟨F,x,y,s,r1,r2,hp.1,hp.2,k _ (.bl _)⟩
 ·cases e
end
end HP
namespace HG6
open PySem HM
open HG
open HG5
def Zpn:SF :=
 (ZH (Zam (Zdg (Z1 (bOf (Zb 0))) ZV (Zca (Zc (Zb 0) (Zc (Zbi (Zk 3) (Zb 1)) Zm))))))
def Za5:List D->Option D:=fnOf 2 2 Zpn
def Za2:SF :=
 (sIf (tV (op2 gEq (Zbi (Zk 1) (Zb 3)) (eC (.int 0)))) (ZhE 2 (Zb 3) (eC (.tuple [.str (Str.ofString "done")]))) (Zu (Z9 4 (Zp Zaq (Zc (Zbi (Zk 0) (Zb 3)) (Zc (eHd 1) (Zc (Zbi (Zk 1) (Zb 3)) Zm)))))
  (ZhE 2 (Zb 3) (Zca (Zc (eC (.str (Str.ofString "do"))) (Zc (eIx (Zk 4) (eC (.int 0))) (Zc (Zhc Za5 (Zc (eIx (Zk 4) (eC (.int 1))) (Zc (Zgz (Zk 2)) Zm))) Zm)))))))
def ZfV:SF :=
 (Zu (Zac 2 fDt)
  (Zu (ZjG 1 (Za9 3 (Zeg 1) Za2))
  (Zg4 2 (ZH (Zb 2)))))
def Zeu:List D->Option D:=fnOf 2 5 ZfV
def Zhk:SF :=
 (Zu (ZpP (Zp Zd3 (Zc (Zb 0) Zm)))
  (Zu (ZpP (Zp Zbv (Zc (Zb 0) (Zc (Zb 1) Zm))))
  (Zu (Z9 2 (Zp ZbD (Zc (Zb 0) (Zc (Zb 1) (Zc (Zp Zdm (Zc (Zb 0) Zm)) Zm)))))
  (Zu (Z9 3 (Zp ZcH (Zc (Zb 0) (Zc (Zb 1) (Zc (Zp Zdm (Zc (Zb 0) Zm)) Zm)))))
  (Zu (Z9 4 (Zp ZcI (Zc (Zb 0) (Zc (Zb 3) Zm))))
  (Zu (sIf (tV (op2 Zlv (Zp Zdc (Zc (Zb 2) (Zc (Zb 4) Zm))) (eC .none))) (ZH (eC .none)) Zai)
  (ZH (Zp Za5 (Zc (Zb 2) (Zc (Zp Zeu (Zc (Zb 3) (Zc (Zb 4) Zm))) Zm))))))))))
def Ze3:List D->Option D:=fnOf 2 5 Zhk
def ZdA (R:List D->Option D):SF :=
 (Zu (Z9 7 (eIx (bOf (eIx (Zk 3) (Zb 6))) (eC (.int 1))))
  (Zu (Z9 8 (eC (.int 0)))
  (Zu (sIf (tV (op2 ZfA (Zb 7) (Zca (Zc (eC (.str (Str.ofString "done"))) Zm)))) (Zu (sIf (tOr (ZbJ (tV (Zeo (Zb 7) .tuple))) (tOr (tV (op2 gNe (ZaB (Zk 7)) (eC (.int 3)))) (tOr (tV (op2 gNe (eIx (Zk 7) (eC (.int 0))) (eC (.str (Str.ofString "do"))))) (ZbJ (tV (Zp Zb4 (Zc (eIx (Zk 7) (eC (.int 1))) Zm))))))) (ZH (eC (.int (-1)))) Zai)
  (Zu (Z9 9 (eC .none))
  (Zu (sIf (tV (Zga gLe gLt (eC (.int 0)) (eIx (Zk 7) (eC (.int 1))) (ZaB (bOf (eIx (Zk 0) (eC (.int 1))))))) (Z9 9 (Zp ZaS (Zc (Zb 0) (Zc (eIx (bOf (eIx (Zk 4) (Zb 6))) (eC (.int 1))) (Zc (eIx (Zk 7) (eC (.int 1))) Zm))))) Zai)
  (Zu (sIf (tV (op2 Zlv (Zb 9) (eC .none))) (ZH (eC (.int (-1)))) Zai)
  (Z9 8 (op2 Zbc (eC (.int 1)) (Zp R (Zc (Zb 0) (Zc (Zb 1) (Zc (Zb 9) (Zc (eIx (Zk 7) (eC (.int 2))) Zm))))))))))) Zai)
  (Zu (sIf (Zhz (tV (op2 gEq (Zb 8) (eC (.int 0)))) (tOr (tV (op2 ZfA (Zb 7) (Zca (Zc (eC (.str (Str.ofString "done"))) Zm)))) (ZbJ (tV (Zp Zaz (Zc (Zb 0) (Zc (eIx (bOf (eIx (Zk 4) (Zb 6))) (eC (.int 1))) Zm))))))) (ZH (eC (.int (-1)))) Zai)
  (Z9 5 (op2 Zp6 (Zb 5) (Zb 8)))))))
def Zev (R:List D->Option D):SF :=
 (Zu (Z9 4 (Zp Zah (Zc (Zb 0) (Zc (Zb 1) (Zc (Zb 2) Zm)))))
  (Zu (sIf (tOr (ZbJ (tV (Zeo (Zb 3) .tuple))) (tV (op2 gNe (eOf (ZT (Z1 (bOf (Zb 3))) ZV (eIx (Zk 0) (eC (.int 0))))) (eOf (ZT (Z1 (bOf (Zb 4))) ZV (eIx (Zk 0) (eC (.int 0)))))))) (ZH (eC (.int (-1)))) Zai)
  (Zu (Z9 5 (eC (.int 0)))
  (Zu (Za9 6 (ZbV (ZaB (Zk 4))) (ZdA R))
  (ZH (Zb 5))))))
def ZaP:Nat->List D->Option D
 | 0=>fnOf 4 10 Zi0
 | n + 1=>fnOf 4 10 (Zev (ZaP n))
def ZmF:SF :=
 (Zu (Z9 1 (Zp Za0 (Zc (Zb 0) (Zc (eC (.int 1)) Zm))))
  (Zu (Z9 2 (Zp ZcF (Zc (Zb 1) (Zc (Zp Zal (Zc (Zb 0) (Zc (eC (.int 0)) Zm))) Zm))))
  (Zu (Z9 3 (Zp Zch (Zc (Zb 1) (Zc (Zb 2) Zm))))
  (Zu (Z9 4 (Zp Ze3 (Zc (Zb 1) (Zc (Zb 2) Zm))))
  (Zu (sIf (tV (op2 Zlv (Zb 3) (eC .none))) (ZH (op2 Zlv (Zb 4) (eC .none))) Zai)
  (ZH (Ze0 (Zeo (Zb 4) .tuple) (op2 gEq (Zp (ZaP 40) (Zc (Zb 1) (Zc (Zb 2) (Zc (eIx (Zk 1) (eC (.int 3))) (Zc (Zb 4) Zm))))) (Zb 3)))))))))
def ZgN:List D->Option D:=fnOf 1 5 ZmF
end HG6
namespace HG6
open PySem HM HG4
open HG
open HG5
structure Ord (M:Tb) (t:Int):Prop where
 nd:(M.map (·.1)).Nodup
 up:(M.map (·.2)).Pairwise (· <= ·)
 lt:∀ x ∈ M,x.2 < t
theorem ZjC (M:Tb) (c:List Int):ZD M c = true ↔ c ∈ M.map (·.1):=by
  unfold ZD
  induction M with
  | nil=>exact ⟨fun h=>(by cases h),fun h=>(by simp at h)⟩
  | cons p M ih =>
    obtain ⟨a,b⟩:=p
    rw [ZbB,List.map_cons,List.mem_cons]
    by_cases h:a = c
    · rw [if_pos h]
      exact ⟨fun _=>.inl h.symm,fun _=>rfl⟩
    · rw [if_neg h, ih]
      exact ⟨.inr,fun z=>z.elim (fun e=>absurd e.symm h) id⟩
theorem ZtF {M:Tb} {c:List Int} {v:Int} (h:c ∉ M.map (·.1)):putD M c v = M ++ [(c,v)]:=by
 unfold putD
 rw [if_neg]
 intro z
 obtain ⟨p,hp,e⟩:=List.any_eq_true.mp z
 exact h (List.mem_map.mpr ⟨p,hp,of_decide_eq_true e⟩)
theorem Zm2 (t:Int):∀ (ms:List (List Int)) (M:Tb),ms.Nodup->(∀ c ∈ ms,c ∉ M.map (·.1))->ms.foldl (fun M c=>putD M c t) M = M ++ ms.map fun c=>(c,t)
  | [],M,_,_=>by simp
  | c :: ms, M, hn, h => by
    obtain ⟨n1,n2⟩:=List.nodup_cons.mp hn
    rw [List.foldl_cons,ZtF (h c (List.mem_cons_self ..)),Zm2 t ms _ n2 fun x hx z=>?_]
    · simp
    · rw [List.map_append] at z
      rcases List.mem_append.mp z with z | z
      · exact h x (List.mem_cons_of_mem _ hx) z
      · have e : x = c := by simpa using z
        exact n1 (e ▸ hx)
theorem Ord.step {M:Tb} {t:Nat} (o:Ord M t) {ms:List (List Int)} (hn:ms.Nodup) (h:∀ c ∈ ms,c ∉ M.map (·.1)):Ord (ms.foldl (fun M c=>putD M c (t:Int)) M) ((t + 1:Nat):Int):=by
 rw [Zm2 _ _ _ hn h]
 refine ⟨?_,?_,fun x hx=>?_⟩
 ·rw [List.map_append,List.map_map]
  have e:ms.map ((fun x:List Int × Int=>x.1) ∘ fun c=>(c,(t:Int))) = ms:=by
   have:((fun x:List Int × Int=>x.1) ∘ fun c=>(c,(t:Int))) = id:=rfl
   rw [this,List.map_id]
  rw [e,List.nodup_append]
  exact ⟨o.nd,hn,fun a ha b hb e=>h b hb (e ▸ ha)⟩
 ·rw [List.map_append,List.map_map,List.pairwise_append]
  refine ⟨o.up,?_,fun a ha b hb=>?_⟩
  ·rw [List.pairwise_map]
   exact List.pairwise_of_forall fun _ _=>Int.le_refl _
  ·obtain ⟨x,hx,rfl⟩:=List.mem_map.mp ha
   obtain ⟨y,_,rfl⟩:=List.mem_map.mp hb
   have:=o.lt x hx
   show x.2 <= (t:Int)
   omega
 ·rcases List.mem_append.mp hx with hx | hx
  ·have:=o.lt x hx
   omega
  ·obtain ⟨y,_,rfl⟩:=List.mem_map.mp hx
   show (t:Int) < ((t + 1:Nat):Int)
   omega
def ZuR (w:Wk) (ls:List Int) (L:List (List Int)) (M:Tb):Prop:=Zgu w ls L M/\(M.map (·.1)).Nodup/\(M.map (·.2)).Pairwise (· <= ·)
section
variable {w:Wk} (hv:Wk.V w) {ls:List Int} {L:List (List Int)} (hnd:L.Nodup) (hcr:∀ c ∈ L,Cr w.many c/\c ≠ []) (hlen:L.length <= 128)
include hv hnd hcr hlen
theorem ZhQ (hL:Zbu w ls L):∀ (fuel t:Nat) (M:Tb) (found:List (List Int)) (o5 o6:Option B),Ord M t->found.Nodup->Zbw o5 = false->Zbw o6 = false->(∀ c ∈ found,c ∈ L/\ZD M c = false)->Zik w ls L t (found.foldl (fun M c=>putD M c (t:Int)) M)->M.length <= 128 * t->t <= (L.filter fun c=>ZD M c).length->found.length <= 128->130 <= t + fuel->(found = []->Zaj w ls L M = []) ->
    ∃ M' p3 p4 p5 p6,ZaE (tV (op2 gGt (ZaB (Zk 4)) (eC (.int 0)))) Zdb fuel [some (.pl w.d),some (.pl (.dict (Zo (Zz w ls L)))),some (.ot (encM M)),some (.pl (dN t)),some (.ol (found.map tupI)),o5,o6] = some (.nx [some (.pl w.d),some (.pl (.dict (Zo (Zz w ls L)))),some (.ot (encM M')),p3,p4,p5,p6])/\ZuR w ls L M'
  | 0, t, M, found, o5, o6, _, _, _, _, _, _, _, ht, _, hfu, _ => by
    have:=List.length_filter_le (fun c=>ZD M c) L
    omega
  | fuel + 1, t, M, found, o5, o6, od, fn, h5, h6, hfo, T, hM, ht, hfl, hfu, hfin => by
    have htl:=List.length_filter_le (fun c=>ZD M c) L
    by_cases hf:found = []
    · subst hf
      refine ⟨M,some (.pl (dN t)),some (.ol []),o5,o6,?_,⟨t,T,hfin rfl⟩,od.nd,od.up⟩
      unfold ZaE
      have e:(tV (op2 gGt (ZaB (Zk 4)) (eC (.int 0)))) [some (.pl w.d),some (.pl (.dict (Zo (Zz w ls L)))),some (.ot (encM M)),some (.pl (dN t)),some (.ol (([]:List (List Int)).map tupI)),o5,o6] = some false:=by simp
      rw [e]
      rfl
    · have e:(tV (op2 gGt (ZaB (Zk 4)) (eC (.int 0)))) [some (.pl w.d),some (.pl (.dict (Zo (Zz w ls L)))),some (.ot (encM M)),some (.pl (dN t)),some (.ol (found.map tupI)),o5,o6] = some true:=by
        have:0 < found.length:=List.length_pos_iff.mpr hf
        simp
        omega
      have hlt:∀ p k,Ze (found.foldl (fun M c=>putD M c (t:Int)) M) p = some k->k < ((t + 1:Nat):Int):=fun p k hk=>by
        rw [T.look] at hk
        split at hk
        · obtain ⟨n, rfl, hn, _⟩ := Zed hk
          omega
        · cases hk
      obtain ⟨p5,p6,g5,g6,ht1⟩:=Zj2 hv hcr hlen (ls:=ls) (M:=M) (t:=t) (found:=found) h5 h6 hfl (by omega) hlt
      have hml:=Zgc (t:Int) found M
      have hlk:=fun k=>Zgg (t:Int) k found M
      have od':=od.step fn fun c hc z=>by
        have:=(hfo c hc).2
        rw [(ZjC M c).mpr z] at this
        cases this
      generalize hM':found.foldl (fun M c=>putD M c (t:Int)) M = M' at T hlt ht1 hml hlk od'
      have T':=Zh7 hL T
      have hcnt:(L.filter fun c=>ZD M c).length < (L.filter fun c=>ZD M' c).length:=by
        refine Zdh (fun x _ hx=>?_) ?_
        · unfold ZD at hx ⊢
          rw [hlk]
          split
          · rfl
          · exact hx
        · obtain ⟨c, cs, rfl⟩ := List.exists_cons_of_ne_nil hf
          refine ⟨c,(hfo c (List.mem_cons_self ..)).1,?_,(hfo c (List.mem_cons_self ..)).2⟩
          unfold ZD
          rw [hlk,if_pos (List.mem_cons_self ..)]
          rfl
      have hmo:∀ c ∈ Zaj w ls L M',c ∈ L/\ZD M' c = false:=fun c hc=>by
        obtain ⟨h1,h2⟩:=List.mem_filter.mp hc
        rw [Bool.and_eq_true] at h2
        exact ⟨h1,by simpa using h2.1⟩
      have hmol:(Zaj w ls L M').length <= 128:=by
        have:(Zaj w ls L M').length <= L.length:=List.length_filter_le _ _
        omega
      obtain ⟨M'',q3,q4,q5,q6,g,J⟩:=ZhQ hL fuel (t + 1) M' (Zaj w ls L M') p5 p6 od' (hnd.filter _) g5 g6 hmo T' (by omega) (by omega) hmol (by omega) id
      refine ⟨M'',q3,q4,q5,q6,?_,J⟩
      unfold ZaE
      rw [e]
      dsimp only
      rw [ht1]
      exact g
theorem ZpI (hL:Zbu w ls L):∃ M,ZcI [w.d,.dict (Zo (Zz w ls L))] = some (.dict (Zo (encM M)))/\ZuR w ls L M:=by
 obtain ⟨M,e1,F⟩:=Zn3 hv hcr hlen hL
 have hfl:(L.filter fun c=>Z0 w c).length <= 128:=Nat.le_trans (List.length_filter_le _ _) hlen
 obtain ⟨M',p3,p4,p5,p6,g,J⟩:=ZhQ hv hnd hcr hlen hL 100000 0 [] (L.filter fun c=>Z0 w c) none none ⟨.nil,.nil,fun x h=>(by simp at h)⟩ (hnd.filter _) rfl rfl (fun c hc=>⟨(List.mem_filter.mp hc).1,rfl⟩) Zka (by simp) (Nat.zero_le _) hfl (by omega) fun _=>ZnB hv hcr hlen
 refine ⟨M',?_,J⟩
 show Zbs (Zb5 [some (.pl w.d),some (.pl (.dict (Zo (Zz w ls L)))),none,none,none,none,none]) = _
 have e:Zb5 [some (.pl w.d),some (.pl (.dict (Zo (Zz w ls L)))),none,none,none,none,none] = some (.rt (.dict (Zo (encM M')))):=by
  unfold Zb5
  refine ZQ (P:=fun q=>q = _) (r':=[some (.pl w.d),some (.pl (.dict (Zo (Zz w ls L)))),some (.ot (encM [])),none,none,none,none]) rfl ?_
  refine ZQ (P:=fun q=>q = _) (r':=[some (.pl w.d),some (.pl (.dict (Zo (Zz w ls L)))),some (.ot (encM [])),some (.pl (dN 0)),none,none,none]) rfl ?_
  refine ZQ (P:=fun q=>q = _) (r':=[some (.pl w.d),some (.pl (.dict (Zo (Zz w ls L)))),some (.ot (encM [])),some (.pl (dN 0)),some (.ol ((L.filter fun c=>Z0 w c).map tupI)),none,none]) (Zj4 hv hcr hlen) ?_
  refine ZQ (P:=fun q=>q = _) g ?_
  simp
 rw [e]
 rfl
end
end HG6
namespace HG6
open PySem HM HG4
open HG
open HG5
def Zaw (f:List Int->D) (C:List (List Int)):List (List Ky × D):=C.map fun c=>(Z8 c,f c)
theorem Zqy (f:List Int->D) (C:List (List Int)) (k:List Int):Ze (Zaw f C) (Z8 k) = if k ∈ C then some (f k) else none:=by
  unfold Ze Zaw
  induction C with
  | nil=>rfl
  | cons c C ih =>
    rw [List.map_cons,List.find?_cons]
    by_cases h:c = k
    · subst h
      rw [if_pos (List.mem_cons_self ..)]
      simp
    · have h' : decide ((Z8 c, f c).1 = Z8 k) = false := decide_eq_false fun e => h (ZeZ e)
      rw [h']
      dsimp only
      rw [ih]
      by_cases q:k ∈ C
      · rw [if_pos q,if_pos (List.mem_cons_of_mem _ q)]
      · rw [if_neg q,if_neg fun z=>by
          rcases List.mem_cons.mp z with e | e
          · exact h e.symm
          · exact q e]
theorem Zsw {f:List Int->D} {C:List (List Int)} {k:List Int} (h:k ∉ C):putD (Zaw f C) (Z8 k) (f k) = Zaw f (C ++ [k]):=by
 unfold putD
 rw [if_neg]
 ·unfold Zaw
  rw [List.map_append]
  rfl
 ·intro z
  obtain ⟨p,hp,e⟩:=List.any_eq_true.mp z
  unfold Zaw at hp
  obtain ⟨c,hc,rfl⟩:=List.mem_map.mp hp
  have e:=ZeZ (of_decide_eq_true e)
  subst e
  exact h hc
abbrev ZaC:D:=.tuple [.str (Str.ofString "done")]
abbrev doS:D:=.str (Str.ofString "do")
def Z6 (S:List Int->D) (g:Gs):D:=.tuple (g.map fun p=>.tuple [tupI p.1,S p.2])
section
variable (M:Tb) (w:Wk) (ls:List Int)
def Zao (c:List Int) (k:Int):Int:=((doV w c).find? (okW w ls c M k)).getD 0
def Zee:Nat->List Int->D
 | 0,_=>ZaC
 | n + 1,c=>if Ze M c = some 0 then ZaC else .tuple [doS,dI (Zao M w ls c ((Ze M c).getD 0)),Z6 (Zee n) (Zt w ls (Zs w c (Zao M w ls c ((Ze M c).getD 0))))]
def Zcc (c:List Int):Nat:=((Ze M c).getD 0).toNat
def Zr (c:List Int):D:=Zee M w ls (Zcc M c) c
end
section
variable {M:Tb} {w:Wk} {ls:List Int} {L:List (List Int)} (hL:Zbu w ls L) (F:Zgu w ls L M)
include hL F
theorem Zpi {c:List Int} {n:Nat} {d:Int} (hd:d ∈ doV w c) (h:∀ p ∈ Zl w ls (Zs w c d),Win w ls n p = true):Win w ls (n + 1) c = true:=by
 obtain ⟨d0,d1,d2⟩:=Zcx hd
 have e:((d.toNat:Nat):Int) = d:=Int.toNat_of_nonneg d0
 show (Z0 w c || (List.range w.deeds.length).any fun d=>Zak w c d && (Zl w ls (Zs w c d)).all fun p=>Win w ls n p) = true
 rw [Bool.or_eq_true]
 right
 refine List.any_eq_true.mpr ⟨d.toNat,List.mem_range.mpr (by omega),?_⟩
 rw [e,Bool.and_eq_true]
 exact ⟨d2,List.all_eq_true.mpr h⟩
theorem ZfU {c:List Int} {k:Nat} (hk:Ze M c = some ((k + 1:Nat):Int)):Zao M w ls c ((k + 1:Nat):Int) ∈ doV w c/\okW w ls c M ((k + 1:Nat):Int) (Zao M w ls c ((k + 1:Nat):Int)) = true/\(doV w c).find? (okW w ls c M ((k + 1:Nat):Int)) = some (Zao M w ls c ((k + 1:Nat):Int)):=by
 obtain ⟨hc,n,e,h1,h2⟩:=F.cost hk
 obtain rfl:n = k + 1:=by omega
 have hw:(Z0 w c || (List.range w.deeds.length).any fun d=>Zak w c d && (Zl w ls (Zs w c d)).all fun p=>Win w ls k p) = true:=h1
 have ht:Z0 w c = false:=h2 0 (by omega)
 rw [ht,Bool.false_or] at hw
 obtain ⟨d,hd,hq⟩:=List.any_eq_true.mp hw
 rw [Bool.and_eq_true] at hq
 have hdo:=ZoV (List.mem_range.mp hd) hq.1
 have hok:okW w ls c M ((k + 1:Nat):Int) d = true:=by
  unfold okW
  refine List.all_eq_true.mpr fun p hp=>?_
  have hwp:=List.all_eq_true.mp hq.2 p hp
  have hpl:=hL c hc d (List.mem_range.mp hd) hq.1 p hp
  have:=F.all hL hpl hwp
  unfold ZD at this
  obtain ⟨j,hj⟩:=Option.isSome_iff_exists.mp this
  obtain ⟨_,m,rfl,g1,g2⟩:=F.cost hj
  unfold okP
  rw [hj]
  have:m <= k:=by
   apply Classical.byContradiction
   intro z
   rw [g2 k (by omega)] at hwp
   cases hwp
  simp
  omega
 have hs:((doV w c).find? (okW w ls c M ((k + 1:Nat):Int))).isSome = true:=List.find?_isSome.mpr ⟨d,hdo,hok⟩
 obtain ⟨d',hd'⟩:=Option.isSome_iff_exists.mp hs
 have ed:Zao M w ls c ((k + 1:Nat):Int) = d':=by unfold Zao; rw [hd']; rfl
 rw [ed]
 exact ⟨List.mem_of_find?_eq_some hd',List.find?_some (p:=okW w ls c M ((k + 1:Nat):Int)) hd',hd'⟩
theorem Zc5 {c:List Int} {k:Nat} (hk:Ze M c = some ((k + 1:Nat):Int)) {p:List Int} (hp:p ∈ Zl w ls (Zs w c (Zao M w ls c ((k + 1:Nat):Int)))):∃ j:Nat,j <= k/\Ze M p = some (j:Int):=by
  obtain ⟨h1,h2,_⟩:=ZfU hL F hk
  have:=List.all_eq_true.mp h2 p hp
  unfold okP at this
  cases hq:Ze M p with
  | none=>rw [hq] at this; cases this
  | some v =>
    rw [hq] at this
    obtain ⟨_,n,rfl,_,_⟩:=F.cost hq
    have:(n:Int) < ((k + 1:Nat):Int):=by simpa using this
    exact ⟨n,by omega,rfl⟩
theorem ZpR {c:List Int} {k:Nat} (hk:Ze M c = some ((k + 1:Nat):Int)):∃ p ∈ Zl w ls (Zs w c (Zao M w ls c ((k + 1:Nat):Int))),Ze M p = some (k:Int):=by
  apply Classical.byContradiction
  intro z
  obtain ⟨hc,n,e,h1,h2⟩:=F.cost hk
  obtain rfl:n = k + 1:=by omega
  obtain ⟨hd,_,_⟩:=ZfU hL F hk
  cases k with
  | zero =>
    obtain ⟨d0,d1,d2⟩:=Zcx hd
    have ex:∃ p,p ∈ Zl w ls (Zs w c (Zao M w ls c ((0 + 1:Nat):Int))):=by
      apply Classical.byContradiction
      intro zz
      have hw:=Zpi hL F (n:=0) hd fun p hp=>absurd ⟨p,hp⟩ zz
      have hnil:Zl w ls (Zs w c (Zao M w ls c ((0 + 1:Nat):Int))) = []:=by
        cases q:Zl w ls (Zs w c (Zao M w ls c ((0 + 1:Nat):Int))) with
        | nil=>rfl
        | cons p ps=>exact absurd ⟨p,by rw [q]; exact List.mem_cons_self ..⟩ zz
      have hcn:c = []:=by
        apply Classical.byContradiction
        intro hne
        exact Zip (w:=w) (ls:=ls) (Zrt hne d2) hnil
      have:=h2 0 (by omega)
      rw [hcn] at this
      cases this
    obtain ⟨p,hp⟩:=ex
    obtain ⟨j,hj,hl⟩:=Zc5 hL F hk hp
    obtain rfl:j = 0:=by omega
    exact z ⟨p,hp,hl⟩
  | succ k =>
    have hw:=Zpi hL F (n:=k) hd fun p hp=>by
      obtain ⟨j,hj,hl⟩:=Zc5 hL F hk hp
      have hne:j ≠ k + 1:=fun e=>z ⟨p,hp,by rw [hl,e]⟩
      obtain ⟨_,m,em,g1,_⟩:=F.cost hl
      obtain rfl:j = m:=by omega
      exact Zhe (by omega) g1
    rw [h2 (k + 1) (by omega)] at hw
    cases hw
omit hL F in
theorem ZkN {S T:List Int->D} {g:Gs} (h:∀ p ∈ g.map (·.2),S p = T p):Z6 S g = Z6 T g:=by
 unfold Z6
 congr 1
 refine List.map_congr_left fun p hp=>?_
 rw [h p.2 (List.mem_map.mpr ⟨p,hp,rfl⟩)]
theorem ZoE:∀ (k:Nat) (c:List Int),Ze M c = some (k:Int)->∀ n,k <= n->Zee M w ls n c = Zee M w ls k c:=by
  intro k
  induction k using Nat.strongRecOn with
  | ind k ih =>
    intro c hk n hn
    cases k with
    | zero =>
      cases n with
      | zero=>rfl
      | succ n =>
        show (if Ze M c = some 0 then ZaC else _) = ZaC
        rw [if_pos (show Ze M c = some 0 from hk)]
    | succ k =>
      obtain ⟨n,rfl⟩:∃ m,n = m + 1:=⟨n - 1,by omega⟩
      have hne:Ze M c ≠ some 0:=by
        rw [hk]
        intro e
        injection e with e
        omega
      show (if Ze M c = some 0 then ZaC else _) = if Ze M c = some 0 then ZaC else _
      rw [if_neg hne,if_neg hne,hk]
      have:Z6 (Zee M w ls n) (Zt w ls (Zs w c (Zao M w ls c ((k + 1:Nat):Int)))) = Z6 (Zee M w ls k) (Zt w ls (Zs w c (Zao M w ls c ((k + 1:Nat):Int)))):=ZkN fun p hp=>by
        obtain ⟨j,hj,hl⟩:=Zc5 hL F hk hp
        rw [ih j (by omega) p hl n (by omega),ih j (by omega) p hl k hj]
      show PyData.tuple [_,_,Z6 (Zee M w ls n) (Zt w ls (Zs w c (Zao M w ls c ((k + 1:Nat):Int))))] = PyData.tuple [_,_,Z6 (Zee M w ls k) (Zt w ls (Zs w c (Zao M w ls c ((k + 1:Nat):Int))))]
      rw [this]
theorem ZlE {c:List Int} (hk:Ze M c = some 0):Zr M w ls c = ZaC:=by
 unfold Zr Zcc
 rw [hk]
 rfl
theorem ZlT {c:List Int} {k:Nat} (hk:Ze M c = some ((k + 1:Nat):Int)):Zr M w ls c = .tuple [doS,dI (Zao M w ls c ((k + 1:Nat):Int)),Z6 (Zr M w ls) (Zt w ls (Zs w c (Zao M w ls c ((k + 1:Nat):Int))))]:=by
 have hne:Ze M c ≠ some 0:=by
  rw [hk]
  intro e
  injection e with e
  omega
 have hcn:Zcc M c = k + 1:=by
  unfold Zcc
  rw [hk]
  show (((k + 1:Nat):Int)).toNat = k + 1
  omega
 unfold Zr
 rw [hcn]
 show (if Ze M c = some 0 then ZaC else _) = _
 rw [if_neg hne,hk]
 have:Z6 (Zee M w ls k) (Zt w ls (Zs w c (Zao M w ls c ((k + 1:Nat):Int)))) = Z6 (fun p=>Zee M w ls (Zcc M p) p) (Zt w ls (Zs w c (Zao M w ls c ((k + 1:Nat):Int)))):=ZkN fun p hp=>by
  obtain ⟨j,hj,hl⟩:=Zc5 hL F hk hp
  have hcp:Zcc M p = j:=by
   unfold Zcc
   rw [hl]
   rfl
  rw [hcp]
  exact ZoE hL F j p hl k hj
 show PyData.tuple [_,_,Z6 (Zee M w ls k) (Zt w ls (Zs w c (Zao M w ls c ((k + 1:Nat):Int))))] = _
 rw [this]
 rfl
end
theorem ZkK:∀ (n m:Nat) (d:D),n <= m->Zeh n d = true->Zeh m d = true:=by
  intro n
  induction n with
  | zero =>
    intro m d h q
    cases d <;> first | (cases q; done) | (cases m <;> rfl)
  | succ n ih =>
    intro m d h q
    obtain ⟨m,rfl⟩:∃ k,m = k + 1:=⟨m - 1,by omega⟩
    cases d with
    | tuple ds=>exact List.all_eq_true.mpr fun x hx=>ih m x (by omega) (List.all_eq_true.mp (show ds.all (Zeh n) = true from q) x hx)
    | none=>rfl
    | bool _=>rfl
    | int _=>rfl
    | str _=>rfl
    | _=>cases q
theorem Zpt (n:Nat) (ns:List Int):Zeh (n + 1) (tupI ns) = true:=List.all_eq_true.mpr fun d hd=>by
 obtain ⟨i,_,rfl⟩:=List.mem_map.mp hd
 cases n <;> rfl
theorem ZkI {S:List Int->D} {n:Nat} (h:∀ c,Zeh (n + 1) (S c) = true) (g:Gs):Zeh (n + 3) (Z6 S g) = true:=List.all_eq_true.mpr fun d hd=>by
 obtain ⟨p,_,rfl⟩:=List.mem_map.mp hd
 refine List.all_eq_true.mpr fun x hx=>?_
 rcases List.mem_cons.mp hx with e | hx
 ·rw [e]; exact Zpt n p.1
 ·rw [List.mem_singleton.mp hx]; exact h p.2
theorem ZpU (M:Tb) (w:Wk) (ls:List Int):∀ (n:Nat) (c:List Int),Zeh (3 * n + 1) (Zee M w ls n c) = true:=by
  intro n
  induction n with
  | zero=>intro c; rfl
  | succ n ih =>
    intro c
    show Zeh (3 * n + 3 + 1) (if Ze M c = some 0 then ZaC else _) = true
    split
    · rfl
    · refine List.all_eq_true.mpr fun x hx => ?_
      rcases List.mem_cons.mp hx with e | hx
      · rw [e]; rfl
      · rcases List.mem_cons.mp hx with e | hx
        · rw [e]; rfl
        · rw [List.mem_singleton.mp hx]
          exact ZkI ih _
end HG6
namespace HG6
open PySem HM HG4
open HG
open HG5
theorem Zti {M:Tb} {c:List Int} {k:Int} (h:Ze M c = some k):(c,k) ∈ M:=by
 unfold Ze at h
 obtain ⟨x,hx,e⟩:=Option.map_eq_some_iff.mp h
 have h1:=List.mem_of_find?_eq_some hx
 have h2:x.1 = c:=by simpa using List.find?_some hx
 have:x = (c,k):=by rw [<- h2,<- e]
 rw [<- this]
 exact h1
theorem Ztd {M:Tb} (nd:(M.map (·.1)).Nodup) {c:List Int} {k:Int} (h:(c,k) ∈ M):Ze M c = some k:=by
  induction M with
  | nil=>simp at h
  | cons p M ih =>
    obtain ⟨a,b⟩:=p
    rw [List.map_cons] at nd
    obtain ⟨n1,n2⟩:=List.nodup_cons.mp nd
    rw [ZbB]
    rcases List.mem_cons.mp h with e | h
    · injection e with e1 e2
      rw [if_pos e1.symm,e2]
    · rw [if_neg fun e => n1 (by rw [show (a, b).1 = c from e]; exact List.mem_map.mpr ⟨_, h, rfl⟩)]
      exact ih n2 h
theorem ZtA {M:Tb} (nd:(M.map (·.1)).Nodup) (up:(M.map (·.2)).Pairwise (· <= ·)) {pre post:List (List Int)} {c p:List Int} {k j:Int} (e:M.map (·.1) = pre ++ c :: post) (hk:Ze M c = some k) (hj:Ze M p = some j) (hjk:j < k):p ∈ pre:=by
 obtain ⟨A,B,rfl,eA,eB⟩:=List.map_eq_append_iff.mp e
 obtain ⟨x,B',rfl,ex,eB'⟩:=List.map_eq_cons_iff.mp eB
 have hx:Ze (A ++ x :: B') c = some x.2:=Ztd nd (by rw [<- ex]; exact List.mem_append_right _ (List.mem_cons_self ..))
 rw [hk] at hx
 cases hx
 rcases List.mem_append.mp (Zti hj) with h | h
 ·rw [<- eA]
  exact List.mem_map.mpr ⟨_,h,rfl⟩
 ·rcases List.mem_cons.mp h with h | h
  ·rw [<- h] at hjk
   exact absurd hjk (Int.lt_irrefl _)
  ·rw [List.map_append,List.pairwise_append] at up
   have h2:=(List.pairwise_cons.mp (show (x.2 :: B'.map (·.2)).Pairwise (· <= ·) from up.2.1)).1 j (List.mem_map.mpr ⟨_,h,rfl⟩)
   omega
theorem ZkX {S:List Int->D} {P:List (List Int)} {g:Gs} (hg:g.length < 1000000) (h:∀ p ∈ g.map (·.2),p ∈ P):Za5 [.list (g.map ZK),.dict (Zo (Zaw S P))] = some (Z6 S g):=by
 have e:=Ze9 (c:=ZV) (e:=Zca (Zc (Zb 0) (Zc (Zbi (Zk 3) (Zb 1)) Zm))) (r:=[some (.pl (.list (g.map ZK))),some (.pl (.dict (Zo (Zaw S P))))]) (fun p:List Int × List Int=>tupI p.1) (fun p=>tupI p.2) (fun _=>true) (fun p=>PyData.tuple [tupI p.1,S p.2]) g (fun _ _=>rfl) (fun p hp _=>by
  have hk:ZaV (tupI p.2) = some (Z8 p.2):=Zax p.2
  have hlk:=Zqy S P p.2
  rw [if_pos (h p.2 (List.mem_map.mpr ⟨p,hp,rfl⟩))] at hlk
  simp [dec_enc,hk,hlk])
 rw [List.filter_eq_self.mpr fun _ _=>rfl] at e
 have hi:Z1 (bOf (Zb 0)) [some (.pl (.list (g.map ZK))),some (.pl (.dict (Zo (Zaw S P))))] = some (g.map ZK):=rfl
 show Zbs (ZH (Zam (Zdg (Z1 (bOf (Zb 0))) ZV (Zca (Zc (Zb 0) (Zc (Zbi (Zk 3) (Zb 1)) Zm))))) [some (.pl (.list (g.map ZK))),some (.pl (.dict (Zo (Zaw S P))))]) = _
 have hf:Zdg (Z1 (bOf (Zb 0))) ZV (Zca (Zc (Zb 0) (Zc (Zbi (Zk 3) (Zb 1)) Zm))) [some (.pl (.list (g.map ZK))),some (.pl (.dict (Zo (Zaw S P))))] = some (.ol (g.map fun p=>PyData.tuple [tupI p.1,S p.2])):=by
  unfold Zdg
  rw [hi]
  dsimp only
  rw [if_pos (show (g.map ZK).length < big by rw [List.length_map]; exact hg)]
  refine (congrArg (Option.map _) e).trans ?_
  rfl
 unfold ZH Zam
 rw [hf]
 rfl
theorem ZqR (M:Tb):((encM M).map fun p=>PyData.tuple (p.1.map ZaO)) = (M.map (·.1)).map tupI:=by
 unfold encM
 rw [List.map_map,List.map_map]
 refine List.map_congr_left fun c _=>?_
 show PyData.tuple ((c.1.map Sum.inl).map ZaO) = PyData.tuple (c.1.map dI)
 rw [List.map_map]
 rfl
section
variable {w:Wk} (hv:Wk.V w) {ls:List Int} {L:List (List Int)} {M:Tb} (hcr:∀ c ∈ L,Cr w.many c/\c ≠ []) (hlen:L.length <= 128) (hL:Zbu w ls L) (F:Zgu w ls L M) (nd:(M.map (·.1)).Nodup) (up:(M.map (·.2)).Pairwise (· <= ·))
include hlen hL F
theorem Ztc {c:List Int} {k:Nat} (h:Ze M c = some (k:Int)):k <= 128:=by
 obtain ⟨hc,n,e,h1,h2⟩:=F.cost h
 have:=Zla hL hc h1
 obtain rfl:k = n:=by omega
 by_cases hn:k <= L.length
 ·omega
 ·rw [h2 L.length (by omega)] at this
  cases this
theorem Zr7 (c:List Int):Zcc M c <= 128:=by
  unfold Zcc
  cases h:Ze M c with
  | none=>exact Nat.zero_le _
  | some v =>
    obtain ⟨_,n,rfl,_,_⟩:=F.cost h
    have:=Ztc hlen hL F h
    show ((n:Int)).toNat <= 128
    omega
theorem ZpK (g:Gs):Zeh 400 (Z6 (Zr M w ls) g) = true :=
 ZkK 387 400 _ (by decide) (ZkI (n:=384) (fun c=>ZkK _ _ _ (by have:=Zr7 hlen hL F c; omega) (ZpU M w ls (Zcc M c) c)) g)
include hv hcr nd up
theorem ZpZ {pre post:List (List Int)} {c:List Int} (e:M.map (·.1) = pre ++ c :: post) (hpl:pre.length < 1000000) (q4:Option B) :
    (∃ p4,Zbw p4 = Zbw q4/\Za2 [some (.pl (.dict (Zo (Zz w ls L)))),some (.hd (Zo (encM M))),some (.ot (Zaw (Zr M w ls) pre)),some (.pl (tupI c)),q4] = some (.nx [some (.pl (.dict (Zo (Zz w ls L)))),some (.hd (Zo (encM M))),some (.ot (Zaw (Zr M w ls) (pre ++ [c]))),some (.pl (tupI c)),p4])) \/
    ∃ p4,Zbw p4 = false/\Za2 [some (.pl (.dict (Zo (Zz w ls L)))),some (.hd (Zo (encM M))),some (.ot (Zaw (Zr M w ls) pre)),some (.pl (tupI c)),q4] = some (.nx [some (.pl (.dict (Zo (Zz w ls L)))),some (.hd (Zo (encM M))),some (.ot (Zaw (Zr M w ls) (pre ++ [c]))),some (.pl (tupI c)),p4]):=by
  have hcm:c ∈ M.map (·.1):=by rw [e]; exact List.mem_append_right _ (List.mem_cons_self ..)
  have hh:=(ZjC M c).mpr hcm
  unfold ZD at hh
  obtain ⟨v,hv'⟩:=Option.isSome_iff_exists.mp hh
  obtain ⟨hcl,n,rfl,_,_⟩:=F.cost hv'
  have hnp:c ∉ pre:=fun z=>by
    rw [e] at nd
    exact (List.nodup_append.mp nd).2.2 c z c (List.mem_cons_self ..) rfl
  have hk:ZaV (tupI c) = some (Z8 c):=Zax c
  have hlk:=Zc3 M c
  rw [hv'] at hlk
  have hel:(Zaw (Zr M w ls) pre).length < 1000000:=by unfold Zaw; rw [List.length_map]; exact hpl
  have hput:=Zsw (f:=Zr M w ls) hnp
  cases n with
  | zero =>
    have hs:=ZlE (ls:=ls) hL F (c:=c) hv'
    refine .inl ⟨q4,rfl,?_⟩
    rw [<- hput,hs]
    have hz:tV (op2 gEq (Zbi (Zk 1) (Zb 3)) (eC (.int 0))) [some (.pl (.dict (Zo (Zz w ls L)))),some (.hd (Zo (encM M))),some (.ot (Zaw (Zr M w ls) pre)),some (.pl (tupI c)),q4] = some true:=by
      simp [dec_enc,hk,hlk]
    unfold Za2 sIf
    rw [hz]
    simp [hk,hel]
  | succ k =>
    have hs:=ZlT (ls:=ls) hL F (c:=c) hv'
    obtain ⟨hd,_,hfind⟩:=ZfU hL F hv'
    have hparts:=fun p hp=>Zc5 hL F hv' (p:=p) hp
    have hcc:=(hcr c hcl).1
    have hww:=Zgv hv (ls:=ls) (M:=M) (n:=((k + 1:Nat):Int)) hcc
    rw [hfind] at hww
    obtain ⟨d0,d1,_⟩:=Zcx hd
    have hsl:=split_len (w:=w) (ls:=ls) (c:=Zs w c (Zao M w ls c ((k + 1:Nat):Int)))
    have hll:=(Zdq hv hcc d0 d1).len
    have hm2:=hv.m2
    have hpo:=ZkX (S:=Zr M w ls) (P:=pre) (g:=Zt w ls (Zs w c (Zao M w ls c ((k + 1:Nat):Int)))) (by omega) fun p hp=>by
      obtain ⟨j,hj,hl⟩:=hparts p hp
      exact ZtA nd up e hv' hl (by omega)
    have hto:=ZpK hlen hL F (Zt w ls (Zs w c (Zao M w ls c ((k + 1:Nat):Int))))
    have hlw:=Zho w ls L c
    rw [if_pos hcl] at hlw
    refine .inr ⟨some (.pl (ZaW w ls c (Zao M w ls c ((k + 1:Nat):Int)))),rfl,?_⟩
    rw [<- hput,hs]
    generalize Zao M w ls c ((k + 1:Nat):Int) = d at *
    have hz:tV (op2 gEq (Zbi (Zk 1) (Zb 3)) (eC (.int 0))) [some (.pl (.dict (Zo (Zz w ls L)))),some (.hd (Zo (encM M))),some (.ot (Zaw (Zr M w ls) pre)),some (.pl (tupI c)),q4] = some false:=by
      have hb:(((k + 1:Nat):Int) == 0) = false:=by rw [beq_eq_false_iff_ne]; omega
      generalize ((k + 1:Nat):Int) = k1 at hb hlk
      simp [dec_enc,hk,hlk,hb]
    have hw2:Zp Zaq (Zc (Zbi (Zk 0) (Zb 3)) (Zc (eHd 1) (Zc (Zbi (Zk 1) (Zb 3)) Zm))) [some (.pl (.dict (Zo (Zz w ls L)))),some (.hd (Zo (encM M))),some (.ot (Zaw (Zr M w ls) pre)),some (.pl (tupI c)),q4] = some (ZaW w ls c d):=by
      generalize ((k + 1:Nat):Int) = k1 at hlk hww
      simp [dec_enc,hk,hlk,hlw,hww]
    have hval:Zca (Zc (eC (.str (Str.ofString "do"))) (Zc (eIx (Zk 4) (eC (.int 0))) (Zc (Zhc Za5 (Zc (eIx (Zk 4) (eC (.int 1))) (Zc (Zgz (Zk 2)) Zm))) Zm))) [some (.pl (.dict (Zo (Zz w ls L)))),some (.hd (Zo (encM M))),some (.ot (Zaw (Zr M w ls) pre)),some (.pl (tupI c)),some (.pl (ZaW w ls c d))] = some (.tuple [doS,dI d,Z6 (Zr M w ls) (Zt w ls (Zs w c d))]):=by
      have hc:Zhc Za5 (Zc (eIx (Zk 4) (eC (.int 1))) (Zc (Zgz (Zk 2)) Zm)) [some (.pl (.dict (Zo (Zz w ls L)))),some (.hd (Zo (encM M))),some (.ot (Zaw (Zr M w ls) pre)),some (.pl (tupI c)),some (.pl (ZaW w ls c d))] = some (Z6 (Zr M w ls) (Zt w ls (Zs w c d))):=by
        show (match Za5 [.list ((Zt w ls (Zs w c d)).map ZK),.dict (Zo (Zaw (Zr M w ls) pre))] with | some d=>if Zeh 400 d then some d else none | none=>none) = _
        rw [hpo]
        dsimp only
        rw [if_pos hto]
      generalize Zhc Za5 (Zc (eIx (Zk 4) (eC (.int 1))) (Zc (Zgz (Zk 2)) Zm)) = E at hc ⊢
      unfold ZaW at hc ⊢
      simp [hc]
    unfold Za2 sIf
    rw [hz]
    show Zu _ _ _ = _
    refine ZQ (P:=fun q=>q = _) (r':=[some (.pl (.dict (Zo (Zz w ls L)))),some (.hd (Zo (encM M))),some (.ot (Zaw (Zr M w ls) pre)),some (.pl (tupI c)),some (.pl (ZaW w ls c d))]) ?_ ?_
    · unfold Z9
      rw [hw2]
      rfl
    · generalize Zca (Zc (eC (.str (Str.ofString "do"))) (Zc (eIx (Zk 4) (eC (.int 0))) (Zc (Zhc Za5 (Zc (eIx (Zk 4) (eC (.int 1))) (Zc (Zgz (Zk 2)) Zm))) Zm))) = E at hval ⊢
      simp [hval,hk,hel]
theorem ZnE:∀ (post pre:List (List Int)) (q3 q4:Option B),M.map (·.1) = pre ++ post->pre.length + post.length < 1000000->Zbw q3 = false->Zbw q4 = false ->
    ∃ p3 p4,Zbw p3 = false/\Zbw p4 = false/\Z2 3 Za2 (post.map tupI) [some (.pl (.dict (Zo (Zz w ls L)))),some (.hd (Zo (encM M))),some (.ot (Zaw (Zr M w ls) pre)),q3,q4] = some (.nx [some (.pl (.dict (Zo (Zz w ls L)))),some (.hd (Zo (encM M))),some (.ot (Zaw (Zr M w ls) (pre ++ post))),p3,p4])
  | [],pre,q3,q4,_,_,h3,h4=>⟨q3,q4,h3,h4,by rw [List.map_nil,List.append_nil]; rfl⟩
  | c :: post, pre, q3, q4, e, hl, h3, h4 => by
    rw [List.length_cons] at hl
    have key:∃ p4,Zbw p4 = false/\Za2 [some (.pl (.dict (Zo (Zz w ls L)))),some (.hd (Zo (encM M))),some (.ot (Zaw (Zr M w ls) pre)),some (.pl (tupI c)),q4] = some (.nx [some (.pl (.dict (Zo (Zz w ls L)))),some (.hd (Zo (encM M))),some (.ot (Zaw (Zr M w ls) (pre ++ [c]))),some (.pl (tupI c)),p4]):=by
      rcases ZpZ hv hcr hlen hL F nd up e (by omega) q4 with ⟨p4,h1,h2⟩ | h
      · exact ⟨p4,h1.trans h4,h2⟩
      · exact h
    obtain ⟨p4,hp4,e1⟩:=key
    obtain ⟨r3,r4,g3,g4,ih⟩:=ZnE post (pre ++ [c]) (some (.pl (tupI c))) p4 (by rw [e]; simp) (by rw [List.length_append,List.length_singleton]; omega) rfl hp4
    refine ⟨r3,r4,g3,g4,?_⟩
    rw [show pre ++ c :: post = (pre ++ [c]) ++ post by simp,<- ih,List.map_cons]
    show (match Za2 [some (.pl (.dict (Zo (Zz w ls L)))),some (.hd (Zo (encM M))),some (.ot (Zaw (Zr M w ls) pre)),some (.pl (tupI c)),q4] with | some (.nx r')=>_ | some (.ct r')=>_ | some (.bk r')=>_ | some (.rt d)=>_ | none=>_) = _
    rw [e1]
theorem ZoM (hML:M.length < 1000000):Zeu [.dict (Zo (Zz w ls L)),.dict (Zo (encM M))] = some (.dict (Zo (Zaw (Zr M w ls) (M.map (·.1))))):=by
 obtain ⟨p3,p4,g3,g4,hgo⟩:=ZnE hv hcr hlen hL F nd up (M.map (·.1)) [] none none rfl (by simp; exact hML) rfl rfl
 rw [List.nil_append] at hgo
 show Zbs (ZfV [some (.pl (.dict (Zo (Zz w ls L)))),some (.pl (.dict (Zo (encM M)))),none,none,none]) = _
 have e:ZfV [some (.pl (.dict (Zo (Zz w ls L)))),some (.pl (.dict (Zo (encM M)))),none,none,none] = some (.rt (.dict (Zo (Zaw (Zr M w ls) (M.map (·.1)))))):=by
  unfold ZfV
  refine ZQ (P:=fun q=>q = _) (r':=[some (.pl (.dict (Zo (Zz w ls L)))),some (.pl (.dict (Zo (encM M)))),some (.ot (Zaw (Zr M w ls) [])),none,none]) rfl ?_
  refine ZQ (P:=fun q=>q = _) (r':=[some (.pl (.dict (Zo (Zz w ls L)))),some (.pl (.dict (Zo (encM M)))),some (.ot (Zaw (Zr M w ls) (M.map (·.1)))),p3,p4]) ?_ (by simp)
  have hw:Zeg 1 [some (.pl (.dict (Zo (Zz w ls L)))),some (.hd (Zo (encM M))),some (.ot (Zaw (Zr M w ls) [])),none,none] = some ((M.map (·.1)).map tupI):=by
   show (ZgY (Zo (encM M))).map _ = _
   rw [dec_enc,<- ZqR M]
   rfl
  have hs:Za9 3 (Zeg 1) Za2 [some (.pl (.dict (Zo (Zz w ls L)))),some (.hd (Zo (encM M))),some (.ot (Zaw (Zr M w ls) [])),none,none] = some (.nx [some (.pl (.dict (Zo (Zz w ls L)))),some (.hd (Zo (encM M))),some (.ot (Zaw (Zr M w ls) (M.map (·.1)))),p3,p4]):=by
   unfold Za9
   rw [hw]
   dsimp only
   rw [if_pos (by rw [List.length_map,List.length_map]; exact hML)]
   exact hgo
  have a2:([some (B.pl (.dict (Zo (Zz w ls L)))),none,some (.ot (Zaw (Zr M w ls) (M.map (·.1)))),p3,p4]:HM.Env).all (fun q=>!Zbw q) = true:=by
   simp only [List.all_cons,List.all_nil,g3,g4]
   rfl
  show (match Za9 3 (Zeg 1) Za2 [some (.pl (.dict (Zo (Zz w ls L)))),some (.hd (Zo (encM M))),some (.ot (Zaw (Zr M w ls) [])),none,none] with | some (.nx r')=>_ | some (.rt d)=>_ | _=>none) = _
  rw [hs]
  show (if ([some (B.pl (.dict (Zo (Zz w ls L)))),none,some (.ot (Zaw (Zr M w ls) (M.map (·.1)))),p3,p4]:HM.Env).all (fun q=>!Zbw q) = true then _ else _) = _
  rw [if_pos a2]
  rfl
 rw [e]
 rfl
end
end HG6
namespace HG6
open PySem HM HG4
open HG
open HG5
theorem Zkj:ZaC.canLay0 = true:=by decide +kernel
theorem Zq5:doS.canLay0 = true:=by decide +kernel
theorem ZkC:Zaf ZaC = true:=by decide +kernel
theorem Zsp:Zaf doS = true:=by decide +kernel
theorem Zsj:PyData.eqv ZaC ZaC = true:=by decide +kernel
theorem ZtH:PyData.eqv doS doS = true:=by decide +kernel
theorem lay_ints (ns:List Int):(tupI ns).canLay0 = true:=(ZhS 1 _ (Zdp 0 ns)).1
theorem ZmY {S:List Int->D} (h:∀ c,(S c).canLay0 = true) (g:Gs):(Z6 S g).canLay0 = true:=ZcY fun d hd=>by
 obtain ⟨p,_,rfl⟩:=List.mem_map.mp hd
 exact ZcY fun x hx=>by
  rcases List.mem_cons.mp hx with e | hx
  ·rw [e]; exact lay_ints p.1
  ·rw [List.mem_singleton.mp hx]; exact h p.2
theorem ZnJ (M:Tb) (w:Wk) (ls:List Int):∀ (n:Nat) (c:List Int),(Zee M w ls n c).canLay0 = true
  | 0,c=>Zkj
  | n + 1, c => by
    show (if Ze M c = some 0 then ZaC else _:D).canLay0 = true
    split
    · exact Zkj
    · exact ZcY fun x hx=>by
        rcases List.mem_cons.mp hx with e | hx
        · rw [e]; exact Zq5
        · rcases List.mem_cons.mp hx with e | hx
          · rw [e]; rfl
          · rw [List.mem_singleton.mp hx]; exact ZmY (ZnJ M w ls n) _
theorem Zu7 (d x:D):PyData.eqv (.tuple [doS,d,x]) ZaC = false:=rfl
abbrev er (w:Wk) (ls:List Int) (b:List Int) (S:List Int->D) (g:Gs) (a i:Nat) (q7 q8 q9:Option B):HM.Env:=[some (.pl w.d),some (.pl (tupI ls)),some (.pl (tupI b)),some (.pl (Z6 S g)),some (.pl (.list (g.map ZK))),some (.pl (dN a)),some (.pl (dN i)),q7,q8,q9]
section
variable {w:Wk} (hv:Wk.V w) (h7:w.many <= 7) {ls:List Int} (hl:Cr w.looks.length ls) {L:List (List Int)} {M:Tb} (hcr:∀ c ∈ L,Cr w.many c/\c ≠ []) (hlen:L.length <= 128) (hL:Zbu w ls L) (F:Zgu w ls L M)
include hv h7 hL F
theorem Zrd {R:List D->Option D} {b:List Int} {g:Gs} {i:Nat} {kp:List Int × List Int} (hi:g[i]? = some kp) (hcp:Cr w.many kp.2) {j:Nat} (hj:Ze M kp.2 = some (j:Int)) (hR:∀ k,j = k + 1->R [w.d,tupI ls,tupI (Zs w kp.2 (Zao M w ls kp.2 ((k + 1:Nat):Int))),Z6 (Zr M w ls) (Zt w ls (Zs w kp.2 (Zao M w ls kp.2 ((k + 1:Nat):Int))))] = some (dN k)) (a:Nat) (q7 q8 q9:Option B) :
    ∃ p7 p8 p9,ZdA R (er w ls b (Zr M w ls) g a i q7 q8 q9) = some (.nx (er w ls b (Zr M w ls) g (max a j) i p7 p8 p9)):=by
  have h3:∀ q7 q8 q9,eIx (bOf (eIx (Zk 3) (Zb 6))) (eC (.int 1)) (er w ls b (Zr M w ls) g a i q7 q8 q9) = some (Zr M w ls kp.2):=fun q7 q8 q9=>by
    have e:atD (g.map fun p=>PyData.tuple [tupI p.1,Zr M w ls p.2]) (i:Int) = some (.tuple [tupI kp.1,Zr M w ls kp.2]):=Zdr (by rw [List.getElem?_map,hi]; rfl)
    simp [Z6,e]
  have h4:∀ q7 q8 q9,eIx (bOf (eIx (Zk 4) (Zb 6))) (eC (.int 1)) (er w ls b (Zr M w ls) g a i q7 q8 q9) = some (tupI kp.2):=fun q7 q8 q9=>by
    have e:atD (g.map ZK) (i:Int) = some (ZK kp):=Zdr (by rw [List.getElem?_map,hi]; rfl)
    simp [e,ZK]
  obtain ⟨k,p⟩:=kp
  dsimp only at *
  have hlp:=hcp.len
  have hth:=ZiY hv (c:=p) (by omega)
  have hmax:∀ q7 q9,Z9 5 (op2 Zp6 (Zb 5) (Zb 8)) (er w ls b (Zr M w ls) g a i q7 (some (.pl (dN j))) q9) = some (.nx (er w ls b (Zr M w ls) g (max a j) i q7 (some (.pl (dN j))) q9)):=fun q7 q9=>by
    have e:(if (j:Int) > (a:Int) then (j:Int) else (a:Int)) = ((max a j:Nat):Int):=by
      split <;> omega
    show some (Out.nx [_,_,_,_,_,some (.pl (.int (if (j:Int) > (a:Int) then (j:Int) else (a:Int)))),_,_,_,_]) = _
    rw [e]
  unfold ZdA
  cases j with
  | zero =>
    obtain ⟨_,n,en,w1,_⟩:=F.cost hj
    obtain rfl:n = 0:=by omega
    have ht:Z0 w p = true:=w1
    rw [ht] at hth
    rw [ZlE hL F (show Ze M p = some 0 from hj)] at h3
    refine ⟨some (.pl ZaC),some (.pl (dN 0)),q9,?_⟩
    refine ZQ (P:=fun q=>q = _) (r':=er w ls b (Zr M w ls) g a i (some (.pl ZaC)) q8 q9) (by unfold Z9; rw [h3]; rfl) ?_
    refine ZQ (P:=fun q=>q = _) (r':=er w ls b (Zr M w ls) g a i (some (.pl ZaC)) (some (.pl (dN 0))) q9) rfl ?_
    have hne:tV (op2 ZfA (Zb 7) (Zca (Zc (eC (.str (Str.ofString "done"))) Zm))) (er w ls b (Zr M w ls) g a i (some (.pl ZaC)) (some (.pl (dN 0))) q9) = some false:=by
      have hg:ZfA ZaC ZaC = some (.bool false):=by
        unfold ZfA
        rw [Zkj,ZkC,Zsj]
        rfl
      show (match ZfA ZaC ZaC with | some (.bool b)=>some b | _=>none) = _
      rw [hg]
    refine ZQ (P:=fun q=>q = _) (r':=er w ls b (Zr M w ls) g a i (some (.pl ZaC)) (some (.pl (dN 0))) q9) (by unfold sIf; rw [hne]; rfl) ?_
    have hcall:Zp Zaz (Zc (Zb 0) (Zc (eIx (bOf (eIx (Zk 4) (Zb 6))) (eC (.int 1))) Zm)) (er w ls b (Zr M w ls) g a i (some (.pl ZaC)) (some (.pl (dN 0))) q9) = some (.bool true):=by
      have:=h4 (some (.pl ZaC)) (some (.pl (dN 0))) q9
      generalize eIx (bOf (eIx (Zk 4) (Zb 6))) (eC (.int 1)) = E at this ⊢
      simp [this,hth]
    have hif:Zhz (tV (op2 gEq (Zb 8) (eC (.int 0)))) (tOr (tV (op2 ZfA (Zb 7) (Zca (Zc (eC (.str (Str.ofString "done"))) Zm)))) (ZbJ (tV (Zp Zaz (Zc (Zb 0) (Zc (eIx (bOf (eIx (Zk 4) (Zb 6))) (eC (.int 1))) Zm)))))) (er w ls b (Zr M w ls) g a i (some (.pl ZaC)) (some (.pl (dN 0))) q9) = some false:=by
      unfold Zhz tOr ZbJ
      rw [hne]
      unfold tV at *
      rw [hcall]
      rfl
    refine ZQ (P:=fun q=>q = _) (r':=er w ls b (Zr M w ls) g a i (some (.pl ZaC)) (some (.pl (dN 0))) q9) (by unfold sIf; rw [hif]; rfl) ?_
    exact hmax _ _
  | succ k =>
    have hRk:=hR k rfl
    obtain ⟨hd,_,_⟩:=ZfU hL F hj
    rw [ZlT hL F hj] at h3
    have hlay:=ZmY (S:=Zr M w ls) (fun c=>ZnJ M w ls _ c) (Zt w ls (Zs w p (Zao M w ls p ((k + 1:Nat):Int))))
    obtain ⟨d0,d1,d2⟩:=Zcx hd
    have hled:=Zid hv h7 hcp d0 d1
    unfold ZnW at hled
    rw [if_pos d2] at hled
    generalize Zao M w ls p ((k + 1:Nat):Int) = d at *
    generalize Z6 (Zr M w ls) (Zt w ls (Zs w p d)) = X at *
    refine ⟨some (.pl (.tuple [doS,dI d,X])),some (.pl (dN (k + 1))),some (.pl (tupI (Zs w p d))),?_⟩
    refine ZQ (P:=fun q=>q = _) (r':=er w ls b (Zr M w ls) g a i (some (.pl (.tuple [doS,dI d,X]))) q8 q9) (by unfold Z9; rw [h3]; rfl) ?_
    refine ZQ (P:=fun q=>q = _) (r':=er w ls b (Zr M w ls) g a i (some (.pl (.tuple [doS,dI d,X]))) (some (.pl (dN 0))) q9) rfl ?_
    have hne:∀ q8 q9,tV (op2 ZfA (Zb 7) (Zca (Zc (eC (.str (Str.ofString "done"))) Zm))) (er w ls b (Zr M w ls) g a i (some (.pl (.tuple [doS,dI d,X]))) q8 q9) = some true:=fun q8 q9=>by
      have hl3:(PyData.tuple [doS,dI d,X]).canLay0 = true:=ZcY fun x hx=>by
        rcases List.mem_cons.mp hx with e | hx
        · rw [e]; exact Zq5
        · rcases List.mem_cons.mp hx with e | hx
          · rw [e]; rfl
          · rw [List.mem_singleton.mp hx]; exact hlay
      have hg:ZfA (.tuple [doS,dI d,X]) ZaC = some (.bool true):=by
        unfold ZfA
        rw [hl3,ZkC,Zu7]
        rfl
      show (match ZfA (.tuple [doS,dI d,X]) ZaC with | some (.bool b)=>some b | _=>none) = _
      rw [hg]
    have hin:sIf (tOr (ZbJ (tV (Zeo (Zb 7) .tuple))) (tOr (tV (op2 gNe (ZaB (Zk 7)) (eC (.int 3)))) (tOr (tV (op2 gNe (eIx (Zk 7) (eC (.int 0))) (eC (.str (Str.ofString "do"))))) (ZbJ (tV (Zp Zb4 (Zc (eIx (Zk 7) (eC (.int 1))) Zm))))))) (ZH (eC (.int (-1)))) Zai (er w ls b (Zr M w ls) g a i (some (.pl (.tuple [doS,dI d,X]))) (some (.pl (dN 0))) q9) = some (.nx (er w ls b (Zr M w ls) g a i (some (.pl (.tuple [doS,dI d,X]))) (some (.pl (dN 0))) q9)):=by
      have t1:ZbJ (tV (Zeo (Zb 7) .tuple)) (er w ls b (Zr M w ls) g a i (some (.pl (.tuple [doS,dI d,X]))) (some (.pl (dN 0))) q9) = some false:=rfl
      have t2:tV (op2 gNe (ZaB (Zk 7)) (eC (.int 3))) (er w ls b (Zr M w ls) g a i (some (.pl (.tuple [doS,dI d,X]))) (some (.pl (dN 0))) q9) = some false:=rfl
      have t3:tV (op2 gNe (eIx (Zk 7) (eC (.int 0))) (eC (.str (Str.ofString "do")))) (er w ls b (Zr M w ls) g a i (some (.pl (.tuple [doS,dI d,X]))) (some (.pl (dN 0))) q9) = some false:=by
        have hg:gNe doS doS = some (.bool false):=by
          unfold gNe
          rw [Zsp,ZtH]
          rfl
        show (match gNe doS doS with | some (.bool b)=>some b | _=>none) = _
        rw [hg]
      have t4:ZbJ (tV (Zp Zb4 (Zc (eIx (Zk 7) (eC (.int 1))) Zm))) (er w ls b (Zr M w ls) g a i (some (.pl (.tuple [doS,dI d,X]))) (some (.pl (dN 0))) q9) = some false:=rfl
      have ho:∀ (x y:TF) (r:HM.Env),x r = some false->y r = some false->tOr x y r = some false:=fun x y r h1 h2=>by
        unfold tOr
        rw [h1]
        exact h2
      unfold sIf
      rw [ho _ _ _ t1 (ho _ _ _ t2 (ho _ _ _ t3 t4))]
      rfl
    have hch:tV (Zga gLe gLt (eC (.int 0)) (eIx (Zk 7) (eC (.int 1))) (ZaB (bOf (eIx (Zk 0) (eC (.int 1)))))) (er w ls b (Zr M w ls) g a i (some (.pl (.tuple [doS,dI d,X]))) (some (.pl (dN 0))) (some (.pl .none))) = some true:=by
      have i0:=Zwa w
      simp [i0,-Zbb]
      simp [d0,d1]
    have hl9:Zp ZaS (Zc (Zb 0) (Zc (eIx (bOf (eIx (Zk 4) (Zb 6))) (eC (.int 1))) (Zc (eIx (Zk 7) (eC (.int 1))) Zm))) (er w ls b (Zr M w ls) g a i (some (.pl (.tuple [doS,dI d,X]))) (some (.pl (dN 0))) (some (.pl .none))) = some (tupI (Zs w p d)):=by
      have:=h4 (some (.pl (.tuple [doS,dI d,X]))) (some (.pl (dN 0))) (some (.pl .none))
      generalize eIx (bOf (eIx (Zk 4) (Zb 6))) (eC (.int 1)) = E at this ⊢
      simp [this,hled]
    have h8:op2 Zbc (eC (.int 1)) (Zp R (Zc (Zb 0) (Zc (Zb 1) (Zc (Zb 9) (Zc (eIx (Zk 7) (eC (.int 2))) Zm))))) (er w ls b (Zr M w ls) g a i (some (.pl (.tuple [doS,dI d,X]))) (some (.pl (dN 0))) (some (.pl (tupI (Zs w p d))))) = some (dN (k + 1)):=by
      have hc:Zp R (Zc (Zb 0) (Zc (Zb 1) (Zc (Zb 9) (Zc (eIx (Zk 7) (eC (.int 2))) Zm)))) (er w ls b (Zr M w ls) g a i (some (.pl (.tuple [doS,dI d,X]))) (some (.pl (dN 0))) (some (.pl (tupI (Zs w p d))))) = some (dN k):=hRk
      unfold op2
      rw [hc]
      show some (PyData.int (1 + (k:Int))) = some (PyData.int ((k + 1:Nat):Int))
      rw [show (1:Int) + (k:Int) = ((k + 1:Nat):Int) by omega]
    refine ZQ (P:=fun q=>q = _) (r':=er w ls b (Zr M w ls) g a i (some (.pl (.tuple [doS,dI d,X]))) (some (.pl (dN (k + 1)))) (some (.pl (tupI (Zs w p d))))) ?_ ?_
    · unfold sIf at hin ⊢
      rw [hne]
      dsimp only
      refine ZQ (P:=fun q=>q = _) hin ?_
      refine ZQ (P:=fun q=>q = _) (r':=er w ls b (Zr M w ls) g a i (some (.pl (.tuple [doS,dI d,X]))) (some (.pl (dN 0))) (some (.pl .none))) rfl ?_
      refine ZQ (P:=fun q=>q = _) (r':=er w ls b (Zr M w ls) g a i (some (.pl (.tuple [doS,dI d,X]))) (some (.pl (dN 0))) (some (.pl (tupI (Zs w p d))))) (by rw [hch]; unfold Z9; dsimp only; rw [hl9]; rfl) ?_
      refine ZQ (P:=fun q=>q = _) (r':=er w ls b (Zr M w ls) g a i (some (.pl (.tuple [doS,dI d,X]))) (some (.pl (dN 0))) (some (.pl (tupI (Zs w p d))))) rfl ?_
      unfold Z9
      rw [h8]
      rfl
    · have hif:Zhz (tV (op2 gEq (Zb 8) (eC (.int 0)))) (tOr (tV (op2 ZfA (Zb 7) (Zca (Zc (eC (.str (Str.ofString "done"))) Zm)))) (ZbJ (tV (Zp Zaz (Zc (Zb 0) (Zc (eIx (bOf (eIx (Zk 4) (Zb 6))) (eC (.int 1))) Zm)))))) (er w ls b (Zr M w ls) g a i (some (.pl (.tuple [doS,dI d,X]))) (some (.pl (dN (k + 1)))) (some (.pl (tupI (Zs w p d))))) = some false:=by
        have hz:tV (op2 gEq (Zb 8) (eC (.int 0))) (er w ls b (Zr M w ls) g a i (some (.pl (.tuple [doS,dI d,X]))) (some (.pl (dN (k + 1)))) (some (.pl (tupI (Zs w p d))))) = some false:=rfl
        unfold Zhz
        rw [hz]
      refine ZQ (P:=fun q=>q = _) (r':=er w ls b (Zr M w ls) g a i (some (.pl (.tuple [doS,dI d,X]))) (some (.pl (dN (k + 1)))) (some (.pl (tupI (Zs w p d))))) (by unfold sIf; rw [hif]; rfl) ?_
      exact hmax _ _
end
end HG6
namespace HG6
open PySem HM HG4
open HG
open HG5
theorem Zg6 {M:Tb} {c:List Int} {j:Nat} (h:Ze M c = some (j:Int)):Zcc M c = j:=by
 unfold Zcc
 rw [h]
 rfl
section
variable {w:Wk} (hv:Wk.V w) (h7:w.many <= 7) {ls:List Int} (hl:Cr w.looks.length ls) {L:List (List Int)} {M:Tb} (hL:Zbu w ls L) (F:Zgu w ls L M)
include hv h7 hL F
theorem Zpf {R:List D->Option D} {b:List Int} {g:Gs} (hcg:∀ x ∈ g,Cr w.many x.2) (hg:∀ x ∈ g,∃ j:Nat,Ze M x.2 = some (j:Int)/\∀ k,j = k + 1->R [w.d,tupI ls,tupI (Zs w x.2 (Zao M w ls x.2 ((k + 1:Nat):Int))),Z6 (Zr M w ls) (Zt w ls (Zs w x.2 (Zao M w ls x.2 ((k + 1:Nat):Int))))] = some (dN k)) :
    ∀ (is:List Nat) (a:Nat) (q6 q7 q8 q9:Option B),(∀ i ∈ is,i < g.length)->∃ m p6 p7 p8 p9,Z2 6 (ZdA R) (is.map dN) [some (.pl w.d),some (.pl (tupI ls)),some (.pl (tupI b)),some (.pl (Z6 (Zr M w ls) g)),some (.pl (.list (g.map ZK))),some (.pl (dN a)),q6,q7,q8,q9] = some (.nx [some (.pl w.d),some (.pl (tupI ls)),some (.pl (tupI b)),some (.pl (Z6 (Zr M w ls) g)),some (.pl (.list (g.map ZK))),some (.pl (dN m)),p6,p7,p8,p9])/\a <= m/\(∀ i ∈ is,∀ x,g[i]? = some x->Zcc M x.2 <= m)/\(m = a\/∃ x ∈ g,Zcc M x.2 = m)
  | [],a,q6,q7,q8,q9,_=>⟨a,q6,q7,q8,q9,rfl,Nat.le_refl _,fun i hi=>(by cases hi),.inl rfl⟩
  | i :: is, a, q6, q7, q8, q9, his => by
    have hlt:=his i (List.mem_cons_self ..)
    have hx:g[i]? = some g[i]:=List.getElem?_eq_getElem hlt
    have hm:g[i] ∈ g:=List.getElem_mem hlt
    obtain ⟨j,hj,hR⟩:=hg _ hm
    have hcn:=Zg6 hj
    obtain ⟨p7,p8,p9,e1⟩:=Zrd hv h7 hL F (b:=b) hx (hcg _ hm) hj hR a q7 q8 q9
    obtain ⟨m,r6,r7,r8,r9,ih,h1,h2,h3⟩:=Zpf hcg hg (b:=b) is (max a j) (some (.pl (dN i))) p7 p8 p9 fun x hx=>his x (List.mem_cons_of_mem _ hx)
    refine ⟨m,r6,r7,r8,r9,?_,by omega,fun t ht x ex=>?_,?_⟩
    · rw [<- ih, List.map_cons]
      show (match ZdA R (er w ls b (Zr M w ls) g a i q7 q8 q9) with | some (.nx r')=>_ | some (.ct r')=>_ | some (.bk r')=>_ | some (.rt d)=>_ | none=>_) = _
      rw [e1]
    · rcases List.mem_cons.mp ht with e | ht
      · subst e
        rw [hx] at ex
        injection ex with ex
        rw [<- ex,hcn]
        omega
      · exact h2 t ht x ex
    · rcases h3 with h3 | h3
      · by_cases q : a <= j
        · exact .inr ⟨_,hm,by rw [hcn]; omega⟩
        · exact .inl (by omega)
      · exact .inr h3
include hl
theorem body {R:List D->Option D} {b:List Int} (hb:Cr w.many b) (hp:∀ p ∈ Zl w ls b,∃ j:Nat,Ze M p = some (j:Int)/\∀ k,j = k + 1->R [w.d,tupI ls,tupI (Zs w p (Zao M w ls p ((k + 1:Nat):Int))),Z6 (Zr M w ls) (Zt w ls (Zs w p (Zao M w ls p ((k + 1:Nat):Int))))] = some (dN k)) :
  ∃ m:Nat,fnOf 4 10 (Zev R) [w.d,tupI ls,tupI b,Z6 (Zr M w ls) (Zt w ls b)] = some (dN m)/\(∀ p ∈ Zl w ls b,Zcc M p <= m)/\(m = 0\/∃ p ∈ Zl w ls b,Zcc M p = m):=by
 have hsp:=ZdZ hv hl hb
 have hsl:=split_len (w:=w) (ls:=ls) (c:=b)
 have hbl:=hb.len
 have hm2:=hv.m2
 have hmem:∀ x ∈ Zt w ls b,x.2 ∈ Zl w ls b:=fun x hx=>List.mem_map.mpr ⟨x,hx,rfl⟩
 have hmem':∀ p ∈ Zl w ls b,∃ x ∈ Zt w ls b,x.2 = p:=fun p hpm=>List.mem_map.mp hpm
 have hcg:∀ x ∈ Zt w ls b,Cr w.many x.2:=fun x hx=>(Ze5 hb (hmem x hx)).1
 have hg:=fun x hx=>hp _ (hmem x hx)
 obtain ⟨m,p6,p7,p8,p9,e,_,h2,h3⟩:=Zpf hv h7 hL F (b:=b) hcg hg (List.range (Zt w ls b).length) 0 none none none none fun i hi=>List.mem_range.mp hi
 refine ⟨m,?_,fun p hpm=>?_,?_⟩
 ·generalize Zt w ls b = g at *
  have hgl:g.length < 1000000:=by omega
  show Zbs (Zev R [some (.pl w.d),some (.pl (tupI ls)),some (.pl (tupI b)),some (.pl (Z6 (Zr M w ls) g)),none,none,none,none,none,none]) = _
  unfold Zev
  refine ZQ (P:=fun q=>Zbs q = _) (r':=[some (.pl w.d),some (.pl (tupI ls)),some (.pl (tupI b)),some (.pl (Z6 (Zr M w ls) g)),some (.pl (.list (g.map ZK))),none,none,none,none,none]) (by simp [hsp]) ?_
  have c3:eOf (ZT (Z1 (bOf (Zb 3))) ZV (eIx (Zk 0) (eC (.int 0)))) [some (.pl w.d),some (.pl (tupI ls)),some (.pl (tupI b)),some (.pl (Z6 (Zr M w ls) g)),some (.pl (.list (g.map ZK))),none,none,none,none,none] = some (.list (g.map fun x=>tupI x.1)):=by
   have hc:=ZaU (e:=eIx (Zk 0) (eC (.int 0))) (r:=[some (.pl w.d),some (.pl (tupI ls)),some (.pl (tupI b)),some (.pl (Z6 (Zr M w ls) g)),some (.pl (.list (g.map ZK))),none,none,none,none,none]) (fun p:List Int × List Int=>PyData.tuple [tupI p.1,Zr M w ls p.2]) (fun p=>tupI p.1) g fun _ _=>rfl
   have hi:Z1 (bOf (Zb 3)) [some (.pl w.d),some (.pl (tupI ls)),some (.pl (tupI b)),some (.pl (Z6 (Zr M w ls) g)),some (.pl (.list (g.map ZK))),none,none,none,none,none] = some (g.map fun p=>PyData.tuple [tupI p.1,Zr M w ls p.2]):=rfl
   unfold eOf ZT
   rw [hi]
   dsimp only
   rw [if_pos (show (g.map fun p=>PyData.tuple [tupI p.1,Zr M w ls p.2]).length < big by rw [List.length_map]; exact hgl),hc]
   rfl
  have c4:eOf (ZT (Z1 (bOf (Zb 4))) ZV (eIx (Zk 0) (eC (.int 0)))) [some (.pl w.d),some (.pl (tupI ls)),some (.pl (tupI b)),some (.pl (Z6 (Zr M w ls) g)),some (.pl (.list (g.map ZK))),none,none,none,none,none] = some (.list (g.map fun x=>tupI x.1)):=by
   have hc:=ZaU (e:=eIx (Zk 0) (eC (.int 0))) (r:=[some (.pl w.d),some (.pl (tupI ls)),some (.pl (tupI b)),some (.pl (Z6 (Zr M w ls) g)),some (.pl (.list (g.map ZK))),none,none,none,none,none]) ZK (fun p=>tupI p.1) g fun _ _=>rfl
   have hi:Z1 (bOf (Zb 4)) [some (.pl w.d),some (.pl (tupI ls)),some (.pl (tupI b)),some (.pl (Z6 (Zr M w ls) g)),some (.pl (.list (g.map ZK))),none,none,none,none,none] = some (g.map ZK):=rfl
   unfold eOf ZT
   rw [hi]
   dsimp only
   rw [if_pos (show (g.map ZK).length < big by rw [List.length_map]; exact hgl),hc]
   rfl
  have hgn:gNe (.list (g.map fun x=>tupI x.1)) (.list (g.map fun x=>tupI x.1)) = some (.bool false):=ZsL (n:=2) (ZqV fun d hd=>by
   obtain ⟨x,_,rfl⟩:=List.mem_map.mp hd
   exact Zdp 0 x.1) (by decide)
  refine ZQ (P:=fun q=>Zbs q = _) (r':=[some (.pl w.d),some (.pl (tupI ls)),some (.pl (tupI b)),some (.pl (Z6 (Zr M w ls) g)),some (.pl (.list (g.map ZK))),none,none,none,none,none]) ?_ ?_
  ·have t1:ZbJ (tV (Zeo (Zb 3) .tuple)) [some (.pl w.d),some (.pl (tupI ls)),some (.pl (tupI b)),some (.pl (Z6 (Zr M w ls) g)),some (.pl (.list (g.map ZK))),none,none,none,none,none] = some false:=rfl
   unfold sIf tOr
   rw [t1]
   unfold tV op2
   dsimp only
   rw [c3,c4]
   dsimp only
   rw [hgn]
   rfl
  ·refine ZQ (P:=fun q=>Zbs q = _) (r':=[some (.pl w.d),some (.pl (tupI ls)),some (.pl (tupI b)),some (.pl (Z6 (Zr M w ls) g)),some (.pl (.list (g.map ZK))),some (.pl (dN 0)),none,none,none,none]) rfl ?_
   have hok:okR (g.length:Int) = true:=Zc2 hgl
   have hi:ZbV (ZaB (Zk 4)) [some (.pl w.d),some (.pl (tupI ls)),some (.pl (tupI b)),some (.pl (Z6 (Zr M w ls) g)),some (.pl (.list (g.map ZK))),some (.pl (dN 0)),none,none,none,none] = some ((List.range g.length).map dN):=by
    simp [hok,Zaa]
   refine ZQ (P:=fun q=>Zbs q = _) (r':=[some (.pl w.d),some (.pl (tupI ls)),some (.pl (tupI b)),some (.pl (Z6 (Zr M w ls) g)),some (.pl (.list (g.map ZK))),some (.pl (dN m)),p6,p7,p8,p9]) ?_ rfl
   unfold Za9
   rw [hi]
   dsimp only
   rw [if_pos (by rw [List.length_map,List.length_range]; exact hgl)]
   exact e
 ·obtain ⟨x,hx,rfl⟩:=hmem' p hpm
  obtain ⟨i,hi,e⟩:=List.getElem_of_mem hx
  exact h2 i (List.mem_range.mpr hi) x (by rw [List.getElem?_eq_getElem hi,e])
 ·rcases h3 with h3 | ⟨x,hx,e⟩
  ·exact .inl h3
  ·exact .inr ⟨x.2,hmem x hx,e⟩
theorem Zty:∀ (n:Nat) (b:List Int),Cr w.many b->(∀ p ∈ Zl w ls b,∃ j:Nat,j <= n/\Ze M p = some (j:Int)) ->
  ∃ m:Nat,ZaP (n + 1) [w.d,tupI ls,tupI b,Z6 (Zr M w ls) (Zt w ls b)] = some (dN m)/\(∀ p ∈ Zl w ls b,Zcc M p <= m)/\(m = 0\/∃ p ∈ Zl w ls b,Zcc M p = m):=by
 intro n
 induction n with
 | zero=>?_
 | succ n ih=>?_
 all_goals
  intro b hb hp
 case zero =>
  exact body hv h7 hl hL F hb (R:=ZaP 0) fun p hpm=>by
   obtain ⟨j,hj,e⟩:=hp p hpm
   exact ⟨j,e,fun k ek=>by omega⟩
 case succ =>
  exact body hv h7 hl hL F hb (R:=ZaP (n + 1)) fun p hpm=>by
   obtain ⟨j,hj,e⟩:=hp p hpm
   refine ⟨j,e,fun k ek=>?_⟩
   subst ek
   obtain ⟨hd,_,_⟩:=ZfU hL F e
   obtain ⟨d0,d1,_⟩:=Zcx hd
   have hcp:=(Ze5 hb hpm).1
   obtain ⟨m,e1,h1,h2⟩:=ih _ (Zdq hv hcp d0 d1) fun q hq=>by
    obtain ⟨t,ht,et⟩:=Zc5 hL F e hq
    exact ⟨t,by omega,et⟩
   obtain ⟨q,hq,eq⟩:=ZpR hL F e
   have a1:=h1 q hq
   rw [Zg6 eq] at a1
   have a2:m <= k:=by
    rcases h2 with h2 | ⟨r,hr,er⟩
    ·omega
    ·obtain ⟨t,ht,et⟩:=Zc5 hL F e hr
     rw [Zg6 et] at er
     omega
   rw [e1,show m = k by omega]
end
end HG6
namespace HG6
open PySem HM HG4
open HG
open HG5
section
variable {w:Wk} (hv:Wk.V w) (h5:w.many <= 5) {ls:List Int} (hl:Cr w.looks.length ls)
include hv h5 hl
theorem ZqL:∃ L M,L.length <= 32/\Zbu w ls L/\Zgu w ls L M/\(∀ p ∈ Zl w ls w.beg,p ∈ L)/\Ze3 [w.d,tupI ls] = some (if (Zl w ls w.beg).all (ZD M) then Z6 (Zr M w ls) (Zt w ls w.beg) else .none):=by
  have h7:w.many <= 7:=by omega
  obtain ⟨L,hco,hnd,hlen,hcr,_,hL,hbg⟩:=Zli hv h7 hl hv.bc
  obtain ⟨M,hde,F,nd,up⟩:=ZpI hv hnd hcr hlen hL
  have hl32:L.length <= 32:=by
    have h1:=Zir hnd fun c hc=>(hcr c hc).1
    have h2:2 ^ w.many <= 2 ^ 5:=Nat.pow_le_pow_right (by decide) h5
    have h3:2 ^ 5 = 32:=rfl
    omega
  refine ⟨L,M,hl32,hL,F,hbg,?_⟩
  have hMl:M.length <= 128:=by
    have h1:(M.map (·.1)).length <= L.length:=List.Nodup.length_le_of_subset nd fun c hc=>by
      have hh:=(ZjC M c).mpr hc
      unfold ZD at hh
      obtain ⟨k,hk⟩:=Option.isSome_iff_exists.mp hh
      exact (F.cost hk).1
    rw [List.length_map] at h1
    omega
  have hst:=ZoM hv hcr hlen hL F nd up (by omega)
  have hpa:=Zjn hv hl hv.bc
  have hsl:=split_len (w:=w) (ls:=ls) (c:=w.beg)
  have hbl:=hv.bc.len
  have hmo:=Zmm (g:=Zt w ls w.beg) (M:=M) (by omega)
  have hsn:Zt w ls w.beg ≠ []:=fun e=>Zip (w:=w) (ls:=ls) hv.b1 (by unfold Zl; rw [e]; rfl)
  have hc1:=ZpY hv
  have hc2:=Zkf hv hl
  have hb:=ZoB w
  have hall:(Zl w ls w.beg).all (ZD M) = ((Zt w ls w.beg).map (·.2)).all (ZD M):=rfl
  rw [hall]
  show Zbs (Zhk [some (.pl w.d),some (.pl (tupI ls)),none,none,none]) = _
  cases hq:((Zt w ls w.beg).map (·.2)).all (ZD M) with
  | false =>
    rw [hq] at hmo
    simp [Zhk,hc1,hc2,hb,hco,hde,hpa,hmo,Zbs]
  | true =>
    rw [hq] at hmo
    rw [if_pos rfl] at hmo ⊢
    have hne:(((Zt w ls w.beg).map (·.2)).map fun p=>(Ze M p).getD 0) ≠ []:=fun e=>hsn (List.map_eq_nil_iff.mp (List.map_eq_nil_iff.mp e))
    obtain ⟨m,hm⟩:∃ m,(((Zt w ls w.beg).map (·.2)).map fun p=>(Ze M p).getD 0).max? = some m:=by
      cases q:(((Zt w ls w.beg).map (·.2)).map fun p=>(Ze M p).getD 0).max? with
      | none=>rw [List.max?_eq_none_iff] at q; exact absurd q hne
      | some m=>exact ⟨m,rfl⟩
    rw [hm] at hmo
    have hpo:=ZkX (S:=Zr M w ls) (P:=M.map (·.1)) (g:=Zt w ls w.beg) (by omega) fun p hp=>(ZjC M p).mp (List.all_eq_true.mp hq p hp)
    simp [Zhk,hc1,hc2,hb,hco,hde,hpa,hmo,hst,hpo,Zbs]
theorem Zsn:∃ e:D,Ze3 [w.d,tupI ls] = some e/\((e = .none/\Few w ls .none)\/(Zja .tuple e = true/\∃ m:Nat,ZaP 40 [w.d,tupI ls,tupI w.beg,e] = some (dN m)/\Few w ls (dN m)/\∃ ds,e = .tuple ds)):=by
  have h7:w.many <= 7:=by omega
  obtain ⟨L,M,hl32,hL,F,hbg,he⟩:=ZqL hv h5 hl
  refine ⟨_,he,?_⟩
  cases hq:(Zl w ls w.beg).all (ZD M) with
  | false =>
    refine .inl ⟨rfl,.inr ⟨rfl,fun n hn=>?_⟩⟩
    have:(Zl w ls w.beg).all (ZD M) = true:=List.all_eq_true.mpr fun p h=>F.all hL (hbg p h) (hn p h)
    rw [hq] at this
    cases this
  | true =>
    rw [if_pos rfl]
    have hk:∀ p ∈ Zl w ls w.beg,∃ j:Nat,j <= 32/\Ze M p = some (j:Int)/\Win w ls j p = true/\∀ t,t < j->Win w ls t p = false:=fun p hp=>by
      have hh:=List.all_eq_true.mp hq p hp
      unfold ZD at hh
      obtain ⟨k,hk⟩:=Option.isSome_iff_exists.mp hh
      obtain ⟨hc,n,rfl,g1,g2⟩:=F.cost hk
      refine ⟨n,?_,hk,g1,g2⟩
      by_cases hn:n <= L.length
      · omega
      · have := Zla hL hc g1
        rw [g2 L.length (by omega)] at this
        cases this
    obtain ⟨m,e1,h1,h2⟩:=Zty hv h7 hl hL F 39 w.beg hv.bc fun p hp=>by
      obtain ⟨j,hj,e,_⟩:=hk p hp
      exact ⟨j,by omega,e⟩
    refine .inr ⟨rfl,m,e1,.inl ⟨m,rfl,fun p hp=>?_,fun t ht hw=>?_⟩,_,rfl⟩
    · obtain ⟨j, _, e, g1, _⟩ := hk p hp
      have:=h1 p hp
      rw [Zg6 e] at this
      exact Zhe this g1
    · rcases h2 with h2 | ⟨p, hp, ep⟩
      · omega
      · obtain ⟨j, _, e, _, g2⟩ := hk p hp
        rw [Zg6 e] at ep
        have:=hw p hp
        rw [g2 t (by omega)] at this
        cases this
end
theorem Zkr (ns:List Int) (h:ns.length <= 63):ZgN [.list (ns.map dI)] = some (.bool true):=by
 have hv:=Wk.Ok.v (Zut ns 1)
 have h5:(wkV ns 1).many <= 5:=by
  have:(wkV ns 1).many = ZW ns 1:=rfl
  have:=(Zjz ns 1).2
  omega
 have hw:=ZsF ns 1 h
 have hc0:=Ze7 ns 0
 have hlk:=ZsC hv (Zy ns 0)
 have hl:=Zuv (wkV ns 1).looks.length (Zy ns 0)
 generalize wkV ns 1 = w at *
 generalize lkV w.looks.length (Zy ns 0) = ls at *
 obtain ⟨d,e2,f2⟩:=Zml hv (by omega) hl
 obtain ⟨e,e3,f3⟩:=Zsn hv h5 hl
 have hw':Za0 [.list (ns.map dI),.int 1] = some w.d:=hw
 have hc':Zal [.list (ns.map dI),.int 0] = some (.int (Zy ns 0)):=hc0
 show Zbs (ZmF [some (.pl (.list (ns.map dI))),none,none,none,none]) = _
 unfold ZmF
 refine ZQ (P:=fun q=>Zbs q = _) (r':=[some (.pl (.list (ns.map dI))),some (.pl w.d),none,none,none]) (by simp [hw']) ?_
 refine ZQ (P:=fun q=>Zbs q = _) (r':=[some (.pl (.list (ns.map dI))),some (.pl w.d),some (.pl (tupI ls)),none,none]) (by simp [hc',hlk]) ?_
 refine ZQ (P:=fun q=>Zbs q = _) (r':=[some (.pl (.list (ns.map dI))),some (.pl w.d),some (.pl (tupI ls)),some (.pl d),none]) (by simp [e2]) ?_
 refine ZQ (P:=fun q=>Zbs q = _) (r':=[some (.pl (.list (ns.map dI))),some (.pl w.d),some (.pl (tupI ls)),some (.pl d),some (.pl e)]) (by simp [e3]) ?_
 rcases f3 with ⟨rfl,f3⟩ | ⟨_,m,e4,f3,ds,rfl⟩
 ·obtain rfl:=f2.unique f3
  rfl
 ·obtain rfl:=f2.unique f3
  refine ZQ (P:=fun q=>Zbs q = _) (r':=[some (.pl (.list (ns.map dI))),some (.pl w.d),some (.pl (tupI ls)),some (.pl (dN m)),some (.pl (.tuple ds))]) rfl ?_
  have hg:gEq (.int (m:Int)) (.int (m:Int)) = some (.bool true):=Zie (ZuE 1 _) (by decide)
  have hcl:Zp (ZaP 40) (Zc (Zb 1) (Zc (Zb 2) (Zc (eIx (Zk 1) (eC (.int 3))) (Zc (Zb 4) Zm)))) [some (.pl (.list (ns.map dI))),some (.pl w.d),some (.pl (tupI ls)),some (.pl (dN m)),some (.pl (.tuple ds))] = some (dN m):=e4
  generalize Zp (ZaP 40) (Zc (Zb 1) (Zc (Zb 2) (Zc (eIx (Zk 1) (eC (.int 3))) (Zc (Zb 4) Zm)))) = E at hcl ⊢
  have ho:op2 gEq E (Zb 3) [some (.pl (.list (ns.map dI))),some (.pl w.d),some (.pl (tupI ls)),some (.pl (dN m)),some (.pl (.tuple ds))] = some (.bool true):=by
   unfold op2
   rw [hcl]
   exact hg
  generalize op2 gEq E (Zb 3) = E' at ho ⊢
  simp [ho,Zbs]
end HG6
namespace HT
open PySem PySem.Spec PyProof.Rows L2 HP HM
open HG
open HG5
open HG6
def top (i:Nat):Stmt:=PySem.Challenge.pw_halfseen_k06_plans_found.main.body.getD i (.Pass ⟨0,0,0,0⟩)
abbrev ZdB:Stmt:=top 9
abbrev Zf2:Stmt:=top 10
abbrev ZdC:Stmt:=top 11
abbrev Zd7:Stmt:=top 12
abbrev Zd8:Stmt:=top 13
abbrev ZcJ:Stmt:=top 14
abbrev ZcK:Stmt:=top 15
abbrev Zew:Stmt:=top 16
abbrev ZdD:Stmt:=top 17
abbrev Zex:Stmt:=top 18
abbrev Zey:Stmt:=top 19
abbrev Zez:Stmt:=top 20
abbrev Zfh:Stmt:=top 21
abbrev Zfi:Stmt:=top 22
abbrev Zb6:Stmt:=top 23
abbrev Zd9:Stmt:=top 24
abbrev Zb2:Stmt:=top 26
abbrev Zci:Stmt:=top 27
abbrev Zf3:Stmt:=top 28
abbrev Ze4:Stmt:=top 29
abbrev Zdn:Stmt:=top 30
abbrev ZbF:Stmt:=top 33
abbrev ZcL:Stmt:=top 34
abbrev ZcM:Stmt:=top 35
abbrev Zbm:Stmt:=top 36
abbrev ZbG:Stmt:=top 37
abbrev ZbM:Stmt:=top 38
abbrev Zea:Stmt:=top 39
abbrev ZeA:Stmt:=top 40
abbrev Zf4:Stmt:=top 41
abbrev ZeB:Stmt:=top 43
abbrev Zfj:Stmt:=top 44
abbrev ZdE:Stmt:=top 45
abbrev ZcN:Stmt:=top 46
abbrev ZeC:Stmt:=top 47
abbrev ZeD:Stmt:=top 48
abbrev ZcO:Stmt:=top 49
abbrev ZcP:Stmt:=top 50
abbrev Zfk:Stmt:=top 51
abbrev Zb7:Stmt:=top 52
abbrev Zcq:Stmt:=top 53
abbrev ZcQ:Stmt:=top 54
abbrev ZdF:Stmt:=top 55
abbrev Zbn:Stmt:=top 56
abbrev Zcj:Stmt:=top 57
abbrev ZbX:Stmt:=top 58
abbrev ZgO:Stmt:=top 59
structure Txt (K:PySem.W.Frag) (mg:Str->Option Value):Prop where
 n_len:mg "len" = none
 n_tuple:mg "tuple" = none
 n_list:mg "list" = none
 n_set:mg "set" = none
 n_sorted:mg "sorted" = none
 n_range:mg "range" = none
 n_all:mg "all" = none
 n_isinstance:mg "isinstance" = none
 n_int:mg "int" = none
 n_bool:mg "bool" = none
 n_max:mg "max" = none
 n_min:mg "min" = none
 c_MOST_STATES:∃ t,mg "MOST_STATES" = some (.int 8 t)
 c_MOST_DEEDS:∃ t,mg "MOST_DEEDS" = some (.int 5 t)
 c_MOST_LOOKS:∃ t,mg "MOST_LOOKS" = some (.int 4 t)
 c_MOST_SEEN:∃ t,mg "MOST_SEEN" = some (.int 9 t)
 c_DONE:∃ a,mg "DONE" = some (.ref a)/\Zog K a [.str "done"]
section
variable {P:Program} {w:World} {K:PySem.W.Frag} {mg:Str->Option Value} {base:Heap} {k:Nat}
theorem ZmG:ZB ["_law_script","_law_k"] ["_law_script","_law_k"] (Zg ZeB):=⟨rfl,rfl,rfl,by decide +kernel,rfl,by decide +kernel,by decide +kernel⟩
theorem ZmH (T:Txt K mg)  {f:Addr} {fd:FuncData} (Fn:Fun K "_law_cell" "_law_cell" ZeB f fd) (hm:mg "_law_cell" = some (.ref f)) (hb:Binds K fd ["_law_script","_law_k"] []):Callee P w K mg base (k + 1) "_law_cell" Zal :=
 Zv Fn ZmG hm hb fun cdv A outer s H E hr=>by
  have hu:=ZU hr
  exact (Zf (Zan (Zar cLt (Za 1) (Zbt T.n_len (Zq 0))) (Zi (Zx (ZJ (Zq 0) (Za 1)))) ZX)
  (Zi (Zx Zh)))
theorem Zok:ZB ["_law_cell_here","_law_prime","_law_many"] ["_law_cell_here","_law_prime","_law_many"] (Zg Zfj):=⟨rfl,rfl,rfl,by decide +kernel,rfl,by decide +kernel,by decide +kernel⟩
theorem Zol (T:Txt K mg)  {f:Addr} {fd:FuncData} (Fn:Fun K "_law_mix" "_law_mix" Zfj f fd) (hm:mg "_law_mix" = some (.ref f)) (hb:Binds K fd ["_law_cell_here","_law_prime","_law_many"] []):Callee P w K mg base (k + 1) "_law_mix" ZM :=
 Zv Fn Zok hm hb fun cdv A outer s H E hr=>by
  have hu:=ZU hr
  exact (Zi (Zx (ZL oMod (ZL oMod (ZL ZfS (Za 0) Zh) (Za 1)) (Za 2))))
theorem Zgm:ZB ["_law_cell_here","_law_many","_law_least","_law_found"] ["_law_cell_here","_law_many","_law_least"] (Zg ZcN):=⟨rfl,rfl,rfl,by decide +kernel,rfl,by decide +kernel,by decide +kernel⟩
theorem ZlY (T:Txt K mg) (ZN:Callee P w K mg base k "_law_mix" ZM) {f:Addr} {fd:FuncData} (Fn:Fun K "_law_crowd" "_law_crowd" ZcN f fd) (hm:mg "_law_crowd" = some (.ref f)) (hb:Binds K fd ["_law_cell_here","_law_many","_law_least"] []):Callee P w K mg base (k + 1) "_law_crowd" ZbE :=
 Zv Fn Zgm hm hb fun cdv A outer s H E hr=>by
  have hu:=ZU hr
  exact (Zf (Zgw 3 Zgm.nd rfl rfl (N:=["_law_state","_law_cell_here","_law_many","_law_least","_law_found"]) (ZF (sc:=Zg ZcN) (XN:=["_law_cell_here","_law_many","_law_least","_law_found"])) (ZbC T.n_range (Za 1)) (fun _ _ _ _ _=>(Zd2 (Zar cLt (Zn ZN hr (Zd (ZL ZbO (ZL ZbO (Za 1) (ZL ZfS (ZL ZfS Zh (Za 0)) (Za 0))) (ZL ZfS Zh (Za 0))) (Zd Zh (Zd Zh Zj)))) Zh))) (fun _ _ _ _ _=>(Za 0)))
  (Zf (Zan (Zar cLt (Zbt T.n_len (Zq 3)) (Za 2)) (Zi (ZaD 3 Zgm.nd (Zcm (Zd (Zn ZN hr (Zd (Za 0) (Zd Zh (Zd (Za 1) Zj)))) Zj)))) ZX)
  (Zi (Zx (Zag T.n_tuple (Zq 3))))))
theorem ZcR:ZB ["_law_cell_here","_law_many","_law_found","_law_state","_law_seed","_law_way","_law_row"] ["_law_cell_here","_law_many"] (Zg ZeC):=⟨rfl,rfl,rfl,by decide +kernel,rfl,by decide +kernel,by decide +kernel⟩
theorem ZmI (T:Txt K mg) (ZN:Callee P w K mg base k "_law_mix" ZM) {f:Addr} {fd:FuncData} (Fn:Fun K "_law_deed" "_law_deed" ZeC f fd) (hm:mg "_law_deed" = some (.ref f)) (hb:Binds K fd ["_law_cell_here","_law_many"] []):Callee P w K mg base (k + 1) "_law_deed" Zdj :=
 Zv Fn ZcR hm hb fun cdv A outer s H E hr=>by
  have hu:=ZU hr
  exact (Zf (ZaD 2 ZcR.nd (Zcm Zj))
  (Zf (ZaY 3 ZcR.nd rfl rfl (ZbC T.n_range (Za 1)) (Zf (ZO 4 ZcR.nd (ZL ZbO (ZL ZbO (Za 0) (ZL ZfS (ZL ZfS Zh (Za 3)) (Za 3))) (ZL ZfS Zh (Za 3))))
  (Zf (ZO 5 ZcR.nd (Zn ZN hr (Zd (Za 4) (Zd Zh (Zd Zh Zj)))))
  (Zf (ZaD 6 ZcR.nd (ZrC (Zn ZN hr (Zd (Za 4) (Zd Zh (Zd (Za 1) Zj)))) ZcB))
  (Zf (Zan (Zar cLt (Za 5) Zh) (Zi (Zf1 hu 6 (Zn ZN hr (Zd (Za 4) (Zd Zh (Zd (Za 1) Zj)))) ZcB)) ZX)
  (Zf (Ze1 2 (Zag T.n_tuple (ZaR (Zhi T.n_sorted rfl (Zq 6)))))
  (Zi (Zan (Zar (cEq hr) (Za 5) Zh) (Zi (Zs9 2 ZiH (Zc7 Zj))) ZX))))))))
  (Zi (Zx (Zag T.n_tuple (Zq 2))))))
theorem Zb8:ZB ["_law_cell_here","_law_many","_law_left","_law_right","_law_state","_law_ahead","_law_behind","_law_slips"] ["_law_cell_here","_law_many"] (Zg ZeD):=⟨rfl,rfl,rfl,by decide +kernel,rfl,by decide +kernel,by decide +kernel⟩
theorem ZmJ (T:Txt K mg) (ZN:Callee P w K mg base k "_law_mix" ZM) {f:Addr} {fd:FuncData} (Fn:Fun K "_law_walk" "_law_walk" ZeD f fd) (hm:mg "_law_walk" = some (.ref f)) (hb:Binds K fd ["_law_cell_here","_law_many"] []):Callee P w K mg base (k + 1) "_law_walk" Zdk :=
 Zv Fn Zb8 hm hb fun cdv A outer s H E hr=>by
  have hu:=ZU hr
  exact (Zf (ZaD 2 Zb8.nd (Zcm Zj))
  (Zf (ZaD 3 Zb8.nd (Zcm Zj))
  (Zf (ZaY 4 Zb8.nd rfl rfl (ZbC T.n_range (Za 1)) (Zf (ZO 5 Zb8.nd (Zqb T.n_max rfl (ZL Zsi (Za 4) Zh) Zh))
  (Zf (ZO 6 Zb8.nd (Zt3 T.n_min rfl (ZL ZbO (Za 4) Zh) (ZL Zsi (Za 1) Zh)))
  (Zf (ZO 7 Zb8.nd (ZgK (cEq hr) (Zn ZN hr (Zd (ZL ZbO (Za 0) (ZL ZfS Zh (Za 4))) (Zd Zh (Zd Zh Zj)))) Zh))
  (Zf (Ze1 2 (Zag T.n_tuple (ZaR (ZiJ T.n_sorted T.n_set rfl (ZaR (Zkw (ZaR (Zcm (Zd (Za 5) Zj))) (ZaR (Zt4 (ZaR (Zcm (Zd (Za 4) Zj))) (ZrB T.n_int (Za 7))))))))))
  (Zi (Ze1 3 (Zc7 (Zd (Za 6) Zj)))))))))
  (Zi (Zx (Zc7 (Zd (Zag T.n_tuple (Zq 2)) (Zd (Zag T.n_tuple (Zq 3)) Zj))))))))
theorem Zab:ZB ["_law_script","_law_at","_law_cell_here","_law_many","_law_deeds","_law_k","_law_looks_here","_law_seed","_law_most","_law_begin","_law_goal"] ["_law_script","_law_at"] (Zg ZcO):=⟨rfl,rfl,rfl,by decide +kernel,rfl,by decide +kernel,by decide +kernel⟩
theorem ZlZ (T:Txt K mg) (Za3:Callee P w K mg base k "_law_cell" Zal) (Zfl:Callee P w K mg base k "_law_crowd" ZbE) (ZN:Callee P w K mg base k "_law_mix" ZM) (Zht:Callee P w K mg base k "_law_deed" Zdj) (Zhu:Callee P w K mg base k "_law_walk" Zdk) {f:Addr} {fd:FuncData} (Fn:Fun K "_law_works" "_law_works" ZcO f fd) (hm:mg "_law_works" = some (.ref f)) (hb:Binds K fd ["_law_script","_law_at"] []):Callee P w K mg base (k + 1) "_law_works" Za0 :=
 Zv Fn Zab hm hb fun cdv A outer s H E hr=>by
  have hu:=ZU hr
  exact (Zf (ZO 2 Zab.nd (Zn Za3 hr (Zd (Za 0) (Zd (Za 1) Zj))))
  (Zf (ZO 3 Zab.nd (ZL ZbO Zh (Zn ZN hr (Zd (Za 2) (Zd Zh (Zd Zh Zj))))))
  (Zf (Zan (Zar cGt (Zbt T.n_len (Zq 0)) Zh) (Zi (ZO 3 Zab.nd (ZL ZbO Zh (Zn ZN hr (Zd (Za 2) (Zd Zh (Zd Zh Zj))))))) ZX)
  (Zf (ZaD 4 Zab.nd (Zcm Zj))
  (Zf (ZaY 5 Zab.nd rfl rfl (ZbC T.n_range (ZL ZbO Zh (Zn ZN hr (Zd (Za 2) (Zd Zh (Zd Zh Zj)))))) (Zi (Ze1 4 (Zn Zht hr (Zd (ZL ZbO (Zn Za3 hr (Zd (Za 0) (Zd (ZL ZbO (ZL ZbO (Za 1) Zh) (Za 5)) Zj))) (ZL ZfS Zh (Za 5))) (Zd (Za 3) Zj))))))
  (Zf (Zan (Zar (cEq hr) (Zn ZN hr (Zd (Za 2) (Zd Zh (Zd Zh Zj)))) Zh) (Zi (ZaD 4 Zab.nd (Zkw (ZaR (Zlw T.n_list (ZaF (Zn Zhu hr (Zd (Zn Za3 hr (Zd (Za 0) (Zd (ZL ZbO (Za 1) Zh) Zj))) (Zd (Za 3) Zj)))))) (ZaR (Zt5 (Zq 4) ZtZ (Ztp Zh)))))) ZX)
  (Zf (ZaD 6 Zab.nd (Zcm Zj))
  (Zf (ZaY 5 Zab.nd rfl rfl (ZbC T.n_range (Zn ZN hr (Zd (Za 2) (Zd Zh (Zd Zh Zj))))) (Zf (ZO 7 Zab.nd (ZL ZbO (Zn Za3 hr (Zd (Za 0) (Zd (ZL ZbO (ZL ZbO (Za 1) Zh) (Za 5)) Zj))) (ZL ZfS Zh (Za 5))))
  (Zf (ZO 8 Zab.nd (ZL ZbO Zh (Zn ZN hr (Zd (Za 7) (Zd Zh (Zd Zh Zj))))))
  (Zi (Ze1 6 (Zag T.n_tuple (ZaR (Zas rfl rfl (N:=["_law_state","_law_script","_law_at","_law_cell_here","_law_many","_law_deeds","_law_k","_law_looks_here","_law_seed","_law_most","_law_begin","_law_goal"]) (ZF (sc:=Zg ZcO) (XN:=["_law_script","_law_at","_law_cell_here","_law_many","_law_deeds","_law_k","_law_looks_here","_law_seed","_law_most","_law_begin","_law_goal"])) (ZbC T.n_range (Za 3)) (fun _ _ _ _ _=>ZaI) (fun _ _ _ _ _=>(Zn ZN hr (Zd (ZL ZbO (Za 8) (ZL ZfS (ZL ZfS Zh (Za 0)) (Za 0))) (Zd Zh (Zd (Za 9) Zj)))))))))))))
  (Zf (ZO 9 Zab.nd (Zn Zfl hr (Zd (Zn Za3 hr (Zd (Za 0) (Zd (ZL ZbO (Za 1) Zh) Zj))) (Zd (Za 3) (Zd Zh Zj)))))
  (Zf (Zan (Zar (cEq hr) (Zn ZN hr (Zd (Za 2) (Zd Zh (Zd Zh Zj)))) Zh) (Zi (ZO 9 Zab.nd (Zoi T.n_tuple T.n_range rfl (Za 3)))) ZX)
  (Zf (ZO 10 Zab.nd (Zn Zfl hr (Zd (Zn Za3 hr (Zd (Za 0) (Zd (ZL ZbO (Za 1) Zh) Zj))) (Zd (Za 3) (Zd Zh Zj)))))
  (Zi (Zx (Zc7 (Zd (Za 3) (Zd (Zag T.n_tuple (Zq 4)) (Zd (Zag T.n_tuple (Zq 6)) (Zd (Za 9) (Zd (Za 10) Zj)))))))))))))))))))
theorem Zl0:ZB ["_law_works_here","_law_cell_here"] ["_law_works_here","_law_cell_here"] (Zg ZcP):=⟨rfl,rfl,rfl,by decide +kernel,rfl,by decide +kernel,by decide +kernel⟩
theorem Zl1 (T:Txt K mg) (ZN:Callee P w K mg base k "_law_mix" ZM) {f:Addr} {fd:FuncData} (Fn:Fun K "_law_looks" "_law_looks" ZcP f fd) (hm:mg "_law_looks" = some (.ref f)) (hb:Binds K fd ["_law_works_here","_law_cell_here"] []):Callee P w K mg base (k + 1) "_law_looks" ZcF :=
 Zv Fn Zl0 hm hb fun cdv A outer s H E hr=>by
  have hu:=ZU hr
  exact (Zi (Zx (Zag T.n_tuple (ZaR (Zas rfl rfl (N:=["_law_look","_law_works_here","_law_cell_here"]) (ZF (sc:=Zg ZcP) (XN:=["_law_works_here","_law_cell_here"])) (ZbC T.n_range (Zbt T.n_len (ZaF (ZJ (Zq 0) Zh)))) (fun _ _ _ _ _=>(Zd2 (Zar cGt (Zn ZN hr (Zd (ZL ZbO (Za 2) (ZL ZfS Zh (Za 0))) (Zd Zh (Zd Zh Zj)))) Zh))) (fun _ _ _ _ _=>(Za 0)))))))
theorem ZeR:ZB ["_law_works_here","_law_looks_here","_law_crowd_here","_law_found","_law_state","_law_seen"] ["_law_works_here","_law_looks_here","_law_crowd_here"] (Zg Zb7):=⟨rfl,rfl,rfl,by decide +kernel,rfl,by decide +kernel,by decide +kernel⟩
theorem Zl2 (T:Txt K mg)  {f:Addr} {fd:FuncData} (Fn:Fun K "_law_split" "_law_split" Zb7 f fd) (hm:mg "_law_split" = some (.ref f)) (hb:Binds K fd ["_law_works_here","_law_looks_here","_law_crowd_here"] []):Callee P w K mg base (k + 1) "_law_split" Zah :=
 Zv Fn ZeR hm hb fun cdv A outer s H E hr=>by
  have hu:=ZU hr
  exact (Zf (ZaD 3 ZeR.nd Zqd)
  (Zf (ZaY 4 ZeR.nd rfl rfl (ZR (Za 2)) (Zf (ZO 5 ZeR.nd (Zag T.n_tuple (ZaR (Zas rfl rfl (N:=["_law_look","_law_works_here","_law_looks_here","_law_crowd_here","_law_found","_law_state","_law_seen"]) (ZF (sc:=Zg Zb7) (XN:=["_law_works_here","_law_looks_here","_law_crowd_here","_law_found","_law_state","_law_seen"])) (ZR (Za 1)) (fun _ _ _ _ _=>ZaI) (fun _ _ _ _ _=>(ZJ (ZaF (ZJ (ZaF (ZJ (Zq 1) Zh)) (Za 0))) (Za 5)))))))
  (Zf (Zan (ZrD hu (Za 5) (Zq 3)) (Zi (Zqf hu 3 (Za 5))) ZX)
  (Zi (ZrE hu 3 (Za 5) (Za 4))))))
  (Zi (Zx (Zd1 (Zas rfl rfl (N:=["_law_seen","_law_works_here","_law_looks_here","_law_crowd_here","_law_found","_law_state"," "]) (ZF (sc:=Zg Zb7) (XN:=["_law_works_here","_law_looks_here","_law_crowd_here","_law_found","_law_state","_law_seen"])) (ZR (Zd1 (Zhi T.n_sorted rfl (Zq 3)))) (fun _ _ _ _ _=>ZaI) (fun _ _ _ _ _=>(Zc7 (Zd (Za 0) (Zd (Zag T.n_tuple (Zqe hu 4 (Za 0))) Zj))))))))))
theorem ZfW:ZB ["_law_works_here","_law_crowd_here","_law_deed_here","_law_found","_law_state"] ["_law_works_here","_law_crowd_here","_law_deed_here"] (Zg Zfk):=⟨rfl,rfl,rfl,by decide +kernel,rfl,by decide +kernel,by decide +kernel⟩
theorem Zom (T:Txt K mg)  {f:Addr} {fd:FuncData} (Fn:Fun K "_law_led" "_law_led" Zfk f fd) (hm:mg "_law_led" = some (.ref f)) (hb:Binds K fd ["_law_works_here","_law_crowd_here","_law_deed_here"] []):Callee P w K mg base (k + 1) "_law_led" ZaS :=
 Zv Fn ZfW hm hb fun cdv A outer s H E hr=>by
  have hu:=ZU hr
  exact (Zf (ZaD 3 ZfW.nd (Zcm Zj))
  (Zf (ZaY 4 ZfW.nd rfl rfl (ZR (Za 1)) (Zf (Zan (Zar (cEq hr) (ZJ (ZaF (ZJ (ZaF (ZJ (Zq 0) Zh)) (Za 2))) (Za 4)) (Zc7 Zj)) (Zi (Zx Zb0)) ZX)
  (Zi (ZaD 3 ZfW.nd (Zkw (Zq 3) (ZaR (Zlw T.n_list (ZaF (ZJ (ZaF (ZJ (ZaF (ZJ (Zq 0) Zh)) (Za 2))) (Za 4))))))))))
  (Zi (Zx (Zag T.n_tuple (ZaR (ZiJ T.n_sorted T.n_set rfl (Zq 3))))))))
theorem ZbY:ZB ["_law_works_here","_law_looks_here","_law_found","_law_at","_law_deed_here","_law_other","_law_some"] ["_law_works_here","_law_looks_here"] (Zg Zcq):=⟨rfl,rfl,rfl,by decide +kernel,rfl,by decide +kernel,by decide +kernel⟩
theorem Zon (T:Txt K mg) (Zae:Callee P w K mg base k "_law_split" Zah) (Zbf:Callee P w K mg base k "_law_led" ZaS) {f:Addr} {fd:FuncData} (Fn:Fun K "_law_all" "_law_all" Zcq f fd) (hm:mg "_law_all" = some (.ref f)) (hb:Binds K fd ["_law_works_here","_law_looks_here"] []):Callee P w K mg base (k + 1) "_law_all" Zff :=
 Zv Fn ZbY hm hb fun cdv A outer s H E hr=>by
  have hu:=ZU hr
  exact (Zf (ZaD 2 ZbY.nd (Zj7 rfl rfl (N:=["_law_seen","_law_part","_law_works_here","_law_looks_here","_law_found","_law_at","_law_deed_here","_law_other","_law_some"]) (ZF (sc:=Zg Zcq) (XN:=["_law_works_here","_law_looks_here","_law_found","_law_at","_law_deed_here","_law_other","_law_some"])) (ZR (Zn Zae hr (Zd (Za 0) (Zd (Za 1) (Zd (ZJ (Zq 0) Zh) Zj))))) (fun _ _ _ _ _=>ZaI) (fun _ _ _ _ _=>(Za 1))))
  (Zf (ZO 3 ZbY.nd Zh)
  (Zf (Zj8 100000 rfl (Zar cLt (Za 3) (Zbt T.n_len (Zq 2))) (Zf (ZaY 4 ZbY.nd rfl rfl (ZbC T.n_range (Zbt T.n_len (ZaF (ZJ (Zq 0) Zh)))) (Zf (ZO 5 ZbY.nd (Zn Zbf hr (Zd (Za 0) (Zd (ZJ (Zq 2) (Za 3)) (Zd (Za 4) Zj)))))
  (Zi (Zan (Zar ZpE (Za 5) Zb0) (Zf (ZjP 6 ZbY.nd rfl rfl (N:=["_law_seen","_law_part","_law_works_here","_law_looks_here","_law_found","_law_at","_law_deed_here","_law_other","_law_some"]) (ZF (sc:=Zg Zcq) (XN:=["_law_works_here","_law_looks_here","_law_found","_law_at","_law_deed_here","_law_other","_law_some"])) (ZR (Zn Zae hr (Zd (Za 0) (Zd (Za 1) (Zd (Za 5) Zj))))) (fun _ _ _ _ _=>ZaI) (fun _ _ _ _ _=>(Za 1)))
  (Zi (Zfa 6 (ZaD 2 ZbY.nd (Zkw (Zq 2) (ZaR (Zas rfl rfl (N:=["_law_part","_law_works_here","_law_looks_here","_law_found","_law_at","_law_deed_here","_law_other","_law_some"]) (ZF (sc:=Zg Zcq) (XN:=["_law_works_here","_law_looks_here","_law_found","_law_at","_law_deed_here","_law_other","_law_some"])) (ZR (Za 6)) (fun _ _ _ _ _=>(Zd2 (Zqh hr (Za 0) (Zq 3)))) (fun _ _ _ _ _=>(Za 0))))))))) ZX))))
  (Zi (ZO 3 ZbY.nd (ZL ZbO (Za 3) Zh)))))
  (Zi (Zfa 2 (Zx (Za 2)))))))
theorem Zl3:ZB ["_law_works_here","_law_crowd_here"] ["_law_works_here","_law_crowd_here"] (Zg ZcQ):=⟨rfl,rfl,rfl,by decide +kernel,rfl,by decide +kernel,by decide +kernel⟩
theorem Zl4 (T:Txt K mg)  {f:Addr} {fd:FuncData} (Fn:Fun K "_law_there" "_law_there" ZcQ f fd) (hm:mg "_law_there" = some (.ref f)) (hb:Binds K fd ["_law_works_here","_law_crowd_here"] []):Callee P w K mg base (k + 1) "_law_there" Zaz :=
 Zv Fn Zl3 hm hb fun cdv A outer s H E hr=>by
  have hu:=ZU hr
  exact (Zi (Zx (ZgK (cEq hr) (Zd1 (Zas rfl rfl (N:=["_law_state","_law_works_here","_law_crowd_here"]) (ZF (sc:=Zg ZcQ) (XN:=["_law_works_here","_law_crowd_here"])) (ZR (Za 1)) (fun _ _ _ _ _=>(Zd2 (Zqg (Za 0) (ZaF (ZJ (Zq 1) Zh))))) (fun _ _ _ _ _=>(Za 0)))) (Zd1 (Zcm Zj)))))
theorem ZdG:ZB ["_law_works_here","_law_looks_here","_law_crowd_here","_law_costs_here","_law_deed_here","_law_other"] ["_law_works_here","_law_looks_here","_law_crowd_here","_law_costs_here"] (Zg Zbn):=⟨rfl,rfl,rfl,by decide +kernel,rfl,by decide +kernel,by decide +kernel⟩
theorem ZiT (T:Txt K mg) (Zbf:Callee P w K mg base k "_law_led" ZaS) (Zae:Callee P w K mg base k "_law_split" Zah) {f:Addr} {fd:FuncData} (Fn:Fun K "_law_can_within" "_law_can_within" Zbn f fd) (hm:mg "_law_can_within" = some (.ref f)) (hb:Binds K fd ["_law_works_here","_law_looks_here","_law_crowd_here","_law_costs_here"] []):Callee P w K mg base (k + 1) "_law_can_within" ZbP :=
 Zv Fn ZdG hm hb fun cdv A outer s H E hr=>by
  have hu:=ZU hr
  exact (Zf (ZaY 4 ZdG.nd rfl rfl (ZbC T.n_range (Zbt T.n_len (ZaF (ZJ (Zq 0) Zh)))) (Zf (ZO 5 ZdG.nd (Zn Zbf hr (Zd (Za 0) (Zd (Za 2) (Zd (Za 4) Zj)))))
  (Zi (Zan (Zar ZpE (Za 5) Zb0) (Zi (Zan (Zar (cEq hr) (Zd1 (Zj7 rfl rfl (N:=["_law_seen","_law_part","_law_works_here","_law_looks_here","_law_crowd_here","_law_costs_here","_law_deed_here","_law_other"]) (ZF (sc:=Zg Zbn) (XN:=["_law_works_here","_law_looks_here","_law_crowd_here","_law_costs_here","_law_deed_here","_law_other"])) (ZR (Zn Zae hr (Zd (Za 0) (Zd (Za 1) (Zd (Za 5) Zj))))) (fun _ _ _ _ _=>(Zd2 (Zhj hu (Za 1) (Zq 5)))) (fun _ _ _ _ _=>(Za 1)))) (Zd1 (Zcm Zj))) (Zi (Zx ZcB)) ZX)) ZX))))
  (Zi (Zx ZcB)))
theorem Zbq:ZB ["_law_works_here","_law_looks_here","_law_crowds","_law_costs_here","_law_crowd_here","_law_turn","_law_more"] ["_law_works_here","_law_looks_here"] (Zg ZdF):=⟨rfl,rfl,rfl,by decide +kernel,rfl,by decide +kernel,by decide +kernel⟩
theorem Zl5 (T:Txt K mg) (ZhZ:Callee P w K mg base k "_law_all" Zff) (ZbH:Callee P w K mg base k "_law_there" Zaz) (Zek:Callee P w K mg base k "_law_can_within" ZbP) {f:Addr} {fd:FuncData} (Fn:Fun K "_law_costs" "_law_costs" ZdF f fd) (hm:mg "_law_costs" = some (.ref f)) (hb:Binds K fd ["_law_works_here","_law_looks_here"] []):Callee P w K mg base (k + 1) "_law_costs" Zdz :=
 Zv Fn Zbq hm hb fun cdv A outer s H E hr=>by
  have hu:=ZU hr
  exact (Zf (ZO 2 Zbq.nd (Zn ZhZ hr (Zd (Za 0) (Zd (Za 1) Zj))))
  (Zf (ZaD 3 Zbq.nd Zmt)
  (Zf (ZaY 4 Zbq.nd rfl rfl (ZR (Za 2)) (Zi (Zan (Zba (Zn ZbH hr (Zd (Za 0) (Zd (Za 4) Zj)))) (Zi (Zf1 hu 3 (Za 4) Zh)) ZX)))
  (Zf (ZaY 5 Zbq.nd rfl rfl (Zqc T.n_range Zh (ZL ZbO (Zbt T.n_len (Zq 2)) Zh)) (Zf (ZaD 6 Zbq.nd (Zcm Zj))
  (Zf (ZaY 4 Zbq.nd rfl rfl (ZR (Za 2)) (Zi (Zan (ZiI (Zqa (Zhj hu (Za 4) (Zq 3)) (ZoS (Zba (ZrH Zek hr (ZfG (Za 0) (ZfG (Za 1) (ZfG (Za 4) (Zj9 (Zq 3) (ZmC Zj)))))))))) (Zi (Ze1 6 (Za 4))) ZX)))
  (Zi (Zfa 6 (ZaY 4 Zbq.nd rfl rfl (ZR (Za 6)) (Zi (Zf1 hu 3 (Za 4) (Za 5)))))))))
  (Zi (Zfa 3 (Zx (Za 3))))))))
theorem ZfH:ZB ["_law_works_here","_law_looks_here","_law_costs_here","_law_some"] ["_law_works_here","_law_looks_here"] (Zg Zcj):=⟨rfl,rfl,rfl,by decide +kernel,rfl,by decide +kernel,by decide +kernel⟩
theorem Zk1 (T:Txt K mg) (ZgP:Callee P w K mg base k "_law_costs" Zdz) (Zae:Callee P w K mg base k "_law_split" Zah) {f:Addr} {fd:FuncData} (Fn:Fun K "_law_fewest" "_law_fewest" Zcj f fd) (hm:mg "_law_fewest" = some (.ref f)) (hb:Binds K fd ["_law_works_here","_law_looks_here"] []):Callee P w K mg base (k + 1) "_law_fewest" Zch :=
 Zv Fn ZfH hm hb fun cdv A outer s H E hr=>by
  have hu:=ZU hr
  exact (Zf (ZO 2 ZfH.nd (Zn ZgP hr (Zd (Za 0) (Zd (Za 1) Zj))))
  (Zf (ZjP 3 ZfH.nd rfl rfl (N:=["_law_seen","_law_part","_law_works_here","_law_looks_here","_law_costs_here","_law_some"]) (ZF (sc:=Zg Zcj) (XN:=["_law_works_here","_law_looks_here","_law_costs_here","_law_some"])) (ZR (Zn Zae hr (Zd (Za 0) (Zd (Za 1) (Zd (ZJ (Zq 0) Zh) Zj))))) (fun _ _ _ _ _=>ZaI) (fun _ _ _ _ _=>(ZrG hu (Zq 4) (Za 1) Zh ⟨rfl,rfl,rfl,rfl⟩)))
  (Zf (Zan (Zar (cEq hr) (ZkY T.n_max rfl (Zq 3)) Zh) (Zi (Zx Zb0)) ZX)
  (Zi (Zx (ZkY T.n_max rfl (Zq 3)))))))
theorem Zl6:ZB ["thing","least","most"] ["thing","least","most"] (Zg ZdB):=⟨rfl,rfl,rfl,by decide +kernel,rfl,by decide +kernel,by decide +kernel⟩
theorem Zl7 (T:Txt K mg)  {f:Addr} {fd:FuncData} (Fn:Fun K "is_number" "is_number" ZdB f fd) (hm:mg "is_number" = some (.ref f)) (hb:Binds K fd ["thing","least","most"] []):Callee P w K mg base (k + 1) "is_number" ZaZ :=
 Zv Fn Zl6 hm hb fun cdv A outer s H E hr=>by
  have hu:=ZU hr
  exact (Zf (Zan (ZiI (Zhh (Zba (ZjN T.n_isinstance T.n_bool (Za 0))) (ZhI (Zcl (Zba (Zkv T.n_isinstance T.n_int (Za 0))))))) (Zi (Zx ZcB)) ZX)
  (Zi (Zx (Zmy cLe cLe (Za 1) (Za 0) (Za 2)))))
theorem ZeS:ZB ["thing","many","least","number"] ["thing","many"] (Zg ZdC):=⟨rfl,rfl,rfl,by decide +kernel,rfl,by decide +kernel,by decide +kernel⟩
theorem Zl8 (T:Txt K mg) (Zbg:Callee P w K mg base k "is_number" ZaZ) {f:Addr} {fd:FuncData} (Fn:Fun K "is_rising" "is_rising" ZdC f fd) (hm:mg "is_rising" = some (.ref f)) (hb:Binds K fd ["thing","many"] []):Callee P w K mg base (k + 1) "is_rising" Zad :=
 Zv Fn ZeS hm hb fun cdv A outer s H E hr=>by
  have hu:=ZU hr
  exact (Zf (Zan (Zcl (Zba (Zdv T.n_isinstance T.n_tuple (Za 0)))) (Zi (Zx ZcB)) ZX)
  (Zf (ZO 2 ZeS.nd Zh)
  (Zf (ZaY 3 ZeS.nd rfl rfl (ZR (Za 0)) (Zf (Zan (Zcl (Zba (Zn Zbg hr (Zd (Za 3) (Zd (Za 2) (Zd (ZL Zsi (Za 1) Zh) Zj)))))) (Zi (Zx ZcB)) ZX)
  (Zi (ZO 2 ZeS.nd (ZL ZbO (Za 3) Zh)))))
  (Zi (Zx ZcB)))))
theorem ZmK:ZB ["thing","many"] ["thing","many"] (Zg Zew):=⟨rfl,rfl,rfl,by decide +kernel,rfl,by decide +kernel,by decide +kernel⟩
theorem ZmL (T:Txt K mg) (ZaA:Callee P w K mg base k "is_rising" Zad) {f:Addr} {fd:FuncData} (Fn:Fun K "is_crowd" "is_crowd" Zew f fd) (hm:mg "is_crowd" = some (.ref f)) (hb:Binds K fd ["thing","many"] []):Callee P w K mg base (k + 1) "is_crowd" Zdi :=
 Zv Fn ZmK hm hb fun cdv A outer s H E hr=>by
  have hu:=ZU hr
  exact (Zi (Zx (Zes (Zn ZaA hr (Zd (Za 0) (Zd (Za 1) Zj))) (Zer (ZgK cGt (Zbt T.n_len (Zq 0)) Zh)))))
theorem Zpo:ZB ["thing","least","most"] ["thing","least","most"] (Zg Zf2):=⟨rfl,rfl,rfl,by decide +kernel,rfl,by decide +kernel,by decide +kernel⟩
theorem Zpp (T:Txt K mg)  {f:Addr} {fd:FuncData} (Fn:Fun K "is_row" "is_row" Zf2 f fd) (hm:mg "is_row" = some (.ref f)) (hb:Binds K fd ["thing","least","most"] []):Callee P w K mg base (k + 1) "is_row" ZaX :=
 Zv Fn Zpo hm hb fun cdv A outer s H E hr=>by
  have hu:=ZU hr
  exact (Zi (Zx (Zes (Zdv T.n_isinstance T.n_tuple (Za 0)) (Zer (Zmy cLe cLe (Za 1) (Zbt T.n_len (Zq 0)) (Za 2))))))
theorem Zoo:ZB ["thing","many"] ["thing","many"] (Zg Zd7):=⟨rfl,rfl,rfl,by decide +kernel,rfl,by decide +kernel,by decide +kernel⟩
theorem Zop (T:Txt K mg) (ZaJ:Callee P w K mg base k "is_row" ZaX) (ZaA:Callee P w K mg base k "is_rising" Zad) {f:Addr} {fd:FuncData} (Fn:Fun K "is_deed" "is_deed" Zd7 f fd) (hm:mg "is_deed" = some (.ref f)) (hb:Binds K fd ["thing","many"] []):Callee P w K mg base (k + 1) "is_deed" Zcn :=
 Zv Fn Zoo hm hb fun cdv A outer s H E hr=>by
  have hu:=ZU hr
  exact (Zi (Zx (Zes (Zn ZaJ hr (Zd (Za 0) (Zd (Za 1) (Zd (Za 1) Zj)))) (Zer (Zf0 T.n_all rfl (ZaR (Zas rfl rfl (N:=["crowd","thing","many"]) (ZF (sc:=Zg Zd7) (XN:=["thing","many"])) (ZR (Za 0)) (fun _ _ _ _ _=>ZaI) (fun _ _ _ _ _=>(Zn ZaA hr (Zd (Za 0) (Zd (Za 2) Zj)))))))))))
theorem Zl9:ZB ["thing","many"] ["thing","many"] (Zg ZcJ):=⟨rfl,rfl,rfl,by decide +kernel,rfl,by decide +kernel,by decide +kernel⟩
theorem Zma (T:Txt K mg) (ZaJ:Callee P w K mg base k "is_row" ZaX) (Zh0:Callee P w K mg base k "is_deed" Zcn) {f:Addr} {fd:FuncData} (Fn:Fun K "are_deeds" "are_deeds" ZcJ f fd) (hm:mg "are_deeds" = some (.ref f)) (hb:Binds K fd ["thing","many"] []):Callee P w K mg base (k + 1) "are_deeds" ZcC :=
 Zv Fn Zl9 hm hb fun cdv A outer s H E hr=>by
  have hu:=ZU hr
  exact (Zi (Zx (Zes (Zn ZaJ hr (Zd (Za 0) (Zd Zh (Zd (Zjo T.c_MOST_DEEDS) Zj)))) (Zer (Zf0 T.n_all rfl (ZaR (Zas rfl rfl (N:=["deed","thing","many"]) (ZF (sc:=Zg ZcJ) (XN:=["thing","many"])) (ZR (Za 0)) (fun _ _ _ _ _=>ZaI) (fun _ _ _ _ _=>(Zn Zh0 hr (Zd (Za 0) (Zd (Za 2) Zj)))))))))))
theorem Zoq:ZB ["thing","many"] ["thing","many"] (Zg Zd8):=⟨rfl,rfl,rfl,by decide +kernel,rfl,by decide +kernel,by decide +kernel⟩
theorem Zor (T:Txt K mg) (ZaJ:Callee P w K mg base k "is_row" ZaX) (Zbg:Callee P w K mg base k "is_number" ZaZ) {f:Addr} {fd:FuncData} (Fn:Fun K "is_look" "is_look" Zd8 f fd) (hm:mg "is_look" = some (.ref f)) (hb:Binds K fd ["thing","many"] []):Callee P w K mg base (k + 1) "is_look" Zco :=
 Zv Fn Zoq hm hb fun cdv A outer s H E hr=>by
  have hu:=ZU hr
  exact (Zi (Zx (Zes (Zn ZaJ hr (Zd (Za 0) (Zd (Za 1) (Zd (Za 1) Zj)))) (Zer (Zf0 T.n_all rfl (ZaR (Zas rfl rfl (N:=["told","thing","many"]) (ZF (sc:=Zg Zd8) (XN:=["thing","many"])) (ZR (Za 0)) (fun _ _ _ _ _=>ZaI) (fun _ _ _ _ _=>(Zn Zbg hr (Zd (Za 0) (Zd Zh (Zd (Zjo T.c_MOST_SEEN) Zj))))))))))))
theorem Zmb:ZB ["thing","many"] ["thing","many"] (Zg ZcK):=⟨rfl,rfl,rfl,by decide +kernel,rfl,by decide +kernel,by decide +kernel⟩
theorem Zmc (T:Txt K mg) (ZaJ:Callee P w K mg base k "is_row" ZaX) (Zh1:Callee P w K mg base k "is_look" Zco) {f:Addr} {fd:FuncData} (Fn:Fun K "are_looks" "are_looks" ZcK f fd) (hm:mg "are_looks" = some (.ref f)) (hb:Binds K fd ["thing","many"] []):Callee P w K mg base (k + 1) "are_looks" ZcD :=
 Zv Fn Zmb hm hb fun cdv A outer s H E hr=>by
  have hu:=ZU hr
  exact (Zi (Zx (Zes (Zn ZaJ hr (Zd (Za 0) (Zd Zh (Zd (Zjo T.c_MOST_LOOKS) Zj)))) (Zer (Zf0 T.n_all rfl (ZaR (Zas rfl rfl (N:=["look","thing","many"]) (ZF (sc:=Zg ZcK) (XN:=["thing","many"])) (ZR (Za 0)) (fun _ _ _ _ _=>ZaI) (fun _ _ _ _ _=>(Zn Zh1 hr (Zd (Za 0) (Zd (Za 2) Zj)))))))))))
theorem ZiB:ZB ["thing","many"] ["thing"] (Zg ZdD):=⟨rfl,rfl,rfl,by decide +kernel,rfl,by decide +kernel,by decide +kernel⟩
theorem Zmd (T:Txt K mg) (Zhv:Callee P w K mg base k "is_crowd" Zdi) (ZaA:Callee P w K mg base k "is_rising" Zad) (ZaJ:Callee P w K mg base k "is_row" ZaX) (Zbg:Callee P w K mg base k "is_number" ZaZ) (ZgQ:Callee P w K mg base k "are_deeds" ZcC) (ZgR:Callee P w K mg base k "are_looks" ZcD) {f:Addr} {fd:FuncData} (Fn:Fun K "are_works" "are_works" ZdD f fd) (hm:mg "are_works" = some (.ref f)) (hb:Binds K fd ["thing"] []):Callee P w K mg base (k + 1) "are_works" ZcE :=
 Zv Fn ZiB hm hb fun cdv A outer s H E hr=>by
  have hu:=ZU hr
  exact (Zf (Zan (ZiI (Zhh (Zcl (Zba (Zn ZaJ hr (Zd (Za 0) (Zd Zh (Zd Zh Zj)))))) (ZhI (Zcl (Zba (Zn Zbg hr (Zd (ZJ (Zq 0) Zh) (Zd Zh (Zd (Zjo T.c_MOST_STATES) Zj))))))))) (Zi (Zx ZcB)) ZX)
  (Zf (ZO 1 ZiB.nd (ZJ (Zq 0) Zh))
  (Zf (Zan (ZiI (Zhh (Zcl (Zba (Zn ZgQ hr (Zd (ZJ (Zq 0) Zh) (Zd (Za 1) Zj))))) (ZhI (Zcl (Zba (Zn ZgR hr (Zd (ZJ (Zq 0) Zh) (Zd (Za 1) Zj)))))))) (Zi (Zx ZcB)) ZX)
  (Zi (Zx (Zes (Zn Zhv hr (Zd (ZJ (Zq 0) Zh) (Zd (Za 1) Zj))) (Zer (Zn ZaA hr (Zd (ZJ (Zq 0) Zh) (Zd (Za 1) Zj))))))))))
theorem Zos:ZB ["works"] ["works"] (Zg Zfi):=⟨rfl,rfl,rfl,by decide +kernel,rfl,by decide +kernel,by decide +kernel⟩
theorem Zot (T:Txt K mg) (ZgS:Callee P w K mg base k "are_works" ZcE) {f:Addr} {fd:FuncData} (Fn:Fun K "checked" "checked" Zfi f fd) (hm:mg "checked" = some (.ref f)) (hb:Binds K fd ["works"] []):Callee P w K mg base (k + 1) "checked" Zd3 :=
 Zv Fn Zos hm hb fun cdv A outer s H E hr=>by
  have hu:=ZU hr
  exact (Zf (Zan (Zcl (Zba (Zn ZgS hr (Zd (Za 0) Zj)))) (Zi Zmz) ZX)
  (Zi (Zx (Za 0))))
theorem ZmM:ZB ["works"] ["works"] (Zg Zey):=⟨rfl,rfl,rfl,by decide +kernel,rfl,by decide +kernel,by decide +kernel⟩
theorem ZmN (T:Txt K mg)  {f:Addr} {fd:FuncData} (Fn:Fun K "looks_of" "looks_of" Zey f fd) (hm:mg "looks_of" = some (.ref f)) (hb:Binds K fd ["works"] []):Callee P w K mg base (k + 1) "looks_of" ZbW :=
 Zv Fn ZmM hm hb fun cdv A outer s H E hr=>by
  have hu:=ZU hr
  exact (Zi (Zx (ZJ (Zq 0) Zh)))
theorem ZjI:ZB ["works","looks"] ["works","looks"] (Zg Zb6):=⟨rfl,rfl,rfl,by decide +kernel,rfl,by decide +kernel,by decide +kernel⟩
theorem ZjJ (T:Txt K mg) (ZaA:Callee P w K mg base k "is_rising" Zad) (Zdo:Callee P w K mg base k "looks_of" ZbW) {f:Addr} {fd:FuncData} (Fn:Fun K "checked_looks" "checked_looks" Zb6 f fd) (hm:mg "checked_looks" = some (.ref f)) (hb:Binds K fd ["works","looks"] []):Callee P w K mg base (k + 1) "checked_looks" Zbv :=
 Zv Fn ZjI hm hb fun cdv A outer s H E hr=>by
  have hu:=ZU hr
  exact (Zf (Zan (Zcl (Zba (Zn ZaA hr (Zd (Za 1) (Zd (Zbt T.n_len (ZaF (Zn Zdo hr (Zd (Za 0) Zj)))) Zj))))) (Zi Zmz) ZX)
  (Zi (Zx (Za 1))))
theorem Zou:ZB ["works","looks","state"] ["works","looks","state"] (Zg Zd9):=⟨rfl,rfl,rfl,by decide +kernel,rfl,by decide +kernel,by decide +kernel⟩
theorem Zov (T:Txt K mg) (Zdo:Callee P w K mg base k "looks_of" ZbW) {f:Addr} {fd:FuncData} (Fn:Fun K "seen_in" "seen_in" Zd9 f fd) (hm:mg "seen_in" = some (.ref f)) (hb:Binds K fd ["works","looks","state"] []):Callee P w K mg base (k + 1) "seen_in" Zd4 :=
 Zv Fn Zou hm hb fun cdv A outer s H E hr=>by
  have hu:=ZU hr
  exact (Zi (Zx (Zag T.n_tuple (ZaR (Zas rfl rfl (N:=["look","works","looks","state"]) (ZF (sc:=Zg Zd9) (XN:=["works","looks","state"])) (ZR (Za 1)) (fun _ _ _ _ _=>ZaI) (fun _ _ _ _ _=>(ZJ (ZaF (ZJ (ZaF (Zn Zdo hr (Zd (Za 1) Zj))) (Za 0))) (Za 3))))))))
theorem Zh2:ZB ["works","looks","crowd","found","state"] ["works","looks","crowd"] (Zg Ze4):=⟨rfl,rfl,rfl,by decide +kernel,rfl,by decide +kernel,by decide +kernel⟩
theorem Zpq (T:Txt K mg) (Zh3:Callee P w K mg base k "seen_in" Zd4) {f:Addr} {fd:FuncData} (Fn:Fun K "parted" "parted" Ze4 f fd) (hm:mg "parted" = some (.ref f)) (hb:Binds K fd ["works","looks","crowd"] []):Callee P w K mg base (k + 1) "parted" ZbD :=
 Zv Fn Zh2 hm hb fun cdv A outer s H E hr=>by
  have hu:=ZU hr
  exact (Zf (ZaD 3 Zh2.nd Zqd)
  (Zf (ZaY 4 Zh2.nd rfl rfl (ZR (Za 2)) (Zi (ZrF hu 3 (Zn Zh3 hr (Zd (Za 0) (Zd (Za 1) (Zd (Za 4) Zj)))) (Za 4) ⟨rfl,rfl,rfl,rfl⟩)))
  (Zi (Zx (Zd1 (Zas rfl rfl (N:=["seen","works","looks","crowd","found","state"]) (ZF (sc:=Zg Ze4) (XN:=["works","looks","crowd","found","state"])) (ZR (Zd1 (Zhi T.n_sorted rfl (Zq 3)))) (fun _ _ _ _ _=>ZaI) (fun _ _ _ _ _=>(Zc7 (Zd (Za 0) (Zd (Zag T.n_tuple (Zqe hu 4 (Za 0))) Zj))))))))))
theorem ZiC:ZB ["rows"] ["rows"] (Zg ZbF):=⟨rfl,rfl,rfl,by decide +kernel,rfl,by decide +kernel,by decide +kernel⟩
theorem Zk2 (T:Txt K mg)  {f:Addr} {fd:FuncData} (Fn:Fun K "crowds_in" "crowds_in" ZbF f fd) (hm:mg "crowds_in" = some (.ref f)) (hb:Binds K fd ["rows"] []):Ze6 P w K mg base (k + 1) "crowds_in" ZE :=
 ZpO Fn ZiC hm hb rfl (fun r b h=>ZsT _ _ _ r b h) fun cdv A outer s H E hr=>by
  have hu:=ZU hr
  exact (Zas rfl rfl (N:=["row","rows"]) (ZF (sc:=Zg ZbF) (XN:=["rows"])) (ZR (Za 0)) (fun _ _ _ _ _=>ZaI) (fun _ _ _ _ _=>(ZJ (Zq 0) Zh)))
theorem Zme (T:Txt K mg)  {f:Addr} {fd:FuncData} (Fn:Fun K "crowds_in" "crowds_in" ZbF f fd) (hm:mg "crowds_in" = some (.ref f)) (hb:Binds K fd ["rows"] []):Callee P w K mg base (k + 1) "crowds_in" ZE :=
 Zv Fn ZiC hm hb fun cdv A outer s H E hr=>by
  have hu:=ZU hr
  exact (Zi (Zx (Zd1 (Zas rfl rfl (N:=["row","rows"]) (ZF (sc:=Zg ZbF) (XN:=["rows"])) (ZR (Za 0)) (fun _ _ _ _ _=>ZaI) (fun _ _ _ _ _=>(ZJ (Zq 0) Zh))))))
theorem ZmO:ZB ["works"] ["works"] (Zg Zex):=⟨rfl,rfl,rfl,by decide +kernel,rfl,by decide +kernel,by decide +kernel⟩
theorem ZmP (T:Txt K mg)  {f:Addr} {fd:FuncData} (Fn:Fun K "deeds_of" "deeds_of" Zex f fd) (hm:mg "deeds_of" = some (.ref f)) (hb:Binds K fd ["works"] []):Callee P w K mg base (k + 1) "deeds_of" Zbd :=
 Zv Fn ZmO hm hb fun cdv A outer s H E hr=>by
  have hu:=ZU hr
  exact (Zi (Zx (ZJ (Zq 0) Zh)))
theorem Zhl:ZB ["works","crowd","deed","leads"] ["works","crowd","deed"] (Zg Zb2):=⟨rfl,rfl,rfl,by decide +kernel,rfl,by decide +kernel,by decide +kernel⟩
theorem ZkA (T:Txt K mg) (ZbA:Callee P w K mg base k "deeds_of" Zbd) {f:Addr} {fd:FuncData} (Fn:Fun K "can_be_done" "can_be_done" Zb2 f fd) (hm:mg "can_be_done" = some (.ref f)) (hb:Binds K fd ["works","crowd","deed"] []):Callee P w K mg base (k + 1) "can_be_done" Zb1 :=
 Zv Fn Zhl hm hb fun cdv A outer s H E hr=>by
  have hu:=ZU hr
  exact (Zf (ZO 3 Zhl.nd (ZJ (ZaF (Zn ZbA hr (Zd (Za 0) Zj))) (Za 2)))
  (Zi (Zx (Zf0 T.n_all rfl (ZaR (Zas rfl rfl (N:=["state","works","crowd","deed","leads"]) (ZF (sc:=Zg Zb2) (XN:=["works","crowd","deed","leads"])) (ZR (Za 1)) (fun _ _ _ _ _=>ZaI) (fun _ _ _ _ _=>(ZgK cGt (Zbt T.n_len (ZaF (ZJ (Zq 4) (Za 0)))) Zh))))))))
theorem Zk3:ZB ["works","crowd"] ["works","crowd"] (Zg Zci):=⟨rfl,rfl,rfl,by decide +kernel,rfl,by decide +kernel,by decide +kernel⟩
theorem Zk4 (T:Txt K mg) (ZfI:Callee P w K mg base k "can_be_done" Zb1) (ZbA:Callee P w K mg base k "deeds_of" Zbd) {f:Addr} {fd:FuncData} (Fn:Fun K "deeds_with" "deeds_with" Zci f fd) (hm:mg "deeds_with" = some (.ref f)) (hb:Binds K fd ["works","crowd"] []):Callee P w K mg base (k + 1) "deeds_with" Zce :=
 Zv Fn Zk3 hm hb fun cdv A outer s H E hr=>by
  have hu:=ZU hr
  exact (Zi (Zx (Zd1 (Zas rfl rfl (N:=["deed","works","crowd"]) (ZF (sc:=Zg Zci) (XN:=["works","crowd"])) (ZbC T.n_range (Zbt T.n_len (ZaF (Zn ZbA hr (Zd (Za 0) Zj))))) (fun _ _ _ _ _=>(Zd2 (Zba (Zn ZfI hr (Zd (Za 1) (Zd (Za 2) (Zd (Za 0) Zj))))))) (fun _ _ _ _ _=>(Za 0))))))
theorem Zfm:ZB ["works","crowd","deed","leads","found","state","target"] ["works","crowd","deed"] (Zg Zf3):=⟨rfl,rfl,rfl,by decide +kernel,rfl,by decide +kernel,by decide +kernel⟩
theorem Zpr (T:Txt K mg) (ZbA:Callee P w K mg base k "deeds_of" Zbd) {f:Addr} {fd:FuncData} (Fn:Fun K "led_to" "led_to" Zf3 f fd) (hm:mg "led_to" = some (.ref f)) (hb:Binds K fd ["works","crowd","deed"] []):Callee P w K mg base (k + 1) "led_to" Zdw :=
 Zv Fn Zfm hm hb fun cdv A outer s H E hr=>by
  have hu:=ZU hr
  exact (Zf (ZO 3 Zfm.nd (ZJ (ZaF (Zn ZbA hr (Zd (Za 0) Zj))) (Za 2)))
  (Zf (ZaD 4 Zfm.nd Zvs)
  (Zf (ZaY 5 Zfm.nd rfl rfl (ZR (Za 1)) (Zi (ZaY 6 Zfm.nd rfl rfl (ZR (ZJ (Zq 3) (Za 5))) (Zi (Zf1 hu 4 (Za 6) ZcB)))))
  (Zi (Zx (Zag T.n_tuple (ZaR (Zhi T.n_sorted rfl (Zq 4)))))))))
theorem Zmf:ZB ["works","looks","crowd"] ["works","looks","crowd"] (Zg ZcL):=⟨rfl,rfl,rfl,by decide +kernel,rfl,by decide +kernel,by decide +kernel⟩
theorem Zmg (T:Txt K mg) (Zcr:Callee P w K mg base k "parted" ZbD) (Zgn:Callee P w K mg base k "deeds_with" Zce) (ZiU:Callee P w K mg base k "led_to" Zdw) {f:Addr} {fd:FuncData} (Fn:Fun K "ways_with" "ways_with" ZcL f fd) (hm:mg "ways_with" = some (.ref f)) (hb:Binds K fd ["works","looks","crowd"] []):Callee P w K mg base (k + 1) "ways_with" ZcG :=
 Zv Fn Zmf hm hb fun cdv A outer s H E hr=>by
  have hu:=ZU hr
  exact (Zi (Zx (Zd1 (Zas rfl rfl (N:=["deed","works","looks","crowd"]) (ZF (sc:=Zg ZcL) (XN:=["works","looks","crowd"])) (ZR (Zn Zgn hr (Zd (Za 0) (Zd (Za 2) Zj)))) (fun _ _ _ _ _=>ZaI) (fun _ _ _ _ _=>(Zc7 (Zd (Za 0) (Zd (Zn Zcr hr (Zd (Za 1) (Zd (Za 2) (Zd (Zn ZiU hr (Zd (Za 1) (Zd (Za 3) (Zd (Za 0) Zj)))) Zj)))) Zj))))))))
theorem Zcs:ZB ["works","looks","crowd","coming","waiting","part","way"] ["works","looks","crowd"] (Zg ZcM):=⟨rfl,rfl,rfl,by decide +kernel,rfl,by decide +kernel,by decide +kernel⟩
theorem ZkB (T:Txt K mg) (Zbh:Callee P w K mg base k "crowds_in" ZE) (Zcr:Callee P w K mg base k "parted" ZbD) (ZgT:Callee P w K mg base k "ways_with" ZcG) (Zfn:Ze6 P w K mg base k "crowds_in" ZE) {f:Addr} {fd:FuncData} (Fn:Fun K "coming_from" "coming_from" ZcM f fd) (hm:mg "coming_from" = some (.ref f)) (hb:Binds K fd ["works","looks","crowd"] []):Callee P w K mg base (k + 1) "coming_from" ZcH :=
 Zv Fn Zcs hm hb fun cdv A outer s H E hr=>by
  have hu:=ZU hr
  exact (Zf (ZaD 3 Zcs.nd Zmt)
  (Zf (ZaD 4 Zcs.nd (ZmD Zfn hr (Zd (Zn Zcr hr (Zd (Za 0) (Zd (Za 1) (Zd (Za 2) Zj)))) Zj)))
  (Zf (Zj8 100000 rfl (Zar cGt (Zbt T.n_len (Zq 4)) Zh) (Zf (Zt7 5 4 Zcs.nd)
  (Zi (Zan (Zhj hu (Za 5) (Zq 3)) (Zf (Zf1 hu 3 (Za 5) (Zn ZgT hr (Zd (Za 0) (Zd (Za 1) (Zd (Za 5) Zj)))))
  (Zi (ZaY 6 Zcs.nd rfl rfl (ZR (Ze2 hu (Zq 3) (Za 5))) (Zi (Zqj 4 (ZaR (ZmD Zfn hr (Zd (ZJ (Zq 6) Zh) Zj)))))))) ZX))))
  (Zi (Zfa 3 (Zx (Za 3)))))))
theorem Zow:ZB ["works"] ["works"] (Zg Zfh):=⟨rfl,rfl,rfl,by decide +kernel,rfl,by decide +kernel,by decide +kernel⟩
theorem Zox (T:Txt K mg)  {f:Addr} {fd:FuncData} (Fn:Fun K "goal_of" "goal_of" Zfh f fd) (hm:mg "goal_of" = some (.ref f)) (hb:Binds K fd ["works"] []):Callee P w K mg base (k + 1) "goal_of" Zd5 :=
 Zv Fn Zow hm hb fun cdv A outer s H E hr=>by
  have hu:=ZU hr
  exact (Zi (Zx (ZJ (Zq 0) Zh)))
theorem ZmQ:ZB ["works","crowd"] ["works","crowd"] (Zg Zdn):=⟨rfl,rfl,rfl,by decide +kernel,rfl,by decide +kernel,by decide +kernel⟩
theorem ZmR (T:Txt K mg) (Zh4:Callee P w K mg base k "goal_of" Zd5) {f:Addr} {fd:FuncData} (Fn:Fun K "is_there" "is_there" Zdn f fd) (hm:mg "is_there" = some (.ref f)) (hb:Binds K fd ["works","crowd"] []):Callee P w K mg base (k + 1) "is_there" Zbz :=
 Zv Fn ZmQ hm hb fun cdv A outer s H E hr=>by
  have hu:=ZU hr
  exact (Zi (Zx (Zf0 T.n_all rfl (ZaR (Zas rfl rfl (N:=["state","works","crowd"]) (ZF (sc:=Zg Zdn) (XN:=["works","crowd"])) (ZR (Za 1)) (fun _ _ _ _ _=>ZaI) (fun _ _ _ _ _=>(Zt6 (Za 0) (ZaF (Zn Zh4 hr (Zd (Za 1) Zj))))))))))
theorem Zf5:ZB ["ways","depths","deeds","way"] ["ways","depths","deeds"] (Zg Zbm):=⟨rfl,rfl,rfl,by decide +kernel,rfl,by decide +kernel,by decide +kernel⟩
theorem ZiV (T:Txt K mg) (Zbh:Callee P w K mg base k "crowds_in" ZE) {f:Addr} {fd:FuncData} (Fn:Fun K "way_with_fewer" "way_with_fewer" Zbm f fd) (hm:mg "way_with_fewer" = some (.ref f)) (hb:Binds K fd ["ways","depths","deeds"] []):Callee P w K mg base (k + 1) "way_with_fewer" Zaq :=
 Zv Fn Zf5 hm hb fun cdv A outer s H E hr=>by
  have hu:=ZU hr
  exact (Zf (ZaY 3 Zf5.nd rfl rfl (ZR (Za 0)) (Zi (Zan (Zba (Zf0 T.n_all rfl (ZaR (Zas rfl rfl (N:=["part","ways","depths","deeds","way"]) (ZF (sc:=Zg Zbm) (XN:=["ways","depths","deeds","way"])) (ZR (Zn Zbh hr (Zd (ZJ (Zq 3) Zh) Zj))) (fun _ _ _ _ _=>ZaI) (fun _ _ _ _ _=>(Zes (Zqi hu (Za 0) (Zq 2)) (Zer (ZgK cLt (Ze2 hu (Zq 2) (Za 0)) (Za 3))))))))) (Zi (Zx (Za 3))) ZX)))
  (Zi (Zx Zb0)))
theorem Zbr:ZB ["works","coming","depths","deeds","found","crowd","left"] ["works","coming"] (Zg ZbG):=⟨rfl,rfl,rfl,by decide +kernel,rfl,by decide +kernel,by decide +kernel⟩
theorem Zmh (T:Txt K mg) (Zhw:Callee P w K mg base k "is_there" Zbz) (Zbo:Callee P w K mg base k "way_with_fewer" Zaq) {f:Addr} {fd:FuncData} (Fn:Fun K "depths_of" "depths_of" ZbG f fd) (hm:mg "depths_of" = some (.ref f)) (hb:Binds K fd ["works","coming"] []):Callee P w K mg base (k + 1) "depths_of" ZcI :=
 Zv Fn Zbr hm hb fun cdv A outer s H E hr=>by
  have hu:=ZU hr
  exact (Zf (ZaD 2 Zbr.nd Zmt)
  (Zf (ZO 3 Zbr.nd Zh)
  (Zf (ZkZ 1 (Zgw 4 Zbr.nd rfl rfl (N:=["crowd","works","coming","depths","deeds","found"," ","left"]) (ZF (sc:=Zg ZbG) (XN:=["works","coming","depths","deeds","found","crowd","left"])) (Zk0 1) (fun _ _ _ _ _=>(Zd2 (Zba (Zn Zhw hr (Zd (Za 1) (Zd (Za 0) Zj)))))) (fun _ _ _ _ _=>(Za 0))))
  (Zf (Zj8 100000 rfl (Zar cGt (Zbt T.n_len (Zq 4)) Zh) (Zf (Zfa 4 (ZaY 5 Zbr.nd rfl rfl (ZR (Za 4)) (Zi (Zf1 hu 2 (Za 5) (Za 3)))))
  (Zf (Zt8 3 Zbr.nd Zh)
  (Zf (ZkZ 1 (Zgw 6 Zbr.nd rfl rfl (N:=["crowd","works","coming","depths","deeds","found"," ","left"]) (ZF (sc:=Zg ZbG) (XN:=["works","coming","depths","deeds","found","crowd","left"])) (Zk0 1) (fun _ _ _ _ _=>(Zd2 (Zhj hu (Za 0) (Zq 3)))) (fun _ _ _ _ _=>(Za 0))))
  (Zi (Zfa 6 (Zgw 4 Zbr.nd rfl rfl (N:=["crowd","works","coming","depths","deeds","found"," ","left"]) (ZF (sc:=Zg ZbG) (XN:=["works","coming","depths","deeds","found","crowd","left"])) (ZR (Za 6)) (fun _ _ _ _ _=>(Zd2 (Zta ZpE (ZrJ Zbo hr (ZfG (Ze2 hu (Zq 2) (Za 0)) (Zj9 (Zq 3) (ZfG (Za 4) (ZmC Zj))))) Zb0))) (fun _ _ _ _ _=>(Za 0)))))))))
  (Zi (Zfa 2 (Zx (Za 2))))))))
theorem Zoy:ZB ["rows","steps"] ["rows","steps"] (Zg Zea):=⟨rfl,rfl,rfl,by decide +kernel,rfl,by decide +kernel,by decide +kernel⟩
theorem Zoz (T:Txt K mg)  {f:Addr} {fd:FuncData} (Fn:Fun K "plan_of" "plan_of" Zea f fd) (hm:mg "plan_of" = some (.ref f)) (hb:Binds K fd ["rows","steps"] []):Callee P w K mg base (k + 1) "plan_of" Za5 :=
 Zv Fn Zoy hm hb fun cdv A outer s H E hr=>by
  have hu:=ZU hr
  exact (Zi (Zx (Zag T.n_tuple (ZaR (Zj7 rfl rfl (N:=["seen","part","rows","steps"]) (ZF (sc:=Zg Zea) (XN:=["rows","steps"])) (ZR (Za 0)) (fun _ _ _ _ _=>ZaI) (fun _ _ _ _ _=>(Zc7 (Zd (Za 0) (Zd (Ze2 hu (Zq 3) (Za 1)) Zj)))))))))
theorem ZmS:ZB ["works"] ["works"] (Zg Zez):=⟨rfl,rfl,rfl,by decide +kernel,rfl,by decide +kernel,by decide +kernel⟩
theorem ZmT (T:Txt K mg)  {f:Addr} {fd:FuncData} (Fn:Fun K "begin_of" "begin_of" Zez f fd) (hm:mg "begin_of" = some (.ref f)) (hb:Binds K fd ["works"] []):Callee P w K mg base (k + 1) "begin_of" Zdm :=
 Zv Fn ZmS hm hb fun cdv A outer s H E hr=>by
  have hu:=ZU hr
  exact (Zi (Zx (ZJ (Zq 0) Zh)))
theorem Zk5:ZB ["rows","depths"] ["rows","depths"] (Zg ZbM):=⟨rfl,rfl,rfl,by decide +kernel,rfl,by decide +kernel,by decide +kernel⟩
theorem Zk6 (T:Txt K mg) (Zbh:Callee P w K mg base k "crowds_in" ZE) {f:Addr} {fd:FuncData} (Fn:Fun K "most_deeds" "most_deeds" ZbM f fd) (hm:mg "most_deeds" = some (.ref f)) (hb:Binds K fd ["rows","depths"] []):Callee P w K mg base (k + 1) "most_deeds" Zdc :=
 Zv Fn Zk5 hm hb fun cdv A outer s H E hr=>by
  have hu:=ZU hr
  exact (Zf (Zan (Zcl (Zba (Zf0 T.n_all rfl (ZaR (Zas rfl rfl (N:=["part","rows","depths"]) (ZF (sc:=Zg ZbM) (XN:=["rows","depths"])) (ZR (Zn Zbh hr (Zd (Za 0) Zj))) (fun _ _ _ _ _=>ZaI) (fun _ _ _ _ _=>(Zqi hu (Za 0) (Zq 2)))))))) (Zi (Zx Zb0)) ZX)
  (Zi (Zx (ZkY T.n_max rfl (ZaR (Zas rfl rfl (N:=["part","rows","depths"]) (ZF (sc:=Zg ZbM) (XN:=["rows","depths"])) (ZR (Zn Zbh hr (Zd (Za 0) Zj))) (fun _ _ _ _ _=>ZaI) (fun _ _ _ _ _=>(Ze2 hu (Zq 2) (Za 0)))))))))
theorem Zfo:ZB ["coming","depths","steps","crowd","way"] ["coming","depths"] (Zg ZeA):=⟨rfl,rfl,rfl,by decide +kernel,rfl,by decide +kernel,by decide +kernel⟩
theorem ZmU (T:Txt K mg) (Zbo:Callee P w K mg base k "way_with_fewer" Zaq) (Zeb:Callee P w K mg base k "plan_of" Za5) {f:Addr} {fd:FuncData} (Fn:Fun K "steps_of" "steps_of" ZeA f fd) (hm:mg "steps_of" = some (.ref f)) (hb:Binds K fd ["coming","depths"] []):Callee P w K mg base (k + 1) "steps_of" Zeu :=
 Zv Fn Zfo hm hb fun cdv A outer s H E hr=>by
  have hu:=ZU hr
  exact (Zf (ZaD 2 Zfo.nd Zmt)
  (Zf (ZkZ 1 (ZaY 3 Zfo.nd rfl rfl (Zk0 1) (Zi (Zan (Zar (cEq hr) (Ze2 hu (Zq 1) (Za 3)) Zh) (Zi (Zf1 hu 2 (Za 3) (ZrK T.c_DONE))) (Zf (ZO 4 Zfo.nd (Zn Zbo hr (Zd (Ze2 hu (Zq 0) (Za 3)) (Zd (Zvt 1) (Zd (Ze2 hu (Zq 1) (Za 3)) Zj)))))
  (Zi (Zf1 hu 2 (Za 3) (Zc7 (Zd Zku (Zd (ZJ (Zq 4) Zh) (Zd (ZrL Zeb hr (ZfG (ZJ (Zq 4) Zh) (Zj9 (Zq 2) (ZmC Zj)))) Zj)))))))))))
  (Zi (Zfa 2 (Zx (Za 2))))))
theorem Zgy:ZB ["works","looks","rows","coming","depths"] ["works","looks"] (Zg Zf4):=⟨rfl,rfl,rfl,by decide +kernel,rfl,by decide +kernel,by decide +kernel⟩
theorem Zps (T:Txt K mg) (Zh5:Callee P w K mg base k "checked" Zd3) (ZeU:Callee P w K mg base k "checked_looks" Zbv) (Zcr:Callee P w K mg base k "parted" ZbD) (ZfJ:Callee P w K mg base k "coming_from" ZcH) (ZgU:Callee P w K mg base k "depths_of" ZcI) (Zeb:Callee P w K mg base k "plan_of" Za5) (ZfX:Callee P w K mg base k "begin_of" Zdm) (Zgo:Callee P w K mg base k "most_deeds" Zdc) (Zhx:Callee P w K mg base k "steps_of" Zeu) {f:Addr} {fd:FuncData} (Fn:Fun K "a_plan" "a_plan" Zf4 f fd) (hm:mg "a_plan" = some (.ref f)) (hb:Binds K fd ["works","looks"] []):Callee P w K mg base (k + 1) "a_plan" Ze3 :=
 Zv Fn Zgy hm hb fun cdv A outer s H E hr=>by
  have hu:=ZU hr
  exact (Zf (ZoT (Zn Zh5 hr (Zd (Za 0) Zj)))
  (Zf (ZoT (Zn ZeU hr (Zd (Za 0) (Zd (Za 1) Zj))))
  (Zf (ZO 2 Zgy.nd (Zn Zcr hr (Zd (Za 0) (Zd (Za 1) (Zd (Zn ZfX hr (Zd (Za 0) Zj)) Zj)))))
  (Zf (ZO 3 Zgy.nd (Zn ZfJ hr (Zd (Za 0) (Zd (Za 1) (Zd (Zn ZfX hr (Zd (Za 0) Zj)) Zj)))))
  (Zf (ZO 4 Zgy.nd (Zn ZgU hr (Zd (Za 0) (Zd (Za 3) Zj))))
  (Zf (Zan (Zar ZpC (Zn Zgo hr (Zd (Za 2) (Zd (Za 4) Zj))) Zb0) (Zi (Zx Zb0)) ZX)
  (Zi (Zx (Zn Zeb hr (Zd (Za 2) (Zd (Zn Zhx hr (Zd (Za 3) (Zd (Za 4) Zj))) Zj)))))))))))
theorem Zmi:ZB ["_law_found"] ["_law_found"] (Zg ZdE):=⟨rfl,rfl,rfl,by decide +kernel,rfl,by decide +kernel,by decide +kernel⟩
theorem Zmj (T:Txt K mg)  {f:Addr} {fd:FuncData} (Fn:Fun K "_law_whole" "_law_whole" ZdE f fd) (hm:mg "_law_whole" = some (.ref f)) (hb:Binds K fd ["_law_found"] []):Callee P w K mg base (k + 1) "_law_whole" Zb4 :=
 Zv Fn Zmi hm hb fun cdv A outer s H E hr=>by
  have hu:=ZU hr
  exact (Zi (Zx (Zes (Zkv T.n_isinstance T.n_int (Za 0)) (Zer (Zt2 (ZjN T.n_isinstance T.n_bool (Za 0)))))))
theorem ZaK:ZB ["_law_works_here","_law_looks_here","_law_crowd_here","_law_plan","_law_some","_law_most","_law_k","_law_step","_law_many","_law_other"] ["_law_works_here","_law_looks_here","_law_crowd_here","_law_plan"] (Zg ZbX):=⟨rfl,rfl,rfl,by decide +kernel,rfl,by decide +kernel,by decide +kernel⟩
theorem ZjK (T:Txt K mg) {R:List PyData->Option PyData} (Zae:Callee P w K mg base k "_law_split" Zah) (Zbf:Callee P w K mg base k "_law_led" ZaS) (ZeE:Callee P w K mg base k "_law_deep" R) (ZdH:Callee P w K mg base k "_law_whole" Zb4) (ZbH:Callee P w K mg base k "_law_there" Zaz) {f:Addr} {fd:FuncData} (Fn:Fun K "_law_deep" "_law_deep" ZbX f fd) (hm:mg "_law_deep" = some (.ref f)) (hb:Binds K fd ["_law_works_here","_law_looks_here","_law_crowd_here","_law_plan"] []):Callee P w K mg base (k + 1) "_law_deep" (HM.fnOf 4 10 (Zev R)) :=
 Zv Fn ZaK hm hb fun cdv A outer s H E hr=>by
  have hu:=ZU hr
  exact (Zf (ZO 4 ZaK.nd (Zn Zae hr (Zd (Za 0) (Zd (Za 1) (Zd (Za 2) Zj)))))
  (Zf (Zan (ZiI (Zhh (Zcl (Zba (Zdv T.n_isinstance T.n_tuple (Za 3)))) (ZhI (Zar (cNe hr) (Zd1 (Zas rfl rfl (N:=["_law_row","_law_works_here","_law_looks_here","_law_crowd_here","_law_plan","_law_some","_law_most","_law_k","_law_step","_law_many","_law_other"]) (ZF (sc:=Zg ZbX) (XN:=["_law_works_here","_law_looks_here","_law_crowd_here","_law_plan","_law_some","_law_most","_law_k","_law_step","_law_many","_law_other"])) (ZR (Za 3)) (fun _ _ _ _ _=>ZaI) (fun _ _ _ _ _=>(ZJ (Zq 0) Zh)))) (Zd1 (Zas rfl rfl (N:=["_law_row","_law_works_here","_law_looks_here","_law_crowd_here","_law_plan","_law_some","_law_most","_law_k","_law_step","_law_many","_law_other"]) (ZF (sc:=Zg ZbX) (XN:=["_law_works_here","_law_looks_here","_law_crowd_here","_law_plan","_law_some","_law_most","_law_k","_law_step","_law_many","_law_other"])) (ZR (Za 4)) (fun _ _ _ _ _=>ZaI) (fun _ _ _ _ _=>(ZJ (Zq 0) Zh)))))))) (Zi (Zx ZiH)) ZX)
  (Zf (ZO 5 ZaK.nd Zh)
  (Zf (ZaY 6 ZaK.nd rfl rfl (ZbC T.n_range (Zbt T.n_len (Zq 4))) (Zf (ZO 7 ZaK.nd (ZJ (ZaF (ZJ (Zq 3) (Za 6))) Zh))
  (Zf (ZO 8 ZaK.nd Zh)
  (Zf (Zan (Zar (Zvd hr) (Za 7) (Zc7 (Zd Zku Zj))) (Zf (Zan (ZiI (Zhh (Zcl (Zba (Zdv T.n_isinstance T.n_tuple (Za 7)))) (Zhh (Zar (cNe hr) (Zbt T.n_len (Zq 7)) Zh) (Zhh (Zar (cNe hr) (ZJ (Zq 7) Zh) Zku) (ZhI (Zcl (Zba (Zn ZdH hr (Zd (ZJ (Zq 7) Zh) Zj))))))))) (Zi (Zx ZiH)) ZX)
  (Zf (ZO 9 ZaK.nd Zb0)
  (Zf (Zan (ZrI cLe cLt Zh (ZJ (Zq 7) Zh) (Zbt T.n_len (ZaF (ZJ (Zq 0) Zh)))) (Zi (ZO 9 ZaK.nd (Zn Zbf hr (Zd (Za 0) (Zd (ZJ (ZaF (ZJ (Zq 4) (Za 6))) Zh) (Zd (ZJ (Zq 7) Zh) Zj)))))) ZX)
  (Zf (Zan (Zar ZpC (Za 9) Zb0) (Zi (Zx ZiH)) ZX)
  (Zi (ZO 8 ZaK.nd (ZL ZbO Zh (Zn ZeE hr (Zd (Za 0) (Zd (Za 1) (Zd (Za 9) (Zd (ZJ (Zq 7) Zh) Zj)))))))))))) ZX)
  (Zf (Zan (ZiI (Zqa (Zar (cEq hr) (Za 8) Zh) (ZoS (ZiI (Zhh (Zar (Zvd hr) (Za 7) (Zc7 (Zd Zku Zj))) (ZhI (Zcl (Zba (Zn ZbH hr (Zd (Za 0) (Zd (ZJ (ZaF (ZJ (Zq 4) (Za 6))) Zh) Zj))))))))))) (Zi (Zx ZiH)) ZX)
  (Zi (ZO 5 ZaK.nd (Zqb T.n_max rfl (Za 5) (Za 8)))))))))
  (Zi (Zx (Za 5)))))))
theorem ZmV (T:Txt K mg) (Zae:Callee P w K mg base k "_law_split" Zah) (Zbf:Callee P w K mg base k "_law_led" ZaS) (ZdH:Callee P w K mg base k "_law_whole" Zb4) (ZbH:Callee P w K mg base k "_law_there" Zaz) {f0:Addr} {fd0:FuncData} (Fn0:Fun K "_law_deep" "_law_deep" ZbX f0 fd0) (hm0:mg "_law_deep" = some (.ref f0)) (hb0:Binds K fd0 ["_law_works_here","_law_looks_here","_law_crowd_here","_law_plan"] []) (n:Nat):Callee P w K mg base (k + 1 * n + 1) "_law_deep" (ZaP n):=by
  induction n with
  | zero=>exact Zv (g:=HM.Zi0) Fn0 ZaK hm0 hb0 fun _ _ _ _ _ _ _=>fun _ _ h=>nomatch h
  | succ n ih =>
    have e:=ZjK (k:=k + 1 * n + 1) (R:=ZaP n) T (Zae.mono (by omega)) (Zbf.mono (by omega)) (ih.mono (by omega)) (ZdH.mono (by omega)) (ZbH.mono (by omega)) Fn0 hm0 hb0
    exact e.mono (by omega)
theorem ZhK:ZB ["_law_script","_law_works_here","_law_looks_here","_law_due","_law_found"] ["_law_script"] (Zg ZgO):=⟨rfl,rfl,rfl,by decide +kernel,rfl,by decide +kernel,by decide +kernel⟩
theorem Ztb (T:Txt K mg) (ZgV:Callee P w K mg base k "_law_works" Za0) (ZgW:Callee P w K mg base k "_law_looks" ZcF) (Zgp:Callee P w K mg base k "_law_fewest" Zch) (ZiW:Callee P w K mg base k "a_plan" Ze3) (Za3:Callee P w K mg base k "_law_cell" Zal) (ZeE:Callee P w K mg base k "_law_deep" (ZaP 40)) {f:Addr} {fd:FuncData} (Fn:Fun K "law" "law" ZgO f fd):Zen P w K mg base CX0 (k + 1) f fd ["_law_script"] (spD K 1 ZgN) :=
 Zpb Fn ZhK fun cdv A outer s H E hr=>by
  have hu:=ZU hr
  exact (Zf (ZO 1 ZhK.nd (Zn ZgV hr (Zd (Za 0) (Zd Zh Zj))))
  (Zf (ZO 2 ZhK.nd (Zn ZgW hr (Zd (Za 1) (Zd (Zn Za3 hr (Zd (Za 0) (Zd Zh Zj))) Zj))))
  (Zf (ZO 3 ZhK.nd (Zn Zgp hr (Zd (Za 1) (Zd (Za 2) Zj))))
  (Zf (ZO 4 ZhK.nd (Zn ZiW hr (Zd (Za 1) (Zd (Za 2) Zj))))
  (Zf (Zan (Zar ZpC (Za 3) Zb0) (Zi (Zx (ZgK ZpC (Za 4) Zb0))) ZX)
  (Zi (Zx (Zes (Zdv T.n_isinstance T.n_tuple (Za 4)) (Zer (ZgK (cEq hr) (Zn ZeE hr (Zd (Za 1) (Zd (Za 2) (Zd (ZJ (Zq 1) Zh) (Zd (Za 4) Zj))))) (Za 3)))))))))))
structure Def (K:PySem.W.Frag) (mg:Str->Option Value) (x:Str) (st:Stmt) (ps:List Str):Prop where
 ex:∃ f fd,Fun K x x st f fd/\mg x = some (.ref f)/\Binds K fd ps []
theorem ZI {h:Heap} {x:Str} {st:Stmt} {ps:List Str} {f:Addr} {oc:Value} {od an:Option Addr} {osl:Array (Option Value)} {kV doc pm cdv ct:Value} (X:K.In h) (G:h.Ns mainGlobals mg) (a:PySem.W.nsIn K mainGlobals x = some (some (.ref f)))
  (l:K.lookup f = some ⟨oc,od,.func (PySem.W.fnOf x x (ZfK st) (Zc1 st) (Zg st) .none kV doc pm an cdv ct),osl⟩) (c:PySem.W.codeIn K cdv x = true) (kp:PySem.W.keepIn K (.ref f) = true)
  (b:∀ (kV doc pm:Value) (an:Option Addr) (cdv ct:Value) (us:List Value),us.length = ps.length->bindArgs (PySem.W.fnOf x x (ZfK st) (Zc1 st) (Zg st) .none kV doc pm an cdv ct) ⟨us,[]⟩ = pure (ps.zip us)):Def K mg x st ps :=
 ⟨f,_,Zna l c kp,PySem.W.mg_of X G a,(Zna l c kp).binds b⟩
theorem Zuw (T:Txt K mg) (ZeF:Def K mg "_law_cell" ZeB ["_law_script","_law_k"]) (Zfp:Def K mg "_law_mix" Zfj ["_law_cell_here","_law_prime","_law_many"]) (ZdI:Def K mg "_law_crowd" ZcN ["_law_cell_here","_law_many","_law_least"]) (ZeG:Def K mg "_law_deed" ZeC ["_law_cell_here","_law_many"]) (ZeH:Def K mg "_law_walk" ZeD ["_law_cell_here","_law_many"]) (ZdJ:Def K mg "_law_works" ZcO ["_law_script","_law_at"]) (ZdK:Def K mg "_law_looks" ZcP ["_law_works_here","_law_cell_here"]) (ZdL:Def K mg "_law_split" Zb7 ["_law_works_here","_law_looks_here","_law_crowd_here"]) (Zfq:Def K mg "_law_led" Zfk ["_law_works_here","_law_crowd_here","_law_deed_here"]) (Zfr:Def K mg "_law_all" Zcq ["_law_works_here","_law_looks_here"]) (ZdM:Def K mg "_law_there" ZcQ ["_law_works_here","_law_crowd_here"]) (ZbQ:Def K mg "_law_can_within" Zbn ["_law_works_here","_law_looks_here","_law_crowd_here","_law_costs_here"]) (ZdN:Def K mg "_law_costs" ZdF ["_law_works_here","_law_looks_here"]) (Zdd:Def K mg "_law_fewest" Zcj ["_law_works_here","_law_looks_here"]) (ZdO:Def K mg "is_number" ZdB ["thing","least","most"]) (ZdP:Def K mg "is_rising" ZdC ["thing","many"]) (ZeI:Def K mg "is_crowd" Zew ["thing","many"]) (Zf6:Def K mg "is_row" Zf2 ["thing","least","most"]) (Zfs:Def K mg "is_deed" Zd7 ["thing","many"]) (ZdQ:Def K mg "are_deeds" ZcJ ["thing","many"]) (Zft:Def K mg "is_look" Zd8 ["thing","many"]) (ZdR:Def K mg "are_looks" ZcK ["thing","many"]) (ZdS:Def K mg "are_works" ZdD ["thing"]) (Zfu:Def K mg "checked" Zfi ["works"]) (ZeJ:Def K mg "looks_of" Zey ["works"]) (Zb9:Def K mg "checked_looks" Zb6 ["works","looks"]) (Zfv:Def K mg "seen_in" Zd9 ["works","looks","state"]) (Zf7:Def K mg "parted" Ze4 ["works","looks","crowd"]) (ZcS:Def K mg "crowds_in" ZbF ["rows"]) (ZeK:Def K mg "deeds_of" Zex ["works"]) (ZcT:Def K mg "can_be_done" Zb2 ["works","crowd","deed"]) (Zde:Def K mg "deeds_with" Zci ["works","crowd"]) (Zf8:Def K mg "led_to" Zf3 ["works","crowd","deed"]) (ZdT:Def K mg "ways_with" ZcL ["works","looks","crowd"]) (ZcU:Def K mg "coming_from" ZcM ["works","looks","crowd"]) (Zfw:Def K mg "goal_of" Zfh ["works"]) (ZeL:Def K mg "is_there" Zdn ["works","crowd"]) (ZbR:Def K mg "way_with_fewer" Zbm ["ways","depths","deeds"]) (ZdU:Def K mg "depths_of" ZbG ["works","coming"]) (Zfx:Def K mg "plan_of" Zea ["rows","steps"]) (ZeM:Def K mg "begin_of" Zez ["works"]) (Zdf:Def K mg "most_deeds" ZbM ["rows","depths"]) (ZeN:Def K mg "steps_of" ZeA ["coming","depths"]) (Zf9:Def K mg "a_plan" Zf4 ["works","looks"]) (ZdV:Def K mg "_law_whole" ZdE ["_law_found"]) (ZeO:Def K mg "_law_deep" ZbX ["_law_works_here","_law_looks_here","_law_crowd_here","_law_plan"]) {f:Addr} {fd:FuncData} (Fn:Fun K "law" "law" ZgO f fd):Zen P w K mg base CX0 43 f fd ["_law_script"] (spD K 1 ZgN):=by
 have Za3:Callee P w K mg base 1 "_law_cell" Zal:=by
  obtain ⟨f,fd,F,m,b⟩:=ZeF.ex
  exact ZmH T  F m b
 have ZN:Callee P w K mg base 1 "_law_mix" ZM:=by
  obtain ⟨f,fd,F,m,b⟩:=Zfp.ex
  exact Zol T  F m b
 have Zfl:Callee P w K mg base 2 "_law_crowd" ZbE:=by
  obtain ⟨f,fd,F,m,b⟩:=ZdI.ex
  exact ZlY T (ZN.mono (by decide)) F m b
 have Zht:Callee P w K mg base 2 "_law_deed" Zdj:=by
  obtain ⟨f,fd,F,m,b⟩:=ZeG.ex
  exact ZmI T (ZN.mono (by decide)) F m b
 have Zhu:Callee P w K mg base 2 "_law_walk" Zdk:=by
  obtain ⟨f,fd,F,m,b⟩:=ZeH.ex
  exact ZmJ T (ZN.mono (by decide)) F m b
 have ZgV:Callee P w K mg base 3 "_law_works" Za0:=by
  obtain ⟨f,fd,F,m,b⟩:=ZdJ.ex
  exact ZlZ T (Za3.mono (by decide)) (Zfl.mono (by decide)) (ZN.mono (by decide)) (Zht.mono (by decide)) (Zhu.mono (by decide)) F m b
 have ZgW:Callee P w K mg base 2 "_law_looks" ZcF:=by
  obtain ⟨f,fd,F,m,b⟩:=ZdK.ex
  exact Zl1 T (ZN.mono (by decide)) F m b
 have Zae:Callee P w K mg base 1 "_law_split" Zah:=by
  obtain ⟨f,fd,F,m,b⟩:=ZdL.ex
  exact Zl2 T  F m b
 have Zbf:Callee P w K mg base 1 "_law_led" ZaS:=by
  obtain ⟨f,fd,F,m,b⟩:=Zfq.ex
  exact Zom T  F m b
 have ZhZ:Callee P w K mg base 2 "_law_all" Zff:=by
  obtain ⟨f,fd,F,m,b⟩:=Zfr.ex
  exact Zon T (Zae.mono (by decide)) (Zbf.mono (by decide)) F m b
 have ZbH:Callee P w K mg base 1 "_law_there" Zaz:=by
  obtain ⟨f,fd,F,m,b⟩:=ZdM.ex
  exact Zl4 T  F m b
 have Zek:Callee P w K mg base 2 "_law_can_within" ZbP:=by
  obtain ⟨f,fd,F,m,b⟩:=ZbQ.ex
  exact ZiT T (Zbf.mono (by decide)) (Zae.mono (by decide)) F m b
 have ZgP:Callee P w K mg base 3 "_law_costs" Zdz:=by
  obtain ⟨f,fd,F,m,b⟩:=ZdN.ex
  exact Zl5 T (ZhZ.mono (by decide)) (ZbH.mono (by decide)) (Zek.mono (by decide)) F m b
 have Zgp:Callee P w K mg base 4 "_law_fewest" Zch:=by
  obtain ⟨f,fd,F,m,b⟩:=Zdd.ex
  exact Zk1 T (ZgP.mono (by decide)) (Zae.mono (by decide)) F m b
 have Zbg:Callee P w K mg base 1 "is_number" ZaZ:=by
  obtain ⟨f,fd,F,m,b⟩:=ZdO.ex
  exact Zl7 T  F m b
 have ZaA:Callee P w K mg base 2 "is_rising" Zad:=by
  obtain ⟨f,fd,F,m,b⟩:=ZdP.ex
  exact Zl8 T (Zbg.mono (by decide)) F m b
 have Zhv:Callee P w K mg base 3 "is_crowd" Zdi:=by
  obtain ⟨f,fd,F,m,b⟩:=ZeI.ex
  exact ZmL T (ZaA.mono (by decide)) F m b
 have ZaJ:Callee P w K mg base 1 "is_row" ZaX:=by
  obtain ⟨f,fd,F,m,b⟩:=Zf6.ex
  exact Zpp T  F m b
 have Zh0:Callee P w K mg base 3 "is_deed" Zcn:=by
  obtain ⟨f,fd,F,m,b⟩:=Zfs.ex
  exact Zop T (ZaJ.mono (by decide)) (ZaA.mono (by decide)) F m b
 have ZgQ:Callee P w K mg base 4 "are_deeds" ZcC:=by
  obtain ⟨f,fd,F,m,b⟩:=ZdQ.ex
  exact Zma T (ZaJ.mono (by decide)) (Zh0.mono (by decide)) F m b
 have Zh1:Callee P w K mg base 2 "is_look" Zco:=by
  obtain ⟨f,fd,F,m,b⟩:=Zft.ex
  exact Zor T (ZaJ.mono (by decide)) (Zbg.mono (by decide)) F m b
 have ZgR:Callee P w K mg base 3 "are_looks" ZcD:=by
  obtain ⟨f,fd,F,m,b⟩:=ZdR.ex
  exact Zmc T (ZaJ.mono (by decide)) (Zh1.mono (by decide)) F m b
 have ZgS:Callee P w K mg base 5 "are_works" ZcE:=by
  obtain ⟨f,fd,F,m,b⟩:=ZdS.ex
  exact Zmd T (Zhv.mono (by decide)) (ZaA.mono (by decide)) (ZaJ.mono (by decide)) (Zbg.mono (by decide)) (ZgQ.mono (by decide)) (ZgR.mono (by decide)) F m b
 have Zh5:Callee P w K mg base 6 "checked" Zd3:=by
  obtain ⟨f,fd,F,m,b⟩:=Zfu.ex
  exact Zot T (ZgS.mono (by decide)) F m b
 have Zdo:Callee P w K mg base 1 "looks_of" ZbW:=by
  obtain ⟨f,fd,F,m,b⟩:=ZeJ.ex
  exact ZmN T  F m b
 have ZeU:Callee P w K mg base 3 "checked_looks" Zbv:=by
  obtain ⟨f,fd,F,m,b⟩:=Zb9.ex
  exact ZjJ T (ZaA.mono (by decide)) (Zdo.mono (by decide)) F m b
 have Zh3:Callee P w K mg base 2 "seen_in" Zd4:=by
  obtain ⟨f,fd,F,m,b⟩:=Zfv.ex
  exact Zov T (Zdo.mono (by decide)) F m b
 have Zcr:Callee P w K mg base 3 "parted" ZbD:=by
  obtain ⟨f,fd,F,m,b⟩:=Zf7.ex
  exact Zpq T (Zh3.mono (by decide)) F m b
 have Zbh:Callee P w K mg base 1 "crowds_in" ZE:=by
  obtain ⟨f,fd,F,m,b⟩:=ZcS.ex
  exact Zme T  F m b
 have Zfn:Ze6 P w K mg base 1 "crowds_in" ZE:=by
  obtain ⟨f,fd,F,m,b⟩:=ZcS.ex
  exact Zk2 T  F m b
 have ZbA:Callee P w K mg base 1 "deeds_of" Zbd:=by
  obtain ⟨f,fd,F,m,b⟩:=ZeK.ex
  exact ZmP T  F m b
 have ZfI:Callee P w K mg base 2 "can_be_done" Zb1:=by
  obtain ⟨f,fd,F,m,b⟩:=ZcT.ex
  exact ZkA T (ZbA.mono (by decide)) F m b
 have Zgn:Callee P w K mg base 3 "deeds_with" Zce:=by
  obtain ⟨f,fd,F,m,b⟩:=Zde.ex
  exact Zk4 T (ZfI.mono (by decide)) (ZbA.mono (by decide)) F m b
 have ZiU:Callee P w K mg base 2 "led_to" Zdw:=by
  obtain ⟨f,fd,F,m,b⟩:=Zf8.ex
  exact Zpr T (ZbA.mono (by decide)) F m b
 have ZgT:Callee P w K mg base 4 "ways_with" ZcG:=by
  obtain ⟨f,fd,F,m,b⟩:=ZdT.ex
  exact Zmg T (Zcr.mono (by decide)) (Zgn.mono (by decide)) (ZiU.mono (by decide)) F m b
 have ZfJ:Callee P w K mg base 5 "coming_from" ZcH:=by
  obtain ⟨f,fd,F,m,b⟩:=ZcU.ex
  exact ZkB T (Zbh.mono (by decide)) (Zcr.mono (by decide)) (ZgT.mono (by decide)) (Zfn.mono (by decide)) F m b
 have Zh4:Callee P w K mg base 1 "goal_of" Zd5:=by
  obtain ⟨f,fd,F,m,b⟩:=Zfw.ex
  exact Zox T  F m b
 have Zhw:Callee P w K mg base 2 "is_there" Zbz:=by
  obtain ⟨f,fd,F,m,b⟩:=ZeL.ex
  exact ZmR T (Zh4.mono (by decide)) F m b
 have Zbo:Callee P w K mg base 2 "way_with_fewer" Zaq:=by
  obtain ⟨f,fd,F,m,b⟩:=ZbR.ex
  exact ZiV T (Zbh.mono (by decide)) F m b
 have ZgU:Callee P w K mg base 3 "depths_of" ZcI:=by
  obtain ⟨f,fd,F,m,b⟩:=ZdU.ex
  exact Zmh T (Zhw.mono (by decide)) (Zbo.mono (by decide)) F m b
 have Zeb:Callee P w K mg base 1 "plan_of" Za5:=by
  obtain ⟨f,fd,F,m,b⟩:=Zfx.ex
  exact Zoz T  F m b
 have ZfX:Callee P w K mg base 1 "begin_of" Zdm:=by
  obtain ⟨f,fd,F,m,b⟩:=ZeM.ex
  exact ZmT T  F m b
 have Zgo:Callee P w K mg base 2 "most_deeds" Zdc:=by
  obtain ⟨f,fd,F,m,b⟩:=Zdf.ex
  exact Zk6 T (Zbh.mono (by decide)) F m b
 have Zhx:Callee P w K mg base 3 "steps_of" Zeu:=by
  obtain ⟨f,fd,F,m,b⟩:=ZeN.ex
  exact ZmU T (Zbo.mono (by decide)) (Zeb.mono (by decide)) F m b
 have ZiW:Callee P w K mg base 7 "a_plan" Ze3:=by
  obtain ⟨f,fd,F,m,b⟩:=Zf9.ex
  exact Zps T (Zh5.mono (by decide)) (ZeU.mono (by decide)) (Zcr.mono (by decide)) (ZfJ.mono (by decide)) (ZgU.mono (by decide)) (Zeb.mono (by decide)) (ZfX.mono (by decide)) (Zgo.mono (by decide)) (Zhx.mono (by decide)) F m b
 have ZdH:Callee P w K mg base 1 "_law_whole" Zb4:=by
  obtain ⟨f,fd,F,m,b⟩:=ZdV.ex
  exact Zmj T  F m b
 obtain ⟨f0,fd0,F0,m0,b0⟩:=ZeO.ex
 have ZeE:Callee P w K mg base 42 "_law_deep" (ZaP 40):=ZmV (k:=1) T (Zae.mono (by decide)) (Zbf.mono (by decide)) (ZdH.mono (by decide)) (ZbH.mono (by decide)) F0 m0 b0 40
 exact Ztb (k:=42) T (ZgV.mono (by decide)) (ZgW.mono (by decide)) (Zgp.mono (by decide)) (ZiW.mono (by decide)) (Za3.mono (by decide)) (ZeE.mono (by decide)) Fn
theorem all_mk {l:PySem.W.OpenLaw} {w:World} {K:PySem.W.Frag} {h:Heap} {mg:Str->Option Value} {fa f4:Addr} {od4 an4:Option Addr} {sl4:Array (Option Value)} {oc4 kV4 dc4 pm4 cd4 ct4:Value} (X:K.In h) (G:h.Ns mainGlobals mg) (hfa:mg "law" = some (.ref fa))
  (T:Txt K mg) (ZeF:Def K mg "_law_cell" ZeB ["_law_script","_law_k"]) (Zfp:Def K mg "_law_mix" Zfj ["_law_cell_here","_law_prime","_law_many"]) (ZdI:Def K mg "_law_crowd" ZcN ["_law_cell_here","_law_many","_law_least"]) (ZeG:Def K mg "_law_deed" ZeC ["_law_cell_here","_law_many"]) (ZeH:Def K mg "_law_walk" ZeD ["_law_cell_here","_law_many"]) (ZdJ:Def K mg "_law_works" ZcO ["_law_script","_law_at"]) (ZdK:Def K mg "_law_looks" ZcP ["_law_works_here","_law_cell_here"]) (ZdL:Def K mg "_law_split" Zb7 ["_law_works_here","_law_looks_here","_law_crowd_here"]) (Zfq:Def K mg "_law_led" Zfk ["_law_works_here","_law_crowd_here","_law_deed_here"]) (Zfr:Def K mg "_law_all" Zcq ["_law_works_here","_law_looks_here"]) (ZdM:Def K mg "_law_there" ZcQ ["_law_works_here","_law_crowd_here"]) (ZbQ:Def K mg "_law_can_within" Zbn ["_law_works_here","_law_looks_here","_law_crowd_here","_law_costs_here"]) (ZdN:Def K mg "_law_costs" ZdF ["_law_works_here","_law_looks_here"]) (Zdd:Def K mg "_law_fewest" Zcj ["_law_works_here","_law_looks_here"]) (ZdO:Def K mg "is_number" ZdB ["thing","least","most"]) (ZdP:Def K mg "is_rising" ZdC ["thing","many"]) (ZeI:Def K mg "is_crowd" Zew ["thing","many"]) (Zf6:Def K mg "is_row" Zf2 ["thing","least","most"]) (Zfs:Def K mg "is_deed" Zd7 ["thing","many"]) (ZdQ:Def K mg "are_deeds" ZcJ ["thing","many"]) (Zft:Def K mg "is_look" Zd8 ["thing","many"]) (ZdR:Def K mg "are_looks" ZcK ["thing","many"]) (ZdS:Def K mg "are_works" ZdD ["thing"]) (Zfu:Def K mg "checked" Zfi ["works"]) (ZeJ:Def K mg "looks_of" Zey ["works"]) (Zb9:Def K mg "checked_looks" Zb6 ["works","looks"]) (Zfv:Def K mg "seen_in" Zd9 ["works","looks","state"]) (Zf7:Def K mg "parted" Ze4 ["works","looks","crowd"]) (ZcS:Def K mg "crowds_in" ZbF ["rows"]) (ZeK:Def K mg "deeds_of" Zex ["works"]) (ZcT:Def K mg "can_be_done" Zb2 ["works","crowd","deed"]) (Zde:Def K mg "deeds_with" Zci ["works","crowd"]) (Zf8:Def K mg "led_to" Zf3 ["works","crowd","deed"]) (ZdT:Def K mg "ways_with" ZcL ["works","looks","crowd"]) (ZcU:Def K mg "coming_from" ZcM ["works","looks","crowd"]) (Zfw:Def K mg "goal_of" Zfh ["works"]) (ZeL:Def K mg "is_there" Zdn ["works","crowd"]) (ZbR:Def K mg "way_with_fewer" Zbm ["ways","depths","deeds"]) (ZdU:Def K mg "depths_of" ZbG ["works","coming"]) (Zfx:Def K mg "plan_of" Zea ["rows","steps"]) (ZeM:Def K mg "begin_of" Zez ["works"]) (Zdf:Def K mg "most_deeds" ZbM ["rows","depths"]) (ZeN:Def K mg "steps_of" ZeA ["coming","depths"]) (Zf9:Def K mg "a_plan" Zf4 ["works","looks"]) (ZdV:Def K mg "_law_whole" ZdE ["_law_found"]) (ZeO:Def K mg "_law_deep" ZbX ["_law_works_here","_law_looks_here","_law_crowd_here","_law_plan"]) (a4:PySem.W.nsIn K mainGlobals "law" = some (some (.ref f4)))
  (l4:K.lookup f4 = some ⟨oc4,od4,.func (PySem.W.fnOf "law" "law" (ZfK ZgO) (Zc1 ZgO) (Zg ZgO) .none kV4 dc4 pm4 an4 cd4 ct4),sl4⟩) (c4:PySem.W.codeIn K cd4 "law" = true) (k4:PySem.W.keepIn K (.ref f4) = true) :
  ∃ fd:FuncData,(∀ (s:Shared) (v:Value),BindsTo s fd ⟨[v],[]⟩ [("_law_script",v)])/\∀ base:Heap,K.In base->base.Ns mainGlobals mg->Zen l.prog w K mg base CX0 43 fa fd ["_law_script"] (spD K 1 ZgN):=by
 have e:=hfa.symm.trans (PySem.W.mg_of X G a4)
 cases e
 exact ⟨_,fun s v=>.of_eq rfl,fun base _ _=>Zuw T ZeF Zfp ZdI ZeG ZeH ZdJ ZdK ZdL Zfq Zfr ZdM ZbQ ZdN Zdd ZdO ZdP ZeI Zf6 Zfs ZdQ Zft ZdR ZdS Zfu ZeJ Zb9 Zfv Zf7 ZcS ZeK ZcT Zde Zf8 ZdT ZcU Zfw ZeL ZbR ZdU Zfx ZeM Zdf ZeN Zf9 ZdV ZeO (Zna (st:=ZgO) l4 c4 k4)⟩
theorem walk {l:PySem.W.OpenLaw} {q:Program} {loose:List Str} {XP:(Str->Option Value)->Heap->Prop} {YP:World->Heap->Prop} {d:DefRec} {K:Params->PySem.W.Frag} (hn:l.most = some 63) (hdf:d.params.defaults = [])
  (Zkr:∀ ns:List Int,ns.length <= 63->ZgN [.list (HM.ofInts ns)] = some (.bool true)) (hY:∀ (w:World) (h:Heap),YP w h->(K w.params).In h)
  (F:∀ (w:World) (mg:Str->Option Value) (fa:Addr) (h:Heap),(K w.params).In h->h.Ns mainGlobals mg->mg d.name = some (.ref fa) ->
   ∃ fd:FuncData,(∀ (s:Shared) (u:Value),BindsTo s fd ⟨[u],[]⟩ [("_law_script",u)])/\∀ base:Heap,(K w.params).In base->base.Ns mainGlobals mg->Zen l.prog w (K w.params) mg base CX0 43 fa fd ["_law_script"] (spD (K w.params) 1 ZgN)) :
  PySem.W.WalkO q loose XP YP l.row.toRowW d [] (fun f vs=>PySem.call f vs):=by
 refine L2.Ztu (n:=63) (k:=43) (x:="_law_script") (CX:=fun _=>CX0) (sp:=fun w=>spD (K w.params) 1 ZgN) hn (by decide) hdf ⟨rfl,by decide,by decide⟩ hY F (fun w H a ns hl _ hS=>?_) fun _ _ _ _ _ z=>z
 refine ⟨H,[.list (HM.ofInts ns)],.bool true,rfl,Zw.refl H,.one (.lst hS (Zgf (K:=K w.params) (F:=H) ns).1 (Zgf ns).2),Zkr ns hl,fun v F1 H1 _ r=>r.bool_inv⟩
abbrev ZvJ {K:PySem.W.Frag} {h:Heap} (_:K.In h) (mg:Str->Option Value):Prop:=Txt K mg
abbrev ZY {K:PySem.W.Frag} {h:Heap} (_:K.In h) (mg:Str->Option Value) (x:Str) (st:Stmt) (ps:List Str):Prop:=Def K mg x st ps
theorem int_mk {mg:Str->Option Value} {n:Str} {v:Value} {k:Int} (h:mg n = some v) (e:∃ t,v = .int k t):∃ t,mg n = some (.int k t):=by
 obtain ⟨t,rfl⟩:=e
 exact ⟨t,h⟩
abbrev Zt9 {K:PySem.W.Frag} {h:Heap} (_:K.In h) (a:Addr) (ds:List L2.V):Prop:=HP.Zog K a ds
theorem ZuF {K:PySem.W.Frag} {mg:Str->Option Value} {n y:Str} {a:Addr} {o:Obj} (h:mg n = some (.ref a)) (l:K.lookup a = some o) (e:∃ t m d,o = { cls:=.type "tuple",data:=.seq #[.str y t] m,dict:=d }):∃ a,mg n = some (.ref a)/\HP.Zog K a [.str y]:=by
 obtain ⟨t,m,d,rfl⟩:=e
 exact ⟨a,h,_,_,_,l,rfl,rfl,(show 1 <= sizeLine by decide),.cons ⟨t,rfl⟩ .nil⟩
end
end HT
theorem PySem.W.Fast.tw8035405949984985530:True:=trivial
theorem PySem.W.Fast.tw5020732435031966205:True:=trivial
theorem PySem.W.Fast.tw11706758770770944916:True:=trivial
theorem PySem.W.Fast.tw7019402558678556957:True:=trivial
theorem PySem.W.Fast.tw3347674287118476092:True:=trivial
theorem PySem.W.Fast.tw5624022398030230531:True:=trivial
theorem PySem.W.Fast.tw17209771520066108570:True:=trivial
theorem PySem.W.Fast.tw16548375671726178100:True:=trivial
theorem PySem.W.Fast.tw10595546894438362929:True:=trivial
theorem PySem.W.Fast.tw11939032325623686593:True:=trivial
open PySem PySem.W PyProof.Rows
set_option maxRecDepth 100000 in
set_option maxHeartbeats 0 in
theorem PySem.Challenge.cw_halfseen_k06_plans_found_holds : PySem.Challenge.rw_halfseen_k06_plans_found.Holds := by
 w_on; o_law; k_head; (case hw=>w_witness2)
 k_fill
 refine HT.walk (l:=PySem.Challenge.rw_halfseen_k06_plans_found) rfl rfl HG6.Zkr (fun w h Y=>PySem.W.kIn_of Y) ?F
 case F =>
  intro w mg fa h KX G hmg
  have n_len:mg "len" = none:=by
   refine PySem.W.mg_none_of KX G ?z
   (case z=>k_is)
  have n_tuple:mg "tuple" = none:=by
   refine PySem.W.mg_none_of KX G ?z
   (case z=>k_is)
  have n_list:mg "list" = none:=by
   refine PySem.W.mg_none_of KX G ?z
   (case z=>k_is)
  have n_set:mg "set" = none:=by
   refine PySem.W.mg_none_of KX G ?z
   (case z=>k_is)
  have n_sorted:mg "sorted" = none:=by
   refine PySem.W.mg_none_of KX G ?z
   (case z=>k_is)
  have n_range:mg "range" = none:=by
   refine PySem.W.mg_none_of KX G ?z
   (case z=>k_is)
  have n_all:mg "all" = none:=by
   refine PySem.W.mg_none_of KX G ?z
   (case z=>k_is)
  have n_isinstance:mg "isinstance" = none:=by
   refine PySem.W.mg_none_of KX G ?z
   (case z=>k_is)
  have n_int:mg "int" = none:=by
   refine PySem.W.mg_none_of KX G ?z
   (case z=>k_is)
  have n_bool:mg "bool" = none:=by
   refine PySem.W.mg_none_of KX G ?z
   (case z=>k_is)
  have n_max:mg "max" = none:=by
   refine PySem.W.mg_none_of KX G ?z
   (case z=>k_is)
  have n_min:mg "min" = none:=by
   refine PySem.W.mg_none_of KX G ?z
   (case z=>k_is)
  have c_MOST_STATES:∃ t,mg "MOST_STATES" = some (.int 8 t):=by
   refine' HT.int_mk (PySem.W.mg_of KX G ?z) ?e
   (case z=>k_is)
   (case e=>exact ⟨_,rfl⟩)
  have c_MOST_DEEDS:∃ t,mg "MOST_DEEDS" = some (.int 5 t):=by
   refine' HT.int_mk (PySem.W.mg_of KX G ?z) ?e
   (case z=>k_is)
   (case e=>exact ⟨_,rfl⟩)
  have c_MOST_LOOKS:∃ t,mg "MOST_LOOKS" = some (.int 4 t):=by
   refine' HT.int_mk (PySem.W.mg_of KX G ?z) ?e
   (case z=>k_is)
   (case e=>exact ⟨_,rfl⟩)
  have c_MOST_SEEN:∃ t,mg "MOST_SEEN" = some (.int 9 t):=by
   refine' HT.int_mk (PySem.W.mg_of KX G ?z) ?e
   (case z=>k_is)
   (case e=>exact ⟨_,rfl⟩)
  have c_DONE:∃ a,mg "DONE" = some (.ref a)/\HT.Zt9 KX a [.str "done"]:=by
   refine' HT.ZuF (PySem.W.mg_of KX G ?z) ?l ?e
   (case z=>k_is)
   (case l=>k_is)
   (case e=>exact ⟨_,_,_,rfl⟩)
  have T:HT.ZvJ KX mg:=⟨n_len,n_tuple,n_list,n_set,n_sorted,n_range,n_all,n_isinstance,n_int,n_bool,n_max,n_min,c_MOST_STATES,c_MOST_DEEDS,c_MOST_LOOKS,c_MOST_SEEN,c_DONE⟩
  have ZeF:HT.ZY KX mg "_law_cell" HT.ZeB ["_law_script","_law_k"]:=by
   refine' HT.ZI KX G ?a ?l ?c ?k ?b
   (case a=>k_is); (case l=>k_is); (case c=>k_is); (case k=>k_is)
   case b=>exact fun _ _ _ _ _ _ us hl=>match us,hl with | [_,_],_=>rfl
  have Zfp:HT.ZY KX mg "_law_mix" HT.Zfj ["_law_cell_here","_law_prime","_law_many"]:=by
   refine' HT.ZI KX G ?a ?l ?c ?k ?b
   (case a=>k_is); (case l=>k_is); (case c=>k_is); (case k=>k_is)
   case b=>exact fun _ _ _ _ _ _ us hl=>match us,hl with | [_,_,_],_=>rfl
  have ZdI:HT.ZY KX mg "_law_crowd" HT.ZcN ["_law_cell_here","_law_many","_law_least"]:=by
   refine' HT.ZI KX G ?a ?l ?c ?k ?b
   (case a=>k_is); (case l=>k_is); (case c=>k_is); (case k=>k_is)
   case b=>exact fun _ _ _ _ _ _ us hl=>match us,hl with | [_,_,_],_=>rfl
  have ZeG:HT.ZY KX mg "_law_deed" HT.ZeC ["_law_cell_here","_law_many"]:=by
   refine' HT.ZI KX G ?a ?l ?c ?k ?b
   (case a=>k_is); (case l=>k_is); (case c=>k_is); (case k=>k_is)
   case b=>exact fun _ _ _ _ _ _ us hl=>match us,hl with | [_,_],_=>rfl
  have ZeH:HT.ZY KX mg "_law_walk" HT.ZeD ["_law_cell_here","_law_many"]:=by
   refine' HT.ZI KX G ?a ?l ?c ?k ?b
   (case a=>k_is); (case l=>k_is); (case c=>k_is); (case k=>k_is)
   case b=>exact fun _ _ _ _ _ _ us hl=>match us,hl with | [_,_],_=>rfl
  have ZdJ:HT.ZY KX mg "_law_works" HT.ZcO ["_law_script","_law_at"]:=by
   refine' HT.ZI KX G ?a ?l ?c ?k ?b
   (case a=>k_is); (case l=>k_is); (case c=>k_is); (case k=>k_is)
   case b=>exact fun _ _ _ _ _ _ us hl=>match us,hl with | [_,_],_=>rfl
  have ZdK:HT.ZY KX mg "_law_looks" HT.ZcP ["_law_works_here","_law_cell_here"]:=by
   refine' HT.ZI KX G ?a ?l ?c ?k ?b
   (case a=>k_is); (case l=>k_is); (case c=>k_is); (case k=>k_is)
   case b=>exact fun _ _ _ _ _ _ us hl=>match us,hl with | [_,_],_=>rfl
  have ZdL:HT.ZY KX mg "_law_split" HT.Zb7 ["_law_works_here","_law_looks_here","_law_crowd_here"]:=by
   refine' HT.ZI KX G ?a ?l ?c ?k ?b
   (case a=>k_is); (case l=>k_is); (case c=>k_is); (case k=>k_is)
   case b=>exact fun _ _ _ _ _ _ us hl=>match us,hl with | [_,_,_],_=>rfl
  have Zfq:HT.ZY KX mg "_law_led" HT.Zfk ["_law_works_here","_law_crowd_here","_law_deed_here"]:=by
   refine' HT.ZI KX G ?a ?l ?c ?k ?b
   (case a=>k_is); (case l=>k_is); (case c=>k_is); (case k=>k_is)
   case b=>exact fun _ _ _ _ _ _ us hl=>match us,hl with | [_,_,_],_=>rfl
  have Zfr:HT.ZY KX mg "_law_all" HT.Zcq ["_law_works_here","_law_looks_here"]:=by
   refine' HT.ZI KX G ?a ?l ?c ?k ?b
   (case a=>k_is); (case l=>k_is); (case c=>k_is); (case k=>k_is)
   case b=>exact fun _ _ _ _ _ _ us hl=>match us,hl with | [_,_],_=>rfl
  have ZdM:HT.ZY KX mg "_law_there" HT.ZcQ ["_law_works_here","_law_crowd_here"]:=by
   refine' HT.ZI KX G ?a ?l ?c ?k ?b
   (case a=>k_is); (case l=>k_is); (case c=>k_is); (case k=>k_is)
   case b=>exact fun _ _ _ _ _ _ us hl=>match us,hl with | [_,_],_=>rfl
  have ZbQ:HT.ZY KX mg "_law_can_within" HT.Zbn ["_law_works_here","_law_looks_here","_law_crowd_here","_law_costs_here"]:=by
   refine' HT.ZI KX G ?a ?l ?c ?k ?b
   (case a=>k_is); (case l=>k_is); (case c=>k_is); (case k=>k_is)
   case b=>exact fun _ _ _ _ _ _ us hl=>match us,hl with | [_,_,_,_],_=>rfl
  have ZdN:HT.ZY KX mg "_law_costs" HT.ZdF ["_law_works_here","_law_looks_here"]:=by
   refine' HT.ZI KX G ?a ?l ?c ?k ?b
   (case a=>k_is); (case l=>k_is); (case c=>k_is); (case k=>k_is)
   case b=>exact fun _ _ _ _ _ _ us hl=>match us,hl with | [_,_],_=>rfl
  have Zdd:HT.ZY KX mg "_law_fewest" HT.Zcj ["_law_works_here","_law_looks_here"]:=by
   refine' HT.ZI KX G ?a ?l ?c ?k ?b
   (case a=>k_is); (case l=>k_is); (case c=>k_is); (case k=>k_is)
   case b=>exact fun _ _ _ _ _ _ us hl=>match us,hl with | [_,_],_=>rfl
  have ZdO:HT.ZY KX mg "is_number" HT.ZdB ["thing","least","most"]:=by
   refine' HT.ZI KX G ?a ?l ?c ?k ?b
   (case a=>k_is); (case l=>k_is); (case c=>k_is); (case k=>k_is)
   case b=>exact fun _ _ _ _ _ _ us hl=>match us,hl with | [_,_,_],_=>rfl
  have ZdP:HT.ZY KX mg "is_rising" HT.ZdC ["thing","many"]:=by
   refine' HT.ZI KX G ?a ?l ?c ?k ?b
   (case a=>k_is); (case l=>k_is); (case c=>k_is); (case k=>k_is)
   case b=>exact fun _ _ _ _ _ _ us hl=>match us,hl with | [_,_],_=>rfl
  have ZeI:HT.ZY KX mg "is_crowd" HT.Zew ["thing","many"]:=by
   refine' HT.ZI KX G ?a ?l ?c ?k ?b
   (case a=>k_is); (case l=>k_is); (case c=>k_is); (case k=>k_is)
   case b=>exact fun _ _ _ _ _ _ us hl=>match us,hl with | [_,_],_=>rfl
  have Zf6:HT.ZY KX mg "is_row" HT.Zf2 ["thing","least","most"]:=by
   refine' HT.ZI KX G ?a ?l ?c ?k ?b
   (case a=>k_is); (case l=>k_is); (case c=>k_is); (case k=>k_is)
   case b=>exact fun _ _ _ _ _ _ us hl=>match us,hl with | [_,_,_],_=>rfl
  have Zfs:HT.ZY KX mg "is_deed" HT.Zd7 ["thing","many"]:=by
   refine' HT.ZI KX G ?a ?l ?c ?k ?b
   (case a=>k_is); (case l=>k_is); (case c=>k_is); (case k=>k_is)
   case b=>exact fun _ _ _ _ _ _ us hl=>match us,hl with | [_,_],_=>rfl
  have ZdQ:HT.ZY KX mg "are_deeds" HT.ZcJ ["thing","many"]:=by
   refine' HT.ZI KX G ?a ?l ?c ?k ?b
   (case a=>k_is); (case l=>k_is); (case c=>k_is); (case k=>k_is)
   case b=>exact fun _ _ _ _ _ _ us hl=>match us,hl with | [_,_],_=>rfl
  have Zft:HT.ZY KX mg "is_look" HT.Zd8 ["thing","many"]:=by
   refine' HT.ZI KX G ?a ?l ?c ?k ?b
   (case a=>k_is); (case l=>k_is); (case c=>k_is); (case k=>k_is)
   case b=>exact fun _ _ _ _ _ _ us hl=>match us,hl with | [_,_],_=>rfl
  have ZdR:HT.ZY KX mg "are_looks" HT.ZcK ["thing","many"]:=by
   refine' HT.ZI KX G ?a ?l ?c ?k ?b
   (case a=>k_is); (case l=>k_is); (case c=>k_is); (case k=>k_is)
   case b=>exact fun _ _ _ _ _ _ us hl=>match us,hl with | [_,_],_=>rfl
  have ZdS:HT.ZY KX mg "are_works" HT.ZdD ["thing"]:=by
   refine' HT.ZI KX G ?a ?l ?c ?k ?b
   (case a=>k_is); (case l=>k_is); (case c=>k_is); (case k=>k_is)
   case b=>exact fun _ _ _ _ _ _ us hl=>match us,hl with | [_],_=>rfl
  have Zfu:HT.ZY KX mg "checked" HT.Zfi ["works"]:=by
   refine' HT.ZI KX G ?a ?l ?c ?k ?b
   (case a=>k_is); (case l=>k_is); (case c=>k_is); (case k=>k_is)
   case b=>exact fun _ _ _ _ _ _ us hl=>match us,hl with | [_],_=>rfl
  have ZeJ:HT.ZY KX mg "looks_of" HT.Zey ["works"]:=by
   refine' HT.ZI KX G ?a ?l ?c ?k ?b
   (case a=>k_is); (case l=>k_is); (case c=>k_is); (case k=>k_is)
   case b=>exact fun _ _ _ _ _ _ us hl=>match us,hl with | [_],_=>rfl
  have Zb9:HT.ZY KX mg "checked_looks" HT.Zb6 ["works","looks"]:=by
   refine' HT.ZI KX G ?a ?l ?c ?k ?b
   (case a=>k_is); (case l=>k_is); (case c=>k_is); (case k=>k_is)
   case b=>exact fun _ _ _ _ _ _ us hl=>match us,hl with | [_,_],_=>rfl
  have Zfv:HT.ZY KX mg "seen_in" HT.Zd9 ["works","looks","state"]:=by
   refine' HT.ZI KX G ?a ?l ?c ?k ?b
   (case a=>k_is); (case l=>k_is); (case c=>k_is); (case k=>k_is)
   case b=>exact fun _ _ _ _ _ _ us hl=>match us,hl with | [_,_,_],_=>rfl
  have Zf7:HT.ZY KX mg "parted" HT.Ze4 ["works","looks","crowd"]:=by
   refine' HT.ZI KX G ?a ?l ?c ?k ?b
   (case a=>k_is); (case l=>k_is); (case c=>k_is); (case k=>k_is)
   case b=>exact fun _ _ _ _ _ _ us hl=>match us,hl with | [_,_,_],_=>rfl
  have ZcS:HT.ZY KX mg "crowds_in" HT.ZbF ["rows"]:=by
   refine' HT.ZI KX G ?a ?l ?c ?k ?b
   (case a=>k_is); (case l=>k_is); (case c=>k_is); (case k=>k_is)
   case b=>exact fun _ _ _ _ _ _ us hl=>match us,hl with | [_],_=>rfl
  have ZeK:HT.ZY KX mg "deeds_of" HT.Zex ["works"]:=by
   refine' HT.ZI KX G ?a ?l ?c ?k ?b
   (case a=>k_is); (case l=>k_is); (case c=>k_is); (case k=>k_is)
   case b=>exact fun _ _ _ _ _ _ us hl=>match us,hl with | [_],_=>rfl
  have ZcT:HT.ZY KX mg "can_be_done" HT.Zb2 ["works","crowd","deed"]:=by
   refine' HT.ZI KX G ?a ?l ?c ?k ?b
   (case a=>k_is); (case l=>k_is); (case c=>k_is); (case k=>k_is)
   case b=>exact fun _ _ _ _ _ _ us hl=>match us,hl with | [_,_,_],_=>rfl
  have Zde:HT.ZY KX mg "deeds_with" HT.Zci ["works","crowd"]:=by
   refine' HT.ZI KX G ?a ?l ?c ?k ?b
   (case a=>k_is); (case l=>k_is); (case c=>k_is); (case k=>k_is)
   case b=>exact fun _ _ _ _ _ _ us hl=>match us,hl with | [_,_],_=>rfl
  have Zf8:HT.ZY KX mg "led_to" HT.Zf3 ["works","crowd","deed"]:=by
   refine' HT.ZI KX G ?a ?l ?c ?k ?b
   (case a=>k_is); (case l=>k_is); (case c=>k_is); (case k=>k_is)
   case b=>exact fun _ _ _ _ _ _ us hl=>match us,hl with | [_,_,_],_=>rfl
  have ZdT:HT.ZY KX mg "ways_with" HT.ZcL ["works","looks","crowd"]:=by
   refine' HT.ZI KX G ?a ?l ?c ?k ?b
   (case a=>k_is); (case l=>k_is); (case c=>k_is); (case k=>k_is)
   case b=>exact fun _ _ _ _ _ _ us hl=>match us,hl with | [_,_,_],_=>rfl
  have ZcU:HT.ZY KX mg "coming_from" HT.ZcM ["works","looks","crowd"]:=by
   refine' HT.ZI KX G ?a ?l ?c ?k ?b
   (case a=>k_is); (case l=>k_is); (case c=>k_is); (case k=>k_is)
   case b=>exact fun _ _ _ _ _ _ us hl=>match us,hl with | [_,_,_],_=>rfl
  have Zfw:HT.ZY KX mg "goal_of" HT.Zfh ["works"]:=by
   refine' HT.ZI KX G ?a ?l ?c ?k ?b
   (case a=>k_is); (case l=>k_is); (case c=>k_is); (case k=>k_is)
   case b=>exact fun _ _ _ _ _ _ us hl=>match us,hl with | [_],_=>rfl
  have ZeL:HT.ZY KX mg "is_there" HT.Zdn ["works","crowd"]:=by
   refine' HT.ZI KX G ?a ?l ?c ?k ?b
   (case a=>k_is); (case l=>k_is); (case c=>k_is); (case k=>k_is)
   case b=>exact fun _ _ _ _ _ _ us hl=>match us,hl with | [_,_],_=>rfl
  have ZbR:HT.ZY KX mg "way_with_fewer" HT.Zbm ["ways","depths","deeds"]:=by
   refine' HT.ZI KX G ?a ?l ?c ?k ?b
   (case a=>k_is); (case l=>k_is); (case c=>k_is); (case k=>k_is)
   case b=>exact fun _ _ _ _ _ _ us hl=>match us,hl with | [_,_,_],_=>rfl
  have ZdU:HT.ZY KX mg "depths_of" HT.ZbG ["works","coming"]:=by
   refine' HT.ZI KX G ?a ?l ?c ?k ?b
   (case a=>k_is); (case l=>k_is); (case c=>k_is); (case k=>k_is)
   case b=>exact fun _ _ _ _ _ _ us hl=>match us,hl with | [_,_],_=>rfl
  have Zfx:HT.ZY KX mg "plan_of" HT.Zea ["rows","steps"]:=by
   refine' HT.ZI KX G ?a ?l ?c ?k ?b
   (case a=>k_is); (case l=>k_is); (case c=>k_is); (case k=>k_is)
   case b=>exact fun _ _ _ _ _ _ us hl=>match us,hl with | [_,_],_=>rfl
  have ZeM:HT.ZY KX mg "begin_of" HT.Zez ["works"]:=by
   refine' HT.ZI KX G ?a ?l ?c ?k ?b
   (case a=>k_is); (case l=>k_is); (case c=>k_is); (case k=>k_is)
   case b=>exact fun _ _ _ _ _ _ us hl=>match us,hl with | [_],_=>rfl
  have Zdf:HT.ZY KX mg "most_deeds" HT.ZbM ["rows","depths"]:=by
   refine' HT.ZI KX G ?a ?l ?c ?k ?b
   (case a=>k_is); (case l=>k_is); (case c=>k_is); (case k=>k_is)
   case b=>exact fun _ _ _ _ _ _ us hl=>match us,hl with | [_,_],_=>rfl
  have ZeN:HT.ZY KX mg "steps_of" HT.ZeA ["coming","depths"]:=by
   refine' HT.ZI KX G ?a ?l ?c ?k ?b
   (case a=>k_is); (case l=>k_is); (case c=>k_is); (case k=>k_is)
   case b=>exact fun _ _ _ _ _ _ us hl=>match us,hl with | [_,_],_=>rfl
  have Zf9:HT.ZY KX mg "a_plan" HT.Zf4 ["works","looks"]:=by
   refine' HT.ZI KX G ?a ?l ?c ?k ?b
   (case a=>k_is); (case l=>k_is); (case c=>k_is); (case k=>k_is)
   case b=>exact fun _ _ _ _ _ _ us hl=>match us,hl with | [_,_],_=>rfl
  have ZdV:HT.ZY KX mg "_law_whole" HT.ZdE ["_law_found"]:=by
   refine' HT.ZI KX G ?a ?l ?c ?k ?b
   (case a=>k_is); (case l=>k_is); (case c=>k_is); (case k=>k_is)
   case b=>exact fun _ _ _ _ _ _ us hl=>match us,hl with | [_],_=>rfl
  have ZeO:HT.ZY KX mg "_law_deep" HT.ZbX ["_law_works_here","_law_looks_here","_law_crowd_here","_law_plan"]:=by
   refine' HT.ZI KX G ?a ?l ?c ?k ?b
   (case a=>k_is); (case l=>k_is); (case c=>k_is); (case k=>k_is)
   case b=>exact fun _ _ _ _ _ _ us hl=>match us,hl with | [_,_,_,_],_=>rfl
  refine' HT.all_mk KX G hmg T ZeF Zfp ZdI ZeG ZeH ZdJ ZdK ZdL Zfq Zfr ZdM ZbQ ZdN Zdd ZdO ZdP ZeI Zf6 Zfs ZdQ Zft ZdR ZdS Zfu ZeJ Zb9 Zfv Zf7 ZcS ZeK ZcT Zde Zf8 ZdT ZcU Zfw ZeL ZbR ZdU Zfx ZeM Zdf ZeN Zf9 ZdV ZeO ?a4 ?l4 ?c4 ?k4
  (case a4=>k_is); (case l4=>k_is); (case c4=>k_is); (case k4=>k_is)
