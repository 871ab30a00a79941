import PyProof.Rows.All
import Wide.All
import OpenK.AllK
import Wide.FinOn
import Lean
import PyProof.EqAt
import PyProof.EqKinds
import PyProof.TupleCall
import KE.BitLaws
import PySem.Challenge.RW_letterall_k91_what_is_no_text
set_option bootstrap.genMatcherCode false
set_option compiler.extract_closed false
noncomputable section
set_option Elab.async false
set_option linter.all false
set_option maxRecDepth 100000
set_option maxHeartbeats 8000000
namespace L2
open PySem PySem.Spec PyProof.Rows
noncomputable abbrev Key:=Sum Int Str
noncomputable def pG:Key->Value->Bool
 | .inl k,v=>Value.isInt k v
 | .inr x,v=>Value.isStrOf x v
noncomputable def Aaq (w:World):Key->Int
 | .inl k=>hashInt k
 | .inr x=>hashStr w x
theorem Bm:∀ {k:Key}{v:Value},pG k v=true->(∃ i t,k=Sum.inl i/\v=Value.int i t)\/(∃ x t,k=Sum.inr x/\v=Value.str x t)
 | .inl i,v,h=>by
  obtain ⟨t,e⟩:=Value.isInt_shape (k:=i) (v:=v) h;exact .inl ⟨i,t,rfl,e⟩
 | .inr x,v,h=>by
  obtain ⟨t,e⟩:=Value.isStrOf_shape (x:=x) (v:=v) h;exact .inr ⟨x,t,rfl,e⟩
theorem qQ (a b:Int):decide ((Sum.inl a:Key)=Sum.inl b)=(a==b):=by
 by_cases e:a=b
 ·subst e;simp
 ·have h:¬ (Sum.inl a:Key)=Sum.inl b:=fun q=>e (Sum.inl.inj q)
  rw [decide_eq_false h];exact (beq_eq_false_iff_ne.mpr e).symm
theorem qR (a b:Str):decide ((Sum.inr a:Key)=Sum.inr b)=decide (a=b):=by
 by_cases e:a=b
 ·subst e;simp
 ·have h:¬ (Sum.inr a:Key)=Sum.inr b:=fun q=>e (Sum.inr.inj q)
  rw [decide_eq_false h,decide_eq_false e]
theorem qT (a:Int) (b:Str):decide ((Sum.inl a:Key)=Sum.inr b)=false:=decide_eq_false (fun q=>nomatch q)
theorem qU (a:Str) (b:Int):decide ((Sum.inr a:Key)=Sum.inl b)=false:=decide_eq_false (fun q=>nomatch q)
noncomputable def Pk (prog:Program) (w:World):PySem.KeyKind prog w Key where
 is:=pG
 hash:=Aaq w
 inj:=fun v a b ha hb=>by
  rcases Bm ha with ⟨i,t,rfl,rfl⟩|⟨x,t,rfl,rfl⟩
  ·rcases Bm hb with ⟨j,u,rfl,e⟩|⟨y,u,rfl,e⟩
   ·injection e with e1 _;rw [e1]
   ·exact nomatch e
  ·rcases Bm hb with ⟨j,u,rfl,e⟩|⟨y,u,rfl,e⟩
   ·exact nomatch e
   ·injection e with e1 _;rw [e1]
 byValue:=fun k v h=>by
  rcases Bm h with ⟨i,t,rfl,rfl⟩ | ⟨x,t,rfl,rfl⟩ <;> rfl
 pyHash:=fun hv h=>by
  rcases Bm hv with ⟨i,t,rfl,rfl⟩|⟨x,t,rfl,rfl⟩
  ·exact wpAny_pyHash_int h
  ·exact wpAny_pyHash_str h
 eqBool:=fun hu hv h=>by
  rcases Bm hu with ⟨i,t,rfl,rfl⟩|⟨x,t,rfl,rfl⟩
  ·rcases Bm hv with ⟨j,u,rfl,rfl⟩|⟨y,u,rfl,rfl⟩
   ·rw [qQ] at h;exact wpAny_eqBool_int h
   ·rw [qT] at h;exact SeqAt.EqAt.int_str i t y u _ _ _ _ h
  ·rcases Bm hv with ⟨j,u,rfl,rfl⟩|⟨y,u,rfl,rfl⟩
   ·rw [qU] at h;exact SeqAt.EqAt.str_int x t j u _ _ _ _ h
   ·rw [qR] at h;exact wpAny_eqBool_str h
 «strs»:=fun k x t v h=>by
  rcases Bm h with ⟨i,u,rfl,e⟩|⟨y,u,rfl,e⟩
  ·exact nomatch e
  ·injection e with e1 _
   subst e1;cases v <;> rfl
inductive V where
 | non | bl (b:Bool) | int (i:Int) | str (x:Str) | byt (b:Array UInt8) | flt (b:UInt64) | ref (a:Addr) | ty (n:String)
 deriving DecidableEq
noncomputable def RelV:V->Value->Prop
 | .non,u=>u=Value.none
 | .bl b,u=>u=Value.bool b
 | .int i,u=>∃ t,u=Value.int i t
 | .str x,u=>∃ t,u=Value.str x t
 | .byt b,u=>∃ t,u=Value.bytes b t
 | .flt b,u=>∃ t,u=Value.float b t
 | .ref a,u=>u=Value.ref a
 | .ty n,u=>u=Value.type n
noncomputable abbrev Vals:List V->List Value->Prop:=Paired RelV
theorem Vals.length {xs:List V}{us:List Value}(r:Vals xs us):xs.length=us.length:=Paired.length r
theorem Vals.get:∀ {xs:List V}{us:List Value}{i:Nat}{x:V},Vals xs us->xs[i]?=some x->∃ u,us[i]?=some u/\RelV x u
 | _,_,_,_,.nil,e=>by simp at e
 | _,_,0,_,.cons r _,e=>by simp at e;subst e;exact ⟨_,rfl,r⟩
 | _,_,i+1,x,.cons _ t,e=>by
  obtain ⟨u,h1,h2⟩:=Vals.get (i:=i) (x:=x) t (by simpa using e);exact ⟨u,by simpa using h1,h2⟩
theorem Vals.set {x:V}{u:Value}(r:RelV x u):∀ {xs:List V}{us:List Value}(i:Nat),Vals xs us->Vals (xs.set i x) (us.set i u)
 | _,_,_,.nil=>.nil
 | _,_,0,.cons _ t=>.cons r t
 | _,_,i+1,.cons q t=>.cons q (Vals.set r i t)
theorem Vals.append:∀ {xs ys:List V}{us ws:List Value},Vals xs us->Vals ys ws->Vals (xs++ys) (us++ws)
 | _,_,_,_,.nil,s=>s
 | _,_,_,_,.cons r t,s=>.cons r (Vals.append t s)
theorem Vals.take:∀ {xs:List V}{us:List Value}(n:Nat),Vals xs us->Vals (xs.take n) (us.take n)
 | _,_,0,_=>.nil
 | _,_,_+1,.nil=>.nil
 | _,_,n+1,.cons r t=>.cons r (Vals.take n t)
theorem Vals.drop:∀ {xs:List V}{us:List Value}(n:Nat),Vals xs us->Vals (xs.drop n) (us.drop n)
 | _,_,0,r=>r
 | _,_,_+1,.nil=>.nil
 | _,_,n+1,.cons _ t=>Vals.drop n t
noncomputable def xP:Option V->Option Value->Prop
 | some v,some u=>RelV v u
 | none,none=>True
 | _,_=>False
noncomputable def KV {κ:Type}:List (κ×V)->List (κ×Value)->Prop:=Paired fun (p:κ×V) (q:κ×Value)=>p.1=q.1/\RelV p.2 q.2
noncomputable def kV:Key->V
 | .inl i=>.int i
 | .inr x=>.str x
inductive HO where
 | lst (xs:List V)
 | tup (xs:List V)
 | dK (kvs:List (Key×V)) | dT (kvs:List (List Key×V))
 | set (S:Int->Bool) (n:Nat)
 | ins (C dx:Addr) (fs:List (Str×V))
 | own (x:Addr)
 | xd (fs:List (Str×V))
 | met (f x:Addr)
 | rng (lo hi:Int)
 | frz (o:Obj) (u:HO)
 | tbl (ps:Array Value)
 | ext (φ:Heap->Prop)
noncomputable abbrev Hp:=Addr->Option HO
noncomputable def upd (H:Hp) (a:Addr) (o:HO):Hp:=fun b=>if b=a then some o else H b
theorem Du {H:Hp}{a:Addr}{o:HO}:upd H a o a=some o:=by unfold upd;rw [if_pos rfl]
theorem Al {H:Hp}{a b:Addr}{o:HO}(h:b≠a):upd H a o b=H b:=by unfold upd;rw [if_neg h]
theorem Rw {H:Hp}{a b:Addr}{o u:HO}(h:H a=some o) (h':H b=some u) (d:o≠u):a≠b:=by
 intro e;subst e;rw [h] at h';exact d (Option.some.inj h')
theorem Aj {H:Hp}{a b:Addr}{o:HO}(h:H a=some o) (h':H b=none):a≠b:=by
 intro e;subst e;rw [h] at h';cases h'
section
variable (P:Program) (w:World)
noncomputable def Nv (h:Heap) (a:Addr) (its:Array Value):Prop:=∃ o,h.get? a=some o/\o.cls=.type "tuple"/\o.dict=none/\∃ n,o.data=.seq its n
theorem Nv.to {h:Heap}{a:Addr}{its:Array Value}(x:Nv h a its):IsTup h a its:=let ⟨o,e,c,_,n,d⟩:=x;⟨o,e,c,n,d⟩
theorem Nv.new (h:Heap) (its:Array Value):Nv (h.push { cls:=.type "tuple",data:=.seq its }) h.objs.size its:=⟨_,Heap.get?_push_size _ rfl,rfl,rfl,_,rfl⟩
noncomputable def Ej (H:Hp) (h:Heap) (a:Addr):HO->Prop
 | .lst xs=>xs.length<=sizeLine/\∃ (its:List Value) (n:Nat),Vals xs its/\h.get? a=some { cls:=.type "list",data:=.seq its.toArray n }
 | .tup xs=>xs.length<=sizeLine/\∃ its:List Value,Vals xs its/\Nv h a its.toArray
 | .dK kvs=>kvs.length<=sizeLine/\(a==sysModules)=false/\∃ vs,KV kvs vs/\h.DictOf (Pk P w) a vs
 | .dT kvs=>kvs.length<=sizeLine/\(a==sysModules)=false/\∃ xs:List (List Key×Addr×Value),
   Paired (fun (p:List Key×V) (q:List Key×Addr×Value)=>p.1=q.1/\H q.2.1=some (.tup (p.1.map kV))/\RelV p.2 q.2.2) kvs xs /\
   ∃ o es ep,h.get? a=some o/\o.ExactDict/\o.data=.dict es ep/\es.toList=xs.map (entryOfKey (tupleKind (Pk P w)))/\(xs.map (·.1)).Nodup
 | .set S n=>h.SetOf (intKind P w) a S n
 | .ins C dx fs=>H dx=some (.own a)/\fs.length<=1000/\dx≠a/\h.get? a=some (PySem.W.instObj C dx) /\
   ∃ mA,h.Ns1 dx mA/\(∀ f,xP (fs.lookup f) (mA f))/\PySem.Within mA (fs.map (·.1))
 | .own _=>∃ o,h.get? a=some o
 | .xd fs=>∃ mA,h.Ns1 a mA/\∀ f,xP (fs.lookup f) (mA f)
 | .rng lo hi=>∃ t u v,h.get? a=some { cls:=.type "range",data:=.fields #[.int lo t,.int hi u,.int 1 v] }
 | .frz o u=>h.get? a=some o/\Ej H h a u
 | .tbl ps=>h.get? a=some { cls:=.none,data:=.fields ps }
 | .met f x=>h.get? a=some (PySem.W.methodObj (.ref f) (.ref x))
 | .ext φ=>φ h/\(∃ o,h.get? a=some o)/\∀ h1 h2:Heap,φ h1->(∀ o,h1.get? a=some o->h2.get? a=some o)->φ h2
noncomputable def HOk (H:Hp) (h:Heap):Prop:=∀ a o,H a=some o->Ej P w H h a o
end
section
variable {P:Program}{w:World}{H H':Hp}{h h':Heap}{a:Addr}{o:HO}
theorem Ej.lt (x:Ej P w H h a o):a < h.objs.size:=by
 cases o with
 | lst xs=>obtain ⟨_,_,_,_,e⟩:=x;exact Heap.lt_size e
 | tup xs=>obtain ⟨_,_,_,p⟩:=x;exact p.to.lt
 | dK kvs=>obtain ⟨_,_,_,_,o,_,_,e,_⟩:=x;exact Heap.lt_size e
 | dT kvs=>obtain ⟨_,_,_,_,o,_,_,e,_⟩:=x;exact Heap.lt_size e
 | set S n=>obtain ⟨o,_,_,_,e,_⟩:=x;exact Heap.lt_size e
 | ins C dx fs=>obtain ⟨_,_,_,e,_⟩:=x;exact Heap.lt_size e
 | own y=>obtain ⟨_,e⟩:=x;exact Heap.lt_size e
 | xd fs=>obtain ⟨_,⟨_,_,_,e,_⟩,_⟩:=x;exact Heap.lt_size e
 | rng lo hi=>obtain ⟨_,_,_,e⟩:=x;exact Heap.lt_size e
 | frz ob u=>obtain ⟨e,_⟩:=x;exact Heap.lt_size e
 | tbl ps=>exact Heap.lt_size (show h.get? a=some _ from x)
 | met f y=>exact Heap.lt_size (show h.get? a=some _ from x)
 | ext φ=>obtain ⟨_,⟨_,e⟩,_⟩:=x;exact Heap.lt_size e
theorem Paired.mapP {α β:Type}{F G:α->β->Prop}:∀ {l₁:List α}{l₂:List β},Paired F l₁ l₂->(∀ a b,F a b->G a b)->Paired G l₁ l₂
 | _,_,.nil,_=>.nil
 | _,_,.cons r t,f=>.cons (f _ _ r) (Paired.mapP t f)
theorem Ej.stay (x:Ej P w H h a o) (k:∀ b u,(b=a\/H b=some (.own a))->h.get? b=some u->h'.get? b=some u)
  (ho:∀ b,H b=some (.own a)->H' b=some (.own a)) (ht:∀ b xs,H b=some (.tup xs)->H' b=some (.tup xs)):Ej P w H' h' a o:=by
 induction o with
 | lst xs=>obtain ⟨z,its,n,r,e⟩:=x;exact ⟨z,its,n,r,k _ _ (.inl rfl) e⟩
 | tup xs=>obtain ⟨z,its,r,ob,e,c⟩:=x;exact ⟨z,its,r,ob,k _ _ (.inl rfl) e,c⟩
 | dK kvs=>obtain ⟨z,y,vs,r,ob,es,ep,e,c⟩:=x;exact ⟨z,y,vs,r,ob,es,ep,k _ _ (.inl rfl) e,c⟩
 | dT kvs =>
  obtain ⟨z,y,xs,r,ob,es,ep,e,c⟩:=x;exact ⟨z,y,xs,Paired.mapP r fun p q z=>⟨z.1,ht _ _ z.2.1,z.2.2⟩,ob,es,ep,k _ _ (.inl rfl) e,c⟩
 | set S n=>obtain ⟨ob,es,ep,t,e,c⟩:=x;exact ⟨ob,es,ep,t,k _ _ (.inl rfl) e,c⟩
 | ins C dx fs =>
  obtain ⟨d,z,ne,e,mA,⟨od,es,ep,e2,c⟩,r⟩:=x;exact ⟨ho _ d,z,ne,k _ _ (.inl rfl) e,mA,⟨od,es,ep,k _ _ (.inr d) e2,c⟩,r⟩
 | own y=>obtain ⟨ob,e⟩:=x;exact ⟨ob,k _ _ (.inl rfl) e⟩
 | xd fs=>obtain ⟨mA,⟨od,es,ep,e,c⟩,r⟩:=x;exact ⟨mA,⟨od,es,ep,k _ _ (.inl rfl) e,c⟩,r⟩
 | rng lo hi=>obtain ⟨t,u,v,e⟩:=x;exact ⟨t,u,v,k _ _ (.inl rfl) e⟩
 | frz ob u ih=>obtain ⟨e,q⟩:=x;exact ⟨k _ _ (.inl rfl) e,ih q⟩
 | tbl ps =>
  have e:h.get? a=some { cls:=.none,data:=.fields ps }:=x;show h'.get? a=some { cls:=.none,data:=.fields ps };exact k a _ (.inl rfl) e
 | met f y =>
  have e:h.get? a=some (PySem.W.methodObj (.ref f) (.ref y)):=x;show h'.get? a=some (PySem.W.methodObj (.ref f) (.ref y));exact k a _ (.inl rfl) e
 | ext φ=>obtain ⟨p,⟨o,e⟩,st⟩:=x;exact ⟨st _ _ p fun o q=>k _ _ (.inl rfl) q,⟨o,k _ _ (.inl rfl) e⟩,st⟩
theorem HOk.lt (x:HOk P w H h) (e:H a=some o):a < h.objs.size:=(x a o e).lt
theorem HOk.fresh (x:HOk P w H h) (e:h.objs.size<=a):H a=none:=by
 cases q:H a with
 | none=>rfl
 | some u=>exact absurd (Nat.lt_of_lt_of_le (x.lt q) e) (Nat.lt_irrefl _)
theorem HOk.kept (x:HOk P w H h) (k:∀ b u,h.get? b=some u->h'.get? b=some u):HOk P w H h':=fun a o e =>
 (x a o e).stay (fun b u _ q=>k b u q) (fun _ q=>q) fun _ _ q=>q
theorem HOk.laid (x:HOk P w H h) (k:∀ b u,h.get? b=some u->h'.get? b=some u) (hp:h.objs.size<=a) (new:Ej P w (upd H a o) h' a o):HOk P w (upd H a o) h':=fun b u e=>by
 have hn:=x.fresh hp
 by_cases hb:b=a
 ·subst hb;rw [Du] at e;cases e;exact new
 ·rw [Al hb] at e;exact (x b u e).stay (fun c v _ q=>k c v q) (fun c q=>by rw [Al (Aj q hn)];exact q) fun c xs q=>by rw [Al (Aj q hn)];exact q
end
noncomputable def Rd (H:Hp) (a:Addr) (u:HO):Prop:=H a=some u\/∃ o,H a=some (.frz o u)
theorem Rd.ok {P:Program}{w:World}{H:Hp}{h:Heap}{a:Addr}{u:HO}(r:Rd H a u) (x:HOk P w H h):Ej P w H h a u:=by
 rcases r with r|⟨o,r⟩
 ·exact x a u r
 ·obtain ⟨_,q⟩:=x a _ r;exact q
noncomputable def Mut:Option HO->Prop
 | some (.lst _)=>True
 | some (.dK _)=>True
 | some (.dT _)=>True
 | some (.set _ _)=>True
 | some (.ins _ _ _)=>True
 | some (.ext _)=>True
 | _=>False
section
variable {P:Program}{w:World}{H:Hp}{h h':Heap}{x e:Addr}{o':HO}
theorem HOk.write (ok:HOk P w H h) (mu:Mut (H x)) (he:e=x\/H e=some (.own x)) (k:∀ b u,b≠e->h.get? b=some u->h'.get? b=some u) (heo:∃ u,h'.get? e=some u)
  (new:Ej P w (upd H x o') h' x o'):HOk P w (upd H x o') h':=fun b u q=>by
 have nown:∀ c y,H c=some (.own y)->c≠x:=fun c y r z=>by subst z;rw [r] at mu;exact mu
 have ntup:∀ c xs,H c=some (.tup xs)->c≠x:=fun c xs r z=>by subst z;rw [r] at mu;exact mu
 by_cases hb:b=x
 ·subst hb;rw [Du] at q;cases q;exact new
 ·rw [Al hb] at q
  by_cases hbe:b=e
  ·have q':H b=some (.own x):=by
    rcases he with z|z
    ·exact absurd (hbe.trans z) hb
    ·rw [hbe];exact z
   rw [q] at q';cases q';obtain ⟨v,hv⟩:=heo;exact ⟨v,by rw [hbe];exact hv⟩
  ·refine (ok b u q).stay (fun c v hc r=>k c v ?_ r) (fun c r=>by rw [Al (nown c b r)];exact r) fun c xs r=>by rw [Al (ntup c xs r)];exact r
   rcases hc with rfl|hc
   ·exact hbe
   ·rintro rfl;rcases he with z|z
    ·exact nown c b hc z
    ·rw [hc] at z;cases z;exact hb rfl
end
structure Un (fs ex:List Addr) (H H':Hp) (h h':Heap):Prop where
 keep:∀ b o,h.get? b=some o->H b=none->b ∉ fs->b ∉ ex->h'.get? b=some o
 slot:∀ b o,h.get? b=some o->H b=none->b∈fs->b ∉ ex->∃ sl,h'.get? b=some { o with slots:=sl }
 free:∀ b o,h.get? b=some o->H b=none->b ∉ ex->H' b=none
 there:∀ b o,h.get? b=some o->b ∉ ex->∃ o',h'.get? b=some o'
 tups:∀ b xs,H b=some (.tup xs)->H' b=some (.tup xs)
 frzs:∀ b o u,H b=some (.frz o u)->H' b=some (.frz o u)
 tbls:∀ b ps,H b=some (.tbl ps)->∃ more,H' b=some (.tbl (ps++more))
section
variable {fs fs' ex ex':List Addr}{H H1 H2:Hp}{h h1 h2 h':Heap}{a x e:Addr}{o:HO}
theorem Un.any (u:Un fs ex H H1 h h1) {b:Addr}{ob:Obj}(q:h.get? b=some ob) (n:H b=none) (hx:b ∉ ex):∃ sl,h1.get? b=some { ob with slots:=sl }:=by
 by_cases hb:b∈fs
 ·exact u.slot b ob q n hb hx
 ·exact ⟨ob.slots,u.keep b ob q n hb hx⟩
theorem Un.kept (k:∀ b u,h.get? b=some u->h'.get? b=some u):Un fs ex H H h h' :=
 ⟨fun b ob q _ _ _=>k b ob q,fun b ob q _ _ _=>⟨ob.slots,k b ob q⟩,fun _ _ _ n _=>n,fun b ob q _=>⟨ob,k b ob q⟩,fun _ _ q=>q,fun _ _ _ q=>q,fun _ ps q=>⟨#[],by rw [q];simp⟩⟩
theorem Un.refl:Un fs ex H H h h:=Un.kept fun _ _ q=>q
theorem Un.laid (k:∀ b u,h.get? b=some u->h'.get? b=some u) (hp:h.objs.size<=a) (hn:H a=none):Un fs ex H (upd H a o) h h' where
 keep:=fun b u q _ _ _=>k b u q
 slot:=fun b u q _ _ _=>⟨u.slots,k b u q⟩
 free:=fun b u q n _=>by rw [Al (Nat.ne_of_lt (Nat.lt_of_lt_of_le (Heap.lt_size q) hp))];exact n
 there:=fun b u q _=>⟨u,k b u q⟩
 tups:=fun b xs q=>by rw [Al (Aj q hn)];exact q
 frzs:=fun b u xs q=>by rw [Al (Aj q hn)];exact q
 tbls:=fun b ps q=>⟨#[],by rw [Al (Aj q hn),q];simp⟩
theorem Un.write (mu:Mut (H x)) (he:e=x\/H e=some (.own x)) (k:∀ b u,b≠e->h.get? b=some u->h'.get? b=some u) (heo:∃ u,h'.get? e=some u):Un fs ex H (upd H x o) h h':=by
 have hx:∀ b,H b=none->b≠x:=fun b n z=>by subst z;rw [n] at mu;exact mu
 have hb:∀ b,H b=none->b≠e:=fun b n z=>by
  subst z;rcases he with r|r
  ·exact hx b n r
  ·rw [n] at r;cases r
 have hm:∀ b u,H b=some u->¬ Mut (some u)->b≠x:=fun b u q nm z=>by subst z;rw [q] at mu;exact nm mu
 refine ⟨fun b u q n _ _=>k b u (hb b n) q,fun b u q n _ _=>⟨u.slots,k b u (hb b n) q⟩,fun b u q n _=>by rw [Al (hx b n)];exact n,fun b u q _=>?_,
  fun b xs q=>by rw [Al (hm b _ q fun z=>z)];exact q,fun b u xs q=>by rw [Al (hm b _ q fun z=>z)];exact q,fun b ps q=>⟨#[],by rw [Al (hm b _ q fun z=>z),q];simp⟩⟩
 by_cases hbe:b=e
 ·subst hbe;exact heo
 ·exact ⟨u,k b u hbe q⟩
end
noncomputable def trk (h:Heap) (H:Hp):List Addr:=(List.range h.objs.size).filter fun a=>(H a).isSome
noncomputable def Pn (h:Heap) (H:Hp):Heap:=PySem.W.hideAll h (trk h H)
theorem Xy (h:Heap) (H:Hp):(Pn h H).objs.size=h.objs.size:=PySem.W.hideAll_size _ _
theorem Z0 {h:Heap}{H:Hp}{b:Addr}{o:Obj}(e:h.get? b=some o) (n:H b=none):(Pn h H).get? b=some o :=
 PySem.W.hideAll_get _ e fun hm=>by
  have q:(H b).isSome=true:=(List.mem_filter.mp hm).2;rw [n] at q;simp at q
theorem jH {h:Heap}{H:Hp}{b:Addr}{o:Obj}(e:(Pn h H).get? b=some o):h.get? b=some o/\H b=none:=by
 have e':h.get? b=some o:=PySem.W.of_hideAll (trk h H) e;refine ⟨e',?_⟩;cases q:H b with
 | none=>rfl
 | some x =>
  have hm:b∈trk h H:=List.mem_filter.mpr ⟨List.mem_range.mpr (Heap.lt_size e'),by simp [q]⟩;have z:(Pn h H).get? b=none:=PySem.W.hideAll_none (trk h H) hm;rw [z] at e;cases e
structure Mod (K:PySem.W.Frag) (mg:Str->Option Value) (base:Heap):Prop where
 kin:K.In base
 glob:base.Ns mainGlobals mg
 blt:∃ mb,base.Ns builtinsNs mb/\∀ x:Str,x ≠ "__name__"->mb x=bootBuiltins x
 nolimit:base.NoLimit
structure Cx where
 prog:Program
 w:World
 K:PySem.W.Frag
 mg:Str->Option Value
 base:Heap
 A:Around
 N:List Str
 s₀:Shared
 H₀:Hp
 env:Env
 outer:List Env
 stack:List Env
 ex:List Addr
 fn:Str->Bool
 calm:Bool
 pn:List (Addr×Obj)
 xe:Value->Shared->Prop
noncomputable def frs (l:List Env):List Addr:=l.filterMap (·.frame)
noncomputable abbrev Cx.fs (X:Cx):List Addr:=frs X.outer
noncomputable def Vis (sc:Scope) (x:Str):Prop:=sc.names.lookup x=some .local\/sc.names.lookup x=some .cell\/sc.names.lookup x=some .free
noncomputable def Loc (sc:Scope) (x:Str):Prop:=sc.names.lookup x=some .local\/sc.names.lookup x=some .cell
noncomputable def Look (env:Env) (h:Heap) (m:Str->Option Value) (x:Str) (u:Value):Prop :=
 (env.kindOf x=some .local/\m x=some u)\/((env.kindOf x=some .cell\/env.kindOf x=some .free)/\∃ c,env.cells.lookup x=some c/\h.IsCell c (some u))
structure Cx.Ok (X:Cx):Prop where
 mod:Mod X.K X.mg X.base
 kind:X.env.scope.kind=.function
 glob:X.env.globals=mainGlobals
 blt:X.env.builtins=builtinsNs
 above:X.s₀.heap.objs.size<=X.env.locals
 inj:∀ x y c,X.env.cells.lookup x=some c->X.env.cells.lookup y=some c->x=y
 has:∀ x,(X.env.kindOf x=some .cell\/X.env.kindOf x=some .free)->∃ c,X.env.cells.lookup x=some c
 cab:∀ x c,X.fn x=true->X.env.cells.lookup x=some c->X.s₀.heap.objs.size<=c
 hd:X.calm=true->X.A.handled=none
 frames:X.A.frames=some X.stack
 stk:X.stack=X.outer\/(X.stack=X.env::X.outer/\X.env.frame=some X.env.locals)
 exf:∀ b∈X.ex,b≠X.env.locals/\∀ x c,X.env.cells.lookup x=some c->c≠b
 bs:∀ b o,X.base.get? b=some o->X.s₀.heap.get? b=some o/\X.H₀ b=none
 bsz:X.base.objs.size<=X.s₀.heap.objs.size
 noex:∀ b o,X.base.get? b=some o->b ∉ X.ex
 exfs:∀ b∈X.ex,b ∉ X.fs
 funs:X.s₀.heap.FunFrames X.base X.outer
 frf:∀ b∈X.fs,X.H₀ b=none
structure Inv (X:Cx) (pins:List (Addr×Obj)) (σ:List (Option V)) (H:Hp) (s:Shared):Prop where
 ok:X.Ok
 os:s.os=X.s₀.os
 bare:AllBare s.gens
 base:Un X.fs X.ex X.H₀ H X.s₀.heap s.heap
 loc:∃ m,s.heap.Ns X.env.locals m/\∀ (i:Nat) (x:Str) (v:V),X.N[i]?=some x->σ[i]?=some (some v)->Vis X.env.scope x->∃ u,RelV v u/\Look X.env s.heap m x u
 cell:∀ x c,X.env.cells.lookup x=some c->∃ v,s.heap.IsCell c v
 free:H X.env.locals=none
 freeC:∀ x c,X.env.cells.lookup x=some c->H c=none
 pin:∀ p∈X.pn++pins,s.heap.get? p.1=some p.2/\H p.1=none/\p.1≠X.env.locals/\p.1 ∉ X.fs/\∀ v,p.2.data≠.cell v
 hok:HOk X.prog X.w H s.heap
 len:σ.length=X.N.length
section
variable {X:Cx}{pins:List (Addr×Obj)}{σ:List (Option V)}{H H':Hp}{s:Shared}{h':Heap}
theorem Cx.Ok.nofr (ok:X.Ok) {b:Addr}{o:Obj}(e:X.base.get? b=some o):b ∉ X.fs:=fun hb=>by
 have:=(ok.funs.mem hb).1;rw [e] at this;cases this
theorem Inv.bs (I:Inv X pins σ H s):∀ b o,X.base.get? b=some o->s.heap.get? b=some o/\H b=none:=fun b o e =>
 ⟨I.base.keep b o (I.ok.bs b o e).1 (I.ok.bs b o e).2 (I.ok.nofr e) (I.ok.noex b o e),I.base.free b o (I.ok.bs b o e).1 (I.ok.bs b o e).2 (I.ok.noex b o e)⟩
theorem Inv.bk (I:Inv X pins σ H s):∀ b o,X.base.get? b=some o->s.heap.get? b=some o:=fun b o e=>(I.bs b o e).1
theorem Inv.mod (I:Inv X pins σ H s):Mod X.K X.mg X.base:=I.ok.mod
theorem Inv.kIn (I:Inv X pins σ H s):X.K.In s.heap:=I.ok.mod.kin.keeps I.bk
theorem Inv.lt (I:Inv X pins σ H s):X.env.locals < s.heap.objs.size:=let ⟨_,hn,_⟩:=I.loc;hn.lt
theorem Inv.sz (I:Inv X pins σ H s):X.s₀.heap.objs.size<=s.heap.objs.size:=Nat.le_trans I.ok.above (Nat.le_of_lt I.lt)
theorem Inv.nofs (I:Inv X pins σ H s) {a:Addr}(h:s.heap.objs.size<=a):a ∉ X.fs:=fun hb=>by
 obtain ⟨_,o,ho,_⟩:=I.ok.funs.mem hb;exact absurd (Nat.lt_of_lt_of_le (Heap.lt_size ho) (Nat.le_trans I.sz h)) (Nat.lt_irrefl _)
theorem Inv.cne (I:Inv X pins σ H s):∀ x c,X.env.cells.lookup x=some c->c≠X.env.locals:=fun x c e z=>by
 obtain ⟨v,o,ho,hd⟩:=I.cell x c e;obtain ⟨m,⟨o',es,ep,ho',hd',_⟩,_⟩:=I.loc;rw [z,ho'] at ho;cases ho;rw [hd'] at hd;cases hd
theorem Inv.funs (I:Inv X pins σ H s):s.heap.FunFrames X.base X.outer:=by
 have all:∀ (l:List Env),(∀ b∈frs l,b∈X.fs)->X.s₀.heap.FunFrames X.base l->s.heap.FunFrames X.base l:=by
  intro l
  induction l with
  | nil=>intro _ _;trivial
  | cons env r ih =>
   intro hs hl;obtain ⟨hk,⟨L,o,hf,hn,ho,hd⟩,hr⟩:=hl;have hL:L∈X.fs:=hs L (by unfold frs;rw [List.filterMap_cons,hf];exact List.mem_cons_self);obtain ⟨sl,e⟩:=I.base.slot L o ho (I.ok.frf L hL) hL fun z=>I.ok.exfs L z hL
   exact ⟨hk,⟨L,_,hf,hn,e,hd⟩,ih (fun b hb=>hs b (by unfold frs;rw [List.filterMap_cons,hf];exact List.mem_cons_of_mem _ hb)) hr⟩
 exact all X.outer (fun _ hb=>hb) I.ok.funs
theorem Inv.stack (I:Inv X pins σ H s):s.heap.FunFrames X.base X.stack:=by
 rcases I.ok.stk with e|⟨e,hf⟩
 ·rw [e];exact I.funs
 ·rw [e];obtain ⟨m,hn,_⟩:=I.loc;refine .cons (by rw [I.ok.kind];decide) hf hn ?_ I.funs;exact Heap.get?_none_of_le (Nat.le_trans I.ok.bsz I.ok.above)
theorem Inv.stkSub (I:Inv X pins σ H s):∀ b∈frs X.stack,b∈X.env.locals::X.fs:=fun b hb=>by
 rcases I.ok.stk with e|⟨e,hf⟩
 ·rw [e] at hb;exact List.mem_cons_of_mem _ hb
 ·rw [e] at hb;unfold frs at hb;rw [List.filterMap_cons,hf] at hb;exact hb
theorem Inv.stkFree (I:Inv X pins σ H s):∀ b∈frs X.stack,H b=none:=fun b hb=>by
 rcases List.mem_cons.mp (I.stkSub b hb) with e|hb
 ·rw [e];exact I.free
 ·obtain ⟨_,o,ho,_⟩:=I.ok.funs.mem hb;exact I.base.free b o ho (I.ok.frf b hb) fun z=>I.ok.exfs b z hb
theorem Inv.step {g':Array GenState}{t':Nat}{d':Drawn}{ch:List Addr}(I:Inv X pins σ H s)
  (hch:∀ b∈ch,(b∈X.ex\/X.s₀.heap.objs.size<=b)/\b≠X.env.locals/\(∀ x c,X.env.cells.lookup x=some c->c≠b)/\∀ p∈X.pn++pins,p.1≠b)
  (keep:∀ b o,b≠X.env.locals->b ∉ X.fs->b ∉ ch->s.heap.get? b=some o->H b=none->h'.get? b=some o)
  (slot:∀ b o,b≠X.env.locals->b∈X.fs->b ∉ ch->s.heap.get? b=some o->H b=none->∃ sl,h'.get? b=some { o with slots:=sl }) (free:∀ b o,b ∉ ch->s.heap.get? b=some o->H b=none->H' b=none)
  (there:∀ b o,b ∉ ch->s.heap.get? b=some o->∃ o',h'.get? b=some o')
  (tups:∀ b xs,H b=some (.tup xs)->H' b=some (.tup xs)) (frzs:∀ b o u,H b=some (.frz o u)->H' b=some (.frz o u)) (tbls:∀ b ps,H b=some (.tbl ps)->∃ more,H' b=some (.tbl (ps++more)))
  (ns:∀ m,s.heap.Ns X.env.locals m->h'.Ns X.env.locals m) (hok:HOk X.prog X.w H' h') (hg:AllBare g') :
  Inv X pins σ H' { s with heap:=h',gens:=g',drawn:=d',toks:=t' }:=by
 have neL:∀ b o,X.s₀.heap.get? b=some o->b≠X.env.locals:=fun b o e=>Nat.ne_of_lt (Nat.lt_of_lt_of_le (Heap.lt_size e) I.ok.above)
 have neC:∀ b o,X.s₀.heap.get? b=some o->b ∉ X.ex->b ∉ ch:=fun b o e hx hb=>by
  rcases (hch b hb).1 with z|z
  ·exact hx z
  ·exact absurd (Nat.lt_of_lt_of_le (Heap.lt_size e) z) (Nat.lt_irrefl _)
 have cellK:∀ x c,X.env.cells.lookup x=some c->∀ v,s.heap.IsCell c v->h'.IsCell c v:=by
  rintro x c e v ⟨o,ho,hd⟩;have nch:c ∉ ch:=fun z=>(hch c z).2.2.1 x c e rfl
  by_cases hc:c∈X.fs
  ·obtain ⟨sl,q⟩:=slot c o (I.cne x c e) hc nch ho (I.freeC x c e);exact ⟨_,q,hd⟩
  ·exact ⟨o,keep c o (I.cne x c e) hc nch ho (I.freeC x c e),hd⟩
 refine ⟨I.ok,I.os,hg,⟨fun b o e n hb hx=>?_,fun b o e n hb hx=>?_,fun b o e n hx=>?_,fun b o e hx=>?_,fun b xs e=>tups b xs (I.base.tups b xs e),fun b o xs e=>frzs b o xs (I.base.frzs b o xs e),fun b ps e=>?_⟩,?_,fun x c e=>?_,?_,fun x c e=>?_,fun p hp=>?_,hok,I.len⟩
 ·exact keep b o (neL b o e) hb (neC b o e hx) (I.base.keep b o e n hb hx) (I.base.free b o e n hx)
 ·obtain ⟨sl,e1⟩:=I.base.slot b o e n hb hx;obtain ⟨sl',e2⟩:=slot b _ (neL b o e) hb (neC b o e hx) e1 (I.base.free b o e n hx);exact ⟨sl',e2⟩
 ·obtain ⟨o',e1⟩:=I.base.there b o e hx;exact free b o' (neC b o e hx) e1 (I.base.free b o e n hx)
 ·obtain ⟨o',e1⟩:=I.base.there b o e hx;exact there b o' (neC b o e hx) e1
 ·obtain ⟨m1,e1⟩:=I.base.tbls b ps e;obtain ⟨m2,e2⟩:=tbls b _ e1;exact ⟨m1++m2,by rw [e2,Array.append_assoc]⟩
 ·obtain ⟨m,hn,hl⟩:=I.loc;refine ⟨m,ns m hn,fun i x v e1 e2 e3=>?_⟩;obtain ⟨u,r,l⟩:=hl i x v e1 e2 e3;refine ⟨u,r,?_⟩;rcases l with l|⟨k,c,e,z⟩
  ·exact .inl l
  ·exact .inr ⟨k,c,e,cellK x c e _ z⟩
 ·obtain ⟨v,z⟩:=I.cell x c e;exact ⟨v,cellK x c e v z⟩
 ·obtain ⟨m,⟨o,_,_,ho,_⟩,_⟩:=I.loc;exact free _ o (fun z=>(hch _ z).2.1 rfl) ho I.free
 ·obtain ⟨v,o,ho,hd⟩:=I.cell x c e;exact free c o (fun z=>(hch c z).2.2.1 x c e rfl) ho (I.freeC x c e)
 ·obtain ⟨e,n,ne,nf,d⟩:=I.pin p hp;have nch:p.1 ∉ ch:=fun z=>(hch p.1 z).2.2.2 p hp rfl
  exact ⟨keep p.1 p.2 ne nf nch e n,free p.1 p.2 nch e n,ne,nf,d⟩
theorem Inv.un {t':Nat}(I:Inv X pins σ H s) (u:Un X.fs [] H H' s.heap h') (hok:HOk X.prog X.w H' h'):Inv X pins σ H' { s with heap:=h',toks:=t' }:=by
 obtain ⟨m,⟨o,es,ep,ho,r⟩,_⟩:=id I.loc;obtain ⟨sl,hL⟩:=u.any ho I.free (by simp)
 exact I.step (g':=s.gens) (d':=s.drawn) (ch:=[]) (fun _ z=>nomatch z) (fun b o _ hb _ e n=>u.keep b o e n hb (by simp)) (fun b o _ hb _ e n=>u.slot b o e n hb (by simp)) (fun b o _ e n=>u.free b o e n (by simp)) (fun b o _ e=>u.there b o e (by simp)) u.tups u.frzs u.tbls (fun m' hm=>by
  obtain ⟨o',es',ep',ho',r'⟩:=hm;rw [ho] at ho';cases ho'
  exact ⟨_,es',ep',hL,r'⟩) hok I.bare
theorem Inv.call {g':Array GenState}{t':Nat}{d':Drawn}{ch:List Addr}(I:Inv X pins σ H s) (u:Un (frs X.stack) ch H H' s.heap h') (hok:HOk X.prog X.w H' h') (hg:AllBare g')
  (hch:∀ b∈ch,(b∈X.ex\/X.s₀.heap.objs.size<=b)/\b≠X.env.locals/\(∀ x c,X.env.cells.lookup x=some c->c≠b)/\∀ p∈X.pn++pins,p.1≠b) :
  Inv X pins σ H' { s with heap:=h',gens:=g',drawn:=d',toks:=t' }:=by
 obtain ⟨m,⟨o,es,ep,ho,r⟩,_⟩:=id I.loc;obtain ⟨sl,hL⟩:=u.any ho I.free fun z=>(hch _ z).2.1 rfl
 exact I.step (ch:=ch) hch (fun b o hL hb hc e n=>u.keep b o e n (fun z=>(List.mem_cons.mp (I.stkSub b z)).elim hL hb) hc) (fun b o _ _ hc e n=>u.any e n hc) (fun b o hc e n=>u.free b o e n hc) (fun b o hc e=>u.there b o e hc) u.tups u.frzs u.tbls (fun m' hm=>by
  obtain ⟨o',es',ep',ho',r'⟩:=hm;rw [ho] at ho';cases ho'
  exact ⟨_,es',ep',hL,r'⟩) hok hg
theorem Inv.turned {t':Nat}{it:Addr}(I:Inv X pins σ H s) (k:∀ b o,b≠it->s.heap.get? b=some o->h'.get? b=some o) (hn:H it=none) (hL:it≠X.env.locals)
  (h1:it∈X.ex\/X.s₀.heap.objs.size<=it) (h2:∀ x c,X.env.cells.lookup x=some c->c≠it) (h3:∀ p∈X.pn++pins,p.1≠it):Inv X pins σ H { s with heap:=h',toks:=t' }:=by
 have nit:∀ b u,H b=some u->b≠it:=fun b u e z=>by rw [z,hn] at e;cases e
 refine I.step (g':=s.gens) (d':=s.drawn) (ch:=[it]) (fun b hb=>?_) (fun b o _ _ hc e _=>k b o (fun z=>hc (by simp [z])) e) (fun b o _ _ hc e _=>⟨o.slots,k b o (fun z=>hc (by simp [z])) e⟩) (fun _ _ _ _ n=>n)
  (fun b o hc e=>⟨o,k b o (fun z=>hc (by simp [z])) e⟩) (fun _ _ e=>e) (fun _ _ _ e=>e) (fun b ps e=>⟨#[],by rw [e];simp⟩) (fun m hm=>?_) (fun b u e=>?_) I.bare
 ·have e:b=it:=by simpa using hb
  subst e;exact ⟨h1,hL,h2,h3⟩
 ·obtain ⟨o,es,ep,ho,r⟩:=hm;exact ⟨o,es,ep,k _ o (Ne.symm hL) ho,r⟩
 ·refine (I.hok b u e).stay (fun c v hc q=>k c v ?_ q) (fun _ q=>q) fun _ _ q=>q
  rcases hc with z|z
  ·rw [z];exact nit b u e
  ·exact nit c _ z
theorem Inv.tok (I:Inv X pins σ H s) (t:Nat):Inv X pins σ H { s with toks:=t }:=I.un (h':=s.heap) (t':=t) Un.refl I.hok
theorem Inv.kept {t':Nat}(I:Inv X pins σ H s) (k:∀ b u,s.heap.get? b=some u->h'.get? b=some u):Inv X pins σ H { s with heap:=h',toks:=t' }:=I.un (Un.kept k) (I.hok.kept k)
theorem Inv.laid {a:Addr}{o:HO}{t':Nat}(I:Inv X pins σ H s) (k:∀ b u,s.heap.get? b=some u->h'.get? b=some u) (hp:s.heap.objs.size<=a) (new:Ej X.prog X.w (upd H a o) h' a o) :
  Inv X pins σ (upd H a o) { s with heap:=h',toks:=t' }:=I.un (Un.laid k hp (I.hok.fresh hp)) (I.hok.laid k hp new)
theorem Inv.write {x e:Addr}{o:HO}{t':Nat}(I:Inv X pins σ H s) (mu:Mut (H x)) (he:e=x\/H e=some (.own x)) (k:∀ b u,b≠e->s.heap.get? b=some u->h'.get? b=some u) (heo:∃ u,h'.get? e=some u)
  (new:Ej X.prog X.w (upd H x o) h' x o):Inv X pins σ (upd H x o) { s with heap:=h',toks:=t' }:=I.un (Un.write mu he k heo) (I.hok.write mu he k heo new)
theorem Inv.weak {σ':List (Option V)}(I:Inv X pins σ H s) (hl:σ'.length=σ.length) (w:∀ (i:Nat) v,σ'[i]?=some (some v)->σ[i]?=some (some v)):Inv X pins σ' H s :=
 ⟨I.ok,I.os,I.bare,I.base,let ⟨m,hn,hl'⟩:=I.loc;⟨m,hn,fun i x v e1 e2 e3=>hl' i x v e1 (w i v e2) e3⟩,I.cell,I.free,I.freeC,I.pin,I.hok,hl.trans I.len⟩
theorem Inv.pins_of {pins':List (Addr×Obj)}(I:Inv X pins σ H s) (h:∀ p∈pins',s.heap.get? p.1=some p.2/\H p.1=none/\p.1≠X.env.locals/\p.1 ∉ X.fs/\∀ v,p.2.data≠.cell v):Inv X pins' σ H s :=
 ⟨I.ok,I.os,I.bare,I.base,I.loc,I.cell,I.free,I.freeC,fun p hp=>(List.mem_append.mp hp).elim (fun z=>I.pin p (List.mem_append_left _ z)) (h p),I.hok,I.len⟩
theorem Lh {N:List Str}(hN:N.Nodup) {i j:Nat}{x:Str}(a:N[i]?=some x) (b:N[j]?=some x):i=j:=by
 obtain ⟨h1,e1⟩:=List.getElem?_eq_some_iff.mp a;obtain ⟨h2,e2⟩:=List.getElem?_eq_some_iff.mp b;exact (List.getElem_inj hN).mp (e1.trans e2.symm)
theorem Xz {M:Model}{A:Around}{E:Value->Shared->Prop}{i:Nat}{x:Str}{v:V}{u:Value}{Q:Unit->Shared->Prop}(I:Inv X pins σ H s) (hN:X.N.Nodup) (hi:X.N[i]?=some x) (hx:Loc X.env.scope x) (r:RelV v u)
  (h:∀ s',Inv X pins (σ.set i (some v)) H s'->(∃ a,Heap.SameBut a s.heap s'.heap/\(a=X.env.locals\/X.env.cells.lookup x=some a))->Q () s') (hf:X.fn x=true\/X.env.scope.names.lookup x=some .local:=by first | exact .inl rfl | exact .inr rfl | assumption):wpAny M A (storeName X.env x u) Q E s:=by
 obtain ⟨m,hn,hl⟩:=id I.loc;have hcls:(X.env.scope.kind==.class || (X.env.scope.kind==.module&&X.env.locals != X.env.globals))=false:=by rw [I.ok.kind];rfl
 have hiσ:i < σ.length:=by rw [I.len];exact (List.getElem?_eq_some_iff.mp hi).1
 have cne:=I.cne;have tracked:∀ {a:Addr} {h':Heap},(∃ o,s.heap.get? a=some o/\H a=none)->Heap.SameBut a s.heap h'->HOk X.prog X.w H h':=fun {a h'} ha hs b ob e=>by
  obtain ⟨_,_,hfree⟩:=ha;refine (I.hok b ob e).stay (fun c w' hc q=>(hs.2 c ?_).trans q) (fun _ q=>q) fun _ _ q=>q
  rintro rfl;rcases hc with rfl|hc
  ·rw [hfree] at e;cases e
  ·rw [hfree] at hc;cases hc
 rcases hx with hk|hk
 ·refine wpAny_storeName_local hk hn (fun h' hn' hs=>?_) hcls;obtain ⟨oL,_,_,hoL,_⟩:=id hn;refine h _ ⟨I.ok,I.os,I.bare,⟨fun b o e n hb hx=>?_,fun b o e n hb hx=>?_,I.base.free,fun b o e hx=>?_,I.base.tups,I.base.frzs,I.base.tbls⟩,⟨_,hn',fun j y v' e1 e2 e3=>?_⟩,fun y c e=>?_,I.free,I.freeC,fun p hp=>?_,tracked ⟨oL,hoL,I.free⟩ hs,by simpa using I.len⟩ ⟨_,hs,.inl rfl⟩
  ·exact (hs.2 b (Nat.ne_of_lt (Nat.lt_of_lt_of_le (Heap.lt_size e) I.ok.above))).trans (I.base.keep b o e n hb hx)
  ·obtain ⟨sl,e1⟩:=I.base.slot b o e n hb hx;exact ⟨sl,(hs.2 b (Nat.ne_of_lt (Nat.lt_of_lt_of_le (Heap.lt_size e) I.ok.above))).trans e1⟩
  ·obtain ⟨o',e1⟩:=I.base.there b o e hx;exact ⟨o',(hs.2 b (Nat.ne_of_lt (Nat.lt_of_lt_of_le (Heap.lt_size e) I.ok.above))).trans e1⟩
  ·by_cases hj:j=i
   ·subst hj;rw [hi] at e1;cases e1;rw [List.getElem?_set_self hiσ] at e2;cases e2;exact ⟨u,r,.inl ⟨hk,by simp⟩⟩
   ·rw [List.getElem?_set_ne (Ne.symm hj)] at e2;obtain ⟨u',r',q⟩:=hl j y v' e1 e2 e3;refine ⟨u',r',?_⟩;rcases q with ⟨k,e⟩|⟨k,c,e,z⟩
    ·refine .inl ⟨k,?_⟩;have:y≠x:=fun e=>hj (Lh hN e1 (e ▸ hi))
     simp [this,e]
    ·exact .inr ⟨k,c,e,z.sameBut hs (cne y c e)⟩
  ·obtain ⟨w',z⟩:=I.cell y c e;exact ⟨w',z.sameBut hs (cne y c e)⟩
  ·obtain ⟨e,n,ne,nf,d⟩:=I.pin p hp;exact ⟨(hs.2 p.1 ne).trans e,n,ne,nf,d⟩
 ·have hfn:X.fn x=true:=by
   rcases hf with z|z
   ·exact z
   ·rw [z] at hk;cases hk
  obtain ⟨c,hc⟩:=I.ok.has x (.inl hk);obtain ⟨w',z⟩:=I.cell x c hc;refine wpAny_storeName_cell I.ok.kind hk hc z (fun h' hc' hs=>?_);obtain ⟨oc,hoc,hocd⟩:=id z;refine h { s with heap:=h' } ⟨I.ok,I.os,I.bare,⟨fun b o e n hb hx=>?_,fun b o e n hb hx=>?_,I.base.free,fun b o e hx=>?_,I.base.tups,I.base.frzs,I.base.tbls⟩,⟨m,hn.sameBut hs (Ne.symm (cne x c hc)),fun j y v' e1 e2 e3=>?_⟩,fun y c' e=>?_,I.free,I.freeC,fun p hp=>?_,tracked ⟨oc,hoc,I.freeC x c hc⟩ hs,by simpa using I.len⟩ ⟨c,hs,.inr hc⟩
  ·exact (hs.2 b (Nat.ne_of_lt (Nat.lt_of_lt_of_le (Heap.lt_size e) (I.ok.cab x c hfn hc)))).trans (I.base.keep b o e n hb hx)
  ·obtain ⟨sl,e1⟩:=I.base.slot b o e n hb hx;exact ⟨sl,(hs.2 b (Nat.ne_of_lt (Nat.lt_of_lt_of_le (Heap.lt_size e) (I.ok.cab x c hfn hc)))).trans e1⟩
  ·obtain ⟨o',e1⟩:=I.base.there b o e hx;exact ⟨o',(hs.2 b (Nat.ne_of_lt (Nat.lt_of_lt_of_le (Heap.lt_size e) (I.ok.cab x c hfn hc)))).trans e1⟩
  ·by_cases hj:j=i
   ·subst hj;rw [hi] at e1;cases e1;rw [List.getElem?_set_self hiσ] at e2;cases e2;exact ⟨u,r,.inr ⟨.inl hk,c,hc,hc'⟩⟩
   ·rw [List.getElem?_set_ne (Ne.symm hj)] at e2;obtain ⟨u',r',q⟩:=hl j y v' e1 e2 e3;refine ⟨u',r',?_⟩;rcases q with q|⟨k,c',e,z'⟩
    ·exact .inl q
    ·refine .inr ⟨k,c',e,z'.sameBut hs ?_⟩;rintro rfl;exact hj (Lh hN e1 (I.ok.inj _ _ _ e hc ▸ hi))
  ·by_cases hcc:c'=c
   ·subst hcc;exact ⟨_,hc'⟩
   ·obtain ⟨w2,z2⟩:=I.cell y c' e;exact ⟨w2,z2.sameBut hs hcc⟩
  ·obtain ⟨e,n,ne,nf,d⟩:=I.pin p hp;refine ⟨(hs.2 p.1 ?_).trans e,n,ne,nf,d⟩;intro q;rw [q,hoc] at e;have q':oc=p.2:=Option.some.inj e;exact d w' (by rw [← q'];exact hocd)
theorem Hz {M:Model}{A:Around}{E:Value->Shared->Prop}{i:Nat}{x:Str}{v:V}{u:Value}{Q:Unit->Shared->Prop}(I:Inv X pins σ H s) (hN:X.N.Nodup) (hi:X.N[i]?=some x) (hx:Loc X.env.scope x) (r:RelV v u)
  (h:∀ s',Inv X pins (σ.set i (some v)) H s'->Q () s') (hf:X.fn x=true\/X.env.scope.names.lookup x=some .local:=by first | exact .inl rfl | exact .inr rfl | assumption):wpAny M A (storeName X.env x u) Q E s :=
 Xz I hN hi hx r (fun s' I' _=>h s' I') hf
theorem Inv.call' {s':Shared}{ch:List Addr}(I:Inv X pins σ H s) (ho:s'.os=s.os) (u:Un (frs X.stack) ch H H' s.heap s'.heap) (hok:HOk X.prog X.w H' s'.heap) (hg:AllBare s'.gens)
  (hch:∀ b∈ch,(b∈X.ex\/X.s₀.heap.objs.size<=b)/\b≠X.env.locals/\(∀ x c,X.env.cells.lookup x=some c->c≠b)/\∀ p∈X.pn++pins,p.1≠b):Inv X pins σ H' s':=by
 obtain ⟨h',g',d',t',o'⟩:=s';have e:o'=s.os:=ho;subst e;exact I.call (g':=g') (t':=t') (d':=d') u hok hg hch
end
noncomputable abbrev XK:=Value->Option Addr->Hp->Prop
noncomputable abbrev St:=List (Option V)
noncomputable abbrev VK:=V->Hp->Prop
noncomputable abbrev TE:=St->Hp->VK->Prop
noncomputable abbrev TT:=St->Hp->(Bool->Hp->Prop)->Prop
noncomputable abbrev TA:=St->Hp->(List V->Hp->Prop)->Prop
structure Ends where
 nx:St->Hp->Prop
 rt:VK
 bk:St->Hp->Prop:=fun _ _=>False
 ct:St->Hp->Prop:=fun _ _=>False
noncomputable abbrev TS:=Ends->St->Hp->Prop
noncomputable def EP (X:Cx) (pins:List (Addr×Obj)) (σ:St) (Q:VK) (u:Value) (s':Shared):Prop:=∃ v H',Inv X pins σ H' s'/\RelV v u/\Q v H'
noncomputable def TP (X:Cx) (pins:List (Addr×Obj)) (σ:St) (Q:Bool->Hp->Prop) (b:Bool) (s':Shared):Prop:=∃ H',Inv X pins σ H' s'/\Q b H'
noncomputable def AP (X:Cx) (pins:List (Addr×Obj)) (σ:St) (Q:List V->Hp->Prop) (us:List Value) (s':Shared):Prop:=∃ vs H',Inv X pins σ H' s'/\Vals vs us/\Q vs H'
noncomputable def SP (X:Cx) (pins:List (Addr×Obj)) (D:Ends) (f:Flow) (s':Shared):Prop :=
 match f with
 | .next=>∃ σ' H',Inv X pins σ' H' s'/\D.nx σ' H'
 | .brk=>∃ σ' H',Inv X pins σ' H' s'/\D.bk σ' H'
 | .cont=>∃ σ' H',Inv X pins σ' H' s'/\D.ct σ' H'
 | .ret u=>∃ v σ' H',Inv X pins σ' H' s'/\RelV v u/\D.rt v H'
noncomputable def PE (X:Cx) (e:Expr) (t:TE):Prop :=
 ∀ (pins:List (Addr×Obj)) (s:Shared) (σ:St) (H:Hp) (Q:VK),Inv X pins σ H s->t σ H Q->wpAny (model X.prog X.w) X.A (eval e X.env) (EP X pins σ Q) X.xe s
noncomputable def PT (X:Cx) (e:Expr) (t:TT):Prop :=
 ∀ (pins:List (Addr×Obj)) (s:Shared) (σ:St) (H:Hp) (Q:Bool->Hp->Prop),Inv X pins σ H s->t σ H Q->wpAny (model X.prog X.w) X.A (isTrue e X.env (eval e X.env)) (TP X pins σ Q) X.xe s
noncomputable def PW (X:Cx) (e:Expr) (t:TT):Prop :=
 ∀ (whole:Sem Value) (pins:List (Addr×Obj)) (s:Shared) (σ:St) (H:Hp) (Q:Bool->Hp->Prop),Inv X pins σ H s->t σ H Q->wpAny (model X.prog X.w) X.A (isTrue e X.env whole) (TP X pins σ Q) X.xe s
theorem PW.pt {X:Cx}{e:Expr}{t:TT}(h:PW X e t):PT X e t:=h _
noncomputable def PA (X:Cx) (es:List Expr) (t:TA):Prop :=
 ∀ (pos:Pos) (pins:List (Addr×Obj)) (s:Shared) (σ:St) (H:Hp) (Q:List V->Hp->Prop),Inv X pins σ H s->t σ H Q->wpAny (model X.prog X.w) X.A (spliced (backTo pos (starEach es X.env))) (AP X pins σ Q) X.xe s
noncomputable def PS (X:Cx) (st:Stmt) (t:TS):Prop :=
 ∀ (pins:List (Addr×Obj)) (s:Shared) (σ:St) (H:Hp) (D:Ends),Inv X pins σ H s->t D σ H->wpAny (model X.prog X.w) X.A (exec st X.env) (SP X pins D) X.xe s
noncomputable def PSs (X:Cx) (st:List Stmt) (t:TS):Prop :=
 ∀ (pins:List (Addr×Obj)) (s:Shared) (σ:St) (H:Hp) (D:Ends),Inv X pins σ H s->t D σ H->wpAny (model X.prog X.w) X.A (execs st X.env) (SP X pins D) X.xe s
theorem thn {α:Type}{t:Sem α}{Q Q':α->Shared->Prop}{M:Model}{A:Around}{E:Value->Shared->Prop}{s:Shared}(h:wpAny M A t Q E s) (hQ:∀ a s,Q a s->Q' a s):wpAny M A t Q' E s:=wpAny_mono h hQ fun _ _ x=>x
section
variable {X:Cx}
noncomputable def xQ (i:Nat):TE:=fun σ H Q=>∃ v,σ[i]?=some (some v)/\Q v H
noncomputable def tC (v:V):TE:=fun _ H Q=>Q v H
theorem Uu {i:Nat}{x:Str}{pos:Pos}(hN:X.N[i]?=some x) (hv:Vis X.env.scope x) (hd:(x==("__debug__":Str))=false:=by decide) (hcd:(x==("__classdict__":Str))=false:=by decide):PE X (.Name x pos) (xQ i):=by
 intro pins s σ H Q I h;obtain ⟨v,e,h⟩:=h;obtain ⟨m,hn,hl⟩:=I.loc;obtain ⟨u,r,l⟩:=hl i x v hN e hv;have fin:EP X pins σ Q u s:=⟨v,H,I,r,h⟩;rcases l with ⟨hk,hm⟩|⟨hk,c,hc,hcell⟩
 ·exact wpAny_Name (wpAny_loadName_local I.ok.kind hk hn hm fin) hd
 ·rcases hk with hk|hk
  ·exact wpAny_Name (wpAny_loadName_cell I.ok.kind hk hc hcell fin) hd
  ·exact wpAny_Name (wpAny_loadName_free I.ok.kind hk hc hcell fin hcd) hd
theorem qW {i j pos}:PE X (.Constant (.int i) j pos) (tC (.int i)):=fun _ _ _ H _ I h=>wpAny_Constant_int ⟨.int i,H,I.tok _,⟨_,rfl⟩,h⟩
theorem xR {b j pos}:PE X (.Constant (.bool b) j pos) (tC (.bl b)):=fun _ _ _ H _ I h=>Constant_bool ⟨.bl b,H,I,rfl,h⟩
theorem qX {j pos}:PE X (.Constant .none j pos) (tC .non):=fun _ _ _ H _ I h=>Constant_none ⟨.non,H,I,rfl,h⟩
theorem qY {x j pos}:PE X (.Constant (.str x) j pos) (tC (.str x)):=fun _ _ _ H _ I h=>Calls.Constant_str ⟨.str x,H,I.tok _,⟨_,rfl⟩,h⟩
noncomputable def Gl (X:Cx) (x:Str):Prop:=X.env.kindOf x=some .globalImplicit
theorem Gv {E:Value->Shared->Prop}{pins:List (Addr×Obj)}{s:Shared}{σ:St}{H:Hp}{x:Str}{u:Value}{pos:Pos}{Q:Value->Shared->Prop}(I:Inv X pins σ H s) (hg:Gl X x) (hm:X.mg x=some u) (h:Q u s)
  (hd:(x==("__debug__":Str))=false:=by decide):wpAny (model X.prog X.w) X.A (eval (.Name x pos) X.env) Q E s :=
 Calls.Name_function_global I.ok.kind hg (Calls.loadGlobal_global (by rw [I.ok.glob];exact I.mod.glob.keeps I.bk) hm h) hd
theorem Pq {E:Value->Shared->Prop}{pins:List (Addr×Obj)}{s:Shared}{σ:St}{H:Hp}{x:Str}{u:Value}{pos:Pos}{Q:Value->Shared->Prop}(I:Inv X pins σ H s) (hg:Gl X x) (hm:X.mg x=none) (hv:bootBuiltins x=some u) (h:Q u s)
  (hn:x ≠ "__name__":=by decide) (hd:(x==("__debug__":Str))=false:=by decide):wpAny (model X.prog X.w) X.A (eval (.Name x pos) X.env) Q E s:=by
 obtain ⟨mb,h1,h2⟩:=I.mod.blt;exact Calls.Name_function_global I.ok.kind hg (Calls.loadGlobal_builtin (by rw [I.ok.glob];exact I.mod.glob.keeps I.bk) hm (by rw [I.ok.blt];exact h1.keeps I.bk) ((h2 x hn).trans hv) h) hd
theorem Fo {x:Str}{v:V}{u:Value}{pos:Pos}(hg:Gl X x) (hm:X.mg x=some u) (r:RelV v u) (hd:(x==("__debug__":Str))=false:=by decide):PE X (.Name x pos) (tC v) :=
 fun _ _ _ H _ I h=>Gv I hg hm ⟨v,H,I,r,h⟩ hd
theorem Ku {x:Str}{v:V}{u:Value}{pos:Pos}(hg:Gl X x) (hm:X.mg x=none) (hv:bootBuiltins x=some u) (r:RelV v u) (hn:x ≠ "__name__":=by decide) (hd:(x==("__debug__":Str))=false:=by decide):PE X (.Name x pos) (tC v) :=
 fun _ _ _ H _ I h=>Pq I hg hm hv ⟨v,H,I,r,h⟩ hn hd
variable {a b:Expr}{ta tb:TE}{pos:Pos}
theorem RelV.none_iff {x:V}{v:Value}(r:RelV x v):(v==Value.none)=decide (x=.non):=by
 cases x with
 | non=>cases r;rfl
 | bl _=>cases r;rfl
 | int _=>obtain ⟨t,rfl⟩:=r;rfl
 | str _=>obtain ⟨t,rfl⟩:=r;rfl
 | byt _=>obtain ⟨t,rfl⟩:=r;rfl
 | flt _=>obtain ⟨t,rfl⟩:=r;rfl
 | ref _=>cases r;rfl
 | ty _=>cases r;rfl
variable {tA tB':TT}{rest:List Expr}
noncomputable def Aar (t u:TT):TT:=fun σ H Q=>t σ H fun c H1=>if c=true then u σ H1 Q else Q false H1
noncomputable def tOr (t u:TT):TT:=fun σ H Q=>t σ H fun c H1=>if c=true then Q true H1 else u σ H1 Q
noncomputable def Aas (t:TT):TT:=fun σ H Q=>t σ H fun c H1=>Q (!c) H1
theorem jJ (ha:PT X a tA):PW X (.BoolOp .And [a] pos) tA:=by
 intro wh pins s σ H Q I h;refine isTrue_and (thn (ha pins s σ H Q I h) fun c s1 e=>?_);cases c with
 | true=>exact isTrue_and_nil e
 | false=>exact e
theorem qZ (ha:PT X a tA):PW X (.BoolOp .Or [a] pos) tA:=by
 intro wh pins s σ H Q I h;refine isTrue_or (thn (ha pins s σ H Q I h) fun c s1 e=>?_);cases c with
 | false=>exact isTrue_or_nil e
 | true=>exact e
theorem rA (ha:PT X a tA) (hb:PW X (.BoolOp .And (b::rest) pos) tB'):PW X (.BoolOp .And (a::b::rest) pos) (Aar tA tB'):=by
 intro wh pins s σ H Q I h;refine isTrue_and (thn (ha pins s σ H _ I h) ?_);rintro c s1 ⟨H1,I1,q1⟩;cases c with
 | true=>exact hb wh pins s1 σ H1 Q I1 q1
 | false=>exact ⟨H1,I1,q1⟩
theorem xT (ha:PT X a tA) (hb:PW X (.BoolOp .Or (b::rest) pos) tB'):PW X (.BoolOp .Or (a::b::rest) pos) (tOr tA tB'):=by
 intro wh pins s σ H Q I h;refine isTrue_or (thn (ha pins s σ H _ I h) ?_);rintro c s1 ⟨H1,I1,q1⟩;cases c with
 | true=>exact ⟨H1,I1,q1⟩
 | false=>exact hb wh pins s1 σ H1 Q I1 q1
theorem rB (ha:PT X a tA):PT X (.UnaryOp .Not a pos) (Aas tA):=by
 intro pins s σ H Q I h;exact isTrue_not (ha pins s σ H (fun c H1=>Q (!c) H1) I h)
noncomputable def xU (ta tb:TE):TE:=fun σ H Q=>ta σ H fun x H1=>∃ c,x=.bl c/\if c=true then tb σ H1 Q else Q (.bl false) H1
noncomputable def Aat (ta tb:TE):TE:=fun σ H Q=>ta σ H fun x H1=>∃ c,x=.bl c/\if c=true then Q (.bl true) H1 else tb σ H1 Q
noncomputable def xV (ta:TE):TE:=fun σ H Q=>ta σ H fun x H1=>∃ c,x=.bl c/\Q (.bl (!c)) H1
theorem Z1 {op}{t:TE}(h:PE X a t):PE X (.BoolOp op [a] pos) t:=fun pins s σ H Q I hw=>BoolOp_one (h pins s σ H Q I hw)
theorem Uv (ha:PE X a ta) (hb:PE X (.BoolOp .And (b::rest) pos) tb):PE X (.BoolOp .And (a::b::rest) pos) (xU ta tb):=by
 intro pins s σ H Q I h;refine BoolOp_and (thn (ha pins s σ H _ I h) ?_);rintro v s1 ⟨x,H1,I1,r1,q1⟩;obtain ⟨c,rfl,q1⟩:=q1;cases r1;refine wpAny_truthy_bool ?_;cases c with
 | true=>exact hb pins s1 σ H1 Q I1 q1
 | false=>exact ⟨.bl false,H1,I1,rfl,q1⟩
theorem xW (ha:PE X a ta) (hb:PE X (.BoolOp .Or (b::rest) pos) tb):PE X (.BoolOp .Or (a::b::rest) pos) (Aat ta tb):=by
 intro pins s σ H Q I h;refine BoolOp_or (thn (ha pins s σ H _ I h) ?_);rintro v s1 ⟨x,H1,I1,r1,q1⟩;obtain ⟨c,rfl,q1⟩:=q1;cases r1;refine wpAny_truthy_bool ?_;cases c with
 | false=>exact hb pins s1 σ H1 Q I1 q1
 | true=>exact ⟨.bl true,H1,I1,rfl,q1⟩
theorem Z2 (ha:PE X a ta):PE X (.UnaryOp .Not a pos) (xV ta):=by
 intro pins s σ H Q I h;refine UnaryOp_ (thn (ha pins s σ H _ I h) ?_);rintro v s1 ⟨x,H1,I1,r1,q1⟩;obtain ⟨c,rfl,q1⟩:=q1;cases r1;exact not_of (wpAny_truthy_bool ⟨.bl (!c),H1,I1,rfl,q1⟩)
noncomputable def tIf (t:TT) (ta tb:TE):TE:=fun σ H Q=>t σ H fun c H1=>if c=true then ta σ H1 Q else tb σ H1 Q
theorem Z3 {c:Expr}(hc:PT X c tA) (ha:PE X a ta) (hb:PE X b tb):PE X (.IfExp c a b pos) (tIf tA ta tb):=by
 intro pins s σ H Q I h;refine wpAny_IfExp (thn (hc pins s σ H _ I h) ?_);rintro d s1 ⟨H1,I1,q1⟩;cases d with
 | true=>exact ha pins s1 σ H1 Q I1 q1
 | false=>exact hb pins s1 σ H1 Q I1 q1
end
noncomputable def SqL (K:PySem.W.Frag) (H:Hp) (a:Addr) (xs:List V):Prop :=
 Rd H a (.lst xs) \/
  ∃ (o:Obj) (its:Array Value) (n:Nat),K.lookup a=some o/\o.cls=.type "list"/\o.dict=none/\o.data=.seq its n/\its.size<=sizeLine/\Vals xs its.toList
noncomputable def SqT (K:PySem.W.Frag) (H:Hp) (a:Addr) (xs:List V):Prop :=
 Rd H a (.tup xs) \/
  ∃ (o:Obj) (its:Array Value) (n:Nat),K.lookup a=some o/\o.cls=.type "tuple"/\o.dict=none/\o.data=.seq its n/\its.size<=sizeLine/\Vals xs its.toList
noncomputable def Aau:Value->Option V
 | .none=>some .non
 | .bool b=>some (.bl b)
 | .int i _=>some (.int i)
 | .str x _=>some (.str x)
 | .bytes b _=>some (.byt b)
 | .float b _=>some (.flt b)
 | .ref a=>some (.ref a)
 | .type n=>some (.ty n)
 | _=>none
theorem RelV.abs {x:V}{u:Value}(r:RelV x u):Aau u=some x:=by
 cases x with
 | non=>cases r;rfl
 | bl _=>cases r;rfl
 | int _=>obtain ⟨t,rfl⟩:=r;rfl
 | str _=>obtain ⟨t,rfl⟩:=r;rfl
 | byt _=>obtain ⟨t,rfl⟩:=r;rfl
 | flt _=>obtain ⟨t,rfl⟩:=r;rfl
 | ref _=>cases r;rfl
 | ty _=>cases r;rfl
theorem RelV.inj {x y:V}{u:Value}(r:RelV x u) (q:RelV y u):x=y:=Option.some.inj (r.abs.symm.trans q.abs)
theorem Vals.inj {xs ys:List V}{us:List Value}(a:Vals xs us) (b:Vals ys us):xs=ys:=by
 induction a generalizing ys with
 | nil=>cases b;rfl
 | cons r t ih =>
  cases b with
  | cons r' t'=>rw [r.inj r',ih t']
section
variable {X:Cx}{pins:List (Addr×Obj)}{σ:St}{H:Hp}{s:Shared}{a:Addr}{xs ys:List V}
theorem Inv.list (I:Inv X pins σ H s) (h:SqL X.K H a xs):∃ its:List Value,Vals xs its/\PlainL s.heap a its.toArray/\xs.length<=sizeLine:=by
 rcases h with h|⟨o,its,n,hk,hc,hd,hs,hz,r⟩
 ·obtain ⟨z,its,n,r,e⟩:=h.ok I.hok;exact ⟨its,r,⟨_,n,e,rfl,rfl,rfl⟩,z⟩
 ·refine ⟨its.toList,r,⟨o,n,I.kIn a o hk,hc,hd,by simpa using hs⟩,?_⟩;have e:=r.length;simp only [Array.length_toList] at e;omega
theorem Inv.tuple (I:Inv X pins σ H s) (h:SqT X.K H a xs):∃ its:List Value,Vals xs its/\IsTup s.heap a its.toArray/\xs.length<=sizeLine:=by
 rcases h with h|⟨o,its,n,hk,hc,hd,hs,hz,r⟩
 ·obtain ⟨z,its,r,p⟩:=h.ok I.hok;exact ⟨its,r,p.to,z⟩
 ·refine ⟨its.toList,r,⟨o,I.kIn a o hk,hc,n,by simpa using hs⟩,?_⟩;have e:=r.length;simp only [Array.length_toList] at e;omega
theorem Inv.tupleP (I:Inv X pins σ H s) (h:SqT X.K H a xs):∃ its:List Value,Vals xs its/\Nv s.heap a its.toArray/\xs.length<=sizeLine:=by
 rcases h with h|⟨o,its,n,hk,hc,hd,hs,hz,r⟩
 ·obtain ⟨z,its,r,p⟩:=h.ok I.hok;exact ⟨its,r,p,z⟩
 ·refine ⟨its.toList,r,⟨o,I.kIn a o hk,hc,hd,n,by simpa using hs⟩,?_⟩;have e:=r.length;simp only [Array.length_toList] at e;omega
theorem Inv.list_inj (I:Inv X pins σ H s) (h:SqL X.K H a xs) (h':SqL X.K H a ys):xs=ys:=by
 obtain ⟨its,r,⟨o,n,e,_,_,d⟩,_⟩:=I.list h;obtain ⟨its',r',⟨o',n',e',_,_,d'⟩,_⟩:=I.list h';rw [e] at e';cases e';rw [d] at d';injection d' with d1 _
 have:its=its':=by simpa using congrArg Array.toList d1
 subst this;exact r.inj r'
theorem Inv.tuple_inj (I:Inv X pins σ H s) (h:SqT X.K H a xs) (h':SqT X.K H a ys):xs=ys:=by
 obtain ⟨its,r,⟨o,e,_,n,d⟩,_⟩:=I.tuple h;obtain ⟨its',r',⟨o',e',_,n',d'⟩,_⟩:=I.tuple h';rw [e] at e';cases e';rw [d] at d';injection d' with d1 _
 have:its=its':=by simpa using congrArg Array.toList d1
 subst this;exact r.inj r'
end
noncomputable abbrev Cx.wish (X:Cx) (E:Value->Shared->Prop):Cx:={ X with xe:=E }
noncomputable abbrev Cx.nox (X:Cx):Cx:=X.wish fun _ _=>False
theorem Cx.Ok.wish {X:Cx}(ok:X.Ok) (E:Value->Shared->Prop):(X.wish E).Ok :=
 ⟨ok.mod,ok.kind,ok.glob,ok.blt,ok.above,ok.inj,ok.has,ok.cab,ok.hd,ok.frames,ok.stk,ok.exf,ok.bs,ok.bsz,ok.noex,ok.exfs,ok.funs,ok.frf⟩
theorem Cx.Ok.unwish {X:Cx}{E:Value->Shared->Prop}(ok:(X.wish E).Ok):X.Ok :=
 ⟨ok.mod,ok.kind,ok.glob,ok.blt,ok.above,ok.inj,ok.has,ok.cab,ok.hd,ok.frames,ok.stk,ok.exf,ok.bs,ok.bsz,ok.noex,ok.exfs,ok.funs,ok.frf⟩
section
variable {X:Cx}{pins:List (Addr×Obj)}{σ:St}{H:Hp}{s:Shared}{E:Value->Shared->Prop}
theorem Inv.wish (I:Inv X pins σ H s) (E:Value->Shared->Prop):Inv (X.wish E) pins σ H s:=⟨I.ok.wish E,I.os,I.bare,I.base,I.loc,I.cell,I.free,I.freeC,I.pin,I.hok,I.len⟩
theorem Inv.unwish (I:Inv (X.wish E) pins σ H s):Inv X pins σ H s:=⟨I.ok.unwish,I.os,I.bare,I.base,I.loc,I.cell,I.free,I.freeC,I.pin,I.hok,I.len⟩
theorem SP.unwish {D:Ends}{f:Flow}{s':Shared}(h:SP (X.wish E) pins D f s'):SP X pins D f s':=by
 cases f with
 | next=>obtain ⟨σ',H',I,q⟩:=h;exact ⟨σ',H',I.unwish,q⟩
 | brk=>obtain ⟨σ',H',I,q⟩:=h;exact ⟨σ',H',I.unwish,q⟩
 | cont=>obtain ⟨σ',H',I,q⟩:=h;exact ⟨σ',H',I.unwish,q⟩
 | ret u=>obtain ⟨v,σ',H',I,r,q⟩:=h;exact ⟨v,σ',H',I.unwish,r,q⟩
theorem PE.nox {e:Expr}{t:TE}(h:PE X.nox e t):PE X e t:=fun pins s σ H Q I hw =>
 wpAny_mono (h pins s σ H Q (I.wish _) hw) (fun _ _ ⟨v,H',I',r,q⟩=>⟨v,H',I'.unwish,r,q⟩) fun _ _ z=>False.elim z
theorem PT.nox {e:Expr}{t:TT}(h:PT X.nox e t):PT X e t:=fun pins s σ H Q I hw =>
 wpAny_mono (h pins s σ H Q (I.wish _) hw) (fun _ _ ⟨H',I',q⟩=>⟨H',I'.unwish,q⟩) fun _ _ z=>False.elim z
theorem PSs.nox {st:List Stmt}{t:TS}(h:PSs X.nox st t):PSs X st t:=fun pins s σ H D I hw =>
 wpAny_mono (h pins s σ H D (I.wish _) hw) (fun _ _ q=>q.unwish) fun _ _ z=>False.elim z
end
section
variable {X:Cx}{st:Stmt}{rest:List Stmt}{t u:TS}{e:Expr}{te:TE}{pos:Pos}
noncomputable def pH:TS:=fun D σ H=>D.nx σ H
noncomputable def Aav (t u:TS):TS:=fun D σ H=>t { D with nx:=u D } σ H
theorem Wm:PSs X [] pH:=fun _ _ σ H _ I h=>wpAny_execs_nil ⟨σ,H,I,h⟩
theorem Cy (h1:PS X st t) (h2:PSs X rest u):PSs X (st::rest) (Aav t u):=by
 intro pins s σ H D I h;refine wpAny_execs_cons (thn (h1 pins s σ H { D with nx:=u D } I h) fun f s1 q=>?_);cases f with
 | next =>
  obtain ⟨σ',H',I',q⟩:=q;exact h2 pins s1 σ' H' D I' q
 | ret v=>exact q
 | brk=>exact q
 | cont=>exact q
noncomputable def rC:TS:=fun D σ H=>D.bk σ H
noncomputable def xX:TS:=fun D σ H=>D.ct σ H
theorem jK:PS X (.Pass pos) pH:=fun _ _ σ H _ I h=>wpAny_Pass ⟨σ,H,I,h⟩
theorem Z4:PS X (.Break pos) rC:=fun _ _ σ H _ I h=>wpAny_Break ⟨σ,H,I,h⟩
theorem Rx:PS X (.Continue pos) xX:=fun _ _ σ H _ I h=>wpAny_Continue ⟨σ,H,I,h⟩
theorem Inv.quiet {pins:List (Addr×Obj)}{σ:St}{H:Hp}{s:Shared}(I:Inv X pins σ H s):interactive X.env=false:=by simp [interactive,I.ok.kind]
noncomputable def xY (te:TE):TS:=fun D σ H=>te σ H fun _ H1=>D.nx σ H1
theorem Pr (he:PE X e te) (hs:swapsWith e none pos.line X.env=pure false:=by rfl):PS X (.Expr e pos) (xY te):=by
 intro pins s σ H D I h;exact wpAny_Expr_any (thn (he pins s σ H _ I h) fun v s1 ⟨x,H1,I1,r1,q1⟩=>⟨σ,H1,I1,q1⟩) I.quiet hs
noncomputable def Aaw (te:TE):TS:=fun D σ H=>te σ H D.rt
theorem Z5 (he:PE X e te):PS X (.Return (some e) pos) (Aaw te):=by
 intro pins s σ H D I h;refine wpAny_Return_some (thn (he pins s σ H _ I h) ?_);rintro v s1 ⟨x,H1,I1,r1,q1⟩;exact ⟨x,σ,H1,I1,r1,q1⟩
noncomputable def xZ:TS:=fun D _ H=>D.rt .non H
theorem jL:PS X (.Return none pos) xZ:=fun _ _ σ H _ I h=>wpAny_Return_none ⟨.non,σ,H,I,rfl,h⟩
noncomputable def Aax (c:TT) (t u:TS):TS:=fun D σ H=>c σ H fun b H1=>if b=true then t D σ H1 else u D σ H1
theorem pI {c:Expr}{a b:List Stmt}{tc:TT}(hc:PT X c tc) (ha:PSs X a t) (hb:PSs X b u):PS X (.If c a b pos) (Aax tc t u):=by
 intro pins s σ H D I h;refine wpAny_If (thn (hc pins s σ H _ I h) ?_);rintro d s1 ⟨H1,I1,q1⟩;cases d with
 | true=>exact ha pins s1 σ H1 D I1 q1
 | false=>exact hb pins s1 σ H1 D I1 q1
end
noncomputable abbrev TG:=V->St->Hp->(St->Hp->Prop)->Prop
noncomputable abbrev TGs:=List V->St->Hp->(St->Hp->Prop)->Prop
noncomputable def PG (X:Cx) (target:Expr) (t:TG):Prop :=
 ∀ (pins:List (Addr×Obj)) (s:Shared) (σ:St) (H:Hp) (v:V) (u:Value) (Q:St->Hp->Prop),Inv X pins σ H s->RelV v u->t v σ H Q ->
  wpAny (model X.prog X.w) X.A (assign target X.env u) (fun _ s'=>∃ σ' H',Inv X pins σ' H' s'/\Q σ' H') X.xe s
noncomputable def PGs (X:Cx) (ts:List Expr) (t:TGs):Prop :=
 ∀ (pins:List (Addr×Obj)) (s:Shared) (σ:St) (H:Hp) (vs:List V) (us:List Value) (Q:St->Hp->Prop),Inv X pins σ H s->Vals vs us->t vs σ H Q ->
  wpAny (model X.prog X.w) X.A (assignInOrder ((assignEach ts X.env).map (·.2)) us) (fun _ s'=>∃ σ' H',Inv X pins σ' H' s'/\Q σ' H') X.xe s
noncomputable abbrev rE:=V->V->V->Hp->(Hp->Prop)->Prop
noncomputable def yC (X:Cx) (t:rE):Prop :=
 ∀ (pins:List (Addr×Obj)) (s:Shared) (σ:St) (H:Hp) (o i v:V) (ov iv u:Value) (Q:Hp->Prop),Inv X pins σ H s->RelV o ov->RelV i iv->RelV v u->t o i v H Q ->
  wpAny (model X.prog X.w) X.A (setItem ov iv u) (fun _ s'=>∃ H',Inv X pins σ H' s'/\Q H') X.xe s
section
variable {X:Cx}{pos:Pos}
noncomputable def Ry (i:Nat):TG:=fun v σ H Q=>Q (σ.set i (some v)) H
theorem Kv {i:Nat}{x:Str}(hN:X.N.Nodup) (hi:X.N[i]?=some x) (hx:Loc X.env.scope x) (hf:X.fn x=true\/X.env.scope.names.lookup x=some .local:=by first | exact .inl rfl | exact .inr rfl | assumption):PG X (.Name x pos) (Ry i):=by
 intro pins s σ H v u Q I r h;exact wpAny_assign_Name (Hz I hN hi hx r (fun s' I'=>⟨_,H,I',h⟩) hf)
noncomputable def yD:TGs:=fun vs σ H Q=>vs=[]/\Q σ H
noncomputable def pJ (t:TG) (u:TGs):TGs:=fun vs σ H Q=>∃ v r,vs=v::r/\t v σ H fun σ' H'=>u r σ' H' Q
theorem jM:PGs X [] yD:=by
 intro pins s σ H vs us Q I r h;obtain ⟨e,h⟩:=h;subst e;cases r;exact assignInOrder_nil ⟨σ,H,I,h⟩
theorem Z6 {e:Expr}{es:List Expr}{t:TG}{u:TGs}(h1:PG X e t) (h2:PGs X es u)
  (hs:(assignEach (e::es) X.env).map (·.2)=assign e X.env::(assignEach es X.env).map (·.2):=by rfl):PGs X (e::es) (pJ t u):=by
 intro pins s σ H vs us Q I r h;obtain ⟨v,vr,e1,h⟩:=h;subst e1;cases r with
 | cons r rr =>
  rw [hs];refine assignInOrder_cons (thn (h1 pins s σ H _ _ _ I r h) ?_);rintro _ s1 ⟨σ1,H1,I1,q1⟩;exact h2 pins s1 σ1 H1 _ _ Q I1 rr q1
noncomputable def Aay (K:PySem.W.Frag) (n:Nat) (t:TGs):TG:=fun v σ H Q=>∃ a xs,v=.ref a/\SqT K H a xs/\xs.length=n/\t xs σ H Q
theorem rF {es:List Expr}{k:Nat}{t:TGs}{n:Nat}(hc:X.calm=true) (h:PGs X es t)
  (hn:(assignEach es X.env).length=n:=by rfl) (hst:(assignEach es X.env).findIdx? (·.1)=none:=by rfl):PG X (.Tuple es k pos) (Aay X.K n t):=by
 intro pins s σ H v u Q I r hw;obtain ⟨a,xs,e1,hq,hl,hw⟩:=hw;subst e1;cases r;obtain ⟨its,rv,ht,hz⟩:=I.tuple hq;refine assign_Tuple_tuple (I.ok.hd hc) ht (by simp [hn,← hl,rv.length]) hst fun h' hx=>?_
 have I1:Inv X pins σ H { s with heap:=h' }:=I.kept (t':=s.toks) fun b o e=>hx b o (Nat.ne_of_lt (Heap.lt_size e)) e
 exact h pins _ σ H xs _ Q I1 (by simpa using rv) hw
noncomputable def Aaz (to ti:TE) (t:rE):TG:=fun v σ H Q=>to σ H fun o H1=>ti σ H1 fun i H2=>t o i v H2 fun H3=>Q σ H3
theorem rG {o i:Expr}{to ti:TE}{t:rE}(ho:PE X o to) (hi:PE X i ti) (hs:yC X t)
  (ha:∀ v,assign (.Subscript o i pos) X.env v=(do
   let ov ← holding [v] (eval o X.env)
   let iv ← holding [v,ov] (eval i X.env)
   standAt pos
   holding [v,ov,iv] (setItem ov iv v)
   release [v,ov,iv] []):=by intro _;rfl):PG X (.Subscript o i pos) (Aaz to ti t):=by
 intro pins s σ H v u Q I r h;rw [ha];refine wpAny_bind (wpAny_holding (thn (ho pins s σ H _ I h) ?_));rintro ov s1 ⟨x,H1,I1,r1,q1⟩;refine wpAny_bind (wpAny_holding (thn (hi pins s1 σ H1 _ I1 q1) ?_));rintro iv s2 ⟨y,H2,I2,r2,q2⟩;refine wpAny_bind (wpAny_standAt (wpAny_bind (wpAny_holding (thn (hs pins s2 σ H2 x y v ov iv u _ I2 r1 r2 r q2) ?_))));rintro _ s3 ⟨H3,I3,q3⟩;exact wpAny_release ⟨σ,H3,I3,q3⟩
noncomputable def rH (te:TE) (g:TG):TS:=fun D σ H=>te σ H fun x H1=>g x σ H1 D.nx
theorem Li {tg e:Expr}{te:TE}{g:TG}(he:PE X e te) (hg:PG X tg g) (hs:swapsWithSole [tg] e pos.line X.env=pure false:=by rfl) (hw:swappedStores [tg] e X.env=pure none:=by rfl)
  (h1:(assignEach [tg] X.env).map (·.2)=[assign tg X.env]:=by rfl):PS X (.Assign [tg] e pos) (rH te g):=by
 intro pins s σ H D I h;refine wpAny_Assign_stores (thn (he pins s σ H _ I h) ?_) hs hw;rintro v s1 ⟨x,H1,I1,r1,q1⟩;rw [h1];exact thn (hg pins s1 σ H1 x v _ I1 r1 q1) fun _ s2 q=>q
noncomputable def Aa0 (i j:Nat) (ta:TA):TS:=fun D σ H=>ta σ H fun vs H1=>∃ v w,vs=[v,w]/\D.nx ((σ.set i (some v)).set j (some w)) H1
theorem rJ {i j:Nat}{x y:Str}{a b:Expr}{ta:TA}{px py pt:Pos}{kt k2 pt2}(hc:X.calm=true) (hN:X.N.Nodup) (hi:X.N[i]?=some x) (hj:X.N[j]?=some y) (hij:i≠j)
  (hx:X.env.scope.names.lookup x=some .local) (hy:X.env.scope.names.lookup y=some .local) (ha:PA X [a,b] ta)
  (hw:swappedStores [.Tuple [.Name x px,.Name y py] kt pt] (.Tuple [a,b] k2 pt2) X.env=pure (some [x,y]))
  (hs:swapsWithSole [.Tuple [.Name x px,.Name y py] kt pt] (.Tuple [a,b] k2 pt2) pos.line X.env=pure false:=by rfl) :
  PS X (.Assign [.Tuple [.Name x px,.Name y py] kt pt] (.Tuple [a,b] k2 pt2) pos) (Aa0 i j ta):=by
 intro pins s σ H D I h;rw [exec_Assign_arm];refine wpAny_bind (wpAny_standAt ?_);rw [hs];refine wpAny_bind (wpAny_pure ?_);rw [if_neg (by decide)];refine wpAny_bind (Tuple_ (thn (ha _ pins s σ H _ I h) ?_));rintro us s1 ⟨vs,H1,I1,r1,q1⟩;obtain ⟨v,w,e1,q1⟩:=q1;subst e1;obtain ⟨u1,u2,rfl,rv,rw'⟩:∃ u1 u2,us=[u1,u2]/\RelV v u1/\RelV w u2:=by
  cases r1 with
  | cons p q =>
   cases q with
   | cons p' q' =>
    cases q';exact ⟨_,_,rfl,p,p'⟩
 refine wpAny_newObj_type ?_ (by show 2<=sizeLine;decide)
 have I2:Inv X pins σ H1 { s1 with heap:=s1.heap.push { cls:=.type "tuple",data:=.seq [u1,u2].toArray } }:=I1.kept (t':=s1.toks) fun b o e=>Heap.get?_push_of_some _ e
 rw [hw];refine wpAny_bind (wpAny_pure ?_)
 show wpAny (model X.prog X.w) X.A (do rule "assign.swapped-stores";let items ← unpackItems (.ref s1.heap.objs.size) 2 none;assignInOrder [fun v=>bindName X.env y v,fun v=>bindName X.env x v] items.reverse;pure Flow.next) _ _ _;refine wpAny_bind (wpAny_rule (wpAny_bind (unpackItems_tuple (items:=#[u1,u2]) (I.ok.hd hc) (IsTup.new s1.heap _) fun h' hx'=>?_)));have I3:=I2.kept (h':=h') (t':=s1.toks) fun b o e=>hx' b o (Nat.ne_of_lt (Heap.lt_size e)) e
 show wpAny _ _ (assignInOrder [fun v=>bindName X.env y v,fun v=>bindName X.env x v] [u2,u1] >>= fun _=>pure Flow.next) _ _ _;refine wpAny_bind (assignInOrder_cons (wpAny_bindName (Hz I3 hN hj (.inl hy) rw' (fun s2 I4=>?_) (.inr hy))));refine assignInOrder_cons (wpAny_bindName (Hz I4 hN hi (.inl hx) rv (fun s3 I5=>assignInOrder_nil (wpAny_pure ?_)) (.inr hx)));rw [List.set_comm _ _ (Ne.symm hij)] at I5;exact ⟨_,H1,I5,q1⟩
end
section
variable {X:Cx}{pos:Pos}
end
structure It where
 go:Nat->Hp->Prop
 yld:Nat->Hp->V->Hp->Prop
 stop:Nat->Hp->Prop
noncomputable def Nx (X:Cx) (pins:List (Addr×Obj)) (H:Hp) (b:Addr):Prop :=
 H b=none/\b≠X.env.locals/\b ∉ X.fs/\(b∈X.ex\/X.s₀.heap.objs.size<=b)/\(∀ x c,X.env.cells.lookup x=some c->c≠b)/\∀ p∈X.pn++pins,p.1≠b
theorem Inv.fpOk {X:Cx}{pins:List (Addr×Obj)}{σ:St}{H H':Hp}{s:Shared}{b:Addr}(I:Inv X pins σ H s) (hb:s.heap.objs.size<=b) (hn:H' b=none):Nx X pins H' b:=by
 refine ⟨hn,Nat.ne_of_gt (Nat.lt_of_lt_of_le I.lt hb),I.nofs hb,.inr (Nat.le_trans I.sz hb),fun x c e z=>?_,fun p hp z=>?_⟩
 ·obtain ⟨v,q⟩:=I.cell x c e;exact absurd (Nat.lt_of_lt_of_le q.lt (by rw [z];exact hb)) (Nat.lt_irrefl _)
 ·exact absurd (Nat.lt_of_lt_of_le (Heap.lt_size (I.pin p hp).1) (by rw [z];exact hb)) (Nat.lt_irrefl _)
structure Turn (P:Program) (w:World) (K:PySem.W.Frag) (tg:Expr) (J:It) (fp:List Addr) (it:Addr) (tn:Nat->Heap->Prop):Prop where
 mem:it∈fp
 obj:∀ i h,tn i h->∀ b∈fp,∃ o,h.get? b=some o/\∀ v,o.data≠.cell v
 keep:∀ i h h',tn i h->(∀ b∈fp,∀ o,h.get? b=some o->h'.get? b=some o)->tn i h'
 item:∀ (X:Cx),X.prog=P->X.w=w->X.K=K->X.calm=true->∀ (i:Nat) (pins:List (Addr×Obj)) (s:Shared) (σ:St) (H:Hp) (E:Value->Shared->Prop),Inv X pins σ H s->(∀ b∈fp,Nx X pins H b)->tn i s.heap->J.go i H ->
  wpAny (model P w) X.A (pyNext (.ref it)) (fun r s1=>∃ u,r=some u /\
   wpAny (model P w) X.A (letOwnedTupleGo tg (.ref it) u) (fun _ s2=>∃ x H',Inv X pins σ H' s2/\RelV x u/\J.yld i H x H'/\tn (i+1) s2.heap/\∀ b∈fp,H' b=none) E s1) E s
 done:∀ (X:Cx),X.prog=P->X.w=w->X.K=K->X.calm=true->∀ (i:Nat) (pins:List (Addr×Obj)) (s:Shared) (σ:St) (H:Hp) (E:Value->Shared->Prop),Inv X pins σ H s->(∀ b∈fp,Nx X pins H b)->tn i s.heap->J.stop i H ->
  wpAny (model P w) X.A (pyNext (.ref it)) (fun r s1=>r=none/\Inv X pins σ H s1) E s
 self:∀ (A:Around) (i:Nat) (s:Shared) (Q:Value->Shared->Prop) (E:Value->Shared->Prop),tn i s.heap->Q (.ref it) s->wpAny (model P w) A (pyIter (.ref it)) Q E s
noncomputable abbrev TI:=St->Hp->(It->Hp->Prop)->Prop
noncomputable def PIE (X:Cx) (pins:List (Addr×Obj)) (σ:St) (tg:Expr) (R:It->Hp->Prop) (itv:Value) (s2:Shared):Prop :=
 ∃ (it:Addr) (fp:List Addr) (tn:Nat->Heap->Prop) (J:It) (H':Hp),itv=.ref it/\Inv X pins σ H' s2/\Turn X.prog X.w X.K tg J fp it tn/\tn 0 s2.heap/\(∀ b∈fp,Nx X pins H' b)/\R J H'
noncomputable def PI (X:Cx) (tg iter:Expr) (wi:TI):Prop :=
 ∀ (pins:List (Addr×Obj)) (s:Shared) (σ:St) (H:Hp) (R:It->Hp->Prop),Inv X pins σ H s->wi σ H R ->
  wpAny (model X.prog X.w) X.A (eval iter X.env) (fun v s1=>wpAny (model X.prog X.w) X.A (pyIter v) (PIE X pins σ tg R) X.xe s1) X.xe s
theorem Wn {M:Model}{A:Around}{E:Value->Shared->Prop}{s:Shared}{tg:Expr}{it:Addr}{u:Value}{o:Obj}{n:String}{vs:Array Value}{Q:Unit->Shared->Prop}(ho:s.heap.get? it=some o) (hc:o.cls=.type n) (hd:o.data=.fields vs)
    (hn:["enumerate", "zip", "dict_itemiterator", "dict_reverseitemiterator", "odict_iterator", "itertools.zip_longest", "itertools.pairwise"].contains n=false) (hQ:Q () s):wpAny M A (letOwnedTupleGo tg (.ref it) u) Q E s:=by
  unfold letOwnedTupleGo;cases tg <;> first
    | exact wpAny_pure hQ
    | (cases u <;> first
        | exact wpAny_pure hQ
        | (refine wpAny_bind (wpAny_load ho ?_)
           rw [hc,hd]
           show wpAny M A (if (["enumerate", "zip", "dict_itemiterator", "dict_reverseitemiterator", "odict_iterator", "itertools.zip_longest", "itertools.pairwise"].contains n&&vs[0]?==some (rawInt _))=true then _ else _) Q E s;rw [if_neg (by intro h;rw [hn,Bool.false_and] at h;cases h)]
           exact wpAny_pure hQ))
noncomputable def Itl (K:PySem.W.Frag) (a:Addr):It :=
 ⟨fun i H=>∃ xs x,SqL K H a xs/\xs[i]?=some x,fun i H x H'=>H'=H/\∀ xs,SqL K H a xs->xs[i]?=some x,fun i H=>∃ xs,SqL K H a xs/\xs.length<=i⟩
noncomputable def Itt (K:PySem.W.Frag) (a:Addr):It :=
 ⟨fun i H=>∃ xs x,SqT K H a xs/\xs[i]?=some x,fun i H x H'=>H'=H/\∀ xs,SqT K H a xs->xs[i]?=some x,fun i H=>∃ xs,SqT K H a xs/\xs.length<=i⟩
noncomputable def Itr (lo:Int) (n:Nat):It:=⟨fun i _=>i < n,fun i H x H'=>H'=H/\x=.int (lo+i),fun i _=>n<=i⟩
theorem X3 {P:Program}{w:World}{K:PySem.W.Frag}{tg:Expr}(a it:Addr):Turn P w K tg (Itl K a) [it] it (fun i h=>h.IsListIter it a i) where
 mem:=by simp
 obj:=fun i h st b hb=>by
  have e:b=it:=by simpa using hb
  subst e;obtain ⟨o,e,c,d⟩:=st;exact ⟨o,e,fun v z=>by rw [d] at z;cases z⟩
 keep:=fun i h h' st k=>st.at fun o e=>k it (by simp) o e
 item:=by
  intro X hP hw hK hc i pins s σ H E I hf st hg;subst hP hw hK;obtain ⟨xs,x,hq,hx⟩:=hg;obtain ⟨its,rv,p,hz⟩:=I.list hq;obtain ⟨u,hu,ru⟩:=rv.get hx;obtain ⟨f0,f1,f2,f3,f4,f5⟩:=hf it (by simp);refine wpAny_pyNext_list_item st p.isList (x:=u) (by simpa using hu) fun h' st' sb=>?_
  have I1:Inv X pins σ H { s with heap:=h' }:=I.turned (t':=s.toks) (fun b o hb e=>(sb.2 b hb).trans e) f0 f1 f3 f4 f5;obtain ⟨o,e,c,d⟩:=id st';exact ⟨u,rfl,Wn (s:={ s with heap:=h' }) e c d (by decide) ⟨x,H,I1,ru,⟨rfl,fun ys hy=>by rw [I.list_inj hy hq];exact hx⟩,st',fun b hb=>(hf b hb).1⟩⟩
 done:=by
  intro X hP hw hK hc i pins s σ H E I hf st hg;subst hP hw hK;obtain ⟨xs,hq,hx⟩:=hg;obtain ⟨its,rv,p,hz⟩:=I.list hq;obtain ⟨f0,f1,f2,f3,f4,f5⟩:=hf it (by simp);have hl:=rv.length;exact wpAny_pyNext_list_end (I.ok.hd hc) st p.isList (by simp;omega) fun h' eb=>⟨rfl,I.turned (t':=s.toks) (fun b o hb e=>eb b o hb e) f0 f1 f3 f4 f5⟩
 self:=fun _ _ _ _ _ st h=>wpAny_pyIter_listiter st h
theorem Uw {P:Program}{w:World}{K:PySem.W.Frag}{tg:Expr}(a it:Addr):Turn P w K tg (Itt K a) [it] it (fun i h=>h.IsTupleIter it a i) where
 mem:=by simp
 obj:=fun i h st b hb=>by
  have e:b=it:=by simpa using hb
  subst e;obtain ⟨o,e,c,d⟩:=st;exact ⟨o,e,fun v z=>by rw [d] at z;cases z⟩
 keep:=fun i h h' st k=>st.at fun o e=>k it (by simp) o e
 item:=by
  intro X hP hw hK hc i pins s σ H E I hf st hg;subst hP hw hK;obtain ⟨xs,x,hq,hx⟩:=hg;obtain ⟨its,rv,p,hz⟩:=I.tuple hq;obtain ⟨u,hu,ru⟩:=rv.get hx;obtain ⟨f0,f1,f2,f3,f4,f5⟩:=hf it (by simp);refine wpAny_pyNext_tuple_item st (show s.heap.IsTuple a its.toArray from p) (x:=u) (by simpa using hu) fun h' st' sb=>?_
  have I1:Inv X pins σ H { s with heap:=h' }:=I.turned (t':=s.toks) (fun b o hb e=>(sb.2 b hb).trans e) f0 f1 f3 f4 f5;obtain ⟨o,e,c,d⟩:=id st';exact ⟨u,rfl,Wn (s:={ s with heap:=h' }) e c d (by decide) ⟨x,H,I1,ru,⟨rfl,fun ys hy=>by rw [I.tuple_inj hy hq];exact hx⟩,st',fun b hb=>(hf b hb).1⟩⟩
 done:=by
  intro X hP hw hK hc i pins s σ H E I hf st hg;subst hP hw hK;obtain ⟨xs,hq,hx⟩:=hg;obtain ⟨its,rv,p,hz⟩:=I.tuple hq;obtain ⟨f0,f1,f2,f3,f4,f5⟩:=hf it (by simp);have hl:=rv.length;exact wpAny_pyNext_tuple_end (I.ok.hd hc) st (show s.heap.IsTuple a its.toArray from p) (by simp;omega) fun h' eb=>⟨rfl,I.turned (t':=s.toks) (fun b o hb e=>eb b o hb e) f0 f1 f3 f4 f5⟩
 self:=fun _ _ _ _ _ st h=>wpAny_pyIter_tupleiter st h
theorem Ux {P:Program}{w:World}{K:PySem.W.Frag}{tg:Expr}(it:Addr) (lo:Int) (n:Nat):Turn P w K tg (Itr lo n) [it] it (fun i h=>IsRangeIter h it (lo+(i:Nat) * 1) ((n:Int) - (i:Nat)) 1) where
 mem:=by simp
 obj:=fun i h st b hb=>by
  have e:b=it:=by simpa using hb
  subst e
  exact ⟨_,st,fun v z=>by
   have z':Data.fields _=Data.cell v:=z
   cases z'⟩
 keep:=fun i h h' st k=>k it (by simp) _ st
 item:=by
  intro X hP hw hK hc i pins s σ H E I hf st hg;subst hP hw hK;obtain ⟨f0,f1,f2,f3,f4,f5⟩:=hf it (by simp);have W:=Walks.range (prog:=X.prog) (w:=X.w) (I.ok.hd hc) it lo 1 n;refine W.item i s _ _ hg st fun v h' tk hv st' kk=>?_
  obtain ⟨t,rfl⟩:=hv;have I1:Inv X pins σ H { s with heap:=h',toks:=tk }:=I.turned (fun b o hb e=>kk b o (by simpa using hb) e) f0 f1 f3 f4 f5
  refine ⟨_,rfl,Wn (s:={ s with heap:=h',toks:=tk }) (n := "range_iterator") st' rfl rfl (by decide) ⟨.int (lo+i),H,I1,⟨t,?_⟩,⟨rfl,rfl⟩,st',fun b hb=>(hf b hb).1⟩⟩;rw [Int.mul_one]
 done:=by
  intro X hP hw hK hc i pins s σ H E I hf st hg;subst hP hw hK;obtain ⟨f0,f1,f2,f3,f4,f5⟩:=hf it (by simp);exact wpAny_pyNext_range_end (I.ok.hd hc) st (by have:n<=i:=hg;omega) fun h' eb=>⟨rfl,I.turned (t':=s.toks) (fun b o hb e=>eb b o hb e) f0 f1 f3 f4 f5⟩
 self:=fun _ _ _ _ _ st h=>wpAny_pyIter_rangeiter st h
section
variable {X:Cx}{tg:Expr}
noncomputable def yE (K:PySem.W.Frag) (tl:TE):TI:=fun σ H R=>tl σ H fun x H1=>∃ a,x=.ref a/\(∃ xs,SqL K H1 a xs)/\R (Itl K a) H1
noncomputable def Aa1 (K:PySem.W.Frag) (tl:TE):TI:=fun σ H R=>tl σ H fun x H1=>∃ a,x=.ref a/\(∃ xs,SqT K H1 a xs)/\R (Itt K a) H1
theorem Wo {l:Expr}{tl:TE}(hl:PE X l tl):PI X tg l (yE X.K tl):=by
 intro pins s σ H R I h;refine thn (hl pins s σ H _ I h) ?_;rintro v s1 ⟨x,H1,I1,r1,q1⟩;obtain ⟨a,e,⟨xs,hq⟩,q⟩:=q1;subst e;cases r1;obtain ⟨its,rv,p,hz⟩:=I1.list hq;refine wpAny_pyIter_list p.isList ?_;refine ⟨s1.heap.objs.size,[s1.heap.objs.size],_,_,H1,rfl,I1.kept (t':=s1.toks) fun b o e=>Heap.get?_push_of_some _ e,X3 a _,⟨_,Heap.get?_push_size _ rfl,rfl,rfl⟩,fun b hb=>?_,q⟩;have e:b=s1.heap.objs.size:=by simpa using hb
 subst e;exact I1.fpOk (Nat.le_refl _) (I1.hok.fresh (Nat.le_refl _))
theorem rK {l:Expr}{tl:TE}(hl:PE X l tl):PI X tg l (Aa1 X.K tl):=by
 intro pins s σ H R I h;refine thn (hl pins s σ H _ I h) ?_;rintro v s1 ⟨x,H1,I1,r1,q1⟩;obtain ⟨a,e,⟨xs,hq⟩,q⟩:=q1;subst e;cases r1;obtain ⟨its,rv,p,hz⟩:=I1.tuple hq;refine wpAny_pyIter_tuple (show s1.heap.IsTuple a its.toArray from p) ?_;refine ⟨s1.heap.objs.size,[s1.heap.objs.size],_,_,H1,rfl,I1.kept (t':=s1.toks) fun b o e=>Heap.get?_push_of_some _ e,Uw a _,⟨_,Heap.get?_push_size _ rfl,rfl,rfl⟩,fun b hb=>?_,q⟩;have e:b=s1.heap.objs.size:=by simpa using hb
 subst e;exact I1.fpOk (Nat.le_refl _) (I1.hok.fresh (Nat.le_refl _))
theorem Z7 {pins:List (Addr×Obj)}{σ:St}{H:Hp}{s:Shared}{R:It->Hp->Prop}{E:Value->Shared->Prop}{lo hi:Int}{t u v:Tok}{tk:Nat}(I:Inv X pins σ H s) (h1:-(2 ^ 62)<=lo) (h2:lo < 2 ^ 62) (h3:-(2 ^ 62)<=hi) (h4:hi < 2 ^ 62)
  (q:R (Itr lo (hi - lo).toNat) H):wpAny (model X.prog X.w) X.A (pyIter (.ref s.heap.objs.size)) (PIE X pins σ tg R) E { s with heap:=s.heap.push { cls:=.type "range",data:=.fields #[.int lo t,.int hi u,.int 1 v] },toks:=tk }:=by
 refine wpAny_pyIter_range (IsRange.new ..) (small_one h1 h2 h3 h4) ?_
 have I1:Inv X pins σ H { s with heap:=s.heap.push { cls:=.type "range",data:=.fields #[.int lo t,.int hi u,.int 1 v] },toks:=tk }:=I.kept fun b o e=>Heap.get?_push_of_some _ e
 refine ⟨(s.heap.push { cls:=.type "range",data:=.fields #[.int lo t,.int hi u,.int 1 v] }).objs.size,[(s.heap.push { cls:=.type "range",data:=.fields #[.int lo t,.int hi u,.int 1 v] }).objs.size],_,_,H,rfl,
  I1.kept (t':=tk) fun b o e=>Heap.get?_push_of_some _ e,Ux _ lo (hi - lo).toNat,?_,fun b hb=>?_,q⟩
 ·have e1:lo+((0:Nat):Int) * 1=lo:=by simp
  have e2:(((hi - lo).toNat:Nat):Int) - ((0:Nat):Int)=Builtin.Range.rangeSize lo hi 1:=by rw [rangeSize_one];split <;> omega
  show IsRangeIter _ _ (lo+((0:Nat):Int) * 1) ((((hi - lo).toNat:Nat):Int) - ((0:Nat):Int)) 1;rw [e1,e2];exact Heap.get?_push_size _ rfl
 ·have e:b=(s.heap.push { cls:=.type "range",data:=.fields #[.int lo t,.int hi u,.int 1 v] }).objs.size:=by simpa using hb
  subst e;exact I1.fpOk (Nat.le_refl _) (I1.hok.fresh (Nat.le_refl _))
noncomputable def yF (ta:TA):TI:=fun σ H R=>ta σ H fun vs H1=>∃ j:Int,vs=[.int j]/\-(2 ^ 62)<=j/\j < 2 ^ 62/\R (Itr 0 j.toNat) H1
theorem X4 {a:Expr}{ta:TA}{p pos:Pos}(hg:Gl X "range") (hm:X.mg "range"=none) (ha:PA X [a] ta) (hs:starEach [a] X.env=[(false,eval a X.env)]:=by rfl):PI X tg (.Call (.Name "range" p) [a] [] pos) (yF ta):=by
 intro pins s σ H R I h;refine Call_ (Pq I hg hm boot_range (PyProof.Rows.callWith_type1 (thn (ha pos pins s σ H _ I h) ?_) hs rfl));rintro us s1 ⟨vs,H1,I1,r1,q1⟩;obtain ⟨j,e,q1,q2,q⟩:=q1;subst e;cases r1 with
 | cons r rr =>
  cases rr;obtain ⟨t,rfl⟩:=r;exact call_range_1 (Z7 I1 (by omega) (by omega) q1 q2 (by simpa using q))
noncomputable def Aa2 (wi:TI) (g:TG) (tb:TS):TS:=fun D σ H=>wi σ H fun J H1=>∃ W:Nat->Nat->St->Hp->Prop,(∃ m,W 0 m σ H1)/\∀ i m σ H,W i m σ H ->
 (J.stop i H/\D.nx σ H)\/(J.go i H/\∃ N:St->Hp->Prop,(∀ σ' H',N σ' H'->∃ m',m' < m/\W (i+1) m' σ' H')/\∀ x H',J.yld i H x H'->g x σ H' fun σ2 H2=>tb { D with nx:=N,ct:=N,bk:=D.nx } σ2 H2)
noncomputable def Hj (fp:List Addr) (h:Heap):List (Addr×Obj):=fp.filterMap fun b=>(h.get? b).map fun o=>(b,o)
theorem Fp {fp:List Addr}{h:Heap}{b:Addr}{o:Obj}(hb:b∈fp) (e:h.get? b=some o):(b,o)∈Hj fp h:=List.mem_filterMap.mpr ⟨b,hb,by rw [e];rfl⟩
theorem Oe {fp:List Addr}{h:Heap}{p:Addr×Obj}(hp:p∈Hj fp h):p.1∈fp/\h.get? p.1=some p.2:=by
 obtain ⟨b,hb,e⟩:=List.mem_filterMap.mp hp;cases q:h.get? b with
 | none=>rw [q] at e;cases e
 | some o =>
  rw [q] at e;have e':(b,o)=p:=Option.some.inj e;subst e';exact ⟨hb,q⟩
theorem Inv.pinned {pins:List (Addr×Obj)}{σ:St}{H:Hp}{s:Shared}{fp:List Addr}(I:Inv X pins σ H s) (hf:∀ b∈fp,Nx X pins H b) (ho:∀ b∈fp,∃ o,s.heap.get? b=some o/\∀ v,o.data≠.cell v):Inv X (pins++Hj fp s.heap) σ H s :=
 I.pins_of fun p hp=>(List.mem_append.mp hp).elim (fun z=>I.pin p (List.mem_append_right _ z)) fun z=>by
  obtain ⟨hb,e⟩:=Oe z;obtain ⟨f0,f1,f2,_⟩:=hf p.1 hb;obtain ⟨o,e',d⟩:=ho p.1 hb;rw [e] at e';cases e';exact ⟨e,f0,f1,f2,d⟩
theorem Inv.unpinned {pins pl:List (Addr×Obj)}{σ:St}{H:Hp}{s:Shared}(I:Inv X (pins++pl) σ H s):Inv X pins σ H s:=I.pins_of fun p hp=>I.pin p (List.mem_append_right _ (List.mem_append_left _ hp))
theorem Z8 {iter:Expr}{body:List Stmt}{wi:TI}{g:TG}{tb:TS}{pos:Pos}(hp:PassesOwn (model X.prog X.w) X.A X.env X.xe) (hc:X.calm=true) (hi:PI X tg iter wi) (hg:PG X tg g) (hb:PSs X body tb)
  (hs:∀ x,foldedSetIterable iter X.env x=pure x:=by intro _;rfl):PS X (.For tg iter body [] pos) (Aa2 wi g tb):=by
 intro pins s σ H D I h;refine wpAny_For (thn (hi pins s σ H _ I h) fun v s1 h1=>thn h1 fun itv s2 h2=>?_) hs;obtain ⟨it,fp,tn,J,H2,e,I2,T,st2,f2,W,⟨m0,w0⟩,turn⟩:=h2;subst e
 -- what stays true of the iterator's objects through the loop
 have stat:∀ {H':Hp},(∀ b∈fp,H' b=none)->∀ b∈fp,Nx X pins H' b:=fun hn b hb=>⟨hn b hb,(f2 b hb).2⟩
 refine codeAny_forLoop_any (fun n s'=>∃ i σ' H',Inv X pins σ' H' s'/\tn i s'.heap/\(∀ b∈fp,H' b=none)/\W i n σ' H') ?_ m0 ⟨0,σ,H2,I2,st2,fun b hb=>(f2 b hb).1,w0⟩;rintro n s3 ⟨i,σ3,H3,I3,st3,fr3,w3⟩;rcases turn i n σ3 H3 w3 with ⟨stop,qn⟩|⟨go,N,hN,step⟩
 ·refine wpAny_passesOwn hp (thn (T.done X rfl rfl rfl hc i pins s3 σ3 H3 X.xe I3 (stat fr3) st3 stop) ?_);rintro r s4 ⟨hr,I4⟩;subst hr;exact wpAny_execs_nil ⟨σ3,H3,I4,qn⟩
 ·refine wpAny_passesOwn hp (thn (T.item X rfl rfl rfl hc i pins s3 σ3 H3 X.xe I3 (stat fr3) st3 go) ?_);rintro r s4 ⟨u,hr,h4⟩;subst hr;refine wpAny_passesOwn hp (thn h4 ?_);rintro _ s5 ⟨x,H5,I5,r5,y5,st5,fr5⟩;have I5':=I5.pinned (stat fr5) (T.obj _ _ st5);refine wpAny_passesOwn hp (thn (hg _ s5 σ3 H5 x u _ I5' r5 (step x H5 y5)) ?_);rintro _ s6 ⟨σ6,H6,I6,q6⟩;refine wpAny_passesOwn hp (thn (hb _ s6 σ6 H6 _ I6 q6) fun f s7 q7=>?_);have again:∀ {σ7:St} {H7:Hp},Inv X (pins++Hj fp s5.heap) σ7 H7 s7->N σ7 H7->∃ m,m < n/\∃ i σ' H',Inv X pins σ' H' s7/\tn i s7.heap/\(∀ b∈fp,H' b=none)/\W i m σ' H':=fun {σ7 H7} I7 n7=>by
   obtain ⟨m',hm,w7⟩:=hN σ7 H7 n7;refine ⟨m',hm,i+1,σ7,H7,I7.unpinned,T.keep _ _ _ st5 fun b hb o e=>(I7.pin (b,o) (List.mem_append_right _ (List.mem_append_right _ (Fp hb e)))).1,fun b hb=>?_,w7⟩;obtain ⟨o,e,d⟩:=T.obj _ _ st5 b hb;exact (I7.pin (b,o) (List.mem_append_right _ (List.mem_append_right _ (Fp hb e)))).2.1
  cases f with
  | next=>obtain ⟨σ7,H7,I7,n7⟩:=q7;exact again I7 n7
  | cont=>obtain ⟨σ7,H7,I7,n7⟩:=q7;exact again I7 n7
  | brk=>obtain ⟨σ7,H7,I7,q7⟩:=q7;exact ⟨σ7,H7,I7.unpinned,q7⟩
  | ret v=>obtain ⟨x7,σ7,H7,I7,r7,q7⟩:=q7;exact ⟨x7,σ7,H7,I7.unpinned,r7,q7⟩
end
noncomputable abbrev R2:=V->V->Hp->VK->Prop
noncomputable def OpR (X:Cx) (f:Value->Value->Sem Value) (r:R2):Prop :=
 ∀ (pins:List (Addr×Obj)) (s:Shared) (σ:St) (H:Hp) (x y:V) (v u:Value) (Q:VK),Inv X pins σ H s->RelV x v->RelV y u->r x y H Q ->
  wpAny (model X.prog X.w) X.A (f v u) (EP X pins σ Q) X.xe s
noncomputable def UnR (X:Cx) (f:Value->Sem Value) (r:V->Hp->VK->Prop):Prop :=
 ∀ (pins:List (Addr×Obj)) (s:Shared) (σ:St) (H:Hp) (x:V) (v:Value) (Q:VK),Inv X pins σ H s->RelV x v->r x H Q ->
  wpAny (model X.prog X.w) X.A (f v) (EP X pins σ Q) X.xe s
noncomputable def Ba (X:Cx) (f:Value) (r:List V->Hp->VK->Prop):Prop :=
 ∀ (pins:List (Addr×Obj)) (s:Shared) (σ:St) (H:Hp) (xs:List V) (us:List Value) (Q:VK),Inv X pins σ H s->Vals xs us->r xs H Q ->
  wpAny (model X.prog X.w) X.A (call f us) (EP X pins σ Q) X.xe s
noncomputable def Aa3 (X:Cx) (r:V->Hp->(Bool->Hp->Prop)->Prop):Prop :=
 ∀ (pins:List (Addr×Obj)) (s:Shared) (σ:St) (H:Hp) (x:V) (v:Value) (Q:Bool->Hp->Prop),Inv X pins σ H s->RelV x v->r x H Q ->
  wpAny (model X.prog X.w) X.A (truthy v) (TP X pins σ Q) X.xe s
noncomputable def tOp (r:R2) (ta tb:TE):TE:=fun σ H Q=>ta σ H fun x H1=>tb σ H1 fun y H2=>r x y H2 Q
noncomputable def tUn (r:V->Hp->VK->Prop) (ta:TE):TE:=fun σ H Q=>ta σ H fun x H1=>r x H1 Q
noncomputable def rI (C:Int->Int->Prop) (g:Int->Int->V):R2:=fun x y H Q=>∃ i j,x=.int i/\y=.int j/\C i j/\Q (g i j) H
noncomputable def rI0 (g:Int->Int->V):R2:=fun x y H Q=>∃ i j,x=.int i/\y=.int j/\Q (g i j) H
noncomputable def rU (g:Int->V):V->Hp->VK->Prop:=fun x H Q=>∃ i,x=.int i/\Q (g i) H
section
variable {X:Cx}{a b c:Expr}{ta tb tc:TE}{pos:Pos}
theorem rM (ha:PE X a ta) (hb:PE X b tb) {pins:List (Addr×Obj)}{s:Shared}{σ:St}{H:Hp}{R:V->V->Hp->Prop}(I:Inv X pins σ H s)
  (h:ta σ H fun x H1=>tb σ H1 fun y H2=>R x y H2) {Q:Value->Shared->Prop} {f:Value->Value->Sem Value}
  (hf:∀ v u s2 x y H2,Inv X pins σ H2 s2->RelV x v->RelV y u->R x y H2->wpAny (model X.prog X.w) X.A (f v u) Q X.xe s2) :
  wpAny (model X.prog X.w) X.A (eval a X.env) (fun v s₁=>wpAny (model X.prog X.w) X.A (eval b X.env) (fun u s₂=>wpAny (model X.prog X.w) X.A (f v u) Q X.xe s₂) X.xe s₁) X.xe s:=by
 refine thn (ha pins s σ H _ I h) ?_;rintro v s1 ⟨x,H1,I1,r1,q1⟩;refine thn (hb pins s1 σ H1 _ I1 q1) ?_;rintro u s2 ⟨y,H2,I2,r2,q2⟩;exact hf v u s2 x y H2 I2 r1 r2 q2
theorem Z9 {op:Operator}{r:R2}(ho:OpR X (binaryOp op) r) (ha:PE X a ta) (hb:PE X b tb):PE X (.BinOp a op b pos) (tOp r ta tb):=by
 intro pins s σ H Q I h;exact wpAny_BinOp (rM ha hb I h fun v u s2 x y H2 I2 rx ry q=>ho pins s2 σ H2 x y v u Q I2 rx ry q)
theorem yG {op:UnaryOp}{r:V->Hp->VK->Prop}(ho:UnR X (unaryOp op) r) (ha:PE X a ta):PE X (.UnaryOp op a pos) (tUn r ta):=by
 intro pins s σ H Q I h;refine UnaryOp_ (thn (ha pins s σ H _ I h) ?_);rintro v s1 ⟨x,H1,I1,r1,q1⟩;exact ho pins s1 σ H1 x v Q I1 r1 q1
theorem opI {f:Value->Value->Sem Value}{C:Int->Int->Prop}{g:Int->Int->Int}
  (rule:∀ (i j:Int) (t u:Tok) (s:Shared) (Q:Value->Shared->Prop) (E:Value->Shared->Prop),C i j->Q (.int (g i j) s.toks) { s with toks:=s.toks+1 }->wpAny (model X.prog X.w) X.A (f (.int i t) (.int j u)) Q E s) :
  OpR X f (rI C fun i j=>.int (g i j)):=by
 intro pins s σ H x y v u Q I rx ry h;obtain ⟨i,j,rfl,rfl,hc,q⟩:=h;obtain ⟨t,rfl⟩:=rx;obtain ⟨t',rfl⟩:=ry;exact rule i j t t' s _ _ hc ⟨.int (g i j),H,I.tok _,⟨_,rfl⟩,q⟩
theorem yH {f:Value->Value->Sem Value}{g:Int->Int->Int}
  (rule:∀ (i j:Int) (t u:Tok) (s:Shared) (Q:Value->Shared->Prop) (E:Value->Shared->Prop),Q (.int (g i j) s.toks) { s with toks:=s.toks+1 }->wpAny (model X.prog X.w) X.A (f (.int i t) (.int j u)) Q E s) :
  OpR X f (rI0 fun i j=>.int (g i j)):=by
 intro pins s σ H x y v u Q I rx ry h;obtain ⟨i,j,rfl,rfl,q⟩:=h;obtain ⟨t,rfl⟩:=rx;obtain ⟨t',rfl⟩:=ry;exact rule i j t t' s _ _ ⟨.int (g i j),H,I.tok _,⟨_,rfl⟩,q⟩
theorem jN {f:Value->Value->Sem Value}{g:Int->Int->Bool}
  (rule:∀ (i j:Int) (t u:Tok) (s:Shared) (Q:Value->Shared->Prop) (E:Value->Shared->Prop),Q (.bool (g i j)) s->wpAny (model X.prog X.w) X.A (f (.int i t) (.int j u)) Q E s) :
  OpR X f (rI0 fun i j=>.bl (g i j)):=by
 intro pins s σ H x y v u Q I rx ry h;obtain ⟨i,j,rfl,rfl,q⟩:=h;obtain ⟨t,rfl⟩:=rx;obtain ⟨t',rfl⟩:=ry;exact rule i j t t' s _ _ ⟨.bl (g i j),H,I,rfl,q⟩
noncomputable def Aa4 (i j:Int):Prop:=0<=j/\j<=1000000/\i.natAbs < 2 ^ 64
noncomputable def rN (i j:Int):Prop:=(-(2 ^ 64) < i/\i < 2 ^ 64)\/(-(2 ^ 64) < j/\j < 2 ^ 64)
theorem rN.ok {i j:Int}(h:rN i j):IntMulOk i j:=by
 rcases h with ⟨h1,h2⟩|⟨h1,h2⟩
 ·exact .of_left (intBits_le_64 h1 h2)
 ·exact .of_right (intBits_le_64 h1 h2)
theorem rO:OpR X (binaryOp .Add) (rI0 fun i j=>.int (i+j)):=yH fun _ _ _ _ _ _ _ q=>add_int q
theorem rP:OpR X (binaryOp .Sub) (rI0 fun i j=>.int (i - j)):=yH fun _ _ _ _ _ _ _ q=>sub_int q
theorem rQ:OpR X (binaryOp .Mult) (rI rN fun i j=>.int (i * j)):=opI fun _ _ _ _ _ _ _ hc q=>mul_int q hc.ok
theorem jO:OpR X (binaryOp .Mod) (rI (fun _ j=>j≠0) fun i j=>.int (i.fmod j)):=opI fun _ _ _ _ _ _ _ hc q=>mod_int' hc q
theorem rR:OpR X (binaryOp .Pow) (rI Aa4 fun i j=>.int (i ^ j.toNat)):=opI fun _ _ _ _ _ _ _ hc q=>pow_int_small hc.1 hc.2.1 hc.2.2 q
theorem unI {f:Value->Sem Value}{g:Int->Int}
  (rule:∀ (i:Int) (t:Tok) (s:Shared) (Q:Value->Shared->Prop) (E:Value->Shared->Prop),Q (.int (g i) s.toks) { s with toks:=s.toks+1 }->wpAny (model X.prog X.w) X.A (f (.int i t)) Q E s) :
  UnR X f (rU fun i=>.int (g i)):=by
 intro pins s σ H x v Q I rx h;obtain ⟨i,rfl,q⟩:=h;obtain ⟨t,rfl⟩:=rx;exact rule i t s _ _ ⟨.int (g i),H,I.tok _,⟨_,rfl⟩,q⟩
theorem rT:UnR X (unaryOp .USub) (rU fun i=>.int (-i)):=unI fun _ _ _ _ _ q=>neg_int q
end
section
variable {X:Cx}{a b c:Expr}{ta tb tc:TE}{pos:Pos}
theorem yI:OpR X (compareOp .Lt) (rI0 fun i j=>.bl (decide (i < j))):=jN fun _ _ _ _ _ _ _ q=>lt_int q
theorem yJ:OpR X (compareOp .LtE) (rI0 fun i j=>.bl (decide (i<=j))):=jN fun _ _ _ _ _ _ _ q=>le_int q
theorem yK:OpR X (compareOp .Gt) (rI0 fun i j=>.bl (decide (j < i))):=jN fun _ _ _ _ _ _ _ q=>gt_int q
theorem yL:OpR X (compareOp .GtE) (rI0 fun i j=>.bl (decide (j<=i))):=jN fun _ _ _ _ _ _ _ q=>ge_int q
theorem OpR.or {f:Value->Value->Sem Value}{r r':R2}(h:OpR X f r) (h':OpR X f r'):OpR X f (fun x y H Q=>r x y H Q\/r' x y H Q):=by
 intro pins s σ H x y v u Q I rx ry q;rcases q with q|q
 ·exact h pins s σ H x y v u Q I rx ry q
 ·exact h' pins s σ H x y v u Q I rx ry q
theorem Pu {op:CmpOp}{r:R2}(ho:OpR X (compareOp op) r) (ha:PE X a ta) (hb:PE X b tb) (hm:behindInMarks op b=false):PE X (.Compare a [op] [b] pos) (tOp r ta tb):=by
 intro pins s σ H Q I h;exact wpAny_Compare1 (rM ha hb I h fun v u s2 x y H2 I2 rx ry q=>ho pins s2 σ H2 x y v u Q I2 rx ry q) hm
noncomputable def aA (t:TE):TT:=fun σ H Q=>t σ H fun x H'=>∃ k,x=.bl k/\Q k H'
theorem Px {op:CmpOp}{r:R2}(ho:OpR X (compareOp op) r) (ha:PE X a ta) (hb:PE X b tb) (hm:behindInMarks op b=false):PT X (.Compare a [op] [b] pos) (aA (tOp r ta tb)):=by
 intro pins s σ H Q I h
 refine wpAny_isTrue_Compare1 (thn (ha pins s σ H _ I h) fun v s1 ⟨x,H1,I1,r1,q1⟩=>thn (hb pins s1 σ H1 _ I1 q1) fun u s2 ⟨y,H2,I2,r2,q2⟩ =>
  thn (ho pins s2 σ H2 x y v u _ I2 r1 r2 q2) fun c s3 ⟨z,H3,I3,r3,k,e,q3⟩=>?_) hm
 subst e;cases r3;exact wpAny_truthy_bool ⟨H3,I3,q3⟩
noncomputable def Uy (r r':R2) (ta tb tc:TE):TE:=fun σ H Q=>ta σ H fun x H1=>tb σ H1 fun y H2=>r x y H2 fun z H3=>∃ k,z=.bl k /\
 (if k=true then tc σ H3 fun w' H4=>r' y w' H4 Q else Q (.bl false) H3)
theorem aB {op op':CmpOp}{r r':R2}(ho:OpR X (compareOp op) r) (ho':OpR X (compareOp op') r') (ha:PE X a ta) (hb:PE X b tb) (hc:PE X c tc)
  (hm:lastMarks [op,op'] [b,c]=false:=by with_unfolding_all rfl):PE X (.Compare a [op,op'] [b,c] pos) (Uy r r' ta tb tc):=by
 intro pins s σ H Q I h
 refine Compare_chain (thn (ha pins s σ H _ I h) fun v s1 ⟨x,H1,I1,r1,q1⟩=>chain_link (thn (hb pins s1 σ H1 _ I1 q1) fun u s2 ⟨y,H2,I2,r2,q2⟩ =>
  thn (ho pins s2 σ H2 x y v u _ I2 r1 r2 q2) fun d s3 ⟨z,H3,I3,r3,k,e,q3⟩=>?_)) hm
 subst e;cases r3;refine wpAny_truthy_bool ?_;cases k with
 | false=>exact ite_ff ⟨.bl false,H3,I3,rfl,q3⟩
 | true=>exact ite_tt (chain_last (thn (hc pins s3 σ H3 _ I3 q3) fun w' s4 ⟨z',H4,I4,r4,q4⟩=>ho' pins s4 σ H4 y z' u w' Q I4 r2 r4 q4))
theorem aC {op op':CmpOp}{r r':R2}(ho:OpR X (compareOp op) r) (ho':OpR X (compareOp op') r') (ha:PE X a ta) (hb:PE X b tb) (hc:PE X c tc)
  (hm:lastMarks [op,op'] [b,c]=false:=by with_unfolding_all rfl):PT X (.Compare a [op,op'] [b,c] pos) (aA (Uy r r' ta tb tc)):=by
 intro pins s σ H Q I h
 refine isTrue_chain (thn (ha pins s σ H _ I h) fun v s1 ⟨x,H1,I1,r1,q1⟩=>test_link (thn (hb pins s1 σ H1 _ I1 q1) fun u s2 ⟨y,H2,I2,r2,q2⟩ =>
  thn (ho pins s2 σ H2 x y v u _ I2 r1 r2 q2) fun d s3 ⟨z,H3,I3,r3,k,e,q3⟩=>?_)) hm
 subst e;cases r3;refine wpAny_truthy_bool ?_;cases k with
 | false =>
  obtain ⟨k',e',q'⟩:=q3;cases e';exact ite_ff ⟨H3,I3,q'⟩
 | true =>
  refine ite_tt (test_last (thn (hc pins s3 σ H3 _ I3 q3) ?_));rintro w' s4 ⟨z',H4,I4,r4,q4⟩;refine thn (ho' pins s4 σ H4 y z' u w' _ I4 r2 r4 q4) ?_;rintro d' s5 ⟨z2,H5,I5,r5,k2,e2,q5⟩;subst e2;cases r5;exact wpAny_truthy_bool ⟨H5,I5,q5⟩
noncomputable def rW (K:PySem.W.Frag) (x:V) (H:Hp) (k:Bool):Prop :=
 match x with
 | .non=>k=false
 | .bl b=>k=b
 | .int i=>k=(i != 0)
 | .str y=>y.length<=sizeLine/\k=((y.length:Int) != 0)
 | .byt y=>y.size<=sizeLine/\k=((y.size:Int) != 0)
 | .ref p=>(∃ xs,SqL K H p xs/\k=!xs.isEmpty)\/(∃ xs,SqT K H p xs/\k=!xs.isEmpty)\/∃ kvs,H p=some (.dK kvs)/\k=!kvs.isEmpty
 | _=>False
theorem Uz {κ:Type}{kvs:List (κ×V)}{vs:List (κ×Value)}(r:KV kvs vs):(!vs.isEmpty)=!kvs.isEmpty:=by
 cases r <;> rfl
theorem Lj {xs:List V}{its:List Value}(r:Vals xs its):(!its.toArray.isEmpty)=!xs.isEmpty:=by
 cases r <;> simp
theorem Hl:(sizeLine:Nat) < 2 ^ 63:=by rw [sizeLine_eq];decide
theorem rY:Aa3 X (fun x H Q=>∃ k,rW X.K x H k/\Q k H):=by
 intro pins s σ H x v Q I rx h;obtain ⟨k,e,q⟩:=h;have hl:=Hl;have hs:sizeLine=16777216:=sizeLine_eq;cases x with
 | non =>
  cases rx;have e':k=false:=e;subst e';exact truthy_none ⟨H,I,q⟩
 | bl b =>
  cases rx;have e':k=b:=e;subst e';exact wpAny_truthy_bool ⟨H,I,q⟩
 | int i =>
  obtain ⟨t,rfl⟩:=rx;have e':k=(i != 0):=e;subst e';exact PySem.P.truthy_int ⟨H,I,q⟩
 | str y =>
  obtain ⟨t,rfl⟩:=rx;obtain ⟨hy,e'⟩:y.length<=sizeLine/\k=((y.length:Int) != 0):=e;subst e';exact PySem.P.truthy_str (by omega) ⟨H,I.tok _,q⟩
 | byt y =>
  obtain ⟨t,rfl⟩:=rx;obtain ⟨hy,e'⟩:y.size<=sizeLine/\k=((y.size:Int) != 0):=e;subst e';exact PySem.W.truthy_bytes (by omega) ⟨H,I.tok _,q⟩
 | ref p =>
  cases rx;have e':(∃ xs,SqL X.K H p xs/\k=!xs.isEmpty)\/(∃ xs,SqT X.K H p xs/\k=!xs.isEmpty)\/∃ kvs,H p=some (.dK kvs)/\k=!kvs.isEmpty:=e;rcases e' with ⟨xs,hx,e'⟩|⟨xs,hx,e'⟩|⟨kvs,hx,e'⟩
  ·subst e';obtain ⟨its,r,pl,hz⟩:=I.list hx;have hlen:=r.length;exact wpAny_truthy_list pl.isList (by simp only [List.size_toArray];omega) ⟨H,I.tok _,by rw [Lj r];exact q⟩
  ·subst e';obtain ⟨its,r,pl,hz⟩:=I.tuple hx;have hlen:=r.length;exact truthy_tuple pl (by simp only [List.size_toArray];omega) ⟨H,I.tok _,by rw [Lj r];exact q⟩
  ·subst e';obtain ⟨hz,hS,vs,r,m⟩:kvs.length<=sizeLine/\(p==sysModules)=false/\∃ vs,KV kvs vs/\s.heap.DictOf (Pk X.prog X.w) p vs:=I.hok p _ hx;have hlen:kvs.length=vs.length:=Paired.length r;exact wpAny_truthy_dict hS m (by omega) ⟨H,I.tok _,by rw [Uz r];exact q⟩
 | _=>exact (show False from e).elim
theorem aD (ha:PE X a ta) (he:∀ whole,isTrue a X.env whole=(do let v ← whole;standAt a.pos;holding [v] (truthy v))) :
  PT X a (fun σ H Q=>ta σ H fun x H'=>∃ k,rW X.K x H' k/\Q k H'):=by
 intro pins s σ H Q I h;exact isTrue_plain (thn (ha pins s σ H _ I h) fun v s1 ⟨x,H1,I1,r1,q1⟩=>rY pins s1 σ H1 x v Q I1 r1 q1) (he _)
theorem U0:OpR X (binaryOp .Add) (fun x y H Q=>∃ i j,x=.str i/\y=.str j/\i.length+j.length<=sizeLine/\Q (.str (i++j)) H):=by
 intro pins s σ H x y v u Q I rx ry h;obtain ⟨i,j,rfl,rfl,hz,q⟩:=h;obtain ⟨t,rfl⟩:=rx;obtain ⟨t',rfl⟩:=ry;exact add_str (fun t' tk=>⟨.str (i++j),H,I.tok _,⟨_,rfl⟩,q⟩) hz
theorem vals1 {x:V}{us:List Value}(r:Vals [x] us):∃ u,us=[u]/\RelV x u:=by
 cases r with
 | cons r1 r2=>cases r2;exact ⟨_,rfl,r1⟩
theorem vals2 {x y:V}{us:List Value}(r:Vals [x,y] us):∃ u w',us=[u,w']/\RelV x u/\RelV y w':=by
 cases r with
 | cons r1 r2 =>
  cases r2 with
  | cons r3 r4=>cases r4;exact ⟨_,_,rfl,r1,r3⟩
theorem X5 (hc:X.calm=true):Ba X (.builtin "min") (fun xs H Q=>∃ i j,xs=[.int i,.int j]/\Q (.int (if j < i then j else i)) H):=by
 intro pins s σ H xs us Q I r h;obtain ⟨i,j,rfl,q⟩:=h;obtain ⟨u,w',rfl,⟨t,rfl⟩,⟨t',rfl⟩⟩:=vals2 r;refine min_two_ints (I.ok.hd hc) fun h' tk k=>⟨_,H,I.kept k,?_,q⟩
 by_cases hj:j < i
 ·rw [if_pos hj,if_pos hj];exact ⟨_,rfl⟩
 ·rw [if_neg hj,if_neg hj];exact ⟨_,rfl⟩
theorem Og:Ba X (.type "int") (fun xs H Q=>(∃ i,xs=[.int i]/\Q (.int i) H)\/∃ k,xs=[.bl k]/\Q (.int (if k then 1 else 0)) H):=by
 intro pins s σ H xs us Q I r h;rcases h with ⟨i,rfl,q⟩|⟨k,rfl,q⟩
 ·obtain ⟨u,rfl,t,rfl⟩:=vals1 r;exact call_int_int ⟨.int i,H,I,⟨_,rfl⟩,q⟩
 ·obtain ⟨u,rfl,r1⟩:=vals1 r;cases r1;exact call_int_bool ⟨.int (if k then 1 else 0),H,I.tok _,⟨_,rfl⟩,q⟩
end
section
variable {prog:Program}{w:World}{A:Around}{E:Value->Shared->Prop}{s:Shared}{K:PySem.W.Frag}{x dx C f:Addr}{mA:Str->Option Value}{name:Str}{v:Value}
end
section
variable {P:Program}{w:World}{H H':Hp}{h h':Heap}{a C dx:Addr}{fs fs':List (Str×V)}
end
structure Cls (K:PySem.W.Frag) (C:Addr):Prop where
 pg:PySem.W.plainGet K C Str.empty=true
 hd:PySem.W.hasDictIn K C=true
 po:PySem.W.plainOver K C=true
 sa:PySem.W.findIn K (.ref C) "__setattr__"=some (some (.builtin "object.__setattr__"))
noncomputable def aF (K:PySem.W.Frag) (C:Addr) (f:Str):Prop:=PySem.W.findIn K (.ref C) f=some none
structure Meth (K:PySem.W.Frag) (C:Addr) (m:Str) (f:Addr):Prop where
 at_:PySem.W.findIn K (.ref C) m=some (some (.ref f))
 fn:PySem.W.isFn K (.ref f)=true
 kp:PySem.W.keepIn K (.ref f)=true
section
variable {X:Cx}{pins:List (Addr×Obj)}{σ:St}{H:Hp}{s:Shared}{a C dx:Addr}{fs:List (Str×V)}{f:Str}{v:V}{A:Around}{E:Value->Shared->Prop}
end
section
variable {X:Cx}{o e value:Expr}{f:Str}{pos pos' tpos:Pos}{ta tv:TE}
end
section
variable {X:Cx}{pins:List (Addr×Obj)}{σ:St}{H:Hp}{s:Shared}{A:Around}{E:Value->Shared->Prop}{Q:Value->Shared->Prop}{c:Value}{b:Bool}
end
structure Room (k:Nat) (A:Around):Prop where
 hd:A.handled=none
 dp:A.depth+3 * k+5 < recursionLimit
 un:A.units+16 * k+200 < cLine
theorem Room.deeper {k:Nat}{A:Around}(r:Room (k+1) A) (env:Env):Room k (A.deeper env) :=
 ⟨r.hd,by have:=r.dp;show A.depth+1+3 * k+5 < _;omega,by have:=r.un;show A.units+3+16 * k+200 < _;omega⟩
theorem Room.depth {k:Nat}{A:Around}(r:Room k A):A.depth < recursionLimit:=by have:=r.dp;omega
theorem Room.units {k:Nat}{A:Around}(r:Room k A):A.units+64 < cLine:=by have:=r.un;omega
noncomputable def rZ:TA:=fun _ H Q=>Q [] H
noncomputable def pK (ta:TE) (tr:TA):TA:=fun σ H Q=>ta σ H fun x H1=>tr σ H1 fun xs H2=>Q (x::xs) H2
section
variable {X:Cx}{e:Expr}{es:List Expr}{te:TE}{t:TA}{pos:Pos}
theorem Es:PA X [] rZ:=fun _ _ _ _ H Q I h=>Calls.spliced_nil ⟨[],H,I,.nil,h⟩
theorem Be (ha:PE X e te) (hr:PA X es t) (hs:starEach (e::es) X.env=(false,eval e X.env)::starEach es X.env:=by rfl):PA X (e::es) (pK te t):=by
 intro pos pins s σ H Q I h;rw [hs];show wpAny _ _ (spliced ((false,eval e X.env)::backTo pos (starEach es X.env))) _ _ s;refine Calls.spliced_cons (thn (ha pins s σ H _ I h) ?_);rintro u s1 ⟨x,H1,I1,r1,q1⟩;refine thn (hr pos pins s1 σ H1 _ I1 q1) ?_;rintro us s2 ⟨xs,H2,I2,r2,q2⟩;exact ⟨x::xs,H2,I2,.cons r1 r2,q2⟩
noncomputable def Aa5 (t:TA):TE:=fun σ H Q=>t σ H fun xs H1=>xs.length<=sizeLine/\∀ p,H1 p=none->Q (.ref p) (upd H1 p (.tup xs))
noncomputable def Aa6 (t:TA):TE:=fun σ H Q=>t σ H fun xs H1=>xs.length<=sizeLine/\∀ p,H1 p=none->Q (.ref p) (upd H1 p (.lst xs))
theorem aG {x1}(h:PA X es t):PE X (.Tuple es x1 pos) (Aa5 t):=by
 intro pins s σ H Q I hq;refine wpAny_Tuple_spliced (thn (h pos pins s σ H _ I hq) ?_);rintro us s1 ⟨xs,H1,I1,r,z,q⟩;refine ⟨by rw [← r.length];exact z,?_⟩;have hf:H1 s1.heap.objs.size=none:=I1.hok.fresh (Nat.le_refl _);refine ⟨.ref s1.heap.objs.size,upd H1 s1.heap.objs.size (.tup xs),I1.laid (t':=s1.toks) (fun b u e=>Heap.get?_push_of_some _ e) (Nat.le_refl _) ?_,rfl,q _ hf⟩;exact ⟨z,us,r,⟨_,Heap.get?_push_size _ rfl,rfl,rfl,_,rfl⟩⟩
theorem Py (h:PA X es t):PE X (.List es pos) (Aa6 t):=by
 intro pins s σ H Q I hq;refine wpAny_List_spliced (thn (h pos pins s σ H _ I hq) ?_);rintro us s1 ⟨xs,H1,I1,r,z,q⟩;refine ⟨by rw [← r.length];exact z,?_⟩;have hf:H1 s1.heap.objs.size=none:=I1.hok.fresh (Nat.le_refl _);refine ⟨.ref s1.heap.objs.size,upd H1 s1.heap.objs.size (.lst xs),I1.laid (t':=s1.toks) (fun b u e=>Heap.get?_push_of_some _ e) (Nat.le_refl _) ?_,rfl,q _ hf⟩;exact ⟨z,us,0,r,Heap.get?_push_size _ rfl⟩
end
noncomputable abbrev Sp:=List V->Hp->VK->XK->Prop
noncomputable abbrev CXT:=List Env->Hp->Shared->XK->Value->Shared->Prop
structure Env0 (P:Program) (w:World) (K:PySem.W.Frag) (mg:Str->Option Value) (base:Heap) (A:Around) (outer:List Env) (s:Shared) (H:Hp):Prop where
 frames:A.frames=some outer
 mod:Mod K mg base
 bs:∀ b o,base.get? b=some o->s.heap.get? b=some o/\H b=none
 bsz:base.objs.size<=s.heap.objs.size
 funs:s.heap.FunFrames base outer
 frf:∀ b∈frs outer,H b=none
 hok:HOk P w H s.heap
 bare:AllBare s.gens
noncomputable def CE (outer:List Env) (P:Program) (w:World) (H:Hp) (s:Shared) (Q:VK) (u:Value) (s':Shared):Prop :=
 ∃ v H',s'.os=s.os/\AllBare s'.gens/\Un (frs outer) [] H H' s.heap s'.heap/\HOk P w H' s'.heap/\RelV v u/\Q v H'
noncomputable def CR (CX:CXT) (outer:List Env) (P:Program) (w:World) (H:Hp) (s:Shared) (Q:VK) (E:XK) (r:Result) (s':Shared):Prop :=
 match r with
 | .ok (.ret u)=>CE outer P w H s Q u s'
 | .ok _=>False
 | .error e=>CX outer H s E e s'
structure FnOk (P:Program) (w:World) (K:PySem.W.Frag) (mg:Str->Option Value) (base:Heap) (CX:CXT) (k:Nat) (f:Addr) (fd:FuncData) (ps:List Str) (sp:Sp):Prop where
 len:∀ vs H Q E,sp vs H Q E->vs.length=ps.length
 run:∀ (A:Around) (outer:List Env) (s:Shared) (H:Hp) (args:Args) (us:List Value) (vs:List V) (Q:VK) (E:XK),Room k A->Env0 P w K mg base A outer s H->BindsTo s fd args (ps.zip us)->Vals vs us->sp vs H Q E ->
  codeAny (model P w) A (.call (.ref f) args) (CR CX outer P w H s Q E) s
section
variable {X:Cx}{pins:List (Addr×Obj)}{σ:St}{H:Hp}{s s':Shared}
theorem Inv.env0 (I:Inv X pins σ H s):Env0 X.prog X.w X.K X.mg X.base X.A X.stack s H :=
 ⟨I.ok.frames,I.ok.mod,I.bs,Nat.le_trans I.ok.bsz I.sz,I.stack,I.stkFree,I.hok,I.bare⟩
theorem Inv.after {Q:VK}{u:Value}(I:Inv X pins σ H s) (h:CE X.stack X.prog X.w H s Q u s'):EP X pins σ Q u s':=by
 obtain ⟨v,H',os,bare,un,hok,r,q⟩:=h;obtain ⟨hh,g,d,t,os'⟩:=s';obtain rfl:os'=s.os:=os;exact ⟨v,H',I.call (h':=hh) (g':=g) (d':=d) (t':=t) (ch:=[]) un hok bare (fun b z=>absurd z (by simp)),r,q⟩
end
noncomputable def pL (sp:Sp) (dvs:List V) (E:XK) (t:TA):TE:=fun σ H Q=>t σ H fun vs H1=>sp (vs++dvs) H1 Q E
noncomputable def Binds (K:PySem.W.Frag) (fd:FuncData) (ps:List Str) (ds:List Value):Prop :=
 ∀ (s:Shared) (us:List Value),K.In s.heap->(us++ds).length=ps.length->BindsTo s fd ⟨us,[]⟩ (ps.zip (us++ds))
theorem Binds.all {K:PySem.W.Frag}{fd:FuncData}{ps:List Str}(h:∀ us:List Value,us.length=ps.length->bindArgs fd ⟨us,[]⟩=pure (ps.zip us)):Binds K fd ps []:=fun s us _ hl=>by
 rw [List.append_nil] at hl ⊢;exact .of_eq (h us hl)
noncomputable def Et (CX:CXT) (X:Cx) (E:XK):Prop:=∀ (pins:List (Addr×Obj)) (σ:St) (H:Hp) (s:Shared) (e:Value) (s':Shared),Inv X pins σ H s->CX X.stack H s E e s'->X.xe e s'
section
variable {X:Cx}{CX:CXT}{k:Nat}{f C:Addr}{fd:FuncData}{ps:List Str}{sp:Sp}{dvs:List V}{ds:List Value}{E:XK}{x m:Str}{p pos apos:Pos}{e o:Expr}{es:List Expr}{ta:TE}{t:TA}
theorem aH {pins:List (Addr×Obj)}{σ:St}{H:Hp}{s:Shared}{Q:VK}{us:List Value}{vs:List V}(F:FnOk X.prog X.w X.K X.mg X.base CX k f fd ps sp) (hr:Room k X.A) (hb:Binds X.K fd ps ds) (hd:Vals dvs ds) (hx:Et CX X E)
  (I:Inv X pins σ H s) (r:Vals vs us) (h:sp (vs++dvs) H Q E):wpAny (model X.prog X.w) X.A (call (.ref f) us) (EP X pins σ Q) X.xe s:=by
 have r2:Vals (vs++dvs) (us++ds):=r.append hd;have hl:(us++ds).length=ps.length:=by rw [← r2.length];exact F.len _ _ _ _ h
 refine wpAny_call (codeAny_mono (F.run X.A X.stack s H ⟨us,[]⟩ (us++ds) (vs++dvs) Q E hr I.env0 (hb s us I.kIn hl) r2 h) fun r s' hq=>?_);cases r with
 | error e=>exact hx pins σ H s e s' I hq
 | ok fl =>
  cases fl with
  | ret u=>exact I.after hq
  | next=>exact False.elim hq
  | brk=>exact False.elim hq
  | cont=>exact False.elim hq
theorem Wq (F:FnOk X.prog X.w X.K X.mg X.base CX k f fd ps sp) (hr:Room k X.A) (hg:Gl X x) (hm:X.mg x=some (.ref f)) (hk:PySem.W.keepIn X.K (.ref f)=true) (hb:Binds X.K fd ps ds) (hd:Vals dvs ds) (hx:Et CX X E)
  (ha:PA X (e::es) t) (hdb:(x==("__debug__":Str))=false:=by decide) (he:starEach (e::es) X.env=(false,eval e X.env)::starEach es X.env:=by rfl) (hpl:(backTo pos (starEach es X.env)).any (·.1)=false:=by rfl) :
  PE X (.Call (.Name x p) (e::es) [] pos) (pL sp dvs E t):=by
 intro pins s σ H Q I h;refine wpAny_Call_Name_kw (Gv I hg hm ?_ hdb);refine PySem.W.callWith_K (h₀:=X.base) I.ok.mod.kin hk (thn (ha pos pins s σ H _ I h) fun us s1 ⟨vs,H1,I1,r,q⟩=>⟨I1.kIn,?_⟩) he hpl;exact aH F hr hb hd hx I1 r q
theorem aJ (F:FnOk X.prog X.w X.K X.mg X.base CX k f fd ps sp) (hr:Room k X.A) (hg:Gl X x) (hm:X.mg x=some (.ref f)) (hk:PySem.W.keepIn X.K (.ref f)=true) (hb:Binds X.K fd ps ds) (hd:Vals dvs ds) (hx:Et CX X E)
  (hdb:(x==("__debug__":Str))=false:=by decide):PE X (.Call (.Name x p) [] [] pos) (pL sp dvs E rZ):=by
 intro pins s σ H Q I h;refine wpAny_Call_Name_kw (Gv I hg hm ?_ hdb);exact PySem.W.callWith_K0 I.kIn hk (aH (us:=[]) F hr hb hd hx I .nil h)
structure Mk (K:PySem.W.Frag) (C f:Addr):Prop where
 makes:PySem.W.makesIn K C=true
 init:PySem.W.findIn K (.ref C) "__init__"=some (some (.ref f))
 fn:PySem.W.isFn K (.ref f)=true
 kp:PySem.W.keepIn K (.ref C)=true
end
section
variable {X:Cx}{CX:CXT}{k:Nat}{f C:Addr}{fd:FuncData}{ps ks:List Str}{sp:Sp}{E:XK}{x m:Str}{p pos apos kpos:Pos}{e o:Expr}{es:List Expr}{kws:List Keyword}{te ta:TE}{t tk:TA}{nm:Option Str}
variable {g:List Value->List Value->List Value}{gV:List V->List V->List V}
end
structure FnScope (N P:List Str) (sc:Scope):Prop where
 kind:sc.kind=.function
 co:sc.isCoroutine=false
 gen:sc.isGenerator=false
 nd:N.Nodup
 pre:N.take P.length=P
 par:∀ x∈P,sc.names.lookup x=some .local\/sc.names.lookup x=some .cell
 nofree:∀ y∈sc.names,y.2≠.free
theorem Oh {kindOf:Str->Option NameKind}{x:Str}:∀ {binds:List (Str×Value)}{m:Str->Option Value},(∀ v,(x,v) ∉ binds)->bindL kindOf binds m x=m x
 | [],_,_=>rfl
 | (n,v)::r,m,h=>by
  unfold bindL;rw [Oh fun w hw=>h w (List.mem_cons_of_mem _ hw)];split
  ·have:x≠n:=by rintro rfl;exact h v List.mem_cons_self
   simp [this]
  ·rfl
theorem Oi {kindOf:Str->Option NameKind}{x:Str}:∀ {binds:List (Str×Value)}{m:Str->Option Value},(∀ v,(x,v) ∉ binds)->bindC kindOf binds m x=m x
 | [],_,_=>rfl
 | (n,v)::r,m,h=>by
  unfold bindC;rw [Oi fun w hw=>h w (List.mem_cons_of_mem _ hw)];split
  ·rfl
  ·have:x≠n:=by rintro rfl;exact h v List.mem_cons_self
   simp [this]
theorem Oj {kindOf:Str->Option NameKind}{x:Str}{v:Value}:∀ {P:List Str}{vs:List Value}{i:Nat}{m:Str->Option Value},P.Nodup->P[i]?=some x->vs[i]?=some v->kindOf x=some .local ->
  bindL kindOf (P.zip vs) m x=some v
 | [],_,_,_,_,h,_,_=>by simp at h
 | _::_,[],_,_,_,_,h,_=>by simp at h
 | p::P,w::vs,0,m,nd,h1,h2,hk=>by
  simp at h1 h2;subst h1;subst h2;show bindL kindOf ((p,w)::P.zip vs) m p=_;unfold bindL;rw [Oh fun v hv=>(List.nodup_cons.mp nd).1 (List.of_mem_zip hv).1,if_pos hk];simp
 | p::P,w::vs,i+1,m,nd,h1,h2,hk=>by
  show bindL kindOf ((p,w)::P.zip vs) m x=_;unfold bindL;exact Oj (i:=i) (List.nodup_cons.mp nd).2 (by simpa using h1) (by simpa using h2) hk
theorem Ol {kindOf:Str->Option NameKind}{x:Str}{v:Value}:∀ {P:List Str}{vs:List Value}{i:Nat}{m:Str->Option Value},P.Nodup->P[i]?=some x->vs[i]?=some v->kindOf x≠some .local ->
  bindC kindOf (P.zip vs) m x=some v
 | [],_,_,_,_,h,_,_=>by simp at h
 | _::_,[],_,_,_,_,h,_=>by simp at h
 | p::P,w::vs,0,m,nd,h1,h2,hk=>by
  simp at h1 h2;subst h1;subst h2;show bindC kindOf ((p,w)::P.zip vs) m p=_;unfold bindC;rw [Oi fun v hv=>(List.nodup_cons.mp nd).1 (List.of_mem_zip hv).1,if_neg hk];simp
 | p::P,w::vs,i+1,m,nd,h1,h2,hk=>by
  show bindC kindOf ((p,w)::P.zip vs) m x=_;unfold bindC;exact Ol (i:=i) (List.nodup_cons.mp nd).2 (by simpa using h1) (by simpa using h2) hk
noncomputable def start (N:List Str) (vs:List V):St:=vs.map some++List.replicate (N.length - vs.length) none
noncomputable def Lk (CX:CXT) (P:Program) (w:World) (K:PySem.W.Frag) (mg:Str->Option Value) (base:Heap) (N:List Str) (qual:Str) (scope:Scope) (f:Addr) (cd:Value) (A:Around) (outer:List Env) (s:Shared) (H:Hp) (E:XK):Cx where
 prog:=P
 w:=w
 K:=K
 mg:=mg
 base:=base
 A:=A.deeper (envOfC qual scope s.heap.objs.size f cd)
 N:=N
 s₀:=s
 H₀:=H
 env:=envOfC qual scope s.heap.objs.size f cd
 outer:=outer
 stack:=envOfC qual scope s.heap.objs.size f cd::outer
 ex:=[]
 calm:=true
 fn:=fun _=>true
 pn:=[]
 xe:=fun e s'=>wpAny (model P w) (A.deeper (envOfC qual scope s.heap.objs.size f cd)) (leaving (envOfC qual scope s.heap.objs.size f cd) e) (fun _ s''=>CX outer H s E e s'') (fun e' s''=>CX outer H s E e' s'') s'
theorem Rz {sc:Scope}{n:Nat}{x:Str}(h:sc.names.lookup x=some .cell):∃ c,(cellsFrom n sc.names []).lookup x=some c:=by
 have q:=PySem.W.cellsFrom_some sc.names n [] (.inl h);exact Option.isSome_iff_exists.mp q
theorem X6 {CX:CXT}{P:Program}{w:World}{K:PySem.W.Frag}{mg:Str->Option Value}{base:Heap}{N ps:List Str}{qual:Str}{scope:Scope}{f:Addr}{cd:Value}{A:Around}{outer:List Env}{s s1:Shared}{H:Hp}{E:XK}{us:List Value}{vs:List V}
  (S:FnScope N ps scope) (hd:A.handled=none) (e0:Env0 P w K mg base A outer s H) (hl:vs.length=ps.length) (r:Vals vs us)
  (x:InCallC s s.heap.objs.size (bindL (envOfC qual scope s.heap.objs.size f cd).kindOf (ps.zip us) fun _=>none) (cellsFrom (s.heap.objs.size+1) scope.names []) (bindC (envOfC qual scope s.heap.objs.size f cd).kindOf (ps.zip us) fun _=>none) s1) :
  Inv (Lk CX P w K mg base N qual scope f cd A outer s H E) [] (start N vs) H s1:=by
 have hpl:ps.length<=N.length:=by have:=congrArg List.length S.pre;rw [List.length_take] at this;omega
 obtain ⟨h1,tk,rfl,hk⟩:=x.done;have noA:∀ b:Addr,b ∉ (Lk CX P w K mg base N qual scope f cd A outer s H E).ex:=fun b z=>absurd (show b∈([]:List Addr) from z) (by simp)
 refine ⟨⟨e0.mod,S.kind,rfl,rfl,Nat.le_refl _,fun y z c h1 h2=>?_,fun y hy=>?_,fun y c _ h=>?_,fun _=>hd,Around.frames_deeper e0.frames,.inr ⟨rfl,rfl⟩,fun b z=>absurd z (noA b),e0.bs,e0.bsz,fun b _ _=>noA b,fun b z=>absurd z (noA b),e0.funs,e0.frf⟩,
  rfl,e0.bare,Un.kept hk,⟨_,x.toInCall.ns,fun i y v h1 h2 h3=>?_⟩,fun y c h=>⟨_,x.cell y c h⟩,e0.hok.fresh (Nat.le_refl _),fun y c h=>?_,fun p hp=>absurd (show p∈([]:List (Addr×Obj)) from hp) (by simp),e0.hok.kept hk,?_⟩
 ·exact name_of_addr x.apart (PySem.mem_of_lookup h1) (PySem.mem_of_lookup h2)
 ·have hy:scope.names.lookup y=some .cell\/scope.names.lookup y=some .free:=hy;rcases hy with hy|hy
  ·exact Rz hy
  ·exact absurd rfl (S.nofree _ (PySem.mem_of_lookup hy))
 ·exact Nat.le_of_lt (x.above y c (PySem.mem_of_lookup h))
 ·have hi:i < vs.length:=by
   unfold start at h2
   by_cases hi:i < vs.length
   ·exact hi
   ·rw [List.getElem?_append_right (by simpa using hi)] at h2;rw [List.getElem?_replicate] at h2;split at h2 <;> cases h2
  have ha:vs[i]?=some v:=by
   unfold start at h2;rw [List.getElem?_append_left (by simpa using hi),List.getElem?_map] at h2;cases e:vs[i]? with
   | none=>rw [e] at h2;cases h2
   | some a=>rw [e] at h2;cases h2;rfl
  obtain ⟨u,hu,rv⟩:=r.get ha;have hp:ps[i]?=some y:=by
   rw [← S.pre,List.getElem?_take_of_lt (by omega)];exact h1
  have ndP:ps.Nodup:=by rw [← S.pre];exact S.nd.sublist (List.take_sublist _ _)
  refine ⟨u,rv,?_⟩;rcases S.par y (List.mem_of_getElem? hp) with k|k
  ·exact .inl ⟨k,Oj ndP hp hu k⟩
  ·obtain ⟨c,e⟩:=Rz (n:=s.heap.objs.size+1) k;refine .inr ⟨.inl k,c,e,?_⟩;have q:=x.cell y c e;rw [Ol ndP hp hu (by show scope.names.lookup y≠_;rw [k];decide)] at q;exact q
 ·exact e0.hok.fresh (Nat.le_of_lt (x.above y c (PySem.mem_of_lookup h)))
 ·unfold start;show _=N.length;rw [List.length_append,List.length_map,List.length_replicate];omega
theorem pM {CX:CXT}{P:Program}{w:World}{K:PySem.W.Frag}{mg:Str->Option Value}{base:Heap}{k:Nat}{f:Addr}{name qual:Str}{params:Arguments}{body:List Stmt}{scope:Scope}{dV kV doc pm cdv ct oc:Value}{an od:Option Addr}
  {osl:Array (Option Value)} {N ps:List Str} {sp:Sp} (lk:K.lookup f=some ⟨oc,od,.func (PySem.W.fnOf name qual params body scope dV kV doc pm an cdv ct),osl⟩) (hcd:PySem.W.codeIn K cdv qual=true) (S:FnScope N ps scope)
  (len:∀ vs H Q E,sp vs H Q E->vs.length=ps.length)
  (hbody:∀ (A:Around) (outer:List Env) (s:Shared) (H:Hp) (vs:List V) (Q:VK) (E:XK),Room k (A.deeper (envOfC qual scope s.heap.objs.size f cdv))->sp vs H Q E ->
   ∃ t,PSs (Lk CX P w K mg base N qual scope f cdv A outer s H E) body t/\t { nx:=fun _ H'=>Q .non H',rt:=Q } (start N vs) H) :
  FnOk P w K mg base CX (k+1) f (PySem.W.fnOf name qual params body scope dV kV doc pm an cdv ct) ps sp:=by
 refine ⟨len,fun A outer s H args us vs Q E hr e0 hb r hsp=>?_⟩;have hl:=len _ _ _ _ hsp;have KX:K.In s.heap:=e0.mod.kin.keeps fun b o e=>(e0.bs b o e).1
 have lim:s.heap.NoLimit:=e0.mod.nolimit.keeps fun b o e=>(e0.bs b o e).1
 have hkind:∀ y∈ps.zip us,scope.names.lookup y.1=some .local\/(scope.names.lookup y.1=some .cell/\((cellsFrom (s.heap.objs.size+1) scope.names []).lookup y.1).isSome=true):=by
  rintro ⟨n,v⟩ hy;rcases S.par n (List.of_mem_zip hy).1 with q|q
  ·exact .inl q
  ·exact .inr ⟨q,PySem.W.cellsFrom_some _ _ _ (.inl q)⟩
 refine codeAny_call_function hr.depth (KX _ _ lk) rfl S.co S.gen rfl (PySem.W.codeRec_of KX hcd) (hb _ _ _ _ ?_);refine wpAny_newFunctionEnv_cells S.kind hkind fun env he s1 x=>?_
 subst he;refine ⟨lim.keeps x.toInCall.keep,codeAny_func ?_⟩;obtain ⟨t,ht,hq⟩:=hbody A outer s H vs Q E (hr.deeper _) hsp;have I:Inv (Lk CX P w K mg base N qual scope f cdv A outer s H E) [] (start N vs) H s1:=X6 S hr.hd e0 hl r x;refine wpAny_mono (ht [] s1 (start N vs) H _ I hq) (fun fl s' hs=>?_) fun e s' hs=>hs
 have fin:∀ {σ':St} {H':Hp} {v:V} {u:Value},Inv (Lk CX P w K mg base N qual scope f cdv A outer s H E) [] σ' H' s'->RelV v u->Q v H'->CE outer P w H s Q u s' :=
  fun {σ' H' v u} J rv q=>⟨v,H',J.os,J.bare,J.base,J.hok,rv,q⟩
 cases fl with
 | ret u =>
  obtain ⟨v,σ',H',J,rv,q⟩:=hs;exact fin J rv q
 | next =>
  obtain ⟨σ',H',J,q⟩:=hs;exact fin (v:=V.non) (u:=Value.none) J rfl q
 | brk =>
  obtain ⟨_,_,_,q⟩:=hs;exact False.elim q
 | cont =>
  obtain ⟨_,_,_,q⟩:=hs;exact False.elim q
section
variable {X:Cx}{x:Str}{p pos:Pos}{e:Expr}{es:List Expr}{t:TA}{id T:String}{r:List V->Hp->VK->Prop}
noncomputable def tCB (r:List V->Hp->VK->Prop) (t:TA):TE:=fun σ H Q=>t σ H fun vs H1=>r vs H1 Q
theorem Ge (hc:Ba X (.builtin id) r) (hg:Gl X x) (hm:X.mg x=none) (hv:bootBuiltins x=some (.builtin id)) (ha:PA X (e::es) t) (hn:x ≠ "__name__":=by decide) (hdb:(x==("__debug__":Str))=false:=by decide)
  (he:starEach (e::es) X.env=(false,eval e X.env)::starEach es X.env:=by rfl) (hpl:(backTo pos (starEach es X.env)).any (·.1)=false:=by rfl):PE X (.Call (.Name x p) (e::es) [] pos) (tCB r t):=by
 intro pins s σ H Q I h;refine wpAny_Call_Name_kw (Pq I hg hm hv ?_ hn hdb);exact PyProof.Rows.callWith_builtin1 (thn (ha pos pins s σ H _ I h) fun us s1 ⟨vs,H1,I1,r1,q1⟩=>hc pins s1 σ H1 vs us Q I1 r1 q1) he hpl
theorem X7 (hc:Ba X (.type T) r) (hg:Gl X x) (hm:X.mg x=none) (hv:bootBuiltins x=some (.type T)) (ha:PA X (e::es) t) (hn:x ≠ "__name__":=by decide) (hdb:(x==("__debug__":Str))=false:=by decide)
  (he:starEach (e::es) X.env=(false,eval e X.env)::starEach es X.env:=by rfl) (hpl:(backTo pos (starEach es X.env)).any (·.1)=false:=by rfl):PE X (.Call (.Name x p) (e::es) [] pos) (tCB r t):=by
 intro pins s σ H Q I h;refine wpAny_Call_Name_kw (Pq I hg hm hv ?_ hn hdb);exact PyProof.Rows.callWith_type1 (thn (ha pos pins s σ H _ I h) fun us s1 ⟨vs,H1,I1,r1,q1⟩=>hc pins s1 σ H1 vs us Q I1 r1 q1) he hpl
end
end L2
namespace HT
open PySem PyProof.Rows
section
open PySem.SeqAt
open PySem.AutoSeq1 (wpAny_loadPart')
open PySem.MeetsSeq PySem.MeetsSeq2 PySem.MeetsSeq3
end
section
variable {prog:Program}{w:World}{A:Around}{E:Value->Shared->Prop}{s:Shared}
theorem cat_tup {t b:Addr}{vs ws:List Value}{Q:Value->Shared->Prop}(ht:IsTup s.heap t vs.toArray) (hb:IsTup s.heap b ws.toArray) (hv:vs≠[])
  (h1:ws=[]->Q (.ref t) s) (h2:ws≠[]->Q (.ref s.heap.objs.size) { s with heap:=s.heap.push { cls:=.type "tuple",data:=.seq (vs++ws).toArray } })
  (hsz:vs.length+ws.length<=sizeLine):wpAny (model prog w) A (binaryOp .Add (.ref t) (.ref b)) Q E s:=by
 obtain ⟨⟨cls,dd,data,sl⟩,ho,hc,n,hd⟩:=id ht;obtain ⟨⟨cls2,dd2,data2,sl2⟩,ho2,hc2,n2,hd2⟩:=id hb;simp only at hc hd hc2 hd2;subst hc hd hc2 hd2;have e:vs.toArray++ws.toArray=(vs++ws).toArray:=by simp
 by_cases hw:ws=[]
 ·exact concat_meets ⟨_,ho,rfl⟩ ⟨_,ho2,rfl⟩ noFill_tuple_add seq_tuple_add PySem.F.slot_tuple_add PySem.F.entry_tuple_add (PySem.F.args_tuple_add_2 _ _)
   (tuple_addW1 t b vs.toArray ws.toArray n n2 dd dd2 sl sl2 (by simpa using hv) (by simp [hw])) ⟨ho,ho2,h1 hw⟩
 ·refine concat_meets ⟨_,ho,rfl⟩ ⟨_,ho2,rfl⟩ noFill_tuple_add seq_tuple_add PySem.F.slot_tuple_add PySem.F.entry_tuple_add (PySem.F.args_tuple_add_2 _ _)
   (tuple_addW2 t b vs.toArray ws.toArray n n2 dd dd2 sl sl2 (by simpa using hv) (by simpa using hw) (by rw [List.size_toArray,List.size_toArray];exact hsz)) ⟨ho,ho2,?_⟩
  rw [e];exact h2 hw
noncomputable def sIx (n d:Nat):Option Int->Nat
 | none=>d
 | some v=>if v < 0 then (v+(n:Int)).toNat else min v.toNat n
theorem sE (n d:Nat) (hd:d<=n) (o:Option Int):sIx n d o<=n:=by
 cases o with
 | none=>exact hd
 | some v =>
  show (if v < 0 then (v+(n:Int)).toNat else min v.toNat n)<=n
  by_cases hv:v < 0
  ·rw [if_pos hv];omega
  ·rw [if_neg hv];exact Nat.min_le_right _ _
theorem Wr (v:Int) (n d:Nat):(if v < 0 then max (v+(n:Int)) 0 else min v (n:Int))=((sIx n d (some v):Nat):Int):=by
 show (if v < 0 then max (v+(n:Int)) 0 else min v (n:Int))=(((if v < 0 then (v+(n:Int)).toNat else min v.toNat n):Nat):Int)
 by_cases hv:v < 0
 ·simp only [if_pos hv];omega
 ·simp only [if_neg hv];omega
theorem U3 (lo hi:Option Int) (n:Nat):Builtin.Slice.sliceAdjust lo hi 1 (n:Int)=(((sIx n 0 lo:Nat):Int),((sIx n n hi:Nat):Int)):=by
 have h1:¬ ((1:Int) < 0):=by omega
 unfold Builtin.Slice.sliceAdjust;simp only [h1,if_false];refine Prod.ext ?_ ?_
 ·cases lo with
  | none=>rfl
  | some v=>exact Wr v n 0
 ·cases hi with
  | none=>rfl
  | some v=>exact Wr v n n
theorem U4 (i j:Nat):Builtin.Slice.slicePlaces (i:Int) (j:Int) 1=j - i:=by
 unfold Builtin.Slice.slicePlaces;have h1:(1:Int) > 0:=by omega
 simp only [h1,if_true,Int.ediv_one];split <;> omega
theorem Ln {v:Value}{o:Option Int}{Q:Option Int->Shared->Prop}(p:IsPart v o) (h:Q o s):wpAny (model prog w) A (Builtin.Slice.slicePartIndex v) Q E s:=by
 cases p with
 | none=>exact slicePart_none h
 | int i t=>exact slicePart_int h
theorem sliceApplied_gen {sl:Addr}{vl vu:Value}{lo hi:Option Int}{n:Nat}{Q:Int×Int×Nat->Shared->Prop}(hs:s.heap.IsSliceOf sl vl vu .none) (pl:IsPart vl lo) (pu:IsPart vu hi)
  (h:Q (((sIx n 0 lo:Nat):Int),1,sIx n n hi - sIx n 0 lo) s):wpAny (model prog w) A (Builtin.Slice.sliceApplied (.ref sl) (pure (n:Int))) Q E s:=by
 obtain ⟨os,hos,hcs,hds⟩:=id hs;unfold Builtin.Slice.sliceApplied Builtin.Slice.sliceFields;refine wpAny_bind (wpAny_bind (wpAny_field hos hds (x:=vl) rfl (wpAny_bind (wpAny_field hos hds (x:=vu) rfl (wpAny_bind (wpAny_field hos hds (x:=.none) rfl (wpAny_pure ?_)))))));refine wpAny_bind (slicePart_none ?_);show wpAny _ _ (if ((1:Int)==0)=true then _ else _) _ _ s;rw [if_neg (by decide)];refine wpAny_bind (Ln pl (wpAny_bind (Ln pu (wpAny_bind (wpAny_pure ?_)))));show wpAny _ _ (match Builtin.Slice.sliceAdjust lo hi 1 (n:Int) with | (lo,hi)=>pure (lo,(1:Int),Builtin.Slice.slicePlaces lo hi 1)) _ _ s;rw [U3 lo hi n];show wpAny _ _ (pure (((sIx n 0 lo:Nat):Int),(1:Int),Builtin.Slice.slicePlaces ((sIx n 0 lo:Nat):Int) ((sIx n n hi:Nat):Int) 1)) _ _ s;rw [U4];exact wpAny_pure h
theorem aK (xs:Array Value) (i k:Nat):((List.range k).filterMap fun (m:Nat)=>xs[((i:Int)+(m:Int) * 1).toNat]?).toArray=((xs.toList.drop i).take k).toArray:=by
 have e:(fun (m:Nat)=>xs[((i:Int)+(m:Int) * 1).toNat]?)=fun m=>xs[i+m]?:=by
  funext m;have:((i:Int)+(m:Int) * 1).toNat=i+m:=by omega
  rw [this]
 rw [e];have:=pick_run xs i k;rw [List.filterMap_map] at this;have e2:((fun x=>xs[x]?) ∘ fun x=>i+x)=fun m=>xs[i+m]?:=rfl
 rw [e2] at this;rw [this]
theorem getItem_tuple_cut {t sl:Addr}{items:Array Value}{vl vu:Value}{lo hi:Option Int}{Q:Value->Shared->Prop}(ht:IsTup s.heap t items) (hs:s.heap.IsSliceOf sl vl vu .none) (pl:IsPart vl lo) (pu:IsPart vu hi)
  (hw:¬ (sIx items.size 0 lo=0/\sIx items.size items.size hi=items.size))
  (h:Q (.ref s.heap.objs.size) { s with heap:=s.heap.push { cls:=.type "tuple",data:=.seq ((items.toList.drop (sIx items.size 0 lo)).take (sIx items.size items.size hi - sIx items.size 0 lo)).toArray } })
  (hsz:items.size<=sizeLine):wpAny (model prog w) A (getItem (.ref t) (.ref sl)) Q E s:=by
 have htake:sizeOk (.seq ((items.toList.drop (sIx items.size 0 lo)).take (sIx items.size items.size hi - sIx items.size 0 lo)).toArray):=by
  show ((items.toList.drop (sIx items.size 0 lo)).take (sIx items.size items.size hi - sIx items.size 0 lo)).toArray.size<=sizeLine;rw [List.size_toArray,List.length_take,List.length_drop,Array.length_toList];omega
 have hj:sIx items.size items.size hi<=items.size:=sE _ _ (Nat.le_refl _) hi;obtain ⟨os,hos,hcs,hds⟩:=id hs
 have hTs:s.TypeIs (.ref sl) "slice":=⟨os,hos,hcs⟩
 unfold getItem
 try with_reducible refine wpAny_holding ?_
 first | refine wpAny_bind (wpAny_pure ?_) | skip
 refine wpAny_bind (wpAny_sequenceKey ht.typeIs (by decide) ?_)
 refine wpAny_bind (wpAny_callSpecial?_slot (name:=Str.ofString "__getitem__") ht.typeIs PyProof.Rows.slot_tuple_getitem
  (wpAny_call_entry PyProof.Rows.slot_tuple_getitem ht.typeIs entry_tuple_getitem ?_ (args_tuple_getitem _ _)))
 show wpAny _ _ (Builtin.Tuple.tupleItemsOf (.ref t) >>= _) _ _ s;refine wpAny_bind (tupleItemsOf_ ht ?_);refine wpAny_bind (wpAny_typeOf hTs ?_);rw [if_pos (by decide)];refine wpAny_bind (sliceApplied_gen hs pl pu ?_);have hno:¬ ((((sIx items.size 0 lo:Nat):Int)==0&&(1:Int)==1&&(sIx items.size items.size hi - sIx items.size 0 lo)==items.size)=true):=by
  intro q;rw [Bool.and_eq_true,Bool.and_eq_true] at q;have q1:((sIx items.size 0 lo:Nat):Int)=0:=eq_of_beq q.1.1;have q2:sIx items.size items.size hi - sIx items.size 0 lo=items.size:=eq_of_beq q.2;exact hw ⟨by omega,by omega⟩
 show wpAny _ _ (if (((sIx items.size 0 lo:Nat):Int)==0&&(1:Int)==1&&(sIx items.size items.size hi - sIx items.size 0 lo)==items.size)=true then _ else _) _ _ s;rw [if_neg hno,aK]
 first
  | exact wpAny_bind (m:=Builtin.Tuple.tupleExact _) (wpAny_newObj_type (wpAny_pure ⟨_,rfl,wpAny_pure h⟩) htake)
  | exact wpAny_bind (m:=Builtin.Tuple.tupleExact _) (wpAny_newObj_type (wpAny_bind (wpAny_pure (wpAny_pure ⟨_,rfl,wpAny_pure h⟩))) htake)
  | exact wpAny_bind (wpAny_bind (m:=Builtin.Tuple.tupleExact _) (wpAny_newObj_type (wpAny_pure (wpAny_pure ⟨_,rfl,wpAny_pure h⟩)) htake))
  | exact wpAny_bind (wpAny_bind (m:=Builtin.Tuple.tupleExact _) (wpAny_newObj_type (wpAny_pure ⟨_,rfl,wpAny_pure h⟩) htake))
end
end HT
namespace L2
open PySem PySem.Spec PyProof.Rows
noncomputable abbrev TO:=St->Hp->(Option Int->Hp->Prop)->Prop
noncomputable def PO (X:Cx) (e:Option Expr) (t:TO):Prop :=
 ∀ (pins:List (Addr×Obj)) (s:Shared) (σ:St) (H:Hp) (Q:Option Int->Hp->Prop),Inv X pins σ H s->t σ H Q ->
  wpAny (model X.prog X.w) X.A (evalPart e X.env) (fun u s'=>∃ o H',Inv X pins σ H' s'/\IsPart u o/\Q o H') X.xe s
noncomputable def jP:TO:=fun _ H Q=>Q none H
noncomputable def yM (t:TE):TO:=fun σ H Q=>t σ H fun x H1=>∃ i,x=.int i/\Q (some i) H1
section
variable {X:Cx}{e:Expr}{te:TE}{lo hi:Option Expr}{tl th:TO}{pos p2:Pos}
theorem jQ:PO X none jP:=by
 intro pins s σ H Q I h;rw [evalPart_none];exact wpAny_pure ⟨none,H,I,.none,h⟩
theorem jR (h:PE X e te):PO X (some e) (yM te):=by
 intro pins s σ H Q I hw;rw [evalPart_some];refine thn (h pins s σ H _ I hw) ?_;rintro u s1 ⟨x,H1,I1,r1,q1⟩;obtain ⟨i,rfl,q⟩:=q1;obtain ⟨t,rfl⟩:=r1;exact ⟨some i,H1,I1,.int i t,q⟩
noncomputable def SlR (X:Cx) (r:V->Option Int->Option Int->Hp->VK->Prop):Prop :=
 ∀ (pins:List (Addr×Obj)) (s:Shared) (σ:St) (H:Hp) (x:V) (v vl vu:Value) (lo hi:Option Int) (sl:Addr) (Q:VK),Inv X pins σ H s->RelV x v->s.heap.IsSliceOf sl vl vu .none->IsPart vl lo->IsPart vu hi->r x lo hi H Q ->
  ∃ T id,typeLookup (.type T) "__getitem__"=pure (some (.builtin id))/\s.TypeIs v T/\wpAny (model X.prog X.w) X.A (getItem v (.ref sl)) (EP X pins σ Q) X.xe s
theorem SlR.or {r r':V->Option Int->Option Int->Hp->VK->Prop}(h:SlR X r) (h':SlR X r'):SlR X (fun x lo hi H Q=>r x lo hi H Q\/r' x lo hi H Q):=by
 intro pins s σ H x v vl vu lo hi sl Q I rx hs pl pu q;rcases q with q|q
 ·exact h pins s σ H x v vl vu lo hi sl Q I rx hs pl pu q
 ·exact h' pins s σ H x v vl vu lo hi sl Q I rx hs pl pu q
noncomputable def tSl (r:V->Option Int->Option Int->Hp->VK->Prop) (te:TE) (tl th:TO):TE:=fun σ H Q=>te σ H fun x H1=>tl σ H1 fun l H2=>th σ H2 fun u H3=>r x l u H3 Q
theorem aL {r:V->Option Int->Option Int->Hp->VK->Prop}(hr:SlR X r) (he:PE X e te) (hl:PO X lo tl) (hu:PO X hi th):PE X (.Subscript e (.Slice lo hi none p2) pos) (tSl r te tl th):=by
 intro pins s σ H Q I h;refine Subscript_ (thn (he pins s σ H _ I h) ?_);rintro v s1 ⟨x,H1,I1,r1,q1⟩;refine wpAny_Slice (thn (hl pins s1 σ H1 _ I1 q1) ?_);rintro vl s2 ⟨l,H2,I2,pl,q2⟩;refine thn (hu pins s2 σ H2 _ I2 q2) ?_;rintro vu s3 ⟨u,H3,I3,pu,q3⟩;rw [evalPart_none];refine wpAny_pure ?_
 have I4:Inv X pins σ H3 { s3 with heap:=s3.heap.push { cls:=.type "slice",data:=.fields #[vl,vu,.none] } }:=I3.kept (t':=s3.toks) fun b ob q=>Heap.get?_push_of_some _ q
 obtain ⟨T,id,hT,ht,hg⟩:=hr pins { s3 with heap:=s3.heap.push { cls:=.type "slice",data:=.fields #[vl,vu,.none] } } σ H3 x v vl vu l u s3.heap.objs.size Q I4 r1 (Heap.IsSliceOf.new ..) pl pu q3
 show wpAny (model X.prog X.w) X.A (subscriptTail e (.Slice lo hi none p2) v (.ref s3.heap.objs.size)) (EP X pins σ Q) X.xe { s3 with heap:=s3.heap.push { cls:=.type "slice",data:=.fields #[vl,vu,.none] } };exact tail_any (ops:=[.ref s3.heap.objs.size,v]) ht hT hg (by with_unfolding_all rfl)
noncomputable def R0 (xs:List V) (lo hi:Option Int):List V:=(xs.drop (HT.sIx xs.length 0 lo)).take (HT.sIx xs.length xs.length hi - HT.sIx xs.length 0 lo)
theorem J6 (xs:List V) (lo hi:Option Int):(R0 xs lo hi).length<=xs.length:=by
 unfold R0;rw [List.length_take,List.length_drop];omega
noncomputable def Aa7 (K:PySem.W.Frag):V->Option Int->Option Int->Hp->VK->Prop:=fun x lo hi H Q=>∃ a xs,x=.ref a/\SqT K H a xs /\
 ¬ (HT.sIx xs.length 0 lo=0/\HT.sIx xs.length xs.length hi=xs.length)/\∀ p,H p=none->Q (.ref p) (upd H p (.tup (R0 xs lo hi)))
theorem sG:SlR X (Aa7 X.K):=by
 intro pins s σ H x v vl vu lo hi sl Q I rx hs pl pu h;obtain ⟨a,xs,rfl,hx,hw,q⟩:=h;cases rx;obtain ⟨its,r,ht,hz⟩:=I.tuple hx;have hlen:its.toArray.size=xs.length:=by rw [List.size_toArray];exact r.length.symm
 refine ⟨"tuple",_,PyProof.Rows.slot_tuple_getitem.lookup,ht.typeIs,?_⟩;refine HT.getItem_tuple_cut ht hs pl pu (by rw [hlen];exact hw) ?_ (by rw [hlen];exact hz);rw [hlen];refine ⟨.ref s.heap.objs.size,_,I.laid (t':=s.toks) (o:=.tup (R0 xs lo hi)) (fun b ob q=>Heap.get?_push_of_some _ q) (Nat.le_refl _) ?_,rfl,q _ (I.hok.fresh (Nat.le_refl _))⟩;exact ⟨Nat.le_trans (J6 xs lo hi) hz,_,(r.drop (HT.sIx xs.length 0 lo)).take (HT.sIx xs.length xs.length hi - HT.sIx xs.length 0 lo),Nv.new _ _⟩
noncomputable def yN (K:PySem.W.Frag):R2:=fun x y H Q=>∃ a b xs ys,x=.ref a/\y=.ref b/\SqT K H a xs/\SqT K H b ys/\xs≠[]/\xs.length+ys.length<=sizeLine /\
 (ys=[]->Q (.ref a) H)/\(ys≠[]->∀ p,H p=none->Q (.ref p) (upd H p (.tup (xs++ys))))
theorem Vals.nil_iff {xs:List V}{us:List Value}(r:Vals xs us):us=[] ↔ xs=[]:=by
 cases r with
 | nil=>simp
 | cons _ _=>simp
theorem jT:OpR X (binaryOp .Add) (yN X.K):=by
 intro pins s σ H x y v u Q I rx ry h;obtain ⟨a,b,xs,ys,rfl,rfl,ha,hb,hx,hz,q1,q2⟩:=h;cases rx;cases ry;obtain ⟨its,r1,p1,_⟩:=I.tuple ha;obtain ⟨its2,r2,p2,_⟩:=I.tuple hb;refine HT.cat_tup p1 p2 (fun z=>hx (r1.nil_iff.mp z)) (fun z=>⟨.ref a,H,I,rfl,q1 (r2.nil_iff.mp z)⟩) (fun z=>?_) (by rw [← r1.length,← r2.length];exact hz);refine ⟨.ref s.heap.objs.size,_,I.laid (t':=s.toks) (o:=.tup (xs++ys)) (fun b ob q=>Heap.get?_push_of_some _ q) (Nat.le_refl _) ?_,rfl,q2 (fun w=>z (r2.nil_iff.mpr w)) _ (I.hok.fresh (Nat.le_refl _))⟩;exact ⟨by rw [List.length_append];exact hz,_,r1.append r2,Nv.new _ _⟩
end
noncomputable def ixN (n:Nat) (i:Int):Option Nat:=if 0<=i then (if i < n then some i.toNat else none) else if -(n:Int)<=i then some (i+n).toNat else none
noncomputable def atI {α:Type}(xs:List α) (i:Int):Option α:=(ixN xs.length i).bind fun j=>xs[j]?
theorem Ws {n:Nat}{i:Int}{j:Nat}(h:ixN n i=some j):seqIndex? i n=some j/\j < n/\-(n:Int)<=i/\i < n:=by
 unfold ixN at h
 by_cases h0:0<=i
 ·rw [if_pos h0] at h
  by_cases h1:i < n
  ·rw [if_pos h1] at h;have e:i.toNat=j:=Option.some.inj h;exact ⟨by rw [seqIndex_of h0 h1,e],by omega,by omega,h1⟩
  ·rw [if_neg h1] at h;cases h
 ·rw [if_neg h0] at h
  by_cases h1:-(n:Int)<=i
  ·rw [if_pos h1] at h;have e:(i+n).toNat=j:=Option.some.inj h;exact ⟨by rw [seqIndex_neg (by omega) h1,e],by omega,h1,by omega⟩
  ·rw [if_neg h1] at h;cases h
theorem Pz {α:Type}{xs:List α}{i:Int}{v:α}(h:atI xs i=some v):∃ j,seqIndex? i xs.length=some j/\xs[j]?=some v/\j < xs.length/\-(xs.length:Int)<=i/\i < xs.length:=by
 unfold atI at h;cases e:ixN xs.length i with
 | none=>rw [e] at h;cases h
 | some j =>
  rw [e] at h;obtain ⟨h1,h2,h3,h4⟩:=Ws e;exact ⟨j,h1,h,h2,h3,h4⟩
theorem Fq {α:Type}{xs:List α}{j:Nat}{v:α}(h:xs[j]?=some v):atI xs (j:Int)=some v:=by
 have hj:j < xs.length:=(List.getElem?_eq_some_iff.mp h).1;have e:ixN xs.length (j:Int)=some j:=by
  unfold ixN;rw [if_pos (by omega),if_pos (by omega)];simp
 unfold atI;rw [e];exact h
noncomputable def Kw (b:Expr):Prop:=∀ o i,subscripted b false o i=operate [o,i] (getItem o i)
noncomputable def IxR (X:Cx) (r:R2):Prop :=
 ∀ (value slice:Expr) (pins:List (Addr×Obj)) (s:Shared) (σ:St) (H:Hp) (x y:V) (v u:Value) (Q:VK),Inv X pins σ H s->RelV x v->RelV y u->r x y H Q ->
  subscripted slice false v u=operate [v,u] (getItem v u)->wpAny (model X.prog X.w) X.A (subscriptTail value slice v u) (EP X pins σ Q) X.xe s
noncomputable def MtR (X:Cx) (id:String) (r:V->List V->Hp->VK->Prop):Prop :=
 ∀ (pins:List (Addr×Obj)) (s:Shared) (σ:St) (H:Hp) (x:V) (xs:List V) (v:Value) (us:List Value) (Q:VK),Inv X pins σ H s->RelV x v->Vals xs us->r x xs H Q ->
  wpAny (model X.prog X.w) X.A (call (.builtin id) (v::us)) (EP X pins σ Q) X.xe s
section
variable {X:Cx}{a b:Expr}{ta tb:TE}{pos:Pos}
theorem IxR.or {r r':R2}(h:IxR X r) (h':IxR X r'):IxR X (fun x y H Q=>r x y H Q\/r' x y H Q):=by
 intro value slice pins s σ H x y v u Q I rx ry q hs;rcases q with q|q
 ·exact h value slice pins s σ H x y v u Q I rx ry q hs
 ·exact h' value slice pins s σ H x y v u Q I rx ry q hs
theorem pN {r:R2}(hr:IxR X r) (ha:PE X a ta) (hb:PE X b tb) (hs:Kw b):PE X (.Subscript a b pos) (tOp r ta tb):=by
 intro pins s σ H Q I h;exact Subscript_ (rM ha hb I h fun v u s2 x y H2 I2 rx ry q=>hr a b pins s2 σ H2 x y v u Q I2 rx ry q (hs _ _))
noncomputable def yO (K:PySem.W.Frag):R2:=fun x y H Q=>∃ p xs i v,x=.ref p/\y=.int i/\SqL K H p xs/\atI xs i=some v/\Q v H
noncomputable def yP (K:PySem.W.Frag):R2:=fun x y H Q=>∃ p xs i v,x=.ref p/\y=.int i/\SqT K H p xs/\atI xs i=some v/\Q v H
noncomputable def yQ:R2:=fun x y H Q=>∃ z i c,x=.str z/\y=.int i/\z.length<=sizeLine/\atI z.cps.toList i=some c/\Q (.str ⟨#[c]⟩) H
theorem jU:IxR X (yO X.K):=by
 intro value slice pins s σ H x y v u Q I rx ry h hs;obtain ⟨p,xs,i,z,rfl,rfl,hq,he,q⟩:=h;cases rx;obtain ⟨t,rfl⟩:=ry;obtain ⟨its,r,pl,hz⟩:=I.list hq;obtain ⟨j,h1,h2,h3,h4,h5⟩:=Pz he;obtain ⟨w,ew,rw'⟩:=r.get h2;have hl:=r.length;have hn:=Hl;have fin:EP X pins σ Q w s:=⟨z,H,I,rw',q⟩
 by_cases h0:0<=i
 ·have hj:i.toNat=j:=by
   rw [seqIndex_of h0 h5] at h1;exact Option.some.inj h1
  exact item_listR pl.isList h0 (by omega) (by rw [hj];simpa using ew) fin hs
 ·have hj:(i+(its.toArray.size:Int)).toNat=j:=by
   rw [seqIndex_neg (by omega) h4] at h1;rw [List.size_toArray,← hl];exact Option.some.inj h1
  exact subscriptTail_builtinR (x:=w) pl.isList.typeIs slot_list_getitem.lookup
   (wpAny_getItem_list_neg (Q:=fun r s'=>r=w/\EP X pins σ Q r s') pl.isList (by omega) (by rw [List.size_toArray] <;> omega) (by omega) (by rw [hj];simpa using ew) ⟨rfl,fin⟩) hs
theorem sH:IxR X (yP X.K):=by
 intro value slice pins s σ H x y v u Q I rx ry h hs;obtain ⟨p,xs,i,z,rfl,rfl,hq,he,q⟩:=h;cases rx;obtain ⟨t,rfl⟩:=ry;obtain ⟨its,r,pl,hz⟩:=I.tuple hq;obtain ⟨j,h1,h2,h3,h4,h5⟩:=Pz he;obtain ⟨w,ew,rw'⟩:=r.get h2;have hl:=r.length;have hn:=Hl;have fin:EP X pins σ Q w s:=⟨z,H,I,rw',q⟩;exact subscriptTail_builtinR (x:=w) pl.typeIs slot_tuple_getitem.lookup
  (getItem_tuple (j:=j) (Q:=fun r s'=>r=w/\EP X pins σ Q r s') pl (by omega) (by omega) (by rw [List.size_toArray,← hl];exact h1) (by simpa using ew) ⟨rfl,fin⟩) hs
theorem sI:IxR X yQ:=by
 intro value slice pins s σ H x y v u Q I rx ry h hs;obtain ⟨z,i,c,rfl,rfl,hz,he,q⟩:=h;obtain ⟨t,rfl⟩:=rx;obtain ⟨t',rfl⟩:=ry;obtain ⟨j,h1,h2,h3,h4,h5⟩:=Pz he;have hl:z.cps.toList.length=z.length:=by simp [Str.length]
 rw [hl] at h1 h4 h5;have hn:=Hl
 exact tail_any (typeIs_str s z t) slot_str_getitem.lookup (getItem_str (c:=c) (by
  have e1:decide (i < -(2 ^ 63:Int))=false:=decide_eq_false (by omega);have e2:decide (i ≥ 2 ^ 63)=false:=decide_eq_false (by omega)
  rw [e1,e2,Bool.or_false]) (by rw [h1];simpa using h2) ⟨.str ⟨#[c]⟩,H,I.tok _,⟨_,rfl⟩,q⟩) hs
noncomputable def rIx (K:PySem.W.Frag):R2:=fun x y H Q=>yO K x y H Q\/yP K x y H Q\/yQ x y H Q
theorem sJ:IxR X (rIx X.K):=jU.or (sH.or sI)
theorem U5 (its:List Value) (n j:Nat) (u:Value):Obj.mapSeq (·.setIfInBounds j u) { cls:=.type "list",data:=.seq its.toArray n }={ cls:=.type "list",data:=.seq (its.set j u).toArray n }:=by
 simp [Obj.mapSeq]
theorem Inv.lst {pins:List (Addr×Obj)}{σ:St}{H:Hp}{s:Shared}{p:Addr}{xs:List V}(I:Inv X pins σ H s) (h:H p=some (.lst xs)) :
  ∃ (its:List Value) (n:Nat),Vals xs its/\s.heap.get? p=some { cls:=.type "list",data:=.seq its.toArray n }/\xs.length<=sizeLine:=by
 obtain ⟨z,its,n,r,e⟩:=I.hok p _ h;exact ⟨its,n,r,e,z⟩
theorem Inv.lstUpd {pins:List (Addr×Obj)}{σ:St}{H:Hp}{s:Shared}{p:Addr}{xs ys:List V}{its its':List Value}{n n':Nat}{f:Obj->Obj}(I:Inv X pins σ H s) (h:H p=some (.lst xs))
  (ho:s.heap.get? p=some { cls:=.type "list",data:=.seq its.toArray n }) (hf:f { cls:=.type "list",data:=.seq its.toArray n }={ cls:=.type "list",data:=.seq its'.toArray n' }) (r:Vals ys its') (hz:ys.length<=sizeLine) (t:Nat) :
  Inv X pins σ (upd H p (.lst ys)) { s with heap:=s.heap.update p f,toks:=t }:=by
 have e:(s.heap.update p f).get? p=some { cls:=.type "list",data:=.seq its'.toArray n' }:=by
  rw [Heap.get?_update_self f ho (by rw [hf] <;> rfl),hf]
 refine I.write (x:=p) (e:=p) (by rw [h];trivial) (.inl rfl) (fun b u hb q=>(Heap.get?_update_other _ _ (Ne.symm hb)).trans q) ⟨_,e⟩ ?_;exact ⟨hz,its',n',r,e⟩
noncomputable def yR:V->V->V->Hp->(Hp->Prop)->Prop:=fun o i v H Q=>∃ p xs k j,o=.ref p/\i=.int k/\H p=some (.lst xs)/\ixN xs.length k=some j/\Q (upd H p (.lst (xs.set j v)))
theorem set_list:yC X yR:=by
 intro pins s σ H o i v ov iv u Q I ro ri rv h;obtain ⟨p,xs,k,j,rfl,rfl,hp,hj,q⟩:=h;cases ro;obtain ⟨t,rfl⟩:=ri;obtain ⟨its,n,r,ho,hz⟩:=I.lst hp;obtain ⟨h1,h2,h3,h4⟩:=Ws hj;have hl:=r.length;have hn:=Hl;have I':Inv X pins σ (upd H p (.lst (xs.set j v))) { s with heap:=s.heap.update p (Obj.mapSeq (·.setIfInBounds j u)) } :=
  I.lstUpd hp ho (U5 its n j u) (r.set rv j) (by rw [List.length_set];exact hz) s.toks
 by_cases h0:0<=k
 ·have hk:k.toNat=j:=by
   rw [seqIndex_of h0 h4] at h1;exact Option.some.inj h1
  exact PySem.W.ki_setAt ho h0 (by omega) (by rw [List.size_toArray,← hl];exact h4) (by rw [hk];exact ⟨_,I',q⟩)
 ·have hk:(k+(its.toArray.size:Int)).toNat=j:=by
   rw [seqIndex_neg (by omega) h3] at h1;rw [List.size_toArray,← hl];exact Option.some.inj h1
  exact PySem.W.ki_setBack ho (by omega) (by rw [List.size_toArray,← hl];exact h3) (by omega) (by rw [hk];exact ⟨_,I',q⟩)
theorem P0 (lo hi:Option Int) (n:Nat):(sliceBounds lo hi none n).1=((HT.sIx n 0 lo:Nat):Int)/\(sliceBounds lo hi none n).2.1=((HT.sIx n n hi:Nat):Int)/\(sliceBounds lo hi none n).2.2=1:=by
 refine ⟨?_,?_,rfl⟩
 ·cases lo with
  | none=>simp [sliceBounds,HT.sIx]
  | some i =>
   simp only [sliceBounds,HT.sIx,Option.getD_none,show (1:Int) > 0 by decide,if_true]
   by_cases h:i < 0
   ·simp only [h,if_true] <;> omega
   ·simp only [h,if_false] <;> omega
 ·cases hi with
  | none=>simp [sliceBounds,HT.sIx]
  | some i =>
   simp only [sliceBounds,HT.sIx,Option.getD_none,show (1:Int) > 0 by decide,if_true]
   by_cases h:i < 0
   ·simp only [h,if_true] <;> omega
   ·simp only [h,if_false] <;> omega
theorem Ny (its:List Value) (lo hi:Option Int):slicePick its.toArray lo hi none=((its.drop (HT.sIx its.length 0 lo)).take (HT.sIx its.length its.length hi - HT.sIx its.length 0 lo)).toArray:=by
 obtain ⟨h1,h2,h3⟩:=P0 lo hi its.toArray.size;unfold slicePick;rw [h1,h2,h3];simp only [sliceRange_one,pick_run,List.size_toArray] <;> rfl
noncomputable def Aa8 (K:PySem.W.Frag):V->Option Int->Option Int->Hp->VK->Prop:=fun x lo hi H Q=>∃ a xs,x=.ref a/\SqL K H a xs/\∀ p,H p=none->Q (.ref p) (upd H p (.lst (R0 xs lo hi)))
theorem jV:SlR X (Aa8 X.K):=by
 intro pins s σ H x v vl vu lo hi sl Q I rx hs pl pu h;obtain ⟨a,xs,rfl,hx,q⟩:=h;cases rx;obtain ⟨its,r,ht,hz⟩:=I.list hx;have hlen:=r.length
 refine ⟨"list",_,slot_list_getitem.lookup,ht.isList.typeIs,?_⟩;refine wpAny_getItem_list_slice ht.isList hs pl pu .none (by simp) ?_ (by rw [List.size_toArray] <;> omega);rw [Ny,← hlen];refine ⟨.ref s.heap.objs.size,_,I.laid (t':=s.toks) (o:=.lst (R0 xs lo hi)) (fun b ob q=>Heap.get?_push_of_some _ q) (Nat.le_refl _) ?_,rfl,q _ (I.hok.fresh (Nat.le_refl _))⟩;exact ⟨Nat.le_trans (J6 xs lo hi) hz,_,0,(r.drop (HT.sIx xs.length 0 lo)).take (HT.sIx xs.length xs.length hi - HT.sIx xs.length 0 lo),Heap.get?_push_size _ rfl⟩
theorem Qa:Ba X (.builtin "len") (fun xs H Q=>∃ p ys,xs=[.ref p]/\(SqL X.K H p ys\/SqT X.K H p ys)/\Q (.int ys.length) H):=by
 intro pins s σ H xs us Q I r h;obtain ⟨p,ys,rfl,hq,q⟩:=h;obtain ⟨u,rfl,rx⟩:=vals1 r;cases rx;have hn:=Hl;rcases hq with hq|hq
 ·obtain ⟨its,r',pl,hz⟩:=I.list hq;have hlen:=r'.length;exact Calls.call_len_list pl.isList (by simp only [List.size_toArray] <;> omega) ⟨.int ys.length,H,I.tok _,⟨s.toks+1,by rw [List.size_toArray,hlen]⟩,q⟩
 ·obtain ⟨its,r',pl,hz⟩:=I.tuple hq;have hlen:=r'.length;exact len_tuple pl (by simp only [List.size_toArray] <;> omega) ⟨.int ys.length,H,I.tok _,⟨s.toks+1,by rw [List.size_toArray,hlen]⟩,q⟩
theorem Qc:Ba X (.builtin "len") (fun xs H Q=>∃ z,xs=[.str z]/\z.length<=sizeLine/\Q (.int z.length) H):=by
 intro pins s σ H xs us Q I r h;obtain ⟨z,rfl,hz,q⟩:=h;obtain ⟨u,rfl,t,rfl⟩:=vals1 r;have hn:=Hl;exact len_str (by omega) ⟨.int z.length,H,I.tok _,⟨_,rfl⟩,q⟩
theorem Ba.or {f:Value}{r r':List V->Hp->VK->Prop}(h:Ba X f r) (h':Ba X f r'):Ba X f (fun xs H Q=>r xs H Q\/r' xs H Q):=by
 intro pins s σ H xs us Q I rs q;rcases q with q|q
 ·exact h pins s σ H xs us Q I rs q
 ·exact h' pins s σ H xs us Q I rs q
theorem Nz:Ba X (.type "tuple") (fun xs H Q=>∃ p ys,xs=[.ref p]/\((SqL X.K H p ys/\∀ l,H l=none->Q (.ref l) (upd H l (.tup ys)))\/(SqT X.K H p ys/\Q (.ref p) H))):=by
 intro pins s σ H xs us Q I r h;obtain ⟨p,ys,rfl,h⟩:=h;obtain ⟨u,rfl,rx⟩:=vals1 r;cases rx;rcases h with ⟨hq,q⟩|⟨hq,q⟩
 ·obtain ⟨its,r',pl,hz⟩:=I.list hq;have hlen:=r'.length;refine call_tuple_list pl.isList (fun h' kp=>?_) (by simp only [List.size_toArray] <;> omega);have I1:Inv X pins σ H { s with heap:=h' }:=I.kept (t':=s.toks) kp
  have I2:Inv X pins σ (upd H h'.objs.size (.tup ys)) { s with heap:=h'.push { cls:=.type "tuple",data:=.seq its.toArray } } :=
   I1.laid (t':=s.toks) (fun b o e=>Heap.get?_push_of_some _ e) (Nat.le_refl _) (show Ej X.prog X.w _ _ _ (.tup ys) from ⟨hz,its,r',Nv.new _ _⟩)
  exact ⟨.ref h'.objs.size,_,I2,rfl,q _ (I1.hok.fresh (Nat.le_refl _))⟩
 ·obtain ⟨its,r',pl,hz⟩:=I.tuple hq;exact call_tuple_same pl ⟨.ref p,H,I,rfl,q⟩
noncomputable def tyV (K:PySem.W.Frag) (T:String) (x:V) (H:Hp):Prop:=match x with
 | .str _=>T = "str"
 | .int _=>T = "int"
 | .ref p=>(T = "list"/\∃ xs,SqL K H p xs)\/(T = "tuple"/\∃ xs,SqT K H p xs) \/
   (T = "dict"/\((∃ kvs,H p=some (.dK kvs))\/∃ kvs,H p=some (.dT kvs)))\/(T = "set"/\∃ S n,H p=some (.set S n))
 | _=>False
theorem aM {pins:List (Addr×Obj)}{σ:St}{H:Hp}{s:Shared}{T:String}{x:V}{v:Value}(I:Inv X pins σ H s) (r:RelV x v) (ty:tyV X.K T x H) :
  s.TypeIs v T/\∀ a,v=.ref a->∃ ob,s.heap.get? a=some ob/\ob.dict=none:=by
 cases x with
 | str z =>
  obtain ⟨t,rfl⟩:=r
  cases (show T = "str" from ty);exact ⟨typeIs_str s z t,fun _ e=>nomatch e⟩
 | int i =>
  obtain ⟨t,rfl⟩:=r
  cases (show T = "int" from ty);exact ⟨typeIs_int s i t,fun _ e=>nomatch e⟩
 | ref p =>
  cases r;rcases ty with ⟨rfl,xs,hq⟩|⟨rfl,xs,hq⟩|⟨rfl,hk⟩|⟨rfl,S,n,hk⟩
  ·obtain ⟨its,_,pl,_⟩:=I.list hq;refine ⟨pl.isList.typeIs,fun a e=>?_⟩;cases e;obtain ⟨o,n,e,c,hd,_⟩:=pl;exact ⟨o,e,hd⟩
  ·obtain ⟨its,_,⟨o,e,c,d,n,dd⟩,_⟩:=I.tupleP hq;refine ⟨⟨o,e,c⟩,fun a e2=>?_⟩;cases e2;exact ⟨o,e,d⟩
  ·have z:∃ o,s.heap.get? p=some o/\o.ExactDict:=by
    rcases hk with ⟨kvs,hk⟩|⟨kvs,hk⟩
    ·obtain ⟨_,_,_,_,o,_,_,e,ex,_⟩:=I.hok p _ hk;exact ⟨o,e,ex⟩
    ·obtain ⟨_,_,_,_,o,_,_,e,ex,_⟩:=I.hok p _ hk;exact ⟨o,e,ex⟩
   obtain ⟨o,e,ex⟩:=z;refine ⟨⟨o,e,ex.1⟩,fun a e2=>?_⟩;cases e2;exact ⟨o,e,ex.2.1⟩
  ·obtain ⟨o,_,_,_,e,ex,_⟩:=I.hok p _ hk;refine ⟨⟨o,e,ex.1⟩,fun a e2=>?_⟩;cases e2;exact ⟨o,e,ex.2.1⟩
 | _=>exact False.elim ty
noncomputable def Aa9 (K:PySem.W.Frag) (T:String) (r:V->List V->Hp->VK->Prop) (to:TE):TE:=fun σ H Q=>to σ H fun x H1=>tyV K T x H1/\r x [] H1 Q
noncomputable def tBM (K:PySem.W.Frag) (T:String) (r:V->List V->Hp->VK->Prop) (to:TE) (t:TA):TE:=fun σ H Q=>to σ H fun x H1=>tyV K T x H1/\t σ H1 fun xs H2=>r x xs H2 Q
variable {o e:Expr}{es:List Expr}{to:TE}{t:TA}{name:Str}{apos cpos:Pos}{T id:String}{r:V->List V->Hp->VK->Prop}
theorem sO (pa:PlainAttrs T) (slot:Slot T name id) (hty:typeOf (.builtin id)=pure (.type "method_descriptor")) (hm:MtR X id r) (ho:PE X o to)
  (hbase:attributeBase o name X.env (eval o X.env)=eval o X.env:=by rfl) (hline:(apos.endLine==cpos.line)=true:=by rfl):PE X (.Call (.Attribute o name apos) [] [] cpos) (Aa9 X.K T r to):=by
 intro pins s σ H Q I h;refine wpAny_Call_method0_late hbase hline (thn (ho pins s σ H _ I h) ?_);rintro v s1 ⟨x,H1,I1,r1,ty,q1⟩;obtain ⟨h1,h2⟩:=aM I1 r1 ty;exact ⟨T,id,pa,slot,hty,h1,h2,Calls.callWith_builtin rfl (PySem.evalArgs_none (hm pins s1 σ H1 x [] v [] Q I1 r1 .nil q1))⟩
theorem pO (pa:PlainAttrs T) (slot:Slot T name id) (hty:typeOf (.builtin id)=pure (.type "method_descriptor")) (hm:MtR X id r) (ho:PE X o to) (ha:PA X (e::es) t)
  (hbase:attributeBase o name X.env (eval o X.env)=eval o X.env:=by rfl)
  (hfew:((backTo cpos (starEach (e::es) X.env)).all (fun x=>!x.1)&&(backToKw cpos (keywordEach [] X.env)).all (fun x=>x.1.isSome)
   && decide ((e::es).length+([]:List Keyword).length+(if ([]:List Keyword).isEmpty then 0 else 1) < 30))=true:=by rfl)
  (hline:(apos.endLine==cpos.line)=true:=by rfl) (hs:starEach (e::es) X.env=(false,eval e X.env)::starEach es X.env:=by rfl) (hplain:(backTo cpos (starEach es X.env)).any (·.1)=false:=by rfl) :
  PE X (.Call (.Attribute o name apos) (e::es) [] cpos) (tBM X.K T r to t):=by
 intro pins s σ H Q I h;refine wpAny_Call_method_late hbase hfew hline rfl (thn (ho pins s σ H _ I h) ?_);rintro v s1 ⟨x,H1,I1,r1,ty,q1⟩;obtain ⟨h1,h2⟩:=aM I1 r1 ty;refine ⟨T,id,pa,slot,hty,h1,h2,?_⟩;have hA:=ha cpos pins s1 σ H1 _ I1 q1;rw [hs] at hA ⊢;refine Calls.callWith_builtin (by show (false || (backTo cpos (starEach es X.env)).any (·.1))=false;rw [hplain] <;> rfl) (Calls.evalArgs_plain ?_);refine thn hA ?_;rintro us s2 ⟨vs,H2,I2,r2,q2⟩;exact hm pins s2 σ H2 x vs v us Q I2 r1 r2 q2
end
noncomputable def MtM (X:Cx) (id:String) (r:V->List V->Hp->VK->Prop):Prop :=
 ∀ (pins:List (Addr×Obj)) (s:Shared) (σ:St) (H:Hp) (x:V) (xs:List V) (v:Value) (us:List Value) (Q:VK),Inv X pins σ H s->RelV x v->Vals xs us->r x xs H Q ->
  wpAny (model X.prog X.w) X.A (call (.builtin id) (v::us)) (EP X pins σ Q) X.xe s
theorem Vals.one {x:V}{us:List Value}(h:Vals [x] us):∃ u,us=[u]/\RelV x u:=by
 cases h with
 | cons r t=>cases t;exact ⟨_,rfl,r⟩
theorem Vals.two {x y:V}{us:List Value}(h:Vals [x,y] us):∃ u v,us=[u,v]/\RelV x u/\RelV y v:=by
 cases h with
 | cons r t =>
  obtain ⟨v,e,q⟩:=Vals.one t;subst e;exact ⟨_,_,rfl,r,q⟩
theorem Vals.zero:∀ {us:List Value},Vals [] us->us=[]
 | _,.nil=>rfl
theorem Vals.dropLast {xs:List V}{us:List Value}(h:Vals xs us):Vals xs.dropLast us.dropLast:=by
 induction h with
 | nil=>exact .nil
 | cons r t ih =>
  cases t with
  | nil=>exact .nil
  | cons q t'=>exact .cons r ih
theorem Vals.rep {xs:List V}{us:List Value}(h:Vals xs us):∀ k:Nat,Vals (List.replicate k xs).flatten (List.replicate k us).flatten
 | 0=>.nil
 | k+1=>by
  rw [List.replicate_succ,List.replicate_succ,List.flatten_cons,List.flatten_cons];exact Vals.append h (Vals.rep h k)
theorem U6 {α:Type}(l:List α):l.eraseIdx (l.length - 1)=l.dropLast:=by
 induction l with
 | nil=>rfl
 | cons a r ih =>
  cases r with
  | nil=>rfl
  | cons b r =>
   have e:(a::b::r).length - 1=((b::r).length - 1)+1:=by
    have h1:(a::b::r).length=r.length+2:=rfl;have h2:(b::r).length=r.length+1:=rfl;omega
   rw [e,List.eraseIdx_cons_succ,ih]
   all_goals rfl
theorem foldl_rep (its:List Value):∀ (k:Nat) (acc:List Value),
  List.foldl (fun x1 x2=>x1++x2) acc.toArray (List.replicate k its.toArray)=(acc++(List.replicate k its).flatten).toArray
 | 0,acc=>by simp
 | k+1,acc=>by
  have e:acc.toArray++its.toArray=(acc++its).toArray:=by simp
  have e2:(acc++its)++(List.replicate k its).flatten=acc++(List.replicate (k+1) its).flatten:=by
   rw [List.replicate_succ,List.flatten_cons,List.append_assoc]
  rw [← e2,← foldl_rep its k (acc++its),← e,List.replicate_succ,List.foldl_cons]
section
variable {X:Cx}{pins:List (Addr×Obj)}{σ:St}{H:Hp}{s:Shared}{l b:Addr}{xs ys zs:List V}
theorem Inv.lset {its its':List Value}{n:Nat}{f:Array Value->Array Value}{t':Nat}(I:Inv X pins σ H s) (hH:H l=some (.lst xs))
  (e:s.heap.get? l=some { cls:=.type "list",data:=.seq its.toArray n }) (hf:f its.toArray=its'.toArray) (hv:Vals ys its') (hz:ys.length<=sizeLine) :
  Inv X pins σ (upd H l (.lst ys)) { s with heap:=s.heap.update l (Obj.mapSeq f),toks:=t' }:=by
 have q:=PySem.IsL.update e f;rw [hf] at q;refine I.write (x:=l) (e:=l) (by rw [hH];exact trivial) (.inl rfl) (fun b' u hb hu=>(Heap.get?_update_other s.heap (Obj.mapSeq f) (Ne.symm hb)).trans hu) ⟨_,q⟩ ?_;exact ⟨hz,its',_,hv,q⟩
theorem Inv.lnew {its:List Value}{t':Nat}(I:Inv X pins σ H s) (hv:Vals ys its) (hz:ys.length<=sizeLine) :
  Inv X pins σ (upd H s.heap.objs.size (.lst ys)) { s with heap:=s.heap.push { cls:=.type "list",data:=.seq its.toArray },toks:=t' } :=
 I.laid (fun _ _ q=>Heap.get?_push_of_some _ q) (Nat.le_refl _) ⟨hz,its,0,hv,Heap.get?_push_size _ rfl⟩
theorem Inv.fresh (I:Inv X pins σ H s):H s.heap.objs.size=none:=I.hok.fresh (Nat.le_refl _)
theorem Inv.lstM (I:Inv X pins σ H s) (hH:H l=some (.lst xs)):xs.length<=sizeLine/\∃ (its:List Value) (n:Nat),Vals xs its/\xs.length=its.length/\s.heap.get? l=some { cls:=.type "list",data:=.seq its.toArray n }:=by
 obtain ⟨z,its,n,r,e⟩:=I.hok l _ hH;exact ⟨z,its,n,r,r.length,e⟩
theorem Lp {n:Nat}(h:n<=sizeLine):Builtin.List.listTooLong n=false:=by
 unfold Builtin.List.listTooLong;exact decide_eq_false (by omega)
end
section
variable {X:Cx}
noncomputable def jW:V->List V->Hp->VK->Prop:=fun x vs H Q=>∃ l xs y,x=.ref l/\vs=[y]/\H l=some (.lst xs)/\xs.length < sizeLine/\Q .non (upd H l (.lst (xs++[y])))
theorem X8:MtM X "list.append" jW:=by
 intro pins s σ H x vs v us Q I rx rv h;obtain ⟨l,xs,y,rfl,rfl,hH,hz,q⟩:=h;cases rx;obtain ⟨u,rfl,ru⟩:=rv.one;obtain ⟨z,its,n,r,hl,e⟩:=I.lstM hH;refine call_meets F.slot_list_append ⟨_,e,rfl⟩ F.entry_list_append (F.args_list_append_2 _ _) (PySem.list_append l its.toArray n u (by rw [List.size_toArray];omega)) ⟨e,?_⟩;refine ⟨.non,_,I.lset (its':=its++[u]) hH e (by simp) (r.append (.cons ru .nil)) ?_,rfl,q⟩;rw [List.length_append,List.length_singleton];omega
noncomputable def jX:V->List V->Hp->VK->Prop:=fun x vs H Q=>∃ l b xs zs,x=.ref l/\vs=[.ref b]/\H l=some (.lst xs)/\H b=some (.lst zs)/\xs.length+zs.length<=sizeLine/\Q .non (upd H l (.lst (xs++zs)))
theorem Yb:MtM X "list.extend" jX:=by
 intro pins s σ H x vs v us Q I rx rv h;obtain ⟨l,b,xs,zs,rfl,rfl,hH,hB,hz,q⟩:=h;cases rx;obtain ⟨u,rfl,ru⟩:=rv.one;cases ru;obtain ⟨z,its,n,r,hl,e⟩:=I.lstM hH;obtain ⟨z2,its2,n2,r2,hl2,e2⟩:=I.lstM hB;have hsz:its.toArray.size+its2.toArray.size<=sizeLine:=by rw [List.size_toArray,List.size_toArray];omega
 have hlong:¬ (!its.toArray.isEmpty&&Builtin.List.listTooLong (its.toArray.size+its2.toArray.size))=true:=by
  rw [Lp hsz,Bool.and_false];exact Bool.false_ne_true
 refine call_meets F.slot_list_extend ⟨_,e,rfl⟩ F.entry_list_extend (F.args_list_extend_2 _ _)
  (AutoSeq1.list_extend_list_list_0 l its.toArray n b its2.toArray n2 hlong (by rw [List.size_toArray];omega) (by omega)) ⟨e,e2,?_⟩
 refine ⟨.non,_,I.lset (its':=its++its2) hH e (by simp) (r.append r2) ?_,rfl,q⟩;rw [List.length_append];omega
noncomputable def Aba:V->List V->Hp->VK->Prop:=fun x vs H Q=>∃ l xs y,x=.ref l/\vs=[]/\H l=some (.lst xs)/\xs[xs.length - 1]?=some y/\Q y (upd H l (.lst xs.dropLast))
theorem sS:MtM X "list.pop" Aba:=by
 intro pins s σ H x vs v us Q I rx rv h;obtain ⟨l,xs,y,rfl,rfl,hH,hy,q⟩:=h;cases rx;have hus:=rv.zero;subst hus;obtain ⟨z,its,n,r,hl,e⟩:=I.lstM hH;obtain ⟨u,hu,ru⟩:=r.get hy;have hy':its.toArray[its.toArray.size - 1]?=some u:=by
  show its.toArray[its.length - 1]?=some u;rw [← Array.getElem?_toList,← hl];exact hu
 refine call_meets F.slot_list_pop ⟨_,e,rfl⟩ F.entry_list_pop (F.args_list_pop_1 _) (MeetsSeq.list_pop_last l its.toArray n u hy' (by rw [List.size_toArray];omega)) ⟨e,?_⟩;refine ⟨y,_,I.lset (its':=its.dropLast) hH e ?_ r.dropLast ?_,ru,q⟩
 ·show its.toArray.eraseIdxIfInBounds (its.toArray.size - 1)=its.dropLast.toArray;rw [List.size_toArray,List.eraseIdxIfInBounds_toArray,U6]
 ·rw [List.length_dropLast];omega
noncomputable def Abb:R2:=fun x y H Q=>∃ l b xs zs,x=.ref l/\y=.ref b/\H l=some (.lst xs)/\H b=some (.lst zs)/\xs.length+zs.length<=sizeLine/\∀ p,H p=none->Q (.ref p) (upd H p (.lst (xs++zs)))
theorem sU:OpR X (binaryOp .Add) Abb:=by
 intro pins s σ H x y v u Q I rx ry h;obtain ⟨l,b,xs,zs,rfl,rfl,hH,hB,hz,q⟩:=h;cases rx;cases ry;obtain ⟨z,its,n,r,hl,e⟩:=I.lstM hH;obtain ⟨z2,its2,n2,r2,hl2,e2⟩:=I.lstM hB;refine PySem.P.add_list e e2 ?_ (by rw [List.size_toArray,List.size_toArray];omega);have ea:its.toArray++its2.toArray=(its++its2).toArray:=by simp
 rw [ea];exact ⟨.ref _,_,I.lnew (t':=s.toks) (r.append r2) (by rw [List.length_append];omega),rfl,q _ I.fresh⟩
noncomputable def Abd:R2:=fun x y H Q=>∃ l k xs,x=.ref l/\y=.int k/\H l=some (.lst xs)/\-(2 ^ 63)<=k/\k < 2 ^ 63/\xs.length * k.toNat<=sizeLine /\
 ∀ p,H p=none->Q (.ref p) (upd H p (.lst (List.replicate k.toNat xs).flatten))
theorem len_rep {α:Type}(xs:List α) (k:Nat):(List.replicate k xs).flatten.length=k * xs.length:=by
 induction k with
 | zero=>simp
 | succ k ih=>rw [List.replicate_succ,List.flatten_cons,List.length_append,ih,Nat.succ_mul,Nat.add_comm]
theorem sV:OpR X (binaryOp .Mult) Abd:=by
 intro pins s σ H x y v u Q I rx ry h;obtain ⟨l,k,xs,rfl,rfl,hH,h1,h2,hz,q⟩:=h;cases rx;obtain ⟨t,rfl⟩:=ry;obtain ⟨z,its,n,r,hl,e⟩:=I.lstM hH;have hlen:its.toArray.size * k.toNat<=sizeLine:=by rw [List.size_toArray,← hl];exact hz
 have hcap:¬ its.toArray.size * k.toNat > (2 ^ 63 - 1) / 8:=by
  have:(sizeLine:Nat)<=(2 ^ 63 - 1) / 8:=by decide
  omega
 have hfit:¬ (!Builtin.List.listFitsIndex k)=true:=by
  rw [fitsIndex_both h1 h2];exact Bool.false_ne_true
 have hlong:¬ Builtin.List.listTooLong (its.toArray.size * k.toNat)=true:=by
  rw [Lp hlen];exact Bool.false_ne_true
 have hnew:List.foldl (fun x1 x2=>x1++x2) #[] (List.replicate (if its.toArray.isEmpty=true then 0 else k.toNat) its.toArray)=(List.replicate k.toNat its).flatten.toArray:=by
  have f0:∀ m:Nat,List.foldl (fun x1 x2=>x1++x2) #[] (List.replicate m its.toArray)=(List.replicate m its).flatten.toArray:=fun m=>by
   have:=foldl_rep its m [];rw [List.nil_append] at this;exact this
  rw [f0];cases its with
  | nil=>simp
  | cons a r'=>rw [if_neg (by simp)]
 refine wpAny_binaryOp_repeat_ref (T := "list") (U := "int") (by decide) ⟨_,e,rfl⟩ (fun s'=>typeIs_int s' k t) noFill_list_mul F.fills_int_mul F.slot_int_rmul repeat_list F.slot_int_index.lookup
  (call_meets F.slot_int_rmul (typeIs_int s k t) F.entry_int_rmul (F.args_int_rmul_2 _ _) (int___rmul___int_list k t l its.toArray n)
   ⟨e,rfl,⟨_,e,rfl⟩,call_meets F.slot_list_mul ⟨_,e,rfl⟩ F.entry_list_mul (F.args_list_mul_2 _ _) (AutoListH.list___mul___list_int_3 l its.toArray n k t hfit hcap hlong) ⟨e,?_⟩⟩)
 rw [hnew];exact ⟨.ref _,_,I.lnew (t':=s.toks) (r.rep k.toNat) (by rw [len_rep,Nat.mul_comm];exact hz),rfl,q _ I.fresh⟩
end
section
variable {prog:Program}{w:World}{A:Around}{E:Value->Shared->Prop}{s:Shared}
end
section
variable {X:Cx}
end
end L2
namespace Att
open PySem PySem.W PySem.Calls PyProof.Rows
theorem Kq {P:Params}{h:Heap}:∀ (ns:List Int) (vs:List Value),WellAll P h vs (ns.map WData.int)->IntsAre vs ns:=by
 intro ns
 induction ns with
 | nil =>
  intro vs w;rw [List.map_nil] at w;cases w;exact .nil
 | cons n ns ih =>
  intro vs w;rw [List.map_cons] at w;cases w with
  | cons a b =>
   cases a;exact .cons _ _ (ih _ b)
theorem Yc {l:OpenLaw}{n:Nat}(hn:l.most=some n) {P:Params}{h:Heap}{args:List WData}{vals:List Value}
  (hpre:l.row.toRowW.claim.pre args=true) (hwl:WellAll P h vals args) :
  ∃ a vs ns,vals=[Value.ref a]/\args=[WData.list (ns.map WData.int)]/\h.get? a=some { cls:=.type "list",data:=.seq vs.toArray }/\IntsAre vs ns/\ns.length<=n:=by
 have hsh:WShape.hasAll [] args [.list .int]=true:=(pre_splitW hpre).1;have hc:l.pre.holds [] { args:=args }=true:=(pre_splitW hpre).2;obtain ⟨d,r,rfl,h1,h2⟩:=hasAllW_cons hsh;obtain rfl:=hasAllW_nil h2;obtain ⟨xs,rfl,h3⟩:=hasW_list h1;obtain ⟨ns,rfl⟩:=items_int h3;have hlen:ns.length<=n:=by
  unfold OpenLaw.pre at hc;have h4:(WTm.not (.lt (.lit (.int (n:Int))) (.len (.arg 0)))).holds [] { args:=[.list (ns.map .int)] }=true:=by
   have h4:=(holds_andW hc).1;rw [hn] at h4;exact h4
  have h5:=condW_of h4 (w_not (w_lt w_lit (w_len_list (w_arg rfl))));rw [List.length_map] at h5;refine Nat.le_of_not_lt fun q=>?_
  have q':(n:Int) < ((ns.length:Nat):Int):=by omega
  first
   | (rw [decide_eq_true q'] at h5;exact absurd h5 (by decide))
   | (simp at h5;omega)
 cases hwl with
 | cons w1 w2 =>
  cases w2;cases w1 with
  | list ho hall=>exact ⟨_,_,ns,rfl,rfl,ho,Kq ns _ hall,hlen⟩
theorem Yd (l:OpenLaw) (args:List WData):l.row.toRowW.claim.post args (.bool true) args=true :=
 postW_of (r:=l.row.toRowW) (X:=(true==true))
  (show WShape.has [] (.bool true) .bool=true by first | rfl | decide | simp [WShape.has,WShape.arms,WShape.armsAll])
  (show (WTm.eq .res (.lit (.bool true))).value [] { args:=args,res:=some (.bool true),after:=args }=some (.bool (true==true)) from w_eq_bool (w_res rfl) w_lit) rfl
theorem attach_call {l:OpenLaw}{n:Nat}{q:Program}{loose:List Str}{XP:(Str->Option Value)->Heap->Prop}{YP:World->Heap->Prop}{d:DefRec}
  (hn:l.most=some n) (hdf:d.params.defaults=[])
  (call:∀ (w:World) (s₀ s₁:Shared) (mg mb:Str->Option Value) (fa:Addr) (o:Obj) (pm cd doc:Value) (a:Addr) (vs:List Value) (ns:List Int),
   Ground q loose [] XP w s₀ mg mb s₁.heap->YP w s₁.heap ->
   s₁.heap.get? fa=some o->o.data=.func (docDef d.name d.params d.body d.scope pm cd doc)->s₁.heap.CodeRec cd d.name->mg d.name=some (.ref fa) ->
   s₁.heap.get? a=some { cls:=.type "list",data:=.seq vs.toArray }->IntsAre vs ns->ns.length<=n->s₁.gens=#[] ->
   codeAny (model l.prog w) callerA (.call (.ref fa) ⟨[.ref a],[]⟩) (fun r s'=>r=.ok (.ret (.bool true))/\OldK s₁.heap s'.heap/\s'.os=s₁.os/\AllBare s'.gens) s₁) :
  WalkO q loose XP YP l.row.toRowW d [] (fun f vs=>PySem.call f vs):=by
 intro w s₀ s₁ mg mb G Y fa o pm cd doc dV kV ho hd hcd hD hmg hg args vals as hpre hlay hrd hwl hlo;obtain rfl:dV=.none:=Dflts.none hD hdf;obtain rfl:kV=.none:=Dflts.noKw hD;obtain ⟨a,vs,ns,rfl,rfl,hobj,hints,hlen⟩:=Yc hn hpre hwl;refine enter_call (codeAny_mono (call w s₀ s₁ mg mb fa o pm cd doc a vs ns G Y ho (fd_plain hd) hcd hmg hobj hints hlen hg) fun r s' hq=>?_);obtain ⟨rfl,h2,h3,h4⟩:=hq;exact ⟨.inl ⟨.bool true,.bool true,[],rfl,fun _=>rfl,.bool true,Yd l _,fun _=>⟨List.Pairwise.nil,fun _ hm=>(nomatch hm)⟩⟩,h2,h3,h4⟩
section
variable {prog:Program}{w:World}{A:Around}{E:Value->Shared->Prop}{s:Shared}{K:Frag}
end
end Att
namespace L2
open PySem PySem.Spec PyProof.Rows
theorem Om:∀ {vs:List Value}{ns:List Int},IntsAre vs ns->Vals (ns.map V.int) vs
 | _,_,.nil=>.nil
 | _,_,.cons n t h=>.cons ⟨t,rfl⟩ (Om h)
noncomputable def Only (H:Hp):Prop:=∀ b,H b=none\/∃ o xs,H b=some (.frz o (.lst xs))
theorem aN {P:Program}{w:World}{K:PySem.W.Frag}{mg mb:Str->Option Value}{CX:CXT}{k:Nat}{fa a:Addr}{fd:FuncData}{x:Str}{sp:Sp}{s₁:Shared}{vs:List Value}{ns:List Int}
  (KX:K.In s₁.heap) (hns:s₁.heap.Ns mainGlobals mg) (hb:s₁.heap.Ns builtinsNs mb) (hbb:∀ x:Str,x ≠ "__name__"->mb x=bootBuiltins x) (hlim:s₁.heap.NoLimit) (hg:s₁.gens=#[])
  (ha:s₁.heap.get? a=some { cls:=.type "list",data:=.seq vs.toArray }) (hi:IntsAre vs ns) (hl:ns.length<=sizeLine) (hr:Room k callerA)
  (F:∀ base:Heap,K.In base->base.Ns mainGlobals mg->FnOk P w K mg base CX k fa fd [x] sp) (hbind:∀ (s:Shared) (u:Value),BindsTo s fd ⟨[u],[]⟩ [(x,u)])
  (hsp:∀ H:Hp,Only H->SqL K H a (ns.map V.int)->sp [.ref a] H (fun v _=>v=.bl true) fun _ _ _=>False)
  (hCX:∀ H e s',CX [] H s₁ (fun _ _ _=>False) e s'->False) :
  codeAny (model P w) callerA (.call (.ref fa) ⟨[.ref a],[]⟩) (fun r s'=>r=.ok (.ret (.bool true))/\OldK s₁.heap s'.heap/\s'.os=s₁.os/\AllBare s'.gens) s₁:=by
 have rv:=Om hi;have lenV:=hi.length
 -- from an abstract heap in which nothing but the script may be tracked
 have core:∀ H:Hp,Only H->SqL K H a (ns.map V.int)->HOk P w H s₁.heap->(∀ b,H b≠none->b=a)->(H a≠none->K.lookup a=none) ->
   codeAny (model P w) callerA (.call (.ref fa) ⟨[.ref a],[]⟩) (fun r s'=>r=.ok (.ret (.bool true))/\OldK s₁.heap s'.heap/\s'.os=s₁.os/\AllBare s'.gens) s₁:=by
  intro H hO hS hok hA hK;have base_of:∀ {b:Addr} {o:Obj},s₁.heap.get? b=some o->H b=none->(Pn s₁.heap H).get? b=some o:=fun e n=>Z0 e n
  have noA:∀ {b:Addr} {o:Obj} {es:Array DictEntry} {ep:Nat},s₁.heap.get? b=some o->o.data=.dict es ep->H b=none:=fun {b o es ep} e d=>by
   cases q:H b with
   | none=>rfl
   | some u =>
    have e':b=a:=hA b (by rw [q];simp);subst e';rw [ha] at e;cases e;have d':Data.seq vs.toArray _=Data.dict es ep:=d;cases d'
  have nsK:∀ {b:Addr} {m:Str->Option Value},s₁.heap.Ns b m->(Pn s₁.heap H).Ns b m:=fun {b m} ⟨o,es,ep,e,d,r⟩=>⟨o,es,ep,base_of e (noA e d),d,r⟩
  have hKb:K.In (Pn s₁.heap H):=fun b o e=>base_of (KX b o e) (by
   cases q:H b with
   | none=>rfl
   | some u =>
    have e':b=a:=hA b (by rw [q];simp);subst e'
    rw [hK (by rw [q];simp)] at e;cases e)
  have hM:Mod K mg (Pn s₁.heap H):=⟨hKb,nsK hns,⟨mb,nsK hb,hbb⟩,let ⟨mc,h1,h2⟩:=hlim;⟨mc,nsK h1,h2⟩⟩;have e0:Env0 P w K mg (Pn s₁.heap H) callerA [] s₁ H:=⟨rfl,hM,fun b o e=>jH e,Nat.le_of_eq (Xy _ _),trivial,fun b hb=>absurd (show b∈([]:List Addr) from hb) (by simp),hok,.of_eq hg⟩;refine codeAny_mono ((F _ hKb (nsK hns)).run callerA [] s₁ H ⟨[.ref a],[]⟩ [.ref a] [.ref a] _ _ hr e0 (hbind s₁ (.ref a)) (.cons rfl .nil) (hsp H hO hS)) fun r s' h=>?_
  cases r with
  | error e=>exact (hCX H e s' h).elim
  | ok fl =>
   cases fl with
   | next=>exact False.elim h
   | brk=>exact False.elim h
   | cont=>exact False.elim h
   | ret u =>
    obtain ⟨v,H',os,bare,un,hok',r',q⟩:=h;have q':v=.bl true:=q;subst q';obtain rfl:u=Value.bool true:=r';refine ⟨rfl,OldK.of_keep fun b o e=>?_,os,bare⟩;cases q:H b with
    | none=>exact un.keep b o e q (by intro z;exact absurd (show b∈([]:List Addr) from z) (by simp)) (by simp)
    | some u =>
     rcases hO b with z|⟨ob,xs,z⟩
     ·rw [q] at z;cases z
     ·have z2:=un.frzs b ob _ z;obtain ⟨e1,_⟩:=hok b _ z;obtain ⟨e2,_⟩:=hok' b _ z2;rw [e] at e1;cases e1;exact e2
 cases hk:K.lookup a with
 | some o =>
  -- the script is one of the module's own objects
  have e:=KX a o hk;rw [ha] at e;cases e;refine core (fun _=>none) (fun _=>.inl rfl) (.inr ⟨_,vs.toArray,_,hk,rfl,rfl,rfl,by rw [List.size_toArray,lenV];exact hl,by simpa using rv⟩) (fun b u z=>by have z':(none:Option HO)=some u:=z;cases z') (fun b z=>absurd rfl z) fun z=>absurd rfl z
 | none =>
  refine core (fun b=>if b=a then some (.frz { cls:=.type "list",data:=.seq vs.toArray } (.lst (ns.map V.int))) else none) (fun b=>?_) (.inl (.inr ⟨{ cls:=.type "list",data:=.seq vs.toArray },if_pos rfl⟩)) (fun b u z=>?_) (fun b z=>?_) fun _=>hk
  ·by_cases hb:b=a
   ·exact .inr ⟨_,_,if_pos hb⟩
   ·exact .inl (if_neg hb)
  ·by_cases hb:b=a
   ·have z':=(if_pos hb).symm.trans z;cases z';subst hb;exact ⟨ha,by rw [List.length_map];exact hl,vs,_,rv,ha⟩
   ·have z':=(if_neg hb).symm.trans z;cases z'
  ·by_cases hb:b=a
   ·exact hb
   ·exact absurd (if_neg hb) z
theorem jY {l:PySem.W.OpenLaw}{n k:Nat}{q:Program}{loose:List Str}{XP:(Str->Option Value)->Heap->Prop}{YP:World->Heap->Prop}{d:DefRec}{K:Params->PySem.W.Frag}{CX:World->CXT}{sp:World->Sp}{x:Str}
  (hn:l.most=some n) (hn2:n<=sizeLine) (hdf:d.params.defaults=[]) (hr:Room k callerA)
  (hY:∀ (w:World) (h:Heap),YP w h->(K w.params).In h)
  (F:∀ (w:World) (mg:Str->Option Value) (fa:Addr) (h:Heap),(K w.params).In h->h.Ns mainGlobals mg->mg d.name=some (.ref fa) ->
   ∃ fd:FuncData,(∀ (s:Shared) (u:Value),BindsTo s fd ⟨[u],[]⟩ [(x,u)]) /\
    ∀ base:Heap,(K w.params).In base->base.Ns mainGlobals mg->FnOk l.prog w (K w.params) mg base (CX w) k fa fd [x] (sp w))
  (hsp:∀ (w:World) (H:Hp) (a:Addr) (ns:List Int),ns.length<=n->Only H->SqL (K w.params) H a (ns.map V.int)->sp w [.ref a] H (fun v _=>v=.bl true) fun _ _ _=>False)
  (hCX:∀ (w:World) (H:Hp) (s:Shared) (e:Value) (s':Shared),CX w [] H s (fun _ _ _=>False) e s'->False) :
  PySem.W.WalkO q loose XP YP l.row.toRowW d [] (fun f vs=>PySem.call f vs):=by
 refine Att.attach_call hn hdf fun w s₀ s₁ mg mb fa o pm cd doc a vs ns G Y ho hd hcd hmg hobj hints hlen hg=>?_
 have KX:=hY w _ Y;obtain ⟨fd,hb,hF⟩:=F w mg fa _ KX G.T.g hmg;exact aN KX G.T.g G.T.b G.T.builtins G.T.nolimit hg hobj hints (Nat.le_trans hlen hn2) hr hF hb (fun H hO hS=>hsp w H a ns hlen hO hS) fun H e s'=>hCX w H s₁ e s'
noncomputable def Dk (s:Stmt):Arguments:=match s with
 | .FunctionDef _ a _ _ _ _ _ _ _ _=>a
 | _=>{ posonlyargs:=[],args:=[],vararg:=none,kwonlyargs:=[],kw_defaults:=[],kwarg:=none,defaults:=[] }
noncomputable def Bj (s:Stmt):List Stmt:=match s with
 | .FunctionDef _ _ b _ _ _ _ _ _ _=>b
 | _=>[]
noncomputable def Ah (s:Stmt):Scope:=match s with
 | .FunctionDef _ _ _ _ _ _ sc _ _ _=>sc
 | _=>{ kind:=.function,names:=[],isGenerator:=false,isCoroutine:=false }
noncomputable abbrev CX0:CXT:=fun _ _ _ _ _ _=>False
noncomputable abbrev E0:XK:=fun _ _ _=>False
theorem pP {X:Cx}:Et CX0 X E0:=fun _ _ _ _ _ _ _ h=>h.elim
structure Fun (K:PySem.W.Frag) (x qual:Str) (st:Stmt) (f:Addr) (fd:FuncData):Prop where
 ex:∃ (oc:Value) (od:Option Addr) (kV doc pm:Value) (an:Option Addr) (cdv ct:Value) (osl:Array (Option Value)),
  fd=PySem.W.fnOf x qual (Dk st) (Bj st) (Ah st) .none kV doc pm an cdv ct/\K.lookup f=some ⟨oc,od,.func fd,osl⟩/\PySem.W.codeIn K cdv qual=true
 kp:PySem.W.keepIn K (.ref f)=true
section
variable {P:Program}{w:World}{K:PySem.W.Frag}{mg:Str->Option Value}{base:Heap}
theorem Fun.ok {x qual:Str}{st:Stmt}{f:Addr}{fd:FuncData}{N ps:List Str}{k:Nat}{sp:Sp}(F:Fun K x qual st f fd) (S:FnScope N ps (Ah st)) (len:∀ vs H Q E,sp vs H Q E->vs.length=ps.length)
  (hbody:∀ (cdv:Value) (A:Around) (outer:List Env) (s:Shared) (H:Hp) (vs:List V) (Q:VK) (E:XK),Room k (A.deeper (envOfC qual (Ah st) s.heap.objs.size f cdv))->sp vs H Q E ->
   ∃ t,PSs (Lk CX0 P w K mg base N qual (Ah st) f cdv A outer s H E).nox (Bj st) t/\t { nx:=fun _ H'=>Q .non H',rt:=Q } (start N vs) H):FnOk P w K mg base CX0 (k+1) f fd ps sp:=by
 obtain ⟨oc,od,kV,doc,pm,an,cdv,ct,osl,rfl,lk,hcd⟩:=F.ex;refine pM lk hcd S len fun A outer s H vs Q E hr hsp=>?_
 obtain ⟨t,h,q⟩:=hbody cdv A outer s H vs Q E hr hsp;exact ⟨t,h.nox,q⟩
theorem sW {x qual:Str}{st:Stmt}{f:Addr}{oc:Value}{od an:Option Addr}{osl:Array (Option Value)}{kV doc pm cdv ct:Value}(l:K.lookup f=some ⟨oc,od,.func (PySem.W.fnOf x qual (Dk st) (Bj st) (Ah st) .none kV doc pm an cdv ct),osl⟩)
  (c:PySem.W.codeIn K cdv qual=true) (k:PySem.W.keepIn K (.ref f)=true):Fun K x qual st f (PySem.W.fnOf x qual (Dk st) (Bj st) (Ah st) .none kV doc pm an cdv ct):=⟨⟨oc,od,kV,doc,pm,an,cdv,ct,osl,rfl,l,c⟩,k⟩
end
section
variable {X:Cx}
end
theorem Qd {A B:Prop}(h:B):if false=true then A else B:=by
 rw [if_neg Bool.false_ne_true];exact h
theorem Lq {A B:Prop}(h:A):if true=true then A else B:=by
 rw [if_pos rfl];exact h
section
variable {κ:Type} [DecidableEq κ]
end
section
variable {P:Program}{w:World}{H:Hp}{h:Heap}{a:Addr}
end
section
variable {X:Cx}{pins:List (Addr×Obj)}{σ:St}{H:Hp}{s:Shared}{a:Addr}{y v:V}{u r:Value}{o:Option V}{A:Around}{E:Value->Shared->Prop}
end
section
variable {X:Cx}{pins:List (Addr×Obj)}{σ:St}{H:Hp}{s:Shared}{a:Addr}{kvs:List (Key×V)}{k:Key}{u:Value}{A:Around}{E:Value->Shared->Prop}
end
section
variable {X:Cx}{o i e value:Expr}{pos pos' tpos:Pos}{td ty tv:TE}
end
section
variable {X:Cx}{pos:Pos}
end
section
variable {X:Cx}{pins:List (Addr×Obj)}{σ:St}{H:Hp}{s:Shared}{a:Addr}{y d:V}{u r:Value}{o:Option V}{A:Around}{E:Value->Shared->Prop}
end
section
variable {X:Cx}{o e f:Expr}{apos cpos:Pos}{td ty tx:TE}
end
section
variable {X:Cx}{pins:List (Addr×Obj)}{σ:St}{H:Hp}{s:Shared}{a:Addr}{kvs:List (Key×V)}{A:Around}{E:Value->Shared->Prop}
end
section
variable {X:Cx}{pins:List (Addr×Obj)}{σ:St}{H:Hp}{s:Shared}{a:Addr}{y:V}{u:Value}{A:Around}{E:Value->Shared->Prop}
end
theorem Lr {α β:Type}(g:α->β->β):∀ (l:List α) (f:α->β->Sem (ForInStep β)) (c:β),(∀ x∈l,∀ c,f x c=pure (.yield (g x c)))->forIn l c f=pure (l.foldl (fun c x=>g x c) c)
 | [],f,c,_=>by rw [List.forIn_nil];rfl
 | x::r,f,c,h=>by
  rw [List.forIn_cons,h x List.mem_cons_self];show (forIn r (g x c) f)=_;rw [Lr g r f (g x c) fun y hy=>h y (List.mem_cons_of_mem _ hy)];rfl
noncomputable def J7 (env:Env) (x:Str×NameKind) (cs:List (Str×Addr)):List (Str×Addr):=if x.2==.free then (x.1,(env.cells.lookup x.1).getD 0)::cs else cs
noncomputable def El (env:Env) (names:List (Str×NameKind)):List (Str×Addr):=names.foldl (fun c x=>J7 env x c) []
theorem Hf {scope:Scope}{env:Env}(h:∀ x∈scope.names,x.2=.free->∃ c,env.cells.lookup x.1=some c):closureFor scope env=pure (El env scope.names):=by
 unfold closureFor El;dsimp only;rw [Lr (J7 env)]
 ·rfl
 ·intro x hx c;obtain ⟨n,k⟩:=x;dsimp only;unfold J7
  by_cases e:(k==NameKind.free)=true
  ·obtain ⟨a,ha⟩:=h _ hx (beq_iff_eq.mp e);have ha':List.lookup n env.cells=some a:=ha;dsimp only;rw [if_pos e,if_pos e];unfold cellOf;rw [ha'];rfl
  ·dsimp only;rw [if_neg e,if_neg e]
theorem Ho {env:Env}:∀ (names:List (Str×NameKind)) (acc:List (Str×Addr)) (x:Str) (c:Addr),(x,c)∈names.foldl (fun c x=>J7 env x c) acc->(x,c)∈acc\/((x,NameKind.free)∈names/\c=(env.cells.lookup x).getD 0)
 | [],acc,x,c,h=>.inl h
 | (n,k)::r,acc,x,c,h=>by
  rcases Ho r _ x c h with q|⟨q1,q2⟩
  ·unfold J7 at q;dsimp only at q;split at q
   ·rename_i e;have e:=beq_iff_eq.mp e;rcases List.mem_cons.mp q with q|q
    ·cases q;exact .inr ⟨by rw [e];exact List.mem_cons_self,rfl⟩
    ·exact .inl q
   ·exact .inl q
  ·exact .inr ⟨List.mem_cons_of_mem _ q1,q2⟩
theorem Ls {env:Env}:∀ (names:List (Str×NameKind)) (acc:List (Str×Addr)) (x:Str),(acc.lookup x).isSome=true\/(x,NameKind.free)∈names->((names.foldl (fun c x=>J7 env x c) acc).lookup x).isSome=true
 | [],acc,x,h=>by
  rcases h with h|h
  ·exact h
  ·exact absurd h (by simp)
 | (n,k)::r,acc,x,h=>by
  refine Ls r _ x ?_;unfold J7;rcases h with h|h
  ·left;dsimp only;split
   ·rw [List.lookup_cons];split
    ·rfl
    ·exact h
   ·exact h
  ·rcases List.mem_cons.mp h with h|h
   ·cases h;left;dsimp only;rw [if_pos (by rfl),List.lookup_cons];simp
   ·exact .inr h
theorem Qe {env:Env}{names:List (Str×NameKind)}{x:Str}{c:Addr}(h:(El env names).lookup x=some c):(x,NameKind.free)∈names/\c=(env.cells.lookup x).getD 0:=by
 rcases Ho names [] x c (PySem.mem_of_lookup h) with q|q
 ·exact absurd q (by simp)
 ·exact q
theorem Oo {env:Env}{names:List (Str×NameKind)}{x:Str}(h:(x,NameKind.free)∈names):(El env names).lookup x=some ((env.cells.lookup x).getD 0):=by
 obtain ⟨c,e⟩:=Option.isSome_iff_exists.mp (Ls (env:=env) names [] x (.inr h));rw [show El env names=names.foldl (fun c x=>J7 env x c) [] from rfl,e,(Qe e).2]
theorem Cm:∀ (names:List (Str×NameKind)) (n:Nat) (acc:List (Str×Addr)) (x:Str) (c:Addr),(x,c)∈cellsFrom n names acc->(x,c)∈acc\/(n<=c/\(x,NameKind.cell)∈names)
 | [],_,_,_,_,h=>.inl h
 | (y,k)::r,n,acc,x,c,h=>by
  unfold cellsFrom at h;split at h
  ·rename_i e;have e:=beq_iff_eq.mp e;rcases Cm r (n+1) _ x c h with q|⟨q1,q2⟩
   ·rcases List.mem_cons.mp q with q|q
    ·cases q;exact .inr ⟨Nat.le_refl _,by rw [e];exact List.mem_cons_self⟩
    ·exact .inl q
   ·exact .inr ⟨by omega,List.mem_cons_of_mem _ q2⟩
  ·rcases Cm r n acc x c h with q|⟨q1,q2⟩
   ·exact .inl q
   ·exact .inr ⟨q1,List.mem_cons_of_mem _ q2⟩
theorem Eu:∀ (names:List (Str×NameKind)) (n lo:Nat) (acc:List (Str×Addr)) (x:Str) (c:Addr),lo<=n->((x,NameKind.cell)∈names\/∀ c',acc.lookup x=some c'->lo<=c')->(cellsFrom n names acc).lookup x=some c->lo<=c
 | [],_,_,acc,x,c,_,h,e=>by
  rcases h with h|h
  ·exact absurd h (by simp)
  ·exact h c e
 | (y,k)::r,n,lo,acc,x,c,hl,h,e=>by
  unfold cellsFrom at e;split at e
  ·rename_i ek;refine Eu r (n+1) lo _ x c (by omega) ?_ e;rcases h with h|h
   ·rcases List.mem_cons.mp h with h|h
    ·cases h;right;intro c' hc;rw [List.lookup_cons] at hc;rw [beq_self_eq_true] at hc;cases hc;exact hl
    ·exact .inl h
   ·right;intro c' hc;rw [List.lookup_cons] at hc;split at hc
    ·cases hc;omega
    ·exact h c' hc
  ·rename_i ek;refine Eu r n lo acc x c hl ?_ e;rcases h with h|h
   ·rcases List.mem_cons.mp h with h|h
    ·cases h;exact absurd rfl ek
    ·exact .inl h
   ·exact .inr h
theorem Ew:∀ (names:List (Str×NameKind)) (n:Nat) (acc:List (Str×Addr)),(∀ x y c,(x,c)∈acc->(y,c)∈acc->x=y)->(∀ x c,(x,c)∈acc->c < n) ->
  ∀ x y c,(x,c)∈cellsFrom n names acc->(y,c)∈cellsFrom n names acc->x=y
 | [],_,_,h,_=>h
 | (z,k)::r,n,acc,h,hb=>by
  unfold cellsFrom;split
  ·refine Ew r (n+1) _ (fun x y c hx hy=>?_) fun x c hx=>?_
   ·rcases List.mem_cons.mp hx with hx | hx <;> rcases List.mem_cons.mp hy with hy|hy
    ·cases hx;cases hy;rfl
    ·cases hx;exact absurd (hb _ _ hy) (Nat.lt_irrefl _)
    ·cases hy;exact absurd (hb _ _ hx) (Nat.lt_irrefl _)
    ·exact h x y c hx hy
   ·rcases List.mem_cons.mp hx with hx|hx
    ·cases hx;exact Nat.lt_succ_self _
    ·exact Nat.lt_succ_of_lt (hb x c hx)
  ·exact Ew r n acc h hb
theorem Dv:∀ (names:List (Str×NameKind)) (h:Heap) (acc:List (Str×Addr)) (x:Str) (c:Addr),(∀ x c,(x,c)∈acc->∃ v,h.IsCell c v)->(x,c)∈cellsFrom h.objs.size names acc->∃ v,(pushCells h names).IsCell c v
 | [],h,acc,x,c,hb,e=>hb x c e
 | (y,k)::r,h,acc,x,c,hb,e=>by
  unfold cellsFrom at e;unfold pushCells;split at e
  ·rename_i ek;rw [if_pos ek];refine Dv r _ ((y,h.objs.size)::acc) x c (fun x c hx=>?_) (by rw [Heap.size_push];exact e);rcases List.mem_cons.mp hx with hx|hx
   ·cases hx;exact ⟨none,_,Heap.get?_push_size _ rfl,rfl⟩
   ·obtain ⟨v,q⟩:=hb x c hx;exact ⟨v,q.keeps fun b o e=>Heap.get?_push_of_some _ e⟩
  ·rename_i ek;rw [if_neg ek];exact Dv r h acc x c hb e
theorem Dw:∀ (names:List (Str×NameKind)) (h:Heap),h.objs.size<=(pushCells h names).objs.size
 | [],h=>Nat.le_refl _
 | (y,k)::r,h=>by
  unfold pushCells;split
  ·refine Nat.le_trans ?_ (Dw r _);rw [Heap.size_push];omega
  ·exact Dw r h
theorem R3 {M:Model}{A:Around}{E:Value->Shared->Prop}{s:Shared}{scope:Scope}{globals:Addr}{cl:List (Str×Addr)}{qual:Str}{env:Env}{Q:Env->Shared->Prop}
  (hQ:Q (newEnv scope s.heap.objs.size globals (cellsFrom (s.heap.objs.size+1) scope.names cl) qual none .none (some env) builtinsNs) { s with heap:=pushCells (s.heap.push { cls:=.type "dict",data:=.dict #[] }) scope.names }) :
  wpAny M A (newFunctionEnv scope globals cl [] qual none .none (some env)) Q E s:=by
 simp only [newFunctionEnv,Option.isSome_some,if_true];refine wpAny_bind (wpAny_alloc ?_);refine wpAny_bind (wpAny_layCells _ (fun name kind cells=>by cases hkc:kind==NameKind.cell <;> simp [hkc]) _ _ _ _ ?_)
 rw [show ({ s with heap:=s.heap.push { cls:=.type "dict",data:=.dict #[] } }:Shared).heap.objs.size=s.heap.objs.size+1 from Heap.size_push ..];rw [List.forIn_nil];exact wpAny_bind (wpAny_pure (wpAny_pure hQ))
theorem Cp {α:Type}:∀ {l:List (Str×α)}{n:Str}{c:α},(l.map (·.1)).Nodup->(n,c)∈l->l.lookup n=some c
 | [],_,_,_,h=>absurd h (by simp)
 | (k,v)::r,n,c,nd,h=>by
  rw [List.map_cons,List.nodup_cons] at nd;rw [List.lookup_cons];rcases List.mem_cons.mp h with q|q
  ·cases q;rw [beq_self_eq_true]
  ·have:(n==k)=false:=by
    rw [beq_eq_false_iff_ne];intro e;subst e;exact nd.1 (List.mem_map.mpr ⟨(n,c),q,rfl⟩)
   rw [this];exact Cp nd.2 q
theorem Dy {env:Env}(scope:Scope) (x:Str):(relabel scope env).names.lookup x=(scope.names.lookup x).map fun k=>if (k==.free&&env.scope.kind==.function&&env.kindOf x==some .cell) then .cell else k:=by
 show (scope.names.map _).lookup x=_
 induction scope.names with
 | nil=>rfl
 | cons a r ih =>
  obtain ⟨n,k⟩:=a;rw [List.map_cons];dsimp only;rw [List.lookup_cons (b:=k)]
  by_cases e:(x==n)=true
  ·rw [e];have e':=beq_iff_eq.mp e;subst e';dsimp only;split
   ·rename_i hc;rw [List.lookup_cons,e];simp only [Option.map_some,hc,if_true]
   ·rename_i hc;rw [List.lookup_cons,e];rw [Option.map_some,if_neg hc]
  ·have e2:(x==n)=false:=by simpa using e
   rw [e2];dsimp only;split
   ·rw [List.lookup_cons,e2];exact ih
   ·rw [List.lookup_cons,e2];exact ih
structure CompOk (X:Cx) (scope:Scope):Prop where
 kind:scope.kind=.function
 nd:(scope.names.map (·.1)).Nodup
 fr:∀ x∈scope.names,x.2=.free->X.env.kindOf x.1=some .cell\/X.env.kindOf x.1=some .free
noncomputable def Bo (X:Cx) (pins:List (Addr×Obj)) (N':List Str) (scope:Scope) (C:Addr) (cells:List (Str×Addr)) (s₀:Shared) (H₀:Hp) (fp:List Addr):Cx where
 prog:=X.prog
 w:=X.w
 K:=X.K
 mg:=X.mg
 base:=X.base
 A:=X.A
 N:=N'
 s₀:=s₀
 H₀:=H₀
 env:={ scope:=relabel scope X.env,locals:=C,globals:=X.env.globals,cells:=cells,qual:=X.env.qual,func:=none,code:=X.env.code,frame:=X.env.frame,builtins:=X.env.builtins }
 outer:=X.stack
 stack:=X.stack
 ex:=fp
 fn:=fun x=>decide ((x,NameKind.cell)∈scope.names)
 calm:=X.calm
 pn:=X.pn++pins
 xe:=fun _ _=>False
noncomputable def Cap (X:Cx) (N':List Str) (scope:Scope) (σ σ0:St):Prop:=σ0.length=N'.length/\∀ (i:Nat) (x:Str) (v:V),N'[i]?=some x->σ0[i]?=some (some v) ->
 scope.names.lookup x=some .free/\∃ j:Nat,X.N[j]?=some x/\σ[j]?=some (some v)
noncomputable abbrev Am (its:List Value) (n:Nat):Obj:={ cls:=.type "list",data:=.seq its.toArray n }
section
variable {X:Cx}{pins:List (Addr×Obj)}{σ:St}{H:Hp}{s:Shared}
theorem U7 {N':List Str}{scope:Scope}{fp:List Addr}{σ0:St}(I:Inv X pins σ H s) (S:CompOk X scope) (hf:∀ b∈fp,Nx X pins H b) (hb:∀ b∈fp,∃ o,s.heap.get? b=some o) (hσ:Cap X N' scope σ σ0) :
    Inv (Bo X pins N' scope (s.heap.objs.size+1) (cellsFrom (s.heap.objs.size+1+1) scope.names (El X.env scope.names)) s H fp) [(s.heap.objs.size,Am [] 0)] σ0 H
      { s with heap:=pushCells ((s.heap.push (Am [] 0)).push { cls:=.type "dict",data:=.dict #[] }) scope.names }:=by
  have sz1:(s.heap.push (Am [] 0)).objs.size=s.heap.objs.size+1:=Heap.size_push ..
  have sz2:((s.heap.push (Am [] 0)).push { cls:=.type "dict",data:=.dict #[] }).objs.size=s.heap.objs.size+1+1:=by rw [Heap.size_push,sz1]
  have keep:∀ b o,s.heap.get? b=some o->(pushCells ((s.heap.push (Am [] 0)).push { cls:=.type "dict",data:=.dict #[] }) scope.names).get? b=some o:=fun b o e=>pushCells_keeps _ _ b o (Heap.get?_push_of_some _ (Heap.get?_push_of_some _ e))
  have capt:∀ x c,(x,c)∈El X.env scope.names->X.env.cells.lookup x=some c:=fun x c h=>by
    rcases Ho scope.names [] x c h with q|⟨q1,q2⟩
    · exact absurd q (by simp)
    · obtain ⟨c',e⟩:=I.ok.has x (S.fr _ q1 rfl);rw [e] at q2;rw [e,q2];rfl
  have cells:∀ x c,(cellsFrom (s.heap.objs.size+1+1) scope.names (El X.env scope.names)).lookup x=some c->X.env.cells.lookup x=some c\/s.heap.objs.size+1+1<=c:=fun x c h=>by
    rcases Cm _ _ _ x c (PySem.mem_of_lookup h) with q|⟨q,_⟩
    · exact .inl (capt x c q)
    · exact .inr q
  have stk:∀ b∈frs X.stack,b < s.heap.objs.size:=fun b hb=>by
    rcases Nat.lt_or_ge b s.heap.objs.size with z|z
    · exact z
    · rcases List.mem_cons.mp (I.stkSub b hb) with q|q
      · rw [q];exact I.lt
      · exact absurd q (I.nofs z)
  have fpb:∀ b∈fp,b < s.heap.objs.size:=fun b h=>let ⟨o,e⟩:=hb b h;Heap.lt_size e
  refine ⟨⟨I.ok.mod,S.kind,I.ok.glob,I.ok.blt,Nat.le_succ _,fun x y c h1 h2=>?_,fun x hx=>?_,fun x c hx h=>?_,I.ok.hd,I.ok.frames,.inl rfl,fun b hb=>⟨?_,fun x c h=>?_⟩,I.bs,Nat.le_trans I.ok.bsz I.sz,fun b o h z=>?_,fun b hb z=>?_,I.stack,I.stkFree⟩,
    rfl,I.bare,Un.kept keep,⟨fun _=>none,?_,fun i x v h1 h2 h3=>?_⟩,fun x c h=>?_,I.hok.fresh (Nat.le_succ _),fun x c h=>?_,fun p hp=>?_,I.hok.kept keep,hσ.1⟩
  · refine Ew scope.names (s.heap.objs.size+1+1) (El X.env scope.names) (fun x y c h1 h2=>I.ok.inj x y c (capt x c h1) (capt y c h2)) (fun x c h=>?_) x y c (PySem.mem_of_lookup h1) (PySem.mem_of_lookup h2);obtain ⟨v,q⟩:=I.cell x c (capt x c h);exact Nat.lt_succ_of_lt (Nat.lt_succ_of_lt q.lt)
  · have hx:(relabel scope X.env).names.lookup x=some .cell\/(relabel scope X.env).names.lookup x=some .free:=hx;rw [Dy] at hx;refine Option.isSome_iff_exists.mp (PySem.W.cellsFrom_some scope.names _ _ ?_);cases e:scope.names.lookup x with
    | none=>rw [e] at hx;rcases hx with h | h <;> cases h
    | some k =>
      cases k with
      | cell=>exact .inl rfl
      | free=>right;rw [Oo (PySem.mem_of_lookup e)];rfl
      | «local»=>rw [e] at hx;rcases hx with h | h <;> cases h
      | globalExplicit=>rw [e] at hx;rcases hx with h | h <;> cases h
      | globalImplicit=>rw [e] at hx;rcases hx with h | h <;> cases h
  · exact Nat.le_trans (Nat.le_succ_of_le (Nat.le_succ _)) (Eu scope.names _ (s.heap.objs.size+1+1) _ x c (Nat.le_refl _) (.inl (of_decide_eq_true hx)) h)
  · exact Nat.ne_of_lt (Nat.lt_succ_of_lt (fpb b hb))
  · rcases cells x c h with q|q
    · exact (hf b hb).2.2.2.2.1 x c q
    · exact Nat.ne_of_gt (Nat.lt_of_lt_of_le (fpb b hb) (by omega))
  · rcases (hf b z).2.2.2.1 with q|q
    · exact I.ok.noex b o h q
    · exact absurd (Nat.lt_of_lt_of_le (Heap.lt_size h) (Nat.le_trans I.ok.bsz q)) (Nat.lt_irrefl _)
  · rcases List.mem_cons.mp (I.stkSub b z) with q|q
    · exact (hf b hb).2.1 q
    · exact (hf b hb).2.2.1 q
  · show (pushCells _ _).Ns (s.heap.objs.size+1) _
    have n:=(Heap.Ns.new (s.heap.push (Am [] 0)) (.type "dict")).keeps (pushCells_keeps scope.names _);rw [sz1] at n;exact n
  · obtain ⟨e1,j,e2,e3⟩:=hσ.2 i x v h1 h2;obtain ⟨m,hn,hl⟩:=I.loc;have fr:=S.fr _ (PySem.mem_of_lookup e1) rfl;have vis:Vis X.env.scope x:=by
      rcases fr with q|q
      · exact .inr (.inl q)
      · exact .inr (.inr q)
    obtain ⟨u,r,l⟩:=hl j x v e2 e3 vis;refine ⟨u,r,.inr ⟨?_,?_⟩⟩
    · show (relabel scope X.env).names.lookup x=some .cell\/(relabel scope X.env).names.lookup x=some .free;rw [Dy,e1];simp only [Option.map_some];split
      · exact .inl rfl
      · exact .inr rfl
    · rcases l with ⟨k,_⟩|⟨_,c,ec,hc⟩
      · rcases fr with q | q <;> · rw [k] at q;cases q
      · refine ⟨c,?_,hc.keeps keep⟩;obtain ⟨c2,e⟩:=Option.isSome_iff_exists.mp (PySem.W.cellsFrom_some (x:=x) scope.names (s.heap.objs.size+1+1) (El X.env scope.names) (.inr (by rw [Oo (PySem.mem_of_lookup e1)];rfl)));show (cellsFrom _ _ _).lookup x=some c;rw [e];rcases Cm _ _ _ x c2 (PySem.mem_of_lookup e) with q|⟨_,q⟩
        · rw [capt x c2 q] at ec;exact ec
        · rw [Cp S.nd q] at e1;cases e1
  · refine Dv scope.names ((s.heap.push (Am [] 0)).push { cls:=.type "dict",data:=.dict #[] }) (El X.env scope.names) x c (fun x c h=>?_) ?_
    · obtain ⟨v,q⟩:=I.cell x c (capt x c h);exact ⟨v,q.keeps fun b o e=>Heap.get?_push_of_some _ (Heap.get?_push_of_some _ e)⟩
    · rw [sz2];exact PySem.mem_of_lookup h
  · rcases cells x c h with q|q
    · exact I.freeC x c q
    · exact I.hok.fresh (by omega)
  · rcases List.mem_append.mp hp with hp|hp
    · obtain ⟨q1,q2,q3,q4,q5⟩:=I.pin p hp;have lt:=Heap.lt_size q1;refine ⟨keep _ _ q1,q2,Nat.ne_of_lt (Nat.lt_succ_of_lt lt),fun z=>?_,q5⟩;rcases List.mem_cons.mp (I.stkSub p.1 z) with r|r
      · exact q3 r
      · exact q4 r
    · have e:p=(s.heap.objs.size,Am [] 0):=by simpa using hp
      subst e;refine ⟨pushCells_keeps _ _ _ _ (Heap.get?_push_of_some _ (Heap.get?_push_size _ rfl)),I.hok.fresh (Nat.le_refl _),Nat.ne_of_lt (Nat.lt_succ_self _),fun z=>?_,fun v=>by intro z;cases z⟩;exact Nat.lt_irrefl _ (stk _ z)
theorem aO {N':List Str}{scope:Scope}{fp:List Addr}{σ':St}{C:Addr}{cells:List (Str×Addr)}{H':Hp}{s':Shared}{its:List Value}{n:Nat}{ys:List V}{pl:List (Addr×Obj)}(I:Inv X pins σ H s) (hf:∀ b∈fp,Nx X pins H b)
  (J:Inv (Bo X pins N' scope C cells s H fp) ((s.heap.objs.size,Am its n)::pl) σ' H' s') (r:Vals ys its) (hz:ys.length<=sizeLine) :
  Inv X pins σ (upd H' s.heap.objs.size (.lst ys)) s':=by
 obtain ⟨p1,p2,p3,p4,p5⟩:=J.pin (s.heap.objs.size,Am its n) (List.mem_append_right _ List.mem_cons_self);have hD:H' s.heap.objs.size=none:=p2;have ne:∀ b o,s.heap.get? b=some o->b≠s.heap.objs.size:=fun b o e=>Nat.ne_of_lt (Heap.lt_size e)
 have U:=J.base;refine I.call' (ch:=fp) J.os ⟨fun b o e h1 h2 h3=>U.keep b o e h1 h2 h3,fun b o e h1 h2 h3=>U.slot b o e h1 h2 h3,fun b o e h1 h2=>?_,U.there,fun b xs e=>?_,fun b o u e=>?_,fun b ps e=>?_⟩ ?_ J.bare fun b hb=>?_
 ·rw [Al (ne b o e)];exact U.free b o e h1 h2
 ·have q:=U.tups b xs e;rw [Al (Aj q hD)];exact q
 ·have q:=U.frzs b o u e;rw [Al (Aj q hD)];exact q
 ·obtain ⟨m,q⟩:=U.tbls b ps e;exact ⟨m,by rw [Al (Aj q hD)];exact q⟩
 ·intro b u e
  by_cases hb:b=s.heap.objs.size
  ·subst hb;rw [Du] at e;cases e;exact ⟨hz,its,n,r,p1⟩
  ·rw [Al hb] at e;exact (J.hok b u e).stay (fun _ _ _ q=>q) (fun c q=>by rw [Al (Aj q hD)];exact q) fun c xs q=>by rw [Al (Aj q hD)];exact q
 ·obtain ⟨q0,q1,q2,q3,q4,q5⟩:=hf b hb;exact ⟨q3,q1,q4,q5⟩
end
section
variable {prog:Program}{w:World}{A:Around}{E:Value->Shared->Prop}{R:Result->Shared->Prop}{s:Shared}
noncomputable abbrev Wt (ifs:List Expr) (env:Env):Sem Bool:=forIn ifs true fun c r=>if r=true then do let ok ← isTrue c env (eval c env);pure (ForInStep.yield ok) else pure (ForInStep.yield r)
theorem Qf {elt target iter:Expr}{ifs:List Expr}{scope:Scope}{pos:Pos}{it acc:Value}{env:Env}(I:Nat->Shared->Prop)
  (turn:∀ n s,I n s->wpAny (model prog w) A (pyNext it) (fun r s₁=>match r with
   | none=>R (.ok .next) s₁
   | some v=>wpAny (model prog w) A (letOwnedTupleGo target it v) (fun _ s'=>wpAny (model prog w) A (assign target env v) (fun _ s₂ =>
     wpAny (model prog w) A (Wt ifs env) (fun ok s₃ =>
      if ok=true then wpAny (model prog w) A (eval elt env) (fun x s₄ =>
       wpAny (model prog w) A (call (.builtin "list.append") [acc,x]) (fun _ s₅=>∃ m,m < n/\I m s₅) (fun _ _=>False) s₄) (fun _ _=>False) s₃
      else ∃ m,m < n/\I m s₃) (fun _ _=>False) s₂) (fun _ _=>False) s') (fun _ _=>False) s₁) (fun _ _=>False) s)
  (n:Nat) (h:I n s) :
  codeAny (model prog w) A (.compLoop (.ListComp elt [⟨target,iter,ifs,0⟩] scope pos) 0 it acc env) R s:=by
 refine codeAny_loop rfl I (fun n s hI=>?_) n h;show wpAny _ A ((compTurn (.ListComp elt [⟨target,iter,ifs,0⟩] scope pos) 0 it acc env).onRaise (fun x=>do noteFrame x env;theTreesLotGoes x)) _ _ s;refine wpAny_noted ?_;rw [compTurn_list];refine wpAny_bind (wpAny_standAt (wpAny_bind (wpAny_mono (turn n s hI) (fun r s₁ h₁=>?_) fun _ _ h'=>h'.elim)));cases r with
 | none=>exact wpAny_pure h₁
 | some v =>
  refine wpAny_bind (wpAny_mono h₁ (fun _ s' h'=>?_) fun _ _ h'=>h'.elim);refine wpAny_bind (wpAny_mono h' (fun _ s₂ h₂=>wpAny_bind (wpAny_mono h₂ (fun ok s₃ h₃=>?_) fun _ _ h'=>h'.elim)) fun _ _ h'=>h'.elim);cases ok with
  | false=>exact wpAny_pure ⟨rfl,h₃⟩
  | true =>
   exact wpAny_bind (wpAny_bind (wpAny_mono h₃ (fun x s₄ h₄=>wpAny_bind (wpAny_mono h₄ (fun _ s₅ h₅=>wpAny_pure (wpAny_pure ⟨rfl,h₅⟩)) fun _ _ h'=>h'.elim)) fun _ _ h'=>h'.elim))
end
noncomputable def PIf (X:Cx) (ifs:List Expr) (t:TT):Prop :=
 ∀ (pins:List (Addr×Obj)) (s:Shared) (σ:St) (H:Hp) (Q:Bool->Hp->Prop),Inv X pins σ H s->t σ H Q->wpAny (model X.prog X.w) X.A (Wt ifs X.env) (TP X pins σ Q) X.xe s
theorem jZ {X:Cx}:PIf X [] (fun _ H Q=>Q true H):=fun pins s σ H Q I h=>wpAny_tests_nil ⟨H,I,h⟩
theorem kE {X:Cx}{c:Expr}{t:TT}(h:PT X c t):PIf X [c] t:=fun pins s σ H Q I q=>wpAny_tests_one (h pins s σ H Q I q)
noncomputable def Kept (σ0 σ2:St):Prop:=σ2.length=σ0.length/\∀ (i:Nat) v,σ0[i]?=some (some v)->σ2[i]?=some (some v)
noncomputable def aP (X:Cx) (N':List Str) (scope:Scope) (wi:TI) (g:TG) (tc:TT) (te:TE):TE:=fun σ H Q=>wi σ H fun J H1=>∃ σ0,Cap X N' scope σ σ0/\∃ W:Nat->Nat->List V->Hp->Prop,(∃ m,W 0 m [] H1)/\∀ i m acc H,W i m acc H ->
 (J.stop i H/\∀ p,H p=none->Q (.ref p) (upd H p (.lst acc))) \/
 (J.go i H/\∃ N:List V->Hp->Prop,(∀ acc' H',N acc' H'->∃ m',m' < m/\W (i+1) m' acc' H')/\∀ x H',J.yld i H x H'->g x σ0 H' fun σ2 H2=>Kept σ0 σ2/\tc σ2 H2 fun b H3=>if b=true then acc.length < sizeLine/\te σ2 H3 fun y H4=>N (acc++[y]) H4 else N acc H3)
section
variable {X:Cx}{N':List Str}{scope:Scope}{wi:TI}{g:TG}{tc:TT}{te:TE}{elt target iter:Expr}{ifs:List Expr}{pos:Pos}
theorem Lx {pins:List (Addr×Obj)}{s:Shared}{σ σ0:St}{H:Hp}{it:Addr}{fp:List Addr}{tn:Nat->Heap->Prop}{J:It}{QQ:List V->Hp->Prop}{E:Value->Shared->Prop}{RR:Value->Addr->Result->Shared->Prop}(hc:X.calm=true) (S:CompOk X scope)
  (hg:∀ pins C cells s₀ H₀ fp,PG (Bo X pins N' scope C cells s₀ H₀ fp) target g)
  (hi:∀ pins C cells s₀ H₀ fp,PIf (Bo X pins N' scope C cells s₀ H₀ fp) ifs tc)
  (he:∀ pins C cells s₀ H₀ fp,PE (Bo X pins N' scope C cells s₀ H₀ fp) elt te)
  (I:Inv X pins σ H s) (T:Turn X.prog X.w X.K target J fp it tn) (st:tn 0 s.heap) (hf:∀ b∈fp,Nx X pins H b) (hσ:Cap X N' scope σ σ0)
  (W:Nat->Nat->List V->Hp->Prop) (w0:∃ m,W 0 m [] H)
  (turn:∀ i m acc H,W i m acc H->(J.stop i H/\QQ acc H) \/
   (J.go i H/\∃ N:List V->Hp->Prop,(∀ acc' H',N acc' H'->∃ m',m' < m/\W (i+1) m' acc' H')/\∀ x H',J.yld i H x H'->g x σ0 H' fun σ2 H2=>Kept σ0 σ2/\tc σ2 H2 fun b H3=>if b=true then acc.length < sizeLine/\te σ2 H3 fun y H4=>N (acc++[y]) H4 else N acc H3))
  (hRR:∀ (C:Addr) (acc:List V) (H':Hp) (s':Shared) (m:Str->Option Value),QQ acc H'->Inv X pins σ (upd H' s.heap.objs.size (.lst acc)) s'->H' s.heap.objs.size=none->s'.heap.Ns C m->H' C=none->C≠s.heap.objs.size->s.heap.objs.size<=C->RR (.ref s.heap.objs.size) C (.ok .next) s') :
  wpAny (model X.prog X.w) X.A (newList []) (fun acc s₃=>wpAny (model X.prog X.w) X.A (newFunctionEnv scope X.env.globals (El X.env scope.names) [] X.env.qual none .none (some X.env)) (fun cenv s₄ =>
   codeAny (model X.prog X.w) X.A (.compStart (.ListComp elt [⟨target,iter,ifs,0⟩] scope pos) 0 (.ref it) acc { cenv with scope:=relabel scope X.env }) (RR acc cenv.locals) s₄) E s₃) E s:=by
 refine wpAny_newObj_type (R3 ?_);have sz1:(s.heap.push (Am [] 0)).objs.size=s.heap.objs.size+1:=Heap.size_push ..;have I0:=U7 (N':=N') (σ0:=σ0) I S hf (fun b hb=>let ⟨o,e,_⟩:=T.obj 0 _ st b hb;⟨o,e⟩) hσ
 show codeAny (model X.prog X.w) X.A (.compStart (.ListComp elt [⟨target,iter,ifs,0⟩] scope pos) 0 (.ref it) (.ref s.heap.objs.size) _) (RR (.ref s.heap.objs.size) (s.heap.push (Am [] 0)).objs.size) { s with heap:=pushCells ((s.heap.push (Am [] 0)).push { cls:=.type "dict",data:=.dict #[] }) scope.names };rw [sz1];show codeAny (model X.prog X.w) X.A (.compStart (.ListComp elt [⟨target,iter,ifs,0⟩] scope pos) 0 (.ref it) (.ref s.heap.objs.size) (Bo X pins N' scope (s.heap.objs.size+1) (cellsFrom (s.heap.objs.size+1+1) scope.names (El X.env scope.names)) s H fp).env) _ _;generalize hX':Bo X pins N' scope (s.heap.objs.size+1) (cellsFrom (s.heap.objs.size+1+1) scope.names (El X.env scope.names)) s H fp=X' at I0 ⊢
 have keep0:∀ b o,s.heap.get? b=some o->(pushCells ((s.heap.push (Am [] 0)).push { cls:=.type "dict",data:=.dict #[] }) scope.names).get? b=some o:=fun b o e=>pushCells_keeps _ _ b o (Heap.get?_push_of_some _ (Heap.get?_push_of_some _ e))
 have st0:tn 0 (pushCells ((s.heap.push (Am [] 0)).push { cls:=.type "dict",data:=.dict #[] }) scope.names):=T.keep _ _ _ st fun b _ o e=>keep0 b o e
 have hA:X'.A=X.A:=by rw [← hX'];rfl
 have hP:X'.prog=X.prog:=by rw [← hX'];rfl
 have hw:X'.w=X.w:=by rw [← hX'];rfl
 have hK:X'.K=X.K:=by rw [← hX'];rfl
 have hC:X'.calm=true:=by rw [← hX'];exact hc
 have hL:X'.env.locals=s.heap.objs.size+1:=by rw [← hX'];rfl
 have hS0:X'.s₀=s:=by rw [← hX'];rfl
 have hxe:X'.xe=fun _ _=>False:=by rw [← hX'];rfl
 have hex:X'.ex=fp:=by rw [← hX'];rfl
 have hpn:X'.pn=X.pn++pins:=by rw [← hX'];rfl
 have hgX:PG X' target g:=by rw [← hX'];exact hg _ _ _ _ _ _
 have hiX:PIf X' ifs tc:=by rw [← hX'];exact hi _ _ _ _ _ _
 have heX:PE X' elt te:=by rw [← hX'];exact he _ _ _ _ _ _
 -- the iterator's own objects,in the block
 have fpo:∀ {pl:List (Addr×Obj)} {H':Hp} {its:List Value} {n:Nat},(∀ b∈fp,H' b=none)->∀ b∈fp,Nx X' [(s.heap.objs.size,Am its n)] H' b:=fun {pl H' its n} hn b hb=>by
  obtain ⟨q0,q1,q2,q3,q4,q5⟩:=hf b hb;obtain ⟨e1,e2⟩:=I0.ok.exf b (by rw [hex];exact hb);have lt:b < s.heap.objs.size:=let ⟨o,e,_⟩:=T.obj 0 _ st b hb;Heap.lt_size e;refine ⟨hn b hb,e1,I0.ok.exfs b (by rw [hex];exact hb),.inl (by rw [hex];exact hb),e2,fun p hp=>?_⟩;rw [hpn] at hp;rcases List.mem_append.mp hp with hp|hp
  ·exact q5 p hp
  ·have e:p=(s.heap.objs.size,Am its n):=by simpa using hp
   subst e;exact Nat.ne_of_gt lt
 obtain ⟨m0,w0⟩:=w0
 have loop:codeAny (model X.prog X.w) X.A (.compLoop (.ListComp elt [⟨target,iter,ifs,0⟩] scope pos) 0 (.ref it) (.ref s.heap.objs.size) X'.env) (RR (.ref s.heap.objs.size) (s.heap.objs.size+1)) { s with heap:=pushCells ((s.heap.push (Am [] 0)).push { cls:=.type "dict",data:=.dict #[] }) scope.names }:=by
  refine Qf (fun k s'=>∃ i H' acc its n,Inv X' [(s.heap.objs.size,Am its n)] σ0 H' s'/\tn i s'.heap/\(∀ b∈fp,H' b=none)/\Vals acc its/\acc.length<=sizeLine/\W i k acc H') ?_ m0
   ⟨0,H,[],[],0,I0,st0,fun b hb=>(hf b hb).1,.nil,Nat.zero_le _,w0⟩
  rintro k s3 ⟨i,H3,acc,its,n,I3,st3,fr3,rv,hz,w3⟩;rcases turn i k acc H3 w3 with ⟨stop,qn⟩|⟨go,N,hN,step⟩
  ·have z:=T.done X' hP hw hK hC i _ s3 σ0 H3 (fun _ _=>False) I3 (fpo (pl:=[]) fr3) st3 stop;rw [hA] at z;refine thn z ?_;rintro r s4 ⟨hr,I4⟩;subst hr;obtain ⟨m,hn,_⟩:=I4.loc;rw [hL] at hn;have fC:=I4.free;rw [hL] at fC;have e:=I4;rw [← hX'] at e;exact hRR _ acc H3 s4 m qn (aO I hf e rv hz) (I4.pin (s.heap.objs.size,Am its n) (List.mem_append_right _ List.mem_cons_self)).2.1 hn fC (Nat.succ_ne_self _) (Nat.le_succ _)
  ·have z:=T.item X' hP hw hK hC i _ s3 σ0 H3 (fun _ _=>False) I3 (fpo (pl:=[]) fr3) st3 go;rw [hA] at z;refine thn z ?_;rintro r s4 ⟨u,hr,h4⟩;subst hr;refine thn h4 ?_;rintro _ s5 ⟨x,H5,I5,r5,y5,st5,fr5⟩;have I5':=I5.pinned (fpo (pl:=[]) fr5) (T.obj _ _ st5);have zg:=hgX _ s5 σ0 H5 x u _ I5' r5 (step x H5 y5);rw [hP,hw,hA,hxe] at zg;refine thn zg ?_;rintro _ s6 ⟨σ6,H6,I6,kp,q6⟩;have zi:=hiX _ s6 σ6 H6 _ I6 q6;rw [hP,hw,hA,hxe] at zi;refine thn zi ?_;rintro b s7 ⟨H7,I7,q7⟩
   -- back to the loop's head
   have back:∀ {H8:Hp} {s8:Shared} {acc':List V} {its':List Value} {n':Nat},Inv X' ([(s.heap.objs.size,Am its' n')]++Hj fp s5.heap) σ6 H8 s8->Vals acc' its'->acc'.length<=sizeLine->N acc' H8 ->
     ∃ m,m < k/\∃ i H' acc its n,Inv X' [(s.heap.objs.size,Am its n)] σ0 H' s8/\tn i s8.heap/\(∀ b∈fp,H' b=none)/\Vals acc its/\acc.length<=sizeLine/\W i m acc H':=fun {H8 s8 acc' its' n'} I8 rv' hz' n8=>by
    obtain ⟨m',hm,w8⟩:=hN acc' H8 n8;refine ⟨m',hm,i+1,H8,acc',its',n',(I8.unpinned).weak kp.1.symm kp.2,T.keep _ _ _ st5 fun b hb o e=>(I8.pin (b,o) (List.mem_append_right _ (List.mem_append_right _ (Fp hb e)))).1,fun b hb=>?_,rv',hz',w8⟩;obtain ⟨o,e,d⟩:=T.obj _ _ st5 b hb;exact (I8.pin (b,o) (List.mem_append_right _ (List.mem_append_right _ (Fp hb e)))).2.1
   cases b with
   | false =>
    rw [if_neg Bool.false_ne_true] at q7;rw [if_neg Bool.false_ne_true];exact back I7 rv hz q7
   | true =>
    rw [if_pos rfl] at q7;rw [if_pos rfl];obtain ⟨hlt,q7⟩:=q7;have ze:=heX _ s7 σ6 H7 _ I7 q7;rw [hP,hw,hA,hxe] at ze;refine thn ze ?_;rintro y s8 ⟨yv,H8,I8,r8,q8⟩;obtain ⟨p1,p2,p3,p4,p5⟩:=I8.pin (s.heap.objs.size,Am its n) (List.mem_append_right _ (List.mem_append_left _ List.mem_cons_self));have len:its.toArray.size<=sizeLine:=by
     have:=rv.length;simp only [List.size_toArray];omega
    refine wpAny_list_append_plain (hsz:=len) ⟨n,p1⟩ ?_;rintro h' ⟨n',pl⟩ sb;have pl':h'.get? s.heap.objs.size=some (Am (its++[y]) n'):=by rw [pl];simp [Am]
    have lD:s.heap.objs.size < (pushCells ((s.heap.push (Am [] 0)).push { cls:=.type "dict",data:=.dict #[] }) scope.names).objs.size:=by
     refine Nat.lt_of_lt_of_le ?_ (Dw _ _);rw [Heap.size_push,Heap.size_push];omega
    have cne:∀ z c,X'.env.cells.lookup z=some c->c≠s.heap.objs.size:=fun z c e q=>by
     obtain ⟨v,hv⟩:=I8.cell z c e;obtain ⟨o,ho,hd⟩:=hv;rw [q] at ho;rw [show s8.heap.get? s.heap.objs.size=some (Am its n) from p1] at ho;cases ho;cases hd
    have J9:Inv X' (Hj fp s5.heap) σ6 H8 { s8 with heap:=h' }:=by
     refine Inv.turned (t':=s8.toks) (it:=s.heap.objs.size) (I8.pins_of fun p hp=>I8.pin p (List.mem_append_right _ (List.mem_append_right _ hp))) (fun b o hb e=>sb.extBut b o hb e) p2 (by rw [hL];exact Nat.ne_of_lt (Nat.lt_succ_self _)) (.inr (by rw [hS0];exact Nat.le_refl _)) cne fun p hp=>?_
     rw [hpn] at hp;rcases List.mem_append.mp hp with hp|hp
     ·have:p.1 < s.heap.objs.size:=Heap.lt_size (I.pin p hp).1;exact Nat.ne_of_lt this
     ·obtain ⟨hb,_⟩:=Oe hp;have:p.1 < s.heap.objs.size:=let ⟨o,e,_⟩:=T.obj 0 _ st p.1 hb;Heap.lt_size e;exact Nat.ne_of_lt this
    have I9:Inv X' ([(s.heap.objs.size,Am (its++[y]) n')]++Hj fp s5.heap) σ6 H8 { s8 with heap:=h' }:=by
     refine J9.pins_of fun p hp=>?_
     rcases List.mem_append.mp hp with hp|hp
     ·have e:p=(s.heap.objs.size,Am (its++[y]) n'):=by simpa using hp
      subst e;exact ⟨pl',p2,p3,p4,fun v=>by intro z;cases z⟩
     ·exact J9.pin p (List.mem_append_right _ hp)
    exact back I9 (rv.append (.cons r8 .nil)) (by rw [List.length_append,List.length_singleton];omega) q8
 exact codeAny_compStart_list loop (T.self X.A 0 _ _ _ st0 loop)
theorem kI (hc:X.calm=true) (S:CompOk X scope) (hit:PI X target iter wi)
  (hg:∀ pins C cells s₀ H₀ fp,PG (Bo X pins N' scope C cells s₀ H₀ fp) target g)
  (hi:∀ pins C cells s₀ H₀ fp,PIf (Bo X pins N' scope C cells s₀ H₀ fp) ifs tc)
  (he:∀ pins C cells s₀ H₀ fp,PE (Bo X pins N' scope C cells s₀ H₀ fp) elt te)
  (hs:∀ x,foldedSetIterable iter X.env x=pure x:=by intro _;rfl) :
  PE X (.ListComp elt [⟨target,iter,ifs,0⟩] scope pos) (aP X N' scope wi g tc te):=by
 intro pins s σ H Q I h;rw [eval_ListComp];have hfree:∀ x∈scope.names,x.2=.free->∃ c,X.env.cells.lookup x.1=some c:=fun x hx e=>I.ok.has x.1 (S.fr x hx e)
 refine wpAny_comprehension_free (use:=none) rfl hs (Hf hfree) S.kind (fun x hx e=>Cp S.nd (by rw [← e];exact hx)) (thn (hit pins s σ H _ I h) fun v s1 h1=>thn h1 fun itv s2 h2=>?_);obtain ⟨it,fp,tn,J,H2,e,I2,T,st2,f2,σ0,hσ,W,w0,turn⟩:=h2;subst e;refine Lx (QQ:=fun acc H=>∀ p,H p=none->Q (.ref p) (upd H p (.lst acc))) (RR:=fun acc C=>compPost (model X.prog X.w) X.A X.xe none (EP X pins σ Q) acc C) hc S hg hi he I2 T st2 f2 hσ W w0 turn ?_;intro C acc H' s' m q I' hD hn hC hne hle;refine ⟨m,hn,fun h' sb=>?_⟩;obtain ⟨oC,_,_,hoC,_⟩:=id hn;have uC:upd H' s2.heap.objs.size (.lst acc) C=none:=by rw [Al hne];exact hC
 have hCL:C≠X.env.locals:=Nat.ne_of_gt (Nat.lt_of_lt_of_le I2.lt hle);refine ⟨.ref s2.heap.objs.size,_,I'.turned (t':=s'.toks) (it:=C) (fun b o hb e=>sb.extBut b o hb e) uC hCL (.inr (Nat.le_trans I2.sz hle)) (fun x c e z=>?_) fun p hp z=>?_,rfl,q _ hD⟩
 ·obtain ⟨v,hv⟩:=I2.cell x c e;have:=hv.lt;rw [z] at this;exact Nat.lt_irrefl _ (Nat.lt_of_lt_of_le this hle)
 ·have:=Heap.lt_size (I2.pin p hp).1;rw [z] at this;exact Nat.lt_irrefl _ (Nat.lt_of_lt_of_le this hle)
theorem U8 {y:Str}{py spos:Pos}{gy:TG}(hc:X.calm=true) (S:CompOk X scope) (hit:PI X target iter wi)
  (hg:∀ pins C cells s₀ H₀ fp,PG (Bo X pins N' scope C cells s₀ H₀ fp) target g)
  (hi:∀ pins C cells s₀ H₀ fp,PIf (Bo X pins N' scope C cells s₀ H₀ fp) ifs tc)
  (he:∀ pins C cells s₀ H₀ fp,PE (Bo X pins N' scope C cells s₀ H₀ fp) elt te)
  (hgy:PG X (.Name y py) gy)
  (hsw:swapsWith (.ListComp elt [⟨target,iter,ifs,0⟩] scope pos) (some (.Name y py)) spos.line X.env=pure true)
  (hs:∀ x,foldedSetIterable iter X.env x=pure x:=by intro _;rfl) :
  PS X (.Assign [.Name y py] (.ListComp elt [⟨target,iter,ifs,0⟩] scope pos) spos) (rH (aP X N' scope wi g tc te) gy):=by
 intro pins s σ H D I h;rw [exec_Assign_Name_used _ _ _ _ hsw];refine wpAny_bind (wpAny_standAt (wpAny_bind ?_));show wpAny _ X.A (do let _ ← comprehension (.ListComp elt [⟨target,iter,ifs,0⟩] scope pos) scope X.env _ (newList []) false (eval iter X.env) (some (assign (.Name y py) X.env))) _ _ s;have hfree:∀ x∈scope.names,x.2=.free->∃ c,X.env.cells.lookup x.1=some c:=fun x hx e=>I.ok.has x.1 (S.fr x hx e)
 refine wpAny_bind (wpAny_mono (wpAny_comprehension_free (use:=some (assign (.Name y py) X.env)) (Q:=fun _ s'=>SP X pins D .next s') rfl hs (Hf hfree) S.kind (fun x hx e=>Cp S.nd (by rw [← e];exact hx)) (thn (hit pins s σ H _ I h) fun v s1 h1=>thn h1 fun itv s2 h2=>?_))
  (fun _ s' hq=>wpAny_pure (wpAny_pure hq)) fun _ _ e=>e)
 obtain ⟨it,fp,tn,J,H2,e,I2,T,st2,f2,σ0,hσ,W,w0,turn⟩:=h2;subst e;refine Lx (QQ:=fun acc H=>∀ p,H p=none->gy (.ref p) σ (upd H p (.lst acc)) D.nx) (RR:=fun acc C=>compPost (model X.prog X.w) X.A X.xe (some (assign (.Name y py) X.env)) (fun _ s'=>SP X pins D .next s') acc C) hc S hg hi he I2 T st2 f2 hσ W w0 turn ?_;intro C acc H' s' m q I' hD hn hC hne hle;obtain ⟨oC,esC,epC,hoC,hdC⟩:=id hn;have uC:upd H' s2.heap.objs.size (.lst acc) C=none:=by rw [Al hne];exact hC
 have hCL:C≠X.env.locals:=Nat.ne_of_gt (Nat.lt_of_lt_of_le I2.lt hle);have hCfs:C ∉ X.fs:=I2.nofs hle;have pinC:Inv X (pins++[(C,oC)]) σ (upd H' s2.heap.objs.size (.lst acc)) s':=by
  refine I'.pins_of fun p hp=>?_
  rcases List.mem_append.mp hp with hp|hp
  ·exact I'.pin p (List.mem_append_right _ hp)
  ·have e:p=(C,oC):=by simpa using hp
   subst e;refine ⟨hoC,uC,hCL,hCfs,fun v z=>?_⟩;rw [hdC.1] at z;cases z
 refine thn (hgy _ s' σ _ (.ref s2.heap.objs.size) _ _ pinC rfl (q _ hD)) ?_;rintro _ s'' ⟨σ2,H3,I3,q3⟩;obtain ⟨p1,p2,p3,p4,p5⟩:=I3.pin (C,oC) (List.mem_append_right _ (List.mem_append_right _ List.mem_cons_self));refine ⟨m,⟨oC,esC,epC,p1,hdC⟩,fun h' sb=>?_⟩;refine ⟨σ2,H3,(Inv.unpinned I3).turned (t':=s''.toks) (it:=C) (fun b o hb e=>sb.extBut b o hb e) p2 hCL (.inr (Nat.le_trans I2.sz hle)) (fun x c e z=>?_) fun p hp z=>?_,q3⟩
 ·obtain ⟨v,hv⟩:=I2.cell x c e;have:=hv.lt;rw [z] at this;exact Nat.lt_irrefl _ (Nat.lt_of_lt_of_le this hle)
 ·have:=Heap.lt_size (I2.pin p hp).1;rw [z] at this;exact Nat.lt_irrefl _ (Nat.lt_of_lt_of_le this hle)
end
end L2
namespace DL
open PySem PySem.Spec PyProof.Rows L2
noncomputable abbrev St:=L2.St
inductive D where
 | non | bl (b:Bool) | int (i:Int) | str (x:Str) | tup (ds:List D) | ref (n:Nat) | rol (ds:List D) | obj (c:Str) (ks:List Str) (ds:List D) | fn (x:Str) | lam
 deriving Inhabited
inductive MO where
 | lst (ds:List D)
 | dct (kvs:List (Key×D))
 | plc
noncomputable abbrev MH:=List MO
noncomputable abbrev Loc:=List (Option D)
noncomputable def Gf (K:PySem.W.Frag) (H:Hp) (a:Addr) (xs:List V):Prop:=(∃ o,H a=some (.frz o (.lst xs))) \/
  ∃ (o:Obj) (its:Array Value) (n:Nat),K.lookup a=some o/\o.cls=.type "list"/\o.dict=none/\o.data=.seq its n/\its.size<=sizeLine/\Vals xs its.toList
theorem Gf.sq {K:PySem.W.Frag}{H:Hp}{a:Addr}{xs:List V}(h:Gf K H a xs):SqL K H a xs:=by
 rcases h with ⟨o,h⟩|h
 ·exact .inl (.inr ⟨o,h⟩)
 ·exact .inr h
noncomputable def yS (fd:FuncData):Prop:=∃ (name qual:Str) (ps:Arguments) (x y:Str) (p q pt:Pos) (k:Nat) (sc:Scope) (pm cdv ct:Value),fd=PySem.W.kla_fn name qual ps (.Tuple [.Name x p,.Name y q] k pt) sc [] pm cdv ct /\
  FnScope [x,y] [x,y] sc/\(x==("__debug__":Str))=false/\(x==("__classdict__":Str))=false/\(y==("__debug__":Str))=false/\(y==("__classdict__":Str))=false/\∀ u v,bindArgs fd ⟨[u,v],[]⟩=pure [(x,u),(y,v)]
noncomputable def aQ (H:Hp) (v:Value) (q:Str):Prop:=∃ c oc u vs tq,v=.ref c/\H c=some (.frz oc u)/\oc.data=.fields vs/\vs[1]?=some (.str q tq)
noncomputable def Wu (H:Hp) (a:Addr):Prop:=∃ o u fd,H a=some (.frz o u)/\o.data=.func fd/\yS fd/\aQ H fd.code fd.qualname
mutual
inductive RD (K:PySem.W.Frag) (H:Hp) (ρ:List Addr):D->V->Prop
 | non:RD K H ρ .non .non
 | bl (b:Bool):RD K H ρ (.bl b) (.bl b)
 | int (i:Int):RD K H ρ (.int i) (.int i)
 | str (x:Str):RD K H ρ (.str x) (.str x)
 | tup {ds:List D} {a:Addr} {xs:List V}:SqT K H a xs->RDs K H ρ ds xs->RD K H ρ (.tup ds) (.ref a)
 | ref {n:Nat} {a:Addr}:ρ[n]?=some a->RD K H ρ (.ref n) (.ref a)
 | rol {ds:List D} {a:Addr} {xs:List V}:Gf K H a xs->RDs K H ρ ds xs->RD K H ρ (.rol ds) (.ref a)
 | obj {c:Str} {ks:List Str} {ds:List D} {a C dx:Addr} {xs:List V}:PySem.W.nsIn K mainGlobals c=some (some (.ref C))->H a=some (.ins C dx (ks.zip xs))->ks.length=xs.length->RDs K H ρ ds xs->RD K H ρ (.obj c ks ds) (.ref a)
 | fn {x:Str} {a:Addr}:PySem.W.nsIn K mainGlobals x=some (some (.ref a))->RD K H ρ (.fn x) (.ref a)
 | lam {a:Addr}:Wu H a->RD K H ρ .lam (.ref a)
inductive RDs (K:PySem.W.Frag) (H:Hp) (ρ:List Addr):List D->List V->Prop
 | nil:RDs K H ρ [] []
 | cons {d:D} {v:V} {ds:List D} {vs:List V}:RD K H ρ d v->RDs K H ρ ds vs->RDs K H ρ (d::ds) (v::vs)
end
structure Ev (K:PySem.W.Frag) (H:Hp) (ρ:List Addr) (H':Hp) (ρ':List Addr):Prop where
 tup:∀ a xs,SqT K H a xs->SqT K H' a xs
 pre:ρ <+: ρ'
 perm:∀ a xs,Gf K H a xs->Gf K H' a xs
 ins:∀ a C dx fs,H a=some (.ins C dx fs)->H' a=some (.ins C dx fs)
 frz:∀ a o u,H a=some (.frz o u)->H' a=some (.frz o u)
theorem Ev.refl {K:PySem.W.Frag}{H:Hp}{ρ:List Addr}:Ev K H ρ H ρ:=⟨fun _ _ h=>h,List.prefix_refl _,fun _ _ h=>h,fun _ _ _ _ h=>h,fun _ _ _ h=>h⟩
theorem Ev.trans {K:PySem.W.Frag}{H H1 H2:Hp}{ρ ρ1 ρ2:List Addr}(a:Ev K H ρ H1 ρ1) (b:Ev K H1 ρ1 H2 ρ2):Ev K H ρ H2 ρ2:=⟨fun x xs h=>b.tup x xs (a.tup x xs h),a.pre.trans b.pre,fun x xs h=>b.perm x xs (a.perm x xs h),fun x C dx fs h=>b.ins x C dx fs (a.ins x C dx fs h),fun x o u h=>b.frz x o u (a.frz x o u h)⟩
theorem Ev.at {K:PySem.W.Frag}{H H':Hp}{ρ ρ':List Addr}(e:Ev K H ρ H' ρ') {n:Nat}{a:Addr}(h:ρ[n]?=some a):ρ'[n]?=some a:=by
 obtain ⟨t,rfl⟩:=e.pre;obtain ⟨hl,_⟩:=List.getElem?_eq_some_iff.mp h;rw [List.getElem?_append_left hl];exact h
theorem aQ.mono {H H':Hp}(e:∀ a o u,H a=some (.frz o u)->H' a=some (.frz o u)) {v:Value}{q:Str}(h:aQ H v q):aQ H' v q :=
 let ⟨c,oc,u,vs,tq,h1,h2,h3⟩:=h;⟨c,oc,u,vs,tq,h1,e _ _ _ h2,h3⟩
theorem Wu.mono {H H':Hp}(e:∀ a o u,H a=some (.frz o u)->H' a=some (.frz o u)) {a:Addr}(h:Wu H a):Wu H' a :=
 let ⟨o,u,fd,h1,h2,h3,h4⟩:=h;⟨o,u,fd,e _ _ _ h1,h2,h3,h4.mono e⟩
mutual
theorem RD.mono {K:PySem.W.Frag}{H H':Hp}{ρ ρ':List Addr}(e:Ev K H ρ H' ρ'):∀ {d:D}{v:V},RD K H ρ d v->RD K H' ρ' d v
 | _,_,.non=>.non
 | _,_,.bl b=>.bl b
 | _,_,.int i=>.int i
 | _,_,.str x=>.str x
 | _,_,.tup s r=>.tup (e.tup _ _ s) (RDs.mono e r)
 | _,_,.ref h=>.ref (e.at h)
 | _,_,.rol s r=>.rol (e.perm _ _ s) (RDs.mono e r)
 | _,_,.obj n s l r=>.obj n (e.ins _ _ _ _ s) l (RDs.mono e r)
 | _,_,.fn h=>.fn h
 | _,_,.lam h=>.lam (h.mono e.frz)
theorem RDs.mono {K:PySem.W.Frag}{H H':Hp}{ρ ρ':List Addr}(e:Ev K H ρ H' ρ'):∀ {ds:List D}{vs:List V},RDs K H ρ ds vs->RDs K H' ρ' ds vs
 | _,_,.nil=>.nil
 | _,_,.cons r t=>.cons (RD.mono e r) (RDs.mono e t)
end
section
variable {K:PySem.W.Frag}{H H':Hp}{ρ ρ':List Addr}
theorem RDs.length:∀ {ds:List D}{vs:List V},RDs K H ρ ds vs->ds.length=vs.length
 | _,_,.nil=>rfl
 | _,_,.cons _ t=>by rw [List.length_cons,List.length_cons,RDs.length t]
theorem RDs.get:∀ {ds:List D}{vs:List V}{i:Nat}{d:D},RDs K H ρ ds vs->ds[i]?=some d->∃ v,vs[i]?=some v/\RD K H ρ d v
 | _,_,_,_,.nil,e=>by simp at e
 | _,_,0,_,.cons r _,e=>by simp at e;subst e;exact ⟨_,by simp,r⟩
 | _,_,i+1,d,.cons _ t,e=>by
  obtain ⟨v,h1,h2⟩:=RDs.get (i:=i) (d:=d) t (by simpa using e);exact ⟨v,by simpa using h1,h2⟩
theorem RDs.append:∀ {ds es:List D}{vs us:List V},RDs K H ρ ds vs->RDs K H ρ es us->RDs K H ρ (ds++es) (vs++us)
 | _,_,_,_,.nil,s=>s
 | _,_,_,_,.cons r t,s=>.cons r (RDs.append t s)
theorem RDs.take:∀ {ds:List D}{vs:List V}(n:Nat),RDs K H ρ ds vs->RDs K H ρ (ds.take n) (vs.take n)
 | _,_,0,_=>.nil
 | _,_,_+1,.nil=>.nil
 | _,_,n+1,.cons r t=>.cons r (RDs.take n t)
theorem RDs.drop:∀ {ds:List D}{vs:List V}(n:Nat),RDs K H ρ ds vs->RDs K H ρ (ds.drop n) (vs.drop n)
 | _,_,0,r=>r
 | _,_,_+1,.nil=>.nil
 | _,_,n+1,.cons _ t=>RDs.drop n t
theorem RDs.set {d:D}{v:V}(r:RD K H ρ d v):∀ {ds:List D}{vs:List V}(n:Nat),RDs K H ρ ds vs->RDs K H ρ (ds.set n d) (vs.set n v)
 | _,_,_,.nil=>.nil
 | _,_,0,.cons _ t=>.cons r t
 | _,_,n+1,.cons q t=>.cons q (RDs.set r n t)
theorem RDs.ints:∀ (ns:List Int),RDs K H ρ (ns.map D.int) (ns.map V.int)
 | []=>.nil
 | n::r=>.cons (.int n) (RDs.ints r)
noncomputable def Abe (K:PySem.W.Frag) (a:Addr):Prop:=∃ (f:Addr) (o:Obj) (fd:FuncData) (c bm:Addr) (ob:Obj),PySem.W.nsIn K mainGlobals "pattern_of"=some (some (.ref f))/\K.lookup f=some o/\o.data=.func fd/\fd.code=.ref c/\PySem.W.codeHdIn K c a=true /\
  PySem.W.nsIn K mainGlobals "__builtins__"=some (some (.ref bm))/\K.lookup bm=some ob/\ob.cls=.type "module"/\ob.dict=some builtinsNs/\ob.data=.plain/\bm≠builtinsNs/\bm≠mainGlobals
noncomputable abbrev Abf:Str:=("pattern_of":Str) ++ ".<locals>." ++ "<lambda>"
noncomputable def yU (K:PySem.W.Frag) (H:Hp) (a:Addr):Prop:=∃ ps,H a=some (.tbl ps)/\TriplesOk ps.toList/\(∀ pos v,codeAmong pos ps.toList=some v->aQ H v Abf)/\Abe K a
noncomputable def RO (K:PySem.W.Frag) (H:Hp) (ρ:List Addr) (a:Addr):MO->Prop
 | .lst ds=>∃ xs,H a=some (.lst xs)/\RDs K H ρ ds xs
 | .plc=>yU K H a
 | .dct kvs=>∃ xs:List (Key×V),H a=some (.dK xs)/\xs.map (·.1)=kvs.map (·.1)/\RDs K H ρ (kvs.map (·.2)) (xs.map (·.2))
structure RS (K:PySem.W.Frag) (H:Hp) (ρ:List Addr) (mh:MH):Prop where
 len:ρ.length=mh.length
 nd:ρ.Nodup
 obj:∀ (n:Nat) (a:Addr) (o:MO),ρ[n]?=some a->mh[n]?=some o->RO K H ρ a o
noncomputable def RL (K:PySem.W.Frag) (H:Hp) (ρ:List Addr) (loc:Loc) (σ:St):Prop:=loc.length=σ.length/\∀ (i:Nat) (d:D),loc[i]?=some (some d)->∃ v,σ[i]?=some (some v)/\RD K H ρ d v
theorem RL.mono {loc:Loc}{σ:St}(e:Ev K H ρ H' ρ') (h:RL K H ρ loc σ):RL K H' ρ' loc σ:=⟨h.1,fun i d q=>let ⟨v,e1,r⟩:=h.2 i d q;⟨v,e1,r.mono e⟩⟩
theorem RL.set {loc:Loc}{σ:St}{d:D}{v:V}{i:Nat}(h:RL K H ρ loc σ) (r:RD K H ρ d v):RL K H ρ (loc.set i (some d)) (σ.set i (some v)):=by
 refine ⟨by rw [List.length_set,List.length_set];exact h.1,fun j d' q=>?_⟩
 by_cases e:i=j
 ·subst e;rw [List.getElem?_set] at q;simp only [if_true] at q;split at q
  ·rename_i hl;cases q;refine ⟨v,?_,r⟩;rw [List.getElem?_set];simp only [if_true];rw [if_pos (by rw [← h.1];exact hl)]
  ·cases q
 ·rw [List.getElem?_set_ne e] at q;rw [List.getElem?_set_ne e];exact h.2 j d' q
theorem RS.at {mh:MH}(h:RS K H ρ mh) {n:Nat}{o:MO}(e:mh[n]?=some o):∃ a,ρ[n]?=some a/\RO K H ρ a o:=by
 obtain ⟨hl,_⟩:=List.getElem?_eq_some_iff.mp e;have hl':n < ρ.length:=by rw [h.len];exact hl
 exact ⟨ρ[n],List.getElem?_eq_getElem hl',h.obj n _ o (List.getElem?_eq_getElem hl') e⟩
theorem RS.tracked {mh:MH}(h:RS K H ρ mh) {a:Addr}(ha:a∈ρ):∃ o,H a=some o:=by
 obtain ⟨n,hn,rfl⟩:=List.getElem_of_mem ha;have hl:n < mh.length:=by rw [← h.len];exact hn
 have q:=h.obj n _ _ (List.getElem?_eq_getElem hn) (List.getElem?_eq_getElem hl);cases e:mh[n] with
 | lst ds=>rw [e] at q;obtain ⟨xs,q,_⟩:=q;exact ⟨_,q⟩
 | dct kvs=>rw [e] at q;obtain ⟨xs,q,_⟩:=q;exact ⟨_,q⟩
 | plc=>rw [e] at q;obtain ⟨xs,q,_⟩:=q;exact ⟨_,q⟩
theorem RO.read {a:Addr}{ds:List D}(h:RO K H ρ a (.lst ds)):∃ xs,SqL K H a xs/\RDs K H ρ ds xs:=by
 obtain ⟨xs,q,r⟩:=h;exact ⟨xs,.inl (.inl q),r⟩
theorem Wv {a p:Addr}{o:HO}{xs:List V}(hp:H p=none) (h:SqT K H a xs):SqT K (upd H p o) a xs:=by
 rcases h with (h|⟨ob,h⟩)|h
 ·exact .inl (.inl (by rw [Al (Aj h hp)];exact h))
 ·exact .inl (.inr ⟨ob,by rw [Al (Aj h hp)];exact h⟩)
 ·exact .inr h
theorem kJ {a p:Addr}{ys zs xs:List V}(hp:H p=some (.lst ys)) (h:SqT K H a xs):SqT K (upd H p (.lst zs)) a xs:=by
 rcases h with (h|⟨ob,h⟩)|h
 ·exact .inl (.inl (by rw [Al (Rw h hp (by intro z;cases z))];exact h))
 ·exact .inl (.inr ⟨ob,by rw [Al (Rw h hp (by intro z;cases z))];exact h⟩)
 ·exact .inr h
theorem R4 {a p:Addr}{o:HO}{xs:List V}(hp:H p=none) (h:Gf K H a xs):Gf K (upd H p o) a xs:=by
 rcases h with ⟨ob,h⟩|h
 ·exact .inl ⟨ob,by rw [Al (Aj h hp)];exact h⟩
 ·exact .inr h
theorem aR {a p:Addr}{ys zs xs:List V}(hp:H p=some (.lst ys)) (h:Gf K H a xs):Gf K (upd H p (.lst zs)) a xs:=by
 rcases h with ⟨ob,h⟩|h
 ·exact .inl ⟨ob,by rw [Al (Rw h hp (by intro z;cases z))];exact h⟩
 ·exact .inr h
theorem Ev.new {p:Addr}{o:HO}(hp:H p=none):Ev K H ρ (upd H p o) ρ:=⟨fun _ _ h=>Wv hp h,List.prefix_refl _,fun _ _ h=>R4 hp h,fun a _ _ _ h=>by rw [Al (Aj h hp)];exact h,fun a _ _ h=>by rw [Al (Aj h hp)];exact h⟩
theorem Ev.newL {p:Addr}{o:HO}(hp:H p=none):Ev K H ρ (upd H p o) (ρ++[p]):=⟨fun _ _ h=>Wv hp h,List.prefix_append _ _,fun _ _ h=>R4 hp h,fun a _ _ _ h=>by rw [Al (Aj h hp)];exact h,fun a _ _ h=>by rw [Al (Aj h hp)];exact h⟩
theorem Ev.lst {p:Addr}{ys zs:List V}(hp:H p=some (.lst ys)):Ev K H ρ (upd H p (.lst zs)) ρ:=⟨fun _ _ h=>kJ hp h,List.prefix_refl _,fun _ _ h=>aR hp h,fun a _ _ _ h=>by rw [Al (Rw h hp (by intro z;cases z))];exact h,fun a _ _ h=>by rw [Al (Rw h hp (by intro z;cases z))];exact h⟩
theorem RO.mono {a:Addr}{o:MO}(e:Ev K H ρ H' ρ') (s:H' a=H a) (h:RO K H ρ a o):RO K H' ρ' a o:=by
 cases o with
 | lst ds=>obtain ⟨xs,q,r⟩:=h;exact ⟨xs,by rw [s];exact q,r.mono e⟩
 | dct kvs=>obtain ⟨xs,q,k,r⟩:=h;exact ⟨xs,by rw [s];exact q,k,r.mono e⟩
 | plc=>obtain ⟨ps,q,t,c,k⟩:=h;exact ⟨ps,by rw [s];exact q,t,fun pos v z=>(c pos v z).mono e.frz,k⟩
theorem RS.new {mh:MH}{p:Addr}{o:HO}(h:RS K H ρ mh) (hp:H p=none):RS K (upd H p o) ρ mh :=
 ⟨h.len,h.nd,fun n a ob e1 e2=>(h.obj n a ob e1 e2).mono (Ev.new hp) (by
  obtain ⟨oo,q⟩:=h.tracked (List.mem_of_getElem? e1)
  rw [Al (Aj q hp)])⟩
theorem RS.newL {mh:MH}{p:Addr}{xs:List V}{ds:List D}(h:RS K H ρ mh) (hp:H p=none) (r:RDs K H ρ ds xs):RS K (upd H p (.lst xs)) (ρ++[p]) (mh++[.lst ds]):=by
 have hnp:p ∉ ρ:=fun z=>by
  obtain ⟨o,q⟩:=h.tracked z;rw [hp] at q;cases q
 refine ⟨by rw [List.length_append,List.length_append,h.len];rfl,?_,fun n a ob e1 e2=>?_⟩
 ·rw [List.nodup_append]
  exact ⟨h.nd,List.pairwise_singleton _ _,fun a ha b hb z=>by
   rw [List.mem_singleton.mp hb] at z;rw [z] at ha;exact hnp ha⟩
 ·by_cases hn:n < ρ.length
  ·rw [List.getElem?_append_left hn] at e1;rw [List.getElem?_append_left (by rw [← h.len];exact hn)] at e2;refine (h.obj n a ob e1 e2).mono (Ev.newL hp) ?_;obtain ⟨oo,q⟩:=h.tracked (List.mem_of_getElem? e1);rw [Al (Aj q hp)]
  ·rw [List.getElem?_append_right (by omega)] at e1;rw [List.getElem?_append_right (by rw [← h.len];omega)] at e2;have n0:n - ρ.length=0:=by
    have:=(List.getElem?_eq_some_iff.mp e1).1;simp at this;omega
   rw [n0] at e1;rw [← h.len,n0] at e2;cases e1;cases e2;exact ⟨xs,Du,r.mono (Ev.newL hp)⟩
theorem RS.setL {mh:MH}{n:Nat}{p:Addr}{ys xs:List V}{ds:List D}(h:RS K H ρ mh) (hn:ρ[n]?=some p) (hp:H p=some (.lst ys)) (r:RDs K H ρ ds xs):RS K (upd H p (.lst xs)) ρ (mh.set n (.lst ds)):=by
 refine ⟨by rw [List.length_set];exact h.len,h.nd,fun m a ob e1 e2=>?_⟩
 by_cases hm:n=m
 ·subst hm;rw [hn] at e1;cases e1;rw [List.getElem?_set] at e2;simp only [if_true] at e2;split at e2
  ·cases e2;exact ⟨xs,Du,r.mono (Ev.lst hp)⟩
  ·cases e2
 ·rw [List.getElem?_set_ne hm] at e2;refine (h.obj m a ob e1 e2).mono (Ev.lst hp) ?_;rw [Al];intro z;subst z;exact hm ((List.getElem?_inj (List.getElem?_eq_some_iff.mp hn).1 h.nd).mp (hn.trans e1.symm))
end
noncomputable abbrev DM (α:Type):=Loc->MH->Option (α×MH)
noncomputable def DM.bnd {α β:Type}(m:DM α) (f:α->DM β):DM β:=fun loc mh=>match m loc mh with
 | none=>none
 | some (a,mh')=>f a loc mh'
theorem Ae {α β:Type}{m:DM α}{f:α->DM β}{loc:Loc}{mh:MH}{r:β×MH}(h:m.bnd f loc mh=some r):∃ a m1,m loc mh=some (a,m1)/\f a loc m1=some r:=by
 unfold DM.bnd at h;split at h
 ·cases h
 ·rename_i a m1 e;exact ⟨a,m1,e,h⟩
noncomputable def Zr {α:Type}(a:α):DM α:=fun _ mh=>some (a,mh)
noncomputable def Zl {α:Type}(f:MH->Option (α×MH)):DM α:=fun _ mh=>f mh
noncomputable def Zb {α:Type}:DM α:=fun _ _=>none
noncomputable def Co (K:PySem.W.Frag) (H:Hp) (ρ:List Addr) (mh':MH) (d:D) (Q:VK):Prop:=∀ H' ρ' v,Ev K H ρ H' ρ'->RS K H' ρ' mh'->RD K H' ρ' d v->Q v H'
noncomputable def tD (K:PySem.W.Frag) (loc:Loc) (mh:MH) (r:Option (D×MH)):TE:=fun σ H Q=>∃ ρ d mh',r=some (d,mh')/\RL K H ρ loc σ/\RS K H ρ mh/\Co K H ρ mh' d Q
noncomputable def tDT (K:PySem.W.Frag) (loc:Loc) (mh:MH) (r:Option (Bool×MH)):TT:=fun σ H Q=>∃ ρ b mh',r=some (b,mh')/\RL K H ρ loc σ/\RS K H ρ mh/\∀ H' ρ',Ev K H ρ H' ρ'->RS K H' ρ' mh'->Q b H'
noncomputable def tDA (K:PySem.W.Frag) (loc:Loc) (mh:MH) (r:Option (List D×MH)):TA:=fun σ H Q=>∃ ρ ds mh',r=some (ds,mh')/\RL K H ρ loc σ/\RS K H ρ mh/\∀ H' ρ' vs,Ev K H ρ H' ρ'->RS K H' ρ' mh'->RDs K H' ρ' ds vs->Q vs H'
noncomputable def DE (X:Cx) (e:Expr) (m:DM D):Prop:=∀ loc mh,PE X e (tD X.K loc mh (m loc mh))
noncomputable def DT (X:Cx) (e:Expr) (m:DM Bool):Prop:=∀ loc mh,PT X e (tDT X.K loc mh (m loc mh))
noncomputable def DA (X:Cx) (es:List Expr) (m:DM (List D)):Prop:=∀ loc mh,PA X es (tDA X.K loc mh (m loc mh))
theorem Bc {X:Cx}{e:Expr}{t t':TE}(h:PE X e t) (i:∀ σ H Q,t' σ H Q->t σ H Q):PE X e t':=fun pins s σ H Q I q=>h pins s σ H Q I (i σ H Q q)
theorem Jf {X:Cx}{e:Expr}{t t':TT}(h:PT X e t) (i:∀ σ H Q,t' σ H Q->t σ H Q):PT X e t':=fun pins s σ H Q I q=>h pins s σ H Q I (i σ H Q q)
theorem aU {X:Cx}{es:List Expr}{t t':TA}(h:PA X es t) (i:∀ σ H Q,t' σ H Q->t σ H Q):PA X es t':=fun pos pins s σ H Q I q=>h pos pins s σ H Q I (i σ H Q q)
theorem kO {K:PySem.W.Frag}{loc:Loc}{mh:MH}{σ:St}{H:Hp}{Q:VK}(h:tD K loc mh none σ H Q):False:=by obtain ⟨_,_,_,e,_⟩:=h;cases e
theorem Dl {X:Cx}{e:Expr}{loc:Loc}{mh:MH}:PE X e (tD X.K loc mh none):=fun _ _ _ _ _ _ h=>(kO h).elim
theorem Ww {X:Cx}{e:Expr}{loc:Loc}{mh:MH}:PT X e (tDT X.K loc mh none):=fun _ _ _ _ _ _ h=>by obtain ⟨_,_,_,e,_⟩:=h;cases e
theorem Wx {X:Cx}{es:List Expr}{loc:Loc}{mh:MH}:PA X es (tDA X.K loc mh none):=fun _ _ _ _ _ _ _ h=>by obtain ⟨_,_,_,e,_⟩:=h;cases e
theorem Ad {X:Cx}{e:Expr}:DE X e Zb:=fun _ _=>Dl
theorem Dg {X:Cx}{e:Expr}:DT X e Zb:=fun _ _=>Ww
theorem aV {X:Cx}{es:List Expr}:DA X es Zb:=fun _ _=>Wx
section
variable {X:Cx}{a b c e:Expr}{ma mb mc:DM D}{pos:Pos}
theorem kW {d:D}{v:V}(h:PE X e (tC v)) (r:∀ K H ρ,RD K H ρ d v):DE X e (Zr d):=by
 refine fun loc mh=>Bc h ?_
 rintro σ H Q ⟨ρ,d',mh',q,rl,rs,co⟩;cases q;exact co H ρ v Ev.refl rs (r _ _ _)
theorem sX {i:Nat}{x:Str}(hN:X.N[i]?=some x) (hv:Vis X.env.scope x) (hd:(x==("__debug__":Str))=false) (hcd:(x==("__classdict__":Str))=false) :
  DE X (.Name x pos) (fun loc mh=>match loc[i]? with | some (some d)=>some (d,mh) | _=>none):=by
 refine fun loc mh=>Bc (Uu hN hv hd hcd) ?_
 rintro σ H Q ⟨ρ,d',mh',q,rl,rs,co⟩;dsimp only at q;split at q
 ·rename_i d e;cases q;obtain ⟨v,h1,h2⟩:=rl.2 i d' e;exact ⟨v,h1,co H ρ v Ev.refl rs h2⟩
 ·cases q
noncomputable def rD (K:PySem.W.Frag) (f:D->D->MH->Option (D×MH)):R2:=fun x y H Q=>∃ ρ mh dx dy d mh',f dx dy mh=some (d,mh')/\RS K H ρ mh/\RD K H ρ dx x/\RD K H ρ dy y/\Co K H ρ mh' d Q
noncomputable def rD1 (K:PySem.W.Frag) (f:D->MH->Option (D×MH)):V->Hp->VK->Prop:=fun x H Q=>∃ ρ mh dx d mh',f dx mh=some (d,mh')/\RS K H ρ mh/\RD K H ρ dx x/\Co K H ρ mh' d Q
noncomputable def rDs (K:PySem.W.Frag) (f:List D->MH->Option (D×MH)):List V->Hp->VK->Prop:=fun xs H Q=>∃ ρ mh ds d mh',f ds mh=some (d,mh')/\RS K H ρ mh/\RDs K H ρ ds xs/\Co K H ρ mh' d Q
theorem Co.ev {K:PySem.W.Frag}{H H1:Hp}{ρ ρ1:List Addr}{mh':MH}{d:D}{Q:VK}(e:Ev K H ρ H1 ρ1) (c:Co K H ρ mh' d Q):Co K H1 ρ1 mh' d Q:=fun H' ρ' v e' rs r=>c H' ρ' v (e.trans e') rs r
noncomputable def dop (f:D->D->MH->Option (D×MH)) (ma mb:DM D):DM D:=ma.bnd fun x=>mb.bnd fun y=>Zl (f x y)
theorem two {K:PySem.W.Frag}{f:D->D->MH->Option (D×MH)}{loc:Loc}{mh:MH}{σ:St}{H:Hp}{Q:VK}(h:tD K loc mh (dop f ma mb loc mh) σ H Q) :
  ∃ x m1,ma loc mh=some (x,m1)/\tOp (rD K f) (tD K loc mh (ma loc mh)) (tD K loc m1 (mb loc m1)) σ H Q:=by
 obtain ⟨ρ,d,mh',q,rl,rs,co⟩:=h;obtain ⟨x,m1,ea,q⟩:=Ae q;obtain ⟨y,m2,eb,q⟩:=Ae q;refine ⟨x,m1,ea,ρ,x,m1,ea,rl,rs,fun H1 ρ1 v1 e1 rs1 r1=>⟨ρ1,y,m2,eb,rl.mono e1,rs1,fun H2 ρ2 v2 e2 rs2 r2=>?_⟩⟩;exact ⟨ρ2,m2,x,y,d,mh',q,rs2,r1.mono e2,r2,co.ev (e1.trans e2)⟩
theorem U9 {f:D->D->MH->Option (D×MH)}(h:∀ ta tb,PE X a ta->PE X b tb->PE X e (tOp (rD X.K f) ta tb)) (ha:DE X a ma) (hb:DE X b mb):DE X e (dop f ma mb):=fun loc mh=>by
 cases ea:ma loc mh with
 | none =>
  have:dop f ma mb loc mh=none:=by unfold dop DM.bnd;rw [ea]
  rw [this];exact Dl
 | some p =>
  refine Bc (h _ _ (ha loc mh) (hb loc p.2)) fun σ H Q q=>?_
  obtain ⟨x,m1,e1,q⟩:=two q;rw [ea] at e1;cases e1;exact q
theorem yV {op:Operator}{f:D->D->MH->Option (D×MH)}(ho:OpR X (binaryOp op) (rD X.K f)) (ha:DE X a ma) (hb:DE X b mb):DE X (.BinOp a op b pos) (dop f ma mb):=U9 (fun _ _ p q=>Z9 ho p q) ha hb
theorem sY {op:CmpOp}{f:D->D->MH->Option (D×MH)}(ho:OpR X (compareOp op) (rD X.K f)) (hm:behindInMarks op b=false) (ha:DE X a ma) (hb:DE X b mb):DE X (.Compare a [op] [b] pos) (dop f ma mb):=U9 (fun _ _ p q=>Pu ho p q hm) ha hb
theorem yW {f:D->D->MH->Option (D×MH)}(ho:IxR X (rD X.K f)) (hs:Kw b) (ha:DE X a ma) (hb:DE X b mb):DE X (.Subscript a b pos) (dop f ma mb):=U9 (fun _ _ p q=>pN ho p q hs) ha hb
theorem yX {op:UnaryOp}{f:D->MH->Option (D×MH)}(ho:UnR X (unaryOp op) (rD1 X.K f)) (ha:DE X a ma):DE X (.UnaryOp op a pos) (ma.bnd fun x=>Zl (f x)):=fun loc mh =>
 Bc (yG ho (ha loc mh)) fun σ H Q ⟨ρ,d,mh',q,rl,rs,co⟩=>by
 obtain ⟨x,m1,ea,q⟩:=Ae q
 ·exact ⟨ρ,x,m1,ea,rl,rs,fun H1 ρ1 v1 e1 rs1 r1=>⟨ρ1,m1,x,d,mh',q,rs1,r1,co.ev e1⟩⟩
noncomputable def asB:D->Option Bool
 | .bl b=>some b
 | _=>none
noncomputable def Ag (ma:DM D):DM Bool:=ma.bnd fun x=>match asB x with | some b=>Zr b | none=>Zb
theorem kY {f:D->D->MH->Option (D×MH)}(h:∀ ta tb,PE X a ta->PE X b tb->PT X e (aA (tOp (rD X.K f) ta tb))) (ha:DE X a ma) (hb:DE X b mb):DT X e (Ag (dop f ma mb)):=fun loc mh=>by
 cases ea:ma loc mh with
 | none =>
  have:Ag (dop f ma mb) loc mh=none:=by unfold Ag dop DM.bnd;rw [ea]
  rw [this];exact Ww
 | some p =>
  refine Jf (h _ _ (ha loc mh) (hb loc p.2)) ?_;rintro σ H Q ⟨ρ,k,mh',q,rl,rs,co⟩;unfold Ag at q;cases ed:dop f ma mb loc mh with
  | none=>unfold DM.bnd at q;rw [ed] at q;cases q
  | some z =>
   obtain ⟨d,m2⟩:=z;unfold DM.bnd at q;rw [ed] at q;cases d with
   | bl k' =>
    cases q;have t:tD X.K loc mh (dop f ma mb loc mh) σ H (fun x H'=>∃ k,x=.bl k/\Q k H'):=⟨ρ,.bl k,mh',ed,rl,rs,fun H' ρ' v e' rs' r'=>by cases r';exact ⟨k,rfl,co H' ρ' e' rs'⟩⟩;obtain ⟨x,m1,e1,q⟩:=two t;rw [ea] at e1;cases e1;exact q
   | non=>cases q
   | int i=>cases q
   | str s=>cases q
   | tup ds=>cases q
   | ref n=>cases q
   | rol ds=>cases q
   | obj c ks ds=>cases q
   | fn x=>cases q
   | lam=>cases q
theorem sZ {op:CmpOp}{f:D->D->MH->Option (D×MH)}(ho:OpR X (compareOp op) (rD X.K f)) (hm:behindInMarks op b=false) (ha:DE X a ma) (hb:DE X b mb):DT X (.Compare a [op] [b] pos) (Ag (dop f ma mb)):=kY (fun _ _ p q=>Px ho p q hm) ha hb
noncomputable def Ia (t u:DM Bool):DM Bool:=t.bnd fun c=>if c=true then u else Zr false
noncomputable def Jg (t u:DM Bool):DM Bool:=t.bnd fun c=>if c=true then Zr true else u
noncomputable def Hg (t:DM Bool):DM Bool:=t.bnd fun c=>Zr (!c)
noncomputable def DW (X:Cx) (e:Expr) (m:DM Bool):Prop:=∀ loc mh,PW X e (tDT X.K loc mh (m loc mh))
theorem Wy {loc:Loc}{mh:MH}:PW X e (tDT X.K loc mh none):=fun _ _ _ _ _ _ _ h=>by obtain ⟨_,_,_,e,_⟩:=h;cases e
theorem aW {t t':TT}(h:PW X e t) (i:∀ σ H Q,t' σ H Q->t σ H Q):PW X e t':=fun wh pins s σ H Q I q=>h wh pins s σ H Q I (i σ H Q q)
theorem DW.dt {m:DM Bool}(h:DW X e m):DT X e m:=fun loc mh=>(h loc mh).pt
variable {t u:DM Bool}{rest:List Expr}
theorem kZ (ha:DT X a t):DW X (.BoolOp .And [a] pos) t:=fun loc mh=>jJ (ha loc mh)
theorem tB (ha:DT X a t):DW X (.BoolOp .Or [a] pos) t:=fun loc mh=>qZ (ha loc mh)
theorem tE (ha:DT X a t) (hb:DW X (.BoolOp .And (b::rest) pos) u):DW X (.BoolOp .And (a::b::rest) pos) (Ia t u):=fun loc mh=>by
 cases ea:t loc mh with
 | none =>
  have:Ia t u loc mh=none:=by unfold Ia DM.bnd;rw [ea]
  rw [this];exact Wy
 | some p =>
  obtain ⟨k,m1⟩:=p;refine aW (rA (ha loc mh) (hb loc m1)) ?_;rintro σ H Q ⟨ρ,k',mh',q,rl,rs,co⟩;have q':(if k=true then u else Zr false) loc m1=some (k',mh'):=by unfold Ia DM.bnd at q;rw [ea] at q;exact q
  refine ⟨ρ,k,m1,ea,rl,rs,fun H1 ρ1 e1 rs1=>?_⟩;cases k with
  | true=>exact Lq ⟨ρ1,k',mh',q',rl.mono e1,rs1,fun H2 ρ2 e2 rs2=>co H2 ρ2 (e1.trans e2) rs2⟩
  | false=>cases q';exact Qd (co H1 ρ1 e1 rs1)
theorem yZ (ha:DT X a t) (hb:DW X (.BoolOp .Or (b::rest) pos) u):DW X (.BoolOp .Or (a::b::rest) pos) (Jg t u):=fun loc mh=>by
 cases ea:t loc mh with
 | none =>
  have:Jg t u loc mh=none:=by unfold Jg DM.bnd;rw [ea]
  rw [this];exact Wy
 | some p =>
  obtain ⟨k,m1⟩:=p;refine aW (xT (ha loc mh) (hb loc m1)) ?_;rintro σ H Q ⟨ρ,k',mh',q,rl,rs,co⟩;have q':(if k=true then Zr true else u) loc m1=some (k',mh'):=by unfold Jg DM.bnd at q;rw [ea] at q;exact q
  refine ⟨ρ,k,m1,ea,rl,rs,fun H1 ρ1 e1 rs1=>?_⟩;cases k with
  | true=>cases q';exact Lq (co H1 ρ1 e1 rs1)
  | false=>exact Qd ⟨ρ1,k',mh',q',rl.mono e1,rs1,fun H2 ρ2 e2 rs2=>co H2 ρ2 (e1.trans e2) rs2⟩
theorem tH (ha:DT X a t):DT X (.UnaryOp .Not a pos) (Hg t):=fun loc mh=>by
 refine Jf (rB (ha loc mh)) ?_;rintro σ H Q ⟨ρ,k',mh',q,rl,rs,co⟩;obtain ⟨k,m1,ea,q⟩:=Ae q
 ·cases q;exact ⟨ρ,k,mh',ea,rl,rs,fun H1 ρ1 e1 rs1=>co H1 ρ1 e1 rs1⟩
noncomputable def dIf (t:DM Bool) (ma mb:DM D):DM D:=t.bnd fun c=>if c=true then ma else mb
theorem zA (hc:DT X c t) (ha:DE X a ma) (hb:DE X b mb):DE X (.IfExp c a b pos) (dIf t ma mb):=fun loc mh=>by
 cases ea:t loc mh with
 | none =>
  have:dIf t ma mb loc mh=none:=by unfold dIf DM.bnd;rw [ea]
  rw [this];exact Dl
 | some p =>
  obtain ⟨k,m1⟩:=p;refine Bc (Z3 (hc loc mh) (ha loc m1) (hb loc m1)) ?_;rintro σ H Q ⟨ρ,d,mh',q,rl,rs,co⟩;have q':(if k=true then ma else mb) loc m1=some (d,mh'):=by unfold dIf DM.bnd at q;rw [ea] at q;exact q
  refine ⟨ρ,k,m1,ea,rl,rs,fun H1 ρ1 e1 rs1=>?_⟩;cases k with
  | true=>exact Lq ⟨ρ1,d,mh',q',rl.mono e1,rs1,co.ev e1⟩
  | false=>exact Qd ⟨ρ1,d,mh',q',rl.mono e1,rs1,co.ev e1⟩
noncomputable def R5 (ma mb:DM D):DM D:=(Ag ma).bnd fun c=>if c=true then mb else Zr (.bl false)
noncomputable def Va (ma mb:DM D):DM D:=(Ag ma).bnd fun c=>if c=true then Zr (.bl true) else mb
theorem Bu {loc:Loc}{mh:MH}{k:Bool}{m1:MH}(h:Ag ma loc mh=some (k,m1)):ma loc mh=some (.bl k,m1):=by
 obtain ⟨x,m2,ea,h⟩:=Ae h
 ·cases x with
  | bl b=>cases h;exact ea
  | non=>cases h
  | int i=>cases h
  | str s=>cases h
  | tup ds=>cases h
  | ref n=>cases h
  | rol ds=>cases h
  | obj c ks ds=>cases h
  | fn x=>cases h
  | lam=>cases h
theorem tK {op}(ha:DE X a ma):DE X (.BoolOp op [a] pos) ma:=fun loc mh=>Z1 (ha loc mh)
theorem tL (ha:DE X a ma) (hb:DE X (.BoolOp .And (b::rest) pos) mb):DE X (.BoolOp .And (a::b::rest) pos) (R5 ma mb):=fun loc mh=>by
 cases ea:Ag ma loc mh with
 | none =>
  have:R5 ma mb loc mh=none:=by unfold R5 DM.bnd;rw [ea]
  rw [this];exact Dl
 | some p =>
  obtain ⟨k,m1⟩:=p;refine Bc (Uv (ha loc mh) (hb loc m1)) ?_;rintro σ H Q ⟨ρ,d,mh',q,rl,rs,co⟩;have q':(if k=true then mb else Zr (.bl false)) loc m1=some (d,mh'):=by unfold R5 DM.bnd at q;rw [ea] at q;exact q
  refine ⟨ρ,.bl k,m1,Bu ea,rl,rs,fun H1 ρ1 v e1 rs1 r1=>?_⟩;cases r1;refine ⟨k,rfl,?_⟩;cases k with
  | true=>exact Lq ⟨ρ1,d,mh',q',rl.mono e1,rs1,co.ev e1⟩
  | false=>cases q';exact Qd (co H1 ρ1 _ e1 rs1 (.bl false))
theorem zB (ha:DE X a ma) (hb:DE X (.BoolOp .Or (b::rest) pos) mb):DE X (.BoolOp .Or (a::b::rest) pos) (Va ma mb):=fun loc mh=>by
 cases ea:Ag ma loc mh with
 | none =>
  have:Va ma mb loc mh=none:=by unfold Va DM.bnd;rw [ea]
  rw [this];exact Dl
 | some p =>
  obtain ⟨k,m1⟩:=p;refine Bc (xW (ha loc mh) (hb loc m1)) ?_;rintro σ H Q ⟨ρ,d,mh',q,rl,rs,co⟩;have q':(if k=true then Zr (.bl true) else mb) loc m1=some (d,mh'):=by unfold Va DM.bnd at q;rw [ea] at q;exact q
  refine ⟨ρ,.bl k,m1,Bu ea,rl,rs,fun H1 ρ1 v e1 rs1 r1=>?_⟩;cases r1;refine ⟨k,rfl,?_⟩;cases k with
  | true=>cases q';exact Lq (co H1 ρ1 _ e1 rs1 (.bl true))
  | false=>exact Qd ⟨ρ1,d,mh',q',rl.mono e1,rs1,co.ev e1⟩
theorem tM (ha:DE X a ma):DE X (.UnaryOp .Not a pos) ((Ag ma).bnd fun c=>Zr (.bl (!c))):=fun loc mh=>by
 refine Bc (Z2 (ha loc mh)) ?_;rintro σ H Q ⟨ρ,d,mh',q,rl,rs,co⟩;cases ea:Ag ma loc mh with
 | none=>unfold DM.bnd at q;rw [ea] at q;cases q
 | some p =>
  obtain ⟨k,m1⟩:=p;unfold DM.bnd at q;rw [ea] at q;cases q;refine ⟨ρ,.bl k,mh',Bu ea,rl,rs,fun H1 ρ1 v e1 rs1 r1=>?_⟩;cases r1;exact ⟨k,rfl,co H1 ρ1 _ e1 rs1 (.bl _)⟩
noncomputable def aX:D->MH->Option Bool
 | .non,_=>some false
 | .bl b,_=>some b
 | .int i,_=>some (i != 0)
 | .str y,_=>if y.length<=sizeLine then some ((y.length:Int) != 0) else none
 | .tup ds,_=>some (!ds.isEmpty)
 | .ref n,mh=>match mh[n]? with | some (.lst o)=>some (!o.isEmpty) | _=>none
 | .rol ds,_=>some (!ds.isEmpty)
 | .obj ..,_=>none
 | .fn _,_=>none
 | .lam,_=>none
theorem Gg {K:PySem.W.Frag}{H:Hp}{ρ:List Addr}{ds:List D}{xs:List V}(r:RDs K H ρ ds xs):ds.isEmpty=xs.isEmpty:=by cases r <;> rfl
theorem lA {K:PySem.W.Frag}{H:Hp}{ρ:List Addr}{mh:MH}{d:D}{v:V}{k:Bool}(rs:RS K H ρ mh) (r:RD K H ρ d v) (e:aX d mh=some k):rW K v H k:=by
 cases r with
 | non=>cases e;rfl
 | bl b=>cases e;rfl
 | int i=>cases e;rfl
 | str x =>
  have e:(if x.length<=sizeLine then some ((x.length:Int) != 0) else none)=some k:=e;split at e
  ·rename_i hz;cases e;exact ⟨hz,rfl⟩
  ·cases e
 | tup s r=>cases e;exact .inr (.inl ⟨_,s,by rw [Gg r]⟩)
 | rol s r=>cases e;exact .inl ⟨_,s.sq,by rw [Gg r]⟩
 | obj n s l r=>cases e
 | fn h=>cases e
 | lam h=>cases e
 | @ref n a h =>
  have e:(match mh[n]? with | some (.lst o)=>some (!o.isEmpty) | _=>none)=some k:=e;split at e
  ·rename_i o eo;cases e;obtain ⟨a',ha,ro⟩:=rs.at eo;rw [h] at ha;cases ha;obtain ⟨xs,q,r⟩:=ro.read;exact .inl ⟨xs,q,by rw [Gg r]⟩
  ·cases e
noncomputable def Jh (ma:DM D):DM Bool:=ma.bnd fun x=>fun _ mh=>match aX x mh with | some k=>some (k,mh) | none=>none
theorem R6 (ha:DE X a ma) (he:∀ whole,isTrue a X.env whole=(do let v ← whole;standAt a.pos;holding [v] (truthy v))):DT X a (Jh ma):=fun loc mh=>by
 refine Jf (aD (ha loc mh) he) ?_;rintro σ H Q ⟨ρ,k,mh',q,rl,rs,co⟩;obtain ⟨x,m1,ea,q⟩:=Ae q
 ·split at q
  ·rename_i k' ek;cases q;exact ⟨ρ,x,mh',ea,rl,rs,fun H1 ρ1 v e1 rs1 r1=>⟨k,lA rs1 r1 ek,co H1 ρ1 e1 rs1⟩⟩
  ·cases q
noncomputable def Aa (ma:DM D) (mr:DM (List D)):DM (List D):=ma.bnd fun x=>mr.bnd fun xs=>Zr (x::xs)
theorem tO:DA X [] (Zr []):=by
 refine fun loc mh=>aU Es ?_
 rintro σ H Q ⟨ρ,ds,mh',q,rl,rs,co⟩;cases q;exact co H ρ [] Ev.refl rs .nil
theorem lB {es:List Expr}{mr:DM (List D)}(ha:DE X a ma) (hr:DA X es mr) (hs:starEach (a::es) X.env=(false,eval a X.env)::starEach es X.env):DA X (a::es) (Aa ma mr):=fun loc mh=>by
 cases ea:ma loc mh with
 | none =>
  have:Aa ma mr loc mh=none:=by unfold Aa DM.bnd;rw [ea]
  rw [this];exact Wx
 | some p =>
  obtain ⟨x,m1⟩:=p;refine aU (Be (ha loc mh) (hr loc m1) hs) ?_;rintro σ H Q ⟨ρ,ds,mh',q,rl,rs,co⟩;obtain ⟨x2,m2,ea2,q⟩:=Ae q;rw [ea] at ea2;cases ea2;obtain ⟨xs,m2,er,q'⟩:=Ae q
  ·cases q';exact ⟨ρ,x,m1,ea,rl,rs,fun H1 ρ1 v e1 rs1 r1=>⟨ρ1,xs,mh',er,rl.mono e1,rs1,fun H2 ρ2 vs e2 rs2 r2=>co H2 ρ2 _ (e1.trans e2) rs2 (.cons (r1.mono e2) r2)⟩⟩
noncomputable def J8 (ds:List D) (mh:MH):Option (D×MH):=if ds.length<=sizeLine then some (.tup ds,mh) else none
noncomputable def Oq (ds:List D) (mh:MH):Option (D×MH):=if ds.length<=sizeLine then some (.ref mh.length,mh++[.lst ds]) else none
theorem RS.last {K:PySem.W.Frag}{H:Hp}{ρ:List Addr}{mh:MH}(h:RS K H ρ mh) (p:Addr):(ρ++[p])[mh.length]?=some p:=by rw [← h.len];simp
theorem Co.newT {K:PySem.W.Frag}{H:Hp}{ρ:List Addr}{mh:MH}{ds:List D}{vs:List V}{Q:VK}(rs:RS K H ρ mh) (r:RDs K H ρ ds vs) (co:Co K H ρ mh (.tup ds) Q):∀ p,H p=none->Q (.ref p) (upd H p (.tup vs)):=fun p hp =>
 co _ ρ _ (Ev.new hp) (rs.new hp) (.tup (.inl (.inl Du)) (r.mono (Ev.new hp)))
theorem Co.newL {K:PySem.W.Frag}{H:Hp}{ρ:List Addr}{mh:MH}{ds:List D}{vs:List V}{Q:VK}(rs:RS K H ρ mh) (r:RDs K H ρ ds vs) (co:Co K H ρ (mh++[.lst ds]) (.ref mh.length) Q):∀ p,H p=none->Q (.ref p) (upd H p (.lst vs)):=fun p hp =>
 co _ (ρ++[p]) _ (Ev.newL hp) (rs.newL hp r) (.ref (rs.last p))
theorem tQ {es:List Expr}{mr:DM (List D)}{x1}(h:DA X es mr):DE X (.Tuple es x1 pos) (mr.bnd fun ds=>Zl (J8 ds)):=fun loc mh=>by
 refine Bc (aG (h loc mh)) ?_;rintro σ H Q ⟨ρ,d,mh',q,rl,rs,co⟩;obtain ⟨ds,m1,ea,q⟩:=Ae q
 ·unfold Zl J8 at q;split at q
  ·rename_i hz;cases q;exact ⟨ρ,ds,mh',ea,rl,rs,fun H1 ρ1 vs e1 rs1 r1=>⟨by rw [← r1.length];exact hz,Co.newT rs1 r1 (co.ev e1)⟩⟩
  ·cases q
theorem tU {es:List Expr}{mr:DM (List D)}(h:DA X es mr):DE X (.List es pos) (mr.bnd fun ds=>Zl (Oq ds)):=fun loc mh=>by
 refine Bc (Py (h loc mh)) ?_;rintro σ H Q ⟨ρ,d,mh',q,rl,rs,co⟩;obtain ⟨ds,m1,ea,q⟩:=Ae q
 ·unfold Zl Oq at q;split at q
  ·rename_i hz;cases q;exact ⟨ρ,ds,m1,ea,rl,rs,fun H1 ρ1 vs e1 rs1 r1=>⟨by rw [← r1.length];exact hz,Co.newL rs1 r1 (co.ev e1)⟩⟩
  ·cases q
theorem Dz {f:List D->MH->Option (D×MH)}{es:List Expr}{mr:DM (List D)}{x:Str}{p:Pos}{id:String}(hc:Ba X (.builtin id) (rDs X.K f)) (hg:Gl X x) (hm:X.mg x=none) (hv:bootBuiltins x=some (.builtin id)) (ha:DA X (a::es) mr)
  (hn:x ≠ "__name__") (hdb:(x==("__debug__":Str))=false) (he:starEach (a::es) X.env=(false,eval a X.env)::starEach es X.env) (hpl:(backTo pos (starEach es X.env)).any (·.1)=false) :
  DE X (.Call (.Name x p) (a::es) [] pos) (mr.bnd fun ds=>Zl (f ds)):=fun loc mh=>by
 refine Bc (Ge hc hg hm hv (ha loc mh) hn hdb he hpl) ?_;rintro σ H Q ⟨ρ,d,mh',q,rl,rs,co⟩;obtain ⟨ds,m1,ea,q⟩:=Ae q
 ·exact ⟨ρ,ds,m1,ea,rl,rs,fun H1 ρ1 vs e1 rs1 r1=>⟨ρ1,m1,ds,d,mh',q,rs1,r1,co.ev e1⟩⟩
theorem Gw {f:List D->MH->Option (D×MH)}{es:List Expr}{mr:DM (List D)}{x:Str}{p:Pos}{T:String}(hc:Ba X (.type T) (rDs X.K f)) (hg:Gl X x) (hm:X.mg x=none) (hv:bootBuiltins x=some (.type T)) (ha:DA X (a::es) mr)
  (hn:x ≠ "__name__") (hdb:(x==("__debug__":Str))=false) (he:starEach (a::es) X.env=(false,eval a X.env)::starEach es X.env) (hpl:(backTo pos (starEach es X.env)).any (·.1)=false) :
  DE X (.Call (.Name x p) (a::es) [] pos) (mr.bnd fun ds=>Zl (f ds)):=fun loc mh=>by
 refine Bc (X7 hc hg hm hv (ha loc mh) hn hdb he hpl) ?_;rintro σ H Q ⟨ρ,d,mh',q,rl,rs,co⟩;obtain ⟨ds,m1,ea,q⟩:=Ae q
 ·exact ⟨ρ,ds,m1,ea,rl,rs,fun H1 ρ1 vs e1 rs1 r1=>⟨ρ1,m1,ds,d,mh',q,rs1,r1,co.ev e1⟩⟩
end
section
variable {X:Cx}
theorem Ky {f:Value->Value->Sem Value}{r r':R2}(h:OpR X f r) (i:∀ x y H Q,r' x y H Q->r x y H Q):OpR X f r':=fun pins s σ H x y v u Q I rx ry q=>h pins s σ H x y v u Q I rx ry (i x y H Q q)
noncomputable def iop (C:Int->Int->Bool) (g:Int->Int->Int):D->D->MH->Option (D×MH)
 | .int i,.int j,mh=>if C i j=true then some (.int (g i j),mh) else none
 | _,_,_=>none
theorem Ly {f:Value->Value->Sem Value}{C:Int->Int->Prop}{Cb:Int->Int->Bool}{g:Int->Int->Int}(h:OpR X f (rI C fun i j=>.int (g i j))) (hC:∀ i j,Cb i j=true->C i j):OpR X f (rD X.K (iop Cb g)):=by
 refine Ky h ?_;rintro x y H Q ⟨ρ,mh,dx,dy,d,mh',q,rs,rx,ry,co⟩;cases rx with
 | int i =>
  cases ry with
  | int j =>
   have q:(if Cb i j=true then some (D.int (g i j),mh) else none)=some (d,mh'):=q;split at q
   ·rename_i hc;cases q;exact ⟨i,j,rfl,rfl,hC i j hc,co H ρ _ Ev.refl rs (.int _)⟩
   ·cases q
  | _=>cases q
 | _=>cases q
theorem lC {f:Value->Value->Sem Value}{g:Int->Int->Int}(h:OpR X f (rI0 fun i j=>.int (g i j))):OpR X f (rD X.K (iop (fun _ _=>true) g)) :=
 Ly (C:=fun _ _=>True) (Ky h fun x y H Q ⟨i,j,e1,e2,_,q⟩=>⟨i,j,e1,e2,q⟩) fun _ _ _=>trivial
noncomputable def Qg (g:Int->Int->Bool):D->D->MH->Option (D×MH)
 | .int i,.int j,mh=>some (.bl (g i j),mh)
 | _,_,_=>none
theorem Kz {f:Value->Value->Sem Value}{g:Int->Int->Bool}(h:OpR X f (rI0 fun i j=>.bl (g i j))):OpR X f (rD X.K (Qg g)):=by
 refine Ky h ?_;rintro x y H Q ⟨ρ,mh,dx,dy,d,mh',q,rs,rx,ry,co⟩;cases rx with
 | int i =>
  cases ry with
  | int j =>
   cases q;exact ⟨i,j,rfl,rfl,co H ρ _ Ev.refl rs (.bl _)⟩
  | _=>cases q
 | _=>cases q
noncomputable def Bk:D->D->MH->Option (D×MH)
 | .int i,.int j,mh=>some (.int (i+j),mh)
 | .str i,.str j,mh=>if i.length+j.length<=sizeLine then some (.str (i++j),mh) else none
 | .tup xs,.tup ys,mh=>if xs.length+ys.length<=sizeLine then some (.tup (xs++ys),mh) else none
 | .ref n,.ref m,mh=>match mh[n]?,mh[m]? with
  | some (.lst xs),some (.lst ys)=>if xs.length+ys.length<=sizeLine then some (.ref mh.length,mh++[.lst (xs++ys)]) else none
  | _,_=>none
 | _,_,_=>none
end
noncomputable def Hq {α β:Type}(f:α->Option β):List α->Option (List β)
 | []=>some []
 | x::xs=>match f x with
  | some y=>match Hq f xs with
   | some ys=>some (y::ys)
   | none=>none
  | none=>none
noncomputable def py (mh:MH):Nat->D->Option PyData
 | _,.non=>some .none
 | _,.bl b=>some (.bool b)
 | _,.int i=>some (.int i)
 | _,.str x=>if PyData.strOk x=true then some (.str x) else none
 | 0,.tup _=>none
 | 0,.ref _=>none
 | 0,.rol _=>none
 | 0,.obj ..=>none
 | _+1,.obj ..=>none
 | 0,.fn _=>none
 | 0,.lam=>none
 | _+1,.fn _=>none
 | _+1,.lam=>none
 | n+1,.tup ds=>match Hq (py mh n) ds with | some xs=>some (.tuple xs) | none=>none
 | n+1,.rol ds=>match Hq (py mh n) ds with | some xs=>some (.list xs) | none=>none
 | n+1,.ref k=>match mh[k]? with
  | some (.lst o)=>match Hq (py mh n) o with | some xs=>some (.list xs) | none=>none
  | _=>none
section
variable {X:Cx}{pins:List (Addr×Obj)}{σ:St}{H:Hp}{s:Shared}{ρ:List Addr}{mh:MH}
theorem Cz (I:Inv X pins σ H s) (rs:RS X.K H ρ mh):∀ (n:Nat) (d:D) (v:V) (u:Value) (a:PyData),py mh n d=some a->RD X.K H ρ d v->RelV v u->(∃ as,Reads s.heap u a as)/\a.canLay0=true/\a.depth<=n:=by
 intro n
 induction n with
 | zero =>
  intro d v u a e r rv;cases r with
  | non=>cases e;cases rv;exact ⟨⟨_,.none⟩,rfl,Nat.le_refl _⟩
  | bl b=>cases e;cases rv;exact ⟨⟨_,.bool b⟩,rfl,Nat.le_refl _⟩
  | int i=>cases e;obtain ⟨t,rfl⟩:=rv;exact ⟨⟨_,.int i t⟩,rfl,Nat.le_refl _⟩
  | str x =>
   have e:(if PyData.strOk x=true then some (PyData.str x) else none)=some a:=e;split at e
   ·cases e;obtain ⟨t,rfl⟩:=rv;exact ⟨⟨_,.str x t⟩,by assumption,Nat.le_refl _⟩
   ·cases e
  | tup s r=>cases e
  | ref h=>cases e
  | rol s r=>cases e
  | obj n s l r=>cases e
  | fn h=>cases e
  | lam h=>cases e
 | succ n ih =>
  have all:∀ (ds:List D) (vs:List V) (us:List Value) (as:List PyData),Hq (py mh n) ds=some as->RDs X.K H ρ ds vs->Vals vs us->(∃ bs,ReadsAll s.heap us as bs)/\PyData.canLayAll0 as=true/\PyData.depthAll as<=n:=by
   intro ds
   induction ds with
   | nil=>intro vs us as e r rv;cases e;cases r;cases rv;exact ⟨⟨_,.nil⟩,rfl,Nat.zero_le _⟩
   | cons d ds ihd =>
    intro vs us as e r rv;cases r with
    | cons r1 r2 =>
     cases rv with
     | cons v1 v2 =>
      simp only [Hq] at e;split at e
      ·rename_i y ey;split at e
       ·rename_i ys eys;cases e;obtain ⟨⟨a1,h1⟩,h2,h3⟩:=ih _ _ _ _ ey r1 v1;obtain ⟨⟨b1,g1⟩,g2,g3⟩:=ihd _ _ _ eys r2 v2;refine ⟨⟨_,.cons h1 g1⟩,?_,?_⟩
        ·simp only [PyData.canLayAll0,h2,g2,Bool.and_self]
        ·simp only [PyData.depthAll];omega
       ·cases e
      ·cases e
  intro d v u a e r rv;cases r with
  | non=>cases e;cases rv;exact ⟨⟨_,.none⟩,rfl,Nat.zero_le _⟩
  | bl b=>cases e;cases rv;exact ⟨⟨_,.bool b⟩,rfl,Nat.zero_le _⟩
  | int i=>cases e;obtain ⟨t,rfl⟩:=rv;exact ⟨⟨_,.int i t⟩,rfl,Nat.zero_le _⟩
  | str x =>
   have e:(if PyData.strOk x=true then some (PyData.str x) else none)=some a:=e;split at e
   ·cases e;obtain ⟨t,rfl⟩:=rv;exact ⟨⟨_,.str x t⟩,by assumption,Nat.zero_le _⟩
   ·cases e
  | @tup ds a' xs sq r =>
   cases rv;have e:(match Hq (py mh n) ds with | some xs=>some (PyData.tuple xs) | none=>none)=some a:=e;split at e
   ·rename_i ys ey;cases e;obtain ⟨its,rv,⟨o,h1,h2,n',h3⟩,_⟩:=I.tuple sq;obtain ⟨⟨bs,g1⟩,g2,g3⟩:=all ds xs its ys ey r rv;refine ⟨⟨_,.tuple h1 h2 h3 (by simpa using g1)⟩,by simpa [PyData.canLay0] using g2,?_⟩;simp only [PyData.depth];omega
   ·cases e
  | obj n s l r=>cases e
  | fn h=>cases e
  | lam h=>cases e
  | @rol ds a' xs sq r =>
   cases rv;have e:(match Hq (py mh n) ds with | some xs=>some (PyData.list xs) | none=>none)=some a:=e;split at e
   ·rename_i ys ey;cases e;obtain ⟨its,rv,⟨ob,n',h1,h2,h2',h3⟩,_⟩:=I.list sq.sq;obtain ⟨⟨bs,g1⟩,g2,g3⟩:=all _ xs its ys ey r rv;refine ⟨⟨_,.list h1 h2 h3 (by simpa using g1)⟩,by simpa [PyData.canLay0] using g2,?_⟩;simp only [PyData.depth];omega
   ·cases e
  | @ref k a' h =>
   cases rv;have e:(match mh[k]? with | some (.lst o)=>(match Hq (py mh n) o with | some xs=>some (PyData.list xs) | none=>none) | _=>none)=some a:=e;split at e
   ·rename_i o eo;split at e
    ·rename_i ys ey;cases e;obtain ⟨a2,ha,ro⟩:=rs.at eo;rw [h] at ha;cases ha;obtain ⟨xs,sq,r⟩:=ro.read;obtain ⟨its,rv,⟨ob,n',h1,h2,h2',h3⟩,_⟩:=I.list sq;obtain ⟨⟨bs,g1⟩,g2,g3⟩:=all _ xs its ys ey r rv;refine ⟨⟨_,.list h1 h2 h3 (by simpa using g1)⟩,by simpa [PyData.canLay0] using g2,?_⟩;simp only [PyData.depth];omega
    ·cases e
   ·cases e
noncomputable def eqB (mh:MH) (x y:D):Option Bool:=match py mh 60 x,py mh 60 y with
 | some a,some b=>some (PyData.eqv a b)
 | _,_=>none
noncomputable def eqD (x y:D) (mh:MH):Option (D×MH):=match eqB mh x y with | some k=>some (.bl k,mh) | none=>none
noncomputable def neD (x y:D) (mh:MH):Option (D×MH):=match eqB mh x y with | some k=>some (.bl (!k),mh) | none=>none
theorem aY {A:Around}{a b:PyData}(hu:A.units+64 < cLine) (h:a.depth<=60):A.units+min a.depth b.depth < cLine:=by omega
theorem R7 {x y:D}{k:Bool}(h:eqB mh x y=some k):∃ a b,py mh 60 x=some a/\py mh 60 y=some b/\k=PyData.eqv a b:=by
 unfold eqB at h;split at h
 ·rename_i a b ea eb;cases h;exact ⟨a,b,ea,eb,rfl⟩
 ·cases h
theorem tV (hu:X.A.units+64 < cLine):OpR X (compareOp .Eq) (rD X.K eqD):=by
 rintro pins s σ H x y v u Q I rx ry ⟨ρ,mh,dx,dy,d,mh',q,rs,r1,r2,co⟩;unfold eqD at q;split at q
 ·rename_i k ek;cases q;obtain ⟨a,b,ea,eb,rfl⟩:=R7 ek;obtain ⟨⟨as,h1⟩,h2,h3⟩:=Cz I rs 60 dx x v a ea r1 rx;obtain ⟨⟨bs,g1⟩,g2,g3⟩:=Cz I rs 60 dy y u b eb r2 ry;exact SeqAt.compareEq_reads h1 g1 h2 g2 (aY hu h3) ⟨.bl _,H,I,rfl,co H ρ _ Ev.refl rs (.bl _)⟩
 ·cases q
theorem tW (hu:X.A.units+64 < cLine):OpR X (compareOp .NotEq) (rD X.K neD):=by
 rintro pins s σ H x y v u Q I rx ry ⟨ρ,mh,dx,dy,d,mh',q,rs,r1,r2,co⟩;unfold neD at q;split at q
 ·rename_i k ek;cases q;obtain ⟨a,b,ea,eb,rfl⟩:=R7 ek;obtain ⟨⟨as,h1⟩,h2,h3⟩:=Cz I rs 60 dx x v a ea r1 rx;obtain ⟨⟨bs,g1⟩,g2,g3⟩:=Cz I rs 60 dy y u b eb r2 ry;exact SeqAt.compareNe_reads h1 g1 h2 g2 (aY hu h3) ⟨.bl _,H,I,rfl,co H ρ _ Ev.refl rs (.bl _)⟩
 ·cases q
noncomputable def inB (mh:MH) (x c:D):Option Bool:=match py mh 60 x,py mh 60 c with
 | some a,some (.list xs)=>some (xs.any fun y=>PyData.eqv y a)
 | some a,some (.tuple xs)=>some (xs.any fun y=>PyData.eqv y a)
 | _,_=>none
noncomputable def Ye (neg:Bool) (x c:D) (mh:MH):Option (D×MH):=match inB mh x c with | some k=>some (.bl (if neg then !k else k),mh) | none=>none
theorem lE (hu:X.A.units+64 < cLine):OpR X (compareOp .In) (rD X.K (Ye false)):=by
 rintro pins s σ H x y v u Q I rx ry ⟨ρ,mh,dx,dy,d,mh',q,rs,r1,r2,co⟩;unfold Ye at q;split at q
 ·rename_i k ek;cases q;unfold inB at ek;split at ek
  ·rename_i a xs ea eb;cases ek;obtain ⟨⟨as,h1⟩,h2,h3⟩:=Cz I rs 60 dx x v a ea r1 rx;obtain ⟨⟨bs,g1⟩,g2,g3⟩:=Cz I rs 60 dy y u _ eb r2 ry;exact SeqAt.in_list_reads g1 h1 (by simpa [PyData.canLay0] using g2) h2 (by simp only [PyData.depth] at g3;omega) ⟨.bl _,H,I,rfl,co H ρ _ Ev.refl rs (.bl _)⟩
  ·rename_i a xs ea eb;cases ek;obtain ⟨⟨as,h1⟩,h2,h3⟩:=Cz I rs 60 dx x v a ea r1 rx;obtain ⟨⟨bs,g1⟩,g2,g3⟩:=Cz I rs 60 dy y u _ eb r2 ry;exact SeqAt.in_tuple_reads g1 h1 (by simpa [PyData.canLay0] using g2) h2 (by simp only [PyData.depth] at g3;omega) ⟨.bl _,H,I,rfl,co H ρ _ Ev.refl rs (.bl _)⟩
  ·cases ek
 ·cases q
end
section
variable {X:Cx}
noncomputable def isD (neg:Bool) (x y:D) (mh:MH):Option (D×MH):=match y with
 | .non=>some (.bl (if neg then !(match x with | .non=>true | _=>false) else match x with | .non=>true | _=>false),mh)
 | .bl b=>(match x with
  | .bl a=>some (.bl (if neg then a != b else a==b),mh)
  | .non=>some (.bl neg,mh)
  | _=>none)
 | _=>none
theorem tX:OpR X (compareOp .Is) (rD X.K (isD false)):=by
 rintro pins s σ H x y v u Q I rx ry ⟨ρ,mh,dx,dy,d,mh',q,rs,r1,r2,co⟩;cases r2 with
 | non =>
  cases q;cases ry;refine is_none_gen ⟨.bl _,H,I,?_,co H ρ _ Ev.refl rs (.bl _)⟩;rw [rx.none_iff];cases r1 <;> rfl
 | bl b =>
  cases r1 with
  | bl a=>cases q;cases rx;cases ry;exact is_bool ⟨.bl _,H,I,rfl,co H ρ _ Ev.refl rs (.bl _)⟩
  | non=>cases q;cases rx;cases ry;exact wpAny_pure (a:=Value.bool false) ⟨.bl _,H,I,rfl,co H ρ _ Ev.refl rs (.bl _)⟩
  | _=>cases q
 | _=>cases q
theorem aZ:OpR X (binaryOp .Add) (fun x y H Q=>∃ a b ys,x=.ref a/\y=.ref b/\SqT X.K H a []/\SqT X.K H b ys/\Q (.ref b) H):=by
 rintro pins s σ H x y v u Q I rx ry ⟨a,b,ys,e1,e2,ha,hb,q⟩;subst e1;subst e2;cases rx;cases ry;obtain ⟨its,r1,p1,_⟩:=I.tuple ha;obtain ⟨its2,r2,p2,_⟩:=I.tuple hb;cases r1;obtain ⟨⟨cls,dd,data,sl⟩,ho,hc,n,hd⟩:=id p1;obtain ⟨⟨cls2,dd2,data2,sl2⟩,ho2,hc2,n2,hd2⟩:=id p2;simp only at hc hd hc2 hd2;subst hc hd hc2 hd2;exact concat_meets ⟨_,ho,rfl⟩ ⟨_,ho2,rfl⟩ noFill_tuple_add seq_tuple_add PySem.F.slot_tuple_add PySem.F.entry_tuple_add (PySem.F.args_tuple_add_2 _ _) (tuple_addW0 a b _ _ n n2 dd dd2 sl sl2 (by simp)) ⟨ho,ho2,⟨.ref b,H,I,rfl,q⟩⟩
theorem Qh:OpR X (binaryOp .Add) (rD X.K Bk):=by
 refine Ky (rO.or (U0.or (jT.or (sU.or aZ)))) ?_;rintro x y H Q ⟨ρ,mh,dx,dy,d,mh',q,rs,rx,ry,co⟩;cases rx with
 | int i =>
  cases ry with
  | int j=>cases q;exact .inl ⟨i,j,rfl,rfl,co H ρ _ Ev.refl rs (.int _)⟩
  | _=>cases q
 | str i =>
  cases ry with
  | str j =>
   have q:(if i.length+j.length<=sizeLine then some (D.str (i++j),mh) else none)=some (d,mh'):=q;split at q
   ·rename_i hz;cases q;exact .inr (.inl ⟨i,j,rfl,rfl,hz,co H ρ _ Ev.refl rs (.str _)⟩)
   ·cases q
  | _=>cases q
 | @tup xs a us s1 r1 =>
  cases ry with
  | @tup ys b ws s2 r2 =>
   have q:(if xs.length+ys.length<=sizeLine then some (D.tup (xs++ys),mh) else none)=some (d,mh'):=q;split at q
   ·rename_i hz;cases q
    by_cases hne:xs=[]
    ·subst hne;cases r1;exact .inr (.inr (.inr (.inr ⟨a,b,ws,rfl,rfl,s1,s2,co H ρ _ Ev.refl rs (.tup s2 r2)⟩)))
    ·refine .inr (.inr (.inl ⟨a,b,us,ws,rfl,rfl,s1,s2,fun z=>hne ?_,by rw [← r1.length,← r2.length];exact hz,?_⟩))
     ·rw [z] at r1;cases r1;rfl
     ·refine ⟨fun z=>?_,fun z=>Co.newT rs (r1.append r2) co⟩;subst z;cases r2;exact co H ρ _ Ev.refl rs (.tup s1 (by rw [List.append_nil];exact r1))
   ·cases q
  | _=>cases q
 | @ref n a ha =>
  cases ry with
  | @ref m b hb =>
   have q:(match mh[n]?,mh[m]? with
    | some (.lst xs),some (.lst ys)=>if xs.length+ys.length<=sizeLine then some (D.ref mh.length,mh++[.lst (xs++ys)]) else none
    | _,_=>none)=some (d,mh'):=q
   split at q
   ·rename_i xs ys e1 e2;split at q
    ·rename_i hz;cases q;obtain ⟨a2,h1,us,g1,r1⟩:=rs.at e1;obtain ⟨b2,h2,ws,g2,r2⟩:=rs.at e2;rw [ha] at h1;rw [hb] at h2;cases h1;cases h2;exact .inr (.inr (.inr (.inl ⟨a,b,us,ws,rfl,rfl,g1,g2,by rw [← r1.length,← r2.length];exact hz,Co.newL rs (r1.append r2) co⟩)))
    ·cases q
   ·cases q
  | _=>cases q
 | _=>cases q
end
section
variable {X:Cx}
theorem Ot {f:Value}{r r':List V->Hp->VK->Prop}(h:Ba X f r) (i:∀ xs H Q,r' xs H Q->r xs H Q):Ba X f r':=fun pins s σ H xs us Q I rx q=>h pins s σ H xs us Q I rx (i xs H Q q)
theorem lF {r r':R2}(h:IxR X r) (i:∀ x y H Q,r' x y H Q->r x y H Q):IxR X r':=fun a b pins s σ H x y v u Q I rx ry q hs=>h a b pins s σ H x y v u Q I rx ry (i x y H Q q) hs
theorem lG {r r':V->Option Int->Option Int->Hp->VK->Prop}(h:SlR X r) (i:∀ x lo hi H Q,r' x lo hi H Q->r x lo hi H Q):SlR X r':=fun pins s σ H x v vl vu lo hi sl Q I rx hs pl pu q=>h pins s σ H x v vl vu lo hi sl Q I rx hs pl pu (i x lo hi H Q q)
noncomputable def Dc:D->MH->Option (List D)
 | .tup ds,_=>some ds
 | .ref n,mh=>match mh[n]? with | some (.lst o)=>some o | _=>none
 | .rol ds,_=>some ds
 | _,_=>none
theorem Ib {K:PySem.W.Frag}{H:Hp}{ρ:List Addr}{mh:MH}{d:D}{v:V}{ds:List D}(rs:RS K H ρ mh) (r:RD K H ρ d v) (e:Dc d mh=some ds):∃ p xs,v=.ref p/\(SqL K H p xs\/SqT K H p xs)/\RDs K H ρ ds xs:=by
 cases r with
 | tup s r=>cases e;exact ⟨_,_,rfl,.inr s,r⟩
 | rol s r=>cases e;exact ⟨_,_,rfl,.inl s.sq,r⟩
 | @ref n a h =>
  have e:(match mh[n]? with | some (.lst o)=>some o | _=>none)=some ds:=e;split at e
  ·rename_i o eo;cases e;obtain ⟨a',ha,ro⟩:=rs.at eo;rw [h] at ha;cases ha;obtain ⟨xs,q,r⟩:=ro.read;exact ⟨_,xs,rfl,.inl q,r⟩
  ·cases e
 | _=>cases e
theorem lH {K:PySem.W.Frag}{H:Hp}{ρ:List Addr}{ds:List D}{xs:List V}{i:Int}{d:D}(r:RDs K H ρ ds xs) (e:atI ds i=some d):∃ v,atI xs i=some v/\RD K H ρ d v:=by
 unfold atI at e ⊢;rw [← r.length];cases q:ixN ds.length i with
 | none=>rw [q] at e;cases e
 | some j =>
  rw [q] at e;exact r.get e
noncomputable def lJ (x y:D) (mh:MH):Option (D×MH):=match y with
 | .int i=>(match x with
  | .str z=>if z.length<=sizeLine then (match atI z.cps.toList i with | some c=>some (.str ⟨#[c]⟩,mh) | none=>none) else none
  | _=>match Dc x mh with
   | some ds=>(match atI ds i with | some d=>some (d,mh) | none=>none)
   | none=>none)
 | _=>none
theorem zE:IxR X (rD X.K lJ):=by
 refine lF (sJ (X:=X)) ?_;rintro x y H Q ⟨ρ,mh,dx,dy,d,mh',q,rs,rx,ry,co⟩;have seq:∀ i:Int,y=.int i->(match Dc dx mh with | some ds=>(match atI ds i with | some d=>some (d,mh) | none=>none) | none=>none)=some (d,mh')->rIx X.K x y H Q:=fun i ey q=>by
  split at q
  ·rename_i ds e1;split at q
   ·rename_i d' e2;cases q;obtain ⟨p,xs,rfl,hq,r⟩:=Ib rs rx e1;obtain ⟨v,e3,r3⟩:=lH r e2;rcases hq with hq|hq
    ·exact .inl ⟨p,xs,i,v,rfl,ey,hq,e3,co H ρ v Ev.refl rs r3⟩
    ·exact .inr (.inl ⟨p,xs,i,v,rfl,ey,hq,e3,co H ρ v Ev.refl rs r3⟩)
   ·cases q
  ·cases q
 cases ry with
 | int i =>
  cases rx with
  | str z =>
   have q:(if z.length<=sizeLine then (match atI z.cps.toList i with | some c=>some (D.str ⟨#[c]⟩,mh) | none=>none) else none)=some (d,mh'):=q;split at q
   ·rename_i hz;split at q
    ·rename_i c ec;cases q;exact .inr (.inr ⟨z,i,c,rfl,rfl,hz,ec,co H ρ _ Ev.refl rs (.str _)⟩)
    ·cases q
   ·cases q
  | non=>exact seq i rfl q
  | bl b=>exact seq i rfl q
  | int j=>exact seq i rfl q
  | tup s r=>exact seq i rfl q
  | ref h=>exact seq i rfl q
  | rol s r=>exact seq i rfl q
  | obj n s l r=>exact seq i rfl q
  | fn h=>exact seq i rfl q
  | lam h=>exact seq i rfl q
 | _=>cases q
noncomputable def cutD {α:Type}(xs:List α) (lo hi:Option Int):List α:=(xs.drop (HT.sIx xs.length 0 lo)).take (HT.sIx xs.length xs.length hi - HT.sIx xs.length 0 lo)
theorem Qi {K:PySem.W.Frag}{H:Hp}{ρ:List Addr}{ds:List D}{xs:List V}{lo hi:Option Int}(r:RDs K H ρ ds xs):RDs K H ρ (cutD ds lo hi) (R0 xs lo hi):=by
 unfold cutD R0;rw [r.length];exact (r.drop _).take _
theorem G9 {prog:Program}{w:World}{A:Around}{E:Value->Shared->Prop}{s:Shared}{t sl:Addr}{items:Array Value}{vl vu:Value}{lo hi:Option Int}{Q:Value->Shared->Prop}(ht:IsTup s.heap t items) (hs:s.heap.IsSliceOf sl vl vu .none) (pl:IsPart vl lo) (pu:IsPart vu hi)
  (h0:HT.sIx items.size 0 lo=0) (h1:HT.sIx items.size items.size hi=items.size) (h:Q (.ref t) s):wpAny (model prog w) A (getItem (.ref t) (.ref sl)) Q E s:=by
 obtain ⟨os,hos,hcs,hds⟩:=id hs
 have hTs:s.TypeIs (.ref sl) "slice":=⟨os,hos,hcs⟩
 unfold getItem
 try with_reducible refine wpAny_holding ?_
 first | refine wpAny_bind (wpAny_pure ?_) | skip
 refine wpAny_bind (wpAny_sequenceKey ht.typeIs (by decide) ?_)
 refine wpAny_bind (wpAny_callSpecial?_slot (name:=Str.ofString "__getitem__") ht.typeIs PyProof.Rows.slot_tuple_getitem
  (wpAny_call_entry PyProof.Rows.slot_tuple_getitem ht.typeIs entry_tuple_getitem ?_ (args_tuple_getitem _ _)))
 show wpAny _ _ (Builtin.Tuple.tupleItemsOf (.ref t) >>= _) _ _ s;refine wpAny_bind (tupleItemsOf_ ht ?_);refine wpAny_bind (wpAny_typeOf hTs ?_);rw [if_pos (by decide)];refine wpAny_bind (HT.sliceApplied_gen hs pl pu ?_);rw [h0,h1];have hyes:((((0:Nat):Int)==0&&(1:Int)==1&&(items.size - 0)==items.size)=true):=by simp
 show wpAny _ _ (if (((0:Nat):Int)==0&&(1:Int)==1&&(items.size - 0)==items.size)=true then _ else _) _ _ s;rw [if_pos hyes];unfold Builtin.Tuple.tupleIsExact;refine wpAny_bind (wpAny_bind (wpAny_typeOf ht.typeIs (wpAny_pure ?_)));rw [if_pos (by decide)];exact wpAny_bind (wpAny_rule (wpAny_pure ⟨_,rfl,wpAny_pure h⟩))
theorem Yg:SlR X (fun x lo hi H Q=>∃ a xs,x=.ref a/\SqT X.K H a xs/\HT.sIx xs.length 0 lo=0/\HT.sIx xs.length xs.length hi=xs.length/\Q (.ref a) H):=by
 intro pins s σ H x v vl vu lo hi sl Q I rx hs pl pu h;obtain ⟨a,xs,rfl,hx,h0,h1,q⟩:=h;cases rx;obtain ⟨its,r,ht,hz⟩:=I.tuple hx;have hlen:its.toArray.size=xs.length:=by rw [List.size_toArray];exact r.length.symm
 refine ⟨"tuple",_,PyProof.Rows.slot_tuple_getitem.lookup,ht.typeIs,?_⟩;exact G9 ht hs pl pu (by rw [hlen];exact h0) (by rw [hlen];exact h1) ⟨.ref a,H,I,rfl,q⟩
noncomputable def slD (x:D) (lo hi:Option Int) (mh:MH):Option (D×MH):=match x with
 | .tup ds=>if HT.sIx ds.length 0 lo=0/\HT.sIx ds.length ds.length hi=ds.length then some (.tup ds,mh) else some (.tup (cutD ds lo hi),mh)
 | .ref n=>match mh[n]? with
  | some (.lst o)=>some (.ref mh.length,mh++[.lst (cutD o lo hi)])
  | _=>none
 | .rol ds=>some (.ref mh.length,mh++[.lst (cutD ds lo hi)])
 | _=>none
noncomputable def Abg (K:PySem.W.Frag):V->Option Int->Option Int->Hp->VK->Prop:=fun x lo hi H Q=>∃ ρ mh dx d mh',slD dx lo hi mh=some (d,mh')/\RS K H ρ mh/\RD K H ρ dx x/\Co K H ρ mh' d Q
theorem Abh:SlR X (Abg X.K):=by
 refine lG (Yg.or (sG.or jV)) ?_;rintro x lo hi H Q ⟨ρ,mh,dx,d,mh',q,rs,rx,co⟩;cases rx with
 | @tup ds a xs s r =>
  have q:(if HT.sIx ds.length 0 lo=0/\HT.sIx ds.length ds.length hi=ds.length then some (D.tup ds,mh) else some (D.tup (cutD ds lo hi),mh))=some (d,mh'):=q;have hl:=r.length;split at q
  ·rename_i hw;cases q;exact .inl ⟨a,xs,rfl,s,by rw [← hl];exact hw.1,by rw [← hl];exact hw.2,co H ρ _ Ev.refl rs (.tup s r)⟩
  ·rename_i hw;cases q;exact .inr (.inl ⟨a,xs,rfl,s,by rw [← hl];exact hw,Co.newT rs (Qi r) co⟩)
 | @ref n a h =>
  have q:(match mh[n]? with | some (.lst o)=>some (D.ref mh.length,mh++[.lst (cutD o lo hi)]) | _=>none)=some (d,mh'):=q;split at q
  ·rename_i o eo;cases q;obtain ⟨a',ha,ro⟩:=rs.at eo;rw [h] at ha;cases ha;obtain ⟨xs,sq,r⟩:=ro.read;exact .inr (.inr ⟨a,xs,rfl,sq,Co.newL rs (Qi r) co⟩)
  ·cases q
 | @rol ds a xs s r =>
  cases q;exact .inr (.inr ⟨a,xs,rfl,s.sq,Co.newL rs (Qi r) co⟩)
 | _=>cases q
noncomputable def Ie (m:Option (DM D)):DM (Option Int):=match m with
 | none=>Zr none
 | some m=>m.bnd fun x=>match x with | .int i=>Zr (some i) | _=>Zb
noncomputable def bA (X:Cx) (e:Option Expr) (m:Option (DM D)):Prop:=match e,m with
 | none,none=>True
 | some e,some m=>DE X e m
 | _,_=>False
noncomputable def tDO (K:PySem.W.Frag) (loc:Loc) (mh:MH) (r:Option (Option Int×MH)):TO:=fun σ H Q=>∃ ρ o mh',r=some (o,mh')/\RL K H ρ loc σ/\RS K H ρ mh/\∀ H' ρ',Ev K H ρ H' ρ'->RS K H' ρ' mh'->Q o H'
theorem zF {e:Option Expr}{m:Option (DM D)}(h:bA X e m) (loc:Loc) (mh:MH):PO X e (tDO X.K loc mh (Ie m loc mh)):=by
 rintro pins s σ H Q I ⟨ρ,o,mh',q,rl,rs,co⟩;cases e with
 | none =>
  cases m with
  | none =>
   cases q;exact jQ pins s σ H Q I (co H ρ Ev.refl rs)
  | some m=>exact h.elim
 | some e =>
  cases m with
  | none=>exact h.elim
  | some m =>
   obtain ⟨x,m1,ea,q⟩:=Ae q;cases x with
   | int i =>
    cases q;refine jR (h loc mh) pins s σ H Q I ⟨ρ,.int i,mh',ea,rl,rs,fun H' ρ' v e' rs' r'=>?_⟩;cases r';exact ⟨i,rfl,co H' ρ' e' rs'⟩
   | non=>cases q
   | bl b=>cases q
   | str z=>cases q
   | tup ds=>cases q
   | ref n=>cases q
   | rol ds=>cases q
   | obj c ks ds=>cases q
   | fn x=>cases q
   | lam=>cases q
end
end DL
namespace HT
open PySem PySem.Spec PyProof.Rows
section
variable {prog:Program}{w:World}{A:Around}{E:Value->Shared->Prop}{s:Shared}
end
end HT
namespace DL
open PySem PySem.Spec PyProof.Rows L2
section
variable {X:Cx}
noncomputable def Dm:List D->MH->Option (D×MH)
 | [.str z],mh=>if z.length<=sizeLine then some (.int z.length,mh) else none
 | [x],mh=>match Dc x mh with | some ds=>some (.int ds.length,mh) | none=>none
 | _,_=>none
theorem Hr {K:PySem.W.Frag}{H:Hp}{ρ:List Addr}{d:D}{xs:List V}(h:RDs K H ρ [d] xs):∃ v,xs=[v]/\RD K H ρ d v:=by
 cases h with
 | cons r t=>cases t;exact ⟨_,rfl,r⟩
theorem Yh:Ba X (.builtin "len") (rDs X.K Dm):=by
 refine Ot (Qa.or Qc) ?_;rintro xs H Q ⟨ρ,mh,ds,d,mh',q,rs,r,co⟩
 match ds,q with
 | [x],q =>
  obtain ⟨v,rfl,rx⟩:=Hr r;have seq:(match Dc x mh with | some ds=>some (D.int ds.length,mh) | none=>none)=some (d,mh')->∃ p ys,[v]=[.ref p]/\(SqL X.K H p ys\/SqT X.K H p ys)/\Q (.int ys.length) H:=fun q=>by
   split at q
   ·rename_i ds e1;cases q;obtain ⟨p,ys,rfl,hq,r⟩:=Ib rs rx e1;exact ⟨p,ys,rfl,hq,by rw [← r.length];exact co H ρ _ Ev.refl rs (.int _)⟩
   ·cases q
  cases rx with
  | str z =>
   have q:(if z.length<=sizeLine then some (D.int z.length,mh) else none)=some (d,mh'):=q;split at q
   ·rename_i hz;cases q;exact .inr ⟨z,rfl,hz,co H ρ _ Ev.refl rs (.int _)⟩
   ·cases q
  | non=>exact .inl (seq q)
  | bl b=>exact .inl (seq q)
  | int i=>exact .inl (seq q)
  | tup s r=>exact .inl (seq q)
  | ref h=>exact .inl (seq q)
  | rol s r=>exact .inl (seq q)
  | obj n s l r=>exact .inl (seq q)
  | fn h=>exact .inl (seq q)
  | lam h=>exact .inl (seq q)
 | [],q=>cases q
 | _::_::_,q=>simp [Dm] at q
noncomputable def Hs:List D->MH->Option (D×MH)
 | [x],mh=>match Dc x mh with | some ds=>some (.tup ds,mh) | none=>none
 | _,_=>none
theorem R8:Ba X (.type "tuple") (rDs X.K Hs):=by
 refine Ot Nz ?_;rintro xs H Q ⟨ρ,mh,ds,d,mh',q,rs,r,co⟩
 match ds,q with
 | [x],q =>
  obtain ⟨v,rfl,rx⟩:=Hr r;have q:(match Dc x mh with | some ds=>some (D.tup ds,mh) | none=>none)=some (d,mh'):=q;split at q
  ·rename_i ds e1;cases q;obtain ⟨p,ys,rfl,hq,r⟩:=Ib rs rx e1;rcases hq with hq|hq
   ·exact ⟨p,ys,rfl,.inl ⟨hq,Co.newT rs r co⟩⟩
   ·exact ⟨p,ys,rfl,.inr ⟨hq,co H ρ _ Ev.refl rs (.tup hq r)⟩⟩
  ·cases q
 | [],q=>cases q
 | _::_::_,q=>cases q
noncomputable def Lz:D->MH->Option String
 | .non,_=>some "NoneType"
 | .bl _,_=>some "bool"
 | .int _,_=>some "int"
 | .str _,_=>some "str"
 | .tup _,_=>some "tuple"
 | .ref n,mh=>match mh[n]? with | some (.lst _)=>some "list" | _=>none
 | .rol _,_=>some "list"
 | .obj ..,_=>none
 | .fn _,_=>none
 | .lam,_=>none
noncomputable def Yi (t c:String):Option Bool :=
 if t==c then some true else
 if ["NoneType", "bool", "int", "str", "tuple", "list"].contains t&&["bool", "int", "str", "tuple", "list", "dict"].contains c then some (t == "bool"&&c == "int") else none
theorem Dn {K:PySem.W.Frag}{t c:String}{b:Bool}(ht:t∈["NoneType", "bool", "int", "str", "tuple", "list"]) (hc:c∈["bool", "int", "str", "tuple", "list", "dict"]) (h:Yi t c=some b):PySem.W.kitOne K (.type t) (.type c)=some b:=by
 simp only [List.mem_cons,List.mem_nil_iff,or_false] at ht hc;rcases ht with rfl | rfl | rfl | rfl | rfl | rfl <;> rcases hc with rfl | rfl | rfl | rfl | rfl | rfl <;> (first | (have e:b=true:=by (have h':=h;revert h';decide +revert));subst e;kernel_rfl | (have e:b=false:=by (have h':=h;revert h';decide +revert));subst e;kernel_rfl)
end
inductive Src where
 | seq (ds:List D) | lref (n:Nat) | enum (s:Src) | zip (s t:Src)
noncomputable def pQ:Nat->List D->List D
 | _,[]=>[]
 | i,d::r=>.tup [.int i,d]::pQ (i+1) r
noncomputable def Src.items:Src->MH->List D
 | .seq ds,_=>ds
 | .lref n,mh=>match mh[n]? with | some (.lst o)=>o | _=>[]
 | .enum s,mh=>pQ 0 (s.items mh)
 | .zip s t,mh=>List.zipWith (fun a b=>.tup [a,b]) (s.items mh) (t.items mh)
noncomputable def Src.ok:Src->MH->Bool
 | .seq _,_=>true
 | .lref n,mh=>match mh[n]? with | some (.lst _)=>true | _=>false
 | .enum s,mh=>s.ok mh
 | .zip s t,mh=>s.ok mh&&t.ok mh
noncomputable def Src.get (s:Src) (mh:MH) (i:Nat):Option D:=(s.items mh)[i]?
noncomputable def Src.stop (s:Src) (mh:MH) (i:Nat):Bool:=s.ok mh&&decide ((s.items mh).length<=i)
structure JR (K:PySem.W.Frag) (H0:Hp) (ρ0:List Addr) (src:Src) (J:It):Prop where
 go:∀ H ρ mh i d,Ev K H0 ρ0 H ρ->RS K H ρ mh->src.get mh i=some d->J.go i H/\∀ x H',J.yld i H x H'->Ev K H ρ H' ρ/\RS K H' ρ mh/\RD K H' ρ d x
 stop:∀ H ρ mh i,Ev K H0 ρ0 H ρ->RS K H ρ mh->src.stop mh i=true->J.stop i H
noncomputable def tDI (K:PySem.W.Frag) (loc:Loc) (mh:MH) (r:Option (Src×MH)):TI:=fun σ H R=>∃ ρ src mh',r=some (src,mh')/\RL K H ρ loc σ/\RS K H ρ mh/\∀ H' ρ' J,Ev K H ρ H' ρ'->RS K H' ρ' mh'->JR K H' ρ' src J->R J H'
noncomputable def DI (X:Cx) (tg iter:Expr) (m:DM Src):Prop:=∀ loc mh,PI X tg iter (tDI X.K loc mh (m loc mh))
theorem tY {X:Cx}{tg e:Expr}{t t':TI}(h:PI X tg e t) (i:∀ σ H R,t' σ H R->t σ H R):PI X tg e t':=fun pins s σ H R I q=>h pins s σ H R I (i σ H R q)
theorem Cd {X:Cx}{tg e:Expr}{loc:Loc}{mh:MH}:PI X tg e (tDI X.K loc mh none):=fun _ _ _ _ _ _ h=>by obtain ⟨_,_,_,e,_⟩:=h;cases e
section
variable {X:Cx}{tg:Expr}
theorem JR.tup {K:PySem.W.Frag}{H0:Hp}{ρ0:List Addr}{ds:List D}{a:Addr}{xs:List V}(s:SqT K H0 a xs) (r:RDs K H0 ρ0 ds xs):JR K H0 ρ0 (.seq ds) (Itt K a) where
 go:=fun H ρ mh i d e rs q=>by
  obtain ⟨v,e1,r1⟩:=(r.mono e).get q;refine ⟨⟨xs,v,e.tup _ _ s,e1⟩,?_⟩;rintro x H' ⟨h1,h2⟩;subst h1;have:=h2 xs (e.tup _ _ s);rw [e1] at this;cases this;exact ⟨Ev.refl,rs,r1⟩
 stop:=fun H ρ mh i e rs q=>by
  refine ⟨xs,e.tup _ _ s,?_⟩;rw [← r.length];have q:(true&&decide (ds.length<=i))=true:=q;rw [Bool.true_and] at q;exact of_decide_eq_true q
theorem JR.lst {K:PySem.W.Frag}{H0:Hp}{ρ0:List Addr}{n:Nat}{a:Addr}(h:ρ0[n]?=some a):JR K H0 ρ0 (.lref n) (Itl K a) where
 go:=fun H ρ mh i d e rs q=>by
  unfold Src.get Src.items at q;cases eo:mh[n]? with
  | none=>simp only [eo] at q;simp at q
  | some ob =>
   cases ob with
   | dct kvs=>simp only [eo] at q;simp at q
   | plc=>simp only [eo] at q;simp at q
   | lst o =>
   simp only [eo] at q;obtain ⟨a',ha,ro⟩:=rs.at eo;rw [e.at h] at ha;cases ha;obtain ⟨xs,sq,r⟩:=ro.read;obtain ⟨v,e1,r1⟩:=r.get q;refine ⟨⟨xs,v,sq,e1⟩,?_⟩;rintro x H' ⟨h1,h2⟩;subst h1;have:=h2 xs sq;rw [e1] at this;cases this;exact ⟨Ev.refl,rs,r1⟩
 stop:=fun H ρ mh i e rs q=>by
  unfold Src.stop Src.ok Src.items at q;cases eo:mh[n]? with
  | none=>simp only [eo] at q;simp at q
  | some ob =>
   cases ob with
   | dct kvs=>simp only [eo] at q;simp at q
   | plc=>simp only [eo] at q;simp at q
   | lst o =>
   simp only [eo] at q;obtain ⟨a',ha,ro⟩:=rs.at eo;rw [e.at h] at ha;cases ha;obtain ⟨xs,sq,r⟩:=ro.read;exact ⟨xs,sq,by rw [← r.length];simpa using q⟩
theorem JR.rol {K:PySem.W.Frag}{H0:Hp}{ρ0:List Addr}{ds:List D}{a:Addr}{xs:List V}(s:Gf K H0 a xs) (r:RDs K H0 ρ0 ds xs):JR K H0 ρ0 (.seq ds) (Itl K a) where
 go:=fun H ρ mh i d e rs q=>by
  obtain ⟨v,e1,r1⟩:=(r.mono e).get q;have sq:=(e.perm _ _ s).sq;refine ⟨⟨xs,v,sq,e1⟩,?_⟩;rintro x H' ⟨h1,h2⟩;subst h1;have:=h2 xs sq;rw [e1] at this;cases this;exact ⟨Ev.refl,rs,r1⟩
 stop:=fun H ρ mh i e rs q=>by
  refine ⟨xs,(e.perm _ _ s).sq,?_⟩;rw [← r.length];have q:(true&&decide (ds.length<=i))=true:=q;rw [Bool.true_and] at q;exact of_decide_eq_true q
noncomputable def Cj (lo:Int) (n:Nat):List D:=(List.range n).map fun (k:Nat)=>D.int (lo+(k:Int))
theorem JR.rng {K:PySem.W.Frag}{H0:Hp}{ρ0:List Addr}{lo:Int}{n:Nat}:JR K H0 ρ0 (.seq (Cj lo n)) (Itr lo n) where
 go:=fun H ρ mh i d e rs q=>by
  have q:(Cj lo n)[i]?=some d:=q;unfold Cj at q;rw [List.getElem?_map] at q
  by_cases hi:i < n
  ·rw [List.getElem?_range hi] at q;cases q;refine ⟨hi,?_⟩;rintro x H' ⟨h1,h2⟩;subst h1;subst h2;exact ⟨Ev.refl,rs,.int _⟩
  ·rw [List.getElem?_eq_none (by simp;omega)] at q;cases q
 stop:=fun H ρ mh i e rs q=>by
  show n<=i;have q:(true&&decide ((Cj lo n).length<=i))=true:=q;rw [Bool.true_and] at q;have:=of_decide_eq_true q;unfold Cj at this
  simpa using this
noncomputable def srcOf:D->MH->Option Src
 | .tup ds,_=>some (.seq ds)
 | .ref n,mh=>match mh[n]? with | some (.lst _)=>some (.lref n) | _=>none
 | .rol ds,_=>some (.seq ds)
 | _,_=>none
noncomputable def Vb (ma:DM D):DM Src:=ma.bnd fun x=>fun _ mh=>match srcOf x mh with | some s=>some (s,mh) | none=>none
theorem tZ {a:Expr}{ma:DM D}(ha:DE X a ma):DI X tg a (Vb ma):=fun loc mh=>by
 cases ea:ma loc mh with
 | none =>
  have:Vb ma loc mh=none:=by unfold Vb DM.bnd;rw [ea]
  rw [this];exact Cd
 | some p =>
  obtain ⟨x,m1⟩:=p;have eq:Vb ma loc mh=(match srcOf x m1 with | some s=>some (s,m1) | none=>none):=by unfold Vb DM.bnd;rw [ea]
  rw [eq];cases x with
  | tup ds =>
   rintro pins s σ H R I ⟨ρ,src,mh',q,rl,rs,co⟩;cases q;refine rK (ha loc mh) pins s σ H R I ⟨ρ,_,_,ea,rl,rs,fun H1 ρ1 v e1 rs1 r1=>?_⟩;cases r1 with
   | tup s r=>exact ⟨_,rfl,⟨_,s⟩,co H1 ρ1 _ e1 rs1 (JR.tup s r)⟩
  | ref n =>
   rintro pins s σ H R I ⟨ρ,src,mh',q,rl,rs,co⟩;cases eo:m1[n]? with
   | none=>simp only [srcOf,eo] at q;cases q
   | some ob =>
    cases ob with
    | dct kvs=>simp only [srcOf,eo] at q;cases q
    | plc=>simp only [srcOf,eo] at q;cases q
    | lst o =>
    simp only [srcOf,eo] at q;cases q;refine Wo (ha loc mh) pins s σ H R I ⟨ρ,_,_,ea,rl,rs,fun H1 ρ1 v e1 rs1 r1=>?_⟩;cases r1 with
    | @ref _ a' h =>
     obtain ⟨a2,ha2,ro⟩:=rs1.at eo;rw [h] at ha2;cases ha2;obtain ⟨xs,sq,r⟩:=ro.read;exact ⟨_,rfl,⟨xs,sq⟩,co H1 ρ1 _ e1 rs1 (JR.lst h)⟩
  | rol ds =>
   rintro pins s σ H R I ⟨ρ,src,mh',q,rl,rs,co⟩;cases q;refine Wo (ha loc mh) pins s σ H R I ⟨ρ,_,_,ea,rl,rs,fun H1 ρ1 v e1 rs1 r1=>?_⟩;cases r1 with
   | rol s r=>exact ⟨_,rfl,⟨_,s.sq⟩,co H1 ρ1 _ e1 rs1 (JR.rol s r)⟩
  | non=>exact Cd
  | bl b=>exact Cd
  | int i=>exact Cd
  | str z=>exact Cd
  | obj c ks ds=>exact Cd
  | fn x=>exact Cd
  | lam=>exact Cd
noncomputable def Ig (ds:List D):Option Src:=match ds with
 | [.int j]=>if -(2 ^ 62)<=j/\j < 2 ^ 62 then some (.seq (Cj 0 j.toNat)) else none
 | _=>none
theorem Yj {ds:List D}{s:Src}(h:Ig ds=some s):∃ j,ds=[.int j]/\-(2 ^ 62)<=j/\j < 2 ^ 62/\s=.seq (Cj 0 j.toNat):=by
 unfold Ig at h;split at h
 ·rename_i j;split at h
  ·rename_i hj;cases h;exact ⟨j,rfl,hj.1,hj.2,rfl⟩
  ·cases h
 ·cases h
noncomputable def Ji (f:List D->Option Src) (mr:DM (List D)):DM Src:=mr.bnd fun ds=>match f ds with | some s=>Zr s | none=>Zb
theorem Yk {f:List D->Option Src}{mr:DM (List D)}{loc:Loc}{mh:MH}{r:Src×MH}(h:Ji f mr loc mh=some r):∃ ds,mr loc mh=some (ds,r.2)/\f ds=some r.1:=by
 obtain ⟨ds,m1,ea,q⟩:=Ae h;cases e:f ds with
 | none=>rw [e] at q;cases q
 | some s=>rw [e] at q;cases q;exact ⟨ds,ea,e⟩
theorem Abi {K:PySem.W.Frag}{H:Hp}{ρ:List Addr}{d e:D}{xs:List V}(h:RDs K H ρ [d,e] xs):∃ v u,xs=[v,u]/\RD K H ρ d v/\RD K H ρ e u:=by
 cases h with
 | cons r t =>
  cases t with
  | cons r2 t=>cases t;exact ⟨_,_,rfl,r,r2⟩
theorem Yl {a:Expr}{mr:DM (List D)}{p pos:Pos}(hg:Gl X "range") (hm:X.mg "range"=none) (ha:DA X [a] mr) (hs:starEach [a] X.env=[(false,eval a X.env)]):DI X tg (.Call (.Name "range" p) [a] [] pos) (Ji Ig mr):=fun loc mh=>by
 refine tY (X4 hg hm (ha loc mh) hs) ?_;rintro σ H R ⟨ρ,src,mh',q,rl,rs,co⟩;obtain ⟨ds,ea,q⟩:=Yk q;refine ⟨ρ,ds,mh',ea,rl,rs,fun H1 ρ1 vs e1 rs1 r1=>?_⟩;obtain ⟨j,rfl,h1,h2,e⟩:=Yj q;obtain ⟨v,rfl,rv⟩:=Hr r1;cases rv;have e:src=.seq (Cj 0 j.toNat):=e;subst e;exact ⟨j,rfl,h1,h2,co H1 ρ1 _ e1 rs1 JR.rng⟩
end
inductive Fl where
 | nx | bk | ct | rt (d:D)
noncomputable abbrev SM:=Loc->MH->Option (Fl×Loc×MH)
noncomputable def CoS (K:PySem.W.Frag) (H:Hp) (ρ:List Addr) (f:Fl) (loc':Loc) (mh':MH) (N:Ends):Prop:=match f with
 | .nx=>∀ H' ρ' σ',Ev K H ρ H' ρ'->RS K H' ρ' mh'->RL K H' ρ' loc' σ'->N.nx σ' H'
 | .bk=>∀ H' ρ' σ',Ev K H ρ H' ρ'->RS K H' ρ' mh'->RL K H' ρ' loc' σ'->N.bk σ' H'
 | .ct=>∀ H' ρ' σ',Ev K H ρ H' ρ'->RS K H' ρ' mh'->RL K H' ρ' loc' σ'->N.ct σ' H'
 | .rt d=>∀ H' ρ' v,Ev K H ρ H' ρ'->RS K H' ρ' mh'->RD K H' ρ' d v->N.rt v H'
theorem CoS.ev {K:PySem.W.Frag}{H H1:Hp}{ρ ρ1:List Addr}{f:Fl}{loc':Loc}{mh':MH}{N:Ends}(e:Ev K H ρ H1 ρ1) (c:CoS K H ρ f loc' mh' N):CoS K H1 ρ1 f loc' mh' N:=by
 cases f with
 | nx=>exact fun H' ρ' σ' e' rs r=>c H' ρ' σ' (e.trans e') rs r
 | bk=>exact fun H' ρ' σ' e' rs r=>c H' ρ' σ' (e.trans e') rs r
 | ct=>exact fun H' ρ' σ' e' rs r=>c H' ρ' σ' (e.trans e') rs r
 | rt d=>exact fun H' ρ' σ' e' rs r=>c H' ρ' σ' (e.trans e') rs r
noncomputable def tS (K:PySem.W.Frag) (m:SM):TS:=fun N σ H=>∃ loc mh ρ f loc' mh',m loc mh=some (f,loc',mh')/\RL K H ρ loc σ/\RS K H ρ mh/\CoS K H ρ f loc' mh' N
noncomputable def DS (X:Cx) (st:Stmt) (m:SM):Prop:=PS X st (tS X.K m)
noncomputable def DSs (X:Cx) (sts:List Stmt) (m:SM):Prop:=PSs X sts (tS X.K m)
theorem Bt {X:Cx}{st:Stmt}{t t':TS}(h:PS X st t) (i:∀ N σ H,t' N σ H->t N σ H):PS X st t':=fun pins s σ H N I q=>h pins s σ H N I (i N σ H q)
theorem Ft {X:Cx}{st:List Stmt}{t t':TS}(h:PSs X st t) (i:∀ N σ H,t' N σ H->t N σ H):PSs X st t':=fun pins s σ H N I q=>h pins s σ H N I (i N σ H q)
noncomputable def SM.bad:SM:=fun _ _=>none
theorem Bv {X:Cx}{st:Stmt}:DS X st SM.bad:=fun _ _ _ _ _ _ h=>by obtain ⟨_,_,_,_,_,_,e,_⟩:=h;cases e
noncomputable def tDx (K:PySem.W.Frag) (m:DM D):TE:=fun σ H Q=>∃ loc mh,tD K loc mh (m loc mh) σ H Q
noncomputable def tTx (K:PySem.W.Frag) (m:DM Bool):TT:=fun σ H Q=>∃ loc mh,tDT K loc mh (m loc mh) σ H Q
noncomputable def tIx (K:PySem.W.Frag) (m:DM Src):TI:=fun σ H R=>∃ loc mh,tDI K loc mh (m loc mh) σ H R
theorem DE.x {X:Cx}{e:Expr}{m:DM D}(h:DE X e m):PE X e (tDx X.K m):=fun pins s σ H Q I ⟨loc,mh,q⟩=>h loc mh pins s σ H Q I q
theorem DT.x {X:Cx}{e:Expr}{m:DM Bool}(h:DT X e m):PT X e (tTx X.K m):=fun pins s σ H Q I ⟨loc,mh,q⟩=>h loc mh pins s σ H Q I q
theorem DI.x {X:Cx}{tg e:Expr}{m:DM Src}(h:DI X tg e m):PI X tg e (tIx X.K m):=fun pins s σ H Q I ⟨loc,mh,q⟩=>h loc mh pins s σ H Q I q
section
variable {X:Cx}{st:Stmt}{sts:List Stmt}{m m1 m2:SM}{e:Expr}{me:DM D}{pos:Pos}
noncomputable def Zn:SM:=fun loc mh=>some (.nx,loc,mh)
noncomputable def Ac (m1 m2:SM):SM:=fun loc mh=>match m1 loc mh with
 | some (.nx,l,h)=>m2 l h
 | r=>r
theorem Wz:DSs X [] Zn:=by
 refine Ft Wm ?_;rintro N σ H ⟨loc,mh,ρ,f,loc',mh',q,rl,rs,co⟩;cases q;exact co H ρ σ Ev.refl rs rl
theorem R9 (h1:DS X st m1) (h2:DSs X sts m2):DSs X (st::sts) (Ac m1 m2):=by
 refine Ft (Cy h1 h2) ?_;rintro N σ H ⟨loc,mh,ρ,f,loc',mh',q,rl,rs,co⟩;unfold Ac at q;split at q
 ·rename_i l h e1;exact ⟨loc,mh,ρ,.nx,l,h,e1,rl,rs,fun H1 ρ1 σ1 ev1 rs1 rl1=>⟨l,h,ρ1,f,loc',mh',q,rl1,rs1,co.ev ev1⟩⟩
 ·rename_i r hne;refine ⟨loc,mh,ρ,f,loc',mh',q,rl,rs,?_⟩;cases f with
  | nx=>exact absurd q (hne _ _)
  | bk=>exact co
  | ct=>exact co
  | rt d=>exact co
theorem lK:DS X (.Pass pos) Zn:=by
 refine Bt jK ?_;rintro N σ H ⟨loc,mh,ρ,f,loc',mh',q,rl,rs,co⟩;cases q;exact co H ρ σ Ev.refl rs rl
theorem bB:DS X (.Break pos) (fun loc mh=>some (.bk,loc,mh)):=by
 refine Bt Z4 ?_;rintro N σ H ⟨loc,mh,ρ,f,loc',mh',q,rl,rs,co⟩;cases q;exact co H ρ σ Ev.refl rs rl
theorem Sd:DS X (.Continue pos) (fun loc mh=>some (.ct,loc,mh)):=by
 refine Bt Rx ?_;rintro N σ H ⟨loc,mh,ρ,f,loc',mh',q,rl,rs,co⟩;cases q;exact co H ρ σ Ev.refl rs rl
noncomputable def retS (me:DM D):SM:=fun loc mh=>match me loc mh with | some (d,mh')=>some (.rt d,loc,mh') | none=>none
theorem uD (he:DE X e me):DS X (.Return (some e) pos) (retS me):=by
 refine Bt (Z5 he.x) ?_;rintro N σ H ⟨loc,mh,ρ,f,loc',mh',q,rl,rs,co⟩;unfold retS at q;split at q
 ·rename_i d h1 ee;cases q;exact ⟨loc,mh,ρ,d,_,ee,rl,rs,co⟩
 ·cases q
theorem lM:DS X (.Return none pos) (fun loc mh=>some (.rt .non,loc,mh)):=by
 refine Bt jL ?_;rintro N σ H ⟨loc,mh,ρ,f,loc',mh',q,rl,rs,co⟩;cases q;exact co H ρ _ Ev.refl rs .non
noncomputable def Ea (me:DM D):SM:=fun loc mh=>match me loc mh with | some (_,mh')=>some (.nx,loc,mh') | none=>none
theorem lN (he:DE X e me) (hs:swapsWith e none pos.line X.env=pure false):DS X (.Expr e pos) (Ea me):=by
 refine Bt (Pr he.x hs) ?_;rintro N σ H ⟨loc,mh,ρ,f,loc',mh',q,rl,rs,co⟩;unfold Ea at q;split at q
 ·rename_i d h1 ee;cases q;exact ⟨loc,mh,ρ,d,_,ee,rl,rs,fun H' ρ' v e' rs' r'=>co H' ρ' σ e' rs' (rl.mono e')⟩
 ·cases q
noncomputable def ifS (t:DM Bool) (m1 m2:SM):SM:=fun loc mh=>match t loc mh with
 | some (k,h)=>if k=true then m1 loc h else m2 loc h
 | none=>none
theorem zG {c:Expr}{a b:List Stmt}{t:DM Bool}(hc:DT X c t) (ha:DSs X a m1) (hb:DSs X b m2):DS X (.If c a b pos) (ifS t m1 m2):=by
 refine Bt (pI hc.x ha hb) ?_;rintro N σ H ⟨loc,mh,ρ,f,loc',mh',q,rl,rs,co⟩;unfold ifS at q;split at q
 ·rename_i k h ek;refine ⟨loc,mh,ρ,k,h,ek,rl,rs,fun H1 ρ1 e1 rs1=>?_⟩;cases k with
  | true=>exact Lq ⟨loc,h,ρ1,f,loc',mh',by rw [if_pos rfl] at q;exact q,rl.mono e1,rs1,co.ev e1⟩
  | false=>exact Qd ⟨loc,h,ρ1,f,loc',mh',by rw [if_neg Bool.false_ne_true] at q;exact q,rl.mono e1,rs1,co.ev e1⟩
 ·cases q
noncomputable abbrev GM:=D->Loc->MH->Option (Loc×MH)
noncomputable def Gx (ws:List Nat) (σ σ':St):Prop:=σ'.length=σ.length/\∀ i,i ∉ ws->σ'[i]?=σ[i]?
noncomputable def tG (K:PySem.W.Frag) (ws:List Nat) (g:GM):TG:=fun v σ H Q=>∃ d loc mh ρ loc' mh',g d loc mh=some (loc',mh')/\RL K H ρ loc σ/\RS K H ρ mh/\RD K H ρ d v /\
 ∀ H' ρ' σ',Ev K H ρ H' ρ'->RS K H' ρ' mh'->RL K H' ρ' loc' σ'->Gx ws σ σ'->Q σ' H'
noncomputable def DG (X:Cx) (tg:Expr) (ws:List Nat) (g:GM):Prop:=PG X tg (tG X.K ws g)
theorem Vc {tg:Expr}{t t':TG}(h:PG X tg t) (i:∀ v σ H Q,t' v σ H Q->t v σ H Q):PG X tg t':=fun pins s σ H v u Q I r q=>h pins s σ H v u Q I r (i v σ H Q q)
noncomputable def Av (i:Nat):GM:=fun d loc mh=>some (loc.set i (some d),mh)
theorem Gx.set {σ:St}{i:Nat}{o:Option V}:Gx [i] σ (σ.set i o):=⟨List.length_set,fun j hj=>List.getElem?_set_ne (fun e=>hj (by simp [e]))⟩
theorem lO {i:Nat}{x:Str}(hN:X.N.Nodup) (hi:X.N[i]?=some x) (hx:L2.Loc X.env.scope x) (hf:X.fn x=true\/X.env.scope.names.lookup x=some .local):DG X (.Name x pos) [i] (Av i):=by
 refine Vc (Kv hN hi hx hf) ?_;rintro v σ H Q ⟨d,loc,mh,ρ,loc',mh',q,rl,rs,r,co⟩;cases q;exact co H ρ _ Ev.refl rs (rl.set r) Gx.set
noncomputable def Qj:List Nat->List D->Loc->Loc
 | i::is,d::ds,loc=>Qj is ds (loc.set i (some d))
 | _,_,loc=>loc
noncomputable def Ih:List Nat->List V->St->St
 | i::is,d::ds,loc=>Ih is ds (loc.set i (some d))
 | _,_,loc=>loc
noncomputable def gNs:List Nat->TGs
 | []=>yD
 | i::is=>pJ (Ry i) (gNs is)
theorem bC:∀ (is:List Nat) (vs:List V) (σ:St) (H:Hp) (Q:St->Hp->Prop),vs.length=is.length->Q (Ih is vs σ) H->gNs is vs σ H Q
 | [],[],_,_,_,_,q=>⟨rfl,q⟩
 | [],_::_,_,_,_,h,_=>by simp at h
 | _::_,[],_,_,_,h,_=>by simp at h
 | i::is,v::vs,σ,H,Q,h,q=>⟨v,vs,rfl,bC is vs _ H Q (by simpa using h) q⟩
theorem Ou {K:PySem.W.Frag}{H:Hp}{ρ:List Addr}:∀ (is:List Nat) {ds:List D}{vs:List V}{loc:Loc}{σ:St},RDs K H ρ ds vs->RL K H ρ loc σ->RL K H ρ (Qj is ds loc) (Ih is vs σ)
 | [],_,_,_,_,.nil,rl=>rl
 | [],_,_,_,_,.cons _ _,rl=>rl
 | _::_,_,_,_,_,.nil,rl=>rl
 | i::is,_,_,_,_,.cons r t,rl=>Ou is t (rl.set r)
theorem Ka:∀ (is:List Nat) (vs:List V) (σ:St),Gx is σ (Ih is vs σ)
 | [],[],_=>⟨rfl,fun _ _=>rfl⟩
 | [],_::_,_=>⟨rfl,fun _ _=>rfl⟩
 | _::_,[],_=>⟨rfl,fun _ _=>rfl⟩
 | i::is,v::vs,σ=>by
  obtain ⟨h1,h2⟩:=Ka is vs (σ.set i (some v));refine ⟨h1.trans List.length_set,fun j hj=>?_⟩;have hj':¬ (j=i)/\j ∉ is:=by simpa using hj
  show (Ih is vs (σ.set i (some v)))[j]?=σ[j]?;rw [h2 j hj'.2,List.getElem?_set_ne (fun e=>hj'.1 e.symm)]
noncomputable def pR (is:List Nat):GM:=fun d loc mh=>match d with
 | .tup ds=>if ds.length=is.length then some (Qj is ds loc,mh) else none
 | _=>none
theorem uE {es:List Expr}{k:Nat}{is:List Nat}(hc:X.calm=true) (h:PGs X es (gNs is)) (hn:(assignEach es X.env).length=is.length) (hst:(assignEach es X.env).findIdx? (·.1)=none):DG X (.Tuple es k pos) is (pR is):=by
 refine Vc (rF hc h hn hst) ?_;rintro v σ H Q ⟨d,loc,mh,ρ,loc',mh',q,rl,rs,r,co⟩;cases r with
 | @tup ds a xs s r =>
  have q:(if ds.length=is.length then some (Qj is ds loc,mh) else none)=some (loc',mh'):=q;split at q
  ·rename_i hl;cases q;exact ⟨a,xs,rfl,s,by rw [← r.length];exact hl,bC is xs σ H Q (by rw [← r.length];exact hl) (co H ρ _ Ev.refl rs (Ou is r rl) (Ka is xs σ))⟩
  ·cases q
 | _=>cases q
noncomputable def Sg (o i v:D) (mh:MH):Option MH:=match o,i with
 | .ref n,.int k=>match mh[n]? with
  | some (.lst ds)=>match ixN ds.length k with
   | some j=>some (mh.set n (.lst (ds.set j v)))
   | none=>none
  | _=>none
 | _,_=>none
noncomputable def Ma (mo mi:DM D):GM:=fun v loc mh=>match mo loc mh with
 | some (o,m1)=>match mi loc m1 with
  | some (i,m2)=>match Sg o i v m2 with
   | some m3=>some (loc,m3)
   | none=>none
  | none=>none
 | none=>none
theorem Vd {o i v:D}{mh m:MH}(h:Sg o i v mh=some m):∃ n k ds j,o=.ref n/\i=.int k/\mh[n]?=some (.lst ds)/\ixN ds.length k=some j/\m=mh.set n (.lst (ds.set j v)):=by
 cases o with
 | ref n =>
  cases i with
  | int k =>
   have h:(match mh[n]? with | some (.lst ds)=>(match ixN ds.length k with | some j=>some (mh.set n (.lst (ds.set j v))) | none=>none) | _=>none)=some m:=h;split at h
   ·rename_i ds em;split at h
    ·rename_i j ej;cases h;exact ⟨n,k,ds,j,rfl,rfl,em,ej,rfl⟩
    ·cases h
   ·cases h
  | _=>cases h
 | _=>cases i <;> cases h
theorem uF {o i:Expr}{mo mi:DM D}(ho:DE X o mo) (hi:DE X i mi) (ha:∀ v,assign (.Subscript o i pos) X.env v=(do
      let ov ← holding [v] (eval o X.env)
      let iv ← holding [v,ov] (eval i X.env)
      standAt pos
      holding [v,ov,iv] (setItem ov iv v)
      release [v,ov,iv] [])):DG X (.Subscript o i pos) [] (Ma mo mi):=by
  refine Vc (rG ho.x hi.x set_list ha) ?_;rintro v σ H Q ⟨d,loc,mh,ρ,loc',mh',q,rl,rs,r,co⟩;unfold Ma at q;split at q
  · rename_i od m1 eo;split at q
    · rename_i idx m2 ei;split at q
      · rename_i m3 es;cases q;refine ⟨loc,mh,ρ,od,m1,eo,rl,rs,fun H1 ρ1 v1 e1 rs1 r1=>⟨loc,m1,ρ1,idx,m2,ei,rl.mono e1,rs1,fun H2 ρ2 v2 e2 rs2 r2=>?_⟩⟩;obtain ⟨n,k,ds,j,rfl,rfl,em,ej,rfl⟩:=Vd es;have r':=(r.mono e1).mono e2;cases r1.mono e2 with
        | @ref _ a hn =>
          cases r2;obtain ⟨a',ha',xs,hx,rx⟩:=rs2.at em;rw [hn] at ha';cases ha';refine ⟨a,xs,k,j,rfl,rfl,hx,by rw [← rx.length];exact ej,?_⟩;exact co _ ρ2 σ ((e1.trans e2).trans (Ev.lst hx)) (rs2.setL hn hx (rx.set r' j)) (((rl.mono e1).mono e2).mono (Ev.lst hx)) ⟨rfl,fun _ _=>rfl⟩
      · cases q
    · cases q
  · cases q
noncomputable def Bg (me:DM D) (g:GM):SM:=fun loc mh=>match me loc mh with
 | some (d,h)=>match g d loc h with
  | some (l,h')=>some (.nx,l,h')
  | none=>none
 | none=>none
theorem Sh {ws:List Nat}{g:GM}{N:Ends}{σ:St}{H:Hp}(h:tS X.K (Bg me g) N σ H):rH (tDx X.K me) (tG X.K ws g) N σ H:=by
 obtain ⟨loc,mh,ρ,f,loc',mh',q,rl,rs,co⟩:=h;unfold Bg at q;split at q
 ·rename_i d h1 ee;split at q
  ·rename_i l h2 eg;cases q;exact ⟨loc,mh,ρ,d,h1,ee,rl,rs,fun H1 ρ1 v e1 rs1 r1=>⟨d,loc,h1,ρ1,_,_,eg,rl.mono e1,rs1,r1,fun H2 ρ2 σ2 e2 rs2 rl2 _=>co H2 ρ2 σ2 (e1.trans e2) rs2 rl2⟩⟩
  ·cases q
 ·cases q
theorem Ve {tg:Expr}{ws:List Nat}{g:GM}(he:DE X e me) (hg:DG X tg ws g) (hs:swapsWithSole [tg] e pos.line X.env=pure false) (hw:swappedStores [tg] e X.env=pure none) (h1:(assignEach [tg] X.env).map (·.2)=[assign tg X.env]):DS X (.Assign [tg] e pos) (Bg me g) :=
 Bt (Li he.x hg hs hw h1) fun N σ H h=>Sh h
noncomputable def Ii (src:Src) (g:GM) (body:SM):Nat->Nat->SM
 | 0,i,loc,mh=>if src.stop mh i=true then some (.nx,loc,mh) else none
 | k+1,i,loc,mh=>match src.get mh i with
  | none=>if src.stop mh i=true then some (.nx,loc,mh) else none
  | some d=>match g d loc mh with
   | none=>none
   | some (l1,h1)=>match body l1 h1 with
    | some (.nx,l,h)=>Ii src g body k (i+1) l h
    | some (.ct,l,h)=>Ii src g body k (i+1) l h
    | some (.bk,l,h)=>some (.nx,l,h)
    | some (.rt d,l,h)=>some (.rt d,l,h)
    | none=>none
noncomputable def Ht (mi:DM Src) (g:GM) (body:SM):SM:=fun loc mh=>match mi loc mh with
 | some (src,h)=>Ii src g body (src.items h).length 0 loc h
 | none=>none
theorem uG {tg iter:Expr}{body:List Stmt}{mi:DM Src}{ws:List Nat}{g:GM}{mb:SM}(hp:PassesOwn (model X.prog X.w) X.A X.env X.xe) (hc:X.calm=true) (hi:DI X tg iter mi) (hg:DG X tg ws g) (hb:DSs X body mb)
  (hs:∀ x,foldedSetIterable iter X.env x=pure x):DS X (.For tg iter body [] pos) (Ht mi g mb):=by
 refine Bt (Z8 hp hc hi.x hg hb hs) ?_;rintro N σ H ⟨loc,mh,ρ,f,loc',mh',q,rl,rs,co⟩;unfold Ht at q;split at q
 ·rename_i src h0 ei;refine ⟨loc,mh,ρ,src,h0,ei,rl,rs,fun H1 ρ1 J e1 rs1 jr=>?_⟩
  refine ⟨fun i k σ H=>∃ ρ loc mh f loc' mh',Ev X.K H1 ρ1 H ρ/\RL X.K H ρ loc σ/\RS X.K H ρ mh/\Ii src g mb k i loc mh=some (f,loc',mh')/\CoS X.K H ρ f loc' mh' N,
   ⟨_,ρ1,loc,h0,f,loc',mh',Ev.refl,rl.mono e1,rs1,q,co.ev e1⟩,?_⟩
  rintro i k σ H ⟨ρ,loc,mh,f,loc',mh',ev,rl,rs,q,co⟩;have stop:(if src.stop mh i=true then some (Fl.nx,loc,mh) else none)=some (f,loc',mh')->J.stop i H/\N.nx σ H:=fun q=>by
   split at q
   ·rename_i hst;cases q;exact ⟨jr.stop H ρ mh i ev rs hst,co H ρ σ Ev.refl rs rl⟩
   ·cases q
  cases k with
  | zero=>exact .inl (stop q)
  | succ k =>
   simp only [Ii] at q;split at q
   ·exact .inl (stop q)
   ·rename_i d ed;obtain ⟨hgo,hyld⟩:=jr.go H ρ mh i d ev rs ed;split at q
    ·cases q
    ·rename_i l1 h1 eg
     refine .inr ⟨hgo,fun σ' H'=>∃ ρ' loc mh f loc' mh',Ev X.K H1 ρ1 H' ρ'/\RL X.K H' ρ' loc σ'/\RS X.K H' ρ' mh/\Ii src g mb k (i+1) loc mh=some (f,loc',mh')/\CoS X.K H' ρ' f loc' mh' N,
      fun σ' H' h=>⟨k,Nat.lt_succ_self _,h⟩,fun x H' hy=>?_⟩
     obtain ⟨ev2,rs2,rd2⟩:=hyld x H' hy;refine ⟨d,loc,mh,ρ,l1,h1,eg,rl.mono ev2,rs2,rd2,fun H3 ρ3 σ3 ev3 rs3 rl3 _=>?_⟩;split at q
     ·rename_i l h eb;exact ⟨l1,h1,ρ3,.nx,l,h,eb,rl3,rs3,fun H4 ρ4 σ4 ev4 rs4 rl4=>⟨ρ4,l,h,f,loc',mh',ev.trans (ev2.trans (ev3.trans ev4)),rl4,rs4,q,co.ev (ev2.trans (ev3.trans ev4))⟩⟩
     ·rename_i l h eb;exact ⟨l1,h1,ρ3,.ct,l,h,eb,rl3,rs3,fun H4 ρ4 σ4 ev4 rs4 rl4=>⟨ρ4,l,h,f,loc',mh',ev.trans (ev2.trans (ev3.trans ev4)),rl4,rs4,q,co.ev (ev2.trans (ev3.trans ev4))⟩⟩
     ·rename_i l h eb;cases q;exact ⟨l1,h1,ρ3,.bk,_,_,eb,rl3,rs3,fun H4 ρ4 σ4 ev4 rs4 rl4=>co H4 ρ4 σ4 (ev2.trans (ev3.trans ev4)) rs4 rl4⟩
     ·rename_i d' l h eb;cases q;exact ⟨l1,h1,ρ3,.rt d',_,_,eb,rl3,rs3,fun H4 ρ4 v4 ev4 rs4 r4=>co H4 ρ4 v4 (ev2.trans (ev3.trans ev4)) rs4 r4⟩
     ·cases q
 ·cases q
end
section
variable {X:Cx}{pos:Pos}
end
noncomputable def N5 (cs:List (Option Nat)) (loc:Loc):Loc:=cs.map fun o=>match o with | some j=>(match loc[j]? with | some d=>d | none=>none) | none=>none
noncomputable def N6 (cs:List (Option Nat)) (σ:St):St:=cs.map fun o=>match o with | some j=>(match σ[j]? with | some d=>d | none=>none) | none=>none
theorem uH {K:PySem.W.Frag}{H:Hp}{ρ:List Addr}{loc:Loc}{σ:St}(cs:List (Option Nat)) (h:RL K H ρ loc σ):RL K H ρ (N5 cs loc) (N6 cs σ):=by
 refine ⟨by unfold N5 N6;rw [List.length_map,List.length_map],fun i d e=>?_⟩;unfold N5 at e;unfold N6;rw [List.getElem?_map] at e ⊢;cases q:cs[i]? with
 | none=>rw [q] at e;cases e
 | some o =>
  rw [q] at e;cases o with
  | none=>simp at e
  | some j =>
   simp only [Option.map_some,Option.some.injEq] at e;cases ej:loc[j]? with
   | none=>rw [ej] at e;cases e
   | some d' =>
    rw [ej] at e;have e:d'=some d:=e;subst e;obtain ⟨v,e1,r⟩:=h.2 j d ej;exact ⟨v,by simp only [Option.map_some,e1],r⟩
structure CapOk (X:Cx) (N':List Str) (scope:Scope) (cs:List (Option Nat)):Prop where
 len:N'.length=cs.length
 cap:∀ (i:Nat) (x:Str) (j:Nat),N'[i]?=some x->cs[i]?=some (some j)->scope.names.lookup x=some .free/\X.N[j]?=some x
theorem CapOk.to {X:Cx}{N':List Str}{scope:Scope}{cs:List (Option Nat)}(h:CapOk X N' scope cs) (σ:St):Cap X N' scope σ (N6 cs σ):=by
 refine ⟨by unfold N6;rw [List.length_map];exact h.len.symm,fun i x v e1 e2=>?_⟩;unfold N6 at e2;rw [List.getElem?_map] at e2;cases q:cs[i]? with
 | none=>rw [q] at e2;cases e2
 | some o =>
  rw [q] at e2;cases o with
  | none=>simp at e2
  | some j =>
   obtain ⟨h1,h2⟩:=h.cap i x j e1 q;refine ⟨h1,j,h2,?_⟩;simp only [Option.map_some,Option.some.injEq] at e2;cases ej:σ[j]? with
   | none=>rw [ej] at e2;cases e2
   | some d'=>rw [ej] at e2;have e2:d'=some v:=e2;rw [e2]
theorem lQ {cs:List (Option Nat)}{ws:List Nat}{σ σ2:St}(hw:∀ i∈ws,∀ j,cs[i]?≠some (some j)) (h:Gx ws (N6 cs σ) σ2):Kept (N6 cs σ) σ2:=by
 refine ⟨h.1,fun i v e=>?_⟩;rw [h.2 i fun hi=>?_]
 ·exact e
 ·unfold N6 at e;rw [List.getElem?_map] at e;cases q:cs[i]? with
  | none=>rw [q] at e;cases e
  | some o =>
   cases o with
   | none=>rw [q] at e;simp at e
   | some j=>exact hw i hi j q
noncomputable def Hi (src:Src) (g:GM) (tc:DM Bool) (me:DM D) (loc:Loc):Nat->Nat->List D->MH->Option (List D×MH)
 | 0,i,acc,mh=>if src.stop mh i=true then some (acc,mh) else none
 | k+1,i,acc,mh=>match src.get mh i with
  | none=>if src.stop mh i=true then some (acc,mh) else none
  | some d=>match g d loc mh with
   | none=>none
   | some (l1,h1)=>match tc l1 h1 with
    | none=>none
    | some (c,h2)=>if c=true then (match me l1 h2 with
      | some (y,h3)=>if acc.length < sizeLine then Hi src g tc me loc k (i+1) (acc++[y]) h3 else none
      | none=>none) else Hi src g tc me loc k (i+1) acc h2
noncomputable def Ci (mi:DM Src) (cs:List (Option Nat)) (g:GM) (tc:DM Bool) (me:DM D):DM D:=fun loc mh=>match mi loc mh with
 | some (src,h)=>match Hi src g tc me (N5 cs loc) (src.items h).length 0 [] h with
  | some (ds,h')=>some (.ref h'.length,h'++[.lst ds])
  | none=>none
 | none=>none
section
variable {X:Cx}{N':List Str}{scope:Scope}{cs:List (Option Nat)}{ws:List Nat}{mi:DM Src}{g:GM}{tc:DM Bool}{me:DM D}{elt target iter:Expr}{ifs:List Expr}{pos:Pos}
theorem Sq (hcap:CapOk X N' scope cs) (hw:∀ i∈ws,∀ j,cs[i]?≠some (some j)) {σ:St}{H:Hp}{Q:VK}(h:tDx X.K (Ci mi cs g tc me) σ H Q) :
  aP X N' scope (tIx X.K mi) (tG X.K ws g) (tTx X.K tc) (tDx X.K me) σ H Q:=by
 obtain ⟨loc,mh,ρ,d,mh',q,rl,rs,co⟩:=h;unfold Ci at q;split at q
 ·rename_i src h0 ei;split at q
  ·rename_i ds h1 ec;cases q;refine ⟨loc,mh,ρ,src,h0,ei,rl,rs,fun H1 ρ1 J e1 rs1 jr=>?_⟩;refine ⟨N6 cs σ,hcap.to σ,fun i k acc H=>∃ ρ accD mh,Ev X.K H1 ρ1 H ρ/\RS X.K H ρ mh/\RDs X.K H ρ accD acc/\Hi src g tc me (N5 cs loc) k i accD mh=some (ds,h1),⟨_,ρ1,[],h0,Ev.refl,rs1,.nil,ec⟩,?_⟩;have co1:=co.ev e1;have rl1:=uH cs (rl.mono e1);rintro i k acc H ⟨ρ,accD,mh,ev,rs,ra,q⟩;have stop:(if src.stop mh i=true then some (accD,mh) else none)=some (ds,h1)->J.stop i H/\∀ p,H p=none->Q (.ref p) (upd H p (.lst acc)):=fun q=>by
    split at q
    ·rename_i hst;cases q;exact ⟨jr.stop H ρ _ i ev rs hst,Co.newL rs ra (co1.ev ev)⟩
    ·cases q
   cases k with
   | zero=>exact .inl (stop q)
   | succ k =>
    simp only [Hi] at q;split at q
    ·exact .inl (stop q)
    ·rename_i d ed;obtain ⟨hgo,hyld⟩:=jr.go H ρ mh i d ev rs ed;split at q
     ·cases q
     ·rename_i l1 h2 eg;refine .inr ⟨hgo,fun acc' H'=>∃ ρ accD mh,Ev X.K H1 ρ1 H' ρ/\RS X.K H' ρ mh/\RDs X.K H' ρ accD acc'/\Hi src g tc me (N5 cs loc) k (i+1) accD mh=some (ds,h1),fun acc' H' h=>⟨k,Nat.lt_succ_self _,h⟩,fun x H' hy=>?_⟩;obtain ⟨ev2,rs2,rd2⟩:=hyld x H' hy;refine ⟨d,N5 cs loc,mh,ρ,l1,h2,eg,rl1.mono (ev.trans ev2),rs2,rd2,fun H3 ρ3 σ3 ev3 rs3 rl3 kb=>⟨lQ hw kb,?_⟩⟩;split at q
      ·cases q
      ·rename_i c h3 et;refine ⟨l1,h2,ρ3,c,h3,et,rl3,rs3,fun H4 ρ4 ev4 rs4=>?_⟩;have evA:=ev2.trans (ev3.trans ev4);cases c with
       | false =>
        rw [if_neg Bool.false_ne_true] at q;exact Qd ⟨ρ4,accD,h3,ev.trans evA,rs4,ra.mono evA,q⟩
       | true =>
        rw [if_pos rfl] at q;split at q
        ·rename_i y h4 ey;split at q
         ·rename_i hz;refine Lq ⟨by rw [← ra.length];exact hz,l1,h3,ρ4,y,h4,ey,rl3.mono ev4,rs4,fun H5 ρ5 v ev5 rs5 r5=>⟨ρ5,accD++[y],h4,ev.trans (evA.trans ev5),rs5,(ra.mono (evA.trans ev5)).append (.cons r5 .nil),q⟩⟩
         ·cases q
        ·cases q
  ·cases q
 ·cases q
noncomputable def DIf (X:Cx) (ifs:List Expr) (m:DM Bool):Prop:=PIf X ifs (tTx X.K m)
theorem lR:DIf X [] (Zr true):=by
 rintro pins s σ H Q I ⟨loc,mh,ρ,b,mh',q,rl,rs,co⟩;cases q;exact jZ pins s σ H Q I (co H ρ Ev.refl rs)
theorem lU {c:Expr}{m:DM Bool}(h:DT X c m):DIf X [c] m:=kE h.x
theorem lV (hc:X.calm=true) (S:CompOk X scope) (hcap:CapOk X N' scope cs) (hw:∀ i∈ws,∀ j,cs[i]?≠some (some j)) (hit:DI X target iter mi)
  (hg:∀ pins C cells s₀ H₀ fp,DG (Bo X pins N' scope C cells s₀ H₀ fp) target ws g)
  (hi:∀ pins C cells s₀ H₀ fp,DIf (Bo X pins N' scope C cells s₀ H₀ fp) ifs tc)
  (he:∀ pins C cells s₀ H₀ fp,DE (Bo X pins N' scope C cells s₀ H₀ fp) elt me)
  (hs:∀ x,foldedSetIterable iter X.env x=pure x):DE X (.ListComp elt [⟨target,iter,ifs,0⟩] scope pos) (Ci mi cs g tc me):=fun loc mh =>
 Bc (kI (N':=N') (g:=tG X.K ws g) (tc:=tTx X.K tc) (te:=tDx X.K me) hc S hit.x (fun p C c s h f=>hg p C c s h f) (fun p C c s h f=>hi p C c s h f) (fun p C c s h f=>(he p C c s h f).x) hs) fun σ H Q h=>Sq hcap hw ⟨loc,mh,h⟩
theorem Vf {y:Str}{py spos:Pos}{wy:List Nat}{gy:GM}(hc:X.calm=true) (S:CompOk X scope) (hcap:CapOk X N' scope cs) (hw:∀ i∈ws,∀ j,cs[i]?≠some (some j)) (hit:DI X target iter mi)
  (hg:∀ pins C cells s₀ H₀ fp,DG (Bo X pins N' scope C cells s₀ H₀ fp) target ws g)
  (hi:∀ pins C cells s₀ H₀ fp,DIf (Bo X pins N' scope C cells s₀ H₀ fp) ifs tc)
  (he:∀ pins C cells s₀ H₀ fp,DE (Bo X pins N' scope C cells s₀ H₀ fp) elt me) (hgy:DG X (.Name y py) wy gy)
  (hsw:swapsWith (.ListComp elt [⟨target,iter,ifs,0⟩] scope pos) (some (.Name y py)) spos.line X.env=pure true)
  (hs:∀ x,foldedSetIterable iter X.env x=pure x):DS X (.Assign [.Name y py] (.ListComp elt [⟨target,iter,ifs,0⟩] scope pos) spos) (Bg (Ci mi cs g tc me) gy) :=
 Bt (U8 (N':=N') (g:=tG X.K ws g) (tc:=tTx X.K tc) (te:=tDx X.K me) hc S hit.x (fun p C c s h f=>hg p C c s h f) (fun p C c s h f=>hi p C c s h f) (fun p C c s h f=>(he p C c s h f).x) hgy hsw hs) fun N σ H h=>Sq hcap hw (Sh h)
end
noncomputable def spD (K:PySem.W.Frag) (n:Nat) (f:List D->MH->Option (D×MH)):Sp:=fun vs H Q _=>vs.length=n/\rDs K f vs H Q
section
variable {X:Cx}
theorem lW {CX:CXT}{k:Nat}{fa:Addr}{fd:FuncData}{ps:List Str}{f:List D->MH->Option (D×MH)}{x:Str}{p pos:Pos}{a:Expr}{es:List Expr}{mr:DM (List D)}{E:XK}
  (F:FnOk X.prog X.w X.K X.mg X.base CX k fa fd ps (spD X.K ps.length f)) (hr:Room k X.A) (hg:Gl X x) (hm:X.mg x=some (.ref fa)) (hk:PySem.W.keepIn X.K (.ref fa)=true) (hb:Binds X.K fd ps []) (hx:Et CX X E)
  (ha:DA X (a::es) mr) (hf:∀ ds mh r,f ds mh=some r->ds.length=ps.length) (hdb:(x==("__debug__":Str))=false) (he:starEach (a::es) X.env=(false,eval a X.env)::starEach es X.env) (hpl:(backTo pos (starEach es X.env)).any (·.1)=false) :
  DE X (.Call (.Name x p) (a::es) [] pos) (mr.bnd fun ds=>Zl (f ds)):=fun loc mh=>by
 refine Bc (Wq F hr hg hm hk hb .nil hx (ha loc mh) hdb he hpl) ?_;rintro σ H Q ⟨ρ,d,mh',q,rl,rs,co⟩;obtain ⟨ds,m1,ea,q⟩:=Ae q;refine ⟨ρ,ds,m1,ea,rl,rs,fun H1 ρ1 vs e1 rs1 r1=>?_⟩;show spD X.K ps.length f (vs++[]) H1 Q E;rw [List.append_nil];exact ⟨by rw [← r1.length];exact hf _ _ _ q,ρ1,m1,ds,d,mh',q,rs1,r1,co.ev e1⟩
theorem bD {CX:CXT}{k:Nat}{fa:Addr}{fd:FuncData}{f:List D->MH->Option (D×MH)}{x:Str}{p pos:Pos}{E:XK}
  (F:FnOk X.prog X.w X.K X.mg X.base CX k fa fd [] (spD X.K 0 f)) (hr:Room k X.A) (hg:Gl X x) (hm:X.mg x=some (.ref fa)) (hk:PySem.W.keepIn X.K (.ref fa)=true) (hb:Binds X.K fd [] []) (hx:Et CX X E) (hdb:(x==("__debug__":Str))=false) :
  DE X (.Call (.Name x p) [] [] pos) (Zl (f [])):=fun loc mh=>by
 refine Bc (aJ F hr hg hm hk hb .nil hx hdb) ?_;rintro σ H Q ⟨ρ,d,mh',q,rl,rs,co⟩;exact ⟨rfl,ρ,mh,[],d,mh',q,rs,.nil,co⟩
noncomputable def Ss (c:String) (x:D) (mh:MH):Option (D×MH):=match Lz x mh with
 | some t=>match Yi t c with
  | some b=>some (.bl b,mh)
  | none=>none
 | none=>none
theorem bF {c:String}(hc:c∈["bool", "int", "str", "tuple", "list", "dict"]):Ba X (.builtin "isinstance") (fun xs H Q=>∃ v,xs=[v,.ty c]/\rD1 X.K (Ss c) v H Q):=by
 rintro pins s σ H xs us Q I r ⟨v,e,ρ,mh,dx,d,mh',q,rs,rd,co⟩;subst e;obtain ⟨u,w',rfl,r1,r2⟩:=Vals.two r;cases (show w'=Value.type c from r2);unfold Ss at q;split at q
 ·rename_i t et;split at q
  ·rename_i b eb;cases q;have fin:∀ tk,EP X pins σ Q (.bool b) { s with toks:=tk }:=fun tk=>⟨.bl b,H,I.tok tk,rfl,co H ρ _ Ev.refl rs (.bl b)⟩
   cases rd with
   | non=>cases et;cases (show u=Value.none from r1);exact PySem.W.kia_one PySem.W.kitx_none I.kIn True.intro (Dn (by decide) hc eb) (fun z=>nomatch z) fin
   | bl y=>cases et;cases (show u=Value.bool y from r1);exact PySem.W.kia_one PySem.W.kitx_bool I.kIn True.intro (Dn (by decide) hc eb) (fun z=>nomatch z) fin
   | int i=>cases et;obtain ⟨t,q⟩:=(show ∃ t,u=Value.int i t from r1);cases q;exact PySem.W.kia_one PySem.W.kitx_int I.kIn True.intro (Dn (by decide) hc eb) (fun z=>nomatch z) fin
   | str y=>cases et;obtain ⟨t,q⟩:=(show ∃ t,u=Value.str y t from r1);cases q;exact PySem.W.kia_one PySem.W.kitx_str I.kIn True.intro (Dn (by decide) hc eb) (fun z=>nomatch z) fin
   | @tup ds a xs sq r =>
    cases et;cases (show u=Value.ref a from r1);obtain ⟨its,_,⟨o,h1,h2,_⟩,_⟩:=I.tuple sq;exact PySem.W.kia_one PySem.W.kitx_tuple I.kIn ⟨o,h1,h2⟩ (Dn (by decide) hc eb) (fun z=>nomatch z) fin
   | obj n s l r=>cases et
   | fn h=>cases et
   | lam h=>cases et
   | @rol ds a xs sq r =>
    cases et;cases (show u=Value.ref a from r1);obtain ⟨its,_,⟨ob,n',h1,h2,_⟩,_⟩:=I.list sq.sq;exact PySem.W.kia_one PySem.W.kitx_list I.kIn ⟨ob,h1,h2⟩ (Dn (by decide) hc eb) (fun z=>nomatch z) fin
   | @ref n a h =>
    have et:(match mh[n]? with | some (.lst _)=>some "list" | _=>none)=some t:=et;split at et
    ·rename_i o eo;cases et;cases (show u=Value.ref a from r1);obtain ⟨a',ha,ro⟩:=rs.at eo;rw [h] at ha;cases ha;obtain ⟨xs,sq,_⟩:=ro.read;obtain ⟨its,_,⟨ob,n',h1,h2,_⟩,_⟩:=I.list sq;exact PySem.W.kia_one PySem.W.kitx_list I.kIn ⟨ob,h1,h2⟩ (Dn (by decide) hc eb) (fun z=>nomatch z) fin
    ·cases et
  ·cases q
 ·cases q
theorem uI {c:Str}{T:String}{p p2 pos:Pos}{a:Expr}{ma:DM D}(hT:T∈["bool", "int", "str", "tuple", "list", "dict"]) (hg:Gl X "isinstance") (hm:X.mg "isinstance"=none) (hg2:Gl X c) (hm2:X.mg c=none) (hv2:bootBuiltins c=some (.type T)) (hn2:c ≠ "__name__") (hd2:(c==("__debug__":Str))=false) (ha:DE X a ma)
  (he:starEach (a::[.Name c p2]) X.env=(false,eval a X.env)::starEach [.Name c p2] X.env):DE X (.Call (.Name "isinstance" p) [a,.Name c p2] [] pos) (ma.bnd fun x=>Zl (Ss T x)):=fun loc mh=>by
 refine Bc (Ge (bF hT) hg hm boot_isinstance (Be (ha loc mh) (Be (Ku hg2 hm2 hv2 (v:=.ty T) rfl hn2 hd2) Es) he) (by decide) (by decide) he) ?_;rintro σ H Q ⟨ρ,d,mh',q,rl,rs,co⟩;obtain ⟨x,m1,ea,q⟩:=Ae q;exact ⟨ρ,x,m1,ea,rl,rs,fun H1 ρ1 v e1 rs1 r1=>⟨v,rfl,ρ1,m1,x,d,mh',q,rs1,r1,co.ev e1⟩⟩
end
section
variable {X:Cx}{a b c e o:Expr}{ma mb mc mo:DM D}{pos:Pos}
noncomputable def Hu (f f':D->D->MH->Option (D×MH)) (ma mb mc:DM D):DM D:=ma.bnd fun x=>mb.bnd fun y=>(Ag (Zl (f x y))).bnd fun k=>if k=true then mc.bnd fun z=>Zl (f' y z) else Zr (.bl false)
theorem Ov {f f':D->D->MH->Option (D×MH)}{σ:St}{H:Hp}{Q:VK}(h:tDx X.K (Hu f f' ma mb mc) σ H Q):Uy (rD X.K f) (rD X.K f') (tDx X.K ma) (tDx X.K mb) (tDx X.K mc) σ H Q:=by
 obtain ⟨loc,mh,ρ,d,mh',q,rl,rs,co⟩:=h;obtain ⟨x,m1,ea,q⟩:=Ae q;obtain ⟨y,m2,eb,q⟩:=Ae q;obtain ⟨k,m3,ek,q⟩:=Ae q;have ek:=Bu ek;refine ⟨loc,mh,ρ,x,m1,ea,rl,rs,fun H1 ρ1 v1 e1 rs1 r1=>⟨loc,m1,ρ1,y,m2,eb,rl.mono e1,rs1,fun H2 ρ2 v2 e2 rs2 r2=>⟨ρ2,m2,x,y,.bl k,m3,ek,rs2,r1.mono e2,r2,fun H3 ρ3 v3 e3 rs3 r3=>?_⟩⟩⟩;cases r3;refine ⟨k,rfl,?_⟩;cases k with
 | true =>
  rw [if_pos rfl] at q;obtain ⟨z,m4,ec,q⟩:=Ae q;exact Lq ⟨loc,m3,ρ3,z,m4,ec,((rl.mono e1).mono e2).mono e3,rs3,fun H4 ρ4 v4 e4 rs4 r4=>⟨ρ4,m4,y,z,d,mh',q,rs4,(r2.mono e3).mono e4,r4,co.ev (e1.trans (e2.trans (e3.trans e4)))⟩⟩
 | false =>
  rw [if_neg Bool.false_ne_true] at q;cases q;exact Qd (co H3 ρ3 _ (e1.trans (e2.trans e3)) rs3 (.bl false))
theorem bG {op op':CmpOp}{f f':D->D->MH->Option (D×MH)}(ho:OpR X (compareOp op) (rD X.K f)) (ho':OpR X (compareOp op') (rD X.K f')) (hm:lastMarks [op,op'] [b,c]=false) (ha:DE X a ma) (hb:DE X b mb) (hc:DE X c mc) :
  DE X (.Compare a [op,op'] [b,c] pos) (Hu f f' ma mb mc):=fun loc mh=>Bc (aB ho ho' ha.x hb.x hc.x hm) fun σ H Q h=>Ov ⟨loc,mh,h⟩
theorem bH {op op':CmpOp}{f f':D->D->MH->Option (D×MH)}(ho:OpR X (compareOp op) (rD X.K f)) (ho':OpR X (compareOp op') (rD X.K f')) (hm:lastMarks [op,op'] [b,c]=false) (ha:DE X a ma) (hb:DE X b mb) (hc:DE X c mc) :
  DT X (.Compare a [op,op'] [b,c] pos) (Ag (Hu f f' ma mb mc)):=by
 refine fun loc mh=>Jf (aC ho ho' ha.x hb.x hc.x hm) ?_
 rintro σ H Q ⟨ρ,k,mh',q,rl,rs,co⟩;have q:=Bu q;exact Ov ⟨loc,mh,ρ,_,_,q,rl,rs,fun H' ρ' v e' rs' r'=>by cases r';exact ⟨k,rfl,co H' ρ' e' rs'⟩⟩
noncomputable def rDM (K:PySem.W.Frag) (f:D->List D->MH->Option (D×MH)):V->List V->Hp->VK->Prop:=fun x xs H Q=>∃ ρ mh dx ds d mh',f dx ds mh=some (d,mh')/\RS K H ρ mh/\RD K H ρ dx x/\RDs K H ρ ds xs/\Co K H ρ mh' d Q
noncomputable def Sv (T:String) (x:D) (mh:MH):Bool:=match x with
 | .str _=>T == "str"
 | .int _=>T == "int"
 | .ref n=>T == "list"&&(match mh[n]? with | some (.lst _)=>true | _=>false)
 | .tup _=>T == "tuple"
 | _=>false
theorem Vg {K:PySem.W.Frag}{H:Hp}{ρ:List Addr}{mh:MH}{T:String}{x:D}{v:V}(rs:RS K H ρ mh) (r:RD K H ρ x v) (h:Sv T x mh=true):tyV K T v H:=by
 cases r with
 | str z=>exact eq_of_beq h
 | int i=>exact eq_of_beq h
 | @ref n a hn =>
  have h:(T == "list"&&(match mh[n]? with | some (.lst _)=>true | _=>false))=true:=h;rw [Bool.and_eq_true] at h;obtain ⟨o,eo⟩:∃ o,mh[n]?=some (.lst o):=by
   have h:=h.2;split at h
   ·exact ⟨_,‹_›⟩
   ·cases h
  obtain ⟨a',ha,ro⟩:=rs.at eo;rw [hn] at ha;cases ha;obtain ⟨xs,sq,_⟩:=ro.read;exact .inl ⟨eq_of_beq h.1,xs,sq⟩
 | tup s r=>exact .inr (.inl ⟨eq_of_beq h,_,s⟩)
 | _=>cases h
noncomputable def Ay (T:String) (f:D->List D->MH->Option (D×MH)) (mo:DM D) (mr:DM (List D)):DM D:=mo.bnd fun x=>fun loc mh=>if Sv T x mh=true then (mr.bnd fun ds=>Zl (f x ds)) loc mh else none
theorem Ga {T id:String}{name:Str}{apos:Pos}{es:List Expr}{mr:DM (List D)}{f:D->List D->MH->Option (D×MH)}(pa:PlainAttrs T) (slot:Slot T name id) (hty:typeOf (.builtin id)=pure (.type "method_descriptor")) (hm:MtR X id (rDM X.K f)) (ho:DE X o mo) (ha:DA X (a::es) mr)
  (hbase:attributeBase o name X.env (eval o X.env)=eval o X.env)
  (hfew:((backTo pos (starEach (a::es) X.env)).all (fun x=>!x.1)&&(backToKw pos (keywordEach [] X.env)).all (fun x=>x.1.isSome)
   && decide ((a::es).length+([]:List Keyword).length+(if ([]:List Keyword).isEmpty then 0 else 1) < 30))=true)
  (hline:(apos.endLine==pos.line)=true) (hs:starEach (a::es) X.env=(false,eval a X.env)::starEach es X.env) (hplain:(backTo pos (starEach es X.env)).any (·.1)=false) :
  DE X (.Call (.Attribute o name apos) (a::es) [] pos) (Ay T f mo mr):=fun loc mh=>by
 cases eo:mo loc mh with
 | none =>
  have:Ay T f mo mr loc mh=none:=by unfold Ay DM.bnd;rw [eo]
  rw [this];exact Dl
 | some p =>
  obtain ⟨x,m1⟩:=p;refine Bc (pO pa slot hty hm (ho loc mh) (ha loc m1) hbase hfew hline hs hplain) ?_;rintro σ H Q ⟨ρ,d,mh',q,rl,rs,co⟩;obtain ⟨x',m1',eo',q⟩:=Ae q;rw [eo] at eo';cases eo';split at q
  ·rename_i ht;obtain ⟨ds,m2,er,q⟩:=Ae q;exact ⟨ρ,x,m1,eo,rl,rs,fun H1 ρ1 v e1 rs1 r1=>⟨Vg rs1 r1 ht,ρ1,ds,m2,er,rl.mono e1,rs1,fun H2 ρ2 vs e2 rs2 r2=>⟨ρ2,m2,x,ds,d,mh',q,rs2,r1.mono e2,r2,co.ev (e1.trans e2)⟩⟩⟩
  ·cases q
theorem bI {T id:String}{name:Str}{apos:Pos}{f:D->List D->MH->Option (D×MH)}(pa:PlainAttrs T) (slot:Slot T name id) (hty:typeOf (.builtin id)=pure (.type "method_descriptor")) (hm:MtR X id (rDM X.K f)) (ho:DE X o mo)
  (hbase:attributeBase o name X.env (eval o X.env)=eval o X.env) (hline:(apos.endLine==pos.line)=true):DE X (.Call (.Attribute o name apos) [] [] pos) (Ay T f mo (Zr [])):=fun loc mh=>by
 refine Bc (sO pa slot hty hm (ho loc mh) hbase hline) ?_;rintro σ H Q ⟨ρ,d,mh',q,rl,rs,co⟩;obtain ⟨x,m1,eo,q⟩:=Ae q;split at q
 ·rename_i ht;exact ⟨ρ,x,m1,eo,rl,rs,fun H1 ρ1 v e1 rs1 r1=>⟨Vg rs1 r1 ht,ρ1,m1,x,[],d,mh',q,rs1,r1,.nil,co.ev e1⟩⟩
 ·cases q
theorem Qk {id:String}{r r':V->List V->Hp->VK->Prop}(h:MtR X id r) (i:∀ x xs H Q,r' x xs H Q->r x xs H Q):MtR X id r':=fun pins s σ H x xs v us Q I rx rs q=>h pins s σ H x xs v us Q I rx rs (i x xs H Q q)
noncomputable def Cq:D->List D->MH->Option (D×MH)
 | .ref n,[y],mh=>match mh[n]? with
  | some (.lst ds)=>if ds.length < sizeLine then some (.non,mh.set n (.lst (ds++[y]))) else none
  | _=>none
 | _,_,_=>none
theorem Mf:MtR X "list.append" (rDM X.K Cq):=by
 refine Qk X8 ?_;rintro x xs H Q ⟨ρ,mh,dx,ds,d,mh',q,rs,rx,r,co⟩
 match ds,q with
 | [y],q =>
  obtain ⟨v,rfl,rv⟩:=Hr r;cases rx with
  | @ref n a hn =>
   have q:(match mh[n]? with | some (.lst ds)=>if ds.length < sizeLine then some (D.non,mh.set n (.lst (ds++[y]))) else none | _=>none)=some (d,mh'):=q;split at q
   ·rename_i ds em;split at q
    ·rename_i hz;cases q;obtain ⟨a',ha,us,hu,ru⟩:=rs.at em;rw [hn] at ha;cases ha;exact ⟨a,us,v,rfl,rfl,hu,by rw [← ru.length];exact hz,co _ ρ _ (Ev.lst hu) (rs.setL hn hu (ru.append (.cons rv .nil))) .non⟩
    ·cases q
   ·cases q
  | _=>cases q
 | [],q=>cases dx <;> cases q
 | _::_::_,q=>cases dx <;> cases q
noncomputable def uJ:D->MH->Option (D×MH)
 | .int i,mh=>some (.int (-i),mh)
 | _,_=>none
theorem lX:UnR X (unaryOp .USub) (rD1 X.K uJ):=by
 rintro pins s σ H x v Q I rx ⟨ρ,mh,dx,d,mh',q,rs,r1,co⟩;cases r1 with
 | int i=>cases q;exact rT pins s σ H _ v Q I rx ⟨i,rfl,co H ρ _ Ev.refl rs (.int _)⟩
 | _=>cases q
end
section
variable {P:Program}{w:World}
variable {A:Around}{E:Value->Shared->Prop}{s:Shared}
end
section
variable {P:Program}{w:World}{A:Around}{R:Result->Shared->Prop}{I:Addr}{fp wr:List Addr}{G:Array GenState->Array GenState->Prop}{n:Nat}{V:Nat->Value->Prop}{T:Nat->Shared->Prop}
end
section
variable {P:Program}{w:World}{A:Around}{E:Value->Shared->Prop}{s:Shared}
end
section
variable {P:Program}{w:World}{A:Around}{E:Value->Shared->Prop}{s:Shared}
noncomputable def bJ (ns:List Int):List Int:=firstMet (fun i=>ns.getD i 0) ns.length
end
section
variable {P:Program}{w:World}{A:Around}{E:Value->Shared->Prop}{s:Shared}
end
section
variable {P:Program}{w:World}{A:Around}{E:Value->Shared->Prop}
end
namespace SI
end SI
section
variable {P:Program}{w:World}{A:Around}{E:Value->Shared->Prop}{s:Shared}{a I:Addr}{o:Obj}{es:Array (Int×Value)}{ep n:Nat}{t:SetTable}{S:Int->Bool}
end
section
variable {P:Program}{w:World}{A:Around}{E:Value->Shared->Prop}{s:Shared}{a I:Addr}{o:Obj}{es:Array (Int×Value)}{ep n:Nat}{t:SetTable}{S:Int->Bool}
end
noncomputable def zH (ns:List Int):List Int:=(bJ ns).mergeSort fun a b=>decide (a<=b)
section
variable {X:Cx}
end
section
variable {P:Program}{w:World}{A:Around}{E:Value->Shared->Prop}{s:Shared}{a b:Addr}{o o':Obj}{es es':Array (Int×Value)}{ep n ep' n':Nat}{t t':SetTable}{S S':Int->Bool}
end
noncomputable def zJ (ns ms:List Int):Bool:=ns.all (fun k=>ms.contains k)&&ms.all fun k=>ns.contains k
section
variable {P:Program}{w:World}{K:Type} [DecidableEq K] {knd:KeyKind P w K}{A:Around}{E:Value->Shared->Prop}{s:Shared}
end
section
variable {P:Program}{w:World}{K:Type} [DecidableEq K] {knd:KeyKind P w K}{A:Around}{E:Value->Shared->Prop}{s:Shared}
end
section
variable {P:Program}{w:World}{K:Type} [DecidableEq K] {knd:KeyKind P w K}
end
section
variable {P:Program}{w:World}{K:Type} [DecidableEq K] {knd:KeyKind P w K}{A:Around}{R:Result->Shared->Prop}{I:Addr}{fp wr:List Addr}{G:Array GenState->Array GenState->Prop}{n:Nat}{V:Nat->Value->Prop}{T:Nat->Shared->Prop}
end
section
variable {P:Program}{w:World}{K:Type} [DecidableEq K] {knd:KeyKind P w K}{A:Around}{E:Value->Shared->Prop}{s:Shared}
end
section
variable {X:Cx}
end
noncomputable def intsOf:List D->Option (List Int)
 | []=>some []
 | .int i::r=>match intsOf r with
  | some l=>some (i::l)
  | none=>none
 | _=>none
noncomputable def bK:D->MH->Option (List Int)
 | .ref n,mh=>match mh[n]? with
  | some (.lst o)=>intsOf o
  | _=>none
 | .rol ds,_=>intsOf ds
 | .tup ds,_=>intsOf ds
 | _,_=>none
theorem Kc:∀ {ds:List D}{ns:List Int},intsOf ds=some ns->ds=ns.map D.int
 | [],ns,h=>by cases h;rfl
 | d::r,ns,h=>by
  cases d with
  | int i =>
   have h:(match intsOf r with | some l=>some (i::l) | none=>none)=some ns:=h;split at h
   ·rename_i l e;cases h;rw [Kc e];rfl
   ·cases h
  | _=>cases h
section
variable {K:PySem.W.Frag}{H:Hp}{ρ:List Addr}{mh:MH}
theorem bL {ns:List Int}{vs:List V}(h:RDs K H ρ (ns.map D.int) vs):vs=ns.map V.int:=by
 induction ns generalizing vs with
 | nil=>cases h;rfl
 | cons n r ih =>
  cases h with
  | cons a t=>cases a;rw [ih t];rfl
end
noncomputable def lY (x:D) (mh:MH):Option (D×MH):=match bK x mh with
 | some ns=>if ns.length < 4000 then some (.int (bJ ns).length,mh) else none
 | none=>none
noncomputable def uK (x y:D) (mh:MH):Option (D×MH):=match bK x mh,bK y mh with
 | some ns,some ms=>if ns.length < 4000/\ms.length < 4000 then some (.bl (zJ ns ms),mh) else none
 | _,_=>none
section
variable {X:Cx}{a:Expr}{ma:DM D}{p p2 pos pos2:Pos}
noncomputable def bM (mx my:DM D):DM D:=mx.bnd fun x=>my.bnd fun y=>Zl (uK x y)
end
section
variable {X:Cx}{pins:List (Addr×Obj)}{σ:L2.St}{H:Hp}{s:Shared}
theorem Sw (I:Inv X pins σ H s) {A:Around}(hh:A.handled=none) {p:Addr}{ys:List V}(hq:SqL X.K H p ys\/SqT X.K H p ys) {Q:Value->Shared->Prop}{E:Value->Shared->Prop}
  (h:∀ (its:List Value) (St:Nat->Heap->Prop) (h2:Heap),Vals ys its->Walks X.prog X.w A s.heap.objs.size [s.heap.objs.size,p] [s.heap.objs.size] its.length (fun i v=>its[i]?=some v) St->St 0 h2 ->
   (∀ b∈[s.heap.objs.size,p],b < h2.objs.size)->(∀ b o,s.heap.get? b=some o->h2.get? b=some o)->Q (.ref s.heap.objs.size) { s with heap:=h2 }) :
  wpAny (model X.prog X.w) A (pyIter (.ref p)) Q E s:=by
 rcases hq with hq|hq
 ·obtain ⟨its,rv,pl,hz⟩:=I.list hq;have hlt:p < s.heap.objs.size:=by obtain ⟨_,_,e,_⟩:=pl;exact Heap.lt_size e
  refine wpAny_pyIter_list pl.isList ?_;have W:=Walks.list (prog:=X.prog) (w:=X.w) hh s.heap.objs.size p (Nat.ne_of_lt hlt) its.toArray;refine h its (fun i h=>h.IsListIter s.heap.objs.size p i/\h.IsList p its.toArray) _ rv (by simpa using W) ⟨⟨_,Heap.get?_push_size _ rfl,rfl,rfl⟩,pl.isList.push _⟩ (fun b hb=>?_) fun b o e=>Heap.get?_push_of_some _ e
  rw [Heap.size_push];simp at hb;rcases hb with e|e
  ·rw [e];exact Nat.lt_succ_self _
  ·rw [e];exact Nat.lt_succ_of_lt hlt
 ·obtain ⟨its,rv,pl,hz⟩:=I.tuple hq;have pl:s.heap.IsTuple p its.toArray:=pl;have hlt:p < s.heap.objs.size:=by obtain ⟨_,e,_⟩:=id pl;exact Heap.lt_size e
  refine wpAny_pyIter_tuple pl ?_;have W:=Walks.tuple (prog:=X.prog) (w:=X.w) hh s.heap.objs.size p (Nat.ne_of_lt hlt) its.toArray;refine h its (fun i h=>h.IsTupleIter s.heap.objs.size p i/\h.IsTuple p its.toArray) _ rv (by simpa using W) ⟨⟨_,Heap.get?_push_size _ rfl,rfl,rfl⟩,pl.push _⟩ (fun b hb=>?_) fun b o e=>Heap.get?_push_of_some _ e
  rw [Heap.size_push];simp at hb;rcases hb with e|e
  ·rw [e];exact Nat.lt_succ_self _
  ·rw [e];exact Nat.lt_succ_of_lt hlt
theorem Sx {h2 h':Heap}(hk:∀ b o,b ∉ [s.heap.objs.size]->h2.get? b=some o->h'.get? b=some o) (h1:∀ b o,s.heap.get? b=some o->h2.get? b=some o):∀ b o,s.heap.get? b=some o->h'.get? b=some o :=
 fun b o e=>hk b o (fun hm=>by rw [List.mem_singleton.mp hm] at e;exact Nat.lt_irrefl _ (Heap.lt_size e)) (h1 b o e)
end
noncomputable def boolsOf:List D->Option (List Bool)
 | []=>some []
 | .bl i::r=>match boolsOf r with
  | some l=>some (i::l)
  | none=>none
 | _=>none
theorem Kd:∀ (ns:List Bool),boolsOf (ns.map D.bl)=some ns
 | []=>rfl
 | n::r=>by
  show (match boolsOf (r.map D.bl) with | some l=>some (n::l) | none=>none)=_;rw [Kd r]
theorem Ij:∀ {ds:List D}{ns:List Bool},boolsOf ds=some ns->ds=ns.map D.bl
 | [],ns,h=>by cases h;rfl
 | d::r,ns,h=>by
  cases d with
  | bl i =>
   have h:(match boolsOf r with | some l=>some (i::l) | none=>none)=some ns:=h;split at h
   ·rename_i l e;cases h;rw [Ij e];rfl
   ·cases h
  | _=>cases h
theorem Ow {K:PySem.W.Frag}{H:Hp}{ρ:List Addr}{ns:List Bool}{vs:List V}(h:RDs K H ρ (ns.map D.bl) vs):vs=ns.map V.bl:=by
 induction ns generalizing vs with
 | nil=>cases h;rfl
 | cons n r ih =>
  cases h with
  | cons a t=>cases a;rw [ih t];rfl
theorem Ql:∀ {bs:List Bool}{its:List Value},Vals (bs.map V.bl) its->its=bs.map Value.bool
 | [],_,.nil=>rfl
 | b::r,_,.cons h t=>by
  have h:_=Value.bool b:=h;rw [h,Ql t];rfl
theorem Ik:∀ {ns:List Int}{its:List Value}{i:Nat}{v:Value},Vals (ns.map V.int) its->its[i]?=some v->∃ n t,ns[i]?=some n/\v=.int n t
 | [],_,_,_,.nil,e=>by simp at e
 | n::r,_,0,_,.cons h t,e=>by
  obtain ⟨k,rfl⟩:=h;cases e;exact ⟨n,k,rfl,rfl⟩
 | n::r,_,i+1,_,.cons h t,e=>by
  obtain ⟨m,k,h1,h2⟩:=Ik (i:=i) t (by simpa using e);exact ⟨m,k,by simpa using h1,h2⟩
noncomputable def Gy (f:List Bool->Bool):List D->MH->Option (D×MH)
 | [x],mh=>match Dc x mh with
  | some ds=>match boolsOf ds with
   | some bs=>some (.bl (f bs),mh)
   | none=>none
  | none=>none
 | _,_=>none
theorem Il {f:List Bool->Bool}{ds:List D}{mh mh':MH}{d:D}(h:Gy f ds mh=some (d,mh')):∃ x bs,ds=[x]/\Dc x mh=some (bs.map D.bl)/\d=.bl (f bs)/\mh'=mh:=by
 match ds,h with
 | [x],h =>
  have h:(match Dc x mh with | some ds=>(match boolsOf ds with | some bs=>some (D.bl (f bs),mh) | none=>none) | none=>none)=some (d,mh'):=h;split at h
  ·rename_i es e;split at h
   ·rename_i bs eb;cases h;rw [Ij eb] at e;exact ⟨x,bs,rfl,e,rfl,rfl⟩
   ·cases h
  ·cases h
 | [],h=>cases h
 | _::_::_,h=>cases h
noncomputable def Ym:List D->MH->Option (D×MH):=Gy fun bs=>bs.all id
noncomputable def zK:List D->MH->Option (D×MH):=Gy fun bs=>bs.any id
section
variable {X:Cx}
theorem bN (hc:X.calm=true) {id:String}{f:List Bool->Bool}{dflt:Bool}{g:List Nat->(Nat->Bool)->Bool}(hg:∀ bs:List Bool,g (List.range bs.length) (fun i=>(bs[i]?).getD dflt)=f bs)
  (call_w:∀ {A:Around} {x:Value} {Q:Value->Shared->Prop} {E:Value->Shared->Prop} {s:Shared},wpAny (model X.prog X.w) A.in1 (pyIter x) (fun it s₂=>∃ I fp wr n P St tr,it=.ref I/\Walks X.prog X.w A.in1 I fp wr n P St/\St 0 s₂.heap/\TruthOf X.prog X.w A.in1 P tr /\
   ∀ h' tk,(∀ b o,b ∉ wr->s₂.heap.get? b=some o->h'.get? b=some o)->Q (.bool (g (List.range n) tr)) { s₂ with heap:=h',toks:=tk }) E s->wpAny (model X.prog X.w) A (call (.builtin id) [x]) Q E s) :
  Ba X (.builtin id) (rDs X.K (Gy f)):=by
 rintro pins s σ H xs us Q I r ⟨ρ,mh,ds,d,mh',q,rs,rd,co⟩;obtain ⟨x,bs,rfl,e,rfl,rfl⟩:=Il q;obtain ⟨v,rfl,rx⟩:=Hr rd;obtain ⟨u,rfl,ru⟩:=vals1 r;obtain ⟨p,ys,rfl,hq,ry⟩:=Ib rs rx e;cases ru;rw [Ow ry] at hq;refine call_w (Sw I (A:=X.A.in1) (I.ok.hd hc) hq fun its St h2 rv W st _ hk=>?_);have ei:=Ql rv;refine ⟨_,_,_,its.length,_,St,fun i=>(bs[i]?).getD dflt,rfl,W,st,fun i v s' Q' E' hP hQ=>?_,fun h' tk hk'=>?_⟩
 ·rw [ei,List.getElem?_map] at hP;cases eb:bs[i]? with
  | none=>rw [eb] at hP;cases hP
  | some b =>
   rw [eb] at hP;cases hP;simp only [eb,Option.getD_some] at hQ;exact wpAny_truthy_bool hQ
 ·have e2:its.length=bs.length:=by rw [ei,List.length_map]
  rw [e2,hg bs];exact ⟨.bl _,H,I.kept (t':=tk) (Sx hk' hk),rfl,co H ρ _ Ev.refl rs (.bl _)⟩
theorem Yn (hc:X.calm=true):Ba X (.builtin "all") (rDs X.K Ym):=bN (dflt:=true) hc (g:=fun l f=>l.all f) (fun bs=>LSm.range_all bs) fun h=>call_all_walk h
end
noncomputable def Sy:Int->List Int->Int
 | m,[]=>m
 | m,x::r=>Sy (if x < m then x else m) r
theorem Im (bt:Nat->Nat->Bool) (f:Int->List Int->Int) (ns:List Int) (b:Int->Int->Bool) (hb:∀ i j x y,ns[i]?=some x->ns[j]?=some y->bt i j=b x y) (f0:∀ m,f m []=m) (f1:∀ m l x,f m (l++[x])=if b x (f m l)=true then x else f m l) :
  ∀ (k:Nat) (h:k < ns.length),∀ m r,ns=m::r->ns[argBest bt k]?=some (f m (r.take k))
 | 0,h,m,r,e=>by
  subst e;simp [argBest,f0]
 | k+1,h,m,r,e=>by
  have ih:=Im bt f ns b hb f0 f1 k (by omega) m r e;have hk:k < r.length:=by rw [e,List.length_cons] at h;omega
  have e1:ns[k+1]?=some r[k]:=by rw [e,List.getElem?_cons_succ,List.getElem?_eq_getElem hk]
  have e2:r.take (k+1)=r.take k++[r[k]]:=by rw [List.take_add_one,List.getElem?_eq_getElem hk];rfl
  have e3:=hb (k+1) (argBest bt k) _ _ e1 ih;rw [e2,f1];unfold argBest;rw [e3];split
  ·exact e1
  ·exact ih
theorem Ox:∀ (l:List Int) (m x:Int),Sy m (l++[x])=if decide (x < Sy m l)=true then x else Sy m l
 | [],m,x=>by by_cases h:x < m <;> simp [Sy,h]
 | y::l,m,x=>by
  show Sy _ (l++[x])=_;rw [Ox l];rfl
noncomputable def Vh (f:Int->List Int->Int):List D->MH->Option (D×MH)
 | [x],mh=>match Dc x mh with
  | some ds=>match intsOf ds with
   | some (n::r)=>some (.int (f n r),mh)
   | _=>none
  | none=>none
 | _,_=>none
theorem S5 {f:Int->List Int->Int}{ds:List D}{mh mh':MH}{d:D}(h:Vh f ds mh=some (d,mh')):∃ x n r,ds=[x]/\Dc x mh=some ((n::r).map D.int)/\d=.int (f n r)/\mh'=mh:=by
 match ds,h with
 | [x],h =>
  have h:(match Dc x mh with | some ds=>(match intsOf ds with | some (n::r)=>some (D.int (f n r),mh) | _=>none) | none=>none)=some (d,mh'):=h;split at h
  ·rename_i es e;split at h
   ·rename_i n r eb;cases h;rw [Kc eb] at e;exact ⟨x,n,r,rfl,e,rfl,rfl⟩
   ·cases h
  ·cases h
 | [],h=>cases h
 | _::_::_,h=>cases h
noncomputable def minD:List D->MH->Option (D×MH):=Vh Sy
section
variable {X:Cx}
theorem lZ (hc:X.calm=true) {id:String}{f:Int->List Int->Int}{op:CmpOp}{b:Int->Int->Bool}(f0:∀ m,f m []=m) (f1:∀ m l x,f m (l++[x])=if b x (f m l)=true then x else f m l)
  (cmp:∀ {A:Around} {x y:Int} {t u:Tok} {Q:Value->Shared->Prop} {E:Value->Shared->Prop} {s:Shared},Q (.bool (b x y)) s->wpAny (model X.prog X.w) A (richCompare op (.int x t) (.int y u)) Q E s)
  (call_w:∀ {A:Around} {x:Value} {Q:Value->Shared->Prop} {E:Value->Shared->Prop} {s:Shared},wpAny (model X.prog X.w) A.in1 (pyIter x) (fun it s₂=>∃ I fp wr n P St bt,it=.ref I/\Walks X.prog X.w A.in1 I fp wr n P St/\St 0 s₂.heap/\(∀ b∈fp,b < s₂.heap.objs.size)/\0 < n/\CmpOf X.prog X.w A.in1 op P bt /\
   ∀ v h' tk,P (argBest bt (n - 1)) v->(∀ b o,b ∉ wr->s₂.heap.get? b=some o->h'.get? b=some o)->Q v { s₂ with heap:=h',toks:=tk }) E s->wpAny (model X.prog X.w) A (call (.builtin id) [x]) Q E s) :
  Ba X (.builtin id) (rDs X.K (Vh f)):=by
 rintro pins s σ H xs us Q I r ⟨ρ,mh,ds,d,mh',q,rs,rd,co⟩;obtain ⟨x,n,l,rfl,e,rfl,rfl⟩:=S5 q;obtain ⟨v,rfl,rx⟩:=Hr rd;obtain ⟨u,rfl,ru⟩:=vals1 r;obtain ⟨p,ys,rfl,hq,ry⟩:=Ib rs rx e;cases ru;rw [bL ry] at hq;refine call_w (Sw I (A:=X.A.in1) (I.ok.hd hc) hq fun its St h2 rv W st hfp hk=>?_);have hlen:(n::l).length=its.length:=by have:=rv.length;simpa using this
 refine ⟨_,_,_,its.length,_,St,fun i j=>(match (n::l)[i]?,(n::l)[j]? with | some x,some y=>b x y | _,_=>false),rfl,W,st,hfp,by rw [← hlen];simp,fun i j vi vj s' Q' E' hi hj hQ=>?_,fun v h' tk hP hk'=>?_⟩
 ·obtain ⟨a,t,e1,rfl⟩:=Ik rv hi;obtain ⟨a',t',e2,rfl⟩:=Ik rv hj;simp only [e1,e2] at hQ;exact cmp hQ
 ·have ar:=Im (fun i j=>(match (n::l)[i]?,(n::l)[j]? with | some x,some y=>b x y | _,_=>false)) f (n::l) b (fun i j x y e1 e2=>by simp only [e1,e2]) f0 f1 (its.length - 1) (by rw [hlen];simp at hlen;omega) n l rfl;obtain ⟨a,t,e1,rfl⟩:=Ik rv hP;rw [ar] at e1;have e3:l.take (its.length - 1)=l:=List.take_of_length_le (by rw [← hlen];simp);rw [e3] at e1;cases e1;exact ⟨.int _,H,I.kept (t':=tk) (Sx hk' hk),⟨t,rfl⟩,co H ρ _ Ev.refl rs (.int _)⟩
end
theorem bO (l b:Addr) (n n2:Nat) (sl:Array (Option Value)) {items more:Array Value}(h0:¬(!items.isEmpty&&Builtin.List.listTooLong (items.size+more.size))=true) (h1:items.size+more.size<=sizeLine) :
  PySem.Meets (Builtin.«list.extend» ⟨[.ref l,.ref b],[]⟩) (fun _ R s=>s.heap.get? l=some ⟨.type "list",none,.seq items n,#[]⟩/\s.heap.get? b=some ⟨.type "tuple",none,.seq more n2,sl⟩/\R (.ok (.ret .none)) { s with heap:=s.heap.update l (Obj.mapSeq fun x=>x++more),toks:=s.toks }):=by
 refine .of_wp fun prog w A R st hh=>?_
 have hj:(items++more).size<=sizeLine+1:=by rw [Array.size_append];omega
 have hi:items.size<=sizeLine:=by omega
 cases st;rcases hh with ⟨e1,e2,e3⟩
 have q1:=PySem.AutoSeq1.sub_list_tuple;have q2:=PySem.AutoSeq1.sub_tuple_list;have q3:=PySem.AutoSeq1.sub_list_list;have q4:=PySem.AutoSeq1.sub_tuple_tuple;wp_walk using (wpAny_updateSeq e1 rfl (hz:=hi) (_hz':=hj)),PySem.AutoSeq1.wpAny_loadPart' e1,PySem.AutoSeq1.wpAny_loadPart' e2
 exact ⟨_,rfl,e3⟩
section
variable {X:Cx}
theorem Yo (hc:X.calm=true):Ba X (.builtin "min") (rDs X.K minD):=lZ (op:=.Lt) (b:=fun x m=>decide (x < m)) hc (fun _=>rfl) (fun m l x=>Ox l m x) (fun h=>PyProof.Rows.lt_int h) fun h=>call_min_walk h
theorem RDs.dropLast {K:PySem.W.Frag}{H:Hp}{ρ:List Addr}:∀ {ds:List D}{vs:List V},RDs K H ρ ds vs->RDs K H ρ ds.dropLast vs.dropLast
 | _,_,.nil=>.nil
 | _,_,.cons _ .nil=>.nil
 | _,_,.cons r (.cons r2 t)=>.cons r (RDs.dropLast (.cons r2 t))
noncomputable def S6:D->List D->MH->Option (D×MH)
 | .ref n,[],mh=>match mh[n]? with
  | some (.lst ds)=>(match ds[ds.length - 1]? with | some y=>some (y,mh.set n (.lst ds.dropLast)) | none=>none)
  | _=>none
 | _,_,_=>none
theorem mC:MtR X "list.pop" (rDM X.K S6):=by
 refine Qk sS ?_;rintro x xs H Q ⟨ρ,mh,dx,ds,d,mh',q,rs,rx,r,co⟩
 match ds,q with
 | [],q =>
  cases r;cases rx with
  | @ref n a hn =>
   simp only [S6] at q;split at q
   ·rename_i ds em;split at q
    ·rename_i y ey;cases q;obtain ⟨a',ha,us,hu,ru⟩:=rs.at em;rw [hn] at ha;cases ha;obtain ⟨w',hw,rw'⟩:=ru.get ey;refine ⟨a,us,w',rfl,rfl,hu,by rw [← ru.length];exact hw,?_⟩;exact co _ ρ _ (Ev.lst hu) (rs.setL hn hu ru.dropLast) (rw'.mono (Ev.lst hu))
    ·cases q
   ·cases q
  | _=>cases q
 | _::_,q=>cases dx <;> simp [S6] at q
noncomputable def Em:D->List D->MH->Option (D×MH)
 | .ref n,[.ref m],mh=>match mh[n]?,mh[m]? with
  | some (.lst xs),some (.lst ys)=>if xs.length+ys.length<=sizeLine then some (.non,mh.set n (.lst (xs++ys))) else none
  | _,_=>none
 | .ref n,[.tup ys],mh=>match mh[n]? with
  | some (.lst xs)=>if xs.length+ys.length<=sizeLine then some (.non,mh.set n (.lst (xs++ys))) else none
  | _=>none
 | _,_,_=>none
theorem MtR.or {id:String}{r r':V->List V->Hp->VK->Prop}(h:MtR X id r) (h':MtR X id r'):MtR X id (fun x xs H Q=>r x xs H Q\/r' x xs H Q):=fun pins s σ H x xs v us Q I rx rs q =>
 q.elim (h pins s σ H x xs v us Q I rx rs) (h' pins s σ H x xs v us Q I rx rs)
theorem Vi:MtR X "list.extend" (fun x vs H Q=>∃ l b xs zs,x=.ref l/\vs=[.ref b]/\H l=some (.lst xs)/\SqT X.K H b zs/\xs.length+zs.length<=sizeLine/\Q .non (upd H l (.lst (xs++zs)))):=by
 rintro pins s σ H x vs v us Q I rx rv ⟨l,b,xs,zs,rfl,rfl,hH,hB,hz,q⟩;cases rx;obtain ⟨u,rfl,ru⟩:=rv.one;cases ru;obtain ⟨z,ia,n,r,hl,e⟩:=I.lstM hH;obtain ⟨ib,r2,⟨⟨oc,od,dt,sl⟩,e2,c2,d2,n2,t2⟩,z2⟩:=I.tupleP hB;cases c2;cases d2;cases t2;have h2:=r2.length;refine call_meets F.slot_list_extend ⟨_,e,rfl⟩ F.entry_list_extend (F.args_list_extend_2 _ _) (bO l b n n2 sl (items:=ia.toArray) (more:=ib.toArray) ?_ ?_) ⟨e,e2,?_⟩
 ·rw [Lp (by rw [List.size_toArray,List.size_toArray];omega),Bool.and_false];exact Bool.false_ne_true
 ·rw [List.size_toArray,List.size_toArray];omega
 ·refine ⟨.non,_,I.lset (its':=ia++ib) hH e (by simp) (r.append r2) ?_,rfl,q⟩;rw [List.length_append];omega
theorem Qm {dx d:D}{ds:List D}{mh mh':MH}(q:Em dx ds mh=some (d,mh')):∃ n xs ys,dx=.ref n/\mh[n]?=some (.lst xs)/\((∃ m,ds=[.ref m]/\mh[m]?=some (.lst ys))\/ds=[.tup ys])/\xs.length+ys.length<=sizeLine/\d=.non/\mh'=mh.set n (.lst (xs++ys)):=by
 cases dx with
 | ref n =>
  match ds,q with
  | [.ref m],q =>
   have q:(match mh[n]?,mh[m]? with | some (.lst xs),some (.lst ys)=>if xs.length+ys.length<=sizeLine then some (D.non,mh.set n (.lst (xs++ys))) else none | _,_=>none)=some (d,mh'):=q;split at q
   ·rename_i xs ys e1 e2;split at q
    ·rename_i hz;cases q;exact ⟨n,xs,ys,rfl,e1,.inl ⟨m,rfl,e2⟩,hz,rfl,rfl⟩
    ·cases q
   ·cases q
  | [.tup ys],q =>
   have q:(match mh[n]? with | some (.lst xs)=>if xs.length+ys.length<=sizeLine then some (D.non,mh.set n (.lst (xs++ys))) else none | _=>none)=some (d,mh'):=q;split at q
   ·rename_i xs e1;split at q
    ·rename_i hz;cases q;exact ⟨n,xs,ys,rfl,e1,.inr rfl,hz,rfl,rfl⟩
    ·cases q
   ·cases q
  | [],q=>cases q
  | .non::_,q=>cases q
  | .bl _::_,q=>cases q
  | .str _::_,q=>cases q
  | .int _::_,q=>cases q
  | .rol _::_,q=>cases q
  | .obj ..::_,q=>cases q
  | .fn _::_,q=>cases q
  | .lam::_,q=>cases q
  | .tup _::_::_,q=>cases q
  | .ref _::_::_,q=>cases q
 | _=>cases q
theorem Vj:MtR X "list.extend" (rDM X.K Em):=by
 refine Qk (MtR.or Yb Vi) ?_;rintro x xs H Q ⟨ρ,mh,dx,ds,d,mh',q,rs,rx,r,co⟩;obtain ⟨n,es,fs,rfl,e1,hy,hz,rfl,rfl⟩:=Qm q;cases rx with
 | @ref _ a hn =>
 obtain ⟨a',ha,us,hu,ru⟩:=rs.at e1;rw [hn] at ha;cases ha;rcases hy with ⟨m,rfl,e2⟩|rfl
 ·obtain ⟨v,rfl,rv⟩:=Hr r;cases rv with
  | @ref _ b hb =>
   obtain ⟨b',hb',ws,hw,rw'⟩:=rs.at e2;rw [hb] at hb';cases hb';exact .inl ⟨a,b,us,ws,rfl,rfl,hu,hw,by rw [← ru.length,← rw'.length];exact hz,co _ ρ _ (Ev.lst hu) (rs.setL hn hu (ru.append rw')) .non⟩
 ·obtain ⟨v,rfl,rv⟩:=Hr r;cases rv with
  | @tup _ b zs hb rz=>exact .inr ⟨a,b,us,zs,rfl,rfl,hu,hb,by rw [← ru.length,← rz.length];exact hz,co _ ρ _ (Ev.lst hu) (rs.setL hn hu (ru.append rz)) .non⟩
end
section
variable {X:Cx}{pins:List (Addr×Obj)}{σ:L2.St}{H:Hp}{s:Shared}{fp:List Addr}{h':Heap}
end
section
variable {prog:Program}{w:World}{A:Around}{E:Value->Shared->Prop}{s:Shared}
end
section
variable {prog:Program}{w:World}{A:Around}{E:Value->Shared->Prop}{s:Shared}
end
section
variable {X:Cx}
end
section
variable {X:Cx}
noncomputable def bQ (x:D) (mh:MH):Option (D×MH):=match x with
 | .int j=>if -(2 ^ 62)<=j/\j<=1000000 then some (.ref mh.length,mh++[.lst (Cj 0 j.toNat)]) else none
 | _=>none
noncomputable def mD (x:D) (mh:MH):Option (D×MH):=match x with
 | .int j=>if -(2 ^ 62)<=j/\j<=1000000 then some (.tup (Cj 0 j.toNat),mh) else none
 | _=>none
variable {a:Expr}{ma:DM D}{p p2 pos pos2:Pos}
end
end DL
namespace DL
open PySem PySem.Spec PyProof.Rows L2 PySem.W
noncomputable def zL:List Int->List Int->Bool
 | [],[]=>false
 | [],_::_=>true
 | _::_,[]=>false
 | x::xs,y::ys=>if (x==y)=true then zL xs ys else decide (x < y)
section
variable {prog:Program}{w:World}{A:Around}{E:Value->Shared->Prop}{κ:SortKind}{it:Array Keyed}{s:Shared}
end
section
variable {prog:Program}{w:World}{A:Around}{E:Value->Shared->Prop}{s:Shared}
end
section
variable {X:Cx}
end
noncomputable abbrev TX:=Str×List Int
noncomputable def Abj (a b:TX):Bool:=if a.1=b.1 then zL a.2 b.2 else decide (a.1.cps.toList < b.1.cps.toList)
noncomputable def pU (ks:List TX):List TX:=ks.mergeSort fun a b=>!Abj b a
section
variable {n:Nat}{lt:Nat->Nat->Bool}
end
section
variable {prog:Program}{w:World}{A:Around}{E:Value->Shared->Prop}{s:Shared}
end
noncomputable def txD (k:TX):D:=.tup (.str k.1::k.2.map D.int)
noncomputable def mF:List TX->List TX
 | []=>[]
 | x::r=>if x∈r then mF r else x::mF r
section
variable {X:Cx}
end
noncomputable def bR:List D->Option (List TX)
 | []=>some []
 | .tup (.str x::r)::t=>match intsOf r with
  | some ns=>match bR t with
   | some l=>some ((x,ns)::l)
   | none=>none
  | none=>none
 | _=>none
noncomputable def bT (ds:List D) (mh:MH):Option (D×MH):=match bR ds with
 | some ks=>if (mF ks).length<=17 then some (.ref mh.length,mh++[.lst ((pU (mF ks)).map txD)]) else none
 | none=>none
noncomputable def Yp (x:D) (mh:MH):Option (D×MH):=match x with
 | .ref n=>match mh[n]? with
  | some (.lst o)=>match intsOf o with
   | some ns=>if ns.length < 4000 then (if (bJ ns).length < 64 then some (.ref mh.length,mh++[.lst ((zH ns).map D.int)]) else none) else none
   | none=>bT o mh
  | _=>none
 | _=>none
section
variable {K:PySem.W.Frag}{H:Hp}{ρ:List Addr}
end
section
variable {X:Cx}{a:Expr}{ma:DM D}{p p2 pos pos2:Pos}
end
end DL
namespace DL
open PySem PySem.Spec PyProof.Rows L2
section
variable {prog:Program}{w:World}{A:Around}{E:Value->Shared->Prop}{s:Shared}
end
section
variable {prog:Program}{w:World}{A:Around}{E:Value->Shared->Prop}{s:Shared}
end
section
variable {X:Cx}
end
section
variable {prog:Program}{w:World}{A:Around}{E:Value->Shared->Prop}{s:Shared}
end
section
variable {prog:Program}{w:World}{A:Around}{E:Value->Shared->Prop}{s:Shared}{k1 k2:SeqK}{S z TI TO i1 i2 l1 l2:Addr}{i:Nat}
end
noncomputable def uL (a b:D):D:=.tup [a,b]
noncomputable def bU:List D->MH->Option (D×MH)
 | [x,y],mh=>match Dc x mh,Dc y mh with
  | some as,some bs=>some (.ref mh.length,mh++[.lst (List.zipWith uL as bs)])
  | _,_=>none
 | _,_=>none
section
variable {X:Cx}
end
end DL
namespace DL
open PySem PySem.Spec PyProof.Rows L2 PySem.W
noncomputable def bV:List D->MH->Option (D×MH)
 | [x,y],mh=>match Dc x mh,Dc y mh with
  | some as,some bs=>match bR (List.zipWith uL as bs) with
   | some ks=>if ks.Nodup/\ks.length < 64 then some (.ref (mh.length+1),mh++[.lst (List.zipWith uL as bs)]++[.lst ((pU ks).map txD)]) else none
   | none=>none
  | _,_=>none
 | _,_=>none
section
variable {X:Cx}
end
end DL
namespace DL
open PySem PySem.Spec PyProof.Rows L2
section
variable {X:Cx}
end
noncomputable def W0 (T1:String) (f1:D->List D->MH->Option (D×MH)) (T2:String) (f2:D->List D->MH->Option (D×MH)) (mo:DM D) (mr:DM (List D)):DM D:=fun loc mh=>match mo loc mh with
 | some (x,m1)=>if Sv T1 x m1 then Ay T1 f1 mo mr loc mh else Ay T2 f2 mo mr loc mh
 | none=>none
theorem S7 {X:Cx}{e:Expr}{T1 T2:String}{f1 f2:D->List D->MH->Option (D×MH)}{mo:DM D}{mr:DM (List D)}(h1:DE X e (Ay T1 f1 mo mr)) (h2:DE X e (Ay T2 f2 mo mr)):DE X e (W0 T1 f1 T2 f2 mo mr):=fun loc mh=>by
 unfold W0;split
 ·split
  ·exact h1 loc mh
  ·exact h2 loc mh
 ·exact Dl
section
variable {prog:Program}{w:World}{A:Around}{E:Value->Shared->Prop}{s:Shared}
end
inductive DEnts (w:World) (K:PySem.W.Frag):List DictEntry->List (Str×D)->Prop
 | nil:DEnts w K [] []
 | cons {k:Str} {t:Tok} {u:Value} {v:V} {d:D} {es:List DictEntry} {kvs:List (Str×D)}:RelV v u->(∀ H ρ,RD K H ρ d v)->DEnts w K es kvs->DEnts w K ({ hash:=hashStr w k,key:=.str k t,val:=u }::es) ((k,d)::kvs)
structure DicOk (w:World) (K:PySem.W.Frag) (a:Addr) (kvs:List (Str×D)):Prop where
 ns:(a==sysModules)=false
 ob:∃ o es ep,K.lookup a=some o/\o.ExactDict/\o.data=.dict es ep/\DEnts w K es.toList kvs
noncomputable def Dp (es:List DictEntry) (k:Str):Option Value:=match es with
 | []=>none
 | e::r=>if Value.isStrOf k e.key then some e.val else Dp r k
theorem S8 (es:Array DictEntry) (k:Str):findBy Value.isStrOf es k=Dp es.toList k:=by
 obtain ⟨l⟩:=es;simp only [findBy,List.find?_toArray]
 induction l with
 | nil=>rfl
 | cons e r ih =>
  rw [List.find?_cons];show _=(if Value.isStrOf k e.key=true then some e.val else Dp r k);cases h:Value.isStrOf k e.key with
  | true=>rfl
  | false=>exact ih
theorem Mg {w:World}{K:PySem.W.Frag}:∀ {es:List DictEntry}{kvs:List (Str×D)},DEnts w K es kvs->∀ k:Str,(∃ d u v,kvs.lookup k=some d/\Dp es k=some u/\RelV v u/\∀ H ρ,RD K H ρ d v)\/(kvs.lookup k=none/\Dp es k=none)
 | _,_,.nil,k=>.inr ⟨rfl,rfl⟩
 | _,_,@DEnts.cons _ _ k0 t u v d es kvs rv rd h,k=>by
  by_cases e:k=k0
  ·subst e;left;refine ⟨d,u,v,by simp [List.lookup],?_,rv,rd⟩;simp [Dp,Value.isStrOf]
  ·have e1:(k==k0)=false:=by simpa using e
   have e2:Value.isStrOf k (.str k0 t)=false:=by
    simp [Value.isStrOf];exact fun z=>e z.symm
   rcases Mg h k with ⟨d',u',v',h1,h2,h3,h4⟩|⟨h1,h2⟩
   ·left;refine ⟨d',u',v',by rw [List.lookup_cons,e1];exact h1,?_,h3,h4⟩;show (if Value.isStrOf k (.str k0 t)=true then some u else Dp es k)=some u';rw [e2];exact h2
   ·right;refine ⟨by rw [List.lookup_cons,e1];exact h1,?_⟩;show (if Value.isStrOf k (.str k0 t)=true then some u else Dp es k)=none;rw [e2];exact h2
theorem Vk {P:Program}{w:World}{K:PySem.W.Frag}{es:List DictEntry}{kvs:List (Str×D)}(h:DEnts w K es kvs):∀ e∈es,∃ k,(PySem.strKind P w).is k e.key=true/\e.hash=(PySem.strKind P w).hash k:=by
 induction h with
 | nil=>intro e he;cases he
 | cons rv rd h ih =>
  intro e he;rcases List.mem_cons.mp he with rfl|he
  ·exact ⟨_,by simp [PySem.strKind,Value.isStrOf],rfl⟩
  ·exact ih e he
section
variable {X:Cx}{a:Addr}{kvs:List (Str×D)}
theorem DicOk.map {pins:List (Addr×Obj)}{σ:L2.St}{H:Hp}{s:Shared}(D:DicOk X.w X.K a kvs) (I:Inv X pins σ H s):∃ f,s.heap.MapOf (PySem.strKind X.prog X.w) a f/\∀ k,(∃ d u v,kvs.lookup k=some d/\f k=some u/\RelV v u/\∀ H ρ,RD X.K H ρ d v)\/(kvs.lookup k=none/\f k=none):=by
 obtain ⟨o,es,ep,h1,h2,h3,h4⟩:=D.ob;refine ⟨Dp es.toList,⟨o,es,ep,I.kIn a o h1,h2,h3,fun e he=>Vk h4 e (by simpa using he),fun k=>S8 es k⟩,Mg h4⟩
theorem S9 (D:DicOk X.w X.K a kvs):OpR X (compareOp .In) (fun y x H Q=>∃ k,y=.str k/\x=.ref a/\Q (.bl (kvs.lookup k).isSome) H):=by
 rintro pins s σ H x y v u Q I rx ry ⟨k,ex,ey,q⟩;subst ex;subst ey;obtain ⟨t,rfl⟩:=rx;cases ry;obtain ⟨f,m,hf⟩:=D.map I;refine wpAny_in_of (knd:=PySem.strKind X.prog X.w) (strKind_is _ _ k t) D.ns m ?_;have e:(f k).isSome=(kvs.lookup k).isSome:=by
  rcases hf k with ⟨d,u,v,h1,h2,_⟩|⟨h1,h2⟩
  ·rw [h1,h2];rfl
  ·rw [h1,h2];rfl
 rw [e];exact ⟨.bl _,H,I.tok _,rfl,q⟩
theorem Ke (D:DicOk X.w X.K a kvs):OpR X (compareOp .NotIn) (fun y x H Q=>∃ k,y=.str k/\x=.ref a/\Q (.bl (!(kvs.lookup k).isSome)) H):=by
 rintro pins s σ H x y v u Q I rx ry ⟨k,ex,ey,q⟩;subst ex;subst ey;obtain ⟨t,rfl⟩:=rx;cases ry;obtain ⟨f,m,hf⟩:=D.map I;refine wpAny_notIn_of (knd:=PySem.strKind X.prog X.w) (strKind_is _ _ k t) D.ns m ?_;have e:(f k).isSome=(kvs.lookup k).isSome:=by
  rcases hf k with ⟨d,u,v,h1,h2,_⟩|⟨h1,h2⟩
  ·rw [h1,h2];rfl
  ·rw [h1,h2];rfl
 rw [e];exact ⟨.bl _,H,I.tok _,rfl,q⟩
theorem uM (D:DicOk X.w X.K a kvs):IxR X (fun x y H Q=>∃ k d,x=.ref a/\y=.str k/\kvs.lookup k=some d/\∀ v,(∀ H ρ,RD X.K H ρ d v)->Q v H):=by
 rintro value slice pins s σ H x y v u Q I rx ry ⟨k,d,ex,ey,hl,q⟩ hs;subst ex;subst ey;cases rx;obtain ⟨t,rfl⟩:=ry;obtain ⟨f,m,hf⟩:=D.map I;rcases hf k with ⟨d',u',v',h1,h2,h3,h4⟩|⟨h1,h2⟩
 ·rw [hl] at h1;cases h1;exact subscriptTail_builtinR (x:=u') m.typeIs PySem.F.slot_dict_getitem.lookup (wpAny_getItem_of (knd:=PySem.strKind X.prog X.w) (strKind_is _ _ k t) m h2 ⟨rfl,⟨v',H,I.tok _,h3,q v' h4⟩⟩) hs
 ·rw [hl] at h1;cases h1
variable {e:Expr}{me:DM D}{x:Str}{p pos:Pos}
noncomputable def Gh (neg:Bool) (kvs:List (Str×D)) (m:DM D):DM D:=m.bnd fun y=>match y with
 | .str k=>Zr (.bl (if neg then !(kvs.lookup k).isSome else (kvs.lookup k).isSome))
 | _=>Zb
noncomputable def Mh (kvs:List (Str×D)) (m:DM D):DM D:=m.bnd fun y=>match y with
 | .str k=>(match kvs.lookup k with | some d=>Zr d | none=>Zb)
 | _=>Zb
theorem bW (D:DicOk X.w X.K a kvs) (hg:Gl X x) (hm:X.mg x=some (.ref a)) (hd:(x==("__debug__":Str))=false) (he:DE X e me):DE X (.Compare e [.In] [.Name x p] pos) (Gh false kvs me):=fun loc mh =>
 Bc (Pu (S9 D) (he loc mh) (Fo (v:=.ref a) hg hm rfl hd) rfl) fun σ H Q ⟨ρ,d,mh',q,rl,rs,co⟩=>by
  obtain ⟨y,m1,ea,q⟩:=Ae q;cases y with
  | str k=>cases q;exact ⟨ρ,_,_,ea,rl,rs,fun H1 ρ1 v e1 rs1 r1=>by cases r1;exact ⟨k,rfl,rfl,co H1 ρ1 _ e1 rs1 (.bl _)⟩⟩
  | _=>cases q
theorem Tc (D:DicOk X.w X.K a kvs) (hg:Gl X x) (hm:X.mg x=some (.ref a)) (hd:(x==("__debug__":Str))=false) (he:DE X e me):DE X (.Compare e [.NotIn] [.Name x p] pos) (Gh true kvs me):=fun loc mh =>
 Bc (Pu (Ke D) (he loc mh) (Fo (v:=.ref a) hg hm rfl hd) rfl) fun σ H Q ⟨ρ,d,mh',q,rl,rs,co⟩=>by
  obtain ⟨y,m1,ea,q⟩:=Ae q;cases y with
  | str k=>cases q;exact ⟨ρ,_,_,ea,rl,rs,fun H1 ρ1 v e1 rs1 r1=>by cases r1;exact ⟨k,rfl,rfl,co H1 ρ1 _ e1 rs1 (.bl _)⟩⟩
  | _=>cases q
theorem bY (D:DicOk X.w X.K a kvs) (hg:Gl X x) (hm:X.mg x=some (.ref a)) (hd:(x==("__debug__":Str))=false) (he:DE X e me):DT X (.Compare e [.In] [.Name x p] pos) (Ag (Gh false kvs me)):=fun loc mh =>
 Jf (Px (S9 D) (he loc mh) (Fo (v:=.ref a) hg hm rfl hd) rfl) fun σ H Q ⟨ρ,b,mh',q,rl,rs,co⟩=>by
  have q:=Bu q;obtain ⟨y,m1,ea,q⟩:=Ae q;cases y with
  | str k=>cases q;exact ⟨ρ,_,_,ea,rl,rs,fun H1 ρ1 v e1 rs1 r1=>by cases r1;exact ⟨k,rfl,rfl,_,rfl,co H1 ρ1 e1 rs1⟩⟩
  | _=>cases q
theorem Te (D:DicOk X.w X.K a kvs) (hg:Gl X x) (hm:X.mg x=some (.ref a)) (hd:(x==("__debug__":Str))=false) (he:DE X e me):DT X (.Compare e [.NotIn] [.Name x p] pos) (Ag (Gh true kvs me)):=fun loc mh =>
 Jf (Px (Ke D) (he loc mh) (Fo (v:=.ref a) hg hm rfl hd) rfl) fun σ H Q ⟨ρ,b,mh',q,rl,rs,co⟩=>by
  have q:=Bu q;obtain ⟨y,m1,ea,q⟩:=Ae q;cases y with
  | str k=>cases q;exact ⟨ρ,_,_,ea,rl,rs,fun H1 ρ1 v e1 rs1 r1=>by cases r1;exact ⟨k,rfl,rfl,_,rfl,co H1 ρ1 e1 rs1⟩⟩
  | _=>cases q
theorem bZ (D:DicOk X.w X.K a kvs) (hg:Gl X x) (hm:X.mg x=some (.ref a)) (hd:(x==("__debug__":Str))=false) (he:DE X e me) (hs:Kw e):DE X (.Subscript (.Name x p) e pos) (Mh kvs me):=fun loc mh =>
 Bc (pN (uM D) (Fo (v:=.ref a) hg hm rfl hd) (he loc mh) hs) fun σ H Q ⟨ρ,d,mh',q,rl,rs,co⟩=>by
  obtain ⟨y,m1,ea,q⟩:=Ae q;cases y with
  | str k =>
   cases hl:kvs.lookup k with
   | some d' =>
    simp only [hl] at q;cases q;exact ⟨ρ,_,_,ea,rl,rs,fun H1 ρ1 v e1 rs1 r1=>by cases r1;exact ⟨k,d,rfl,rfl,hl,fun v' hv=>co H1 ρ1 _ e1 rs1 (hv H1 ρ1)⟩⟩
   | none =>
    simp only [hl] at q;cases q
  | _=>cases q
end
mutual
noncomputable def rdV (K:PySem.W.Frag):Nat->Value->Option D
 | _,.none=>some .non
 | _,.bool b=>some (.bl b)
 | _,.int i _=>some (.int i)
 | _,.str x _=>some (.str x)
 | n+1,.ref a=>match K.lookup a with
  | some ⟨.type c,none,.seq its _,_⟩=>if c == "tuple"&&decide (its.size<=1000) then (match Yq K n its.toList with | some ds=>some (.tup ds) | none=>none) else none
  | _=>none
 | _,_=>none
noncomputable def Yq (K:PySem.W.Frag):Nat->List Value->Option (List D)
 | _,[]=>some []
 | 0,_::_=>none
 | n+1,u::r=>match rdV K n u with
  | some d=>(match Yq K n r with | some ds=>some (d::ds) | none=>none)
  | none=>none
end
mutual
theorem Vl {K:PySem.W.Frag}:∀ (n:Nat) {u:Value}{d:D},rdV K n u=some d->∃ v,RelV v u/\∀ H ρ,RD K H ρ d v
 | n,.none,d,h=>by cases n <;> (simp only [rdV] at h;cases h;exact ⟨.non,rfl,fun _ _=>.non⟩)
 | n,.bool b,d,h=>by cases n <;> (simp only [rdV] at h;cases h;exact ⟨.bl b,rfl,fun _ _=>.bl b⟩)
 | n,.int i t,d,h=>by cases n <;> (simp only [rdV] at h;cases h;exact ⟨.int i,⟨t,rfl⟩,fun _ _=>.int i⟩)
 | n,.str x t,d,h=>by cases n <;> (simp only [rdV] at h;cases h;exact ⟨.str x,⟨t,rfl⟩,fun _ _=>.str x⟩)
 | 0,.ref a,d,h=>by simp only [rdV] at h;cases h
 | n+1,.ref a,d,h=>by
  simp only [rdV] at h;split at h
  ·rename_i c its ep sl hk;split at h
   ·rename_i hc;rw [Bool.and_eq_true,decide_eq_true_iff] at hc;split at h
    ·rename_i ds hd;cases h;obtain ⟨vs,h1,h2⟩:=W2 n hd;refine ⟨.ref a,rfl,fun H ρ=>.tup (.inr ⟨_,its,ep,hk,by rw [eq_of_beq hc.1],rfl,rfl,?_,h1⟩) (h2 H ρ)⟩;rw [sizeLine_eq];omega
    ·cases h
   ·cases h
  ·cases h
 | n,.float _ _,d,h=>by cases n <;> (simp only [rdV] at h;cases h)
 | n,.bytes _ _,d,h=>by cases n <;> (simp only [rdV] at h;cases h)
 | n,.ellipsis,d,h=>by cases n <;> (simp only [rdV] at h;cases h)
 | n,.notImplemented,d,h=>by cases n <;> (simp only [rdV] at h;cases h)
 | n,.type _,d,h=>by cases n <;> (simp only [rdV] at h;cases h)
 | n,.builtin _,d,h=>by cases n <;> (simp only [rdV] at h;cases h)
theorem W2 {K:PySem.W.Frag}:∀ (n:Nat) {us:List Value}{ds:List D},Yq K n us=some ds->∃ vs,Vals vs us/\∀ H ρ,RDs K H ρ ds vs
 | n,[],ds,h=>by cases n <;> (simp only [Yq] at h;cases h;exact ⟨[],.nil,fun _ _=>.nil⟩)
 | 0,_::_,ds,h=>by simp only [Yq] at h;cases h
 | n+1,u::r,ds,h=>by
  simp only [Yq] at h;split at h
  ·rename_i d hd;split at h
   ·rename_i ds' hr;cases h;obtain ⟨v,a1,a2⟩:=Vl n hd;obtain ⟨vs,b1,b2⟩:=W2 n hr;exact ⟨v::vs,.cons a1 b1,fun H ρ=>.cons (a2 H ρ) (b2 H ρ)⟩
   ·cases h
  ·cases h
end
noncomputable def rdE (K:PySem.W.Frag) (n:Nat):List DictEntry->Option (List (Str×D))
 | []=>some []
 | e::r=>match e.key with
  | .str k _=>(match rdV K n e.val with
   | some d=>(match rdE K n r with | some l=>some ((k,d)::l) | none=>none)
   | none=>none)
  | _=>none
noncomputable def Vm (w:World) (e:DictEntry):DictEntry:=match e.key with
 | .str k t=>{ hash:=hashStr w k,key:=.str k t,val:=e.val }
 | _=>e
theorem cA {w:World}{K:PySem.W.Frag}{n:Nat}:∀ {es:List DictEntry}{kvs:List (Str×D)},rdE K n es=some kvs->DEnts w K (es.map (Vm w)) kvs
 | [],_,h=>by cases h;exact .nil
 | e::r,kvs,h=>by
  obtain ⟨hs,key,val⟩:=e;cases key with
  | str k t =>
   simp only [rdE] at h;split at h
   ·rename_i d hd;split at h
    ·rename_i l hl;cases h;obtain ⟨v,a1,a2⟩:=Vl n hd;exact .cons a1 a2 (cA hl)
    ·cases h
   ·cases h
  | _=>simp only [rdE] at h;cases h
theorem uN {w:World}{K:PySem.W.Frag}{a:Addr}{es:Array DictEntry}{ep n:Nat}{kvs:List (Str×D)}(hn:(a==sysModules)=false) (hl:K.lookup a=some ⟨.type "dict",none,.dict es ep,#[]⟩) (hh:es.toList.map (Vm w)=es.toList) (hd:rdE K n es.toList=some kvs):DicOk w K a kvs :=
 ⟨hn,_,es,ep,hl,⟨rfl,rfl,rfl⟩,rfl,by rw [← hh];exact cA hd⟩
section
variable {X:Cx}{o:Expr}{mo:DM D}{c f:Str}{C:Addr}{pos apos:Pos}
variable {CX:CXT}{k:Nat}{fa:Addr}{fd:FuncData}{ps:List Str}{m:Str}{g:List D->MH->Option (D×MH)}{e:Expr}{es:List Expr}{mr:DM (List D)}{E:XK}
noncomputable def spI (C:Addr) (f:Str):Sp:=fun vs H Q _=>∃ x dx v,vs=[.ref x,v]/\H x=some (.ins C dx [])/\Q .non (upd H x (.ins C dx [(f,v)]))
end
noncomputable abbrev Fn:=List D->MH->Option (D×MH)
section
variable {X:Cx}{o:Expr}{mo:DM D}{f m:Str}{pos apos:Pos}
end
section
variable {X:Cx}
noncomputable def uO:List D->Option (Int×Int)
 | [.int i,.int j]=>some (i,j)
 | _=>none
theorem Yr {ds:List D}{z:Int×Int}(h:uO ds=some z):ds=[.int z.1,.int z.2]:=by
 match ds,h with
 | [d,e],h =>
  cases d with
  | int i =>
   cases e with
   | int j=>cases h;rfl
   | _=>cases h
  | _=>cases h
 | [],h=>cases h
 | [d],h=>cases d <;> cases h
 | d::e::_::_,h=>cases d <;> first | cases h | (cases e <;> cases h)
noncomputable def cB (f:Int->List Int->Int) (g:Fn):Fn:=fun ds mh=>match uO ds with
 | some z=>some (.int (f z.1 [z.2]),mh)
 | none=>g ds mh
theorem Vn {v:Value}{f:Int->List Int->Int}{g:Fn}(h2:Ba X v (fun xs H Q=>∃ i j,xs=[.int i,.int j]/\Q (.int (f i [j])) H)) (hg:Ba X v (rDs X.K g)):Ba X v (rDs X.K (cB f g)):=by
 rintro pins s σ H xs us Q I r ⟨ρ,mh,ds,d,mh',q,rs,rd,co⟩;unfold cB at q;cases e:uO ds with
 | none=>rw [e] at q;exact hg pins s σ H xs us Q I r ⟨ρ,mh,ds,d,mh',q,rs,rd,co⟩
 | some z =>
  rw [e] at q;cases q;rw [Yr e] at rd;obtain ⟨v1,v2,rfl,r1,r2⟩:=Abi rd;cases r1;cases r2;exact h2 pins s σ H _ us Q I r ⟨_,_,rfl,co H ρ _ Ev.refl rs (.int _)⟩
noncomputable def pW:Fn:=cB Sy minD
theorem Vo (hc:X.calm=true):Ba X (.builtin "min") (rDs X.K pW):=Vn (X5 hc) (Yo hc)
end
section
variable {X:Cx}{tg:Expr}
end
theorem Kf:fillsNumberSlot (.type "tuple") "mul"=pure false:=PySem.fillsNumberSlot_seq (id := "tuple.__mul__") (r:=some (.builtin "tuple.__rmul__")) PySem.F.slot_tuple_mul.lookup (by decide +kernel) PySem.F.slot_tuple_rmul.lookup (by decide +kernel)
theorem Kg:seqRepeat? (.type "tuple")=pure (some (.builtin "tuple.__mul__")):=by
 unfold seqRepeat?
 rw [PySem.seqSlot_of (T := "tuple") (name := "__mul__") (id := "tuple.__mul__") PySem.F.slot_tuple_mul.lookup (by decide +kernel),PySem.seqSlot_of (T := "tuple") (name := "__rmul__") (id := "tuple.__rmul__") PySem.F.slot_tuple_rmul.lookup (by decide +kernel)];rfl
theorem Oz (a:Int) (t:Tok) (l:Addr) (items:Array Value) (n:Nat) (dd:Option Addr) (sl:Array (Option Value)) :
  Meets (Builtin.«int.__rmul__» ⟨[.int a t,.ref l],[]⟩) (fun _ R s=>s.heap.get? l=some { cls:=.type "tuple",dict:=dd,data:=.seq items n,slots:=sl }/\R (.ok (.ret Value.notImplemented)) s) :=
 .of_wp fun prog w A R s h=>by obtain ⟨hp,g,d,tk,os⟩:=s;obtain ⟨hl,h⟩:=h;wp_walk;exact ⟨_,rfl,h⟩
theorem cC (l:Addr) (items:Array Value) (n:Nat) (dd:Option Addr) (sl:Array (Option Value)) (x:Int) (u:Tok) (hc0:¬(decide (x < -(2 ^ 63)) || decide (x ≥ 2 ^ 63))=true) (hc1:¬(items.isEmpty || x==1)=true) (hc2:¬(decide (x<=0) || items.isEmpty)=true) (hc3:¬((items.size:Int) * x > (2 ^ 63 - 1) / 8)) (hc5:¬(List.foldl (fun x1 x2=>x1++x2) #[] (List.replicate x.toNat items)).size > sizeLine) (hc4:¬PySem.Builtin.Tuple.tupleTooMany ((items.size:Int) * x)=true) :
  Meets (Builtin.«tuple.__mul__» ⟨[.ref l,.int x u],[]⟩) (fun _ R s=>s.heap.get? l=some { cls:=.type "tuple",dict:=dd,data:=.seq items n,slots:=sl }/\R (.ok (.ret (Value.ref s.heap.objs.size))) { s with heap:=s.heap.push { cls:=Value.type "tuple",data:=Data.seq (List.foldl (fun x1 x2=>x1++x2) #[] (List.replicate x.toNat items)) },toks:=s.toks }) :=
 .of_wp fun prog w A R s h=>by
  obtain ⟨hp,g,d,tk,os⟩:=s;obtain ⟨hl,h⟩:=h;have f1:=AutoSeq1.idx_int;wp_walk using wpAny_loadPart' hl
  simp only [hc0,Bool.false_eq_true,if_false];wp_walk using wpAny_loadPart' hl
  simp only [hc3,if_false];wp_walk using wpAny_loadPart' hl
  exact ⟨_,rfl,h⟩
theorem cD (l:Addr) (items:Array Value) (n:Nat) (dd:Option Addr) (sl:Array (Option Value)) (u:Tok) :
  Meets (Builtin.«tuple.__mul__» ⟨[.ref l,.int 1 u],[]⟩) (fun _ R s=>s.heap.get? l=some { cls:=.type "tuple",dict:=dd,data:=.seq items n,slots:=sl }/\R (.ok (.ret (Value.ref l))) s) :=
 .of_wp fun prog w A R s h=>by
  obtain ⟨hp,g,d,tk,os⟩:=s;obtain ⟨hl,h⟩:=h;have f1:=AutoSeq1.idx_int;have c1:(items.isEmpty || (1:Int)==1)=true:=by rw [Bool.or_eq_true];exact .inr rfl
  wp_walk using wpAny_loadPart' hl
  exact ⟨_,rfl,h⟩
section
variable {X:Cx}
theorem RDs.rep {K:PySem.W.Frag}{H:Hp}{ρ:List Addr}{ds:List D}{vs:List V}(h:RDs K H ρ ds vs):∀ k:Nat,RDs K H ρ (List.replicate k ds).flatten (List.replicate k vs).flatten
 | 0=>.nil
 | k+1=>by
  rw [List.replicate_succ,List.replicate_succ,List.flatten_cons,List.flatten_cons];exact h.append (RDs.rep h k)
theorem Ys:OpR X (binaryOp .Mult) (fun x y H Q=>∃ a k xs,x=.ref a/\y=.int k/\SqT X.K H a xs/\xs≠[]/\1 < k/\k<=1000/\xs.length<=1000/\∀ p,H p=none->Q (.ref p) (upd H p (.tup (List.replicate k.toNat xs).flatten))):=by
 rintro pins s σ H x y v u Q I rx ry ⟨a,k,xs,e1,e2,ha,hne,h1,h2,h3,q⟩;subst e1;subst e2;cases rx;obtain ⟨t,rfl⟩:=ry;obtain ⟨its,r1,p1,_⟩:=I.tuple ha;obtain ⟨⟨cls,dd,data,sl⟩,ho,hc,n,hd⟩:=id p1;simp only at hc hd;subst hc hd;have hl:its.length<=1000:=by rw [← r1.length];exact h3
 have hn:its.toArray.isEmpty=false:=by
  cases its with
  | nil=>exact absurd (r1.nil_iff.mp rfl) hne
  | cons b r=>rfl
 have hm:((its.toArray.size:Nat):Int) * k<=1000 * 1000:=by
  rw [List.size_toArray];exact Int.mul_le_mul (by omega) (by omega) (by omega) (by omega)
 have hf:List.foldl (fun x1 x2=>x1++x2) #[] (List.replicate k.toNat its.toArray)=(List.replicate k.toNat its).flatten.toArray:=by
  have:=foldl_rep its k.toNat [];rw [List.nil_append] at this;exact this
 have c0:¬(decide (k < -(2 ^ 63)) || decide (k ≥ 2 ^ 63))=true:=by
  rw [Bool.or_eq_true,decide_eq_true_iff,decide_eq_true_iff];omega
 have c1:¬(its.toArray.isEmpty || k==1)=true:=by
  rw [hn,Bool.false_or,beq_iff_eq];omega
 have c2:¬(decide (k<=0) || its.toArray.isEmpty)=true:=by
  rw [hn,Bool.or_false,decide_eq_true_iff];omega
 have c3:¬(((its.toArray.size:Nat):Int) * k > (2 ^ 63 - 1) / 8):=by omega
 have c4:¬PySem.Builtin.Tuple.tupleTooMany (((its.toArray.size:Nat):Int) * k)=true:=by
  have:(sizeLine:Nat)=16777216:=sizeLine_eq;unfold PySem.Builtin.Tuple.tupleTooMany;rw [decide_eq_true_iff];omega
 have c5:¬(List.foldl (fun x1 x2=>x1++x2) #[] (List.replicate k.toNat its.toArray)).size > sizeLine:=by
  rw [hf,List.size_toArray,len_rep,sizeLine_eq];have:k.toNat * its.length<=1000 * 1000:=Nat.mul_le_mul (by omega) hl;omega
 refine wpAny_binaryOp_repeat_ref (T := "tuple") (U := "int") (by decide) ⟨_,ho,rfl⟩ (fun s'=>PySem.typeIs_int s' k t) Kf PySem.F.fills_int_mul PySem.F.slot_int_rmul Kg PySem.F.slot_int_index.lookup
  (call_meets PySem.F.slot_int_rmul (PySem.typeIs_int s k t) PySem.F.entry_int_rmul (PySem.F.args_int_rmul_2 _ _) (Oz k t a its.toArray n dd sl)
   ⟨ho,rfl,⟨_,ho,rfl⟩,call_meets PySem.F.slot_tuple_mul ⟨_,ho,rfl⟩ PySem.F.entry_tuple_mul (PySem.F.args_tuple_mul_2 _ _) (cC a its.toArray n dd sl k t c0 c1 c2 c3 c5 c4) ⟨ho,?_⟩⟩)
 rw [hf];refine ⟨.ref s.heap.objs.size,_,I.laid (t':=s.toks) (o:=.tup (List.replicate k.toNat xs).flatten) (fun b ob q=>Heap.get?_push_of_some _ q) (Nat.le_refl _) ?_,rfl,q _ (I.hok.fresh (Nat.le_refl _))⟩;refine ⟨?_,_,r1.rep k.toNat,Nv.new _ _⟩;rw [len_rep,sizeLine_eq];have:k.toNat * xs.length<=1000 * 1000:=Nat.mul_le_mul (by omega) h3;omega
theorem Yt:OpR X (binaryOp .Mult) (fun x y H Q=>∃ a xs,x=.ref a/\y=.int 1/\SqT X.K H a xs/\Q (.ref a) H):=by
 rintro pins s σ H x y v u Q I rx ry ⟨a,xs,e1,e2,ha,q⟩;subst e1;subst e2;cases rx;obtain ⟨t,rfl⟩:=ry;obtain ⟨its,r1,p1,_⟩:=I.tuple ha;obtain ⟨⟨cls,dd,data,sl⟩,ho,hc,n,hd⟩:=id p1;simp only at hc hd;subst hc hd
 exact wpAny_binaryOp_repeat_ref (T := "tuple") (U := "int") (by decide) ⟨_,ho,rfl⟩ (fun s'=>PySem.typeIs_int s' 1 t) Kf PySem.F.fills_int_mul PySem.F.slot_int_rmul Kg PySem.F.slot_int_index.lookup
  (call_meets PySem.F.slot_int_rmul (PySem.typeIs_int s 1 t) PySem.F.entry_int_rmul (PySem.F.args_int_rmul_2 _ _) (Oz 1 t a its.toArray n dd sl)
   ⟨ho,rfl,⟨_,ho,rfl⟩,call_meets PySem.F.slot_tuple_mul ⟨_,ho,rfl⟩ PySem.F.entry_tuple_mul (PySem.F.args_tuple_mul_2 _ _) (cD a its.toArray n dd sl t) ⟨ho,⟨.ref a,H,I,rfl,q⟩⟩⟩)
noncomputable def uP:D->D->Option (List D×Int)
 | .tup ds,.int k=>some (ds,k)
 | _,_=>none
theorem Yu {x y:D}{z:List D×Int}(h:uP x y=some z):x=.tup z.1/\y=.int z.2:=by
 cases x with
 | tup ds =>
  cases y with
  | int k=>cases h;exact ⟨rfl,rfl⟩
  | _=>cases h
 | _=>cases h
noncomputable def W3 (g:D->D->MH->Option (D×MH)):D->D->MH->Option (D×MH):=fun x y mh=>match uP x y with
 | some z=>if z.2=1 then some (.tup z.1,mh) else if (z.1.isEmpty=false/\z.1.length<=1000)/\(1 < z.2/\z.2<=1000) then some (.tup (List.replicate z.2.toNat z.1).flatten,mh) else none
 | none=>g x y mh
theorem cF {g:D->D->MH->Option (D×MH)}(h:OpR X (binaryOp .Mult) (rD X.K g)):OpR X (binaryOp .Mult) (rD X.K (W3 g)):=by
 rintro pins s σ H x y v u Q I rx ry ⟨ρ,mh,dx,dy,d,mh',q,rs,r1,r2,co⟩;unfold W3 at q;cases e:uP dx dy with
 | none=>rw [e] at q;exact h pins s σ H x y v u Q I rx ry ⟨ρ,mh,dx,dy,d,mh',q,rs,r1,r2,co⟩
 | some z =>
  rw [e] at q;obtain ⟨ds,k⟩:=z;obtain ⟨rfl,rfl⟩:=Yu e;have q:(if k=1 then some (D.tup ds,mh) else if (ds.isEmpty=false/\ds.length<=1000)/\(1 < k/\k<=1000) then some (D.tup (List.replicate k.toNat ds).flatten,mh) else none)=some (d,mh'):=q
  by_cases h1:k=1
  ·subst h1;rw [if_pos rfl] at q;cases q;cases r2;cases r1 with
   | tup s1 rr=>exact Yt pins s σ H _ _ v u Q I rx ry ⟨_,_,rfl,rfl,s1,co H ρ _ Ev.refl rs (.tup s1 rr)⟩
  rw [if_neg h1] at q
  by_cases hz:(ds.isEmpty=false/\ds.length<=1000)/\(1 < k/\k<=1000)
  ·have q:(if (ds.isEmpty=false/\ds.length<=1000)/\(1 < k/\k<=1000) then some (D.tup (List.replicate k.toNat ds).flatten,mh) else none)=some (d,mh'):=q;rw [if_pos hz] at q;cases q;cases r2;cases r1 with
   | tup s1 rr=>exact Ys pins s σ H _ _ v u Q I rx ry ⟨_,_,_,rfl,rfl,s1,fun z=>by
     subst z;cases rr
     exact absurd hz.1.1 (by simp),hz.2.1,hz.2.2,by rw [← rr.length];exact hz.1.2,Co.newT rs (rr.rep _) co⟩
  ·have q:(if (ds.isEmpty=false/\ds.length<=1000)/\(1 < k/\k<=1000) then some (D.tup (List.replicate k.toNat ds).flatten,mh) else none)=some (d,mh'):=q;rw [if_neg hz] at q;cases q
end
section
variable {X:Cx}
noncomputable def pX:D->MH->Option (List D)
 | .ref n,mh=>match mh[n]? with | some (.lst ds)=>some ds | _=>none
 | _,_=>none
theorem Vp {x:D}{mh:MH}{ds:List D}(h:pX x mh=some ds):∃ n,x=.ref n/\mh[n]?=some (.lst ds):=by
 cases x with
 | ref n =>
  have h:(match mh[n]? with | some (.lst ds)=>some ds | _=>none)=some ds:=h;cases e:mh[n]? with
  | none=>rw [e] at h;cases h
  | some o =>
   cases o with
   | lst es=>rw [e] at h;cases h;exact ⟨n,rfl,e⟩
   | dct kvs=>rw [e] at h;cases h
   | plc=>rw [e] at h;cases h
 | _=>cases h
noncomputable def intD:Fn:=fun ds mh=>match ds with
 | [x]=>(match x with
  | .int i=>some (.int i,mh)
  | .bl b=>some (.int (if b then 1 else 0),mh)
  | _=>none)
 | _=>none
theorem Yv:Ba X (.type "int") (rDs X.K intD):=by
 rintro pins s σ H xs us Q I r ⟨ρ,mh,ds,d,mh',q,rs,rd,co⟩
 match ds,q with
 | [x],q =>
  obtain ⟨v,rfl,rx⟩:=Hr rd;cases x with
  | int i=>cases q;cases rx;exact Og pins s σ H _ us Q I r (.inl ⟨i,rfl,co H ρ _ Ev.refl rs (.int _)⟩)
  | bl b=>cases q;cases rx;exact Og pins s σ H _ us Q I r (.inr ⟨b,rfl,co H ρ _ Ev.refl rs (.int _)⟩)
  | _=>cases q
 | [],q=>cases q
 | _::_::_,q=>cases q
end
section
variable {K:PySem.W.Frag}{H H':Hp}{ρ ρ':List Addr}
end
noncomputable def O1 (x:D) (mh:MH):Option (List (Key×D)):=match x with
 | .ref n=>(match mh[n]? with | some (.dct kvs)=>some kvs | _=>none)
 | _=>none
theorem Vq {x:D}{mh:MH}{kvs:List (Key×D)}(h:O1 x mh=some kvs):∃ n,x=.ref n/\mh[n]?=some (.dct kvs):=by
 cases x with
 | ref n =>
  have h:(match mh[n]? with | some (.dct kvs)=>some kvs | _=>none)=some kvs:=h;split at h
  ·rename_i e;cases h;exact ⟨n,rfl,e⟩
  ·cases h
 | _=>cases h
theorem O2 {n:Nat}{mh:MH}{ds:List D}(h:mh[n]?=some (.lst ds)):O1 (.ref n) mh=none:=by
 show (match mh[n]? with | some (.dct kvs)=>some kvs | _=>none)=none;rw [h]
noncomputable def inD (neg:Bool) (x c:D) (mh:MH):Option (D×MH):=match O1 c mh with
 | none=>Ye neg x c mh
 | some _=>none
noncomputable def ixD (x y:D) (mh:MH):Option (D×MH):=match O1 x mh with
 | none=>lJ x y mh
 | some _=>none
section
variable {X:Cx}
theorem uQ (hu:X.A.units+64 < cLine):OpR X (compareOp .In) (rD X.K (inD false)):=by
 rintro pins s σ H x y v u Q I rx ry ⟨ρ,mh,dx,dy,d,mh',q,rs,r1,r2,co⟩;unfold inD at q;split at q
 ·exact lE hu pins s σ H x y v u Q I rx ry ⟨ρ,mh,dx,dy,d,mh',q,rs,r1,r2,co⟩
 ·cases q
theorem Abk:IxR X (rD X.K ixD):=by
 rintro value slice pins s σ H x y v u Q I rx ry ⟨ρ,mh,dx,dy,d,mh',q,rs,r1,r2,co⟩ hs;unfold ixD at q;split at q
 ·exact zE value slice pins s σ H x y v u Q I rx ry ⟨ρ,mh,dx,dy,d,mh',q,rs,r1,r2,co⟩ hs
 ·cases q
noncomputable def Abl:Const->Option Str
 | .str x=>some x
 | _=>none
noncomputable def Abm:Expr->Option Str
 | .Constant c _ _=>Abl c
 | _=>none
noncomputable def Abn:Option Expr->Option Str
 | some e=>Abm e
 | none=>none
noncomputable def pY:List (Option Expr)->List Expr->Bool
 | [],[]=>true
 | k::ks,_::vs=>(Abn k).isSome&&pY ks vs
 | _,_=>false
end
section
variable {X:Cx}{a:Addr}{kvs:List (Str×D)}
variable {e:Expr}{es:List Expr}{x:Str}{p apos cpos:Pos}
end
section
variable {X:Cx}{pos pos':Pos}
end
section
variable {X:Cx}
end
section
variable {X:Cx}
noncomputable def W4 (g:D->D->MH->Option (D×MH)):D->D->MH->Option (D×MH):=fun x y mh=>match pX x mh with
 | some ds=>(match y with
  | .int k=>if (-(2 ^ 62)<=k/\k < 2 ^ 62)/\ds.length * k.toNat<=1000000 then some (.ref mh.length,mh++[.lst (List.replicate k.toNat ds).flatten]) else none
  | _=>none)
 | none=>g x y mh
theorem cG {g:D->D->MH->Option (D×MH)}(h:OpR X (binaryOp .Mult) (rD X.K g)):OpR X (binaryOp .Mult) (rD X.K (W4 g)):=by
 rintro pins s σ H x y v u Q I rx ry ⟨ρ,mh,dx,dy,d,mh',q,rs,r1,r2,co⟩;unfold W4 at q;split at q
 ·rename_i ds e;obtain ⟨n,rfl,en⟩:=Vp e;split at q
  ·rename_i k;split at q
   ·rename_i hk;cases q;cases r2;cases r1 with
    | @ref _ a ha =>
     obtain ⟨a',ha',xs,hl,rr⟩:=rs.at en;rw [ha] at ha';cases ha';refine sV pins s σ H _ _ v u Q I rx ry ⟨a,k,xs,rfl,rfl,hl,by omega,by omega,by rw [← rr.length,sizeLine_eq];omega,Co.newL rs (rr.rep _) co⟩
   ·cases q
  ·cases q
 ·exact h pins s σ H x y v u Q I rx ry ⟨ρ,mh,dx,dy,d,mh',q,rs,r1,r2,co⟩
end
noncomputable def orD (f g:D->D->MH->Option (D×MH)):D->D->MH->Option (D×MH):=fun x y mh=>match f x y mh with
 | some r=>some r
 | none=>g x y mh
noncomputable def strOf:D->Option Str
 | .str x=>some x
 | _=>none
theorem Aw {d:D}{x:Str}(h:strOf d=some x):d=.str x:=by
 cases d <;> first | (cases h;rfl) | cases h
section
variable {X:Cx}{K:PySem.W.Frag}{H:Hp}{ρ:List Addr}
theorem Ce {x:Str}{v:V}(h:RD K H ρ (.str x) v):v=.str x:=by cases h;rfl
theorem Vr {i:Int}{v:V}(h:RD K H ρ (.int i) v):v=.int i:=by cases h;rfl
theorem or_some {f g:D->D->MH->Option (D×MH)}{x y:D}{mh:MH}{r:D×MH}(h:orD f g x y mh=some r):f x y mh=some r\/g x y mh=some r:=by
 unfold orD at h;split at h
 ·rename_i e;cases h;exact .inl e
 ·exact .inr h
theorem cH {op:Value->Value->Sem Value}{f g:D->D->MH->Option (D×MH)}(hf:OpR X op (rD X.K f)) (hg:OpR X op (rD X.K g)):OpR X op (rD X.K (orD f g)):=by
 rintro pins s σ H x y v u Q I rx ry ⟨ρ,mh,dx,dy,d,mh',q,rest⟩;rcases or_some q with q|q
 ·exact hf pins s σ H x y v u Q I rx ry ⟨ρ,mh,dx,dy,d,mh',q,rest⟩
 ·exact hg pins s σ H x y v u Q I rx ry ⟨ρ,mh,dx,dy,d,mh',q,rest⟩
noncomputable def Yw:D->Option Int
 | .int i=>some i
 | _=>none
theorem Jj {d:D}{x:Int}(h:Yw d=some x):d=.int x:=by
 cases d <;> first | (cases h;rfl) | cases h
noncomputable def Abo (a:Str) (n:Nat):Str:=⟨(List.replicate n a.cps).foldl (·++·) #[]⟩
theorem mG (a:Array Nat) (n:Nat):∀ acc:Array Nat,((List.replicate n a).foldl (·++·) acc).size=acc.size+a.size * n:=by
 induction n with
 | zero=>intro acc;simp
 | succ n ih =>
  intro acc;rw [List.replicate_succ,List.foldl_cons,ih,Array.size_append,Nat.mul_succ];omega
noncomputable def mH (x y:D) (mh:MH):Option (D×MH):=match strOf x,Yw y with
 | some a,some n=>if (2<=n/\n<=1000)/\1<=a.length/\a.length<=1000 then some (.str (Abo a n.toNat),mh) else none
 | _,_=>none
theorem mJ:OpR X (binaryOp .Mult) (rD X.K mH):=by
 rintro pins s σ H x y v u Q I rx ry ⟨ρ,mh,dx,dy,d,mh',q,rs,r1,r2,co⟩;unfold mH at q;split at q
 ·rename_i a n ea eb;split at q
  ·rename_i hz;cases q;cases Aw ea;cases Jj eb;cases Ce r1;cases Vr r2;obtain ⟨t,rfl⟩:=rx;obtain ⟨t2,rfl⟩:=ry;have h1:¬ n < 1:=by omega
   have hm:a.length * n.toNat<=1000 * 1000:=Nat.mul_le_mul hz.2.2 (by omega);have h2:(n==1 || a.length==0)=false:=by
    have e1:(n==1)=false:=beq_false_of_ne (by omega);have e2:(a.length==0)=false:=beq_false_of_ne (by omega);rw [e1,e2];rfl
   have hfit:Builtin.Str.tooLong (a.length * n.toNat)=false:=by
    unfold Builtin.Str.tooLong;exact decide_eq_false (by unfold sizeLine;omega)
   have e3:(decide (n < -(2 ^ 63:Int)) || decide (n ≥ 2 ^ 63))=false:=by
    rw [decide_eq_false (by omega),decide_eq_false (by omega)];rfl
   refine P.mul_str e3 (fun _ _=>?_) (fun _ _=>hfit) ?_
   ·have hl:(a.length:Int)<=1000:=by omega
    have:(1000:Int)<=(2 ^ 63 - 1) / n:=by
     refine (Int.le_ediv_iff_mul_le (by omega)).mpr ?_;omega
    omega
   ·rw [if_neg h1,if_neg (by rw [h2];decide)];refine ⟨?_,⟨.str _,H,I.tok _,⟨_,rfl⟩,co H ρ _ Ev.refl rs (.str _)⟩⟩;show ((List.replicate n.toNat a.cps).foldl (·++·) #[]).size<=sizeLine;rw [mG];have:a.cps.size * n.toNat<=1000 * 1000:=hm;simp only [List.size_toArray,List.length_nil];unfold sizeLine;omega
  ·cases q
 ·cases q
noncomputable def inS (neg:Bool) (x y:D) (mh:MH):Option (D×MH):=match strOf x,strOf y with
 | some a,some b=>some (.bl (if neg then !(Txt.contains b a) else Txt.contains b a),mh)
 | _,_=>none
theorem uR:OpR X (compareOp .In) (rD X.K (inS false)):=by
 rintro pins s σ H x y v u Q I rx ry ⟨ρ,mh,dx,dy,d,mh',q,rs,r1,r2,co⟩;unfold inS at q;split at q
 ·rename_i a b ea eb;cases q;cases Aw ea;cases Aw eb;cases Ce r1;cases Ce r2;obtain ⟨t,rfl⟩:=rx;obtain ⟨t2,rfl⟩:=ry;exact PyProof.Rows.in_str ⟨.bl _,H,I,rfl,co H ρ _ Ev.refl rs (.bl _)⟩
 ·cases q
end
section
variable {X:Cx}{K:PySem.W.Frag}{H:Hp}{ρ:List Addr}
noncomputable def Jk (a:Str) (lo hi:Option Int):Str:=if ((Builtin.Str.strSliceIndices lo hi 1 a.length).length==a.length)=true then a else ⟨((Builtin.Str.strSliceIndices lo hi 1 a.length).filterMap (a.cps[·]?)).toArray⟩
noncomputable def slS (x:D) (lo hi:Option Int) (mh:MH):Option (D×MH):=match strOf x with
 | some a=>if a.length<=1000000/\(Jk a lo hi).length<=1000000 then some (.str (Jk a lo hi),mh) else none
 | none=>slD x lo hi mh
theorem part_of {v:Value}{o:Option Int}(h:IsPart v o):∃ p:Option (Int×Tok),v=partValue p/\o=p.map (·.1):=by
 cases h with
 | none=>exact ⟨none,rfl,rfl⟩
 | int i t=>exact ⟨some (i,t),rfl,rfl⟩
theorem Abp:SlR X (fun x lo hi H Q=>∃ ρ mh dx d mh',slS dx lo hi mh=some (d,mh')/\RS X.K H ρ mh/\RD X.K H ρ dx x/\Co X.K H ρ mh' d Q):=by
 rintro pins s σ H x v vl vu lo hi sl Q I rx hs pl pu ⟨ρ,mh,dx,d,mh',q,rs,rd,co⟩;unfold slS at q;split at q
 ·rename_i a ea;split at q
  ·rename_i hz;cases q;cases Aw ea;cases Ce rd;obtain ⟨t,rfl⟩:=rx;obtain ⟨l,rfl,rfl⟩:=part_of pl;obtain ⟨u,rfl,rfl⟩:=part_of pu
   refine ⟨"str",_,PySem.F.slot_str_getitem.lookup,PySem.typeIs_str s a t,?_⟩;refine getItem_slot (PySem.typeIs_str s a t) (by decide) PySem.F.slot_str_getitem (call_meets PySem.F.slot_str_getitem (PySem.typeIs_str s a t) PySem.F.entry_str_getitem (PySem.F.args_str_getitem_2 _ _) (meets_str_getitem_slice a t sl l u none rfl) ⟨hs,?_⟩);unfold Jk at co hz;unfold sliceMade slicePicked
   by_cases hc:((Builtin.Str.strSliceIndices (l.map (·.1)) (u.map (·.1)) 1 a.length).length==a.length)=true
   ·rw [if_pos hc] at co;rw [if_pos (by show ((1:Int)==1&&_)=true;rw [Bool.and_eq_true];exact ⟨rfl,hc⟩)];exact ⟨.str _,H,I,⟨_,rfl⟩,co H ρ _ Ev.refl rs (.str _)⟩
   ·rw [if_neg hc] at co hz;rw [if_neg (by show ¬ ((1:Int)==1&&_)=true;rw [Bool.and_eq_true];exact fun z=>hc z.2)];exact ⟨Nat.le_trans hz.2 (by decide),⟨.str _,H,I.tok _,⟨_,rfl⟩,co H ρ _ Ev.refl rs (.str _)⟩⟩
  ·cases q
 ·exact Abh pins s σ H x v vl vu lo hi sl Q I rx hs pl pu ⟨ρ,mh,dx,d,mh',q,rs,rd,co⟩
noncomputable def Jm (ma:DM D) (ml mu:Option (DM D)):DM D:=ma.bnd fun x=>(Ie ml).bnd fun l=>(Ie mu).bnd fun u=>Zl (slS x l u)
theorem Yx {a:Expr}{ma:DM D}{lo hi:Option Expr}{ml mu:Option (DM D)}{p2 pos:Pos}(ha:DE X a ma) (hl:bA X lo ml) (hu:bA X hi mu):DE X (.Subscript a (.Slice lo hi none p2) pos) (Jm ma ml mu):=fun loc mh=>by
 cases ea:ma loc mh with
 | none =>
  have:Jm ma ml mu loc mh=none:=by unfold Jm DM.bnd;rw [ea]
  rw [this];exact Dl
 | some p =>
  obtain ⟨x,m1⟩:=p;cases el:Ie ml loc m1 with
  | none =>
   have:Jm ma ml mu loc mh=none:=by unfold Jm;unfold DM.bnd;rw [ea];dsimp only;rw [el]
   rw [this];exact Dl
  | some p2 =>
   obtain ⟨l,m2⟩:=p2;refine Bc (aL Abp (ha loc mh) (zF hl loc m1) (zF hu loc m2)) ?_;rintro σ H Q ⟨ρ,d,mh',q,rl,rs,co⟩;obtain ⟨x',m1',ea',q⟩:=Ae q;rw [ea] at ea';cases ea';obtain ⟨l',m2',el',q⟩:=Ae q;rw [el] at el';cases el';obtain ⟨u,m3,eu,q⟩:=Ae q
   exact ⟨ρ,x,m1,ea,rl,rs,fun H1 ρ1 v e1 rs1 r1=>⟨ρ1,l,m2,el,rl.mono e1,rs1,fun H2 ρ2 e2 rs2=>⟨ρ2,u,m3,eu,(rl.mono e1).mono e2,rs2,fun H3 ρ3 e3 rs3 =>
    ⟨ρ3,m3,x,d,mh',q,rs3,(r1.mono e2).mono e3,co.ev (e1.trans (e2.trans e3))⟩⟩⟩⟩
noncomputable def uT (f:Str->Str->Str):D->List D->MH->Option (D×MH)
 | x,[y],mh=>match strOf x,strOf y with
  | some a,some b=>if a.length<=sizeLine then some (.str (f a b),mh) else none
  | _,_=>none
 | _,_,_=>none
theorem W5 {id:String}{f:Str->Str->Str}(h:∀ {A:Around}{E:Value->Shared->Prop}{s:Shared}{x y:Str}{t u:Tok}{Q:Value->Shared->Prop},x.length<=sizeLine->(∀ t' k,Q (.str (f x y) t') { s with toks:=k })->wpAny (model X.prog X.w) A (call (.builtin id) [.str x t,.str y u]) Q E s):MtR X id (rDM X.K (uT f)):=by
 rintro pins s σ H x xs v us Q I rx rv ⟨ρ,mh,dx,ds,d,mh',q,rs,r1,r2,co⟩
 match ds,q with
 | [y],q =>
  have q:(match strOf dx,strOf y with | some a,some b=>if a.length<=sizeLine then some (D.str (f a b),mh) else none | _,_=>none)=some (d,mh'):=q;split at q
  ·rename_i a b ea eb;split at q
   ·rename_i hz;cases q;cases Aw ea;cases Aw eb;cases Ce r1;obtain ⟨w',rfl,rw'⟩:=Hr r2;cases Ce rw';obtain ⟨t,rfl⟩:=rx;obtain ⟨u,rfl,t2,rfl⟩:=Vals.one rv;exact h hz fun t' k=>⟨.str _,H,I.tok _,⟨_,rfl⟩,co H ρ _ Ev.refl rs (.str _)⟩
   ·cases q
  ·cases q
 | [],q=>cases q
 | _::_::_,q=>cases q
noncomputable def Io:=uT Txt.lstripChars
noncomputable def Ip:=uT Txt.rstripChars
theorem Vs:MtR X "str.lstrip" (rDM X.K Io):=W5 fun hz h=>SC.lstripChars h hz
theorem Vt:MtR X "str.rstrip" (rDM X.K Ip):=W5 fun hz h=>SC.rstripChars h hz
theorem O3:∀ l:List (Str×Tok),Vals ((l.map (·.1)).map V.str) (strValues l)
 | []=>.nil
 | p::r=>.cons ⟨p.2,rfl⟩ (O3 r)
theorem Tf:∀ ss:List Str,RDs K H ρ (ss.map D.str) (ss.map V.str)
 | []=>.nil
 | a::r=>.cons (.str a) (Tf r)
noncomputable def Gi:D->List D->MH->Option (D×MH)
 | x,[y],mh=>match strOf x,strOf y with
  | some a,some b=>if (1<=b.length/\a.length<=sizeLine)/\((Builtin.Str.partsBetween a (Builtin.Str.occurrences a b 0 a.length (a.length+1)) b.length).length<=sizeLine/\(Txt.split a b).length<=sizeLine) then some (.ref mh.length,mh++[.lst ((Txt.split a b).map D.str)]) else none
  | _,_=>none
 | _,_,_=>none
theorem Yy:MtR X "str.split" (rDM X.K Gi):=by
 rintro pins s σ H x xs v us Q I rx rv ⟨ρ,mh,dx,ds,d,mh',q,rs,r1,r2,co⟩
 match ds,q with
 | [y],q =>
  have q:(match strOf dx,strOf y with | some a,some b=>if (1<=b.length/\a.length<=sizeLine)/\((Builtin.Str.partsBetween a (Builtin.Str.occurrences a b 0 a.length (a.length+1)) b.length).length<=sizeLine/\(Txt.split a b).length<=sizeLine) then some (D.ref mh.length,mh++[.lst ((Txt.split a b).map D.str)]) else none | _,_=>none)=some (d,mh'):=q;split at q
  ·rename_i a b ea eb;split at q
   ·rename_i hz;cases q;cases Aw ea;cases Aw eb;cases Ce r1;obtain ⟨w',rfl,rw'⟩:=Hr r2;cases Ce rw';obtain ⟨t,rfl⟩:=rx;obtain ⟨u,rfl,t2,rfl⟩:=Vals.one rv
    have fin:∀ (l:List (Str×Tok)) (k:Nat),l.map (·.1)=Txt.split a b->EP X pins σ Q (.ref s.heap.objs.size) { s with heap:=s.heap.push { cls:=.type "list",data:=.seq (strValues l).toArray },toks:=k }:=fun l k el=>by
     refine ⟨.ref _,_,I.laid (t':=k) (o:=.lst ((Txt.split a b).map V.str)) (fun b ob q=>Heap.get?_push_of_some _ q) (Nat.le_refl _) ⟨?_,_,0,?_,Heap.get?_push_size _ rfl⟩,rfl,Co.newL rs (Tf _) co _ (I.hok.fresh (Nat.le_refl _))⟩
     ·rw [List.length_map];exact hz.2.2
     ·rw [← el];exact O3 l
    have hy:(b.length==0)=false:=beq_false_of_ne (by omega);cases h1:(decide (a.length < b.length) || decide (Builtin.Str.strKind a < Builtin.Str.strKind b))
    ·cases hf:(Builtin.Str.occurrences a b 0 a.length (a.length+1)).isEmpty
     ·refine call_meets PySem.F.slot_str_split (typeIs_str _ _ _) PySem.F.entry_str_split (PySem.F.args_str_split_2 _ _) (meets_str_split_sep a b t t2 h1 hy hf hz.1.2 hz.2.1) ?_
      show wants _ _ _ { s with toks:=_,heap:=s.heap.push { cls:=.type "list",data:=.seq (strsFrom s.toks (Builtin.Str.partsBetween a (Builtin.Str.occurrences a b 0 a.length (a.length+1)) b.length)).toArray } };rw [strsFrom_eq];exact fin _ _ ((numbered_texts _ _).trans ((if_neg (ne_true_of_eq_false h1)).trans (if_neg (ne_true_of_eq_false hf))).symm)
     ·exact call_meets PySem.F.slot_str_split (typeIs_str _ _ _) PySem.F.entry_str_split (PySem.F.args_str_split_2 _ _) (meets_str_split_not_found a b t t2 h1 hy hf) (fin [(a,t)] s.toks ((if_neg (ne_true_of_eq_false h1)).trans (if_pos hf)).symm)
    ·exact call_meets PySem.F.slot_str_split (typeIs_str _ _ _) PySem.F.entry_str_split (PySem.F.args_str_split_2 _ _) (meets_str_split_cannot_occur a b t t2 h1) (fin [(a,t)] s.toks (if_pos h1).symm)
   ·cases q
  ·cases q
 | [],q=>cases q
 | _::_::_,q=>cases q
noncomputable def strsOf:List D->Option (List Str)
 | []=>some []
 | d::r=>match strOf d,strsOf r with
  | some a,some l=>some (a::l)
  | _,_=>none
theorem Kh:∀ {ds:List D}{ss:List Str},strsOf ds=some ss->ds=ss.map D.str
 | [],_,h=>by cases h;rfl
 | d::r,ss,h=>by
  unfold strsOf at h;split at h
  ·rename_i a l ea el;cases h;rw [Aw ea,Kh el];rfl
  ·cases h
theorem Mi:∀ ss:List Str,strsOf (ss.map D.str)=some ss
 | []=>rfl
 | a::r=>by
  show (match strOf (.str a),strsOf (r.map D.str) with | some a,some l=>some (a::l) | _,_=>none)=_;rw [Mi r];rfl
theorem Kl:∀ {ss:List Str}{vs:List V},RDs K H ρ (ss.map D.str) vs->vs=ss.map V.str
 | [],_,.nil=>rfl
 | a::r,_,.cons h t=>by rw [Ce h,Kl t];rfl
theorem Ir:∀ {ss:List Str}{us:List Value},Vals (ss.map V.str) us->∃ l:List (Str×Tok),us=strValues l/\l.map (·.1)=ss
 | [],_,.nil=>⟨[],rfl,rfl⟩
 | a::r,_,.cons ⟨t,e⟩ h=>by
  obtain ⟨l,e1,e2⟩:=Ir h;exact ⟨(a,t)::l,by rw [e,e1];rfl,by rw [← e2];rfl⟩
noncomputable def cI:D->MH->Option (List D)
 | .ref n,mh=>match mh[n]? with | some (.lst o)=>some o | _=>none
 | _,_=>none
theorem mK {mh:MH}{y:D}{v:V}{ds:List D}(rs:RS K H ρ mh) (r:RD K H ρ y v) (h:cI y mh=some ds):∃ p xs,v=.ref p/\SqL K H p xs/\RDs K H ρ ds xs:=by
 cases r with
 | @ref n a ha =>
  have h:(match mh[n]? with | some (.lst o)=>some o | _=>none)=some ds:=h;split at h
  ·rename_i o eo;cases h;obtain ⟨a',ha',ro⟩:=rs.at eo;rw [ha] at ha';cases ha';obtain ⟨ys,sq,r⟩:=ro.read;exact ⟨a,ys,rfl,sq,r⟩
  ·cases h
 | _=>cases h
noncomputable def Ti:D->List D->MH->Option (D×MH)
 | x,[y],mh=>match strOf x,cI y mh with
  | some a,some ds=>(match strsOf ds with | some ss=>if JoinOk a ss=true then some (.str (Txt.join a ss),mh) else none | none=>none)
  | _,_=>none
 | _,_,_=>none
theorem cJ:MtR X "str.join" (rDM X.K Ti):=by
 rintro pins s σ H x xs v us Q I rx rv ⟨ρ,mh,dx,ds,d,mh',q,rs,r1,r2,co⟩
 match ds,q with
 | [y],q =>
  have q:(match strOf dx,cI y mh with | some a,some ds=>(match strsOf ds with | some ss=>if JoinOk a ss=true then some (D.str (Txt.join a ss),mh) else none | none=>none) | _,_=>none)=some (d,mh'):=q;split at q
  ·rename_i a o ea eo;split at q
   ·rename_i ss es;split at q
    ·rename_i hz;cases q;cases Aw ea;cases Kh es;cases Ce r1;obtain ⟨w',rfl,rw'⟩:=Hr r2;obtain ⟨p,ys,rfl,sq,r⟩:=mK rs rw' eo;obtain ⟨t,rfl⟩:=rx;obtain ⟨u,rfl,hu⟩:=Vals.one rv;cases hu;cases Kl r;obtain ⟨its,rl,ht,_⟩:=I.list sq;obtain ⟨l,rfl,e2⟩:=Ir rl;exact SC.join ht.isList e2 hz fun t' k=>⟨.str _,H,I.tok _,⟨_,rfl⟩,co H ρ _ Ev.refl rs (.str _)⟩
    ·cases q
   ·cases q
  ·cases q
 | [],q=>cases q
 | _::_::_,q=>cases q
noncomputable def Tj:List D->MH->Option (D×MH)
 | [x],mh=>match strOf x with
  | some a=>some (.str a,mh)
  | none=>match Yw x with
   | some i=>if i.natAbs.log2 < 1920 then some (.str (Str.ofString (toString i)),mh) else none
   | none=>none
 | _,_=>none
theorem Yz:Ba X (.type "str") (rDs X.K Tj):=by
 rintro pins s σ H xs us Q I rv ⟨ρ,mh,ds,d,mh',q,rs,r,co⟩
 match ds,q with
 | [x],q =>
  have q:(match strOf x with | some a=>some (D.str a,mh) | none=>match Yw x with | some i=>if i.natAbs.log2 < 1920 then some (D.str (Str.ofString (toString i)),mh) else none | none=>none)=some (d,mh'):=q;obtain ⟨w',rfl,rw'⟩:=Hr r;obtain ⟨u,rfl,hu⟩:=Vals.one rv;split at q
  ·rename_i a ea;cases q;cases Aw ea;cases Ce rw';obtain ⟨t,rfl⟩:=hu;exact P.str_of_str ⟨.str _,H,I,⟨_,rfl⟩,co H ρ _ Ev.refl rs (.str _)⟩
  ·split at q
   ·rename_i i ei;split at q
    ·rename_i hz;cases q;cases Jj ei;cases Vr rw';obtain ⟨t,rfl⟩:=hu;exact P.str_of_int hz ⟨.str _,H,I.tok _,⟨_,rfl⟩,co H ρ _ Ev.refl rs (.str _)⟩
    ·cases q
   ·cases q
 | [],q=>cases q
 | _::_::_,q=>cases q
noncomputable def Y0:List D->MH->Option (D×MH)
 | [x],mh=>match strOf x with
  | some a=>(match PySem.intText? a with | some n=>if a.length<=640 then some (.int n,mh) else none | none=>none)
  | none=>none
 | _,_=>none
noncomputable def orF (f g:List D->MH->Option (D×MH)):List D->MH->Option (D×MH):=fun ds mh=>match f ds mh with
 | some r=>some r
 | none=>g ds mh
theorem uU {f:Value}{g h:List D->MH->Option (D×MH)}(hg:Ba X f (rDs X.K g)) (hh:Ba X f (rDs X.K h)):Ba X f (rDs X.K (orF g h)):=by
 rintro pins s σ H xs us Q I rv ⟨ρ,mh,ds,d,mh',q,rest⟩;unfold orF at q;split at q
 ·rename_i e;cases q;exact hg pins s σ H xs us Q I rv ⟨ρ,mh,ds,d,mh',e,rest⟩
 ·exact hh pins s σ H xs us Q I rv ⟨ρ,mh,ds,d,mh',q,rest⟩
theorem Y4:Ba X (.type "int") (rDs X.K Y0):=by
 rintro pins s σ H xs us Q I rv ⟨ρ,mh,ds,d,mh',q,rs,r,co⟩
 match ds,q with
 | [x],q =>
  have q:(match strOf x with | some a=>(match PySem.intText? a with | some n=>if a.length<=640 then some (D.int n,mh) else none | none=>none) | none=>none)=some (d,mh'):=q;obtain ⟨w',rfl,rw'⟩:=Hr r;obtain ⟨u,rfl,hu⟩:=Vals.one rv;split at q
  ·rename_i a ea;split at q
   ·rename_i n en;split at q
    ·rename_i hz;cases q;cases Aw ea;cases Ce rw';obtain ⟨t,rfl⟩:=hu;exact PySem.W.KIN.call_text en hz ⟨.int _,H,I.tok _,⟨_,rfl⟩,co H ρ _ Ev.refl rs (.int _)⟩
    ·cases q
   ·cases q
  ·cases q
 | [],q=>cases q
 | _::_::_,q=>cases q
noncomputable def Its (x:Str):It:=⟨fun i _=>i < x.cps.size,fun i H v H'=>H'=H/\∃ c,x.cps[i]?=some c/\v=.str ⟨#[c]⟩,fun i _=>x.cps.size<=i⟩
theorem cL {P:Program}{w:World}{K:PySem.W.Frag}{tg:Expr}(x:Str) (t:Tok) (it:Addr):Turn P w K tg (Its x) [it] it (fun i h=>h.IsStrIter it "str_ascii_iterator" x t i) where
 mem:=by simp
 obj:=fun i h st b hb=>by
  have e:b=it:=by simpa using hb
  subst e;obtain ⟨o,e,c,d⟩:=st;exact ⟨o,e,fun v z=>by rw [d] at z;cases z⟩
 keep:=fun i h h' st k=>let ⟨o,ho,r⟩:=st;⟨o,k it (by simp) o ho,r⟩
 item:=by
  intro X hP hw hK hc i pins s σ H E I hf st hg;subst hP hw hK;have hg:i < x.cps.size:=hg;obtain ⟨f0,f1,f2,f3,f4,f5⟩:=hf it (by simp);refine wpAny_pyNext_ascii_item st (c:=x.cps[i]) (by simp [hg]) fun h' st' sb=>?_
  have I1:Inv X pins σ H { s with heap:=h',toks:=s.toks+1 }:=I.turned (t':=s.toks+1) (fun b o hb e=>(sb.2 b hb).trans e) f0 f1 f3 f4 f5;obtain ⟨o,e,c,d⟩:=id st';exact ⟨_,rfl,Wn (s:={ s with heap:=h',toks:=s.toks+1 }) e c d (by decide) ⟨.str ⟨#[x.cps[i]]⟩,H,I1,⟨_,rfl⟩,⟨rfl,_,by simp [hg],rfl⟩,st',fun b hb=>(hf b hb).1⟩⟩
 done:=by
  intro X hP hw hK hc i pins s σ H E I hf st hg;subst hP hw hK;have hg:x.cps.size<=i:=hg;obtain ⟨f0,f1,f2,f3,f4,f5⟩:=hf it (by simp);exact wpAny_pyNext_ascii_end (I.ok.hd hc) st (by simp [hg]) fun h' eb=>⟨rfl,I.turned (t':=s.toks) (fun b o hb e=>eb b o hb e) f0 f1 f3 f4 f5⟩
 self:=fun _ _ _ _ _ st h=>wpAny_pyIter_striter_ascii st h
theorem uV {tg l:Expr}{tl:TE}(hl:PE X l tl):PI X tg l (fun σ H R=>tl σ H fun v H1=>∃ x,v=.str x/\x.cps.all (· < 128)=true/\R (Its x) H1):=by
 intro pins s σ H R I h;refine thn (hl pins s σ H _ I h) ?_;rintro v s1 ⟨x,H1,I1,r1,a,rfl,ha,q⟩;obtain ⟨t,rfl⟩:=r1;refine wpAny_pyIter_ascii ha ?_;refine ⟨s1.heap.objs.size,[s1.heap.objs.size],_,_,H1,rfl,I1.kept (t':=s1.toks) fun b o e=>Heap.get?_push_of_some _ e,cL a t _,⟨_,Heap.get?_push_size _ rfl,rfl,rfl⟩,fun b hb=>?_,q⟩;have e:b=s1.heap.objs.size:=by simpa using hb
 subst e;exact I1.fpOk (Nat.le_refl _) (I1.hok.fresh (Nat.le_refl _))
noncomputable def signs (x:Str):List D:=x.cps.toList.map fun c=>.str ⟨#[c]⟩
noncomputable def Cg (ma:DM D):DM Src:=ma.bnd fun x=>fun _ mh=>match strOf x with
 | some a=>if a.cps.all (· < 128)=true then some (.seq (signs a),mh) else none
 | none=>match srcOf x mh with | some s=>some (s,mh) | none=>none
theorem JR.str {x:Str}:JR K H ρ (.seq (signs x)) (Its x) where
 go:=fun H ρ mh i d e rs q=>by
  have q:(signs x)[i]?=some d:=q;unfold signs at q;rw [List.getElem?_map,Array.getElem?_toList] at q;cases ec:x.cps[i]? with
  | none=>rw [ec] at q;cases q
  | some c =>
   rw [ec] at q;cases q;refine ⟨(Array.getElem?_eq_some_iff.mp ec).1,?_⟩;rintro v H' ⟨h1,c',h2,h3⟩;subst h1;rw [ec] at h2;cases h2;subst h3;exact ⟨Ev.refl,rs,.str _⟩
 stop:=fun H ρ mh i e rs q=>by
  have q:(true&&decide ((signs x).length<=i))=true:=q;rw [Bool.true_and] at q;have:=of_decide_eq_true q;unfold signs at this;show x.cps.size<=i
  simpa using this
theorem Cr {tg a:Expr}{ma:DM D}(ha:DE X a ma):DI X tg a (Cg ma):=fun loc mh=>by
 cases ea:ma loc mh with
 | none =>
  have:Cg ma loc mh=none:=by unfold Cg DM.bnd;rw [ea]
  rw [this];exact Cd
 | some p =>
  obtain ⟨x,m1⟩:=p;cases es:strOf x with
  | none =>
   have:Cg ma loc mh=Vb ma loc mh:=by unfold Cg Vb DM.bnd;rw [ea];dsimp only;rw [es] <;> rfl
   rw [this];exact tZ ha loc mh
  | some a' =>
   have:Cg ma loc mh=if a'.cps.all (· < 128)=true then some (.seq (signs a'),m1) else none:=by unfold Cg DM.bnd;rw [ea];dsimp only;rw [es]
   rw [this];split
   ·rename_i hz;cases Aw es;rintro pins s σ H R I ⟨ρ,src,mh',q,rl,rs,co⟩;cases q;refine uV (ha loc mh) pins s σ H R I ⟨ρ,_,_,ea,rl,rs,fun H1 ρ1 v e1 rs1 r1=>?_⟩;cases Ce r1;exact ⟨_,rfl,hz,co H1 ρ1 _ e1 rs1 JR.str⟩
   ·exact Cd
end
section
variable {X:Cx}{K:PySem.W.Frag}{H:Hp}{ρ:List Addr}
theorem uW {pins:List (Addr×Obj)}{σ:L2.St}{s:Shared}{mh:MH}{dx:D}{v:V}{u:Value}{t:String}(I:Inv X pins σ H s) (rs:RS X.K H ρ mh) (rd:RD X.K H ρ dx v) (rv:RelV v u) (et:Lz dx mh=some t) :
  ∃ Hh,PySem.W.KitX X.K u (.type t) Hh/\Hh s.heap/\t∈["NoneType", "bool", "int", "str", "tuple", "list"]/\u≠.builtin "__main__.__loader__#opaque":=by
 cases rd with
 | non=>cases et;cases (show u=Value.none from rv);exact ⟨_,PySem.W.kitx_none,True.intro,by decide,fun z=>nomatch z⟩
 | bl y=>cases et;cases (show u=Value.bool y from rv);exact ⟨_,PySem.W.kitx_bool,True.intro,by decide,fun z=>nomatch z⟩
 | int i=>cases et;obtain ⟨t,q⟩:=(show ∃ t,u=Value.int i t from rv);cases q;exact ⟨_,PySem.W.kitx_int,True.intro,by decide,fun z=>nomatch z⟩
 | str y=>cases et;obtain ⟨t,q⟩:=(show ∃ t,u=Value.str y t from rv);cases q;exact ⟨_,PySem.W.kitx_str,True.intro,by decide,fun z=>nomatch z⟩
 | @tup ds a xs sq r =>
  cases et;cases (show u=Value.ref a from rv);obtain ⟨its,_,⟨o,h1,h2,_⟩,_⟩:=I.tuple sq;exact ⟨_,PySem.W.kitx_tuple,⟨o,h1,h2⟩,by decide,fun z=>nomatch z⟩
 | obj n s l r=>cases et
 | fn h=>cases et
 | lam h=>cases et
 | @rol ds a xs sq r =>
  cases et;cases (show u=Value.ref a from rv);obtain ⟨its,_,⟨ob,n',h1,h2,_⟩,_⟩:=I.list sq.sq;exact ⟨_,PySem.W.kitx_list,⟨ob,h1,h2⟩,by decide,fun z=>nomatch z⟩
 | @ref n a h =>
  have et:(match mh[n]? with | some (.lst _)=>some "list" | _=>none)=some t:=et;split at et
  ·rename_i o eo;cases et;cases (show u=Value.ref a from rv);obtain ⟨a',ha,ro⟩:=rs.at eo;rw [h] at ha;cases ha;obtain ⟨xs,sq,_⟩:=ro.read;obtain ⟨its,_,⟨ob,n',h1,h2,_⟩,_⟩:=I.list sq;exact ⟨_,PySem.W.kitx_list,⟨ob,h1,h2⟩,by decide,fun z=>nomatch z⟩
  ·cases et
noncomputable def W6 (c e:String) (x:D) (mh:MH):Option (D×MH):=match Lz x mh with
 | some t=>match Yi t c,Yi t e with
  | some a,some b=>some (.bl (a || b),mh)
  | _,_=>none
 | none=>none
theorem Y5 {c e:String}(hc:c∈["bool", "int", "str", "tuple", "list", "dict"]) (he:e∈["bool", "int", "str", "tuple", "list", "dict"]):Ba X (.builtin "isinstance") (fun xs H Q=>∃ v p,xs=[v,.ref p]/\H p=some (.tup [.ty c,.ty e])/\rD1 X.K (W6 c e) v H Q):=by
 rintro pins s σ H xs us Q I r ⟨v,p,rfl,hp,ρ,mh,dx,d,mh',q,rs,rd,co⟩;obtain ⟨u,w',rfl,r1,r2⟩:=Vals.two r;cases (show w'=Value.ref p from r2);unfold W6 at q;split at q
 ·rename_i t et;split at q
  ·rename_i a b ea eb;cases q;obtain ⟨Hh,Z,hh,ht,hx⟩:=uW I rs rd r1 et;obtain ⟨its,rv,⟨o,h1,h2,n,h4⟩,_⟩:=I.tuple (.inl (.inl hp));obtain ⟨u1,u2,rfl,q1,q2⟩:=Vals.two rv;cases (show u1=Value.type c from q1);cases (show u2=Value.type e from q2);have e1:=Dn (K:=X.K) ht hc ea;have e2:=Dn (K:=X.K) ht he eb;refine PySem.W.kia_tup (b:=a || b) (its:=[.type c,.type e]) (n:=n) (dd:=o.dict) (sl:=o.slots) Z I.kIn hh ?_ ?_ hx fun tk=>⟨.bl _,H,I.tok tk,rfl,co H ρ _ Ev.refl rs (.bl _)⟩
   ·rw [h1];obtain ⟨c0,d0,da,sl⟩:=o;dsimp only at h2 h4;subst h2;subst h4;rfl
   ·unfold PySem.W.kitAny PySem.W.kitAny PySem.W.kitAny;rw [e1,e2];cases a <;> cases b <;> rfl
  ·cases q
 ·cases q
theorem mL {c e:Str}{T U:String}{p p1 p2 pt pos:Pos}{k:Nat}{a:Expr}{ma:DM D}(hT:T∈["bool", "int", "str", "tuple", "list", "dict"]) (hU:U∈["bool", "int", "str", "tuple", "list", "dict"]) (hg:Gl X "isinstance") (hm:X.mg "isinstance"=none) (hg2:Gl X c) (hm2:X.mg c=none) (hv2:bootBuiltins c=some (.type T)) (hn2:c ≠ "__name__") (hd2:(c==("__debug__":Str))=false)
  (hg3:Gl X e) (hm3:X.mg e=none) (hv3:bootBuiltins e=some (.type U)) (hn3:e ≠ "__name__") (hd3:(e==("__debug__":Str))=false) (ha:DE X a ma)
  (he:starEach (a::[.Tuple [.Name c p1,.Name e p2] k pt]) X.env=(false,eval a X.env)::starEach [.Tuple [.Name c p1,.Name e p2] k pt] X.env) (hes:starEach [.Name c p1,.Name e p2] X.env=(false,eval (.Name c p1) X.env)::starEach [.Name e p2] X.env) :
  DE X (.Call (.Name "isinstance" p) [a,.Tuple [.Name c p1,.Name e p2] k pt] [] pos) (ma.bnd fun x=>Zl (W6 T U x)):=fun loc mh=>by
 refine Bc (Ge (Y5 hT hU) hg hm boot_isinstance (Be (ha loc mh) (Be (aG (Be (Ku hg2 hm2 hv2 (v:=.ty T) rfl hn2 hd2) (Be (Ku hg3 hm3 hv3 (v:=.ty U) rfl hn3 hd3) Es) hes)) Es) he) (by decide) (by decide) he) ?_;rintro σ H Q ⟨ρ,d,mh',q,rl,rs,co⟩;obtain ⟨x,m1,ea,q⟩:=Ae q;exact ⟨ρ,x,m1,ea,rl,rs,fun H1 ρ1 v e1 rs1 r1=>⟨show (2:Nat)<=sizeLine by decide,fun p hp=>⟨v,p,rfl,Du,ρ1,m1,x,d,mh',q,rs1.new hp,r1.mono (Ev.new hp),co.ev (e1.trans (Ev.new hp))⟩⟩⟩
noncomputable def isS (neg:Bool) (x y:D) (mh:MH):Option (D×MH):=match y with
 | .bl _=>(match strOf x,Yw x with
  | none,none=>none
  | _,_=>some (.bl neg,mh))
 | _=>none
theorem cM {neg:Bool}{x y:D}{mh:MH}{r:D×MH}(h:isS neg x y mh=some r):(∃ b,y=.bl b)/\((∃ a,x=.str a)\/∃ i,x=.int i)/\r=(.bl neg,mh):=by
 unfold isS at h;split at h
 ·rename_i b;split at h
  ·cases h
  ·rename_i hn;cases h;refine ⟨⟨b,rfl⟩,?_,rfl⟩;cases e1:strOf x with
   | some a=>exact .inl ⟨a,Aw e1⟩
   | none =>
    cases e2:Yw x with
    | some i=>exact .inr ⟨i,Jj e2⟩
    | none=>exact absurd e2 (hn e1)
 ·cases h
theorem uX:OpR X (compareOp .Is) (rD X.K (isS false)):=by
 rintro pins s σ H x y v u Q I rx ry ⟨ρ,mh,dx,dy,d,mh',q,rs,r1,r2,co⟩;obtain ⟨⟨b,rfl⟩,h,e⟩:=cM q;cases e;cases r2;cases ry;rcases h with ⟨a,rfl⟩|⟨i,rfl⟩
 ·cases Ce r1;obtain ⟨t,rfl⟩:=rx;exact wpAny_pure (a:=Value.bool false) ⟨.bl _,H,I,rfl,co H ρ _ Ev.refl rs (.bl _)⟩
 ·cases Vr r1;obtain ⟨t,rfl⟩:=rx;exact wpAny_pure (a:=Value.bool false) ⟨.bl _,H,I,rfl,co H ρ _ Ev.refl rs (.bl _)⟩
end
theorem cN {X:Cx}:OpR X (binaryOp .FloorDiv) (rI (fun _ j=>j≠0/\j.natAbs < 1606938044258990275541962092341162602522202993782792835301376) fun i j=>.int (i.fdiv j)):=opI fun _ j _ _ _ _ _ hc q=>floordiv_int hc.1 q (.inl (PyProof.noPylong_of_log2 (by
 have h:j.natAbs < 2 ^ 200:=hc.2
 by_cases h0:j.natAbs=0
 ·rw [h0];decide +kernel
 ·have h60:j.natAbs.log2 < 200:=(Nat.log2_lt h0).mpr h
  omega)))
structure SC where
 N:List Str
 scope:Scope
 own:Str->Bool
structure Gb where
 cal:Str->Option (List Str×Fn)
 con:Str->Option D
 dic:Str->Option (List (Str×D))
 fld:Str->Str->Bool
 met:Str->Str->Option (List Str×Fn)
 mkr:Str->Option Str
noncomputable def slot (N:List Str) (x:Str):Option Nat:=N.findIdx? (fun y=>y==x)
noncomputable def cO (sc:Scope) (x:Str):Bool:=match sc.names.lookup x with
 | some .local=>true
 | some .cell=>true
 | some .free=>true
 | _=>false
noncomputable def Y6 (sc:Scope) (x:Str):Bool:=match sc.names.lookup x with
 | some .local=>true
 | some .cell=>true
 | _=>false
noncomputable def glB (sc:Scope) (x:Str):Bool:=match sc.names.lookup x with
 | some .globalImplicit=>true
 | _=>false
noncomputable def Tn (i j:Int):Bool:=decide (-(2 ^ 64) < i/\i < 2 ^ 64) || decide (-(2 ^ 64) < j/\j < 2 ^ 64)
theorem pZ {X:Cx}{f:Value->Value->Sem Value}:OpR X f (rD X.K fun _ _ _=>none):=by
 rintro _ _ _ _ _ _ _ _ _ _ _ _ ⟨_,_,_,_,_,_,e,_⟩;cases e
noncomputable def zM:Operator->Option (D->D->MH->Option (D×MH))
 | .Add=>some Bk
 | .Sub=>some (iop (fun _ _=>true) fun i j=>i - j)
 | .Mult=>some (orD (W3 (W4 (iop Tn fun i j=>i * j))) mH)
 | .FloorDiv=>some (iop (fun _ j=>decide (j≠0)&&decide (j.natAbs < 1606938044258990275541962092341162602522202993782792835301376)) fun i j=>i.fdiv j)
 | .Mod=>some (iop (fun _ j=>decide (j≠0)) fun i j=>i.fmod j)
 | .Pow=>some (iop (fun i j=>decide (0<=j)&&(decide (j<=1000000)&&decide (i.natAbs < 2 ^ 64))) fun i j=>i ^ j.toNat)
 | _=>none
noncomputable def Mj:CmpOp->(D->D->MH->Option (D×MH))
 | .Eq=>eqD
 | .NotEq=>neD
 | .Lt=>Qg fun i j=>decide (i < j)
 | .LtE=>Qg fun i j=>decide (i<=j)
 | .Gt=>Qg fun i j=>decide (j < i)
 | .GtE=>Qg fun i j=>decide (j<=i)
 | .Is=>orD (isD false) (isS false)
 | .IsNot=>fun _ _ _=>none
 | .In=>orD (inD false) (inS false)
 | .NotIn=>fun _ _ _=>none
theorem mO {X:Cx}{op:Operator}{f:D->D->MH->Option (D×MH)}(h:zM op=some f):OpR X (binaryOp op) (rD X.K f):=by
 cases op <;> (try cases h)
 ·exact Qh
 ·exact lC rP
 ·refine cH (cF (cG (Ly rQ fun i j h=>?_))) mJ;unfold Tn at h;rw [Bool.or_eq_true,decide_eq_true_iff,decide_eq_true_iff] at h;exact h
 ·exact Ly jO fun i j h=>of_decide_eq_true h
 ·refine Ly rR fun i j h=>?_
  rw [Bool.and_eq_true,Bool.and_eq_true,decide_eq_true_iff,decide_eq_true_iff,decide_eq_true_iff] at h;exact ⟨h.1,h.2.1,h.2.2⟩
 ·refine Ly cN fun i j h=>?_
  rw [Bool.and_eq_true,decide_eq_true_iff,decide_eq_true_iff] at h;exact ⟨h.1,h.2⟩
theorem Ff {X:Cx}(hu:X.A.units+64 < cLine) (op:CmpOp):OpR X (compareOp op) (rD X.K (Mj op)):=by
 cases op
 ·exact tV hu
 ·exact tW hu
 ·exact Kz yI
 ·exact Kz yJ
 ·exact Kz yK
 ·exact Kz yL
 ·exact cH tX uX
 ·exact pZ
 ·exact cH (uQ hu) uR
 ·exact pZ
noncomputable def isStar:Expr->Bool
 | .Starred ..=>true
 | _=>false
noncomputable def isSet:Expr->Bool
 | .Set ..=>true
 | _=>false
noncomputable def Gz:Expr->Bool
 | .ListComp ..=>true
 | .SetComp ..=>true
 | .DictComp ..=>true
 | _=>false
noncomputable def isSlice:Expr->Bool
 | .Slice ..=>true
 | _=>false
noncomputable def baseOk:Expr->Bool
 | .Call (.Name ..) [] [] _=>false
 | _=>true
noncomputable def tyOf (c:Str):Option String :=
 if c == "int" then some "int" else if c == "bool" then some "bool" else if c == "str" then some "str" else if c == "tuple" then some "tuple" else if c == "list" then some "list" else if c == "dict" then some "dict" else none
noncomputable def Y7:Fn:=fun _ _=>none
noncomputable def Tp (_:D) (_:List D) (_:MH):Option (D×MH):=none
theorem Iu {X:Cx}{f:Value}:Ba X f (rDs X.K Y7):=by
 rintro _ _ _ _ _ _ _ _ _ ⟨_,_,_,_,_,e,_⟩;cases e
theorem Ml {X:Cx}{id:String}:MtR X id (rDM X.K Tp):=by
 rintro _ _ _ _ _ _ _ _ _ _ _ _ ⟨_,_,_,_,_,_,e,_⟩;cases e
noncomputable def cP (x:Str):Option Fn:=if x=="len" then some Dm else if x=="list" then some Y7 else if x=="tuple" then some Hs else if x=="all" then some Ym else if x=="any" then some Y7 else if x=="max" then some Y7 else if x=="min" then some pW else if x=="int" then some (orF intD Y0) else if x=="sorted" then some Y7 else if x=="sum" then some Y7 else if x=="str" then some Tj else none
noncomputable def Jo (m:Str) (n:Nat):Option (String×(D->List D->MH->Option (D×MH))) :=
 if m == "append"&&n==1 then some ("list",Cq) else if m == "bit_length"&&n==0 then some ("int",Tp) else if m == "pop"&&n==1 then some ("list",Tp) else if m == "pop"&&n==0 then some ("list",S6) else if m == "extend"&&n==1 then some ("list",Em) else if m == "index"&&n==1 then some ("tuple",Tp) else if m == "join"&&n==1 then some ("str",Ti) else if m == "split"&&n==1 then some ("str",Gi) else if m == "lstrip"&&n==1 then some ("str",Io) else if m == "rstrip"&&n==1 then some ("str",Ip) else none
noncomputable def Dh:Expr->Bool
 | .Tuple ..=>true
 | _=>false
noncomputable def setArg (_:Expr) (_:List Expr):Option Expr:=none
noncomputable def uY (_:Expr) (_:List Expr):Option Expr:=none
noncomputable def uZ (_:Expr) (_:List Expr):Option (Expr×Expr):=none
noncomputable def W7 (_:SC) (_:Expr) (_:CmpOp) (_:Expr):Option (Nat×Nat):=none
noncomputable def Ca (scope:Scope):List Str:=(scope.names.filter fun p=>(match p.2 with | .local=>true | .cell=>true | .free=>true | _=>false)).map (·.1)
noncomputable def Mp (N:List Str) (scope:Scope):List (Option Nat):=(Ca scope).map fun x=>match scope.names.lookup x with
 | some .free=>slot N x
 | _=>none
noncomputable def Iv (scope outer:Scope):Scope:={ scope with names:=scope.names.map fun (n,k)=>if (k==.free&&outer.kind==.function&&outer.names.lookup n==some .cell) then (n,.cell) else (n,k) }
noncomputable def Qn (scope:Scope) (sc:SC):SC:={ N:=Ca scope,scope:=Iv scope sc.scope,own:=fun x=>Y6 scope x }
noncomputable def K1 (scope:Scope) (sc:SC):Bool :=
 (match scope.kind with | .function=>true | _=>false)&&(decide ((scope.names.map (·.1)).Nodup) &&
  scope.names.all fun p=>(match p.2 with | .free=>(match sc.scope.names.lookup p.1 with | some .cell=>true | some .free=>true | _=>false) | _=>true))
noncomputable def Km (G:Gb) (sc:SC):Expr->Option (List (Str×D))
 | .Name x _=>if glB sc.scope x&&!(x == "__debug__") then G.dic x else none
 | _=>none
noncomputable def Jp (G:Gb) (sc:SC) (op:CmpOp) (b:Expr):Option (Bool×List (Str×D)):=match op with
 | .In=>(match Km G sc b with | some kvs=>some (false,kvs) | none=>none)
 | .NotIn=>(match Km G sc b with | some kvs=>some (true,kvs) | none=>none)
 | _=>none
noncomputable def zN (G:Gb) (f:Str):List Expr->Option Str
 | []=>G.mkr f
 | _=>none
noncomputable def iGn (sc:SC) (x:Str):Option Nat:=if Y6 sc.scope x&&sc.own x then slot sc.N x else none
noncomputable def iGs (sc:SC):List Expr->Option (List Nat)
 | []=>some []
 | .Name x _::r=>match iGn sc x with
  | some i=>match iGs sc r with
   | some is=>some (i::is)
   | none=>none
  | none=>none
 | _=>none
noncomputable def iG (sc:SC):Expr->Option (List Nat×GM)
 | .Name x _=>match iGn sc x with | some i=>some ([i],Av i) | none=>none
 | .Tuple es _ _=>match iGs sc es with | some is=>some (is,pR is) | none=>none
 | _=>none
noncomputable def vA:Option Str->Bool
 | some n=>n == "default"
 | none=>false
noncomputable def mQ:Expr->Bool
 | .Constant .none _ _=>true
 | _=>false
noncomputable def Vu (k:Keyword):Bool:=vA k.arg&&mQ k.value
theorem Tq {k:Keyword}(h:Vu k=true):∃ j cp kp,k=⟨some "default",.Constant .none j cp,kp⟩:=by
 obtain ⟨n,v,p⟩:=k;unfold Vu at h;rw [Bool.and_eq_true] at h;obtain ⟨h1,h2⟩:=h;cases n with
 | none=>cases h1
 | some n =>
  have e:n = "default":=eq_of_beq h1
  subst e;cases v with
  | Constant c j cp =>
   cases c with
   | none=>exact ⟨_,_,_,rfl⟩
   | _=>cases h2
  | _=>cases h2
noncomputable def iEb (E:SC->Expr->DM D) (T:SC->Expr->DM Bool) (A:SC->List Expr->DM (List D)) (F:SC->List Expr->DM Bool) (I:SC->Expr->Expr->DM Src) (G:Gb) (sc:SC) (e:Expr):DM D:=match e with
 | .Constant (.int i) _ _=>Zr (.int i)
 | .Constant (.bool b) _ _=>Zr (.bl b)
 | .Constant .none _ _=>Zr .non
 | .Constant (.str x) _ _=>Zr (.str x)
 | .Name x _=>if cO sc.scope x&&!(x == "__debug__")&&!(x == "__classdict__") then (match slot sc.N x with
   | some i=>fun loc mh=>match loc[i]? with | some (some d)=>some (d,mh) | _=>none
   | none=>Zb) else if glB sc.scope x&&!(x == "__debug__") then (match G.con x with | some d=>Zr d | none=>Zb) else Zb
 | .BinOp a op b _=>(match zM op with | some f=>dop f (E sc a) (E sc b) | none=>Zb)
 | .UnaryOp .USub a _=>(E sc a).bnd fun x=>Zl (uJ x)
 | .UnaryOp .Not a _=>(Ag (E sc a)).bnd fun c=>Zr (.bl (!c))
 | .BoolOp op [a] _=>E sc a
 | .BoolOp .And (a::b::r) p=>R5 (E sc a) (E sc (.BoolOp .And (b::r) p))
 | .BoolOp .Or (a::b::r) p=>Va (E sc a) (E sc (.BoolOp .Or (b::r) p))
 | .Compare a [op] [b] _=>(match W7 sc a op b with
  | some (i,j)=>bM (fun loc mh=>match loc[i]? with | some (some d)=>some (d,mh) | _=>none) (fun loc mh=>match loc[j]? with | some (some d)=>some (d,mh) | _=>none)
  | none=>match Jp G sc op b with
   | some (neg,kvs)=>Gh neg kvs (E sc a)
   | none=>if isSet b then Zb else dop (Mj op) (E sc a) (E sc b))
 | .Compare a [op,op'] [b,c] _=>if isSet c then Zb else Hu (Mj op) (Mj op') (E sc a) (E sc b) (E sc c)
 | .IfExp c a b _=>dIf (T sc c) (E sc a) (E sc b)
 | .Tuple es _ _=>(A sc es).bnd fun ds=>Zl (J8 ds)
 | .List es _=>(A sc es).bnd fun ds=>Zl (Oq ds)
 | .Dict ks vs _=>if pY ks vs&&!ks.isEmpty&&decide (ks.length<=15) then Zb else Zb
 | .Subscript a (.Slice lo hi none _) _=>Jm (E sc a) (match lo with | some e=>some (E sc e) | none=>none) (match hi with | some e=>some (E sc e) | none=>none)
 | .Subscript a b _=>if isSlice b then Zb else (match Km G sc a with | some kvs=>Mh kvs (E sc b) | none=>dop ixD (E sc a) (E sc b))
 | .Attribute o f _=>if baseOk o then Zb else Zb
 | .Call (.Name f _) [] [] _=>if glB sc.scope f&&!(f == "__debug__") then (match G.cal f with | some ([],g)=>Zl (g []) | _=>Zb) else Zb
 | .Call (.Name f _) (a::es) [] _=>if cO sc.scope f&&!(f == "__debug__")&&!(f == "__classdict__")&&!(isStar a)&&es.all (fun e=>!isStar e) then Zb else if glB sc.scope f&&!(f == "__debug__")&&!(f == "__name__")&&!(isStar a)&&es.all (fun e=>!isStar e) then
   (match G.cal f with
   | some (_,g)=>(A sc (a::es)).bnd fun ds=>Zl (g ds)
   | none=>match zN G f es with
    | some fl=>Zb
    | none=>match setArg a es with
    | some b=>if glB sc.scope "set" then (if f == "len" then (E sc b).bnd (fun x=>Zl (lY x)) else if f == "sorted" then (E sc b).bnd (fun x=>Zl (Yp x)) else Zb) else Zb
    | none=>match uZ a es with
    | some (b,c)=>if glB sc.scope "zip"&&f == "list" then (A sc [b,c]).bnd (fun ds=>Zl (bU ds)) else if glB sc.scope "zip"&&f == "sorted" then (A sc [b,c]).bnd (fun ds=>Zl (bV ds)) else Zb
    | none=>match uY a es with
    | some b=>if glB sc.scope "range" then (if f == "list" then (E sc b).bnd (fun x=>Zl (bQ x)) else if f == "tuple" then (E sc b).bnd (fun x=>Zl (mD x)) else Zb) else Zb
    | none=>if f == "isinstance" then (match es with
    | [.Name c _]=>if glB sc.scope c&&!(c == "__debug__")&&!(c == "__name__") then (match tyOf c with | some ty=>(E sc a).bnd fun x=>Zl (Ss ty x) | none=>Zb) else Zb
    | [.Tuple [.Name c _,.Name e _] _ _]=>if glB sc.scope c&&!(c == "__debug__")&&!(c == "__name__")&&glB sc.scope e&&!(e == "__debug__")&&!(e == "__name__") then (match tyOf c,tyOf e with | some ty,some tz=>(E sc a).bnd fun x=>Zl (W6 ty tz x) | _,_=>Zb) else Zb
    | _=>Zb) else match cP f with
     | some g=>(A sc (a::es)).bnd fun ds=>Zl (g ds)
     | none=>Zb) else Zb
 | .Call (.Name f _) [a] (kw::ks) _=>if glB sc.scope f&&!(isStar a)&&Vu kw&&ks.isEmpty then (if f == "max" then Zb else if f == "min" then Zb else Zb) else Zb
 | .Call (.Attribute o m ap) [] [] p=>if baseOk o&&(ap.endLine==p.line) then (match Jo m 0 with | some (ty,f)=>Ay ty f (E sc o) (Zr []) | none=>Zb) else Zb
 | .Call (.Attribute o m ap) (a::es) [] p=>if baseOk o&&(ap.endLine==p.line)&&!(isStar a)&&es.all (fun e=>!isStar e)&&decide ((a::es).length < 20) then (if m == "get" then (match Km G sc o with | some kvs=>Zb | none=>Zb) else if m == "count"&&es.isEmpty then W0 "tuple" Tp "list" Tp (E sc o) (A sc (a::es)) else if m == "index"&&es.isEmpty then W0 "tuple" Tp "list" Tp (E sc o) (A sc (a::es)) else (match Jo m (a::es).length with | some (ty,f)=>Ay ty f (E sc o) (A sc (a::es)) | none=>Zb)) else Zb
 | .ListComp elt [⟨tg,iter,ifs,k⟩] scope _=>if k==0&&K1 scope sc&&!(isSet iter) then (match iG (Qn scope sc) tg with
   | some (ws,g)=>if ws.all (fun i=>match (Mp sc.N scope)[i]? with | some (some _)=>false | _=>true) then Ci (I sc tg iter) (Mp sc.N scope) g (F (Qn scope sc) ifs) (E (Qn scope sc) elt) else Zb
   | none=>Zb) else Zb
 | _=>Zb
noncomputable def iTb (E:SC->Expr->DM D) (T:SC->Expr->DM Bool) (A:SC->List Expr->DM (List D)) (F:SC->List Expr->DM Bool) (I:SC->Expr->Expr->DM Src) (G:Gb) (sc:SC) (e:Expr):DM Bool:=match e with
 | .UnaryOp .Not a _=>Hg (T sc a)
 | .BoolOp op [a] _=>T sc a
 | .BoolOp .And (a::b::r) p=>Ia (T sc a) (T sc (.BoolOp .And (b::r) p))
 | .BoolOp .Or (a::b::r) p=>Jg (T sc a) (T sc (.BoolOp .Or (b::r) p))
 | .BoolOp _ [] _=>Zb
 | .IfExp ..=>Zb
 | .Compare a [op] [b] _=>(match Jp G sc op b with
  | some (neg,kvs)=>Ag (Gh neg kvs (E sc a))
  | none=>if isSet b then Zb else Ag (dop (Mj op) (E sc a) (E sc b)))
 | .Compare a [op,op'] [b,c] _=>if isSet c then Zb else Ag (Hu (Mj op) (Mj op') (E sc a) (E sc b) (E sc c))
 | .Compare ..=>Zb
 | e=>Jh (E sc e)
noncomputable def iIb (E:SC->Expr->DM D) (T:SC->Expr->DM Bool) (A:SC->List Expr->DM (List D)) (F:SC->List Expr->DM Bool) (I:SC->Expr->Expr->DM Src) (G:Gb) (sc:SC) (tg e:Expr):DM Src:=match e with
 | .Call (.Name f p) [a] [] p'=>if f == "range"&&glB sc.scope f then (if isStar a then Zb else Ji Ig (A sc [a])) else if f == "enumerate"&&glB sc.scope f then (if isStar a || !(Dh tg) then Zb else Zb) else Cg (E sc (.Call (.Name f p) [a] [] p'))
 | .Call (.Name f p) [a,b] [] p'=>if f == "range"&&glB sc.scope f then (if isStar a || isStar b then Zb else Zb) else if f == "zip"&&glB sc.scope f then (if isStar a || isStar b || !(Dh tg) then Zb else Zb) else Cg (E sc (.Call (.Name f p) [a,b] [] p'))
 | .Call (.Name f p) [a,b,c] [] p'=>if f == "range"&&glB sc.scope f then (if isStar a || isStar b || isStar c then Zb else Zb) else Cg (E sc (.Call (.Name f p) [a,b,c] [] p'))
 | e=>Cg (E sc e)
mutual
noncomputable def iE (G:Gb):Nat->SC->Expr->DM D
 | 0,_,_=>Zb
 | n+1,sc,e=>iEb (iE G n) (iT G n) (iA G n) (iF G n) (iI G n) G sc e
termination_by structural n=>n
noncomputable def iT (G:Gb):Nat->SC->Expr->DM Bool
 | 0,_,_=>Zb
 | n+1,sc,e=>iTb (iE G n) (iT G n) (iA G n) (iF G n) (iI G n) G sc e
termination_by structural n=>n
noncomputable def iA (G:Gb):Nat->SC->List Expr->DM (List D)
 | 0,_,_=>Zb
 | n+1,sc,es=>match es with
  | []=>Zr []
  | a::r=>if isStar a then Zb else Aa (iE G n sc a) (iA G n sc r)
termination_by structural n=>n
noncomputable def iF (G:Gb):Nat->SC->List Expr->DM Bool
 | 0,_,_=>Zb
 | n+1,sc,es=>match es with
  | []=>Zr true
  | [c]=>iT G n sc c
  | _=>Zb
termination_by structural n=>n
noncomputable def iI (G:Gb):Nat->SC->Expr->Expr->DM Src
 | 0,_,_,_=>Zb
 | n+1,sc,tg,e=>iIb (iE G n) (iT G n) (iA G n) (iF G n) (iI G n) G sc tg e
termination_by structural n=>n
end
noncomputable def zO (sc:SC) (x:Str) (px:Pos) (y:Str) (py:Pos) (a b:Expr):Bool :=
 ((if sc.scope.kind.isAnnotationScope then ScopeKind.function else sc.scope.kind)==.function)&&(sc.scope.names.lookup x==some .local)&&(sc.scope.names.lookup y==some .local)&&(py.line==px.line)&&!(x==y)&&!isStar a&&!isStar b&&!([a,b].all (foldedForSure 8))&&!([a,b].all (constantsAlone 8))
noncomputable def vB (mr:DM (List D)) (i j:Nat):SM:=fun loc mh=>match mr loc mh with
 | some ([d,e],h)=>some (.nx,(loc.set i (some d)).set j (some e),h)
 | _=>none
noncomputable def iGt (G:Gb) (n:Nat) (sc:SC) (tg:Expr):Option GM:=match tg with
 | .Subscript o i _=>if isSlice i then none else some (Ma (iE G n sc o) (iE G n sc i))
 | tg=>match iG sc tg with | some (_,g)=>some g | none=>none
noncomputable def vC (n:Nat) (G:Gb) (sc:SC) (tg v:Expr):SM:=match tg,v with
 | .Name y py,.ListComp elt gens scope vp=>(match iG sc (.Name y py) with | some (_,g)=>Bg (iE G n sc (.ListComp elt gens scope vp)) g | none=>SM.bad)
 | .Tuple [.Name x px,.Name y py] _ _,.Tuple [a,b] _ _=>if zO sc x px y py a b then (match slot sc.N x,slot sc.N y with | some i,some j=>vB (iA G n sc [a,b]) i j | _,_=>SM.bad) else SM.bad
 | tg,v=>if Gz v || (Dh tg&&Dh v) then SM.bad else (match iGt G n sc tg with | some g=>Bg (iE G n sc v) g | none=>SM.bad)
noncomputable def iSb (n:Nat) (B:SC->List Stmt->SM) (G:Gb) (sc:SC) (s:Stmt):SM:=match s with
 | .Expr e _=>if Gz e then SM.bad else Ea (iE G n sc e)
 | .Pass _=>Zn
 | .Break _=>fun loc mh=>some (.bk,loc,mh)
 | .Continue _=>fun loc mh=>some (.ct,loc,mh)
 | .Return (some e) _=>retS (iE G n sc e)
 | .Return none _=>fun loc mh=>some (.rt .non,loc,mh)
 | .Assign [tg] v _=>vC n G sc tg v
 | .If c a b _=>ifS (iT G n sc c) (B sc a) (B sc b)
 | .For tg it body [] _=>if isSet it then SM.bad else (match iG sc tg with | some (_,g)=>Ht (iI G n sc tg it) g (B sc body) | none=>SM.bad)
 | _=>SM.bad
mutual
noncomputable def iS (G:Gb):Nat->SC->Stmt->SM
 | 0,_,_=>SM.bad
 | n+1,sc,s=>iSb n (iSs G n) G sc s
termination_by structural n=>n
noncomputable def iSs (G:Gb):Nat->SC->List Stmt->SM
 | 0,_,_=>SM.bad
 | n+1,sc,ss=>match ss with
  | []=>Zn
  | s::r=>Ac (iS G n sc s) (iSs G n sc r)
termination_by structural n=>n
end
structure FnI where
 ps:List Str
 N:List Str
 scope:Scope
 body:List Stmt
noncomputable def Aq (G:Gb) (n:Nat) (f:FnI):Fn:=fun ds mh=>if ds.length=f.ps.length then (match iSs G n { N:=f.N,scope:=f.scope,own:=fun _=>true } f.body (ds.map some++List.replicate (f.N.length - ds.length) none) mh with
 | some (.rt d,_,mh')=>some (d,mh')
 | some (.nx,_,mh')=>some (.non,mh')
 | _=>none) else none
noncomputable def fuel:Nat:=60
structure Tb where
 tb:Str->Option FnI
 con:Str->Option D
 dic:Str->Option (List (Str×D))
 fld:Str->Str->Bool
 tbm:Str->Str->Option FnI
 mkr:Str->Option Str
noncomputable def Iw:List Str:=["len", "list", "tuple", "range", "isinstance", "int", "bool", "str", "dict", "set", "sorted", "all", "any", "max", "min", "enumerate", "zip", "sum"]
structure GOk (P:Program) (w:World) (K:PySem.W.Frag) (mg:Str->Option Value) (base:Heap) (k:Nat) (G:Gb):Prop where
 fn:∀ x ps f,G.cal x=some (ps,f)->∃ fa fd,mg x=some (.ref fa)/\PySem.W.keepIn K (.ref fa)=true/\Binds K fd ps []/\FnOk P w K mg base CX0 (k+2) fa fd ps (spD K ps.length f)/\∀ ds mh r,f ds mh=some r->ds.length=ps.length
 con:∀ x d,G.con x=some d->∃ u v,mg x=some u/\RelV v u/\∀ H ρ,RD K H ρ d v
 blt:∀ b∈Iw,mg b=none
 dic:∀ x kvs,G.dic x=some kvs->∃ a,mg x=some (.ref a)/\DicOk w K a kvs
 fld:∀ c f,G.fld c f=true->∃ C,PySem.W.nsIn K mainGlobals c=some (some (.ref C))/\Cls K C/\aF K C f
 met:∀ c m ps g,G.met c m=some (ps,g)->∃ C fa fd,PySem.W.nsIn K mainGlobals c=some (some (.ref C))/\Cls K C/\Meth K C m fa/\Binds K fd ps []/\FnOk P w K mg base CX0 (k+2) fa fd ps (spD K ps.length g)/\∀ ds mh r,g ds mh=some r->ds.length=ps.length
 mkr:∀ c f,G.mkr c=some f->∃ C fa fd ps,PySem.W.nsIn K mainGlobals c=some (some (.ref C))/\Mk K C fa/\mg c=some (.ref C)/\Binds K fd ps []/\FnOk P w K mg base CX0 1 fa fd ps (spI C f)
structure XOk (X:Cx) (k:Nat) (G:Gb) (sc:SC):Prop where
 N:X.N=sc.N
 nd:sc.N.Nodup
 sco:X.env.scope=sc.scope
 own:∀ x,sc.own x=true->L2.Loc sc.scope x->X.fn x=true\/sc.scope.names.lookup x=some .local
 calm:X.calm=true
 xe:X.xe=fun _ _=>False
 room:Room (k+2) X.A
 g:GOk X.prog X.w X.K X.mg X.base k G
theorem Ds {N:List Str}{x:Str}{i:Nat}(h:slot N x=some i):N[i]?=some x:=by
 unfold slot at h;obtain ⟨hl,hp,_⟩:=List.findIdx?_eq_some_iff_getElem.mp h;rw [List.getElem?_eq_getElem hl];exact congrArg some (eq_of_beq hp)
theorem mR {sc:Scope}{x:Str}(h:cO sc x=true):Vis sc x:=by
 unfold cO at h;split at h
 ·exact .inl (by assumption)
 ·exact .inr (.inl (by assumption))
 ·exact .inr (.inr (by assumption))
 ·cases h
theorem Qo {sc:Scope}{x:Str}(h:Y6 sc x=true):L2.Loc sc x:=by
 unfold Y6 at h;split at h
 ·exact .inl (by assumption)
 ·exact .inr (by assumption)
 ·cases h
theorem vD {sc:Scope}{x:Str}(h:glB sc x=true):sc.names.lookup x=some .globalImplicit:=by
 unfold glB at h;split at h
 ·assumption
 ·cases h
section
variable {X:Cx}{k:Nat}{G:Gb}{sc:SC}
theorem XOk.gl (O:XOk X k G sc) {x:Str}(h:glB sc.scope x=true):Gl X x:=by
 show X.env.scope.names.lookup x=_;rw [O.sco];exact vD h
theorem XOk.vis (O:XOk X k G sc) {x:Str}(h:cO sc.scope x=true):Vis X.env.scope x:=by rw [O.sco];exact mR h
theorem XOk.units (O:XOk X k G sc):X.A.units+64 < cLine:=O.room.units
theorem Bb {a:Expr}{es:List Expr}{env:Env}(h:isStar a=false):starEach (a::es) env=(false,eval a env)::starEach es env:=by
 cases a <;> first | rfl | cases h
theorem Ao {pos:Pos}{env:Env}:∀ {es:List Expr},(es.all fun e=>!isStar e)=true->(backTo pos (starEach es env)).any (·.1)=false
 | [],_=>rfl
 | a::r,h=>by
  rw [List.all_cons,Bool.and_eq_true] at h;have h1:isStar a=false:=by simpa using h.1
  rw [Bb h1];show (false || (backTo pos (starEach r env)).any (·.1))=false;rw [Ao h.2];rfl
theorem K3 {pos:Pos}{env:Env}:∀ {es:List Expr},(es.all fun e=>!isStar e)=true->(backTo pos (starEach es env)).all (fun x=>!x.1)=true
 | [],_=>rfl
 | a::r,h=>by
  rw [List.all_cons,Bool.and_eq_true] at h;have h1:isStar a=false:=by simpa using h.1
  rw [Bb h1];show (true&&(backTo pos (starEach r env)).all (fun x=>!x.1))=true;rw [K3 h.2];rfl
theorem Br {o:Expr}{name:Str}{env:Env}{w:Sem Value}(h:baseOk o=true):attributeBase o name env w=w:=by
 cases o <;> try rfl
 rename_i f as kw p;cases f <;> try rfl
 cases as <;> try rfl
 cases kw <;> try rfl
 cases h
theorem Qp {e:Expr}{env:Env}(h:isSet e=false):∀ x,foldedSetIterable e env x=pure x:=by
 intro x;cases e <;> first | rfl | cases h
theorem Iz {op:CmpOp}{e:Expr}(h:isSet e=false):behindInMarks op e=false:=by
 cases e <;> first | rfl | cases h
theorem qD {b:Expr}(h:isSlice b=false):Kw b:=by
 intro o i;cases b <;> first | rfl | cases h
theorem Mq (O:XOk X k G sc) (scope:Scope):relabel scope X.env=Iv scope sc.scope:=by
 unfold relabel Iv Env.kindOf;rw [O.sco]
theorem Jq (O:XOk X k G sc) {scope:Scope}(h:K1 scope sc=true):CompOk X scope:=by
 unfold K1 at h;rw [Bool.and_eq_true,Bool.and_eq_true] at h;obtain ⟨h1,h2,h3⟩:=h;refine ⟨?_,of_decide_eq_true h2,fun p hp e=>?_⟩
 ·split at h1
  ·assumption
  ·cases h1
 ·have:=List.all_eq_true.mp h3 p hp;rw [e] at this;show X.env.scope.names.lookup p.1=_\/X.env.scope.names.lookup p.1=_;rw [O.sco];dsimp only at this;split at this
  ·exact .inl (by assumption)
  ·exact .inr (by assumption)
  ·cases this
theorem Qq {scope:Scope}(h:(scope.names.map (·.1)).Nodup):(Ca scope).Nodup:=by
 unfold Ca;exact h.sublist ((List.filter_sublist).map _)
theorem Tr (O:XOk X k G sc) (scope:Scope):CapOk X (Ca scope) scope (Mp sc.N scope):=by
 refine ⟨by unfold Mp;rw [List.length_map],fun i x j e1 e2=>?_⟩;unfold Mp at e2;rw [List.getElem?_map,e1] at e2;simp only [Option.map_some,Option.some.injEq] at e2;split at e2
 ·rename_i hl;exact ⟨hl,by rw [O.N];exact Ds e2⟩
 ·cases e2
theorem XOk.comp (O:XOk X k G sc) {scope:Scope}(h:K1 scope sc=true) (pins:List (Addr×Obj)) (C:Addr) (cells:List (Str×Addr)) (s₀:Shared) (H₀:Hp) (fp:List Addr) :
  XOk (Bo X pins (Ca scope) scope C cells s₀ H₀ fp) k G (Qn scope sc):=by
 have S:=Jq O h;refine ⟨rfl,Qq S.nd,Mq O scope,fun x hx hl=>?_,O.calm,rfl,O.room,O.g⟩;have hx:Y6 scope x=true:=hx;rcases Qo hx with q|q
 ·right;show (Iv scope sc.scope).names.lookup x=_;rw [← Mq O scope,Dy,q];rfl
 ·left;exact decide_eq_true (PySem.mem_of_lookup q)
theorem Tv {x:Str}{i:Nat}(h:iGn sc x=some i):Y6 sc.scope x=true/\sc.own x=true/\slot sc.N x=some i:=by
 unfold iGn at h;split at h
 ·rename_i hc;rw [Bool.and_eq_true] at hc;exact ⟨hc.1,hc.2,h⟩
 ·cases h
theorem XOk.name (O:XOk X k G sc) {x:Str}{i:Nat}{pos:Pos}(h:iGn sc x=some i):PG X (.Name x pos) (Ry i):=by
 obtain ⟨h1,h2,h3⟩:=Tv h;have hl:=Qo h1;refine Kv (by rw [O.N];exact O.nd) (by rw [O.N];exact Ds h3) (by rw [O.sco];exact hl) ?_;rw [O.sco];exact O.own x h2 hl
theorem XOk.names (O:XOk X k G sc) {es:List Expr}{is:List Nat}(h:iGs sc es=some is):PGs X es (gNs is)/\(assignEach es X.env).length=is.length/\(assignEach es X.env).findIdx? (·.1)=none:=by
 induction es generalizing is with
 | nil=>cases h;exact ⟨jM,rfl,rfl⟩
 | cons e r ih =>
  cases e with
  | Name x p =>
   simp only [iGs] at h;split at h
   ·rename_i i ei;split at h
    ·rename_i js ej;cases h;obtain ⟨h1,h2,h3⟩:=ih ej;refine ⟨Z6 (O.name ei) h1 rfl,?_,?_⟩
     ·show (assignEach r X.env).length+1=js.length+1;rw [h2]
     ·show List.findIdx? (fun x=>x.1) ((false,assign (.Name x p) X.env)::assignEach r X.env)=none;rw [List.findIdx?_cons];simp only [Bool.false_eq_true,if_false,h3];rfl
    ·cases h
   ·cases h
  | _=>cases h
theorem XOk.target (O:XOk X k G sc) {tg:Expr}{ws:List Nat}{g:GM}(h:iG sc tg=some (ws,g)):DG X tg ws g:=by
 cases tg with
 | Name x p =>
  simp only [iG] at h;split at h
  ·rename_i i ei;cases h;obtain ⟨h1,h2,h3⟩:=Tv ei;have hl:=Qo h1;refine lO (by rw [O.N];exact O.nd) (by rw [O.N];exact Ds h3) (by rw [O.sco];exact hl) ?_;rw [O.sco];exact O.own x h2 hl
  ·cases h
 | Tuple es kk p =>
  simp only [iG] at h;split at h
  ·rename_i is ei;cases h;obtain ⟨h1,h2,h3⟩:=O.names ei;exact uE O.calm h1 h2 h3
  ·cases h
 | _=>cases h
end
structure SndE (G:Gb) (n:Nat):Prop where
 e:∀ {X:Cx} {k:Nat} {sc:SC},XOk X k G sc->∀ e,DE X e (iE G n sc e)
 t:∀ {X:Cx} {k:Nat} {sc:SC},XOk X k G sc->∀ e,DT X e (iT G n sc e)
 a:∀ {X:Cx} {k:Nat} {sc:SC},XOk X k G sc->∀ es,DA X es (iA G n sc es)
 f:∀ {X:Cx} {k:Nat} {sc:SC},XOk X k G sc->∀ es,DIf X es (iF G n sc es)
 i:∀ {X:Cx} {k:Nat} {sc:SC},XOk X k G sc->∀ tg e,DI X tg e (iI G n sc tg e)
theorem W8 {X:Cx}{es:List Expr}:DIf X es Zb:=fun pins s σ H Q I ⟨loc,mh,ρ,b,mh',q,_⟩=>by cases q
theorem Ey {X:Cx}{tg e:Expr}:DI X tg e Zb:=fun loc mh=>Cd
theorem Qs {c:Str}{T:String}(h:tyOf c=some T):T∈["bool", "int", "str", "tuple", "list", "dict"]/\bootBuiltins c=some (.type T)/\c∈Iw:=by
 unfold tyOf at h;split at h
 ·rename_i e;cases h;rw [eq_of_beq e];exact ⟨by decide,boot_int,by decide +kernel⟩
 ·split at h
  ·rename_i e;cases h;rw [eq_of_beq e];exact ⟨by decide,boot_bool,by decide +kernel⟩
  ·split at h
   ·rename_i e;cases h;rw [eq_of_beq e];exact ⟨by decide,boot_str,by decide +kernel⟩
   ·split at h
    ·rename_i e;cases h;rw [eq_of_beq e];exact ⟨by decide,by decide +kernel,by decide +kernel⟩
    ·split at h
     ·rename_i e;cases h;rw [eq_of_beq e];exact ⟨by decide,by decide +kernel,by decide +kernel⟩
     ·split at h
      ·rename_i e;cases h;rw [eq_of_beq e];exact ⟨by decide,by decide +kernel,by decide +kernel⟩
      ·cases h
theorem Hv {X:Cx}{k:Nat}{G:Gb}{sc:SC}(O:XOk X k G sc) {e:Expr}{kvs:List (Str×D)}(h:Km G sc e=some kvs):∃ x p a,e=.Name x p/\Gl X x/\(x==("__debug__":Str))=false/\X.mg x=some (.ref a)/\DicOk X.w X.K a kvs:=by
 cases e with
 | Name x p =>
  simp only [Km] at h;split at h
  ·rename_i hc;rw [Bool.and_eq_true] at hc;obtain ⟨a,h1,h2⟩:=O.g.dic _ _ h;exact ⟨x,p,a,rfl,O.gl hc.1,by simpa using hc.2,h1,h2⟩
  ·cases h
 | _=>cases h
theorem Ko {G:Gb}{sc:SC}{op:CmpOp}{b:Expr}{neg:Bool}{kvs:List (Str×D)}(h:Jp G sc op b=some (neg,kvs)):Km G sc b=some kvs/\((op=.In/\neg=false)\/(op=.NotIn/\neg=true)):=by
 cases op <;> first | cases h;done | skip
 all_goals
  simp only [Jp] at h;split at h
  ·rename_i q;cases h;exact ⟨q,by simp⟩
  ·cases h
theorem cQ {X:Cx}{k:Nat}{G:Gb}{sc:SC}(O:XOk X k G sc) {op:CmpOp}{a b:Expr}{neg:Bool}{kvs:List (Str×D)}{ma:DM D}{p:Pos}(h:Jp G sc op b=some (neg,kvs)) (ha:DE X a ma):DE X (.Compare a [op] [b] p) (Gh neg kvs ma):=by
 obtain ⟨h0,h1⟩:=Ko h;obtain ⟨x,p',ad,rfl,g1,g2,g3,g4⟩:=Hv O h0;rcases h1 with ⟨rfl,rfl⟩|⟨rfl,rfl⟩
 ·exact bW g4 g1 g3 g2 ha
 ·exact Tc g4 g1 g3 g2 ha
theorem cR {X:Cx}{k:Nat}{G:Gb}{sc:SC}(O:XOk X k G sc) {op:CmpOp}{a b:Expr}{neg:Bool}{kvs:List (Str×D)}{ma:DM D}{p:Pos}(h:Jp G sc op b=some (neg,kvs)) (ha:DE X a ma):DT X (.Compare a [op] [b] p) (Ag (Gh neg kvs ma)):=by
 obtain ⟨h0,h1⟩:=Ko h;obtain ⟨x,p',ad,rfl,g1,g2,g3,g4⟩:=Hv O h0;rcases h1 with ⟨rfl,rfl⟩|⟨rfl,rfl⟩
 ·exact bY g4 g1 g3 g2 ha
 ·exact Te g4 g1 g3 g2 ha
theorem Qt {X:Cx}{a:Expr}{es:List Expr}{p:Pos}(hs:isStar a=false) (hr:(es.all fun e=>!isStar e)=true) (hk:(a::es).length < 20):((backTo p (starEach (a::es) X.env)).all (fun x=>!x.1)&&(backToKw p (keywordEach [] X.env)).all (fun x=>x.1.isSome)&&decide ((a::es).length+([]:List Keyword).length+(if ([]:List Keyword).isEmpty then 0 else 1) < 30))=true:=by
 rw [K3 (by rw [List.all_cons,hs,hr];rfl)];have:decide ((a::es).length+([]:List Keyword).length+(if ([]:List Keyword).isEmpty then 0 else 1) < 30)=true:=decide_eq_true (by simp;simp at hk;omega);rw [this];rfl
theorem cT {X:Cx}{k:Nat}{G:Gb}{sc:SC}(O:XOk X k G sc) {f:Str}{g:Fn}{p pos:Pos}{a:Expr}{es:List Expr}{mr:DM (List D)}(h:cP f=some g) (hg:glB sc.scope f=true) (ha:DA X (a::es) mr) (hn:f ≠ "__name__") (hd:(f==("__debug__":Str))=false) (hs:isStar a=false) (hr:(es.all fun e=>!isStar e)=true) :
  DE X (.Call (.Name f p) (a::es) [] pos) (mr.bnd fun ds=>Zl (g ds)):=by
 unfold cP at h;split at h
 ·rename_i e;cases h;rw [eq_of_beq e] at hg hn hd ⊢;exact Dz Yh (O.gl hg) (O.g.blt _ (by decide +kernel)) PySem.boot_len ha hn hd (Bb hs) (Ao hr)
 ·split at h
  ·rename_i e;cases h;rw [eq_of_beq e] at hg hn hd ⊢;exact Gw (Iu (f:=.type "list")) (O.gl hg) (O.g.blt _ (by decide +kernel)) (by decide +kernel) ha hn hd (Bb hs) (Ao hr)
  ·split at h
   ·rename_i e;cases h;rw [eq_of_beq e] at hg hn hd ⊢;exact Gw R8 (O.gl hg) (O.g.blt _ (by decide +kernel)) (by decide +kernel) ha hn hd (Bb hs) (Ao hr)
   ·split at h
    ·rename_i e;cases h;rw [eq_of_beq e] at hg hn hd ⊢;exact Dz (Yn O.calm) (O.gl hg) (O.g.blt _ (by decide +kernel)) (by decide +kernel) ha hn hd (Bb hs) (Ao hr)
    ·split at h
     ·rename_i e;cases h;rw [eq_of_beq e] at hg hn hd ⊢;exact Dz (Iu (f:=.builtin "any")) (O.gl hg) (O.g.blt _ (by decide +kernel)) (by decide +kernel) ha hn hd (Bb hs) (Ao hr)
     ·split at h
      ·rename_i e;cases h;rw [eq_of_beq e] at hg hn hd ⊢;exact Dz (Iu (f:=.builtin "max")) (O.gl hg) (O.g.blt _ (by decide +kernel)) (by decide +kernel) ha hn hd (Bb hs) (Ao hr)
      ·split at h
       ·rename_i e;cases h;rw [eq_of_beq e] at hg hn hd ⊢;exact Dz (Vo O.calm) (O.gl hg) (O.g.blt _ (by decide +kernel)) (by decide +kernel) ha hn hd (Bb hs) (Ao hr)
       ·split at h
        ·rename_i e;cases h;rw [eq_of_beq e] at hg hn hd ⊢;exact Gw (uU Yv Y4) (O.gl hg) (O.g.blt _ (by decide +kernel)) (by decide +kernel) ha hn hd (Bb hs) (Ao hr)
        ·split at h
         ·rename_i e;cases h;rw [eq_of_beq e] at hg hn hd ⊢;exact Dz (Iu (f:=.builtin "sorted")) (O.gl hg) (O.g.blt _ (by decide +kernel)) (by decide +kernel) ha hn hd (Bb hs) (Ao hr)
         ·split at h
          ·rename_i e;cases h;rw [eq_of_beq e] at hg hn hd ⊢;exact Dz (Iu (f:=.builtin "sum")) (O.gl hg) (O.g.blt _ (by decide +kernel)) (by decide +kernel) ha hn hd (Bb hs) (Ao hr)
          ·split at h
           ·rename_i e;cases h;rw [eq_of_beq e] at hg hn hd ⊢;exact Gw Yz (O.gl hg) (O.g.blt _ (by decide +kernel)) (by decide +kernel) ha hn hd (Bb hs) (Ao hr)
           ·cases h
theorem Vv {X:Cx}{m:Str}{T:String}{f:D->List D->MH->Option (D×MH)}{o:Expr}{mo:DM D}{ap p:Pos}(h:Jo m 0=some (T,f)) (ho:DE X o mo) (hb:baseOk o=true) (hl:(ap.endLine==p.line)=true):DE X (.Call (.Attribute o m ap) [] [] p) (Ay T f mo (Zr [])):=by
 unfold Jo at h;split at h
 ·rename_i e;rw [Bool.and_eq_true] at e;exact absurd e.2 (by decide)
 ·split at h
  ·rename_i e;rw [Bool.and_eq_true] at e;cases h;rw [eq_of_beq e.1];exact bI PySem.F.plainAttrs_int PySem.F.slot_int_bit_length PySem.F.type_int_bit_length Ml ho (Br hb) hl
  ·split at h
   ·rename_i e;rw [Bool.and_eq_true] at e;exact absurd e.2 (by decide)
   ·split at h
    ·rename_i e;rw [Bool.and_eq_true] at e;cases h;rw [eq_of_beq e.1];exact bI PySem.F.plainAttrs_list PySem.F.slot_list_pop PySem.F.type_list_pop mC ho (Br hb) hl
    ·split at h
     ·rename_i e;rw [Bool.and_eq_true] at e;exact absurd e.2 (by decide)
     ·split at h
      ·rename_i e;rw [Bool.and_eq_true] at e;exact absurd e.2 (by decide)
      ·split at h
       ·rename_i e;rw [Bool.and_eq_true] at e;exact absurd e.2 (by decide)
       ·split at h
        ·rename_i e;rw [Bool.and_eq_true] at e;exact absurd e.2 (by decide)
        ·split at h
         ·rename_i e;rw [Bool.and_eq_true] at e;exact absurd e.2 (by decide)
         ·split at h
          ·rename_i e;rw [Bool.and_eq_true] at e;exact absurd e.2 (by decide)
          ·cases h
theorem Y8 {X:Cx}{m:Str}{T:String}{f:D->List D->MH->Option (D×MH)}{o a:Expr}{es:List Expr}{mo:DM D}{mr:DM (List D)}{ap p:Pos}(h:Jo m (a::es).length=some (T,f)) (ho:DE X o mo) (ha:DA X (a::es) mr) (hb:baseOk o=true) (hl:(ap.endLine==p.line)=true) (hs:isStar a=false) (hr:(es.all fun e=>!isStar e)=true) (hk:(a::es).length < 20) :
  DE X (.Call (.Attribute o m ap) (a::es) [] p) (Ay T f mo mr):=by
 have few:((backTo p (starEach (a::es) X.env)).all (fun x=>!x.1)&&(backToKw p (keywordEach [] X.env)).all (fun x=>x.1.isSome)&&decide ((a::es).length+([]:List Keyword).length+(if ([]:List Keyword).isEmpty then 0 else 1) < 30))=true:=by
  rw [K3 (by rw [List.all_cons,hs,hr];rfl)];have:decide ((a::es).length+([]:List Keyword).length+(if ([]:List Keyword).isEmpty then 0 else 1) < 30)=true:=decide_eq_true (by simp;simp at hk;omega);rw [this];rfl
 unfold Jo at h;split at h
 ·rename_i e;rw [Bool.and_eq_true] at e;cases h;rw [eq_of_beq e.1];exact Ga PySem.F.plainAttrs_list PySem.F.slot_list_append PySem.F.type_list_append Mf ho ha (Br hb) few hl (Bb hs) (Ao hr)
 ·split at h
  ·rename_i e;rw [Bool.and_eq_true] at e;exact absurd (eq_of_beq e.2) (by simp)
  ·split at h
   ·rename_i e;rw [Bool.and_eq_true] at e;cases h;rw [eq_of_beq e.1];exact Ga PySem.F.plainAttrs_list PySem.F.slot_list_pop PySem.F.type_list_pop Ml ho ha (Br hb) few hl (Bb hs) (Ao hr)
   ·split at h
    ·rename_i e;rw [Bool.and_eq_true] at e;exact absurd (eq_of_beq e.2) (by simp)
    ·split at h
     ·rename_i e;rw [Bool.and_eq_true] at e;cases h;rw [eq_of_beq e.1];exact Ga PySem.F.plainAttrs_list PySem.F.slot_list_extend PySem.F.type_list_extend Vj ho ha (Br hb) few hl (Bb hs) (Ao hr)
     ·split at h
      ·rename_i e;rw [Bool.and_eq_true] at e;cases h;rw [eq_of_beq e.1];exact Ga PySem.F.plainAttrs_tuple PySem.F.slot_tuple_index PySem.F.type_tuple_index Ml ho ha (Br hb) few hl (Bb hs) (Ao hr)
      ·split at h
       ·rename_i e;rw [Bool.and_eq_true] at e;cases h;rw [eq_of_beq e.1];exact Ga PySem.F.plainAttrs_str PySem.F.slot_str_join PySem.F.type_str_join cJ ho ha (Br hb) few hl (Bb hs) (Ao hr)
       ·split at h
        ·rename_i e;rw [Bool.and_eq_true] at e;cases h;rw [eq_of_beq e.1];exact Ga PySem.F.plainAttrs_str PySem.F.slot_str_split PySem.F.type_str_split Yy ho ha (Br hb) few hl (Bb hs) (Ao hr)
        ·split at h
         ·rename_i e;rw [Bool.and_eq_true] at e;cases h;rw [eq_of_beq e.1];exact Ga PySem.F.plainAttrs_str PySem.F.slot_str_lstrip PySem.F.type_str_lstrip Vs ho ha (Br hb) few hl (Bb hs) (Ao hr)
         ·split at h
          ·rename_i e;rw [Bool.and_eq_true] at e;cases h;rw [eq_of_beq e.1];exact Ga PySem.F.plainAttrs_str PySem.F.slot_str_rstrip PySem.F.type_str_rstrip Vt ho ha (Br hb) few hl (Bb hs) (Ao hr)
          ·cases h
theorem Vw {X:Cx}{k:Nat}{G:Gb}{sc:SC}(O:XOk X k G sc) {a b:Expr}{op:CmpOp}{i j:Nat}{pos:Pos}(h:W7 sc a op b=some (i,j)) :
  DE X (.Compare a [op] [b] pos) (bM (fun loc mh=>match loc[i]? with | some (some d)=>some (d,mh) | _=>none) (fun loc mh=>match loc[j]? with | some (some d)=>some (d,mh) | _=>none)):=by cases h
theorem cU (G:Gb):SndE G 0:=⟨fun _ _=>Ad,fun _ _=>Dg,fun _ _=>aV,fun _ _=>W8,fun _ _ _=>Ey⟩
theorem zP {G:Gb}{n:Nat}(S:SndE G n) {X:Cx}{k:Nat}{sc:SC}(O:XOk X k G sc) (es:List Expr):DA X es (iA G (n+1) sc es):=by
 cases es with
 | nil=>exact tO
 | cons a r =>
  show DA X (a::r) (if isStar a then Zb else Aa (iE G n sc a) (iA G n sc r));split
  ·exact aV
  ·rename_i h;exact lB (S.e O a) (S.a O r) (Bb (by simpa using h))
theorem zQ {G:Gb}{n:Nat}(S:SndE G n) {X:Cx}{k:Nat}{sc:SC}(O:XOk X k G sc) (es:List Expr):DIf X es (iF G (n+1) sc es):=by
 cases es with
 | nil=>exact lR
 | cons a r =>
  cases r with
  | nil=>exact lU (S.t O a)
  | cons b r=>exact W8
theorem zR {G:Gb}{n:Nat}(S:SndE G n) {X:Cx}{k:Nat}{sc:SC}(O:XOk X k G sc) (tg e:Expr):DI X tg e (iIb (iE G n) (iT G n) (iA G n) (iF G n) (iI G n) G sc tg e):=by
 cases e with
 | Call ff args kws p' =>
  cases ff with
  | Name f p =>
   cases args with
   | nil=>exact Cr (S.e O _)
   | cons a r =>
    cases r with
    | nil =>
     cases kws with
     | nil =>
      delta iIb
      dsimp only;split
      ·rename_i h;rw [Bool.and_eq_true] at h;split
       ·exact Ey
       ·rename_i hs;have hs:isStar a=false:=by simpa using hs
        have e:=eq_of_beq h.1;subst e;exact Yl (O.gl h.2) (O.g.blt _ (by decide +kernel)) (S.a O [a]) (Bb hs)
      ·split
       ·rename_i h;rw [Bool.and_eq_true] at h;split
        ·exact Ey
        ·rename_i hs;have hs:isStar a=false/\Dh tg=true:=by simpa using hs
         have e:=eq_of_beq h.1;subst e;cases tg with
         | Tuple es kk tp=>exact Ey
         | _=>cases hs.2
       ·exact Cr (S.e O _)
     | cons _ _=>exact Cr (S.e O _)
    | cons b r =>
     cases r with
     | nil =>
      cases kws with
      | nil =>
       delta iIb
       dsimp only;split
       ·rename_i h;rw [Bool.and_eq_true] at h;split
        ·exact Ey
        ·rename_i hs;have hs:isStar a=false/\isStar b=false:=by simpa using hs
         have e:=eq_of_beq h.1;subst e;exact Ey
       ·split
        ·rename_i h;rw [Bool.and_eq_true] at h;split
         ·exact Ey
         ·rename_i hs;have hs:(isStar a=false/\isStar b=false)/\Dh tg=true:=by simpa using hs
          have e:=eq_of_beq h.1;subst e;cases tg with
          | Tuple elts kk tp=>exact Ey
          | _=>cases hs.2
        ·exact Cr (S.e O _)
      | cons _ _=>exact Cr (S.e O _)
     | cons c r =>
      cases r with
      | cons _ _=>exact Cr (S.e O _)
      | nil =>
       cases kws with
       | cons _ _=>exact Cr (S.e O _)
       | nil =>
        delta iIb
        dsimp only;split
        ·rename_i h;rw [Bool.and_eq_true] at h;split
         ·exact Ey
         ·rename_i hs;have hs:(isStar a=false/\isStar b=false)/\isStar c=false:=by simpa using hs
          have e:=eq_of_beq h.1;subst e;exact Ey
        ·exact Cr (S.e O _)
  | _=>exact Cr (S.e O _)
 | _=>exact Cr (S.e O _)
theorem qF {X:Cx}{op:BoolOp}{vs:List Expr}{p:Pos}{m:DM Bool}(h:DT X (.BoolOp op vs p) m):DW X (.BoolOp op vs p) m:=fun loc mh wh pins s σ H Q I q=>h loc mh pins s σ H Q I q
theorem zT {G:Gb}{n:Nat}(S:SndE G n) {X:Cx}{k:Nat}{sc:SC}(O:XOk X k G sc) (e:Expr):DT X e (iTb (iE G n) (iT G n) (iA G n) (iF G n) (iI G n) G sc e):=by
 cases e with
 | UnaryOp op a p =>
  cases op with
  | Not=>exact tH (S.t O _)
  | _=>exact R6 (S.e O _) fun _=>rfl
 | BoolOp op vs p =>
  cases vs with
  | nil=>cases op <;> exact Dg
  | cons a r =>
   cases r with
   | nil =>
    cases op
    ·exact (kZ (S.t O a)).dt
    ·exact (tB (S.t O a)).dt
   | cons b r =>
    cases op
    ·exact (tE (S.t O _) (qF (S.t O _))).dt
    ·exact (yZ (S.t O _) (qF (S.t O _))).dt
 | IfExp c a b p=>exact Dg
 | Compare a ops cs p =>
  cases ops with
  | nil=>exact Dg
  | cons op ops =>
   cases ops with
   | nil =>
    cases cs with
    | nil=>exact Dg
    | cons b cs =>
     cases cs with
     | cons _ _=>exact Dg
     | nil =>
      delta iTb
      dsimp only;split
      ·rename_i neg kvs hd;exact cR O hd (S.e O _)
      ·split
       ·exact Dg
       ·rename_i h;exact sZ (Ff O.units _) (Iz (by simpa using h)) (S.e O _) (S.e O _)
   | cons op' ops =>
    cases ops with
    | cons _ _=>exact Dg
    | nil =>
     cases cs with
     | nil=>exact Dg
     | cons b cs =>
      cases cs with
      | nil=>exact Dg
      | cons c cs =>
       cases cs with
       | cons _ _=>exact Dg
       | nil =>
        delta iTb
        dsimp only;split
        ·exact Dg
        ·rename_i h;exact bH (Ff O.units _) (Ff O.units _) (by show behindInMarks _ _=false;exact Iz (by simpa using h)) (S.e O _) (S.e O _) (S.e O _)
 | _=>exact R6 (S.e O _) fun _=>rfl
theorem zU {G:Gb}{n:Nat}(S:SndE G n) {X:Cx}{k:Nat}{sc:SC}(O:XOk X k G sc) (e:Expr):DE X e (iEb (iE G n) (iT G n) (iA G n) (iF G n) (iI G n) G sc e):=by
 cases e with
 | Constant c _ _ =>
  cases c with
  | int i=>exact kW qW fun _ _ _=>.int _
  | bool b=>exact kW xR fun _ _ _=>.bl _
  | none=>exact kW qX fun _ _ _=>.non
  | str x=>exact kW qY fun _ _ _=>.str _
  | _=>exact Ad
 | Name x p =>
  delta iEb
  dsimp only;split
  ·rename_i h;rw [Bool.and_eq_true,Bool.and_eq_true] at h;obtain ⟨⟨h1,h2⟩,h3⟩:=h;split
   ·rename_i i ei;exact sX (by rw [O.N];exact Ds ei) (O.vis h1) (by simpa using h2) (by simpa using h3)
   ·exact Ad
  ·split
   ·rename_i h;rw [Bool.and_eq_true] at h;split
    ·rename_i d ed;obtain ⟨u,v,h1,h2,h3⟩:=O.g.con _ _ ed;exact fun loc mh=>Bc (Fo (O.gl h.1) h1 h2 (by simpa using h.2)) fun σ H Q ⟨ρ,d',mh',q,rl,rs,co⟩=>by
      cases q;exact co H ρ v Ev.refl rs (h3 H ρ)
    ·exact Ad
   ·exact Ad
 | BinOp a op b _ =>
  delta iEb
  dsimp only;split
  ·rename_i f ef;exact yV (mO ef) (S.e O _) (S.e O _)
  ·exact Ad
 | UnaryOp op a _ =>
  cases op with
  | USub=>exact yX lX (S.e O _)
  | Not=>exact tM (S.e O _)
  | _=>exact Ad
 | BoolOp op vs _ =>
  cases vs with
  | nil=>cases op <;> exact Ad
  | cons a r =>
   cases r with
   | nil=>cases op <;> exact tK (S.e O _)
   | cons b r =>
    cases op
    ·exact tL (S.e O _) (S.e O _)
    ·exact zB (S.e O _) (S.e O _)
 | Compare a ops cs _ =>
  cases ops with
  | nil=>exact Ad
  | cons op ops =>
   cases ops with
   | nil =>
    cases cs with
    | nil=>exact Ad
    | cons b cs =>
     cases cs with
     | cons _ _=>exact Ad
     | nil =>
      delta iEb
      dsimp only;split
      ·rename_i i j hp;exact Vw O hp
      ·split
       ·rename_i neg kvs hd;exact cQ O hd (S.e O _)
       ·split
        ·exact Ad
        ·rename_i h;exact sY (Ff O.units _) (Iz (by simpa using h)) (S.e O _) (S.e O _)
   | cons op' ops =>
    cases ops with
    | cons _ _=>exact Ad
    | nil =>
     cases cs with
     | nil=>exact Ad
     | cons b cs =>
      cases cs with
      | nil=>exact Ad
      | cons c cs =>
       cases cs with
       | cons _ _=>exact Ad
       | nil =>
        delta iEb
        dsimp only;split
        ·exact Ad
        ·rename_i h;exact bG (Ff O.units _) (Ff O.units _) (by show behindInMarks _ _=false;exact Iz (by simpa using h)) (S.e O _) (S.e O _) (S.e O _)
 | IfExp c a b _=>exact zA (S.t O _) (S.e O _) (S.e O _)
 | Tuple es _ _=>exact tQ (S.a O _)
 | List es _=>exact tU (S.a O _)
 | Dict ks vs p =>
  delta iEb
  dsimp only;split
  ·rename_i h;rw [Bool.and_eq_true,Bool.and_eq_true] at h;exact Ad
  ·exact Ad
 | Subscript a b _ =>
  have gen:DE X (.Subscript a b ‹_›) (if isSlice b then Zb else (match Km G sc a with | some kvs=>Mh kvs (iE G n sc b) | none=>dop ixD (iE G n sc a) (iE G n sc b))):=by
   split
   ·exact Ad
   ·rename_i h;split
    ·rename_i kvs hd;obtain ⟨x,p,a,rfl,h1,h2,h3,h4⟩:=Hv O hd;exact bZ h4 h1 h3 h2 (S.e O _) (qD (by simpa using h))
    ·exact yW Abk (qD (by simpa using h)) (S.e O _) (S.e O _)
  cases b with
  | Slice lo hi st _ =>
   cases st with
   | none =>
    refine Yx (S.e O _) ?_ ?_
    ·cases lo with
     | none=>trivial
     | some e=>exact S.e O e
    ·cases hi with
     | none=>trivial
     | some e=>exact S.e O e
   | some s=>exact gen
  | _=>exact gen
 | Attribute o f _ =>
  delta iEb
  dsimp only;split
  ·rename_i h;exact Ad
  ·exact Ad
 | Call ff args kws p' =>
  cases ff with
  | Name f p =>
   cases kws with
   | cons kw ks =>
    cases args with
    | nil=>exact Ad
    | cons a es =>
     cases es with
     | cons _ _=>exact Ad
     | nil =>
      delta iEb
      dsimp only;split
      ·rename_i h;simp only [Bool.and_eq_true] at h;obtain ⟨⟨⟨h1,h4⟩,h5⟩,h6⟩:=h;have h4:isStar a=false:=by simpa using h4
       have h6:ks=[]:=by simpa using h6
       subst h6;obtain ⟨j,cp,kp,rfl⟩:=Tq h5;split
       ·rename_i hf;have e:=eq_of_beq hf;subst e;exact Ad
       ·split
        ·rename_i hf;have e:=eq_of_beq hf;subst e;exact Ad
        ·exact Ad
      ·exact Ad
   | nil =>
    cases args with
    | nil =>
     delta iEb
     dsimp only;split
     ·rename_i h;rw [Bool.and_eq_true] at h;split
      ·rename_i g eg;obtain ⟨fa,fd,h1,h2,h3,h4,h5⟩:=O.g.fn _ _ _ eg;exact bD (E:=E0) h4 O.room (O.gl h.1) h1 h2 h3 pP (by simpa using h.2)
      ·exact Ad
     ·exact Ad
    | cons a es =>
     delta iEb
     dsimp only;split
     ·rename_i h;simp only [Bool.and_eq_true] at h;obtain ⟨⟨⟨⟨h1,h2⟩,h3⟩,h4⟩,h5⟩:=h;have h4:isStar a=false:=by simpa using h4
      exact Ad
     split
     ·rename_i h;simp only [Bool.and_eq_true] at h;obtain ⟨⟨⟨⟨h1,h2⟩,h3⟩,h4⟩,h5⟩:=h
      have h2:(f==("__debug__":Str))=false:=by simpa using h2
      have h3:f ≠ "__name__":=by simpa using h3
      have h4:isStar a=false:=by simpa using h4
      split
      ·rename_i ps g eg;obtain ⟨fa,fd,g1,g2,g3,g4,g5⟩:=O.g.fn _ _ _ eg;exact lW (E:=E0) g4 O.room (O.gl h1) g1 g2 g3 pP (S.a O _) g5 h2 (Bb h4) (Ao h5)
      ·split
       ·rename_i fl hb;exact Ad
       split
       ·rename_i b hb;cases hb
       ·split
        ·rename_i b c hb;cases hb
        ·split
         ·rename_i b hb;cases hb
         ·split
          ·rename_i hf;split
           ·rename_i c pc;split
            ·rename_i hc;simp only [Bool.and_eq_true] at hc;obtain ⟨⟨c1,c2⟩,c3⟩:=hc;split
             ·rename_i T eT;obtain ⟨t1,t2,t3⟩:=Qs eT;have e:=eq_of_beq hf;subst e;exact uI t1 (O.gl h1) (O.g.blt _ (by decide +kernel)) (O.gl c1) (O.g.blt _ t3) t2 (by simpa using c3) (by simpa using c2) (S.e O a) (Bb h4)
             ·exact Ad
            ·exact Ad
           ·rename_i c pc e pe kk pt;split
            ·rename_i hc;simp only [Bool.and_eq_true] at hc;obtain ⟨⟨⟨⟨⟨c1,c2⟩,c3⟩,c4⟩,c5⟩,c6⟩:=hc;split
             ·rename_i T U eT eU;obtain ⟨t1,t2,t3⟩:=Qs eT;obtain ⟨u1,u2,u3⟩:=Qs eU;have e:=eq_of_beq hf;subst e;exact mL t1 u1 (O.gl h1) (O.g.blt _ (by decide +kernel)) (O.gl c1) (O.g.blt _ t3) t2 (by simpa using c3) (by simpa using c2) (O.gl c4) (O.g.blt _ u3) u2 (by simpa using c6) (by simpa using c5) (S.e O a) (Bb h4) (Bb rfl)
             ·exact Ad
            ·exact Ad
           ·exact Ad
          ·split
           ·rename_i g eg;exact cT O eg h1 (S.a O _) h3 h2 h4 h5
           ·exact Ad
     ·exact Ad
  | Attribute o m ap =>
   cases kws with
   | cons _ _=>cases args <;> exact Ad
   | nil =>
    cases args with
    | nil =>
     delta iEb
     dsimp only;split
     ·rename_i h;rw [Bool.and_eq_true] at h;split
      ·rename_i T f eT;exact Vv eT (S.e O _) h.1 h.2
      ·exact Ad
     ·exact Ad
    | cons a es =>
     delta iEb
     dsimp only;split
     ·rename_i h;simp only [Bool.and_eq_true] at h;obtain ⟨⟨⟨⟨h1,h2⟩,h3⟩,h4⟩,h5⟩:=h;split
      ·rename_i hm;have em:=eq_of_beq hm;subst em;rw [Bool.not_eq_true'] at h3;split
       ·rename_i kvs hd;exact Ad
       ·exact Ad
      split
      ·rename_i hm;rw [Bool.and_eq_true] at hm;have em:=eq_of_beq hm.1;subst em;rw [Bool.not_eq_true'] at h3;exact S7 (Ga PySem.F.plainAttrs_tuple PySem.F.slot_tuple_count PySem.F.type_tuple_count Ml (S.e O _) (S.a O _) (Br h1) (Qt h3 h4 (of_decide_eq_true h5)) h2 (Bb h3) (Ao h4))
        (Ga PySem.F.plainAttrs_list PySem.F.slot_list_count PySem.F.type_list_count Ml (S.e O _) (S.a O _) (Br h1) (Qt h3 h4 (of_decide_eq_true h5)) h2 (Bb h3) (Ao h4))
      split
      ·rename_i hm;rw [Bool.and_eq_true] at hm;have em:=eq_of_beq hm.1;subst em;rw [Bool.not_eq_true'] at h3;exact S7 (Ga PySem.F.plainAttrs_tuple PySem.F.slot_tuple_index PySem.F.type_tuple_index Ml (S.e O _) (S.a O _) (Br h1) (Qt h3 h4 (of_decide_eq_true h5)) h2 (Bb h3) (Ao h4))
        (Ga PySem.F.plainAttrs_list PySem.F.slot_list_index PySem.F.type_list_index Ml (S.e O _) (S.a O _) (Br h1) (Qt h3 h4 (of_decide_eq_true h5)) h2 (Bb h3) (Ao h4))
      split
      ·rename_i T f eT;exact Y8 eT (S.e O _) (S.a O _) h1 h2 (by simpa using h3) h4 (of_decide_eq_true h5)
      ·rw [Bool.not_eq_true'] at h3;exact Ad
     ·exact Ad
  | _=>cases args <;> exact Ad
 | ListComp elt gens scope p =>
  cases gens with
  | nil=>exact Ad
  | cons g gens =>
   obtain ⟨tg,iter,ifs,kk⟩:=g;cases gens with
   | cons _ _=>exact Ad
   | nil =>
    delta iEb
    dsimp only;split
    ·rename_i h;simp only [Bool.and_eq_true] at h;obtain ⟨⟨h1,h2⟩,h3⟩:=h;have e:=eq_of_beq h1;subst e;split
     ·rename_i ws g eg;split
      ·rename_i hw;refine lV (N':=Ca scope) O.calm (Jq O h2) (Tr O scope) (fun i hi j q=>?_) (S.i O tg iter) (fun p C c s h f=>(O.comp h2 p C c s h f).target eg) (fun p C c s h f=>S.f (O.comp h2 p C c s h f) ifs) (fun p C c s h f=>S.e (O.comp h2 p C c s h f) elt) (Qp (by simpa using h3));have z:=List.all_eq_true.mp hw i hi;rw [q] at z;cases z
      ·exact Ad
     ·exact Ad
    ·exact Ad
 | _=>exact Ad
theorem snd (G:Gb):∀ n,SndE G n
 | 0=>cU G
 | n+1=>⟨fun O=>zU (snd G n) O,fun O=>zT (snd G n) O,fun O=>zP (snd G n) O,fun O=>zQ (snd G n) O,fun O=>zR (snd G n) O⟩
section
variable {K:PySem.W.Frag}{H:Hp}{ρ:List Addr}
end
section
variable {P:Program}{w:World}{H:Hp}{h h2:Heap}{pl c a:Addr}{tb more:Array Value}{oc ob:Obj}{fs:List Addr}
end
section
variable {X:Cx}
end
theorem Eb {K:PySem.W.Frag}{H:Hp}{ρ:List Addr}{N:List Str}{ds:List D}{vs:List V}(r:RDs K H ρ ds vs):RL K H ρ (ds.map some++List.replicate (N.length - ds.length) none) (L2.start N vs):=by
 have hl:=r.length;unfold L2.start;refine ⟨by simp [hl],fun i d e=>?_⟩
 by_cases hi:i < ds.length
 ·rw [List.getElem?_append_left (by simpa using hi),List.getElem?_map] at e;cases q:ds[i]? with
  | none=>rw [q] at e;cases e
  | some d' =>
   rw [q] at e;cases e;obtain ⟨v,e1,r1⟩:=r.get q;exact ⟨v,by rw [List.getElem?_append_left (by simp;omega),List.getElem?_map,e1];rfl,r1⟩
 ·rw [List.getElem?_append_right (by simpa using hi),List.getElem?_replicate] at e;split at e <;> cases e
theorem G3 {X:Cx}{st:Stmt}{g:GM}:DS X st (Bg Zb g):=fun _ _ _ _ _ _ h=>by obtain ⟨_,_,_,_,_,_,e,_⟩:=h;cases e
theorem Vx {G:Gb}{X:Cx}{k:Nat}{sc:SC}(O:XOk X k G sc) (n:Nat) {y:Str}{py vp spos:Pos}{elt:Expr}{gens:List Comprehension}{scope:Scope}{ws:List Nat}{gy:GM}(hgy:iG sc (.Name y py)=some (ws,gy)) :
  DS X (.Assign [.Name y py] (.ListComp elt gens scope vp) spos) (Bg (iE G n sc (.ListComp elt gens scope vp)) gy):=by
 have hg:=O.target hgy;have sw:swapsWith (.ListComp elt gens scope vp) (some (.Name y py)) spos.line X.env=pure (X.env.blockKind==.function&&X.env.kindOf y==some .local&&py.line==vp.line&&!(scope.names.any fun (n,k)=>n==y&&(k==.local || k==.cell))):=rfl;cases hb:(X.env.blockKind==.function&&X.env.kindOf y==some .local&&py.line==vp.line&&!(scope.names.any fun (n,k)=>n==y&&(k==.local || k==.cell))) with
 | false =>
  rw [hb] at sw;exact Ve ((snd G n).e O _) hg sw rfl rfl
 | true =>
  rw [hb] at sw;cases n with
  | zero=>exact G3
  | succ n =>
   show DS X _ (Bg (iEb (iE G n) (iT G n) (iA G n) (iF G n) (iI G n) G sc _) gy)
   match gens with
   | []=>exact G3
   | ⟨_,_,_,_⟩::_::_=>exact G3
   | [⟨tg,iter,ifs,kk⟩] =>
    delta iEb
    dsimp only;split
    ·rename_i h;simp only [Bool.and_eq_true] at h;obtain ⟨⟨h1,h2⟩,h3⟩:=h;have e:=eq_of_beq h1;subst e;split
     ·rename_i ws g eg;split
      ·rename_i hw;refine Vf (N':=Ca scope) O.calm (Jq O h2) (Tr O scope) (fun i hi j q=>?_) ((snd G n).i O tg iter) (fun p C c s h f=>(O.comp h2 p C c s h f).target eg) (fun p C c s h f=>(snd G n).f (O.comp h2 p C c s h f) ifs) (fun p C c s h f=>(snd G n).e (O.comp h2 p C c s h f) elt) hg sw (Qp (by simpa using h3));have z:=List.all_eq_true.mp hw i hi;rw [q] at z;cases z
      ·exact G3
     ·exact G3
    ·exact G3
theorem Mr {v tg:Expr}{line:Nat}{env:Env}(h:Gz v=false):swapsWithSole [tg] v line env=pure false:=by
 show swapsWith v (some tg) line env=pure false;cases v <;> first | rfl | cases h
theorem G4 {v:Expr}{line:Nat}{env:Env}(h:Gz v=false):swapsWith v none line env=pure false:=by
 cases v <;> first | rfl | cases h
theorem Gj {v tg:Expr}{env:Env}(h:(Dh tg&&Dh v)=false) (hl:∀ es p,tg≠.List es p):swappedStores [tg] v env=pure none:=by
 cases tg with
 | Tuple ts kk p =>
  cases v with
  | Tuple vs k2 p2=>cases h
  | _=>rfl
 | List es p=>exact (hl es p rfl).elim
 | _=>first | rfl | (cases v <;> rfl)
theorem vG {x y:Str}{a b:Expr}{px py pt pt2:Pos}{kt k2:Nat}{env:Env}(hb:(env.blockKind==.function)=true) (hx:(env.kindOf x==some .local)=true) (hy:(env.kindOf y==some .local)=true) (hl:(py.line==px.line)=true) (hne:(x==y)=false) (sa:isStar a=false) (sb:isStar b=false)
  (hf:[a,b].all (foldedForSure 8)=false) (hc:[a,b].all (constantsAlone 8)=false):swappedStores [.Tuple [.Name x px,.Name y py] kt pt] (.Tuple [a,b] k2 pt2) env=pure (some [x,y]):=by
 have he:([x,y].eraseDups.length != [x,y].length)=false:=by
  have:(y==x)=false:=by
   cases q:(y==x) with
   | false=>rfl
   | true=>rw [eq_of_beq q] at hne;simp at hne
  simp [List.eraseDups_cons,this,hne]
 have hbk:(env.blockKind != .function)=false:=by rw [bne,hb];rfl
 have e1:(Option.map (fun e:Expr=>e.pos.line) [Expr.Name x px,Expr.Name y py].head?).getD 0=px.line:=rfl;unfold swappedStores;dsimp only;refine (if_neg ?_).trans ?_
 ·simp [hbk]
 refine (if_neg ?_).trans ?_
 ·simp only [List.any_cons,List.any_nil,Bool.or_false];rw [Bool.not_eq_true,Bool.or_eq_false_iff];constructor
  ·cases a <;> first | rfl | cases sa
  ·cases b <;> first | rfl | cases sb
 simp only [e1,List.filterMap_cons,List.filterMap_nil,hx,hy,hl,beq_self_eq_true,Bool.and_self,if_true];refine (if_neg ?_).trans ?_
 ·rw [he];simp
 rw [if_neg (by rw [hf];simp),if_neg (by rw [hc];simp)]
theorem vH {X:Cx}{i j:Nat}{x y:Str}{a b:Expr}{mr:DM (List D)}{px py pt pt2 pos:Pos}{kt k2:Nat}(hc:X.calm=true) (hN:X.N.Nodup) (hi:X.N[i]?=some x) (hj:X.N[j]?=some y) (hij:i≠j) (hx:X.env.scope.names.lookup x=some .local) (hy:X.env.scope.names.lookup y=some .local) (ha:DA X [a,b] mr)
  (hw:swappedStores [.Tuple [.Name x px,.Name y py] kt pt] (.Tuple [a,b] k2 pt2) X.env=pure (some [x,y])):DS X (.Assign [.Tuple [.Name x px,.Name y py] kt pt] (.Tuple [a,b] k2 pt2) pos) (vB mr i j):=by
 rintro pins s σ H N I ⟨loc,mh,ρ,f,loc',mh',e,rl,rs,co⟩;refine rJ hc hN hi hj hij hx hy (ha loc mh) hw rfl pins s σ H N I ?_;unfold vB at e;split at e
 ·rename_i d1 d2 h1 er;cases e;refine ⟨ρ,[d1,d2],mh',er,rl,rs,fun H' ρ' vs e' rs' r'=>?_⟩;cases r' with
  | cons r1 r' =>
   cases r' with
   | cons r2 r' =>
    cases r';exact ⟨_,_,rfl,co H' ρ' _ e' rs' (((rl.mono e').set r1).set r2)⟩
 ·cases e
theorem zV (G:Gb) (n:Nat) (ihss:∀ {X:Cx}{k:Nat}{sc:SC},XOk X k G sc->∀ ss,DSs X ss (iSs G n sc ss)) {X:Cx}{k:Nat}{sc:SC}(O:XOk X k G sc) (s:Stmt):DS X s (iSb n (iSs G n) G sc s):=by
 have S:=snd G n;cases s with
 | Expr e p =>
  delta iSb
  dsimp only;split
  ·exact Bv
  ·rename_i h;exact lN (S.e O _) (G4 (by simpa using h))
 | Pass _=>exact lK
 | Break _=>exact bB
 | Continue _=>exact Sd
 | Return e _ =>
  cases e with
  | some e=>exact uD (S.e O _)
  | none=>exact lM
 | Assign ts v p =>
  cases ts with
  | nil=>exact Bv
  | cons tg r =>
   cases r with
   | cons _ _=>exact Bv
   | nil =>
    have gen:DS X (.Assign [tg] v p) (if Gz v || (Dh tg&&Dh v) then SM.bad else (match iGt G n sc tg with | some g=>Bg (iE G n sc v) g | none=>SM.bad)):=by
     split
     ·exact Bv
     ·rename_i h;have h:Gz v=false/\(Dh tg&&Dh v)=false:=by
       rw [Bool.not_eq_true,Bool.or_eq_false_iff] at h;exact h
      split
      ·rename_i g eg;have gen:(match iG sc tg with | some (_,g)=>some g | none=>none)=some g->DS X (.Assign [tg] v p) (Bg (iE G n sc v) g):=fun eg=>by
        split at eg
        ·rename_i ws g' eg';cases eg;refine Ve (S.e O _) (O.target eg') (Mr h.1) (Gj h.2 (fun es p z=>by subst z;simp [iG] at eg')) ?_;cases tg <;> first | rfl | (simp [iG] at eg')
        ·cases eg
       cases tg with
       | Subscript o i p' =>
        simp only [iGt] at eg;split at eg
        ·cases eg
        ·rename_i hs;cases eg;have hs:isSlice i=false:=by simpa using hs
         refine Ve (S.e O _) (uF (S.e O _) (S.e O _) ?_) (Mr h.1) (Gj h.2 (fun _ _ z=>by cases z)) rfl;intro v';cases i <;> first | rfl | cases hs
       | _=>exact gen eg
      ·exact Bv
    cases tg with
    | Name y py =>
     cases v with
     | ListComp elt gens scope vp =>
      delta iSb
      dsimp only
      delta vC
      dsimp only;split
      ·rename_i ws g eg;exact Vx O n eg
      ·exact Bv
     | _=>exact gen
    | Tuple tl kt pt =>
     cases tl with
     | nil=>exact gen
     | cons t1 tl =>
      cases t1 with
      | Name x px =>
       cases tl with
       | nil=>exact gen
       | cons t2 tl =>
        cases t2 with
        | Name y py =>
         cases tl with
         | cons _ _=>exact gen
         | nil =>
          cases v with
          | Tuple vl k2 pt2 =>
           cases vl with
           | nil=>exact gen
           | cons a vl =>
            cases vl with
            | nil=>exact gen
            | cons b vl =>
             cases vl with
             | cons _ _=>exact gen
             | nil =>
              delta iSb
              dsimp only
              delta vC
              dsimp only;split
              ·rename_i h;unfold zO at h;simp only [Bool.and_eq_true,Bool.not_eq_true'] at h;obtain ⟨⟨⟨⟨⟨⟨⟨⟨h1,h2⟩,h3⟩,h4⟩,h5⟩,h6⟩,h7⟩,h8⟩,h9⟩:=h;split
               ·rename_i i j ei ej;have hi:=Ds ei;have hj:=Ds ej;refine vH O.calm (by rw [O.N];exact O.nd) (by rw [O.N];exact hi) (by rw [O.N];exact hj) (fun z=>?_) (by rw [O.sco];exact eq_of_beq h2) (by rw [O.sco];exact eq_of_beq h3) (S.a O _) (vG ?_ ?_ ?_ h4 h5 h6 h7 h8 h9)
                ·subst z;rw [hi] at hj;cases hj;simp at h5
                ·unfold Env.blockKind;rw [O.sco];exact h1
                ·unfold Env.kindOf;rw [O.sco];exact h2
                ·unfold Env.kindOf;rw [O.sco];exact h3
               ·exact Bv
              ·exact Bv
          | _=>exact gen
        | _=>exact gen
      | _=>exact gen
    | _=>exact gen
 | If c a b _=>exact zG (S.t O _) (ihss O _) (ihss O _)
 | For tg it body els _ =>
  cases els with
  | cons _ _=>exact Bv
  | nil =>
   delta iSb
   dsimp only;split
   ·exact Bv
   ·rename_i h;split
    ·rename_i ws g eg;refine uG ?_ O.calm (S.i O _ _) (O.target eg) (ihss O _) (Qp (by simpa using h));rw [O.xe];exact PassesOwn.never
    ·exact Bv
 | _=>exact Bv
theorem Tw (G:Gb) (n:Nat):(∀ {X:Cx}{k:Nat}{sc:SC},XOk X k G sc->∀ s,DS X s (iS G n sc s))/\(∀ {X:Cx}{k:Nat}{sc:SC},XOk X k G sc->∀ ss,DSs X ss (iSs G n sc ss)):=by
 induction n with
 | zero=>exact ⟨fun _ _=>Bv,fun _ _ _ _ _ _ _ _ h=>by obtain ⟨_,_,_,_,_,_,e,_⟩:=h;cases e⟩
 | succ n ih =>
  refine ⟨fun {X k sc} O s=>zV G n (fun O ss=>ih.2 O ss) O s,fun {X k sc} O ss=>?_⟩;cases ss with
  | nil=>exact Wz
  | cons s r=>exact R9 (ih.1 O s) (ih.2 O r)
theorem cV {P:Program}{w:World}{K:PySem.W.Frag}{mg:Str->Option Value}{base:Heap}{k:Nat}{G:Gb}{x qual:Str}{st:Stmt}{f:Addr}{fd:FuncData}{I:FnI}(g:GOk P w K mg base k G) (F:Fun K x qual st f fd) (S:FnScope I.N I.ps (Ah st))
  (hs:I.scope=Ah st) (hb:I.body=Bj st) (n:Nat):FnOk P w K mg base CX0 (k+3) f fd I.ps (spD K I.ps.length (Aq G n I)):=by
 refine F.ok S (fun vs H Q E h=>h.1) fun cdv A outer s H vs Q E hr h=>?_
 obtain ⟨hl,ρ,mh,ds,d,mh',q,rs,r,co⟩:=h;refine ⟨_,(Tw G n).2 (sc:={ N:=I.N,scope:=I.scope,own:=fun _=>true }) ⟨rfl,S.nd,hs.symm,fun _ _ _=>.inl rfl,rfl,rfl,hr,g⟩ (Bj st),?_⟩;unfold Aq at q;split at q
 ·split at q
  ·rename_i d' loc' m' e;cases q;exact ⟨_,mh,ρ,.rt d,loc',mh',by rw [← hb];exact e,Eb r,rs,co⟩
  ·rename_i loc' m' e;cases q;exact ⟨_,mh,ρ,.nx,loc',mh',by rw [← hb];exact e,Eb r,rs,fun H' ρ' σ' e' rs' _=>co H' ρ' _ e' rs' .non⟩
  ·cases q
 ·cases q
theorem Ms {G:Gb}{n:Nat}{I:FnI}{ds:List D}{mh:MH}{r:D×MH}(h:Aq G n I ds mh=some r):ds.length=I.ps.length:=by
 unfold Aq at h;split at h
 ·assumption
 ·cases h
noncomputable def zW (K:PySem.W.Frag) (mg:Str->Option Value) (x:Str) (I:FnI):Prop:=∃ (qual:Str) (st:Stmt) (f:Addr) (fd:FuncData),mg x=some (.ref f)/\Fun K x qual st f fd/\FnScope I.N I.ps (Ah st)/\I.scope=Ah st/\I.body=Bj st/\∀ us:List Value,us.length=I.ps.length->bindArgs fd ⟨us,[]⟩=pure (I.ps.zip us)
noncomputable def cW (K:PySem.W.Frag) (mg:Str->Option Value) (x:Str) (d:D):Prop:=∃ u v,mg x=some u/\RelV v u/\∀ H ρ,RD K H ρ d v
structure TbOk (w:World) (K:PySem.W.Frag) (mg:Str->Option Value) (T:Tb):Prop where
 fn:∀ x I,T.tb x=some I->∃ (qual:Str) (st:Stmt) (f:Addr) (fd:FuncData),mg x=some (.ref f)/\Fun K x qual st f fd/\FnScope I.N I.ps (Ah st)/\I.scope=Ah st/\I.body=Bj st/\∀ us:List Value,us.length=I.ps.length->bindArgs fd ⟨us,[]⟩=pure (I.ps.zip us)
 con:∀ x d,T.con x=some d->∃ u v,mg x=some u/\RelV v u/\∀ H ρ,RD K H ρ d v
 blt:∀ b∈Iw,mg b=none
 dic:∀ x kvs,T.dic x=some kvs->∃ a,mg x=some (.ref a)/\DicOk w K a kvs
 fld:∀ c f,T.fld c f=true->∃ C,PySem.W.nsIn K mainGlobals c=some (some (.ref C))/\Cls K C/\aF K C f
 met:∀ c m I,T.tbm c m=some I->∃ (qual:Str) (st:Stmt) (C f:Addr) (fd:FuncData),PySem.W.nsIn K mainGlobals c=some (some (.ref C))/\Cls K C/\Meth K C m f/\Fun K m qual st f fd/\FnScope I.N I.ps (Ah st)/\I.scope=Ah st/\I.body=Bj st/\∀ us:List Value,us.length=I.ps.length->bindArgs fd ⟨us,[]⟩=pure (I.ps.zip us)
 mkr:∀ c f,T.mkr c=some f->∃ C fa fd ps,PySem.W.nsIn K mainGlobals c=some (some (.ref C))/\Mk K C fa/\mg c=some (.ref C)/\Binds K fd ps []/\∀ (P:Program) (w:World) (base:Heap),FnOk P w K mg base CX0 1 fa fd ps (spI C f)
noncomputable def Ez (st:Stmt):FnI :=
  { ps:=(Dk st).args.map (·.arg),
    N:=(Dk st).args.map (·.arg)++(((Ah st).names.filter fun p=>(match p.2 with | .local=>true | .cell=>true | _=>false)).map (·.1)).filter (fun x=>!((Dk st).args.map (·.arg)).contains x),
    scope:=Ah st,body:=Bj st }
end DL
namespace DL
open PySem L2
noncomputable def vr (i:Nat):DM D:=fun loc mh=>match loc[i]? with | some (some d)=>some (d,mh) | _=>none
noncomputable abbrev Vy:=iop (fun _ _=>true) fun i j=>i - j
noncomputable abbrev zX:=W3 (W4 (iop Tn fun i j=>i * j))
noncomputable abbrev W9:=iop (fun _ j=>decide (j≠0)&&decide (j.natAbs < 1606938044258990275541962092341162602522202993782792835301376)) fun i j=>i.fdiv j
noncomputable abbrev Vz:=iop (fun _ j=>decide (j≠0)) fun i j=>i.fmod j
noncomputable abbrev vI:=iop (fun i j=>decide (0<=j)&&(decide (j<=1000000)&&decide (i.natAbs < 2 ^ 64))) fun i j=>i ^ j.toNat
noncomputable abbrev leD:=Qg fun i j=>decide (i<=j)
noncomputable abbrev gtD:=Qg fun i j=>decide (j < i)
noncomputable abbrev geD:=Qg fun i j=>decide (j<=i)
noncomputable def N7 (m:DM D):DM D:=m.bnd fun x=>Zl (uJ x)
noncomputable def vJ (mr:DM (List D)):DM D:=mr.bnd fun ds=>Zl (J8 ds)
noncomputable def lstM (mr:DM (List D)):DM D:=mr.bnd fun ds=>Zl (Oq ds)
noncomputable def Ar (f:Fn) (mr:DM (List D)):DM D:=mr.bnd fun ds=>Zl (f ds)
noncomputable def mU (T:String) (m:DM D):DM D:=m.bnd fun x=>Zl (Ss T x)
theorem ln0 {f:List Value->Prop}(h:f []) (us:List Value) (e:us.length=0):f us:=by
 cases us with
 | nil=>exact h
 | cons _ _=>cases e
theorem ln1 {f:List Value->Prop}(h:∀ a,f [a]) (us:List Value) (e:us.length=1):f us:=by
 cases us with
 | nil=>cases e
 | cons a r=>exact ln0 (f:=fun r=>f (a::r)) (h a) r (Nat.succ.inj e)
theorem ln2 {f:List Value->Prop}(h:∀ a b,f [a,b]) (us:List Value) (e:us.length=2):f us:=by
 cases us with
 | nil=>cases e
 | cons a r=>exact ln1 (f:=fun r=>f (a::r)) (h a) r (Nat.succ.inj e)
theorem cX {q:Program}{loose:List Str}{XP:(Str->Option Value)->Heap->Prop}{K:Params->PySem.W.Frag}{as:List Addr}{n t:Nat}{r:PySem.W.RowW}{d:DefRec}{kwd:List (Str×Expr)}{run:Value->List Value->Sem Value}
  (e:∀ P,as=(K P).map (·.1)) (h:PySem.W.WalkO q loose XP (fun w h=>(K w.params).In h) r d kwd run):PySem.W.WalkX q loose XP (PySem.W.X.obsZ as) (PySem.W.X.valZ K n t) r d kwd run :=
 fun w s₀ s₁ mg mb G y a o pm cd doc dV kV h1 h2 h3 h4 h5 h6 args vals as' L hpre hlay hrd hwl hlo =>
  h w s₀ s₁ mg mb G (PySem.W.InK.keeps w s₀.heap s₁.heap (PySem.W.X.z_facts e y).2.1 L.keeps) a o pm cd doc dV kV h1 h2 h3 h4 h5 h6 args vals as' hpre hlay hrd hwl hlo
end DL
namespace L2
open PySem PySem.Spec PyProof.Rows
noncomputable def Jr (J:Obj->Prop):Prop:=∀ o v,J o->J (Obj.mapFields (·.setIfInBounds 1 v) o)
noncomputable def TrJ (J:Obj->Prop) (fl:Value) (base:Heap) (x:Addr) (h:Heap):Prop :=
 ∃ ox fs tb ot us,h.get? x=some ox/\J ox/\ox.data=.fields fs/\fs[1]?=some (.ref tb)/\base.get? tb=none/\tb≠x/\h.get? tb=some ot/\ot.data=.fields us/\us[3]?=some fl
noncomputable def Gd (J:Obj->Prop) (fl:Value) (base:Heap) (l:List Env) (x:Addr) (h:Heap):Prop:=base.StaysIn h/\base.get? x=none/\h.FunFrames base l/\TrJ J fl base x h
theorem Gd.there {J:Obj->Prop}{fl:Value}{base h:Heap}{l:List Env}{x:Addr}(z:Gd J fl base l x h):∃ ob,h.get? x=some ob/\J ob:=let ⟨_,_,_,ox,_,_,_,_,e,j,_⟩:=z;⟨ox,e,j⟩
section
variable {M:Model}{A:Around}{E:Value->Shared->Prop}{s:Shared}{J:Obj->Prop}{base:Heap}{env:Env}{outer l:List Env}{L x tb:Addr}{ox ot:Obj}{fs us:Array Value}{Q:Unit->Shared->Prop}
theorem Bp {h:Heap}{f:Obj->Obj}{b:Addr}(ne:b≠tb):(h.update tb f).get? b=h.get? b:=Heap.get?_update_other _ _ (Ne.symm ne)
theorem G5 {h:Heap}{b:Addr}{o:Obj}(e:h.get? tb=some ot) (d:ot.data=.fields us) (hb:h.get? b=some o) (n:∀ w,o.data≠.fields w):b≠tb:=fun z=>by
 rw [z,e] at hb;cases hb;exact n _ d
theorem Xa (st:Jr J) (hfr:A.frames=some (env::outer)) (hf:env.frame=some L) (kb:base.StaysIn s.heap) (nb:base.get? x=none) (fn:s.heap.FunFrames base (env::outer)) (e:s.heap.get? x=some ox) (j:J ox) (d:ox.data=.fields fs) (sz:1 < fs.size) {head:Value}{hn:Bool}
  (k:∀ h',Gd J (rawInt L) base (env::outer) x h'->s.heap.UpToSlots h'->Q () { s with heap:=h' }) :
  wpAny M A (do let a ← frameOf env;let pl ← entryPlaceOf L hn;let b ← EntryCells.newEntry head a .none (rawInt L) .none pl;setField (.ref x) 1 b) Q E s:=by
 have out:x ∉ (env::outer).filterMap (·.frame):=fun hm=>by
  obtain ⟨_,o,ho,n⟩:=fn.mem hm;rw [e] at ho;cases ho;exact n _ d
 refine wpAny_bind (wpAny_frameOf_fun hfr fn hf fun g gs=>wpAny_bind (wpAny_entryPlaceOf fun pl hpl=>?_));unfold EntryCells.newEntry newFields;refine wpAny_bind (wpAny_newObj_type ?_ (hpl.sizeOk5 _ _ _ _ _));have e1:=(gs.2.1 x out).trans e;have kb1:base.StaysIn g:=fun b o z=>(gs.2.1 b fun hm=>by rw [(fn.mem hm).1] at z;cases z).trans (kb b o z)
 generalize ho:({ cls:=.type "traceback",dict:=none,data:=.fields ([head,.ref L,.none,rawInt L,.none]++(if pl.isEmpty then List.replicate 6 Value.none else pl)).toArray }:Obj)=on;have hod:on.data=.fields ([head,.ref L,.none,rawInt L,.none]++(if pl.isEmpty then List.replicate 6 Value.none else pl)).toArray:=by rw [← ho]
 have hof:on.isFreed=false:=by rw [← ho];rfl
 have e2:=Heap.get?_push_of_some on e1;have ne:g.objs.size≠x:=Nat.ne_of_gt (Heap.lt_size e1);refine wpAny_setField e2 d sz (k _ ?_ ?_)
 ·have d3:=Obj.data_mapFields d (·.setIfInBounds 1 (Value.ref g.objs.size));have kp:∀ b o,b≠x->g.get? b=some o->((g.push on).update x (Obj.mapFields (·.setIfInBounds 1 (Value.ref g.objs.size)))).get? b=some o:=fun b o n z=>by rw [Bp n];exact Heap.get?_push_of_some _ z
  refine ⟨fun b o z=>kp b o (fun q=>by rw [q,nb] at z;cases z) (kb1 b o z),nb,fn.of_keeps fun b o z n=>?_,_,_,g.objs.size,on,_,Heap.get?_update_self _ e2 (Obj.isFreed_of_fields d3),st _ _ j,d3,by simp [sz],kb1.fresh,ne,?_,hod,?_⟩
  ·obtain ⟨sl,z1⟩:=gs.2.2 b o z;exact ⟨_,kp b _ (G5 e d z n) z1,rfl⟩
  ·rw [Bp ne];exact Heap.get?_push_size g hof
  ·rcases hpl with rfl | ⟨_,_,_,_,_,_,_,rfl⟩ <;> simp
 ·intro b o z n;obtain ⟨sl,z1⟩:=gs.2.2 b o z;refine ⟨sl,?_⟩;rw [Bp (G5 e d z n)];exact Heap.get?_push_of_some _ z1
theorem Qu (hf:Gd J (.int 0 0) base l x s.heap\/∃ fl,Gd J fl base l x s.heap) (k:∀ h',Gd J .none base l x h'->s.heap.UpToSlots h'->Q () { s with heap:=h' }):wpAny M A (setFlight (.ref x) none) Q E s:=by
 obtain ⟨fl,kb,nb,fn,ox,fs,tb,ot,us,e,j,d,t1,nt,ne,et,dt,t3⟩:∃ fl,Gd J fl base l x s.heap:=hf.elim (fun z=>⟨_,z⟩) id;unfold setFlight;refine wpAny_bind (wpAny_field e d t1 ?_);rw [if_pos (by simp)];have sz:=(Array.getElem?_eq_some_iff.mp t3).1;refine wpAny_setField et dt sz (k _ ⟨fun b o z=>(Bp fun q=>by rw [q,nt] at z;cases z).trans (kb b o z),nb,fn.of_keeps fun b o z n=>⟨o,(Bp (G5 et dt z n)).trans z,rfl⟩,ox,fs,tb,_,_,(Bp (Ne.symm ne)).trans e,j,d,t1,nt,ne,Heap.get?_update_self _ et (Obj.isFreed_of_fields (Obj.data_mapFields dt _)),Obj.data_mapFields dt _,by simp [sz]⟩ fun b o z n=>⟨o.slots,(Bp (G5 et dt z n)).trans z⟩)
theorem Qv (st:Jr J) (hfr:A.frames=some (env::outer)) (hf:env.frame=some L) (kb:base.StaysIn s.heap) (nb:base.get? x=none) (fn:s.heap.FunFrames base (env::outer)) (e:s.heap.get? x=some ox) (j:J ox) (d:ox.data=.fields fs) (t1:fs[1]?=some .none)
  (k:∀ h',Gd J (rawInt L) base (env::outer) x h'->s.heap.UpToSlots h'->Q () { s with heap:=h' }):wpAny M A (noteFrame (.ref x) env) Q E s:=by
 unfold noteFrame;simp only [hf];refine wpAny_bind (wpAny_field e d t1 ?_);rw [if_neg (by decide)];exact Xa st hfr hf kb nb fn e j d (Array.getElem?_eq_some_iff.mp t1).1 k
theorem Kp (st:Jr J) (hfr:A.frames=some (env::outer)) (hf:env.frame=some L) (z:Gd J .none base (env::outer) x s.heap)
  (k:∀ h',Gd J (rawInt L) base (env::outer) x h'->s.heap.UpToSlots h'->Q () { s with heap:=h' }):wpAny M A (noteFrame (.ref x) env) Q E s:=by
 obtain ⟨kb,nb,fn,ox,fs,tb,ot,us,e,j,d,t1,nt,ne,et,dt,t3⟩:=z;unfold noteFrame;simp only [hf];refine wpAny_bind (wpAny_field e d t1 ?_);rw [if_pos (by simp)];refine wpAny_bind (wpAny_field et dt t3 ?_);rw [if_neg (by simp [rawInt])];refine wpAny_bind (wpAny_setField et dt (Array.getElem?_eq_some_iff.mp t3).1 ?_);refine Xa st hfr hf (fun b o z=>(Bp fun q=>by rw [q,nt] at z;cases z).trans (kb b o z)) nb (fn.of_keeps fun b o z n=>⟨o,(Bp (G5 et dt z n)).trans z,rfl⟩) ((Bp (Ne.symm ne)).trans e) j d (Array.getElem?_eq_some_iff.mp t1).1 fun h' f u=>k h' f fun b o z n=>u b o ((Bp (G5 et dt z n)).trans z) n
theorem Gd.less {fl:Value}{h:Heap}(z:Gd J fl base (env::outer) x h):Gd J fl base outer x h:=let ⟨a,b,c,d⟩:=z;⟨a,b,c.2.2,d⟩
theorem mV (st:Jr J) (hfr:A.frames=some (env::outer)) (hf:env.frame=some L) (z:Gd J .none base (env::outer) x s.heap)
  (k:∀ h',Gd J .none base outer x h'->s.heap.UpToSlots h'->Q () { s with heap:=h' }):wpAny M A (leaving env (.ref x)) Q E s:=by
 unfold leaving;exact wpAny_bind (Kp st hfr hf z fun h1 f1 u1=>Qu (.inr ⟨_,f1⟩) fun h2 f2 u2=>k h2 f2.less (u1.trans u2))
theorem N8 (st:Jr J) (hfr:A.frames=some (env::outer)) (hf:env.frame=some L) (kb:base.StaysIn s.heap) (nb:base.get? x=none) (fn:s.heap.FunFrames base (env::outer)) (e:s.heap.get? x=some ox) (j:J ox) (d:ox.data=.fields fs) (t1:fs[1]?=some .none)
  (k:∀ h',Gd J .none base outer x h'->s.heap.UpToSlots h'->Q () { s with heap:=h' }):wpAny M A (leaving env (.ref x)) Q E s:=by
 unfold leaving;exact wpAny_bind (Qv st hfr hf kb nb fn e j d t1 fun h1 f1 u1=>Qu (.inr ⟨_,f1⟩) fun h2 f2 u2=>k h2 f2.less (u1.trans u2))
end
noncomputable def Jx (C:Addr) (dx:Option Addr) (o:Obj):Prop:=o.cls=.ref C/\o.dict=dx/\∃ fs,o.data=.fields fs/\fs[2]?=some .none
theorem Jx.steady (C:Addr) (dx:Option Addr):Jr (Jx C dx):=fun o v ⟨h1,h2,fs,h3,h4⟩ =>
 ⟨(Obj.cls_mapFields _ _).trans h1,(by unfold Obj.mapFields;split <;> exact h2),_,Obj.data_mapFields h3 _,by rw [Array.getElem?_setIfInBounds_ne (by decide)];exact h4⟩
structure Thrown (P:Program) (w:World) (outer:List Env) (H H':Hp) (s s':Shared) (a C:Addr) (dx:Option Addr) (B h₁:Heap):Prop where
 os:s'.os=s.os
 bare:AllBare s'.gens
 fly:Gd (Jx C dx) .none B outer a s'.heap
 un:Un (frs outer) [] H H' s.heap h₁
 hok:HOk P w H' h₁
 kp:∀ b o,h₁.get? b=some o->b ∉ frs outer->(b < s.heap.objs.size\/H' b≠none)->B.get? b=some o
 sl:h₁.UpToSlots s'.heap
noncomputable def CXe (P:Program) (w:World):CXT:=fun outer H s E e s'=>∃ a C dx B h₁ H',e=.ref a/\Thrown P w outer H H' s s' a C dx B h₁/\E (.ref C) dx H'
theorem Thrown.land {P:Program}{w:World}{outer:List Env}{H H':Hp}{s s':Shared}{a C:Addr}{dx:Option Addr}{B h₁ base h:Heap}(T:Thrown P w outer H H' s s' a C dx B h₁) (fn:s.heap.FunFrames base outer) (frf:∀ b∈frs outer,H b=none)
  (st:∀ b o,B.get? b=some o->h.get? b=some o) (us:h₁.UpToSlots h):Un (frs outer) [] H H' s.heap h/\HOk P w H' h:=by
 have nx:∀ b:Addr,b ∉ ([]:List Addr):=fun b z=>absurd z (by simp)
 have fr1:∀ b o,s.heap.get? b=some o->b∈frs outer->∃ sl,h.get? b=some { o with slots:=sl }:=fun b o e hb=>by
  obtain ⟨_,o',ho,hd⟩:=fn.mem hb;rw [e] at ho;cases ho;obtain ⟨sl,e1⟩:=T.un.slot b o e (frf b hb) hb (nx b);obtain ⟨sl',e2⟩:=us b _ e1 hd;exact ⟨sl',e2⟩
 have nf:∀ b,H' b≠none->b ∉ frs outer:=fun b q hb=>by
  obtain ⟨_,o',ho,_⟩:=fn.mem hb;exact q (T.un.free b o' ho (frf b hb) (nx b))
 refine ⟨⟨fun b o e n hb hx=>st b o (T.kp b o (T.un.keep b o e n hb hx) hb (.inl (Heap.lt_size e))),fun b o e _ hb _=>fr1 b o e hb,T.un.free,fun b o e hx=>?_,T.un.tups,T.un.frzs,T.un.tbls⟩,fun b u q=>?_⟩
 ·by_cases hb:b∈frs outer
  ·obtain ⟨sl,e1⟩:=fr1 b o e hb;exact ⟨_,e1⟩
  ·obtain ⟨o',e'⟩:=T.un.there b o e hx;exact ⟨o',st _ _ (T.kp b o' e' hb (.inl (Heap.lt_size e)))⟩
 ·refine (T.hok b u q).stay (fun c v hc r=>?_) (fun _ z=>z) fun _ _ z=>z
  have hn:H' c≠none:=by
   rcases hc with rfl|hc
   ·rw [q];simp
   ·rw [hc];simp
  exact st c v (T.kp c v r (nf c hn) (.inr hn))
section
variable {P:Program}{w:World}{K:PySem.W.Frag}{mg:Str->Option Value}{base:Heap}{N:List Str}{qual:Str}{scope:Scope}{f:Addr}{cd:Value}{A:Around}{outer:List Env}{s s1:Shared}{H H1:Hp}{E:XK}{pins:List (Addr×Obj)}{σ:St}
theorem cY (I:Inv (Lk (CXe P w) P w K mg base N qual scope f cd A outer s H E) pins σ H1 s1) {e C:Addr}{vs:List Value}{h':Heap}(hx:Heap.MadeExcOf s1.heap h' e (.ref C) vs) (q:E (.ref C) none H1) :
  (Lk (CXe P w) P w K mg base N qual scope f cd A outer s H E).xe (.ref e) { s1 with heap:=h' }:=by
 show wpAny _ _ (leaving _ _) _ _ _;have hin:∀ env∈(envOfC qual scope s.heap.objs.size f cd::outer),∀ b,env.frame=some b->b∈frs (envOfC qual scope s.heap.objs.size f cd::outer):=fun env he b hb=>List.mem_filterMap.mpr ⟨env,he,hb⟩
 obtain ⟨t,he,_,_⟩:=hx.there;have fresh:(PySem.W.hideAll s1.heap (frs (envOfC qual scope s.heap.objs.size f cd::outer))).get? e=none:=by
  cases z:(PySem.W.hideAll s1.heap (frs (envOfC qual scope s.heap.objs.size f cd::outer))).get? e with
  | none=>rfl
  | some o =>
   have:=PySem.W.of_hideAll _ z;rw [hx.new] at this;cases this
 refine N8 (Jx.steady C none) (base:=PySem.W.hideAll s1.heap (frs (envOfC qual scope s.heap.objs.size f cd::outer))) I.ok.frames rfl (fun b o z=>hx.keeps b o (PySem.W.of_hideAll _ z)) fresh ((PySem.W.funFrames_hide I.stack hin).of_keeps fun b o z _=>⟨o,hx.keeps b o z,rfl⟩) he ⟨rfl,rfl,_,rfl,rfl⟩ rfl rfl
  fun h'' x1 x4=>⟨e,C,none,_,s1.heap,H1,rfl,⟨I.os,I.bare,x1,I.base,I.hok,fun b o e1 hb hor=>PySem.W.hideAll_get _ e1 fun hm=>?_,(Heap.UpToSlots.of_keeps hx.keeps).trans x4⟩,q⟩
 rcases List.mem_cons.mp (I.stkSub b hm) with z|z
 ·rcases hor with l|l
  ·exact absurd (show b=s.heap.objs.size from z) (Nat.ne_of_lt l)
  ·exact l (z ▸ I.free)
 ·exact hb z
end
noncomputable def bmV:List Value:=[.type "ValueError",.type "Exception",.type "BaseException",.type "object"]
theorem K4 {K:PySem.W.Frag}{h:Heap}{mg:Str->Option Value}{x:Str}{C:Addr}{bl:List Value}{nid:String}(X:K.In h) (hm:mg x=some (.ref C)) (q:PySem.W.excIn K C bl nid=true):OwnCls x C bl nid mg h:=by
 refine ⟨hm,?_⟩;unfold PySem.W.excIn at q;split at q
 ·rename_i d1 c1 s1 lk;split at q
  ·rename_i C1 b1 j0 j1 j2 j3 n1 j5 em es;rw [Bool.and_eq_true,Bool.and_eq_true,Bool.and_eq_true,Bool.and_eq_true,Bool.and_eq_true] at q;obtain ⟨⟨⟨⟨⟨q1,q2⟩,q3⟩,q4⟩,q5⟩,q6⟩:=q;cases eq_of_beq q1;cases eq_of_beq q2;obtain ⟨y1,y2,y3,y4,y5,y6,y7,y8,y9,y10,y11⟩:=c1;cases em;have q3:y11=false:=by simpa using q3
   cases q3;obtain ⟨l1⟩:=s1;cases es;exact ⟨b1,y4,y1,y5,y2,y6,y7,y8,y9,y10,d1,j0,j1,j2,j3,j5,_,X _ _ lk,.of_isNs (PySem.W.isNs_of_in X q5),PySem.W.nsMap_none_of_in X q5 (eq_of_beq q6),PySem.W.tail_of_in X q4⟩
  ·cases q
 ·cases q
section
variable {X:Cx}{c x:Str}{C fa:Addr}{np cpos pos apos hpos tpos epos:Pos}{e:Expr}{es:List Expr}{ta:TA}
theorem PS.nox {st:Stmt}{t:TS}(h:PS X.nox st t):PS X st t:=fun pins s σ H D I hw =>
 wpAny_mono (h pins s σ H D (I.wish _) hw) (fun _ _ q=>q.unwish) fun _ _ z=>False.elim z
theorem PA.nox {t:TA}(h:PA X.nox es t):PA X es t:=fun pos pins s σ H Q I hw =>
 wpAny_mono (h pos pins s σ H Q (I.wish _) hw) (fun _ _ ⟨v,H',I',r,q⟩=>⟨v,H',I'.unwish,r,q⟩) fun _ _ z=>False.elim z
theorem cZ {W:Hp->Prop}(hc:X.calm=true) (hC:PySem.W.excIn X.K C bmV "ValueError.__new__"=true) (hg:Gl X c) (hm:X.mg c=some (.ref C)) (ha:PA X (e::es) ta)
  (thr:∀ (pins:List (Addr×Obj)) (σ:St) (H:Hp) (s:Shared) (h':Heap) (a:Addr) (vs:List Value),Inv X pins σ H s->Heap.MadeExcOf s.heap h' a (.ref C) vs->W H->X.xe (.ref a) { s with heap:=h' })
  (hd:(c==("__debug__":Str))=false) (he:starEach (e::es) X.env=(false,eval e X.env)::starEach es X.env) (hpl:(backTo cpos (starEach es X.env)).any (·.1)=false) :
  PS X (.Raise (some (.Call (.Name c np) (e::es) [] cpos)) none pos) (fun _ σ H=>ta σ H fun vs H1=>vs.length<=sizeLine/\W H1):=by
 intro pins s σ H D I h;obtain ⟨bm,N,nm,q,bs,hdct,sn,sub,ab,col,dd,k0,k1,k2,k3,k5,mN,hO,hN,hni,TL⟩:=(K4 I.ok.mod.kin hm hC).obj
 have hb:bmV.contains (.type "BaseException")=true:=by decide +kernel
 refine wpAny_Raise_call_subT (C:=C) (nm:=nm) (q:=q) (N:=N) (bs:=bs) (hdct:=hdct) (sn:=sn) (sub:=sub) (ab:=ab) (col:=col) (dd:=dd) (k0:=k0) (k1:=k1) (k2:=k2) (k3:=k3) (k5:=k5) PySem.F.excBase_ValueError (TL.hasType hb) (I.ok.hd hc) (by rw [he];show (false || (backTo cpos (starEach es X.env)).any (·.1))=false;rw [hpl];rfl) hni (Gv I hg hm ⟨rfl,?_⟩ hd);have h2:=ha cpos pins s σ H _ I h;rw [he] at h2 ⊢;refine Calls.evalArgs_plain (thn h2 fun us s2 hz=>?_);obtain ⟨vs,H2,I2,r2,hl,hW⟩:=hz;exact ⟨rfl,by rw [← r2.length];exact hl,I2.bk _ _ hO,hN.keeps I2.bk,TL.keeps I2.bk,fun h' a hx=>thr pins σ H2 s2 h' a us I2 hx hW⟩
noncomputable abbrev Cx.hand (X:Cx) (v:Value):Cx:={ X with A:=X.A.mark (some v),calm:=false }
variable {pins:List (Addr×Obj)}{σ:St}{H H1 H2:Hp}{s s1 s':Shared}{v:Value}{a:Addr}{B h₁:Heap}{D:Ends}{b₀:Stmt}{suite:List Stmt}{ts:TS}{rest:List ExceptHandler}
theorem Inv.hand (I:Inv X pins σ H s) (v:Value):Inv (X.hand v) pins σ H s :=
 ⟨⟨I.ok.mod,I.ok.kind,I.ok.glob,I.ok.blt,I.ok.above,I.ok.inj,I.ok.has,I.ok.cab,fun z=>(by cases z),I.ok.frames,I.ok.stk,I.ok.exf,I.ok.bs,I.ok.bsz,I.ok.noex,I.ok.exfs,I.ok.funs,I.ok.frf⟩,
  I.os,I.bare,I.base,I.loc,I.cell,I.free,I.freeC,I.pin,I.hok,I.len⟩
theorem Inv.unhand (ok:X.Ok) (I:Inv (X.hand v) pins σ H s):Inv X pins σ H s:=⟨ok,I.os,I.bare,I.base,I.loc,I.cell,I.free,I.freeC,I.pin,I.hok,I.len⟩
end
theorem Tz {M:Model}{A:Around}{E:Value->Shared->Prop}{nm q nm' q':Str}{C N L N':Addr}{bs bm bs' bm':List Value}{hdct hdct':Bool}{sn sn':List Str}{sub sub':List Value}{ab ab':Bool}{col col':Option Bool}{dd dd':Option Addr}{k0 k1 k2 k3 k5 k0' k1' k2' k3' k5':Option Value}{newId newId':String}
  {h:Heap} {g:Array GenState} {d:Drawn} {t:Nat} {os:OsState} {e:Addr} {oe:Obj} {b:Bool} {Q:Bool->Shared->Prop}
  (hC:h.get? C=some (excClassObj nm q C N bs bm hdct sn sub ab col dd k0 k1 k2 k3 k5 newId)) (hL:h.get? L=some (excClassObj nm' q' L N' bs' bm' hdct' sn' sub' ab' col' dd' k0' k1' k2' k3' k5' newId')) (he:h.get? e=some oe) (hcls:oe.cls=.ref C)
  (hbase:bm'.contains (.type "BaseException")=true) (hm:(Value.ref C::bm).contains (.ref L)=b) (hq:Q b ⟨h,g,d,t,os⟩):wpAny M A (excMatches (.ref e) (.ref L)) Q E ⟨h,g,d,t,os⟩:=by
 have hcB:(Value.ref L::bm').contains (.type "BaseException")=true:=by rw [List.contains_cons,hbase,Bool.or_true]
 have f:=tc_notTuple;unfold excMatches;repeat (first | (with_reducible refine wpAny_loadPart_at he ?_;rw [hcls]) | with_reducible refine wpAny_loadPart_at hL ?_ | (with_reducible refine wpAny_isSubtype_exc hL ?_;rw [hcB]) | (with_reducible refine wpAny_isSubtype_exc hC ?_;rw [hm]) | wp_step)
 cases b <;> (wp_walk;exact hq)
structure LkC (h:Heap) (C:Addr):Prop where
 ga:∀ {M:Model} {A:Around} {E:Value->Shared->Prop} {g:Array GenState} {d:Drawn} {t:Nat} {os:OsState} {Q:Option Value->Shared->Prop},Q (some (.builtin "BaseException.__getattribute__")) ⟨h,g,d,t,os⟩->wpAny M A (typeLookup (.ref C) "__getattribute__") Q E ⟨h,g,d,t,os⟩
 na:∀ {M:Model} {A:Around} {E:Value->Shared->Prop} {g:Array GenState} {d:Drawn} {t:Nat} {os:OsState} {Q:Option Value->Shared->Prop},Q none ⟨h,g,d,t,os⟩->wpAny M A (typeLookup (.ref C) "__getattr__") Q E ⟨h,g,d,t,os⟩
 cl:∀ {M:Model} {A:Around} {E:Value->Shared->Prop} {g:Array GenState} {d:Drawn} {t:Nat} {os:OsState} {Q:Option Value->Shared->Prop},Q (some (.builtin "object.__class__")) ⟨h,g,d,t,os⟩->wpAny M A (typeLookup (.ref C) "__class__") Q E ⟨h,g,d,t,os⟩
section
variable {prog:Program}{w:World}{A:Around}{E:Value->Shared->Prop}{h:Heap}{g:Array GenState}{d:Drawn}{t:Nat}{os:OsState}{a:Addr}{o:Obj}{nm q:Str}{C N:Addr}{bs bm:List Value}{hdct:Bool}{sn:List Str}{sub:List Value}{ab:Bool}{col:Option Bool}{dd:Option Addr}{k0 k1 k2 k3 k5:Option Value}{newId:String}
theorem vK {R:Result->Shared->Prop}(kC:h.get? C=some (excClassObj nm q C N bs bm hdct sn sub ab col dd k0 k1 k2 k3 k5 newId)) (ho:bm.contains (.type "object")=true) (hx:h.get? a=some o) (hc:o.cls=.ref C) (hq:R (.ok (.ret (.ref C))) ⟨h,g,d,t,os⟩) :
  codeAny (model prog w) A (.call (.builtin "getset_descriptor.__get__") ⟨[.builtin "object.__class__",.ref a,.ref C],[]⟩) R ⟨h,g,d,t,os⟩:=by
 have ty:Shared.TypeIs ⟨h,g,d,t,os⟩ (.builtin "object.__class__") "getset_descriptor":=F.typeOf_object_class
 have own : (Value.ref C :: bm).contains (.type (".".intercalate ("object.__class__".cutAt '.').dropLast)) = true := by
  rw [PySem.F.owner_object_class,List.contains_cons,ho];exact Bool.or_true _
 refine codeAny_call_builtin F.slot_gs_get.plain F.entry_gs_get (F.slot_gs_get.check _ _ _ _ _ _ _ _ ty (F.args_gs_get _ _ _) ?_);repeat (any_goals (first | assumption | (with_reducible refine wpAny_loadPart_at hx ?_;rw [hc]) | (with_reducible refine wpAny_isSubtype_exc kC ?_;rw [own]) | wp_step))
 refine ⟨Code.quiet_builtin _ (by decide +kernel),codeAny_builtin F.entry_object_class ?_⟩;repeat (any_goals (first | assumption | (with_reducible refine wpAny_loadPart_at hx ?_;rw [hc]) | wp_step))
theorem dB {tk:Tok}{Q:Fin->Shared->Prop}(K:LkC h C) (kC:h.get? C=some (excClassObj nm q C N bs bm hdct sn sub ab col dd k0 k1 k2 k3 k5 newId)) (ho:bm.contains (.type "object")=true) (hx:h.get? a=some o) (hc:o.cls=.ref C) (hq:Q (.done (.ret (.ref C))) ⟨h,g,d,t,os⟩) :
  wpAny (model prog w) A (Builtin.«object.__getattribute__» ⟨[.ref a,.str "__class__" tk],[]⟩) Q E ⟨h,g,d,t,os⟩:=by
 have ty:Shared.TypeIs ⟨h,g,d,t,os⟩ (.builtin "object.__class__") "getset_descriptor":=F.typeOf_object_class
 have y1:=F.typeOf_object_class;have y2:=F.slot_gs_get.lookup;have y3:=F.slot_gs_set.lookup;repeat (any_goals (first | assumption | (with_reducible refine wpAny_loadPart_at hx ?_;rw [hc]) | with_reducible refine K.cl ?_ | wp_step))
 refine vK kC ho hx hc ?_;repeat (any_goals (first | assumption | wp_step))
theorem dD {M:Model}{nv:Value}{Q:Unit->Shared->Prop}(kC:h.get? C=some (excClassObj nm q C N bs bm hdct sn sub ab col dd k0 k1 k2 k3 k5 newId)) (hB:bm.contains (.type "BaseException")=true) (hx:h.get? a=some o) (hc:o.cls=.ref C) (hq:Q () ⟨h,g,d,t,os⟩) :
  wpAny M A (checkBuiltinCall "BaseException.__getattribute__" ⟨[.ref a,nv],[]⟩) Q E ⟨h,g,d,t,os⟩:=by
 have y1:builtinKind "BaseException.__getattribute__"=some .slot:=by decide +kernel
 have y2:splitId "BaseException.__getattribute__"=some ("BaseException", "__getattribute__"):=by decide +kernel
 have own:(Value.ref C::bm).contains (.type "BaseException")=true:=by rw [List.contains_cons,hB];exact Bool.or_true _
 have y3:=F.args_bexc_ga (.ref a) nv;simp only [checkBuiltinCall,y1,y2];refine wpAny_bind ?_;unfold isInstance;repeat (first | (with_reducible refine wpAny_loadPart_at hx ?_;rw [hc]) | (with_reducible refine wpAny_isSubtype_exc kC ?_;rw [own]) | wp_step)
 exact hq
theorem zY {tk:Tok}{Q:Value->Shared->Prop}(K:LkC h C) (kC:h.get? C=some (excClassObj nm q C N bs bm hdct sn sub ab col dd k0 k1 k2 k3 k5 newId)) (ho:bm.contains (.type "object")=true) (hB:bm.contains (.type "BaseException")=true) (hx:h.get? a=some o) (hc:o.cls=.ref C) (hq:Q (.ref C) ⟨h,g,d,t,os⟩) :
  wpAny (model prog w) A (getAttrBy (.ref a) (.str "__class__" tk) false) Q E ⟨h,g,d,t,os⟩:=by
 have z1:=PySem.F.excAttr_ValueError.ga.bind (.ref a)
 have z2:(Value.builtin "BaseException.__getattribute__"==Value.builtin "object.__getattribute__")=false:=by decide +kernel
 have z3:(onTheHeap (Value.ref C)&&Value.builtin "BaseException.__getattribute__"==Value.builtin "object.__getattribute__")=false:=by rw [z2];rfl
 repeat (any_goals (first | assumption | (with_reducible refine wpAny_loadPart_at hx ?_;rw [hc]) | with_reducible refine K.ga ?_ | with_reducible refine K.na ?_ | wp_step))
 refine codeAny_call_builtin PySem.F.excAttr_ValueError.ga.plain F.entry_bexc_ga (dD kC hB hx hc (dB K kC ho hx hc ?_));repeat (any_goals (first | assumption | wp_step))
theorem mW {Q:Option Value->Shared->Prop}(K:LkC h C) (kC:h.get? C=some (excClassObj nm q C N bs bm hdct sn sub ab col dd k0 k1 k2 k3 k5 newId)) (ho:bm.contains (.type "object")=true) (hB:bm.contains (.type "BaseException")=true) (hx:h.get? a=some o) (hc:o.cls=.ref C) (hq:Q (some (.ref C)) ⟨h,g,d,t+1,os⟩) :
  wpAny (model prog w) A (getAttr? (.ref a) "__class__") Q E ⟨h,g,d,t,os⟩:=by
 unfold getAttr? getAttrBy?;repeat (any_goals (first | assumption | with_reducible apply zY K kC ho hB hx hc | wp_step))
end
noncomputable def O4 (K:PySem.W.Frag):List Value->Bool
 | []=>bmV==[]
 | v::r=>(v::r)==bmV || match v with
  | .ref A=>(match K.lookup A with
   | some ⟨_,_,.cls cd,_⟩=>PySem.W.nsOkIn K cd.ns&&PySem.W.nsIn K cd.ns "__getattribute__"==some none&&PySem.W.nsIn K cd.ns "__getattr__"==some none&&PySem.W.nsIn K cd.ns "__class__"==some none&&O4 K r
   | _=>false)
  | _=>false
theorem K5 {K:PySem.W.Frag}{h:Heap}(X:K.In h) {n:Str}(hn:n = "__getattribute__"\/n = "__getattr__"\/n = "__class__") {y:Option Value}(hb:lookupAlong bmV n=pure y) {M:Model}{A:Around}{E:Value->Shared->Prop}{g:Array GenState}{d:Drawn}{t:Nat}{os:OsState}{Q:Option Value->Shared->Prop}(hq:Q y ⟨h,g,d,t,os⟩) :
  ∀ {l:List Value},O4 K l=true->wpAny M A (lookupAlong l n) Q E ⟨h,g,d,t,os⟩
 | [],e=>by rw [← show bmV=[] from beq_iff_eq.mp e,hb];exact wpAny_pure hq
 | v::r,e=>by
  unfold O4 at e;rcases Bool.or_eq_true_iff.mp e with z|z
  ·rw [beq_iff_eq.mp z,hb];exact wpAny_pure hq
  ·split at z
   ·split at z
    ·rename_i cd _ ho;simp only [Bool.and_eq_true,beq_iff_eq] at z;obtain ⟨⟨⟨⟨z1,z2⟩,z3⟩,z4⟩,z5⟩:=z;rw [lookupAlong_cons];refine wpAny_bind (wpAny_classOwn_cls (X _ _ ho) (.of_isNs (PySem.W.isNs_of_in X z1)) ?_);have e0:h.nsMap cd.ns n=none:=by
      rcases hn with rfl|rfl|rfl
      ·exact PySem.W.nsMap_none_of_in X z1 z2
      ·exact PySem.W.nsMap_none_of_in X z1 z3
      ·exact PySem.W.nsMap_none_of_in X z1 z4
     rw [e0];exact K5 X hn hb hq z5
    ·cases z
   ·cases z
theorem LkC.of {K:PySem.W.Frag}{h:Heap}(X:K.In h) {nm q:Str}{C N:Addr}{bs bm:List Value}{hdct:Bool}{sn:List Str}{sub:List Value}{ab:Bool}{col:Option Bool}{dd:Option Addr}{k0 k1 k2 k3 k5:Option Value}{newId:String}
  (kC:h.get? C=some (excClassObj nm q C N bs bm hdct sn sub ab col dd k0 k1 k2 k3 k5 newId)) (z:O4 K (.ref C::bm)=true):LkC h C:=by
 have b1:lookupAlong bmV "__getattribute__"=pure (some (.builtin "BaseException.__getattribute__")):=by
  have:=PySem.F.excAttr_ValueError.ga.lookup
  rw [typeLookup_eq,show mroOf (.type "ValueError")=pure bmV from PySem.F.attrBase_ValueError.mro] at this;exact this
 have b2:lookupAlong bmV "__getattr__"=pure none:=by
  have:=PySem.F.attrBase_ValueError.noGetattr
  rw [typeLookup_eq,show mroOf (.type "ValueError")=pure bmV from PySem.F.attrBase_ValueError.mro] at this;exact this
 have b3:lookupAlong bmV "__class__"=pure (some (.builtin "object.__class__")):=by
  have:typeLookup (.type "ValueError") "__class__"=pure (some (.builtin "object.__class__")):=by rw [typeLookup_type,builtinLookup_eq_fast];kernel_rfl
  rw [typeLookup_eq,show mroOf (.type "ValueError")=pure bmV from PySem.F.attrBase_ValueError.mro] at this;exact this
 refine ⟨fun hq=>?_,fun hq=>?_,fun hq=>?_⟩
 ·rw [typeLookup_eq];exact wpAny_bind (wpAny_mroOf_exc kC (K5 X (.inl rfl) b1 hq z))
 ·rw [typeLookup_eq];exact wpAny_bind (wpAny_mroOf_exc kC (K5 X (.inr (.inl rfl)) b2 hq z))
 ·rw [typeLookup_eq];exact wpAny_bind (wpAny_mroOf_exc kC (K5 X (.inr (.inr rfl)) b3 hq z))
noncomputable def dF (K:PySem.W.Frag) (C:Addr):Bool:=match K.lookup C with
 | some ⟨_,_,.cls cd,_⟩=>O4 K cd.mro
 | _=>false
theorem dG {K:PySem.W.Frag}{a C:Addr}(hC:PySem.W.excIn K C bmV "ValueError.__new__"=true) (hN:dF K C=true):PySem.W.KitX K (.ref a) (.ref C) (fun h=>∃ o,h.get? a=some o/\o.cls=.ref C):=by
 have get:∀ h,K.In h->∃ bm N nm q bs hdct sn sub ab col dd k0 k1 k2 k3 k5,h.get? C=some (excClassObj nm q C N bs bm hdct sn sub ab col dd k0 k1 k2 k3 k5 "ValueError.__new__")/\OwnTail h bmV bm/\O4 K (.ref C::bm)=true:=fun h X=>by
  obtain ⟨bm,N,nm,q,bs,hdct,sn,sub,ab,col,dd,k0,k1,k2,k3,k5,mN,kC,_,_,TL⟩:=(K4 (mg:=fun _=>some (.ref C)) (x := "") X rfl hC).obj;refine ⟨bm,N,nm,q,bs,hdct,sn,sub,ab,col,dd,k0,k1,k2,k3,k5,kC,TL,?_⟩;have z:=hN;unfold dF at z;split at z
  ·rename_i cd _ lk;have e:=(X _ _ lk).symm.trans kC;unfold excClassObj at e;cases e;exact z
  ·cases z
 refine ⟨fun M h X p=>?_,fun M h X p=>?_,fun h tp dd its n sl X htp=>?_,fun {prog w A E Q s} X p k=>?_⟩
 ·obtain ⟨o,e1,e2⟩:=p;intro A' Q' E' s' kp q;rw [← e2] at q;obtain ⟨h9,g9,d9,t9,os9⟩:=s';exact wpAny_bind (wpAny_loadPart (kp _ _ e1) (wpAny_pure q))
 ·obtain ⟨bm,N,nm,q,bs,hdct,sn,sub,ab,col,dd,k0,k1,k2,k3,k5,kC,_,_⟩:=get h X;intro A' Q' E' s' kp q;unfold isType loadHead;exact wpAny_bind (wpAny_loadPart (kp _ _ kC) (wpAny_pure q))
 ·obtain ⟨bm,N,nm,q,bs,hdct,sn,sub,ab,col,dd2,k0,k1,k2,k3,k5,kC,_,_⟩:=get h X;refine Bool.eq_false_iff.mpr fun z=>?_
  cases Value.ref.inj (beq_iff_eq.mp z);have e:=htp.symm.trans kC;unfold excClassObj at e;have e2:=congrArg (fun o:Option Obj=>o.map (·.data)) e;simp at e2
 ·obtain ⟨bm,N,nm,q,bs,hdct,sn,sub,ab,col,dd,k0,k1,k2,k3,k5,kC,TL,z⟩:=get s.heap X;obtain ⟨o,e1,e2⟩:=p;obtain ⟨h,g,d,t,os⟩:=s;exact mW (LkC.of X kC z) kC (TL.hasType (by decide +kernel)) (TL.hasType (by decide +kernel)) e1 e2 k
theorem dH {P:Program}{w:World}{H:Hp}{h:Heap}{a:Addr}{u:HO}(x:Ej P w H h a u):∃ o,h.get? a=some o:=by
 cases u with
 | lst _=>obtain ⟨_,_,_,_,e⟩:=x;exact ⟨_,e⟩
 | tup _=>obtain ⟨_,_,_,o,e,_⟩:=x;exact ⟨_,e⟩
 | dK _=>obtain ⟨_,_,_,_,o,_,_,e,_⟩:=x;exact ⟨_,e⟩
 | dT _=>obtain ⟨_,_,_,_,o,_,_,e,_⟩:=x;exact ⟨_,e⟩
 | set _ _=>obtain ⟨o,_,_,_,e,_⟩:=x;exact ⟨_,e⟩
 | ins _ _ _=>obtain ⟨_,_,_,e,_⟩:=x;exact ⟨_,e⟩
 | own _=>exact x
 | xd _=>obtain ⟨_,⟨_,_,_,e,_⟩,_⟩:=x;exact ⟨_,e⟩
 | rng _ _=>obtain ⟨_,_,_,e⟩:=x;exact ⟨_,e⟩
 | frz _ _=>obtain ⟨e,_⟩:=x;exact ⟨_,e⟩
 | tbl _=>exact ⟨_,x⟩
 | met _ _=>exact ⟨_,x⟩
 | ext _=>exact x.2.1
section
variable {X:Cx}{pins:List (Addr×Obj)}{σ:St}{H H1 H2:Hp}{s s1 s':Shared}{i:Nat}{n:Str}
theorem Inv.less (I:Inv X pins σ H s) (hN:X.N.Nodup) (hi:X.N[i]?=some n) {m:Str->Option Value}{v:Option Value}{h':Heap}{tk:Nat}(hn:s.heap.Ns X.env.locals m) (hn':h'.Ns X.env.locals (fun x=>if x=n then v else m x)) (hs:Heap.SameBut X.env.locals s.heap h'):Inv X pins (σ.set i none) H { s with heap:=h',toks:=tk }:=by
 obtain ⟨m0,hn0,hl⟩:=id I.loc;have cne:=I.cne;have away:∀ b o,X.s₀.heap.get? b=some o->b≠X.env.locals:=fun b o e=>Nat.ne_of_lt (Nat.lt_of_lt_of_le (Heap.lt_size e) I.ok.above)
 refine ⟨I.ok,I.os,I.bare,⟨fun b o e n hb hx=>(hs.2 b (away b o e)).trans (I.base.keep b o e n hb hx),fun b o e n hb hx=>?_,I.base.free,fun b o e hx=>?_,I.base.tups,I.base.frzs,I.base.tbls⟩,⟨_,hn',fun j y v' e1 e2 e3=>?_⟩,fun y c e=>?_,I.free,I.freeC,fun p hp=>?_,fun b ob e=>?_,by rw [List.length_set];exact I.len⟩
 ·obtain ⟨sl,e1⟩:=I.base.slot b o e n hb hx;exact ⟨sl,(hs.2 b (away b o e)).trans e1⟩
 ·obtain ⟨o',e1⟩:=I.base.there b o e hx;exact ⟨o',(hs.2 b (away b o e)).trans e1⟩
 ·have ne:i≠j:=fun z=>by
   subst z;rw [List.getElem?_set] at e2;simp only [if_true] at e2;split at e2 <;> cases e2
  rw [List.getElem?_set_ne ne] at e2;obtain ⟨u,r,q⟩:=hl j y v' e1 e2 e3;refine ⟨u,r,?_⟩;rcases q with ⟨k,e⟩|⟨k,c,e,z⟩
  ·have yn:y≠n:=fun z=>ne (Lh hN hi (z ▸ e1))
   exact .inl ⟨k,by show (if y=n then v else m y)=_;rw [if_neg yn,← hn0.agree hn y];exact e⟩
  ·exact .inr ⟨k,c,e,z.sameBut hs (cne y c e)⟩
 ·obtain ⟨w',z⟩:=I.cell y c e;exact ⟨w',z.sameBut hs (cne y c e)⟩
 ·obtain ⟨e,n,ne,nf,d⟩:=I.pin p hp;exact ⟨(hs.2 p.1 ne).trans e,n,ne,nf,d⟩
 ·refine (I.hok b ob e).stay (fun c w' hc q=>(hs.2 c ?_).trans q) (fun _ q=>q) fun _ _ q=>q
  rintro rfl;rcases hc with rfl|hc
  ·rw [I.free] at e;cases e
  ·rw [I.free] at hc;cases hc
variable {a C L:Addr}{dx:Option Addr}{B h₁:Heap}{D:Ends}{b₀:Stmt}{suite:List Stmt}{rest:List ExceptHandler}{c:Str}{np hpos:Pos}
noncomputable def Js (K:PySem.W.Frag) (C L:Addr):Bool:=match K.lookup C with
 | some ⟨_,_,.cls cd,_⟩=>cd.mro.contains (.ref L)
 | _=>false
noncomputable def Ends.less (D:Ends) (i:Nat):Ends:={ nx:=fun σ H=>D.nx (σ.set i none) H,rt:=D.rt }
noncomputable def Mt (X:Cx) (i:Nat) (C:Addr) (dx:Option Addr) (ss:List Stmt) (t:TS):Prop:=∀ (pins:List (Addr×Obj)) (σ:St) (H2:Hp) (a:Addr) (ob:Obj) (s7:Shared) (D:Ends),Jx C dx ob->H2 a=none->Inv (X.hand (.ref a)) ((a,ob)::pins) (σ.set i (some (.ref a))) H2 s7->t D σ H2 ->
 wpAny (model X.prog X.w) (X.A.mark (some (.ref a))) (execs ss X.env) (SP (X.hand (.ref a)) ((a,ob)::pins) (Ends.less D i)) (fun _ _=>False) s7
theorem Y9 (hxe:X.xe=fun _ _=>False) (hst:X.stack=X.env::X.outer) (hfr:X.env.frame=some X.env.locals) (I:Inv X pins σ H1 s1) (T:Thrown X.prog X.w X.stack H1 H2 s1 s' a C dx B h₁)
  (hC:PySem.W.excIn X.K C bmV "ValueError.__new__"=true) (hL:PySem.W.excIn X.K L bmV "ValueError.__new__"=true) (hup:Js X.K C L=true) (hg:Gl X c) (hm:X.mg c=some (.ref L)) (hd:(c==("__debug__":Str))=false)
  (hN:X.N.Nodup) (hi:X.N[i]?=some n) (hk:X.env.scope.names.lookup n=some .local) {t:TS} (hs:Mt X i C dx (b₀::suite) t) (q:t D σ H2) :
  wpAny (model X.prog X.w) X.A (noteFrame (.ref a) X.env) (fun _ s₂=>wpAny (model X.prog X.w) X.A (setFlight (.ref a) none) (fun _ s₃ =>
   wpAny (model X.prog X.w) X.A (handleBy (.ref a) X.env (.ExceptHandler (some (.Name c np)) (some n) (b₀::suite) hpos::rest)) (SP X pins D) X.xe s₃) X.xe s₂) X.xe s':=by
 have land:∀ h,(∀ b o,B.get? b=some o->h.get? b=some o)->h₁.UpToSlots h->Inv X pins σ H2 { s' with heap:=h }:=fun h st us=>by
  obtain ⟨un,hok⟩:=T.land I.stack I.stkFree st us;have J:=I.call (h':=h) (g':=s'.gens) (d':=s'.drawn) (t':=s'.toks) (ch:=[]) un hok T.bare (fun b z=>absurd z (by simp));have e:=T.os;obtain ⟨hh,g,d,tk,os'⟩:=s';cases (show os'=s1.os from e);exact J
 have fly:Gd (Jx C dx) .none B (X.env::X.outer) a s'.heap:=by rw [← hst];exact T.fly
 have nf:∀ b,H2 b≠none->b ∉ frs X.stack:=fun b q hb=>by
  obtain ⟨_,o',ho,_⟩:=I.stack.mem hb;exact q (T.un.free b o' ho (I.stkFree b hb) (by simp))
 have ha:H2 a=none:=by
  cases q:H2 a with
  | none=>rfl
  | some u =>
   obtain ⟨o,e⟩:=dH (T.hok a u q);have:=T.kp a o e (nf a (by rw [q];simp)) (.inr (by rw [q];simp));rw [fly.2.1] at this;cases this
 refine Kp (Jx.steady C dx) (by rw [← hst];exact I.ok.frames) hfr fly fun h4 f4 m4=>?_
 refine Qu (.inr ⟨_,f4⟩) fun h5 f5 m5=>?_
 have u5:=(T.sl.trans m4).trans m5;have I5:=(land h5 f5.1 u5).hand (.ref a);obtain ⟨ob,hob,hoc⟩:=f5.there
 obtain ⟨bmC,NC,nmC,qC,bsC,hdC,snC,subC,abC,colC,ddC,j0,j1,j2,j3,j5,mNC,kC,_,_,TC⟩:=(K4 (mg:=fun _=>some (.ref C)) (x := "") I.ok.mod.kin rfl hC).obj;obtain ⟨bmL,NL,nmL,qL,bsL,hdL,snL,subL,abL,colL,ddL,l0,l1,l2,l3,l5,mNL,kL,_,_,TL⟩:=(K4 I.ok.mod.kin hm hL).obj;have hmro:(Value.ref C::bmC).contains (.ref L)=true:=by
  have z:=hup;unfold Js at z;split at z
  ·rename_i cd _ lk;have e:=(I.ok.mod.kin _ _ lk).symm.trans kC;unfold excClassObj at e;cases e;exact z
  ·cases z
 refine wpAny_handleBy_cons (codeAny_handlers_test (Gv I5 hg hm ?_ hd)) (by intro z;cases z);refine Tz (I5.bk _ _ kC) (I5.bk _ _ kL) hob hoc.1 (TL.hasType (by decide +kernel)) hmro (codeAny_handlers_suite_as ?_);refine Qu (.inr ⟨_,f5⟩) fun h6 f6 m6=>?_
 have I6:=land h6 f6.1 (u5.trans m6);obtain ⟨_,_,f63,oe,vs,TT,oT,ts,he,jx,hdat,_⟩:=f6;have apart:∀ b∈frs (X.env::X.outer),b≠a:=fun b hb e=>by
  obtain ⟨_,o2,e2,nd⟩:=f63.mem hb;rw [e,he] at e2;cases e2;exact nd vs hdat
 have I7:Inv (X.hand (.ref a)) ((a,oe)::pins) σ H2 { s' with heap:=h6 }:=(I6.hand (.ref a)).pins_of fun p hp=>by
  rcases List.mem_cons.mp hp with rfl|hp
  ·refine ⟨he,ha,fun e=>apart X.env.locals ?_ e.symm,fun e=>apart a ?_ rfl,fun v z=>?_⟩
   ·unfold frs;rw [List.filterMap_cons,hfr];exact List.mem_cons_self
   ·unfold frs;rw [List.filterMap_cons,hfr];exact List.mem_cons_of_mem _ e
   ·have:oe.data=.cell v:=z;rw [hdat] at this;cases this
  ·exact I6.pin p (List.mem_append_right _ hp)
 refine Hz (X:=X.hand (.ref a)) (M:=model X.prog X.w) I7 hN hi (.inl hk) (show RelV (.ref a) (.ref a) from rfl) (fun s8 I8=>?_) (.inr hk);refine wpAny_mono (hs pins σ H2 a oe s8 D jx ha I8 q) (fun f s9 z=>?_) fun e9 s9 z=>z.elim
 have back:∀ {σ9:St} {H9:Hp},Inv (X.hand (.ref a)) ((a,oe)::pins) σ9 H9 s9->∀ {Q:Unit->Shared->Prop} {E:Value->Shared->Prop} {p:Pos},(∀ s10,Inv X pins (σ9.set i none) H9 s10->Q () s10)->wpAny (model X.prog X.w) X.A (do bindName X.env n .none;unbindBehindTheSuite X.env n p) Q E s9:=fun {σ9 H9} I9 {Q E p} k=>by
  have J9:Inv X pins σ9 H9 s9:=(I9.unhand I.ok).pins_of fun p hp=>I9.pin p (List.mem_append_right _ (List.mem_cons_of_mem _ hp))
  obtain ⟨m9,n9,_⟩:=id J9.loc;exact wpAny_nameGoes_keeps (show X.env.scope.names.lookup n=some .local from hk) n9 (by rw [I.ok.kind];rfl) fun h' v hn' hs'=>k _ (J9.less hN hi n9 hn' hs')
 cases f with
 | next=>obtain ⟨σ9,H9,I9,q9⟩:=z;exact back I9 fun s10 I10=>⟨_,H9,I10,q9⟩
 | brk=>obtain ⟨_,_,_,q⟩:=z;exact q.elim
 | cont=>obtain ⟨_,_,_,q⟩:=z;exact q.elim
 | ret u=>obtain ⟨v,σ9,H9,I9,r9,q9⟩:=z;exact back I9 fun s10 I10=>⟨v,_,H9,I10,r9,q9⟩
end
section
variable {X:Cx}{i k:Nat}{fd:FuncData}{ps:List Str}{sp:Sp}{C L fa:Addr}{dx:Option Addr}{x c n:Str}{e:Expr}{es:List Expr}{ta:TA}{b₀:Stmt}{suite:List Stmt}{rest:List ExceptHandler}{np hpos apos cpos epos tpos:Pos}
noncomputable def vL (sp:Sp) (ta:TA) (C:Addr) (t:TS):TS:=fun D σ H=>ta σ H fun vs H1=>sp vs H1 (fun _ H2=>D.nx σ H2) fun z dx H2=>z=.ref C/\dx=none/\t D σ H2
theorem Za (hxe:X.xe=fun _ _=>False) (hst:X.stack=X.env::X.outer) (hfr:X.env.frame=some X.env.locals)
  (F:FnOk X.prog X.w X.K X.mg X.base (CXe X.prog X.w) k fa fd ps sp) (hr:Room k X.A) (hg:Gl X x) (hm:X.mg x=some (.ref fa)) (hk:PySem.W.keepIn X.K (.ref fa)=true) (hb:Binds X.K fd ps []) (ha:PA X (e::es) ta)
  (hC:PySem.W.excIn X.K C bmV "ValueError.__new__"=true) (hL:PySem.W.excIn X.K L bmV "ValueError.__new__"=true) (hup:Js X.K C L=true) (hgc:Gl X c) (hmc:X.mg c=some (.ref L)) (hdc:(c==("__debug__":Str))=false)
  (hN:X.N.Nodup) (hi:X.N[i]?=some n) (hn:X.env.scope.names.lookup n=some .local) {t:TS} (hs:Mt X i C none (b₀::suite) t)
  (hdb:(x==("__debug__":Str))=false) (he:starEach (e::es) X.env=(false,eval e X.env)::starEach es X.env) (hpl:(backTo cpos (starEach es X.env)).any (·.1)=false) (hsw:swapsWith (.Call (.Name x apos) (e::es) [] cpos) none epos.line X.env=pure false) :
  PS X (.Try [.Expr (.Call (.Name x apos) (e::es) [] cpos) epos] (.ExceptHandler (some (.Name c np)) (some n) (b₀::suite) hpos::rest) [] [] tpos) (vL sp ta C t):=by
 intro pins s σ H D I h;refine wpAny_Try_except (wpAny_execs_cons ?_);refine wpAny_Expr_any (Q:=_) (thn (Q:=EP X pins σ fun _ H2=>D.nx σ H2) ?_ fun v s1 hz=>?_) I.quiet hsw
 ·refine wpAny_Call_Name_kw (Gv I hg hm ?_ hdb);have h2:=ha cpos pins s σ H _ I h;refine PySem.W.callWith_K (h₀:=X.base) I.ok.mod.kin hk (wpAny_mono h2 (fun us s1 hz=>?_) fun e7 s7 z=>?_) he hpl
  ·obtain ⟨vs,H1,I1,r,q⟩:=hz;refine ⟨I1.kIn,?_⟩;have hl:us.length=ps.length:=by rw [← r.length];exact F.len _ _ _ _ q
   have hb1:=hb s1 us I1.kIn (by rw [List.append_nil];exact hl);rw [List.append_nil] at hb1;refine wpAny_call (codeAny_mono (F.run X.A X.stack s1 H1 ⟨us,[]⟩ us vs _ _ hr I1.env0 hb1 r q) fun r s' hq=>?_);cases r with
   | error e =>
    obtain ⟨a,C',dx,B,h₁,H2,rfl,T,z1,z2,z3⟩:=hq;cases z1;cases z2;exact Y9 hxe hst hfr I1 T hC hL hup hgc hmc hdc hN hi hn hs z3
   | ok fl =>
    cases fl with
    | ret u=>exact I1.after hq
    | next=>exact False.elim hq
    | brk=>exact False.elim hq
    | cont=>exact False.elim hq
  ·have z:X.xe e7 s7:=z;rw [hxe] at z;exact z.elim
 ·obtain ⟨x1,H2,I2,r2,q2⟩:=hz;exact wpAny_execs_nil (wpAny_execs_nil ⟨σ,H2,I2,q2⟩)
end
theorem Oa:entryFor table "proto.unchain"=some Builtin.«proto.unchain»:=entryFor_of_fast (by kernel_rfl)
section
variable {prog:Program}{w:World}{A:Around}{E:Value->Shared->Prop}{s:Shared}{x:Addr}{ox:Obj}{fs:Array Value}
theorem Ob {it l:Addr}{i:Nat}{items:Array Value}{Q:Option Value->Shared->Prop}(hh:A.handled=some (.ref x)) (ex:s.heap.get? x=some ox) (dx:ox.data=.fields fs) (cx:fs[2]?=some .none) (nx:x≠it)
  (hit:s.heap.IsListIter it l i) (hl:s.heap.IsList l items) (hi:items[i]?=none) (k:∀ h',Heap.ExtBut it s.heap h'->Q none { s with heap:=h' }):wpAny (model prog w) A (pyNext (.ref it)) Q E s:=by
 obtain ⟨oi,ei,ci,di⟩:=id hit;obtain ⟨ol,el,_,nl,dl⟩:=hl;unfold pyNext
 refine wpAny_bind (wpAny_attempt (wpAny_callSpecial?_slot (name:=Str.ofString "__next__") hit.typeIs slot_listiter_next (wpAny_call_entry slot_listiter_next hit.typeIs entry_listiter_next ?_ (args_listiter_next _))));show wpAny _ _ (field (.ref it) 0 >>= _) _ _ s;refine wpAny_bind (wpAny_field ei di (x:=.ref l) rfl ?_);rw [if_neg (by simp)];refine wpAny_bind (wpAny_field ei di (x:=.int i 0) rfl (wpAny_bind (wpAny_seqItems el dl ?_)));simp only [Int.toNat_natCast,hi];refine wpAny_bind (wpAny_rule (wpAny_bind (wpAny_setField ei di (by simp) (wpAny_bind ?_))));simp only [newExc,newTuple];refine wpAny_bind (wpAny_newObj_type ?_ (by size_fits));refine wpAny_bind (m:=firstArgMember _ _) (wpAny_of_eq (a:=Value.none) (by first | rfl | (simp only [firstArgMember];rfl)) (wpAny_newObj_type ?_ (by size_fits)));simp only [raiseNew];refine wpAny_bind (wpAny_handled ?_);rw [show A.in1.handled=some (.ref x) from hh];generalize h1d:(s.heap.update it (Obj.mapFields (·.setIfInBounds 0 Value.none)))=h1;have e1:h1.get? x=some ox:=by rw [← h1d];exact (Bp nx).trans ex
 have ext:Heap.ExtBut it s.heap h1:=by rw [← h1d];exact (Heap.SameBut.update ..).extBut
 generalize hg:(h1.push { cls:=.type "tuple",data:=.seq #[] })=g;have eg:g.get? x=some ox:=by rw [← hg];exact Heap.get?_push_of_some _ e1
 have xg:Heap.ExtBut it s.heap g:=by rw [← hg];exact ext.push _
 have ng:x≠g.objs.size:=Nat.ne_of_lt (Heap.lt_size eg)
 generalize hso:({ cls:=.type "StopIteration",data:=.fields (#[Value.ref h1.objs.size,Value.none,Value.none,Value.none,Value.bool false,Value.none]++ownMembersOf (Value.type "StopIteration") []) }:Obj)=so
 have dso:so.data=.fields (#[Value.ref h1.objs.size,Value.none,Value.none,Value.none,Value.bool false,Value.none]++ownMembersOf (Value.type "StopIteration") []):=by rw [← hso]
 have fso:so.isFreed=false:=by rw [← hso];rfl
 have cso:so.cls=.type "StopIteration":=by rw [← hso]
 dsimp only;rw [if_pos (by simpa using ng)];have es:=Heap.get?_push_size g fso;have ex2:=Heap.get?_push_of_some so eg;refine wpAny_bind (wpAny_holding (runValue_entry Oa ?_));unfold Builtin.«proto.unchain»;refine wpAny_bind (wpAny_field ex2 dx cx ?_);rw [if_pos (by decide)];refine wpAny_pure ⟨_,rfl,?_⟩;show wpAny _ _ (setField (.ref g.objs.size) 2 (.ref x) >>= _) _ _ _;refine wpAny_bind (wpAny_setField es dso (by simp;omega) (wpAny_throw ?_));have e3:=Heap.get?_update_self (Obj.mapFields (·.setIfInBounds 2 (Value.ref x))) es (Obj.isFreed_of_fields (Obj.data_mapFields dso _))
 refine wpAny_bind (wpAny_isInstance (T := "StopIteration") (b:=true) ⟨_,e3,(Obj.cls_mapFields _ _).trans cso⟩ isSubtype_stop (wpAny_pure (k _ ?_)));exact fun b o hb e=>by
  have e4:=xg b o hb e;rw [Bp (Nat.ne_of_lt (Heap.lt_size e4))];exact Heap.get?_push_of_some _ e4
theorem V0 (hh:A.handled=some (.ref x)) (dx:ox.data=.fields fs) (cx:fs[2]?=some .none) (I ax:Addr) (hne:ax≠I) (hx:x≠I) (items:Array Value) :
  Walks prog w A I [I,ax,x] [I] items.size (fun i v=>items[i]?=some v) (fun i h=>(h.IsListIter I ax i/\h.IsList ax items)/\h.get? x=some ox) where
 sub:=fun b hb=>by simp at hb;simp [hb]
 frame:=fun _ _ _ st hk=>⟨⟨st.1.1.at fun o e=>hk I (by simp) o e,st.1.2.at fun o e=>hk ax (by simp) o e⟩,hk x (by simp) _ st.2⟩
 item:=fun i s Q E hi st hQ=>by
  refine wpAny_pyNext_list_item st.1.1 st.1.2 (x:=items[i]) (by simp [hi]) fun h' hit' hs'=>?_
  exact hQ _ h' s.toks (by simp [hi]) ⟨⟨hit',st.1.2.extBut hs'.extBut hne⟩,hs'.extBut _ _ hx st.2⟩ fun b o hb e=>hs'.extBut b o (fun h=>hb (by simp [h])) e
 done:=fun s Q E st hQ=>Ob hh st.2 dx cx hx st.1.1 st.1.2 (by simp) fun h' he'=>hQ h' s.toks fun b o hb e=>he' b o (fun h=>hb (by simp [h])) e
 self:=fun _ _ _ _ st hQ=>wpAny_pyIter_listiter st.1.1 hQ
end
noncomputable abbrev Cx.held (X:Cx) (a:Addr) (ob:Obj):Cx:={ X.hand (.ref a) with pn:=(a,ob)::X.pn }
section
variable {X:Cx}{pins:List (Addr×Obj)}{σ:St}{H:Hp}{s:Shared}{a C:Addr}{ob:Obj}
theorem Inv.held (I:Inv (X.hand (.ref a)) ((a,ob)::pins) σ H s):Inv (X.held a ob) pins σ H s :=
 ⟨⟨I.ok.mod,I.ok.kind,I.ok.glob,I.ok.blt,I.ok.above,I.ok.inj,I.ok.has,I.ok.cab,fun z=>(by cases z),I.ok.frames,I.ok.stk,I.ok.exf,I.ok.bs,I.ok.bsz,I.ok.noex,I.ok.exfs,I.ok.funs,I.ok.frf⟩,
  I.os,I.bare,I.base,I.loc,I.cell,I.free,I.freeC,fun p hp=>I.pin p (by
   rcases List.mem_append.mp hp with z|z
   ·rcases List.mem_cons.mp z with rfl|z
    ·exact List.mem_append_right _ List.mem_cons_self
    ·exact List.mem_append_left _ z
   ·exact List.mem_append_right _ (List.mem_cons_of_mem _ z)),I.hok,I.len⟩
theorem Inv.unheld (I0:Inv (X.hand (.ref a)) ((a,ob)::pins) σ H s) {σ':St}{H':Hp}{s':Shared}(I:Inv (X.held a ob) pins σ' H' s'):Inv (X.hand (.ref a)) ((a,ob)::pins) σ' H' s' :=
 ⟨I0.ok,I.os,I.bare,I.base,I.loc,I.cell,I.free,I.freeC,fun p hp=>I.pin p (by
   rcases List.mem_append.mp hp with z|z
   ·exact List.mem_append_left _ (List.mem_cons_of_mem _ z)
   ·rcases List.mem_cons.mp z with rfl|z
    ·exact List.mem_append_left _ List.mem_cons_self
    ·exact List.mem_append_right _ z),I.hok,I.len⟩
theorem Zc (hC:PySem.W.excIn X.K C bmV "ValueError.__new__"=true) (hN:dF X.K C=true) (hcls:ob.cls=.ref C) {c:V}{cv:Value}{b:Bool}(rc:∀ u,RelV c u->u=cv) (hk:PySem.W.kitOne X.K (.ref C) cv=some b) :
  Ba (X.held a ob) (.builtin "isinstance") (fun xs H Q=>xs=[.ref a,c]/\Q (.bl b) H):=by
 rintro pins s σ H xs us Q I r ⟨rfl,q⟩
 match us,r with
 | [u1,u2],.cons r1 (.cons r2 .nil) =>
  cases (show u1=Value.ref a from r1);cases rc u2 r2;have p:=(I.pin (a,ob) (List.mem_append_left _ List.mem_cons_self)).1;exact PySem.W.kia_one (dG hC hN) I.kIn ⟨ob,p,hcls⟩ hk (fun z=>nomatch z) fun tk=>⟨.bl b,H,I.tok _,rfl,q⟩
end
theorem mX {X:Cx}{e:Expr}{t t':TE}(h:PE X e t) (j:∀ σ H Q,t' σ H Q->t σ H Q):PE X e t':=fun pins s σ H Q I q=>h pins s σ H Q I (j σ H Q q)
section
variable {X:Cx}{a C:Addr}{ob:Obj}{i:Nat}{n c:Str}{p p2 p3 pos:Pos}{b:Bool}{ss:List Stmt}{t:TS}
noncomputable def dI (i:Nat) (a:Addr) (b:Bool):TE:=fun σ H Q=>σ[i]?=some (some (.ref a))/\Q (.bl b) H
theorem Xb (hC:PySem.W.excIn X.K C bmV "ValueError.__new__"=true) (hN:dF X.K C=true) (hcls:ob.cls=.ref C) (hg:Gl X "isinstance") (hm:X.mg "isinstance"=none) (hi:X.N[i]?=some n) (hv:Vis X.env.scope n) (hd:(n==("__debug__":Str))=false) (hcd:(n==("__classdict__":Str))=false)
  {cv:V} {cu:Value} (pc:PE (X.held a ob) (.Name c p3) (tC cv)) (rc:∀ u,RelV cv u->u=cu) (hk:PySem.W.kitOne X.K (.ref C) cu=some b):PE (X.held a ob) (.Call (.Name "isinstance" p) [.Name n p2,.Name c p3] [] pos) (dI i a b):=by
 refine mX (Ge (X:=X.held a ob) (Zc hC hN hcls rc hk) hg hm boot_isinstance (Be (Uu (X:=X.held a ob) hi hv hd hcd) (Be pc Es))) ?_;rintro σ H Q ⟨h1,h2⟩;exact ⟨_,h1,rfl,h2⟩
theorem Zd (hxe:X.xe=fun _ _=>False) {dx:Option Addr}{t:TS}(h:∀ a ob,Jx C dx ob->∃ tt,PSs (X.held a ob) ss tt/\∀ (σ:St) (H:Hp) (D:Ends),σ.length=X.N.length->t D σ H->tt (Ends.less D i) (σ.set i (some (.ref a))) H):Mt X i C dx ss t:=by
 intro pins σ H2 a ob s7 D oc _ I7 q;obtain ⟨tt,h1,h2⟩:=h a ob oc;have hlen:σ.length=X.N.length:=by have:=I7.len;simpa using this
 refine wpAny_mono (h1 pins s7 _ H2 _ I7.held (h2 σ H2 D hlen q)) (fun f s9 z=>?_) fun e9 s9 z=>?_
 ·cases f with
  | next=>obtain ⟨σ9,H9,I9,q9⟩:=z;exact ⟨σ9,H9,I7.unheld I9,q9⟩
  | brk=>obtain ⟨_,_,_,q⟩:=z;exact q.elim
  | cont=>obtain ⟨_,_,_,q⟩:=z;exact q.elim
  | ret u=>obtain ⟨v,σ9,H9,I9,r9,q9⟩:=z;exact ⟨v,σ9,H9,I7.unheld I9,r9,q9⟩
 ·have z:X.xe e9 s9:=z;rw [hxe] at z;exact z
end
end L2
namespace DL
open PySem PySem.Spec PyProof.Rows L2
noncomputable def mY:Fn:=fun ds mh=>match ds with
 | [.ref n]=>zK [.ref n] mh
 | _=>none
theorem Ze {ds:List D}{mh mh':MH}{d:D}(h:mY ds mh=some (d,mh')):∃ n,ds=[.ref n]/\zK [.ref n] mh=some (d,mh'):=by
 unfold mY at h;split at h
 ·exact ⟨_,rfl,h⟩
 ·cases h
theorem Zf {X:Cx}{a C:Addr}{ob:Obj}{dx:Option Addr}(jx:Jx C dx ob):Ba (X.held a ob) (.builtin "any") (rDs X.K mY):=by
 rintro pins s σ H xs us Q I r ⟨ρ,mh,ds,d,mh',q,rs,rd,co⟩;obtain ⟨n,rfl,q1⟩:=Ze q
 clear q
 obtain ⟨x,bs,ex,e,rfl,rfl⟩:=Il q1;cases ex;obtain ⟨v,rfl,rx⟩:=Hr rd;obtain ⟨u,rfl,ru⟩:=vals1 r;obtain ⟨p,ys,rfl,hq,ry⟩:∃ p ys,v=.ref p/\SqL X.K H p ys/\RDs X.K H ρ (bs.map D.bl) ys:=by
  cases rx with
  | @ref _ p h =>
   have e:(match mh'[n]? with | some (.lst o)=>some o | _=>none)=some (bs.map D.bl):=e;split at e
   ·rename_i o eo;have z:=rs.obj n p _ h eo;cases e;obtain ⟨xs,z1,z2⟩:=z;exact ⟨p,xs,rfl,.inl (.inl z1),z2⟩
   ·cases e
 cases ru;rw [Ow ry] at hq;obtain ⟨_,_,fs,d1,d2⟩:=jx;have ea:=(I.pin (a,ob) (List.mem_append_left _ List.mem_cons_self)).1;obtain ⟨its,rv,pl,hz⟩:=I.list hq;have hlt:p < s.heap.objs.size:=by obtain ⟨_,_,e,_⟩:=pl;exact Heap.lt_size e
 have ei:=Ql rv;refine call_any_walk (wpAny_pyIter_list pl.isList ?_);refine ⟨_,_,_,its.toArray.size,_,_,fun i=>(bs[i]?).getD false,rfl,V0 (x:=a) (ox:=ob) rfl d1 d2 s.heap.objs.size p (Nat.ne_of_lt hlt) (Nat.ne_of_lt (Heap.lt_size ea)) its.toArray,⟨⟨⟨_,Heap.get?_push_size _ rfl,rfl,rfl⟩,pl.isList.push _⟩,Heap.get?_push_of_some _ ea⟩,fun i v s' Q' E' hP hQ=>?_,fun h' tk hk'=>?_⟩
 ·have hP:its[i]?=some v:=by simpa using hP
  rw [ei,List.getElem?_map] at hP;cases eb:bs[i]? with
  | none=>rw [eb] at hP;cases hP
  | some b =>
   rw [eb] at hP;cases hP;simp only [eb,Option.getD_some] at hQ;exact wpAny_truthy_bool hQ
 ·have e2:its.toArray.size=bs.length:=by rw [ei];simp
  rw [e2,LSm.range_any bs];refine ⟨.bl _,H,I.kept (t':=tk) (fun b o z=>hk' b o (fun hm=>?_) (Heap.get?_push_of_some _ z)),rfl,co H ρ _ Ev.refl rs (.bl _)⟩;rw [List.mem_singleton] at hm;exact absurd hm (Nat.ne_of_lt (Heap.lt_size z))
end DL
namespace L2
open PySem PySem.Spec PyProof.Rows
section
variable {X:Cx}
theorem PI.nox {tg iter:Expr}{t:TI}(h:PI X.nox tg iter t):PI X tg iter t:=fun pins s σ H R I hw =>
 wpAny_mono (h pins s σ H R (I.wish _) hw) (fun _ _ z=>wpAny_mono z (fun _ _ ⟨it,fp,tn,J,H2,e,I2,r⟩=>⟨it,fp,tn,J,H2,e,I2.unwish,r⟩) fun _ _ z=>False.elim z) fun _ _ z=>False.elim z
theorem PG.nox {tg:Expr}{t:TG}(h:PG X.nox tg t):PG X tg t:=fun pins s σ H v u Q I r hw =>
 wpAny_mono (h pins s σ H v u Q (I.wish _) r hw) (fun _ _ ⟨σ',H',I',q⟩=>⟨σ',H',I'.unwish,q⟩) fun _ _ z=>False.elim z
end
section
variable {P:Program}{w:World}{K:PySem.W.Frag}{mg:Str->Option Value}{base:Heap}{N:List Str}{qual:Str}{scope:Scope}{f:Addr}{cd:Value}{A:Around}{outer:List Env}{s s1 s':Shared}{H H1 H2:Hp}{E:XK}{pins:List (Addr×Obj)}{σ:St}
theorem mZ (I:Inv (Lk (CXe P w) P w K mg base N qual scope f cd A outer s H E) pins σ H1 s1) {a C:Addr}{dx:Option Addr}{B h₁:Heap}(T:Thrown P w (envOfC qual scope s.heap.objs.size f cd::outer) H1 H2 s1 s' a C dx B h₁) (q:E (.ref C) dx H2) :
  (Lk (CXe P w) P w K mg base N qual scope f cd A outer s H E).xe (.ref a) s':=by
 have J:=I.call (h':=h₁) (g':=s'.gens) (d':=s'.drawn) (t':=s'.toks) (ch:=[]) T.un T.hok T.bare (fun b z=>absurd z (by simp));show wpAny _ _ (leaving _ _) _ _ _;have lt:s.heap.objs.size < s1.heap.objs.size:=I.lt;refine mV (Jx.steady C dx) I.ok.frames rfl T.fly fun h'' x1 x4=>⟨a,C,dx,B,h₁,H2,rfl,⟨T.os.trans I.os,T.bare,x1,J.base,T.hok,fun b o e1 hb hor=>?_,T.sl.trans x4⟩,q⟩
 refine T.kp b o e1 (fun hm=>?_) (hor.imp (fun l=>Nat.lt_trans l lt) id);rcases List.mem_cons.mp (show b∈s.heap.objs.size::frs outer from hm) with z|z
 ·rcases hor with l|l
  ·exact absurd z (Nat.ne_of_lt l)
  ·exact l (z ▸ J.free)
 ·exact hb z
end
end L2
namespace DL
open PySem PySem.Spec PyProof.Rows L2
noncomputable abbrev Rn:=List D->MH->Option (Str×MH)
noncomputable abbrev RM:=Loc->MH->Option (Str×MH)
noncomputable def Ax:RM:=fun _ _=>none
noncomputable def Ec (c:Str) (ma:DM (List D)):RM:=fun loc mh=>match ma loc mh with
 | some (ds,h)=>if ds.length < 1000 then some (c,h) else none
 | none=>none
noncomputable def V1 (m:SM) (r:RM):RM:=fun loc mh=>match m loc mh with
 | some (.nx,l,h)=>r l h
 | _=>none
noncomputable def rOr (r1:RM) (m:SM) (r:RM):RM:=fun loc mh=>match r1 loc mh with
 | some z=>some z
 | none=>V1 m r loc mh
noncomputable def rIf (t:DM Bool) (ra rb:RM):RM:=fun loc mh=>match t loc mh with
 | some (k,h)=>if k=true then ra loc h else rb loc h
 | none=>none
noncomputable abbrev Ex:=Str->Option (List Str×Fn×Rn)
noncomputable def forR (src:Src) (g:GM) (rb:RM) (body:SM):Nat->Nat->RM
 | 0,_,_,_=>none
 | k+1,i,loc,mh=>match src.get mh i with
  | none=>none
  | some d=>match g d loc mh with
   | none=>none
   | some (l1,h1)=>match rb l1 h1 with
    | some z=>some z
    | none=>match body l1 h1 with
     | some (.nx,l,h)=>forR src g rb body k (i+1) l h
     | _=>none
noncomputable def Qw (mi:DM Src) (g:GM) (rb:RM) (body:SM):RM:=fun loc mh=>match mi loc mh with
 | some (src,h)=>forR src g rb body (src.items h).length 0 loc h
 | none=>none
noncomputable def Oc (ma:DM (List D)) (r:Rn):RM:=fun loc mh=>match ma loc mh with
 | some (ds,h)=>r ds h
 | none=>none
noncomputable def Od (mo:DM D) (rc:RM):RM:=fun loc mh=>match mo loc mh with
 | some (x,h)=>if Sv "list" x h=true then rc loc h else none
 | none=>none
noncomputable def Fv:Expr->Option (Str×List Expr)
 | .Call g as kw _=>if kw.isEmpty then (match g with | .Name c _=>some (c,as) | _=>none) else none
 | _=>none
theorem En {e:Expr}{c:Str}{as:List Expr}(h:Fv e=some (c,as)):∃ p1 p2,e=.Call (.Name c p1) as [] p2:=by
 cases e with
 | Call g xs kw p =>
  cases kw with
  | cons _ _=>cases h
  | nil =>
   cases g with
   | Name d q=>cases h;exact ⟨_,_,rfl⟩
   | _=>cases h
 | _=>cases h
noncomputable def vM:Stmt->Option (Str×List Expr)
 | .Raise x y _=>if y.isNone then x.bind Fv else none
 | _=>none
theorem Zg {s:Stmt}{c:Str}{as:List Expr}(h:vM s=some (c,as)):∃ p1 p2 p3,s=.Raise (some (.Call (.Name c p1) as [] p2)) none p3:=by
 cases s with
 | Raise x y p =>
  cases y with
  | some _=>cases h
  | none =>
   cases x with
   | none=>cases h
   | some e =>
    obtain ⟨p1,p2,rfl⟩:=En (show Fv e=some (c,as) from h);exact ⟨_,_,_,rfl⟩
 | _=>cases h
noncomputable def Qx (G:Gb) (ex:Ex) (n:Nat) (sc:SC) (e:Expr):RM:=match Fv e with
 | some (x,as)=>(match as with
  | []=>Ax
  | a::es=>if glB sc.scope x&&!(x == "__debug__")&&!isStar a&&es.all (fun e=>!isStar e) then (match ex x with | some (_,_,r)=>Oc (iA G n sc (a::es)) r | none=>Ax) else Ax)
 | none=>Ax
noncomputable def Xd:Expr->Option (Expr×Expr)
 | .Call (.Attribute o m ap) [e] [] p=>if m == "append"&&baseOk o&&(ap.endLine==p.line)&&!isStar e then some (o,e) else none
 | _=>none
noncomputable def stR (G:Gb) (ex:Ex) (n:Nat) (sc:SC) (s:Stmt):RM:=match s with
 | .Assign [.Name y _] e _=>(match iGn sc y with | some _=>Qx G ex n sc e | none=>Ax)
 | .Expr e _=>(match Xd e with
  | some (o,e)=>Od (iE G n sc o) (Qx G ex n sc e)
  | none=>Qx G ex n sc e)
 | .Return (some e) _=>Qx G ex n sc e
 | _=>Ax
noncomputable def iRc (n:Nat) (R:SC->List Stmt->RM) (G:Gb) (ex:Ex) (sc:SC) (s:Stmt) (r:List Stmt):RM:=match s with
 | .If c a b _=>rIf (iT G n sc c) (rOr (R sc a) (iSs G n sc a) (R sc r)) (rOr (R sc b) (iSs G n sc b) (R sc r))
 | .For tg it body [] p=>if isSet it then Ax else (match iG sc tg with | some (_,g)=>rOr (Qw (iI G n sc tg it) g (R sc body) (iSs G n sc body)) (iS G n sc (.For tg it body [] p)) (R sc r) | none=>Ax)
 | s=>rOr (stR G ex n sc s) (iS G n sc s) (R sc r)
noncomputable def iRb (n:Nat) (R:SC->List Stmt->RM) (G:Gb) (ex:Ex) (xcl:Str->Bool) (sc:SC) (s:Stmt) (r:List Stmt):RM:=match vM s with
 | some (c,as)=>(match as with
  | []=>Ax
  | a::es=>if xcl c&&glB sc.scope c&&!(c == "__debug__")&&!isStar a&&es.all (fun e=>!isStar e) then Ec c (iA G n sc (a::es)) else Ax)
 | none=>iRc n R G ex sc s r
noncomputable def iR (G:Gb) (ex:Ex) (xcl:Str->Bool):Nat->SC->List Stmt->RM
 | 0,_,_=>Ax
 | n+1,sc,ss=>match ss with
  | []=>Ax
  | s::r=>iRb n (iR G ex xcl n) G ex xcl sc s r
termination_by structural n=>n
noncomputable def tR (K:PySem.W.Frag) (W:Str->Hp->Prop) (m:RM):TS:=fun _ σ H=>∃ loc mh ρ c mh',m loc mh=some (c,mh')/\RL K H ρ loc σ/\RS K H ρ mh/\∀ H' ρ',Ev K H ρ H' ρ'->RS K H' ρ' mh'->W c H'
noncomputable def tAx (K:PySem.W.Frag) (m:DM (List D)):TA:=fun σ H Q=>∃ loc mh,tDA K loc mh (m loc mh) σ H Q
theorem DA.x {X:Cx}{es:List Expr}{m:DM (List D)}(h:DA X es m):PA X es (tAx X.K m):=fun pos pins s σ H Q I z=>by
 obtain ⟨loc,mh,q⟩:=z;exact h loc mh pos pins s σ H Q I q
noncomputable def rRs (K:PySem.W.Frag) (r:Rn) (vs:List V) (H:Hp) (W:Str->Hp->Prop):Prop:=∃ ρ mh ds c mh',r ds mh=some (c,mh')/\RS K H ρ mh/\RDs K H ρ ds vs/\∀ H' ρ',Ev K H ρ H' ρ'->RS K H' ρ' mh'->W c H'
noncomputable def spR (K:PySem.W.Frag) (mg:Str->Option Value) (n:Nat) (f:Fn) (r:Rn):Sp:=fun vs H Q E=>vs.length=n/\(rDs K f vs H Q\/rRs K r vs H fun c H'=>∃ C,mg c=some (.ref C)/\E (.ref C) none H')
structure ExOk (P:Program) (w:World) (K:PySem.W.Frag) (mg:Str->Option Value) (base:Heap) (k:Nat) (ex:Ex):Prop where
 fn:∀ x ps f r,ex x=some (ps,f,r)->∃ fa fd,mg x=some (.ref fa)/\PySem.W.keepIn K (.ref fa)=true/\Binds K fd ps []/\FnOk P w K mg base (CXe P w) (k+2) fa fd ps (spR K mg ps.length f r)/\(∀ ds mh z,f ds mh=some z->ds.length=ps.length)/\∀ ds mh z,r ds mh=some z->ds.length=ps.length
section
variable {X:Cx}{st:Stmt}{sts:List Stmt}{m:SM}{r r1:RM}{W:Str->Hp->Prop}
theorem Jt:PSs X sts (tR X.K W Ax):=fun _ _ _ _ _ _ h=>by
 obtain ⟨_,_,_,_,_,e,_⟩:=h;cases e
theorem dJ {a:List Stmt}{t1 t2:TS}(h1:PSs X a t1) (h2:PSs X a t2):PSs X a (fun D σ H=>t1 D σ H\/t2 D σ H):=fun pins s σ H D I q=>q.elim (h1 pins s σ H D I) (h2 pins s σ H D I)
theorem vN (h1:PS X st (tS X.K m)) (h2:PSs X sts (tR X.K W r)):PSs X (st::sts) (tR X.K W (V1 m r)):=by
 refine Ft (Cy h1 h2) ?_;rintro N σ H ⟨loc,mh,ρ,c,mh',q,rl,rs,co⟩;unfold V1 at q;split at q
 ·rename_i l h e1;exact ⟨loc,mh,ρ,.nx,l,h,e1,rl,rs,fun H1 ρ1 σ1 ev1 rs1 rl1=>⟨l,h,ρ1,c,mh',q,rl1,rs1,fun H2 ρ2 ev2 rs2=>co H2 ρ2 (ev1.trans ev2) rs2⟩⟩
 ·cases q
theorem zZ {t:DM Bool}{c:Expr}{a b:List Stmt}{pos:Pos}{ra rb:RM}{sa sb:SM}(hc:PT X c (tTx X.K t)) (ha:PSs X a (tR X.K W ra)) (sa':PSs X a (tS X.K sa)) (hb:PSs X b (tR X.K W rb)) (sb':PSs X b (tS X.K sb)) (h2:PSs X sts (tR X.K W r)) :
  PSs X (.If c a b pos::sts) (tR X.K W (rIf t (rOr ra sa r) (rOr rb sb r))):=by
 have or:∀ {a:List Stmt} {t1 t2:TS},PSs X a t1->PSs X a t2->PSs X a (fun D σ H=>t1 D σ H\/t2 D σ H):=fun h1 h2 pins s σ H D I q=>q.elim (h1 pins s σ H D I) (h2 pins s σ H D I)
 refine Ft (Cy (pI hc (or ha sa') (or hb sb')) h2) ?_;rintro N σ H ⟨loc,mh,ρ,c,mh',q,rl,rs,co⟩;unfold rIf at q;split at q
 ·rename_i k h ek;refine ⟨loc,mh,ρ,k,h,ek,rl,rs,fun H1 ρ1 e1 rs1=>?_⟩;have go:∀ {r2:RM} {s2:SM},rOr r2 s2 r loc h=some (c,mh')->tR X.K W r2 { N with nx:=tR X.K W r N } σ H1\/tS X.K s2 { N with nx:=tR X.K W r N } σ H1:=fun {r2 s2} q=>by
   unfold rOr at q;split at q
   ·rename_i z ez;cases q;exact .inl ⟨loc,h,ρ1,c,mh',ez,rl.mono e1,rs1,fun H2 ρ2 ev2 rs2=>co H2 ρ2 (e1.trans ev2) rs2⟩
   ·unfold V1 at q;split at q
    ·rename_i l h' e2;exact .inr ⟨loc,h,ρ1,.nx,l,h',e2,rl.mono e1,rs1,fun H2 ρ2 σ2 ev2 rs2 rl2=>⟨l,h',ρ2,c,mh',q,rl2,rs2,fun H3 ρ3 ev3 rs3=>co H3 ρ3 (e1.trans (ev2.trans ev3)) rs3⟩⟩
    ·cases q
  cases k with
  | true=>exact Lq (go (by rw [if_pos rfl] at q;exact q))
  | false=>exact Qd (go (by rw [if_neg Bool.false_ne_true] at q;exact q))
 ·cases q
theorem vO {tg iter:Expr}{body:List Stmt}{pos:Pos}{mi:DM Src}{ws:List Nat}{g:GM}{rb:RM}{mb:SM}(hp:PassesOwn (model X.prog X.w) X.A X.env X.xe) (hc:X.calm=true) (hi:PI X tg iter (tIx X.K mi)) (hg:PG X tg (tG X.K ws g)) (hr:PSs X body (tR X.K W rb)) (hb:PSs X body (tS X.K mb))
  (hs:∀ x,foldedSetIterable iter X.env x=pure x):PS X (.For tg iter body [] pos) (tR X.K W (Qw mi g rb mb)):=by
 refine Bt (Z8 hp hc hi hg (dJ hr hb) hs) ?_;rintro N σ H ⟨loc,mh,ρ,c,mh',q,rl,rs,co⟩;unfold Qw at q;split at q
 ·rename_i src h0 ei;refine ⟨loc,mh,ρ,src,h0,ei,rl,rs,fun H1 ρ1 J e1 rs1 jr=>?_⟩
  refine ⟨fun i k σ H=>∃ ρ loc mh,Ev X.K H1 ρ1 H ρ/\RL X.K H ρ loc σ/\RS X.K H ρ mh/\forR src g rb mb k i loc mh=some (c,mh')/\∀ H' ρ',Ev X.K H ρ H' ρ'->RS X.K H' ρ' mh'->W c H',
   ⟨_,ρ1,loc,h0,Ev.refl,rl.mono e1,rs1,q,fun H' ρ' ev=>co H' ρ' (e1.trans ev)⟩,?_⟩
  rintro i k σ H ⟨ρ,loc,mh,ev,rl,rs,q,co⟩;cases k with
  | zero=>cases q
  | succ k =>
   simp only [forR] at q;split at q
   ·cases q
   ·rename_i d ed;obtain ⟨hgo,hyld⟩:=jr.go H ρ mh i d ev rs ed;split at q
    ·cases q
    ·rename_i l1 h1 eg
     refine .inr ⟨hgo,fun σ' H'=>∃ ρ' loc mh,Ev X.K H1 ρ1 H' ρ'/\RL X.K H' ρ' loc σ'/\RS X.K H' ρ' mh/\forR src g rb mb k (i+1) loc mh=some (c,mh')/\∀ H'' ρ'',Ev X.K H' ρ' H'' ρ''->RS X.K H'' ρ'' mh'->W c H'',
      fun σ' H' h=>⟨k,Nat.lt_succ_self _,h⟩,fun x H' hy=>?_⟩
     obtain ⟨ev2,rs2,rd2⟩:=hyld x H' hy;refine ⟨d,loc,mh,ρ,l1,h1,eg,rl.mono ev2,rs2,rd2,fun H3 ρ3 σ3 ev3 rs3 rl3 _=>?_⟩;split at q
     ·rename_i z ez;cases q;exact .inl ⟨l1,h1,ρ3,c,mh',ez,rl3,rs3,fun H4 ρ4 ev4 rs4=>co H4 ρ4 (ev2.trans (ev3.trans ev4)) rs4⟩
     ·split at q
      ·rename_i l h eb;exact .inr ⟨l1,h1,ρ3,.nx,l,h,eb,rl3,rs3,fun H4 ρ4 σ4 ev4 rs4 rl4=>⟨ρ4,l,h,ev.trans (ev2.trans (ev3.trans ev4)),rl4,rs4,q,fun H5 ρ5 ev5 rs5=>co H5 ρ5 (ev2.trans (ev3.trans (ev4.trans ev5))) rs5⟩⟩
      ·cases q
 ·cases q
theorem qG {s:Stmt}{r2:RM}{s2:SM}(h1:PS X s (tR X.K W r2)) (h2:PS X s (tS X.K s2)) (h3:PSs X sts (tR X.K W r)):PSs X (s::sts) (tR X.K W (rOr r2 s2 r)):=by
 have a:PSs X (s::sts) (tR X.K W r2):=Ft (Cy h1 h3) fun N σ H h=>h
 have b:=vN h2 h3;refine Ft (dJ a b) ?_;rintro N σ H ⟨loc,mh,ρ,c,mh',q,rest⟩;unfold rOr at q;split at q
 ·rename_i z ez;cases q;exact .inl ⟨loc,mh,ρ,c,mh',ez,rest⟩
 ·exact .inr ⟨loc,mh,ρ,c,mh',q,rest⟩
noncomputable def EW (mg:Str->Option Value) (W:Str->Hp->Prop):XK:=fun z dx H'=>dx=none/\∃ c C,mg c=some (.ref C)/\z=.ref C/\W c H'
noncomputable def tRE (K:PySem.W.Frag) (W:Str->Hp->Prop) (m:RM):TE:=fun σ H _=>∃ loc mh ρ c mh',m loc mh=some (c,mh')/\RL K H ρ loc σ/\RS K H ρ mh/\∀ H' ρ',Ev K H ρ H' ρ'->RS K H' ρ' mh'->W c H'
theorem K6 {e:Expr}:PE X e (tRE X.K W Ax):=fun _ _ _ _ _ _ h=>by
 obtain ⟨_,_,_,_,_,e,_⟩:=h;cases e
theorem nA {k:Nat}{fa:Addr}{fd:FuncData}{ps:List Str}{f:Fn}{rr:Rn}{x:Str}{a:Expr}{es:List Expr}{ma:DM (List D)}{p pos:Pos}
  (F:FnOk X.prog X.w X.K X.mg X.base (CXe X.prog X.w) k fa fd ps (spR X.K X.mg ps.length f rr)) (hr:Room k X.A) (hg:Gl X x) (hm:X.mg x=some (.ref fa)) (hk:PySem.W.keepIn X.K (.ref fa)=true) (hb:Binds X.K fd ps []) (hx:Et (CXe X.prog X.w) X (EW X.mg W)) (ha:PA X (a::es) (tAx X.K ma))
  (hrl:∀ ds mh z,rr ds mh=some z->ds.length=ps.length) (hdb:(x==("__debug__":Str))=false) (he:starEach (a::es) X.env=(false,eval a X.env)::starEach es X.env) (hpl:(backTo pos (starEach es X.env)).any (·.1)=false) (hW:∀ c H',W c H'->∃ C,X.mg c=some (.ref C)) :
  PE X (.Call (.Name x p) (a::es) [] pos) (tRE X.K W (Oc ma rr)):=by
 refine Bc (Wq (dvs:=[]) F hr hg hm hk hb .nil hx ha hdb he hpl) ?_;rintro σ H Q ⟨loc,mh,ρ,c,mh',q,rl,rs,co⟩;unfold Oc at q;split at q
 ·rename_i ds h ea;refine ⟨loc,mh,ρ,ds,h,ea,rl,rs,fun H1 ρ1 vs e1 rs1 r1=>?_⟩;show spR _ _ _ _ _ (vs++[]) _ _ _;rw [List.append_nil];refine ⟨by rw [← r1.length];exact hrl _ _ _ q,.inr ⟨ρ1,h,ds,c,mh',q,rs1,r1,fun H2 ρ2 e2 rs2=>?_⟩⟩;have w:=co H2 ρ2 (e1.trans e2) rs2;obtain ⟨C,m⟩:=hW c H2 w;exact ⟨C,m,rfl,c,C,m,rfl,w⟩
 ·cases q
end
noncomputable def Throws (X:Cx) (xcl:Str->Bool) (W:Str->Hp->Prop):Prop:=∀ c,xcl c=true->∃ C,X.mg c=some (.ref C)/\PySem.W.excIn X.K C bmV "ValueError.__new__"=true /\
 ∀ (pins:List (Addr×Obj)) (σ:St) (H:Hp) (s:Shared) (h':Heap) (a:Addr) (vs:List Value),Inv X pins σ H s->Heap.MadeExcOf s.heap h' a (.ref C) vs->W c H->X.xe (.ref a) { s with heap:=h' }
section
variable {X:Cx}{W:Str->Hp->Prop}{G:Gb}{ex:Ex}{k n:Nat}{sc:SC}
theorem K7 (O:XOk X.nox k G sc) (xo:ExOk X.prog X.w X.K X.mg X.base k ex) (hx:Et (CXe X.prog X.w) X (EW X.mg W)) (hW:∀ c H',W c H'->∃ C,X.mg c=some (.ref C)) (e:Expr):PE X e (tRE X.K W (Qx G ex n sc e)):=by
 unfold Qx;cases hz:Fv e with
 | none=>exact K6
 | some z =>
  obtain ⟨x,as⟩:=z;obtain ⟨p1,p2,rfl⟩:=En hz;dsimp only;cases as with
  | nil=>exact K6
  | cons a es =>
   dsimp only
   by_cases hb:(glB sc.scope x&&!(x == "__debug__")&&!isStar a&&es.all (fun e=>!isStar e))=true
   ·rw [if_pos hb];rw [Bool.and_eq_true,Bool.and_eq_true,Bool.and_eq_true] at hb;obtain ⟨⟨⟨h1,h2⟩,h3⟩,h4⟩:=hb;cases ef:ex x with
    | none=>exact K6
    | some z =>
     obtain ⟨ps,g,rr⟩:=z;obtain ⟨fa,fd,g1,g2,g3,g4,g5,g6⟩:=xo.fn _ _ _ _ ef;exact nA g4 (show Room (k+2) X.A from O.room) (show Gl X x from O.gl h1) g1 g2 g3 hx (PA.nox (DA.x ((snd G n).a O (a::es)))) g6 (by simpa using h2) (Bb (by simpa using h3)) (Ao h4) hW
   ·rw [if_neg hb];exact K6
theorem V2 {e o a:Expr}(h:Xd e=some (o,a)):∃ ap p,e=.Call (.Attribute o "append" ap) [a] [] p/\baseOk o=true/\(ap.endLine==p.line)=true/\isStar a=false:=by
 unfold Xd at h;split at h
 ·split at h
  ·rename_i hb;cases h;rw [Bool.and_eq_true,Bool.and_eq_true,Bool.and_eq_true] at hb;obtain ⟨⟨⟨h1,h2⟩,h3⟩,h4⟩:=hb;rw [eq_of_beq h1];exact ⟨_,_,rfl,h2,h3,by simpa using h4⟩
  ·cases h
 ·cases h
theorem vP (O:XOk X.nox k G sc) (xo:ExOk X.prog X.w X.K X.mg X.base k ex) (hx:Et (CXe X.prog X.w) X (EW X.mg W)) (hW:∀ c H',W c H'->∃ C,X.mg c=some (.ref C)) (s:Stmt):PS X s (tR X.K W (stR G ex n sc s)):=by
 have bad:∀ {s:Stmt},PS X s (tR X.K W Ax):=fun _ _ _ _ _ _ h=>by
  obtain ⟨_,_,_,_,_,e,_⟩:=h;cases e
 have call:∀ {s:Stmt} {r:RM} {e:Expr},Fv e=none->r=Qx G ex n sc e->PS X s (tR X.K W r):=fun {s r e} hz hr=>by
  subst hr;unfold Qx;rw [hz];exact bad
 cases s with
 | Return e p =>
  cases e with
  | none=>exact bad
  | some e=>exact Bt (Z5 (K7 O xo hx hW e)) fun N σ H h=>h
 | Expr e p =>
  delta stR
  dsimp only;cases ha:Xd e with
  | none =>
   dsimp only;cases hz:Fv e with
   | none=>exact call hz rfl
   | some z =>
    obtain ⟨x,as⟩:=z;have hc:=K7 (n:=n) O xo hx hW e;obtain ⟨p1,p2,rfl⟩:=En hz;exact Bt (Pr hc (G4 rfl)) fun N σ H h=>h
  | some z =>
   obtain ⟨o,a⟩:=z;obtain ⟨ap,p,rfl,h1,h2,h3⟩:=V2 ha;dsimp only;have pa:PA X [a] (pK (tRE X.K W (Qx G ex n sc a)) rZ):=Be (K7 (n:=n) O xo hx hW a) Es (Bb h3);have few:((backTo p (starEach [a] X.env)).all (fun x=>!x.1)&&(backToKw p (keywordEach [] X.env)).all (fun x=>x.1.isSome)&&decide ([a].length+([]:List Keyword).length+(if ([]:List Keyword).isEmpty then 0 else 1) < 30))=true:=by
    rw [K3 (by rw [List.all_cons,h3];rfl)];rfl
   refine Bt (Pr (pO PySem.F.plainAttrs_list PySem.F.slot_list_append PySem.F.type_list_append (Mf (X:=X)) (PE.nox (((snd G n).e O o).x)) pa (Br h1) few h2 (Bb h3) rfl) (G4 rfl)) ?_;rintro N σ H ⟨loc,mh,ρ,c,mh',q,rl,rs,co⟩;unfold Od at q;split at q
   ·rename_i x h ex;split at q
    ·rename_i ht;exact ⟨loc,mh,ρ,x,h,ex,rl,rs,fun H1 ρ1 v e1 rs1 r1=>⟨Vg rs1 r1 ht,loc,h,ρ1,c,mh',q,rl.mono e1,rs1,fun H2 ρ2 e2 rs2=>co H2 ρ2 (e1.trans e2) rs2⟩⟩
    ·cases q
   ·cases q
 | Assign ts v p =>
  cases ts with
  | nil=>exact bad
  | cons tg r =>
   cases r with
   | cons _ _=>cases tg <;> exact bad
   | nil =>
    cases tg with
    | Name y py =>
     delta stR
     dsimp only;cases ei:iGn sc y with
     | none=>exact bad
     | some i =>
      dsimp only;cases hz:Fv v with
      | none=>exact call hz rfl
      | some z =>
       obtain ⟨x,as⟩:=z;have hc:=K7 (n:=n) O xo hx hW v;obtain ⟨p1,p2,rfl⟩:=En hz;have eg:iG sc (.Name y py)=some ([i],Av i):=by
        show (match iGn sc y with | some i=>some ([i],Av i) | none=>none)=_;rw [ei]
       exact Bt (Li hc (PG.nox (O.target eg)) (Mr rfl) (Gj rfl fun _ _ z=>by cases z) rfl) fun N σ H h=>h
    | _=>exact bad
 | _=>exact bad
end
theorem Abq (G:Gb) (ex:Ex) (xcl:Str->Bool) {X:Cx}{k:Nat}{sc:SC}{W:Str->Hp->Prop}(hc:X.calm=true) (hp:PassesOwn (model X.prog X.w) X.A X.env X.xe) (O:XOk X.nox k G sc) (xo:ExOk X.prog X.w X.K X.mg X.base k ex) (hx:Et (CXe X.prog X.w) X (EW X.mg W)) (hW:∀ c H',W c H'->∃ C,X.mg c=some (.ref C)) (T:Throws X xcl W) (n:Nat):∀ ss,PSs X ss (tR X.K W (iR G ex xcl n sc ss)):=by
 induction n with
 | zero=>exact fun _=>Jt
 | succ n ih =>
  intro ss;cases ss with
  | nil=>exact Jt
  | cons s r =>
   show PSs X (s::r) (tR X.K W (iRb n (iR G ex xcl n) G ex xcl sc s r));have seq:PSs X (s::r) (tR X.K W (rOr (stR G ex n sc s) (iS G n sc s) (iR G ex xcl n sc r))):=qG (vP O xo hx hW s) (PS.nox ((Tw G n).1 O s)) (ih r);unfold iRb;cases hz:vM s with
   | some z =>
    obtain ⟨c,as⟩:=z;obtain ⟨np,cp,pos,rfl⟩:=Zg hz;dsimp only;cases as with
    | nil=>exact Jt
    | cons a es =>
     dsimp only
     by_cases hb:(xcl c&&glB sc.scope c&&!(c == "__debug__")&&!isStar a&&es.all (fun e=>!isStar e))=true
     ·rw [if_pos hb];rw [Bool.and_eq_true,Bool.and_eq_true,Bool.and_eq_true,Bool.and_eq_true] at hb;obtain ⟨⟨⟨⟨h1,h2⟩,h3⟩,h4⟩,h5⟩:=hb;obtain ⟨C,m1,m2,m3⟩:=T c h1;have ha:PA X (a::es) (tAx X.K (iA G n sc (a::es))):=PA.nox (DA.x ((snd G n).a O (a::es)));have hr:=cZ (np:=np) (cpos:=cp) (pos:=pos) (W:=W c) hc m2 (show Gl X c from O.gl h2) m1 ha m3 (by simpa using h3) (Bb (by simpa using h4)) (Ao h5);refine Ft (Cy hr (ih r)) ?_;rintro N σ H ⟨loc,mh,ρ,c',mh',q,rl,rs,co⟩;unfold Ec at q;cases e:iA G n sc (a::es) loc mh with
      | none=>rw [e] at q;cases q
      | some z =>
       obtain ⟨ds,h⟩:=z;rw [e] at q
       by_cases hl:ds.length < 1000
       ·have q:(if ds.length < 1000 then some (c,h) else none)=some (c',mh'):=q;rw [if_pos hl] at q;cases q;exact ⟨loc,mh,ρ,ds,_,e,rl,rs,fun H1 ρ1 vs e1 rs1 r1=>⟨by rw [← r1.length];exact Nat.le_trans (Nat.le_of_lt hl) (by decide),co H1 ρ1 e1 rs1⟩⟩
       ·have q:(if ds.length < 1000 then some (c,h) else none)=some (c',mh'):=q;rw [if_neg hl] at q;cases q
     ·rw [if_neg hb];exact Jt
   | none =>
    show PSs X (s::r) (tR X.K W (iRc n (iR G ex xcl n) G ex sc s r));cases s with
    | If c a b pos=>exact zZ (PT.nox (DT.x ((snd G n).t O c))) (ih a) (PSs.nox ((Tw G n).2 O a)) (ih b) (PSs.nox ((Tw G n).2 O b)) (ih r)
    | For tg it body els p =>
     cases els with
     | cons _ _=>exact seq
     | nil =>
      delta iRc
      dsimp only;split
      ·exact Jt
      ·rename_i h;split
       ·rename_i ws g eg;exact qG (vO hp hc (PI.nox (DI.x ((snd G n).i O _ _))) (PG.nox (O.target eg)) (ih body) (PSs.nox ((Tw G n).2 O body)) (Qp (by simpa using h))) (PS.nox ((Tw G n).1 O _)) (ih r)
       ·exact Jt
    | _=>exact seq
noncomputable def Dq (G:Gb) (ex:Ex) (xcl:Str->Bool) (n:Nat) (f:FnI):Rn:=fun ds mh=>if ds.length=f.ps.length then iR G ex xcl n { N:=f.N,scope:=f.scope,own:=fun _=>true } f.body (ds.map some++List.replicate (f.N.length - ds.length) none) mh else none
noncomputable def nC (K:PySem.W.Frag) (mg:Str->Option Value) (xcl:Str->Bool):Prop:=∀ c,xcl c=true->∃ C,mg c=some (.ref C)/\PySem.W.excIn K C bmV "ValueError.__new__"=true
section
variable {P:Program}{w:World}{K:PySem.W.Frag}{mg:Str->Option Value}{base:Heap}{k:Nat}{G:Gb}{ex:Ex}{xcl:Str->Bool}{x qual:Str}{st:Stmt}{f:Addr}{fd:FuncData}{I:FnI}
theorem vQ (g:GOk P w K mg base k G) (xo:ExOk P w K mg base k ex) (xc:nC K mg xcl) (F:Fun K x qual st f fd) (S:FnScope I.N I.ps (Ah st)) (hs:I.scope=Ah st) (hb:I.body=Bj st) (n:Nat) :
  FnOk P w K mg base (CXe P w) (k+3) f fd I.ps (spR K mg I.ps.length (Aq G n I) (Dq G ex xcl n I)):=by
 obtain ⟨oc,od,kV,doc,pm,an,cdv,ct,osl,rfl,lk,hcd⟩:=F.ex;refine pM lk hcd S (fun vs H Q E h=>h.1) fun A outer s H vs Q E hr h=>?_
 have O:XOk (Lk (CXe P w) P w K mg base I.N qual (Ah st) f cdv A outer s H E).nox k G { N:=I.N,scope:=I.scope,own:=fun _=>true }:=⟨rfl,S.nd,hs.symm,fun _ _ _=>.inl rfl,rfl,rfl,hr,g⟩;obtain ⟨hl,h | h⟩:=h
 ·obtain ⟨ρ,mh,ds,d,mh',q,rs,r,co⟩:=h;refine ⟨_,PSs.nox ((Tw G n).2 O (Bj st)),?_⟩;unfold Aq at q;split at q
  ·split at q
   ·rename_i d' loc' m' e;cases q;exact ⟨_,mh,ρ,.rt d,loc',mh',by rw [← hb];exact e,Eb r,rs,co⟩
   ·rename_i loc' m' e;cases q;exact ⟨_,mh,ρ,.nx,loc',mh',by rw [← hb];exact e,Eb r,rs,fun H' ρ' σ' e' rs' _=>co H' ρ' _ e' rs' .non⟩
   ·cases q
  ·cases q
 ·obtain ⟨ρ,mh,ds,c,mh',q,rs,r,co⟩:=h;refine ⟨_,Abq G ex xcl (W:=fun c H'=>∃ C,mg c=some (.ref C)/\E (.ref C) none H') rfl PassesOwn.leaving O xo (fun pins σ H1 s1 e s' J z=>?_) (fun c H' z=>z.imp fun C q=>q.1) (fun c hc=>?_) n (Bj st),?_⟩
  ·obtain ⟨a,C,dx,B,h₁,H',rfl,T,rfl,c,C',m1,m2,C'',m3,m4⟩:=z;cases m2;have m1:mg c=_:=m1;rw [m1] at m3;cases m3;exact mZ J T m4
  ·obtain ⟨C,m1,m2⟩:=xc c hc;refine ⟨C,m1,m2,fun pins σ H s h' a vs J hx z=>?_⟩;obtain ⟨C',z1,z2⟩:=z;rw [m1] at z1;cases z1;exact cY J hx z2
  ·unfold Dq at q;split at q
   ·exact ⟨_,mh,ρ,c,mh',by rw [← hb];exact q,Eb r,rs,co⟩
   ·cases q
theorem dM {n:Nat}{ds:List D}{mh:MH}{r:Str×MH}(h:Dq G ex xcl n I ds mh=some r):ds.length=I.ps.length:=by
 unfold Dq at h;split at h
 ·assumption
 ·cases h
end
noncomputable def qH:Stmt->Bool
 | .Try ..=>true
 | _=>false
noncomputable def bodyOf:Stmt->List Stmt
 | .Try b _ _ _ _=>b
 | _=>[]
noncomputable def vR:Stmt->Option (Str×List Expr)
 | .Expr e _=>Fv e
 | _=>none
noncomputable def nD (s:Stmt):List Expr:=match (bodyOf s).head?.bind vR with
 | some (_,as)=>as
 | none=>[]
noncomputable def Aaa (T:Tb) (xcl xr:Str->Bool) (G:Gb) (ex:Ex):Ex:=fun x=>if xr x=true then (match T.tb x with
 | some I=>some (I.ps,Aq G fuel I,Dq G ex xcl fuel I)
 | none=>none) else none
noncomputable def Zh (ma:DM (List D)) (f:Fn) (r:Rn) (c:Str) (m:SM):SM:=fun loc mh=>match ma loc mh with
 | some (ds,h)=>(match r ds h with
  | some (c',h')=>if c'==c then m loc h' else none
  | none=>match f ds h with
   | some (_,h')=>some (.nx,loc,h')
   | none=>none)
 | none=>none
theorem nF {X:Cx}{k:Nat}{fa C L:Addr}{fd:FuncData}{ps:List Str}{f:Fn}{r:Rn}{x c c0 n:Str}{a:Expr}{es:List Expr}{ma:DM (List D)}{i:Nat}{m:SM}{b₀:Stmt}{suite:List Stmt}{apos cpos epos np hpos tpos:Pos}{rest:List ExceptHandler}
  (hxe:X.xe=fun _ _=>False) (hst:X.stack=X.env::X.outer) (hfr:X.env.frame=some X.env.locals)
  (F:FnOk X.prog X.w X.K X.mg X.base (CXe X.prog X.w) k fa fd ps (spR X.K X.mg ps.length f r)) (hr:Room k X.A) (hg:Gl X x) (hm:X.mg x=some (.ref fa)) (hk:PySem.W.keepIn X.K (.ref fa)=true) (hb:Binds X.K fd ps []) (ha:DA X (a::es) ma)
  (hf:∀ ds mh z,f ds mh=some z->ds.length=ps.length) (hrl:∀ ds mh z,r ds mh=some z->ds.length=ps.length)
  (hC:PySem.W.excIn X.K C bmV "ValueError.__new__"=true) (hL:PySem.W.excIn X.K L bmV "ValueError.__new__"=true) (hup:Js X.K C L=true) (hm0:X.mg c0=some (.ref C)) (hgc:Gl X c) (hmc:X.mg c=some (.ref L)) (hdc:(c==("__debug__":Str))=false)
  (hN:X.N.Nodup) (hi:X.N[i]?=some n) (hn:X.env.scope.names.lookup n=some .local) (hs:Mt X i C none (b₀::suite) (tS X.K m))
  (hdb:(x==("__debug__":Str))=false) (he:starEach (a::es) X.env=(false,eval a X.env)::starEach es X.env) (hpl:(backTo cpos (starEach es X.env)).any (·.1)=false) :
  DS X (.Try [.Expr (.Call (.Name x apos) (a::es) [] cpos) epos] (.ExceptHandler (some (.Name c np)) (some n) (b₀::suite) hpos::rest) [] [] tpos) (Zh ma f r c0 m):=by
 refine Bt (Za hxe hst hfr F hr hg hm hk hb ha.x hC hL hup hgc hmc hdc hN hi hn hs hdb he hpl (G4 rfl)) ?_;rintro N σ H ⟨loc,mh,ρ,fl,loc',mh',q,rl,rs,co⟩;unfold Zh at q;split at q
 ·rename_i ds h ea;refine ⟨loc,mh,ρ,ds,h,ea,rl,rs,fun H1 ρ1 vs e1 rs1 r1=>?_⟩;split at q
  ·rename_i c' h' er;split at q
   ·rename_i ec;exact ⟨by rw [← r1.length];exact hrl _ _ _ er,.inr ⟨ρ1,h,ds,c',h',er,rs1,r1,fun H2 ρ2 e2 rs2=>⟨C,by rw [eq_of_beq ec];exact hm0,rfl,rfl,loc,h',ρ2,fl,loc',mh',q,rl.mono (e1.trans e2),rs2,co.ev (e1.trans e2)⟩⟩⟩
   ·cases q
  ·split at q
   ·rename_i d h' ef;cases q;exact ⟨by rw [← r1.length];exact hf _ _ _ ef,.inl ⟨ρ1,h,ds,d,mh',ef,rs1,r1,fun H2 ρ2 v e2 rs2 _=>co H2 ρ2 σ (e1.trans e2) rs2 (rl.mono (e1.trans e2))⟩⟩
   ·cases q
 ·cases q
structure Td where
 x:Str
 c0:Str
 c:Str
 n:Str
 m:SM
 s0:Stmt
 su:List Stmt
noncomputable def nG:Stmt->List Stmt
 | .Try _ hs _ _ _=>(match hs with | .ExceptHandler _ _ b _::_=>b | _=>[])
 | _=>[]
noncomputable def Aab (q:Td) (s:Stmt):Prop:=∃ p1 a es p2 p3 p4 p8 p9,s=.Try [.Expr (.Call (.Name q.x p1) (a::es) [] p2) p3] [.ExceptHandler (some (.Name q.c p4)) (some q.n) (q.s0::q.su) p8] [] [] p9
noncomputable def nH (q:Td):List Stmt->Prop
 | []=>True
 | s::r=>(qH s=false\/Aab q s)/\nH q r
noncomputable def dN (G:Gb) (ex:Ex) (q:Td) (n:Nat) (sc:SC) (as:List Expr):SM :=
 if glB sc.scope q.x&&!(q.x == "__debug__")&&as.all (fun e=>!isStar e)&&glB sc.scope q.c&&!(q.c == "__debug__") then (match ex q.x with
  | some (_,g,r)=>Zh (iA G n sc as) g r q.c0 q.m
  | none=>SM.bad) else SM.bad
noncomputable def vU (G:Gb) (ex:Ex) (q:Td) (n:Nat) (sc:SC) (s:Stmt):SM:=if qH s=true then dN G ex q n sc (nD s) else iS G n sc s
noncomputable def iB (G:Gb) (ex:Ex) (q:Td) (n:Nat) (sc:SC) (ss:List Stmt):SM:=ss.foldr (fun s r=>Ac (vU G ex q n sc s) r) Zn
noncomputable def dO (K:PySem.W.Frag) (mg:Str->Option Value) (sc:SC) (q:Td):Prop:=∃ C L i,mg q.c0=some (.ref C)/\mg q.c=some (.ref L)/\PySem.W.excIn K C bmV "ValueError.__new__"=true/\PySem.W.excIn K L bmV "ValueError.__new__"=true/\Js K C L=true/\sc.N[i]?=some q.n/\sc.scope.names.lookup q.n=some .local /\
 ∀ (X:Cx) (k:Nat) (G:Gb),X.K=K->X.mg=mg->XOk X k G sc->Mt X i C none (q.s0::q.su) (tS X.K q.m)
theorem Abr (G:Gb) {ex:Ex}{q:Td}{n:Nat}{X:Cx}{k:Nat}{sc:SC}(O:XOk X k G sc) (hst:X.stack=X.env::X.outer) (hfr:X.env.frame=some X.env.locals) (xo:ExOk X.prog X.w X.K X.mg X.base k ex) (xs:dO X.K X.mg sc q) :
  ∀ ss:List Stmt,nH q ss->DSs X ss (iB G ex q n sc ss):=by
 intro ss hss
 induction ss with
 | nil=>exact Wz
 | cons s r ih =>
  obtain ⟨hk,hr⟩:=hss;refine R9 (m1:=vU G ex q n sc s) ?_ (ih hr);unfold vU;rcases hk with ht|hk
  rotate_left
  ·obtain ⟨p1,a,es,p2,p3,p4,p8,p9,rfl⟩:=hk;show DS X _ (dN G ex q n sc (a::es));unfold dN
   by_cases hb:(glB sc.scope q.x&&!(q.x == "__debug__")&&(a::es).all (fun e=>!isStar e)&&glB sc.scope q.c&&!(q.c == "__debug__"))=true
   ·rw [if_pos hb];rw [Bool.and_eq_true,Bool.and_eq_true,Bool.and_eq_true,Bool.and_eq_true,List.all_cons,Bool.and_eq_true] at hb;obtain ⟨⟨⟨⟨h1,h2⟩,h3,h4⟩,h5⟩,h6⟩:=hb;cases ef:ex q.x with
    | none=>exact Bv
    | some z =>
     obtain ⟨ps,g,rr⟩:=z;obtain ⟨fa,fd,g1,g2,g3,g4,g5,g6⟩:=xo.fn _ _ _ _ ef;obtain ⟨C,L,i,m0,m1,m2,m3,m4,i1,i2,su⟩:=xs;exact nF O.xe hst hfr g4 O.room (O.gl h1) g1 g2 g3 ((snd G n).a O _) g5 g6 m2 m3 m4 m0 (O.gl h5) m1 (by simpa using h6) (by rw [O.N];exact O.nd) (by rw [O.N];exact i1) (by rw [O.sco];exact i2) (su X k G rfl rfl O) (by simpa using h2) (Bb (by simpa using h3)) (Ao h4)
   ·rw [if_neg hb];exact Bv
  ·rw [if_neg (by rw [ht];exact Bool.false_ne_true)];exact (Tw G n).1 O s
noncomputable def T3 (G:Gb) (ex:Ex) (q:Td) (n:Nat) (f:FnI):Fn:=fun ds mh=>if ds.length=f.ps.length then (match iB G ex q n { N:=f.N,scope:=f.scope,own:=fun _=>true } f.body (ds.map some++List.replicate (f.N.length - ds.length) none) mh with
 | some (.rt d,_,mh')=>some (d,mh')
 | some (.nx,_,mh')=>some (.non,mh')
 | _=>none) else none
section
variable {P:Program}{w:World}{K:PySem.W.Frag}{mg:Str->Option Value}{base:Heap}{k:Nat}{G:Gb}{ex:Ex}{x qual:Str}{st:Stmt}{f:Addr}{fd:FuncData}{I:FnI}
theorem vV {td:Td}(ht:nH td I.body) (g:GOk P w K mg base k G) (xo:ExOk P w K mg base k ex) (xs:dO K mg { N:=I.N,scope:=I.scope,own:=fun _=>true } td) (F:Fun K x qual st f fd) (S:FnScope I.N I.ps (Ah st)) (hs:I.scope=Ah st) (hb:I.body=Bj st) (n:Nat) :
  FnOk P w K mg base CX0 (k+3) f fd I.ps (spD K I.ps.length (T3 G ex td n I)):=by
 refine F.ok S (fun vs H Q E h=>h.1) fun cdv A outer s H vs Q E hr h=>?_
 obtain ⟨hl,ρ,mh,ds,d,mh',q,rs,r,co⟩:=h;refine ⟨_,Abr G (n:=n) (sc:={ N:=I.N,scope:=I.scope,own:=fun _=>true }) ⟨rfl,S.nd,hs.symm,fun _ _ _=>.inl rfl,rfl,rfl,hr,g⟩ rfl rfl xo xs (Bj st) (by rw [← hb];exact ht),?_⟩;unfold T3 at q;split at q
 ·split at q
  ·rename_i d' loc' m' e;cases q;exact ⟨_,mh,ρ,.rt d,loc',mh',by rw [← hb];exact e,Eb r,rs,co⟩
  ·rename_i loc' m' e;cases q;exact ⟨_,mh,ρ,.nx,loc',mh',by rw [← hb];exact e,Eb r,rs,fun H' ρ' σ' e' rs' _=>co H' ρ' _ e' rs' .non⟩
  ·cases q
 ·cases q
theorem dR {td:Td}{n:Nat}{ds:List D}{mh:MH}{r:D×MH}(h:T3 G ex td n I ds mh=some r):ds.length=I.ps.length:=by
 unfold T3 at h;split at h
 ·assumption
 ·cases h
end
noncomputable def Abs (G:Gb) (ex:Ex) (td:Option Td) (n:Nat) (I:FnI):Fn:=match td with
 | some q=>T3 G ex q n I
 | none=>Aq G n I
noncomputable def vW (K:PySem.W.Frag) (mg:Str->Option Value) (T:Tb) (tds:Str->Option Td):Prop:=∀ x q I,tds x=some q->T.tb x=some I->nH q I.body/\dO K mg { N:=I.N,scope:=I.scope,own:=fun _=>true } q
noncomputable def GX (T:Tb) (xcl xr:Str->Bool) (tds:Str->Option Td):Nat->Gb×Ex
 | 0=>({ cal:=fun _=>none,con:=T.con,dic:=T.dic,fld:=T.fld,met:=fun _ _=>none,mkr:=T.mkr },fun _=>none)
 | k+1=>({ cal:=fun x=>(match T.tb x with | some I=>some (I.ps,Abs (GX T xcl xr tds k).1 (GX T xcl xr tds k).2 (tds x) fuel I) | none=>none),con:=T.con,dic:=T.dic,fld:=T.fld,met:=fun c m=>(match T.tbm c m with | some I=>some (I.ps,Aq (GX T xcl xr tds k).1 fuel I) | none=>none),mkr:=T.mkr },Aaa T xcl xr (GX T xcl xr tds k).1 (GX T xcl xr tds k).2)
theorem Abt {P:Program}{w:World}{K:PySem.W.Frag}{mg:Str->Option Value}{base:Heap}{T:Tb}{xcl xr:Str->Bool}{tds:Str->Option Td}(O:TbOk w K mg T) (xc:nC K mg xcl) (td:vW K mg T tds) (k:Nat):GOk P w K mg base k (GX T xcl xr tds k).1/\ExOk P w K mg base k (GX T xcl xr tds k).2:=by
 induction k with
 | zero=>exact ⟨⟨fun x ps f h=>(by cases h),O.con,O.blt,O.dic,O.fld,fun c m ps g h=>(by cases h),fun c f h=>by
   obtain ⟨C,fa,fd,ps,h1,h2,h3,h4,h5⟩:=O.mkr c f h
   exact ⟨C,fa,fd,ps,h1,h2,h3,h4,h5 _ _ _⟩⟩,⟨fun x ps f r h=>by cases h⟩⟩
 | succ k ih =>
  obtain ⟨ih,xo⟩:=ih
  refine ⟨⟨fun x ps f h=>?_,O.con,O.blt,O.dic,O.fld,fun c m ps g h=>?_,fun c f h=>by
   obtain ⟨C,fa,fd,ps,h1,h2,h3,h4,h5⟩:=O.mkr c f h
   exact ⟨C,fa,fd,ps,h1,h2,h3,h4,h5 _ _ _⟩⟩,⟨fun x ps f r h=>?_⟩⟩
  ·simp only [GX] at h;split at h
   ·rename_i I eI;cases h;obtain ⟨qual,st,fa,fd,h1,h2,h3,h4,h5,h6⟩:=O.fn x I eI;cases et:tds x with
    | some q=>exact ⟨fa,fd,h1,h2.kp,.all h6,vV (td x q I et eI).1 ih xo (td x q I et eI).2 h2 h3 h4 h5 fuel,fun ds mh r hr=>dR hr⟩
    | none=>exact ⟨fa,fd,h1,h2.kp,.all h6,cV ih h2 h3 h4 h5 fuel,fun ds mh r hr=>Ms hr⟩
   ·cases h
  ·simp only [GX] at h;split at h
   ·rename_i I eI;cases h;obtain ⟨qual,st,C,fa,fd,g1,g2,g3,h2,h3,h4,h5,h6⟩:=O.met c m I eI;exact ⟨C,fa,fd,g1,g2,g3,.all h6,cV ih h2 h3 h4 h5 fuel,fun ds mh r hr=>Ms hr⟩
   ·cases h
  ·simp only [GX,Aaa] at h;split at h
   ·split at h
    ·rename_i I eI;cases h;obtain ⟨qual,st,fa,fd,h1,h2,h3,h4,h5,h6⟩:=O.fn x I eI;exact ⟨fa,fd,h1,h2.kp,.all h6,vQ ih xo xc h2 h3 h4 h5 fuel,fun ds mh r hr=>Ms hr,fun ds mh r hr=>dM hr⟩
    ·cases h
   ·cases h
theorem Aac {l:PySem.W.OpenLaw}{q:Program}{loose:List Str}{XP:(Str->Option Value)->Heap->Prop}{YP:World->Heap->Prop}{d:DefRec}{K:Params->PySem.W.Frag}{Tt:Tb}{xcl xr:Str->Bool}{tds:Str->Option Td}{I:FnI}{x:Str}(k:Nat)
  (hn:l.most=some 63) (hdf:d.params.defaults=[]) (hY:∀ (w:World) (h:Heap),YP w h->(K w.params).In h) (hr:Room (k+3) callerA)
  (hI:Tt.tb d.name=some I) (hps:I.ps=[x])
  (T:∀ (w:World) (mg:Str->Option Value) (h:Heap),(K w.params).In h->h.Ns mainGlobals mg->TbOk w (K w.params) mg Tt/\nC (K w.params) mg xcl/\vW (K w.params) mg Tt tds)
  (main:∀ ns:List Int,ns.length<=63->∃ mh',Aq (GX Tt xcl xr tds k).1 fuel I [.rol (ns.map D.int)] []=some (.bl true,mh')) :
  PySem.W.WalkO q loose XP YP l.row.toRowW d [] (fun f vs=>PySem.call f vs):=by
 refine L2.jY (n:=63) (k:=k+3) (x:=x) (CX:=fun _=>CX0) (sp:=fun w=>spD (K w.params) 1 (Aq (GX Tt xcl xr tds k).1 fuel I)) hn (by decide) hdf hr hY (fun w mg fa h hK hN hm=>?_) (fun w H a ns hl hO hS=>?_) fun _ _ _ _ _ z=>z
 ·obtain ⟨t1,t2,td⟩:=T w mg h hK hN;obtain ⟨qual,st,f,fd,h1,h2,h3,h4,h5,h6⟩:=t1.fn _ _ hI;rw [hm] at h1;cases h1;refine ⟨fd,fun s u=>.of_eq ?_,fun base hKb hNb=>?_⟩
  ·have:=h6 [u] (by rw [hps];rfl);rw [hps] at this;exact this
  ·have:=cV (P:=l.prog) (w:=w) (base:=base) (Abt (xr:=xr) t1 t2 td k).1 h2 h3 h4 h5 fuel;rw [hps] at this;exact this
 ·obtain ⟨mh',e⟩:=main ns hl;have P:Gf (K w.params) H a (ns.map V.int):=by
   rcases hS with (h|h)|h
   ·rcases hO a with z|⟨o,xs,z⟩
    ·rw [z] at h;cases h
    ·rw [z] at h;cases h
   ·exact .inl h
   ·exact .inr h
  refine ⟨rfl,[],[],[.rol (ns.map D.int)],.bl true,mh',e,⟨rfl,List.nodup_nil,fun n a o e=>by simp at e⟩,.cons (.rol P (RDs.ints ns)) .nil,fun H' ρ' v _ _ r=>by cases r;rfl⟩
end DL
namespace DL
open PySem L2
noncomputable def T5 (K:PySem.W.Frag):List (Str×Stmt)->Prop
 | []=>True
 | r::L=>(∃ (f:Addr) (fd:FuncData),PySem.W.nsIn K mainGlobals r.1=some (some (.ref f))/\Fun K r.1 r.1 r.2 f fd)/\T5 K L
theorem dU {K:PySem.W.Frag}{x:Str}{st:Stmt}{L:List (Str×Stmt)}{f:Addr}{oc:Value}{od an:Option Addr}{osl:Array (Option Value)}{kV doc pm cdv ct:Value}(a:PySem.W.nsIn K mainGlobals x=some (some (.ref f)))
  (l:K.lookup f=some ⟨oc,od,.func (PySem.W.fnOf x x (Dk st) (Bj st) (Ah st) .none kV doc pm an cdv ct),osl⟩)
  (c:PySem.W.codeIn K cdv x=true) (k:PySem.W.keepIn K (.ref f)=true) (q:T5 K L):T5 K ((x,st)::L):=⟨⟨f,_,a,sW l c k⟩,q⟩
noncomputable def Aad (x:Str) (st:Stmt):Prop:=FnScope (Ez st).N (Ez st).ps (Ah st)/\∀ (kV doc pm:Value) (an:Option Addr) (cdv ct:Value) (us:List Value),us.length=(Ez st).ps.length->bindArgs (PySem.W.fnOf x x (Dk st) (Bj st) (Ah st) .none kV doc pm an cdv ct) ⟨us,[]⟩=pure ((Ez st).ps.zip us)
theorem Gm {x:Str}{st:Stmt}(s:FnScope (Ez st).N (Ez st).ps (Ah st)) (b:∀ (kV doc pm:Value) (an:Option Addr) (cdv ct:Value) (us:List Value),us.length=(Ez st).ps.length->bindArgs (PySem.W.fnOf x x (Dk st) (Bj st) (Ah st) .none kV doc pm an cdv ct) ⟨us,[]⟩=pure ((Ez st).ps.zip us)):Aad x st:=⟨s,b⟩
noncomputable def dW:List (Str×Stmt)->Prop
 | []=>True
 | r::L=>Aad r.1 r.2/\dW L
theorem Xe {K:PySem.W.Frag}{h:Heap}{mg:Str->Option Value}(X:K.In h) (G:h.Ns mainGlobals mg) {x:Str}{I:FnI}:∀ {L:List (Str×Stmt)},T5 K L->dW L->(L.lookup x).map Ez=some I->zW K mg x I
 | [],_,_,e=>by cases e
 | (y,st)::L,⟨⟨f,fd,a,F⟩,q⟩,⟨s,t⟩,e=>by
  simp only [List.lookup] at e;split at e
  ·rename_i hy;rw [eq_of_beq hy];cases e;refine ⟨y,st,f,fd,PySem.W.mg_of X G a,F,s.1,rfl,rfl,fun us hu=>?_⟩;obtain ⟨oc,od,kV,doc,pm,an,cdv,ct,osl,rfl,_⟩:=F.ex;exact s.2 kV doc pm an cdv ct us hu
  ·exact Xe X G q t e
noncomputable def T6 (K:PySem.W.Frag):List (Str×D)->Prop
 | []=>True
 | r::L=>(∃ u,PySem.W.nsIn K mainGlobals r.1=some (some u)/\rdV K 60 u=some r.2)/\T6 K L
theorem dX {K:PySem.W.Frag}{x:Str}{d:D}{L:List (Str×D)}{u:Value}(a:PySem.W.nsIn K mainGlobals x=some (some u)) (b:rdV K 60 u=some d) (q:T6 K L):T6 K ((x,d)::L):=⟨⟨u,a,b⟩,q⟩
theorem T7 {K:PySem.W.Frag}{h:Heap}{mg:Str->Option Value}(X:K.In h) (G:h.Ns mainGlobals mg) {x:Str}{d:D}:∀ {L:List (Str×D)},T6 K L->L.lookup x=some d->cW K mg x d
 | [],_,e=>by cases e
 | (y,d')::L,⟨⟨u,a,b⟩,q⟩,e=>by
  simp only [List.lookup] at e;split at e
  ·rename_i hy;rw [eq_of_beq hy];cases e;obtain ⟨v,r1,r2⟩:=Vl 60 b;exact ⟨u,v,PySem.W.mg_of X G a,r1,r2⟩
  ·exact T7 X G q e
noncomputable def T8 (K:PySem.W.Frag):List Str->Prop
 | []=>True
 | b::L=>PySem.W.nsIn K mainGlobals b=some none/\T8 K L
theorem dY {K:PySem.W.Frag}{b:Str}{L:List Str}(a:PySem.W.nsIn K mainGlobals b=some none) (q:T8 K L):T8 K (b::L):=⟨a,q⟩
theorem T9 {K:PySem.W.Frag}{h:Heap}{mg:Str->Option Value}(X:K.In h) (G:h.Ns mainGlobals mg):∀ {L:List Str},T8 K L->∀ b∈L,mg b=none
 | _::_,⟨a,_⟩,_,.head _=>PySem.W.mg_none_of X G a
 | _::_,⟨_,q⟩,b,.tail _ m=>T9 X G q b m
section
variable {loc:DL.Loc}{mh:MH}{ma mb:DM D}{mr:DM (List D)}{t u:DM Bool}{m1 m2:SM}
theorem Aae (i:Nat):vr i loc mh=(match loc[i]? with | some (some d)=>some (d,mh) | _=>none):=by kernel_rfl
theorem nJ:Jh ma loc mh=(match ma loc mh with | none=>none | some (x,h)=>(match aX x h with | some k=>some (k,h) | none=>none)):=by kernel_rfl
theorem dZ (T:String) (f:D->List D->MH->Option (D×MH)):Ay T f ma mr loc mh=(match ma loc mh with | none=>none | some (x,h)=>if Sv T x h=true then (match mr loc h with | none=>none | some (ds,h2)=>f x ds h2) else none):=by kernel_rfl
theorem nM (g:GM):Bg ma g loc mh=(match ma loc mh with | some (d,h)=>(match g d loc h with | some (l,h')=>some (.nx,l,h') | none=>none) | none=>none):=by kernel_rfl
theorem eE:ifS t m1 m2 loc mh=(match t loc mh with | some (k,h)=>if k=true then m1 loc h else m2 loc h | none=>none):=by kernel_rfl
theorem nO:retS ma loc mh=(match ma loc mh with | some (d,h)=>some (.rt d,loc,h) | none=>none):=by kernel_rfl
theorem eF:Ea ma loc mh=(match ma loc mh with | some (_,h)=>some (.nx,loc,h) | none=>none):=by kernel_rfl
theorem Xg:Ac m1 m2 loc mh=(match m1 loc mh with | some (.nx,l,h)=>m2 l h | r=>r):=by kernel_rfl
theorem nP (f:List D->Option Src):Ji f mr loc mh=(match mr loc mh with | none=>none | some (ds,h)=>(match f ds with | some s=>some (s,h) | none=>none)):=by
 unfold Ji DM.bnd;cases mr loc mh with
 | none=>rfl
 | some p =>
  obtain ⟨ds,h⟩:=p;dsimp only;cases f ds <;> rfl
theorem eG:Ie (some ma) loc mh=(match ma loc mh with | some (.int i,h)=>some (some i,h) | _=>none):=by
 show (ma.bnd _) loc mh=_;unfold DM.bnd;cases ma loc mh with
 | none=>rfl
 | some p =>
  obtain ⟨x,h⟩:=p;cases x <;> rfl
end
theorem vX (C:Int->Int->Bool) (g:Int->Int->Int) (i j:Int) (mh:MH):iop C g (.int i) (.int j) mh=if C i j=true then some (.int (g i j),mh) else none:=by kernel_rfl
theorem eH {j:Int}(h0:0<=j) (h:j<=1000000):Ig [.int j]=some (.seq (Cj 0 j.toNat)):=by
 have e2:-(2 ^ 62)<=j/\j < 2 ^ 62:=by omega
 unfold Ig;dsimp only;rw [if_pos e2]
theorem Gn {B:Nat}(h:B<=1000000):Ig [.int B]=some (.seq (Cj 0 B)):=by rw [eH (by omega) (by omega),Int.toNat_natCast]
theorem le_size {n:Nat}(h:n<=1000000):n<=sizeLine:=by rw [sizeLine_eq];omega
theorem lt_size {n:Nat}(h:n<=1000000):n < sizeLine:=by rw [sizeLine_eq];omega
theorem eN {ds:List D}{mh:MH}(h:ds.length<=1000000):J8 ds mh=some (.tup ds,mh):=by unfold J8;rw [if_pos (le_size h)]
theorem eO {ds:List D}{mh:MH}(h:ds.length<=1000000):Oq ds mh=some (.ref mh.length,mh++[.lst ds]):=by unfold Oq;rw [if_pos (le_size h)]
theorem V3 {n:Nat}{ds:List D}{y:D}{mh:MH}(e:mh[n]?=some (.lst ds)) (h:ds.length<=1000000):Cq (.ref n) [y] mh=some (.non,mh.set n (.lst (ds++[y]))):=by
 simp only [Cq,e,if_pos (lt_size h)]
theorem Mu {n m:Nat}{xs ys:List D}{mh:MH}(e1:mh[n]?=some (.lst xs)) (e2:mh[m]?=some (.lst ys)) (h:xs.length+ys.length<=1000000):Bk (.ref n) (.ref m) mh=some (.ref mh.length,mh++[.lst (xs++ys)]):=by
 simp only [Bk,e1,e2,if_pos (le_size h)]
end DL
namespace DL
open PySem L2 PyProof.Rows
noncomputable abbrev Zi (n:Nat):D:=.int (n:Int)
end DL
namespace DL
open PySem L2
noncomputable def wD {α:Type}(m:DM α) (loc:DL.Loc) (mh:MH) (P:α->MH->Prop):Prop:=∃ a h,m loc mh=some (a,h)/\P a h
noncomputable def wV (r:Option (D×MH)) (P:D->MH->Prop):Prop:=∃ d h,r=some (d,h)/\P d h
noncomputable def wG (r:Option (DL.Loc×MH)) (P:DL.Loc->MH->Prop):Prop:=∃ l h,r=some (l,h)/\P l h
noncomputable def wS (m:SM) (loc:DL.Loc) (mh:MH) (P:Fl->DL.Loc->MH->Prop):Prop:=∃ f l h,m loc mh=some (f,l,h)/\P f l h
section
variable {loc:DL.Loc}{mh:MH}{ma mb mc:DM D}{mr:DM (List D)}{t u:DM Bool}{P:D->MH->Prop}{B:Bool->MH->Prop}
theorem Ak {α:Type}{m:DM α}{P Q:α->MH->Prop}(h:wD m loc mh P) (i:∀ a h,P a h->Q a h):wD m loc mh Q:=let ⟨a,h',e,p⟩:=h;⟨a,h',e,i a h' p⟩
theorem Mv {i:Nat}{d:D}(e:loc[i]?=some (some d)) (h:P d mh):wD (vr i) loc mh P:=⟨d,mh,by rw [Aae,e],h⟩
theorem Ed {α:Type}{a:α}{P:α->MH->Prop}(h:P a mh):wD (Zr a) loc mh P:=⟨a,mh,rfl,h⟩
theorem nQ {f:MH->Option (D×MH)}(h:wV (f mh) P):wD (Zl f) loc mh P:=h
theorem Bf {α β:Type}{m:DM α}{f:α->DM β}{P:β->MH->Prop}(h:wD m loc mh fun a h1=>wD (f a) loc h1 P):wD (m.bnd f) loc mh P:=by
 obtain ⟨a,h1,e1,b,h2,e2,p⟩:=h;exact ⟨b,h2,by unfold DM.bnd;rw [e1];exact e2,p⟩
theorem qI {f:D->D->MH->Option (D×MH)}(h:wD ma loc mh fun x h1=>wD mb loc h1 fun y h2=>wV (f x y h2) P):wD (dop f ma mb) loc mh P:=Bf (Ak h fun _ _ q=>Bf (Ak q fun _ _ z=>z))
theorem nR {P:List D->MH->Prop}(h:wD ma loc mh fun x h1=>wD mr loc h1 fun xs h2=>P (x::xs) h2):wD (Aa ma mr) loc mh P:=Bf (Ak h fun _ _ q=>Bf (Ak q fun _ _ z=>Ed z))
theorem vY {f:Fn}(h:wD mr loc mh fun ds h1=>wV (f ds h1) P):wD (Ar f mr) loc mh P:=Bf (Ak h fun _ _ q=>q)
theorem vZ (h:wD mr loc mh fun ds h1=>ds.length<=1000000/\P (.tup ds) h1):wD (vJ mr) loc mh P:=Bf (Ak h fun _ _ q=>⟨_,_,eN q.1,q.2⟩)
theorem eV (h:wD mr loc mh fun ds h1=>ds.length<=1000000/\P (.ref h1.length) (h1++[.lst ds])):wD (lstM mr) loc mh P:=Bf (Ak h fun _ _ q=>⟨_,_,eO q.1,q.2⟩)
theorem wA (h:wD ma loc mh fun x h1=>∃ i,x=.int i/\P (.int (-i)) h1):wD (N7 ma) loc mh P:=Bf (Ak h fun _ _ ⟨i,e,q⟩=>by subst e;exact ⟨_,_,rfl,q⟩)
theorem V4 {T:String}(h:wD ma loc mh fun x h1=>wV (Ss T x h1) P):wD (mU T ma) loc mh P:=Bf (Ak h fun _ _ q=>q)
theorem Qy (h:wD ma loc mh fun x h1=>∃ k,x=.bl k/\B k h1):wD (Ag ma) loc mh B:=Bf (Ak h fun _ _ ⟨k,e,q⟩=>by subst e;exact Ed q)
theorem V5 (h:wD ma loc mh fun x h1=>∃ k,aX x h1=some k/\B k h1):wD (Jh ma) loc mh B:=by
 obtain ⟨x,h1,e,k,ek,q⟩:=h;exact ⟨k,h1,by rw [nJ,e];dsimp only;rw [ek],q⟩
theorem Xh (h:wD t loc mh fun k h1=>B (!k) h1):wD (Hg t) loc mh B:=Bf (Ak h fun _ _ q=>Ed q)
theorem nT (h:wD t loc mh fun k h1=>(k=true->wD u loc h1 B)/\(k=false->B false h1)):wD (Ia t u) loc mh B:=Bf (Ak h fun k _ q=>by
 cases k with
 | true=>exact q.1 rfl
 | false=>exact Ed (q.2 rfl))
theorem wB (h:wD t loc mh fun k h1=>(k=true->B true h1)/\(k=false->wD u loc h1 B)):wD (Jg t u) loc mh B:=Bf (Ak h fun k _ q=>by
 cases k with
 | true=>exact Ed (q.1 rfl)
 | false=>exact q.2 rfl)
theorem wC (h:wD ma loc mh fun x h1=>∃ k,x=.bl k/\(k=true->P (.bl true) h1)/\(k=false->wD mb loc h1 P)):wD (Va ma mb) loc mh P:=Bf (Qy (Ak h fun _ _ ⟨k,e,q⟩=>⟨k,e,by
 cases k with
 | true=>exact Ed (q.1 rfl)
 | false=>exact q.2 rfl⟩))
theorem Aaf (h:wD t loc mh fun k h1=>(k=true->wD ma loc h1 P)/\(k=false->wD mb loc h1 P)):wD (dIf t ma mb) loc mh P:=Bf (Ak h fun k _ q=>by
 cases k with
 | true=>exact q.1 rfl
 | false=>exact q.2 rfl)
theorem eX {f f':D->D->MH->Option (D×MH)}(h:wD ma loc mh fun x h1=>wD mb loc h1 fun y h2=>wV (f x y h2) fun z h3=>∃ k,z=.bl k/\(k=true->wD mc loc h3 fun w h4=>wV (f' y w h4) P)/\(k=false->P (.bl false) h3)):wD (Hu f f' ma mb mc) loc mh P :=
 Bf (Ak h fun _ _ q=>Bf (Ak q fun _ _ z=>Bf (Qy (Ak (nQ z) fun _ _ ⟨k,e,q⟩=>⟨k,e,by
  cases k with
  | true=>exact Bf (Ak (q.1 rfl) fun _ _ w=>w)
  | false=>exact Ed (q.2 rfl)⟩))))
theorem Xi {T:String}{f:D->List D->MH->Option (D×MH)}(h:wD ma loc mh fun x h1=>Sv T x h1=true/\wD mr loc h1 fun ds h2=>wV (f x ds h2) P):wD (Ay T f ma mr) loc mh P:=by
 obtain ⟨x,h1,e1,ht,ds,h2,e2,d,h3,e3,p⟩:=h;exact ⟨d,h3,by rw [dZ,e1];dsimp only;rw [if_pos ht,e2];exact e3,p⟩
theorem eY {O:Option Int->MH->Prop}(h:O none mh):wD (Ie none) loc mh O:=⟨none,mh,rfl,h⟩
theorem eZ {O:Option Int->MH->Prop}(h:wD ma loc mh fun x h1=>∃ i,x=.int i/\O (some i) h1):wD (Ie (some ma)) loc mh O:=by
 obtain ⟨x,h1,e,i,rfl,q⟩:=h;exact ⟨some i,h1,by rw [eG,e],q⟩
theorem Ju {R:Src->MH->Prop}{f:List D->Option Src}(h:wD mr loc mh fun ds h1=>∃ s,f ds=some s/\R s h1):wD (Ji f mr) loc mh R:=by
 obtain ⟨x,h1,e,s,es,q⟩:=h;exact ⟨s,h1,by rw [nP,e];dsimp only;rw [es],q⟩
end
noncomputable def wF (m2:SM) (P:Fl->DL.Loc->MH->Prop) (f:Fl) (l:DL.Loc) (h:MH):Prop:=match f with
 | .nx=>wS m2 l h P
 | f=>P f l h
section
variable {loc l:DL.Loc}{mh h1:MH}{me:DM D}{m1 m2:SM}{g:GM}{t:DM Bool}{P:Fl->DL.Loc->MH->Prop}
theorem Fw {m:SM}{P Q:Fl->DL.Loc->MH->Prop}(h:wS m loc mh P) (i:∀ f l h,P f l h->Q f l h):wS m loc mh Q:=let ⟨f,l,h',e,p⟩:=h;⟨f,l,h',e,i f l h' p⟩
theorem Bw (h:wS m1 loc mh (wF m2 P)):wS (Ac m1 m2) loc mh P:=by
 obtain ⟨f,l,h1,e,q⟩:=h;cases f with
 | nx =>
  obtain ⟨f',l',h',e',p⟩:=q;exact ⟨f',l',h',by rw [Xg,e];exact e',p⟩
 | _=>exact ⟨_,l,h1,by rw [Xg,e],q⟩
theorem Cu (h:wS m2 l h1 P):wF m2 P .nx l h1:=h
theorem nU {d:D}(h:P (.rt d) l h1):wF m2 P (.rt d) l h1:=h
theorem V6 (h:P .nx loc mh):wS Zn loc mh P:=⟨_,_,_,rfl,h⟩
theorem V7 (h:wD me loc mh fun d h1=>wG (g d loc h1) fun l h2=>P .nx l h2):wS (Bg me g) loc mh P:=by
 obtain ⟨d,h1,e1,l,h2,e2,p⟩:=h;exact ⟨.nx,l,h2,by rw [nM,e1];dsimp only;rw [e2],p⟩
theorem fB (h:wD me loc mh fun d h1=>P (.rt d) loc h1):wS (retS me) loc mh P:=by
 obtain ⟨d,h1,e1,p⟩:=h;exact ⟨.rt d,loc,h1,by rw [nO,e1],p⟩
theorem nW (h:wD me loc mh fun _ h1=>P .nx loc h1):wS (Ea me) loc mh P:=by
 obtain ⟨d,h1,e1,p⟩:=h;exact ⟨.nx,loc,h1,by rw [eF,e1],p⟩
theorem Ua (h:wD t loc mh fun k h1=>(k=true->wS m1 loc h1 P)/\(k=false->wS m2 loc h1 P)):wS (ifS t m1 m2) loc mh P:=by
 obtain ⟨k,h1,e1,a,b⟩:=h;cases k with
 | true =>
  obtain ⟨f,l,h',e,p⟩:=a rfl;exact ⟨f,l,h',by rw [eE,e1];exact e,p⟩
 | false =>
  obtain ⟨f,l,h',e,p⟩:=b rfl;exact ⟨f,l,h',by rw [eE,e1];exact e,p⟩
theorem Fx {i:Nat}{d:D}{R:DL.Loc->MH->Prop}(h:R (loc.set i (some d)) mh):wG (Av i d loc mh) R:=⟨_,_,rfl,h⟩
theorem wH {mo mi:DM D}{v:D}{R:DL.Loc->MH->Prop}(h:wD mo loc mh fun o h1=>wD mi loc h1 fun i h2=>∃ h3,Sg o i v h2=some h3/\R loc h3):wG (Ma mo mi v loc mh) R:=by
 obtain ⟨o,h1,e1,i,h2,e2,h3,e3,p⟩:=h;refine ⟨loc,h3,?_,p⟩;unfold Ma;rw [e1];dsimp only;rw [e2];dsimp only;rw [e3]
theorem Ub {n:Nat}{ds:List D}{k:Nat}{v:D}{h:MH}(e:h[n]?=some (.lst ds)) (hk:k < ds.length):Sg (.ref n) (.int k) v h=some (h.set n (.lst (ds.set k v))):=by
 have e2:ixN ds.length (k:Int)=some k:=by unfold ixN;rw [if_pos (by omega),if_pos (by omega)];simp
 simp only [Sg,e,e2]
noncomputable def Aag (J:DL.Loc->MH->Prop) (P:Fl->DL.Loc->MH->Prop) (f:Fl) (l:DL.Loc) (h:MH):Prop:=match f with
 | .nx=>J l h
 | .ct=>J l h
 | .bk=>P .nx l h
 | .rt d=>P (.rt d) l h
theorem V8 {src:Src}{ds:List D}{body:SM}(J:Nat->DL.Loc->MH->Prop) (keep:∀ i l h,J i l h->src.ok h=true/\src.items h=ds)
  (step:∀ i d l h,ds[i]?=some d->J i l h->wG (g d l h) fun l1 h1=>wS body l1 h1 (Aag (J (i+1)) P)) (fin:∀ l h,J ds.length l h->P .nx l h) :
  ∀ (k i:Nat) (l:DL.Loc) (h:MH),i+k=ds.length->J i l h->wS (Ii src g body k i) l h P
 | 0,i,l,h,e,j=>by
  have e:i=ds.length:=by omega
  subst e;have s:src.stop h ds.length=true:=by
   unfold Src.stop;rw [(keep _ _ _ j).1,(keep _ _ _ j).2,Bool.true_and];exact decide_eq_true (Nat.le_refl _)
  exact ⟨.nx,l,h,by simp only [Ii,s,if_true],fin _ _ j⟩
 | k+1,i,l,h,e,j=>by
  have hi:i < ds.length:=by omega
  have eg:src.get h i=some ds[i]:=by
   unfold Src.get;rw [(keep _ _ _ j).2,List.getElem?_eq_getElem hi]
  obtain ⟨l1,h1,e1,f,l2,h2,e2,q⟩:=step i ds[i] l h (List.getElem?_eq_getElem hi) j;cases f with
  | nx =>
   obtain ⟨f',l',h',e',p⟩:=V8 J keep step fin k (i+1) l2 h2 (by omega) q;exact ⟨f',l',h',by simp only [Ii,eg,e1,e2];exact e',p⟩
  | ct =>
   obtain ⟨f',l',h',e',p⟩:=V8 J keep step fin k (i+1) l2 h2 (by omega) q;exact ⟨f',l',h',by simp only [Ii,eg,e1,e2];exact e',p⟩
  | bk=>exact ⟨.nx,l2,h2,by simp only [Ii,eg,e1,e2],q⟩
  | rt d=>exact ⟨.rt d,l2,h2,by simp only [Ii,eg,e1,e2],q⟩
theorem Mw {mi:DM Src}{body:SM}(h:wD mi loc mh fun src h0=>∃ ds,∃ J:Nat->DL.Loc->MH->Prop,J 0 loc h0/\(∀ i l h,J i l h->src.ok h=true/\src.items h=ds) /\
  (∀ i d l h,ds[i]?=some d->J i l h->wG (g d l h) fun l1 h1=>wS body l1 h1 (Aag (J (i+1)) P))/\∀ l h,J ds.length l h->P .nx l h):wS (Ht mi g body) loc mh P:=by
 obtain ⟨src,h0,e,ds,J,j0,keep,step,fin⟩:=h;have el:(src.items h0).length=ds.length:=by rw [(keep _ _ _ j0).2]
 obtain ⟨f,l,h',e',p⟩:=V8 J keep step fin ds.length 0 loc h0 (by omega) j0;refine ⟨f,l,h',?_,p⟩;unfold Ht;rw [e];dsimp only;rw [el];exact e'
theorem Qz {src:Src}{ds:List D}{tc:DM Bool}{e:DM D}{R:List D->MH->Prop}(J:Nat->List D->MH->Prop) (keep:∀ i acc h,J i acc h->src.ok h=true/\src.items h=ds) (hz:ds.length<=1000000) (small:∀ i acc h,J i acc h->acc.length<=i)
  (step:∀ i d acc h,ds[i]?=some d->J i acc h->wG (g d loc h) fun l1 h1=>wD tc l1 h1 fun c h2=>(c=true->wD e l1 h2 fun y h3=>J (i+1) (acc++[y]) h3)/\(c=false->J (i+1) acc h2)) (fin:∀ acc h,J ds.length acc h->R acc h) :
  ∀ (k i:Nat) (acc:List D) (h:MH),i+k=ds.length->J i acc h->∃ acc' h',Hi src g tc e loc k i acc h=some (acc',h')/\R acc' h'
 | 0,i,acc,h,q,j=>by
  have q:i=ds.length:=by omega
  subst q;have s:src.stop h ds.length=true:=by
   unfold Src.stop;rw [(keep _ _ _ j).1,(keep _ _ _ j).2,Bool.true_and];exact decide_eq_true (Nat.le_refl _)
  exact ⟨acc,h,by simp only [Hi,s,if_true],fin _ _ j⟩
 | k+1,i,acc,h,q,j=>by
  have hi:i < ds.length:=by omega
  have eg:src.get h i=some ds[i]:=by
   unfold Src.get;rw [(keep _ _ _ j).2,List.getElem?_eq_getElem hi]
  obtain ⟨l1,h1,e1,c,h2,e2,a,b⟩:=step i ds[i] acc h (List.getElem?_eq_getElem hi) j;cases c with
  | true =>
   obtain ⟨y,h3,e3,j3⟩:=a rfl;obtain ⟨acc',h',e',p⟩:=Qz J keep hz small step fin k (i+1) _ h3 (by omega) j3;have hl:acc.length < sizeLine:=lt_size (by have:=small _ _ _ j;omega);exact ⟨acc',h',by simp only [Hi,eg,e1,e2,if_true,e3,if_pos hl];exact e',p⟩
  | false =>
   obtain ⟨acc',h',e',p⟩:=Qz J keep hz small step fin k (i+1) _ h2 (by omega) (b rfl);exact ⟨acc',h',by simp only [Hi,eg,e1,e2,Bool.false_eq_true,if_false];exact e',p⟩
theorem K8 {mi:DM Src}{cs:List (Option Nat)}{tc:DM Bool}{e:DM D}{Q:D->MH->Prop}(h:wD mi loc mh fun src h0=>∃ ds,∃ J:Nat->List D->MH->Prop,ds.length<=1000000/\J 0 [] h0/\(∀ i acc h,J i acc h->src.ok h=true/\src.items h=ds)/\(∀ i acc h,J i acc h->acc.length<=i) /\
  (∀ i d acc h,ds[i]?=some d->J i acc h->wG (g d (N5 cs loc) h) fun l1 h1=>wD tc l1 h1 fun c h2=>(c=true->wD e l1 h2 fun y h3=>J (i+1) (acc++[y]) h3)/\(c=false->J (i+1) acc h2)) /\
  ∀ acc h,J ds.length acc h->Q (.ref h.length) (h++[.lst acc])):wD (Ci mi cs g tc e) loc mh Q:=by
 obtain ⟨src,h0,e0,ds,J,hz,j0,keep,small,step,fin⟩:=h;have el:(src.items h0).length=ds.length:=by rw [(keep _ _ _ j0).2]
 obtain ⟨acc,h',e',p⟩:=Qz J keep hz small step fin ds.length 0 [] h0 (by omega) j0;refine ⟨.ref h'.length,h'++[.lst acc],?_,p⟩;unfold Ci;rw [e0];dsimp only;rw [el,e']
end
noncomputable def Abu (P:D->MH->Prop) (f:Fl) (_:DL.Loc) (h:MH):Prop:=match f with
 | .rt d=>P d h
 | .nx=>P .non h
 | _=>False
theorem Di {G:Gb}{n:Nat}{I:FnI}{b:SM}{ds:List D}{mh:MH}{np m:Nat}{P:D->MH->Prop}(hb:iSs G n { N:=I.N,scope:=I.scope,own:=fun _=>true } I.body=b) (hp:I.ps.length=np) (hN:I.N.length=m) (hl:ds.length=np)
  (h:wS b (ds.map some++List.replicate (m - np) none) mh (Abu P)):wV (Aq G n I ds mh) P:=by
 obtain ⟨f,l,h',e,p⟩:=h;cases f with
 | rt d=>exact ⟨d,h',by unfold Aq;rw [if_pos (by rw [hp];exact hl),hb,hN,hl,e],p⟩
 | nx=>exact ⟨.non,h',by unfold Aq;rw [if_pos (by rw [hp];exact hl),hb,hN,hl,e],p⟩
 | bk=>exact p.elim
 | ct=>exact p.elim
section
variable {mh:MH}{P:D->MH->Prop}
theorem Gp {r:Option (D×MH)}{d:D}{h:MH}(e:r=some (d,h)) (p:P d h):wV r P:=⟨d,h,e,p⟩
theorem Mx {C:Int->Int->Bool}{g:Int->Int->Int}{i j:Int}(hC:C i j=true) (h:P (.int (g i j)) mh):wV (iop C g (.int i) (.int j) mh) P:=⟨_,_,by rw [vX,if_pos hC],h⟩
theorem V9 {i j:Int}(h:P (.int (i - j)) mh):wV (Vy (.int i) (.int j) mh) P:=Mx rfl h
theorem Hw {i j:Int}(hj:j≠0) (h:P (.int (i.fmod j)) mh):wV (Vz (.int i) (.int j) mh) P:=Mx (decide_eq_true hj) h
theorem K9 {i j:Int}(hj:j≠0) (hb:j.natAbs < 1606938044258990275541962092341162602522202993782792835301376) (h:P (.int (i.fdiv j)) mh):wV (W9 (.int i) (.int j) mh) P:=Mx (by rw [decide_eq_true hj,decide_eq_true hb];rfl) h
theorem wI {i j:Int}(hb:(-(2 ^ 64) < i/\i < 2 ^ 64)\/(-(2 ^ 64) < j/\j < 2 ^ 64)) (h:P (.int (i * j)) mh):wV (zX (.int i) (.int j) mh) P:=show wV (iop Tn (fun i j=>i * j) (.int i) (.int j) mh) P from Mx (by unfold Tn;rw [Bool.or_eq_true,decide_eq_true_iff,decide_eq_true_iff];exact hb) h
theorem nY {g:Int->Int->Bool}{i j:Int}(h:P (.bl (g i j)) mh):wV (Qg g (.int i) (.int j) mh) P:=⟨_,_,rfl,h⟩
theorem wJ {i j:Int}(h:P (.int (i+j)) mh):wV (Bk (.int i) (.int j) mh) P:=⟨_,_,rfl,h⟩
theorem wK {i j:Int}(h:P (.bl (i==j)) mh):wV (eqD (.int i) (.int j) mh) P:=⟨_,_,rfl,h⟩
theorem wL {i j:Int}(h:P (.bl (!(i==j))) mh):wV (neD (.int i) (.int j) mh) P:=⟨_,_,rfl,h⟩
theorem Aah {x y:D}{k:Bool}(e:eqB mh x y=some k) (h:P (.bl k) mh):wV (eqD x y mh) P:=⟨_,_,by unfold eqD;rw [e],h⟩
theorem qJ {x y:D}{k:Bool}(e:eqB mh x y=some k) (h:P (.bl (!k)) mh):wV (neD x y mh) P:=⟨_,_,by unfold neD;rw [e],h⟩
theorem nZ {x y:D}{k:Bool}(e:inB mh x y=some k):O1 y mh=none:=by
 cases q:O1 y mh with
 | none=>rfl
 | some kvs =>
  obtain ⟨n,rfl,en⟩:=Vq q;have p:py mh 60 (.ref n)=none:=by
   show (match mh[n]? with | some (.lst o)=>(match Hq (py mh 59) o with | some xs=>some (PyData.list xs) | none=>none) | _=>none)=_;rw [en]
  unfold inB at e;rw [p] at e;split at e
  ·rename_i z;cases z
  ·rename_i z;cases z
  ·cases e
theorem Aai {neg:Bool}{x y:D}{k:Bool}(e:inB mh x y=some k) (h:P (.bl (if neg then !k else k)) mh):wV (inD neg x y mh) P:=⟨_,_,by unfold inD;rw [nZ e];dsimp only;unfold Ye;rw [e],h⟩
theorem Xj {n m:Nat}{xs ys:List D}(e1:mh[n]?=some (.lst xs)) (e2:mh[m]?=some (.lst ys)) (hz:xs.length+ys.length<=1000000) (h:P (.ref mh.length) (mh++[.lst (xs++ys)])):wV (Bk (.ref n) (.ref m) mh) P:=⟨_,_,Mu e1 e2 hz,h⟩
theorem Fb {n:Nat}{ds:List D}{j:Nat}{d:D}(e1:mh[n]?=some (.lst ds)) (e:ds[j]?=some d) (h:P d mh):wV (ixD (.ref n) (.int j) mh) P:=⟨d,mh,by simp only [ixD,O2 e1,lJ,Dc,e1,Fq e],h⟩
theorem O5 {n:Nat}{ds:List D}{y:D}(e:mh[n]?=some (.lst ds)) (hz:ds.length<=1000000) (h:P .non (mh.set n (.lst (ds++[y])))):wV (Cq (.ref n) [y] mh) P:=⟨_,_,V3 e hz,h⟩
theorem Fd {x:D}{ds:List D}(hx:∀ z,x≠.str z) (e:Dc x mh=some ds) (h:P (.int ds.length) mh):wV (Dm [x] mh) P:=by
 refine ⟨_,_,?_,h⟩;cases x with
 | str z=>exact (hx z rfl).elim
 | _=>simp only [Dm,e]
theorem Uc {x:D}{ds:List D}(e:Dc x mh=some ds) (h:P (.tup ds) mh):wV (Hs [x] mh) P:=⟨_,_,by simp only [Hs,e],h⟩
theorem fD {f:List Bool->Bool}{x:D}{bs:List Bool}(e:Dc x mh=some (bs.map D.bl)) (h:P (.bl (f bs)) mh):wV (Gy f [x] mh) P:=⟨_,_,by simp only [Gy,e,Kd],h⟩
end
structure Ext (W:List Nat) (a b:MH):Prop where
 len:a.length<=b.length
 old:∀ i o,i ∉ W->a[i]?=some o->b[i]?=some o
theorem Ext.refl {W:List Nat}{a:MH}:Ext W a a:=⟨Nat.le_refl _,fun _ _ _ e=>e⟩
theorem Ext.trans {W:List Nat}{a b c:MH}(x:Ext W a b) (y:Ext W b c):Ext W a c:=⟨Nat.le_trans x.len y.len,fun i o h e=>y.old i o h (x.old i o h e)⟩
theorem Ext.weak {W:List Nat}{a b:MH}(x:Ext [] a b):Ext W a b:=⟨x.len,fun i o _ e=>x.old i o (by simp) e⟩
theorem Ext.more {W:List Nat}{a g:MH}:Ext W a (a++g):=⟨by rw [List.length_append];omega,fun i o _ e=>by rw [List.getElem?_append_left (List.getElem?_eq_some_iff.mp e).1];exact e⟩
theorem Ext.set {n:Nat}{a:MH}{o:MO}:Ext [n] a (a.set n o):=⟨by rw [List.length_set];exact Nat.le_refl _,fun i o' h e=>by rw [List.getElem?_set_ne (fun z=>h (by simp [z]))];exact e⟩
theorem Ext.setNew {W:List Nat}{n:Nat}{a b:MH}{o:MO}(x:Ext W a b) (h:a.length<=n):Ext W a (b.set n o):=⟨by rw [List.length_set];exact x.len,fun i o' hi e=>by
 have:i < a.length:=(List.getElem?_eq_some_iff.mp e).1
 rw [List.getElem?_set_ne (by omega)];exact x.old i o' hi e⟩
theorem Az {a:MH}{o:MO}:(a++[o])[a.length]?=some o:=by rw [List.getElem?_append_right (Nat.le_refl _),Nat.sub_self];rfl
theorem Jv {a:MH}{n:Nat}{o o':MO}(h:a[n]?=some o'):(a.set n o)[n]?=some o:=by
 rw [List.getElem?_set];simp [(List.getElem?_eq_some_iff.mp h).1]
theorem Ud {a b:Str}{k:Bool}(ha:PyData.strOk a=true) (hb:PyData.strOk b=true) (e:(a==b)=k) (mh:MH):eqB mh (.str a) (.str b)=some k:=by
 unfold eqB;simp only [py,if_pos ha,if_pos hb,PyData.eqv,e]
theorem Xk (mh:MH) (n:Nat):∀ {ws:List Str},(ws.all PyData.strOk)=true->Hq (py mh n) (ws.map D.str)=some (ws.map PyData.str)
 | [],_=>rfl
 | w::r,h=>by
  rw [List.all_cons,Bool.and_eq_true] at h;have e:py mh n (.str w)=some (.str w):=by cases n <;> (show (if PyData.strOk w=true then some (PyData.str w) else none)=_;rw [if_pos h.1])
  simp only [List.map_cons,Hq,e,Xk mh n h.2]
theorem Ue (w:Str):∀ (ws:List Str),((ws.map PyData.str).any fun y=>PyData.eqv y (.str w))=ws.any (·==w)
 | []=>rfl
 | a::r=>by
  rw [List.map_cons,List.any_cons,List.any_cons,Ue w r];rfl
theorem oA {w:Str}{ws:List Str}{n:Nat}{mh:MH}(hw:PyData.strOk w=true) (h:(ws.all PyData.strOk)=true) (e:mh[n]?=some (.lst (ws.map D.str))):inB mh (.str w) (.ref n)=some (ws.any (·==w)):=by
 have e1:py mh 60 (.str w)=some (.str w):=by show (if PyData.strOk w=true then some (PyData.str w) else none)=_;rw [if_pos hw]
 have e2:py mh 60 (.ref n)=some (.list (ws.map PyData.str)):=by
  show (match mh[n]? with | some (.lst o)=>(match Hq (py mh 59) o with | some xs=>some (PyData.list xs) | none=>none) | _=>none)=_;rw [e];dsimp only;rw [Xk mh 59 h]
 unfold inB;rw [e1,e2];dsimp only;rw [Ue]
section
variable {loc:DL.Loc}{mh:MH}{ma:DM D}{mr:DM (List D)}{P:D->MH->Prop}
theorem fG {neg:Bool}{kvs:List (Str×D)}(h:wD ma loc mh fun x h1=>∃ k,x=.str k/\P (.bl (if neg then !(kvs.lookup k).isSome else (kvs.lookup k).isSome)) h1):wD (Gh neg kvs ma) loc mh P:=Bf (Ak h fun _ _ ⟨k,e,q⟩=>by subst e;exact Ed q)
theorem fH {kvs:List (Str×D)}(h:wD ma loc mh fun x h1=>∃ k d,x=.str k/\kvs.lookup k=some d/\P d h1):wD (Mh kvs ma) loc mh P:=Bf (Ak h fun _ _ ⟨k,d,e,l,q⟩=>by
 subst e;show wD (match kvs.lookup k with | some d=>Zr d | none=>Zb) _ _ _
 rw [l];exact Ed q)
theorem fJ {i j:Int}(h1:0<=j) (h2:j<=1000000) (h3:i.natAbs < 2 ^ 64) (h:P (.int (i ^ j.toNat)) mh):wV (vI (.int i) (.int j) mh) P:=Mx (by rw [decide_eq_true h1,decide_eq_true h2,decide_eq_true h3];rfl) h
end
section
variable {loc:DL.Loc}{mh:MH}{ma:DM D}{mr:DM (List D)}{P:D->MH->Prop}
end
noncomputable def Kr:=orD zX mH
noncomputable def inX (neg:Bool):=orD (inD neg) (inS neg)
noncomputable def isX (neg:Bool):=orD (isD neg) (isS neg)
section
variable {loc:DL.Loc}{mh:MH}{ma:DM D}{P:D->MH->Prop}
theorem fK {f g:D->D->MH->Option (D×MH)}{x y:D}(h:wV (f x y mh) P):wV (orD f g x y mh) P:=by
 obtain ⟨d,h',e,p⟩:=h;exact ⟨d,h',by unfold orD;rw [e],p⟩
theorem Fy {a b:Str}(hz:a.length+b.length<=16777216) (h:P (.str (a++b)) mh):wV (Bk (.str a) (.str b) mh) P:=⟨_,_,by
 show (if a.length+b.length<=sizeLine then some (D.str (a++b),mh) else none)=_
 rw [if_pos (show a.length+b.length<=sizeLine from hz)],h⟩
theorem La {i j:Int}(hb:(-(2 ^ 64) < i/\i < 2 ^ 64)\/(-(2 ^ 64) < j/\j < 2 ^ 64)) (h:P (.int (i * j)) mh):wV (Kr (.int i) (.int j) mh) P:=fK (wI hb h)
theorem Jw {a:Str}{i:Int}{c:Nat}(hz:a.length<=16777216) (e:atI a.cps.toList i=some c) (h:P (.str ⟨#[c]⟩) mh):wV (ixD (.str a) (.int i) mh) P:=⟨_,_,by
 show (if a.length<=sizeLine then (match atI a.cps.toList i with | some c=>some (D.str ⟨#[c]⟩,mh) | none=>none) else none)=_
 rw [if_pos (show a.length<=sizeLine from hz),e],h⟩
theorem oE {neg:Bool}{a b:Str}(h:P (.bl (if neg then !(Txt.contains b a) else Txt.contains b a)) mh):wV (inX neg (.str a) (.str b) mh) P:=⟨_,_,by
 show (match inD neg (.str a) (.str b) mh with | some r=>some r | none=>inS neg (.str a) (.str b) mh)=_;have e0:inD neg (.str a) (.str b) mh=none:=by
  show Ye neg (.str a) (.str b) mh=none;unfold Ye inB;show (match (match (if PyData.strOk a=true then some (PyData.str a) else none),(if PyData.strOk b=true then some (PyData.str b) else none) with | some x,some (.list ys)=>some (ys.any fun y=>PyData.eqv y x) | some x,some (.tuple ys)=>some (ys.any fun y=>PyData.eqv y x) | _,_=>none) with | some k=>some (D.bl (if neg then !k else k),mh) | none=>none)=none;split
  ·rename_i k e;split at e
   ·rename_i h1 h2;split at h2 <;> cases h2
   ·rename_i h1 h2;split at h2 <;> cases h2
   ·cases e
  ·rfl
 rw [e0]
 rfl,h⟩
theorem wM {ml mu:Option (DM D)}(h:wD ma loc mh fun x h1=>wD (Ie ml) loc h1 fun l h2=>wD (Ie mu) loc h2 fun r h3=>wV (slS x l r h3) P):wD (Jm ma ml mu) loc mh P :=
 Bf (Ak h fun _ _ q=>Bf (Ak q fun _ _ z=>Bf (Ak z fun _ _ y=>y)))
theorem Q0 {a:Str}{lo hi:Option Int}(h1:a.length<=1000000) (h2:(Jk a lo hi).length<=1000000) (h:P (.str (Jk a lo hi)) mh):wV (slS (.str a) lo hi mh) P:=⟨_,_,by
 show (if a.length<=1000000/\(Jk a lo hi).length<=1000000 then some (D.str (Jk a lo hi),mh) else none)=_
 rw [if_pos ⟨h1,h2⟩],h⟩
theorem wN {x:D}{lo hi:Option Int}(e:strOf x=none) (h:wV (slD x lo hi mh) P):wV (slS x lo hi mh) P:=by
 have:slS x lo hi mh=slD x lo hi mh:=by unfold slS;rw [e]
 rw [this];exact h
theorem Q5 {R:Src->MH->Prop}(h:wD ma loc mh fun x h1=>strOf x=none/\∃ s,srcOf x h1=some s/\R s h1):wD (Cg ma) loc mh R:=by
 obtain ⟨x,h1,e,e2,s,e3,r⟩:=h;exact ⟨s,h1,by unfold Cg DM.bnd;rw [e];dsimp only;rw [e2];dsimp only;rw [e3],r⟩
theorem oF {R:Src->MH->Prop}(h:wD ma loc mh fun x h1=>∃ a:Str,x=.str a/\a.cps.all (· < 128)=true/\R (.seq (signs a)) h1):wD (Cg ma) loc mh R:=by
 obtain ⟨x,h1,e,a,rfl,e3,r⟩:=h;exact ⟨_,h1,by unfold Cg DM.bnd;rw [e];show (if a.cps.all (· < 128)=true then some (Src.seq (signs a),h1) else none)=_;rw [if_pos e3],r⟩
theorem Cv {a:Str}(hz:a.length<=16777216) (h:P (.int a.length) mh):wV (Dm [.str a] mh) P:=⟨_,_,by
 show (if a.length<=sizeLine then some (D.int a.length,mh) else none)=_
 rw [if_pos (show a.length<=sizeLine from hz)],h⟩
theorem Ef {a b:Str}{k:Bool}(ha:PyData.strOk a=true) (hb:PyData.strOk b=true) (e:(a==b)=k) (h:P (.bl k) mh):wV (eqD (.str a) (.str b) mh) P:=Aah (Ud ha hb e mh) h
theorem My {a b:Str}{k:Bool}(ha:PyData.strOk a=true) (hb:PyData.strOk b=true) (e:(a==b)=k) (h:P (.bl (!k)) mh):wV (neD (.str a) (.str b) mh) P:=qJ (Ud ha hb e mh) h
end
theorem Aaj {k:Bool}{B:Bool->Prop}(h:B k):∃ j,D.bl k=.bl j/\B j:=⟨k,rfl,h⟩
theorem wO {i:Int}{B:Int->Prop}(h:B i):∃ j,D.int i=.int j/\B j:=⟨i,rfl,h⟩
theorem fL {p q:Prop}(h:p):((true=true)->p)/\((true=false)->q):=⟨fun _=>h,fun z=>by cases z⟩
theorem fM {p q:Prop}(h:q):((false=true)->p)/\((false=false)->q):=⟨fun z=>(by cases z),fun _=>h⟩
theorem oG {k:Bool}{p q:Prop}(e:k=true) (h:p):(k=true->p)/\(k=false->q):=⟨fun _=>h,fun z=>by rw [e] at z;cases z⟩
theorem oH {k:Bool}{p q:Prop}(e:k=false) (h:q):(k=true->p)/\(k=false->q):=⟨fun z=>(by rw [e] at z;cases z),fun _=>h⟩
theorem Eo {k:Bool}{p q:Prop}(h1:k=true->p) (h2:k=false->q):(k=true->p)/\(k=false->q):=⟨h1,h2⟩
theorem fO {k:Bool}{h:MH}{B:Bool->Prop}(q:B k):∃ j,aX (.bl k) h=some j/\B j:=⟨k,rfl,q⟩
theorem Wa {T t:String}{x:D}{b:Bool}{mh:MH}{P:D->MH->Prop}(e1:Lz x mh=some t) (e2:Yi t T=some b) (h:P (.bl b) mh):wV (Ss T x mh) P:=⟨_,_,by unfold Ss;rw [e1];dsimp only;rw [e2],h⟩
mutual
noncomputable def dat:Nat->D->Bool
 | _,.int _=>true
 | _,.bl _=>true
 | _,.non=>true
 | _,.str x=>PyData.strOk x
 | n+1,.tup ds=>Ks n ds
 | _,_=>false
noncomputable def Ks:Nat->List D->Bool
 | _,[]=>true
 | n,d::r=>dat n d&&Ks n r
end
mutual
theorem fP (mh:MH):∀ (n:Nat) (d:D),dat n d=true->∃ a,py mh n d=some a/\a.canLay0=true
 | n,.int i,_=>⟨.int i,by cases n <;> rfl,rfl⟩
 | n,.bl i,_=>⟨.bool i,by cases n <;> rfl,rfl⟩
 | n,.non,_=>⟨.none,by cases n <;> rfl,rfl⟩
 | n,.str x,h=>by
  have h2:PyData.strOk x=true:=by cases n <;> exact h
  exact ⟨.str x,by cases n <;> (show (if PyData.strOk x=true then some (PyData.str x) else none)=_;rw [if_pos h2]),h2⟩
 | 0,.tup ds,h=>by simp [dat] at h
 | n+1,.tup ds,h=>by
  have h:Ks n ds=true:=h;obtain ⟨as,e,l⟩:=Xl mh n ds h;exact ⟨.tuple as,by simp only [py,e],by simpa [PyData.canLay0] using l⟩
 | 0,.ref _,h=>by simp [dat] at h
 | _+1,.ref _,h=>by simp [dat] at h
 | 0,.rol _,h=>by simp [dat] at h
 | _+1,.rol _,h=>by simp [dat] at h
 | 0,.obj ..,h=>by simp [dat] at h
 | _+1,.obj ..,h=>by simp [dat] at h
 | 0,.fn _,h=>by simp [dat] at h
 | _+1,.fn _,h=>by simp [dat] at h
theorem Xl (mh:MH):∀ (n:Nat) (ds:List D),Ks n ds=true->∃ as,Hq (py mh n) ds=some as/\PyData.canLayAll0 as=true
 | n,[],_=>⟨[],rfl,rfl⟩
 | n,d::r,h=>by
  have h:(dat n d&&Ks n r)=true:=by simpa [Ks] using h
  rw [Bool.and_eq_true] at h;obtain ⟨a,e1,l1⟩:=fP mh n d h.1;obtain ⟨as,e2,l2⟩:=Xl mh n r h.2;exact ⟨a::as,by simp only [Hq,e1,e2],by simp only [PyData.canLayAll0,l1,l2,Bool.and_self]⟩
end
theorem fQ {x:D}(h:dat 60 x=true) (mh:MH):eqB mh x x=some true:=by
 obtain ⟨a,e,l⟩:=fP mh 60 x h;unfold eqB;rw [e];dsimp only;rw [SeqAt.eqv_refl a l]
theorem ty_list {a:Nat}{ds:List D}{mh:MH}(e:mh[a]?=some (.lst ds)):Sv "list" (.ref a) mh=true:=by
 show (true&&(match mh[a]? with | some (.lst _)=>true | _=>false))=true;rw [e];rfl
theorem src_list {a:Nat}{ds:List D}{mh:MH}(e:mh[a]?=some (.lst ds)):srcOf (.ref a) mh=some (.lref a):=by
 show (match mh[a]? with | some (.lst _)=>some (Src.lref a) | _=>none)=_;rw [e]
theorem G6 {a:Nat}{ds:List D}{mh:MH}(e:mh[a]?=some (.lst ds)):(Src.lref a).ok mh=true/\(Src.lref a).items mh=ds:=by
 refine ⟨?_,?_⟩
 ·show (match mh[a]? with | some (.lst _)=>true | _=>false)=true;rw [e]
 ·show (match mh[a]? with | some (.lst o)=>o | _=>[])=_;rw [e]
end DL
namespace Lw
open PySem L2 DL
noncomputable def top (i:Nat):Stmt:=PySem.Challenge.pw_letterall_k91_what_is_no_text.main.body.getD i (.Pass ⟨0,0,0,0⟩)
noncomputable def f17:FnI:=Ez (top 17)
noncomputable def f18:FnI:=Ez (top 18)
noncomputable def f19:FnI:=Ez (top 19)
noncomputable def f20:FnI:=Ez (top 20)
noncomputable def f23:FnI:=Ez (top 23)
noncomputable def f24:FnI:=Ez (top 24)
noncomputable def f25:FnI:=Ez (top 25)
noncomputable def f26:FnI:=Ez (top 26)
noncomputable def f27:FnI:=Ez (top 27)
noncomputable def f28:FnI:=Ez (top 28)
noncomputable def f29:FnI:=Ez (top 29)
noncomputable def fU:List (Str×Stmt):=("read",top 17)::("read_things",top 18)::("read_plain",top 19)::("is_number",top 20)::("_law_digit",top 23)::("_law_word",top 24)::("_law_thing",top 25)::("_law_text",top 26)::("_law_refused",top 27)::("_law_spoiled",top 28)::("law",top 29)::[]
noncomputable def tb (x:Str):Option FnI:=(fU.lookup x).map Ez
theorem fV:dW fU:=⟨Gm ⟨rfl,rfl,rfl,by decide +kernel,by decide +kernel,by decide +kernel,by decide +kernel⟩ fun _ _ _ _ _ _=>ln1 fun _=>rfl,Gm ⟨rfl,rfl,rfl,by decide +kernel,by decide +kernel,by decide +kernel,by decide +kernel⟩ fun _ _ _ _ _ _=>ln1 fun _=>rfl,Gm ⟨rfl,rfl,rfl,by decide +kernel,by decide +kernel,by decide +kernel,by decide +kernel⟩ fun _ _ _ _ _ _=>ln1 fun _=>rfl,Gm ⟨rfl,rfl,rfl,by decide +kernel,by decide +kernel,by decide +kernel,by decide +kernel⟩ fun _ _ _ _ _ _=>ln1 fun _=>rfl,Gm ⟨rfl,rfl,rfl,by decide +kernel,by decide +kernel,by decide +kernel,by decide +kernel⟩ fun _ _ _ _ _ _=>ln2 fun _ _=>rfl,Gm ⟨rfl,rfl,rfl,by decide +kernel,by decide +kernel,by decide +kernel,by decide +kernel⟩ fun _ _ _ _ _ _=>ln1 fun _=>rfl,Gm ⟨rfl,rfl,rfl,by decide +kernel,by decide +kernel,by decide +kernel,by decide +kernel⟩ fun _ _ _ _ _ _=>ln2 fun _ _=>rfl,Gm ⟨rfl,rfl,rfl,by decide +kernel,by decide +kernel,by decide +kernel,by decide +kernel⟩ fun _ _ _ _ _ _=>ln1 fun _=>rfl,Gm ⟨rfl,rfl,rfl,by decide +kernel,by decide +kernel,by decide +kernel,by decide +kernel⟩ fun _ _ _ _ _ _=>ln1 fun _=>rfl,Gm ⟨rfl,rfl,rfl,by decide +kernel,by decide +kernel,by decide +kernel,by decide +kernel⟩ fun _ _ _ _ _ _=>ln2 fun _ _=>rfl,Gm ⟨rfl,rfl,rfl,by decide +kernel,by decide +kernel,by decide +kernel,by decide +kernel⟩ fun _ _ _ _ _ _=>ln1 fun _=>rfl,trivial⟩
noncomputable def qK:List (Str×D):=[("FIGURES",(.str "0123456789")),("LETTERS",(.str "abcdefghijklmnopqrstuvwxyz")),("FIGURES_AT_MOST",(.int (60))),("DEEP_AT_MOST",(.int (30)))]
noncomputable def con (x:Str):Option D:=qK.lookup x
noncomputable def Fz:List (Str×D):=[("none",.non),("yes",(.bl true)),("no",(.bl false))]
noncomputable def dic (x:Str):Option (List (Str×D)):=if x=="NAMED" then some Fz else none
noncomputable def fld (_ _:Str):Bool:=false
noncomputable def tbm (_ _:Str):Option FnI:=none
noncomputable def mkr (_:Str):Option Str:=none
noncomputable def Tt:Tb:={ tb:=tb,con:=con,dic:=dic,fld:=fld,tbm:=tbm,mkr:=mkr }
theorem Q6:f17.ps.length=1/\f17.N.length=2:=by decide +kernel
theorem Jy:f18.ps.length=1/\f18.N.length=9:=by decide +kernel
theorem Q7:f19.ps.length=1/\f19.N.length=2:=by decide +kernel
theorem Q8:f20.ps.length=1/\f20.N.length=1:=by decide +kernel
theorem fW:f23.ps.length=2/\f23.N.length=4:=by decide +kernel
theorem fX:f24.ps.length=1/\f24.N.length=3:=by decide +kernel
theorem fY:f25.ps.length=2/\f25.N.length=4:=by decide +kernel
theorem Q9:f26.ps.length=1/\f26.N.length=1:=by decide +kernel
theorem Wb:f27.ps.length=1/\f27.N.length=4:=by decide +kernel
theorem fZ:f28.ps.length=2/\f28.N.length=3:=by decide +kernel
theorem gA:f29.ps.length=1/\f29.N.length=6:=by decide +kernel
theorem Abv {w:World}{K:W.Frag}{h:Heap}{mg:Str->Option Value}(X:K.In h) (G:h.Ns mainGlobals mg){da0:Addr} {es0:Array DictEntry} {ep0:Nat}(rf:T5 K fU)(rb:T8 K Iw)(rc:T6 K qK)(d0:W.nsIn K mainGlobals "NAMED"=some (some (.ref da0)))(e0:K.lookup da0=some ⟨.type "dict",none,.dict es0 ep0,#[]⟩)(g0:(da0==sysModules)=false)(h0:es0.toList.map (Vm w)=es0.toList)(r0:rdE K 60 es0.toList=some Fz):TbOk w K mg Tt:=by
 refine ⟨fun x I hx=>?_,fun x d hx=>?_,fun b hb=>?_,fun x kvs hx=>?_,fun c f hx=>?_,fun c m I hx=>?_,fun c f hx=>?_⟩
 ·exact Xe X G rf fV hx
 ·show cW K mg x d;change con x=some d at hx;unfold con at hx;exact T7 X G rc hx
 ·exact T9 X G rb b hb
 ·change dic x=some kvs at hx;unfold dic at hx;split at hx
  ·rename_i e;rw [eq_of_beq e];cases hx;exact ⟨_,W.mg_of X G d0,uN g0 e0 h0 r0⟩
  ·cases hx
 ·cases hx
 ·cases hx
 ·cases hx
noncomputable def xcl (c:Str):Bool:=c == "NoText"
theorem Abw {K:W.Frag}{h:Heap}{mg:Str->Option Value}(X:K.In h) (G:h.Ns mainGlobals mg) {X0:Addr}(a0:W.nsIn K mainGlobals "NoText"=some (some (.ref X0))) (b0:W.excIn K X0 bmV "ValueError.__new__"=true):nC K mg xcl:=by
 intro c hc;unfold xcl at hc;rw [eq_of_beq hc];exact ⟨_,W.mg_of X G a0,b0⟩
noncomputable def bls (n:Nat):List D:=List.replicate n (.bl false)
noncomputable def suM:SM:=fun loc mh=>some (.nx,((loc.set 2 none).set 3 none).set 1 (some (.bl true)),((((mh++[.lst (bls 4)])++[.lst (bls 3)])++[.lst (bls 4++bls 3)])++[.lst (bls 1)])++[.lst ((bls 4++bls 3)++bls 1)])
noncomputable def Aak:List Stmt:=nG (f27.body.getD 1 (.Pass ⟨0,0,0,0⟩))
noncomputable def td0:Td:=⟨"read", "NoText", "NoText", "e",suM,Aak.headD (.Pass ⟨0,0,0,0⟩),Aak.drop 1⟩
noncomputable def tds (x:Str):Option Td:=if x=="_law_refused" then some td0 else none
theorem Abx {K:W.Frag}{mg:Str->Option Value}(su:dO K mg { N:=f27.N,scope:=f27.scope,own:=fun _=>true } td0):vW K mg Tt tds:=by
 intro x q I h1 h2;unfold tds at h1;split at h1
 ·rename_i e;rw [eq_of_beq e] at h2;cases h1
  have e2:Tt.tb "_law_refused"=some f27:=by kernel_rfl
  rw [e2] at h2;cases h2;refine ⟨?_,su⟩;exact And.intro (.inl rfl) (And.intro (.inr ⟨_,_,_,_,_,_,_,_,rfl⟩) (And.intro (.inl rfl) (trivial)))
 ·cases h1
noncomputable def xr (x:Str):Bool:=x == "read" || x == "read_things" || x == "read_plain"
noncomputable def Gk (k:Nat):Gb:=(GX Tt xcl xr tds k).1
noncomputable abbrev Bq (I:FnI) (k:Nat):SM:=iSs (Gk (k+1)) fuel {N:=I.N,scope:=I.scope,own:=fun _=>true} I.body
noncomputable def Ek (k:Nat):Ex:=(GX Tt xcl xr tds k).2
noncomputable def Ra (k:Nat):RM :=
 (rOr (Oc (Aa (vr 0) (Zr [])) (Dq (Gk k) (Ek k) xcl fuel f18)) (Bg (Ar (Aq (Gk k) fuel f18) (Aa (vr 0) (Zr []))) (Av 1)) (rIf (Ag (dop neD (Ar Dm (Aa (vr 1) (Zr []))) (Zr (.int 1)))) (rOr (Ec "NoText" (Aa (Zr (.str "more than one thing")) (Zr []))) (Ac SM.bad Zn) (rOr Ax (retS (dop ixD (vr 1) (Zr (.int 0)))) Ax)) (rOr Ax Zn (rOr Ax (retS (dop ixD (vr 1) (Zr (.int 0)))) Ax))))
noncomputable def r17 (k:Nat):RM :=
 (rIf (Hg (Jh (mU "str" (vr 0)))) (rOr (Ec "NoText" (Aa (Zr (.str "no text")) (Zr []))) (Ac SM.bad
 Zn) (Ra k)) (rOr Ax Zn (Ra k)))
theorem wQ (k:Nat):iR (Gk (k+1)) (Ek (k+1)) xcl fuel { N:=f17.N,scope:=f17.scope,own:=fun _=>true } f17.body=r17 k:=by kernel_rfl
noncomputable def b17 (k:Nat):SM :=
 (Ac (ifS (Hg (Jh (mU "str" (vr 0))))
 (Ac SM.bad
  Zn)
 Zn)
 (Ac (Bg (Ar (Aq (Gk k) fuel f18) (Aa (vr 0) (Zr []))) (Av 1))
 (Ac (ifS (Ag (dop neD (Ar Dm (Aa (vr 1) (Zr []))) (Zr (.int 1))))
 (Ac SM.bad
  Zn)
 Zn)
 (Ac (retS (dop ixD (vr 1) (Zr (.int 0))))
 Zn))))
theorem wU (k:Nat):Bq f17 k=b17 k:=by kernel_rfl
noncomputable def gB (k:Nat):RM :=
 (rOr Ax (Bg (Ar Hs (Aa (Ay "list" S6 (vr 1) (Zr [])) (Zr []))) (Av 8)) (rOr (Od (dop ixD (vr 1) (N7 (Zr (.int 1)))) Ax) (Ea (Ay "list" Cq (dop ixD (vr 1) (N7 (Zr (.int 1)))) (Aa (vr 8) (Zr [])))) Ax))
noncomputable def Mz (k:Nat):SM :=
 (Ac (Bg (Ar Hs (Aa (Ay "list" S6 (vr 1) (Zr [])) (Zr []))) (Av 8)) (Ac (Ea (Ay "list" Cq (dop ixD (vr 1) (N7 (Zr (.int 1)))) (Aa (vr 8) (Zr [])))) Zn))
noncomputable def Wc (k:Nat):RM :=
 (rOr (Qw (Ji Ig (Aa (vr 6) (Zr []))) (Av 7) (gB k) (Mz k)) (Ht (Ji Ig (Aa (vr 6) (Zr []))) (Av 7) (Mz k)) Ax)
noncomputable def Rb (k:Nat):RM :=
 (rIf (Ag (dop neD (vr 4) (Zr (.str "")))) (rOr (rOr (Od (dop ixD (vr 1) (N7 (Zr (.int 1)))) (Oc (Aa (vr 4) (Zr [])) (Dq (Gk k) (Ek k) xcl fuel f19))) (Ea (Ay "list" Cq (dop ixD (vr 1) (N7 (Zr (.int 1)))) (Aa (Ar (Aq (Gk k) fuel f19) (Aa (vr 4) (Zr []))) (Zr [])))) Ax) (Ac (Ea (Ay "list" Cq (dop ixD (vr 1) (N7 (Zr (.int 1)))) (Aa (Ar (Aq (Gk k) fuel f19) (Aa (vr 4) (Zr []))) (Zr [])))) Zn) (Wc k)) (rOr Ax Zn (Wc k)))
noncomputable def Rc (k:Nat):RM :=
 (rOr Ax (Ea (Ay "list" Em (vr 1) (Aa (Ci (Ji Ig (Aa (vr 5) (Zr []))) [none,none] (Av 1) (Zr true) (lstM (Zr []))) (Zr [])))) (rIf (Jg (Ag (dop gtD (Ar Dm (Aa (vr 1) (Zr []))) (dop Bk (Zr (.int 1)) (Zr (.int (30)))))) (Ag (dop geD (vr 6) (Ar Dm (Aa (vr 1) (Zr [])))))) (rOr (Ec "NoText" (Aa (Zr (.str "too deep, or not opened")) (Zr []))) (Ac SM.bad Zn) (Rb k)) (rOr Ax Zn (Rb k))))
noncomputable def Jz (k:Nat):RM :=
 (rOr Ax (Bg (Ay "str" Io (vr 2) (Aa (Zr (.str "(")) (Zr []))) (Av 3)) (rOr Ax (Bg (Ay "str" Ip (vr 3) (Aa (Zr (.str ")")) (Zr []))) (Av 4)) (rOr Ax (Bg (dop Vy (Ar Dm (Aa (vr 2) (Zr []))) (Ar Dm (Aa (vr 3) (Zr [])))) (Av 5)) (rOr Ax (Bg (dop Vy (Ar Dm (Aa (vr 3) (Zr []))) (Ar Dm (Aa (vr 4) (Zr [])))) (Av 6)) (rIf (Ia (Ag (dop eqD (vr 4) (Zr (.str "")))) (Jg (Ag (dop eqD (vr 5) (Zr (.int 0)))) (Ag (dop eqD (vr 6) (Zr (.int 0)))))) (rOr (Ec "NoText" (Aa (Zr (.str "a blank too many")) (Zr []))) (Ac SM.bad Zn) (Rc k)) (rOr Ax Zn (Rc k)))))))
noncomputable def Fe (k:Nat):SM :=
 (Ac (Bg (Ay "str" Io (vr 2) (Aa (Zr (.str "(")) (Zr []))) (Av 3)) (Ac (Bg (Ay "str" Ip (vr 3) (Aa (Zr (.str ")")) (Zr []))) (Av 4)) (Ac (Bg (dop Vy (Ar Dm (Aa (vr 2) (Zr []))) (Ar Dm (Aa (vr 3) (Zr [])))) (Av 5)) (Ac (Bg (dop Vy (Ar Dm (Aa (vr 3) (Zr []))) (Ar Dm (Aa (vr 4) (Zr [])))) (Av 6)) (Ac (ifS (Ia (Ag (dop eqD (vr 4) (Zr (.str "")))) (Jg (Ag (dop eqD (vr 5) (Zr (.int 0)))) (Ag (dop eqD (vr 6) (Zr (.int 0)))))) (Ac SM.bad Zn) Zn) (Ac (Ea (Ay "list" Em (vr 1) (Aa (Ci (Ji Ig (Aa (vr 5) (Zr []))) [none,none] (Av 1) (Zr true) (lstM (Zr []))) (Zr [])))) (Ac (ifS (Jg (Ag (dop gtD (Ar Dm (Aa (vr 1) (Zr []))) (dop Bk (Zr (.int 1)) (Zr (.int (30)))))) (Ag (dop geD (vr 6) (Ar Dm (Aa (vr 1) (Zr [])))))) (Ac SM.bad Zn) Zn) (Ac (ifS (Ag (dop neD (vr 4) (Zr (.str "")))) (Ac (Ea (Ay "list" Cq (dop ixD (vr 1) (N7 (Zr (.int 1)))) (Aa (Ar (Aq (Gk k) fuel f19) (Aa (vr 4) (Zr []))) (Zr [])))) Zn) Zn) (Ac (Ht (Ji Ig (Aa (vr 6) (Zr []))) (Av 7) (Mz k)) Zn)))))))))
noncomputable def r18 (k:Nat):RM :=
 (rOr Ax (Bg (lstM (Aa (lstM (Zr [])) (Zr []))) (Av 1)) (rOr (Qw (Cg (Ay "str" Gi (vr 0) (Aa (Zr (.str " ")) (Zr [])))) (Av 2) (Jz k) (Fe k)) (Ht (Cg (Ay "str" Gi (vr 0) (Aa (Zr (.str " ")) (Zr [])))) (Av 2)
 (Fe k)) (rIf (Ag (dop gtD (Ar Dm (Aa (vr 1) (Zr []))) (Zr (.int 1)))) (rOr (Ec "NoText" (Aa (Zr (.str "not closed")) (Zr []))) (Ac SM.bad
 Zn) (rOr Ax (retS (dop ixD (vr 1) (Zr (.int 0)))) Ax)) (rOr Ax Zn (rOr Ax (retS (dop ixD (vr 1) (Zr (.int 0)))) Ax)))))
theorem Wd (k:Nat):iR (Gk (k+1)) (Ek (k+1)) xcl fuel { N:=f18.N,scope:=f18.scope,own:=fun _=>true } f18.body=r18 k:=by kernel_rfl
noncomputable def b18 (k:Nat):SM :=
 (Ac (Bg (lstM (Aa (lstM (Zr [])) (Zr []))) (Av 1))
 (Ac (Ht (Cg (Ay "str" Gi (vr 0) (Aa (Zr (.str " ")) (Zr [])))) (Av 2)
 (Fe k))
 (Ac (ifS (Ag (dop gtD (Ar Dm (Aa (vr 1) (Zr []))) (Zr (.int 1))))
 (Ac SM.bad
  Zn)
 Zn)
 (Ac (retS (dop ixD (vr 1) (Zr (.int 0))))
 Zn))))
theorem gC (k:Nat):Bq f18 k=b18 k:=by kernel_rfl
noncomputable def Rf (k:Nat):RM :=
 (rOr Ax (Bg (dIf (Ag (dop eqD (dop ixD (vr 0) (Zr (.int 0))) (Zr (.str "-")))) (Jm (vr 0) (some (Zr (.int 1))) none) (vr 0)) (Av 1)) (rIf (Jg (Hg (Jh (Ar (Aq (Gk k) fuel f20) (Aa (vr 1) (Zr []))))) (Ag (dop eqD (vr 0) (Zr (.str "-0"))))) (rOr (Ec "NoText" (Aa (Zr (.str "no number and no word")) (Zr []))) (Ac SM.bad Zn) (rOr Ax (retS (Ar (orF intD Y0) (Aa (vr 0) (Zr [])))) Ax)) (rOr Ax Zn (rOr Ax (retS (Ar (orF intD Y0) (Aa (vr 0) (Zr [])))) Ax))))
noncomputable def Rg (k:Nat):RM :=
 (rIf (Jh (Ar Ym (Aa (Ci (Cg (vr 0)) [none,none] (Av 1) (Zr true) (dop (inX false) (vr 1) (Zr (.str "abcdefghijklmnopqrstuvwxyz")))) (Zr [])))) (rOr (rOr Ax (retS (vr 0)) Ax) (Ac (retS (vr 0)) Zn) (Rf k)) (rOr Ax Zn (Rf k)))
noncomputable def r19 (k:Nat):RM :=
 (rIf (Ag (Gh false Fz (vr 0))) (rOr (rOr Ax (retS (Mh Fz (vr 0))) Ax) (Ac (retS (Mh Fz (vr 0)))
 Zn) (Rg k)) (rOr Ax Zn (Rg k)))
theorem gD (k:Nat):iR (Gk (k+1)) (Ek (k+1)) xcl fuel { N:=f19.N,scope:=f19.scope,own:=fun _=>true } f19.body=r19 k:=by kernel_rfl
noncomputable def b19 (k:Nat):SM :=
 (Ac (ifS (Ag (Gh false Fz (vr 0)))
 (Ac (retS (Mh Fz (vr 0)))
  Zn)
 Zn)
 (Ac (ifS (Jh (Ar Ym (Aa (Ci (Cg (vr 0)) [none,none] (Av 1) (Zr true) (dop (inX false) (vr 1) (Zr (.str "abcdefghijklmnopqrstuvwxyz")))) (Zr []))))
 (Ac (retS (vr 0))
  Zn)
 Zn)
 (Ac (Bg (dIf (Ag (dop eqD (dop ixD (vr 0) (Zr (.int 0))) (Zr (.str "-")))) (Jm (vr 0) (some (Zr (.int 1))) none) (vr 0)) (Av 1))
 (Ac (ifS (Jg (Hg (Jh (Ar (Aq (Gk k) fuel f20) (Aa (vr 1) (Zr []))))) (Ag (dop eqD (vr 0) (Zr (.str "-0")))))
 (Ac SM.bad
  Zn)
 Zn)
 (Ac (retS (Ar (orF intD Y0) (Aa (vr 0) (Zr []))))
 Zn)))))
theorem gF (k:Nat):Bq f19 k=b19 k:=by kernel_rfl
noncomputable def b20 (k:Nat):SM :=
 (Ac (ifS (Jg (Hg (Ag (Hu leD leD (Zr (.int 1)) (Ar Dm (Aa (vr 0) (Zr []))) (Zr (.int (60)))))) (Hg (Jh (Ar Ym (Aa (Ci (Cg (vr 0)) [none,none] (Av 1) (Zr true) (dop (inX false) (vr 1) (Zr (.str "0123456789")))) (Zr []))))))
 (Ac (retS (Zr (.bl false)))
  Zn)
 Zn)
 (Ac (retS (Va (dop eqD (vr 0) (Zr (.str "0"))) (dop neD (dop ixD (vr 0) (Zr (.int 0))) (Zr (.str "0")))))
 Zn))
theorem gG (k:Nat):Bq f20 k=b20 k:=by kernel_rfl
noncomputable def b23 (k:Nat):SM :=
 (Ac (ifS (Ag (dop eqD (Ar Dm (Aa (vr 0) (Zr []))) (Zr (.int 1))))
 (Ac (Ea (Ay "list" Em (vr 0) (Aa (lstM (Aa (dop Vz (dop ixD (vr 0) (Zr (.int 0))) (Zr (.int 2147483647))) (Aa (Zr (.int 0)) (Zr [])))) (Zr []))))
  Zn)
 Zn)
 (Ac (ifS (Ag (dop gtD (dop ixD (vr 0) (Zr (.int 0))) (Zr (.int 0))))
 (Ac (Bg (dop Vz (dop ixD (vr 0) (Zr (.int 0))) (vr 1)) (Av 2))
  (Ac (Bg (dop W9 (dop ixD (vr 0) (Zr (.int 0))) (vr 1)) (Ma (vr 0) (Zr (.int 0))))
  (Ac (retS (vr 2))
  Zn)))
 Zn)
 (Ac (Bg (dop Bk (dop ixD (vr 0) (Zr (.int 2))) (Zr (.int 1))) (Ma (vr 0) (Zr (.int 2))))
 (Ac (Bg (dop Vz (dop Kr (dop Bk (dop Bk (dop ixD (vr 0) (Zr (.int 1))) (dop Kr (Zr (.int 7919)) (dop ixD (vr 0) (Zr (.int 2))))) (Zr (.int 1))) (Zr (.int 48271))) (Zr (.int 2147483647))) (Av 3))
 (Ac (Bg (dop Vz (dop Kr (vr 3) (dop Bk (dop W9 (vr 3) (Zr (.int 1009))) (Zr (.int 69621)))) (Zr (.int 2147483647))) (Av 3))
 (Ac (retS (dop Vz (dop Vz (dop Kr (vr 3) (dop Bk (dop W9 (vr 3) (Zr (.int 2003))) (Zr (.int 40692)))) (Zr (.int 2147483399))) (vr 1)))
 Zn))))))
theorem wW (k:Nat):Bq f23 k=b23 k:=by kernel_rfl
noncomputable def b24 (k:Nat):SM :=
 (Ac (Bg (Zr (.str "")) (Av 1))
 (Ac (Ht (Ji Ig (Aa (dop Bk (Zr (.int 1)) (Ar (Aq (Gk k) fuel f23) (Aa (vr 0) (Aa (Zr (.int 8)) (Zr []))))) (Zr []))) (Av 2)
 (Ac (Bg (dop Bk (vr 1) (dop ixD (Zr (.str "abcdefghijklmnopqrstuvwxyz")) (Ar (Aq (Gk k) fuel f23) (Aa (vr 0) (Aa (Zr (.int 26)) (Zr [])))))) (Av 1))
  Zn))
 (Ac (ifS (Ag (dop (inX false) (vr 1) (lstM (Aa (Zr (.str "none")) (Aa (Zr (.str "yes")) (Aa (Zr (.str "no")) (Zr [])))))))
 (Ac (retS (Zr (.str "word")))
  Zn)
 Zn)
 (Ac (retS (vr 1))
 Zn))))
theorem wX (k:Nat):Bq f24 k=b24 k:=by kernel_rfl
noncomputable def b25 (k:Nat):SM :=
 (Ac (Bg (Ar (Aq (Gk k) fuel f23) (Aa (vr 0) (Aa (Zr (.int 8)) (Zr [])))) (Av 2))
 (Ac (ifS (Ia (Ag (dop gtD (vr 2) (Zr (.int 4)))) (Ag (dop gtD (vr 1) (Zr (.int 0)))))
 (Ac (retS (Ar Hs (Aa (Ci (Ji Ig (Aa (Ar (Aq (Gk k) fuel f23) (Aa (vr 0) (Aa (Zr (.int 5)) (Zr [])))) (Zr []))) [none,none,some 1,some 0] (Av 1) (Zr true) (Ar (Aq (Gk k) fuel f25) (Aa (vr 3) (Aa (dop Vy (vr 2) (Zr (.int 1))) (Zr []))))) (Zr []))))
  Zn)
 Zn)
 (Ac (ifS (Ag (dop eqD (vr 2) (Zr (.int 1))))
 (Ac (retS (dop ixD (lstM (Aa (Zr .non) (Aa (Zr (.bl true)) (Aa (Zr (.bl false)) (Zr []))))) (Ar (Aq (Gk k) fuel f23) (Aa (vr 0) (Aa (Zr (.int 3)) (Zr []))))))
  Zn)
 Zn)
 (Ac (ifS (Ag (dop eqD (vr 2) (Zr (.int 2))))
 (Ac (retS (Ar (Aq (Gk k) fuel f24) (Aa (vr 0) (Zr []))))
  Zn)
 Zn)
 (Ac (Bg (Ar (Aq (Gk k) fuel f23) (Aa (vr 0) (Aa (dop ixD (lstM (Aa (Zr (.int 10)) (Aa (dop vI (Zr (.int 10)) (Zr (.int 12))) (Aa (dop vI (Zr (.int 10)) (Zr (.int 60))) (Zr []))))) (Ar (Aq (Gk k) fuel f23) (Aa (vr 0) (Aa (Zr (.int 3)) (Zr []))))) (Zr [])))) (Av 3))
 (Ac (retS (dop ixD (lstM (Aa (vr 3) (Aa (dop Vy (Zr (.int 0)) (vr 3)) (Zr [])))) (Ar (Aq (Gk k) fuel f23) (Aa (vr 0) (Aa (Zr (.int 2)) (Zr []))))))
 Zn))))))
theorem wY (k:Nat):Bq f25 k=b25 k:=by kernel_rfl
noncomputable def b26 (k:Nat):SM :=
 (Ac (ifS (Jh (mU "tuple" (vr 0)))
 (Ac (retS (dop Bk (dop Bk (Zr (.str "(")) (Ay "str" Ti (Zr (.str " ")) (Aa (Ci (Cg (vr 0)) [none,none] (Av 1) (Zr true) (Ar (Aq (Gk k) fuel f26) (Aa (vr 1) (Zr [])))) (Zr [])))) (Zr (.str ")"))))
  Zn)
 Zn)
 (Ac (ifS (Ag (dop (isX false) (vr 0) (Zr .non)))
 (Ac (retS (Zr (.str "none")))
  Zn)
 Zn)
 (Ac (ifS (Ag (dop (isX false) (vr 0) (Zr (.bl true))))
 (Ac (retS (Zr (.str "yes")))
  Zn)
 Zn)
 (Ac (ifS (Ag (dop (isX false) (vr 0) (Zr (.bl false))))
 (Ac (retS (Zr (.str "no")))
  Zn)
 Zn)
 (Ac (retS (Ar Tj (Aa (vr 0) (Zr []))))
 Zn)))))
theorem gH (k:Nat):Bq f26 k=b26 k:=by kernel_rfl
noncomputable def Aby (k:Nat):SM :=
 (Ac (Bg (Zr (.bl false)) (Av 1))
 (Ac (Zh (Aa (vr 0) (Zr [])) (Aq (Gk k) fuel f17) (Dq (Gk k) (Ek k) xcl fuel f17) "NoText" suM)
 (Ac (retS (vr 1))
 Zn)))
theorem oJ (k:Nat):iB (Gk (k+1)) (Ek (k+1)) td0 fuel { N:=f27.N,scope:=f27.scope,own:=fun _=>true } f27.body=Aby k:=by kernel_rfl
noncomputable def b28 (k:Nat):SM :=
 (Ac (Bg (lstM (Aa (dop Bk (Zr (.str " ")) (vr 0)) (Aa (dop Bk (vr 0) (Zr (.str " "))) (Aa (dop Bk (vr 0) (Zr (.str ")"))) (Aa (dop Bk (Zr (.str "(")) (vr 0)) (Aa (dop Bk (Zr (.str "( ")) (Jm (vr 0) (some (Zr (.int 1))) none)) (Aa (dop Bk (Jm (vr 0) none (some (N7 (Zr (.int 1))))) (Zr (.str " )"))) (Aa (dop Bk (vr 0) (Zr (.str "
"))) (Zr []))))))))) (Av 2))
 (Ac (Bg (dop Bk (vr 2) (lstM (Aa (dop Bk (dop Bk (vr 0) (Zr (.str " "))) (vr 0)) (Aa (dop Bk (vr 0) (vr 0)) (Aa (Jm (vr 0) none (some (N7 (Zr (.int 1))))) (Aa (dop Bk (Zr (.str "	")) (vr 0)) (Aa (dop Bk (dop Bk (dop Bk (dop Bk (Zr (.str "(")) (vr 0)) (Zr (.str "  "))) (vr 0)) (Zr (.str ")"))) (Zr [])))))))) (Av 2))
 (Ac (Bg (dop Bk (vr 2) (lstM (Aa (dop Bk (Zr (.str "+")) (Ar Tj (Aa (vr 1) (Zr [])))) (Aa (dop Bk (Zr (.str "0")) (Ar Tj (Aa (vr 1) (Zr [])))) (Aa (Zr (.str "-0")) (Aa (Zr (.str "Abc")) (Aa (Zr (.str "a-b")) (Aa (dop Bk (Ar Tj (Aa (vr 1) (Zr []))) (Zr (.str "x"))) (Aa (Zr (.str "(1,2)")) (Aa (Zr (.str "")) (Zr []))))))))))) (Av 2))
 (Ac (Bg (dop Bk (vr 2) (lstM (Aa (Zr (.str "((1)(2))")) (Aa (Zr (.str "(a1)")) (Aa (Zr (.str "(1	2)")) (Aa (Zr (.str "(1
2)")) (Aa (Zr (.str "-05")) (Aa (Zr (.str "1_0")) (Aa (Zr (.str "--5")) (Aa (Zr (.str "(1 2
)")) (Aa (Zr (.str "1
")) (Zr [])))))))))))) (Av 2))
 (Ac (Bg (dop Bk (vr 2) (lstM (Aa (dop Kr (Zr (.str "1")) (Zr (.int 61))) (Aa (dop Bk (Zr (.str "-")) (dop Kr (Zr (.str "1")) (Zr (.int 61)))) (Aa (dop Bk (dop Kr (Zr (.str "(")) (Zr (.int 31))) (dop Kr (Zr (.str ")")) (Zr (.int 31)))) (Aa (Zr (.str "-")) (Aa (Zr (.str "None")) (Aa (Zr (.str "a1")) (Aa (Zr (.str "[1]")) (Zr [])))))))))) (Av 2))
 (Ac (retS (dop Bk (vr 2) (lstM (Aa (Zr .non) (Aa (vr 1) (Aa (vJ (Aa (Zr (.str "a")) (Zr []))) (Aa (Zr (.bl true)) (Zr []))))))))
 Zn))))))
theorem wZ (k:Nat):Bq f28 k=b28 k:=by kernel_rfl
noncomputable def b29 (k:Nat):SM :=
 (Ac (Ht (Cg (Jm (vr 0) none (some (Zr (.int 12))))) (Av 1)
 (Ac (Bg (lstM (Aa (vr 1) (Zr []))) (Av 2))
  (Ac (Bg (vJ (Aa (Ar (Aq (Gk k) fuel f25) (Aa (vr 2) (Aa (Zr (.int 3)) (Zr [])))) (Aa (Ar (Aq (Gk k) fuel f23) (Aa (vr 2) (Aa (Zr (.int 9)) (Zr [])))) (Zr [])))) (Av 3))
  (Ac (Bg (Ar (Aq (Gk k) fuel f26) (Aa (vr 3) (Zr []))) (Av 4))
  (Ac (Ht (Cg (Ar (Aq (Gk k) fuel f28) (Aa (vr 4) (Aa (Ar (Aq (Gk k) fuel f23) (Aa (vr 2) (Aa (Zr (.int 1000)) (Zr [])))) (Zr []))))) (Av 5)
  (Ac (ifS (Hg (Jh (Ar (T3 (Gk k) (Ek k) td0 fuel f27) (Aa (vr 5) (Zr [])))))
   (Ac (retS (Zr (.bl false)))
    Zn)
   Zn)
   Zn))
  (Ac (ifS (Ag (dop neD (Ar (Aq (Gk k) fuel f17) (Aa (vr 4) (Zr []))) (vr 3)))
  (Ac (retS (Zr (.bl false)))
   Zn)
  Zn)
  Zn))))))
 (Ac (retS (Zr (.bl true)))
 Zn))
theorem xG (k:Nat):Bq f29 k=b29 k:=by kernel_rfl
noncomputable abbrev mk (l:List Nat):Str:=⟨l.toArray⟩
theorem mk_inj {a b:List Nat}(h:mk a=mk b):a=b:=congrArg (fun s:Str=>s.cps.toList) h
theorem Af (l:List Nat):(mk l).length=l.length:=rfl
theorem Bh (a b:List Nat):mk a++mk b=mk (a++b):=by
 show Str.append (mk a) (mk b)=_;unfold Str.append;congr 1;simp
noncomputable def Ab:List (List Nat)->List Nat
 | []=>[]
 | [x]=>x
 | x::y::r=>x++32::Ab (y::r)
theorem Rh:∀ ls:List (List Nat),Str.join (mk [32]) (ls.map mk)=mk (Ab ls)
 | []=>rfl
 | [x]=>rfl
 | x::y::r=>by
  show mk x++mk [32]++Str.join (mk [32]) ((y::r).map mk)=_;rw [Rh (y::r),Bh,Bh];simp only [Ab,List.append_assoc,List.singleton_append]
theorem gJ (ls:List (List Nat)):Txt.join (mk [32]) (ls.map mk)=mk (Ab ls):=(StrLaws.glued_eq_join _ _).trans (Rh ls)
theorem qM {u v:List Nat}:∀ {x y:List Nat},32 ∉ x->32 ∉ y->x++32::u=y++32::v->x=y/\u=v
 | [],[],_,_,e=>by simpa using e
 | [],b::y,_,hy,e=>by
  simp only [List.nil_append,List.cons_append,List.cons.injEq] at e;exact absurd (by rw [e.1];exact List.mem_cons_self) hy
 | a::x,[],hx,_,e=>by
  simp only [List.nil_append,List.cons_append,List.cons.injEq] at e;exact absurd (by rw [← e.1];exact List.mem_cons_self) hx
 | a::x,b::y,hx,hy,e=>by
  simp only [List.cons_append,List.cons.injEq] at e;obtain ⟨h1,h2⟩:=qM (fun z=>hx (List.mem_cons_of_mem _ z)) (fun z=>hy (List.mem_cons_of_mem _ z)) e.2;exact ⟨by rw [e.1,h1],h2⟩
theorem O6:∀ {a b:List (List Nat)},a≠[]->b≠[]->(∀ x∈a,32 ∉ x)->(∀ x∈b,32 ∉ x)->Ab a=Ab b->a=b
 | [],_,h,_,_,_,_=>absurd rfl h
 | _,[],_,h,_,_,_=>absurd rfl h
 | [x],[y],_,_,_,_,e=>by rw [show x=y from e]
 | [x],y::z::r,_,_,hx,_,e=>by
  have e:x=y++32::Ab (z::r):=e;exact absurd (by rw [e];simp) (hx x List.mem_cons_self)
 | x::w::r,[y],_,_,_,hy,e=>by
  have e:x++32::Ab (w::r)=y:=e;exact absurd (by rw [← e];simp) (hy y List.mem_cons_self)
 | x::w::r,y::z::s,_,_,hx,hy,e=>by
  have e:x++32::Ab (w::r)=y++32::Ab (z::s):=e;obtain ⟨h1,h2⟩:=qM (hx x List.mem_cons_self) (hy y List.mem_cons_self) e;rw [h1,O6 (by simp) (by simp) (fun q hq=>hx q (List.mem_cons_of_mem _ hq)) (fun q hq=>hy q (List.mem_cons_of_mem _ hq)) h2]
theorem gK (x y:Str):Txt.split x y≠[]:=by
 unfold Txt.split;split
 ·simp
 ·split
  ·simp
  ·rw [StrLaws.partsBetween_eq];obtain ⟨p,r,e⟩:=StrLaws.partsFrom_ne x y.length 0 (Builtin.Str.occurrences x y 0 x.length (x.length+1));rw [e];simp
theorem gM (ls:List (List Nat)) (h0:ls≠[]) (h:∀ x∈ls,32 ∉ x):Txt.split (mk (Ab ls)) (mk [32])=ls.map mk:=by
 have hj:=StrLaws.join_split (mk (Ab ls)) (mk [32]);have hf:=StrLaws.split_free (mk (Ab ls)) 32;have hn:=gK (mk (Ab ls)) (mk [32]);have hf:∀ p∈Txt.split (mk (Ab ls)) (mk [32]),32 ∉ p.cps.toList:=hf;generalize Txt.split (mk (Ab ls)) (mk [32])=ps at hj hf hn;have e:ps=(ps.map fun p:Str=>p.cps.toList).map mk:=by rw [List.map_map];exact (List.map_id' ps).symm
 rw [e] at hj ⊢;rw [Rh] at hj;rw [O6 (by simpa using hn) h0 (fun x hx=>by obtain ⟨p,hp,rfl⟩:=List.mem_map.mp hx;exact hf p hp) h (mk_inj hj)]
theorem qN (c k:Nat):∀ (r:List Nat),r.head?≠some c->((List.replicate k c++r).takeWhile (#[c]:Array Nat).contains).length=k:=by
 intro r hr
 induction k with
 | zero =>
  cases r with
  | nil=>rfl
  | cons a r =>
   have:(#[c]:Array Nat).contains a=false:=by
    have:a≠c:=fun z=>hr (by rw [z];rfl)
    simp [this]
   rw [List.replicate_zero,List.nil_append,List.takeWhile_cons,this];rfl
 | succ k ih =>
  rw [List.replicate_succ,List.cons_append,List.takeWhile_cons];have:(#[c]:Array Nat).contains c=true:=by simp
  rw [this];simp only [if_true,List.length_cons,ih]
theorem Zj (k:Nat) (c:List Nat) (hc:c.head?≠some 40):Txt.lstripChars (mk (List.replicate k 40++c)) (mk [40])=mk c:=by
 unfold Txt.lstripChars;rw [PyProof.Rows.stripBy_eq];have e:stripLo (mk [40]).cps.contains true (mk (List.replicate k 40++c))=k:=qN 40 k c hc;rw [e];show Str.mk _=_;congr 1;show (List.replicate k 40++c).toArray.extract k (List.replicate k 40++c).toArray.size=c.toArray;rw [List.extract_toArray];simp
theorem Zk (m:Nat) (c:List Nat) (hc:c.getLast?≠some 41):Txt.rstripChars (mk (c++List.replicate m 41)) (mk [41])=mk c:=by
 unfold Txt.rstripChars;rw [PyProof.Rows.stripBy_eq];have e:stripLo (mk [41]).cps.contains false (mk (c++List.replicate m 41))=0:=rfl;rw [e];have e2:stripHi (mk [41]).cps.contains true (mk (c++List.replicate m 41)) 0=c.length:=by
  show (mk (c++List.replicate m 41)).length - (((mk (c++List.replicate m 41)).cps.toList.drop 0).reverse.takeWhile (#[41]:Array Nat).contains).length=_;have:((mk (c++List.replicate m 41)).cps.toList.drop 0).reverse=List.replicate m 41++c.reverse:=by simp
  rw [this,qN 41 m c.reverse (by rw [List.head?_reverse];exact hc),Af,List.length_append,List.length_replicate];omega
 rw [e2];show Str.mk _=_;congr 1;show (c++List.replicate m 41).toArray.extract 0 c.length=c.toArray;rw [List.extract_toArray];simp
structure Pc where
 a:Nat
 c:List Nat
 v:D
 b:Nat
noncomputable def Pc.rend (p:Pc):List Nat:=List.replicate p.a 40++(p.c++List.replicate p.b 41)
noncomputable def opn:List Pc->List Pc
 | []=>[]
 | p::r=>{ p with a:=p.a+1 }::r
noncomputable def cls:List Pc->List Pc
 | []=>[]
 | [p]=>[{ p with b:=p.b+1 }]
 | p::q::r=>p::cls (q::r)
theorem Bx {l:List Pc}(h:l≠[]):opn l≠[]:=by cases l with | nil=>exact absurd rfl h | cons p r=>simp [opn]
theorem Bl:∀ {l:List Pc},l≠[]->cls l≠[]
 | [],h=>absurd rfl h
 | [_],_=>by simp [cls]
 | _::_::_,_=>by simp [cls]
noncomputable def txt (l:List Pc):List Nat:=Ab (l.map Pc.rend)
theorem Dr:∀ {l:List Pc},l≠[]->txt (opn l)=40::txt l
 | [],h=>absurd rfl h
 | [p],_=>by
  show Pc.rend { p with a:=p.a+1 }=40::Pc.rend p;unfold Pc.rend;rw [List.replicate_succ];rfl
 | p::q::r,_=>by
  show Pc.rend { p with a:=p.a+1 }++32::txt (q::r)=40::(Pc.rend p++32::txt (q::r));unfold Pc.rend;rw [List.replicate_succ];rfl
theorem G7:∀ {l:List Pc},l≠[]->txt (cls l)=txt l++[41]
 | [],h=>absurd rfl h
 | [p],_=>by
  show Pc.rend { p with b:=p.b+1 }=Pc.rend p++[41];unfold Pc.rend;rw [List.replicate_succ'];simp only [List.append_assoc]
 | p::q::r,_=>by
  have ih:=G7 (l:=q::r) (by simp);have hn:=Bl (l:=q::r) (by simp);show txt (p::cls (q::r))=_;cases hc:cls (q::r) with
  | nil=>exact absurd hc hn
  | cons s t =>
   rw [hc] at ih;show p.rend++32::txt (s::t)=(p.rend++32::txt (q::r))++[41];rw [ih];simp
theorem Ja:∀ {l m:List Pc},l≠[]->m≠[]->txt (l++m)=txt l++32::txt m
 | [],_,h,_=>absurd rfl h
 | [p],q::r,_,_=>rfl
 | p::q::r,m,_,hm=>by
  have ih:=Ja (l:=q::r) (m:=m) (by simp) hm;show p.rend++32::txt ((q::r)++m)=(p.rend++32::txt (q::r))++32::txt m;rw [ih];simp
 | _,[],_,hm=>absurd rfl hm
theorem Lb {l:List (List Pc)}(h0:l≠[]) (h:∀ x∈l,x≠[]):l.flatten≠[]:=by
 cases l with
 | nil=>exact absurd rfl h0
 | cons x r =>
  rw [List.flatten_cons];exact fun z=>h x List.mem_cons_self (List.append_eq_nil_iff.mp z).1
theorem M4:∀ {l:List (List Pc)},(∀ x∈l,x≠[])->Ab (l.map txt)=txt l.flatten
 | [],_=>rfl
 | [x],_=>by rw [List.flatten_cons,List.flatten_nil,List.append_nil];rfl
 | x::y::r,h=>by
  have ih:=M4 (l:=y::r) fun z hz=>h z (List.mem_cons_of_mem _ hz)
  have hn:=Lb (l:=y::r) (by simp) fun z hz=>h z (List.mem_cons_of_mem _ hz)
  show txt x++32::Ab ((y::r).map txt)=txt (x++(y::r).flatten);rw [ih,Ja (h x List.mem_cons_self) hn]
noncomputable abbrev Stk:=List (List D)
noncomputable def app (d:D):Stk->Stk
 | []=>[]
 | [x]=>[x++[d]]
 | x::y::r=>x::app d (y::r)
theorem Eg (d:D) (x:List D):∀ s:Stk,app d (s++[x])=s++[x++[d]]
 | []=>rfl
 | [y]=>rfl
 | y::z::r=>by
  show y::app d ((z::r)++[x])=_;rw [Eg d x (z::r)];rfl
noncomputable def shut (s:Stk):Stk:=app (.tup (s.getLast?.getD [])) s.dropLast
theorem Fg (s:Stk) (x:List D):shut (s++[x])=app (.tup x) s:=by
 unfold shut;rw [List.getLast?_concat,List.dropLast_concat];rfl
noncomputable def shuts:Nat->Stk->Stk
 | 0,s=>s
 | n+1,s=>shuts n (shut s)
theorem Hx:∀ (n:Nat) (s:Stk),shuts (n+1) s=shut (shuts n s)
 | 0,_=>rfl
 | n+1,s=>Hx n (shut s)
noncomputable def Pc.mid (p:Pc) (s:Stk):Stk:=if p.c=[] then s++List.replicate p.a [] else app p.v (s++List.replicate p.a [])
noncomputable def Pc.go (p:Pc) (s:Stk):Stk:=shuts p.b (p.mid s)
noncomputable def goes (l:List Pc) (s:Stk):Stk:=l.foldl (fun s p=>p.go s) s
theorem Ug {l:List Pc}(h:l≠[]) (s:Stk):goes (opn l) s=goes l (s++[[]]):=by
 cases l with
 | nil=>exact absurd rfl h
 | cons p r =>
  have e:s++List.replicate (p.a+1) ([]:List D)=(s++[[]])++List.replicate p.a []:=by
   rw [List.replicate_succ,List.append_assoc];rfl
  have e2:Pc.go { p with a:=p.a+1 } s=p.go (s++[[]]):=by
   unfold Pc.go Pc.mid;dsimp only;rw [e]
  show goes r (Pc.go { p with a:=p.a+1 } s)=goes r (p.go (s++[[]]));rw [e2]
theorem M5:∀ {l:List Pc},l≠[]->∀ s:Stk,goes (cls l) s=shut (goes l s)
 | [],h,_=>absurd rfl h
 | [p],_,s=>by
  show shuts (p.b+1) (p.mid s)=shut (shuts p.b (p.mid s));exact Hx _ _
 | p::q::r,_,s=>M5 (l:=q::r) (by simp) (p.go s)
theorem M6 (l m:List Pc) (s:Stk):goes (l++m) s=goes m (goes l s):=List.foldl_append
noncomputable def good:List Pc->Nat->Prop
 | [],_=>True
 | p::r,h=>(h+p.a<=31/\p.b < h+p.a/\(p.c=[]->p.a≠0/\p.b≠0))/\good r (h+p.a - p.b)
noncomputable def ends:List Pc->Nat->Nat
 | [],h=>h
 | p::r,h=>ends r (h+p.a - p.b)
theorem M7:∀ {l m:List Pc}{h:Nat},good l h->good m (ends l h)->good (l++m) h
 | [],_,_,_,g=>g
 | _::_,_,_,g,g2=>⟨g.1,M7 g.2 g2⟩
theorem ends_app:∀ (l m:List Pc) (h:Nat),ends (l++m) h=ends m (ends l h)
 | [],_,_=>rfl
 | p::r,m,h=>ends_app r m _
theorem Gq {l:List Pc}{h:Nat}(hl:l≠[]) (g:good l (h+1)):good (opn l) h/\ends (opn l) h=ends l (h+1):=by
 cases l with
 | nil=>exact absurd rfl hl
 | cons p r =>
  have e:h+(p.a+1)=h+1+p.a:=by omega
  refine ⟨⟨⟨by show h+(p.a+1)<=31;rw [e];exact g.1.1,by show p.b < h+(p.a+1);rw [e];exact g.1.2.1,fun z=>⟨by simp,(g.1.2.2 z).2⟩⟩,?_⟩,?_⟩
  ·show good r (h+(p.a+1) - p.b);rw [e];exact g.2
  ·show ends r (h+(p.a+1) - p.b)=ends r (h+1+p.a - p.b);rw [e]
theorem M8:∀ {l:List Pc}{h:Nat},l≠[]->good l h->2<=ends l h->good (cls l) h/\ends (cls l) h=ends l h - 1
 | [],_,h,_,_=>absurd rfl h
 | [p],h,_,g,e=>by
  have e:2<=h+p.a - p.b:=e;refine ⟨⟨⟨g.1.1,by show p.b+1 < h+p.a;omega,fun z=>⟨(g.1.2.2 z).1,by simp⟩⟩,trivial⟩,?_⟩;show h+p.a - (p.b+1)=h+p.a - p.b - 1;omega
 | p::q::r,h,_,g,e=>by
  have:=M8 (l:=q::r) (h:=h+p.a - p.b) (by simp) g.2 e;exact ⟨⟨g.1,this.1⟩,this.2⟩
local macro_rules | `(tactic| walk_at "s") => `(tactic| with_reducible first | refine Bw ?_ | refine V7 ?_ | refine fB ?_ | refine nW ?_ | refine Ua ?_ | refine V6 ?_ | refine Cu ?_ | refine nU ?_ | refine Mv (by with_unfolding_all rfl) ?_ | refine Ed ?_ | refine qI ?_ | refine nR ?_ | refine vY ?_ | refine vZ ?_ | refine eV ?_ | refine wA ?_ | refine V4 ?_ | refine fG ?_ | refine fH ?_ | refine Qy ?_ | refine V5 ?_ | refine Xh ?_ | refine nT ?_ | refine wB ?_ | refine wC ?_ | refine Aaf ?_ | refine eX ?_ | refine Xi ?_ | refine wM ?_ | refine eY ?_ | refine eZ ?_ | refine Q5 ?_ | refine Ju ?_ | refine Fx ?_ | refine wH ?_ | refine Aaj ?_ | refine wO ?_ | refine fL ?_ | refine fM ?_ | refine oG (by with_unfolding_all rfl) ?_ | refine oH (by with_unfolding_all rfl) ?_ | refine fO ?_ | refine wJ ?_ | refine V9 ?_ | refine nY ?_ | refine wK ?_ | refine wL ?_ | refine Wa (by with_unfolding_all rfl) (by with_unfolding_all rfl) ?_)
local macro_rules | `(tactic| walk_at "r") => `(tactic| repeat walk_at "s")
theorem Xm {ds:List D}{q:Prop}(h:ds.length<=1000000) (hq:q):ds.length<=1000000/\q:=⟨h,hq⟩
theorem Ri {h:MH}{j:Nat}{o:MO}(e:h[j]?=some o):j < h.length:=(List.getElem?_eq_some_iff.mp e).1
theorem gO (i:Int) {j:Int}(h:0 < j):0<=i.fmod j:=Int.fmod_nonneg_of_pos i h
theorem gP (i:Int) {j:Int}(h:0 < j):i.fmod j < j:=Int.fmod_lt_of_pos i h
theorem Xn (h:MH) (ds:List D):Dc (.ref h.length) (h++[.lst ds])=some ds:=by
 show (match (h++[MO.lst ds])[h.length]? with | some (.lst o)=>some o | _=>none)=_;rw [Az]
theorem Dj {h:MH}{j:Nat}{ds:List D}(e:h[j]?=some (.lst ds)):Dc (.ref j) h=some ds:=by
 show (match h[j]? with | some (.lst o)=>some o | _=>none)=_;rw [e]
theorem Eh (n:Nat):Cj 0 n=(List.range n).map Zi:=List.map_congr_left fun x _=>by show D.int (0+(x:Int))=D.int (x:Int);rw [Int.zero_add]
theorem M9 {n:Nat}{ds:List D}{j:Nat}{mh:MH}{P:D->MH->Prop}(e1:mh[n]?=some (.lst ds)) (hj:j < ds.length) (h:∀ d∈ds,P d mh):wV (ixD (.ref n) (.int j) mh) P:=Fb e1 (List.getElem?_eq_getElem hj) (h _ (List.getElem_mem hj))
theorem gQ {α:Type}{mi:DM Src}{cs:List (Option Nat)}{g:GM}{tc:DM Bool}{e:DM D}{loc:DL.Loc}{mh:MH}{Q:D->MH->Prop}(xs:List α) (F:α->D) (pr:α->Bool) (f:α->D) (hz:xs.length<=1000000)
  (hm:wD mi loc mh fun src h0=>Ext [] mh h0/\∀ h,Ext [] h0 h->src.ok h=true/\src.items h=xs.map F)
  (step:∀ x h {R:D->MH->Prop},x∈xs->Ext [] mh h->(∀ h',Ext [] h h'->R (f x) h')->wG (g (F x) (N5 cs loc) h) fun l1 h1=>h1=h/\wD tc l1 h fun c h2=>c=pr x/\h2=h/\(pr x=true->wD e l1 h R))
  (fin:∀ h,Ext [] mh h->Q (.ref h.length) (h++[.lst ((xs.filter pr).map f)])):wD (Ci mi cs g tc e) loc mh Q:=by
 refine K8 (Ak hm ?_);rintro src h0 ⟨x0,keep⟩;refine ⟨xs.map F,fun i acc h=>acc=((xs.take i).filter pr).map f/\i<=xs.length/\Ext [] h0 h,by rw [List.length_map];exact hz,⟨rfl,Nat.zero_le _,Ext.refl⟩,fun i acc h q=>keep h q.2.2,?_,?_,?_⟩
 ·rintro i acc h ⟨rfl,hi,_⟩;rw [List.length_map];refine Nat.le_trans (List.length_filter_le _ _) ?_;rw [List.length_take];omega
 ·rintro i d acc h ed ⟨rfl,hi,x⟩;rw [List.getElem?_map] at ed;cases ex:xs[i]? with
  | none=>rw [ex] at ed;cases ed
  | some y =>
   rw [ex] at ed;cases ed;have hl:=(List.getElem?_eq_some_iff.mp ex).1;have et:xs.take (i+1)=xs.take i++[y]:=by rw [List.take_add_one,ex];rfl
   obtain ⟨l1,h1,e1,rfl,c,h2,e2,rfl,rfl,q⟩:=step y h (R:=fun z h3=>((xs.take i).filter pr).map f++[z]=((xs.take (i+1)).filter pr).map f/\i+1<=xs.length/\Ext [] h0 h3\/pr y=false) (List.mem_of_getElem? ex) (x0.trans x) fun h' x'=>by
    cases hp:pr y with
    | false=>exact .inr rfl
    | true=>exact .inl ⟨by rw [et,List.filter_append,List.map_append];simp [hp],hl,x.trans x'⟩
   refine ⟨l1,_,e1,_,_,e2,fun hp=>?_,fun hp=>⟨?_,hl,x⟩⟩
   ·refine Ak (q hp) ?_;rintro z h3 (w | w)
    ·exact w
    ·rw [hp] at w;cases w
   ·rw [et,List.filter_append,List.map_append];simp [hp]
 ·rintro acc h ⟨rfl,hi,x⟩;rw [List.length_map,List.take_length];exact fin h (x0.trans x)
theorem Uh {α:Type}{mi:DM Src}{cs:List (Option Nat)}{g:GM}{e:DM D}{loc:DL.Loc}{mh:MH}{Q:D->MH->Prop}(xs:List α) (F:α->D) (f:α->D) (hz:xs.length<=1000000)
  (hm:wD mi loc mh fun src h0=>Ext [] mh h0/\∀ h,Ext [] h0 h->src.ok h=true/\src.items h=xs.map F)
  (step:∀ x h {R:D->MH->Prop},x∈xs->Ext [] mh h->(∀ h',Ext [] h h'->R (f x) h')->wG (g (F x) (N5 cs loc) h) fun l1 h1=>h1=h/\wD e l1 h R)
  (fin:∀ h,Ext [] mh h->Q (.ref h.length) (h++[.lst (xs.map f)])):wD (Ci mi cs g (Zr true) e) loc mh Q:=by
 refine gQ xs F (fun _=>true) f hz hm (fun x h R hx ex hR=>?_) fun h ex=>?_
 ·obtain ⟨l1,h1,e1,rfl,q⟩:=step x h hx ex hR;exact ⟨l1,_,e1,rfl,Ed ⟨rfl,rfl,fun _=>q⟩⟩
 ·have:=fin h ex;rw [List.filter_eq_self.mpr (fun _ _=>rfl)];exact this
theorem Xo {ds:List D}{α:Type}{xs:List α}{F:α->D}{mh:MH}(e:ds=xs.map F):Ext [] mh mh/\∀ h,Ext [] mh h->(Src.seq ds).ok h=true/\(Src.seq ds).items h=xs.map F:=⟨Ext.refl,fun _ _=>⟨rfl,e⟩⟩
inductive All2 {α β:Type} (R:α->β->Prop):List α->List β->Prop
 | nil:All2 R [] []
 | cons {a:α} {b:β} {l:List α} {m:List β}:R a b->All2 R l m->All2 R (a::l) (b::m)
section
variable {α β γ δ:Type}
theorem All2.imp {R S:α->β->Prop}(h:∀ x y,R x y->S x y):∀ {a:List α}{b:List β},All2 R a b->All2 S a b
 | _,_,.nil=>.nil
 | _,_,.cons r t=>.cons (h _ _ r) (All2.imp h t)
theorem All2.len {R:α->β->Prop}:∀ {a:List α}{b:List β},All2 R a b->a.length=b.length
 | _,_,.nil=>rfl
 | _,_,.cons _ t=>by rw [List.length_cons,List.length_cons,All2.len t]
theorem All2.app {R:α->β->Prop}:∀ {a:List α}{b:List β}{c:List α}{d:List β},All2 R a b->All2 R c d->All2 R (a++c) (b++d)
 | _,_,_,_,.nil,s=>s
 | _,_,_,_,.cons r t,s=>.cons r (All2.app t s)
theorem All2.zipm {R:α->β->Prop}:∀ {a:List α}{b:List β},All2 R a b->∀ z∈a.zip b,R z.1 z.2
 | _,_,.nil,z,h=>by cases h
 | _,_,.cons r t,z,h=>by
  rw [List.zip_cons_cons] at h;rcases List.mem_cons.mp h with rfl|h
  ·exact r
  ·exact All2.zipm t z h
theorem All2.mem_r {R:α->β->Prop}:∀ {a:List α}{b:List β},All2 R a b->∀ y∈b,∃ x∈a,R x y
 | _,_,.nil,y,h=>by cases h
 | _,_,.cons r t,y,h=>by
  rcases List.mem_cons.mp h with rfl|h
  ·exact ⟨_,List.mem_cons_self,r⟩
  ·obtain ⟨x,hx,q⟩:=All2.mem_r t y h;exact ⟨x,List.mem_cons_of_mem _ hx,q⟩
end
theorem xH {K:W.Frag}{H:Hp}{ρ:List Addr}{loc:DL.Loc}{σ:DL.St}(rl:RL K H ρ loc σ) (h6:σ.length=4) (v1 v2 v3:Option V):RL K H ρ (((loc.set 2 none).set 3 none).set 1 (some (.bl true))) (((((σ.set 2 v1).set 3 v2).set 3 v3).set 1 (some (.bl true))).set 2 none):=by
 refine ⟨by simp only [List.length_set];exact rl.1,fun j d e=>?_⟩;have l6:loc.length=4:=rl.1.trans h6
 by_cases j3:j=1
 ·subst j3;rw [List.getElem?_set_self (by simp only [List.length_set];omega)] at e;cases e;exact ⟨.bl true,by rw [List.getElem?_set_ne (by decide),List.getElem?_set_self (by simp only [List.length_set];omega)],.bl true⟩
 ·rw [List.getElem?_set_ne (Ne.symm j3)] at e
  by_cases j5:j=3
  ·subst j5;rw [List.getElem?_set_self (by simp only [List.length_set];omega)] at e;cases e
  ·rw [List.getElem?_set_ne (Ne.symm j5)] at e
   by_cases j4:j=2
   ·subst j4;rw [List.getElem?_set_self (by omega)] at e;cases e
   ·rw [List.getElem?_set_ne (Ne.symm j4)] at e;obtain ⟨v,e1,r⟩:=rl.2 j d e;exact ⟨v,by rw [List.getElem?_set_ne (Ne.symm j4),List.getElem?_set_ne (Ne.symm j3),List.getElem?_set_ne (Ne.symm j5),List.getElem?_set_ne (Ne.symm j5),List.getElem?_set_ne (Ne.symm j4)];exact e1,r⟩
theorem Ld {K:W.Frag}{H:Hp}{ρ:List Addr}:∀ n,RDs K H ρ (bls n) (List.replicate n (V.bl false))
 | 0=>.nil
 | n+1=>.cons (.bl false) (Ld n)
theorem oK (m:MH):mY [.ref m.length] (m++[.lst ((bls 4++bls 3)++bls 1)])=some (.bl false,m++[.lst ((bls 4++bls 3)++bls 1)]):=by
 have e:Dc (.ref m.length) (m++[.lst ((bls 4++bls 3)++bls 1)])=some ((bls 4++bls 3)++bls 1):=Xn _ _;show (match Dc (.ref m.length) (m++[.lst ((bls 4++bls 3)++bls 1)]) with | some ds=>(match boolsOf ds with | some bs=>some (D.bl (bs.any id),m++[MO.lst ((bls 4++bls 3)++bls 1)]) | none=>none) | none=>none)=_;rw [e];rfl
theorem Abz {K:W.Frag}{h:Heap}{mg:Str->Option Value}(Y:K.In h) (N:h.Ns mainGlobals mg) {C L A0 A1 A2 A3 A4 A6 A7 A8 A9:Addr}
  (qa:W.nsIn K mainGlobals "NoText"=some (some (.ref C))) (qb:W.excIn K C bmV "ValueError.__new__"=true)
  (qc:W.nsIn K mainGlobals "NoText"=some (some (.ref L))) (qd:W.excIn K L bmV "ValueError.__new__"=true)
  (qe:Js K C L=true) (qf:dF K C=true) (qi:W.nsIn K mainGlobals "isinstance"=some none) (qj:W.nsIn K mainGlobals "any"=some none)
  (g0:W.nsIn K mainGlobals "NoStep"=some (some (.ref A0))) (h0:W.kitOne K (.ref C) (.ref A0)=some false)
  (g1:W.nsIn K mainGlobals "NoMove"=some (some (.ref A1))) (h1:W.kitOne K (.ref C) (.ref A1)=some false)
  (g2:W.nsIn K mainGlobals "NoProgram"=some (some (.ref A2))) (h2:W.kitOne K (.ref C) (.ref A2)=some false)
  (g3:W.nsIn K mainGlobals "NoClaim"=some (some (.ref A3))) (h3:W.kitOne K (.ref C) (.ref A3)=some false)
  (g4:W.nsIn K mainGlobals "LetterError"=some (some (.ref A4))) (h4:W.kitOne K (.ref C) (.ref A4)=some true)
  (g5:W.nsIn K mainGlobals "ValueError"=some none) (h5:W.kitOne K (.ref C) (.type "ValueError")=some true)
  (g6:W.nsIn K mainGlobals "NoRenaming"=some (some (.ref A6))) (h6:W.kitOne K (.ref C) (.ref A6)=some false)
  (g7:W.nsIn K mainGlobals "NoTalk"=some (some (.ref A7))) (h7:W.kitOne K (.ref C) (.ref A7)=some false)
  (g8:W.nsIn K mainGlobals "CantKnow"=some (some (.ref A8))) (h8:W.kitOne K (.ref C) (.ref A8)=some false)
  (g9:W.nsIn K mainGlobals "NoLine"=some (some (.ref A9))) (h9:W.kitOne K (.ref C) (.ref A9)=some false) :
  dO K mg { N:=f27.N,scope:=f27.scope,own:=fun _=>true } td0:=by
 refine ⟨C,L,2,W.mg_of Y N qa,W.mg_of Y N qc,qb,qd,qe,by kernel_rfl,by kernel_rfl,fun X k G hK hM O=>?_⟩
 have n4:X.N[2]?=some ("e":Str):=by rw [O.N];kernel_rfl
 have n5:X.N[3]?=some ("_law_others":Str):=by rw [O.N];kernel_rfl
 have n3:X.N[1]?=some ("_law_found":Str):=by rw [O.N];kernel_rfl
 have nd:X.N.Nodup:=by rw [O.N];exact O.nd
 have nl:X.N.length=4:=by rw [O.N];exact Wb.2
 have ve:Vis X.env.scope "e":=O.vis (by kernel_rfl)
 have vo:Vis X.env.scope "_law_others":=O.vis (by kernel_rfl)
 have lo:X.env.scope.names.lookup ("_law_others":Str)=some .local:=by rw [O.sco];kernel_rfl
 have lf:X.env.scope.names.lookup ("_law_found":Str)=some .local:=by rw [O.sco];kernel_rfl
 have gi:Gl X "isinstance":=O.gl (by kernel_rfl)
 have mi:X.mg "isinstance"=none:=by rw [hM];exact W.mg_none_of Y N qi
 have ga:Gl X "any":=O.gl (by kernel_rfl)
 have ma:X.mg "any"=none:=by rw [hM];exact W.mg_none_of Y N qj
 subst hK;refine Zd O.xe fun a ob jx=>?_
 have own:∀ {c:Str} {A:Addr} {b:Bool} {p p2 p3 pos:Pos},Gl X c->X.mg c=some (.ref A)->(c==("__debug__":Str))=false->W.kitOne X.K (.ref C) (.ref A)=some b->PE (X.held a ob) (.Call (.Name "isinstance" p) [.Name "e" p2,.Name c p3] [] pos) (dI 2 a b):=fun hg hm hd hk =>
  Xb qb qf jx.1 gi mi n4 ve (by decide) (by decide) (cv:=.ref _) (Fo (X:=X.held a ob) hg hm rfl hd) (fun u r=>r) hk
 have mgo:∀ {c:Str} {A:Addr},W.nsIn X.K mainGlobals c=some (some (.ref A))->X.mg c=some (.ref A):=fun g=>by rw [hM];exact W.mg_of Y N g
 have c0:=fun {p p2 p3 pos}=>own (p:=p) (p2:=p2) (p3:=p3) (pos:=pos) (O.gl (x := "NoStep") (by kernel_rfl)) (mgo g0) (by decide) h0
 have c1:=fun {p p2 p3 pos}=>own (p:=p) (p2:=p2) (p3:=p3) (pos:=pos) (O.gl (x := "NoMove") (by kernel_rfl)) (mgo g1) (by decide) h1
 have c2:=fun {p p2 p3 pos}=>own (p:=p) (p2:=p2) (p3:=p3) (pos:=pos) (O.gl (x := "NoProgram") (by kernel_rfl)) (mgo g2) (by decide) h2
 have c3:=fun {p p2 p3 pos}=>own (p:=p) (p2:=p2) (p3:=p3) (pos:=pos) (O.gl (x := "NoClaim") (by kernel_rfl)) (mgo g3) (by decide) h3
 have c4:=fun {p p2 p3 pos}=>own (p:=p) (p2:=p2) (p3:=p3) (pos:=pos) (O.gl (x := "LetterError") (by kernel_rfl)) (mgo g4) (by decide) h4
 have c6:=fun {p p2 p3 pos}=>own (p:=p) (p2:=p2) (p3:=p3) (pos:=pos) (O.gl (x := "NoRenaming") (by kernel_rfl)) (mgo g6) (by decide) h6
 have c7:=fun {p p2 p3 pos}=>own (p:=p) (p2:=p2) (p3:=p3) (pos:=pos) (O.gl (x := "NoTalk") (by kernel_rfl)) (mgo g7) (by decide) h7
 have c8:=fun {p p2 p3 pos}=>own (p:=p) (p2:=p2) (p3:=p3) (pos:=pos) (O.gl (x := "CantKnow") (by kernel_rfl)) (mgo g8) (by decide) h8
 have c9:=fun {p p2 p3 pos}=>own (p:=p) (p2:=p2) (p3:=p3) (pos:=pos) (O.gl (x := "NoLine") (by kernel_rfl)) (mgo g9) (by decide) h9
 have c5:∀ {p p2 p3 pos:Pos},PE (X.held a ob) (.Call (.Name "isinstance" p) [.Name "e" p2,.Name "ValueError" p3] [] pos) (dI 2 a true):=fun {p p2 p3 pos} =>
  Xb qb qf jx.1 gi mi n4 ve (by decide) (by decide) (cv:=.ty "ValueError") (Ku (X:=X.held a ob) (O.gl (x := "ValueError") (by kernel_rfl)) (by rw [hM];exact W.mg_none_of Y N g5) (u:=.type "ValueError") (by decide +kernel) rfl) (fun u r=>r) h5
 have po:∀ {pos:Pos},PE (X.held a ob) (.Name "_law_others" pos) (xQ 3):=fun {pos}=>Uu (X:=X.held a ob) n5 vo
 have so:∀ {pos:Pos},PG (X.held a ob) (.Name "_law_others" pos) (Ry 3):=fun {pos}=>Kv (X:=X.held a ob) nd n5 (.inl lo) (.inr lo)
 have sf:∀ {pos:Pos},PG (X.held a ob) (.Name "_law_found" pos) (Ry 1):=fun {pos}=>Kv (X:=X.held a ob) nd n3 (.inl lf) (.inr lf)
 refine ⟨_,Cy (Li (Py (Be c0 (Be c1 (Be c2 (Be c3 Es))))) so)
  (Cy (Li (Z9 (Qh (X:=X.held a ob)) po (Py (Be c6 (Be c7 (Be c8 Es))))) so)
   (Cy (Li (Uv c4 (Uv c5 (Z1 (Z2 (Ge (X:=X.held a ob) (Zf jx) ga ma (by decide +kernel) (Be (Z9 (Qh (X:=X.held a ob)) po (Py (Be c9 Es))) Es)))))) sf) Wm)),fun σ H D hl q=>?_⟩
 obtain ⟨loc,mh,ρ,fl,loc',mh',q,rl,rs,co⟩:=q;cases q;rw [nl] at hl;have e4:(σ.set 2 (some (.ref a)))[2]?=some (some (V.ref a)):=List.getElem?_set_self (by omega);refine ⟨e4,e4,e4,e4,by decide,fun p1 hp1=>?_⟩;have rs1:=rs.newL hp1 (Ld 4);have ev1:Ev X.K H ρ (upd H p1 (.lst (List.replicate 4 (V.bl false)))) (ρ++[p1]):=Ev.newL hp1;have r1:RD X.K (upd H p1 (.lst (List.replicate 4 (V.bl false)))) (ρ++[p1]) (.ref mh.length) (.ref p1):=.ref (rs.last p1);have s1:((σ.set 2 (some (V.ref a))).set 3 (some (.ref p1)))[3]?=some (some (V.ref p1)):=List.getElem?_set_self (by rw [List.length_set];omega);have e41:((σ.set 2 (some (V.ref a))).set 3 (some (.ref p1)))[2]?=some (some (V.ref a)):=by rw [List.getElem?_set_ne (by decide)];exact e4
 refine ⟨_,s1,e41,e41,e41,by decide,fun p2 hp2=>?_⟩;have rs2:=rs1.newL hp2 (Ld 3);have ev2:Ev X.K (upd H p1 (.lst (List.replicate 4 (V.bl false)))) (ρ++[p1]) (upd (upd H p1 (.lst (List.replicate 4 (V.bl false)))) p2 (.lst (List.replicate 3 (V.bl false)))) ((ρ++[p1])++[p2]):=Ev.newL hp2;have r2:RD X.K (upd (upd H p1 (.lst (List.replicate 4 (V.bl false)))) p2 (.lst (List.replicate 3 (V.bl false)))) ((ρ++[p1])++[p2]) (.ref (mh++[MO.lst (bls 4)]).length) (.ref p2):=.ref (rs1.last p2);refine ⟨(ρ++[p1])++[p2],_,_,_,_,_,Mu (n:=mh.length) (m:=(mh++[MO.lst (bls 4)]).length) (xs:=bls 4) (ys:=bls 3) (by rw [List.getElem?_append_left (by simp)];exact Az) Az (by decide),rs2,r1.mono ev2,r2,fun H3 ρ3 v3 ev3 rs3 r3=>?_⟩;have s3:(((σ.set 2 (some (V.ref a))).set 3 (some (.ref p1))).set 3 (some v3))[3]?=some (some v3):=List.getElem?_set_self (by rw [List.length_set,List.length_set];omega);have e43:(((σ.set 2 (some (V.ref a))).set 3 (some (.ref p1))).set 3 (some v3))[2]?=some (some (V.ref a)):=by rw [List.getElem?_set_ne (by decide)];exact e41
 refine ⟨e43,true,rfl,Lq ⟨e43,true,rfl,Lq ⟨_,s3,e43,by decide,fun p4 hp4=>?_⟩⟩⟩;have rs4:=rs3.newL hp4 (Ld 1);have ev4:Ev X.K H3 ρ3 (upd H3 p4 (.lst (List.replicate 1 (V.bl false)))) (ρ3++[p4]):=Ev.newL hp4;have r4:RD X.K (upd H3 p4 (.lst (List.replicate 1 (V.bl false)))) (ρ3++[p4]) (.ref (((mh++[MO.lst (bls 4)])++[MO.lst (bls 3)])++[MO.lst (bls 4++bls 3)]).length) (.ref p4):=.ref (rs3.last p4);refine ⟨ρ3++[p4],_,_,_,_,_,Mu (n:=((mh++[MO.lst (bls 4)])++[MO.lst (bls 3)]).length) (m:=(((mh++[MO.lst (bls 4)])++[MO.lst (bls 3)])++[MO.lst (bls 4++bls 3)]).length) (xs:=bls 4++bls 3) (ys:=bls 1) (by rw [List.getElem?_append_left (by simp)];exact Az) Az (by decide),rs4,r3.mono ev4,r4,fun H5 ρ5 v5 ev5 rs5 r5=>?_⟩;refine ⟨ρ5,_,[.ref _],.bl false,_,oK _,rs5,.cons r5 .nil,fun H6 ρ6 v6 ev6 rs6 r6=>?_⟩;cases r6;exact ⟨false,rfl,co H6 ρ6 _ ((((ev1.trans ev2).trans ev3).trans (ev4.trans ev5)).trans ev6) rs6 (xH (rl.mono ((((ev1.trans ev2).trans ev3).trans (ev4.trans ev5)).trans ev6)) hl _ _ _)⟩
noncomputable def codes (s:String):List Nat:=s.toList.map Char.toNat
noncomputable def isWord (c:List Nat):Prop:=c≠[]/\c.length<=8/\(∀ x∈c,97<=x/\x<=122)/\c≠codes "none"/\c≠codes "yes"/\c≠codes "no"
noncomputable def Atm:D->List Nat->Prop
 | .non,c=>c=codes "none"
 | .bl b,c=>c=if b then codes "yes" else codes "no"
 | .int i,c=>i.natAbs < 10 ^ 60/\c=codes (toString i)
 | .str x,c=>x=mk c/\isWord c
 | _,_=>False
noncomputable def Tg:Nat->D->List Pc->Prop
 | 0,d,l=>∃ c,Atm d c/\l=[⟨0,c,d,0⟩]
 | n+1,d,l=>(∃ c,Atm d c/\l=[⟨0,c,d,0⟩])\/(d=.tup []/\l=[⟨1,[],.non,1⟩])\/∃ ds ls,ds≠[]/\d=.tup ds/\All2 (Tg n) ds ls/\l=opn (cls ls.flatten)
theorem G8 (m:Nat):codes (toString ((m:Nat):Int))=(Nat.toDigits 10 m).map Char.toNat:=by
 have:=W.KIN.signs_num m;rw [PyProof.Rows.signs_ofString] at this;exact this
theorem Zm {m:Nat}(h:0 < m):codes (toString (-(m:Int)))=45::(Nat.toDigits 10 m).map Char.toNat:=by
 obtain ⟨k,rfl⟩:∃ k,m=k+1:=⟨m - 1,by omega⟩
 have e:toString (-((k+1:Nat):Int)) = "-"++Nat.repr (k+1):=rfl
 unfold codes;rw [e,String.toList_append,List.map_append,Nat.toList_repr];rfl
theorem Wf (m:Nat):∀ c∈(Nat.toDigits 10 m).map Char.toNat,48<=c/\c<=57:=by
 intro c hc;obtain ⟨ch,hch,e⟩:=List.mem_map.mp hc;have r:=PyProof.Rows.digit_range (Nat.isDigit_of_mem_toDigits (by decide) (by decide) hch);rw [← e];exact r
theorem Le (m:Nat):(Nat.toDigits 10 m).map Char.toNat≠[]:=by
 intro e;have h:=PySem.toDigits_len_ge 10 m;rw [List.map_eq_nil_iff.mp e] at h;exact absurd h (by decide)
theorem Fi {m:Nat}(h:m < 10 ^ 60):((Nat.toDigits 10 m).map Char.toNat).length<=60:=by
 rw [List.length_map];exact PySem.toDigits_len_pow (by decide) (by decide) h
theorem Wg:∀ d:Nat,d < 10->(Nat.digitChar d).toNat=48+d:=by decide
theorem O7 (m:Nat) (h:0 < m):((Nat.toDigits 10 m).map Char.toNat).head?≠some 48:=by
 induction m using Nat.strongRecOn with
 | _ m ih =>
  by_cases hm:m < 10
  ·rw [Nat.toDigits_of_lt_base hm];show some (Nat.digitChar m).toNat≠some 48;rw [Wg m hm];simp;omega
  ·have hr:m % 10 < 10:=Nat.mod_lt m (by decide);have t:Nat.toDigits 10 (m / 10)++Nat.toDigits 10 (m % 10)=Nat.toDigits 10 (10 * (m / 10)+m % 10):=Nat.toDigits_append_toDigits (by decide) (by omega) hr;rw [Nat.div_add_mod] at t;have:=ih (m / 10) (by omega) (by omega);rw [← t,List.map_append,List.head?_append];cases hl:(Nat.toDigits 10 (m / 10)).map Char.toNat with
   | nil=>exact absurd hl (Le _)
   | cons a r=>rw [hl] at this;exact this
inductive Num:Int->List Nat->List Nat->Prop
 | pos (m:Nat):Num (m:Int) ((Nat.toDigits 10 m).map Char.toNat) ((Nat.toDigits 10 m).map Char.toNat)
 | neg (m:Nat):0 < m->Num (-(m:Int)) (45::(Nat.toDigits 10 m).map Char.toNat) ((Nat.toDigits 10 m).map Char.toNat)
theorem gR (i:Int):∃ f,Num i (codes (toString i)) f:=by
 rcases Int.le_total 0 i with h|h
 ·obtain ⟨m,rfl⟩:=Int.eq_ofNat_of_zero_le h;rw [G8];exact ⟨_,.pos m⟩
 ·obtain ⟨m,hm⟩:=Int.eq_ofNat_of_zero_le (show 0<=-i by omega);have e:i=-(m:Int):=by omega
  subst e
  by_cases h0:m=0
  ·subst h0;have:=G8 0;exact ⟨_,by rw [show codes (toString (-((0:Nat):Int)))=(Nat.toDigits 10 0).map Char.toNat from this];exact .pos 0⟩
  ·rw [Zm (by omega)];exact ⟨_,.neg m (by omega)⟩
theorem Atm.ok {d:D}{c:List Nat}(h:Atm d c):c≠[]/\c.length<=61/\∀ x∈c,45<=x/\x<=122:=by
 cases d with
 | non=>cases h;exact ⟨by decide,by decide,by decide⟩
 | bl b =>
  cases b
  ·cases h;exact ⟨by decide,by decide,by decide⟩
  ·cases h;exact ⟨by decide,by decide,by decide⟩
 | int i =>
  obtain ⟨hb,rfl⟩:=h;obtain ⟨f,n⟩:=gR i;generalize codes (toString i)=c at n;cases n with
  | pos m=>exact ⟨Le m,Nat.le_succ_of_le (Fi (by simpa using hb)),fun x hx=>by have:=Wf m x hx;omega⟩
  | neg m hm =>
   refine ⟨by simp,?_,fun x hx=>?_⟩
   ·rw [List.length_cons];exact Nat.succ_le_succ (Fi (by simpa using hb))
   ·rcases List.mem_cons.mp hx with rfl|hx
    ·omega
    ·have:=Wf m x hx;omega
 | str x =>
  obtain ⟨rfl,h1,h2,h3,_⟩:=h;exact ⟨h1,by omega,fun x hx=>by have:=h3 x hx;omega⟩
 | _=>exact h.elim
structure Said (n:Nat) (d:D) (l:List Pc):Prop where
 ne:l≠[]
 go:∀ (s:Stk) (x:List D),goes l (s++[x])=s++[x++[d]]
 good:∀ h,1<=h->h+n<=31->good l h/\ends l h=h
 pc:∀ p∈l,p.c=[]\/Atm p.v p.c
theorem Nb {P:List Nat->D->Prop}:∀ {l:List Pc},(∀ p∈l,P p.c p.v)->∀ p∈opn l,P p.c p.v
 | [],h,p,hp=>h p hp
 | q::r,h,p,hp=>by
  rcases List.mem_cons.mp hp with rfl|hp
  ·exact h q List.mem_cons_self
  ·exact h p (List.mem_cons_of_mem _ hp)
theorem Rj {P:List Nat->D->Prop}:∀ {l:List Pc},(∀ p∈l,P p.c p.v)->∀ p∈cls l,P p.c p.v
 | [],h,p,hp=>h p hp
 | [q],h,p,hp=>by
  rw [List.mem_singleton.mp hp];exact h q List.mem_cons_self
 | q::r::t,h,p,hp=>by
  rcases List.mem_cons.mp hp with rfl|hp
  ·exact h _ List.mem_cons_self
  ·exact Rj (l:=r::t) (fun p hp=>h p (List.mem_cons_of_mem _ hp)) p hp
theorem J0 {n:Nat}:∀ {ds:List D}{ls:List (List Pc)},All2 (Said n) ds ls->(∀ (s:Stk) (x:List D),goes ls.flatten (s++[x])=s++[x++ds])/\(∀ h,1<=h->h+n<=31->good ls.flatten h/\ends ls.flatten h=h)/\∀ p∈ls.flatten,p.c=[]\/Atm p.v p.c
 | _,_,.nil=>⟨fun s x=>by rw [List.append_nil];rfl,fun h _ _=>⟨trivial,rfl⟩,fun p hp=>by simp at hp⟩
 | d::ds,l::ls,.cons r t=>by
  obtain ⟨h1,h2,h3⟩:=J0 t;refine ⟨fun s x=>?_,fun h a b=>?_,fun p hp=>?_⟩
  ·rw [List.flatten_cons,M6,r.go,h1,List.append_assoc];rfl
  ·obtain ⟨g1,g2⟩:=r.good h a b;obtain ⟨g3,g4⟩:=h2 h a b;rw [List.flatten_cons];exact ⟨M7 g1 (by rw [g2];exact g3),by rw [ends_app,g2,g4]⟩
  ·rw [List.flatten_cons] at hp;rcases List.mem_append.mp hp with hp|hp
   ·exact r.pc p hp
   ·exact h3 p hp
theorem O8 {n:Nat}{d:D}{c:List Nat}(h:Atm d c):Said n d [⟨0,c,d,0⟩]:=by
 have hc:=h.ok.1;refine ⟨by simp,fun s x=>?_,fun h a b=>?_,fun p hp=>?_⟩
 ·show shuts 0 (if c=[] then (s++[x])++[] else app d ((s++[x])++[]))=_;rw [if_neg hc,List.append_nil];exact Eg d x s
 ·exact ⟨⟨⟨by show h+0<=31;omega,by show 0 < h+0;omega,fun z=>absurd z hc⟩,trivial⟩,rfl⟩
 ·rw [List.mem_singleton.mp hp];exact .inr h
theorem Tg.said:∀ {n:Nat}{d:D}{l:List Pc},Tg n d l->Said n d l:=by
 intro n
 induction n with
 | zero =>
  rintro d l ⟨c,ha,rfl⟩;exact O8 ha
 | succ n ih =>
  rintro d l (⟨c,ha,rfl⟩ | ⟨rfl,rfl⟩ | ⟨ds,ls,h0,rfl,ha,rfl⟩)
  ·exact O8 ha
  ·refine ⟨by simp,fun s x=>?_,fun h a b=>?_,fun p hp=>?_⟩
   ·show shut ((s++[x])++[[]])=_;rw [Fg,Eg]
   ·exact ⟨⟨⟨by show h+1<=31;omega,by show 1 < h+1;omega,fun _=>⟨by decide,by decide⟩⟩,trivial⟩,by show h+1 - 1=h;omega⟩
   ·rw [List.mem_singleton.mp hp];exact .inl rfl
  ·have hs:All2 (Said n) ds ls:=ha.imp fun _ _=>ih
   obtain ⟨h1,h2,h3⟩:=J0 hs;have hn:ls.flatten≠[]:=Lb (fun z=>h0 (by cases ha with | nil=>rfl | cons=>cases z)) fun x hx=>by obtain ⟨y,_,r⟩:=hs.mem_r x hx;exact r.ne
   refine ⟨Bx (Bl hn),fun s x=>?_,fun h a b=>?_,?_⟩
   ·rw [Ug (Bl hn),M5 hn,h1 (s++[x]) [],Fg,Eg];rfl
   ·obtain ⟨g1,g2⟩:=h2 (h+1) (by omega) (by omega);obtain ⟨g3,g4⟩:=M8 hn g1 (by omega);obtain ⟨g5,g6⟩:=Gq (Bl hn) g3;exact ⟨g5,by rw [g6,g4,g2];rfl⟩
   ·exact Nb (P:=fun c v=>c=[]\/Atm v c) (Rj (P:=fun c v=>c=[]\/Atm v c) h3)
theorem Ai (s:String):(Str.ofString s)=mk (codes s):=Str.ofString_eq_toList s
theorem mk_eq {a:List Nat}{s:String}:(mk a==Str.ofString s)=decide (a=codes s):=by
 rw [Ai,Bool.eq_iff_iff,beq_iff_eq,decide_eq_true_eq];exact ⟨mk_inj,fun e=>by rw [e]⟩
theorem Ep {a:List Nat}(h:∀ x∈a,x<=122):PyData.strOk (mk a)=true:=by
 unfold PyData.strOk;rw [Array.all_eq_true'];intro x hx;have:=h x (by simpa using hx);exact decide_eq_true (by omega)
theorem gU {a:List Nat}(h:∀ x∈a,x<=122):(mk a).cps.all (· < 128)=true:=by
 rw [Array.all_eq_true'];intro x hx;have:=h x (by simpa using hx);exact decide_eq_true (by omega)
theorem Rk (s:String) (c:Nat):Txt.contains (Str.ofString s) ⟨#[c]⟩=decide (c∈codes s):=by
 have:=StrLaws.found_one (Str.ofString s) c;rw [PyProof.Rows.signs_ofString] at this;exact this
local macro_rules | `(tactic| walk_at "x0") => `(tactic| repeat (first | walk_at "s" | with_reducible refine Xm (by simp) ?_ | with_reducible refine K9 (by decide) (by decide) ?_ | with_reducible refine Hw (by first | decide | omega) ?_))
theorem Nf {i:Nat}{loc:DL.Loc}{mh:MH}{c:List Nat}{s:String}{Q:D->MH->Prop}(hc:∀ x∈c,x<=122) (hl:c.length<=1000000) (el:loc[i]?=some (some (.str (mk c)))) (fin:∀ h,Ext [] mh h->Q (.bl (c.all fun x=>decide (x∈codes s))) h) :
  wD (Ci (Cg (vr i)) [none,none] (Av 1) (Zr true) (dop (inX false) (vr 1) (Zr (.str (Str.ofString s))))) loc mh fun x h1=>wD (Zr []) loc h1 fun xs h2=>wV (Ym (x::xs) h2) Q:=by
 refine Uh c (fun x=>.str ⟨#[x]⟩) (fun x=>.bl (decide (x∈codes s))) hl ?_ (fun x h' R hx ex hR=>?_) fun h ex=>?_
 ·exact oF (Mv el ⟨mk c,rfl,gU hc,Xo (by unfold signs;rfl)⟩)
 ·refine Fx ⟨rfl,?_⟩
  walk_at "x0"
  refine oE ?_;rw [Rk];exact hR h' Ext.refl
 ·walk_at "x0"
  refine fD (f:=fun bs=>bs.all id) (bs:=c.map fun x=>decide (x∈codes s)) ?_ ?_
  ·rw [Dj Az,List.map_map];rfl
  ·have e:((c.map fun x=>decide (x∈codes s)).all id)=c.all fun x=>decide (x∈codes s):=by rw [List.all_map];rfl
   rw [e];exact fin _ (ex.trans Ext.more)
theorem qO {c:List Nat}{s:String}(h:∀ x∈c,x∈codes s):(c.all fun x=>decide (x∈codes s))=true:=List.all_eq_true.mpr fun x hx=>decide_eq_true (h x hx)
theorem Wh:∀ x,97<=x/\x<=122->x∈codes "abcdefghijklmnopqrstuvwxyz":=by
 intro x hx
 have:∀ y:Fin 26,97+y.val∈codes "abcdefghijklmnopqrstuvwxyz":=by decide +kernel
 have h:=this ⟨x - 97,by omega⟩;rw [show 97+(x - 97)=x by omega] at h;exact h
theorem Wi:∀ x,48<=x/\x<=57->x∈codes "0123456789":=by
 intro x hx
 have:∀ y:Fin 10,48+y.val∈codes "0123456789":=by decide +kernel
 have h:=this ⟨x - 48,by omega⟩;rw [show 48+(x - 48)=x by omega] at h;exact h
theorem J1 {x:Nat}(h:x<=57):x ∉ codes "abcdefghijklmnopqrstuvwxyz":=by
 have:∀ y∈codes "abcdefghijklmnopqrstuvwxyz",97<=y:=by decide +kernel
 exact fun z=>by have:=this x z;omega
theorem O9 (k:Nat) (f:List Nat) (h0:f≠[]) (h1:f.length<=60) (hd:∀ x∈f,48<=x/\x<=57) (hz:f=[48]\/f.head?≠some 48) (mh:MH) {P:D->MH->Prop}(h:∀ h',Ext [] mh h'->P (.bl true) h'):wV (Aq (Gk (k+1)) fuel f20 [.str (mk f)] mh) P:=by
 refine Di (gG k) Q8.1 Q8.2 rfl ?_;show wS (b20 k) [some (.str (mk f))] mh _;unfold b20;have hl:1<=f.length:=List.length_pos_iff.mpr h0
 walk_at "x0"
 refine Cv (by rw [Af];omega) ?_
 walk_at "x0"
 rw [Af,decide_eq_true (show (1:Int)<=(f.length:Int) by omega)]
 walk_at "x0"
 rw [decide_eq_true (show (f.length:Int)<=60 by omega)]
 walk_at "x0"
 refine Nf (s := "0123456789") (fun x hx=>by have:=hd x hx;omega) (by omega) (by rfl) fun h1 x1=>?_
 rw [qO fun x hx=>Wi x (hd x hx)]
 walk_at "x0"
 have ok:PyData.strOk (mk f)=true:=Ep fun x hx=>by have:=hd x hx;omega
 refine Ef ok (by decide +kernel) mk_eq ?_
 walk_at "x0"
 by_cases h48:f=[48]
 ·rw [decide_eq_true (show f=codes "0" from h48)]
  walk_at "x0"
  exact h _ x1
 ·rw [decide_eq_false (show ¬ f=codes "0" from h48)]
  walk_at "x0"
  cases f with
  | nil=>exact absurd rfl h0
  | cons a r =>
   refine Jw (c:=a) (by rw [Af];omega) (Fq (j:=0) rfl) ?_
   walk_at "x0"
   have ha:a≠48:=fun z=>(hz.resolve_left h48) (by rw [z];rfl)
   refine My (k:=false) (Ep (a:=[a]) fun x hx=>by rw [List.mem_singleton.mp hx];have:=hd a List.mem_cons_self;omega) (by decide +kernel) ?_ ?_
   ·show (mk [a]==Str.ofString "0")=false;rw [mk_eq];exact decide_eq_false fun z=>ha (List.cons.inj z).1
   ·walk_at "x0"
    exact h _ x1
theorem Ng:∀ r:List Nat,(List.range r.length).filterMap (fun i=>r[i]?)=r
 | []=>rfl
 | a::r=>by
  rw [List.length_cons,List.range_succ_eq_map,List.filterMap_cons];show a::_=a::r;rw [List.filterMap_map];exact congrArg (a::·) (Ng r)
theorem gW (x:Nat) (r:List Nat):Jk (mk (x::r)) (some 1) none=mk r:=by
 have e:Builtin.Str.strSliceIndices (some 1) none 1 (mk (x::r)).length=(List.range r.length).map fun i=>i+1:=by
  show sliceRange (max 0 (min 1 ((x::r).length:Int))) ((x::r).length:Int) 1=_;rw [show max 0 (min 1 ((x::r).length:Int))=1 by rw [List.length_cons];omega];unfold sliceRange;rw [List.length_cons];have e1:(if (1:Int) > 0 then (if (1:Int) < ((r.length+1:Nat):Int) then (((r.length+1:Nat):Int) - 1+1 - 1) / 1 else 0) else (if (1:Int) > ((r.length+1:Nat):Int) then (1 - ((r.length+1:Nat):Int) - 1 - 1) / (-1) else 0)).toNat=r.length:=by
   rw [if_pos (by decide),Int.ediv_one];split <;> omega
  dsimp only;rw [e1];exact List.map_congr_left fun i _=>by omega
 unfold Jk;rw [e,if_neg (by rw [List.length_map,List.length_range,Af,List.length_cons];simp)];show Str.mk _=_;congr 1;congr 1;rw [List.filterMap_map];have e2:((fun y=>(mk (x::r)).cps[y]?) ∘ fun i=>i+1)=fun i=>r[i]?:=by
  funext i;show (x::r).toArray[i+1]?=r[i]?;rw [List.getElem?_toArray,List.getElem?_cons_succ]
 rw [e2];exact Ng r
theorem Nh {c:List Nat}(h:c≠codes "none"/\c≠codes "yes"/\c≠codes "no"):Fz.lookup (mk c)=none:=by
 unfold Fz;simp only [List.lookup]
 have e1:(mk c==Str.ofString "none")=false:=mk_eq.trans (decide_eq_false h.1)
 have e2:(mk c==Str.ofString "yes")=false:=mk_eq.trans (decide_eq_false h.2.1)
 have e3:(mk c==Str.ofString "no")=false:=mk_eq.trans (decide_eq_false h.2.2);rw [e1,e2,e3]
theorem gY {c:List Nat}(h:∀ x∈c,x<=57):c≠codes "none"/\c≠codes "yes"/\c≠codes "no":=by
 have n1:(110:Nat)∈codes "none":=by decide +kernel
 have n2:(121:Nat)∈codes "yes":=by decide +kernel
 have n3:(110:Nat)∈codes "no":=by decide +kernel
 exact ⟨fun e=>by rw [← e] at n1;exact absurd (h _ n1) (by decide),fun e=>by rw [← e] at n2;exact absurd (h _ n2) (by decide),fun e=>by rw [← e] at n3;exact absurd (h _ n3) (by decide)⟩
theorem run_plain (k:Nat) (d:D) (c:List Nat) (ha:Atm d c) (mh:MH) {P:D->MH->Prop}(h:∀ h',Ext [] mh h'->P d h'):wV (Aq (Gk (k+2)) fuel f19 [.str (mk c)] mh) P:=by
 have hok:=ha.ok;have ok:PyData.strOk (mk c)=true:=Ep fun x hx=>(hok.2.2 x hx).2
 refine Di (gF (k+1)) Q7.1 Q7.2 rfl ?_;show wS (b19 (k+1)) [some (.str (mk c)),none] mh _;unfold b19;cases d with
 | non =>
  cases ha
  walk_at "x0"
  refine ⟨_,rfl,?_⟩;refine ⟨_,rfl,fun _=>?_,fun z=>absurd z (by decide +kernel)⟩
  walk_at "x0"
  refine ⟨_,.non,rfl,by kernel_rfl,?_⟩
  walk_at "x0"
  exact h mh Ext.refl
 | bl b =>
  cases b
  ·cases ha
   walk_at "x0"
   refine ⟨_,rfl,?_⟩;refine ⟨_,rfl,fun _=>?_,fun z=>absurd z (by decide +kernel)⟩
   walk_at "x0"
   refine ⟨_,.bl false,rfl,by kernel_rfl,?_⟩
   walk_at "x0"
   exact h mh Ext.refl
  ·cases ha
   walk_at "x0"
   refine ⟨_,rfl,?_⟩;refine ⟨_,rfl,fun _=>?_,fun z=>absurd z (by decide +kernel)⟩
   walk_at "x0"
   refine ⟨_,.bl true,rfl,by kernel_rfl,?_⟩
   walk_at "x0"
   exact h mh Ext.refl
 | str x =>
  obtain ⟨rfl,w⟩:=ha
  walk_at "x0"
  refine ⟨_,rfl,?_⟩;rw [Nh w.2.2.2]
  walk_at "x0"
  refine Nf (s := "abcdefghijklmnopqrstuvwxyz") (fun x hx=>(hok.2.2 x hx).2) (by omega) (by rfl) fun h1 x1=>?_
  rw [qO fun x hx=>Wh x (w.2.2.1 x hx)]
  walk_at "x0"
  exact h h1 x1
 | int i =>
  obtain ⟨hb,rfl⟩:=ha;obtain ⟨f,nm⟩:=gR i;have small:∀ x∈codes (toString i),x<=57:=by
   generalize codes (toString i)=c at nm;cases nm with
   | pos m=>exact fun x hx=>(Wf m x hx).2
   | neg m hm =>
    intro x hx;rcases List.mem_cons.mp hx with rfl|hx
    ·decide
    ·exact (Wf m x hx).2
  have e1:=Nh (gY small)
  have e2:((codes (toString i)).all fun x=>decide (x∈codes "abcdefghijklmnopqrstuvwxyz"))=false:=by
   cases hc:codes (toString i) with
   | nil=>exact absurd hc hok.1
   | cons a r =>
    rw [List.all_cons,decide_eq_false (J1 (small a (by rw [hc];exact List.mem_cons_self)))];rfl
  walk_at "x0"
  refine ⟨_,rfl,?_⟩;rw [e1]
  walk_at "x0"
  refine Nf (s := "abcdefghijklmnopqrstuvwxyz") (fun x hx=>(hok.2.2 x hx).2) (by omega) (by rfl) fun h1 x1=>?_
  rw [e2]
  walk_at "x0"
  have hlen:(codes (toString i)).length<=61:=hok.2.1
  have fin:intText? (mk (codes (toString i)))=some i->∀ h2,Ext [] mh h2->wV (orF intD Y0 [.str (mk (codes (toString i)))] h2) P:=fun ei h2 x2=>⟨.int i,h2,by
   show (match PySem.intText? (mk (codes (toString i))) with | some n=>if (mk (codes (toString i))).length<=640 then some (D.int n,h2) else none | none=>none)=_;rw [ei];dsimp only
   rw [if_pos (by rw [Af];omega)],h h2 x2⟩
  generalize codes (toString i)=c at nm small e1 e2 hlen hok ok fin;cases nm with
  | pos m =>
   have hd:=Wf m;have hh:(Nat.toDigits 10 m).map Char.toNat=[48]\/((Nat.toDigits 10 m).map Char.toNat).head?≠some 48:=by
    rcases Nat.eq_zero_or_pos m with rfl|hm
    ·exact .inl rfl
    ·exact .inr (O7 m hm)
   have hl:=Fi (m:=m) (by simpa using hb);have hi:PySem.intText? (mk ((Nat.toDigits 10 m).map Char.toNat))=some (m:Int):=by
    have:=PySem.intText_digits (x:=mk ((Nat.toDigits 10 m).map Char.toNat)) hd hok.1 (by rw [Af];omega);rw [this];exact congrArg (fun z:Nat=>some (z:Int)) (W.KIN.val_back m)
   have fin:=fin hi;generalize (Nat.toDigits 10 m).map Char.toNat=c at *;cases c with
   | nil=>exact absurd rfl hok.1
   | cons a r =>
    have ha:=hd a List.mem_cons_self;refine Jw (c:=a) (by rw [Af];omega) (Fq (j:=0) rfl) ?_
    walk_at "x0"
    refine Ef (k:=false) (Ep (a:=[a]) fun x hx=>by rw [List.mem_singleton.mp hx];omega) (by decide +kernel) ?_ ?_
    ·show (mk [a]==Str.ofString "-")=false;rw [mk_eq];exact decide_eq_false fun z=>by have:a=45:=(List.cons.inj z).1;omega
    walk_at "x0"
    refine O9 k (a::r) (by simp) hl hd hh h1 fun h2 x2=>?_
    walk_at "x0"
    refine Ef (k:=false) ok (by decide +kernel) ?_ ?_
    ·rw [mk_eq];exact decide_eq_false fun z=>by have:a=45:=(List.cons.inj z).1;omega
    walk_at "x0"
    exact fin h2 (x1.trans x2)
  | neg m hm =>
   have hd:=Wf m;have hh:=O7 m hm;have hn:=Le m;have hl:=Fi (m:=m) (by simpa using hb);have hi:PySem.intText? (mk (45::(Nat.toDigits 10 m).map Char.toNat))=some (-(m:Int)):=by
    have:=PySem.intText_neg (x:=mk (45::(Nat.toDigits 10 m).map Char.toNat)) rfl hd hn (by rw [Af];omega);rw [this];exact congrArg (fun z:Nat=>some (-(z:Int))) (W.KIN.val_back m)
   have fin:=fin hi;generalize (Nat.toDigits 10 m).map Char.toNat=c at *;refine Jw (c:=45) (by rw [Af];omega) (Fq (j:=0) rfl) ?_
   walk_at "x0"
   refine Ef (k:=true) (by decide +kernel) (by decide +kernel) (by decide +kernel) ?_
   walk_at "x0"
   rw [List.length_cons] at hlen;refine Q0 (by rw [Af,List.length_cons];omega) (by rw [gW,Af];omega) ?_;rw [gW]
   walk_at "x0"
   refine O9 k c hn hl hd (.inr hh) h1 fun h2 x2=>?_
   walk_at "x0"
   refine Ef (k:=false) ok (by decide +kernel) ?_ ?_
   ·rw [mk_eq];exact decide_eq_false fun z=>hh (by rw [(List.cons.inj z).2];rfl)
   walk_at "x0"
   exact fin h2 (x1.trans x2)
 | _=>exact ha.elim
theorem gZ {α:Type}{l:List α}{x:α}:atI (l++[x]) (-1)=some x:=by
 unfold atI ixN;rw [if_neg (by decide),List.length_append,List.length_singleton,if_pos (by omega)];show (l++[x])[((-1:Int)+((l.length+1:Nat):Int)).toNat]?=some x;rw [show ((-1:Int)+((l.length+1:Nat):Int)).toNat=l.length by omega,List.getElem?_append_right (Nat.le_refl _),Nat.sub_self];rfl
section
variable {mh:MH}{P:D->MH->Prop}{n:Nat}{ds:List D}{x:D}
theorem J2 (e1:mh[n]?=some (.lst (ds++[x]))) (h:P x mh):wV (ixD (.ref n) (.int (-1)) mh) P:=⟨x,mh,by simp only [ixD,O2 e1,lJ,Dc,e1,gZ],h⟩
theorem oM (e1:mh[n]?=some (.lst (ds++[x]))) (h:P x (mh.set n (.lst ds))):wV (S6 (.ref n) [] mh) P:=⟨x,_,by
 simp only [S6,e1];rw [List.length_append,List.length_singleton,Nat.add_sub_cancel,List.getElem?_append_right (Nat.le_refl _),Nat.sub_self,List.dropLast_concat]
 rfl,h⟩
theorem Rm {m:Nat}{ys:List D}(e1:mh[n]?=some (.lst ds)) (e2:mh[m]?=some (.lst ys)) (hz:ds.length+ys.length<=1000000) (h:P .non (mh.set n (.lst (ds++ys)))):wV (Em (.ref n) [.ref m] mh) P:=⟨_,_,by
 simp only [Em,e1,e2]
 rw [if_pos (Nat.le_trans hz (by decide))],h⟩
end
section
variable {α β:Type}{R:α->β->Prop}
theorem All2.snoc {a:List α}{b:List β}{x:α}{y:β}(h:All2 R a b) (r:R x y):All2 R (a++[x]) (b++[y]):=h.app (.cons r .nil)
theorem All2.snoc_inv:∀ {b:List β}{a:List α}{y:β},All2 R a (b++[y])->∃ a' x,a=a'++[x]/\All2 R a' b/\R x y
 | [],_,_,.cons r .nil=>⟨[],_,rfl,.nil,r⟩
 | _::_,_,_,.cons r t=>by
  obtain ⟨a',x,rfl,h,q⟩:=All2.snoc_inv t;exact ⟨_::a',x,rfl,.cons r h,q⟩
theorem All2.impM:∀ {a:List α}{b:List β}{S:α->β->Prop},(∀ x∈a,∀ y,R x y->S x y)->All2 R a b->All2 S a b
 | _,_,_,_,.nil=>.nil
 | _,_,_,h,.cons r t=>.cons (h _ List.mem_cons_self _ r) (t.impM fun x hx=>h x (List.mem_cons_of_mem _ hx))
end
structure Rst (m0 h:MH) (jl js:Nat) (S:List D) (rs:List Nat) (st:Stk):Prop where
 x:Ext [] m0 h
 lo:m0.length<=jl
 los:∀ r∈rs,m0.length<=r
 ll:h[jl]?=some (.lst (rs.map D.ref))
 nin:jl ∉ rs
 nd:rs.Nodup
 all:All2 (fun r ds=>h[r]?=some (.lst ds)) rs st
 jsa:h[js]?=some (.lst S)
 njs:js≠jl/\js ∉ rs
section
variable {m0 h:MH}{jl js:Nat}{S:List D}{rs:List Nat}{st:Stk}
theorem Rst.ext {h':MH}(r:Rst m0 h jl js S rs st) (e:Ext [] h h'):Rst m0 h' jl js S rs st :=
 ⟨r.x.trans e,r.lo,r.los,e.old _ _ (by simp) r.ll,r.nin,r.nd,r.all.imp fun _ _ q=>e.old _ _ (by simp) q,e.old _ _ (by simp) r.jsa,r.njs⟩
theorem Rst.app {s:Stk}{x:List D}(q:Rst m0 h jl js S rs (s++[x])) (d:D):∃ rs' r,rs=rs'++[r]/\h[r]?=some (.lst x)/\h[jl]?=some (.lst (rs'.map D.ref++[.ref r]))/\Rst m0 (h.set r (.lst (x++[d]))) jl js S rs (s++[x++[d]]):=by
 obtain ⟨rs',r,rfl,ha,hr⟩:=q.all.snoc_inv;have hnd:=List.nodup_append.mp q.nd;have hne:∀ y∈rs',y≠r:=fun y hy=>hnd.2.2 y hy r List.mem_cons_self
 have hj:jl≠r:=fun z=>q.nin (by rw [z];simp)
 have hs:js≠r:=fun z=>q.njs.2 (by rw [z];simp)
 refine ⟨rs',r,rfl,hr,by rw [q.ll,List.map_append];rfl,⟨q.x.setNew (q.los r (by simp)),q.lo,q.los,?_,q.nin,q.nd,?_,?_,q.njs⟩⟩
 ·rw [List.getElem?_set_ne (Ne.symm hj)];exact q.ll
 ·refine (ha.impM fun y hy ds e=>?_).snoc (Jv hr);rw [List.getElem?_set_ne (Ne.symm (hne y hy))];exact e
 ·rw [List.getElem?_set_ne (Ne.symm hs)];exact q.jsa
theorem Rst.pop {s:Stk}{x:List D}(q:Rst m0 h jl js S rs (s++[x])):∃ rs' r,rs=rs'++[r]/\h[jl]?=some (.lst (rs'.map D.ref++[.ref r]))/\(h.set jl (.lst (rs'.map D.ref)))[r]?=some (.lst x)/\Rst m0 (h.set jl (.lst (rs'.map D.ref))) jl js S rs' s:=by
 obtain ⟨rs',r,rfl,ha,hr⟩:=q.all.snoc_inv;have hnd:=List.nodup_append.mp q.nd;have hj:jl≠r:=fun z=>q.nin (by rw [z];simp)
 have hj2:jl ∉ rs':=fun z=>q.nin (by simp [z])
 refine ⟨rs',r,rfl,by rw [q.ll,List.map_append];rfl,by rw [List.getElem?_set_ne hj];exact hr,⟨q.x.setNew q.lo,q.lo,fun y hy=>q.los y (by simp [hy]),Jv q.ll,hj2,hnd.1,?_,?_,⟨q.njs.1,fun z=>q.njs.2 (by simp [z])⟩⟩⟩
 ·refine ha.impM fun y hy ds e=>?_
  rw [List.getElem?_set_ne (fun z=>hj2 (by rw [z];exact hy))];exact e
 ·rw [List.getElem?_set_ne (Ne.symm q.njs.1)];exact q.jsa
theorem Xp {h:MH}:∀ {ns:List Nat},(∀ n∈ns,h[n]?=some (.lst []))->All2 (fun r ds=>h[r]?=some (.lst ds)) ns (List.replicate ns.length [])
 | [],_=>.nil
 | n::r,q=>.cons (q n List.mem_cons_self) (Xp fun m hm=>q m (List.mem_cons_of_mem _ hm))
theorem Rst.push (q:Rst m0 h jl js S rs st) {h':MH}(e:Ext [] h h') {ns:List Nat}(hn:ns.Nodup) (hf:∀ n∈ns,h.length<=n/\h'[n]?=some (.lst [])):Rst m0 (h'.set jl (.lst (rs.map D.ref++ns.map D.ref))) jl js S (rs++ns) (st++List.replicate ns.length []):=by
 have q':=q.ext e;have lt:∀ r∈rs,r < h.length:=by
  intro r hr;obtain ⟨i,hi,rfl⟩:=List.getElem_of_mem hr;have:∀ {a:List Nat} {b:Stk},All2 (fun r ds=>h[r]?=some (.lst ds)) a b->∀ r∈a,r < h.length:=by
   intro a b w
   induction w with
   | nil=>intro r hr;cases hr
   | cons z t ih =>
    intro r hr;rcases List.mem_cons.mp hr with rfl|hr
    ·exact Ri z
    ·exact ih r hr
  exact this q.all _ hr
 have hjl:jl < h.length:=Ri q.ll;have hjs:js < h.length:=Ri q.jsa;have njn:jl ∉ ns:=fun z=>by have:=(hf jl z).1;omega
 refine ⟨q'.x.setNew q.lo,q.lo,fun r hr=>?_,?_,fun z=>?_,?_,?_,?_,⟨q.njs.1,fun z=>?_⟩⟩
 ·rcases List.mem_append.mp hr with hr|hr
  ·exact q.los r hr
  ·have:=(hf r hr).1;have:=q.x.len;omega
 ·rw [Jv q'.ll,List.map_append]
 ·rcases List.mem_append.mp z with z|z
  ·exact q.nin z
  ·exact njn z
 ·refine List.nodup_append.mpr ⟨q.nd,hn,fun a ha b hb z=>?_⟩;have:=lt a ha;have:=(hf b hb).1;omega
 ·refine All2.app (q'.all.impM fun y hy ds e=>?_) (Xp fun n hn=>?_)
  ·rw [List.getElem?_set_ne (fun z=>q.nin (by rw [z];exact hy))];exact e
  ·rw [List.getElem?_set_ne (fun z=>njn (by rw [z];exact hn))];exact (hf n hn).2
 ·rw [List.getElem?_set_ne (Ne.symm q.njs.1)];exact q'.jsa
 ·rcases List.mem_append.mp z with z|z
  ·exact q.njs.2 z
  ·have:=(hf js z).1;omega
end
theorem Jb {α:Type}{s:List α}(h:1<=s.length):∃ t x,s=t++[x]:=by
 rcases List.eq_nil_or_concat s with rfl|⟨t,x,rfl⟩
 ·simp at h
 ·exact ⟨t,x,by simp⟩
theorem Ro (d:D):∀ s:Stk,(app d s).length=s.length
 | []=>rfl
 | [_]=>rfl
 | x::y::r=>by
  show (x::app d (y::r)).length=_;rw [List.length_cons,Ro d (y::r)];rfl
theorem iC {s:Stk}(h:1<=s.length):(shut s).length=s.length - 1:=by
 obtain ⟨t,x,rfl⟩:=Jb h;rw [Fg,Ro,List.length_append,List.length_singleton];omega
theorem J3:∀ {n:Nat}{s:Stk},n<=s.length->(shuts n s).length=s.length - n
 | 0,_,_=>rfl
 | n+1,s,h=>by
  show (shuts n (shut s)).length=_;have:=iC (s:=s) (by omega);rw [J3 (by omega),this];omega
theorem oN (p:Pc) (s:Stk):(p.mid s).length=s.length+p.a:=by
 unfold Pc.mid;split
 ·rw [List.length_append,List.length_replicate]
 ·rw [Ro,List.length_append,List.length_replicate]
noncomputable def wR (m:RM) (loc:DL.Loc) (mh:MH) (P:Option (Str×MH)->Prop):Prop:=P (m loc mh)
section
variable {loc:DL.Loc}{mh:MH}{P:Option (Str×MH)->Prop}{r r1 ra rb:RM}{m:SM}
theorem Gr {t:DM Bool}(h:wD t loc mh fun k h=>(k=true->wR ra loc h P)/\(k=false->wR rb loc h P)):wR (rIf t ra rb) loc mh P:=by
 obtain ⟨k,h',e,q1,q2⟩:=h;unfold wR rIf;rw [e];cases k with
 | true=>exact q1 rfl
 | false=>exact q2 rfl
theorem Dd (h:wS m loc mh fun f l h=>f=.nx/\wR r l h P):wR (rOr Ax m r) loc mh P:=by
 obtain ⟨f,l,h',e,rfl,q⟩:=h;unfold wR rOr V1 Ax;dsimp only;rw [e];exact q
theorem Fj (h:wR r loc mh P):wR (rOr Ax Zn r) loc mh P:=h
theorem Ni {c:Str×MH}(h:wR r1 loc mh fun z=>z=some c) (q:P (some c)):wR (rOr r1 m r) loc mh P:=by
 unfold wR at h;unfold wR rOr;rw [h];exact q
theorem iD (h0:r1 loc mh=none) (h:wS m loc mh fun f l h=>f=.nx/\wR r l h P):wR (rOr r1 m r) loc mh P:=by
 obtain ⟨f,l,h',e,rfl,q⟩:=h;unfold wR rOr V1;rw [h0];dsimp only;rw [e];exact q
theorem Ck {c:Str}{s:Str}(q:P (some (c,mh))):wR (rOr (Ec c (Aa (Zr (.str s)) (Zr []))) m r) loc mh P:=Ni (c:=(c,mh)) (by show Ec _ _ _ _=_;rfl) q
theorem iH {ma:DM (List D)}{f:Rn}(h:wD ma loc mh fun ds h=>P (f ds h)):wR (Oc ma f) loc mh P:=by
 obtain ⟨ds,h',e,q⟩:=h;unfold wR Oc;rw [e];exact q
theorem xJ {mo:DM D}(h:wD mo loc mh fun x h=>Sv "list" x h=true/\wR r loc h P):wR (Od mo r) loc mh P:=by
 obtain ⟨x,h',e,ht,q⟩:=h;unfold wR Od;rw [e];dsimp only;rw [if_pos ht];exact q
theorem iJ {src:Src}{g:GM}{ds:List D}{body:SM}(J:Nat->DL.Loc->MH->Prop) (keep:∀ i l h,J i l h->src.ok h=true/\src.items h=ds)
  (step:∀ i d l h,ds[i]?=some d->J i l h->wG (g d l h) fun l1 h1=>wR rb l1 h1 fun z=>(∀ y,z=some y->P (some y))/\(z=none->wS body l1 h1 fun f l h=>f=.nx/\J (i+1) l h)) (fin:∀ l h,J ds.length l h->P none) :
  ∀ (k i:Nat) (l:DL.Loc) (h:MH),i+k=ds.length->J i l h->P (forR src g rb body k i l h)
 | 0,i,l,h,e,j=>by
  have e:i=ds.length:=by omega
  subst e;exact fin l h j
 | k+1,i,l,h,e,j=>by
  have hi:i < ds.length:=by omega
  have eg:src.get h i=some ds[i]:=by
   unfold Src.get;rw [(keep _ _ _ j).2,List.getElem?_eq_getElem hi]
  obtain ⟨l1,h1,e1,q⟩:=step i ds[i] l h (List.getElem?_eq_getElem hi) j;unfold wR at q;simp only [forR,eg,e1];cases ez:rb l1 h1 with
  | some y=>exact q.1 y ez
  | none =>
   obtain ⟨f,l2,h2,e2,rfl,q2⟩:=q.2 ez;simp only [e2];exact iJ J keep step fin k (i+1) l2 h2 (by omega) q2
theorem xK {mi:DM Src}{g:GM}{body:SM}(h:wD mi loc mh fun src h0=>∃ ds,∃ J:Nat->DL.Loc->MH->Prop,J 0 loc h0/\(∀ i l h,J i l h->src.ok h=true/\src.items h=ds) /\
  (∀ i d l h,ds[i]?=some d->J i l h->wG (g d l h) fun l1 h1=>wR rb l1 h1 fun z=>(∀ y,z=some y->P (some y))/\(z=none->wS body l1 h1 fun f l h=>f=.nx/\J (i+1) l h))/\∀ l h,J ds.length l h->P none):wR (Qw mi g rb body) loc mh P:=by
 obtain ⟨src,h0,e,ds,J,j0,keep,step,fin⟩:=h;have el:(src.items h0).length=ds.length:=by rw [(keep _ _ _ j0).2]
 unfold wR Qw;rw [e];dsimp only;rw [el];exact iJ J keep step fin ds.length 0 loc h0 (by omega) j0
end
noncomputable def Xc (r:RM) (m:SM):Prop:=∀ loc mh z,r loc mh=some z->m loc mh=none
noncomputable def Xf (r:Rn) (f:Fn):Prop:=∀ ds mh z,r ds mh=some z->f ds mh=none
section
variable {r r1 r2 ra rb rf:RM}{m m1 m2 sa sb:SM}
theorem Xc.none (h:Xc r m) {loc:DL.Loc}{mh:MH}{z:Fl×DL.Loc×MH}(e:m loc mh=some z):r loc mh=none:=by
 cases q:r loc mh with
 | none=>rfl
 | some y=>rw [h loc mh y q] at e;cases e
theorem Bd:Xc Ax m:=fun _ _ _ h=>by cases h
theorem Jc {c:Str}{ma:DM (List D)}:Xc (Ec c ma) (Ac SM.bad m):=fun _ _ _ _=>rfl
theorem Df (h1:Xc r1 m1) (h2:Xc r2 m2):Xc (rOr r1 m1 r2) (Ac m1 m2):=fun loc mh z e=>by
 unfold rOr at e;unfold Ac;split at e
 ·rename_i y e1
  try rw [h1 _ _ _ e1]
 ·unfold V1 at e;split at e
  ·rename_i l h e2
   try rw [e2]
   exact h2 _ _ _ e
  ·cases e
theorem Nj {t:DM Bool}(ha:Xc ra sa) (hb:Xc rb sb) (h:Xc rf m):Xc (rIf t (rOr ra sa rf) (rOr rb sb rf)) (Ac (ifS t sa sb) m):=fun loc mh z e=>by
 unfold rIf at e;split at e
 ·rename_i k h0 et;have go:∀ {r2:RM} {s2:SM},Xc r2 s2->rOr r2 s2 rf loc h0=some z->ifS t sa sb loc mh=s2 loc h0->Ac (ifS t sa sb) m loc mh=none:=fun {r2 s2} h2 q e0=>by
   have:=Df h2 h _ _ _ q;unfold Ac at this ⊢
   try rw [e0]
   exact this
  cases k with
  | true=>exact go ha (by rw [if_pos rfl] at e;exact e) (by unfold ifS;rw [et];rfl)
  | false=>exact go hb (by rw [if_neg Bool.false_ne_true] at e;exact e) (by unfold ifS;rw [et];rfl)
 ·cases e
theorem Xq {src:Src}{g:GM}(h:Xc rb sb):∀ (k i:Nat) (loc:DL.Loc) (mh:MH) (z:Str×MH),forR src g rb sb k i loc mh=some z->Ii src g sb k i loc mh=none
 | 0,_,_,_,_,e=>by cases e
 | k+1,i,loc,mh,z,e=>by
  simp only [forR] at e;simp only [Ii];split at e
  ·cases e
  ·rename_i d ed
   try rw [ed]
   try dsimp only
   split at e
   ·cases e
   ·rename_i l1 h1 eg
    try rw [eg]
    try dsimp only
    split at e
    ·rename_i y ey
     try rw [h _ _ _ ey]
    ·split at e
     ·rename_i l2 h2 eb
      try rw [eb]
      exact Xq h k (i+1) l2 h2 z e
     ·cases e
theorem Wj {mi:DM Src}{g:GM}(h:Xc rb sb):Xc (Qw mi g rb sb) (Ht mi g sb):=fun loc mh z e=>by
 unfold Qw at e;unfold Ht;split at e
 ·rename_i src h0 ei
  try rw [ei]
  exact Xq h _ _ _ _ _ e
 ·cases e
variable {ma:DM (List D)}{rr:Rn}{f:Fn}
theorem iK (h:Xf rr f) {loc:DL.Loc}{mh:MH}{z:Str×MH}(e:Oc ma rr loc mh=some z):Ar f ma loc mh=none:=by
 unfold Oc at e;split at e
 ·rename_i ds h0 ea;unfold Ar DM.bnd Zl
  try rw [ea]
  exact h _ _ _ e
 ·cases e
theorem xM {mo:DM D}{mt:D->List D->MH->Option (D×MH)}(h:Xf rr f):Xc (Od mo (Oc ma rr)) (Ea (Ay "list" mt mo (Aa (Ar f ma) (Zr [])))):=fun loc mh z e=>by
 unfold Od at e;split at e
 ·rename_i x h0 eo;split at e
  ·rename_i ht;unfold Ea Ay DM.bnd
   try rw [eo]
   try dsimp only
   try rw [if_pos ht]
   have:Aa (Ar f ma) (Zr []) loc h0=none:=by
    unfold Aa DM.bnd
    try rw [iK h e]
   try rw [this]
  ·cases e
 ·cases e
theorem oO {mo:DM D}:Xc (Od mo Ax) m:=fun loc mh z e=>by
 unfold Od at e;split at e
 ·split at e <;> cases e
 ·cases e
end
theorem iM {k:Nat}{I:FnI}{r:RM}{b:SM}(hr:iR (Gk (k+1)) (Ek (k+1)) xcl fuel { N:=I.N,scope:=I.scope,own:=fun _=>true } I.body=r) (hb:iSs (Gk (k+1)) fuel { N:=I.N,scope:=I.scope,own:=fun _=>true } I.body=b) (h:Xc r b):Xf (Dq (Gk (k+1)) (Ek (k+1)) xcl fuel I) (Aq (Gk (k+1)) fuel I):=fun ds mh z e=>by
 unfold Dq at e;unfold Aq;split at e
 ·rename_i hl;rw [if_pos hl];rw [hr] at e;rw [hb,h _ _ _ e]
 ·cases e
theorem iQ (k:Nat):Xf (Dq (Gk (k+1)) (Ek (k+1)) xcl fuel f19) (Aq (Gk (k+1)) fuel f19):=by
 refine iM (gD k) (gF k) ?_;unfold r19 b19;refine Nj (Df Bd Bd) Bd ?_;unfold Rg;refine Nj (Df Bd Bd) Bd ?_;unfold Rf;exact Df Bd (Nj Jc Bd (Df Bd Bd))
theorem Nk (k:Nat):Xc (Jz (k+1)) (Fe (k+1)):=by
 unfold Jz Fe;refine Df Bd (Df Bd (Df Bd (Df Bd (Nj Jc Bd ?_))));unfold Rc;refine Df Bd (Nj Jc Bd ?_);unfold Rb;refine Nj (Df (xM (iQ k)) Bd) Bd ?_;unfold Wc;refine Df (Wj ?_) Bd;unfold gB Mz;exact Df Bd (Df oO Bd)
theorem Zo (k:Nat):Xf (Dq (Gk (k+2)) (Ek (k+2)) xcl fuel f18) (Aq (Gk (k+2)) fuel f18):=by
 refine iM (Wd (k+1)) (gC (k+1)) ?_;unfold r18 b18;exact Df Bd (Df (Wj (Nk k)) (Nj Jc Bd (Df Bd Bd)))
theorem Gs:∀ ls:List (List Nat),ls.length<=(Ab ls).length+1
 | []=>by simp
 | [x]=>by simp
 | x::y::r=>by
  have:=Gs (y::r);show _<=(x++32::Ab (y::r)).length+1;simp only [List.length_append,List.length_cons] at this ⊢;omega
theorem Zq (a b:Str) (c:List Nat):(Builtin.Str.partsBetween a c b.length).length<=c.length+1:=by
 unfold Builtin.Str.partsBetween;rw [List.length_map,List.length_zip,List.length_cons,List.length_map];omega
theorem Zt {ls:List (List Nat)}{mh:MH}{P:D->MH->Prop}(h0:ls≠[]) (hf:∀ x∈ls,32 ∉ x) (hB:(Ab ls).length<=1000000) (h:P (.ref mh.length) (mh++[.lst (ls.map fun x=>.str (mk x))])):wV (Gi (.str (mk (Ab ls))) [.str (Str.ofString " ")] mh) P:=⟨_,_,by
 have e:(Str.ofString " ")=mk [32]:=by rw [Ai];rfl
 rw [e];have es:=gM ls h0 hf;show (if (1<=(mk [32]).length/\(mk (Ab ls)).length<=sizeLine)/\((Builtin.Str.partsBetween (mk (Ab ls)) (Builtin.Str.occurrences (mk (Ab ls)) (mk [32]) 0 (mk (Ab ls)).length ((mk (Ab ls)).length+1)) (mk [32]).length).length<=sizeLine/\(Txt.split (mk (Ab ls)) (mk [32])).length<=sizeLine) then some (D.ref mh.length,mh++[.lst ((Txt.split (mk (Ab ls)) (mk [32])).map D.str)]) else none)=_;rw [es,if_pos,List.map_map]
 ·rfl
 ·have h1:=Zq (mk (Ab ls)) (mk [32]) (Builtin.Str.occurrences (mk (Ab ls)) (mk [32]) 0 (mk (Ab ls)).length ((mk (Ab ls)).length+1));have h2:=StrLaws.occ_length_le (mk (Ab ls)) (mk [32]) 0 (mk (Ab ls)).length ((mk (Ab ls)).length+1);have h3:=Gs ls;have h4:sizeLine=16777216:=rfl;rw [Af] at h2;rw [List.length_map,Af,h4];rw [Af] at h1;refine ⟨⟨by decide,by show (Ab ls).length<=16777216;omega⟩,?_,by omega⟩;refine Nat.le_trans h1 ?_
  omega,h⟩
theorem Er {p:Pc}(h:p.c=[]\/Atm p.v p.c):(∀ x∈p.c,45<=x/\x<=122)/\p.c.length<=61:=by
 rcases h with h|h
 ·rw [h];exact ⟨by simp,by simp⟩
 ·exact ⟨h.ok.2.2,h.ok.2.1⟩
theorem Rp {p:Pc}(h:p.c=[]\/Atm p.v p.c):32 ∉ p.rend:=by
 unfold Pc.rend;have:=(Er h).1;intro z;rcases List.mem_append.mp z with z|z
 ·exact absurd (List.eq_of_mem_replicate z) (by decide)
 ·rcases List.mem_append.mp z with z|z
  ·have:=this _ z;omega
  ·exact absurd (List.eq_of_mem_replicate z) (by decide)
theorem Xr {c:List Nat}(h:∀ x∈c,45<=x/\x<=122) (b:Nat):(c++List.replicate b 41).head?≠some 40:=by
 intro z;have:40∈c++List.replicate b 41:=List.mem_of_mem_head? z;rcases List.mem_append.mp this with z|z
 ·have:=h _ z;omega
 ·exact absurd (List.eq_of_mem_replicate z) (by decide)
theorem Xu {c:List Nat}(h:∀ x∈c,45<=x/\x<=122):c.getLast?≠some 41:=by
 intro z;have:=h _ (List.mem_of_mem_getLast? z);omega
theorem iU {k:Nat}{c:List Nat}{mh:MH}{P:D->MH->Prop}(hc:c.head?≠some 40) (hz:k+c.length<=1000000) (h:P (.str (mk c)) mh):wV (Io (.str (mk (List.replicate k 40++c))) [.str (Str.ofString "(")] mh) P:=⟨_,_,by
 have e:(Str.ofString "(")=mk [40]:=by rw [Ai];rfl
 rw [e];show (if (mk (List.replicate k 40++c)).length<=sizeLine then some (D.str (Txt.lstripChars (mk (List.replicate k 40++c)) (mk [40])),mh) else none)=_;rw [Zj k c hc,if_pos];rw [Af,List.length_append,List.length_replicate]
 exact Nat.le_trans hz (by decide),h⟩
theorem iV {k:Nat}{c:List Nat}{mh:MH}{P:D->MH->Prop}(hc:c.getLast?≠some 41) (hz:c.length+k<=1000000) (h:P (.str (mk c)) mh):wV (Ip (.str (mk (c++List.replicate k 41))) [.str (Str.ofString ")")] mh) P:=⟨_,_,by
 have e:(Str.ofString ")")=mk [41]:=by rw [Ai];rfl
 rw [e];show (if (mk (c++List.replicate k 41)).length<=sizeLine then some (D.str (Txt.rstripChars (mk (c++List.replicate k 41)) (mk [41])),mh) else none)=_;rw [Zk k c hc,if_pos];rw [Af,List.length_append,List.length_replicate]
 exact Nat.le_trans hz (by decide),h⟩
noncomputable def bnd (N:Nat) (s:Stk):Prop:=∀ x∈s,x.length<=N
theorem bnd.app {N:Nat}(d:D):∀ {s:Stk},bnd N s->bnd (N+1) (app d s)
 | [],h=>fun x hx=>by cases hx
 | [y],h=>fun x hx=>by
  rw [List.mem_singleton.mp hx,List.length_append,List.length_singleton];exact Nat.succ_le_succ (h y List.mem_cons_self)
 | y::z::r,h=>fun x hx=>by
  rcases List.mem_cons.mp hx with rfl|hx
  ·exact Nat.le_succ_of_le (h x List.mem_cons_self)
  ·exact bnd.app d (s:=z::r) (fun q hq=>h q (List.mem_cons_of_mem _ hq)) x hx
theorem bnd.shut {N:Nat}{s:Stk}(h:bnd N s):bnd (N+1) (shut s):=bnd.app _ fun x hx=>h x (List.mem_of_mem_take (by rw [List.dropLast_eq_take] at hx;exact hx))
theorem bnd.shuts:∀ {n N:Nat}{s:Stk},bnd N s->bnd (N+n) (shuts n s)
 | 0,_,_,h=>h
 | n+1,N,s,h=>by
  have:=bnd.shuts (n:=n) h.shut;rw [show N+(n+1)=N+1+n by omega];exact this
theorem bnd.rep {N a:Nat}{s:Stk}(h:bnd N s):bnd N (s++List.replicate a []):=fun x hx=>by
 rcases List.mem_append.mp hx with hx|hx
 ·exact h x hx
 ·rw [List.eq_of_mem_replicate hx];exact Nat.zero_le _
theorem bnd.mid {N:Nat}{s:Stk}(p:Pc) (h:bnd N s):bnd (N+1) (p.mid s):=by
 unfold Pc.mid;split
 ·exact fun x hx=>Nat.le_succ_of_le (h.rep x hx)
 ·exact bnd.app _ h.rep
theorem Zu (k N:Nat) (p:Pc) (tx:D) (hp:p.c=[]\/Atm p.v p.c) (hi0:N+32<=900000) {mh h4:MH}{jl js:Nat}{S:List D}{rs:List Nat}{st:Stk}{x3 x4 x5 x6 x7 x8:Option D}(r:Rst mh h4 jl js S rs st) (s1:1<=st.length) (g1:st.length+p.a<=31) (g2:p.b < st.length+p.a) (g3:p.c=[]->p.a≠0/\p.b≠0) (bd:bnd N st) :
  wS (Fe (k+2)) [some tx,some (.ref jl),some (.str (mk p.rend)),x3,x4,x5,x6,x7,x8] h4 fun f l h=>f=.nx/\∃ x2 x3 x4 x5 x6 x7 x8 ru,l=[some tx,some (.ref jl),x2,x3,x4,x5,x6,x7,x8]/\Rst mh h jl js S ru (p.go st)/\bnd (N+32) (p.go st)/\(p.go st).length=st.length+p.a - p.b:=by
 obtain ⟨hc1,hc2⟩:=Er hp;have ok:PyData.strOk (mk p.c)=true:=Ep fun x hx=>(hc1 x hx).2
 have er:p.rend=List.replicate p.a 40++(p.c++List.replicate p.b 41):=rfl;have l1:(mk (List.replicate p.a 40++(p.c++List.replicate p.b 41))).length=p.a+(p.c.length+p.b):=by rw [Af];simp
 have l2:(mk (p.c++List.replicate p.b 41)).length=p.c.length+p.b:=by rw [Af];simp
 rw [er];unfold Fe
 walk_at "x0"
 refine ⟨rfl,?_⟩
 walk_at "x0"
 refine iU (Xr hc1 p.b) (by simp;omega) ?_
 walk_at "x0"
 refine ⟨rfl,?_⟩
 walk_at "x0"
 refine iV (Xu hc1) (by omega) ?_
 walk_at "x0"
 refine Cv (by rw [l1];omega) ?_
 walk_at "x0"
 refine Cv (by rw [l2];omega) ?_
 walk_at "x0"
 rw [l1,l2,show (((p.a+(p.c.length+p.b):Nat):Int) - ((p.c.length+p.b:Nat):Int))=(p.a:Int) by omega];refine Cv (by rw [l2];omega) ?_
 walk_at "x0"
 refine Cv (by rw [Af];omega) ?_;rw [l2,Af];refine V9 ?_;rw [show (((p.c.length+p.b:Nat):Int) - (p.c.length:Int))=(p.b:Int) by omega];refine Fx (Cu (Bw (Ua (Ak (P:=fun c h1=>c=false/\h1=h4) ?_ ?_))))
 ·walk_at "x0"
  refine Ef ok (by decide +kernel) mk_eq ?_
  by_cases h0:p.c=[]
  ·rw [decide_eq_true (show p.c=codes "" from h0)];obtain ⟨n1,n2⟩:=g3 h0;have e1:((p.a:Int)==0)=false:=beq_false_of_ne (by omega);have e2:((p.b:Int)==0)=false:=beq_false_of_ne (by omega)
   walk_at "x0"
   rw [e1]
   walk_at "x0"
   rw [e2];exact ⟨rfl,rfl⟩
  ·rw [decide_eq_false (show ¬ p.c=codes "" from h0)]
   walk_at "x0"
   exact ⟨rfl,rfl⟩
 rintro c h1 ⟨rfl,rfl⟩
 walk_at "x0"
 refine ⟨ty_list r.ll,?_⟩
 walk_at "x0"
 refine K8 (Ju ?_)
 walk_at "x0"
 refine ⟨_,Gn (by omega),(List.range p.a).map Zi,fun i acc h=>∃ ns:List Nat,acc=ns.map D.ref/\ns.length=i/\ns.Nodup/\(∀ n∈ns,h1.length<=n/\n < h.length/\h[n]?=some (.lst []))/\Ext [] h1 h,by simp;omega,⟨[],rfl,rfl,List.nodup_nil,by simp,Ext.refl⟩,fun _ _ _ _=>⟨rfl,Eh _⟩,?_,?_,?_⟩
 ·rintro i acc h ⟨ns,rfl,rfl,_⟩;rw [List.length_map];exact Nat.le_refl _
 ·rintro i dd acc h ed' ⟨ns,rfl,rfl,nd,hf',y⟩
  walk_at "x0"
  refine ⟨ns++[h.length],by rw [List.map_append];rfl,by simp,?_,fun n hn'=>?_,y.trans Ext.more⟩
  ·refine List.nodup_append.mpr ⟨nd,by simp,fun a ha b hb z=>?_⟩;rw [List.mem_singleton.mp hb] at z;have:=(hf' a ha).2.1;omega
  ·rcases List.mem_append.mp hn' with hn'|hn'
   ·obtain ⟨a1,a2,a3⟩:=hf' n hn';exact ⟨a1,by rw [List.length_append];omega,(Ext.more (W:=[])).old _ _ (by simp) a3⟩
   ·rw [List.mem_singleton.mp hn'];exact ⟨y.len,by simp,Az⟩
 rintro acc h2 ⟨ns,rfl,hl,nd,hf',y⟩;rw [List.length_map,List.length_range] at hl;have y':Ext [] h1 (h2++[MO.lst (ns.map D.ref)]):=y.trans Ext.more;have rp:=r.push y' nd fun n hn'=>⟨(hf' n hn').1,(Ext.more (W:=[])).old _ _ (by simp) (hf' n hn').2.2⟩
 have hrs:rs.length=st.length:=r.all.len
 walk_at "x0"
 refine Rm ((r.ext y').ll) Az (by rw [List.length_map,List.length_map];omega) ?_;rw [hl] at rp;generalize (h2++[MO.lst (ns.map D.ref)]).set jl (.lst (rs.map D.ref++ns.map D.ref))=h3 at rp ⊢;have hlen:((rs++ns).map D.ref).length=st.length+p.a:=by rw [List.length_map,List.length_append];omega
 generalize rs++ns=rt at rp hlen;refine Bw (Ua (Ak (P:=fun c h1=>c=false/\h1=h3) ?_ ?_))
 ·walk_at "x0"
  refine Fd (by intro z z';cases z') (Dj rp.ll) ?_;rw [hlen]
  walk_at "x0"
  rw [decide_eq_false (show ¬ (1+30:Int) < ((st.length+p.a:Nat):Int) by omega)]
  walk_at "x0"
  refine Fd (by intro z z';cases z') (Dj rp.ll) ?_;rw [hlen]
  walk_at "x0"
  rw [decide_eq_false (show ¬ (((st.length+p.a:Nat):Int)<=(p.b:Int)) by omega)];exact ⟨rfl,rfl⟩
 rintro c h5 ⟨rfl,rfl⟩;refine fM (V6 (Cu (Bw (Fw (P:=fun fl l h=>fl=.nx/\l=[some tx,some (.ref jl),some (.str (mk (List.replicate p.a 40++(p.c++List.replicate p.b 41)))),some (.str (mk (p.c++List.replicate p.b 41))),some (.str (mk p.c)),some (.int p.a),some (.int p.b),x7,x8]/\∃ ru,Rst mh h jl js S ru (p.mid st)) ?_ ?_))))
 ·walk_at "x0"
  refine My ok (by decide +kernel) mk_eq ?_
  by_cases h0:p.c=[]
  ·rw [decide_eq_true (show p.c=codes "" from h0)]
   walk_at "x0"
   refine ⟨rfl,rfl,rt,?_⟩;unfold Pc.mid;rw [if_pos h0];exact rp
  ·rw [decide_eq_false (show ¬ p.c=codes "" from h0)]
   walk_at "x0"
   obtain ⟨s',x,es⟩:=Jb (s:=st++List.replicate p.a []) (by rw [List.length_append];omega);rw [es] at rp;obtain ⟨ra,rr,era,ha1,ha2,_⟩:=rp.app p.v;refine J2 ha2 ?_
   walk_at "x0"
   refine ⟨ty_list ha1,?_⟩
   walk_at "x0"
   refine run_plain k p.v p.c (hp.resolve_left h0) h5 fun h6 x6=>?_
   have rq:=rp.ext x6;obtain ⟨ra',rr',era',hb1,hb2,rq⟩:=rq.app p.v;obtain ⟨_,e⟩:=List.append_inj' (era.symm.trans era') rfl;cases e
   walk_at "x0"
   refine O5 hb1 ?_ ?_
   ·have:=bd.rep (a:=p.a) x (by rw [es];simp);omega
   walk_at "x0"
   refine ⟨rfl,rfl,rt,?_⟩;unfold Pc.mid;rw [if_neg h0,es,Eg];exact rq
 rintro fl l h6 ⟨rfl,rfl,ru,rq⟩;have hmid:=oN p st
 walk_at "x0"
 refine Mw (Ju ?_)
 walk_at "x0"
 refine ⟨_,Gn (by omega),(List.range p.b).map Zi,fun i l h=>∃ x7 x8 ru,l=[some tx,some (.ref jl),some (.str (mk (List.replicate p.a 40++(p.c++List.replicate p.b 41)))),some (.str (mk (p.c++List.replicate p.b 41))),some (.str (mk p.c)),some (.int p.a),some (.int p.b),x7,x8]/\i<=p.b/\Rst mh h jl js S ru (shuts i (p.mid st)),⟨x7,x8,ru,rfl,Nat.zero_le _,rq⟩,fun _ _ _ _=>⟨rfl,Eh _⟩,?_,?_⟩
 ·rintro i2 dd l h7 ed' ⟨x7,x8,ru,rfl,hib,r7⟩;have hib:i2 < p.b:=by
   have:=(List.getElem?_eq_some_iff.mp ed').1
   simpa using this
  have hsl:=J3 (n:=i2) (s:=p.mid st) (by omega);obtain ⟨s1,xx,e1⟩:=Jb (s:=shuts i2 (p.mid st)) (by omega);have hs1:1<=s1.length:=by
   have:=congrArg List.length e1;rw [hsl,List.length_append,List.length_singleton] at this;omega
  obtain ⟨s2,yy,rfl⟩:=Jb hs1;rw [e1] at r7;obtain ⟨rv,rr,_,hp1,hp2,r8⟩:=r7.pop;obtain ⟨rv',rr',erv,hq1,hq2,r9⟩:=r8.app (.tup xx);unfold Mz
  walk_at "x0"
  refine ⟨ty_list r7.ll,?_⟩
  walk_at "x0"
  refine oM hp1 ?_
  walk_at "x0"
  refine Uc (Dj hp2) ?_
  walk_at "x0"
  refine J2 hq2 ?_
  walk_at "x0"
  refine ⟨ty_list hq1,?_⟩
  walk_at "x0"
  refine O5 hq1 ?_ ?_
  ·have:=(bd.mid p).shuts (n:=i2) yy (by rw [e1];simp);omega
  walk_at "x0"
  refine ⟨_,_,rv,rfl,hib,?_⟩;rw [Hx,e1,Fg,Eg];exact r9
 ·rintro l h7 ⟨x7,x8,ru,rfl,_,r7⟩;rw [List.length_map,List.length_range] at r7;have hsl:=J3 (n:=p.b) (s:=p.mid st) (by omega)
  walk_at "x0"
  refine ⟨rfl,_,_,_,_,_,_,_,ru,rfl,r7,fun x hx=>?_,?_⟩
  ·have:=(bd.mid p).shuts (n:=p.b) x hx;omega
  ·show (shuts p.b (p.mid st)).length=_;rw [hsl,hmid]
theorem Ei:∀ {l m:List Pc}{h:Nat},good (l++m) h->good l h/\good m (ends l h)
 | [],_,_,g=>⟨trivial,g⟩
 | _::_,_,_,g=>let ⟨a,b⟩:=Ei g.2;⟨⟨g.1,a⟩,b⟩
theorem oR {ps:List Pc}{h i:Nat}{p:Pc}(g:good ps h) (e:ps[i]?=some p):(ends (ps.take i) h+p.a<=31/\p.b < ends (ps.take i) h+p.a/\(p.c=[]->p.a≠0/\p.b≠0))/\ends (ps.take (i+1)) h=ends (ps.take i) h+p.a - p.b/\∀ st,goes (ps.take (i+1)) st=p.go (goes (ps.take i) st):=by
 obtain ⟨hi,rfl⟩:=List.getElem?_eq_some_iff.mp e;have e1:ps=ps.take i++ps[i]::ps.drop (i+1):=by
  conv=>lhs;rw [← List.take_append_drop i ps,List.drop_eq_getElem_cons hi]
 have et:ps.take (i+1)=ps.take i++[ps[i]]:=by rw [List.take_add_one,e];rfl
 rw [e1] at g;refine ⟨(Ei g).2.1,?_,fun st=>?_⟩
 ·rw [et,ends_app];rfl
 ·rw [et,M6];rfl
noncomputable def Start (mh m0:MH) (jl js:Nat) (S:List D):Prop:=Rst mh m0 jl js S [mh.length] [[]]
theorem Ui (mh:MH) (S:List D):Start mh (((mh++[MO.lst []])++[MO.lst [.ref mh.length]])++[MO.lst S]) (mh++[MO.lst []]).length ((mh++[MO.lst []])++[MO.lst [.ref mh.length]]).length S:=by
 refine ⟨(Ext.more.trans Ext.more).trans Ext.more,by simp,by simp,?_,by simp,by simp,.cons ?_ .nil,Az,by simp⟩
 ·exact (Ext.more (W:=[])).old _ _ (by simp) Az
 ·exact ((Ext.more (W:=[])).trans Ext.more).old _ _ (by simp) Az
noncomputable def Jl (mh:MH) (tx:D) (jl js:Nat) (S:List D) (ps:List Pc) (i:Nat) (l:DL.Loc) (h:MH):Prop:=i<=ps.length/\∃ x2 x3 x4 x5 x6 x7 x8 rs,l=[some tx,some (.ref jl),x2,x3,x4,x5,x6,x7,x8]/\Rst mh h jl js S rs (goes (ps.take i) [[]])/\bnd (32 * i) (goes (ps.take i) [[]])/\1<=(goes (ps.take i) [[]]).length/\(goes (ps.take i) [[]]).length=ends (ps.take i) 1
theorem Xv (k i:Nat) {mh h:MH}{tx:D}{jl js:Nat}{S:List D}{ps:List Pc}{l:DL.Loc}{p:Pc}(hpc:∀ p∈ps,p.c=[]\/Atm p.v p.c) (gd:good ps 1) (hB:ps.length<=20001) (ep:ps[i]?=some p) (j:Jl mh tx jl js S ps i l h) :
  wG (Av 2 (.str (mk p.rend)) l h) fun l1 h1=>h1=h/\wS (Fe (k+2)) l1 h1 fun f l h=>f=.nx/\Jl mh tx jl js S ps (i+1) l h:=by
 obtain ⟨hi,x2,x3,x4,x5,x6,x7,x8,rs,rfl,r,bd,s1,s2⟩:=j;obtain ⟨⟨g1,g2,g3⟩,g4,g5⟩:=oR gd ep;have hl:=(List.getElem?_eq_some_iff.mp ep).1;rw [← s2] at g1 g2 g4;refine Fx ⟨rfl,Fw (Zu k (32 * i) p tx (hpc p (List.mem_of_getElem? ep)) (by omega) r s1 g1 g2 g3 bd) ?_⟩;rintro f l h ⟨rfl,y2,y3,y4,y5,y6,y7,y8,ru,rfl,r',bd',e'⟩;refine ⟨rfl,hl,y2,y3,y4,y5,y6,y7,y8,ru,rfl,?_⟩;rw [g5];refine ⟨r',bd',by rw [e'];omega,by rw [e',g4]⟩
theorem Xw {mh m0:MH}{tx:D}{jl js:Nat}{S:List D}{ps:List Pc}(s:Start mh m0 jl js S):Jl mh tx jl js S ps 0 [some tx,some (.ref jl),none,none,none,none,none,none,none] m0 :=
 ⟨Nat.zero_le _,none,none,none,none,none,none,none,_,rfl,s,fun x hx=>by rw [List.mem_singleton.mp (show x∈[[]] from hx)];exact Nat.zero_le _,by simp [goes],rfl⟩
theorem Pa {ls:List (List Nat)}{loc:DL.Loc}{mh:MH}{Q:Src->MH->Prop}(h0:ls≠[]) (hf:∀ x∈ls,32 ∉ x) (hB:(Ab ls).length<=1000000) (el:loc[0]?=some (some (.str (mk (Ab ls)))))
  (q:∀ src,src.ok (mh++[.lst (ls.map fun x=>.str (mk x))])=true->(∀ h,h[mh.length]?=some (.lst (ls.map fun x=>.str (mk x)))->src.ok h=true/\src.items h=ls.map fun x=>.str (mk x))->Q src (mh++[.lst (ls.map fun x=>.str (mk x))])) :
  wD (Cg (Ay "str" Gi (vr 0) (Aa (Zr (.str (Str.ofString " "))) (Zr [])))) loc mh Q:=by
 refine Q5 (Xi (Mv el ?_));refine ⟨rfl,?_⟩
 walk_at "x0"
 refine Zt h0 hf hB ?_;exact ⟨rfl,_,src_list Az,q _ (G6 Az).1 fun h e=>G6 e⟩
theorem Pb (k:Nat) (ps:List Pc) (h0:ps≠[]) (hpc:∀ p∈ps,p.c=[]\/Atm p.v p.c) (gd:good ps 1) (hB:(txt ps).length<=20000) (mh:MH) {P:Fl->DL.Loc->MH->Prop}
  (h:∀ l h' jl js S,Jl mh (.str (mk (txt ps))) jl js S ps ps.length l h'->P .nx l h') :
  wS (Ht (Cg (Ay "str" Gi (vr 0) (Aa (Zr (.str (Str.ofString " "))) (Zr [])))) (Av 2) (Fe (k+2))) [some (.str (mk (txt ps))),some (.ref (mh++[MO.lst []]).length),none,none,none,none,none,none,none] ((mh++[MO.lst []])++[MO.lst [.ref mh.length]]) P:=by
 have hlen:ps.length<=20001:=by have:=Gs (ps.map Pc.rend);rw [List.length_map] at this;have:(Ab (ps.map Pc.rend)).length<=20000:=hB;omega
 refine Mw (Pa (ls:=ps.map Pc.rend) (by simpa using h0) (fun x hx=>by obtain ⟨p,hp,rfl⟩:=List.mem_map.mp hx;exact Rp (hpc p hp)) (Nat.le_trans hB (by decide)) rfl fun src _ hk=>?_);refine ⟨_,fun i l h=>Jl mh (.str (mk (txt ps))) (mh++[MO.lst []]).length ((mh++[MO.lst []])++[MO.lst [.ref mh.length]]).length ((ps.map Pc.rend).map fun x=>.str (mk x)) ps i l h,Xw (Ui mh _),fun i l h j=>hk h j.2.choose_spec.choose_spec.choose_spec.choose_spec.choose_spec.choose_spec.choose_spec.choose_spec.2.1.jsa,?_,?_⟩
 ·intro i d l h1 ed j;rw [List.getElem?_map,List.getElem?_map] at ed;cases ep:ps[i]? with
  | none=>rw [ep] at ed;cases ed
  | some p =>
  rw [ep] at ed;cases ed;obtain ⟨l1,h2,e,rfl,q⟩:=Xv k i hpc gd hlen ep j;refine ⟨l1,_,e,Fw q ?_⟩;rintro f l h ⟨rfl,j⟩;exact j
 ·intro l h1 j;rw [List.length_map,List.length_map] at j;exact h l h1 _ _ _ j
theorem Nm (k:Nat) (ps:List Pc) (h0:ps≠[]) (hpc:∀ p∈ps,p.c=[]\/Atm p.v p.c) (gd:good ps 1) (ge:ends ps 1=1) (hB:(txt ps).length<=20000) (mh:MH) {P:D->MH->Prop}(h:∀ j h' ds,Ext [] mh h'->goes ps [[]]=[ds]->h'[j]?=some (.lst ds)->P (.ref j) h'):wV (Aq (Gk (k+3)) fuel f18 [.str (mk (txt ps))] mh) P:=by
 refine Di (gC (k+2)) Jy.1 Jy.2 rfl ?_;show wS (b18 (k+2)) [some (.str (mk (txt ps))),none,none,none,none,none,none,none,none] mh _;unfold b18
 walk_at "x0"
 refine Pb k ps h0 hpc gd hB mh fun l h4 jl js S j=>?_
 obtain ⟨_,x2,x3,x4,x5,x6,x7,x8,rs,rfl,r,_,_,s2⟩:=j;rw [List.take_length] at r s2;rw [ge] at s2;obtain ⟨ds,eg⟩:=List.length_eq_one_iff.mp s2;rw [eg] at r;obtain ⟨rs',q,rfl,ha,hr⟩:=All2.snoc_inv (b:=[]) r.all;cases ha;have g1:=r.ll
 walk_at "x0"
 refine Fd (by intro z z';cases z') (Dj g1) ?_
 walk_at "x0"
 refine Fb (j:=0) g1 rfl ?_
 walk_at "x0"
 exact h q h4 ds r.x eg hr
theorem run_read (k n:Nat) (d:D) (ps:List Pc) (T:Tg n d ps) (hn:n<=30) (hB:(txt ps).length<=20000) (mh:MH) {P:D->MH->Prop}(h:∀ h',Ext [] mh h'->P d h'):wV (Aq (Gk (k+4)) fuel f17 [.str (mk (txt ps))] mh) P:=by
 have sd:=T.said;obtain ⟨gd,ge⟩:=sd.good 1 (Nat.le_refl _) (by omega);have fin:goes ps [[]]=[[d]]:=sd.go [] [];refine Di (wU (k+3)) Q6.1 Q6.2 rfl ?_;show wS (b17 (k+3)) [some (.str (mk (txt ps))),none] mh _;unfold b17
 walk_at "x0"
 refine Nm k ps sd.ne sd.pc gd ge hB mh fun j h1 ds x1 eg g1=>?_
 rw [fin] at eg;cases eg
 walk_at "x0"
 refine Fd (by intro z z';cases z') (Dj g1) ?_
 walk_at "x0"
 refine Fb (j:=0) g1 rfl ?_
 walk_at "x0"
 exact h h1 x1
noncomputable def isN (f:List Nat):Bool:=decide (1<=f.length)&&(decide (f.length<=60)&&((f.all fun x=>decide (x∈codes "0123456789"))&&(decide (f=[48]) || !decide (f.head?=some 48))))
noncomputable def J4 (c:List Nat):List Nat:=if c.head?=some 45 then c.tail else c
noncomputable def plB (c:List Nat):Bool:=decide (c=codes "none") || (decide (c=codes "yes") || (decide (c=codes "no") || ((c.all fun x=>decide (x∈codes "abcdefghijklmnopqrstuvwxyz")) || (isN (J4 c)&&!decide (c=codes "-0")))))
theorem oU (k:Nat) (f:List Nat) (h1:f.length<=1000000) (hd:∀ x∈f,x<=122) (mh:MH) {P:D->MH->Prop}(h:∀ h',Ext [] mh h'->P (.bl (isN f)) h'):wV (Aq (Gk (k+1)) fuel f20 [.str (mk f)] mh) P:=by
 refine Di (gG k) Q8.1 Q8.2 rfl ?_;show wS (b20 k) [some (.str (mk f))] mh _;unfold b20;unfold isN at h
 walk_at "x0"
 refine Cv (by rw [Af];omega) ?_
 walk_at "x0"
 rw [Af];refine Eo (fun e1=>?_) fun e1=>?_
 ·have l1:1<=f.length:=by have:=of_decide_eq_true e1;omega
  rw [decide_eq_true l1] at h
  walk_at "x0"
  by_cases l2:f.length<=60
  ·rw [decide_eq_true (show (f.length:Int)<=60 by omega)];rw [decide_eq_true l2] at h
   walk_at "x0"
   refine Nf (s := "0123456789") hd h1 (by rfl) fun h2 x2=>?_
   cases ea:f.all fun x=>decide (x∈codes "0123456789") with
   | false =>
    rw [ea] at h
    walk_at "x0"
    exact h _ x2
   | true =>
    rw [ea] at h
    walk_at "x0"
    have ok:PyData.strOk (mk f)=true:=Ep hd;refine Ef ok (by decide +kernel) mk_eq ?_
    walk_at "x0"
    by_cases h48:f=[48]
    ·rw [decide_eq_true (show f=codes "0" from h48)];rw [decide_eq_true h48] at h
     walk_at "x0"
     exact h _ x2
    ·rw [decide_eq_false (show ¬ f=codes "0" from h48)];rw [decide_eq_false h48] at h
     walk_at "x0"
     cases f with
     | nil=>simp at l1
     | cons a r =>
      refine Jw (c:=a) (by rw [Af];omega) (Fq (j:=0) rfl) ?_
      walk_at "x0"
      by_cases ha:a=48
      ·refine My (k:=true) (Ep (a:=[a]) fun x hx=>by rw [List.mem_singleton.mp hx];exact hd a List.mem_cons_self) (by decide +kernel) ?_ ?_
       ·show (mk [a]==Str.ofString "0")=true;rw [mk_eq,ha];rfl
       ·walk_at "x0"
        rw [decide_eq_true (show (a::r).head?=some 48 by rw [ha];rfl)] at h;exact h _ x2
      ·refine My (k:=false) (Ep (a:=[a]) fun x hx=>by rw [List.mem_singleton.mp hx];exact hd a List.mem_cons_self) (by decide +kernel) ?_ ?_
       ·show (mk [a]==Str.ofString "0")=false;rw [mk_eq];exact decide_eq_false fun z=>ha (List.cons.inj z).1
       ·walk_at "x0"
        rw [decide_eq_false (show ¬ (a::r).head?=some 48 from fun z=>ha (Option.some.inj z))] at h;exact h _ x2
  ·rw [decide_eq_false (show ¬ (f.length:Int)<=60 by omega)];rw [decide_eq_false l2] at h
   walk_at "x0"
   exact h _ Ext.refl
 ·have l1:¬ 1<=f.length:=by have:=of_decide_eq_false e1;omega
  rw [decide_eq_false l1] at h
  walk_at "x0"
  exact h _ Ext.refl
theorem oV (k:Nat) (c:List Nat) (h0:c≠[]) (hl:c.length<=100000) (hc:∀ x∈c,x<=122) (hb:plB c=false) (mh:MH):∃ h',Ext [] mh h'/\Dq (Gk (k+2)) (Ek (k+2)) xcl fuel f19 [.str (mk c)] mh=some (("NoText":Str),h'):=by
 unfold plB at hb;simp only [Bool.or_eq_false_iff] at hb;obtain ⟨n1,n2,n3,n4,n5⟩:=hb
 have hn:c≠codes "none"/\c≠codes "yes"/\c≠codes "no":=⟨of_decide_eq_false n1,of_decide_eq_false n2,of_decide_eq_false n3⟩
 have ok:PyData.strOk (mk c)=true:=Ep hc
 have go:∀ {P:Option (Str×MH)->Prop},(∀ h',Ext [] mh h'->P (some (("NoText":Str),h')))->wR (r19 (k+1)) [some (.str (mk c)),none] mh P:=fun {P} h=>by
  unfold r19;refine Gr ?_
  walk_at "x0"
  refine ⟨_,rfl,?_⟩;rw [Nh hn]
  walk_at "x0"
  refine Fj ?_;unfold Rg;refine Gr ?_
  walk_at "x0"
  refine Nf (s := "abcdefghijklmnopqrstuvwxyz") hc (by omega) (by rfl) fun h1 x1=>?_
  rw [n4]
  walk_at "x0"
  refine Fj ?_;unfold Rf;refine Dd (Fw (P:=fun f l h=>f=.nx/\h=h1/\l=[some (.str (mk c)),some (.str (mk (J4 c)))]) ?_ ?_)
  ·walk_at "x0"
   cases c with
   | nil=>exact absurd rfl h0
   | cons a r =>
    refine Jw (c:=a) (by rw [Af];omega) (Fq (j:=0) rfl) ?_
    walk_at "x0"
    by_cases ha:a=45
    ·refine Ef (k:=true) (Ep (a:=[a]) fun x hx=>by rw [List.mem_singleton.mp hx];exact hc a List.mem_cons_self) (by decide +kernel) ?_ ?_
     ·show (mk [a]==Str.ofString "-")=true;rw [mk_eq,ha];rfl
     walk_at "x0"
     rw [List.length_cons] at hl;refine Q0 (by rw [Af,List.length_cons];omega) (by rw [gW,Af];omega) ?_;rw [gW]
     walk_at "x0"
     refine ⟨rfl,rfl,?_⟩;unfold J4;rw [if_pos (by rw [ha];rfl)];rfl
    ·refine Ef (k:=false) (Ep (a:=[a]) fun x hx=>by rw [List.mem_singleton.mp hx];exact hc a List.mem_cons_self) (by decide +kernel) ?_ ?_
     ·show (mk [a]==Str.ofString "-")=false;rw [mk_eq];exact decide_eq_false fun z=>ha (List.cons.inj z).1
     walk_at "x0"
     refine ⟨rfl,rfl,?_⟩;unfold J4;rw [if_neg (show ¬ (a::r).head?=some 45 from fun z=>ha (Option.some.inj z))];rfl
  rintro f l h9 ⟨rfl,rfl,rfl⟩;have hf:(J4 c).length<=c.length/\∀ x∈J4 c,x∈c:=by
   unfold J4;split
   ·exact ⟨by simp,fun x hx=>List.mem_of_mem_tail hx⟩
   ·exact ⟨Nat.le_refl _,fun x hx=>hx⟩
  refine ⟨rfl,Gr ?_⟩
  walk_at "x0"
  refine oU k (J4 c) (by omega) (fun x hx=>hc x (hf.2 x hx)) _ fun h2 x2=>?_
  cases en:isN (J4 c) with
  | false =>
   walk_at "x0"
   exact Ck (h _ (x1.trans x2))
  | true =>
   rw [en] at n5
   have e0:c=codes "-0":=by simpa using n5
   walk_at "x0"
   refine Ef ok (by decide +kernel) mk_eq ?_;rw [decide_eq_true e0]
   walk_at "x0"
   exact Ck (h _ (x1.trans x2))
 unfold Dq;rw [if_pos (by rw [Q7.1];rfl),gD (k+1),Q7.2]
 exact go (P:=fun z=>∃ h',Ext [] mh h'/\z=some (("NoText":Str),h')) fun h' x=>⟨h',x,rfl⟩
structure BadP (n a:Nat) (c:List Nat) (b:Nat):Prop where
 la:a<=100000
 lb:b<=100000
 lc:c.length<=100000
 cc:∀ x∈c,x<=122
 hd:(c++List.replicate b 41).head?≠some 40
 tl:c.getLast?≠some 41
 bad:(c=[]/\(a=0\/b=0))\/31 < n+a\/n+a<=b\/(c≠[]/\plB c=false)
theorem iW (k a b:Nat) (c:List Nat) (tx:D) {mh h4:MH}{jl js:Nat}{S:List D}{rs:List Nat}{st:Stk}{x3 x4 x5 x6 x7 x8:Option D}(B:BadP st.length a c b) (r:Rst mh h4 jl js S rs st) (s1:1<=st.length) (s31:st.length<=31) {P:Option (Str×MH)->Prop}(hP:∀ h',Ext [] mh h'->P (some (("NoText":Str),h'))) :
  wR (Jz (k+2)) [some tx,some (.ref jl),some (.str (mk (List.replicate a 40++(c++List.replicate b 41)))),x3,x4,x5,x6,x7,x8] h4 P:=by
 obtain ⟨ha,hb,hl,hc,hd,la,bad⟩:=B;have ok:PyData.strOk (mk c)=true:=Ep hc;have l1:(mk (List.replicate a 40++(c++List.replicate b 41))).length=a+(c.length+b):=by rw [Af];simp
 have l2:(mk (c++List.replicate b 41)).length=c.length+b:=by rw [Af];simp
 unfold Jz;refine Dd ?_
 walk_at "x0"
 refine ⟨rfl,?_⟩
 walk_at "x0"
 refine iU hd (by simp;omega) ?_
 walk_at "x0"
 refine ⟨rfl,Dd ?_⟩
 walk_at "x0"
 refine ⟨rfl,?_⟩
 walk_at "x0"
 refine iV la (by omega) ?_
 walk_at "x0"
 refine ⟨rfl,Dd ?_⟩
 walk_at "x0"
 refine Cv (by rw [l1];omega) ?_
 walk_at "x0"
 refine Cv (by rw [l2];omega) ?_
 walk_at "x0"
 rw [l1,l2,show (((a+(c.length+b):Nat):Int) - ((c.length+b:Nat):Int))=(a:Int) by omega];refine ⟨rfl,Dd ?_⟩
 walk_at "x0"
 refine Cv (by rw [l2];omega) ?_
 walk_at "x0"
 refine Cv (by rw [Af];omega) ?_;rw [l2,Af];refine V9 ?_;rw [show (((c.length+b:Nat):Int) - (c.length:Int))=(b:Int) by omega];refine Fx ⟨rfl,Gr (Ak (P:=fun z h1=>h1=h4/\z=decide (c=[]/\(a=0\/b=0))) ?_ ?_)⟩
 ·walk_at "x0"
  refine Ef ok (by decide +kernel) mk_eq ?_
  by_cases h0:c=[]
  ·rw [decide_eq_true (show c=codes "" from h0)]
   walk_at "x0"
   by_cases h1:a=0
   ·rw [show ((a:Int)==0)=true by rw [h1];rfl]
    walk_at "x0"
    exact ⟨rfl,(decide_eq_true ⟨h0,.inl h1⟩).symm⟩
   ·rw [show ((a:Int)==0)=false from beq_false_of_ne (by omega)]
    walk_at "x0"
    by_cases h2:b=0
    ·rw [show ((b:Int)==0)=true by rw [h2];rfl];exact ⟨rfl,(decide_eq_true ⟨h0,.inr h2⟩).symm⟩
    ·rw [show ((b:Int)==0)=false from beq_false_of_ne (by omega)];exact ⟨rfl,(decide_eq_false fun z=>z.2.elim h1 h2).symm⟩
  ·rw [decide_eq_false (show ¬ c=codes "" from h0)]
   walk_at "x0"
   exact ⟨rfl,(decide_eq_false fun z=>h0 z.1).symm⟩
 rintro z h1 ⟨rfl,rfl⟩;refine Eo (fun _=>Ck (hP _ r.x)) fun e1=>Fj ?_
 have bad:=bad.resolve_left (of_decide_eq_false e1);unfold Rc;refine Dd ?_
 walk_at "x0"
 refine ⟨ty_list r.ll,?_⟩
 walk_at "x0"
 refine K8 (Ju ?_)
 walk_at "x0"
 refine ⟨_,Gn (by omega),(List.range a).map Zi,fun i acc h=>∃ ns:List Nat,acc=ns.map D.ref/\ns.length=i/\ns.Nodup/\(∀ n∈ns,h1.length<=n/\n < h.length/\h[n]?=some (.lst []))/\Ext [] h1 h,by simp;omega,⟨[],rfl,rfl,List.nodup_nil,by simp,Ext.refl⟩,fun _ _ _ _=>⟨rfl,Eh _⟩,?_,?_,?_⟩
 ·rintro i acc h ⟨ns,rfl,rfl,_⟩;rw [List.length_map];exact Nat.le_refl _
 ·rintro i dd acc h ed' ⟨ns,rfl,rfl,nd,hf',y⟩
  walk_at "x0"
  refine ⟨ns++[h.length],by rw [List.map_append];rfl,by simp,?_,fun n hn'=>?_,y.trans Ext.more⟩
  ·refine List.nodup_append.mpr ⟨nd,by simp,fun a ha b hb z=>?_⟩;rw [List.mem_singleton.mp hb] at z;have:=(hf' a ha).2.1;omega
  ·rcases List.mem_append.mp hn' with hn'|hn'
   ·obtain ⟨a1,a2,a3⟩:=hf' n hn';exact ⟨a1,by rw [List.length_append];omega,(Ext.more (W:=[])).old _ _ (by simp) a3⟩
   ·rw [List.mem_singleton.mp hn'];exact ⟨y.len,by simp,Az⟩
 rintro acc h2 ⟨ns,rfl,hl',nd,hf',y⟩;rw [List.length_map,List.length_range] at hl';have y':Ext [] h1 (h2++[MO.lst (ns.map D.ref)]):=y.trans Ext.more;have rp:=r.push y' nd fun n hn'=>⟨(hf' n hn').1,(Ext.more (W:=[])).old _ _ (by simp) (hf' n hn').2.2⟩
 have hrs:rs.length=st.length:=r.all.len
 walk_at "x0"
 refine Rm ((r.ext y').ll) Az (by rw [List.length_map,List.length_map];omega) ?_;rw [hl'] at rp;generalize (h2++[MO.lst (ns.map D.ref)]).set jl (.lst (rs.map D.ref++ns.map D.ref))=h3 at rp ⊢;have hlen:((rs++ns).map D.ref).length=st.length+a:=by rw [List.length_map,List.length_append];omega
 generalize rs++ns=rt at rp hlen
 walk_at "x0"
 refine ⟨rfl,Gr (Ak (P:=fun z h1=>h1=h3/\z=decide (31 < st.length+a\/st.length+a<=b)) ?_ ?_)⟩
 ·walk_at "x0"
  refine Fd (by intro z z';cases z') (Dj rp.ll) ?_;rw [hlen]
  walk_at "x0"
  by_cases q1:31 < st.length+a
  ·rw [decide_eq_true (show (1+30:Int) < ((st.length+a:Nat):Int) by omega)]
   walk_at "x0"
   exact ⟨rfl,(decide_eq_true (.inl q1)).symm⟩
  ·rw [decide_eq_false (show ¬ (1+30:Int) < ((st.length+a:Nat):Int) by omega)]
   walk_at "x0"
   refine Fd (by intro z z';cases z') (Dj rp.ll) ?_;rw [hlen]
   walk_at "x0"
   by_cases q2:st.length+a<=b
   ·rw [decide_eq_true (show (((st.length+a:Nat):Int)<=(b:Int)) by omega)];exact ⟨rfl,(decide_eq_true (.inr q2)).symm⟩
   ·rw [decide_eq_false (show ¬ (((st.length+a:Nat):Int)<=(b:Int)) by omega)];exact ⟨rfl,(decide_eq_false fun z=>z.elim q1 q2).symm⟩
 rintro z h5 ⟨rfl,rfl⟩;refine Eo (fun _=>Ck (hP _ rp.x)) fun e2=>Fj ?_
 have e2:=of_decide_eq_false e2;obtain ⟨h0,pl⟩:=(bad.resolve_left fun z=>e2 (.inl z)).resolve_left fun z=>e2 (.inr z)
 unfold Rb;refine Gr ?_
 walk_at "x0"
 refine My ok (by decide +kernel) mk_eq ?_
 rw [decide_eq_false (show ¬ c=codes "" from h0)]
 walk_at "x0"
 obtain ⟨s',x,es⟩:=Jb (s:=st++List.replicate a []) (by rw [List.length_append];omega);rw [es] at rp;obtain ⟨ra,rr,era,ha1,ha2,_⟩:=rp.app .non;obtain ⟨h6,x6,e6⟩:=oV k c h0 hl hc pl h5
 refine Ni (c:=(("NoText":Str),h6)) (Ni (c:=(("NoText":Str),h6)) (xJ ?_) rfl) (hP _ (rp.x.trans x6))
 walk_at "x0"
 refine J2 ha2 ?_;refine ⟨ty_list ha1,iH ?_⟩
 walk_at "x0"
 exact e6
theorem Pg:∀ {l:List Pc}{h:Nat},1<=h->h<=31->good l h->1<=ends l h/\ends l h<=31
 | [],_,a,b,_=>⟨a,b⟩
 | p::r,h,a,b,g=>Pg (l:=r) (h:=h+p.a - p.b) (by have:=g.1.2.1;omega) (by have:=g.1.1;omega) g.2
theorem oW (k a b:Nat) (c:List Nat) (ps:List Pc) (rest:List (List Nat)) (hpc:∀ p∈ps,p.c=[]\/Atm p.v p.c) (gd:good ps 1) (B:BadP (ends ps 1) a c b) (hr:∀ x∈rest,32 ∉ x) (hc:32 ∉ c) (hl:ps.length<=20001)
  (hB:(Ab (ps.map Pc.rend++(List.replicate a 40++(c++List.replicate b 41))::rest)).length<=200000) (mh:MH) :
  ∃ h',Ext [] mh h'/\Dq (Gk (k+3)) (Ek (k+3)) xcl fuel f18 [.str (mk (Ab (ps.map Pc.rend++(List.replicate a 40++(c++List.replicate b 41))::rest)))] mh=some (("NoText":Str),h'):=by
 generalize els:ps.map Pc.rend++(List.replicate a 40++(c++List.replicate b 41))::rest=ls at hB ⊢;have hf:∀ x∈ls,32 ∉ x:=by
  intro x hx;rw [← els] at hx;rcases List.mem_append.mp hx with hx|hx
  ·obtain ⟨p,hp,rfl⟩:=List.mem_map.mp hx;exact Rp (hpc p hp)
  rcases List.mem_cons.mp hx with rfl|hx
  ·intro z;rcases List.mem_append.mp z with z|z
   ·exact absurd (List.eq_of_mem_replicate z) (by decide)
   ·rcases List.mem_append.mp z with z|z
    ·exact hc z
    ·exact absurd (List.eq_of_mem_replicate z) (by decide)
  ·exact hr x hx
 have h0:ls≠[]:=by rw [← els];simp
 have go:∀ {P:Option (Str×MH)->Prop},(∀ h',Ext [] mh h'->P (some (("NoText":Str),h')))->wR (r18 (k+2)) [some (.str (mk (Ab ls))),none,none,none,none,none,none,none,none] mh P:=fun {P} hP=>by
  unfold r18;refine Dd ?_
  walk_at "x0"
  refine ⟨rfl,?_⟩
  have:=xK (rb:=Jz (k+2)) (body:=Fe (k+2)) (g:=Av 2) (P:=fun z=>∃ h',Ext [] mh h'/\z=some (("NoText":Str),h')) (Pa (ls:=ls) (loc:=[some (.str (mk (Ab ls))),some (.ref (mh++[MO.lst []]).length),none,none,none,none,none,none,none]) (mh:=(mh++[MO.lst []])++[MO.lst [.ref mh.length]]) h0 hf (Nat.le_trans hB (by decide)) rfl fun src _ hk =>
   ⟨_,fun i l h=>Jl mh (.str (mk (Ab ls))) (mh++[MO.lst []]).length ((mh++[MO.lst []])++[MO.lst [.ref mh.length]]).length (ls.map fun x=>.str (mk x)) ps i l h,Xw (Ui mh _),fun i l h j=>hk h j.2.choose_spec.choose_spec.choose_spec.choose_spec.choose_spec.choose_spec.choose_spec.choose_spec.2.1.jsa,?_,?_⟩)
  ·obtain ⟨h',x,e⟩:=this
   exact Ni (c:=(("NoText":Str),h')) e (hP _ x)
  ·intro i d l h1 ed j;rcases Nat.lt_or_ge i ps.length with hi|hi
   ·have ep:=List.getElem?_eq_getElem hi;rw [← els,List.getElem?_map,List.getElem?_append_left (by simpa using hi),List.getElem?_map,ep] at ed;cases ed;obtain ⟨l1,h2,e,rfl,q⟩:=Xv k i hpc gd hl ep j;refine ⟨l1,_,e,fun y ey=>?_,fun _=>q⟩;obtain ⟨f,l2,h3,e3,_⟩:=q;rw [Nk (k+1) _ _ _ ey] at e3;cases e3
   ·have hi:i=ps.length:=Nat.le_antisymm j.1 hi;subst hi;rw [← els,List.getElem?_map,List.getElem?_append_right (by simp)] at ed;rw [List.length_map,Nat.sub_self] at ed;cases ed;obtain ⟨_,x2,x3,x4,x5,x6,x7,x8,rs,rfl,r,_,s1,s2⟩:=j;rw [List.take_length] at r s1 s2;refine Fx ?_;have ge:=Pg (Nat.le_refl 1) (by decide) gd;rw [← s2] at B ge;exact iW k a b c _ B r s1 ge.2 fun h' x=>⟨fun y ey=>by cases ey;exact ⟨h',x,rfl⟩,fun z=>by cases z⟩
  ·intro l h1 j;have:=j.1;rw [List.length_map,← els,List.length_append,List.length_map,List.length_cons] at this;omega
 unfold Dq;rw [if_pos (by rw [Jy.1];rfl),Wd (k+2),Jy.2]
 exact go (P:=fun z=>∃ h',Ext [] mh h'/\z=some (("NoText":Str),h')) fun h' x=>⟨h',x,rfl⟩
theorem oX (k:Nat) (ps:List Pc) (h0:ps≠[]) (hpc:∀ p∈ps,p.c=[]\/Atm p.v p.c) (gd:good ps 1) (he:ends ps 1≠1) (hB:(txt ps).length<=20000) (mh:MH) :
  ∃ h',Ext [] mh h'/\Dq (Gk (k+3)) (Ek (k+3)) xcl fuel f18 [.str (mk (txt ps))] mh=some (("NoText":Str),h'):=by
 have go:∀ {P:Option (Str×MH)->Prop},(∀ h',Ext [] mh h'->P (some (("NoText":Str),h')))->wR (r18 (k+2)) [some (.str (mk (txt ps))),none,none,none,none,none,none,none,none] mh P:=fun {P} hP=>by
  unfold r18;refine Dd ?_
  walk_at "x0"
  refine ⟨rfl,?_⟩;have run:=Pb k ps h0 hpc gd hB mh (P:=fun f l h=>f=.nx/\∃ jl js S,Jl mh (.str (mk (txt ps))) jl js S ps ps.length l h) fun l h' jl js S j=>⟨rfl,jl,js,S,j⟩
  have none1:=run;obtain ⟨f1,l1,h1,e1,_⟩:=none1;refine iD (Wj (Nk (k+1)) |>.none e1) (Fw run ?_);rintro f l h ⟨rfl,jl,js,S,_,x2,x3,x4,x5,x6,x7,x8,rs,rfl,r,_,s1,s2⟩;rw [List.take_length] at r s1 s2;refine ⟨rfl,Gr ?_⟩
  walk_at "x0"
  refine Fd (by intro z z';cases z') (Dj r.ll) ?_;rw [List.length_map,r.all.len]
  walk_at "x0"
  rw [decide_eq_true (show (1:Int) < ((goes ps [[]]).length:Int) by omega)]
  walk_at "x0"
  exact Ck (hP _ r.x)
 unfold Dq;rw [if_pos (by rw [Jy.1];rfl),Wd (k+2),Jy.2]
 exact go (P:=fun z=>∃ h',Ext [] mh h'/\z=some (("NoText":Str),h')) fun h' x=>⟨h',x,rfl⟩
noncomputable def Ref (k:Nat) (d:D):Prop:=∀ mh:MH,∃ h',Ext [] mh h'/\Dq (Gk (k+4)) (Ek (k+4)) xcl fuel f17 [d] mh=some (("NoText":Str),h')
theorem Wk (k:Nat) (d:D) (h:∀ (mh:MH) {P:Option (Str×MH)->Prop},(∀ h',Ext [] mh h'->P (some (("NoText":Str),h')))->wR (r17 (k+3)) [some d,none] mh P):Ref k d:=fun mh=>by
 unfold Dq;rw [if_pos (by rw [Q6.1];rfl),wQ (k+3),Q6.2]
 exact h mh (P:=fun z=>∃ h',Ext [] mh h'/\z=some (("NoText":Str),h')) fun h' x=>⟨h',x,rfl⟩
theorem Rq (k:Nat) (d:D) (t:String) (ht:∀ mh,Lz d mh=some t) (hs:Yi t "str"=some false):Ref k d:=Wk k d fun mh P hP=>by
 unfold r17;refine Gr (Xh (V5 (V4 (Mv rfl (Wa (t:=t) (ht mh) hs ?_)))))
 walk_at "x0"
 exact Ck (hP _ Ext.refl)
theorem Np (k:Nat) (x:Str) (h:∀ mh,∃ h',Ext [] mh h'/\Dq (Gk (k+3)) (Ek (k+3)) xcl fuel f18 [.str x] mh=some (("NoText":Str),h')):Ref k (.str x):=Wk k _ fun mh P hP=>by
 unfold r17;refine Gr ?_
 walk_at "x0"
 refine Fj ?_;unfold Ra;obtain ⟨h',x',e⟩:=h mh
 refine Ni (c:=(("NoText":Str),h')) (iH ?_) (hP _ x')
 walk_at "x0"
 exact e
theorem iY (k:Nat) (ps:List Pc) (h0:ps≠[]) (hpc:∀ p∈ps,p.c=[]\/Atm p.v p.c) (gd:good ps 1) (ge:ends ps 1=1) (hB:(txt ps).length<=20000) (hn:∀ ds,goes ps [[]]=[ds]->ds.length≠1/\ds.length<=1000000):Ref k (.str (mk (txt ps))):=Wk k _ fun mh P hP=>by
 unfold r17;refine Gr ?_
 walk_at "x0"
 refine Fj ?_;unfold Ra;have run:=Nm k ps h0 hpc gd ge hB mh (P:=fun d h'=>∃ j ds,d=.ref j/\Ext [] mh h'/\ds.length≠1/\ds.length<=1000000/\h'[j]?=some (.lst ds)) fun j h' ds x e g=>⟨j,ds,rfl,x,(hn ds e).1,(hn ds e).2,g⟩
 have none1:=run;obtain ⟨d1,h1,e1,_⟩:=none1;refine iD ?_ ?_
 ·cases q:Dq (Gk (k+3)) (Ek (k+3)) xcl fuel f18 [.str (mk (txt ps))] mh with
  | none =>
   exact q
  | some z =>
   rw [Zo (k+1) _ _ _ q] at e1;cases e1
 walk_at "x0"
 obtain ⟨d,h',e,j,ds,rfl,x,n1,n2,g⟩:=run;refine ⟨_,h',e,?_⟩
 walk_at "x0"
 refine ⟨rfl,Gr ?_⟩
 walk_at "x0"
 refine Fd (by intro z z';cases z') (Dj g) ?_
 walk_at "x0"
 rw [show ((ds.length:Int)==1)=false from beq_false_of_ne (by omega)]
 walk_at "x0"
 exact Ck (hP _ x)
theorem Ph:∀ (ls:List (List Nat)) (a:Nat),(ls.map mk).foldl (fun acc (s:Str)=>acc+s.length+(mk [32]).length) a<=a+(Ab ls).length+1
 | [],a=>by show a<=_;omega
 | [x],a=>by show a+x.length+1<=a+x.length+1;omega
 | x::y::r,a=>by
  have:=Ph (y::r) (a+x.length+1);show ((y::r).map mk).foldl (fun acc (s:Str)=>acc+s.length+(mk [32]).length) (a+x.length+1)<=_;refine Nat.le_trans this ?_;show _<=a+(x++32::Ab (y::r)).length+1;rw [List.length_append,List.length_cons];omega
theorem iZ {j:Nat}{ls:List (List Nat)}{mh:MH}{P:D->MH->Prop}(g:mh[j]?=some (.lst (ls.map fun x=>.str (mk x)))) (hB:(Ab ls).length<=1000000) (h:P (.str (mk (Ab ls))) mh):wV (Ti (.str (Str.ofString " ")) [.ref j] mh) P:=⟨_,_,by
 have e:(Str.ofString " ")=mk [32]:=by rw [Ai];rfl
 rw [e];show (match strOf (.str (mk [32])),cI (.ref j) mh with | some a,some ds=>(match strsOf ds with | some ss=>if JoinOk a ss=true then some (D.str (Txt.join a ss),mh) else none | none=>none) | _,_=>none)=_;have e1:cI (.ref j) mh=some (ls.map fun x=>.str (mk x)):=by
  show (match mh[j]? with | some (.lst o)=>some o | _=>none)=_;rw [g]
 have e2:strsOf (ls.map fun x=>D.str (mk x))=some (ls.map mk):=by
  have:=Mi (ls.map mk);rw [List.map_map] at this;exact this
 have e3:JoinOk (mk [32]) (ls.map mk)=true:=by
  unfold JoinOk Builtin.Str.tooLong;have:=Ph ls 0;rw [List.foldl_toArray']
  ·rw [Bool.not_eq_true']
   exact decide_eq_false (by
    have h4:sizeLine=16777216:=rfl
    rw [h4];omega)
  ·rfl
 rw [e1];show (match strsOf (ls.map fun x=>D.str (mk x)) with | some ss=>if JoinOk (mk [32]) ss=true then some (D.str (Txt.join (mk [32]) ss),mh) else none | none=>none)=_;rw [e2];dsimp only
 rw [if_pos e3,gJ],h⟩
theorem Rr:∀ {ls:List (List Nat)}{x:List Nat},x∈ls->x.length<=(Ab ls).length
 | [y],x,h=>by rw [List.mem_singleton.mp h];exact Nat.le_refl _
 | y::z::r,x,h=>by
  show _<=(y++32::Ab (z::r)).length;rw [List.length_append,List.length_cons];rcases List.mem_cons.mp h with rfl|h
  ·omega
  ·have:=Rr h;omega
theorem Jd (c:List Nat) (d:D):txt [⟨0,c,d,0⟩]=c:=by
 show Pc.rend ⟨0,c,d,0⟩=c;unfold Pc.rend;simp
theorem Rt (s:String):Str.ofString s=mk (codes s):=Ai s
theorem str_int {i:Int}{mh:MH}{P:D->MH->Prop}(hb:i.natAbs < 10 ^ 60) (h:P (.str (mk (codes (toString i)))) mh):wV (Tj [.int i] mh) P:=⟨_,_,by
 show (if i.natAbs.log2 < 1920 then some (D.str (Str.ofString (toString i)),mh) else none)=_;rw [if_pos,Rt]
 by_cases h0:i.natAbs=0
 ·rw [h0];decide +kernel
 ·refine (Nat.log2_lt h0).mpr (Nat.lt_trans hb (by decide +kernel)),h⟩
theorem Pj (k:Nat) (d:D) (c:List Nat) (ha:Atm d c) (mh:MH) {P:D->MH->Prop}(h:P (.str (mk c)) mh):wV (Aq (Gk (k+1)) fuel f26 [d] mh) P:=by
 cases d with
 | non =>
  cases ha;rw [← Rt] at h
  exact Gp (show Aq (Gk (k+1)) fuel f26 [.non] mh=some (.str (Str.ofString "none"),mh) by kernel_rfl) h
 | bl b =>
  cases b
  ·cases ha
   exact Gp (show Aq (Gk (k+1)) fuel f26 [.bl false] mh=some (.str (Str.ofString "no"),mh) by kernel_rfl) (by rw [Rt];exact h)
  ·cases ha
   exact Gp (show Aq (Gk (k+1)) fuel f26 [.bl true] mh=some (.str (Str.ofString "yes"),mh) by kernel_rfl) (by rw [Rt];exact h)
 | str x =>
  obtain ⟨rfl,_⟩:=ha;exact Gp (show Aq (Gk (k+1)) fuel f26 [.str (mk c)] mh=some (.str (mk c),mh) by kernel_rfl) h
 | int i =>
  obtain ⟨hb,rfl⟩:=ha;refine Di (gH k) Q9.1 Q9.2 rfl ?_;show wS (b26 k) [some (.int i)] mh _;unfold b26
  walk_at "x0"
  refine Gp (d:=.bl false) (h:=mh) rfl ?_
  walk_at "x0"
  refine Gp (d:=.bl false) (h:=mh) rfl ?_
  walk_at "x0"
  refine Gp (d:=.bl false) (h:=mh) rfl ?_
  walk_at "x0"
  refine str_int hb ?_
  walk_at "x0"
  exact h
 | _=>exact ha.elim
theorem jA {fn:Fn}{n:Nat}{ds:List D}{ls:List (List Pc)}{loc:DL.Loc}{mh:MH}{P:D->MH->Prop}(ha:All2 (Tg n) ds ls) (hB:(Ab (ls.map txt)).length<=20000) (el:loc[0]?=some (some (.tup ds)))
  (hf:∀ d ps h {Q:D->MH->Prop},Tg n d ps->(txt ps).length<=20000->(∀ h',Ext [] h h'->Q (.str (mk (txt ps))) h')->wV (fn [d] h) Q) (h:∀ h',Ext [] mh h'->P (.str (mk (40::(Ab (ls.map txt)++[41])))) h') :
  wD (dop Bk (dop Bk (Zr (.str (Str.ofString "("))) (Ay "str" Ti (Zr (.str (Str.ofString " "))) (Aa (Ci (Cg (vr 0)) [none,none] (Av 1) (Zr true) (Ar fn (Aa (vr 1) (Zr [])))) (Zr [])))) (Zr (.str (Str.ofString ")")))) loc mh P:=by
 have hl:=ha.len;have e1:ds=(ds.zip ls).map (·.1):=by rw [List.map_fst_zip (by omega)]
 have e2:(ds.zip ls).map (fun z=>D.str (mk (txt z.2)))=(ls.map txt).map fun x=>.str (mk x):=by
  have:(ds.zip ls).map (·.2)=ls:=List.map_snd_zip (by omega);rw [List.map_map]
  conv=>rhs;rw [← this]
  rw [List.map_map];rfl
 have len1:∀ x∈ls,(txt x).length<=20000:=fun x hx=>Nat.le_trans (Rr (List.mem_map.mpr ⟨x,hx,rfl⟩)) hB
 have hz:ls.length<=20001:=by have:=Gs (ls.map txt);rw [List.length_map] at this;omega
 walk_at "x0"
 refine ⟨rfl,?_⟩
 walk_at "x0"
 refine Uh (ds.zip ls) (·.1) (fun z=>.str (mk (txt z.2))) (by rw [List.length_zip];omega) ?_ (fun z h' Q hz' ex hQ=>?_) fun h1 x1=>?_
 ·exact Q5 (Mv el ⟨rfl,_,rfl,Xo e1⟩)
 ·refine Fx ⟨rfl,?_⟩
  walk_at "x0"
  exact hf z.1 z.2 h' (ha.zipm z hz') (len1 _ (List.of_mem_zip hz').2) hQ
 rw [e2]
 walk_at "x0"
 refine iZ Az (by omega) ?_
 rw [show (Str.ofString "(")=mk [40] by rw [Ai];rfl,show (Str.ofString ")")=mk [41] by rw [Ai];rfl];refine Fy (by rw [Af,Af,List.length_singleton];omega) ?_;rw [Bh]
 walk_at "x0"
 refine Fy (by rw [Af,Af,List.length_append,List.length_singleton,List.length_singleton];omega) ?_;rw [Bh];exact h _ (x1.trans Ext.more)
theorem Tg.tupI {n:Nat}{d:D}{ps:List Pc}(h:Tg (n+1) d ps):(∃ c,Atm d c/\ps=[⟨0,c,d,0⟩])\/∃ ds ls,d=.tup ds/\All2 (Tg n) ds ls/\txt ps=40::(Ab (ls.map txt)++[41]):=by
 rcases h with h|⟨rfl,rfl⟩|⟨ds,ls,h0,rfl,ha,rfl⟩
 ·exact .inl h
 ·exact .inr ⟨[],[],rfl,.nil,rfl⟩
 ·refine .inr ⟨ds,ls,rfl,ha,?_⟩;have hs:All2 (Said n) ds ls:=ha.imp fun _ _=>Tg.said
  have hx:∀ x∈ls,x≠[]:=fun x hx=>by obtain ⟨y,_,r⟩:=hs.mem_r x hx;exact r.ne
  have hn:ls.flatten≠[]:=Lb (fun z=>h0 (by cases ha with | nil=>rfl | cons=>cases z)) hx;rw [Dr (Bl hn),G7 hn,M4 hx]
theorem All2.mem_l {α β:Type}{R:α->β->Prop}:∀ {a:List α}{b:List β},All2 R a b->∀ x∈a,∃ y∈b,R x y
 | _,_,.nil,x,h=>by cases h
 | _,_,.cons r t,x,h=>by
  rcases List.mem_cons.mp h with rfl|h
  ·exact ⟨_,List.mem_cons_self,r⟩
  ·obtain ⟨y,hy,q⟩:=t.mem_l x h;exact ⟨y,List.mem_cons_of_mem _ hy,q⟩
theorem jB:∀ (n k:Nat) (d:D) (ps:List Pc),Tg n d ps->(txt ps).length<=20000->∀ (mh:MH) {P:D->MH->Prop},(∀ h',Ext [] mh h'->P (.str (mk (txt ps))) h')->wV (Aq (Gk (k+n+1)) fuel f26 [d] mh) P:=by
 intro n
 induction n with
 | zero =>
  rintro k d ps ⟨c,ha,rfl⟩ hB mh P h;rw [Jd] at h;exact Pj k d c ha mh (h mh Ext.refl)
 | succ n ih =>
  intro k d ps T hB mh P h;rcases T.tupI with ⟨c,ha,rfl⟩|⟨ds,ls,rfl,ha,et⟩
  ·rw [Jd] at h;exact Pj (k+(n+1)) d c ha mh (h mh Ext.refl)
  ·rw [et] at h hB;refine Di (gH (k+n+1)) Q9.1 Q9.2 rfl ?_;show wS (b26 (k+n+1)) [some (.tup ds)] mh _;unfold b26
   refine Bw (Ua (V5 (V4 (Mv rfl (Wa (t := "tuple") rfl rfl ?_)))));refine fO (fL (Bw (fB ?_)));refine jA (fn:=Aq (Gk (k+n+1)) fuel f26) ha (by simp only [List.length_cons,List.length_append] at hB;omega) rfl (fun d ps h Q t b q=>ih k d ps t b h q) fun h' x'=>?_
   walk_at "x0"
   exact h h' x'
noncomputable def S3 (mh:MH) (n:Nat):Prop:=∃ a b c:Int,mh[n]?=some (.lst [.int a,.int b,.int c])
noncomputable def StV (mh:MH) (n:Nat):Prop:=(∃ a:Int,mh[n]?=some (.lst [.int a]))\/S3 mh n
theorem StV.lt {mh:MH}{n:Nat}(h:StV mh n):n < mh.length:=by
 rcases h with ⟨a,e⟩ | ⟨a,b,c,e⟩ <;> exact (List.getElem?_eq_some_iff.mp e).1
theorem StV.ext {mh mh':MH}{n:Nat}{W:List Nat}(h:StV mh n) (e:Ext W mh mh') (hn:n ∉ W):StV mh' n:=by
 rcases h with ⟨a,q⟩|⟨a,b,c,q⟩
 ·exact .inl ⟨a,e.old _ _ hn q⟩
 ·exact .inr ⟨a,b,c,e.old _ _ hn q⟩
theorem Cw (k n:Nat) (b:Int) (mh:MH) (hs:StV mh n) (h0:0 < b) (h1:b.natAbs < 1606938044258990275541962092341162602522202993782792835301376) {P:D->MH->Prop}(h:∀ (r:Nat) (mh':MH),(r:Int) < b->Ext [n] mh mh'->StV mh' n->P (.int r) mh') :
  wV (Aq (Gk (k+1)) fuel f23 [.ref n,.int b] mh) P:=by
 have nat:∀ (i:Int) (mh':MH),Ext [n] mh mh'->S3 mh' n->P (.int (i.fmod b)) mh':=fun i mh' e s=>by
  have l1:=gO i h0;have l2:=gP i h0;have e1:((i.fmod b).toNat:Int)=i.fmod b:=by omega
  have:=h (i.fmod b).toNat mh' (by omega) e (.inr s);rw [e1] at this;exact this
 have hlt:=hs.lt;refine Di (wW k) fW.1 fW.2 rfl ?_;show wS (b23 k) [some (.ref n),some (.int b),none,none] mh _;unfold b23;refine Bw (Fw (P:=fun f l h'=>f=.nx/\l=[some (.ref n),some (.int b),none,none]/\Ext [n] mh h'/\S3 h' n) ?_ ?_)
 ·rcases hs with ⟨a,e⟩|⟨a,b',c,e⟩
  ·walk_at "r"
   refine Fd (by intro z z';cases z') (Dj e) ?_;walk_at "r"
   refine ⟨ty_list e,?_⟩;walk_at "r"
   refine Fb (j:=0) e rfl ?_;walk_at "r"
   refine Hw (by decide) ?_;walk_at "r"
   refine ⟨by simp,?_⟩;have e2:=(Ext.more (W:=[]) (g:=[MO.lst [D.int (a.fmod 2147483647),D.int 0]])).old _ _ (by simp) e;walk_at "r"
   refine Rm e2 Az (by simp) ?_;walk_at "r"
   exact ⟨rfl,rfl,Ext.more.trans Ext.set,_,_,_,Jv e2⟩
  ·walk_at "r"
   refine Fd (by intro z z';cases z') (Dj e) ?_;walk_at "r"
   exact ⟨rfl,rfl,Ext.refl,_,_,_,e⟩
 ·rintro f l mh1 ⟨rfl,rfl,ex1,s0,s1,s2,hm⟩;walk_at "r"
  refine Fb (j:=0) hm rfl ?_;walk_at "r"
  refine Eo (fun e2=>?_) fun e2=>?_
  ·walk_at "r"
   refine Fb (j:=0) hm rfl ?_;walk_at "r"
   refine Hw (by omega) ?_;walk_at "r"
   refine Fb (j:=0) hm rfl ?_;walk_at "r"
   refine K9 (by omega) h1 ?_;walk_at "r"
   refine ⟨_,Ub (k:=0) hm (by simp),?_⟩;walk_at "r"
   have hm2:=Jv (o:=.lst [.int (s0.fdiv b),.int s1,.int s2]) hm;exact nat _ _ (ex1.trans Ext.set) ⟨_,_,_,hm2⟩
  ·walk_at "r"
   refine Fb (j:=2) hm rfl ?_;walk_at "r"
   refine ⟨_,Ub (k:=2) hm (by simp),?_⟩;have hm2:=Jv (o:=.lst [.int s0,.int s1,.int (s2+1)]) hm;walk_at "r"
   refine Fb (j:=1) hm2 rfl ?_;walk_at "r"
   refine Fb (j:=2) hm2 rfl ?_;refine La (.inl ⟨by decide,by decide⟩) ?_;walk_at "r"
   refine La (.inr ⟨by decide,by decide⟩) ?_;walk_at "r"
   refine Hw (by decide) ?_;generalize (s1+7919 * (s2+1)+1) * 48271=y;have l1:=gO y (j:=2147483647) (by decide);have l2:=gP y (j:=2147483647) (by decide);generalize y.fmod 2147483647=z at l1 l2;walk_at "r"
   refine K9 (by decide) (by decide) ?_;walk_at "r"
   refine La (.inl ⟨by omega,by omega⟩) ?_;walk_at "r"
   refine Hw (by decide) ?_;generalize z * (z.fdiv 1009+69621)=y2;have m1:=gO y2 (j:=2147483647) (by decide);have m2:=gP y2 (j:=2147483647) (by decide);generalize y2.fmod 2147483647=z2 at m1 m2;walk_at "r"
   refine K9 (by decide) (by decide) ?_;walk_at "r"
   refine La (.inl ⟨by omega,by omega⟩) ?_;walk_at "r"
   refine Hw (by decide) ?_;walk_at "r"
   refine Hw (by omega) ?_;walk_at "r"
   exact nat _ _ (ex1.trans Ext.set) ⟨_,_,_,hm2⟩
theorem Zv (r:Nat) (h:r < 26):atI (Str.ofString "abcdefghijklmnopqrstuvwxyz").cps.toList (r:Int)=some (97+r):=by
 refine Fq ?_;rw [PyProof.Rows.signs_ofString]
 have:∀ y:Fin 26,(codes "abcdefghijklmnopqrstuvwxyz")[y.val]?=some (97+y.val):=by decide +kernel
 exact this ⟨r,h⟩
theorem jC (k js:Nat) (mh:MH) (hs:StV mh js) {P:D->MH->Prop}(h:∀ (c:List Nat) h',isWord c->Ext [js] mh h'->StV h' js->P (.str (mk c)) h'):wV (Aq (Gk (k+2)) fuel f24 [.ref js] mh) P:=by
 refine Di (wX (k+1)) fX.1 fX.2 rfl ?_;show wS (b24 (k+1)) [some (.ref js),none,none] mh _;unfold b24
 walk_at "x0"
 refine Mw (Ju ?_)
 walk_at "x0"
 refine Cw k js 8 mh hs (by decide) (by decide) fun r h1 hr x1 s1=>?_
 walk_at "x0"
 have er:(1:Int)+(r:Int)=((r+1:Nat):Int):=by omega
 rw [er];refine ⟨_,Gn (by omega),(List.range (r+1)).map Zi,fun i l h=>∃ c x2,l=[some (.ref js),some (.str (mk c)),x2]/\c.length=i/\i<=r+1/\(∀ x∈c,97<=x/\x<=122)/\Ext [js] mh h/\StV h js,⟨[],none,rfl,rfl,Nat.zero_le _,by simp,x1,s1⟩,fun _ _ _ _=>⟨rfl,Eh _⟩,?_,?_⟩
 ·rintro i d l h4 ed ⟨c,x2,rfl,hc,hi,hx,y4,s4⟩;have hi:i < r+1:=by
   have:=(List.getElem?_eq_some_iff.mp ed).1
   simpa using this
  walk_at "x0"
  refine Cw k js 26 h4 s4 (by decide) (by decide) fun q h5 hq x5 s5=>?_
  walk_at "x0"
  refine Jw (by decide +kernel) (Zv q (by omega)) ?_
  walk_at "x0"
  refine Fy (a:=mk c) (b:=mk [97+q]) (by rw [Af,Af,List.length_singleton];omega) ?_;rw [Bh]
  walk_at "x0"
  refine ⟨c++[97+q],_,rfl,by rw [List.length_append,hc];rfl,hi,fun x hx'=>?_,y4.trans x5,s5⟩;rcases List.mem_append.mp hx' with z|z
  ·exact hx x z
  ·rw [List.mem_singleton.mp z];omega
 ·rintro l h4 ⟨c,x2,rfl,hc,_,hx,y4,s4⟩;rw [List.length_map,List.length_range] at hc;have ok:PyData.strOk (mk c)=true:=Ep fun x h=>(hx x h).2
  walk_at "x0"
  have g:(h4++[MO.lst [.str (Str.ofString "none"),.str (Str.ofString "yes"),.str (Str.ofString "no")]])[h4.length]?=some (.lst ([Str.ofString "none",Str.ofString "yes",Str.ofString "no"].map D.str)):=Az;have e:=oA (w:=mk c) ok (by decide +kernel) g;refine fK (Aai e ?_)
  have e2:([Str.ofString "none",Str.ofString "yes",Str.ofString "no"].any (·==mk c))=decide (c=codes "none"\/c=codes "yes"\/c=codes "no"):=by
   have b:∀ s:String,(Str.ofString s==mk c)=decide (c=codes s):=fun s=>by
    rw [Bool.eq_iff_iff,beq_iff_eq,decide_eq_true_eq,Ai];exact ⟨fun z=>(mk_inj z).symm,fun z=>by rw [z]⟩
   simp only [List.any_cons,List.any_nil,Bool.or_false,b,Bool.decide_or]
  rw [e2]
  by_cases hw:c=codes "none"\/c=codes "yes"\/c=codes "no"
  ·rw [decide_eq_true hw]
   walk_at "x0"
   rw [Ai]
   exact h (codes "word") _ ⟨by decide +kernel,by decide +kernel,by decide +kernel,by decide +kernel,by decide +kernel,by decide +kernel⟩ (y4.trans Ext.more) (s4.ext (Ext.more (W:=[])) (by simp))
  ·rw [decide_eq_false hw]
   walk_at "x0"
   refine h c _ ⟨fun z=>?_,by omega,hx,fun z=>hw (.inl z),fun z=>hw (.inr (.inl z)),fun z=>hw (.inr (.inr z))⟩ (y4.trans Ext.more) (s4.ext (Ext.more (W:=[])) (by simp));rw [z] at hc;simp at hc
noncomputable def bd:Nat->Nat
 | 0=>61
 | n+1=>6+4 * bd n
theorem qP:∀ n,61<=bd n
 | 0=>Nat.le_refl _
 | n+1=>by have:=qP n;show 61<=6+4 * bd n;omega
theorem join_le {B:Nat}:∀ {ls:List (List Nat)},(∀ x∈ls,x.length<=B)->(Ab ls).length<=ls.length * (B+1)
 | [],_=>by simp [Ab]
 | [x],h=>by
  have:=h x List.mem_cons_self;show x.length<=1 * (B+1);omega
 | x::y::r,h=>by
  have ih:=join_le (ls:=y::r) fun z hz=>h z (List.mem_cons_of_mem _ hz)
  have hx:=h x List.mem_cons_self;show (x++32::Ab (y::r)).length<=((y::r).length+1) * (B+1);rw [List.length_append,List.length_cons,Nat.add_mul];omega
theorem J8 {n:Nat}{ds:List D}{ls:List (List Pc)}(ha:All2 (Tg n) ds ls):∃ ps,Tg (n+1) (.tup ds) ps/\txt ps=40::(Ab (ls.map txt)++[41]):=by
 cases ha with
 | nil=>exact ⟨[⟨1,[],.non,1⟩],.inr (.inl ⟨rfl,rfl⟩),rfl⟩
 | @cons d l ds ls r t =>
  have ha:All2 (Tg n) (d::ds) (l::ls):=.cons r t;have hs:All2 (Said n) (d::ds) (l::ls):=ha.imp fun _ _=>Tg.said
  have hx:∀ x∈l::ls,x≠[]:=fun x hx=>by obtain ⟨y,_,r⟩:=hs.mem_r x hx;exact r.ne
  have hn:(l::ls).flatten≠[]:=Lb (by simp) hx;exact ⟨_,.inr (.inr ⟨_,_,by simp,rfl,ha,rfl⟩),by rw [Dr (Bl hn),G7 hn,M4 hx]⟩
theorem Tg.atom {n:Nat}{d:D}{c:List Nat}(h:Atm d c):∃ ps,Tg n d ps/\(txt ps).length<=bd n:=by
 refine ⟨[⟨0,c,d,0⟩],?_,?_⟩
 ·cases n with
  | zero=>exact ⟨c,h,rfl⟩
  | succ n=>exact .inl ⟨c,h,rfl⟩
 ·rw [Jd];exact Nat.le_trans h.ok.2.1 (qP n)
theorem Nq (n k js:Nat) (mh:MH) (hs:StV mh js) {P:D->MH->Prop}
  (IH:∀ m,m+1=n->∀ (mh:MH),StV mh js->∀ {Q:D->MH->Prop},(∀ d ps h',Tg m d ps->(txt ps).length<=bd m->Ext [js] mh h'->StV h' js->Q d h')->wV (Aq (Gk (k+n+2)) fuel f25 [.ref js,.int m] mh) Q)
  (h:∀ d ps h',Tg n d ps->(txt ps).length<=bd n->Ext [js] mh h'->StV h' js->P d h'):wV (Aq (Gk (k+n+3)) fuel f25 [.ref js,.int n] mh) P:=by
 have atm:∀ d c h',Atm d c->Ext [js] mh h'->StV h' js->P d h':=fun d c h' a x s=>by
  obtain ⟨ps,t,b⟩:=Tg.atom (n:=n) a;exact h d ps h' t b x s
 have out:∀ {h' h2:MH} {j:Nat} {o:MO},StV h' js->Ext [js] h' h2->h'.length<=j->∀ {h3:MH},h3[j]?=some o->Ext [js] h3 h2->h2[j]?=some o:=fun s _ hj _ e x3=>x3.old _ _ (by have:=s.lt;simp;omega) e
 refine Di (wY (k+n+2)) fY.1 fY.2 rfl ?_;show wS (b25 (k+n+2)) [some (.ref js),some (.int n),none,none] mh _;unfold b25;refine Bw (V7 ?_)
 walk_at "x0"
 refine Cw (k+n+1) js 8 mh hs (by decide) (by decide) fun r h1 hr x1 s1=>?_
 refine Fx (Cu (Bw (Ua (Ak (P:=fun c h=>h=h1/\(c=true->0 < n)) ?_ ?_))))
 ·walk_at "x0"
  refine Eo (fun _=>?_) fun _=>?_
  ·walk_at "x0"
   exact ⟨rfl,fun z=>by have:=of_decide_eq_true z;omega⟩
  ·exact ⟨rfl,fun z=>by cases z⟩
 rintro c h2 ⟨rfl,hc⟩;refine Eo (fun e=>?_) fun e=>?_
 ·obtain ⟨m,rfl⟩:∃ m,n=m+1:=⟨n - 1,by have:=hc e;omega⟩
  walk_at "x0"
  refine K8 (Ju ?_)
  walk_at "x0"
  refine Cw (k+(m+1)+1) js 5 h2 s1 (by decide) (by decide) fun q h3 hq x3 s3=>?_
  walk_at "x0"
  refine ⟨_,Gn (by omega),(List.range q).map Zi,fun i acc h=>∃ ls,All2 (Tg m) acc ls/\(∀ l∈ls,(txt l).length<=bd m)/\ls.length=i/\Ext [js] mh h/\StV h js,by simp;omega,⟨[],.nil,by simp,rfl,x1.trans x3,s3⟩,fun _ _ _ _=>⟨rfl,Eh _⟩,?_,?_,?_⟩
  ·rintro i acc h ⟨ls,a,_,rfl,_⟩;rw [a.len];exact Nat.le_refl _
  ·rintro i d acc h4 ed ⟨ls,a,b,rfl,y,s4⟩
   walk_at "x0"
   rw [show ((m+1:Nat):Int) - 1=(m:Int) by omega];refine IH m rfl h4 s4 fun dd ps h5 t5 b5 x5 s5=>?_
   exact ⟨ls++[ps],a.snoc t5,fun l hl=>by
    rcases List.mem_append.mp hl with hl|hl
    ·exact b l hl
    ·rw [List.mem_singleton.mp hl];exact b5,by simp,y.trans x5,s5⟩
  ·rintro acc h4 ⟨ls,a,b,hl,y,s4⟩;rw [List.length_map,List.length_range] at hl
   walk_at "x0"
   refine Uc (Xn _ _) ?_
   walk_at "x0"
   obtain ⟨ps,t,et⟩:=J8 a;refine h _ ps _ t ?_ (y.trans Ext.more) (s4.ext (Ext.more (W:=[])) (by simp));have hj:=join_le (B:=bd m) (ls:=ls.map txt) fun x hx=>by obtain ⟨l,hl,rfl⟩:=List.mem_map.mp hx;exact b l hl
   rw [et,List.length_cons,List.length_append,List.length_singleton];rw [List.length_map,hl] at hj;have:q * (bd m+1)<=4 * (bd m+1):=Nat.mul_le_mul_right _ (by omega);show _<=6+4 * bd m;omega
 refine V6 (Cu (Bw ?_))
 walk_at "x0"
 refine Eo (fun _=>?_) fun _=>?_
 ·walk_at "x0"
  refine Cw (k+n+1) js 3 _ (s1.ext (Ext.more (W:=[])) (by simp)) (by decide) (by decide) fun q h3 hq x3 s3=>?_
  have g:h3[h2.length]?=some (.lst [.non,.bl true,.bl false]):=x3.old _ _ (by have:=s1.lt;simp;omega) Az;have y3:Ext [js] mh h3:=(x1.trans Ext.more).trans x3;refine M9 g (by show q < 3;omega) fun d hd=>?_
  walk_at "x0"
  rcases List.mem_cons.mp hd with rfl|hd
  ·exact atm _ _ h3 (show Atm .non (codes "none") from rfl) y3 s3
  rcases List.mem_cons.mp hd with rfl|hd
  ·exact atm _ _ h3 (show Atm (.bl true) (codes "yes") from rfl) y3 s3
  rw [List.mem_singleton.mp hd]
  exact atm _ _ h3 (show Atm (.bl false) (codes "no") from rfl) y3 s3
 walk_at "x0"
 refine Eo (fun _=>?_) fun _=>?_
 ·walk_at "x0"
  refine jC (k+n) js h2 s1 fun c h3 w x3 s3=>?_
  walk_at "x0"
  exact atm _ c h3 ⟨rfl,w⟩ (x1.trans x3) s3
 walk_at "x0"
 refine fJ (by decide) (by decide) (by decide) ?_
 walk_at "x0"
 refine fJ (by decide) (by decide) (by decide) ?_
 walk_at "x0"
 refine Cw (k+n+1) js 3 _ (s1.ext (Ext.more (W:=[])) (by simp)) (by decide) (by decide) fun q h3 hq x3 s3=>?_
 have g:h3[h2.length]?=some (.lst [.int 10,.int (10 ^ (12:Int).toNat),.int (10 ^ (60:Int).toNat)]):=x3.old _ _ (by have:=s1.lt;simp;omega) Az;have y3:Ext [js] mh h3:=(x1.trans Ext.more).trans x3;refine M9 g (by show q < 3;omega) fun d hd=>?_
 obtain ⟨b,rfl,b0,b1⟩:∃ b:Int,d=.int b/\0 < b/\b<=10 ^ 60:=by
  rcases List.mem_cons.mp hd with rfl|hd
  ·exact ⟨_,rfl,by decide +kernel,by decide +kernel⟩
  rcases List.mem_cons.mp hd with rfl|hd
  ·exact ⟨_,rfl,by decide +kernel,by decide +kernel⟩
  rw [List.mem_singleton.mp hd];exact ⟨_,rfl,by decide +kernel,by decide +kernel⟩
 walk_at "x0"
 have hb:b.natAbs < 1606938044258990275541962092341162602522202993782792835301376:=by
  have:(10:Int) ^ 60 < 1606938044258990275541962092341162602522202993782792835301376:=by decide +kernel
  omega
 refine Cw (k+n+1) js b h3 s3 b0 hb fun v h4 hv x4 s4=>?_
 walk_at "x0"
 refine Cw (k+n+1) js 2 _ (s4.ext (Ext.more (W:=[])) (by simp)) (by decide) (by decide) fun q h5 hq x5 s5=>?_
 have g:h5[h4.length]?=some (.lst [.int v,.int (0 - v)]):=x5.old _ _ (by have:=s4.lt;simp;omega) Az;have y5:Ext [js] mh h5:=((y3.trans x4).trans Ext.more).trans x5;refine M9 g (by show q < 2;omega) fun d hd=>?_
 walk_at "x0"
 have hv:v < 10 ^ 60:=by
  have:((10 ^ 60:Nat):Int)=(10:Int) ^ 60:=by decide +kernel
  omega
 rcases List.mem_cons.mp hd with rfl|hd
 ·exact atm _ _ h5 (show Atm (.int v) (codes (toString (v:Int))) from ⟨by rw [Int.natAbs_natCast];exact hv,rfl⟩) y5 s5
 rw [List.mem_singleton.mp hd];exact atm _ _ h5 (show Atm (.int (0 - v)) (codes (toString (0 - (v:Int)))) from ⟨by rw [Int.zero_sub,Int.natAbs_neg,Int.natAbs_natCast];exact hv,rfl⟩) y5 s5
theorem Zw:∀ (n k js:Nat) (mh:MH),StV mh js->∀ {P:D->MH->Prop},(∀ d ps h',Tg n d ps->(txt ps).length<=bd n->Ext [js] mh h'->StV h' js->P d h')->wV (Aq (Gk (k+n+3)) fuel f25 [.ref js,.int n] mh) P:=by
 intro n
 induction n with
 | zero=>intro k js mh hs P h;exact Nq 0 k js mh hs (fun m hm=>by omega) h
 | succ n ih =>
  intro k js mh hs P h;refine Nq (n+1) k js mh hs (fun m hm mh hs Q hQ=>?_) h;have:m=n:=by omega
  subst this;exact ih k js mh hs hQ
theorem Bs:∀ {l m:List (List Nat)},l≠[]->m≠[]->Ab (l++m)=Ab l++32::Ab m
 | [],_,h,_=>absurd rfl h
 | _,[],_,h=>absurd rfl h
 | [x],y::r,_,_=>rfl
 | x::y::r,z::t,_,_=>by
  show x++32::Ab ((y::r)++(z::t))=(x++32::Ab (y::r))++32::Ab (z::t);rw [Bs (l:=y::r) (by simp) (by simp)];simp
theorem Dt:∀ (l m:List (List Nat)) (x y:List Nat),Ab (l++(x++y)::m)=Ab (l++[x])++Ab (y::m)
 | [],[],_,_=>rfl
 | [],z::m,x,y=>by show (x++y)++32::Ab (z::m)=x++(y++32::Ab (z::m));simp
 | [w],m,x,y=>by
  show w++32::Ab ([]++(x++y)::m)=(w++32::x)++Ab (y::m);rw [Dt [] m x y];show w++32::(x++Ab (y::m))=_;simp
 | w::v::l,m,x,y=>by
  show w++32::Ab ((v::l)++(x++y)::m)=(w++32::Ab ((v::l)++[x]))++Ab (y::m);rw [Dt (v::l) m x y];simp
theorem Lf {c:List Nat}{x:Nat}(hx:x∈c) (h1:x ∉ codes "abcdefghijklmnopqrstuvwxyz") (h2:x ∉ codes "0123456789") (h3:x≠45):plB c=false:=by
 have nm:∀ s:String,(∀ y∈codes s,y∈codes "abcdefghijklmnopqrstuvwxyz")->decide (c=codes s)=false:=fun s hs=>decide_eq_false fun e=>h1 (hs x (e ▸ hx))
 have al:∀ {f:List Nat} {s:String},x∈f->x ∉ codes s->(f.all fun x=>decide (x∈codes s))=false:=fun {f s} hf hn=>by
  rw [Bool.eq_false_iff];intro z;exact hn (of_decide_eq_true (List.all_eq_true.mp z x hf))
 have hf:x∈J4 c:=by
  unfold J4;split
  ·rename_i e;cases c with
   | nil=>cases hx
   | cons a r =>
    rcases List.mem_cons.mp hx with rfl|hx
    ·exact absurd (Option.some.inj e) h3
    ·exact hx
  ·exact hx
 unfold plB isN
 rw [nm "none" (by decide +kernel),nm "yes" (by decide +kernel),nm "no" (by decide +kernel),al hx h1,al hf h2];simp
theorem jD {r:List Nat}(hr:r≠[]):plB (48::r)=false:=by
 have nm:∀ s:String,(codes s).head?≠some 48->decide (48::r=codes s)=false:=fun s hs=>decide_eq_false fun e=>hs (by rw [← e];rfl)
 unfold plB isN J4
 rw [nm "none" (by decide +kernel),nm "yes" (by decide +kernel),nm "no" (by decide +kernel),List.all_cons,decide_eq_false (J1 (x:=48) (by decide)),if_neg (by simp),decide_eq_false (show ¬ 48::r=[48] from fun z=>hr (List.cons.inj z).2)];simp
theorem Aal {d:List Nat}(h0:d≠[]) (hd:∀ x∈d,48<=x/\x<=57):plB (d++[120])=false:=by
 cases d with
 | nil=>exact absurd rfl h0
 | cons a r =>
  have ha:=hd a List.mem_cons_self;have nm:∀ s:String,(∀ y∈codes s,97<=y)->decide (a::r++[120]=codes s)=false:=fun s hs=>decide_eq_false fun e=>by have:=hs a (by rw [← e];simp);omega
  have h120:(120:Nat) ∉ codes "0123456789":=by decide +kernel
  have al:((a::r++[120]).all fun x=>decide (x∈codes "0123456789"))=false:=by
   rw [Bool.eq_false_iff];intro z;exact h120 (of_decide_eq_true (List.all_eq_true.mp z 120 (by simp)))
  have hh:(a::r++[120]).head?≠some 45:=by simp;omega
  unfold plB isN J4
  rw [nm "none" (by decide +kernel),nm "yes" (by decide +kernel),nm "no" (by decide +kernel),if_neg hh,al]
  have:((a::r++[120]).all fun x=>decide (x∈codes "abcdefghijklmnopqrstuvwxyz"))=false:=by
   rw [List.cons_append,List.all_cons,decide_eq_false (J1 (x:=a) (by omega))];rfl
  rw [this];simp
section
variable {k:Nat}
theorem Nr (a b:Nat) (c:List Nat) (ps:List Pc) (rest:List (List Nat)) (x:Str) (hpc:∀ p∈ps,p.c=[]\/Atm p.v p.c) (gd:good ps 1) (B:BadP (ends ps 1) a c b) (hr:∀ x∈rest,32 ∉ x) (hc:32 ∉ c)
  (hB:(Ab (ps.map Pc.rend++(List.replicate a 40++(c++List.replicate b 41))::rest)).length<=20000) (e:x=mk (Ab (ps.map Pc.rend++(List.replicate a 40++(c++List.replicate b 41))::rest))):Ref k (.str x):=by
 subst e;refine Np k _ fun mh=>oW k a b c ps rest hpc gd B hr hc ?_ (by omega) mh
 have:=Gs (ps.map Pc.rend++(List.replicate a 40++(c++List.replicate b 41))::rest);rw [List.length_append,List.length_map] at this;omega
theorem Aam (ps:List Pc) (x:Str) (h0:ps≠[]) (hpc:∀ p∈ps,p.c=[]\/Atm p.v p.c) (gd:good ps 1) (he:ends ps 1≠1) (hB:(txt ps).length<=20000) (e:x=mk (txt ps)):Ref k (.str x):=by
 subst e;exact Np k _ fun mh=>oX k ps h0 hpc gd he hB mh
theorem Lg (a b:Nat) (c:List Nat) (x:Str) (B:BadP 1 a c b) (hc:32 ∉ c) (hl:a+(c.length+b)<=20000) (e:x=mk (List.replicate a 40++(c++List.replicate b 41))):Ref k (.str x) :=
 Nr a b c [] [] x (by simp) trivial B (by simp) hc (by show (List.replicate a 40++(c++List.replicate b 41)).length<=_;simp <;> omega) e
theorem J5 {n:Nat}(a:Nat) (c:List Nat) (b:Nat) (ha:a<=100000) (hb:b<=100000) (hl:c.length<=100000) (hc:∀ x∈c,x<=122) (hd:c.head?≠some 40) (h0:c≠[]) (tl:c.getLast?≠some 41) (pl:plB c=false):BadP n a c b :=
 ⟨ha,hb,hl,hc,by cases c with | nil=>exact absurd rfl h0 | cons x r=>exact hd,tl,.inr (.inr (.inr ⟨h0,pl⟩))⟩
noncomputable def Uj (l:List Nat):List Nat:=(l.dropWhile (·==40)).reverse.dropWhile (·==41) |>.reverse
noncomputable def oY (l:List Nat):Nat:=(l.takeWhile (·==40)).length
noncomputable def oZ (l:List Nat):Nat:=((l.dropWhile (·==40)).reverse.takeWhile (·==41)).length
noncomputable def chk (l:List Nat):Bool:=decide (l=List.replicate (oY l) 40++(Uj l++List.replicate (oZ l) 41))&&(decide (l.length<=1000)&&(decide (∀ x∈Uj l,x<=122)&&(decide ((Uj l++List.replicate (oZ l) 41).head?≠some 40)&&(decide ((Uj l).getLast?≠some 41)&&(decide (32 ∉ Uj l)&&decide ((Uj l=[]/\(oY l=0\/oZ l=0))\/31 < 1+oY l\/1+oY l<=oZ l\/(Uj l≠[]/\plB (Uj l)=false)))))))
theorem pA (s:Str) (h:chk s.cps.toList=true):Ref k (.str s):=by
 unfold chk at h;simp only [Bool.and_eq_true,decide_eq_true_eq] at h;obtain ⟨h1,h2,h3,h4,h5,h6,h7⟩:=h;have hl:=congrArg List.length h1;simp only [List.length_append,List.length_replicate] at hl;exact Lg _ _ _ s ⟨by omega,by omega,by omega,h3,h4,h5,h7⟩ h6 (by omega) (by rw [← h1])
end
structure Inn (L:List Pc) (ds:List D):Prop where
 ne:L≠[]
 pc:∀ p∈L,p.c=[]\/Atm p.v p.c
 go:∀ (s:Stk) (x:List D),goes L (s++[x])=s++[x++ds]
 gd:∀ h,1<=h->h<=20->good L h/\ends L h=h
 len:(txt L).length<=6000
section
variable {L:List Pc}{ds:List D}{k:Nat}
theorem Inn.pcO (I:Inn L ds):∀ p∈opn L,p.c=[]\/Atm p.v p.c:=Nb (P:=fun c v=>c=[]\/Atm v c) I.pc
theorem Inn.pcC (I:Inn L ds):∀ p∈cls L,p.c=[]\/Atm p.v p.c:=Rj (P:=fun c v=>c=[]\/Atm v c) I.pc
theorem Inn.pcP (I:Inn L ds):∀ p∈opn (cls L),p.c=[]\/Atm p.v p.c:=Nb (P:=fun c v=>c=[]\/Atm v c) I.pcC
theorem Inn.txt (I:Inn L ds):txt (opn (cls L))=40::(txt L++[41]):=by rw [Dr (Bl I.ne),G7 I.ne]
theorem Inn.gdP (I:Inn L ds) (h:Nat) (h1:1<=h) (h2:h<=10):good (opn (cls L)) h/\ends (opn (cls L)) h=h:=by
 obtain ⟨g1,g2⟩:=I.gd (h+1) (by omega) (by omega);obtain ⟨g3,g4⟩:=M8 I.ne g1 (by omega);obtain ⟨g5,g6⟩:=Gq (Bl I.ne) g3;exact ⟨g5,by rw [g6,g4,g2];rfl⟩
theorem Inn.gdO (I:Inn L ds):good (opn L) 1/\ends (opn L) 1=2:=by
 obtain ⟨g1,g2⟩:=I.gd 2 (by omega) (by omega);obtain ⟨g5,g6⟩:=Gq I.ne g1;exact ⟨g5,by rw [g6,g2]⟩
theorem Inn.goP (I:Inn L ds) (s:Stk) (x:List D):goes (opn (cls L)) (s++[x])=s++[x++[.tup ds]]:=by
 rw [Ug (Bl I.ne),M5 I.ne,I.go (s++[x]) [],Fg,Eg];rfl
theorem Nt {l:List Pc}(h:∀ p∈l,p.c=[]\/Atm p.v p.c):∀ x∈l.map Pc.rend,32 ∉ x:=fun x hx=>by obtain ⟨p,hp,rfl⟩:=List.mem_map.mp hx;exact Rp (h p hp)
theorem Gu {l:List Pc}(h:l≠[]):l.map Pc.rend≠[]:=by simpa using h
theorem Pc.of (p:Pc):p.rend=List.replicate p.a 40++(p.c++List.replicate p.b 41):=rfl
theorem Uk:∀ {l:List Pc},l≠[]->∃ i p,cls l=i++[p]/\1<=p.b
 | [],h=>absurd rfl h
 | [p],_=>⟨[],_,rfl,by simp⟩
 | p::q::r,_=>by
  obtain ⟨i,z,e,h⟩:=Uk (l:=q::r) (by simp);exact ⟨p::i,z,by show p::cls (q::r)=_;rw [e];rfl,h⟩
theorem jE {i:List Pc}{p:Pc}(h:1<=p.b):∃ i' p',opn (i++[p])=i'++[p']/\1<=p'.b:=by
 cases i with
 | nil=>exact ⟨[],_,rfl,h⟩
 | cons q r=>exact ⟨_::r,p,rfl,h⟩
theorem Inn.last (I:Inn L ds):∃ i p,opn (cls L)=i++[p]/\1<=p.b:=by
 obtain ⟨i,p,e,h⟩:=Uk I.ne;rw [e];exact jE h
theorem Inn.first (I:Inn L ds):∃ q r,opn (cls L)=q::r/\1<=q.a:=by
 cases h:cls L with
 | nil=>exact absurd h (Bl I.ne)
 | cons q r=>exact ⟨_,r,rfl,by simp⟩
theorem Inn.lenP (I:Inn L ds):(Lw.txt (opn (cls L))).length<=6002:=by
 rw [I.txt];have:=I.len;simp;omega
theorem Nu {l:List Pc}{p:Pc}(h:p∈l):p.a+(p.c.length+p.b)<=(Lw.txt l).length:=by
 have:=Rr (List.mem_map.mpr ⟨p,h,rfl⟩:p.rend∈l.map Pc.rend);rw [Pc.of] at this;simp only [List.length_append,List.length_replicate] at this;exact this
theorem Ab0 {p:Pc}(h:p.c=[]\/Atm p.v p.c):32 ∉ p.c:=fun z=>by have:=(Er h).1 _ z;omega
theorem Ru {c:List Nat}{x:Nat}(h:x ∉ c):c.head?≠some x:=fun z=>h (List.mem_of_mem_head? z)
theorem Je {c:List Nat}{x:Nat}(h:x ∉ c):c.getLast?≠some x:=fun z=>h (List.mem_of_mem_getLast? z)
theorem Ul {c d:List Nat}{x:Nat}(h0:d≠[]) (h:x ∉ d):(c++d).getLast?≠some x:=by
 rw [List.getLast?_append];cases e:d.getLast? with
 | none=>exact absurd (List.getLast?_eq_none_iff.mp e) h0
 | some y=>exact fun z=>Je h (e.trans z)
theorem Ab1 (I:Inn L ds):Ref k (.str (Str.ofString " "++mk (txt (opn (cls L))))):=by
 refine Nr 0 0 [] [] ((opn (cls L)).map Pc.rend) _ (by simp) trivial ⟨by omega,by omega,by simp,by simp,by simp,by simp,.inl ⟨rfl,.inl rfl⟩⟩ (Nt I.pcP) (by simp) ?_ ?_
 ·show (Ab ([[]]++(opn (cls L)).map Pc.rend)).length<=_;rw [Bs (by simp) (Gu (Bx (Bl I.ne)))];have:=I.lenP;show ([]++32::txt (opn (cls L))).length<=_;simp;omega
 ·show _=mk (Ab ([[]]++(opn (cls L)).map Pc.rend));rw [Bs (by simp) (Gu (Bx (Bl I.ne))),Ai,Bh];rfl
theorem Ab2 (I:Inn L ds):Ref k (.str (mk (txt (opn (cls L)))++Str.ofString " ")):=by
 obtain ⟨g1,g2⟩:=I.gdP 1 (by omega) (by omega);refine Nr 0 0 [] (opn (cls L)) [] _ I.pcP g1 ⟨by omega,by omega,by simp,by simp,by simp,by simp,.inl ⟨rfl,.inl rfl⟩⟩ (by simp) (by simp) ?_ ?_
 ·show (Ab ((opn (cls L)).map Pc.rend++[[]])).length<=_;rw [Bs (Gu (Bx (Bl I.ne))) (by simp)];have:=I.lenP;show (txt (opn (cls L))++[32]).length<=_;simp;omega
 ·show _=mk (Ab ((opn (cls L)).map Pc.rend++[[]]));rw [Bs (Gu (Bx (Bl I.ne))) (by simp),Ai,Bh];rfl
theorem Ab3 (I:Inn L ds):Ref k (.str (mk (txt (opn (cls L)))++Str.ofString ")")):=by
 obtain ⟨g1,g2⟩:=I.gdP 1 (by omega) (by omega);obtain ⟨i,p,e,hb⟩:=I.last;have hp:=I.pcP p (by rw [e];simp);have hpc:=I.pcP;have hl:=I.lenP;have hin:=Nu (l:=opn (cls L)) (p:=p) (by rw [e];simp);rw [e] at g1 g2 hl hpc hin ⊢;obtain ⟨g3,⟨g4,g5,g6⟩,_⟩:=Ei g1;rw [ends_app] at g2;have g2:ends i 1+p.a - p.b=1:=g2;obtain ⟨c1,c2⟩:=Er hp;have et:txt (i++[p])++[41]=Ab (i.map Pc.rend++[List.replicate p.a 40++(p.c++List.replicate (p.b+1) 41)]):=by
  rw [List.replicate_succ',show List.replicate p.a 40++(p.c++(List.replicate p.b 41++[41]))=p.rend++[41] by rw [Pc.of];simp,Dt];show _=Ab (i.map Pc.rend++[p.rend])++[41];unfold Lw.txt;rw [List.map_append];rfl
 refine Nr p.a (p.b+1) p.c i [] _ (fun q hq=>hpc q (by simp [hq])) g3 ⟨by omega,by omega,by omega,fun x hx=>(c1 x hx).2,Xr c1 _,Xu c1,.inr (.inr (.inl (by omega)))⟩ (by simp) (Ab0 hp) ?_ ?_
 ·rw [← et];simp;omega
 ·rw [← et,Ai,Bh];rfl
theorem Ab4 (I:Inn L ds):Ref k (.str (Str.ofString "("++mk (txt (opn (cls L))))):=by
 obtain ⟨g1,g2⟩:=I.gdP 2 (by omega) (by omega);obtain ⟨g3,g4⟩:=Gq (Bx (Bl I.ne)) g1;refine Aam (opn (opn (cls L))) _ (Bx (Bx (Bl I.ne))) (Nb (P:=fun c v=>c=[]\/Atm v c) I.pcP) g3 (by rw [g4,g2];decide) ?_ ?_
 ·rw [Dr (Bx (Bl I.ne))];have:=I.lenP;simp;omega
 ·rw [Dr (Bx (Bl I.ne)),Ai,Bh];rfl
theorem Ab5 (I:Inn L ds):Ref k (.str (Str.ofString "( "++mk (txt L++[41]))):=by
 have e:Ab ([[40]]++(cls L).map Pc.rend)=40::32::(txt L++[41]):=by
  rw [Bs (by simp) (Gu (Bl I.ne))];show 40::32::txt (cls L)=_;rw [G7 I.ne]
 have:=I.len;refine Nr 1 0 [] [] ((cls L).map Pc.rend) _ (by simp) trivial ⟨by omega,by omega,by simp,by simp,by simp,by simp,.inl ⟨rfl,.inr rfl⟩⟩ (Nt I.pcC) (by simp) ?_ ?_
 ·show (Ab ([[40]]++(cls L).map Pc.rend)).length<=_;rw [e];simp;omega
 ·show _=mk (Ab ([[40]]++(cls L).map Pc.rend));rw [e,Ai,Bh];rfl
theorem Ab6 (I:Inn L ds):Ref k (.str (mk (40::txt L)++Str.ofString " )")):=by
 obtain ⟨g1,g2⟩:=I.gdO;have e:Ab ((opn L).map Pc.rend++[[41]])=40::txt L++[32,41]:=by
  rw [Bs (Gu (Bx I.ne)) (by simp)];show txt (opn L)++[32,41]=_;rw [Dr I.ne]
 have:=I.len;refine Nr 0 1 [] (opn L) [] _ I.pcO g1 ⟨by omega,by omega,by simp,by simp,by simp,by simp,.inl ⟨rfl,.inl rfl⟩⟩ (by simp) (by simp) ?_ ?_
 ·show (Ab ((opn L).map Pc.rend++[[41]])).length<=_;rw [e];simp;omega
 ·show _=mk (Ab ((opn L).map Pc.rend++[[41]]));rw [e,Ai,Bh];rfl
theorem Ab7 (I:Inn L ds):Ref k (.str (mk (txt (opn (cls L)))++Str.ofString "\n")):=by
 obtain ⟨g1,g2⟩:=I.gdP 1 (by omega) (by omega);obtain ⟨i,p,e,hb⟩:=I.last;have hp:=I.pcP p (by rw [e];simp);have hpc:=I.pcP;have hl:=I.lenP;have hin:=Nu (l:=opn (cls L)) (p:=p) (by rw [e];simp);rw [e] at g1 g2 hl hpc hin ⊢;obtain ⟨g3,⟨g4,g5,g6⟩,_⟩:=Ei g1;obtain ⟨c1,c2⟩:=Er hp;have et:txt (i++[p])++[10]=Ab (i.map Pc.rend++[List.replicate p.a 40++((p.c++List.replicate p.b 41++[10])++List.replicate 0 41)]):=by
  rw [show List.replicate p.a 40++((p.c++List.replicate p.b 41++[10])++List.replicate 0 41)=p.rend++[10] by rw [Pc.of];simp,Dt];show _=Ab (i.map Pc.rend++[p.rend])++[10];unfold Lw.txt;rw [List.map_append];rfl
 have mem:∀ x∈p.c++List.replicate p.b 41++[10],(45<=x/\x<=122)\/x=41\/x=10:=fun x hx=>by
  rcases List.mem_append.mp hx with hx|hx
  ·rcases List.mem_append.mp hx with hx|hx
   ·exact .inl (c1 x hx)
   ·exact .inr (.inl (List.eq_of_mem_replicate hx))
  ·exact .inr (.inr (List.mem_singleton.mp hx))
 refine Nr p.a 0 (p.c++List.replicate p.b 41++[10]) i [] _ (fun q hq=>hpc q (by simp [hq])) g3 (J5 _ _ _ (by omega) (by omega) (by simp;omega) (fun x hx=>by have:=mem x hx;omega) (Ru fun z=>by have:=mem _ z;omega) (by simp) (Ul (by simp) (by simp)) (Lf (x:=10) (by simp) (by decide +kernel) (by decide +kernel) (by decide))) (by simp) (fun z=>by have:=mem _ z;omega) ?_ ?_
 ·rw [← et];simp;omega
 ·rw [← et,Ai,Bh];rfl
theorem Ab8 (I:Inn L ds):Ref k (.str (mk (txt (opn (cls L)))++Str.ofString " "++mk (txt (opn (cls L))))):=by
 obtain ⟨g1,g2⟩:=I.gdP 1 (by omega) (by omega);have hn:=Bx (Bl I.ne)
 have e:mk (txt (opn (cls L)))++Str.ofString " "++mk (txt (opn (cls L)))=mk (txt (opn (cls L)++opn (cls L))):=by
  rw [Ja hn hn,Ai,Bh,Bh];congr 1;show (txt (opn (cls L))++[32])++txt (opn (cls L))=_;simp
 rw [e];refine iY k _ (by simp [hn]) (fun p hp=>I.pcP p (by simpa using hp)) (M7 g1 (by rw [g2];exact g1)) (by rw [ends_app,g2,g2]) ?_ fun es he=>?_
 ·rw [Ja hn hn];have:=I.lenP;simp;omega
 ·rw [M6,show ([[]]:Stk)=[]++[[]] from rfl,I.goP,I.goP] at he;cases he;exact ⟨by simp,by simp⟩
theorem Ab9 (I:Inn L ds):Ref k (.str (mk (txt (opn (cls L)))++mk (txt (opn (cls L))))):=by
 obtain ⟨g1,g2⟩:=I.gdP 1 (by omega) (by omega);obtain ⟨i,p,e,hb⟩:=I.last;obtain ⟨q,r,e2,ha⟩:=I.first
 have hp:=I.pcP p (by rw [e];simp);have hq:=I.pcP q (by rw [e2];simp);have hpc:=I.pcP;have hl:=I.lenP;have hin:=Nu (l:=opn (cls L)) (p:=p) (by rw [e];simp);have hin2:=Nu (l:=opn (cls L)) (p:=q) (by rw [e2];simp);obtain ⟨c1,c2⟩:=Er hp;obtain ⟨d1,d2⟩:=Er hq;have g3:=(Ei (l:=i) (m:=[p]) (by rw [← e];exact g1)).1;have et:txt (opn (cls L))++txt (opn (cls L))=Ab (i.map Pc.rend++(List.replicate p.a 40++((p.c++List.replicate p.b 41++(List.replicate q.a 40++q.c))++List.replicate q.b 41))::r.map Pc.rend):=by
  rw [show List.replicate p.a 40++((p.c++List.replicate p.b 41++(List.replicate q.a 40++q.c))++List.replicate q.b 41)=p.rend++q.rend by rw [Pc.of,Pc.of];simp,Dt];have a1:txt (opn (cls L))=Ab (i.map Pc.rend++[p.rend]):=by rw [e];unfold Lw.txt;rw [List.map_append];rfl
  have a2:txt (opn (cls L))=Ab (q.rend::r.map Pc.rend):=by rw [e2];rfl
  rw [← a1,← a2]
 have mem:∀ x∈p.c++List.replicate p.b 41++(List.replicate q.a 40++q.c),(45<=x/\x<=122)\/x=41\/x=40:=fun x hx=>by
  rcases List.mem_append.mp hx with hx|hx
  ·rcases List.mem_append.mp hx with hx|hx
   ·exact .inl (c1 x hx)
   ·exact .inr (.inl (List.eq_of_mem_replicate hx))
  ·rcases List.mem_append.mp hx with hx|hx
   ·exact .inr (.inr (List.eq_of_mem_replicate hx))
   ·exact .inl (d1 x hx)
 have hd:(p.c++List.replicate p.b 41++(List.replicate q.a 40++q.c)).head?≠some 40:=by
  have:(p.c++List.replicate p.b 41)≠[]:=by
   intro z;have:=congrArg List.length z;simp at this;omega
  rw [List.head?_append];have hh:(p.c++List.replicate p.b 41).head?≠some 40:=Ru fun z=>by
   rcases List.mem_append.mp z with z|z
   ·have:=c1 _ z;omega
   ·exact absurd (List.eq_of_mem_replicate z) (by decide)
  cases e9:(p.c++List.replicate p.b 41).head? with
  | none=>exact absurd (List.head?_eq_none_iff.mp e9) this
  | some y=>exact fun z=>hh (e9.trans z)
 refine Nr p.a q.b (p.c++List.replicate p.b 41++(List.replicate q.a 40++q.c)) i (r.map Pc.rend) _ (fun z hz=>hpc z (by rw [e];simp [hz])) g3 (J5 _ _ _ (by omega) (by omega) (by simp;omega) (fun x hx=>by have:=mem x hx;omega) hd ?_ (Ul ?_ ?_) (Lf (x:=41) ?_ (by decide +kernel) (by decide +kernel) (by decide))) (Nt fun z hz=>hpc z (by rw [e2];simp [hz])) (fun z=>by have:=mem _ z;omega) ?_ ?_
 ·intro z;have:=congrArg List.length z;simp at this;omega
 ·intro z;have:=congrArg List.length z;simp at this;omega
 ·intro z;rcases List.mem_append.mp z with z|z
  ·exact absurd (List.eq_of_mem_replicate z) (by decide)
  ·have:=d1 _ z;omega
 ·exact List.mem_append.mpr (.inl (List.mem_append.mpr (.inr (List.mem_replicate.mpr ⟨by omega,rfl⟩))))
 ·rw [← et];simp;omega
 ·rw [← et,Bh]
theorem Aan (I:Inn L ds):Ref k (.str (mk (40::txt L))):=by
 obtain ⟨g1,g2⟩:=I.gdO;have:=I.len;refine Aam (opn L) _ (Bx I.ne) I.pcO g1 (by rw [g2];decide) ?_ ?_
 ·rw [Dr I.ne];simp;omega
 ·rw [Dr I.ne]
theorem Aao (I:Inn L ds):Ref k (.str (Str.ofString "\t"++mk (txt (opn (cls L))))):=by
 obtain ⟨q,r,e2,ha⟩:=I.first
 have hq:=I.pcP q (by rw [e2];simp);have hpc:=I.pcP;have hl:=I.lenP;have hin2:=Nu (l:=opn (cls L)) (p:=q) (by rw [e2];simp);obtain ⟨d1,d2⟩:=Er hq;rw [e2] at hl hpc hin2 ⊢;have et:9::txt (q::r)=Ab ([]++(List.replicate 0 40++((9::(List.replicate q.a 40++q.c))++List.replicate q.b 41))::r.map Pc.rend):=by
  rw [show List.replicate 0 40++((9::(List.replicate q.a 40++q.c))++List.replicate q.b 41)=[9]++q.rend by rw [Pc.of];simp,Dt];rfl
 have mem:∀ x∈9::(List.replicate q.a 40++q.c),(45<=x/\x<=122)\/x=9\/x=40:=fun x hx=>by
  rcases List.mem_cons.mp hx with hx|hx
  ·exact .inr (.inl hx)
  ·rcases List.mem_append.mp hx with hx|hx
   ·exact .inr (.inr (List.eq_of_mem_replicate hx))
   ·exact .inl (d1 x hx)
 refine Nr 0 q.b (9::(List.replicate q.a 40++q.c)) [] (r.map Pc.rend) _ (by simp) trivial (J5 _ _ _ (by omega) (by omega) (by simp;omega) (fun x hx=>by have:=mem x hx;omega) (by simp) (by simp) (Je fun z=>by have:=mem _ z;omega) (Lf (x:=9) (by simp) (by decide +kernel) (by decide +kernel) (by decide))) (Nt fun z hz=>hpc z (by simp [hz])) (fun z=>by have:=mem _ z;omega) ?_ ?_
 ·rw [show ([]:List Pc).map Pc.rend=[] from rfl,← et];simp;omega
 ·rw [show ([]:List Pc).map Pc.rend=[] from rfl,← et,Ai,Bh];rfl
theorem Aap (I:Inn L ds):Ref k (.str (Str.ofString "("++mk (txt (opn (cls L)))++Str.ofString "  "++mk (txt (opn (cls L)))++Str.ofString ")")):=by
 obtain ⟨g1,g2⟩:=I.gdP 2 (by omega) (by omega);have hn:=Bx (Bl I.ne);obtain ⟨g3,g4⟩:=Gq hn g1;have e:Ab ((opn (opn (cls L))).map Pc.rend++[]::(cls (opn (cls L))).map Pc.rend)=40::txt (opn (cls L))++32::32::(txt (opn (cls L))++[41]):=by
  rw [Bs (Gu (Bx hn)) (by simp),show ([]:List Nat)::(cls (opn (cls L))).map Pc.rend=[[]]++(cls (opn (cls L))).map Pc.rend from rfl,Bs (by simp) (Gu (Bl hn))];show txt (opn (opn (cls L)))++32::32::txt (cls (opn (cls L)))=_;rw [Dr hn,G7 hn]
 have:=I.lenP;refine Nr 0 0 [] (opn (opn (cls L))) ((cls (opn (cls L))).map Pc.rend) _ (Nb (P:=fun c v=>c=[]\/Atm v c) I.pcP) g3 ⟨by omega,by omega,by simp,by simp,by simp,by simp,.inl ⟨rfl,.inl rfl⟩⟩ (Nt (Rj (P:=fun c v=>c=[]\/Atm v c) I.pcP)) (by simp) ?_ ?_
 ·show (Ab ((opn (opn (cls L))).map Pc.rend++[]::(cls (opn (cls L))).map Pc.rend)).length<=_;rw [e];simp;omega
 ·show _=mk (Ab ((opn (opn (cls L))).map Pc.rend++[]::(cls (opn (cls L))).map Pc.rend));rw [e,Ai,Ai,Ai,Bh,Bh,Bh,Bh];congr 1;show (((40::txt (opn (cls L)))++[32,32])++txt (opn (cls L)))++[41]=_;simp
end
theorem pB:∀ (r:List Nat) (x:Nat),(List.range r.length).filterMap (fun i=>(r++[x])[i]?)=r:=by
 intro r x;have fc:∀ (l:List Nat),(∀ i∈l,i < r.length)->l.filterMap (fun i=>(r++[x])[i]?)=l.filterMap (fun i=>r[i]?):=by
  intro l hl
  induction l with
  | nil=>rfl
  | cons a l ih =>
   rw [List.filterMap_cons,List.filterMap_cons,ih fun i hi=>hl i (List.mem_cons_of_mem _ hi),List.getElem?_append_left (hl a List.mem_cons_self)]
 rw [fc _ fun i hi=>List.mem_range.mp hi];exact Ng r
theorem pC (r:List Nat) (x:Nat):Jk (mk (r++[x])) none (some (-1))=mk r:=by
 have e:Builtin.Str.strSliceIndices none (some (-1)) 1 (mk (r++[x])).length=List.range r.length:=by
  show sliceRange 0 (max 0 (min ((-1:Int)+((r++[x]).length:Int)) ((r++[x]).length:Int))) 1=_;rw [show max 0 (min ((-1:Int)+((r++[x]).length:Int)) ((r++[x]).length:Int))=(r.length:Int) by rw [List.length_append,List.length_singleton];omega];unfold sliceRange;have e1:(if (1:Int) > 0 then (if (0:Int) < (r.length:Int) then ((r.length:Int) - 0+1 - 1) / 1 else 0) else (if (0:Int) > (r.length:Int) then (0 - (r.length:Int) - 1 - 1) / (-1) else 0)).toNat=r.length:=by
   rw [if_pos (by decide),Int.ediv_one];split <;> omega
  dsimp only;rw [e1]
  conv=>rhs;rw [← List.map_id (List.range r.length)]
  exact List.map_congr_left fun i _=>by show _=i;omega
 unfold Jk;rw [e,if_neg (by rw [List.length_range,Af,List.length_append,List.length_singleton];simp)];show Str.mk _=_;congr 1;congr 1;have e2:(fun y:Nat=>(mk (r++[x])).cps[y]?)=fun i:Nat=>(r++[x])[i]?:=by
  funext i;show (r++[x]).toArray[i]?=_;rw [List.getElem?_toArray]
 rw [e2];exact pB r x
noncomputable def num (n:Nat):Str:=mk (codes (toString (n:Int)))
noncomputable def Um (t:List Nat):List D:=[.str (Str.ofString " "++mk (40::(t++[41]))),.str (mk (40::(t++[41]))++Str.ofString " "),.str (mk (40::(t++[41]))++Str.ofString ")"),.str (Str.ofString "("++mk (40::(t++[41]))),.str (Str.ofString "( "++mk (t++[41])),.str (mk (40::t)++Str.ofString " )"),.str (mk (40::(t++[41]))++Str.ofString "\n")]
noncomputable def Rv (t:List Nat):List D:=[.str (mk (40::(t++[41]))++Str.ofString " "++mk (40::(t++[41]))),.str (mk (40::(t++[41]))++mk (40::(t++[41]))),.str (mk (40::t)),.str (Str.ofString "\t"++mk (40::(t++[41]))),.str (Str.ofString "("++mk (40::(t++[41]))++Str.ofString "  "++mk (40::(t++[41]))++Str.ofString ")")]
noncomputable def Uo (n:Nat):List D:=[.str (Str.ofString "+"++num n),.str (Str.ofString "0"++num n),.str (Str.ofString "-0"),.str (Str.ofString "Abc"),.str (Str.ofString "a-b"),.str (num n++Str.ofString "x"),.str (Str.ofString "(1,2)"),.str (Str.ofString "")]
noncomputable def Wl:List D:=[.str (Str.ofString "((1)(2))"),.str (Str.ofString "(a1)"),.str (Str.ofString "(1\t2)"),.str (Str.ofString "(1\n2)"),.str (Str.ofString "-05"),.str (Str.ofString "1_0"),.str (Str.ofString "--5"),.str (Str.ofString "(1 2\n)"),.str (Str.ofString "1\n")]
noncomputable def Zx:List D:=[.str (mk (List.replicate 61 49)),.str (Str.ofString "-"++mk (List.replicate 61 49)),.str (mk (List.replicate 31 40)++mk (List.replicate 31 41)),.str (Str.ofString "-"),.str (Str.ofString "None"),.str (Str.ofString "a1"),.str (Str.ofString "[1]")]
noncomputable def pD (n:Nat):List D:=[.non,.int n,.tup [.str (Str.ofString "a")],.bl true]
noncomputable def Uq (t:List Nat) (n:Nat):List D:=((((Um t++Rv t)++Uo n)++Wl)++Zx)++pD n
theorem Aca (mh:MH):Kr (.str (Str.ofString "1")) (.int 61) mh=some (.str (mk (List.replicate 61 49)),mh):=by kernel_rfl
theorem Acb (mh:MH):Kr (.str (Str.ofString "(")) (.int 31) mh=some (.str (mk (List.replicate 31 40)),mh):=by kernel_rfl
theorem Acd (mh:MH):Kr (.str (Str.ofString ")")) (.int 31) mh=some (.str (mk (List.replicate 31 41)),mh):=by kernel_rfl
theorem jF (a b:Str):(a++b).length=a.length+b.length:=by
 cases a;cases b;show (Array.append _ _).size=_;exact Array.size_append
theorem pF {n:Nat}(h:n < 1000):(num n).length<=60:=by
 unfold num;rw [Af,G8];exact Fi (Nat.lt_trans h (by decide +kernel))
theorem Ur (k n:Nat) (t:List Nat) (hn:n < 1000) (ht:t.length<=9000) (mh:MH) {P:D->MH->Prop}(h:∀ j h',Ext [] mh h'->h'[j]?=some (.lst (Uq t n))->P (.ref j) h'):wV (Aq (Gk (k+1)) fuel f28 [.str (mk (40::(t++[41]))),.int n] mh) P:=by
 have s0:∀ s:String,s.length<=10->(Str.ofString s).length<=10:=fun s hs=>by
  rw [Ai,Af];unfold codes;rw [List.length_map];exact hs
 have l1:=s0 " " (by decide +kernel)
 have l2:=s0 ")" (by decide +kernel)
 have l3:=s0 "(" (by decide +kernel)
 have l4:=s0 "( " (by decide +kernel)
 have l5:=s0 " )" (by decide +kernel)
 have l6:=s0 "\n" (by decide +kernel)
 have l7:=s0 "\t" (by decide +kernel)
 have l8:=s0 "  " (by decide +kernel)
 have l9:=s0 "+" (by decide +kernel)
 have l10:=s0 "0" (by decide +kernel)
 have l11:=s0 "x" (by decide +kernel)
 have l12:=s0 "-" (by decide +kernel)
 have hT:(mk (40::(t++[41]))).length<=9002:=by rw [Af];simp;omega
 have hN:=pF hn;have e1:Jk (mk (40::(t++[41]))) (some 1) none=mk (t++[41]):=gW 40 (t++[41]);have e2:Jk (mk (40::(t++[41]))) none (some (-1))=mk (40::t):=pC (40::t) 41;have hi:(mk (t++[41])).length<=9002:=by rw [Af];simp;omega
 have he:(mk (40::t)).length<=9002:=by rw [Af];simp;omega
 have nb:((n:Nat):Int).natAbs < 10 ^ 60:=by rw [Int.natAbs_natCast];exact Nat.lt_trans hn (by decide +kernel)
 have st:∀ {m:MH} {Q:D->MH->Prop},Q (.str (num n)) m->wV (Tj [.int (n:Int)] m) Q:=fun q=>str_int nb q
 have m61:(mk (List.replicate 61 49)).length=61:=rfl;have m31:(mk (List.replicate 31 40)).length=31:=rfl;have m32:(mk (List.replicate 31 41)).length=31:=rfl;have step:∀ {xs ys:List D} {m:MH} {j:Nat} {x0 x1:Option D} {ma:DM (List D)} {Q:Fl->DL.Loc->MH->Prop},m[j]?=some (.lst xs)->xs.length+ys.length<=1000000->ys.length<=1000000 ->
   (∀ {R:List D->MH->Prop},R ys m->wD ma [x0,x1,some (.ref j)] m R)->(∀ j' m',Ext [] m m'->m'[j']?=some (.lst (xs++ys))->Q .nx [x0,x1,some (.ref j')] m')->wS (Bg (dop Bk (vr 2) (lstM ma)) (Av 2)) [x0,x1,some (.ref j)] m Q:=fun {xs ys m j x0 x1 ma Q} g1 z1 z2 ha q=>by
  refine V7 (qI (Mv rfl (eV (ha ?_))));refine ⟨z2,?_⟩;refine Xj ((Ext.more (W:=[])).old _ _ (by simp) g1) Az z1 ?_;exact Fx (q _ _ (Ext.more.trans Ext.more) Az)
 refine Di (wZ k) fZ.1 fZ.2 rfl ?_;show wS (b28 k) [some (.str (mk (40::(t++[41])))),some (.int n),none] mh _;unfold b28;refine Bw (Fw (P:=fun f l h=>f=.nx/\∃ j,l=[some (.str (mk (40::(t++[41])))),some (.int n),some (.ref j)]/\Ext [] mh h/\h[j]?=some (.lst (Um t))) ?_ ?_)
 ·walk_at "x0"
  repeat (first | refine Fy (by omega) ?_ | (refine Q0 (by omega) (by first | (rw [e1];omega) | (rw [e2];omega)) ?_;first | rw [e1] | rw [e2]) | (first | walk_at "s" | with_reducible refine Xm (by simp) ?_))
  exact ⟨rfl,_,rfl,Ext.more,Az⟩
 rintro f l m1 ⟨rfl,j1,rfl,x1,g1⟩;refine Cu (Bw (step (ys:=Rv t) g1 (by simp [Um,Rv]) (by simp [Rv]) ?_ ?_))
 ·intro R r;repeat (first | refine Fy (by (try simp only [jF]);omega) ?_ | (refine Q0 (by omega) (by first | (rw [e1];omega) | (rw [e2];omega)) ?_;first | rw [e1] | rw [e2]) | walk_at "s")
  exact r
 intro j2 m2 x2 g2;refine Cu (Bw (step (ys:=Uo n) g2 (by simp [Um,Rv,Uo]) (by simp [Uo]) ?_ ?_))
 ·intro R r;repeat (first | refine Fy (by omega) ?_ | refine st ?_ | walk_at "s")
  exact r
 intro j3 m3 x3 g3;refine Cu (Bw (step (ys:=Wl) g3 (by simp [Um,Rv,Uo,Wl]) (by simp [Wl]) ?_ ?_))
 ·intro R r;walk_at "r"
  exact r
 intro j4 m4 x4 g4;refine Cu (Bw (step (ys:=Zx) g4 (by simp [Um,Rv,Uo,Wl,Zx]) (by simp [Zx]) ?_ ?_))
 ·intro R r;repeat (first | refine Fy (by omega) ?_ | refine Gp (Aca _) ?_ | refine Gp (Acb _) ?_ | refine Gp (Acd _) ?_ | walk_at "s")
  exact r
 intro j5 m5 x5 g5;refine Cu ?_
 walk_at "x0"
 have y5:=x1.trans (x2.trans (x3.trans (x4.trans x5)));refine Xj (ys:=pD n) ((Ext.more (W:=[])).old _ _ (by simp) g5) Az (by simp [Um,Rv,Uo,Wl,Zx,pD]) ?_
 walk_at "x0"
 exact h _ _ (y5.trans (Ext.more.trans Ext.more)) Az
theorem Hy (n:Nat):num n=mk ((Nat.toDigits 10 n).map Char.toNat):=by unfold num;rw [G8]
theorem Zy {L:List Pc}{ds:List D}(I:Inn L ds) {k n:Nat}(hn:n < 1000):∀ d∈Uq (txt L) n,Ref k d:=by
 have et:=I.txt;have r1:=Ab1 (k:=k) I;have r2:=Ab2 (k:=k) I;have r3:=Ab3 (k:=k) I;have r4:=Ab4 (k:=k) I;have r7:=Ab7 (k:=k) I;have r8:=Ab8 (k:=k) I;have r9:=Ab9 (k:=k) I;have r11:=Aao (k:=k) I;have r12:=Aap (k:=k) I;rw [et] at r1 r2 r3 r4 r7 r8 r9 r11 r12;have dg:=Wf n;have dn:=Le n;have dl:=Fi (m:=n) (Nat.lt_trans hn (by decide +kernel))
 have o1:Ref k (.str (Str.ofString "+"++num n)):=by
  refine Lg 0 0 (43::(Nat.toDigits 10 n).map Char.toNat) _ (J5 _ _ _ (by omega) (by omega) (by simp at dl ⊢;omega) (fun x hx=>?_) (by simp) (by simp) (Je fun z=>?_) (Lf (x:=43) (by simp) (by decide +kernel) (by decide +kernel) (by decide))) (fun z=>?_) (by simp at dl ⊢;omega) ?_
  ·rcases List.mem_cons.mp hx with rfl|hx
   ·decide
   ·have:=dg x hx;omega
  ·rcases List.mem_cons.mp z with z|z
   ·cases z
   ·have:=dg _ z;omega
  ·rcases List.mem_cons.mp z with z|z
   ·cases z
   ·have:=dg _ z;omega
  ·rw [Hy,Ai,Bh];congr 1;show 43::(Nat.toDigits 10 n).map Char.toNat=_;simp
 have o2:Ref k (.str (Str.ofString "0"++num n)):=by
  refine Lg 0 0 (48::(Nat.toDigits 10 n).map Char.toNat) _ (J5 _ _ _ (by omega) (by omega) (by simp at dl ⊢;omega) (fun x hx=>?_) (by simp) (by simp) (Je fun z=>?_) (jD dn)) (fun z=>?_) (by simp at dl ⊢;omega) ?_
  ·rcases List.mem_cons.mp hx with rfl|hx
   ·decide
   ·have:=dg x hx;omega
  ·rcases List.mem_cons.mp z with z|z
   ·cases z
   ·have:=dg _ z;omega
  ·rcases List.mem_cons.mp z with z|z
   ·cases z
   ·have:=dg _ z;omega
  ·rw [Hy,Ai,Bh];congr 1;show 48::(Nat.toDigits 10 n).map Char.toNat=_;simp
 have o3:Ref k (.str (num n++Str.ofString "x")):=by
  have mem:∀ x∈(Nat.toDigits 10 n).map Char.toNat++[120],(48<=x/\x<=57)\/x=120:=fun x hx=>by
   rcases List.mem_append.mp hx with hx|hx
   ·exact .inl (dg x hx)
   ·exact .inr (List.mem_singleton.mp hx)
  refine Lg 0 0 ((Nat.toDigits 10 n).map Char.toNat++[120]) _ (J5 _ _ _ (by omega) (by omega) (by simp at dl ⊢;omega) (fun x hx=>by have:=mem x hx;omega) (Ru fun z=>by have:=mem _ z;omega) (by simp) (Je fun z=>by have:=mem _ z;omega) (Aal dn dg)) (fun z=>by have:=mem _ z;omega) (by simp at dl ⊢;omega) ?_;rw [Hy,Ai,Bh];congr 1;show (Nat.toDigits 10 n).map Char.toNat++[120]=_;simp
 have o4:Ref k (.str (Str.ofString "(1 2\n)")):=by
  refine Nr 0 1 [50,10] [⟨1,[49],.int 1,0⟩] [] _ (fun p hp=>?_) ?_ ⟨by decide,by decide,by decide,by decide,by decide,by decide,.inr (.inr (.inr ⟨by decide,by decide +kernel⟩))⟩ (by simp) (by decide) (by decide +kernel) (by decide +kernel)
  ·rw [List.mem_singleton.mp hp];exact .inr ⟨by decide,by decide +kernel⟩
  ·exact ⟨⟨by decide,by decide,fun z=>by cases z⟩,trivial⟩
 have c:∀ s:Str,chk s.cps.toList=true->Ref k (.str s):=fun s h=>pA s h
 intro d hd;unfold Uq at hd;simp only [List.mem_append] at hd;rcases hd with ((((hd|hd)|hd)|hd)|hd)|hd
 ·unfold Um at hd;simp only [List.mem_cons,List.not_mem_nil,or_false] at hd;rcases hd with rfl|rfl|rfl|rfl|rfl|rfl|rfl
  ·exact r1
  ·exact r2
  ·exact r3
  ·exact r4
  ·exact Ab5 I
  ·exact Ab6 I
  ·exact r7
 ·unfold Rv at hd;simp only [List.mem_cons,List.not_mem_nil,or_false] at hd;rcases hd with rfl|rfl|rfl|rfl|rfl
  ·exact r8
  ·exact r9
  ·exact Aan I
  ·exact r11
  ·exact r12
 ·unfold Uo at hd;simp only [List.mem_cons,List.not_mem_nil,or_false] at hd;rcases hd with rfl|rfl|rfl|rfl|rfl|rfl|rfl|rfl
  ·exact o1
  ·exact o2
  ·exact c _ (by decide +kernel)
  ·exact c _ (by decide +kernel)
  ·exact c _ (by decide +kernel)
  ·exact o3
  ·exact c _ (by decide +kernel)
  ·exact c _ (by decide +kernel)
 ·unfold Wl at hd;simp only [List.mem_cons,List.not_mem_nil,or_false] at hd;rcases hd with rfl|rfl|rfl|rfl|rfl|rfl|rfl|rfl|rfl
  ·exact c _ (by decide +kernel)
  ·exact c _ (by decide +kernel)
  ·exact c _ (by decide +kernel)
  ·exact c _ (by decide +kernel)
  ·exact c _ (by decide +kernel)
  ·exact c _ (by decide +kernel)
  ·exact c _ (by decide +kernel)
  ·exact o4
  ·exact c _ (by decide +kernel)
 ·unfold Zx at hd;simp only [List.mem_cons,List.not_mem_nil,or_false] at hd;rcases hd with rfl|rfl|rfl|rfl|rfl|rfl|rfl
  ·exact c _ (by decide +kernel)
  ·exact c _ (by decide +kernel)
  ·exact c _ (by decide +kernel)
  ·exact c _ (by decide +kernel)
  ·exact c _ (by decide +kernel)
  ·exact c _ (by decide +kernel)
  ·exact c _ (by decide +kernel)
 ·unfold pD at hd;simp only [List.mem_cons,List.not_mem_nil,or_false] at hd;rcases hd with rfl|rfl|rfl|rfl
  ·exact Rq k _ _ (fun _=>rfl) (by decide +kernel)
  ·exact Rq k _ _ (fun _=>rfl) (by decide +kernel)
  ·exact Rq k _ _ (fun _=>rfl) (by decide +kernel)
  ·exact Rq k _ _ (fun _=>rfl) (by decide +kernel)
theorem Us (k:Nat) (d:D) (r:Ref k d) (mh:MH) {P:D->MH->Prop}(h:∀ mh',Ext [] mh mh'->P (.bl true) mh'):wV (T3 (Gk (k+5)) (Ek (k+5)) td0 fuel f27 [d] mh) P:=by
 obtain ⟨h1,x1,e⟩:=r mh;refine ⟨.bl true,_,?_,h (((((h1++[.lst (bls 4)])++[.lst (bls 3)])++[.lst (bls 4++bls 3)])++[.lst (bls 1)])++[.lst ((bls 4++bls 3)++bls 1)]) (x1.trans ((((Ext.more.trans Ext.more).trans Ext.more).trans Ext.more).trans Ext.more))⟩
 have et:Zh (Aa (vr 0) (Zr [])) (Aq (Gk (k+4)) fuel f17) (Dq (Gk (k+4)) (Ek (k+4)) xcl fuel f17) "NoText" suM [some d,some (.bl false),none,none] mh=suM [some d,some (.bl false),none,none] h1:=by
  show (match Dq (Gk (k+4)) (Ek (k+4)) xcl fuel f17 [d] mh with
   | some (c',h')=>if c' == "NoText" then suM [some d,some (.bl false),none,none] h' else none
   | none=>_)=_
  rw [e];rfl
 unfold T3;rw [if_pos (by rw [Wb.1];rfl),oJ (k+4),Wb.2]
 show (match Ac (Zh _ _ _ _ _) _ [some d,some (.bl false),none,none] mh with
  | some (Fl.rt d,_,mh')=>some (d,mh')
  | some (.nx,_,mh')=>some (.non,mh')
  | _=>none)=_
 unfold Ac;rw [et];rfl
theorem Ut {n:Nat}:∀ {ds:List D},(∀ d∈ds,dat n d=true)->Ks n ds=true
 | [],_=>by unfold Ks;rfl
 | d::r,h=>by
  unfold Ks;rw [h d List.mem_cons_self,Ut fun x hx=>h x (List.mem_cons_of_mem _ hx)];rfl
theorem Xx {d:D}{c:List Nat}(h:Atm d c) (m:Nat):dat m d=true:=by
 have hok:=h.ok;cases d with
 | non=>cases m <;> rfl
 | bl b=>cases m <;> rfl
 | int i=>cases m <;> rfl
 | str x =>
  obtain ⟨rfl,_⟩:=h;have:=Ep fun x hx=>(hok.2.2 x hx).2
  cases m <;> exact this
 | _=>exact h.elim
theorem Tg.dat:∀ {n m:Nat}{d:D}{l:List Pc},Tg n d l->n<=m->DL.dat m d=true:=by
 intro n
 induction n with
 | zero=>rintro m d l ⟨c,ha,rfl⟩ _;exact Xx ha m
 | succ n ih =>
  rintro m d l h hm;obtain ⟨m,rfl⟩:∃ k,m=k+1:=⟨m - 1,by omega⟩;rcases h with ⟨c,ha,rfl⟩|⟨rfl,rfl⟩|⟨ds,ls,h0,rfl,ha,rfl⟩
  ·exact Xx ha _
  ·show Ks m []=true;unfold Ks;rfl
  ·show Ks m ds=true;exact Ut fun x hx=>by
    obtain ⟨y,_,t⟩:=ha.mem_l x hx;exact ih t (by omega)
theorem jG {n:Nat}{d:D}{l:List Pc}{mh:MH}{P:D->MH->Prop}(T:Tg n d l) (hn:n<=60) (h:P (.bl false) mh):wV (neD d d mh) P:=qJ (k:=true) (fQ (T.dat hn) mh) h
theorem Zz (r:Nat) (h:r < 9):Atm (.int r) (codes (toString (r:Int))):=⟨by rw [Int.natAbs_natCast];exact Nat.lt_trans h (by decide +kernel),rfl⟩
theorem xN {d1:D}{l1:List Pc}(T:Tg 3 d1 l1) (hB:(txt l1).length<=bd 3) {r:Nat}(hr:r < 9):Inn (l1++[⟨0,codes (toString (r:Int)),.int r,0⟩]) [d1,.int r]/\Tg 4 (.tup [d1,.int r]) (opn (cls (l1++[⟨0,codes (toString (r:Int)),.int r,0⟩]))):=by
 have ha:=Zz r hr;have T2:Tg 3 (.int r) [⟨0,codes (toString (r:Int)),.int r,0⟩]:=.inl ⟨_,ha,rfl⟩;have hs:All2 (Said 3) [d1,.int r] [l1,[⟨0,codes (toString (r:Int)),.int r,0⟩]]:=.cons T.said (.cons T2.said .nil);obtain ⟨h1,h2,h3⟩:=J0 hs;have ef:[l1,[⟨0,codes (toString (r:Int)),D.int r,0⟩]].flatten=l1++[⟨0,codes (toString (r:Int)),.int r,0⟩]:=by simp
 rw [ef] at h1 h2 h3;refine ⟨⟨by simp,h3,h1,fun h a b=>h2 h a (by omega),?_⟩,.inr (.inr ⟨[d1,.int r],[l1,[⟨0,codes (toString (r:Int)),.int r,0⟩]],by simp,rfl,.cons T (.cons T2 .nil),by rw [ef]⟩)⟩;rw [Ja T.said.ne (by simp),Jd,List.length_append,List.length_cons];have:=ha.ok.2.1;have hb:bd 3=4030:=rfl;omega
theorem xO (ns:List Int) (hns:ns.length<=63):wV (Aq (Gk (44+1)) fuel f29 [.rol (ns.map D.int)] []) fun d _=>d=.bl true:=by
 refine Di (xG 44) gA.1 gA.2 rfl ?_;show wS (b29 44) [some (.rol (ns.map D.int)),none,none,none,none,none] [] _;unfold b29
 walk_at "x0"
 refine Mw ?_
 walk_at "x0"
 refine wN rfl ?_;obtain ⟨cs,ec⟩:∃ cs:List Int,DL.cutD (ns.map D.int) none (some 12)=cs.map D.int:=⟨DL.cutD ns none (some 12),by unfold DL.cutD;rw [List.length_map,← List.map_drop,← List.map_take]⟩;refine Gp (d:=.ref 0) (h:=[]++[MO.lst (cs.map D.int)]) (by rw [← ec];rfl) ?_;refine ⟨rfl,_,src_list rfl,cs.map D.int,fun i l h=>(∃ x1 x2 x3 x4 x5,l=[some (.rol (ns.map D.int)),x1,x2,x3,x4,x5])/\h[0]?=some (.lst (cs.map D.int)),⟨⟨none,none,none,none,none,rfl⟩,rfl⟩,fun i l h ⟨_,g⟩=>G6 g,?_,?_⟩
 ·rintro i d l m1 ed ⟨⟨x1,x2,x3,x4,x5,rfl⟩,g1⟩;obtain ⟨v,hv,rfl⟩:=List.mem_map.mp (List.mem_of_getElem? ed);have l1:=Ri g1
  walk_at "x0"
  have hs:StV (m1++[MO.lst [.int v]]) m1.length:=.inl ⟨v,Az⟩;have y1:Ext [m1.length] m1 (m1++[MO.lst [.int v]]):=Ext.more;generalize m1++[MO.lst [.int v]]=m2 at hs y1;refine Zw 3 38 m1.length m2 hs fun d1 ps m3 T hB x3' s3=>?_
  walk_at "x0"
  refine Cw 43 m1.length 9 m3 s3 (by decide) (by decide) fun r m4 hr x4' s4=>?_
  walk_at "x0"
  obtain ⟨L,I,T4⟩:∃ L,Inn L [d1,.int r]/\Tg 4 (.tup [d1,.int r]) (opn (cls L)):=⟨_,xN T hB (r:=r) (by omega)⟩;have et:=I.txt;have hl:=I.lenP;refine jB 4 39 _ _ T4 (by omega) m4 fun m5 y5=>?_
  walk_at "x0"
  refine Mw ?_
  walk_at "x0"
  have s5:StV m5 m1.length:=s4.ext y5 (by simp);refine Cw 43 m1.length 1000 m5 s5 (by decide) (by decide) fun n m6 hn x6 s6=>?_
  have lL:=I.len;have rs:=Ur 43 n (txt L) (by omega) (by omega) m6 (P:=fun d h=>∃ j,d=.ref j/\Ext [] m6 h/\h[j]?=some (.lst (Uq (txt L) n))) fun j h' x g=>⟨j,rfl,x,g⟩
  rw [← et] at rs;have g6:m6[0]?=some (.lst (cs.map D.int)):=(y1.trans (x3'.trans x4')).trans ((y5.weak (W:=[m1.length])).trans x6) |>.old _ _ (by simp;omega) g1
  walk_at "x0"
  obtain ⟨d,m7,e7,j,rfl,x7,g7⟩:=rs;refine ⟨_,m7,e7,?_⟩;refine ⟨rfl,_,src_list g7,Uq (txt L) n,fun i l h=>(∃ x5,l=[some (.rol (ns.map D.int)),some (.int v),some (.ref m1.length),some (.tup [d1,.int r]),some (.str (mk (txt (opn (cls L))))),x5])/\Ext [] m7 h,⟨⟨_,rfl⟩,Ext.refl⟩,fun i l h ⟨_,x⟩=>G6 (x.old _ _ (by simp) g7),?_,?_⟩
  ·rintro i2 d2 l h8 ed2 ⟨⟨x5,rfl⟩,x8⟩
   walk_at "x0"
   refine Us 39 d2 (Zy I (by omega) d2 (List.mem_of_getElem? ed2)) h8 fun h9 x9=>?_
   walk_at "x0"
   exact ⟨⟨_,rfl⟩,x8.trans x9⟩
  ·rintro l h8 ⟨⟨x5,rfl⟩,x8⟩
   walk_at "x0"
   refine run_read 40 4 _ _ T4 (by omega) (by omega) h8 fun h9 x9=>?_
   walk_at "x0"
   refine jG T4 (by decide) ?_
   walk_at "x0"
   exact ⟨⟨_,_,_,_,_,rfl⟩,(x7.trans (x8.trans x9)).old _ _ (by simp) g6⟩
 ·rintro l m1 ⟨⟨x1,x2,x3,x4,x5,rfl⟩,g1⟩
  walk_at "x0"
  exact rfl
noncomputable def depth:Nat:=45
theorem main (ns:List Int) (h:ns.length<=63):∃ mh',Aq (Gk depth) fuel f29 [.rol (ns.map D.int)] []=some (.bl true,mh'):=by
 obtain ⟨d,h',e,rfl⟩:=xO ns h;exact ⟨h',e⟩
end Lw
open PySem PySem.W PyProof.Rows
namespace PySem.W.Fast
def tw221578053845544446:Unit:=()
def tw1626552120573655184:Unit:=()
def tw2300832427189355117:Unit:=()
def tw18261298113542510093:Unit:=()
def tw2936441419632807024:Unit:=()
def tw17430245358738239839:Unit:=()
def tw5786445809151097213:Unit:=()
def tw17635513227325580216:Unit:=()
def tw11093610826937663845:Unit:=()
def tw14311877276801896319:Unit:=()
def tw13106709162298487772:Unit:=()
def tw14385093636843366980:Unit:=()
def tw12446859378563448569:Unit:=()
def tw8683855102802182356:Unit:=()
def tw5992476527699867754:Unit:=()
def tw12840962478111228920:Unit:=()
def tw4764939630638262261:Unit:=()
def tw501728817355156979:Unit:=()
def tw10540139267716777791:Unit:=()
def tw12214949239398931435:Unit:=()
def tw14171545567482011576:Unit:=()
def tw1327272525950663363:Unit:=()
def tw11351027216294167808:Unit:=()
def tw2175946135168322682:Unit:=()
def tw9051044138773337436:Unit:=()
def tw3700279426696573797:Unit:=()
def tw2894828427092118019:Unit:=()
def tw6500577924818556578:Unit:=()
def tw5502548393517236712:Unit:=()
def tw14699533041596172267:Unit:=()
def tw4096984024299342617:Unit:=()
def tw9724539060531123553:Unit:=()
def tw16555265038871084315:Unit:=()
def tw14737779612335681335:Unit:=()
def tw6717784447649902607:Unit:=()
def tw1380880005413178130:Unit:=()
def tw3193950832798467605:Unit:=()
def tw10310800699304784773:Unit:=()
def tw13771205715676552391:Unit:=()
def tw16816168071757573971:Unit:=()
def tw17168017676013285831:Unit:=()
def tw13895515968582694633:Unit:=()
def tw16037888669712321282:Unit:=()
def tw12650476273952491188:Unit:=()
def tw10921684844348100405:Unit:=()
def tw2771665469211564194:Unit:=()
def tw15469434240025163331:Unit:=()
def tw4766640215976782889:Unit:=()
def tw10859921215531042198:Unit:=()
def tw15768958768473989921:Unit:=()
def tw6977016483843602390:Unit:=()
def tw8236404160845049141:Unit:=()
def tw8629687456833842186:Unit:=()
def tw2042725038887820055:Unit:=()
def tw14739241924729448614:Unit:=()
def tw1305876839435696696:Unit:=()
def tw6315784300313305603:Unit:=()
def tw3118167007483430200:Unit:=()
def tw7028820142559856310:Unit:=()
def tw10934581182966992329:Unit:=()
def tw10512655943837049449:Unit:=()
def tw8709178704064979965:Unit:=()
def tw3219567247413239261:Unit:=()
def tw2443386304692479795:Unit:=()
def tw13533283982562880793:Unit:=()
def tw12318390796163680829:Unit:=()
def tw4010535288555294725:Unit:=()
def tw2310115505685667226:Unit:=()
def tw17862439376088501075:Unit:=()
def tw6147731816077028843:Unit:=()
def tw17100601846881799152:Unit:=()
def tw15994952138488149149:Unit:=()
def tw16148642031020972283:Unit:=()
def tw6253706403018631362:Unit:=()
def tw17773215175567314368:Unit:=()
def tw17664175584951900091:Unit:=()
def tw938471216046085505:Unit:=()
def tw16949535138769567970:Unit:=()
def tw15706007534888784559:Unit:=()
def tw13885845011691181926:Unit:=()
def tw14335145408255290071:Unit:=()
def tw8622037187001702699:Unit:=()
def tw4516359684035185539:Unit:=()
def tw8901171064492198288:Unit:=()
def tw381483148513250691:Unit:=()
def tw17213926726567485620:Unit:=()
def tw15305775380951623363:Unit:=()
def tw15880138963204066473:Unit:=()
def tw4147370709445987824:Unit:=()
def tw15620866728917468201:Unit:=()
def tw13834784216706716139:Unit:=()
def tw17662740752080406703:Unit:=()
def tw16166263148197097329:Unit:=()
def tw1297765689560449523:Unit:=()
def tw5468120531395224979:Unit:=()
def tw16306070187456006039:Unit:=()
def tw13074236146560799969:Unit:=()
def tw4732627765909437863:Unit:=()
def tw7621571907973304130:Unit:=()
def tw18319511877918342086:Unit:=()
def tw15949137326996002062:Unit:=()
def tw8876612441675807711:Unit:=()
def tw2540838475094597729:Unit:=()
def tw17426674194171405060:Unit:=()
def tw12119542721083532593:Unit:=()
def tw12064227011938774654:Unit:=()
def tw8922726854444523742:Unit:=()
def tw15931342212918287622:Unit:=()
def tw8080875244603704465:Unit:=()
def tw7675969366668501590:Unit:=()
def tw14676579479160177776:Unit:=()
def tw17657415168650402807:Unit:=()
def tw16103060246515865508:Unit:=()
def tw12505408843886581039:Unit:=()
def tw667630002644468620:Unit:=()
def tw15820007673434120137:Unit:=()
def tw10829273271965685490:Unit:=()
def tw9711498751912169781:Unit:=()
end PySem.W.Fast
set_option maxRecDepth 100000 in
set_option maxHeartbeats 0 in
theorem PySem.Challenge.cw_letterall_k91_what_is_no_text_holds : PySem.Challenge.rw_letterall_k91_what_is_no_text.Holds := by
 w_on; o_law; z_head; (case hw => w_witness2)
 k_fill
 refine DL.cX (fun _ => by kernel_rfl) (DL.Aac (l := PySem.Challenge.rw_letterall_k91_what_is_no_text) (Tt := Lw.Tt) (xcl := Lw.xcl) (xr := Lw.xr) (tds := Lw.tds) (I := Lw.f29) (x := "_law_script") Lw.depth rfl rfl (fun w h Y => Y) ⟨rfl, by decide, by decide⟩ (by kernel_rfl) (by decide +kernel) ?T Lw.main)
 case T =>
  intro w mg h KX G;refine' ⟨Lw.Abv KX G ?rf ?rb ?rc ?qd0 ?qe0 ?qg0 ?qh0 ?qr0, Lw.Abw KX G ?qxa0 ?qxb0, Lw.Abx (Lw.Abz KX G ?qsa ?qsb ?qsc ?qsd ?qse ?qsf ?qsi ?qsj ?qsg0 ?qsh0 ?qsg1 ?qsh1 ?qsg2 ?qsh2 ?qsg3 ?qsh3 ?qsg4 ?qsh4 ?qsg5 ?qsh5 ?qsg6 ?qsh6 ?qsg7 ?qsh7 ?qsg8 ?qsh8 ?qsg9 ?qsh9)⟩
  (case rf => (repeat (apply DL.dU; (focus k_is); (focus k_is); (focus k_is); (focus k_is))); exact trivial)
  (case rb => (repeat (apply DL.dY; (focus k_is))); exact trivial)
  (case rc => (repeat (apply DL.dX; (focus k_is); (focus kernel_rfl))); exact trivial)
  (case qd0 | qe0 => k_is)
  (case qg0 => kernel_rfl)
  (case qh0 => kernel_rfl)
  (case qr0 => kernel_rfl)
  (case qxa0 => k_is)
  (case qxb0 => kernel_rfl)
  (case qsa => k_is)
  (case qsb => kernel_rfl)
  (case qsc => k_is)
  (case qsd => kernel_rfl)
  (case qse => kernel_rfl)
  (case qsf => kernel_rfl)
  (case qsi | qsj | qsg0 => k_is)
  (case qsh0 => kernel_rfl)
  (case qsg1 => k_is)
  (case qsh1 => kernel_rfl)
  (case qsg2 => k_is)
  (case qsh2 => kernel_rfl)
  (case qsg3 => k_is)
  (case qsh3 => kernel_rfl)
  (case qsg4 => k_is)
  (case qsh4 => kernel_rfl)
  (case qsg5 => k_is)
  (case qsh5 => kernel_rfl)
  (case qsg6 => k_is)
  (case qsh6 => kernel_rfl)
  (case qsg7 => k_is)
  (case qsh7 => kernel_rfl)
  (case qsg8 => k_is)
  (case qsh8 => kernel_rfl)
  (case qsg9 => k_is)
  (case qsh9 => kernel_rfl)
#print axioms PySem.Challenge.cw_letterall_k91_what_is_no_text_holds
