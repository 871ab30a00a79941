import PyProof.Rows.All
import Wide.All
import OpenK.AllK
import Wide.FinOn
import Lean
import PyProof.EqAt
import PyProof.EqKinds
import PyProof.TupleCall
import KE.BitLaws
import PySem.Challenge.RW_letterall_k64_squares
set_option bootstrap.genMatcherCode false
set_option compiler.extract_closed false
noncomputable section
set_option Elab.async false
set_option linter.all false
set_option maxRecDepth 100000
set_option maxHeartbeats 8000000
namespace L2
open PySem PySem.Spec PyProof.Rows
noncomputable abbrev Key:=Sum Int Str
noncomputable def wI:Key->Value->Bool
 | .inl k,v=>Value.isInt k v
 | .inr x,v=>Value.isStrOf x v
noncomputable def Af2 (w:World):Key->Int
 | .inl k=>hashInt k
 | .inr x=>hashStr w x
theorem Ck:∀ {k:Key}{v:Value},wI k v=true->(∃ i t,k=Sum.inl i/\v=Value.int i t)\/(∃ x t,k=Sum.inr x/\v=Value.str x t)
 | .inl i,v,h=>by
  obtain ⟨t,e⟩:=Value.isInt_shape (k:=i) (v:=v) h;exact .inl ⟨i,t,rfl,e⟩
 | .inr x,v,h=>by
  obtain ⟨t,e⟩:=Value.isStrOf_shape (x:=x) (v:=v) h;exact .inr ⟨x,t,rfl,e⟩
theorem xQ (a b:Int):decide ((Sum.inl a:Key)=Sum.inl b)=(a==b):=by
 by_cases e:a=b
 ·subst e;simp
 ·have h:¬ (Sum.inl a:Key)=Sum.inl b:=fun q=>e (Sum.inl.inj q)
  rw [decide_eq_false h];exact (beq_eq_false_iff_ne.mpr e).symm
theorem xR (a b:Str):decide ((Sum.inr a:Key)=Sum.inr b)=decide (a=b):=by
 by_cases e:a=b
 ·subst e;simp
 ·have h:¬ (Sum.inr a:Key)=Sum.inr b:=fun q=>e (Sum.inr.inj q)
  rw [decide_eq_false h,decide_eq_false e]
theorem xT (a:Int) (b:Str):decide ((Sum.inl a:Key)=Sum.inr b)=false:=decide_eq_false (fun q=>nomatch q)
theorem xU (a:Str) (b:Int):decide ((Sum.inr a:Key)=Sum.inl b)=false:=decide_eq_false (fun q=>nomatch q)
noncomputable def R7 (prog:Program) (w:World):PySem.KeyKind prog w Key where
 is:=wI
 hash:=Af2 w
 inj:=fun v a b ha hb=>by
  rcases Ck ha with ⟨i,t,rfl,rfl⟩|⟨x,t,rfl,rfl⟩
  ·rcases Ck hb with ⟨j,u,rfl,e⟩|⟨y,u,rfl,e⟩
   ·injection e with e1 _;rw [e1]
   ·exact nomatch e
  ·rcases Ck hb with ⟨j,u,rfl,e⟩|⟨y,u,rfl,e⟩
   ·exact nomatch e
   ·injection e with e1 _;rw [e1]
 byValue:=fun k v h=>by
  rcases Ck h with ⟨i,t,rfl,rfl⟩ | ⟨x,t,rfl,rfl⟩ <;> rfl
 pyHash:=fun hv h=>by
  rcases Ck hv with ⟨i,t,rfl,rfl⟩|⟨x,t,rfl,rfl⟩
  ·exact wpAny_pyHash_int h
  ·exact wpAny_pyHash_str h
 eqBool:=fun hu hv h=>by
  rcases Ck hu with ⟨i,t,rfl,rfl⟩|⟨x,t,rfl,rfl⟩
  ·rcases Ck hv with ⟨j,u,rfl,rfl⟩|⟨y,u,rfl,rfl⟩
   ·rw [xQ] at h;exact wpAny_eqBool_int h
   ·rw [xT] at h;exact SeqAt.EqAt.int_str i t y u _ _ _ _ h
  ·rcases Ck hv with ⟨j,u,rfl,rfl⟩|⟨y,u,rfl,rfl⟩
   ·rw [xU] at h;exact SeqAt.EqAt.str_int x t j u _ _ _ _ h
   ·rw [xR] at h;exact wpAny_eqBool_str h
 «strs»:=fun k x t v h=>by
  rcases Ck h with ⟨i,u,rfl,e⟩|⟨y,u,rfl,e⟩
  ·exact nomatch e
  ·injection e with e1 _
   subst e1;cases v <;> rfl
inductive V where
 | non | bl (b:Bool) | int (i:Int) | str (x:Str) | byt (b:Array UInt8) | flt (b:UInt64) | ref (a:Addr) | ty (n:String)
 deriving DecidableEq
noncomputable def RelV:V->Value->Prop
 | .non,u=>u=Value.none
 | .bl b,u=>u=Value.bool b
 | .int i,u=>∃ t,u=Value.int i t
 | .str x,u=>∃ t,u=Value.str x t
 | .byt b,u=>∃ t,u=Value.bytes b t
 | .flt b,u=>∃ t,u=Value.float b t
 | .ref a,u=>u=Value.ref a
 | .ty n,u=>u=Value.type n
noncomputable abbrev Vals:List V->List Value->Prop:=Paired RelV
theorem Vals.length {xs:List V}{us:List Value}(r:Vals xs us):xs.length=us.length:=Paired.length r
theorem Vals.get:∀ {xs:List V}{us:List Value}{i:Nat}{x:V},Vals xs us->xs[i]?=some x->∃ u,us[i]?=some u/\RelV x u
 | _,_,_,_,.nil,e=>by simp at e
 | _,_,0,_,.cons r _,e=>by simp at e;subst e;exact ⟨_,rfl,r⟩
 | _,_,i+1,x,.cons _ t,e=>by
  obtain ⟨u,h1,h2⟩:=Vals.get (i:=i) (x:=x) t (by simpa using e);exact ⟨u,by simpa using h1,h2⟩
theorem Vals.set {x:V}{u:Value}(r:RelV x u):∀ {xs:List V}{us:List Value}(i:Nat),Vals xs us->Vals (xs.set i x) (us.set i u)
 | _,_,_,.nil=>.nil
 | _,_,0,.cons _ t=>.cons r t
 | _,_,i+1,.cons q t=>.cons q (Vals.set r i t)
theorem Vals.append:∀ {xs ys:List V}{us ws:List Value},Vals xs us->Vals ys ws->Vals (xs++ys) (us++ws)
 | _,_,_,_,.nil,s=>s
 | _,_,_,_,.cons r t,s=>.cons r (Vals.append t s)
theorem Vals.take:∀ {xs:List V}{us:List Value}(n:Nat),Vals xs us->Vals (xs.take n) (us.take n)
 | _,_,0,_=>.nil
 | _,_,_+1,.nil=>.nil
 | _,_,n+1,.cons r t=>.cons r (Vals.take n t)
theorem Vals.drop:∀ {xs:List V}{us:List Value}(n:Nat),Vals xs us->Vals (xs.drop n) (us.drop n)
 | _,_,0,r=>r
 | _,_,_+1,.nil=>.nil
 | _,_,n+1,.cons _ t=>Vals.drop n t
noncomputable def Ql:Option V->Option Value->Prop
 | some v,some u=>RelV v u
 | none,none=>True
 | _,_=>False
noncomputable def KV {κ:Type}:List (κ×V)->List (κ×Value)->Prop:=Paired fun (p:κ×V) (q:κ×Value)=>p.1=q.1/\RelV p.2 q.2
noncomputable def kV:Key->V
 | .inl i=>.int i
 | .inr x=>.str x
inductive HO where
 | lst (xs:List V)
 | tup (xs:List V)
 | dK (kvs:List (Key×V)) | dT (kvs:List (List Key×V))
 | set (S:Int->Bool) (n:Nat)
 | ins (C dx:Addr) (fs:List (Str×V))
 | own (x:Addr)
 | xd (fs:List (Str×V))
 | met (f x:Addr)
 | rng (lo hi:Int)
 | frz (o:Obj) (u:HO)
 | tbl (ps:Array Value)
 | ext (φ:Heap->Prop)
noncomputable abbrev Hp:=Addr->Option HO
noncomputable def upd (H:Hp) (a:Addr) (o:HO):Hp:=fun b=>if b=a then some o else H b
theorem Bb {H:Hp}{a:Addr}{o:HO}:upd H a o a=some o:=by unfold upd;rw [if_pos rfl]
theorem Af {H:Hp}{a b:Addr}{o:HO}(h:b≠a):upd H a o b=H b:=by unfold upd;rw [if_neg h]
theorem qM {H:Hp}{a:Addr}{o u:HO}:upd (upd H a o) a u=upd H a u:=by
 funext b;unfold upd;split <;> rfl
theorem Kl {H:Hp}{a b:Addr}{o u:HO}(h:H a=some o) (h':H b=some u) (d:o≠u):a≠b:=by
 intro e;subst e;rw [h] at h';exact d (Option.some.inj h')
theorem Al {H:Hp}{a b:Addr}{o:HO}(h:H a=some o) (h':H b=none):a≠b:=by
 intro e;subst e;rw [h] at h';cases h'
section
variable (P:Program) (w:World)
noncomputable def Ni (h:Heap) (a:Addr) (its:Array Value):Prop:=∃ o,h.get? a=some o/\o.cls=.type "tuple"/\o.dict=none/\∃ n,o.data=.seq its n
theorem Ni.to {h:Heap}{a:Addr}{its:Array Value}(x:Ni h a its):IsTup h a its:=let ⟨o,e,c,_,n,d⟩:=x;⟨o,e,c,n,d⟩
theorem Ni.new (h:Heap) (its:Array Value):Ni (h.push { cls:=.type "tuple",data:=.seq its }) h.objs.size its:=⟨_,Heap.get?_push_size _ rfl,rfl,rfl,_,rfl⟩
noncomputable def Fb (H:Hp) (h:Heap) (a:Addr):HO->Prop
 | .lst xs=>xs.length<=sizeLine/\∃ (its:List Value) (n:Nat),Vals xs its/\h.get? a=some { cls:=.type "list",data:=.seq its.toArray n }
 | .tup xs=>xs.length<=sizeLine/\∃ its:List Value,Vals xs its/\Ni h a its.toArray
 | .dK kvs=>kvs.length<=sizeLine/\(a==sysModules)=false/\∃ vs,KV kvs vs/\h.DictOf (R7 P w) a vs
 | .dT kvs=>kvs.length<=sizeLine/\(a==sysModules)=false/\∃ xs:List (List Key×Addr×Value),
   Paired (fun (p:List Key×V) (q:List Key×Addr×Value)=>p.1=q.1/\H q.2.1=some (.tup (p.1.map kV))/\RelV p.2 q.2.2) kvs xs /\
   ∃ o es ep,h.get? a=some o/\o.ExactDict/\o.data=.dict es ep/\es.toList=xs.map (entryOfKey (tupleKind (R7 P w)))/\(xs.map (·.1)).Nodup
 | .set S n=>h.SetOf (intKind P w) a S n
 | .ins C dx fs=>H dx=some (.own a)/\fs.length<=1000/\dx≠a/\h.get? a=some (PySem.W.instObj C dx) /\
   ∃ mA,h.Ns1 dx mA/\(∀ f,Ql (fs.lookup f) (mA f))/\PySem.Within mA (fs.map (·.1))
 | .own _=>∃ o,h.get? a=some o
 | .xd fs=>∃ mA,h.Ns1 a mA/\∀ f,Ql (fs.lookup f) (mA f)
 | .rng lo hi=>∃ t u v,h.get? a=some { cls:=.type "range",data:=.fields #[.int lo t,.int hi u,.int 1 v] }
 | .frz o u=>h.get? a=some o/\Fb H h a u
 | .tbl ps=>h.get? a=some { cls:=.none,data:=.fields ps }
 | .met f x=>h.get? a=some (PySem.W.methodObj (.ref f) (.ref x))
 | .ext φ=>φ h/\(∃ o,h.get? a=some o)/\∀ h1 h2:Heap,φ h1->(∀ o,h1.get? a=some o->h2.get? a=some o)->φ h2
noncomputable def HOk (H:Hp) (h:Heap):Prop:=∀ a o,H a=some o->Fb P w H h a o
end
section
variable {P:Program}{w:World}{H H':Hp}{h h':Heap}{a:Addr}{o:HO}
theorem Fb.lt (x:Fb P w H h a o):a < h.objs.size:=by
 cases o with
 | lst xs=>obtain ⟨_,_,_,_,e⟩:=x;exact Heap.lt_size e
 | tup xs=>obtain ⟨_,_,_,p⟩:=x;exact p.to.lt
 | dK kvs=>obtain ⟨_,_,_,_,o,_,_,e,_⟩:=x;exact Heap.lt_size e
 | dT kvs=>obtain ⟨_,_,_,_,o,_,_,e,_⟩:=x;exact Heap.lt_size e
 | set S n=>obtain ⟨o,_,_,_,e,_⟩:=x;exact Heap.lt_size e
 | ins C dx fs=>obtain ⟨_,_,_,e,_⟩:=x;exact Heap.lt_size e
 | own y=>obtain ⟨_,e⟩:=x;exact Heap.lt_size e
 | xd fs=>obtain ⟨_,⟨_,_,_,e,_⟩,_⟩:=x;exact Heap.lt_size e
 | rng lo hi=>obtain ⟨_,_,_,e⟩:=x;exact Heap.lt_size e
 | frz ob u=>obtain ⟨e,_⟩:=x;exact Heap.lt_size e
 | tbl ps=>exact Heap.lt_size (show h.get? a=some _ from x)
 | met f y=>exact Heap.lt_size (show h.get? a=some _ from x)
 | ext φ=>obtain ⟨_,⟨_,e⟩,_⟩:=x;exact Heap.lt_size e
theorem Paired.mapP {α β:Type}{F G:α->β->Prop}:∀ {l₁:List α}{l₂:List β},Paired F l₁ l₂->(∀ a b,F a b->G a b)->Paired G l₁ l₂
 | _,_,.nil,_=>.nil
 | _,_,.cons r t,f=>.cons (f _ _ r) (Paired.mapP t f)
theorem Fb.stay (x:Fb P w H h a o) (k:∀ b u,(b=a\/H b=some (.own a))->h.get? b=some u->h'.get? b=some u)
  (ho:∀ b,H b=some (.own a)->H' b=some (.own a)) (ht:∀ b xs,H b=some (.tup xs)->H' b=some (.tup xs)):Fb P w H' h' a o:=by
 induction o with
 | lst xs=>obtain ⟨z,its,n,r,e⟩:=x;exact ⟨z,its,n,r,k _ _ (.inl rfl) e⟩
 | tup xs=>obtain ⟨z,its,r,ob,e,c⟩:=x;exact ⟨z,its,r,ob,k _ _ (.inl rfl) e,c⟩
 | dK kvs=>obtain ⟨z,y,vs,r,ob,es,ep,e,c⟩:=x;exact ⟨z,y,vs,r,ob,es,ep,k _ _ (.inl rfl) e,c⟩
 | dT kvs =>
  obtain ⟨z,y,xs,r,ob,es,ep,e,c⟩:=x;exact ⟨z,y,xs,Paired.mapP r fun p q z=>⟨z.1,ht _ _ z.2.1,z.2.2⟩,ob,es,ep,k _ _ (.inl rfl) e,c⟩
 | set S n=>obtain ⟨ob,es,ep,t,e,c⟩:=x;exact ⟨ob,es,ep,t,k _ _ (.inl rfl) e,c⟩
 | ins C dx fs =>
  obtain ⟨d,z,ne,e,mA,⟨od,es,ep,e2,c⟩,r⟩:=x;exact ⟨ho _ d,z,ne,k _ _ (.inl rfl) e,mA,⟨od,es,ep,k _ _ (.inr d) e2,c⟩,r⟩
 | own y=>obtain ⟨ob,e⟩:=x;exact ⟨ob,k _ _ (.inl rfl) e⟩
 | xd fs=>obtain ⟨mA,⟨od,es,ep,e,c⟩,r⟩:=x;exact ⟨mA,⟨od,es,ep,k _ _ (.inl rfl) e,c⟩,r⟩
 | rng lo hi=>obtain ⟨t,u,v,e⟩:=x;exact ⟨t,u,v,k _ _ (.inl rfl) e⟩
 | frz ob u ih=>obtain ⟨e,q⟩:=x;exact ⟨k _ _ (.inl rfl) e,ih q⟩
 | tbl ps =>
  have e:h.get? a=some { cls:=.none,data:=.fields ps }:=x;show h'.get? a=some { cls:=.none,data:=.fields ps };exact k a _ (.inl rfl) e
 | met f y =>
  have e:h.get? a=some (PySem.W.methodObj (.ref f) (.ref y)):=x;show h'.get? a=some (PySem.W.methodObj (.ref f) (.ref y));exact k a _ (.inl rfl) e
 | ext φ=>obtain ⟨p,⟨o,e⟩,st⟩:=x;exact ⟨st _ _ p fun o q=>k _ _ (.inl rfl) q,⟨o,k _ _ (.inl rfl) e⟩,st⟩
theorem HOk.lt (x:HOk P w H h) (e:H a=some o):a < h.objs.size:=(x a o e).lt
theorem HOk.fresh (x:HOk P w H h) (e:h.objs.size<=a):H a=none:=by
 cases q:H a with
 | none=>rfl
 | some u=>exact absurd (Nat.lt_of_lt_of_le (x.lt q) e) (Nat.lt_irrefl _)
theorem HOk.kept (x:HOk P w H h) (k:∀ b u,h.get? b=some u->h'.get? b=some u):HOk P w H h':=fun a o e =>
 (x a o e).stay (fun b u _ q=>k b u q) (fun _ q=>q) fun _ _ q=>q
theorem HOk.laid (x:HOk P w H h) (k:∀ b u,h.get? b=some u->h'.get? b=some u) (hp:h.objs.size<=a) (new:Fb P w (upd H a o) h' a o):HOk P w (upd H a o) h':=fun b u e=>by
 have hn:=x.fresh hp
 by_cases hb:b=a
 ·subst hb;rw [Bb] at e;cases e;exact new
 ·rw [Af hb] at e;exact (x b u e).stay (fun c v _ q=>k c v q) (fun c q=>by rw [Af (Al q hn)];exact q) fun c xs q=>by rw [Af (Al q hn)];exact q
end
noncomputable def Rd (H:Hp) (a:Addr) (u:HO):Prop:=H a=some u\/∃ o,H a=some (.frz o u)
theorem Rd.ok {P:Program}{w:World}{H:Hp}{h:Heap}{a:Addr}{u:HO}(r:Rd H a u) (x:HOk P w H h):Fb P w H h a u:=by
 rcases r with r|⟨o,r⟩
 ·exact x a u r
 ·obtain ⟨_,q⟩:=x a _ r;exact q
noncomputable def Mut:Option HO->Prop
 | some (.lst _)=>True
 | some (.dK _)=>True
 | some (.dT _)=>True
 | some (.set _ _)=>True
 | some (.ins _ _ _)=>True
 | some (.ext _)=>True
 | _=>False
section
variable {P:Program}{w:World}{H:Hp}{h h':Heap}{x e:Addr}{o':HO}
theorem HOk.write (ok:HOk P w H h) (mu:Mut (H x)) (he:e=x\/H e=some (.own x)) (k:∀ b u,b≠e->h.get? b=some u->h'.get? b=some u) (heo:∃ u,h'.get? e=some u)
  (new:Fb P w (upd H x o') h' x o'):HOk P w (upd H x o') h':=fun b u q=>by
 have nown:∀ c y,H c=some (.own y)->c≠x:=fun c y r z=>by subst z;rw [r] at mu;exact mu
 have ntup:∀ c xs,H c=some (.tup xs)->c≠x:=fun c xs r z=>by subst z;rw [r] at mu;exact mu
 by_cases hb:b=x
 ·subst hb;rw [Bb] at q;cases q;exact new
 ·rw [Af hb] at q
  by_cases hbe:b=e
  ·have q':H b=some (.own x):=by
    rcases he with z|z
    ·exact absurd (hbe.trans z) hb
    ·rw [hbe];exact z
   rw [q] at q';cases q';obtain ⟨v,hv⟩:=heo;exact ⟨v,by rw [hbe];exact hv⟩
  ·refine (ok b u q).stay (fun c v hc r=>k c v ?_ r) (fun c r=>by rw [Af (nown c b r)];exact r) fun c xs r=>by rw [Af (ntup c xs r)];exact r
   rcases hc with rfl|hc
   ·exact hbe
   ·rintro rfl;rcases he with z|z
    ·exact nown c b hc z
    ·rw [hc] at z;cases z;exact hb rfl
end
structure Un (fs ex:List Addr) (H H':Hp) (h h':Heap):Prop where
 keep:∀ b o,h.get? b=some o->H b=none->b ∉ fs->b ∉ ex->h'.get? b=some o
 slot:∀ b o,h.get? b=some o->H b=none->b∈fs->b ∉ ex->∃ sl,h'.get? b=some { o with slots:=sl }
 free:∀ b o,h.get? b=some o->H b=none->b ∉ ex->H' b=none
 there:∀ b o,h.get? b=some o->b ∉ ex->∃ o',h'.get? b=some o'
 tups:∀ b xs,H b=some (.tup xs)->H' b=some (.tup xs)
 frzs:∀ b o u,H b=some (.frz o u)->H' b=some (.frz o u)
 tbls:∀ b ps,H b=some (.tbl ps)->∃ more,H' b=some (.tbl (ps++more))
section
variable {fs fs' ex ex':List Addr}{H H1 H2:Hp}{h h1 h2 h':Heap}{a x e:Addr}{o:HO}
theorem Un.any (u:Un fs ex H H1 h h1) {b:Addr}{ob:Obj}(q:h.get? b=some ob) (n:H b=none) (hx:b ∉ ex):∃ sl,h1.get? b=some { ob with slots:=sl }:=by
 by_cases hb:b∈fs
 ·exact u.slot b ob q n hb hx
 ·exact ⟨ob.slots,u.keep b ob q n hb hx⟩
theorem Un.kept (k:∀ b u,h.get? b=some u->h'.get? b=some u):Un fs ex H H h h' :=
 ⟨fun b ob q _ _ _=>k b ob q,fun b ob q _ _ _=>⟨ob.slots,k b ob q⟩,fun _ _ _ n _=>n,fun b ob q _=>⟨ob,k b ob q⟩,fun _ _ q=>q,fun _ _ _ q=>q,fun _ ps q=>⟨#[],by rw [q];simp⟩⟩
theorem Un.refl:Un fs ex H H h h:=Un.kept fun _ _ q=>q
theorem Un.laid (k:∀ b u,h.get? b=some u->h'.get? b=some u) (hp:h.objs.size<=a) (hn:H a=none):Un fs ex H (upd H a o) h h' where
 keep:=fun b u q _ _ _=>k b u q
 slot:=fun b u q _ _ _=>⟨u.slots,k b u q⟩
 free:=fun b u q n _=>by rw [Af (Nat.ne_of_lt (Nat.lt_of_lt_of_le (Heap.lt_size q) hp))];exact n
 there:=fun b u q _=>⟨u,k b u q⟩
 tups:=fun b xs q=>by rw [Af (Al q hn)];exact q
 frzs:=fun b u xs q=>by rw [Af (Al q hn)];exact q
 tbls:=fun b ps q=>⟨#[],by rw [Af (Al q hn),q];simp⟩
theorem Un.write (mu:Mut (H x)) (he:e=x\/H e=some (.own x)) (k:∀ b u,b≠e->h.get? b=some u->h'.get? b=some u) (heo:∃ u,h'.get? e=some u):Un fs ex H (upd H x o) h h':=by
 have hx:∀ b,H b=none->b≠x:=fun b n z=>by subst z;rw [n] at mu;exact mu
 have hb:∀ b,H b=none->b≠e:=fun b n z=>by
  subst z;rcases he with r|r
  ·exact hx b n r
  ·rw [n] at r;cases r
 have hm:∀ b u,H b=some u->¬ Mut (some u)->b≠x:=fun b u q nm z=>by subst z;rw [q] at mu;exact nm mu
 refine ⟨fun b u q n _ _=>k b u (hb b n) q,fun b u q n _ _=>⟨u.slots,k b u (hb b n) q⟩,fun b u q n _=>by rw [Af (hx b n)];exact n,fun b u q _=>?_,
  fun b xs q=>by rw [Af (hm b _ q fun z=>z)];exact q,fun b u xs q=>by rw [Af (hm b _ q fun z=>z)];exact q,fun b ps q=>⟨#[],by rw [Af (hm b _ q fun z=>z),q];simp⟩⟩
 by_cases hbe:b=e
 ·subst hbe;exact heo
 ·exact ⟨u,k b u hbe q⟩
end
noncomputable def trk (h:Heap) (H:Hp):List Addr:=(List.range h.objs.size).filter fun a=>(H a).isSome
noncomputable def R8 (h:Heap) (H:Hp):Heap:=PySem.W.hideAll h (trk h H)
theorem bA (h:Heap) (H:Hp):(R8 h H).objs.size=h.objs.size:=PySem.W.hideAll_size _ _
theorem dW {h:Heap}{H:Hp}{b:Addr}{o:Obj}(e:h.get? b=some o) (n:H b=none):(R8 h H).get? b=some o :=
 PySem.W.hideAll_get _ e fun hm=>by
  have q:(H b).isSome=true:=(List.mem_filter.mp hm).2;rw [n] at q;simp at q
theorem qN {h:Heap}{H:Hp}{b:Addr}{o:Obj}(e:(R8 h H).get? b=some o):h.get? b=some o/\H b=none:=by
 have e':h.get? b=some o:=PySem.W.of_hideAll (trk h H) e;refine ⟨e',?_⟩;cases q:H b with
 | none=>rfl
 | some x =>
  have hm:b∈trk h H:=List.mem_filter.mpr ⟨List.mem_range.mpr (Heap.lt_size e'),by simp [q]⟩;have z:(R8 h H).get? b=none:=PySem.W.hideAll_none (trk h H) hm;rw [z] at e;cases e
structure Mod (K:PySem.W.Frag) (mg:Str->Option Value) (base:Heap):Prop where
 kin:K.In base
 glob:base.Ns mainGlobals mg
 blt:∃ mb,base.Ns builtinsNs mb/\∀ x:Str,x ≠ "__name__"->mb x=bootBuiltins x
 nolimit:base.NoLimit
structure Cx where
 prog:Program
 w:World
 K:PySem.W.Frag
 mg:Str->Option Value
 base:Heap
 A:Around
 N:List Str
 s₀:Shared
 H₀:Hp
 env:Env
 outer:List Env
 stack:List Env
 ex:List Addr
 fn:Str->Bool
 calm:Bool
 pn:List (Addr×Obj)
 xe:Value->Shared->Prop
noncomputable def frs (l:List Env):List Addr:=l.filterMap (·.frame)
noncomputable abbrev Cx.fs (X:Cx):List Addr:=frs X.outer
noncomputable def Vis (sc:Scope) (x:Str):Prop:=sc.names.lookup x=some .local\/sc.names.lookup x=some .cell\/sc.names.lookup x=some .free
noncomputable def Loc (sc:Scope) (x:Str):Prop:=sc.names.lookup x=some .local\/sc.names.lookup x=some .cell
noncomputable def Look (env:Env) (h:Heap) (m:Str->Option Value) (x:Str) (u:Value):Prop :=
 (env.kindOf x=some .local/\m x=some u)\/((env.kindOf x=some .cell\/env.kindOf x=some .free)/\∃ c,env.cells.lookup x=some c/\h.IsCell c (some u))
structure Cx.Ok (X:Cx):Prop where
 mod:Mod X.K X.mg X.base
 kind:X.env.scope.kind=.function
 glob:X.env.globals=mainGlobals
 blt:X.env.builtins=builtinsNs
 above:X.s₀.heap.objs.size<=X.env.locals
 inj:∀ x y c,X.env.cells.lookup x=some c->X.env.cells.lookup y=some c->x=y
 has:∀ x,(X.env.kindOf x=some .cell\/X.env.kindOf x=some .free)->∃ c,X.env.cells.lookup x=some c
 cab:∀ x c,X.fn x=true->X.env.cells.lookup x=some c->X.s₀.heap.objs.size<=c
 hd:X.calm=true->X.A.handled=none
 frames:X.A.frames=some X.stack
 stk:X.stack=X.outer\/(X.stack=X.env::X.outer/\X.env.frame=some X.env.locals)
 exf:∀ b∈X.ex,b≠X.env.locals/\∀ x c,X.env.cells.lookup x=some c->c≠b
 bs:∀ b o,X.base.get? b=some o->X.s₀.heap.get? b=some o/\X.H₀ b=none
 bsz:X.base.objs.size<=X.s₀.heap.objs.size
 noex:∀ b o,X.base.get? b=some o->b ∉ X.ex
 exfs:∀ b∈X.ex,b ∉ X.fs
 funs:X.s₀.heap.FunFrames X.base X.outer
 frf:∀ b∈X.fs,X.H₀ b=none
structure Inv (X:Cx) (pins:List (Addr×Obj)) (σ:List (Option V)) (H:Hp) (s:Shared):Prop where
 ok:X.Ok
 os:s.os=X.s₀.os
 bare:AllBare s.gens
 base:Un X.fs X.ex X.H₀ H X.s₀.heap s.heap
 loc:∃ m,s.heap.Ns X.env.locals m/\∀ (i:Nat) (x:Str) (v:V),X.N[i]?=some x->σ[i]?=some (some v)->Vis X.env.scope x->∃ u,RelV v u/\Look X.env s.heap m x u
 cell:∀ x c,X.env.cells.lookup x=some c->∃ v,s.heap.IsCell c v
 free:H X.env.locals=none
 freeC:∀ x c,X.env.cells.lookup x=some c->H c=none\/(X.fn x=false/\∃ o u,H c=some (.frz o u))
 pin:∀ p∈X.pn++pins,s.heap.get? p.1=some p.2/\H p.1=none/\p.1≠X.env.locals/\p.1 ∉ X.fs/\∀ v,p.2.data≠.cell v
 hok:HOk X.prog X.w H s.heap
 len:σ.length=X.N.length
section
variable {X:Cx}{pins:List (Addr×Obj)}{σ:List (Option V)}{H H':Hp}{s:Shared}{h':Heap}
theorem Cx.Ok.nofr (ok:X.Ok) {b:Addr}{o:Obj}(e:X.base.get? b=some o):b ∉ X.fs:=fun hb=>by
 have:=(ok.funs.mem hb).1;rw [e] at this;cases this
theorem Inv.bs (I:Inv X pins σ H s):∀ b o,X.base.get? b=some o->s.heap.get? b=some o/\H b=none:=fun b o e =>
 ⟨I.base.keep b o (I.ok.bs b o e).1 (I.ok.bs b o e).2 (I.ok.nofr e) (I.ok.noex b o e),I.base.free b o (I.ok.bs b o e).1 (I.ok.bs b o e).2 (I.ok.noex b o e)⟩
theorem Inv.bk (I:Inv X pins σ H s):∀ b o,X.base.get? b=some o->s.heap.get? b=some o:=fun b o e=>(I.bs b o e).1
theorem Inv.mod (I:Inv X pins σ H s):Mod X.K X.mg X.base:=I.ok.mod
theorem Inv.kIn (I:Inv X pins σ H s):X.K.In s.heap:=I.ok.mod.kin.keeps I.bk
theorem Inv.lt (I:Inv X pins σ H s):X.env.locals < s.heap.objs.size:=let ⟨_,hn,_⟩:=I.loc;hn.lt
theorem Inv.sz (I:Inv X pins σ H s):X.s₀.heap.objs.size<=s.heap.objs.size:=Nat.le_trans I.ok.above (Nat.le_of_lt I.lt)
theorem Inv.nofs (I:Inv X pins σ H s) {a:Addr}(h:s.heap.objs.size<=a):a ∉ X.fs:=fun hb=>by
 obtain ⟨_,o,ho,_⟩:=I.ok.funs.mem hb;exact absurd (Nat.lt_of_lt_of_le (Heap.lt_size ho) (Nat.le_trans I.sz h)) (Nat.lt_irrefl _)
theorem Inv.cne (I:Inv X pins σ H s):∀ x c,X.env.cells.lookup x=some c->c≠X.env.locals:=fun x c e z=>by
 obtain ⟨v,o,ho,hd⟩:=I.cell x c e;obtain ⟨m,⟨o',es,ep,ho',hd',_⟩,_⟩:=I.loc;rw [z,ho'] at ho;cases ho;rw [hd'] at hd;cases hd
theorem Inv.funs (I:Inv X pins σ H s):s.heap.FunFrames X.base X.outer:=by
 have all:∀ (l:List Env),(∀ b∈frs l,b∈X.fs)->X.s₀.heap.FunFrames X.base l->s.heap.FunFrames X.base l:=by
  intro l
  induction l with
  | nil=>intro _ _;trivial
  | cons env r ih =>
   intro hs hl;obtain ⟨hk,⟨L,o,hf,hn,ho,hd⟩,hr⟩:=hl;have hL:L∈X.fs:=hs L (by unfold frs;rw [List.filterMap_cons,hf];exact List.mem_cons_self);obtain ⟨sl,e⟩:=I.base.slot L o ho (I.ok.frf L hL) hL fun z=>I.ok.exfs L z hL
   exact ⟨hk,⟨L,_,hf,hn,e,hd⟩,ih (fun b hb=>hs b (by unfold frs;rw [List.filterMap_cons,hf];exact List.mem_cons_of_mem _ hb)) hr⟩
 exact all X.outer (fun _ hb=>hb) I.ok.funs
theorem Inv.stack (I:Inv X pins σ H s):s.heap.FunFrames X.base X.stack:=by
 rcases I.ok.stk with e|⟨e,hf⟩
 ·rw [e];exact I.funs
 ·rw [e];obtain ⟨m,hn,_⟩:=I.loc;refine .cons (by rw [I.ok.kind];decide) hf hn ?_ I.funs;exact Heap.get?_none_of_le (Nat.le_trans I.ok.bsz I.ok.above)
theorem Inv.stkSub (I:Inv X pins σ H s):∀ b∈frs X.stack,b∈X.env.locals::X.fs:=fun b hb=>by
 rcases I.ok.stk with e|⟨e,hf⟩
 ·rw [e] at hb;exact List.mem_cons_of_mem _ hb
 ·rw [e] at hb;unfold frs at hb;rw [List.filterMap_cons,hf] at hb;exact hb
theorem Inv.stkFree (I:Inv X pins σ H s):∀ b∈frs X.stack,H b=none:=fun b hb=>by
 rcases List.mem_cons.mp (I.stkSub b hb) with e|hb
 ·rw [e];exact I.free
 ·obtain ⟨_,o,ho,_⟩:=I.ok.funs.mem hb;exact I.base.free b o ho (I.ok.frf b hb) fun z=>I.ok.exfs b z hb
theorem Inv.step {g':Array GenState}{t':Nat}{d':Drawn}{ch:List Addr}(I:Inv X pins σ H s)
  (hch:∀ b∈ch,(b∈X.ex\/X.s₀.heap.objs.size<=b)/\b≠X.env.locals/\(∀ x c,X.env.cells.lookup x=some c->c≠b)/\∀ p∈X.pn++pins,p.1≠b)
  (keep:∀ b o,b≠X.env.locals->b ∉ X.fs->b ∉ ch->s.heap.get? b=some o->H b=none->h'.get? b=some o)
  (slot:∀ b o,b≠X.env.locals->b∈X.fs->b ∉ ch->s.heap.get? b=some o->H b=none->∃ sl,h'.get? b=some { o with slots:=sl }) (free:∀ b o,b ∉ ch->s.heap.get? b=some o->H b=none->H' b=none)
  (there:∀ b o,b ∉ ch->s.heap.get? b=some o->∃ o',h'.get? b=some o')
  (tups:∀ b xs,H b=some (.tup xs)->H' b=some (.tup xs)) (frzs:∀ b o u,H b=some (.frz o u)->H' b=some (.frz o u)) (tbls:∀ b ps,H b=some (.tbl ps)->∃ more,H' b=some (.tbl (ps++more)))
  (ns:∀ m,s.heap.Ns X.env.locals m->h'.Ns X.env.locals m) (hok:HOk X.prog X.w H' h') (hg:AllBare g') :
  Inv X pins σ H' { s with heap:=h',gens:=g',drawn:=d',toks:=t' }:=by
 have neL:∀ b o,X.s₀.heap.get? b=some o->b≠X.env.locals:=fun b o e=>Nat.ne_of_lt (Nat.lt_of_lt_of_le (Heap.lt_size e) I.ok.above)
 have neC:∀ b o,X.s₀.heap.get? b=some o->b ∉ X.ex->b ∉ ch:=fun b o e hx hb=>by
  rcases (hch b hb).1 with z|z
  ·exact hx z
  ·exact absurd (Nat.lt_of_lt_of_le (Heap.lt_size e) z) (Nat.lt_irrefl _)
 have cellK:∀ x c,X.env.cells.lookup x=some c->∀ v,s.heap.IsCell c v->h'.IsCell c v:=by
  rintro x c e v ⟨o,ho,hd⟩;have nch:c ∉ ch:=fun z=>(hch c z).2.2.1 x c e rfl
  rcases I.freeC x c e with fc|⟨_,oz,uz,fz⟩
  ·by_cases hc:c∈X.fs
   ·obtain ⟨sl,q⟩:=slot c o (I.cne x c e) hc nch ho fc;exact ⟨_,q,hd⟩
   ·exact ⟨o,keep c o (I.cne x c e) hc nch ho fc,hd⟩
  ·obtain ⟨e1,_⟩:=I.hok c _ fz;obtain ⟨e2,_⟩:=hok c _ (frzs c _ _ fz);rw [ho] at e1;cases e1;exact ⟨_,e2,hd⟩
 refine ⟨I.ok,I.os,hg,⟨fun b o e n hb hx=>?_,fun b o e n hb hx=>?_,fun b o e n hx=>?_,fun b o e hx=>?_,fun b xs e=>tups b xs (I.base.tups b xs e),fun b o xs e=>frzs b o xs (I.base.frzs b o xs e),fun b ps e=>?_⟩,?_,fun x c e=>?_,?_,fun x c e=>?_,fun p hp=>?_,hok,I.len⟩
 ·exact keep b o (neL b o e) hb (neC b o e hx) (I.base.keep b o e n hb hx) (I.base.free b o e n hx)
 ·obtain ⟨sl,e1⟩:=I.base.slot b o e n hb hx;obtain ⟨sl',e2⟩:=slot b _ (neL b o e) hb (neC b o e hx) e1 (I.base.free b o e n hx);exact ⟨sl',e2⟩
 ·obtain ⟨o',e1⟩:=I.base.there b o e hx;exact free b o' (neC b o e hx) e1 (I.base.free b o e n hx)
 ·obtain ⟨o',e1⟩:=I.base.there b o e hx;exact there b o' (neC b o e hx) e1
 ·obtain ⟨m1,e1⟩:=I.base.tbls b ps e;obtain ⟨m2,e2⟩:=tbls b _ e1;exact ⟨m1++m2,by rw [e2,Array.append_assoc]⟩
 ·obtain ⟨m,hn,hl⟩:=I.loc;refine ⟨m,ns m hn,fun i x v e1 e2 e3=>?_⟩;obtain ⟨u,r,l⟩:=hl i x v e1 e2 e3;refine ⟨u,r,?_⟩;rcases l with l|⟨k,c,e,z⟩
  ·exact .inl l
  ·exact .inr ⟨k,c,e,cellK x c e _ z⟩
 ·obtain ⟨v,z⟩:=I.cell x c e;exact ⟨v,cellK x c e v z⟩
 ·obtain ⟨m,⟨o,_,_,ho,_⟩,_⟩:=I.loc;exact free _ o (fun z=>(hch _ z).2.1 rfl) ho I.free
 ·obtain ⟨v,o,ho,hd⟩:=I.cell x c e;rcases I.freeC x c e with fc|⟨fx,oz,uz,fz⟩
  ·exact .inl (free c o (fun z=>(hch c z).2.2.1 x c e rfl) ho fc)
  ·exact .inr ⟨fx,oz,uz,frzs c _ _ fz⟩
 ·obtain ⟨e,n,ne,nf,d⟩:=I.pin p hp;have nch:p.1 ∉ ch:=fun z=>(hch p.1 z).2.2.2 p hp rfl
  exact ⟨keep p.1 p.2 ne nf nch e n,free p.1 p.2 nch e n,ne,nf,d⟩
theorem Inv.un {t':Nat}(I:Inv X pins σ H s) (u:Un X.fs [] H H' s.heap h') (hok:HOk X.prog X.w H' h'):Inv X pins σ H' { s with heap:=h',toks:=t' }:=by
 obtain ⟨m,⟨o,es,ep,ho,r⟩,_⟩:=id I.loc;obtain ⟨sl,hL⟩:=u.any ho I.free (by simp)
 exact I.step (g':=s.gens) (d':=s.drawn) (ch:=[]) (fun _ z=>nomatch z) (fun b o _ hb _ e n=>u.keep b o e n hb (by simp)) (fun b o _ hb _ e n=>u.slot b o e n hb (by simp)) (fun b o _ e n=>u.free b o e n (by simp)) (fun b o _ e=>u.there b o e (by simp)) u.tups u.frzs u.tbls (fun m' hm=>by
  obtain ⟨o',es',ep',ho',r'⟩:=hm;rw [ho] at ho';cases ho'
  exact ⟨_,es',ep',hL,r'⟩) hok I.bare
theorem Inv.call {g':Array GenState}{t':Nat}{d':Drawn}{ch:List Addr}(I:Inv X pins σ H s) (u:Un (frs X.stack) ch H H' s.heap h') (hok:HOk X.prog X.w H' h') (hg:AllBare g')
  (hch:∀ b∈ch,(b∈X.ex\/X.s₀.heap.objs.size<=b)/\b≠X.env.locals/\(∀ x c,X.env.cells.lookup x=some c->c≠b)/\∀ p∈X.pn++pins,p.1≠b) :
  Inv X pins σ H' { s with heap:=h',gens:=g',drawn:=d',toks:=t' }:=by
 obtain ⟨m,⟨o,es,ep,ho,r⟩,_⟩:=id I.loc;obtain ⟨sl,hL⟩:=u.any ho I.free fun z=>(hch _ z).2.1 rfl
 exact I.step (ch:=ch) hch (fun b o hL hb hc e n=>u.keep b o e n (fun z=>(List.mem_cons.mp (I.stkSub b z)).elim hL hb) hc) (fun b o _ _ hc e n=>u.any e n hc) (fun b o hc e n=>u.free b o e n hc) (fun b o hc e=>u.there b o e hc) u.tups u.frzs u.tbls (fun m' hm=>by
  obtain ⟨o',es',ep',ho',r'⟩:=hm;rw [ho] at ho';cases ho'
  exact ⟨_,es',ep',hL,r'⟩) hok hg
theorem Inv.turned {t':Nat}{it:Addr}(I:Inv X pins σ H s) (k:∀ b o,b≠it->s.heap.get? b=some o->h'.get? b=some o) (hn:H it=none) (hL:it≠X.env.locals)
  (h1:it∈X.ex\/X.s₀.heap.objs.size<=it) (h2:∀ x c,X.env.cells.lookup x=some c->c≠it) (h3:∀ p∈X.pn++pins,p.1≠it):Inv X pins σ H { s with heap:=h',toks:=t' }:=by
 have nit:∀ b u,H b=some u->b≠it:=fun b u e z=>by rw [z,hn] at e;cases e
 refine I.step (g':=s.gens) (d':=s.drawn) (ch:=[it]) (fun b hb=>?_) (fun b o _ _ hc e _=>k b o (fun z=>hc (by simp [z])) e) (fun b o _ _ hc e _=>⟨o.slots,k b o (fun z=>hc (by simp [z])) e⟩) (fun _ _ _ _ n=>n)
  (fun b o hc e=>⟨o,k b o (fun z=>hc (by simp [z])) e⟩) (fun _ _ e=>e) (fun _ _ _ e=>e) (fun b ps e=>⟨#[],by rw [e];simp⟩) (fun m hm=>?_) (fun b u e=>?_) I.bare
 ·have e:b=it:=by simpa using hb
  subst e;exact ⟨h1,hL,h2,h3⟩
 ·obtain ⟨o,es,ep,ho,r⟩:=hm;exact ⟨o,es,ep,k _ o (Ne.symm hL) ho,r⟩
 ·refine (I.hok b u e).stay (fun c v hc q=>k c v ?_ q) (fun _ q=>q) fun _ _ q=>q
  rcases hc with z|z
  ·rw [z];exact nit b u e
  ·exact nit c _ z
theorem Inv.tok (I:Inv X pins σ H s) (t:Nat):Inv X pins σ H { s with toks:=t }:=I.un (h':=s.heap) (t':=t) Un.refl I.hok
theorem Inv.kept {t':Nat}(I:Inv X pins σ H s) (k:∀ b u,s.heap.get? b=some u->h'.get? b=some u):Inv X pins σ H { s with heap:=h',toks:=t' }:=I.un (Un.kept k) (I.hok.kept k)
theorem Inv.laid {a:Addr}{o:HO}{t':Nat}(I:Inv X pins σ H s) (k:∀ b u,s.heap.get? b=some u->h'.get? b=some u) (hp:s.heap.objs.size<=a) (new:Fb X.prog X.w (upd H a o) h' a o) :
  Inv X pins σ (upd H a o) { s with heap:=h',toks:=t' }:=I.un (Un.laid k hp (I.hok.fresh hp)) (I.hok.laid k hp new)
theorem Inv.write {x e:Addr}{o:HO}{t':Nat}(I:Inv X pins σ H s) (mu:Mut (H x)) (he:e=x\/H e=some (.own x)) (k:∀ b u,b≠e->s.heap.get? b=some u->h'.get? b=some u) (heo:∃ u,h'.get? e=some u)
  (new:Fb X.prog X.w (upd H x o) h' x o):Inv X pins σ (upd H x o) { s with heap:=h',toks:=t' }:=I.un (Un.write mu he k heo) (I.hok.write mu he k heo new)
theorem Inv.weak {σ':List (Option V)}(I:Inv X pins σ H s) (hl:σ'.length=σ.length) (w:∀ (i:Nat) v,σ'[i]?=some (some v)->σ[i]?=some (some v)):Inv X pins σ' H s :=
 ⟨I.ok,I.os,I.bare,I.base,let ⟨m,hn,hl'⟩:=I.loc;⟨m,hn,fun i x v e1 e2 e3=>hl' i x v e1 (w i v e2) e3⟩,I.cell,I.free,I.freeC,I.pin,I.hok,hl.trans I.len⟩
theorem Inv.pins_of {pins':List (Addr×Obj)}(I:Inv X pins σ H s) (h:∀ p∈pins',s.heap.get? p.1=some p.2/\H p.1=none/\p.1≠X.env.locals/\p.1 ∉ X.fs/\∀ v,p.2.data≠.cell v):Inv X pins' σ H s :=
 ⟨I.ok,I.os,I.bare,I.base,I.loc,I.cell,I.free,I.freeC,fun p hp=>(List.mem_append.mp hp).elim (fun z=>I.pin p (List.mem_append_left _ z)) (h p),I.hok,I.len⟩
theorem Ur {N:List Str}(hN:N.Nodup) {i j:Nat}{x:Str}(a:N[i]?=some x) (b:N[j]?=some x):i=j:=by
 obtain ⟨h1,e1⟩:=List.getElem?_eq_some_iff.mp a;obtain ⟨h2,e2⟩:=List.getElem?_eq_some_iff.mp b;exact (List.getElem_inj hN).mp (e1.trans e2.symm)
theorem bB {M:Model}{A:Around}{E:Value->Shared->Prop}{i:Nat}{x:Str}{v:V}{u:Value}{Q:Unit->Shared->Prop}(I:Inv X pins σ H s) (hN:X.N.Nodup) (hi:X.N[i]?=some x) (hx:Loc X.env.scope x) (r:RelV v u)
  (h:∀ s',Inv X pins (σ.set i (some v)) H s'->(∃ a,Heap.SameBut a s.heap s'.heap/\(a=X.env.locals\/X.env.cells.lookup x=some a))->Q () s') (hf:X.fn x=true\/X.env.scope.names.lookup x=some .local:=by first | exact .inl rfl | exact .inr rfl | assumption):wpAny M A (storeName X.env x u) Q E s:=by
 obtain ⟨m,hn,hl⟩:=id I.loc;have hcls:(X.env.scope.kind==.class || (X.env.scope.kind==.module&&X.env.locals != X.env.globals))=false:=by rw [I.ok.kind];rfl
 have hiσ:i < σ.length:=by rw [I.len];exact (List.getElem?_eq_some_iff.mp hi).1
 have cne:=I.cne;have tracked:∀ {a:Addr} {h':Heap},(∃ o,s.heap.get? a=some o/\H a=none)->Heap.SameBut a s.heap h'->HOk X.prog X.w H h':=fun {a h'} ha hs b ob e=>by
  obtain ⟨_,_,hfree⟩:=ha;refine (I.hok b ob e).stay (fun c w' hc q=>(hs.2 c ?_).trans q) (fun _ q=>q) fun _ _ q=>q
  rintro rfl;rcases hc with rfl|hc
  ·rw [hfree] at e;cases e
  ·rw [hfree] at hc;cases hc
 rcases hx with hk|hk
 ·refine wpAny_storeName_local hk hn (fun h' hn' hs=>?_) hcls;obtain ⟨oL,_,_,hoL,_⟩:=id hn;refine h _ ⟨I.ok,I.os,I.bare,⟨fun b o e n hb hx=>?_,fun b o e n hb hx=>?_,I.base.free,fun b o e hx=>?_,I.base.tups,I.base.frzs,I.base.tbls⟩,⟨_,hn',fun j y v' e1 e2 e3=>?_⟩,fun y c e=>?_,I.free,I.freeC,fun p hp=>?_,tracked ⟨oL,hoL,I.free⟩ hs,by simpa using I.len⟩ ⟨_,hs,.inl rfl⟩
  ·exact (hs.2 b (Nat.ne_of_lt (Nat.lt_of_lt_of_le (Heap.lt_size e) I.ok.above))).trans (I.base.keep b o e n hb hx)
  ·obtain ⟨sl,e1⟩:=I.base.slot b o e n hb hx;exact ⟨sl,(hs.2 b (Nat.ne_of_lt (Nat.lt_of_lt_of_le (Heap.lt_size e) I.ok.above))).trans e1⟩
  ·obtain ⟨o',e1⟩:=I.base.there b o e hx;exact ⟨o',(hs.2 b (Nat.ne_of_lt (Nat.lt_of_lt_of_le (Heap.lt_size e) I.ok.above))).trans e1⟩
  ·by_cases hj:j=i
   ·subst hj;rw [hi] at e1;cases e1;rw [List.getElem?_set_self hiσ] at e2;cases e2;exact ⟨u,r,.inl ⟨hk,by simp⟩⟩
   ·rw [List.getElem?_set_ne (Ne.symm hj)] at e2;obtain ⟨u',r',q⟩:=hl j y v' e1 e2 e3;refine ⟨u',r',?_⟩;rcases q with ⟨k,e⟩|⟨k,c,e,z⟩
    ·refine .inl ⟨k,?_⟩;have:y≠x:=fun e=>hj (Ur hN e1 (e ▸ hi))
     simp [this,e]
    ·exact .inr ⟨k,c,e,z.sameBut hs (cne y c e)⟩
  ·obtain ⟨w',z⟩:=I.cell y c e;exact ⟨w',z.sameBut hs (cne y c e)⟩
  ·obtain ⟨e,n,ne,nf,d⟩:=I.pin p hp;exact ⟨(hs.2 p.1 ne).trans e,n,ne,nf,d⟩
 ·have hfn:X.fn x=true:=by
   rcases hf with z|z
   ·exact z
   ·rw [z] at hk;cases hk
  obtain ⟨c,hc⟩:=I.ok.has x (.inl hk);obtain ⟨w',z⟩:=I.cell x c hc;refine wpAny_storeName_cell I.ok.kind hk hc z (fun h' hc' hs=>?_);obtain ⟨oc,hoc,hocd⟩:=id z;refine h { s with heap:=h' } ⟨I.ok,I.os,I.bare,⟨fun b o e n hb hx=>?_,fun b o e n hb hx=>?_,I.base.free,fun b o e hx=>?_,I.base.tups,I.base.frzs,I.base.tbls⟩,⟨m,hn.sameBut hs (Ne.symm (cne x c hc)),fun j y v' e1 e2 e3=>?_⟩,fun y c' e=>?_,I.free,I.freeC,fun p hp=>?_,tracked ⟨oc,hoc,(I.freeC x c hc).resolve_right fun z=>by rw [hfn] at z;cases z.1⟩ hs,by simpa using I.len⟩ ⟨c,hs,.inr hc⟩
  ·exact (hs.2 b (Nat.ne_of_lt (Nat.lt_of_lt_of_le (Heap.lt_size e) (I.ok.cab x c hfn hc)))).trans (I.base.keep b o e n hb hx)
  ·obtain ⟨sl,e1⟩:=I.base.slot b o e n hb hx;exact ⟨sl,(hs.2 b (Nat.ne_of_lt (Nat.lt_of_lt_of_le (Heap.lt_size e) (I.ok.cab x c hfn hc)))).trans e1⟩
  ·obtain ⟨o',e1⟩:=I.base.there b o e hx;exact ⟨o',(hs.2 b (Nat.ne_of_lt (Nat.lt_of_lt_of_le (Heap.lt_size e) (I.ok.cab x c hfn hc)))).trans e1⟩
  ·by_cases hj:j=i
   ·subst hj;rw [hi] at e1;cases e1;rw [List.getElem?_set_self hiσ] at e2;cases e2;exact ⟨u,r,.inr ⟨.inl hk,c,hc,hc'⟩⟩
   ·rw [List.getElem?_set_ne (Ne.symm hj)] at e2;obtain ⟨u',r',q⟩:=hl j y v' e1 e2 e3;refine ⟨u',r',?_⟩;rcases q with q|⟨k,c',e,z'⟩
    ·exact .inl q
    ·refine .inr ⟨k,c',e,z'.sameBut hs ?_⟩;rintro rfl;exact hj (Ur hN e1 (I.ok.inj _ _ _ e hc ▸ hi))
  ·by_cases hcc:c'=c
   ·subst hcc;exact ⟨_,hc'⟩
   ·obtain ⟨w2,z2⟩:=I.cell y c' e;exact ⟨w2,z2.sameBut hs hcc⟩
  ·obtain ⟨e,n,ne,nf,d⟩:=I.pin p hp;refine ⟨(hs.2 p.1 ?_).trans e,n,ne,nf,d⟩;intro q;rw [q,hoc] at e;have q':oc=p.2:=Option.some.inj e;exact d w' (by rw [← q'];exact hocd)
theorem Km {M:Model}{A:Around}{E:Value->Shared->Prop}{i:Nat}{x:Str}{v:V}{u:Value}{Q:Unit->Shared->Prop}(I:Inv X pins σ H s) (hN:X.N.Nodup) (hi:X.N[i]?=some x) (hx:Loc X.env.scope x) (r:RelV v u)
  (h:∀ s',Inv X pins (σ.set i (some v)) H s'->Q () s') (hf:X.fn x=true\/X.env.scope.names.lookup x=some .local:=by first | exact .inl rfl | exact .inr rfl | assumption):wpAny M A (storeName X.env x u) Q E s :=
 bB I hN hi hx r (fun s' I' _=>h s' I') hf
theorem Inv.call' {s':Shared}{ch:List Addr}(I:Inv X pins σ H s) (ho:s'.os=s.os) (u:Un (frs X.stack) ch H H' s.heap s'.heap) (hok:HOk X.prog X.w H' s'.heap) (hg:AllBare s'.gens)
  (hch:∀ b∈ch,(b∈X.ex\/X.s₀.heap.objs.size<=b)/\b≠X.env.locals/\(∀ x c,X.env.cells.lookup x=some c->c≠b)/\∀ p∈X.pn++pins,p.1≠b):Inv X pins σ H' s':=by
 obtain ⟨h',g',d',t',o'⟩:=s';have e:o'=s.os:=ho;subst e;exact I.call (g':=g') (t':=t') (d':=d') u hok hg hch
end
noncomputable abbrev XK:=Value->Option Addr->Hp->Prop
noncomputable abbrev St:=List (Option V)
noncomputable abbrev VK:=V->Hp->Prop
noncomputable abbrev TE:=St->Hp->VK->Prop
noncomputable abbrev TT:=St->Hp->(Bool->Hp->Prop)->Prop
noncomputable abbrev TA:=St->Hp->(List V->Hp->Prop)->Prop
structure Ends where
 nx:St->Hp->Prop
 rt:VK
 bk:St->Hp->Prop:=fun _ _=>False
 ct:St->Hp->Prop:=fun _ _=>False
noncomputable abbrev TS:=Ends->St->Hp->Prop
noncomputable def EP (X:Cx) (pins:List (Addr×Obj)) (σ:St) (Q:VK) (u:Value) (s':Shared):Prop:=∃ v H',Inv X pins σ H' s'/\RelV v u/\Q v H'
noncomputable def TP (X:Cx) (pins:List (Addr×Obj)) (σ:St) (Q:Bool->Hp->Prop) (b:Bool) (s':Shared):Prop:=∃ H',Inv X pins σ H' s'/\Q b H'
noncomputable def AP (X:Cx) (pins:List (Addr×Obj)) (σ:St) (Q:List V->Hp->Prop) (us:List Value) (s':Shared):Prop:=∃ vs H',Inv X pins σ H' s'/\Vals vs us/\Q vs H'
noncomputable def SP (X:Cx) (pins:List (Addr×Obj)) (D:Ends) (f:Flow) (s':Shared):Prop :=
 match f with
 | .next=>∃ σ' H',Inv X pins σ' H' s'/\D.nx σ' H'
 | .brk=>∃ σ' H',Inv X pins σ' H' s'/\D.bk σ' H'
 | .cont=>∃ σ' H',Inv X pins σ' H' s'/\D.ct σ' H'
 | .ret u=>∃ v σ' H',Inv X pins σ' H' s'/\RelV v u/\D.rt v H'
noncomputable def PE (X:Cx) (e:Expr) (t:TE):Prop :=
 ∀ (pins:List (Addr×Obj)) (s:Shared) (σ:St) (H:Hp) (Q:VK),Inv X pins σ H s->t σ H Q->wpAny (model X.prog X.w) X.A (eval e X.env) (EP X pins σ Q) X.xe s
noncomputable def PT (X:Cx) (e:Expr) (t:TT):Prop :=
 ∀ (pins:List (Addr×Obj)) (s:Shared) (σ:St) (H:Hp) (Q:Bool->Hp->Prop),Inv X pins σ H s->t σ H Q->wpAny (model X.prog X.w) X.A (isTrue e X.env (eval e X.env)) (TP X pins σ Q) X.xe s
noncomputable def PW (X:Cx) (e:Expr) (t:TT):Prop :=
 ∀ (whole:Sem Value) (pins:List (Addr×Obj)) (s:Shared) (σ:St) (H:Hp) (Q:Bool->Hp->Prop),Inv X pins σ H s->t σ H Q->wpAny (model X.prog X.w) X.A (isTrue e X.env whole) (TP X pins σ Q) X.xe s
theorem PW.pt {X:Cx}{e:Expr}{t:TT}(h:PW X e t):PT X e t:=h _
noncomputable def PA (X:Cx) (es:List Expr) (t:TA):Prop :=
 ∀ (pos:Pos) (pins:List (Addr×Obj)) (s:Shared) (σ:St) (H:Hp) (Q:List V->Hp->Prop),Inv X pins σ H s->t σ H Q->wpAny (model X.prog X.w) X.A (spliced (backTo pos (starEach es X.env))) (AP X pins σ Q) X.xe s
noncomputable def PS (X:Cx) (st:Stmt) (t:TS):Prop :=
 ∀ (pins:List (Addr×Obj)) (s:Shared) (σ:St) (H:Hp) (D:Ends),Inv X pins σ H s->t D σ H->wpAny (model X.prog X.w) X.A (exec st X.env) (SP X pins D) X.xe s
noncomputable def PSs (X:Cx) (st:List Stmt) (t:TS):Prop :=
 ∀ (pins:List (Addr×Obj)) (s:Shared) (σ:St) (H:Hp) (D:Ends),Inv X pins σ H s->t D σ H->wpAny (model X.prog X.w) X.A (execs st X.env) (SP X pins D) X.xe s
theorem thn {α:Type}{t:Sem α}{Q Q':α->Shared->Prop}{M:Model}{A:Around}{E:Value->Shared->Prop}{s:Shared}(h:wpAny M A t Q E s) (hQ:∀ a s,Q a s->Q' a s):wpAny M A t Q' E s:=wpAny_mono h hQ fun _ _ x=>x
section
variable {X:Cx}
noncomputable def xV (i:Nat):TE:=fun σ H Q=>∃ v,σ[i]?=some (some v)/\Q v H
noncomputable def tC (v:V):TE:=fun _ H Q=>Q v H
theorem Hx {i:Nat}{x:Str}{pos:Pos}(hN:X.N[i]?=some x) (hv:Vis X.env.scope x) (hd:(x==("__debug__":Str))=false:=by decide) (hcd:(x==("__classdict__":Str))=false:=by decide):PE X (.Name x pos) (xV i):=by
 intro pins s σ H Q I h;obtain ⟨v,e,h⟩:=h;obtain ⟨m,hn,hl⟩:=I.loc;obtain ⟨u,r,l⟩:=hl i x v hN e hv;have fin:EP X pins σ Q u s:=⟨v,H,I,r,h⟩;rcases l with ⟨hk,hm⟩|⟨hk,c,hc,hcell⟩
 ·exact wpAny_Name (wpAny_loadName_local I.ok.kind hk hn hm fin) hd
 ·rcases hk with hk|hk
  ·exact wpAny_Name (wpAny_loadName_cell I.ok.kind hk hc hcell fin) hd
  ·exact wpAny_Name (wpAny_loadName_free I.ok.kind hk hc hcell fin hcd) hd
theorem xW {i j pos}:PE X (.Constant (.int i) j pos) (tC (.int i)):=fun _ _ _ H _ I h=>wpAny_Constant_int ⟨.int i,H,I.tok _,⟨_,rfl⟩,h⟩
theorem Adr {b j pos}:PE X (.Constant (.bool b) j pos) (tC (.bl b)):=fun _ _ _ H _ I h=>Constant_bool ⟨.bl b,H,I,rfl,h⟩
theorem xX {j pos}:PE X (.Constant .none j pos) (tC .non):=fun _ _ _ H _ I h=>Constant_none ⟨.non,H,I,rfl,h⟩
theorem xY {x j pos}:PE X (.Constant (.str x) j pos) (tC (.str x)):=fun _ _ _ H _ I h=>Calls.Constant_str ⟨.str x,H,I.tok _,⟨_,rfl⟩,h⟩
noncomputable def Gl (X:Cx) (x:Str):Prop:=X.env.kindOf x=some .globalImplicit
theorem Nr {E:Value->Shared->Prop}{pins:List (Addr×Obj)}{s:Shared}{σ:St}{H:Hp}{x:Str}{u:Value}{pos:Pos}{Q:Value->Shared->Prop}(I:Inv X pins σ H s) (hg:Gl X x) (hm:X.mg x=some u) (h:Q u s)
  (hd:(x==("__debug__":Str))=false:=by decide):wpAny (model X.prog X.w) X.A (eval (.Name x pos) X.env) Q E s :=
 Calls.Name_function_global I.ok.kind hg (Calls.loadGlobal_global (by rw [I.ok.glob];exact I.mod.glob.keeps I.bk) hm h) hd
theorem Oi {E:Value->Shared->Prop}{pins:List (Addr×Obj)}{s:Shared}{σ:St}{H:Hp}{x:Str}{u:Value}{pos:Pos}{Q:Value->Shared->Prop}(I:Inv X pins σ H s) (hg:Gl X x) (hm:X.mg x=none) (hv:bootBuiltins x=some u) (h:Q u s)
  (hn:x ≠ "__name__":=by decide) (hd:(x==("__debug__":Str))=false:=by decide):wpAny (model X.prog X.w) X.A (eval (.Name x pos) X.env) Q E s:=by
 obtain ⟨mb,h1,h2⟩:=I.mod.blt;exact Calls.Name_function_global I.ok.kind hg (Calls.loadGlobal_builtin (by rw [I.ok.glob];exact I.mod.glob.keeps I.bk) hm (by rw [I.ok.blt];exact h1.keeps I.bk) ((h2 x hn).trans hv) h) hd
theorem qO {x:Str}{v:V}{u:Value}{pos:Pos}(hg:Gl X x) (hm:X.mg x=some u) (r:RelV v u) (hd:(x==("__debug__":Str))=false:=by decide):PE X (.Name x pos) (tC v) :=
 fun _ _ _ H _ I h=>Nr I hg hm ⟨v,H,I,r,h⟩ hd
theorem qP {x:Str}{v:V}{u:Value}{pos:Pos}(hg:Gl X x) (hm:X.mg x=none) (hv:bootBuiltins x=some u) (r:RelV v u) (hn:x ≠ "__name__":=by decide) (hd:(x==("__debug__":Str))=false:=by decide):PE X (.Name x pos) (tC v) :=
 fun _ _ _ H _ I h=>Oi I hg hm hv ⟨v,H,I,r,h⟩ hn hd
variable {a b:Expr}{ta tb:TE}{pos:Pos}
theorem RelV.none_iff {x:V}{v:Value}(r:RelV x v):(v==Value.none)=decide (x=.non):=by
 cases x with
 | non=>cases r;rfl
 | bl _=>cases r;rfl
 | int _=>obtain ⟨t,rfl⟩:=r;rfl
 | str _=>obtain ⟨t,rfl⟩:=r;rfl
 | byt _=>obtain ⟨t,rfl⟩:=r;rfl
 | flt _=>obtain ⟨t,rfl⟩:=r;rfl
 | ref _=>cases r;rfl
 | ty _=>cases r;rfl
variable {tA tB':TT}{rest:List Expr}
noncomputable def Af3 (t u:TT):TT:=fun σ H Q=>t σ H fun c H1=>if c=true then u σ H1 Q else Q false H1
noncomputable def tOr (t u:TT):TT:=fun σ H Q=>t σ H fun c H1=>if c=true then Q true H1 else u σ H1 Q
noncomputable def Af4 (t:TT):TT:=fun σ H Q=>t σ H fun c H1=>Q (!c) H1
theorem qQ (ha:PT X a tA):PW X (.BoolOp .And [a] pos) tA:=by
 intro wh pins s σ H Q I h;refine isTrue_and (thn (ha pins s σ H Q I h) fun c s1 e=>?_);cases c with
 | true=>exact isTrue_and_nil e
 | false=>exact e
theorem xZ (ha:PT X a tA):PW X (.BoolOp .Or [a] pos) tA:=by
 intro wh pins s σ H Q I h;refine isTrue_or (thn (ha pins s σ H Q I h) fun c s1 e=>?_);cases c with
 | false=>exact isTrue_or_nil e
 | true=>exact e
theorem yC (ha:PT X a tA) (hb:PW X (.BoolOp .And (b::rest) pos) tB'):PW X (.BoolOp .And (a::b::rest) pos) (Af3 tA tB'):=by
 intro wh pins s σ H Q I h;refine isTrue_and (thn (ha pins s σ H _ I h) ?_);rintro c s1 ⟨H1,I1,q1⟩;cases c with
 | true=>exact hb wh pins s1 σ H1 Q I1 q1
 | false=>exact ⟨H1,I1,q1⟩
theorem Ads (ha:PT X a tA) (hb:PW X (.BoolOp .Or (b::rest) pos) tB'):PW X (.BoolOp .Or (a::b::rest) pos) (tOr tA tB'):=by
 intro wh pins s σ H Q I h;refine isTrue_or (thn (ha pins s σ H _ I h) ?_);rintro c s1 ⟨H1,I1,q1⟩;cases c with
 | true=>exact ⟨H1,I1,q1⟩
 | false=>exact hb wh pins s1 σ H1 Q I1 q1
theorem yD (ha:PT X a tA):PT X (.UnaryOp .Not a pos) (Af4 tA):=by
 intro pins s σ H Q I h;exact isTrue_not (ha pins s σ H (fun c H1=>Q (!c) H1) I h)
noncomputable def Adt (ta tb:TE):TE:=fun σ H Q=>ta σ H fun x H1=>∃ c,x=.bl c/\if c=true then tb σ H1 Q else Q (.bl false) H1
noncomputable def Af5 (ta tb:TE):TE:=fun σ H Q=>ta σ H fun x H1=>∃ c,x=.bl c/\if c=true then Q (.bl true) H1 else tb σ H1 Q
noncomputable def Adu (ta:TE):TE:=fun σ H Q=>ta σ H fun x H1=>∃ c,x=.bl c/\Q (.bl (!c)) H1
theorem yE {op}{t:TE}(h:PE X a t):PE X (.BoolOp op [a] pos) t:=fun pins s σ H Q I hw=>BoolOp_one (h pins s σ H Q I hw)
theorem yF (ha:PE X a ta) (hb:PE X (.BoolOp .And (b::rest) pos) tb):PE X (.BoolOp .And (a::b::rest) pos) (Adt ta tb):=by
 intro pins s σ H Q I h;refine BoolOp_and (thn (ha pins s σ H _ I h) ?_);rintro v s1 ⟨x,H1,I1,r1,q1⟩;obtain ⟨c,rfl,q1⟩:=q1;cases r1;refine wpAny_truthy_bool ?_;cases c with
 | true=>exact hb pins s1 σ H1 Q I1 q1
 | false=>exact ⟨.bl false,H1,I1,rfl,q1⟩
theorem Adv (ha:PE X a ta) (hb:PE X (.BoolOp .Or (b::rest) pos) tb):PE X (.BoolOp .Or (a::b::rest) pos) (Af5 ta tb):=by
 intro pins s σ H Q I h;refine BoolOp_or (thn (ha pins s σ H _ I h) ?_);rintro v s1 ⟨x,H1,I1,r1,q1⟩;obtain ⟨c,rfl,q1⟩:=q1;cases r1;refine wpAny_truthy_bool ?_;cases c with
 | false=>exact hb pins s1 σ H1 Q I1 q1
 | true=>exact ⟨.bl true,H1,I1,rfl,q1⟩
theorem yG (ha:PE X a ta):PE X (.UnaryOp .Not a pos) (Adu ta):=by
 intro pins s σ H Q I h;refine UnaryOp_ (thn (ha pins s σ H _ I h) ?_);rintro v s1 ⟨x,H1,I1,r1,q1⟩;obtain ⟨c,rfl,q1⟩:=q1;cases r1;exact not_of (wpAny_truthy_bool ⟨.bl (!c),H1,I1,rfl,q1⟩)
noncomputable def tIf (t:TT) (ta tb:TE):TE:=fun σ H Q=>t σ H fun c H1=>if c=true then ta σ H1 Q else tb σ H1 Q
theorem dX {c:Expr}(hc:PT X c tA) (ha:PE X a ta) (hb:PE X b tb):PE X (.IfExp c a b pos) (tIf tA ta tb):=by
 intro pins s σ H Q I h;refine wpAny_IfExp (thn (hc pins s σ H _ I h) ?_);rintro d s1 ⟨H1,I1,q1⟩;cases d with
 | true=>exact ha pins s1 σ H1 Q I1 q1
 | false=>exact hb pins s1 σ H1 Q I1 q1
end
noncomputable def SqL (K:PySem.W.Frag) (H:Hp) (a:Addr) (xs:List V):Prop :=
 Rd H a (.lst xs) \/
  ∃ (o:Obj) (its:Array Value) (n:Nat),K.lookup a=some o/\o.cls=.type "list"/\o.dict=none/\o.data=.seq its n/\its.size<=sizeLine/\Vals xs its.toList
noncomputable def SqT (K:PySem.W.Frag) (H:Hp) (a:Addr) (xs:List V):Prop :=
 Rd H a (.tup xs) \/
  ∃ (o:Obj) (its:Array Value) (n:Nat),K.lookup a=some o/\o.cls=.type "tuple"/\o.dict=none/\o.data=.seq its n/\its.size<=sizeLine/\Vals xs its.toList
noncomputable def Af6:Value->Option V
 | .none=>some .non
 | .bool b=>some (.bl b)
 | .int i _=>some (.int i)
 | .str x _=>some (.str x)
 | .bytes b _=>some (.byt b)
 | .float b _=>some (.flt b)
 | .ref a=>some (.ref a)
 | .type n=>some (.ty n)
 | _=>none
theorem RelV.abs {x:V}{u:Value}(r:RelV x u):Af6 u=some x:=by
 cases x with
 | non=>cases r;rfl
 | bl _=>cases r;rfl
 | int _=>obtain ⟨t,rfl⟩:=r;rfl
 | str _=>obtain ⟨t,rfl⟩:=r;rfl
 | byt _=>obtain ⟨t,rfl⟩:=r;rfl
 | flt _=>obtain ⟨t,rfl⟩:=r;rfl
 | ref _=>cases r;rfl
 | ty _=>cases r;rfl
theorem RelV.inj {x y:V}{u:Value}(r:RelV x u) (q:RelV y u):x=y:=Option.some.inj (r.abs.symm.trans q.abs)
theorem Vals.inj {xs ys:List V}{us:List Value}(a:Vals xs us) (b:Vals ys us):xs=ys:=by
 induction a generalizing ys with
 | nil=>cases b;rfl
 | cons r t ih =>
  cases b with
  | cons r' t'=>rw [r.inj r',ih t']
section
variable {X:Cx}{pins:List (Addr×Obj)}{σ:St}{H:Hp}{s:Shared}{a:Addr}{xs ys:List V}
theorem Inv.list (I:Inv X pins σ H s) (h:SqL X.K H a xs):∃ its:List Value,Vals xs its/\PlainL s.heap a its.toArray/\xs.length<=sizeLine:=by
 rcases h with h|⟨o,its,n,hk,hc,hd,hs,hz,r⟩
 ·obtain ⟨z,its,n,r,e⟩:=h.ok I.hok;exact ⟨its,r,⟨_,n,e,rfl,rfl,rfl⟩,z⟩
 ·refine ⟨its.toList,r,⟨o,n,I.kIn a o hk,hc,hd,by simpa using hs⟩,?_⟩;have e:=r.length;simp only [Array.length_toList] at e;omega
theorem Inv.tuple (I:Inv X pins σ H s) (h:SqT X.K H a xs):∃ its:List Value,Vals xs its/\IsTup s.heap a its.toArray/\xs.length<=sizeLine:=by
 rcases h with h|⟨o,its,n,hk,hc,hd,hs,hz,r⟩
 ·obtain ⟨z,its,r,p⟩:=h.ok I.hok;exact ⟨its,r,p.to,z⟩
 ·refine ⟨its.toList,r,⟨o,I.kIn a o hk,hc,n,by simpa using hs⟩,?_⟩;have e:=r.length;simp only [Array.length_toList] at e;omega
theorem Inv.tupleP (I:Inv X pins σ H s) (h:SqT X.K H a xs):∃ its:List Value,Vals xs its/\Ni s.heap a its.toArray/\xs.length<=sizeLine:=by
 rcases h with h|⟨o,its,n,hk,hc,hd,hs,hz,r⟩
 ·obtain ⟨z,its,r,p⟩:=h.ok I.hok;exact ⟨its,r,p,z⟩
 ·refine ⟨its.toList,r,⟨o,I.kIn a o hk,hc,hd,n,by simpa using hs⟩,?_⟩;have e:=r.length;simp only [Array.length_toList] at e;omega
theorem Inv.list_inj (I:Inv X pins σ H s) (h:SqL X.K H a xs) (h':SqL X.K H a ys):xs=ys:=by
 obtain ⟨its,r,⟨o,n,e,_,_,d⟩,_⟩:=I.list h;obtain ⟨its',r',⟨o',n',e',_,_,d'⟩,_⟩:=I.list h';rw [e] at e';cases e';rw [d] at d';injection d' with d1 _
 have:its=its':=by simpa using congrArg Array.toList d1
 subst this;exact r.inj r'
theorem Inv.tuple_inj (I:Inv X pins σ H s) (h:SqT X.K H a xs) (h':SqT X.K H a ys):xs=ys:=by
 obtain ⟨its,r,⟨o,e,_,n,d⟩,_⟩:=I.tuple h;obtain ⟨its',r',⟨o',e',_,n',d'⟩,_⟩:=I.tuple h';rw [e] at e';cases e';rw [d] at d';injection d' with d1 _
 have:its=its':=by simpa using congrArg Array.toList d1
 subst this;exact r.inj r'
end
noncomputable abbrev Cx.wish (X:Cx) (E:Value->Shared->Prop):Cx:={ X with xe:=E }
noncomputable abbrev Cx.nox (X:Cx):Cx:=X.wish fun _ _=>False
theorem Cx.Ok.wish {X:Cx}(ok:X.Ok) (E:Value->Shared->Prop):(X.wish E).Ok :=
 ⟨ok.mod,ok.kind,ok.glob,ok.blt,ok.above,ok.inj,ok.has,ok.cab,ok.hd,ok.frames,ok.stk,ok.exf,ok.bs,ok.bsz,ok.noex,ok.exfs,ok.funs,ok.frf⟩
theorem Cx.Ok.unwish {X:Cx}{E:Value->Shared->Prop}(ok:(X.wish E).Ok):X.Ok :=
 ⟨ok.mod,ok.kind,ok.glob,ok.blt,ok.above,ok.inj,ok.has,ok.cab,ok.hd,ok.frames,ok.stk,ok.exf,ok.bs,ok.bsz,ok.noex,ok.exfs,ok.funs,ok.frf⟩
section
variable {X:Cx}{pins:List (Addr×Obj)}{σ:St}{H:Hp}{s:Shared}{E:Value->Shared->Prop}
theorem Inv.wish (I:Inv X pins σ H s) (E:Value->Shared->Prop):Inv (X.wish E) pins σ H s:=⟨I.ok.wish E,I.os,I.bare,I.base,I.loc,I.cell,I.free,I.freeC,I.pin,I.hok,I.len⟩
theorem Inv.unwish (I:Inv (X.wish E) pins σ H s):Inv X pins σ H s:=⟨I.ok.unwish,I.os,I.bare,I.base,I.loc,I.cell,I.free,I.freeC,I.pin,I.hok,I.len⟩
theorem SP.unwish {D:Ends}{f:Flow}{s':Shared}(h:SP (X.wish E) pins D f s'):SP X pins D f s':=by
 cases f with
 | next=>obtain ⟨σ',H',I,q⟩:=h;exact ⟨σ',H',I.unwish,q⟩
 | brk=>obtain ⟨σ',H',I,q⟩:=h;exact ⟨σ',H',I.unwish,q⟩
 | cont=>obtain ⟨σ',H',I,q⟩:=h;exact ⟨σ',H',I.unwish,q⟩
 | ret u=>obtain ⟨v,σ',H',I,r,q⟩:=h;exact ⟨v,σ',H',I.unwish,r,q⟩
theorem PSs.nox {st:List Stmt}{t:TS}(h:PSs X.nox st t):PSs X st t:=fun pins s σ H D I hw =>
 wpAny_mono (h pins s σ H D (I.wish _) hw) (fun _ _ q=>q.unwish) fun _ _ z=>False.elim z
end
section
variable {X:Cx}{st:Stmt}{rest:List Stmt}{t u:TS}{e:Expr}{te:TE}{pos:Pos}
noncomputable def wJ:TS:=fun D σ H=>D.nx σ H
noncomputable def Af7 (t u:TS):TS:=fun D σ H=>t { D with nx:=u D } σ H
theorem qR:PSs X [] wJ:=fun _ _ σ H _ I h=>wpAny_execs_nil ⟨σ,H,I,h⟩
theorem dY (h1:PS X st t) (h2:PSs X rest u):PSs X (st::rest) (Af7 t u):=by
 intro pins s σ H D I h;refine wpAny_execs_cons (thn (h1 pins s σ H { D with nx:=u D } I h) fun f s1 q=>?_);cases f with
 | next =>
  obtain ⟨σ',H',I',q⟩:=q;exact h2 pins s1 σ' H' D I' q
 | ret v=>exact q
 | brk=>exact q
 | cont=>exact q
theorem qT (h1:PS X st t):PSs X [st] t:=by
 intro pins s σ H D I h;refine wpAny_execs_cons (thn (h1 pins s σ H D I h) fun f s1 q=>?_);cases f with
 | next=>exact wpAny_execs_nil q
 | ret v=>exact q
 | brk=>exact q
 | cont=>exact q
noncomputable def yH:TS:=fun D σ H=>D.bk σ H
noncomputable def Adw:TS:=fun D σ H=>D.ct σ H
theorem qU:PS X (.Pass pos) wJ:=fun _ _ σ H _ I h=>wpAny_Pass ⟨σ,H,I,h⟩
theorem dZ:PS X (.Break pos) yH:=fun _ _ σ H _ I h=>wpAny_Break ⟨σ,H,I,h⟩
theorem Us:PS X (.Continue pos) Adw:=fun _ _ σ H _ I h=>wpAny_Continue ⟨σ,H,I,h⟩
theorem Inv.quiet {pins:List (Addr×Obj)}{σ:St}{H:Hp}{s:Shared}(I:Inv X pins σ H s):interactive X.env=false:=by simp [interactive,I.ok.kind]
noncomputable def Adx (te:TE):TS:=fun D σ H=>te σ H fun _ H1=>D.nx σ H1
theorem qW (he:PE X e te) (hs:swapsWith e none pos.line X.env=pure false:=by rfl):PS X (.Expr e pos) (Adx te):=by
 intro pins s σ H D I h;exact wpAny_Expr_any (thn (he pins s σ H _ I h) fun v s1 ⟨x,H1,I1,r1,q1⟩=>⟨σ,H1,I1,q1⟩) I.quiet hs
noncomputable def Af8 (te:TE):TS:=fun D σ H=>te σ H D.rt
theorem yI (he:PE X e te):PS X (.Return (some e) pos) (Af8 te):=by
 intro pins s σ H D I h;refine wpAny_Return_some (thn (he pins s σ H _ I h) ?_);rintro v s1 ⟨x,H1,I1,r1,q1⟩;exact ⟨x,σ,H1,I1,r1,q1⟩
noncomputable def Ady:TS:=fun D _ H=>D.rt .non H
theorem qX:PS X (.Return none pos) Ady:=fun _ _ σ H _ I h=>wpAny_Return_none ⟨.non,σ,H,I,rfl,h⟩
noncomputable def Af9 (c:TT) (t u:TS):TS:=fun D σ H=>c σ H fun b H1=>if b=true then t D σ H1 else u D σ H1
theorem Adz {c:Expr}{a b:List Stmt}{tc:TT}(hc:PT X c tc) (ha:PSs X a t) (hb:PSs X b u):PS X (.If c a b pos) (Af9 tc t u):=by
 intro pins s σ H D I h;refine wpAny_If (thn (hc pins s σ H _ I h) ?_);rintro d s1 ⟨H1,I1,q1⟩;cases d with
 | true=>exact ha pins s1 σ H1 D I1 q1
 | false=>exact hb pins s1 σ H1 D I1 q1
end
noncomputable abbrev TG:=V->St->Hp->(St->Hp->Prop)->Prop
noncomputable abbrev TGs:=List V->St->Hp->(St->Hp->Prop)->Prop
noncomputable def PG (X:Cx) (target:Expr) (t:TG):Prop :=
 ∀ (pins:List (Addr×Obj)) (s:Shared) (σ:St) (H:Hp) (v:V) (u:Value) (Q:St->Hp->Prop),Inv X pins σ H s->RelV v u->t v σ H Q ->
  wpAny (model X.prog X.w) X.A (assign target X.env u) (fun _ s'=>∃ σ' H',Inv X pins σ' H' s'/\Q σ' H') X.xe s
noncomputable def PGs (X:Cx) (ts:List Expr) (t:TGs):Prop :=
 ∀ (pins:List (Addr×Obj)) (s:Shared) (σ:St) (H:Hp) (vs:List V) (us:List Value) (Q:St->Hp->Prop),Inv X pins σ H s->Vals vs us->t vs σ H Q ->
  wpAny (model X.prog X.w) X.A (assignInOrder ((assignEach ts X.env).map (·.2)) us) (fun _ s'=>∃ σ' H',Inv X pins σ' H' s'/\Q σ' H') X.xe s
noncomputable abbrev yJ:=V->V->V->Hp->(Hp->Prop)->Prop
noncomputable def Ad0 (X:Cx) (t:yJ):Prop :=
 ∀ (pins:List (Addr×Obj)) (s:Shared) (σ:St) (H:Hp) (o i v:V) (ov iv u:Value) (Q:Hp->Prop),Inv X pins σ H s->RelV o ov->RelV i iv->RelV v u->t o i v H Q ->
  wpAny (model X.prog X.w) X.A (setItem ov iv u) (fun _ s'=>∃ H',Inv X pins σ H' s'/\Q H') X.xe s
section
variable {X:Cx}{pos:Pos}
noncomputable def eE (i:Nat):TG:=fun v σ H Q=>Q (σ.set i (some v)) H
theorem Yy {i:Nat}{x:Str}(hN:X.N.Nodup) (hi:X.N[i]?=some x) (hx:Loc X.env.scope x) (hf:X.fn x=true\/X.env.scope.names.lookup x=some .local:=by first | exact .inl rfl | exact .inr rfl | assumption):PG X (.Name x pos) (eE i):=by
 intro pins s σ H v u Q I r h;exact wpAny_assign_Name (Km I hN hi hx r (fun s' I'=>⟨_,H,I',h⟩) hf)
noncomputable def Ad1:TGs:=fun vs σ H Q=>vs=[]/\Q σ H
noncomputable def wK (t:TG) (u:TGs):TGs:=fun vs σ H Q=>∃ v r,vs=v::r/\t v σ H fun σ' H'=>u r σ' H' Q
theorem qY:PGs X [] Ad1:=by
 intro pins s σ H vs us Q I r h;obtain ⟨e,h⟩:=h;subst e;cases r;exact assignInOrder_nil ⟨σ,H,I,h⟩
theorem eF {e:Expr}{es:List Expr}{t:TG}{u:TGs}(h1:PG X e t) (h2:PGs X es u)
  (hs:(assignEach (e::es) X.env).map (·.2)=assign e X.env::(assignEach es X.env).map (·.2):=by rfl):PGs X (e::es) (wK t u):=by
 intro pins s σ H vs us Q I r h;obtain ⟨v,vr,e1,h⟩:=h;subst e1;cases r with
 | cons r rr =>
  rw [hs];refine assignInOrder_cons (thn (h1 pins s σ H _ _ _ I r h) ?_);rintro _ s1 ⟨σ1,H1,I1,q1⟩;exact h2 pins s1 σ1 H1 _ _ Q I1 rr q1
noncomputable def Aga (K:PySem.W.Frag) (n:Nat) (t:TGs):TG:=fun v σ H Q=>∃ a xs,v=.ref a/\SqT K H a xs/\xs.length=n/\t xs σ H Q
theorem yK {es:List Expr}{k:Nat}{t:TGs}{n:Nat}(hc:X.calm=true) (h:PGs X es t)
  (hn:(assignEach es X.env).length=n:=by rfl) (hst:(assignEach es X.env).findIdx? (·.1)=none:=by rfl):PG X (.Tuple es k pos) (Aga X.K n t):=by
 intro pins s σ H v u Q I r hw;obtain ⟨a,xs,e1,hq,hl,hw⟩:=hw;subst e1;cases r;obtain ⟨its,rv,ht,hz⟩:=I.tuple hq;refine assign_Tuple_tuple (I.ok.hd hc) ht (by simp [hn,← hl,rv.length]) hst fun h' hx=>?_
 have I1:Inv X pins σ H { s with heap:=h' }:=I.kept (t':=s.toks) fun b o e=>hx b o (Nat.ne_of_lt (Heap.lt_size e)) e
 exact h pins _ σ H xs _ Q I1 (by simpa using rv) hw
noncomputable def Agb (to ti:TE) (t:yJ):TG:=fun v σ H Q=>to σ H fun o H1=>ti σ H1 fun i H2=>t o i v H2 fun H3=>Q σ H3
theorem yL {o i:Expr}{to ti:TE}{t:yJ}(ho:PE X o to) (hi:PE X i ti) (hs:Ad0 X t)
  (ha:∀ v,assign (.Subscript o i pos) X.env v=(do
   let ov ← holding [v] (eval o X.env)
   let iv ← holding [v,ov] (eval i X.env)
   standAt pos
   holding [v,ov,iv] (setItem ov iv v)
   release [v,ov,iv] []):=by intro _;rfl):PG X (.Subscript o i pos) (Agb to ti t):=by
 intro pins s σ H v u Q I r h;rw [ha];refine wpAny_bind (wpAny_holding (thn (ho pins s σ H _ I h) ?_));rintro ov s1 ⟨x,H1,I1,r1,q1⟩;refine wpAny_bind (wpAny_holding (thn (hi pins s1 σ H1 _ I1 q1) ?_));rintro iv s2 ⟨y,H2,I2,r2,q2⟩;refine wpAny_bind (wpAny_standAt (wpAny_bind (wpAny_holding (thn (hs pins s2 σ H2 x y v ov iv u _ I2 r1 r2 r q2) ?_))));rintro _ s3 ⟨H3,I3,q3⟩;exact wpAny_release ⟨σ,H3,I3,q3⟩
noncomputable def yM (te:TE) (g:TG):TS:=fun D σ H=>te σ H fun x H1=>g x σ H1 D.nx
theorem yN {tg e:Expr}{te:TE}{g:TG}(he:PE X e te) (hg:PG X tg g) (hs:swapsWithSole [tg] e pos.line X.env=pure false:=by rfl) (hw:swappedStores [tg] e X.env=pure none:=by rfl)
  (h1:(assignEach [tg] X.env).map (·.2)=[assign tg X.env]:=by rfl):PS X (.Assign [tg] e pos) (yM te g):=by
 intro pins s σ H D I h;refine wpAny_Assign_stores (thn (he pins s σ H _ I h) ?_) hs hw;rintro v s1 ⟨x,H1,I1,r1,q1⟩;rw [h1];exact thn (hg pins s1 σ H1 x v _ I1 r1 q1) fun _ s2 q=>q
noncomputable def Agc (i j:Nat) (ta:TA):TS:=fun D σ H=>ta σ H fun vs H1=>∃ v w,vs=[v,w]/\D.nx ((σ.set i (some v)).set j (some w)) H1
theorem yO {i j:Nat}{x y:Str}{a b:Expr}{ta:TA}{px py pt:Pos}{kt k2 pt2}(hc:X.calm=true) (hN:X.N.Nodup) (hi:X.N[i]?=some x) (hj:X.N[j]?=some y) (hij:i≠j)
  (hx:X.env.scope.names.lookup x=some .local) (hy:X.env.scope.names.lookup y=some .local) (ha:PA X [a,b] ta)
  (hw:swappedStores [.Tuple [.Name x px,.Name y py] kt pt] (.Tuple [a,b] k2 pt2) X.env=pure (some [x,y]))
  (hs:swapsWithSole [.Tuple [.Name x px,.Name y py] kt pt] (.Tuple [a,b] k2 pt2) pos.line X.env=pure false:=by rfl) :
  PS X (.Assign [.Tuple [.Name x px,.Name y py] kt pt] (.Tuple [a,b] k2 pt2) pos) (Agc i j ta):=by
 intro pins s σ H D I h;rw [exec_Assign_arm];refine wpAny_bind (wpAny_standAt ?_);rw [hs];refine wpAny_bind (wpAny_pure ?_);rw [if_neg (by decide)];refine wpAny_bind (Tuple_ (thn (ha _ pins s σ H _ I h) ?_));rintro us s1 ⟨vs,H1,I1,r1,q1⟩;obtain ⟨v,w,e1,q1⟩:=q1;subst e1;obtain ⟨u1,u2,rfl,rv,rw'⟩:∃ u1 u2,us=[u1,u2]/\RelV v u1/\RelV w u2:=by
  cases r1 with
  | cons p q =>
   cases q with
   | cons p' q' =>
    cases q';exact ⟨_,_,rfl,p,p'⟩
 refine wpAny_newObj_type ?_ (by show 2<=sizeLine;decide)
 have I2:Inv X pins σ H1 { s1 with heap:=s1.heap.push { cls:=.type "tuple",data:=.seq [u1,u2].toArray } }:=I1.kept (t':=s1.toks) fun b o e=>Heap.get?_push_of_some _ e
 rw [hw];refine wpAny_bind (wpAny_pure ?_)
 show wpAny (model X.prog X.w) X.A (do rule "assign.swapped-stores";let items ← unpackItems (.ref s1.heap.objs.size) 2 none;assignInOrder [fun v=>bindName X.env y v,fun v=>bindName X.env x v] items.reverse;pure Flow.next) _ _ _;refine wpAny_bind (wpAny_rule (wpAny_bind (unpackItems_tuple (items:=#[u1,u2]) (I.ok.hd hc) (IsTup.new s1.heap _) fun h' hx'=>?_)));have I3:=I2.kept (h':=h') (t':=s1.toks) fun b o e=>hx' b o (Nat.ne_of_lt (Heap.lt_size e)) e
 show wpAny _ _ (assignInOrder [fun v=>bindName X.env y v,fun v=>bindName X.env x v] [u2,u1] >>= fun _=>pure Flow.next) _ _ _;refine wpAny_bind (assignInOrder_cons (wpAny_bindName (Km I3 hN hj (.inl hy) rw' (fun s2 I4=>?_) (.inr hy))));refine assignInOrder_cons (wpAny_bindName (Km I4 hN hi (.inl hx) rv (fun s3 I5=>assignInOrder_nil (wpAny_pure ?_)) (.inr hx)));rw [List.set_comm _ _ (Ne.symm hij)] at I5;exact ⟨_,H1,I5,q1⟩
end
section
variable {X:Cx}{pos:Pos}
noncomputable def yP (c:TT) (tb:TS):TS:=fun D σ H=>∃ W:Nat->St->Hp->Prop,(∃ m,W m σ H)/\∀ m σ H,W m σ H ->
 c σ H fun b H1=>if b=true then ∃ N:St->Hp->Prop,(∀ σ' H',N σ' H'->∃ m',m' < m/\W m' σ' H')/\tb { D with nx:=N,ct:=N,bk:=D.nx } σ H1 else D.nx σ H1
theorem eG {c:Expr}{body:List Stmt}{tc:TT}{tb:TS}(hp:PassesOwn (model X.prog X.w) X.A X.env X.xe) (hc:PT X c tc) (hb:PSs X body tb):PS X (.While c body [] pos) (yP tc tb):=by
 intro pins s σ H D I h;obtain ⟨W,⟨m0,w0⟩,turn⟩:=h;refine wpAny_While (codeAny_whileLoop (fun n s'=>∃ σ' H',Inv X pins σ' H' s'/\W n σ' H') ?_ m0 ⟨σ,H,I,w0⟩);rintro n s1 ⟨σ1,H1,I1,w1⟩;refine wpAny_passesOwn hp (thn (hc pins s1 σ1 H1 _ I1 (turn n σ1 H1 w1)) ?_);rintro b s2 ⟨H2,I2,q2⟩;cases b with
 | true =>
  obtain ⟨N,hN,q2⟩:=q2;rw [if_pos rfl];refine wpAny_passesOwn hp (thn (hb pins s2 σ1 H2 _ I2 q2) fun f s3 q3=>?_);cases f with
  | next =>
   obtain ⟨σ3,H3,I3,n3⟩:=q3;obtain ⟨m',hm,w3⟩:=hN σ3 H3 n3;exact ⟨m',hm,σ3,H3,I3,w3⟩
  | cont =>
   obtain ⟨σ3,H3,I3,n3⟩:=q3;obtain ⟨m',hm,w3⟩:=hN σ3 H3 n3;exact ⟨m',hm,σ3,H3,I3,w3⟩
  | brk=>exact q3
  | ret v=>exact q3
 | false =>
  rw [if_neg Bool.false_ne_true];exact wpAny_execs_nil ⟨σ1,H2,I2,q2⟩
end
structure It where
 go:Nat->Hp->Prop
 yld:Nat->Hp->V->Hp->Prop
 stop:Nat->Hp->Prop
noncomputable def Ko (X:Cx) (pins:List (Addr×Obj)) (H:Hp) (b:Addr):Prop :=
 H b=none/\b≠X.env.locals/\b ∉ X.fs/\(b∈X.ex\/X.s₀.heap.objs.size<=b)/\(∀ x c,X.env.cells.lookup x=some c->c≠b)/\∀ p∈X.pn++pins,p.1≠b
theorem Inv.fpOk {X:Cx}{pins:List (Addr×Obj)}{σ:St}{H H':Hp}{s:Shared}{b:Addr}(I:Inv X pins σ H s) (hb:s.heap.objs.size<=b) (hn:H' b=none):Ko X pins H' b:=by
 refine ⟨hn,Nat.ne_of_gt (Nat.lt_of_lt_of_le I.lt hb),I.nofs hb,.inr (Nat.le_trans I.sz hb),fun x c e z=>?_,fun p hp z=>?_⟩
 ·obtain ⟨v,q⟩:=I.cell x c e;exact absurd (Nat.lt_of_lt_of_le q.lt (by rw [z];exact hb)) (Nat.lt_irrefl _)
 ·exact absurd (Nat.lt_of_lt_of_le (Heap.lt_size (I.pin p hp).1) (by rw [z];exact hb)) (Nat.lt_irrefl _)
structure Turn (P:Program) (w:World) (K:PySem.W.Frag) (tg:Expr) (J:It) (fp:List Addr) (it:Addr) (tn:Nat->Heap->Prop):Prop where
 mem:it∈fp
 obj:∀ i h,tn i h->∀ b∈fp,∃ o,h.get? b=some o/\∀ v,o.data≠.cell v
 keep:∀ i h h',tn i h->(∀ b∈fp,∀ o,h.get? b=some o->h'.get? b=some o)->tn i h'
 item:∀ (X:Cx),X.prog=P->X.w=w->X.K=K->X.calm=true->∀ (i:Nat) (pins:List (Addr×Obj)) (s:Shared) (σ:St) (H:Hp) (E:Value->Shared->Prop),Inv X pins σ H s->(∀ b∈fp,Ko X pins H b)->tn i s.heap->J.go i H ->
  wpAny (model P w) X.A (pyNext (.ref it)) (fun r s1=>∃ u,r=some u /\
   wpAny (model P w) X.A (letOwnedTupleGo tg (.ref it) u) (fun _ s2=>∃ x H',Inv X pins σ H' s2/\RelV x u/\J.yld i H x H'/\tn (i+1) s2.heap/\∀ b∈fp,H' b=none) E s1) E s
 done:∀ (X:Cx),X.prog=P->X.w=w->X.K=K->X.calm=true->∀ (i:Nat) (pins:List (Addr×Obj)) (s:Shared) (σ:St) (H:Hp) (E:Value->Shared->Prop),Inv X pins σ H s->(∀ b∈fp,Ko X pins H b)->tn i s.heap->J.stop i H ->
  wpAny (model P w) X.A (pyNext (.ref it)) (fun r s1=>r=none/\Inv X pins σ H s1) E s
 self:∀ (A:Around) (i:Nat) (s:Shared) (Q:Value->Shared->Prop) (E:Value->Shared->Prop),tn i s.heap->Q (.ref it) s->wpAny (model P w) A (pyIter (.ref it)) Q E s
noncomputable abbrev TI:=St->Hp->(It->Hp->Prop)->Prop
noncomputable def PIE (X:Cx) (pins:List (Addr×Obj)) (σ:St) (tg:Expr) (R:It->Hp->Prop) (itv:Value) (s2:Shared):Prop :=
 ∃ (it:Addr) (fp:List Addr) (tn:Nat->Heap->Prop) (J:It) (H':Hp),itv=.ref it/\Inv X pins σ H' s2/\Turn X.prog X.w X.K tg J fp it tn/\tn 0 s2.heap/\(∀ b∈fp,Ko X pins H' b)/\R J H'
noncomputable def PI (X:Cx) (tg iter:Expr) (wi:TI):Prop :=
 ∀ (pins:List (Addr×Obj)) (s:Shared) (σ:St) (H:Hp) (R:It->Hp->Prop),Inv X pins σ H s->wi σ H R ->
  wpAny (model X.prog X.w) X.A (eval iter X.env) (fun v s1=>wpAny (model X.prog X.w) X.A (pyIter v) (PIE X pins σ tg R) X.xe s1) X.xe s
theorem eH {M:Model}{A:Around}{E:Value->Shared->Prop}{s:Shared}{tg:Expr}{it:Addr}{u:Value}{o:Obj}{n:String}{vs:Array Value}{Q:Unit->Shared->Prop}(ho:s.heap.get? it=some o) (hc:o.cls=.type n) (hd:o.data=.fields vs)
    (hn:["enumerate", "zip", "dict_itemiterator", "dict_reverseitemiterator", "odict_iterator", "itertools.zip_longest", "itertools.pairwise"].contains n=false) (hQ:Q () s):wpAny M A (letOwnedTupleGo tg (.ref it) u) Q E s:=by
  unfold letOwnedTupleGo;cases tg <;> first
    | exact wpAny_pure hQ
    | (cases u <;> first
        | exact wpAny_pure hQ
        | (refine wpAny_bind (wpAny_load ho ?_)
           rw [hc,hd]
           show wpAny M A (if (["enumerate", "zip", "dict_itemiterator", "dict_reverseitemiterator", "odict_iterator", "itertools.zip_longest", "itertools.pairwise"].contains n&&vs[0]?==some (rawInt _))=true then _ else _) Q E s;rw [if_neg (by intro h;rw [hn,Bool.false_and] at h;cases h)]
           exact wpAny_pure hQ))
noncomputable def Itl (K:PySem.W.Frag) (a:Addr):It :=
 ⟨fun i H=>∃ xs x,SqL K H a xs/\xs[i]?=some x,fun i H x H'=>H'=H/\∀ xs,SqL K H a xs->xs[i]?=some x,fun i H=>∃ xs,SqL K H a xs/\xs.length<=i⟩
noncomputable def Itt (K:PySem.W.Frag) (a:Addr):It :=
 ⟨fun i H=>∃ xs x,SqT K H a xs/\xs[i]?=some x,fun i H x H'=>H'=H/\∀ xs,SqT K H a xs->xs[i]?=some x,fun i H=>∃ xs,SqT K H a xs/\xs.length<=i⟩
noncomputable def Itr (lo:Int) (n:Nat):It:=⟨fun i _=>i < n,fun i H x H'=>H'=H/\x=.int (lo+i),fun i _=>n<=i⟩
theorem bC {P:Program}{w:World}{K:PySem.W.Frag}{tg:Expr}(a it:Addr):Turn P w K tg (Itl K a) [it] it (fun i h=>h.IsListIter it a i) where
 mem:=by simp
 obj:=fun i h st b hb=>by
  have e:b=it:=by simpa using hb
  subst e;obtain ⟨o,e,c,d⟩:=st;exact ⟨o,e,fun v z=>by rw [d] at z;cases z⟩
 keep:=fun i h h' st k=>st.at fun o e=>k it (by simp) o e
 item:=by
  intro X hP hw hK hc i pins s σ H E I hf st hg;subst hP hw hK;obtain ⟨xs,x,hq,hx⟩:=hg;obtain ⟨its,rv,p,hz⟩:=I.list hq;obtain ⟨u,hu,ru⟩:=rv.get hx;obtain ⟨f0,f1,f2,f3,f4,f5⟩:=hf it (by simp);refine wpAny_pyNext_list_item st p.isList (x:=u) (by simpa using hu) fun h' st' sb=>?_
  have I1:Inv X pins σ H { s with heap:=h' }:=I.turned (t':=s.toks) (fun b o hb e=>(sb.2 b hb).trans e) f0 f1 f3 f4 f5;obtain ⟨o,e,c,d⟩:=id st';exact ⟨u,rfl,eH (s:={ s with heap:=h' }) e c d (by decide) ⟨x,H,I1,ru,⟨rfl,fun ys hy=>by rw [I.list_inj hy hq];exact hx⟩,st',fun b hb=>(hf b hb).1⟩⟩
 done:=by
  intro X hP hw hK hc i pins s σ H E I hf st hg;subst hP hw hK;obtain ⟨xs,hq,hx⟩:=hg;obtain ⟨its,rv,p,hz⟩:=I.list hq;obtain ⟨f0,f1,f2,f3,f4,f5⟩:=hf it (by simp);have hl:=rv.length;exact wpAny_pyNext_list_end (I.ok.hd hc) st p.isList (by simp;omega) fun h' eb=>⟨rfl,I.turned (t':=s.toks) (fun b o hb e=>eb b o hb e) f0 f1 f3 f4 f5⟩
 self:=fun _ _ _ _ _ st h=>wpAny_pyIter_listiter st h
theorem Wn {P:Program}{w:World}{K:PySem.W.Frag}{tg:Expr}(a it:Addr):Turn P w K tg (Itt K a) [it] it (fun i h=>h.IsTupleIter it a i) where
 mem:=by simp
 obj:=fun i h st b hb=>by
  have e:b=it:=by simpa using hb
  subst e;obtain ⟨o,e,c,d⟩:=st;exact ⟨o,e,fun v z=>by rw [d] at z;cases z⟩
 keep:=fun i h h' st k=>st.at fun o e=>k it (by simp) o e
 item:=by
  intro X hP hw hK hc i pins s σ H E I hf st hg;subst hP hw hK;obtain ⟨xs,x,hq,hx⟩:=hg;obtain ⟨its,rv,p,hz⟩:=I.tuple hq;obtain ⟨u,hu,ru⟩:=rv.get hx;obtain ⟨f0,f1,f2,f3,f4,f5⟩:=hf it (by simp);refine wpAny_pyNext_tuple_item st (show s.heap.IsTuple a its.toArray from p) (x:=u) (by simpa using hu) fun h' st' sb=>?_
  have I1:Inv X pins σ H { s with heap:=h' }:=I.turned (t':=s.toks) (fun b o hb e=>(sb.2 b hb).trans e) f0 f1 f3 f4 f5;obtain ⟨o,e,c,d⟩:=id st';exact ⟨u,rfl,eH (s:={ s with heap:=h' }) e c d (by decide) ⟨x,H,I1,ru,⟨rfl,fun ys hy=>by rw [I.tuple_inj hy hq];exact hx⟩,st',fun b hb=>(hf b hb).1⟩⟩
 done:=by
  intro X hP hw hK hc i pins s σ H E I hf st hg;subst hP hw hK;obtain ⟨xs,hq,hx⟩:=hg;obtain ⟨its,rv,p,hz⟩:=I.tuple hq;obtain ⟨f0,f1,f2,f3,f4,f5⟩:=hf it (by simp);have hl:=rv.length;exact wpAny_pyNext_tuple_end (I.ok.hd hc) st (show s.heap.IsTuple a its.toArray from p) (by simp;omega) fun h' eb=>⟨rfl,I.turned (t':=s.toks) (fun b o hb e=>eb b o hb e) f0 f1 f3 f4 f5⟩
 self:=fun _ _ _ _ _ st h=>wpAny_pyIter_tupleiter st h
theorem Wo {P:Program}{w:World}{K:PySem.W.Frag}{tg:Expr}(it:Addr) (lo:Int) (n:Nat):Turn P w K tg (Itr lo n) [it] it (fun i h=>IsRangeIter h it (lo+(i:Nat) * 1) ((n:Int) - (i:Nat)) 1) where
 mem:=by simp
 obj:=fun i h st b hb=>by
  have e:b=it:=by simpa using hb
  subst e
  exact ⟨_,st,fun v z=>by
   have z':Data.fields _=Data.cell v:=z
   cases z'⟩
 keep:=fun i h h' st k=>k it (by simp) _ st
 item:=by
  intro X hP hw hK hc i pins s σ H E I hf st hg;subst hP hw hK;obtain ⟨f0,f1,f2,f3,f4,f5⟩:=hf it (by simp);have W:=Walks.range (prog:=X.prog) (w:=X.w) (I.ok.hd hc) it lo 1 n;refine W.item i s _ _ hg st fun v h' tk hv st' kk=>?_
  obtain ⟨t,rfl⟩:=hv;have I1:Inv X pins σ H { s with heap:=h',toks:=tk }:=I.turned (fun b o hb e=>kk b o (by simpa using hb) e) f0 f1 f3 f4 f5
  refine ⟨_,rfl,eH (s:={ s with heap:=h',toks:=tk }) (n := "range_iterator") st' rfl rfl (by decide) ⟨.int (lo+i),H,I1,⟨t,?_⟩,⟨rfl,rfl⟩,st',fun b hb=>(hf b hb).1⟩⟩;rw [Int.mul_one]
 done:=by
  intro X hP hw hK hc i pins s σ H E I hf st hg;subst hP hw hK;obtain ⟨f0,f1,f2,f3,f4,f5⟩:=hf it (by simp);exact wpAny_pyNext_range_end (I.ok.hd hc) st (by have:n<=i:=hg;omega) fun h' eb=>⟨rfl,I.turned (t':=s.toks) (fun b o hb e=>eb b o hb e) f0 f1 f3 f4 f5⟩
 self:=fun _ _ _ _ _ st h=>wpAny_pyIter_rangeiter st h
section
variable {X:Cx}{tg:Expr}
noncomputable def Ad2 (K:PySem.W.Frag) (tl:TE):TI:=fun σ H R=>tl σ H fun x H1=>∃ a,x=.ref a/\(∃ xs,SqL K H1 a xs)/\R (Itl K a) H1
noncomputable def Agd (K:PySem.W.Frag) (tl:TE):TI:=fun σ H R=>tl σ H fun x H1=>∃ a,x=.ref a/\(∃ xs,SqT K H1 a xs)/\R (Itt K a) H1
theorem Yz {l:Expr}{tl:TE}(hl:PE X l tl):PI X tg l (Ad2 X.K tl):=by
 intro pins s σ H R I h;refine thn (hl pins s σ H _ I h) ?_;rintro v s1 ⟨x,H1,I1,r1,q1⟩;obtain ⟨a,e,⟨xs,hq⟩,q⟩:=q1;subst e;cases r1;obtain ⟨its,rv,p,hz⟩:=I1.list hq;refine wpAny_pyIter_list p.isList ?_;refine ⟨s1.heap.objs.size,[s1.heap.objs.size],_,_,H1,rfl,I1.kept (t':=s1.toks) fun b o e=>Heap.get?_push_of_some _ e,bC a _,⟨_,Heap.get?_push_size _ rfl,rfl,rfl⟩,fun b hb=>?_,q⟩;have e:b=s1.heap.objs.size:=by simpa using hb
 subst e;exact I1.fpOk (Nat.le_refl _) (I1.hok.fresh (Nat.le_refl _))
theorem yQ {l:Expr}{tl:TE}(hl:PE X l tl):PI X tg l (Agd X.K tl):=by
 intro pins s σ H R I h;refine thn (hl pins s σ H _ I h) ?_;rintro v s1 ⟨x,H1,I1,r1,q1⟩;obtain ⟨a,e,⟨xs,hq⟩,q⟩:=q1;subst e;cases r1;obtain ⟨its,rv,p,hz⟩:=I1.tuple hq;refine wpAny_pyIter_tuple (show s1.heap.IsTuple a its.toArray from p) ?_;refine ⟨s1.heap.objs.size,[s1.heap.objs.size],_,_,H1,rfl,I1.kept (t':=s1.toks) fun b o e=>Heap.get?_push_of_some _ e,Wn a _,⟨_,Heap.get?_push_size _ rfl,rfl,rfl⟩,fun b hb=>?_,q⟩;have e:b=s1.heap.objs.size:=by simpa using hb
 subst e;exact I1.fpOk (Nat.le_refl _) (I1.hok.fresh (Nat.le_refl _))
theorem eO {pins:List (Addr×Obj)}{σ:St}{H:Hp}{s:Shared}{R:It->Hp->Prop}{E:Value->Shared->Prop}{lo hi:Int}{t u v:Tok}{tk:Nat}(I:Inv X pins σ H s) (h1:-(2 ^ 62)<=lo) (h2:lo < 2 ^ 62) (h3:-(2 ^ 62)<=hi) (h4:hi < 2 ^ 62)
  (q:R (Itr lo (hi - lo).toNat) H):wpAny (model X.prog X.w) X.A (pyIter (.ref s.heap.objs.size)) (PIE X pins σ tg R) E { s with heap:=s.heap.push { cls:=.type "range",data:=.fields #[.int lo t,.int hi u,.int 1 v] },toks:=tk }:=by
 refine wpAny_pyIter_range (IsRange.new ..) (small_one h1 h2 h3 h4) ?_
 have I1:Inv X pins σ H { s with heap:=s.heap.push { cls:=.type "range",data:=.fields #[.int lo t,.int hi u,.int 1 v] },toks:=tk }:=I.kept fun b o e=>Heap.get?_push_of_some _ e
 refine ⟨(s.heap.push { cls:=.type "range",data:=.fields #[.int lo t,.int hi u,.int 1 v] }).objs.size,[(s.heap.push { cls:=.type "range",data:=.fields #[.int lo t,.int hi u,.int 1 v] }).objs.size],_,_,H,rfl,
  I1.kept (t':=tk) fun b o e=>Heap.get?_push_of_some _ e,Wo _ lo (hi - lo).toNat,?_,fun b hb=>?_,q⟩
 ·have e1:lo+((0:Nat):Int) * 1=lo:=by simp
  have e2:(((hi - lo).toNat:Nat):Int) - ((0:Nat):Int)=Builtin.Range.rangeSize lo hi 1:=by rw [rangeSize_one];split <;> omega
  show IsRangeIter _ _ (lo+((0:Nat):Int) * 1) ((((hi - lo).toNat:Nat):Int) - ((0:Nat):Int)) 1;rw [e1,e2];exact Heap.get?_push_size _ rfl
 ·have e:b=(s.heap.push { cls:=.type "range",data:=.fields #[.int lo t,.int hi u,.int 1 v] }).objs.size:=by simpa using hb
  subst e;exact I1.fpOk (Nat.le_refl _) (I1.hok.fresh (Nat.le_refl _))
noncomputable def Ad3 (ta:TA):TI:=fun σ H R=>ta σ H fun vs H1=>∃ j:Int,vs=[.int j]/\-(2 ^ 62)<=j/\j < 2 ^ 62/\R (Itr 0 j.toNat) H1
theorem bD {a:Expr}{ta:TA}{p pos:Pos}(hg:Gl X "range") (hm:X.mg "range"=none) (ha:PA X [a] ta) (hs:starEach [a] X.env=[(false,eval a X.env)]:=by rfl):PI X tg (.Call (.Name "range" p) [a] [] pos) (Ad3 ta):=by
 intro pins s σ H R I h;refine Call_ (Oi I hg hm boot_range (PyProof.Rows.callWith_type1 (thn (ha pos pins s σ H _ I h) ?_) hs rfl));rintro us s1 ⟨vs,H1,I1,r1,q1⟩;obtain ⟨j,e,q1,q2,q⟩:=q1;subst e;cases r1 with
 | cons r rr =>
  cases rr;obtain ⟨t,rfl⟩:=r;exact call_range_1 (eO I1 (by omega) (by omega) q1 q2 (by simpa using q))
noncomputable def Age (wi:TI) (g:TG) (tb:TS):TS:=fun D σ H=>wi σ H fun J H1=>∃ W:Nat->Nat->St->Hp->Prop,(∃ m,W 0 m σ H1)/\∀ i m σ H,W i m σ H ->
 (J.stop i H/\D.nx σ H)\/(J.go i H/\∃ N:St->Hp->Prop,(∀ σ' H',N σ' H'->∃ m',m' < m/\W (i+1) m' σ' H')/\∀ x H',J.yld i H x H'->g x σ H' fun σ2 H2=>tb { D with nx:=N,ct:=N,bk:=D.nx } σ2 H2)
noncomputable def Jw (fp:List Addr) (h:Heap):List (Addr×Obj):=fp.filterMap fun b=>(h.get? b).map fun o=>(b,o)
theorem Hg {fp:List Addr}{h:Heap}{b:Addr}{o:Obj}(hb:b∈fp) (e:h.get? b=some o):(b,o)∈Jw fp h:=List.mem_filterMap.mpr ⟨b,hb,by rw [e];rfl⟩
theorem Q5 {fp:List Addr}{h:Heap}{p:Addr×Obj}(hp:p∈Jw fp h):p.1∈fp/\h.get? p.1=some p.2:=by
 obtain ⟨b,hb,e⟩:=List.mem_filterMap.mp hp;cases q:h.get? b with
 | none=>rw [q] at e;cases e
 | some o =>
  rw [q] at e;have e':(b,o)=p:=Option.some.inj e;subst e';exact ⟨hb,q⟩
theorem Inv.pinned {pins:List (Addr×Obj)}{σ:St}{H:Hp}{s:Shared}{fp:List Addr}(I:Inv X pins σ H s) (hf:∀ b∈fp,Ko X pins H b) (ho:∀ b∈fp,∃ o,s.heap.get? b=some o/\∀ v,o.data≠.cell v):Inv X (pins++Jw fp s.heap) σ H s :=
 I.pins_of fun p hp=>(List.mem_append.mp hp).elim (fun z=>I.pin p (List.mem_append_right _ z)) fun z=>by
  obtain ⟨hb,e⟩:=Q5 z;obtain ⟨f0,f1,f2,_⟩:=hf p.1 hb;obtain ⟨o,e',d⟩:=ho p.1 hb;rw [e] at e';cases e';exact ⟨e,f0,f1,f2,d⟩
theorem Inv.unpinned {pins pl:List (Addr×Obj)}{σ:St}{H:Hp}{s:Shared}(I:Inv X (pins++pl) σ H s):Inv X pins σ H s:=I.pins_of fun p hp=>I.pin p (List.mem_append_right _ (List.mem_append_left _ hp))
theorem yR {iter:Expr}{body:List Stmt}{wi:TI}{g:TG}{tb:TS}{pos:Pos}(hp:PassesOwn (model X.prog X.w) X.A X.env X.xe) (hc:X.calm=true) (hi:PI X tg iter wi) (hg:PG X tg g) (hb:PSs X body tb)
  (hs:∀ x,foldedSetIterable iter X.env x=pure x:=by intro _;rfl):PS X (.For tg iter body [] pos) (Age wi g tb):=by
 intro pins s σ H D I h;refine wpAny_For (thn (hi pins s σ H _ I h) fun v s1 h1=>thn h1 fun itv s2 h2=>?_) hs;obtain ⟨it,fp,tn,J,H2,e,I2,T,st2,f2,W,⟨m0,w0⟩,turn⟩:=h2;subst e
 -- what stays true of the iterator's objects through the loop
 have stat:∀ {H':Hp},(∀ b∈fp,H' b=none)->∀ b∈fp,Ko X pins H' b:=fun hn b hb=>⟨hn b hb,(f2 b hb).2⟩
 refine codeAny_forLoop_any (fun n s'=>∃ i σ' H',Inv X pins σ' H' s'/\tn i s'.heap/\(∀ b∈fp,H' b=none)/\W i n σ' H') ?_ m0 ⟨0,σ,H2,I2,st2,fun b hb=>(f2 b hb).1,w0⟩;rintro n s3 ⟨i,σ3,H3,I3,st3,fr3,w3⟩;rcases turn i n σ3 H3 w3 with ⟨stop,qn⟩|⟨go,N,hN,step⟩
 ·refine wpAny_passesOwn hp (thn (T.done X rfl rfl rfl hc i pins s3 σ3 H3 X.xe I3 (stat fr3) st3 stop) ?_);rintro r s4 ⟨hr,I4⟩;subst hr;exact wpAny_execs_nil ⟨σ3,H3,I4,qn⟩
 ·refine wpAny_passesOwn hp (thn (T.item X rfl rfl rfl hc i pins s3 σ3 H3 X.xe I3 (stat fr3) st3 go) ?_);rintro r s4 ⟨u,hr,h4⟩;subst hr;refine wpAny_passesOwn hp (thn h4 ?_);rintro _ s5 ⟨x,H5,I5,r5,y5,st5,fr5⟩;have I5':=I5.pinned (stat fr5) (T.obj _ _ st5);refine wpAny_passesOwn hp (thn (hg _ s5 σ3 H5 x u _ I5' r5 (step x H5 y5)) ?_);rintro _ s6 ⟨σ6,H6,I6,q6⟩;refine wpAny_passesOwn hp (thn (hb _ s6 σ6 H6 _ I6 q6) fun f s7 q7=>?_);have again:∀ {σ7:St} {H7:Hp},Inv X (pins++Jw fp s5.heap) σ7 H7 s7->N σ7 H7->∃ m,m < n/\∃ i σ' H',Inv X pins σ' H' s7/\tn i s7.heap/\(∀ b∈fp,H' b=none)/\W i m σ' H':=fun {σ7 H7} I7 n7=>by
   obtain ⟨m',hm,w7⟩:=hN σ7 H7 n7;refine ⟨m',hm,i+1,σ7,H7,I7.unpinned,T.keep _ _ _ st5 fun b hb o e=>(I7.pin (b,o) (List.mem_append_right _ (List.mem_append_right _ (Hg hb e)))).1,fun b hb=>?_,w7⟩;obtain ⟨o,e,d⟩:=T.obj _ _ st5 b hb;exact (I7.pin (b,o) (List.mem_append_right _ (List.mem_append_right _ (Hg hb e)))).2.1
  cases f with
  | next=>obtain ⟨σ7,H7,I7,n7⟩:=q7;exact again I7 n7
  | cont=>obtain ⟨σ7,H7,I7,n7⟩:=q7;exact again I7 n7
  | brk=>obtain ⟨σ7,H7,I7,q7⟩:=q7;exact ⟨σ7,H7,I7.unpinned,q7⟩
  | ret v=>obtain ⟨x7,σ7,H7,I7,r7,q7⟩:=q7;exact ⟨x7,σ7,H7,I7.unpinned,r7,q7⟩
end
noncomputable abbrev R2:=V->V->Hp->VK->Prop
noncomputable def OpR (X:Cx) (f:Value->Value->Sem Value) (r:R2):Prop :=
 ∀ (pins:List (Addr×Obj)) (s:Shared) (σ:St) (H:Hp) (x y:V) (v u:Value) (Q:VK),Inv X pins σ H s->RelV x v->RelV y u->r x y H Q ->
  wpAny (model X.prog X.w) X.A (f v u) (EP X pins σ Q) X.xe s
noncomputable def UnR (X:Cx) (f:Value->Sem Value) (r:V->Hp->VK->Prop):Prop :=
 ∀ (pins:List (Addr×Obj)) (s:Shared) (σ:St) (H:Hp) (x:V) (v:Value) (Q:VK),Inv X pins σ H s->RelV x v->r x H Q ->
  wpAny (model X.prog X.w) X.A (f v) (EP X pins σ Q) X.xe s
noncomputable def Cd (X:Cx) (f:Value) (r:List V->Hp->VK->Prop):Prop :=
 ∀ (pins:List (Addr×Obj)) (s:Shared) (σ:St) (H:Hp) (xs:List V) (us:List Value) (Q:VK),Inv X pins σ H s->Vals xs us->r xs H Q ->
  wpAny (model X.prog X.w) X.A (call f us) (EP X pins σ Q) X.xe s
noncomputable def Agf (X:Cx) (r:V->Hp->(Bool->Hp->Prop)->Prop):Prop :=
 ∀ (pins:List (Addr×Obj)) (s:Shared) (σ:St) (H:Hp) (x:V) (v:Value) (Q:Bool->Hp->Prop),Inv X pins σ H s->RelV x v->r x H Q ->
  wpAny (model X.prog X.w) X.A (truthy v) (TP X pins σ Q) X.xe s
noncomputable def tOp (r:R2) (ta tb:TE):TE:=fun σ H Q=>ta σ H fun x H1=>tb σ H1 fun y H2=>r x y H2 Q
noncomputable def tUn (r:V->Hp->VK->Prop) (ta:TE):TE:=fun σ H Q=>ta σ H fun x H1=>r x H1 Q
noncomputable def rI (C:Int->Int->Prop) (g:Int->Int->V):R2:=fun x y H Q=>∃ i j,x=.int i/\y=.int j/\C i j/\Q (g i j) H
noncomputable def rI0 (g:Int->Int->V):R2:=fun x y H Q=>∃ i j,x=.int i/\y=.int j/\Q (g i j) H
noncomputable def rU (g:Int->V):V->Hp->VK->Prop:=fun x H Q=>∃ i,x=.int i/\Q (g i) H
section
variable {X:Cx}{a b c:Expr}{ta tb tc:TE}{pos:Pos}
theorem yS (ha:PE X a ta) (hb:PE X b tb) {pins:List (Addr×Obj)}{s:Shared}{σ:St}{H:Hp}{R:V->V->Hp->Prop}(I:Inv X pins σ H s)
  (h:ta σ H fun x H1=>tb σ H1 fun y H2=>R x y H2) {Q:Value->Shared->Prop} {f:Value->Value->Sem Value}
  (hf:∀ v u s2 x y H2,Inv X pins σ H2 s2->RelV x v->RelV y u->R x y H2->wpAny (model X.prog X.w) X.A (f v u) Q X.xe s2) :
  wpAny (model X.prog X.w) X.A (eval a X.env) (fun v s₁=>wpAny (model X.prog X.w) X.A (eval b X.env) (fun u s₂=>wpAny (model X.prog X.w) X.A (f v u) Q X.xe s₂) X.xe s₁) X.xe s:=by
 refine thn (ha pins s σ H _ I h) ?_;rintro v s1 ⟨x,H1,I1,r1,q1⟩;refine thn (hb pins s1 σ H1 _ I1 q1) ?_;rintro u s2 ⟨y,H2,I2,r2,q2⟩;exact hf v u s2 x y H2 I2 r1 r2 q2
theorem Ad4 {op:Operator}{r:R2}(ho:OpR X (binaryOp op) r) (ha:PE X a ta) (hb:PE X b tb):PE X (.BinOp a op b pos) (tOp r ta tb):=by
 intro pins s σ H Q I h;exact wpAny_BinOp (yS ha hb I h fun v u s2 x y H2 I2 rx ry q=>ho pins s2 σ H2 x y v u Q I2 rx ry q)
theorem Ad5 {op:UnaryOp}{r:V->Hp->VK->Prop}(ho:UnR X (unaryOp op) r) (ha:PE X a ta):PE X (.UnaryOp op a pos) (tUn r ta):=by
 intro pins s σ H Q I h;refine UnaryOp_ (thn (ha pins s σ H _ I h) ?_);rintro v s1 ⟨x,H1,I1,r1,q1⟩;exact ho pins s1 σ H1 x v Q I1 r1 q1
theorem opI {f:Value->Value->Sem Value}{C:Int->Int->Prop}{g:Int->Int->Int}
  (rule:∀ (i j:Int) (t u:Tok) (s:Shared) (Q:Value->Shared->Prop) (E:Value->Shared->Prop),C i j->Q (.int (g i j) s.toks) { s with toks:=s.toks+1 }->wpAny (model X.prog X.w) X.A (f (.int i t) (.int j u)) Q E s) :
  OpR X f (rI C fun i j=>.int (g i j)):=by
 intro pins s σ H x y v u Q I rx ry h;obtain ⟨i,j,rfl,rfl,hc,q⟩:=h;obtain ⟨t,rfl⟩:=rx;obtain ⟨t',rfl⟩:=ry;exact rule i j t t' s _ _ hc ⟨.int (g i j),H,I.tok _,⟨_,rfl⟩,q⟩
theorem qZ {f:Value->Value->Sem Value}{g:Int->Int->Int}
  (rule:∀ (i j:Int) (t u:Tok) (s:Shared) (Q:Value->Shared->Prop) (E:Value->Shared->Prop),Q (.int (g i j) s.toks) { s with toks:=s.toks+1 }->wpAny (model X.prog X.w) X.A (f (.int i t) (.int j u)) Q E s) :
  OpR X f (rI0 fun i j=>.int (g i j)):=by
 intro pins s σ H x y v u Q I rx ry h;obtain ⟨i,j,rfl,rfl,q⟩:=h;obtain ⟨t,rfl⟩:=rx;obtain ⟨t',rfl⟩:=ry;exact rule i j t t' s _ _ ⟨.int (g i j),H,I.tok _,⟨_,rfl⟩,q⟩
theorem rA {f:Value->Value->Sem Value}{g:Int->Int->Bool}
  (rule:∀ (i j:Int) (t u:Tok) (s:Shared) (Q:Value->Shared->Prop) (E:Value->Shared->Prop),Q (.bool (g i j)) s->wpAny (model X.prog X.w) X.A (f (.int i t) (.int j u)) Q E s) :
  OpR X f (rI0 fun i j=>.bl (g i j)):=by
 intro pins s σ H x y v u Q I rx ry h;obtain ⟨i,j,rfl,rfl,q⟩:=h;obtain ⟨t,rfl⟩:=rx;obtain ⟨t',rfl⟩:=ry;exact rule i j t t' s _ _ ⟨.bl (g i j),H,I,rfl,q⟩
noncomputable def Ad6 (i j:Int):Prop:=0<=j/\j<=1000000/\i.natAbs < 2 ^ 64
noncomputable def yU (i j:Int):Prop:=(-(2 ^ 64) < i/\i < 2 ^ 64)\/(-(2 ^ 64) < j/\j < 2 ^ 64)
theorem yU.ok {i j:Int}(h:yU i j):IntMulOk i j:=by
 rcases h with ⟨h1,h2⟩|⟨h1,h2⟩
 ·exact .of_left (intBits_le_64 h1 h2)
 ·exact .of_right (intBits_le_64 h1 h2)
theorem Wq (k:Nat):(0:Int)<=2 ^ k:=by
 rw [two_pow_cast];exact Int.natCast_nonneg _
theorem yV:OpR X (binaryOp .Add) (rI0 fun i j=>.int (i+j)):=qZ fun _ _ _ _ _ _ _ q=>add_int q
theorem yW:OpR X (binaryOp .Sub) (rI0 fun i j=>.int (i - j)):=qZ fun _ _ _ _ _ _ _ q=>sub_int q
theorem yX:OpR X (binaryOp .Mult) (rI yU fun i j=>.int (i * j)):=opI fun _ _ _ _ _ _ _ hc q=>mul_int q hc.ok
theorem rB:OpR X (binaryOp .Mod) (rI (fun _ j=>j≠0) fun i j=>.int (i.fmod j)):=opI fun _ _ _ _ _ _ _ hc q=>mod_int' hc q
theorem yZ:OpR X (binaryOp .Pow) (rI Ad6 fun i j=>.int (i ^ j.toNat)):=opI fun _ _ _ _ _ _ _ hc q=>pow_int_small hc.1 hc.2.1 hc.2.2 q
theorem zA:OpR X (binaryOp .LShift) (rI Ad6 fun i j=>.int (i * 2 ^ j.toNat)):=opI fun _ _ _ _ _ _ _ hc q=>lshift_int_small hc.1 hc.2.1 hc.2.2 q
theorem zB:OpR X (binaryOp .RShift) (rI (fun _ j=>0<=j) fun i j=>.int (i / 2 ^ j.toNat)):=opI fun i j _ _ _ _ _ hc q =>
 rshift_int hc (by rw [Int.fdiv_eq_ediv_of_nonneg i (Wq _)];exact q)
theorem zE:OpR X (binaryOp .BitAnd) (rI0 fun i j=>.int (Builtin.bitAnd i j)):=qZ fun _ _ _ _ _ _ _ q=>and_int q
theorem Ad7:OpR X (binaryOp .BitOr) (rI0 fun i j=>.int (Builtin.bitOr i j)):=qZ fun _ _ _ _ _ _ _ q=>or_int q
theorem unI {f:Value->Sem Value}{g:Int->Int}
  (rule:∀ (i:Int) (t:Tok) (s:Shared) (Q:Value->Shared->Prop) (E:Value->Shared->Prop),Q (.int (g i) s.toks) { s with toks:=s.toks+1 }->wpAny (model X.prog X.w) X.A (f (.int i t)) Q E s) :
  UnR X f (rU fun i=>.int (g i)):=by
 intro pins s σ H x v Q I rx h;obtain ⟨i,rfl,q⟩:=h;obtain ⟨t,rfl⟩:=rx;exact rule i t s _ _ ⟨.int (g i),H,I.tok _,⟨_,rfl⟩,q⟩
theorem zF:UnR X (unaryOp .USub) (rU fun i=>.int (-i)):=unI fun _ _ _ _ _ q=>neg_int q
end
section
variable {X:Cx}{a b c:Expr}{ta tb tc:TE}{pos:Pos}
theorem Ad8:OpR X (compareOp .Lt) (rI0 fun i j=>.bl (decide (i < j))):=rA fun _ _ _ _ _ _ _ q=>lt_int q
theorem Ad9:OpR X (compareOp .LtE) (rI0 fun i j=>.bl (decide (i<=j))):=rA fun _ _ _ _ _ _ _ q=>le_int q
theorem Aea:OpR X (compareOp .Gt) (rI0 fun i j=>.bl (decide (j < i))):=rA fun _ _ _ _ _ _ _ q=>gt_int q
theorem Aeb:OpR X (compareOp .GtE) (rI0 fun i j=>.bl (decide (j<=i))):=rA fun _ _ _ _ _ _ _ q=>ge_int q
theorem OpR.or {f:Value->Value->Sem Value}{r r':R2}(h:OpR X f r) (h':OpR X f r'):OpR X f (fun x y H Q=>r x y H Q\/r' x y H Q):=by
 intro pins s σ H x y v u Q I rx ry q;rcases q with q|q
 ·exact h pins s σ H x y v u Q I rx ry q
 ·exact h' pins s σ H x y v u Q I rx ry q
theorem rC {op:CmpOp}{r:R2}(ho:OpR X (compareOp op) r) (ha:PE X a ta) (hb:PE X b tb) (hm:behindInMarks op b=false):PE X (.Compare a [op] [b] pos) (tOp r ta tb):=by
 intro pins s σ H Q I h;exact wpAny_Compare1 (yS ha hb I h fun v u s2 x y H2 I2 rx ry q=>ho pins s2 σ H2 x y v u Q I2 rx ry q) hm
noncomputable def eU (t:TE):TT:=fun σ H Q=>t σ H fun x H'=>∃ k,x=.bl k/\Q k H'
theorem rE {op:CmpOp}{r:R2}(ho:OpR X (compareOp op) r) (ha:PE X a ta) (hb:PE X b tb) (hm:behindInMarks op b=false):PT X (.Compare a [op] [b] pos) (eU (tOp r ta tb)):=by
 intro pins s σ H Q I h
 refine wpAny_isTrue_Compare1 (thn (ha pins s σ H _ I h) fun v s1 ⟨x,H1,I1,r1,q1⟩=>thn (hb pins s1 σ H1 _ I1 q1) fun u s2 ⟨y,H2,I2,r2,q2⟩ =>
  thn (ho pins s2 σ H2 x y v u _ I2 r1 r2 q2) fun c s3 ⟨z,H3,I3,r3,k,e,q3⟩=>?_) hm
 subst e;cases r3;exact wpAny_truthy_bool ⟨H3,I3,q3⟩
noncomputable def Ws (r r':R2) (ta tb tc:TE):TE:=fun σ H Q=>ta σ H fun x H1=>tb σ H1 fun y H2=>r x y H2 fun z H3=>∃ k,z=.bl k /\
 (if k=true then tc σ H3 fun w' H4=>r' y w' H4 Q else Q (.bl false) H3)
theorem eV {op op':CmpOp}{r r':R2}(ho:OpR X (compareOp op) r) (ho':OpR X (compareOp op') r') (ha:PE X a ta) (hb:PE X b tb) (hc:PE X c tc)
  (hm:lastMarks [op,op'] [b,c]=false:=by with_unfolding_all rfl):PE X (.Compare a [op,op'] [b,c] pos) (Ws r r' ta tb tc):=by
 intro pins s σ H Q I h
 refine Compare_chain (thn (ha pins s σ H _ I h) fun v s1 ⟨x,H1,I1,r1,q1⟩=>chain_link (thn (hb pins s1 σ H1 _ I1 q1) fun u s2 ⟨y,H2,I2,r2,q2⟩ =>
  thn (ho pins s2 σ H2 x y v u _ I2 r1 r2 q2) fun d s3 ⟨z,H3,I3,r3,k,e,q3⟩=>?_)) hm
 subst e;cases r3;refine wpAny_truthy_bool ?_;cases k with
 | false=>exact ite_ff ⟨.bl false,H3,I3,rfl,q3⟩
 | true=>exact ite_tt (chain_last (thn (hc pins s3 σ H3 _ I3 q3) fun w' s4 ⟨z',H4,I4,r4,q4⟩=>ho' pins s4 σ H4 y z' u w' Q I4 r2 r4 q4))
theorem eX {op op':CmpOp}{r r':R2}(ho:OpR X (compareOp op) r) (ho':OpR X (compareOp op') r') (ha:PE X a ta) (hb:PE X b tb) (hc:PE X c tc)
  (hm:lastMarks [op,op'] [b,c]=false:=by with_unfolding_all rfl):PT X (.Compare a [op,op'] [b,c] pos) (eU (Ws r r' ta tb tc)):=by
 intro pins s σ H Q I h
 refine isTrue_chain (thn (ha pins s σ H _ I h) fun v s1 ⟨x,H1,I1,r1,q1⟩=>test_link (thn (hb pins s1 σ H1 _ I1 q1) fun u s2 ⟨y,H2,I2,r2,q2⟩ =>
  thn (ho pins s2 σ H2 x y v u _ I2 r1 r2 q2) fun d s3 ⟨z,H3,I3,r3,k,e,q3⟩=>?_)) hm
 subst e;cases r3;refine wpAny_truthy_bool ?_;cases k with
 | false =>
  obtain ⟨k',e',q'⟩:=q3;cases e';exact ite_ff ⟨H3,I3,q'⟩
 | true =>
  refine ite_tt (test_last (thn (hc pins s3 σ H3 _ I3 q3) ?_));rintro w' s4 ⟨z',H4,I4,r4,q4⟩;refine thn (ho' pins s4 σ H4 y z' u w' _ I4 r2 r4 q4) ?_;rintro d' s5 ⟨z2,H5,I5,r5,k2,e2,q5⟩;subst e2;cases r5;exact wpAny_truthy_bool ⟨H5,I5,q5⟩
noncomputable def zG (K:PySem.W.Frag) (x:V) (H:Hp) (k:Bool):Prop :=
 match x with
 | .non=>k=false
 | .bl b=>k=b
 | .int i=>k=(i != 0)
 | .str y=>y.length<=sizeLine/\k=((y.length:Int) != 0)
 | .byt y=>y.size<=sizeLine/\k=((y.size:Int) != 0)
 | .ref p=>(∃ xs,SqL K H p xs/\k=!xs.isEmpty)\/(∃ xs,SqT K H p xs/\k=!xs.isEmpty)\/∃ kvs,H p=some (.dK kvs)/\k=!kvs.isEmpty
 | _=>False
theorem Wt {κ:Type}{kvs:List (κ×V)}{vs:List (κ×Value)}(r:KV kvs vs):(!vs.isEmpty)=!kvs.isEmpty:=by
 cases r <;> rfl
theorem Oj {xs:List V}{its:List Value}(r:Vals xs its):(!its.toArray.isEmpty)=!xs.isEmpty:=by
 cases r <;> simp
theorem Jx:(sizeLine:Nat) < 2 ^ 63:=by rw [sizeLine_eq];decide
theorem zH:Agf X (fun x H Q=>∃ k,zG X.K x H k/\Q k H):=by
 intro pins s σ H x v Q I rx h;obtain ⟨k,e,q⟩:=h;have hl:=Jx;have hs:sizeLine=16777216:=sizeLine_eq;cases x with
 | non =>
  cases rx;have e':k=false:=e;subst e';exact truthy_none ⟨H,I,q⟩
 | bl b =>
  cases rx;have e':k=b:=e;subst e';exact wpAny_truthy_bool ⟨H,I,q⟩
 | int i =>
  obtain ⟨t,rfl⟩:=rx;have e':k=(i != 0):=e;subst e';exact PySem.P.truthy_int ⟨H,I,q⟩
 | str y =>
  obtain ⟨t,rfl⟩:=rx;obtain ⟨hy,e'⟩:y.length<=sizeLine/\k=((y.length:Int) != 0):=e;subst e';exact PySem.P.truthy_str (by omega) ⟨H,I.tok _,q⟩
 | byt y =>
  obtain ⟨t,rfl⟩:=rx;obtain ⟨hy,e'⟩:y.size<=sizeLine/\k=((y.size:Int) != 0):=e;subst e';exact PySem.W.truthy_bytes (by omega) ⟨H,I.tok _,q⟩
 | ref p =>
  cases rx;have e':(∃ xs,SqL X.K H p xs/\k=!xs.isEmpty)\/(∃ xs,SqT X.K H p xs/\k=!xs.isEmpty)\/∃ kvs,H p=some (.dK kvs)/\k=!kvs.isEmpty:=e;rcases e' with ⟨xs,hx,e'⟩|⟨xs,hx,e'⟩|⟨kvs,hx,e'⟩
  ·subst e';obtain ⟨its,r,pl,hz⟩:=I.list hx;have hlen:=r.length;exact wpAny_truthy_list pl.isList (by simp only [List.size_toArray];omega) ⟨H,I.tok _,by rw [Oj r];exact q⟩
  ·subst e';obtain ⟨its,r,pl,hz⟩:=I.tuple hx;have hlen:=r.length;exact truthy_tuple pl (by simp only [List.size_toArray];omega) ⟨H,I.tok _,by rw [Oj r];exact q⟩
  ·subst e';obtain ⟨hz,hS,vs,r,m⟩:kvs.length<=sizeLine/\(p==sysModules)=false/\∃ vs,KV kvs vs/\s.heap.DictOf (R7 X.prog X.w) p vs:=I.hok p _ hx;have hlen:kvs.length=vs.length:=Paired.length r;exact wpAny_truthy_dict hS m (by omega) ⟨H,I.tok _,by rw [Wt r];exact q⟩
 | _=>exact (show False from e).elim
theorem eY (ha:PE X a ta) (he:∀ whole,isTrue a X.env whole=(do let v ← whole;standAt a.pos;holding [v] (truthy v))) :
  PT X a (fun σ H Q=>ta σ H fun x H'=>∃ k,zG X.K x H' k/\Q k H'):=by
 intro pins s σ H Q I h;exact isTrue_plain (thn (ha pins s σ H _ I h) fun v s1 ⟨x,H1,I1,r1,q1⟩=>zH pins s1 σ H1 x v Q I1 r1 q1) (he _)
theorem Wu:OpR X (binaryOp .Add) (fun x y H Q=>∃ i j,x=.str i/\y=.str j/\i.length+j.length<=sizeLine/\Q (.str (i++j)) H):=by
 intro pins s σ H x y v u Q I rx ry h;obtain ⟨i,j,rfl,rfl,hz,q⟩:=h;obtain ⟨t,rfl⟩:=rx;obtain ⟨t',rfl⟩:=ry;exact add_str (fun t' tk=>⟨.str (i++j),H,I.tok _,⟨_,rfl⟩,q⟩) hz
theorem vals1 {x:V}{us:List Value}(r:Vals [x] us):∃ u,us=[u]/\RelV x u:=by
 cases r with
 | cons r1 r2=>cases r2;exact ⟨_,rfl,r1⟩
theorem vals2 {x y:V}{us:List Value}(r:Vals [x,y] us):∃ u w',us=[u,w']/\RelV x u/\RelV y w':=by
 cases r with
 | cons r1 r2 =>
  cases r2 with
  | cons r3 r4=>cases r4;exact ⟨_,_,rfl,r1,r3⟩
theorem bF (hc:X.calm=true):Cd X (.builtin "min") (fun xs H Q=>∃ i j,xs=[.int i,.int j]/\Q (.int (if j < i then j else i)) H):=by
 intro pins s σ H xs us Q I r h;obtain ⟨i,j,rfl,q⟩:=h;obtain ⟨u,w',rfl,⟨t,rfl⟩,⟨t',rfl⟩⟩:=vals2 r;refine min_two_ints (I.ok.hd hc) fun h' tk k=>⟨_,H,I.kept k,?_,q⟩
 by_cases hj:j < i
 ·rw [if_pos hj,if_pos hj];exact ⟨_,rfl⟩
 ·rw [if_neg hj,if_neg hj];exact ⟨_,rfl⟩
end
structure ObjM (h:Heap) (x dx C:Addr) (mA:Str->Option Value):Prop where
 obj:h.get? x=some (PySem.W.instObj C dx)
 ns:h.Ns1 dx mA
 ne:dx≠x
theorem bG {h:Heap}{dx:Addr}{mA:Str->Option Value}(n:h.Ns1 dx mA):∃ od,h.get? dx=some od/\∀ name,PySem.W.lookIn name od=some (mA name):=by
 obtain ⟨o,es,ep,ho,hd,hk,_,hm⟩:=n;refine ⟨o,ho,fun name=>?_⟩;have e:=hm name;unfold nsFind findBy at e;rw [← Array.find?_toList] at e;unfold PySem.W.lookIn;rw [hd];dsimp only;split
 ·rename_i y q;rw [q] at e;exact congrArg some e
 ·rename_i q;rw [q] at e;have a:es.toList.any (·.refKey)=false:=by
   rw [List.any_eq_false];intro y hy;obtain ⟨z,t,hkey⟩:=hk y (Array.mem_toList_iff.mp hy);simp [DictEntry.refKey,hkey]
  have a':¬ es.toList.any (·.refKey)=true:=by rw [a];exact Bool.false_ne_true
  rw [if_neg a'];exact congrArg some e
theorem ObjM.look {h:Heap}{x dx C:Addr}{mA:Str->Option Value}(I:ObjM h x dx C mA):∃ od,PySem.W.InstAt h x (PySem.W.instObj C dx) C (some od)/\∀ name,PySem.W.lookIn name od=some (mA name) :=
 let ⟨od,ho,hl⟩:=bG I.ns
 ⟨od,⟨I.obj,rfl,rfl,ho⟩,hl⟩
section
variable {prog:Program}{w:World}{A:Around}{E:Value->Shared->Prop}{s:Shared}{K:PySem.W.Frag}{x dx C f:Addr}{mA:Str->Option Value}{name:Str}{v:Value}
theorem get_map {expr:Bool}{Q:Value->Shared->Prop}(X:K.In s.heap) (I:ObjM s.heap x dx C mA) (hg:PySem.W.plainGet K C name=true) (hh:PySem.W.hasDictIn K C=true)
  (ha:PySem.W.findIn K (.ref C) name=some none) (hv:mA name=some v) (hv':PySem.W.handedIn v=true) (h:Q v { s with toks:=s.toks+1 }) :
  wpAny (model prog w) A (getAttr (.ref x) name expr) Q E s:=by
 obtain ⟨od,J,hl⟩:=I.look;exact PySem.W.get_value X J (PySem.W.plainGet_of hg).1 (PySem.W.findObj_own hh ha rfl (by rw [hl,hv])) hv' h
theorem eZ {pl:Sem Bool}{Q:Value×List Value->Shared->Prop}(X:K.In s.heap) (I:ObjM s.heap x dx C mA) (hg:PySem.W.plainGet K C name=true)
  (hf:PySem.W.findIn K (.ref C) name=some (some (.ref f))) (ht:PySem.W.isFn K (.ref f)=true) (hv:mA name=none) (h:Q (.ref f,[.ref x]) s) :
  wpAny (model prog w) A (getMethod (.ref x) name pl) Q E s:=by
 obtain ⟨od,J,hl⟩:=I.look;exact PySem.W.method_fn X J (PySem.W.plainGet_of hg).1 (PySem.W.plainGet_of hg).2 hf (beq_iff_eq.mp ht) (by show (PySem.W.lookIn name od).map (·.isSome)=some false;rw [hl,hv];rfl) h
theorem rF {ns:List Str}{Q:Unit->Shared->Prop}(X:K.In s.heap) (I:ObjM s.heap x dx C mA)
  (hs:PySem.W.findIn K (.ref C) "__setattr__"=some (some (.builtin "object.__setattr__"))) (hp:PySem.W.plainOver K C=true) (ht:PySem.W.takerIn K C name=some none) (hh:PySem.W.hasDictIn K C=true)
  (hw:PySem.Within mA ns) (hsz:ns.length<=sizeLine)
  (h:∀ h',ObjM h' x dx C (fun y=>if y=name then some v else mA y)->Heap.SameBut dx s.heap h'->Q () { s with heap:=h',toks:=s.toks+2 }) :
  wpAny (model prog w) A (setAttr (.ref x) name v) Q E s:=by
 obtain ⟨od,J,hl⟩:=I.look;refine PySem.W.set_plain X J hs (PySem.W.osa_open (s:={ s with toks:=s.toks+1 }) (r:=none) X J hp ht fun b=>?_);obtain ⟨cd,hc,hd'⟩:=PySem.W.any_some hh;have hx:s.heap.get? x=some ⟨.ref C,some dx,.plain,#[]⟩:=I.obj;refine wpAny_bind (wpAny_pure (wpAny_bind (wpAny_bind (wpAny_loadPart hx (wpAny_bind (PySem.W.Looks.here (s:={ s with toks:=s.toks+1 }) (PySem.W.looks_clsIn X hc) ?_))))));rw [hd'];refine wpAny_pure (a:=some dx) (wpAny_bind (wpAny_pure (wpAny_bind ?_)));refine wpAny_nsSet1 (s:={ s with toks:=s.toks+1 }) I.ns fun h' hn2 hs2=>?_
 obtain ⟨oD,esD,epD,hoD,hdD,hcD⟩:=hn2.count (PySem.Within.cons name v hw);refine wpAny_bind (wpAny_lookBehind hoD (by rw [hdD];exact pastItsLine_dict (Nat.le_trans hcD (by rw [List.length_cons];omega))) ?_);exact wpAny_pure (h _ ⟨(hs2.2 _ (Ne.symm I.ne)).trans I.obj,hn2,I.ne⟩ hs2)
theorem fB {R:Result->Shared->Prop}{vs:List Value}{kw:List (Str×Value)}(X:K.In s.heap) (hm:PySem.W.makesIn K C=true)
    (hi:PySem.W.findIn K (.ref C) "__init__"=some (some (.ref f))) (hf:PySem.W.typeIn K (.ref f)=some (.type "function"))
    (h:codeAny (model prog w) (A.under (.builtin "type.__call__" ⟨.ref C::vs,kw⟩)) (.call (.ref f) ⟨.ref (s.heap.objs.size+1)::vs,kw⟩) (PySem.W.InitBack (s.heap.objs.size+1) R)
      { s with heap:=(s.heap.push PySem.W.emptyDict).push (PySem.W.instObj C s.heap.objs.size) }) :
    codeAny (model prog w) A (.call (.ref C) ⟨vs,kw⟩) R s:=by
  obtain ⟨hh,g,d,t,os⟩:=s;exact PySem.W.make_core (PySem.W.makes_of X hm) (PySem.W.looks_findIn X hi) (fun self=>PySem.W.bind_fn X self hf) (.inl rfl) h
end
noncomputable def Jm (f:Str) (v:V):List (Str×V)->List (Str×V)
 | []=>[(f,v)]
 | (g,x)::r=>if g=f then (g,v)::r else (g,x)::Jm f v r
theorem Mp (f g:Str) (v:V):∀ fs:List (Str×V),(Jm f v fs).lookup g=if g=f then some v else fs.lookup g
 | []=>by
  show List.lookup g [(f,v)]=_
  by_cases h:g=f
  ·have hb:(g==f)=true:=beq_iff_eq.mpr h;simp only [List.lookup,hb,if_pos h]
  ·have hb:(g==f)=false:=beq_eq_false_iff_ne.mpr h;simp only [List.lookup,hb,if_neg h]
 | (k,x)::r=>by
  have ih:=Mp f g v r;rw [show Jm f v ((k,x)::r)=(if k=f then (k,v)::r else (k,x)::Jm f v r) from rfl]
  by_cases hk:k=f
  ·rw [if_pos hk]
   by_cases h:g=k
   ·have hb:(g==k)=true:=beq_iff_eq.mpr h;simp only [List.lookup,hb,if_pos (h.trans hk)]
   ·have hb:(g==k)=false:=beq_eq_false_iff_ne.mpr h;simp only [List.lookup,hb,if_neg (fun e:g=f=>h (e.trans hk.symm))]
  ·rw [if_neg hk]
   by_cases h:g=k
   ·have hb:(g==k)=true:=beq_iff_eq.mpr h;simp only [List.lookup,hb,if_neg (fun e:g=f=>hk (h.symm.trans e))]
   ·have hb:(g==k)=false:=beq_eq_false_iff_ne.mpr h;simp only [List.lookup,hb];exact ih
theorem Lg (f:Str) (v:V):∀ fs:List (Str×V),f∈(Jm f v fs).map (·.1)/\∀ g,g∈fs.map (·.1)->g∈(Jm f v fs).map (·.1)
 | []=>⟨by simp [Jm],fun g h=>by simp at h⟩
 | (k,x)::r=>by
  obtain ⟨i1,i2⟩:=Lg f v r;rw [show Jm f v ((k,x)::r)=(if k=f then (k,v)::r else (k,x)::Jm f v r) from rfl]
  by_cases hk:k=f
  ·rw [if_pos hk];subst hk;exact ⟨by simp,fun g h=>by simpa using h⟩
  ·rw [if_neg hk];refine ⟨?_,fun g h=>?_⟩
   ·rw [List.map_cons];exact List.mem_cons_of_mem _ i1
   ·rw [List.map_cons] at h ⊢;rcases List.mem_cons.mp h with e|e
    ·exact List.mem_cons.mpr (.inl e)
    ·exact List.mem_cons_of_mem _ (i2 g e)
theorem Mq (f:Str) (v:V):∀ fs:List (Str×V),(Jm f v fs).length<=fs.length+1
 | []=>by simp [Jm]
 | (k,x)::r=>by
  have ih:=Mq f v r;rw [show Jm f v ((k,x)::r)=(if k=f then (k,v)::r else (k,x)::Jm f v r) from rfl]
  by_cases hk:k=f
  ·rw [if_pos hk,List.length_cons,List.length_cons];omega
  ·rw [if_neg hk,List.length_cons,List.length_cons];omega
theorem Ql.some_of {v:V}{o:Option Value}(r:Ql (some v) o):∃ u,o=some u/\RelV v u:=by
 cases o with
 | none=>exact (show False from r).elim
 | some u=>exact ⟨u,rfl,r⟩
theorem Ql.none_of {o:Option Value}(r:Ql none o):o=none:=by
 cases o with
 | none=>rfl
 | some u=>exact (show False from r).elim
theorem bH {v:V}{u:Value}(r:RelV v u):PySem.W.handedIn u=true:=by
 cases v with
 | non=>cases (show u=Value.none from r);rfl
 | bl b=>cases (show u=Value.bool b from r);rfl
 | int i=>obtain ⟨t,e⟩:=(show ∃ t,u=Value.int i t from r);cases e;rfl
 | str x=>obtain ⟨t,e⟩:=(show ∃ t,u=Value.str x t from r);cases e;rfl
 | byt b=>obtain ⟨t,e⟩:=(show ∃ t,u=Value.bytes b t from r);cases e;rfl
 | flt b=>obtain ⟨t,e⟩:=(show ∃ t,u=Value.float b t from r);cases e;rfl
 | ref a=>cases (show u=Value.ref a from r);rfl
 | ty n=>cases (show u=Value.type n from r);rfl
section
variable {P:Program}{w:World}{H H':Hp}{h h':Heap}{a C dx:Addr}{fs fs':List (Str×V)}
theorem R9 (hok:HOk P w H h) (e:H a=some (.ins C dx fs)):∃ mA,ObjM h a dx C mA/\(∀ f,Ql (fs.lookup f) (mA f))/\PySem.Within mA (fs.map (·.1))/\fs.length<=1000/\H dx=some (.own a):=by
 obtain ⟨d,z,ne,ob,mA,n,r,q⟩:=(show Fb P w H h a (.ins C dx fs) from hok a _ e);exact ⟨mA,⟨ob,n,ne⟩,r,q,z,d⟩
end
structure Cls (K:PySem.W.Frag) (C:Addr):Prop where
 pg:PySem.W.plainGet K C Str.empty=true
 hd:PySem.W.hasDictIn K C=true
 po:PySem.W.plainOver K C=true
 sa:PySem.W.findIn K (.ref C) "__setattr__"=some (some (.builtin "object.__setattr__"))
theorem Cls.get {K:PySem.W.Frag}{C:Addr}(c:Cls K C) (f:Str):PySem.W.plainGet K C f=true:=c.pg
noncomputable def Eg (K:PySem.W.Frag) (C:Addr) (f:Str):Prop:=PySem.W.findIn K (.ref C) f=some none
theorem Eg.taker {K:PySem.W.Frag}{C:Addr}{f:Str}(n:Eg K C f):PySem.W.takerIn K C f=some none:=by
 unfold PySem.W.takerIn;rw [show PySem.W.findIn K (.ref C) f=some none from n];rfl
structure Meth (K:PySem.W.Frag) (C:Addr) (m:Str) (f:Addr):Prop where
 at_:PySem.W.findIn K (.ref C) m=some (some (.ref f))
 fn:PySem.W.isFn K (.ref f)=true
 kp:PySem.W.keepIn K (.ref f)=true
section
variable {X:Cx}{pins:List (Addr×Obj)}{σ:St}{H:Hp}{s:Shared}{a C dx:Addr}{fs:List (Str×V)}{f:Str}{v:V}{A:Around}{E:Value->Shared->Prop}
theorem Wv {b:Bool}{Q:Value->Shared->Prop}(I:Inv X pins σ H s) (e:H a=some (.ins C dx fs)) (c:Cls X.K C) (n:Eg X.K C f) (l:fs.lookup f=some v)
  (h:∀ u s',Inv X pins σ H s'->RelV v u->Q u s'):wpAny (model X.prog X.w) A (getAttr (.ref a) f b) Q E s:=by
 obtain ⟨mA,O,r,_,_,_⟩:=R9 I.hok e;obtain ⟨u,hu,ru⟩:=Ql.some_of (v:=v) (o:=mA f) (by rw [← l];exact r f);exact get_map I.kIn O (c.get f) c.hd n hu (bH ru) (h u _ (I.tok _) ru)
theorem Ol {m:Str}{g:Addr}{pl:Sem Bool}{Q:Value×List Value->Shared->Prop}(I:Inv X pins σ H s) (e:H a=some (.ins C dx fs)) (c:Cls X.K C) (k:Meth X.K C m g) (l:fs.lookup m=none)
  (h:Q (.ref g,[.ref a]) s):wpAny (model X.prog X.w) A (getMethod (.ref a) m pl) Q E s:=by
 obtain ⟨mA,O,r,_,_,_⟩:=R9 I.hok e;have hn:mA m=none:=Ql.none_of (by rw [← l];exact r m);exact eZ I.kIn O (c.get m) k.at_ k.fn hn h
theorem Ww {y:V}{u:Value}{Q:Unit->Shared->Prop}(I:Inv X pins σ H s) (e:H a=some (.ins C dx fs)) (c:Cls X.K C) (n:Eg X.K C f) (hl:fs.length < 1000) (ry:RelV y u)
  (h:∀ s',Inv X pins σ (upd H a (.ins C dx (Jm f y fs))) s'->Q () s'):wpAny (model X.prog X.w) A (setAttr (.ref a) f u) Q E s:=by
 obtain ⟨mA,O,r,wi,_,ho⟩:=R9 I.hok e;have hz:(fs.map (·.1)).length<=sizeLine:=by rw [List.length_map,sizeLine_eq];omega
 refine rF I.kIn O c.sa c.po n.taker c.hd wi hz fun h' O' sb=>h _ ?_
 have hd:∃ o,h'.get? dx=some o:=let ⟨o,_,_,e',_⟩:=O'.ns;⟨o,e'⟩;refine I.write (x:=a) (e:=dx) (by rw [e];exact True.intro) (.inr ho) (fun b q hb z=>(sb.2 b hb).trans z) hd ?_;refine ⟨by rw [Af O.ne];exact ho,?_,O.ne,O'.obj,_,O'.ns,fun g=>?_,fun g hg=>?_⟩
 ·have:=Mq f y fs;omega
 ·show Ql ((Jm f y fs).lookup g) (if g=f then some u else mA g);rw [Mp]
  by_cases q:g=f
  ·rw [if_pos q,if_pos q];exact ry
  ·rw [if_neg q,if_neg q];exact r g
 ·by_cases q:g=f
  ·rw [q];exact (Lg f y fs).1
  ·refine (Lg f y fs).2 g (wi g fun z=>hg ?_);show (if g=f then some u else mA g)=none;rw [if_neg q];exact z
theorem Inv.made (I:Inv X pins σ H s):Inv X pins σ (upd (upd H s.heap.objs.size (.own (s.heap.objs.size+1))) (s.heap.objs.size+1) (.ins C s.heap.objs.size []))
    { s with heap:=(s.heap.push PySem.W.emptyDict).push (PySem.W.instObj C s.heap.objs.size) }:=by
  have e1:(s.heap.push PySem.W.emptyDict).get? s.heap.objs.size=some PySem.W.emptyDict:=Heap.get?_push_size s.heap rfl;have e2:((s.heap.push PySem.W.emptyDict).push (PySem.W.instObj C s.heap.objs.size)).get? (s.heap.objs.size+1)=some (PySem.W.instObj C s.heap.objs.size):=by
    have:=Heap.get?_push_size (s.heap.push PySem.W.emptyDict) (o:=PySem.W.instObj C s.heap.objs.size) rfl
    rwa [Heap.size_push] at this
  have e3:(s.heap.push PySem.W.emptyDict).Ns s.heap.objs.size (fun _=>none):=⟨PySem.W.emptyDict,#[],_,e1,rfl,(fun e he=>absurd he (by simp)),fun _=>rfl⟩;have I1:=I.laid (a:=s.heap.objs.size) (o:=.own (s.heap.objs.size+1)) (h':=s.heap.push PySem.W.emptyDict) (t':=s.toks) (fun b u q=>Heap.get?_push_of_some _ q) (Nat.le_refl _) ⟨_,e1⟩;refine I1.laid (a:=s.heap.objs.size+1) (o:=.ins C s.heap.objs.size []) (t':=s.toks) (fun b u q=>Heap.get?_push_of_some _ q) (Nat.le_of_eq (Heap.size_push _ _)) ?_;have ne:s.heap.objs.size≠s.heap.objs.size+1:=Nat.ne_of_lt (Nat.lt_succ_self _);refine ⟨by rw [Af ne,Bb],Nat.zero_le _,ne,e2,fun _=>none,(Heap.Ns1.of_empty e3).at fun o q=>Heap.get?_push_of_some _ q,fun _=>True.intro,fun y hy=>absurd rfl hy⟩
theorem rG {prog:Program}{w:World}{env:Env}{e:Expr}{f:Str}{pos:Pos}{s:Shared}{Q:Value->Shared->Prop}(hb:attributeBase e f env (eval e env)=eval e env)
  (h:wpAny (model prog w) A (eval e env) (fun o s₁=>wpAny (model prog w) A (getAttr o f true) Q E s₁) E s):wpAny (model prog w) A (eval (.Attribute e f pos) env) Q E s :=
 Attribute_any_ h (by rw [arm_eval_Attribute,hb])
end
noncomputable def Agg (K:PySem.W.Frag) (ta:TE) (f:Str):TE:=fun σ H Q=>ta σ H fun x H1=>∃ a C dx fs v,x=.ref a/\H1 a=some (.ins C dx fs)/\Cls K C/\Eg K C f/\fs.lookup f=some v/\Q v H1
noncomputable def Agh (K:PySem.W.Frag) (ta tv:TE) (f:Str):TS:=fun D σ H=>tv σ H fun y H1=>ta σ H1 fun x H2=>∃ a C dx fs,x=.ref a/\H2 a=some (.ins C dx fs)/\Cls K C/\Eg K C f/\fs.length < 1000 /\
 D.nx σ (upd H2 a (.ins C dx (Jm f y fs)))
section
variable {X:Cx}{o e value:Expr}{f:Str}{pos pos' tpos:Pos}{ta tv:TE}
theorem zJ (he:PE X e ta) (hb:attributeBase e f X.env (eval e X.env)=eval e X.env):PE X (.Attribute e f pos) (Agg X.K ta f):=by
 intro pins s σ H Q I h;refine rG hb (thn (he pins s σ H _ I h) ?_);rintro u s1 ⟨x,H1,I1,rx,a,C,dx,fs,v,ex,ea,c,n,l,q⟩;subst ex;obtain rfl:u=Value.ref a:=rx;exact Wv I1 ea c n l fun u' s2 I2 ru=>⟨v,H1,I2,ru,q⟩
theorem zK (ha:PE X o ta) (hv:PE X value tv) (hs:swapsWith value (some (.Attribute o f pos')) pos.line X.env=pure false):PS X (.Assign [.Attribute o f pos'] value pos) (Agh X.K ta tv f):=by
 intro pins s σ H D I h;refine plainObj_wpAny_Assign_Attribute (thn (hv pins s σ H _ I h) fun u s1 ⟨y,H1,I1,ry,q⟩=>thn (ha pins s1 σ H1 _ I1 q) ?_) hs;rintro ov s2 ⟨x,H2,I2,rx,a,C,dx,fs,ex,ea,c,n,l,q2⟩;subst ex;obtain rfl:ov=Value.ref a:=rx;exact Ww I2 ea c n l ry fun s3 I3=>⟨σ,_,I3,q2⟩
end
section
variable {X:Cx}{pins:List (Addr×Obj)}{σ:St}{H:Hp}{s:Shared}{A:Around}{E:Value->Shared->Prop}{Q:Value->Shared->Prop}{c:Value}{b:Bool}
end
structure Room (k:Nat) (A:Around):Prop where
 hd:A.handled=none
 dp:A.depth+3 * k+5 < recursionLimit
 un:A.units+16 * k+200 < cLine
theorem Room.mono {j k:Nat}{A:Around}(r:Room k A) (h:j<=k):Room j A:=⟨r.hd,by have:=r.dp;omega,by have:=r.un;omega⟩
theorem Room.deeper {k:Nat}{A:Around}(r:Room (k+1) A) (env:Env):Room k (A.deeper env) :=
 ⟨r.hd,by have:=r.dp;show A.depth+1+3 * k+5 < _;omega,by have:=r.un;show A.units+3+16 * k+200 < _;omega⟩
theorem Wx {A:Around}{C:Addr}{us:List Value}{kw:List (Str×Value)}:(A.under (.builtin "type.__call__" ⟨.ref C::us,kw⟩)).depth=A.depth+1:=by
 first | rfl | simp [Around.under,Code.weight,Code.isCreation,Code.isGuard,Code.isCaller,Code.frames,Code.isFrame,guardIds]
theorem Wy {A:Around}{C:Addr}{us:List Value}{kw:List (Str×Value)}:(A.under (.builtin "type.__call__" ⟨.ref C::us,kw⟩)).units=A.units+1:=by
 first | rfl | simp [Around.under,Code.cUnits,Code.frames,Code.isFrame]
theorem Room.make {k:Nat}{A:Around}(r:Room (k+1) A) (C:Addr) (us:List Value) (kw:List (Str×Value)):Room k (A.under (.builtin "type.__call__" ⟨.ref C::us,kw⟩)) :=
 ⟨r.hd,by have:=r.dp;rw [Wx];omega,by have:=r.un;rw [Wy];omega⟩
theorem Room.depth {k:Nat}{A:Around}(r:Room k A):A.depth < recursionLimit:=by have:=r.dp;omega
theorem Room.units {k:Nat}{A:Around}(r:Room k A):A.units+64 < cLine:=by have:=r.un;omega
noncomputable def rH:TA:=fun _ H Q=>Q [] H
noncomputable def fD (ta:TE) (tr:TA):TA:=fun σ H Q=>ta σ H fun x H1=>tr σ H1 fun xs H2=>Q (x::xs) H2
section
variable {X:Cx}{e:Expr}{es:List Expr}{te:TE}{t:TA}{pos:Pos}
theorem Hh:PA X [] rH:=fun _ _ _ _ H Q I h=>Calls.spliced_nil ⟨[],H,I,.nil,h⟩
theorem Dq (ha:PE X e te) (hr:PA X es t) (hs:starEach (e::es) X.env=(false,eval e X.env)::starEach es X.env:=by rfl):PA X (e::es) (fD te t):=by
 intro pos pins s σ H Q I h;rw [hs];show wpAny _ _ (spliced ((false,eval e X.env)::backTo pos (starEach es X.env))) _ _ s;refine Calls.spliced_cons (thn (ha pins s σ H _ I h) ?_);rintro u s1 ⟨x,H1,I1,r1,q1⟩;refine thn (hr pos pins s1 σ H1 _ I1 q1) ?_;rintro us s2 ⟨xs,H2,I2,r2,q2⟩;exact ⟨x::xs,H2,I2,.cons r1 r2,q2⟩
noncomputable def Aec (t:TA):TE:=fun σ H Q=>t σ H fun xs H1=>xs.length<=sizeLine/\∀ p,H1 p=none->Q (.ref p) (upd H1 p (.tup xs))
noncomputable def Agi (t:TA):TE:=fun σ H Q=>t σ H fun xs H1=>xs.length<=sizeLine/\∀ p,H1 p=none->Q (.ref p) (upd H1 p (.lst xs))
theorem fG {x1}(h:PA X es t):PE X (.Tuple es x1 pos) (Aec t):=by
 intro pins s σ H Q I hq;refine wpAny_Tuple_spliced (thn (h pos pins s σ H _ I hq) ?_);rintro us s1 ⟨xs,H1,I1,r,z,q⟩;refine ⟨by rw [← r.length];exact z,?_⟩;have hf:H1 s1.heap.objs.size=none:=I1.hok.fresh (Nat.le_refl _);refine ⟨.ref s1.heap.objs.size,upd H1 s1.heap.objs.size (.tup xs),I1.laid (t':=s1.toks) (fun b u e=>Heap.get?_push_of_some _ e) (Nat.le_refl _) ?_,rfl,q _ hf⟩;exact ⟨z,us,r,⟨_,Heap.get?_push_size _ rfl,rfl,rfl,_,rfl⟩⟩
theorem zL (h:PA X es t):PE X (.List es pos) (Agi t):=by
 intro pins s σ H Q I hq;refine wpAny_List_spliced (thn (h pos pins s σ H _ I hq) ?_);rintro us s1 ⟨xs,H1,I1,r,z,q⟩;refine ⟨by rw [← r.length];exact z,?_⟩;have hf:H1 s1.heap.objs.size=none:=I1.hok.fresh (Nat.le_refl _);refine ⟨.ref s1.heap.objs.size,upd H1 s1.heap.objs.size (.lst xs),I1.laid (t':=s1.toks) (fun b u e=>Heap.get?_push_of_some _ e) (Nat.le_refl _) ?_,rfl,q _ hf⟩;exact ⟨z,us,0,r,Heap.get?_push_size _ rfl⟩
end
noncomputable abbrev Sp:=List V->Hp->VK->XK->Prop
noncomputable abbrev CXT:=List Env->Hp->Shared->XK->Value->Shared->Prop
structure Env0 (P:Program) (w:World) (K:PySem.W.Frag) (mg:Str->Option Value) (base:Heap) (A:Around) (outer:List Env) (s:Shared) (H:Hp):Prop where
 frames:A.frames=some outer
 mod:Mod K mg base
 bs:∀ b o,base.get? b=some o->s.heap.get? b=some o/\H b=none
 bsz:base.objs.size<=s.heap.objs.size
 funs:s.heap.FunFrames base outer
 frf:∀ b∈frs outer,H b=none
 hok:HOk P w H s.heap
 bare:AllBare s.gens
noncomputable def CE (outer:List Env) (P:Program) (w:World) (H:Hp) (s:Shared) (Q:VK) (u:Value) (s':Shared):Prop :=
 ∃ v H',s'.os=s.os/\AllBare s'.gens/\Un (frs outer) [] H H' s.heap s'.heap/\HOk P w H' s'.heap/\RelV v u/\Q v H'
noncomputable def CR (CX:CXT) (outer:List Env) (P:Program) (w:World) (H:Hp) (s:Shared) (Q:VK) (E:XK) (r:Result) (s':Shared):Prop :=
 match r with
 | .ok (.ret u)=>CE outer P w H s Q u s'
 | .ok _=>False
 | .error e=>CX outer H s E e s'
structure FnOk (P:Program) (w:World) (K:PySem.W.Frag) (mg:Str->Option Value) (base:Heap) (CX:CXT) (k:Nat) (f:Addr) (fd:FuncData) (ps:List Str) (sp:Sp):Prop where
 len:∀ vs H Q E,sp vs H Q E->vs.length=ps.length
 run:∀ (A:Around) (outer:List Env) (s:Shared) (H:Hp) (args:Args) (us:List Value) (vs:List V) (Q:VK) (E:XK),Room k A->Env0 P w K mg base A outer s H->BindsTo s fd args (ps.zip us)->Vals vs us->sp vs H Q E ->
  codeAny (model P w) A (.call (.ref f) args) (CR CX outer P w H s Q E) s
theorem Env0.make {P:Program}{w:World}{K:PySem.W.Frag}{mg:Str->Option Value}{base:Heap}{A:Around}{outer:List Env}{s:Shared}{H:Hp}(e:Env0 P w K mg base A outer s H) (C:Addr) (us:List Value) (kw:List (Str×Value)) :
  Env0 P w K mg base (A.under (.builtin "type.__call__" ⟨.ref C::us,kw⟩)) outer s H:=⟨by first | exact e.frames | (simpa [Around.under,Code.envs,Code.isFrame,pushEnvs] using e.frames),e.mod,e.bs,e.bsz,e.funs,e.frf,e.hok,e.bare⟩
section
variable {X:Cx}{pins:List (Addr×Obj)}{σ:St}{H:Hp}{s s':Shared}
theorem Inv.env0 (I:Inv X pins σ H s):Env0 X.prog X.w X.K X.mg X.base X.A X.stack s H :=
 ⟨I.ok.frames,I.ok.mod,I.bs,Nat.le_trans I.ok.bsz I.sz,I.stack,I.stkFree,I.hok,I.bare⟩
theorem Inv.after {Q:VK}{u:Value}(I:Inv X pins σ H s) (h:CE X.stack X.prog X.w H s Q u s'):EP X pins σ Q u s':=by
 obtain ⟨v,H',os,bare,un,hok,r,q⟩:=h;obtain ⟨hh,g,d,t,os'⟩:=s';obtain rfl:os'=s.os:=os;exact ⟨v,H',I.call (h':=hh) (g':=g) (d':=d) (t':=t) (ch:=[]) un hok bare (fun b z=>absurd z (by simp)),r,q⟩
end
noncomputable def Y0 (sp:Sp) (dvs:List V) (E:XK) (t:TA):TE:=fun σ H Q=>t σ H fun vs H1=>sp (vs++dvs) H1 Q E
noncomputable def wL (C:Addr) (m:Str) (sp:Sp) (dvs:List V) (E:XK) (ta:TE) (t:TA):TE:=fun σ H Q=>ta σ H fun x H1=>∃ a dx fs,x=.ref a/\H1 a=some (.ins C dx fs)/\fs.lookup m=none /\
 t σ H1 fun vs H2=>sp (x::(vs++dvs)) H2 Q E
noncomputable def Aed (C:Addr) (sp:Sp) (dvs:List V) (E:XK) (t:TA):TE:=fun σ H Q=>t σ H fun vs H1=>∀ x dx,H1 x=none->H1 dx=none->dx≠x ->
 sp (.ref x::(vs++dvs)) (upd (upd H1 dx (.own x)) x (.ins C dx [])) (fun v H2=>v=.non/\Q (.ref x) H2) E
noncomputable def Binds (K:PySem.W.Frag) (fd:FuncData) (ps:List Str) (ds:List Value):Prop :=
 ∀ (s:Shared) (us:List Value),K.In s.heap->(us++ds).length=ps.length->BindsTo s fd ⟨us,[]⟩ (ps.zip (us++ds))
theorem Binds.all {K:PySem.W.Frag}{fd:FuncData}{ps:List Str}(h:∀ us:List Value,us.length=ps.length->bindArgs fd ⟨us,[]⟩=pure (ps.zip us)):Binds K fd ps []:=fun s us _ hl=>by
 rw [List.append_nil] at hl ⊢;exact .of_eq (h us hl)
noncomputable def Cm (CX:CXT) (X:Cx) (E:XK):Prop:=∀ (pins:List (Addr×Obj)) (σ:St) (H:Hp) (s:Shared) (e:Value) (s':Shared),Inv X pins σ H s->CX X.stack H s E e s'->X.xe e s'
section
variable {X:Cx}{CX:CXT}{k:Nat}{f C:Addr}{fd:FuncData}{ps:List Str}{sp:Sp}{dvs:List V}{ds:List Value}{E:XK}{x m:Str}{p pos apos:Pos}{e o:Expr}{es:List Expr}{ta:TE}{t:TA}
theorem Jy {pins:List (Addr×Obj)}{σ:St}{H:Hp}{s:Shared}{Q:VK}{us:List Value}{vs:List V}(F:FnOk X.prog X.w X.K X.mg X.base CX k f fd ps sp) (hr:Room k X.A) (hb:Binds X.K fd ps ds) (hd:Vals dvs ds) (hx:Cm CX X E)
  (I:Inv X pins σ H s) (r:Vals vs us) (h:sp (vs++dvs) H Q E):wpAny (model X.prog X.w) X.A (call (.ref f) us) (EP X pins σ Q) X.xe s:=by
 have r2:Vals (vs++dvs) (us++ds):=r.append hd;have hl:(us++ds).length=ps.length:=by rw [← r2.length];exact F.len _ _ _ _ h
 refine wpAny_call (codeAny_mono (F.run X.A X.stack s H ⟨us,[]⟩ (us++ds) (vs++dvs) Q E hr I.env0 (hb s us I.kIn hl) r2 h) fun r s' hq=>?_);cases r with
 | error e=>exact hx pins σ H s e s' I hq
 | ok fl =>
  cases fl with
  | ret u=>exact I.after hq
  | next=>exact False.elim hq
  | brk=>exact False.elim hq
  | cont=>exact False.elim hq
theorem rJ (F:FnOk X.prog X.w X.K X.mg X.base CX k f fd ps sp) (hr:Room k X.A) (hg:Gl X x) (hm:X.mg x=some (.ref f)) (hk:PySem.W.keepIn X.K (.ref f)=true) (hb:Binds X.K fd ps ds) (hd:Vals dvs ds) (hx:Cm CX X E)
  (ha:PA X (e::es) t) (hdb:(x==("__debug__":Str))=false:=by decide) (he:starEach (e::es) X.env=(false,eval e X.env)::starEach es X.env:=by rfl) (hpl:(backTo pos (starEach es X.env)).any (·.1)=false:=by rfl) :
  PE X (.Call (.Name x p) (e::es) [] pos) (Y0 sp dvs E t):=by
 intro pins s σ H Q I h;refine wpAny_Call_Name_kw (Nr I hg hm ?_ hdb);refine PySem.W.callWith_K (h₀:=X.base) I.ok.mod.kin hk (thn (ha pos pins s σ H _ I h) fun us s1 ⟨vs,H1,I1,r,q⟩=>⟨I1.kIn,?_⟩) he hpl;exact Jy F hr hb hd hx I1 r q
theorem fH (F:FnOk X.prog X.w X.K X.mg X.base CX k f fd ps sp) (hr:Room k X.A) (hg:Gl X x) (hm:X.mg x=some (.ref f)) (hk:PySem.W.keepIn X.K (.ref f)=true) (hb:Binds X.K fd ps ds) (hd:Vals dvs ds) (hx:Cm CX X E)
  (hdb:(x==("__debug__":Str))=false:=by decide):PE X (.Call (.Name x p) [] [] pos) (Y0 sp dvs E rH):=by
 intro pins s σ H Q I h;refine wpAny_Call_Name_kw (Nr I hg hm ?_ hdb);exact PySem.W.callWith_K0 I.kIn hk (Jy (us:=[]) F hr hb hd hx I .nil h)
theorem rK {pl:Sem Bool}(he:PE X o ta) (c:Cls X.K C) (hm:Meth X.K C m f) (F:FnOk X.prog X.w X.K X.mg X.base CX k f fd ps sp) (hr:Room k X.A) (hb:Binds X.K fd ps ds) (hd:Vals dvs ds) (hx:Cm CX X E) (ha:PA X (e::es) t)
  (hst:starEach (e::es) X.env=(false,eval e X.env)::starEach es X.env:=by rfl) (hpl:(backTo pos (starEach es X.env)).any (·.1)=false:=by rfl)
  (ht:eval (.Call (.Attribute o m apos) (e::es) [] pos) X.env=(do
   let ov ← eval o X.env
   standAt apos.atName
   let (f,first) ← holding [ov] (getMethod ov m pl)
   callWith pos f first (backTo pos (starEach (e::es) X.env)) (backToKw pos (keywordEach [] X.env))):=by rfl) :
  PE X (.Call (.Attribute o m apos) (e::es) [] pos) (wL C m sp dvs E ta t):=by
 intro pins s σ H Q I h;refine PySem.W.methodCall_KW (pl:=pl) (thn (he pins s σ H _ I h) ?_) ht;rintro u s1 ⟨x,H1,I1,rx,a,dx,fs,ex,ea,l,q⟩;subst ex;obtain rfl:u=Value.ref a:=rx;refine Ol I1 ea c hm l ?_;refine PySem.W.callWith_K (first:=[.ref a]) (h₀:=X.base) I.ok.mod.kin hm.kp (thn (ha pos pins s1 σ H1 _ I1 q) fun us s2 ⟨vs,H2,I2,r,q2⟩=>⟨I2.kIn,?_⟩) hst hpl;exact Jy (us:=.ref a::us) (vs:=.ref a::vs) F hr hb hd hx I2 (.cons rfl r) q2
theorem fJ {pl:Sem Bool}(he:PE X o ta) (c:Cls X.K C) (hm:Meth X.K C m f) (F:FnOk X.prog X.w X.K X.mg X.base CX k f fd ps sp) (hr:Room k X.A) (hb:Binds X.K fd ps ds) (hd:Vals dvs ds) (hx:Cm CX X E)
  (ht:eval (.Call (.Attribute o m apos) [] [] pos) X.env=(do
   let ov ← eval o X.env
   standAt apos.atName
   let (f,first) ← holding [ov] (getMethod ov m pl)
   callWith pos f first (backTo pos (starEach [] X.env)) (backToKw pos (keywordEach [] X.env))):=by rfl) :
  PE X (.Call (.Attribute o m apos) [] [] pos) (wL C m sp dvs E ta rH):=by
 intro pins s σ H Q I h;refine PySem.W.methodCall_KW (pl:=pl) (thn (he pins s σ H _ I h) ?_) ht;rintro u s1 ⟨x,H1,I1,rx,a,dx,fs,ex,ea,l,q⟩;subst ex;obtain rfl:u=Value.ref a:=rx;refine Ol I1 ea c hm l ?_;exact PySem.W.callWith_K0 (first:=[.ref a]) I1.kIn hm.kp (Jy (us:=[.ref a]) (vs:=[.ref a]) F hr hb hd hx I1 (.cons rfl .nil) q)
structure Mk (K:PySem.W.Frag) (C f:Addr):Prop where
 makes:PySem.W.makesIn K C=true
 init:PySem.W.findIn K (.ref C) "__init__"=some (some (.ref f))
 fn:PySem.W.isFn K (.ref f)=true
 kp:PySem.W.keepIn K (.ref C)=true
theorem fK {pins:List (Addr×Obj)}{σ:St}{H:Hp}{s:Shared}{Q:VK}{us:List Value}{vs:List V}(M:Mk X.K C f) (F:FnOk X.prog X.w X.K X.mg X.base CX k f fd ps sp) (hr:Room (k+1) X.A) (hb:Binds X.K fd ps ds) (hd:Vals dvs ds)
  (hx:Cm CX X E) (I:Inv X pins σ H s) (r:Vals vs us)
  (h:∀ x dx,H x=none->H dx=none->dx≠x->sp (.ref x::(vs++dvs)) (upd (upd H dx (.own x)) x (.ins C dx [])) (fun v H2=>v=.non/\Q (.ref x) H2) E) :
  wpAny (model X.prog X.w) X.A (call (.ref C) us) (EP X pins σ Q) X.xe s:=by
 have hq:=h (s.heap.objs.size+1) s.heap.objs.size (I.hok.fresh (Nat.le_succ _)) (I.hok.fresh (Nat.le_refl _)) (Nat.ne_of_lt (Nat.lt_succ_self _));have I2:=Inv.made (C:=C) I;have r2:Vals (V.ref (s.heap.objs.size+1)::(vs++dvs)) (Value.ref (s.heap.objs.size+1)::(us++ds)):=.cons rfl (r.append hd);have hl:(Value.ref (s.heap.objs.size+1)::us++ds).length=ps.length:=by
  have e:=r2.length;rw [F.len _ _ _ _ hq] at e;exact e.symm
 refine wpAny_call (fB (f:=f) I.kIn M.makes M.init (beq_iff_eq.mp M.fn) (codeAny_mono (F.run _ X.stack _ _ ⟨Value.ref (s.heap.objs.size+1)::us,[]⟩ (Value.ref (s.heap.objs.size+1)::(us++ds)) _ _ E (hr.make C us [])
  (I2.env0.make C us []) (hb _ (Value.ref (s.heap.objs.size+1)::us) I2.kIn hl) r2 hq) fun r s' hq'=>?_))
 cases r with
 | error e=>exact hx pins σ _ _ e s' I2 hq'
 | ok fl =>
  cases fl with
  | ret u =>
   obtain ⟨v,H',I3,rv,ev,q3⟩:=I2.after hq';subst ev;exact ⟨rv,⟨V.ref (s.heap.objs.size+1),H',I3,rfl,q3⟩⟩
  | next=>exact False.elim hq'
  | brk=>exact False.elim hq'
  | cont=>exact False.elim hq'
theorem rM (M:Mk X.K C f) (F:FnOk X.prog X.w X.K X.mg X.base CX k f fd ps sp) (hr:Room (k+1) X.A) (hg:Gl X x) (hm:X.mg x=some (.ref C)) (hb:Binds X.K fd ps ds) (hd:Vals dvs ds) (hx:Cm CX X E)
  (ha:PA X (e::es) t) (hdb:(x==("__debug__":Str))=false:=by decide) (he:starEach (e::es) X.env=(false,eval e X.env)::starEach es X.env:=by rfl) (hpl:(backTo pos (starEach es X.env)).any (·.1)=false:=by rfl) :
  PE X (.Call (.Name x p) (e::es) [] pos) (Aed C sp dvs E t):=by
 intro pins s σ H Q I h;refine wpAny_Call_Name_kw (Nr I hg hm ?_ hdb);refine PySem.W.callWith_K (h₀:=X.base) I.ok.mod.kin M.kp (thn (ha pos pins s σ H _ I h) fun us s1 ⟨vs,H1,I1,r,q⟩=>⟨I1.kIn,?_⟩) he hpl;exact fK M F hr hb hd hx I1 r q
end
section
variable {X:Cx}{CX:CXT}{k:Nat}{f C:Addr}{fd:FuncData}{ps ks:List Str}{sp:Sp}{E:XK}{x m:Str}{p pos apos kpos:Pos}{e o:Expr}{es:List Expr}{kws:List Keyword}{te ta:TE}{t tk:TA}{nm:Option Str}
variable {g:List Value->List Value->List Value}{gV:List V->List V->List V}
end
structure FnScope (N P:List Str) (sc:Scope):Prop where
 kind:sc.kind=.function
 co:sc.isCoroutine=false
 gen:sc.isGenerator=false
 nd:N.Nodup
 pre:N.take P.length=P
 par:∀ x∈P,sc.names.lookup x=some .local\/sc.names.lookup x=some .cell
 nofree:∀ y∈sc.names,y.2≠.free
theorem Q6 {kindOf:Str->Option NameKind}{x:Str}:∀ {binds:List (Str×Value)}{m:Str->Option Value},(∀ v,(x,v) ∉ binds)->bindL kindOf binds m x=m x
 | [],_,_=>rfl
 | (n,v)::r,m,h=>by
  unfold bindL;rw [Q6 fun w hw=>h w (List.mem_cons_of_mem _ hw)];split
  ·have:x≠n:=by rintro rfl;exact h v List.mem_cons_self
   simp [this]
  ·rfl
theorem Q7 {kindOf:Str->Option NameKind}{x:Str}:∀ {binds:List (Str×Value)}{m:Str->Option Value},(∀ v,(x,v) ∉ binds)->bindC kindOf binds m x=m x
 | [],_,_=>rfl
 | (n,v)::r,m,h=>by
  unfold bindC;rw [Q7 fun w hw=>h w (List.mem_cons_of_mem _ hw)];split
  ·rfl
  ·have:x≠n:=by rintro rfl;exact h v List.mem_cons_self
   simp [this]
theorem Q8 {kindOf:Str->Option NameKind}{x:Str}{v:Value}:∀ {P:List Str}{vs:List Value}{i:Nat}{m:Str->Option Value},P.Nodup->P[i]?=some x->vs[i]?=some v->kindOf x=some .local ->
  bindL kindOf (P.zip vs) m x=some v
 | [],_,_,_,_,h,_,_=>by simp at h
 | _::_,[],_,_,_,_,h,_=>by simp at h
 | p::P,w::vs,0,m,nd,h1,h2,hk=>by
  simp at h1 h2;subst h1;subst h2;show bindL kindOf ((p,w)::P.zip vs) m p=_;unfold bindL;rw [Q6 fun v hv=>(List.nodup_cons.mp nd).1 (List.of_mem_zip hv).1,if_pos hk];simp
 | p::P,w::vs,i+1,m,nd,h1,h2,hk=>by
  show bindL kindOf ((p,w)::P.zip vs) m x=_;unfold bindL;exact Q8 (i:=i) (List.nodup_cons.mp nd).2 (by simpa using h1) (by simpa using h2) hk
theorem Q9 {kindOf:Str->Option NameKind}{x:Str}{v:Value}:∀ {P:List Str}{vs:List Value}{i:Nat}{m:Str->Option Value},P.Nodup->P[i]?=some x->vs[i]?=some v->kindOf x≠some .local ->
  bindC kindOf (P.zip vs) m x=some v
 | [],_,_,_,_,h,_,_=>by simp at h
 | _::_,[],_,_,_,_,h,_=>by simp at h
 | p::P,w::vs,0,m,nd,h1,h2,hk=>by
  simp at h1 h2;subst h1;subst h2;show bindC kindOf ((p,w)::P.zip vs) m p=_;unfold bindC;rw [Q7 fun v hv=>(List.nodup_cons.mp nd).1 (List.of_mem_zip hv).1,if_neg hk];simp
 | p::P,w::vs,i+1,m,nd,h1,h2,hk=>by
  show bindC kindOf ((p,w)::P.zip vs) m x=_;unfold bindC;exact Q9 (i:=i) (List.nodup_cons.mp nd).2 (by simpa using h1) (by simpa using h2) hk
noncomputable def start (N:List Str) (vs:List V):St:=vs.map some++List.replicate (N.length - vs.length) none
noncomputable def Jz (CX:CXT) (P:Program) (w:World) (K:PySem.W.Frag) (mg:Str->Option Value) (base:Heap) (N:List Str) (qual:Str) (scope:Scope) (f:Addr) (cd:Value) (A:Around) (outer:List Env) (s:Shared) (H:Hp) (E:XK):Cx where
 prog:=P
 w:=w
 K:=K
 mg:=mg
 base:=base
 A:=A.deeper (envOfC qual scope s.heap.objs.size f cd)
 N:=N
 s₀:=s
 H₀:=H
 env:=envOfC qual scope s.heap.objs.size f cd
 outer:=outer
 stack:=envOfC qual scope s.heap.objs.size f cd::outer
 ex:=[]
 calm:=true
 fn:=fun _=>true
 pn:=[]
 xe:=fun e s'=>wpAny (model P w) (A.deeper (envOfC qual scope s.heap.objs.size f cd)) (leaving (envOfC qual scope s.heap.objs.size f cd) e) (fun _ s''=>CX outer H s E e s'') (fun e' s''=>CX outer H s E e' s'') s'
theorem Ut {sc:Scope}{n:Nat}{x:Str}(h:sc.names.lookup x=some .cell):∃ c,(cellsFrom n sc.names []).lookup x=some c:=by
 have q:=PySem.W.cellsFrom_some sc.names n [] (.inl h);exact Option.isSome_iff_exists.mp q
theorem Lh {CX:CXT}{P:Program}{w:World}{K:PySem.W.Frag}{mg:Str->Option Value}{base:Heap}{N ps:List Str}{qual:Str}{scope:Scope}{f:Addr}{cd:Value}{A:Around}{outer:List Env}{s s1:Shared}{H:Hp}{E:XK}{us:List Value}{vs:List V}
  (S:FnScope N ps scope) (hd:A.handled=none) (e0:Env0 P w K mg base A outer s H) (hl:vs.length=ps.length) (r:Vals vs us)
  (x:InCallC s s.heap.objs.size (bindL (envOfC qual scope s.heap.objs.size f cd).kindOf (ps.zip us) fun _=>none) (cellsFrom (s.heap.objs.size+1) scope.names []) (bindC (envOfC qual scope s.heap.objs.size f cd).kindOf (ps.zip us) fun _=>none) s1) :
  Inv (Jz CX P w K mg base N qual scope f cd A outer s H E) [] (start N vs) H s1:=by
 have hpl:ps.length<=N.length:=by have:=congrArg List.length S.pre;rw [List.length_take] at this;omega
 obtain ⟨h1,tk,rfl,hk⟩:=x.done;have noA:∀ b:Addr,b ∉ (Jz CX P w K mg base N qual scope f cd A outer s H E).ex:=fun b z=>absurd (show b∈([]:List Addr) from z) (by simp)
 refine ⟨⟨e0.mod,S.kind,rfl,rfl,Nat.le_refl _,fun y z c h1 h2=>?_,fun y hy=>?_,fun y c _ h=>?_,fun _=>hd,Around.frames_deeper e0.frames,.inr ⟨rfl,rfl⟩,fun b z=>absurd z (noA b),e0.bs,e0.bsz,fun b _ _=>noA b,fun b z=>absurd z (noA b),e0.funs,e0.frf⟩,
  rfl,e0.bare,Un.kept hk,⟨_,x.toInCall.ns,fun i y v h1 h2 h3=>?_⟩,fun y c h=>⟨_,x.cell y c h⟩,e0.hok.fresh (Nat.le_refl _),fun y c h=>?_,fun p hp=>absurd (show p∈([]:List (Addr×Obj)) from hp) (by simp),e0.hok.kept hk,?_⟩
 ·exact name_of_addr x.apart (PySem.mem_of_lookup h1) (PySem.mem_of_lookup h2)
 ·have hy:scope.names.lookup y=some .cell\/scope.names.lookup y=some .free:=hy;rcases hy with hy|hy
  ·exact Ut hy
  ·exact absurd rfl (S.nofree _ (PySem.mem_of_lookup hy))
 ·exact Nat.le_of_lt (x.above y c (PySem.mem_of_lookup h))
 ·have hi:i < vs.length:=by
   unfold start at h2
   by_cases hi:i < vs.length
   ·exact hi
   ·rw [List.getElem?_append_right (by simpa using hi)] at h2;rw [List.getElem?_replicate] at h2;split at h2 <;> cases h2
  have ha:vs[i]?=some v:=by
   unfold start at h2;rw [List.getElem?_append_left (by simpa using hi),List.getElem?_map] at h2;cases e:vs[i]? with
   | none=>rw [e] at h2;cases h2
   | some a=>rw [e] at h2;cases h2;rfl
  obtain ⟨u,hu,rv⟩:=r.get ha;have hp:ps[i]?=some y:=by
   rw [← S.pre,List.getElem?_take_of_lt (by omega)];exact h1
  have ndP:ps.Nodup:=by rw [← S.pre];exact S.nd.sublist (List.take_sublist _ _)
  refine ⟨u,rv,?_⟩;rcases S.par y (List.mem_of_getElem? hp) with k|k
  ·exact .inl ⟨k,Q8 ndP hp hu k⟩
  ·obtain ⟨c,e⟩:=Ut (n:=s.heap.objs.size+1) k;refine .inr ⟨.inl k,c,e,?_⟩;have q:=x.cell y c e;rw [Q9 ndP hp hu (by show scope.names.lookup y≠_;rw [k];decide)] at q;exact q
 ·exact .inl (e0.hok.fresh (Nat.le_of_lt (x.above y c (PySem.mem_of_lookup h))))
 ·unfold start;show _=N.length;rw [List.length_append,List.length_map,List.length_replicate];omega
theorem wM {CX:CXT}{P:Program}{w:World}{K:PySem.W.Frag}{mg:Str->Option Value}{base:Heap}{k:Nat}{f:Addr}{name qual:Str}{params:Arguments}{body:List Stmt}{scope:Scope}{dV kV doc pm cdv ct oc:Value}{an od:Option Addr}
  {osl:Array (Option Value)} {N ps:List Str} {sp:Sp} (lk:K.lookup f=some ⟨oc,od,.func (PySem.W.fnOf name qual params body scope dV kV doc pm an cdv ct),osl⟩) (hcd:PySem.W.codeIn K cdv qual=true) (S:FnScope N ps scope)
  (len:∀ vs H Q E,sp vs H Q E->vs.length=ps.length)
  (hbody:∀ (A:Around) (outer:List Env) (s:Shared) (H:Hp) (vs:List V) (Q:VK) (E:XK),Room k (A.deeper (envOfC qual scope s.heap.objs.size f cdv))->sp vs H Q E ->
   ∃ t,PSs (Jz CX P w K mg base N qual scope f cdv A outer s H E) body t/\t { nx:=fun _ H'=>Q .non H',rt:=Q } (start N vs) H) :
  FnOk P w K mg base CX (k+1) f (PySem.W.fnOf name qual params body scope dV kV doc pm an cdv ct) ps sp:=by
 refine ⟨len,fun A outer s H args us vs Q E hr e0 hb r hsp=>?_⟩;have hl:=len _ _ _ _ hsp;have KX:K.In s.heap:=e0.mod.kin.keeps fun b o e=>(e0.bs b o e).1
 have lim:s.heap.NoLimit:=e0.mod.nolimit.keeps fun b o e=>(e0.bs b o e).1
 have hkind:∀ y∈ps.zip us,scope.names.lookup y.1=some .local\/(scope.names.lookup y.1=some .cell/\((cellsFrom (s.heap.objs.size+1) scope.names []).lookup y.1).isSome=true):=by
  rintro ⟨n,v⟩ hy;rcases S.par n (List.of_mem_zip hy).1 with q|q
  ·exact .inl q
  ·exact .inr ⟨q,PySem.W.cellsFrom_some _ _ _ (.inl q)⟩
 refine codeAny_call_function hr.depth (KX _ _ lk) rfl S.co S.gen rfl (PySem.W.codeRec_of KX hcd) (hb _ _ _ _ ?_);refine wpAny_newFunctionEnv_cells S.kind hkind fun env he s1 x=>?_
 subst he;refine ⟨lim.keeps x.toInCall.keep,codeAny_func ?_⟩;obtain ⟨t,ht,hq⟩:=hbody A outer s H vs Q E (hr.deeper _) hsp;have I:Inv (Jz CX P w K mg base N qual scope f cdv A outer s H E) [] (start N vs) H s1:=Lh S hr.hd e0 hl r x;refine wpAny_mono (ht [] s1 (start N vs) H _ I hq) (fun fl s' hs=>?_) fun e s' hs=>hs
 have fin:∀ {σ':St} {H':Hp} {v:V} {u:Value},Inv (Jz CX P w K mg base N qual scope f cdv A outer s H E) [] σ' H' s'->RelV v u->Q v H'->CE outer P w H s Q u s' :=
  fun {σ' H' v u} J rv q=>⟨v,H',J.os,J.bare,J.base,J.hok,rv,q⟩
 cases fl with
 | ret u =>
  obtain ⟨v,σ',H',J,rv,q⟩:=hs;exact fin J rv q
 | next =>
  obtain ⟨σ',H',J,q⟩:=hs;exact fin (v:=V.non) (u:=Value.none) J rfl q
 | brk =>
  obtain ⟨_,_,_,q⟩:=hs;exact False.elim q
 | cont =>
  obtain ⟨_,_,_,q⟩:=hs;exact False.elim q
section
variable {X:Cx}{x:Str}{p pos:Pos}{e:Expr}{es:List Expr}{t:TA}{id T:String}{r:List V->Hp->VK->Prop}
noncomputable def tCB (r:List V->Hp->VK->Prop) (t:TA):TE:=fun σ H Q=>t σ H fun vs H1=>r vs H1 Q
theorem Uu (hc:Cd X (.builtin id) r) (hg:Gl X x) (hm:X.mg x=none) (hv:bootBuiltins x=some (.builtin id)) (ha:PA X (e::es) t) (hn:x ≠ "__name__":=by decide) (hdb:(x==("__debug__":Str))=false:=by decide)
  (he:starEach (e::es) X.env=(false,eval e X.env)::starEach es X.env:=by rfl) (hpl:(backTo pos (starEach es X.env)).any (·.1)=false:=by rfl):PE X (.Call (.Name x p) (e::es) [] pos) (tCB r t):=by
 intro pins s σ H Q I h;refine wpAny_Call_Name_kw (Oi I hg hm hv ?_ hn hdb);exact PyProof.Rows.callWith_builtin1 (thn (ha pos pins s σ H _ I h) fun us s1 ⟨vs,H1,I1,r1,q1⟩=>hc pins s1 σ H1 vs us Q I1 r1 q1) he hpl
theorem G5 (hc:Cd X (.type T) r) (hg:Gl X x) (hm:X.mg x=none) (hv:bootBuiltins x=some (.type T)) (ha:PA X (e::es) t) (hn:x ≠ "__name__":=by decide) (hdb:(x==("__debug__":Str))=false:=by decide)
  (he:starEach (e::es) X.env=(false,eval e X.env)::starEach es X.env:=by rfl) (hpl:(backTo pos (starEach es X.env)).any (·.1)=false:=by rfl):PE X (.Call (.Name x p) (e::es) [] pos) (tCB r t):=by
 intro pins s σ H Q I h;refine wpAny_Call_Name_kw (Oi I hg hm hv ?_ hn hdb);exact PyProof.Rows.callWith_type1 (thn (ha pos pins s σ H _ I h) fun us s1 ⟨vs,H1,I1,r1,q1⟩=>hc pins s1 σ H1 vs us Q I1 r1 q1) he hpl
end
end L2
namespace HT
open PySem PyProof.Rows
section
open PySem.SeqAt
open PySem.AutoSeq1 (wpAny_loadPart')
open PySem.MeetsSeq PySem.MeetsSeq2 PySem.MeetsSeq3
end
section
variable {prog:Program}{w:World}{A:Around}{E:Value->Shared->Prop}{s:Shared}
theorem cat_tup {t b:Addr}{vs ws:List Value}{Q:Value->Shared->Prop}(ht:IsTup s.heap t vs.toArray) (hb:IsTup s.heap b ws.toArray) (hv:vs≠[])
  (h1:ws=[]->Q (.ref t) s) (h2:ws≠[]->Q (.ref s.heap.objs.size) { s with heap:=s.heap.push { cls:=.type "tuple",data:=.seq (vs++ws).toArray } })
  (hsz:vs.length+ws.length<=sizeLine):wpAny (model prog w) A (binaryOp .Add (.ref t) (.ref b)) Q E s:=by
 obtain ⟨⟨cls,dd,data,sl⟩,ho,hc,n,hd⟩:=id ht;obtain ⟨⟨cls2,dd2,data2,sl2⟩,ho2,hc2,n2,hd2⟩:=id hb;simp only at hc hd hc2 hd2;subst hc hd hc2 hd2;have e:vs.toArray++ws.toArray=(vs++ws).toArray:=by simp
 by_cases hw:ws=[]
 ·exact concat_meets ⟨_,ho,rfl⟩ ⟨_,ho2,rfl⟩ noFill_tuple_add seq_tuple_add PySem.F.slot_tuple_add PySem.F.entry_tuple_add (PySem.F.args_tuple_add_2 _ _)
   (tuple_addW1 t b vs.toArray ws.toArray n n2 dd dd2 sl sl2 (by simpa using hv) (by simp [hw])) ⟨ho,ho2,h1 hw⟩
 ·refine concat_meets ⟨_,ho,rfl⟩ ⟨_,ho2,rfl⟩ noFill_tuple_add seq_tuple_add PySem.F.slot_tuple_add PySem.F.entry_tuple_add (PySem.F.args_tuple_add_2 _ _)
   (tuple_addW2 t b vs.toArray ws.toArray n n2 dd dd2 sl sl2 (by simpa using hv) (by simpa using hw) (by rw [List.size_toArray,List.size_toArray];exact hsz)) ⟨ho,ho2,?_⟩
  rw [e];exact h2 hw
noncomputable def sIx (n d:Nat):Option Int->Nat
 | none=>d
 | some v=>if v < 0 then (v+(n:Int)).toNat else min v.toNat n
theorem sIx_none (n d:Nat):sIx n d none=d:=rfl
theorem sIx_nat (n d k:Nat):sIx n d (some (k:Int))=min k n:=by
 show (if (k:Int) < 0 then ((k:Int)+(n:Int)).toNat else min (k:Int).toNat n)=min k n;rw [if_neg (by omega),Int.toNat_natCast]
theorem zM (n d:Nat) (hd:d<=n) (o:Option Int):sIx n d o<=n:=by
 cases o with
 | none=>exact hd
 | some v =>
  show (if v < 0 then (v+(n:Int)).toNat else min v.toNat n)<=n
  by_cases hv:v < 0
  ·rw [if_pos hv];omega
  ·rw [if_neg hv];exact Nat.min_le_right _ _
theorem Y4 (v:Int) (n d:Nat):(if v < 0 then max (v+(n:Int)) 0 else min v (n:Int))=((sIx n d (some v):Nat):Int):=by
 show (if v < 0 then max (v+(n:Int)) 0 else min v (n:Int))=(((if v < 0 then (v+(n:Int)).toNat else min v.toNat n):Nat):Int)
 by_cases hv:v < 0
 ·simp only [if_pos hv];omega
 ·simp only [if_neg hv];omega
theorem Wz (lo hi:Option Int) (n:Nat):Builtin.Slice.sliceAdjust lo hi 1 (n:Int)=(((sIx n 0 lo:Nat):Int),((sIx n n hi:Nat):Int)):=by
 have h1:¬ ((1:Int) < 0):=by omega
 unfold Builtin.Slice.sliceAdjust;simp only [h1,if_false];refine Prod.ext ?_ ?_
 ·cases lo with
  | none=>rfl
  | some v=>exact Y4 v n 0
 ·cases hi with
  | none=>rfl
  | some v=>exact Y4 v n n
theorem W0 (i j:Nat):Builtin.Slice.slicePlaces (i:Int) (j:Int) 1=j - i:=by
 unfold Builtin.Slice.slicePlaces;have h1:(1:Int) > 0:=by omega
 simp only [h1,if_true,Int.ediv_one];split <;> omega
theorem Om {v:Value}{o:Option Int}{Q:Option Int->Shared->Prop}(p:IsPart v o) (h:Q o s):wpAny (model prog w) A (Builtin.Slice.slicePartIndex v) Q E s:=by
 cases p with
 | none=>exact slicePart_none h
 | int i t=>exact slicePart_int h
theorem sliceApplied_gen {sl:Addr}{vl vu:Value}{lo hi:Option Int}{n:Nat}{Q:Int×Int×Nat->Shared->Prop}(hs:s.heap.IsSliceOf sl vl vu .none) (pl:IsPart vl lo) (pu:IsPart vu hi)
  (h:Q (((sIx n 0 lo:Nat):Int),1,sIx n n hi - sIx n 0 lo) s):wpAny (model prog w) A (Builtin.Slice.sliceApplied (.ref sl) (pure (n:Int))) Q E s:=by
 obtain ⟨os,hos,hcs,hds⟩:=id hs;unfold Builtin.Slice.sliceApplied Builtin.Slice.sliceFields;refine wpAny_bind (wpAny_bind (wpAny_field hos hds (x:=vl) rfl (wpAny_bind (wpAny_field hos hds (x:=vu) rfl (wpAny_bind (wpAny_field hos hds (x:=.none) rfl (wpAny_pure ?_)))))));refine wpAny_bind (slicePart_none ?_);show wpAny _ _ (if ((1:Int)==0)=true then _ else _) _ _ s;rw [if_neg (by decide)];refine wpAny_bind (Om pl (wpAny_bind (Om pu (wpAny_bind (wpAny_pure ?_)))));show wpAny _ _ (match Builtin.Slice.sliceAdjust lo hi 1 (n:Int) with | (lo,hi)=>pure (lo,(1:Int),Builtin.Slice.slicePlaces lo hi 1)) _ _ s;rw [Wz lo hi n];show wpAny _ _ (pure (((sIx n 0 lo:Nat):Int),(1:Int),Builtin.Slice.slicePlaces ((sIx n 0 lo:Nat):Int) ((sIx n n hi:Nat):Int) 1)) _ _ s;rw [W0];exact wpAny_pure h
theorem fL (xs:Array Value) (i k:Nat):((List.range k).filterMap fun (m:Nat)=>xs[((i:Int)+(m:Int) * 1).toNat]?).toArray=((xs.toList.drop i).take k).toArray:=by
 have e:(fun (m:Nat)=>xs[((i:Int)+(m:Int) * 1).toNat]?)=fun m=>xs[i+m]?:=by
  funext m;have:((i:Int)+(m:Int) * 1).toNat=i+m:=by omega
  rw [this]
 rw [e];have:=pick_run xs i k;rw [List.filterMap_map] at this;have e2:((fun x=>xs[x]?) ∘ fun x=>i+x)=fun m=>xs[i+m]?:=rfl
 rw [e2] at this;rw [this]
theorem getItem_tuple_cut {t sl:Addr}{items:Array Value}{vl vu:Value}{lo hi:Option Int}{Q:Value->Shared->Prop}(ht:IsTup s.heap t items) (hs:s.heap.IsSliceOf sl vl vu .none) (pl:IsPart vl lo) (pu:IsPart vu hi)
  (hw:¬ (sIx items.size 0 lo=0/\sIx items.size items.size hi=items.size))
  (h:Q (.ref s.heap.objs.size) { s with heap:=s.heap.push { cls:=.type "tuple",data:=.seq ((items.toList.drop (sIx items.size 0 lo)).take (sIx items.size items.size hi - sIx items.size 0 lo)).toArray } })
  (hsz:items.size<=sizeLine):wpAny (model prog w) A (getItem (.ref t) (.ref sl)) Q E s:=by
 have htake:sizeOk (.seq ((items.toList.drop (sIx items.size 0 lo)).take (sIx items.size items.size hi - sIx items.size 0 lo)).toArray):=by
  show ((items.toList.drop (sIx items.size 0 lo)).take (sIx items.size items.size hi - sIx items.size 0 lo)).toArray.size<=sizeLine;rw [List.size_toArray,List.length_take,List.length_drop,Array.length_toList];omega
 have hj:sIx items.size items.size hi<=items.size:=zM _ _ (Nat.le_refl _) hi;obtain ⟨os,hos,hcs,hds⟩:=id hs
 have hTs:s.TypeIs (.ref sl) "slice":=⟨os,hos,hcs⟩
 unfold getItem
 try with_reducible refine wpAny_holding ?_
 first | refine wpAny_bind (wpAny_pure ?_) | skip
 refine wpAny_bind (wpAny_sequenceKey ht.typeIs (by decide) ?_)
 refine wpAny_bind (wpAny_callSpecial?_slot (name:=Str.ofString "__getitem__") ht.typeIs PyProof.Rows.slot_tuple_getitem
  (wpAny_call_entry PyProof.Rows.slot_tuple_getitem ht.typeIs entry_tuple_getitem ?_ (args_tuple_getitem _ _)))
 show wpAny _ _ (Builtin.Tuple.tupleItemsOf (.ref t) >>= _) _ _ s;refine wpAny_bind (tupleItemsOf_ ht ?_);refine wpAny_bind (wpAny_typeOf hTs ?_);rw [if_pos (by decide)];refine wpAny_bind (sliceApplied_gen hs pl pu ?_);have hno:¬ ((((sIx items.size 0 lo:Nat):Int)==0&&(1:Int)==1&&(sIx items.size items.size hi - sIx items.size 0 lo)==items.size)=true):=by
  intro q;rw [Bool.and_eq_true,Bool.and_eq_true] at q;have q1:((sIx items.size 0 lo:Nat):Int)=0:=eq_of_beq q.1.1;have q2:sIx items.size items.size hi - sIx items.size 0 lo=items.size:=eq_of_beq q.2;exact hw ⟨by omega,by omega⟩
 show wpAny _ _ (if (((sIx items.size 0 lo:Nat):Int)==0&&(1:Int)==1&&(sIx items.size items.size hi - sIx items.size 0 lo)==items.size)=true then _ else _) _ _ s;rw [if_neg hno,fL]
 first
  | exact wpAny_bind (m:=Builtin.Tuple.tupleExact _) (wpAny_newObj_type (wpAny_pure ⟨_,rfl,wpAny_pure h⟩) htake)
  | exact wpAny_bind (m:=Builtin.Tuple.tupleExact _) (wpAny_newObj_type (wpAny_bind (wpAny_pure (wpAny_pure ⟨_,rfl,wpAny_pure h⟩))) htake)
  | exact wpAny_bind (wpAny_bind (m:=Builtin.Tuple.tupleExact _) (wpAny_newObj_type (wpAny_pure (wpAny_pure ⟨_,rfl,wpAny_pure h⟩)) htake))
  | exact wpAny_bind (wpAny_bind (m:=Builtin.Tuple.tupleExact _) (wpAny_newObj_type (wpAny_pure ⟨_,rfl,wpAny_pure h⟩) htake))
end
end HT
namespace L2
open PySem PySem.Spec PyProof.Rows
noncomputable abbrev TO:=St->Hp->(Option Int->Hp->Prop)->Prop
noncomputable def PO (X:Cx) (e:Option Expr) (t:TO):Prop :=
 ∀ (pins:List (Addr×Obj)) (s:Shared) (σ:St) (H:Hp) (Q:Option Int->Hp->Prop),Inv X pins σ H s->t σ H Q ->
  wpAny (model X.prog X.w) X.A (evalPart e X.env) (fun u s'=>∃ o H',Inv X pins σ H' s'/\IsPart u o/\Q o H') X.xe s
noncomputable def rN:TO:=fun _ H Q=>Q none H
noncomputable def Aee (t:TE):TO:=fun σ H Q=>t σ H fun x H1=>∃ i,x=.int i/\Q (some i) H1
section
variable {X:Cx}{e:Expr}{te:TE}{lo hi:Option Expr}{tl th:TO}{pos p2:Pos}
theorem rO:PO X none rN:=by
 intro pins s σ H Q I h;rw [evalPart_none];exact wpAny_pure ⟨none,H,I,.none,h⟩
theorem rP (h:PE X e te):PO X (some e) (Aee te):=by
 intro pins s σ H Q I hw;rw [evalPart_some];refine thn (h pins s σ H _ I hw) ?_;rintro u s1 ⟨x,H1,I1,r1,q1⟩;obtain ⟨i,rfl,q⟩:=q1;obtain ⟨t,rfl⟩:=r1;exact ⟨some i,H1,I1,.int i t,q⟩
noncomputable def SlR (X:Cx) (r:V->Option Int->Option Int->Hp->VK->Prop):Prop :=
 ∀ (pins:List (Addr×Obj)) (s:Shared) (σ:St) (H:Hp) (x:V) (v vl vu:Value) (lo hi:Option Int) (sl:Addr) (Q:VK),Inv X pins σ H s->RelV x v->s.heap.IsSliceOf sl vl vu .none->IsPart vl lo->IsPart vu hi->r x lo hi H Q ->
  ∃ T id,typeLookup (.type T) "__getitem__"=pure (some (.builtin id))/\s.TypeIs v T/\wpAny (model X.prog X.w) X.A (getItem v (.ref sl)) (EP X pins σ Q) X.xe s
theorem SlR.or {r r':V->Option Int->Option Int->Hp->VK->Prop}(h:SlR X r) (h':SlR X r'):SlR X (fun x lo hi H Q=>r x lo hi H Q\/r' x lo hi H Q):=by
 intro pins s σ H x v vl vu lo hi sl Q I rx hs pl pu q;rcases q with q|q
 ·exact h pins s σ H x v vl vu lo hi sl Q I rx hs pl pu q
 ·exact h' pins s σ H x v vl vu lo hi sl Q I rx hs pl pu q
noncomputable def tSl (r:V->Option Int->Option Int->Hp->VK->Prop) (te:TE) (tl th:TO):TE:=fun σ H Q=>te σ H fun x H1=>tl σ H1 fun l H2=>th σ H2 fun u H3=>r x l u H3 Q
theorem fM {r:V->Option Int->Option Int->Hp->VK->Prop}(hr:SlR X r) (he:PE X e te) (hl:PO X lo tl) (hu:PO X hi th):PE X (.Subscript e (.Slice lo hi none p2) pos) (tSl r te tl th):=by
 intro pins s σ H Q I h;refine Subscript_ (thn (he pins s σ H _ I h) ?_);rintro v s1 ⟨x,H1,I1,r1,q1⟩;refine wpAny_Slice (thn (hl pins s1 σ H1 _ I1 q1) ?_);rintro vl s2 ⟨l,H2,I2,pl,q2⟩;refine thn (hu pins s2 σ H2 _ I2 q2) ?_;rintro vu s3 ⟨u,H3,I3,pu,q3⟩;rw [evalPart_none];refine wpAny_pure ?_
 have I4:Inv X pins σ H3 { s3 with heap:=s3.heap.push { cls:=.type "slice",data:=.fields #[vl,vu,.none] } }:=I3.kept (t':=s3.toks) fun b ob q=>Heap.get?_push_of_some _ q
 obtain ⟨T,id,hT,ht,hg⟩:=hr pins { s3 with heap:=s3.heap.push { cls:=.type "slice",data:=.fields #[vl,vu,.none] } } σ H3 x v vl vu l u s3.heap.objs.size Q I4 r1 (Heap.IsSliceOf.new ..) pl pu q3
 show wpAny (model X.prog X.w) X.A (subscriptTail e (.Slice lo hi none p2) v (.ref s3.heap.objs.size)) (EP X pins σ Q) X.xe { s3 with heap:=s3.heap.push { cls:=.type "slice",data:=.fields #[vl,vu,.none] } };exact tail_any (ops:=[.ref s3.heap.objs.size,v]) ht hT hg (by with_unfolding_all rfl)
noncomputable def Uv (xs:List V) (lo hi:Option Int):List V:=(xs.drop (HT.sIx xs.length 0 lo)).take (HT.sIx xs.length xs.length hi - HT.sIx xs.length 0 lo)
theorem Mr (xs:List V) (lo hi:Option Int):(Uv xs lo hi).length<=xs.length:=by
 unfold Uv;rw [List.length_take,List.length_drop];omega
noncomputable def Agj (K:PySem.W.Frag):V->Option Int->Option Int->Hp->VK->Prop:=fun x lo hi H Q=>∃ a xs,x=.ref a/\SqT K H a xs /\
 ¬ (HT.sIx xs.length 0 lo=0/\HT.sIx xs.length xs.length hi=xs.length)/\∀ p,H p=none->Q (.ref p) (upd H p (.tup (Uv xs lo hi)))
theorem zN:SlR X (Agj X.K):=by
 intro pins s σ H x v vl vu lo hi sl Q I rx hs pl pu h;obtain ⟨a,xs,rfl,hx,hw,q⟩:=h;cases rx;obtain ⟨its,r,ht,hz⟩:=I.tuple hx;have hlen:its.toArray.size=xs.length:=by rw [List.size_toArray];exact r.length.symm
 refine ⟨"tuple",_,PyProof.Rows.slot_tuple_getitem.lookup,ht.typeIs,?_⟩;refine HT.getItem_tuple_cut ht hs pl pu (by rw [hlen];exact hw) ?_ (by rw [hlen];exact hz);rw [hlen];refine ⟨.ref s.heap.objs.size,_,I.laid (t':=s.toks) (o:=.tup (Uv xs lo hi)) (fun b ob q=>Heap.get?_push_of_some _ q) (Nat.le_refl _) ?_,rfl,q _ (I.hok.fresh (Nat.le_refl _))⟩;exact ⟨Nat.le_trans (Mr xs lo hi) hz,_,(r.drop (HT.sIx xs.length 0 lo)).take (HT.sIx xs.length xs.length hi - HT.sIx xs.length 0 lo),Ni.new _ _⟩
noncomputable def Aef (K:PySem.W.Frag):R2:=fun x y H Q=>∃ a b xs ys,x=.ref a/\y=.ref b/\SqT K H a xs/\SqT K H b ys/\xs≠[]/\xs.length+ys.length<=sizeLine /\
 (ys=[]->Q (.ref a) H)/\(ys≠[]->∀ p,H p=none->Q (.ref p) (upd H p (.tup (xs++ys))))
theorem Vals.nil_iff {xs:List V}{us:List Value}(r:Vals xs us):us=[] ↔ xs=[]:=by
 cases r with
 | nil=>simp
 | cons _ _=>simp
theorem rQ:OpR X (binaryOp .Add) (Aef X.K):=by
 intro pins s σ H x y v u Q I rx ry h;obtain ⟨a,b,xs,ys,rfl,rfl,ha,hb,hx,hz,q1,q2⟩:=h;cases rx;cases ry;obtain ⟨its,r1,p1,_⟩:=I.tuple ha;obtain ⟨its2,r2,p2,_⟩:=I.tuple hb;refine HT.cat_tup p1 p2 (fun z=>hx (r1.nil_iff.mp z)) (fun z=>⟨.ref a,H,I,rfl,q1 (r2.nil_iff.mp z)⟩) (fun z=>?_) (by rw [← r1.length,← r2.length];exact hz);refine ⟨.ref s.heap.objs.size,_,I.laid (t':=s.toks) (o:=.tup (xs++ys)) (fun b ob q=>Heap.get?_push_of_some _ q) (Nat.le_refl _) ?_,rfl,q2 (fun w=>z (r2.nil_iff.mpr w)) _ (I.hok.fresh (Nat.le_refl _))⟩;exact ⟨by rw [List.length_append];exact hz,_,r1.append r2,Ni.new _ _⟩
end
noncomputable def ixN (n:Nat) (i:Int):Option Nat:=if 0<=i then (if i < n then some i.toNat else none) else if -(n:Int)<=i then some (i+n).toNat else none
noncomputable def atI {α:Type}(xs:List α) (i:Int):Option α:=(ixN xs.length i).bind fun j=>xs[j]?
theorem Y5 {n:Nat}{i:Int}{j:Nat}(h:ixN n i=some j):seqIndex? i n=some j/\j < n/\-(n:Int)<=i/\i < n:=by
 unfold ixN at h
 by_cases h0:0<=i
 ·rw [if_pos h0] at h
  by_cases h1:i < n
  ·rw [if_pos h1] at h;have e:i.toNat=j:=Option.some.inj h;exact ⟨by rw [seqIndex_of h0 h1,e],by omega,by omega,h1⟩
  ·rw [if_neg h1] at h;cases h
 ·rw [if_neg h0] at h
  by_cases h1:-(n:Int)<=i
  ·rw [if_pos h1] at h;have e:(i+n).toNat=j:=Option.some.inj h;exact ⟨by rw [seqIndex_neg (by omega) h1,e],by omega,h1,by omega⟩
  ·rw [if_neg h1] at h;cases h
theorem Sd {α:Type}{xs:List α}{i:Int}{v:α}(h:atI xs i=some v):∃ j,seqIndex? i xs.length=some j/\xs[j]?=some v/\j < xs.length/\-(xs.length:Int)<=i/\i < xs.length:=by
 unfold atI at h;cases e:ixN xs.length i with
 | none=>rw [e] at h;cases h
 | some j =>
  rw [e] at h;obtain ⟨h1,h2,h3,h4⟩:=Y5 e;exact ⟨j,h1,h,h2,h3,h4⟩
theorem Y6 {α:Type}{xs:List α}{j:Nat}{v:α}(h:xs[j]?=some v):atI xs (j:Int)=some v:=by
 have hj:j < xs.length:=(List.getElem?_eq_some_iff.mp h).1;have e:ixN xs.length (j:Int)=some j:=by
  unfold ixN;rw [if_pos (by omega),if_pos (by omega)];simp
 unfold atI;rw [e];exact h
noncomputable def Sg (b:Expr):Prop:=∀ o i,subscripted b false o i=operate [o,i] (getItem o i)
noncomputable def IxR (X:Cx) (r:R2):Prop :=
 ∀ (value slice:Expr) (pins:List (Addr×Obj)) (s:Shared) (σ:St) (H:Hp) (x y:V) (v u:Value) (Q:VK),Inv X pins σ H s->RelV x v->RelV y u->r x y H Q ->
  subscripted slice false v u=operate [v,u] (getItem v u)->wpAny (model X.prog X.w) X.A (subscriptTail value slice v u) (EP X pins σ Q) X.xe s
noncomputable def MtR (X:Cx) (id:String) (r:V->List V->Hp->VK->Prop):Prop :=
 ∀ (pins:List (Addr×Obj)) (s:Shared) (σ:St) (H:Hp) (x:V) (xs:List V) (v:Value) (us:List Value) (Q:VK),Inv X pins σ H s->RelV x v->Vals xs us->r x xs H Q ->
  wpAny (model X.prog X.w) X.A (call (.builtin id) (v::us)) (EP X pins σ Q) X.xe s
section
variable {X:Cx}{a b:Expr}{ta tb:TE}{pos:Pos}
theorem IxR.or {r r':R2}(h:IxR X r) (h':IxR X r'):IxR X (fun x y H Q=>r x y H Q\/r' x y H Q):=by
 intro value slice pins s σ H x y v u Q I rx ry q hs;rcases q with q|q
 ·exact h value slice pins s σ H x y v u Q I rx ry q hs
 ·exact h' value slice pins s σ H x y v u Q I rx ry q hs
theorem Aeg {r:R2}(hr:IxR X r) (ha:PE X a ta) (hb:PE X b tb) (hs:Sg b):PE X (.Subscript a b pos) (tOp r ta tb):=by
 intro pins s σ H Q I h;exact Subscript_ (yS ha hb I h fun v u s2 x y H2 I2 rx ry q=>hr a b pins s2 σ H2 x y v u Q I2 rx ry q (hs _ _))
noncomputable def Aeh (K:PySem.W.Frag):R2:=fun x y H Q=>∃ p xs i v,x=.ref p/\y=.int i/\SqL K H p xs/\atI xs i=some v/\Q v H
noncomputable def Aei (K:PySem.W.Frag):R2:=fun x y H Q=>∃ p xs i v,x=.ref p/\y=.int i/\SqT K H p xs/\atI xs i=some v/\Q v H
noncomputable def Aej:R2:=fun x y H Q=>∃ z i c,x=.str z/\y=.int i/\z.length<=sizeLine/\atI z.cps.toList i=some c/\Q (.str ⟨#[c]⟩) H
theorem rR:IxR X (Aeh X.K):=by
 intro value slice pins s σ H x y v u Q I rx ry h hs;obtain ⟨p,xs,i,z,rfl,rfl,hq,he,q⟩:=h;cases rx;obtain ⟨t,rfl⟩:=ry;obtain ⟨its,r,pl,hz⟩:=I.list hq;obtain ⟨j,h1,h2,h3,h4,h5⟩:=Sd he;obtain ⟨w,ew,rw'⟩:=r.get h2;have hl:=r.length;have hn:=Jx;have fin:EP X pins σ Q w s:=⟨z,H,I,rw',q⟩
 by_cases h0:0<=i
 ·have hj:i.toNat=j:=by
   rw [seqIndex_of h0 h5] at h1;exact Option.some.inj h1
  exact item_listR pl.isList h0 (by omega) (by rw [hj];simpa using ew) fin hs
 ·have hj:(i+(its.toArray.size:Int)).toNat=j:=by
   rw [seqIndex_neg (by omega) h4] at h1;rw [List.size_toArray,← hl];exact Option.some.inj h1
  exact subscriptTail_builtinR (x:=w) pl.isList.typeIs slot_list_getitem.lookup
   (wpAny_getItem_list_neg (Q:=fun r s'=>r=w/\EP X pins σ Q r s') pl.isList (by omega) (by rw [List.size_toArray] <;> omega) (by omega) (by rw [hj];simpa using ew) ⟨rfl,fin⟩) hs
theorem zO:IxR X (Aei X.K):=by
 intro value slice pins s σ H x y v u Q I rx ry h hs;obtain ⟨p,xs,i,z,rfl,rfl,hq,he,q⟩:=h;cases rx;obtain ⟨t,rfl⟩:=ry;obtain ⟨its,r,pl,hz⟩:=I.tuple hq;obtain ⟨j,h1,h2,h3,h4,h5⟩:=Sd he;obtain ⟨w,ew,rw'⟩:=r.get h2;have hl:=r.length;have hn:=Jx;have fin:EP X pins σ Q w s:=⟨z,H,I,rw',q⟩;exact subscriptTail_builtinR (x:=w) pl.typeIs slot_tuple_getitem.lookup
  (getItem_tuple (j:=j) (Q:=fun r s'=>r=w/\EP X pins σ Q r s') pl (by omega) (by omega) (by rw [List.size_toArray,← hl];exact h1) (by simpa using ew) ⟨rfl,fin⟩) hs
theorem zP:IxR X Aej:=by
 intro value slice pins s σ H x y v u Q I rx ry h hs;obtain ⟨z,i,c,rfl,rfl,hz,he,q⟩:=h;obtain ⟨t,rfl⟩:=rx;obtain ⟨t',rfl⟩:=ry;obtain ⟨j,h1,h2,h3,h4,h5⟩:=Sd he;have hl:z.cps.toList.length=z.length:=by simp [Str.length]
 rw [hl] at h1 h4 h5;have hn:=Jx
 exact tail_any (typeIs_str s z t) slot_str_getitem.lookup (getItem_str (c:=c) (by
  have e1:decide (i < -(2 ^ 63:Int))=false:=decide_eq_false (by omega);have e2:decide (i ≥ 2 ^ 63)=false:=decide_eq_false (by omega)
  rw [e1,e2,Bool.or_false]) (by rw [h1];simpa using h2) ⟨.str ⟨#[c]⟩,H,I.tok _,⟨_,rfl⟩,q⟩) hs
noncomputable def rIx (K:PySem.W.Frag):R2:=fun x y H Q=>Aeh K x y H Q\/Aei K x y H Q\/Aej x y H Q
theorem zQ:IxR X (rIx X.K):=rR.or (zO.or zP)
theorem W2 (its:List Value) (n j:Nat) (u:Value):Obj.mapSeq (·.setIfInBounds j u) { cls:=.type "list",data:=.seq its.toArray n }={ cls:=.type "list",data:=.seq (its.set j u).toArray n }:=by
 simp [Obj.mapSeq]
theorem Inv.lst {pins:List (Addr×Obj)}{σ:St}{H:Hp}{s:Shared}{p:Addr}{xs:List V}(I:Inv X pins σ H s) (h:H p=some (.lst xs)) :
  ∃ (its:List Value) (n:Nat),Vals xs its/\s.heap.get? p=some { cls:=.type "list",data:=.seq its.toArray n }/\xs.length<=sizeLine:=by
 obtain ⟨z,its,n,r,e⟩:=I.hok p _ h;exact ⟨its,n,r,e,z⟩
theorem Inv.lstUpd {pins:List (Addr×Obj)}{σ:St}{H:Hp}{s:Shared}{p:Addr}{xs ys:List V}{its its':List Value}{n n':Nat}{f:Obj->Obj}(I:Inv X pins σ H s) (h:H p=some (.lst xs))
  (ho:s.heap.get? p=some { cls:=.type "list",data:=.seq its.toArray n }) (hf:f { cls:=.type "list",data:=.seq its.toArray n }={ cls:=.type "list",data:=.seq its'.toArray n' }) (r:Vals ys its') (hz:ys.length<=sizeLine) (t:Nat) :
  Inv X pins σ (upd H p (.lst ys)) { s with heap:=s.heap.update p f,toks:=t }:=by
 have e:(s.heap.update p f).get? p=some { cls:=.type "list",data:=.seq its'.toArray n' }:=by
  rw [Heap.get?_update_self f ho (by rw [hf] <;> rfl),hf]
 refine I.write (x:=p) (e:=p) (by rw [h];trivial) (.inl rfl) (fun b u hb q=>(Heap.get?_update_other _ _ (Ne.symm hb)).trans q) ⟨_,e⟩ ?_;exact ⟨hz,its',n',r,e⟩
noncomputable def Aek:V->V->V->Hp->(Hp->Prop)->Prop:=fun o i v H Q=>∃ p xs k j,o=.ref p/\i=.int k/\H p=some (.lst xs)/\ixN xs.length k=some j/\Q (upd H p (.lst (xs.set j v)))
theorem set_list:Ad0 X Aek:=by
 intro pins s σ H o i v ov iv u Q I ro ri rv h;obtain ⟨p,xs,k,j,rfl,rfl,hp,hj,q⟩:=h;cases ro;obtain ⟨t,rfl⟩:=ri;obtain ⟨its,n,r,ho,hz⟩:=I.lst hp;obtain ⟨h1,h2,h3,h4⟩:=Y5 hj;have hl:=r.length;have hn:=Jx;have I':Inv X pins σ (upd H p (.lst (xs.set j v))) { s with heap:=s.heap.update p (Obj.mapSeq (·.setIfInBounds j u)) } :=
  I.lstUpd hp ho (W2 its n j u) (r.set rv j) (by rw [List.length_set];exact hz) s.toks
 by_cases h0:0<=k
 ·have hk:k.toNat=j:=by
   rw [seqIndex_of h0 h4] at h1;exact Option.some.inj h1
  exact PySem.W.ki_setAt ho h0 (by omega) (by rw [List.size_toArray,← hl];exact h4) (by rw [hk];exact ⟨_,I',q⟩)
 ·have hk:(k+(its.toArray.size:Int)).toNat=j:=by
   rw [seqIndex_neg (by omega) h3] at h1;rw [List.size_toArray,← hl];exact Option.some.inj h1
  exact PySem.W.ki_setBack ho (by omega) (by rw [List.size_toArray,← hl];exact h3) (by omega) (by rw [hk];exact ⟨_,I',q⟩)
theorem Sh (lo hi:Option Int) (n:Nat):(sliceBounds lo hi none n).1=((HT.sIx n 0 lo:Nat):Int)/\(sliceBounds lo hi none n).2.1=((HT.sIx n n hi:Nat):Int)/\(sliceBounds lo hi none n).2.2=1:=by
 refine ⟨?_,?_,rfl⟩
 ·cases lo with
  | none=>simp [sliceBounds,HT.sIx]
  | some i =>
   simp only [sliceBounds,HT.sIx,Option.getD_none,show (1:Int) > 0 by decide,if_true]
   by_cases h:i < 0
   ·simp only [h,if_true] <;> omega
   ·simp only [h,if_false] <;> omega
 ·cases hi with
  | none=>simp [sliceBounds,HT.sIx]
  | some i =>
   simp only [sliceBounds,HT.sIx,Option.getD_none,show (1:Int) > 0 by decide,if_true]
   by_cases h:i < 0
   ·simp only [h,if_true] <;> omega
   ·simp only [h,if_false] <;> omega
theorem Qm (its:List Value) (lo hi:Option Int):slicePick its.toArray lo hi none=((its.drop (HT.sIx its.length 0 lo)).take (HT.sIx its.length its.length hi - HT.sIx its.length 0 lo)).toArray:=by
 obtain ⟨h1,h2,h3⟩:=Sh lo hi its.toArray.size;unfold slicePick;rw [h1,h2,h3];simp only [sliceRange_one,pick_run,List.size_toArray] <;> rfl
noncomputable def Agk (K:PySem.W.Frag):V->Option Int->Option Int->Hp->VK->Prop:=fun x lo hi H Q=>∃ a xs,x=.ref a/\SqL K H a xs/\∀ p,H p=none->Q (.ref p) (upd H p (.lst (Uv xs lo hi)))
theorem rT:SlR X (Agk X.K):=by
 intro pins s σ H x v vl vu lo hi sl Q I rx hs pl pu h;obtain ⟨a,xs,rfl,hx,q⟩:=h;cases rx;obtain ⟨its,r,ht,hz⟩:=I.list hx;have hlen:=r.length
 refine ⟨"list",_,slot_list_getitem.lookup,ht.isList.typeIs,?_⟩;refine wpAny_getItem_list_slice ht.isList hs pl pu .none (by simp) ?_ (by rw [List.size_toArray] <;> omega);rw [Qm,← hlen];refine ⟨.ref s.heap.objs.size,_,I.laid (t':=s.toks) (o:=.lst (Uv xs lo hi)) (fun b ob q=>Heap.get?_push_of_some _ q) (Nat.le_refl _) ?_,rfl,q _ (I.hok.fresh (Nat.le_refl _))⟩;exact ⟨Nat.le_trans (Mr xs lo hi) hz,_,0,(r.drop (HT.sIx xs.length 0 lo)).take (HT.sIx xs.length xs.length hi - HT.sIx xs.length 0 lo),Heap.get?_push_size _ rfl⟩
theorem Sq:Cd X (.builtin "len") (fun xs H Q=>∃ p ys,xs=[.ref p]/\(SqL X.K H p ys\/SqT X.K H p ys)/\Q (.int ys.length) H):=by
 intro pins s σ H xs us Q I r h;obtain ⟨p,ys,rfl,hq,q⟩:=h;obtain ⟨u,rfl,rx⟩:=vals1 r;cases rx;have hn:=Jx;rcases hq with hq|hq
 ·obtain ⟨its,r',pl,hz⟩:=I.list hq;have hlen:=r'.length;exact Calls.call_len_list pl.isList (by simp only [List.size_toArray] <;> omega) ⟨.int ys.length,H,I.tok _,⟨s.toks+1,by rw [List.size_toArray,hlen]⟩,q⟩
 ·obtain ⟨its,r',pl,hz⟩:=I.tuple hq;have hlen:=r'.length;exact len_tuple pl (by simp only [List.size_toArray] <;> omega) ⟨.int ys.length,H,I.tok _,⟨s.toks+1,by rw [List.size_toArray,hlen]⟩,q⟩
theorem Ss:Cd X (.builtin "len") (fun xs H Q=>∃ z,xs=[.str z]/\z.length<=sizeLine/\Q (.int z.length) H):=by
 intro pins s σ H xs us Q I r h;obtain ⟨z,rfl,hz,q⟩:=h;obtain ⟨u,rfl,t,rfl⟩:=vals1 r;have hn:=Jx;exact len_str (by omega) ⟨.int z.length,H,I.tok _,⟨_,rfl⟩,q⟩
theorem Cd.or {f:Value}{r r':List V->Hp->VK->Prop}(h:Cd X f r) (h':Cd X f r'):Cd X f (fun xs H Q=>r xs H Q\/r' xs H Q):=by
 intro pins s σ H xs us Q I rs q;rcases q with q|q
 ·exact h pins s σ H xs us Q I rs q
 ·exact h' pins s σ H xs us Q I rs q
theorem Sv:Cd X (.type "list") (fun xs H Q=>∃ p ys,xs=[.ref p]/\(SqL X.K H p ys\/SqT X.K H p ys)/\∀ l,H l=none->Q (.ref l) (upd H l (.lst ys))):=by
 intro pins s σ H xs us Q I r h;obtain ⟨p,ys,rfl,hq,q⟩:=h;obtain ⟨u,rfl,rx⟩:=vals1 r;cases rx;have fin:∀ (its:List Value),Vals ys its->ys.length<=sizeLine->∀ (h':Heap) (c':Nat),(∀ b o',s.heap.get? b=some o'->h'.get? b=some o') ->
   h'.get? s.heap.objs.size=some { cls:=.type "list",dict:=none,data:=.seq its.toArray c',slots:=#[] }->EP X pins σ Q (.ref s.heap.objs.size) { s with heap:=h' }:=fun its r' hz h' c' kp e =>
  ⟨.ref s.heap.objs.size,_,I.laid (t':=s.toks) kp (Nat.le_refl _) (show Fb X.prog X.w _ h' _ (.lst ys) from ⟨hz,its,c',r',e⟩),rfl,q _ (I.hok.fresh (Nat.le_refl _))⟩
 rcases hq with hq|hq
 ·obtain ⟨its,r',pl,hz⟩:=I.list hq;have hlen:=r'.length;obtain ⟨o,ho,hc,n,hd⟩:=pl.isList;exact call_list_seq p (.inl rfl) ho hc hd (fun h' c' kp e=>fin its r' hz h' c' kp e) (by simp only [List.size_toArray] <;> omega)
 ·obtain ⟨its,r',pl,hz⟩:=I.tuple hq;have hlen:=r'.length;obtain ⟨o,ho,hc,n,hd⟩:=pl;exact call_list_seq p (.inr rfl) ho hc hd (fun h' c' kp e=>fin its r' hz h' c' kp e) (by simp only [List.size_toArray] <;> omega)
theorem Qn:Cd X (.type "tuple") (fun xs H Q=>∃ p ys,xs=[.ref p]/\((SqL X.K H p ys/\∀ l,H l=none->Q (.ref l) (upd H l (.tup ys)))\/(SqT X.K H p ys/\Q (.ref p) H))):=by
 intro pins s σ H xs us Q I r h;obtain ⟨p,ys,rfl,h⟩:=h;obtain ⟨u,rfl,rx⟩:=vals1 r;cases rx;rcases h with ⟨hq,q⟩|⟨hq,q⟩
 ·obtain ⟨its,r',pl,hz⟩:=I.list hq;have hlen:=r'.length;refine call_tuple_list pl.isList (fun h' kp=>?_) (by simp only [List.size_toArray] <;> omega);have I1:Inv X pins σ H { s with heap:=h' }:=I.kept (t':=s.toks) kp
  have I2:Inv X pins σ (upd H h'.objs.size (.tup ys)) { s with heap:=h'.push { cls:=.type "tuple",data:=.seq its.toArray } } :=
   I1.laid (t':=s.toks) (fun b o e=>Heap.get?_push_of_some _ e) (Nat.le_refl _) (show Fb X.prog X.w _ _ _ (.tup ys) from ⟨hz,its,r',Ni.new _ _⟩)
  exact ⟨.ref h'.objs.size,_,I2,rfl,q _ (I1.hok.fresh (Nat.le_refl _))⟩
 ·obtain ⟨its,r',pl,hz⟩:=I.tuple hq;exact call_tuple_same pl ⟨.ref p,H,I,rfl,q⟩
noncomputable def tyV (K:PySem.W.Frag) (T:String) (x:V) (H:Hp):Prop:=match x with
 | .str _=>T = "str"
 | .int _=>T = "int"
 | .ref p=>(T = "list"/\∃ xs,SqL K H p xs)\/(T = "tuple"/\∃ xs,SqT K H p xs) \/
   (T = "dict"/\((∃ kvs,H p=some (.dK kvs))\/∃ kvs,H p=some (.dT kvs)))\/(T = "set"/\∃ S n,H p=some (.set S n))
 | _=>False
theorem fO {pins:List (Addr×Obj)}{σ:St}{H:Hp}{s:Shared}{T:String}{x:V}{v:Value}(I:Inv X pins σ H s) (r:RelV x v) (ty:tyV X.K T x H) :
  s.TypeIs v T/\∀ a,v=.ref a->∃ ob,s.heap.get? a=some ob/\ob.dict=none:=by
 cases x with
 | str z =>
  obtain ⟨t,rfl⟩:=r
  cases (show T = "str" from ty);exact ⟨typeIs_str s z t,fun _ e=>nomatch e⟩
 | int i =>
  obtain ⟨t,rfl⟩:=r
  cases (show T = "int" from ty);exact ⟨typeIs_int s i t,fun _ e=>nomatch e⟩
 | ref p =>
  cases r;rcases ty with ⟨rfl,xs,hq⟩|⟨rfl,xs,hq⟩|⟨rfl,hk⟩|⟨rfl,S,n,hk⟩
  ·obtain ⟨its,_,pl,_⟩:=I.list hq;refine ⟨pl.isList.typeIs,fun a e=>?_⟩;cases e;obtain ⟨o,n,e,c,hd,_⟩:=pl;exact ⟨o,e,hd⟩
  ·obtain ⟨its,_,⟨o,e,c,d,n,dd⟩,_⟩:=I.tupleP hq;refine ⟨⟨o,e,c⟩,fun a e2=>?_⟩;cases e2;exact ⟨o,e,d⟩
  ·have z:∃ o,s.heap.get? p=some o/\o.ExactDict:=by
    rcases hk with ⟨kvs,hk⟩|⟨kvs,hk⟩
    ·obtain ⟨_,_,_,_,o,_,_,e,ex,_⟩:=I.hok p _ hk;exact ⟨o,e,ex⟩
    ·obtain ⟨_,_,_,_,o,_,_,e,ex,_⟩:=I.hok p _ hk;exact ⟨o,e,ex⟩
   obtain ⟨o,e,ex⟩:=z;refine ⟨⟨o,e,ex.1⟩,fun a e2=>?_⟩;cases e2;exact ⟨o,e,ex.2.1⟩
  ·obtain ⟨o,_,_,_,e,ex,_⟩:=I.hok p _ hk;refine ⟨⟨o,e,ex.1⟩,fun a e2=>?_⟩;cases e2;exact ⟨o,e,ex.2.1⟩
 | _=>exact False.elim ty
noncomputable def Agl (K:PySem.W.Frag) (T:String) (r:V->List V->Hp->VK->Prop) (to:TE):TE:=fun σ H Q=>to σ H fun x H1=>tyV K T x H1/\r x [] H1 Q
noncomputable def tBM (K:PySem.W.Frag) (T:String) (r:V->List V->Hp->VK->Prop) (to:TE) (t:TA):TE:=fun σ H Q=>to σ H fun x H1=>tyV K T x H1/\t σ H1 fun xs H2=>r x xs H2 Q
variable {o e:Expr}{es:List Expr}{to:TE}{t:TA}{name:Str}{apos cpos:Pos}{T id:String}{r:V->List V->Hp->VK->Prop}
theorem zR (pa:PlainAttrs T) (slot:Slot T name id) (hty:typeOf (.builtin id)=pure (.type "method_descriptor")) (hm:MtR X id r) (ho:PE X o to)
  (hbase:attributeBase o name X.env (eval o X.env)=eval o X.env:=by rfl) (hline:(apos.endLine==cpos.line)=true:=by rfl):PE X (.Call (.Attribute o name apos) [] [] cpos) (Agl X.K T r to):=by
 intro pins s σ H Q I h;refine wpAny_Call_method0_late hbase hline (thn (ho pins s σ H _ I h) ?_);rintro v s1 ⟨x,H1,I1,r1,ty,q1⟩;obtain ⟨h1,h2⟩:=fO I1 r1 ty;exact ⟨T,id,pa,slot,hty,h1,h2,Calls.callWith_builtin rfl (PySem.evalArgs_none (hm pins s1 σ H1 x [] v [] Q I1 r1 .nil q1))⟩
theorem Ael (pa:PlainAttrs T) (slot:Slot T name id) (hty:typeOf (.builtin id)=pure (.type "method_descriptor")) (hm:MtR X id r) (ho:PE X o to) (ha:PA X (e::es) t)
  (hbase:attributeBase o name X.env (eval o X.env)=eval o X.env:=by rfl)
  (hfew:((backTo cpos (starEach (e::es) X.env)).all (fun x=>!x.1)&&(backToKw cpos (keywordEach [] X.env)).all (fun x=>x.1.isSome)
   && decide ((e::es).length+([]:List Keyword).length+(if ([]:List Keyword).isEmpty then 0 else 1) < 30))=true:=by rfl)
  (hline:(apos.endLine==cpos.line)=true:=by rfl) (hs:starEach (e::es) X.env=(false,eval e X.env)::starEach es X.env:=by rfl) (hplain:(backTo cpos (starEach es X.env)).any (·.1)=false:=by rfl) :
  PE X (.Call (.Attribute o name apos) (e::es) [] cpos) (tBM X.K T r to t):=by
 intro pins s σ H Q I h;refine wpAny_Call_method_late hbase hfew hline rfl (thn (ho pins s σ H _ I h) ?_);rintro v s1 ⟨x,H1,I1,r1,ty,q1⟩;obtain ⟨h1,h2⟩:=fO I1 r1 ty;refine ⟨T,id,pa,slot,hty,h1,h2,?_⟩;have hA:=ha cpos pins s1 σ H1 _ I1 q1;rw [hs] at hA ⊢;refine Calls.callWith_builtin (by show (false || (backTo cpos (starEach es X.env)).any (·.1))=false;rw [hplain] <;> rfl) (Calls.evalArgs_plain ?_);refine thn hA ?_;rintro us s2 ⟨vs,H2,I2,r2,q2⟩;exact hm pins s2 σ H2 x vs v us Q I2 r1 r2 q2
end
noncomputable def MtM (X:Cx) (id:String) (r:V->List V->Hp->VK->Prop):Prop :=
 ∀ (pins:List (Addr×Obj)) (s:Shared) (σ:St) (H:Hp) (x:V) (xs:List V) (v:Value) (us:List Value) (Q:VK),Inv X pins σ H s->RelV x v->Vals xs us->r x xs H Q ->
  wpAny (model X.prog X.w) X.A (call (.builtin id) (v::us)) (EP X pins σ Q) X.xe s
theorem Vals.one {x:V}{us:List Value}(h:Vals [x] us):∃ u,us=[u]/\RelV x u:=by
 cases h with
 | cons r t=>cases t;exact ⟨_,rfl,r⟩
theorem Vals.two {x y:V}{us:List Value}(h:Vals [x,y] us):∃ u v,us=[u,v]/\RelV x u/\RelV y v:=by
 cases h with
 | cons r t =>
  obtain ⟨v,e,q⟩:=Vals.one t;subst e;exact ⟨_,_,rfl,r,q⟩
theorem Vals.zero:∀ {us:List Value},Vals [] us->us=[]
 | _,.nil=>rfl
theorem Vals.dropLast {xs:List V}{us:List Value}(h:Vals xs us):Vals xs.dropLast us.dropLast:=by
 induction h with
 | nil=>exact .nil
 | cons r t ih =>
  cases t with
  | nil=>exact .nil
  | cons q t'=>exact .cons r ih
theorem Vals.rep {xs:List V}{us:List Value}(h:Vals xs us):∀ k:Nat,Vals (List.replicate k xs).flatten (List.replicate k us).flatten
 | 0=>.nil
 | k+1=>by
  rw [List.replicate_succ,List.replicate_succ,List.flatten_cons,List.flatten_cons];exact Vals.append h (Vals.rep h k)
theorem W3 {α:Type}(l:List α):l.eraseIdx (l.length - 1)=l.dropLast:=by
 induction l with
 | nil=>rfl
 | cons a r ih =>
  cases r with
  | nil=>rfl
  | cons b r =>
   have e:(a::b::r).length - 1=((b::r).length - 1)+1:=by
    have h1:(a::b::r).length=r.length+2:=rfl;have h2:(b::r).length=r.length+1:=rfl;omega
   rw [e,List.eraseIdx_cons_succ,ih]
   all_goals rfl
theorem foldl_rep (its:List Value):∀ (k:Nat) (acc:List Value),
  List.foldl (fun x1 x2=>x1++x2) acc.toArray (List.replicate k its.toArray)=(acc++(List.replicate k its).flatten).toArray
 | 0,acc=>by simp
 | k+1,acc=>by
  have e:acc.toArray++its.toArray=(acc++its).toArray:=by simp
  have e2:(acc++its)++(List.replicate k its).flatten=acc++(List.replicate (k+1) its).flatten:=by
   rw [List.replicate_succ,List.flatten_cons,List.append_assoc]
  rw [← e2,← foldl_rep its k (acc++its),← e,List.replicate_succ,List.foldl_cons]
section
variable {X:Cx}{pins:List (Addr×Obj)}{σ:St}{H:Hp}{s:Shared}{l b:Addr}{xs ys zs:List V}
theorem Inv.lset {its its':List Value}{n:Nat}{f:Array Value->Array Value}{t':Nat}(I:Inv X pins σ H s) (hH:H l=some (.lst xs))
  (e:s.heap.get? l=some { cls:=.type "list",data:=.seq its.toArray n }) (hf:f its.toArray=its'.toArray) (hv:Vals ys its') (hz:ys.length<=sizeLine) :
  Inv X pins σ (upd H l (.lst ys)) { s with heap:=s.heap.update l (Obj.mapSeq f),toks:=t' }:=by
 have q:=PySem.IsL.update e f;rw [hf] at q;refine I.write (x:=l) (e:=l) (by rw [hH];exact trivial) (.inl rfl) (fun b' u hb hu=>(Heap.get?_update_other s.heap (Obj.mapSeq f) (Ne.symm hb)).trans hu) ⟨_,q⟩ ?_;exact ⟨hz,its',_,hv,q⟩
theorem Inv.lnew {its:List Value}{t':Nat}(I:Inv X pins σ H s) (hv:Vals ys its) (hz:ys.length<=sizeLine) :
  Inv X pins σ (upd H s.heap.objs.size (.lst ys)) { s with heap:=s.heap.push { cls:=.type "list",data:=.seq its.toArray },toks:=t' } :=
 I.laid (fun _ _ q=>Heap.get?_push_of_some _ q) (Nat.le_refl _) ⟨hz,its,0,hv,Heap.get?_push_size _ rfl⟩
theorem Inv.fresh (I:Inv X pins σ H s):H s.heap.objs.size=none:=I.hok.fresh (Nat.le_refl _)
theorem Inv.lstM (I:Inv X pins σ H s) (hH:H l=some (.lst xs)):xs.length<=sizeLine/\∃ (its:List Value) (n:Nat),Vals xs its/\xs.length=its.length/\s.heap.get? l=some { cls:=.type "list",data:=.seq its.toArray n }:=by
 obtain ⟨z,its,n,r,e⟩:=I.hok l _ hH;exact ⟨z,its,n,r,r.length,e⟩
theorem fP {n:Nat}(h:n<=sizeLine):Builtin.List.listTooLong n=false:=by
 unfold Builtin.List.listTooLong;exact decide_eq_false (by omega)
end
section
variable {X:Cx}
noncomputable def rW:V->List V->Hp->VK->Prop:=fun x vs H Q=>∃ l xs y,x=.ref l/\vs=[y]/\H l=some (.lst xs)/\xs.length < sizeLine/\Q .non (upd H l (.lst (xs++[y])))
theorem bI:MtM X "list.append" rW:=by
 intro pins s σ H x vs v us Q I rx rv h;obtain ⟨l,xs,y,rfl,rfl,hH,hz,q⟩:=h;cases rx;obtain ⟨u,rfl,ru⟩:=rv.one;obtain ⟨z,its,n,r,hl,e⟩:=I.lstM hH;refine call_meets F.slot_list_append ⟨_,e,rfl⟩ F.entry_list_append (F.args_list_append_2 _ _) (PySem.list_append l its.toArray n u (by rw [List.size_toArray];omega)) ⟨e,?_⟩;refine ⟨.non,_,I.lset (its':=its++[u]) hH e (by simp) (r.append (.cons ru .nil)) ?_,rfl,q⟩;rw [List.length_append,List.length_singleton];omega
noncomputable def Agm:V->List V->Hp->VK->Prop:=fun x vs H Q=>∃ l xs y,x=.ref l/\vs=[]/\H l=some (.lst xs)/\xs[xs.length - 1]?=some y/\Q y (upd H l (.lst xs.dropLast))
theorem zT:MtM X "list.pop" Agm:=by
 intro pins s σ H x vs v us Q I rx rv h;obtain ⟨l,xs,y,rfl,rfl,hH,hy,q⟩:=h;cases rx;have hus:=rv.zero;subst hus;obtain ⟨z,its,n,r,hl,e⟩:=I.lstM hH;obtain ⟨u,hu,ru⟩:=r.get hy;have hy':its.toArray[its.toArray.size - 1]?=some u:=by
  show its.toArray[its.length - 1]?=some u;rw [← Array.getElem?_toList,← hl];exact hu
 refine call_meets F.slot_list_pop ⟨_,e,rfl⟩ F.entry_list_pop (F.args_list_pop_1 _) (MeetsSeq.list_pop_last l its.toArray n u hy' (by rw [List.size_toArray];omega)) ⟨e,?_⟩;refine ⟨y,_,I.lset (its':=its.dropLast) hH e ?_ r.dropLast ?_,ru,q⟩
 ·show its.toArray.eraseIdxIfInBounds (its.toArray.size - 1)=its.dropLast.toArray;rw [List.size_toArray,List.eraseIdxIfInBounds_toArray,W3]
 ·rw [List.length_dropLast];omega
noncomputable def Agn:R2:=fun x y H Q=>∃ l b xs zs,x=.ref l/\y=.ref b/\H l=some (.lst xs)/\H b=some (.lst zs)/\xs.length+zs.length<=sizeLine/\∀ p,H p=none->Q (.ref p) (upd H p (.lst (xs++zs)))
theorem zU:OpR X (binaryOp .Add) Agn:=by
 intro pins s σ H x y v u Q I rx ry h;obtain ⟨l,b,xs,zs,rfl,rfl,hH,hB,hz,q⟩:=h;cases rx;cases ry;obtain ⟨z,its,n,r,hl,e⟩:=I.lstM hH;obtain ⟨z2,its2,n2,r2,hl2,e2⟩:=I.lstM hB;refine PySem.P.add_list e e2 ?_ (by rw [List.size_toArray,List.size_toArray];omega);have ea:its.toArray++its2.toArray=(its++its2).toArray:=by simp
 rw [ea];exact ⟨.ref _,_,I.lnew (t':=s.toks) (r.append r2) (by rw [List.length_append];omega),rfl,q _ I.fresh⟩
noncomputable def Ago:R2:=fun x y H Q=>∃ l k xs,x=.ref l/\y=.int k/\H l=some (.lst xs)/\-(2 ^ 63)<=k/\k < 2 ^ 63/\xs.length * k.toNat<=sizeLine /\
 ∀ p,H p=none->Q (.ref p) (upd H p (.lst (List.replicate k.toNat xs).flatten))
theorem len_rep {α:Type}(xs:List α) (k:Nat):(List.replicate k xs).flatten.length=k * xs.length:=by
 induction k with
 | zero=>simp
 | succ k ih=>rw [List.replicate_succ,List.flatten_cons,List.length_append,ih,Nat.succ_mul,Nat.add_comm]
theorem zV:OpR X (binaryOp .Mult) Ago:=by
 intro pins s σ H x y v u Q I rx ry h;obtain ⟨l,k,xs,rfl,rfl,hH,h1,h2,hz,q⟩:=h;cases rx;obtain ⟨t,rfl⟩:=ry;obtain ⟨z,its,n,r,hl,e⟩:=I.lstM hH;have hlen:its.toArray.size * k.toNat<=sizeLine:=by rw [List.size_toArray,← hl];exact hz
 have hcap:¬ its.toArray.size * k.toNat > (2 ^ 63 - 1) / 8:=by
  have:(sizeLine:Nat)<=(2 ^ 63 - 1) / 8:=by decide
  omega
 have hfit:¬ (!Builtin.List.listFitsIndex k)=true:=by
  rw [fitsIndex_both h1 h2];exact Bool.false_ne_true
 have hlong:¬ Builtin.List.listTooLong (its.toArray.size * k.toNat)=true:=by
  rw [fP hlen];exact Bool.false_ne_true
 have hnew:List.foldl (fun x1 x2=>x1++x2) #[] (List.replicate (if its.toArray.isEmpty=true then 0 else k.toNat) its.toArray)=(List.replicate k.toNat its).flatten.toArray:=by
  have f0:∀ m:Nat,List.foldl (fun x1 x2=>x1++x2) #[] (List.replicate m its.toArray)=(List.replicate m its).flatten.toArray:=fun m=>by
   have:=foldl_rep its m [];rw [List.nil_append] at this;exact this
  rw [f0];cases its with
  | nil=>simp
  | cons a r'=>rw [if_neg (by simp)]
 refine wpAny_binaryOp_repeat_ref (T := "list") (U := "int") (by decide) ⟨_,e,rfl⟩ (fun s'=>typeIs_int s' k t) noFill_list_mul F.fills_int_mul F.slot_int_rmul repeat_list F.slot_int_index.lookup
  (call_meets F.slot_int_rmul (typeIs_int s k t) F.entry_int_rmul (F.args_int_rmul_2 _ _) (int___rmul___int_list k t l its.toArray n)
   ⟨e,rfl,⟨_,e,rfl⟩,call_meets F.slot_list_mul ⟨_,e,rfl⟩ F.entry_list_mul (F.args_list_mul_2 _ _) (AutoListH.list___mul___list_int_3 l its.toArray n k t hfit hcap hlong) ⟨e,?_⟩⟩)
 rw [hnew];exact ⟨.ref _,_,I.lnew (t':=s.toks) (r.rep k.toNat) (by rw [len_rep,Nat.mul_comm];exact hz),rfl,q _ I.fresh⟩
end
section
variable {prog:Program}{w:World}{A:Around}{E:Value->Shared->Prop}{s:Shared}
end
section
variable {X:Cx}
end
end L2
namespace Att
open PySem PySem.W PySem.Calls PyProof.Rows
theorem Nj {P:Params}{h:Heap}:∀ (ns:List Int) (vs:List Value),WellAll P h vs (ns.map WData.int)->IntsAre vs ns:=by
 intro ns
 induction ns with
 | nil =>
  intro vs w;rw [List.map_nil] at w;cases w;exact .nil
 | cons n ns ih =>
  intro vs w;rw [List.map_cons] at w;cases w with
  | cons a b =>
   cases a;exact .cons _ _ (ih _ b)
theorem bJ {l:OpenLaw}{n:Nat}(hn:l.most=some n) {P:Params}{h:Heap}{args:List WData}{vals:List Value}
  (hpre:l.row.toRowW.claim.pre args=true) (hwl:WellAll P h vals args) :
  ∃ a vs ns,vals=[Value.ref a]/\args=[WData.list (ns.map WData.int)]/\h.get? a=some { cls:=.type "list",data:=.seq vs.toArray }/\IntsAre vs ns/\ns.length<=n:=by
 have hsh:WShape.hasAll [] args [.list .int]=true:=(pre_splitW hpre).1;have hc:l.pre.holds [] { args:=args }=true:=(pre_splitW hpre).2;obtain ⟨d,r,rfl,h1,h2⟩:=hasAllW_cons hsh;obtain rfl:=hasAllW_nil h2;obtain ⟨xs,rfl,h3⟩:=hasW_list h1;obtain ⟨ns,rfl⟩:=items_int h3;have hlen:ns.length<=n:=by
  unfold OpenLaw.pre at hc;have h4:(WTm.not (.lt (.lit (.int (n:Int))) (.len (.arg 0)))).holds [] { args:=[.list (ns.map .int)] }=true:=by
   have h4:=(holds_andW hc).1;rw [hn] at h4;exact h4
  have h5:=condW_of h4 (w_not (w_lt w_lit (w_len_list (w_arg rfl))));rw [List.length_map] at h5;refine Nat.le_of_not_lt fun q=>?_
  have q':(n:Int) < ((ns.length:Nat):Int):=by omega
  first
   | (rw [decide_eq_true q'] at h5;exact absurd h5 (by decide))
   | (simp at h5;omega)
 cases hwl with
 | cons w1 w2 =>
  cases w2;cases w1 with
  | list ho hall=>exact ⟨_,_,ns,rfl,rfl,ho,Nj ns _ hall,hlen⟩
theorem bK (l:OpenLaw) (args:List WData):l.row.toRowW.claim.post args (.bool true) args=true :=
 postW_of (r:=l.row.toRowW) (X:=(true==true))
  (show WShape.has [] (.bool true) .bool=true by first | rfl | decide | simp [WShape.has,WShape.arms,WShape.armsAll])
  (show (WTm.eq .res (.lit (.bool true))).value [] { args:=args,res:=some (.bool true),after:=args }=some (.bool (true==true)) from w_eq_bool (w_res rfl) w_lit) rfl
theorem attach_call {l:OpenLaw}{n:Nat}{q:Program}{loose:List Str}{XP:(Str->Option Value)->Heap->Prop}{YP:World->Heap->Prop}{d:DefRec}
  (hn:l.most=some n) (hdf:d.params.defaults=[])
  (call:∀ (w:World) (s₀ s₁:Shared) (mg mb:Str->Option Value) (fa:Addr) (o:Obj) (pm cd doc:Value) (a:Addr) (vs:List Value) (ns:List Int),
   Ground q loose [] XP w s₀ mg mb s₁.heap->YP w s₁.heap ->
   s₁.heap.get? fa=some o->o.data=.func (docDef d.name d.params d.body d.scope pm cd doc)->s₁.heap.CodeRec cd d.name->mg d.name=some (.ref fa) ->
   s₁.heap.get? a=some { cls:=.type "list",data:=.seq vs.toArray }->IntsAre vs ns->ns.length<=n->s₁.gens=#[] ->
   codeAny (model l.prog w) callerA (.call (.ref fa) ⟨[.ref a],[]⟩) (fun r s'=>r=.ok (.ret (.bool true))/\OldK s₁.heap s'.heap/\s'.os=s₁.os/\AllBare s'.gens) s₁) :
  WalkO q loose XP YP l.row.toRowW d [] (fun f vs=>PySem.call f vs):=by
 intro w s₀ s₁ mg mb G Y fa o pm cd doc dV kV ho hd hcd hD hmg hg args vals as hpre hlay hrd hwl hlo;obtain rfl:dV=.none:=Dflts.none hD hdf;obtain rfl:kV=.none:=Dflts.noKw hD;obtain ⟨a,vs,ns,rfl,rfl,hobj,hints,hlen⟩:=bJ hn hpre hwl;refine enter_call (codeAny_mono (call w s₀ s₁ mg mb fa o pm cd doc a vs ns G Y ho (fd_plain hd) hcd hmg hobj hints hlen hg) fun r s' hq=>?_);obtain ⟨rfl,h2,h3,h4⟩:=hq;exact ⟨.inl ⟨.bool true,.bool true,[],rfl,fun _=>rfl,.bool true,bK l _,fun _=>⟨List.Pairwise.nil,fun _ hm=>(nomatch hm)⟩⟩,h2,h3,h4⟩
section
variable {prog:Program}{w:World}{A:Around}{E:Value->Shared->Prop}{s:Shared}{K:Frag}
end
end Att
namespace L2
open PySem PySem.Spec PyProof.Rows
theorem Fe:∀ {vs:List Value}{ns:List Int},IntsAre vs ns->Vals (ns.map V.int) vs
 | _,_,.nil=>.nil
 | _,_,.cons n t h=>.cons ⟨t,rfl⟩ (Fe h)
noncomputable def Dg (s:Stmt):Arguments:=match s with
 | .FunctionDef _ a _ _ _ _ _ _ _ _=>a
 | _=>{ posonlyargs:=[],args:=[],vararg:=none,kwonlyargs:=[],kw_defaults:=[],kwarg:=none,defaults:=[] }
noncomputable def Br (s:Stmt):List Stmt:=match s with
 | .FunctionDef _ _ b _ _ _ _ _ _ _=>b
 | _=>[]
noncomputable def Ag (s:Stmt):Scope:=match s with
 | .FunctionDef _ _ _ _ _ _ sc _ _ _=>sc
 | _=>{ kind:=.function,names:=[],isGenerator:=false,isCoroutine:=false }
noncomputable abbrev CX0:CXT:=fun _ _ _ _ _ _=>False
noncomputable abbrev E0:XK:=fun _ _ _=>False
theorem Oo {X:Cx}:Cm CX0 X E0:=fun _ _ _ _ _ _ _ h=>h.elim
structure Fun (K:PySem.W.Frag) (x qual:Str) (st:Stmt) (f:Addr) (fd:FuncData):Prop where
 ex:∃ (oc:Value) (od:Option Addr) (kV doc pm:Value) (an:Option Addr) (cdv ct:Value) (osl:Array (Option Value)),
  fd=PySem.W.fnOf x qual (Dg st) (Br st) (Ag st) .none kV doc pm an cdv ct/\K.lookup f=some ⟨oc,od,.func fd,osl⟩/\PySem.W.codeIn K cdv qual=true
 kp:PySem.W.keepIn K (.ref f)=true
section
variable {P:Program}{w:World}{K:PySem.W.Frag}{mg:Str->Option Value}{base:Heap}
theorem Fun.ok {x qual:Str}{st:Stmt}{f:Addr}{fd:FuncData}{N ps:List Str}{k:Nat}{sp:Sp}(F:Fun K x qual st f fd) (S:FnScope N ps (Ag st)) (len:∀ vs H Q E,sp vs H Q E->vs.length=ps.length)
  (hbody:∀ (cdv:Value) (A:Around) (outer:List Env) (s:Shared) (H:Hp) (vs:List V) (Q:VK) (E:XK),Room k (A.deeper (envOfC qual (Ag st) s.heap.objs.size f cdv))->sp vs H Q E ->
   ∃ t,PSs (Jz CX0 P w K mg base N qual (Ag st) f cdv A outer s H E).nox (Br st) t/\t { nx:=fun _ H'=>Q .non H',rt:=Q } (start N vs) H):FnOk P w K mg base CX0 (k+1) f fd ps sp:=by
 obtain ⟨oc,od,kV,doc,pm,an,cdv,ct,osl,rfl,lk,hcd⟩:=F.ex;refine wM lk hcd S len fun A outer s H vs Q E hr hsp=>?_
 obtain ⟨t,h,q⟩:=hbody cdv A outer s H vs Q E hr hsp;exact ⟨t,h.nox,q⟩
theorem W4 {x qual:Str}{st:Stmt}{f:Addr}{oc:Value}{od an:Option Addr}{osl:Array (Option Value)}{kV doc pm cdv ct:Value}(l:K.lookup f=some ⟨oc,od,.func (PySem.W.fnOf x qual (Dg st) (Br st) (Ag st) .none kV doc pm an cdv ct),osl⟩)
  (c:PySem.W.codeIn K cdv qual=true) (k:PySem.W.keepIn K (.ref f)=true):Fun K x qual st f (PySem.W.fnOf x qual (Dg st) (Br st) (Ag st) .none kV doc pm an cdv ct):=⟨⟨oc,od,kV,doc,pm,an,cdv,ct,osl,rfl,l,c⟩,k⟩
end
section
variable {X:Cx}
end
theorem Sw {A B:Prop}(h:B):if false=true then A else B:=by
 rw [if_neg Bool.false_ne_true];exact h
theorem Sx {A B:Prop}(h:A):if true=true then A else B:=by
 rw [if_pos rfl];exact h
section
variable {κ:Type} [DecidableEq κ]
end
section
variable {P:Program}{w:World}{H:Hp}{h:Heap}{a:Addr}
end
section
variable {X:Cx}{pins:List (Addr×Obj)}{σ:St}{H:Hp}{s:Shared}{a:Addr}{y v:V}{u r:Value}{o:Option V}{A:Around}{E:Value->Shared->Prop}
end
section
variable {X:Cx}{pins:List (Addr×Obj)}{σ:St}{H:Hp}{s:Shared}{a:Addr}{kvs:List (Key×V)}{k:Key}{u:Value}{A:Around}{E:Value->Shared->Prop}
end
section
variable {X:Cx}{o i e value:Expr}{pos pos' tpos:Pos}{td ty tv:TE}
end
section
variable {X:Cx}{pos:Pos}
end
section
variable {X:Cx}{pins:List (Addr×Obj)}{σ:St}{H:Hp}{s:Shared}{a:Addr}{y d:V}{u r:Value}{o:Option V}{A:Around}{E:Value->Shared->Prop}
end
section
variable {X:Cx}{o e f:Expr}{apos cpos:Pos}{td ty tx:TE}
end
section
variable {X:Cx}{pins:List (Addr×Obj)}{σ:St}{H:Hp}{s:Shared}{a:Addr}{kvs:List (Key×V)}{A:Around}{E:Value->Shared->Prop}
end
section
variable {X:Cx}{pins:List (Addr×Obj)}{σ:St}{H:Hp}{s:Shared}{a:Addr}{y:V}{u:Value}{A:Around}{E:Value->Shared->Prop}
end
theorem Oq {α β:Type}(g:α->β->β):∀ (l:List α) (f:α->β->Sem (ForInStep β)) (c:β),(∀ x∈l,∀ c,f x c=pure (.yield (g x c)))->forIn l c f=pure (l.foldl (fun c x=>g x c) c)
 | [],f,c,_=>by rw [List.forIn_nil];rfl
 | x::r,f,c,h=>by
  rw [List.forIn_cons,h x List.mem_cons_self];show (forIn r (g x c) f)=_;rw [Oq g r f (g x c) fun y hy=>h y (List.mem_cons_of_mem _ hy)];rfl
noncomputable def Hy (env:Env) (x:Str×NameKind) (cs:List (Str×Addr)):List (Str×Addr):=if x.2==.free then (x.1,(env.cells.lookup x.1).getD 0)::cs else cs
noncomputable def Dd (env:Env) (names:List (Str×NameKind)):List (Str×Addr):=names.foldl (fun c x=>Hy env x c) []
theorem Gq {scope:Scope}{env:Env}(h:∀ x∈scope.names,x.2=.free->∃ c,env.cells.lookup x.1=some c):closureFor scope env=pure (Dd env scope.names):=by
 unfold closureFor Dd;dsimp only;rw [Oq (Hy env)]
 ·rfl
 ·intro x hx c;obtain ⟨n,k⟩:=x;dsimp only;unfold Hy
  by_cases e:(k==NameKind.free)=true
  ·obtain ⟨a,ha⟩:=h _ hx (beq_iff_eq.mp e);have ha':List.lookup n env.cells=some a:=ha;dsimp only;rw [if_pos e,if_pos e];unfold cellOf;rw [ha'];rfl
  ·dsimp only;rw [if_neg e,if_neg e]
theorem Hi {env:Env}:∀ (names:List (Str×NameKind)) (acc:List (Str×Addr)) (x:Str) (c:Addr),(x,c)∈names.foldl (fun c x=>Hy env x c) acc->(x,c)∈acc\/((x,NameKind.free)∈names/\c=(env.cells.lookup x).getD 0)
 | [],acc,x,c,h=>.inl h
 | (n,k)::r,acc,x,c,h=>by
  rcases Hi r _ x c h with q|⟨q1,q2⟩
  ·unfold Hy at q;dsimp only at q;split at q
   ·rename_i e;have e:=beq_iff_eq.mp e;rcases List.mem_cons.mp q with q|q
    ·cases q;exact .inr ⟨by rw [e];exact List.mem_cons_self,rfl⟩
    ·exact .inl q
   ·exact .inl q
  ·exact .inr ⟨List.mem_cons_of_mem _ q1,q2⟩
theorem Ot {env:Env}:∀ (names:List (Str×NameKind)) (acc:List (Str×Addr)) (x:Str),(acc.lookup x).isSome=true\/(x,NameKind.free)∈names->((names.foldl (fun c x=>Hy env x c) acc).lookup x).isSome=true
 | [],acc,x,h=>by
  rcases h with h|h
  ·exact h
  ·exact absurd h (by simp)
 | (n,k)::r,acc,x,h=>by
  refine Ot r _ x ?_;unfold Hy;rcases h with h|h
  ·left;dsimp only;split
   ·rw [List.lookup_cons];split
    ·rfl
    ·exact h
   ·exact h
  ·rcases List.mem_cons.mp h with h|h
   ·cases h;left;dsimp only;rw [if_pos (by rfl),List.lookup_cons];simp
   ·exact .inr h
theorem Sy {env:Env}{names:List (Str×NameKind)}{x:Str}{c:Addr}(h:(Dd env names).lookup x=some c):(x,NameKind.free)∈names/\c=(env.cells.lookup x).getD 0:=by
 rcases Hi names [] x c (PySem.mem_of_lookup h) with q|q
 ·exact absurd q (by simp)
 ·exact q
theorem Li {env:Env}{names:List (Str×NameKind)}{x:Str}(h:(x,NameKind.free)∈names):(Dd env names).lookup x=some ((env.cells.lookup x).getD 0):=by
 obtain ⟨c,e⟩:=Option.isSome_iff_exists.mp (Ot (env:=env) names [] x (.inr h));rw [show Dd env names=names.foldl (fun c x=>Hy env x c) [] from rfl,e,(Sy e).2]
theorem Ej:∀ (names:List (Str×NameKind)) (n:Nat) (acc:List (Str×Addr)) (x:Str) (c:Addr),(x,c)∈cellsFrom n names acc->(x,c)∈acc\/(n<=c/\(x,NameKind.cell)∈names)
 | [],_,_,_,_,h=>.inl h
 | (y,k)::r,n,acc,x,c,h=>by
  unfold cellsFrom at h;split at h
  ·rename_i e;have e:=beq_iff_eq.mp e;rcases Ej r (n+1) _ x c h with q|⟨q1,q2⟩
   ·rcases List.mem_cons.mp q with q|q
    ·cases q;exact .inr ⟨Nat.le_refl _,by rw [e];exact List.mem_cons_self⟩
    ·exact .inl q
   ·exact .inr ⟨by omega,List.mem_cons_of_mem _ q2⟩
  ·rcases Ej r n acc x c h with q|⟨q1,q2⟩
   ·exact .inl q
   ·exact .inr ⟨q1,List.mem_cons_of_mem _ q2⟩
theorem Ek:∀ (names:List (Str×NameKind)) (n lo:Nat) (acc:List (Str×Addr)) (x:Str) (c:Addr),lo<=n->((x,NameKind.cell)∈names\/∀ c',acc.lookup x=some c'->lo<=c')->(cellsFrom n names acc).lookup x=some c->lo<=c
 | [],_,_,acc,x,c,_,h,e=>by
  rcases h with h|h
  ·exact absurd h (by simp)
  ·exact h c e
 | (y,k)::r,n,lo,acc,x,c,hl,h,e=>by
  unfold cellsFrom at e;split at e
  ·rename_i ek;refine Ek r (n+1) lo _ x c (by omega) ?_ e;rcases h with h|h
   ·rcases List.mem_cons.mp h with h|h
    ·cases h;right;intro c' hc;rw [List.lookup_cons] at hc;rw [beq_self_eq_true] at hc;cases hc;exact hl
    ·exact .inl h
   ·right;intro c' hc;rw [List.lookup_cons] at hc;split at hc
    ·cases hc;omega
    ·exact h c' hc
  ·rename_i ek;refine Ek r n lo acc x c hl ?_ e;rcases h with h|h
   ·rcases List.mem_cons.mp h with h|h
    ·cases h;exact absurd rfl ek
    ·exact .inl h
   ·exact .inr h
theorem Gr:∀ (names:List (Str×NameKind)) (n:Nat) (acc:List (Str×Addr)),(∀ x y c,(x,c)∈acc->(y,c)∈acc->x=y)->(∀ x c,(x,c)∈acc->c < n) ->
  ∀ x y c,(x,c)∈cellsFrom n names acc->(y,c)∈cellsFrom n names acc->x=y
 | [],_,_,h,_=>h
 | (z,k)::r,n,acc,h,hb=>by
  unfold cellsFrom;split
  ·refine Gr r (n+1) _ (fun x y c hx hy=>?_) fun x c hx=>?_
   ·rcases List.mem_cons.mp hx with hx | hx <;> rcases List.mem_cons.mp hy with hy|hy
    ·cases hx;cases hy;rfl
    ·cases hx;exact absurd (hb _ _ hy) (Nat.lt_irrefl _)
    ·cases hy;exact absurd (hb _ _ hx) (Nat.lt_irrefl _)
    ·exact h x y c hx hy
   ·rcases List.mem_cons.mp hx with hx|hx
    ·cases hx;exact Nat.lt_succ_self _
    ·exact Nat.lt_succ_of_lt (hb x c hx)
  ·exact Gr r n acc h hb
theorem Fg:∀ (names:List (Str×NameKind)) (h:Heap) (acc:List (Str×Addr)) (x:Str) (c:Addr),(∀ x c,(x,c)∈acc->∃ v,h.IsCell c v)->(x,c)∈cellsFrom h.objs.size names acc->∃ v,(pushCells h names).IsCell c v
 | [],h,acc,x,c,hb,e=>hb x c e
 | (y,k)::r,h,acc,x,c,hb,e=>by
  unfold cellsFrom at e;unfold pushCells;split at e
  ·rename_i ek;rw [if_pos ek];refine Fg r _ ((y,h.objs.size)::acc) x c (fun x c hx=>?_) (by rw [Heap.size_push];exact e);rcases List.mem_cons.mp hx with hx|hx
   ·cases hx;exact ⟨none,_,Heap.get?_push_size _ rfl,rfl⟩
   ·obtain ⟨v,q⟩:=hb x c hx;exact ⟨v,q.keeps fun b o e=>Heap.get?_push_of_some _ e⟩
  ·rename_i ek;rw [if_neg ek];exact Fg r h acc x c hb e
theorem Fi:∀ (names:List (Str×NameKind)) (h:Heap),h.objs.size<=(pushCells h names).objs.size
 | [],h=>Nat.le_refl _
 | (y,k)::r,h=>by
  unfold pushCells;split
  ·refine Nat.le_trans ?_ (Fi r _);rw [Heap.size_push];omega
  ·exact Fi r h
theorem Uw {M:Model}{A:Around}{E:Value->Shared->Prop}{s:Shared}{scope:Scope}{globals:Addr}{cl:List (Str×Addr)}{qual:Str}{env:Env}{Q:Env->Shared->Prop}
  (hQ:Q (newEnv scope s.heap.objs.size globals (cellsFrom (s.heap.objs.size+1) scope.names cl) qual none .none (some env) builtinsNs) { s with heap:=pushCells (s.heap.push { cls:=.type "dict",data:=.dict #[] }) scope.names }) :
  wpAny M A (newFunctionEnv scope globals cl [] qual none .none (some env)) Q E s:=by
 simp only [newFunctionEnv,Option.isSome_some,if_true];refine wpAny_bind (wpAny_alloc ?_);refine wpAny_bind (wpAny_layCells _ (fun name kind cells=>by cases hkc:kind==NameKind.cell <;> simp [hkc]) _ _ _ _ ?_)
 rw [show ({ s with heap:=s.heap.push { cls:=.type "dict",data:=.dict #[] } }:Shared).heap.objs.size=s.heap.objs.size+1 from Heap.size_push ..];rw [List.forIn_nil];exact wpAny_bind (wpAny_pure (wpAny_pure hQ))
theorem Cp {α:Type}:∀ {l:List (Str×α)}{n:Str}{c:α},(l.map (·.1)).Nodup->(n,c)∈l->l.lookup n=some c
 | [],_,_,_,h=>absurd h (by simp)
 | (k,v)::r,n,c,nd,h=>by
  rw [List.map_cons,List.nodup_cons] at nd;rw [List.lookup_cons];rcases List.mem_cons.mp h with q|q
  ·cases q;rw [beq_self_eq_true]
  ·have:(n==k)=false:=by
    rw [beq_eq_false_iff_ne];intro e;subst e;exact nd.1 (List.mem_map.mpr ⟨(n,c),q,rfl⟩)
   rw [this];exact Cp nd.2 q
theorem Fj {env:Env}(scope:Scope) (x:Str):(relabel scope env).names.lookup x=(scope.names.lookup x).map fun k=>if (k==.free&&env.scope.kind==.function&&env.kindOf x==some .cell) then .cell else k:=by
 show (scope.names.map _).lookup x=_
 induction scope.names with
 | nil=>rfl
 | cons a r ih =>
  obtain ⟨n,k⟩:=a;rw [List.map_cons];dsimp only;rw [List.lookup_cons (b:=k)]
  by_cases e:(x==n)=true
  ·rw [e];have e':=beq_iff_eq.mp e;subst e';dsimp only;split
   ·rename_i hc;rw [List.lookup_cons,e];simp only [Option.map_some,hc,if_true]
   ·rename_i hc;rw [List.lookup_cons,e];rw [Option.map_some,if_neg hc]
  ·have e2:(x==n)=false:=by simpa using e
   rw [e2];dsimp only;split
   ·rw [List.lookup_cons,e2];exact ih
   ·rw [List.lookup_cons,e2];exact ih
structure CompOk (X:Cx) (scope:Scope):Prop where
 kind:scope.kind=.function
 nd:(scope.names.map (·.1)).Nodup
 fr:∀ x∈scope.names,x.2=.free->X.env.kindOf x.1=some .cell\/X.env.kindOf x.1=some .free
noncomputable def Cr (X:Cx) (pins:List (Addr×Obj)) (N':List Str) (scope:Scope) (C:Addr) (cells:List (Str×Addr)) (s₀:Shared) (H₀:Hp) (fp:List Addr):Cx where
 prog:=X.prog
 w:=X.w
 K:=X.K
 mg:=X.mg
 base:=X.base
 A:=X.A
 N:=N'
 s₀:=s₀
 H₀:=H₀
 env:={ scope:=relabel scope X.env,locals:=C,globals:=X.env.globals,cells:=cells,qual:=X.env.qual,func:=none,code:=X.env.code,frame:=X.env.frame,builtins:=X.env.builtins }
 outer:=X.stack
 stack:=X.stack
 ex:=fp
 fn:=fun x=>decide ((x,NameKind.cell)∈scope.names)
 calm:=X.calm
 pn:=X.pn++pins
 xe:=fun _ _=>False
noncomputable def Cap (X:Cx) (N':List Str) (scope:Scope) (σ σ0:St):Prop:=σ0.length=N'.length/\∀ (i:Nat) (x:Str) (v:V),N'[i]?=some x->σ0[i]?=some (some v) ->
 scope.names.lookup x=some .free/\∃ j:Nat,X.N[j]?=some x/\σ[j]?=some (some v)
noncomputable abbrev Bf (its:List Value) (n:Nat):Obj:={ cls:=.type "list",data:=.seq its.toArray n }
section
variable {X:Cx}{pins:List (Addr×Obj)}{σ:St}{H:Hp}{s:Shared}
theorem W5 {N':List Str}{scope:Scope}{fp:List Addr}{σ0:St}(I:Inv X pins σ H s) (S:CompOk X scope) (hf:∀ b∈fp,Ko X pins H b) (hb:∀ b∈fp,∃ o,s.heap.get? b=some o) (hσ:Cap X N' scope σ σ0) :
    Inv (Cr X pins N' scope (s.heap.objs.size+1) (cellsFrom (s.heap.objs.size+1+1) scope.names (Dd X.env scope.names)) s H fp) [(s.heap.objs.size,Bf [] 0)] σ0 H
      { s with heap:=pushCells ((s.heap.push (Bf [] 0)).push { cls:=.type "dict",data:=.dict #[] }) scope.names }:=by
  have sz1:(s.heap.push (Bf [] 0)).objs.size=s.heap.objs.size+1:=Heap.size_push ..
  have sz2:((s.heap.push (Bf [] 0)).push { cls:=.type "dict",data:=.dict #[] }).objs.size=s.heap.objs.size+1+1:=by rw [Heap.size_push,sz1]
  have keep:∀ b o,s.heap.get? b=some o->(pushCells ((s.heap.push (Bf [] 0)).push { cls:=.type "dict",data:=.dict #[] }) scope.names).get? b=some o:=fun b o e=>pushCells_keeps _ _ b o (Heap.get?_push_of_some _ (Heap.get?_push_of_some _ e))
  have capt:∀ x c,(x,c)∈Dd X.env scope.names->X.env.cells.lookup x=some c:=fun x c h=>by
    rcases Hi scope.names [] x c h with q|⟨q1,q2⟩
    · exact absurd q (by simp)
    · obtain ⟨c',e⟩:=I.ok.has x (S.fr _ q1 rfl);rw [e] at q2;rw [e,q2];rfl
  have cells:∀ x c,(cellsFrom (s.heap.objs.size+1+1) scope.names (Dd X.env scope.names)).lookup x=some c->X.env.cells.lookup x=some c\/s.heap.objs.size+1+1<=c:=fun x c h=>by
    rcases Ej _ _ _ x c (PySem.mem_of_lookup h) with q|⟨q,_⟩
    · exact .inl (capt x c q)
    · exact .inr q
  have stk:∀ b∈frs X.stack,b < s.heap.objs.size:=fun b hb=>by
    rcases Nat.lt_or_ge b s.heap.objs.size with z|z
    · exact z
    · rcases List.mem_cons.mp (I.stkSub b hb) with q|q
      · rw [q];exact I.lt
      · exact absurd q (I.nofs z)
  have fpb:∀ b∈fp,b < s.heap.objs.size:=fun b h=>let ⟨o,e⟩:=hb b h;Heap.lt_size e
  refine ⟨⟨I.ok.mod,S.kind,I.ok.glob,I.ok.blt,Nat.le_succ _,fun x y c h1 h2=>?_,fun x hx=>?_,fun x c hx h=>?_,I.ok.hd,I.ok.frames,.inl rfl,fun b hb=>⟨?_,fun x c h=>?_⟩,I.bs,Nat.le_trans I.ok.bsz I.sz,fun b o h z=>?_,fun b hb z=>?_,I.stack,I.stkFree⟩,
    rfl,I.bare,Un.kept keep,⟨fun _=>none,?_,fun i x v h1 h2 h3=>?_⟩,fun x c h=>?_,I.hok.fresh (Nat.le_succ _),fun x c h=>?_,fun p hp=>?_,I.hok.kept keep,hσ.1⟩
  · refine Gr scope.names (s.heap.objs.size+1+1) (Dd X.env scope.names) (fun x y c h1 h2=>I.ok.inj x y c (capt x c h1) (capt y c h2)) (fun x c h=>?_) x y c (PySem.mem_of_lookup h1) (PySem.mem_of_lookup h2);obtain ⟨v,q⟩:=I.cell x c (capt x c h);exact Nat.lt_succ_of_lt (Nat.lt_succ_of_lt q.lt)
  · have hx:(relabel scope X.env).names.lookup x=some .cell\/(relabel scope X.env).names.lookup x=some .free:=hx;rw [Fj] at hx;refine Option.isSome_iff_exists.mp (PySem.W.cellsFrom_some scope.names _ _ ?_);cases e:scope.names.lookup x with
    | none=>rw [e] at hx;rcases hx with h | h <;> cases h
    | some k =>
      cases k with
      | cell=>exact .inl rfl
      | free=>right;rw [Li (PySem.mem_of_lookup e)];rfl
      | «local»=>rw [e] at hx;rcases hx with h | h <;> cases h
      | globalExplicit=>rw [e] at hx;rcases hx with h | h <;> cases h
      | globalImplicit=>rw [e] at hx;rcases hx with h | h <;> cases h
  · exact Nat.le_trans (Nat.le_succ_of_le (Nat.le_succ _)) (Ek scope.names _ (s.heap.objs.size+1+1) _ x c (Nat.le_refl _) (.inl (of_decide_eq_true hx)) h)
  · exact Nat.ne_of_lt (Nat.lt_succ_of_lt (fpb b hb))
  · rcases cells x c h with q|q
    · exact (hf b hb).2.2.2.2.1 x c q
    · exact Nat.ne_of_gt (Nat.lt_of_lt_of_le (fpb b hb) (by omega))
  · rcases (hf b z).2.2.2.1 with q|q
    · exact I.ok.noex b o h q
    · exact absurd (Nat.lt_of_lt_of_le (Heap.lt_size h) (Nat.le_trans I.ok.bsz q)) (Nat.lt_irrefl _)
  · rcases List.mem_cons.mp (I.stkSub b z) with q|q
    · exact (hf b hb).2.1 q
    · exact (hf b hb).2.2.1 q
  · show (pushCells _ _).Ns (s.heap.objs.size+1) _
    have n:=(Heap.Ns.new (s.heap.push (Bf [] 0)) (.type "dict")).keeps (pushCells_keeps scope.names _);rw [sz1] at n;exact n
  · obtain ⟨e1,j,e2,e3⟩:=hσ.2 i x v h1 h2;obtain ⟨m,hn,hl⟩:=I.loc;have fr:=S.fr _ (PySem.mem_of_lookup e1) rfl;have vis:Vis X.env.scope x:=by
      rcases fr with q|q
      · exact .inr (.inl q)
      · exact .inr (.inr q)
    obtain ⟨u,r,l⟩:=hl j x v e2 e3 vis;refine ⟨u,r,.inr ⟨?_,?_⟩⟩
    · show (relabel scope X.env).names.lookup x=some .cell\/(relabel scope X.env).names.lookup x=some .free;rw [Fj,e1];simp only [Option.map_some];split
      · exact .inl rfl
      · exact .inr rfl
    · rcases l with ⟨k,_⟩|⟨_,c,ec,hc⟩
      · rcases fr with q | q <;> · rw [k] at q;cases q
      · refine ⟨c,?_,hc.keeps keep⟩;obtain ⟨c2,e⟩:=Option.isSome_iff_exists.mp (PySem.W.cellsFrom_some (x:=x) scope.names (s.heap.objs.size+1+1) (Dd X.env scope.names) (.inr (by rw [Li (PySem.mem_of_lookup e1)];rfl)));show (cellsFrom _ _ _).lookup x=some c;rw [e];rcases Ej _ _ _ x c2 (PySem.mem_of_lookup e) with q|⟨_,q⟩
        · rw [capt x c2 q] at ec;exact ec
        · rw [Cp S.nd q] at e1;cases e1
  · refine Fg scope.names ((s.heap.push (Bf [] 0)).push { cls:=.type "dict",data:=.dict #[] }) (Dd X.env scope.names) x c (fun x c h=>?_) ?_
    · obtain ⟨v,q⟩:=I.cell x c (capt x c h);exact ⟨v,q.keeps fun b o e=>Heap.get?_push_of_some _ (Heap.get?_push_of_some _ e)⟩
    · rw [sz2];exact PySem.mem_of_lookup h
  · rcases cells x c h with q|q
    · rcases I.freeC x c q with fc|⟨_,oz,uz,fz⟩
      · exact .inl fc
      · refine .inr ⟨Bool.eq_false_iff.mpr fun hx=>?_,oz,uz,fz⟩;have h1:=Ek scope.names _ (s.heap.objs.size+1+1) _ x c (Nat.le_refl _) (.inl (of_decide_eq_true hx)) h;have h2:c < s.heap.objs.size:=Heap.lt_size (I.hok c _ fz).1;have h3:s.heap.objs.size+1+1<=c:=by first | exact h1 | (rw [← sz2];exact h1)
        exact absurd (Nat.lt_of_lt_of_le h2 (Nat.le_trans (Nat.le_succ_of_le (Nat.le_succ _)) h3)) (Nat.lt_irrefl _)
    · exact .inl (I.hok.fresh (by omega))
  · rcases List.mem_append.mp hp with hp|hp
    · obtain ⟨q1,q2,q3,q4,q5⟩:=I.pin p hp;have lt:=Heap.lt_size q1;refine ⟨keep _ _ q1,q2,Nat.ne_of_lt (Nat.lt_succ_of_lt lt),fun z=>?_,q5⟩;rcases List.mem_cons.mp (I.stkSub p.1 z) with r|r
      · exact q3 r
      · exact q4 r
    · have e:p=(s.heap.objs.size,Bf [] 0):=by simpa using hp
      subst e;refine ⟨pushCells_keeps _ _ _ _ (Heap.get?_push_of_some _ (Heap.get?_push_size _ rfl)),I.hok.fresh (Nat.le_refl _),Nat.ne_of_lt (Nat.lt_succ_self _),fun z=>?_,fun v=>by intro z;cases z⟩;exact Nat.lt_irrefl _ (stk _ z)
theorem fQ {N':List Str}{scope:Scope}{fp:List Addr}{σ':St}{C:Addr}{cells:List (Str×Addr)}{H':Hp}{s':Shared}{its:List Value}{n:Nat}{ys:List V}{pl:List (Addr×Obj)}(I:Inv X pins σ H s) (hf:∀ b∈fp,Ko X pins H b)
  (J:Inv (Cr X pins N' scope C cells s H fp) ((s.heap.objs.size,Bf its n)::pl) σ' H' s') (r:Vals ys its) (hz:ys.length<=sizeLine) :
  Inv X pins σ (upd H' s.heap.objs.size (.lst ys)) s':=by
 obtain ⟨p1,p2,p3,p4,p5⟩:=J.pin (s.heap.objs.size,Bf its n) (List.mem_append_right _ List.mem_cons_self);have hD:H' s.heap.objs.size=none:=p2;have ne:∀ b o,s.heap.get? b=some o->b≠s.heap.objs.size:=fun b o e=>Nat.ne_of_lt (Heap.lt_size e)
 have U:=J.base;refine I.call' (ch:=fp) J.os ⟨fun b o e h1 h2 h3=>U.keep b o e h1 h2 h3,fun b o e h1 h2 h3=>U.slot b o e h1 h2 h3,fun b o e h1 h2=>?_,U.there,fun b xs e=>?_,fun b o u e=>?_,fun b ps e=>?_⟩ ?_ J.bare fun b hb=>?_
 ·rw [Af (ne b o e)];exact U.free b o e h1 h2
 ·have q:=U.tups b xs e;rw [Af (Al q hD)];exact q
 ·have q:=U.frzs b o u e;rw [Af (Al q hD)];exact q
 ·obtain ⟨m,q⟩:=U.tbls b ps e;exact ⟨m,by rw [Af (Al q hD)];exact q⟩
 ·intro b u e
  by_cases hb:b=s.heap.objs.size
  ·subst hb;rw [Bb] at e;cases e;exact ⟨hz,its,n,r,p1⟩
  ·rw [Af hb] at e;exact (J.hok b u e).stay (fun _ _ _ q=>q) (fun c q=>by rw [Af (Al q hD)];exact q) fun c xs q=>by rw [Af (Al q hD)];exact q
 ·obtain ⟨q0,q1,q2,q3,q4,q5⟩:=hf b hb;exact ⟨q3,q1,q4,q5⟩
end
section
variable {prog:Program}{w:World}{A:Around}{E:Value->Shared->Prop}{R:Result->Shared->Prop}{s:Shared}
noncomputable abbrev Y7 (ifs:List Expr) (env:Env):Sem Bool:=forIn ifs true fun c r=>if r=true then do let ok ← isTrue c env (eval c env);pure (ForInStep.yield ok) else pure (ForInStep.yield r)
theorem S5 {elt target iter:Expr}{ifs:List Expr}{scope:Scope}{pos:Pos}{it acc:Value}{env:Env}(I:Nat->Shared->Prop)
  (turn:∀ n s,I n s->wpAny (model prog w) A (pyNext it) (fun r s₁=>match r with
   | none=>R (.ok .next) s₁
   | some v=>wpAny (model prog w) A (letOwnedTupleGo target it v) (fun _ s'=>wpAny (model prog w) A (assign target env v) (fun _ s₂ =>
     wpAny (model prog w) A (Y7 ifs env) (fun ok s₃ =>
      if ok=true then wpAny (model prog w) A (eval elt env) (fun x s₄ =>
       wpAny (model prog w) A (call (.builtin "list.append") [acc,x]) (fun _ s₅=>∃ m,m < n/\I m s₅) (fun _ _=>False) s₄) (fun _ _=>False) s₃
      else ∃ m,m < n/\I m s₃) (fun _ _=>False) s₂) (fun _ _=>False) s') (fun _ _=>False) s₁) (fun _ _=>False) s)
  (n:Nat) (h:I n s) :
  codeAny (model prog w) A (.compLoop (.ListComp elt [⟨target,iter,ifs,0⟩] scope pos) 0 it acc env) R s:=by
 refine codeAny_loop rfl I (fun n s hI=>?_) n h;show wpAny _ A ((compTurn (.ListComp elt [⟨target,iter,ifs,0⟩] scope pos) 0 it acc env).onRaise (fun x=>do noteFrame x env;theTreesLotGoes x)) _ _ s;refine wpAny_noted ?_;rw [compTurn_list];refine wpAny_bind (wpAny_standAt (wpAny_bind (wpAny_mono (turn n s hI) (fun r s₁ h₁=>?_) fun _ _ h'=>h'.elim)));cases r with
 | none=>exact wpAny_pure h₁
 | some v =>
  refine wpAny_bind (wpAny_mono h₁ (fun _ s' h'=>?_) fun _ _ h'=>h'.elim);refine wpAny_bind (wpAny_mono h' (fun _ s₂ h₂=>wpAny_bind (wpAny_mono h₂ (fun ok s₃ h₃=>?_) fun _ _ h'=>h'.elim)) fun _ _ h'=>h'.elim);cases ok with
  | false=>exact wpAny_pure ⟨rfl,h₃⟩
  | true =>
   exact wpAny_bind (wpAny_bind (wpAny_mono h₃ (fun x s₄ h₄=>wpAny_bind (wpAny_mono h₄ (fun _ s₅ h₅=>wpAny_pure (wpAny_pure ⟨rfl,h₅⟩)) fun _ _ h'=>h'.elim)) fun _ _ h'=>h'.elim))
end
noncomputable def PIf (X:Cx) (ifs:List Expr) (t:TT):Prop :=
 ∀ (pins:List (Addr×Obj)) (s:Shared) (σ:St) (H:Hp) (Q:Bool->Hp->Prop),Inv X pins σ H s->t σ H Q->wpAny (model X.prog X.w) X.A (Y7 ifs X.env) (TP X pins σ Q) X.xe s
theorem rY {X:Cx}:PIf X [] (fun _ H Q=>Q true H):=fun pins s σ H Q I h=>wpAny_tests_nil ⟨H,I,h⟩
theorem rZ {X:Cx}{c:Expr}{t:TT}(h:PT X c t):PIf X [c] t:=fun pins s σ H Q I q=>wpAny_tests_one (h pins s σ H Q I q)
noncomputable def Kept (σ0 σ2:St):Prop:=σ2.length=σ0.length/\∀ (i:Nat) v,σ0[i]?=some (some v)->σ2[i]?=some (some v)
noncomputable def fU (X:Cx) (N':List Str) (scope:Scope) (wi:TI) (g:TG) (tc:TT) (te:TE):TE:=fun σ H Q=>wi σ H fun J H1=>∃ σ0,Cap X N' scope σ σ0/\∃ W:Nat->Nat->List V->Hp->Prop,(∃ m,W 0 m [] H1)/\∀ i m acc H,W i m acc H ->
 (J.stop i H/\∀ p,H p=none->Q (.ref p) (upd H p (.lst acc))) \/
 (J.go i H/\∃ N:List V->Hp->Prop,(∀ acc' H',N acc' H'->∃ m',m' < m/\W (i+1) m' acc' H')/\∀ x H',J.yld i H x H'->g x σ0 H' fun σ2 H2=>Kept σ0 σ2/\tc σ2 H2 fun b H3=>if b=true then acc.length < sizeLine/\te σ2 H3 fun y H4=>N (acc++[y]) H4 else N acc H3)
section
variable {X:Cx}{N':List Str}{scope:Scope}{wi:TI}{g:TG}{tc:TT}{te:TE}{elt target iter:Expr}{ifs:List Expr}{pos:Pos}
theorem Ou {pins:List (Addr×Obj)}{s:Shared}{σ σ0:St}{H:Hp}{it:Addr}{fp:List Addr}{tn:Nat->Heap->Prop}{J:It}{QQ:List V->Hp->Prop}{E:Value->Shared->Prop}{RR:Value->Addr->Result->Shared->Prop}(hc:X.calm=true) (S:CompOk X scope)
  (hg:∀ pins C cells s₀ H₀ fp,PG (Cr X pins N' scope C cells s₀ H₀ fp) target g)
  (hi:∀ pins C cells s₀ H₀ fp,PIf (Cr X pins N' scope C cells s₀ H₀ fp) ifs tc)
  (he:∀ pins C cells s₀ H₀ fp,PE (Cr X pins N' scope C cells s₀ H₀ fp) elt te)
  (I:Inv X pins σ H s) (T:Turn X.prog X.w X.K target J fp it tn) (st:tn 0 s.heap) (hf:∀ b∈fp,Ko X pins H b) (hσ:Cap X N' scope σ σ0)
  (W:Nat->Nat->List V->Hp->Prop) (w0:∃ m,W 0 m [] H)
  (turn:∀ i m acc H,W i m acc H->(J.stop i H/\QQ acc H) \/
   (J.go i H/\∃ N:List V->Hp->Prop,(∀ acc' H',N acc' H'->∃ m',m' < m/\W (i+1) m' acc' H')/\∀ x H',J.yld i H x H'->g x σ0 H' fun σ2 H2=>Kept σ0 σ2/\tc σ2 H2 fun b H3=>if b=true then acc.length < sizeLine/\te σ2 H3 fun y H4=>N (acc++[y]) H4 else N acc H3))
  (hRR:∀ (C:Addr) (acc:List V) (H':Hp) (s':Shared) (m:Str->Option Value),QQ acc H'->Inv X pins σ (upd H' s.heap.objs.size (.lst acc)) s'->H' s.heap.objs.size=none->s'.heap.Ns C m->H' C=none->C≠s.heap.objs.size->s.heap.objs.size<=C->RR (.ref s.heap.objs.size) C (.ok .next) s') :
  wpAny (model X.prog X.w) X.A (newList []) (fun acc s₃=>wpAny (model X.prog X.w) X.A (newFunctionEnv scope X.env.globals (Dd X.env scope.names) [] X.env.qual none .none (some X.env)) (fun cenv s₄ =>
   codeAny (model X.prog X.w) X.A (.compStart (.ListComp elt [⟨target,iter,ifs,0⟩] scope pos) 0 (.ref it) acc { cenv with scope:=relabel scope X.env }) (RR acc cenv.locals) s₄) E s₃) E s:=by
 refine wpAny_newObj_type (Uw ?_);have sz1:(s.heap.push (Bf [] 0)).objs.size=s.heap.objs.size+1:=Heap.size_push ..;have I0:=W5 (N':=N') (σ0:=σ0) I S hf (fun b hb=>let ⟨o,e,_⟩:=T.obj 0 _ st b hb;⟨o,e⟩) hσ
 show codeAny (model X.prog X.w) X.A (.compStart (.ListComp elt [⟨target,iter,ifs,0⟩] scope pos) 0 (.ref it) (.ref s.heap.objs.size) _) (RR (.ref s.heap.objs.size) (s.heap.push (Bf [] 0)).objs.size) { s with heap:=pushCells ((s.heap.push (Bf [] 0)).push { cls:=.type "dict",data:=.dict #[] }) scope.names };rw [sz1];show codeAny (model X.prog X.w) X.A (.compStart (.ListComp elt [⟨target,iter,ifs,0⟩] scope pos) 0 (.ref it) (.ref s.heap.objs.size) (Cr X pins N' scope (s.heap.objs.size+1) (cellsFrom (s.heap.objs.size+1+1) scope.names (Dd X.env scope.names)) s H fp).env) _ _;generalize hX':Cr X pins N' scope (s.heap.objs.size+1) (cellsFrom (s.heap.objs.size+1+1) scope.names (Dd X.env scope.names)) s H fp=X' at I0 ⊢
 have keep0:∀ b o,s.heap.get? b=some o->(pushCells ((s.heap.push (Bf [] 0)).push { cls:=.type "dict",data:=.dict #[] }) scope.names).get? b=some o:=fun b o e=>pushCells_keeps _ _ b o (Heap.get?_push_of_some _ (Heap.get?_push_of_some _ e))
 have st0:tn 0 (pushCells ((s.heap.push (Bf [] 0)).push { cls:=.type "dict",data:=.dict #[] }) scope.names):=T.keep _ _ _ st fun b _ o e=>keep0 b o e
 have hA:X'.A=X.A:=by rw [← hX'];rfl
 have hP:X'.prog=X.prog:=by rw [← hX'];rfl
 have hw:X'.w=X.w:=by rw [← hX'];rfl
 have hK:X'.K=X.K:=by rw [← hX'];rfl
 have hC:X'.calm=true:=by rw [← hX'];exact hc
 have hL:X'.env.locals=s.heap.objs.size+1:=by rw [← hX'];rfl
 have hS0:X'.s₀=s:=by rw [← hX'];rfl
 have hxe:X'.xe=fun _ _=>False:=by rw [← hX'];rfl
 have hex:X'.ex=fp:=by rw [← hX'];rfl
 have hpn:X'.pn=X.pn++pins:=by rw [← hX'];rfl
 have hgX:PG X' target g:=by rw [← hX'];exact hg _ _ _ _ _ _
 have hiX:PIf X' ifs tc:=by rw [← hX'];exact hi _ _ _ _ _ _
 have heX:PE X' elt te:=by rw [← hX'];exact he _ _ _ _ _ _
 -- the iterator's own objects,in the block
 have fpo:∀ {pl:List (Addr×Obj)} {H':Hp} {its:List Value} {n:Nat},(∀ b∈fp,H' b=none)->∀ b∈fp,Ko X' [(s.heap.objs.size,Bf its n)] H' b:=fun {pl H' its n} hn b hb=>by
  obtain ⟨q0,q1,q2,q3,q4,q5⟩:=hf b hb;obtain ⟨e1,e2⟩:=I0.ok.exf b (by rw [hex];exact hb);have lt:b < s.heap.objs.size:=let ⟨o,e,_⟩:=T.obj 0 _ st b hb;Heap.lt_size e;refine ⟨hn b hb,e1,I0.ok.exfs b (by rw [hex];exact hb),.inl (by rw [hex];exact hb),e2,fun p hp=>?_⟩;rw [hpn] at hp;rcases List.mem_append.mp hp with hp|hp
  ·exact q5 p hp
  ·have e:p=(s.heap.objs.size,Bf its n):=by simpa using hp
   subst e;exact Nat.ne_of_gt lt
 obtain ⟨m0,w0⟩:=w0
 have loop:codeAny (model X.prog X.w) X.A (.compLoop (.ListComp elt [⟨target,iter,ifs,0⟩] scope pos) 0 (.ref it) (.ref s.heap.objs.size) X'.env) (RR (.ref s.heap.objs.size) (s.heap.objs.size+1)) { s with heap:=pushCells ((s.heap.push (Bf [] 0)).push { cls:=.type "dict",data:=.dict #[] }) scope.names }:=by
  refine S5 (fun k s'=>∃ i H' acc its n,Inv X' [(s.heap.objs.size,Bf its n)] σ0 H' s'/\tn i s'.heap/\(∀ b∈fp,H' b=none)/\Vals acc its/\acc.length<=sizeLine/\W i k acc H') ?_ m0
   ⟨0,H,[],[],0,I0,st0,fun b hb=>(hf b hb).1,.nil,Nat.zero_le _,w0⟩
  rintro k s3 ⟨i,H3,acc,its,n,I3,st3,fr3,rv,hz,w3⟩;rcases turn i k acc H3 w3 with ⟨stop,qn⟩|⟨go,N,hN,step⟩
  ·have z:=T.done X' hP hw hK hC i _ s3 σ0 H3 (fun _ _=>False) I3 (fpo (pl:=[]) fr3) st3 stop;rw [hA] at z;refine thn z ?_;rintro r s4 ⟨hr,I4⟩;subst hr;obtain ⟨m,hn,_⟩:=I4.loc;rw [hL] at hn;have fC:=I4.free;rw [hL] at fC;have e:=I4;rw [← hX'] at e;exact hRR _ acc H3 s4 m qn (fQ I hf e rv hz) (I4.pin (s.heap.objs.size,Bf its n) (List.mem_append_right _ List.mem_cons_self)).2.1 hn fC (Nat.succ_ne_self _) (Nat.le_succ _)
  ·have z:=T.item X' hP hw hK hC i _ s3 σ0 H3 (fun _ _=>False) I3 (fpo (pl:=[]) fr3) st3 go;rw [hA] at z;refine thn z ?_;rintro r s4 ⟨u,hr,h4⟩;subst hr;refine thn h4 ?_;rintro _ s5 ⟨x,H5,I5,r5,y5,st5,fr5⟩;have I5':=I5.pinned (fpo (pl:=[]) fr5) (T.obj _ _ st5);have zg:=hgX _ s5 σ0 H5 x u _ I5' r5 (step x H5 y5);rw [hP,hw,hA,hxe] at zg;refine thn zg ?_;rintro _ s6 ⟨σ6,H6,I6,kp,q6⟩;have zi:=hiX _ s6 σ6 H6 _ I6 q6;rw [hP,hw,hA,hxe] at zi;refine thn zi ?_;rintro b s7 ⟨H7,I7,q7⟩
   -- back to the loop's head
   have back:∀ {H8:Hp} {s8:Shared} {acc':List V} {its':List Value} {n':Nat},Inv X' ([(s.heap.objs.size,Bf its' n')]++Jw fp s5.heap) σ6 H8 s8->Vals acc' its'->acc'.length<=sizeLine->N acc' H8 ->
     ∃ m,m < k/\∃ i H' acc its n,Inv X' [(s.heap.objs.size,Bf its n)] σ0 H' s8/\tn i s8.heap/\(∀ b∈fp,H' b=none)/\Vals acc its/\acc.length<=sizeLine/\W i m acc H':=fun {H8 s8 acc' its' n'} I8 rv' hz' n8=>by
    obtain ⟨m',hm,w8⟩:=hN acc' H8 n8;refine ⟨m',hm,i+1,H8,acc',its',n',(I8.unpinned).weak kp.1.symm kp.2,T.keep _ _ _ st5 fun b hb o e=>(I8.pin (b,o) (List.mem_append_right _ (List.mem_append_right _ (Hg hb e)))).1,fun b hb=>?_,rv',hz',w8⟩;obtain ⟨o,e,d⟩:=T.obj _ _ st5 b hb;exact (I8.pin (b,o) (List.mem_append_right _ (List.mem_append_right _ (Hg hb e)))).2.1
   cases b with
   | false =>
    rw [if_neg Bool.false_ne_true] at q7;rw [if_neg Bool.false_ne_true];exact back I7 rv hz q7
   | true =>
    rw [if_pos rfl] at q7;rw [if_pos rfl];obtain ⟨hlt,q7⟩:=q7;have ze:=heX _ s7 σ6 H7 _ I7 q7;rw [hP,hw,hA,hxe] at ze;refine thn ze ?_;rintro y s8 ⟨yv,H8,I8,r8,q8⟩;obtain ⟨p1,p2,p3,p4,p5⟩:=I8.pin (s.heap.objs.size,Bf its n) (List.mem_append_right _ (List.mem_append_left _ List.mem_cons_self));have len:its.toArray.size<=sizeLine:=by
     have:=rv.length;simp only [List.size_toArray];omega
    refine wpAny_list_append_plain (hsz:=len) ⟨n,p1⟩ ?_;rintro h' ⟨n',pl⟩ sb;have pl':h'.get? s.heap.objs.size=some (Bf (its++[y]) n'):=by rw [pl];simp [Bf]
    have lD:s.heap.objs.size < (pushCells ((s.heap.push (Bf [] 0)).push { cls:=.type "dict",data:=.dict #[] }) scope.names).objs.size:=by
     refine Nat.lt_of_lt_of_le ?_ (Fi _ _);rw [Heap.size_push,Heap.size_push];omega
    have cne:∀ z c,X'.env.cells.lookup z=some c->c≠s.heap.objs.size:=fun z c e q=>by
     obtain ⟨v,hv⟩:=I8.cell z c e;obtain ⟨o,ho,hd⟩:=hv;rw [q] at ho;rw [show s8.heap.get? s.heap.objs.size=some (Bf its n) from p1] at ho;cases ho;cases hd
    have J9:Inv X' (Jw fp s5.heap) σ6 H8 { s8 with heap:=h' }:=by
     refine Inv.turned (t':=s8.toks) (it:=s.heap.objs.size) (I8.pins_of fun p hp=>I8.pin p (List.mem_append_right _ (List.mem_append_right _ hp))) (fun b o hb e=>sb.extBut b o hb e) p2 (by rw [hL];exact Nat.ne_of_lt (Nat.lt_succ_self _)) (.inr (by rw [hS0];exact Nat.le_refl _)) cne fun p hp=>?_
     rw [hpn] at hp;rcases List.mem_append.mp hp with hp|hp
     ·have:p.1 < s.heap.objs.size:=Heap.lt_size (I.pin p hp).1;exact Nat.ne_of_lt this
     ·obtain ⟨hb,_⟩:=Q5 hp;have:p.1 < s.heap.objs.size:=let ⟨o,e,_⟩:=T.obj 0 _ st p.1 hb;Heap.lt_size e;exact Nat.ne_of_lt this
    have I9:Inv X' ([(s.heap.objs.size,Bf (its++[y]) n')]++Jw fp s5.heap) σ6 H8 { s8 with heap:=h' }:=by
     refine J9.pins_of fun p hp=>?_
     rcases List.mem_append.mp hp with hp|hp
     ·have e:p=(s.heap.objs.size,Bf (its++[y]) n'):=by simpa using hp
      subst e;exact ⟨pl',p2,p3,p4,fun v=>by intro z;cases z⟩
     ·exact J9.pin p (List.mem_append_right _ hp)
    exact back I9 (rv.append (.cons r8 .nil)) (by rw [List.length_append,List.length_singleton];omega) q8
 exact codeAny_compStart_list loop (T.self X.A 0 _ _ _ st0 loop)
theorem sE (hc:X.calm=true) (S:CompOk X scope) (hit:PI X target iter wi)
  (hg:∀ pins C cells s₀ H₀ fp,PG (Cr X pins N' scope C cells s₀ H₀ fp) target g)
  (hi:∀ pins C cells s₀ H₀ fp,PIf (Cr X pins N' scope C cells s₀ H₀ fp) ifs tc)
  (he:∀ pins C cells s₀ H₀ fp,PE (Cr X pins N' scope C cells s₀ H₀ fp) elt te)
  (hs:∀ x,foldedSetIterable iter X.env x=pure x:=by intro _;rfl) :
  PE X (.ListComp elt [⟨target,iter,ifs,0⟩] scope pos) (fU X N' scope wi g tc te):=by
 intro pins s σ H Q I h;rw [eval_ListComp];have hfree:∀ x∈scope.names,x.2=.free->∃ c,X.env.cells.lookup x.1=some c:=fun x hx e=>I.ok.has x.1 (S.fr x hx e)
 refine wpAny_comprehension_free (use:=none) rfl hs (Gq hfree) S.kind (fun x hx e=>Cp S.nd (by rw [← e];exact hx)) (thn (hit pins s σ H _ I h) fun v s1 h1=>thn h1 fun itv s2 h2=>?_);obtain ⟨it,fp,tn,J,H2,e,I2,T,st2,f2,σ0,hσ,W,w0,turn⟩:=h2;subst e;refine Ou (QQ:=fun acc H=>∀ p,H p=none->Q (.ref p) (upd H p (.lst acc))) (RR:=fun acc C=>compPost (model X.prog X.w) X.A X.xe none (EP X pins σ Q) acc C) hc S hg hi he I2 T st2 f2 hσ W w0 turn ?_;intro C acc H' s' m q I' hD hn hC hne hle;refine ⟨m,hn,fun h' sb=>?_⟩;obtain ⟨oC,_,_,hoC,_⟩:=id hn;have uC:upd H' s2.heap.objs.size (.lst acc) C=none:=by rw [Af hne];exact hC
 have hCL:C≠X.env.locals:=Nat.ne_of_gt (Nat.lt_of_lt_of_le I2.lt hle);refine ⟨.ref s2.heap.objs.size,_,I'.turned (t':=s'.toks) (it:=C) (fun b o hb e=>sb.extBut b o hb e) uC hCL (.inr (Nat.le_trans I2.sz hle)) (fun x c e z=>?_) fun p hp z=>?_,rfl,q _ hD⟩
 ·obtain ⟨v,hv⟩:=I2.cell x c e;have:=hv.lt;rw [z] at this;exact Nat.lt_irrefl _ (Nat.lt_of_lt_of_le this hle)
 ·have:=Heap.lt_size (I2.pin p hp).1;rw [z] at this;exact Nat.lt_irrefl _ (Nat.lt_of_lt_of_le this hle)
theorem W6 {y:Str}{py spos:Pos}{gy:TG}(hc:X.calm=true) (S:CompOk X scope) (hit:PI X target iter wi)
  (hg:∀ pins C cells s₀ H₀ fp,PG (Cr X pins N' scope C cells s₀ H₀ fp) target g)
  (hi:∀ pins C cells s₀ H₀ fp,PIf (Cr X pins N' scope C cells s₀ H₀ fp) ifs tc)
  (he:∀ pins C cells s₀ H₀ fp,PE (Cr X pins N' scope C cells s₀ H₀ fp) elt te)
  (hgy:PG X (.Name y py) gy)
  (hsw:swapsWith (.ListComp elt [⟨target,iter,ifs,0⟩] scope pos) (some (.Name y py)) spos.line X.env=pure true)
  (hs:∀ x,foldedSetIterable iter X.env x=pure x:=by intro _;rfl) :
  PS X (.Assign [.Name y py] (.ListComp elt [⟨target,iter,ifs,0⟩] scope pos) spos) (yM (fU X N' scope wi g tc te) gy):=by
 intro pins s σ H D I h;rw [exec_Assign_Name_used _ _ _ _ hsw];refine wpAny_bind (wpAny_standAt (wpAny_bind ?_));show wpAny _ X.A (do let _ ← comprehension (.ListComp elt [⟨target,iter,ifs,0⟩] scope pos) scope X.env _ (newList []) false (eval iter X.env) (some (assign (.Name y py) X.env))) _ _ s;have hfree:∀ x∈scope.names,x.2=.free->∃ c,X.env.cells.lookup x.1=some c:=fun x hx e=>I.ok.has x.1 (S.fr x hx e)
 refine wpAny_bind (wpAny_mono (wpAny_comprehension_free (use:=some (assign (.Name y py) X.env)) (Q:=fun _ s'=>SP X pins D .next s') rfl hs (Gq hfree) S.kind (fun x hx e=>Cp S.nd (by rw [← e];exact hx)) (thn (hit pins s σ H _ I h) fun v s1 h1=>thn h1 fun itv s2 h2=>?_))
  (fun _ s' hq=>wpAny_pure (wpAny_pure hq)) fun _ _ e=>e)
 obtain ⟨it,fp,tn,J,H2,e,I2,T,st2,f2,σ0,hσ,W,w0,turn⟩:=h2;subst e;refine Ou (QQ:=fun acc H=>∀ p,H p=none->gy (.ref p) σ (upd H p (.lst acc)) D.nx) (RR:=fun acc C=>compPost (model X.prog X.w) X.A X.xe (some (assign (.Name y py) X.env)) (fun _ s'=>SP X pins D .next s') acc C) hc S hg hi he I2 T st2 f2 hσ W w0 turn ?_;intro C acc H' s' m q I' hD hn hC hne hle;obtain ⟨oC,esC,epC,hoC,hdC⟩:=id hn;have uC:upd H' s2.heap.objs.size (.lst acc) C=none:=by rw [Af hne];exact hC
 have hCL:C≠X.env.locals:=Nat.ne_of_gt (Nat.lt_of_lt_of_le I2.lt hle);have hCfs:C ∉ X.fs:=I2.nofs hle;have pinC:Inv X (pins++[(C,oC)]) σ (upd H' s2.heap.objs.size (.lst acc)) s':=by
  refine I'.pins_of fun p hp=>?_
  rcases List.mem_append.mp hp with hp|hp
  ·exact I'.pin p (List.mem_append_right _ hp)
  ·have e:p=(C,oC):=by simpa using hp
   subst e;refine ⟨hoC,uC,hCL,hCfs,fun v z=>?_⟩;rw [hdC.1] at z;cases z
 refine thn (hgy _ s' σ _ (.ref s2.heap.objs.size) _ _ pinC rfl (q _ hD)) ?_;rintro _ s'' ⟨σ2,H3,I3,q3⟩;obtain ⟨p1,p2,p3,p4,p5⟩:=I3.pin (C,oC) (List.mem_append_right _ (List.mem_append_right _ List.mem_cons_self));refine ⟨m,⟨oC,esC,epC,p1,hdC⟩,fun h' sb=>?_⟩;refine ⟨σ2,H3,(Inv.unpinned I3).turned (t':=s''.toks) (it:=C) (fun b o hb e=>sb.extBut b o hb e) p2 hCL (.inr (Nat.le_trans I2.sz hle)) (fun x c e z=>?_) fun p hp z=>?_,q3⟩
 ·obtain ⟨v,hv⟩:=I2.cell x c e;have:=hv.lt;rw [z] at this;exact Nat.lt_irrefl _ (Nat.lt_of_lt_of_le this hle)
 ·have:=Heap.lt_size (I2.pin p hp).1;rw [z] at this;exact Nat.lt_irrefl _ (Nat.lt_of_lt_of_le this hle)
end
end L2
namespace DL
open PySem PySem.Spec PyProof.Rows L2
noncomputable abbrev St:=L2.St
structure CloI where
 ps:List Str
 N:List Str
 fr:List Str
 scope:Scope
 body:List Stmt
inductive D where
 | non | bl (b:Bool) | int (i:Int) | str (x:Str) | tup (ds:List D) | ref (n:Nat) | rol (ds:List D) | obj (c:Str) (ks:List Str) (ds:List D) | fn (x:Str) | lam | clo (I:CloI) (ds:List D)
 deriving Inhabited
inductive MO where
 | lst (ds:List D)
 | dct (kvs:List (Key×D))
 | plc
 | plq (x:Str)
noncomputable abbrev MH:=List MO
noncomputable abbrev Loc:=List (Option D)
noncomputable def H9 (K:PySem.W.Frag) (H:Hp) (a:Addr) (xs:List V):Prop:=(∃ o,H a=some (.frz o (.lst xs))) \/
  ∃ (o:Obj) (its:Array Value) (n:Nat),K.lookup a=some o/\o.cls=.type "list"/\o.dict=none/\o.data=.seq its n/\its.size<=sizeLine/\Vals xs its.toList
theorem H9.sq {K:PySem.W.Frag}{H:Hp}{a:Addr}{xs:List V}(h:H9 K H a xs):SqL K H a xs:=by
 rcases h with ⟨o,h⟩|h
 ·exact .inl (.inr ⟨o,h⟩)
 ·exact .inr h
noncomputable def Y8 (fd:FuncData):Prop:=∃ (name qual:Str) (ps:Arguments) (x y:Str) (p q pt:Pos) (k:Nat) (sc:Scope) (pm cdv ct:Value),fd=PySem.W.kla_fn name qual ps (.Tuple [.Name x p,.Name y q] k pt) sc [] pm cdv ct /\
  FnScope [x,y] [x,y] sc/\(x==("__debug__":Str))=false/\(x==("__classdict__":Str))=false/\(y==("__debug__":Str))=false/\(y==("__classdict__":Str))=false/\∀ u v,bindArgs fd ⟨[u,v],[]⟩=pure [(x,u),(y,v)]
noncomputable def Nk (H:Hp) (v:Value) (q:Str):Prop:=∃ c oc u vs tq,v=.ref c/\H c=some (.frz oc u)/\oc.data=.fields vs/\vs[1]?=some (.str q tq)
noncomputable def Y9 (H:Hp) (a:Addr):Prop:=∃ o u fd,H a=some (.frz o u)/\o.data=.func fd/\Y8 fd/\Nk H fd.code fd.qualname
structure CloSc (I:CloI):Prop where
 kind:I.scope.kind=.function
 co:I.scope.isCoroutine=false
 gen:I.scope.isGenerator=false
 nd:(I.N++I.fr).Nodup
 pre:I.N.take I.ps.length=I.ps
 par:∀ x∈I.ps,I.scope.names.lookup x=some .local
 nocell:∀ y∈I.scope.names,y.2≠.cell
 free:∀ x,I.scope.names.lookup x=some .free->x∈I.fr
 frs:∀ x∈I.fr,I.scope.names.lookup x=some .free
noncomputable def Za (I:CloI) (fd:FuncData) (cl:List (Str×Addr)):Prop:=∃ (name qual:Str) (params:Arguments) (doc pm cdv ctv:Value),fd=PySem.W.fnX name qual params I.body I.scope cl .none .none doc pm none cdv ctv/\∀ us:List Value,us.length=I.ps.length->bindArgs fd ⟨us,[]⟩=pure (I.ps.zip us)
noncomputable def Cw (H:Hp):List Addr->List V->Prop
 | [],[]=>True
 | c::cs,v::vs=>(∃ oc u w,H c=some (.frz oc u)/\oc.data=.cell (some w)/\RelV v w)/\Cw H cs vs
 | _,_=>False
noncomputable def Zc (H:Hp) (a:Addr) (I:CloI) (xs:List V):Prop:=∃ o u fd cl,H a=some (.frz o u)/\o.data=.func fd/\CloSc I/\Za I fd cl/\Nk H fd.code fd.qualname/\cl.map (·.1)=I.fr/\(cl.map (·.2)).Nodup/\Cw H (cl.map (·.2)) xs
mutual
inductive RD (K:PySem.W.Frag) (H:Hp) (ρ:List Addr):D->V->Prop
 | non:RD K H ρ .non .non
 | bl (b:Bool):RD K H ρ (.bl b) (.bl b)
 | int (i:Int):RD K H ρ (.int i) (.int i)
 | str (x:Str):RD K H ρ (.str x) (.str x)
 | tup {ds:List D} {a:Addr} {xs:List V}:SqT K H a xs->RDs K H ρ ds xs->RD K H ρ (.tup ds) (.ref a)
 | ref {n:Nat} {a:Addr}:ρ[n]?=some a->RD K H ρ (.ref n) (.ref a)
 | rol {ds:List D} {a:Addr} {xs:List V}:H9 K H a xs->RDs K H ρ ds xs->RD K H ρ (.rol ds) (.ref a)
 | obj {c:Str} {ks:List Str} {ds:List D} {a C dx:Addr} {xs:List V}:PySem.W.nsIn K mainGlobals c=some (some (.ref C))->H a=some (.ins C dx (ks.zip xs))->ks.length=xs.length->RDs K H ρ ds xs->RD K H ρ (.obj c ks ds) (.ref a)
 | fn {x:Str} {a:Addr}:PySem.W.nsIn K mainGlobals x=some (some (.ref a))->RD K H ρ (.fn x) (.ref a)
 | lam {a:Addr}:Y9 H a->RD K H ρ .lam (.ref a)
 | clo {I:CloI} {ds:List D} {a:Addr} {xs:List V}:Zc H a I xs->RDs K H ρ ds xs->RD K H ρ (.clo I ds) (.ref a)
inductive RDs (K:PySem.W.Frag) (H:Hp) (ρ:List Addr):List D->List V->Prop
 | nil:RDs K H ρ [] []
 | cons {d:D} {v:V} {ds:List D} {vs:List V}:RD K H ρ d v->RDs K H ρ ds vs->RDs K H ρ (d::ds) (v::vs)
end
structure Ev (K:PySem.W.Frag) (H:Hp) (ρ:List Addr) (H':Hp) (ρ':List Addr):Prop where
 tup:∀ a xs,SqT K H a xs->SqT K H' a xs
 pre:ρ <+: ρ'
 perm:∀ a xs,H9 K H a xs->H9 K H' a xs
 ins:∀ a C dx fs,H a=some (.ins C dx fs)->H' a=some (.ins C dx fs)
 frz:∀ a o u,H a=some (.frz o u)->H' a=some (.frz o u)
theorem Ev.refl {K:PySem.W.Frag}{H:Hp}{ρ:List Addr}:Ev K H ρ H ρ:=⟨fun _ _ h=>h,List.prefix_refl _,fun _ _ h=>h,fun _ _ _ _ h=>h,fun _ _ _ h=>h⟩
theorem Ev.trans {K:PySem.W.Frag}{H H1 H2:Hp}{ρ ρ1 ρ2:List Addr}(a:Ev K H ρ H1 ρ1) (b:Ev K H1 ρ1 H2 ρ2):Ev K H ρ H2 ρ2:=⟨fun x xs h=>b.tup x xs (a.tup x xs h),a.pre.trans b.pre,fun x xs h=>b.perm x xs (a.perm x xs h),fun x C dx fs h=>b.ins x C dx fs (a.ins x C dx fs h),fun x o u h=>b.frz x o u (a.frz x o u h)⟩
theorem Ev.at {K:PySem.W.Frag}{H H':Hp}{ρ ρ':List Addr}(e:Ev K H ρ H' ρ') {n:Nat}{a:Addr}(h:ρ[n]?=some a):ρ'[n]?=some a:=by
 obtain ⟨t,rfl⟩:=e.pre;obtain ⟨hl,_⟩:=List.getElem?_eq_some_iff.mp h;rw [List.getElem?_append_left hl];exact h
theorem Nk.mono {H H':Hp}(e:∀ a o u,H a=some (.frz o u)->H' a=some (.frz o u)) {v:Value}{q:Str}(h:Nk H v q):Nk H' v q :=
 let ⟨c,oc,u,vs,tq,h1,h2,h3⟩:=h;⟨c,oc,u,vs,tq,h1,e _ _ _ h2,h3⟩
theorem Y9.mono {H H':Hp}(e:∀ a o u,H a=some (.frz o u)->H' a=some (.frz o u)) {a:Addr}(h:Y9 H a):Y9 H' a :=
 let ⟨o,u,fd,h1,h2,h3,h4⟩:=h;⟨o,u,fd,e _ _ _ h1,h2,h3,h4.mono e⟩
theorem Cw.mono {H H':Hp}(e:∀ a o u,H a=some (.frz o u)->H' a=some (.frz o u)):∀ {cs:List Addr}{vs:List V},Cw H cs vs->Cw H' cs vs
 | [],[],_=>trivial
 | _::_,_::_,⟨⟨oc,u,w,h1,h2,h3⟩,t⟩=>⟨⟨oc,u,w,e _ _ _ h1,h2,h3⟩,Cw.mono e t⟩
theorem Zc.mono {H H':Hp}(e:∀ a o u,H a=some (.frz o u)->H' a=some (.frz o u)) {a:Addr}{I:CloI}{xs:List V}(h:Zc H a I xs):Zc H' a I xs :=
 let ⟨o,u,fd,cl,h1,h2,h3,h4,h5,h6,h7,h8⟩:=h;⟨o,u,fd,cl,e _ _ _ h1,h2,h3,h4,h5.mono e,h6,h7,h8.mono e⟩
mutual
theorem RD.mono {K:PySem.W.Frag}{H H':Hp}{ρ ρ':List Addr}(e:Ev K H ρ H' ρ'):∀ {d:D}{v:V},RD K H ρ d v->RD K H' ρ' d v
 | _,_,.non=>.non
 | _,_,.bl b=>.bl b
 | _,_,.int i=>.int i
 | _,_,.str x=>.str x
 | _,_,.tup s r=>.tup (e.tup _ _ s) (RDs.mono e r)
 | _,_,.ref h=>.ref (e.at h)
 | _,_,.rol s r=>.rol (e.perm _ _ s) (RDs.mono e r)
 | _,_,.obj n s l r=>.obj n (e.ins _ _ _ _ s) l (RDs.mono e r)
 | _,_,.fn h=>.fn h
 | _,_,.lam h=>.lam (h.mono e.frz)
 | _,_,.clo h r=>.clo (h.mono e.frz) (RDs.mono e r)
theorem RDs.mono {K:PySem.W.Frag}{H H':Hp}{ρ ρ':List Addr}(e:Ev K H ρ H' ρ'):∀ {ds:List D}{vs:List V},RDs K H ρ ds vs->RDs K H' ρ' ds vs
 | _,_,.nil=>.nil
 | _,_,.cons r t=>.cons (RD.mono e r) (RDs.mono e t)
end
section
variable {K:PySem.W.Frag}{H H':Hp}{ρ ρ':List Addr}
theorem RDs.length:∀ {ds:List D}{vs:List V},RDs K H ρ ds vs->ds.length=vs.length
 | _,_,.nil=>rfl
 | _,_,.cons _ t=>by rw [List.length_cons,List.length_cons,RDs.length t]
theorem RDs.get:∀ {ds:List D}{vs:List V}{i:Nat}{d:D},RDs K H ρ ds vs->ds[i]?=some d->∃ v,vs[i]?=some v/\RD K H ρ d v
 | _,_,_,_,.nil,e=>by simp at e
 | _,_,0,_,.cons r _,e=>by simp at e;subst e;exact ⟨_,by simp,r⟩
 | _,_,i+1,d,.cons _ t,e=>by
  obtain ⟨v,h1,h2⟩:=RDs.get (i:=i) (d:=d) t (by simpa using e);exact ⟨v,by simpa using h1,h2⟩
theorem RDs.append:∀ {ds es:List D}{vs us:List V},RDs K H ρ ds vs->RDs K H ρ es us->RDs K H ρ (ds++es) (vs++us)
 | _,_,_,_,.nil,s=>s
 | _,_,_,_,.cons r t,s=>.cons r (RDs.append t s)
theorem RDs.take:∀ {ds:List D}{vs:List V}(n:Nat),RDs K H ρ ds vs->RDs K H ρ (ds.take n) (vs.take n)
 | _,_,0,_=>.nil
 | _,_,_+1,.nil=>.nil
 | _,_,n+1,.cons r t=>.cons r (RDs.take n t)
theorem RDs.drop:∀ {ds:List D}{vs:List V}(n:Nat),RDs K H ρ ds vs->RDs K H ρ (ds.drop n) (vs.drop n)
 | _,_,0,r=>r
 | _,_,_+1,.nil=>.nil
 | _,_,n+1,.cons _ t=>RDs.drop n t
theorem RDs.set {d:D}{v:V}(r:RD K H ρ d v):∀ {ds:List D}{vs:List V}(n:Nat),RDs K H ρ ds vs->RDs K H ρ (ds.set n d) (vs.set n v)
 | _,_,_,.nil=>.nil
 | _,_,0,.cons _ t=>.cons r t
 | _,_,n+1,.cons q t=>.cons q (RDs.set r n t)
theorem RDs.ints:∀ (ns:List Int),RDs K H ρ (ns.map D.int) (ns.map V.int)
 | []=>.nil
 | n::r=>.cons (.int n) (RDs.ints r)
noncomputable def Agp (K:PySem.W.Frag) (a:Addr):Prop:=∃ (f:Addr) (o:Obj) (fd:FuncData) (c bm:Addr) (ob:Obj),PySem.W.nsIn K mainGlobals "pattern_of"=some (some (.ref f))/\K.lookup f=some o/\o.data=.func fd/\fd.code=.ref c/\PySem.W.codeHdIn K c a=true /\
  PySem.W.nsIn K mainGlobals "__builtins__"=some (some (.ref bm))/\K.lookup bm=some ob/\ob.cls=.type "module"/\ob.dict=some builtinsNs/\ob.data=.plain/\bm≠builtinsNs/\bm≠mainGlobals
noncomputable abbrev sG:Str:=("pattern_of":Str) ++ ".<locals>." ++ "<lambda>"
noncomputable def fV (K:PySem.W.Frag) (H:Hp) (a:Addr):Prop:=∃ ps,H a=some (.tbl ps)/\TriplesOk ps.toList/\(∀ pos v,codeAmong pos ps.toList=some v->Nk H v sG)/\Agp K a
noncomputable def fW (K:PySem.W.Frag) (x:Str) (a:Addr):Prop:=∃ (f:Addr) (o:Obj) (fd:FuncData) (c bm:Addr) (ob:Obj),PySem.W.nsIn K mainGlobals x=some (some (.ref f))/\K.lookup f=some o/\o.data=.func fd/\fd.code=.ref c/\PySem.W.codeHdIn K c a=true /\
  PySem.W.nsIn K mainGlobals "__builtins__"=some (some (.ref bm))/\K.lookup bm=some ob/\ob.cls=.type "module"/\ob.dict=some builtinsNs/\ob.data=.plain/\bm≠builtinsNs/\bm≠mainGlobals
noncomputable abbrev fX (x:Str):Str:=x ++ ".<locals>." ++ "_law_pick"
noncomputable def fY (K:PySem.W.Frag) (H:Hp) (x:Str) (a:Addr):Prop:=∃ ps,H a=some (.tbl ps)/\TriplesOk ps.toList/\(∀ pos v,codeAmong pos ps.toList=some v->Nk H v (fX x))/\fW K x a
noncomputable def RO (K:PySem.W.Frag) (H:Hp) (ρ:List Addr) (a:Addr):MO->Prop
 | .lst ds=>∃ xs,H a=some (.lst xs)/\RDs K H ρ ds xs
 | .plc=>fV K H a
 | .plq x=>fY K H x a
 | .dct kvs=>∃ xs:List (Key×V),H a=some (.dK xs)/\xs.map (·.1)=kvs.map (·.1)/\RDs K H ρ (kvs.map (·.2)) (xs.map (·.2))
structure RS (K:PySem.W.Frag) (H:Hp) (ρ:List Addr) (mh:MH):Prop where
 len:ρ.length=mh.length
 nd:ρ.Nodup
 obj:∀ (n:Nat) (a:Addr) (o:MO),ρ[n]?=some a->mh[n]?=some o->RO K H ρ a o
noncomputable def RL (K:PySem.W.Frag) (H:Hp) (ρ:List Addr) (loc:Loc) (σ:St):Prop:=loc.length=σ.length/\∀ (i:Nat) (d:D),loc[i]?=some (some d)->∃ v,σ[i]?=some (some v)/\RD K H ρ d v
theorem RL.mono {loc:Loc}{σ:St}(e:Ev K H ρ H' ρ') (h:RL K H ρ loc σ):RL K H' ρ' loc σ:=⟨h.1,fun i d q=>let ⟨v,e1,r⟩:=h.2 i d q;⟨v,e1,r.mono e⟩⟩
theorem RL.set {loc:Loc}{σ:St}{d:D}{v:V}{i:Nat}(h:RL K H ρ loc σ) (r:RD K H ρ d v):RL K H ρ (loc.set i (some d)) (σ.set i (some v)):=by
 refine ⟨by rw [List.length_set,List.length_set];exact h.1,fun j d' q=>?_⟩
 by_cases e:i=j
 ·subst e;rw [List.getElem?_set] at q;simp only [if_true] at q;split at q
  ·rename_i hl;cases q;refine ⟨v,?_,r⟩;rw [List.getElem?_set];simp only [if_true];rw [if_pos (by rw [← h.1];exact hl)]
  ·cases q
 ·rw [List.getElem?_set_ne e] at q;rw [List.getElem?_set_ne e];exact h.2 j d' q
theorem RS.at {mh:MH}(h:RS K H ρ mh) {n:Nat}{o:MO}(e:mh[n]?=some o):∃ a,ρ[n]?=some a/\RO K H ρ a o:=by
 obtain ⟨hl,_⟩:=List.getElem?_eq_some_iff.mp e;have hl':n < ρ.length:=by rw [h.len];exact hl
 exact ⟨ρ[n],List.getElem?_eq_getElem hl',h.obj n _ o (List.getElem?_eq_getElem hl') e⟩
theorem RS.tracked {mh:MH}(h:RS K H ρ mh) {a:Addr}(ha:a∈ρ):∃ o,H a=some o:=by
 obtain ⟨n,hn,rfl⟩:=List.getElem_of_mem ha;have hl:n < mh.length:=by rw [← h.len];exact hn
 have q:=h.obj n _ _ (List.getElem?_eq_getElem hn) (List.getElem?_eq_getElem hl);cases e:mh[n] with
 | lst ds=>rw [e] at q;obtain ⟨xs,q,_⟩:=q;exact ⟨_,q⟩
 | dct kvs=>rw [e] at q;obtain ⟨xs,q,_⟩:=q;exact ⟨_,q⟩
 | plc=>rw [e] at q;obtain ⟨xs,q,_⟩:=q;exact ⟨_,q⟩
 | plq x=>rw [e] at q;obtain ⟨xs,q,_⟩:=q;exact ⟨_,q⟩
theorem RO.read {a:Addr}{ds:List D}(h:RO K H ρ a (.lst ds)):∃ xs,SqL K H a xs/\RDs K H ρ ds xs:=by
 obtain ⟨xs,q,r⟩:=h;exact ⟨xs,.inl (.inl q),r⟩
theorem Zd {a p:Addr}{o:HO}{xs:List V}(hp:H p=none) (h:SqT K H a xs):SqT K (upd H p o) a xs:=by
 rcases h with (h|⟨ob,h⟩)|h
 ·exact .inl (.inl (by rw [Af (Al h hp)];exact h))
 ·exact .inl (.inr ⟨ob,by rw [Af (Al h hp)];exact h⟩)
 ·exact .inr h
theorem sH {a p:Addr}{ys zs xs:List V}(hp:H p=some (.lst ys)) (h:SqT K H a xs):SqT K (upd H p (.lst zs)) a xs:=by
 rcases h with (h|⟨ob,h⟩)|h
 ·exact .inl (.inl (by rw [Af (Kl h hp (by intro z;cases z))];exact h))
 ·exact .inl (.inr ⟨ob,by rw [Af (Kl h hp (by intro z;cases z))];exact h⟩)
 ·exact .inr h
theorem Ux {a p:Addr}{o:HO}{xs:List V}(hp:H p=none) (h:H9 K H a xs):H9 K (upd H p o) a xs:=by
 rcases h with ⟨ob,h⟩|h
 ·exact .inl ⟨ob,by rw [Af (Al h hp)];exact h⟩
 ·exact .inr h
theorem fZ {a p:Addr}{ys zs xs:List V}(hp:H p=some (.lst ys)) (h:H9 K H a xs):H9 K (upd H p (.lst zs)) a xs:=by
 rcases h with ⟨ob,h⟩|h
 ·exact .inl ⟨ob,by rw [Af (Kl h hp (by intro z;cases z))];exact h⟩
 ·exact .inr h
theorem Ev.new {p:Addr}{o:HO}(hp:H p=none):Ev K H ρ (upd H p o) ρ:=⟨fun _ _ h=>Zd hp h,List.prefix_refl _,fun _ _ h=>Ux hp h,fun a _ _ _ h=>by rw [Af (Al h hp)];exact h,fun a _ _ h=>by rw [Af (Al h hp)];exact h⟩
theorem Ev.newL {p:Addr}{o:HO}(hp:H p=none):Ev K H ρ (upd H p o) (ρ++[p]):=⟨fun _ _ h=>Zd hp h,List.prefix_append _ _,fun _ _ h=>Ux hp h,fun a _ _ _ h=>by rw [Af (Al h hp)];exact h,fun a _ _ h=>by rw [Af (Al h hp)];exact h⟩
theorem Ev.lst {p:Addr}{ys zs:List V}(hp:H p=some (.lst ys)):Ev K H ρ (upd H p (.lst zs)) ρ:=⟨fun _ _ h=>sH hp h,List.prefix_refl _,fun _ _ h=>fZ hp h,fun a _ _ _ h=>by rw [Af (Kl h hp (by intro z;cases z))];exact h,fun a _ _ h=>by rw [Af (Kl h hp (by intro z;cases z))];exact h⟩
theorem RO.mono {a:Addr}{o:MO}(e:Ev K H ρ H' ρ') (s:H' a=H a) (h:RO K H ρ a o):RO K H' ρ' a o:=by
 cases o with
 | lst ds=>obtain ⟨xs,q,r⟩:=h;exact ⟨xs,by rw [s];exact q,r.mono e⟩
 | dct kvs=>obtain ⟨xs,q,k,r⟩:=h;exact ⟨xs,by rw [s];exact q,k,r.mono e⟩
 | plc=>obtain ⟨ps,q,t,c,k⟩:=h;exact ⟨ps,by rw [s];exact q,t,fun pos v z=>(c pos v z).mono e.frz,k⟩
 | plq x=>obtain ⟨ps,q,t,c,k⟩:=h;exact ⟨ps,by rw [s];exact q,t,fun pos v z=>(c pos v z).mono e.frz,k⟩
theorem RS.new {mh:MH}{p:Addr}{o:HO}(h:RS K H ρ mh) (hp:H p=none):RS K (upd H p o) ρ mh :=
 ⟨h.len,h.nd,fun n a ob e1 e2=>(h.obj n a ob e1 e2).mono (Ev.new hp) (by
  obtain ⟨oo,q⟩:=h.tracked (List.mem_of_getElem? e1)
  rw [Af (Al q hp)])⟩
theorem RS.newL {mh:MH}{p:Addr}{xs:List V}{ds:List D}(h:RS K H ρ mh) (hp:H p=none) (r:RDs K H ρ ds xs):RS K (upd H p (.lst xs)) (ρ++[p]) (mh++[.lst ds]):=by
 have hnp:p ∉ ρ:=fun z=>by
  obtain ⟨o,q⟩:=h.tracked z;rw [hp] at q;cases q
 refine ⟨by rw [List.length_append,List.length_append,h.len];rfl,?_,fun n a ob e1 e2=>?_⟩
 ·rw [List.nodup_append]
  exact ⟨h.nd,List.pairwise_singleton _ _,fun a ha b hb z=>by
   rw [List.mem_singleton.mp hb] at z;rw [z] at ha;exact hnp ha⟩
 ·by_cases hn:n < ρ.length
  ·rw [List.getElem?_append_left hn] at e1;rw [List.getElem?_append_left (by rw [← h.len];exact hn)] at e2;refine (h.obj n a ob e1 e2).mono (Ev.newL hp) ?_;obtain ⟨oo,q⟩:=h.tracked (List.mem_of_getElem? e1);rw [Af (Al q hp)]
  ·rw [List.getElem?_append_right (by omega)] at e1;rw [List.getElem?_append_right (by rw [← h.len];omega)] at e2;have n0:n - ρ.length=0:=by
    have:=(List.getElem?_eq_some_iff.mp e1).1;simp at this;omega
   rw [n0] at e1;rw [← h.len,n0] at e2;cases e1;cases e2;exact ⟨xs,Bb,r.mono (Ev.newL hp)⟩
theorem RS.setL {mh:MH}{n:Nat}{p:Addr}{ys xs:List V}{ds:List D}(h:RS K H ρ mh) (hn:ρ[n]?=some p) (hp:H p=some (.lst ys)) (r:RDs K H ρ ds xs):RS K (upd H p (.lst xs)) ρ (mh.set n (.lst ds)):=by
 refine ⟨by rw [List.length_set];exact h.len,h.nd,fun m a ob e1 e2=>?_⟩
 by_cases hm:n=m
 ·subst hm;rw [hn] at e1;cases e1;rw [List.getElem?_set] at e2;simp only [if_true] at e2;split at e2
  ·cases e2;exact ⟨xs,Bb,r.mono (Ev.lst hp)⟩
  ·cases e2
 ·rw [List.getElem?_set_ne hm] at e2;refine (h.obj m a ob e1 e2).mono (Ev.lst hp) ?_;rw [Af];intro z;subst z;exact hm ((List.getElem?_inj (List.getElem?_eq_some_iff.mp hn).1 h.nd).mp (hn.trans e1.symm))
end
noncomputable abbrev DM (α:Type):=Loc->MH->Option (α×MH)
noncomputable def DM.bnd {α β:Type}(m:DM α) (f:α->DM β):DM β:=fun loc mh=>match m loc mh with
 | none=>none
 | some (a,mh')=>f a loc mh'
theorem Aw {α β:Type}{m:DM α}{f:α->DM β}{loc:Loc}{mh:MH}{r:β×MH}(h:m.bnd f loc mh=some r):∃ a m1,m loc mh=some (a,m1)/\f a loc m1=some r:=by
 unfold DM.bnd at h;split at h
 ·cases h
 ·rename_i a m1 e;exact ⟨a,m1,e,h⟩
noncomputable def Zr {α:Type}(a:α):DM α:=fun _ mh=>some (a,mh)
noncomputable def Zl {α:Type}(f:MH->Option (α×MH)):DM α:=fun _ mh=>f mh
noncomputable def Zb {α:Type}:DM α:=fun _ _=>none
noncomputable def Co (K:PySem.W.Frag) (H:Hp) (ρ:List Addr) (mh':MH) (d:D) (Q:VK):Prop:=∀ H' ρ' v,Ev K H ρ H' ρ'->RS K H' ρ' mh'->RD K H' ρ' d v->Q v H'
noncomputable def tD (K:PySem.W.Frag) (loc:Loc) (mh:MH) (r:Option (D×MH)):TE:=fun σ H Q=>∃ ρ d mh',r=some (d,mh')/\RL K H ρ loc σ/\RS K H ρ mh/\Co K H ρ mh' d Q
noncomputable def tDT (K:PySem.W.Frag) (loc:Loc) (mh:MH) (r:Option (Bool×MH)):TT:=fun σ H Q=>∃ ρ b mh',r=some (b,mh')/\RL K H ρ loc σ/\RS K H ρ mh/\∀ H' ρ',Ev K H ρ H' ρ'->RS K H' ρ' mh'->Q b H'
noncomputable def tDA (K:PySem.W.Frag) (loc:Loc) (mh:MH) (r:Option (List D×MH)):TA:=fun σ H Q=>∃ ρ ds mh',r=some (ds,mh')/\RL K H ρ loc σ/\RS K H ρ mh/\∀ H' ρ' vs,Ev K H ρ H' ρ'->RS K H' ρ' mh'->RDs K H' ρ' ds vs->Q vs H'
noncomputable def DE (X:Cx) (e:Expr) (m:DM D):Prop:=∀ loc mh,PE X e (tD X.K loc mh (m loc mh))
noncomputable def DT (X:Cx) (e:Expr) (m:DM Bool):Prop:=∀ loc mh,PT X e (tDT X.K loc mh (m loc mh))
noncomputable def DA (X:Cx) (es:List Expr) (m:DM (List D)):Prop:=∀ loc mh,PA X es (tDA X.K loc mh (m loc mh))
theorem Bk {X:Cx}{e:Expr}{t t':TE}(h:PE X e t) (i:∀ σ H Q,t' σ H Q->t σ H Q):PE X e t':=fun pins s σ H Q I q=>h pins s σ H Q I (i σ H Q q)
theorem S6 {X:Cx}{e:Expr}{t t':TT}(h:PT X e t) (i:∀ σ H Q,t' σ H Q->t σ H Q):PT X e t':=fun pins s σ H Q I q=>h pins s σ H Q I (i σ H Q q)
theorem gA {X:Cx}{es:List Expr}{t t':TA}(h:PA X es t) (i:∀ σ H Q,t' σ H Q->t σ H Q):PA X es t':=fun pos pins s σ H Q I q=>h pos pins s σ H Q I (i σ H Q q)
theorem sI {K:PySem.W.Frag}{loc:Loc}{mh:MH}{σ:St}{H:Hp}{Q:VK}(h:tD K loc mh none σ H Q):False:=by obtain ⟨_,_,_,e,_⟩:=h;cases e
theorem Bl {X:Cx}{e:Expr}{loc:Loc}{mh:MH}:PE X e (tD X.K loc mh none):=fun _ _ _ _ _ _ h=>(sI h).elim
theorem Ze {X:Cx}{e:Expr}{loc:Loc}{mh:MH}:PT X e (tDT X.K loc mh none):=fun _ _ _ _ _ _ h=>by obtain ⟨_,_,_,e,_⟩:=h;cases e
theorem Zf {X:Cx}{es:List Expr}{loc:Loc}{mh:MH}:PA X es (tDA X.K loc mh none):=fun _ _ _ _ _ _ _ h=>by obtain ⟨_,_,_,e,_⟩:=h;cases e
theorem Ay {X:Cx}{e:Expr}:DE X e Zb:=fun _ _=>Bl
theorem Eh {X:Cx}{e:Expr}:DT X e Zb:=fun _ _=>Ze
theorem gB {X:Cx}{es:List Expr}:DA X es Zb:=fun _ _=>Zf
section
variable {X:Cx}{a b c e:Expr}{ma mb mc:DM D}{pos:Pos}
theorem sJ {d:D}{v:V}(h:PE X e (tC v)) (r:∀ K H ρ,RD K H ρ d v):DE X e (Zr d):=by
 refine fun loc mh=>Bk h ?_
 rintro σ H Q ⟨ρ,d',mh',q,rl,rs,co⟩;cases q;exact co H ρ v Ev.refl rs (r _ _ _)
theorem gC {i:Nat}{x:Str}(hN:X.N[i]?=some x) (hv:Vis X.env.scope x) (hd:(x==("__debug__":Str))=false) (hcd:(x==("__classdict__":Str))=false) :
  DE X (.Name x pos) (fun loc mh=>match loc[i]? with | some (some d)=>some (d,mh) | _=>none):=by
 refine fun loc mh=>Bk (Hx hN hv hd hcd) ?_
 rintro σ H Q ⟨ρ,d',mh',q,rl,rs,co⟩;dsimp only at q;split at q
 ·rename_i d e;cases q;obtain ⟨v,h1,h2⟩:=rl.2 i d' e;exact ⟨v,h1,co H ρ v Ev.refl rs h2⟩
 ·cases q
noncomputable def rD (K:PySem.W.Frag) (f:D->D->MH->Option (D×MH)):R2:=fun x y H Q=>∃ ρ mh dx dy d mh',f dx dy mh=some (d,mh')/\RS K H ρ mh/\RD K H ρ dx x/\RD K H ρ dy y/\Co K H ρ mh' d Q
noncomputable def rD1 (K:PySem.W.Frag) (f:D->MH->Option (D×MH)):V->Hp->VK->Prop:=fun x H Q=>∃ ρ mh dx d mh',f dx mh=some (d,mh')/\RS K H ρ mh/\RD K H ρ dx x/\Co K H ρ mh' d Q
noncomputable def rDs (K:PySem.W.Frag) (f:List D->MH->Option (D×MH)):List V->Hp->VK->Prop:=fun xs H Q=>∃ ρ mh ds d mh',f ds mh=some (d,mh')/\RS K H ρ mh/\RDs K H ρ ds xs/\Co K H ρ mh' d Q
theorem Co.ev {K:PySem.W.Frag}{H H1:Hp}{ρ ρ1:List Addr}{mh':MH}{d:D}{Q:VK}(e:Ev K H ρ H1 ρ1) (c:Co K H ρ mh' d Q):Co K H1 ρ1 mh' d Q:=fun H' ρ' v e' rs r=>c H' ρ' v (e.trans e') rs r
noncomputable def dop (f:D->D->MH->Option (D×MH)) (ma mb:DM D):DM D:=ma.bnd fun x=>mb.bnd fun y=>Zl (f x y)
theorem two {K:PySem.W.Frag}{f:D->D->MH->Option (D×MH)}{loc:Loc}{mh:MH}{σ:St}{H:Hp}{Q:VK}(h:tD K loc mh (dop f ma mb loc mh) σ H Q) :
  ∃ x m1,ma loc mh=some (x,m1)/\tOp (rD K f) (tD K loc mh (ma loc mh)) (tD K loc m1 (mb loc m1)) σ H Q:=by
 obtain ⟨ρ,d,mh',q,rl,rs,co⟩:=h;obtain ⟨x,m1,ea,q⟩:=Aw q;obtain ⟨y,m2,eb,q⟩:=Aw q;refine ⟨x,m1,ea,ρ,x,m1,ea,rl,rs,fun H1 ρ1 v1 e1 rs1 r1=>⟨ρ1,y,m2,eb,rl.mono e1,rs1,fun H2 ρ2 v2 e2 rs2 r2=>?_⟩⟩;exact ⟨ρ2,m2,x,y,d,mh',q,rs2,r1.mono e2,r2,co.ev (e1.trans e2)⟩
theorem W7 {f:D->D->MH->Option (D×MH)}(h:∀ ta tb,PE X a ta->PE X b tb->PE X e (tOp (rD X.K f) ta tb)) (ha:DE X a ma) (hb:DE X b mb):DE X e (dop f ma mb):=fun loc mh=>by
 cases ea:ma loc mh with
 | none =>
  have:dop f ma mb loc mh=none:=by unfold dop DM.bnd;rw [ea]
  rw [this];exact Bl
 | some p =>
  refine Bk (h _ _ (ha loc mh) (hb loc p.2)) fun σ H Q q=>?_
  obtain ⟨x,m1,e1,q⟩:=two q;rw [ea] at e1;cases e1;exact q
theorem Aem {op:Operator}{f:D->D->MH->Option (D×MH)}(ho:OpR X (binaryOp op) (rD X.K f)) (ha:DE X a ma) (hb:DE X b mb):DE X (.BinOp a op b pos) (dop f ma mb):=W7 (fun _ _ p q=>Ad4 ho p q) ha hb
theorem zW {op:CmpOp}{f:D->D->MH->Option (D×MH)}(ho:OpR X (compareOp op) (rD X.K f)) (hm:behindInMarks op b=false) (ha:DE X a ma) (hb:DE X b mb):DE X (.Compare a [op] [b] pos) (dop f ma mb):=W7 (fun _ _ p q=>rC ho p q hm) ha hb
theorem Aen {f:D->D->MH->Option (D×MH)}(ho:IxR X (rD X.K f)) (hs:Sg b) (ha:DE X a ma) (hb:DE X b mb):DE X (.Subscript a b pos) (dop f ma mb):=W7 (fun _ _ p q=>Aeg ho p q hs) ha hb
theorem Aeo {op:UnaryOp}{f:D->MH->Option (D×MH)}(ho:UnR X (unaryOp op) (rD1 X.K f)) (ha:DE X a ma):DE X (.UnaryOp op a pos) (ma.bnd fun x=>Zl (f x)):=fun loc mh =>
 Bk (Ad5 ho (ha loc mh)) fun σ H Q ⟨ρ,d,mh',q,rl,rs,co⟩=>by
 obtain ⟨x,m1,ea,q⟩:=Aw q
 ·exact ⟨ρ,x,m1,ea,rl,rs,fun H1 ρ1 v1 e1 rs1 r1=>⟨ρ1,m1,x,d,mh',q,rs1,r1,co.ev e1⟩⟩
noncomputable def asB:D->Option Bool
 | .bl b=>some b
 | _=>none
noncomputable def Ah (ma:DM D):DM Bool:=ma.bnd fun x=>match asB x with | some b=>Zr b | none=>Zb
theorem sO {f:D->D->MH->Option (D×MH)}(h:∀ ta tb,PE X a ta->PE X b tb->PT X e (eU (tOp (rD X.K f) ta tb))) (ha:DE X a ma) (hb:DE X b mb):DT X e (Ah (dop f ma mb)):=fun loc mh=>by
 cases ea:ma loc mh with
 | none =>
  have:Ah (dop f ma mb) loc mh=none:=by unfold Ah dop DM.bnd;rw [ea]
  rw [this];exact Ze
 | some p =>
  refine S6 (h _ _ (ha loc mh) (hb loc p.2)) ?_;rintro σ H Q ⟨ρ,k,mh',q,rl,rs,co⟩;unfold Ah at q;cases ed:dop f ma mb loc mh with
  | none=>unfold DM.bnd at q;rw [ed] at q;cases q
  | some z =>
   obtain ⟨d,m2⟩:=z;unfold DM.bnd at q;rw [ed] at q;cases d with
   | bl k' =>
    cases q;have t:tD X.K loc mh (dop f ma mb loc mh) σ H (fun x H'=>∃ k,x=.bl k/\Q k H'):=⟨ρ,.bl k,mh',ed,rl,rs,fun H' ρ' v e' rs' r'=>by cases r';exact ⟨k,rfl,co H' ρ' e' rs'⟩⟩;obtain ⟨x,m1,e1,q⟩:=two t;rw [ea] at e1;cases e1;exact q
   | non=>cases q
   | int i=>cases q
   | str s=>cases q
   | tup ds=>cases q
   | ref n=>cases q
   | rol ds=>cases q
   | obj c ks ds=>cases q
   | fn x=>cases q
   | lam=>cases q
   | clo=>cases q
theorem zX {op:CmpOp}{f:D->D->MH->Option (D×MH)}(ho:OpR X (compareOp op) (rD X.K f)) (hm:behindInMarks op b=false) (ha:DE X a ma) (hb:DE X b mb):DT X (.Compare a [op] [b] pos) (Ah (dop f ma mb)):=sO (fun _ _ p q=>rE ho p q hm) ha hb
noncomputable def Dr (t u:DM Bool):DM Bool:=t.bnd fun c=>if c=true then u else Zr false
noncomputable def J1 (t u:DM Bool):DM Bool:=t.bnd fun c=>if c=true then Zr true else u
noncomputable def Hv (t:DM Bool):DM Bool:=t.bnd fun c=>Zr (!c)
noncomputable def DW (X:Cx) (e:Expr) (m:DM Bool):Prop:=∀ loc mh,PW X e (tDT X.K loc mh (m loc mh))
theorem Zg {loc:Loc}{mh:MH}:PW X e (tDT X.K loc mh none):=fun _ _ _ _ _ _ _ h=>by obtain ⟨_,_,_,e,_⟩:=h;cases e
theorem gD {t t':TT}(h:PW X e t) (i:∀ σ H Q,t' σ H Q->t σ H Q):PW X e t':=fun wh pins s σ H Q I q=>h wh pins s σ H Q I (i σ H Q q)
theorem DW.dt {m:DM Bool}(h:DW X e m):DT X e m:=fun loc mh=>(h loc mh).pt
variable {t u:DM Bool}{rest:List Expr}
theorem sS (ha:DT X a t):DW X (.BoolOp .And [a] pos) t:=fun loc mh=>qQ (ha loc mh)
theorem zY (ha:DT X a t):DW X (.BoolOp .Or [a] pos) t:=fun loc mh=>xZ (ha loc mh)
theorem zZ (ha:DT X a t) (hb:DW X (.BoolOp .And (b::rest) pos) u):DW X (.BoolOp .And (a::b::rest) pos) (Dr t u):=fun loc mh=>by
 cases ea:t loc mh with
 | none =>
  have:Dr t u loc mh=none:=by unfold Dr DM.bnd;rw [ea]
  rw [this];exact Zg
 | some p =>
  obtain ⟨k,m1⟩:=p;refine gD (yC (ha loc mh) (hb loc m1)) ?_;rintro σ H Q ⟨ρ,k',mh',q,rl,rs,co⟩;have q':(if k=true then u else Zr false) loc m1=some (k',mh'):=by unfold Dr DM.bnd at q;rw [ea] at q;exact q
  refine ⟨ρ,k,m1,ea,rl,rs,fun H1 ρ1 e1 rs1=>?_⟩;cases k with
  | true=>exact Sx ⟨ρ1,k',mh',q',rl.mono e1,rs1,fun H2 ρ2 e2 rs2=>co H2 ρ2 (e1.trans e2) rs2⟩
  | false=>cases q';exact Sw (co H1 ρ1 e1 rs1)
theorem Aep (ha:DT X a t) (hb:DW X (.BoolOp .Or (b::rest) pos) u):DW X (.BoolOp .Or (a::b::rest) pos) (J1 t u):=fun loc mh=>by
 cases ea:t loc mh with
 | none =>
  have:J1 t u loc mh=none:=by unfold J1 DM.bnd;rw [ea]
  rw [this];exact Zg
 | some p =>
  obtain ⟨k,m1⟩:=p;refine gD (Ads (ha loc mh) (hb loc m1)) ?_;rintro σ H Q ⟨ρ,k',mh',q,rl,rs,co⟩;have q':(if k=true then Zr true else u) loc m1=some (k',mh'):=by unfold J1 DM.bnd at q;rw [ea] at q;exact q
  refine ⟨ρ,k,m1,ea,rl,rs,fun H1 ρ1 e1 rs1=>?_⟩;cases k with
  | true=>cases q';exact Sx (co H1 ρ1 e1 rs1)
  | false=>exact Sw ⟨ρ1,k',mh',q',rl.mono e1,rs1,fun H2 ρ2 e2 rs2=>co H2 ρ2 (e1.trans e2) rs2⟩
theorem Aaa (ha:DT X a t):DT X (.UnaryOp .Not a pos) (Hv t):=fun loc mh=>by
 refine S6 (yD (ha loc mh)) ?_;rintro σ H Q ⟨ρ,k',mh',q,rl,rs,co⟩;obtain ⟨k,m1,ea,q⟩:=Aw q
 ·cases q;exact ⟨ρ,k,mh',ea,rl,rs,fun H1 ρ1 e1 rs1=>co H1 ρ1 e1 rs1⟩
noncomputable def dIf (t:DM Bool) (ma mb:DM D):DM D:=t.bnd fun c=>if c=true then ma else mb
theorem Aeq (hc:DT X c t) (ha:DE X a ma) (hb:DE X b mb):DE X (.IfExp c a b pos) (dIf t ma mb):=fun loc mh=>by
 cases ea:t loc mh with
 | none =>
  have:dIf t ma mb loc mh=none:=by unfold dIf DM.bnd;rw [ea]
  rw [this];exact Bl
 | some p =>
  obtain ⟨k,m1⟩:=p;refine Bk (dX (hc loc mh) (ha loc m1) (hb loc m1)) ?_;rintro σ H Q ⟨ρ,d,mh',q,rl,rs,co⟩;have q':(if k=true then ma else mb) loc m1=some (d,mh'):=by unfold dIf DM.bnd at q;rw [ea] at q;exact q
  refine ⟨ρ,k,m1,ea,rl,rs,fun H1 ρ1 e1 rs1=>?_⟩;cases k with
  | true=>exact Sx ⟨ρ1,d,mh',q',rl.mono e1,rs1,co.ev e1⟩
  | false=>exact Sw ⟨ρ1,d,mh',q',rl.mono e1,rs1,co.ev e1⟩
noncomputable def Fo (ma mb:DM D):DM D:=(Ah ma).bnd fun c=>if c=true then mb else Zr (.bl false)
noncomputable def gF (ma mb:DM D):DM D:=(Ah ma).bnd fun c=>if c=true then Zr (.bl true) else mb
theorem Fp {loc:Loc}{mh:MH}{k:Bool}{m1:MH}(h:Ah ma loc mh=some (k,m1)):ma loc mh=some (.bl k,m1):=by
 obtain ⟨x,m2,ea,h⟩:=Aw h
 ·cases x with
  | bl b=>cases h;exact ea
  | non=>cases h
  | int i=>cases h
  | str s=>cases h
  | tup ds=>cases h
  | ref n=>cases h
  | rol ds=>cases h
  | obj c ks ds=>cases h
  | fn x=>cases h
  | lam=>cases h
  | clo=>cases h
theorem Aab {op}(ha:DE X a ma):DE X (.BoolOp op [a] pos) ma:=fun loc mh=>yE (ha loc mh)
theorem Aac (ha:DE X a ma) (hb:DE X (.BoolOp .And (b::rest) pos) mb):DE X (.BoolOp .And (a::b::rest) pos) (Fo ma mb):=fun loc mh=>by
 cases ea:Ah ma loc mh with
 | none =>
  have:Fo ma mb loc mh=none:=by unfold Fo DM.bnd;rw [ea]
  rw [this];exact Bl
 | some p =>
  obtain ⟨k,m1⟩:=p;refine Bk (yF (ha loc mh) (hb loc m1)) ?_;rintro σ H Q ⟨ρ,d,mh',q,rl,rs,co⟩;have q':(if k=true then mb else Zr (.bl false)) loc m1=some (d,mh'):=by unfold Fo DM.bnd at q;rw [ea] at q;exact q
  refine ⟨ρ,.bl k,m1,Fp ea,rl,rs,fun H1 ρ1 v e1 rs1 r1=>?_⟩;cases r1;refine ⟨k,rfl,?_⟩;cases k with
  | true=>exact Sx ⟨ρ1,d,mh',q',rl.mono e1,rs1,co.ev e1⟩
  | false=>cases q';exact Sw (co H1 ρ1 _ e1 rs1 (.bl false))
theorem Aer (ha:DE X a ma) (hb:DE X (.BoolOp .Or (b::rest) pos) mb):DE X (.BoolOp .Or (a::b::rest) pos) (gF ma mb):=fun loc mh=>by
 cases ea:Ah ma loc mh with
 | none =>
  have:gF ma mb loc mh=none:=by unfold gF DM.bnd;rw [ea]
  rw [this];exact Bl
 | some p =>
  obtain ⟨k,m1⟩:=p;refine Bk (Adv (ha loc mh) (hb loc m1)) ?_;rintro σ H Q ⟨ρ,d,mh',q,rl,rs,co⟩;have q':(if k=true then Zr (.bl true) else mb) loc m1=some (d,mh'):=by unfold gF DM.bnd at q;rw [ea] at q;exact q
  refine ⟨ρ,.bl k,m1,Fp ea,rl,rs,fun H1 ρ1 v e1 rs1 r1=>?_⟩;cases r1;refine ⟨k,rfl,?_⟩;cases k with
  | true=>cases q';exact Sx (co H1 ρ1 _ e1 rs1 (.bl true))
  | false=>exact Sw ⟨ρ1,d,mh',q',rl.mono e1,rs1,co.ev e1⟩
theorem Aad (ha:DE X a ma):DE X (.UnaryOp .Not a pos) ((Ah ma).bnd fun c=>Zr (.bl (!c))):=fun loc mh=>by
 refine Bk (yG (ha loc mh)) ?_;rintro σ H Q ⟨ρ,d,mh',q,rl,rs,co⟩;cases ea:Ah ma loc mh with
 | none=>unfold DM.bnd at q;rw [ea] at q;cases q
 | some p =>
  obtain ⟨k,m1⟩:=p;unfold DM.bnd at q;rw [ea] at q;cases q;refine ⟨ρ,.bl k,mh',Fp ea,rl,rs,fun H1 ρ1 v e1 rs1 r1=>?_⟩;cases r1;exact ⟨k,rfl,co H1 ρ1 _ e1 rs1 (.bl _)⟩
noncomputable def gG:D->MH->Option Bool
 | .non,_=>some false
 | .bl b,_=>some b
 | .int i,_=>some (i != 0)
 | .str y,_=>if y.length<=sizeLine then some ((y.length:Int) != 0) else none
 | .tup ds,_=>some (!ds.isEmpty)
 | .ref n,mh=>match mh[n]? with | some (.lst o)=>some (!o.isEmpty) | _=>none
 | .rol ds,_=>some (!ds.isEmpty)
 | .obj ..,_=>none
 | .fn _,_=>none
 | .lam,_=>none
 | .clo _ _,_=>none
theorem Ia {K:PySem.W.Frag}{H:Hp}{ρ:List Addr}{ds:List D}{xs:List V}(r:RDs K H ρ ds xs):ds.isEmpty=xs.isEmpty:=by cases r <;> rfl
theorem sU {K:PySem.W.Frag}{H:Hp}{ρ:List Addr}{mh:MH}{d:D}{v:V}{k:Bool}(rs:RS K H ρ mh) (r:RD K H ρ d v) (e:gG d mh=some k):zG K v H k:=by
 cases r with
 | non=>cases e;rfl
 | bl b=>cases e;rfl
 | int i=>cases e;rfl
 | str x =>
  have e:(if x.length<=sizeLine then some ((x.length:Int) != 0) else none)=some k:=e;split at e
  ·rename_i hz;cases e;exact ⟨hz,rfl⟩
  ·cases e
 | tup s r=>cases e;exact .inr (.inl ⟨_,s,by rw [Ia r]⟩)
 | rol s r=>cases e;exact .inl ⟨_,s.sq,by rw [Ia r]⟩
 | obj n s l r=>cases e
 | fn h=>cases e
 | lam h=>cases e
 | clo=>cases e
 | @ref n a h =>
  have e:(match mh[n]? with | some (.lst o)=>some (!o.isEmpty) | _=>none)=some k:=e;split at e
  ·rename_i o eo;cases e;obtain ⟨a',ha,ro⟩:=rs.at eo;rw [h] at ha;cases ha;obtain ⟨xs,q,r⟩:=ro.read;exact .inl ⟨xs,q,by rw [Ia r]⟩
  ·cases e
noncomputable def G6 (ma:DM D):DM Bool:=ma.bnd fun x=>fun _ mh=>match gG x mh with | some k=>some (k,mh) | none=>none
theorem Uy (ha:DE X a ma) (he:∀ whole,isTrue a X.env whole=(do let v ← whole;standAt a.pos;holding [v] (truthy v))):DT X a (G6 ma):=fun loc mh=>by
 refine S6 (eY (ha loc mh) he) ?_;rintro σ H Q ⟨ρ,k,mh',q,rl,rs,co⟩;obtain ⟨x,m1,ea,q⟩:=Aw q
 ·split at q
  ·rename_i k' ek;cases q;exact ⟨ρ,x,mh',ea,rl,rs,fun H1 ρ1 v e1 rs1 r1=>⟨k,sU rs1 r1 ek,co H1 ρ1 e1 rs1⟩⟩
  ·cases q
noncomputable def Aa (ma:DM D) (mr:DM (List D)):DM (List D):=ma.bnd fun x=>mr.bnd fun xs=>Zr (x::xs)
theorem gH:DA X [] (Zr []):=by
 refine fun loc mh=>gA Hh ?_
 rintro σ H Q ⟨ρ,ds,mh',q,rl,rs,co⟩;cases q;exact co H ρ [] Ev.refl rs .nil
theorem Nt {es:List Expr}{mr:DM (List D)}(ha:DE X a ma) (hr:DA X es mr) (hs:starEach (a::es) X.env=(false,eval a X.env)::starEach es X.env):DA X (a::es) (Aa ma mr):=fun loc mh=>by
 cases ea:ma loc mh with
 | none =>
  have:Aa ma mr loc mh=none:=by unfold Aa DM.bnd;rw [ea]
  rw [this];exact Zf
 | some p =>
  obtain ⟨x,m1⟩:=p;refine gA (Dq (ha loc mh) (hr loc m1) hs) ?_;rintro σ H Q ⟨ρ,ds,mh',q,rl,rs,co⟩;obtain ⟨x2,m2,ea2,q⟩:=Aw q;rw [ea] at ea2;cases ea2;obtain ⟨xs,m2,er,q'⟩:=Aw q
  ·cases q';exact ⟨ρ,x,m1,ea,rl,rs,fun H1 ρ1 v e1 rs1 r1=>⟨ρ1,xs,mh',er,rl.mono e1,rs1,fun H2 ρ2 vs e2 rs2 r2=>co H2 ρ2 _ (e1.trans e2) rs2 (.cons (r1.mono e2) r2)⟩⟩
noncomputable def Ra (ds:List D) (mh:MH):Option (D×MH):=if ds.length<=sizeLine then some (.tup ds,mh) else none
noncomputable def Rb (ds:List D) (mh:MH):Option (D×MH):=if ds.length<=sizeLine then some (.ref mh.length,mh++[.lst ds]) else none
theorem RS.last {K:PySem.W.Frag}{H:Hp}{ρ:List Addr}{mh:MH}(h:RS K H ρ mh) (p:Addr):(ρ++[p])[mh.length]?=some p:=by rw [← h.len];simp
theorem Co.newT {K:PySem.W.Frag}{H:Hp}{ρ:List Addr}{mh:MH}{ds:List D}{vs:List V}{Q:VK}(rs:RS K H ρ mh) (r:RDs K H ρ ds vs) (co:Co K H ρ mh (.tup ds) Q):∀ p,H p=none->Q (.ref p) (upd H p (.tup vs)):=fun p hp =>
 co _ ρ _ (Ev.new hp) (rs.new hp) (.tup (.inl (.inl Bb)) (r.mono (Ev.new hp)))
theorem Co.newL {K:PySem.W.Frag}{H:Hp}{ρ:List Addr}{mh:MH}{ds:List D}{vs:List V}{Q:VK}(rs:RS K H ρ mh) (r:RDs K H ρ ds vs) (co:Co K H ρ (mh++[.lst ds]) (.ref mh.length) Q):∀ p,H p=none->Q (.ref p) (upd H p (.lst vs)):=fun p hp =>
 co _ (ρ++[p]) _ (Ev.newL hp) (rs.newL hp r) (.ref (rs.last p))
theorem Aae {es:List Expr}{mr:DM (List D)}{x1}(h:DA X es mr):DE X (.Tuple es x1 pos) (mr.bnd fun ds=>Zl (Ra ds)):=fun loc mh=>by
 refine Bk (fG (h loc mh)) ?_;rintro σ H Q ⟨ρ,d,mh',q,rl,rs,co⟩;obtain ⟨ds,m1,ea,q⟩:=Aw q
 ·unfold Zl Ra at q;split at q
  ·rename_i hz;cases q;exact ⟨ρ,ds,mh',ea,rl,rs,fun H1 ρ1 vs e1 rs1 r1=>⟨by rw [← r1.length];exact hz,Co.newT rs1 r1 (co.ev e1)⟩⟩
  ·cases q
theorem Aaf {es:List Expr}{mr:DM (List D)}(h:DA X es mr):DE X (.List es pos) (mr.bnd fun ds=>Zl (Rb ds)):=fun loc mh=>by
 refine Bk (zL (h loc mh)) ?_;rintro σ H Q ⟨ρ,d,mh',q,rl,rs,co⟩;obtain ⟨ds,m1,ea,q⟩:=Aw q
 ·unfold Zl Rb at q;split at q
  ·rename_i hz;cases q;exact ⟨ρ,ds,m1,ea,rl,rs,fun H1 ρ1 vs e1 rs1 r1=>⟨by rw [← r1.length];exact hz,Co.newL rs1 r1 (co.ev e1)⟩⟩
  ·cases q
theorem Fq {f:List D->MH->Option (D×MH)}{es:List Expr}{mr:DM (List D)}{x:Str}{p:Pos}{id:String}(hc:Cd X (.builtin id) (rDs X.K f)) (hg:Gl X x) (hm:X.mg x=none) (hv:bootBuiltins x=some (.builtin id)) (ha:DA X (a::es) mr)
  (hn:x ≠ "__name__") (hdb:(x==("__debug__":Str))=false) (he:starEach (a::es) X.env=(false,eval a X.env)::starEach es X.env) (hpl:(backTo pos (starEach es X.env)).any (·.1)=false) :
  DE X (.Call (.Name x p) (a::es) [] pos) (mr.bnd fun ds=>Zl (f ds)):=fun loc mh=>by
 refine Bk (Uu hc hg hm hv (ha loc mh) hn hdb he hpl) ?_;rintro σ H Q ⟨ρ,d,mh',q,rl,rs,co⟩;obtain ⟨ds,m1,ea,q⟩:=Aw q
 ·exact ⟨ρ,ds,m1,ea,rl,rs,fun H1 ρ1 vs e1 rs1 r1=>⟨ρ1,m1,ds,d,mh',q,rs1,r1,co.ev e1⟩⟩
theorem Lj {f:List D->MH->Option (D×MH)}{es:List Expr}{mr:DM (List D)}{x:Str}{p:Pos}{T:String}(hc:Cd X (.type T) (rDs X.K f)) (hg:Gl X x) (hm:X.mg x=none) (hv:bootBuiltins x=some (.type T)) (ha:DA X (a::es) mr)
  (hn:x ≠ "__name__") (hdb:(x==("__debug__":Str))=false) (he:starEach (a::es) X.env=(false,eval a X.env)::starEach es X.env) (hpl:(backTo pos (starEach es X.env)).any (·.1)=false) :
  DE X (.Call (.Name x p) (a::es) [] pos) (mr.bnd fun ds=>Zl (f ds)):=fun loc mh=>by
 refine Bk (G5 hc hg hm hv (ha loc mh) hn hdb he hpl) ?_;rintro σ H Q ⟨ρ,d,mh',q,rl,rs,co⟩;obtain ⟨ds,m1,ea,q⟩:=Aw q
 ·exact ⟨ρ,ds,m1,ea,rl,rs,fun H1 ρ1 vs e1 rs1 r1=>⟨ρ1,m1,ds,d,mh',q,rs1,r1,co.ev e1⟩⟩
end
section
variable {X:Cx}
theorem Nu {f:Value->Value->Sem Value}{r r':R2}(h:OpR X f r) (i:∀ x y H Q,r' x y H Q->r x y H Q):OpR X f r':=fun pins s σ H x y v u Q I rx ry q=>h pins s σ H x y v u Q I rx ry (i x y H Q q)
noncomputable def iop (C:Int->Int->Bool) (g:Int->Int->Int):D->D->MH->Option (D×MH)
 | .int i,.int j,mh=>if C i j=true then some (.int (g i j),mh) else none
 | _,_,_=>none
theorem J4 {f:Value->Value->Sem Value}{C:Int->Int->Prop}{Cb:Int->Int->Bool}{g:Int->Int->Int}(h:OpR X f (rI C fun i j=>.int (g i j))) (hC:∀ i j,Cb i j=true->C i j):OpR X f (rD X.K (iop Cb g)):=by
 refine Nu h ?_;rintro x y H Q ⟨ρ,mh,dx,dy,d,mh',q,rs,rx,ry,co⟩;cases rx with
 | int i =>
  cases ry with
  | int j =>
   have q:(if Cb i j=true then some (D.int (g i j),mh) else none)=some (d,mh'):=q;split at q
   ·rename_i hc;cases q;exact ⟨i,j,rfl,rfl,hC i j hc,co H ρ _ Ev.refl rs (.int _)⟩
   ·cases q
  | _=>cases q
 | _=>cases q
theorem S7 {f:Value->Value->Sem Value}{g:Int->Int->Int}(h:OpR X f (rI0 fun i j=>.int (g i j))):OpR X f (rD X.K (iop (fun _ _=>true) g)) :=
 J4 (C:=fun _ _=>True) (Nu h fun x y H Q ⟨i,j,e1,e2,_,q⟩=>⟨i,j,e1,e2,q⟩) fun _ _ _=>trivial
noncomputable def Qo (g:Int->Int->Bool):D->D->MH->Option (D×MH)
 | .int i,.int j,mh=>some (.bl (g i j),mh)
 | _,_,_=>none
theorem Nv {f:Value->Value->Sem Value}{g:Int->Int->Bool}(h:OpR X f (rI0 fun i j=>.bl (g i j))):OpR X f (rD X.K (Qo g)):=by
 refine Nu h ?_;rintro x y H Q ⟨ρ,mh,dx,dy,d,mh',q,rs,rx,ry,co⟩;cases rx with
 | int i =>
  cases ry with
  | int j =>
   cases q;exact ⟨i,j,rfl,rfl,co H ρ _ Ev.refl rs (.bl _)⟩
  | _=>cases q
 | _=>cases q
noncomputable def Bm:D->D->MH->Option (D×MH)
 | .int i,.int j,mh=>some (.int (i+j),mh)
 | .str i,.str j,mh=>if i.length+j.length<=sizeLine then some (.str (i++j),mh) else none
 | .tup xs,.tup ys,mh=>if xs.length+ys.length<=sizeLine then some (.tup (xs++ys),mh) else none
 | .ref n,.ref m,mh=>match mh[n]?,mh[m]? with
  | some (.lst xs),some (.lst ys)=>if xs.length+ys.length<=sizeLine then some (.ref mh.length,mh++[.lst (xs++ys)]) else none
  | _,_=>none
 | _,_,_=>none
end
noncomputable def Df {α β:Type}(f:α->Option β):List α->Option (List β)
 | []=>some []
 | x::xs=>match f x with
  | some y=>match Df f xs with
   | some ys=>some (y::ys)
   | none=>none
  | none=>none
noncomputable def py (mh:MH):Nat->D->Option PyData
 | _,.non=>some .none
 | _,.bl b=>some (.bool b)
 | _,.int i=>some (.int i)
 | _,.str x=>if PyData.strOk x=true then some (.str x) else none
 | 0,.tup _=>none
 | 0,.ref _=>none
 | 0,.rol _=>none
 | 0,.obj ..=>none
 | _+1,.obj ..=>none
 | 0,.fn _=>none
 | 0,.lam=>none
 | 0,.clo _ _=>none
 | _+1,.fn _=>none
 | _+1,.lam=>none
 | _+1,.clo _ _=>none
 | n+1,.tup ds=>match Df (py mh n) ds with | some xs=>some (.tuple xs) | none=>none
 | n+1,.rol ds=>match Df (py mh n) ds with | some xs=>some (.list xs) | none=>none
 | n+1,.ref k=>match mh[k]? with
  | some (.lst o)=>match Df (py mh n) o with | some xs=>some (.list xs) | none=>none
  | _=>none
section
variable {X:Cx}{pins:List (Addr×Obj)}{σ:St}{H:Hp}{s:Shared}{ρ:List Addr}{mh:MH}
theorem Eo (I:Inv X pins σ H s) (rs:RS X.K H ρ mh):∀ (n:Nat) (d:D) (v:V) (u:Value) (a:PyData),py mh n d=some a->RD X.K H ρ d v->RelV v u->(∃ as,Reads s.heap u a as)/\a.canLay0=true/\a.depth<=n:=by
 intro n
 induction n with
 | zero =>
  intro d v u a e r rv;cases r with
  | non=>cases e;cases rv;exact ⟨⟨_,.none⟩,rfl,Nat.le_refl _⟩
  | bl b=>cases e;cases rv;exact ⟨⟨_,.bool b⟩,rfl,Nat.le_refl _⟩
  | int i=>cases e;obtain ⟨t,rfl⟩:=rv;exact ⟨⟨_,.int i t⟩,rfl,Nat.le_refl _⟩
  | str x =>
   have e:(if PyData.strOk x=true then some (PyData.str x) else none)=some a:=e;split at e
   ·cases e;obtain ⟨t,rfl⟩:=rv;exact ⟨⟨_,.str x t⟩,by assumption,Nat.le_refl _⟩
   ·cases e
  | tup s r=>cases e
  | ref h=>cases e
  | rol s r=>cases e
  | obj n s l r=>cases e
  | fn h=>cases e
  | lam h=>cases e
  | clo=>cases e
 | succ n ih =>
  have all:∀ (ds:List D) (vs:List V) (us:List Value) (as:List PyData),Df (py mh n) ds=some as->RDs X.K H ρ ds vs->Vals vs us->(∃ bs,ReadsAll s.heap us as bs)/\PyData.canLayAll0 as=true/\PyData.depthAll as<=n:=by
   intro ds
   induction ds with
   | nil=>intro vs us as e r rv;cases e;cases r;cases rv;exact ⟨⟨_,.nil⟩,rfl,Nat.zero_le _⟩
   | cons d ds ihd =>
    intro vs us as e r rv;cases r with
    | cons r1 r2 =>
     cases rv with
     | cons v1 v2 =>
      simp only [Df] at e;split at e
      ·rename_i y ey;split at e
       ·rename_i ys eys;cases e;obtain ⟨⟨a1,h1⟩,h2,h3⟩:=ih _ _ _ _ ey r1 v1;obtain ⟨⟨b1,g1⟩,g2,g3⟩:=ihd _ _ _ eys r2 v2;refine ⟨⟨_,.cons h1 g1⟩,?_,?_⟩
        ·simp only [PyData.canLayAll0,h2,g2,Bool.and_self]
        ·simp only [PyData.depthAll];omega
       ·cases e
      ·cases e
  intro d v u a e r rv;cases r with
  | non=>cases e;cases rv;exact ⟨⟨_,.none⟩,rfl,Nat.zero_le _⟩
  | bl b=>cases e;cases rv;exact ⟨⟨_,.bool b⟩,rfl,Nat.zero_le _⟩
  | int i=>cases e;obtain ⟨t,rfl⟩:=rv;exact ⟨⟨_,.int i t⟩,rfl,Nat.zero_le _⟩
  | str x =>
   have e:(if PyData.strOk x=true then some (PyData.str x) else none)=some a:=e;split at e
   ·cases e;obtain ⟨t,rfl⟩:=rv;exact ⟨⟨_,.str x t⟩,by assumption,Nat.zero_le _⟩
   ·cases e
  | @tup ds a' xs sq r =>
   cases rv;have e:(match Df (py mh n) ds with | some xs=>some (PyData.tuple xs) | none=>none)=some a:=e;split at e
   ·rename_i ys ey;cases e;obtain ⟨its,rv,⟨o,h1,h2,n',h3⟩,_⟩:=I.tuple sq;obtain ⟨⟨bs,g1⟩,g2,g3⟩:=all ds xs its ys ey r rv;refine ⟨⟨_,.tuple h1 h2 h3 (by simpa using g1)⟩,by simpa [PyData.canLay0] using g2,?_⟩;simp only [PyData.depth];omega
   ·cases e
  | obj n s l r=>cases e
  | fn h=>cases e
  | lam h=>cases e
  | clo=>cases e
  | @rol ds a' xs sq r =>
   cases rv;have e:(match Df (py mh n) ds with | some xs=>some (PyData.list xs) | none=>none)=some a:=e;split at e
   ·rename_i ys ey;cases e;obtain ⟨its,rv,⟨ob,n',h1,h2,h2',h3⟩,_⟩:=I.list sq.sq;obtain ⟨⟨bs,g1⟩,g2,g3⟩:=all _ xs its ys ey r rv;refine ⟨⟨_,.list h1 h2 h3 (by simpa using g1)⟩,by simpa [PyData.canLay0] using g2,?_⟩;simp only [PyData.depth];omega
   ·cases e
  | @ref k a' h =>
   cases rv;have e:(match mh[k]? with | some (.lst o)=>(match Df (py mh n) o with | some xs=>some (PyData.list xs) | none=>none) | _=>none)=some a:=e;split at e
   ·rename_i o eo;split at e
    ·rename_i ys ey;cases e;obtain ⟨a2,ha,ro⟩:=rs.at eo;rw [h] at ha;cases ha;obtain ⟨xs,sq,r⟩:=ro.read;obtain ⟨its,rv,⟨ob,n',h1,h2,h2',h3⟩,_⟩:=I.list sq;obtain ⟨⟨bs,g1⟩,g2,g3⟩:=all _ xs its ys ey r rv;refine ⟨⟨_,.list h1 h2 h3 (by simpa using g1)⟩,by simpa [PyData.canLay0] using g2,?_⟩;simp only [PyData.depth];omega
    ·cases e
   ·cases e
noncomputable def eqB (mh:MH) (x y:D):Option Bool:=match py mh 60 x,py mh 60 y with
 | some a,some b=>some (PyData.eqv a b)
 | _,_=>none
noncomputable def eqD (x y:D) (mh:MH):Option (D×MH):=match eqB mh x y with | some k=>some (.bl k,mh) | none=>none
noncomputable def neD (x y:D) (mh:MH):Option (D×MH):=match eqB mh x y with | some k=>some (.bl (!k),mh) | none=>none
theorem gJ {A:Around}{a b:PyData}(hu:A.units+64 < cLine) (h:a.depth<=60):A.units+min a.depth b.depth < cLine:=by omega
theorem Uz {x y:D}{k:Bool}(h:eqB mh x y=some k):∃ a b,py mh 60 x=some a/\py mh 60 y=some b/\k=PyData.eqv a b:=by
 unfold eqB at h;split at h
 ·rename_i a b ea eb;cases h;exact ⟨a,b,ea,eb,rfl⟩
 ·cases h
theorem Aag (hu:X.A.units+64 < cLine):OpR X (compareOp .Eq) (rD X.K eqD):=by
 rintro pins s σ H x y v u Q I rx ry ⟨ρ,mh,dx,dy,d,mh',q,rs,r1,r2,co⟩;unfold eqD at q;split at q
 ·rename_i k ek;cases q;obtain ⟨a,b,ea,eb,rfl⟩:=Uz ek;obtain ⟨⟨as,h1⟩,h2,h3⟩:=Eo I rs 60 dx x v a ea r1 rx;obtain ⟨⟨bs,g1⟩,g2,g3⟩:=Eo I rs 60 dy y u b eb r2 ry;exact SeqAt.compareEq_reads h1 g1 h2 g2 (gJ hu h3) ⟨.bl _,H,I,rfl,co H ρ _ Ev.refl rs (.bl _)⟩
 ·cases q
theorem Aah (hu:X.A.units+64 < cLine):OpR X (compareOp .NotEq) (rD X.K neD):=by
 rintro pins s σ H x y v u Q I rx ry ⟨ρ,mh,dx,dy,d,mh',q,rs,r1,r2,co⟩;unfold neD at q;split at q
 ·rename_i k ek;cases q;obtain ⟨a,b,ea,eb,rfl⟩:=Uz ek;obtain ⟨⟨as,h1⟩,h2,h3⟩:=Eo I rs 60 dx x v a ea r1 rx;obtain ⟨⟨bs,g1⟩,g2,g3⟩:=Eo I rs 60 dy y u b eb r2 ry;exact SeqAt.compareNe_reads h1 g1 h2 g2 (gJ hu h3) ⟨.bl _,H,I,rfl,co H ρ _ Ev.refl rs (.bl _)⟩
 ·cases q
noncomputable def inB (mh:MH) (x c:D):Option Bool:=match py mh 60 x,py mh 60 c with
 | some a,some (.list xs)=>some (xs.any fun y=>PyData.eqv y a)
 | some a,some (.tuple xs)=>some (xs.any fun y=>PyData.eqv y a)
 | _,_=>none
noncomputable def gK (neg:Bool) (x c:D) (mh:MH):Option (D×MH):=match inB mh x c with | some k=>some (.bl (if neg then !k else k),mh) | none=>none
theorem sV (hu:X.A.units+64 < cLine):OpR X (compareOp .In) (rD X.K (gK false)):=by
 rintro pins s σ H x y v u Q I rx ry ⟨ρ,mh,dx,dy,d,mh',q,rs,r1,r2,co⟩;unfold gK at q;split at q
 ·rename_i k ek;cases q;unfold inB at ek;split at ek
  ·rename_i a xs ea eb;cases ek;obtain ⟨⟨as,h1⟩,h2,h3⟩:=Eo I rs 60 dx x v a ea r1 rx;obtain ⟨⟨bs,g1⟩,g2,g3⟩:=Eo I rs 60 dy y u _ eb r2 ry;exact SeqAt.in_list_reads g1 h1 (by simpa [PyData.canLay0] using g2) h2 (by simp only [PyData.depth] at g3;omega) ⟨.bl _,H,I,rfl,co H ρ _ Ev.refl rs (.bl _)⟩
  ·rename_i a xs ea eb;cases ek;obtain ⟨⟨as,h1⟩,h2,h3⟩:=Eo I rs 60 dx x v a ea r1 rx;obtain ⟨⟨bs,g1⟩,g2,g3⟩:=Eo I rs 60 dy y u _ eb r2 ry;exact SeqAt.in_tuple_reads g1 h1 (by simpa [PyData.canLay0] using g2) h2 (by simp only [PyData.depth] at g3;omega) ⟨.bl _,H,I,rfl,co H ρ _ Ev.refl rs (.bl _)⟩
  ·cases ek
 ·cases q
end
section
variable {X:Cx}
noncomputable def isD (neg:Bool) (x y:D) (mh:MH):Option (D×MH):=match y with
 | .non=>some (.bl (if neg then !(match x with | .non=>true | _=>false) else match x with | .non=>true | _=>false),mh)
 | .bl b=>(match x with
  | .bl a=>some (.bl (if neg then a != b else a==b),mh)
  | .non=>some (.bl neg,mh)
  | _=>none)
 | _=>none
theorem Aai:OpR X (compareOp .Is) (rD X.K (isD false)):=by
 rintro pins s σ H x y v u Q I rx ry ⟨ρ,mh,dx,dy,d,mh',q,rs,r1,r2,co⟩;cases r2 with
 | non =>
  cases q;cases ry;refine is_none_gen ⟨.bl _,H,I,?_,co H ρ _ Ev.refl rs (.bl _)⟩;rw [rx.none_iff];cases r1 <;> rfl
 | bl b =>
  cases r1 with
  | bl a=>cases q;cases rx;cases ry;exact is_bool ⟨.bl _,H,I,rfl,co H ρ _ Ev.refl rs (.bl _)⟩
  | non=>cases q;cases rx;cases ry;exact wpAny_pure (a:=Value.bool false) ⟨.bl _,H,I,rfl,co H ρ _ Ev.refl rs (.bl _)⟩
  | _=>cases q
 | _=>cases q
theorem gM:OpR X (binaryOp .Add) (fun x y H Q=>∃ a b ys,x=.ref a/\y=.ref b/\SqT X.K H a []/\SqT X.K H b ys/\Q (.ref b) H):=by
 rintro pins s σ H x y v u Q I rx ry ⟨a,b,ys,e1,e2,ha,hb,q⟩;subst e1;subst e2;cases rx;cases ry;obtain ⟨its,r1,p1,_⟩:=I.tuple ha;obtain ⟨its2,r2,p2,_⟩:=I.tuple hb;cases r1;obtain ⟨⟨cls,dd,data,sl⟩,ho,hc,n,hd⟩:=id p1;obtain ⟨⟨cls2,dd2,data2,sl2⟩,ho2,hc2,n2,hd2⟩:=id p2;simp only at hc hd hc2 hd2;subst hc hd hc2 hd2;exact concat_meets ⟨_,ho,rfl⟩ ⟨_,ho2,rfl⟩ noFill_tuple_add seq_tuple_add PySem.F.slot_tuple_add PySem.F.entry_tuple_add (PySem.F.args_tuple_add_2 _ _) (tuple_addW0 a b _ _ n n2 dd dd2 sl sl2 (by simp)) ⟨ho,ho2,⟨.ref b,H,I,rfl,q⟩⟩
theorem sW:OpR X (binaryOp .Add) (rD X.K Bm):=by
 refine Nu (yV.or (Wu.or (rQ.or (zU.or gM)))) ?_;rintro x y H Q ⟨ρ,mh,dx,dy,d,mh',q,rs,rx,ry,co⟩;cases rx with
 | int i =>
  cases ry with
  | int j=>cases q;exact .inl ⟨i,j,rfl,rfl,co H ρ _ Ev.refl rs (.int _)⟩
  | _=>cases q
 | str i =>
  cases ry with
  | str j =>
   have q:(if i.length+j.length<=sizeLine then some (D.str (i++j),mh) else none)=some (d,mh'):=q;split at q
   ·rename_i hz;cases q;exact .inr (.inl ⟨i,j,rfl,rfl,hz,co H ρ _ Ev.refl rs (.str _)⟩)
   ·cases q
  | _=>cases q
 | @tup xs a us s1 r1 =>
  cases ry with
  | @tup ys b ws s2 r2 =>
   have q:(if xs.length+ys.length<=sizeLine then some (D.tup (xs++ys),mh) else none)=some (d,mh'):=q;split at q
   ·rename_i hz;cases q
    by_cases hne:xs=[]
    ·subst hne;cases r1;exact .inr (.inr (.inr (.inr ⟨a,b,ws,rfl,rfl,s1,s2,co H ρ _ Ev.refl rs (.tup s2 r2)⟩)))
    ·refine .inr (.inr (.inl ⟨a,b,us,ws,rfl,rfl,s1,s2,fun z=>hne ?_,by rw [← r1.length,← r2.length];exact hz,?_⟩))
     ·rw [z] at r1;cases r1;rfl
     ·refine ⟨fun z=>?_,fun z=>Co.newT rs (r1.append r2) co⟩;subst z;cases r2;exact co H ρ _ Ev.refl rs (.tup s1 (by rw [List.append_nil];exact r1))
   ·cases q
  | _=>cases q
 | @ref n a ha =>
  cases ry with
  | @ref m b hb =>
   have q:(match mh[n]?,mh[m]? with
    | some (.lst xs),some (.lst ys)=>if xs.length+ys.length<=sizeLine then some (D.ref mh.length,mh++[.lst (xs++ys)]) else none
    | _,_=>none)=some (d,mh'):=q
   split at q
   ·rename_i xs ys e1 e2;split at q
    ·rename_i hz;cases q;obtain ⟨a2,h1,us,g1,r1⟩:=rs.at e1;obtain ⟨b2,h2,ws,g2,r2⟩:=rs.at e2;rw [ha] at h1;rw [hb] at h2;cases h1;cases h2;exact .inr (.inr (.inr (.inl ⟨a,b,us,ws,rfl,rfl,g1,g2,by rw [← r1.length,← r2.length];exact hz,Co.newL rs (r1.append r2) co⟩)))
    ·cases q
   ·cases q
  | _=>cases q
 | _=>cases q
end
section
variable {X:Cx}
theorem Lk {f:Value}{r r':List V->Hp->VK->Prop}(h:Cd X f r) (i:∀ xs H Q,r' xs H Q->r xs H Q):Cd X f r':=fun pins s σ H xs us Q I rx q=>h pins s σ H xs us Q I rx (i xs H Q q)
theorem sX {r r':R2}(h:IxR X r) (i:∀ x y H Q,r' x y H Q->r x y H Q):IxR X r':=fun a b pins s σ H x y v u Q I rx ry q hs=>h a b pins s σ H x y v u Q I rx ry (i x y H Q q) hs
theorem sY {r r':V->Option Int->Option Int->Hp->VK->Prop}(h:SlR X r) (i:∀ x lo hi H Q,r' x lo hi H Q->r x lo hi H Q):SlR X r':=fun pins s σ H x v vl vu lo hi sl Q I rx hs pl pu q=>h pins s σ H x v vl vu lo hi sl Q I rx hs pl pu (i x lo hi H Q q)
noncomputable def Ec:D->MH->Option (List D)
 | .tup ds,_=>some ds
 | .ref n,mh=>match mh[n]? with | some (.lst o)=>some o | _=>none
 | .rol ds,_=>some ds
 | _,_=>none
theorem Ip {K:PySem.W.Frag}{H:Hp}{ρ:List Addr}{mh:MH}{d:D}{v:V}{ds:List D}(rs:RS K H ρ mh) (r:RD K H ρ d v) (e:Ec d mh=some ds):∃ p xs,v=.ref p/\(SqL K H p xs\/SqT K H p xs)/\RDs K H ρ ds xs:=by
 cases r with
 | tup s r=>cases e;exact ⟨_,_,rfl,.inr s,r⟩
 | rol s r=>cases e;exact ⟨_,_,rfl,.inl s.sq,r⟩
 | @ref n a h =>
  have e:(match mh[n]? with | some (.lst o)=>some o | _=>none)=some ds:=e;split at e
  ·rename_i o eo;cases e;obtain ⟨a',ha,ro⟩:=rs.at eo;rw [h] at ha;cases ha;obtain ⟨xs,q,r⟩:=ro.read;exact ⟨_,xs,rfl,.inl q,r⟩
  ·cases e
 | _=>cases e
theorem sZ {K:PySem.W.Frag}{H:Hp}{ρ:List Addr}{ds:List D}{xs:List V}{i:Int}{d:D}(r:RDs K H ρ ds xs) (e:atI ds i=some d):∃ v,atI xs i=some v/\RD K H ρ d v:=by
 unfold atI at e ⊢;rw [← r.length];cases q:ixN ds.length i with
 | none=>rw [q] at e;cases e
 | some j =>
  rw [q] at e;exact r.get e
noncomputable def gO (x y:D) (mh:MH):Option (D×MH):=match y with
 | .int i=>(match x with
  | .str z=>if z.length<=sizeLine then (match atI z.cps.toList i with | some c=>some (.str ⟨#[c]⟩,mh) | none=>none) else none
  | _=>match Ec x mh with
   | some ds=>(match atI ds i with | some d=>some (d,mh) | none=>none)
   | none=>none)
 | _=>none
theorem Aes:IxR X (rD X.K gO):=by
 refine sX (zQ (X:=X)) ?_;rintro x y H Q ⟨ρ,mh,dx,dy,d,mh',q,rs,rx,ry,co⟩;have seq:∀ i:Int,y=.int i->(match Ec dx mh with | some ds=>(match atI ds i with | some d=>some (d,mh) | none=>none) | none=>none)=some (d,mh')->rIx X.K x y H Q:=fun i ey q=>by
  split at q
  ·rename_i ds e1;split at q
   ·rename_i d' e2;cases q;obtain ⟨p,xs,rfl,hq,r⟩:=Ip rs rx e1;obtain ⟨v,e3,r3⟩:=sZ r e2;rcases hq with hq|hq
    ·exact .inl ⟨p,xs,i,v,rfl,ey,hq,e3,co H ρ v Ev.refl rs r3⟩
    ·exact .inr (.inl ⟨p,xs,i,v,rfl,ey,hq,e3,co H ρ v Ev.refl rs r3⟩)
   ·cases q
  ·cases q
 cases ry with
 | int i =>
  cases rx with
  | str z =>
   have q:(if z.length<=sizeLine then (match atI z.cps.toList i with | some c=>some (D.str ⟨#[c]⟩,mh) | none=>none) else none)=some (d,mh'):=q;split at q
   ·rename_i hz;split at q
    ·rename_i c ec;cases q;exact .inr (.inr ⟨z,i,c,rfl,rfl,hz,ec,co H ρ _ Ev.refl rs (.str _)⟩)
    ·cases q
   ·cases q
  | non=>exact seq i rfl q
  | bl b=>exact seq i rfl q
  | int j=>exact seq i rfl q
  | tup s r=>exact seq i rfl q
  | ref h=>exact seq i rfl q
  | rol s r=>exact seq i rfl q
  | obj n s l r=>exact seq i rfl q
  | fn h=>exact seq i rfl q
  | lam h=>exact seq i rfl q
  | clo=>exact seq i rfl q
 | _=>cases q
noncomputable def cutD {α:Type}(xs:List α) (lo hi:Option Int):List α:=(xs.drop (HT.sIx xs.length 0 lo)).take (HT.sIx xs.length xs.length hi - HT.sIx xs.length 0 lo)
theorem S8 {K:PySem.W.Frag}{H:Hp}{ρ:List Addr}{ds:List D}{xs:List V}{lo hi:Option Int}(r:RDs K H ρ ds xs):RDs K H ρ (cutD ds lo hi) (Uv xs lo hi):=by
 unfold cutD Uv;rw [r.length];exact (r.drop _).take _
theorem Jo {prog:Program}{w:World}{A:Around}{E:Value->Shared->Prop}{s:Shared}{t sl:Addr}{items:Array Value}{vl vu:Value}{lo hi:Option Int}{Q:Value->Shared->Prop}(ht:IsTup s.heap t items) (hs:s.heap.IsSliceOf sl vl vu .none) (pl:IsPart vl lo) (pu:IsPart vu hi)
  (h0:HT.sIx items.size 0 lo=0) (h1:HT.sIx items.size items.size hi=items.size) (h:Q (.ref t) s):wpAny (model prog w) A (getItem (.ref t) (.ref sl)) Q E s:=by
 obtain ⟨os,hos,hcs,hds⟩:=id hs
 have hTs:s.TypeIs (.ref sl) "slice":=⟨os,hos,hcs⟩
 unfold getItem
 try with_reducible refine wpAny_holding ?_
 first | refine wpAny_bind (wpAny_pure ?_) | skip
 refine wpAny_bind (wpAny_sequenceKey ht.typeIs (by decide) ?_)
 refine wpAny_bind (wpAny_callSpecial?_slot (name:=Str.ofString "__getitem__") ht.typeIs PyProof.Rows.slot_tuple_getitem
  (wpAny_call_entry PyProof.Rows.slot_tuple_getitem ht.typeIs entry_tuple_getitem ?_ (args_tuple_getitem _ _)))
 show wpAny _ _ (Builtin.Tuple.tupleItemsOf (.ref t) >>= _) _ _ s;refine wpAny_bind (tupleItemsOf_ ht ?_);refine wpAny_bind (wpAny_typeOf hTs ?_);rw [if_pos (by decide)];refine wpAny_bind (HT.sliceApplied_gen hs pl pu ?_);rw [h0,h1];have hyes:((((0:Nat):Int)==0&&(1:Int)==1&&(items.size - 0)==items.size)=true):=by simp
 show wpAny _ _ (if (((0:Nat):Int)==0&&(1:Int)==1&&(items.size - 0)==items.size)=true then _ else _) _ _ s;rw [if_pos hyes];unfold Builtin.Tuple.tupleIsExact;refine wpAny_bind (wpAny_bind (wpAny_typeOf ht.typeIs (wpAny_pure ?_)));rw [if_pos (by decide)];exact wpAny_bind (wpAny_rule (wpAny_pure ⟨_,rfl,wpAny_pure h⟩))
theorem bL:SlR X (fun x lo hi H Q=>∃ a xs,x=.ref a/\SqT X.K H a xs/\HT.sIx xs.length 0 lo=0/\HT.sIx xs.length xs.length hi=xs.length/\Q (.ref a) H):=by
 intro pins s σ H x v vl vu lo hi sl Q I rx hs pl pu h;obtain ⟨a,xs,rfl,hx,h0,h1,q⟩:=h;cases rx;obtain ⟨its,r,ht,hz⟩:=I.tuple hx;have hlen:its.toArray.size=xs.length:=by rw [List.size_toArray];exact r.length.symm
 refine ⟨"tuple",_,PyProof.Rows.slot_tuple_getitem.lookup,ht.typeIs,?_⟩;exact Jo ht hs pl pu (by rw [hlen];exact h0) (by rw [hlen];exact h1) ⟨.ref a,H,I,rfl,q⟩
noncomputable def slD (x:D) (lo hi:Option Int) (mh:MH):Option (D×MH):=match x with
 | .tup ds=>if HT.sIx ds.length 0 lo=0/\HT.sIx ds.length ds.length hi=ds.length then some (.tup ds,mh) else some (.tup (cutD ds lo hi),mh)
 | .ref n=>match mh[n]? with
  | some (.lst o)=>some (.ref mh.length,mh++[.lst (cutD o lo hi)])
  | _=>none
 | .rol ds=>some (.ref mh.length,mh++[.lst (cutD ds lo hi)])
 | _=>none
noncomputable def Agq (K:PySem.W.Frag):V->Option Int->Option Int->Hp->VK->Prop:=fun x lo hi H Q=>∃ ρ mh dx d mh',slD dx lo hi mh=some (d,mh')/\RS K H ρ mh/\RD K H ρ dx x/\Co K H ρ mh' d Q
theorem Agr:SlR X (Agq X.K):=by
 refine sY (bL.or (zN.or rT)) ?_;rintro x lo hi H Q ⟨ρ,mh,dx,d,mh',q,rs,rx,co⟩;cases rx with
 | @tup ds a xs s r =>
  have q:(if HT.sIx ds.length 0 lo=0/\HT.sIx ds.length ds.length hi=ds.length then some (D.tup ds,mh) else some (D.tup (cutD ds lo hi),mh))=some (d,mh'):=q;have hl:=r.length;split at q
  ·rename_i hw;cases q;exact .inl ⟨a,xs,rfl,s,by rw [← hl];exact hw.1,by rw [← hl];exact hw.2,co H ρ _ Ev.refl rs (.tup s r)⟩
  ·rename_i hw;cases q;exact .inr (.inl ⟨a,xs,rfl,s,by rw [← hl];exact hw,Co.newT rs (S8 r) co⟩)
 | @ref n a h =>
  have q:(match mh[n]? with | some (.lst o)=>some (D.ref mh.length,mh++[.lst (cutD o lo hi)]) | _=>none)=some (d,mh'):=q;split at q
  ·rename_i o eo;cases q;obtain ⟨a',ha,ro⟩:=rs.at eo;rw [h] at ha;cases ha;obtain ⟨xs,sq,r⟩:=ro.read;exact .inr (.inr ⟨a,xs,rfl,sq,Co.newL rs (S8 r) co⟩)
  ·cases q
 | @rol ds a xs s r =>
  cases q;exact .inr (.inr ⟨a,xs,rfl,s.sq,Co.newL rs (S8 r) co⟩)
 | _=>cases q
noncomputable def Kp (m:Option (DM D)):DM (Option Int):=match m with
 | none=>Zr none
 | some m=>m.bnd fun x=>match x with | .int i=>Zr (some i) | _=>Zb
noncomputable def gP (X:Cx) (e:Option Expr) (m:Option (DM D)):Prop:=match e,m with
 | none,none=>True
 | some e,some m=>DE X e m
 | _,_=>False
noncomputable def tDO (K:PySem.W.Frag) (loc:Loc) (mh:MH) (r:Option (Option Int×MH)):TO:=fun σ H Q=>∃ ρ o mh',r=some (o,mh')/\RL K H ρ loc σ/\RS K H ρ mh/\∀ H' ρ',Ev K H ρ H' ρ'->RS K H' ρ' mh'->Q o H'
theorem Aet {e:Option Expr}{m:Option (DM D)}(h:gP X e m) (loc:Loc) (mh:MH):PO X e (tDO X.K loc mh (Kp m loc mh)):=by
 rintro pins s σ H Q I ⟨ρ,o,mh',q,rl,rs,co⟩;cases e with
 | none =>
  cases m with
  | none =>
   cases q;exact rO pins s σ H Q I (co H ρ Ev.refl rs)
  | some m=>exact h.elim
 | some e =>
  cases m with
  | none=>exact h.elim
  | some m =>
   obtain ⟨x,m1,ea,q⟩:=Aw q;cases x with
   | int i =>
    cases q;refine rP (h loc mh) pins s σ H Q I ⟨ρ,.int i,mh',ea,rl,rs,fun H' ρ' v e' rs' r'=>?_⟩;cases r';exact ⟨i,rfl,co H' ρ' e' rs'⟩
   | non=>cases q
   | bl b=>cases q
   | str z=>cases q
   | tup ds=>cases q
   | ref n=>cases q
   | rol ds=>cases q
   | obj c ks ds=>cases q
   | fn x=>cases q
   | lam=>cases q
   | clo=>cases q
noncomputable def dSl (ma:DM D) (ml mu:Option (DM D)):DM D:=ma.bnd fun x=>(Kp ml).bnd fun l=>(Kp mu).bnd fun u=>Zl (slD x l u)
theorem gQ {a:Expr}{ma:DM D}{lo hi:Option Expr}{ml mu:Option (DM D)}{p2 pos:Pos}(ha:DE X a ma) (hl:gP X lo ml) (hu:gP X hi mu):DE X (.Subscript a (.Slice lo hi none p2) pos) (dSl ma ml mu):=fun loc mh=>by
 cases ea:ma loc mh with
 | none =>
  have:dSl ma ml mu loc mh=none:=by unfold dSl DM.bnd;rw [ea]
  rw [this];exact Bl
 | some p =>
  obtain ⟨x,m1⟩:=p;cases el:Kp ml loc m1 with
  | none =>
   have:dSl ma ml mu loc mh=none:=by unfold dSl;unfold DM.bnd;rw [ea];dsimp only;rw [el]
   rw [this];exact Bl
  | some p2 =>
   obtain ⟨l,m2⟩:=p2;refine Bk (fM Agr (ha loc mh) (Aet hl loc m1) (Aet hu loc m2)) ?_;rintro σ H Q ⟨ρ,d,mh',q,rl,rs,co⟩;obtain ⟨x',m1',ea',q⟩:=Aw q;rw [ea] at ea';cases ea';obtain ⟨l',m2',el',q⟩:=Aw q;rw [el] at el';cases el';obtain ⟨u,m3,eu,q⟩:=Aw q
   exact ⟨ρ,x,m1,ea,rl,rs,fun H1 ρ1 v e1 rs1 r1=>⟨ρ1,l,m2,el,rl.mono e1,rs1,fun H2 ρ2 e2 rs2=>⟨ρ2,u,m3,eu,(rl.mono e1).mono e2,rs2,fun H3 ρ3 e3 rs3 =>
    ⟨ρ3,m3,x,d,mh',q,rs3,(r1.mono e2).mono e3,co.ev (e1.trans (e2.trans e3))⟩⟩⟩⟩
end
end DL
namespace HT
open PySem PySem.Spec PyProof.Rows
section
variable {prog:Program}{w:World}{A:Around}{E:Value->Shared->Prop}{s:Shared}
end
end HT
namespace DL
open PySem PySem.Spec PyProof.Rows L2
section
variable {X:Cx}
noncomputable def Dj:List D->MH->Option (D×MH)
 | [.str z],mh=>if z.length<=sizeLine then some (.int z.length,mh) else none
 | [x],mh=>match Ec x mh with | some ds=>some (.int ds.length,mh) | none=>none
 | _,_=>none
theorem S9 {K:PySem.W.Frag}{H:Hp}{ρ:List Addr}{d:D}{xs:List V}(h:RDs K H ρ [d] xs):∃ v,xs=[v]/\RD K H ρ d v:=by
 cases h with
 | cons r t=>cases t;exact ⟨_,rfl,r⟩
theorem bM:Cd X (.builtin "len") (rDs X.K Dj):=by
 refine Lk (Sq.or Ss) ?_;rintro xs H Q ⟨ρ,mh,ds,d,mh',q,rs,r,co⟩
 match ds,q with
 | [x],q =>
  obtain ⟨v,rfl,rx⟩:=S9 r;have seq:(match Ec x mh with | some ds=>some (D.int ds.length,mh) | none=>none)=some (d,mh')->∃ p ys,[v]=[.ref p]/\(SqL X.K H p ys\/SqT X.K H p ys)/\Q (.int ys.length) H:=fun q=>by
   split at q
   ·rename_i ds e1;cases q;obtain ⟨p,ys,rfl,hq,r⟩:=Ip rs rx e1;exact ⟨p,ys,rfl,hq,by rw [← r.length];exact co H ρ _ Ev.refl rs (.int _)⟩
   ·cases q
  cases rx with
  | str z =>
   have q:(if z.length<=sizeLine then some (D.int z.length,mh) else none)=some (d,mh'):=q;split at q
   ·rename_i hz;cases q;exact .inr ⟨z,rfl,hz,co H ρ _ Ev.refl rs (.int _)⟩
   ·cases q
  | non=>exact .inl (seq q)
  | bl b=>exact .inl (seq q)
  | int i=>exact .inl (seq q)
  | tup s r=>exact .inl (seq q)
  | ref h=>exact .inl (seq q)
  | rol s r=>exact .inl (seq q)
  | obj n s l r=>exact .inl (seq q)
  | fn h=>exact .inl (seq q)
  | lam h=>exact .inl (seq q)
  | clo=>exact .inl (seq q)
 | [],q=>cases q
 | _::_::_,q=>simp [Dj] at q
noncomputable def U0:List D->MH->Option (D×MH)
 | [x],mh=>match Ec x mh with | some ds=>some (.ref mh.length,mh++[.lst ds]) | none=>none
 | _,_=>none
theorem W8:Cd X (.type "list") (rDs X.K U0):=by
 refine Lk Sv ?_;rintro xs H Q ⟨ρ,mh,ds,d,mh',q,rs,r,co⟩
 match ds,q with
 | [x],q =>
  obtain ⟨v,rfl,rx⟩:=S9 r;have q:(match Ec x mh with | some ds=>some (D.ref mh.length,mh++[.lst ds]) | none=>none)=some (d,mh'):=q;split at q
  ·rename_i ds e1;cases q;obtain ⟨p,ys,rfl,hq,r⟩:=Ip rs rx e1;exact ⟨p,ys,rfl,hq,Co.newL rs r co⟩
  ·cases q
 | [],q=>cases q
 | _::_::_,q=>cases q
noncomputable def Gs:List D->MH->Option (D×MH)
 | [x],mh=>match Ec x mh with | some ds=>some (.tup ds,mh) | none=>none
 | _,_=>none
theorem U3:Cd X (.type "tuple") (rDs X.K Gs):=by
 refine Lk Qn ?_;rintro xs H Q ⟨ρ,mh,ds,d,mh',q,rs,r,co⟩
 match ds,q with
 | [x],q =>
  obtain ⟨v,rfl,rx⟩:=S9 r;have q:(match Ec x mh with | some ds=>some (D.tup ds,mh) | none=>none)=some (d,mh'):=q;split at q
  ·rename_i ds e1;cases q;obtain ⟨p,ys,rfl,hq,r⟩:=Ip rs rx e1;rcases hq with hq|hq
   ·exact ⟨p,ys,rfl,.inl ⟨hq,Co.newT rs r co⟩⟩
   ·exact ⟨p,ys,rfl,.inr ⟨hq,co H ρ _ Ev.refl rs (.tup hq r)⟩⟩
  ·cases q
 | [],q=>cases q
 | _::_::_,q=>cases q
noncomputable def gR:D->MH->Option String
 | .non,_=>some "NoneType"
 | .bl _,_=>some "bool"
 | .int _,_=>some "int"
 | .str _,_=>some "str"
 | .tup _,_=>some "tuple"
 | .ref n,mh=>match mh[n]? with | some (.lst _)=>some "list" | _=>none
 | .rol _,_=>some "list"
 | .obj ..,_=>none
 | .fn _,_=>none
 | .lam,_=>none
 | .clo _ _,_=>none
noncomputable def Aaj (t c:String):Option Bool :=
 if t==c then some true else
 if ["NoneType", "bool", "int", "str", "tuple", "list"].contains t&&["bool", "int", "str", "tuple", "list", "dict"].contains c then some (t == "bool"&&c == "int") else none
theorem Hj {K:PySem.W.Frag}{t c:String}{b:Bool}(ht:t∈["NoneType", "bool", "int", "str", "tuple", "list"]) (hc:c∈["bool", "int", "str", "tuple", "list", "dict"]) (h:Aaj t c=some b):PySem.W.kitOne K (.type t) (.type c)=some b:=by
 simp only [List.mem_cons,List.mem_nil_iff,or_false] at ht hc;rcases ht with rfl | rfl | rfl | rfl | rfl | rfl <;> rcases hc with rfl | rfl | rfl | rfl | rfl | rfl <;> (first | (have e:b=true:=by (have h':=h;revert h';decide +revert));subst e;kernel_rfl | (have e:b=false:=by (have h':=h;revert h';decide +revert));subst e;kernel_rfl)
end
inductive Src where
 | seq (ds:List D) | lref (n:Nat) | enum (s:Src) | zip (s t:Src)
noncomputable def Ib:Nat->List D->List D
 | _,[]=>[]
 | i,d::r=>.tup [.int i,d]::Ib (i+1) r
noncomputable def Src.items:Src->MH->List D
 | .seq ds,_=>ds
 | .lref n,mh=>match mh[n]? with | some (.lst o)=>o | _=>[]
 | .enum s,mh=>Ib 0 (s.items mh)
 | .zip s t,mh=>List.zipWith (fun a b=>.tup [a,b]) (s.items mh) (t.items mh)
noncomputable def Src.ok:Src->MH->Bool
 | .seq _,_=>true
 | .lref n,mh=>match mh[n]? with | some (.lst _)=>true | _=>false
 | .enum s,mh=>s.ok mh
 | .zip s t,mh=>s.ok mh&&t.ok mh
noncomputable def Src.get (s:Src) (mh:MH) (i:Nat):Option D:=(s.items mh)[i]?
noncomputable def Src.stop (s:Src) (mh:MH) (i:Nat):Bool:=s.ok mh&&decide ((s.items mh).length<=i)
structure JR (K:PySem.W.Frag) (H0:Hp) (ρ0:List Addr) (src:Src) (J:It):Prop where
 go:∀ H ρ mh i d,Ev K H0 ρ0 H ρ->RS K H ρ mh->src.get mh i=some d->J.go i H/\∀ x H',J.yld i H x H'->Ev K H ρ H' ρ/\RS K H' ρ mh/\RD K H' ρ d x
 stop:∀ H ρ mh i,Ev K H0 ρ0 H ρ->RS K H ρ mh->src.stop mh i=true->J.stop i H
noncomputable def tDI (K:PySem.W.Frag) (loc:Loc) (mh:MH) (r:Option (Src×MH)):TI:=fun σ H R=>∃ ρ src mh',r=some (src,mh')/\RL K H ρ loc σ/\RS K H ρ mh/\∀ H' ρ' J,Ev K H ρ H' ρ'->RS K H' ρ' mh'->JR K H' ρ' src J->R J H'
noncomputable def DI (X:Cx) (tg iter:Expr) (m:DM Src):Prop:=∀ loc mh,PI X tg iter (tDI X.K loc mh (m loc mh))
theorem Aak {X:Cx}{tg e:Expr}{t t':TI}(h:PI X tg e t) (i:∀ σ H R,t' σ H R->t σ H R):PI X tg e t':=fun pins s σ H R I q=>h pins s σ H R I (i σ H R q)
theorem Ds {X:Cx}{tg e:Expr}{loc:Loc}{mh:MH}:PI X tg e (tDI X.K loc mh none):=fun _ _ _ _ _ _ h=>by obtain ⟨_,_,_,e,_⟩:=h;cases e
section
variable {X:Cx}{tg:Expr}
theorem JR.tup {K:PySem.W.Frag}{H0:Hp}{ρ0:List Addr}{ds:List D}{a:Addr}{xs:List V}(s:SqT K H0 a xs) (r:RDs K H0 ρ0 ds xs):JR K H0 ρ0 (.seq ds) (Itt K a) where
 go:=fun H ρ mh i d e rs q=>by
  obtain ⟨v,e1,r1⟩:=(r.mono e).get q;refine ⟨⟨xs,v,e.tup _ _ s,e1⟩,?_⟩;rintro x H' ⟨h1,h2⟩;subst h1;have:=h2 xs (e.tup _ _ s);rw [e1] at this;cases this;exact ⟨Ev.refl,rs,r1⟩
 stop:=fun H ρ mh i e rs q=>by
  refine ⟨xs,e.tup _ _ s,?_⟩;rw [← r.length];have q:(true&&decide (ds.length<=i))=true:=q;rw [Bool.true_and] at q;exact of_decide_eq_true q
theorem JR.lst {K:PySem.W.Frag}{H0:Hp}{ρ0:List Addr}{n:Nat}{a:Addr}(h:ρ0[n]?=some a):JR K H0 ρ0 (.lref n) (Itl K a) where
 go:=fun H ρ mh i d e rs q=>by
  unfold Src.get Src.items at q;cases eo:mh[n]? with
  | none=>simp only [eo] at q;simp at q
  | some ob =>
   cases ob with
   | dct kvs=>simp only [eo] at q;simp at q
   | plc=>simp only [eo] at q;simp at q
   | plq=>simp only [eo] at q;simp at q
   | lst o =>
   simp only [eo] at q;obtain ⟨a',ha,ro⟩:=rs.at eo;rw [e.at h] at ha;cases ha;obtain ⟨xs,sq,r⟩:=ro.read;obtain ⟨v,e1,r1⟩:=r.get q;refine ⟨⟨xs,v,sq,e1⟩,?_⟩;rintro x H' ⟨h1,h2⟩;subst h1;have:=h2 xs sq;rw [e1] at this;cases this;exact ⟨Ev.refl,rs,r1⟩
 stop:=fun H ρ mh i e rs q=>by
  unfold Src.stop Src.ok Src.items at q;cases eo:mh[n]? with
  | none=>simp only [eo] at q;simp at q
  | some ob =>
   cases ob with
   | dct kvs=>simp only [eo] at q;simp at q
   | plc=>simp only [eo] at q;simp at q
   | plq=>simp only [eo] at q;simp at q
   | lst o =>
   simp only [eo] at q;obtain ⟨a',ha,ro⟩:=rs.at eo;rw [e.at h] at ha;cases ha;obtain ⟨xs,sq,r⟩:=ro.read;exact ⟨xs,sq,by rw [← r.length];simpa using q⟩
theorem JR.rol {K:PySem.W.Frag}{H0:Hp}{ρ0:List Addr}{ds:List D}{a:Addr}{xs:List V}(s:H9 K H0 a xs) (r:RDs K H0 ρ0 ds xs):JR K H0 ρ0 (.seq ds) (Itl K a) where
 go:=fun H ρ mh i d e rs q=>by
  obtain ⟨v,e1,r1⟩:=(r.mono e).get q;have sq:=(e.perm _ _ s).sq;refine ⟨⟨xs,v,sq,e1⟩,?_⟩;rintro x H' ⟨h1,h2⟩;subst h1;have:=h2 xs sq;rw [e1] at this;cases this;exact ⟨Ev.refl,rs,r1⟩
 stop:=fun H ρ mh i e rs q=>by
  refine ⟨xs,(e.perm _ _ s).sq,?_⟩;rw [← r.length];have q:(true&&decide (ds.length<=i))=true:=q;rw [Bool.true_and] at q;exact of_decide_eq_true q
noncomputable def Bt (lo:Int) (n:Nat):List D:=(List.range n).map fun (k:Nat)=>D.int (lo+(k:Int))
theorem JR.rng {K:PySem.W.Frag}{H0:Hp}{ρ0:List Addr}{lo:Int}{n:Nat}:JR K H0 ρ0 (.seq (Bt lo n)) (Itr lo n) where
 go:=fun H ρ mh i d e rs q=>by
  have q:(Bt lo n)[i]?=some d:=q;unfold Bt at q;rw [List.getElem?_map] at q
  by_cases hi:i < n
  ·rw [List.getElem?_range hi] at q;cases q;refine ⟨hi,?_⟩;rintro x H' ⟨h1,h2⟩;subst h1;subst h2;exact ⟨Ev.refl,rs,.int _⟩
  ·rw [List.getElem?_eq_none (by simp;omega)] at q;cases q
 stop:=fun H ρ mh i e rs q=>by
  show n<=i;have q:(true&&decide ((Bt lo n).length<=i))=true:=q;rw [Bool.true_and] at q;have:=of_decide_eq_true q;unfold Bt at this
  simpa using this
noncomputable def srcOf:D->MH->Option Src
 | .tup ds,_=>some (.seq ds)
 | .ref n,mh=>match mh[n]? with | some (.lst _)=>some (.lref n) | _=>none
 | .rol ds,_=>some (.seq ds)
 | _,_=>none
noncomputable def Ep (ma:DM D):DM Src:=ma.bnd fun x=>fun _ mh=>match srcOf x mh with | some s=>some (s,mh) | none=>none
theorem Gu {a:Expr}{ma:DM D}(ha:DE X a ma):DI X tg a (Ep ma):=fun loc mh=>by
 cases ea:ma loc mh with
 | none =>
  have:Ep ma loc mh=none:=by unfold Ep DM.bnd;rw [ea]
  rw [this];exact Ds
 | some p =>
  obtain ⟨x,m1⟩:=p;have eq:Ep ma loc mh=(match srcOf x m1 with | some s=>some (s,m1) | none=>none):=by unfold Ep DM.bnd;rw [ea]
  rw [eq];cases x with
  | tup ds =>
   rintro pins s σ H R I ⟨ρ,src,mh',q,rl,rs,co⟩;cases q;refine yQ (ha loc mh) pins s σ H R I ⟨ρ,_,_,ea,rl,rs,fun H1 ρ1 v e1 rs1 r1=>?_⟩;cases r1 with
   | tup s r=>exact ⟨_,rfl,⟨_,s⟩,co H1 ρ1 _ e1 rs1 (JR.tup s r)⟩
  | ref n =>
   rintro pins s σ H R I ⟨ρ,src,mh',q,rl,rs,co⟩;cases eo:m1[n]? with
   | none=>simp only [srcOf,eo] at q;cases q
   | some ob =>
    cases ob with
    | dct kvs=>simp only [srcOf,eo] at q;cases q
    | plc=>simp only [srcOf,eo] at q;cases q
    | plq=>simp only [srcOf,eo] at q;cases q
    | lst o =>
    simp only [srcOf,eo] at q;cases q;refine Yz (ha loc mh) pins s σ H R I ⟨ρ,_,_,ea,rl,rs,fun H1 ρ1 v e1 rs1 r1=>?_⟩;cases r1 with
    | @ref _ a' h =>
     obtain ⟨a2,ha2,ro⟩:=rs1.at eo;rw [h] at ha2;cases ha2;obtain ⟨xs,sq,r⟩:=ro.read;exact ⟨_,rfl,⟨xs,sq⟩,co H1 ρ1 _ e1 rs1 (JR.lst h)⟩
  | rol ds =>
   rintro pins s σ H R I ⟨ρ,src,mh',q,rl,rs,co⟩;cases q;refine Yz (ha loc mh) pins s σ H R I ⟨ρ,_,_,ea,rl,rs,fun H1 ρ1 v e1 rs1 r1=>?_⟩;cases r1 with
   | rol s r=>exact ⟨_,rfl,⟨_,s.sq⟩,co H1 ρ1 _ e1 rs1 (JR.rol s r)⟩
  | non=>exact Ds
  | bl b=>exact Ds
  | int i=>exact Ds
  | str z=>exact Ds
  | obj c ks ds=>exact Ds
  | fn x=>exact Ds
  | lam=>exact Ds
  | clo=>exact Ds
noncomputable def Jp (ds:List D):Option Src:=match ds with
 | [.int j]=>if -(2 ^ 62)<=j/\j < 2 ^ 62 then some (.seq (Bt 0 j.toNat)) else none
 | _=>none
theorem bN {ds:List D}{s:Src}(h:Jp ds=some s):∃ j,ds=[.int j]/\-(2 ^ 62)<=j/\j < 2 ^ 62/\s=.seq (Bt 0 j.toNat):=by
 unfold Jp at h;split at h
 ·rename_i j;split at h
  ·rename_i hj;cases h;exact ⟨j,rfl,hj.1,hj.2,rfl⟩
  ·cases h
 ·cases h
noncomputable def J5 (f:List D->Option Src) (mr:DM (List D)):DM Src:=mr.bnd fun ds=>match f ds with | some s=>Zr s | none=>Zb
theorem bO {f:List D->Option Src}{mr:DM (List D)}{loc:Loc}{mh:MH}{r:Src×MH}(h:J5 f mr loc mh=some r):∃ ds,mr loc mh=some (ds,r.2)/\f ds=some r.1:=by
 obtain ⟨ds,m1,ea,q⟩:=Aw h;cases e:f ds with
 | none=>rw [e] at q;cases q
 | some s=>rw [e] at q;cases q;exact ⟨ds,ea,e⟩
theorem Ags {K:PySem.W.Frag}{H:Hp}{ρ:List Addr}{d e:D}{xs:List V}(h:RDs K H ρ [d,e] xs):∃ v u,xs=[v,u]/\RD K H ρ d v/\RD K H ρ e u:=by
 cases h with
 | cons r t =>
  cases t with
  | cons r2 t=>cases t;exact ⟨_,_,rfl,r,r2⟩
theorem bQ {a:Expr}{mr:DM (List D)}{p pos:Pos}(hg:Gl X "range") (hm:X.mg "range"=none) (ha:DA X [a] mr) (hs:starEach [a] X.env=[(false,eval a X.env)]):DI X tg (.Call (.Name "range" p) [a] [] pos) (J5 Jp mr):=fun loc mh=>by
 refine Aak (bD hg hm (ha loc mh) hs) ?_;rintro σ H R ⟨ρ,src,mh',q,rl,rs,co⟩;obtain ⟨ds,ea,q⟩:=bO q;refine ⟨ρ,ds,mh',ea,rl,rs,fun H1 ρ1 vs e1 rs1 r1=>?_⟩;obtain ⟨j,rfl,h1,h2,e⟩:=bN q;obtain ⟨v,rfl,rv⟩:=S9 r1;cases rv;have e:src=.seq (Bt 0 j.toNat):=e;subst e;exact ⟨j,rfl,h1,h2,co H1 ρ1 _ e1 rs1 JR.rng⟩
end
inductive Fl where
 | nx | bk | ct | rt (d:D)
noncomputable abbrev SM:=Loc->MH->Option (Fl×Loc×MH)
noncomputable def CoS (K:PySem.W.Frag) (H:Hp) (ρ:List Addr) (f:Fl) (loc':Loc) (mh':MH) (N:Ends):Prop:=match f with
 | .nx=>∀ H' ρ' σ',Ev K H ρ H' ρ'->RS K H' ρ' mh'->RL K H' ρ' loc' σ'->N.nx σ' H'
 | .bk=>∀ H' ρ' σ',Ev K H ρ H' ρ'->RS K H' ρ' mh'->RL K H' ρ' loc' σ'->N.bk σ' H'
 | .ct=>∀ H' ρ' σ',Ev K H ρ H' ρ'->RS K H' ρ' mh'->RL K H' ρ' loc' σ'->N.ct σ' H'
 | .rt d=>∀ H' ρ' v,Ev K H ρ H' ρ'->RS K H' ρ' mh'->RD K H' ρ' d v->N.rt v H'
theorem CoS.ev {K:PySem.W.Frag}{H H1:Hp}{ρ ρ1:List Addr}{f:Fl}{loc':Loc}{mh':MH}{N:Ends}(e:Ev K H ρ H1 ρ1) (c:CoS K H ρ f loc' mh' N):CoS K H1 ρ1 f loc' mh' N:=by
 cases f with
 | nx=>exact fun H' ρ' σ' e' rs r=>c H' ρ' σ' (e.trans e') rs r
 | bk=>exact fun H' ρ' σ' e' rs r=>c H' ρ' σ' (e.trans e') rs r
 | ct=>exact fun H' ρ' σ' e' rs r=>c H' ρ' σ' (e.trans e') rs r
 | rt d=>exact fun H' ρ' σ' e' rs r=>c H' ρ' σ' (e.trans e') rs r
noncomputable def tS (K:PySem.W.Frag) (m:SM):TS:=fun N σ H=>∃ loc mh ρ f loc' mh',m loc mh=some (f,loc',mh')/\RL K H ρ loc σ/\RS K H ρ mh/\CoS K H ρ f loc' mh' N
noncomputable def DS (X:Cx) (st:Stmt) (m:SM):Prop:=PS X st (tS X.K m)
noncomputable def DSs (X:Cx) (sts:List Stmt) (m:SM):Prop:=PSs X sts (tS X.K m)
theorem Ft {X:Cx}{st:Stmt}{t t':TS}(h:PS X st t) (i:∀ N σ H,t' N σ H->t N σ H):PS X st t':=fun pins s σ H N I q=>h pins s σ H N I (i N σ H q)
theorem Zh {X:Cx}{st:List Stmt}{t t':TS}(h:PSs X st t) (i:∀ N σ H,t' N σ H->t N σ H):PSs X st t':=fun pins s σ H N I q=>h pins s σ H N I (i N σ H q)
noncomputable def SM.bad:SM:=fun _ _=>none
theorem Dt {X:Cx}{st:Stmt}:DS X st SM.bad:=fun _ _ _ _ _ _ h=>by obtain ⟨_,_,_,_,_,_,e,_⟩:=h;cases e
noncomputable def tDx (K:PySem.W.Frag) (m:DM D):TE:=fun σ H Q=>∃ loc mh,tD K loc mh (m loc mh) σ H Q
noncomputable def tTx (K:PySem.W.Frag) (m:DM Bool):TT:=fun σ H Q=>∃ loc mh,tDT K loc mh (m loc mh) σ H Q
noncomputable def tIx (K:PySem.W.Frag) (m:DM Src):TI:=fun σ H R=>∃ loc mh,tDI K loc mh (m loc mh) σ H R
theorem DE.x {X:Cx}{e:Expr}{m:DM D}(h:DE X e m):PE X e (tDx X.K m):=fun pins s σ H Q I ⟨loc,mh,q⟩=>h loc mh pins s σ H Q I q
theorem DT.x {X:Cx}{e:Expr}{m:DM Bool}(h:DT X e m):PT X e (tTx X.K m):=fun pins s σ H Q I ⟨loc,mh,q⟩=>h loc mh pins s σ H Q I q
theorem DI.x {X:Cx}{tg e:Expr}{m:DM Src}(h:DI X tg e m):PI X tg e (tIx X.K m):=fun pins s σ H Q I ⟨loc,mh,q⟩=>h loc mh pins s σ H Q I q
section
variable {X:Cx}{st:Stmt}{sts:List Stmt}{m m1 m2:SM}{e:Expr}{me:DM D}{pos:Pos}
noncomputable def Zn:SM:=fun loc mh=>some (.nx,loc,mh)
noncomputable def Ab (m1 m2:SM):SM:=fun loc mh=>match m1 loc mh with
 | some (.nx,l,h)=>m2 l h
 | r=>r
theorem Zj:DSs X [] Zn:=by
 refine Zh qR ?_;rintro N σ H ⟨loc,mh,ρ,f,loc',mh',q,rl,rs,co⟩;cases q;exact co H ρ σ Ev.refl rs rl
theorem U4 (h1:DS X st m1) (h2:DSs X sts m2):DSs X (st::sts) (Ab m1 m2):=by
 refine Zh (dY h1 h2) ?_;rintro N σ H ⟨loc,mh,ρ,f,loc',mh',q,rl,rs,co⟩;unfold Ab at q;split at q
 ·rename_i l h e1;exact ⟨loc,mh,ρ,.nx,l,h,e1,rl,rs,fun H1 ρ1 σ1 ev1 rs1 rl1=>⟨l,h,ρ1,f,loc',mh',q,rl1,rs1,co.ev ev1⟩⟩
 ·rename_i r hne;refine ⟨loc,mh,ρ,f,loc',mh',q,rl,rs,?_⟩;cases f with
  | nx=>exact absurd q (hne _ _)
  | bk=>exact co
  | ct=>exact co
  | rt d=>exact co
theorem tB:DS X (.Pass pos) Zn:=by
 refine Ft qU ?_;rintro N σ H ⟨loc,mh,ρ,f,loc',mh',q,rl,rs,co⟩;cases q;exact co H ρ σ Ev.refl rs rl
theorem gU:DS X (.Break pos) (fun loc mh=>some (.bk,loc,mh)):=by
 refine Ft dZ ?_;rintro N σ H ⟨loc,mh,ρ,f,loc',mh',q,rl,rs,co⟩;cases q;exact co H ρ σ Ev.refl rs rl
theorem U5:DS X (.Continue pos) (fun loc mh=>some (.ct,loc,mh)):=by
 refine Ft Us ?_;rintro N σ H ⟨loc,mh,ρ,f,loc',mh',q,rl,rs,co⟩;cases q;exact co H ρ σ Ev.refl rs rl
noncomputable def retS (me:DM D):SM:=fun loc mh=>match me loc mh with | some (d,mh')=>some (.rt d,loc,mh') | none=>none
theorem gW (he:DE X e me):DS X (.Return (some e) pos) (retS me):=by
 refine Ft (yI he.x) ?_;rintro N σ H ⟨loc,mh,ρ,f,loc',mh',q,rl,rs,co⟩;unfold retS at q;split at q
 ·rename_i d h1 ee;cases q;exact ⟨loc,mh,ρ,d,_,ee,rl,rs,co⟩
 ·cases q
theorem tE:DS X (.Return none pos) (fun loc mh=>some (.rt .non,loc,mh)):=by
 refine Ft qX ?_;rintro N σ H ⟨loc,mh,ρ,f,loc',mh',q,rl,rs,co⟩;cases q;exact co H ρ _ Ev.refl rs .non
noncomputable def Fv (me:DM D):SM:=fun loc mh=>match me loc mh with | some (_,mh')=>some (.nx,loc,mh') | none=>none
theorem tH (he:DE X e me) (hs:swapsWith e none pos.line X.env=pure false):DS X (.Expr e pos) (Fv me):=by
 refine Ft (qW he.x hs) ?_;rintro N σ H ⟨loc,mh,ρ,f,loc',mh',q,rl,rs,co⟩;unfold Fv at q;split at q
 ·rename_i d h1 ee;cases q;exact ⟨loc,mh,ρ,d,_,ee,rl,rs,fun H' ρ' v e' rs' r'=>co H' ρ' σ e' rs' (rl.mono e')⟩
 ·cases q
noncomputable def ifS (t:DM Bool) (m1 m2:SM):SM:=fun loc mh=>match t loc mh with
 | some (k,h)=>if k=true then m1 loc h else m2 loc h
 | none=>none
theorem Aeu {c:Expr}{a b:List Stmt}{t:DM Bool}(hc:DT X c t) (ha:DSs X a m1) (hb:DSs X b m2):DS X (.If c a b pos) (ifS t m1 m2):=by
 refine Ft (Adz hc.x ha hb) ?_;rintro N σ H ⟨loc,mh,ρ,f,loc',mh',q,rl,rs,co⟩;unfold ifS at q;split at q
 ·rename_i k h ek;refine ⟨loc,mh,ρ,k,h,ek,rl,rs,fun H1 ρ1 e1 rs1=>?_⟩;cases k with
  | true=>exact Sx ⟨loc,h,ρ1,f,loc',mh',by rw [if_pos rfl] at q;exact q,rl.mono e1,rs1,co.ev e1⟩
  | false=>exact Sw ⟨loc,h,ρ1,f,loc',mh',by rw [if_neg Bool.false_ne_true] at q;exact q,rl.mono e1,rs1,co.ev e1⟩
 ·cases q
noncomputable abbrev GM:=D->Loc->MH->Option (Loc×MH)
noncomputable def Ir (ws:List Nat) (σ σ':St):Prop:=σ'.length=σ.length/\∀ i,i ∉ ws->σ'[i]?=σ[i]?
noncomputable def tG (K:PySem.W.Frag) (ws:List Nat) (g:GM):TG:=fun v σ H Q=>∃ d loc mh ρ loc' mh',g d loc mh=some (loc',mh')/\RL K H ρ loc σ/\RS K H ρ mh/\RD K H ρ d v /\
 ∀ H' ρ' σ',Ev K H ρ H' ρ'->RS K H' ρ' mh'->RL K H' ρ' loc' σ'->Ir ws σ σ'->Q σ' H'
noncomputable def DG (X:Cx) (tg:Expr) (ws:List Nat) (g:GM):Prop:=PG X tg (tG X.K ws g)
theorem W9 {tg:Expr}{t t':TG}(h:PG X tg t) (i:∀ v σ H Q,t' v σ H Q->t v σ H Q):PG X tg t':=fun pins s σ H v u Q I r q=>h pins s σ H v u Q I r (i v σ H Q q)
noncomputable def Ar (i:Nat):GM:=fun d loc mh=>some (loc.set i (some d),mh)
theorem Ir.set {σ:St}{i:Nat}{o:Option V}:Ir [i] σ (σ.set i o):=⟨List.length_set,fun j hj=>List.getElem?_set_ne (fun e=>hj (by simp [e]))⟩
theorem tK {i:Nat}{x:Str}(hN:X.N.Nodup) (hi:X.N[i]?=some x) (hx:L2.Loc X.env.scope x) (hf:X.fn x=true\/X.env.scope.names.lookup x=some .local):DG X (.Name x pos) [i] (Ar i):=by
 refine W9 (Yy hN hi hx hf) ?_;rintro v σ H Q ⟨d,loc,mh,ρ,loc',mh',q,rl,rs,r,co⟩;cases q;exact co H ρ _ Ev.refl rs (rl.set r) Ir.set
noncomputable def Ov:List Nat->List D->Loc->Loc
 | i::is,d::ds,loc=>Ov is ds (loc.set i (some d))
 | _,_,loc=>loc
noncomputable def Kq:List Nat->List V->St->St
 | i::is,d::ds,loc=>Kq is ds (loc.set i (some d))
 | _,_,loc=>loc
noncomputable def gNs:List Nat->TGs
 | []=>Ad1
 | i::is=>wK (eE i) (gNs is)
theorem gY:∀ (is:List Nat) (vs:List V) (σ:St) (H:Hp) (Q:St->Hp->Prop),vs.length=is.length->Q (Kq is vs σ) H->gNs is vs σ H Q
 | [],[],_,_,_,_,q=>⟨rfl,q⟩
 | [],_::_,_,_,_,h,_=>by simp at h
 | _::_,[],_,_,_,h,_=>by simp at h
 | i::is,v::vs,σ,H,Q,h,q=>⟨v,vs,rfl,gY is vs _ H Q (by simpa using h) q⟩
theorem Rc {K:PySem.W.Frag}{H:Hp}{ρ:List Addr}:∀ (is:List Nat) {ds:List D}{vs:List V}{loc:Loc}{σ:St},RDs K H ρ ds vs->RL K H ρ loc σ->RL K H ρ (Ov is ds loc) (Kq is vs σ)
 | [],_,_,_,_,.nil,rl=>rl
 | [],_,_,_,_,.cons _ _,rl=>rl
 | _::_,_,_,_,_,.nil,rl=>rl
 | i::is,_,_,_,_,.cons r t,rl=>Rc is t (rl.set r)
theorem Ms:∀ (is:List Nat) (vs:List V) (σ:St),Ir is σ (Kq is vs σ)
 | [],[],_=>⟨rfl,fun _ _=>rfl⟩
 | [],_::_,_=>⟨rfl,fun _ _=>rfl⟩
 | _::_,[],_=>⟨rfl,fun _ _=>rfl⟩
 | i::is,v::vs,σ=>by
  obtain ⟨h1,h2⟩:=Ms is vs (σ.set i (some v));refine ⟨h1.trans List.length_set,fun j hj=>?_⟩;have hj':¬ (j=i)/\j ∉ is:=by simpa using hj
  show (Kq is vs (σ.set i (some v)))[j]?=σ[j]?;rw [h2 j hj'.2,List.getElem?_set_ne (fun e=>hj'.1 e.symm)]
noncomputable def U6 (is:List Nat):GM:=fun d loc mh=>match d with
 | .tup ds=>if ds.length=is.length then some (Ov is ds loc,mh) else none
 | _=>none
theorem Aal {es:List Expr}{k:Nat}{is:List Nat}(hc:X.calm=true) (h:PGs X es (gNs is)) (hn:(assignEach es X.env).length=is.length) (hst:(assignEach es X.env).findIdx? (·.1)=none):DG X (.Tuple es k pos) is (U6 is):=by
 refine W9 (yK hc h hn hst) ?_;rintro v σ H Q ⟨d,loc,mh,ρ,loc',mh',q,rl,rs,r,co⟩;cases r with
 | @tup ds a xs s r =>
  have q:(if ds.length=is.length then some (Ov is ds loc,mh) else none)=some (loc',mh'):=q;split at q
  ·rename_i hl;cases q;exact ⟨a,xs,rfl,s,by rw [← r.length];exact hl,gY is xs σ H Q (by rw [← r.length];exact hl) (co H ρ _ Ev.refl rs (Rc is r rl) (Ms is xs σ))⟩
  ·cases q
 | _=>cases q
noncomputable def U7 (o i v:D) (mh:MH):Option MH:=match o,i with
 | .ref n,.int k=>match mh[n]? with
  | some (.lst ds)=>match ixN ds.length k with
   | some j=>some (mh.set n (.lst (ds.set j v)))
   | none=>none
  | _=>none
 | _,_=>none
noncomputable def Rf (mo mi:DM D):GM:=fun v loc mh=>match mo loc mh with
 | some (o,m1)=>match mi loc m1 with
  | some (i,m2)=>match U7 o i v m2 with
   | some m3=>some (loc,m3)
   | none=>none
  | none=>none
 | none=>none
theorem Xa {o i v:D}{mh m:MH}(h:U7 o i v mh=some m):∃ n k ds j,o=.ref n/\i=.int k/\mh[n]?=some (.lst ds)/\ixN ds.length k=some j/\m=mh.set n (.lst (ds.set j v)):=by
 cases o with
 | ref n =>
  cases i with
  | int k =>
   have h:(match mh[n]? with | some (.lst ds)=>(match ixN ds.length k with | some j=>some (mh.set n (.lst (ds.set j v))) | none=>none) | _=>none)=some m:=h;split at h
   ·rename_i ds em;split at h
    ·rename_i j ej;cases h;exact ⟨n,k,ds,j,rfl,rfl,em,ej,rfl⟩
    ·cases h
   ·cases h
  | _=>cases h
 | _=>cases i <;> cases h
theorem Aam {o i:Expr}{mo mi:DM D}(ho:DE X o mo) (hi:DE X i mi) (ha:∀ v,assign (.Subscript o i pos) X.env v=(do
      let ov ← holding [v] (eval o X.env)
      let iv ← holding [v,ov] (eval i X.env)
      standAt pos
      holding [v,ov,iv] (setItem ov iv v)
      release [v,ov,iv] [])):DG X (.Subscript o i pos) [] (Rf mo mi):=by
  refine W9 (yL ho.x hi.x set_list ha) ?_;rintro v σ H Q ⟨d,loc,mh,ρ,loc',mh',q,rl,rs,r,co⟩;unfold Rf at q;split at q
  · rename_i od m1 eo;split at q
    · rename_i idx m2 ei;split at q
      · rename_i m3 es;cases q;refine ⟨loc,mh,ρ,od,m1,eo,rl,rs,fun H1 ρ1 v1 e1 rs1 r1=>⟨loc,m1,ρ1,idx,m2,ei,rl.mono e1,rs1,fun H2 ρ2 v2 e2 rs2 r2=>?_⟩⟩;obtain ⟨n,k,ds,j,rfl,rfl,em,ej,rfl⟩:=Xa es;have r':=(r.mono e1).mono e2;cases r1.mono e2 with
        | @ref _ a hn =>
          cases r2;obtain ⟨a',ha',xs,hx,rx⟩:=rs2.at em;rw [hn] at ha';cases ha';refine ⟨a,xs,k,j,rfl,rfl,hx,by rw [← rx.length];exact ej,?_⟩;exact co _ ρ2 σ ((e1.trans e2).trans (Ev.lst hx)) (rs2.setL hn hx (rx.set r' j)) (((rl.mono e1).mono e2).mono (Ev.lst hx)) ⟨rfl,fun _ _=>rfl⟩
      · cases q
    · cases q
  · cases q
noncomputable def Az (me:DM D) (g:GM):SM:=fun loc mh=>match me loc mh with
 | some (d,h)=>match g d loc h with
  | some (l,h')=>some (.nx,l,h')
  | none=>none
 | none=>none
theorem U8 {ws:List Nat}{g:GM}{N:Ends}{σ:St}{H:Hp}(h:tS X.K (Az me g) N σ H):yM (tDx X.K me) (tG X.K ws g) N σ H:=by
 obtain ⟨loc,mh,ρ,f,loc',mh',q,rl,rs,co⟩:=h;unfold Az at q;split at q
 ·rename_i d h1 ee;split at q
  ·rename_i l h2 eg;cases q;exact ⟨loc,mh,ρ,d,h1,ee,rl,rs,fun H1 ρ1 v e1 rs1 r1=>⟨d,loc,h1,ρ1,_,_,eg,rl.mono e1,rs1,r1,fun H2 ρ2 σ2 e2 rs2 rl2 _=>co H2 ρ2 σ2 (e1.trans e2) rs2 rl2⟩⟩
  ·cases q
 ·cases q
theorem Xb {tg:Expr}{ws:List Nat}{g:GM}(he:DE X e me) (hg:DG X tg ws g) (hs:swapsWithSole [tg] e pos.line X.env=pure false) (hw:swappedStores [tg] e X.env=pure none) (h1:(assignEach [tg] X.env).map (·.2)=[assign tg X.env]):DS X (.Assign [tg] e pos) (Az me g) :=
 Ft (yN he.x hg hs hw h1) fun N σ H h=>U8 h
noncomputable def Nm (src:Src) (g:GM) (body:SM):Nat->Nat->SM
 | 0,i,loc,mh=>if src.stop mh i=true then some (.nx,loc,mh) else none
 | k+1,i,loc,mh=>match src.get mh i with
  | none=>if src.stop mh i=true then some (.nx,loc,mh) else none
  | some d=>match g d loc mh with
   | none=>none
   | some (l1,h1)=>match body l1 h1 with
    | some (.nx,l,h)=>Nm src g body k (i+1) l h
    | some (.ct,l,h)=>Nm src g body k (i+1) l h
    | some (.bk,l,h)=>some (.nx,l,h)
    | some (.rt d,l,h)=>some (.rt d,l,h)
    | none=>none
noncomputable def Hw (mi:DM Src) (g:GM) (body:SM):SM:=fun loc mh=>match mi loc mh with
 | some (src,h)=>Nm src g body (src.items h).length 0 loc h
 | none=>none
theorem Aan {tg iter:Expr}{body:List Stmt}{mi:DM Src}{ws:List Nat}{g:GM}{mb:SM}(hp:PassesOwn (model X.prog X.w) X.A X.env X.xe) (hc:X.calm=true) (hi:DI X tg iter mi) (hg:DG X tg ws g) (hb:DSs X body mb)
  (hs:∀ x,foldedSetIterable iter X.env x=pure x):DS X (.For tg iter body [] pos) (Hw mi g mb):=by
 refine Ft (yR hp hc hi.x hg hb hs) ?_;rintro N σ H ⟨loc,mh,ρ,f,loc',mh',q,rl,rs,co⟩;unfold Hw at q;split at q
 ·rename_i src h0 ei;refine ⟨loc,mh,ρ,src,h0,ei,rl,rs,fun H1 ρ1 J e1 rs1 jr=>?_⟩
  refine ⟨fun i k σ H=>∃ ρ loc mh f loc' mh',Ev X.K H1 ρ1 H ρ/\RL X.K H ρ loc σ/\RS X.K H ρ mh/\Nm src g mb k i loc mh=some (f,loc',mh')/\CoS X.K H ρ f loc' mh' N,
   ⟨_,ρ1,loc,h0,f,loc',mh',Ev.refl,rl.mono e1,rs1,q,co.ev e1⟩,?_⟩
  rintro i k σ H ⟨ρ,loc,mh,f,loc',mh',ev,rl,rs,q,co⟩;have stop:(if src.stop mh i=true then some (Fl.nx,loc,mh) else none)=some (f,loc',mh')->J.stop i H/\N.nx σ H:=fun q=>by
   split at q
   ·rename_i hst;cases q;exact ⟨jr.stop H ρ mh i ev rs hst,co H ρ σ Ev.refl rs rl⟩
   ·cases q
  cases k with
  | zero=>exact .inl (stop q)
  | succ k =>
   simp only [Nm] at q;split at q
   ·exact .inl (stop q)
   ·rename_i d ed;obtain ⟨hgo,hyld⟩:=jr.go H ρ mh i d ev rs ed;split at q
    ·cases q
    ·rename_i l1 h1 eg
     refine .inr ⟨hgo,fun σ' H'=>∃ ρ' loc mh f loc' mh',Ev X.K H1 ρ1 H' ρ'/\RL X.K H' ρ' loc σ'/\RS X.K H' ρ' mh/\Nm src g mb k (i+1) loc mh=some (f,loc',mh')/\CoS X.K H' ρ' f loc' mh' N,
      fun σ' H' h=>⟨k,Nat.lt_succ_self _,h⟩,fun x H' hy=>?_⟩
     obtain ⟨ev2,rs2,rd2⟩:=hyld x H' hy;refine ⟨d,loc,mh,ρ,l1,h1,eg,rl.mono ev2,rs2,rd2,fun H3 ρ3 σ3 ev3 rs3 rl3 _=>?_⟩;split at q
     ·rename_i l h eb;exact ⟨l1,h1,ρ3,.nx,l,h,eb,rl3,rs3,fun H4 ρ4 σ4 ev4 rs4 rl4=>⟨ρ4,l,h,f,loc',mh',ev.trans (ev2.trans (ev3.trans ev4)),rl4,rs4,q,co.ev (ev2.trans (ev3.trans ev4))⟩⟩
     ·rename_i l h eb;exact ⟨l1,h1,ρ3,.ct,l,h,eb,rl3,rs3,fun H4 ρ4 σ4 ev4 rs4 rl4=>⟨ρ4,l,h,f,loc',mh',ev.trans (ev2.trans (ev3.trans ev4)),rl4,rs4,q,co.ev (ev2.trans (ev3.trans ev4))⟩⟩
     ·rename_i l h eb;cases q;exact ⟨l1,h1,ρ3,.bk,_,_,eb,rl3,rs3,fun H4 ρ4 σ4 ev4 rs4 rl4=>co H4 ρ4 σ4 (ev2.trans (ev3.trans ev4)) rs4 rl4⟩
     ·rename_i d' l h eb;cases q;exact ⟨l1,h1,ρ3,.rt d',_,_,eb,rl3,rs3,fun H4 ρ4 v4 ev4 rs4 r4=>co H4 ρ4 v4 (ev2.trans (ev3.trans ev4)) rs4 r4⟩
     ·cases q
 ·cases q
end
noncomputable def Ew (t:DM Bool) (body:SM):Nat->SM
 | 0,_,_=>none
 | k+1,loc,mh=>match t loc mh with
  | none=>none
  | some (false,h)=>some (.nx,loc,h)
  | some (true,h)=>match body loc h with
   | some (.nx,l,h)=>Ew t body k l h
   | some (.ct,l,h)=>Ew t body k l h
   | some (.bk,l,h)=>some (.nx,l,h)
   | some (.rt d,l,h)=>some (.rt d,l,h)
   | none=>none
noncomputable def Tc (t:DM Bool) (body:SM):SM:=Ew t body 1000000
section
variable {X:Cx}{pos:Pos}
theorem gZ {c:Expr}{body:List Stmt}{t:DM Bool}{mb:SM}(hp:PassesOwn (model X.prog X.w) X.A X.env X.xe) (hc:DT X c t) (hb:DSs X body mb):DS X (.While c body [] pos) (Tc t mb):=by
 refine Ft (eG hp hc.x hb) ?_;rintro N σ H ⟨loc,mh,ρ,f,loc',mh',q,rl,rs,co⟩;refine ⟨fun k σ H=>∃ ρ loc mh f loc' mh',RL X.K H ρ loc σ/\RS X.K H ρ mh/\Ew t mb k loc mh=some (f,loc',mh')/\CoS X.K H ρ f loc' mh' N,⟨_,ρ,loc,mh,f,loc',mh',rl,rs,q,co⟩,?_⟩;rintro k σ H ⟨ρ,loc,mh,f,loc',mh',rl,rs,q,co⟩;cases k with
 | zero=>cases q
 | succ k =>
  simp only [Ew] at q;split at q
  ·cases q
  ·rename_i h et;cases q;exact ⟨_,mh,ρ,false,_,et,rl,rs,fun H1 ρ1 e1 rs1=>Sw (co H1 ρ1 σ e1 rs1 (rl.mono e1))⟩
  ·rename_i h et;refine ⟨loc,mh,ρ,true,h,et,rl,rs,fun H1 ρ1 e1 rs1=>Sx ⟨fun σ' H'=>∃ ρ' loc mh f loc' mh',RL X.K H' ρ' loc σ'/\RS X.K H' ρ' mh/\Ew t mb k loc mh=some (f,loc',mh')/\CoS X.K H' ρ' f loc' mh' N,fun σ' H' h=>⟨k,Nat.lt_succ_self _,h⟩,?_⟩⟩;have rl1:=rl.mono e1;split at q
   ·rename_i l h2 eb;exact ⟨loc,h,ρ1,.nx,l,h2,eb,rl1,rs1,fun H4 ρ4 σ4 ev4 rs4 rl4=>⟨ρ4,l,h2,f,loc',mh',rl4,rs4,q,co.ev (e1.trans ev4)⟩⟩
   ·rename_i l h2 eb;exact ⟨loc,h,ρ1,.ct,l,h2,eb,rl1,rs1,fun H4 ρ4 σ4 ev4 rs4 rl4=>⟨ρ4,l,h2,f,loc',mh',rl4,rs4,q,co.ev (e1.trans ev4)⟩⟩
   ·rename_i l h2 eb;cases q;exact ⟨loc,h,ρ1,.bk,_,_,eb,rl1,rs1,fun H4 ρ4 σ4 ev4 rs4 rl4=>co H4 ρ4 σ4 (e1.trans ev4) rs4 rl4⟩
   ·rename_i d' l h2 eb;cases q;exact ⟨loc,h,ρ1,.rt d',_,_,eb,rl1,rs1,fun H4 ρ4 v4 ev4 rs4 r4=>co H4 ρ4 v4 (e1.trans ev4) rs4 r4⟩
   ·cases q
end
noncomputable def Qp (cs:List (Option Nat)) (loc:Loc):Loc:=cs.map fun o=>match o with | some j=>(match loc[j]? with | some d=>d | none=>none) | none=>none
noncomputable def Qq (cs:List (Option Nat)) (σ:St):St:=cs.map fun o=>match o with | some j=>(match σ[j]? with | some d=>d | none=>none) | none=>none
theorem Aao {K:PySem.W.Frag}{H:Hp}{ρ:List Addr}{loc:Loc}{σ:St}(cs:List (Option Nat)) (h:RL K H ρ loc σ):RL K H ρ (Qp cs loc) (Qq cs σ):=by
 refine ⟨by unfold Qp Qq;rw [List.length_map,List.length_map],fun i d e=>?_⟩;unfold Qp at e;unfold Qq;rw [List.getElem?_map] at e ⊢;cases q:cs[i]? with
 | none=>rw [q] at e;cases e
 | some o =>
  rw [q] at e;cases o with
  | none=>simp at e
  | some j =>
   simp only [Option.map_some,Option.some.injEq] at e;cases ej:loc[j]? with
   | none=>rw [ej] at e;cases e
   | some d' =>
    rw [ej] at e;have e:d'=some d:=e;subst e;obtain ⟨v,e1,r⟩:=h.2 j d ej;exact ⟨v,by simp only [Option.map_some,e1],r⟩
structure CapOk (X:Cx) (N':List Str) (scope:Scope) (cs:List (Option Nat)):Prop where
 len:N'.length=cs.length
 cap:∀ (i:Nat) (x:Str) (j:Nat),N'[i]?=some x->cs[i]?=some (some j)->scope.names.lookup x=some .free/\X.N[j]?=some x
theorem CapOk.to {X:Cx}{N':List Str}{scope:Scope}{cs:List (Option Nat)}(h:CapOk X N' scope cs) (σ:St):Cap X N' scope σ (Qq cs σ):=by
 refine ⟨by unfold Qq;rw [List.length_map];exact h.len.symm,fun i x v e1 e2=>?_⟩;unfold Qq at e2;rw [List.getElem?_map] at e2;cases q:cs[i]? with
 | none=>rw [q] at e2;cases e2
 | some o =>
  rw [q] at e2;cases o with
  | none=>simp at e2
  | some j =>
   obtain ⟨h1,h2⟩:=h.cap i x j e1 q;refine ⟨h1,j,h2,?_⟩;simp only [Option.map_some,Option.some.injEq] at e2;cases ej:σ[j]? with
   | none=>rw [ej] at e2;cases e2
   | some d'=>rw [ej] at e2;have e2:d'=some v:=e2;rw [e2]
theorem tL {cs:List (Option Nat)}{ws:List Nat}{σ σ2:St}(hw:∀ i∈ws,∀ j,cs[i]?≠some (some j)) (h:Ir ws (Qq cs σ) σ2):Kept (Qq cs σ) σ2:=by
 refine ⟨h.1,fun i v e=>?_⟩;rw [h.2 i fun hi=>?_]
 ·exact e
 ·unfold Qq at e;rw [List.getElem?_map] at e;cases q:cs[i]? with
  | none=>rw [q] at e;cases e
  | some o =>
   cases o with
   | none=>rw [q] at e;simp at e
   | some j=>exact hw i hi j q
noncomputable def Jr (src:Src) (g:GM) (tc:DM Bool) (me:DM D) (loc:Loc):Nat->Nat->List D->MH->Option (List D×MH)
 | 0,i,acc,mh=>if src.stop mh i=true then some (acc,mh) else none
 | k+1,i,acc,mh=>match src.get mh i with
  | none=>if src.stop mh i=true then some (acc,mh) else none
  | some d=>match g d loc mh with
   | none=>none
   | some (l1,h1)=>match tc l1 h1 with
    | none=>none
    | some (c,h2)=>if c=true then (match me l1 h2 with
      | some (y,h3)=>if acc.length < sizeLine then Jr src g tc me loc k (i+1) (acc++[y]) h3 else none
      | none=>none) else Jr src g tc me loc k (i+1) acc h2
noncomputable def Di (mi:DM Src) (cs:List (Option Nat)) (g:GM) (tc:DM Bool) (me:DM D):DM D:=fun loc mh=>match mi loc mh with
 | some (src,h)=>match Jr src g tc me (Qp cs loc) (src.items h).length 0 [] h with
  | some (ds,h')=>some (.ref h'.length,h'++[.lst ds])
  | none=>none
 | none=>none
section
variable {X:Cx}{N':List Str}{scope:Scope}{cs:List (Option Nat)}{ws:List Nat}{mi:DM Src}{g:GM}{tc:DM Bool}{me:DM D}{elt target iter:Expr}{ifs:List Expr}{pos:Pos}
theorem U9 (hcap:CapOk X N' scope cs) (hw:∀ i∈ws,∀ j,cs[i]?≠some (some j)) {σ:St}{H:Hp}{Q:VK}(h:tDx X.K (Di mi cs g tc me) σ H Q) :
  fU X N' scope (tIx X.K mi) (tG X.K ws g) (tTx X.K tc) (tDx X.K me) σ H Q:=by
 obtain ⟨loc,mh,ρ,d,mh',q,rl,rs,co⟩:=h;unfold Di at q;split at q
 ·rename_i src h0 ei;split at q
  ·rename_i ds h1 ec;cases q;refine ⟨loc,mh,ρ,src,h0,ei,rl,rs,fun H1 ρ1 J e1 rs1 jr=>?_⟩;refine ⟨Qq cs σ,hcap.to σ,fun i k acc H=>∃ ρ accD mh,Ev X.K H1 ρ1 H ρ/\RS X.K H ρ mh/\RDs X.K H ρ accD acc/\Jr src g tc me (Qp cs loc) k i accD mh=some (ds,h1),⟨_,ρ1,[],h0,Ev.refl,rs1,.nil,ec⟩,?_⟩;have co1:=co.ev e1;have rl1:=Aao cs (rl.mono e1);rintro i k acc H ⟨ρ,accD,mh,ev,rs,ra,q⟩;have stop:(if src.stop mh i=true then some (accD,mh) else none)=some (ds,h1)->J.stop i H/\∀ p,H p=none->Q (.ref p) (upd H p (.lst acc)):=fun q=>by
    split at q
    ·rename_i hst;cases q;exact ⟨jr.stop H ρ _ i ev rs hst,Co.newL rs ra (co1.ev ev)⟩
    ·cases q
   cases k with
   | zero=>exact .inl (stop q)
   | succ k =>
    simp only [Jr] at q;split at q
    ·exact .inl (stop q)
    ·rename_i d ed;obtain ⟨hgo,hyld⟩:=jr.go H ρ mh i d ev rs ed;split at q
     ·cases q
     ·rename_i l1 h2 eg;refine .inr ⟨hgo,fun acc' H'=>∃ ρ accD mh,Ev X.K H1 ρ1 H' ρ/\RS X.K H' ρ mh/\RDs X.K H' ρ accD acc'/\Jr src g tc me (Qp cs loc) k (i+1) accD mh=some (ds,h1),fun acc' H' h=>⟨k,Nat.lt_succ_self _,h⟩,fun x H' hy=>?_⟩;obtain ⟨ev2,rs2,rd2⟩:=hyld x H' hy;refine ⟨d,Qp cs loc,mh,ρ,l1,h2,eg,rl1.mono (ev.trans ev2),rs2,rd2,fun H3 ρ3 σ3 ev3 rs3 rl3 kb=>⟨tL hw kb,?_⟩⟩;split at q
      ·cases q
      ·rename_i c h3 et;refine ⟨l1,h2,ρ3,c,h3,et,rl3,rs3,fun H4 ρ4 ev4 rs4=>?_⟩;have evA:=ev2.trans (ev3.trans ev4);cases c with
       | false =>
        rw [if_neg Bool.false_ne_true] at q;exact Sw ⟨ρ4,accD,h3,ev.trans evA,rs4,ra.mono evA,q⟩
       | true =>
        rw [if_pos rfl] at q;split at q
        ·rename_i y h4 ey;split at q
         ·rename_i hz;refine Sx ⟨by rw [← ra.length];exact hz,l1,h3,ρ4,y,h4,ey,rl3.mono ev4,rs4,fun H5 ρ5 v ev5 rs5 r5=>⟨ρ5,accD++[y],h4,ev.trans (evA.trans ev5),rs5,(ra.mono (evA.trans ev5)).append (.cons r5 .nil),q⟩⟩
         ·cases q
        ·cases q
  ·cases q
 ·cases q
noncomputable def DIf (X:Cx) (ifs:List Expr) (m:DM Bool):Prop:=PIf X ifs (tTx X.K m)
theorem tM:DIf X [] (Zr true):=by
 rintro pins s σ H Q I ⟨loc,mh,ρ,b,mh',q,rl,rs,co⟩;cases q;exact rY pins s σ H Q I (co H ρ Ev.refl rs)
theorem tO {c:Expr}{m:DM Bool}(h:DT X c m):DIf X [c] m:=rZ h.x
theorem tQ (hc:X.calm=true) (S:CompOk X scope) (hcap:CapOk X N' scope cs) (hw:∀ i∈ws,∀ j,cs[i]?≠some (some j)) (hit:DI X target iter mi)
  (hg:∀ pins C cells s₀ H₀ fp,DG (Cr X pins N' scope C cells s₀ H₀ fp) target ws g)
  (hi:∀ pins C cells s₀ H₀ fp,DIf (Cr X pins N' scope C cells s₀ H₀ fp) ifs tc)
  (he:∀ pins C cells s₀ H₀ fp,DE (Cr X pins N' scope C cells s₀ H₀ fp) elt me)
  (hs:∀ x,foldedSetIterable iter X.env x=pure x):DE X (.ListComp elt [⟨target,iter,ifs,0⟩] scope pos) (Di mi cs g tc me):=fun loc mh =>
 Bk (sE (N':=N') (g:=tG X.K ws g) (tc:=tTx X.K tc) (te:=tDx X.K me) hc S hit.x (fun p C c s h f=>hg p C c s h f) (fun p C c s h f=>hi p C c s h f) (fun p C c s h f=>(he p C c s h f).x) hs) fun σ H Q h=>U9 hcap hw ⟨loc,mh,h⟩
theorem Xc {y:Str}{py spos:Pos}{wy:List Nat}{gy:GM}(hc:X.calm=true) (S:CompOk X scope) (hcap:CapOk X N' scope cs) (hw:∀ i∈ws,∀ j,cs[i]?≠some (some j)) (hit:DI X target iter mi)
  (hg:∀ pins C cells s₀ H₀ fp,DG (Cr X pins N' scope C cells s₀ H₀ fp) target ws g)
  (hi:∀ pins C cells s₀ H₀ fp,DIf (Cr X pins N' scope C cells s₀ H₀ fp) ifs tc)
  (he:∀ pins C cells s₀ H₀ fp,DE (Cr X pins N' scope C cells s₀ H₀ fp) elt me) (hgy:DG X (.Name y py) wy gy)
  (hsw:swapsWith (.ListComp elt [⟨target,iter,ifs,0⟩] scope pos) (some (.Name y py)) spos.line X.env=pure true)
  (hs:∀ x,foldedSetIterable iter X.env x=pure x):DS X (.Assign [.Name y py] (.ListComp elt [⟨target,iter,ifs,0⟩] scope pos) spos) (Az (Di mi cs g tc me) gy) :=
 Ft (W6 (N':=N') (g:=tG X.K ws g) (tc:=tTx X.K tc) (te:=tDx X.K me) hc S hit.x (fun p C c s h f=>hg p C c s h f) (fun p C c s h f=>hi p C c s h f) (fun p C c s h f=>(he p C c s h f).x) hgy hsw hs) fun N σ H h=>U9 hcap hw (U8 h)
end
noncomputable def spD (K:PySem.W.Frag) (n:Nat) (f:List D->MH->Option (D×MH)):Sp:=fun vs H Q _=>vs.length=n/\rDs K f vs H Q
section
variable {X:Cx}
theorem Zk {CX:CXT}{k:Nat}{fa:Addr}{fd:FuncData}{ps:List Str}{f:List D->MH->Option (D×MH)}{x:Str}{p pos:Pos}{a:Expr}{es:List Expr}{mr:DM (List D)}{E:XK}
  (F:FnOk X.prog X.w X.K X.mg X.base CX k fa fd ps (spD X.K ps.length f)) (hr:Room k X.A) (hg:Gl X x) (hm:X.mg x=some (.ref fa)) (hk:PySem.W.keepIn X.K (.ref fa)=true) (hb:Binds X.K fd ps []) (hx:Cm CX X E)
  (ha:DA X (a::es) mr) (hf:∀ ds mh r,f ds mh=some r->ds.length=ps.length) (hdb:(x==("__debug__":Str))=false) (he:starEach (a::es) X.env=(false,eval a X.env)::starEach es X.env) (hpl:(backTo pos (starEach es X.env)).any (·.1)=false) :
  DE X (.Call (.Name x p) (a::es) [] pos) (mr.bnd fun ds=>Zl (f ds)):=fun loc mh=>by
 refine Bk (rJ F hr hg hm hk hb .nil hx (ha loc mh) hdb he hpl) ?_;rintro σ H Q ⟨ρ,d,mh',q,rl,rs,co⟩;obtain ⟨ds,m1,ea,q⟩:=Aw q;refine ⟨ρ,ds,m1,ea,rl,rs,fun H1 ρ1 vs e1 rs1 r1=>?_⟩;show spD X.K ps.length f (vs++[]) H1 Q E;rw [List.append_nil];exact ⟨by rw [← r1.length];exact hf _ _ _ q,ρ1,m1,ds,d,mh',q,rs1,r1,co.ev e1⟩
theorem iB {CX:CXT}{k:Nat}{fa:Addr}{fd:FuncData}{f:List D->MH->Option (D×MH)}{x:Str}{p pos:Pos}{E:XK}
  (F:FnOk X.prog X.w X.K X.mg X.base CX k fa fd [] (spD X.K 0 f)) (hr:Room k X.A) (hg:Gl X x) (hm:X.mg x=some (.ref fa)) (hk:PySem.W.keepIn X.K (.ref fa)=true) (hb:Binds X.K fd [] []) (hx:Cm CX X E) (hdb:(x==("__debug__":Str))=false) :
  DE X (.Call (.Name x p) [] [] pos) (Zl (f [])):=fun loc mh=>by
 refine Bk (fH F hr hg hm hk hb .nil hx hdb) ?_;rintro σ H Q ⟨ρ,d,mh',q,rl,rs,co⟩;exact ⟨rfl,ρ,mh,[],d,mh',q,rs,.nil,co⟩
noncomputable def Va (c:String) (x:D) (mh:MH):Option (D×MH):=match gR x mh with
 | some t=>match Aaj t c with
  | some b=>some (.bl b,mh)
  | none=>none
 | none=>none
theorem iC {c:String}(hc:c∈["bool", "int", "str", "tuple", "list", "dict"]):Cd X (.builtin "isinstance") (fun xs H Q=>∃ v,xs=[v,.ty c]/\rD1 X.K (Va c) v H Q):=by
 rintro pins s σ H xs us Q I r ⟨v,e,ρ,mh,dx,d,mh',q,rs,rd,co⟩;subst e;obtain ⟨u,w',rfl,r1,r2⟩:=Vals.two r;cases (show w'=Value.type c from r2);unfold Va at q;split at q
 ·rename_i t et;split at q
  ·rename_i b eb;cases q;have fin:∀ tk,EP X pins σ Q (.bool b) { s with toks:=tk }:=fun tk=>⟨.bl b,H,I.tok tk,rfl,co H ρ _ Ev.refl rs (.bl b)⟩
   cases rd with
   | non=>cases et;cases (show u=Value.none from r1);exact PySem.W.kia_one PySem.W.kitx_none I.kIn True.intro (Hj (by decide) hc eb) (fun z=>nomatch z) fin
   | bl y=>cases et;cases (show u=Value.bool y from r1);exact PySem.W.kia_one PySem.W.kitx_bool I.kIn True.intro (Hj (by decide) hc eb) (fun z=>nomatch z) fin
   | int i=>cases et;obtain ⟨t,q⟩:=(show ∃ t,u=Value.int i t from r1);cases q;exact PySem.W.kia_one PySem.W.kitx_int I.kIn True.intro (Hj (by decide) hc eb) (fun z=>nomatch z) fin
   | str y=>cases et;obtain ⟨t,q⟩:=(show ∃ t,u=Value.str y t from r1);cases q;exact PySem.W.kia_one PySem.W.kitx_str I.kIn True.intro (Hj (by decide) hc eb) (fun z=>nomatch z) fin
   | @tup ds a xs sq r =>
    cases et;cases (show u=Value.ref a from r1);obtain ⟨its,_,⟨o,h1,h2,_⟩,_⟩:=I.tuple sq;exact PySem.W.kia_one PySem.W.kitx_tuple I.kIn ⟨o,h1,h2⟩ (Hj (by decide) hc eb) (fun z=>nomatch z) fin
   | obj n s l r=>cases et
   | fn h=>cases et
   | lam h=>cases et
   | clo=>cases et
   | @rol ds a xs sq r =>
    cases et;cases (show u=Value.ref a from r1);obtain ⟨its,_,⟨ob,n',h1,h2,_⟩,_⟩:=I.list sq.sq;exact PySem.W.kia_one PySem.W.kitx_list I.kIn ⟨ob,h1,h2⟩ (Hj (by decide) hc eb) (fun z=>nomatch z) fin
   | @ref n a h =>
    have et:(match mh[n]? with | some (.lst _)=>some "list" | _=>none)=some t:=et;split at et
    ·rename_i o eo;cases et;cases (show u=Value.ref a from r1);obtain ⟨a',ha,ro⟩:=rs.at eo;rw [h] at ha;cases ha;obtain ⟨xs,sq,_⟩:=ro.read;obtain ⟨its,_,⟨ob,n',h1,h2,_⟩,_⟩:=I.list sq;exact PySem.W.kia_one PySem.W.kitx_list I.kIn ⟨ob,h1,h2⟩ (Hj (by decide) hc eb) (fun z=>nomatch z) fin
    ·cases et
  ·cases q
 ·cases q
theorem Aap {c:Str}{T:String}{p p2 pos:Pos}{a:Expr}{ma:DM D}(hT:T∈["bool", "int", "str", "tuple", "list", "dict"]) (hg:Gl X "isinstance") (hm:X.mg "isinstance"=none) (hg2:Gl X c) (hm2:X.mg c=none) (hv2:bootBuiltins c=some (.type T)) (hn2:c ≠ "__name__") (hd2:(c==("__debug__":Str))=false) (ha:DE X a ma)
  (he:starEach (a::[.Name c p2]) X.env=(false,eval a X.env)::starEach [.Name c p2] X.env):DE X (.Call (.Name "isinstance" p) [a,.Name c p2] [] pos) (ma.bnd fun x=>Zl (Va T x)):=fun loc mh=>by
 refine Bk (Uu (iC hT) hg hm boot_isinstance (Dq (ha loc mh) (Dq (qP hg2 hm2 hv2 (v:=.ty T) rfl hn2 hd2) Hh) he) (by decide) (by decide) he) ?_;rintro σ H Q ⟨ρ,d,mh',q,rl,rs,co⟩;obtain ⟨x,m1,ea,q⟩:=Aw q;exact ⟨ρ,x,m1,ea,rl,rs,fun H1 ρ1 v e1 rs1 r1=>⟨v,rfl,ρ1,m1,x,d,mh',q,rs1,r1,co.ev e1⟩⟩
end
section
variable {X:Cx}{a b c e o:Expr}{ma mb mc mo:DM D}{pos:Pos}
noncomputable def Hl (f f':D->D->MH->Option (D×MH)) (ma mb mc:DM D):DM D:=ma.bnd fun x=>mb.bnd fun y=>(Ah (Zl (f x y))).bnd fun k=>if k=true then mc.bnd fun z=>Zl (f' y z) else Zr (.bl false)
theorem Rg {f f':D->D->MH->Option (D×MH)}{σ:St}{H:Hp}{Q:VK}(h:tDx X.K (Hl f f' ma mb mc) σ H Q):Ws (rD X.K f) (rD X.K f') (tDx X.K ma) (tDx X.K mb) (tDx X.K mc) σ H Q:=by
 obtain ⟨loc,mh,ρ,d,mh',q,rl,rs,co⟩:=h;obtain ⟨x,m1,ea,q⟩:=Aw q;obtain ⟨y,m2,eb,q⟩:=Aw q;obtain ⟨k,m3,ek,q⟩:=Aw q;have ek:=Fp ek;refine ⟨loc,mh,ρ,x,m1,ea,rl,rs,fun H1 ρ1 v1 e1 rs1 r1=>⟨loc,m1,ρ1,y,m2,eb,rl.mono e1,rs1,fun H2 ρ2 v2 e2 rs2 r2=>⟨ρ2,m2,x,y,.bl k,m3,ek,rs2,r1.mono e2,r2,fun H3 ρ3 v3 e3 rs3 r3=>?_⟩⟩⟩;cases r3;refine ⟨k,rfl,?_⟩;cases k with
 | true =>
  rw [if_pos rfl] at q;obtain ⟨z,m4,ec,q⟩:=Aw q;exact Sx ⟨loc,m3,ρ3,z,m4,ec,((rl.mono e1).mono e2).mono e3,rs3,fun H4 ρ4 v4 e4 rs4 r4=>⟨ρ4,m4,y,z,d,mh',q,rs4,(r2.mono e3).mono e4,r4,co.ev (e1.trans (e2.trans (e3.trans e4)))⟩⟩
 | false =>
  rw [if_neg Bool.false_ne_true] at q;cases q;exact Sw (co H3 ρ3 _ (e1.trans (e2.trans e3)) rs3 (.bl false))
theorem iD {op op':CmpOp}{f f':D->D->MH->Option (D×MH)}(ho:OpR X (compareOp op) (rD X.K f)) (ho':OpR X (compareOp op') (rD X.K f')) (hm:lastMarks [op,op'] [b,c]=false) (ha:DE X a ma) (hb:DE X b mb) (hc:DE X c mc) :
  DE X (.Compare a [op,op'] [b,c] pos) (Hl f f' ma mb mc):=fun loc mh=>Bk (eV ho ho' ha.x hb.x hc.x hm) fun σ H Q h=>Rg ⟨loc,mh,h⟩
theorem iH {op op':CmpOp}{f f':D->D->MH->Option (D×MH)}(ho:OpR X (compareOp op) (rD X.K f)) (ho':OpR X (compareOp op') (rD X.K f')) (hm:lastMarks [op,op'] [b,c]=false) (ha:DE X a ma) (hb:DE X b mb) (hc:DE X c mc) :
  DT X (.Compare a [op,op'] [b,c] pos) (Ah (Hl f f' ma mb mc)):=by
 refine fun loc mh=>S6 (eX ho ho' ha.x hb.x hc.x hm) ?_
 rintro σ H Q ⟨ρ,k,mh',q,rl,rs,co⟩;have q:=Fp q;exact Rg ⟨loc,mh,ρ,_,_,q,rl,rs,fun H' ρ' v e' rs' r'=>by cases r';exact ⟨k,rfl,co H' ρ' e' rs'⟩⟩
noncomputable def rDM (K:PySem.W.Frag) (f:D->List D->MH->Option (D×MH)):V->List V->Hp->VK->Prop:=fun x xs H Q=>∃ ρ mh dx ds d mh',f dx ds mh=some (d,mh')/\RS K H ρ mh/\RD K H ρ dx x/\RDs K H ρ ds xs/\Co K H ρ mh' d Q
noncomputable def bR (T:String) (x:D) (mh:MH):Bool:=match x with
 | .str _=>T == "str"
 | .int _=>T == "int"
 | .ref n=>T == "list"&&(match mh[n]? with | some (.lst _)=>true | _=>false)
 | .tup _=>T == "tuple"
 | _=>false
theorem iJ {K:PySem.W.Frag}{H:Hp}{ρ:List Addr}{mh:MH}{T:String}{x:D}{v:V}(rs:RS K H ρ mh) (r:RD K H ρ x v) (h:bR T x mh=true):tyV K T v H:=by
 cases r with
 | str z=>exact eq_of_beq h
 | int i=>exact eq_of_beq h
 | @ref n a hn =>
  have h:(T == "list"&&(match mh[n]? with | some (.lst _)=>true | _=>false))=true:=h;rw [Bool.and_eq_true] at h;obtain ⟨o,eo⟩:∃ o,mh[n]?=some (.lst o):=by
   have h:=h.2;split at h
   ·exact ⟨_,‹_›⟩
   ·cases h
  obtain ⟨a',ha,ro⟩:=rs.at eo;rw [hn] at ha;cases ha;obtain ⟨xs,sq,_⟩:=ro.read;exact .inl ⟨eq_of_beq h.1,xs,sq⟩
 | tup s r=>exact .inr (.inl ⟨eq_of_beq h,_,s⟩)
 | _=>cases h
noncomputable def Cu (T:String) (f:D->List D->MH->Option (D×MH)) (mo:DM D) (mr:DM (List D)):DM D:=mo.bnd fun x=>fun loc mh=>if bR T x mh=true then (mr.bnd fun ds=>Zl (f x ds)) loc mh else none
theorem Mt {T id:String}{name:Str}{apos:Pos}{es:List Expr}{mr:DM (List D)}{f:D->List D->MH->Option (D×MH)}(pa:PlainAttrs T) (slot:Slot T name id) (hty:typeOf (.builtin id)=pure (.type "method_descriptor")) (hm:MtR X id (rDM X.K f)) (ho:DE X o mo) (ha:DA X (a::es) mr)
  (hbase:attributeBase o name X.env (eval o X.env)=eval o X.env)
  (hfew:((backTo pos (starEach (a::es) X.env)).all (fun x=>!x.1)&&(backToKw pos (keywordEach [] X.env)).all (fun x=>x.1.isSome)
   && decide ((a::es).length+([]:List Keyword).length+(if ([]:List Keyword).isEmpty then 0 else 1) < 30))=true)
  (hline:(apos.endLine==pos.line)=true) (hs:starEach (a::es) X.env=(false,eval a X.env)::starEach es X.env) (hplain:(backTo pos (starEach es X.env)).any (·.1)=false) :
  DE X (.Call (.Attribute o name apos) (a::es) [] pos) (Cu T f mo mr):=fun loc mh=>by
 cases eo:mo loc mh with
 | none =>
  have:Cu T f mo mr loc mh=none:=by unfold Cu DM.bnd;rw [eo]
  rw [this];exact Bl
 | some p =>
  obtain ⟨x,m1⟩:=p;refine Bk (Ael pa slot hty hm (ho loc mh) (ha loc m1) hbase hfew hline hs hplain) ?_;rintro σ H Q ⟨ρ,d,mh',q,rl,rs,co⟩;obtain ⟨x',m1',eo',q⟩:=Aw q;rw [eo] at eo';cases eo';split at q
  ·rename_i ht;obtain ⟨ds,m2,er,q⟩:=Aw q;exact ⟨ρ,x,m1,eo,rl,rs,fun H1 ρ1 v e1 rs1 r1=>⟨iJ rs1 r1 ht,ρ1,ds,m2,er,rl.mono e1,rs1,fun H2 ρ2 vs e2 rs2 r2=>⟨ρ2,m2,x,ds,d,mh',q,rs2,r1.mono e2,r2,co.ev (e1.trans e2)⟩⟩⟩
  ·cases q
theorem iK {T id:String}{name:Str}{apos:Pos}{f:D->List D->MH->Option (D×MH)}(pa:PlainAttrs T) (slot:Slot T name id) (hty:typeOf (.builtin id)=pure (.type "method_descriptor")) (hm:MtR X id (rDM X.K f)) (ho:DE X o mo)
  (hbase:attributeBase o name X.env (eval o X.env)=eval o X.env) (hline:(apos.endLine==pos.line)=true):DE X (.Call (.Attribute o name apos) [] [] pos) (Cu T f mo (Zr [])):=fun loc mh=>by
 refine Bk (zR pa slot hty hm (ho loc mh) hbase hline) ?_;rintro σ H Q ⟨ρ,d,mh',q,rl,rs,co⟩;obtain ⟨x,m1,eo,q⟩:=Aw q;split at q
 ·rename_i ht;exact ⟨ρ,x,m1,eo,rl,rs,fun H1 ρ1 v e1 rs1 r1=>⟨iJ rs1 r1 ht,ρ1,m1,x,[],d,mh',q,rs1,r1,.nil,co.ev e1⟩⟩
 ·cases q
theorem Zm {id:String}{r r':V->List V->Hp->VK->Prop}(h:MtR X id r) (i:∀ x xs H Q,r' x xs H Q->r x xs H Q):MtR X id r':=fun pins s σ H x xs v us Q I rx rs q=>h pins s σ H x xs v us Q I rx rs (i x xs H Q q)
noncomputable def Cy:D->List D->MH->Option (D×MH)
 | .ref n,[y],mh=>match mh[n]? with
  | some (.lst ds)=>if ds.length < sizeLine then some (.non,mh.set n (.lst (ds++[y]))) else none
  | _=>none
 | _,_,_=>none
theorem Xd:MtR X "list.append" (rDM X.K Cy):=by
 refine Zm bI ?_;rintro x xs H Q ⟨ρ,mh,dx,ds,d,mh',q,rs,rx,r,co⟩
 match ds,q with
 | [y],q =>
  obtain ⟨v,rfl,rv⟩:=S9 r;cases rx with
  | @ref n a hn =>
   have q:(match mh[n]? with | some (.lst ds)=>if ds.length < sizeLine then some (D.non,mh.set n (.lst (ds++[y]))) else none | _=>none)=some (d,mh'):=q;split at q
   ·rename_i ds em;split at q
    ·rename_i hz;cases q;obtain ⟨a',ha,us,hu,ru⟩:=rs.at em;rw [hn] at ha;cases ha;exact ⟨a,us,v,rfl,rfl,hu,by rw [← ru.length];exact hz,co _ ρ _ (Ev.lst hu) (rs.setL hn hu (ru.append (.cons rv .nil))) .non⟩
    ·cases q
   ·cases q
  | _=>cases q
 | [],q=>cases dx <;> cases q
 | _::_::_,q=>cases dx <;> cases q
noncomputable def iM:D->List D->MH->Option (D×MH)
 | .int i,[],mh=>some (.int (Builtin.Int.intBits i),mh)
 | _,_,_=>none
theorem iQ:MtR X "int.bit_length" (rDM X.K iM):=by
 rintro pins s σ H x xs v us Q I rx rv ⟨ρ,mh,dx,ds,d,mh',q,rs,r1,r2,co⟩
 match ds,q with
 | [],q =>
  cases r2;cases rv;cases r1 with
  | int i =>
   cases q;obtain ⟨t,rfl⟩:=rx;exact call_int_bit_length ⟨.int _,H,I.tok _,⟨_,rfl⟩,co H ρ _ Ev.refl rs (.int _)⟩
  | _=>cases q
 | _::_,q=>cases dx <;> cases q
noncomputable def Aaq:D->MH->Option (D×MH)
 | .int i,mh=>some (.int (-i),mh)
 | _,_=>none
theorem tR:UnR X (unaryOp .USub) (rD1 X.K Aaq):=by
 rintro pins s σ H x v Q I rx ⟨ρ,mh,dx,d,mh',q,rs,r1,co⟩;cases r1 with
 | int i=>cases q;exact zF pins s σ H _ v Q I rx ⟨i,rfl,co H ρ _ Ev.refl rs (.int _)⟩
 | _=>cases q
end
section
variable {P:Program}{w:World}
variable {A:Around}{E:Value->Shared->Prop}{s:Shared}
end
section
variable {P:Program}{w:World}{A:Around}{R:Result->Shared->Prop}{I:Addr}{fp wr:List Addr}{G:Array GenState->Array GenState->Prop}{n:Nat}{V:Nat->Value->Prop}{T:Nat->Shared->Prop}
end
section
variable {P:Program}{w:World}{A:Around}{E:Value->Shared->Prop}{s:Shared}
end
section
variable {P:Program}{w:World}{A:Around}{E:Value->Shared->Prop}{s:Shared}
noncomputable def iR (ns:List Int):List Int:=firstMet (fun i=>ns.getD i 0) ns.length
end
section
variable {P:Program}{w:World}{A:Around}{E:Value->Shared->Prop}{s:Shared}
end
section
variable {P:Program}{w:World}{A:Around}{E:Value->Shared->Prop}
end
namespace SI
end SI
section
variable {P:Program}{w:World}{A:Around}{E:Value->Shared->Prop}{s:Shared}{a I:Addr}{o:Obj}{es:Array (Int×Value)}{ep n:Nat}{t:SetTable}{S:Int->Bool}
end
section
variable {P:Program}{w:World}{A:Around}{E:Value->Shared->Prop}{s:Shared}{a I:Addr}{o:Obj}{es:Array (Int×Value)}{ep n:Nat}{t:SetTable}{S:Int->Bool}
end
noncomputable def Aev (ns:List Int):List Int:=(iR ns).mergeSort fun a b=>decide (a<=b)
theorem iU {l l':List Int}(p:l.Perm l') (h:l.Pairwise (·<=·)) (h':l'.Pairwise (·<=·)):l=l':=p.eq_of_pairwise (le:=(·<=·)) (fun a b _ _ x y=>Int.le_antisymm x y) h h'
theorem Fe:∀ {us:List Value}{ns:List Int},IntsAre us ns->Vals (ns.map V.int) us
 | _,_,.nil=>.nil
 | _,_,.cons n t h=>.cons ⟨t,rfl⟩ (Fe h)
section
variable {X:Cx}
end
section
variable {P:Program}{w:World}{A:Around}{E:Value->Shared->Prop}{s:Shared}{a b:Addr}{o o':Obj}{es es':Array (Int×Value)}{ep n ep' n':Nat}{t t':SetTable}{S S':Int->Bool}
end
noncomputable def Aew (ns ms:List Int):Bool:=ns.all (fun k=>ms.contains k)&&ms.all fun k=>ns.contains k
section
variable {P:Program}{w:World}{K:Type} [DecidableEq K] {knd:KeyKind P w K}{A:Around}{E:Value->Shared->Prop}{s:Shared}
end
section
variable {P:Program}{w:World}{K:Type} [DecidableEq K] {knd:KeyKind P w K}{A:Around}{E:Value->Shared->Prop}{s:Shared}
end
section
variable {P:Program}{w:World}{K:Type} [DecidableEq K] {knd:KeyKind P w K}
end
section
variable {P:Program}{w:World}{K:Type} [DecidableEq K] {knd:KeyKind P w K}{A:Around}{R:Result->Shared->Prop}{I:Addr}{fp wr:List Addr}{G:Array GenState->Array GenState->Prop}{n:Nat}{V:Nat->Value->Prop}{T:Nat->Shared->Prop}
end
section
variable {P:Program}{w:World}{K:Type} [DecidableEq K] {knd:KeyKind P w K}{A:Around}{E:Value->Shared->Prop}{s:Shared}
end
section
variable {X:Cx}
end
noncomputable def intsOf:List D->Option (List Int)
 | []=>some []
 | .int i::r=>match intsOf r with
  | some l=>some (i::l)
  | none=>none
 | _=>none
noncomputable def iV:D->MH->Option (List Int)
 | .ref n,mh=>match mh[n]? with
  | some (.lst o)=>intsOf o
  | _=>none
 | .rol ds,_=>intsOf ds
 | .tup ds,_=>intsOf ds
 | _,_=>none
theorem Ow:∀ (ns:List Int),intsOf (ns.map D.int)=some ns
 | []=>rfl
 | n::r=>by
  show (match intsOf (r.map D.int) with | some l=>some (n::l) | none=>none)=_;rw [Ow r]
theorem Gh:∀ {ds:List D}{ns:List Int},intsOf ds=some ns->ds=ns.map D.int
 | [],ns,h=>by cases h;rfl
 | d::r,ns,h=>by
  cases d with
  | int i =>
   have h:(match intsOf r with | some l=>some (i::l) | none=>none)=some ns:=h;split at h
   ·rename_i l e;cases h;rw [Gh e];rfl
   ·cases h
  | _=>cases h
section
variable {K:PySem.W.Frag}{H:Hp}{ρ:List Addr}{mh:MH}
theorem Ox {ns:List Int}{vs:List V}(h:RDs K H ρ (ns.map D.int) vs):vs=ns.map V.int:=by
 induction ns generalizing vs with
 | nil=>cases h;rfl
 | cons n r ih =>
  cases h with
  | cons a t=>cases a;rw [ih t];rfl
end
noncomputable def tU (x:D) (mh:MH):Option (D×MH):=match iV x mh with
 | some ns=>if ns.length < 4000 then some (.int (iR ns).length,mh) else none
 | none=>none
noncomputable def Aar (x y:D) (mh:MH):Option (D×MH):=match iV x mh,iV y mh with
 | some ns,some ms=>if ns.length < 4000/\ms.length < 4000 then some (.bl (Aew ns ms),mh) else none
 | _,_=>none
section
variable {X:Cx}{a:Expr}{ma:DM D}{p p2 pos pos2:Pos}
noncomputable def iW (mx my:DM D):DM D:=mx.bnd fun x=>my.bnd fun y=>Zl (Aar x y)
end
section
variable {X:Cx}{pins:List (Addr×Obj)}{σ:L2.St}{H:Hp}{s:Shared}
theorem Vb (I:Inv X pins σ H s) {A:Around}(hh:A.handled=none) {p:Addr}{ys:List V}(hq:SqL X.K H p ys\/SqT X.K H p ys) {Q:Value->Shared->Prop}{E:Value->Shared->Prop}
  (h:∀ (its:List Value) (St:Nat->Heap->Prop) (h2:Heap),Vals ys its->Walks X.prog X.w A s.heap.objs.size [s.heap.objs.size,p] [s.heap.objs.size] its.length (fun i v=>its[i]?=some v) St->St 0 h2 ->
   (∀ b∈[s.heap.objs.size,p],b < h2.objs.size)->(∀ b o,s.heap.get? b=some o->h2.get? b=some o)->Q (.ref s.heap.objs.size) { s with heap:=h2 }) :
  wpAny (model X.prog X.w) A (pyIter (.ref p)) Q E s:=by
 rcases hq with hq|hq
 ·obtain ⟨its,rv,pl,hz⟩:=I.list hq;have hlt:p < s.heap.objs.size:=by obtain ⟨_,_,e,_⟩:=pl;exact Heap.lt_size e
  refine wpAny_pyIter_list pl.isList ?_;have W:=Walks.list (prog:=X.prog) (w:=X.w) hh s.heap.objs.size p (Nat.ne_of_lt hlt) its.toArray;refine h its (fun i h=>h.IsListIter s.heap.objs.size p i/\h.IsList p its.toArray) _ rv (by simpa using W) ⟨⟨_,Heap.get?_push_size _ rfl,rfl,rfl⟩,pl.isList.push _⟩ (fun b hb=>?_) fun b o e=>Heap.get?_push_of_some _ e
  rw [Heap.size_push];simp at hb;rcases hb with e|e
  ·rw [e];exact Nat.lt_succ_self _
  ·rw [e];exact Nat.lt_succ_of_lt hlt
 ·obtain ⟨its,rv,pl,hz⟩:=I.tuple hq;have pl:s.heap.IsTuple p its.toArray:=pl;have hlt:p < s.heap.objs.size:=by obtain ⟨_,e,_⟩:=id pl;exact Heap.lt_size e
  refine wpAny_pyIter_tuple pl ?_;have W:=Walks.tuple (prog:=X.prog) (w:=X.w) hh s.heap.objs.size p (Nat.ne_of_lt hlt) its.toArray;refine h its (fun i h=>h.IsTupleIter s.heap.objs.size p i/\h.IsTuple p its.toArray) _ rv (by simpa using W) ⟨⟨_,Heap.get?_push_size _ rfl,rfl,rfl⟩,pl.push _⟩ (fun b hb=>?_) fun b o e=>Heap.get?_push_of_some _ e
  rw [Heap.size_push];simp at hb;rcases hb with e|e
  ·rw [e];exact Nat.lt_succ_self _
  ·rw [e];exact Nat.lt_succ_of_lt hlt
theorem Vc {h2 h':Heap}(hk:∀ b o,b ∉ [s.heap.objs.size]->h2.get? b=some o->h'.get? b=some o) (h1:∀ b o,s.heap.get? b=some o->h2.get? b=some o):∀ b o,s.heap.get? b=some o->h'.get? b=some o :=
 fun b o e=>hk b o (fun hm=>by rw [List.mem_singleton.mp hm] at e;exact Nat.lt_irrefl _ (Heap.lt_size e)) (h1 b o e)
end
noncomputable def boolsOf:List D->Option (List Bool)
 | []=>some []
 | .bl i::r=>match boolsOf r with
  | some l=>some (i::l)
  | none=>none
 | _=>none
theorem Mu:∀ (ns:List Bool),boolsOf (ns.map D.bl)=some ns
 | []=>rfl
 | n::r=>by
  show (match boolsOf (r.map D.bl) with | some l=>some (n::l) | none=>none)=_;rw [Mu r]
theorem Kr:∀ {ds:List D}{ns:List Bool},boolsOf ds=some ns->ds=ns.map D.bl
 | [],ns,h=>by cases h;rfl
 | d::r,ns,h=>by
  cases d with
  | bl i =>
   have h:(match boolsOf r with | some l=>some (i::l) | none=>none)=some ns:=h;split at h
   ·rename_i l e;cases h;rw [Kr e];rfl
   ·cases h
  | _=>cases h
theorem bT {K:PySem.W.Frag}{H:Hp}{ρ:List Addr}{ns:List Bool}{vs:List V}(h:RDs K H ρ (ns.map D.bl) vs):vs=ns.map V.bl:=by
 induction ns generalizing vs with
 | nil=>cases h;rfl
 | cons n r ih =>
  cases h with
  | cons a t=>cases a;rw [ih t];rfl
theorem Zo:∀ {bs:List Bool}{its:List Value},Vals (bs.map V.bl) its->its=bs.map Value.bool
 | [],_,.nil=>rfl
 | b::r,_,.cons h t=>by
  have h:_=Value.bool b:=h;rw [h,Zo t];rfl
theorem Ks:∀ {ns:List Int}{its:List Value}{i:Nat}{v:Value},Vals (ns.map V.int) its->its[i]?=some v->∃ n t,ns[i]?=some n/\v=.int n t
 | [],_,_,_,.nil,e=>by simp at e
 | n::r,_,0,_,.cons h t,e=>by
  obtain ⟨k,rfl⟩:=h;cases e;exact ⟨n,k,rfl,rfl⟩
 | n::r,_,i+1,_,.cons h t,e=>by
  obtain ⟨m,k,h1,h2⟩:=Ks (i:=i) t (by simpa using e);exact ⟨m,k,by simpa using h1,h2⟩
noncomputable def Ku (f:List Bool->Bool):List D->MH->Option (D×MH)
 | [x],mh=>match Ec x mh with
  | some ds=>match boolsOf ds with
   | some bs=>some (.bl (f bs),mh)
   | none=>none
  | none=>none
 | _,_=>none
theorem Td {f:List Bool->Bool}{ds:List D}{mh mh':MH}{d:D}(h:Ku f ds mh=some (d,mh')):∃ x bs,ds=[x]/\Ec x mh=some (bs.map D.bl)/\d=.bl (f bs)/\mh'=mh:=by
 match ds,h with
 | [x],h =>
  have h:(match Ec x mh with | some ds=>(match boolsOf ds with | some bs=>some (D.bl (f bs),mh) | none=>none) | none=>none)=some (d,mh'):=h;split at h
  ·rename_i es e;split at h
   ·rename_i bs eb;cases h;rw [Kr eb] at e;exact ⟨x,bs,rfl,e,rfl,rfl⟩
   ·cases h
  ·cases h
 | [],h=>cases h
 | _::_::_,h=>cases h
noncomputable def tV:List D->MH->Option (D×MH):=Ku fun bs=>bs.all id
section
variable {X:Cx}
theorem iY (hc:X.calm=true) {id:String}{f:List Bool->Bool}{dflt:Bool}{g:List Nat->(Nat->Bool)->Bool}(hg:∀ bs:List Bool,g (List.range bs.length) (fun i=>(bs[i]?).getD dflt)=f bs)
  (call_w:∀ {A:Around} {x:Value} {Q:Value->Shared->Prop} {E:Value->Shared->Prop} {s:Shared},wpAny (model X.prog X.w) A.in1 (pyIter x) (fun it s₂=>∃ I fp wr n P St tr,it=.ref I/\Walks X.prog X.w A.in1 I fp wr n P St/\St 0 s₂.heap/\TruthOf X.prog X.w A.in1 P tr /\
   ∀ h' tk,(∀ b o,b ∉ wr->s₂.heap.get? b=some o->h'.get? b=some o)->Q (.bool (g (List.range n) tr)) { s₂ with heap:=h',toks:=tk }) E s->wpAny (model X.prog X.w) A (call (.builtin id) [x]) Q E s) :
  Cd X (.builtin id) (rDs X.K (Ku f)):=by
 rintro pins s σ H xs us Q I r ⟨ρ,mh,ds,d,mh',q,rs,rd,co⟩;obtain ⟨x,bs,rfl,e,rfl,rfl⟩:=Td q;obtain ⟨v,rfl,rx⟩:=S9 rd;obtain ⟨u,rfl,ru⟩:=vals1 r;obtain ⟨p,ys,rfl,hq,ry⟩:=Ip rs rx e;cases ru;rw [bT ry] at hq;refine call_w (Vb I (A:=X.A.in1) (I.ok.hd hc) hq fun its St h2 rv W st _ hk=>?_);have ei:=Zo rv;refine ⟨_,_,_,its.length,_,St,fun i=>(bs[i]?).getD dflt,rfl,W,st,fun i v s' Q' E' hP hQ=>?_,fun h' tk hk'=>?_⟩
 ·rw [ei,List.getElem?_map] at hP;cases eb:bs[i]? with
  | none=>rw [eb] at hP;cases hP
  | some b =>
   rw [eb] at hP;cases hP;simp only [eb,Option.getD_some] at hQ;exact wpAny_truthy_bool hQ
 ·have e2:its.length=bs.length:=by rw [ei,List.length_map]
  rw [e2,hg bs];exact ⟨.bl _,H,I.kept (t':=tk) (Vc hk' hk),rfl,co H ρ _ Ev.refl rs (.bl _)⟩
theorem bU (hc:X.calm=true):Cd X (.builtin "all") (rDs X.K tV):=iY (dflt:=true) hc (g:=fun l f=>l.all f) (fun bs=>LSm.range_all bs) fun h=>call_all_walk h
end
noncomputable def Vd:Int->List Int->Int
 | m,[]=>m
 | m,x::r=>Vd (if x < m then x else m) r
theorem Kv (bt:Nat->Nat->Bool) (f:Int->List Int->Int) (ns:List Int) (b:Int->Int->Bool) (hb:∀ i j x y,ns[i]?=some x->ns[j]?=some y->bt i j=b x y) (f0:∀ m,f m []=m) (f1:∀ m l x,f m (l++[x])=if b x (f m l)=true then x else f m l) :
  ∀ (k:Nat) (h:k < ns.length),∀ m r,ns=m::r->ns[argBest bt k]?=some (f m (r.take k))
 | 0,h,m,r,e=>by
  subst e;simp [argBest,f0]
 | k+1,h,m,r,e=>by
  have ih:=Kv bt f ns b hb f0 f1 k (by omega) m r e;have hk:k < r.length:=by rw [e,List.length_cons] at h;omega
  have e1:ns[k+1]?=some r[k]:=by rw [e,List.getElem?_cons_succ,List.getElem?_eq_getElem hk]
  have e2:r.take (k+1)=r.take k++[r[k]]:=by rw [List.take_add_one,List.getElem?_eq_getElem hk];rfl
  have e3:=hb (k+1) (argBest bt k) _ _ e1 ih;rw [e2,f1];unfold argBest;rw [e3];split
  ·exact e1
  ·exact ih
theorem Rh:∀ (l:List Int) (m x:Int),Vd m (l++[x])=if decide (x < Vd m l)=true then x else Vd m l
 | [],m,x=>by by_cases h:x < m <;> simp [Vd,h]
 | y::l,m,x=>by
  show Vd _ (l++[x])=_;rw [Rh l];rfl
noncomputable def Xe (f:Int->List Int->Int):List D->MH->Option (D×MH)
 | [x],mh=>match Ec x mh with
  | some ds=>match intsOf ds with
   | some (n::r)=>some (.int (f n r),mh)
   | _=>none
  | none=>none
 | _,_=>none
theorem Ve {f:Int->List Int->Int}{ds:List D}{mh mh':MH}{d:D}(h:Xe f ds mh=some (d,mh')):∃ x n r,ds=[x]/\Ec x mh=some ((n::r).map D.int)/\d=.int (f n r)/\mh'=mh:=by
 match ds,h with
 | [x],h =>
  have h:(match Ec x mh with | some ds=>(match intsOf ds with | some (n::r)=>some (D.int (f n r),mh) | _=>none) | none=>none)=some (d,mh'):=h;split at h
  ·rename_i es e;split at h
   ·rename_i n r eb;cases h;rw [Gh eb] at e;exact ⟨x,n,r,rfl,e,rfl,rfl⟩
   ·cases h
  ·cases h
 | [],h=>cases h
 | _::_::_,h=>cases h
noncomputable def minD:List D->MH->Option (D×MH):=Xe Vd
section
variable {X:Cx}
theorem tW (hc:X.calm=true) {id:String}{f:Int->List Int->Int}{op:CmpOp}{b:Int->Int->Bool}(f0:∀ m,f m []=m) (f1:∀ m l x,f m (l++[x])=if b x (f m l)=true then x else f m l)
  (cmp:∀ {A:Around} {x y:Int} {t u:Tok} {Q:Value->Shared->Prop} {E:Value->Shared->Prop} {s:Shared},Q (.bool (b x y)) s->wpAny (model X.prog X.w) A (richCompare op (.int x t) (.int y u)) Q E s)
  (call_w:∀ {A:Around} {x:Value} {Q:Value->Shared->Prop} {E:Value->Shared->Prop} {s:Shared},wpAny (model X.prog X.w) A.in1 (pyIter x) (fun it s₂=>∃ I fp wr n P St bt,it=.ref I/\Walks X.prog X.w A.in1 I fp wr n P St/\St 0 s₂.heap/\(∀ b∈fp,b < s₂.heap.objs.size)/\0 < n/\CmpOf X.prog X.w A.in1 op P bt /\
   ∀ v h' tk,P (argBest bt (n - 1)) v->(∀ b o,b ∉ wr->s₂.heap.get? b=some o->h'.get? b=some o)->Q v { s₂ with heap:=h',toks:=tk }) E s->wpAny (model X.prog X.w) A (call (.builtin id) [x]) Q E s) :
  Cd X (.builtin id) (rDs X.K (Xe f)):=by
 rintro pins s σ H xs us Q I r ⟨ρ,mh,ds,d,mh',q,rs,rd,co⟩;obtain ⟨x,n,l,rfl,e,rfl,rfl⟩:=Ve q;obtain ⟨v,rfl,rx⟩:=S9 rd;obtain ⟨u,rfl,ru⟩:=vals1 r;obtain ⟨p,ys,rfl,hq,ry⟩:=Ip rs rx e;cases ru;rw [Ox ry] at hq;refine call_w (Vb I (A:=X.A.in1) (I.ok.hd hc) hq fun its St h2 rv W st hfp hk=>?_);have hlen:(n::l).length=its.length:=by have:=rv.length;simpa using this
 refine ⟨_,_,_,its.length,_,St,fun i j=>(match (n::l)[i]?,(n::l)[j]? with | some x,some y=>b x y | _,_=>false),rfl,W,st,hfp,by rw [← hlen];simp,fun i j vi vj s' Q' E' hi hj hQ=>?_,fun v h' tk hP hk'=>?_⟩
 ·obtain ⟨a,t,e1,rfl⟩:=Ks rv hi;obtain ⟨a',t',e2,rfl⟩:=Ks rv hj;simp only [e1,e2] at hQ;exact cmp hQ
 ·have ar:=Kv (fun i j=>(match (n::l)[i]?,(n::l)[j]? with | some x,some y=>b x y | _,_=>false)) f (n::l) b (fun i j x y e1 e2=>by simp only [e1,e2]) f0 f1 (its.length - 1) (by rw [hlen];simp at hlen;omega) n l rfl;obtain ⟨a,t,e1,rfl⟩:=Ks rv hP;rw [ar] at e1;have e3:l.take (its.length - 1)=l:=List.take_of_length_le (by rw [← hlen];simp);rw [e3] at e1;cases e1;exact ⟨.int _,H,I.kept (t':=tk) (Vc hk' hk),⟨t,rfl⟩,co H ρ _ Ev.refl rs (.int _)⟩
end
section
variable {X:Cx}
theorem bV (hc:X.calm=true):Cd X (.builtin "min") (rDs X.K minD):=tW (op:=.Lt) (b:=fun x m=>decide (x < m)) hc (fun _=>rfl) (fun m l x=>Rh l m x) (fun h=>PyProof.Rows.lt_int h) fun h=>call_min_walk h
theorem RDs.dropLast {K:PySem.W.Frag}{H:Hp}{ρ:List Addr}:∀ {ds:List D}{vs:List V},RDs K H ρ ds vs->RDs K H ρ ds.dropLast vs.dropLast
 | _,_,.nil=>.nil
 | _,_,.cons _ .nil=>.nil
 | _,_,.cons r (.cons r2 t)=>.cons r (RDs.dropLast (.cons r2 t))
noncomputable def bW:D->List D->MH->Option (D×MH)
 | .ref n,[],mh=>match mh[n]? with
  | some (.lst ds)=>(match ds[ds.length - 1]? with | some y=>some (y,mh.set n (.lst ds.dropLast)) | none=>none)
  | _=>none
 | _,_,_=>none
theorem tX:MtR X "list.pop" (rDM X.K bW):=by
 refine Zm zT ?_;rintro x xs H Q ⟨ρ,mh,dx,ds,d,mh',q,rs,rx,r,co⟩
 match ds,q with
 | [],q =>
  cases r;cases rx with
  | @ref n a hn =>
   simp only [bW] at q;split at q
   ·rename_i ds em;split at q
    ·rename_i y ey;cases q;obtain ⟨a',ha,us,hu,ru⟩:=rs.at em;rw [hn] at ha;cases ha;obtain ⟨w',hw,rw'⟩:=ru.get ey;refine ⟨a,us,w',rfl,rfl,hu,by rw [← ru.length];exact hw,?_⟩;exact co _ ρ _ (Ev.lst hu) (rs.setL hn hu ru.dropLast) (rw'.mono (Ev.lst hu))
    ·cases q
   ·cases q
  | _=>cases q
 | _::_,q=>cases dx <;> simp [bW] at q
end
section
variable {X:Cx}{pins:List (Addr×Obj)}{σ:L2.St}{H:Hp}{s:Shared}{fp:List Addr}{h':Heap}
theorem bY {t':Nat}(I:Inv X pins σ H s) (k:∀ b o,b ∉ fp->s.heap.get? b=some o->h'.get? b=some o) (hf:∀ b∈fp,Ko X pins H b):Inv X pins σ H { s with heap:=h',toks:=t' }:=by
 have nf:∀ b u,H b=some u->b ∉ fp:=fun b u e z=>by rw [(hf b z).1] at e;cases e
 refine I.step (g':=s.gens) (d':=s.drawn) (ch:=fp) (fun b hb=>⟨(hf b hb).2.2.2.1,(hf b hb).2.1,(hf b hb).2.2.2.2.1,(hf b hb).2.2.2.2.2⟩) (fun b o _ _ hc e _=>k b o hc e) (fun b o _ _ hc e _=>⟨o.slots,k b o hc e⟩) (fun _ _ _ _ n=>n)
  (fun b o hc e=>⟨o,k b o hc e⟩) (fun _ _ e=>e) (fun _ _ _ e=>e) (fun b ps e=>⟨#[],by rw [e];simp⟩) (fun m hm=>?_) (fun b u e=>?_) I.bare
 ·obtain ⟨o,es,ep,ho,r⟩:=hm;exact ⟨o,es,ep,k _ o (fun z=>(hf _ z).2.1 rfl) ho,r⟩
 ·refine (I.hok b u e).stay (fun c v hc q=>k c v ?_ q) (fun _ q=>q) fun _ _ q=>q
  rcases hc with z|z
  ·rw [z];exact nf b u e
  ·exact nf c _ z
theorem Qs {t':Nat}{a:Addr}{o:HO}(I:Inv X pins σ H s) (k:∀ b o,b ∉ fp->s.heap.get? b=some o->h'.get? b=some o) (hf:∀ b∈fp,Ko X pins H b) (hp:s.heap.objs.size<=a) (new:Fb X.prog X.w (upd H a o) h' a o) :
  Inv X pins σ (upd H a o) { s with heap:=h',toks:=t' }:=by
 have hn:H a=none:=I.hok.fresh hp;have nb:∀ b u,H b=some u->upd H a o b=some u:=fun b u e=>by rw [Af (Al e hn)];exact e
 have nf:∀ b u,H b=some u->b ∉ fp:=fun b u e z=>by rw [(hf b z).1] at e;cases e
 refine I.step (g':=s.gens) (d':=s.drawn) (ch:=fp) (fun b hb=>⟨(hf b hb).2.2.2.1,(hf b hb).2.1,(hf b hb).2.2.2.2.1,(hf b hb).2.2.2.2.2⟩) (fun b o _ _ hc e _=>k b o hc e) (fun b o _ _ hc e _=>⟨o.slots,k b o hc e⟩) (fun b o' hc e n=>?_)
  (fun b o hc e=>⟨o,k b o hc e⟩) (fun b xs e=>nb _ _ e) (fun b o u e=>nb _ _ e) (fun b ps e=>⟨#[],by rw [nb _ _ e];simp⟩) (fun m hm=>?_) (fun b u e=>?_) I.bare
 ·rw [Af (Nat.ne_of_lt (Nat.lt_of_lt_of_le (Heap.lt_size e) hp))];exact n
 ·obtain ⟨o,es,ep,ho,r⟩:=hm;exact ⟨o,es,ep,k _ o (fun z=>(hf _ z).2.1 rfl) ho,r⟩
 ·by_cases hb:b=a
  ·subst hb;rw [Bb] at e;cases e;exact new
  ·rw [Af hb] at e;refine (I.hok b u e).stay (fun c v hc q=>k c v ?_ q) (fun c q=>nb _ _ q) fun c xs q=>nb _ _ q
   rcases hc with z|z
   ·rw [z];exact nf b u e
   ·exact nf c _ z
end
section
variable {prog:Program}{w:World}{A:Around}{E:Value->Shared->Prop}{s:Shared}
theorem Vf {it l:Addr}{i:Nat}{items:Array Value}{x:Value}{Q:Value->Shared->Prop}(hit:s.heap.IsTupleIter it l i) (hl:s.heap.IsTuple l items) (hx:items[i]?=some x)
  (hQ:∀ h',h'.IsTupleIter it l (i+1)->Heap.SameBut it s.heap h'->Q x { s with heap:=h' }):wpAny (model prog w) A (Builtin.SmallTypes.nextOf (.ref it)) Q E s:=by
 obtain ⟨o,ho,hc,hd⟩:=id hit;obtain ⟨ol,hol,_,nl,hdl⟩:=hl;unfold Builtin.SmallTypes.nextOf
 refine wpAny_bind (wpAny_callSpecial?_slot (name:=Str.ofString "__next__") hit.typeIs F.slot_tuple_iterator_next (wpAny_call_entry F.slot_tuple_iterator_next hit.typeIs F.entry_tuple_iterator_next ?_ (F.args_tuple_iterator_next_1 _)));show wpAny _ _ (field (.ref it) 0 >>= _) _ _ s;refine wpAny_bind (wpAny_field ho hd (x:=.ref l) rfl ?_);show wpAny _ _ (if (Value.ref l==Value.none)=true then _ else _) _ _ s;rw [if_neg (show ¬ ((Value.ref l==Value.none)=true) from Bool.false_ne_true)];show wpAny _ _ (field (.ref it) 1 >>= _) _ _ s;refine wpAny_bind (wpAny_field ho hd (x:=.int i 0) rfl ?_);show wpAny _ _ (seqItems? (.ref l) >>= _) _ _ s;refine wpAny_bind (wpAny_seqItems hol hdl ?_);simp only [Int.toNat_natCast,hx];refine wpAny_bind (wpAny_setField ho hd (by simp) (wpAny_pure ⟨x,rfl,wpAny_pure (hQ _ ⟨_,Heap.get?_update_self _ ho (Obj.isFreed_of_fields (Obj.data_mapFields hd _)),(Obj.cls_mapFields ..).trans hc,?_⟩ (Heap.SameBut.update ..))⟩));rw [Obj.data_mapFields hd];simp [rawInt]
theorem Vg {it l:Addr}{i:Nat}{items:Array Value}{Q:Value->Shared->Prop}(hh:A.handled=none) (hit:s.heap.IsTupleIter it l i) (hl:s.heap.IsTuple l items) (hx:items[i]?=none)
  (hE:∀ h' e,Heap.ExtBut it s.heap h'->(∃ o,h'.get? e=some o/\o.cls=.type "StopIteration")->E (.ref e) { s with heap:=h' }):wpAny (model prog w) A (Builtin.SmallTypes.nextOf (.ref it)) Q E s:=by
 obtain ⟨o,ho,hc,hd⟩:=id hit;obtain ⟨ol,hol,_,nl,hdl⟩:=hl;unfold Builtin.SmallTypes.nextOf
 refine wpAny_bind (wpAny_callSpecial?_slot (name:=Str.ofString "__next__") hit.typeIs F.slot_tuple_iterator_next (wpAny_call_entry F.slot_tuple_iterator_next hit.typeIs F.entry_tuple_iterator_next ?_ (F.args_tuple_iterator_next_1 _)));show wpAny _ _ (field (.ref it) 0 >>= _) _ _ s;refine wpAny_bind (wpAny_field ho hd (x:=.ref l) rfl ?_);show wpAny _ _ (if (Value.ref l==Value.none)=true then _ else _) _ _ s;rw [if_neg (show ¬ ((Value.ref l==Value.none)=true) from Bool.false_ne_true)];show wpAny _ _ (field (.ref it) 1 >>= _) _ _ s;refine wpAny_bind (wpAny_field ho hd (x:=.int i 0) rfl ?_);show wpAny _ _ (seqItems? (.ref l) >>= _) _ _ s;refine wpAny_bind (wpAny_seqItems hol hdl ?_);simp only [Int.toNat_natCast,hx]
 refine wpAny_bind (wpAny_rule (wpAny_bind (wpAny_setField ho hd (by simp) ?_)));show wpAny _ _ (newExc (.type "StopIteration") [] >>= _) _ _ _;refine wpAny_bind ?_;simp only [newExc,newTuple];refine wpAny_bind (wpAny_newObj_type ?_ (by size_fits));refine wpAny_bind (m:=firstArgMember _ _) (wpAny_of_eq (a:=Value.none) (by first | rfl | (simp only [firstArgMember];rfl)) ?_);refine wpAny_newObj_type ?_ (by size_fits);simp only [raiseNew];refine wpAny_bind (wpAny_handled ?_);first | rw [show A.in1.handled=none from hh] | rw [hh]
 refine wpAny_bind (wpAny_pure (wpAny_throw (hE _ _ (((Heap.SameBut.update ..).extBut.push _).push _) ⟨_,Heap.get?_push_size _ rfl,rfl⟩)))
theorem bZ (hh:A.handled=none) (it l:Addr) (hne:l≠it) (items:Array Value):Draws prog w A it [it,l] items.size (fun i v=>items[i]?=some v) (fun i h=>h.IsTupleIter it l i/\h.IsTuple l items) where
 live:=fun _ _ st=>let ⟨o,ho,_⟩:=st.1;⟨o,ho⟩
 frame:=fun _ _ _ st hk=>⟨let ⟨o,ho,r⟩:=st.1;⟨o,hk it (by simp) o ho,r⟩,let ⟨o,ho,r⟩:=st.2;⟨o,hk l (by simp) o ho,r⟩⟩
 item:=fun i s Q E hi st hQ=>Vf st.1 st.2 (x:=items[i]) (by simp [hi]) fun h' hit' hs'=>hQ _ h' s.toks (by simp [hi]) ⟨hit',st.2.extBut hs'.extBut hne⟩ hs'
 done:=fun s Q E st hE=>Vg hh st.1 st.2 (by simp) hE
end
theorem k_ne {X:Cx}{pins:List (Addr×Obj)}{σ:L2.St}{H:Hp}{s:Shared}{a b:Addr}{o:Obj}(I:Inv X pins σ H s) (e:X.K.lookup a=some o) (f:Ko X pins H b):a≠b:=fun z=>by
 have hb:=I.ok.mod.kin a o e;rcases f.2.2.2.1 with q|q
 ·exact I.ok.noex a o hb (z ▸ q)
 ·have h1:a < X.base.objs.size:=Heap.lt_size hb;have h2:=I.ok.bsz;have h3:X.s₀.heap.objs.size<=a:=z ▸ q;exact absurd (Nat.lt_of_lt_of_le h1 h2) (Nat.not_lt.mpr h3)
theorem wN {H:Hp}{a b:Addr}{u:HO}(h:Rd H a u) (f:H b=none):a≠b:=fun z=>by
 rcases h with h | ⟨o,h⟩ <;> (rw [z,f] at h;cases h)
structure SeqK where
 sq:PySem.W.Frag->Hp->Addr->List V->Prop
 isIt:Heap->Addr->Addr->Nat->Prop
 isSeq:Heap->Addr->Array Value->Prop
 cls:String
 get:∀ {X:Cx} {pins:List (Addr×Obj)} {σ:L2.St} {H:Hp} {s:Shared} {a:Addr} {xs:List V},Inv X pins σ H s->sq X.K H a xs->∃ its:List Value,Vals xs its/\isSeq s.heap a its.toArray/\xs.length<=sizeLine
 inj:∀ {X:Cx} {pins:List (Addr×Obj)} {σ:L2.St} {H:Hp} {s:Shared} {a:Addr} {xs ys:List V},Inv X pins σ H s->sq X.K H a xs->sq X.K H a ys->xs=ys
 itO:∀ {h:Heap} {it l:Addr} {i:Nat},isIt h it l i->∃ o,h.get? it=some o/\o.cls=.type cls/\∃ vs,o.data=.fields vs
 itK:∀ {h h':Heap} {it l:Addr} {i:Nat},isIt h it l i->(∀ o,h.get? it=some o->h'.get? it=some o)->isIt h' it l i
 seqO:∀ {h:Heap} {l:Addr} {items:Array Value},isSeq h l items->∃ o,h.get? l=some o/\∃ n,o.data=.seq items n
 Xf:∀ {h h':Heap} {l:Addr} {items:Array Value},isSeq h l items->(∀ o,h.get? l=some o->h'.get? l=some o)->isSeq h' l items
 draws:∀ {prog:Program} {w:World} {A:Around},A.handled=none->∀ (it l:Addr),l≠it->∀ (items:Array Value),Draws prog w A it [it,l] items.size (fun i v=>items[i]?=some v) (fun i h=>isIt h it l i/\isSeq h l items)
 iter:∀ {prog:Program} {w:World} {A:Around} {E:Value->Shared->Prop} {s:Shared} {l:Addr} {items:Array Value} {Q:Value->Shared->Prop},isSeq s.heap l items ->
  Q (.ref s.heap.objs.size) { s with heap:=s.heap.push { cls:=.type cls,data:=.fields #[.ref l,.int 0 0] } }->wpAny (model prog w) A (pyIter (.ref l)) Q E s
 stop:∀ {prog:Program} {w:World} {A:Around} {E:Value->Shared->Prop} {s:Shared} {it l:Addr} {i:Nat} {items:Array Value} {Q:Value->Shared->Prop},A.handled=none->isIt s.heap it l i->isSeq s.heap l items->items[i]?=none ->
  (∀ h' e,Heap.ExtBut it s.heap h'->(∃ o,h'.get? e=some o/\o.cls=.type "StopIteration")->E (.ref e) { s with heap:=h' })->wpAny (model prog w) A (Builtin.SmallTypes.nextOf (.ref it)) Q E s
 next:∀ {prog:Program} {w:World} {A:Around} {E:Value->Shared->Prop} {s:Shared} {it l:Addr} {i:Nat} {items:Array Value} {x:Value} {Q:Value->Shared->Prop},isIt s.heap it l i->isSeq s.heap l items->items[i]?=some x ->
  (∀ h',isIt h' it l (i+1)->Heap.SameBut it s.heap h'->Q x { s with heap:=h' })->wpAny (model prog w) A (Builtin.SmallTypes.nextOf (.ref it)) Q E s
 ne:∀ {X:Cx} {pins:List (Addr×Obj)} {σ:L2.St} {H:Hp} {s:Shared} {a b:Addr} {xs:List V},Inv X pins σ H s->sq X.K H a xs->Ko X pins H b->a≠b
 new:∀ (h:Heap) (l:Addr),isIt (h.push { cls:=.type cls,data:=.fields #[.ref l,.int 0 0] }) h.objs.size l 0
noncomputable def tY:SeqK where
 sq:=SqL
 isIt:=fun h it l i=>h.IsListIter it l i
 isSeq:=fun h l its=>h.IsList l its
 cls := "list_iterator"
 get:=fun I h=>let ⟨its,r,p,z⟩:=I.list h;⟨its,r,p.isList,z⟩
 inj:=fun I h h'=>I.list_inj h h'
 itO:=fun ⟨o,e,c,d⟩=>⟨o,e,c,_,d⟩
 itK:=fun st k=>st.at k
 seqO:=fun ⟨o,e,_,n,d⟩=>⟨o,e,n,d⟩
 Xf:=fun ⟨o,e,r⟩ k=>⟨o,k o e,r⟩
 draws:=fun hh it l hne items=>Draws.list hh it l hne items
 iter:=fun hs q=>wpAny_pyIter_list hs q
 stop:=fun hh a b c d=>wpAny_nextOf_list_end hh a b c d
 next:=fun a b c d=>wpAny_nextOf_list_item a b c d
 ne:=fun I h f=>by
  rcases h with h|⟨o,its,n,hk,_⟩
  ·exact wN h f.1
  ·exact k_ne I hk f
 new:=fun h l=>⟨_,Heap.get?_push_size _ rfl,rfl,rfl⟩
noncomputable def Aex:SeqK where
 sq:=SqT
 isIt:=fun h it l i=>h.IsTupleIter it l i
 isSeq:=fun h l its=>h.IsTuple l its
 cls := "tuple_iterator"
 get:=fun I h=>let ⟨its,r,p,z⟩:=I.tuple h;⟨its,r,p,z⟩
 inj:=fun I h h'=>I.tuple_inj h h'
 itO:=fun ⟨o,e,c,d⟩=>⟨o,e,c,_,d⟩
 itK:=fun ⟨o,e,r⟩ k=>⟨o,k o e,r⟩
 seqO:=fun ⟨o,e,_,n,d⟩=>⟨o,e,n,d⟩
 Xf:=fun ⟨o,e,r⟩ k=>⟨o,k o e,r⟩
 draws:=fun hh it l hne items=>bZ hh it l hne items
 iter:=fun hs q=>wpAny_pyIter_tuple hs q
 stop:=fun hh a b c d=>Vg hh a b c d
 next:=fun a b c d=>Vf a b c d
 ne:=fun I h f=>by
  rcases h with h|⟨o,its,n,hk,_⟩
  ·exact wN h f.1
  ·exact k_ne I hk f
 new:=fun h l=>⟨_,Heap.get?_push_size _ rfl,rfl,rfl⟩
noncomputable def Ite (k:SeqK) (K:PySem.W.Frag) (a:Addr):It :=
 ⟨fun i H=>∃ xs x,k.sq K H a xs/\xs[i]?=some x,fun i H y H'=>∃ T x,H T=none/\y=.ref T/\(∀ xs,k.sq K H a xs->xs[i]?=some x)/\H'=upd H T (.tup [.int i,x]),fun i H=>∃ xs,k.sq K H a xs/\xs.length<=i⟩
theorem Aas {k:SeqK}{h:Heap}{it l:Addr}{i:Nat}{items:Array Value}(a:k.isIt h it l i) (b:k.isSeq h l items):l≠it:=fun z=>by
 obtain ⟨o,e,c,vs,d⟩:=k.itO a;obtain ⟨o',e',n,d'⟩:=k.seqO b;rw [z,e] at e';cases e';rw [d] at d';cases d'
theorem cA {P:Program}{w:World}{K:PySem.W.Frag}(k:SeqK) {elts:List Expr}{kk:Nat}{tp:Pos}(a e it:Addr) (hne:e≠it):Turn P w K (.Tuple elts kk tp) (Ite k K a) [e,it] e (fun i h=>(∃ old,IsEnum h e it i old)/\k.isIt h it a i) where
 mem:=by simp
 obj:=fun i h st b hb=>by
  have hb:b=e\/b=it:=by simpa using hb
  rcases hb with rfl|rfl
  ·obtain ⟨old,q⟩:=st.1
   exact ⟨_,q,fun v z=>by
    have z':Data.fields _=Data.cell v:=z
    cases z'⟩
  ·obtain ⟨o,q,c,vs,d⟩:=k.itO st.2;exact ⟨o,q,fun v z=>by rw [d] at z;cases z⟩
 keep:=fun i h h' st kp=>⟨let ⟨old,q⟩:=st.1;⟨old,kp e (by simp) _ q⟩,k.itK st.2 fun o q=>kp it (by simp) o q⟩
 item:=by
  intro X hP hw hK hc i pins s σ H E I hf st hg;subst hP hw hK;obtain ⟨xs,x,hq,hx⟩:=hg;obtain ⟨its,rv,p,hz⟩:=k.get I hq;obtain ⟨u,hu,ru⟩:=rv.get hx;obtain ⟨⟨old,he⟩,hit⟩:=st;have hae:a≠e:=fun z=>by
   obtain ⟨o',e',n,d'⟩:=k.seqO p;rw [z,he] at e';cases e';cases d'
  have hai:=Aas hit p;have D:=k.draws (prog:=X.prog) (w:=X.w) (A:=X.A.in1) (I.ok.hd hc) it a hai its.toArray;have hi:i < its.toArray.size:=by rw [List.size_toArray];exact (List.getElem?_eq_some_iff.mp hu).1
  refine wpAny_pyNext_enum_itemD D he ⟨hit,p⟩ hi hne (by simp [hne,hae.symm]) fun y h1 tk hy ho st1 hT _ hk=>?_
  have ey:y=u:=by
   have hy':its[i]?=some y:=by simpa using hy
   rw [hu] at hy';cases hy';rfl
  subst ey;refine ⟨_,rfl,wpAny_letOwnedTupleGo_enum ho fun h2 he2 hs2=>?_⟩;have elt:e < s.heap.objs.size:=Heap.lt_size he;have ilt:it < s.heap.objs.size:=by
   obtain ⟨o,q,_⟩:=k.itO hit;exact Heap.lt_size q
  have hT2:Ni h2 s.heap.objs.size #[.int i tk,y]:=⟨_,hs2.extBut _ _ (Nat.ne_of_gt elt) hT,rfl,rfl,_,rfl⟩;have nb:∀ b,b ∉ [e,it]->b≠e/\b≠it:=fun b hb=>by simpa using hb
  have I2:Inv X pins σ (upd H s.heap.objs.size (.tup [.int i,x])) { s with heap:=h2,toks:=tk+1 }:=Qs (fp:=[e,it]) I (fun b o hb q=>hs2.extBut b o (nb b hb).1 (hk b o (nb b hb).1 (nb b hb).2 q)) hf (Nat.le_refl _) ⟨by simp [sizeLine_eq],[.int i tk,y],.cons ⟨tk,rfl⟩ (.cons ru .nil),hT2⟩;refine ⟨.ref s.heap.objs.size,_,I2,rfl,⟨s.heap.objs.size,x,I.hok.fresh (Nat.le_refl _),rfl,fun ys hy=>by rw [k.inj I hy hq];exact hx,rfl⟩,⟨⟨_,by simpa using he2⟩,k.itK st1.1 fun o q=>hs2.extBut _ _ hne.symm q⟩,fun b hb=>?_⟩;rw [Af ?_]
  ·exact (hf b hb).1
  ·intro z;have hb:b=e\/b=it:=by simpa using hb
   rcases hb with q|q
   ·rw [q] at z;exact absurd z (Nat.ne_of_lt elt)
   ·rw [q] at z;exact absurd z (Nat.ne_of_lt ilt)
 done:=by
  intro X hP hw hK hc i pins s σ H E I hf st hg;subst hP hw hK;obtain ⟨xs,hq,hx⟩:=hg;obtain ⟨its,rv,p,hz⟩:=k.get I hq;obtain ⟨⟨old,he⟩,hit⟩:=st;have hl:=rv.length
  have hT:s.TypeIs (.ref e) "enumerate":=⟨_,he,rfl⟩
  unfold pyNext
  refine wpAny_bind (wpAny_attempt (wpAny_callSpecial?_slot (name:=Str.ofString "__next__") hT F.slot_enumerate_next (wpAny_call_entry F.slot_enumerate_next hT F.entry_enumerate_next ?_ (F.args_enumerate_next_1 _))));show wpAny _ _ (field (.ref e) 2 >>= _) _ _ _;refine wpAny_bind (wpAny_field he rfl (x:=.ref it) rfl ?_);refine wpAny_bind (k.stop (A:=X.A.in1) (I.ok.hd hc) hit p (by simp;omega) fun h' x he' hx'=>?_);obtain ⟨o,ho,hcl⟩:=hx'
  refine wpAny_bind (wpAny_isInstance (T := "StopIteration") (b:=true) ⟨o,ho,hcl⟩ isSubtype_stop (wpAny_pure ⟨rfl,?_⟩));exact bY (t':=s.toks) (fp:=[e,it]) I (fun b o hb q=>he' b o (fun z=>hb (by simp [z])) q) hf
 self:=fun _ i s Q E st h=>by
  obtain ⟨⟨old,he⟩,_⟩:=st;exact wpAny_pyIter_enum he h
set_option maxHeartbeats 8000000 in
theorem Vh (l:Addr) (items:Array Value) (n:Nat) (dct:Option Addr) (sl:Array (Option Value)) :
    Meets (Builtin.«enumerate.__new__» ⟨[.type "enumerate",.ref l],[]⟩) (fun _ R s=>s.heap.get? l=some { cls:=.type "tuple",dict:=dct,data:=.seq items n,slots:=sl } /\
      R (.ok (.ret (.ref (s.heap.push { cls:=.type "tuple_iterator",data:=.fields #[.ref l,.int 0 0] }).objs.size)))
        { s with heap:=(s.heap.push { cls:=.type "tuple_iterator",data:=.fields #[.ref l,.int 0 0] }).push { cls:=.type "enumerate",data:=.fields #[.none,.bool false,.ref s.heap.objs.size,rawInt 0,.none,.none] } }) :=
  .of_wp fun prog w A R s h=>by
    obtain ⟨hp,g,d,tk,os⟩:=s;obtain ⟨hl,h⟩:=h;have hsub:=sub_enumerate;have hL:Heap.IsTuple (Shared.heap ⟨hp,g,d,tk,os⟩) l items:=⟨_,hl,rfl,n,rfl⟩;wp_walk using AutoSeq1.wpAny_loadPart' hl
    refine wpAny_stack_any fun st=>wpAny_pure ?_;split
    · rename_i c _ _ _ _ _
      cases (c==Value.type "enumerate") <;> (wp_walk using AutoSeq1.wpAny_loadPart' hl,wpAny_pyIter_tuple hL;exact ⟨_,rfl,h⟩)
    · (wp_walk using AutoSeq1.wpAny_loadPart' hl,wpAny_pyIter_tuple hL;exact ⟨_,rfl,h⟩)
section
variable {prog:Program}{w:World}{A:Around}{E:Value->Shared->Prop}{s:Shared}
theorem cB {l:Addr}{items:Array Value}{Q:Value->Shared->Prop}(hL:s.heap.IsTuple l items)
  (h:∀ h',IsEnum h' (s.heap.objs.size+1) s.heap.objs.size 0 .none->h'.IsTupleIter s.heap.objs.size l 0->h'.objs.size=s.heap.objs.size+2->(∀ b o,s.heap.get? b=some o->h'.get? b=some o)->Q (.ref (s.heap.objs.size+1)) { s with heap:=h' }) :
  wpAny (model prog w) A (call (.type "enumerate") [.ref l]) Q E s:=by
 obtain ⟨⟨c,dct,dt,sl⟩,hl,hc,n,hd⟩:=hL
 replace hc:c=.type "tuple":=hc
 replace hd:dt=.seq items n:=hd
 subst hc hd;refine callType_new F.called_enumerate (by decide) (F.typeCall_enumerate_1 _) (F.newCall_enumerate_1 _) (fun obj=>F.args_object_init_2 obj _) F.entry_enumerate_new (Vh l items n dct sl) ⟨hl,?_⟩
 have hz:(s.heap.push { cls:=.type "tuple_iterator",data:=.fields #[.ref l,.int 0 0] }).objs.size=s.heap.objs.size+1:=Heap.size_push ..;show _/\_;rw [hz]
 have he:IsEnum ((s.heap.push { cls:=.type "tuple_iterator",data:=.fields #[.ref l,.int 0 0] }).push { cls:=.type "enumerate",data:=.fields #[.none,.bool false,.ref s.heap.objs.size,rawInt 0,.none,.none] }) (s.heap.objs.size+1) s.heap.objs.size 0 .none:=by
  have:=Heap.get?_push_size (s.heap.push { cls:=.type "tuple_iterator",data:=.fields #[.ref l,.int 0 0] }) (o:={ cls:=.type "enumerate",data:=.fields #[.none,.bool false,.ref s.heap.objs.size,rawInt 0,.none,.none] }) rfl;rw [hz] at this;exact this
 refine ⟨⟨_,he,rfl⟩,h _ he ⟨_,Heap.get?_push_of_some _ (Heap.get?_push_size _ rfl),rfl,rfl⟩ (by rw [Heap.size_push,hz]) fun b o x=>Heap.get?_push_of_some _ (Heap.get?_push_of_some _ x)⟩
end
structure SR (k:SeqK) (K:PySem.W.Frag) (H0:Hp) (ρ0:List Addr) (src:Src) (a:Addr):Prop where
 rd:∀ H ρ mh,Ev K H0 ρ0 H ρ->RS K H ρ mh->src.ok mh=true->∃ xs,k.sq K H a xs/\RDs K H ρ (src.items mh) xs
 ok:∀ (mh:MH) (i:Nat) (d:D),(src.items mh)[i]?=some d->src.ok mh=true
theorem SR.tup {K:PySem.W.Frag}{H0:Hp}{ρ0:List Addr}{ds:List D}{a:Addr}{xs:List V}(s:SqT K H0 a xs) (r:RDs K H0 ρ0 ds xs):SR Aex K H0 ρ0 (.seq ds) a :=
 ⟨fun H ρ mh e rs _=>⟨xs,e.tup _ _ s,r.mono e⟩,fun _ _ _ _=>rfl⟩
theorem SR.rol {K:PySem.W.Frag}{H0:Hp}{ρ0:List Addr}{ds:List D}{a:Addr}{xs:List V}(s:H9 K H0 a xs) (r:RDs K H0 ρ0 ds xs):SR tY K H0 ρ0 (.seq ds) a :=
 ⟨fun H ρ mh e rs _=>⟨xs,(e.perm _ _ s).sq,r.mono e⟩,fun _ _ _ _=>rfl⟩
theorem SR.lst {K:PySem.W.Frag}{H0:Hp}{ρ0:List Addr}{n:Nat}{a:Addr}(h:ρ0[n]?=some a):SR tY K H0 ρ0 (.lref n) a:=by
 refine ⟨fun H ρ mh e rs ok=>?_,fun mh i d q=>?_⟩
 ·have ok:(match mh[n]? with | some (.lst _)=>true | _=>false)=true:=ok;obtain ⟨o,eo⟩:∃ o,mh[n]?=some (.lst o):=by
   split at ok
   ·exact ⟨_,‹_›⟩
   ·cases ok
  obtain ⟨a',ha,ro⟩:=rs.at eo;rw [e.at h] at ha;cases ha;obtain ⟨xs,sq,r⟩:=ro.read;refine ⟨xs,sq,?_⟩;show RDs K H ρ (match mh[n]? with | some (.lst o)=>o | _=>[]) xs;rw [eo];exact r
 ·have q:(match mh[n]? with | some (.lst o)=>o | _=>[])[i]?=some d:=q;show (match mh[n]? with | some (.lst _)=>true | _=>false)=true;split at q
  ·rfl
  ·simp at q
theorem Lp:∀ (l:List D) (j i:Nat),(Ib j l)[i]?=(l[i]?).map fun d=>D.tup [.int ((j+i:Nat):Int),d]
 | [],_,_=>by simp [Ib]
 | d::r,j,0=>by simp [Ib]
 | d::r,j,i+1=>by
  show (Ib (j+1) r)[i]?=_;rw [Lp r (j+1) i,List.getElem?_cons_succ];have e:j+1+i=j+(i+1):=by omega
  rw [e]
theorem Ri:∀ (l:List D) (j:Nat),(Ib j l).length=l.length
 | [],_=>rfl
 | _::r,j=>by show (Ib (j+1) r).length+1=r.length+1;rw [Ri r]
theorem JR.enum {k:SeqK}{K:PySem.W.Frag}{H0:Hp}{ρ0:List Addr}{src:Src}{a:Addr}(S:SR k K H0 ρ0 src a):JR K H0 ρ0 (.enum src) (Ite k K a) where
 go:=fun H ρ mh i d e rs q=>by
  have q:(Ib 0 (src.items mh))[i]?=some d:=q;rw [Lp] at q;cases e1:(src.items mh)[i]? with
  | none=>rw [e1] at q;cases q
  | some d' =>
   rw [e1] at q;cases q;obtain ⟨xs,sq,r⟩:=S.rd H ρ mh e rs (S.ok mh i d' e1);obtain ⟨v,ev,rv⟩:=r.get e1;refine ⟨⟨xs,v,sq,ev⟩,?_⟩;rintro x H' ⟨T,x',hT,h1,h2,h3⟩;subst h1;subst h3;have:=h2 xs sq;rw [ev] at this;cases this;refine ⟨Ev.new hT,rs.new hT,.tup (.inl (.inl Bb)) (.cons ?_ (.cons (rv.mono (Ev.new hT)) .nil))⟩;rw [Nat.zero_add];exact .int _
 stop:=fun H ρ mh i e rs q=>by
  have q:(src.ok mh&&decide ((Ib 0 (src.items mh)).length<=i))=true:=q;rw [Bool.and_eq_true,Ri] at q;obtain ⟨xs,sq,r⟩:=S.rd H ρ mh e rs q.1;exact ⟨xs,sq,by rw [← r.length];exact of_decide_eq_true q.2⟩
noncomputable def Kw (ma:DM D):DM Src:=ma.bnd fun x=>fun _ mh=>match srcOf x mh with | some s=>some (.enum s,mh) | none=>none
section
variable {X:Cx}
theorem cC:bootBuiltins "enumerate"=some (.type "enumerate"):=by decide +kernel
theorem Oz (k:SeqK) {pins:List (Addr×Obj)}{σ:L2.St}{H:Hp}{s:Shared}{R:It->Hp->Prop}{E:Value->Shared->Prop}{elts:List Expr}{kk:Nat}{tp:Pos}{a:Addr}{xs:List V}(I:Inv X pins σ H s) (hq:k.sq X.K H a xs) (hR:R (Ite k X.K a) H)
  (hnew:∀ {items:Array Value} {Q:Value->Shared->Prop},k.isSeq s.heap a items->(∀ h',IsEnum h' (s.heap.objs.size+1) s.heap.objs.size 0 .none->k.isIt h' s.heap.objs.size a 0->h'.objs.size=s.heap.objs.size+2->(∀ b o,s.heap.get? b=some o->h'.get? b=some o)->Q (.ref (s.heap.objs.size+1)) { s with heap:=h' }) ->
   wpAny (model X.prog X.w) X.A (call (.type "enumerate") [.ref a]) Q E s) :
  wpAny (model X.prog X.w) X.A (call (.type "enumerate") [.ref a]) (fun v s1=>wpAny (model X.prog X.w) X.A (pyIter v) (PIE X pins σ (.Tuple elts kk tp) R) E s1) E s:=by
 obtain ⟨its,rv,p,hz⟩:=k.get I hq;refine hnew p fun h' he hit hsz hk=>wpAny_pyIter_enum he ?_
 have I1:Inv X pins σ H { s with heap:=h' }:=I.kept (t':=s.toks) hk;refine ⟨s.heap.objs.size+1,[s.heap.objs.size+1,s.heap.objs.size],_,Ite k X.K a,H,rfl,I1,cA k a _ _ (Nat.succ_ne_self _),⟨⟨_,he⟩,hit⟩,fun b hb=>?_,hR⟩;have hb:b=s.heap.objs.size+1\/b=s.heap.objs.size:=by simpa using hb
 rcases hb with rfl|rfl
 ·exact I.fpOk (Nat.le_succ _) (I.hok.fresh (Nat.le_succ _))
 ·exact I.fpOk (Nat.le_refl _) (I.hok.fresh (Nat.le_refl _))
theorem tZ {a:Expr}{ma:DM D}{elts:List Expr}{kk:Nat}{tp p pos:Pos}(hc:X.calm=true) (hg:Gl X "enumerate") (hm:X.mg "enumerate"=none) (ha:DE X a ma) (hs:starEach [a] X.env=(false,eval a X.env)::starEach [] X.env) :
  DI X (.Tuple elts kk tp) (.Call (.Name "enumerate" p) [a] [] pos) (Kw ma):=fun loc mh=>by
 cases ea:ma loc mh with
 | none =>
  have:Kw ma loc mh=none:=by unfold Kw DM.bnd;rw [ea]
  rw [this];exact Ds
 | some pr =>
  obtain ⟨x,m1⟩:=pr;have eq:Kw ma loc mh=(match srcOf x m1 with | some s=>some (.enum s,m1) | none=>none):=by unfold Kw DM.bnd;rw [ea]
  rw [eq];rintro pins s σ H R I ⟨ρ,src,mh',q,rl,rs,co⟩;refine Call_ (Oi I hg hm cC (PyProof.Rows.callWith_type1 (thn (Dq (ha loc mh) Hh hs pos pins s σ H (fun vs H1=>∃ v ρ1,vs=[v]/\Ev X.K H ρ H1 ρ1/\RS X.K H1 ρ1 m1/\RD X.K H1 ρ1 x v) I ⟨ρ,x,m1,ea,rl,rs,fun H1 ρ1 v e1 rs1 r1=>⟨v,ρ1,rfl,e1,rs1,r1⟩⟩) ?_) hs rfl));rintro us s1 ⟨vs,H1,I1,r1,q1⟩;obtain ⟨v,ρ1,rfl,e1,rs1,rx⟩:=q1;obtain ⟨u,rfl,ru⟩:=vals1 r1;cases x with
  | tup ds =>
   cases q;cases rx with
   | tup sq r =>
    cases ru;exact Oz Aex I1 sq (co H1 ρ1 _ e1 rs1 (JR.enum (SR.tup sq r))) fun hL h=>cB hL h
  | ref n =>
   cases eo:m1[n]? with
   | none=>simp only [srcOf,eo] at q;cases q
   | some ob =>
    cases ob with
    | dct kvs=>simp only [srcOf,eo] at q;cases q
    | plc=>simp only [srcOf,eo] at q;cases q
    | plq=>simp only [srcOf,eo] at q;cases q
    | lst o =>
    simp only [srcOf,eo] at q;cases q;cases rx with
    | @ref _ a' h =>
     cases ru;obtain ⟨a2,ha2,ro⟩:=rs1.at eo;rw [h] at ha2;cases ha2;obtain ⟨xs,sq,r⟩:=ro.read;exact Oz tY I1 sq (co H1 ρ1 _ e1 rs1 (JR.enum (SR.lst h))) fun hL h=>call_enumerate_list hL h
  | rol ds =>
   cases q;cases rx with
   | rol sq r =>
    cases ru;exact Oz tY I1 sq.sq (co H1 ρ1 _ e1 rs1 (JR.enum (SR.rol sq r))) fun hL h=>call_enumerate_list hL h
  | non=>cases q
  | bl b=>cases q
  | int i=>cases q
  | str z=>cases q
  | obj c ks ds=>cases q
  | fn x=>cases q
  | lam=>cases q
  | clo=>cases q
end
section
variable {X:Cx}
theorem Qt {prog:Program}{w:World}{A:Around}{E:Value->Shared->Prop}{s:Shared}{r:Addr}{a b c:Int}{t u v:Tok}{n:Nat}{Q:List Value->Shared->Prop}(hh:A.handled=none) (hr:IsRange s.heap r a b c t u v) (hsmall:Builtin.Range.small a b c=true)
  (hn:Builtin.Range.rangeSize a b c=n) (hlen:n<=2 ^ 24)
  (hQ:∀ h' tk acc,(∀ b o,s.heap.get? b=some o->h'.get? b=some o)->ItemsOf (fun i v=>∃ t,v=.int (a+i * c) t) acc n->Q acc.toList { s with heap:=h',toks:=tk }):wpAny (model prog w) A (collect (.ref r)) Q E s:=by
 have key:∀ R:Result->Shared->Prop,(∀ h' tk acc' c',(∀ b o,b≠s.heap.objs.size->(s.heap.push { cls:=.type "list",data:=.seq ([]:List Value).toArray }).get? b=some o->h'.get? b=some o)->h'.get? s.heap.objs.size=some { cls:=.type "list",dict:=none,data:=.seq acc' c',slots:=#[] } ->
   ItemsOf (fun i v=>∃ t,v=.int (a+i * c) t) acc' n->R (.ok (.ret (.ref s.heap.objs.size))) { s with heap:=h',toks:=tk })->codeAny (model prog w) A (.builtin "proto.collect" ⟨[.ref r],[]⟩) R s:=fun R hR=>by
  refine codeAny_builtin F.entry_proto_collect ?_;rw [Around.under_plainId F.plain_proto_collect _]
  show wpAny _ A.in1 (newList [] >>= fun l=>again (.builtin "list.__iadd__" ⟨[l,.ref r],[]⟩)) _ _ s;refine wpAny_bind (wpAny_newObj_type ?_);refine wpAny_pure ⟨plainId_quiet F.plain_list_iadd _,codeAny_builtin F.entry_list_iadd ?_⟩;rw [Around.under_plainId F.plain_list_iadd _]
  have hS:(s.heap.push { cls:=.type "list",data:=.seq ([]:List Value).toArray }).get? s.heap.objs.size=some { cls:=.type "list",data:=.seq #[] 0 }:=Heap.get?_push_size _ rfl;show wpAny _ A.in1 (Builtin.List.listExtendWith (.ref s.heap.objs.size) (.ref r) (.ref s.heap.objs.size)) _ _ _
  exact wpAny_extend_range (A:=A) (R:=R) (s:={ s with heap:=s.heap.push { cls:=.type "list",data:=.seq ([]:List Value).toArray } }) hh (Heap.get?_push_of_some _ hr) hsmall hn hlen s.heap.objs.size _ 0 hS hR
 unfold collect;refine wpAny_bind (wpAny_runValue (key _ fun h' tk acc' c' hk hS' hacc=>?_));show wpAny _ A (load s.heap.objs.size >>= _) _ _ _;refine wpAny_bind (wpAny_load hS' ?_);exact wpAny_pure (hQ h' tk acc' (fun b o e=>hk b o (Nat.ne_of_lt (Heap.lt_size e)) (Heap.get?_push_of_some _ e)) hacc)
theorem O1 (r:Addr) (a b c:Int) (t u v:Tok) (n:Nat) (hsmall:Builtin.Range.small a b c=true) (hn:Builtin.Range.rangeSize a b c=n) (hlen:n<=2 ^ 24) :
  Meets (Builtin.«tuple.__new__» ⟨[.type "tuple",.ref r],[]⟩) (fun A R s=>A.handled=none/\IsRange s.heap r a b c t u v/\∀ (h':Heap) (tk:Nat) (acc:Array Value),(∀ b o,s.heap.get? b=some o->h'.get? b=some o)->ItemsOf (fun i v=>∃ t,v=.int (a+i * c) t) acc n ->
    R (.ok (.ret (.ref h'.objs.size))) { s with heap:=h'.push { cls:=.type "tuple",data:=.seq acc },toks:=tk }) :=
 .of_wp fun prog w A R s h=>by
  obtain ⟨hh,hr,h⟩:=h;have hsub:=sub_tuple_self;have hinit:=init_tuple_lookup;have hmh:=madeHere_tuple
  have hT:s.TypeIs (.ref r) "range":=⟨_,hr,rfl⟩
  have hh1:A.in1.handled=none:=hh;wp_walk using wpAny_typeOf hT,Qt hh1 hr hsmall hn hlen
  intro h' tk acc hk hacc;show wpAny _ _ (Builtin.Tuple.tupleExact acc.toList.toArray >>= fun v=>ret v) _ _ _;unfold Builtin.Tuple.tupleExact;refine wpAny_bind (wpAny_newObj_type (wpAny_pure ⟨_,rfl,?_⟩) (show acc.toList.toArray.size<=sizeLine by simp only [Array.toArray_toList];rw [hacc.1,sizeLine_eq];omega));have e:acc.toList.toArray=acc:=by simp
  rw [e];exact h h' tk acc hk hacc
theorem Qu {prog:Program}{w:World}{A:Around}{E:Value->Shared->Prop}{s:Shared}{r:Addr}{a b c:Int}{t u v:Tok}{n:Nat}{Q:Value->Shared->Prop}(hh:A.handled=none) (hr:IsRange s.heap r a b c t u v) (hsmall:Builtin.Range.small a b c=true)
  (hn:Builtin.Range.rangeSize a b c=n) (hlen:n<=2 ^ 24)
  (h:∀ (h':Heap) (tk:Nat) (acc:Array Value),(∀ b o,s.heap.get? b=some o->h'.get? b=some o)->ItemsOf (fun i v=>∃ t,v=.int (a+i * c) t) acc n->Q (.ref h'.objs.size) { s with heap:=h'.push { cls:=.type "tuple",data:=.seq acc },toks:=tk }) :
  wpAny (model prog w) A (call (.type "tuple") [.ref r]) Q E s:=by
 refine callType_new F.called_tuple (by decide) (F.typeCall_tuple_1 _) (F.newCall_tuple_1 _) (fun obj=>F.args_object_init_2 obj _) F.entry_tuple_new
  (O1 r a b c t u v n hsmall hn hlen) ⟨hh,hr,fun h' tk acc hk hacc=>⟨⟨_,Heap.get?_push_size _ rfl,rfl⟩,h h' tk acc hk hacc⟩⟩
theorem O3 {a:Int}{n:Nat}{acc:Array Value}(h:ItemsOf (fun i v=>∃ t,v=.int (a+i * 1) t) acc n):Vals ((List.range n).map fun (i:Nat)=>V.int (a+(i:Int))) acc.toList:=by
 have key:∀ (m:Nat) (l:List Value) (j:Nat),l.length=m->(∀ (i:Nat) (v:Value),l[i]?=some v->∃ t,v=Value.int (a+((j+i:Nat):Int)) t)->Vals ((List.range' j m).map fun (i:Nat)=>V.int (a+(i:Int))) l:=by
  intro m
  induction m with
  | zero=>intro l j hl _;rw [List.length_eq_zero_iff.mp hl];exact .nil
  | succ m ih =>
   intro l j hl hv
   match l,hl with
   | x::r,hl =>
    rw [List.range'_succ,List.map_cons];refine .cons ?_ (ih r (j+1) (by simpa using hl) fun i v e=>?_)
    ·obtain ⟨t,e⟩:=hv 0 x rfl;exact ⟨t,e⟩
    ·obtain ⟨t,q⟩:=hv (i+1) v (by simpa using e);have e2:j+(i+1)=j+1+i:=by omega
     rw [e2] at q;exact ⟨t,q⟩
 rw [List.range_eq_range'];refine key n acc.toList 0 (by rw [Array.length_toList];exact h.1) fun i v e=>?_
 obtain ⟨t,q⟩:=h.2 i v (by simpa using e);rw [Int.mul_one] at q;rw [Nat.zero_add];exact ⟨t,q⟩
theorem Rj:Cd X (.type "range") (fun xs H Q=>∃ j:Int,xs=[.int j]/\-(2 ^ 62)<=j/\j < 2 ^ 62/\∀ p,H p=none->Q (.ref p) (upd H p (.rng 0 j))):=by
 rintro pins s σ H xs us Q I r ⟨j,e,h1,h2,q⟩;subst e;obtain ⟨u,rfl,ru⟩:=vals1 r;obtain ⟨t,rfl⟩:=ru;exact call_range_1 ⟨.ref s.heap.objs.size,_,I.laid (o:=.rng 0 j) (fun b o e=>Heap.get?_push_of_some _ e) (Nat.le_refl _) ⟨_,_,_,Heap.get?_push_size _ rfl⟩,rfl,q _ (I.hok.fresh (Nat.le_refl _))⟩
theorem Rk {j:Int}(h1:-(2 ^ 62)<=j) (h2:j < 2 ^ 62):Builtin.Range.small 0 j 1=true/\Builtin.Range.rangeSize 0 j 1=(j.toNat:Int):=by
 refine ⟨small_one (by omega) (by omega) h1 h2,?_⟩;rw [rangeSize_one];split <;> omega
theorem Te (hc:X.calm=true):Cd X (.type "list") (fun xs H Q=>∃ a j,xs=[.ref a]/\H a=some (.rng 0 j)/\-(2 ^ 62)<=j/\j<=1000000/\∀ p,H p=none->Q (.ref p) (upd H p (.lst ((List.range j.toNat).map fun (i:Nat)=>V.int (0+(i:Int)))))):=by
 rintro pins s σ H xs us Q I r ⟨a,j,e,hH,h1,h2,q⟩;subst e;obtain ⟨u,rfl,ru⟩:=vals1 r;cases ru;obtain ⟨t,u,v,hr⟩:=I.hok a _ hH;obtain ⟨f1,f2⟩:=Rk h1 (show j < 2 ^ 62 by omega);refine call_list_range (I.ok.hd hc) hr f1 f2 (by omega) fun h' tk acc c hk hS hacc=>?_
 exact ⟨.ref s.heap.objs.size,_,I.laid (t':=tk) (o:=.lst ((List.range j.toNat).map fun (i:Nat)=>V.int (0+(i:Int)))) hk (Nat.le_refl _) ⟨by simp [sizeLine_eq];omega,acc.toList,c,O3 hacc,by simpa using hS⟩,rfl,q _ (I.hok.fresh (Nat.le_refl _))⟩
theorem Qv (hc:X.calm=true):Cd X (.type "tuple") (fun xs H Q=>∃ a j,xs=[.ref a]/\H a=some (.rng 0 j)/\-(2 ^ 62)<=j/\j<=1000000/\∀ p,H p=none->Q (.ref p) (upd H p (.tup ((List.range j.toNat).map fun (i:Nat)=>V.int (0+(i:Int)))))):=by
 rintro pins s σ H xs us Q I r ⟨a,j,e,hH,h1,h2,q⟩;subst e;obtain ⟨u,rfl,ru⟩:=vals1 r;cases ru;obtain ⟨t,u,v,hr⟩:=I.hok a _ hH;obtain ⟨f1,f2⟩:=Rk h1 (show j < 2 ^ 62 by omega);refine Qu (I.ok.hd hc) hr f1 f2 (by omega) fun h' tk acc hk hacc=>?_
 have I1:Inv X pins σ H { s with heap:=h',toks:=tk }:=I.kept (t':=tk) hk;exact ⟨.ref h'.objs.size,_,I1.laid (t':=tk) (o:=.tup ((List.range j.toNat).map fun (i:Nat)=>V.int (0+(i:Int)))) (fun b o e=>Heap.get?_push_of_some _ e) (Nat.le_refl _) ⟨by simp [sizeLine_eq];omega,acc.toList,O3 hacc,by simpa using Ni.new h' acc⟩,rfl,q _ (I1.hok.fresh (Nat.le_refl _))⟩
noncomputable def Er (x:D) (mh:MH):Option (D×MH):=match x with
 | .int j=>if -(2 ^ 62)<=j/\j<=1000000 then some (.ref mh.length,mh++[.lst (Bt 0 j.toNat)]) else none
 | _=>none
noncomputable def Nx (x:D) (mh:MH):Option (D×MH):=match x with
 | .int j=>if -(2 ^ 62)<=j/\j<=1000000 then some (.tup (Bt 0 j.toNat),mh) else none
 | _=>none
theorem Rm {K:PySem.W.Frag}{H:Hp}{ρ:List Addr}(n:Nat):RDs K H ρ (Bt 0 n) ((List.range n).map fun (i:Nat)=>V.int (0+(i:Int))):=by
 unfold Bt;generalize List.range n=l
 induction l with
 | nil=>exact .nil
 | cons i r ih=>exact .cons (.int _) ih
variable {a:Expr}{ma:DM D}{p p2 pos pos2:Pos}
theorem Xg (hc:X.calm=true) (hg:Gl X "list") (hm:X.mg "list"=none) (hg2:Gl X "range") (hm2:X.mg "range"=none) (ha:DE X a ma) (hs:starEach [a] X.env=(false,eval a X.env)::starEach [] X.env) :
  DE X (.Call (.Name "list" p) [.Call (.Name "range" p2) [a] [] pos2] [] pos) (ma.bnd fun x=>Zl (Er x)):=fun loc mh =>
 Bk (G5 (Te hc) hg hm (by decide +kernel) (Dq (G5 Rj hg2 hm2 boot_range (Dq (ha loc mh) Hh hs) (by decide) (by decide) hs) Hh)) fun σ H Q ⟨ρ,d,mh',q,rl,rs,co⟩=>by
  obtain ⟨x,m1,ea,q⟩:=Aw q;refine ⟨ρ,x,m1,ea,rl,rs,fun H1 ρ1 v e1 rs1 r1=>?_⟩;have q:Er x m1=some (d,mh'):=q;cases r1 with
  | int j =>
   simp only [Er] at q;split at q
   ·rename_i hl;cases q;exact ⟨j,rfl,hl.1,by omega,fun b hb=>⟨b,j,rfl,Bb,hl.1,hl.2,Co.newL (rs1.new hb) (Rm _) (co.ev (e1.trans (Ev.new hb)))⟩⟩
   ·cases q
  | _=>cases q
theorem cD (hc:X.calm=true) (hg:Gl X "tuple") (hm:X.mg "tuple"=none) (hg2:Gl X "range") (hm2:X.mg "range"=none) (ha:DE X a ma) (hs:starEach [a] X.env=(false,eval a X.env)::starEach [] X.env) :
  DE X (.Call (.Name "tuple" p) [.Call (.Name "range" p2) [a] [] pos2] [] pos) (ma.bnd fun x=>Zl (Nx x)):=fun loc mh =>
 Bk (G5 (Qv hc) hg hm (by decide +kernel) (Dq (G5 Rj hg2 hm2 boot_range (Dq (ha loc mh) Hh hs) (by decide) (by decide) hs) Hh)) fun σ H Q ⟨ρ,d,mh',q,rl,rs,co⟩=>by
  obtain ⟨x,m1,ea,q⟩:=Aw q;refine ⟨ρ,x,m1,ea,rl,rs,fun H1 ρ1 v e1 rs1 r1=>?_⟩;have q:Nx x m1=some (d,mh'):=q;cases r1 with
  | int j =>
   simp only [Nx] at q;split at q
   ·rename_i hl;cases q;exact ⟨j,rfl,hl.1,by omega,fun b hb=>⟨b,j,rfl,Bb,hl.1,hl.2,Co.newT (rs1.new hb) (Rm _) (co.ev (e1.trans (Ev.new hb)))⟩⟩
   ·cases q
  | _=>cases q
end
end DL
namespace DL
open PySem PySem.Spec PyProof.Rows L2 PySem.W
noncomputable def sortI (ns:List Int):List Int:=ns.mergeSort fun a b=>decide (a<=b)
theorem sortI_perm (ns:List Int):(sortI ns).Perm ns:=List.mergeSort_perm _ _
theorem iZ (ns:List Int):(sortI ns).Pairwise (·<=·):=by
 have h:=List.pairwise_mergeSort (le:=fun a b:Int=>decide (a<=b)) (fun a b c h1 h2=>by simp at *;omega) (fun a b=>by simp;omega) ns;exact h.imp fun h=>by simpa using h
theorem Vi {ns l:List Int}(p:l.Perm ns) (h:l.Pairwise (·<=·)):l=sortI ns:=iU (p.trans (sortI_perm ns).symm) h (iZ ns)
noncomputable def Aey:List Int->List Int->Bool
 | [],[]=>false
 | [],_::_=>true
 | _::_,[]=>false
 | x::xs,y::ys=>if (x==y)=true then Aey xs ys else decide (x < y)
section
variable {prog:Program}{w:World}{A:Around}{E:Value->Shared->Prop}{κ:SortKind}{it:Array Keyed}{s:Shared}
end
theorem Lq:∀ {ns:List Int}{us:List Value},Vals (ns.map V.int) us->IntsAre us ns
 | [],_,.nil=>.nil
 | _::_,_,.cons ⟨t,e⟩ h=>by subst e;exact .cons _ _ (Lq h)
section
variable {prog:Program}{w:World}{A:Around}{E:Value->Shared->Prop}{s:Shared}
end
noncomputable def Iu:List D->MH->Option (D×MH)
 | [.ref n],mh=>match mh[n]? with
  | some (.lst ds)=>match intsOf ds with
   | some ns=>if ns.length < 64 then some (.ref mh.length,mh++[.lst ((sortI ns).map .int)]) else none
   | none=>none
  | _=>none
 | _,_=>none
theorem Tf {ds:List D}{mh mh':MH}{d:D}(q:Iu ds mh=some (d,mh')):∃ n,ds=[.ref n]:=by
 unfold Iu at q;split at q
 ·exact ⟨_,rfl⟩
 ·cases q
theorem Ky (h:Heap) (vs:List Value) (out:Array Value):∃ c,(∀ b o,h.get? b=some o->(sortedAll h vs out).get? b=some o)/\(sortedAll h vs out).get? (h.objs.size+1)=some (seqObj "list" out c):=by
 have hsz:((h.push (seqObj "list" #[] 0)).update h.objs.size (Obj.mapSeq (·++vs.toArray))).objs.size=h.objs.size+1:=by
  rw [Heap.size_update,size_push']
 have hoL:(((h.push (seqObj "list" #[] 0)).update h.objs.size (Obj.mapSeq (·++vs.toArray))).push (seqObj "list" vs.toArray 0)).get? (h.objs.size+1)=some (seqObj "list" vs.toArray 0):=by
  rw [← hsz];exact Heap.get?_push_size _ rfl
 have keep:∀ b o,h.get? b=some o->(((h.push (seqObj "list" #[] 0)).update h.objs.size (Obj.mapSeq (·++vs.toArray))).push (seqObj "list" vs.toArray 0)).get? b=some o:=fun b o q=>by
  have hlt:b < h.objs.size:=Heap.lt_size q;rw [Heap.get?_push_ne _ _ _ (by rw [hsz];exact Nat.ne_of_lt (Nat.lt_succ_of_lt hlt)),Heap.get?_update_ne _ _ _ _ (Nat.ne_of_lt hlt),Heap.get?_push_ne _ _ _ (Nat.ne_of_lt hlt)];exact q
 obtain ⟨c,at'⟩:=sortedHeap_at (a:=h.objs.size+1) (vs:=vs) (n:=0) (out:=out) hoL;refine ⟨c,fun b o q=>?_,at'⟩;unfold sortedAll;rw [sortedHeap_old (Nat.ne_of_lt (Nat.lt_succ_of_lt (Heap.lt_size q))) (Heap.lt_size (keep b o q))];exact keep b o q
theorem J6 {K:PySem.W.Frag}{H:Hp}{ρ:List Addr}:∀ (ns:List Int),RDs K H ρ (ns.map D.int) (ns.map V.int)
 | []=>.nil
 | _::r=>.cons (.int _) (J6 r)
section
variable {X:Cx}
theorem Tg:Cd X (.builtin "sorted") (rDs X.K Iu):=by
 rintro pins s σ H xs us Q I r ⟨ρ,mh,ds,d,mh',q,rs,rd,co⟩;obtain ⟨n,rfl⟩:=Tf q
 ·obtain ⟨v,rfl,rx⟩:=S9 rd;obtain ⟨u,rfl,ru⟩:=vals1 r
  have q:(match mh[n]? with
   | some (.lst ds)=>(match intsOf ds with
    | some ns=>if ns.length < 64 then some (D.ref mh.length,mh++[.lst ((sortI ns).map .int)]) else none
    | none=>none)
   | _=>none)=some (d,mh'):=q
  split at q
  ·rename_i es en;obtain ⟨p,ys,rfl,hq,ry⟩:∃ p ys,v=.ref p/\SqL X.K H p ys/\RDs X.K H ρ es ys:=by
    cases rx with
    | ref h =>
     obtain ⟨a',ha,ro⟩:=rs.at en;rw [h] at ha;cases ha;obtain ⟨xs,q,r⟩:=ro.read;exact ⟨_,xs,rfl,q,r⟩
   cases ru;obtain ⟨its,rv,pl,hz⟩:=I.list hq;split at q
   ·rename_i ns ei;split at q
    ·rename_i h64;cases q;rw [Gh ei] at ry;rw [Ox ry] at hq rv;have hlen:=rv.length;refine sorted_ints pl.isList (Lq rv) (by simp at hlen;omega) fun out ns' a1 a2 a3=>?_
     have es':ns'=sortI ns:=Vi a2 a3;subst es';obtain ⟨c,kp,at'⟩:=Ky s.heap its out;refine ⟨.ref (s.heap.objs.size+1),_,I.laid (t':=s.toks) (a:=s.heap.objs.size+1) (o:=.lst ((sortI ns).map V.int)) kp (Nat.le_succ _) ⟨?_,out.toList,c,Fe a1,?_⟩,rfl,Co.newL rs (J6 (sortI ns)) co _ (I.hok.fresh (Nat.le_succ _))⟩
     ·rw [List.length_map,(sortI_perm ns).length_eq,sizeLine_eq];omega
     ·rw [at']
    ·cases q
   ·cases q
  ·cases q
end
noncomputable abbrev TX:=Str×List Int
noncomputable def Agt (a b:TX):Bool:=if a.1=b.1 then Aey a.2 b.2 else decide (a.1.cps.toList < b.1.cps.toList)
noncomputable def wO (ks:List TX):List TX:=ks.mergeSort fun a b=>!Agt b a
section
variable {n:Nat}{lt:Nat->Nat->Bool}
end
section
variable {prog:Program}{w:World}{A:Around}{E:Value->Shared->Prop}{s:Shared}
end
noncomputable def txD (k:TX):D:=.tup (.str k.1::k.2.map D.int)
noncomputable def uD:List TX->List TX
 | []=>[]
 | x::r=>if x∈r then uD r else x::uD r
section
variable {X:Cx}
end
noncomputable def jA:List D->Option (List TX)
 | []=>some []
 | .tup (.str x::r)::t=>match intsOf r with
  | some ns=>match jA t with
   | some l=>some ((x,ns)::l)
   | none=>none
  | none=>none
 | _=>none
noncomputable def jB (ds:List D) (mh:MH):Option (D×MH):=match jA ds with
 | some ks=>if (uD ks).length<=17 then some (.ref mh.length,mh++[.lst ((wO (uD ks)).map txD)]) else none
 | none=>none
noncomputable def cF (x:D) (mh:MH):Option (D×MH):=match x with
 | .ref n=>match mh[n]? with
  | some (.lst o)=>match intsOf o with
   | some ns=>if ns.length < 4000 then (if (iR ns).length < 64 then some (.ref mh.length,mh++[.lst ((Aev ns).map D.int)]) else none) else none
   | none=>jB o mh
  | _=>none
 | _=>none
section
variable {K:PySem.W.Frag}{H:Hp}{ρ:List Addr}
end
section
variable {X:Cx}{a:Expr}{ma:DM D}{p p2 pos pos2:Pos}
end
end DL
namespace DL
open PySem PySem.Spec PyProof.Rows L2
section
variable {prog:Program}{w:World}{A:Around}{E:Value->Shared->Prop}{s:Shared}
end
section
variable {prog:Program}{w:World}{A:Around}{E:Value->Shared->Prop}{s:Shared}
end
section
variable {X:Cx}
end
section
variable {prog:Program}{w:World}{A:Around}{E:Value->Shared->Prop}{s:Shared}
end
section
variable {prog:Program}{w:World}{A:Around}{E:Value->Shared->Prop}{s:Shared}{k1 k2:SeqK}{S z TI TO i1 i2 l1 l2:Addr}{i:Nat}
end
noncomputable def Aat (a b:D):D:=.tup [a,b]
noncomputable def jC:List D->MH->Option (D×MH)
 | [x,y],mh=>match Ec x mh,Ec y mh with
  | some as,some bs=>some (.ref mh.length,mh++[.lst (List.zipWith Aat as bs)])
  | _,_=>none
 | _,_=>none
section
variable {X:Cx}
end
end DL
namespace DL
open PySem PySem.Spec PyProof.Rows L2 PySem.W
noncomputable def jD:List D->MH->Option (D×MH)
 | [x,y],mh=>match Ec x mh,Ec y mh with
  | some as,some bs=>match jA (List.zipWith Aat as bs) with
   | some ks=>if ks.Nodup/\ks.length < 64 then some (.ref (mh.length+1),mh++[.lst (List.zipWith Aat as bs)]++[.lst ((wO ks).map txD)]) else none
   | none=>none
  | _,_=>none
 | _,_=>none
section
variable {X:Cx}
end
end DL
namespace DL
open PySem PySem.Spec PyProof.Rows L2
section
variable {X:Cx}
end
noncomputable def Zq (T1:String) (f1:D->List D->MH->Option (D×MH)) (T2:String) (f2:D->List D->MH->Option (D×MH)) (mo:DM D) (mr:DM (List D)):DM D:=fun loc mh=>match mo loc mh with
 | some (x,m1)=>if bR T1 x m1 then Cu T1 f1 mo mr loc mh else Cu T2 f2 mo mr loc mh
 | none=>none
theorem Vj {X:Cx}{e:Expr}{T1 T2:String}{f1 f2:D->List D->MH->Option (D×MH)}{mo:DM D}{mr:DM (List D)}(h1:DE X e (Cu T1 f1 mo mr)) (h2:DE X e (Cu T2 f2 mo mr)):DE X e (Zq T1 f1 T2 f2 mo mr):=fun loc mh=>by
 unfold Zq;split
 ·split
  ·exact h1 loc mh
  ·exact h2 loc mh
 ·exact Bl
section
variable {prog:Program}{w:World}{A:Around}{E:Value->Shared->Prop}{s:Shared}
theorem Vk {l:Addr}{vs:List Value}{Q:List Value->Shared->Prop}(hl:s.heap.IsTuple l vs.toArray)
  (h:Q vs { s with heap:=(s.heap.push (seqObj "list" #[] 0)).update s.heap.objs.size (Obj.mapSeq (·++vs.toArray)) }) (hsz:vs.length<=sizeLine) :
  wpAny (model prog w) A (collect (.ref l)) Q E s:=by
 obtain ⟨o,ho,hc,n,hd⟩:=id hl;unfold collect;refine wpAny_bind (wpAny_runValue (codeAny_builtin entry_proto_collect' ?_))
 show wpAny _ _ (do again (.builtin "list.__iadd__" ⟨[← newList [],.ref l],[]⟩)) _ _ s;refine wpAny_bind (wpAny_newList (wpAny_pure ⟨Code.quiet_builtin _ (by decide +kernel),codeAny_builtin entry_list_iadd' ?_⟩))
 show wpAny _ _ (Builtin.List.listExtendWith (.ref s.heap.objs.size) (.ref l) (.ref s.heap.objs.size)) _ _ { s with heap:=s.heap.push (seqObj "list" #[] 0) };unfold Builtin.List.listExtendWith
 have ho':(s.heap.push (seqObj "list" #[] 0)).get? l=some o:=Heap.get?_push_of_some _ ho
 refine wpAny_bind (wpAny_typeOf (T := "tuple") ⟨o,ho',hc⟩ ?_)
 have ht:(Value.type "tuple"==Value.type "tuple")=true:=by rfl
 rw [if_pos (by rw [ht];simp)];refine wpAny_bind (listItems_at ho' hd ?_);refine wpAny_bind (listItems_at (xs:=#[]) (n:=0) (Heap.get?_push_size _ rfl) rfl ?_);rw [if_neg (by simp)];refine wpAny_bind (listUpdate_at (xs:=#[]) (n:=0) (Heap.get?_push_size _ rfl) rfl ?_ (Nat.zero_le _) (by show (#[]++vs.toArray).size<=sizeLine+1;simp only [Array.size_append,List.size_toArray,List.length_nil];omega));refine wpAny_pure ?_
 show wpAny (model prog w) A (do
   let o ← load s.heap.objs.size
   match o.data with
   | .seq xs _=>pure xs.toList
   | _=>unsupported "internal:collect") Q E { s with heap:=(s.heap.push (seqObj "list" #[] 0)).update s.heap.objs.size (Obj.mapSeq (·++vs.toArray)) }
 refine wpAny_bind (wpAny_load (get?_update_seq (Heap.get?_push_size _ rfl) _) ?_);show wpAny _ _ (pure ((#[]:Array Value)++vs.toArray).toList) Q E _;rw [show ((#[]:Array Value)++vs.toArray).toList=vs by simp];exact wpAny_pure h
theorem Ti {l:Addr}{vs:List Value}{ns:List Int}{Q:Value->Shared->Prop}(hl:s.heap.IsTuple l vs.toArray) (hI:IntsAre vs ns) (h64:vs.length < 64)
  (h:∀ (out:Array Value) (ns':List Int),IntsAre out.toList ns'->ns'.Perm ns->ns'.Pairwise (·<=·)->Q (.ref (s.heap.objs.size+1)) { s with heap:=sortedAll s.heap vs out }) :
  wpAny (model prog w) A (call (.builtin "sorted") [.ref l]) Q E s:=by
 refine Calls.call_function_entry kind_sorted plain_sorted entry_sorted (args_sorted1 _) ?_;unfold Builtin.«sorted»
 refine wpAny_bind (m:=checkCount "sorted" 1 1 _) (wpAny_pure ?_);refine wpAny_bind (Vk hl ?_ (by rw [sizeLine_eq];omega));refine wpAny_bind (wpAny_newList ?_ (by rw [sizeLine_eq];omega))
 have hsz:((s.heap.push (seqObj "list" #[] 0)).update s.heap.objs.size (Obj.mapSeq (·++vs.toArray))).objs.size=s.heap.objs.size+1:=by
  rw [Heap.size_update,size_push']
 have hoL:(((s.heap.push (seqObj "list" #[] 0)).update s.heap.objs.size (Obj.mapSeq (·++vs.toArray))).push (seqObj "list" vs.toArray 0)).get? (s.heap.objs.size+1)=some (seqObj "list" vs.toArray 0):=by
  rw [← hsz];exact Heap.get?_push_size _ rfl
 show wpAny _ _ _ _ _ { s with heap:=((s.heap.push (seqObj "list" #[] 0)).update s.heap.objs.size (Obj.mapSeq (·++vs.toArray))).push (seqObj "list" vs.toArray 0) };rw [hsz];refine wpAny_bind (wpAny_holding (wpAny_call_entry slot_list_sort ⟨_,hoL,rfl⟩ entry_list_sort (list_sort_tree hoL hI h64 fun out ns' a1 a2 a3=>⟨_,rfl,?_⟩) (args_list_sort _)));exact wpAny_pure ⟨_,rfl,h out ns' a1 a2 a3⟩
end
noncomputable def Kz:List D->MH->Option (D×MH)
 | [.tup ds],mh=>match intsOf ds with
  | some ns=>if ns.length < 64 then some (.ref mh.length,mh++[.lst ((sortI ns).map .int)]) else none
  | none=>none
 | ds,mh=>Iu ds mh
theorem Tj {X:Cx}:Cd X (.builtin "sorted") (rDs X.K Kz):=by
 rintro pins s σ H xs us Q I r ⟨ρ,mh,ds,d,mh',q,rs,rd,co⟩;unfold Kz at q;split at q
 ·rename_i es;split at q
  ·rename_i ns ei;split at q
   ·rename_i h64;cases q;obtain ⟨v,rfl,rx⟩:=S9 rd;obtain ⟨u,rfl,ru⟩:=vals1 r;cases rx with
    | tup sq ry =>
     cases ru;rw [Gh ei] at ry;rw [Ox ry] at sq;obtain ⟨its,rv,pl,hz⟩:=I.tuple sq;have hlen:=rv.length;refine Ti pl (Lq rv) (by simp at hlen;omega) fun out ns' a1 a2 a3=>?_
     have es':ns'=sortI ns:=Vi a2 a3;subst es';obtain ⟨c,kp,at'⟩:=Ky s.heap its out;refine ⟨.ref (s.heap.objs.size+1),_,I.laid (t':=s.toks) (a:=s.heap.objs.size+1) (o:=.lst ((sortI ns).map V.int)) kp (Nat.le_succ _) ⟨?_,out.toList,c,Fe a1,?_⟩,rfl,Co.newL rs (J6 (sortI ns)) co _ (I.hok.fresh (Nat.le_succ _))⟩
     ·rw [List.length_map,(sortI_perm ns).length_eq,sizeLine_eq];omega
     ·rw [at']
   ·cases q
  ·cases q
 ·exact Tg pins s σ H xs us Q I r ⟨ρ,mh,_,d,mh',q,rs,rd,co⟩
inductive DEnts (w:World) (K:PySem.W.Frag):List DictEntry->List (Str×D)->Prop
 | nil:DEnts w K [] []
 | cons {k:Str} {t:Tok} {u:Value} {v:V} {d:D} {es:List DictEntry} {kvs:List (Str×D)}:RelV v u->(∀ H ρ,RD K H ρ d v)->DEnts w K es kvs->DEnts w K ({ hash:=hashStr w k,key:=.str k t,val:=u }::es) ((k,d)::kvs)
structure DicOk (w:World) (K:PySem.W.Frag) (a:Addr) (kvs:List (Str×D)):Prop where
 ns:(a==sysModules)=false
 ob:∃ o es ep,K.lookup a=some o/\o.ExactDict/\o.data=.dict es ep/\DEnts w K es.toList kvs
section
variable {X:Cx}{a:Addr}{kvs:List (Str×D)}
variable {e:Expr}{me:DM D}{x:Str}{p pos:Pos}
end
mutual
noncomputable def rdV (K:PySem.W.Frag):Nat->Value->Option D
 | _,.none=>some .non
 | _,.bool b=>some (.bl b)
 | _,.int i _=>some (.int i)
 | _,.str x _=>some (.str x)
 | n+1,.ref a=>match K.lookup a with
  | some ⟨.type c,none,.seq its _,_⟩=>if c == "tuple"&&decide (its.size<=1000) then (match O4 K n its.toList with | some ds=>some (.tup ds) | none=>none) else none
  | _=>none
 | _,_=>none
noncomputable def O4 (K:PySem.W.Frag):Nat->List Value->Option (List D)
 | _,[]=>some []
 | 0,_::_=>none
 | n+1,u::r=>match rdV K n u with
  | some d=>(match O4 K n r with | some ds=>some (d::ds) | none=>none)
  | none=>none
end
mutual
theorem jE {K:PySem.W.Frag}:∀ (n:Nat) {u:Value}{d:D},rdV K n u=some d->∃ v,RelV v u/\∀ H ρ,RD K H ρ d v
 | n,.none,d,h=>by cases n <;> (simp only [rdV] at h;cases h;exact ⟨.non,rfl,fun _ _=>.non⟩)
 | n,.bool b,d,h=>by cases n <;> (simp only [rdV] at h;cases h;exact ⟨.bl b,rfl,fun _ _=>.bl b⟩)
 | n,.int i t,d,h=>by cases n <;> (simp only [rdV] at h;cases h;exact ⟨.int i,⟨t,rfl⟩,fun _ _=>.int i⟩)
 | n,.str x t,d,h=>by cases n <;> (simp only [rdV] at h;cases h;exact ⟨.str x,⟨t,rfl⟩,fun _ _=>.str x⟩)
 | 0,.ref a,d,h=>by simp only [rdV] at h;cases h
 | n+1,.ref a,d,h=>by
  simp only [rdV] at h;split at h
  ·rename_i c its ep sl hk;split at h
   ·rename_i hc;rw [Bool.and_eq_true,decide_eq_true_iff] at hc;split at h
    ·rename_i ds hd;cases h;obtain ⟨vs,h1,h2⟩:=Zt n hd;refine ⟨.ref a,rfl,fun H ρ=>.tup (.inr ⟨_,its,ep,hk,by rw [eq_of_beq hc.1],rfl,rfl,?_,h1⟩) (h2 H ρ)⟩;rw [sizeLine_eq];omega
    ·cases h
   ·cases h
  ·cases h
 | n,.float _ _,d,h=>by cases n <;> (simp only [rdV] at h;cases h)
 | n,.bytes _ _,d,h=>by cases n <;> (simp only [rdV] at h;cases h)
 | n,.ellipsis,d,h=>by cases n <;> (simp only [rdV] at h;cases h)
 | n,.notImplemented,d,h=>by cases n <;> (simp only [rdV] at h;cases h)
 | n,.type _,d,h=>by cases n <;> (simp only [rdV] at h;cases h)
 | n,.builtin _,d,h=>by cases n <;> (simp only [rdV] at h;cases h)
theorem Zt {K:PySem.W.Frag}:∀ (n:Nat) {us:List Value}{ds:List D},O4 K n us=some ds->∃ vs,Vals vs us/\∀ H ρ,RDs K H ρ ds vs
 | n,[],ds,h=>by cases n <;> (simp only [O4] at h;cases h;exact ⟨[],.nil,fun _ _=>.nil⟩)
 | 0,_::_,ds,h=>by simp only [O4] at h;cases h
 | n+1,u::r,ds,h=>by
  simp only [O4] at h;split at h
  ·rename_i d hd;split at h
   ·rename_i ds' hr;cases h;obtain ⟨v,a1,a2⟩:=jE n hd;obtain ⟨vs,b1,b2⟩:=Zt n hr;exact ⟨v::vs,.cons a1 b1,fun H ρ=>.cons (a2 H ρ) (b2 H ρ)⟩
   ·cases h
  ·cases h
end
theorem O5 {K:PySem.W.Frag}{H:Hp}{ρ:List Addr}{f:Str}{d:D}:∀ {ks:List Str}{ds:List D}{xs:List V},RDs K H ρ ds xs->(ks.zip ds).lookup f=some d->∃ v,(ks.zip xs).lookup f=some v/\RD K H ρ d v
 | [],_,_,_,h=>by simp at h
 | k::ks,_,_,.nil,h=>by simp at h
 | k::ks,_,_,.cons r t,h=>by
  rw [List.zip_cons_cons,List.lookup_cons] at h ⊢;cases e:f==k with
  | true=>rw [e] at h;cases h;exact ⟨_,rfl,r⟩
  | false=>rw [e] at h;exact O5 t h
theorem O6 {f:Str}:∀ {ks:List Str}{xs:List V},ks.contains f=false->(ks.zip xs).lookup f=none
 | [],_,_=>by simp
 | k::ks,[],_=>by simp
 | k::ks,x::xs,h=>by
  rw [List.contains_cons,Bool.or_eq_false_iff] at h;rw [List.zip_cons_cons,List.lookup_cons,h.1];exact O6 h.2
noncomputable def jF (c f:Str) (x:D) (mh:MH):Option (D×MH):=match x with
 | .obj c' ks ds=>if c'==c then (match (ks.zip ds).lookup f with | some d=>some (d,mh) | none=>none) else none
 | _=>none
section
variable {X:Cx}{o:Expr}{mo:DM D}{c f:Str}{C:Addr}{pos apos:Pos}
theorem Aau (hn:PySem.W.nsIn X.K mainGlobals c=some (some (.ref C))) (hc:Cls X.K C) (ha:Eg X.K C f) (ho:DE X o mo) (hb:attributeBase o f X.env (eval o X.env)=eval o X.env):DE X (.Attribute o f pos) (mo.bnd fun x=>Zl (jF c f x)):=fun loc mh =>
 Bk (zJ (ho loc mh) hb) fun σ H Q ⟨ρ,d,mh',q,rl,rs,co⟩=>by
  obtain ⟨x,m1,ea,q2⟩:=Aw q
  clear q
  refine ⟨ρ,x,m1,ea,rl,rs,fun H1 ρ1 v e1 rs1 r1=>?_⟩;change jF c f x m1=some (d,mh') at q2;cases r1 with
  | @obj c' ks ds a C' dx xs h1 h2 h3 h4 =>
   simp only [jF] at q2;split at q2
   ·rename_i hcc;have e:=eq_of_beq hcc;subst e;rw [hn] at h1;cases h1;split at q2
    ·rename_i d' hl;cases q2;obtain ⟨v',l1,l2⟩:=O5 h4 hl;exact ⟨a,C,dx,_,v',rfl,h2,hc,ha,l1,co H1 ρ1 _ e1 rs1 l2⟩
    ·cases q2
   ·cases q2
  | _=>cases q2
noncomputable def O7 (c m:Str) (f:List D->MH->Option (D×MH)) (mo:DM D) (mr:DM (List D)):DM D:=mo.bnd fun x=>match x with
 | .obj c' ks ds=>if c'==c&&!(ks.contains m) then mr.bnd fun as=>Zl (f (.obj c' ks ds::as)) else Zb
 | _=>Zb
theorem Rn {env:Env}{o:Expr}{m:Str}{args:List Expr}(hbase:attributeBase o m env (eval o env)=eval o env)
  (hfew:((backTo pos (starEach args env)).all (fun x=>!x.1)&&(backToKw pos (keywordEach [] env)).all (fun x=>x.1.isSome)&&decide (args.length+([]:List Keyword).length+(if ([]:List Keyword).isEmpty then 0 else 1) < 30))=true)
  (hline:(apos.endLine==pos.line)=true) :
  eval (.Call (.Attribute o m apos) args [] pos) env=(do
   let ov ← eval o env
   standAt apos.atName
   let (f,first) ← holding [ov] (getMethod ov m (do return (← importBound o env).getD true))
   callWith pos f first (backTo pos (starEach args env)) (backToKw pos (keywordEach [] env))):=by
 rw [arm_eval_Call,hbase];have hform:methodCallForm (args.length+([]:List Keyword).length) (backTo pos (starEach args env)) (backToKw pos (keywordEach [] env))=true:=hfew;have hpos:methodCallPos true o env apos pos=pure pos:=by unfold methodCallPos;simp [hline]
 unfold methodCall;rw [hform,hpos];rfl
variable {CX:CXT}{k:Nat}{fa:Addr}{fd:FuncData}{ps:List Str}{m:Str}{g:List D->MH->Option (D×MH)}{e:Expr}{es:List Expr}{mr:DM (List D)}{E:XK}
theorem O8 {loc:Loc}{mh:MH}{r:D×MH}(h:O7 c m g mo mr loc mh=some r):∃ ks ds m1,mo loc mh=some (.obj c ks ds,m1)/\ks.contains m=false/\∃ as m2,mr loc m1=some (as,m2)/\g (.obj c ks ds::as) m2=some r:=by
 obtain ⟨x,m1,ea,h2⟩:=Aw h
 clear h
 cases x with
 | obj c' ks ds =>
  simp only at h2;split at h2
  ·rename_i hc;rw [Bool.and_eq_true] at hc;have ec:=eq_of_beq hc.1;subst ec;obtain ⟨as,m2,eb,h3⟩:=Aw h2;exact ⟨ks,ds,m1,ea,by simpa using hc.2,as,m2,eb,h3⟩
  ·cases h2
 | _=>cases h2
theorem uE (hn:PySem.W.nsIn X.K mainGlobals c=some (some (.ref C))) (hc:Cls X.K C) (hm:Meth X.K C m fa) (F:FnOk X.prog X.w X.K X.mg X.base CX k fa fd ps (spD X.K ps.length g)) (hr:Room k X.A) (hb:Binds X.K fd ps []) (hx:Cm CX X E) (ho:DE X o mo) (ha:DA X (e::es) mr)
  (hl:∀ ds mh r,g ds mh=some r->ds.length=ps.length) (hbase:attributeBase o m X.env (eval o X.env)=eval o X.env)
  (hfew:((backTo pos (starEach (e::es) X.env)).all (fun x=>!x.1)&&(backToKw pos (keywordEach [] X.env)).all (fun x=>x.1.isSome)&&decide ((e::es).length+([]:List Keyword).length+(if ([]:List Keyword).isEmpty then 0 else 1) < 30))=true)
  (hline:(apos.endLine==pos.line)=true) (hst:starEach (e::es) X.env=(false,eval e X.env)::starEach es X.env) (hpl:(backTo pos (starEach es X.env)).any (·.1)=false) :
  DE X (.Call (.Attribute o m apos) (e::es) [] pos) (O7 c m g mo mr):=fun loc mh=>by
 cases eq:O7 c m g mo mr loc mh with
 | none=>exact Bl
 | some r =>
  obtain ⟨ks,ds,m1,ea,hk,as,m2,eb,hg⟩:=O8 eq;refine Bk (rK (ho loc mh) hc hm F hr hb .nil hx (ha loc m1) hst hpl (Rn hbase hfew hline)) ?_;rintro σ H Q ⟨ρ,d,mh',q,rl,rs,co⟩;cases q;refine ⟨ρ,_,m1,ea,rl,rs,fun H1 ρ1 v e1 rs1 r1=>?_⟩;cases r1 with
  | @obj _ _ _ a C' dx xs h1 h2 h3 h4 =>
   rw [hn] at h1;cases h1;refine ⟨a,dx,_,rfl,h2,O6 hk,ρ1,as,m2,eb,rl.mono e1,rs1,fun H2 ρ2 vs e2 rs2 r2=>?_⟩;show spD X.K ps.length g (.ref a::(vs++[])) H2 Q E;rw [List.append_nil];have rr:RDs X.K H2 ρ2 (.obj c ks ds::as) (.ref a::vs):=.cons (.obj hn (e2.ins _ _ _ _ h2) h3 (h4.mono e2)) r2;exact ⟨by rw [← rr.length];exact hl _ _ _ hg,ρ2,m2,_,d,mh',hg,rs2,rr,co.ev (e1.trans e2)⟩
theorem jG (hn:PySem.W.nsIn X.K mainGlobals c=some (some (.ref C))) (hc:Cls X.K C) (hm:Meth X.K C m fa) (F:FnOk X.prog X.w X.K X.mg X.base CX k fa fd ps (spD X.K ps.length g)) (hr:Room k X.A) (hb:Binds X.K fd ps []) (hx:Cm CX X E) (ho:DE X o mo)
  (hl:∀ ds mh r,g ds mh=some r->ds.length=ps.length) (hbase:attributeBase o m X.env (eval o X.env)=eval o X.env) (hline:(apos.endLine==pos.line)=true) :
  DE X (.Call (.Attribute o m apos) [] [] pos) (O7 c m g mo (Zr [])):=fun loc mh=>by
 cases eq:O7 c m g mo (Zr []) loc mh with
 | none=>exact Bl
 | some r =>
  obtain ⟨ks,ds,m1,ea,hk,as,m2,eb,hg⟩:=O8 eq;cases eb;refine Bk (fJ (ho loc mh) hc hm F hr hb .nil hx (Rn hbase rfl hline)) ?_;rintro σ H Q ⟨ρ,d,mh',q,rl,rs,co⟩;cases q;refine ⟨ρ,_,m1,ea,rl,rs,fun H1 ρ1 v e1 rs1 r1=>?_⟩;cases r1 with
  | @obj _ _ _ a C' dx xs h1 h2 h3 h4 =>
   rw [hn] at h1;cases h1;refine ⟨a,dx,_,rfl,h2,O6 hk,?_⟩;have rr:RDs X.K H1 ρ1 [.obj c ks ds] [.ref a]:=.cons (.obj hn h2 h3 h4) .nil;have hl1:[V.ref a].length=ps.length:=by rw [← rr.length];exact hl _ _ _ hg
   exact ⟨hl1,ρ1,m1,_,d,mh',hg,rs1,rr,co.ev e1⟩
noncomputable def spI (C:Addr) (f:Str):Sp:=fun vs H Q _=>∃ x dx v,vs=[.ref x,v]/\H x=some (.ins C dx [])/\Q .non (upd H x (.ins C dx [(f,v)]))
theorem uF {x:Str}{p:Pos}{ma:DM D}{a:Expr}(hn:PySem.W.nsIn X.K mainGlobals x=some (some (.ref C))) (M:Mk X.K C fa) (F:FnOk X.prog X.w X.K X.mg X.base CX k fa fd ps (spI C f)) (hr:Room (k+1) X.A) (hg:Gl X x) (hm:X.mg x=some (.ref C)) (hb:Binds X.K fd ps []) (hx:Cm CX X E)
  (ha:DE X a ma) (hdb:(x==("__debug__":Str))=false) (hs:starEach [a] X.env=(false,eval a X.env)::starEach [] X.env) :
  DE X (.Call (.Name x p) [a] [] pos) (ma.bnd fun d=>Zr (.obj x [f] [d])):=fun loc mh =>
 Bk (rM M F hr hg hm hb .nil hx (Dq (ha loc mh) Hh hs) hdb hs) fun σ H Q ⟨ρ,d,mh',q,rl,rs,co⟩=>by
  obtain ⟨y,m1,ea,q⟩:=Aw q;cases q;refine ⟨ρ,y,_,ea,rl,rs,fun H1 ρ1 v e1 rs1 r1=>fun z dx hz hdx hne=>?_⟩;refine ⟨z,dx,v,rfl,Bb,rfl,?_⟩;have e2:Ev X.K H1 ρ1 (upd (upd H1 dx (.own z)) z (.ins C dx [])) ρ1:=(Ev.new hdx).trans (Ev.new (by rw [Af (Ne.symm hne)];exact hz));have rs2:RS X.K (upd (upd H1 dx (.own z)) z (.ins C dx [])) ρ1 mh':=(rs1.new hdx).new (by rw [Af (Ne.symm hne)];exact hz);rw [qM];have hz':upd H1 dx (HO.own z) z=none:=by rw [Af (Ne.symm hne)];exact hz
  refine co _ ρ1 _ (e1.trans ((Ev.new hdx).trans (Ev.new hz'))) ((rs1.new hdx).new hz') ?_;exact .obj (xs:=[v]) hn Bb rfl (.cons (r1.mono ((Ev.new hdx).trans (Ev.new hz'))) .nil)
end
theorem uG {P:Program}{w:World}{K:PySem.W.Frag}{mg:Str->Option Value}{base:Heap}{qual:Str}{st:Stmt}{fa C:Addr}{fd:FuncData}{s q f:Str}{p1 p2 p3 p4:Pos}(F:Fun K "__init__" qual st fa fd) (S:FnScope [s,q] [s,q] (Ag st)) (hb:Br st=[.Assign [.Attribute (.Name s p1) f p2] (.Name q p3) p4])
  (hs1:Vis (Ag st) s) (hq1:Vis (Ag st) q) (hc:Cls K C) (ha:Eg K C f) (d1:(s==("__debug__":Str))=false/\(s==("__classdict__":Str))=false) (d2:(q==("__debug__":Str))=false/\(q==("__classdict__":Str))=false):FnOk P w K mg base CX0 1 fa fd [s,q] (spI C f):=by
 refine F.ok S (fun vs H Q E h=>?_) fun cdv A outer sh H vs Q E hr h=>?_
 ·obtain ⟨x,dx,v,rfl,_⟩:=h;rfl
 ·obtain ⟨x,dx,v,rfl,hx,hQ⟩:=h;rw [hb];refine ⟨_,qT (zK (Hx (i:=0) rfl ?_ d1.1 d1.2) (Hx (i:=1) rfl ?_ d2.1 d2.2) rfl),?_⟩
  ·exact hs1
  ·exact hq1
  ·exact ⟨v,rfl,.ref x,rfl,x,C,dx,[],rfl,hx,hc,ha,by show 0 < 1000;decide,hQ⟩
noncomputable abbrev Fn:=List D->MH->Option (D×MH)
noncomputable def Js (ok:Str->Str->Bool) (f:Str) (mo:DM D):DM D:=mo.bnd fun x=>match x with
 | .obj c ks ds=>if ok c f then Zl (jF c f (.obj c ks ds)) else Zb
 | _=>Zb
noncomputable def Gv (met:Str->Str->Option (List Str×Fn)) (m:Str) (mo:DM D) (mr:DM (List D)):DM D:=mo.bnd fun x=>match x with
 | .obj c ks ds=>(match met c m with
  | some (_,g)=>if ks.contains m then Zb else mr.bnd fun as=>Zl (g (.obj c ks ds::as))
  | none=>Zb)
 | _=>Zb
section
variable {X:Cx}{o:Expr}{mo:DM D}{f m:Str}{pos apos:Pos}
theorem uH {ok:Str->Str->Bool}(hok:∀ c,ok c f=true->∃ C,PySem.W.nsIn X.K mainGlobals c=some (some (.ref C))/\Cls X.K C/\Eg X.K C f) (ho:DE X o mo) (hb:attributeBase o f X.env (eval o X.env)=eval o X.env):DE X (.Attribute o f pos) (Js ok f mo):=fun loc mh=>by
 cases ea:mo loc mh with
 | none =>
  have:Js ok f mo loc mh=none:=by unfold Js DM.bnd;rw [ea]
  rw [this];exact Bl
 | some pr =>
  obtain ⟨x,m1⟩:=pr;cases x with
  | obj c ks ds =>
   by_cases h:ok c f=true
   ·obtain ⟨C,h1,h2,h3⟩:=hok c h;have e:Js ok f mo loc mh=(mo.bnd fun x=>Zl (jF c f x)) loc mh:=by unfold Js DM.bnd;rw [ea];dsimp only;rw [if_pos h]
    rw [e];exact Aau h1 h2 h3 ho hb loc mh
   ·have:Js ok f mo loc mh=none:=by unfold Js DM.bnd;rw [ea];dsimp only;rw [if_neg h];rfl
    rw [this];exact Bl
  | _ =>
   have:Js ok f mo loc mh=none:=by unfold Js DM.bnd;rw [ea];rfl
   rw [this];exact Bl
theorem Zu {met:Str->Str->Option (List Str×Fn)}{mr:DM (List D)}{loc:Loc}{mh m1:MH}{c:Str}{ks:List Str}{ds:List D}{ps:List Str}{g:Fn}(ea:mo loc mh=some (.obj c ks ds,m1)) (hm:met c m=some (ps,g)):Gv met m mo mr loc mh=O7 c m g mo mr loc mh:=by
 unfold Gv O7 DM.bnd;rw [ea];dsimp only;rw [hm];dsimp only;cases hk:ks.contains m with
 | true=>rw [if_pos rfl,if_neg (by simp)]
 | false=>rw [if_neg (by simp),if_pos (by simp)]
theorem uI {k:Nat}{E:XK}{e:Expr}{es:List Expr}{mr:DM (List D)}{met:Str->Str->Option (List Str×Fn)}
  (hm:∀ c ps g,met c m=some (ps,g)->∃ C fa fd,PySem.W.nsIn X.K mainGlobals c=some (some (.ref C))/\Cls X.K C/\Meth X.K C m fa/\Binds X.K fd ps []/\FnOk X.prog X.w X.K X.mg X.base CX0 k fa fd ps (spD X.K ps.length g)/\∀ ds mh r,g ds mh=some r->ds.length=ps.length)
  (hr:Room k X.A) (hx:Cm CX0 X E) (ho:DE X o mo) (ha:DA X (e::es) mr) (hbase:attributeBase o m X.env (eval o X.env)=eval o X.env)
  (hfew:((backTo pos (starEach (e::es) X.env)).all (fun x=>!x.1)&&(backToKw pos (keywordEach [] X.env)).all (fun x=>x.1.isSome)&&decide ((e::es).length+([]:List Keyword).length+(if ([]:List Keyword).isEmpty then 0 else 1) < 30))=true)
  (hline:(apos.endLine==pos.line)=true) (hst:starEach (e::es) X.env=(false,eval e X.env)::starEach es X.env) (hpl:(backTo pos (starEach es X.env)).any (·.1)=false) :
  DE X (.Call (.Attribute o m apos) (e::es) [] pos) (Gv met m mo mr):=fun loc mh=>by
 cases ea:mo loc mh with
 | none =>
  have:Gv met m mo mr loc mh=none:=by unfold Gv DM.bnd;rw [ea]
  rw [this];exact Bl
 | some pr =>
  obtain ⟨x,m1⟩:=pr;cases x with
  | obj c ks ds =>
   cases em:met c m with
   | none =>
    have:Gv met m mo mr loc mh=none:=by unfold Gv DM.bnd;rw [ea];dsimp only;rw [em];rfl
    rw [this];exact Bl
   | some pg =>
    obtain ⟨ps,g⟩:=pg;obtain ⟨C,fa,fd,h1,h2,h3,h4,h5,h6⟩:=hm c ps g em;rw [Zu ea em];exact uE (E:=E) h1 h2 h3 h5 hr h4 hx ho ha h6 hbase hfew hline hst hpl loc mh
  | _ =>
   have:Gv met m mo mr loc mh=none:=by unfold Gv DM.bnd;rw [ea];rfl
   rw [this];exact Bl
theorem jH {k:Nat}{E:XK}{met:Str->Str->Option (List Str×Fn)}
  (hm:∀ c ps g,met c m=some (ps,g)->∃ C fa fd,PySem.W.nsIn X.K mainGlobals c=some (some (.ref C))/\Cls X.K C/\Meth X.K C m fa/\Binds X.K fd ps []/\FnOk X.prog X.w X.K X.mg X.base CX0 k fa fd ps (spD X.K ps.length g)/\∀ ds mh r,g ds mh=some r->ds.length=ps.length)
  (hr:Room k X.A) (hx:Cm CX0 X E) (ho:DE X o mo) (hbase:attributeBase o m X.env (eval o X.env)=eval o X.env) (hline:(apos.endLine==pos.line)=true) :
  DE X (.Call (.Attribute o m apos) [] [] pos) (Gv met m mo (Zr [])):=fun loc mh=>by
 cases ea:mo loc mh with
 | none =>
  have:Gv met m mo (Zr []) loc mh=none:=by unfold Gv DM.bnd;rw [ea]
  rw [this];exact Bl
 | some pr =>
  obtain ⟨x,m1⟩:=pr;cases x with
  | obj c ks ds =>
   cases em:met c m with
   | none =>
    have:Gv met m mo (Zr []) loc mh=none:=by unfold Gv DM.bnd;rw [ea];dsimp only;rw [em];rfl
    rw [this];exact Bl
   | some pg =>
    obtain ⟨ps,g⟩:=pg;obtain ⟨C,fa,fd,h1,h2,h3,h4,h5,h6⟩:=hm c ps g em;rw [Zu ea em];exact jG (E:=E) h1 h2 h3 h5 hr h4 hx ho h6 hbase hline loc mh
  | _ =>
   have:Gv met m mo (Zr []) loc mh=none:=by unfold Gv DM.bnd;rw [ea];rfl
   rw [this];exact Bl
end
section
variable {X:Cx}
noncomputable def Aav:List D->Option (Int×Int)
 | [.int i,.int j]=>some (i,j)
 | _=>none
theorem cG {ds:List D}{z:Int×Int}(h:Aav ds=some z):ds=[.int z.1,.int z.2]:=by
 match ds,h with
 | [d,e],h =>
  cases d with
  | int i =>
   cases e with
   | int j=>cases h;rfl
   | _=>cases h
  | _=>cases h
 | [],h=>cases h
 | [d],h=>cases d <;> cases h
 | d::e::_::_,h=>cases d <;> first | cases h | (cases e <;> cases h)
noncomputable def jJ (f:Int->List Int->Int) (g:Fn):Fn:=fun ds mh=>match Aav ds with
 | some z=>some (.int (f z.1 [z.2]),mh)
 | none=>g ds mh
theorem Xh {v:Value}{f:Int->List Int->Int}{g:Fn}(h2:Cd X v (fun xs H Q=>∃ i j,xs=[.int i,.int j]/\Q (.int (f i [j])) H)) (hg:Cd X v (rDs X.K g)):Cd X v (rDs X.K (jJ f g)):=by
 rintro pins s σ H xs us Q I r ⟨ρ,mh,ds,d,mh',q,rs,rd,co⟩;unfold jJ at q;cases e:Aav ds with
 | none=>rw [e] at q;exact hg pins s σ H xs us Q I r ⟨ρ,mh,ds,d,mh',q,rs,rd,co⟩
 | some z =>
  rw [e] at q;cases q;rw [cG e] at rd;obtain ⟨v1,v2,rfl,r1,r2⟩:=Ags rd;cases r1;cases r2;exact h2 pins s σ H _ us Q I r ⟨_,_,rfl,co H ρ _ Ev.refl rs (.int _)⟩
noncomputable def wQ:Fn:=jJ Vd minD
theorem Xi (hc:X.calm=true):Cd X (.builtin "min") (rDs X.K wQ):=Xh (bF hc) (bV hc)
end
section
variable {X:Cx}{tg:Expr}
end
theorem Mw:fillsNumberSlot (.type "tuple") "mul"=pure false:=PySem.fillsNumberSlot_seq (id := "tuple.__mul__") (r:=some (.builtin "tuple.__rmul__")) PySem.F.slot_tuple_mul.lookup (by decide +kernel) PySem.F.slot_tuple_rmul.lookup (by decide +kernel)
theorem Mx:seqRepeat? (.type "tuple")=pure (some (.builtin "tuple.__mul__")):=by
 unfold seqRepeat?
 rw [PySem.seqSlot_of (T := "tuple") (name := "__mul__") (id := "tuple.__mul__") PySem.F.slot_tuple_mul.lookup (by decide +kernel),PySem.seqSlot_of (T := "tuple") (name := "__rmul__") (id := "tuple.__rmul__") PySem.F.slot_tuple_rmul.lookup (by decide +kernel)];rfl
theorem Ro (a:Int) (t:Tok) (l:Addr) (items:Array Value) (n:Nat) (dd:Option Addr) (sl:Array (Option Value)) :
  Meets (Builtin.«int.__rmul__» ⟨[.int a t,.ref l],[]⟩) (fun _ R s=>s.heap.get? l=some { cls:=.type "tuple",dict:=dd,data:=.seq items n,slots:=sl }/\R (.ok (.ret Value.notImplemented)) s) :=
 .of_wp fun prog w A R s h=>by obtain ⟨hp,g,d,tk,os⟩:=s;obtain ⟨hl,h⟩:=h;wp_walk;exact ⟨_,rfl,h⟩
theorem jK (l:Addr) (items:Array Value) (n:Nat) (dd:Option Addr) (sl:Array (Option Value)) (x:Int) (u:Tok) (hc0:¬(decide (x < -(2 ^ 63)) || decide (x ≥ 2 ^ 63))=true) (hc1:¬(items.isEmpty || x==1)=true) (hc2:¬(decide (x<=0) || items.isEmpty)=true) (hc3:¬((items.size:Int) * x > (2 ^ 63 - 1) / 8)) (hc5:¬(List.foldl (fun x1 x2=>x1++x2) #[] (List.replicate x.toNat items)).size > sizeLine) (hc4:¬PySem.Builtin.Tuple.tupleTooMany ((items.size:Int) * x)=true) :
  Meets (Builtin.«tuple.__mul__» ⟨[.ref l,.int x u],[]⟩) (fun _ R s=>s.heap.get? l=some { cls:=.type "tuple",dict:=dd,data:=.seq items n,slots:=sl }/\R (.ok (.ret (Value.ref s.heap.objs.size))) { s with heap:=s.heap.push { cls:=Value.type "tuple",data:=Data.seq (List.foldl (fun x1 x2=>x1++x2) #[] (List.replicate x.toNat items)) },toks:=s.toks }) :=
 .of_wp fun prog w A R s h=>by
  obtain ⟨hp,g,d,tk,os⟩:=s;obtain ⟨hl,h⟩:=h;have f1:=AutoSeq1.idx_int;wp_walk using wpAny_loadPart' hl
  simp only [hc0,Bool.false_eq_true,if_false];wp_walk using wpAny_loadPart' hl
  simp only [hc3,if_false];wp_walk using wpAny_loadPart' hl
  exact ⟨_,rfl,h⟩
theorem jL (l:Addr) (items:Array Value) (n:Nat) (dd:Option Addr) (sl:Array (Option Value)) (u:Tok) :
  Meets (Builtin.«tuple.__mul__» ⟨[.ref l,.int 1 u],[]⟩) (fun _ R s=>s.heap.get? l=some { cls:=.type "tuple",dict:=dd,data:=.seq items n,slots:=sl }/\R (.ok (.ret (Value.ref l))) s) :=
 .of_wp fun prog w A R s h=>by
  obtain ⟨hp,g,d,tk,os⟩:=s;obtain ⟨hl,h⟩:=h;have f1:=AutoSeq1.idx_int;have c1:(items.isEmpty || (1:Int)==1)=true:=by rw [Bool.or_eq_true];exact .inr rfl
  wp_walk using wpAny_loadPart' hl
  exact ⟨_,rfl,h⟩
section
variable {X:Cx}
theorem RDs.rep {K:PySem.W.Frag}{H:Hp}{ρ:List Addr}{ds:List D}{vs:List V}(h:RDs K H ρ ds vs):∀ k:Nat,RDs K H ρ (List.replicate k ds).flatten (List.replicate k vs).flatten
 | 0=>.nil
 | k+1=>by
  rw [List.replicate_succ,List.replicate_succ,List.flatten_cons,List.flatten_cons];exact h.append (RDs.rep h k)
theorem cH:OpR X (binaryOp .Mult) (fun x y H Q=>∃ a k xs,x=.ref a/\y=.int k/\SqT X.K H a xs/\xs≠[]/\1 < k/\k<=1000/\xs.length<=1000/\∀ p,H p=none->Q (.ref p) (upd H p (.tup (List.replicate k.toNat xs).flatten))):=by
 rintro pins s σ H x y v u Q I rx ry ⟨a,k,xs,e1,e2,ha,hne,h1,h2,h3,q⟩;subst e1;subst e2;cases rx;obtain ⟨t,rfl⟩:=ry;obtain ⟨its,r1,p1,_⟩:=I.tuple ha;obtain ⟨⟨cls,dd,data,sl⟩,ho,hc,n,hd⟩:=id p1;simp only at hc hd;subst hc hd;have hl:its.length<=1000:=by rw [← r1.length];exact h3
 have hn:its.toArray.isEmpty=false:=by
  cases its with
  | nil=>exact absurd (r1.nil_iff.mp rfl) hne
  | cons b r=>rfl
 have hm:((its.toArray.size:Nat):Int) * k<=1000 * 1000:=by
  rw [List.size_toArray];exact Int.mul_le_mul (by omega) (by omega) (by omega) (by omega)
 have hf:List.foldl (fun x1 x2=>x1++x2) #[] (List.replicate k.toNat its.toArray)=(List.replicate k.toNat its).flatten.toArray:=by
  have:=foldl_rep its k.toNat [];rw [List.nil_append] at this;exact this
 have c0:¬(decide (k < -(2 ^ 63)) || decide (k ≥ 2 ^ 63))=true:=by
  rw [Bool.or_eq_true,decide_eq_true_iff,decide_eq_true_iff];omega
 have c1:¬(its.toArray.isEmpty || k==1)=true:=by
  rw [hn,Bool.false_or,beq_iff_eq];omega
 have c2:¬(decide (k<=0) || its.toArray.isEmpty)=true:=by
  rw [hn,Bool.or_false,decide_eq_true_iff];omega
 have c3:¬(((its.toArray.size:Nat):Int) * k > (2 ^ 63 - 1) / 8):=by omega
 have c4:¬PySem.Builtin.Tuple.tupleTooMany (((its.toArray.size:Nat):Int) * k)=true:=by
  have:(sizeLine:Nat)=16777216:=sizeLine_eq;unfold PySem.Builtin.Tuple.tupleTooMany;rw [decide_eq_true_iff];omega
 have c5:¬(List.foldl (fun x1 x2=>x1++x2) #[] (List.replicate k.toNat its.toArray)).size > sizeLine:=by
  rw [hf,List.size_toArray,len_rep,sizeLine_eq];have:k.toNat * its.length<=1000 * 1000:=Nat.mul_le_mul (by omega) hl;omega
 refine wpAny_binaryOp_repeat_ref (T := "tuple") (U := "int") (by decide) ⟨_,ho,rfl⟩ (fun s'=>PySem.typeIs_int s' k t) Mw PySem.F.fills_int_mul PySem.F.slot_int_rmul Mx PySem.F.slot_int_index.lookup
  (call_meets PySem.F.slot_int_rmul (PySem.typeIs_int s k t) PySem.F.entry_int_rmul (PySem.F.args_int_rmul_2 _ _) (Ro k t a its.toArray n dd sl)
   ⟨ho,rfl,⟨_,ho,rfl⟩,call_meets PySem.F.slot_tuple_mul ⟨_,ho,rfl⟩ PySem.F.entry_tuple_mul (PySem.F.args_tuple_mul_2 _ _) (jK a its.toArray n dd sl k t c0 c1 c2 c3 c5 c4) ⟨ho,?_⟩⟩)
 rw [hf];refine ⟨.ref s.heap.objs.size,_,I.laid (t':=s.toks) (o:=.tup (List.replicate k.toNat xs).flatten) (fun b ob q=>Heap.get?_push_of_some _ q) (Nat.le_refl _) ?_,rfl,q _ (I.hok.fresh (Nat.le_refl _))⟩;refine ⟨?_,_,r1.rep k.toNat,Ni.new _ _⟩;rw [len_rep,sizeLine_eq];have:k.toNat * xs.length<=1000 * 1000:=Nat.mul_le_mul (by omega) h3;omega
theorem cI:OpR X (binaryOp .Mult) (fun x y H Q=>∃ a xs,x=.ref a/\y=.int 1/\SqT X.K H a xs/\Q (.ref a) H):=by
 rintro pins s σ H x y v u Q I rx ry ⟨a,xs,e1,e2,ha,q⟩;subst e1;subst e2;cases rx;obtain ⟨t,rfl⟩:=ry;obtain ⟨its,r1,p1,_⟩:=I.tuple ha;obtain ⟨⟨cls,dd,data,sl⟩,ho,hc,n,hd⟩:=id p1;simp only at hc hd;subst hc hd
 exact wpAny_binaryOp_repeat_ref (T := "tuple") (U := "int") (by decide) ⟨_,ho,rfl⟩ (fun s'=>PySem.typeIs_int s' 1 t) Mw PySem.F.fills_int_mul PySem.F.slot_int_rmul Mx PySem.F.slot_int_index.lookup
  (call_meets PySem.F.slot_int_rmul (PySem.typeIs_int s 1 t) PySem.F.entry_int_rmul (PySem.F.args_int_rmul_2 _ _) (Ro 1 t a its.toArray n dd sl)
   ⟨ho,rfl,⟨_,ho,rfl⟩,call_meets PySem.F.slot_tuple_mul ⟨_,ho,rfl⟩ PySem.F.entry_tuple_mul (PySem.F.args_tuple_mul_2 _ _) (jL a its.toArray n dd sl t) ⟨ho,⟨.ref a,H,I,rfl,q⟩⟩⟩)
noncomputable def Aaw:D->D->Option (List D×Int)
 | .tup ds,.int k=>some (ds,k)
 | _,_=>none
theorem cJ {x y:D}{z:List D×Int}(h:Aaw x y=some z):x=.tup z.1/\y=.int z.2:=by
 cases x with
 | tup ds =>
  cases y with
  | int k=>cases h;exact ⟨rfl,rfl⟩
  | _=>cases h
 | _=>cases h
noncomputable def Zv (g:D->D->MH->Option (D×MH)):D->D->MH->Option (D×MH):=fun x y mh=>match Aaw x y with
 | some z=>if z.2=1 then some (.tup z.1,mh) else if (z.1.isEmpty=false/\z.1.length<=1000)/\(1 < z.2/\z.2<=1000) then some (.tup (List.replicate z.2.toNat z.1).flatten,mh) else none
 | none=>g x y mh
theorem jM {g:D->D->MH->Option (D×MH)}(h:OpR X (binaryOp .Mult) (rD X.K g)):OpR X (binaryOp .Mult) (rD X.K (Zv g)):=by
 rintro pins s σ H x y v u Q I rx ry ⟨ρ,mh,dx,dy,d,mh',q,rs,r1,r2,co⟩;unfold Zv at q;cases e:Aaw dx dy with
 | none=>rw [e] at q;exact h pins s σ H x y v u Q I rx ry ⟨ρ,mh,dx,dy,d,mh',q,rs,r1,r2,co⟩
 | some z =>
  rw [e] at q;obtain ⟨ds,k⟩:=z;obtain ⟨rfl,rfl⟩:=cJ e;have q:(if k=1 then some (D.tup ds,mh) else if (ds.isEmpty=false/\ds.length<=1000)/\(1 < k/\k<=1000) then some (D.tup (List.replicate k.toNat ds).flatten,mh) else none)=some (d,mh'):=q
  by_cases h1:k=1
  ·subst h1;rw [if_pos rfl] at q;cases q;cases r2;cases r1 with
   | tup s1 rr=>exact cI pins s σ H _ _ v u Q I rx ry ⟨_,_,rfl,rfl,s1,co H ρ _ Ev.refl rs (.tup s1 rr)⟩
  rw [if_neg h1] at q
  by_cases hz:(ds.isEmpty=false/\ds.length<=1000)/\(1 < k/\k<=1000)
  ·have q:(if (ds.isEmpty=false/\ds.length<=1000)/\(1 < k/\k<=1000) then some (D.tup (List.replicate k.toNat ds).flatten,mh) else none)=some (d,mh'):=q;rw [if_pos hz] at q;cases q;cases r2;cases r1 with
   | tup s1 rr=>exact cH pins s σ H _ _ v u Q I rx ry ⟨_,_,_,rfl,rfl,s1,fun z=>by
     subst z;cases rr
     exact absurd hz.1.1 (by simp),hz.2.1,hz.2.2,by rw [← rr.length];exact hz.1.2,Co.newT rs (rr.rep _) co⟩
  ·have q:(if (ds.isEmpty=false/\ds.length<=1000)/\(1 < k/\k<=1000) then some (D.tup (List.replicate k.toNat ds).flatten,mh) else none)=some (d,mh'):=q;rw [if_neg hz] at q;cases q
end
section
variable {X:Cx}
noncomputable def jN:D->MH->Option (List D)
 | .ref n,mh=>match mh[n]? with | some (.lst ds)=>some ds | _=>none
 | _,_=>none
theorem Xj {x:D}{mh:MH}{ds:List D}(h:jN x mh=some ds):∃ n,x=.ref n/\mh[n]?=some (.lst ds):=by
 cases x with
 | ref n =>
  have h:(match mh[n]? with | some (.lst ds)=>some ds | _=>none)=some ds:=h;cases e:mh[n]? with
  | none=>rw [e] at h;cases h
  | some o =>
   cases o with
   | lst es=>rw [e] at h;cases h;exact ⟨n,rfl,e⟩
   | dct kvs=>rw [e] at h;cases h
   | plc=>rw [e] at h;cases h
   | plq=>rw [e] at h;cases h
 | _=>cases h
end
section
variable {K:PySem.W.Frag}{H H':Hp}{ρ ρ':List Addr}
end
noncomputable def O9 (x:D) (mh:MH):Option (List (Key×D)):=match x with
 | .ref n=>(match mh[n]? with | some (.dct kvs)=>some kvs | _=>none)
 | _=>none
theorem Xk {x:D}{mh:MH}{kvs:List (Key×D)}(h:O9 x mh=some kvs):∃ n,x=.ref n/\mh[n]?=some (.dct kvs):=by
 cases x with
 | ref n =>
  have h:(match mh[n]? with | some (.dct kvs)=>some kvs | _=>none)=some kvs:=h;split at h
  ·rename_i e;cases h;exact ⟨n,rfl,e⟩
  ·cases h
 | _=>cases h
theorem Lr {n:Nat}{mh:MH}{ds:List D}(h:mh[n]?=some (.lst ds)):O9 (.ref n) mh=none:=by
 show (match mh[n]? with | some (.dct kvs)=>some kvs | _=>none)=none;rw [h]
noncomputable def inD (neg:Bool) (x c:D) (mh:MH):Option (D×MH):=match O9 c mh with
 | none=>gK neg x c mh
 | some _=>none
noncomputable def ixD (x y:D) (mh:MH):Option (D×MH):=match O9 x mh with
 | none=>gO x y mh
 | some _=>none
section
variable {X:Cx}
theorem Aax (hu:X.A.units+64 < cLine):OpR X (compareOp .In) (rD X.K (inD false)):=by
 rintro pins s σ H x y v u Q I rx ry ⟨ρ,mh,dx,dy,d,mh',q,rs,r1,r2,co⟩;unfold inD at q;split at q
 ·exact sV hu pins s σ H x y v u Q I rx ry ⟨ρ,mh,dx,dy,d,mh',q,rs,r1,r2,co⟩
 ·cases q
theorem Agu:IxR X (rD X.K ixD):=by
 rintro value slice pins s σ H x y v u Q I rx ry ⟨ρ,mh,dx,dy,d,mh',q,rs,r1,r2,co⟩ hs;unfold ixD at q;split at q
 ·exact Aes value slice pins s σ H x y v u Q I rx ry ⟨ρ,mh,dx,dy,d,mh',q,rs,r1,r2,co⟩ hs
 ·cases q
noncomputable def Agv:Const->Option Str
 | .str x=>some x
 | _=>none
noncomputable def Agw:Expr->Option Str
 | .Constant c _ _=>Agv c
 | _=>none
noncomputable def Agx:Option Expr->Option Str
 | some e=>Agw e
 | none=>none
noncomputable def wR:List (Option Expr)->List Expr->Bool
 | [],[]=>true
 | k::ks,_::vs=>(Agx k).isSome&&wR ks vs
 | _,_=>false
end
section
variable {X:Cx}{a:Addr}{kvs:List (Str×D)}
variable {e:Expr}{es:List Expr}{x:Str}{p apos cpos:Pos}
end
section
variable {X:Cx}{pos pos':Pos}
end
noncomputable def spL (a:Addr) (fd:FuncData):Sp:=fun vs H Q _=>vs.length=2/\(∃ o u,H a=some (.frz o u)/\o.data=.func fd)/\Nk H fd.code fd.qualname/\∀ t,H t=none->Q (.ref t) (upd H t (.tup vs))
theorem Aay {P:Program}{w:World}{K:PySem.W.Frag}{mg:Str->Option Value}{base:Heap}{a:Addr}{fd:FuncData}(L:Y8 fd):∃ x y,FnOk P w K mg base CX0 1 a fd [x,y] (spL a fd)/\∀ u v,bindArgs fd ⟨[u,v],[]⟩=pure [(x,u),(y,v)]:=by
 obtain ⟨name,qual,ps,x,y,p,q,pt,k,sc,pm,cdv,ct,rfl,S,d1,d2,d3,d4,bind⟩:=L;refine ⟨x,y,⟨fun vs H Q E h=>h.1,fun A outer s H args us vs Q E hr e0 hb r hsp=>?_⟩,bind⟩;obtain ⟨hl,⟨o,u,ho,hd⟩,⟨c,oc,u2,fs,tq,e1,e2,e3,e4⟩,hQ⟩:=hsp;have lim:s.heap.NoLimit:=e0.mod.nolimit.keeps fun b o e=>(e0.bs b o e).1
 have hkind:∀ z∈[x,y].zip us,sc.names.lookup z.1=some .local\/(sc.names.lookup z.1=some .cell/\((cellsFrom (s.heap.objs.size+1) sc.names []).lookup z.1).isSome=true):=by
  rintro ⟨n,v⟩ hy;rcases S.par n (List.of_mem_zip hy).1 with q|q
  ·exact .inl q
  ·exact .inr ⟨q,PySem.W.cellsFrom_some _ _ _ (.inl q)⟩
 refine PySem.W.kla_callFunE hr.depth (e0.hok a _ ho).1 hd S.co S.gen rfl ⟨c,oc,fs,tq,e1,(e0.hok c _ e2).1,e3,e4⟩ (hb _ _ _ _ ?_);refine wpAny_newFunctionEnv_cells S.kind hkind fun env he s1 xx=>?_
 subst he;refine ⟨lim.keeps xx.toInCall.keep,PySem.W.kla_codeExpr ?_⟩;have I:Inv (Jz CX0 P w K mg base [x,y] qual sc a cdv A outer s H E) [] (start [x,y] vs) H s1:=Lh S hr.hd e0 hl r xx;have vis:∀ z∈[x,y],Vis sc z:=fun z hz=>(S.par z hz).elim .inl fun h=>.inr (.inl h)
 have pe:PE (Jz CX0 P w K mg base [x,y] qual sc a cdv A outer s H E) (.Tuple [.Name x p,.Name y q] k pt) (Aec (fD (xV 0) (fD (xV 1) rH))) :=
  fG (Dq (Hx rfl (vis x (by simp)) d1 d2) (Dq (Hx rfl (vis y (by simp)) d3 d4) Hh))
 obtain ⟨v1,v2,rfl⟩:∃ v1 v2,vs=[v1,v2]:=by
  match vs,hl with
  | [v1,v2],_=>exact ⟨v1,v2,rfl⟩
 refine wpAny_mono (pe [] s1 _ H Q I ⟨v1,rfl,v2,rfl,by show 2<=sizeLine;decide,hQ⟩) (fun v s' h=>?_) fun e s' h=>h
 obtain ⟨v',H',J,rv,q'⟩:=h;exact ⟨v',H',J.os,J.bare,J.base,J.hok,rv,q'⟩
section
variable {X:Cx}
theorem Tn {a:Addr}{o:Obj}{h:Heap}(e:h.get? a=some o):PySem.W.Frag.In [(a,o)] h:=fun b ob q=>by
 by_cases hb:b=a
 ·subst hb;simp at q;subst q;exact e
 ·have:(b==a)=false:=by simpa using hb
  simp [List.lookup,this] at q
theorem Xl {i:Nat}{x:Str}{p pos:Pos}{e:Expr}{es:List Expr}{t:TA}{E:XK}
  (hr:Room 1 X.A) (hN:X.N[i]?=some x) (hv:Vis X.env.scope x) (hx:Cm CX0 X E)
  (ha:PA X (e::es) t) (hdb:(x==("__debug__":Str))=false) (hcd:(x==("__classdict__":Str))=false) (he:starEach (e::es) X.env=(false,eval e X.env)::starEach es X.env) (hpl:(backTo pos (starEach es X.env)).any (·.1)=false) :
  PE X (.Call (.Name x p) (e::es) [] pos) (fun σ H Q=>∃ a o fd,σ[i]?=some (some (.ref a))/\Y8 fd/\o.data=.func fd/\(∃ u,H a=some (.frz o u))/\t σ H fun vs H1=>(∃ u,H1 a=some (.frz o u))/\spL a fd vs H1 Q E):=by
 intro pins s σ H Q I h;obtain ⟨a,o,fd,h3,L,ho,h5,h4⟩:=h;refine wpAny_Call_Name_kw (thn (Hx hN hv hdb hcd pins s σ H (fun v H1=>v=.ref a/\(∃ u,H1 a=some (.frz o u))/\t σ H1 fun vs H1=>(∃ u,H1 a=some (.frz o u))/\spL a fd vs H1 Q E) I ⟨_,h3,rfl,h5,h4⟩) ?_);rintro u s1 ⟨v,H1,I1,rv,rfl,⟨u1,g1⟩,q⟩;cases (show u=Value.ref a from rv);obtain ⟨x1,y1,F,bind⟩:=Aay (P:=X.prog) (w:=X.w) (K:=X.K) (mg:=X.mg) (base:=X.base) (a:=a) L;have hk:PySem.W.keepIn [(a,o)] (.ref a)=true:=by
  obtain ⟨oc,od,dd,sl⟩:=o;cases ho;simp [PySem.W.keepIn]
 refine PySem.W.callWith_K (K:=[(a,o)]) (h₀:=s1.heap) (Tn (I1.hok a _ g1).1) hk (thn (ha pos pins s1 σ H1 _ I1 q) fun us s2 ⟨vs,H2,I2,r,⟨uf,hf⟩,q2⟩=>⟨Tn (I2.hok a _ hf).1,?_⟩) he hpl;refine Jy (ds:=[]) (dvs:=[]) F hr ?_ .nil hx I2 r (by rw [List.append_nil];exact q2);intro s us hk hl;obtain ⟨u1,u2,rfl⟩:∃ u1 u2,us=[u1,u2]:=by
  match us,(show us.length=2 by simpa using hl) with
  | [u1,u2],_=>exact ⟨u1,u2,rfl⟩
 exact .of_eq (bind u1 u2)
noncomputable def lamP (ds:List D) (mh:MH):Option (D×MH):=match ds with
 | [a,b]=>some (.tup [a,b],mh)
 | _=>none
theorem Xm {i:Nat}{x:Str}{p pos:Pos}{a:Expr}{es:List Expr}{mr:DM (List D)}{loc:DL.Loc}{mh:MH}
  (hr:Room 1 X.A) (hN:X.N[i]?=some x) (hv:Vis X.env.scope x) (hx:Cm CX0 X E0) (ha:DA X (a::es) mr)
  (hdb:(x==("__debug__":Str))=false) (hcd:(x==("__classdict__":Str))=false) (he:starEach (a::es) X.env=(false,eval a X.env)::starEach es X.env) (hpl:(backTo pos (starEach es X.env)).any (·.1)=false) (el:loc[i]?=some (some .lam)) :
  PE X (.Call (.Name x p) (a::es) [] pos) (tD X.K loc mh ((mr.bnd fun ds=>Zl (lamP ds)) loc mh)):=by
 refine Bk (Xl hr hN hv hx (ha loc mh) hdb hcd he hpl) ?_;rintro σ H Q ⟨ρ,d,mh',q,rl,rs,co⟩;obtain ⟨ds,m1,ea,q⟩:=Aw q;obtain ⟨v,e1,r⟩:=rl.2 i _ el;cases r with
 | @lam ad L =>
  obtain ⟨o,u,fd,h1,h2,h3,h4⟩:=L;refine ⟨ad,o,fd,e1,h3,h2,⟨u,h1⟩,ρ,ds,m1,ea,rl,rs,fun H1 ρ1 vs e1 rs1 r1=>⟨⟨u,e1.frz _ _ _ h1⟩,?_⟩⟩;unfold Zl lamP at q;split at q
  ·rename_i a b;cases q;exact ⟨by rw [← r1.length];rfl,⟨o,u,e1.frz _ _ _ h1,h2⟩,h4.mono e1.frz,Co.newT rs1 r1 (co.ev e1)⟩
  ·cases q
end
noncomputable abbrev Xn:=CloI->List D->List D->MH->Option (D×MH)
noncomputable def spC (K:PySem.W.Frag) (a:Addr) (I:CloI) (fd:FuncData) (cl:List (Str×Addr)) (g:List D->List D->MH->Option (D×MH)):Sp:=fun vs H Q _=>vs.length=I.ps.length/\(∃ o u,H a=some (.frz o u)/\o.data=.func fd)/\Nk H fd.code fd.qualname/\cl.map (·.1)=I.fr/\(cl.map (·.2)).Nodup /\
 ∃ xs,Cw H (cl.map (·.2)) xs/\∃ ρ mh fs ds d mh',g fs ds mh=some (d,mh')/\RS K H ρ mh/\RDs K H ρ fs xs/\RDs K H ρ ds vs/\∀ H' ρ' v,Ev K H ρ H' ρ'->RS K H' ρ' mh'->RD K H' ρ' d v->Q v H'
noncomputable def Vl (P:Program) (w:World) (K:PySem.W.Frag) (mg:Str->Option Value) (base:Heap) (k:Nat) (clo:Xn):Prop:=(∀ I a fd cl,CloSc I->Za I fd cl->FnOk P w K mg base CX0 k a fd I.ps (spC K a I fd cl (clo I)))/\∀ I fs ds mh r,clo I fs ds mh=some r->ds.length=I.ps.length
theorem jO {P:Program}{w:World}{K:PySem.W.Frag}{mg:Str->Option Value}{base:Heap}{k:Nat}:Vl P w K mg base k (fun _ _ _ _=>none) :=
 ⟨fun I a fd cl _ _=>⟨fun vs H Q E h=>h.1,fun A outer s H args us vs Q E _ _ _ _ h=>by
  obtain ⟨_,_,_,_,_,_,_,_,_,_,_,_,_,q,_⟩:=h
  cases q⟩,fun I fs ds mh r h=>by cases h⟩
section
variable {X:Cx}
theorem Xo {k i:Nat}{clo:Xn}{x:Str}{p pos:Pos}{e:Expr}{es:List Expr}{t:TA}{E:XK}
  (F:Vl X.prog X.w X.K X.mg X.base k clo) (hr:Room k X.A) (hN:X.N[i]?=some x) (hv:Vis X.env.scope x) (hx:Cm CX0 X E)
  (ha:PA X (e::es) t) (hdb:(x==("__debug__":Str))=false) (hcd:(x==("__classdict__":Str))=false) (he:starEach (e::es) X.env=(false,eval e X.env)::starEach es X.env) (hpl:(backTo pos (starEach es X.env)).any (·.1)=false) :
  PE X (.Call (.Name x p) (e::es) [] pos) (fun σ H Q=>∃ a o fd cl I,σ[i]?=some (some (.ref a))/\CloSc I/\Za I fd cl/\o.data=.func fd/\(∃ u,H a=some (.frz o u))/\t σ H fun vs H1=>(∃ u,H1 a=some (.frz o u))/\spC X.K a I fd cl (clo I) vs H1 Q E):=by
 intro pins s σ H Q I h;obtain ⟨a,o,fd,cl,ci,h3,L1,L2,ho,h5,h4⟩:=h;refine wpAny_Call_Name_kw (thn (Hx hN hv hdb hcd pins s σ H (fun v H1=>v=.ref a/\(∃ u,H1 a=some (.frz o u))/\t σ H1 fun vs H1=>(∃ u,H1 a=some (.frz o u))/\spC X.K a ci fd cl (clo ci) vs H1 Q E) I ⟨_,h3,rfl,h5,h4⟩) ?_);rintro u s1 ⟨v,H1,I1,rv,rfl,⟨u1,g1⟩,q⟩;cases (show u=Value.ref a from rv);have hk:PySem.W.keepIn [(a,o)] (.ref a)=true:=by
  obtain ⟨oc,od,dd,sl⟩:=o;cases ho;simp [PySem.W.keepIn]
 refine PySem.W.callWith_K (K:=[(a,o)]) (h₀:=s1.heap) (Tn (I1.hok a _ g1).1) hk (thn (ha pos pins s1 σ H1 _ I1 q) fun us s2 ⟨vs,H2,I2,r,⟨uf,hf⟩,q2⟩=>⟨Tn (I2.hok a _ hf).1,?_⟩) he hpl;refine Jy (ds:=[]) (dvs:=[]) (F.1 ci a fd cl L1 L2) hr ?_ .nil hx I2 r (by rw [List.append_nil];exact q2);intro s us hk hl;obtain ⟨name,qual,params,doc,pm,cdv,ctv,rfl,bind⟩:=L2;rw [List.append_nil] at hl ⊢;exact .of_eq (bind us hl)
theorem Xp {k i:Nat}{clo:Xn}{ci:CloI}{fs:List D}{x:Str}{p pos:Pos}{a:Expr}{es:List Expr}{mr:DM (List D)}{loc:DL.Loc}{mh:MH}
  (F:Vl X.prog X.w X.K X.mg X.base k clo) (hr:Room k X.A) (hN:X.N[i]?=some x) (hv:Vis X.env.scope x) (hx:Cm CX0 X E0) (ha:DA X (a::es) mr)
  (hdb:(x==("__debug__":Str))=false) (hcd:(x==("__classdict__":Str))=false) (he:starEach (a::es) X.env=(false,eval a X.env)::starEach es X.env) (hpl:(backTo pos (starEach es X.env)).any (·.1)=false) (el:loc[i]?=some (some (.clo ci fs))) :
  PE X (.Call (.Name x p) (a::es) [] pos) (tD X.K loc mh ((mr.bnd fun ds=>Zl (clo ci fs ds)) loc mh)):=by
 refine Bk (Xo F hr hN hv hx (ha loc mh) hdb hcd he hpl) ?_;rintro σ H Q ⟨ρ,d,mh',q,rl,rs,co⟩;obtain ⟨ds,m1,ea,q⟩:=Aw q;obtain ⟨v,e1,r⟩:=rl.2 i _ el;cases r with
 | @clo _ _ ad xs L rf =>
  obtain ⟨o,u,fd,cl,h1,h2,h3,h4,h5,h6,h7,h8⟩:=L;refine ⟨ad,o,fd,cl,ci,e1,h3,h4,h2,⟨u,h1⟩,ρ,ds,m1,ea,rl,rs,fun H1 ρ1 vs e1 rs1 r1=>⟨⟨u,e1.frz _ _ _ h1⟩,?_⟩⟩;exact ⟨by rw [← r1.length];exact F.2 _ _ _ _ _ q,⟨o,u,e1.frz _ _ _ h1,h2⟩,h5.mono e1.frz,h6,h7,xs,h8.mono e1.frz,ρ1,m1,fs,ds,d,mh',q,rs1,rf.mono e1,r1,co.ev e1⟩
end
section
variable {X:Cx}
theorem jP {CX:CXT}{k i:Nat}{fa:Addr}{fd:FuncData}{ps:List Str}{sp:Sp}{ds:List Value}{dvs:List V}{x:Str}{p pos:Pos}{e:Expr}{es:List Expr}{t:TA}{E:XK}
  (F:FnOk X.prog X.w X.K X.mg X.base CX k fa fd ps sp) (hr:Room k X.A) (hN:X.N[i]?=some x) (hv:Vis X.env.scope x) (hk:PySem.W.keepIn X.K (.ref fa)=true) (hb:Binds X.K fd ps ds) (hd:Vals dvs ds) (hx:Cm CX X E)
  (ha:PA X (e::es) t) (hdb:(x==("__debug__":Str))=false) (hcd:(x==("__classdict__":Str))=false) (he:starEach (e::es) X.env=(false,eval e X.env)::starEach es X.env) (hpl:(backTo pos (starEach es X.env)).any (·.1)=false) :
  PE X (.Call (.Name x p) (e::es) [] pos) (fun σ H Q=>∃ y a,PySem.W.nsIn X.K mainGlobals y=some (some (.ref a))/\X.mg y=some (.ref fa)/\σ[i]?=some (some (.ref a))/\Y0 sp dvs E t σ H Q):=by
 intro pins s σ H Q I h;obtain ⟨y,a,h1,h2,h3,h4⟩:=h;have e1:=PySem.W.mg_of I.kIn (I.mod.glob.keeps I.bk) h1;rw [h2] at e1;cases e1;refine wpAny_Call_Name_kw (thn (Hx hN hv hdb hcd pins s σ H (fun v H1=>v=.ref fa/\Y0 sp dvs E t σ H1 Q) I ⟨_,h3,rfl,h4⟩) ?_);rintro u s1 ⟨v,H1,I1,rv,rfl,q⟩;cases (show u=Value.ref fa from rv);refine PySem.W.callWith_K (h₀:=X.base) I1.ok.mod.kin hk (thn (ha pos pins s1 σ H1 _ I1 q) fun us s2 ⟨vs,H2,I2,r,q2⟩=>⟨I2.kIn,?_⟩) he hpl;exact Jy F hr hb hd hx I2 r q2
noncomputable def Rp (cal:Str->Option (List Str×Fn)) (clo:Xn) (i:Nat) (mr:DM (List D)):DM D:=fun loc mh=>match loc[i]? with
 | some (some (.fn y))=>(match cal y with
  | some (_,g)=>(mr.bnd fun ds=>Zl (g ds)) loc mh
  | none=>none)
 | some (some .lam)=>(mr.bnd fun ds=>Zl (lamP ds)) loc mh
 | some (some (.clo I fs))=>(mr.bnd fun ds=>Zl (clo I fs ds)) loc mh
 | _=>none
theorem jQ {cal:Str->Option (List Str×Fn)}{clo:Xn}{k i:Nat}{x:Str}{p pos:Pos}{a:Expr}{es:List Expr}{mr:DM (List D)}(k1:1<=k)
  (hc:∀ y ps f,cal y=some (ps,f)->∃ fa fd,X.mg y=some (.ref fa)/\PySem.W.keepIn X.K (.ref fa)=true/\Binds X.K fd ps []/\FnOk X.prog X.w X.K X.mg X.base CX0 k fa fd ps (spD X.K ps.length f)/\∀ ds mh r,f ds mh=some r->ds.length=ps.length)
  (hcl:Vl X.prog X.w X.K X.mg X.base k clo) (hr:Room k X.A) (hN:X.N[i]?=some x) (hv:Vis X.env.scope x) (hx:Cm CX0 X E0) (ha:DA X (a::es) mr)
  (hdb:(x==("__debug__":Str))=false) (hcd:(x==("__classdict__":Str))=false) (he:starEach (a::es) X.env=(false,eval a X.env)::starEach es X.env) (hpl:(backTo pos (starEach es X.env)).any (·.1)=false) :
  DE X (.Call (.Name x p) (a::es) [] pos) (Rp cal clo i mr):=fun loc mh=>by
 unfold Rp;split
 ·rename_i y el;split
  ·rename_i ps f ec;obtain ⟨fa,fd,h1,h2,h3,h4,h5⟩:=hc y ps f ec;refine Bk (jP h4 hr hN hv h2 h3 .nil hx (ha loc mh) hdb hcd he hpl) ?_;rintro σ H Q ⟨ρ,d,mh',q,rl,rs,co⟩;obtain ⟨ds,m1,ea,q⟩:=Aw q;obtain ⟨v,e1,r⟩:=rl.2 i _ el;cases r with
   | @fn _ ad hn =>
    refine ⟨y,ad,hn,h1,e1,ρ,ds,m1,ea,rl,rs,fun H1 ρ1 vs e1 rs1 r1=>?_⟩;show spD X.K ps.length f (vs++[]) H1 Q E0;rw [List.append_nil];exact ⟨by rw [← r1.length];exact h5 _ _ _ q,ρ1,m1,ds,d,mh',q,rs1,r1,co.ev e1⟩
  ·exact Bl
 ·rename_i el;exact Xm (hr.mono k1) hN hv hx ha hdb hcd he hpl el
 ·rename_i I fs el;exact Xp hcl hr hN hv hx ha hdb hcd he hpl el
 ·exact Bl
noncomputable def Rq (g:D->D->MH->Option (D×MH)):D->D->MH->Option (D×MH):=fun x y mh=>match jN x mh with
 | some ds=>(match y with
  | .int k=>if (-(2 ^ 62)<=k/\k < 2 ^ 62)/\ds.length * k.toNat<=1000000 then some (.ref mh.length,mh++[.lst (List.replicate k.toNat ds).flatten]) else none
  | _=>none)
 | none=>g x y mh
theorem jR {g:D->D->MH->Option (D×MH)}(h:OpR X (binaryOp .Mult) (rD X.K g)):OpR X (binaryOp .Mult) (rD X.K (Rq g)):=by
 rintro pins s σ H x y v u Q I rx ry ⟨ρ,mh,dx,dy,d,mh',q,rs,r1,r2,co⟩;unfold Rq at q;split at q
 ·rename_i ds e;obtain ⟨n,rfl,en⟩:=Xj e;split at q
  ·rename_i k;split at q
   ·rename_i hk;cases q;cases r2;cases r1 with
    | @ref _ a ha =>
     obtain ⟨a',ha',xs,hl,rr⟩:=rs.at en;rw [ha] at ha';cases ha';refine zV pins s σ H _ _ v u Q I rx ry ⟨a,k,xs,rfl,rfl,hl,by omega,by omega,by rw [← rr.length,sizeLine_eq];omega,Co.newL rs (rr.rep _) co⟩
   ·cases q
  ·cases q
 ·exact h pins s σ H x y v u Q I rx ry ⟨ρ,mh,dx,dy,d,mh',q,rs,r1,r2,co⟩
end
theorem jT {X:Cx}:OpR X (binaryOp .FloorDiv) (rI (fun _ j=>j≠0/\j.natAbs < 10889035741470030830827987437816582766592) fun i j=>.int (i.fdiv j)):=opI fun _ j _ _ _ _ _ hc q=>floordiv_int hc.1 q (.inl (PyProof.noPylong_of_log2 (by
 have h:j.natAbs < 2 ^ 133:=hc.2
 by_cases h0:j.natAbs=0
 ·rw [h0];decide +kernel
 ·have h60:j.natAbs.log2 < 133:=(Nat.log2_lt h0).mpr h
  omega)))
structure SC where
 N:List Str
 scope:Scope
 own:Str->Bool
structure Gb where
 cal:Str->Option (List Str×Fn)
 con:Str->Option D
 dic:Str->Option (List (Str×D))
 fld:Str->Str->Bool
 met:Str->Str->Option (List Str×Fn)
 mkr:Str->Option Str
 clo:Xn:=fun _ _ _ _=>none
noncomputable def slot (N:List Str) (x:Str):Option Nat:=N.findIdx? (fun y=>y==x)
noncomputable def jU (sc:Scope) (x:Str):Bool:=match sc.names.lookup x with
 | some .local=>true
 | some .cell=>true
 | some .free=>true
 | _=>false
noncomputable def cL (sc:Scope) (x:Str):Bool:=match sc.names.lookup x with
 | some .local=>true
 | some .cell=>true
 | _=>false
noncomputable def glB (sc:Scope) (x:Str):Bool:=match sc.names.lookup x with
 | some .globalImplicit=>true
 | _=>false
noncomputable def Vm (i j:Int):Bool:=decide (-(2 ^ 64) < i/\i < 2 ^ 64) || decide (-(2 ^ 64) < j/\j < 2 ^ 64)
theorem wU {X:Cx}{f:Value->Value->Sem Value}:OpR X f (rD X.K fun _ _ _=>none):=by
 rintro _ _ _ _ _ _ _ _ _ _ _ _ ⟨_,_,_,_,_,_,e,_⟩;cases e
noncomputable def Aez:Operator->Option (D->D->MH->Option (D×MH))
 | .Add=>some Bm
 | .Sub=>some (iop (fun _ _=>true) fun i j=>i - j)
 | .Mult=>some (Zv (Rq (iop Vm fun i j=>i * j)))
 | .FloorDiv=>some (iop (fun _ j=>decide (j≠0)&&decide (j.natAbs < 10889035741470030830827987437816582766592)) fun i j=>i.fdiv j)
 | .Mod=>some (iop (fun _ j=>decide (j≠0)) fun i j=>i.fmod j)
 | .Pow=>some (iop (fun i j=>decide (0<=j)&&(decide (j<=1000000)&&decide (i.natAbs < 2 ^ 64))) fun i j=>i ^ j.toNat)
 | .LShift=>some (iop (fun i j=>decide (0<=j)&&(decide (j<=1000000)&&decide (i.natAbs < 2 ^ 64))) fun i j=>i * 2 ^ j.toNat)
 | .RShift=>some (iop (fun _ j=>decide (0<=j)) fun i j=>i / 2 ^ j.toNat)
 | .BitAnd=>some (iop (fun _ _=>true) Builtin.bitAnd)
 | .BitOr=>some (iop (fun _ _=>true) Builtin.bitOr)
 | _=>none
noncomputable def Pa:CmpOp->(D->D->MH->Option (D×MH))
 | .Eq=>eqD
 | .NotEq=>neD
 | .Lt=>Qo fun i j=>decide (i < j)
 | .LtE=>Qo fun i j=>decide (i<=j)
 | .Gt=>Qo fun i j=>decide (j < i)
 | .GtE=>Qo fun i j=>decide (j<=i)
 | .Is=>isD false
 | .IsNot=>fun _ _ _=>none
 | .In=>inD false
 | .NotIn=>fun _ _ _=>none
theorem uJ {X:Cx}{op:Operator}{f:D->D->MH->Option (D×MH)}(h:Aez op=some f):OpR X (binaryOp op) (rD X.K f):=by
 cases op <;> (try cases h)
 ·exact sW
 ·exact S7 yW
 ·refine jM (jR (J4 yX fun i j h=>?_));unfold Vm at h;rw [Bool.or_eq_true,decide_eq_true_iff,decide_eq_true_iff] at h;exact h
 ·exact J4 rB fun i j h=>of_decide_eq_true h
 ·refine J4 yZ fun i j h=>?_
  rw [Bool.and_eq_true,Bool.and_eq_true,decide_eq_true_iff,decide_eq_true_iff,decide_eq_true_iff] at h;exact ⟨h.1,h.2.1,h.2.2⟩
 ·refine J4 zA fun i j h=>?_
  rw [Bool.and_eq_true,Bool.and_eq_true,decide_eq_true_iff,decide_eq_true_iff,decide_eq_true_iff] at h;exact ⟨h.1,h.2.1,h.2.2⟩
 ·exact J4 zB fun i j h=>of_decide_eq_true h
 ·exact S7 Ad7
 ·exact S7 zE
 ·refine J4 jT fun i j h=>?_
  rw [Bool.and_eq_true,decide_eq_true_iff,decide_eq_true_iff] at h;exact ⟨h.1,h.2⟩
theorem G7 {X:Cx}(hu:X.A.units+64 < cLine) (op:CmpOp):OpR X (compareOp op) (rD X.K (Pa op)):=by
 cases op
 ·exact Aag hu
 ·exact Aah hu
 ·exact Nv Ad8
 ·exact Nv Ad9
 ·exact Nv Aea
 ·exact Nv Aeb
 ·exact Aai
 ·exact wU
 ·exact Aax hu
 ·exact wU
noncomputable def isStar:Expr->Bool
 | .Starred ..=>true
 | _=>false
noncomputable def isSet:Expr->Bool
 | .Set ..=>true
 | _=>false
noncomputable def Iv:Expr->Bool
 | .ListComp ..=>true
 | .SetComp ..=>true
 | .DictComp ..=>true
 | _=>false
noncomputable def isSlice:Expr->Bool
 | .Slice ..=>true
 | _=>false
noncomputable def baseOk:Expr->Bool
 | .Call (.Name ..) [] [] _=>false
 | _=>true
noncomputable def tyOf (c:Str):Option String :=
 if c == "int" then some "int" else if c == "bool" then some "bool" else if c == "str" then some "str" else if c == "tuple" then some "tuple" else if c == "list" then some "list" else if c == "dict" then some "dict" else none
noncomputable def jV:Fn:=fun _ _=>none
noncomputable def Vn (_:D) (_:List D) (_:MH):Option (D×MH):=none
theorem Ny {X:Cx}{f:Value}:Cd X f (rDs X.K jV):=by
 rintro _ _ _ _ _ _ _ _ _ ⟨_,_,_,_,_,e,_⟩;cases e
theorem Pb {X:Cx}{id:String}:MtR X id (rDM X.K Vn):=by
 rintro _ _ _ _ _ _ _ _ _ _ _ _ ⟨_,_,_,_,_,_,e,_⟩;cases e
noncomputable def jW (x:Str):Option Fn:=if x=="len" then some Dj else if x=="list" then some U0 else if x=="tuple" then some Gs else if x=="all" then some tV else if x=="any" then some jV else if x=="max" then some jV else if x=="min" then some wQ else if x=="int" then some jV else if x=="sorted" then some Kz else if x=="sum" then some jV else none
noncomputable def Ls (m:Str) (n:Nat):Option (String×(D->List D->MH->Option (D×MH))) :=
 if m == "append"&&n==1 then some ("list",Cy) else if m == "bit_length"&&n==0 then some ("int",iM) else if m == "pop"&&n==1 then some ("list",Vn) else if m == "pop"&&n==0 then some ("list",bW) else if m == "extend"&&n==1 then some ("list",Vn) else if m == "index"&&n==1 then some ("tuple",Vn) else none
noncomputable def Ey:Expr->Bool
 | .Tuple ..=>true
 | _=>false
noncomputable def setArg (_:Expr) (_:List Expr):Option Expr:=none
noncomputable def Xq:Expr->List Expr->Option Expr
 | .Call (.Name g _) [b] [] _,[]=>if g == "range"&&!isStar b then some b else none
 | _,_=>none
noncomputable def Aaz (_:Expr) (_:List Expr):Option (Expr×Expr):=none
noncomputable def Zw (_:SC) (_:Expr) (_:CmpOp) (_:Expr):Option (Nat×Nat):=none
noncomputable def Dp (scope:Scope):List Str:=(scope.names.filter fun p=>(match p.2 with | .local=>true | .cell=>true | .free=>true | _=>false)).map (·.1)
noncomputable def Ph (N:List Str) (scope:Scope):List (Option Nat):=(Dp scope).map fun x=>match scope.names.lookup x with
 | some .free=>slot N x
 | _=>none
noncomputable def K1 (scope outer:Scope):Scope:={ scope with names:=scope.names.map fun (n,k)=>if (k==.free&&outer.kind==.function&&outer.names.lookup n==some .cell) then (n,.cell) else (n,k) }
noncomputable def Tp (scope:Scope) (sc:SC):SC:={ N:=Dp scope,scope:=K1 scope sc.scope,own:=fun x=>cL scope x }
noncomputable def Nz (scope:Scope) (sc:SC):Bool :=
 (match scope.kind with | .function=>true | _=>false)&&(decide ((scope.names.map (·.1)).Nodup) &&
  scope.names.all fun p=>(match p.2 with | .free=>(match sc.scope.names.lookup p.1 with | some .cell=>true | some .free=>true | _=>false) | _=>true))
noncomputable def Vo (G:Gb) (sc:SC):Expr->Option (List (Str×D))
 | _=>none
noncomputable def jX (G:Gb) (sc:SC) (op:CmpOp) (b:Expr):Option (Bool×List (Str×D)):=match op with
 | .In=>(match Vo G sc b with | some kvs=>some (false,kvs) | none=>none)
 | .NotIn=>(match Vo G sc b with | some kvs=>some (true,kvs) | none=>none)
 | _=>none
noncomputable def wW (G:Gb) (f:Str):List Expr->Option Str
 | []=>G.mkr f
 | _=>none
noncomputable def iGn (sc:SC) (x:Str):Option Nat:=if cL sc.scope x&&sc.own x then slot sc.N x else none
noncomputable def iGs (sc:SC):List Expr->Option (List Nat)
 | []=>some []
 | .Name x _::r=>match iGn sc x with
  | some i=>match iGs sc r with
   | some is=>some (i::is)
   | none=>none
  | none=>none
 | _=>none
noncomputable def iG (sc:SC):Expr->Option (List Nat×GM)
 | .Name x _=>match iGn sc x with | some i=>some ([i],Ar i) | none=>none
 | .Tuple es _ _=>match iGs sc es with | some is=>some (is,U6 is) | none=>none
 | _=>none
noncomputable def Aa0:Option Str->Bool
 | some n=>n == "default"
 | none=>false
noncomputable def uK:Expr->Bool
 | .Constant .none _ _=>true
 | _=>false
noncomputable def Xr (k:Keyword):Bool:=Aa0 k.arg&&uK k.value
theorem Vp {k:Keyword}(h:Xr k=true):∃ j cp kp,k=⟨some "default",.Constant .none j cp,kp⟩:=by
 obtain ⟨n,v,p⟩:=k;unfold Xr at h;rw [Bool.and_eq_true] at h;obtain ⟨h1,h2⟩:=h;cases n with
 | none=>cases h1
 | some n =>
  have e:n = "default":=eq_of_beq h1
  subst e;cases v with
  | Constant c j cp =>
   cases c with
   | none=>exact ⟨_,_,_,rfl⟩
   | _=>cases h2
  | _=>cases h2
noncomputable def iEb (E:SC->Expr->DM D) (T:SC->Expr->DM Bool) (A:SC->List Expr->DM (List D)) (F:SC->List Expr->DM Bool) (I:SC->Expr->Expr->DM Src) (G:Gb) (sc:SC) (e:Expr):DM D:=match e with
 | .Constant (.int i) _ _=>Zr (.int i)
 | .Constant (.bool b) _ _=>Zr (.bl b)
 | .Constant .none _ _=>Zr .non
 | .Constant (.str x) _ _=>Zr (.str x)
 | .Name x _=>if jU sc.scope x&&!(x == "__debug__")&&!(x == "__classdict__") then (match slot sc.N x with
   | some i=>fun loc mh=>match loc[i]? with | some (some d)=>some (d,mh) | _=>none
   | none=>Zb) else if glB sc.scope x&&!(x == "__debug__") then (match G.con x with | some d=>Zr d | none=>Zb) else Zb
 | .BinOp a op b _=>(match Aez op with | some f=>dop f (E sc a) (E sc b) | none=>Zb)
 | .UnaryOp .USub a _=>(E sc a).bnd fun x=>Zl (Aaq x)
 | .UnaryOp .Not a _=>(Ah (E sc a)).bnd fun c=>Zr (.bl (!c))
 | .BoolOp op [a] _=>E sc a
 | .BoolOp .And (a::b::r) p=>Fo (E sc a) (E sc (.BoolOp .And (b::r) p))
 | .BoolOp .Or (a::b::r) p=>gF (E sc a) (E sc (.BoolOp .Or (b::r) p))
 | .Compare a [op] [b] _=>(match Zw sc a op b with
  | some (i,j)=>iW (fun loc mh=>match loc[i]? with | some (some d)=>some (d,mh) | _=>none) (fun loc mh=>match loc[j]? with | some (some d)=>some (d,mh) | _=>none)
  | none=>match jX G sc op b with
   | some (neg,kvs)=>Zb
   | none=>if isSet b then Zb else dop (Pa op) (E sc a) (E sc b))
 | .Compare a [op,op'] [b,c] _=>if isSet c then Zb else Hl (Pa op) (Pa op') (E sc a) (E sc b) (E sc c)
 | .IfExp c a b _=>dIf (T sc c) (E sc a) (E sc b)
 | .Tuple es _ _=>(A sc es).bnd fun ds=>Zl (Ra ds)
 | .List es _=>(A sc es).bnd fun ds=>Zl (Rb ds)
 | .Dict ks vs _=>if wR ks vs&&!ks.isEmpty&&decide (ks.length<=15) then Zb else Zb
 | .Subscript a (.Slice lo hi none _) _=>dSl (E sc a) (match lo with | some e=>some (E sc e) | none=>none) (match hi with | some e=>some (E sc e) | none=>none)
 | .Subscript a b _=>if isSlice b then Zb else (match Vo G sc a with | some kvs=>Zb | none=>dop ixD (E sc a) (E sc b))
 | .Attribute o f _=>if baseOk o then Js G.fld f (E sc o) else Zb
 | .Call (.Name f _) [] [] _=>if glB sc.scope f&&!(f == "__debug__") then (match G.cal f with | some ([],g)=>Zl (g []) | _=>Zb) else Zb
 | .Call (.Name f _) (a::es) [] _=>if jU sc.scope f&&!(f == "__debug__")&&!(f == "__classdict__")&&!(isStar a)&&es.all (fun e=>!isStar e) then (match slot sc.N f with | some i=>Rp G.cal G.clo i (A sc (a::es)) | none=>Zb) else if glB sc.scope f&&!(f == "__debug__")&&!(f == "__name__")&&!(isStar a)&&es.all (fun e=>!isStar e) then
   (match G.cal f with
   | some (_,g)=>(A sc (a::es)).bnd fun ds=>Zl (g ds)
   | none=>match wW G f es with
    | some fl=>(E sc a).bnd fun d=>Zr (.obj f [fl] [d])
    | none=>match setArg a es with
    | some b=>if glB sc.scope "set" then (if f == "len" then (E sc b).bnd (fun x=>Zl (tU x)) else if f == "sorted" then (E sc b).bnd (fun x=>Zl (cF x)) else Zb) else Zb
    | none=>match Aaz a es with
    | some (b,c)=>if glB sc.scope "zip"&&f == "list" then (A sc [b,c]).bnd (fun ds=>Zl (jC ds)) else if glB sc.scope "zip"&&f == "sorted" then (A sc [b,c]).bnd (fun ds=>Zl (jD ds)) else Zb
    | none=>match Xq a es with
    | some b=>if glB sc.scope "range" then (if f == "list" then (E sc b).bnd (fun x=>Zl (Er x)) else if f == "tuple" then (E sc b).bnd (fun x=>Zl (Nx x)) else Zb) else Zb
    | none=>if f == "isinstance" then (match es with
    | [.Name c _]=>if glB sc.scope c&&!(c == "__debug__")&&!(c == "__name__") then (match tyOf c with | some ty=>(E sc a).bnd fun x=>Zl (Va ty x) | none=>Zb) else Zb
    | _=>Zb) else match jW f with
     | some g=>(A sc (a::es)).bnd fun ds=>Zl (g ds)
     | none=>Zb) else Zb
 | .Call (.Name f _) [a] (kw::ks) _=>if glB sc.scope f&&!(isStar a)&&Xr kw&&ks.isEmpty then (if f == "max" then Zb else if f == "min" then Zb else Zb) else Zb
 | .Call (.Attribute o m ap) [] [] p=>if baseOk o&&(ap.endLine==p.line) then (match Ls m 0 with | some (ty,f)=>Cu ty f (E sc o) (Zr []) | none=>Gv G.met m (E sc o) (Zr [])) else Zb
 | .Call (.Attribute o m ap) (a::es) [] p=>if baseOk o&&(ap.endLine==p.line)&&!(isStar a)&&es.all (fun e=>!isStar e)&&decide ((a::es).length < 20) then (if m == "get" then (match Vo G sc o with | some kvs=>Zb | none=>Zb) else if m == "count"&&es.isEmpty then Zq "tuple" Vn "list" Vn (E sc o) (A sc (a::es)) else if m == "index"&&es.isEmpty then Zq "tuple" Vn "list" Vn (E sc o) (A sc (a::es)) else (match Ls m (a::es).length with | some (ty,f)=>Cu ty f (E sc o) (A sc (a::es)) | none=>Gv G.met m (E sc o) (A sc (a::es)))) else Zb
 | .ListComp elt [⟨tg,iter,ifs,k⟩] scope _=>if k==0&&Nz scope sc&&!(isSet iter) then (match iG (Tp scope sc) tg with
   | some (ws,g)=>if ws.all (fun i=>match (Ph sc.N scope)[i]? with | some (some _)=>false | _=>true) then Di (I sc tg iter) (Ph sc.N scope) g (F (Tp scope sc) ifs) (E (Tp scope sc) elt) else Zb
   | none=>Zb) else Zb
 | _=>Zb
noncomputable def iTb (E:SC->Expr->DM D) (T:SC->Expr->DM Bool) (A:SC->List Expr->DM (List D)) (F:SC->List Expr->DM Bool) (I:SC->Expr->Expr->DM Src) (G:Gb) (sc:SC) (e:Expr):DM Bool:=match e with
 | .UnaryOp .Not a _=>Hv (T sc a)
 | .BoolOp op [a] _=>T sc a
 | .BoolOp .And (a::b::r) p=>Dr (T sc a) (T sc (.BoolOp .And (b::r) p))
 | .BoolOp .Or (a::b::r) p=>J1 (T sc a) (T sc (.BoolOp .Or (b::r) p))
 | .BoolOp _ [] _=>Zb
 | .IfExp ..=>Zb
 | .Compare a [op] [b] _=>(match jX G sc op b with
  | some (neg,kvs)=>Zb
  | none=>if isSet b then Zb else Ah (dop (Pa op) (E sc a) (E sc b)))
 | .Compare a [op,op'] [b,c] _=>if isSet c then Zb else Ah (Hl (Pa op) (Pa op') (E sc a) (E sc b) (E sc c))
 | .Compare ..=>Zb
 | e=>G6 (E sc e)
noncomputable def iIb (E:SC->Expr->DM D) (T:SC->Expr->DM Bool) (A:SC->List Expr->DM (List D)) (F:SC->List Expr->DM Bool) (I:SC->Expr->Expr->DM Src) (G:Gb) (sc:SC) (tg e:Expr):DM Src:=match e with
 | .Call (.Name f p) [a] [] p'=>if f == "range"&&glB sc.scope f then (if isStar a then Zb else J5 Jp (A sc [a])) else if f == "enumerate"&&glB sc.scope f then (if isStar a || !(Ey tg) then Zb else Kw (E sc a)) else Ep (E sc (.Call (.Name f p) [a] [] p'))
 | .Call (.Name f p) [a,b] [] p'=>if f == "range"&&glB sc.scope f then (if isStar a || isStar b then Zb else Zb) else if f == "zip"&&glB sc.scope f then (if isStar a || isStar b || !(Ey tg) then Zb else Zb) else Ep (E sc (.Call (.Name f p) [a,b] [] p'))
 | .Call (.Name f p) [a,b,c] [] p'=>if f == "range"&&glB sc.scope f then (if isStar a || isStar b || isStar c then Zb else Zb) else Ep (E sc (.Call (.Name f p) [a,b,c] [] p'))
 | e=>Ep (E sc e)
mutual
noncomputable def iE (G:Gb):Nat->SC->Expr->DM D
 | 0,_,_=>Zb
 | n+1,sc,e=>iEb (iE G n) (iT G n) (iA G n) (iF G n) (iI G n) G sc e
termination_by structural n=>n
noncomputable def iT (G:Gb):Nat->SC->Expr->DM Bool
 | 0,_,_=>Zb
 | n+1,sc,e=>iTb (iE G n) (iT G n) (iA G n) (iF G n) (iI G n) G sc e
termination_by structural n=>n
noncomputable def iA (G:Gb):Nat->SC->List Expr->DM (List D)
 | 0,_,_=>Zb
 | n+1,sc,es=>match es with
  | []=>Zr []
  | a::r=>if isStar a then Zb else Aa (iE G n sc a) (iA G n sc r)
termination_by structural n=>n
noncomputable def iF (G:Gb):Nat->SC->List Expr->DM Bool
 | 0,_,_=>Zb
 | n+1,sc,es=>match es with
  | []=>Zr true
  | [c]=>iT G n sc c
  | _=>Zb
termination_by structural n=>n
noncomputable def iI (G:Gb):Nat->SC->Expr->Expr->DM Src
 | 0,_,_,_=>Zb
 | n+1,sc,tg,e=>iIb (iE G n) (iT G n) (iA G n) (iF G n) (iI G n) G sc tg e
termination_by structural n=>n
end
noncomputable def Ae0 (sc:SC) (x:Str) (px:Pos) (y:Str) (py:Pos) (a b:Expr):Bool :=
 ((if sc.scope.kind.isAnnotationScope then ScopeKind.function else sc.scope.kind)==.function)&&(sc.scope.names.lookup x==some .local)&&(sc.scope.names.lookup y==some .local)&&(py.line==px.line)&&!(x==y)&&!isStar a&&!isStar b&&!([a,b].all (foldedForSure 8))&&!([a,b].all (constantsAlone 8))
noncomputable def Aa1 (mr:DM (List D)) (i j:Nat):SM:=fun loc mh=>match mr loc mh with
 | some ([d,e],h)=>some (.nx,(loc.set i (some d)).set j (some e),h)
 | _=>none
noncomputable def iGt (G:Gb) (n:Nat) (sc:SC) (tg:Expr):Option GM:=match tg with
 | .Subscript o i _=>if isSlice i then none else some (Rf (iE G n sc o) (iE G n sc i))
 | tg=>match iG sc tg with | some (_,g)=>some g | none=>none
noncomputable def Aa2 (n:Nat) (G:Gb) (sc:SC) (tg v:Expr):SM:=match tg,v with
 | .Name y py,.ListComp elt gens scope vp=>(match iG sc (.Name y py) with | some (_,g)=>Az (iE G n sc (.ListComp elt gens scope vp)) g | none=>SM.bad)
 | .Tuple [.Name x px,.Name y py] _ _,.Tuple [a,b] _ _=>if Ae0 sc x px y py a b then (match slot sc.N x,slot sc.N y with | some i,some j=>Aa1 (iA G n sc [a,b]) i j | _,_=>SM.bad) else SM.bad
 | tg,v=>if Iv v || (Ey tg&&Ey v) then SM.bad else (match iGt G n sc tg with | some g=>Az (iE G n sc v) g | none=>SM.bad)
noncomputable def iSb (n:Nat) (B:SC->List Stmt->SM) (G:Gb) (sc:SC) (s:Stmt):SM:=match s with
 | .Expr e _=>if Iv e then SM.bad else Fv (iE G n sc e)
 | .Pass _=>Zn
 | .Break _=>fun loc mh=>some (.bk,loc,mh)
 | .Continue _=>fun loc mh=>some (.ct,loc,mh)
 | .Return (some e) _=>retS (iE G n sc e)
 | .Return none _=>fun loc mh=>some (.rt .non,loc,mh)
 | .Assign [tg] v _=>Aa2 n G sc tg v
 | .If c a b _=>ifS (iT G n sc c) (B sc a) (B sc b)
 | .While c body [] _=>Tc (iT G n sc c) (B sc body)
 | .For tg it body [] _=>if isSet it then SM.bad else (match iG sc tg with | some (_,g)=>Hw (iI G n sc tg it) g (B sc body) | none=>SM.bad)
 | _=>SM.bad
mutual
noncomputable def iS (G:Gb):Nat->SC->Stmt->SM
 | 0,_,_=>SM.bad
 | n+1,sc,s=>iSb n (iSs G n) G sc s
termination_by structural n=>n
noncomputable def iSs (G:Gb):Nat->SC->List Stmt->SM
 | 0,_,_=>SM.bad
 | n+1,sc,ss=>match ss with
  | []=>Zn
  | s::r=>Ab (iS G n sc s) (iSs G n sc r)
termination_by structural n=>n
end
structure FnI where
 ps:List Str
 N:List Str
 scope:Scope
 body:List Stmt
noncomputable def Ac (G:Gb) (n:Nat) (f:FnI):Fn:=fun ds mh=>if ds.length=f.ps.length then (match iSs G n { N:=f.N,scope:=f.scope,own:=fun _=>true } f.body (ds.map some++List.replicate (f.N.length - ds.length) none) mh with
 | some (.rt d,_,mh')=>some (d,mh')
 | some (.nx,_,mh')=>some (.non,mh')
 | _=>none) else none
noncomputable def fuel:Nat:=60
structure MakI where
 pre:List Stmt
 i:Nat
 pl:Nat
 js:List Nat
 ci:CloI
 post:List Stmt
noncomputable def J7 (loc:Loc):List Nat->Option (List D)
 | []=>some []
 | j::r=>match loc[j]? with
  | some (some d)=>(match J7 loc r with | some ds=>some (d::ds) | none=>none)
  | _=>none
noncomputable def cM (x:Str) (m:MakI):SM:=fun loc mh=>match mh[m.pl]? with
 | some (.plq y)=>if y==x then (match J7 loc m.js with | some ds=>some (.nx,loc.set m.i (some (.clo m.ci ds)),mh) | none=>none) else none
 | _=>none
noncomputable def Zx (G:Gb) (n:Nat) (x:Str) (f:FnI) (m:MakI):SM:=Ab (iSs G n { N:=f.N,scope:=f.scope,own:=fun _=>true } m.pre) (Ab (cM x m) (iSs G n { N:=f.N,scope:=f.scope,own:=fun y=>!(m.ci.fr.contains y) } m.post))
noncomputable def Lx (G:Gb) (n:Nat) (x:Str) (f:FnI) (m:MakI):Fn:=fun ds mh=>if ds.length=f.ps.length then (match Zx G n x f m (ds.map some++List.replicate (f.N.length - ds.length) none) mh with
 | some (.rt d,_,mh')=>some (d,mh')
 | some (.nx,_,mh')=>some (.non,mh')
 | _=>none) else none
noncomputable def My (G:Gb) (n:Nat):Xn:=fun I fs ds mh=>if ds.length=I.ps.length then (match iSs G n { N:=I.N++I.fr,scope:=I.scope,own:=fun y=>!(I.fr.contains y) } I.body (ds.map some++List.replicate (I.N.length - ds.length) none++fs.map some) mh with
 | some (.rt d,_,mh')=>some (d,mh')
 | some (.nx,_,mh')=>some (.non,mh')
 | _=>none) else none
structure Tb where
 tb:Str->Option FnI
 con:Str->Option D
 dic:Str->Option (List (Str×D))
 fld:Str->Str->Bool
 tbm:Str->Str->Option FnI
 mkr:Str->Option Str
 lam:Str->Option Str:=fun _=>none
 mak:Str->Option MakI:=fun _=>none
noncomputable def lamF (G:Gb) (y:Str):Fn:=fun ds mh=>match ds,mh[0]?,G.cal y with
 | [d],some MO.plc,some (_,g)=>g [d,d,D.lam] mh
 | _,_,_=>none
noncomputable def Vq (T:Tb) (G:Gb) (x:Str) (g:Fn):Fn:=match T.lam x with
 | some y=>lamF G y
 | none=>g
noncomputable def Vr (T:Tb) (G:Gb) (x:Str) (I:FnI) (g:Fn):Fn:=match T.mak x with
 | some m=>Lx G fuel x I m
 | none=>g
noncomputable def GkN (T:Tb):Nat->Gb
 | 0=>{ cal:=fun _=>none,con:=T.con,dic:=T.dic,fld:=T.fld,met:=fun _ _=>none,mkr:=T.mkr }
 | k+1=>{ cal:=fun x=>(match T.tb x with | some I=>some (I.ps,Vr T (GkN T k) x I (Vq T (GkN T k) x (Ac (GkN T k) fuel I))) | none=>none),con:=T.con,dic:=T.dic,fld:=T.fld,met:=fun c m=>(match T.tbm c m with | some I=>some (I.ps,Ac (GkN T k) fuel I) | none=>none),mkr:=T.mkr,clo:=My (GkN T k) fuel }
noncomputable def Ie:List Str:=["len", "list", "tuple", "range", "isinstance", "int", "bool", "str", "dict", "set", "sorted", "all", "any", "max", "min", "enumerate", "zip", "sum"]
structure GOk (P:Program) (w:World) (K:PySem.W.Frag) (mg:Str->Option Value) (base:Heap) (k:Nat) (G:Gb):Prop where
 fn:∀ x ps f,G.cal x=some (ps,f)->∃ fa fd,mg x=some (.ref fa)/\PySem.W.keepIn K (.ref fa)=true/\Binds K fd ps []/\FnOk P w K mg base CX0 (k+2) fa fd ps (spD K ps.length f)/\∀ ds mh r,f ds mh=some r->ds.length=ps.length
 con:∀ x d,G.con x=some d->∃ u v,mg x=some u/\RelV v u/\∀ H ρ,RD K H ρ d v
 blt:∀ b∈Ie,mg b=none
 dic:∀ x kvs,G.dic x=some kvs->∃ a,mg x=some (.ref a)/\DicOk w K a kvs
 fld:∀ c f,G.fld c f=true->∃ C,PySem.W.nsIn K mainGlobals c=some (some (.ref C))/\Cls K C/\Eg K C f
 met:∀ c m ps g,G.met c m=some (ps,g)->∃ C fa fd,PySem.W.nsIn K mainGlobals c=some (some (.ref C))/\Cls K C/\Meth K C m fa/\Binds K fd ps []/\FnOk P w K mg base CX0 (k+2) fa fd ps (spD K ps.length g)/\∀ ds mh r,g ds mh=some r->ds.length=ps.length
 mkr:∀ c f,G.mkr c=some f->∃ C fa fd ps,PySem.W.nsIn K mainGlobals c=some (some (.ref C))/\Mk K C fa/\mg c=some (.ref C)/\Binds K fd ps []/\FnOk P w K mg base CX0 1 fa fd ps (spI C f)
 clo:Vl P w K mg base (k+2) G.clo
structure XOk (X:Cx) (k:Nat) (G:Gb) (sc:SC):Prop where
 N:X.N=sc.N
 nd:sc.N.Nodup
 sco:X.env.scope=sc.scope
 own:∀ x,sc.own x=true->L2.Loc sc.scope x->X.fn x=true\/sc.scope.names.lookup x=some .local
 calm:X.calm=true
 xe:X.xe=fun _ _=>False
 room:Room (k+2) X.A
 g:GOk X.prog X.w X.K X.mg X.base k G
theorem Ei {N:List Str}{x:Str}{i:Nat}(h:slot N x=some i):N[i]?=some x:=by
 unfold slot at h;obtain ⟨hl,hp,_⟩:=List.findIdx?_eq_some_iff_getElem.mp h;rw [List.getElem?_eq_getElem hl];exact congrArg some (eq_of_beq hp)
theorem uL {sc:Scope}{x:Str}(h:jU sc x=true):Vis sc x:=by
 unfold jU at h;split at h
 ·exact .inl (by assumption)
 ·exact .inr (.inl (by assumption))
 ·exact .inr (.inr (by assumption))
 ·cases h
theorem Tq {sc:Scope}{x:Str}(h:cL sc x=true):L2.Loc sc x:=by
 unfold cL at h;split at h
 ·exact .inl (by assumption)
 ·exact .inr (by assumption)
 ·cases h
theorem jY {sc:Scope}{x:Str}(h:glB sc x=true):sc.names.lookup x=some .globalImplicit:=by
 unfold glB at h;split at h
 ·assumption
 ·cases h
section
variable {X:Cx}{k:Nat}{G:Gb}{sc:SC}
theorem XOk.gl (O:XOk X k G sc) {x:Str}(h:glB sc.scope x=true):Gl X x:=by
 show X.env.scope.names.lookup x=_;rw [O.sco];exact jY h
theorem XOk.vis (O:XOk X k G sc) {x:Str}(h:jU sc.scope x=true):Vis X.env.scope x:=by rw [O.sco];exact uL h
theorem XOk.units (O:XOk X k G sc):X.A.units+64 < cLine:=O.room.units
theorem Cg {a:Expr}{es:List Expr}{env:Env}(h:isStar a=false):starEach (a::es) env=(false,eval a env)::starEach es env:=by
 cases a <;> first | rfl | cases h
theorem Bs {pos:Pos}{env:Env}:∀ {es:List Expr},(es.all fun e=>!isStar e)=true->(backTo pos (starEach es env)).any (·.1)=false
 | [],_=>rfl
 | a::r,h=>by
  rw [List.all_cons,Bool.and_eq_true] at h;have h1:isStar a=false:=by simpa using h.1
  rw [Cg h1];show (false || (backTo pos (starEach r env)).any (·.1))=false;rw [Bs h.2];rfl
theorem Tr {pos:Pos}{env:Env}:∀ {es:List Expr},(es.all fun e=>!isStar e)=true->(backTo pos (starEach es env)).all (fun x=>!x.1)=true
 | [],_=>rfl
 | a::r,h=>by
  rw [List.all_cons,Bool.and_eq_true] at h;have h1:isStar a=false:=by simpa using h.1
  rw [Cg h1];show (true&&(backTo pos (starEach r env)).all (fun x=>!x.1))=true;rw [Tr h.2];rfl
theorem Dh {o:Expr}{name:Str}{env:Env}{w:Sem Value}(h:baseOk o=true):attributeBase o name env w=w:=by
 cases o <;> try rfl
 rename_i f as kw p;cases f <;> try rfl
 cases as <;> try rfl
 cases kw <;> try rfl
 cases h
theorem Xu {e:Expr}{env:Env}(h:isSet e=false):∀ x,foldedSetIterable e env x=pure x:=by
 intro x;cases e <;> first | rfl | cases h
theorem K3 {op:CmpOp}{e:Expr}(h:isSet e=false):behindInMarks op e=false:=by
 cases e <;> first | rfl | cases h
theorem Ae1 {b:Expr}(h:isSlice b=false):Sg b:=by
 intro o i;cases b <;> first | rfl | cases h
theorem Pj (O:XOk X k G sc) (scope:Scope):relabel scope X.env=K1 scope sc.scope:=by
 unfold relabel K1 Env.kindOf;rw [O.sco]
theorem Ly (O:XOk X k G sc) {scope:Scope}(h:Nz scope sc=true):CompOk X scope:=by
 unfold Nz at h;rw [Bool.and_eq_true,Bool.and_eq_true] at h;obtain ⟨h1,h2,h3⟩:=h;refine ⟨?_,of_decide_eq_true h2,fun p hp e=>?_⟩
 ·split at h1
  ·assumption
  ·cases h1
 ·have:=List.all_eq_true.mp h3 p hp;rw [e] at this;show X.env.scope.names.lookup p.1=_\/X.env.scope.names.lookup p.1=_;rw [O.sco];dsimp only at this;split at this
  ·exact .inl (by assumption)
  ·exact .inr (by assumption)
  ·cases this
theorem Tv {scope:Scope}(h:(scope.names.map (·.1)).Nodup):(Dp scope).Nodup:=by
 unfold Dp;exact h.sublist ((List.filter_sublist).map _)
theorem Vs (O:XOk X k G sc) (scope:Scope):CapOk X (Dp scope) scope (Ph sc.N scope):=by
 refine ⟨by unfold Ph;rw [List.length_map],fun i x j e1 e2=>?_⟩;unfold Ph at e2;rw [List.getElem?_map,e1] at e2;simp only [Option.map_some,Option.some.injEq] at e2;split at e2
 ·rename_i hl;exact ⟨hl,by rw [O.N];exact Ei e2⟩
 ·cases e2
theorem XOk.comp (O:XOk X k G sc) {scope:Scope}(h:Nz scope sc=true) (pins:List (Addr×Obj)) (C:Addr) (cells:List (Str×Addr)) (s₀:Shared) (H₀:Hp) (fp:List Addr) :
  XOk (Cr X pins (Dp scope) scope C cells s₀ H₀ fp) k G (Tp scope sc):=by
 have S:=Ly O h;refine ⟨rfl,Tv S.nd,Pj O scope,fun x hx hl=>?_,O.calm,rfl,O.room,O.g⟩;have hx:cL scope x=true:=hx;rcases Tq hx with q|q
 ·right;show (K1 scope sc.scope).names.lookup x=_;rw [← Pj O scope,Fj,q];rfl
 ·left;exact decide_eq_true (PySem.mem_of_lookup q)
theorem Vt {x:Str}{i:Nat}(h:iGn sc x=some i):cL sc.scope x=true/\sc.own x=true/\slot sc.N x=some i:=by
 unfold iGn at h;split at h
 ·rename_i hc;rw [Bool.and_eq_true] at hc;exact ⟨hc.1,hc.2,h⟩
 ·cases h
theorem XOk.name (O:XOk X k G sc) {x:Str}{i:Nat}{pos:Pos}(h:iGn sc x=some i):PG X (.Name x pos) (eE i):=by
 obtain ⟨h1,h2,h3⟩:=Vt h;have hl:=Tq h1;refine Yy (by rw [O.N];exact O.nd) (by rw [O.N];exact Ei h3) (by rw [O.sco];exact hl) ?_;rw [O.sco];exact O.own x h2 hl
theorem XOk.names (O:XOk X k G sc) {es:List Expr}{is:List Nat}(h:iGs sc es=some is):PGs X es (gNs is)/\(assignEach es X.env).length=is.length/\(assignEach es X.env).findIdx? (·.1)=none:=by
 induction es generalizing is with
 | nil=>cases h;exact ⟨qY,rfl,rfl⟩
 | cons e r ih =>
  cases e with
  | Name x p =>
   simp only [iGs] at h;split at h
   ·rename_i i ei;split at h
    ·rename_i js ej;cases h;obtain ⟨h1,h2,h3⟩:=ih ej;refine ⟨eF (O.name ei) h1 rfl,?_,?_⟩
     ·show (assignEach r X.env).length+1=js.length+1;rw [h2]
     ·show List.findIdx? (fun x=>x.1) ((false,assign (.Name x p) X.env)::assignEach r X.env)=none;rw [List.findIdx?_cons];simp only [Bool.false_eq_true,if_false,h3];rfl
    ·cases h
   ·cases h
  | _=>cases h
theorem XOk.target (O:XOk X k G sc) {tg:Expr}{ws:List Nat}{g:GM}(h:iG sc tg=some (ws,g)):DG X tg ws g:=by
 cases tg with
 | Name x p =>
  simp only [iG] at h;split at h
  ·rename_i i ei;cases h;obtain ⟨h1,h2,h3⟩:=Vt ei;have hl:=Tq h1;refine tK (by rw [O.N];exact O.nd) (by rw [O.N];exact Ei h3) (by rw [O.sco];exact hl) ?_;rw [O.sco];exact O.own x h2 hl
  ·cases h
 | Tuple es kk p =>
  simp only [iG] at h;split at h
  ·rename_i is ei;cases h;obtain ⟨h1,h2,h3⟩:=O.names ei;exact Aal O.calm h1 h2 h3
  ·cases h
 | _=>cases h
end
structure SndE (G:Gb) (n:Nat):Prop where
 e:∀ {X:Cx} {k:Nat} {sc:SC},XOk X k G sc->∀ e,DE X e (iE G n sc e)
 t:∀ {X:Cx} {k:Nat} {sc:SC},XOk X k G sc->∀ e,DT X e (iT G n sc e)
 a:∀ {X:Cx} {k:Nat} {sc:SC},XOk X k G sc->∀ es,DA X es (iA G n sc es)
 f:∀ {X:Cx} {k:Nat} {sc:SC},XOk X k G sc->∀ es,DIf X es (iF G n sc es)
 i:∀ {X:Cx} {k:Nat} {sc:SC},XOk X k G sc->∀ tg e,DI X tg e (iI G n sc tg e)
theorem Zy {X:Cx}{es:List Expr}:DIf X es Zb:=fun pins s σ H Q I ⟨loc,mh,ρ,b,mh',q,_⟩=>by cases q
theorem Ho {X:Cx}{tg e:Expr}:DI X tg e Zb:=fun loc mh=>Ds
theorem uM {c:Str}{T:String}(h:tyOf c=some T):T∈["bool", "int", "str", "tuple", "list", "dict"]/\bootBuiltins c=some (.type T)/\c∈Ie:=by
 unfold tyOf at h;split at h
 ·rename_i e;cases h;rw [eq_of_beq e];exact ⟨by decide,boot_int,by decide +kernel⟩
 ·split at h
  ·rename_i e;cases h;rw [eq_of_beq e];exact ⟨by decide,boot_bool,by decide +kernel⟩
  ·split at h
   ·rename_i e;cases h;rw [eq_of_beq e];exact ⟨by decide,boot_str,by decide +kernel⟩
   ·split at h
    ·rename_i e;cases h;rw [eq_of_beq e];exact ⟨by decide,by decide +kernel,by decide +kernel⟩
    ·split at h
     ·rename_i e;cases h;rw [eq_of_beq e];exact ⟨by decide,by decide +kernel,by decide +kernel⟩
     ·split at h
      ·rename_i e;cases h;rw [eq_of_beq e];exact ⟨by decide,by decide +kernel,by decide +kernel⟩
      ·cases h
theorem Xv {G:Gb}{f fl:Str}{es:List Expr}(h:wW G f es=some fl):es=[]/\G.mkr f=some fl:=by
 cases es with
 | nil=>exact ⟨rfl,h⟩
 | cons a r=>cases h
theorem Pk {X:Cx}{a:Expr}{es:List Expr}{p:Pos}(hs:isStar a=false) (hr:(es.all fun e=>!isStar e)=true) (hk:(a::es).length < 20):((backTo p (starEach (a::es) X.env)).all (fun x=>!x.1)&&(backToKw p (keywordEach [] X.env)).all (fun x=>x.1.isSome)&&decide ((a::es).length+([]:List Keyword).length+(if ([]:List Keyword).isEmpty then 0 else 1) < 30))=true:=by
 rw [Tr (by rw [List.all_cons,hs,hr];rfl)];have:decide ((a::es).length+([]:List Keyword).length+(if ([]:List Keyword).isEmpty then 0 else 1) < 30)=true:=decide_eq_true (by simp;simp at hk;omega);rw [this];rfl
theorem jZ {X:Cx}{k:Nat}{G:Gb}{sc:SC}(O:XOk X k G sc) {f:Str}{g:Fn}{p pos:Pos}{a:Expr}{es:List Expr}{mr:DM (List D)}(h:jW f=some g) (hg:glB sc.scope f=true) (ha:DA X (a::es) mr) (hn:f ≠ "__name__") (hd:(f==("__debug__":Str))=false) (hs:isStar a=false) (hr:(es.all fun e=>!isStar e)=true) :
  DE X (.Call (.Name f p) (a::es) [] pos) (mr.bnd fun ds=>Zl (g ds)):=by
 unfold jW at h;split at h
 ·rename_i e;cases h;rw [eq_of_beq e] at hg hn hd ⊢;exact Fq bM (O.gl hg) (O.g.blt _ (by decide +kernel)) PySem.boot_len ha hn hd (Cg hs) (Bs hr)
 ·split at h
  ·rename_i e;cases h;rw [eq_of_beq e] at hg hn hd ⊢;exact Lj W8 (O.gl hg) (O.g.blt _ (by decide +kernel)) (by decide +kernel) ha hn hd (Cg hs) (Bs hr)
  ·split at h
   ·rename_i e;cases h;rw [eq_of_beq e] at hg hn hd ⊢;exact Lj U3 (O.gl hg) (O.g.blt _ (by decide +kernel)) (by decide +kernel) ha hn hd (Cg hs) (Bs hr)
   ·split at h
    ·rename_i e;cases h;rw [eq_of_beq e] at hg hn hd ⊢;exact Fq (bU O.calm) (O.gl hg) (O.g.blt _ (by decide +kernel)) (by decide +kernel) ha hn hd (Cg hs) (Bs hr)
    ·split at h
     ·rename_i e;cases h;rw [eq_of_beq e] at hg hn hd ⊢;exact Fq (Ny (f:=.builtin "any")) (O.gl hg) (O.g.blt _ (by decide +kernel)) (by decide +kernel) ha hn hd (Cg hs) (Bs hr)
     ·split at h
      ·rename_i e;cases h;rw [eq_of_beq e] at hg hn hd ⊢;exact Fq (Ny (f:=.builtin "max")) (O.gl hg) (O.g.blt _ (by decide +kernel)) (by decide +kernel) ha hn hd (Cg hs) (Bs hr)
      ·split at h
       ·rename_i e;cases h;rw [eq_of_beq e] at hg hn hd ⊢;exact Fq (Xi O.calm) (O.gl hg) (O.g.blt _ (by decide +kernel)) (by decide +kernel) ha hn hd (Cg hs) (Bs hr)
       ·split at h
        ·rename_i e;cases h;rw [eq_of_beq e] at hg hn hd ⊢;exact Lj (Ny (f:=.type "int")) (O.gl hg) (O.g.blt _ (by decide +kernel)) (by decide +kernel) ha hn hd (Cg hs) (Bs hr)
        ·split at h
         ·rename_i e;cases h;rw [eq_of_beq e] at hg hn hd ⊢;exact Fq Tj (O.gl hg) (O.g.blt _ (by decide +kernel)) (by decide +kernel) ha hn hd (Cg hs) (Bs hr)
         ·split at h
          ·rename_i e;cases h;rw [eq_of_beq e] at hg hn hd ⊢;exact Fq (Ny (f:=.builtin "sum")) (O.gl hg) (O.g.blt _ (by decide +kernel)) (by decide +kernel) ha hn hd (Cg hs) (Bs hr)
          ·cases h
theorem Xw {X:Cx}{m:Str}{T:String}{f:D->List D->MH->Option (D×MH)}{o:Expr}{mo:DM D}{ap p:Pos}(h:Ls m 0=some (T,f)) (ho:DE X o mo) (hb:baseOk o=true) (hl:(ap.endLine==p.line)=true):DE X (.Call (.Attribute o m ap) [] [] p) (Cu T f mo (Zr [])):=by
 unfold Ls at h;split at h
 ·rename_i e;rw [Bool.and_eq_true] at e;exact absurd e.2 (by decide)
 ·split at h
  ·rename_i e;rw [Bool.and_eq_true] at e;cases h;rw [eq_of_beq e.1];exact iK PySem.F.plainAttrs_int PySem.F.slot_int_bit_length PySem.F.type_int_bit_length iQ ho (Dh hb) hl
  ·split at h
   ·rename_i e;rw [Bool.and_eq_true] at e;exact absurd e.2 (by decide)
   ·split at h
    ·rename_i e;rw [Bool.and_eq_true] at e;cases h;rw [eq_of_beq e.1];exact iK PySem.F.plainAttrs_list PySem.F.slot_list_pop PySem.F.type_list_pop tX ho (Dh hb) hl
    ·split at h
     ·rename_i e;rw [Bool.and_eq_true] at e;exact absurd e.2 (by decide)
     ·split at h
      ·rename_i e;rw [Bool.and_eq_true] at e;exact absurd e.2 (by decide)
      ·cases h
theorem cN {X:Cx}{m:Str}{T:String}{f:D->List D->MH->Option (D×MH)}{o a:Expr}{es:List Expr}{mo:DM D}{mr:DM (List D)}{ap p:Pos}(h:Ls m (a::es).length=some (T,f)) (ho:DE X o mo) (ha:DA X (a::es) mr) (hb:baseOk o=true) (hl:(ap.endLine==p.line)=true) (hs:isStar a=false) (hr:(es.all fun e=>!isStar e)=true) (hk:(a::es).length < 20) :
  DE X (.Call (.Attribute o m ap) (a::es) [] p) (Cu T f mo mr):=by
 have few:((backTo p (starEach (a::es) X.env)).all (fun x=>!x.1)&&(backToKw p (keywordEach [] X.env)).all (fun x=>x.1.isSome)&&decide ((a::es).length+([]:List Keyword).length+(if ([]:List Keyword).isEmpty then 0 else 1) < 30))=true:=by
  rw [Tr (by rw [List.all_cons,hs,hr];rfl)];have:decide ((a::es).length+([]:List Keyword).length+(if ([]:List Keyword).isEmpty then 0 else 1) < 30)=true:=decide_eq_true (by simp;simp at hk;omega);rw [this];rfl
 unfold Ls at h;split at h
 ·rename_i e;rw [Bool.and_eq_true] at e;cases h;rw [eq_of_beq e.1];exact Mt PySem.F.plainAttrs_list PySem.F.slot_list_append PySem.F.type_list_append Xd ho ha (Dh hb) few hl (Cg hs) (Bs hr)
 ·split at h
  ·rename_i e;rw [Bool.and_eq_true] at e;exact absurd (eq_of_beq e.2) (by simp)
  ·split at h
   ·rename_i e;rw [Bool.and_eq_true] at e;cases h;rw [eq_of_beq e.1];exact Mt PySem.F.plainAttrs_list PySem.F.slot_list_pop PySem.F.type_list_pop Pb ho ha (Dh hb) few hl (Cg hs) (Bs hr)
   ·split at h
    ·rename_i e;rw [Bool.and_eq_true] at e;exact absurd (eq_of_beq e.2) (by simp)
    ·split at h
     ·rename_i e;rw [Bool.and_eq_true] at e;cases h;rw [eq_of_beq e.1];exact Mt PySem.F.plainAttrs_list PySem.F.slot_list_extend PySem.F.type_list_extend Pb ho ha (Dh hb) few hl (Cg hs) (Bs hr)
     ·split at h
      ·rename_i e;rw [Bool.and_eq_true] at e;cases h;rw [eq_of_beq e.1];exact Mt PySem.F.plainAttrs_tuple PySem.F.slot_tuple_index PySem.F.type_tuple_index Pb ho ha (Dh hb) few hl (Cg hs) (Bs hr)
      ·cases h
theorem Vu {a:Expr}{es:List Expr}{b:Expr}(h:Xq a es=some b):es=[]/\isStar b=false/\∃ p q,a=.Call (.Name "range" p) [b] [] q:=by
 unfold Xq at h;split at h
 ·rename_i g p b' q;split at h
  ·rename_i hc;rw [Bool.and_eq_true] at hc;cases h;exact ⟨rfl,by simpa using hc.2,p,q,by rw [eq_of_beq hc.1]⟩
  ·cases h
 ·cases h
theorem Xx {X:Cx}{k:Nat}{G:Gb}{sc:SC}(O:XOk X k G sc) {a b:Expr}{op:CmpOp}{i j:Nat}{pos:Pos}(h:Zw sc a op b=some (i,j)) :
  DE X (.Compare a [op] [b] pos) (iW (fun loc mh=>match loc[i]? with | some (some d)=>some (d,mh) | _=>none) (fun loc mh=>match loc[j]? with | some (some d)=>some (d,mh) | _=>none)):=by cases h
theorem kE (G:Gb):SndE G 0:=⟨fun _ _=>Ay,fun _ _=>Eh,fun _ _=>gB,fun _ _=>Zy,fun _ _ _=>Ho⟩
theorem Ae2 {G:Gb}{n:Nat}(S:SndE G n) {X:Cx}{k:Nat}{sc:SC}(O:XOk X k G sc) (es:List Expr):DA X es (iA G (n+1) sc es):=by
 cases es with
 | nil=>exact gH
 | cons a r =>
  show DA X (a::r) (if isStar a then Zb else Aa (iE G n sc a) (iA G n sc r));split
  ·exact gB
  ·rename_i h;exact Nt (S.e O a) (S.a O r) (Cg (by simpa using h))
theorem Ae3 {G:Gb}{n:Nat}(S:SndE G n) {X:Cx}{k:Nat}{sc:SC}(O:XOk X k G sc) (es:List Expr):DIf X es (iF G (n+1) sc es):=by
 cases es with
 | nil=>exact tM
 | cons a r =>
  cases r with
  | nil=>exact tO (S.t O a)
  | cons b r=>exact Zy
theorem Ae4 {G:Gb}{n:Nat}(S:SndE G n) {X:Cx}{k:Nat}{sc:SC}(O:XOk X k G sc) (tg e:Expr):DI X tg e (iIb (iE G n) (iT G n) (iA G n) (iF G n) (iI G n) G sc tg e):=by
 cases e with
 | Call ff args kws p' =>
  cases ff with
  | Name f p =>
   cases args with
   | nil=>exact Gu (S.e O _)
   | cons a r =>
    cases r with
    | nil =>
     cases kws with
     | nil =>
      delta iIb
      dsimp only;split
      ·rename_i h;rw [Bool.and_eq_true] at h;split
       ·exact Ho
       ·rename_i hs;have hs:isStar a=false:=by simpa using hs
        have e:=eq_of_beq h.1;subst e;exact bQ (O.gl h.2) (O.g.blt _ (by decide +kernel)) (S.a O [a]) (Cg hs)
      ·split
       ·rename_i h;rw [Bool.and_eq_true] at h;split
        ·exact Ho
        ·rename_i hs;have hs:isStar a=false/\Ey tg=true:=by simpa using hs
         have e:=eq_of_beq h.1;subst e;cases tg with
         | Tuple es kk tp=>exact tZ O.calm (O.gl h.2) (O.g.blt _ (by decide +kernel)) (S.e O a) (Cg hs.1)
         | _=>cases hs.2
       ·exact Gu (S.e O _)
     | cons _ _=>exact Gu (S.e O _)
    | cons b r =>
     cases r with
     | nil =>
      cases kws with
      | nil =>
       delta iIb
       dsimp only;split
       ·rename_i h;rw [Bool.and_eq_true] at h;split
        ·exact Ho
        ·rename_i hs;have hs:isStar a=false/\isStar b=false:=by simpa using hs
         have e:=eq_of_beq h.1;subst e;exact Ho
       ·split
        ·rename_i h;rw [Bool.and_eq_true] at h;split
         ·exact Ho
         ·rename_i hs;have hs:(isStar a=false/\isStar b=false)/\Ey tg=true:=by simpa using hs
          have e:=eq_of_beq h.1;subst e;cases tg with
          | Tuple elts kk tp=>exact Ho
          | _=>cases hs.2
        ·exact Gu (S.e O _)
      | cons _ _=>exact Gu (S.e O _)
     | cons c r =>
      cases r with
      | cons _ _=>exact Gu (S.e O _)
      | nil =>
       cases kws with
       | cons _ _=>exact Gu (S.e O _)
       | nil =>
        delta iIb
        dsimp only;split
        ·rename_i h;rw [Bool.and_eq_true] at h;split
         ·exact Ho
         ·rename_i hs;have hs:(isStar a=false/\isStar b=false)/\isStar c=false:=by simpa using hs
          have e:=eq_of_beq h.1;subst e;exact Ho
        ·exact Gu (S.e O _)
  | _=>exact Gu (S.e O _)
 | _=>exact Gu (S.e O _)
theorem wX {X:Cx}{op:BoolOp}{vs:List Expr}{p:Pos}{m:DM Bool}(h:DT X (.BoolOp op vs p) m):DW X (.BoolOp op vs p) m:=fun loc mh wh pins s σ H Q I q=>h loc mh pins s σ H Q I q
theorem Ae5 {G:Gb}{n:Nat}(S:SndE G n) {X:Cx}{k:Nat}{sc:SC}(O:XOk X k G sc) (e:Expr):DT X e (iTb (iE G n) (iT G n) (iA G n) (iF G n) (iI G n) G sc e):=by
 cases e with
 | UnaryOp op a p =>
  cases op with
  | Not=>exact Aaa (S.t O _)
  | _=>exact Uy (S.e O _) fun _=>rfl
 | BoolOp op vs p =>
  cases vs with
  | nil=>cases op <;> exact Eh
  | cons a r =>
   cases r with
   | nil =>
    cases op
    ·exact (sS (S.t O a)).dt
    ·exact (zY (S.t O a)).dt
   | cons b r =>
    cases op
    ·exact (zZ (S.t O _) (wX (S.t O _))).dt
    ·exact (Aep (S.t O _) (wX (S.t O _))).dt
 | IfExp c a b p=>exact Eh
 | Compare a ops cs p =>
  cases ops with
  | nil=>exact Eh
  | cons op ops =>
   cases ops with
   | nil =>
    cases cs with
    | nil=>exact Eh
    | cons b cs =>
     cases cs with
     | cons _ _=>exact Eh
     | nil =>
      delta iTb
      dsimp only;split
      ·rename_i neg kvs hd;exact Eh
      ·split
       ·exact Eh
       ·rename_i h;exact zX (G7 O.units _) (K3 (by simpa using h)) (S.e O _) (S.e O _)
   | cons op' ops =>
    cases ops with
    | cons _ _=>exact Eh
    | nil =>
     cases cs with
     | nil=>exact Eh
     | cons b cs =>
      cases cs with
      | nil=>exact Eh
      | cons c cs =>
       cases cs with
       | cons _ _=>exact Eh
       | nil =>
        delta iTb
        dsimp only;split
        ·exact Eh
        ·rename_i h;exact iH (G7 O.units _) (G7 O.units _) (by show behindInMarks _ _=false;exact K3 (by simpa using h)) (S.e O _) (S.e O _) (S.e O _)
 | _=>exact Uy (S.e O _) fun _=>rfl
theorem Ae6 {G:Gb}{n:Nat}(S:SndE G n) {X:Cx}{k:Nat}{sc:SC}(O:XOk X k G sc) (e:Expr):DE X e (iEb (iE G n) (iT G n) (iA G n) (iF G n) (iI G n) G sc e):=by
 cases e with
 | Constant c _ _ =>
  cases c with
  | int i=>exact sJ xW fun _ _ _=>.int _
  | bool b=>exact sJ Adr fun _ _ _=>.bl _
  | none=>exact sJ xX fun _ _ _=>.non
  | str x=>exact sJ xY fun _ _ _=>.str _
  | _=>exact Ay
 | Name x p =>
  delta iEb
  dsimp only;split
  ·rename_i h;rw [Bool.and_eq_true,Bool.and_eq_true] at h;obtain ⟨⟨h1,h2⟩,h3⟩:=h;split
   ·rename_i i ei;exact gC (by rw [O.N];exact Ei ei) (O.vis h1) (by simpa using h2) (by simpa using h3)
   ·exact Ay
  ·split
   ·rename_i h;rw [Bool.and_eq_true] at h;split
    ·rename_i d ed;obtain ⟨u,v,h1,h2,h3⟩:=O.g.con _ _ ed;exact fun loc mh=>Bk (qO (O.gl h.1) h1 h2 (by simpa using h.2)) fun σ H Q ⟨ρ,d',mh',q,rl,rs,co⟩=>by
      cases q;exact co H ρ v Ev.refl rs (h3 H ρ)
    ·exact Ay
   ·exact Ay
 | BinOp a op b _ =>
  delta iEb
  dsimp only;split
  ·rename_i f ef;exact Aem (uJ ef) (S.e O _) (S.e O _)
  ·exact Ay
 | UnaryOp op a _ =>
  cases op with
  | USub=>exact Aeo tR (S.e O _)
  | Not=>exact Aad (S.e O _)
  | _=>exact Ay
 | BoolOp op vs _ =>
  cases vs with
  | nil=>cases op <;> exact Ay
  | cons a r =>
   cases r with
   | nil=>cases op <;> exact Aab (S.e O _)
   | cons b r =>
    cases op
    ·exact Aac (S.e O _) (S.e O _)
    ·exact Aer (S.e O _) (S.e O _)
 | Compare a ops cs _ =>
  cases ops with
  | nil=>exact Ay
  | cons op ops =>
   cases ops with
   | nil =>
    cases cs with
    | nil=>exact Ay
    | cons b cs =>
     cases cs with
     | cons _ _=>exact Ay
     | nil =>
      delta iEb
      dsimp only;split
      ·rename_i i j hp;exact Xx O hp
      ·split
       ·rename_i neg kvs hd;exact Ay
       ·split
        ·exact Ay
        ·rename_i h;exact zW (G7 O.units _) (K3 (by simpa using h)) (S.e O _) (S.e O _)
   | cons op' ops =>
    cases ops with
    | cons _ _=>exact Ay
    | nil =>
     cases cs with
     | nil=>exact Ay
     | cons b cs =>
      cases cs with
      | nil=>exact Ay
      | cons c cs =>
       cases cs with
       | cons _ _=>exact Ay
       | nil =>
        delta iEb
        dsimp only;split
        ·exact Ay
        ·rename_i h;exact iD (G7 O.units _) (G7 O.units _) (by show behindInMarks _ _=false;exact K3 (by simpa using h)) (S.e O _) (S.e O _) (S.e O _)
 | IfExp c a b _=>exact Aeq (S.t O _) (S.e O _) (S.e O _)
 | Tuple es _ _=>exact Aae (S.a O _)
 | List es _=>exact Aaf (S.a O _)
 | Dict ks vs p =>
  delta iEb
  dsimp only;split
  ·rename_i h;rw [Bool.and_eq_true,Bool.and_eq_true] at h;exact Ay
  ·exact Ay
 | Subscript a b _ =>
  have gen:DE X (.Subscript a b ‹_›) (if isSlice b then Zb else (match Vo G sc a with | some kvs=>Zb | none=>dop ixD (iE G n sc a) (iE G n sc b))):=by
   split
   ·exact Ay
   ·rename_i h;split
    ·rename_i kvs hd;exact Ay
    ·exact Aen Agu (Ae1 (by simpa using h)) (S.e O _) (S.e O _)
  cases b with
  | Slice lo hi st _ =>
   cases st with
   | none =>
    refine gQ (S.e O _) ?_ ?_
    ·cases lo with
     | none=>trivial
     | some e=>exact S.e O e
    ·cases hi with
     | none=>trivial
     | some e=>exact S.e O e
   | some s=>exact gen
  | _=>exact gen
 | Attribute o f _ =>
  delta iEb
  dsimp only;split
  ·rename_i h;exact uH (fun c hc=>O.g.fld c _ hc) (S.e O _) (Dh h)
  ·exact Ay
 | Call ff args kws p' =>
  cases ff with
  | Name f p =>
   cases kws with
   | cons kw ks =>
    cases args with
    | nil=>exact Ay
    | cons a es =>
     cases es with
     | cons _ _=>exact Ay
     | nil =>
      delta iEb
      dsimp only;split
      ·rename_i h;simp only [Bool.and_eq_true] at h;obtain ⟨⟨⟨h1,h4⟩,h5⟩,h6⟩:=h;have h4:isStar a=false:=by simpa using h4
       have h6:ks=[]:=by simpa using h6
       subst h6;obtain ⟨j,cp,kp,rfl⟩:=Vp h5;split
       ·rename_i hf;have e:=eq_of_beq hf;subst e;exact Ay
       ·split
        ·rename_i hf;have e:=eq_of_beq hf;subst e;exact Ay
        ·exact Ay
      ·exact Ay
   | nil =>
    cases args with
    | nil =>
     delta iEb
     dsimp only;split
     ·rename_i h;rw [Bool.and_eq_true] at h;split
      ·rename_i g eg;obtain ⟨fa,fd,h1,h2,h3,h4,h5⟩:=O.g.fn _ _ _ eg;exact iB (E:=E0) h4 O.room (O.gl h.1) h1 h2 h3 Oo (by simpa using h.2)
      ·exact Ay
     ·exact Ay
    | cons a es =>
     delta iEb
     dsimp only;split
     ·rename_i h;simp only [Bool.and_eq_true] at h;obtain ⟨⟨⟨⟨h1,h2⟩,h3⟩,h4⟩,h5⟩:=h;have h4:isStar a=false:=by simpa using h4
      split
      ·rename_i i ei;exact jQ (by omega) (fun y ps f h=>O.g.fn y ps f h) O.g.clo O.room (by rw [O.N];exact Ei ei) (O.vis h1) Oo (S.a O _) (by simpa using h2) (by simpa using h3) (Cg h4) (Bs h5)
      ·exact Ay
     split
     ·rename_i h;simp only [Bool.and_eq_true] at h;obtain ⟨⟨⟨⟨h1,h2⟩,h3⟩,h4⟩,h5⟩:=h
      have h2:(f==("__debug__":Str))=false:=by simpa using h2
      have h3:f ≠ "__name__":=by simpa using h3
      have h4:isStar a=false:=by simpa using h4
      split
      ·rename_i ps g eg;obtain ⟨fa,fd,g1,g2,g3,g4,g5⟩:=O.g.fn _ _ _ eg;exact Zk (E:=E0) g4 O.room (O.gl h1) g1 g2 g3 Oo (S.a O _) g5 h2 (Cg h4) (Bs h5)
      ·split
       ·rename_i fl hb;obtain ⟨rfl,hb⟩:=Xv hb;obtain ⟨C,fa,fd,ps,g1,g2,g3,g4,g5⟩:=O.g.mkr _ _ hb;exact uF (E:=E0) g1 g2 g5 (O.room.mono (by omega)) (O.gl h1) g3 g4 Oo (S.e O a) h2 (Cg h4)
       split
       ·rename_i b hb;cases hb
       ·split
        ·rename_i b c hb;cases hb
        ·split
         ·rename_i b hb;obtain ⟨rfl,hsb,p2,q2,rfl⟩:=Vu hb;split
          ·rename_i hs;split
           ·rename_i hf;have e:=eq_of_beq hf;subst e;exact Xg O.calm (O.gl h1) (O.g.blt _ (by decide +kernel)) (O.gl hs) (O.g.blt _ (by decide +kernel)) (S.e O b) (Cg hsb)
           ·split
            ·rename_i hf;have e:=eq_of_beq hf;subst e;exact cD O.calm (O.gl h1) (O.g.blt _ (by decide +kernel)) (O.gl hs) (O.g.blt _ (by decide +kernel)) (S.e O b) (Cg hsb)
            ·exact Ay
          ·exact Ay
         ·split
          ·rename_i hf;split
           ·rename_i c pc;split
            ·rename_i hc;simp only [Bool.and_eq_true] at hc;obtain ⟨⟨c1,c2⟩,c3⟩:=hc;split
             ·rename_i T eT;obtain ⟨t1,t2,t3⟩:=uM eT;have e:=eq_of_beq hf;subst e;exact Aap t1 (O.gl h1) (O.g.blt _ (by decide +kernel)) (O.gl c1) (O.g.blt _ t3) t2 (by simpa using c3) (by simpa using c2) (S.e O a) (Cg h4)
             ·exact Ay
            ·exact Ay
           ·exact Ay
          ·split
           ·rename_i g eg;exact jZ O eg h1 (S.a O _) h3 h2 h4 h5
           ·exact Ay
     ·exact Ay
  | Attribute o m ap =>
   cases kws with
   | cons _ _=>cases args <;> exact Ay
   | nil =>
    cases args with
    | nil =>
     delta iEb
     dsimp only;split
     ·rename_i h;rw [Bool.and_eq_true] at h;split
      ·rename_i T f eT;exact Xw eT (S.e O _) h.1 h.2
      ·exact jH (E:=E0) (fun c ps g hg=>O.g.met c _ ps g hg) O.room Oo (S.e O _) (Dh h.1) h.2
     ·exact Ay
    | cons a es =>
     delta iEb
     dsimp only;split
     ·rename_i h;simp only [Bool.and_eq_true] at h;obtain ⟨⟨⟨⟨h1,h2⟩,h3⟩,h4⟩,h5⟩:=h;split
      ·rename_i hm;have em:=eq_of_beq hm;subst em;rw [Bool.not_eq_true'] at h3;split
       ·rename_i kvs hd;exact Ay
       ·exact Ay
      split
      ·rename_i hm;rw [Bool.and_eq_true] at hm;have em:=eq_of_beq hm.1;subst em;rw [Bool.not_eq_true'] at h3;exact Vj (Mt PySem.F.plainAttrs_tuple PySem.F.slot_tuple_count PySem.F.type_tuple_count Pb (S.e O _) (S.a O _) (Dh h1) (Pk h3 h4 (of_decide_eq_true h5)) h2 (Cg h3) (Bs h4))
        (Mt PySem.F.plainAttrs_list PySem.F.slot_list_count PySem.F.type_list_count Pb (S.e O _) (S.a O _) (Dh h1) (Pk h3 h4 (of_decide_eq_true h5)) h2 (Cg h3) (Bs h4))
      split
      ·rename_i hm;rw [Bool.and_eq_true] at hm;have em:=eq_of_beq hm.1;subst em;rw [Bool.not_eq_true'] at h3;exact Vj (Mt PySem.F.plainAttrs_tuple PySem.F.slot_tuple_index PySem.F.type_tuple_index Pb (S.e O _) (S.a O _) (Dh h1) (Pk h3 h4 (of_decide_eq_true h5)) h2 (Cg h3) (Bs h4))
        (Mt PySem.F.plainAttrs_list PySem.F.slot_list_index PySem.F.type_list_index Pb (S.e O _) (S.a O _) (Dh h1) (Pk h3 h4 (of_decide_eq_true h5)) h2 (Cg h3) (Bs h4))
      split
      ·rename_i T f eT;exact cN eT (S.e O _) (S.a O _) h1 h2 (by simpa using h3) h4 (of_decide_eq_true h5)
      ·rw [Bool.not_eq_true'] at h3;exact uI (E:=E0) (fun c ps g hg=>O.g.met c _ ps g hg) O.room Oo (S.e O _) (S.a O _) (Dh h1) (Pk h3 h4 (of_decide_eq_true h5)) h2 (Cg h3) (Bs h4)
     ·exact Ay
  | _=>cases args <;> exact Ay
 | ListComp elt gens scope p =>
  cases gens with
  | nil=>exact Ay
  | cons g gens =>
   obtain ⟨tg,iter,ifs,kk⟩:=g;cases gens with
   | cons _ _=>exact Ay
   | nil =>
    delta iEb
    dsimp only;split
    ·rename_i h;simp only [Bool.and_eq_true] at h;obtain ⟨⟨h1,h2⟩,h3⟩:=h;have e:=eq_of_beq h1;subst e;split
     ·rename_i ws g eg;split
      ·rename_i hw;refine tQ (N':=Dp scope) O.calm (Ly O h2) (Vs O scope) (fun i hi j q=>?_) (S.i O tg iter) (fun p C c s h f=>(O.comp h2 p C c s h f).target eg) (fun p C c s h f=>S.f (O.comp h2 p C c s h f) ifs) (fun p C c s h f=>S.e (O.comp h2 p C c s h f) elt) (Xu (by simpa using h3));have z:=List.all_eq_true.mp hw i hi;rw [q] at z;cases z
      ·exact Ay
     ·exact Ay
    ·exact Ay
 | _=>exact Ay
theorem snd (G:Gb):∀ n,SndE G n
 | 0=>kE G
 | n+1=>⟨fun O=>Ae6 (snd G n) O,fun O=>Ae5 (snd G n) O,fun O=>Ae2 (snd G n) O,fun O=>Ae3 (snd G n) O,fun O=>Ae4 (snd G n) O⟩
theorem Rr {pos:Pos}{i j:Int}{c v:Value}(l:List Value) (h:TriplesOk l) (e:codeAmong pos (l++[rawInt i,rawInt j,c])=some v):codeAmong pos l=some v\/v=c:=by
 fun_induction TriplesOk l with
 | case1 =>
  simp only [List.nil_append,codeAmong,rawInt] at e;split at e
  ·cases e;exact .inr rfl
  ·cases e
 | case2 a t b u x rest ih =>
  simp only [List.cons_append,codeAmong] at e ⊢;split at e
  ·rename_i hc;rw [if_pos hc];exact .inl e
  ·rename_i hc;rw [if_neg hc];exact ih h e
 | case3 l h1 h2=>exact h.elim
section
variable {K:PySem.W.Frag}{H:Hp}{ρ:List Addr}
theorem Ev.tab {p:Addr}{ys zs:Array Value}(hp:H p=some (.tbl ys)):Ev K H ρ (upd H p (.tbl zs)) ρ:=by
 have ne:∀ {a:Addr} {o:HO},H a=some o->(∀ ps,o≠.tbl ps)->upd H p (.tbl zs) a=some o:=fun {a o} h n=>by
  rw [Af (Kl h hp (n ys))];exact h
 refine ⟨fun a xs h=>?_,List.prefix_refl _,fun a xs h=>?_,fun a C dx fs h=>ne h (fun _ z=>by cases z),fun a o u h=>ne h (fun _ z=>by cases z)⟩
 ·rcases h with (h|⟨ob,h⟩)|h
  ·exact .inl (.inl (ne h (fun _ z=>by cases z)))
  ·exact .inl (.inr ⟨ob,ne h (fun _ z=>by cases z)⟩)
  ·exact .inr h
 ·rcases h with ⟨ob,h⟩|h
  ·exact .inl ⟨ob,ne h (fun _ z=>by cases z)⟩
  ·exact .inr h
theorem RS.tab {mh:MH}{n:Nat}{p:Addr}{ys zs:Array Value}(h:RS K H ρ mh) (hn:ρ[n]?=some p) (hm:mh[n]?=some .plc) (hp:H p=some (.tbl ys)) (new:fV K (upd H p (.tbl zs)) p):RS K (upd H p (.tbl zs)) ρ mh :=
 ⟨h.len,h.nd,fun m a ob e1 e2=>by
  by_cases hm':n=m
  ·subst hm';rw [hn] at e1;cases e1;rw [hm] at e2;cases e2;exact new
  ·refine (h.obj m a ob e1 e2).mono (Ev.tab hp) ?_;rw [Af];intro z;subst z
   exact hm' ((List.getElem?_inj (List.getElem?_eq_some_iff.mp hn).1 h.nd).mp (hn.trans e1.symm))⟩
theorem RS.tabQ {mh:MH}{n:Nat}{p:Addr}{ys zs:Array Value}(h:RS K H ρ mh) (hn:ρ[n]?=some p) {x:Str}(hm:mh[n]?=some (.plq x)) (hp:H p=some (.tbl ys)) (new:fY K (upd H p (.tbl zs)) x p):RS K (upd H p (.tbl zs)) ρ mh :=
 ⟨h.len,h.nd,fun m a ob e1 e2=>by
  by_cases hm':n=m
  ·subst hm';rw [hn] at e1;cases e1;rw [hm] at e2;cases e2;exact new
  ·refine (h.obj m a ob e1 e2).mono (Ev.tab hp) ?_;rw [Af];intro z;subst z
   exact hm' ((List.getElem?_inj (List.getElem?_eq_some_iff.mp hn).1 h.nd).mp (hn.trans e1.symm))⟩
end
noncomputable abbrev uT:HO:=.ext fun _=>True
section
variable {P:Program}{w:World}{H:Hp}{h h2:Heap}{pl c a:Addr}{tb more:Array Value}{oc ob:Obj}{fs:List Addr}
noncomputable abbrev H3 (H:Hp) (c:Addr) (oc:Obj) (pl:Addr) (tb:Array Value) (a:Addr) (ob:Obj):Hp:=upd (upd (upd H c (.frz oc uT)) pl (.tbl tb)) a (.frz ob uT)
theorem Zz {b:Addr}{o:HO}(e:H b=some o) (n:∀ ps,o≠.tbl ps) (ht:H pl=some (.tbl tb)) (fc:H c=none) (fa:H a=none):H3 H c oc pl (tb++more) a ob b=some o:=by
 unfold H3;rw [Af (Al e fa),Af (Kl e ht (n tb)),Af (Al e fc)];exact e
theorem Z0 (ok:HOk P w H h) (ht:H pl=some (.tbl tb)) (fc:H c=none) (fa:H a=none) (nca:c≠a) (k:∀ b o,b≠pl->h.get? b=some o->h2.get? b=some o)
  (hpl:h2.get? pl=some (PySem.W.tabObj (tb++more))) (hc:h2.get? c=some oc) (ha:h2.get? a=some ob):HOk P w (H3 H c oc pl (tb++more) a ob) h2:=fun b o e=>by
 by_cases b1:b=a
 ·subst b1;unfold H3 at e;rw [Bb] at e;cases e;exact ⟨ha,trivial,⟨_,ha⟩,fun _ _ _ _=>trivial⟩
 ·by_cases b2:b=pl
  ·subst b2;unfold H3 at e;rw [Af b1,Bb] at e;cases e;exact hpl
  ·by_cases b3:b=c
   ·subst b3;unfold H3 at e;rw [Af b1,Af b2,Bb] at e;cases e;exact ⟨hc,trivial,⟨_,hc⟩,fun _ _ _ _=>trivial⟩
   ·have e0:H b=some o:=by
     unfold H3 at e;rw [Af b1,Af b2,Af b3] at e;exact e
    refine (ok b o e0).stay (fun x u hx q=>k x u (fun z=>?_) q) (fun x q=>Zz q (fun _ z=>by cases z) ht fc fa) fun x xs q=>Zz q (fun _ z=>by cases z) ht fc fa
    rcases hx with rfl|hx
    ·exact b2 z
    ·subst z;rw [ht] at hx;cases hx
theorem kI (ht:H pl=some (.tbl tb)) (fc:H c=none) (fa:H a=none) (sc:h.objs.size<=c) (sa:h.objs.size<=a) (k:∀ b o,b≠pl->h.get? b=some o->h2.get? b=some o)
  (hpl:h2.get? pl=some (PySem.W.tabObj (tb++more))):Un fs [] H (H3 H c oc pl (tb++more) a ob) h h2:=by
 have np:∀ b,H b=none->b≠pl:=fun b n z=>by subst z;rw [ht] at n;cases n
 refine ⟨fun b o e n _ _=>k b o (np b n) e,fun b o e n _ _=>⟨o.slots,k b o (np b n) e⟩,fun b o e n _=>?_,fun b o e _=>?_,fun b xs e=>Zz e (fun _ z=>by cases z) ht fc fa,fun b o u e=>Zz e (fun _ z=>by cases z) ht fc fa,fun b ps e=>?_⟩
 ·unfold H3;rw [Af (Nat.ne_of_lt (Nat.lt_of_lt_of_le (Heap.lt_size e) sa)),Af (np b n),Af (Nat.ne_of_lt (Nat.lt_of_lt_of_le (Heap.lt_size e) sc))];exact n
 ·by_cases z:b=pl
  ·subst z;exact ⟨_,hpl⟩
  ·exact ⟨o,k b o z e⟩
 ·unfold H3;rw [Af (Al e fa)]
  by_cases z:b=pl
  ·subst z;rw [ht] at e;cases e;exact ⟨more,by rw [Bb]⟩
  ·exact ⟨#[],by rw [Af z,Af (Al e fc),e];simp⟩
end
structure LamT (lps:Arguments) (body:Expr) (lsc:Scope):Prop where
 d:∀ env,defaultsOf lps env=([],[])
 c:∀ env,closureFor lsc env=pure []
 f:∀ name qual pm cdv ct,Y8 (PySem.W.kla_fn name qual lps body lsc [] pm cdv ct)
section
variable {X:Cx}
theorem Aa3 {lps:Arguments}{body:Expr}{lsc:Scope}{lpos:Pos}{loc:DL.Loc}{mh:MH}(L:LamT lps body lsc) (hq:X.env.qual ++ "<lambda>"=sG)
  (hX:∃ (f:Addr) (o:Obj) (fd:FuncData),PySem.W.nsIn X.K mainGlobals "pattern_of"=some (some (.ref f))/\X.K.lookup f=some o/\o.data=.func fd/\X.env.code=fd.code) (h0:mh[0]?=some .plc) :
  PE X (.Lambda lps body lsc lpos) (tD X.K loc mh (some (.lam,mh))):=by
 rintro pins s σ H Q I ⟨ρ,d,mh',q,rl,rs,co⟩;cases q;obtain ⟨pl,hpl,ro⟩:=rs.at h0;obtain ⟨tb,ht,tri,cod,pk⟩:=(show fV X.K H pl from ro);obtain ⟨f,o,fd,c,bm,ob,n1,n2,n3,n4,n5,b1,b2,b3,b4,b5,b6,b7⟩:=id pk;obtain ⟨f',o',fd',m1,m2,m3,m4⟩:=hX;rw [n1] at m1;cases m1;rw [n2] at m2;cases m2;rw [n3] at m3;cases m3;rw [n4] at m4;have hP:s.heap.get? pl=some (PySem.W.tabObj tb):=I.hok pl _ ht;have C:=PySem.W.codeHd_of_K I.kIn n5;have hg:s.heap.Ns mainGlobals X.mg:=I.mod.glob.keeps I.bk;have hgP:mainGlobals≠pl:=fun z=>by
  obtain ⟨o,es,ep,e,hd,_⟩:=hg;rw [z,hP] at e;cases e;cases hd
 have hb:s.heap.BuiltinsAt X.mg pl:=⟨bm,ob,PySem.W.mg_of I.kIn hg b1,b6,b7,(fun z=>by
  have e:=I.kIn _ _ b2
  rw [z,hP] at e;cases e;cases b3),I.kIn _ _ b2,b3,b4,b5⟩
 refine PySem.W.kla_eval (L.d _) ?_;rw [hq];cases hm:codeAmong lpos tb.toList with
 | none =>
  refine PySem.W.kla_makeFunction (L.c _) I.ok.glob hg m4 C hP tri hm hgP hb fun c' ctv h' tk hx hge hlt hrec htb=>?_
  obtain ⟨c2,oc,vs,tq,e1,e2,e3,e4⟩:=hrec;cases e1;have fc:H c'=none:=I.hok.fresh hge;have sa:s.heap.objs.size<=h'.objs.size:=Nat.le_of_lt (Nat.lt_of_le_of_lt hge hlt);have fa:H h'.objs.size=none:=I.hok.fresh sa;have nca:c'≠h'.objs.size:=Nat.ne_of_lt hlt;have npa:h'.objs.size≠pl:=Nat.ne_of_gt (Heap.lt_size htb);have kk:∀ (ob:Obj) b o,b≠pl->s.heap.get? b=some o->(h'.push ob).get? b=some o:=fun ob b o n e=>Heap.get?_push_of_some _ (hx b o n e)
  have rs1:=(rs.new (o:=.frz oc uT) fc);have t1:upd H c' (.frz oc uT) pl=some (.tbl tb):=by rw [Af (Al ht fc)];exact ht
  have fr:∀ a o u,H a=some (.frz o u)->upd (upd H c' (.frz oc uT)) pl (.tbl (tb++#[rawInt lpos.line,rawInt lpos.col,.ref c'])) a=some (.frz o u):=fun a o u e=>by
   rw [Af (Kl e ht (by intro z;cases z)),Af (Al e fc)];exact e
  have ncp:c'≠pl:=fun z=>by subst z;rw [ht] at fc;cases fc
  have cd1:Nk (upd (upd H c' (.frz oc uT)) pl (.tbl (tb++#[rawInt lpos.line,rawInt lpos.col,.ref c']))) (.ref c') sG:=⟨c',oc,uT,vs,tq,rfl,by rw [Af ncp,Bb],e3,e4⟩
  have rs2:=rs1.tab (zs:=tb++#[rawInt lpos.line,rawInt lpos.col,.ref c']) hpl h0 t1 ⟨_,Bb,by
    simpa using TriplesOk_snoc lpos.line lpos.col (.ref c') _ tri,fun pos v z=>by
    rcases Rr _ tri (by simpa using z) with z|z
    ·exact (cod pos v z).mono fr
    ·subst z;exact cd1,pk⟩
  have f2:upd (upd H c' (.frz oc uT)) pl (.tbl (tb++#[rawInt lpos.line,rawInt lpos.col,.ref c'])) h'.objs.size=none:=by rw [Af npa,Af (Ne.symm nca)];exact fa
  have ev:Ev X.K H ρ _ ρ:=((Ev.new (o:=.frz oc uT) fc).trans (Ev.tab (zs:=tb++#[rawInt lpos.line,rawInt lpos.col,.ref c']) t1)).trans (Ev.new (o:=.frz (PySem.W.kla_obj "<lambda>" sG lps body lsc [] ((X.mg "__name__").getD .none) c' ctv) uT) f2);refine ⟨.ref h'.objs.size,H3 H c' oc pl _ h'.objs.size _,I.un (kI ht fc fa hge sa (kk _) (Heap.get?_push_of_some _ htb)) (Z0 I.hok ht fc fa nca (kk _) (Heap.get?_push_of_some _ htb) (Heap.get?_push_of_some _ e2) (Heap.get?_push_size _ rfl)),rfl,?_⟩;exact co _ ρ _ ev (rs2.new f2) (.lam ⟨_,uT,_,Bb,rfl,L.f _ _ _ _ _,cd1.mono fun a o u e=>by unfold H3;rw [Af (Al e f2)];exact e⟩)
 | some cv =>
  obtain ⟨c',oc,u,vs,tq,rfl,e2,e3,e4⟩:=cod lpos cv hm;refine PySem.W.kla_makeFunctionHit (L.c _) I.ok.glob hg m4 C hP tri hm hb fun ctv h' tk hk hsz=>?_
  have fa:H h'.objs.size=none:=I.hok.fresh hsz;refine ⟨.ref h'.objs.size,upd H h'.objs.size (.frz _ uT),I.laid (t':=tk) (fun b u e=>Heap.get?_push_of_some _ (hk b u e)) hsz ⟨Heap.get?_push_size _ rfl,trivial,⟨_,Heap.get?_push_size _ rfl⟩,fun _ _ _ _=>trivial⟩,rfl,?_⟩;exact co _ ρ _ (Ev.new fa) (rs.new fa) (.lam ⟨_,uT,_,Bb,rfl,L.f _ _ _ _ _,c',oc,u,vs,tq,rfl,by rw [Af (Al e2 fa)];exact e2,e3,e4⟩)
noncomputable def Aa4:DM D:=fun _ mh=>match mh[0]? with
 | some MO.plc=>some (D.lam,mh)
 | _=>none
end
theorem Ig {K:PySem.W.Frag}{H:Hp}{ρ:List Addr}{N:List Str}{ds:List D}{vs:List V}(r:RDs K H ρ ds vs):RL K H ρ (ds.map some++List.replicate (N.length - ds.length) none) (L2.start N vs):=by
 have hl:=r.length;unfold L2.start;refine ⟨by simp [hl],fun i d e=>?_⟩
 by_cases hi:i < ds.length
 ·rw [List.getElem?_append_left (by simpa using hi),List.getElem?_map] at e;cases q:ds[i]? with
  | none=>rw [q] at e;cases e
  | some d' =>
   rw [q] at e;cases e;obtain ⟨v,e1,r1⟩:=r.get q;exact ⟨v,by rw [List.getElem?_append_left (by simp;omega),List.getElem?_map,e1];rfl,r1⟩
 ·rw [List.getElem?_append_right (by simpa using hi),List.getElem?_replicate] at e;split at e <;> cases e
noncomputable def kJ (st:Stmt) (a y:Str):Prop:=∃ p1 p2 p3 rpos cpos lps body lsc lpos,Br st=[.Return (some (.Call (.Name y p1) [.Name a p2,.Name a p3,.Lambda lps body lsc lpos] [] cpos)) rpos]/\LamT lps body lsc /\
  glB (Ag st) y=true/\(y==("__debug__":Str))=false/\(a==("__debug__":Str))=false/\(a==("__classdict__":Str))=false
theorem Aa5 {P:Program}{w:World}{K:PySem.W.Frag}{mg:Str->Option Value}{base:Heap}{k:Nat}{G:Gb}{st:Stmt}{f:Addr}{fd:FuncData}{N:List Str}{a y:Str}(g:GOk P w K mg base k G) (F:Fun K "pattern_of" "pattern_of" st f fd)
  (hn:PySem.W.nsIn K mainGlobals "pattern_of"=some (some (.ref f))) (S:FnScope N [a] (Ag st)) (L:kJ st a y):FnOk P w K mg base CX0 (k+3) f fd [a] (spD K 1 (lamF G y)):=by
 obtain ⟨⟨oc,od,kV,doc,pm,an,cdv,ct,osl,rfl,lk,hcd⟩,kp⟩:=F;obtain ⟨p1,p2,p3,rpos,cpos,lps,body,lsc,lpos,hb,LT,hy,hyd,ha1,ha2⟩:=L;refine wM lk hcd S (fun vs H Q E h=>h.1) fun A outer s H vs Q E hr h=>?_
 obtain ⟨hl,ρ,mh,ds,d,mh',q,rs,r,co⟩:=h;unfold lamF at q;split at q
 ·rename_i d0 ps gf h0 hg;obtain ⟨fa,fdz,g1,g2,g3,g4,g5⟩:=g.fn _ _ _ hg;have hN:N[0]?=some a:=by
   have:=S.pre
   match N,this with
   | n::r,z=>simp at z;rw [z];rfl
  have va:Vis (Ag st) a:=(S.par a (by simp)).elim .inl fun h=>.inr (.inl h)
  have dl:DE (Jz CX0 P w K mg base N "pattern_of" (Ag st) f cdv A outer s H E) (.Lambda lps body lsc lpos) Aa4:=fun loc mh=>by
   unfold Aa4;split
   ·rename_i h0;exact Aa3 LT rfl ⟨f,_,_,hn,lk,rfl,rfl⟩ h0
   ·exact Bl
  have dv:∀ p,DE (Jz CX0 P w K mg base N "pattern_of" (Ag st) f cdv A outer s H E) (.Name a p) _:=fun p=>gC (i:=0) hN va ha1 ha2
  have dc:=Zk (p:=p1) (pos:=cpos) g4 hr (jY hy) g1 g2 g3 Oo (Nt (dv p2) (Nt (dv p3) (Nt dl gH rfl) rfl) rfl) g5 hyd rfl rfl;refine ⟨_,by rw [hb];exact U4 (gW (pos:=rpos) dc) Zj,?_⟩;refine ⟨_,mh,ρ,.rt d,[d0].map some++List.replicate (N.length - [d0].length) none,mh',?_,Ig r,rs,co⟩;cases N with
  | nil=>cases hN
  | cons n r =>
   simp [Ab,retS,DM.bnd,Aa,Zr,Zl,Aa4,h0,q]
 ·cases q
theorem Iw {X:Cx}{st:Stmt}{g:GM}:DS X st (Az Zb g):=fun _ _ _ _ _ _ h=>by obtain ⟨_,_,_,_,_,_,e,_⟩:=h;cases e
theorem Xy {G:Gb}{X:Cx}{k:Nat}{sc:SC}(O:XOk X k G sc) (n:Nat) {y:Str}{py vp spos:Pos}{elt:Expr}{gens:List Comprehension}{scope:Scope}{ws:List Nat}{gy:GM}(hgy:iG sc (.Name y py)=some (ws,gy)) :
  DS X (.Assign [.Name y py] (.ListComp elt gens scope vp) spos) (Az (iE G n sc (.ListComp elt gens scope vp)) gy):=by
 have hg:=O.target hgy;have sw:swapsWith (.ListComp elt gens scope vp) (some (.Name y py)) spos.line X.env=pure (X.env.blockKind==.function&&X.env.kindOf y==some .local&&py.line==vp.line&&!(scope.names.any fun (n,k)=>n==y&&(k==.local || k==.cell))):=rfl;cases hb:(X.env.blockKind==.function&&X.env.kindOf y==some .local&&py.line==vp.line&&!(scope.names.any fun (n,k)=>n==y&&(k==.local || k==.cell))) with
 | false =>
  rw [hb] at sw;exact Xb ((snd G n).e O _) hg sw rfl rfl
 | true =>
  rw [hb] at sw;cases n with
  | zero=>exact Iw
  | succ n =>
   show DS X _ (Az (iEb (iE G n) (iT G n) (iA G n) (iF G n) (iI G n) G sc _) gy)
   match gens with
   | []=>exact Iw
   | ⟨_,_,_,_⟩::_::_=>exact Iw
   | [⟨tg,iter,ifs,kk⟩] =>
    delta iEb
    dsimp only;split
    ·rename_i h;simp only [Bool.and_eq_true] at h;obtain ⟨⟨h1,h2⟩,h3⟩:=h;have e:=eq_of_beq h1;subst e;split
     ·rename_i ws g eg;split
      ·rename_i hw;refine Xc (N':=Dp scope) O.calm (Ly O h2) (Vs O scope) (fun i hi j q=>?_) ((snd G n).i O tg iter) (fun p C c s h f=>(O.comp h2 p C c s h f).target eg) (fun p C c s h f=>(snd G n).f (O.comp h2 p C c s h f) ifs) (fun p C c s h f=>(snd G n).e (O.comp h2 p C c s h f) elt) hg sw (Xu (by simpa using h3));have z:=List.all_eq_true.mp hw i hi;rw [q] at z;cases z
      ·exact Iw
     ·exact Iw
    ·exact Iw
theorem Vv {v tg:Expr}{line:Nat}{env:Env}(h:Iv v=false):swapsWithSole [tg] v line env=pure false:=by
 show swapsWith v (some tg) line env=pure false;cases v <;> first | rfl | cases h
theorem cO {v:Expr}{line:Nat}{env:Env}(h:Iv v=false):swapsWith v none line env=pure false:=by
 cases v <;> first | rfl | cases h
theorem Mz {v tg:Expr}{env:Env}(h:(Ey tg&&Ey v)=false) (hl:∀ es p,tg≠.List es p):swappedStores [tg] v env=pure none:=by
 cases tg with
 | Tuple ts kk p =>
  cases v with
  | Tuple vs k2 p2=>cases h
  | _=>rfl
 | List es p=>exact (hl es p rfl).elim
 | _=>first | rfl | (cases v <;> rfl)
theorem Aa6 {x y:Str}{a b:Expr}{px py pt pt2:Pos}{kt k2:Nat}{env:Env}(hb:(env.blockKind==.function)=true) (hx:(env.kindOf x==some .local)=true) (hy:(env.kindOf y==some .local)=true) (hl:(py.line==px.line)=true) (hne:(x==y)=false) (sa:isStar a=false) (sb:isStar b=false)
  (hf:[a,b].all (foldedForSure 8)=false) (hc:[a,b].all (constantsAlone 8)=false):swappedStores [.Tuple [.Name x px,.Name y py] kt pt] (.Tuple [a,b] k2 pt2) env=pure (some [x,y]):=by
 have he:([x,y].eraseDups.length != [x,y].length)=false:=by
  have:(y==x)=false:=by
   cases q:(y==x) with
   | false=>rfl
   | true=>rw [eq_of_beq q] at hne;simp at hne
  simp [List.eraseDups_cons,this,hne]
 have hbk:(env.blockKind != .function)=false:=by rw [bne,hb];rfl
 have e1:(Option.map (fun e:Expr=>e.pos.line) [Expr.Name x px,Expr.Name y py].head?).getD 0=px.line:=rfl;unfold swappedStores;dsimp only;refine (if_neg ?_).trans ?_
 ·simp [hbk]
 refine (if_neg ?_).trans ?_
 ·simp only [List.any_cons,List.any_nil,Bool.or_false];rw [Bool.not_eq_true,Bool.or_eq_false_iff];constructor
  ·cases a <;> first | rfl | cases sa
  ·cases b <;> first | rfl | cases sb
 simp only [e1,List.filterMap_cons,List.filterMap_nil,hx,hy,hl,beq_self_eq_true,Bool.and_self,if_true];refine (if_neg ?_).trans ?_
 ·rw [he];simp
 rw [if_neg (by rw [hf];simp),if_neg (by rw [hc];simp)]
theorem Aa7 {X:Cx}{i j:Nat}{x y:Str}{a b:Expr}{mr:DM (List D)}{px py pt pt2 pos:Pos}{kt k2:Nat}(hc:X.calm=true) (hN:X.N.Nodup) (hi:X.N[i]?=some x) (hj:X.N[j]?=some y) (hij:i≠j) (hx:X.env.scope.names.lookup x=some .local) (hy:X.env.scope.names.lookup y=some .local) (ha:DA X [a,b] mr)
  (hw:swappedStores [.Tuple [.Name x px,.Name y py] kt pt] (.Tuple [a,b] k2 pt2) X.env=pure (some [x,y])):DS X (.Assign [.Tuple [.Name x px,.Name y py] kt pt] (.Tuple [a,b] k2 pt2) pos) (Aa1 mr i j):=by
 rintro pins s σ H N I ⟨loc,mh,ρ,f,loc',mh',e,rl,rs,co⟩;refine yO hc hN hi hj hij hx hy (ha loc mh) hw rfl pins s σ H N I ?_;unfold Aa1 at e;split at e
 ·rename_i d1 d2 h1 er;cases e;refine ⟨ρ,[d1,d2],mh',er,rl,rs,fun H' ρ' vs e' rs' r'=>?_⟩;cases r' with
  | cons r1 r' =>
   cases r' with
   | cons r2 r' =>
    cases r';exact ⟨_,_,rfl,co H' ρ' _ e' rs' (((rl.mono e').set r1).set r2)⟩
 ·cases e
theorem Ae7 (G:Gb) (n:Nat) (ihss:∀ {X:Cx}{k:Nat}{sc:SC},XOk X k G sc->∀ ss,DSs X ss (iSs G n sc ss)) {X:Cx}{k:Nat}{sc:SC}(O:XOk X k G sc) (s:Stmt):DS X s (iSb n (iSs G n) G sc s):=by
 have S:=snd G n;cases s with
 | Expr e p =>
  delta iSb
  dsimp only;split
  ·exact Dt
  ·rename_i h;exact tH (S.e O _) (cO (by simpa using h))
 | Pass _=>exact tB
 | Break _=>exact gU
 | Continue _=>exact U5
 | Return e _ =>
  cases e with
  | some e=>exact gW (S.e O _)
  | none=>exact tE
 | Assign ts v p =>
  cases ts with
  | nil=>exact Dt
  | cons tg r =>
   cases r with
   | cons _ _=>exact Dt
   | nil =>
    have gen:DS X (.Assign [tg] v p) (if Iv v || (Ey tg&&Ey v) then SM.bad else (match iGt G n sc tg with | some g=>Az (iE G n sc v) g | none=>SM.bad)):=by
     split
     ·exact Dt
     ·rename_i h;have h:Iv v=false/\(Ey tg&&Ey v)=false:=by
       rw [Bool.not_eq_true,Bool.or_eq_false_iff] at h;exact h
      split
      ·rename_i g eg;have gen:(match iG sc tg with | some (_,g)=>some g | none=>none)=some g->DS X (.Assign [tg] v p) (Az (iE G n sc v) g):=fun eg=>by
        split at eg
        ·rename_i ws g' eg';cases eg;refine Xb (S.e O _) (O.target eg') (Vv h.1) (Mz h.2 (fun es p z=>by subst z;simp [iG] at eg')) ?_;cases tg <;> first | rfl | (simp [iG] at eg')
        ·cases eg
       cases tg with
       | Subscript o i p' =>
        simp only [iGt] at eg;split at eg
        ·cases eg
        ·rename_i hs;cases eg;have hs:isSlice i=false:=by simpa using hs
         refine Xb (S.e O _) (Aam (S.e O _) (S.e O _) ?_) (Vv h.1) (Mz h.2 (fun _ _ z=>by cases z)) rfl;intro v';cases i <;> first | rfl | cases hs
       | _=>exact gen eg
      ·exact Dt
    cases tg with
    | Name y py =>
     cases v with
     | ListComp elt gens scope vp =>
      delta iSb
      dsimp only
      delta Aa2
      dsimp only;split
      ·rename_i ws g eg;exact Xy O n eg
      ·exact Dt
     | _=>exact gen
    | Tuple tl kt pt =>
     cases tl with
     | nil=>exact gen
     | cons t1 tl =>
      cases t1 with
      | Name x px =>
       cases tl with
       | nil=>exact gen
       | cons t2 tl =>
        cases t2 with
        | Name y py =>
         cases tl with
         | cons _ _=>exact gen
         | nil =>
          cases v with
          | Tuple vl k2 pt2 =>
           cases vl with
           | nil=>exact gen
           | cons a vl =>
            cases vl with
            | nil=>exact gen
            | cons b vl =>
             cases vl with
             | cons _ _=>exact gen
             | nil =>
              delta iSb
              dsimp only
              delta Aa2
              dsimp only;split
              ·rename_i h;unfold Ae0 at h;simp only [Bool.and_eq_true,Bool.not_eq_true'] at h;obtain ⟨⟨⟨⟨⟨⟨⟨⟨h1,h2⟩,h3⟩,h4⟩,h5⟩,h6⟩,h7⟩,h8⟩,h9⟩:=h;split
               ·rename_i i j ei ej;have hi:=Ei ei;have hj:=Ei ej;refine Aa7 O.calm (by rw [O.N];exact O.nd) (by rw [O.N];exact hi) (by rw [O.N];exact hj) (fun z=>?_) (by rw [O.sco];exact eq_of_beq h2) (by rw [O.sco];exact eq_of_beq h3) (S.a O _) (Aa6 ?_ ?_ ?_ h4 h5 h6 h7 h8 h9)
                ·subst z;rw [hi] at hj;cases hj;simp at h5
                ·unfold Env.blockKind;rw [O.sco];exact h1
                ·unfold Env.kindOf;rw [O.sco];exact h2
                ·unfold Env.kindOf;rw [O.sco];exact h3
               ·exact Dt
              ·exact Dt
          | _=>exact gen
        | _=>exact gen
      | _=>exact gen
    | _=>exact gen
 | If c a b _=>exact Aeu (S.t O _) (ihss O _) (ihss O _)
 | While c body els _ =>
  cases els with
  | cons _ _=>exact Dt
  | nil =>
   refine gZ ?_ (S.t O _) (ihss O _);rw [O.xe];exact PassesOwn.never
 | For tg it body els _ =>
  cases els with
  | cons _ _=>exact Dt
  | nil =>
   delta iSb
   dsimp only;split
   ·exact Dt
   ·rename_i h;split
    ·rename_i ws g eg;refine Aan ?_ O.calm (S.i O _ _) (O.target eg) (ihss O _) (Xu (by simpa using h));rw [O.xe];exact PassesOwn.never
    ·exact Dt
 | _=>exact Dt
theorem uN (G:Gb) (n:Nat):(∀ {X:Cx}{k:Nat}{sc:SC},XOk X k G sc->∀ s,DS X s (iS G n sc s))/\(∀ {X:Cx}{k:Nat}{sc:SC},XOk X k G sc->∀ ss,DSs X ss (iSs G n sc ss)):=by
 induction n with
 | zero=>exact ⟨fun _ _=>Dt,fun _ _ _ _ _ _ _ _ h=>by obtain ⟨_,_,_,_,_,_,e,_⟩:=h;cases e⟩
 | succ n ih =>
  refine ⟨fun {X k sc} O s=>Ae7 G n (fun O ss=>ih.2 O ss) O s,fun {X k sc} O ss=>?_⟩;cases ss with
  | nil=>exact Zj
  | cons s r=>exact U4 (ih.1 O s) (ih.2 O r)
theorem wY {P:Program}{w:World}{K:PySem.W.Frag}{mg:Str->Option Value}{base:Heap}{k:Nat}{G:Gb}{x qual:Str}{st:Stmt}{f:Addr}{fd:FuncData}{I:FnI}(g:GOk P w K mg base k G) (F:Fun K x qual st f fd) (S:FnScope I.N I.ps (Ag st))
  (hs:I.scope=Ag st) (hb:I.body=Br st) (n:Nat):FnOk P w K mg base CX0 (k+3) f fd I.ps (spD K I.ps.length (Ac G n I)):=by
 refine F.ok S (fun vs H Q E h=>h.1) fun cdv A outer s H vs Q E hr h=>?_
 obtain ⟨hl,ρ,mh,ds,d,mh',q,rs,r,co⟩:=h;refine ⟨_,(uN G n).2 (sc:={ N:=I.N,scope:=I.scope,own:=fun _=>true }) ⟨rfl,S.nd,hs.symm,fun _ _ _=>.inl rfl,rfl,rfl,hr,g⟩ (Br st),?_⟩;unfold Ac at q;split at q
 ·split at q
  ·rename_i d' loc' m' e;cases q;exact ⟨_,mh,ρ,.rt d,loc',mh',by rw [← hb];exact e,Ig r,rs,co⟩
  ·rename_i loc' m' e;cases q;exact ⟨_,mh,ρ,.nx,loc',mh',by rw [← hb];exact e,Ig r,rs,fun H' ρ' σ' e' rs' _=>co H' ρ' _ e' rs' .non⟩
  ·cases q
 ·cases q
theorem Vw {G:Gb}{n:Nat}{I:FnI}{ds:List D}{mh:MH}{r:D×MH}(h:Ac G n I ds mh=some r):ds.length=I.ps.length:=by
 unfold Ac at h;split at h
 ·assumption
 ·cases h
noncomputable def Z1 (P:Program) (w:World) (K:PySem.W.Frag) (mg:Str->Option Value) (base:Heap) (I:CloI) (qual:Str) (f:Addr) (cd:Value) (cl:List (Str×Addr)) (A:Around) (outer:List Env) (s:Shared) (H:Hp):Cx where
 prog:=P
 w:=w
 K:=K
 mg:=mg
 base:=base
 A:=A.deeper (PySem.W.envX qual I.scope s.heap.objs.size f cd cl)
 N:=I.N++I.fr
 s₀:=s
 H₀:=H
 env:=PySem.W.envX qual I.scope s.heap.objs.size f cd cl
 outer:=outer
 stack:=PySem.W.envX qual I.scope s.heap.objs.size f cd cl::outer
 ex:=[]
 calm:=true
 fn:=fun y=>!(I.fr.contains y)
 pn:=[]
 xe:=fun _ _=>False
theorem Cw.get {H:Hp}:∀ {cs:List Addr}{vs:List V}{i:Nat}{c:Addr},Cw H cs vs->cs[i]?=some c->∃ v oc u w,vs[i]?=some v/\H c=some (.frz oc u)/\oc.data=.cell (some w)/\RelV v w
 | [],[],i,c,_,e=>by simp at e
 | _::_,_::_,0,c,⟨⟨oc,u,w,h1,h2,h3⟩,_⟩,e=>by simp at e;subst e;exact ⟨_,oc,u,w,rfl,h1,h2,h3⟩
 | _::_,_::_,i+1,c,⟨_,t⟩,e=>by
  obtain ⟨v,oc,u,w,h0,h1,h2,h3⟩:=Cw.get (i:=i) t (by simpa using e);exact ⟨v,oc,u,w,by simpa using h0,h1,h2,h3⟩
theorem Cw.len {H:Hp}:∀ {cs:List Addr}{vs:List V},Cw H cs vs->cs.length=vs.length
 | [],[],_=>rfl
 | _::_,_::_,⟨_,t⟩=>by rw [List.length_cons,List.length_cons,Cw.len t]
theorem cP {α:Type}:∀ {cl:List (Str×α)}{i:Nat}{x:Str}{c:α},(cl.map (·.1)).Nodup->cl[i]?=some (x,c)->cl.lookup x=some c:=fun {cl i x c} nd e=>Cp nd (List.mem_of_getElem? e)
theorem Xz {α:Type}{cl:List (Str×α)}{x:Str}{c:α}(e:cl.lookup x=some c):∃ i:Nat,cl[i]?=some (x,c):=by
 obtain ⟨i,hi,e2⟩:=List.getElem_of_mem (PySem.mem_of_lookup e);exact ⟨i,by rw [List.getElem?_eq_getElem hi,e2]⟩
theorem X3 {us:List Value}:∀ {ps:List Str}{i:Nat}{x:Str}{u:Value},ps.Nodup->ps[i]?=some x->us[i]?=some u->(ps.zip us).reverse.lookup x=some u:=fun {ps i x u} nd h1 h2=>by
 refine Cp ?_ (List.mem_reverse.mpr (List.mem_of_getElem? (i:=i) ?_))
 ·rw [List.map_reverse];have h:((ps.zip us).map (·.1)).Nodup:=by
   refine List.Nodup.sublist ?_ nd
   clear h1 h2 nd
   induction ps generalizing us with
   | nil=>simp
   | cons p ps ih =>
    cases us with
    | nil=>simp
    | cons u us=>exact (ih (us:=us)).cons_cons p
  exact List.pairwise_reverse.mpr (h.imp fun z=>Ne.symm z)
 ·rw [List.getElem?_zip_eq_some];exact ⟨h1,h2⟩
section
variable {P:Program}{w:World}{K:PySem.W.Frag}{mg:Str->Option Value}{base:Heap}{k:Nat}{G:Gb}
theorem cQ {I:CloI}{qual:Str}{f:Addr}{cd:Value}{cl:List (Str×Addr)}{A:Around}{outer:List Env}{s:Shared}{H:Hp}{us:List Value}{vs xs:List V}{h₁:Heap}{tk:Nat}
  (S:CloSc I) (hn:cl.map (·.1)=I.fr) (hnd:(cl.map (·.2)).Nodup) (hc:Cw H (cl.map (·.2)) xs) (hd:A.handled=none) (e0:Env0 P w K mg base A outer s H) (hl:vs.length=I.ps.length) (r:Vals vs us)
  (hns:h₁.Ns s.heap.objs.size (fun x=>(I.ps.zip us).reverse.lookup x)) (hk:∀ b o,s.heap.get? b=some o->h₁.get? b=some o) :
  Inv (Z1 P w K mg base I qual f cd cl A outer s H) [] (vs.map some++List.replicate (I.N.length - vs.length) none++xs.map some) H { s with heap:=h₁,toks:=tk }:=by
 have noA:∀ b:Addr,b ∉ ([]:List Addr):=fun b z=>absurd z (by simp)
 have ndF:(cl.map (·.1)).Nodup:=by rw [hn];exact (List.nodup_append.mp S.nd).2.1
 have ndN:=(List.nodup_append.mp S.nd).1;have hpl:I.ps.length<=I.N.length:=by have:=congrArg List.length S.pre;rw [List.length_take] at this;omega
 have at_:∀ x c,cl.lookup x=some c->∃ i v oc u wv,cl[i]?=some (x,c)/\xs[i]?=some v/\H c=some (.frz oc u)/\oc.data=.cell (some wv)/\RelV v wv:=fun x c e=>by
  obtain ⟨i,ei⟩:=Xz e;obtain ⟨v,oc,u,wv,h0,h1,h2,h3⟩:=hc.get (i:=i) (c:=c) (by rw [List.getElem?_map,ei];rfl);exact ⟨i,v,oc,u,wv,ei,h0,h1,h2,h3⟩
 have cellAt:∀ {c:Addr} {oc:Obj} {u:HO} {wv:Value},H c=some (.frz oc u)->oc.data=.cell (some wv)->h₁.IsCell c (some wv):=fun h1 h2=>⟨_,hk _ _ (e0.hok _ _ h1).1,h2⟩
 have frN:∀ x c,cl.lookup x=some c->x∈I.fr:=fun x c e=>by
  rw [← hn];exact List.mem_map.mpr ⟨(x,c),PySem.mem_of_lookup e,rfl⟩
 have fnF:∀ x,x∈I.fr->(Z1 P w K mg base I qual f cd cl A outer s H).fn x=false:=fun x hx=>by
  show (!(I.fr.contains x))=false;rw [List.contains_iff_mem.mpr hx];rfl
 refine ⟨⟨e0.mod,S.kind,rfl,rfl,Nat.le_refl _,fun y z c h1 h2=>?_,fun y hy=>?_,fun y c h1 h2=>?_,fun _=>hd,Around.frames_deeper e0.frames,.inr ⟨rfl,rfl⟩,fun b z=>absurd z (noA b),e0.bs,e0.bsz,fun b _ _=>noA b,fun b z=>absurd z (noA b),e0.funs,e0.frf⟩,
  rfl,e0.bare,Un.kept hk,⟨_,hns,fun i y v h1 h2 h3=>?_⟩,fun y c h=>?_,e0.hok.fresh (Nat.le_refl _),fun y c h=>?_,fun p hp=>absurd (show p∈([]:List (Addr×Obj)) from hp) (by simp),e0.hok.kept hk,?_⟩
 ·have h1:cl.lookup y=some c:=h1;have h2:cl.lookup z=some c:=h2;obtain ⟨i,ei⟩:=Xz h1;obtain ⟨j,ej⟩:=Xz h2;have e1:(cl.map (·.2))[i]?=some c:=by rw [List.getElem?_map,ei];rfl
  have e2:(cl.map (·.2))[j]?=some c:=by rw [List.getElem?_map,ej];rfl
  have:i=j:=(List.getElem?_inj (List.getElem?_eq_some_iff.mp e1).1 hnd).mp (e1.trans e2.symm);subst this;rw [ei] at ej;cases ej;rfl
 ·have hy:I.scope.names.lookup y=some .cell\/I.scope.names.lookup y=some .free:=hy;rcases hy with hy|hy
  ·exact absurd rfl (S.nocell _ (PySem.mem_of_lookup hy))
  ·have:=S.free y hy;rw [← hn] at this;obtain ⟨⟨a,c⟩,hm,rfl⟩:=List.mem_map.mp this;exact ⟨c,Cp ndF hm⟩
 ·rw [fnF y (frN y c h2)] at h1;cases h1
 ·have h1:(I.N++I.fr)[i]?=some y:=h1;have lm:(vs.map some++List.replicate (I.N.length - vs.length) none:List (Option V)).length=I.N.length:=by
   rw [List.length_append,List.length_map,List.length_replicate];omega
  by_cases hi:i < I.N.length
  ·rw [List.getElem?_append_left hi] at h1;rw [List.getElem?_append_left (by rw [lm];exact hi)] at h2
   by_cases hv:i < vs.length
   ·rw [List.getElem?_append_left (by simpa using hv),List.getElem?_map] at h2;have ha:vs[i]?=some v:=by
     cases e:vs[i]? with
     | none=>rw [e] at h2;cases h2
     | some a=>rw [e] at h2;cases h2;rfl
    obtain ⟨u,hu,rv⟩:=r.get ha;have hp:I.ps[i]?=some y:=by
     rw [← S.pre,List.getElem?_take_of_lt (by omega)];exact h1
    have ndP:I.ps.Nodup:=by rw [← S.pre];exact ndN.sublist (List.take_sublist _ _)
    exact ⟨u,rv,.inl ⟨S.par y (List.mem_of_getElem? hp),X3 ndP hp hu⟩⟩
   ·rw [List.getElem?_append_right (by simpa using hv),List.getElem?_replicate] at h2;split at h2 <;> cases h2
  ·rw [List.getElem?_append_right (by omega)] at h1;rw [List.getElem?_append_right (by rw [lm];omega),lm,List.getElem?_map] at h2;rw [← hn,List.getElem?_map] at h1;cases ec:cl[i - I.N.length]? with
   | none=>rw [ec] at h1;cases h1
   | some q =>
    obtain ⟨x,c⟩:=q;rw [ec] at h1;cases h1;obtain ⟨v',oc,u,wv,g0,g1,g2,g3⟩:=hc.get (i:=i - I.N.length) (c:=c) (by rw [List.getElem?_map,ec];rfl);rw [g0] at h2;cases h2;refine ⟨wv,g3,.inr ⟨?_,c,cP ndF ec,cellAt g1 g2⟩⟩;rcases h3 with z|z|z
    ·exact .inr (by
      have hf:x∈I.fr:=by rw [← hn];exact List.mem_map.mpr ⟨(x,c),List.mem_of_getElem? ec,rfl⟩
      exact absurd z (fun z=>by
       have:=S.frs x hf;rw [show I.scope.names.lookup x=some .local from z] at this
       cases this))
    ·exact .inl z
    ·exact .inr z
 ·obtain ⟨i,v,oc,u,wv,_,_,h1,h2,_⟩:=at_ y c h;exact ⟨_,cellAt h1 h2⟩
 ·obtain ⟨i,v,oc,u,wv,_,_,h1,h2,_⟩:=at_ y c h;exact .inr ⟨fnF y (frN y c h),oc,u,h1⟩
 ·show _=(I.N++I.fr).length;have h5:=hc.len;have h6:=congrArg List.length hn;rw [List.length_map] at h5 h6;rw [List.length_append,List.length_append,List.length_append,List.length_map,List.length_replicate,List.length_map];omega
theorem Aa8 {I:CloI}{a:Addr}{fd:FuncData}{cl:List (Str×Addr)}(g:GOk P w K mg base k G) (S:CloSc I) (F:Za I fd cl) (n:Nat):FnOk P w K mg base CX0 (k+3) a fd I.ps (spC K a I fd cl (My G n I)):=by
 obtain ⟨name,qual,params,doc,pm,cdv,ctv,rfl,bind⟩:=F;refine ⟨fun vs H Q E h=>h.1,fun A outer s H args us vs Q E hr e0 hb r hsp=>?_⟩;obtain ⟨hl,⟨o,u,ho,hd⟩,⟨c,oc,u2,fs',tq,e1,e2,e3,e4⟩,hn,hnd,xs,hc,ρ,mh,fs,ds,d,mh',q,rs,rf,rd,co⟩:=hsp;have lim:s.heap.NoLimit:=e0.mod.nolimit.keeps fun b o e=>(e0.bs b o e).1
 have ul:us.length=I.ps.length:=by rw [← r.length];exact hl
 refine codeAny_call_def (binds:=I.ps.zip us) hr.depth (e0.hok a _ ho).1 hd lim ⟨c,oc,fs',tq,e1,(e0.hok c _ e2).1,e3,e4⟩ rfl hb S.nocell (fun y hy=>S.par _ (List.of_mem_zip hy).1) (fun h₁ hns hk=>?_) S.co S.gen S.kind;have J:=cQ (cd:=cdv) (f:=a) (qual:=qual) (tk:=s.toks+(I.ps.zip us).length) S hn hnd hc hr.hd e0 hl r hns hk;have O:XOk (Z1 P w K mg base I qual a cdv cl A outer s H) k G { N:=I.N++I.fr,scope:=I.scope,own:=fun y=>!(I.fr.contains y) }:=⟨rfl,S.nd,rfl,fun x hx _=>.inl hx,rfl,rfl,hr.deeper _,g⟩;unfold My at q;split at q
 ·rename_i hds;have lv:ds.length=vs.length:=rd.length;have rl:RL K H ρ (ds.map some++List.replicate (I.N.length - ds.length) none++fs.map some) (vs.map some++List.replicate (I.N.length - vs.length) none++xs.map some):=by
   have lf:=rf.length;refine ⟨by simp [lv,lf],fun i d' e=>?_⟩
   by_cases hi:i < (ds.map some++List.replicate (I.N.length - ds.length) none:List (Option D)).length
   ·rw [List.getElem?_append_left hi] at e;have hi':i < (vs.map some++List.replicate (I.N.length - vs.length) none:List (Option V)).length:=by simp at hi ⊢;omega
    rw [List.getElem?_append_left hi']
    by_cases hv:i < ds.length
    ·rw [List.getElem?_append_left (by simpa using hv),List.getElem?_map] at e;cases q':ds[i]? with
     | none=>rw [q'] at e;cases e
     | some d2 =>
      rw [q'] at e;cases e;obtain ⟨v,e1,r1⟩:=rd.get q';exact ⟨v,by rw [List.getElem?_append_left (by simp;omega),List.getElem?_map,e1];rfl,r1⟩
    ·rw [List.getElem?_append_right (by simpa using hv),List.getElem?_replicate] at e;split at e <;> cases e
   ·have eL:(ds.map some++List.replicate (I.N.length - ds.length) none:List (Option D)).length=(vs.map some++List.replicate (I.N.length - vs.length) none:List (Option V)).length:=by simp [lv]
    rw [List.getElem?_append_right (by omega),List.getElem?_map] at e;rw [List.getElem?_append_right (by omega),← eL];cases q':fs[i - (ds.map some++List.replicate (I.N.length - ds.length) none:List (Option D)).length]? with
    | none=>rw [q'] at e;cases e
    | some d2 =>
     rw [q'] at e;cases e;obtain ⟨v,e1,r1⟩:=rf.get q';exact ⟨v,by rw [List.getElem?_map,e1];rfl,r1⟩
  have T:=(uN G n).2 O I.body;have fin:∀ {σ':L2.St} {H':Hp} {v:V} {u:Value} {s':Shared},Inv (Z1 P w K mg base I qual a cdv cl A outer s H) [] σ' H' s'->RelV v u->Q v H'->CE outer P w H s Q u s':=fun {σ' H' v u s'} J rv q=>⟨v,H',J.os,J.bare,J.base,J.hok,rv,q⟩
  have run:tS K (iSs G n { N:=I.N++I.fr,scope:=I.scope,own:=fun y=>!(I.fr.contains y) } I.body) { nx:=fun _ H'=>Q .non H',rt:=Q } (vs.map some++List.replicate (I.N.length - vs.length) none++xs.map some) H:=by
   split at q
   ·rename_i d' loc' m' e;cases q;exact ⟨_,mh,ρ,.rt d,loc',mh',e,rl,rs,co⟩
   ·rename_i loc' m' e;cases q;exact ⟨_,mh,ρ,.nx,loc',mh',e,rl,rs,fun H' ρ' σ' e' rs' _=>co H' ρ' _ e' rs' .non⟩
   ·cases q
  refine wpAny_mono (T [] _ _ H _ J run) (fun fl s' hs=>?_) fun e s' hs=>False.elim hs
  cases fl with
  | ret u =>
   obtain ⟨v,σ',H',J',rv,q'⟩:=hs;exact fin J' rv q'
  | next =>
   obtain ⟨σ',H',J',q'⟩:=hs;exact fin (v:=V.non) (u:=Value.none) J' rfl q'
  | brk =>
   obtain ⟨_,_,_,q'⟩:=hs;exact False.elim q'
  | cont =>
   obtain ⟨_,_,_,q'⟩:=hs;exact False.elim q'
 ·cases q
theorem cR {n:Nat}{I:CloI}{fs ds:List D}{mh:MH}{r:D×MH}(h:My G n I fs ds mh=some r):ds.length=I.ps.length:=by
 unfold My at h;split at h
 ·assumption
 ·cases h
end
noncomputable abbrev cap (X:Cx) (fr:List Str):Cx:={ X with fn:=fun y=>X.fn y&&!(fr.contains y) }
section
variable {X:Cx}{pins:List (Addr×Obj)}{σ:L2.St}{H:Hp}{s:Shared}{fr:List Str}
theorem Aa9 (ok:X.Ok):(DL.cap X fr).Ok :=
 ⟨ok.mod,ok.kind,ok.glob,ok.blt,ok.above,ok.inj,ok.has,fun x c h=>ok.cab x c (by
  have h:(X.fn x&&!(fr.contains x))=true:=h;rw [Bool.and_eq_true] at h
  exact h.1),ok.hd,ok.frames,ok.stk,ok.exf,ok.bs,ok.bsz,ok.noex,ok.exfs,ok.funs,ok.frf⟩
theorem uO (I:Inv X pins σ H s):Inv (DL.cap X fr) pins σ H s :=
 ⟨Aa9 I.ok,I.os,I.bare,I.base,I.loc,I.cell,I.free,fun x c h=>(I.freeC x c h).imp id fun ⟨a,b⟩=>⟨by show (X.fn x&&!(fr.contains x))=false;rw [a];rfl,b⟩,I.pin,I.hok,I.len⟩
theorem X4 (I:Inv X pins σ H s) {x:Str}{c:Addr}(hc:X.env.cells.lookup x=some c) (hf:X.fn x=false) (ha:X.s₀.heap.objs.size<=c) :
  ∃ H' oc u,Inv X pins σ H' s/\H' c=some (.frz oc u)/\s.heap.get? c=some oc/\((H'=H)\/(H c=none/\H'=upd H c (.frz oc u))):=by
 rcases I.freeC x c hc with fc|⟨_,oc,u,fz⟩
 rotate_left
 ·exact ⟨H,oc,u,I,fz,(I.hok c _ fz).1,.inl rfl⟩
 ·obtain ⟨v,oc,ho,hd⟩:=I.cell x c hc;refine ⟨upd H c (.frz oc uT),oc,uT,?_,Bb,ho,.inr ⟨fc,rfl⟩⟩;have ne:∀ {b:Addr} {o:HO},H b=some o->upd H c (.frz oc uT) b=some o:=fun {b o} e=>by rw [Af (Al e fc)];exact e
  have ne0:∀ b o,X.s₀.heap.get? b=some o->b≠c:=fun b o e=>Nat.ne_of_lt (Nat.lt_of_lt_of_le (Heap.lt_size e) ha)
  refine ⟨I.ok,I.os,I.bare,⟨I.base.keep,I.base.slot,fun b o e n hx=>?_,I.base.there,fun b xs e=>ne (I.base.tups b xs e),fun b o u e=>ne (I.base.frzs b o u e),fun b ps e=>?_⟩,I.loc,I.cell,?_,fun y c' e=>?_,fun p hp=>?_,fun b ob e=>?_,I.len⟩
  ·rw [Af (ne0 b o e)];exact I.base.free b o e n hx
  ·obtain ⟨more,q⟩:=I.base.tbls b ps e;exact ⟨more,ne q⟩
  ·rw [Af (Ne.symm (I.cne x c hc))];exact I.free
  ·by_cases z:c'=c
   ·subst z;have:=I.ok.inj y x c' e hc;subst this;exact .inr ⟨hf,oc,uT,Bb⟩
   ·rw [Af z];exact I.freeC y c' e
  ·obtain ⟨e,n,e3,e4,e5⟩:=I.pin p hp;have:p.1≠c:=fun z=>by
    rw [z,ho] at e;cases e;exact e5 _ hd
   exact ⟨e,by rw [Af this];exact n,e3,e4,e5⟩
  ·by_cases z:b=c
   ·subst z;rw [Bb] at e;cases e;exact ⟨ho,trivial,⟨_,ho⟩,fun _ _ _ _=>trivial⟩
   ·rw [Af z] at e;exact (I.hok b ob e).stay (fun _ _ _ q=>q) (fun _ q=>ne q) fun _ _ q=>ne q
theorem M4 {K:PySem.W.Frag}{ρ:List Addr}{mh:MH}:∀ (L:List (Str×Addr)) {vs:List V}{H:Hp},Inv X pins σ H s->RS K H ρ mh->(∀ q∈L,X.env.cells.lookup q.1=some q.2/\X.fn q.1=false/\X.s₀.heap.objs.size<=q.2)->L.length=vs.length->(∀ (i:Nat) (q:Str×Addr) (v:V),L[i]?=some q->vs[i]?=some v->∃ u,RelV v u/\s.heap.IsCell q.2 (some u)) ->
  ∃ H',Inv X pins σ H' s/\Ev K H ρ H' ρ/\RS K H' ρ mh/\Cw H' (L.map (·.2)) vs
 | [],[],H,I,rs,_,_,_=>⟨H,I,Ev.refl,rs,trivial⟩
 | [],_::_,_,_,_,_,hl,_=>by simp at hl
 | _::_,[],_,_,_,_,hl,_=>by simp at hl
 | q::L,v::vs,H,I,rs,hq,hl,hv=>by
  obtain ⟨h1,h2,h3⟩:=hq q List.mem_cons_self;obtain ⟨H1,oc,u,I1,f1,g1,hor⟩:=X4 I h1 h2 h3;have ev1:Ev K H ρ H1 ρ/\RS K H1 ρ mh:=by
   rcases hor with rfl|⟨n,rfl⟩
   ·exact ⟨Ev.refl,rs⟩
   ·exact ⟨Ev.new n,rs.new n⟩
  obtain ⟨H2,I2,ev2,rs2,cs⟩:=M4 L I1 ev1.2 (fun q hq'=>hq q (List.mem_cons_of_mem _ hq')) (by simpa using hl) fun i q v e1 e2=>hv (i+1) q v (by simpa using e1) (by simpa using e2)
  obtain ⟨w,rw_,o,ho,hd⟩:=hv 0 q v rfl rfl;rw [g1] at ho;cases ho;exact ⟨H2,I2,ev1.1.trans ev2,rs2,⟨oc,u,w,ev2.frz _ _ _ f1,hd,rw_⟩,cs⟩
end
noncomputable def uP (names:List (Str×NameKind)):List Str:=names.foldl (fun c x=>if x.2==.free then x.1::c else c) []
theorem M5 (env:Env) (names:List (Str×NameKind)):(Dd env names).map (·.1)=uP names:=by
 have go:∀ (names:List (Str×NameKind)) (acc:List (Str×Addr)) (acc':List Str),acc.map (·.1)=acc'->(names.foldl (fun c x=>Hy env x c) acc).map (·.1)=names.foldl (fun c x=>if x.2==.free then x.1::c else c) acc':=by
  intro names
  induction names with
  | nil=>exact fun _ _ h=>h
  | cons x r ih =>
   intro acc acc' h;refine ih _ _ ?_;show List.map (·.1) (Hy env x acc)=(if (x.2==.free)=true then x.1::acc' else acc');unfold Hy;split
   ·rw [List.map_cons,h]
   ·exact h
 exact go names [] [] rfl
structure MakDef (I:FnI) (m:MakI) (st:Stmt):Prop where
 ex:∃ params pos,Br st=m.pre++.FunctionDef "_law_pick" params m.ci.body [] none [] m.ci.scope none "_law_pick" pos::m.post/\params.defaults=[]/\params.kw_defaults=[]/\(∀ env,annTrees params none env=[]) /\
  ∀ name qual cl doc pm cdv ctv (us:List Value),us.length=m.ci.ps.length->bindArgs (PySem.W.fnX name qual params m.ci.body m.ci.scope cl .none .none doc pm none cdv ctv) ⟨us,[]⟩=pure (m.ci.ps.zip us)
 sc:CloSc m.ci
 fr:m.ci.fr=uP m.ci.scope.names
 cel:∀ x∈m.ci.fr,(Ag st).names.lookup x=some .cell
 nm:I.N[m.i]?=some ("_law_pick":Str)
 lc:(Ag st).names.lookup ("_law_pick":Str)=some .local
 js:m.js.length=m.ci.fr.length
 at_:∀ (t j:Nat) (x:Str),m.js[t]?=some j->m.ci.fr[t]?=some x->I.N[j]?=some x
theorem Pn {loc:DL.Loc}:∀ {js:List Nat}{ds:List D},J7 loc js=some ds->ds.length=js.length/\∀ (t j:Nat) (d:D),js[t]?=some j->ds[t]?=some d->loc[j]?=some (some d)
 | [],ds,h=>by cases h;exact ⟨rfl,fun t j d e=>by simp at e⟩
 | j::r,ds,h=>by
  unfold J7 at h;split at h
  ·rename_i d ed;split at h
   ·rename_i ds' er;cases h;obtain ⟨h1,h2⟩:=Pn er;refine ⟨by rw [List.length_cons,List.length_cons,h1],fun t j' d' e1 e2=>?_⟩;cases t with
    | zero=>cases e1;cases e2;exact ed
    | succ t=>exact h2 t j' d' (by simpa using e1) (by simpa using e2)
   ·cases h
  ·cases h
theorem kO {K:PySem.W.Frag}{H:Hp}{ρ:List Addr}{loc:DL.Loc}{σ:L2.St}(rl:RL K H ρ loc σ):∀ {js:List Nat}{ds:List D},J7 loc js=some ds->∃ vs,RDs K H ρ ds vs/\∀ (t j:Nat) (v:V),js[t]?=some j->vs[t]?=some v->σ[j]?=some (some v)
 | [],ds,h=>by cases h;exact ⟨[],.nil,fun t j v e=>by simp at e⟩
 | j::r,ds,h=>by
  unfold J7 at h;split at h
  ·rename_i d ed;split at h
   ·rename_i ds' er;cases h;obtain ⟨vs,r1,r2⟩:=kO rl er;obtain ⟨v,e1,rd⟩:=rl.2 j d ed;refine ⟨v::vs,.cons rd r1,fun t j' v' q1 q2=>?_⟩;cases t with
    | zero=>cases q1;cases q2;exact e1
    | succ t=>exact r2 t j' v' (by simpa using q1) (by simpa using q2)
   ·cases h
  ·cases h
section
variable {X:Cx}
theorem Aba {x:Str}{I:FnI}{m:MakI}{st:Stmt}{params:Arguments}{pos:Pos}(M:MakDef I m st)
  (hd0:params.defaults=[]) (hk0:params.kw_defaults=[]) (ha:∀ env,annTrees params none env=[])
  (hb:∀ name qual cl doc pm cdv ctv (us:List Value),us.length=m.ci.ps.length->bindArgs (PySem.W.fnX name qual params m.ci.body m.ci.scope cl .none .none doc pm none cdv ctv) ⟨us,[]⟩=pure (m.ci.ps.zip us))
  (hN:X.N=I.N) (hnd:X.N.Nodup) (hsc:X.env.scope=Ag st) (hq:X.env.qual=x ++ ".<locals>.") (hcab:∀ y c,y∈m.ci.fr->X.env.cells.lookup y=some c->X.s₀.heap.objs.size<=c)
  (hX:∃ (f:Addr) (o:Obj) (fd:FuncData),PySem.W.nsIn X.K mainGlobals x=some (some (.ref f))/\X.K.lookup f=some o/\o.data=.func fd/\X.env.code=fd.code) :
  DS (cap X m.ci.fr) (.FunctionDef "_law_pick" params m.ci.body [] none [] m.ci.scope none "_law_pick" pos) (cM x m):=by
 rintro pins s σ H D I0 ⟨loc,mh,ρ,fl,loc',mh',q,rl,rs,co⟩;unfold cM at q;split at q
 rotate_left
 ·cases q
 rename_i y h0;split at q
 rotate_left
 ·cases q
 rename_i hy;have hy:=eq_of_beq hy;subst hy;split at q
 rotate_left
 ·cases q
 rename_i ds el;cases q;obtain ⟨vs,rvs,hvs⟩:=kO rl el;obtain ⟨ld,_⟩:=Pn el;have lv:vs.length=m.ci.fr.length:=by rw [← rvs.length,ld,M.js]
 have hfr:∀ z∈m.ci.scope.names,z.2=.free->∃ c,X.env.cells.lookup z.1=some c:=fun z hz e=>by
  have hz':(z.1,NameKind.free)∈m.ci.scope.names:=by rw [← e];exact hz
  have:z.1∈m.ci.fr:=by
   rw [M.fr,← M5 X.env];exact List.mem_map.mpr ⟨_,PySem.mem_of_lookup (Li hz'),rfl⟩
  exact I0.ok.has z.1 (.inl (by show X.env.scope.names.lookup z.1=some .cell;rw [hsc];exact M.cel z.1 this))
 have hcl:closureFor m.ci.scope X.env=pure (Dd X.env m.ci.scope.names):=Gq hfr;have hcn:(Dd X.env m.ci.scope.names).map (·.1)=m.ci.fr:=by rw [M5,M.fr]
 have hce:∀ z∈Dd X.env m.ci.scope.names,X.env.cells.lookup z.1=some z.2:=fun z hz=>by
  rcases Hi m.ci.scope.names [] z.1 z.2 hz with h|⟨h1,h2⟩
  ·simp at h
  ·obtain ⟨c,e⟩:=hfr _ h1 rfl;rw [h2,e];rfl
 have hcd:((Dd X.env m.ci.scope.names).map (·.2)).Nodup:=by
  have nd1:((Dd X.env m.ci.scope.names).map (·.1)).Nodup:=by rw [hcn];exact (List.nodup_append.mp M.sc.nd).2.1
  generalize Dd X.env m.ci.scope.names=L at nd1 hce
  induction L with
  | nil=>simp
  | cons z L ih =>
   rw [List.map_cons,List.nodup_cons] at nd1 ⊢;refine ⟨fun hm=>?_,ih nd1.2 fun z hz=>hce z (List.mem_cons_of_mem _ hz)⟩;obtain ⟨z',hz',e⟩:=List.mem_map.mp hm;have e1:=hce z List.mem_cons_self;have e2:=hce z' (List.mem_cons_of_mem _ hz');rw [e] at e2;exact nd1.1 (List.mem_map.mpr ⟨z',hz',I0.ok.inj _ _ _ e2 e1⟩)
 obtain ⟨Hz,Iz,ev0,rs0,cells⟩:=M4 (Dd X.env m.ci.scope.names) (vs:=vs) I0 rs (fun z hz=>⟨hce z hz,by
   have:z.1∈m.ci.fr:=by rw [← hcn];exact List.mem_map.mpr ⟨z,hz,rfl⟩
   show (X.fn z.1&&!(m.ci.fr.contains z.1))=false
   rw [List.contains_iff_mem.mpr this];simp,hcab z.1 z.2 (by rw [← hcn];exact List.mem_map.mpr ⟨z,hz,rfl⟩) (hce z hz)⟩)
  (by rw [lv,← hcn,List.length_map]) fun i z v e1 e2=>by
   have e3:m.ci.fr[i]?=some z.1:=by rw [← hcn,List.getElem?_map,e1];rfl
   have hi:i < m.js.length:=by rw [M.js];exact (List.getElem?_eq_some_iff.mp e3).1
   have e4:=List.getElem?_eq_getElem hi;have e5:=hvs i _ v e4 e2;have e6:=M.at_ i _ z.1 e4 e3;obtain ⟨mm,hns,hlk⟩:=I0.loc;have hm:z.1∈m.ci.fr:=List.mem_of_getElem? e3;obtain ⟨u,ru,lk⟩:=hlk _ z.1 v (by show X.N[_]?=_;rw [hN];exact e6) e5 (.inr (.inl (by show X.env.scope.names.lookup z.1=some .cell;rw [hsc];exact M.cel z.1 hm)));refine ⟨u,ru,?_⟩;rcases lk with ⟨k,_⟩|⟨_,c,ec,hc⟩
   ·have k:X.env.scope.names.lookup z.1=some .local:=k;rw [hsc,M.cel z.1 hm] at k;cases k
   ·have:=hce z (List.mem_of_getElem? e1);rw [show X.env.cells.lookup z.1=some c from ec] at this;cases this;exact hc
 have rl0:=rl.mono ev0;have rvs0:=rvs.mono ev0;have kX:(cap X m.ci.fr).env=X.env:=rfl;obtain ⟨pl,hpl,ro⟩:=rs0.at h0;obtain ⟨tb,ht,tri,cod,pk⟩:=(show fY X.K Hz y pl from ro);obtain ⟨f,o,fd,c,bm,ob,n1,n2,n3,n4,n5,b1,b2,b3,b4,b5,b6,b7⟩:=id pk;obtain ⟨f',o',fd',m1,m2,m3,m4⟩:=hX;rw [n1] at m1;cases m1;rw [n2] at m2;cases m2;rw [n3] at m3;cases m3;rw [n4] at m4;have hP:s.heap.get? pl=some (PySem.W.tabObj tb):=Iz.hok pl _ ht;have C:=PySem.W.codeHd_of_K Iz.kIn n5;have hg:s.heap.Ns mainGlobals X.mg:=Iz.mod.glob.keeps Iz.bk;have hgP:mainGlobals≠pl:=fun z=>by
  obtain ⟨o,es,ep,e,hd,_⟩:=hg;rw [z,hP] at e;cases e;cases hd
 have hbt:s.heap.BuiltinsAt X.mg pl:=⟨bm,ob,PySem.W.mg_of Iz.kIn hg b1,b6,b7,(fun z=>by
  have e:=Iz.kIn _ _ b2
  rw [z,hP] at e;cases e;cases b3),Iz.kIn _ _ b2,b3,b4,b5⟩
 have hqn:qualnameIn X.env "_law_pick" "_law_pick"=fX y:=by
  unfold qualnameIn;rw [if_neg,hq];intro z;have z:=eq_of_beq z
  have z:X.env.scope.names.lookup ("_law_pick":Str)=some .globalExplicit:=z;rw [hsc,M.lc] at z;cases z
 have ndC:(cap X m.ci.fr).N.Nodup:=hnd
 have nmC:(cap X m.ci.fr).N[m.i]?=some ("_law_pick":Str):=by show X.N[m.i]?=_;rw [hN];exact M.nm
 have lcC:(cap X m.ci.fr).env.scope.names.lookup ("_law_pick":Str)=some .local:=by show X.env.scope.names.lookup _=_;rw [hsc];exact M.lc
 have last:∀ {H2:Hp} {s2:Shared} {a:Addr} {ob:Obj} {doc pm ctv:Value} {c':Addr},Inv (cap X m.ci.fr) pins σ H2 s2->Ev X.K Hz ρ H2 ρ->RS X.K H2 ρ mh->H2 a=some (.frz ob uT)->ob.data=.func (PySem.W.fnX "_law_pick" (fX y) params m.ci.body m.ci.scope (Dd X.env m.ci.scope.names) .none .none doc pm none (.ref c') ctv)->Nk H2 (.ref c') (fX y) ->
   wpAny (model X.prog X.w) X.A (storeName X.env "_law_pick" (.ref a)) (fun _ s''=>SP (cap X m.ci.fr) pins D .next s'') X.xe s2:=fun {H2 s2 a ob doc pm ctv c'} J ev r2 ha hd hcod=>by
  refine Km (X:=cap X m.ci.fr) (v:=.ref a) J ndC nmC (.inl lcC) rfl (fun s3 J3=>⟨_,H2,J3,?_⟩) (.inr lcC);have rc:RD X.K H2 ρ (.clo m.ci ds) (.ref a):=.clo ⟨ob,uT,_,Dd X.env m.ci.scope.names,ha,hd,M.sc,⟨_,_,params,doc,pm,_,ctv,rfl,fun us hu=>hb _ _ _ _ _ _ _ us hu⟩,hcod,hcn,hcd,cells.mono ev.frz⟩ (rvs0.mono ev);exact co H2 ρ _ (ev0.trans ev) r2 ((rl0.mono ev).set rc)
 refine PySem.W.nestDef_K hd0 hk0 (ha _) ?_
 show wpAny (model X.prog X.w) X.A (makeFunction "_law_pick" (qualnameIn X.env "_law_pick" "_law_pick") params (.stmts m.ci.body) m.ci.scope X.env [] [] [] pos pos.line) _ X.xe s;rw [hqn];cases hm:codeAmong pos tb.toList with
 | none =>
  refine PySem.W.makeFunction_K hcl I0.ok.glob hg m4 C hP tri hm hgP hbt fun c' ctv doc h' tk hx hge hlt hrec htb=>?_
  obtain ⟨c2,oc,ws,tq,e1,e2,e3,e4⟩:=hrec;cases e1;have fc:Hz c'=none:=Iz.hok.fresh hge;have sa:s.heap.objs.size<=h'.objs.size:=Nat.le_of_lt (Nat.lt_of_le_of_lt hge hlt);have fa:Hz h'.objs.size=none:=Iz.hok.fresh sa;have nca:c'≠h'.objs.size:=Nat.ne_of_lt hlt;have npa:h'.objs.size≠pl:=Nat.ne_of_gt (Heap.lt_size htb);have kk:∀ (ob:Obj) b o,b≠pl->s.heap.get? b=some o->(h'.push ob).get? b=some o:=fun ob b o n e=>Heap.get?_push_of_some _ (hx b o n e)
  have rs1:=(rs0.new (o:=.frz oc uT) fc);have t1:upd Hz c' (.frz oc uT) pl=some (.tbl tb):=by rw [Af (Al ht fc)];exact ht
  have frz1:∀ a o u,Hz a=some (.frz o u)->upd (upd Hz c' (.frz oc uT)) pl (.tbl (tb++#[rawInt pos.line,rawInt pos.col,.ref c'])) a=some (.frz o u):=fun a o u e=>by
   rw [Af (Kl e ht (by intro z;cases z)),Af (Al e fc)];exact e
  have ncp:c'≠pl:=fun z=>by subst z;rw [ht] at fc;cases fc
  have cd1:Nk (upd (upd Hz c' (.frz oc uT)) pl (.tbl (tb++#[rawInt pos.line,rawInt pos.col,.ref c']))) (.ref c') (fX y):=⟨c',oc,uT,ws,tq,rfl,by rw [Af ncp,Bb],e3,e4⟩
  have rs2:=rs1.tabQ (zs:=tb++#[rawInt pos.line,rawInt pos.col,.ref c']) hpl h0 t1 ⟨_,Bb,by
    simpa using TriplesOk_snoc pos.line pos.col (.ref c') _ tri,fun pos v z=>by
    rcases Rr _ tri (by simpa using z) with z|z
    ·exact (cod pos v z).mono frz1
    ·subst z;exact cd1,pk⟩
  have f2:upd (upd Hz c' (.frz oc uT)) pl (.tbl (tb++#[rawInt pos.line,rawInt pos.col,.ref c'])) h'.objs.size=none:=by rw [Af npa,Af (Ne.symm nca)];exact fa
  refine last (c':=c') (Iz.un (kI ht fc fa hge sa (kk _) (Heap.get?_push_of_some _ htb)) (Z0 Iz.hok ht fc fa nca (kk _) (Heap.get?_push_of_some _ htb) (Heap.get?_push_of_some _ e2) (Heap.get?_push_size _ rfl)))
   (((Ev.new (o:=.frz oc uT) fc).trans (Ev.tab (zs:=tb++#[rawInt pos.line,rawInt pos.col,.ref c']) t1)).trans (Ev.new f2)) (rs2.new f2) Bb rfl (cd1.mono fun a o u e=>by unfold H3;rw [Af (Al e f2)];exact e)
 | some cv =>
  obtain ⟨c',oc,u,ws,tq,rfl,e2,e3,e4⟩:=cod pos cv hm;refine PySem.W.makeFunction_hit hcl I0.ok.glob hg m4 C hP tri hm hbt fun ctv doc h' tk hk hsz=>?_
  have fa:Hz h'.objs.size=none:=Iz.hok.fresh hsz;refine last (c':=c') (Iz.laid (o:=.frz _ uT) (t':=tk) (fun b u e=>Heap.get?_push_of_some _ (hk b u e)) hsz ⟨Heap.get?_push_size _ rfl,trivial,⟨_,Heap.get?_push_size _ rfl⟩,fun _ _ _ _=>trivial⟩) (Ev.new fa) (rs0.new fa) Bb rfl ⟨c',oc,u,ws,tq,rfl,by rw [Af (Al e2 fa)];exact e2,e3,e4⟩
end
section
variable {P:Program}{w:World}{K:PySem.W.Frag}{mg:Str->Option Value}{base:Heap}{k:Nat}{G:Gb}
theorem kW {n:Nat}{x:Str}{I:FnI}{m:MakI}{ds:List D}{mh:MH}{r:D×MH}(h:Lx G n x I m ds mh=some r):ds.length=I.ps.length:=by
 unfold Lx at h;split at h
 ·assumption
 ·cases h
theorem X5 {m1 m2:SM}{D:Ends}{σ:L2.St}{H:Hp}(h:tS K (Ab m1 m2) D σ H):tS K m1 { D with nx:=tS K m2 D } σ H:=by
 obtain ⟨loc,mh,ρ,f,loc',mh',q,rl,rs,co⟩:=h;unfold Ab at q;split at q
 ·rename_i l h e1;exact ⟨loc,mh,ρ,.nx,l,h,e1,rl,rs,fun H1 ρ1 σ1 ev1 rs1 rl1=>⟨l,h,ρ1,f,loc',mh',q,rl1,rs1,co.ev ev1⟩⟩
 ·rename_i r hne;refine ⟨loc,mh,ρ,f,loc',mh',q,rl,rs,?_⟩;cases f with
  | nx=>exact absurd q (hne _ _)
  | bk=>exact co
  | ct=>exact co
  | rt d=>exact co
theorem Z2 {X:Cx}{sc:SC}(O:XOk X k G sc) {Z:Flow->Shared->Prop}{rest:List Stmt}(pins:List (Addr×Obj)):∀ (n:Nat) (pre:List Stmt) {s:Shared}{σ:L2.St}{H:Hp}{D:Ends},Inv X pins σ H s->tS X.K (iSs G n sc pre) D σ H->(∀ f s',f≠.next->SP X pins D f s'->Z f s') ->
  (∀ s' σ' H',Inv X pins σ' H' s'->D.nx σ' H'->wpAny (model X.prog X.w) X.A (execs rest X.env) Z X.xe s')->wpAny (model X.prog X.w) X.A (execs (pre++rest) X.env) Z X.xe s
 | 0,pre,s,σ,H,D,I,h,_,_=>by
  obtain ⟨_,_,_,_,_,_,q,_⟩:=h;cases q
 | n+1,[],s,σ,H,D,I,h,h1,h2=>by
  obtain ⟨loc,mh,ρ,f,loc',mh',q,rl,rs,co⟩:=h;cases q;exact h2 s σ H I (co H ρ σ Ev.refl rs rl)
 | n+1,st::r,s,σ,H,D,I,h,h1,h2=>by
  refine wpAny_execs_cons (thn ((uN G n).1 O st pins s σ H _ I (X5 h)) fun f s1 q=>?_);cases f with
  | next =>
   obtain ⟨σ',H',I',q⟩:=q;exact Z2 O pins n r I' q h1 h2
  | ret v=>exact h1 _ _ (by intro z;cases z) q
  | brk=>exact h1 _ _ (by intro z;cases z) q
  | cont=>exact h1 _ _ (by intro z;cases z) q
theorem kY {x:Str}{st:Stmt}{f:Addr}{fd:FuncData}{I:FnI}{m:MakI}(g:GOk P w K mg base k G) (F:Fun K x x st f fd) (hn:PySem.W.nsIn K mainGlobals x=some (some (.ref f))) (S:FnScope I.N I.ps (Ag st)) (hs:I.scope=Ag st) (M:MakDef I m st) (n:Nat) :
  FnOk P w K mg base CX0 (k+3) f fd I.ps (spD K I.ps.length (Lx G n x I m)):=by
 obtain ⟨⟨oc,od,kV,doc,pm,an,cdv,ct,osl,rfl,lk,hcd⟩,kp⟩:=F;obtain ⟨params,pos,hbd,hd0,hk0,ha,hb⟩:=M.ex;refine ⟨fun vs H Q E h=>h.1,fun A outer s H args us vs Q E hr e0 hbn r hsp=>?_⟩;have hl:=hsp.1;have KX:K.In s.heap:=e0.mod.kin.keeps fun b o e=>(e0.bs b o e).1
 have lim:s.heap.NoLimit:=e0.mod.nolimit.keeps fun b o e=>(e0.bs b o e).1
 have hkind:∀ y∈I.ps.zip us,(Ag st).names.lookup y.1=some .local\/((Ag st).names.lookup y.1=some .cell/\((cellsFrom (s.heap.objs.size+1) (Ag st).names []).lookup y.1).isSome=true):=by
  rintro ⟨n,v⟩ hy;rcases S.par n (List.of_mem_zip hy).1 with q|q
  ·exact .inl q
  ·exact .inr ⟨q,PySem.W.cellsFrom_some _ _ _ (.inl q)⟩
 refine codeAny_call_function hr.depth (KX _ _ lk) rfl S.co S.gen rfl (PySem.W.codeRec_of KX hcd) (hbn _ _ _ _ ?_);refine wpAny_newFunctionEnv_cells S.kind hkind fun env he s1 xx=>?_
 subst he;refine ⟨lim.keeps xx.toInCall.keep,codeAny_func ?_⟩;have J0:Inv (Jz CX0 P w K mg base I.N x (Ag st) f cdv A outer s H E) [] (start I.N vs) H s1:=Lh S hr.hd e0 hl r xx;have J:Inv (Jz CX0 P w K mg base I.N x (Ag st) f cdv A outer s H E).nox [] (start I.N vs) H s1:=J0.wish _;have O:XOk (Jz CX0 P w K mg base I.N x (Ag st) f cdv A outer s H E).nox k G { N:=I.N,scope:=I.scope,own:=fun _=>true }:=⟨rfl,S.nd,hs.symm,fun _ _ _=>.inl rfl,rfl,rfl,hr.deeper _,g⟩
 have O2:XOk (cap (Jz CX0 P w K mg base I.N x (Ag st) f cdv A outer s H E).nox m.ci.fr) k G { N:=I.N,scope:=I.scope,own:=fun y=>!(m.ci.fr.contains y) }:=⟨rfl,S.nd,hs.symm,fun y hy _=>.inl (by
  have hy:(!(m.ci.fr.contains y))=true:=hy;show (true&&!(m.ci.fr.contains y))=true
  rw [hy];rfl),rfl,rfl,hr.deeper _,g⟩
 obtain ⟨_,ρ,mh,ds,d,mh',q,rs,rd,co⟩:=hsp;have run:tS K (Zx G n x I m) { nx:=fun _ H'=>Q .non H',rt:=Q } (start I.N vs) H:=by
  unfold Lx at q;split at q
  ·split at q
   ·rename_i d' loc' m' e;cases q;exact ⟨_,mh,ρ,.rt d,loc',mh',e,Ig rd,rs,co⟩
   ·rename_i loc' m' e;cases q;exact ⟨_,mh,ρ,.nx,loc',mh',e,Ig rd,rs,fun H' ρ' σ' e' rs' _=>co H' ρ' _ e' rs' .non⟩
   ·cases q
  ·cases q
 let Z:Flow->Shared->Prop:=fun fl s'=>match fl with
  | .ret u=>CE outer P w H s Q u s'
  | .next=>CE outer P w H s Q .none s'
  | _=>False
 have fin:∀ {σ':L2.St} {H':Hp} {v:V} {u:Value} {s':Shared} {Y:Cx},Y.outer=outer->Y.prog=P->Y.w=w->Y.H₀=H->Y.s₀=s->Y.ex=[]->Inv Y [] σ' H' s'->RelV v u->Q v H'->CE outer P w H s Q u s':=fun {σ' H' v u s' Y} e1 e2 e3 e4 e5 e6 J rv q=>by
  refine ⟨v,H',by rw [← e5];exact J.os,J.bare,?_,by rw [← e2,← e3];exact J.hok,rv,q⟩;have:=J.base;rw [e6,e4,e5] at this;rw [← e1];exact this
 have flow:∀ {Y:Cx} {D:Ends},Y.outer=outer->Y.prog=P->Y.w=w->Y.H₀=H->Y.s₀=s->Y.ex=[]->D.rt=Q->(D.bk=fun _ _=>False)->(D.ct=fun _ _=>False)->∀ fl s',(fl≠.next\/∀ σ' H',D.nx σ' H'->Q .non H')->SP Y [] D fl s'->Z fl s':=fun {Y D} e1 e2 e3 e4 e5 e6 q1 q3 q4 fl s' q2 h=>by
  cases fl with
  | ret u =>
   obtain ⟨v,σ',H',J',rv,q'⟩:=h;exact fin e1 e2 e3 e4 e5 e6 J' rv (by rw [← q1];exact q')
  | next =>
   obtain ⟨σ',H',J',q'⟩:=h;exact fin (v:=V.non) (u:=Value.none) e1 e2 e3 e4 e5 e6 J' rfl ((q2.resolve_left fun z=>z rfl) _ _ q')
  | brk =>
   obtain ⟨_,_,_,q'⟩:=h;rw [q3] at q';exact q'
  | cont =>
   obtain ⟨_,_,_,q'⟩:=h;rw [q4] at q';exact q'
 have R:wpAny (model P w) (A.deeper (envOfC x (Ag st) s.heap.objs.size f cdv)) (execs (Br st) (envOfC x (Ag st) s.heap.objs.size f cdv)) Z (fun _ _=>False) s1:=by
  rw [hbd];refine Z2 O [] n m.pre J (X5 run) (fun fl s' hne h=>flow rfl rfl rfl rfl rfl rfl rfl rfl rfl fl s' (.inl hne) h) fun s2 σ2 H2 J2 h=>?_
  have Jc:=uO (fr:=m.ci.fr) J2;refine wpAny_execs_cons (thn (Aba (X:=(Jz CX0 P w K mg base I.N x (Ag st) f cdv A outer s H E).nox) M hd0 hk0 ha hb rfl S.nd rfl rfl (fun y c _ e=>J0.ok.cab y c rfl e) ⟨f,_,_,hn,lk,rfl,rfl⟩ [] s2 σ2 H2 _ Jc (X5 h)) fun fl s3 q=>?_);cases fl with
  | next =>
   obtain ⟨σ3,H3',J3,q3⟩:=q;exact thn ((uN G n).2 O2 m.post [] s3 σ3 H3' _ J3 q3) fun fl s' h=>flow rfl rfl rfl rfl rfl rfl rfl rfl rfl fl s' (.inr fun _ _ z=>z) h
  | ret v=>exact flow rfl rfl rfl rfl rfl rfl rfl rfl rfl (.ret v) s3 (.inl (by intro z;cases z)) q
  | brk=>exact flow rfl rfl rfl rfl rfl rfl rfl rfl rfl .brk s3 (.inl (by intro z;cases z)) q
  | cont=>exact flow rfl rfl rfl rfl rfl rfl rfl rfl rfl .cont s3 (.inl (by intro z;cases z)) q
 refine wpAny_mono R (fun fl s' hz=>?_) fun e s' h=>False.elim h
 cases fl with
 | ret u=>exact hz
 | next=>exact hz
 | brk=>exact False.elim hz
 | cont=>exact False.elim hz
end
noncomputable def Ae8 (K:PySem.W.Frag) (mg:Str->Option Value) (x:Str) (I:FnI):Prop:=∃ (qual:Str) (st:Stmt) (f:Addr) (fd:FuncData),mg x=some (.ref f)/\Fun K x qual st f fd/\FnScope I.N I.ps (Ag st)/\I.scope=Ag st/\I.body=Br st/\∀ us:List Value,us.length=I.ps.length->bindArgs fd ⟨us,[]⟩=pure (I.ps.zip us)
noncomputable def kZ (K:PySem.W.Frag) (mg:Str->Option Value) (x:Str) (d:D):Prop:=∃ u v,mg x=some u/\RelV v u/\∀ H ρ,RD K H ρ d v
structure TbOk (w:World) (K:PySem.W.Frag) (mg:Str->Option Value) (T:Tb):Prop where
 fn:∀ x I,T.tb x=some I->∃ (qual:Str) (st:Stmt) (f:Addr) (fd:FuncData),mg x=some (.ref f)/\Fun K x qual st f fd/\FnScope I.N I.ps (Ag st)/\I.scope=Ag st/\I.body=Br st/\∀ us:List Value,us.length=I.ps.length->bindArgs fd ⟨us,[]⟩=pure (I.ps.zip us)
 con:∀ x d,T.con x=some d->∃ u v,mg x=some u/\RelV v u/\∀ H ρ,RD K H ρ d v
 blt:∀ b∈Ie,mg b=none
 dic:∀ x kvs,T.dic x=some kvs->∃ a,mg x=some (.ref a)/\DicOk w K a kvs
 fld:∀ c f,T.fld c f=true->∃ C,PySem.W.nsIn K mainGlobals c=some (some (.ref C))/\Cls K C/\Eg K C f
 met:∀ c m I,T.tbm c m=some I->∃ (qual:Str) (st:Stmt) (C f:Addr) (fd:FuncData),PySem.W.nsIn K mainGlobals c=some (some (.ref C))/\Cls K C/\Meth K C m f/\Fun K m qual st f fd/\FnScope I.N I.ps (Ag st)/\I.scope=Ag st/\I.body=Br st/\∀ us:List Value,us.length=I.ps.length->bindArgs fd ⟨us,[]⟩=pure (I.ps.zip us)
 mkr:∀ c f,T.mkr c=some f->∃ C fa fd ps,PySem.W.nsIn K mainGlobals c=some (some (.ref C))/\Mk K C fa/\mg c=some (.ref C)/\Binds K fd ps []/\∀ (P:Program) (w:World) (base:Heap),FnOk P w K mg base CX0 1 fa fd ps (spI C f)
 lam:∀ x y,T.lam x=some y->x = "pattern_of"/\∀ I,T.tb x=some I->∃ (st:Stmt) (f:Addr) (fd:FuncData) (a:Str),mg x=some (.ref f)/\Fun K x x st f fd/\PySem.W.nsIn K mainGlobals x=some (some (.ref f))/\I.ps=[a]/\FnScope I.N [a] (Ag st)/\kJ st a y/\∀ us:List Value,us.length=I.ps.length->bindArgs fd ⟨us,[]⟩=pure (I.ps.zip us)
 mak:∀ x m,T.mak x=some m->∀ I,T.tb x=some I->∃ (st:Stmt) (f:Addr) (fd:FuncData),mg x=some (.ref f)/\Fun K x x st f fd/\PySem.W.nsIn K mainGlobals x=some (some (.ref f))/\FnScope I.N I.ps (Ag st)/\I.scope=Ag st/\MakDef I m st/\∀ us:List Value,us.length=I.ps.length->bindArgs fd ⟨us,[]⟩=pure (I.ps.zip us)
theorem gok {P:Program}{w:World}{K:PySem.W.Frag}{mg:Str->Option Value}{base:Heap}{T:Tb}(O:TbOk w K mg T) (k:Nat):GOk P w K mg base k (GkN T k):=by
 induction k with
 | zero=>exact ⟨fun x ps f h=>(by cases h),O.con,O.blt,O.dic,O.fld,fun c m ps g h=>(by cases h),fun c f h=>by
   obtain ⟨C,fa,fd,ps,h1,h2,h3,h4,h5⟩:=O.mkr c f h
   exact ⟨C,fa,fd,ps,h1,h2,h3,h4,h5 _ _ _⟩,jO⟩
 | succ k ih =>
  refine ⟨fun x ps f h=>?_,O.con,O.blt,O.dic,O.fld,fun c m ps g h=>?_,fun c f h=>by
   obtain ⟨C,fa,fd,ps,h1,h2,h3,h4,h5⟩:=O.mkr c f h
   exact ⟨C,fa,fd,ps,h1,h2,h3,h4,h5 _ _ _⟩,⟨fun I a fd cl h1 h2=>Aa8 ih h1 h2 fuel,fun I fs ds mh r h=>cR h⟩⟩
  ·simp only [GkN] at h;split at h
   ·rename_i I eI;cases h;obtain ⟨qual,st,fa,fd,h1,h2,h3,h4,h5,h6⟩:=O.fn x I eI;cases em:T.mak x with
    | some m =>
     have e:∀ g,Vr T (GkN T k) x I g=Lx (GkN T k) fuel x I m:=fun g=>by unfold Vr;rw [em]
     rw [e];obtain ⟨st,f',fd',l1,l2,l3,l4,l5,l6,l7⟩:=O.mak x m em I eI;exact ⟨f',fd',l1,l2.kp,.all l7,kY ih l2 l3 l4 l5 l6 fuel,fun ds mh r hr=>kW hr⟩
    | none =>
    have e0:∀ g,Vr T (GkN T k) x I g=g:=fun g=>by unfold Vr;rw [em]
    rw [e0];cases ey:T.lam x with
    | some y =>
     have e:Vq T (GkN T k) x (Ac (GkN T k) fuel I)=lamF (GkN T k) y:=by unfold Vq;rw [ey]
     rw [e];obtain ⟨rfl,z⟩:=O.lam x y ey;obtain ⟨st,f',fd',a,l1,l2,l3,l4,l5,l6,l7⟩:=z I eI;refine ⟨f',fd',l1,l2.kp,.all l7,?_,fun ds mh r hr=>?_⟩
     ·rw [l4];exact Aa5 ih l2 l3 l5 l6
     ·rw [l4];unfold lamF at hr;split at hr
      ·rfl
      ·cases hr
    | none =>
     have e:Vq T (GkN T k) x (Ac (GkN T k) fuel I)=Ac (GkN T k) fuel I:=by unfold Vq;rw [ey]
     rw [e];exact ⟨fa,fd,h1,h2.kp,.all h6,wY ih h2 h3 h4 h5 fuel,fun ds mh r hr=>Vw hr⟩
   ·cases h
  ·simp only [GkN] at h;split at h
   ·rename_i I eI;cases h;obtain ⟨qual,st,C,fa,fd,g1,g2,g3,h2,h3,h4,h5,h6⟩:=O.met c m I eI;exact ⟨C,fa,fd,g1,g2,g3,.all h6,wY ih h2 h3 h4 h5 fuel,fun ds mh r hr=>Vw hr⟩
   ·cases h
noncomputable def Bd (st:Stmt):FnI :=
  { ps:=(Dg st).args.map (·.arg),
    N:=(Dg st).args.map (·.arg)++(((Ag st).names.filter fun p=>(match p.2 with | .local=>true | .cell=>true | _=>false)).map (·.1)).filter (fun x=>!((Dg st).args.map (·.arg)).contains x),
    scope:=Ag st,body:=Br st }
end DL
namespace DL
open PySem L2
noncomputable def vr (i:Nat):DM D:=fun loc mh=>match loc[i]? with | some (some d)=>some (d,mh) | _=>none
noncomputable abbrev cT:=iop (fun _ _=>true) fun i j=>i - j
noncomputable abbrev Gg:=Zv (Rq (iop Vm fun i j=>i * j))
noncomputable abbrev Ci:=iop (fun _ j=>decide (j≠0)&&decide (j.natAbs < 10889035741470030830827987437816582766592)) fun i j=>i.fdiv j
noncomputable abbrev Bw:=iop (fun _ j=>decide (j≠0)) fun i j=>i.fmod j
noncomputable abbrev Abb:=iop (fun i j=>decide (0<=j)&&(decide (j<=1000000)&&decide (i.natAbs < 2 ^ 64))) fun i j=>i ^ j.toNat
noncomputable abbrev Ae9:=iop (fun i j=>decide (0<=j)&&(decide (j<=1000000)&&decide (i.natAbs < 2 ^ 64))) fun i j=>i * 2 ^ j.toNat
noncomputable abbrev cU:=iop (fun _ j=>decide (0<=j)) fun i j=>i / 2 ^ j.toNat
noncomputable abbrev lA:=iop (fun _ _=>true) Builtin.bitAnd
noncomputable abbrev Abd:=iop (fun _ _=>true) Builtin.bitOr
noncomputable abbrev ltD:=Qo fun i j=>decide (i < j)
noncomputable abbrev leD:=Qo fun i j=>decide (i<=j)
noncomputable abbrev gtD:=Qo fun i j=>decide (j < i)
noncomputable abbrev geD:=Qo fun i j=>decide (j<=i)
noncomputable def Np (m:DM D):DM D:=m.bnd fun x=>Zl (Aaq x)
noncomputable def Bo (mr:DM (List D)):DM D:=mr.bnd fun ds=>Zl (Ra ds)
noncomputable def lstM (mr:DM (List D)):DM D:=mr.bnd fun ds=>Zl (Rb ds)
noncomputable def Ad (f:Fn) (mr:DM (List D)):DM D:=mr.bnd fun ds=>Zl (f ds)
noncomputable def Abe (T:String) (m:DM D):DM D:=m.bnd fun x=>Zl (Va T x)
noncomputable def Pq (m:DM D):DM D:=m.bnd fun x=>Zl (Er x)
theorem ln0 {f:List Value->Prop}(h:f []) (us:List Value) (e:us.length=0):f us:=by
 cases us with
 | nil=>exact h
 | cons _ _=>cases e
theorem ln1 {f:List Value->Prop}(h:∀ a,f [a]) (us:List Value) (e:us.length=1):f us:=by
 cases us with
 | nil=>cases e
 | cons a r=>exact ln0 (f:=fun r=>f (a::r)) (h a) r (Nat.succ.inj e)
theorem ln2 {f:List Value->Prop}(h:∀ a b,f [a,b]) (us:List Value) (e:us.length=2):f us:=by
 cases us with
 | nil=>cases e
 | cons a r=>exact ln1 (f:=fun r=>f (a::r)) (h a) r (Nat.succ.inj e)
theorem ln3 {f:List Value->Prop}(h:∀ a b c,f [a,b,c]) (us:List Value) (e:us.length=3):f us:=by
 cases us with
 | nil=>cases e
 | cons a r=>exact ln2 (f:=fun r=>f (a::r)) (h a) r (Nat.succ.inj e)
theorem ln4 {f:List Value->Prop}(h:∀ a b c d,f [a,b,c,d]) (us:List Value) (e:us.length=4):f us:=by
 cases us with
 | nil=>cases e
 | cons a r=>exact ln3 (f:=fun r=>f (a::r)) (h a) r (Nat.succ.inj e)
theorem ln5 {f:List Value->Prop}(h:∀ a b c d e,f [a,b,c,d,e]) (us:List Value) (e:us.length=5):f us:=by
 cases us with
 | nil=>cases e
 | cons a r=>exact ln4 (f:=fun r=>f (a::r)) (h a) r (Nat.succ.inj e)
theorem lB {q:Program}{loose:List Str}{XP:(Str->Option Value)->Heap->Prop}{K:Params->PySem.W.Frag}{as:List Addr}{n t:Nat}{r:PySem.W.RowW}{d:DefRec}{kwd:List (Str×Expr)}{run:Value->List Value->Sem Value}
  (e:∀ P,as=(K P).map (·.1)) (h:PySem.W.WalkO q loose XP (fun w h=>(K w.params).In h) r d kwd run):PySem.W.WalkX q loose XP (PySem.W.X.obsZ as) (PySem.W.X.valZ K n t) r d kwd run :=
 fun w s₀ s₁ mg mb G y a o pm cd doc dV kV h1 h2 h3 h4 h5 h6 args vals as' L hpre hlay hrd hwl hlo =>
  h w s₀ s₁ mg mb G (PySem.W.InK.keeps w s₀.heap s₁.heap (PySem.W.X.z_facts e y).2.1 L.keeps) a o pm cd doc dV kV h1 h2 h3 h4 h5 h6 args vals as' hpre hlay hrd hwl hlo
noncomputable def K4 (K:PySem.W.Frag):List (Str×Stmt)->Prop
 | []=>True
 | r::L=>(∃ (f:Addr) (fd:FuncData),PySem.W.nsIn K mainGlobals r.1=some (some (.ref f))/\Fun K r.1 r.1 r.2 f fd)/\K4 K L
theorem lC {K:PySem.W.Frag}{x:Str}{st:Stmt}{L:List (Str×Stmt)}{f:Addr}{oc:Value}{od an:Option Addr}{osl:Array (Option Value)}{kV doc pm cdv ct:Value}(a:PySem.W.nsIn K mainGlobals x=some (some (.ref f)))
  (l:K.lookup f=some ⟨oc,od,.func (PySem.W.fnOf x x (Dg st) (Br st) (Ag st) .none kV doc pm an cdv ct),osl⟩)
  (c:PySem.W.codeIn K cdv x=true) (k:PySem.W.keepIn K (.ref f)=true) (q:K4 K L):K4 K ((x,st)::L):=⟨⟨f,_,a,W4 l c k⟩,q⟩
noncomputable def Afa (x:Str) (st:Stmt):Prop:=FnScope (Bd st).N (Bd st).ps (Ag st)/\∀ (kV doc pm:Value) (an:Option Addr) (cdv ct:Value) (us:List Value),us.length=(Bd st).ps.length->bindArgs (PySem.W.fnOf x x (Dg st) (Br st) (Ag st) .none kV doc pm an cdv ct) ⟨us,[]⟩=pure ((Bd st).ps.zip us)
theorem Ba {x:Str}{st:Stmt}(s:FnScope (Bd st).N (Bd st).ps (Ag st)) (b:∀ (kV doc pm:Value) (an:Option Addr) (cdv ct:Value) (us:List Value),us.length=(Bd st).ps.length->bindArgs (PySem.W.fnOf x x (Dg st) (Br st) (Ag st) .none kV doc pm an cdv ct) ⟨us,[]⟩=pure ((Bd st).ps.zip us)):Afa x st:=⟨s,b⟩
noncomputable def Z3:List (Str×Stmt)->Prop
 | []=>True
 | r::L=>Afa r.1 r.2/\Z3 L
theorem Z4 {K:PySem.W.Frag}{h:Heap}{mg:Str->Option Value}(X:K.In h) (G:h.Ns mainGlobals mg) {x:Str}{I:FnI}:∀ {L:List (Str×Stmt)},K4 K L->Z3 L->(L.lookup x).map Bd=some I->Ae8 K mg x I
 | [],_,_,e=>by cases e
 | (y,st)::L,⟨⟨f,fd,a,F⟩,q⟩,⟨s,t⟩,e=>by
  simp only [List.lookup] at e;split at e
  ·rename_i hy;rw [eq_of_beq hy];cases e;refine ⟨y,st,f,fd,PySem.W.mg_of X G a,F,s.1,rfl,rfl,fun us hu=>?_⟩;obtain ⟨oc,od,kV,doc,pm,an,cdv,ct,osl,rfl,_⟩:=F.ex;exact s.2 kV doc pm an cdv ct us hu
  ·exact Z4 X G q t e
noncomputable def M6 (K:PySem.W.Frag):List (Str×D)->Prop
 | []=>True
 | r::L=>(∃ u,PySem.W.nsIn K mainGlobals r.1=some (some u)/\rdV K 60 u=some r.2)/\M6 K L
theorem lE {K:PySem.W.Frag}{x:Str}{d:D}{L:List (Str×D)}{u:Value}(a:PySem.W.nsIn K mainGlobals x=some (some u)) (b:rdV K 60 u=some d) (q:M6 K L):M6 K ((x,d)::L):=⟨⟨u,a,b⟩,q⟩
theorem Vx {K:PySem.W.Frag}{h:Heap}{mg:Str->Option Value}(X:K.In h) (G:h.Ns mainGlobals mg) {x:Str}{d:D}:∀ {L:List (Str×D)},M6 K L->L.lookup x=some d->kZ K mg x d
 | [],_,e=>by cases e
 | (y,d')::L,⟨⟨u,a,b⟩,q⟩,e=>by
  simp only [List.lookup] at e;split at e
  ·rename_i hy;rw [eq_of_beq hy];cases e;obtain ⟨v,r1,r2⟩:=jE 60 b;exact ⟨u,v,PySem.W.mg_of X G a,r1,r2⟩
  ·exact Vx X G q e
noncomputable def M7 (K:PySem.W.Frag):List Str->Prop
 | []=>True
 | b::L=>PySem.W.nsIn K mainGlobals b=some none/\M7 K L
theorem lF {K:PySem.W.Frag}{b:Str}{L:List Str}(a:PySem.W.nsIn K mainGlobals b=some none) (q:M7 K L):M7 K (b::L):=⟨a,q⟩
theorem Vy {K:PySem.W.Frag}{h:Heap}{mg:Str->Option Value}(X:K.In h) (G:h.Ns mainGlobals mg):∀ {L:List Str},M7 K L->∀ b∈L,mg b=none
 | _::_,⟨a,_⟩,_,.head _=>PySem.W.mg_none_of X G a
 | _::_,⟨_,q⟩,b,.tail _ m=>Vy X G q b m
end DL
namespace L2
open PySem PySem.Spec PyProof.Rows
theorem cV {P:Program}{w:World}{K:PySem.W.Frag}{mg mb:Str->Option Value}{CX:CXT}{k:Nat}{fa a pl:Addr}{fd:FuncData}{x:Str}{sp:Sp}{s₁:Shared}{vs:List Value}{ns:List Int}
  (KX:K.In s₁.heap) (kp:K.lookup pl=none) (hpl:s₁.heap.get? pl=some (PySem.W.tabObj #[])) (ct:isCodeTable s₁.heap pl)
  (hns:s₁.heap.Ns mainGlobals mg) (hb:s₁.heap.Ns builtinsNs mb) (hbb:∀ x:Str,x ≠ "__name__"->mb x=bootBuiltins x) (hlim:s₁.heap.NoLimit) (hg:s₁.gens=#[])
  (ha:s₁.heap.get? a=some { cls:=.type "list",data:=.seq vs.toArray }) (hi:IntsAre vs ns) (hl:ns.length<=sizeLine) (hr:Room k callerA)
  (F:∀ base:Heap,K.In base->base.Ns mainGlobals mg->FnOk P w K mg base CX k fa fd [x] sp) (hbind:∀ (s:Shared) (u:Value),BindsTo s fd ⟨[u],[]⟩ [(x,u)])
  (hsp:∀ H:Hp,H pl=some (.tbl #[])->((∃ o,H a=some (.frz o (.lst (ns.map V.int))))\/∃ (o:Obj) (its:Array Value) (n:Nat),K.lookup a=some o/\o.cls=.type "list"/\o.dict=none/\o.data=.seq its n/\its.size<=sizeLine/\Vals (ns.map V.int) its.toList)->sp [.ref a] H (fun v _=>v=.bl true) fun _ _ _=>False)
  (hCX:∀ H e s',CX [] H s₁ (fun _ _ _=>False) e s'->False) :
  codeAny (model P w) callerA (.call (.ref fa) ⟨[.ref a],[]⟩) (fun r s'=>r=.ok (.ret (.bool true))/\OldK s₁.heap s'.heap/\s'.os=s₁.os/\AllBare s'.gens) s₁:=by
 have rv:=Fe hi;have lenV:=hi.length;have hap:a≠pl:=fun z=>by rw [z,hpl] at ha;cases ha
 have core:∀ H:Hp,H pl=some (.tbl #[])->(H a=none\/H a=some (.frz { cls:=.type "list",data:=.seq vs.toArray } (.lst (ns.map V.int))))->(∀ b,b≠a->b≠pl->H b=none)->(H a≠none->K.lookup a=none) ->
   ((∃ o,H a=some (.frz o (.lst (ns.map V.int))))\/∃ (o:Obj) (its:Array Value) (n:Nat),K.lookup a=some o/\o.cls=.type "list"/\o.dict=none/\o.data=.seq its n/\its.size<=sizeLine/\Vals (ns.map V.int) its.toList) ->
   codeAny (model P w) callerA (.call (.ref fa) ⟨[.ref a],[]⟩) (fun r s'=>r=.ok (.ret (.bool true))/\OldK s₁.heap s'.heap/\s'.os=s₁.os/\AllBare s'.gens) s₁:=by
  intro H hP hA hO hK hS;have hok:HOk P w H s₁.heap:=fun b u z=>by
   by_cases b1:b=a
   ·subst b1;rcases hA with q|q
    ·rw [q] at z;cases z
    ·rw [q] at z;cases z;exact ⟨ha,by rw [List.length_map];exact hl,vs,_,rv,ha⟩
   ·by_cases b2:b=pl
    ·subst b2;rw [hP] at z;cases z;exact hpl
    ·rw [hO b b1 b2] at z;cases z
  have base_of:∀ {b:Addr} {o:Obj},s₁.heap.get? b=some o->H b=none->(R8 s₁.heap H).get? b=some o:=fun e n=>dW e n
  have noA:∀ {b:Addr} {o:Obj} {es:Array DictEntry} {ep:Nat},s₁.heap.get? b=some o->o.data=.dict es ep->H b=none:=fun {b o es ep} e d=>by
   refine hO b (fun z=>?_) fun z=>?_
   ·subst z;rw [ha] at e;cases e;have d':Data.seq vs.toArray _=Data.dict es ep:=d;cases d'
   ·subst z;rw [hpl] at e;cases e;have d':Data.fields #[]=Data.dict es ep:=d;cases d'
  have nsK:∀ {b:Addr} {m:Str->Option Value},s₁.heap.Ns b m->(R8 s₁.heap H).Ns b m:=fun {b m} ⟨o,es,ep,e,d,r⟩=>⟨o,es,ep,base_of e (noA e d),d,r⟩
  have hKb:K.In (R8 s₁.heap H):=fun b o e=>base_of (KX b o e) (by
   by_cases b1:b=a
   ·subst b1;cases q:H b with
    | none=>rfl
    | some u=>rw [hK (by rw [q];simp)] at e;cases e
   ·exact hO b b1 fun z=>by subst z;rw [kp] at e;cases e)
  have hM:Mod K mg (R8 s₁.heap H):=⟨hKb,nsK hns,⟨mb,nsK hb,hbb⟩,let ⟨mc,h1,h2⟩:=hlim;⟨mc,nsK h1,h2⟩⟩;have e0:Env0 P w K mg (R8 s₁.heap H) callerA [] s₁ H:=⟨rfl,hM,fun b o e=>qN e,Nat.le_of_eq (bA _ _),trivial,fun b hb=>absurd (show b∈([]:List Addr) from hb) (by simp),hok,.of_eq hg⟩;refine codeAny_mono ((F _ hKb (nsK hns)).run callerA [] s₁ H ⟨[.ref a],[]⟩ [.ref a] [.ref a] _ _ hr e0 (hbind s₁ (.ref a)) (.cons rfl .nil) (hsp H hP hS)) fun r s' h=>?_
  cases r with
  | error e=>exact (hCX H e s' h).elim
  | ok fl =>
   cases fl with
   | next=>exact False.elim h
   | brk=>exact False.elim h
   | cont=>exact False.elim h
   | ret u =>
    obtain ⟨v,H',os,bare,un,hok',r',q⟩:=h;have q':v=.bl true:=q;subst q';obtain rfl:u=Value.bool true:=r';obtain ⟨more,hm⟩:=un.tbls pl _ hP;have pl':s'.heap.get? pl=some (PySem.W.tabObj (#[]++more)):=hok' pl _ hm;have keep:∀ b o,b≠pl->s₁.heap.get? b=some o->s'.heap.get? b=some o:=fun b o n e=>by
     by_cases b1:b=a
     ·subst b1;rcases hA with z|z
      ·exact un.keep b o e z (by intro z;exact absurd (show b∈([]:List Addr) from z) (by simp)) (by simp)
      ·have z2:=un.frzs b _ _ z;obtain ⟨e1,_⟩:=hok b _ z;obtain ⟨e2,_⟩:=hok' b _ z2;rw [e] at e1;cases e1;exact e2
     ·exact un.keep b o e (hO b b1 n) (by intro z;exact absurd (show b∈([]:List Addr) from z) (by simp)) (by simp)
    refine ⟨rfl,⟨fun b o e=>?_,fun b o e=>?_⟩,os,bare⟩
    ·by_cases z:b=pl
     ·subst z;rw [hpl] at e;cases e;exact .inr (.inl ⟨ct,rfl,#[],more,rfl,pl'⟩)
     ·exact .inl (keep b o z e)
    ·by_cases z:b=pl
     ·subst z;exact ⟨_,pl'⟩
     ·exact ⟨o,keep b o z e⟩
 cases hk:K.lookup a with
 | some o =>
  have e:=KX a o hk;rw [ha] at e;cases e;exact core (fun b=>if b=pl then some (.tbl #[]) else none) (if_pos rfl) (.inl (if_neg hap)) (fun b _ z=>if_neg z) (fun z=>absurd (if_neg hap) z) (.inr ⟨_,vs.toArray,_,hk,rfl,rfl,rfl,by rw [List.size_toArray,lenV];exact hl,by simpa using rv⟩)
 | none =>
  exact core (fun b=>if b=pl then some (.tbl #[]) else if b=a then some (.frz { cls:=.type "list",data:=.seq vs.toArray } (.lst (ns.map V.int))) else none) (if_pos rfl) (.inr (by simp only [if_neg hap,if_pos])) (fun b y z=>by simp only [if_neg z,if_neg y]) (fun _=>hk) (.inl ⟨_,by simp only [if_neg hap,if_pos];rfl⟩)
end L2
namespace DL
open PySem L2
noncomputable def cut (pl:Addr) (K:PySem.W.Frag):PySem.W.Frag:=K.filter fun q=>q.1 != pl
theorem Fw {pl a:Addr}:∀ {K:PySem.W.Frag},(cut pl K).lookup a=if a=pl then none else K.lookup a
 | []=>by unfold cut;simp
 | (b,o)::K=>by
  have ih:=Fw (pl:=pl) (a:=a) (K:=K);unfold cut at ih ⊢;rw [List.filter_cons]
  by_cases hb:b=pl
  ·subst hb;rw [if_neg (by simp),ih]
   by_cases ha:a=b
   ·rw [if_pos ha,if_pos ha]
   ·rw [if_neg ha,if_neg ha,List.lookup_cons];have:(a==b)=false:=by simpa using ha
    rw [this]
  ·rw [if_pos (by simpa using hb),List.lookup_cons,List.lookup_cons]
   by_cases ha:a=b
   ·subst ha;simp [hb]
   ·have:(a==b)=false:=by simpa using ha
    rw [this];exact ih
section
variable {pl:Addr}{K:PySem.W.Frag}(hp:K.lookup pl=some (PySem.W.tabObj #[]))
theorem lG {h:Heap}(X:K.In h):(cut pl K).In h:=fun a o e=>by
 rw [Fw] at e;split at e
 ·cases e
 ·exact X a o e
include hp
theorem J8 {a:Addr}{o:Obj}(e:K.lookup a=some o) (n:o.data≠.fields #[]):(cut pl K).lookup a=some o:=by
 rw [Fw,if_neg,e];intro z;subst z;rw [hp] at e;cases e;exact n rfl
theorem Hq {x:Str}{r:Option Value}(e:PySem.W.nsIn K mainGlobals x=some r):PySem.W.nsIn (cut pl K) mainGlobals x=some r:=by
 unfold PySem.W.nsIn at e ⊢;split at e
 ·rename_i hk;rw [J8 hp hk (by intro z;cases z)];exact e
 ·cases e
theorem lH {v:Value}{q:Str}(e:PySem.W.codeIn K v q=true):PySem.W.codeIn (cut pl K) v q=true:=by
 unfold PySem.W.codeIn at e ⊢;split at e
 ·split at e
  ·rename_i vs _ hk;rw [J8 hp hk (by intro z;injection z with z;subst z;simp at e)];exact e
  ·cases e
 ·cases e
theorem X6 {c a:Addr}(e:PySem.W.codeHdIn K c a=true):PySem.W.codeHdIn (cut pl K) c a=true:=by
 unfold PySem.W.codeHdIn at e ⊢;split at e
 ·rename_i vs _ hk;rw [J8 hp hk (by intro z;injection z with z;subst z;simp at e)];exact e
 ·cases e
theorem Tw {x q:Str}{st:Stmt}{f:Addr}{fd:FuncData}(F:Fun K x q st f fd):Fun (cut pl K) x q st f fd:=by
 obtain ⟨⟨oc,od,kV,doc,pm,an,cdv,ct,osl,e,lk,hcd⟩,kp⟩:=F;have l2:=J8 hp lk (by intro z;cases z);refine ⟨⟨oc,od,kV,doc,pm,an,cdv,ct,osl,e,l2,lH hp hcd⟩,?_⟩;unfold PySem.W.keepIn;simp only [l2]
theorem Z5:∀ {L:List (Str×Stmt)},K4 K L->K4 (cut pl K) L
 | [],_=>trivial
 | _::_,⟨⟨f,fd,a,F⟩,q⟩=>⟨⟨f,fd,Hq hp a,Tw hp F⟩,Z5 q⟩
theorem Z6:∀ {L:List Str},M7 K L->M7 (cut pl K) L
 | [],_=>trivial
 | _::_,⟨a,q⟩=>⟨Hq hp a,Z6 q⟩
mutual
theorem Z7:∀ (n:Nat) {u:Value}{d:D},rdV K n u=some d->rdV (cut pl K) n u=some d
 | n,.none,d,h=>by cases n <;> (simp only [rdV] at h ⊢;exact h)
 | n,.bool b,d,h=>by cases n <;> (simp only [rdV] at h ⊢;exact h)
 | n,.int i t,d,h=>by cases n <;> (simp only [rdV] at h ⊢;exact h)
 | n,.str x t,d,h=>by cases n <;> (simp only [rdV] at h ⊢;exact h)
 | 0,.ref a,d,h=>by simp only [rdV] at h;cases h
 | n+1,.ref a,d,h=>by
  simp only [rdV] at h ⊢;split at h
  ·rename_i c its ep sl hk;rw [J8 hp hk (by intro z;cases z)];dsimp only;split at h
   ·rename_i hc;rw [if_pos hc];split at h
    ·rename_i ds hd;rw [Vz n hd];exact h
    ·cases h
   ·cases h
  ·cases h
 | n,.float _ _,d,h=>by cases n <;> (simp only [rdV] at h;cases h)
 | n,.bytes _ _,d,h=>by cases n <;> (simp only [rdV] at h;cases h)
 | n,.ellipsis,d,h=>by cases n <;> (simp only [rdV] at h;cases h)
 | n,.notImplemented,d,h=>by cases n <;> (simp only [rdV] at h;cases h)
 | n,.type _,d,h=>by cases n <;> (simp only [rdV] at h;cases h)
 | n,.builtin _,d,h=>by cases n <;> (simp only [rdV] at h;cases h)
theorem Vz:∀ (n:Nat) {us:List Value}{ds:List D},O4 K n us=some ds->O4 (cut pl K) n us=some ds
 | n,[],ds,h=>by cases n <;> (simp only [O4] at h ⊢;exact h)
 | 0,_::_,ds,h=>by simp only [O4] at h;cases h
 | n+1,u::r,ds,h=>by
  simp only [O4] at h ⊢;split at h
  ·rename_i d hd;rw [Z7 n hd];dsimp only;split at h
   ·rename_i ds2 hd2;rw [Vz n hd2];exact h
   ·cases h
  ·cases h
end
theorem Z8:∀ {L:List (Str×D)},M6 K L->M6 (cut pl K) L
 | [],_=>trivial
 | _::_,⟨⟨u,a,b⟩,q⟩=>⟨⟨u,Hq hp a,Z7 hp 60 b⟩,Z8 q⟩
end
theorem uQ {pl:Addr}{K:PySem.W.Frag}(hp:K.lookup pl=some (PySem.W.tabObj #[])) {x:Str}(h:fW K x pl):fW (cut pl K) x pl:=by
 obtain ⟨f,o,fd,c,bm,ob,n1,n2,n3,n4,n5,b1,b2,b3,b4,b5,b6⟩:=h;exact ⟨f,o,fd,c,bm,ob,Hq hp n1,J8 hp n2 (by rw [n3];intro z;cases z),n3,n4,X6 hp n5,Hq hp b1,J8 hp b2 (by rw [b5];intro z;cases z),b3,b4,b5,b6⟩
theorem lJ {names:List (Str×NameKind)}{x:Str}(h:(x,NameKind.free)∈names):x∈uP names:=by
 have go:∀ (names:List (Str×NameKind)) (acc:List Str),(x∈acc\/(x,NameKind.free)∈names)->x∈names.foldl (fun c x=>if x.2==.free then x.1::c else c) acc:=by
  intro names
  induction names with
  | nil=>exact fun acc h=>h.elim id fun z=>by simp at z
  | cons y r ih =>
   intro acc h;refine ih _ ?_;rcases h with h|h
   ·left;show x∈(if (y.2==.free)=true then y.1::acc else acc);split
    ·exact List.mem_cons_of_mem _ h
    ·exact h
   ·rcases List.mem_cons.mp h with h|h
    ·left;subst h;show x∈(if (NameKind.free==.free)=true then x::acc else acc);rw [if_pos (by decide)];exact List.mem_cons_self
    ·exact .inr h
 exact go names [] (.inr h)
noncomputable def wZ (st:Stmt):CloI:={ ps:=(Bd st).ps,N:=(Bd st).N,fr:=uP (Ag st).names,scope:=Ag st,body:=Br st }
theorem Abf {N fr:List Str}{js:List Nat}(h:((js.zip fr).all fun p=>N[p.1]?==some p.2)=true):∀ (t j:Nat) (x:Str),js[t]?=some j->fr[t]?=some x->N[j]?=some x:=fun t j x h1 h2=>by
 have:=List.all_eq_true.mp h (j,x) (List.mem_of_getElem? (i:=t) (by rw [List.getElem?_zip_eq_some];exact ⟨h1,h2⟩));exact eq_of_beq this
theorem Z9 {K:PySem.W.Frag}{h:Heap}{mg:Str->Option Value}(X:K.In h) (G:h.Ns mainGlobals mg) {x:Str}{st:Stmt}{I:FnI}{m:MakI}(D:MakDef (Bd st) m st):∀ {L:List (Str×Stmt)},K4 K L->Z3 L->L.lookup x=some st->(L.lookup x).map Bd=some I ->
  ∃ (st:Stmt) (f:Addr) (fd:FuncData),mg x=some (.ref f)/\Fun K x x st f fd/\PySem.W.nsIn K mainGlobals x=some (some (.ref f))/\FnScope I.N I.ps (Ag st)/\I.scope=Ag st/\MakDef I m st/\∀ us:List Value,us.length=I.ps.length->bindArgs fd ⟨us,[]⟩=pure (I.ps.zip us)
 | [],_,_,e,_=>by cases e
 | (z,st')::L,⟨⟨f,fd,n,F⟩,q⟩,⟨s,t⟩,e,e2=>by
  simp only [List.lookup] at e e2;split at e
  ·rename_i hy;have hz:=eq_of_beq hy;subst hz;cases e;simp only [hy] at e2;cases e2;refine ⟨st,f,fd,PySem.W.mg_of X G n,F,n,s.1,rfl,D,fun us hu=>?_⟩;obtain ⟨oc,od,kV,doc,pm,an,cdv,ct,osl,rfl,_⟩:=F.ex;exact s.2 kV doc pm an cdv ct us hu
  ·rename_i hy;simp only [hy] at e2;exact Z9 X G D q t e e2
theorem Tz {K:PySem.W.Frag}{a:Addr}:PySem.W.typeIn K (.ref a)=(K.lookup a).map (·.cls):=rfl
section
variable {pl:Addr}{K:PySem.W.Frag}(hp:K.lookup pl=some (PySem.W.tabObj #[]))
include hp
theorem Ih (a:Addr):(cut pl K).lookup a=K.lookup a\/((cut pl K).lookup a=none/\K.lookup a=some (PySem.W.tabObj #[])):=by
 rw [Fw];split
 ·rename_i e;exact .inr ⟨rfl,by rw [e];exact hp⟩
 ·exact .inl rfl
theorem uR (a:Addr) (x:Str):PySem.W.nsIn (cut pl K) a x=PySem.W.nsIn K a x:=by
 unfold PySem.W.nsIn;rcases Ih hp a with e|⟨e1,e2⟩
 ·rw [e]
 ·rw [e1,e2]
theorem uU (x:Str) (v:Value):PySem.W.ownIn (cut pl K) x v=PySem.W.ownIn K x v:=by
 unfold PySem.W.ownIn;cases v with
 | ref a =>
  dsimp only;rcases Ih hp a with e|⟨e1,e2⟩
  ·rw [e];split
   ·exact uR hp _ _
   ·rfl
  ·rw [e1,e2]
 | _=>rfl
theorem Rt (x:Str):∀ l:List Value,PySem.W.alongIn (cut pl K) x l=PySem.W.alongIn K x l
 | []=>rfl
 | c::r=>by
  unfold PySem.W.alongIn;rw [uU hp,Rt x r]
theorem Fx (t:Value) (x:Str):PySem.W.findIn (cut pl K) t x=PySem.W.findIn K t x:=by
 unfold PySem.W.findIn;cases t with
 | ref a =>
  dsimp only;rcases Ih hp a with e|⟨e1,e2⟩
  ·rw [e];split
   ·exact Rt hp _ _
   ·rfl
  ·rw [e1,e2]
 | _=>rfl
theorem T3 (C:Addr):PySem.W.clsIn (cut pl K) C=PySem.W.clsIn K C:=by
 unfold PySem.W.clsIn;rcases Ih hp C with e|⟨e1,e2⟩
 ·rw [e]
 ·rw [e1,e2]
theorem Abg (C:Addr) (x:Str):PySem.W.plainGet (cut pl K) C x=PySem.W.plainGet K C x:=by
 unfold PySem.W.plainGet;rw [Fx hp,Fx hp]
theorem Abh (C:Addr):PySem.W.hasDictIn (cut pl K) C=PySem.W.hasDictIn K C:=by
 unfold PySem.W.hasDictIn;rw [T3 hp]
theorem Abi (C:Addr):PySem.W.plainOver (cut pl K) C=PySem.W.plainOver K C:=by
 unfold PySem.W.plainOver;rw [T3 hp]
theorem lK {a:Addr}(h:PySem.W.isFn K (.ref a)=true):PySem.W.isFn (cut pl K) (.ref a)=true:=by
 unfold PySem.W.isFn at h ⊢;rw [Tz] at h ⊢;rcases Ih hp a with e|⟨e1,e2⟩
 ·rw [e];exact h
 ·rw [e2] at h;simp [PySem.W.tabObj] at h
theorem M8 {a:Addr}{x:Str}{r:Option Value}(n:∃ oc od cd sl,K.lookup a=some ⟨oc,od,.cls cd,sl⟩) (h:PySem.W.specialIn K (.ref a) x=some r):PySem.W.specialIn (cut pl K) (.ref a) x=some r:=by
 obtain ⟨oc,od,cd,sl,n⟩:=n;unfold PySem.W.specialIn at h ⊢;rw [Tz] at h ⊢;rcases Ih hp a with e|⟨e1,e2⟩
 ·rw [e];rw [n,Option.map_some,Option.bind_some] at h ⊢;rw [Fx hp];exact h
 ·rw [n] at e2;cases e2
theorem V0 {a:Addr}(h:PySem.W.keepIn K (.ref a)=true):PySem.W.keepIn (cut pl K) (.ref a)=true:=by
 unfold PySem.W.keepIn at h ⊢;dsimp only at h ⊢;rcases Ih hp a with e|⟨e1,e2⟩
 ·rw [e];split at h
  ·rename_i hk
   first | rfl | (rw [hk])
  ·rename_i hk
   try rw [hk]
   try dsimp only
   rw [beq_iff_eq] at h ⊢;exact M8 hp ⟨_,_,_,_,hk⟩ h
  ·cases h
 ·rw [e2] at h;cases h
theorem cW {C:Addr}(h:PySem.W.makesIn K C=true):PySem.W.makesIn (cut pl K) C=true:=by
 unfold PySem.W.makesIn at h ⊢;rcases Ih hp C with e|⟨e1,e2⟩
 ·rw [e];split at h
  ·rename_i cd sl hk
   try rw [hk]
   try dsimp only
   simp only [Bool.and_eq_true,beq_iff_eq] at h ⊢;refine ⟨⟨h.1.1,M8 hp ⟨_,_,_,_,hk⟩ h.1.2⟩,?_⟩;have h2:=h.2;unfold PySem.W.instIn at h2 ⊢;rw [Tz] at h2 ⊢;rw [e];rw [hk,Option.map_some,Option.bind_some] at h2 ⊢;unfold PySem.W.subIn at h2 ⊢;split at h2
   ·exact h2
   ·unfold PySem.W.mroIn at h2 ⊢;rw [T3 hp];exact h2
   ·exact h2
  ·cases h
 ·rw [e2] at h;cases h
theorem T4 {C:Addr}(c:Cls K C):Cls (cut pl K) C:=⟨(Abg hp _ _).trans c.pg,(Abh hp _).trans c.hd,(Abi hp _).trans c.po,(Fx hp _ _).trans c.sa⟩
theorem lM {C f:Addr}{m:Str}(c:Meth K C m f):Meth (cut pl K) C m f:=⟨(Fx hp _ _).trans c.at_,lK hp c.fn,V0 hp c.kp⟩
theorem Abj {C f:Addr}(c:Mk K C f):Mk (cut pl K) C f:=⟨cW hp c.makes,(Fx hp _ _).trans c.init,lK hp c.fn,V0 hp c.kp⟩
theorem lN {C:Addr}{f:Str}(c:Eg K C f):Eg (cut pl K) C f:=(Fx hp _ _).trans c
end
theorem Afb {l:PySem.W.OpenLaw}{q:Program}{loose:List Str}{XP:(Str->Option Value)->Heap->Prop}{YP:World->Heap->Prop}{d:DefRec}{K:Params->PySem.W.Frag}{Tt:Tb}{I:FnI}{m:MakI}{x:Str}(k:Nat)
  (hn:l.most=some 63) (hdf:d.params.defaults=[]) (hY:∀ (w:World) (h:Heap),YP w h->(K w.params).In h) (hr:Room (k+3) callerA)
  (hI:Tt.tb d.name=some I) (hps:I.ps=[x]) (hm:Tt.mak d.name=some m)
  (T:∀ (w:World) (mg:Str->Option Value) (h:Heap),(K w.params).In h->h.Ns mainGlobals mg->∃ pl,(K w.params).lookup pl=some (PySem.W.tabObj #[])/\fW (K w.params) d.name pl/\TbOk w (cut pl (K w.params)) mg Tt)
  (main:∀ ns:List Int,ns.length<=63->∃ mh',Lx (GkN Tt k) fuel d.name I m [.rol (ns.map D.int)] [.plq d.name]=some (.bl true,mh')) :
  PySem.W.WalkO q loose XP YP l.row.toRowW d [] (fun f vs=>PySem.call f vs):=by
 refine Att.attach_call hn hdf fun w s₀ s₁ mg mb fa o pm cd doc a vs ns G Y ho hd hcd hmg hobj hints hlen hg=>?_
 have KX:=hY w _ Y;obtain ⟨pl,hp,pk,tb⟩:=T w mg _ KX G.T.g;have ck:=lG (pl:=pl) KX;obtain ⟨st,f,fd,h1,h2,hns,h3,h4,h5,h6⟩:=tb.mak _ _ hm _ hI;rw [hmg] at h1;cases h1;have ct:isCodeTable s₁.heap pl:=by
  obtain ⟨f,o,fd,c,bm,ob,n1,n2,n3,n4,n5,_⟩:=pk;obtain ⟨o,vs,_,_,_,_,_,_,_,e1,e2,e3,e4,_⟩:=PySem.W.codeHd_of_K KX n5;exact ⟨c,o,vs,e1,e2,e3,e4⟩
 refine L2.cV (x:=x) (k:=k+3) (CX:=CX0) (fd:=fd) (sp:=spD (cut pl (K w.params)) 1 (Lx (GkN Tt k) fuel d.name I m)) ck (by rw [Fw,if_pos rfl]) (KX _ _ hp) ct G.T.g G.T.b G.T.builtins G.T.nolimit hg hobj hints (Nat.le_trans hlen (by decide)) hr (fun base hKb hNb=>?_) (fun s u=>.of_eq ?_) (fun H hP hS=>?_) fun _ _ _ z=>z
 ·have:=kY (P:=l.prog) (w:=w) (base:=base) (gok tb k) h2 hns h3 h4 h5 fuel;rw [hps] at this;exact this
 ·have:=h6 [u] (by rw [hps];rfl);rw [hps] at this;exact this
 ·obtain ⟨mh',e⟩:=main ns hlen;refine ⟨rfl,[pl],[.plq d.name],[.rol (ns.map D.int)],.bl true,mh',e,⟨rfl,List.pairwise_singleton _ _,fun n a o e1 e2=>?_⟩,.cons (.rol hS (RDs.ints ns)) .nil,fun H' ρ' v _ _ r=>by cases r;rfl⟩;cases n with
  | zero =>
   cases e1;cases e2;exact ⟨#[],hP,trivial,fun pos v z=>(by cases z),uQ hp pk⟩
  | succ n=>cases e1
section
variable {loc:DL.Loc}{mh:MH}{ma mb:DM D}{mr:DM (List D)}{t u:DM Bool}{m1 m2:SM}
theorem Afc (i:Nat):vr i loc mh=(match loc[i]? with | some (some d)=>some (d,mh) | _=>none):=by kernel_rfl
theorem uV:G6 ma loc mh=(match ma loc mh with | none=>none | some (x,h)=>(match gG x h with | some k=>some (k,h) | none=>none)):=by kernel_rfl
theorem lO (T:String) (f:D->List D->MH->Option (D×MH)):Cu T f ma mr loc mh=(match ma loc mh with | none=>none | some (x,h)=>if bR T x h=true then (match mr loc h with | none=>none | some (ds,h2)=>f x ds h2) else none):=by kernel_rfl
theorem uW (g:GM):Az ma g loc mh=(match ma loc mh with | some (d,h)=>(match g d loc h with | some (l,h')=>some (.nx,l,h') | none=>none) | none=>none):=by kernel_rfl
theorem lQ:ifS t m1 m2 loc mh=(match t loc mh with | some (k,h)=>if k=true then m1 loc h else m2 loc h | none=>none):=by kernel_rfl
theorem uX:retS ma loc mh=(match ma loc mh with | some (d,h)=>some (.rt d,loc,h) | none=>none):=by kernel_rfl
theorem lR:Fv ma loc mh=(match ma loc mh with | some (_,h)=>some (.nx,loc,h) | none=>none):=by kernel_rfl
theorem aA:Ab m1 m2 loc mh=(match m1 loc mh with | some (.nx,l,h)=>m2 l h | r=>r):=by kernel_rfl
theorem uY:Ep ma loc mh=(match ma loc mh with | none=>none | some (x,h)=>(match srcOf x h with | some s=>some (s,h) | none=>none)):=by kernel_rfl
theorem uZ (f:List D->Option Src):J5 f mr loc mh=(match mr loc mh with | none=>none | some (ds,h)=>(match f ds with | some s=>some (s,h) | none=>none)):=by
 unfold J5 DM.bnd;cases mr loc mh with
 | none=>rfl
 | some p =>
  obtain ⟨ds,h⟩:=p;dsimp only;cases f ds <;> rfl
theorem lU:Kp (some ma) loc mh=(match ma loc mh with | some (.int i,h)=>some (some i,h) | _=>none):=by
 show (ma.bnd _) loc mh=_;unfold DM.bnd;cases ma loc mh with
 | none=>rfl
 | some p =>
  obtain ⟨x,h⟩:=p;cases x <;> rfl
theorem lV:Kw ma loc mh=(match ma loc mh with | none=>none | some (x,h)=>(match srcOf x h with | some s=>some (.enum s,h) | none=>none)):=by kernel_rfl
end
theorem Abk (C:Int->Int->Bool) (g:Int->Int->Int) (i j:Int) (mh:MH):iop C g (.int i) (.int j) mh=if C i j=true then some (.int (g i j),mh) else none:=by kernel_rfl
theorem lW {j:Int}(h0:0<=j) (h:j<=1000000):Jp [.int j]=some (.seq (Bt 0 j.toNat)):=by
 have e2:-(2 ^ 62)<=j/\j < 2 ^ 62:=by omega
 unfold Jp;dsimp only;rw [if_pos e2]
theorem Du {B:Nat}(h:B<=1000000):Jp [.int B]=some (.seq (Bt 0 B)):=by rw [lW (by omega) (by omega),Int.toNat_natCast]
theorem Fy (lo:Int) (n:Nat):(Bt lo n).length=n:=by unfold Bt;rw [List.length_map,List.length_range]
theorem le_size {n:Nat}(h:n<=1000000):n<=sizeLine:=by rw [sizeLine_eq];omega
theorem lt_size {n:Nat}(h:n<=1000000):n < sizeLine:=by rw [sizeLine_eq];omega
theorem lX {ds:List D}{mh:MH}(h:ds.length<=1000000):Ra ds mh=some (.tup ds,mh):=by unfold Ra;rw [if_pos (le_size h)]
theorem lY {ds:List D}{mh:MH}(h:ds.length<=1000000):Rb ds mh=some (.ref mh.length,mh++[.lst ds]):=by unfold Rb;rw [if_pos (le_size h)]
theorem X7 {n:Nat}{ds:List D}{y:D}{mh:MH}(e:mh[n]?=some (.lst ds)) (h:ds.length<=1000000):Cy (.ref n) [y] mh=some (.non,mh.set n (.lst (ds++[y]))):=by
 simp only [Cy,e,if_pos (lt_size h)]
theorem lZ {n m:Nat}{xs ys:List D}{mh:MH}(e1:mh[n]?=some (.lst xs)) (e2:mh[m]?=some (.lst ys)) (h:xs.length+ys.length<=1000000):Bm (.ref n) (.ref m) mh=some (.ref mh.length,mh++[.lst (xs++ys)]):=by
 simp only [Bm,e1,e2,if_pos (le_size h)]
theorem Ja (mh:MH) (n:Nat):∀ ns:List Int,Df (py mh n) (ns.map D.int)=some (ns.map PyData.int)
 | []=>rfl
 | a::r=>by
  have e:py mh n (.int a)=some (.int a):=by cases n <;> rfl
  simp only [List.map_cons,Df,e,Ja mh n r]
theorem vA {mh:MH}{n k:Nat}{ns:List Int}(h:mh[k]?=some (.lst (ns.map D.int))):py mh (n+1) (.ref k)=some (.list (ns.map PyData.int)):=by
 simp only [py,h,Ja]
theorem M9:∀ xs ys:List Int,PyData.eqvAll (xs.map PyData.int) (ys.map PyData.int)=(xs==ys)
 | [],[]=>by simp [PyData.eqvAll]
 | [],_::_=>by simp [PyData.eqvAll]
 | _::_,[]=>by simp [PyData.eqvAll]
 | a::r,b::t=>by simp only [List.map_cons,PyData.eqvAll,PyData.eqv,M9 r t];rfl
theorem V1 {mh:MH}{k:Nat}{xs:List Int}{a:Int}(h:mh[k]?=some (.lst (xs.map D.int))):inD false (.int a) (.ref k) mh=some (.bl (decide (a∈xs)),mh):=by
 have e:py mh 60 (.int a)=some (.int a):=rfl;simp only [inD,Lr h,gK,inB,e,vA h];have:(List.map PyData.int xs).any (fun y=>PyData.eqv y (.int a))=decide (a∈xs):=by
  rw [List.any_map,Bool.eq_iff_iff,List.any_eq_true,decide_eq_true_iff];constructor
  ·rintro ⟨x,hx,e⟩;have e:(x==a)=true:=e;rw [← eq_of_beq e];exact hx
  ·intro hx;exact ⟨a,hx,(beq_self_eq_true a:(a==a)=true)⟩
 rw [this];rfl
end DL
namespace DL
open PySem L2 PyProof.Rows
noncomputable abbrev Ae (n:Nat):D:=.int (n:Int)
noncomputable def Ka (g n:Nat):List Nat:=(List.range n).filter fun i=>g.testBit i
theorem X8 {g n i:Nat}:i∈Ka g n ↔ i < n/\g.testBit i=true:=by unfold Ka;simp
theorem bits_le {g n:Nat}(h:g < 2 ^ n):Builtin.Int.intBits (g:Int)<=n:=by
 unfold Builtin.Int.intBits
 by_cases hg:g=0
 ·subst hg;simp
 ·have:¬ (((g:Int)==0)=true):=by simpa using hg
  rw [if_neg this,Int.natAbs_natCast];have:=(Nat.log2_lt hg).mpr h;omega
theorem Pr (g n:Nat):(Ka g n).length<=n:=by
 unfold Ka;have:=List.length_filter_le (fun i=>g.testBit i) (List.range n)
 simpa using this
noncomputable def setOf (l:List Nat):Nat:=l.foldl (fun a h=>a ||| 2 ^ h) 0
theorem K5 (i:Nat):∀ (l:List Nat) (a:Nat),(l.foldl (fun a h=>a ||| 2 ^ h) a).testBit i=(a.testBit i || decide (i∈l))
 | [],a=>by simp
 | h::r,a=>by
  rw [List.foldl_cons,K5 i r,Nat.testBit_or,Nat.testBit_two_pow];have e:decide (h=i)=decide (i=h):=by simp [eq_comm]
  rw [e]
  by_cases e1:i=h
  ·simp [e1]
  ·by_cases e2:i∈r <;> simp [e1,e2]
theorem Qw (l:List Nat) (i:Nat):(setOf l).testBit i=decide (i∈l):=by unfold setOf;rw [K5];simp
theorem cX (a b:Nat):Builtin.bitOr (a:Int) (b:Int)=((a ||| b:Nat):Int):=by
 rw [bitOr_and,bitAnd_pp (by omega) (by omega)];have:=nat_or_add_and a b;simp only [Int.toNat_natCast];omega
theorem vB (s h:Nat):(Builtin.bitAnd ((s:Int) / 2 ^ (h:Int).toNat) 1==1)=s.testBit h:=by
 rw [bitAnd_m1,Int.toNat_natCast];rw [Nat.testBit_eq_decide_div_mod_eq];have e:((s:Int) / 2 ^ h) % 2=((s / 2 ^ h % 2:Nat):Int):=by
  rw [Int.natCast_emod,Int.natCast_ediv,Int.natCast_pow];rfl
 rw [e,Bool.eq_iff_iff,decide_eq_true_iff,beq_iff_eq];omega
end DL
namespace DL
open PySem L2
noncomputable def wD {α:Type}(m:DM α) (loc:DL.Loc) (mh:MH) (P:α->MH->Prop):Prop:=∃ a h,m loc mh=some (a,h)/\P a h
noncomputable def wV (r:Option (D×MH)) (P:D->MH->Prop):Prop:=∃ d h,r=some (d,h)/\P d h
noncomputable def wG (r:Option (DL.Loc×MH)) (P:DL.Loc->MH->Prop):Prop:=∃ l h,r=some (l,h)/\P l h
noncomputable def wS (m:SM) (loc:DL.Loc) (mh:MH) (P:Fl->DL.Loc->MH->Prop):Prop:=∃ f l h,m loc mh=some (f,l,h)/\P f l h
section
variable {loc:DL.Loc}{mh:MH}{ma mb mc:DM D}{mr:DM (List D)}{t u:DM Bool}{P:D->MH->Prop}{B:Bool->MH->Prop}
theorem Bg {α:Type}{m:DM α}{P Q:α->MH->Prop}(h:wD m loc mh P) (i:∀ a h,P a h->Q a h):wD m loc mh Q:=let ⟨a,h',e,p⟩:=h;⟨a,h',e,i a h' p⟩
theorem Ax {i:Nat}{d:D}(e:loc[i]?=some (some d)) (h:P d mh):wD (vr i) loc mh P:=⟨d,mh,by rw [Afc,e],h⟩
theorem Ai {α:Type}{a:α}{P:α->MH->Prop}(h:P a mh):wD (Zr a) loc mh P:=⟨a,mh,rfl,h⟩
theorem vC {f:MH->Option (D×MH)}(h:wV (f mh) P):wD (Zl f) loc mh P:=h
theorem Bv {α β:Type}{m:DM α}{f:α->DM β}{P:β->MH->Prop}(h:wD m loc mh fun a h1=>wD (f a) loc h1 P):wD (m.bnd f) loc mh P:=by
 obtain ⟨a,h1,e1,b,h2,e2,p⟩:=h;exact ⟨b,h2,by unfold DM.bnd;rw [e1];exact e2,p⟩
theorem Bj {f:D->D->MH->Option (D×MH)}(h:wD ma loc mh fun x h1=>wD mb loc h1 fun y h2=>wV (f x y h2) P):wD (dop f ma mb) loc mh P:=Bv (Bg h fun _ _ q=>Bv (Bg q fun _ _ z=>z))
theorem Am {P:List D->MH->Prop}(h:wD ma loc mh fun x h1=>wD mr loc h1 fun xs h2=>P (x::xs) h2):wD (Aa ma mr) loc mh P:=Bv (Bg h fun _ _ q=>Bv (Bg q fun _ _ z=>Ai z))
theorem Bu {f:Fn}(h:wD mr loc mh fun ds h1=>wV (f ds h1) P):wD (Ad f mr) loc mh P:=Bv (Bg h fun _ _ q=>q)
theorem mC (h:wD mr loc mh fun ds h1=>ds.length<=1000000/\P (.tup ds) h1):wD (Bo mr) loc mh P:=Bv (Bg h fun _ _ q=>⟨_,_,lX q.1,q.2⟩)
theorem Pu (h:wD mr loc mh fun ds h1=>ds.length<=1000000/\P (.ref h1.length) (h1++[.lst ds])):wD (lstM mr) loc mh P:=Bv (Bg h fun _ _ q=>⟨_,_,lY q.1,q.2⟩)
theorem mD (h:wD ma loc mh fun x h1=>∃ i,x=.int i/\P (.int (-i)) h1):wD (Np ma) loc mh P:=Bv (Bg h fun _ _ ⟨i,e,q⟩=>by subst e;exact ⟨_,_,rfl,q⟩)
theorem Abl {T:String}(h:wD ma loc mh fun x h1=>wV (Va T x h1) P):wD (Abe T ma) loc mh P:=Bv (Bg h fun _ _ q=>q)
theorem Yb (h:wD ma loc mh fun x h1=>wV (Er x h1) P):wD (Pq ma) loc mh P:=Bv (Bg h fun _ _ q=>q)
theorem Bx (h:wD ma loc mh fun x h1=>∃ k,x=.bl k/\B k h1):wD (Ah ma) loc mh B:=Bv (Bg h fun _ _ ⟨k,e,q⟩=>by subst e;exact Ai q)
theorem Dv (h:wD ma loc mh fun x h1=>∃ k,gG x h1=some k/\B k h1):wD (G6 ma) loc mh B:=by
 obtain ⟨x,h1,e,k,ek,q⟩:=h;exact ⟨k,h1,by rw [uV,e];dsimp only;rw [ek],q⟩
theorem Dk (h:wD t loc mh fun k h1=>B (!k) h1):wD (Hv t) loc mh B:=Bv (Bg h fun _ _ q=>Ai q)
theorem T5 (h:wD t loc mh fun k h1=>(k=true->wD u loc h1 B)/\(k=false->B false h1)):wD (Dr t u) loc mh B:=Bv (Bg h fun k _ q=>by
 cases k with
 | true=>exact q.1 rfl
 | false=>exact Ai (q.2 rfl))
theorem Kc (h:wD t loc mh fun k h1=>(k=true->B true h1)/\(k=false->wD u loc h1 B)):wD (J1 t u) loc mh B:=Bv (Bg h fun k _ q=>by
 cases k with
 | true=>exact Ai (q.1 rfl)
 | false=>exact q.2 rfl)
theorem vD (h:wD ma loc mh fun x h1=>∃ k,x=.bl k/\(k=true->wD mb loc h1 P)/\(k=false->P (.bl false) h1)):wD (Fo ma mb) loc mh P:=Bv (Bx (Bg h fun _ _ ⟨k,e,q⟩=>⟨k,e,by
 cases k with
 | true=>exact q.1 rfl
 | false=>exact Ai (q.2 rfl)⟩))
theorem mF (h:wD t loc mh fun k h1=>(k=true->wD ma loc h1 P)/\(k=false->wD mb loc h1 P)):wD (dIf t ma mb) loc mh P:=Bv (Bg h fun k _ q=>by
 cases k with
 | true=>exact q.1 rfl
 | false=>exact q.2 rfl)
theorem V2 {f f':D->D->MH->Option (D×MH)}(h:wD ma loc mh fun x h1=>wD mb loc h1 fun y h2=>wV (f x y h2) fun z h3=>∃ k,z=.bl k/\(k=true->wD mc loc h3 fun w h4=>wV (f' y w h4) P)/\(k=false->P (.bl false) h3)):wD (Hl f f' ma mb mc) loc mh P :=
 Bv (Bg h fun _ _ q=>Bv (Bg q fun _ _ z=>Bv (Bx (Bg (vC z) fun _ _ ⟨k,e,q⟩=>⟨k,e,by
  cases k with
  | true=>exact Bv (Bg (q.1 rfl) fun _ _ w=>w)
  | false=>exact Ai (q.2 rfl)⟩))))
theorem T6 {T:String}{f:D->List D->MH->Option (D×MH)}(h:wD ma loc mh fun x h1=>bR T x h1=true/\wD mr loc h1 fun ds h2=>wV (f x ds h2) P):wD (Cu T f ma mr) loc mh P:=by
 obtain ⟨x,h1,e1,ht,ds,h2,e2,d,h3,e3,p⟩:=h;exact ⟨d,h3,by rw [lO,e1];dsimp only;rw [if_pos ht,e2];exact e3,p⟩
theorem mG {O:Option Int->MH->Prop}(h:O none mh):wD (Kp none) loc mh O:=⟨none,mh,rfl,h⟩
theorem mH {O:Option Int->MH->Prop}(h:wD ma loc mh fun x h1=>∃ i,x=.int i/\O (some i) h1):wD (Kp (some ma)) loc mh O:=by
 obtain ⟨x,h1,e,i,rfl,q⟩:=h;exact ⟨some i,h1,by rw [lU,e],q⟩
theorem Afd {ml mu:Option (DM D)}(h:wD ma loc mh fun x h1=>wD (Kp ml) loc h1 fun l h2=>wD (Kp mu) loc h2 fun r h3=>wV (slD x l r h3) P):wD (dSl ma ml mu) loc mh P :=
 Bv (Bg h fun _ _ q=>Bv (Bg q fun _ _ z=>Bv (Bg z fun _ _ w=>w)))
theorem Px {R:Src->MH->Prop}(h:wD ma loc mh fun x h1=>∃ s,srcOf x h1=some s/\R s h1):wD (Ep ma) loc mh R:=by
 obtain ⟨x,h1,e,s,es,q⟩:=h;exact ⟨s,h1,by rw [uY,e];dsimp only;rw [es],q⟩
theorem vG {R:Src->MH->Prop}(h:wD ma loc mh fun x h1=>∃ s,srcOf x h1=some s/\R (.enum s) h1):wD (Kw ma) loc mh R:=by
 obtain ⟨x,h1,e,s,es,q⟩:=h;exact ⟨.enum s,h1,by rw [lV,e];dsimp only;rw [es],q⟩
theorem mJ {R:Src->MH->Prop}{f:List D->Option Src}(h:wD mr loc mh fun ds h1=>∃ s,f ds=some s/\R s h1):wD (J5 f mr) loc mh R:=by
 obtain ⟨x,h1,e,s,es,q⟩:=h;exact ⟨s,h1,by rw [uZ,e];dsimp only;rw [es],q⟩
end
noncomputable def Xf (m2:SM) (P:Fl->DL.Loc->MH->Prop) (f:Fl) (l:DL.Loc) (h:MH):Prop:=match f with
 | .nx=>wS m2 l h P
 | f=>P f l h
section
variable {loc l:DL.Loc}{mh h1:MH}{me:DM D}{m1 m2:SM}{g:GM}{t:DM Bool}{P:Fl->DL.Loc->MH->Prop}
theorem Ao (h:wS m1 loc mh (Xf m2 P)):wS (Ab m1 m2) loc mh P:=by
 obtain ⟨f,l,h1,e,q⟩:=h;cases f with
 | nx =>
  obtain ⟨f',l',h',e',p⟩:=q;exact ⟨f',l',h',by rw [aA,e];exact e',p⟩
 | _=>exact ⟨_,l,h1,by rw [aA,e],q⟩
theorem Ak (h:wS m2 l h1 P):Xf m2 P .nx l h1:=h
theorem vH {d:D}(h:P (.rt d) l h1):Xf m2 P (.rt d) l h1:=h
theorem Be (h:P .nx loc mh):wS Zn loc mh P:=⟨_,_,_,rfl,h⟩
theorem Dc (h:wD me loc mh fun d h1=>wG (g d loc h1) fun l h2=>P .nx l h2):wS (Az me g) loc mh P:=by
 obtain ⟨d,h1,e1,l,h2,e2,p⟩:=h;exact ⟨.nx,l,h2,by rw [uW,e1];dsimp only;rw [e2],p⟩
theorem Gw (h:wD me loc mh fun d h1=>P (.rt d) loc h1):wS (retS me) loc mh P:=by
 obtain ⟨d,h1,e1,p⟩:=h;exact ⟨.rt d,loc,h1,by rw [uX,e1],p⟩
theorem vI (h:wD me loc mh fun _ h1=>P .nx loc h1):wS (Fv me) loc mh P:=by
 obtain ⟨d,h1,e1,p⟩:=h;exact ⟨.nx,loc,h1,by rw [lR,e1],p⟩
theorem Cv (h:wD t loc mh fun k h1=>(k=true->wS m1 loc h1 P)/\(k=false->wS m2 loc h1 P)):wS (ifS t m1 m2) loc mh P:=by
 obtain ⟨k,h1,e1,a,b⟩:=h;cases k with
 | true =>
  obtain ⟨f,l,h',e,p⟩:=a rfl;exact ⟨f,l,h',by rw [lQ,e1];exact e,p⟩
 | false =>
  obtain ⟨f,l,h',e,p⟩:=b rfl;exact ⟨f,l,h',by rw [lQ,e1];exact e,p⟩
theorem Bc {i:Nat}{d:D}{R:DL.Loc->MH->Prop}(h:R (loc.set i (some d)) mh):wG (Ar i d loc mh) R:=⟨_,_,rfl,h⟩
theorem mK {is:List Nat}{ds:List D}{R:DL.Loc->MH->Prop}(hl:ds.length=is.length) (h:R (Ov is ds loc) mh):wG (U6 is (.tup ds) loc mh) R:=⟨_,_,if_pos hl,h⟩
theorem Abm {mo mi:DM D}{v:D}{R:DL.Loc->MH->Prop}(h:wD mo loc mh fun o h1=>wD mi loc h1 fun i h2=>∃ h3,U7 o i v h2=some h3/\R loc h3):wG (Rf mo mi v loc mh) R:=by
 obtain ⟨o,h1,e1,i,h2,e2,h3,e3,p⟩:=h;refine ⟨loc,h3,?_,p⟩;unfold Rf;rw [e1];dsimp only;rw [e2];dsimp only;rw [e3]
theorem mL {n:Nat}{ds:List D}{k:Nat}{v:D}{h:MH}(e:h[n]?=some (.lst ds)) (hk:k < ds.length):U7 (.ref n) (.int k) v h=some (h.set n (.lst (ds.set k v))):=by
 have e2:ixN ds.length (k:Int)=some k:=by unfold ixN;rw [if_pos (by omega),if_pos (by omega)];simp
 simp only [U7,e,e2]
noncomputable def Abn (J:DL.Loc->MH->Prop) (P:Fl->DL.Loc->MH->Prop) (f:Fl) (l:DL.Loc) (h:MH):Prop:=match f with
 | .nx=>J l h
 | .ct=>J l h
 | .bk=>P .nx l h
 | .rt d=>P (.rt d) l h
theorem Yc {src:Src}{ds:List D}{body:SM}(J:Nat->DL.Loc->MH->Prop) (keep:∀ i l h,J i l h->src.ok h=true/\src.items h=ds)
  (step:∀ i d l h,ds[i]?=some d->J i l h->wG (g d l h) fun l1 h1=>wS body l1 h1 (Abn (J (i+1)) P)) (fin:∀ l h,J ds.length l h->P .nx l h) :
  ∀ (k i:Nat) (l:DL.Loc) (h:MH),i+k=ds.length->J i l h->wS (Nm src g body k i) l h P
 | 0,i,l,h,e,j=>by
  have e:i=ds.length:=by omega
  subst e;have s:src.stop h ds.length=true:=by
   unfold Src.stop;rw [(keep _ _ _ j).1,(keep _ _ _ j).2,Bool.true_and];exact decide_eq_true (Nat.le_refl _)
  exact ⟨.nx,l,h,by simp only [Nm,s,if_true],fin _ _ j⟩
 | k+1,i,l,h,e,j=>by
  have hi:i < ds.length:=by omega
  have eg:src.get h i=some ds[i]:=by
   unfold Src.get;rw [(keep _ _ _ j).2,List.getElem?_eq_getElem hi]
  obtain ⟨l1,h1,e1,f,l2,h2,e2,q⟩:=step i ds[i] l h (List.getElem?_eq_getElem hi) j;cases f with
  | nx =>
   obtain ⟨f',l',h',e',p⟩:=Yc J keep step fin k (i+1) l2 h2 (by omega) q;exact ⟨f',l',h',by simp only [Nm,eg,e1,e2];exact e',p⟩
  | ct =>
   obtain ⟨f',l',h',e',p⟩:=Yc J keep step fin k (i+1) l2 h2 (by omega) q;exact ⟨f',l',h',by simp only [Nm,eg,e1,e2];exact e',p⟩
  | bk=>exact ⟨.nx,l2,h2,by simp only [Nm,eg,e1,e2],q⟩
  | rt d=>exact ⟨.rt d,l2,h2,by simp only [Nm,eg,e1,e2],q⟩
theorem Hr {mi:DM Src}{body:SM}(h:wD mi loc mh fun src h0=>∃ ds,∃ J:Nat->DL.Loc->MH->Prop,J 0 loc h0/\(∀ i l h,J i l h->src.ok h=true/\src.items h=ds) /\
  (∀ i d l h,ds[i]?=some d->J i l h->wG (g d l h) fun l1 h1=>wS body l1 h1 (Abn (J (i+1)) P))/\∀ l h,J ds.length l h->P .nx l h):wS (Hw mi g body) loc mh P:=by
 obtain ⟨src,h0,e,ds,J,j0,keep,step,fin⟩:=h;have el:(src.items h0).length=ds.length:=by rw [(keep _ _ _ j0).2]
 obtain ⟨f,l,h',e',p⟩:=Yc J keep step fin ds.length 0 loc h0 (by omega) j0;refine ⟨f,l,h',?_,p⟩;unfold Hw;rw [e];dsimp only;rw [el];exact e'
theorem T7 {src:Src}{ds:List D}{tc:DM Bool}{e:DM D}{R:List D->MH->Prop}(J:Nat->List D->MH->Prop) (keep:∀ i acc h,J i acc h->src.ok h=true/\src.items h=ds) (hz:ds.length<=1000000) (small:∀ i acc h,J i acc h->acc.length<=i)
  (step:∀ i d acc h,ds[i]?=some d->J i acc h->wG (g d loc h) fun l1 h1=>wD tc l1 h1 fun c h2=>(c=true->wD e l1 h2 fun y h3=>J (i+1) (acc++[y]) h3)/\(c=false->J (i+1) acc h2)) (fin:∀ acc h,J ds.length acc h->R acc h) :
  ∀ (k i:Nat) (acc:List D) (h:MH),i+k=ds.length->J i acc h->∃ acc' h',Jr src g tc e loc k i acc h=some (acc',h')/\R acc' h'
 | 0,i,acc,h,q,j=>by
  have q:i=ds.length:=by omega
  subst q;have s:src.stop h ds.length=true:=by
   unfold Src.stop;rw [(keep _ _ _ j).1,(keep _ _ _ j).2,Bool.true_and];exact decide_eq_true (Nat.le_refl _)
  exact ⟨acc,h,by simp only [Jr,s,if_true],fin _ _ j⟩
 | k+1,i,acc,h,q,j=>by
  have hi:i < ds.length:=by omega
  have eg:src.get h i=some ds[i]:=by
   unfold Src.get;rw [(keep _ _ _ j).2,List.getElem?_eq_getElem hi]
  obtain ⟨l1,h1,e1,c,h2,e2,a,b⟩:=step i ds[i] acc h (List.getElem?_eq_getElem hi) j;cases c with
  | true =>
   obtain ⟨y,h3,e3,j3⟩:=a rfl;obtain ⟨acc',h',e',p⟩:=T7 J keep hz small step fin k (i+1) _ h3 (by omega) j3;have hl:acc.length < sizeLine:=lt_size (by have:=small _ _ _ j;omega);exact ⟨acc',h',by simp only [Jr,eg,e1,e2,if_true,e3,if_pos hl];exact e',p⟩
  | false =>
   obtain ⟨acc',h',e',p⟩:=T7 J keep hz small step fin k (i+1) _ h2 (by omega) (b rfl);exact ⟨acc',h',by simp only [Jr,eg,e1,e2,Bool.false_eq_true,if_false];exact e',p⟩
theorem T8 {mi:DM Src}{cs:List (Option Nat)}{tc:DM Bool}{e:DM D}{Q:D->MH->Prop}(h:wD mi loc mh fun src h0=>∃ ds,∃ J:Nat->List D->MH->Prop,ds.length<=1000000/\J 0 [] h0/\(∀ i acc h,J i acc h->src.ok h=true/\src.items h=ds)/\(∀ i acc h,J i acc h->acc.length<=i) /\
  (∀ i d acc h,ds[i]?=some d->J i acc h->wG (g d (Qp cs loc) h) fun l1 h1=>wD tc l1 h1 fun c h2=>(c=true->wD e l1 h2 fun y h3=>J (i+1) (acc++[y]) h3)/\(c=false->J (i+1) acc h2)) /\
  ∀ acc h,J ds.length acc h->Q (.ref h.length) (h++[.lst acc])):wD (Di mi cs g tc e) loc mh Q:=by
 obtain ⟨src,h0,e0,ds,J,hz,j0,keep,small,step,fin⟩:=h;have el:(src.items h0).length=ds.length:=by rw [(keep _ _ _ j0).2]
 obtain ⟨acc,h',e',p⟩:=T7 J keep hz small step fin ds.length 0 [] h0 (by omega) j0;refine ⟨.ref h'.length,h'++[.lst acc],?_,p⟩;unfold Di;rw [e0];dsimp only;rw [el,e']
end
noncomputable def whK (J:Nat->DL.Loc->MH->Prop) (n:Nat) (P:Fl->DL.Loc->MH->Prop) (f:Fl) (l:DL.Loc) (h:MH):Prop:=match f with
 | .nx=>∃ m,m < n/\J m l h
 | .ct=>∃ m,m < n/\J m l h
 | .bk=>P .nx l h
 | .rt d=>P (.rt d) l h
theorem Py {t:DM Bool}{body:SM}{P:Fl->DL.Loc->MH->Prop}{J:Nat->DL.Loc->MH->Prop}(step:∀ n l h,J n l h->wD t l h fun b h1=>(b=true->wS body l h1 (whK J n P))/\(b=false->P .nx l h1)):∀ (K n:Nat) (loc:DL.Loc) (mh:MH),n < K->J n loc mh->wS (Ew t body K) loc mh P
 | 0,_,_,_,h,_=>absurd h (Nat.not_lt_zero _)
 | K+1,n,loc,mh,hn,j=>by
  obtain ⟨b,h1,et,q⟩:=step n loc mh j;cases b with
  | false=>exact ⟨.nx,loc,h1,by simp only [Ew,et],q.2 rfl⟩
  | true =>
   obtain ⟨f,l,h2,eb,p⟩:=q.1 rfl;cases f with
   | nx =>
    obtain ⟨m,hm,jm⟩:=p;obtain ⟨f3,l3,h3,e3,p3⟩:=Py step K m l h2 (by omega) jm;exact ⟨f3,l3,h3,by simp only [Ew,et,eb];exact e3,p3⟩
   | ct =>
    obtain ⟨m,hm,jm⟩:=p;obtain ⟨f3,l3,h3,e3,p3⟩:=Py step K m l h2 (by omega) jm;exact ⟨f3,l3,h3,by simp only [Ew,et,eb];exact e3,p3⟩
   | bk=>exact ⟨.nx,l,h2,by simp only [Ew,et,eb],p⟩
   | rt d=>exact ⟨.rt d,l,h2,by simp only [Ew,et,eb],p⟩
theorem mO {t:DM Bool}{body:SM}{loc:DL.Loc}{mh:MH}{P:Fl->DL.Loc->MH->Prop}(J:Nat->DL.Loc->MH->Prop) (n:Nat) (hn:n < 1000000) (j0:J n loc mh) (step:∀ n l h,J n l h->wD t l h fun b h1=>(b=true->wS body l h1 (whK J n P))/\(b=false->P .nx l h1)):wS (Tc t body) loc mh P :=
 Py step _ n loc mh hn j0
noncomputable def T9 (P:D->MH->Prop) (f:Fl) (_:DL.Loc) (h:MH):Prop:=match f with
 | .rt d=>P d h
 | .nx=>P .non h
 | _=>False
theorem Aj {G:Gb}{n:Nat}{I:FnI}{b:SM}{ds:List D}{mh:MH}{np m:Nat}{P:D->MH->Prop}(hb:iSs G n { N:=I.N,scope:=I.scope,own:=fun _=>true } I.body=b) (hp:I.ps.length=np) (hN:I.N.length=m) (hl:ds.length=np)
  (h:wS b (ds.map some++List.replicate (m - np) none) mh (T9 P)):wV (Ac G n I ds mh) P:=by
 obtain ⟨f,l,h',e,p⟩:=h;cases f with
 | rt d=>exact ⟨d,h',by unfold Ac;rw [if_pos (by rw [hp];exact hl),hb,hN,hl,e],p⟩
 | nx=>exact ⟨.non,h',by unfold Ac;rw [if_pos (by rw [hp];exact hl),hb,hN,hl,e],p⟩
 | bk=>exact p.elim
 | ct=>exact p.elim
section
variable {mh:MH}{P:D->MH->Prop}
theorem Av {r:Option (D×MH)}{d:D}{h:MH}(e:r=some (d,h)) (p:P d h):wV r P:=⟨d,h,e,p⟩
theorem Gx {C:Int->Int->Bool}{g:Int->Int->Int}{i j:Int}(hC:C i j=true) (h:P (.int (g i j)) mh):wV (iop C g (.int i) (.int j) mh) P:=⟨_,_,by rw [Abk,if_pos hC],h⟩
theorem mQ {i j:Int}(h:P (.int (i - j)) mh):wV (cT (.int i) (.int j) mh) P:=Gx rfl h
theorem Cz {i j:Int}(hj:j≠0) (h:P (.int (i.fmod j)) mh):wV (Bw (.int i) (.int j) mh) P:=Gx (decide_eq_true hj) h
theorem Gi {i j:Int}(hj:j≠0) (hb:j.natAbs < 10889035741470030830827987437816582766592) (h:P (.int (i.fdiv j)) mh):wV (Ci (.int i) (.int j) mh) P:=Gx (by rw [decide_eq_true hj,decide_eq_true hb];rfl) h
theorem Pz {i j:Int}(hb:(-(2 ^ 64) < i/\i < 2 ^ 64)\/(-(2 ^ 64) < j/\j < 2 ^ 64)) (h:P (.int (i * j)) mh):wV (Gg (.int i) (.int j) mh) P:=show wV (iop Vm (fun i j=>i * j) (.int i) (.int j) mh) P from Gx (by unfold Vm;rw [Bool.or_eq_true,decide_eq_true_iff,decide_eq_true_iff];exact hb) h
theorem Gj {g:Int->Int->Bool}{i j:Int}(h:P (.bl (g i j)) mh):wV (Qo g (.int i) (.int j) mh) P:=⟨_,_,rfl,h⟩
theorem Abo {i j:Int}(h:P (.int (i+j)) mh):wV (Bm (.int i) (.int j) mh) P:=⟨_,_,rfl,h⟩
theorem Gy {i j:Int}(h:P (.bl (i==j)) mh):wV (eqD (.int i) (.int j) mh) P:=⟨_,_,rfl,h⟩
theorem Abp {i j:Int}(h:P (.bl (!(i==j))) mh):wV (neD (.int i) (.int j) mh) P:=⟨_,_,rfl,h⟩
theorem Gm {x y:D}{k:Bool}(e:eqB mh x y=some k) (h:P (.bl k) mh):wV (eqD x y mh) P:=⟨_,_,by unfold eqD;rw [e],h⟩
theorem Ru {x y:D}{k:Bool}(e:eqB mh x y=some k) (h:P (.bl (!k)) mh):wV (neD x y mh) P:=⟨_,_,by unfold neD;rw [e],h⟩
theorem vJ {x y:D}{k:Bool}(e:inB mh x y=some k):O9 y mh=none:=by
 cases q:O9 y mh with
 | none=>rfl
 | some kvs =>
  obtain ⟨n,rfl,en⟩:=Xk q;have p:py mh 60 (.ref n)=none:=by
   show (match mh[n]? with | some (.lst o)=>(match Df (py mh 59) o with | some xs=>some (PyData.list xs) | none=>none) | _=>none)=_;rw [en]
  unfold inB at e;rw [p] at e;split at e
  ·rename_i z;cases z
  ·rename_i z;cases z
  ·cases e
theorem aB {neg:Bool}{x y:D}{k:Bool}(e:inB mh x y=some k) (h:P (.bl (if neg then !k else k)) mh):wV (inD neg x y mh) P:=⟨_,_,by unfold inD;rw [vJ e];dsimp only;unfold gK;rw [e],h⟩
theorem N5 {n m:Nat}{xs ys:List D}(e1:mh[n]?=some (.lst xs)) (e2:mh[m]?=some (.lst ys)) (hz:xs.length+ys.length<=1000000) (h:P (.ref mh.length) (mh++[.lst (xs++ys)])):wV (Bm (.ref n) (.ref m) mh) P:=⟨_,_,lZ e1 e2 hz,h⟩
theorem Jb {xs ys:List D}(hz:xs.length+ys.length<=1000000) (h:P (.tup (xs++ys)) mh):wV (Bm (.tup xs) (.tup ys) mh) P:=⟨_,_,by simp only [Bm,if_pos (le_size hz)],h⟩
theorem Cq {ds:List D}{j:Nat}{d:D}(e:ds[j]?=some d) (h:P d mh):wV (ixD (.tup ds) (.int j) mh) P:=⟨d,mh,by simp only [ixD,O9,gO,Ec,Y6 e],h⟩
theorem P0 {n:Nat}{ds:List D}{j:Nat}{d:D}(e1:mh[n]?=some (.lst ds)) (e:ds[j]?=some d) (h:P d mh):wV (ixD (.ref n) (.int j) mh) P:=⟨d,mh,by simp only [ixD,Lr e1,gO,Ec,e1,Y6 e],h⟩
theorem Cj {n:Nat}{ds:List D}{y:D}(e:mh[n]?=some (.lst ds)) (hz:ds.length<=1000000) (h:P .non (mh.set n (.lst (ds++[y])))):wV (Cy (.ref n) [y] mh) P:=⟨_,_,X7 e hz,h⟩
theorem Bp {x:D}{ds:List D}(hx:∀ z,x≠.str z) (e:Ec x mh=some ds) (h:P (.int ds.length) mh):wV (Dj [x] mh) P:=by
 refine ⟨_,_,?_,h⟩;cases x with
 | str z=>exact (hx z rfl).elim
 | _=>simp only [Dj,e]
theorem cY {x:D}{ds:List D}(e:Ec x mh=some ds) (h:P (.ref mh.length) (mh++[.lst ds])):wV (U0 [x] mh) P:=⟨_,_,by simp only [U0,e],h⟩
theorem Es {x:D}{ds:List D}(e:Ec x mh=some ds) (h:P (.tup ds) mh):wV (Gs [x] mh) P:=⟨_,_,by simp only [Gs,e],h⟩
theorem mR {f:List Bool->Bool}{x:D}{bs:List Bool}(e:Ec x mh=some (bs.map D.bl)) (h:P (.bl (f bs)) mh):wV (Ku f [x] mh) P:=⟨_,_,by simp only [Ku,e,Mu],h⟩
end
structure Ext (W:List Nat) (a b:MH):Prop where
 len:a.length<=b.length
 old:∀ i o,i ∉ W->a[i]?=some o->b[i]?=some o
theorem Ext.refl {W:List Nat}{a:MH}:Ext W a a:=⟨Nat.le_refl _,fun _ _ _ e=>e⟩
theorem Ext.trans {W:List Nat}{a b c:MH}(x:Ext W a b) (y:Ext W b c):Ext W a c:=⟨Nat.le_trans x.len y.len,fun i o h e=>y.old i o h (x.old i o h e)⟩
theorem Ext.weak {W:List Nat}{a b:MH}(x:Ext [] a b):Ext W a b:=⟨x.len,fun i o _ e=>x.old i o (by simp) e⟩
theorem Ext.more {W:List Nat}{a g:MH}:Ext W a (a++g):=⟨by rw [List.length_append];omega,fun i o _ e=>by rw [List.getElem?_append_left (List.getElem?_eq_some_iff.mp e).1];exact e⟩
theorem Ext.set {n:Nat}{a:MH}{o:MO}:Ext [n] a (a.set n o):=⟨by rw [List.length_set];exact Nat.le_refl _,fun i o' h e=>by rw [List.getElem?_set_ne (fun z=>h (by simp [z]))];exact e⟩
theorem Ext.setNew {W:List Nat}{n:Nat}{a b:MH}{o:MO}(x:Ext W a b) (h:a.length<=n):Ext W a (b.set n o):=⟨by rw [List.length_set];exact x.len,fun i o' hi e=>by
 have:i < a.length:=(List.getElem?_eq_some_iff.mp e).1
 rw [List.getElem?_set_ne (by omega)];exact x.old i o' hi e⟩
theorem Aq {a:MH}{o:MO}:(a++[o])[a.length]?=some o:=by rw [List.getElem?_append_right (Nat.le_refl _),Nat.sub_self];rfl
theorem Dw {a:MH}{n:Nat}{o o':MO}(h:a[n]?=some o'):(a.set n o)[n]?=some o:=by
 rw [List.getElem?_set];simp [(List.getElem?_eq_some_iff.mp h).1]
noncomputable def mkM (c f:Str) (ma:DM D):DM D:=ma.bnd fun d=>Zr (.obj c [f] [d])
theorem V3 {a b:Str}{k:Bool}(ha:PyData.strOk a=true) (hb:PyData.strOk b=true) (e:(a==b)=k) (mh:MH):eqB mh (.str a) (.str b)=some k:=by
 unfold eqB;simp only [py,if_pos ha,if_pos hb,PyData.eqv,e]
section
variable {loc:DL.Loc}{mh:MH}{ma:DM D}{mr:DM (List D)}{P:D->MH->Prop}
theorem Afe {c f:Str}(h:wD ma loc mh fun d h1=>P (.obj c [f] [d]) h1):wD (mkM c f ma) loc mh P:=Bv (Bg h fun _ _ q=>Ai q)
theorem mU {met:Str->Str->Option (List Str×Fn)}{m:Str}(h:wD ma loc mh fun x h1=>∃ c ks ds ps g,x=.obj c ks ds/\met c m=some (ps,g)/\ks.contains m=false/\wD mr loc h1 fun as h2=>wV (g (.obj c ks ds::as) h2) P):wD (Gv met m ma mr) loc mh P:=Bv (Bg h fun _ h1 ⟨c,ks,ds,ps,g,e,em,hk,q⟩=>by
 subst e;show wD (match met c m with | some (_,g)=>if ks.contains m then Zb else mr.bnd fun as=>Zl (g (.obj c ks ds::as)) | none=>Zb) _ _ _;rw [em];dsimp only;rw [if_neg (by rw [hk];simp)]
 exact Bv (Bg q fun _ _ z=>z))
theorem Abq {i j:Int}(h1:0<=j) (h2:j<=1000000) (h3:i.natAbs < 2 ^ 64) (h:P (.int (i ^ j.toNat)) mh):wV (Abb (.int i) (.int j) mh) P:=Gx (by rw [decide_eq_true h1,decide_eq_true h2,decide_eq_true h3];rfl) h
theorem vK {a b:Str}(ha:PyData.strOk a=true) (hb:PyData.strOk b=true) (e:(a==b)=true) (h:P (.bl true) mh):wV (eqD (.str a) (.str b) mh) P:=Gm (V3 ha hb e mh) h
theorem vL {a b:Str}(ha:PyData.strOk a=true) (hb:PyData.strOk b=true) (e:(a==b)=false) (h:P (.bl false) mh):wV (eqD (.str a) (.str b) mh) P:=Gm (V3 ha hb e mh) h
end
section
variable {loc:DL.Loc}{mh:MH}{ma:DM D}{mr:DM (List D)}{P:D->MH->Prop}
end
theorem Afg {k:Bool}{B:Bool->Prop}(h:B k):∃ j,D.bl k=.bl j/\B j:=⟨k,rfl,h⟩
theorem Abr {i:Int}{B:Int->Prop}(h:B i):∃ j,D.int i=.int j/\B j:=⟨i,rfl,h⟩
theorem Abs {p q:Prop}(h:p):((true=true)->p)/\((true=false)->q):=⟨fun _=>h,fun z=>by cases z⟩
theorem Dy {p q:Prop}(h:q):((false=true)->p)/\((false=false)->q):=⟨fun z=>(by cases z),fun _=>h⟩
theorem N6 {k:Bool}{p q:Prop}(e:k=true) (h:p):(k=true->p)/\(k=false->q):=⟨fun _=>h,fun z=>by rw [e] at z;cases z⟩
theorem Ua {k:Bool}{p q:Prop}(e:k=false) (h:q):(k=true->p)/\(k=false->q):=⟨fun z=>(by rw [e] at z;cases z),fun _=>h⟩
theorem Ca {k:Bool}{p q:Prop}(h1:k=true->p) (h2:k=false->q):(k=true->p)/\(k=false->q):=⟨h1,h2⟩
theorem Abt {k:Bool}{h:MH}{B:Bool->Prop}(q:B k):∃ j,gG (.bl k) h=some j/\B j:=⟨k,rfl,q⟩
theorem Abu {T t:String}{x:D}{b:Bool}{mh:MH}{P:D->MH->Prop}(e1:gR x mh=some t) (e2:Aaj t T=some b) (h:P (.bl b) mh):wV (Va T x mh) P:=⟨_,_,by unfold Va;rw [e1];dsimp only;rw [e2],h⟩
mutual
noncomputable def dat:Nat->D->Bool
 | _,.int _=>true
 | _,.bl _=>true
 | _,.non=>true
 | _,.str x=>PyData.strOk x
 | n+1,.tup ds=>K6 n ds
 | _,_=>false
noncomputable def K6:Nat->List D->Bool
 | _,[]=>true
 | n,d::r=>dat n d&&K6 n r
end
mutual
theorem Ub (mh:MH):∀ (n:Nat) (d:D),dat n d=true->∃ a,py mh n d=some a/\a.canLay0=true
 | n,.int i,_=>⟨.int i,by cases n <;> rfl,rfl⟩
 | n,.bl i,_=>⟨.bool i,by cases n <;> rfl,rfl⟩
 | n,.non,_=>⟨.none,by cases n <;> rfl,rfl⟩
 | n,.str x,h=>by
  have h2:PyData.strOk x=true:=by cases n <;> exact h
  exact ⟨.str x,by cases n <;> (show (if PyData.strOk x=true then some (PyData.str x) else none)=_;rw [if_pos h2]),h2⟩
 | 0,.tup ds,h=>by simp [dat] at h
 | n+1,.tup ds,h=>by
  have h:K6 n ds=true:=h;obtain ⟨as,e,l⟩:=N7 mh n ds h;exact ⟨.tuple as,by simp only [py,e],by simpa [PyData.canLay0] using l⟩
 | 0,.ref _,h=>by simp [dat] at h
 | _+1,.ref _,h=>by simp [dat] at h
 | 0,.rol _,h=>by simp [dat] at h
 | _+1,.rol _,h=>by simp [dat] at h
 | 0,.obj ..,h=>by simp [dat] at h
 | _+1,.obj ..,h=>by simp [dat] at h
 | 0,.fn _,h=>by simp [dat] at h
 | _+1,.fn _,h=>by simp [dat] at h
theorem N7 (mh:MH):∀ (n:Nat) (ds:List D),K6 n ds=true->∃ as,Df (py mh n) ds=some as/\PyData.canLayAll0 as=true
 | n,[],_=>⟨[],rfl,rfl⟩
 | n,d::r,h=>by
  have h:(dat n d&&K6 n r)=true:=by simpa [K6] using h
  rw [Bool.and_eq_true] at h;obtain ⟨a,e1,l1⟩:=Ub mh n d h.1;obtain ⟨as,e2,l2⟩:=N7 mh n r h.2;exact ⟨a::as,by simp only [Df,e1,e2],by simp only [PyData.canLayAll0,l1,l2,Bool.and_self]⟩
end
theorem El {a b:Str}{k:Bool}(ha:PyData.strOk a=true) (hb:PyData.strOk b=true) (e:(a==b)=k) (mh:MH):eqB mh (.str a) (.str b)=some k:=by
 unfold eqB;simp only [py,if_pos ha,if_pos hb,PyData.eqv,e]
theorem mV {n:Nat}{ns:List Int}{mh:MH}{P:D->MH->Prop}(e:mh[n]?=some (.lst (ns.map D.int))) (hz:ns.length < 64) (h:P (.ref mh.length) (mh++[.lst ((sortI ns).map D.int)])):wV (Kz [.ref n] mh) P :=
 ⟨_,_,by show Iu [.ref n] mh=_;simp only [Iu,e,Ow,if_pos hz],h⟩
theorem Yd (ns:List Nat):∃ hs:List Nat,(sortI (ns.map fun n:Nat=>(n:Int))).map D.int=hs.map Ae/\hs.length=ns.length/\∀ x∈hs,x∈ns:=by
 refine ⟨(sortI (ns.map fun n:Nat=>(n:Int))).map Int.toNat,?_,?_,?_⟩
 ·rw [List.map_map];apply List.map_congr_left;intro x hx;have:=(sortI_perm _).mem_iff.mp hx;obtain ⟨n,_,rfl⟩:=List.mem_map.mp this;simp [Ae]
 ·rw [List.length_map,(sortI_perm _).length_eq,List.length_map]
 ·intro x hx;obtain ⟨y,hy,rfl⟩:=List.mem_map.mp hx;have:=(sortI_perm _).mem_iff.mp hy;obtain ⟨n,hn,rfl⟩:=List.mem_map.mp this
  simpa using hn
theorem ty_list {a:Nat}{ds:List D}{mh:MH}(e:mh[a]?=some (.lst ds)):bR "list" (.ref a) mh=true:=by
 show (true&&(match mh[a]? with | some (.lst _)=>true | _=>false))=true;rw [e];rfl
theorem src_list {a:Nat}{ds:List D}{mh:MH}(e:mh[a]?=some (.lst ds)):srcOf (.ref a) mh=some (.lref a):=by
 show (match mh[a]? with | some (.lst _)=>some (Src.lref a) | _=>none)=_;rw [e]
theorem Jd {a:Nat}{ds:List D}{mh:MH}(e:mh[a]?=some (.lst ds)):(Src.lref a).ok mh=true/\(Src.lref a).items mh=ds:=by
 refine ⟨?_,?_⟩
 ·show (match mh[a]? with | some (.lst _)=>true | _=>false)=true;rw [e]
 ·show (match mh[a]? with | some (.lst o)=>o | _=>[])=_;rw [e]
end DL
namespace Lw
open PySem L2 DL
noncomputable def top (i:Nat):Stmt:=PySem.Challenge.pw_letterall_k64_squares.main.body.getD i (.Pass ⟨0,0,0,0⟩)
noncomputable def Nb (s:Stmt) (j:Nat):Stmt:=match s with
 | .ClassDef _ _ _ b _ _ _ _ _ _ _=>b.getD j (.Pass ⟨0,0,0,0⟩)
 | _=>.Pass ⟨0,0,0,0⟩
noncomputable def f2:FnI:=Bd (top 2)
noncomputable def f3:FnI:=Bd (top 3)
noncomputable def f4:FnI:=Bd (top 4)
noncomputable def f5:FnI:=Bd (top 5)
noncomputable def f14:FnI:=Bd (top 14)
noncomputable def f15:FnI:=Bd (top 15)
noncomputable def f16:FnI:=Bd (top 16)
noncomputable def f17:FnI:=Bd (top 17)
noncomputable def f18:FnI:=Bd (top 18)
noncomputable def f19:FnI:=Bd (top 19)
noncomputable def f20:FnI:=Bd (top 20)
noncomputable def f21:FnI:=Bd (top 21)
noncomputable def f22:FnI:=Bd (top 22)
noncomputable def f27:FnI:=Bd (top 27)
noncomputable def f35:FnI:=Bd (top 35)
noncomputable def f36:FnI:=Bd (top 36)
noncomputable def f37:FnI:=Bd (top 37)
noncomputable def f42:FnI:=Bd (top 42)
noncomputable def f43:FnI:=Bd (top 43)
noncomputable def f44:FnI:=Bd (top 44)
noncomputable def f45:FnI:=Bd (top 45)
noncomputable def f46:FnI:=Bd (top 46)
noncomputable def f47:FnI:=Bd (top 47)
noncomputable def f50:FnI:=Bd (top 50)
noncomputable def f51:FnI:=Bd (top 51)
noncomputable def f52:FnI:=Bd (top 52)
noncomputable def f53:FnI:=Bd (top 53)
noncomputable def f54:FnI:=Bd (top 54)
noncomputable def f55:FnI:=Bd (top 55)
noncomputable def f56:FnI:=Bd (top 56)
noncomputable def f61:FnI:=Bd (top 61)
noncomputable def f62:FnI:=Bd (top 62)
noncomputable def f63:FnI:=Bd (top 63)
noncomputable def f64:FnI:=Bd (top 64)
noncomputable def f65:FnI:=Bd (top 65)
noncomputable def f66:FnI:=Bd (top 66)
noncomputable def f67:FnI:=Bd (top 67)
noncomputable def f68:FnI:=Bd (top 68)
noncomputable def f69:FnI:=Bd (top 69)
noncomputable def f71:FnI:=Bd (top 71)
noncomputable def f72:FnI:=Bd (top 72)
noncomputable def f73:FnI:=Bd (top 73)
noncomputable def f74:FnI:=Bd (top 74)
noncomputable def f75:FnI:=Bd (top 75)
noncomputable def f76:FnI:=Bd (top 76)
noncomputable def f77:FnI:=Bd (top 77)
noncomputable def f78:FnI:=Bd (top 78)
noncomputable def f79:FnI:=Bd (top 79)
noncomputable def f80:FnI:=Bd (top 80)
noncomputable def f81:FnI:=Bd (top 81)
noncomputable def f83:FnI:=Bd (top 83)
noncomputable def f85:FnI:=Bd (top 85)
noncomputable def f87:FnI:=Bd (top 87)
noncomputable def f88:FnI:=Bd (top 88)
noncomputable def f89:FnI:=Bd (top 89)
noncomputable def f90:FnI:=Bd (top 90)
noncomputable def f91:FnI:=Bd (top 91)
noncomputable def f92:FnI:=Bd (top 92)
noncomputable def f93:FnI:=Bd (top 93)
noncomputable abbrev Jt:Stmt:=Nb (top 29) 1
noncomputable def aC:FnI:=Bd Jt
noncomputable def aD:List (Str×Stmt):=("has",top 2)::("members",top 3)::("set_of",top 4)::("many",top 5)::("blank",top 14)::("has_fallen",top 15)::("replaced",top 16)::("with_number",top 17)::("with_name",top 18)::("with_set",top 19)::("with_bell",top 20)::("at_place",top 21)::("moved_on",top 22)::("is_whole",top 27)::("hands_of",top 35)::("length_of",top 36)::("step_at",top 37)::("first",top 42)::("all_hands",top 43)::("part",top 44)::("row",top 45)::("with_part",top 46)::("with_row",top 47)::("step_now",top 50)::("others_of",top 51)::("choices_of",top 52)::("out_choices",top 53)::("may_send",top 54)::("take_choices",top 55)::("senders",top 56)::("after_step",top 61)::("after_quiet",top 62)::("reckoned",top 63)::("named",top 64)::("gathered",top 65)::("goes_there",top 66)::("after_out",top 67)::("after_send",top 68)::("after_take",top 69)::("moves",top 71)::("losses",top 72)::("falls",top 73)::("mover",top 74)::("do",top 75)::("after_move",top 76)::("may_be_made",top 77)::("is_move",top 78)::("is_choice",top 79)::("after_loss",top 80)::("after_fall",top 81)::("square",top 83)::("run",top 85)::("_law_draw",top 87)::("_law_take",top 88)::("_law_step",top 89)::("_law_program",top 90)::("_law_wrong",top 91)::("_law_right",top 92)::("law",top 93)::[]
noncomputable def tb (x:Str):Option FnI:=(aD.lookup x).map Bd
theorem V4:Z3 aD:=⟨Ba ⟨rfl,rfl,rfl,by decide +kernel,by decide +kernel,by decide +kernel,by decide +kernel⟩ fun _ _ _ _ _ _=>ln2 fun _ _=>rfl,Ba ⟨rfl,rfl,rfl,by decide +kernel,by decide +kernel,by decide +kernel,by decide +kernel⟩ fun _ _ _ _ _ _=>ln1 fun _=>rfl,Ba ⟨rfl,rfl,rfl,by decide +kernel,by decide +kernel,by decide +kernel,by decide +kernel⟩ fun _ _ _ _ _ _=>ln1 fun _=>rfl,Ba ⟨rfl,rfl,rfl,by decide +kernel,by decide +kernel,by decide +kernel,by decide +kernel⟩ fun _ _ _ _ _ _=>ln1 fun _=>rfl,Ba ⟨rfl,rfl,rfl,by decide +kernel,by decide +kernel,by decide +kernel,by decide +kernel⟩ fun _ _ _ _ _ _=>ln1 fun _=>rfl,Ba ⟨rfl,rfl,rfl,by decide +kernel,by decide +kernel,by decide +kernel,by decide +kernel⟩ fun _ _ _ _ _ _=>ln1 fun _=>rfl,Ba ⟨rfl,rfl,rfl,by decide +kernel,by decide +kernel,by decide +kernel,by decide +kernel⟩ fun _ _ _ _ _ _=>ln3 fun _ _ _=>rfl,Ba ⟨rfl,rfl,rfl,by decide +kernel,by decide +kernel,by decide +kernel,by decide +kernel⟩ fun _ _ _ _ _ _=>ln3 fun _ _ _=>rfl,Ba ⟨rfl,rfl,rfl,by decide +kernel,by decide +kernel,by decide +kernel,by decide +kernel⟩ fun _ _ _ _ _ _=>ln3 fun _ _ _=>rfl,Ba ⟨rfl,rfl,rfl,by decide +kernel,by decide +kernel,by decide +kernel,by decide +kernel⟩ fun _ _ _ _ _ _=>ln3 fun _ _ _=>rfl,Ba ⟨rfl,rfl,rfl,by decide +kernel,by decide +kernel,by decide +kernel,by decide +kernel⟩ fun _ _ _ _ _ _=>ln2 fun _ _=>rfl,Ba ⟨rfl,rfl,rfl,by decide +kernel,by decide +kernel,by decide +kernel,by decide +kernel⟩ fun _ _ _ _ _ _=>ln2 fun _ _=>rfl,Ba ⟨rfl,rfl,rfl,by decide +kernel,by decide +kernel,by decide +kernel,by decide +kernel⟩ fun _ _ _ _ _ _=>ln1 fun _=>rfl,Ba ⟨rfl,rfl,rfl,by decide +kernel,by decide +kernel,by decide +kernel,by decide +kernel⟩ fun _ _ _ _ _ _=>ln1 fun _=>rfl,Ba ⟨rfl,rfl,rfl,by decide +kernel,by decide +kernel,by decide +kernel,by decide +kernel⟩ fun _ _ _ _ _ _=>ln2 fun _ _=>rfl,Ba ⟨rfl,rfl,rfl,by decide +kernel,by decide +kernel,by decide +kernel,by decide +kernel⟩ fun _ _ _ _ _ _=>ln2 fun _ _=>rfl,Ba ⟨rfl,rfl,rfl,by decide +kernel,by decide +kernel,by decide +kernel,by decide +kernel⟩ fun _ _ _ _ _ _=>ln3 fun _ _ _=>rfl,Ba ⟨rfl,rfl,rfl,by decide +kernel,by decide +kernel,by decide +kernel,by decide +kernel⟩ fun _ _ _ _ _ _=>ln1 fun _=>rfl,Ba ⟨rfl,rfl,rfl,by decide +kernel,by decide +kernel,by decide +kernel,by decide +kernel⟩ fun _ _ _ _ _ _=>ln1 fun _=>rfl,Ba ⟨rfl,rfl,rfl,by decide +kernel,by decide +kernel,by decide +kernel,by decide +kernel⟩ fun _ _ _ _ _ _=>ln2 fun _ _=>rfl,Ba ⟨rfl,rfl,rfl,by decide +kernel,by decide +kernel,by decide +kernel,by decide +kernel⟩ fun _ _ _ _ _ _=>ln3 fun _ _ _=>rfl,Ba ⟨rfl,rfl,rfl,by decide +kernel,by decide +kernel,by decide +kernel,by decide +kernel⟩ fun _ _ _ _ _ _=>ln3 fun _ _ _=>rfl,Ba ⟨rfl,rfl,rfl,by decide +kernel,by decide +kernel,by decide +kernel,by decide +kernel⟩ fun _ _ _ _ _ _=>ln4 fun _ _ _ _=>rfl,Ba ⟨rfl,rfl,rfl,by decide +kernel,by decide +kernel,by decide +kernel,by decide +kernel⟩ fun _ _ _ _ _ _=>ln3 fun _ _ _=>rfl,Ba ⟨rfl,rfl,rfl,by decide +kernel,by decide +kernel,by decide +kernel,by decide +kernel⟩ fun _ _ _ _ _ _=>ln3 fun _ _ _=>rfl,Ba ⟨rfl,rfl,rfl,by decide +kernel,by decide +kernel,by decide +kernel,by decide +kernel⟩ fun _ _ _ _ _ _=>ln3 fun _ _ _=>rfl,Ba ⟨rfl,rfl,rfl,by decide +kernel,by decide +kernel,by decide +kernel,by decide +kernel⟩ fun _ _ _ _ _ _=>ln1 fun _=>rfl,Ba ⟨rfl,rfl,rfl,by decide +kernel,by decide +kernel,by decide +kernel,by decide +kernel⟩ fun _ _ _ _ _ _=>ln4 fun _ _ _ _=>rfl,Ba ⟨rfl,rfl,rfl,by decide +kernel,by decide +kernel,by decide +kernel,by decide +kernel⟩ fun _ _ _ _ _ _=>ln3 fun _ _ _=>rfl,Ba ⟨rfl,rfl,rfl,by decide +kernel,by decide +kernel,by decide +kernel,by decide +kernel⟩ fun _ _ _ _ _ _=>ln3 fun _ _ _=>rfl,Ba ⟨rfl,rfl,rfl,by decide +kernel,by decide +kernel,by decide +kernel,by decide +kernel⟩ fun _ _ _ _ _ _=>ln5 fun _ _ _ _ _=>rfl,Ba ⟨rfl,rfl,rfl,by decide +kernel,by decide +kernel,by decide +kernel,by decide +kernel⟩ fun _ _ _ _ _ _=>ln5 fun _ _ _ _ _=>rfl,Ba ⟨rfl,rfl,rfl,by decide +kernel,by decide +kernel,by decide +kernel,by decide +kernel⟩ fun _ _ _ _ _ _=>ln3 fun _ _ _=>rfl,Ba ⟨rfl,rfl,rfl,by decide +kernel,by decide +kernel,by decide +kernel,by decide +kernel⟩ fun _ _ _ _ _ _=>ln4 fun _ _ _ _=>rfl,Ba ⟨rfl,rfl,rfl,by decide +kernel,by decide +kernel,by decide +kernel,by decide +kernel⟩ fun _ _ _ _ _ _=>ln4 fun _ _ _ _=>rfl,Ba ⟨rfl,rfl,rfl,by decide +kernel,by decide +kernel,by decide +kernel,by decide +kernel⟩ fun _ _ _ _ _ _=>ln2 fun _ _=>rfl,Ba ⟨rfl,rfl,rfl,by decide +kernel,by decide +kernel,by decide +kernel,by decide +kernel⟩ fun _ _ _ _ _ _=>ln3 fun _ _ _=>rfl,Ba ⟨rfl,rfl,rfl,by decide +kernel,by decide +kernel,by decide +kernel,by decide +kernel⟩ fun _ _ _ _ _ _=>ln3 fun _ _ _=>rfl,Ba ⟨rfl,rfl,rfl,by decide +kernel,by decide +kernel,by decide +kernel,by decide +kernel⟩ fun _ _ _ _ _ _=>ln4 fun _ _ _ _=>rfl,Ba ⟨rfl,rfl,rfl,by decide +kernel,by decide +kernel,by decide +kernel,by decide +kernel⟩ fun _ _ _ _ _ _=>ln2 fun _ _=>rfl,Ba ⟨rfl,rfl,rfl,by decide +kernel,by decide +kernel,by decide +kernel,by decide +kernel⟩ fun _ _ _ _ _ _=>ln1 fun _=>rfl,Ba ⟨rfl,rfl,rfl,by decide +kernel,by decide +kernel,by decide +kernel,by decide +kernel⟩ fun _ _ _ _ _ _=>ln1 fun _=>rfl,Ba ⟨rfl,rfl,rfl,by decide +kernel,by decide +kernel,by decide +kernel,by decide +kernel⟩ fun _ _ _ _ _ _=>ln1 fun _=>rfl,Ba ⟨rfl,rfl,rfl,by decide +kernel,by decide +kernel,by decide +kernel,by decide +kernel⟩ fun _ _ _ _ _ _=>ln3 fun _ _ _=>rfl,Ba ⟨rfl,rfl,rfl,by decide +kernel,by decide +kernel,by decide +kernel,by decide +kernel⟩ fun _ _ _ _ _ _=>ln3 fun _ _ _=>rfl,Ba ⟨rfl,rfl,rfl,by decide +kernel,by decide +kernel,by decide +kernel,by decide +kernel⟩ fun _ _ _ _ _ _=>ln3 fun _ _ _=>rfl,Ba ⟨rfl,rfl,rfl,by decide +kernel,by decide +kernel,by decide +kernel,by decide +kernel⟩ fun _ _ _ _ _ _=>ln1 fun _=>rfl,Ba ⟨rfl,rfl,rfl,by decide +kernel,by decide +kernel,by decide +kernel,by decide +kernel⟩ fun _ _ _ _ _ _=>ln1 fun _=>rfl,Ba ⟨rfl,rfl,rfl,by decide +kernel,by decide +kernel,by decide +kernel,by decide +kernel⟩ fun _ _ _ _ _ _=>ln3 fun _ _ _=>rfl,Ba ⟨rfl,rfl,rfl,by decide +kernel,by decide +kernel,by decide +kernel,by decide +kernel⟩ fun _ _ _ _ _ _=>ln2 fun _ _=>rfl,Ba ⟨rfl,rfl,rfl,by decide +kernel,by decide +kernel,by decide +kernel,by decide +kernel⟩ fun _ _ _ _ _ _=>ln4 fun _ _ _ _=>rfl,Ba ⟨rfl,rfl,rfl,by decide +kernel,by decide +kernel,by decide +kernel,by decide +kernel⟩ fun _ _ _ _ _ _=>ln3 fun _ _ _=>rfl,Ba ⟨rfl,rfl,rfl,by decide +kernel,by decide +kernel,by decide +kernel,by decide +kernel⟩ fun _ _ _ _ _ _=>ln2 fun _ _=>rfl,Ba ⟨rfl,rfl,rfl,by decide +kernel,by decide +kernel,by decide +kernel,by decide +kernel⟩ fun _ _ _ _ _ _=>ln2 fun _ _=>rfl,Ba ⟨rfl,rfl,rfl,by decide +kernel,by decide +kernel,by decide +kernel,by decide +kernel⟩ fun _ _ _ _ _ _=>ln3 fun _ _ _=>rfl,Ba ⟨rfl,rfl,rfl,by decide +kernel,by decide +kernel,by decide +kernel,by decide +kernel⟩ fun _ _ _ _ _ _=>ln1 fun _=>rfl,Ba ⟨rfl,rfl,rfl,by decide +kernel,by decide +kernel,by decide +kernel,by decide +kernel⟩ fun _ _ _ _ _ _=>ln3 fun _ _ _=>rfl,Ba ⟨rfl,rfl,rfl,by decide +kernel,by decide +kernel,by decide +kernel,by decide +kernel⟩ fun _ _ _ _ _ _=>ln3 fun _ _ _=>rfl,Ba ⟨rfl,rfl,rfl,by decide +kernel,by decide +kernel,by decide +kernel,by decide +kernel⟩ fun _ _ _ _ _ _=>ln1 fun _=>rfl,trivial⟩
noncomputable def mW:List (Str×D):=[("BELL_CHOICE",(.tup [(.int (-1)),(.int (0))])),("NUMBER_WORDS",(.tup [(.str "put"),(.str "copy"),(.str "raise"),(.str "sum"),(.str "choose")])),("NAME_WORDS",(.tup [(.str "me"),(.str "only"),(.str "pick")])),("SET_WORDS",(.tup [(.str "all"),(.str "empty"),(.str "join")])),("PLACE",(.int (0))),("NUMBERS",(.int (1))),("NAMES",(.int (2))),("SETS",(.int (3))),("BELL",(.int (4))),("NOBODY",(.int (-1))),("FALLEN",(.int (-1))),("ROOM",(.int (0))),("LEFT",(.int (1))),("ROLES",(.int (2))),("HANDS",(.int (3))),("PARTS",(.int (0))),("ROWS",(.int (1))),("LEFT_STILL",(.int (2)))]
noncomputable def con (x:Str):Option D:=mW.lookup x
noncomputable def dic (_:Str):Option (List (Str×D)):=none
noncomputable def fld (c f:Str):Bool:=(c == "Step"&&f == "form")
noncomputable def tbm (c m:Str):Option FnI:=if c == "Step"&&m == "told" then some aC else none
noncomputable def mkr (c:Str):Option Str:=if c == "Step" then some "form" else none
noncomputable def mk0:MakI:={ pre:=f93.body.take 3,i:=(f93.N.idxOf ("_law_pick":Str)),pl:=0,js:=(wZ (f93.body.getD 3 (.Pass ⟨0,0,0,0⟩))).fr.map (fun x=>f93.N.idxOf x),ci:=wZ (f93.body.getD 3 (.Pass ⟨0,0,0,0⟩)),post:=f93.body.drop 4 }
noncomputable def Tt:Tb:={ tb:=tb,con:=con,dic:=dic,fld:=fld,tbm:=tbm,mkr:=mkr,mak:=fun x=>if x=="law" then some mk0 else none }
theorem Abv:FnScope aC.N aC.ps (Ag Jt):=⟨rfl,rfl,rfl,by decide +kernel,by decide +kernel,by decide +kernel,by decide +kernel⟩
theorem xG:f2.ps.length=2/\f2.N.length=2:=by decide +kernel
theorem xH:f3.ps.length=1/\f3.N.length=1:=by decide +kernel
theorem aF:f4.ps.length=1/\f4.N.length=3:=by decide +kernel
theorem xJ:f5.ps.length=1/\f5.N.length=1:=by decide +kernel
theorem mX:f15.ps.length=1/\f15.N.length=1:=by decide +kernel
theorem mY:f16.ps.length=3/\f16.N.length=3:=by decide +kernel
theorem mZ:f35.ps.length=2/\f35.N.length=2:=by decide +kernel
theorem nA:f36.ps.length=2/\f36.N.length=2:=by decide +kernel
theorem nC:f37.ps.length=3/\f37.N.length=3:=by decide +kernel
theorem nD:f42.ps.length=1/\f42.N.length=2:=by decide +kernel
theorem Uc:f43.ps.length=1/\f43.N.length=1:=by decide +kernel
theorem nF:f44.ps.length=2/\f44.N.length=2:=by decide +kernel
theorem nG:f45.ps.length=3/\f45.N.length=3:=by decide +kernel
theorem nH:f46.ps.length=3/\f46.N.length=3:=by decide +kernel
theorem nJ:f47.ps.length=4/\f47.N.length=4:=by decide +kernel
theorem nM:f50.ps.length=3/\f50.N.length=3:=by decide +kernel
theorem nO:f51.ps.length=3/\f51.N.length=3:=by decide +kernel
theorem nP:f52.ps.length=3/\f52.N.length=5:=by decide +kernel
theorem nQ:f53.ps.length=1/\f53.N.length=1:=by decide +kernel
theorem nR:f54.ps.length=4/\f54.N.length=5:=by decide +kernel
theorem nT:f55.ps.length=3/\f55.N.length=7:=by decide +kernel
theorem nU:f56.ps.length=3/\f56.N.length=4:=by decide +kernel
theorem nW:f61.ps.length=5/\f61.N.length=5:=by decide +kernel
theorem nY:f62.ps.length=5/\f62.N.length=6:=by decide +kernel
theorem Gz:f63.ps.length=3/\f63.N.length=4:=by decide +kernel
theorem Lz:f64.ps.length=4/\f64.N.length=5:=by decide +kernel
theorem Ma:f65.ps.length=4/\f65.N.length=7:=by decide +kernel
theorem G3:f66.ps.length=2/\f66.N.length=3:=by decide +kernel
theorem nZ:f67.ps.length=3/\f67.N.length=5:=by decide +kernel
theorem oA:f68.ps.length=3/\f68.N.length=7:=by decide +kernel
theorem oE:f69.ps.length=4/\f69.N.length=8:=by decide +kernel
theorem oF:f71.ps.length=2/\f71.N.length=5:=by decide +kernel
theorem oG:f72.ps.length=1/\f72.N.length=4:=by decide +kernel
theorem oH:f73.ps.length=1/\f73.N.length=1:=by decide +kernel
theorem oJ:f75.ps.length=3/\f75.N.length=3:=by decide +kernel
theorem Ud:f76.ps.length=3/\f76.N.length=4:=by decide +kernel
theorem Ez:f77.ps.length=3/\f77.N.length=3:=by decide +kernel
theorem oK:f78.ps.length=1/\f78.N.length=1:=by decide +kernel
theorem oM:f79.ps.length=1/\f79.N.length=1:=by decide +kernel
theorem oN:f80.ps.length=3/\f80.N.length=5:=by decide +kernel
theorem oO:f81.ps.length=2/\f81.N.length=4:=by decide +kernel
theorem Ii:f83.ps.length=4/\f83.N.length=4:=by decide +kernel
theorem oR:f85.ps.length=3/\f85.N.length=7:=by decide +kernel
theorem oU:f87.ps.length=2/\f87.N.length=4:=by decide +kernel
theorem oV:f88.ps.length=2/\f88.N.length=6:=by decide +kernel
theorem oW:f89.ps.length=3/\f89.N.length=9:=by decide +kernel
theorem oX:f90.ps.length=1/\f90.N.length=11:=by decide +kernel
theorem oY:f91.ps.length=3/\f91.N.length=5:=by decide +kernel
theorem oZ:f92.ps.length=3/\f92.N.length=9:=by decide +kernel
theorem pA:f93.ps.length=1/\f93.N.length=8:=by decide +kernel
theorem Agy:MakDef (Bd (top 93)) mk0 (top 93):=⟨⟨_,_,rfl,rfl,rfl,fun _=>rfl,fun _ _ _ _ _ _ _=>ln1 fun _=>rfl⟩,⟨rfl,rfl,rfl,by decide +kernel,by decide +kernel,by decide +kernel,by decide +kernel,fun x h=>lJ (PySem.mem_of_lookup h),by decide +kernel⟩,rfl,by decide +kernel,by decide +kernel,by decide +kernel,by decide +kernel,Abf (by decide +kernel)⟩
theorem Agz {w:World}{K:W.Frag}{h:Heap}{mg:Str->Option Value}(X:K.In h) (G:h.Ns mainGlobals mg) {pl:Addr}(hp:K.lookup pl=some (W.tabObj #[])){C29:Addr}{f29_1':Addr} {od29_1 an29_1:Option Addr} {sl29_1:Array (Option Value)} {oc29_1 kV29_1 dc29_1 pm29_1 cd29_1 ct29_1:Value}{f29_0':Addr} {od29_0 an29_0:Option Addr} {sl29_0:Array (Option Value)} {oc29_0 kV29_0 dc29_0 pm29_0 cd29_0 ct29_0:Value}(rf:K4 K aD)(rb:M7 K Ie)(rc:M6 K mW)(C29a:W.nsIn K mainGlobals "Step"=some (some (.ref C29)))(C29b:W.plainGet K C29 Str.empty=true)(C29c:W.hasDictIn K C29=true)(C29d:W.plainOver K C29=true)(C29e:W.findIn K (.ref C29) "__setattr__"=some (some (.builtin "object.__setattr__")))(C29f:W.findIn K (.ref C29) "form"=some none)(a29_1:W.findIn K (.ref C29) "told"=some (some (.ref f29_1')))(b29_1:W.isFn K (.ref f29_1')=true)(l29_1:K.lookup f29_1'=some ⟨oc29_1,od29_1,.func (W.fnOf "told" "Step.told" (Dg Jt) (Br Jt) (Ag Jt) .none kV29_1 dc29_1 pm29_1 an29_1 cd29_1 ct29_1),sl29_1⟩)(c29_1:W.codeIn K cd29_1 "Step.told"=true)(k29_1:W.keepIn K (.ref f29_1')=true)(a29_0:W.findIn K (.ref C29) "__init__"=some (some (.ref f29_0')))(b29_0:W.isFn K (.ref f29_0')=true)(l29_0:K.lookup f29_0'=some ⟨oc29_0,od29_0,.func (W.fnOf "__init__" "Step.__init__" (Dg (Nb (top 29) 0)) (Br (Nb (top 29) 0)) (Ag (Nb (top 29) 0)) .none kV29_0 dc29_0 pm29_0 an29_0 cd29_0 ct29_0),sl29_0⟩)(c29_0:W.codeIn K cd29_0 "Step.__init__"=true)(k29_0:W.keepIn K (.ref f29_0')=true)(C29m:W.makesIn K C29=true)(C29k:W.keepIn K (.ref C29)=true):TbOk w (cut pl K) mg Tt:=by
 have X:=lG (pl:=pl) X;have rf:=Z5 hp rf;have rb:=Z6 hp rb;have rc:=Z8 hp rc;refine ⟨fun x I hx=>?_,fun x d hx=>?_,fun b hb=>?_,fun x kvs hx=>?_,fun c f hx=>?_,fun c m I hx=>?_,fun c f hx=>?_,fun x y hx=>?_,fun x m hx=>?_⟩
 ·exact Z4 X G rf V4 hx
 ·show kZ (cut pl K) mg x d;change con x=some d at hx;unfold con at hx;exact Vx X G rc hx
 ·exact Vy X G rb b hb
 ·cases hx
 ·change fld c f=true at hx;unfold fld at hx;simp only [Bool.or_eq_true,Bool.and_eq_true,beq_iff_eq] at hx;rcases hx with ⟨rfl,rfl⟩
  ·exact ⟨_,(Hq hp C29a),(T4 hp ⟨C29b,C29c,C29d,C29e⟩),(lN hp C29f)⟩
 ·change tbm c m=some I at hx;unfold tbm at hx;split at hx
  ·rename_i e;rw [Bool.and_eq_true] at e;rw [eq_of_beq e.1,eq_of_beq e.2];cases hx;exact ⟨_,Jt,_,_,_,(Hq hp C29a),(T4 hp ⟨C29b,C29c,C29d,C29e⟩),(lM hp ⟨a29_1,b29_1,k29_1⟩),(Tw hp (W4 (st:=Jt) l29_1 c29_1 k29_1)),Abv,rfl,rfl,ln1 fun _=>rfl⟩
  ·cases hx
 ·change mkr c=some f at hx;unfold mkr at hx;split at hx
  ·rename_i e;rw [eq_of_beq e];cases hx;exact ⟨_,_,_,["self", "form"],(Hq hp C29a),(Abj hp ⟨C29m,a29_0,b29_0,C29k⟩),W.mg_of X G (Hq hp C29a),.all (ln2 fun _ _=>rfl),fun P w base=>uG (Tw hp (W4 (st:=Nb (top 29) 0) l29_0 c29_0 k29_0)) ⟨rfl,rfl,rfl,by decide +kernel,by decide +kernel,by decide +kernel,by decide +kernel⟩ rfl (.inl (by decide +kernel)) (.inl (by decide +kernel)) (T4 hp ⟨C29b,C29c,C29d,C29e⟩) (lN hp C29f) (by decide) (by decide)⟩
  ·cases hx
 ·cases hx
 ·change (if x=="law" then some mk0 else none)=some m at hx;split at hx
  ·rename_i e;rw [eq_of_beq e];cases hx;exact fun I hI=>Z9 X G Agy rf V4 rfl hI
  ·cases hx
theorem tbM {w:World}{K:W.Frag}{h:Heap}{mg:Str->Option Value}(X:K.In h) (G:h.Ns mainGlobals mg) {pl f c bm:Addr}{oc:Value}{od od2:Option Addr}{fd:FuncData}{sl sl2 bsl:Array (Option Value)}{vs:Array Value}
  (la:W.nsIn K mainGlobals "law"=some (some (.ref f))) (ll:K.lookup f=some ⟨oc,od,.func fd,sl⟩) (le:fd.code=.ref c) (lc:K.lookup c=some ⟨.type "code",od2,.fields vs,sl2⟩) (lv:vs.getD 11 .none=.ref pl) (lp:K.lookup pl=some (W.tabObj #[])) (lh:W.codeHdIn K c pl=true)
  (lb:W.nsIn K mainGlobals "__builtins__"=some (some (.ref bm))) (lm:K.lookup bm=some ⟨.type "module",some builtinsNs,.plain,bsl⟩) (l6:bm≠builtinsNs) (l7:bm≠mainGlobals)
  {C29:Addr}
  {f29_1':Addr} {od29_1 an29_1:Option Addr} {sl29_1:Array (Option Value)} {oc29_1 kV29_1 dc29_1 pm29_1 cd29_1 ct29_1:Value}
  {f29_0':Addr} {od29_0 an29_0:Option Addr} {sl29_0:Array (Option Value)} {oc29_0 kV29_0 dc29_0 pm29_0 cd29_0 ct29_0:Value}
  (rf:K4 K aD)
  (rb:M7 K Ie)
  (rc:M6 K mW)
  (C29a:W.nsIn K mainGlobals "Step"=some (some (.ref C29)))
  (C29b:W.plainGet K C29 Str.empty=true)
  (C29c:W.hasDictIn K C29=true)
  (C29d:W.plainOver K C29=true)
  (C29e:W.findIn K (.ref C29) "__setattr__"=some (some (.builtin "object.__setattr__")))
  (C29f:W.findIn K (.ref C29) "form"=some none)
  (a29_1:W.findIn K (.ref C29) "told"=some (some (.ref f29_1')))
  (b29_1:W.isFn K (.ref f29_1')=true)
  (l29_1:K.lookup f29_1'=some ⟨oc29_1,od29_1,.func (W.fnOf "told" "Step.told" (Dg Jt) (Br Jt) (Ag Jt) .none kV29_1 dc29_1 pm29_1 an29_1 cd29_1 ct29_1),sl29_1⟩)
  (c29_1:W.codeIn K cd29_1 "Step.told"=true)
  (k29_1:W.keepIn K (.ref f29_1')=true)
  (a29_0:W.findIn K (.ref C29) "__init__"=some (some (.ref f29_0')))
  (b29_0:W.isFn K (.ref f29_0')=true)
  (l29_0:K.lookup f29_0'=some ⟨oc29_0,od29_0,.func (W.fnOf "__init__" "Step.__init__" (Dg (Nb (top 29) 0)) (Br (Nb (top 29) 0)) (Ag (Nb (top 29) 0)) .none kV29_0 dc29_0 pm29_0 an29_0 cd29_0 ct29_0),sl29_0⟩)
  (c29_0:W.codeIn K cd29_0 "Step.__init__"=true)
  (k29_0:W.keepIn K (.ref f29_0')=true)
  (C29m:W.makesIn K C29=true)
  (C29k:W.keepIn K (.ref C29)=true):∃ pl,K.lookup pl=some (W.tabObj #[])/\fW K "law" pl/\TbOk w (cut pl K) mg Tt :=
 ⟨pl,lp,⟨f,_,fd,c,bm,_,la,ll,rfl,le,lh,lb,lm,rfl,rfl,rfl,l6,l7⟩,Agz X G lp rf rb rc C29a C29b C29c C29d C29e C29f a29_1 b29_1 l29_1 c29_1 k29_1 a29_0 b29_0 l29_0 c29_0 k29_0 C29m C29k⟩
noncomputable def Gk (k:Nat):Gb:=GkN Tt k
noncomputable abbrev Bq (I:FnI) (k:Nat):SM:=iSs (Gk (k+1)) fuel {N:=I.N,scope:=I.scope,own:=fun _=>true} I.body
noncomputable def Afh (k:Nat):Str->Str->Option (List Str×Fn):=fun c m=>(match tbm c m with | some I=>some (I.ps,Ac (Gk k) fuel I) | none=>none)
noncomputable def b2 (k:Nat):SM :=
 (Ab (retS (dop eqD (dop lA (dop cU (vr 0) (vr 1)) (Zr (.int 1))) (Zr (.int 1))))
 Zn)
theorem Afi (k:Nat):Bq f2 k=b2 k:=by kernel_rfl
noncomputable def b3 (k:Nat):SM :=
 (Ab (retS (Ad Gs (Aa (Di (J5 Jp (Aa (Cu "int" iM (vr 0) (Zr [])) (Zr []))) [none,none,some 0] (Ar 1) (G6 (Ad (Ac (Gk k) fuel f2) (Aa (vr 2) (Aa (vr 1) (Zr []))))) (vr 1)) (Zr []))))
 Zn)
theorem Afj (k:Nat):Bq f3 k=b3 k:=by kernel_rfl
noncomputable def b4 (k:Nat):SM :=
 (Ab (Az (Zr (.int 0)) (Ar 1))
 (Ab (Hw (Ep (vr 0)) (Ar 2)
 (Ab (Az (dop Abd (vr 1) (dop Ae9 (Zr (.int 1)) (vr 2))) (Ar 1))
  Zn))
 (Ab (retS (vr 1))
 Zn)))
theorem xK (k:Nat):Bq f4 k=b4 k:=by kernel_rfl
noncomputable def b5 (k:Nat):SM :=
 (Ab (retS (Ad Dj (Aa (Ad (Ac (Gk k) fuel f3) (Aa (vr 0) (Zr []))) (Zr []))))
 Zn)
theorem Afk (k:Nat):Bq f5 k=b5 k:=by kernel_rfl
noncomputable def b15 (k:Nat):SM :=
 (Ab (retS (dop eqD (dop ixD (vr 0) (Zr (.int (0)))) (Zr (.int (-1)))))
 Zn)
theorem Abw (k:Nat):Bq f15 k=b15 k:=by kernel_rfl
noncomputable def b16 (k:Nat):SM :=
 (Ab (retS (dop Bm (dop Bm (dSl (vr 0) none (some (vr 1))) (Bo (Aa (vr 2) (Zr [])))) (dSl (vr 0) (some (dop Bm (vr 1) (Zr (.int 1)))) none)))
 Zn)
theorem Abx (k:Nat):Bq f16 k=b16 k:=by kernel_rfl
noncomputable def b35 (k:Nat):SM :=
 (Ab (retS (Ad Gs (Aa (Di (Kw (dop ixD (vr 0) (Zr (.int (3))))) [none,none,none,some 1] (U6 [1,2]) (Ah (dop eqD (vr 2) (vr 3))) (vr 1)) (Zr []))))
 Zn)
theorem Aby (k:Nat):Bq f35 k=b35 k:=by kernel_rfl
noncomputable def b36 (k:Nat):SM :=
 (Ab (retS (Ad Dj (Aa (dop ixD (dop ixD (vr 0) (Zr (.int (2)))) (vr 1)) (Zr []))))
 Zn)
theorem Abz (k:Nat):Bq f36 k=b36 k:=by kernel_rfl
noncomputable def b37 (k:Nat):SM :=
 (Ab (ifS (Ah (Hl leD ltD (Zr (.int 0)) (vr 2) (Ad (Ac (Gk k) fuel f36) (Aa (vr 0) (Aa (vr 1) (Zr []))))))
 (Ab (retS (mkM "Step" "form" (dop ixD (dop ixD (dop ixD (vr 0) (Zr (.int (2)))) (vr 1)) (vr 2))))
  Zn)
 Zn)
 (Ab (retS (Zr .non))
 Zn))
theorem Ab0 (k:Nat):Bq f37 k=b37 k:=by kernel_rfl
noncomputable def b42 (k:Nat):SM :=
 (Ab (Az (Ad Dj (Aa (dop ixD (vr 0) (Zr (.int (3)))) (Zr []))) (Ar 1))
 (Ab (retS (Bo (Aa (dop Gg (Bo (Aa (Ad (Ac (Gk k) fuel f14) (Aa (Zr (.int 0)) (Zr []))) (Zr []))) (vr 1)) (Aa (dop Gg (Bo (Aa (dop Gg (Bo (Aa (Bo (Zr [])) (Zr []))) (vr 1)) (Zr []))) (vr 1)) (Aa (dop ixD (vr 0) (Zr (.int (1)))) (Zr []))))))
 Zn))
theorem Ab1 (k:Nat):Bq f42 k=b42 k:=by kernel_rfl
noncomputable def b43 (k:Nat):SM :=
 (Ab (retS (Pq (Ad Dj (Aa (dop ixD (vr 0) (Zr (.int (0)))) (Zr [])))))
 Zn)
theorem pB (k:Nat):Bq f43 k=b43 k:=by kernel_rfl
noncomputable def b44 (k:Nat):SM :=
 (Ab (retS (dop ixD (dop ixD (vr 0) (Zr (.int (0)))) (vr 1)))
 Zn)
theorem Ab2 (k:Nat):Bq f44 k=b44 k:=by kernel_rfl
noncomputable def b45 (k:Nat):SM :=
 (Ab (retS (dop ixD (dop ixD (dop ixD (vr 0) (Zr (.int (1)))) (vr 2)) (vr 1)))
 Zn)
theorem Ab3 (k:Nat):Bq f45 k=b45 k:=by kernel_rfl
noncomputable def b46 (k:Nat):SM :=
 (Ab (retS (Ad (Ac (Gk k) fuel f16) (Aa (vr 0) (Aa (Zr (.int (0))) (Aa (Ad (Ac (Gk k) fuel f16) (Aa (dop ixD (vr 0) (Zr (.int (0)))) (Aa (vr 1) (Aa (vr 2) (Zr []))))) (Zr []))))))
 Zn)
theorem Ab4 (k:Nat):Bq f46 k=b46 k:=by kernel_rfl
noncomputable def b47 (k:Nat):SM :=
 (Ab (retS (Ad (Ac (Gk k) fuel f16) (Aa (vr 0) (Aa (Zr (.int (1))) (Aa (Ad (Ac (Gk k) fuel f16) (Aa (dop ixD (vr 0) (Zr (.int (1)))) (Aa (vr 2) (Aa (Ad (Ac (Gk k) fuel f16) (Aa (dop ixD (dop ixD (vr 0) (Zr (.int (1)))) (vr 2)) (Aa (vr 1) (Aa (vr 3) (Zr []))))) (Zr []))))) (Zr []))))))
 Zn)
theorem Ab5 (k:Nat):Bq f47 k=b47 k:=by kernel_rfl
noncomputable def b50 (k:Nat):SM :=
 (Ab (retS (Ad (Ac (Gk k) fuel f37) (Aa (vr 0) (Aa (dop ixD (dop ixD (vr 0) (Zr (.int (3)))) (vr 2)) (Aa (dop ixD (Ad (Ac (Gk k) fuel f44) (Aa (vr 1) (Aa (vr 2) (Zr [])))) (Zr (.int (0)))) (Zr []))))))
 Zn)
theorem Ab6 (k:Nat):Bq f50 k=b50 k:=by kernel_rfl
noncomputable def b51 (k:Nat):SM :=
 (Ab (retS (Di (Ep (Ad (Ac (Gk k) fuel f35) (Aa (vr 0) (Aa (vr 1) (Zr []))))) [none,none,some 2] (Ar 1) (Ah (dop neD (vr 1) (vr 2))) (vr 1)))
 Zn)
theorem Ab7 (k:Nat):Bq f51 k=b51 k:=by kernel_rfl
noncomputable def b52 (k:Nat):SM :=
 (Ab (Az (Ad (Ac (Gk k) fuel f50) (Aa (vr 0) (Aa (vr 1) (Aa (vr 2) (Zr []))))) (Ar 3))
 (Ab (ifS (Ah (dop (isD false) (vr 3) (Zr .non)))
 (Ab (retS (lstM (Zr [])))
  Zn)
 Zn)
 (Ab (Az (Gv (Afh k) "told" (vr 3) (Zr [])) (Ar 4))
 (Ab (ifS (Ah (dop eqD (dop ixD (vr 4) (Zr (.int 0))) (Zr (.str "choose"))))
 (Ab (retS (Pq (dop ixD (vr 4) (Zr (.int 2)))))
  Zn)
 Zn)
 (Ab (ifS (Ah (dop eqD (dop ixD (vr 4) (Zr (.int 0))) (Zr (.str "pick"))))
 (Ab (retS (Di (Ep (Ad (Ac (Gk k) fuel f51) (Aa (vr 0) (Aa (dop ixD (vr 4) (Zr (.int 2))) (Aa (vr 2) (Zr [])))))) [none,none] (Ar 1) (Zr true) (Bo (Aa (vr 1) (Zr [])))))
  Zn)
 Zn)
 (Ab (ifS (Ah (dop eqD (dop ixD (vr 4) (Zr (.int 0))) (Zr (.str "out"))))
 (Ab (retS (Ad (Ac (Gk k) fuel f53) (Aa (dop ixD (dop ixD (Ad (Ac (Gk k) fuel f44) (Aa (vr 1) (Aa (vr 2) (Zr [])))) (Zr (.int (3)))) (dop ixD (vr 4) (Zr (.int 2)))) (Zr []))))
  Zn)
 Zn)
 (Ab (ifS (Ah (dop eqD (dop ixD (vr 4) (Zr (.int 0))) (Zr (.str "take"))))
 (Ab (retS (Ad (Ac (Gk k) fuel f55) (Aa (vr 1) (Aa (vr 2) (Aa (vr 4) (Zr []))))))
  Zn)
 Zn)
 (Ab (ifS (Dr (Ah (dop eqD (dop ixD (vr 4) (Zr (.int 0))) (Zr (.str "send")))) (Hv (G6 (Ad (Ac (Gk k) fuel f54) (Aa (vr 0) (Aa (vr 1) (Aa (vr 2) (Aa (vr 4) (Zr [])))))))))
 (Ab (retS (lstM (Zr [])))
  Zn)
 Zn)
 (Ab (retS (lstM (Aa (Zr (.int 0)) (Zr []))))
 Zn)))))))))
theorem Ab8 (k:Nat):Bq f52 k=b52 k:=by kernel_rfl
noncomputable def b53 (k:Nat):SM :=
 (Ab (ifS (Ah (dop eqD (vr 0) (Zr (.int 0))))
 (Ab (retS (lstM (Aa (Zr (.int 0)) (Zr []))))
  Zn)
 Zn)
 (Ab (retS (Di (Ep (Ad (Ac (Gk k) fuel f3) (Aa (vr 0) (Zr [])))) [none,none] (Ar 1) (Zr true) (Bo (Aa (vr 1) (Zr [])))))
 Zn))
theorem Ab9 (k:Nat):Bq f53 k=b53 k:=by kernel_rfl
noncomputable def b54 (k:Nat):SM :=
 (Ab (Az (dop ixD (dop ixD (Ad (Ac (Gk k) fuel f44) (Aa (vr 1) (Aa (vr 2) (Zr [])))) (Zr (.int (2)))) (dop ixD (vr 3) (Zr (.int 1)))) (Ar 4))
 (Ab (ifS (J1 (Ah (dop eqD (vr 4) (Zr (.int (-1))))) (G6 (Ad (Ac (Gk k) fuel f15) (Aa (Ad (Ac (Gk k) fuel f44) (Aa (vr 1) (Aa (vr 4) (Zr [])))) (Zr [])))))
 (Ab (retS (Zr (.bl true)))
  Zn)
 Zn)
 (Ab (retS (dop ltD (Ad Dj (Aa (Ad (Ac (Gk k) fuel f45) (Aa (vr 1) (Aa (vr 2) (Aa (vr 4) (Zr []))))) (Zr []))) (dop ixD (vr 0) (Zr (.int (0))))))
 Zn)))
theorem Aca (k:Nat):Bq f54 k=b54 k:=by kernel_rfl
noncomputable def b55 (k:Nat):SM :=
 (Ab (Az (Di (Ep (dop ixD (vr 2) (Zr (.int 2)))) [none,none] (Ar 1) (Zr true) (dop ixD (vr 1) (Zr (.int 0)))) (Ar 3))
 (Ab (Az (lstM (Zr [])) (Ar 4))
 (Ab (ifS (Dr (Ah (dop (inD false) (Zr (.int 0)) (vr 3))) (G6 (dop ixD (Ad (Ac (Gk k) fuel f44) (Aa (vr 0) (Aa (vr 1) (Zr [])))) (Zr (.int (4))))))
 (Ab (Fv (Cu "list" Cy (vr 4) (Aa (Zr (.tup [(.int (-1)),(.int (0))])) (Zr []))))
  Zn)
 Zn)
 (Ab (Hw (Ep (Ad (Ac (Gk k) fuel f56) (Aa (vr 0) (Aa (vr 1) (Aa (dop ixD (vr 2) (Zr (.int 1))) (Zr [])))))) (Ar 5)
 (Ab (Az (Ad (Ac (Gk k) fuel f45) (Aa (vr 0) (Aa (vr 5) (Aa (vr 1) (Zr []))))) (Ar 6))
  (Ab (ifS (Dr (Ah (dop gtD (Ad Dj (Aa (vr 6) (Zr []))) (Zr (.int 0)))) (Ah (dop (inD false) (dop ixD (dop ixD (vr 6) (Zr (.int 0))) (Zr (.int 0))) (vr 3))))
  (Ab (Fv (Cu "list" Cy (vr 4) (Aa (Bo (Aa (vr 5) (Aa (dop ixD (dop ixD (vr 6) (Zr (.int 0))) (Zr (.int 0))) (Zr [])))) (Zr []))))
   Zn)
  Zn)
  Zn)))
 (Ab (retS (vr 4))
 Zn)))))
theorem Acb (k:Nat):Bq f55 k=b55 k:=by kernel_rfl
noncomputable def b56 (k:Nat):SM :=
 (Ab (ifS (Ah (dop eqD (vr 2) (Np (Zr (.int 1)))))
 (Ab (retS (Ad (Ac (Gk k) fuel f43) (Aa (vr 0) (Zr []))))
  Zn)
 Zn)
 (Ab (Az (dop ixD (dop ixD (Ad (Ac (Gk k) fuel f44) (Aa (vr 0) (Aa (vr 1) (Zr [])))) (Zr (.int (2)))) (vr 2)) (Ar 3))
 (Ab (retS (dIf (Ah (dop eqD (vr 3) (Zr (.int (-1))))) (lstM (Zr [])) (lstM (Aa (vr 3) (Zr [])))))
 Zn)))
theorem Acd (k:Nat):Bq f56 k=b56 k:=by kernel_rfl
noncomputable def b61 (k:Nat):SM :=
 (Ab (ifS (Ah (dop eqD (dop ixD (vr 3) (Zr (.int 0))) (Zr (.str "send"))))
 (Ab (retS (Ad (Ac (Gk k) fuel f68) (Aa (vr 1) (Aa (vr 2) (Aa (vr 3) (Zr []))))))
  Zn)
 Zn)
 (Ab (ifS (Ah (dop eqD (dop ixD (vr 3) (Zr (.int 0))) (Zr (.str "take"))))
 (Ab (retS (Ad (Ac (Gk k) fuel f69) (Aa (vr 1) (Aa (vr 2) (Aa (vr 3) (Aa (vr 4) (Zr [])))))))
  Zn)
 Zn)
 (Ab (retS (Ad (Ac (Gk k) fuel f46) (Aa (vr 1) (Aa (vr 2) (Aa (Ad (Ac (Gk k) fuel f62) (Aa (vr 0) (Aa (vr 2) (Aa (Ad (Ac (Gk k) fuel f44) (Aa (vr 1) (Aa (vr 2) (Zr [])))) (Aa (vr 3) (Aa (vr 4) (Zr []))))))) (Zr []))))))
 Zn)))
theorem Ace (k:Nat):Bq f61 k=b61 k:=by kernel_rfl
noncomputable def b62 (k:Nat):SM :=
 (Ab (Az (dop ixD (vr 3) (Zr (.int 0))) (Ar 5))
 (Ab (ifS (Ah (dop (inD false) (vr 5) (Zr (.tup [(.str "put"),(.str "copy"),(.str "raise"),(.str "sum"),(.str "choose")]))))
 (Ab (retS (Ad (Ac (Gk k) fuel f22) (Aa (Ad (Ac (Gk k) fuel f17) (Aa (vr 2) (Aa (dop ixD (vr 3) (Zr (.int 1))) (Aa (Ad (Ac (Gk k) fuel f63) (Aa (dop ixD (vr 2) (Zr (.int (1)))) (Aa (vr 3) (Aa (vr 4) (Zr []))))) (Zr []))))) (Zr []))))
  Zn)
 Zn)
 (Ab (ifS (Ah (dop (inD false) (vr 5) (Zr (.tup [(.str "me"),(.str "only"),(.str "pick")]))))
 (Ab (retS (Ad (Ac (Gk k) fuel f22) (Aa (Ad (Ac (Gk k) fuel f18) (Aa (vr 2) (Aa (dop ixD (vr 3) (Zr (.int 1))) (Aa (Ad (Ac (Gk k) fuel f64) (Aa (vr 0) (Aa (vr 1) (Aa (vr 3) (Aa (vr 4) (Zr [])))))) (Zr []))))) (Zr []))))
  Zn)
 Zn)
 (Ab (ifS (Ah (dop (inD false) (vr 5) (Zr (.tup [(.str "all"),(.str "empty"),(.str "join")]))))
 (Ab (retS (Ad (Ac (Gk k) fuel f22) (Aa (Ad (Ac (Gk k) fuel f19) (Aa (vr 2) (Aa (dop ixD (vr 3) (Zr (.int 1))) (Aa (Ad (Ac (Gk k) fuel f65) (Aa (vr 0) (Aa (vr 1) (Aa (vr 2) (Aa (vr 3) (Zr [])))))) (Zr []))))) (Zr []))))
  Zn)
 Zn)
 (Ab (ifS (Ah (dop eqD (vr 5) (Zr (.str "out"))))
 (Ab (retS (Ad (Ac (Gk k) fuel f67) (Aa (vr 2) (Aa (vr 3) (Aa (vr 4) (Zr []))))))
  Zn)
 Zn)
 (Ab (ifS (Ah (dop eqD (vr 5) (Zr (.str "bell"))))
 (Ab (retS (Ad (Ac (Gk k) fuel f22) (Aa (Ad (Ac (Gk k) fuel f20) (Aa (vr 2) (Aa (Zr (.bl true)) (Zr [])))) (Zr []))))
  Zn)
 Zn)
 (Ab (ifS (G6 (Ad (Ac (Gk k) fuel f66) (Aa (vr 2) (Aa (vr 3) (Zr [])))))
 (Ab (retS (Ad (Ac (Gk k) fuel f21) (Aa (vr 2) (Aa (dop ixD (vr 3) (Np (Zr (.int 1)))) (Zr [])))))
  Zn)
 Zn)
 (Ab (retS (Ad (Ac (Gk k) fuel f22) (Aa (vr 2) (Zr []))))
 Zn))))))))
theorem Acf (k:Nat):Bq f62 k=b62 k:=by kernel_rfl
noncomputable def b63 (k:Nat):SM :=
 (Ab (Az (dop ixD (vr 1) (Zr (.int 0))) (Ar 3))
 (Ab (ifS (Ah (dop eqD (vr 3) (Zr (.str "put"))))
 (Ab (retS (dop ixD (vr 1) (Zr (.int 2))))
  Zn)
 Zn)
 (Ab (ifS (Ah (dop eqD (vr 3) (Zr (.str "copy"))))
 (Ab (retS (dop ixD (vr 0) (dop ixD (vr 1) (Zr (.int 2)))))
  Zn)
 Zn)
 (Ab (ifS (Ah (dop eqD (vr 3) (Zr (.str "raise"))))
 (Ab (retS (dop Bm (dop ixD (vr 0) (dop ixD (vr 1) (Zr (.int 1)))) (dop ixD (vr 1) (Zr (.int 2)))))
  Zn)
 Zn)
 (Ab (ifS (Ah (dop eqD (vr 3) (Zr (.str "sum"))))
 (Ab (retS (dop Bm (dop ixD (vr 0) (dop ixD (vr 1) (Zr (.int 1)))) (dop ixD (vr 0) (dop ixD (vr 1) (Zr (.int 2))))))
  Zn)
 Zn)
 (Ab (retS (vr 2))
 Zn))))))
theorem Qa (k:Nat):Bq f63 k=b63 k:=by kernel_rfl
noncomputable def b64 (k:Nat):SM :=
 (Ab (Az (dop ixD (vr 2) (Zr (.int 0))) (Ar 4))
 (Ab (ifS (Ah (dop eqD (vr 4) (Zr (.str "me"))))
 (Ab (retS (vr 1))
  Zn)
 Zn)
 (Ab (ifS (Ah (dop eqD (vr 4) (Zr (.str "only"))))
 (Ab (retS (dop ixD (Ad (Ac (Gk k) fuel f35) (Aa (vr 0) (Aa (dop ixD (vr 2) (Zr (.int 2))) (Zr [])))) (Zr (.int 0))))
  Zn)
 Zn)
 (Ab (retS (dop ixD (vr 3) (Zr (.int 0))))
 Zn))))
theorem Ye (k:Nat):Bq f64 k=b64 k:=by kernel_rfl
noncomputable def b65 (k:Nat):SM :=
 (Ab (Az (dop ixD (vr 3) (Zr (.int 0))) (Ar 4))
 (Ab (ifS (Ah (dop eqD (vr 4) (Zr (.str "all"))))
 (Ab (retS (Ad (Ac (Gk k) fuel f4) (Aa (Ad (Ac (Gk k) fuel f51) (Aa (vr 0) (Aa (dop ixD (vr 3) (Zr (.int 2))) (Aa (vr 1) (Zr []))))) (Zr []))))
  Zn)
 Zn)
 (Ab (ifS (Ah (dop eqD (vr 4) (Zr (.str "empty"))))
 (Ab (retS (Zr (.int 0)))
  Zn)
 Zn)
 (Ab (Az (dop ixD (dop ixD (vr 2) (Zr (.int (3)))) (dop ixD (vr 3) (Zr (.int 1)))) (Ar 5))
 (Ab (Az (dop ixD (dop ixD (vr 2) (Zr (.int (2)))) (dop ixD (vr 3) (Zr (.int 2)))) (Ar 6))
 (Ab (retS (dIf (Ah (dop eqD (vr 6) (Zr (.int (-1))))) (vr 5) (dop Abd (vr 5) (Ad (Ac (Gk k) fuel f4) (Aa (lstM (Aa (vr 6) (Zr []))) (Zr []))))))
 Zn))))))
theorem Yg (k:Nat):Bq f65 k=b65 k:=by kernel_rfl
noncomputable def b66 (k:Nat):SM :=
 (Ab (Az (dop ixD (vr 1) (Zr (.int 0))) (Ar 2))
 (Ab (ifS (Ah (dop eqD (vr 2) (Zr (.str "less"))))
 (Ab (retS (dop ltD (dop ixD (dop ixD (vr 0) (Zr (.int (1)))) (dop ixD (vr 1) (Zr (.int 1)))) (dop ixD (vr 1) (Zr (.int 2)))))
  Zn)
 Zn)
 (Ab (ifS (Ah (dop eqD (vr 2) (Zr (.str "before"))))
 (Ab (retS (dop ltD (dop ixD (dop ixD (vr 0) (Zr (.int (1)))) (dop ixD (vr 1) (Zr (.int 1)))) (dop ixD (dop ixD (vr 0) (Zr (.int (1)))) (dop ixD (vr 1) (Zr (.int 2))))))
  Zn)
 Zn)
 (Ab (ifS (Ah (dop eqD (vr 2) (Zr (.str "alike"))))
 (Ab (retS (dop eqD (dop ixD (dop ixD (vr 0) (Zr (.int (2)))) (dop ixD (vr 1) (Zr (.int 1)))) (dop ixD (dop ixD (vr 0) (Zr (.int (2)))) (dop ixD (vr 1) (Zr (.int 2))))))
  Zn)
 Zn)
 (Ab (ifS (Ah (dop eqD (vr 2) (Zr (.str "many"))))
 (Ab (retS (dop geD (Ad (Ac (Gk k) fuel f5) (Aa (dop ixD (dop ixD (vr 0) (Zr (.int (3)))) (dop ixD (vr 1) (Zr (.int 1)))) (Zr []))) (dop ixD (vr 1) (Zr (.int 2)))))
  Zn)
 Zn)
 (Ab (retS (Zr (.bl true)))
 Zn))))))
theorem Qc (k:Nat):Bq f66 k=b66 k:=by kernel_rfl
noncomputable def b67 (k:Nat):SM :=
 (Ab (Az (dop ixD (dop ixD (vr 0) (Zr (.int (3)))) (dop ixD (vr 1) (Zr (.int 2)))) (Ar 3))
 (Ab (ifS (Ah (dop eqD (vr 3) (Zr (.int 0))))
 (Ab (retS (Ad (Ac (Gk k) fuel f21) (Aa (vr 0) (Aa (dop ixD (vr 1) (Zr (.int 3))) (Zr [])))))
  Zn)
 Zn)
 (Ab (Az (Ad (Ac (Gk k) fuel f19) (Aa (vr 0) (Aa (dop ixD (vr 1) (Zr (.int 2))) (Aa (dop cT (vr 3) (Ad (Ac (Gk k) fuel f4) (Aa (vr 2) (Zr [])))) (Zr []))))) (Ar 4))
 (Ab (retS (Ad (Ac (Gk k) fuel f22) (Aa (Ad (Ac (Gk k) fuel f18) (Aa (vr 4) (Aa (dop ixD (vr 1) (Zr (.int 1))) (Aa (dop ixD (vr 2) (Zr (.int 0))) (Zr []))))) (Zr []))))
 Zn))))
theorem Acg (k:Nat):Bq f67 k=b67 k:=by kernel_rfl
noncomputable def b68 (k:Nat):SM :=
 (Ab (Az (Ad (Ac (Gk k) fuel f44) (Aa (vr 0) (Aa (vr 1) (Zr [])))) (Ar 3))
 (Ab (Az (Ad (Ac (Gk k) fuel f46) (Aa (vr 0) (Aa (vr 1) (Aa (Ad (Ac (Gk k) fuel f22) (Aa (vr 3) (Zr []))) (Zr []))))) (Ar 4))
 (Ab (Az (dop ixD (dop ixD (vr 3) (Zr (.int (2)))) (dop ixD (vr 2) (Zr (.int 1)))) (Ar 5))
 (Ab (ifS (J1 (Ah (dop eqD (vr 5) (Zr (.int (-1))))) (G6 (Ad (Ac (Gk k) fuel f15) (Aa (Ad (Ac (Gk k) fuel f44) (Aa (vr 0) (Aa (vr 5) (Zr [])))) (Zr [])))))
 (Ab (retS (vr 4))
  Zn)
 Zn)
 (Ab (Az (Bo (Aa (dop ixD (vr 2) (Zr (.int 2))) (Aa (dop ixD (dop ixD (vr 3) (Zr (.int (1)))) (dop ixD (vr 2) (Zr (.int 3)))) (Aa (dop ixD (dop ixD (vr 3) (Zr (.int (2)))) (dop ixD (vr 2) (Zr (.int 4)))) (Zr []))))) (Ar 6))
 (Ab (retS (Ad (Ac (Gk k) fuel f47) (Aa (vr 4) (Aa (vr 1) (Aa (vr 5) (Aa (dop Bm (Ad (Ac (Gk k) fuel f45) (Aa (vr 0) (Aa (vr 1) (Aa (vr 5) (Zr []))))) (Bo (Aa (vr 6) (Zr [])))) (Zr [])))))))
 Zn))))))
theorem Ach (k:Nat):Bq f68 k=b68 k:=by kernel_rfl
noncomputable def b69 (k:Nat):SM :=
 (Ab (Az (dop ixD (Di (Ep (dop ixD (vr 2) (Zr (.int 2)))) [none,none,some 3] (Ar 1) (Ah (dop eqD (dop ixD (vr 1) (Zr (.int 0))) (dop ixD (vr 2) (Zr (.int 1))))) (vr 1)) (Zr (.int 0))) (Ar 4))
 (Ab (Az (Ad (Ac (Gk k) fuel f21) (Aa (Ad (Ac (Gk k) fuel f44) (Aa (vr 0) (Aa (vr 1) (Zr [])))) (Aa (dop ixD (vr 4) (Zr (.int 4))) (Zr [])))) (Ar 5))
 (Ab (ifS (Ah (dop eqD (vr 3) (Zr (.tup [(.int (-1)),(.int (0))]))))
 (Ab (retS (Ad (Ac (Gk k) fuel f46) (Aa (vr 0) (Aa (vr 1) (Aa (Ad (Ac (Gk k) fuel f20) (Aa (vr 5) (Aa (Zr (.bl false)) (Zr [])))) (Zr []))))))
  Zn)
 Zn)
 (Ab (Az (dop ixD (vr 3) (Zr (.int 0))) (Ar 6))
 (Ab (Az (Ad (Ac (Gk k) fuel f45) (Aa (vr 0) (Aa (vr 6) (Aa (vr 1) (Zr []))))) (Ar 7))
 (Ab (Az (Ad (Ac (Gk k) fuel f17) (Aa (vr 5) (Aa (dop ixD (vr 4) (Zr (.int 1))) (Aa (dop ixD (dop ixD (vr 7) (Zr (.int 0))) (Zr (.int 1))) (Zr []))))) (Ar 5))
 (Ab (Az (Ad (Ac (Gk k) fuel f18) (Aa (vr 5) (Aa (dop ixD (vr 4) (Zr (.int 2))) (Aa (dop ixD (dop ixD (vr 7) (Zr (.int 0))) (Zr (.int 2))) (Zr []))))) (Ar 5))
 (Ab (Az (Ad (Ac (Gk k) fuel f18) (Aa (vr 5) (Aa (dop ixD (vr 4) (Zr (.int 3))) (Aa (vr 6) (Zr []))))) (Ar 5))
 (Ab (retS (Ad (Ac (Gk k) fuel f46) (Aa (Ad (Ac (Gk k) fuel f47) (Aa (vr 0) (Aa (vr 6) (Aa (vr 1) (Aa (dSl (vr 7) (some (Zr (.int 1))) none) (Zr [])))))) (Aa (vr 1) (Aa (vr 5) (Zr []))))))
 Zn)))))))))
theorem Aci (k:Nat):Bq f69 k=b69 k:=by kernel_rfl
noncomputable def b71 (k:Nat):SM :=
 (Ab (Az (lstM (Zr [])) (Ar 2))
 (Ab (Hw (Ep (Ad (Ac (Gk k) fuel f43) (Aa (vr 1) (Zr [])))) (Ar 3)
 (Ab (Hw (Ep (Ad (Ac (Gk k) fuel f52) (Aa (vr 0) (Aa (vr 1) (Aa (vr 3) (Zr [])))))) (Ar 4)
  (Ab (Fv (Cu "list" Cy (vr 2) (Aa (Bo (Aa (Zr (.str "do")) (Aa (vr 3) (Aa (vr 4) (Zr []))))) (Zr []))))
   Zn))
  Zn))
 (Ab (retS (dop Bm (dop Bm (vr 2) (Ad (Ac (Gk k) fuel f72) (Aa (vr 1) (Zr [])))) (Ad (Ac (Gk k) fuel f73) (Aa (vr 1) (Zr [])))))
 Zn)))
theorem Acj (k:Nat):Bq f71 k=b71 k:=by kernel_rfl
noncomputable def b72 (k:Nat):SM :=
 (Ab (Az (lstM (Zr [])) (Ar 1))
 (Ab (ifS (Ah (dop eqD (dop ixD (dop ixD (vr 0) (Zr (.int (2)))) (Zr (.int 0))) (Zr (.int 0))))
 (Ab (retS (vr 1))
  Zn)
 Zn)
 (Ab (Hw (Ep (Ad (Ac (Gk k) fuel f43) (Aa (vr 0) (Zr [])))) (Ar 2)
 (Ab (Hw (Ep (Ad (Ac (Gk k) fuel f43) (Aa (vr 0) (Zr [])))) (Ar 3)
  (Ab (ifS (Ah (dop gtD (Ad Dj (Aa (Ad (Ac (Gk k) fuel f45) (Aa (vr 0) (Aa (vr 2) (Aa (vr 3) (Zr []))))) (Zr []))) (Zr (.int 0))))
   (Ab (Fv (Cu "list" Cy (vr 1) (Aa (Bo (Aa (Zr (.str "lose")) (Aa (vr 2) (Aa (vr 3) (Zr []))))) (Zr []))))
    Zn)
   Zn)
   Zn))
  Zn))
 (Ab (retS (vr 1))
 Zn))))
theorem Ack (k:Nat):Bq f72 k=b72 k:=by kernel_rfl
noncomputable def b73 (k:Nat):SM :=
 (Ab (ifS (Ah (dop eqD (dop ixD (dop ixD (vr 0) (Zr (.int (2)))) (Zr (.int 1))) (Zr (.int 0))))
 (Ab (retS (lstM (Zr [])))
  Zn)
 Zn)
 (Ab (retS (Di (Ep (Ad (Ac (Gk k) fuel f43) (Aa (vr 0) (Zr [])))) [none,none,some 0] (Ar 1) (Hv (G6 (Ad (Ac (Gk k) fuel f15) (Aa (Ad (Ac (Gk k) fuel f44) (Aa (vr 2) (Aa (vr 1) (Zr [])))) (Zr []))))) (Bo (Aa (Zr (.str "fall")) (Aa (vr 1) (Zr []))))))
 Zn))
theorem Acl (k:Nat):Bq f73 k=b73 k:=by kernel_rfl
noncomputable def b75 (k:Nat):SM :=
 (Ab (ifS (Hv (G6 (Ad (Ac (Gk k) fuel f77) (Aa (vr 0) (Aa (vr 1) (Aa (vr 2) (Zr [])))))))
 (Ab SM.bad
  Zn)
 Zn)
 (Ab (retS (Ad (Ac (Gk k) fuel f76) (Aa (vr 0) (Aa (vr 1) (Aa (vr 2) (Zr []))))))
 Zn))
theorem Acm (k:Nat):Bq f75 k=b75 k:=by kernel_rfl
noncomputable def b76 (k:Nat):SM :=
 (Ab (ifS (Ah (dop eqD (dop ixD (vr 2) (Zr (.int 0))) (Zr (.str "lose"))))
 (Ab (retS (Ad (Ac (Gk k) fuel f80) (Aa (vr 1) (Aa (dop ixD (vr 2) (Zr (.int 1))) (Aa (dop ixD (vr 2) (Zr (.int 2))) (Zr []))))))
  Zn)
 Zn)
 (Ab (ifS (Ah (dop eqD (dop ixD (vr 2) (Zr (.int 0))) (Zr (.str "fall"))))
 (Ab (retS (Ad (Ac (Gk k) fuel f81) (Aa (vr 1) (Aa (dop ixD (vr 2) (Zr (.int 1))) (Zr [])))))
  Zn)
 Zn)
 (Ab (Az (Gv (Afh k) "told" (Ad (Ac (Gk k) fuel f50) (Aa (vr 0) (Aa (vr 1) (Aa (dop ixD (vr 2) (Zr (.int 1))) (Zr []))))) (Zr [])) (Ar 3))
 (Ab (retS (Ad (Ac (Gk k) fuel f61) (Aa (vr 0) (Aa (vr 1) (Aa (dop ixD (vr 2) (Zr (.int 1))) (Aa (vr 3) (Aa (dop ixD (vr 2) (Zr (.int 2))) (Zr []))))))))
 Zn))))
theorem pC (k:Nat):Bq f76 k=b76 k:=by kernel_rfl
noncomputable def b77 (k:Nat):SM :=
 (Ab (ifS (Hv (G6 (Ad (Ac (Gk k) fuel f78) (Aa (vr 2) (Zr [])))))
 (Ab (retS (Zr (.bl false)))
  Zn)
 Zn)
 (Ab (ifS (Ah (dop eqD (dop ixD (vr 2) (Zr (.int 0))) (Zr (.str "lose"))))
 (Ab (retS (dop (inD false) (vr 2) (Ad (Ac (Gk k) fuel f72) (Aa (vr 1) (Zr [])))))
  Zn)
 Zn)
 (Ab (ifS (Ah (dop eqD (dop ixD (vr 2) (Zr (.int 0))) (Zr (.str "fall"))))
 (Ab (retS (dop (inD false) (vr 2) (Ad (Ac (Gk k) fuel f73) (Aa (vr 1) (Zr [])))))
  Zn)
 Zn)
 (Ab (retS (Fo (Hl leD ltD (Zr (.int 0)) (dop ixD (vr 2) (Zr (.int 1))) (Ad Dj (Aa (dop ixD (vr 1) (Zr (.int (0)))) (Zr [])))) (dop (inD false) (dop ixD (vr 2) (Zr (.int 2))) (Ad (Ac (Gk k) fuel f52) (Aa (vr 0) (Aa (vr 1) (Aa (dop ixD (vr 2) (Zr (.int 1))) (Zr []))))))))
 Zn))))
theorem Mf (k:Nat):Bq f77 k=b77 k:=by kernel_rfl
noncomputable def b78 (k:Nat):SM :=
 (Ab (ifS (J1 (Hv (G6 (Abe "tuple" (vr 0)))) (Hv (Ah (Hl leD leD (Zr (.int 2)) (Ad Dj (Aa (vr 0) (Zr []))) (Zr (.int 3))))))
 (Ab (retS (Zr (.bl false)))
  Zn)
 Zn)
 (Ab (ifS (Ah (dop eqD (dop ixD (vr 0) (Zr (.int 0))) (Zr (.str "do"))))
 (Ab (retS (Fo (dop eqD (Ad Dj (Aa (vr 0) (Zr []))) (Zr (.int 3))) (Fo (Ad (Ac (Gk k) fuel f27) (Aa (dop ixD (vr 0) (Zr (.int 1))) (Zr []))) (Ad (Ac (Gk k) fuel f79) (Aa (dop ixD (vr 0) (Zr (.int 2))) (Zr []))))))
  Zn)
 Zn)
 (Ab (ifS (Ah (dop eqD (dop ixD (vr 0) (Zr (.int 0))) (Zr (.str "lose"))))
 (Ab (retS (Fo (dop eqD (Ad Dj (Aa (vr 0) (Zr []))) (Zr (.int 3))) (Fo (Ad (Ac (Gk k) fuel f27) (Aa (dop ixD (vr 0) (Zr (.int 1))) (Zr []))) (Ad (Ac (Gk k) fuel f27) (Aa (dop ixD (vr 0) (Zr (.int 2))) (Zr []))))))
  Zn)
 Zn)
 (Ab (retS (Fo (dop eqD (dop ixD (vr 0) (Zr (.int 0))) (Zr (.str "fall"))) (Fo (dop eqD (Ad Dj (Aa (vr 0) (Zr []))) (Zr (.int 2))) (Ad (Ac (Gk k) fuel f27) (Aa (dop ixD (vr 0) (Zr (.int 1))) (Zr []))))))
 Zn))))
theorem Acn (k:Nat):Bq f78 k=b78 k:=by kernel_rfl
noncomputable def b79 (k:Nat):SM :=
 (Ab (ifS (G6 (Abe "tuple" (vr 0)))
 (Ab (retS (Ad tV (Aa (Di (Ep (vr 0)) [none,none] (Ar 1) (Zr true) (Ad (Ac (Gk k) fuel f27) (Aa (vr 1) (Zr [])))) (Zr []))))
  Zn)
 Zn)
 (Ab (retS (Ad (Ac (Gk k) fuel f27) (Aa (vr 0) (Zr []))))
 Zn))
theorem Aco (k:Nat):Bq f79 k=b79 k:=by kernel_rfl
noncomputable def b80 (k:Nat):SM :=
 (Ab (Az (dop ixD (vr 0) (Zr (.int (2)))) (Ar 3))
 (Ab (Az (Ad (Ac (Gk k) fuel f47) (Aa (vr 0) (Aa (vr 1) (Aa (vr 2) (Aa (dSl (Ad (Ac (Gk k) fuel f45) (Aa (vr 0) (Aa (vr 1) (Aa (vr 2) (Zr []))))) (some (Zr (.int 1))) none) (Zr [])))))) (Ar 4))
 (Ab (retS (Ad (Ac (Gk k) fuel f16) (Aa (vr 4) (Aa (Zr (.int (2))) (Aa (Bo (Aa (dop cT (dop ixD (vr 3) (Zr (.int 0))) (Zr (.int 1))) (Aa (dop ixD (vr 3) (Zr (.int 1))) (Zr [])))) (Zr []))))))
 Zn)))
theorem Acp (k:Nat):Bq f80 k=b80 k:=by kernel_rfl
noncomputable def b81 (k:Nat):SM :=
 (Ab (Az (dop ixD (vr 0) (Zr (.int (2)))) (Ar 2))
 (Ab (Az (Ad (Ac (Gk k) fuel f16) (Aa (vr 0) (Aa (Zr (.int (1))) (Aa (Ad (Ac (Gk k) fuel f16) (Aa (dop ixD (vr 0) (Zr (.int (1)))) (Aa (vr 1) (Aa (dop Gg (Bo (Aa (Bo (Zr [])) (Zr []))) (Ad Dj (Aa (dop ixD (vr 0) (Zr (.int (0)))) (Zr [])))) (Zr []))))) (Zr []))))) (Ar 3))
 (Ab (retS (Ad (Ac (Gk k) fuel f16) (Aa (Ad (Ac (Gk k) fuel f46) (Aa (vr 3) (Aa (vr 1) (Aa (Ad (Ac (Gk k) fuel f14) (Aa (Zr (.int (-1))) (Zr []))) (Zr []))))) (Aa (Zr (.int (2))) (Aa (Bo (Aa (dop ixD (vr 2) (Zr (.int 0))) (Aa (dop cT (dop ixD (vr 2) (Zr (.int 1))) (Zr (.int 1))) (Zr [])))) (Zr []))))))
 Zn)))
theorem Acq (k:Nat):Bq f81 k=b81 k:=by kernel_rfl
noncomputable def b83 (k:Nat):SM :=
 (Ab (ifS (J1 (Hv (G6 (Ad (Ac (Gk k) fuel f77) (Aa (vr 0) (Aa (vr 1) (Aa (vr 2) (Zr []))))))) (Hv (G6 (Ad (Ac (Gk k) fuel f77) (Aa (vr 0) (Aa (vr 1) (Aa (vr 3) (Zr []))))))))
 (Ab (retS (Zr .non))
  Zn)
 Zn)
 (Ab (ifS (J1 (Ah (dop eqD (Ad (Ac (Gk k) fuel f74) (Aa (vr 2) (Zr []))) (Ad (Ac (Gk k) fuel f74) (Aa (vr 3) (Zr []))))) (Ah (dop (inD false) (Np (Zr (.int 1))) (Bo (Aa (Ad (Ac (Gk k) fuel f74) (Aa (vr 2) (Zr []))) (Aa (Ad (Ac (Gk k) fuel f74) (Aa (vr 3) (Zr []))) (Zr [])))))))
 (Ab (retS (Zr .non))
  Zn)
 Zn)
 (Ab (retS (Ad (Ac (Gk k) fuel f76) (Aa (vr 0) (Aa (Ad (Ac (Gk k) fuel f76) (Aa (vr 0) (Aa (vr 1) (Aa (vr 2) (Zr []))))) (Aa (vr 3) (Zr []))))))
 Zn)))
theorem Ue (k:Nat):Bq f83 k=b83 k:=by kernel_rfl
noncomputable def b85 (k:Nat):SM :=
 (Ab (Az (lstM (Zr [])) (Ar 3))
 (Ab (Az (lstM (Aa (Ad (Ac (Gk k) fuel f42) (Aa (vr 0) (Zr []))) (Zr []))) (Ar 4))
 (Ab (Tc (Ah (dop ltD (Ad Dj (Aa (vr 3) (Zr []))) (vr 2)))
 (Ab (Az (Ad (Ac (Gk k) fuel f71) (Aa (vr 0) (Aa (dop ixD (vr 4) (Np (Zr (.int 1)))) (Zr [])))) (Ar 5))
  (Ab (ifS (Ah (dop eqD (Ad Dj (Aa (vr 5) (Zr []))) (Zr (.int 0))))
  (Ab (fun loc mh=>some (.bk,loc,mh))
   Zn)
  Zn)
  (Ab (Az (dop ixD (vr 5) (dop Bw (Rp (Gk (k+1)).cal (Gk (k+1)).clo 1 (Aa (Ad U0 (Aa (vr 5) (Zr []))) (Zr []))) (Ad Dj (Aa (vr 5) (Zr []))))) (Ar 6))
  (Ab (Fv (Cu "list" Cy (vr 3) (Aa (vr 6) (Zr []))))
  (Ab (Fv (Cu "list" Cy (vr 4) (Aa (Ad (Ac (Gk k) fuel f76) (Aa (vr 0) (Aa (dop ixD (vr 4) (Np (Zr (.int 1)))) (Aa (vr 6) (Zr []))))) (Zr []))))
  Zn))))))
 (Ab (retS (Bo (Aa (vr 3) (Aa (vr 4) (Zr [])))))
 Zn))))
theorem Acr (k:Nat):Bq f85 k=b85 k:=by kernel_rfl
noncomputable def b87 (k:Nat):SM :=
 (Ab (Az (Zr (.int 0)) (Ar 2))
 (Ab (ifS (Dr (Ah (dop neD (vr 0) (lstM (Zr [])))) (Dr (Ah (dop eqD (dop Bw (dop ixD (vr 0) (Zr (.int 0))) (Zr (.int 2))) (Zr (.int 1)))) (Ah (dop ltD (dop Bm (Zr (.int 1)) (dop Ci (vr 1) (Zr (.int 30)))) (Ad Dj (Aa (vr 0) (Zr [])))))))
 (Ab (Az (dop cU (dop ixD (vr 0) (dop Bm (Zr (.int 1)) (dop Ci (vr 1) (Zr (.int 30))))) (dop Gg (Zr (.int 32)) (dop Bw (vr 1) (Zr (.int 30))))) (Ar 2))
  (Ab (ifS (Dr (Ah (dop neD (vr 2) (Zr (.int 0)))) (Ah (dop neD (vr 2) (Np (Zr (.int 1))))))
  (Ab (retS (dop Bw (vr 2) (dop Abb (Zr (.int 2)) (Zr (.int 32)))))
   Zn)
  Zn)
  Zn))
 Zn)
 (Ab (ifS (Ah (dop neD (vr 0) (lstM (Zr []))))
 (Ab (Az (dop ixD (vr 0) (dop Bw (vr 1) (Ad Dj (Aa (vr 0) (Zr []))))) (Ar 2))
  Zn)
 Zn)
 (Ab (Az (dop Bw (dop Gg (dop Bm (dop Bm (vr 2) (dop Gg (Zr (.int 7919)) (vr 1))) (Zr (.int 1))) (Zr (.int 48271))) (Zr (.int 2147483647))) (Ar 3))
 (Ab (Az (dop Bw (dop Gg (vr 3) (dop Bm (dop Ci (vr 3) (Zr (.int 1009))) (Zr (.int 69621)))) (Zr (.int 2147483647))) (Ar 3))
 (Ab (retS (dop Bw (dop Gg (vr 3) (dop Bm (dop Ci (vr 3) (Zr (.int 2003))) (Zr (.int 40692)))) (Zr (.int 2147483399))))
 Zn))))))
theorem Acs (k:Nat):Bq f87 k=b87 k:=by kernel_rfl
noncomputable def b88 (k:Nat):SM :=
 (Ab (Az (lstM (Zr [])) (Ar 2))
 (Ab (Hw (J5 Jp (Aa (Zr (.int 4)) (Zr []))) (Ar 3)
 (Ab (Az (dop Bw (dop Ci (vr 0) (dop Bm (Zr (.int 3)) (vr 3))) (Zr (.int 7))) (Ar 4))
  (Ab (ifS (J1 (Ah (dop eqD (dop lA (dop cU (vr 0) (vr 3)) (Zr (.int 1))) (Zr (.int 1)))) (Dr (Ah (dop eqD (vr 2) (lstM (Zr [])))) (Ah (dop eqD (vr 3) (Zr (.int 3))))))
  (Ab (Az (Bo (Aa (vr 3) (Aa (dop Bw (vr 4) (Zr (.int 3))) (Aa (dop Bw (dop Bm (vr 4) (vr 3)) (Zr (.int 3))) (Aa (dop Bw (dop Bm (dop Bm (vr 4) (vr 3)) (Zr (.int 1))) (Zr (.int 3))) (Zr [])))))) (Ar 5))
   (Ab (Fv (Cu "list" Cy (vr 2) (Aa (dop Bm (vr 5) (Bo (Aa (dop Bw (dop Ci (vr 0) (dop Bm (Zr (.int 5)) (vr 3))) (dop Bm (vr 1) (Zr (.int 1)))) (Zr [])))) (Zr []))))
   Zn))
  Zn)
  Zn)))
 (Ab (retS (Bo (Aa (Zr (.str "take")) (Aa (dop ixD (lstM (Aa (Np (Zr (.int 1))) (Aa (Np (Zr (.int 1))) (Aa (Np (Zr (.int 1))) (Aa (Zr (.int 0)) (Zr [])))))) (dop Bw (dop Ci (vr 0) (Zr (.int 16))) (Zr (.int 4)))) (Aa (Ad Gs (Aa (vr 2) (Zr []))) (Zr []))))))
 Zn)))
theorem Acu (k:Nat):Bq f88 k=b88 k:=by kernel_rfl
noncomputable def b89 (k:Nat):SM :=
 (Ab (Az (dop Bw (dop Ci (vr 0) (Zr (.int 32))) (Zr (.int 3))) (Ar 3))
 (Ab (Az (dop Bw (dop Ci (vr 0) (Zr (.int 128))) (Zr (.int 3))) (Ar 4))
 (Ab (Az (dop Bw (dop Ci (vr 0) (Zr (.int 512))) (dop Bm (vr 1) (Zr (.int 1)))) (Ar 5))
 (Ab (Az (dop Bw (dop Ci (vr 0) (Zr (.int 8192))) (Ad Dj (Aa (vr 2) (Zr [])))) (Ar 6))
 (Ab (Az (dop Bw (dop Ci (vr 0) (Zr (.int 65536))) (Zr (.int 4))) (Ar 7))
 (Ab (Az (lstM (Aa (Bo (Aa (Zr (.str "put")) (Aa (vr 3) (Aa (dop cT (vr 7) (Zr (.int 1))) (Zr []))))) (Aa (Bo (Aa (Zr (.str "copy")) (Aa (vr 3) (Aa (vr 4) (Zr []))))) (Aa (Bo (Aa (Zr (.str "raise")) (Aa (vr 3) (Aa (dop cT (vr 7) (Zr (.int 1))) (Zr []))))) (Aa (Bo (Aa (Zr (.str "sum")) (Aa (vr 3) (Aa (vr 4) (Zr []))))) (Zr [])))))) (Ar 8))
 (Ab (Az (dop Bm (vr 8) (lstM (Aa (Bo (Aa (Zr (.str "choose")) (Aa (vr 3) (Aa (dop Bm (Zr (.int 1)) (dop Bw (vr 7) (Zr (.int 3)))) (Zr []))))) (Aa (Bo (Aa (Zr (.str "less")) (Aa (vr 3) (Aa (vr 7) (Aa (vr 5) (Zr [])))))) (Aa (Bo (Aa (Zr (.str "before")) (Aa (vr 3) (Aa (vr 4) (Aa (vr 5) (Zr [])))))) (Zr [])))))) (Ar 8))
 (Ab (Az (dop Bm (vr 8) (lstM (Aa (Bo (Aa (Zr (.str "go")) (Aa (vr 5) (Zr [])))) (Aa (Bo (Aa (Zr (.str "me")) (Aa (vr 3) (Zr [])))) (Aa (Bo (Aa (Zr (.str "pick")) (Aa (vr 3) (Aa (vr 6) (Zr []))))) (Aa (Bo (Aa (Zr (.str "alike")) (Aa (vr 3) (Aa (vr 4) (Aa (vr 5) (Zr [])))))) (Aa (Bo (Aa (Zr (.str "all")) (Aa (dop Bw (vr 3) (Zr (.int 2))) (Aa (vr 6) (Zr []))))) (Zr [])))))))) (Ar 8))
 (Ab (Az (dop Bm (vr 8) (lstM (Aa (Bo (Aa (Zr (.str "empty")) (Aa (dop Bw (vr 3) (Zr (.int 2))) (Zr [])))) (Aa (Bo (Aa (Zr (.str "join")) (Aa (dop Bw (vr 3) (Zr (.int 2))) (Aa (vr 4) (Zr []))))) (Aa (Bo (Aa (Zr (.str "out")) (Aa (vr 3) (Aa (dop Bw (vr 4) (Zr (.int 2))) (Aa (vr 5) (Zr [])))))) (Zr [])))))) (Ar 8))
 (Ab (Az (dop Bm (vr 8) (lstM (Aa (Bo (Aa (Zr (.str "many")) (Aa (dop Bw (vr 3) (Zr (.int 2))) (Aa (vr 7) (Aa (vr 5) (Zr [])))))) (Aa (Bo (Aa (Zr (.str "bell")) (Zr []))) (Zr []))))) (Ar 8))
 (Ab (Az (dop Bm (dop Bm (vr 8) (dop Gg (lstM (Aa (Bo (Aa (Zr (.str "send")) (Aa (vr 3) (Aa (dop Bm (Zr (.int 1)) (vr 7)) (Aa (vr 4) (Aa (dop Bw (dop Ci (vr 0) (Zr (.int 262144))) (Zr (.int 3))) (Zr []))))))) (Zr []))) (Zr (.int 4)))) (dop Gg (lstM (Aa (Ad (Ac (Gk k) fuel f88) (Aa (dop Ci (vr 0) (Zr (.int 1024))) (Aa (vr 1) (Zr [])))) (Zr []))) (Zr (.int 3)))) (Ar 8))
 (Ab (ifS (Dr (Ah (dop eqD (dop Bw (vr 0) (Zr (.int 24))) (Zr (.int 8)))) (Ah (dop eqD (dop ixD (vr 2) (vr 6)) (Zr (.int 1)))))
 (Ab (retS (Bo (Aa (Zr (.str "only")) (Aa (vr 3) (Aa (vr 6) (Zr []))))))
  Zn)
 Zn)
 (Ab (retS (dop ixD (vr 8) (dop Bw (vr 0) (Zr (.int 24)))))
 Zn)))))))))))))
theorem Acv (k:Nat):Bq f89 k=b89 k:=by kernel_rfl
noncomputable def b90 (k:Nat):SM :=
 (Ab (Az (Ad (Ac (Gk k) fuel f87) (Aa (vr 0) (Aa (Zr (.int 0)) (Zr [])))) (Ar 1))
 (Ab (Az (dop Bm (Zr (.int 1)) (dop Bw (vr 1) (Zr (.int 3)))) (Ar 2))
 (Ab (Az (Ad Gs (Aa (Ad Kz (Aa (Di (J5 Jp (Aa (dop Bm (Zr (.int 1)) (dop Bw (dop Ci (vr 1) (Zr (.int 4))) (Zr (.int 6)))) (Zr []))) [none,none,some 2,some 0] (Ar 1) (Zr true) (dop Bw (Ad (Ac (Gk k) fuel f87) (Aa (vr 3) (Aa (dop Bm (Zr (.int 2)) (vr 1)) (Zr [])))) (vr 2))) (Zr []))) (Zr []))) (Ar 4))
 (Ab (Az (Di (J5 Jp (Aa (vr 2) (Zr []))) [none,none,some 4] (Ar 1) (Zr true) (Ad Dj (Aa (Di (Ep (vr 2)) [none,none,some 1] (Ar 1) (Ah (dop eqD (vr 1) (vr 2))) (vr 1)) (Zr [])))) (Ar 6))
 (Ab (Az (lstM (Zr [])) (Ar 7))
 (Ab (Hw (J5 Jp (Aa (vr 2) (Zr []))) (Ar 5)
 (Ab (Az (dop Bw (Ad (Ac (Gk k) fuel f87) (Aa (vr 0) (Aa (dop Bm (Zr (.int 10)) (vr 5)) (Zr [])))) (Zr (.int 9))) (Ar 8))
  (Ab (Az (lstM (Zr [])) (Ar 9))
  (Ab (Hw (J5 Jp (Aa (vr 8) (Zr []))) (Ar 3)
  (Ab (Fv (Cu "list" Cy (vr 9) (Aa (Ad (Ac (Gk k) fuel f89) (Aa (Ad (Ac (Gk k) fuel f87) (Aa (vr 0) (Aa (dop Bm (dop Bm (Zr (.int 100)) (dop Gg (Zr (.int 20)) (vr 5))) (vr 3)) (Zr [])))) (Aa (vr 8) (Aa (vr 6) (Zr []))))) (Zr []))))
   Zn))
  (Ab (ifS (Dr (Ah (dop neD (vr 9) (lstM (Zr [])))) (Ah (dop gtD (dop Bw (Ad (Ac (Gk k) fuel f87) (Aa (vr 0) (Aa (dop Bm (Zr (.int 20)) (vr 5)) (Zr [])))) (Zr (.int 4))) (Zr (.int 0)))))
  (Ab (Az (Bo (Aa (Zr (.str "pick")) (Aa (Zr (.int 0)) (Aa (dop Bw (dop Ci (Ad (Ac (Gk k) fuel f87) (Aa (vr 0) (Aa (dop Bm (Zr (.int 20)) (vr 5)) (Zr [])))) (Zr (.int 4))) (vr 2)) (Zr []))))) (Rf (vr 9) (Zr (.int 0))))
   Zn)
  Zn)
  (Ab (Fv (Cu "list" Cy (vr 7) (Aa (Ad Gs (Aa (vr 9) (Zr []))) (Zr []))))
  Zn))))))
 (Ab (Az (dop ixD (lstM (Aa (Zr (.int 0)) (Aa (Zr (.int 0)) (Aa (Zr (.int 0)) (Aa (Zr (.int 1)) (Aa (Zr (.int 2)) (Zr []))))))) (dop Bw (dop Ci (vr 1) (Zr (.int 16))) (Zr (.int 5)))) (Ar 10))
 (Ab (retS (Bo (Aa (dop Bm (Zr (.int 1)) (dop Bw (dop Ci (vr 1) (Zr (.int 400))) (Zr (.int 2)))) (Aa (Bo (Aa (vr 10) (Aa (dop ixD (lstM (Aa (Zr (.int 0)) (Aa (Zr (.int 0)) (Aa (Zr (.int 0)) (Aa (Zr (.int 0)) (Aa (Zr (.int 1)) (Zr []))))))) (dop Bw (dop Ci (vr 1) (Zr (.int 80))) (Zr (.int 5)))) (Zr [])))) (Aa (Ad Gs (Aa (vr 7) (Zr []))) (Aa (vr 4) (Zr [])))))))
 Zn))))))))
theorem Acw (k:Nat):Bq f90 k=b90 k:=by kernel_rfl
noncomputable def b91 (k:Nat):SM :=
 (Ab (Az (lstM (Aa (Bo (Aa (Zr (.str "do")) (Aa (vr 2) (Aa (Zr (.int 0)) (Zr []))))) (Aa (Bo (Aa (Zr (.str "do")) (Aa (dop Bw (dop Ci (vr 1) (Zr (.int 8))) (vr 2)) (Aa (Zr (.int 99)) (Zr []))))) (Aa (Bo (Aa (Zr (.str "do")) (Aa (Np (Zr (.int 1))) (Aa (Zr (.int 0)) (Zr []))))) (Aa (dop Bm (vr 0) (Bo (Aa (Zr (.int 0)) (Zr [])))) (Aa (Bo (Aa (Zr (.str "go")) (Aa (Zr (.int 0)) (Aa (Zr (.int 0)) (Zr []))))) (Aa (Bo (Aa (Zr (.str "fall")) (Aa (vr 2) (Zr [])))) (Zr [])))))))) (Ar 3))
 (Ab (Az (lstM (Aa (Bo (Aa (Zr (.str "do")) (Aa (Zr (.bl true)) (Aa (Zr (.int 0)) (Zr []))))) (Aa (Bo (Aa (Zr (.str "do")) (Aa (Zr (.bl false)) (Aa (Zr (.int 0)) (Zr []))))) (Aa (Bo (Aa (Zr (.str "do")) (Aa (dop Bw (dop Ci (vr 1) (Zr (.int 8))) (vr 2)) (Aa (Zr (.bl false)) (Zr []))))) (Aa (Bo (Aa (Zr (.str "do")) (Aa (dop Bw (dop Ci (vr 1) (Zr (.int 8))) (vr 2)) (Aa (Zr (.bl true)) (Zr []))))) (Zr [])))))) (Ar 4))
 (Ab (retS (dop ixD (dop Bm (vr 3) (vr 4)) (dop Bw (vr 1) (Zr (.int 10)))))
 Zn)))
theorem Acx (k:Nat):Bq f91 k=b91 k:=by kernel_rfl
noncomputable def b92 (k:Nat):SM :=
 (Ab (Az (Ad (Ac (Gk k) fuel f71) (Aa (vr 0) (Aa (vr 1) (Zr [])))) (Ar 3))
 (Ab (ifS (Ah (dop eqD (vr 3) (lstM (Zr []))))
 (Ab (retS (dop (isD false) (Ad (Ac (Gk k) fuel f83) (Aa (vr 0) (Aa (vr 1) (Aa (Bo (Aa (Zr (.str "do")) (Aa (Zr (.int 0)) (Aa (Zr (.int 0)) (Zr []))))) (Aa (Bo (Aa (Zr (.str "do")) (Aa (Zr (.int 0)) (Aa (Zr (.int 0)) (Zr []))))) (Zr [])))))) (Zr .non)))
  Zn)
 Zn)
 (Ab (Az (dop ixD (vr 3) (dop Bw (vr 2) (Ad Dj (Aa (vr 3) (Zr []))))) (Ar 4))
 (Ab (Az (dop ixD (vr 3) (dop Bw (dop Ci (vr 2) (Zr (.int 64))) (Ad Dj (Aa (vr 3) (Zr []))))) (Ar 5))
 (Ab (Az (dop eqD (dop Bw (dop Ci (vr 2) (Zr (.int 4096))) (Zr (.int 6))) (Zr (.int 0))) (Ar 6))
 (Ab (ifS (G6 (vr 6))
 (Ab (Az (Ad (Ac (Gk k) fuel f91) (Aa (vr 5) (Aa (dop Ci (vr 2) (Zr (.int 32768))) (Aa (Ad Dj (Aa (dop ixD (vr 0) (Zr (.int 3))) (Zr []))) (Zr []))))) (Ar 5))
  Zn)
 Zn)
 (Ab (Az (Ad (Ac (Gk k) fuel f83) (Aa (vr 0) (Aa (vr 1) (Aa (vr 4) (Aa (vr 5) (Zr [])))))) (Ar 7))
 (Ab (ifS (J1 (G6 (vr 6)) (J1 (Ah (dop neD (dop ixD (vr 4) (Zr (.int 0))) (Zr (.str "do")))) (J1 (Ah (dop neD (dop ixD (vr 5) (Zr (.int 0))) (Zr (.str "do")))) (Ah (dop eqD (dop ixD (vr 4) (Zr (.int 1))) (dop ixD (vr 5) (Zr (.int 1))))))))
 (Ab (retS (Fo (dop (isD false) (vr 7) (Zr .non)) (dop (isD false) (Ad (Ac (Gk k) fuel f83) (Aa (vr 0) (Aa (vr 1) (Aa (vr 5) (Aa (vr 4) (Zr [])))))) (Zr .non))))
  Zn)
 Zn)
 (Ab (Az (Ad (Ac (Gk k) fuel f75) (Aa (vr 0) (Aa (Ad (Ac (Gk k) fuel f75) (Aa (vr 0) (Aa (vr 1) (Aa (vr 4) (Zr []))))) (Aa (vr 5) (Zr []))))) (Ar 8))
 (Ab (ifS (Ah (dop neD (vr 8) (Ad (Ac (Gk k) fuel f75) (Aa (vr 0) (Aa (Ad (Ac (Gk k) fuel f75) (Aa (vr 0) (Aa (vr 1) (Aa (vr 5) (Zr []))))) (Aa (vr 4) (Zr [])))))))
 (Ab (retS (Zr (.bl false)))
  Zn)
 Zn)
 (Ab (retS (Fo (dop eqD (vr 7) (vr 8)) (dop eqD (Ad (Ac (Gk k) fuel f83) (Aa (vr 0) (Aa (vr 1) (Aa (vr 5) (Aa (vr 4) (Zr [])))))) (vr 8))))
 Zn)))))))))))
theorem Acy (k:Nat):Bq f92 k=b92 k:=by kernel_rfl
noncomputable def Acz (k:Nat):SM :=
 (Ab (Ab (Az (dSl (vr 0) none (some (Zr (.int 63)))) (Ar 0))
 (Ab (Az (Ad (Ac (Gk k) fuel f90) (Aa (vr 0) (Zr []))) (Ar 1))
 (Ab (Az (Di (J5 Jp (Aa (Zr (.int 20)) (Zr []))) [none,none,some 0] (Ar 1) (Zr true) (Ad (Ac (Gk k) fuel f87) (Aa (vr 2) (Aa (dop Bm (Zr (.int 300)) (vr 1)) (Zr []))))) (Ar 7))
 Zn)))
 (Ab (cM "law" mk0)
 (Ab (Az (Ad (Ac (Gk k) fuel f85) (Aa (vr 1) (Aa (vr 3) (Aa (Zr (.int 20)) (Zr []))))) (U6 [4,5]))
 (Ab (Hw (J5 Jp (Aa (Ad Dj (Aa (vr 5) (Zr []))) (Zr []))) (Ar 2)
 (Ab (Hw (J5 Jp (Aa (Zr (.int 3)) (Zr []))) (Ar 6)
  (Ab (ifS (Hv (G6 (Ad (Ac (Gk k) fuel f92) (Aa (vr 1) (Aa (dop ixD (vr 5) (vr 2)) (Aa (Ad (Ac (Gk k) fuel f87) (Aa (vr 0) (Aa (dop Bm (dop Bm (Zr (.int 400)) (dop Gg (Zr (.int 3)) (vr 2))) (vr 6)) (Zr [])))) (Zr [])))))))
   (Ab (retS (Zr (.bl false)))
    Zn)
   Zn)
   Zn))
  Zn))
 (Ab (retS (Zr (.bl true)))
 Zn)))))
theorem vM (k:Nat):Zx (Gk (k+1)) fuel "law" f93 mk0=Acz k:=by kernel_rfl
noncomputable def Ac0 (k:Nat):SM :=
 (Ab (retS (Cu "list" bW (vr 1) (Zr [])))
 Zn)
theorem vN (k:Nat):iSs (Gk (k+1)) fuel { N:=mk0.ci.N++mk0.ci.fr,scope:=mk0.ci.scope,own:=fun y=>!(mk0.ci.fr.contains y) } mk0.ci.body=Ac0 k:=by kernel_rfl
local macro_rules | `(tactic| walk_at "s") => `(tactic| with_reducible first | refine Ao ?_ | refine Dc ?_ | refine Gw ?_ | refine vI ?_ | refine Cv ?_ | refine Be ?_ | refine Ak ?_ | refine vH ?_ | refine Ax (by with_unfolding_all rfl) ?_ | refine Ai ?_ | refine Bj ?_ | refine Am ?_ | refine Bu ?_ | refine mC ?_ | refine Pu ?_ | refine mD ?_ | refine Abl ?_ | refine Yb ?_ | refine Afe ?_ | refine mU ?_ | refine Bx ?_ | refine Dv ?_ | refine Dk ?_ | refine T5 ?_ | refine Kc ?_ | refine vD ?_ | refine mF ?_ | refine V2 ?_ | refine T6 ?_ | refine Afd ?_ | refine mG ?_ | refine mH ?_ | refine Px ?_ | refine vG ?_ | refine mJ ?_ | refine Bc ?_ | refine Abm ?_ | refine Afg ?_ | refine Abr ?_ | refine Abs ?_ | refine Dy ?_ | refine N6 (by with_unfolding_all rfl) ?_ | refine Ua (by with_unfolding_all rfl) ?_ | refine Abt ?_ | refine Abo ?_ | refine mQ ?_ | refine Gj ?_ | refine Gy ?_ | refine Abp ?_ | refine Abu (by with_unfolding_all rfl) (by with_unfolding_all rfl) ?_)
local macro_rules | `(tactic| walk_at "r") => `(tactic| repeat walk_at "s")
theorem Fd {ds:List D}{q:Prop}(h:ds.length<=1000000) (hq:q):ds.length<=1000000/\q:=⟨h,hq⟩
theorem Ac1 {h:MH}{j:Nat}{o:MO}(e:h[j]?=some o):j < h.length:=(List.getElem?_eq_some_iff.mp e).1
theorem Afl (i:Int) {j:Int}(h:0 < j):0<=i.fmod j:=Int.fmod_nonneg_of_pos i h
theorem Afm (i:Int) {j:Int}(h:0 < j):i.fmod j < j:=Int.fmod_lt_of_pos i h
theorem Bh (i:Int) (n:Nat) (h:0 < n):∃ r:Nat,r < n/\i.fmod (n:Int)=(r:Int):=by
 have l1:=Afl i (j:=(n:Int)) (by omega);have l2:=Afm i (j:=(n:Int)) (by omega);exact ⟨(i.fmod n).toNat,by omega,by omega⟩
theorem N8 (h:MH) (ds:List D):Ec (.ref h.length) (h++[.lst ds])=some ds:=by
 show (match (h++[MO.lst ds])[h.length]? with | some (.lst o)=>some o | _=>none)=_;rw [Aq]
theorem Dl {h:MH}{j:Nat}{ds:List D}(e:h[j]?=some (.lst ds)):Ec (.ref j) h=some ds:=by
 show (match h[j]? with | some (.lst o)=>some o | _=>none)=_;rw [e]
theorem Kd (n:Nat):Bt 0 n=(List.range n).map Ae:=List.map_congr_left fun x _=>by show D.int (0+(x:Int))=D.int (x:Int);rw [Int.zero_add]
theorem Et {n:Nat}{ds:List D}{j:Nat}{mh:MH}{P:D->MH->Prop}(e1:mh[n]?=some (.lst ds)) (hj:j < ds.length) (h:∀ d∈ds,P d mh):wV (ixD (.ref n) (.int j) mh) P:=P0 e1 (List.getElem?_eq_getElem hj) (h _ (List.getElem_mem hj))
noncomputable def IsI (h:MH) (j:Nat) (ns:List Int):Prop:=h[j]?=some (.lst (ns.map D.int))
theorem IsI.ext {h h':MH}{j:Nat}{ns:List Int}(g:IsI h j ns) (x:Ext [] h h'):IsI h' j ns:=x.old _ _ (by simp) g
theorem Yh {n:Nat}{ns:List Int}{j:Nat}{mh:MH}{P:D->MH->Prop}(g:IsI mh n ns) (hj:j < ns.length) (h:P (.int ns[j]) mh):wV (ixD (.ref n) (.int j) mh) P:=P0 g (by rw [List.getElem?_map,List.getElem?_eq_getElem hj];rfl) h
theorem aG {n:Nat}{ns:List Int}{mh:MH}{P:D->MH->Prop}(g:IsI mh n ns) (h:P (.int ns.length) mh):wV (Dj [.ref n] mh) P:=Bp (by intro z z';cases z') (Dl g) (by rw [List.length_map];exact h)
theorem Ac2 {r:Option (D×MH)}{h:MH}{x:D}(w:wV r fun a h'=>a=x/\h'=h):r=some (x,h):=by
 obtain ⟨a,h',e,rfl,rfl⟩:=w;exact e
theorem Fz {α:Type}{mi:DM Src}{cs:List (Option Nat)}{g:GM}{tc:DM Bool}{e:DM D}{loc:DL.Loc}{mh:MH}{Q:D->MH->Prop}(xs:List α) (F:α->D) (pr:α->Bool) (f:α->D) (hz:xs.length<=1000000)
  (hm:wD mi loc mh fun src h0=>Ext [] mh h0/\∀ h,Ext [] h0 h->src.ok h=true/\src.items h=xs.map F)
  (step:∀ x h {R:D->MH->Prop},x∈xs->Ext [] mh h->(∀ h',Ext [] h h'->R (f x) h')->wG (g (F x) (Qp cs loc) h) fun l1 h1=>h1=h/\wD tc l1 h fun c h2=>c=pr x/\h2=h/\(pr x=true->wD e l1 h R))
  (fin:∀ h,Ext [] mh h->Q (.ref h.length) (h++[.lst ((xs.filter pr).map f)])):wD (Di mi cs g tc e) loc mh Q:=by
 refine T8 (Bg hm ?_);rintro src h0 ⟨x0,keep⟩;refine ⟨xs.map F,fun i acc h=>acc=((xs.take i).filter pr).map f/\i<=xs.length/\Ext [] h0 h,by rw [List.length_map];exact hz,⟨rfl,Nat.zero_le _,Ext.refl⟩,fun i acc h q=>keep h q.2.2,?_,?_,?_⟩
 ·rintro i acc h ⟨rfl,hi,_⟩;rw [List.length_map];refine Nat.le_trans (List.length_filter_le _ _) ?_;rw [List.length_take];omega
 ·rintro i d acc h ed ⟨rfl,hi,x⟩;rw [List.getElem?_map] at ed;cases ex:xs[i]? with
  | none=>rw [ex] at ed;cases ed
  | some y =>
   rw [ex] at ed;cases ed;have hl:=(List.getElem?_eq_some_iff.mp ex).1;have et:xs.take (i+1)=xs.take i++[y]:=by rw [List.take_add_one,ex];rfl
   obtain ⟨l1,h1,e1,rfl,c,h2,e2,rfl,rfl,q⟩:=step y h (R:=fun z h3=>((xs.take i).filter pr).map f++[z]=((xs.take (i+1)).filter pr).map f/\i+1<=xs.length/\Ext [] h0 h3\/pr y=false) (List.mem_of_getElem? ex) (x0.trans x) fun h' x'=>by
    cases hp:pr y with
    | false=>exact .inr rfl
    | true=>exact .inl ⟨by rw [et,List.filter_append,List.map_append];simp [hp],hl,x.trans x'⟩
   refine ⟨l1,_,e1,_,_,e2,fun hp=>?_,fun hp=>⟨?_,hl,x⟩⟩
   ·refine Bg (q hp) ?_;rintro z h3 (w | w)
    ·exact w
    ·rw [hp] at w;cases w
   ·rw [et,List.filter_append,List.map_append];simp [hp]
 ·rintro acc h ⟨rfl,hi,x⟩;rw [List.length_map,List.take_length];exact fin h (x0.trans x)
theorem Ij {α:Type}{mi:DM Src}{cs:List (Option Nat)}{g:GM}{e:DM D}{loc:DL.Loc}{mh:MH}{Q:D->MH->Prop}(xs:List α) (F:α->D) (f:α->D) (hz:xs.length<=1000000)
  (hm:wD mi loc mh fun src h0=>Ext [] mh h0/\∀ h,Ext [] h0 h->src.ok h=true/\src.items h=xs.map F)
  (step:∀ x h {R:D->MH->Prop},x∈xs->Ext [] mh h->(∀ h',Ext [] h h'->R (f x) h')->wG (g (F x) (Qp cs loc) h) fun l1 h1=>h1=h/\wD e l1 h R)
  (fin:∀ h,Ext [] mh h->Q (.ref h.length) (h++[.lst (xs.map f)])):wD (Di mi cs g (Zr true) e) loc mh Q:=by
 refine Fz xs F (fun _=>true) f hz hm (fun x h R hx ex hR=>?_) fun h ex=>?_
 ·obtain ⟨l1,h1,e1,rfl,q⟩:=step x h hx ex hR;exact ⟨l1,_,e1,rfl,Ai ⟨rfl,rfl,fun _=>q⟩⟩
 ·have:=fin h ex;rw [List.filter_eq_self.mpr (fun _ _=>rfl)];exact this
theorem K7 {ds:List D}{α:Type}{xs:List α}{F:α->D}{mh:MH}(e:ds=xs.map F):Ext [] mh mh/\∀ h,Ext [] mh h->(Src.seq ds).ok h=true/\(Src.seq ds).items h=xs.map F:=⟨Ext.refl,fun _ _=>⟨rfl,e⟩⟩
theorem aH {n:Nat}{α:Type}{xs:List α}{F:α->D}{mh:MH}(e:mh[n]?=some (.lst (xs.map F))):∀ h,Ext [] mh h->(Src.lref n).ok h=true/\(Src.lref n).items h=xs.map F:=fun h x=>Jd (x.old _ _ (by simp) e)
theorem Dm {a:D}{r:List D}{mh:MH}{P:D->MH->Prop}(h:P a mh):wV (ixD (.tup (a::r)) (.int 0) mh) P:=Cq (j:=0) rfl h
theorem Ga {a b:D}{r:List D}{mh:MH}{P:D->MH->Prop}(h:P b mh):wV (ixD (.tup (a::b::r)) (.int 1) mh) P:=Cq (j:=1) rfl h
theorem Dn {a b c:D}{r:List D}{mh:MH}{P:D->MH->Prop}(h:P c mh):wV (ixD (.tup (a::b::c::r)) (.int 2) mh) P:=Cq (j:=2) rfl h
theorem G4 {a b c d:D}{r:List D}{mh:MH}{P:D->MH->Prop}(h:P d mh):wV (ixD (.tup (a::b::c::d::r)) (.int 3) mh) P:=Cq (j:=3) rfl h
theorem Ik {a b c d e:D}{r:List D}{mh:MH}{P:D->MH->Prop}(h:P e mh):wV (ixD (.tup (a::b::c::d::e::r)) (.int 4) mh) P:=Cq (j:=4) rfl h
structure Pg where
 room:Nat
 l0:Nat
 l1:Nat
 roles:List (List D)
 plays:List Nat
noncomputable def Pg.d (p:Pg):D:=.tup [.int p.room,.tup [.int p.l0,.int p.l1],.tup (p.roles.map D.tup),.tup (p.plays.map Ae)]
noncomputable def Pg.H (p:Pg):Nat:=p.plays.length
noncomputable def Pg.len (p:Pg) (r:Nat):Nat:=((p.roles[r]?).getD []).length
structure Pg.ok (p:Pg):Prop where
 h1:1<=p.plays.length
 h6:p.plays.length<=6
 pl:∀ r∈p.plays,r < p.roles.length
 rm:p.room<=10
local macro_rules | `(tactic| walk_at "x3") => `(tactic| repeat (first | walk_at "s" | with_reducible refine Fd (by simp) ?_ | with_reducible refine Dm ?_ | with_reducible refine Ga ?_ | with_reducible refine Dn ?_ | with_reducible refine G4 ?_ | with_reducible refine Ik ?_))
section
variable {mh:MH}{n:Nat}{d:D}{P:D->MH->Prop}
theorem vO (k:Nat) (p:Pg) (r:Nat) (hr:r < p.roles.length) (h:P (.int (p.len r)) mh):wV (Ac (Gk (k+1)) fuel f36 [p.d,.int r] mh) P:=by
 refine Aj (Abz k) nA.1 nA.2 rfl ?_;show wS (b36 k) [some p.d,some (.int r)] mh _;unfold b36 Pg.d
 walk_at "x3"
 refine Cq (j:=r) (d:=.tup p.roles[r]) (by rw [List.getElem?_map,List.getElem?_eq_getElem hr];rfl) ?_
 walk_at "x3"
 refine Bp (ds:=p.roles[r]) (by intro z z';cases z') rfl ?_;have e:p.len r=p.roles[r].length:=by unfold Pg.len;rw [List.getElem?_eq_getElem hr];rfl
 rw [e] at h;exact h
end
theorem vP {ds:List D}{i:Nat}(hi:i < ds.length) {mh:MH}{P:D->MH->Prop}(h:P (.tup (ds.take i)) mh):wV (slD (.tup ds) none (some (i:Int)) mh) P:=by
 refine ⟨_,_,?_,h⟩;have e2:HT.sIx ds.length ds.length (some (i:Int))=i:=by rw [HT.sIx_nat];omega
 show (if HT.sIx ds.length 0 none=0/\HT.sIx ds.length ds.length (some (i:Int))=ds.length then some (D.tup ds,mh) else some (D.tup (DL.cutD ds none (some (i:Int))),mh))=_;rw [e2,if_neg (by omega)];unfold DL.cutD;rw [e2];simp [HT.sIx_none]
theorem Ug {ds:List D}{i:Nat}(hi:i<=ds.length) {mh:MH}{P:D->MH->Prop}(h:P (.tup (ds.drop i)) mh):wV (slD (.tup ds) (some (i:Int)) none mh) P:=by
 have e1:HT.sIx ds.length 0 (some (i:Int))=i:=by rw [HT.sIx_nat];omega
 have e2:HT.sIx ds.length ds.length none=ds.length:=rfl
 by_cases h0:i=0
 ·subst h0;refine ⟨.tup ds,mh,?_,by simpa using h⟩;show (if HT.sIx ds.length 0 (some ((0:Nat):Int))=0/\HT.sIx ds.length ds.length none=ds.length then some (D.tup ds,mh) else _)=_;rw [e1,e2,if_pos ⟨rfl,rfl⟩]
 ·refine ⟨_,_,?_,h⟩;show (if HT.sIx ds.length 0 (some (i:Int))=0/\HT.sIx ds.length ds.length none=ds.length then some (D.tup ds,mh) else some (D.tup (DL.cutD ds (some (i:Int)) none),mh))=_;rw [e1,e2,if_neg (by omega)];unfold DL.cutD;rw [e1,e2,List.take_of_length_le (by rw [List.length_drop];omega)]
theorem Dz (k:Nat) {ds:List D}{i:Nat}{x:D}(hi:i < ds.length) (hz:ds.length<=1000) {mh:MH}{P:D->MH->Prop}(h:P (.tup (ds.set i x)) mh):wV (Ac (Gk (k+1)) fuel f16 [.tup ds,.int i,x] mh) P:=by
 refine Aj (Abx k) mY.1 mY.2 rfl ?_;show wS (b16 k) [some (.tup ds),some (.int i),some x] mh _;unfold b16
 walk_at "x3"
 refine vP hi ?_
 walk_at "x3"
 refine Jb (by rw [List.length_take,List.length_singleton];omega) ?_
 walk_at "x3"
 rw [show (i:Int)+1=((i+1:Nat):Int) by omega];refine Ug (by omega) ?_;refine Jb (by rw [List.length_append,List.length_take,List.length_singleton,List.length_drop];omega) ?_;rw [List.set_eq_take_append_cons_drop,if_pos hi] at h
 walk_at "x3"
 rw [List.append_assoc];exact h
structure Pt where
 pl:Int
 n0:Int
 n1:Int
 n2:Int
 m0:Int
 m1:Int
 m2:Int
 s0:Nat
 s1:Nat
 bell:Bool
noncomputable abbrev Lt:=Int×Int×Int
noncomputable def Pt.d (p:Pt):D:=.tup [.int p.pl,.tup [.int p.n0,.int p.n1,.int p.n2],.tup [.int p.m0,.int p.m1,.int p.m2],.tup [.int p.s0,.int p.s1],.bl p.bell]
noncomputable def ltD (l:Lt):D:=.tup [.int l.1,.int l.2.1,.int l.2.2]
noncomputable def lsD (l:List Lt):D:=.tup (l.map ltD)
noncomputable def Qx (w:List (List Lt)):D:=.tup (w.map lsD)
structure Wd where
 ps:List Pt
 rs:List (List (List Lt))
 x:Nat
 y:Nat
noncomputable def Wd.d (w:Wd):D:=.tup [.tup (w.ps.map Pt.d),.tup (w.rs.map Qx),.tup [.int w.x,.int w.y]]
structure Pt.ok (H L:Nat) (p:Pt):Prop where
 pl1:-1<=p.pl
 pl2:p.pl<=L
 a0:-1<=p.m0/\p.m0<=(H:Int) - 1
 a1:-1<=p.m1/\p.m1<=(H:Int) - 1
 a2:-1<=p.m2/\p.m2<=(H:Int) - 1
 b0:p.s0 < 2 ^ H
 b1:p.s1 < 2 ^ H
noncomputable def Ag0 (H:Nat) (l:Lt):Prop:=(1<=l.1/\l.1<=12)/\-1<=l.2.2/\l.2.2<=(H:Int) - 1
noncomputable def pD (p:Pg) (l:List Lt):Prop:=l.length<=p.room/\∀ z∈l,Ag0 p.H z
noncomputable def xM (p:Pg) (w:List (List Lt)):Prop:=w.length=p.H/\∀ l∈w,pD p l
structure Wd.ok (p:Pg) (w:Wd):Prop where
 lp:w.ps.length=p.plays.length
 ps:∀ (i r:Nat) (q:Pt),p.plays[i]?=some r->w.ps[i]?=some q->q.ok p.H (p.len r)
 lr:w.rs.length=p.plays.length
 rs:∀ v∈w.rs,xM p v
 xx:w.x<=p.l0
 yy:w.y<=p.l1
noncomputable def p0:Pt:=⟨0,0,0,0,0,0,0,0,0,false⟩
noncomputable def Wd.pt (w:Wd) (h:Nat):Pt:=(w.ps[h]?).getD p0
noncomputable def Wd.cell (w:Wd) (s t:Nat):List Lt:=(((w.rs[t]?).getD [])[s]?).getD []
theorem Wd.pt_at {w:Wd}{h:Nat}(hh:h < w.ps.length):w.ps[h]?=some (w.pt h):=by unfold Wd.pt;rw [List.getElem?_eq_getElem hh];rfl
section
variable {mh:MH}{P:D->MH->Prop}{p:Pg}{w:Wd}
theorem Gd (k h:Nat) (hh:h < w.ps.length) (q:P (w.pt h).d mh):wV (Ac (Gk (k+1)) fuel f44 [w.d,.int h] mh) P:=by
 refine Aj (Ab2 k) nF.1 nF.2 rfl ?_;show wS (b44 k) [some w.d,some (.int h)] mh _;unfold b44 Wd.d
 walk_at "x3"
 refine Cq (j:=h) (d:=(w.pt h).d) (by rw [List.getElem?_map,Wd.pt_at hh];rfl) ?_;exact q
theorem Uh (wo:w.ok p) {s t:Nat}(hs:s < p.plays.length) (ht:t < p.plays.length):∃ v,w.rs[t]?=some v/\v[s]?=some (w.cell s t)/\xM p v:=by
 have lt:t < w.rs.length:=by rw [wo.lr];exact ht
 have vo:=wo.rs _ (List.getElem_mem lt);have ls:s < (w.rs[t]).length:=by rw [vo.1];exact hs
 refine ⟨w.rs[t],List.getElem?_eq_getElem lt,?_,vo⟩;unfold Wd.cell;rw [List.getElem?_eq_getElem lt];show w.rs[t][s]?=some ((w.rs[t][s]?).getD []);rw [List.getElem?_eq_getElem ls];rfl
theorem Ff (k s t:Nat) (wo:w.ok p) (hs:s < p.plays.length) (ht:t < p.plays.length) (q:P (lsD (w.cell s t)) mh):wV (Ac (Gk (k+1)) fuel f45 [w.d,.int s,.int t] mh) P:=by
 obtain ⟨v,e1,e2,_⟩:=Uh wo hs ht;refine Aj (Ab3 k) nG.1 nG.2 rfl ?_;show wS (b45 k) [some w.d,some (.int s),some (.int t)] mh _;unfold b45 Wd.d
 walk_at "x3"
 refine Cq (j:=t) (d:=Qx v) (by rw [List.getElem?_map,e1];rfl) ?_
 walk_at "x3"
 refine Cq (j:=s) (d:=lsD (w.cell s t)) (by rw [List.getElem?_map,e2];rfl) ?_;exact q
noncomputable def Wd.setP (w:Wd) (h:Nat) (q:Pt):Wd:={ w with ps:=w.ps.set h q }
noncomputable def Wd.setC (w:Wd) (s t:Nat) (l:List Lt):Wd:={ w with rs:=w.rs.set t (((w.rs[t]?).getD []).set s l) }
theorem G8 (k h:Nat) (po:p.ok) (wo:w.ok p) (hh:h < p.plays.length) (y:Pt) (q:P (w.setP h y).d mh):wV (Ac (Gk (k+2)) fuel f46 [w.d,.int h,y.d] mh) P:=by
 have h6:=po.h6;refine Aj (Ab4 (k+1)) nH.1 nH.2 rfl ?_;show wS (b46 (k+1)) [some w.d,some (.int h),some y.d] mh _;unfold b46 Wd.d
 walk_at "x3"
 refine Dz k (by rw [List.length_map,wo.lp];exact hh) (by rw [List.length_map,wo.lp];omega) ?_
 walk_at "x3"
 refine Dz k (i:=0) (by simp) (by simp) ?_;have e:(w.ps.map Pt.d).set h y.d=(w.ps.set h y).map Pt.d:=by rw [List.map_set]
 rw [e];exact q
theorem Mg (k s t:Nat) (po:p.ok) (wo:w.ok p) (hs:s < p.plays.length) (ht:t < p.plays.length) (l:List Lt) (q:P (w.setC s t l).d mh):wV (Ac (Gk (k+2)) fuel f47 [w.d,.int s,.int t,lsD l] mh) P:=by
 have h6:=po.h6;obtain ⟨v,e1,e2,vo⟩:=Uh wo hs ht;have lv:v.length=p.plays.length:=vo.1;refine Aj (Ab5 (k+1)) nJ.1 nJ.2 rfl ?_;show wS (b47 (k+1)) [some w.d,some (.int s),some (.int t),some (lsD l)] mh _;unfold b47 Wd.d
 walk_at "x3"
 refine Cq (j:=t) (d:=Qx v) (by rw [List.getElem?_map,e1];rfl) ?_
 walk_at "x3"
 unfold Qx;refine Dz k (by rw [List.length_map,lv];exact hs) (by rw [List.length_map,lv];omega) ?_
 walk_at "x3"
 refine Dz k (by rw [List.length_map,wo.lr];exact ht) (by rw [List.length_map,wo.lr];omega) ?_
 walk_at "x3"
 refine Dz k (i:=1) (by simp) (by simp) ?_;have e:(w.rs.map fun w=>D.tup (w.map lsD)).set t (.tup ((v.map lsD).set s (lsD l)))=(w.rs.set t (v.set s l)).map fun w=>D.tup (w.map lsD):=by rw [List.map_set,List.map_set]
 rw [e];have e3:w.setC s t l={ w with rs:=w.rs.set t (v.set s l) }:=by unfold Wd.setC;rw [e1];rfl
 rw [e3] at q;exact q
theorem Oa {h:Nat}{y:Pt}(wo:w.ok p) (hy:∀ r,p.plays[h]?=some r->y.ok p.H (p.len r)):(w.setP h y).ok p:=by
 refine ⟨by show (w.ps.set h y).length=_;rw [List.length_set];exact wo.lp,fun i r q e1 e2=>?_,wo.lr,wo.rs,wo.xx,wo.yy⟩;have e2:(w.ps.set h y)[i]?=some q:=e2
 by_cases e:h=i
 ·subst e;rw [List.getElem?_set] at e2;simp only [if_true] at e2;split at e2
  ·cases e2;exact hy r e1
  ·cases e2
 ·rw [List.getElem?_set_ne e] at e2;exact wo.ps i r q e1 e2
theorem Ui {s t:Nat}{l:List Lt}(wo:w.ok p) (hl:pD p l):(w.setC s t l).ok p:=by
 refine ⟨wo.lp,wo.ps,by show (w.rs.set t _).length=_;rw [List.length_set];exact wo.lr,fun v hv=>?_,wo.xx,wo.yy⟩;have hv:v∈w.rs.set t (((w.rs[t]?).getD []).set s l):=hv;rcases List.mem_or_eq_of_mem_set hv with hv|rfl
 ·exact wo.rs v hv
 ·cases e:w.rs[t]? with
  | none =>
   rw [e] at hv;rw [List.set_eq_of_length_le (by exact List.getElem?_eq_none_iff.mp e)] at hv;exact wo.rs _ hv
  | some u =>
   have uo:=wo.rs u (List.mem_of_getElem? e);refine ⟨by show (u.set s l).length=_;rw [List.length_set];exact uo.1,fun z hz=>?_⟩;rcases List.mem_or_eq_of_mem_set (show z∈u.set s l from hz) with hz|rfl
   ·exact uo.2 z hz
   ·exact hl
theorem V5 {h:Nat}(wo:w.ok p) (hh:h < p.plays.length):∃ r,p.plays[h]?=some r/\(w.pt h).ok p.H (p.len r):=by
 refine ⟨p.plays[h],List.getElem?_eq_getElem hh,wo.ps h _ _ (List.getElem?_eq_getElem hh) (Wd.pt_at (by rw [wo.lp];exact hh))⟩
end
noncomputable def mem (s:Nat):List Nat:=Ka s (Builtin.Int.intBits (s:Int))
noncomputable def cZ (l:List Nat):D:=.tup (l.map Ae)
theorem pF {s h:Nat}{mh:MH}{P:D->MH->Prop}(q:P (.int ((s:Int) / 2 ^ (h:Int).toNat)) mh):wV (cU (.int s) (.int h) mh) P:=Gx (decide_eq_true (by omega)) q
theorem aJ {i j:Int}{mh:MH}{P:D->MH->Prop}(q:P (.int (Builtin.bitAnd i j)) mh):wV (lA (.int i) (.int j) mh) P:=Gx rfl q
theorem Afn (k s h:Nat) (mh:MH):Ac (Gk (k+1)) fuel f2 [.int s,.int h] mh=some (.bl (s.testBit h),mh):=by
 refine Ac2 ?_;refine Aj (Afi k) xG.1 xG.2 rfl ?_;show wS (b2 k) [some (.int s),some (.int h)] mh _;unfold b2
 walk_at "x3"
 refine pF ?_
 walk_at "x3"
 refine aJ ?_
 walk_at "x3"
 refine ⟨?_,rfl⟩;rw [vB]
theorem Nf (k s:Nat) (hs:s < 2 ^ 20) (mh:MH) {P:D->MH->Prop}(h:∀ h',Ext [] mh h'->P (cZ (mem s)) h'):wV (Ac (Gk (k+2)) fuel f3 [.int s] mh) P:=by
 have hb:=bits_le (g:=s) (n:=20) hs;refine Aj (Afj (k+1)) xH.1 xH.2 rfl ?_;show wS (b3 (k+1)) [some (.int s)] mh _;unfold b3
 walk_at "x3"
 refine Fz (List.range (Builtin.Int.intBits (s:Int))) Ae (fun i=>s.testBit i) Ae (by rw [List.length_range];omega) ?_ (fun x h' R hx ex hR=>?_) fun h' ex=>?_
 ·refine mJ (Am (T6 (Ax (by with_unfolding_all rfl) ⟨rfl,?_⟩)))
  walk_at "x3"
  refine Av (d:=.int (Builtin.Int.intBits (s:Int):Nat)) (h:=mh) rfl ?_
  walk_at "x3"
  exact ⟨_,Du (by omega),by rw [Kd];exact K7 rfl⟩
 ·refine Bc ⟨rfl,?_⟩
  walk_at "x3"
  refine Av (Afn k s x h') ?_
  walk_at "x3"
  refine ⟨rfl,rfl,fun _=>?_⟩
  walk_at "x3"
  exact hR h' Ext.refl
 ·walk_at "x3"
  exact Es (N8 _ _) (h _ (ex.trans Ext.more))
theorem Yi {i j:Nat}{mh:MH}{P:D->MH->Prop}(q:P (Ae (i ||| j)) mh):wV (Abd (.int i) (.int j) mh) P:=Gx rfl (by show P (.int (Builtin.bitOr i j)) mh;rw [cX];exact q)
theorem pG {H:Nat}{mh:MH}{P:D->MH->Prop}(hH:H<=20) (h:P (.int ((2 ^ H:Nat):Int)) mh):wV (Ae9 (.int 1) (.int H) mh) P:=Gx (by
 rw [Bool.and_eq_true,Bool.and_eq_true,decide_eq_true_iff,decide_eq_true_iff,decide_eq_true_iff]
 exact ⟨by omega,by omega,by decide⟩) (by
  show P (.int (1 * 2 ^ (H:Int).toNat)) mh;rw [Int.one_mul,Int.toNat_natCast];have e:((2 ^ H:Nat):Int)=2 ^ H:=by push_cast;rfl
  rw [← e];exact h)
theorem Qd (k n:Nat) (l:List Nat) (mh:MH) (e:mh[n]?=some (.lst (l.map Ae))) (hl:∀ x∈l,x<=20) {P:D->MH->Prop}(h:P (Ae (setOf l)) mh):wV (Ac (Gk (k+1)) fuel f4 [.ref n] mh) P:=by
 refine Aj (xK k) aF.1 aF.2 rfl ?_;show wS (b4 k) [some (.ref n),none,none] mh _;unfold b4
 walk_at "x3"
 refine Hr (Px (Ax rfl ⟨_,src_list e,l.map Ae,fun i loc h'=>h'=mh/\∃ z,loc=[some (.ref n),some (Ae (setOf (l.take i))),z],⟨rfl,none,rfl⟩,?_,?_,?_⟩))
 ·rintro i loc h' ⟨rfl,_⟩;exact Jd e
 ·rintro i d loc h' ed ⟨rfl,z,rfl⟩;rw [List.getElem?_map] at ed;cases ex:l[i]? with
  | none=>rw [ex] at ed;cases ed
  | some y =>
   rw [ex] at ed;cases ed
   walk_at "x3"
   have hy:=hl y (List.mem_of_getElem? ex);refine pG hy ?_
   walk_at "x3"
   refine Yi ?_
   walk_at "x3"
   refine ⟨rfl,some (Ae y),?_⟩;have:setOf (l.take (i+1))=setOf (l.take i) ||| 2 ^ y:=by
    unfold setOf;rw [List.take_add_one,ex,List.foldl_append];rfl
   rw [this];rfl
 ·rintro loc h' ⟨rfl,z,rfl⟩;rw [List.length_map,List.take_length]
  walk_at "x3"
  exact h
theorem V6 (k:Nat) (l:List Nat) (mh:MH) (hl:∀ x∈l,x<=20) {P:D->MH->Prop}(h:P (Ae (setOf l)) mh):wV (Ac (Gk (k+1)) fuel f4 [cZ l] mh) P:=by
 refine Aj (xK k) aF.1 aF.2 rfl ?_;show wS (b4 k) [some (cZ l),none,none] mh _;unfold b4
 walk_at "x3"
 refine Hr (Px (Ax (by with_unfolding_all rfl) ⟨.seq (l.map Ae),rfl,l.map Ae,fun i loc h'=>h'=mh/\∃ z,loc=[some (cZ l),some (Ae (setOf (l.take i))),z],⟨rfl,none,rfl⟩,fun _ _ _ _=>⟨rfl,rfl⟩,?_,?_⟩))
 ·rintro i d loc h' ed ⟨rfl,z,rfl⟩;rw [List.getElem?_map] at ed;cases ex:l[i]? with
  | none=>rw [ex] at ed;cases ed
  | some y =>
   rw [ex] at ed;cases ed
   walk_at "x3"
   have hy:=hl y (List.mem_of_getElem? ex);refine pG hy ?_
   walk_at "x3"
   refine Yi ?_
   walk_at "x3"
   refine ⟨rfl,some (Ae y),?_⟩;have:setOf (l.take (i+1))=setOf (l.take i) ||| 2 ^ y:=by
    unfold setOf;rw [List.take_add_one,ex,List.foldl_append];rfl
   rw [this];rfl
 ·rintro loc h' ⟨rfl,z,rfl⟩;rw [List.length_map,List.take_length]
  walk_at "x3"
  exact h
theorem V7 {l:List Nat}{n:Nat}(h:∀ x∈l,x < n):setOf l < 2 ^ n:=by
 refine Nat.lt_pow_two_of_testBit _ fun i hi=>?_
 rw [Qw,decide_eq_false];exact fun z=>by have:=h i z;omega
noncomputable def plA (p:Pg) (h:Nat):Nat:=(p.plays[h]?).getD 0
noncomputable def hands (p:Pg) (r:Nat):List Nat:=(List.range p.plays.length).filter fun i=>plA p i==r
theorem V8 {p:Pg}{r h:Nat}(m:h∈hands p r):h < p.plays.length:=by
 unfold hands at m;rw [List.mem_filter,List.mem_range] at m;exact m.1
theorem Yj (p:Pg):Ib 0 (p.plays.map Ae)=(List.range p.plays.length).map fun i=>D.tup [Ae i,Ae (plA p i)]:=by
 refine List.ext_getElem? fun i=>?_
 rw [Lp,List.getElem?_map,List.getElem?_map,Nat.zero_add]
 by_cases h:i < p.plays.length
 ·rw [List.getElem?_eq_getElem h,List.getElem?_range h];show some (D.tup [Ae i,Ae p.plays[i]])=some (D.tup [Ae i,Ae (plA p i)]);unfold plA;rw [List.getElem?_eq_getElem h];rfl
 ·rw [List.getElem?_eq_none_iff.mpr (by omega),List.getElem?_eq_none_iff.mpr (by rw [List.length_range];omega)];rfl
theorem Rv (k r:Nat) (p:Pg) (po:p.ok) (mh:MH) {P:D->MH->Prop}(h:∀ h',Ext [] mh h'->P (cZ (hands p r)) h'):wV (Ac (Gk (k+1)) fuel f35 [p.d,.int r] mh) P:=by
 have h6:=po.h6;refine Aj (Aby k) mZ.1 mZ.2 rfl ?_;show wS (b35 k) [some p.d,some (.int r)] mh _;unfold b35;refine Ao (Gw (Bu (Am ?_)));refine Fz (List.range p.plays.length) (fun i=>.tup [Ae i,Ae (plA p i)]) (fun i=>plA p i==r) Ae (by rw [List.length_range];omega) ?_ (fun x h' R hx ex hR=>?_) fun h' ex=>?_
 ·unfold Pg.d
  walk_at "x3"
  refine ⟨_,rfl,Ext.refl,fun _ _=>⟨rfl,?_⟩⟩;exact Yj p
 ·refine mK rfl ⟨rfl,?_⟩;show wD _ [none,some (Ae x),some (Ae (plA p x)),some (.int r)] h' _
  walk_at "x3"
  have e:(((plA p x:Nat):Int)==(r:Int))=(plA p x==r):=by
   by_cases z:plA p x=r
   ·rw [z];simp
   ·rw [beq_eq_false_iff_ne.mpr z];exact beq_eq_false_iff_ne.mpr fun q=>z (by omega)
  refine ⟨e,rfl,fun _=>?_⟩
  walk_at "x3"
  exact hR _ Ext.refl
 ·walk_at "x3"
  exact Es (N8 _ _) (h _ (ex.trans Ext.more))
noncomputable def oth (p:Pg) (r h:Nat):List Nat:=(hands p r).filter fun i=>!(i==h)
theorem Yk {p:Pg}{r h i:Nat}(m:i∈oth p r h):i < p.plays.length:=by
 unfold oth at m;rw [List.mem_filter] at m;exact V8 m.1
theorem Mh {p:Pg}{r:Nat}:(hands p r).length<=p.plays.length:=by
 unfold hands;exact Nat.le_trans (List.length_filter_le _ _) (by rw [List.length_range];exact Nat.le_refl _)
theorem aK (k r h:Nat) (p:Pg) (po:p.ok) (mh:MH) {P:D->MH->Prop}(q:∀ j h',Ext [] mh h'->h'[j]?=some (.lst ((oth p r h).map Ae))->P (.ref j) h'):wV (Ac (Gk (k+2)) fuel f51 [p.d,.int r,.int h] mh) P:=by
 have h6:=po.h6;have hl:=Mh (p:=p) (r:=r);refine Aj (Ab7 (k+1)) nO.1 nO.2 rfl ?_;show wS (b51 (k+1)) [some p.d,some (.int r),some (.int h)] mh _;unfold b51;refine Ao (Gw ?_);refine Fz (hands p r) Ae (fun i=>!(i==h)) Ae (by omega) ?_ (fun x h' R hx ex hR=>?_) fun h' ex=>?_
 ·walk_at "x3"
  refine Rv k r p po mh fun h1 x1=>?_
  exact ⟨_,rfl,x1,fun _ _=>⟨rfl,rfl⟩⟩
 ·refine Bc ⟨rfl,?_⟩
  walk_at "x3"
  have e:(!(((x:Nat):Int)==(h:Int)))=(!(x==h)):=by
   by_cases z:x=h
   ·rw [z];simp
   ·rw [beq_eq_false_iff_ne.mpr z,beq_eq_false_iff_ne.mpr fun q=>z (by omega)]
  refine ⟨e,rfl,fun _=>?_⟩
  walk_at "x3"
  exact hR _ Ext.refl
 ·walk_at "x3"
  exact q _ _ (ex.trans Ext.more) Aq
theorem Ke {c:Nat}{mh:MH}(hc:c<=1000000) {P:D->MH->Prop}(h:P (.ref mh.length) (mh++[.lst ((List.range c).map Ae)])):wV (Er (.int c) mh) P:=by
 refine ⟨_,_,?_,h⟩;have hb:-(2 ^ 62)<=(c:Int)/\(c:Int)<=1000000:=by omega
 have e:Bt 0 c=(List.range c).map Ae:=by
  unfold Bt;apply List.map_congr_left;intro a _;simp [Ae]
 simp only [Er,if_pos hb,Int.toNat_natCast,e]
structure Ln where
 kd:Nat
 a:Nat
 b:Nat
 c:Nat
 q:Nat
noncomputable def lnD (l:Ln):D:=.tup [Ae l.kd,Ae l.a,Ae l.b,Ae l.c,Ae l.q]
inductive Sp where
 | put (a:Nat) (n:Int) | copy (a b:Nat) | raise (a:Nat) (n:Int) | sum (a b:Nat) | choose (a c:Nat) | less (a:Nat) (n:Int) (q:Nat) | before (a b q:Nat) | go (q:Nat)
 | me (a:Nat) | only (a r:Nat) | pick (a r:Nat) | alike (a b q:Nat) | all (g r:Nat) | empty (g:Nat) | join (g a:Nat) | out (a g q:Nat) | many (g c q:Nat)
 | send (a kd b c:Nat) | take (bx:Int) (ls:List Ln) | bell
noncomputable def spD:Sp->D
 | .put a n=>.tup [.str "put",Ae a,.int n]
 | .copy a b=>.tup [.str "copy",Ae a,Ae b]
 | .raise a n=>.tup [.str "raise",Ae a,.int n]
 | .sum a b=>.tup [.str "sum",Ae a,Ae b]
 | .choose a c=>.tup [.str "choose",Ae a,Ae c]
 | .less a n q=>.tup [.str "less",Ae a,.int n,Ae q]
 | .before a b q=>.tup [.str "before",Ae a,Ae b,Ae q]
 | .go q=>.tup [.str "go",Ae q]
 | .me a=>.tup [.str "me",Ae a]
 | .only a r=>.tup [.str "only",Ae a,Ae r]
 | .pick a r=>.tup [.str "pick",Ae a,Ae r]
 | .alike a b q=>.tup [.str "alike",Ae a,Ae b,Ae q]
 | .all g r=>.tup [.str "all",Ae g,Ae r]
 | .empty g=>.tup [.str "empty",Ae g]
 | .join g a=>.tup [.str "join",Ae g,Ae a]
 | .out a g q=>.tup [.str "out",Ae a,Ae g,Ae q]
 | .many g c q=>.tup [.str "many",Ae g,Ae c,Ae q]
 | .send a kd b c=>.tup [.str "send",Ae a,Ae kd,Ae b,Ae c]
 | .take bx ls=>.tup [.str "take",.int bx,.tup (ls.map lnD)]
 | .bell=>.tup [.str "bell"]
structure Ln.ok (L:Nat) (l:Ln):Prop where
 a:l.a < 3
 b:l.b < 3
 c:l.c < 3
 q:l.q<=L
noncomputable def Sp.ok (p:Pg) (L:Nat):Sp->Prop
 | .put a _=>a < 3
 | .copy a b=>a < 3/\b < 3
 | .raise a _=>a < 3
 | .sum a b=>a < 3/\b < 3
 | .choose a c=>a < 3/\c<=1000
 | .less a _ q=>a < 3/\q<=L
 | .before a b q=>(a < 3/\b < 3)/\q<=L
 | .go q=>q<=L
 | .me a=>a < 3
 | .only a r=>a < 3/\hands p r≠[]
 | .pick a _=>a < 3
 | .alike a b q=>(a < 3/\b < 3)/\q<=L
 | .all g _=>g < 2
 | .empty g=>g < 2
 | .join g a=>g < 2/\a < 3
 | .out a g q=>(a < 3/\g < 2)/\q<=L
 | .many g _ q=>g < 2/\q<=L
 | .send a kd b c=>(a < 3/\b < 3/\c < 3)/\1<=kd/\kd<=12
 | .take bx ls=>(bx=-1\/∃ b:Nat,b < 3/\bx=(b:Int))/\ls.length<=1000/\∀ l∈ls,l.ok L
 | .bell=>True
structure Prg (p:Pg) (S:List (List Sp)):Prop where
 po:p.ok
 eq:p.roles=S.map fun l=>l.map spD
 ok:∀ (r:Nat) (l:List Sp),S[r]?=some l->∀ s∈l,s.ok p l.length
 ln:∀ l∈S,l.length<=1000
noncomputable def stA (S:List (List Sp)) (r:Nat) (pl:Int):Option Sp:=if 0<=pl then ((S[r]?).getD [])[pl.toNat]? else none
noncomputable def Pt.nm (q:Pt) (a:Nat):Int:=if a=0 then q.m0 else if a=1 then q.m1 else q.m2
noncomputable def Pt.nu (q:Pt) (a:Nat):Int:=if a=0 then q.n0 else if a=1 then q.n1 else q.n2
noncomputable def Pt.se (q:Pt) (g:Nat):Nat:=if g=0 then q.s0 else q.s1
theorem Pt.nm_ok {H L a:Nat}{q:Pt}(h:q.ok H L):-1<=q.nm a/\q.nm a<=(H:Int) - 1:=by
 unfold Pt.nm;split
 ·exact h.a0
 ·split
  ·exact h.a1
  ·exact h.a2
theorem Pt.se_ok {H L g:Nat}{q:Pt}(h:q.ok H L):q.se g < 2 ^ H:=by
 unfold Pt.se;split
 ·exact h.b0
 ·exact h.b1
local macro_rules | `(tactic| walk_at "x2") => `(tactic| repeat (first | walk_at "s" | with_reducible refine Fd (by simp) ?_ | with_reducible refine Dm ?_ | with_reducible refine Ga ?_ | with_reducible refine Dn ?_ | with_reducible refine G4 ?_ | with_reducible refine Ik ?_ | with_reducible refine vK (by kernel_rfl) (by kernel_rfl) (by decide +kernel) ?_ | with_reducible refine vL (by kernel_rfl) (by kernel_rfl) (by decide +kernel) ?_))
section
variable {mh:MH}{P:D->MH->Prop}{p:Pg}{w:Wd}{S:List (List Sp)}
theorem Qe {q:Pt}{a:Nat}(ha:a < 3) (h:P (.int (q.nm a)) mh):wV (ixD (.tup [.int q.m0,.int q.m1,.int q.m2]) (Ae a) mh) P:=by
 match a,ha with
 | 0,_=>exact Cq (j:=0) rfl h
 | 1,_=>exact Cq (j:=1) rfl h
 | 2,_=>exact Cq (j:=2) rfl h
theorem Ng {q:Pt}{a:Nat}(ha:a < 3) (h:P (.int (q.nu a)) mh):wV (ixD (.tup [.int q.n0,.int q.n1,.int q.n2]) (Ae a) mh) P:=by
 match a,ha with
 | 0,_=>exact Cq (j:=0) rfl h
 | 1,_=>exact Cq (j:=1) rfl h
 | 2,_=>exact Cq (j:=2) rfl h
theorem aL {q:Pt}{g:Nat}(hg:g < 2) (h:P (.int (q.se g:Nat)) mh):wV (ixD (.tup [.int q.s0,.int q.s1]) (Ae g) mh) P:=by
 match g,hg with
 | 0,_=>exact Cq (j:=0) rfl h
 | 1,_=>exact Cq (j:=1) rfl h
theorem Rw (g:Prg p S):p.roles.length=S.length:=by rw [g.eq,List.length_map]
theorem len_eq (g:Prg p S) (r:Nat):p.len r=((S[r]?).getD []).length:=by
 unfold Pg.len;rw [g.eq,List.getElem?_map];cases S[r]? with
 | none=>rfl
 | some l=>show (l.map spD).length=l.length;rw [List.length_map]
noncomputable def aM:Option Sp->D
 | none=>.non
 | some s=>.obj "Step" ["form"] [spD s]
theorem Yl (k r:Nat) (pl:Int) (g:Prg p S) (hr:r < p.roles.length) (q:P (aM (stA S r pl)) mh):wV (Ac (Gk (k+2)) fuel f37 [p.d,.int r,.int pl] mh) P:=by
 have hr':r < S.length:=by rw [← Rw g];exact hr
 have eS:S[r]?=some S[r]:=List.getElem?_eq_getElem hr';have el:p.len r=S[r].length:=by rw [len_eq g,eS];rfl
 refine Aj (Ab0 (k+1)) nC.1 nC.2 rfl ?_;show wS (b37 (k+1)) [some p.d,some (.int r),some (.int pl)] mh _;unfold b37;have no:stA S r pl=none->wS (Ab (retS (Zr .non)) Zn) [some p.d,some (.int r),some (.int pl)] mh (T9 P):=fun e=>by
  rw [e] at q
  walk_at "x2"
  exact q
 refine Ao (Cv (Bx (V2 ?_)));refine Ai (Ax (by with_unfolding_all rfl) (Gj ⟨_,rfl,fun e0=>?_,fun e0=>⟨_,rfl,fun e=>(by cases e),fun _=>?_⟩⟩))
 ·have e0:=of_decide_eq_true e0
  walk_at "x2"
  refine vO k p r hr ?_;refine Gj ⟨_,rfl,fun e1=>?_,fun e1=>?_⟩
  ·have e1:=of_decide_eq_true e1;have hl:pl.toNat < S[r].length:=by omega
   have es:stA S r pl=some S[r][pl.toNat]:=by unfold stA;rw [if_pos e0,eS];exact List.getElem?_eq_getElem hl
   rw [es] at q;unfold Pg.d
   walk_at "x2"
   refine Cq (j:=r) (d:=.tup (S[r].map spD)) (by rw [List.getElem?_map,g.eq,List.getElem?_map,eS];rfl) ?_
   walk_at "x2"
   rw [show pl=((pl.toNat:Nat):Int) by omega];refine Cq (j:=pl.toNat) (d:=spD S[r][pl.toNat]) (by rw [List.getElem?_map,List.getElem?_eq_getElem hl];rfl) ?_
   walk_at "x2"
   exact q
  ·have e1:=of_decide_eq_false e1;refine Be (Ak (no ?_));unfold stA;rw [if_pos e0,eS];exact List.getElem?_eq_none_iff.mpr (by show S[r].length<=pl.toNat;omega)
 ·have e0:=of_decide_eq_false e0;refine Be (Ak (no ?_));unfold stA;rw [if_neg e0]
noncomputable def stW (p:Pg) (S:List (List Sp)) (w:Wd) (h:Nat):Option Sp:=stA S (plA p h) (w.pt h).pl
theorem Rx {h:Nat}(hh:h < p.plays.length):p.plays[h]?=some (plA p h):=by unfold plA;rw [List.getElem?_eq_getElem hh];rfl
theorem xN (po:p.ok) {h:Nat}(hh:h < p.plays.length):plA p h < p.roles.length:=po.pl _ (List.mem_of_getElem? (Rx hh))
theorem Il (k h:Nat) (g:Prg p S) (wo:w.ok p) (hh:h < p.plays.length) (q:P (aM (stW p S w h)) mh):wV (Ac (Gk (k+3)) fuel f50 [p.d,w.d,.int h] mh) P:=by
 refine Aj (Ab6 (k+2)) nM.1 nM.2 rfl ?_;show wS (b50 (k+2)) [some p.d,some w.d,some (.int h)] mh _;unfold b50;refine Ao (Gw (Bu (Am (Ax (by with_unfolding_all rfl) (Am ?_)))));refine Bj (Bj (Ax (by with_unfolding_all rfl) (Ai ?_)));unfold Pg.d
 walk_at "x2"
 refine Cq (j:=h) (d:=Ae (plA p h)) (by rw [List.getElem?_map,Rx hh];rfl) ?_
 walk_at "x2"
 refine Gd (k+1) h (by rw [wo.lp];exact hh) ?_;unfold Pt.d
 walk_at "x2"
 exact Yl k _ _ g (xN g.po hh) q
theorem Hs (k:Nat) (wo:w.ok p) (po:p.ok) (q:∀ j h',Ext [] mh h'->mh.length<=j->h'[j]?=some (.lst ((List.range p.H).map Ae))->P (.ref j) h'):wV (Ac (Gk (k+1)) fuel f43 [w.d] mh) P:=by
 have h6:=po.h6;refine Aj (pB k) Uc.1 Uc.2 rfl ?_;show wS (b43 k) [some w.d] mh _;unfold b43 Wd.d
 walk_at "x2"
 refine Bp (ds:=w.ps.map Pt.d) (by intro z z';cases z') rfl ?_;rw [List.length_map,wo.lp];exact Ke (c:=p.plays.length) (by omega) (q _ _ Ext.more (Nat.le_refl _) Aq)
end
noncomputable def Ym (q:Pt):Bool:=q.pl==-1
theorem Kf (k:Nat) (q:Pt) (mh:MH) {P:D->MH->Prop}(h:P (.bl (Ym q)) mh):wV (Ac (Gk (k+1)) fuel f15 [q.d] mh) P:=by
 refine Aj (Abw k) mX.1 mX.2 rfl ?_;show wS (b15 k) [some q.d] mh _;unfold b15 Pt.d
 walk_at "x2"
 exact h
noncomputable def Ju (w:Wd) (to:Int):Bool:=(to==-1) || Ym (w.pt to.toNat)
noncomputable def Jq (p:Pg) (w:Wd) (h a:Nat):Bool:=Ju w ((w.pt h).nm a) || decide ((w.cell h ((w.pt h).nm a).toNat).length < p.room)
section
variable {mh:MH}{P:D->MH->Prop}{p:Pg}{w:Wd}{S:List (List Sp)}
theorem Mi {to:Int}{H:Nat}(h:-1<=to/\to<=(H:Int) - 1) (hn:¬ to=-1):to=((to.toNat:Nat):Int)/\to.toNat < H:=⟨by omega,by omega⟩
theorem V9 (k h a kd b c:Nat) (g:Prg p S) (wo:w.ok p) (hh:h < p.plays.length) (ha:a < 3) (q:P (.bl (Jq p w h a)) mh):wV (Ac (Gk (k+2)) fuel f54 [p.d,w.d,.int h,spD (.send a kd b c)] mh) P:=by
 obtain ⟨r,er,qo⟩:=V5 wo hh;have nk:=Pt.nm_ok (a:=a) qo;refine Aj (Aca (k+1)) nR.1 nR.2 rfl ?_;show wS (b54 (k+1)) [some p.d,some w.d,some (.int h),some (spD (.send a kd b c)),none] mh _;unfold b54;refine Ao (Dc (Bj (Bj (Bu (Am (Ax (by with_unfolding_all rfl) (Am (Ax (by with_unfolding_all rfl) (Ai (Gd k h (by rw [wo.lp];exact hh) ?_)))))))))) ;unfold Pt.d;dsimp only [spD]
 walk_at "x2"
 refine Qe ha ?_;unfold Jq Ju at q;generalize (w.pt h).nm a=to at q nk;refine Bc (Ak (Ao (Cv (Kc (Bx (Bj (Ax (by with_unfolding_all rfl) (Ai (Gy ⟨_,rfl,fun e=>?_,fun e=>?_⟩)))))))))
 ·rw [e,Bool.true_or,Bool.true_or] at q
  walk_at "x2"
  exact q
 ·rw [e,Bool.false_or] at q;have hn:¬ to=-1:=fun z=>by rw [z] at e;cases e
  obtain ⟨e1,e2⟩:=Mi nk hn;refine Dv (Bu (Am (Bu (Am (Ax (by with_unfolding_all rfl) (Am (Ax (d:=.int to) (by with_unfolding_all rfl) (Ai ?_)))))))) ;rw [e1];refine Gd k to.toNat (by rw [wo.lp];exact e2) ?_
  walk_at "x2"
  refine Kf k _ _ ⟨_,rfl,Ca (fun e3=>?_) fun e3=>?_⟩
  ·rw [e3,Bool.true_or] at q
   walk_at "x2"
   exact q
  ·rw [e3,Bool.false_or] at q;refine Be (Ak ?_)
   walk_at "x2"
   refine Ff k h to.toNat wo hh e2 ?_;unfold lsD
   walk_at "x2"
   refine Bp (ds:=(w.cell h to.toNat).map ltD) (by intro z z';cases z') rfl ?_;unfold Pg.d
   walk_at "x2"
   rw [List.length_map];have e4:decide (((w.cell h to.toNat).length:Int) < (p.room:Int))=decide ((w.cell h to.toNat).length < p.room):=by
    by_cases z:(w.cell h to.toNat).length < p.room
    ·rw [decide_eq_true z,decide_eq_true (by omega)]
    ·rw [decide_eq_false z,decide_eq_false (by omega)]
   rw [e4];exact q
noncomputable def Qy (i:Nat):D:=.tup [Ae i]
noncomputable def Mj (s:Nat):List D:=if s=0 then [.int 0] else (mem s).map Qy
theorem vQ (k s:Nat) (hs:s < 2 ^ 20) (q:∀ j h',Ext [] mh h'->mh.length<=j->h'[j]?=some (.lst (Mj s))->P (.ref j) h'):wV (Ac (Gk (k+3)) fuel f53 [.int s] mh) P:=by
 refine Aj (Ab9 (k+2)) nQ.1 nQ.2 rfl ?_;show wS (b53 (k+2)) [some (.int s)] mh _;unfold b53 ;unfold Mj at q;refine Ao (Cv (Bx (Bj (Ax (by with_unfolding_all rfl) (Ai (Gy ⟨_,rfl,fun e=>?_,fun e=>?_⟩))))))
 ·have e:(s:Int)=0:=eq_of_beq e;rw [if_pos (by omega)] at q
  walk_at "x2"
  exact q _ _ Ext.more (Nat.le_refl _) Aq
 ·have e:¬ (s:Int)=0:=beq_eq_false_iff_ne.mp e;rw [if_neg (by omega)] at q;refine Be (Ak (Ao (Gw ?_)));have lm:(mem s).length<=1000:=by
   have h1:=Pr s (Builtin.Int.intBits (s:Int));have h2:=bits_le (g:=s) (n:=20) hs;show (Ka _ _).length<=1000;omega
  refine Ij (mem s) Ae Qy (by omega) ?_ (fun x h' R hx ex hR=>?_) fun h' ex=>?_
  ·walk_at "x2"
   refine Nf k s hs mh fun h1 x1=>?_
   exact ⟨_,rfl,x1,fun _ _=>⟨rfl,rfl⟩⟩
  ·refine Bc ⟨rfl,?_⟩
   walk_at "x2"
   exact hR _ Ext.refl
  ·walk_at "x2"
   exact q _ _ (ex.trans Ext.more) ex.len Aq
noncomputable def Ef (p:Pg) (w:Wd) (h:Nat) (bx:Int):List Nat:=if bx=-1 then List.range p.H else if (w.pt h).nm bx.toNat=-1 then [] else [((w.pt h).nm bx.toNat).toNat]
theorem Wa {h:Nat}{bx:Int}(wo:w.ok p) (hh:h < p.plays.length) {s:Nat}(hs:s∈Ef p w h bx):s < p.plays.length:=by
 unfold Ef at hs;split at hs
 ·exact List.mem_range.mp hs
 ·split at hs
  ·cases hs
  ·rename_i hn;obtain ⟨r,er,qo⟩:=V5 wo hh;rw [List.mem_singleton.mp hs];exact (Mi (Pt.nm_ok qo) hn).2
theorem Wb (k h:Nat) (bx:Int) (hb:bx=-1\/∃ b:Nat,b < 3/\bx=(b:Int)) (po:p.ok) (wo:w.ok p) (hh:h < p.plays.length) (q:∀ j h',Ext [] mh h'->mh.length<=j->h'[j]?=some (.lst ((Ef p w h bx).map Ae))->P (.ref j) h'):wV (Ac (Gk (k+2)) fuel f56 [w.d,.int h,.int bx] mh) P:=by
 have h6:=po.h6;obtain ⟨r,er,qo⟩:=V5 wo hh;refine Aj (Acd (k+1)) nU.1 nU.2 rfl ?_;show wS (b56 (k+1)) [some w.d,some (.int h),some (.int bx),none] mh _;unfold b56;unfold Ef at q;rcases hb with rfl|⟨b,hb,rfl⟩
 ·rw [if_pos rfl] at q
  walk_at "x2"
  refine Aj (pB k) Uc.1 Uc.2 rfl ?_;show wS (b43 k) [some w.d] mh _;unfold b43 Wd.d
  walk_at "x2"
  refine Bp (ds:=w.ps.map Pt.d) (by intro z z';cases z') rfl ?_;rw [List.length_map,wo.lp];exact Ke (c:=p.plays.length) (by omega) (q _ _ Ext.more (Nat.le_refl _) Aq)
 ·rw [if_neg (by omega),Int.toNat_natCast] at q;refine Ao (Cv (Bx (Bj (Ax (by with_unfolding_all rfl) (mD (Ai ⟨1,rfl,Gy ⟨_,rfl,fun e=>?_,fun _=>Be (Ak ?_)⟩⟩))))))
  ·have e:=eq_of_beq e;omega
  ·refine Ao (Dc (Bj (Bj (Bu (Am (Ax (by with_unfolding_all rfl) (Am (Ax (by with_unfolding_all rfl) (Ai (Gd k h (by rw [wo.lp];exact hh) ?_)))))))))) ;unfold Pt.d
   walk_at "x2"
   refine Qe hb ?_;have nk:=Pt.nm_ok (a:=b) qo;generalize (w.pt h).nm b=to at q nk;refine Bc (Ak (Ao (Gw (mF (Bx (Bj (Ax (by with_unfolding_all rfl) (Ai (Gy ⟨_,rfl,fun e=>?_,fun e=>?_⟩)))))))))
   ·have e:=eq_of_beq e;rw [if_pos e] at q
    walk_at "x2"
    exact q _ _ Ext.more (Nat.le_refl _) Aq
   ·have e:=beq_eq_false_iff_ne.mp e;rw [if_neg e] at q;obtain ⟨e1,e2⟩:=Mi nk e;rw [e1]
    walk_at "x2"
    refine q _ _ Ext.more (Nat.le_refl _) ?_;rw [Aq];show _=some (MO.lst [Ae to.toNat]);rfl
noncomputable def Kg (w:Wd) (h:Nat) (ks:List Int) (s:Nat):List D:=match w.cell s h with
 | []=>[]
 | l::_=>if l.1∈ks then [.tup [Ae s,.int l.1]] else []
noncomputable def K8 (ls:List Ln):List Int:=ls.map fun l=>(l.kd:Int)
noncomputable def Gn (w:Wd) (h:Nat) (ls:List Ln):List D:=if (decide ((0:Int)∈K8 ls)&&(w.pt h).bell)=true then [.tup [.int (-1),.int 0]] else []
noncomputable def Jv (p:Pg) (w:Wd) (h:Nat) (bx:Int) (ls:List Ln):List D:=Gn w h ls++(Ef p w h bx).flatMap (Kg w h (K8 ls))
theorem pH {h s:Nat}{ks:List Int}:(Kg w h ks s).length<=1:=by
 unfold Kg;split
 ·simp
 ·split <;> simp
theorem Wc {h s:Nat}{ks:List Int}(e:w.cell s h=[]):Kg w h ks s=[]:=by unfold Kg;rw [e]
theorem Uj {h s:Nat}{ks:List Int}{l:Lt}{r:List Lt}(e:w.cell s h=l::r) (hk:l.1∈ks):Kg w h ks s=[.tup [Ae s,.int l.1]]:=by unfold Kg;rw [e];exact if_pos hk
theorem aN {h s:Nat}{ks:List Int}{l:Lt}{r:List Lt}(e:w.cell s h=l::r) (hk:¬ l.1∈ks):Kg w h ks s=[]:=by unfold Kg;rw [e];exact if_neg hk
theorem Qf {h:Nat}{ks:List Int}:∀ l:List Nat,(l.flatMap (Kg w h ks)).length<=l.length
 | []=>by simp
 | s::r=>by
  rw [List.flatMap_cons,List.length_append,List.length_cons];have:=Qf (h:=h) (ks:=ks) r;have:=pH (w:=w) (h:=h) (s:=s) (ks:=ks);omega
theorem dB {h i s:Nat}{ks:List Int}{l:List Nat}(e:l[i]?=some s):(l.take (i+1)).flatMap (Kg w h ks)=(l.take i).flatMap (Kg w h ks)++Kg w h ks s:=by
 rw [List.take_add_one,e,List.flatMap_append];simp
theorem pI (k h:Nat) (bx:Int) (ls:List Ln) (hb:bx=-1\/∃ b:Nat,b < 3/\bx=(b:Int)) (hl:ls.length<=1000) (po:p.ok) (wo:w.ok p) (hh:h < p.plays.length) (q:∀ j h',Ext [] mh h'->mh.length<=j->h'[j]?=some (.lst (Jv p w h bx ls))->P (.ref j) h') :
    wV (Ac (Gk (k+3)) fuel f55 [w.d,.int h,spD (.take bx ls)] mh) P:=by
  have h6:=po.h6;have sl:(Ef p w h bx).length<=6:=by
    unfold Ef;split
    · rw [List.length_range];exact h6
    · split <;> simp
  refine Aj (Acb (k+2)) nT.1 nT.2 rfl ?_;show wS (b55 (k+2)) [some w.d,some (.int h),some (spD (.take bx ls)),none,none,none,none] mh _;unfold b55;refine Ao (Dc ?_);refine Ij ls lnD (fun l=>Ae l.kd) (by omega) ?_ (fun x h' R hx ex hR=>?_) fun m1 x1=>?_
  · dsimp only [spD]
    walk_at "x2"
    exact ⟨_,rfl,K7 rfl⟩
  · refine Bc ⟨rfl,?_⟩;unfold lnD
    walk_at "x2"
    exact hR _ Ext.refl
  refine Bc (Ak (Ao (Dc (Pu (Ai ⟨by simp,?_⟩)))));generalize hm2:m1++[MO.lst (ls.map fun l=>Ae l.kd)]=m2;have gk:m2[m1.length]?=some (.lst ((K8 ls).map D.int)):=by
    rw [← hm2,Aq];unfold K8;rw [List.map_map];rfl
  have x2:Ext [] mh m2:=by rw [← hm2];exact x1.trans Ext.more
  have l12:m1.length < m2.length:=by rw [← hm2];simp
  refine Bc (Ak ?_);show wS _ [some w.d,some (.int h),some (spD (.take bx ls)),some (.ref m1.length),some (.ref m2.length),none,none] (m2++[MO.lst []]) _;have gk3:(m2++[MO.lst []])[m1.length]?=some (.lst ((K8 ls).map D.int)):=(Ext.more (W:=[])).old _ _ (by simp) gk
  -- behind the bell
  have loop:∀ m3:MH,Ext [] m2 m3->m3[m2.length]?=some (.lst (Gn w h ls))->wS (Ab (Hw (Ep (Ad (Ac (Gk (k+2)) fuel f56) (Aa (vr 0) (Aa (vr 1) (Aa (dop ixD (vr 2) (Zr (.int 1))) (Zr [])))))) (Ar 5)
     (Ab (Az (Ad (Ac (Gk (k+2)) fuel f45) (Aa (vr 0) (Aa (vr 5) (Aa (vr 1) (Zr []))))) (Ar 6))
      (Ab (ifS (Dr (Ah (dop gtD (Ad Dj (Aa (vr 6) (Zr []))) (Zr (.int 0)))) (Ah (dop (inD false) (dop ixD (dop ixD (vr 6) (Zr (.int 0))) (Zr (.int 0))) (vr 3))))
      (Ab (Fv (Cu "list" Cy (vr 4) (Aa (Bo (Aa (vr 5) (Aa (dop ixD (dop ixD (vr 6) (Zr (.int 0))) (Zr (.int 0))) (Zr [])))) (Zr []))))
       Zn)
      Zn)
      Zn)))
     (Ab (retS (vr 4))
     Zn)) [some w.d,some (.int h),some (spD (.take bx ls)),some (.ref m1.length),some (.ref m2.length),none,none] m3 (T9 P):=fun m3 x3 gf=>by
    have bl1:(Gn w h ls).length<=1:=by unfold Gn;split <;> simp
    refine Ao (Hr (Px (Bu (Am (Ax (by with_unfolding_all rfl) (Am (Ax (by with_unfolding_all rfl) (Am ?_))))))));dsimp only [spD]
    walk_at "x2"
    refine Wb k h bx hb po wo hh fun js m4 x4 hj gs=>?_
    have jf:m2.length < m3.length:=(List.getElem?_eq_some_iff.mp gf).1;refine ⟨_,src_list gs,(Ef p w h bx).map Ae,fun i l m=>Ext [m2.length] m4 m/\m[m2.length]?=some (.lst (Gn w h ls++((Ef p w h bx).take i).flatMap (Kg w h (K8 ls))))/\∃ x5 x6,l=[some w.d,some (.int h),some (spD (.take bx ls)),some (.ref m1.length),some (.ref m2.length),x5,x6],⟨Ext.refl,by rw [x4.old _ _ (by simp) gf];simp,none,none,rfl⟩,?_,?_,?_⟩
    · rintro i l m ⟨xm,_,_⟩;exact Jd (xm.old _ _ (by intro z;have:=List.mem_singleton.mp z;omega) gs)
    · rintro i d l m ed ⟨xm,gm,x5,x6,rfl⟩;rw [List.getElem?_map] at ed;cases es:(Ef p w h bx)[i]? with
      | none=>rw [es] at ed;cases ed
      | some s =>
        rw [es] at ed;cases ed;have hs:=Wa wo hh (List.mem_of_getElem? es);have tf:=dB (w:=w) (h:=h) (ks:=K8 ls) es;have gk4:m[m1.length]?=some (.lst ((K8 ls).map D.int)):=xm.old _ _ (by intro z;have:=List.mem_singleton.mp z;omega) (x4.old _ _ (by simp) (x3.old _ _ (by simp) gk));refine Bc ?_;show wS _ [some w.d,some (.int h),some (spD (.take bx ls)),some (.ref m1.length),some (.ref m2.length),some (Ae s),x6] m _
        walk_at "x2"
        refine Ff (k+1) s h wo hs hh ?_
        walk_at "x2"
        cases ec:w.cell s h with
        | nil =>
          rw [Wc ec] at tf;refine Av (d:=.int 0) (h:=m) rfl ?_
          walk_at "x2"
          exact ⟨xm,by rw [tf];simpa using gm,_,_,rfl⟩
        | cons l0 lr =>
          refine Bp (ds:=(l0::lr).map ltD) (by intro z z';cases z') rfl ?_
          walk_at "x2"
          refine N6 (by rw [List.length_map,List.length_cons];exact decide_eq_true (by omega)) ?_;unfold lsD;rw [List.map_cons];unfold ltD
          walk_at "x2"
          refine Av (V1 gk4) ⟨_,rfl,Ca (fun e=>?_) fun e=>?_⟩
          · have e:=of_decide_eq_true e;rw [Uj ec e] at tf
            walk_at "x2"
            refine ⟨ty_list gm,?_⟩
            walk_at "x2"
            have fl:=Qf (w:=w) (h:=h) (ks:=K8 ls) ((Ef p w h bx).take i);have tl:((Ef p w h bx).take i).length<=6:=by rw [List.length_take];omega
            refine Cj gm (by rw [List.length_append];omega) ?_
            walk_at "x2"
            refine ⟨xm.trans Ext.set,?_,_,_,rfl⟩;rw [Dw gm,tf,List.append_assoc]
          · have e:=of_decide_eq_false e;rw [aN ec e] at tf;refine Be (Ak (Be ⟨xm,by rw [tf];simpa using gm,_,_,rfl⟩))
    · rintro l m ⟨xm,gm,x5,x6,rfl⟩;rw [List.length_map,List.take_length] at gm
      walk_at "x2"
      refine q _ _ ?_ x2.len gm;have lm2:mh.length<=m2.length:=x2.len;refine ⟨Nat.le_trans x2.len (Nat.le_trans x3.len (Nat.le_trans x4.len xm.len)),fun i o _ e=>?_⟩;have hi:i < mh.length:=(List.getElem?_eq_some_iff.mp e).1;exact xm.old i o (by intro z;have:=List.mem_singleton.mp z;omega) (x4.old i o (by simp) (x3.old i o (by simp) (x2.old i o (by simp) e)))
  refine Ao (Cv (T5 (Bx (Bj (Ai (Ax (by with_unfolding_all rfl) (Av (V1 gk3) ⟨_,rfl,fun e=>?_,fun e=>?_⟩)))))))
  · walk_at "x2"
    refine Gd (k+1) h (by rw [wo.lp];exact hh) ?_;unfold Pt.d
    walk_at "x2"
    refine Ca (fun e2=>?_) fun e2=>?_
    · walk_at "x2"
      refine ⟨ty_list Aq,?_⟩
      walk_at "x2"
      refine Cj Aq (by simp) ?_;refine Be (Ak (loop _ ?_ ?_))
      · exact ⟨by simp,fun i o _ ei=>by
          have:i < m2.length:=(List.getElem?_eq_some_iff.mp ei).1
          rw [List.getElem?_set_ne (by omega),List.getElem?_append_left this];exact ei⟩
      · rw [Dw Aq];unfold Gn;rw [e,e2];rfl
    · refine Be (Ak (loop _ Ext.more ?_));rw [Aq];unfold Gn;rw [e,e2];rfl
  · refine Dy (Be (Ak (loop _ Ext.more ?_)));rw [Aq];unfold Gn;rw [e];rfl
end
noncomputable def Ag1:D->Bool
 | .non=>true
 | _=>false
theorem Yn {mh:MH}{d:D}{P:D->MH->Prop}(h:P (.bl (Ag1 d)) mh):wV (isD false d .non mh) P:=⟨_,_,rfl,by cases d <;> exact h⟩
noncomputable def chs (p:Pg) (w:Wd) (h:Nat):Sp->List D
 | .choose _ c=>(List.range c).map Ae
 | .pick _ r=>(oth p r h).map Qy
 | .out _ g _=>Mj ((w.pt h).se g)
 | .take bx ls=>Jv p w h bx ls
 | .send a _ _ _=>if Jq p w h a=true then [.int 0] else []
 | _=>[.int 0]
noncomputable def chW (p:Pg) (S:List (List Sp)) (w:Wd) (h:Nat):List D:=match stW p S w h with
 | none=>[]
 | some s=>chs p w h s
theorem Yo (k:Nat) (t:D) (mh:MH):Ac (Gk (k+1)) fuel aC [.obj "Step" ["form"] [t]] mh=some (t,mh):=by kernel_rfl
section
variable {mh:MH}{P:D->MH->Prop}{p:Pg}{w:Wd}{S:List (List Sp)}
theorem Ry {h:Nat}{s:Sp}(g:Prg p S) (hh:h < p.plays.length) (e:stW p S w h=some s):s.ok p (p.len (plA p h))/\0<=(w.pt h).pl/\(w.pt h).pl < p.len (plA p h):=by
 unfold stW stA at e;split at e
 ·rename_i h0;have hr:plA p h < S.length:=by rw [← Rw g];exact xN g.po hh
  have eS:S[plA p h]?=some S[plA p h]:=List.getElem?_eq_getElem hr;rw [eS] at e;have e:S[plA p h][(w.pt h).pl.toNat]?=some s:=e;have hl:=(List.getElem?_eq_some_iff.mp e).1;have el:p.len (plA p h)=S[plA p h].length:=by rw [len_eq g,eS];rfl
  refine ⟨?_,h0,by omega⟩;rw [el];exact g.ok _ _ eS s (List.mem_of_getElem? e)
 ·cases e
theorem Im (k h:Nat) (g:Prg p S) (wo:w.ok p) (hh:h < p.plays.length) (q:∀ j h',Ext [] mh h'->mh.length<=j->h'[j]?=some (.lst (chW p S w h))->P (.ref j) h'):wV (Ac (Gk (k+4)) fuel f52 [p.d,w.d,.int h] mh) P:=by
 have po:=g.po;have h6:=po.h6;obtain ⟨r0,er0,qo⟩:=V5 wo hh;have hH:p.H<=6:=h6;refine Aj (Ab8 (k+3)) nP.1 nP.2 rfl ?_;show wS (b52 (k+3)) [some p.d,some w.d,some (.int h),none,none] mh _;unfold b52
 walk_at "x2"
 refine Il k h g wo hh ?_;unfold chW at q;cases es:stW p S w h with
 | none =>
  rw [es] at q;unfold aM
  walk_at "x2"
  refine Yn ?_
  walk_at "x2"
  exact q _ _ Ext.more (Nat.le_refl _) Aq
 | some s =>
  rw [es] at q;obtain ⟨so,p1,p2⟩:=Ry g hh es;have q:∀ j h',Ext [] mh h'->mh.length<=j->h'[j]?=some (.lst (chs p w h s))->P (.ref j) h':=q;refine Bc (Ak (Ao (Cv (Bx (Bj (Ax (by with_unfolding_all rfl) (Ai (Yn ⟨_,rfl,fun e=>(by cases e),fun _=>Be (Ak ?_)⟩))))))))
  refine Ao (Dc (mU (Ax (d:=.obj "Step" ["form"] [spD s]) (by with_unfolding_all rfl) ⟨_,_,_,_,_,rfl,rfl,by decide +kernel,Ai (Av (Yo (k+2) (spD s) mh) ?_)⟩)));refine Bc (Ak ?_);show wS _ [some p.d,some w.d,some (.int h),some (aM (some s)),some (spD s)] mh _
  by_cases hn:(∃ (wd:Str) (rest:List D),spD s=.tup (.str wd::rest)/\PyData.strOk wd=true/\(wd==("choose":Str))=false/\(wd==("pick":Str))=false/\(wd==("out":Str))=false/\(wd==("take":Str))=false/\(wd==("send":Str))=false)/\chs p w h s=[.int 0]
  ·obtain ⟨⟨wd,rest,e,h0,h1,h2,h3,h4,h5⟩,ec⟩:=hn;rw [ec] at q;have ix:∀ {Q:D->MH->Prop} {m:MH},Q (.str wd) m->wV (ixD (spD s) (.int 0) m) Q:=fun q=>by
    rw [e];exact Dm q
   walk_at "x2"
   refine ix ?_;refine Ai (Gm (k:=false) (El h0 (by decide +kernel) h1 mh) ⟨_,rfl,Dy (Be (Ak ?_))⟩)
   walk_at "x2"
   refine ix ?_;refine Ai (Gm (k:=false) (El h0 (by decide +kernel) h2 mh) ⟨_,rfl,Dy (Be (Ak ?_))⟩)
   walk_at "x2"
   refine ix ?_;refine Ai (Gm (k:=false) (El h0 (by decide +kernel) h3 mh) ⟨_,rfl,Dy (Be (Ak ?_))⟩)
   walk_at "x2"
   refine ix ?_;refine Ai (Gm (k:=false) (El h0 (by decide +kernel) h4 mh) ⟨_,rfl,Dy (Be (Ak ?_))⟩)
   walk_at "x2"
   refine ix ?_;refine Ai (Gm (k:=false) (El h0 (by decide +kernel) h5 mh) ⟨_,rfl,Dy (Dy (Be (Ak ?_)))⟩)
   walk_at "x2"
   exact q _ _ Ext.more (Nat.le_refl _) Aq
  cases s with
  | choose a c =>
   dsimp only [spD]
   walk_at "x2"
   exact Ke (c:=c) (by have:=so.2;omega) (q _ _ Ext.more (Nat.le_refl _) Aq)
  | pick a r =>
   dsimp only [spD]
   walk_at "x2"
   have lo:(oth p r h).length<=6:=Nat.le_trans (List.length_filter_le _ _) (Nat.le_trans Mh h6);refine Ij (oth p r h) Ae Qy (by omega) ?_ (fun x h' R hx ex hR=>?_) fun h' ex=>?_
   ·walk_at "x2"
    refine aK (k+1) r h p po mh fun j h1 x1 gj=>?_
    exact ⟨_,src_list gj,x1,aH gj⟩
   ·refine Bc ⟨rfl,?_⟩
    walk_at "x2"
    exact hR _ Ext.refl
   ·walk_at "x2"
    exact q _ _ (ex.trans Ext.more) ex.len Aq
  | out a gg qq =>
   dsimp only [spD]
   walk_at "x2"
   refine Gd (k+2) h (by rw [wo.lp];exact hh) ?_;unfold Pt.d
   walk_at "x2"
   refine aL so.1.2 ?_
   walk_at "x2"
   refine vQ k _ (Nat.lt_of_lt_of_le (Pt.se_ok qo) (Nat.pow_le_pow_right (by decide) (by omega))) fun j h1 x1 lj gj=>?_
   exact q _ _ x1 lj gj
  | take bx ls =>
   refine Ao (Cv (Bx (Bj (Bj (Ax (by with_unfolding_all rfl) (Ai ?_))))));dsimp only [spD]
   walk_at "x2"
   exact pI k h bx ls so.1 so.2.1 po wo hh fun j h1 x1 lj gj=>q _ _ x1 lj gj
  | send a kd b c =>
   refine Ao (Cv (Bx (Bj (Bj (Ax (by with_unfolding_all rfl) (Ai ?_))))));dsimp only [spD]
   walk_at "x2"
   refine V9 (k+1) h a kd b c g wo hh so.1.1 ⟨_,rfl,?_⟩;have q:∀ j h',Ext [] mh h'->mh.length<=j->h'[j]?=some (.lst (if Jq p w h a=true then [.int 0] else []))->P (.ref j) h':=q;cases em:Jq p w h a with
   | true =>
    rw [em] at q
    walk_at "x2"
    exact q _ _ Ext.more (Nat.le_refl _) Aq
   | false =>
    rw [em] at q
    walk_at "x2"
    exact q _ _ Ext.more (Nat.le_refl _) Aq
  | _=>exact absurd ⟨⟨_,_,rfl,by decide +kernel,by decide +kernel,by decide +kernel,by decide +kernel,by decide +kernel,by decide +kernel⟩,rfl⟩ hn
end
theorem Ht {P:D->MH->Prop}{d:D}{l:DL.Loc}{h:MH}(q:P d h):T9 P (.rt d) l h:=q
noncomputable def Pt.setN (q:Pt) (a:Nat) (n:Int):Pt:=match a with
 | 0=>{ q with n0:=n }
 | 1=>{ q with n1:=n }
 | _=>{ q with n2:=n }
noncomputable def Pt.setM (q:Pt) (a:Nat) (n:Int):Pt:=match a with
 | 0=>{ q with m0:=n }
 | 1=>{ q with m1:=n }
 | _=>{ q with m2:=n }
noncomputable def Pt.setS (q:Pt) (a:Nat) (n:Nat):Pt:=match a with
 | 0=>{ q with s0:=n }
 | _=>{ q with s1:=n }
noncomputable def Pt.to (q:Pt) (pl:Int):Pt:={ q with pl:=pl }
noncomputable def Pt.ring (q:Pt) (b:Bool):Pt:={ q with bell:=b }
theorem Je (k:Nat) (q:Pt) {a:Nat}(ha:a < 3) (n:Int) (mh:MH):Ac (Gk (k+2)) fuel f17 [q.d,Ae a,.int n] mh=some ((q.setN a n).d,mh):=by
 match a,ha with
 | 0,_=>kernel_rfl
 | 1,_=>kernel_rfl
 | 2,_=>kernel_rfl
theorem Jf (k:Nat) (q:Pt) {a:Nat}(ha:a < 3) (n:Int) (mh:MH):Ac (Gk (k+2)) fuel f18 [q.d,Ae a,.int n] mh=some ((q.setM a n).d,mh):=by
 match a,ha with
 | 0,_=>kernel_rfl
 | 1,_=>kernel_rfl
 | 2,_=>kernel_rfl
theorem K9 (k:Nat) (q:Pt) {a:Nat}(ha:a < 2) (n:Nat) (mh:MH):Ac (Gk (k+2)) fuel f19 [q.d,Ae a,.int n] mh=some ((q.setS a n).d,mh):=by
 match a,ha with
 | 0,_=>kernel_rfl
 | 1,_=>kernel_rfl
theorem aO (k:Nat) (q:Pt) (b:Bool) (mh:MH):Ac (Gk (k+2)) fuel f20 [q.d,.bl b] mh=some ((q.ring b).d,mh):=by kernel_rfl
theorem Qg (k:Nat) (q:Pt) (pl:Int) (mh:MH):Ac (Gk (k+2)) fuel f21 [q.d,.int pl] mh=some ((q.to pl).d,mh):=by kernel_rfl
theorem Ce (k:Nat) (q:Pt) (mh:MH):Ac (Gk (k+3)) fuel f22 [q.d] mh=some ((q.to (q.pl+1)).d,mh):=by kernel_rfl
section
variable {H L:Nat}{q:Pt}
theorem Jg (h:q.ok H L) (a:Nat) (n:Int):(q.setN a n).ok H L:=by
 unfold Pt.setN;split <;> exact ⟨h.pl1,h.pl2,h.a0,h.a1,h.a2,h.b0,h.b1⟩
theorem Jh (h:q.ok H L) (a:Nat) {n:Int}(hn:-1<=n/\n<=(H:Int) - 1):(q.setM a n).ok H L:=by
 unfold Pt.setM;split
 ·exact ⟨h.pl1,h.pl2,hn,h.a1,h.a2,h.b0,h.b1⟩
 ·exact ⟨h.pl1,h.pl2,h.a0,hn,h.a2,h.b0,h.b1⟩
 ·exact ⟨h.pl1,h.pl2,h.a0,h.a1,hn,h.b0,h.b1⟩
theorem La (h:q.ok H L) (a:Nat) {n:Nat}(hn:n < 2 ^ H):(q.setS a n).ok H L:=by
 unfold Pt.setS;split
 ·exact ⟨h.pl1,h.pl2,h.a0,h.a1,h.a2,hn,h.b1⟩
 ·exact ⟨h.pl1,h.pl2,h.a0,h.a1,h.a2,h.b0,hn⟩
theorem Lb (h:q.ok H L) {pl:Int}(h1:-1<=pl) (h2:pl<=L):(q.to pl).ok H L:=⟨h1,h2,h.a0,h.a1,h.a2,h.b0,h.b1⟩
theorem aP (h:q.ok H L) (b:Bool):(q.ring b).ok H L:=⟨h.pl1,h.pl2,h.a0,h.a1,h.a2,h.b0,h.b1⟩
theorem Ea (a:Nat) (n:Int):(q.setN a n).pl=q.pl:=by unfold Pt.setN;split <;> rfl
theorem Em (a:Nat) (n:Int):(q.setM a n).pl=q.pl:=by unfold Pt.setM;split <;> rfl
theorem En (a:Nat) (n:Nat):(q.setS a n).pl=q.pl:=by unfold Pt.setS;split <;> rfl
end
theorem Wf {f:D->D->MH->Option (D×MH)}{x y d:D}{mh:MH}{P:D->MH->Prop}(e:∀ mh,f x y mh=some (d,mh)) (h:P d mh):wV (f x y mh) P:=⟨_,_,e mh,h⟩
theorem Qh {f:D->D->MH->Option (D×MH)}{x y:D}{b:Bool}{mh:MH}{P:D->MH->Prop}(e:∀ mh,f x y mh=some (.bl b,mh)) (h:P (.bl b) mh):wV (f x y mh) P:=⟨_,_,e mh,h⟩
theorem Zi {x y:D}{mh:MH}{P:D->MH->Prop}(e:∀ mh,inD false x y mh=some (.bl false,mh)) (h:P (.bl false) mh):wV (inD false x y mh) P:=⟨_,_,e mh,h⟩
local macro_rules | `(tactic| walk_at "x0") => `(tactic| repeat (first | walk_at "s" | with_reducible refine Ht ?_ | with_reducible refine Fd (by simp) ?_ | with_reducible refine Dm ?_ | with_reducible refine Ga ?_ | with_reducible refine Dn ?_ | with_reducible refine G4 ?_ | with_reducible refine Ik ?_ | with_reducible refine vK (by kernel_rfl) (by kernel_rfl) (by decide +kernel) ?_ | with_reducible refine vL (by kernel_rfl) (by kernel_rfl) (by decide +kernel) ?_))
section
variable {mh:MH}{P:D->MH->Prop}{p:Pg}{w:Wd}{S:List (List Sp)}{L:Nat}{q:Pt}
theorem pJ (k s:Nat) (hs:s < 2 ^ 20) (h:∀ h',Ext [] mh h'->P (.int ((mem s).length:Nat)) h'):wV (Ac (Gk (k+3)) fuel f5 [.int s] mh) P:=by
 refine Aj (Afk (k+2)) xJ.1 xJ.2 rfl ?_;show wS (b5 (k+2)) [some (.int s)] mh _;unfold b5
 walk_at "x0"
 refine Nf k s hs mh fun h1 x1=>?_
 walk_at "x0"
 exact Bp (ds:=(mem s).map Ae) (by intro z z';cases z') rfl (by rw [List.length_map];exact h _ x1)
theorem vR {s m:Nat}(hm:s.testBit m=true):((s:Nat):Int) - ((setOf [m]:Nat):Int)=((s - 2 ^ m:Nat):Int):=by
 have e:setOf [m]=2 ^ m:=by show (0 ||| 2 ^ m)=2 ^ m;exact Nat.zero_or _
 have:=Nat.ge_two_pow_of_testBit hm;rw [e];omega
theorem Afo {s H:Nat}(h6:H<=6) (h:s < 2 ^ H):s < 2 ^ 20:=Nat.lt_of_lt_of_le h (Nat.pow_le_pow_right (by decide) (by omega))
noncomputable def Pt.on (q:Pt):Pt:=q.to (q.pl+1)
noncomputable def cInt:D->Int
 | .int i=>i
 | .tup [.int i]=>i
 | _=>0
noncomputable def Pt.jp (q:Pt) (b:Bool) (t:Nat):Pt:=if b=true then q.to (t:Nat) else q.on
noncomputable def quF (p:Pg) (h:Nat) (q:Pt) (c:D):Sp->Pt
 | .put a n=>(q.setN a n).on
 | .copy a b=>(q.setN a (q.nu b)).on
 | .raise a n=>(q.setN a (q.nu a+n)).on
 | .sum a b=>(q.setN a (q.nu a+q.nu b)).on
 | .choose a _=>(q.setN a (cInt c)).on
 | .me a=>(q.setM a (h:Nat)).on
 | .only a r=>(q.setM a (((hands p r).headD 0:Nat))).on
 | .pick a _=>(q.setM a (cInt c)).on
 | .all g r=>(q.setS g (setOf (oth p r h))).on
 | .empty g=>(q.setS g 0).on
 | .join g a=>(q.setS g (if q.nm a=-1 then q.se g else q.se g ||| setOf [(q.nm a).toNat])).on
 | .out a g t=>if q.se g=0 then q.to (t:Nat) else ((q.setS g (q.se g - 2 ^ (cInt c).toNat)).setM a (cInt c)).on
 | .bell=>(q.ring true).on
 | .less a n t=>q.jp (decide (q.nu a < n)) t
 | .before a b t=>q.jp (decide (q.nu a < q.nu b)) t
 | .go t=>q.to (t:Nat)
 | .alike a b t=>q.jp (q.nm a==q.nm b) t
 | .many g n t=>q.jp (decide ((n:Int)<=((mem (q.se g)).length:Nat))) t
 | _=>q
theorem dD (k h:Nat) (g:Prg p S) (wo:w.ok p) (hh:h < p.plays.length) (s:Sp) (so:s.ok p L) (qo:(w.pt h).ok p.H L) (p1:0<=(w.pt h).pl) (p2:(w.pt h).pl < L) (c:D) (hc:c∈chs p w h s) (ht:∀ bx ls,s≠.take bx ls) (hs:∀ a kd b c,s≠.send a kd b c)
  (f:∀ (q':Pt) h',q'.ok p.H L->0<=q'.pl->q'=quF p h (w.pt h) c s->Ext [] mh h'->P q'.d h'):wV (Ac (Gk (k+5)) fuel f62 [p.d,.int h,(w.pt h).d,spD s,c] mh) P:=by
 have po:=g.po;have hH:p.H<=6:=po.h6;refine Aj (Acf (k+4)) nY.1 nY.2 rfl ?_;show wS (b62 (k+4)) [some p.d,some (.int h),some (w.pt h).d,some (spD s),some c,none] mh _;unfold b62;generalize hq:w.pt h=q at qo p1 p2 f;have mv:∀ (y:Pt),y.ok p.H L->y.pl=q.pl->(y.to (y.pl+1)).ok p.H L:=fun y yo ye=>Lb yo (by omega) (by omega)
 have mp:∀ (y:Pt),y.pl=q.pl->0<=(y.to (y.pl+1)).pl:=fun y e=>by show 0<=y.pl+1;omega
 have ix3:∀ {P:D->MH->Prop} {m:MH},P (.tup [.int q.n0,.int q.n1,.int q.n2]) m->wV (ixD q.d (.int 1) m) P:=fun h=>Ga h
 have ixM:∀ {P:D->MH->Prop} {m:MH},P (.tup [.int q.m0,.int q.m1,.int q.m2]) m->wV (ixD q.d (.int 2) m) P:=fun h=>Dn h
 have ixS:∀ {P:D->MH->Prop} {m:MH},P (.tup [.int q.s0,.int q.s1]) m->wV (ixD q.d (.int 3) m) P:=fun h=>G4 h
 cases s with
 | put a n =>
  dsimp only [spD]
  walk_at "x0"
  refine Qh (f:=inD false) (b:=true) (fun _=>by kernel_rfl) ?_
  walk_at "x0"
  refine ix3 ?_
  walk_at "x0"
  refine Aj (Qa (k+3)) Gz.1 Gz.2 rfl ?_;show wS (b63 (k+3)) [some (.tup [.int q.n0,.int q.n1,.int q.n2]),some _,some _,none] mh _;unfold b63
  walk_at "x0"
  walk_at "x0"
  refine Av (Je (k+2) q so _ mh) ?_
  walk_at "x0"
  refine Av (Ce (k+1) _ _) ?_;exact f _ _ (mv _ (Jg qo _ _) (Ea _ _)) (mp _ (Ea _ _)) rfl Ext.refl
 | copy a b =>
  dsimp only [spD]
  walk_at "x0"
  refine Qh (f:=inD false) (b:=true) (fun _=>by kernel_rfl) ?_
  walk_at "x0"
  refine ix3 ?_
  walk_at "x0"
  refine Aj (Qa (k+3)) Gz.1 Gz.2 rfl ?_;show wS (b63 (k+3)) [some (.tup [.int q.n0,.int q.n1,.int q.n2]),some _,some _,none] mh _;unfold b63
  walk_at "x0"
  refine Ng so.2 ?_
  walk_at "x0"
  refine Av (Je (k+2) q so.1 _ mh) ?_
  walk_at "x0"
  refine Av (Ce (k+1) _ _) ?_;exact f _ _ (mv _ (Jg qo _ _) (Ea _ _)) (mp _ (Ea _ _)) rfl Ext.refl
 | raise a n =>
  dsimp only [spD]
  walk_at "x0"
  refine Qh (f:=inD false) (b:=true) (fun _=>by kernel_rfl) ?_
  walk_at "x0"
  refine ix3 ?_
  walk_at "x0"
  refine Aj (Qa (k+3)) Gz.1 Gz.2 rfl ?_;show wS (b63 (k+3)) [some (.tup [.int q.n0,.int q.n1,.int q.n2]),some _,some _,none] mh _;unfold b63
  walk_at "x0"
  refine Ng so ?_
  walk_at "x0"
  refine Av (Je (k+2) q so _ mh) ?_
  walk_at "x0"
  refine Av (Ce (k+1) _ _) ?_;exact f _ _ (mv _ (Jg qo _ _) (Ea _ _)) (mp _ (Ea _ _)) rfl Ext.refl
 | sum a b =>
  dsimp only [spD]
  walk_at "x0"
  refine Qh (f:=inD false) (b:=true) (fun _=>by kernel_rfl) ?_
  walk_at "x0"
  refine ix3 ?_
  walk_at "x0"
  refine Aj (Qa (k+3)) Gz.1 Gz.2 rfl ?_;show wS (b63 (k+3)) [some (.tup [.int q.n0,.int q.n1,.int q.n2]),some _,some _,none] mh _;unfold b63
  walk_at "x0"
  refine Ng so.1 ?_
  walk_at "x0"
  refine Ng so.2 ?_
  walk_at "x0"
  refine Av (Je (k+2) q so.1 _ mh) ?_
  walk_at "x0"
  refine Av (Ce (k+1) _ _) ?_;exact f _ _ (mv _ (Jg qo _ _) (Ea _ _)) (mp _ (Ea _ _)) rfl Ext.refl
 | choose a n =>
  obtain ⟨i,_,rfl⟩:=List.mem_map.mp (show c∈(List.range n).map Ae from hc);dsimp only [spD]
  walk_at "x0"
  refine Qh (f:=inD false) (b:=true) (fun _=>by kernel_rfl) ?_
  walk_at "x0"
  refine ix3 ?_
  walk_at "x0"
  refine Aj (Qa (k+3)) Gz.1 Gz.2 rfl ?_;show wS (b63 (k+3)) [some (.tup [.int q.n0,.int q.n1,.int q.n2]),some _,some _,none] mh _;unfold b63
  walk_at "x0"
  walk_at "x0"
  refine Av (Je (k+2) q so.1 _ mh) ?_
  walk_at "x0"
  refine Av (Ce (k+1) _ _) ?_;exact f _ _ (mv _ (Jg qo _ _) (Ea _ _)) (mp _ (Ea _ _)) rfl Ext.refl
 | me a =>
  dsimp only [spD]
  walk_at "x0"
  refine Zi (fun _=>by kernel_rfl) ?_
  walk_at "x0"
  refine Qh (f:=inD false) (b:=true) (fun _=>by kernel_rfl) ?_
  walk_at "x0"
  refine Aj (Ye (k+3)) Lz.1 Lz.2 rfl ?_;show wS (b64 (k+3)) [some p.d,some (.int h),some _,some _,none] mh _;unfold b64
  walk_at "x0"
  refine Av (Jf (k+2) q so (h:Int) mh) ?_
  walk_at "x0"
  refine Av (Ce (k+1) _ _) ?_;have hh:h < p.H:=hh;exact f _ _ (mv _ (Jh qo _ ⟨by omega,by omega⟩) (Em _ _)) (mp _ (Em _ _)) rfl Ext.refl
 | only a r =>
  dsimp only [spD]
  walk_at "x0"
  refine Zi (fun _=>by kernel_rfl) ?_
  walk_at "x0"
  refine Qh (f:=inD false) (b:=true) (fun _=>by kernel_rfl) ?_
  walk_at "x0"
  refine Aj (Ye (k+3)) Lz.1 Lz.2 rfl ?_;show wS (b64 (k+3)) [some p.d,some (.int h),some _,some _,none] mh _;unfold b64
  walk_at "x0"
  refine Rv (k+2) r p po mh fun m1 x1=>?_
  cases eh:hands p r with
  | nil=>exact absurd eh so.2
  | cons y ys =>
   have hy:y < p.H:=V8 (r:=r) (by rw [eh];exact List.mem_cons_self);unfold cZ;rw [List.map_cons]
   walk_at "x0"
   refine Av (Jf (k+2) q so.1 (y:Int) m1) ?_
   walk_at "x0"
   refine Av (Ce (k+1) _ _) ?_;exact f _ _ (mv _ (Jh qo _ ⟨by omega,by omega⟩) (Em _ _)) (mp _ (Em _ _)) (by dsimp only [quF];rw [eh];rfl) x1
 | pick a r =>
  obtain ⟨y,hy,rfl⟩:=List.mem_map.mp (show c∈(oth p r h).map Qy from hc);have hy:y < p.H:=Yk hy;dsimp only [spD]
  walk_at "x0"
  refine Zi (fun _=>by kernel_rfl) ?_
  walk_at "x0"
  refine Qh (f:=inD false) (b:=true) (fun _=>by kernel_rfl) ?_
  walk_at "x0"
  refine Aj (Ye (k+3)) Lz.1 Lz.2 rfl ?_;show wS (b64 (k+3)) [some p.d,some (.int h),some _,some _,none] mh _;unfold b64
  walk_at "x0"
  unfold Qy
  walk_at "x0"
  refine Av (Jf (k+2) q so (y:Int) mh) ?_
  walk_at "x0"
  refine Av (Ce (k+1) _ _) ?_;exact f _ _ (mv _ (Jh qo _ ⟨by omega,by omega⟩) (Em _ _)) (mp _ (Em _ _)) rfl Ext.refl
 | all gg r =>
  dsimp only [spD]
  walk_at "x0"
  refine Zi (fun _=>by kernel_rfl) ?_
  walk_at "x0"
  refine Zi (fun _=>by kernel_rfl) ?_
  walk_at "x0"
  refine Qh (f:=inD false) (b:=true) (fun _=>by kernel_rfl) ?_
  walk_at "x0"
  refine Aj (Yg (k+3)) Ma.1 Ma.2 rfl ?_;show wS (b65 (k+3)) [some p.d,some (.int h),some q.d,some _,none,none,none] mh _;unfold b65
  walk_at "x0"
  refine aK (k+1) r h p po mh fun j m1 x1 gj=>?_
  walk_at "x0"
  refine Qd (k+2) j (oth p r h) m1 gj (fun x hx=>by have:x < p.H:=Yk hx;omega) ?_
  walk_at "x0"
  refine Av (K9 (k+2) q so _ m1) ?_
  walk_at "x0"
  refine Av (Ce (k+1) _ _) ?_;exact f _ _ (mv _ (La qo _ (V7 fun x hx=>Yk hx)) (En _ _)) (mp _ (En _ _)) rfl x1
 | empty gg =>
  dsimp only [spD]
  walk_at "x0"
  refine Zi (fun _=>by kernel_rfl) ?_
  walk_at "x0"
  refine Zi (fun _=>by kernel_rfl) ?_
  walk_at "x0"
  refine Qh (f:=inD false) (b:=true) (fun _=>by kernel_rfl) ?_
  walk_at "x0"
  refine Aj (Yg (k+3)) Ma.1 Ma.2 rfl ?_;show wS (b65 (k+3)) [some p.d,some (.int h),some q.d,some _,none,none,none] mh _;unfold b65
  walk_at "x0"
  refine Av (K9 (k+2) q so 0 mh) ?_
  walk_at "x0"
  refine Av (Ce (k+1) _ _) ?_;exact f _ _ (mv _ (La qo _ (Nat.two_pow_pos _)) (En _ _)) (mp _ (En _ _)) rfl Ext.refl
 | join gg a =>
  dsimp only [spD]
  walk_at "x0"
  refine Zi (fun _=>by kernel_rfl) ?_
  walk_at "x0"
  refine Zi (fun _=>by kernel_rfl) ?_
  walk_at "x0"
  refine Qh (f:=inD false) (b:=true) (fun _=>by kernel_rfl) ?_
  walk_at "x0"
  refine Aj (Yg (k+3)) Ma.1 Ma.2 rfl ?_;show wS (b65 (k+3)) [some p.d,some (.int h),some q.d,some _,none,none,none] mh _;unfold b65
  walk_at "x0"
  unfold Pt.d
  walk_at "x0"
  refine aL so.1 ?_
  walk_at "x0"
  refine Qe so.2 ?_;have nk:=Pt.nm_ok (a:=a) qo;have sk:=Pt.se_ok (g:=gg) qo;generalize hto:q.nm a=to at nk;refine Bc (Ak (Ao (Gw (mF (Bx (Bj (Ax (by with_unfolding_all rfl) (Ai (Gy ⟨_,rfl,fun e=>?_,fun e=>?_⟩)))))))))
  ·walk_at "x0"
   refine Av (K9 (k+2) q so.1 (q.se gg) mh) ?_
   walk_at "x0"
   refine Av (Ce (k+1) _ _) ?_;exact f _ _ (mv _ (La qo _ sk) (En _ _)) (mp _ (En _ _)) (by dsimp only [quF];rw [hto,if_pos (eq_of_beq e)];rfl) Ext.refl
  ·have e:=beq_eq_false_iff_ne.mp e;obtain ⟨e1,e2⟩:=Mi nk e;rw [e1]
   walk_at "x0"
   refine Qd (k+2) mh.length [to.toNat] _ (by rw [Aq];rfl) (fun x hx=>by rw [List.mem_singleton.mp hx];omega) ?_;refine Yi ?_
   walk_at "x0"
   refine Av (K9 (k+2) q so.1 _ _) ?_
   walk_at "x0"
   refine Av (Ce (k+1) _ _) ?_;exact f _ _ (mv _ (La qo _ (Nat.or_lt_two_pow sk (V7 fun x hx=>by rw [List.mem_singleton.mp hx];exact e2))) (En _ _)) (mp _ (En _ _)) (by dsimp only [quF];rw [hto,if_neg e];rfl) Ext.more
 | out a gg qq =>
  dsimp only [spD]
  walk_at "x0"
  refine Zi (fun _=>by kernel_rfl) ?_
  walk_at "x0"
  refine Zi (fun _=>by kernel_rfl) ?_
  walk_at "x0"
  refine Zi (fun _=>by kernel_rfl) ?_
  walk_at "x0"
  refine Aj (Acg (k+3)) nZ.1 nZ.2 rfl ?_
  show wS (b67 (k+3)) [some q.d,some (.tup [.str "out",Ae a,Ae gg,Ae qq]),some c,none,none] mh _;unfold b67;have hc:c∈Mj (q.se gg):=by rw [← hq];exact hc
  have sk:=Pt.se_ok (g:=gg) qo;obtain ⟨⟨ha,hg⟩,hqq⟩:=so;refine Ao (Dc (Bj (Bj (Ax (by with_unfolding_all rfl) (Ai (G4 ?_))))))
  walk_at "x0"
  refine aL hg ?_;unfold Mj at hc;refine Bc (Ak (Ao (Cv (Bx (Bj (Ax (by with_unfolding_all rfl) (Ai (Gy ⟨_,rfl,fun e=>?_,fun e=>?_⟩))))))))
  ·walk_at "x0"
   refine Av (Qg (k+1) q _ _) ?_
   walk_at "x0"
   exact f _ _ (Lb qo (by omega) (by omega)) (by show (0:Int)<=(qq:Nat);omega) (by dsimp only [quF];rw [if_pos (by have e:((q.se gg:Nat):Int)=0:=eq_of_beq e;omega)]) Ext.refl
  ·have e:¬ ((q.se gg:Nat):Int)=0:=beq_eq_false_iff_ne.mp e;rw [if_neg (by omega)] at hc;obtain ⟨m,hm,rfl⟩:=List.mem_map.mp hc;have hb:(q.se gg).testBit m=true:=(X8.mp hm).2;have hmH:m < p.H:=by
    rcases Nat.lt_or_ge m p.H with z|z
    ·exact z
    ·have:=Nat.ge_two_pow_of_testBit hb;have:=Nat.pow_le_pow_right (n:=2) (by decide) z;omega
   refine Be (Ak (Ao (Dc (Bu (Am (Ax (by with_unfolding_all rfl) (Am ?_))))))) 
   walk_at "x0"
   refine V6 (k+2) [m] _ (fun x hx=>by rw [List.mem_singleton.mp hx];omega) ?_;refine mQ ?_;rw [vR hb]
   walk_at "x0"
   refine Av (K9 (k+1) q hg _ _) ?_
   walk_at "x0"
   unfold Qy
   walk_at "x0"
   refine Av (Jf (k+1) _ ha (m:Int) _) ?_
   walk_at "x0"
   refine Av (Ce k _ _) ?_
   walk_at "x0"
   refine f _ _ (mv _ (Jh (La qo _ (Nat.lt_of_le_of_lt (Nat.sub_le _ _) sk)) _ ⟨by omega,by omega⟩) (by rw [Em,En])) (mp _ (by rw [Em,En])) (by dsimp only [quF];rw [if_neg (by omega)];rfl) Ext.refl
 | bell =>
  dsimp only [spD]
  walk_at "x0"
  refine Zi (fun _=>by kernel_rfl) ?_
  walk_at "x0"
  refine Zi (fun _=>by kernel_rfl) ?_
  walk_at "x0"
  refine Zi (fun _=>by kernel_rfl) ?_
  walk_at "x0"
  refine Av (aO (k+2) q true mh) ?_
  walk_at "x0"
  refine Av (Ce (k+1) _ _) ?_;exact f _ _ (mv _ (aP qo _) rfl) (mp _ rfl) rfl Ext.refl
 | less a n qq =>
  dsimp only [spD]
  walk_at "x0"
  refine Zi (fun _=>by kernel_rfl) ?_
  walk_at "x0"
  refine Zi (fun _=>by kernel_rfl) ?_
  walk_at "x0"
  refine Zi (fun _=>by kernel_rfl) ?_
  walk_at "x0"
  refine Aj (Qc (k+3)) G3.1 G3.2 rfl ?_;show wS (b66 (k+3)) [some q.d,some _,none] mh _;unfold b66
  walk_at "x0"
  refine ix3 ?_
  walk_at "x0"
  refine Ng so.1 ?_
  walk_at "x0"
  have sq:=so.2;refine Ca (fun e=>?_) fun e=>?_
  ·walk_at "x0"
   refine Wf (f:=ixD) (d:=Ae qq) (fun _=>by kernel_rfl) ?_
   walk_at "x0"
   refine Av (Qg (k+2) q _ _) ?_;exact f _ _ (Lb qo (by omega) (by omega)) (by show (0:Int)<=(qq:Nat);omega) (by show _=Pt.jp _ _ _;unfold Pt.jp;exact (if_pos e).symm) Ext.refl
  ·walk_at "x0"
   refine Av (Ce (k+1) _ _) ?_;exact f _ _ (mv _ qo rfl) (mp _ rfl) (by show _=Pt.jp _ _ _;unfold Pt.jp;exact (if_neg (by rw [e];decide)).symm) Ext.refl
 | before a b qq =>
  dsimp only [spD]
  walk_at "x0"
  refine Zi (fun _=>by kernel_rfl) ?_
  walk_at "x0"
  refine Zi (fun _=>by kernel_rfl) ?_
  walk_at "x0"
  refine Zi (fun _=>by kernel_rfl) ?_
  walk_at "x0"
  refine Aj (Qc (k+3)) G3.1 G3.2 rfl ?_;show wS (b66 (k+3)) [some q.d,some _,none] mh _;unfold b66
  walk_at "x0"
  refine ix3 ?_
  walk_at "x0"
  refine Ng so.1.1 ?_
  walk_at "x0"
  refine ix3 ?_
  walk_at "x0"
  refine Ng so.1.2 ?_
  walk_at "x0"
  have sq:=so.2;refine Ca (fun e=>?_) fun e=>?_
  ·walk_at "x0"
   refine Wf (f:=ixD) (d:=Ae qq) (fun _=>by kernel_rfl) ?_
   walk_at "x0"
   refine Av (Qg (k+2) q _ _) ?_;exact f _ _ (Lb qo (by omega) (by omega)) (by show (0:Int)<=(qq:Nat);omega) (by show _=Pt.jp _ _ _;unfold Pt.jp;exact (if_pos e).symm) Ext.refl
  ·walk_at "x0"
   refine Av (Ce (k+1) _ _) ?_;exact f _ _ (mv _ qo rfl) (mp _ rfl) (by show _=Pt.jp _ _ _;unfold Pt.jp;exact (if_neg (by rw [e];decide)).symm) Ext.refl
 | go qq =>
  have so:qq<=L:=so;dsimp only [spD]
  walk_at "x0"
  refine Zi (fun _=>by kernel_rfl) ?_
  walk_at "x0"
  refine Zi (fun _=>by kernel_rfl) ?_
  walk_at "x0"
  refine Zi (fun _=>by kernel_rfl) ?_
  walk_at "x0"
  refine Aj (Qc (k+3)) G3.1 G3.2 rfl ?_;show wS (b66 (k+3)) [some q.d,some _,none] mh _;unfold b66
  walk_at "x0"
  refine Wf (f:=ixD) (d:=Ae qq) (fun _=>by kernel_rfl) ?_
  walk_at "x0"
  refine Av (Qg (k+2) q _ _) ?_;exact f _ _ (Lb qo (by omega) (by omega)) (by show (0:Int)<=(qq:Nat);omega) rfl Ext.refl
 | alike a b qq =>
  dsimp only [spD]
  walk_at "x0"
  refine Zi (fun _=>by kernel_rfl) ?_
  walk_at "x0"
  refine Zi (fun _=>by kernel_rfl) ?_
  walk_at "x0"
  refine Zi (fun _=>by kernel_rfl) ?_
  walk_at "x0"
  refine Aj (Qc (k+3)) G3.1 G3.2 rfl ?_;show wS (b66 (k+3)) [some q.d,some _,none] mh _;unfold b66
  walk_at "x0"
  refine ixM ?_
  walk_at "x0"
  refine Qe so.1.1 ?_
  walk_at "x0"
  refine ixM ?_
  walk_at "x0"
  refine Qe so.1.2 ?_
  walk_at "x0"
  have sq:=so.2;refine Ca (fun e=>?_) fun e=>?_
  ·walk_at "x0"
   refine Wf (f:=ixD) (d:=Ae qq) (fun _=>by kernel_rfl) ?_
   walk_at "x0"
   refine Av (Qg (k+2) q _ _) ?_;exact f _ _ (Lb qo (by omega) (by omega)) (by show (0:Int)<=(qq:Nat);omega) (by show _=Pt.jp _ _ _;unfold Pt.jp;exact (if_pos e).symm) Ext.refl
  ·walk_at "x0"
   refine Av (Ce (k+1) _ _) ?_;exact f _ _ (mv _ qo rfl) (mp _ rfl) (by show _=Pt.jp _ _ _;unfold Pt.jp;exact (if_neg (by rw [e];decide)).symm) Ext.refl
 | many gg n qq =>
  dsimp only [spD]
  walk_at "x0"
  refine Zi (fun _=>by kernel_rfl) ?_
  walk_at "x0"
  refine Zi (fun _=>by kernel_rfl) ?_
  walk_at "x0"
  refine Zi (fun _=>by kernel_rfl) ?_
  walk_at "x0"
  refine Aj (Qc (k+3)) G3.1 G3.2 rfl ?_;show wS (b66 (k+3)) [some q.d,some _,none] mh _;unfold b66
  walk_at "x0"
  refine ixS ?_
  walk_at "x0"
  refine aL so.1 ?_
  walk_at "x0"
  refine pJ k _ (Afo hH (Pt.se_ok qo)) fun m1 x1=>?_
  walk_at "x0"
  have sq:=so.2;refine Ca (fun e=>?_) fun e=>?_
  ·walk_at "x0"
   refine Wf (f:=ixD) (d:=Ae qq) (fun _=>by kernel_rfl) ?_
   walk_at "x0"
   refine Av (Qg (k+2) q _ _) ?_;exact f _ _ (Lb qo (by omega) (by omega)) (by show (0:Int)<=(qq:Nat);omega) (by show _=Pt.jp _ _ _;unfold Pt.jp;exact (if_pos e).symm) x1
  ·walk_at "x0"
   refine Av (Ce (k+1) _ _) ?_;exact f _ _ (mv _ qo rfl) (mp _ rfl) (by show _=Pt.jp _ _ _;unfold Pt.jp;exact (if_neg (by rw [e];decide)).symm) x1
 | take bx ls=>exact absurd rfl (ht bx ls)
 | send a kd b c'=>exact absurd rfl (hs a kd b c')
end
inductive Ed where
 | no | app (t:Nat) (m:Lt) | pop (s:Nat)
noncomputable def Wd.ed (w:Wd) (h:Nat):Ed->Wd
 | .no=>w
 | .app t m=>w.setC h t (w.cell h t++[m])
 | .pop s=>w.setC s h (w.cell s h).tail
noncomputable def Wd.ap (w:Wd) (h:Nat) (e:Pt×Ed):Wd:=(w.setP h e.1).ed h e.2
noncomputable def vU (b:Bool) (to:Int) (m:Lt):Ed:=if b=true then .no else .app to.toNat m
noncomputable def Nq (q:Pt) (f:Nat->List Lt) (ls:List Ln):D->Pt×Ed
 | .tup [.int x,.int kd]=>match ls.filter (fun l=>((l.kd:Nat):Int)==kd) with
  | ln::_=>if ([x,kd]==[-1,0])=true then ((q.to ((ln.q:Nat):Int)).ring false,.no) else match f x.toNat with
   | l::_=>(((((q.to ((ln.q:Nat):Int)).setN ln.a l.2.1).setM ln.b l.2.2).setM ln.c x),.pop x.toNat)
   | []=>(q,.no)
  | []=>(q,.no)
 | _=>(q,.no)
noncomputable def eff (p:Pg) (w:Wd) (h:Nat) (c:D):Sp->Pt×Ed
 | .send a kd b c'=>((w.pt h).on,vU (Ju w ((w.pt h).nm a)) ((w.pt h).nm a) ((kd:Int),(w.pt h).nu b,(w.pt h).nm c'))
 | .take _ ls=>Nq (w.pt h) (fun s=>w.cell s h) ls c
 | s=>(quF p h (w.pt h) c s,.no)
theorem pK (mh:MH) (xs ys:List Int):eqB mh (.tup (xs.map D.int)) (.tup (ys.map D.int))=some (xs==ys):=by
 have e:∀ zs:List Int,py mh 60 (.tup (zs.map D.int))=some (.tuple (zs.map PyData.int)):=fun zs=>by
  show (match Df (py mh 59) (zs.map D.int) with | some xs=>some (PyData.tuple xs) | none=>none)=_;rw [Ja]
 unfold eqB;rw [e,e];simp only [PyData.eqv,M9]
section
variable {mh:MH}{P:D->MH->Prop}{p:Pg}{w:Wd}{S:List (List Sp)}
theorem Uk (wo:w.ok p) {s t:Nat}(hs:s < p.plays.length) (ht:t < p.plays.length):pD p (w.cell s t):=by
 obtain ⟨v,e1,e2,vo⟩:=Uh wo hs ht;exact vo.2 _ (List.mem_of_getElem? e2)
theorem Ld (wo:w.ok p) {h:Nat}(hh:h < p.plays.length):(w.pt h).ok p.H (p.len (plA p h)):=by
 obtain ⟨r,er,qo⟩:=V5 wo hh;rw [Rx hh] at er;cases er;exact qo
theorem pL (k h a kd b c:Nat) (g:Prg p S) (wo:w.ok p) (hh:h < p.plays.length) (so:Sp.ok p (p.len (plA p h)) (.send a kd b c)) (p1:0<=(w.pt h).pl) (p2:(w.pt h).pl < p.len (plA p h)) (hm:Jq p w h a=true)
  (f:∀ w':Wd,w'.ok p->0<=(w.pt h).on.pl->w'=w.ap h ((w.pt h).on,vU (Ju w ((w.pt h).nm a)) ((w.pt h).nm a) ((kd:Int),(w.pt h).nu b,(w.pt h).nm c))->P w'.d mh):wV (Ac (Gk (k+4)) fuel f68 [w.d,.int h,spD (.send a kd b c)] mh) P:=by
 obtain ⟨⟨ha,hb,hc⟩,hk1,hk2⟩:=so;have po:=g.po;have rm:=po.rm;have qo:=Ld wo hh;have nk:=Pt.nm_ok (a:=a) qo;have nc:=Pt.nm_ok (a:=c) qo;refine Aj (Ach (k+3)) oA.1 oA.2 rfl ?_;show wS (b68 (k+3)) [some w.d,some (.int h),some (spD (.send a kd b c)),none,none,none,none] mh _;unfold b68
 walk_at "x0"
 refine Gd (k+2) h (by rw [wo.lp];exact hh) ?_
 walk_at "x0"
 refine Av (Ce k _ _) ?_
 walk_at "x0"
 refine G8 (k+1) h po wo hh _ ?_;have qo1:=Lb qo (pl:=(w.pt h).pl+1) (by omega) (by omega);have w1o:(w.setP h ((w.pt h).to ((w.pt h).pl+1))).ok p:=Oa wo fun r er=>by
  rw [Rx hh] at er;cases er;exact qo1
 have pl1:0<=(w.pt h).on.pl:=by show 0<=(w.pt h).pl+1;omega
 unfold Jq Ju at hm;unfold Ju at f;refine Bc (Ak (Ao (Dc ?_)));refine Bj (Bj (Ax (d:=(w.pt h).d) (by with_unfolding_all rfl) (Ai (Dn ?_))));refine Bj (Ax (by with_unfolding_all rfl) (Ai (Ga ?_)));refine Qe ha ?_;generalize (w.pt h).nm a=to at nk hm f;refine Bc (Ak (Ao (Cv (Kc (Bx (Bj (Ax (by with_unfolding_all rfl) (Ai (Gy ⟨_,rfl,fun e=>?_,fun e=>?_⟩)))))))))
 ·walk_at "x0"
  exact f _ w1o pl1 (by rw [e];rfl)
 ·have hn:¬ to=-1:=beq_eq_false_iff_ne.mp e;obtain ⟨e1,e2⟩:=Mi nk hn;rw [e] at hm;refine Dv (Bu (Am (Bu (Am (Ax (by with_unfolding_all rfl) (Am (Ax (d:=.int to) (by with_unfolding_all rfl) (Ai ?_)))))))) ;rw [e1];refine Gd (k+2) to.toNat (by rw [wo.lp];exact e2) ?_
  walk_at "x0"
  refine Kf (k+2) _ _ ⟨_,rfl,Ca (fun e3=>?_) fun e3=>?_⟩
  ·walk_at "x0"
   exact f _ w1o pl1 (by rw [e3,Bool.or_true];rfl)
  ·rw [e3] at hm;have hm:(w.cell h to.toNat).length < p.room:=by simpa using hm
   refine Be (Ak (Ao (Dc (mC (Am ?_)))));dsimp only [spD]
   walk_at "x0"
   refine Ga (b:=.tup [.int (w.pt h).n0,.int (w.pt h).n1,.int (w.pt h).n2]) ?_
   walk_at "x0"
   refine Ng hb ?_
   walk_at "x0"
   refine Dn (c:=.tup [.int (w.pt h).m0,.int (w.pt h).m1,.int (w.pt h).m2]) ?_
   walk_at "x0"
   refine Qe hc ?_
   walk_at "x0"
   refine Ff (k+2) h to.toNat wo hh e2 ?_
   walk_at "x0"
   have lo:=Uk wo hh e2;have ll:=lo.1;unfold lsD;refine Jb (by rw [List.length_map,List.length_singleton];omega) ?_;have el:(w.cell h to.toNat).map ltD++[D.tup [Ae kd,.int ((w.pt h).nu b),.int ((w.pt h).nm c)]]=(w.cell h to.toNat++[((kd:Int),(w.pt h).nu b,(w.pt h).nm c)]).map ltD:=by rw [List.map_append];rfl
   rw [el]
   walk_at "x0"
   refine Mg (k+1) h to.toNat po w1o hh e2 _ ?_
   walk_at "x0"
   refine f _ (Ui w1o ⟨by rw [List.length_append,List.length_singleton];omega,fun z hz=>?_⟩) pl1 (by rw [e,e3];rfl);rcases List.mem_append.mp hz with hz|hz
   ·exact lo.2 z hz
   ·rw [List.mem_singleton.mp hz];exact ⟨⟨by show (1:Int)<=(kd:Int);omega,by show (kd:Int)<=12;omega⟩,nc⟩
theorem pM (k s t:Nat) (po:p.ok) (wo:w.ok p) (hs:s < p.plays.length) (ht:t < p.plays.length) (hx:¬ w.x=0) (f:∀ w':Wd,w'.ok p->P w'.d mh):wV (Ac (Gk (k+3)) fuel f80 [w.d,.int s,.int t] mh) P:=by
 have lo:=Uk wo hs ht;refine Aj (Acp (k+2)) oN.1 oN.2 rfl ?_;show wS (b80 (k+2)) [some w.d,some (.int s),some (.int t),none,none] mh _;unfold b80;refine Ao (Dc (Bj (Ax (by with_unfolding_all rfl) (Ai (Dn (c:=.tup [.int w.x,.int w.y]) ?_)))))
 walk_at "x0"
 refine Ff (k+1) s t wo hs ht ?_
 walk_at "x0"
 have sl:∀ {P:D->MH->Prop},P (lsD (w.cell s t).tail) mh->wV (slD (lsD (w.cell s t)) (some 1) none mh) P:=fun {P} h=>by
  cases e:w.cell s t with
  | nil =>
   rw [e] at h;exact ⟨_,_,rfl,h⟩
  | cons l r =>
   rw [e] at h;refine Ug (i:=1) (ds:=(l::r).map ltD) (by simp) ?_;exact h
 refine sl ?_
 walk_at "x0"
 refine Mg k s t po wo hs ht _ ?_;have w1o:(w.setC s t (w.cell s t).tail).ok p:=Ui wo ⟨by rw [List.length_tail];have:=lo.1;omega,fun z hz=>lo.2 z (List.mem_of_mem_tail hz)⟩
 walk_at "x0"
 refine Dz (k+1) (i:=2) (by simp) (by simp) ?_;have e:((w.x:Nat):Int) - 1=((w.x - 1:Nat):Int):=by omega
 rw [e];exact f { w.setC s t (w.cell s t).tail with x:=w.x - 1 } ⟨w1o.lp,w1o.ps,w1o.lr,w1o.rs,by have:=wo.xx;show w.x - 1<=_;omega,w1o.yy⟩
theorem aQ (k:Nat) (pl:Int) (mh:MH):Ac (Gk (k+1)) fuel f14 [.int pl] mh=some ((⟨pl,0,0,0,-1,-1,-1,0,0,false⟩:Pt).d,mh):=by kernel_rfl
theorem Ob {k:Nat}{x:D}{mh:MH}{P:D->MH->Prop}(h1:1<=k) (h2:k<=1000) (h:P (.tup (List.replicate k x)) mh):wV (Gg (.tup [x]) (.int k) mh) P:=by
 refine ⟨_,_,?_,h⟩;show (if (k:Int)=1 then some (D.tup [x],mh) else if (List.isEmpty [x]=false/\[x].length<=1000)/\(1 < (k:Int)/\(k:Int)<=1000) then some (D.tup (List.replicate (k:Int).toNat [x]).flatten,mh) else none)=_
 by_cases e:k=1
 ·subst e;rfl
 ·rw [if_neg (by omega),if_pos ⟨⟨rfl,by simp⟩,by omega,by omega⟩,Int.toNat_natCast];have e:(List.replicate k [x]).flatten=List.replicate k x:=by
   clear h h1 h2 e
   induction k with
   | zero=>rfl
   | succ k ih=>rw [List.replicate_succ,List.flatten_cons,ih,List.replicate_succ];rfl
  rw [e]
theorem Wg {H L:Nat}(h1:1<=H) {pl:Int}(h2:-1<=pl) (h3:pl<=L):(⟨pl,0,0,0,-1,-1,-1,0,0,false⟩:Pt).ok H L:=⟨h2,h3,⟨show (-1:Int)<=-1 by decide,show (-1:Int)<=(H:Int) - 1 by omega⟩,⟨show (-1:Int)<=-1 by decide,show (-1:Int)<=(H:Int) - 1 by omega⟩,⟨show (-1:Int)<=-1 by decide,show (-1:Int)<=(H:Int) - 1 by omega⟩,Nat.two_pow_pos _,Nat.two_pow_pos _⟩
theorem pN (k h:Nat) (po:p.ok) (wo:w.ok p) (hh:h < p.plays.length) (hy:¬ w.y=0) (f:∀ w':Wd,w'.ok p->P w'.d mh):wV (Ac (Gk (k+3)) fuel f81 [w.d,.int h] mh) P:=by
 have h1:=po.h1;have h6:=po.h6;refine Aj (Acq (k+2)) oO.1 oO.2 rfl ?_;show wS (b81 (k+2)) [some w.d,some (.int h),none,none] mh _;unfold b81;refine Ao (Dc (Bj (Ax (by with_unfolding_all rfl) (Ai (Dn (c:=.tup [.int w.x,.int w.y]) ?_)))));unfold Wd.d
 walk_at "x0"
 refine Bp (ds:=w.ps.map Pt.d) (by intro z z';cases z') rfl ?_;rw [List.length_map,wo.lp];refine Ob h1 (by omega) ?_
 walk_at "x0"
 refine Dz (k+1) (by rw [List.length_map,wo.lr];exact hh) (by rw [List.length_map,wo.lr];omega) ?_
 walk_at "x0"
 refine Dz (k+1) (i:=1) (by simp) (by simp) ?_;have e0:(w.rs.map Qx).set h (.tup (List.replicate p.plays.length (.tup [])))=(w.rs.set h (List.replicate p.plays.length [])).map Qx:=by
  rw [List.map_set];unfold Qx;rw [List.map_replicate];rfl
 rw [e0]
 walk_at "x0"
 refine Av (aQ (k+1) (-1) mh) ?_
 walk_at "x0"
 have w1o:(⟨w.ps,w.rs.set h (List.replicate p.plays.length []),w.x,w.y⟩:Wd).ok p:=by
  refine ⟨wo.lp,wo.ps,by rw [List.length_set];exact wo.lr,fun v hv=>?_,wo.xx,wo.yy⟩;rcases List.mem_or_eq_of_mem_set hv with hv|rfl
  ·exact wo.rs v hv
  ·exact ⟨List.length_replicate,fun l hl=>by rw [(List.mem_replicate.mp hl).2];exact ⟨Nat.zero_le _,fun z hz=>absurd hz (by simp)⟩⟩
 refine G8 (w:=⟨w.ps,w.rs.set h (List.replicate p.plays.length []),w.x,w.y⟩) k h po w1o hh _ ?_
 walk_at "x0"
 refine Dz (k+1) (i:=2) (by simp) (by simp) ?_;have e:((w.y:Nat):Int) - 1=((w.y - 1:Nat):Int):=by omega
 rw [e];have w2o:=Oa (h:=h) (y:=⟨-1,0,0,0,-1,-1,-1,0,0,false⟩) w1o fun r _=>Wg h1 (by decide) (by omega)
 exact f ⟨w.ps.set h ⟨-1,0,0,0,-1,-1,-1,0,0,false⟩,w.rs.set h (List.replicate p.plays.length []),w.x,w.y - 1⟩ ⟨w2o.lp,w2o.ps,w2o.lr,w2o.rs,w2o.xx,by have:=wo.yy;show w.y - 1<=_;omega⟩
end
section
variable {mh:MH}{P:D->MH->Prop}{p:Pg}{w:Wd}{S:List (List Sp)}
theorem G9 {h:Nat}{bx:Int}{ls:List Ln}{c:D}(wo:w.ok p) (hh:h < p.plays.length) (hc:c∈Jv p w h bx ls) :
  (c=.tup [.int (-1),.int 0]/\(0:Int)∈K8 ls)\/∃ s l r,s < p.plays.length/\w.cell s h=l::r/\l.1∈K8 ls/\c=.tup [.int (s:Nat),.int l.1]:=by
 unfold Jv at hc;rcases List.mem_append.mp hc with hc|hc
 ·unfold Gn at hc;split at hc
  ·rename_i e;rw [Bool.and_eq_true] at e;exact Or.inl ⟨List.mem_singleton.mp hc,of_decide_eq_true e.1⟩
  ·cases hc
 ·obtain ⟨s,hs,hc⟩:=List.mem_flatMap.mp hc;have hs:=Wa wo hh hs;unfold Kg at hc;split at hc
  ·cases hc
  ·rename_i l r ec;split at hc
   ·rename_i hk;exact Or.inr ⟨s,l,r,hs,ec,hk,List.mem_singleton.mp hc⟩
   ·cases hc
theorem dF (k h:Nat) (bx:Int) (ls:List Ln) (g:Prg p S) (wo:w.ok p) (hh:h < p.plays.length) (so:Sp.ok p (p.len (plA p h)) (.take bx ls)) {c:D}(hc:c∈Jv p w h bx ls)
  (f:∀ (w':Wd) h',w'.ok p->0<=(Nq (w.pt h) (fun s=>w.cell s h) ls c).1.pl->w'=w.ap h (Nq (w.pt h) (fun s=>w.cell s h) ls c)->Ext [] mh h'->P w'.d h'):wV (Ac (Gk (k+4)) fuel f69 [w.d,.int h,spD (.take bx ls),c] mh) P:=by
 obtain ⟨sb,sl,sk⟩:=so;have po:=g.po;have qo:=Ld wo hh;obtain ⟨x,kd,rfl,hk⟩:∃ x kd:Int,c=.tup [.int x,.int kd]/\kd∈K8 ls:=by
  rcases G9 wo hh hc with ⟨rfl,h0⟩|⟨s,l,r,_,_,h0,rfl⟩
  ·exact ⟨_,_,rfl,h0⟩
  ·exact ⟨_,_,rfl,h0⟩
 refine Aj (Aci (k+3)) oE.1 oE.2 rfl ?_;show wS (b69 (k+3)) [some w.d,some (.int h),some (spD (.take bx ls)),some (.tup [.int x,.int kd]),none,none,none,none] mh _;unfold b69;refine Ao (Dc (Bj ?_));refine Fz ls lnD (fun l=>((l.kd:Nat):Int)==kd) lnD (by omega) ?_ (fun x h' R hx ex hR=>?_) fun m1 x1=>?_
 ·dsimp only [spD]
  walk_at "x0"
  exact ⟨_,rfl,K7 rfl⟩
 ·refine Bc ⟨rfl,?_⟩;refine Bx (Bj (Bj (Ax (d:=lnD x) (by with_unfolding_all rfl) (Ai (Dm ?_)))))
  walk_at "x0"
  refine ⟨rfl,rfl,fun _=>?_⟩;refine Ax (d:=lnD x) (by with_unfolding_all rfl) ?_;exact hR _ Ext.refl
 cases el:ls.filter fun l=>((l.kd:Nat):Int)==kd with
 | nil =>
  obtain ⟨l,hl,e⟩:=List.mem_map.mp hk;have:=List.filter_eq_nil_iff.mp el l hl;rw [e] at this;exact absurd (beq_self_eq_true _) this
 | cons ln lr =>
  have hln:ln∈ls:=(List.mem_filter.mp (by rw [el];exact List.mem_cons_self)).1;have lo:=sk ln hln;rw [List.map_cons];refine Ai (P0 (j:=0) Aq rfl ?_);generalize hm2:m1++[MO.lst (lnD ln::lr.map lnD)]=m2;have x2:Ext [] mh m2:=by rw [← hm2];exact x1.trans Ext.more
  refine Bc (Ak (Ao (Dc (Bu (Am (Bu (Am (Ax (by with_unfolding_all rfl) (Am (Ax (by with_unfolding_all rfl) (Ai (Gd (k+2) h (by rw [wo.lp];exact hh) ?_)))))))))))) ;refine Am (Bj (Ax (d:=lnD ln) (by with_unfolding_all rfl) (Ai (Ik ?_))))
  walk_at "x0"
  refine Av (Qg (k+1) _ _ _) ?_;have q1:=Lb qo (pl:=((ln.q:Nat):Int)) (by omega) (by have:=lo.q;omega);generalize hq1:(w.pt h).to ((ln.q:Nat):Int)=u1;have q1:u1.ok p.H (p.len (plA p h)):=by rw [← hq1];exact q1
  have fin:∀ {u:Pt},u.ok p.H (p.len (plA p h))->∀ {w1:Wd},w1.ok p->(w1.setP h u).ok p:=fun {u} uo {w1} o1=>Oa o1 fun r er=>by
   rw [Rx hh] at er;cases er;exact uo
  refine Bc (Ak (Ao (Cv (Bx (Bj (Ax (by with_unfolding_all rfl) (Ai ?_)))))));have ee:=pK m2 [x,kd] [-1,0];refine Gm ee ⟨_,rfl,fun e=>?_,fun e=>?_⟩
  ·walk_at "x0"
   refine Av (aO (k+1) u1 false m2) ?_
   walk_at "x0"
   refine G8 (k+1) h po wo hh _ ?_
   walk_at "x0"
   have et:Nq (w.pt h) (fun s=>w.cell s h) ls (.tup [.int x,.int kd])=(u1.ring false,.no):=by
    dsimp only [Nq];rw [el];dsimp only;rw [if_pos e,hq1]
   exact f _ _ (fin (aP q1 _) wo) (by rw [et];show 0<=u1.pl;rw [← hq1];show (0:Int)<=(ln.q:Nat);omega) (by rw [et];rfl) x2
  ·rcases G9 wo hh hc with ⟨e1,_⟩|⟨s,l,r,hs,ec,h0,e1⟩
   ·cases e1;cases e
   ·cases e1;have co:=Uk wo hs hh;refine Be (Ak ?_)
    walk_at "x0"
    refine Ff (k+2) s h wo hs hh ?_;rw [ec] at co ⊢;refine Bc (Ak ?_);show wS _ [some w.d,some (.int h),some (spD (.take bx ls)),some (.tup [.int (s:Nat),.int l.1]),some (lnD ln),some u1.d,some (.int (s:Nat)),some (.tup (ltD l::r.map ltD))] m2 _
    walk_at "x0"
    refine Wf (f:=ixD) (d:=Ae ln.a) (fun _=>by kernel_rfl) ?_
    walk_at "x0"
    refine Ga (a:=.int l.1) (b:=.int l.2.1) ?_
    walk_at "x0"
    refine Av (Je (k+1) u1 lo.a l.2.1 m2) ?_
    walk_at "x0"
    refine Wf (f:=ixD) (d:=Ae ln.b) (fun _=>by kernel_rfl) ?_
    walk_at "x0"
    refine Dn (a:=.int l.1) (b:=.int l.2.1) (c:=.int l.2.2) ?_
    walk_at "x0"
    refine Av (Jf (k+1) _ lo.b l.2.2 m2) ?_
    walk_at "x0"
    refine Wf (f:=ixD) (d:=Ae ln.c) (fun _=>by kernel_rfl) ?_
    walk_at "x0"
    refine Av (Jf (k+1) _ lo.c (s:Int) m2) ?_
    walk_at "x0"
    refine Ug (i:=1) (ds:=(l::r).map ltD) (by simp) ?_
    walk_at "x0"
    refine Mg (k+1) s h po wo hs hh r ?_;have w1o:=Ui (s:=s) (t:=h) (l:=r) wo ⟨by have:=co.1;rw [List.length_cons] at this;omega,fun z hz=>co.2 z (List.mem_cons_of_mem _ hz)⟩
    walk_at "x0"
    refine G8 (k+1) h po w1o hh _ ?_;have hl:=(co.2 l List.mem_cons_self).2;have hs:s < p.H:=hs;have et:Nq (w.pt h) (fun s=>w.cell s h) ls (.tup [.int (s:Nat),.int l.1])=(((u1.setN ln.a l.2.1).setM ln.b l.2.2).setM ln.c (s:Nat),.pop s):=by
     dsimp only [Nq];rw [el];dsimp only;rw [if_neg (by rw [e];decide),Int.toNat_natCast,ec,hq1]
    exact f _ _ (fin (Jh (Jh (Jg q1 _ _) _ hl) _ ⟨by omega,by omega⟩) w1o) (by rw [et];show 0<=Pt.pl _;rw [Em,Em,Ea,← hq1];show (0:Int)<=(ln.q:Nat);omega) (by rw [et];show _=(w.setP h _).setC s h (w.cell s h).tail;rw [ec];rfl) x2
theorem Wh (k h:Nat) (g:Prg p S) (wo:w.ok p) (hh:h < p.plays.length) {s:Sp}(es:stW p S w h=some s) {c:D}(hc:c∈chs p w h s)
  (f:∀ (w':Wd) h',w'.ok p->0<=(eff p w h c s).1.pl->w'=w.ap h (eff p w h c s)->Ext [] mh h'->P w'.d h'):wV (Ac (Gk (k+6)) fuel f61 [p.d,w.d,.int h,spD s,c] mh) P:=by
 obtain ⟨so,p1,p2⟩:=Ry g hh es;have qo:=Ld wo hh;refine Aj (Ace (k+5)) nW.1 nW.2 rfl ?_;show wS (b61 (k+5)) [some p.d,some w.d,some (.int h),some (spD s),some c] mh _;have quiet:(∀ bx ls,s≠.take bx ls)->(∀ a kd b c,s≠.send a kd b c)->wS (b61 (k+5)) [some p.d,some w.d,some (.int h),some (spD s),some c] mh (T9 P):=fun ht hs=>by
  obtain ⟨wd,rest,e,h0,h1,h2⟩:∃ (wd:Str) (rest:List D),spD s=.tup (.str wd::rest)/\PyData.strOk wd=true/\(wd==("send":Str))=false/\(wd==("take":Str))=false:=by
   cases s with
   | take bx ls=>exact absurd rfl (ht bx ls)
   | send a kd b c=>exact absurd rfl (hs a kd b c)
   | _=>exact ⟨_,_,rfl,by decide +kernel,by decide +kernel,by decide +kernel⟩
  have ix:∀ {Q:D->MH->Prop} {m:MH},Q (.str wd) m->wV (ixD (spD s) (.int 0) m) Q:=fun q=>by
   rw [e];exact Dm q
  unfold b61
  walk_at "x0"
  refine ix ?_;refine Ai (Gm (k:=false) (El h0 (by decide +kernel) h1 mh) ⟨_,rfl,Dy (Be (Ak ?_))⟩)
  walk_at "x0"
  refine ix ?_;refine Ai (Gm (k:=false) (El h0 (by decide +kernel) h2 mh) ⟨_,rfl,Dy (Be (Ak ?_))⟩)
  walk_at "x0"
  refine Gd (k+4) h (by rw [wo.lp];exact hh) ?_
  walk_at "x0"
  refine dD k h g wo hh s so qo p1 p2 c hc ht hs fun q' h' qo' pl' eq' x1=>?_
  walk_at "x0"
  refine G8 (k+3) h g.po wo hh _ ?_;have ee:eff p w h c s=(q',.no):=by
   rw [eq'];cases s with
   | take bx ls=>exact absurd rfl (ht bx ls)
   | send a kd b c=>exact absurd rfl (hs a kd b c)
   | _=>rfl
  exact f _ _ (Oa wo fun r er=>by rw [Rx hh] at er;cases er;exact qo') (by rw [ee];exact pl') (by rw [ee];rfl) x1
 cases s with
 | send a kd b c' =>
  have hm:Jq p w h a=true:=by
   have hc:c∈(if Jq p w h a=true then [D.int 0] else []):=hc;cases e:Jq p w h a with
   | true=>rfl
   | false=>rw [e] at hc;cases hc
  unfold b61;dsimp only [spD]
  walk_at "x0"
  refine pL (k+1) h a kd b c' g wo hh so p1 p2 hm fun w' o' pl' e'=>?_
  exact f _ _ o' pl' e' Ext.refl
 | take bx ls =>
  unfold b61;dsimp only [spD]
  walk_at "x0"
  exact dF (k+1) h bx ls g wo hh so hc f
 | _=>exact quiet (fun _ _ z=>by cases z) fun _ _ _ _ z=>by cases z
end
theorem Oc {ms:DM Src}{g:GM}{body:SM}{l0:DL.Loc}{mh:MH}{K:Fl->DL.Loc->MH->Prop}{α:Type}(xs:List α) (G:α->D) (F:α->List D) (acc:List D) (j:Nat) (I:DL.Loc->Prop)
  (hj:mh[j]?=some (.lst acc)) (i0:I l0) (hb:(acc++xs.flatMap F).length<=1000000)
  (hm:wD ms l0 mh fun src h0=>Ext [] mh h0/\∀ h,Ext [j] h0 h->src.ok h=true/\src.items h=xs.map G)
  (step:∀ x l h a,x∈xs->I l->Ext [j] mh h->h[j]?=some (.lst a)->(a++F x).length<=1000000->∀ {J:DL.Loc->MH->Prop},(∀ l2 h2,I l2->Ext [j] h h2->h2[j]?=some (.lst (a++F x))->J l2 h2)->wG (g (G x) l h) fun l1 h1=>wS body l1 h1 (Abn J K))
  (fin:∀ l h,I l->Ext [j] mh h->h[j]?=some (.lst (acc++xs.flatMap F))->K .nx l h):wS (Hw ms g body) l0 mh K:=by
 refine Hr (Bg hm ?_);rintro src h0 ⟨x0,keep⟩;refine ⟨xs.map G,fun i l h=>I l/\Ext [j] h0 h/\h[j]?=some (.lst (acc++(xs.take i).flatMap F)),⟨i0,Ext.refl,by rw [x0.old _ _ (by simp) hj];simp⟩,fun i l h q=>keep h q.2.1,?_,?_⟩
 ·rintro i d l h ed ⟨il,xh,gh⟩;rw [List.getElem?_map] at ed;cases ex:xs[i]? with
  | none=>rw [ex] at ed;cases ed
  | some x =>
   rw [ex] at ed;cases ed;have et:(xs.take (i+1)).flatMap F=(xs.take i).flatMap F++F x:=by
    rw [List.take_add_one,ex,List.flatMap_append];simp
   refine step x l h _ (List.mem_of_getElem? ex) il (x0.weak.trans xh) gh ?_ fun l2 h2 i2 x2 g2=>⟨i2,xh.trans x2,by rw [g2,et,List.append_assoc]⟩
   rw [List.append_assoc,← et];refine Nat.le_trans ?_ hb;rw [List.length_append,List.length_append];have:((xs.take (i+1)).flatMap F).length+((xs.drop (i+1)).flatMap F).length=(xs.flatMap F).length:=by
    rw [← List.length_append,← List.flatMap_append,List.take_append_drop]
   omega
 ·rintro l h ⟨il,xh,gh⟩;rw [List.length_map,List.take_length] at gh;exact fin l h il (x0.weak.trans xh) gh
theorem Od {n j:Nat}{α:Type}{xs:List α}{F:α->D}{mh h0:MH}(x:Ext [] mh h0) (e:h0[n]?=some (.lst (xs.map F))) (hn:n≠j):Ext [] mh h0/\∀ h,Ext [j] h0 h->(Src.lref n).ok h=true/\(Src.lref n).items h=xs.map F :=
 ⟨x,fun h y=>Jd (y.old _ _ (by intro z;exact hn (List.mem_singleton.mp z)) e)⟩
noncomputable def doD (h:Nat) (c:D):D:=.tup [.str "do",Ae h,c]
noncomputable def loD (s t:Nat):D:=.tup [.str "lose",Ae s,Ae t]
noncomputable def faD (h:Nat):D:=.tup [.str "fall",Ae h]
noncomputable def doL (p:Pg) (S:List (List Sp)) (w:Wd):List D:=(List.range p.H).flatMap fun h=>(chW p S w h).flatMap fun c=>[doD h c]
noncomputable def Yp (w:Wd) (s t:Nat):List D:=if 0 < (w.cell s t).length then [loD s t] else []
noncomputable def Ac3 (p:Pg) (w:Wd):List D:=(List.range p.H).flatMap fun s=>(List.range p.H).flatMap fun t=>Yp w s t
noncomputable def Qz (p:Pg) (w:Wd):List D:=if w.x=0 then [] else Ac3 p w
noncomputable def Q0 (p:Pg) (w:Wd):List D:=if w.y=0 then [] else ((List.range p.H).filter fun h=>!Ym (w.pt h)).map faD
theorem Le {α β:Type}{f:α->List β}{b:Nat}:∀ (l:List α),(∀ x∈l,(f x).length<=b)->(l.flatMap f).length<=l.length * b
 | [],_=>by simp
 | x::r,h=>by
  rw [List.flatMap_cons,List.length_append,List.length_cons,Nat.succ_mul];have:=Le r fun y hy=>h y (List.mem_cons_of_mem _ hy)
  have:=h x List.mem_cons_self;omega
section
variable {mh:MH}{P:D->MH->Prop}{p:Pg}{w:Wd}{S:List (List Sp)}
theorem aR (po:p.ok):(Ac3 p w).length<=36:=by
 have h6:p.H<=6:=po.h6;have h1:∀ s∈List.range p.H,((List.range p.H).flatMap fun t=>Yp w s t).length<=6:=fun s _=>by
  refine Nat.le_trans (Le (b:=1) _ fun t _=>?_) (by rw [List.length_range];omega);unfold Yp;split <;> simp
 refine Nat.le_trans (Le (b:=6) _ h1) ?_;rw [List.length_range];omega
theorem Qi (k:Nat) (po:p.ok) (wo:w.ok p) (q:∀ j h',Ext [] mh h'->h'[j]?=some (.lst (Qz p w))->P (.ref j) h'):wV (Ac (Gk (k+2)) fuel f72 [w.d] mh) P:=by
 have h6:p.H<=6:=po.h6;refine Aj (Ack (k+1)) oG.1 oG.2 rfl ?_;show wS (b72 (k+1)) [some w.d,none,none,none] mh _;unfold b72;refine Ao (Dc (Pu (Ai ⟨by simp,Bc (Ak ?_)⟩)));refine Ao (Cv (Bx (Bj (Bj (Bj (Ax (by with_unfolding_all rfl) (Ai (Dn (c:=.tup [.int w.x,.int w.y]) ?_))))))))
 walk_at "x0"
 unfold Qz at q
 by_cases e0:w.x=0
 ·refine N6 (by rw [e0];rfl) ?_;rw [if_pos e0] at q
  walk_at "x0"
  exact q _ _ Ext.more Aq
 ·refine Ua (beq_eq_false_iff_ne.mpr (by omega)) (Be (Ak (Ao ?_)));rw [if_neg e0] at q;have hl:=aR (w:=w) po;refine Oc (List.range p.H) Ae (fun s=>(List.range p.H).flatMap fun t=>Yp w s t) [] mh.length (fun l=>∃ x y,l=[some w.d,some (.ref mh.length),x,y]) Aq ⟨_,_,rfl⟩ (by show (Ac3 p w).length<=_;omega) ?_ (fun s l h a hs il xh gh hz J hJ=>?_) fun l h il xh gh=>?_
  ·walk_at "x0"
   refine Hs k wo po fun j h1 x1 lj gj=>⟨_,src_list gj,Od x1 gj ?_⟩
   rw [List.length_append,List.length_singleton] at lj;omega
  ·obtain ⟨x,y,rfl⟩:=il;have hs:=List.mem_range.mp hs;refine Bc ?_;show wS _ [some w.d,some (.ref mh.length),some (Ae s),y] h _;refine Ao ?_;refine Oc (List.range p.H) Ae (fun t=>Yp w s t) a mh.length (fun l=>∃ y,l=[some w.d,some (.ref mh.length),some (Ae s),y]) gh ⟨_,rfl⟩ hz ?_ (fun t l h3 a3 ht il x3 g3 hz3 J3 hJ3=>?_) fun l h3 il x3 g3=>?_
   ·walk_at "x0"
    refine Hs k wo po fun j h1 x1 lj gj=>⟨_,src_list gj,Od x1 gj ?_⟩
    have:=(List.getElem?_eq_some_iff.mp gh).1;omega
   ·obtain ⟨y,rfl⟩:=il;have ht:=List.mem_range.mp ht;refine Bc ?_;show wS _ [some w.d,some (.ref mh.length),some (Ae s),some (Ae t)] h3 _
    walk_at "x0"
    refine Ff k s t wo hs ht ?_
    walk_at "x0"
    refine Bp (ds:=(w.cell s t).map ltD) (by intro z z';cases z') rfl ?_;rw [List.length_map];unfold Yp at hJ3 hz3;refine Ai (Gj ⟨_,rfl,fun e=>?_,fun e=>?_⟩)
    ·have e:=of_decide_eq_true e;rw [if_pos (by omega)] at hJ3 hz3
     walk_at "x0"
     refine ⟨ty_list g3,?_⟩
     walk_at "x0"
     refine Cj g3 (by rw [List.length_append] at hz3;omega) ?_
     walk_at "x0"
     exact hJ3 _ _ ⟨_,rfl⟩ Ext.set (Dw g3)
    ·have e:=of_decide_eq_false e;rw [if_neg (by omega),List.append_nil] at hJ3;refine Be (Ak (Be ?_));exact hJ3 _ _ ⟨_,rfl⟩ Ext.refl g3
   ·obtain ⟨y,rfl⟩:=il;refine Ak (Be ?_);exact hJ _ _ ⟨_,_,rfl⟩ x3 g3
  ·obtain ⟨x,y,rfl⟩:=il;rw [List.nil_append] at gh
   walk_at "x0"
   refine q _ _ ⟨Nat.le_trans (by simp) xh.len,fun i o _ e=>?_⟩ gh;have hi:=(List.getElem?_eq_some_iff.mp e).1;exact xh.old i o (by intro z;have:=List.mem_singleton.mp z;omega) ((Ext.more (W:=[])).old _ _ (by simp) e)
theorem Ml (k:Nat) (po:p.ok) (wo:w.ok p) (q:∀ j h',Ext [] mh h'->h'[j]?=some (.lst (Q0 p w))->P (.ref j) h'):wV (Ac (Gk (k+2)) fuel f73 [w.d] mh) P:=by
 have h6:p.H<=6:=po.h6;refine Aj (Acl (k+1)) oH.1 oH.2 rfl ?_;show wS (b73 (k+1)) [some w.d] mh _;unfold b73;refine Ao (Cv (Bx (Bj (Bj (Bj (Ax (by with_unfolding_all rfl) (Ai (Dn (c:=.tup [.int w.x,.int w.y]) ?_))))))))
 walk_at "x0"
 unfold Q0 at q
 by_cases e0:w.y=0
 ·refine N6 (by rw [e0];rfl) ?_;rw [if_pos e0] at q
  walk_at "x0"
  exact q _ _ Ext.more Aq
 ·refine Ua (beq_eq_false_iff_ne.mpr (by omega)) (Be (Ak (Ao (Gw ?_))));rw [if_neg e0] at q;refine Fz (List.range p.H) Ae (fun h=>!Ym (w.pt h)) faD (by rw [List.length_range];omega) ?_ (fun x h' R hx ex hR=>?_) fun m1 x1=>?_
  ·walk_at "x0"
   exact Hs k wo po fun j h1 x1 lj gj=>⟨_,src_list gj,x1,aH gj⟩
  ·refine Bc ⟨rfl,?_⟩
   walk_at "x0"
   refine Gd k x (by rw [wo.lp];exact List.mem_range.mp hx) ?_
   walk_at "x0"
   refine Kf k _ _ ⟨_,rfl,rfl,rfl,fun _=>?_⟩
   walk_at "x0"
   exact hR _ Ext.refl
  ·walk_at "x0"
   exact q _ _ (x1.trans Ext.more) Aq
theorem Ac4 {h:Nat}(g:Prg p S) (wo:w.ok p) (hh:h < p.plays.length):(chW p S w h).length<=1000:=by
 have po:=g.po;have h6:p.H<=6:=po.h6;unfold chW;cases es:stW p S w h with
 | none=>simp
 | some s =>
  obtain ⟨so,p1,p2⟩:=Ry g hh es;have qo:=Ld wo hh;show (chs p w h s).length<=1000;cases s with
  | choose a c=>show ((List.range c).map Ae).length<=1000;rw [List.length_map,List.length_range];exact so.2
  | pick a r =>
   show ((oth p r h).map Qy).length<=1000;rw [List.length_map];have:(oth p r h).length<=p.H:=Nat.le_trans (List.length_filter_le _ _) Mh;omega
  | out a gg qq =>
   show (Mj ((w.pt h).se gg)).length<=1000;unfold Mj;split
   ·simp
   ·rw [List.length_map];have h1:=Pr ((w.pt h).se gg) (Builtin.Int.intBits (((w.pt h).se gg:Nat):Int));have h2:=bits_le (g:=(w.pt h).se gg) (n:=20) (Afo h6 (Pt.se_ok qo));show (Ka _ _).length<=1000;omega
  | take bx ls =>
   show (Jv p w h bx ls).length<=1000;unfold Jv;rw [List.length_append];have h1:(Gn w h ls).length<=1:=by unfold Gn;split <;> simp
   have h2:=Qf (w:=w) (h:=h) (ks:=K8 ls) (Ef p w h bx);have h3:(Ef p w h bx).length<=6:=by
    unfold Ef;split
    ·rw [List.length_range];exact h6
    ·split <;> simp
   omega
  | send a kd b c =>
   show (if Jq p w h a=true then [D.int 0] else []).length<=1000;split <;> simp
  | _=>exact (by decide:1<=1000)
theorem Ac5 (g:Prg p S) (wo:w.ok p):(doL p S w).length<=6000:=by
 have h6:p.H<=6:=g.po.h6;refine Nat.le_trans (Le (b:=1000) _ fun h hh=>?_) (by rw [List.length_range];omega);refine Nat.le_trans (Le (b:=1) _ fun c _=>by simp) ?_;have:=Ac4 g wo (List.mem_range.mp hh);omega
theorem Rz (k:Nat) (g:Prg p S) (wo:w.ok p) (q:∀ j h',Ext [] mh h'->h'[j]?=some (.lst (doL p S w++Qz p w++Q0 p w))->P (.ref j) h'):wV (Ac (Gk (k+5)) fuel f71 [p.d,w.d] mh) P:=by
 have po:=g.po;have h6:p.H<=6:=po.h6;have dl:=Ac5 g wo;refine Aj (Acj (k+4)) oF.1 oF.2 rfl ?_;show wS (b71 (k+4)) [some p.d,some w.d,none,none,none] mh _;unfold b71;refine Ao (Dc (Pu (Ai ⟨by simp,Bc (Ak (Ao ?_))⟩)));refine Oc (List.range p.H) Ae (fun h=>(chW p S w h).flatMap fun c=>[doD h c]) [] mh.length (fun l=>∃ x y,l=[some p.d,some w.d,some (.ref mh.length),x,y]) Aq ⟨_,_,rfl⟩ (by show (doL p S w).length<=_;omega) ?_ (fun hd l h a hs il xh gh hz J hJ=>?_) fun l h il xh gh=>?_
 ·walk_at "x0"
  refine Hs (k+3) wo po fun j h1 x1 lj gj=>⟨_,src_list gj,Od x1 gj ?_⟩
  rw [List.length_append,List.length_singleton] at lj;omega
 ·obtain ⟨x,y,rfl⟩:=il;have hs:=List.mem_range.mp hs;refine Bc ?_;show wS _ [some p.d,some w.d,some (.ref mh.length),some (Ae hd),y] h _;refine Ao ?_;refine Oc (chW p S w hd) id (fun c=>[doD hd c]) a mh.length (fun l=>∃ y,l=[some p.d,some w.d,some (.ref mh.length),some (Ae hd),y]) gh ⟨_,rfl⟩ hz ?_ (fun c l h3 a3 ht il x3 g3 hz3 J3 hJ3=>?_) fun l h3 il x3 g3=>?_
  ·walk_at "x0"
   refine Im k hd g wo hs fun j h1 x1 lj gj=>⟨_,src_list gj,Od x1 (by rw [List.map_id];exact gj) ?_⟩
   have:=(List.getElem?_eq_some_iff.mp gh).1;omega
  ·obtain ⟨y,rfl⟩:=il;refine Bc ?_;show wS _ [some p.d,some w.d,some (.ref mh.length),some (Ae hd),some c] h3 _
   walk_at "x0"
   refine ⟨ty_list g3,?_⟩
   walk_at "x0"
   refine Cj g3 (by rw [List.length_append] at hz3;omega) ?_
   walk_at "x0"
   exact hJ3 _ _ ⟨_,rfl⟩ Ext.set (Dw g3)
  ·obtain ⟨y,rfl⟩:=il;refine Ak (Be ?_);exact hJ _ _ ⟨_,_,rfl⟩ x3 g3
 ·obtain ⟨x,y,rfl⟩:=il;rw [List.nil_append] at gh
  have x0:Ext [] mh h:=⟨Nat.le_trans (by simp) xh.len,fun i o _ e=>by
   have hi:=(List.getElem?_eq_some_iff.mp e).1
   exact xh.old i o (by intro z;have:=List.mem_singleton.mp z;omega) ((Ext.more (W:=[])).old _ _ (by simp) e)⟩
  have ll:(Qz p w).length<=36:=by
   unfold Qz;split
   ·simp
   ·exact aR po
  have fl:(Q0 p w).length<=6:=by
   unfold Q0;split
   ·simp
   ·rw [List.length_map];exact Nat.le_trans (List.length_filter_le _ _) (by rw [List.length_range];exact h6)
  refine Ak (Ao (Gw (Bj (Bj (Ax (by with_unfolding_all rfl) (Bu (Am (Ax (by with_unfolding_all rfl) (Ai ?_)))))))));refine Qi (k+2) po wo fun j1 h1 x1 g1=>?_
  refine N5 (x1.old _ _ (by simp) gh) g1 (by show (doL p S w).length+_<=_;omega) ?_;refine Bu (Am (Ax (by with_unfolding_all rfl) (Ai ?_)));refine Ml (k+2) po wo fun j2 h2 x2 g2=>?_
  refine N5 (x2.old _ _ (by simp) Aq) g2 (by rw [List.length_append];show (doL p S w).length+_+_<=_;omega) ?_;exact q _ _ (x0.trans (x1.trans (Ext.more.trans (x2.trans Ext.more)))) Aq
end
theorem Wi {f:D->Option PyData}{x:D}:∀ {l:List D}{as:List PyData},Df f l=some as->x∈l->∃ a,a∈as/\f x=some a
 | d::r,as,e,hx=>by
  simp only [Df] at e;cases e1:f d with
  | none=>rw [e1] at e;cases e
  | some b =>
   rw [e1] at e;cases e2:Df f r with
   | none=>rw [e2] at e;cases e
   | some bs =>
    rw [e2] at e;cases e;rcases List.mem_cons.mp hx with rfl|hx
    ·exact ⟨b,List.mem_cons_self,e1⟩
    ·obtain ⟨a,ha,ea⟩:=Wi e2 hx;exact ⟨a,List.mem_cons_of_mem _ ha,ea⟩
theorem pO (mh:MH):∀ (n:Nat) (d:D) (a:PyData),py mh n d=some a->dat n d=true->py mh (n+1) d=some a
 | 0,.non,_,h,_=>h
 | _+1,.non,_,h,_=>h
 | 0,.bl _,_,h,_=>h
 | _+1,.bl _,_,h,_=>h
 | 0,.int _,_,h,_=>h
 | _+1,.int _,_,h,_=>h
 | 0,.str _,_,h,_=>h
 | _+1,.str _,_,h,_=>h
 | 0,.tup _,_,_,z=>by simp [dat] at z
 | 0,.ref _,_,_,z=>by simp [dat] at z
 | 0,.rol _,_,_,z=>by simp [dat] at z
 | 0,.obj ..,_,_,z=>by simp [dat] at z
 | 0,.fn _,_,_,z=>by simp [dat] at z
 | _+1,.ref _,_,_,z=>by simp [dat] at z
 | _+1,.rol _,_,_,z=>by simp [dat] at z
 | _+1,.obj ..,_,_,z=>by simp [dat] at z
 | _+1,.fn _,_,_,z=>by simp [dat] at z
 | n+1,.tup ds,a,h,z=>by
  have z:K6 n ds=true:=z;have up:∀ {l:List D} {as:List PyData},K6 n l=true->Df (py mh n) l=some as->Df (py mh (n+1)) l=some as:=fun {l}=>by
   induction l with
   | nil=>intro as _ e;exact e
   | cons d r ih =>
    intro as z e;have z:(dat n d&&K6 n r)=true:=by simpa [K6] using z
    rw [Bool.and_eq_true] at z;simp only [Df] at e ⊢;cases e1:py mh n d with
    | none=>rw [e1] at e;cases e
    | some b =>
     rw [e1] at e;rw [pO mh n d b e1 z.1];cases e2:Df (py mh n) r with
     | none=>rw [e2] at e;cases e
     | some bs=>rw [e2] at e;rw [ih z.2 e2];exact e
  have h:(match Df (py mh n) ds with | some xs=>some (PyData.tuple xs) | none=>none)=some a:=h;show (match Df (py mh (n+1)) ds with | some xs=>some (PyData.tuple xs) | none=>none)=some a;cases e:Df (py mh n) ds with
  | none=>rw [e] at h;cases h
  | some xs=>rw [e] at h;rw [up z e];exact h
theorem Ji {n:Nat}:∀ {l:List D},(∀ x∈l,dat n x=true)->K6 n l=true
 | [],_=>rfl
 | x::r,h=>by
  show K6 n (x::r)=true;simp only [K6,h x List.mem_cons_self,Ji fun y hy=>h y (List.mem_cons_of_mem _ hy),Bool.and_self]
theorem Ul {mh:MH}{P:D->MH->Prop}{j:Nat}{ds:List D}{x:D}(gj:mh[j]?=some (.lst ds)) (hd:∀ y∈ds,dat 59 y=true) (hx:x∈ds) (q:P (.bl true) mh):wV (inD false x (.ref j) mh) P:=by
 obtain ⟨as,e,_⟩:=N7 mh 59 ds (Ji hd);obtain ⟨a,ha,ea⟩:=Wi e hx;obtain ⟨a',ea',la⟩:=Ub mh 59 x (hd x hx);rw [ea] at ea';cases ea';refine aB (k:=true) ?_ q;unfold inB;have p1:py mh 60 (.ref j)=some (.list as):=by
  show (match mh[j]? with | some (.lst o)=>(match Df (py mh 59) o with | some xs=>some (PyData.list xs) | none=>none) | _=>none)=_;rw [gj];dsimp only;rw [e]
 rw [p1,pO mh 59 x a ea (hd x hx)];dsimp only;exact congrArg some (List.any_eq_true.mpr ⟨a,ha,SeqAt.eqv_refl a la⟩)
theorem Um (n:Nat) (i:Int):dat n (.int i)=true:=by cases n <;> rfl
theorem pP (n:Nat) (xs:List Int):K6 n (xs.map D.int)=true:=Ji fun x hx=>by
 obtain ⟨i,_,rfl⟩:=List.mem_map.mp hx;exact Um n i
noncomputable def Chc (c:D):Prop:=(∃ i:Int,c=.int i)\/∃ xs:List Int,xs.length<=2/\c=.tup (xs.map D.int)
theorem Uo {c:D}{n:Nat}(h:Chc c):dat (n+1) c=true:=by
 rcases h with ⟨i,rfl⟩|⟨xs,_,rfl⟩
 ·rfl
 ·exact pP n xs
section
variable {mh:MH}{P:D->MH->Prop}{p:Pg}{w:Wd}{S:List (List Sp)}
theorem Gp {h:Nat}{c:D}(wo:w.ok p) (hh:h < p.plays.length) (hc:c∈chW p S w h):∃ s,stW p S w h=some s/\c∈chs p w h s/\Chc c:=by
 unfold chW at hc;cases es:stW p S w h with
 | none=>rw [es] at hc;cases hc
 | some s =>
  rw [es] at hc;have hc:c∈chs p w h s:=hc;refine ⟨s,rfl,hc,?_⟩;have zero:c∈[D.int 0]->Chc c:=fun z=>Or.inl ⟨0,List.mem_singleton.mp z⟩
  cases s with
  | choose a n =>
   obtain ⟨i,_,rfl⟩:=List.mem_map.mp (show c∈(List.range n).map Ae from hc);exact Or.inl ⟨_,rfl⟩
  | pick a r =>
   obtain ⟨y,_,rfl⟩:=List.mem_map.mp (show c∈(oth p r h).map Qy from hc);exact Or.inr ⟨[(y:Int)],by simp,rfl⟩
  | out a gg qq =>
   have hc:c∈Mj ((w.pt h).se gg):=hc;unfold Mj at hc;split at hc
   ·exact zero hc
   ·obtain ⟨y,_,rfl⟩:=List.mem_map.mp hc;exact Or.inr ⟨[(y:Int)],by simp,rfl⟩
  | take bx ls =>
   rcases G9 wo hh hc with ⟨rfl,_⟩|⟨s,l,r,_,_,_,rfl⟩
   ·exact Or.inr ⟨[-1,0],by simp,rfl⟩
   ·exact Or.inr ⟨[(s:Int),l.1],by simp,rfl⟩
  | send a kd b c' =>
   have hc:c∈(if Jq p w h a=true then [D.int 0] else []):=hc;split at hc
   ·exact zero hc
   ·cases hc
  | _=>exact zero hc
theorem Hf (k:Nat) (i:Int) (mh:MH):Ac (Gk (k+1)) fuel f27 [.int i] mh=some (.bl true,mh):=by kernel_rfl
theorem dG {j:Nat}{mh:MH}{bs:List Bool}{P:D->MH->Prop}(e:mh[j]?=some (.lst (bs.map D.bl))) (h:P (.bl (bs.all id)) mh):wV (tV [.ref j] mh) P:=mR (f:=fun bs=>bs.all id) (Dl e) h
theorem Yq (k:Nat) {c:D}(hc:Chc c) (f:∀ h',Ext [] mh h'->P (.bl true) h'):wV (Ac (Gk (k+2)) fuel f79 [c] mh) P:=by
 refine Aj (Aco (k+1)) oM.1 oM.2 rfl ?_;show wS (b79 (k+1)) [some c] mh _;unfold b79;rcases hc with ⟨i,rfl⟩|⟨xs,hx,rfl⟩
 ·walk_at "x0"
  exact Av (Hf k _ _) (f _ Ext.refl)
 ·walk_at "x0"
  refine Ij xs D.int (fun _=>.bl true) (by omega) (Px (Ax (by with_unfolding_all rfl) ⟨_,rfl,K7 rfl⟩)) (fun x h1 R hx x1 hR=>?_) fun h1 x1=>?_
  ·refine Bc ⟨rfl,?_⟩
   walk_at "x0"
   exact Av (Hf k _ _) (hR _ Ext.refl)
  ·walk_at "x0"
   refine dG (bs:=xs.map fun _=>true) (by rw [Aq,List.map_map];rfl) ?_;have e:(xs.map fun _=>true).all id=true:=by rw [List.all_map];exact List.all_eq_true.mpr fun _ _=>rfl
   rw [e]
   walk_at "x0"
   exact f _ (x1.trans Ext.more)
noncomputable def Mv (p:Pg) (S:List (List Sp)) (w:Wd) (m:D):Prop:=(∃ h c,h < p.plays.length/\c∈chW p S w h/\m=doD h c)\/(∃ s t,s < p.plays.length/\t < p.plays.length/\¬ w.x=0/\loD s t∈Qz p w/\m=loD s t)\/∃ h,h < p.plays.length/\¬ w.y=0/\faD h∈Q0 p w/\m=faD h
theorem aU {m:D}(h:m∈Qz p w):∃ s t,s < p.plays.length/\t < p.plays.length/\¬ w.x=0/\m=loD s t:=by
 unfold Qz at h;split at h
 ·cases h
 ·rename_i e0;obtain ⟨s,hs,h⟩:=List.mem_flatMap.mp h;obtain ⟨t,ht,h⟩:=List.mem_flatMap.mp h;unfold Yp at h;split at h
  ·exact ⟨s,t,List.mem_range.mp hs,List.mem_range.mp ht,e0,List.mem_singleton.mp h⟩
  ·cases h
theorem Oe {m:D}(h:m∈Q0 p w):∃ s,s < p.plays.length/\¬ w.y=0/\m=faD s:=by
 unfold Q0 at h;split at h
 ·cases h
 ·rename_i e0;obtain ⟨s,hs,rfl⟩:=List.mem_map.mp h;exact ⟨s,List.mem_range.mp (List.mem_filter.mp hs).1,e0,rfl⟩
theorem xO {m:D}(h:m∈doL p S w++Qz p w++Q0 p w):Mv p S w m:=by
 rcases List.mem_append.mp h with h|h
 ·rcases List.mem_append.mp h with h|h
  ·obtain ⟨s,hs,h⟩:=List.mem_flatMap.mp h;obtain ⟨c,hc,h⟩:=List.mem_flatMap.mp h;exact Or.inl ⟨s,c,List.mem_range.mp hs,hc,List.mem_singleton.mp h⟩
  ·obtain ⟨s,t,h1,h2,h3,e⟩:=aU h;exact Or.inr (Or.inl ⟨s,t,h1,h2,h3,by rw [← e];exact h,e⟩)
 ·obtain ⟨s,h1,h2,e⟩:=Oe h;exact Or.inr (Or.inr ⟨s,h1,h2,by rw [← e];exact h,e⟩)
theorem Yr (k:Nat) (wo:w.ok p) {m:D}(hm:Mv p S w m) (f:∀ h',Ext [] mh h'->P (.bl true) h'):wV (Ac (Gk (k+3)) fuel f78 [m] mh) P:=by
 refine Aj (Acn (k+2)) oK.1 oK.2 rfl ?_;show wS (b78 (k+2)) [some m] mh _;unfold b78;rcases hm with ⟨h,c,hh,hc,rfl⟩|⟨s,t,hs,ht,hx,hi,rfl⟩|⟨h,hh,hy,hi,rfl⟩
 ·obtain ⟨s,es,hcs,cf⟩:=Gp wo hh hc;unfold doD
  walk_at "x0"
  refine Bp (ds:=_) (by intro z z';cases z') rfl ?_
  walk_at "x0"
  refine Bp (ds:=_) (by intro z z';cases z') rfl ?_
  walk_at "x0"
  refine Av (Hf (k+1) _ _) ⟨_,rfl,fun _=>?_,fun e=>by cases e⟩
  walk_at "x0"
  exact Yq k cf f
 ·unfold loD
  walk_at "x0"
  refine Bp (ds:=_) (by intro z z';cases z') rfl ?_
  walk_at "x0"
  refine Bp (ds:=_) (by intro z z';cases z') rfl ?_
  walk_at "x0"
  refine Av (Hf (k+1) _ _) ⟨_,rfl,fun _=>?_,fun e=>by cases e⟩
  walk_at "x0"
  exact Av (Hf (k+1) _ _) (f _ Ext.refl)
 ·unfold faD
  walk_at "x0"
  refine Bp (ds:=_) (by intro z z';cases z') rfl ?_
  walk_at "x0"
  refine Bp (ds:=_) (by intro z z';cases z') rfl ?_
  walk_at "x0"
  exact Av (Hf (k+1) _ _) (f _ Ext.refl)
theorem Jj (k:Nat) (g:Prg p S) (wo:w.ok p) {m:D}(hm:Mv p S w m) (f:∀ h',Ext [] mh h'->P (.bl true) h'):wV (Ac (Gk (k+5)) fuel f77 [p.d,w.d,m] mh) P:=by
 refine Aj (Mf (k+4)) Ez.1 Ez.2 rfl ?_;show wS (b77 (k+4)) [some p.d,some w.d,some m] mh _;unfold b77;refine Ao (Cv (Dk (Dv (Bu (Am (Ax (by with_unfolding_all rfl) (Ai ?_)))))));refine Yr (k+1) wo hm fun h1 x1=>?_
 rcases hm with ⟨h,c,hh,hc,rfl⟩|⟨s,t,hs,ht,hx,hi,rfl⟩|⟨h,hh,hy,hi,rfl⟩
 ·unfold doD
  walk_at "x0"
  refine Dm (a:=.tup (w.ps.map Pt.d)) ?_
  walk_at "x0"
  refine Bp (ds:=w.ps.map Pt.d) (by intro z z';cases z') rfl ?_;rw [List.length_map,wo.lp];refine Gj ⟨_,rfl,fun _=>?_,fun e=>absurd (of_decide_eq_false e) (by omega)⟩
  walk_at "x0"
  refine Im k h g wo hh fun j h2 x2 lj gj=>?_
  refine Ul gj (fun y hy=>?_) hc ?_
  ·obtain ⟨_,_,_,cf⟩:=Gp wo hh hy;exact Uo (n:=58) cf
  ·walk_at "x0"
   exact f _ (x1.trans x2)
 ·unfold loD
  walk_at "x0"
  refine Qi (k+2) g.po wo fun j h2 x2 gj=>?_
  refine Ul gj (fun y hy=>?_) hi ?_
  ·obtain ⟨_,_,_,_,_,rfl⟩:=aU hy
   kernel_rfl
  ·walk_at "x0"
   exact f _ (x1.trans x2)
 ·unfold faD
  walk_at "x0"
  refine Ml (k+2) g.po wo fun j h2 x2 gj=>?_
  refine Ul gj (fun y hy=>?_) hi ?_
  ·obtain ⟨_,_,_,rfl⟩:=Oe hy
   kernel_rfl
  ·walk_at "x0"
   exact f _ (x1.trans x2)
theorem dH (k:Nat) (g:Prg p S) (wo:w.ok p) {m:D}(hm:Mv p S w m) (f:∀ (w':Wd) h',w'.ok p->Ext [] mh h'->P w'.d h'):wV (Ac (Gk (k+7)) fuel f76 [p.d,w.d,m] mh) P:=by
 refine Aj (pC (k+6)) Ud.1 Ud.2 rfl ?_;show wS (b76 (k+6)) [some p.d,some w.d,some m,none] mh _;unfold b76;rcases hm with ⟨h,c,hh,hc,rfl⟩|⟨s,t,hs,ht,hx,hi,rfl⟩|⟨h,hh,hy,hi,rfl⟩
 ·obtain ⟨s,es,hcs,cf⟩:=Gp wo hh hc;unfold doD
  walk_at "x0"
  refine Il (k+3) h g wo hh ?_;rw [es];refine ⟨_,_,_,_,_,rfl,rfl,by decide +kernel,Ai (Av (Yo (k+5) (spD s) mh) ?_)⟩
  walk_at "x0"
  exact Wh k h g wo hh es hcs fun w' h' o _ _ x=>f w' h' o x
 ·unfold loD
  walk_at "x0"
  exact pM (k+3) s t g.po wo hs ht hx fun w' o=>f _ _ o Ext.refl
 ·unfold faD
  walk_at "x0"
  exact pN (k+3) h g.po wo hh hy fun w' o=>f _ _ o Ext.refl
theorem Kh (k h:Nat) (g:Prg p S) (wo:w.ok p) (hh:h < p.plays.length) {s:Sp}(es:stW p S w h=some s) {c:D}(hc:c∈chs p w h s) (f:∀ (w':Wd) h',w'.ok p->0<=(eff p w h c s).1.pl->w'=w.ap h (eff p w h c s)->Ext [] mh h'->P w'.d h'):wV (Ac (Gk (k+7)) fuel f76 [p.d,w.d,doD h c] mh) P:=by
 refine Aj (pC (k+6)) Ud.1 Ud.2 rfl ?_;show wS (b76 (k+6)) [some p.d,some w.d,some (doD h c),none] mh _;unfold b76;unfold doD
 walk_at "x0"
 refine Il (k+3) h g wo hh ?_;rw [es];refine ⟨_,_,_,_,_,rfl,rfl,by decide +kernel,Ai (Av (Yo (k+5) (spD s) mh) ?_)⟩
 walk_at "x0"
 exact Wh k h g wo hh es hc f
theorem Ys {h:Nat}{s:Sp}(es:stW p S w h=some s) {c:D}(hc:c∈chs p w h s):c∈chW p S w h:=by unfold chW;rw [es];exact hc
theorem Og (k h:Nat) (g:Prg p S) (wo:w.ok p) (hh:h < p.plays.length) {s:Sp}(es:stW p S w h=some s) {c:D}(hc:c∈chs p w h s) (f:∀ (w':Wd) h',w'.ok p->0<=(eff p w h c s).1.pl->w'=w.ap h (eff p w h c s)->Ext [] mh h'->P w'.d h'):wV (Ac (Gk (k+8)) fuel f75 [p.d,w.d,doD h c] mh) P:=by
 refine Aj (Acm (k+7)) oJ.1 oJ.2 rfl ?_;show wS (b75 (k+7)) [some p.d,some w.d,some (doD h c)] mh _;unfold b75;refine Ao (Cv (Dk (Dv (Bu (Am (Ax (by with_unfolding_all rfl) (Am (Ax (by with_unfolding_all rfl) (Am (Ax (by with_unfolding_all rfl) (Ai ?_)))))))))));refine Jj (k+2) g wo (Or.inl ⟨h,c,hh,Ys es hc,rfl⟩) fun h1 x1=>?_
 walk_at "x0"
 exact Kh k h g wo hh es hc fun w' h2 o pl e x2=>f _ _ o pl e (x1.trans x2)
end
section
variable {p:Pg}{w:Wd}{S:List (List Sp)}{h h':Nat}{e e':Pt×Ed}
theorem xP {u:Wd}{x:Nat}{d:Ed}:(u.ed h d).pt x=u.pt x:=by cases d <;> rfl
theorem aV {u:Wd}{d:Ed}:(u.ed h d).ps=u.ps:=by cases d <;> rfl
theorem Nh {u:Wd}{d:Ed}:(u.ed h d).x=u.x/\(u.ed h d).y=u.y:=by cases d <;> exact ⟨rfl,rfl⟩
theorem Eb (hne:h≠h'):(w.ap h e).pt h'=w.pt h':=by
 unfold Wd.ap;rw [xP];unfold Wd.pt Wd.setP;dsimp only;rw [List.getElem?_set_ne hne]
theorem Afp (hh:h < w.ps.length):(w.ap h e).pt h=e.1:=by
 unfold Wd.ap;rw [xP];unfold Wd.pt Wd.setP;dsimp only;rw [List.getElem?_set_self hh];rfl
theorem Ac6 (hh:h < w.ps.length) (h0:0<=(w.pt h).pl) (h1:0<=e.1.pl) (x:Nat):Ym ((w.ap h e).pt x)=Ym (w.pt x):=by
 by_cases z:h=x
 ·subst z;rw [Afp hh];unfold Ym;rw [beq_eq_false_iff_ne.mpr (by omega),beq_eq_false_iff_ne.mpr (by omega)]
 ·rw [Eb z]
theorem aW (hh:h < w.ps.length) (h0:0<=(w.pt h).pl) (h1:0<=e.1.pl) (to:Int):Ju (w.ap h e) to=Ju w to:=by
 unfold Ju;rw [Ac6 hh h0 h1]
theorem R4 (wo:w.ok p) {s t:Nat}(hs:s < p.plays.length) (ht:t < p.plays.length) (l:List Lt) (s' t':Nat):(w.setC s t l).cell s' t'=if s=s'/\t=t' then l else w.cell s' t':=by
 have hl:t < w.rs.length:=by rw [wo.lr];exact ht
 unfold Wd.cell Wd.setC;dsimp only
 by_cases et:t=t'
 ·subst et;rw [List.getElem?_set_self hl];have hv:=(wo.rs (w.rs[t]) (List.getElem_mem hl)).1;rw [List.getElem?_eq_getElem hl];simp only [Option.getD_some]
  by_cases es:s=s'
  ·subst es;rw [List.getElem?_set_self (by rw [hv];exact hs),if_pos ⟨rfl,trivial⟩];rfl
  ·rw [List.getElem?_set_ne es,if_neg fun z=>es z.1]
 ·rw [List.getElem?_set_ne et,if_neg fun z=>et z.2]
noncomputable def Ev (p:Pg) (w:Wd) (h:Nat):Ed->Prop
 | .no=>True
 | .app t _=>t < p.plays.length
 | .pop s=>s < p.plays.length/\w.cell s h≠[]
noncomputable def edF (h:Nat):Ed->Nat->Nat->List Lt->List Lt
 | .no,_,_,l=>l
 | .app t0 m,s,t,l=>if h=s/\t0=t then l++[m] else l
 | .pop s0,s,t,l=>if s0=s/\h=t then l.tail else l
theorem Hu (wo:w.ok p) (hh:h < p.plays.length) {ev:∀ t m,e.2=.app t m->t < p.plays.length}{ep:∀ s,e.2=.pop s->s < p.plays.length}(s t:Nat):(w.ap h e).cell s t=edF h e.2 s t (w.cell s t):=by
 obtain ⟨X,d⟩:=e;have key:((w.setC 0 0 []).ok p->True):=fun _=>trivial
 cases d with
 | no=>rfl
 | app t0 m =>
  have a:=R4 wo hh (ev t0 m rfl) (w.cell h t0++[m]) s t;refine Eq.trans (show _=(w.setC h t0 (w.cell h t0++[m])).cell s t from rfl) (a.trans ?_);show _=if h=s/\t0=t then w.cell s t++[m] else w.cell s t
  by_cases z:h=s/\t0=t
  ·rw [if_pos z,if_pos z,z.1,z.2]
  ·rw [if_neg z,if_neg z]
 | pop s0 =>
  have a:=R4 wo (ep s0 rfl) hh (w.cell s0 h).tail s t;refine Eq.trans (show _=(w.setC s0 h (w.cell s0 h).tail).cell s t from rfl) (a.trans ?_);show _=if s0=s/\h=t then (w.cell s t).tail else w.cell s t
  by_cases z:s0=s/\h=t
  ·rw [if_pos z,if_pos z,z.1,z.2]
  ·rw [if_neg z,if_neg z]
theorem Ev.app (v:Ev p w h e.2):∀ t m,e.2=.app t m->t < p.plays.length:=fun t m z=>by rw [z] at v;exact v
theorem Ev.pop (v:Ev p w h e.2):∀ s,e.2=.pop s->s < p.plays.length:=fun s z=>by rw [z] at v;exact v.1
theorem Ac7 {u:Wd}(wo:w.ok p) (uo:u.ok p) (e1:w.ps=u.ps) (e2:w.x=u.x) (e3:w.y=u.y) (ec:∀ s t,s < p.plays.length->t < p.plays.length->w.cell s t=u.cell s t):w=u:=by
 obtain ⟨a,b,c,d⟩:=w;obtain ⟨a',b',c',d'⟩:=u;have er:b=b':=by
  refine List.ext_getElem (by rw [show b.length=_ from wo.lr,show b'.length=_ from uo.lr]) fun t h1 h2=>?_
  have l1:=(wo.rs b[t] (List.getElem_mem h1)).1;have l2:=(uo.rs b'[t] (List.getElem_mem h2)).1;have ht:t < p.plays.length:=by rw [← wo.lr];exact h1
  refine List.ext_getElem (by rw [l1,l2]) fun s h3 h4=>?_
  have hs:s < p.plays.length:=by rw [l1] at h3;exact h3
  have:=ec s t hs ht;unfold Wd.cell at this;dsimp only at this;rw [List.getElem?_eq_getElem h1,List.getElem?_eq_getElem h2] at this;simp only [Option.getD_some] at this;rw [List.getElem?_eq_getElem h3,List.getElem?_eq_getElem h4] at this;exact this
 simp only at e1 e2 e3;rw [e1,e2,e3,er]
theorem Wj {l:List Lt}(h:l≠[]) (m:Lt):(l++[m]).tail=l.tail++[m]:=by
 cases l with
 | nil=>exact absurd rfl h
 | cons a b=>rfl
theorem pQ {d d':Ed}(hne:h≠h') (v:Ev p w h d) (v':Ev p w h' d') (s t:Nat):edF h' d' s t (edF h d s t (w.cell s t))=edF h d s t (edF h' d' s t (w.cell s t)):=by
 cases d with
 | no=>rfl
 | app t0 m =>
  cases d' with
  | no=>rfl
  | app t1 m1 =>
   show (if _ then _ else _)=if _ then _ else _
   dsimp only [edF]
   by_cases a:h=s/\t0=t
   ·rw [if_pos a,if_neg (fun b=>hne (a.1.trans b.1.symm)),if_pos a,if_neg (fun b=>hne (a.1.trans b.1.symm))]
   ·rw [if_neg a,if_neg a]
  | pop s1 =>
   show (if _ then _ else _)=if _ then _ else _
   dsimp only [edF]
   by_cases a:h=s/\t0=t
   ·rw [if_pos a,if_pos a]
    by_cases b:s1=s/\h'=t
    ·rw [if_pos b,if_pos b];exact Wj (by have:=v'.2;rw [b.1,b.2] at this;exact this) m
    ·rw [if_neg b,if_neg b]
   ·rw [if_neg a,if_neg a]
 | pop s0 =>
  cases d' with
  | no=>rfl
  | app t1 m1 =>
   show (if _ then _ else _)=if _ then _ else _
   dsimp only [edF]
   by_cases a:h'=s/\t1=t
   ·rw [if_pos a,if_pos a]
    by_cases b:s0=s/\h=t
    ·rw [if_pos b,if_pos b];exact (Wj (by have:=v.2;rw [b.1,b.2] at this;exact this) m1).symm
    ·rw [if_neg b,if_neg b]
   ·rw [if_neg a,if_neg a]
  | pop s1 =>
   show (if _ then _ else _)=if _ then _ else _
   dsimp only [edF]
   by_cases a:s0=s/\h=t
   ·rw [if_pos a,if_neg (fun b=>hne (a.2.trans b.2.symm)),if_pos a,if_neg (fun b=>hne (a.2.trans b.2.symm))]
   ·rw [if_neg a,if_neg a]
theorem vV (hne:h≠h') (hh:h < p.plays.length) (hh':h' < p.plays.length) (wo:w.ok p) (o1:(w.ap h e).ok p) (o2:(w.ap h' e').ok p) (o12:((w.ap h e).ap h' e').ok p) (o21:((w.ap h' e').ap h e).ok p) (v:Ev p w h e.2) (v':Ev p w h' e'.2):(w.ap h e).ap h' e'=(w.ap h' e').ap h e:=by
 refine Ac7 o12 o21 ?_ ?_ ?_ fun s t _ _=>?_
 ·unfold Wd.ap;rw [aV,aV];show ((w.setP h e.1).ed h e.2).ps.set h' e'.1=((w.setP h' e'.1).ed h' e'.2).ps.set h e.1;rw [aV,aV];exact List.set_comm _ _ hne
 ·unfold Wd.ap;rw [Nh.1,Nh.1];show ((w.setP h e.1).ed h e.2).x=((w.setP h' e'.1).ed h' e'.2).x;rw [Nh.1,Nh.1];rfl
 ·unfold Wd.ap;rw [Nh.2,Nh.2];show ((w.setP h e.1).ed h e.2).y=((w.setP h' e'.1).ed h' e'.2).y;rw [Nh.2,Nh.2];rfl
 ·rw [Hu o1 hh' (ev:=v'.app) (ep:=v'.pop),Hu o2 hh (ev:=v.app) (ep:=v.pop),Hu wo hh (ev:=v.app) (ep:=v.pop),Hu wo hh' (ev:=v'.app) (ep:=v'.pop)];exact pQ hne v v' s t
theorem Yt (g:Prg p S) (wo:w.ok p) (hh:h < p.plays.length) {s:Sp}(es:stW p S w h=some s) {c:D}(hc:c∈chs p w h s):Ev p w h (eff p w h c s).2:=by
 have qo:=Ld wo hh;cases s with
 | send a kd b c' =>
  show Ev p w h (vU _ _ _);unfold vU;split
  ·exact trivial
  ·rename_i z;unfold Ju at z;have nk:=Pt.nm_ok (a:=a) qo;have hn:¬ (w.pt h).nm a=-1:=fun e=>z (by rw [e];rfl)
   exact (Mi nk hn).2
 | take bx ls =>
  show Ev p w h (Nq _ _ _ _).2;rcases G9 wo hh hc with ⟨rfl,h0⟩|⟨s,l,r,hs,ec,h0,rfl⟩
  ·dsimp only [Nq];split
   ·rw [if_pos (by decide)];exact trivial
   ·exact trivial
  ·dsimp only [Nq];split
   ·split
    ·exact trivial
    ·rw [Int.toNat_natCast,ec];exact ⟨hs,by rw [ec];intro z;cases z⟩
   ·exact trivial
 | _=>exact trivial
theorem Wk {d:Ed}{s t:Nat}{l:Lt}{r:List Lt}(hne:h≠t):∃ r',edF h d s t (l::r)=l::r':=by
 cases d with
 | no=>exact ⟨_,rfl⟩
 | app t0 m =>
  dsimp only [edF];split
  ·exact ⟨_,rfl⟩
  ·exact ⟨_,rfl⟩
 | pop s0 =>
  dsimp only [edF];rw [if_neg fun z=>hne z.2];exact ⟨_,rfl⟩
theorem Yu (hne:h≠h') (wo:w.ok p) (hh:h < p.plays.length) (hh':h' < p.plays.length) (h0:0<=(w.pt h).pl) (h1:0<=e.1.pl) (v:Ev p w h e.2) {s:Sp}{c:D}(hc:c∈chs p w h' s):eff p (w.ap h e) h' c s=eff p w h' c s:=by
 have hl:h < w.ps.length:=by rw [wo.lp];exact hh
 cases s with
 | send a kd b c' =>
  dsimp only [eff];rw [Eb hne,aW hl h0 h1]
 | take bx ls =>
  dsimp only [eff];rw [Eb hne];rcases G9 wo hh' hc with ⟨rfl,h0⟩|⟨s,l,r,hs,ec,h0,rfl⟩
  ·dsimp only [Nq];split
   ·rw [if_pos (by decide),if_pos (by decide)]
   ·rfl
  ·dsimp only [Nq];split
   ·split
    ·rfl
    ·rw [Int.toNat_natCast,Hu wo hh (ev:=v.app) (ep:=v.pop),ec];obtain ⟨r',e'⟩:=Wk (h:=h) (d:=e.2) (s:=s) (l:=l) (r:=r) hne;rw [e']
   ·rfl
 | _ =>
  dsimp only [eff];rw [Eb hne]
theorem pR (hne:h≠h'):stW p S (w.ap h e) h'=stW p S w h':=by unfold stW;rw [Eb hne]
theorem Yv (hne:h≠h') (wo:w.ok p) (hh:h < p.plays.length) (hh':h' < p.plays.length) (h0:0<=(w.pt h).pl) (h1:0<=e.1.pl) (v:Ev p w h e.2) {s:Sp}{c:D}(hc:c∈chs p w h' s):c∈chs p (w.ap h e) h' s:=by
 have hl:h < w.ps.length:=by rw [wo.lp];exact hh
 cases s with
 | send a kd b c' =>
  have hc:c∈(if Jq p w h' a=true then [D.int 0] else []):=hc;show c∈(if Jq p (w.ap h e) h' a=true then [D.int 0] else []);split at hc
  ·rename_i z;rw [if_pos]
   ·exact hc
   ·unfold Jq at z ⊢;rw [Eb hne,aW hl h0 h1];rcases (Bool.or_eq_true _ _).mp z with z|z
    ·rw [z];rfl
    ·have z:=of_decide_eq_true z;rw [Hu wo hh (ev:=v.app) (ep:=v.pop)];have:(edF h e.2 h' ((w.pt h').nm a).toNat (w.cell h' ((w.pt h').nm a).toNat)).length<=(w.cell h' ((w.pt h').nm a).toNat).length:=by
      cases e.2 with
      | no=>exact Nat.le_refl _
      | app t0 m =>
       dsimp only [edF];rw [if_neg fun z=>hne z.1];exact Nat.le_refl _
      | pop s0 =>
       dsimp only [edF];split
       ·rw [List.length_tail];omega
       ·exact Nat.le_refl _
     rw [decide_eq_true (Nat.lt_of_le_of_lt this z),Bool.or_true]
  ·cases hc
 | take bx ls =>
  have hc:c∈Jv p w h' bx ls:=hc;show c∈Jv p (w.ap h e) h' bx ls;unfold Jv at hc ⊢;have eb:Gn (w.ap h e) h' ls=Gn w h' ls:=by unfold Gn;rw [Eb hne]
  have er:Ef p (w.ap h e) h' bx=Ef p w h' bx:=by unfold Ef;rw [Eb hne]
  rw [eb,er];rcases List.mem_append.mp hc with hc|hc
  ·exact List.mem_append_left _ hc
  ·refine List.mem_append_right _ ?_;obtain ⟨s,hs,hc⟩:=List.mem_flatMap.mp hc;refine List.mem_flatMap.mpr ⟨s,hs,?_⟩;cases ec:w.cell s h' with
   | nil=>rw [Wc ec] at hc;cases hc
   | cons l r =>
    obtain ⟨r',e'⟩:=Wk (h:=h) (d:=e.2) (s:=s) (l:=l) (r:=r) hne;have e2:(w.ap h e).cell s h'=l::r':=by rw [Hu wo hh (ev:=v.app) (ep:=v.pop),ec,e']
    by_cases hk:l.1∈K8 ls
    ·rw [Uj ec hk] at hc;rw [Uj e2 hk];exact hc
    ·rw [aN ec hk] at hc;cases hc
 | out a gg qq =>
  have hc:c∈Mj ((w.pt h').se gg):=hc;show c∈Mj (((w.ap h e).pt h').se gg);rw [Eb hne];exact hc
 | _=>exact hc
end
theorem R5 {f:D->Option PyData}{a:PyData}:∀ {l:List D}{as:List PyData},Df f l=some as->a∈as->∃ x,x∈l/\f x=some a
 | [],as,e,m=>by simp only [Df] at e;cases e;cases m
 | d::r,as,e,m=>by
  simp only [Df] at e;cases e1:f d with
  | none=>rw [e1] at e;cases e
  | some b =>
   rw [e1] at e;cases e2:Df f r with
   | none=>rw [e2] at e;cases e
   | some bs =>
    rw [e2] at e;cases e;rcases List.mem_cons.mp m with rfl|m
    ·exact ⟨d,List.mem_cons_self,e1⟩
    ·obtain ⟨x,hx,ex⟩:=R5 e2 m;exact ⟨x,List.mem_cons_of_mem _ hx,ex⟩
theorem pU {mh:MH}{P:D->MH->Prop}{j:Nat}{ds:List D}{x:D}{b:PyData}(gj:mh[j]?=some (.lst ds)) (hd:∀ y∈ds,dat 59 y=true) (eb:py mh 60 x=some b) (hx:∀ y∈ds,∀ a,py mh 59 y=some a->PyData.eqv a b=false/\PyData.eqv b a=false) (q:P (.bl false) mh):wV (inD false x (.ref j) mh) P:=by
 obtain ⟨as,e,_⟩:=N7 mh 59 ds (Ji hd);refine aB (k:=false) ?_ q;unfold inB;have p1:py mh 60 (.ref j)=some (.list as):=by
  show (match mh[j]? with | some (.lst o)=>(match Df (py mh 59) o with | some xs=>some (PyData.list xs) | none=>none) | _=>none)=_;rw [gj];dsimp only;rw [e]
 rw [p1,eb];dsimp only;refine congrArg some (List.any_eq_false.mpr fun a ha=>?_);obtain ⟨y,hy,ey⟩:=R5 e ha;have:=hx y hy a ey
 first
  | (rw [this.1];decide)
  | (rw [this.2];decide)
section
variable {mh:MH}{P:D->MH->Prop}{p:Pg}{w:Wd}{S:List (List Sp)}
theorem Ac8 (k:Nat) (mh:MH):Ac (Gk (k+3)) fuel f78 [.tup [.str "go",.int 0,.int 0]] mh=some (.bl false,mh):=by kernel_rfl
theorem Afq (k:Nat) (b:Bool) (mh:MH):Ac (Gk (k+3)) fuel f78 [.tup [.str "do",.bl b,.int 0]] mh=some (.bl false,mh):=by kernel_rfl
theorem Afr (k:Nat) (i:Int) (b:Bool) (mh:MH):Ac (Gk (k+3)) fuel f78 [.tup [.str "do",.int i,.bl b]] mh=some (.bl false,mh):=by kernel_rfl
theorem Afs (k:Nat) (a b c d:D) (mh:MH):Ac (Gk (k+3)) fuel f78 [.tup [a,b,c,d]] mh=some (.bl false,mh):=by kernel_rfl
theorem Aft (k:Nat) (a b:D) (mh:MH):Ac (Gk (k+3)) fuel f78 [.tup [.str "fall",a,b]] mh=some (.bl false,mh):=by kernel_rfl
theorem pW (k:Nat) (i j:Int) (mh:MH):Ac (Gk (k+3)) fuel f78 [.tup [.str "do",.int i,.int j]] mh=some (.bl true,mh):=by kernel_rfl
theorem Afu (k:Nat) (i:Int) (mh:MH):Ac (Gk (k+3)) fuel f78 [.tup [.str "fall",.int i]] mh=some (.bl true,mh):=by kernel_rfl
theorem Io (k:Nat) {m:D}(h:∀ mh,Ac (Gk (k+4)) fuel f78 [m] mh=some (.bl false,mh)) (f:P (.bl false) mh):wV (Ac (Gk (k+5)) fuel f77 [p.d,w.d,m] mh) P:=by
 refine Aj (Mf (k+4)) Ez.1 Ez.2 rfl ?_;show wS (b77 (k+4)) [some p.d,some w.d,some m] mh _;unfold b77;refine Ao (Cv (Dk (Dv (Bu (Am (Ax (by with_unfolding_all rfl) (Ai ?_)))))));refine Av (h mh) ?_
 walk_at "x0"
 exact f
theorem vW (k:Nat) (wo:w.ok p) (f:P (.bl false) mh):wV (Ac (Gk (k+5)) fuel f77 [p.d,w.d,.tup [.str "do",Ae p.plays.length,.int 0]] mh) P:=by
 refine Aj (Mf (k+4)) Ez.1 Ez.2 rfl ?_
 show wS (b77 (k+4)) [some p.d,some w.d,some (.tup [.str "do",Ae p.plays.length,.int 0])] mh _;unfold b77;refine Ao (Cv (Dk (Dv (Bu (Am (Ax (by with_unfolding_all rfl) (Ai ?_)))))));refine Av (pW (k+1) _ _ mh) ?_
 walk_at "x0"
 refine Dm (a:=.tup (w.ps.map Pt.d)) ?_
 walk_at "x0"
 refine Bp (ds:=w.ps.map Pt.d) (by intro z z';cases z') rfl ?_;rw [List.length_map,wo.lp];refine Gj ⟨_,rfl,fun e=>absurd (of_decide_eq_true e) (by omega),fun _=>?_⟩
 walk_at "x0"
 exact f
theorem vX (k:Nat) (f:P (.bl false) mh):wV (Ac (Gk (k+5)) fuel f77 [p.d,w.d,.tup [.str "do",.int (-1),.int 0]] mh) P:=by
 refine Aj (Mf (k+4)) Ez.1 Ez.2 rfl ?_
 show wS (b77 (k+4)) [some p.d,some w.d,some (.tup [.str "do",.int (-1),.int 0])] mh _;unfold b77;refine Ao (Cv (Dk (Dv (Bu (Am (Ax (by with_unfolding_all rfl) (Ai ?_)))))));refine Av (pW (k+1) _ _ mh) ?_
 walk_at "x0"
 exact f
theorem dI (k:Nat) (g:Prg p S) (wo:w.ok p) (f:∀ h',Ext [] mh h'->P (.bl false) h'):wV (Ac (Gk (k+5)) fuel f77 [p.d,w.d,faD p.plays.length] mh) P:=by
 refine Aj (Mf (k+4)) Ez.1 Ez.2 rfl ?_;show wS (b77 (k+4)) [some p.d,some w.d,some (faD p.plays.length)] mh _;unfold b77;refine Ao (Cv (Dk (Dv (Bu (Am (Ax (by with_unfolding_all rfl) (Ai ?_)))))));refine Av (Afu (k+1) _ mh) ?_;unfold faD
 walk_at "x0"
 refine Ml (k+2) g.po wo fun j h2 x2 gj=>?_
 refine pU (b:=.tuple [.str "fall",.int p.plays.length]) gj (fun y hy=>?_) (by kernel_rfl) (fun y hy a ea=>?_) ?_
 ·obtain ⟨_,_,_,rfl⟩:=Oe hy
  kernel_rfl
 ·obtain ⟨i,hi,_,rfl⟩:=Oe hy
  have e0:py h2 59 (faD i)=some (PyData.tuple [.str "fall",.int (i:Nat)]):=by kernel_rfl
  rw [e0] at ea;cases ea;have e1:((i:Int)==(p.plays.length:Int))=false:=beq_eq_false_iff_ne.mpr (by omega);have e2:((p.plays.length:Int)==(i:Int))=false:=beq_eq_false_iff_ne.mpr (by omega);constructor <;> simp [PyData.eqv,PyData.eqvAll,e1,e2] <;> omega
 ·walk_at "x0"
  exact f _ x2
theorem vY (k h:Nat) (i:Int) (g:Prg p S) (wo:w.ok p) (hh:h < p.plays.length) (hi:∀ y∈chW p S w h,y≠.int i) (f:∀ h',Ext [] mh h'->P (.bl false) h'):wV (Ac (Gk (k+5)) fuel f77 [p.d,w.d,doD h (.int i)] mh) P:=by
 refine Aj (Mf (k+4)) Ez.1 Ez.2 rfl ?_;show wS (b77 (k+4)) [some p.d,some w.d,some (doD h (.int i))] mh _;unfold b77;refine Ao (Cv (Dk (Dv (Bu (Am (Ax (by with_unfolding_all rfl) (Ai ?_)))))));refine Av (pW (k+1) _ _ mh) ?_;unfold doD
 walk_at "x0"
 refine Dm (a:=.tup (w.ps.map Pt.d)) ?_
 walk_at "x0"
 refine Bp (ds:=w.ps.map Pt.d) (by intro z z';cases z') rfl ?_;rw [List.length_map,wo.lp];refine Gj ⟨_,rfl,fun _=>?_,fun e=>absurd (of_decide_eq_false e) (by omega)⟩
 walk_at "x0"
 refine Im k h g wo hh fun j h2 x2 lj gj=>?_
 refine pU (b:=.int i) gj (fun y hy=>?_) rfl (fun y hy a ea=>?_) ?_
 ·obtain ⟨_,_,_,cf⟩:=Gp wo hh hy;exact Uo (n:=58) cf
 ·obtain ⟨_,_,_,cf⟩:=Gp wo hh hy;have hn:=hi y hy;rcases cf with ⟨n,rfl⟩|⟨xs,_,rfl⟩
  ·have ea:some (PyData.int n)=some a:=ea;cases ea;have:n≠i:=fun e=>hn (by rw [e])
   have e1:(n==i)=false:=beq_eq_false_iff_ne.mpr this;have e2:(i==n)=false:=beq_eq_false_iff_ne.mpr this.symm;constructor <;> simp [PyData.eqv,e1,e2] <;> omega
  ·have ea:(match Df (py h2 58) (xs.map D.int) with | some ys=>some (PyData.tuple ys) | none=>none)=some a:=ea;rw [Ja] at ea;cases ea;constructor <;> simp [PyData.eqv]
 ·walk_at "x0"
  exact f _ x2
noncomputable def Wr (p:Pg) (S:List (List Sp)) (w:Wd) (m:D):Prop:=m=.tup [.str "do",Ae p.plays.length,.int 0]\/m=.tup [.str "do",.int (-1),.int 0]\/(∃ h i,h < p.plays.length/\(∀ y∈chW p S w h,y≠.int i)/\m=doD h (.int i))\/(∃ a b c d,m=.tup [a,b,c,d])\/(∃ a b,m=.tup [.str "fall",a,b])\/m=.tup [.str "go",.int 0,.int 0]\/m=faD p.plays.length\/(∃ b,m=.tup [.str "do",.bl b,.int 0])\/∃ (h:Nat) (b:Bool),m=.tup [.str "do",Ae h,.bl b]
theorem Wl (k:Nat) (g:Prg p S) (wo:w.ok p) {m:D}(hm:Wr p S w m) (f:∀ h',Ext [] mh h'->P (.bl false) h'):wV (Ac (Gk (k+5)) fuel f77 [p.d,w.d,m] mh) P:=by
 rcases hm with rfl|rfl|⟨h,i,hh,hi,rfl⟩|⟨a,b,c,d,rfl⟩|⟨a,b,rfl⟩|rfl|rfl|⟨b,rfl⟩|⟨h,b,rfl⟩
 ·exact vW k wo (f _ Ext.refl)
 ·exact vX k (f _ Ext.refl)
 ·exact vY k h i g wo hh hi f
 ·exact Io k (fun mh=>Afs (k+1) _ _ _ _ mh) (f _ Ext.refl)
 ·exact Io k (fun mh=>Aft (k+1) _ _ mh) (f _ Ext.refl)
 ·exact Io k (fun mh=>Ac8 (k+1) mh) (f _ Ext.refl)
 ·exact dI k g wo f
 ·exact Io k (fun mh=>Afq (k+1) _ mh) (f _ Ext.refl)
 ·exact Io k (fun mh=>Afr (k+1) _ _ mh) (f _ Ext.refl)
end
theorem Uq {n:Nat}{ds:List D}(h:∀ x∈ds,dat n x=true):dat (n+1) (.tup ds)=true:=Ji h
theorem Lf {α:Type}{n:Nat}{l:List α}{F:α->D}(h:∀ x∈l,dat n (F x)=true):dat (n+1) (.tup (l.map F))=true:=Ji fun x hx=>by
 obtain ⟨y,hy,rfl⟩:=List.mem_map.mp hx;exact h y hy
theorem Ac9 (q:Pt):dat 58 q.d=true:=by kernel_rfl
theorem Ada (l:Lt):dat 56 (ltD l)=true:=by kernel_rfl
theorem Adb (l:List Lt):dat 57 (lsD l)=true:=Lf fun x _=>Ada x
theorem vZ (l:List (List Lt)):dat 58 (Qx l)=true:=Lf fun x _=>Adb x
theorem Adc (w:Wd):dat 59 (.tup (w.ps.map Pt.d))=true:=Lf fun x _=>Ac9 x
theorem Ade (w:Wd):dat 59 (.tup (w.rs.map Qx))=true:=Lf fun x _=>vZ x
theorem Adf (w:Wd):dat 59 (.tup [.int w.x,.int w.y])=true:=by kernel_rfl
theorem Yw (w:Wd):dat 60 w.d=true:=Uq fun x hx=>by
 simp only [List.mem_cons,List.mem_nil_iff,or_false] at hx;rcases hx with rfl|rfl|rfl
 ·exact Adc w
 ·exact Ade w
 ·exact Adf w
theorem eq_self (mh:MH) {d:D}(h:dat 60 d=true):eqB mh d d=some true:=by
 obtain ⟨a,ea,la⟩:=Ub mh 60 d h;unfold eqB;rw [ea];exact congrArg some (SeqAt.eqv_refl a la)
theorem Wm {f:D->Option PyData}:∀ {ds:List D},(∀ d∈ds,∃ y,f d=some y)->∃ ys,Df f ds=some ys/\ys.length=ds.length
 | [],_=>⟨[],rfl,rfl⟩
 | d::r,h=>by
  obtain ⟨y,e⟩:=h d (.head _);obtain ⟨ys,e2,e3⟩:=Wm fun x hx=>h x (.tail _ hx)
  exact ⟨y::ys,by simp only [Df,e,e2],by simp [e3]⟩
theorem Oh {a b:Nat}{ds:List D}{mh:MH}(e1:mh[a]?=some (.lst ds)) (e2:mh[b]?=some (.lst [])) (hd:∀ d∈ds,∃ y,py mh 59 d=some y):eqB mh (.ref a) (.ref b)=some ds.isEmpty:=by
 obtain ⟨ys,ey,el⟩:=Wm hd;have q1:py mh 60 (.ref a)=some (.list ys):=by
  show (match mh[a]? with | some (.lst o)=>(match Df (py mh 59) o with | some xs=>some (PyData.list xs) | none=>none) | _=>none)=_;rw [e1];dsimp only;rw [ey]
 have q2:py mh 60 (.ref b)=some (.list []):=by
  show (match mh[b]? with | some (.lst o)=>(match Df (py mh 59) o with | some xs=>some (PyData.list xs) | none=>none) | _=>none)=_;rw [e2];rfl
 unfold eqB;rw [q1,q2];dsimp only;cases ds with
 | nil=>cases ys with
  | nil=>rfl
  | cons _ _=>cases el
 | cons _ _=>cases ys with
  | nil=>cases el
  | cons _ _=>rfl
theorem Qj {mh:MH}{n:Nat}{d:D}(h:dat n d=true):∃ y,py mh n d=some y:=by
 obtain ⟨a,ea,_⟩:=Ub mh n d h;exact ⟨a,ea⟩
theorem aX (mh:MH) (i a b:Int):inB mh (.int i) (.tup [.int a,.int b])=some ((a==i) || (b==i)):=by
 have e2:py mh 60 (.tup [.int a,.int b])=some (.tuple [.int a,.int b]):=by kernel_rfl
 have e1:py mh 60 (.int i)=some (.int i):=rfl;unfold inB;rw [e1,e2];dsimp only;show some ((PyData.eqv (.int a) (.int i)) || ((PyData.eqv (.int b) (.int i)) || false))=_;rw [Bool.or_false];rfl
local macro_rules | `(tactic| walk_at "x5") => `(tactic| repeat (first | walk_at "s" | with_reducible refine Ht ?_ | with_reducible refine Fd (by simp) ?_ | with_reducible refine Dm ?_ | with_reducible refine Ga ?_ | with_reducible refine Dn ?_ | with_reducible refine G4 ?_ | with_reducible refine Ik ?_ | with_reducible refine Gi (by decide) (by decide) ?_ | with_reducible refine Cz (by decide) ?_ | with_reducible refine vK (by kernel_rfl) (by kernel_rfl) (by decide +kernel) ?_ | with_reducible refine vL (by kernel_rfl) (by kernel_rfl) (by decide +kernel) ?_))
section
variable {mh:MH}{P:D->MH->Prop}{p:Pg}{w:Wd}{S:List (List Sp)}
theorem Adg {m:D}(wo:w.ok p) (h:Mv p S w m):dat 59 m=true:=by
 rcases h with ⟨h,c,hh,hc,rfl⟩|⟨s,t,_,_,_,_,rfl⟩|⟨h,_,_,_,rfl⟩
 ·obtain ⟨_,_,_,cf⟩:=Gp wo hh hc;refine Uq fun x hx=>?_
  simp only [List.mem_cons,List.mem_nil_iff,or_false] at hx;rcases hx with rfl|rfl|rfl
  ·kernel_rfl
  ·exact Um _ _
  ·exact Uo (n:=57) cf
 ·kernel_rfl
 ·kernel_rfl
theorem Ge (k h:Nat) (c:D) (mh:MH):Ac (Gk (k+1)) fuel f74 [doD h c] mh=some (.int h,mh):=by kernel_rfl
theorem pX (k s t:Nat) (mh:MH):Ac (Gk (k+1)) fuel f74 [loD s t] mh=some (.int (-1),mh):=by kernel_rfl
theorem pY (k h:Nat) (mh:MH):Ac (Gk (k+1)) fuel f74 [faD h] mh=some (.int (-1),mh):=by kernel_rfl
theorem Adh {m:D}(hm:Mv p S w m):∃ i:Int,∀ k mh,Ac (Gk (k+1)) fuel f74 [m] mh=some (.int i,mh):=by
 rcases hm with ⟨h,c,hh,hc,rfl⟩|⟨s,t,hs,ht,hx,hi,rfl⟩|⟨h,hh,hy,hi,rfl⟩
 ·exact ⟨_,fun k mh=>Ge k h c mh⟩
 ·exact ⟨_,fun k mh=>pX k s t mh⟩
 ·exact ⟨_,fun k mh=>pY k h mh⟩
theorem pZ (k:Nat) (g:Prg p S) (wo:w.ok p) {m n:D}(hm:Wr p S w m) (f:∀ h',Ext [] mh h'->P .non h'):wV (Ac (Gk (k+8)) fuel f83 [p.d,w.d,m,n] mh) P:=by
 refine Aj (Ue (k+7)) Ii.1 Ii.2 rfl ?_;show wS (b83 (k+7)) [some p.d,some w.d,some m,some n] mh _;unfold b83;refine Ao (Cv (Kc (Dk (Dv (Bu (Am (Ax (by with_unfolding_all rfl) (Am (Ax (by with_unfolding_all rfl) (Am (Ax (by with_unfolding_all rfl) (Ai ?_))))))))))));refine Wl (k+2) g wo hm fun h1 x1=>?_
 walk_at "x5"
 exact f _ x1
theorem Adi (k:Nat) (g:Prg p S) (wo:w.ok p) {m n:D}(hm:Mv p S w m) (hn:Wr p S w n) (f:∀ h',Ext [] mh h'->P .non h'):wV (Ac (Gk (k+8)) fuel f83 [p.d,w.d,m,n] mh) P:=by
 refine Aj (Ue (k+7)) Ii.1 Ii.2 rfl ?_;show wS (b83 (k+7)) [some p.d,some w.d,some m,some n] mh _;unfold b83;refine Ao (Cv (Kc (Dk (Dv (Bu (Am (Ax (by with_unfolding_all rfl) (Am (Ax (by with_unfolding_all rfl) (Am (Ax (by with_unfolding_all rfl) (Ai ?_))))))))))));refine Jj (k+2) g wo hm fun h1 x1=>?_
 walk_at "x5"
 refine Wl (k+2) g wo hn fun h2 x2=>?_
 walk_at "x5"
 exact f _ (x1.trans x2)
theorem R6 (k:Nat) (g:Prg p S) (wo:w.ok p) {m n:D}(hm:Mv p S w m) (hn:Mv p S w n) {i j:Int}(em:∀ k mh,Ac (Gk (k+1)) fuel f74 [m] mh=some (.int i,mh)) (en:∀ k mh,Ac (Gk (k+1)) fuel f74 [n] mh=some (.int j,mh)) (hij:i=j\/i=-1\/j=-1) (f:∀ h',Ext [] mh h'->P .non h'):wV (Ac (Gk (k+8)) fuel f83 [p.d,w.d,m,n] mh) P:=by
 refine Aj (Ue (k+7)) Ii.1 Ii.2 rfl ?_;show wS (b83 (k+7)) [some p.d,some w.d,some m,some n] mh _;unfold b83;refine Ao (Cv (Kc (Dk (Dv (Bu (Am (Ax (by with_unfolding_all rfl) (Am (Ax (by with_unfolding_all rfl) (Am (Ax (by with_unfolding_all rfl) (Ai ?_))))))))))));refine Jj (k+2) g wo hm fun h1 x1=>?_
 walk_at "x5"
 refine Jj (k+2) g wo hn fun h2 x2=>?_
 walk_at "x5"
 refine Av (em _ _) ?_
 walk_at "x5"
 refine Av (en _ _) ?_;refine Gy ⟨_,rfl,fun e=>?_,fun e=>?_⟩
 ·walk_at "x5"
  exact f _ (x1.trans x2)
 ·have hne:¬ i=j:=beq_eq_false_iff_ne.mp e
  walk_at "x5"
  refine Av (em _ _) ?_
  walk_at "x5"
  refine Av (en _ _) ?_
  walk_at "x5"
  refine aB (k:=true) ((aX _ _ _ _).trans (congrArg some ?_)) ?_
  ·rcases hij with z|z|z
   ·exact absurd z hne
   ·rw [z];rfl
   ·rw [z];exact Bool.or_true _
  walk_at "x5"
  exact f _ (x1.trans x2)
theorem qC (k:Nat) (g:Prg p S) (wo:w.ok p) {h h':Nat}(hne:h≠h') (hh:h < p.plays.length) (hh':h' < p.plays.length) {s s':Sp}{c c':D}(es:stW p S w h=some s) (es':stW p S w h'=some s') (hc:c∈chs p w h s) (hc':c'∈chs p w h' s')
  (f:∀ (w1 w2:Wd) m,w1=w.ap h (eff p w h c s)->w1.ok p->w2=w1.ap h' (eff p w h' c' s')->w2.ok p->Ext [] mh m->P w2.d m):wV (Ac (Gk (k+8)) fuel f83 [p.d,w.d,doD h c,doD h' c'] mh) P:=by
 refine Aj (Ue (k+7)) Ii.1 Ii.2 rfl ?_;show wS (b83 (k+7)) [some p.d,some w.d,some (doD h c),some (doD h' c')] mh _;unfold b83;refine Ao (Cv (Kc (Dk (Dv (Bu (Am (Ax (by with_unfolding_all rfl) (Am (Ax (by with_unfolding_all rfl) (Am (Ax (by with_unfolding_all rfl) (Ai ?_))))))))))));refine Jj (k+2) g wo (Or.inl ⟨h,c,hh,Ys es hc,rfl⟩) fun m1 x1=>?_
 walk_at "x5"
 refine Jj (k+2) g wo (Or.inl ⟨h',c',hh',Ys es' hc',rfl⟩) fun m2 x2=>?_
 walk_at "x5"
 refine Av (Ge _ _ _ _) ?_
 walk_at "x5"
 refine Av (Ge _ _ _ _) ?_;refine Gy ⟨_,rfl,fun e=>absurd (eq_of_beq e) (by omega),fun e=>?_⟩
 walk_at "x5"
 refine Av (Ge _ _ _ _) ?_
 walk_at "x5"
 refine Av (Ge _ _ _ _) ?_
 walk_at "x5"
 refine aB (k:=false) ((aX _ _ _ _).trans (congrArg some ?_)) ?_
 ·rw [beq_eq_false_iff_ne.mpr (show ¬ (h:Int)=-1 by omega),beq_eq_false_iff_ne.mpr (show ¬ (h':Int)=-1 by omega)];rfl
 walk_at "x5"
 refine Kh k h g wo hh es hc fun w1 m3 o1 pl1 e1 x3=>?_
 have v:=Yt g wo hh es hc;have hp:=(Ry g hh es).2.1
 walk_at "x5"
 have es1:stW p S w1 h'=some s':=by rw [e1,pR hne];exact es'
 have hc1:c'∈chs p w1 h' s':=by rw [e1];exact Yv hne wo hh hh' hp pl1 v hc'
 refine Kh k h' g o1 hh' es1 hc1 fun w2 m4 o2 pl2 e2 x4=>?_
 refine f w1 w2 m4 e1 o1 ?_ o2 (((x1.trans x2).trans x3).trans x4);rw [e2];have:=Yu hne wo hh hh' hp pl1 v (e:=eff p w h c s) hc';rw [← e1] at this;rw [this]
end
noncomputable def Sp.lo:Sp->Prop
 | .choose _ c=>c<=99
 | _=>True
section
variable {mh:MH}{P:D->MH->Prop}{p:Pg}{w:Wd}{S:List (List Sp)}
theorem Adj {h:Nat}{s:Sp}(e:stW p S w h=some s):∃ l∈S,s∈l:=by
 unfold stW stA at e;split at e
 ·cases el:S[plA p h]? with
  | none=>rw [el] at e;cases e
  | some l =>
   rw [el] at e;exact ⟨l,List.mem_of_getElem? el,List.mem_of_getElem? e⟩
 ·cases e
theorem Afv {h:Nat}(wo:w.ok p) (hh:h < p.plays.length) (lo:∀ l∈S,∀ s∈l,s.lo):∀ y∈chW p S w h,y≠.int 99:=by
 intro y hy e;subst e;obtain ⟨s,es,hc,_⟩:=Gp wo hh hy;obtain ⟨l,hl,hs⟩:=Adj es;have lo:=lo l hl s hs;have zero:D.int 99∈[D.int 0]->False:=fun z=>by
  have:=List.mem_singleton.mp z;cases this
 cases s with
 | choose a n =>
  obtain ⟨i,hi,e⟩:=List.mem_map.mp (show D.int 99∈(List.range n).map Ae from hc);have e:D.int (i:Nat)=D.int 99:=e;have hi:=List.mem_range.mp hi;have lo:n<=99:=lo;injection e with e
  omega
 | pick a r =>
  obtain ⟨i,_,e⟩:=List.mem_map.mp (show D.int 99∈(oth p r h).map Qy from hc);cases e
 | out a gg qq =>
  have hc:D.int 99∈Mj ((w.pt h).se gg):=hc;unfold Mj at hc;split at hc
  ·exact zero hc
  ·obtain ⟨y,_,e⟩:=List.mem_map.mp hc;cases e
 | take bx ls =>
  rcases G9 wo hh hc with ⟨e,_⟩|⟨s,l,r,_,_,_,e⟩
  ·cases e
  ·cases e
 | send a kd b c' =>
  have hc:D.int 99∈(if Jq p w h a=true then [D.int 0] else []):=hc;split at hc
  ·exact zero hc
  ·cases hc
 | _=>exact zero hc
theorem qD {m:D}(hm:Mv p S w m):∃ ds,m=.tup ds/\ds.length<=3/\Wr p S w (.tup (ds++[.int 0])):=by
 rcases hm with ⟨h,c,hh,hc,rfl⟩|⟨s,t,hs,ht,hx,hi,rfl⟩|⟨h,hh,hy,hi,rfl⟩
 ·exact ⟨_,rfl,by simp,Or.inr (Or.inr (Or.inr (Or.inl ⟨_,_,_,_,rfl⟩)))⟩
 ·exact ⟨_,rfl,by simp,Or.inr (Or.inr (Or.inr (Or.inl ⟨_,_,_,_,rfl⟩)))⟩
 ·exact ⟨_,rfl,by simp,Or.inr (Or.inr (Or.inr (Or.inr (Or.inl ⟨_,_,rfl⟩))))⟩
theorem dJ (k:Nat) (d:Int) (g:Prg p S) (wo:w.ok p) (lo:∀ l∈S,∀ s∈l,s.lo) {m:D}(hm:Mv p S w m) (f:∀ m' h',Wr p S w m'->Ext [] mh h'->P m' h'):wV (Ac (Gk (k+1)) fuel f91 [m,.int d,.int p.plays.length] mh) P:=by
 have h1:=g.po.h1;obtain ⟨ds,rfl,l3,wr⟩:=qD hm;obtain ⟨h,hh,eh⟩:=Bh (d.fdiv 8) p.plays.length (by omega);obtain ⟨r,hr,er⟩:=Bh d 10 (by decide);have er:d.fmod 10=(r:Int):=er;refine Aj (Acx k) oY.1 oY.2 rfl ?_;show wS (b91 k) [some (.tup ds),some (.int d),some (.int p.plays.length),none,none] mh _;unfold b91
 walk_at "x5"
 refine Cz (by omega) ?_;rw [eh]
 walk_at "x5"
 refine Jb (by rw [List.length_singleton];omega) ?_
 walk_at "x5"
 refine Cz (by omega) ?_;rw [eh]
 walk_at "x5"
 refine Cz (by omega) ?_;rw [eh]
 walk_at "x5"
 refine N5 ((Ext.more (W:=[])).old _ _ (by simp) Aq) Aq (by simp) ?_
 walk_at "x5"
 rw [er];refine Et Aq (by simpa using hr) fun x hx=>?_
 refine f x _ ?_ ((Ext.more.trans Ext.more).trans Ext.more);simp only [List.mem_append,List.mem_cons,List.mem_nil_iff,or_false] at hx;rcases hx with (rfl|rfl|rfl|rfl|rfl|rfl)|rfl|rfl|rfl|rfl
 ·exact Or.inl rfl
 ·exact Or.inr (Or.inr (Or.inl ⟨h,99,hh,Afv wo hh lo,rfl⟩))
 ·exact Or.inr (Or.inl rfl)
 ·exact wr
 ·exact Or.inr (Or.inr (Or.inr (Or.inr (Or.inr (Or.inl rfl)))))
 ·exact Or.inr (Or.inr (Or.inr (Or.inr (Or.inr (Or.inr (Or.inl rfl))))))
 ·exact Or.inr (Or.inr (Or.inr (Or.inr (Or.inr (Or.inr (Or.inr (Or.inl ⟨_,rfl⟩)))))))
 ·exact Or.inr (Or.inr (Or.inr (Or.inr (Or.inr (Or.inr (Or.inr (Or.inl ⟨_,rfl⟩)))))))
 ·exact Or.inr (Or.inr (Or.inr (Or.inr (Or.inr (Or.inr (Or.inr (Or.inr ⟨_,_,rfl⟩)))))))
 ·exact Or.inr (Or.inr (Or.inr (Or.inr (Or.inr (Or.inr (Or.inr (Or.inr ⟨_,_,rfl⟩)))))))
end
theorem Afw {a b:Str}{mh:MH}{P:D->MH->Prop}(h1:PyData.strOk a=true) (h2:PyData.strOk b=true) (h:(a==b)=true) (q:P (.bl false) mh):wV (neD (.str a) (.str b) mh) P:=Ru (k:=true) (El h1 h2 h mh) q
local macro_rules | `(tactic| walk_at "x4") => `(tactic| repeat (first | walk_at "s" | with_reducible refine Ht ?_ | with_reducible refine Fd (by simp) ?_ | with_reducible refine Dm ?_ | with_reducible refine Ga ?_ | with_reducible refine Dn ?_ | with_reducible refine G4 ?_ | with_reducible refine Ik ?_ | with_reducible refine Gi (by decide) (by decide) ?_ | with_reducible refine Cz (by decide) ?_ | with_reducible refine vK (by kernel_rfl) (by kernel_rfl) (by decide +kernel) ?_ | with_reducible refine vL (by kernel_rfl) (by kernel_rfl) (by decide +kernel) ?_ | with_reducible refine Yn ?_ | with_reducible refine ne_st (by kernel_rfl) (by kernel_rfl) (by decide +kernel) ?_ | with_reducible refine Afw (by kernel_rfl) (by kernel_rfl) (by decide +kernel) ?_))
section
variable {mh:MH}{P:D->MH->Prop}{p:Pg}{w:Wd}{S:List (List Sp)}
noncomputable def mvL (p:Pg) (S:List (List Sp)) (w:Wd):List D:=doL p S w++Qz p w++Q0 p w
theorem aY {m:D}(wo:w.ok p) (hm:Mv p S w m):(∃ h c s,h < p.plays.length/\stW p S w h=some s/\c∈chs p w h s/\m=doD h c)\/(∃ (wd:Str) (r:List D),m=.tup (.str wd::r)/\PyData.strOk wd=true/\(wd==("do":Str))=false/\∀ k mh,Ac (Gk (k+1)) fuel f74 [m] mh=some (.int (-1),mh)):=by
 rcases hm with ⟨h,c,hh,hc,rfl⟩|⟨s,t,hs,ht,hx,hi,rfl⟩|⟨h,hh,hy,hi,rfl⟩
 ·obtain ⟨s,es,hcs,cf⟩:=Gp wo hh hc;exact Or.inl ⟨h,c,s,hh,es,hcs,rfl⟩
 ·exact Or.inr ⟨_,_,rfl,by kernel_rfl,by decide +kernel,fun k mh=>pX k s t mh⟩
 ·exact Or.inr ⟨_,_,rfl,by kernel_rfl,by decide +kernel,fun k mh=>pY k h mh⟩
theorem dM (k:Nat) (d:Int) (g:Prg p S) (wo:w.ok p) (lo:∀ l∈S,∀ s∈l,s.lo) (f:∀ h',Ext [] mh h'->P (.bl true) h'):wV (Ac (Gk (k+9)) fuel f92 [p.d,w.d,.int d] mh) P:=by
 have h1:=g.po.h1;refine Aj (Acy (k+8)) oZ.1 oZ.2 rfl ?_;show wS (b92 (k+8)) [some p.d,some w.d,some (.int d),none,none,none,none,none,none] mh _;unfold b92
 walk_at "x4"
 refine Rz (k+3) g wo fun j m1 x1 gj=>?_
 have gj:m1[j]?=some (.lst (mvL p S w)):=gj;have all:∀ m∈mvL p S w,Mv p S w m:=fun m hm=>xO hm
 have e0:mvL p S w=[]->chW p S w 0=[]:=fun e=>by
  unfold mvL at e;have e:=(List.append_eq_nil_iff.mp (List.append_eq_nil_iff.mp e).1).1;have e:=List.flatMap_eq_nil_iff.mp e 0 (List.mem_range.mpr h1);cases ec:chW p S w 0 with
  | nil=>rfl
  | cons a b=>rw [ec] at e;cases e
 generalize mvL p S w=ml at gj all e0
 walk_at "x4"
 refine Gm (Oh ((Ext.more (W:=[])).old _ _ (by simp) gj) Aq fun y hy=>Qj (Adg wo (all y hy))) ⟨_,rfl,?_⟩;cases ml with
 | nil =>
  walk_at "x4"
  refine pZ k g wo (Or.inr (Or.inr (Or.inl ⟨0,0,h1,(by rw [e0 rfl];intro y hy;cases hy),rfl⟩))) fun m2 x2=>?_
  walk_at "x4"
  exact f _ ((x1.trans Ext.more).trans x2)
 | cons m0 mr =>
  refine Ca (fun e=>by cases e) fun _=>Be (Ak ?_)
  have gj2:(m1++[MO.lst []])[j]?=some (.lst (m0::mr)):=(Ext.more (W:=[])).old _ _ (by simp) gj;generalize hl:m0::mr=ml at gj gj2 all;have hn:0 < ml.length:=by rw [← hl];exact Nat.succ_pos _
  generalize hm2:m1++[MO.lst []]=m2 at gj2;have x2:Ext [] mh m2:=by rw [← hm2];exact x1.trans Ext.more
  obtain ⟨r1,hr1,er1⟩:=Bh d ml.length hn;obtain ⟨r2,hr2,er2⟩:=Bh (d.fdiv 64) ml.length hn
  walk_at "x4"
  refine Bp (by intro z z';cases z') (Dl gj2) ?_;refine Cz (by omega) ?_;rw [er1];refine Et gj2 hr1 fun one ho=>?_
  walk_at "x4"
  refine Bp (by intro z z';cases z') (Dl gj2) ?_;refine Cz (by omega) ?_;rw [er2];refine Et gj2 hr2 fun other ht=>?_
  have mo:=all one ho;have mt:=all other ht
  walk_at "x4"
  generalize ((d.fdiv 4096).fmod 6==0)=b;refine Ca (fun e=>?_) fun e=>?_
  ·subst e
   walk_at "x4"
   refine G4 (d:=.tup (p.plays.map Ae)) ?_
   walk_at "x4"
   refine Bp (ds:=p.plays.map Ae) (by intro z z';cases z') rfl ?_;rw [List.length_map]
   walk_at "x4"
   refine dJ (k+7) _ g wo lo mt fun m' m3 wr x3=>?_
   walk_at "x4"
   refine Adi k g wo mo wr fun m4 x4=>?_
   walk_at "x4"
   refine pZ k g wo wr fun m5 x5=>?_
   walk_at "x4"
   exact f _ (((x2.trans x3).trans x4).trans x5)
  ·subst e
   walk_at "x4"
   rcases aY wo mo with ⟨h,c,s,hh,es,hc,rfl⟩|⟨wd,r,em,h0,hd,e1⟩
   ·rcases aY wo mt with ⟨h',c',s',hh',es',hc',rfl⟩|⟨wd',r',em',h0',hd',e1'⟩
    ·by_cases hne:h=h'
     ·subst hne;refine R6 k g wo mo mt (fun k mh=>Ge k h c mh) (fun k mh=>Ge k h c' mh) (Or.inl rfl) fun m3 x3=>?_
      unfold doD
      walk_at "x4"
      refine Ca (fun _=>?_) fun e=>absurd e (by simp)
      walk_at "x4"
      refine R6 k g wo mt mo (fun k mh=>Ge k h c' mh) (fun k mh=>Ge k h c mh) (Or.inl rfl) fun m4 x4=>?_
      walk_at "x4"
      exact f _ ((x2.trans x3).trans x4)
     ·refine qC k g wo hne hh hh' es es' hc hc' fun w1 w2 m3 e1 o1 e2 o2 x3=>?_
      have v:=Yt g wo hh es hc;have v':=Yt g wo hh' es' hc';have hp:=(Ry g hh es).2.1;have hp':=(Ry g hh' es').2.1;unfold doD
      walk_at "x4"
      refine Ca (fun e=>absurd (eq_of_beq e) (by omega)) fun _=>?_
      walk_at "x4"
      refine Og k h g wo hh es hc fun u1 m4 p1 q1 a1 y1=>?_
      have b1:u1=w1:=a1.trans e1.symm;subst b1
      walk_at "x4"
      have es1:stW p S u1 h'=some s':=by rw [e1,pR hne];exact es'
      have hc1:c'∈chs p u1 h' s':=by rw [e1];exact Yv hne wo hh hh' hp q1 v hc'
      refine Og k h' g p1 hh' es1 hc1 fun u2 m5 p2 q2 a2 y2=>?_
      have b2:u2=w2:=by
       rw [a2,e2];have:=Yu hne wo hh hh' hp q1 v (e:=eff p w h c s) hc';rw [← e1] at this;rw [this]
      subst b2
      walk_at "x4"
      refine Og k h' g wo hh' es' hc' fun u3 m6 p3 q3 a3 y3=>?_
      walk_at "x4"
      have es3:stW p S u3 h=some s:=by rw [a3,pR (Ne.symm hne)];exact es
      have hc3:c∈chs p u3 h s:=by rw [a3];exact Yv (Ne.symm hne) wo hh' hh hp' q3 v' hc
      refine Og k h g p3 hh es3 hc3 fun u4 m7 p4 q4 a4 y4=>?_
      have a4:u4=u3.ap h (eff p w h c s):=by
       rw [a4];have:=Yu (Ne.symm hne) wo hh' hh hp' q3 v' (e:=eff p w h' c' s') hc;rw [← a3] at this;rw [this]
      have cm:u2=u4:=by
       rw [e2,a4,e1,a3];refine vV hne hh hh' wo (e1 ▸ p1) (a3 ▸ p3) ?_ ?_ v v'
       ·rw [← e1,← e2];exact p2
       ·rw [← a3,← a4];exact p4
      rw [← cm];refine Ru (eq_self _ (Yw _)) ⟨_,rfl,Dy (Be (Ak ?_))⟩
      walk_at "x4"
      refine Gm (eq_self _ (Yw _)) ⟨_,rfl,fun _=>?_,fun e=>by cases e⟩
      walk_at "x4"
      refine qC k g wo (Ne.symm hne) hh' hh es' es hc' hc fun z1 z2 m8 c1 n1 c2 n2 y5=>?_
      have c3:z2=u2:=by rw [c2,c1,← a3,← a4,cm]
      rw [c3]
      walk_at "x4"
      refine Gm (eq_self _ (Yw _)) ?_
      walk_at "x4"
      exact f _ ((((((x2.trans x3).trans y1).trans y2).trans y3).trans y4).trans y5)
    ·refine R6 k g wo mo mt (fun k mh=>Ge k h c mh) e1' (Or.inr (Or.inr rfl)) fun m3 x3=>?_
     have ix:∀ {Q:D->MH->Prop} {m:MH},Q (.str wd') m->wV (ixD other (.int 0) m) Q:=fun q=>by
      rw [em'];exact Dm q
     unfold doD
     walk_at "x4"
     refine ix ?_;refine Ai (Ru (k:=false) (El h0' (by decide +kernel) hd' _) ⟨_,rfl,fun _=>?_,fun e=>by cases e⟩)
     walk_at "x4"
     refine R6 k g wo mt mo e1' (fun k mh=>Ge k h c mh) (Or.inr (Or.inl rfl)) fun m4 x4=>?_
     walk_at "x4"
     exact f _ ((x2.trans x3).trans x4)
   ·obtain ⟨i,ei⟩:=Adh mt;refine R6 k g wo mo mt e1 ei (Or.inr (Or.inl rfl)) fun m3 x3=>?_
    have ix:∀ {Q:D->MH->Prop} {m:MH},Q (.str wd) m->wV (ixD one (.int 0) m) Q:=fun q=>by
     rw [em];exact Dm q
    walk_at "x4"
    refine ix ?_;refine Ai (Ru (k:=false) (El h0 (by decide +kernel) hd _) ⟨_,rfl,fun _=>?_,fun e=>by cases e⟩)
    walk_at "x4"
    refine R6 k g wo mt mo ei e1 (Or.inr (Or.inr rfl)) fun m4 x4=>?_
    walk_at "x4"
    exact f _ ((x2.trans x3).trans x4)
end
noncomputable def drT (k:Nat):SM :=
(Ab (Az (dop Bw (dop Gg (dop Bm (dop Bm (vr 2) (dop Gg (Zr (.int 7919)) (vr 1))) (Zr (.int 1))) (Zr (.int 48271))) (Zr (.int 2147483647))) (Ar 3))
 (Ab (Az (dop Bw (dop Gg (vr 3) (dop Bm (dop Ci (vr 3) (Zr (.int 1009))) (Zr (.int 69621)))) (Zr (.int 2147483647))) (Ar 3))
 (Ab (retS (dop Bw (dop Gg (vr 3) (dop Bm (dop Ci (vr 3) (Zr (.int 2003))) (Zr (.int 40692)))) (Zr (.int 2147483399))))
 Zn)))
noncomputable def drM (k:Nat):SM :=
(Ab (ifS (Ah (dop neD (vr 0) (lstM (Zr []))))
 (Ab (Az (dop ixD (vr 0) (dop Bw (vr 1) (Ad Dj (Aa (vr 0) (Zr []))))) (Ar 2))
  Zn)
 Zn)
 (drT k))
local macro_rules | `(tactic| walk_at "x1") => `(tactic| repeat (first | walk_at "s" | with_reducible refine Ht ?_ | with_reducible refine Fd (by simp) ?_ | with_reducible refine Dm ?_ | with_reducible refine Ga ?_ | with_reducible refine Dn ?_ | with_reducible refine G4 ?_ | with_reducible refine Ik ?_ | with_reducible refine Gi (by decide) (by decide) ?_ | with_reducible refine Cz (by decide) ?_ | with_reducible refine Pz (Or.inl (by decide)) ?_ | with_reducible refine Pz (Or.inr (by decide)) ?_))
section
variable {mh:MH}{P:D->MH->Prop}
theorem wA {i:Int}{h:Nat}{mh:MH}{P:D->MH->Prop}(q:∀ v:Int,P (.int v) mh):wV (cU (.int i) (.int h) mh) P:=Gx (decide_eq_true (by omega)) (q _)
theorem qF (k:Nat) (js i:Nat) (c:Int) (f:∀ v:Nat,P (.int v) mh):wS (drT k) [some (.ref js),some (.int i),some (.int c),none] mh (T9 P):=by
 unfold drT
 walk_at "x1"
 obtain ⟨n1,h1,e1⟩:=Bh ((c+7919 * (i:Int)+1) * 48271) 2147483647 (by decide);have e1:((c+7919 * (i:Int)+1) * 48271).fmod 2147483647=(n1:Int):=e1;rw [e1];refine Pz (Or.inl ⟨by omega,by omega⟩) ?_
 walk_at "x1"
 obtain ⟨n2,h2,e2⟩:=Bh ((n1:Int) * ((n1:Int).fdiv 1009+69621)) 2147483647 (by decide);have e2:((n1:Int) * ((n1:Int).fdiv 1009+69621)).fmod 2147483647=(n2:Int):=e2;rw [e2];refine Pz (Or.inl ⟨by omega,by omega⟩) ?_
 walk_at "x1"
 obtain ⟨n3,h3,e3⟩:=Bh ((n2:Int) * ((n2:Int).fdiv 2003+40692)) 2147483399 (by decide);have e3:((n2:Int) * ((n2:Int).fdiv 2003+40692)).fmod 2147483399=(n3:Int):=e3;rw [e3];exact f n3
theorem Afx {mh:MH}{ns:List Int}:∀ d∈ns.map D.int,∃ y,py mh 59 d=some y:=fun d hd=>by
 obtain ⟨i,_,rfl⟩:=List.mem_map.mp hd;exact ⟨_,rfl⟩
theorem qG {js:Nat}{ns:List Int}{mh:MH}{P:D->MH->Prop}{j:Nat}(g:IsI mh js ns) (e:mh[j]?=some (.lst [])) (q:P (.bl (!ns.isEmpty)) mh):wV (neD (.ref js) (.ref j) mh) P:=by
 refine Ru (Oh g e Afx) ?_;rw [List.isEmpty_map];exact q
theorem Adk (k:Nat) (js i:Nat) (c:Int) {ns:List Int}(gs:IsI mh js ns) (f:∀ (v:Nat) h',Ext [] mh h'->P (.int v) h'):wS (drM k) [some (.ref js),some (.int i),some (.int c),none] mh (T9 P):=by
 unfold drM
 walk_at "x1"
 refine qG (gs.ext Ext.more) Aq ⟨_,rfl,?_⟩;refine Ca (fun e=>?_) fun e=>?_
 ·have hn:0 < ns.length:=by
   cases ns with
   | nil=>cases e
   | cons _ _=>exact Nat.succ_pos _
  obtain ⟨r,hr,er⟩:=Bh (i:Int) ns.length hn
  walk_at "x1"
  refine aG (gs.ext Ext.more) ?_;refine Cz (by omega) ?_;rw [er];refine Yh (gs.ext Ext.more) hr ?_
  walk_at "x1"
  exact qF k js i _ fun v=>f v _ Ext.more
 ·walk_at "x1"
  exact qF k js i _ fun v=>f v _ Ext.more
theorem Eu (k:Nat) (js i:Nat) {ns:List Int}(gs:IsI mh js ns) (f:∀ (v:Nat) h',Ext [] mh h'->P (.int v) h'):wV (Ac (Gk (k+1)) fuel f87 [.ref js,.int i] mh) P:=by
  refine Aj (Acs k) oU.1 oU.2 rfl ?_;show wS (b87 k) [some (.ref js),some (.int i),none,none] mh _;have eb:b87 k=Ab (Az (Zr (.int 0)) (Ar 2))
    (Ab (ifS (Dr (Ah (dop neD (vr 0) (lstM (Zr [])))) (Dr (Ah (dop eqD (dop Bw (dop ixD (vr 0) (Zr (.int 0))) (Zr (.int 2))) (Zr (.int 1)))) (Ah (dop DL.ltD (dop Bm (Zr (.int 1)) (dop Ci (vr 1) (Zr (.int 30)))) (Ad Dj (Aa (vr 0) (Zr [])))))))
 (Ab (Az (dop cU (dop ixD (vr 0) (dop Bm (Zr (.int 1)) (dop Ci (vr 1) (Zr (.int 30))))) (dop Gg (Zr (.int 32)) (dop Bw (vr 1) (Zr (.int 30))))) (Ar 2))
  (Ab (ifS (Dr (Ah (dop neD (vr 2) (Zr (.int 0)))) (Ah (dop neD (vr 2) (Np (Zr (.int 1))))))
  (Ab (retS (dop Bw (vr 2) (dop Abb (Zr (.int 2)) (Zr (.int 32)))))
   Zn)
  Zn)
  Zn))
 Zn) (drM k)):=rfl
  rw [eb];refine Ao (Dc (Ai (Bc (Ak ?_))));show wS _ [some (.ref js),some (.int i),some (.int 0),none] mh _;have x1:Ext [] mh (mh++[MO.lst []]):=Ext.more;have go:∀ c:Int,wS (drM k) [some (.ref js),some (.int i),some (.int c),none] (mh++[MO.lst []]) (T9 P):=fun c=>Adk k js i c (gs.ext Ext.more) fun v h' x=>f v h' (x1.trans x)
  refine Ao (Cv (T5 (Bx (Bj (Ax (by with_unfolding_all rfl) (Pu (Ai ⟨by simp,qG (gs.ext Ext.more) Aq ⟨_,rfl,fun e=>?_,fun e=>?_⟩⟩))))))) 
  · have hn:0 < ns.length:=by
      cases ns with
      | nil=>cases e
      | cons _ _=>exact Nat.succ_pos _
    have e30:(1:Int)+(i:Int).fdiv 30=((1+i / 30:Nat):Int):=by
      rw [Int.fdiv_eq_ediv_of_nonneg _ (by decide)];omega
    have m30:(32:Int) * (i:Int).fmod 30=((32 * (i % 30):Nat):Int):=by
      rw [Int.fmod_eq_emod_of_nonneg _ (by decide)];omega
    walk_at "x1"
    refine Yh (j:=0) (gs.ext Ext.more) hn ?_
    walk_at "x1"
    refine ⟨fun e1=>?_,fun e1=>Dy (Be (Ak (go 0)))⟩
    walk_at "x1"
    rw [e30];refine aG (gs.ext Ext.more) ?_;refine Gj ⟨_,rfl,Ca (fun e2=>?_) fun e2=>Be (Ak (go 0))⟩;have e2:(((1+i / 30:Nat):Int) < (ns.length:Int)):=of_decide_eq_true e2
    walk_at "x1"
    rw [e30];refine Yh (gs.ext Ext.more) (j:=1+i / 30) (by omega) ?_
    walk_at "x1"
    rw [m30];refine wA fun c=>?_
    refine Bc (Ak ?_);show wS _ [some (.ref js),some (.int i),some (.int c),none] _ _
    walk_at "x1"
    refine ⟨fun e3=>?_,fun e3=>Dy (Be (Ak (Be (Ak (go c)))))⟩
    walk_at "x1"
    refine Ca (fun e4=>?_) fun e4=>Be (Ak (Be (Ak (go c))))
    walk_at "x1"
    refine Abq (by decide) (by decide) (by decide) ?_;obtain ⟨n1,h1,e5⟩:=Bh c (2 ^ 32) (by decide);refine Cz (by decide) ?_;have e5:c.fmod (2 ^ (32:Int).toNat)=(n1:Int):=e5;rw [e5];exact f n1 _ x1
  · exact Dy (Be (Ak (go 0)))
end
theorem Jk {mh g h:MH}(xh:Ext [mh.length] (mh++g) h):Ext [] mh h:=⟨Nat.le_trans (by simp) xh.len,fun i o _ e=>by
 have hi:=(List.getElem?_eq_some_iff.mp e).1
 exact xh.old i o (by intro z;have:=List.mem_singleton.mp z;omega) ((Ext.more (W:=[])).old _ _ (by simp) e)⟩
theorem Gf {n i:Nat}{d:D}(e:(Bt 0 n)[i]?=some d):i < n/\d=Ae i:=by
 rw [Kd,List.getElem?_map] at e;rcases Nat.lt_or_ge i n with z|z
 ·rw [List.getElem?_range z] at e;cases e;exact ⟨z,rfl⟩
 ·rw [List.getElem?_eq_none_iff.mpr (by rw [List.length_range];exact z)] at e;cases e
theorem Afy {mh:MH}{ls:List Ln}:∀ d∈ls.map lnD,∃ y,py mh 59 d=some y:=fun d hd=>by
 obtain ⟨i,_,rfl⟩:=List.mem_map.mp hd;exact Qj (by kernel_rfl)
section
variable {mh:MH}{P:D->MH->Prop}{p:Pg}
theorem dN (k d L:Nat) (f:∀ (bx:Int) (ls:List Ln) h',Sp.ok p L (.take bx ls)->Ext [] mh h'->P (spD (.take bx ls)) h'):wV (Ac (Gk (k+1)) fuel f88 [.int d,.int L] mh) P:=by
 refine Aj (Acu k) oV.1 oV.2 rfl ?_;show wS (b88 k) [some (.int d),some (.int L),none,none,none,none] mh _;unfold b88
 walk_at "x1"
 refine Hr ?_
 walk_at "x1"
 refine ⟨_,Du (B:=4) (by decide),Bt 0 4,fun i l h=>Ext [mh.length] (mh++[MO.lst []]) h/\(∃ ls:List Ln,ls.length<=i/\(∀ l∈ls,Ln.ok L l)/\h[mh.length]?=some (.lst (ls.map lnD)))/\∃ x y z,l=[some (.int d),some (.int L),some (.ref mh.length),x,y,z],⟨Ext.refl,⟨[],Nat.le_refl _,fun _ z=>absurd z (by simp),Aq⟩,_,_,_,rfl⟩,fun _ _ _ _=>⟨rfl,rfl⟩,?_,?_⟩
 ·rintro i dd l h ed ⟨xh,⟨ls,ll,lo,gl⟩,x,y,z,rfl⟩;obtain ⟨hi,rfl⟩:=Gf ed;refine Bc ?_;show wS _ [some (.int d),some (.int L),some (.ref mh.length),some (.int i),y,z] h _
  walk_at "x1"
  have e1:(3:Int)+(i:Int)=((3+i:Nat):Int):=by omega
  rw [e1];refine Gi (by omega) (by omega) ?_
  walk_at "x1"
  obtain ⟨wy,hw,ew⟩:=Bh ((d:Int).fdiv ((3+i:Nat):Int)) 7 (by decide);have ew:((d:Int).fdiv ((3+i:Nat):Int)).fmod 7=(wy:Int):=ew;rw [ew];refine pF ?_
  walk_at "x1"
  refine aJ ?_
  walk_at "x1"
  have xr:Ext [] h h:=Ext.refl;obtain ⟨a,ha,ea⟩:=Bh (wy:Int) 3 (by decide);have ea:(wy:Int).fmod 3=(a:Int):=ea;obtain ⟨b,hb,eb⟩:=Bh ((wy:Int)+(i:Int)) 3 (by decide);have eb:((wy:Int)+(i:Int)).fmod 3=(b:Int):=eb;obtain ⟨c,hc,ec⟩:=Bh ((wy:Int)+(i:Int)+1) 3 (by decide);have ec:((wy:Int)+(i:Int)+1).fmod 3=(c:Int):=ec;refine ⟨fun _=>?_,fun _=>?_⟩
  ·have gk:h[mh.length]?=some (.lst (ls.map lnD)):=(xr).old _ _ (by simp) gl
   walk_at "x1"
   refine ⟨ty_list gk,?_⟩
   walk_at "x1"
   have e5:(5:Int)+(i:Int)=((5+i:Nat):Int):=by omega
   rw [e5];refine Gi (by omega) (by omega) ?_
   walk_at "x1"
   have eL:(L:Int)+1=((L+1:Nat):Int):=by omega
   rw [eL];refine Cz (by omega) ?_;obtain ⟨q,hq,eq⟩:=Bh ((d:Int).fdiv ((5+i:Nat):Int)) (L+1) (by omega);rw [eq,ea,eb,ec]
   walk_at "x1"
   refine Jb (by simp) ?_
   walk_at "x1"
   refine Cj gk (by rw [List.length_map];omega) ?_
   walk_at "x1"
   refine ⟨(xh.trans (xr).weak).trans Ext.set,⟨ls++[⟨i,a,b,c,q⟩],by rw [List.length_append];exact Nat.succ_le_succ ll,fun z hz=>?_,by rw [Dw gk,List.map_append];rfl⟩,_,_,_,rfl⟩;rcases List.mem_append.mp hz with hz|hz
   ·exact lo z hz
   ·rw [List.mem_singleton.mp hz];exact ⟨ha,hb,hc,by show q<=L;omega⟩
  ·walk_at "x1"
   have xk:Ext [] h (h++[MO.lst []]):=Ext.more;have gk0:=xk.old _ _ (by simp) gl;refine Gm (Oh gk0 Aq Afy) ⟨_,rfl,fun _=>?_,fun _=>?_⟩
   ·walk_at "x1"
    refine Ca (fun _=>?_) fun _=>?_
    ·have gk:(h++[MO.lst []])[mh.length]?=some (.lst (ls.map lnD)):=(xk).old _ _ (by simp) gl
     walk_at "x1"
     refine ⟨ty_list gk,?_⟩
     walk_at "x1"
     have e5:(5:Int)+(i:Int)=((5+i:Nat):Int):=by omega
     rw [e5];refine Gi (by omega) (by omega) ?_
     walk_at "x1"
     have eL:(L:Int)+1=((L+1:Nat):Int):=by omega
     rw [eL];refine Cz (by omega) ?_;obtain ⟨q,hq,eq⟩:=Bh ((d:Int).fdiv ((5+i:Nat):Int)) (L+1) (by omega);rw [eq,ea,eb,ec]
     walk_at "x1"
     refine Jb (by simp) ?_
     walk_at "x1"
     refine Cj gk (by rw [List.length_map];omega) ?_
     walk_at "x1"
     refine ⟨(xh.trans (xk).weak).trans Ext.set,⟨ls++[⟨i,a,b,c,q⟩],by rw [List.length_append];exact Nat.succ_le_succ ll,fun z hz=>?_,by rw [Dw gk,List.map_append];rfl⟩,_,_,_,rfl⟩;rcases List.mem_append.mp hz with hz|hz
     ·exact lo z hz
     ·rw [List.mem_singleton.mp hz];exact ⟨ha,hb,hc,by show q<=L;omega⟩
    ·walk_at "x1"
     exact ⟨xh.trans xk.weak,⟨ls,by omega,lo,gk0⟩,_,_,_,rfl⟩
   ·walk_at "x1"
    exact ⟨xh.trans xk.weak,⟨ls,by omega,lo,gk0⟩,_,_,_,rfl⟩
 ·rintro l h ⟨xh,⟨ls,ll,lo,gl⟩,x,y,z,rfl⟩;have ll:ls.length<=4:=ll;obtain ⟨r,hr,er⟩:=Bh ((d:Int).fdiv 16) 4 (by decide);have er:((d:Int).fdiv 16).fmod 4=(r:Int):=er
  walk_at "x1"
  rw [er];refine Et Aq (by simpa using hr) fun x hx=>?_
  obtain ⟨bx,rfl,hbx⟩:∃ bx:Int,x=.int bx/\(bx=-1\/∃ b:Nat,b < 3/\bx=(b:Int)):=by
   simp only [List.mem_cons,List.mem_nil_iff,or_false] at hx;rcases hx with rfl|rfl|rfl|rfl
   ·exact ⟨_,rfl,Or.inl rfl⟩
   ·exact ⟨_,rfl,Or.inl rfl⟩
   ·exact ⟨_,rfl,Or.inl rfl⟩
   ·exact ⟨_,rfl,Or.inr ⟨0,by decide,rfl⟩⟩
  walk_at "x1"
  refine Es (Dl ((Ext.more (W:=[])).old _ _ (by simp) gl)) ?_
  walk_at "x1"
  exact f bx ls _ ⟨hbx,by omega,lo⟩ ((Jk xh).trans Ext.more)
end
theorem wB {n k:Nat}{x:D}{mh:MH}{P:D->MH->Prop}(e:mh[n]?=some (.lst [x])) (hk:k<=1000) (h:P (.ref mh.length) (mh++[.lst (List.replicate k x)])):wV (Gg (.ref n) (.int k) mh) P:=by
 refine ⟨_,_,?_,h⟩;have e1:jN (.ref n) mh=some [x]:=by
  show (match mh[n]? with | some (.lst o)=>some o | _=>none)=_;rw [e]
 show Rq _ (.ref n) (.int k) mh=_;unfold Rq;rw [e1];dsimp only;rw [if_pos ⟨⟨by omega,by omega⟩,by rw [Int.toNat_natCast,List.length_singleton];omega⟩,Int.toNat_natCast];have e:(List.replicate k [x]).flatten=List.replicate k x:=by
  clear h hk
  induction k with
  | zero=>rfl
  | succ k ih=>rw [List.replicate_succ,List.flatten_cons,ih,List.replicate_succ];rfl
 rw [e]
theorem Jl {n m:Nat}{xs ys:List D}{h:MH}{P:D->MH->Prop}(g1:h[n]?=some (.lst xs)) (g2:h[m]?=some (.lst ys)) (hz:xs.length+ys.length<=1000000) (q:∀ n' h',Ext [] h h'->h'[n']?=some (.lst (xs++ys))->P (.ref n') h'):wV (Bm (.ref n) (.ref m) h) P:=N5 g1 g2 hz (q _ _ Ext.more Aq)
theorem aZ {n k:Nat}{x:D}{h:MH}{P:D->MH->Prop}(e:h[n]?=some (.lst [x])) (hk:k<=1000) (q:∀ n' h',Ext [] h h'->h'[n']?=some (.lst (List.replicate k x))->P (.ref n') h'):wV (Gg (.ref n) (.int k) h) P:=wB e hk (q _ _ Ext.more Aq)
section
variable {mh:MH}{P:D->MH->Prop}{p:Pg}
noncomputable def Yx (hs:List Nat) (R:Nat):List Nat:=(List.range R).map fun r=>(hs.filter (·==r)).length
theorem wC {r:Nat}(h:(p.plays.filter (·==r)).length=1):hands p r≠[]:=by
 cases e:p.plays.filter (·==r) with
 | nil=>rw [e] at h;cases h
 | cons y ys =>
  have hy:=List.mem_filter.mp (show y∈p.plays.filter (·==r) by rw [e];exact List.mem_cons_self);obtain ⟨i,hi,ei⟩:=List.mem_iff_getElem.mp hy.1;have er:y=r:=eq_of_beq hy.2;have:i∈hands p r:=by
   unfold hands;rw [List.mem_filter,List.mem_range];refine ⟨hi,?_⟩;unfold plA;rw [List.getElem?_eq_getElem hi,ei,er];exact beq_self_eq_true r
  intro z;rw [z] at this;cases this
theorem dO (k d L R j:Nat) (hR:1<=R) (gj:mh[j]?=some (.lst ((Yx p.plays R).map Ae))) (f:∀ s h',Sp.ok p L s->s.lo->Ext [] mh h'->P (spD s) h'):wV (Ac (Gk (k+2)) fuel f89 [.int d,.int L,.ref j] mh) P:=by
 refine Aj (Acv (k+1)) oW.1 oW.2 rfl ?_;show wS (b89 (k+1)) [some (.int d),some (.int L),some (.ref j),none,none,none,none,none,none] mh _;unfold b89;obtain ⟨a,ha,ea⟩:=Bh ((d:Int).fdiv 32) 3 (by decide);have ea:((d:Int).fdiv 32).fmod 3=(a:Int):=ea;obtain ⟨b,hb,eb⟩:=Bh ((d:Int).fdiv 128) 3 (by decide);have eb:((d:Int).fdiv 128).fmod 3=(b:Int):=eb;obtain ⟨q,hq,eq⟩:=Bh ((d:Int).fdiv 512) (L+1) (by omega);obtain ⟨r,hr,er⟩:=Bh ((d:Int).fdiv 8192) R hR;obtain ⟨t,ht,et⟩:=Bh ((d:Int).fdiv 65536) 4 (by decide);have et:((d:Int).fdiv 65536).fmod 4=(t:Int):=et;obtain ⟨a2,ha2,ea2⟩:=Bh (a:Int) 2 (by decide);have ea2:(a:Int).fmod 2=(a2:Int):=ea2;obtain ⟨b2,hb2,eb2⟩:=Bh (b:Int) 2 (by decide);have eb2:(b:Int).fmod 2=(b2:Int):=eb2;obtain ⟨t3,ht3,et3⟩:=Bh (t:Int) 3 (by decide);have et3:(t:Int).fmod 3=(t3:Int):=et3;obtain ⟨u3,hu3,eu3⟩:=Bh ((d:Int).fdiv 262144) 3 (by decide);have eu3:((d:Int).fdiv 262144).fmod 3=(u3:Int):=eu3;obtain ⟨o,ho,eo⟩:=Bh (d:Int) 24 (by decide);have eo:(d:Int).fmod 24=(o:Int):=eo;have ed:(d:Int).fdiv 1024=((d / 1024:Nat):Int):=by
  rw [Int.fdiv_eq_ediv_of_nonneg _ (by decide)];omega
 have e1:(1:Int)+(t3:Int)=((1+t3:Nat):Int):=by omega
 have e2:(1:Int)+(t:Int)=((1+t:Nat):Int):=by omega
 have e3:(L:Int)+1=((L+1:Nat):Int):=by omega
 have lc:(Yx p.plays R).length=R:=by unfold Yx;rw [List.length_map,List.length_range]
 walk_at "x1"
 rw [e3];refine Cz (by omega) ?_
 walk_at "x1"
 refine Bp (by intro z z';cases z') (Dl gj) ?_;rw [List.length_map,lc];refine Cz (by omega) ?_;rw [ea,eb,eq,er]
 walk_at "x1"
 rw [et]
 walk_at "x1"
 have y1:Ext [] mh (mh++[MO.lst [D.tup [.str "put",.int a,.int ((t:Int) - 1)],.tup [.str "copy",.int a,.int b],.tup [.str "raise",.int a,.int ((t:Int) - 1)],.tup [.str "sum",.int a,.int b]]]):=Ext.more;refine Jl ((Ext.more (W:=[])).old _ _ (by simp) Aq) Aq (by simp) fun n1 h1 x1 g1=>?_
 have x1:=(y1.trans Ext.more).trans x1
 clear y1
 walk_at "x1"
 refine Jl ((Ext.more (W:=[])).old _ _ (by simp) g1) Aq (by simp) fun n2 h2 x2 g2=>?_
 have x2:=(x1.trans Ext.more).trans x2
 walk_at "x1"
 refine Jl ((Ext.more (W:=[])).old _ _ (by simp) g2) Aq (by simp) fun n3 h3 x3 g3=>?_
 have x3:=(x2.trans Ext.more).trans x3
 walk_at "x1"
 refine Jl ((Ext.more (W:=[])).old _ _ (by simp) g3) Aq (by simp) fun n4 h4 x4 g4=>?_
 have x4:=(x3.trans Ext.more).trans x4
 walk_at "x1"
 refine aZ (k:=4) Aq (by decide) fun n5 h5 x5 g5=>?_
 have g45:=x5.old _ _ (by simp) ((Ext.more (W:=[])).old _ _ (by simp) g4);have x5:=(x4.trans Ext.more).trans x5;refine Jl g45 g5 (by simp) fun n6 h6 x6 g6=>?_
 have x6:=x5.trans x6
 walk_at "x1"
 rw [ed];refine dN (p:=p) k (d / 1024) L fun bx ls h7 tk x7=>?_
 have g7:=x7.old _ _ (by simp) g6;have x7:=x6.trans x7
 walk_at "x1"
 refine aZ (k:=3) Aq (by decide) fun n8 h8 x8 g8=>?_
 have g78:=x8.old _ _ (by simp) ((Ext.more (W:=[])).old _ _ (by simp) g7);have x8:=(x7.trans Ext.more).trans x8;refine Jl g78 g8 (by simp) fun n9 h9 x9 g9=>?_
 have x9:=x8.trans x9;have gj9:=x9.old _ _ (by simp) gj;have fin:∀ {Q:D->MH->Prop},(∀ s,Sp.ok p L s->s.lo->Q (spD s) h9)->wV (ixD (.ref n9) (.int o) h9) Q:=fun {Q} f=>by
  refine Et g9 (by simpa using ho) fun x hx=>?_
  rw [et3,e1,e2,ea2,eb2,eu3] at hx;simp only [List.mem_append,List.mem_cons,List.mem_nil_iff,or_false,List.mem_replicate] at hx;rcases hx with ((((((rfl|rfl|rfl|rfl)|rfl|rfl|rfl)|rfl|rfl|rfl|rfl|rfl)|rfl|rfl|rfl)|rfl|rfl)|⟨_,rfl⟩)|⟨_,rfl⟩
  ·exact f (.put a ((t:Int) - 1)) ha trivial
  ·exact f (.copy a b) ⟨ha,hb⟩ trivial
  ·exact f (.raise a ((t:Int) - 1)) ha trivial
  ·exact f (.sum a b) ⟨ha,hb⟩ trivial
  ·exact f (.choose a (1+t3)) ⟨ha,by omega⟩ (show 1+t3<=99 by omega)
  ·exact f (.less a t q) ⟨ha,by omega⟩ trivial
  ·exact f (.before a b q) ⟨⟨ha,hb⟩,by omega⟩ trivial
  ·exact f (.go q) (show q<=L by omega) trivial
  ·exact f (.me a) ha trivial
  ·exact f (.pick a r) ha trivial
  ·exact f (.alike a b q) ⟨⟨ha,hb⟩,by omega⟩ trivial
  ·exact f (.all a2 r) ha2 trivial
  ·exact f (.empty a2) ha2 trivial
  ·exact f (.join a2 b) ⟨ha2,hb⟩ trivial
  ·exact f (.out a b2 q) ⟨⟨ha,hb2⟩,by omega⟩ trivial
  ·exact f (.many a2 t q) ⟨ha2,by omega⟩ trivial
  ·exact f .bell trivial trivial
  ·exact f (.send a (1+t) b u3) ⟨⟨ha,hb,hu3⟩,by omega,by omega⟩ trivial
  ·exact f (.take bx ls) tk trivial
 clear g1 g2 g3 g4 g5 g45 g6 g7 g78 g8 g9
 walk_at "x1"
 refine ⟨fun _=>?_,fun _=>?_⟩
 ·walk_at "x1"
  have er2:(Yx p.plays R)[r]?=some ((p.plays.filter (·==r)).length):=by
   unfold Yx;rw [List.getElem?_map,List.getElem?_range hr];rfl
  refine P0 gj9 (d:=Ae (p.plays.filter (·==r)).length) (by rw [List.getElem?_map,er2];rfl) ?_
  walk_at "x1"
  refine Ca (fun e=>?_) fun e=>?_
  ·walk_at "x1"
   have e:(((p.plays.filter (·==r)).length:Nat):Int)=1:=eq_of_beq e;exact f (.only a r) _ ⟨ha,wC (by omega)⟩ trivial x9
  ·walk_at "x1"
   rw [eo];exact fin fun s so sl=>f s _ so sl x9
 ·walk_at "x1"
  rw [eo];exact fin fun s so sl=>f s _ so sl x9
end
noncomputable def rlD (l:List Sp):D:=.tup (l.map spD)
section
variable {mh:MH}{P:D->MH->Prop}{p:Pg}
theorem Afz {p p':Pg}(h:p.plays=p'.plays) {L:Nat}{s:Sp}(so:Sp.ok p L s):Sp.ok p' L s:=by
 cases s with
 | only a r =>
  refine ⟨so.1,?_⟩;have:hands p' r=hands p r:=by unfold hands plA;rw [h]
  rw [this];exact so.2
 | _=>exact so
theorem Adl (s:Sp):dat 59 (spD s)=true:=by
 cases s with
 | take bx ls =>
  refine Uq fun x hx=>?_
  simp only [List.mem_cons,List.mem_nil_iff,or_false] at hx;rcases hx with rfl|rfl|rfl
  ·kernel_rfl
  ·exact Um _ _
  ·exact Lf fun l _=>by kernel_rfl
 | _=>kernel_rfl
theorem Af0 {mh:MH}{ss:List Sp}:∀ d∈ss.map spD,∃ y,py mh 59 d=some y:=fun d hd=>by
 obtain ⟨s,_,rfl⟩:=List.mem_map.mp hd;exact Qj (Adl s)
theorem qH (vs:List Nat):vs.map Ae=(vs.map fun n:Nat=>(n:Int)).map D.int:=by rw [List.map_map];rfl
theorem dR (k js:Nat) {ns:List Int}(gs:IsI mh js ns) (f:∀ (p:Pg) (S:List (List Sp)) h',Prg p S->(∀ l∈S,∀ s∈l,s.lo)->Ext [] mh h'->P p.d h'):wV (Ac (Gk (k+4)) fuel f90 [.ref js] mh) P:=by
 refine Aj (Acw (k+3)) oX.1 oX.2 rfl ?_;show wS (b90 (k+3)) [some (.ref js),none,none,none,none,none,none,none,none,none,none] mh _;unfold b90
 walk_at "x1"
 refine Eu (k+2) js 0 gs fun d0 h0 x0=>?_
 have gs0:=gs.ext x0;obtain ⟨R0,hR0,eR⟩:=Bh (d0:Int) 3 (by decide);have eR:(d0:Int).fmod 3=(R0:Int):=eR;have eR1:(1:Int)+(R0:Int)=((1+R0:Nat):Int):=by omega
 obtain ⟨N0,hN0,eN⟩:=Bh ((d0:Int).fdiv 4) 6 (by decide);have eN:((d0:Int).fdiv 4).fmod 6=(N0:Int):=eN;have eN1:(1:Int)+(N0:Int)=((1+N0:Nat):Int):=by omega
 walk_at "x1"
 rw [eR,eR1];have R1:1<=1+R0:=by omega
 have R3:1+R0<=3:=by omega
 generalize 1+R0=R at R1 R3;show wD _ [some (.ref js),some (.int d0),some (Ae R),none,none,none,none,none,none,none,none] h0 _;refine T8 ?_
 walk_at "x1"
 rw [eN,eN1];refine ⟨_,Du (by omega),Bt 0 (1+N0),fun i acc h=>(∃ vs:List Nat,acc=vs.map Ae/\vs.length=i/\∀ v∈vs,v < R)/\Ext [] h0 h,by rw [Fy];omega,⟨⟨[],rfl,rfl,fun _ z=>absurd z (by simp)⟩,Ext.refl⟩,fun _ _ _ _=>⟨rfl,rfl⟩,?_,?_,?_⟩
 ·rintro i acc h ⟨⟨vs,rfl,lv,_⟩,_⟩;rw [List.length_map,lv];exact Nat.le_refl _
 ·rintro i dd acc h ed ⟨⟨vs,rfl,lv,hv⟩,xh⟩;obtain ⟨hi,rfl⟩:=Gf ed;refine Bc ?_;show wD _ [none,some (.int i),some (Ae R),some (.ref js)] h _;refine Ai ⟨fun _=>?_,fun e=>by cases e⟩
  walk_at "x1"
  have e2:(2:Int)+(i:Int)=((2+i:Nat):Int):=by omega
  rw [e2];refine Eu (k+2) js (2+i) (gs0.ext xh) fun v h1 x1=>?_
  walk_at "x1"
  refine Cz (by omega) ?_;obtain ⟨v2,hv2,ev2⟩:=Bh (v:Int) R R1;rw [ev2];refine ⟨⟨vs++[v2],by rw [List.map_append];rfl,by rw [List.length_append,lv];rfl,fun z hz=>?_⟩,xh.trans x1⟩;rcases List.mem_append.mp hz with hz|hz
  ·exact hv z hz
  ·rw [List.mem_singleton.mp hz];exact hv2
 rintro acc h1 ⟨⟨vs,rfl,lv,hv⟩,x1⟩;rw [Fy] at lv
 walk_at "x1"
 refine mV (ns:=vs.map fun n:Nat=>(n:Int)) (by rw [Aq,qH]) (by rw [List.length_map];omega) ?_;obtain ⟨hs,es,lh,mhs⟩:=Yd vs;rw [es];have lh:hs.length=1+N0:=by omega
 have hr:∀ r∈hs,r < R:=fun r hr=>hv r (mhs r hr)
 walk_at "x1"
 refine Es (N8 _ _) ?_;have x2:Ext [] h0 (h1++[MO.lst (vs.map Ae)]++[MO.lst (hs.map Ae)]):=(x1.trans Ext.more).trans Ext.more;generalize h1++[MO.lst (vs.map Ae)]++[MO.lst (hs.map Ae)]=h2 at x2 ⊢;refine Bc (Ak ?_);show wS _ [some (.ref js),some (.int d0),some (Ae R),none,some (.tup (hs.map Ae)),none,none,none,none,none,none] h2 _
 clear es mhs hv lv
 refine Ao (Dc ?_);refine Ij (List.range R) Ae (fun r=>Ae (hs.filter (·==r)).length) (by rw [List.length_range];omega) ?_ (fun r h' R' hx ex hR=>?_) fun m1 xm1=>?_
 ·walk_at "x1"
  exact ⟨_,Du (by omega),Ext.refl,fun _ _=>⟨rfl,Kd R⟩⟩
 ·refine Bc ⟨rfl,?_⟩;refine Bu (Am ?_);refine Fz hs Ae (·==r) Ae (by omega) ?_ (fun x h2 R2 hx2 ex2 hR2=>?_) fun m2 xm2=>?_
  ·walk_at "x1"
   exact ⟨_,rfl,K7 rfl⟩
  ·refine Bc ⟨rfl,?_⟩
   walk_at "x1"
   have e:(((x:Nat):Int)==(r:Int))=(x==r):=by
    by_cases z:x=r
    ·rw [z];simp
    ·rw [beq_eq_false_iff_ne.mpr z,beq_eq_false_iff_ne.mpr fun q=>z (by omega)]
   refine ⟨e,rfl,fun _=>?_⟩
   walk_at "x1"
   exact hR2 _ Ext.refl
  ·walk_at "x1"
   refine Bp (ds:=(hs.filter (·==r)).map Ae) (by intro z z';cases z') (N8 _ _) ?_;rw [List.length_map];exact hR _ (xm2.trans Ext.more)
 have gc:(m1++[MO.lst ((List.range R).map fun r=>Ae (hs.filter (·==r)).length)])[m1.length]?=some (.lst ((Yx hs R).map Ae)):=by
  rw [Aq];unfold Yx;rw [List.map_map];rfl
 have x3:Ext [] h0 (m1++[MO.lst ((List.range R).map fun r=>Ae (hs.filter (·==r)).length)]):=(x2.trans xm1).trans Ext.more;have lj:=(List.getElem?_eq_some_iff.mp gc).1;generalize m1++[MO.lst ((List.range R).map fun r=>Ae (hs.filter (·==r)).length)]=m2 at gc x3 lj ⊢;generalize m1.length=jc at gc lj ⊢
 walk_at "x1"
 show wS _ [some (.ref js),some (.int d0),some (Ae R),none,some (.tup (hs.map Ae)),none,some (.ref jc),some (.ref m2.length),none,none,none] (m2++[MO.lst []]) _;have gs2:=gs0.ext x3;have ls:=(List.getElem?_eq_some_iff.mp gs2).1;refine Hr ?_
 walk_at "x1"
 refine ⟨_,Du (by omega),Bt 0 R,fun i l h=>Ext [m2.length] (m2++[MO.lst []]) h/\(∃ S:List (List Sp),S.length=i/\(∀ ss∈S,ss.length<=8/\∀ s∈ss,Sp.ok ⟨0,0,0,[],hs⟩ ss.length s/\s.lo)/\h[m2.length]?=some (.lst (S.map rlD)))/\∃ x3 x5 x8 x9,l=[some (.ref js),some (.int d0),some (Ae R),x3,some (.tup (hs.map Ae)),x5,some (.ref jc),some (.ref m2.length),x8,x9,none],⟨Ext.refl,⟨[],rfl,fun _ z=>absurd z (by simp),Aq⟩,_,_,_,_,rfl⟩,fun _ _ _ _=>⟨rfl,rfl⟩,?_,?_⟩
 ·rintro i dd l h ed ⟨xh,⟨S,sl,so,gS⟩,y3,y5,y8,y9,rfl⟩;obtain ⟨hi,rfl⟩:=Gf ed;have xm:Ext [] m2 h:=Jk xh;have gc1:=xm.old _ _ (by simp) gc;have gs3:=gs2.ext xm;refine Bc ?_;show wS _ [some (.ref js),some (.int d0),some (Ae R),y3,some (.tup (hs.map Ae)),some (.int i),some (.ref jc),some (.ref m2.length),y8,y9,none] h _
  walk_at "x1"
  have e1:(10:Int)+(i:Int)=((10+i:Nat):Int):=by omega
  rw [e1];refine Eu (k+2) js (10+i) gs3 fun d3 h3 z3=>?_
  walk_at "x1"
  obtain ⟨L,hL,eL⟩:=Bh (d3:Int) 9 (by decide);have eL:(d3:Int).fmod 9=(L:Int):=eL;rw [eL];show wS _ [some (.ref js),some (.int d0),some (Ae R),y3,some (.tup (hs.map Ae)),some (.int i),some (.ref jc),some (.ref m2.length),some (.int L),some (.ref h3.length),none] (h3++[MO.lst []]) _;have gS3:=z3.old _ _ (by simp) gS;have gc3:=z3.old _ _ (by simp) gc1;have gs4:=gs3.ext z3;have l3:=(List.getElem?_eq_some_iff.mp gS3).1;refine Hr ?_
  walk_at "x1"
  refine ⟨_,Du (by omega),Bt 0 L,fun j l h4=>Ext [h3.length] (h3++[MO.lst []]) h4/\(∃ ss:List Sp,ss.length=j/\(∀ s∈ss,Sp.ok ⟨0,0,0,[],hs⟩ L s/\s.lo)/\h4[h3.length]?=some (.lst (ss.map spD)))/\∃ x3,l=[some (.ref js),some (.int d0),some (Ae R),x3,some (.tup (hs.map Ae)),some (.int i),some (.ref jc),some (.ref m2.length),some (.int L),some (.ref h3.length),none],⟨Ext.refl,⟨[],rfl,fun _ z=>absurd z (by simp),Aq⟩,_,rfl⟩,fun _ _ _ _=>⟨rfl,rfl⟩,?_,?_⟩
  ·rintro j dd l h4 ed ⟨x4,⟨ss,ssl,sso,gss⟩,w3,rfl⟩;obtain ⟨hj,rfl⟩:=Gf ed;have z4:=Jk x4;refine Bc ?_;show wS _ [some (.ref js),some (.int d0),some (Ae R),some (.int j),some (.tup (hs.map Ae)),some (.int i),some (.ref jc),some (.ref m2.length),some (.int L),some (.ref h3.length),none] h4 _
   walk_at "x1"
   refine ⟨ty_list gss,?_⟩
   walk_at "x1"
   have e4:(100:Int)+20 * (i:Int)+(j:Int)=((100+20 * i+j:Nat):Int):=by omega
   rw [e4];refine Eu (k+2) js (100+20 * i+j) (gs4.ext z4) fun d5 h5 z5=>?_
   walk_at "x1"
   refine dO (p:=⟨0,0,0,[],hs⟩) (k+1) d5 L R jc R1 (z5.old _ _ (by simp) (z4.old _ _ (by simp) gc3)) fun s h6 sok slo z6=>?_
   have gs6:=z6.old _ _ (by simp) (z5.old _ _ (by simp) gss)
   walk_at "x1"
   refine Cj gs6 (by rw [List.length_map];omega) ?_
   walk_at "x1"
   refine ⟨(x4.trans (z5.trans z6).weak).trans Ext.set,⟨ss++[s],by rw [List.length_append,ssl];rfl,fun z hz=>?_,by rw [Dw gs6,List.map_append];rfl⟩,_,rfl⟩;rcases List.mem_append.mp hz with hz|hz
   ·exact sso z hz
   ·rw [List.mem_singleton.mp hz];exact ⟨sok,slo⟩
  ·rintro l h4 ⟨x4,⟨ss,ssl,sso,gss⟩,w3,rfl⟩;rw [Fy] at ssl;have z4:=Jk x4;have x5:Ext [] h4 (h4++[MO.lst []]):=Ext.more;have z5:=z4.trans x5;have gss5:=x5.old _ _ (by simp) gss
   walk_at "x1"
   refine Ru (Oh gss5 Aq Af0) ⟨_,rfl,fun en=>?_,fun _=>?_⟩
   ·have L1:0 < ss.length:=by
     cases ss with
     | nil=>cases en
     | cons _ _=>exact Nat.succ_pos _
    walk_at "x1"
    have e20:(20:Int)+(i:Int)=((20+i:Nat):Int):=by omega
    rw [e20];refine Eu (k+2) js (20+i) (gs4.ext z5) fun d6 h6 z6=>?_
    have z56:=z5.trans z6;have gss6:=z6.old _ _ (by simp) gss5
    walk_at "x1"
    refine Ca (fun _=>?_) fun _=>?_
    ·walk_at "x1"
     rw [e20];refine Eu (k+2) js (20+i) (gs4.ext z56) fun d7 h7 z7=>?_
     have gss7:=z7.old _ _ (by simp) gss6
     walk_at "x1"
     refine Cz (by omega) ?_;obtain ⟨r4,hr4,er4⟩:=Bh ((d7:Int).fdiv 4) R R1;rw [er4]
     walk_at "x1"
     refine ⟨_,mL (k:=0) gss7 (by rw [List.length_map];exact L1),?_⟩
     have e9:(ss.map spD).set 0 (.tup [.str "pick",.int 0,.int (r4:Nat)])=(ss.set 0 (.pick 0 r4)).map spD:=by rw [List.map_set];rfl
     rw [e9];have z8:Ext [] h3 (h7.set h3.length (.lst ((ss.set 0 (.pick 0 r4)).map spD))):=Jk ((x4.trans ((x5.trans z6).trans z7).weak).trans Ext.set);have g8:(h7.set h3.length (.lst ((ss.set 0 (.pick 0 r4)).map spD)))[h3.length]?=some (.lst ((ss.set 0 (.pick 0 r4)).map spD)):=Dw gss7;have s8:(ss.set 0 (.pick 0 r4)).length=L:=by rw [List.length_set];exact ssl
     have o8:∀ s∈ss.set 0 (.pick 0 r4),Sp.ok ⟨0,0,0,[],hs⟩ L s/\s.lo:=fun s hs=>by
      rcases List.mem_or_eq_of_mem_set hs with hs|rfl
      ·exact sso s hs
      ·exact ⟨show 0 < 3 by decide,trivial⟩
     generalize h7.set h3.length (.lst ((ss.set 0 (.pick 0 r4)).map spD))=h8 at z8 g8 ⊢;generalize ss.set 0 (.pick 0 r4)=s8' at g8 s8 o8
     walk_at "x1"
     have gS9:=(z8).old _ _ (by simp) gS3;refine ⟨ty_list gS9,?_⟩
     walk_at "x1"
     refine Es (Dl g8) ?_
     walk_at "x1"
     refine Cj gS9 (by rw [List.length_map];omega) ?_
     walk_at "x1"
     refine ⟨xh.trans ((z3.trans z8).weak.trans Ext.set),⟨S++[s8'],by rw [List.length_append,sl];rfl,fun z hz=>?_,by rw [Dw gS9,List.map_append];rfl⟩,_,_,_,_,rfl⟩;rcases List.mem_append.mp hz with hz|hz
     ·exact so z hz
     ·rw [List.mem_singleton.mp hz,s8];exact ⟨by omega,o8⟩
    ·walk_at "x1"
     have gS9:=(z56).old _ _ (by simp) gS3;refine ⟨ty_list gS9,?_⟩
     walk_at "x1"
     refine Es (Dl gss6) ?_
     walk_at "x1"
     refine Cj gS9 (by rw [List.length_map];omega) ?_
     walk_at "x1"
     refine ⟨xh.trans ((z3.trans z56).weak.trans Ext.set),⟨S++[ss],by rw [List.length_append,sl];rfl,fun z hz=>?_,by rw [Dw gS9,List.map_append];rfl⟩,_,_,_,_,rfl⟩;rcases List.mem_append.mp hz with hz|hz
     ·exact so z hz
     ·rw [List.mem_singleton.mp hz,ssl];exact ⟨by omega,sso⟩
   ·walk_at "x1"
    have gS9:=(z5).old _ _ (by simp) gS3;refine ⟨ty_list gS9,?_⟩
    walk_at "x1"
    refine Es (Dl gss5) ?_
    walk_at "x1"
    refine Cj gS9 (by rw [List.length_map];omega) ?_
    walk_at "x1"
    refine ⟨xh.trans ((z3.trans z5).weak.trans Ext.set),⟨S++[ss],by rw [List.length_append,sl];rfl,fun z hz=>?_,by rw [Dw gS9,List.map_append];rfl⟩,_,_,_,_,rfl⟩;rcases List.mem_append.mp hz with hz|hz
    ·exact so z hz
    ·rw [List.mem_singleton.mp hz,ssl];exact ⟨by omega,sso⟩
 ·rintro l h ⟨xh,⟨S,sl,so,gS⟩,y3,y5,y8,y9,rfl⟩;rw [Fy] at sl;obtain ⟨r1,hr1,er1⟩:=Bh ((d0:Int).fdiv 16) 5 (by decide);have er1:((d0:Int).fdiv 16).fmod 5=(r1:Int):=er1;obtain ⟨r2,hr2,er2⟩:=Bh ((d0:Int).fdiv 80) 5 (by decide);have er2:((d0:Int).fdiv 80).fmod 5=(r2:Int):=er2;obtain ⟨r3,hr3,er3⟩:=Bh ((d0:Int).fdiv 400) 2 (by decide);have er3:((d0:Int).fdiv 400).fmod 2=(r3:Int):=er3;have e13:(1:Int)+(r3:Int)=((1+r3:Nat):Int):=by omega
  walk_at "x1"
  rw [er1];refine Et Aq (by simpa using hr1) fun x hx=>?_
  obtain ⟨l0,rfl⟩:∃ l0:Nat,x=Ae l0:=by
   simp only [List.mem_cons,List.mem_nil_iff,or_false] at hx;rcases hx with rfl|rfl|rfl|rfl|rfl
   ·exact ⟨0,rfl⟩
   ·exact ⟨0,rfl⟩
   ·exact ⟨0,rfl⟩
   ·exact ⟨1,rfl⟩
   ·exact ⟨2,rfl⟩
  walk_at "x1"
  rw [er2];refine Et Aq (by simpa using hr2) fun x hx=>?_
  obtain ⟨l1,rfl⟩:∃ l1:Nat,x=Ae l1:=by
   simp only [List.mem_cons,List.mem_nil_iff,or_false] at hx;rcases hx with rfl|rfl|rfl|rfl|rfl
   ·exact ⟨0,rfl⟩
   ·exact ⟨0,rfl⟩
   ·exact ⟨0,rfl⟩
   ·exact ⟨0,rfl⟩
   ·exact ⟨1,rfl⟩
  walk_at "x1"
  refine Es (Dl ((Ext.more (W:=[])).old _ _ (by simp) ((Ext.more (W:=[])).old _ _ (by simp) gS))) ?_
  walk_at "x1"
  rw [er3,e13];have e:D.tup [.int ((1+r3:Nat):Int),.tup [Ae l0,Ae l1],.tup (S.map rlD),.tup (hs.map Ae)]=(⟨1+r3,l0,l1,S.map fun l=>l.map spD,hs⟩:Pg).d:=by
   unfold Pg.d;rw [List.map_map];rfl
  rw [e];refine f ⟨1+r3,l0,l1,S.map fun l=>l.map spD,hs⟩ S _ ⟨⟨by show 1<=hs.length;omega,by show hs.length<=6;omega,fun r hr'=>?_,by show 1+r3<=10;omega⟩,rfl,fun r l el s hs'=>Afz rfl ((so l (List.mem_of_getElem? el)).2 s hs').1,fun l hl=>by have:=(so l hl).1;omega⟩ (fun l hl s hs'=>((so l hl).2 s hs').2) (((x0.trans x3).trans (Jk xh)).trans (Ext.more.trans Ext.more));show r < (S.map _).length;rw [List.length_map,sl];exact hr r hr'
end
theorem qI {n:Nat}{ds:List D}{d:D}{mh:MH}{P:D->MH->Prop}(e1:mh[n]?=some (.lst ds)) (hd:ds[ds.length - 1]?=some d) (h:P d mh):wV (ixD (.ref n) (.int (-1)) mh) P:=by
 have hl:0 < ds.length:=by
  cases ds with
  | nil=>cases hd
  | cons _ _=>exact Nat.succ_pos _
 refine ⟨d,mh,?_,h⟩;have ea:atI ds (-1)=some d:=by
  unfold atI ixN;rw [if_neg (by decide),if_pos (by omega)];show ds[(-1+(ds.length:Int)).toNat]?=_;have:(-1+(ds.length:Int)).toNat=ds.length - 1:=by omega
  rw [this];exact hd
 simp only [ixD,Lr e1,gO,Ec,e1,ea]
theorem qJ (k js:Nat) (d v:D) (vs:List D) {h:MH}(g:h[js]?=some (.lst (vs++[v]))):My (Gk (k+1)) fuel mk0.ci [.ref js] [d] h=some (v,h.set js (.lst vs)):=by
 unfold My;rw [if_pos (show [d].length=mk0.ci.ps.length from (show 1=mk0.ci.ps.length by decide +kernel)),vN];have el:([d].map some++List.replicate (mk0.ci.N.length - [d].length) none++[D.ref js].map some)=[some d,some (.ref js)]:=by
  have:mk0.ci.N.length - [d].length=0:=(show mk0.ci.N.length - 1=0 by decide +kernel);rw [this];rfl
 rw [el];have e1:bW (.ref js) [] h=some (v,h.set js (.lst vs)):=by
  show (match h[js]? with | some (.lst ds)=>(match ds[ds.length - 1]? with | some y=>some (y,h.set js (.lst ds.dropLast)) | none=>none) | _=>none)=_;rw [g];dsimp only;rw [List.length_append,List.length_singleton,Nat.add_sub_cancel,List.getElem?_append_right (Nat.le_refl _),Nat.sub_self,List.dropLast_concat];rfl
 have w:wS (Ac0 k) [some d,some (.ref js)] h fun fl _ h'=>fl=.rt v/\h'=h.set js (.lst vs):=by
  unfold Ac0;refine Ao (Gw (T6 (Ax (by with_unfolding_all rfl) ⟨ty_list g,Ai ⟨_,_,e1,?_⟩⟩)));exact ⟨rfl,rfl⟩
 obtain ⟨fl,l,h',e,rfl,rfl⟩:=w;rw [e]
theorem qK {k i js:Nat}{mr:DM (List D)}{loc:DL.Loc}{mh:MH}{P:D->MH->Prop}(el:loc[i]?=some (some (.clo mk0.ci [.ref js]))) (h:wD mr loc mh fun ds h1=>∃ d v vs,ds=[d]/\h1[js]?=some (.lst (vs++[v]))/\P v (h1.set js (.lst vs))):wD (Rp (Gk (k+2)).cal (Gk (k+2)).clo i mr) loc mh P:=by
 obtain ⟨ds,h1,e1,d,v,vs,rfl,g,q⟩:=h;refine ⟨v,_,?_,q⟩;unfold Rp;rw [el];show (mr.bnd fun ds=>Zl (My (Gk (k+1)) fuel mk0.ci [.ref js] ds)) loc mh=_;unfold DM.bnd;rw [e1];exact qJ k js d v vs g
theorem Qk {α:Type}{l:List α}(h:0 < l.length):∃ a x,l=a++[x]:=by
 refine ⟨l.dropLast,l.getLast (by intro z;rw [z] at h;cases h),?_⟩;rw [List.dropLast_concat_getLast]
theorem Adm {W:List Nat}{a b:MH}{n:Nat}{o:MO}(x:Ext W a b) (h:n∈W):Ext W a (b.set n o):=⟨by rw [List.length_set];exact x.len,fun i o' hi e=>by
 rw [List.getElem?_set_ne (by intro z;rw [z] at h;exact hi h)]
 exact x.old i o' hi e⟩
local macro_rules | `(tactic| walk_at "x6") => `(tactic| repeat (first | walk_at "s" | with_reducible refine Ht ?_ | with_reducible refine Fd (by simp) ?_ | with_reducible refine Gi (by decide) (by decide) ?_ | with_reducible refine Cz (by decide) ?_))
local macro_rules | `(tactic| walk_at "x8") => `(tactic| repeat (first | walk_at "s" | with_reducible refine Ht ?_ | with_reducible refine Fd (by simp) ?_ | with_reducible refine Dm ?_ | with_reducible refine Ga ?_ | with_reducible refine Dn ?_ | with_reducible refine G4 ?_ | with_reducible refine Ik ?_))
section
variable {mh:MH}{P:D->MH->Prop}{p:Pg}{w:Wd}{S:List (List Sp)}
noncomputable def pt0:Pt:=⟨0,0,0,0,-1,-1,-1,0,0,false⟩
noncomputable def qL (p:Pg):Wd:=⟨List.replicate p.H pt0,List.replicate p.H (List.replicate p.H []),p.l0,p.l1⟩
theorem Adn (po:p.ok):(qL p).ok p:=by
 have h1:1<=p.H:=po.h1;refine ⟨List.length_replicate,fun i r q er eq=>?_,List.length_replicate,fun v hv=>?_,Nat.le_refl _,Nat.le_refl _⟩
 ·have hq:q∈List.replicate p.H pt0:=List.mem_of_getElem? eq;rw [(List.mem_replicate.mp hq).2];exact Wg h1 (by decide) (by omega)
 ·rw [(List.mem_replicate.mp hv).2];exact ⟨List.length_replicate,fun l hl=>by rw [(List.mem_replicate.mp hl).2];exact ⟨Nat.zero_le _,fun z hz=>absurd hz (by simp)⟩⟩
theorem Af1:(qL p).d=.tup [.tup (List.replicate p.H pt0.d),.tup (List.replicate p.H (.tup (List.replicate p.H (.tup [])))),.tup [.int p.l0,.int p.l1]]:=by
 unfold qL Wd.d;dsimp only;rw [List.map_replicate,List.map_replicate];unfold Qx;rw [List.map_replicate];rfl
theorem dU (k:Nat) (po:p.ok) (f:P (qL p).d mh):wV (Ac (Gk (k+2)) fuel f42 [p.d] mh) P:=by
 have h1:1<=p.H:=po.h1;have h6:p.H<=6:=po.h6;refine Aj (Ab1 (k+1)) nD.1 nD.2 rfl ?_;show wS (b42 (k+1)) [some p.d,none] mh _;unfold b42 Pg.d
 walk_at "x8"
 refine Bp (ds:=p.plays.map Ae) (by intro z z';cases z') rfl ?_;rw [List.length_map]
 walk_at "x8"
 refine Av (aQ k 0 mh) ?_
 walk_at "x8"
 refine Ob h1 (by show p.H<=1000;omega) ?_
 walk_at "x8"
 refine Ob h1 (by show p.H<=1000;omega) ?_
 walk_at "x8"
 refine Ob h1 (by show p.H<=1000;omega) ?_
 walk_at "x8"
 rw [Af1] at f;exact f
theorem wF (k js:Nat) (g:Prg p S) {vs:List Int}(lv:vs.length=20) (gv:IsI mh js vs) (f:∀ (ws:List Wd) jm jw h',(∀ w∈ws,w.ok p)->ws.length<=21->h'[jw]?=some (.lst (ws.map Wd.d))->Ext [js] mh h'->P (.tup [.ref jm,.ref jw]) h'):wV (Ac (Gk (k+8)) fuel f85 [p.d,.clo mk0.ci [.ref js],.int 20] mh) P:=by
 have hjs:=(List.getElem?_eq_some_iff.mp gv).1;refine Aj (Acr (k+7)) oR.1 oR.2 rfl ?_;show wS (b85 (k+7)) [some p.d,some (.clo mk0.ci [.ref js]),some (.int 20),none,none,none,none] mh _;unfold b85
 walk_at "x6"
 refine dU (k+5) g.po ?_
 walk_at "x6"
 generalize hm1:mh++[MO.lst []]=m1;have l1:m1.length=mh.length+1:=by rw [← hm1];simp
 have g1:m1[mh.length]?=some (.lst []):=by rw [← hm1];exact Aq
 have x1:Ext [js] mh m1:=by rw [← hm1];exact Ext.more
 have gv1:IsI m1 js vs:=by rw [← hm1];exact gv.ext Ext.more
 refine mO (fun n l h=>∃ (ms:List D) (ws:List Wd) (us:List Int) (x5 x6:Option D),ms.length+n=20/\l=[some p.d,some (.clo mk0.ci [.ref js]),some (.int 20),some (.ref mh.length),some (.ref m1.length),x5,x6]/\ws.length=ms.length+1/\(∀ w∈ws,w.ok p)/\h[mh.length]?=some (.lst ms)/\h[m1.length]?=some (.lst (ws.map Wd.d))/\us.length=n/\IsI h js us/\Ext [js] mh h) 20 (by decide) ⟨[],[qL p],vs,none,none,rfl,rfl,rfl,fun w hw=>by rw [List.mem_singleton.mp hw];exact Adn g.po,(Ext.more (W:=[])).old _ _ (by simp) g1,Aq,lv,gv1.ext Ext.more,x1.trans Ext.more⟩ ?_;rintro n l h ⟨ms,ws,us,x5,x6,hn,rfl,lw,wo,gm,gw,lu,gu,xh⟩
 walk_at "x6"
 refine Bp (by intro z z';cases z') (Dl gm) ?_
 walk_at "x6"
 refine Ca (fun e=>?_) fun e=>?_
 ·have e:((ms.length:Nat):Int) < 20:=of_decide_eq_true e;obtain ⟨wa,wl,ew⟩:=Qk (l:=ws) (by omega);obtain ⟨ua,ul,eu⟩:=Qk (l:=us) (by omega);have wlo:wl.ok p:=wo wl (by rw [ew];simp);have hd:(ws.map Wd.d)[(ws.map Wd.d).length - 1]?=some wl.d:=by
   rw [ew,List.map_append,List.length_append,List.map_singleton,List.length_singleton,Nat.add_sub_cancel,List.getElem?_append_right (Nat.le_refl _),Nat.sub_self];rfl
  walk_at "x6"
  refine qI gw hd ?_
  walk_at "x6"
  refine Rz (k+2) g wlo fun j h2 x2 gj=>?_
  have gj:h2[j]?=some (.lst (mvL p S wl)):=gj;have all:∀ m∈mvL p S wl,Mv p S wl m:=fun m hm=>xO hm
  generalize mvL p S wl=ml at gj all;have gm2:=x2.old _ _ (by simp) gm;have gw2:=x2.old _ _ (by simp) gw;have gu2:=gu.ext x2;have xh2:=xh.trans x2.weak;have hj2:=(List.getElem?_eq_some_iff.mp gj).1
  walk_at "x6"
  refine Bp (by intro z z';cases z') (Dl gj) ?_
  walk_at "x6"
  refine Ca (fun e0=>?_) fun e0=>?_
  ·refine Ao ⟨_,_,_,rfl,?_⟩;show Xf _ _ Fl.nx _ _
   walk_at "x6"
   exact f ws _ _ _ wo (by omega) gw2 xh2
  ·have e0:¬ ((ml.length:Nat):Int)=0:=beq_eq_false_iff_ne.mp e0;have hl:0 < ml.length:=by omega
   walk_at "x6"
   refine qK (k:=k+6) (js:=js) (by with_unfolding_all rfl) ?_
   walk_at "x6"
   refine cY (Dl gj) ?_;have gu3:(h2++[MO.lst ml])[js]?=some (.lst (ua.map D.int++[.int ul])):=by
    have:=gu2.ext (Ext.more (g:=[MO.lst ml]));unfold IsI at this;rw [this,eu,List.map_append];rfl
   walk_at "x6"
   refine ⟨_,_,_,rfl,gu3,?_⟩;have x3:Ext [js] h2 ((h2++[MO.lst ml]).set js (.lst (ua.map D.int))):=Adm Ext.more (by simp);have gua:IsI ((h2++[MO.lst ml]).set js (.lst (ua.map D.int))) js ua:=Dw gu3;have nj:j≠js:=fun z=>by
    rw [z] at gj;have gu2:h2[js]?=some (.lst (us.map D.int)):=gu2;rw [gu2] at gj;injection gj with gj
    injection gj with gj
    cases ml with
    | nil=>cases hl
    | cons m0 mr =>
     obtain ⟨ds,ed,_⟩:=qD (all m0 List.mem_cons_self);obtain ⟨i,_,ei⟩:=List.mem_map.mp (show m0∈us.map D.int by rw [gj];exact List.mem_cons_self);rw [ed] at ei;cases ei
   generalize (h2++[MO.lst ml]).set js (.lst (ua.map D.int))=h3 at x3 gua ⊢;have gj3:h3[j]?=some (.lst ml):=x3.old _ _ (by simpa using nj) gj;have gm3:=x3.old _ _ (by intro z;have:=List.mem_singleton.mp z;omega) gm2;have gw3:=x3.old _ _ (by intro z;have:=List.mem_singleton.mp z;omega) gw2;have xh3:=xh2.trans x3
   walk_at "x6"
   refine Bp (by intro z z';cases z') (Dl gj3) ?_;refine Cz (by omega) ?_;obtain ⟨r,hr,er⟩:=Bh ul ml.length hl;rw [er];refine Et gj3 hr fun mv hmv=>?_
   have mvv:=all mv hmv
   walk_at "x6"
   refine ⟨ty_list gm3,?_⟩
   walk_at "x6"
   refine Cj gm3 (by omega) ?_;have gm4:(h3.set mh.length (.lst (ms++[mv])))[mh.length]?=some (.lst (ms++[mv])):=Dw gm3;have gw4:(h3.set mh.length (.lst (ms++[mv])))[m1.length]?=some (.lst (ws.map Wd.d)):=(Ext.set (n:=mh.length)).old _ _ (by intro z;have:=List.mem_singleton.mp z;omega) gw3;have gu4:IsI (h3.set mh.length (.lst (ms++[mv]))) js ua:=(Ext.set (n:=mh.length)).old _ _ (by intro z;have:=List.mem_singleton.mp z;omega) gua;have xh4:Ext [js] mh (h3.set mh.length (.lst (ms++[mv]))):=xh3.setNew (Nat.le_refl _);generalize h3.set mh.length (.lst (ms++[mv]))=h4 at gm4 gw4 gu4 xh4 ⊢
   walk_at "x6"
   refine ⟨ty_list gw4,?_⟩
   walk_at "x6"
   refine qI gw4 hd ?_
   walk_at "x6"
   refine dH k g wlo mvv fun w' h5 o5 x5=>?_
   have gm5:=x5.old _ _ (by simp) gm4;have gw5:=x5.old _ _ (by simp) gw4;have gu5:=gu4.ext x5;have xh5:=xh4.trans x5.weak
   walk_at "x6"
   refine Cj gw5 (by rw [List.length_map];omega) ?_
   walk_at "x6"
   refine ⟨n - 1,by omega,ms++[mv],ws++[w'],ua,_,_,by rw [List.length_append,List.length_singleton];omega,rfl,by rw [List.length_append,List.length_append,lw];rfl,fun z hz=>?_,(Ext.set (n:=m1.length)).old _ _ (by intro z;have:=List.mem_singleton.mp z;omega) gm5,by rw [Dw gw5,List.map_append];rfl,?_,(Ext.set (n:=m1.length)).old _ _ (by intro z;have:=List.mem_singleton.mp z;omega) gu5,xh5.setNew (by omega)⟩
   ·rcases List.mem_append.mp hz with hz|hz
    ·exact wo z hz
    ·rw [List.mem_singleton.mp hz];exact o5
   ·rw [eu,List.length_append,List.length_singleton] at lu;omega
 ·have hn0:n=0:=by
   have:=of_decide_eq_false e;omega
  walk_at "x6"
  exact f ws _ _ _ wo (by omega) gw xh
end
theorem wH {G:Gb}{n:Nat}{x:Str}{I:FnI}{m:MakI}{b:SM}{ds:List D}{mh:MH}{np c:Nat}{P:D->MH->Prop}(hb:Zx G n x I m=b) (hp:I.ps.length=np) (hN:I.N.length=c) (hl:ds.length=np)
  (h:wS b (ds.map some++List.replicate (c - np) none) mh (T9 P)):wV (Lx G n x I m ds mh) P:=by
 obtain ⟨f,l,h',e,p⟩:=h;cases f with
 | rt d=>exact ⟨d,h',by unfold Lx;rw [if_pos (by rw [hp];exact hl),hb,hN,hl,e],p⟩
 | nx=>exact ⟨.non,h',by unfold Lx;rw [if_pos (by rw [hp];exact hl),hb,hN,hl,e],p⟩
 | bk=>exact p.elim
 | ct=>exact p.elim
theorem Ado {ns:List Int}{lo hi:Option Int}{mh:MH}{P:D->MH->Prop}(h:∀ ms:List Int,P (.ref mh.length) (mh++[.lst (ms.map D.int)])):wV (slD (.rol (ns.map D.int)) lo hi mh) P:=by
 refine ⟨_,_,rfl,?_⟩;have e:DL.cutD (ns.map D.int) lo hi=(DL.cutD ns lo hi).map D.int:=by
  unfold DL.cutD;rw [List.length_map,List.map_take,List.map_drop]
 rw [e];exact h _
theorem Adp {loc:DL.Loc}{mh:MH}{K:Fl->DL.Loc->MH->Prop}{d:D}(e1:mh[0]?=some (.plq "law")) (e2:loc[7]?=some (some d)) (h:K .nx (loc.set 3 (some (.clo mk0.ci [d]))) mh):wS (cM "law" mk0) loc mh K:=by
 refine ⟨.nx,_,mh,?_,h⟩;have ej:mk0.js=[7]:=by decide +kernel
 have ei:mk0.i=3:=by decide +kernel
 have ep:mk0.pl=0:=rfl;unfold cM;rw [ep,e1];dsimp only;rw [if_pos (by decide +kernel),ej];simp only [J7,e2];rw [ei]
noncomputable def depth:Nat:=30
local macro_rules | `(tactic| walk_at "x7") => `(tactic| repeat (first | walk_at "s" | with_reducible refine Ht ?_ | with_reducible refine Fd (by simp) ?_ | with_reducible refine Gi (by decide) (by decide) ?_ | with_reducible refine Cz (by decide) ?_ | with_reducible refine Pz (Or.inl (by decide)) ?_))
theorem Adq (ns:List Int):wV (Lx (Gk (29+1)) fuel "law" f93 mk0 [.rol (ns.map D.int)] [.plq "law"]) fun d _=>d=.bl true:=by
 refine wH (vM 29) pA.1 pA.2 rfl ?_
 show wS (Acz 29) [some (.rol (ns.map D.int)),none,none,none,none,none,none,none] [.plq "law"] _;unfold Acz
 walk_at "x7"
 refine Ado fun ms=>?_
 walk_at "x7"
 show wV (Ac (Gk 29) fuel f90 [.ref 1] [MO.plq "law",.lst (ms.map D.int)]) _
 have gs:IsI [MO.plq "law",.lst (ms.map D.int)] 1 ms:=rfl
 have gp:[MO.plq "law",.lst (ms.map D.int)][0]?=some (.plq "law"):=rfl
 generalize [MO.plq "law",.lst (ms.map D.int)]=m0 at gs gp ⊢;refine dR 25 1 gs fun p S m1 g lo x1=>?_
 have gs1:=gs.ext x1;have gp1:=x1.old _ _ (by simp) gp
 walk_at "x7"
 show wD _ [some (.ref 1),some p.d,none,none,none,none,none,none] m1 _;refine T8 ?_
 walk_at "x7"
 refine ⟨_,Du (B:=20) (by decide),Bt 0 20,fun i acc h=>(∃ vs:List Int,acc=vs.map D.int/\vs.length=i)/\Ext [] m1 h,by decide,⟨⟨[],rfl,rfl⟩,Ext.refl⟩,fun _ _ _ _=>⟨rfl,rfl⟩,?_,?_,?_⟩
 ·rintro i acc h ⟨⟨vs,rfl,lv⟩,_⟩;rw [List.length_map,lv];exact Nat.le_refl _
 ·rintro i dd acc h ed ⟨⟨vs,rfl,lv⟩,xh⟩;obtain ⟨hi,rfl⟩:=Gf ed;refine Bc ?_;show wD _ [none,some (.int i),some (.ref 1)] h _;refine Ai ⟨fun _=>?_,fun e=>by cases e⟩
  walk_at "x7"
  have e2:(300:Int)+(i:Int)=((300+i:Nat):Int):=by omega
  rw [e2];refine Eu 28 1 (300+i) (gs1.ext xh) fun v h1 x1=>?_
  exact ⟨⟨vs++[(v:Int)],by rw [List.map_append];rfl,by rw [List.length_append,lv];rfl⟩,xh.trans x1⟩
 rintro acc m2 ⟨⟨vs,rfl,lv⟩,x2⟩;rw [Fy] at lv;have gs2:IsI (m2++[MO.lst (vs.map D.int)]) 1 ms:=(gs1.ext x2).ext Ext.more
 have gp2:(m2++[MO.lst (vs.map D.int)])[0]?=some (.plq "law"):=(Ext.more (W:=[])).old _ _ (by simp) (x2.old _ _ (by simp) gp1);have gv:IsI (m2++[MO.lst (vs.map D.int)]) m2.length vs:=Aq;have l1:1 < m2.length:=Ac1 (gs1.ext x2);generalize m2++[MO.lst (vs.map D.int)]=m3 at gs2 gp2 gv ⊢;generalize m2.length=jp at gv l1 ⊢
 walk_at "x7"
 show wS _ [some (.ref 1),some p.d,none,none,none,none,none,some (.ref jp)] m3 _;refine Adp gp2 rfl ?_
 walk_at "x7"
 refine wF 21 jp g lv gv fun ws jm jw m4 wo lw gw x4=>?_
 have gs4:IsI m4 1 ms:=x4.old _ _ (by intro z;have:=List.mem_singleton.mp z;omega) gs2;refine mK rfl (Ak ?_);show wS _ [some (.ref 1),some p.d,none,some (.clo mk0.ci [.ref jp]),some (.ref jm),some (.ref jw),none,some (.ref jp)] m4 _;refine Ao (Hr ?_)
 walk_at "x7"
 refine Bp (by intro z z';cases z') (Dl gw) ?_
 walk_at "x7"
 rw [List.length_map];refine ⟨_,Du (by omega),Bt 0 ws.length,fun i l h=>(∃ x2 x6,l=[some (.ref 1),some p.d,x2,some (.clo mk0.ci [.ref jp]),some (.ref jm),some (.ref jw),x6,some (.ref jp)])/\Ext [] m4 h,⟨⟨_,_,rfl⟩,Ext.refl⟩,fun _ _ _ _=>⟨rfl,rfl⟩,?_,?_⟩
 ·rintro i dd l h ed ⟨⟨x2,x6,rfl⟩,xh⟩;obtain ⟨hi,rfl⟩:=Gf ed;refine Bc ?_;show wS _ [some (.ref 1),some p.d,some (.int i),some (.clo mk0.ci [.ref jp]),some (.ref jm),some (.ref jw),x6,some (.ref jp)] h _;refine Ao (Hr ?_)
  walk_at "x7"
  refine ⟨_,Du (B:=3) (by decide),Bt 0 3,fun t l h=>(∃ x6,l=[some (.ref 1),some p.d,some (.int i),some (.clo mk0.ci [.ref jp]),some (.ref jm),some (.ref jw),x6,some (.ref jp)])/\Ext [] m4 h,⟨⟨_,rfl⟩,xh⟩,fun _ _ _ _=>⟨rfl,rfl⟩,?_,?_⟩
  ·rintro t dd l h ed ⟨⟨x6,rfl⟩,xh⟩;obtain ⟨ht,rfl⟩:=Gf ed;refine Bc ?_;show wS _ [some (.ref 1),some p.d,some (.int i),some (.clo mk0.ci [.ref jp]),some (.ref jm),some (.ref jw),some (.int t),some (.ref jp)] h _;have gwh:=xh.old _ _ (by simp) gw
   walk_at "x7"
   refine P0 gwh (d:=(ws[i]'hi).d) (by rw [List.getElem?_map,List.getElem?_eq_getElem hi];rfl) ?_
   walk_at "x7"
   have e4:(400:Int)+3 * (i:Int)+(t:Int)=((400+3 * i+t:Nat):Int):=by omega
   rw [e4];refine Eu 28 1 (400+3 * i+t) (gs4.ext xh) fun v h1 x1=>?_
   walk_at "x7"
   refine dM 20 (v:Int) g (wo _ (List.getElem_mem hi)) lo fun h2 x2=>?_
   walk_at "x7"
   exact ⟨⟨_,rfl⟩,(xh.trans x1).trans x2⟩
  ·rintro l h ⟨⟨x6,rfl⟩,xh⟩
   walk_at "x7"
   exact ⟨⟨_,_,rfl⟩,xh⟩
 ·rintro l h ⟨⟨x2,x6,rfl⟩,xh⟩
  walk_at "x7"
  rfl
theorem main (ns:List Int) (_h:ns.length<=63):∃ mh',Lx (GkN Tt depth) fuel "law" f93 mk0 [.rol (ns.map D.int)] [.plq "law"]=some (.bl true,mh'):=by
 obtain ⟨d,h,e,rfl⟩:=Adq ns;exact ⟨h,e⟩
end Lw
open PySem PySem.W PyProof.Rows
namespace PySem.W.Fast
def tw3737958188433334600:Unit:=()
def tw3267722552566639672:Unit:=()
def tw13971084042142154790:Unit:=()
def tw12600212402281531201:Unit:=()
def tw4325740918404073810:Unit:=()
def tw332097987254160419:Unit:=()
def tw11195957382576419572:Unit:=()
def tw12219961619962668181:Unit:=()
def tw3662378467879870481:Unit:=()
def tw15281032710955272044:Unit:=()
def tw13548081605395409017:Unit:=()
def tw360216578105762233:Unit:=()
def tw3204032864927803155:Unit:=()
def tw17942506744350230674:Unit:=()
def tw3205904389973341578:Unit:=()
def tw1436805080253448000:Unit:=()
def tw1684003429694114671:Unit:=()
def tw3225293120018869201:Unit:=()
def tw13541450808178459148:Unit:=()
def tw8889038401311907478:Unit:=()
def tw14002456524706303291:Unit:=()
def tw17056550912259367622:Unit:=()
def tw7731511953825025426:Unit:=()
def tw16498643945305354213:Unit:=()
def tw1997765061690546534:Unit:=()
def tw428780497972526529:Unit:=()
def tw17207406948095757998:Unit:=()
def tw6552153490175946088:Unit:=()
def tw11361099704305070680:Unit:=()
def tw3471101263670627529:Unit:=()
def tw8400618722291968388:Unit:=()
def tw4398934696979667507:Unit:=()
def tw15608348026360037830:Unit:=()
def tw1863085323619310128:Unit:=()
def tw6170939401022032470:Unit:=()
def tw4313853444038091813:Unit:=()
def tw2273199579351049201:Unit:=()
def tw5848653173516956924:Unit:=()
def tw5506044768714430691:Unit:=()
def tw14735921989920451872:Unit:=()
def tw16947671047225732245:Unit:=()
def tw361848029981941952:Unit:=()
def tw17975988716838346365:Unit:=()
def tw6822520510268660709:Unit:=()
def tw14193278978674449224:Unit:=()
def tw8418805554377516705:Unit:=()
def tw2724834042322682945:Unit:=()
def tw5923105329823201695:Unit:=()
def tw14678358842356691769:Unit:=()
def tw9563678631769571635:Unit:=()
def tw4506240996316137679:Unit:=()
def tw8666870701151836565:Unit:=()
def tw18355980724010048193:Unit:=()
def tw7835237224073109433:Unit:=()
def tw13035720592149957084:Unit:=()
def tw9171093635232054860:Unit:=()
def tw10538687035271390117:Unit:=()
def tw2514407906359979933:Unit:=()
def tw6335005157840793758:Unit:=()
def tw12661140355449000302:Unit:=()
def tw3011685860433742497:Unit:=()
def tw13031986472041311366:Unit:=()
def tw14299817517979453303:Unit:=()
def tw5099686212779812512:Unit:=()
def tw9138733523342796748:Unit:=()
def tw4208384136304754820:Unit:=()
def tw5612426579755525700:Unit:=()
def tw14719367937861234071:Unit:=()
def tw13497212712595136957:Unit:=()
def tw6884885049503656129:Unit:=()
def tw3061896569414408132:Unit:=()
def tw13102517530872844290:Unit:=()
def tw11205363238349343795:Unit:=()
def tw460128263541607765:Unit:=()
def tw11275253987684581222:Unit:=()
def tw1762094185367813642:Unit:=()
def tw18049549509857817402:Unit:=()
def tw17021204718726556235:Unit:=()
def tw12695766092573499540:Unit:=()
def tw16821503269480223871:Unit:=()
def tw8412889214470009460:Unit:=()
def tw1920094626702631323:Unit:=()
def tw15231385300596772659:Unit:=()
def tw2365471573775423539:Unit:=()
def tw17605043852443592339:Unit:=()
def tw17484513678247786503:Unit:=()
def tw3280031410716087816:Unit:=()
def tw10375488774412451118:Unit:=()
def tw6869820092476566751:Unit:=()
def tw9813568725584472847:Unit:=()
def tw14495888273609364952:Unit:=()
def tw9477317522266661404:Unit:=()
def tw16356764975853348514:Unit:=()
def tw7515227114739821301:Unit:=()
end PySem.W.Fast
set_option maxRecDepth 100000 in
set_option maxHeartbeats 0 in
theorem PySem.Challenge.cw_letterall_k64_squares_holds : PySem.Challenge.rw_letterall_k64_squares.Holds := by
 w_on; o_law; z_head; (case hw => w_witness2)
 k_fill
 refine DL.lB (fun _ => by kernel_rfl) (DL.Afb (l := PySem.Challenge.rw_letterall_k64_squares) (Tt := Lw.Tt) (I := Lw.f93) (m := Lw.mk0) (x := "_law_script") Lw.depth rfl rfl (fun w h Y => Y) ⟨rfl, by decide, by decide⟩ (by kernel_rfl) (by decide +kernel) (by kernel_rfl) ?T Lw.main)
 case T =>
  intro w mg h KX G;refine' Lw.tbM KX G ?qla ?qll ?qle ?qlc ?qlv ?qlp ?qlh ?qlb ?qlm ?ql6 ?ql7 ?rf ?rb ?rc ?C29a ?C29b ?C29c ?C29d ?C29e ?C29f ?a29_1 ?b29_1 ?l29_1 ?c29_1 ?k29_1 ?a29_0 ?b29_0 ?l29_0 ?c29_0 ?k29_0 ?C29m ?C29k
  (case qla | qll => k_is)
  (case qle => exact rfl)
  (case qlc => k_is)
  (case qlv => exact rfl)
  (case qlp => k_is)
  (case qlh => (first | kernel_rfl | k_is))
  (case qlb | qlm => k_is)
  (case ql6 => decide)
  (case ql7 => decide)
  (case rf => (repeat (apply DL.lC; (focus k_is); (focus k_is); (focus k_is); (focus k_is))); exact trivial)
  (case rb => (repeat (apply DL.lF; (focus k_is))); exact trivial)
  (case rc => (repeat (apply DL.lE; (focus k_is); (focus kernel_rfl))); exact trivial)
  (case C29a | C29b | C29c | C29d | C29e | C29f | a29_1 | b29_1 | l29_1 | c29_1 | k29_1 | a29_0 | b29_0 | l29_0 | c29_0 | k29_0 | C29m | C29k => k_is)
#print axioms PySem.Challenge.cw_letterall_k64_squares_holds
