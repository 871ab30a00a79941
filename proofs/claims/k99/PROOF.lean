import PyProof.Rows.All
import Wide.All
import OpenK.AllK
import Wide.FinOn
import Lean
import PyProof.EqAt
import PyProof.EqKinds
import PyProof.TupleCall
import KE.BitLaws
import PySem.Challenge.RW_letterall_k99_whole_neighbours_exchanged
set_option bootstrap.genMatcherCode false
set_option compiler.extract_closed false
noncomputable section
set_option Elab.async false
set_option linter.all false
set_option maxRecDepth 100000
set_option maxHeartbeats 8000000
namespace L2
open PySem PySem.Spec PyProof.Rows
noncomputable abbrev Key:=Sum Int Str
noncomputable def vW:Key->Value->Bool
 | .inl k,v=>Value.isInt k v
 | .inr x,v=>Value.isStrOf x v
noncomputable def Afm (w:World):Key->Int
 | .inl k=>hashInt k
 | .inr x=>hashStr w x
theorem Cj:∀ {k:Key}{v:Value},vW k v=true->(∃ i t,k=Sum.inl i/\v=Value.int i t)\/(∃ x t,k=Sum.inr x/\v=Value.str x t)
 | .inl i,v,h=>by
  obtain ⟨t,e⟩:=Value.isInt_shape (k:=i) (v:=v) h;exact .inl ⟨i,t,rfl,e⟩
 | .inr x,v,h=>by
  obtain ⟨t,e⟩:=Value.isStrOf_shape (x:=x) (v:=v) h;exact .inr ⟨x,t,rfl,e⟩
theorem xK (a b:Int):decide ((Sum.inl a:Key)=Sum.inl b)=(a==b):=by
 by_cases e:a=b
 ·subst e;simp
 ·have h:¬ (Sum.inl a:Key)=Sum.inl b:=fun q=>e (Sum.inl.inj q)
  rw [decide_eq_false h];exact (beq_eq_false_iff_ne.mpr e).symm
theorem xM (a b:Str):decide ((Sum.inr a:Key)=Sum.inr b)=decide (a=b):=by
 by_cases e:a=b
 ·subst e;simp
 ·have h:¬ (Sum.inr a:Key)=Sum.inr b:=fun q=>e (Sum.inr.inj q)
  rw [decide_eq_false h,decide_eq_false e]
theorem xN (a:Int) (b:Str):decide ((Sum.inl a:Key)=Sum.inr b)=false:=decide_eq_false (fun q=>nomatch q)
theorem xO (a:Str) (b:Int):decide ((Sum.inr a:Key)=Sum.inl b)=false:=decide_eq_false (fun q=>nomatch q)
noncomputable def Ru (prog:Program) (w:World):PySem.KeyKind prog w Key where
 is:=vW
 hash:=Afm w
 inj:=fun v a b ha hb=>by
  rcases Cj ha with ⟨i,t,rfl,rfl⟩|⟨x,t,rfl,rfl⟩
  ·rcases Cj hb with ⟨j,u,rfl,e⟩|⟨y,u,rfl,e⟩
   ·injection e with e1 _;rw [e1]
   ·exact nomatch e
  ·rcases Cj hb with ⟨j,u,rfl,e⟩|⟨y,u,rfl,e⟩
   ·exact nomatch e
   ·injection e with e1 _;rw [e1]
 byValue:=fun k v h=>by
  rcases Cj h with ⟨i,t,rfl,rfl⟩ | ⟨x,t,rfl,rfl⟩ <;> rfl
 pyHash:=fun hv h=>by
  rcases Cj hv with ⟨i,t,rfl,rfl⟩|⟨x,t,rfl,rfl⟩
  ·exact wpAny_pyHash_int h
  ·exact wpAny_pyHash_str h
 eqBool:=fun hu hv h=>by
  rcases Cj hu with ⟨i,t,rfl,rfl⟩|⟨x,t,rfl,rfl⟩
  ·rcases Cj hv with ⟨j,u,rfl,rfl⟩|⟨y,u,rfl,rfl⟩
   ·rw [xK] at h;exact wpAny_eqBool_int h
   ·rw [xN] at h;exact SeqAt.EqAt.int_str i t y u _ _ _ _ h
  ·rcases Cj hv with ⟨j,u,rfl,rfl⟩|⟨y,u,rfl,rfl⟩
   ·rw [xO] at h;exact SeqAt.EqAt.str_int x t j u _ _ _ _ h
   ·rw [xM] at h;exact wpAny_eqBool_str h
 «strs»:=fun k x t v h=>by
  rcases Cj h with ⟨i,u,rfl,e⟩|⟨y,u,rfl,e⟩
  ·exact nomatch e
  ·injection e with e1 _
   subst e1;cases v <;> rfl
inductive V where
 | non | bl (b:Bool) | int (i:Int) | str (x:Str) | byt (b:Array UInt8) | flt (b:UInt64) | ref (a:Addr) | ty (n:String)
 deriving DecidableEq
noncomputable def RelV:V->Value->Prop
 | .non,u=>u=Value.none
 | .bl b,u=>u=Value.bool b
 | .int i,u=>∃ t,u=Value.int i t
 | .str x,u=>∃ t,u=Value.str x t
 | .byt b,u=>∃ t,u=Value.bytes b t
 | .flt b,u=>∃ t,u=Value.float b t
 | .ref a,u=>u=Value.ref a
 | .ty n,u=>u=Value.type n
noncomputable abbrev Vals:List V->List Value->Prop:=Paired RelV
theorem Vals.length {xs:List V}{us:List Value}(r:Vals xs us):xs.length=us.length:=Paired.length r
theorem Vals.get:∀ {xs:List V}{us:List Value}{i:Nat}{x:V},Vals xs us->xs[i]?=some x->∃ u,us[i]?=some u/\RelV x u
 | _,_,_,_,.nil,e=>by simp at e
 | _,_,0,_,.cons r _,e=>by simp at e;subst e;exact ⟨_,rfl,r⟩
 | _,_,i+1,x,.cons _ t,e=>by
  obtain ⟨u,h1,h2⟩:=Vals.get (i:=i) (x:=x) t (by simpa using e);exact ⟨u,by simpa using h1,h2⟩
theorem Vals.set {x:V}{u:Value}(r:RelV x u):∀ {xs:List V}{us:List Value}(i:Nat),Vals xs us->Vals (xs.set i x) (us.set i u)
 | _,_,_,.nil=>.nil
 | _,_,0,.cons _ t=>.cons r t
 | _,_,i+1,.cons q t=>.cons q (Vals.set r i t)
theorem Vals.append:∀ {xs ys:List V}{us ws:List Value},Vals xs us->Vals ys ws->Vals (xs++ys) (us++ws)
 | _,_,_,_,.nil,s=>s
 | _,_,_,_,.cons r t,s=>.cons r (Vals.append t s)
theorem Vals.take:∀ {xs:List V}{us:List Value}(n:Nat),Vals xs us->Vals (xs.take n) (us.take n)
 | _,_,0,_=>.nil
 | _,_,_+1,.nil=>.nil
 | _,_,n+1,.cons r t=>.cons r (Vals.take n t)
theorem Vals.drop:∀ {xs:List V}{us:List Value}(n:Nat),Vals xs us->Vals (xs.drop n) (us.drop n)
 | _,_,0,r=>r
 | _,_,_+1,.nil=>.nil
 | _,_,n+1,.cons _ t=>Vals.drop n t
noncomputable def Qi:Option V->Option Value->Prop
 | some v,some u=>RelV v u
 | none,none=>True
 | _,_=>False
noncomputable def KV {κ:Type}:List (κ×V)->List (κ×Value)->Prop:=Paired fun (p:κ×V) (q:κ×Value)=>p.1=q.1/\RelV p.2 q.2
noncomputable def kV:Key->V
 | .inl i=>.int i
 | .inr x=>.str x
inductive HO where
 | lst (xs:List V)
 | tup (xs:List V)
 | dK (kvs:List (Key×V)) | dT (kvs:List (List Key×V))
 | set (S:Int->Bool) (n:Nat)
 | ins (C dx:Addr) (fs:List (Str×V))
 | own (x:Addr)
 | xd (fs:List (Str×V))
 | met (f x:Addr)
 | rng (lo hi:Int)
 | frz (o:Obj) (u:HO)
 | tbl (ps:Array Value)
 | ext (φ:Heap->Prop)
noncomputable abbrev Hp:=Addr->Option HO
noncomputable def upd (H:Hp) (a:Addr) (o:HO):Hp:=fun b=>if b=a then some o else H b
theorem Be {H:Hp}{a:Addr}{o:HO}:upd H a o a=some o:=by unfold upd;rw [if_pos rfl]
theorem Ah {H:Hp}{a b:Addr}{o:HO}(h:b≠a):upd H a o b=H b:=by unfold upd;rw [if_neg h]
theorem pX {H:Hp}{a:Addr}{o u:HO}:upd (upd H a o) a u=upd H a u:=by
 funext b;unfold upd;split <;> rfl
theorem Kg {H:Hp}{a b:Addr}{o u:HO}(h:H a=some o) (h':H b=some u) (d:o≠u):a≠b:=by
 intro e;subst e;rw [h] at h';exact d (Option.some.inj h')
theorem Am {H:Hp}{a b:Addr}{o:HO}(h:H a=some o) (h':H b=none):a≠b:=by
 intro e;subst e;rw [h] at h';cases h'
section
variable (P:Program) (w:World)
noncomputable def Nm (h:Heap) (a:Addr) (its:Array Value):Prop:=∃ o,h.get? a=some o/\o.cls=.type "tuple"/\o.dict=none/\∃ n,o.data=.seq its n
theorem Nm.to {h:Heap}{a:Addr}{its:Array Value}(x:Nm h a its):IsTup h a its:=let ⟨o,e,c,_,n,d⟩:=x;⟨o,e,c,n,d⟩
theorem Nm.new (h:Heap) (its:Array Value):Nm (h.push { cls:=.type "tuple",data:=.seq its }) h.objs.size its:=⟨_,Heap.get?_push_size _ rfl,rfl,rfl,_,rfl⟩
noncomputable def Ey (H:Hp) (h:Heap) (a:Addr):HO->Prop
 | .lst xs=>xs.length<=sizeLine/\∃ (its:List Value) (n:Nat),Vals xs its/\h.get? a=some { cls:=.type "list",data:=.seq its.toArray n }
 | .tup xs=>xs.length<=sizeLine/\∃ its:List Value,Vals xs its/\Nm h a its.toArray
 | .dK kvs=>kvs.length<=sizeLine/\(a==sysModules)=false/\∃ vs,KV kvs vs/\h.DictOf (Ru P w) a vs
 | .dT kvs=>kvs.length<=sizeLine/\(a==sysModules)=false/\∃ xs:List (List Key×Addr×Value),
   Paired (fun (p:List Key×V) (q:List Key×Addr×Value)=>p.1=q.1/\H q.2.1=some (.tup (p.1.map kV))/\RelV p.2 q.2.2) kvs xs /\
   ∃ o es ep,h.get? a=some o/\o.ExactDict/\o.data=.dict es ep/\es.toList=xs.map (entryOfKey (tupleKind (Ru P w)))/\(xs.map (·.1)).Nodup
 | .set S n=>h.SetOf (intKind P w) a S n
 | .ins C dx fs=>H dx=some (.own a)/\fs.length<=1000/\dx≠a/\h.get? a=some (PySem.W.instObj C dx) /\
   ∃ mA,h.Ns1 dx mA/\(∀ f,Qi (fs.lookup f) (mA f))/\PySem.Within mA (fs.map (·.1))
 | .own _=>∃ o,h.get? a=some o
 | .xd fs=>∃ mA,h.Ns1 a mA/\∀ f,Qi (fs.lookup f) (mA f)
 | .rng lo hi=>∃ t u v,h.get? a=some { cls:=.type "range",data:=.fields #[.int lo t,.int hi u,.int 1 v] }
 | .frz o u=>h.get? a=some o/\Ey H h a u
 | .tbl ps=>h.get? a=some { cls:=.none,data:=.fields ps }
 | .met f x=>h.get? a=some (PySem.W.methodObj (.ref f) (.ref x))
 | .ext φ=>φ h/\(∃ o,h.get? a=some o)/\∀ h1 h2:Heap,φ h1->(∀ o,h1.get? a=some o->h2.get? a=some o)->φ h2
noncomputable def HOk (H:Hp) (h:Heap):Prop:=∀ a o,H a=some o->Ey P w H h a o
end
section
variable {P:Program}{w:World}{H H':Hp}{h h':Heap}{a:Addr}{o:HO}
theorem Ey.lt (x:Ey P w H h a o):a < h.objs.size:=by
 cases o with
 | lst xs=>obtain ⟨_,_,_,_,e⟩:=x;exact Heap.lt_size e
 | tup xs=>obtain ⟨_,_,_,p⟩:=x;exact p.to.lt
 | dK kvs=>obtain ⟨_,_,_,_,o,_,_,e,_⟩:=x;exact Heap.lt_size e
 | dT kvs=>obtain ⟨_,_,_,_,o,_,_,e,_⟩:=x;exact Heap.lt_size e
 | set S n=>obtain ⟨o,_,_,_,e,_⟩:=x;exact Heap.lt_size e
 | ins C dx fs=>obtain ⟨_,_,_,e,_⟩:=x;exact Heap.lt_size e
 | own y=>obtain ⟨_,e⟩:=x;exact Heap.lt_size e
 | xd fs=>obtain ⟨_,⟨_,_,_,e,_⟩,_⟩:=x;exact Heap.lt_size e
 | rng lo hi=>obtain ⟨_,_,_,e⟩:=x;exact Heap.lt_size e
 | frz ob u=>obtain ⟨e,_⟩:=x;exact Heap.lt_size e
 | tbl ps=>exact Heap.lt_size (show h.get? a=some _ from x)
 | met f y=>exact Heap.lt_size (show h.get? a=some _ from x)
 | ext φ=>obtain ⟨_,⟨_,e⟩,_⟩:=x;exact Heap.lt_size e
theorem Paired.mapP {α β:Type}{F G:α->β->Prop}:∀ {l₁:List α}{l₂:List β},Paired F l₁ l₂->(∀ a b,F a b->G a b)->Paired G l₁ l₂
 | _,_,.nil,_=>.nil
 | _,_,.cons r t,f=>.cons (f _ _ r) (Paired.mapP t f)
theorem Ey.stay (x:Ey P w H h a o) (k:∀ b u,(b=a\/H b=some (.own a))->h.get? b=some u->h'.get? b=some u)
  (ho:∀ b,H b=some (.own a)->H' b=some (.own a)) (ht:∀ b xs,H b=some (.tup xs)->H' b=some (.tup xs)):Ey P w H' h' a o:=by
 induction o with
 | lst xs=>obtain ⟨z,its,n,r,e⟩:=x;exact ⟨z,its,n,r,k _ _ (.inl rfl) e⟩
 | tup xs=>obtain ⟨z,its,r,ob,e,c⟩:=x;exact ⟨z,its,r,ob,k _ _ (.inl rfl) e,c⟩
 | dK kvs=>obtain ⟨z,y,vs,r,ob,es,ep,e,c⟩:=x;exact ⟨z,y,vs,r,ob,es,ep,k _ _ (.inl rfl) e,c⟩
 | dT kvs =>
  obtain ⟨z,y,xs,r,ob,es,ep,e,c⟩:=x;exact ⟨z,y,xs,Paired.mapP r fun p q z=>⟨z.1,ht _ _ z.2.1,z.2.2⟩,ob,es,ep,k _ _ (.inl rfl) e,c⟩
 | set S n=>obtain ⟨ob,es,ep,t,e,c⟩:=x;exact ⟨ob,es,ep,t,k _ _ (.inl rfl) e,c⟩
 | ins C dx fs =>
  obtain ⟨d,z,ne,e,mA,⟨od,es,ep,e2,c⟩,r⟩:=x;exact ⟨ho _ d,z,ne,k _ _ (.inl rfl) e,mA,⟨od,es,ep,k _ _ (.inr d) e2,c⟩,r⟩
 | own y=>obtain ⟨ob,e⟩:=x;exact ⟨ob,k _ _ (.inl rfl) e⟩
 | xd fs=>obtain ⟨mA,⟨od,es,ep,e,c⟩,r⟩:=x;exact ⟨mA,⟨od,es,ep,k _ _ (.inl rfl) e,c⟩,r⟩
 | rng lo hi=>obtain ⟨t,u,v,e⟩:=x;exact ⟨t,u,v,k _ _ (.inl rfl) e⟩
 | frz ob u ih=>obtain ⟨e,q⟩:=x;exact ⟨k _ _ (.inl rfl) e,ih q⟩
 | tbl ps =>
  have e:h.get? a=some { cls:=.none,data:=.fields ps }:=x;show h'.get? a=some { cls:=.none,data:=.fields ps };exact k a _ (.inl rfl) e
 | met f y =>
  have e:h.get? a=some (PySem.W.methodObj (.ref f) (.ref y)):=x;show h'.get? a=some (PySem.W.methodObj (.ref f) (.ref y));exact k a _ (.inl rfl) e
 | ext φ=>obtain ⟨p,⟨o,e⟩,st⟩:=x;exact ⟨st _ _ p fun o q=>k _ _ (.inl rfl) q,⟨o,k _ _ (.inl rfl) e⟩,st⟩
theorem HOk.lt (x:HOk P w H h) (e:H a=some o):a < h.objs.size:=(x a o e).lt
theorem HOk.fresh (x:HOk P w H h) (e:h.objs.size<=a):H a=none:=by
 cases q:H a with
 | none=>rfl
 | some u=>exact absurd (Nat.lt_of_lt_of_le (x.lt q) e) (Nat.lt_irrefl _)
theorem HOk.kept (x:HOk P w H h) (k:∀ b u,h.get? b=some u->h'.get? b=some u):HOk P w H h':=fun a o e =>
 (x a o e).stay (fun b u _ q=>k b u q) (fun _ q=>q) fun _ _ q=>q
theorem HOk.laid (x:HOk P w H h) (k:∀ b u,h.get? b=some u->h'.get? b=some u) (hp:h.objs.size<=a) (new:Ey P w (upd H a o) h' a o):HOk P w (upd H a o) h':=fun b u e=>by
 have hn:=x.fresh hp
 by_cases hb:b=a
 ·subst hb;rw [Be] at e;cases e;exact new
 ·rw [Ah hb] at e;exact (x b u e).stay (fun c v _ q=>k c v q) (fun c q=>by rw [Ah (Am q hn)];exact q) fun c xs q=>by rw [Ah (Am q hn)];exact q
end
noncomputable def Rd (H:Hp) (a:Addr) (u:HO):Prop:=H a=some u\/∃ o,H a=some (.frz o u)
theorem Rd.ok {P:Program}{w:World}{H:Hp}{h:Heap}{a:Addr}{u:HO}(r:Rd H a u) (x:HOk P w H h):Ey P w H h a u:=by
 rcases r with r|⟨o,r⟩
 ·exact x a u r
 ·obtain ⟨_,q⟩:=x a _ r;exact q
noncomputable def Mut:Option HO->Prop
 | some (.lst _)=>True
 | some (.dK _)=>True
 | some (.dT _)=>True
 | some (.set _ _)=>True
 | some (.ins _ _ _)=>True
 | some (.ext _)=>True
 | _=>False
section
variable {P:Program}{w:World}{H:Hp}{h h':Heap}{x e:Addr}{o':HO}
theorem HOk.write (ok:HOk P w H h) (mu:Mut (H x)) (he:e=x\/H e=some (.own x)) (k:∀ b u,b≠e->h.get? b=some u->h'.get? b=some u) (heo:∃ u,h'.get? e=some u)
  (new:Ey P w (upd H x o') h' x o'):HOk P w (upd H x o') h':=fun b u q=>by
 have nown:∀ c y,H c=some (.own y)->c≠x:=fun c y r z=>by subst z;rw [r] at mu;exact mu
 have ntup:∀ c xs,H c=some (.tup xs)->c≠x:=fun c xs r z=>by subst z;rw [r] at mu;exact mu
 by_cases hb:b=x
 ·subst hb;rw [Be] at q;cases q;exact new
 ·rw [Ah hb] at q
  by_cases hbe:b=e
  ·have q':H b=some (.own x):=by
    rcases he with z|z
    ·exact absurd (hbe.trans z) hb
    ·rw [hbe];exact z
   rw [q] at q';cases q';obtain ⟨v,hv⟩:=heo;exact ⟨v,by rw [hbe];exact hv⟩
  ·refine (ok b u q).stay (fun c v hc r=>k c v ?_ r) (fun c r=>by rw [Ah (nown c b r)];exact r) fun c xs r=>by rw [Ah (ntup c xs r)];exact r
   rcases hc with rfl|hc
   ·exact hbe
   ·rintro rfl;rcases he with z|z
    ·exact nown c b hc z
    ·rw [hc] at z;cases z;exact hb rfl
end
structure Un (fs ex:List Addr) (H H':Hp) (h h':Heap):Prop where
 keep:∀ b o,h.get? b=some o->H b=none->b ∉ fs->b ∉ ex->h'.get? b=some o
 slot:∀ b o,h.get? b=some o->H b=none->b∈fs->b ∉ ex->∃ sl,h'.get? b=some { o with slots:=sl }
 free:∀ b o,h.get? b=some o->H b=none->b ∉ ex->H' b=none
 there:∀ b o,h.get? b=some o->b ∉ ex->∃ o',h'.get? b=some o'
 tups:∀ b xs,H b=some (.tup xs)->H' b=some (.tup xs)
 frzs:∀ b o u,H b=some (.frz o u)->H' b=some (.frz o u)
 tbls:∀ b ps,H b=some (.tbl ps)->∃ more,H' b=some (.tbl (ps++more))
section
variable {fs fs' ex ex':List Addr}{H H1 H2:Hp}{h h1 h2 h':Heap}{a x e:Addr}{o:HO}
theorem Un.any (u:Un fs ex H H1 h h1) {b:Addr}{ob:Obj}(q:h.get? b=some ob) (n:H b=none) (hx:b ∉ ex):∃ sl,h1.get? b=some { ob with slots:=sl }:=by
 by_cases hb:b∈fs
 ·exact u.slot b ob q n hb hx
 ·exact ⟨ob.slots,u.keep b ob q n hb hx⟩
theorem Un.kept (k:∀ b u,h.get? b=some u->h'.get? b=some u):Un fs ex H H h h' :=
 ⟨fun b ob q _ _ _=>k b ob q,fun b ob q _ _ _=>⟨ob.slots,k b ob q⟩,fun _ _ _ n _=>n,fun b ob q _=>⟨ob,k b ob q⟩,fun _ _ q=>q,fun _ _ _ q=>q,fun _ ps q=>⟨#[],by rw [q];simp⟩⟩
theorem Un.refl:Un fs ex H H h h:=Un.kept fun _ _ q=>q
theorem Un.laid (k:∀ b u,h.get? b=some u->h'.get? b=some u) (hp:h.objs.size<=a) (hn:H a=none):Un fs ex H (upd H a o) h h' where
 keep:=fun b u q _ _ _=>k b u q
 slot:=fun b u q _ _ _=>⟨u.slots,k b u q⟩
 free:=fun b u q n _=>by rw [Ah (Nat.ne_of_lt (Nat.lt_of_lt_of_le (Heap.lt_size q) hp))];exact n
 there:=fun b u q _=>⟨u,k b u q⟩
 tups:=fun b xs q=>by rw [Ah (Am q hn)];exact q
 frzs:=fun b u xs q=>by rw [Ah (Am q hn)];exact q
 tbls:=fun b ps q=>⟨#[],by rw [Ah (Am q hn),q];simp⟩
theorem Un.write (mu:Mut (H x)) (he:e=x\/H e=some (.own x)) (k:∀ b u,b≠e->h.get? b=some u->h'.get? b=some u) (heo:∃ u,h'.get? e=some u):Un fs ex H (upd H x o) h h':=by
 have hx:∀ b,H b=none->b≠x:=fun b n z=>by subst z;rw [n] at mu;exact mu
 have hb:∀ b,H b=none->b≠e:=fun b n z=>by
  subst z;rcases he with r|r
  ·exact hx b n r
  ·rw [n] at r;cases r
 have hm:∀ b u,H b=some u->¬ Mut (some u)->b≠x:=fun b u q nm z=>by subst z;rw [q] at mu;exact nm mu
 refine ⟨fun b u q n _ _=>k b u (hb b n) q,fun b u q n _ _=>⟨u.slots,k b u (hb b n) q⟩,fun b u q n _=>by rw [Ah (hx b n)];exact n,fun b u q _=>?_,
  fun b xs q=>by rw [Ah (hm b _ q fun z=>z)];exact q,fun b u xs q=>by rw [Ah (hm b _ q fun z=>z)];exact q,fun b ps q=>⟨#[],by rw [Ah (hm b _ q fun z=>z),q];simp⟩⟩
 by_cases hbe:b=e
 ·subst hbe;exact heo
 ·exact ⟨u,k b u hbe q⟩
end
noncomputable def trk (h:Heap) (H:Hp):List Addr:=(List.range h.objs.size).filter fun a=>(H a).isSome
noncomputable def Rv (h:Heap) (H:Hp):Heap:=PySem.W.hideAll h (trk h H)
theorem aL (h:Heap) (H:Hp):(Rv h H).objs.size=h.objs.size:=PySem.W.hideAll_size _ _
theorem cZ {h:Heap}{H:Hp}{b:Addr}{o:Obj}(e:h.get? b=some o) (n:H b=none):(Rv h H).get? b=some o :=
 PySem.W.hideAll_get _ e fun hm=>by
  have q:(H b).isSome=true:=(List.mem_filter.mp hm).2;rw [n] at q;simp at q
theorem pY {h:Heap}{H:Hp}{b:Addr}{o:Obj}(e:(Rv h H).get? b=some o):h.get? b=some o/\H b=none:=by
 have e':h.get? b=some o:=PySem.W.of_hideAll (trk h H) e;refine ⟨e',?_⟩;cases q:H b with
 | none=>rfl
 | some x =>
  have hm:b∈trk h H:=List.mem_filter.mpr ⟨List.mem_range.mpr (Heap.lt_size e'),by simp [q]⟩;have z:(Rv h H).get? b=none:=PySem.W.hideAll_none (trk h H) hm;rw [z] at e;cases e
structure Mod (K:PySem.W.Frag) (mg:Str->Option Value) (base:Heap):Prop where
 kin:K.In base
 glob:base.Ns mainGlobals mg
 blt:∃ mb,base.Ns builtinsNs mb/\∀ x:Str,x ≠ "__name__"->mb x=bootBuiltins x
 nolimit:base.NoLimit
structure Cx where
 prog:Program
 w:World
 K:PySem.W.Frag
 mg:Str->Option Value
 base:Heap
 A:Around
 N:List Str
 s₀:Shared
 H₀:Hp
 env:Env
 outer:List Env
 stack:List Env
 ex:List Addr
 fn:Str->Bool
 calm:Bool
 pn:List (Addr×Obj)
 xe:Value->Shared->Prop
noncomputable def frs (l:List Env):List Addr:=l.filterMap (·.frame)
noncomputable abbrev Cx.fs (X:Cx):List Addr:=frs X.outer
noncomputable def Vis (sc:Scope) (x:Str):Prop:=sc.names.lookup x=some .local\/sc.names.lookup x=some .cell\/sc.names.lookup x=some .free
noncomputable def Loc (sc:Scope) (x:Str):Prop:=sc.names.lookup x=some .local\/sc.names.lookup x=some .cell
noncomputable def Look (env:Env) (h:Heap) (m:Str->Option Value) (x:Str) (u:Value):Prop :=
 (env.kindOf x=some .local/\m x=some u)\/((env.kindOf x=some .cell\/env.kindOf x=some .free)/\∃ c,env.cells.lookup x=some c/\h.IsCell c (some u))
structure Cx.Ok (X:Cx):Prop where
 mod:Mod X.K X.mg X.base
 kind:X.env.scope.kind=.function
 glob:X.env.globals=mainGlobals
 blt:X.env.builtins=builtinsNs
 above:X.s₀.heap.objs.size<=X.env.locals
 inj:∀ x y c,X.env.cells.lookup x=some c->X.env.cells.lookup y=some c->x=y
 has:∀ x,(X.env.kindOf x=some .cell\/X.env.kindOf x=some .free)->∃ c,X.env.cells.lookup x=some c
 cab:∀ x c,X.fn x=true->X.env.cells.lookup x=some c->X.s₀.heap.objs.size<=c
 hd:X.calm=true->X.A.handled=none
 frames:X.A.frames=some X.stack
 stk:X.stack=X.outer\/(X.stack=X.env::X.outer/\X.env.frame=some X.env.locals)
 exf:∀ b∈X.ex,b≠X.env.locals/\∀ x c,X.env.cells.lookup x=some c->c≠b
 bs:∀ b o,X.base.get? b=some o->X.s₀.heap.get? b=some o/\X.H₀ b=none
 bsz:X.base.objs.size<=X.s₀.heap.objs.size
 noex:∀ b o,X.base.get? b=some o->b ∉ X.ex
 exfs:∀ b∈X.ex,b ∉ X.fs
 funs:X.s₀.heap.FunFrames X.base X.outer
 frf:∀ b∈X.fs,X.H₀ b=none
structure Inv (X:Cx) (pins:List (Addr×Obj)) (σ:List (Option V)) (H:Hp) (s:Shared):Prop where
 ok:X.Ok
 os:s.os=X.s₀.os
 bare:AllBare s.gens
 base:Un X.fs X.ex X.H₀ H X.s₀.heap s.heap
 loc:∃ m,s.heap.Ns X.env.locals m/\∀ (i:Nat) (x:Str) (v:V),X.N[i]?=some x->σ[i]?=some (some v)->Vis X.env.scope x->∃ u,RelV v u/\Look X.env s.heap m x u
 cell:∀ x c,X.env.cells.lookup x=some c->∃ v,s.heap.IsCell c v
 free:H X.env.locals=none
 freeC:∀ x c,X.env.cells.lookup x=some c->H c=none\/(X.fn x=false/\∃ o u,H c=some (.frz o u))
 pin:∀ p∈X.pn++pins,s.heap.get? p.1=some p.2/\H p.1=none/\p.1≠X.env.locals/\p.1 ∉ X.fs/\∀ v,p.2.data≠.cell v
 hok:HOk X.prog X.w H s.heap
 len:σ.length=X.N.length
section
variable {X:Cx}{pins:List (Addr×Obj)}{σ:List (Option V)}{H H':Hp}{s:Shared}{h':Heap}
theorem Cx.Ok.nofr (ok:X.Ok) {b:Addr}{o:Obj}(e:X.base.get? b=some o):b ∉ X.fs:=fun hb=>by
 have:=(ok.funs.mem hb).1;rw [e] at this;cases this
theorem Inv.bs (I:Inv X pins σ H s):∀ b o,X.base.get? b=some o->s.heap.get? b=some o/\H b=none:=fun b o e =>
 ⟨I.base.keep b o (I.ok.bs b o e).1 (I.ok.bs b o e).2 (I.ok.nofr e) (I.ok.noex b o e),I.base.free b o (I.ok.bs b o e).1 (I.ok.bs b o e).2 (I.ok.noex b o e)⟩
theorem Inv.bk (I:Inv X pins σ H s):∀ b o,X.base.get? b=some o->s.heap.get? b=some o:=fun b o e=>(I.bs b o e).1
theorem Inv.mod (I:Inv X pins σ H s):Mod X.K X.mg X.base:=I.ok.mod
theorem Inv.kIn (I:Inv X pins σ H s):X.K.In s.heap:=I.ok.mod.kin.keeps I.bk
theorem Inv.lt (I:Inv X pins σ H s):X.env.locals < s.heap.objs.size:=let ⟨_,hn,_⟩:=I.loc;hn.lt
theorem Inv.sz (I:Inv X pins σ H s):X.s₀.heap.objs.size<=s.heap.objs.size:=Nat.le_trans I.ok.above (Nat.le_of_lt I.lt)
theorem Inv.nofs (I:Inv X pins σ H s) {a:Addr}(h:s.heap.objs.size<=a):a ∉ X.fs:=fun hb=>by
 obtain ⟨_,o,ho,_⟩:=I.ok.funs.mem hb;exact absurd (Nat.lt_of_lt_of_le (Heap.lt_size ho) (Nat.le_trans I.sz h)) (Nat.lt_irrefl _)
theorem Inv.cne (I:Inv X pins σ H s):∀ x c,X.env.cells.lookup x=some c->c≠X.env.locals:=fun x c e z=>by
 obtain ⟨v,o,ho,hd⟩:=I.cell x c e;obtain ⟨m,⟨o',es,ep,ho',hd',_⟩,_⟩:=I.loc;rw [z,ho'] at ho;cases ho;rw [hd'] at hd;cases hd
theorem Inv.funs (I:Inv X pins σ H s):s.heap.FunFrames X.base X.outer:=by
 have all:∀ (l:List Env),(∀ b∈frs l,b∈X.fs)->X.s₀.heap.FunFrames X.base l->s.heap.FunFrames X.base l:=by
  intro l
  induction l with
  | nil=>intro _ _;trivial
  | cons env r ih =>
   intro hs hl;obtain ⟨hk,⟨L,o,hf,hn,ho,hd⟩,hr⟩:=hl;have hL:L∈X.fs:=hs L (by unfold frs;rw [List.filterMap_cons,hf];exact List.mem_cons_self);obtain ⟨sl,e⟩:=I.base.slot L o ho (I.ok.frf L hL) hL fun z=>I.ok.exfs L z hL
   exact ⟨hk,⟨L,_,hf,hn,e,hd⟩,ih (fun b hb=>hs b (by unfold frs;rw [List.filterMap_cons,hf];exact List.mem_cons_of_mem _ hb)) hr⟩
 exact all X.outer (fun _ hb=>hb) I.ok.funs
theorem Inv.stack (I:Inv X pins σ H s):s.heap.FunFrames X.base X.stack:=by
 rcases I.ok.stk with e|⟨e,hf⟩
 ·rw [e];exact I.funs
 ·rw [e];obtain ⟨m,hn,_⟩:=I.loc;refine .cons (by rw [I.ok.kind];decide) hf hn ?_ I.funs;exact Heap.get?_none_of_le (Nat.le_trans I.ok.bsz I.ok.above)
theorem Inv.stkSub (I:Inv X pins σ H s):∀ b∈frs X.stack,b∈X.env.locals::X.fs:=fun b hb=>by
 rcases I.ok.stk with e|⟨e,hf⟩
 ·rw [e] at hb;exact List.mem_cons_of_mem _ hb
 ·rw [e] at hb;unfold frs at hb;rw [List.filterMap_cons,hf] at hb;exact hb
theorem Inv.stkFree (I:Inv X pins σ H s):∀ b∈frs X.stack,H b=none:=fun b hb=>by
 rcases List.mem_cons.mp (I.stkSub b hb) with e|hb
 ·rw [e];exact I.free
 ·obtain ⟨_,o,ho,_⟩:=I.ok.funs.mem hb;exact I.base.free b o ho (I.ok.frf b hb) fun z=>I.ok.exfs b z hb
theorem Inv.step {g':Array GenState}{t':Nat}{d':Drawn}{ch:List Addr}(I:Inv X pins σ H s)
  (hch:∀ b∈ch,(b∈X.ex\/X.s₀.heap.objs.size<=b)/\b≠X.env.locals/\(∀ x c,X.env.cells.lookup x=some c->c≠b)/\∀ p∈X.pn++pins,p.1≠b)
  (keep:∀ b o,b≠X.env.locals->b ∉ X.fs->b ∉ ch->s.heap.get? b=some o->H b=none->h'.get? b=some o)
  (slot:∀ b o,b≠X.env.locals->b∈X.fs->b ∉ ch->s.heap.get? b=some o->H b=none->∃ sl,h'.get? b=some { o with slots:=sl }) (free:∀ b o,b ∉ ch->s.heap.get? b=some o->H b=none->H' b=none)
  (there:∀ b o,b ∉ ch->s.heap.get? b=some o->∃ o',h'.get? b=some o')
  (tups:∀ b xs,H b=some (.tup xs)->H' b=some (.tup xs)) (frzs:∀ b o u,H b=some (.frz o u)->H' b=some (.frz o u)) (tbls:∀ b ps,H b=some (.tbl ps)->∃ more,H' b=some (.tbl (ps++more)))
  (ns:∀ m,s.heap.Ns X.env.locals m->h'.Ns X.env.locals m) (hok:HOk X.prog X.w H' h') (hg:AllBare g') :
  Inv X pins σ H' { s with heap:=h',gens:=g',drawn:=d',toks:=t' }:=by
 have neL:∀ b o,X.s₀.heap.get? b=some o->b≠X.env.locals:=fun b o e=>Nat.ne_of_lt (Nat.lt_of_lt_of_le (Heap.lt_size e) I.ok.above)
 have neC:∀ b o,X.s₀.heap.get? b=some o->b ∉ X.ex->b ∉ ch:=fun b o e hx hb=>by
  rcases (hch b hb).1 with z|z
  ·exact hx z
  ·exact absurd (Nat.lt_of_lt_of_le (Heap.lt_size e) z) (Nat.lt_irrefl _)
 have cellK:∀ x c,X.env.cells.lookup x=some c->∀ v,s.heap.IsCell c v->h'.IsCell c v:=by
  rintro x c e v ⟨o,ho,hd⟩;have nch:c ∉ ch:=fun z=>(hch c z).2.2.1 x c e rfl
  rcases I.freeC x c e with fc|⟨_,oz,uz,fz⟩
  ·by_cases hc:c∈X.fs
   ·obtain ⟨sl,q⟩:=slot c o (I.cne x c e) hc nch ho fc;exact ⟨_,q,hd⟩
   ·exact ⟨o,keep c o (I.cne x c e) hc nch ho fc,hd⟩
  ·obtain ⟨e1,_⟩:=I.hok c _ fz;obtain ⟨e2,_⟩:=hok c _ (frzs c _ _ fz);rw [ho] at e1;cases e1;exact ⟨_,e2,hd⟩
 refine ⟨I.ok,I.os,hg,⟨fun b o e n hb hx=>?_,fun b o e n hb hx=>?_,fun b o e n hx=>?_,fun b o e hx=>?_,fun b xs e=>tups b xs (I.base.tups b xs e),fun b o xs e=>frzs b o xs (I.base.frzs b o xs e),fun b ps e=>?_⟩,?_,fun x c e=>?_,?_,fun x c e=>?_,fun p hp=>?_,hok,I.len⟩
 ·exact keep b o (neL b o e) hb (neC b o e hx) (I.base.keep b o e n hb hx) (I.base.free b o e n hx)
 ·obtain ⟨sl,e1⟩:=I.base.slot b o e n hb hx;obtain ⟨sl',e2⟩:=slot b _ (neL b o e) hb (neC b o e hx) e1 (I.base.free b o e n hx);exact ⟨sl',e2⟩
 ·obtain ⟨o',e1⟩:=I.base.there b o e hx;exact free b o' (neC b o e hx) e1 (I.base.free b o e n hx)
 ·obtain ⟨o',e1⟩:=I.base.there b o e hx;exact there b o' (neC b o e hx) e1
 ·obtain ⟨m1,e1⟩:=I.base.tbls b ps e;obtain ⟨m2,e2⟩:=tbls b _ e1;exact ⟨m1++m2,by rw [e2,Array.append_assoc]⟩
 ·obtain ⟨m,hn,hl⟩:=I.loc;refine ⟨m,ns m hn,fun i x v e1 e2 e3=>?_⟩;obtain ⟨u,r,l⟩:=hl i x v e1 e2 e3;refine ⟨u,r,?_⟩;rcases l with l|⟨k,c,e,z⟩
  ·exact .inl l
  ·exact .inr ⟨k,c,e,cellK x c e _ z⟩
 ·obtain ⟨v,z⟩:=I.cell x c e;exact ⟨v,cellK x c e v z⟩
 ·obtain ⟨m,⟨o,_,_,ho,_⟩,_⟩:=I.loc;exact free _ o (fun z=>(hch _ z).2.1 rfl) ho I.free
 ·obtain ⟨v,o,ho,hd⟩:=I.cell x c e;rcases I.freeC x c e with fc|⟨fx,oz,uz,fz⟩
  ·exact .inl (free c o (fun z=>(hch c z).2.2.1 x c e rfl) ho fc)
  ·exact .inr ⟨fx,oz,uz,frzs c _ _ fz⟩
 ·obtain ⟨e,n,ne,nf,d⟩:=I.pin p hp;have nch:p.1 ∉ ch:=fun z=>(hch p.1 z).2.2.2 p hp rfl
  exact ⟨keep p.1 p.2 ne nf nch e n,free p.1 p.2 nch e n,ne,nf,d⟩
theorem Inv.un {t':Nat}(I:Inv X pins σ H s) (u:Un X.fs [] H H' s.heap h') (hok:HOk X.prog X.w H' h'):Inv X pins σ H' { s with heap:=h',toks:=t' }:=by
 obtain ⟨m,⟨o,es,ep,ho,r⟩,_⟩:=id I.loc;obtain ⟨sl,hL⟩:=u.any ho I.free (by simp)
 exact I.step (g':=s.gens) (d':=s.drawn) (ch:=[]) (fun _ z=>nomatch z) (fun b o _ hb _ e n=>u.keep b o e n hb (by simp)) (fun b o _ hb _ e n=>u.slot b o e n hb (by simp)) (fun b o _ e n=>u.free b o e n (by simp)) (fun b o _ e=>u.there b o e (by simp)) u.tups u.frzs u.tbls (fun m' hm=>by
  obtain ⟨o',es',ep',ho',r'⟩:=hm;rw [ho] at ho';cases ho'
  exact ⟨_,es',ep',hL,r'⟩) hok I.bare
theorem Inv.call {g':Array GenState}{t':Nat}{d':Drawn}{ch:List Addr}(I:Inv X pins σ H s) (u:Un (frs X.stack) ch H H' s.heap h') (hok:HOk X.prog X.w H' h') (hg:AllBare g')
  (hch:∀ b∈ch,(b∈X.ex\/X.s₀.heap.objs.size<=b)/\b≠X.env.locals/\(∀ x c,X.env.cells.lookup x=some c->c≠b)/\∀ p∈X.pn++pins,p.1≠b) :
  Inv X pins σ H' { s with heap:=h',gens:=g',drawn:=d',toks:=t' }:=by
 obtain ⟨m,⟨o,es,ep,ho,r⟩,_⟩:=id I.loc;obtain ⟨sl,hL⟩:=u.any ho I.free fun z=>(hch _ z).2.1 rfl
 exact I.step (ch:=ch) hch (fun b o hL hb hc e n=>u.keep b o e n (fun z=>(List.mem_cons.mp (I.stkSub b z)).elim hL hb) hc) (fun b o _ _ hc e n=>u.any e n hc) (fun b o hc e n=>u.free b o e n hc) (fun b o hc e=>u.there b o e hc) u.tups u.frzs u.tbls (fun m' hm=>by
  obtain ⟨o',es',ep',ho',r'⟩:=hm;rw [ho] at ho';cases ho'
  exact ⟨_,es',ep',hL,r'⟩) hok hg
theorem Inv.turned {t':Nat}{it:Addr}(I:Inv X pins σ H s) (k:∀ b o,b≠it->s.heap.get? b=some o->h'.get? b=some o) (hn:H it=none) (hL:it≠X.env.locals)
  (h1:it∈X.ex\/X.s₀.heap.objs.size<=it) (h2:∀ x c,X.env.cells.lookup x=some c->c≠it) (h3:∀ p∈X.pn++pins,p.1≠it):Inv X pins σ H { s with heap:=h',toks:=t' }:=by
 have nit:∀ b u,H b=some u->b≠it:=fun b u e z=>by rw [z,hn] at e;cases e
 refine I.step (g':=s.gens) (d':=s.drawn) (ch:=[it]) (fun b hb=>?_) (fun b o _ _ hc e _=>k b o (fun z=>hc (by simp [z])) e) (fun b o _ _ hc e _=>⟨o.slots,k b o (fun z=>hc (by simp [z])) e⟩) (fun _ _ _ _ n=>n)
  (fun b o hc e=>⟨o,k b o (fun z=>hc (by simp [z])) e⟩) (fun _ _ e=>e) (fun _ _ _ e=>e) (fun b ps e=>⟨#[],by rw [e];simp⟩) (fun m hm=>?_) (fun b u e=>?_) I.bare
 ·have e:b=it:=by simpa using hb
  subst e;exact ⟨h1,hL,h2,h3⟩
 ·obtain ⟨o,es,ep,ho,r⟩:=hm;exact ⟨o,es,ep,k _ o (Ne.symm hL) ho,r⟩
 ·refine (I.hok b u e).stay (fun c v hc q=>k c v ?_ q) (fun _ q=>q) fun _ _ q=>q
  rcases hc with z|z
  ·rw [z];exact nit b u e
  ·exact nit c _ z
theorem Inv.tok (I:Inv X pins σ H s) (t:Nat):Inv X pins σ H { s with toks:=t }:=I.un (h':=s.heap) (t':=t) Un.refl I.hok
theorem Inv.kept {t':Nat}(I:Inv X pins σ H s) (k:∀ b u,s.heap.get? b=some u->h'.get? b=some u):Inv X pins σ H { s with heap:=h',toks:=t' }:=I.un (Un.kept k) (I.hok.kept k)
theorem Inv.laid {a:Addr}{o:HO}{t':Nat}(I:Inv X pins σ H s) (k:∀ b u,s.heap.get? b=some u->h'.get? b=some u) (hp:s.heap.objs.size<=a) (new:Ey X.prog X.w (upd H a o) h' a o) :
  Inv X pins σ (upd H a o) { s with heap:=h',toks:=t' }:=I.un (Un.laid k hp (I.hok.fresh hp)) (I.hok.laid k hp new)
theorem Inv.write {x e:Addr}{o:HO}{t':Nat}(I:Inv X pins σ H s) (mu:Mut (H x)) (he:e=x\/H e=some (.own x)) (k:∀ b u,b≠e->s.heap.get? b=some u->h'.get? b=some u) (heo:∃ u,h'.get? e=some u)
  (new:Ey X.prog X.w (upd H x o) h' x o):Inv X pins σ (upd H x o) { s with heap:=h',toks:=t' }:=I.un (Un.write mu he k heo) (I.hok.write mu he k heo new)
theorem Inv.weak {σ':List (Option V)}(I:Inv X pins σ H s) (hl:σ'.length=σ.length) (w:∀ (i:Nat) v,σ'[i]?=some (some v)->σ[i]?=some (some v)):Inv X pins σ' H s :=
 ⟨I.ok,I.os,I.bare,I.base,let ⟨m,hn,hl'⟩:=I.loc;⟨m,hn,fun i x v e1 e2 e3=>hl' i x v e1 (w i v e2) e3⟩,I.cell,I.free,I.freeC,I.pin,I.hok,hl.trans I.len⟩
theorem Inv.pins_of {pins':List (Addr×Obj)}(I:Inv X pins σ H s) (h:∀ p∈pins',s.heap.get? p.1=some p.2/\H p.1=none/\p.1≠X.env.locals/\p.1 ∉ X.fs/\∀ v,p.2.data≠.cell v):Inv X pins' σ H s :=
 ⟨I.ok,I.os,I.bare,I.base,I.loc,I.cell,I.free,I.freeC,fun p hp=>(List.mem_append.mp hp).elim (fun z=>I.pin p (List.mem_append_left _ z)) (h p),I.hok,I.len⟩
theorem Uc {N:List Str}(hN:N.Nodup) {i j:Nat}{x:Str}(a:N[i]?=some x) (b:N[j]?=some x):i=j:=by
 obtain ⟨h1,e1⟩:=List.getElem?_eq_some_iff.mp a;obtain ⟨h2,e2⟩:=List.getElem?_eq_some_iff.mp b;exact (List.getElem_inj hN).mp (e1.trans e2.symm)
theorem aM {M:Model}{A:Around}{E:Value->Shared->Prop}{i:Nat}{x:Str}{v:V}{u:Value}{Q:Unit->Shared->Prop}(I:Inv X pins σ H s) (hN:X.N.Nodup) (hi:X.N[i]?=some x) (hx:Loc X.env.scope x) (r:RelV v u)
  (h:∀ s',Inv X pins (σ.set i (some v)) H s'->(∃ a,Heap.SameBut a s.heap s'.heap/\(a=X.env.locals\/X.env.cells.lookup x=some a))->Q () s') (hf:X.fn x=true\/X.env.scope.names.lookup x=some .local:=by first | exact .inl rfl | exact .inr rfl | assumption):wpAny M A (storeName X.env x u) Q E s:=by
 obtain ⟨m,hn,hl⟩:=id I.loc;have hcls:(X.env.scope.kind==.class || (X.env.scope.kind==.module&&X.env.locals != X.env.globals))=false:=by rw [I.ok.kind];rfl
 have hiσ:i < σ.length:=by rw [I.len];exact (List.getElem?_eq_some_iff.mp hi).1
 have cne:=I.cne;have tracked:∀ {a:Addr} {h':Heap},(∃ o,s.heap.get? a=some o/\H a=none)->Heap.SameBut a s.heap h'->HOk X.prog X.w H h':=fun {a h'} ha hs b ob e=>by
  obtain ⟨_,_,hfree⟩:=ha;refine (I.hok b ob e).stay (fun c w' hc q=>(hs.2 c ?_).trans q) (fun _ q=>q) fun _ _ q=>q
  rintro rfl;rcases hc with rfl|hc
  ·rw [hfree] at e;cases e
  ·rw [hfree] at hc;cases hc
 rcases hx with hk|hk
 ·refine wpAny_storeName_local hk hn (fun h' hn' hs=>?_) hcls;obtain ⟨oL,_,_,hoL,_⟩:=id hn;refine h _ ⟨I.ok,I.os,I.bare,⟨fun b o e n hb hx=>?_,fun b o e n hb hx=>?_,I.base.free,fun b o e hx=>?_,I.base.tups,I.base.frzs,I.base.tbls⟩,⟨_,hn',fun j y v' e1 e2 e3=>?_⟩,fun y c e=>?_,I.free,I.freeC,fun p hp=>?_,tracked ⟨oL,hoL,I.free⟩ hs,by simpa using I.len⟩ ⟨_,hs,.inl rfl⟩
  ·exact (hs.2 b (Nat.ne_of_lt (Nat.lt_of_lt_of_le (Heap.lt_size e) I.ok.above))).trans (I.base.keep b o e n hb hx)
  ·obtain ⟨sl,e1⟩:=I.base.slot b o e n hb hx;exact ⟨sl,(hs.2 b (Nat.ne_of_lt (Nat.lt_of_lt_of_le (Heap.lt_size e) I.ok.above))).trans e1⟩
  ·obtain ⟨o',e1⟩:=I.base.there b o e hx;exact ⟨o',(hs.2 b (Nat.ne_of_lt (Nat.lt_of_lt_of_le (Heap.lt_size e) I.ok.above))).trans e1⟩
  ·by_cases hj:j=i
   ·subst hj;rw [hi] at e1;cases e1;rw [List.getElem?_set_self hiσ] at e2;cases e2;exact ⟨u,r,.inl ⟨hk,by simp⟩⟩
   ·rw [List.getElem?_set_ne (Ne.symm hj)] at e2;obtain ⟨u',r',q⟩:=hl j y v' e1 e2 e3;refine ⟨u',r',?_⟩;rcases q with ⟨k,e⟩|⟨k,c,e,z⟩
    ·refine .inl ⟨k,?_⟩;have:y≠x:=fun e=>hj (Uc hN e1 (e ▸ hi))
     simp [this,e]
    ·exact .inr ⟨k,c,e,z.sameBut hs (cne y c e)⟩
  ·obtain ⟨w',z⟩:=I.cell y c e;exact ⟨w',z.sameBut hs (cne y c e)⟩
  ·obtain ⟨e,n,ne,nf,d⟩:=I.pin p hp;exact ⟨(hs.2 p.1 ne).trans e,n,ne,nf,d⟩
 ·have hfn:X.fn x=true:=by
   rcases hf with z|z
   ·exact z
   ·rw [z] at hk;cases hk
  obtain ⟨c,hc⟩:=I.ok.has x (.inl hk);obtain ⟨w',z⟩:=I.cell x c hc;refine wpAny_storeName_cell I.ok.kind hk hc z (fun h' hc' hs=>?_);obtain ⟨oc,hoc,hocd⟩:=id z;refine h { s with heap:=h' } ⟨I.ok,I.os,I.bare,⟨fun b o e n hb hx=>?_,fun b o e n hb hx=>?_,I.base.free,fun b o e hx=>?_,I.base.tups,I.base.frzs,I.base.tbls⟩,⟨m,hn.sameBut hs (Ne.symm (cne x c hc)),fun j y v' e1 e2 e3=>?_⟩,fun y c' e=>?_,I.free,I.freeC,fun p hp=>?_,tracked ⟨oc,hoc,(I.freeC x c hc).resolve_right fun z=>by rw [hfn] at z;cases z.1⟩ hs,by simpa using I.len⟩ ⟨c,hs,.inr hc⟩
  ·exact (hs.2 b (Nat.ne_of_lt (Nat.lt_of_lt_of_le (Heap.lt_size e) (I.ok.cab x c hfn hc)))).trans (I.base.keep b o e n hb hx)
  ·obtain ⟨sl,e1⟩:=I.base.slot b o e n hb hx;exact ⟨sl,(hs.2 b (Nat.ne_of_lt (Nat.lt_of_lt_of_le (Heap.lt_size e) (I.ok.cab x c hfn hc)))).trans e1⟩
  ·obtain ⟨o',e1⟩:=I.base.there b o e hx;exact ⟨o',(hs.2 b (Nat.ne_of_lt (Nat.lt_of_lt_of_le (Heap.lt_size e) (I.ok.cab x c hfn hc)))).trans e1⟩
  ·by_cases hj:j=i
   ·subst hj;rw [hi] at e1;cases e1;rw [List.getElem?_set_self hiσ] at e2;cases e2;exact ⟨u,r,.inr ⟨.inl hk,c,hc,hc'⟩⟩
   ·rw [List.getElem?_set_ne (Ne.symm hj)] at e2;obtain ⟨u',r',q⟩:=hl j y v' e1 e2 e3;refine ⟨u',r',?_⟩;rcases q with q|⟨k,c',e,z'⟩
    ·exact .inl q
    ·refine .inr ⟨k,c',e,z'.sameBut hs ?_⟩;rintro rfl;exact hj (Uc hN e1 (I.ok.inj _ _ _ e hc ▸ hi))
  ·by_cases hcc:c'=c
   ·subst hcc;exact ⟨_,hc'⟩
   ·obtain ⟨w2,z2⟩:=I.cell y c' e;exact ⟨w2,z2.sameBut hs hcc⟩
  ·obtain ⟨e,n,ne,nf,d⟩:=I.pin p hp;refine ⟨(hs.2 p.1 ?_).trans e,n,ne,nf,d⟩;intro q;rw [q,hoc] at e;have q':oc=p.2:=Option.some.inj e;exact d w' (by rw [← q'];exact hocd)
theorem Kh {M:Model}{A:Around}{E:Value->Shared->Prop}{i:Nat}{x:Str}{v:V}{u:Value}{Q:Unit->Shared->Prop}(I:Inv X pins σ H s) (hN:X.N.Nodup) (hi:X.N[i]?=some x) (hx:Loc X.env.scope x) (r:RelV v u)
  (h:∀ s',Inv X pins (σ.set i (some v)) H s'->Q () s') (hf:X.fn x=true\/X.env.scope.names.lookup x=some .local:=by first | exact .inl rfl | exact .inr rfl | assumption):wpAny M A (storeName X.env x u) Q E s :=
 aM I hN hi hx r (fun s' I' _=>h s' I') hf
theorem Inv.call' {s':Shared}{ch:List Addr}(I:Inv X pins σ H s) (ho:s'.os=s.os) (u:Un (frs X.stack) ch H H' s.heap s'.heap) (hok:HOk X.prog X.w H' s'.heap) (hg:AllBare s'.gens)
  (hch:∀ b∈ch,(b∈X.ex\/X.s₀.heap.objs.size<=b)/\b≠X.env.locals/\(∀ x c,X.env.cells.lookup x=some c->c≠b)/\∀ p∈X.pn++pins,p.1≠b):Inv X pins σ H' s':=by
 obtain ⟨h',g',d',t',o'⟩:=s';have e:o'=s.os:=ho;subst e;exact I.call (g':=g') (t':=t') (d':=d') u hok hg hch
end
noncomputable abbrev XK:=Value->Option Addr->Hp->Prop
noncomputable abbrev St:=List (Option V)
noncomputable abbrev VK:=V->Hp->Prop
noncomputable abbrev TE:=St->Hp->VK->Prop
noncomputable abbrev TT:=St->Hp->(Bool->Hp->Prop)->Prop
noncomputable abbrev TA:=St->Hp->(List V->Hp->Prop)->Prop
structure Ends where
 nx:St->Hp->Prop
 rt:VK
 bk:St->Hp->Prop:=fun _ _=>False
 ct:St->Hp->Prop:=fun _ _=>False
noncomputable abbrev TS:=Ends->St->Hp->Prop
noncomputable def EP (X:Cx) (pins:List (Addr×Obj)) (σ:St) (Q:VK) (u:Value) (s':Shared):Prop:=∃ v H',Inv X pins σ H' s'/\RelV v u/\Q v H'
noncomputable def TP (X:Cx) (pins:List (Addr×Obj)) (σ:St) (Q:Bool->Hp->Prop) (b:Bool) (s':Shared):Prop:=∃ H',Inv X pins σ H' s'/\Q b H'
noncomputable def AP (X:Cx) (pins:List (Addr×Obj)) (σ:St) (Q:List V->Hp->Prop) (us:List Value) (s':Shared):Prop:=∃ vs H',Inv X pins σ H' s'/\Vals vs us/\Q vs H'
noncomputable def SP (X:Cx) (pins:List (Addr×Obj)) (D:Ends) (f:Flow) (s':Shared):Prop :=
 match f with
 | .next=>∃ σ' H',Inv X pins σ' H' s'/\D.nx σ' H'
 | .brk=>∃ σ' H',Inv X pins σ' H' s'/\D.bk σ' H'
 | .cont=>∃ σ' H',Inv X pins σ' H' s'/\D.ct σ' H'
 | .ret u=>∃ v σ' H',Inv X pins σ' H' s'/\RelV v u/\D.rt v H'
noncomputable def PE (X:Cx) (e:Expr) (t:TE):Prop :=
 ∀ (pins:List (Addr×Obj)) (s:Shared) (σ:St) (H:Hp) (Q:VK),Inv X pins σ H s->t σ H Q->wpAny (model X.prog X.w) X.A (eval e X.env) (EP X pins σ Q) X.xe s
noncomputable def PT (X:Cx) (e:Expr) (t:TT):Prop :=
 ∀ (pins:List (Addr×Obj)) (s:Shared) (σ:St) (H:Hp) (Q:Bool->Hp->Prop),Inv X pins σ H s->t σ H Q->wpAny (model X.prog X.w) X.A (isTrue e X.env (eval e X.env)) (TP X pins σ Q) X.xe s
noncomputable def PW (X:Cx) (e:Expr) (t:TT):Prop :=
 ∀ (whole:Sem Value) (pins:List (Addr×Obj)) (s:Shared) (σ:St) (H:Hp) (Q:Bool->Hp->Prop),Inv X pins σ H s->t σ H Q->wpAny (model X.prog X.w) X.A (isTrue e X.env whole) (TP X pins σ Q) X.xe s
theorem PW.pt {X:Cx}{e:Expr}{t:TT}(h:PW X e t):PT X e t:=h _
noncomputable def PA (X:Cx) (es:List Expr) (t:TA):Prop :=
 ∀ (pos:Pos) (pins:List (Addr×Obj)) (s:Shared) (σ:St) (H:Hp) (Q:List V->Hp->Prop),Inv X pins σ H s->t σ H Q->wpAny (model X.prog X.w) X.A (spliced (backTo pos (starEach es X.env))) (AP X pins σ Q) X.xe s
noncomputable def PS (X:Cx) (st:Stmt) (t:TS):Prop :=
 ∀ (pins:List (Addr×Obj)) (s:Shared) (σ:St) (H:Hp) (D:Ends),Inv X pins σ H s->t D σ H->wpAny (model X.prog X.w) X.A (exec st X.env) (SP X pins D) X.xe s
noncomputable def PSs (X:Cx) (st:List Stmt) (t:TS):Prop :=
 ∀ (pins:List (Addr×Obj)) (s:Shared) (σ:St) (H:Hp) (D:Ends),Inv X pins σ H s->t D σ H->wpAny (model X.prog X.w) X.A (execs st X.env) (SP X pins D) X.xe s
theorem thn {α:Type}{t:Sem α}{Q Q':α->Shared->Prop}{M:Model}{A:Around}{E:Value->Shared->Prop}{s:Shared}(h:wpAny M A t Q E s) (hQ:∀ a s,Q a s->Q' a s):wpAny M A t Q' E s:=wpAny_mono h hQ fun _ _ x=>x
section
variable {X:Cx}
noncomputable def xP (i:Nat):TE:=fun σ H Q=>∃ v,σ[i]?=some (some v)/\Q v H
noncomputable def tC (v:V):TE:=fun _ H Q=>Q v H
theorem Ht {i:Nat}{x:Str}{pos:Pos}(hN:X.N[i]?=some x) (hv:Vis X.env.scope x) (hd:(x==("__debug__":Str))=false:=by decide) (hcd:(x==("__classdict__":Str))=false:=by decide):PE X (.Name x pos) (xP i):=by
 intro pins s σ H Q I h;obtain ⟨v,e,h⟩:=h;obtain ⟨m,hn,hl⟩:=I.loc;obtain ⟨u,r,l⟩:=hl i x v hN e hv;have fin:EP X pins σ Q u s:=⟨v,H,I,r,h⟩;rcases l with ⟨hk,hm⟩|⟨hk,c,hc,hcell⟩
 ·exact wpAny_Name (wpAny_loadName_local I.ok.kind hk hn hm fin) hd
 ·rcases hk with hk|hk
  ·exact wpAny_Name (wpAny_loadName_cell I.ok.kind hk hc hcell fin) hd
  ·exact wpAny_Name (wpAny_loadName_free I.ok.kind hk hc hcell fin hcd) hd
theorem xQ {i j pos}:PE X (.Constant (.int i) j pos) (tC (.int i)):=fun _ _ _ H _ I h=>wpAny_Constant_int ⟨.int i,H,I.tok _,⟨_,rfl⟩,h⟩
theorem Adk {b j pos}:PE X (.Constant (.bool b) j pos) (tC (.bl b)):=fun _ _ _ H _ I h=>Constant_bool ⟨.bl b,H,I,rfl,h⟩
theorem xR {j pos}:PE X (.Constant .none j pos) (tC .non):=fun _ _ _ H _ I h=>Constant_none ⟨.non,H,I,rfl,h⟩
theorem xT {x j pos}:PE X (.Constant (.str x) j pos) (tC (.str x)):=fun _ _ _ H _ I h=>Calls.Constant_str ⟨.str x,H,I.tok _,⟨_,rfl⟩,h⟩
noncomputable def Gl (X:Cx) (x:Str):Prop:=X.env.kindOf x=some .globalImplicit
theorem Ny {E:Value->Shared->Prop}{pins:List (Addr×Obj)}{s:Shared}{σ:St}{H:Hp}{x:Str}{u:Value}{pos:Pos}{Q:Value->Shared->Prop}(I:Inv X pins σ H s) (hg:Gl X x) (hm:X.mg x=some u) (h:Q u s)
  (hd:(x==("__debug__":Str))=false:=by decide):wpAny (model X.prog X.w) X.A (eval (.Name x pos) X.env) Q E s :=
 Calls.Name_function_global I.ok.kind hg (Calls.loadGlobal_global (by rw [I.ok.glob];exact I.mod.glob.keeps I.bk) hm h) hd
theorem Oi {E:Value->Shared->Prop}{pins:List (Addr×Obj)}{s:Shared}{σ:St}{H:Hp}{x:Str}{u:Value}{pos:Pos}{Q:Value->Shared->Prop}(I:Inv X pins σ H s) (hg:Gl X x) (hm:X.mg x=none) (hv:bootBuiltins x=some u) (h:Q u s)
  (hn:x ≠ "__name__":=by decide) (hd:(x==("__debug__":Str))=false:=by decide):wpAny (model X.prog X.w) X.A (eval (.Name x pos) X.env) Q E s:=by
 obtain ⟨mb,h1,h2⟩:=I.mod.blt;exact Calls.Name_function_global I.ok.kind hg (Calls.loadGlobal_builtin (by rw [I.ok.glob];exact I.mod.glob.keeps I.bk) hm (by rw [I.ok.blt];exact h1.keeps I.bk) ((h2 x hn).trans hv) h) hd
theorem pZ {x:Str}{v:V}{u:Value}{pos:Pos}(hg:Gl X x) (hm:X.mg x=some u) (r:RelV v u) (hd:(x==("__debug__":Str))=false:=by decide):PE X (.Name x pos) (tC v) :=
 fun _ _ _ H _ I h=>Ny I hg hm ⟨v,H,I,r,h⟩ hd
theorem qC {x:Str}{v:V}{u:Value}{pos:Pos}(hg:Gl X x) (hm:X.mg x=none) (hv:bootBuiltins x=some u) (r:RelV v u) (hn:x ≠ "__name__":=by decide) (hd:(x==("__debug__":Str))=false:=by decide):PE X (.Name x pos) (tC v) :=
 fun _ _ _ H _ I h=>Oi I hg hm hv ⟨v,H,I,r,h⟩ hn hd
variable {a b:Expr}{ta tb:TE}{pos:Pos}
theorem RelV.none_iff {x:V}{v:Value}(r:RelV x v):(v==Value.none)=decide (x=.non):=by
 cases x with
 | non=>cases r;rfl
 | bl _=>cases r;rfl
 | int _=>obtain ⟨t,rfl⟩:=r;rfl
 | str _=>obtain ⟨t,rfl⟩:=r;rfl
 | byt _=>obtain ⟨t,rfl⟩:=r;rfl
 | flt _=>obtain ⟨t,rfl⟩:=r;rfl
 | ref _=>cases r;rfl
 | ty _=>cases r;rfl
variable {tA tB':TT}{rest:List Expr}
noncomputable def Afn (t u:TT):TT:=fun σ H Q=>t σ H fun c H1=>if c=true then u σ H1 Q else Q false H1
noncomputable def tOr (t u:TT):TT:=fun σ H Q=>t σ H fun c H1=>if c=true then Q true H1 else u σ H1 Q
noncomputable def Afo (t:TT):TT:=fun σ H Q=>t σ H fun c H1=>Q (!c) H1
theorem qD (ha:PT X a tA):PW X (.BoolOp .And [a] pos) tA:=by
 intro wh pins s σ H Q I h;refine isTrue_and (thn (ha pins s σ H Q I h) fun c s1 e=>?_);cases c with
 | true=>exact isTrue_and_nil e
 | false=>exact e
theorem xU (ha:PT X a tA):PW X (.BoolOp .Or [a] pos) tA:=by
 intro wh pins s σ H Q I h;refine isTrue_or (thn (ha pins s σ H Q I h) fun c s1 e=>?_);cases c with
 | false=>exact isTrue_or_nil e
 | true=>exact e
theorem xV (ha:PT X a tA) (hb:PW X (.BoolOp .And (b::rest) pos) tB'):PW X (.BoolOp .And (a::b::rest) pos) (Afn tA tB'):=by
 intro wh pins s σ H Q I h;refine isTrue_and (thn (ha pins s σ H _ I h) ?_);rintro c s1 ⟨H1,I1,q1⟩;cases c with
 | true=>exact hb wh pins s1 σ H1 Q I1 q1
 | false=>exact ⟨H1,I1,q1⟩
theorem Adl (ha:PT X a tA) (hb:PW X (.BoolOp .Or (b::rest) pos) tB'):PW X (.BoolOp .Or (a::b::rest) pos) (tOr tA tB'):=by
 intro wh pins s σ H Q I h;refine isTrue_or (thn (ha pins s σ H _ I h) ?_);rintro c s1 ⟨H1,I1,q1⟩;cases c with
 | true=>exact ⟨H1,I1,q1⟩
 | false=>exact hb wh pins s1 σ H1 Q I1 q1
theorem xW (ha:PT X a tA):PT X (.UnaryOp .Not a pos) (Afo tA):=by
 intro pins s σ H Q I h;exact isTrue_not (ha pins s σ H (fun c H1=>Q (!c) H1) I h)
noncomputable def Adm (ta tb:TE):TE:=fun σ H Q=>ta σ H fun x H1=>∃ c,x=.bl c/\if c=true then tb σ H1 Q else Q (.bl false) H1
noncomputable def Afp (ta tb:TE):TE:=fun σ H Q=>ta σ H fun x H1=>∃ c,x=.bl c/\if c=true then Q (.bl true) H1 else tb σ H1 Q
noncomputable def Adn (ta:TE):TE:=fun σ H Q=>ta σ H fun x H1=>∃ c,x=.bl c/\Q (.bl (!c)) H1
theorem xX {op}{t:TE}(h:PE X a t):PE X (.BoolOp op [a] pos) t:=fun pins s σ H Q I hw=>BoolOp_one (h pins s σ H Q I hw)
theorem xY (ha:PE X a ta) (hb:PE X (.BoolOp .And (b::rest) pos) tb):PE X (.BoolOp .And (a::b::rest) pos) (Adm ta tb):=by
 intro pins s σ H Q I h;refine BoolOp_and (thn (ha pins s σ H _ I h) ?_);rintro v s1 ⟨x,H1,I1,r1,q1⟩;obtain ⟨c,rfl,q1⟩:=q1;cases r1;refine wpAny_truthy_bool ?_;cases c with
 | true=>exact hb pins s1 σ H1 Q I1 q1
 | false=>exact ⟨.bl false,H1,I1,rfl,q1⟩
theorem Ado (ha:PE X a ta) (hb:PE X (.BoolOp .Or (b::rest) pos) tb):PE X (.BoolOp .Or (a::b::rest) pos) (Afp ta tb):=by
 intro pins s σ H Q I h;refine BoolOp_or (thn (ha pins s σ H _ I h) ?_);rintro v s1 ⟨x,H1,I1,r1,q1⟩;obtain ⟨c,rfl,q1⟩:=q1;cases r1;refine wpAny_truthy_bool ?_;cases c with
 | false=>exact hb pins s1 σ H1 Q I1 q1
 | true=>exact ⟨.bl true,H1,I1,rfl,q1⟩
theorem xZ (ha:PE X a ta):PE X (.UnaryOp .Not a pos) (Adn ta):=by
 intro pins s σ H Q I h;refine UnaryOp_ (thn (ha pins s σ H _ I h) ?_);rintro v s1 ⟨x,H1,I1,r1,q1⟩;obtain ⟨c,rfl,q1⟩:=q1;cases r1;exact not_of (wpAny_truthy_bool ⟨.bl (!c),H1,I1,rfl,q1⟩)
noncomputable def tIf (t:TT) (ta tb:TE):TE:=fun σ H Q=>t σ H fun c H1=>if c=true then ta σ H1 Q else tb σ H1 Q
theorem dB {c:Expr}(hc:PT X c tA) (ha:PE X a ta) (hb:PE X b tb):PE X (.IfExp c a b pos) (tIf tA ta tb):=by
 intro pins s σ H Q I h;refine wpAny_IfExp (thn (hc pins s σ H _ I h) ?_);rintro d s1 ⟨H1,I1,q1⟩;cases d with
 | true=>exact ha pins s1 σ H1 Q I1 q1
 | false=>exact hb pins s1 σ H1 Q I1 q1
end
noncomputable def SqL (K:PySem.W.Frag) (H:Hp) (a:Addr) (xs:List V):Prop :=
 Rd H a (.lst xs) \/
  ∃ (o:Obj) (its:Array Value) (n:Nat),K.lookup a=some o/\o.cls=.type "list"/\o.dict=none/\o.data=.seq its n/\its.size<=sizeLine/\Vals xs its.toList
noncomputable def SqT (K:PySem.W.Frag) (H:Hp) (a:Addr) (xs:List V):Prop :=
 Rd H a (.tup xs) \/
  ∃ (o:Obj) (its:Array Value) (n:Nat),K.lookup a=some o/\o.cls=.type "tuple"/\o.dict=none/\o.data=.seq its n/\its.size<=sizeLine/\Vals xs its.toList
noncomputable def Afq:Value->Option V
 | .none=>some .non
 | .bool b=>some (.bl b)
 | .int i _=>some (.int i)
 | .str x _=>some (.str x)
 | .bytes b _=>some (.byt b)
 | .float b _=>some (.flt b)
 | .ref a=>some (.ref a)
 | .type n=>some (.ty n)
 | _=>none
theorem RelV.abs {x:V}{u:Value}(r:RelV x u):Afq u=some x:=by
 cases x with
 | non=>cases r;rfl
 | bl _=>cases r;rfl
 | int _=>obtain ⟨t,rfl⟩:=r;rfl
 | str _=>obtain ⟨t,rfl⟩:=r;rfl
 | byt _=>obtain ⟨t,rfl⟩:=r;rfl
 | flt _=>obtain ⟨t,rfl⟩:=r;rfl
 | ref _=>cases r;rfl
 | ty _=>cases r;rfl
theorem RelV.inj {x y:V}{u:Value}(r:RelV x u) (q:RelV y u):x=y:=Option.some.inj (r.abs.symm.trans q.abs)
theorem Vals.inj {xs ys:List V}{us:List Value}(a:Vals xs us) (b:Vals ys us):xs=ys:=by
 induction a generalizing ys with
 | nil=>cases b;rfl
 | cons r t ih =>
  cases b with
  | cons r' t'=>rw [r.inj r',ih t']
section
variable {X:Cx}{pins:List (Addr×Obj)}{σ:St}{H:Hp}{s:Shared}{a:Addr}{xs ys:List V}
theorem Inv.list (I:Inv X pins σ H s) (h:SqL X.K H a xs):∃ its:List Value,Vals xs its/\PlainL s.heap a its.toArray/\xs.length<=sizeLine:=by
 rcases h with h|⟨o,its,n,hk,hc,hd,hs,hz,r⟩
 ·obtain ⟨z,its,n,r,e⟩:=h.ok I.hok;exact ⟨its,r,⟨_,n,e,rfl,rfl,rfl⟩,z⟩
 ·refine ⟨its.toList,r,⟨o,n,I.kIn a o hk,hc,hd,by simpa using hs⟩,?_⟩;have e:=r.length;simp only [Array.length_toList] at e;omega
theorem Inv.tuple (I:Inv X pins σ H s) (h:SqT X.K H a xs):∃ its:List Value,Vals xs its/\IsTup s.heap a its.toArray/\xs.length<=sizeLine:=by
 rcases h with h|⟨o,its,n,hk,hc,hd,hs,hz,r⟩
 ·obtain ⟨z,its,r,p⟩:=h.ok I.hok;exact ⟨its,r,p.to,z⟩
 ·refine ⟨its.toList,r,⟨o,I.kIn a o hk,hc,n,by simpa using hs⟩,?_⟩;have e:=r.length;simp only [Array.length_toList] at e;omega
theorem Inv.tupleP (I:Inv X pins σ H s) (h:SqT X.K H a xs):∃ its:List Value,Vals xs its/\Nm s.heap a its.toArray/\xs.length<=sizeLine:=by
 rcases h with h|⟨o,its,n,hk,hc,hd,hs,hz,r⟩
 ·obtain ⟨z,its,r,p⟩:=h.ok I.hok;exact ⟨its,r,p,z⟩
 ·refine ⟨its.toList,r,⟨o,I.kIn a o hk,hc,hd,n,by simpa using hs⟩,?_⟩;have e:=r.length;simp only [Array.length_toList] at e;omega
theorem Inv.list_inj (I:Inv X pins σ H s) (h:SqL X.K H a xs) (h':SqL X.K H a ys):xs=ys:=by
 obtain ⟨its,r,⟨o,n,e,_,_,d⟩,_⟩:=I.list h;obtain ⟨its',r',⟨o',n',e',_,_,d'⟩,_⟩:=I.list h';rw [e] at e';cases e';rw [d] at d';injection d' with d1 _
 have:its=its':=by simpa using congrArg Array.toList d1
 subst this;exact r.inj r'
theorem Inv.tuple_inj (I:Inv X pins σ H s) (h:SqT X.K H a xs) (h':SqT X.K H a ys):xs=ys:=by
 obtain ⟨its,r,⟨o,e,_,n,d⟩,_⟩:=I.tuple h;obtain ⟨its',r',⟨o',e',_,n',d'⟩,_⟩:=I.tuple h';rw [e] at e';cases e';rw [d] at d';injection d' with d1 _
 have:its=its':=by simpa using congrArg Array.toList d1
 subst this;exact r.inj r'
end
noncomputable abbrev Cx.wish (X:Cx) (E:Value->Shared->Prop):Cx:={ X with xe:=E }
noncomputable abbrev Cx.nox (X:Cx):Cx:=X.wish fun _ _=>False
theorem Cx.Ok.wish {X:Cx}(ok:X.Ok) (E:Value->Shared->Prop):(X.wish E).Ok :=
 ⟨ok.mod,ok.kind,ok.glob,ok.blt,ok.above,ok.inj,ok.has,ok.cab,ok.hd,ok.frames,ok.stk,ok.exf,ok.bs,ok.bsz,ok.noex,ok.exfs,ok.funs,ok.frf⟩
theorem Cx.Ok.unwish {X:Cx}{E:Value->Shared->Prop}(ok:(X.wish E).Ok):X.Ok :=
 ⟨ok.mod,ok.kind,ok.glob,ok.blt,ok.above,ok.inj,ok.has,ok.cab,ok.hd,ok.frames,ok.stk,ok.exf,ok.bs,ok.bsz,ok.noex,ok.exfs,ok.funs,ok.frf⟩
section
variable {X:Cx}{pins:List (Addr×Obj)}{σ:St}{H:Hp}{s:Shared}{E:Value->Shared->Prop}
theorem Inv.wish (I:Inv X pins σ H s) (E:Value->Shared->Prop):Inv (X.wish E) pins σ H s:=⟨I.ok.wish E,I.os,I.bare,I.base,I.loc,I.cell,I.free,I.freeC,I.pin,I.hok,I.len⟩
theorem Inv.unwish (I:Inv (X.wish E) pins σ H s):Inv X pins σ H s:=⟨I.ok.unwish,I.os,I.bare,I.base,I.loc,I.cell,I.free,I.freeC,I.pin,I.hok,I.len⟩
theorem SP.unwish {D:Ends}{f:Flow}{s':Shared}(h:SP (X.wish E) pins D f s'):SP X pins D f s':=by
 cases f with
 | next=>obtain ⟨σ',H',I,q⟩:=h;exact ⟨σ',H',I.unwish,q⟩
 | brk=>obtain ⟨σ',H',I,q⟩:=h;exact ⟨σ',H',I.unwish,q⟩
 | cont=>obtain ⟨σ',H',I,q⟩:=h;exact ⟨σ',H',I.unwish,q⟩
 | ret u=>obtain ⟨v,σ',H',I,r,q⟩:=h;exact ⟨v,σ',H',I.unwish,r,q⟩
theorem PSs.nox {st:List Stmt}{t:TS}(h:PSs X.nox st t):PSs X st t:=fun pins s σ H D I hw =>
 wpAny_mono (h pins s σ H D (I.wish _) hw) (fun _ _ q=>q.unwish) fun _ _ z=>False.elim z
end
section
variable {X:Cx}{st:Stmt}{rest:List Stmt}{t u:TS}{e:Expr}{te:TE}{pos:Pos}
noncomputable def vX:TS:=fun D σ H=>D.nx σ H
noncomputable def Afr (t u:TS):TS:=fun D σ H=>t { D with nx:=u D } σ H
theorem qF:PSs X [] vX:=fun _ _ σ H _ I h=>wpAny_execs_nil ⟨σ,H,I,h⟩
theorem dD (h1:PS X st t) (h2:PSs X rest u):PSs X (st::rest) (Afr t u):=by
 intro pins s σ H D I h;refine wpAny_execs_cons (thn (h1 pins s σ H { D with nx:=u D } I h) fun f s1 q=>?_);cases f with
 | next =>
  obtain ⟨σ',H',I',q⟩:=q;exact h2 pins s1 σ' H' D I' q
 | ret v=>exact q
 | brk=>exact q
 | cont=>exact q
theorem qG (h1:PS X st t):PSs X [st] t:=by
 intro pins s σ H D I h;refine wpAny_execs_cons (thn (h1 pins s σ H D I h) fun f s1 q=>?_);cases f with
 | next=>exact wpAny_execs_nil q
 | ret v=>exact q
 | brk=>exact q
 | cont=>exact q
noncomputable def yC:TS:=fun D σ H=>D.bk σ H
noncomputable def Adp:TS:=fun D σ H=>D.ct σ H
theorem qH:PS X (.Pass pos) vX:=fun _ _ σ H _ I h=>wpAny_Pass ⟨σ,H,I,h⟩
theorem dF:PS X (.Break pos) yC:=fun _ _ σ H _ I h=>wpAny_Break ⟨σ,H,I,h⟩
theorem Ud:PS X (.Continue pos) Adp:=fun _ _ σ H _ I h=>wpAny_Continue ⟨σ,H,I,h⟩
theorem Inv.quiet {pins:List (Addr×Obj)}{σ:St}{H:Hp}{s:Shared}(I:Inv X pins σ H s):interactive X.env=false:=by simp [interactive,I.ok.kind]
noncomputable def Adq (te:TE):TS:=fun D σ H=>te σ H fun _ H1=>D.nx σ H1
theorem qI (he:PE X e te) (hs:swapsWith e none pos.line X.env=pure false:=by rfl):PS X (.Expr e pos) (Adq te):=by
 intro pins s σ H D I h;exact wpAny_Expr_any (thn (he pins s σ H _ I h) fun v s1 ⟨x,H1,I1,r1,q1⟩=>⟨σ,H1,I1,q1⟩) I.quiet hs
noncomputable def Afs (te:TE):TS:=fun D σ H=>te σ H D.rt
theorem yD (he:PE X e te):PS X (.Return (some e) pos) (Afs te):=by
 intro pins s σ H D I h;refine wpAny_Return_some (thn (he pins s σ H _ I h) ?_);rintro v s1 ⟨x,H1,I1,r1,q1⟩;exact ⟨x,σ,H1,I1,r1,q1⟩
noncomputable def Adr:TS:=fun D _ H=>D.rt .non H
theorem qJ:PS X (.Return none pos) Adr:=fun _ _ σ H _ I h=>wpAny_Return_none ⟨.non,σ,H,I,rfl,h⟩
noncomputable def Aft (c:TT) (t u:TS):TS:=fun D σ H=>c σ H fun b H1=>if b=true then t D σ H1 else u D σ H1
theorem Ads {c:Expr}{a b:List Stmt}{tc:TT}(hc:PT X c tc) (ha:PSs X a t) (hb:PSs X b u):PS X (.If c a b pos) (Aft tc t u):=by
 intro pins s σ H D I h;refine wpAny_If (thn (hc pins s σ H _ I h) ?_);rintro d s1 ⟨H1,I1,q1⟩;cases d with
 | true=>exact ha pins s1 σ H1 D I1 q1
 | false=>exact hb pins s1 σ H1 D I1 q1
end
noncomputable abbrev TG:=V->St->Hp->(St->Hp->Prop)->Prop
noncomputable abbrev TGs:=List V->St->Hp->(St->Hp->Prop)->Prop
noncomputable def PG (X:Cx) (target:Expr) (t:TG):Prop :=
 ∀ (pins:List (Addr×Obj)) (s:Shared) (σ:St) (H:Hp) (v:V) (u:Value) (Q:St->Hp->Prop),Inv X pins σ H s->RelV v u->t v σ H Q ->
  wpAny (model X.prog X.w) X.A (assign target X.env u) (fun _ s'=>∃ σ' H',Inv X pins σ' H' s'/\Q σ' H') X.xe s
noncomputable def PGs (X:Cx) (ts:List Expr) (t:TGs):Prop :=
 ∀ (pins:List (Addr×Obj)) (s:Shared) (σ:St) (H:Hp) (vs:List V) (us:List Value) (Q:St->Hp->Prop),Inv X pins σ H s->Vals vs us->t vs σ H Q ->
  wpAny (model X.prog X.w) X.A (assignInOrder ((assignEach ts X.env).map (·.2)) us) (fun _ s'=>∃ σ' H',Inv X pins σ' H' s'/\Q σ' H') X.xe s
noncomputable abbrev yE:=V->V->V->Hp->(Hp->Prop)->Prop
noncomputable def Adt (X:Cx) (t:yE):Prop :=
 ∀ (pins:List (Addr×Obj)) (s:Shared) (σ:St) (H:Hp) (o i v:V) (ov iv u:Value) (Q:Hp->Prop),Inv X pins σ H s->RelV o ov->RelV i iv->RelV v u->t o i v H Q ->
  wpAny (model X.prog X.w) X.A (setItem ov iv u) (fun _ s'=>∃ H',Inv X pins σ H' s'/\Q H') X.xe s
section
variable {X:Cx}{pos:Pos}
noncomputable def dG (i:Nat):TG:=fun v σ H Q=>Q (σ.set i (some v)) H
theorem Yn {i:Nat}{x:Str}(hN:X.N.Nodup) (hi:X.N[i]?=some x) (hx:Loc X.env.scope x) (hf:X.fn x=true\/X.env.scope.names.lookup x=some .local:=by first | exact .inl rfl | exact .inr rfl | assumption):PG X (.Name x pos) (dG i):=by
 intro pins s σ H v u Q I r h;exact wpAny_assign_Name (Kh I hN hi hx r (fun s' I'=>⟨_,H,I',h⟩) hf)
noncomputable def Adu:TGs:=fun vs σ H Q=>vs=[]/\Q σ H
noncomputable def vY (t:TG) (u:TGs):TGs:=fun vs σ H Q=>∃ v r,vs=v::r/\t v σ H fun σ' H'=>u r σ' H' Q
theorem qK:PGs X [] Adu:=by
 intro pins s σ H vs us Q I r h;obtain ⟨e,h⟩:=h;subst e;cases r;exact assignInOrder_nil ⟨σ,H,I,h⟩
theorem dH {e:Expr}{es:List Expr}{t:TG}{u:TGs}(h1:PG X e t) (h2:PGs X es u)
  (hs:(assignEach (e::es) X.env).map (·.2)=assign e X.env::(assignEach es X.env).map (·.2):=by rfl):PGs X (e::es) (vY t u):=by
 intro pins s σ H vs us Q I r h;obtain ⟨v,vr,e1,h⟩:=h;subst e1;cases r with
 | cons r rr =>
  rw [hs];refine assignInOrder_cons (thn (h1 pins s σ H _ _ _ I r h) ?_);rintro _ s1 ⟨σ1,H1,I1,q1⟩;exact h2 pins s1 σ1 H1 _ _ Q I1 rr q1
noncomputable def Afu (K:PySem.W.Frag) (n:Nat) (t:TGs):TG:=fun v σ H Q=>∃ a xs,v=.ref a/\SqT K H a xs/\xs.length=n/\t xs σ H Q
theorem yF {es:List Expr}{k:Nat}{t:TGs}{n:Nat}(hc:X.calm=true) (h:PGs X es t)
  (hn:(assignEach es X.env).length=n:=by rfl) (hst:(assignEach es X.env).findIdx? (·.1)=none:=by rfl):PG X (.Tuple es k pos) (Afu X.K n t):=by
 intro pins s σ H v u Q I r hw;obtain ⟨a,xs,e1,hq,hl,hw⟩:=hw;subst e1;cases r;obtain ⟨its,rv,ht,hz⟩:=I.tuple hq;refine assign_Tuple_tuple (I.ok.hd hc) ht (by simp [hn,← hl,rv.length]) hst fun h' hx=>?_
 have I1:Inv X pins σ H { s with heap:=h' }:=I.kept (t':=s.toks) fun b o e=>hx b o (Nat.ne_of_lt (Heap.lt_size e)) e
 exact h pins _ σ H xs _ Q I1 (by simpa using rv) hw
noncomputable def Afv (to ti:TE) (t:yE):TG:=fun v σ H Q=>to σ H fun o H1=>ti σ H1 fun i H2=>t o i v H2 fun H3=>Q σ H3
theorem yG {o i:Expr}{to ti:TE}{t:yE}(ho:PE X o to) (hi:PE X i ti) (hs:Adt X t)
  (ha:∀ v,assign (.Subscript o i pos) X.env v=(do
   let ov ← holding [v] (eval o X.env)
   let iv ← holding [v,ov] (eval i X.env)
   standAt pos
   holding [v,ov,iv] (setItem ov iv v)
   release [v,ov,iv] []):=by intro _;rfl):PG X (.Subscript o i pos) (Afv to ti t):=by
 intro pins s σ H v u Q I r h;rw [ha];refine wpAny_bind (wpAny_holding (thn (ho pins s σ H _ I h) ?_));rintro ov s1 ⟨x,H1,I1,r1,q1⟩;refine wpAny_bind (wpAny_holding (thn (hi pins s1 σ H1 _ I1 q1) ?_));rintro iv s2 ⟨y,H2,I2,r2,q2⟩;refine wpAny_bind (wpAny_standAt (wpAny_bind (wpAny_holding (thn (hs pins s2 σ H2 x y v ov iv u _ I2 r1 r2 r q2) ?_))));rintro _ s3 ⟨H3,I3,q3⟩;exact wpAny_release ⟨σ,H3,I3,q3⟩
noncomputable def yH (te:TE) (g:TG):TS:=fun D σ H=>te σ H fun x H1=>g x σ H1 D.nx
theorem yI {tg e:Expr}{te:TE}{g:TG}(he:PE X e te) (hg:PG X tg g) (hs:swapsWithSole [tg] e pos.line X.env=pure false:=by rfl) (hw:swappedStores [tg] e X.env=pure none:=by rfl)
  (h1:(assignEach [tg] X.env).map (·.2)=[assign tg X.env]:=by rfl):PS X (.Assign [tg] e pos) (yH te g):=by
 intro pins s σ H D I h;refine wpAny_Assign_stores (thn (he pins s σ H _ I h) ?_) hs hw;rintro v s1 ⟨x,H1,I1,r1,q1⟩;rw [h1];exact thn (hg pins s1 σ H1 x v _ I1 r1 q1) fun _ s2 q=>q
noncomputable def Afw (i j:Nat) (ta:TA):TS:=fun D σ H=>ta σ H fun vs H1=>∃ v w,vs=[v,w]/\D.nx ((σ.set i (some v)).set j (some w)) H1
theorem yJ {i j:Nat}{x y:Str}{a b:Expr}{ta:TA}{px py pt:Pos}{kt k2 pt2}(hc:X.calm=true) (hN:X.N.Nodup) (hi:X.N[i]?=some x) (hj:X.N[j]?=some y) (hij:i≠j)
  (hx:X.env.scope.names.lookup x=some .local) (hy:X.env.scope.names.lookup y=some .local) (ha:PA X [a,b] ta)
  (hw:swappedStores [.Tuple [.Name x px,.Name y py] kt pt] (.Tuple [a,b] k2 pt2) X.env=pure (some [x,y]))
  (hs:swapsWithSole [.Tuple [.Name x px,.Name y py] kt pt] (.Tuple [a,b] k2 pt2) pos.line X.env=pure false:=by rfl) :
  PS X (.Assign [.Tuple [.Name x px,.Name y py] kt pt] (.Tuple [a,b] k2 pt2) pos) (Afw i j ta):=by
 intro pins s σ H D I h;rw [exec_Assign_arm];refine wpAny_bind (wpAny_standAt ?_);rw [hs];refine wpAny_bind (wpAny_pure ?_);rw [if_neg (by decide)];refine wpAny_bind (Tuple_ (thn (ha _ pins s σ H _ I h) ?_));rintro us s1 ⟨vs,H1,I1,r1,q1⟩;obtain ⟨v,w,e1,q1⟩:=q1;subst e1;obtain ⟨u1,u2,rfl,rv,rw'⟩:∃ u1 u2,us=[u1,u2]/\RelV v u1/\RelV w u2:=by
  cases r1 with
  | cons p q =>
   cases q with
   | cons p' q' =>
    cases q';exact ⟨_,_,rfl,p,p'⟩
 refine wpAny_newObj_type ?_ (by show 2<=sizeLine;decide)
 have I2:Inv X pins σ H1 { s1 with heap:=s1.heap.push { cls:=.type "tuple",data:=.seq [u1,u2].toArray } }:=I1.kept (t':=s1.toks) fun b o e=>Heap.get?_push_of_some _ e
 rw [hw];refine wpAny_bind (wpAny_pure ?_)
 show wpAny (model X.prog X.w) X.A (do rule "assign.swapped-stores";let items ← unpackItems (.ref s1.heap.objs.size) 2 none;assignInOrder [fun v=>bindName X.env y v,fun v=>bindName X.env x v] items.reverse;pure Flow.next) _ _ _;refine wpAny_bind (wpAny_rule (wpAny_bind (unpackItems_tuple (items:=#[u1,u2]) (I.ok.hd hc) (IsTup.new s1.heap _) fun h' hx'=>?_)));have I3:=I2.kept (h':=h') (t':=s1.toks) fun b o e=>hx' b o (Nat.ne_of_lt (Heap.lt_size e)) e
 show wpAny _ _ (assignInOrder [fun v=>bindName X.env y v,fun v=>bindName X.env x v] [u2,u1] >>= fun _=>pure Flow.next) _ _ _;refine wpAny_bind (assignInOrder_cons (wpAny_bindName (Kh I3 hN hj (.inl hy) rw' (fun s2 I4=>?_) (.inr hy))));refine assignInOrder_cons (wpAny_bindName (Kh I4 hN hi (.inl hx) rv (fun s3 I5=>assignInOrder_nil (wpAny_pure ?_)) (.inr hx)));rw [List.set_comm _ _ (Ne.symm hij)] at I5;exact ⟨_,H1,I5,q1⟩
end
section
variable {X:Cx}{pos:Pos}
noncomputable def yK (c:TT) (tb:TS):TS:=fun D σ H=>∃ W:Nat->St->Hp->Prop,(∃ m,W m σ H)/\∀ m σ H,W m σ H ->
 c σ H fun b H1=>if b=true then ∃ N:St->Hp->Prop,(∀ σ' H',N σ' H'->∃ m',m' < m/\W m' σ' H')/\tb { D with nx:=N,ct:=N,bk:=D.nx } σ H1 else D.nx σ H1
theorem dI {c:Expr}{body:List Stmt}{tc:TT}{tb:TS}(hp:PassesOwn (model X.prog X.w) X.A X.env X.xe) (hc:PT X c tc) (hb:PSs X body tb):PS X (.While c body [] pos) (yK tc tb):=by
 intro pins s σ H D I h;obtain ⟨W,⟨m0,w0⟩,turn⟩:=h;refine wpAny_While (codeAny_whileLoop (fun n s'=>∃ σ' H',Inv X pins σ' H' s'/\W n σ' H') ?_ m0 ⟨σ,H,I,w0⟩);rintro n s1 ⟨σ1,H1,I1,w1⟩;refine wpAny_passesOwn hp (thn (hc pins s1 σ1 H1 _ I1 (turn n σ1 H1 w1)) ?_);rintro b s2 ⟨H2,I2,q2⟩;cases b with
 | true =>
  obtain ⟨N,hN,q2⟩:=q2;rw [if_pos rfl];refine wpAny_passesOwn hp (thn (hb pins s2 σ1 H2 _ I2 q2) fun f s3 q3=>?_);cases f with
  | next =>
   obtain ⟨σ3,H3,I3,n3⟩:=q3;obtain ⟨m',hm,w3⟩:=hN σ3 H3 n3;exact ⟨m',hm,σ3,H3,I3,w3⟩
  | cont =>
   obtain ⟨σ3,H3,I3,n3⟩:=q3;obtain ⟨m',hm,w3⟩:=hN σ3 H3 n3;exact ⟨m',hm,σ3,H3,I3,w3⟩
  | brk=>exact q3
  | ret v=>exact q3
 | false =>
  rw [if_neg Bool.false_ne_true];exact wpAny_execs_nil ⟨σ1,H2,I2,q2⟩
end
structure It where
 go:Nat->Hp->Prop
 yld:Nat->Hp->V->Hp->Prop
 stop:Nat->Hp->Prop
noncomputable def Kl (X:Cx) (pins:List (Addr×Obj)) (H:Hp) (b:Addr):Prop :=
 H b=none/\b≠X.env.locals/\b ∉ X.fs/\(b∈X.ex\/X.s₀.heap.objs.size<=b)/\(∀ x c,X.env.cells.lookup x=some c->c≠b)/\∀ p∈X.pn++pins,p.1≠b
theorem Inv.fpOk {X:Cx}{pins:List (Addr×Obj)}{σ:St}{H H':Hp}{s:Shared}{b:Addr}(I:Inv X pins σ H s) (hb:s.heap.objs.size<=b) (hn:H' b=none):Kl X pins H' b:=by
 refine ⟨hn,Nat.ne_of_gt (Nat.lt_of_lt_of_le I.lt hb),I.nofs hb,.inr (Nat.le_trans I.sz hb),fun x c e z=>?_,fun p hp z=>?_⟩
 ·obtain ⟨v,q⟩:=I.cell x c e;exact absurd (Nat.lt_of_lt_of_le q.lt (by rw [z];exact hb)) (Nat.lt_irrefl _)
 ·exact absurd (Nat.lt_of_lt_of_le (Heap.lt_size (I.pin p hp).1) (by rw [z];exact hb)) (Nat.lt_irrefl _)
structure Turn (P:Program) (w:World) (K:PySem.W.Frag) (tg:Expr) (J:It) (fp:List Addr) (it:Addr) (tn:Nat->Heap->Prop):Prop where
 mem:it∈fp
 obj:∀ i h,tn i h->∀ b∈fp,∃ o,h.get? b=some o/\∀ v,o.data≠.cell v
 keep:∀ i h h',tn i h->(∀ b∈fp,∀ o,h.get? b=some o->h'.get? b=some o)->tn i h'
 item:∀ (X:Cx),X.prog=P->X.w=w->X.K=K->X.calm=true->∀ (i:Nat) (pins:List (Addr×Obj)) (s:Shared) (σ:St) (H:Hp) (E:Value->Shared->Prop),Inv X pins σ H s->(∀ b∈fp,Kl X pins H b)->tn i s.heap->J.go i H ->
  wpAny (model P w) X.A (pyNext (.ref it)) (fun r s1=>∃ u,r=some u /\
   wpAny (model P w) X.A (letOwnedTupleGo tg (.ref it) u) (fun _ s2=>∃ x H',Inv X pins σ H' s2/\RelV x u/\J.yld i H x H'/\tn (i+1) s2.heap/\∀ b∈fp,H' b=none) E s1) E s
 done:∀ (X:Cx),X.prog=P->X.w=w->X.K=K->X.calm=true->∀ (i:Nat) (pins:List (Addr×Obj)) (s:Shared) (σ:St) (H:Hp) (E:Value->Shared->Prop),Inv X pins σ H s->(∀ b∈fp,Kl X pins H b)->tn i s.heap->J.stop i H ->
  wpAny (model P w) X.A (pyNext (.ref it)) (fun r s1=>r=none/\Inv X pins σ H s1) E s
 self:∀ (A:Around) (i:Nat) (s:Shared) (Q:Value->Shared->Prop) (E:Value->Shared->Prop),tn i s.heap->Q (.ref it) s->wpAny (model P w) A (pyIter (.ref it)) Q E s
noncomputable abbrev TI:=St->Hp->(It->Hp->Prop)->Prop
noncomputable def PIE (X:Cx) (pins:List (Addr×Obj)) (σ:St) (tg:Expr) (R:It->Hp->Prop) (itv:Value) (s2:Shared):Prop :=
 ∃ (it:Addr) (fp:List Addr) (tn:Nat->Heap->Prop) (J:It) (H':Hp),itv=.ref it/\Inv X pins σ H' s2/\Turn X.prog X.w X.K tg J fp it tn/\tn 0 s2.heap/\(∀ b∈fp,Kl X pins H' b)/\R J H'
noncomputable def PI (X:Cx) (tg iter:Expr) (wi:TI):Prop :=
 ∀ (pins:List (Addr×Obj)) (s:Shared) (σ:St) (H:Hp) (R:It->Hp->Prop),Inv X pins σ H s->wi σ H R ->
  wpAny (model X.prog X.w) X.A (eval iter X.env) (fun v s1=>wpAny (model X.prog X.w) X.A (pyIter v) (PIE X pins σ tg R) X.xe s1) X.xe s
theorem dJ {M:Model}{A:Around}{E:Value->Shared->Prop}{s:Shared}{tg:Expr}{it:Addr}{u:Value}{o:Obj}{n:String}{vs:Array Value}{Q:Unit->Shared->Prop}(ho:s.heap.get? it=some o) (hc:o.cls=.type n) (hd:o.data=.fields vs)
    (hn:["enumerate", "zip", "dict_itemiterator", "dict_reverseitemiterator", "odict_iterator", "itertools.zip_longest", "itertools.pairwise"].contains n=false) (hQ:Q () s):wpAny M A (letOwnedTupleGo tg (.ref it) u) Q E s:=by
  unfold letOwnedTupleGo;cases tg <;> first
    | exact wpAny_pure hQ
    | (cases u <;> first
        | exact wpAny_pure hQ
        | (refine wpAny_bind (wpAny_load ho ?_)
           rw [hc,hd]
           show wpAny M A (if (["enumerate", "zip", "dict_itemiterator", "dict_reverseitemiterator", "odict_iterator", "itertools.zip_longest", "itertools.pairwise"].contains n&&vs[0]?==some (rawInt _))=true then _ else _) Q E s;rw [if_neg (by intro h;rw [hn,Bool.false_and] at h;cases h)]
           exact wpAny_pure hQ))
noncomputable def Itl (K:PySem.W.Frag) (a:Addr):It :=
 ⟨fun i H=>∃ xs x,SqL K H a xs/\xs[i]?=some x,fun i H x H'=>H'=H/\∀ xs,SqL K H a xs->xs[i]?=some x,fun i H=>∃ xs,SqL K H a xs/\xs.length<=i⟩
noncomputable def Itt (K:PySem.W.Frag) (a:Addr):It :=
 ⟨fun i H=>∃ xs x,SqT K H a xs/\xs[i]?=some x,fun i H x H'=>H'=H/\∀ xs,SqT K H a xs->xs[i]?=some x,fun i H=>∃ xs,SqT K H a xs/\xs.length<=i⟩
noncomputable def Itr (lo:Int) (n:Nat):It:=⟨fun i _=>i < n,fun i H x H'=>H'=H/\x=.int (lo+i),fun i _=>n<=i⟩
theorem aN {P:Program}{w:World}{K:PySem.W.Frag}{tg:Expr}(a it:Addr):Turn P w K tg (Itl K a) [it] it (fun i h=>h.IsListIter it a i) where
 mem:=by simp
 obj:=fun i h st b hb=>by
  have e:b=it:=by simpa using hb
  subst e;obtain ⟨o,e,c,d⟩:=st;exact ⟨o,e,fun v z=>by rw [d] at z;cases z⟩
 keep:=fun i h h' st k=>st.at fun o e=>k it (by simp) o e
 item:=by
  intro X hP hw hK hc i pins s σ H E I hf st hg;subst hP hw hK;obtain ⟨xs,x,hq,hx⟩:=hg;obtain ⟨its,rv,p,hz⟩:=I.list hq;obtain ⟨u,hu,ru⟩:=rv.get hx;obtain ⟨f0,f1,f2,f3,f4,f5⟩:=hf it (by simp);refine wpAny_pyNext_list_item st p.isList (x:=u) (by simpa using hu) fun h' st' sb=>?_
  have I1:Inv X pins σ H { s with heap:=h' }:=I.turned (t':=s.toks) (fun b o hb e=>(sb.2 b hb).trans e) f0 f1 f3 f4 f5;obtain ⟨o,e,c,d⟩:=id st';exact ⟨u,rfl,dJ (s:={ s with heap:=h' }) e c d (by decide) ⟨x,H,I1,ru,⟨rfl,fun ys hy=>by rw [I.list_inj hy hq];exact hx⟩,st',fun b hb=>(hf b hb).1⟩⟩
 done:=by
  intro X hP hw hK hc i pins s σ H E I hf st hg;subst hP hw hK;obtain ⟨xs,hq,hx⟩:=hg;obtain ⟨its,rv,p,hz⟩:=I.list hq;obtain ⟨f0,f1,f2,f3,f4,f5⟩:=hf it (by simp);have hl:=rv.length;exact wpAny_pyNext_list_end (I.ok.hd hc) st p.isList (by simp;omega) fun h' eb=>⟨rfl,I.turned (t':=s.toks) (fun b o hb e=>eb b o hb e) f0 f1 f3 f4 f5⟩
 self:=fun _ _ _ _ _ st h=>wpAny_pyIter_listiter st h
theorem V4 {P:Program}{w:World}{K:PySem.W.Frag}{tg:Expr}(a it:Addr):Turn P w K tg (Itt K a) [it] it (fun i h=>h.IsTupleIter it a i) where
 mem:=by simp
 obj:=fun i h st b hb=>by
  have e:b=it:=by simpa using hb
  subst e;obtain ⟨o,e,c,d⟩:=st;exact ⟨o,e,fun v z=>by rw [d] at z;cases z⟩
 keep:=fun i h h' st k=>st.at fun o e=>k it (by simp) o e
 item:=by
  intro X hP hw hK hc i pins s σ H E I hf st hg;subst hP hw hK;obtain ⟨xs,x,hq,hx⟩:=hg;obtain ⟨its,rv,p,hz⟩:=I.tuple hq;obtain ⟨u,hu,ru⟩:=rv.get hx;obtain ⟨f0,f1,f2,f3,f4,f5⟩:=hf it (by simp);refine wpAny_pyNext_tuple_item st (show s.heap.IsTuple a its.toArray from p) (x:=u) (by simpa using hu) fun h' st' sb=>?_
  have I1:Inv X pins σ H { s with heap:=h' }:=I.turned (t':=s.toks) (fun b o hb e=>(sb.2 b hb).trans e) f0 f1 f3 f4 f5;obtain ⟨o,e,c,d⟩:=id st';exact ⟨u,rfl,dJ (s:={ s with heap:=h' }) e c d (by decide) ⟨x,H,I1,ru,⟨rfl,fun ys hy=>by rw [I.tuple_inj hy hq];exact hx⟩,st',fun b hb=>(hf b hb).1⟩⟩
 done:=by
  intro X hP hw hK hc i pins s σ H E I hf st hg;subst hP hw hK;obtain ⟨xs,hq,hx⟩:=hg;obtain ⟨its,rv,p,hz⟩:=I.tuple hq;obtain ⟨f0,f1,f2,f3,f4,f5⟩:=hf it (by simp);have hl:=rv.length;exact wpAny_pyNext_tuple_end (I.ok.hd hc) st (show s.heap.IsTuple a its.toArray from p) (by simp;omega) fun h' eb=>⟨rfl,I.turned (t':=s.toks) (fun b o hb e=>eb b o hb e) f0 f1 f3 f4 f5⟩
 self:=fun _ _ _ _ _ st h=>wpAny_pyIter_tupleiter st h
theorem V5 {P:Program}{w:World}{K:PySem.W.Frag}{tg:Expr}(it:Addr) (lo:Int) (n:Nat):Turn P w K tg (Itr lo n) [it] it (fun i h=>IsRangeIter h it (lo+(i:Nat) * 1) ((n:Int) - (i:Nat)) 1) where
 mem:=by simp
 obj:=fun i h st b hb=>by
  have e:b=it:=by simpa using hb
  subst e
  exact ⟨_,st,fun v z=>by
   have z':Data.fields _=Data.cell v:=z
   cases z'⟩
 keep:=fun i h h' st k=>k it (by simp) _ st
 item:=by
  intro X hP hw hK hc i pins s σ H E I hf st hg;subst hP hw hK;obtain ⟨f0,f1,f2,f3,f4,f5⟩:=hf it (by simp);have W:=Walks.range (prog:=X.prog) (w:=X.w) (I.ok.hd hc) it lo 1 n;refine W.item i s _ _ hg st fun v h' tk hv st' kk=>?_
  obtain ⟨t,rfl⟩:=hv;have I1:Inv X pins σ H { s with heap:=h',toks:=tk }:=I.turned (fun b o hb e=>kk b o (by simpa using hb) e) f0 f1 f3 f4 f5
  refine ⟨_,rfl,dJ (s:={ s with heap:=h',toks:=tk }) (n := "range_iterator") st' rfl rfl (by decide) ⟨.int (lo+i),H,I1,⟨t,?_⟩,⟨rfl,rfl⟩,st',fun b hb=>(hf b hb).1⟩⟩;rw [Int.mul_one]
 done:=by
  intro X hP hw hK hc i pins s σ H E I hf st hg;subst hP hw hK;obtain ⟨f0,f1,f2,f3,f4,f5⟩:=hf it (by simp);exact wpAny_pyNext_range_end (I.ok.hd hc) st (by have:n<=i:=hg;omega) fun h' eb=>⟨rfl,I.turned (t':=s.toks) (fun b o hb e=>eb b o hb e) f0 f1 f3 f4 f5⟩
 self:=fun _ _ _ _ _ st h=>wpAny_pyIter_rangeiter st h
section
variable {X:Cx}{tg:Expr}
noncomputable def Adv (K:PySem.W.Frag) (tl:TE):TI:=fun σ H R=>tl σ H fun x H1=>∃ a,x=.ref a/\(∃ xs,SqL K H1 a xs)/\R (Itl K a) H1
noncomputable def Afx (K:PySem.W.Frag) (tl:TE):TI:=fun σ H R=>tl σ H fun x H1=>∃ a,x=.ref a/\(∃ xs,SqT K H1 a xs)/\R (Itt K a) H1
theorem Yo {l:Expr}{tl:TE}(hl:PE X l tl):PI X tg l (Adv X.K tl):=by
 intro pins s σ H R I h;refine thn (hl pins s σ H _ I h) ?_;rintro v s1 ⟨x,H1,I1,r1,q1⟩;obtain ⟨a,e,⟨xs,hq⟩,q⟩:=q1;subst e;cases r1;obtain ⟨its,rv,p,hz⟩:=I1.list hq;refine wpAny_pyIter_list p.isList ?_;refine ⟨s1.heap.objs.size,[s1.heap.objs.size],_,_,H1,rfl,I1.kept (t':=s1.toks) fun b o e=>Heap.get?_push_of_some _ e,aN a _,⟨_,Heap.get?_push_size _ rfl,rfl,rfl⟩,fun b hb=>?_,q⟩;have e:b=s1.heap.objs.size:=by simpa using hb
 subst e;exact I1.fpOk (Nat.le_refl _) (I1.hok.fresh (Nat.le_refl _))
theorem yL {l:Expr}{tl:TE}(hl:PE X l tl):PI X tg l (Afx X.K tl):=by
 intro pins s σ H R I h;refine thn (hl pins s σ H _ I h) ?_;rintro v s1 ⟨x,H1,I1,r1,q1⟩;obtain ⟨a,e,⟨xs,hq⟩,q⟩:=q1;subst e;cases r1;obtain ⟨its,rv,p,hz⟩:=I1.tuple hq;refine wpAny_pyIter_tuple (show s1.heap.IsTuple a its.toArray from p) ?_;refine ⟨s1.heap.objs.size,[s1.heap.objs.size],_,_,H1,rfl,I1.kept (t':=s1.toks) fun b o e=>Heap.get?_push_of_some _ e,V4 a _,⟨_,Heap.get?_push_size _ rfl,rfl,rfl⟩,fun b hb=>?_,q⟩;have e:b=s1.heap.objs.size:=by simpa using hb
 subst e;exact I1.fpOk (Nat.le_refl _) (I1.hok.fresh (Nat.le_refl _))
theorem dM {pins:List (Addr×Obj)}{σ:St}{H:Hp}{s:Shared}{R:It->Hp->Prop}{E:Value->Shared->Prop}{lo hi:Int}{t u v:Tok}{tk:Nat}(I:Inv X pins σ H s) (h1:-(2 ^ 62)<=lo) (h2:lo < 2 ^ 62) (h3:-(2 ^ 62)<=hi) (h4:hi < 2 ^ 62)
  (q:R (Itr lo (hi - lo).toNat) H):wpAny (model X.prog X.w) X.A (pyIter (.ref s.heap.objs.size)) (PIE X pins σ tg R) E { s with heap:=s.heap.push { cls:=.type "range",data:=.fields #[.int lo t,.int hi u,.int 1 v] },toks:=tk }:=by
 refine wpAny_pyIter_range (IsRange.new ..) (small_one h1 h2 h3 h4) ?_
 have I1:Inv X pins σ H { s with heap:=s.heap.push { cls:=.type "range",data:=.fields #[.int lo t,.int hi u,.int 1 v] },toks:=tk }:=I.kept fun b o e=>Heap.get?_push_of_some _ e
 refine ⟨(s.heap.push { cls:=.type "range",data:=.fields #[.int lo t,.int hi u,.int 1 v] }).objs.size,[(s.heap.push { cls:=.type "range",data:=.fields #[.int lo t,.int hi u,.int 1 v] }).objs.size],_,_,H,rfl,
  I1.kept (t':=tk) fun b o e=>Heap.get?_push_of_some _ e,V5 _ lo (hi - lo).toNat,?_,fun b hb=>?_,q⟩
 ·have e1:lo+((0:Nat):Int) * 1=lo:=by simp
  have e2:(((hi - lo).toNat:Nat):Int) - ((0:Nat):Int)=Builtin.Range.rangeSize lo hi 1:=by rw [rangeSize_one];split <;> omega
  show IsRangeIter _ _ (lo+((0:Nat):Int) * 1) ((((hi - lo).toNat:Nat):Int) - ((0:Nat):Int)) 1;rw [e1,e2];exact Heap.get?_push_size _ rfl
 ·have e:b=(s.heap.push { cls:=.type "range",data:=.fields #[.int lo t,.int hi u,.int 1 v] }).objs.size:=by simpa using hb
  subst e;exact I1.fpOk (Nat.le_refl _) (I1.hok.fresh (Nat.le_refl _))
noncomputable def Adw (ta:TA):TI:=fun σ H R=>ta σ H fun vs H1=>∃ j:Int,vs=[.int j]/\-(2 ^ 62)<=j/\j < 2 ^ 62/\R (Itr 0 j.toNat) H1
theorem aO {a:Expr}{ta:TA}{p pos:Pos}(hg:Gl X "range") (hm:X.mg "range"=none) (ha:PA X [a] ta) (hs:starEach [a] X.env=[(false,eval a X.env)]:=by rfl):PI X tg (.Call (.Name "range" p) [a] [] pos) (Adw ta):=by
 intro pins s σ H R I h;refine Call_ (Oi I hg hm boot_range (PyProof.Rows.callWith_type1 (thn (ha pos pins s σ H _ I h) ?_) hs rfl));rintro us s1 ⟨vs,H1,I1,r1,q1⟩;obtain ⟨j,e,q1,q2,q⟩:=q1;subst e;cases r1 with
 | cons r rr =>
  cases rr;obtain ⟨t,rfl⟩:=r;exact call_range_1 (dM I1 (by omega) (by omega) q1 q2 (by simpa using q))
noncomputable def Afy (wi:TI) (g:TG) (tb:TS):TS:=fun D σ H=>wi σ H fun J H1=>∃ W:Nat->Nat->St->Hp->Prop,(∃ m,W 0 m σ H1)/\∀ i m σ H,W i m σ H ->
 (J.stop i H/\D.nx σ H)\/(J.go i H/\∃ N:St->Hp->Prop,(∀ σ' H',N σ' H'->∃ m',m' < m/\W (i+1) m' σ' H')/\∀ x H',J.yld i H x H'->g x σ H' fun σ2 H2=>tb { D with nx:=N,ct:=N,bk:=D.nx } σ2 H2)
noncomputable def Jq (fp:List Addr) (h:Heap):List (Addr×Obj):=fp.filterMap fun b=>(h.get? b).map fun o=>(b,o)
theorem Gw {fp:List Addr}{h:Heap}{b:Addr}{o:Obj}(hb:b∈fp) (e:h.get? b=some o):(b,o)∈Jq fp h:=List.mem_filterMap.mpr ⟨b,hb,by rw [e];rfl⟩
theorem Qv {fp:List Addr}{h:Heap}{p:Addr×Obj}(hp:p∈Jq fp h):p.1∈fp/\h.get? p.1=some p.2:=by
 obtain ⟨b,hb,e⟩:=List.mem_filterMap.mp hp;cases q:h.get? b with
 | none=>rw [q] at e;cases e
 | some o =>
  rw [q] at e;have e':(b,o)=p:=Option.some.inj e;subst e';exact ⟨hb,q⟩
theorem Inv.pinned {pins:List (Addr×Obj)}{σ:St}{H:Hp}{s:Shared}{fp:List Addr}(I:Inv X pins σ H s) (hf:∀ b∈fp,Kl X pins H b) (ho:∀ b∈fp,∃ o,s.heap.get? b=some o/\∀ v,o.data≠.cell v):Inv X (pins++Jq fp s.heap) σ H s :=
 I.pins_of fun p hp=>(List.mem_append.mp hp).elim (fun z=>I.pin p (List.mem_append_right _ z)) fun z=>by
  obtain ⟨hb,e⟩:=Qv z;obtain ⟨f0,f1,f2,_⟩:=hf p.1 hb;obtain ⟨o,e',d⟩:=ho p.1 hb;rw [e] at e';cases e';exact ⟨e,f0,f1,f2,d⟩
theorem Inv.unpinned {pins pl:List (Addr×Obj)}{σ:St}{H:Hp}{s:Shared}(I:Inv X (pins++pl) σ H s):Inv X pins σ H s:=I.pins_of fun p hp=>I.pin p (List.mem_append_right _ (List.mem_append_left _ hp))
theorem yM {iter:Expr}{body:List Stmt}{wi:TI}{g:TG}{tb:TS}{pos:Pos}(hp:PassesOwn (model X.prog X.w) X.A X.env X.xe) (hc:X.calm=true) (hi:PI X tg iter wi) (hg:PG X tg g) (hb:PSs X body tb)
  (hs:∀ x,foldedSetIterable iter X.env x=pure x:=by intro _;rfl):PS X (.For tg iter body [] pos) (Afy wi g tb):=by
 intro pins s σ H D I h;refine wpAny_For (thn (hi pins s σ H _ I h) fun v s1 h1=>thn h1 fun itv s2 h2=>?_) hs;obtain ⟨it,fp,tn,J,H2,e,I2,T,st2,f2,W,⟨m0,w0⟩,turn⟩:=h2;subst e
 -- what stays true of the iterator's objects through the loop
 have stat:∀ {H':Hp},(∀ b∈fp,H' b=none)->∀ b∈fp,Kl X pins H' b:=fun hn b hb=>⟨hn b hb,(f2 b hb).2⟩
 refine codeAny_forLoop_any (fun n s'=>∃ i σ' H',Inv X pins σ' H' s'/\tn i s'.heap/\(∀ b∈fp,H' b=none)/\W i n σ' H') ?_ m0 ⟨0,σ,H2,I2,st2,fun b hb=>(f2 b hb).1,w0⟩;rintro n s3 ⟨i,σ3,H3,I3,st3,fr3,w3⟩;rcases turn i n σ3 H3 w3 with ⟨stop,qn⟩|⟨go,N,hN,step⟩
 ·refine wpAny_passesOwn hp (thn (T.done X rfl rfl rfl hc i pins s3 σ3 H3 X.xe I3 (stat fr3) st3 stop) ?_);rintro r s4 ⟨hr,I4⟩;subst hr;exact wpAny_execs_nil ⟨σ3,H3,I4,qn⟩
 ·refine wpAny_passesOwn hp (thn (T.item X rfl rfl rfl hc i pins s3 σ3 H3 X.xe I3 (stat fr3) st3 go) ?_);rintro r s4 ⟨u,hr,h4⟩;subst hr;refine wpAny_passesOwn hp (thn h4 ?_);rintro _ s5 ⟨x,H5,I5,r5,y5,st5,fr5⟩;have I5':=I5.pinned (stat fr5) (T.obj _ _ st5);refine wpAny_passesOwn hp (thn (hg _ s5 σ3 H5 x u _ I5' r5 (step x H5 y5)) ?_);rintro _ s6 ⟨σ6,H6,I6,q6⟩;refine wpAny_passesOwn hp (thn (hb _ s6 σ6 H6 _ I6 q6) fun f s7 q7=>?_);have again:∀ {σ7:St} {H7:Hp},Inv X (pins++Jq fp s5.heap) σ7 H7 s7->N σ7 H7->∃ m,m < n/\∃ i σ' H',Inv X pins σ' H' s7/\tn i s7.heap/\(∀ b∈fp,H' b=none)/\W i m σ' H':=fun {σ7 H7} I7 n7=>by
   obtain ⟨m',hm,w7⟩:=hN σ7 H7 n7;refine ⟨m',hm,i+1,σ7,H7,I7.unpinned,T.keep _ _ _ st5 fun b hb o e=>(I7.pin (b,o) (List.mem_append_right _ (List.mem_append_right _ (Gw hb e)))).1,fun b hb=>?_,w7⟩;obtain ⟨o,e,d⟩:=T.obj _ _ st5 b hb;exact (I7.pin (b,o) (List.mem_append_right _ (List.mem_append_right _ (Gw hb e)))).2.1
  cases f with
  | next=>obtain ⟨σ7,H7,I7,n7⟩:=q7;exact again I7 n7
  | cont=>obtain ⟨σ7,H7,I7,n7⟩:=q7;exact again I7 n7
  | brk=>obtain ⟨σ7,H7,I7,q7⟩:=q7;exact ⟨σ7,H7,I7.unpinned,q7⟩
  | ret v=>obtain ⟨x7,σ7,H7,I7,r7,q7⟩:=q7;exact ⟨x7,σ7,H7,I7.unpinned,r7,q7⟩
end
noncomputable abbrev R2:=V->V->Hp->VK->Prop
noncomputable def OpR (X:Cx) (f:Value->Value->Sem Value) (r:R2):Prop :=
 ∀ (pins:List (Addr×Obj)) (s:Shared) (σ:St) (H:Hp) (x y:V) (v u:Value) (Q:VK),Inv X pins σ H s->RelV x v->RelV y u->r x y H Q ->
  wpAny (model X.prog X.w) X.A (f v u) (EP X pins σ Q) X.xe s
noncomputable def UnR (X:Cx) (f:Value->Sem Value) (r:V->Hp->VK->Prop):Prop :=
 ∀ (pins:List (Addr×Obj)) (s:Shared) (σ:St) (H:Hp) (x:V) (v:Value) (Q:VK),Inv X pins σ H s->RelV x v->r x H Q ->
  wpAny (model X.prog X.w) X.A (f v) (EP X pins σ Q) X.xe s
noncomputable def Ca (X:Cx) (f:Value) (r:List V->Hp->VK->Prop):Prop :=
 ∀ (pins:List (Addr×Obj)) (s:Shared) (σ:St) (H:Hp) (xs:List V) (us:List Value) (Q:VK),Inv X pins σ H s->Vals xs us->r xs H Q ->
  wpAny (model X.prog X.w) X.A (call f us) (EP X pins σ Q) X.xe s
noncomputable def Afz (X:Cx) (r:V->Hp->(Bool->Hp->Prop)->Prop):Prop :=
 ∀ (pins:List (Addr×Obj)) (s:Shared) (σ:St) (H:Hp) (x:V) (v:Value) (Q:Bool->Hp->Prop),Inv X pins σ H s->RelV x v->r x H Q ->
  wpAny (model X.prog X.w) X.A (truthy v) (TP X pins σ Q) X.xe s
noncomputable def tOp (r:R2) (ta tb:TE):TE:=fun σ H Q=>ta σ H fun x H1=>tb σ H1 fun y H2=>r x y H2 Q
noncomputable def tUn (r:V->Hp->VK->Prop) (ta:TE):TE:=fun σ H Q=>ta σ H fun x H1=>r x H1 Q
noncomputable def rI (C:Int->Int->Prop) (g:Int->Int->V):R2:=fun x y H Q=>∃ i j,x=.int i/\y=.int j/\C i j/\Q (g i j) H
noncomputable def rI0 (g:Int->Int->V):R2:=fun x y H Q=>∃ i j,x=.int i/\y=.int j/\Q (g i j) H
noncomputable def rU (g:Int->V):V->Hp->VK->Prop:=fun x H Q=>∃ i,x=.int i/\Q (g i) H
section
variable {X:Cx}{a b c:Expr}{ta tb tc:TE}{pos:Pos}
theorem yN (ha:PE X a ta) (hb:PE X b tb) {pins:List (Addr×Obj)}{s:Shared}{σ:St}{H:Hp}{R:V->V->Hp->Prop}(I:Inv X pins σ H s)
  (h:ta σ H fun x H1=>tb σ H1 fun y H2=>R x y H2) {Q:Value->Shared->Prop} {f:Value->Value->Sem Value}
  (hf:∀ v u s2 x y H2,Inv X pins σ H2 s2->RelV x v->RelV y u->R x y H2->wpAny (model X.prog X.w) X.A (f v u) Q X.xe s2) :
  wpAny (model X.prog X.w) X.A (eval a X.env) (fun v s₁=>wpAny (model X.prog X.w) X.A (eval b X.env) (fun u s₂=>wpAny (model X.prog X.w) X.A (f v u) Q X.xe s₂) X.xe s₁) X.xe s:=by
 refine thn (ha pins s σ H _ I h) ?_;rintro v s1 ⟨x,H1,I1,r1,q1⟩;refine thn (hb pins s1 σ H1 _ I1 q1) ?_;rintro u s2 ⟨y,H2,I2,r2,q2⟩;exact hf v u s2 x y H2 I2 r1 r2 q2
theorem Adx {op:Operator}{r:R2}(ho:OpR X (binaryOp op) r) (ha:PE X a ta) (hb:PE X b tb):PE X (.BinOp a op b pos) (tOp r ta tb):=by
 intro pins s σ H Q I h;exact wpAny_BinOp (yN ha hb I h fun v u s2 x y H2 I2 rx ry q=>ho pins s2 σ H2 x y v u Q I2 rx ry q)
theorem Ady {op:UnaryOp}{r:V->Hp->VK->Prop}(ho:UnR X (unaryOp op) r) (ha:PE X a ta):PE X (.UnaryOp op a pos) (tUn r ta):=by
 intro pins s σ H Q I h;refine UnaryOp_ (thn (ha pins s σ H _ I h) ?_);rintro v s1 ⟨x,H1,I1,r1,q1⟩;exact ho pins s1 σ H1 x v Q I1 r1 q1
theorem opI {f:Value->Value->Sem Value}{C:Int->Int->Prop}{g:Int->Int->Int}
  (rule:∀ (i j:Int) (t u:Tok) (s:Shared) (Q:Value->Shared->Prop) (E:Value->Shared->Prop),C i j->Q (.int (g i j) s.toks) { s with toks:=s.toks+1 }->wpAny (model X.prog X.w) X.A (f (.int i t) (.int j u)) Q E s) :
  OpR X f (rI C fun i j=>.int (g i j)):=by
 intro pins s σ H x y v u Q I rx ry h;obtain ⟨i,j,rfl,rfl,hc,q⟩:=h;obtain ⟨t,rfl⟩:=rx;obtain ⟨t',rfl⟩:=ry;exact rule i j t t' s _ _ hc ⟨.int (g i j),H,I.tok _,⟨_,rfl⟩,q⟩
theorem qL {f:Value->Value->Sem Value}{g:Int->Int->Int}
  (rule:∀ (i j:Int) (t u:Tok) (s:Shared) (Q:Value->Shared->Prop) (E:Value->Shared->Prop),Q (.int (g i j) s.toks) { s with toks:=s.toks+1 }->wpAny (model X.prog X.w) X.A (f (.int i t) (.int j u)) Q E s) :
  OpR X f (rI0 fun i j=>.int (g i j)):=by
 intro pins s σ H x y v u Q I rx ry h;obtain ⟨i,j,rfl,rfl,q⟩:=h;obtain ⟨t,rfl⟩:=rx;obtain ⟨t',rfl⟩:=ry;exact rule i j t t' s _ _ ⟨.int (g i j),H,I.tok _,⟨_,rfl⟩,q⟩
theorem qM {f:Value->Value->Sem Value}{g:Int->Int->Bool}
  (rule:∀ (i j:Int) (t u:Tok) (s:Shared) (Q:Value->Shared->Prop) (E:Value->Shared->Prop),Q (.bool (g i j)) s->wpAny (model X.prog X.w) X.A (f (.int i t) (.int j u)) Q E s) :
  OpR X f (rI0 fun i j=>.bl (g i j)):=by
 intro pins s σ H x y v u Q I rx ry h;obtain ⟨i,j,rfl,rfl,q⟩:=h;obtain ⟨t,rfl⟩:=rx;obtain ⟨t',rfl⟩:=ry;exact rule i j t t' s _ _ ⟨.bl (g i j),H,I,rfl,q⟩
noncomputable def Adz (i j:Int):Prop:=0<=j/\j<=1000000/\i.natAbs < 2 ^ 64
noncomputable def yO (i j:Int):Prop:=(-(2 ^ 64) < i/\i < 2 ^ 64)\/(-(2 ^ 64) < j/\j < 2 ^ 64)
theorem yO.ok {i j:Int}(h:yO i j):IntMulOk i j:=by
 rcases h with ⟨h1,h2⟩|⟨h1,h2⟩
 ·exact .of_left (intBits_le_64 h1 h2)
 ·exact .of_right (intBits_le_64 h1 h2)
theorem V6 (k:Nat):(0:Int)<=2 ^ k:=by
 rw [two_pow_cast];exact Int.natCast_nonneg _
theorem yP:OpR X (binaryOp .Add) (rI0 fun i j=>.int (i+j)):=qL fun _ _ _ _ _ _ _ q=>add_int q
theorem yQ:OpR X (binaryOp .Sub) (rI0 fun i j=>.int (i - j)):=qL fun _ _ _ _ _ _ _ q=>sub_int q
theorem yR:OpR X (binaryOp .Mult) (rI yO fun i j=>.int (i * j)):=opI fun _ _ _ _ _ _ _ hc q=>mul_int q hc.ok
theorem qN:OpR X (binaryOp .Mod) (rI (fun _ j=>j≠0) fun i j=>.int (i.fmod j)):=opI fun _ _ _ _ _ _ _ hc q=>mod_int' hc q
theorem yS:OpR X (binaryOp .Pow) (rI Adz fun i j=>.int (i ^ j.toNat)):=opI fun _ _ _ _ _ _ _ hc q=>pow_int_small hc.1 hc.2.1 hc.2.2 q
theorem yU:OpR X (binaryOp .LShift) (rI Adz fun i j=>.int (i * 2 ^ j.toNat)):=opI fun _ _ _ _ _ _ _ hc q=>lshift_int_small hc.1 hc.2.1 hc.2.2 q
theorem yV:OpR X (binaryOp .RShift) (rI (fun _ j=>0<=j) fun i j=>.int (i / 2 ^ j.toNat)):=opI fun i j _ _ _ _ _ hc q =>
 rshift_int hc (by rw [Int.fdiv_eq_ediv_of_nonneg i (V6 _)];exact q)
theorem yW:OpR X (binaryOp .BitAnd) (rI0 fun i j=>.int (Builtin.bitAnd i j)):=qL fun _ _ _ _ _ _ _ q=>and_int q
theorem Ad0:OpR X (binaryOp .BitOr) (rI0 fun i j=>.int (Builtin.bitOr i j)):=qL fun _ _ _ _ _ _ _ q=>or_int q
theorem unI {f:Value->Sem Value}{g:Int->Int}
  (rule:∀ (i:Int) (t:Tok) (s:Shared) (Q:Value->Shared->Prop) (E:Value->Shared->Prop),Q (.int (g i) s.toks) { s with toks:=s.toks+1 }->wpAny (model X.prog X.w) X.A (f (.int i t)) Q E s) :
  UnR X f (rU fun i=>.int (g i)):=by
 intro pins s σ H x v Q I rx h;obtain ⟨i,rfl,q⟩:=h;obtain ⟨t,rfl⟩:=rx;exact rule i t s _ _ ⟨.int (g i),H,I.tok _,⟨_,rfl⟩,q⟩
theorem yX:UnR X (unaryOp .USub) (rU fun i=>.int (-i)):=unI fun _ _ _ _ _ q=>neg_int q
end
section
variable {X:Cx}{a b c:Expr}{ta tb tc:TE}{pos:Pos}
theorem Ad1:OpR X (compareOp .Lt) (rI0 fun i j=>.bl (decide (i < j))):=qM fun _ _ _ _ _ _ _ q=>lt_int q
theorem Ad2:OpR X (compareOp .LtE) (rI0 fun i j=>.bl (decide (i<=j))):=qM fun _ _ _ _ _ _ _ q=>le_int q
theorem Ad3:OpR X (compareOp .Gt) (rI0 fun i j=>.bl (decide (j < i))):=qM fun _ _ _ _ _ _ _ q=>gt_int q
theorem Ad4:OpR X (compareOp .GtE) (rI0 fun i j=>.bl (decide (j<=i))):=qM fun _ _ _ _ _ _ _ q=>ge_int q
theorem OpR.or {f:Value->Value->Sem Value}{r r':R2}(h:OpR X f r) (h':OpR X f r'):OpR X f (fun x y H Q=>r x y H Q\/r' x y H Q):=by
 intro pins s σ H x y v u Q I rx ry q;rcases q with q|q
 ·exact h pins s σ H x y v u Q I rx ry q
 ·exact h' pins s σ H x y v u Q I rx ry q
theorem qO {op:CmpOp}{r:R2}(ho:OpR X (compareOp op) r) (ha:PE X a ta) (hb:PE X b tb) (hm:behindInMarks op b=false):PE X (.Compare a [op] [b] pos) (tOp r ta tb):=by
 intro pins s σ H Q I h;exact wpAny_Compare1 (yN ha hb I h fun v u s2 x y H2 I2 rx ry q=>ho pins s2 σ H2 x y v u Q I2 rx ry q) hm
noncomputable def dN (t:TE):TT:=fun σ H Q=>t σ H fun x H'=>∃ k,x=.bl k/\Q k H'
theorem qP {op:CmpOp}{r:R2}(ho:OpR X (compareOp op) r) (ha:PE X a ta) (hb:PE X b tb) (hm:behindInMarks op b=false):PT X (.Compare a [op] [b] pos) (dN (tOp r ta tb)):=by
 intro pins s σ H Q I h
 refine wpAny_isTrue_Compare1 (thn (ha pins s σ H _ I h) fun v s1 ⟨x,H1,I1,r1,q1⟩=>thn (hb pins s1 σ H1 _ I1 q1) fun u s2 ⟨y,H2,I2,r2,q2⟩ =>
  thn (ho pins s2 σ H2 x y v u _ I2 r1 r2 q2) fun c s3 ⟨z,H3,I3,r3,k,e,q3⟩=>?_) hm
 subst e;cases r3;exact wpAny_truthy_bool ⟨H3,I3,q3⟩
noncomputable def V7 (r r':R2) (ta tb tc:TE):TE:=fun σ H Q=>ta σ H fun x H1=>tb σ H1 fun y H2=>r x y H2 fun z H3=>∃ k,z=.bl k /\
 (if k=true then tc σ H3 fun w' H4=>r' y w' H4 Q else Q (.bl false) H3)
theorem dO {op op':CmpOp}{r r':R2}(ho:OpR X (compareOp op) r) (ho':OpR X (compareOp op') r') (ha:PE X a ta) (hb:PE X b tb) (hc:PE X c tc)
  (hm:lastMarks [op,op'] [b,c]=false:=by with_unfolding_all rfl):PE X (.Compare a [op,op'] [b,c] pos) (V7 r r' ta tb tc):=by
 intro pins s σ H Q I h
 refine Compare_chain (thn (ha pins s σ H _ I h) fun v s1 ⟨x,H1,I1,r1,q1⟩=>chain_link (thn (hb pins s1 σ H1 _ I1 q1) fun u s2 ⟨y,H2,I2,r2,q2⟩ =>
  thn (ho pins s2 σ H2 x y v u _ I2 r1 r2 q2) fun d s3 ⟨z,H3,I3,r3,k,e,q3⟩=>?_)) hm
 subst e;cases r3;refine wpAny_truthy_bool ?_;cases k with
 | false=>exact ite_ff ⟨.bl false,H3,I3,rfl,q3⟩
 | true=>exact ite_tt (chain_last (thn (hc pins s3 σ H3 _ I3 q3) fun w' s4 ⟨z',H4,I4,r4,q4⟩=>ho' pins s4 σ H4 y z' u w' Q I4 r2 r4 q4))
theorem dR {op op':CmpOp}{r r':R2}(ho:OpR X (compareOp op) r) (ho':OpR X (compareOp op') r') (ha:PE X a ta) (hb:PE X b tb) (hc:PE X c tc)
  (hm:lastMarks [op,op'] [b,c]=false:=by with_unfolding_all rfl):PT X (.Compare a [op,op'] [b,c] pos) (dN (V7 r r' ta tb tc)):=by
 intro pins s σ H Q I h
 refine isTrue_chain (thn (ha pins s σ H _ I h) fun v s1 ⟨x,H1,I1,r1,q1⟩=>test_link (thn (hb pins s1 σ H1 _ I1 q1) fun u s2 ⟨y,H2,I2,r2,q2⟩ =>
  thn (ho pins s2 σ H2 x y v u _ I2 r1 r2 q2) fun d s3 ⟨z,H3,I3,r3,k,e,q3⟩=>?_)) hm
 subst e;cases r3;refine wpAny_truthy_bool ?_;cases k with
 | false =>
  obtain ⟨k',e',q'⟩:=q3;cases e';exact ite_ff ⟨H3,I3,q'⟩
 | true =>
  refine ite_tt (test_last (thn (hc pins s3 σ H3 _ I3 q3) ?_));rintro w' s4 ⟨z',H4,I4,r4,q4⟩;refine thn (ho' pins s4 σ H4 y z' u w' _ I4 r2 r4 q4) ?_;rintro d' s5 ⟨z2,H5,I5,r5,k2,e2,q5⟩;subst e2;cases r5;exact wpAny_truthy_bool ⟨H5,I5,q5⟩
noncomputable def yZ (K:PySem.W.Frag) (x:V) (H:Hp) (k:Bool):Prop :=
 match x with
 | .non=>k=false
 | .bl b=>k=b
 | .int i=>k=(i != 0)
 | .str y=>y.length<=sizeLine/\k=((y.length:Int) != 0)
 | .byt y=>y.size<=sizeLine/\k=((y.size:Int) != 0)
 | .ref p=>(∃ xs,SqL K H p xs/\k=!xs.isEmpty)\/(∃ xs,SqT K H p xs/\k=!xs.isEmpty)\/∃ kvs,H p=some (.dK kvs)/\k=!kvs.isEmpty
 | _=>False
theorem V8 {κ:Type}{kvs:List (κ×V)}{vs:List (κ×Value)}(r:KV kvs vs):(!vs.isEmpty)=!kvs.isEmpty:=by
 cases r <;> rfl
theorem Oj {xs:List V}{its:List Value}(r:Vals xs its):(!its.toArray.isEmpty)=!xs.isEmpty:=by
 cases r <;> simp
theorem Jr:(sizeLine:Nat) < 2 ^ 63:=by rw [sizeLine_eq];decide
theorem zA:Afz X (fun x H Q=>∃ k,yZ X.K x H k/\Q k H):=by
 intro pins s σ H x v Q I rx h;obtain ⟨k,e,q⟩:=h;have hl:=Jr;have hs:sizeLine=16777216:=sizeLine_eq;cases x with
 | non =>
  cases rx;have e':k=false:=e;subst e';exact truthy_none ⟨H,I,q⟩
 | bl b =>
  cases rx;have e':k=b:=e;subst e';exact wpAny_truthy_bool ⟨H,I,q⟩
 | int i =>
  obtain ⟨t,rfl⟩:=rx;have e':k=(i != 0):=e;subst e';exact PySem.P.truthy_int ⟨H,I,q⟩
 | str y =>
  obtain ⟨t,rfl⟩:=rx;obtain ⟨hy,e'⟩:y.length<=sizeLine/\k=((y.length:Int) != 0):=e;subst e';exact PySem.P.truthy_str (by omega) ⟨H,I.tok _,q⟩
 | byt y =>
  obtain ⟨t,rfl⟩:=rx;obtain ⟨hy,e'⟩:y.size<=sizeLine/\k=((y.size:Int) != 0):=e;subst e';exact PySem.W.truthy_bytes (by omega) ⟨H,I.tok _,q⟩
 | ref p =>
  cases rx;have e':(∃ xs,SqL X.K H p xs/\k=!xs.isEmpty)\/(∃ xs,SqT X.K H p xs/\k=!xs.isEmpty)\/∃ kvs,H p=some (.dK kvs)/\k=!kvs.isEmpty:=e;rcases e' with ⟨xs,hx,e'⟩|⟨xs,hx,e'⟩|⟨kvs,hx,e'⟩
  ·subst e';obtain ⟨its,r,pl,hz⟩:=I.list hx;have hlen:=r.length;exact wpAny_truthy_list pl.isList (by simp only [List.size_toArray];omega) ⟨H,I.tok _,by rw [Oj r];exact q⟩
  ·subst e';obtain ⟨its,r,pl,hz⟩:=I.tuple hx;have hlen:=r.length;exact truthy_tuple pl (by simp only [List.size_toArray];omega) ⟨H,I.tok _,by rw [Oj r];exact q⟩
  ·subst e';obtain ⟨hz,hS,vs,r,m⟩:kvs.length<=sizeLine/\(p==sysModules)=false/\∃ vs,KV kvs vs/\s.heap.DictOf (Ru X.prog X.w) p vs:=I.hok p _ hx;have hlen:kvs.length=vs.length:=Paired.length r;exact wpAny_truthy_dict hS m (by omega) ⟨H,I.tok _,by rw [V8 r];exact q⟩
 | _=>exact (show False from e).elim
theorem dU (ha:PE X a ta) (he:∀ whole,isTrue a X.env whole=(do let v ← whole;standAt a.pos;holding [v] (truthy v))) :
  PT X a (fun σ H Q=>ta σ H fun x H'=>∃ k,yZ X.K x H' k/\Q k H'):=by
 intro pins s σ H Q I h;exact isTrue_plain (thn (ha pins s σ H _ I h) fun v s1 ⟨x,H1,I1,r1,q1⟩=>zA pins s1 σ H1 x v Q I1 r1 q1) (he _)
theorem V9:OpR X (binaryOp .Add) (fun x y H Q=>∃ i j,x=.str i/\y=.str j/\i.length+j.length<=sizeLine/\Q (.str (i++j)) H):=by
 intro pins s σ H x y v u Q I rx ry h;obtain ⟨i,j,rfl,rfl,hz,q⟩:=h;obtain ⟨t,rfl⟩:=rx;obtain ⟨t',rfl⟩:=ry;exact add_str (fun t' tk=>⟨.str (i++j),H,I.tok _,⟨_,rfl⟩,q⟩) hz
theorem vals1 {x:V}{us:List Value}(r:Vals [x] us):∃ u,us=[u]/\RelV x u:=by
 cases r with
 | cons r1 r2=>cases r2;exact ⟨_,rfl,r1⟩
theorem vals2 {x y:V}{us:List Value}(r:Vals [x,y] us):∃ u w',us=[u,w']/\RelV x u/\RelV y w':=by
 cases r with
 | cons r1 r2 =>
  cases r2 with
  | cons r3 r4=>cases r4;exact ⟨_,_,rfl,r1,r3⟩
theorem aP (hc:X.calm=true):Ca X (.builtin "min") (fun xs H Q=>∃ i j,xs=[.int i,.int j]/\Q (.int (if j < i then j else i)) H):=by
 intro pins s σ H xs us Q I r h;obtain ⟨i,j,rfl,q⟩:=h;obtain ⟨u,w',rfl,⟨t,rfl⟩,⟨t',rfl⟩⟩:=vals2 r;refine min_two_ints (I.ok.hd hc) fun h' tk k=>⟨_,H,I.kept k,?_,q⟩
 by_cases hj:j < i
 ·rw [if_pos hj,if_pos hj];exact ⟨_,rfl⟩
 ·rw [if_neg hj,if_neg hj];exact ⟨_,rfl⟩
end
structure ObjM (h:Heap) (x dx C:Addr) (mA:Str->Option Value):Prop where
 obj:h.get? x=some (PySem.W.instObj C dx)
 ns:h.Ns1 dx mA
 ne:dx≠x
theorem aQ {h:Heap}{dx:Addr}{mA:Str->Option Value}(n:h.Ns1 dx mA):∃ od,h.get? dx=some od/\∀ name,PySem.W.lookIn name od=some (mA name):=by
 obtain ⟨o,es,ep,ho,hd,hk,_,hm⟩:=n;refine ⟨o,ho,fun name=>?_⟩;have e:=hm name;unfold nsFind findBy at e;rw [← Array.find?_toList] at e;unfold PySem.W.lookIn;rw [hd];dsimp only;split
 ·rename_i y q;rw [q] at e;exact congrArg some e
 ·rename_i q;rw [q] at e;have a:es.toList.any (·.refKey)=false:=by
   rw [List.any_eq_false];intro y hy;obtain ⟨z,t,hkey⟩:=hk y (Array.mem_toList_iff.mp hy);simp [DictEntry.refKey,hkey]
  have a':¬ es.toList.any (·.refKey)=true:=by rw [a];exact Bool.false_ne_true
  rw [if_neg a'];exact congrArg some e
theorem ObjM.look {h:Heap}{x dx C:Addr}{mA:Str->Option Value}(I:ObjM h x dx C mA):∃ od,PySem.W.InstAt h x (PySem.W.instObj C dx) C (some od)/\∀ name,PySem.W.lookIn name od=some (mA name) :=
 let ⟨od,ho,hl⟩:=aQ I.ns
 ⟨od,⟨I.obj,rfl,rfl,ho⟩,hl⟩
section
variable {prog:Program}{w:World}{A:Around}{E:Value->Shared->Prop}{s:Shared}{K:PySem.W.Frag}{x dx C f:Addr}{mA:Str->Option Value}{name:Str}{v:Value}
theorem get_map {expr:Bool}{Q:Value->Shared->Prop}(X:K.In s.heap) (I:ObjM s.heap x dx C mA) (hg:PySem.W.plainGet K C name=true) (hh:PySem.W.hasDictIn K C=true)
  (ha:PySem.W.findIn K (.ref C) name=some none) (hv:mA name=some v) (hv':PySem.W.handedIn v=true) (h:Q v { s with toks:=s.toks+1 }) :
  wpAny (model prog w) A (getAttr (.ref x) name expr) Q E s:=by
 obtain ⟨od,J,hl⟩:=I.look;exact PySem.W.get_value X J (PySem.W.plainGet_of hg).1 (PySem.W.findObj_own hh ha rfl (by rw [hl,hv])) hv' h
theorem dW {pl:Sem Bool}{Q:Value×List Value->Shared->Prop}(X:K.In s.heap) (I:ObjM s.heap x dx C mA) (hg:PySem.W.plainGet K C name=true)
  (hf:PySem.W.findIn K (.ref C) name=some (some (.ref f))) (ht:PySem.W.isFn K (.ref f)=true) (hv:mA name=none) (h:Q (.ref f,[.ref x]) s) :
  wpAny (model prog w) A (getMethod (.ref x) name pl) Q E s:=by
 obtain ⟨od,J,hl⟩:=I.look;exact PySem.W.method_fn X J (PySem.W.plainGet_of hg).1 (PySem.W.plainGet_of hg).2 hf (beq_iff_eq.mp ht) (by show (PySem.W.lookIn name od).map (·.isSome)=some false;rw [hl,hv];rfl) h
theorem qQ {ns:List Str}{Q:Unit->Shared->Prop}(X:K.In s.heap) (I:ObjM s.heap x dx C mA)
  (hs:PySem.W.findIn K (.ref C) "__setattr__"=some (some (.builtin "object.__setattr__"))) (hp:PySem.W.plainOver K C=true) (ht:PySem.W.takerIn K C name=some none) (hh:PySem.W.hasDictIn K C=true)
  (hw:PySem.Within mA ns) (hsz:ns.length<=sizeLine)
  (h:∀ h',ObjM h' x dx C (fun y=>if y=name then some v else mA y)->Heap.SameBut dx s.heap h'->Q () { s with heap:=h',toks:=s.toks+2 }) :
  wpAny (model prog w) A (setAttr (.ref x) name v) Q E s:=by
 obtain ⟨od,J,hl⟩:=I.look;refine PySem.W.set_plain X J hs (PySem.W.osa_open (s:={ s with toks:=s.toks+1 }) (r:=none) X J hp ht fun b=>?_);obtain ⟨cd,hc,hd'⟩:=PySem.W.any_some hh;have hx:s.heap.get? x=some ⟨.ref C,some dx,.plain,#[]⟩:=I.obj;refine wpAny_bind (wpAny_pure (wpAny_bind (wpAny_bind (wpAny_loadPart hx (wpAny_bind (PySem.W.Looks.here (s:={ s with toks:=s.toks+1 }) (PySem.W.looks_clsIn X hc) ?_))))));rw [hd'];refine wpAny_pure (a:=some dx) (wpAny_bind (wpAny_pure (wpAny_bind ?_)));refine wpAny_nsSet1 (s:={ s with toks:=s.toks+1 }) I.ns fun h' hn2 hs2=>?_
 obtain ⟨oD,esD,epD,hoD,hdD,hcD⟩:=hn2.count (PySem.Within.cons name v hw);refine wpAny_bind (wpAny_lookBehind hoD (by rw [hdD];exact pastItsLine_dict (Nat.le_trans hcD (by rw [List.length_cons];omega))) ?_);exact wpAny_pure (h _ ⟨(hs2.2 _ (Ne.symm I.ne)).trans I.obj,hn2,I.ne⟩ hs2)
theorem dX {R:Result->Shared->Prop}{vs:List Value}{kw:List (Str×Value)}(X:K.In s.heap) (hm:PySem.W.makesIn K C=true)
    (hi:PySem.W.findIn K (.ref C) "__init__"=some (some (.ref f))) (hf:PySem.W.typeIn K (.ref f)=some (.type "function"))
    (h:codeAny (model prog w) (A.under (.builtin "type.__call__" ⟨.ref C::vs,kw⟩)) (.call (.ref f) ⟨.ref (s.heap.objs.size+1)::vs,kw⟩) (PySem.W.InitBack (s.heap.objs.size+1) R)
      { s with heap:=(s.heap.push PySem.W.emptyDict).push (PySem.W.instObj C s.heap.objs.size) }) :
    codeAny (model prog w) A (.call (.ref C) ⟨vs,kw⟩) R s:=by
  obtain ⟨hh,g,d,t,os⟩:=s;exact PySem.W.make_core (PySem.W.makes_of X hm) (PySem.W.looks_findIn X hi) (fun self=>PySem.W.bind_fn X self hf) (.inl rfl) h
end
noncomputable def Jg (f:Str) (v:V):List (Str×V)->List (Str×V)
 | []=>[(f,v)]
 | (g,x)::r=>if g=f then (g,v)::r else (g,x)::Jg f v r
theorem Mq (f g:Str) (v:V):∀ fs:List (Str×V),(Jg f v fs).lookup g=if g=f then some v else fs.lookup g
 | []=>by
  show List.lookup g [(f,v)]=_
  by_cases h:g=f
  ·have hb:(g==f)=true:=beq_iff_eq.mpr h;simp only [List.lookup,hb,if_pos h]
  ·have hb:(g==f)=false:=beq_eq_false_iff_ne.mpr h;simp only [List.lookup,hb,if_neg h]
 | (k,x)::r=>by
  have ih:=Mq f g v r;rw [show Jg f v ((k,x)::r)=(if k=f then (k,v)::r else (k,x)::Jg f v r) from rfl]
  by_cases hk:k=f
  ·rw [if_pos hk]
   by_cases h:g=k
   ·have hb:(g==k)=true:=beq_iff_eq.mpr h;simp only [List.lookup,hb,if_pos (h.trans hk)]
   ·have hb:(g==k)=false:=beq_eq_false_iff_ne.mpr h;simp only [List.lookup,hb,if_neg (fun e:g=f=>h (e.trans hk.symm))]
  ·rw [if_neg hk]
   by_cases h:g=k
   ·have hb:(g==k)=true:=beq_iff_eq.mpr h;simp only [List.lookup,hb,if_neg (fun e:g=f=>hk (h.symm.trans e))]
   ·have hb:(g==k)=false:=beq_eq_false_iff_ne.mpr h;simp only [List.lookup,hb];exact ih
theorem Lf (f:Str) (v:V):∀ fs:List (Str×V),f∈(Jg f v fs).map (·.1)/\∀ g,g∈fs.map (·.1)->g∈(Jg f v fs).map (·.1)
 | []=>⟨by simp [Jg],fun g h=>by simp at h⟩
 | (k,x)::r=>by
  obtain ⟨i1,i2⟩:=Lf f v r;rw [show Jg f v ((k,x)::r)=(if k=f then (k,v)::r else (k,x)::Jg f v r) from rfl]
  by_cases hk:k=f
  ·rw [if_pos hk];subst hk;exact ⟨by simp,fun g h=>by simpa using h⟩
  ·rw [if_neg hk];refine ⟨?_,fun g h=>?_⟩
   ·rw [List.map_cons];exact List.mem_cons_of_mem _ i1
   ·rw [List.map_cons] at h ⊢;rcases List.mem_cons.mp h with e|e
    ·exact List.mem_cons.mpr (.inl e)
    ·exact List.mem_cons_of_mem _ (i2 g e)
theorem Mr (f:Str) (v:V):∀ fs:List (Str×V),(Jg f v fs).length<=fs.length+1
 | []=>by simp [Jg]
 | (k,x)::r=>by
  have ih:=Mr f v r;rw [show Jg f v ((k,x)::r)=(if k=f then (k,v)::r else (k,x)::Jg f v r) from rfl]
  by_cases hk:k=f
  ·rw [if_pos hk,List.length_cons,List.length_cons];omega
  ·rw [if_neg hk,List.length_cons,List.length_cons];omega
theorem Qi.some_of {v:V}{o:Option Value}(r:Qi (some v) o):∃ u,o=some u/\RelV v u:=by
 cases o with
 | none=>exact (show False from r).elim
 | some u=>exact ⟨u,rfl,r⟩
theorem Qi.none_of {o:Option Value}(r:Qi none o):o=none:=by
 cases o with
 | none=>rfl
 | some u=>exact (show False from r).elim
theorem aR {v:V}{u:Value}(r:RelV v u):PySem.W.handedIn u=true:=by
 cases v with
 | non=>cases (show u=Value.none from r);rfl
 | bl b=>cases (show u=Value.bool b from r);rfl
 | int i=>obtain ⟨t,e⟩:=(show ∃ t,u=Value.int i t from r);cases e;rfl
 | str x=>obtain ⟨t,e⟩:=(show ∃ t,u=Value.str x t from r);cases e;rfl
 | byt b=>obtain ⟨t,e⟩:=(show ∃ t,u=Value.bytes b t from r);cases e;rfl
 | flt b=>obtain ⟨t,e⟩:=(show ∃ t,u=Value.float b t from r);cases e;rfl
 | ref a=>cases (show u=Value.ref a from r);rfl
 | ty n=>cases (show u=Value.type n from r);rfl
section
variable {P:Program}{w:World}{H H':Hp}{h h':Heap}{a C dx:Addr}{fs fs':List (Str×V)}
theorem Rw (hok:HOk P w H h) (e:H a=some (.ins C dx fs)):∃ mA,ObjM h a dx C mA/\(∀ f,Qi (fs.lookup f) (mA f))/\PySem.Within mA (fs.map (·.1))/\fs.length<=1000/\H dx=some (.own a):=by
 obtain ⟨d,z,ne,ob,mA,n,r,q⟩:=(show Ey P w H h a (.ins C dx fs) from hok a _ e);exact ⟨mA,⟨ob,n,ne⟩,r,q,z,d⟩
end
structure Cls (K:PySem.W.Frag) (C:Addr):Prop where
 pg:PySem.W.plainGet K C Str.empty=true
 hd:PySem.W.hasDictIn K C=true
 po:PySem.W.plainOver K C=true
 sa:PySem.W.findIn K (.ref C) "__setattr__"=some (some (.builtin "object.__setattr__"))
theorem Cls.get {K:PySem.W.Frag}{C:Addr}(c:Cls K C) (f:Str):PySem.W.plainGet K C f=true:=c.pg
noncomputable def Eg (K:PySem.W.Frag) (C:Addr) (f:Str):Prop:=PySem.W.findIn K (.ref C) f=some none
theorem Eg.taker {K:PySem.W.Frag}{C:Addr}{f:Str}(n:Eg K C f):PySem.W.takerIn K C f=some none:=by
 unfold PySem.W.takerIn;rw [show PySem.W.findIn K (.ref C) f=some none from n];rfl
structure Meth (K:PySem.W.Frag) (C:Addr) (m:Str) (f:Addr):Prop where
 at_:PySem.W.findIn K (.ref C) m=some (some (.ref f))
 fn:PySem.W.isFn K (.ref f)=true
 kp:PySem.W.keepIn K (.ref f)=true
section
variable {X:Cx}{pins:List (Addr×Obj)}{σ:St}{H:Hp}{s:Shared}{a C dx:Addr}{fs:List (Str×V)}{f:Str}{v:V}{A:Around}{E:Value->Shared->Prop}
theorem Wa {b:Bool}{Q:Value->Shared->Prop}(I:Inv X pins σ H s) (e:H a=some (.ins C dx fs)) (c:Cls X.K C) (n:Eg X.K C f) (l:fs.lookup f=some v)
  (h:∀ u s',Inv X pins σ H s'->RelV v u->Q u s'):wpAny (model X.prog X.w) A (getAttr (.ref a) f b) Q E s:=by
 obtain ⟨mA,O,r,_,_,_⟩:=Rw I.hok e;obtain ⟨u,hu,ru⟩:=Qi.some_of (v:=v) (o:=mA f) (by rw [← l];exact r f);exact get_map I.kIn O (c.get f) c.hd n hu (aR ru) (h u _ (I.tok _) ru)
theorem Ol {m:Str}{g:Addr}{pl:Sem Bool}{Q:Value×List Value->Shared->Prop}(I:Inv X pins σ H s) (e:H a=some (.ins C dx fs)) (c:Cls X.K C) (k:Meth X.K C m g) (l:fs.lookup m=none)
  (h:Q (.ref g,[.ref a]) s):wpAny (model X.prog X.w) A (getMethod (.ref a) m pl) Q E s:=by
 obtain ⟨mA,O,r,_,_,_⟩:=Rw I.hok e;have hn:mA m=none:=Qi.none_of (by rw [← l];exact r m);exact dW I.kIn O (c.get m) k.at_ k.fn hn h
theorem Wb {y:V}{u:Value}{Q:Unit->Shared->Prop}(I:Inv X pins σ H s) (e:H a=some (.ins C dx fs)) (c:Cls X.K C) (n:Eg X.K C f) (hl:fs.length < 1000) (ry:RelV y u)
  (h:∀ s',Inv X pins σ (upd H a (.ins C dx (Jg f y fs))) s'->Q () s'):wpAny (model X.prog X.w) A (setAttr (.ref a) f u) Q E s:=by
 obtain ⟨mA,O,r,wi,_,ho⟩:=Rw I.hok e;have hz:(fs.map (·.1)).length<=sizeLine:=by rw [List.length_map,sizeLine_eq];omega
 refine qQ I.kIn O c.sa c.po n.taker c.hd wi hz fun h' O' sb=>h _ ?_
 have hd:∃ o,h'.get? dx=some o:=let ⟨o,_,_,e',_⟩:=O'.ns;⟨o,e'⟩;refine I.write (x:=a) (e:=dx) (by rw [e];exact True.intro) (.inr ho) (fun b q hb z=>(sb.2 b hb).trans z) hd ?_;refine ⟨by rw [Ah O.ne];exact ho,?_,O.ne,O'.obj,_,O'.ns,fun g=>?_,fun g hg=>?_⟩
 ·have:=Mr f y fs;omega
 ·show Qi ((Jg f y fs).lookup g) (if g=f then some u else mA g);rw [Mq]
  by_cases q:g=f
  ·rw [if_pos q,if_pos q];exact ry
  ·rw [if_neg q,if_neg q];exact r g
 ·by_cases q:g=f
  ·rw [q];exact (Lf f y fs).1
  ·refine (Lf f y fs).2 g (wi g fun z=>hg ?_);show (if g=f then some u else mA g)=none;rw [if_neg q];exact z
theorem Inv.made (I:Inv X pins σ H s):Inv X pins σ (upd (upd H s.heap.objs.size (.own (s.heap.objs.size+1))) (s.heap.objs.size+1) (.ins C s.heap.objs.size []))
    { s with heap:=(s.heap.push PySem.W.emptyDict).push (PySem.W.instObj C s.heap.objs.size) }:=by
  have e1:(s.heap.push PySem.W.emptyDict).get? s.heap.objs.size=some PySem.W.emptyDict:=Heap.get?_push_size s.heap rfl;have e2:((s.heap.push PySem.W.emptyDict).push (PySem.W.instObj C s.heap.objs.size)).get? (s.heap.objs.size+1)=some (PySem.W.instObj C s.heap.objs.size):=by
    have:=Heap.get?_push_size (s.heap.push PySem.W.emptyDict) (o:=PySem.W.instObj C s.heap.objs.size) rfl
    rwa [Heap.size_push] at this
  have e3:(s.heap.push PySem.W.emptyDict).Ns s.heap.objs.size (fun _=>none):=⟨PySem.W.emptyDict,#[],_,e1,rfl,(fun e he=>absurd he (by simp)),fun _=>rfl⟩;have I1:=I.laid (a:=s.heap.objs.size) (o:=.own (s.heap.objs.size+1)) (h':=s.heap.push PySem.W.emptyDict) (t':=s.toks) (fun b u q=>Heap.get?_push_of_some _ q) (Nat.le_refl _) ⟨_,e1⟩;refine I1.laid (a:=s.heap.objs.size+1) (o:=.ins C s.heap.objs.size []) (t':=s.toks) (fun b u q=>Heap.get?_push_of_some _ q) (Nat.le_of_eq (Heap.size_push _ _)) ?_;have ne:s.heap.objs.size≠s.heap.objs.size+1:=Nat.ne_of_lt (Nat.lt_succ_self _);refine ⟨by rw [Ah ne,Be],Nat.zero_le _,ne,e2,fun _=>none,(Heap.Ns1.of_empty e3).at fun o q=>Heap.get?_push_of_some _ q,fun _=>True.intro,fun y hy=>absurd rfl hy⟩
theorem qR {prog:Program}{w:World}{env:Env}{e:Expr}{f:Str}{pos:Pos}{s:Shared}{Q:Value->Shared->Prop}(hb:attributeBase e f env (eval e env)=eval e env)
  (h:wpAny (model prog w) A (eval e env) (fun o s₁=>wpAny (model prog w) A (getAttr o f true) Q E s₁) E s):wpAny (model prog w) A (eval (.Attribute e f pos) env) Q E s :=
 Attribute_any_ h (by rw [arm_eval_Attribute,hb])
end
noncomputable def Af0 (K:PySem.W.Frag) (ta:TE) (f:Str):TE:=fun σ H Q=>ta σ H fun x H1=>∃ a C dx fs v,x=.ref a/\H1 a=some (.ins C dx fs)/\Cls K C/\Eg K C f/\fs.lookup f=some v/\Q v H1
noncomputable def Af1 (K:PySem.W.Frag) (ta tv:TE) (f:Str):TS:=fun D σ H=>tv σ H fun y H1=>ta σ H1 fun x H2=>∃ a C dx fs,x=.ref a/\H2 a=some (.ins C dx fs)/\Cls K C/\Eg K C f/\fs.length < 1000 /\
 D.nx σ (upd H2 a (.ins C dx (Jg f y fs)))
section
variable {X:Cx}{o e value:Expr}{f:Str}{pos pos' tpos:Pos}{ta tv:TE}
theorem zB (he:PE X e ta) (hb:attributeBase e f X.env (eval e X.env)=eval e X.env):PE X (.Attribute e f pos) (Af0 X.K ta f):=by
 intro pins s σ H Q I h;refine qR hb (thn (he pins s σ H _ I h) ?_);rintro u s1 ⟨x,H1,I1,rx,a,C,dx,fs,v,ex,ea,c,n,l,q⟩;subst ex;obtain rfl:u=Value.ref a:=rx;exact Wa I1 ea c n l fun u' s2 I2 ru=>⟨v,H1,I2,ru,q⟩
theorem zE (ha:PE X o ta) (hv:PE X value tv) (hs:swapsWith value (some (.Attribute o f pos')) pos.line X.env=pure false):PS X (.Assign [.Attribute o f pos'] value pos) (Af1 X.K ta tv f):=by
 intro pins s σ H D I h;refine plainObj_wpAny_Assign_Attribute (thn (hv pins s σ H _ I h) fun u s1 ⟨y,H1,I1,ry,q⟩=>thn (ha pins s1 σ H1 _ I1 q) ?_) hs;rintro ov s2 ⟨x,H2,I2,rx,a,C,dx,fs,ex,ea,c,n,l,q2⟩;subst ex;obtain rfl:ov=Value.ref a:=rx;exact Wb I2 ea c n l ry fun s3 I3=>⟨σ,_,I3,q2⟩
end
section
variable {X:Cx}{pins:List (Addr×Obj)}{σ:St}{H:Hp}{s:Shared}{A:Around}{E:Value->Shared->Prop}{Q:Value->Shared->Prop}{c:Value}{b:Bool}
end
structure Room (k:Nat) (A:Around):Prop where
 hd:A.handled=none
 dp:A.depth+3 * k+5 < recursionLimit
 un:A.units+16 * k+200 < cLine
theorem Room.mono {j k:Nat}{A:Around}(r:Room k A) (h:j<=k):Room j A:=⟨r.hd,by have:=r.dp;omega,by have:=r.un;omega⟩
theorem Room.deeper {k:Nat}{A:Around}(r:Room (k+1) A) (env:Env):Room k (A.deeper env) :=
 ⟨r.hd,by have:=r.dp;show A.depth+1+3 * k+5 < _;omega,by have:=r.un;show A.units+3+16 * k+200 < _;omega⟩
theorem Wc {A:Around}{C:Addr}{us:List Value}{kw:List (Str×Value)}:(A.under (.builtin "type.__call__" ⟨.ref C::us,kw⟩)).depth=A.depth+1:=by
 first | rfl | simp [Around.under,Code.weight,Code.isCreation,Code.isGuard,Code.isCaller,Code.frames,Code.isFrame,guardIds]
theorem Wf {A:Around}{C:Addr}{us:List Value}{kw:List (Str×Value)}:(A.under (.builtin "type.__call__" ⟨.ref C::us,kw⟩)).units=A.units+1:=by
 first | rfl | simp [Around.under,Code.cUnits,Code.frames,Code.isFrame]
theorem Room.make {k:Nat}{A:Around}(r:Room (k+1) A) (C:Addr) (us:List Value) (kw:List (Str×Value)):Room k (A.under (.builtin "type.__call__" ⟨.ref C::us,kw⟩)) :=
 ⟨r.hd,by have:=r.dp;rw [Wc];omega,by have:=r.un;rw [Wf];omega⟩
theorem Room.depth {k:Nat}{A:Around}(r:Room k A):A.depth < recursionLimit:=by have:=r.dp;omega
theorem Room.units {k:Nat}{A:Around}(r:Room k A):A.units+64 < cLine:=by have:=r.un;omega
noncomputable def qT:TA:=fun _ H Q=>Q [] H
noncomputable def dY (ta:TE) (tr:TA):TA:=fun σ H Q=>ta σ H fun x H1=>tr σ H1 fun xs H2=>Q (x::xs) H2
section
variable {X:Cx}{e:Expr}{es:List Expr}{te:TE}{t:TA}{pos:Pos}
theorem Gx:PA X [] qT:=fun _ _ _ _ H Q I h=>Calls.spliced_nil ⟨[],H,I,.nil,h⟩
theorem Dp (ha:PE X e te) (hr:PA X es t) (hs:starEach (e::es) X.env=(false,eval e X.env)::starEach es X.env:=by rfl):PA X (e::es) (dY te t):=by
 intro pos pins s σ H Q I h;rw [hs];show wpAny _ _ (spliced ((false,eval e X.env)::backTo pos (starEach es X.env))) _ _ s;refine Calls.spliced_cons (thn (ha pins s σ H _ I h) ?_);rintro u s1 ⟨x,H1,I1,r1,q1⟩;refine thn (hr pos pins s1 σ H1 _ I1 q1) ?_;rintro us s2 ⟨xs,H2,I2,r2,q2⟩;exact ⟨x::xs,H2,I2,.cons r1 r2,q2⟩
noncomputable def Ad5 (t:TA):TE:=fun σ H Q=>t σ H fun xs H1=>xs.length<=sizeLine/\∀ p,H1 p=none->Q (.ref p) (upd H1 p (.tup xs))
noncomputable def Af2 (t:TA):TE:=fun σ H Q=>t σ H fun xs H1=>xs.length<=sizeLine/\∀ p,H1 p=none->Q (.ref p) (upd H1 p (.lst xs))
theorem dZ {x1}(h:PA X es t):PE X (.Tuple es x1 pos) (Ad5 t):=by
 intro pins s σ H Q I hq;refine wpAny_Tuple_spliced (thn (h pos pins s σ H _ I hq) ?_);rintro us s1 ⟨xs,H1,I1,r,z,q⟩;refine ⟨by rw [← r.length];exact z,?_⟩;have hf:H1 s1.heap.objs.size=none:=I1.hok.fresh (Nat.le_refl _);refine ⟨.ref s1.heap.objs.size,upd H1 s1.heap.objs.size (.tup xs),I1.laid (t':=s1.toks) (fun b u e=>Heap.get?_push_of_some _ e) (Nat.le_refl _) ?_,rfl,q _ hf⟩;exact ⟨z,us,r,⟨_,Heap.get?_push_size _ rfl,rfl,rfl,_,rfl⟩⟩
theorem zF (h:PA X es t):PE X (.List es pos) (Af2 t):=by
 intro pins s σ H Q I hq;refine wpAny_List_spliced (thn (h pos pins s σ H _ I hq) ?_);rintro us s1 ⟨xs,H1,I1,r,z,q⟩;refine ⟨by rw [← r.length];exact z,?_⟩;have hf:H1 s1.heap.objs.size=none:=I1.hok.fresh (Nat.le_refl _);refine ⟨.ref s1.heap.objs.size,upd H1 s1.heap.objs.size (.lst xs),I1.laid (t':=s1.toks) (fun b u e=>Heap.get?_push_of_some _ e) (Nat.le_refl _) ?_,rfl,q _ hf⟩;exact ⟨z,us,0,r,Heap.get?_push_size _ rfl⟩
end
noncomputable abbrev Sp:=List V->Hp->VK->XK->Prop
noncomputable abbrev CXT:=List Env->Hp->Shared->XK->Value->Shared->Prop
structure Env0 (P:Program) (w:World) (K:PySem.W.Frag) (mg:Str->Option Value) (base:Heap) (A:Around) (outer:List Env) (s:Shared) (H:Hp):Prop where
 frames:A.frames=some outer
 mod:Mod K mg base
 bs:∀ b o,base.get? b=some o->s.heap.get? b=some o/\H b=none
 bsz:base.objs.size<=s.heap.objs.size
 funs:s.heap.FunFrames base outer
 frf:∀ b∈frs outer,H b=none
 hok:HOk P w H s.heap
 bare:AllBare s.gens
noncomputable def CE (outer:List Env) (P:Program) (w:World) (H:Hp) (s:Shared) (Q:VK) (u:Value) (s':Shared):Prop :=
 ∃ v H',s'.os=s.os/\AllBare s'.gens/\Un (frs outer) [] H H' s.heap s'.heap/\HOk P w H' s'.heap/\RelV v u/\Q v H'
noncomputable def CR (CX:CXT) (outer:List Env) (P:Program) (w:World) (H:Hp) (s:Shared) (Q:VK) (E:XK) (r:Result) (s':Shared):Prop :=
 match r with
 | .ok (.ret u)=>CE outer P w H s Q u s'
 | .ok _=>False
 | .error e=>CX outer H s E e s'
structure FnOk (P:Program) (w:World) (K:PySem.W.Frag) (mg:Str->Option Value) (base:Heap) (CX:CXT) (k:Nat) (f:Addr) (fd:FuncData) (ps:List Str) (sp:Sp):Prop where
 len:∀ vs H Q E,sp vs H Q E->vs.length=ps.length
 run:∀ (A:Around) (outer:List Env) (s:Shared) (H:Hp) (args:Args) (us:List Value) (vs:List V) (Q:VK) (E:XK),Room k A->Env0 P w K mg base A outer s H->BindsTo s fd args (ps.zip us)->Vals vs us->sp vs H Q E ->
  codeAny (model P w) A (.call (.ref f) args) (CR CX outer P w H s Q E) s
theorem Env0.make {P:Program}{w:World}{K:PySem.W.Frag}{mg:Str->Option Value}{base:Heap}{A:Around}{outer:List Env}{s:Shared}{H:Hp}(e:Env0 P w K mg base A outer s H) (C:Addr) (us:List Value) (kw:List (Str×Value)) :
  Env0 P w K mg base (A.under (.builtin "type.__call__" ⟨.ref C::us,kw⟩)) outer s H:=⟨by first | exact e.frames | (simpa [Around.under,Code.envs,Code.isFrame,pushEnvs] using e.frames),e.mod,e.bs,e.bsz,e.funs,e.frf,e.hok,e.bare⟩
section
variable {X:Cx}{pins:List (Addr×Obj)}{σ:St}{H:Hp}{s s':Shared}
theorem Inv.env0 (I:Inv X pins σ H s):Env0 X.prog X.w X.K X.mg X.base X.A X.stack s H :=
 ⟨I.ok.frames,I.ok.mod,I.bs,Nat.le_trans I.ok.bsz I.sz,I.stack,I.stkFree,I.hok,I.bare⟩
theorem Inv.after {Q:VK}{u:Value}(I:Inv X pins σ H s) (h:CE X.stack X.prog X.w H s Q u s'):EP X pins σ Q u s':=by
 obtain ⟨v,H',os,bare,un,hok,r,q⟩:=h;obtain ⟨hh,g,d,t,os'⟩:=s';obtain rfl:os'=s.os:=os;exact ⟨v,H',I.call (h':=hh) (g':=g) (d':=d) (t':=t) (ch:=[]) un hok bare (fun b z=>absurd z (by simp)),r,q⟩
end
noncomputable def Yp (sp:Sp) (dvs:List V) (E:XK) (t:TA):TE:=fun σ H Q=>t σ H fun vs H1=>sp (vs++dvs) H1 Q E
noncomputable def vZ (C:Addr) (m:Str) (sp:Sp) (dvs:List V) (E:XK) (ta:TE) (t:TA):TE:=fun σ H Q=>ta σ H fun x H1=>∃ a dx fs,x=.ref a/\H1 a=some (.ins C dx fs)/\fs.lookup m=none /\
 t σ H1 fun vs H2=>sp (x::(vs++dvs)) H2 Q E
noncomputable def Ad6 (C:Addr) (sp:Sp) (dvs:List V) (E:XK) (t:TA):TE:=fun σ H Q=>t σ H fun vs H1=>∀ x dx,H1 x=none->H1 dx=none->dx≠x ->
 sp (.ref x::(vs++dvs)) (upd (upd H1 dx (.own x)) x (.ins C dx [])) (fun v H2=>v=.non/\Q (.ref x) H2) E
noncomputable def Binds (K:PySem.W.Frag) (fd:FuncData) (ps:List Str) (ds:List Value):Prop :=
 ∀ (s:Shared) (us:List Value),K.In s.heap->(us++ds).length=ps.length->BindsTo s fd ⟨us,[]⟩ (ps.zip (us++ds))
theorem Binds.all {K:PySem.W.Frag}{fd:FuncData}{ps:List Str}(h:∀ us:List Value,us.length=ps.length->bindArgs fd ⟨us,[]⟩=pure (ps.zip us)):Binds K fd ps []:=fun s us _ hl=>by
 rw [List.append_nil] at hl ⊢;exact .of_eq (h us hl)
noncomputable def Cp (CX:CXT) (X:Cx) (E:XK):Prop:=∀ (pins:List (Addr×Obj)) (σ:St) (H:Hp) (s:Shared) (e:Value) (s':Shared),Inv X pins σ H s->CX X.stack H s E e s'->X.xe e s'
section
variable {X:Cx}{CX:CXT}{k:Nat}{f C:Addr}{fd:FuncData}{ps:List Str}{sp:Sp}{dvs:List V}{ds:List Value}{E:XK}{x m:Str}{p pos apos:Pos}{e o:Expr}{es:List Expr}{ta:TE}{t:TA}
theorem Js {pins:List (Addr×Obj)}{σ:St}{H:Hp}{s:Shared}{Q:VK}{us:List Value}{vs:List V}(F:FnOk X.prog X.w X.K X.mg X.base CX k f fd ps sp) (hr:Room k X.A) (hb:Binds X.K fd ps ds) (hd:Vals dvs ds) (hx:Cp CX X E)
  (I:Inv X pins σ H s) (r:Vals vs us) (h:sp (vs++dvs) H Q E):wpAny (model X.prog X.w) X.A (call (.ref f) us) (EP X pins σ Q) X.xe s:=by
 have r2:Vals (vs++dvs) (us++ds):=r.append hd;have hl:(us++ds).length=ps.length:=by rw [← r2.length];exact F.len _ _ _ _ h
 refine wpAny_call (codeAny_mono (F.run X.A X.stack s H ⟨us,[]⟩ (us++ds) (vs++dvs) Q E hr I.env0 (hb s us I.kIn hl) r2 h) fun r s' hq=>?_);cases r with
 | error e=>exact hx pins σ H s e s' I hq
 | ok fl =>
  cases fl with
  | ret u=>exact I.after hq
  | next=>exact False.elim hq
  | brk=>exact False.elim hq
  | cont=>exact False.elim hq
theorem qU (F:FnOk X.prog X.w X.K X.mg X.base CX k f fd ps sp) (hr:Room k X.A) (hg:Gl X x) (hm:X.mg x=some (.ref f)) (hk:PySem.W.keepIn X.K (.ref f)=true) (hb:Binds X.K fd ps ds) (hd:Vals dvs ds) (hx:Cp CX X E)
  (ha:PA X (e::es) t) (hdb:(x==("__debug__":Str))=false:=by decide) (he:starEach (e::es) X.env=(false,eval e X.env)::starEach es X.env:=by rfl) (hpl:(backTo pos (starEach es X.env)).any (·.1)=false:=by rfl) :
  PE X (.Call (.Name x p) (e::es) [] pos) (Yp sp dvs E t):=by
 intro pins s σ H Q I h;refine wpAny_Call_Name_kw (Ny I hg hm ?_ hdb);refine PySem.W.callWith_K (h₀:=X.base) I.ok.mod.kin hk (thn (ha pos pins s σ H _ I h) fun us s1 ⟨vs,H1,I1,r,q⟩=>⟨I1.kIn,?_⟩) he hpl;exact Js F hr hb hd hx I1 r q
theorem eE (F:FnOk X.prog X.w X.K X.mg X.base CX k f fd ps sp) (hr:Room k X.A) (hg:Gl X x) (hm:X.mg x=some (.ref f)) (hk:PySem.W.keepIn X.K (.ref f)=true) (hb:Binds X.K fd ps ds) (hd:Vals dvs ds) (hx:Cp CX X E)
  (hdb:(x==("__debug__":Str))=false:=by decide):PE X (.Call (.Name x p) [] [] pos) (Yp sp dvs E qT):=by
 intro pins s σ H Q I h;refine wpAny_Call_Name_kw (Ny I hg hm ?_ hdb);exact PySem.W.callWith_K0 I.kIn hk (Js (us:=[]) F hr hb hd hx I .nil h)
theorem qW {pl:Sem Bool}(he:PE X o ta) (c:Cls X.K C) (hm:Meth X.K C m f) (F:FnOk X.prog X.w X.K X.mg X.base CX k f fd ps sp) (hr:Room k X.A) (hb:Binds X.K fd ps ds) (hd:Vals dvs ds) (hx:Cp CX X E) (ha:PA X (e::es) t)
  (hst:starEach (e::es) X.env=(false,eval e X.env)::starEach es X.env:=by rfl) (hpl:(backTo pos (starEach es X.env)).any (·.1)=false:=by rfl)
  (ht:eval (.Call (.Attribute o m apos) (e::es) [] pos) X.env=(do
   let ov ← eval o X.env
   standAt apos.atName
   let (f,first) ← holding [ov] (getMethod ov m pl)
   callWith pos f first (backTo pos (starEach (e::es) X.env)) (backToKw pos (keywordEach [] X.env))):=by rfl) :
  PE X (.Call (.Attribute o m apos) (e::es) [] pos) (vZ C m sp dvs E ta t):=by
 intro pins s σ H Q I h;refine PySem.W.methodCall_KW (pl:=pl) (thn (he pins s σ H _ I h) ?_) ht;rintro u s1 ⟨x,H1,I1,rx,a,dx,fs,ex,ea,l,q⟩;subst ex;obtain rfl:u=Value.ref a:=rx;refine Ol I1 ea c hm l ?_;refine PySem.W.callWith_K (first:=[.ref a]) (h₀:=X.base) I.ok.mod.kin hm.kp (thn (ha pos pins s1 σ H1 _ I1 q) fun us s2 ⟨vs,H2,I2,r,q2⟩=>⟨I2.kIn,?_⟩) hst hpl;exact Js (us:=.ref a::us) (vs:=.ref a::vs) F hr hb hd hx I2 (.cons rfl r) q2
theorem eF {pl:Sem Bool}(he:PE X o ta) (c:Cls X.K C) (hm:Meth X.K C m f) (F:FnOk X.prog X.w X.K X.mg X.base CX k f fd ps sp) (hr:Room k X.A) (hb:Binds X.K fd ps ds) (hd:Vals dvs ds) (hx:Cp CX X E)
  (ht:eval (.Call (.Attribute o m apos) [] [] pos) X.env=(do
   let ov ← eval o X.env
   standAt apos.atName
   let (f,first) ← holding [ov] (getMethod ov m pl)
   callWith pos f first (backTo pos (starEach [] X.env)) (backToKw pos (keywordEach [] X.env))):=by rfl) :
  PE X (.Call (.Attribute o m apos) [] [] pos) (vZ C m sp dvs E ta qT):=by
 intro pins s σ H Q I h;refine PySem.W.methodCall_KW (pl:=pl) (thn (he pins s σ H _ I h) ?_) ht;rintro u s1 ⟨x,H1,I1,rx,a,dx,fs,ex,ea,l,q⟩;subst ex;obtain rfl:u=Value.ref a:=rx;refine Ol I1 ea c hm l ?_;exact PySem.W.callWith_K0 (first:=[.ref a]) I1.kIn hm.kp (Js (us:=[.ref a]) (vs:=[.ref a]) F hr hb hd hx I1 (.cons rfl .nil) q)
structure Mk (K:PySem.W.Frag) (C f:Addr):Prop where
 makes:PySem.W.makesIn K C=true
 init:PySem.W.findIn K (.ref C) "__init__"=some (some (.ref f))
 fn:PySem.W.isFn K (.ref f)=true
 kp:PySem.W.keepIn K (.ref C)=true
theorem eG {pins:List (Addr×Obj)}{σ:St}{H:Hp}{s:Shared}{Q:VK}{us:List Value}{vs:List V}(M:Mk X.K C f) (F:FnOk X.prog X.w X.K X.mg X.base CX k f fd ps sp) (hr:Room (k+1) X.A) (hb:Binds X.K fd ps ds) (hd:Vals dvs ds)
  (hx:Cp CX X E) (I:Inv X pins σ H s) (r:Vals vs us)
  (h:∀ x dx,H x=none->H dx=none->dx≠x->sp (.ref x::(vs++dvs)) (upd (upd H dx (.own x)) x (.ins C dx [])) (fun v H2=>v=.non/\Q (.ref x) H2) E) :
  wpAny (model X.prog X.w) X.A (call (.ref C) us) (EP X pins σ Q) X.xe s:=by
 have hq:=h (s.heap.objs.size+1) s.heap.objs.size (I.hok.fresh (Nat.le_succ _)) (I.hok.fresh (Nat.le_refl _)) (Nat.ne_of_lt (Nat.lt_succ_self _));have I2:=Inv.made (C:=C) I;have r2:Vals (V.ref (s.heap.objs.size+1)::(vs++dvs)) (Value.ref (s.heap.objs.size+1)::(us++ds)):=.cons rfl (r.append hd);have hl:(Value.ref (s.heap.objs.size+1)::us++ds).length=ps.length:=by
  have e:=r2.length;rw [F.len _ _ _ _ hq] at e;exact e.symm
 refine wpAny_call (dX (f:=f) I.kIn M.makes M.init (beq_iff_eq.mp M.fn) (codeAny_mono (F.run _ X.stack _ _ ⟨Value.ref (s.heap.objs.size+1)::us,[]⟩ (Value.ref (s.heap.objs.size+1)::(us++ds)) _ _ E (hr.make C us [])
  (I2.env0.make C us []) (hb _ (Value.ref (s.heap.objs.size+1)::us) I2.kIn hl) r2 hq) fun r s' hq'=>?_))
 cases r with
 | error e=>exact hx pins σ _ _ e s' I2 hq'
 | ok fl =>
  cases fl with
  | ret u =>
   obtain ⟨v,H',I3,rv,ev,q3⟩:=I2.after hq';subst ev;exact ⟨rv,⟨V.ref (s.heap.objs.size+1),H',I3,rfl,q3⟩⟩
  | next=>exact False.elim hq'
  | brk=>exact False.elim hq'
  | cont=>exact False.elim hq'
theorem qX (M:Mk X.K C f) (F:FnOk X.prog X.w X.K X.mg X.base CX k f fd ps sp) (hr:Room (k+1) X.A) (hg:Gl X x) (hm:X.mg x=some (.ref C)) (hb:Binds X.K fd ps ds) (hd:Vals dvs ds) (hx:Cp CX X E)
  (ha:PA X (e::es) t) (hdb:(x==("__debug__":Str))=false:=by decide) (he:starEach (e::es) X.env=(false,eval e X.env)::starEach es X.env:=by rfl) (hpl:(backTo pos (starEach es X.env)).any (·.1)=false:=by rfl) :
  PE X (.Call (.Name x p) (e::es) [] pos) (Ad6 C sp dvs E t):=by
 intro pins s σ H Q I h;refine wpAny_Call_Name_kw (Ny I hg hm ?_ hdb);refine PySem.W.callWith_K (h₀:=X.base) I.ok.mod.kin M.kp (thn (ha pos pins s σ H _ I h) fun us s1 ⟨vs,H1,I1,r,q⟩=>⟨I1.kIn,?_⟩) he hpl;exact eG M F hr hb hd hx I1 r q
end
section
variable {X:Cx}{CX:CXT}{k:Nat}{f C:Addr}{fd:FuncData}{ps ks:List Str}{sp:Sp}{E:XK}{x m:Str}{p pos apos kpos:Pos}{e o:Expr}{es:List Expr}{kws:List Keyword}{te ta:TE}{t tk:TA}{nm:Option Str}
variable {g:List Value->List Value->List Value}{gV:List V->List V->List V}
end
structure FnScope (N P:List Str) (sc:Scope):Prop where
 kind:sc.kind=.function
 co:sc.isCoroutine=false
 gen:sc.isGenerator=false
 nd:N.Nodup
 pre:N.take P.length=P
 par:∀ x∈P,sc.names.lookup x=some .local\/sc.names.lookup x=some .cell
 nofree:∀ y∈sc.names,y.2≠.free
theorem Qw {kindOf:Str->Option NameKind}{x:Str}:∀ {binds:List (Str×Value)}{m:Str->Option Value},(∀ v,(x,v) ∉ binds)->bindL kindOf binds m x=m x
 | [],_,_=>rfl
 | (n,v)::r,m,h=>by
  unfold bindL;rw [Qw fun w hw=>h w (List.mem_cons_of_mem _ hw)];split
  ·have:x≠n:=by rintro rfl;exact h v List.mem_cons_self
   simp [this]
  ·rfl
theorem Qx {kindOf:Str->Option NameKind}{x:Str}:∀ {binds:List (Str×Value)}{m:Str->Option Value},(∀ v,(x,v) ∉ binds)->bindC kindOf binds m x=m x
 | [],_,_=>rfl
 | (n,v)::r,m,h=>by
  unfold bindC;rw [Qx fun w hw=>h w (List.mem_cons_of_mem _ hw)];split
  ·rfl
  ·have:x≠n:=by rintro rfl;exact h v List.mem_cons_self
   simp [this]
theorem Qy {kindOf:Str->Option NameKind}{x:Str}{v:Value}:∀ {P:List Str}{vs:List Value}{i:Nat}{m:Str->Option Value},P.Nodup->P[i]?=some x->vs[i]?=some v->kindOf x=some .local ->
  bindL kindOf (P.zip vs) m x=some v
 | [],_,_,_,_,h,_,_=>by simp at h
 | _::_,[],_,_,_,_,h,_=>by simp at h
 | p::P,w::vs,0,m,nd,h1,h2,hk=>by
  simp at h1 h2;subst h1;subst h2;show bindL kindOf ((p,w)::P.zip vs) m p=_;unfold bindL;rw [Qw fun v hv=>(List.nodup_cons.mp nd).1 (List.of_mem_zip hv).1,if_pos hk];simp
 | p::P,w::vs,i+1,m,nd,h1,h2,hk=>by
  show bindL kindOf ((p,w)::P.zip vs) m x=_;unfold bindL;exact Qy (i:=i) (List.nodup_cons.mp nd).2 (by simpa using h1) (by simpa using h2) hk
theorem Qz {kindOf:Str->Option NameKind}{x:Str}{v:Value}:∀ {P:List Str}{vs:List Value}{i:Nat}{m:Str->Option Value},P.Nodup->P[i]?=some x->vs[i]?=some v->kindOf x≠some .local ->
  bindC kindOf (P.zip vs) m x=some v
 | [],_,_,_,_,h,_,_=>by simp at h
 | _::_,[],_,_,_,_,h,_=>by simp at h
 | p::P,w::vs,0,m,nd,h1,h2,hk=>by
  simp at h1 h2;subst h1;subst h2;show bindC kindOf ((p,w)::P.zip vs) m p=_;unfold bindC;rw [Qx fun v hv=>(List.nodup_cons.mp nd).1 (List.of_mem_zip hv).1,if_neg hk];simp
 | p::P,w::vs,i+1,m,nd,h1,h2,hk=>by
  show bindC kindOf ((p,w)::P.zip vs) m x=_;unfold bindC;exact Qz (i:=i) (List.nodup_cons.mp nd).2 (by simpa using h1) (by simpa using h2) hk
noncomputable def start (N:List Str) (vs:List V):St:=vs.map some++List.replicate (N.length - vs.length) none
noncomputable def Jt (CX:CXT) (P:Program) (w:World) (K:PySem.W.Frag) (mg:Str->Option Value) (base:Heap) (N:List Str) (qual:Str) (scope:Scope) (f:Addr) (cd:Value) (A:Around) (outer:List Env) (s:Shared) (H:Hp) (E:XK):Cx where
 prog:=P
 w:=w
 K:=K
 mg:=mg
 base:=base
 A:=A.deeper (envOfC qual scope s.heap.objs.size f cd)
 N:=N
 s₀:=s
 H₀:=H
 env:=envOfC qual scope s.heap.objs.size f cd
 outer:=outer
 stack:=envOfC qual scope s.heap.objs.size f cd::outer
 ex:=[]
 calm:=true
 fn:=fun _=>true
 pn:=[]
 xe:=fun e s'=>wpAny (model P w) (A.deeper (envOfC qual scope s.heap.objs.size f cd)) (leaving (envOfC qual scope s.heap.objs.size f cd) e) (fun _ s''=>CX outer H s E e s'') (fun e' s''=>CX outer H s E e' s'') s'
theorem Ue {sc:Scope}{n:Nat}{x:Str}(h:sc.names.lookup x=some .cell):∃ c,(cellsFrom n sc.names []).lookup x=some c:=by
 have q:=PySem.W.cellsFrom_some sc.names n [] (.inl h);exact Option.isSome_iff_exists.mp q
theorem Lg {CX:CXT}{P:Program}{w:World}{K:PySem.W.Frag}{mg:Str->Option Value}{base:Heap}{N ps:List Str}{qual:Str}{scope:Scope}{f:Addr}{cd:Value}{A:Around}{outer:List Env}{s s1:Shared}{H:Hp}{E:XK}{us:List Value}{vs:List V}
  (S:FnScope N ps scope) (hd:A.handled=none) (e0:Env0 P w K mg base A outer s H) (hl:vs.length=ps.length) (r:Vals vs us)
  (x:InCallC s s.heap.objs.size (bindL (envOfC qual scope s.heap.objs.size f cd).kindOf (ps.zip us) fun _=>none) (cellsFrom (s.heap.objs.size+1) scope.names []) (bindC (envOfC qual scope s.heap.objs.size f cd).kindOf (ps.zip us) fun _=>none) s1) :
  Inv (Jt CX P w K mg base N qual scope f cd A outer s H E) [] (start N vs) H s1:=by
 have hpl:ps.length<=N.length:=by have:=congrArg List.length S.pre;rw [List.length_take] at this;omega
 obtain ⟨h1,tk,rfl,hk⟩:=x.done;have noA:∀ b:Addr,b ∉ (Jt CX P w K mg base N qual scope f cd A outer s H E).ex:=fun b z=>absurd (show b∈([]:List Addr) from z) (by simp)
 refine ⟨⟨e0.mod,S.kind,rfl,rfl,Nat.le_refl _,fun y z c h1 h2=>?_,fun y hy=>?_,fun y c _ h=>?_,fun _=>hd,Around.frames_deeper e0.frames,.inr ⟨rfl,rfl⟩,fun b z=>absurd z (noA b),e0.bs,e0.bsz,fun b _ _=>noA b,fun b z=>absurd z (noA b),e0.funs,e0.frf⟩,
  rfl,e0.bare,Un.kept hk,⟨_,x.toInCall.ns,fun i y v h1 h2 h3=>?_⟩,fun y c h=>⟨_,x.cell y c h⟩,e0.hok.fresh (Nat.le_refl _),fun y c h=>?_,fun p hp=>absurd (show p∈([]:List (Addr×Obj)) from hp) (by simp),e0.hok.kept hk,?_⟩
 ·exact name_of_addr x.apart (PySem.mem_of_lookup h1) (PySem.mem_of_lookup h2)
 ·have hy:scope.names.lookup y=some .cell\/scope.names.lookup y=some .free:=hy;rcases hy with hy|hy
  ·exact Ue hy
  ·exact absurd rfl (S.nofree _ (PySem.mem_of_lookup hy))
 ·exact Nat.le_of_lt (x.above y c (PySem.mem_of_lookup h))
 ·have hi:i < vs.length:=by
   unfold start at h2
   by_cases hi:i < vs.length
   ·exact hi
   ·rw [List.getElem?_append_right (by simpa using hi)] at h2;rw [List.getElem?_replicate] at h2;split at h2 <;> cases h2
  have ha:vs[i]?=some v:=by
   unfold start at h2;rw [List.getElem?_append_left (by simpa using hi),List.getElem?_map] at h2;cases e:vs[i]? with
   | none=>rw [e] at h2;cases h2
   | some a=>rw [e] at h2;cases h2;rfl
  obtain ⟨u,hu,rv⟩:=r.get ha;have hp:ps[i]?=some y:=by
   rw [← S.pre,List.getElem?_take_of_lt (by omega)];exact h1
  have ndP:ps.Nodup:=by rw [← S.pre];exact S.nd.sublist (List.take_sublist _ _)
  refine ⟨u,rv,?_⟩;rcases S.par y (List.mem_of_getElem? hp) with k|k
  ·exact .inl ⟨k,Qy ndP hp hu k⟩
  ·obtain ⟨c,e⟩:=Ue (n:=s.heap.objs.size+1) k;refine .inr ⟨.inl k,c,e,?_⟩;have q:=x.cell y c e;rw [Qz ndP hp hu (by show scope.names.lookup y≠_;rw [k];decide)] at q;exact q
 ·exact .inl (e0.hok.fresh (Nat.le_of_lt (x.above y c (PySem.mem_of_lookup h))))
 ·unfold start;show _=N.length;rw [List.length_append,List.length_map,List.length_replicate];omega
theorem wA {CX:CXT}{P:Program}{w:World}{K:PySem.W.Frag}{mg:Str->Option Value}{base:Heap}{k:Nat}{f:Addr}{name qual:Str}{params:Arguments}{body:List Stmt}{scope:Scope}{dV kV doc pm cdv ct oc:Value}{an od:Option Addr}
  {osl:Array (Option Value)} {N ps:List Str} {sp:Sp} (lk:K.lookup f=some ⟨oc,od,.func (PySem.W.fnOf name qual params body scope dV kV doc pm an cdv ct),osl⟩) (hcd:PySem.W.codeIn K cdv qual=true) (S:FnScope N ps scope)
  (len:∀ vs H Q E,sp vs H Q E->vs.length=ps.length)
  (hbody:∀ (A:Around) (outer:List Env) (s:Shared) (H:Hp) (vs:List V) (Q:VK) (E:XK),Room k (A.deeper (envOfC qual scope s.heap.objs.size f cdv))->sp vs H Q E ->
   ∃ t,PSs (Jt CX P w K mg base N qual scope f cdv A outer s H E) body t/\t { nx:=fun _ H'=>Q .non H',rt:=Q } (start N vs) H) :
  FnOk P w K mg base CX (k+1) f (PySem.W.fnOf name qual params body scope dV kV doc pm an cdv ct) ps sp:=by
 refine ⟨len,fun A outer s H args us vs Q E hr e0 hb r hsp=>?_⟩;have hl:=len _ _ _ _ hsp;have KX:K.In s.heap:=e0.mod.kin.keeps fun b o e=>(e0.bs b o e).1
 have lim:s.heap.NoLimit:=e0.mod.nolimit.keeps fun b o e=>(e0.bs b o e).1
 have hkind:∀ y∈ps.zip us,scope.names.lookup y.1=some .local\/(scope.names.lookup y.1=some .cell/\((cellsFrom (s.heap.objs.size+1) scope.names []).lookup y.1).isSome=true):=by
  rintro ⟨n,v⟩ hy;rcases S.par n (List.of_mem_zip hy).1 with q|q
  ·exact .inl q
  ·exact .inr ⟨q,PySem.W.cellsFrom_some _ _ _ (.inl q)⟩
 refine codeAny_call_function hr.depth (KX _ _ lk) rfl S.co S.gen rfl (PySem.W.codeRec_of KX hcd) (hb _ _ _ _ ?_);refine wpAny_newFunctionEnv_cells S.kind hkind fun env he s1 x=>?_
 subst he;refine ⟨lim.keeps x.toInCall.keep,codeAny_func ?_⟩;obtain ⟨t,ht,hq⟩:=hbody A outer s H vs Q E (hr.deeper _) hsp;have I:Inv (Jt CX P w K mg base N qual scope f cdv A outer s H E) [] (start N vs) H s1:=Lg S hr.hd e0 hl r x;refine wpAny_mono (ht [] s1 (start N vs) H _ I hq) (fun fl s' hs=>?_) fun e s' hs=>hs
 have fin:∀ {σ':St} {H':Hp} {v:V} {u:Value},Inv (Jt CX P w K mg base N qual scope f cdv A outer s H E) [] σ' H' s'->RelV v u->Q v H'->CE outer P w H s Q u s' :=
  fun {σ' H' v u} J rv q=>⟨v,H',J.os,J.bare,J.base,J.hok,rv,q⟩
 cases fl with
 | ret u =>
  obtain ⟨v,σ',H',J,rv,q⟩:=hs;exact fin J rv q
 | next =>
  obtain ⟨σ',H',J,q⟩:=hs;exact fin (v:=V.non) (u:=Value.none) J rfl q
 | brk =>
  obtain ⟨_,_,_,q⟩:=hs;exact False.elim q
 | cont =>
  obtain ⟨_,_,_,q⟩:=hs;exact False.elim q
section
variable {X:Cx}{x:Str}{p pos:Pos}{e:Expr}{es:List Expr}{t:TA}{id T:String}{r:List V->Hp->VK->Prop}
noncomputable def tCB (r:List V->Hp->VK->Prop) (t:TA):TE:=fun σ H Q=>t σ H fun vs H1=>r vs H1 Q
theorem Ug (hc:Ca X (.builtin id) r) (hg:Gl X x) (hm:X.mg x=none) (hv:bootBuiltins x=some (.builtin id)) (ha:PA X (e::es) t) (hn:x ≠ "__name__":=by decide) (hdb:(x==("__debug__":Str))=false:=by decide)
  (he:starEach (e::es) X.env=(false,eval e X.env)::starEach es X.env:=by rfl) (hpl:(backTo pos (starEach es X.env)).any (·.1)=false:=by rfl):PE X (.Call (.Name x p) (e::es) [] pos) (tCB r t):=by
 intro pins s σ H Q I h;refine wpAny_Call_Name_kw (Oi I hg hm hv ?_ hn hdb);exact PyProof.Rows.callWith_builtin1 (thn (ha pos pins s σ H _ I h) fun us s1 ⟨vs,H1,I1,r1,q1⟩=>hc pins s1 σ H1 vs us Q I1 r1 q1) he hpl
theorem Gp (hc:Ca X (.type T) r) (hg:Gl X x) (hm:X.mg x=none) (hv:bootBuiltins x=some (.type T)) (ha:PA X (e::es) t) (hn:x ≠ "__name__":=by decide) (hdb:(x==("__debug__":Str))=false:=by decide)
  (he:starEach (e::es) X.env=(false,eval e X.env)::starEach es X.env:=by rfl) (hpl:(backTo pos (starEach es X.env)).any (·.1)=false:=by rfl):PE X (.Call (.Name x p) (e::es) [] pos) (tCB r t):=by
 intro pins s σ H Q I h;refine wpAny_Call_Name_kw (Oi I hg hm hv ?_ hn hdb);exact PyProof.Rows.callWith_type1 (thn (ha pos pins s σ H _ I h) fun us s1 ⟨vs,H1,I1,r1,q1⟩=>hc pins s1 σ H1 vs us Q I1 r1 q1) he hpl
end
end L2
namespace HT
open PySem PyProof.Rows
section
open PySem.SeqAt
open PySem.AutoSeq1 (wpAny_loadPart')
open PySem.MeetsSeq PySem.MeetsSeq2 PySem.MeetsSeq3
end
section
variable {prog:Program}{w:World}{A:Around}{E:Value->Shared->Prop}{s:Shared}
theorem cat_tup {t b:Addr}{vs ws:List Value}{Q:Value->Shared->Prop}(ht:IsTup s.heap t vs.toArray) (hb:IsTup s.heap b ws.toArray) (hv:vs≠[])
  (h1:ws=[]->Q (.ref t) s) (h2:ws≠[]->Q (.ref s.heap.objs.size) { s with heap:=s.heap.push { cls:=.type "tuple",data:=.seq (vs++ws).toArray } })
  (hsz:vs.length+ws.length<=sizeLine):wpAny (model prog w) A (binaryOp .Add (.ref t) (.ref b)) Q E s:=by
 obtain ⟨⟨cls,dd,data,sl⟩,ho,hc,n,hd⟩:=id ht;obtain ⟨⟨cls2,dd2,data2,sl2⟩,ho2,hc2,n2,hd2⟩:=id hb;simp only at hc hd hc2 hd2;subst hc hd hc2 hd2;have e:vs.toArray++ws.toArray=(vs++ws).toArray:=by simp
 by_cases hw:ws=[]
 ·exact concat_meets ⟨_,ho,rfl⟩ ⟨_,ho2,rfl⟩ noFill_tuple_add seq_tuple_add PySem.F.slot_tuple_add PySem.F.entry_tuple_add (PySem.F.args_tuple_add_2 _ _)
   (tuple_addW1 t b vs.toArray ws.toArray n n2 dd dd2 sl sl2 (by simpa using hv) (by simp [hw])) ⟨ho,ho2,h1 hw⟩
 ·refine concat_meets ⟨_,ho,rfl⟩ ⟨_,ho2,rfl⟩ noFill_tuple_add seq_tuple_add PySem.F.slot_tuple_add PySem.F.entry_tuple_add (PySem.F.args_tuple_add_2 _ _)
   (tuple_addW2 t b vs.toArray ws.toArray n n2 dd dd2 sl sl2 (by simpa using hv) (by simpa using hw) (by rw [List.size_toArray,List.size_toArray];exact hsz)) ⟨ho,ho2,?_⟩
  rw [e];exact h2 hw
noncomputable def sIx (n d:Nat):Option Int->Nat
 | none=>d
 | some v=>if v < 0 then (v+(n:Int)).toNat else min v.toNat n
theorem sIx_none (n d:Nat):sIx n d none=d:=rfl
theorem sIx_nat (n d k:Nat):sIx n d (some (k:Int))=min k n:=by
 show (if (k:Int) < 0 then ((k:Int)+(n:Int)).toNat else min (k:Int).toNat n)=min k n;rw [if_neg (by omega),Int.toNat_natCast]
theorem zG (n d:Nat) (hd:d<=n) (o:Option Int):sIx n d o<=n:=by
 cases o with
 | none=>exact hd
 | some v =>
  show (if v < 0 then (v+(n:Int)).toNat else min v.toNat n)<=n
  by_cases hv:v < 0
  ·rw [if_pos hv];omega
  ·rw [if_neg hv];exact Nat.min_le_right _ _
theorem Yq (v:Int) (n d:Nat):(if v < 0 then max (v+(n:Int)) 0 else min v (n:Int))=((sIx n d (some v):Nat):Int):=by
 show (if v < 0 then max (v+(n:Int)) 0 else min v (n:Int))=(((if v < 0 then (v+(n:Int)).toNat else min v.toNat n):Nat):Int)
 by_cases hv:v < 0
 ·simp only [if_pos hv];omega
 ·simp only [if_neg hv];omega
theorem Wg (lo hi:Option Int) (n:Nat):Builtin.Slice.sliceAdjust lo hi 1 (n:Int)=(((sIx n 0 lo:Nat):Int),((sIx n n hi:Nat):Int)):=by
 have h1:¬ ((1:Int) < 0):=by omega
 unfold Builtin.Slice.sliceAdjust;simp only [h1,if_false];refine Prod.ext ?_ ?_
 ·cases lo with
  | none=>rfl
  | some v=>exact Yq v n 0
 ·cases hi with
  | none=>rfl
  | some v=>exact Yq v n n
theorem Wh (i j:Nat):Builtin.Slice.slicePlaces (i:Int) (j:Int) 1=j - i:=by
 unfold Builtin.Slice.slicePlaces;have h1:(1:Int) > 0:=by omega
 simp only [h1,if_true,Int.ediv_one];split <;> omega
theorem Om {v:Value}{o:Option Int}{Q:Option Int->Shared->Prop}(p:IsPart v o) (h:Q o s):wpAny (model prog w) A (Builtin.Slice.slicePartIndex v) Q E s:=by
 cases p with
 | none=>exact slicePart_none h
 | int i t=>exact slicePart_int h
theorem sliceApplied_gen {sl:Addr}{vl vu:Value}{lo hi:Option Int}{n:Nat}{Q:Int×Int×Nat->Shared->Prop}(hs:s.heap.IsSliceOf sl vl vu .none) (pl:IsPart vl lo) (pu:IsPart vu hi)
  (h:Q (((sIx n 0 lo:Nat):Int),1,sIx n n hi - sIx n 0 lo) s):wpAny (model prog w) A (Builtin.Slice.sliceApplied (.ref sl) (pure (n:Int))) Q E s:=by
 obtain ⟨os,hos,hcs,hds⟩:=id hs;unfold Builtin.Slice.sliceApplied Builtin.Slice.sliceFields;refine wpAny_bind (wpAny_bind (wpAny_field hos hds (x:=vl) rfl (wpAny_bind (wpAny_field hos hds (x:=vu) rfl (wpAny_bind (wpAny_field hos hds (x:=.none) rfl (wpAny_pure ?_)))))));refine wpAny_bind (slicePart_none ?_);show wpAny _ _ (if ((1:Int)==0)=true then _ else _) _ _ s;rw [if_neg (by decide)];refine wpAny_bind (Om pl (wpAny_bind (Om pu (wpAny_bind (wpAny_pure ?_)))));show wpAny _ _ (match Builtin.Slice.sliceAdjust lo hi 1 (n:Int) with | (lo,hi)=>pure (lo,(1:Int),Builtin.Slice.slicePlaces lo hi 1)) _ _ s;rw [Wg lo hi n];show wpAny _ _ (pure (((sIx n 0 lo:Nat):Int),(1:Int),Builtin.Slice.slicePlaces ((sIx n 0 lo:Nat):Int) ((sIx n n hi:Nat):Int) 1)) _ _ s;rw [Wh];exact wpAny_pure h
theorem eH (xs:Array Value) (i k:Nat):((List.range k).filterMap fun (m:Nat)=>xs[((i:Int)+(m:Int) * 1).toNat]?).toArray=((xs.toList.drop i).take k).toArray:=by
 have e:(fun (m:Nat)=>xs[((i:Int)+(m:Int) * 1).toNat]?)=fun m=>xs[i+m]?:=by
  funext m;have:((i:Int)+(m:Int) * 1).toNat=i+m:=by omega
  rw [this]
 rw [e];have:=pick_run xs i k;rw [List.filterMap_map] at this;have e2:((fun x=>xs[x]?) ∘ fun x=>i+x)=fun m=>xs[i+m]?:=rfl
 rw [e2] at this;rw [this]
theorem getItem_tuple_cut {t sl:Addr}{items:Array Value}{vl vu:Value}{lo hi:Option Int}{Q:Value->Shared->Prop}(ht:IsTup s.heap t items) (hs:s.heap.IsSliceOf sl vl vu .none) (pl:IsPart vl lo) (pu:IsPart vu hi)
  (hw:¬ (sIx items.size 0 lo=0/\sIx items.size items.size hi=items.size))
  (h:Q (.ref s.heap.objs.size) { s with heap:=s.heap.push { cls:=.type "tuple",data:=.seq ((items.toList.drop (sIx items.size 0 lo)).take (sIx items.size items.size hi - sIx items.size 0 lo)).toArray } })
  (hsz:items.size<=sizeLine):wpAny (model prog w) A (getItem (.ref t) (.ref sl)) Q E s:=by
 have htake:sizeOk (.seq ((items.toList.drop (sIx items.size 0 lo)).take (sIx items.size items.size hi - sIx items.size 0 lo)).toArray):=by
  show ((items.toList.drop (sIx items.size 0 lo)).take (sIx items.size items.size hi - sIx items.size 0 lo)).toArray.size<=sizeLine;rw [List.size_toArray,List.length_take,List.length_drop,Array.length_toList];omega
 have hj:sIx items.size items.size hi<=items.size:=zG _ _ (Nat.le_refl _) hi;obtain ⟨os,hos,hcs,hds⟩:=id hs
 have hTs:s.TypeIs (.ref sl) "slice":=⟨os,hos,hcs⟩
 unfold getItem
 try with_reducible refine wpAny_holding ?_
 first | refine wpAny_bind (wpAny_pure ?_) | skip
 refine wpAny_bind (wpAny_sequenceKey ht.typeIs (by decide) ?_)
 refine wpAny_bind (wpAny_callSpecial?_slot (name:=Str.ofString "__getitem__") ht.typeIs PyProof.Rows.slot_tuple_getitem
  (wpAny_call_entry PyProof.Rows.slot_tuple_getitem ht.typeIs entry_tuple_getitem ?_ (args_tuple_getitem _ _)))
 show wpAny _ _ (Builtin.Tuple.tupleItemsOf (.ref t) >>= _) _ _ s;refine wpAny_bind (tupleItemsOf_ ht ?_);refine wpAny_bind (wpAny_typeOf hTs ?_);rw [if_pos (by decide)];refine wpAny_bind (sliceApplied_gen hs pl pu ?_);have hno:¬ ((((sIx items.size 0 lo:Nat):Int)==0&&(1:Int)==1&&(sIx items.size items.size hi - sIx items.size 0 lo)==items.size)=true):=by
  intro q;rw [Bool.and_eq_true,Bool.and_eq_true] at q;have q1:((sIx items.size 0 lo:Nat):Int)=0:=eq_of_beq q.1.1;have q2:sIx items.size items.size hi - sIx items.size 0 lo=items.size:=eq_of_beq q.2;exact hw ⟨by omega,by omega⟩
 show wpAny _ _ (if (((sIx items.size 0 lo:Nat):Int)==0&&(1:Int)==1&&(sIx items.size items.size hi - sIx items.size 0 lo)==items.size)=true then _ else _) _ _ s;rw [if_neg hno,eH]
 first
  | exact wpAny_bind (m:=Builtin.Tuple.tupleExact _) (wpAny_newObj_type (wpAny_pure ⟨_,rfl,wpAny_pure h⟩) htake)
  | exact wpAny_bind (m:=Builtin.Tuple.tupleExact _) (wpAny_newObj_type (wpAny_bind (wpAny_pure (wpAny_pure ⟨_,rfl,wpAny_pure h⟩))) htake)
  | exact wpAny_bind (wpAny_bind (m:=Builtin.Tuple.tupleExact _) (wpAny_newObj_type (wpAny_pure (wpAny_pure ⟨_,rfl,wpAny_pure h⟩)) htake))
  | exact wpAny_bind (wpAny_bind (m:=Builtin.Tuple.tupleExact _) (wpAny_newObj_type (wpAny_pure ⟨_,rfl,wpAny_pure h⟩) htake))
end
end HT
namespace L2
open PySem PySem.Spec PyProof.Rows
noncomputable abbrev TO:=St->Hp->(Option Int->Hp->Prop)->Prop
noncomputable def PO (X:Cx) (e:Option Expr) (t:TO):Prop :=
 ∀ (pins:List (Addr×Obj)) (s:Shared) (σ:St) (H:Hp) (Q:Option Int->Hp->Prop),Inv X pins σ H s->t σ H Q ->
  wpAny (model X.prog X.w) X.A (evalPart e X.env) (fun u s'=>∃ o H',Inv X pins σ H' s'/\IsPart u o/\Q o H') X.xe s
noncomputable def qY:TO:=fun _ H Q=>Q none H
noncomputable def Ad7 (t:TE):TO:=fun σ H Q=>t σ H fun x H1=>∃ i,x=.int i/\Q (some i) H1
section
variable {X:Cx}{e:Expr}{te:TE}{lo hi:Option Expr}{tl th:TO}{pos p2:Pos}
theorem qZ:PO X none qY:=by
 intro pins s σ H Q I h;rw [evalPart_none];exact wpAny_pure ⟨none,H,I,.none,h⟩
theorem rA (h:PE X e te):PO X (some e) (Ad7 te):=by
 intro pins s σ H Q I hw;rw [evalPart_some];refine thn (h pins s σ H _ I hw) ?_;rintro u s1 ⟨x,H1,I1,r1,q1⟩;obtain ⟨i,rfl,q⟩:=q1;obtain ⟨t,rfl⟩:=r1;exact ⟨some i,H1,I1,.int i t,q⟩
noncomputable def SlR (X:Cx) (r:V->Option Int->Option Int->Hp->VK->Prop):Prop :=
 ∀ (pins:List (Addr×Obj)) (s:Shared) (σ:St) (H:Hp) (x:V) (v vl vu:Value) (lo hi:Option Int) (sl:Addr) (Q:VK),Inv X pins σ H s->RelV x v->s.heap.IsSliceOf sl vl vu .none->IsPart vl lo->IsPart vu hi->r x lo hi H Q ->
  ∃ T id,typeLookup (.type T) "__getitem__"=pure (some (.builtin id))/\s.TypeIs v T/\wpAny (model X.prog X.w) X.A (getItem v (.ref sl)) (EP X pins σ Q) X.xe s
theorem SlR.or {r r':V->Option Int->Option Int->Hp->VK->Prop}(h:SlR X r) (h':SlR X r'):SlR X (fun x lo hi H Q=>r x lo hi H Q\/r' x lo hi H Q):=by
 intro pins s σ H x v vl vu lo hi sl Q I rx hs pl pu q;rcases q with q|q
 ·exact h pins s σ H x v vl vu lo hi sl Q I rx hs pl pu q
 ·exact h' pins s σ H x v vl vu lo hi sl Q I rx hs pl pu q
noncomputable def tSl (r:V->Option Int->Option Int->Hp->VK->Prop) (te:TE) (tl th:TO):TE:=fun σ H Q=>te σ H fun x H1=>tl σ H1 fun l H2=>th σ H2 fun u H3=>r x l u H3 Q
theorem eN {r:V->Option Int->Option Int->Hp->VK->Prop}(hr:SlR X r) (he:PE X e te) (hl:PO X lo tl) (hu:PO X hi th):PE X (.Subscript e (.Slice lo hi none p2) pos) (tSl r te tl th):=by
 intro pins s σ H Q I h;refine Subscript_ (thn (he pins s σ H _ I h) ?_);rintro v s1 ⟨x,H1,I1,r1,q1⟩;refine wpAny_Slice (thn (hl pins s1 σ H1 _ I1 q1) ?_);rintro vl s2 ⟨l,H2,I2,pl,q2⟩;refine thn (hu pins s2 σ H2 _ I2 q2) ?_;rintro vu s3 ⟨u,H3,I3,pu,q3⟩;rw [evalPart_none];refine wpAny_pure ?_
 have I4:Inv X pins σ H3 { s3 with heap:=s3.heap.push { cls:=.type "slice",data:=.fields #[vl,vu,.none] } }:=I3.kept (t':=s3.toks) fun b ob q=>Heap.get?_push_of_some _ q
 obtain ⟨T,id,hT,ht,hg⟩:=hr pins { s3 with heap:=s3.heap.push { cls:=.type "slice",data:=.fields #[vl,vu,.none] } } σ H3 x v vl vu l u s3.heap.objs.size Q I4 r1 (Heap.IsSliceOf.new ..) pl pu q3
 show wpAny (model X.prog X.w) X.A (subscriptTail e (.Slice lo hi none p2) v (.ref s3.heap.objs.size)) (EP X pins σ Q) X.xe { s3 with heap:=s3.heap.push { cls:=.type "slice",data:=.fields #[vl,vu,.none] } };exact tail_any (ops:=[.ref s3.heap.objs.size,v]) ht hT hg (by with_unfolding_all rfl)
noncomputable def Uh (xs:List V) (lo hi:Option Int):List V:=(xs.drop (HT.sIx xs.length 0 lo)).take (HT.sIx xs.length xs.length hi - HT.sIx xs.length 0 lo)
theorem Ms (xs:List V) (lo hi:Option Int):(Uh xs lo hi).length<=xs.length:=by
 unfold Uh;rw [List.length_take,List.length_drop];omega
noncomputable def Af3 (K:PySem.W.Frag):V->Option Int->Option Int->Hp->VK->Prop:=fun x lo hi H Q=>∃ a xs,x=.ref a/\SqT K H a xs /\
 ¬ (HT.sIx xs.length 0 lo=0/\HT.sIx xs.length xs.length hi=xs.length)/\∀ p,H p=none->Q (.ref p) (upd H p (.tup (Uh xs lo hi)))
theorem zH:SlR X (Af3 X.K):=by
 intro pins s σ H x v vl vu lo hi sl Q I rx hs pl pu h;obtain ⟨a,xs,rfl,hx,hw,q⟩:=h;cases rx;obtain ⟨its,r,ht,hz⟩:=I.tuple hx;have hlen:its.toArray.size=xs.length:=by rw [List.size_toArray];exact r.length.symm
 refine ⟨"tuple",_,PyProof.Rows.slot_tuple_getitem.lookup,ht.typeIs,?_⟩;refine HT.getItem_tuple_cut ht hs pl pu (by rw [hlen];exact hw) ?_ (by rw [hlen];exact hz);rw [hlen];refine ⟨.ref s.heap.objs.size,_,I.laid (t':=s.toks) (o:=.tup (Uh xs lo hi)) (fun b ob q=>Heap.get?_push_of_some _ q) (Nat.le_refl _) ?_,rfl,q _ (I.hok.fresh (Nat.le_refl _))⟩;exact ⟨Nat.le_trans (Ms xs lo hi) hz,_,(r.drop (HT.sIx xs.length 0 lo)).take (HT.sIx xs.length xs.length hi - HT.sIx xs.length 0 lo),Nm.new _ _⟩
noncomputable def Ad8 (K:PySem.W.Frag):R2:=fun x y H Q=>∃ a b xs ys,x=.ref a/\y=.ref b/\SqT K H a xs/\SqT K H b ys/\xs≠[]/\xs.length+ys.length<=sizeLine /\
 (ys=[]->Q (.ref a) H)/\(ys≠[]->∀ p,H p=none->Q (.ref p) (upd H p (.tup (xs++ys))))
theorem Vals.nil_iff {xs:List V}{us:List Value}(r:Vals xs us):us=[] ↔ xs=[]:=by
 cases r with
 | nil=>simp
 | cons _ _=>simp
theorem rB:OpR X (binaryOp .Add) (Ad8 X.K):=by
 intro pins s σ H x y v u Q I rx ry h;obtain ⟨a,b,xs,ys,rfl,rfl,ha,hb,hx,hz,q1,q2⟩:=h;cases rx;cases ry;obtain ⟨its,r1,p1,_⟩:=I.tuple ha;obtain ⟨its2,r2,p2,_⟩:=I.tuple hb;refine HT.cat_tup p1 p2 (fun z=>hx (r1.nil_iff.mp z)) (fun z=>⟨.ref a,H,I,rfl,q1 (r2.nil_iff.mp z)⟩) (fun z=>?_) (by rw [← r1.length,← r2.length];exact hz);refine ⟨.ref s.heap.objs.size,_,I.laid (t':=s.toks) (o:=.tup (xs++ys)) (fun b ob q=>Heap.get?_push_of_some _ q) (Nat.le_refl _) ?_,rfl,q2 (fun w=>z (r2.nil_iff.mpr w)) _ (I.hok.fresh (Nat.le_refl _))⟩;exact ⟨by rw [List.length_append];exact hz,_,r1.append r2,Nm.new _ _⟩
end
noncomputable def ixN (n:Nat) (i:Int):Option Nat:=if 0<=i then (if i < n then some i.toNat else none) else if -(n:Int)<=i then some (i+n).toNat else none
noncomputable def atI {α:Type}(xs:List α) (i:Int):Option α:=(ixN xs.length i).bind fun j=>xs[j]?
theorem Yr {n:Nat}{i:Int}{j:Nat}(h:ixN n i=some j):seqIndex? i n=some j/\j < n/\-(n:Int)<=i/\i < n:=by
 unfold ixN at h
 by_cases h0:0<=i
 ·rw [if_pos h0] at h
  by_cases h1:i < n
  ·rw [if_pos h1] at h;have e:i.toNat=j:=Option.some.inj h;exact ⟨by rw [seqIndex_of h0 h1,e],by omega,by omega,h1⟩
  ·rw [if_neg h1] at h;cases h
 ·rw [if_neg h0] at h
  by_cases h1:-(n:Int)<=i
  ·rw [if_pos h1] at h;have e:(i+n).toNat=j:=Option.some.inj h;exact ⟨by rw [seqIndex_neg (by omega) h1,e],by omega,h1,by omega⟩
  ·rw [if_neg h1] at h;cases h
theorem Rx {α:Type}{xs:List α}{i:Int}{v:α}(h:atI xs i=some v):∃ j,seqIndex? i xs.length=some j/\xs[j]?=some v/\j < xs.length/\-(xs.length:Int)<=i/\i < xs.length:=by
 unfold atI at h;cases e:ixN xs.length i with
 | none=>rw [e] at h;cases h
 | some j =>
  rw [e] at h;obtain ⟨h1,h2,h3,h4⟩:=Yr e;exact ⟨j,h1,h,h2,h3,h4⟩
theorem Ry {α:Type}{xs:List α}{j:Nat}{v:α}(h:xs[j]?=some v):atI xs (j:Int)=some v:=by
 have hj:j < xs.length:=(List.getElem?_eq_some_iff.mp h).1;have e:ixN xs.length (j:Int)=some j:=by
  unfold ixN;rw [if_pos (by omega),if_pos (by omega)];simp
 unfold atI;rw [e];exact h
noncomputable def Rz (b:Expr):Prop:=∀ o i,subscripted b false o i=operate [o,i] (getItem o i)
noncomputable def IxR (X:Cx) (r:R2):Prop :=
 ∀ (value slice:Expr) (pins:List (Addr×Obj)) (s:Shared) (σ:St) (H:Hp) (x y:V) (v u:Value) (Q:VK),Inv X pins σ H s->RelV x v->RelV y u->r x y H Q ->
  subscripted slice false v u=operate [v,u] (getItem v u)->wpAny (model X.prog X.w) X.A (subscriptTail value slice v u) (EP X pins σ Q) X.xe s
noncomputable def MtR (X:Cx) (id:String) (r:V->List V->Hp->VK->Prop):Prop :=
 ∀ (pins:List (Addr×Obj)) (s:Shared) (σ:St) (H:Hp) (x:V) (xs:List V) (v:Value) (us:List Value) (Q:VK),Inv X pins σ H s->RelV x v->Vals xs us->r x xs H Q ->
  wpAny (model X.prog X.w) X.A (call (.builtin id) (v::us)) (EP X pins σ Q) X.xe s
section
variable {X:Cx}{a b:Expr}{ta tb:TE}{pos:Pos}
theorem IxR.or {r r':R2}(h:IxR X r) (h':IxR X r'):IxR X (fun x y H Q=>r x y H Q\/r' x y H Q):=by
 intro value slice pins s σ H x y v u Q I rx ry q hs;rcases q with q|q
 ·exact h value slice pins s σ H x y v u Q I rx ry q hs
 ·exact h' value slice pins s σ H x y v u Q I rx ry q hs
theorem Ad9 {r:R2}(hr:IxR X r) (ha:PE X a ta) (hb:PE X b tb) (hs:Rz b):PE X (.Subscript a b pos) (tOp r ta tb):=by
 intro pins s σ H Q I h;exact Subscript_ (yN ha hb I h fun v u s2 x y H2 I2 rx ry q=>hr a b pins s2 σ H2 x y v u Q I2 rx ry q (hs _ _))
noncomputable def Aea (K:PySem.W.Frag):R2:=fun x y H Q=>∃ p xs i v,x=.ref p/\y=.int i/\SqL K H p xs/\atI xs i=some v/\Q v H
noncomputable def Aeb (K:PySem.W.Frag):R2:=fun x y H Q=>∃ p xs i v,x=.ref p/\y=.int i/\SqT K H p xs/\atI xs i=some v/\Q v H
noncomputable def Aec:R2:=fun x y H Q=>∃ z i c,x=.str z/\y=.int i/\z.length<=sizeLine/\atI z.cps.toList i=some c/\Q (.str ⟨#[c]⟩) H
theorem rC:IxR X (Aea X.K):=by
 intro value slice pins s σ H x y v u Q I rx ry h hs;obtain ⟨p,xs,i,z,rfl,rfl,hq,he,q⟩:=h;cases rx;obtain ⟨t,rfl⟩:=ry;obtain ⟨its,r,pl,hz⟩:=I.list hq;obtain ⟨j,h1,h2,h3,h4,h5⟩:=Rx he;obtain ⟨w,ew,rw'⟩:=r.get h2;have hl:=r.length;have hn:=Jr;have fin:EP X pins σ Q w s:=⟨z,H,I,rw',q⟩
 by_cases h0:0<=i
 ·have hj:i.toNat=j:=by
   rw [seqIndex_of h0 h5] at h1;exact Option.some.inj h1
  exact item_listR pl.isList h0 (by omega) (by rw [hj];simpa using ew) fin hs
 ·have hj:(i+(its.toArray.size:Int)).toNat=j:=by
   rw [seqIndex_neg (by omega) h4] at h1;rw [List.size_toArray,← hl];exact Option.some.inj h1
  exact subscriptTail_builtinR (x:=w) pl.isList.typeIs slot_list_getitem.lookup
   (wpAny_getItem_list_neg (Q:=fun r s'=>r=w/\EP X pins σ Q r s') pl.isList (by omega) (by rw [List.size_toArray] <;> omega) (by omega) (by rw [hj];simpa using ew) ⟨rfl,fin⟩) hs
theorem zJ:IxR X (Aeb X.K):=by
 intro value slice pins s σ H x y v u Q I rx ry h hs;obtain ⟨p,xs,i,z,rfl,rfl,hq,he,q⟩:=h;cases rx;obtain ⟨t,rfl⟩:=ry;obtain ⟨its,r,pl,hz⟩:=I.tuple hq;obtain ⟨j,h1,h2,h3,h4,h5⟩:=Rx he;obtain ⟨w,ew,rw'⟩:=r.get h2;have hl:=r.length;have hn:=Jr;have fin:EP X pins σ Q w s:=⟨z,H,I,rw',q⟩;exact subscriptTail_builtinR (x:=w) pl.typeIs slot_tuple_getitem.lookup
  (getItem_tuple (j:=j) (Q:=fun r s'=>r=w/\EP X pins σ Q r s') pl (by omega) (by omega) (by rw [List.size_toArray,← hl];exact h1) (by simpa using ew) ⟨rfl,fin⟩) hs
theorem zK:IxR X Aec:=by
 intro value slice pins s σ H x y v u Q I rx ry h hs;obtain ⟨z,i,c,rfl,rfl,hz,he,q⟩:=h;obtain ⟨t,rfl⟩:=rx;obtain ⟨t',rfl⟩:=ry;obtain ⟨j,h1,h2,h3,h4,h5⟩:=Rx he;have hl:z.cps.toList.length=z.length:=by simp [Str.length]
 rw [hl] at h1 h4 h5;have hn:=Jr
 exact tail_any (typeIs_str s z t) slot_str_getitem.lookup (getItem_str (c:=c) (by
  have e1:decide (i < -(2 ^ 63:Int))=false:=decide_eq_false (by omega);have e2:decide (i ≥ 2 ^ 63)=false:=decide_eq_false (by omega)
  rw [e1,e2,Bool.or_false]) (by rw [h1];simpa using h2) ⟨.str ⟨#[c]⟩,H,I.tok _,⟨_,rfl⟩,q⟩) hs
noncomputable def rIx (K:PySem.W.Frag):R2:=fun x y H Q=>Aea K x y H Q\/Aeb K x y H Q\/Aec x y H Q
theorem zL:IxR X (rIx X.K):=rC.or (zJ.or zK)
theorem Wi (its:List Value) (n j:Nat) (u:Value):Obj.mapSeq (·.setIfInBounds j u) { cls:=.type "list",data:=.seq its.toArray n }={ cls:=.type "list",data:=.seq (its.set j u).toArray n }:=by
 simp [Obj.mapSeq]
theorem Inv.lst {pins:List (Addr×Obj)}{σ:St}{H:Hp}{s:Shared}{p:Addr}{xs:List V}(I:Inv X pins σ H s) (h:H p=some (.lst xs)) :
  ∃ (its:List Value) (n:Nat),Vals xs its/\s.heap.get? p=some { cls:=.type "list",data:=.seq its.toArray n }/\xs.length<=sizeLine:=by
 obtain ⟨z,its,n,r,e⟩:=I.hok p _ h;exact ⟨its,n,r,e,z⟩
theorem Inv.lstUpd {pins:List (Addr×Obj)}{σ:St}{H:Hp}{s:Shared}{p:Addr}{xs ys:List V}{its its':List Value}{n n':Nat}{f:Obj->Obj}(I:Inv X pins σ H s) (h:H p=some (.lst xs))
  (ho:s.heap.get? p=some { cls:=.type "list",data:=.seq its.toArray n }) (hf:f { cls:=.type "list",data:=.seq its.toArray n }={ cls:=.type "list",data:=.seq its'.toArray n' }) (r:Vals ys its') (hz:ys.length<=sizeLine) (t:Nat) :
  Inv X pins σ (upd H p (.lst ys)) { s with heap:=s.heap.update p f,toks:=t }:=by
 have e:(s.heap.update p f).get? p=some { cls:=.type "list",data:=.seq its'.toArray n' }:=by
  rw [Heap.get?_update_self f ho (by rw [hf] <;> rfl),hf]
 refine I.write (x:=p) (e:=p) (by rw [h];trivial) (.inl rfl) (fun b u hb q=>(Heap.get?_update_other _ _ (Ne.symm hb)).trans q) ⟨_,e⟩ ?_;exact ⟨hz,its',n',r,e⟩
noncomputable def Aed:V->V->V->Hp->(Hp->Prop)->Prop:=fun o i v H Q=>∃ p xs k j,o=.ref p/\i=.int k/\H p=some (.lst xs)/\ixN xs.length k=some j/\Q (upd H p (.lst (xs.set j v)))
theorem set_list:Adt X Aed:=by
 intro pins s σ H o i v ov iv u Q I ro ri rv h;obtain ⟨p,xs,k,j,rfl,rfl,hp,hj,q⟩:=h;cases ro;obtain ⟨t,rfl⟩:=ri;obtain ⟨its,n,r,ho,hz⟩:=I.lst hp;obtain ⟨h1,h2,h3,h4⟩:=Yr hj;have hl:=r.length;have hn:=Jr;have I':Inv X pins σ (upd H p (.lst (xs.set j v))) { s with heap:=s.heap.update p (Obj.mapSeq (·.setIfInBounds j u)) } :=
  I.lstUpd hp ho (Wi its n j u) (r.set rv j) (by rw [List.length_set];exact hz) s.toks
 by_cases h0:0<=k
 ·have hk:k.toNat=j:=by
   rw [seqIndex_of h0 h4] at h1;exact Option.some.inj h1
  exact PySem.W.ki_setAt ho h0 (by omega) (by rw [List.size_toArray,← hl];exact h4) (by rw [hk];exact ⟨_,I',q⟩)
 ·have hk:(k+(its.toArray.size:Int)).toNat=j:=by
   rw [seqIndex_neg (by omega) h3] at h1;rw [List.size_toArray,← hl];exact Option.some.inj h1
  exact PySem.W.ki_setBack ho (by omega) (by rw [List.size_toArray,← hl];exact h3) (by omega) (by rw [hk];exact ⟨_,I',q⟩)
theorem R0 (lo hi:Option Int) (n:Nat):(sliceBounds lo hi none n).1=((HT.sIx n 0 lo:Nat):Int)/\(sliceBounds lo hi none n).2.1=((HT.sIx n n hi:Nat):Int)/\(sliceBounds lo hi none n).2.2=1:=by
 refine ⟨?_,?_,rfl⟩
 ·cases lo with
  | none=>simp [sliceBounds,HT.sIx]
  | some i =>
   simp only [sliceBounds,HT.sIx,Option.getD_none,show (1:Int) > 0 by decide,if_true]
   by_cases h:i < 0
   ·simp only [h,if_true] <;> omega
   ·simp only [h,if_false] <;> omega
 ·cases hi with
  | none=>simp [sliceBounds,HT.sIx]
  | some i =>
   simp only [sliceBounds,HT.sIx,Option.getD_none,show (1:Int) > 0 by decide,if_true]
   by_cases h:i < 0
   ·simp only [h,if_true] <;> omega
   ·simp only [h,if_false] <;> omega
theorem Qj (its:List Value) (lo hi:Option Int):slicePick its.toArray lo hi none=((its.drop (HT.sIx its.length 0 lo)).take (HT.sIx its.length its.length hi - HT.sIx its.length 0 lo)).toArray:=by
 obtain ⟨h1,h2,h3⟩:=R0 lo hi its.toArray.size;unfold slicePick;rw [h1,h2,h3];simp only [sliceRange_one,pick_run,List.size_toArray] <;> rfl
noncomputable def Af4 (K:PySem.W.Frag):V->Option Int->Option Int->Hp->VK->Prop:=fun x lo hi H Q=>∃ a xs,x=.ref a/\SqL K H a xs/\∀ p,H p=none->Q (.ref p) (upd H p (.lst (Uh xs lo hi)))
theorem rE:SlR X (Af4 X.K):=by
 intro pins s σ H x v vl vu lo hi sl Q I rx hs pl pu h;obtain ⟨a,xs,rfl,hx,q⟩:=h;cases rx;obtain ⟨its,r,ht,hz⟩:=I.list hx;have hlen:=r.length
 refine ⟨"list",_,slot_list_getitem.lookup,ht.isList.typeIs,?_⟩;refine wpAny_getItem_list_slice ht.isList hs pl pu .none (by simp) ?_ (by rw [List.size_toArray] <;> omega);rw [Qj,← hlen];refine ⟨.ref s.heap.objs.size,_,I.laid (t':=s.toks) (o:=.lst (Uh xs lo hi)) (fun b ob q=>Heap.get?_push_of_some _ q) (Nat.le_refl _) ?_,rfl,q _ (I.hok.fresh (Nat.le_refl _))⟩;exact ⟨Nat.le_trans (Ms xs lo hi) hz,_,0,(r.drop (HT.sIx xs.length 0 lo)).take (HT.sIx xs.length xs.length hi - HT.sIx xs.length 0 lo),Heap.get?_push_size _ rfl⟩
theorem R3:Ca X (.builtin "len") (fun xs H Q=>∃ p ys,xs=[.ref p]/\(SqL X.K H p ys\/SqT X.K H p ys)/\Q (.int ys.length) H):=by
 intro pins s σ H xs us Q I r h;obtain ⟨p,ys,rfl,hq,q⟩:=h;obtain ⟨u,rfl,rx⟩:=vals1 r;cases rx;have hn:=Jr;rcases hq with hq|hq
 ·obtain ⟨its,r',pl,hz⟩:=I.list hq;have hlen:=r'.length;exact Calls.call_len_list pl.isList (by simp only [List.size_toArray] <;> omega) ⟨.int ys.length,H,I.tok _,⟨s.toks+1,by rw [List.size_toArray,hlen]⟩,q⟩
 ·obtain ⟨its,r',pl,hz⟩:=I.tuple hq;have hlen:=r'.length;exact len_tuple pl (by simp only [List.size_toArray] <;> omega) ⟨.int ys.length,H,I.tok _,⟨s.toks+1,by rw [List.size_toArray,hlen]⟩,q⟩
theorem R5:Ca X (.builtin "len") (fun xs H Q=>∃ z,xs=[.str z]/\z.length<=sizeLine/\Q (.int z.length) H):=by
 intro pins s σ H xs us Q I r h;obtain ⟨z,rfl,hz,q⟩:=h;obtain ⟨u,rfl,t,rfl⟩:=vals1 r;have hn:=Jr;exact len_str (by omega) ⟨.int z.length,H,I.tok _,⟨_,rfl⟩,q⟩
theorem Ca.or {f:Value}{r r':List V->Hp->VK->Prop}(h:Ca X f r) (h':Ca X f r'):Ca X f (fun xs H Q=>r xs H Q\/r' xs H Q):=by
 intro pins s σ H xs us Q I rs q;rcases q with q|q
 ·exact h pins s σ H xs us Q I rs q
 ·exact h' pins s σ H xs us Q I rs q
theorem R6:Ca X (.type "list") (fun xs H Q=>∃ p ys,xs=[.ref p]/\(SqL X.K H p ys\/SqT X.K H p ys)/\∀ l,H l=none->Q (.ref l) (upd H l (.lst ys))):=by
 intro pins s σ H xs us Q I r h;obtain ⟨p,ys,rfl,hq,q⟩:=h;obtain ⟨u,rfl,rx⟩:=vals1 r;cases rx;have fin:∀ (its:List Value),Vals ys its->ys.length<=sizeLine->∀ (h':Heap) (c':Nat),(∀ b o',s.heap.get? b=some o'->h'.get? b=some o') ->
   h'.get? s.heap.objs.size=some { cls:=.type "list",dict:=none,data:=.seq its.toArray c',slots:=#[] }->EP X pins σ Q (.ref s.heap.objs.size) { s with heap:=h' }:=fun its r' hz h' c' kp e =>
  ⟨.ref s.heap.objs.size,_,I.laid (t':=s.toks) kp (Nat.le_refl _) (show Ey X.prog X.w _ h' _ (.lst ys) from ⟨hz,its,c',r',e⟩),rfl,q _ (I.hok.fresh (Nat.le_refl _))⟩
 rcases hq with hq|hq
 ·obtain ⟨its,r',pl,hz⟩:=I.list hq;have hlen:=r'.length;obtain ⟨o,ho,hc,n,hd⟩:=pl.isList;exact call_list_seq p (.inl rfl) ho hc hd (fun h' c' kp e=>fin its r' hz h' c' kp e) (by simp only [List.size_toArray] <;> omega)
 ·obtain ⟨its,r',pl,hz⟩:=I.tuple hq;have hlen:=r'.length;obtain ⟨o,ho,hc,n,hd⟩:=pl;exact call_list_seq p (.inr rfl) ho hc hd (fun h' c' kp e=>fin its r' hz h' c' kp e) (by simp only [List.size_toArray] <;> omega)
theorem Qk:Ca X (.type "tuple") (fun xs H Q=>∃ p ys,xs=[.ref p]/\((SqL X.K H p ys/\∀ l,H l=none->Q (.ref l) (upd H l (.tup ys)))\/(SqT X.K H p ys/\Q (.ref p) H))):=by
 intro pins s σ H xs us Q I r h;obtain ⟨p,ys,rfl,h⟩:=h;obtain ⟨u,rfl,rx⟩:=vals1 r;cases rx;rcases h with ⟨hq,q⟩|⟨hq,q⟩
 ·obtain ⟨its,r',pl,hz⟩:=I.list hq;have hlen:=r'.length;refine call_tuple_list pl.isList (fun h' kp=>?_) (by simp only [List.size_toArray] <;> omega);have I1:Inv X pins σ H { s with heap:=h' }:=I.kept (t':=s.toks) kp
  have I2:Inv X pins σ (upd H h'.objs.size (.tup ys)) { s with heap:=h'.push { cls:=.type "tuple",data:=.seq its.toArray } } :=
   I1.laid (t':=s.toks) (fun b o e=>Heap.get?_push_of_some _ e) (Nat.le_refl _) (show Ey X.prog X.w _ _ _ (.tup ys) from ⟨hz,its,r',Nm.new _ _⟩)
  exact ⟨.ref h'.objs.size,_,I2,rfl,q _ (I1.hok.fresh (Nat.le_refl _))⟩
 ·obtain ⟨its,r',pl,hz⟩:=I.tuple hq;exact call_tuple_same pl ⟨.ref p,H,I,rfl,q⟩
noncomputable def tyV (K:PySem.W.Frag) (T:String) (x:V) (H:Hp):Prop:=match x with
 | .str _=>T = "str"
 | .int _=>T = "int"
 | .ref p=>(T = "list"/\∃ xs,SqL K H p xs)\/(T = "tuple"/\∃ xs,SqT K H p xs) \/
   (T = "dict"/\((∃ kvs,H p=some (.dK kvs))\/∃ kvs,H p=some (.dT kvs)))\/(T = "set"/\∃ S n,H p=some (.set S n))
 | _=>False
theorem eO {pins:List (Addr×Obj)}{σ:St}{H:Hp}{s:Shared}{T:String}{x:V}{v:Value}(I:Inv X pins σ H s) (r:RelV x v) (ty:tyV X.K T x H) :
  s.TypeIs v T/\∀ a,v=.ref a->∃ ob,s.heap.get? a=some ob/\ob.dict=none:=by
 cases x with
 | str z =>
  obtain ⟨t,rfl⟩:=r
  cases (show T = "str" from ty);exact ⟨typeIs_str s z t,fun _ e=>nomatch e⟩
 | int i =>
  obtain ⟨t,rfl⟩:=r
  cases (show T = "int" from ty);exact ⟨typeIs_int s i t,fun _ e=>nomatch e⟩
 | ref p =>
  cases r;rcases ty with ⟨rfl,xs,hq⟩|⟨rfl,xs,hq⟩|⟨rfl,hk⟩|⟨rfl,S,n,hk⟩
  ·obtain ⟨its,_,pl,_⟩:=I.list hq;refine ⟨pl.isList.typeIs,fun a e=>?_⟩;cases e;obtain ⟨o,n,e,c,hd,_⟩:=pl;exact ⟨o,e,hd⟩
  ·obtain ⟨its,_,⟨o,e,c,d,n,dd⟩,_⟩:=I.tupleP hq;refine ⟨⟨o,e,c⟩,fun a e2=>?_⟩;cases e2;exact ⟨o,e,d⟩
  ·have z:∃ o,s.heap.get? p=some o/\o.ExactDict:=by
    rcases hk with ⟨kvs,hk⟩|⟨kvs,hk⟩
    ·obtain ⟨_,_,_,_,o,_,_,e,ex,_⟩:=I.hok p _ hk;exact ⟨o,e,ex⟩
    ·obtain ⟨_,_,_,_,o,_,_,e,ex,_⟩:=I.hok p _ hk;exact ⟨o,e,ex⟩
   obtain ⟨o,e,ex⟩:=z;refine ⟨⟨o,e,ex.1⟩,fun a e2=>?_⟩;cases e2;exact ⟨o,e,ex.2.1⟩
  ·obtain ⟨o,_,_,_,e,ex,_⟩:=I.hok p _ hk;refine ⟨⟨o,e,ex.1⟩,fun a e2=>?_⟩;cases e2;exact ⟨o,e,ex.2.1⟩
 | _=>exact False.elim ty
noncomputable def Af5 (K:PySem.W.Frag) (T:String) (r:V->List V->Hp->VK->Prop) (to:TE):TE:=fun σ H Q=>to σ H fun x H1=>tyV K T x H1/\r x [] H1 Q
noncomputable def tBM (K:PySem.W.Frag) (T:String) (r:V->List V->Hp->VK->Prop) (to:TE) (t:TA):TE:=fun σ H Q=>to σ H fun x H1=>tyV K T x H1/\t σ H1 fun xs H2=>r x xs H2 Q
variable {o e:Expr}{es:List Expr}{to:TE}{t:TA}{name:Str}{apos cpos:Pos}{T id:String}{r:V->List V->Hp->VK->Prop}
theorem zM (pa:PlainAttrs T) (slot:Slot T name id) (hty:typeOf (.builtin id)=pure (.type "method_descriptor")) (hm:MtR X id r) (ho:PE X o to)
  (hbase:attributeBase o name X.env (eval o X.env)=eval o X.env:=by rfl) (hline:(apos.endLine==cpos.line)=true:=by rfl):PE X (.Call (.Attribute o name apos) [] [] cpos) (Af5 X.K T r to):=by
 intro pins s σ H Q I h;refine wpAny_Call_method0_late hbase hline (thn (ho pins s σ H _ I h) ?_);rintro v s1 ⟨x,H1,I1,r1,ty,q1⟩;obtain ⟨h1,h2⟩:=eO I1 r1 ty;exact ⟨T,id,pa,slot,hty,h1,h2,Calls.callWith_builtin rfl (PySem.evalArgs_none (hm pins s1 σ H1 x [] v [] Q I1 r1 .nil q1))⟩
theorem Aee (pa:PlainAttrs T) (slot:Slot T name id) (hty:typeOf (.builtin id)=pure (.type "method_descriptor")) (hm:MtR X id r) (ho:PE X o to) (ha:PA X (e::es) t)
  (hbase:attributeBase o name X.env (eval o X.env)=eval o X.env:=by rfl)
  (hfew:((backTo cpos (starEach (e::es) X.env)).all (fun x=>!x.1)&&(backToKw cpos (keywordEach [] X.env)).all (fun x=>x.1.isSome)
   && decide ((e::es).length+([]:List Keyword).length+(if ([]:List Keyword).isEmpty then 0 else 1) < 30))=true:=by rfl)
  (hline:(apos.endLine==cpos.line)=true:=by rfl) (hs:starEach (e::es) X.env=(false,eval e X.env)::starEach es X.env:=by rfl) (hplain:(backTo cpos (starEach es X.env)).any (·.1)=false:=by rfl) :
  PE X (.Call (.Attribute o name apos) (e::es) [] cpos) (tBM X.K T r to t):=by
 intro pins s σ H Q I h;refine wpAny_Call_method_late hbase hfew hline rfl (thn (ho pins s σ H _ I h) ?_);rintro v s1 ⟨x,H1,I1,r1,ty,q1⟩;obtain ⟨h1,h2⟩:=eO I1 r1 ty;refine ⟨T,id,pa,slot,hty,h1,h2,?_⟩;have hA:=ha cpos pins s1 σ H1 _ I1 q1;rw [hs] at hA ⊢;refine Calls.callWith_builtin (by show (false || (backTo cpos (starEach es X.env)).any (·.1))=false;rw [hplain] <;> rfl) (Calls.evalArgs_plain ?_);refine thn hA ?_;rintro us s2 ⟨vs,H2,I2,r2,q2⟩;exact hm pins s2 σ H2 x vs v us Q I2 r1 r2 q2
end
noncomputable def MtM (X:Cx) (id:String) (r:V->List V->Hp->VK->Prop):Prop :=
 ∀ (pins:List (Addr×Obj)) (s:Shared) (σ:St) (H:Hp) (x:V) (xs:List V) (v:Value) (us:List Value) (Q:VK),Inv X pins σ H s->RelV x v->Vals xs us->r x xs H Q ->
  wpAny (model X.prog X.w) X.A (call (.builtin id) (v::us)) (EP X pins σ Q) X.xe s
theorem Vals.one {x:V}{us:List Value}(h:Vals [x] us):∃ u,us=[u]/\RelV x u:=by
 cases h with
 | cons r t=>cases t;exact ⟨_,rfl,r⟩
theorem Vals.two {x y:V}{us:List Value}(h:Vals [x,y] us):∃ u v,us=[u,v]/\RelV x u/\RelV y v:=by
 cases h with
 | cons r t =>
  obtain ⟨v,e,q⟩:=Vals.one t;subst e;exact ⟨_,_,rfl,r,q⟩
theorem Vals.rep {xs:List V}{us:List Value}(h:Vals xs us):∀ k:Nat,Vals (List.replicate k xs).flatten (List.replicate k us).flatten
 | 0=>.nil
 | k+1=>by
  rw [List.replicate_succ,List.replicate_succ,List.flatten_cons,List.flatten_cons];exact Vals.append h (Vals.rep h k)
theorem foldl_rep (its:List Value):∀ (k:Nat) (acc:List Value),
  List.foldl (fun x1 x2=>x1++x2) acc.toArray (List.replicate k its.toArray)=(acc++(List.replicate k its).flatten).toArray
 | 0,acc=>by simp
 | k+1,acc=>by
  have e:acc.toArray++its.toArray=(acc++its).toArray:=by simp
  have e2:(acc++its)++(List.replicate k its).flatten=acc++(List.replicate (k+1) its).flatten:=by
   rw [List.replicate_succ,List.flatten_cons,List.append_assoc]
  rw [← e2,← foldl_rep its k (acc++its),← e,List.replicate_succ,List.foldl_cons]
section
variable {X:Cx}{pins:List (Addr×Obj)}{σ:St}{H:Hp}{s:Shared}{l b:Addr}{xs ys zs:List V}
theorem Inv.lset {its its':List Value}{n:Nat}{f:Array Value->Array Value}{t':Nat}(I:Inv X pins σ H s) (hH:H l=some (.lst xs))
  (e:s.heap.get? l=some { cls:=.type "list",data:=.seq its.toArray n }) (hf:f its.toArray=its'.toArray) (hv:Vals ys its') (hz:ys.length<=sizeLine) :
  Inv X pins σ (upd H l (.lst ys)) { s with heap:=s.heap.update l (Obj.mapSeq f),toks:=t' }:=by
 have q:=PySem.IsL.update e f;rw [hf] at q;refine I.write (x:=l) (e:=l) (by rw [hH];exact trivial) (.inl rfl) (fun b' u hb hu=>(Heap.get?_update_other s.heap (Obj.mapSeq f) (Ne.symm hb)).trans hu) ⟨_,q⟩ ?_;exact ⟨hz,its',_,hv,q⟩
theorem Inv.lnew {its:List Value}{t':Nat}(I:Inv X pins σ H s) (hv:Vals ys its) (hz:ys.length<=sizeLine) :
  Inv X pins σ (upd H s.heap.objs.size (.lst ys)) { s with heap:=s.heap.push { cls:=.type "list",data:=.seq its.toArray },toks:=t' } :=
 I.laid (fun _ _ q=>Heap.get?_push_of_some _ q) (Nat.le_refl _) ⟨hz,its,0,hv,Heap.get?_push_size _ rfl⟩
theorem Inv.fresh (I:Inv X pins σ H s):H s.heap.objs.size=none:=I.hok.fresh (Nat.le_refl _)
theorem Inv.lstM (I:Inv X pins σ H s) (hH:H l=some (.lst xs)):xs.length<=sizeLine/\∃ (its:List Value) (n:Nat),Vals xs its/\xs.length=its.length/\s.heap.get? l=some { cls:=.type "list",data:=.seq its.toArray n }:=by
 obtain ⟨z,its,n,r,e⟩:=I.hok l _ hH;exact ⟨z,its,n,r,r.length,e⟩
theorem eU {n:Nat}(h:n<=sizeLine):Builtin.List.listTooLong n=false:=by
 unfold Builtin.List.listTooLong;exact decide_eq_false (by omega)
end
section
variable {X:Cx}
noncomputable def rF:V->List V->Hp->VK->Prop:=fun x vs H Q=>∃ l xs y,x=.ref l/\vs=[y]/\H l=some (.lst xs)/\xs.length < sizeLine/\Q .non (upd H l (.lst (xs++[y])))
theorem aU:MtM X "list.append" rF:=by
 intro pins s σ H x vs v us Q I rx rv h;obtain ⟨l,xs,y,rfl,rfl,hH,hz,q⟩:=h;cases rx;obtain ⟨u,rfl,ru⟩:=rv.one;obtain ⟨z,its,n,r,hl,e⟩:=I.lstM hH;refine call_meets F.slot_list_append ⟨_,e,rfl⟩ F.entry_list_append (F.args_list_append_2 _ _) (PySem.list_append l its.toArray n u (by rw [List.size_toArray];omega)) ⟨e,?_⟩;refine ⟨.non,_,I.lset (its':=its++[u]) hH e (by simp) (r.append (.cons ru .nil)) ?_,rfl,q⟩;rw [List.length_append,List.length_singleton];omega
noncomputable def Af6:R2:=fun x y H Q=>∃ l b xs zs,x=.ref l/\y=.ref b/\H l=some (.lst xs)/\H b=some (.lst zs)/\xs.length+zs.length<=sizeLine/\∀ p,H p=none->Q (.ref p) (upd H p (.lst (xs++zs)))
theorem zN:OpR X (binaryOp .Add) Af6:=by
 intro pins s σ H x y v u Q I rx ry h;obtain ⟨l,b,xs,zs,rfl,rfl,hH,hB,hz,q⟩:=h;cases rx;cases ry;obtain ⟨z,its,n,r,hl,e⟩:=I.lstM hH;obtain ⟨z2,its2,n2,r2,hl2,e2⟩:=I.lstM hB;refine PySem.P.add_list e e2 ?_ (by rw [List.size_toArray,List.size_toArray];omega);have ea:its.toArray++its2.toArray=(its++its2).toArray:=by simp
 rw [ea];exact ⟨.ref _,_,I.lnew (t':=s.toks) (r.append r2) (by rw [List.length_append];omega),rfl,q _ I.fresh⟩
noncomputable def Af7:R2:=fun x y H Q=>∃ l k xs,x=.ref l/\y=.int k/\H l=some (.lst xs)/\-(2 ^ 63)<=k/\k < 2 ^ 63/\xs.length * k.toNat<=sizeLine /\
 ∀ p,H p=none->Q (.ref p) (upd H p (.lst (List.replicate k.toNat xs).flatten))
theorem len_rep {α:Type}(xs:List α) (k:Nat):(List.replicate k xs).flatten.length=k * xs.length:=by
 induction k with
 | zero=>simp
 | succ k ih=>rw [List.replicate_succ,List.flatten_cons,List.length_append,ih,Nat.succ_mul,Nat.add_comm]
theorem zO:OpR X (binaryOp .Mult) Af7:=by
 intro pins s σ H x y v u Q I rx ry h;obtain ⟨l,k,xs,rfl,rfl,hH,h1,h2,hz,q⟩:=h;cases rx;obtain ⟨t,rfl⟩:=ry;obtain ⟨z,its,n,r,hl,e⟩:=I.lstM hH;have hlen:its.toArray.size * k.toNat<=sizeLine:=by rw [List.size_toArray,← hl];exact hz
 have hcap:¬ its.toArray.size * k.toNat > (2 ^ 63 - 1) / 8:=by
  have:(sizeLine:Nat)<=(2 ^ 63 - 1) / 8:=by decide
  omega
 have hfit:¬ (!Builtin.List.listFitsIndex k)=true:=by
  rw [fitsIndex_both h1 h2];exact Bool.false_ne_true
 have hlong:¬ Builtin.List.listTooLong (its.toArray.size * k.toNat)=true:=by
  rw [eU hlen];exact Bool.false_ne_true
 have hnew:List.foldl (fun x1 x2=>x1++x2) #[] (List.replicate (if its.toArray.isEmpty=true then 0 else k.toNat) its.toArray)=(List.replicate k.toNat its).flatten.toArray:=by
  have f0:∀ m:Nat,List.foldl (fun x1 x2=>x1++x2) #[] (List.replicate m its.toArray)=(List.replicate m its).flatten.toArray:=fun m=>by
   have:=foldl_rep its m [];rw [List.nil_append] at this;exact this
  rw [f0];cases its with
  | nil=>simp
  | cons a r'=>rw [if_neg (by simp)]
 refine wpAny_binaryOp_repeat_ref (T := "list") (U := "int") (by decide) ⟨_,e,rfl⟩ (fun s'=>typeIs_int s' k t) noFill_list_mul F.fills_int_mul F.slot_int_rmul repeat_list F.slot_int_index.lookup
  (call_meets F.slot_int_rmul (typeIs_int s k t) F.entry_int_rmul (F.args_int_rmul_2 _ _) (int___rmul___int_list k t l its.toArray n)
   ⟨e,rfl,⟨_,e,rfl⟩,call_meets F.slot_list_mul ⟨_,e,rfl⟩ F.entry_list_mul (F.args_list_mul_2 _ _) (AutoListH.list___mul___list_int_3 l its.toArray n k t hfit hcap hlong) ⟨e,?_⟩⟩)
 rw [hnew];exact ⟨.ref _,_,I.lnew (t':=s.toks) (r.rep k.toNat) (by rw [len_rep,Nat.mul_comm];exact hz),rfl,q _ I.fresh⟩
end
section
variable {prog:Program}{w:World}{A:Around}{E:Value->Shared->Prop}{s:Shared}
end
section
variable {X:Cx}
end
end L2
namespace Att
open PySem PySem.W PySem.Calls PyProof.Rows
theorem Np {P:Params}{h:Heap}:∀ (ns:List Int) (vs:List Value),WellAll P h vs (ns.map WData.int)->IntsAre vs ns:=by
 intro ns
 induction ns with
 | nil =>
  intro vs w;rw [List.map_nil] at w;cases w;exact .nil
 | cons n ns ih =>
  intro vs w;rw [List.map_cons] at w;cases w with
  | cons a b =>
   cases a;exact .cons _ _ (ih _ b)
theorem aV {l:OpenLaw}{n:Nat}(hn:l.most=some n) {P:Params}{h:Heap}{args:List WData}{vals:List Value}
  (hpre:l.row.toRowW.claim.pre args=true) (hwl:WellAll P h vals args) :
  ∃ a vs ns,vals=[Value.ref a]/\args=[WData.list (ns.map WData.int)]/\h.get? a=some { cls:=.type "list",data:=.seq vs.toArray }/\IntsAre vs ns/\ns.length<=n:=by
 have hsh:WShape.hasAll [] args [.list .int]=true:=(pre_splitW hpre).1;have hc:l.pre.holds [] { args:=args }=true:=(pre_splitW hpre).2;obtain ⟨d,r,rfl,h1,h2⟩:=hasAllW_cons hsh;obtain rfl:=hasAllW_nil h2;obtain ⟨xs,rfl,h3⟩:=hasW_list h1;obtain ⟨ns,rfl⟩:=items_int h3;have hlen:ns.length<=n:=by
  unfold OpenLaw.pre at hc;have h4:(WTm.not (.lt (.lit (.int (n:Int))) (.len (.arg 0)))).holds [] { args:=[.list (ns.map .int)] }=true:=by
   have h4:=(holds_andW hc).1;rw [hn] at h4;exact h4
  have h5:=condW_of h4 (w_not (w_lt w_lit (w_len_list (w_arg rfl))));rw [List.length_map] at h5;refine Nat.le_of_not_lt fun q=>?_
  have q':(n:Int) < ((ns.length:Nat):Int):=by omega
  first
   | (rw [decide_eq_true q'] at h5;exact absurd h5 (by decide))
   | (simp at h5;omega)
 cases hwl with
 | cons w1 w2 =>
  cases w2;cases w1 with
  | list ho hall=>exact ⟨_,_,ns,rfl,rfl,ho,Np ns _ hall,hlen⟩
theorem aW (l:OpenLaw) (args:List WData):l.row.toRowW.claim.post args (.bool true) args=true :=
 postW_of (r:=l.row.toRowW) (X:=(true==true))
  (show WShape.has [] (.bool true) .bool=true by first | rfl | decide | simp [WShape.has,WShape.arms,WShape.armsAll])
  (show (WTm.eq .res (.lit (.bool true))).value [] { args:=args,res:=some (.bool true),after:=args }=some (.bool (true==true)) from w_eq_bool (w_res rfl) w_lit) rfl
theorem attach_call {l:OpenLaw}{n:Nat}{q:Program}{loose:List Str}{XP:(Str->Option Value)->Heap->Prop}{YP:World->Heap->Prop}{d:DefRec}
  (hn:l.most=some n) (hdf:d.params.defaults=[])
  (call:∀ (w:World) (s₀ s₁:Shared) (mg mb:Str->Option Value) (fa:Addr) (o:Obj) (pm cd doc:Value) (a:Addr) (vs:List Value) (ns:List Int),
   Ground q loose [] XP w s₀ mg mb s₁.heap->YP w s₁.heap ->
   s₁.heap.get? fa=some o->o.data=.func (docDef d.name d.params d.body d.scope pm cd doc)->s₁.heap.CodeRec cd d.name->mg d.name=some (.ref fa) ->
   s₁.heap.get? a=some { cls:=.type "list",data:=.seq vs.toArray }->IntsAre vs ns->ns.length<=n->s₁.gens=#[] ->
   codeAny (model l.prog w) callerA (.call (.ref fa) ⟨[.ref a],[]⟩) (fun r s'=>r=.ok (.ret (.bool true))/\OldK s₁.heap s'.heap/\s'.os=s₁.os/\AllBare s'.gens) s₁) :
  WalkO q loose XP YP l.row.toRowW d [] (fun f vs=>PySem.call f vs):=by
 intro w s₀ s₁ mg mb G Y fa o pm cd doc dV kV ho hd hcd hD hmg hg args vals as hpre hlay hrd hwl hlo;obtain rfl:dV=.none:=Dflts.none hD hdf;obtain rfl:kV=.none:=Dflts.noKw hD;obtain ⟨a,vs,ns,rfl,rfl,hobj,hints,hlen⟩:=aV hn hpre hwl;refine enter_call (codeAny_mono (call w s₀ s₁ mg mb fa o pm cd doc a vs ns G Y ho (fd_plain hd) hcd hmg hobj hints hlen hg) fun r s' hq=>?_);obtain ⟨rfl,h2,h3,h4⟩:=hq;exact ⟨.inl ⟨.bool true,.bool true,[],rfl,fun _=>rfl,.bool true,aW l _,fun _=>⟨List.Pairwise.nil,fun _ hm=>(nomatch hm)⟩⟩,h2,h3,h4⟩
section
variable {prog:Program}{w:World}{A:Around}{E:Value->Shared->Prop}{s:Shared}{K:Frag}
end
end Att
namespace L2
open PySem PySem.Spec PyProof.Rows
theorem Q0:∀ {vs:List Value}{ns:List Int},IntsAre vs ns->Vals (ns.map V.int) vs
 | _,_,.nil=>.nil
 | _,_,.cons n t h=>.cons ⟨t,rfl⟩ (Q0 h)
noncomputable def Dh (s:Stmt):Arguments:=match s with
 | .FunctionDef _ a _ _ _ _ _ _ _ _=>a
 | _=>{ posonlyargs:=[],args:=[],vararg:=none,kwonlyargs:=[],kw_defaults:=[],kwarg:=none,defaults:=[] }
noncomputable def Bu (s:Stmt):List Stmt:=match s with
 | .FunctionDef _ _ b _ _ _ _ _ _ _=>b
 | _=>[]
noncomputable def Ai (s:Stmt):Scope:=match s with
 | .FunctionDef _ _ _ _ _ _ sc _ _ _=>sc
 | _=>{ kind:=.function,names:=[],isGenerator:=false,isCoroutine:=false }
noncomputable abbrev CX0:CXT:=fun _ _ _ _ _ _=>False
noncomputable abbrev E0:XK:=fun _ _ _=>False
theorem Oo {X:Cx}:Cp CX0 X E0:=fun _ _ _ _ _ _ _ h=>h.elim
structure Fun (K:PySem.W.Frag) (x qual:Str) (st:Stmt) (f:Addr) (fd:FuncData):Prop where
 ex:∃ (oc:Value) (od:Option Addr) (kV doc pm:Value) (an:Option Addr) (cdv ct:Value) (osl:Array (Option Value)),
  fd=PySem.W.fnOf x qual (Dh st) (Bu st) (Ai st) .none kV doc pm an cdv ct/\K.lookup f=some ⟨oc,od,.func fd,osl⟩/\PySem.W.codeIn K cdv qual=true
 kp:PySem.W.keepIn K (.ref f)=true
section
variable {P:Program}{w:World}{K:PySem.W.Frag}{mg:Str->Option Value}{base:Heap}
theorem Fun.ok {x qual:Str}{st:Stmt}{f:Addr}{fd:FuncData}{N ps:List Str}{k:Nat}{sp:Sp}(F:Fun K x qual st f fd) (S:FnScope N ps (Ai st)) (len:∀ vs H Q E,sp vs H Q E->vs.length=ps.length)
  (hbody:∀ (cdv:Value) (A:Around) (outer:List Env) (s:Shared) (H:Hp) (vs:List V) (Q:VK) (E:XK),Room k (A.deeper (envOfC qual (Ai st) s.heap.objs.size f cdv))->sp vs H Q E ->
   ∃ t,PSs (Jt CX0 P w K mg base N qual (Ai st) f cdv A outer s H E).nox (Bu st) t/\t { nx:=fun _ H'=>Q .non H',rt:=Q } (start N vs) H):FnOk P w K mg base CX0 (k+1) f fd ps sp:=by
 obtain ⟨oc,od,kV,doc,pm,an,cdv,ct,osl,rfl,lk,hcd⟩:=F.ex;refine wA lk hcd S len fun A outer s H vs Q E hr hsp=>?_
 obtain ⟨t,h,q⟩:=hbody cdv A outer s H vs Q E hr hsp;exact ⟨t,h.nox,q⟩
theorem Wj {x qual:Str}{st:Stmt}{f:Addr}{oc:Value}{od an:Option Addr}{osl:Array (Option Value)}{kV doc pm cdv ct:Value}(l:K.lookup f=some ⟨oc,od,.func (PySem.W.fnOf x qual (Dh st) (Bu st) (Ai st) .none kV doc pm an cdv ct),osl⟩)
  (c:PySem.W.codeIn K cdv qual=true) (k:PySem.W.keepIn K (.ref f)=true):Fun K x qual st f (PySem.W.fnOf x qual (Dh st) (Bu st) (Ai st) .none kV doc pm an cdv ct):=⟨⟨oc,od,kV,doc,pm,an,cdv,ct,osl,rfl,l,c⟩,k⟩
end
section
variable {X:Cx}
end
theorem R7 {A B:Prop}(h:B):if false=true then A else B:=by
 rw [if_neg Bool.false_ne_true];exact h
theorem R8 {A B:Prop}(h:A):if true=true then A else B:=by
 rw [if_pos rfl];exact h
section
variable {κ:Type} [DecidableEq κ]
end
section
variable {P:Program}{w:World}{H:Hp}{h:Heap}{a:Addr}
end
section
variable {X:Cx}{pins:List (Addr×Obj)}{σ:St}{H:Hp}{s:Shared}{a:Addr}{y v:V}{u r:Value}{o:Option V}{A:Around}{E:Value->Shared->Prop}
end
section
variable {X:Cx}{pins:List (Addr×Obj)}{σ:St}{H:Hp}{s:Shared}{a:Addr}{kvs:List (Key×V)}{k:Key}{u:Value}{A:Around}{E:Value->Shared->Prop}
end
section
variable {X:Cx}{o i e value:Expr}{pos pos' tpos:Pos}{td ty tv:TE}
end
section
variable {X:Cx}{pos:Pos}
end
section
variable {X:Cx}{pins:List (Addr×Obj)}{σ:St}{H:Hp}{s:Shared}{a:Addr}{y d:V}{u r:Value}{o:Option V}{A:Around}{E:Value->Shared->Prop}
end
section
variable {X:Cx}{o e f:Expr}{apos cpos:Pos}{td ty tx:TE}
end
section
variable {X:Cx}{pins:List (Addr×Obj)}{σ:St}{H:Hp}{s:Shared}{a:Addr}{kvs:List (Key×V)}{A:Around}{E:Value->Shared->Prop}
end
section
variable {X:Cx}{pins:List (Addr×Obj)}{σ:St}{H:Hp}{s:Shared}{a:Addr}{y:V}{u:Value}{A:Around}{E:Value->Shared->Prop}
end
theorem Oq {α β:Type}(g:α->β->β):∀ (l:List α) (f:α->β->Sem (ForInStep β)) (c:β),(∀ x∈l,∀ c,f x c=pure (.yield (g x c)))->forIn l c f=pure (l.foldl (fun c x=>g x c) c)
 | [],f,c,_=>by rw [List.forIn_nil];rfl
 | x::r,f,c,h=>by
  rw [List.forIn_cons,h x List.mem_cons_self];show (forIn r (g x c) f)=_;rw [Oq g r f (g x c) fun y hy=>h y (List.mem_cons_of_mem _ hy)];rfl
noncomputable def Hu (env:Env) (x:Str×NameKind) (cs:List (Str×Addr)):List (Str×Addr):=if x.2==.free then (x.1,(env.cells.lookup x.1).getD 0)::cs else cs
noncomputable def Dd (env:Env) (names:List (Str×NameKind)):List (Str×Addr):=names.foldl (fun c x=>Hu env x c) []
theorem Gd {scope:Scope}{env:Env}(h:∀ x∈scope.names,x.2=.free->∃ c,env.cells.lookup x.1=some c):closureFor scope env=pure (Dd env scope.names):=by
 unfold closureFor Dd;dsimp only;rw [Oq (Hu env)]
 ·rfl
 ·intro x hx c;obtain ⟨n,k⟩:=x;dsimp only;unfold Hu
  by_cases e:(k==NameKind.free)=true
  ·obtain ⟨a,ha⟩:=h _ hx (beq_iff_eq.mp e);have ha':List.lookup n env.cells=some a:=ha;dsimp only;rw [if_pos e,if_pos e];unfold cellOf;rw [ha'];rfl
  ·dsimp only;rw [if_neg e,if_neg e]
theorem Gy {env:Env}:∀ (names:List (Str×NameKind)) (acc:List (Str×Addr)) (x:Str) (c:Addr),(x,c)∈names.foldl (fun c x=>Hu env x c) acc->(x,c)∈acc\/((x,NameKind.free)∈names/\c=(env.cells.lookup x).getD 0)
 | [],acc,x,c,h=>.inl h
 | (n,k)::r,acc,x,c,h=>by
  rcases Gy r _ x c h with q|⟨q1,q2⟩
  ·unfold Hu at q;dsimp only at q;split at q
   ·rename_i e;have e:=beq_iff_eq.mp e;rcases List.mem_cons.mp q with q|q
    ·cases q;exact .inr ⟨by rw [e];exact List.mem_cons_self,rfl⟩
    ·exact .inl q
   ·exact .inl q
  ·exact .inr ⟨List.mem_cons_of_mem _ q1,q2⟩
theorem Ot {env:Env}:∀ (names:List (Str×NameKind)) (acc:List (Str×Addr)) (x:Str),(acc.lookup x).isSome=true\/(x,NameKind.free)∈names->((names.foldl (fun c x=>Hu env x c) acc).lookup x).isSome=true
 | [],acc,x,h=>by
  rcases h with h|h
  ·exact h
  ·exact absurd h (by simp)
 | (n,k)::r,acc,x,h=>by
  refine Ot r _ x ?_;unfold Hu;rcases h with h|h
  ·left;dsimp only;split
   ·rw [List.lookup_cons];split
    ·rfl
    ·exact h
   ·exact h
  ·rcases List.mem_cons.mp h with h|h
   ·cases h;left;dsimp only;rw [if_pos (by rfl),List.lookup_cons];simp
   ·exact .inr h
theorem R9 {env:Env}{names:List (Str×NameKind)}{x:Str}{c:Addr}(h:(Dd env names).lookup x=some c):(x,NameKind.free)∈names/\c=(env.cells.lookup x).getD 0:=by
 rcases Gy names [] x c (PySem.mem_of_lookup h) with q|q
 ·exact absurd q (by simp)
 ·exact q
theorem Lh {env:Env}{names:List (Str×NameKind)}{x:Str}(h:(x,NameKind.free)∈names):(Dd env names).lookup x=some ((env.cells.lookup x).getD 0):=by
 obtain ⟨c,e⟩:=Option.isSome_iff_exists.mp (Ot (env:=env) names [] x (.inr h));rw [show Dd env names=names.foldl (fun c x=>Hu env x c) [] from rfl,e,(R9 e).2]
theorem El:∀ (names:List (Str×NameKind)) (n:Nat) (acc:List (Str×Addr)) (x:Str) (c:Addr),(x,c)∈cellsFrom n names acc->(x,c)∈acc\/(n<=c/\(x,NameKind.cell)∈names)
 | [],_,_,_,_,h=>.inl h
 | (y,k)::r,n,acc,x,c,h=>by
  unfold cellsFrom at h;split at h
  ·rename_i e;have e:=beq_iff_eq.mp e;rcases El r (n+1) _ x c h with q|⟨q1,q2⟩
   ·rcases List.mem_cons.mp q with q|q
    ·cases q;exact .inr ⟨Nat.le_refl _,by rw [e];exact List.mem_cons_self⟩
    ·exact .inl q
   ·exact .inr ⟨by omega,List.mem_cons_of_mem _ q2⟩
  ·rcases El r n acc x c h with q|⟨q1,q2⟩
   ·exact .inl q
   ·exact .inr ⟨q1,List.mem_cons_of_mem _ q2⟩
theorem Em:∀ (names:List (Str×NameKind)) (n lo:Nat) (acc:List (Str×Addr)) (x:Str) (c:Addr),lo<=n->((x,NameKind.cell)∈names\/∀ c',acc.lookup x=some c'->lo<=c')->(cellsFrom n names acc).lookup x=some c->lo<=c
 | [],_,_,acc,x,c,_,h,e=>by
  rcases h with h|h
  ·exact absurd h (by simp)
  ·exact h c e
 | (y,k)::r,n,lo,acc,x,c,hl,h,e=>by
  unfold cellsFrom at e;split at e
  ·rename_i ek;refine Em r (n+1) lo _ x c (by omega) ?_ e;rcases h with h|h
   ·rcases List.mem_cons.mp h with h|h
    ·cases h;right;intro c' hc;rw [List.lookup_cons] at hc;rw [beq_self_eq_true] at hc;cases hc;exact hl
    ·exact .inl h
   ·right;intro c' hc;rw [List.lookup_cons] at hc;split at hc
    ·cases hc;omega
    ·exact h c' hc
  ·rename_i ek;refine Em r n lo acc x c hl ?_ e;rcases h with h|h
   ·rcases List.mem_cons.mp h with h|h
    ·cases h;exact absurd rfl ek
    ·exact .inl h
   ·exact .inr h
theorem Ge:∀ (names:List (Str×NameKind)) (n:Nat) (acc:List (Str×Addr)),(∀ x y c,(x,c)∈acc->(y,c)∈acc->x=y)->(∀ x c,(x,c)∈acc->c < n) ->
  ∀ x y c,(x,c)∈cellsFrom n names acc->(y,c)∈cellsFrom n names acc->x=y
 | [],_,_,h,_=>h
 | (z,k)::r,n,acc,h,hb=>by
  unfold cellsFrom;split
  ·refine Ge r (n+1) _ (fun x y c hx hy=>?_) fun x c hx=>?_
   ·rcases List.mem_cons.mp hx with hx | hx <;> rcases List.mem_cons.mp hy with hy|hy
    ·cases hx;cases hy;rfl
    ·cases hx;exact absurd (hb _ _ hy) (Nat.lt_irrefl _)
    ·cases hy;exact absurd (hb _ _ hx) (Nat.lt_irrefl _)
    ·exact h x y c hx hy
   ·rcases List.mem_cons.mp hx with hx|hx
    ·cases hx;exact Nat.lt_succ_self _
    ·exact Nat.lt_succ_of_lt (hb x c hx)
  ·exact Ge r n acc h hb
theorem Fg:∀ (names:List (Str×NameKind)) (h:Heap) (acc:List (Str×Addr)) (x:Str) (c:Addr),(∀ x c,(x,c)∈acc->∃ v,h.IsCell c v)->(x,c)∈cellsFrom h.objs.size names acc->∃ v,(pushCells h names).IsCell c v
 | [],h,acc,x,c,hb,e=>hb x c e
 | (y,k)::r,h,acc,x,c,hb,e=>by
  unfold cellsFrom at e;unfold pushCells;split at e
  ·rename_i ek;rw [if_pos ek];refine Fg r _ ((y,h.objs.size)::acc) x c (fun x c hx=>?_) (by rw [Heap.size_push];exact e);rcases List.mem_cons.mp hx with hx|hx
   ·cases hx;exact ⟨none,_,Heap.get?_push_size _ rfl,rfl⟩
   ·obtain ⟨v,q⟩:=hb x c hx;exact ⟨v,q.keeps fun b o e=>Heap.get?_push_of_some _ e⟩
  ·rename_i ek;rw [if_neg ek];exact Fg r h acc x c hb e
theorem Fi:∀ (names:List (Str×NameKind)) (h:Heap),h.objs.size<=(pushCells h names).objs.size
 | [],h=>Nat.le_refl _
 | (y,k)::r,h=>by
  unfold pushCells;split
  ·refine Nat.le_trans ?_ (Fi r _);rw [Heap.size_push];omega
  ·exact Fi r h
theorem Ui {M:Model}{A:Around}{E:Value->Shared->Prop}{s:Shared}{scope:Scope}{globals:Addr}{cl:List (Str×Addr)}{qual:Str}{env:Env}{Q:Env->Shared->Prop}
  (hQ:Q (newEnv scope s.heap.objs.size globals (cellsFrom (s.heap.objs.size+1) scope.names cl) qual none .none (some env) builtinsNs) { s with heap:=pushCells (s.heap.push { cls:=.type "dict",data:=.dict #[] }) scope.names }) :
  wpAny M A (newFunctionEnv scope globals cl [] qual none .none (some env)) Q E s:=by
 simp only [newFunctionEnv,Option.isSome_some,if_true];refine wpAny_bind (wpAny_alloc ?_);refine wpAny_bind (wpAny_layCells _ (fun name kind cells=>by cases hkc:kind==NameKind.cell <;> simp [hkc]) _ _ _ _ ?_)
 rw [show ({ s with heap:=s.heap.push { cls:=.type "dict",data:=.dict #[] } }:Shared).heap.objs.size=s.heap.objs.size+1 from Heap.size_push ..];rw [List.forIn_nil];exact wpAny_bind (wpAny_pure (wpAny_pure hQ))
theorem Cq {α:Type}:∀ {l:List (Str×α)}{n:Str}{c:α},(l.map (·.1)).Nodup->(n,c)∈l->l.lookup n=some c
 | [],_,_,_,h=>absurd h (by simp)
 | (k,v)::r,n,c,nd,h=>by
  rw [List.map_cons,List.nodup_cons] at nd;rw [List.lookup_cons];rcases List.mem_cons.mp h with q|q
  ·cases q;rw [beq_self_eq_true]
  ·have:(n==k)=false:=by
    rw [beq_eq_false_iff_ne];intro e;subst e;exact nd.1 (List.mem_map.mpr ⟨(n,c),q,rfl⟩)
   rw [this];exact Cq nd.2 q
theorem Fj {env:Env}(scope:Scope) (x:Str):(relabel scope env).names.lookup x=(scope.names.lookup x).map fun k=>if (k==.free&&env.scope.kind==.function&&env.kindOf x==some .cell) then .cell else k:=by
 show (scope.names.map _).lookup x=_
 induction scope.names with
 | nil=>rfl
 | cons a r ih =>
  obtain ⟨n,k⟩:=a;rw [List.map_cons];dsimp only;rw [List.lookup_cons (b:=k)]
  by_cases e:(x==n)=true
  ·rw [e];have e':=beq_iff_eq.mp e;subst e';dsimp only;split
   ·rename_i hc;rw [List.lookup_cons,e];simp only [Option.map_some,hc,if_true]
   ·rename_i hc;rw [List.lookup_cons,e];rw [Option.map_some,if_neg hc]
  ·have e2:(x==n)=false:=by simpa using e
   rw [e2];dsimp only;split
   ·rw [List.lookup_cons,e2];exact ih
   ·rw [List.lookup_cons,e2];exact ih
structure CompOk (X:Cx) (scope:Scope):Prop where
 kind:scope.kind=.function
 nd:(scope.names.map (·.1)).Nodup
 fr:∀ x∈scope.names,x.2=.free->X.env.kindOf x.1=some .cell\/X.env.kindOf x.1=some .free
noncomputable def Cv (X:Cx) (pins:List (Addr×Obj)) (N':List Str) (scope:Scope) (C:Addr) (cells:List (Str×Addr)) (s₀:Shared) (H₀:Hp) (fp:List Addr):Cx where
 prog:=X.prog
 w:=X.w
 K:=X.K
 mg:=X.mg
 base:=X.base
 A:=X.A
 N:=N'
 s₀:=s₀
 H₀:=H₀
 env:={ scope:=relabel scope X.env,locals:=C,globals:=X.env.globals,cells:=cells,qual:=X.env.qual,func:=none,code:=X.env.code,frame:=X.env.frame,builtins:=X.env.builtins }
 outer:=X.stack
 stack:=X.stack
 ex:=fp
 fn:=fun x=>decide ((x,NameKind.cell)∈scope.names)
 calm:=X.calm
 pn:=X.pn++pins
 xe:=fun _ _=>False
noncomputable def Cap (X:Cx) (N':List Str) (scope:Scope) (σ σ0:St):Prop:=σ0.length=N'.length/\∀ (i:Nat) (x:Str) (v:V),N'[i]?=some x->σ0[i]?=some (some v) ->
 scope.names.lookup x=some .free/\∃ j:Nat,X.N[j]?=some x/\σ[j]?=some (some v)
noncomputable abbrev Bj (its:List Value) (n:Nat):Obj:={ cls:=.type "list",data:=.seq its.toArray n }
section
variable {X:Cx}{pins:List (Addr×Obj)}{σ:St}{H:Hp}{s:Shared}
theorem Wk {N':List Str}{scope:Scope}{fp:List Addr}{σ0:St}(I:Inv X pins σ H s) (S:CompOk X scope) (hf:∀ b∈fp,Kl X pins H b) (hb:∀ b∈fp,∃ o,s.heap.get? b=some o) (hσ:Cap X N' scope σ σ0) :
    Inv (Cv X pins N' scope (s.heap.objs.size+1) (cellsFrom (s.heap.objs.size+1+1) scope.names (Dd X.env scope.names)) s H fp) [(s.heap.objs.size,Bj [] 0)] σ0 H
      { s with heap:=pushCells ((s.heap.push (Bj [] 0)).push { cls:=.type "dict",data:=.dict #[] }) scope.names }:=by
  have sz1:(s.heap.push (Bj [] 0)).objs.size=s.heap.objs.size+1:=Heap.size_push ..
  have sz2:((s.heap.push (Bj [] 0)).push { cls:=.type "dict",data:=.dict #[] }).objs.size=s.heap.objs.size+1+1:=by rw [Heap.size_push,sz1]
  have keep:∀ b o,s.heap.get? b=some o->(pushCells ((s.heap.push (Bj [] 0)).push { cls:=.type "dict",data:=.dict #[] }) scope.names).get? b=some o:=fun b o e=>pushCells_keeps _ _ b o (Heap.get?_push_of_some _ (Heap.get?_push_of_some _ e))
  have capt:∀ x c,(x,c)∈Dd X.env scope.names->X.env.cells.lookup x=some c:=fun x c h=>by
    rcases Gy scope.names [] x c h with q|⟨q1,q2⟩
    · exact absurd q (by simp)
    · obtain ⟨c',e⟩:=I.ok.has x (S.fr _ q1 rfl);rw [e] at q2;rw [e,q2];rfl
  have cells:∀ x c,(cellsFrom (s.heap.objs.size+1+1) scope.names (Dd X.env scope.names)).lookup x=some c->X.env.cells.lookup x=some c\/s.heap.objs.size+1+1<=c:=fun x c h=>by
    rcases El _ _ _ x c (PySem.mem_of_lookup h) with q|⟨q,_⟩
    · exact .inl (capt x c q)
    · exact .inr q
  have stk:∀ b∈frs X.stack,b < s.heap.objs.size:=fun b hb=>by
    rcases Nat.lt_or_ge b s.heap.objs.size with z|z
    · exact z
    · rcases List.mem_cons.mp (I.stkSub b hb) with q|q
      · rw [q];exact I.lt
      · exact absurd q (I.nofs z)
  have fpb:∀ b∈fp,b < s.heap.objs.size:=fun b h=>let ⟨o,e⟩:=hb b h;Heap.lt_size e
  refine ⟨⟨I.ok.mod,S.kind,I.ok.glob,I.ok.blt,Nat.le_succ _,fun x y c h1 h2=>?_,fun x hx=>?_,fun x c hx h=>?_,I.ok.hd,I.ok.frames,.inl rfl,fun b hb=>⟨?_,fun x c h=>?_⟩,I.bs,Nat.le_trans I.ok.bsz I.sz,fun b o h z=>?_,fun b hb z=>?_,I.stack,I.stkFree⟩,
    rfl,I.bare,Un.kept keep,⟨fun _=>none,?_,fun i x v h1 h2 h3=>?_⟩,fun x c h=>?_,I.hok.fresh (Nat.le_succ _),fun x c h=>?_,fun p hp=>?_,I.hok.kept keep,hσ.1⟩
  · refine Ge scope.names (s.heap.objs.size+1+1) (Dd X.env scope.names) (fun x y c h1 h2=>I.ok.inj x y c (capt x c h1) (capt y c h2)) (fun x c h=>?_) x y c (PySem.mem_of_lookup h1) (PySem.mem_of_lookup h2);obtain ⟨v,q⟩:=I.cell x c (capt x c h);exact Nat.lt_succ_of_lt (Nat.lt_succ_of_lt q.lt)
  · have hx:(relabel scope X.env).names.lookup x=some .cell\/(relabel scope X.env).names.lookup x=some .free:=hx;rw [Fj] at hx;refine Option.isSome_iff_exists.mp (PySem.W.cellsFrom_some scope.names _ _ ?_);cases e:scope.names.lookup x with
    | none=>rw [e] at hx;rcases hx with h | h <;> cases h
    | some k =>
      cases k with
      | cell=>exact .inl rfl
      | free=>right;rw [Lh (PySem.mem_of_lookup e)];rfl
      | «local»=>rw [e] at hx;rcases hx with h | h <;> cases h
      | globalExplicit=>rw [e] at hx;rcases hx with h | h <;> cases h
      | globalImplicit=>rw [e] at hx;rcases hx with h | h <;> cases h
  · exact Nat.le_trans (Nat.le_succ_of_le (Nat.le_succ _)) (Em scope.names _ (s.heap.objs.size+1+1) _ x c (Nat.le_refl _) (.inl (of_decide_eq_true hx)) h)
  · exact Nat.ne_of_lt (Nat.lt_succ_of_lt (fpb b hb))
  · rcases cells x c h with q|q
    · exact (hf b hb).2.2.2.2.1 x c q
    · exact Nat.ne_of_gt (Nat.lt_of_lt_of_le (fpb b hb) (by omega))
  · rcases (hf b z).2.2.2.1 with q|q
    · exact I.ok.noex b o h q
    · exact absurd (Nat.lt_of_lt_of_le (Heap.lt_size h) (Nat.le_trans I.ok.bsz q)) (Nat.lt_irrefl _)
  · rcases List.mem_cons.mp (I.stkSub b z) with q|q
    · exact (hf b hb).2.1 q
    · exact (hf b hb).2.2.1 q
  · show (pushCells _ _).Ns (s.heap.objs.size+1) _
    have n:=(Heap.Ns.new (s.heap.push (Bj [] 0)) (.type "dict")).keeps (pushCells_keeps scope.names _);rw [sz1] at n;exact n
  · obtain ⟨e1,j,e2,e3⟩:=hσ.2 i x v h1 h2;obtain ⟨m,hn,hl⟩:=I.loc;have fr:=S.fr _ (PySem.mem_of_lookup e1) rfl;have vis:Vis X.env.scope x:=by
      rcases fr with q|q
      · exact .inr (.inl q)
      · exact .inr (.inr q)
    obtain ⟨u,r,l⟩:=hl j x v e2 e3 vis;refine ⟨u,r,.inr ⟨?_,?_⟩⟩
    · show (relabel scope X.env).names.lookup x=some .cell\/(relabel scope X.env).names.lookup x=some .free;rw [Fj,e1];simp only [Option.map_some];split
      · exact .inl rfl
      · exact .inr rfl
    · rcases l with ⟨k,_⟩|⟨_,c,ec,hc⟩
      · rcases fr with q | q <;> · rw [k] at q;cases q
      · refine ⟨c,?_,hc.keeps keep⟩;obtain ⟨c2,e⟩:=Option.isSome_iff_exists.mp (PySem.W.cellsFrom_some (x:=x) scope.names (s.heap.objs.size+1+1) (Dd X.env scope.names) (.inr (by rw [Lh (PySem.mem_of_lookup e1)];rfl)));show (cellsFrom _ _ _).lookup x=some c;rw [e];rcases El _ _ _ x c2 (PySem.mem_of_lookup e) with q|⟨_,q⟩
        · rw [capt x c2 q] at ec;exact ec
        · rw [Cq S.nd q] at e1;cases e1
  · refine Fg scope.names ((s.heap.push (Bj [] 0)).push { cls:=.type "dict",data:=.dict #[] }) (Dd X.env scope.names) x c (fun x c h=>?_) ?_
    · obtain ⟨v,q⟩:=I.cell x c (capt x c h);exact ⟨v,q.keeps fun b o e=>Heap.get?_push_of_some _ (Heap.get?_push_of_some _ e)⟩
    · rw [sz2];exact PySem.mem_of_lookup h
  · rcases cells x c h with q|q
    · rcases I.freeC x c q with fc|⟨_,oz,uz,fz⟩
      · exact .inl fc
      · refine .inr ⟨Bool.eq_false_iff.mpr fun hx=>?_,oz,uz,fz⟩;have h1:=Em scope.names _ (s.heap.objs.size+1+1) _ x c (Nat.le_refl _) (.inl (of_decide_eq_true hx)) h;have h2:c < s.heap.objs.size:=Heap.lt_size (I.hok c _ fz).1;have h3:s.heap.objs.size+1+1<=c:=by first | exact h1 | (rw [← sz2];exact h1)
        exact absurd (Nat.lt_of_lt_of_le h2 (Nat.le_trans (Nat.le_succ_of_le (Nat.le_succ _)) h3)) (Nat.lt_irrefl _)
    · exact .inl (I.hok.fresh (by omega))
  · rcases List.mem_append.mp hp with hp|hp
    · obtain ⟨q1,q2,q3,q4,q5⟩:=I.pin p hp;have lt:=Heap.lt_size q1;refine ⟨keep _ _ q1,q2,Nat.ne_of_lt (Nat.lt_succ_of_lt lt),fun z=>?_,q5⟩;rcases List.mem_cons.mp (I.stkSub p.1 z) with r|r
      · exact q3 r
      · exact q4 r
    · have e:p=(s.heap.objs.size,Bj [] 0):=by simpa using hp
      subst e;refine ⟨pushCells_keeps _ _ _ _ (Heap.get?_push_of_some _ (Heap.get?_push_size _ rfl)),I.hok.fresh (Nat.le_refl _),Nat.ne_of_lt (Nat.lt_succ_self _),fun z=>?_,fun v=>by intro z;cases z⟩;exact Nat.lt_irrefl _ (stk _ z)
theorem eV {N':List Str}{scope:Scope}{fp:List Addr}{σ':St}{C:Addr}{cells:List (Str×Addr)}{H':Hp}{s':Shared}{its:List Value}{n:Nat}{ys:List V}{pl:List (Addr×Obj)}(I:Inv X pins σ H s) (hf:∀ b∈fp,Kl X pins H b)
  (J:Inv (Cv X pins N' scope C cells s H fp) ((s.heap.objs.size,Bj its n)::pl) σ' H' s') (r:Vals ys its) (hz:ys.length<=sizeLine) :
  Inv X pins σ (upd H' s.heap.objs.size (.lst ys)) s':=by
 obtain ⟨p1,p2,p3,p4,p5⟩:=J.pin (s.heap.objs.size,Bj its n) (List.mem_append_right _ List.mem_cons_self);have hD:H' s.heap.objs.size=none:=p2;have ne:∀ b o,s.heap.get? b=some o->b≠s.heap.objs.size:=fun b o e=>Nat.ne_of_lt (Heap.lt_size e)
 have U:=J.base;refine I.call' (ch:=fp) J.os ⟨fun b o e h1 h2 h3=>U.keep b o e h1 h2 h3,fun b o e h1 h2 h3=>U.slot b o e h1 h2 h3,fun b o e h1 h2=>?_,U.there,fun b xs e=>?_,fun b o u e=>?_,fun b ps e=>?_⟩ ?_ J.bare fun b hb=>?_
 ·rw [Ah (ne b o e)];exact U.free b o e h1 h2
 ·have q:=U.tups b xs e;rw [Ah (Am q hD)];exact q
 ·have q:=U.frzs b o u e;rw [Ah (Am q hD)];exact q
 ·obtain ⟨m,q⟩:=U.tbls b ps e;exact ⟨m,by rw [Ah (Am q hD)];exact q⟩
 ·intro b u e
  by_cases hb:b=s.heap.objs.size
  ·subst hb;rw [Be] at e;cases e;exact ⟨hz,its,n,r,p1⟩
  ·rw [Ah hb] at e;exact (J.hok b u e).stay (fun _ _ _ q=>q) (fun c q=>by rw [Ah (Am q hD)];exact q) fun c xs q=>by rw [Ah (Am q hD)];exact q
 ·obtain ⟨q0,q1,q2,q3,q4,q5⟩:=hf b hb;exact ⟨q3,q1,q4,q5⟩
end
section
variable {prog:Program}{w:World}{A:Around}{E:Value->Shared->Prop}{R:Result->Shared->Prop}{s:Shared}
noncomputable abbrev Ys (ifs:List Expr) (env:Env):Sem Bool:=forIn ifs true fun c r=>if r=true then do let ok ← isTrue c env (eval c env);pure (ForInStep.yield ok) else pure (ForInStep.yield r)
theorem Sd {elt target iter:Expr}{ifs:List Expr}{scope:Scope}{pos:Pos}{it acc:Value}{env:Env}(I:Nat->Shared->Prop)
  (turn:∀ n s,I n s->wpAny (model prog w) A (pyNext it) (fun r s₁=>match r with
   | none=>R (.ok .next) s₁
   | some v=>wpAny (model prog w) A (letOwnedTupleGo target it v) (fun _ s'=>wpAny (model prog w) A (assign target env v) (fun _ s₂ =>
     wpAny (model prog w) A (Ys ifs env) (fun ok s₃ =>
      if ok=true then wpAny (model prog w) A (eval elt env) (fun x s₄ =>
       wpAny (model prog w) A (call (.builtin "list.append") [acc,x]) (fun _ s₅=>∃ m,m < n/\I m s₅) (fun _ _=>False) s₄) (fun _ _=>False) s₃
      else ∃ m,m < n/\I m s₃) (fun _ _=>False) s₂) (fun _ _=>False) s') (fun _ _=>False) s₁) (fun _ _=>False) s)
  (n:Nat) (h:I n s) :
  codeAny (model prog w) A (.compLoop (.ListComp elt [⟨target,iter,ifs,0⟩] scope pos) 0 it acc env) R s:=by
 refine codeAny_loop rfl I (fun n s hI=>?_) n h;show wpAny _ A ((compTurn (.ListComp elt [⟨target,iter,ifs,0⟩] scope pos) 0 it acc env).onRaise (fun x=>do noteFrame x env;theTreesLotGoes x)) _ _ s;refine wpAny_noted ?_;rw [compTurn_list];refine wpAny_bind (wpAny_standAt (wpAny_bind (wpAny_mono (turn n s hI) (fun r s₁ h₁=>?_) fun _ _ h'=>h'.elim)));cases r with
 | none=>exact wpAny_pure h₁
 | some v =>
  refine wpAny_bind (wpAny_mono h₁ (fun _ s' h'=>?_) fun _ _ h'=>h'.elim);refine wpAny_bind (wpAny_mono h' (fun _ s₂ h₂=>wpAny_bind (wpAny_mono h₂ (fun ok s₃ h₃=>?_) fun _ _ h'=>h'.elim)) fun _ _ h'=>h'.elim);cases ok with
  | false=>exact wpAny_pure ⟨rfl,h₃⟩
  | true =>
   exact wpAny_bind (wpAny_bind (wpAny_mono h₃ (fun x s₄ h₄=>wpAny_bind (wpAny_mono h₄ (fun _ s₅ h₅=>wpAny_pure (wpAny_pure ⟨rfl,h₅⟩)) fun _ _ h'=>h'.elim)) fun _ _ h'=>h'.elim))
end
noncomputable def PIf (X:Cx) (ifs:List Expr) (t:TT):Prop :=
 ∀ (pins:List (Addr×Obj)) (s:Shared) (σ:St) (H:Hp) (Q:Bool->Hp->Prop),Inv X pins σ H s->t σ H Q->wpAny (model X.prog X.w) X.A (Ys ifs X.env) (TP X pins σ Q) X.xe s
theorem rG {X:Cx}:PIf X [] (fun _ H Q=>Q true H):=fun pins s σ H Q I h=>wpAny_tests_nil ⟨H,I,h⟩
theorem rH {X:Cx}{c:Expr}{t:TT}(h:PT X c t):PIf X [c] t:=fun pins s σ H Q I q=>wpAny_tests_one (h pins s σ H Q I q)
noncomputable def Kept (σ0 σ2:St):Prop:=σ2.length=σ0.length/\∀ (i:Nat) v,σ0[i]?=some (some v)->σ2[i]?=some (some v)
noncomputable def eX (X:Cx) (N':List Str) (scope:Scope) (wi:TI) (g:TG) (tc:TT) (te:TE):TE:=fun σ H Q=>wi σ H fun J H1=>∃ σ0,Cap X N' scope σ σ0/\∃ W:Nat->Nat->List V->Hp->Prop,(∃ m,W 0 m [] H1)/\∀ i m acc H,W i m acc H ->
 (J.stop i H/\∀ p,H p=none->Q (.ref p) (upd H p (.lst acc))) \/
 (J.go i H/\∃ N:List V->Hp->Prop,(∀ acc' H',N acc' H'->∃ m',m' < m/\W (i+1) m' acc' H')/\∀ x H',J.yld i H x H'->g x σ0 H' fun σ2 H2=>Kept σ0 σ2/\tc σ2 H2 fun b H3=>if b=true then acc.length < sizeLine/\te σ2 H3 fun y H4=>N (acc++[y]) H4 else N acc H3)
section
variable {X:Cx}{N':List Str}{scope:Scope}{wi:TI}{g:TG}{tc:TT}{te:TE}{elt target iter:Expr}{ifs:List Expr}{pos:Pos}
theorem Ou {pins:List (Addr×Obj)}{s:Shared}{σ σ0:St}{H:Hp}{it:Addr}{fp:List Addr}{tn:Nat->Heap->Prop}{J:It}{QQ:List V->Hp->Prop}{E:Value->Shared->Prop}{RR:Value->Addr->Result->Shared->Prop}(hc:X.calm=true) (S:CompOk X scope)
  (hg:∀ pins C cells s₀ H₀ fp,PG (Cv X pins N' scope C cells s₀ H₀ fp) target g)
  (hi:∀ pins C cells s₀ H₀ fp,PIf (Cv X pins N' scope C cells s₀ H₀ fp) ifs tc)
  (he:∀ pins C cells s₀ H₀ fp,PE (Cv X pins N' scope C cells s₀ H₀ fp) elt te)
  (I:Inv X pins σ H s) (T:Turn X.prog X.w X.K target J fp it tn) (st:tn 0 s.heap) (hf:∀ b∈fp,Kl X pins H b) (hσ:Cap X N' scope σ σ0)
  (W:Nat->Nat->List V->Hp->Prop) (w0:∃ m,W 0 m [] H)
  (turn:∀ i m acc H,W i m acc H->(J.stop i H/\QQ acc H) \/
   (J.go i H/\∃ N:List V->Hp->Prop,(∀ acc' H',N acc' H'->∃ m',m' < m/\W (i+1) m' acc' H')/\∀ x H',J.yld i H x H'->g x σ0 H' fun σ2 H2=>Kept σ0 σ2/\tc σ2 H2 fun b H3=>if b=true then acc.length < sizeLine/\te σ2 H3 fun y H4=>N (acc++[y]) H4 else N acc H3))
  (hRR:∀ (C:Addr) (acc:List V) (H':Hp) (s':Shared) (m:Str->Option Value),QQ acc H'->Inv X pins σ (upd H' s.heap.objs.size (.lst acc)) s'->H' s.heap.objs.size=none->s'.heap.Ns C m->H' C=none->C≠s.heap.objs.size->s.heap.objs.size<=C->RR (.ref s.heap.objs.size) C (.ok .next) s') :
  wpAny (model X.prog X.w) X.A (newList []) (fun acc s₃=>wpAny (model X.prog X.w) X.A (newFunctionEnv scope X.env.globals (Dd X.env scope.names) [] X.env.qual none .none (some X.env)) (fun cenv s₄ =>
   codeAny (model X.prog X.w) X.A (.compStart (.ListComp elt [⟨target,iter,ifs,0⟩] scope pos) 0 (.ref it) acc { cenv with scope:=relabel scope X.env }) (RR acc cenv.locals) s₄) E s₃) E s:=by
 refine wpAny_newObj_type (Ui ?_);have sz1:(s.heap.push (Bj [] 0)).objs.size=s.heap.objs.size+1:=Heap.size_push ..;have I0:=Wk (N':=N') (σ0:=σ0) I S hf (fun b hb=>let ⟨o,e,_⟩:=T.obj 0 _ st b hb;⟨o,e⟩) hσ
 show codeAny (model X.prog X.w) X.A (.compStart (.ListComp elt [⟨target,iter,ifs,0⟩] scope pos) 0 (.ref it) (.ref s.heap.objs.size) _) (RR (.ref s.heap.objs.size) (s.heap.push (Bj [] 0)).objs.size) { s with heap:=pushCells ((s.heap.push (Bj [] 0)).push { cls:=.type "dict",data:=.dict #[] }) scope.names };rw [sz1];show codeAny (model X.prog X.w) X.A (.compStart (.ListComp elt [⟨target,iter,ifs,0⟩] scope pos) 0 (.ref it) (.ref s.heap.objs.size) (Cv X pins N' scope (s.heap.objs.size+1) (cellsFrom (s.heap.objs.size+1+1) scope.names (Dd X.env scope.names)) s H fp).env) _ _;generalize hX':Cv X pins N' scope (s.heap.objs.size+1) (cellsFrom (s.heap.objs.size+1+1) scope.names (Dd X.env scope.names)) s H fp=X' at I0 ⊢
 have keep0:∀ b o,s.heap.get? b=some o->(pushCells ((s.heap.push (Bj [] 0)).push { cls:=.type "dict",data:=.dict #[] }) scope.names).get? b=some o:=fun b o e=>pushCells_keeps _ _ b o (Heap.get?_push_of_some _ (Heap.get?_push_of_some _ e))
 have st0:tn 0 (pushCells ((s.heap.push (Bj [] 0)).push { cls:=.type "dict",data:=.dict #[] }) scope.names):=T.keep _ _ _ st fun b _ o e=>keep0 b o e
 have hA:X'.A=X.A:=by rw [← hX'];rfl
 have hP:X'.prog=X.prog:=by rw [← hX'];rfl
 have hw:X'.w=X.w:=by rw [← hX'];rfl
 have hK:X'.K=X.K:=by rw [← hX'];rfl
 have hC:X'.calm=true:=by rw [← hX'];exact hc
 have hL:X'.env.locals=s.heap.objs.size+1:=by rw [← hX'];rfl
 have hS0:X'.s₀=s:=by rw [← hX'];rfl
 have hxe:X'.xe=fun _ _=>False:=by rw [← hX'];rfl
 have hex:X'.ex=fp:=by rw [← hX'];rfl
 have hpn:X'.pn=X.pn++pins:=by rw [← hX'];rfl
 have hgX:PG X' target g:=by rw [← hX'];exact hg _ _ _ _ _ _
 have hiX:PIf X' ifs tc:=by rw [← hX'];exact hi _ _ _ _ _ _
 have heX:PE X' elt te:=by rw [← hX'];exact he _ _ _ _ _ _
 -- the iterator's own objects,in the block
 have fpo:∀ {pl:List (Addr×Obj)} {H':Hp} {its:List Value} {n:Nat},(∀ b∈fp,H' b=none)->∀ b∈fp,Kl X' [(s.heap.objs.size,Bj its n)] H' b:=fun {pl H' its n} hn b hb=>by
  obtain ⟨q0,q1,q2,q3,q4,q5⟩:=hf b hb;obtain ⟨e1,e2⟩:=I0.ok.exf b (by rw [hex];exact hb);have lt:b < s.heap.objs.size:=let ⟨o,e,_⟩:=T.obj 0 _ st b hb;Heap.lt_size e;refine ⟨hn b hb,e1,I0.ok.exfs b (by rw [hex];exact hb),.inl (by rw [hex];exact hb),e2,fun p hp=>?_⟩;rw [hpn] at hp;rcases List.mem_append.mp hp with hp|hp
  ·exact q5 p hp
  ·have e:p=(s.heap.objs.size,Bj its n):=by simpa using hp
   subst e;exact Nat.ne_of_gt lt
 obtain ⟨m0,w0⟩:=w0
 have loop:codeAny (model X.prog X.w) X.A (.compLoop (.ListComp elt [⟨target,iter,ifs,0⟩] scope pos) 0 (.ref it) (.ref s.heap.objs.size) X'.env) (RR (.ref s.heap.objs.size) (s.heap.objs.size+1)) { s with heap:=pushCells ((s.heap.push (Bj [] 0)).push { cls:=.type "dict",data:=.dict #[] }) scope.names }:=by
  refine Sd (fun k s'=>∃ i H' acc its n,Inv X' [(s.heap.objs.size,Bj its n)] σ0 H' s'/\tn i s'.heap/\(∀ b∈fp,H' b=none)/\Vals acc its/\acc.length<=sizeLine/\W i k acc H') ?_ m0
   ⟨0,H,[],[],0,I0,st0,fun b hb=>(hf b hb).1,.nil,Nat.zero_le _,w0⟩
  rintro k s3 ⟨i,H3,acc,its,n,I3,st3,fr3,rv,hz,w3⟩;rcases turn i k acc H3 w3 with ⟨stop,qn⟩|⟨go,N,hN,step⟩
  ·have z:=T.done X' hP hw hK hC i _ s3 σ0 H3 (fun _ _=>False) I3 (fpo (pl:=[]) fr3) st3 stop;rw [hA] at z;refine thn z ?_;rintro r s4 ⟨hr,I4⟩;subst hr;obtain ⟨m,hn,_⟩:=I4.loc;rw [hL] at hn;have fC:=I4.free;rw [hL] at fC;have e:=I4;rw [← hX'] at e;exact hRR _ acc H3 s4 m qn (eV I hf e rv hz) (I4.pin (s.heap.objs.size,Bj its n) (List.mem_append_right _ List.mem_cons_self)).2.1 hn fC (Nat.succ_ne_self _) (Nat.le_succ _)
  ·have z:=T.item X' hP hw hK hC i _ s3 σ0 H3 (fun _ _=>False) I3 (fpo (pl:=[]) fr3) st3 go;rw [hA] at z;refine thn z ?_;rintro r s4 ⟨u,hr,h4⟩;subst hr;refine thn h4 ?_;rintro _ s5 ⟨x,H5,I5,r5,y5,st5,fr5⟩;have I5':=I5.pinned (fpo (pl:=[]) fr5) (T.obj _ _ st5);have zg:=hgX _ s5 σ0 H5 x u _ I5' r5 (step x H5 y5);rw [hP,hw,hA,hxe] at zg;refine thn zg ?_;rintro _ s6 ⟨σ6,H6,I6,kp,q6⟩;have zi:=hiX _ s6 σ6 H6 _ I6 q6;rw [hP,hw,hA,hxe] at zi;refine thn zi ?_;rintro b s7 ⟨H7,I7,q7⟩
   -- back to the loop's head
   have back:∀ {H8:Hp} {s8:Shared} {acc':List V} {its':List Value} {n':Nat},Inv X' ([(s.heap.objs.size,Bj its' n')]++Jq fp s5.heap) σ6 H8 s8->Vals acc' its'->acc'.length<=sizeLine->N acc' H8 ->
     ∃ m,m < k/\∃ i H' acc its n,Inv X' [(s.heap.objs.size,Bj its n)] σ0 H' s8/\tn i s8.heap/\(∀ b∈fp,H' b=none)/\Vals acc its/\acc.length<=sizeLine/\W i m acc H':=fun {H8 s8 acc' its' n'} I8 rv' hz' n8=>by
    obtain ⟨m',hm,w8⟩:=hN acc' H8 n8;refine ⟨m',hm,i+1,H8,acc',its',n',(I8.unpinned).weak kp.1.symm kp.2,T.keep _ _ _ st5 fun b hb o e=>(I8.pin (b,o) (List.mem_append_right _ (List.mem_append_right _ (Gw hb e)))).1,fun b hb=>?_,rv',hz',w8⟩;obtain ⟨o,e,d⟩:=T.obj _ _ st5 b hb;exact (I8.pin (b,o) (List.mem_append_right _ (List.mem_append_right _ (Gw hb e)))).2.1
   cases b with
   | false =>
    rw [if_neg Bool.false_ne_true] at q7;rw [if_neg Bool.false_ne_true];exact back I7 rv hz q7
   | true =>
    rw [if_pos rfl] at q7;rw [if_pos rfl];obtain ⟨hlt,q7⟩:=q7;have ze:=heX _ s7 σ6 H7 _ I7 q7;rw [hP,hw,hA,hxe] at ze;refine thn ze ?_;rintro y s8 ⟨yv,H8,I8,r8,q8⟩;obtain ⟨p1,p2,p3,p4,p5⟩:=I8.pin (s.heap.objs.size,Bj its n) (List.mem_append_right _ (List.mem_append_left _ List.mem_cons_self));have len:its.toArray.size<=sizeLine:=by
     have:=rv.length;simp only [List.size_toArray];omega
    refine wpAny_list_append_plain (hsz:=len) ⟨n,p1⟩ ?_;rintro h' ⟨n',pl⟩ sb;have pl':h'.get? s.heap.objs.size=some (Bj (its++[y]) n'):=by rw [pl];simp [Bj]
    have lD:s.heap.objs.size < (pushCells ((s.heap.push (Bj [] 0)).push { cls:=.type "dict",data:=.dict #[] }) scope.names).objs.size:=by
     refine Nat.lt_of_lt_of_le ?_ (Fi _ _);rw [Heap.size_push,Heap.size_push];omega
    have cne:∀ z c,X'.env.cells.lookup z=some c->c≠s.heap.objs.size:=fun z c e q=>by
     obtain ⟨v,hv⟩:=I8.cell z c e;obtain ⟨o,ho,hd⟩:=hv;rw [q] at ho;rw [show s8.heap.get? s.heap.objs.size=some (Bj its n) from p1] at ho;cases ho;cases hd
    have J9:Inv X' (Jq fp s5.heap) σ6 H8 { s8 with heap:=h' }:=by
     refine Inv.turned (t':=s8.toks) (it:=s.heap.objs.size) (I8.pins_of fun p hp=>I8.pin p (List.mem_append_right _ (List.mem_append_right _ hp))) (fun b o hb e=>sb.extBut b o hb e) p2 (by rw [hL];exact Nat.ne_of_lt (Nat.lt_succ_self _)) (.inr (by rw [hS0];exact Nat.le_refl _)) cne fun p hp=>?_
     rw [hpn] at hp;rcases List.mem_append.mp hp with hp|hp
     ·have:p.1 < s.heap.objs.size:=Heap.lt_size (I.pin p hp).1;exact Nat.ne_of_lt this
     ·obtain ⟨hb,_⟩:=Qv hp;have:p.1 < s.heap.objs.size:=let ⟨o,e,_⟩:=T.obj 0 _ st p.1 hb;Heap.lt_size e;exact Nat.ne_of_lt this
    have I9:Inv X' ([(s.heap.objs.size,Bj (its++[y]) n')]++Jq fp s5.heap) σ6 H8 { s8 with heap:=h' }:=by
     refine J9.pins_of fun p hp=>?_
     rcases List.mem_append.mp hp with hp|hp
     ·have e:p=(s.heap.objs.size,Bj (its++[y]) n'):=by simpa using hp
      subst e;exact ⟨pl',p2,p3,p4,fun v=>by intro z;cases z⟩
     ·exact J9.pin p (List.mem_append_right _ hp)
    exact back I9 (rv.append (.cons r8 .nil)) (by rw [List.length_append,List.length_singleton];omega) q8
 exact codeAny_compStart_list loop (T.self X.A 0 _ _ _ st0 loop)
theorem rJ (hc:X.calm=true) (S:CompOk X scope) (hit:PI X target iter wi)
  (hg:∀ pins C cells s₀ H₀ fp,PG (Cv X pins N' scope C cells s₀ H₀ fp) target g)
  (hi:∀ pins C cells s₀ H₀ fp,PIf (Cv X pins N' scope C cells s₀ H₀ fp) ifs tc)
  (he:∀ pins C cells s₀ H₀ fp,PE (Cv X pins N' scope C cells s₀ H₀ fp) elt te)
  (hs:∀ x,foldedSetIterable iter X.env x=pure x:=by intro _;rfl) :
  PE X (.ListComp elt [⟨target,iter,ifs,0⟩] scope pos) (eX X N' scope wi g tc te):=by
 intro pins s σ H Q I h;rw [eval_ListComp];have hfree:∀ x∈scope.names,x.2=.free->∃ c,X.env.cells.lookup x.1=some c:=fun x hx e=>I.ok.has x.1 (S.fr x hx e)
 refine wpAny_comprehension_free (use:=none) rfl hs (Gd hfree) S.kind (fun x hx e=>Cq S.nd (by rw [← e];exact hx)) (thn (hit pins s σ H _ I h) fun v s1 h1=>thn h1 fun itv s2 h2=>?_);obtain ⟨it,fp,tn,J,H2,e,I2,T,st2,f2,σ0,hσ,W,w0,turn⟩:=h2;subst e;refine Ou (QQ:=fun acc H=>∀ p,H p=none->Q (.ref p) (upd H p (.lst acc))) (RR:=fun acc C=>compPost (model X.prog X.w) X.A X.xe none (EP X pins σ Q) acc C) hc S hg hi he I2 T st2 f2 hσ W w0 turn ?_;intro C acc H' s' m q I' hD hn hC hne hle;refine ⟨m,hn,fun h' sb=>?_⟩;obtain ⟨oC,_,_,hoC,_⟩:=id hn;have uC:upd H' s2.heap.objs.size (.lst acc) C=none:=by rw [Ah hne];exact hC
 have hCL:C≠X.env.locals:=Nat.ne_of_gt (Nat.lt_of_lt_of_le I2.lt hle);refine ⟨.ref s2.heap.objs.size,_,I'.turned (t':=s'.toks) (it:=C) (fun b o hb e=>sb.extBut b o hb e) uC hCL (.inr (Nat.le_trans I2.sz hle)) (fun x c e z=>?_) fun p hp z=>?_,rfl,q _ hD⟩
 ·obtain ⟨v,hv⟩:=I2.cell x c e;have:=hv.lt;rw [z] at this;exact Nat.lt_irrefl _ (Nat.lt_of_lt_of_le this hle)
 ·have:=Heap.lt_size (I2.pin p hp).1;rw [z] at this;exact Nat.lt_irrefl _ (Nat.lt_of_lt_of_le this hle)
theorem Wl {y:Str}{py spos:Pos}{gy:TG}(hc:X.calm=true) (S:CompOk X scope) (hit:PI X target iter wi)
  (hg:∀ pins C cells s₀ H₀ fp,PG (Cv X pins N' scope C cells s₀ H₀ fp) target g)
  (hi:∀ pins C cells s₀ H₀ fp,PIf (Cv X pins N' scope C cells s₀ H₀ fp) ifs tc)
  (he:∀ pins C cells s₀ H₀ fp,PE (Cv X pins N' scope C cells s₀ H₀ fp) elt te)
  (hgy:PG X (.Name y py) gy)
  (hsw:swapsWith (.ListComp elt [⟨target,iter,ifs,0⟩] scope pos) (some (.Name y py)) spos.line X.env=pure true)
  (hs:∀ x,foldedSetIterable iter X.env x=pure x:=by intro _;rfl) :
  PS X (.Assign [.Name y py] (.ListComp elt [⟨target,iter,ifs,0⟩] scope pos) spos) (yH (eX X N' scope wi g tc te) gy):=by
 intro pins s σ H D I h;rw [exec_Assign_Name_used _ _ _ _ hsw];refine wpAny_bind (wpAny_standAt (wpAny_bind ?_));show wpAny _ X.A (do let _ ← comprehension (.ListComp elt [⟨target,iter,ifs,0⟩] scope pos) scope X.env _ (newList []) false (eval iter X.env) (some (assign (.Name y py) X.env))) _ _ s;have hfree:∀ x∈scope.names,x.2=.free->∃ c,X.env.cells.lookup x.1=some c:=fun x hx e=>I.ok.has x.1 (S.fr x hx e)
 refine wpAny_bind (wpAny_mono (wpAny_comprehension_free (use:=some (assign (.Name y py) X.env)) (Q:=fun _ s'=>SP X pins D .next s') rfl hs (Gd hfree) S.kind (fun x hx e=>Cq S.nd (by rw [← e];exact hx)) (thn (hit pins s σ H _ I h) fun v s1 h1=>thn h1 fun itv s2 h2=>?_))
  (fun _ s' hq=>wpAny_pure (wpAny_pure hq)) fun _ _ e=>e)
 obtain ⟨it,fp,tn,J,H2,e,I2,T,st2,f2,σ0,hσ,W,w0,turn⟩:=h2;subst e;refine Ou (QQ:=fun acc H=>∀ p,H p=none->gy (.ref p) σ (upd H p (.lst acc)) D.nx) (RR:=fun acc C=>compPost (model X.prog X.w) X.A X.xe (some (assign (.Name y py) X.env)) (fun _ s'=>SP X pins D .next s') acc C) hc S hg hi he I2 T st2 f2 hσ W w0 turn ?_;intro C acc H' s' m q I' hD hn hC hne hle;obtain ⟨oC,esC,epC,hoC,hdC⟩:=id hn;have uC:upd H' s2.heap.objs.size (.lst acc) C=none:=by rw [Ah hne];exact hC
 have hCL:C≠X.env.locals:=Nat.ne_of_gt (Nat.lt_of_lt_of_le I2.lt hle);have hCfs:C ∉ X.fs:=I2.nofs hle;have pinC:Inv X (pins++[(C,oC)]) σ (upd H' s2.heap.objs.size (.lst acc)) s':=by
  refine I'.pins_of fun p hp=>?_
  rcases List.mem_append.mp hp with hp|hp
  ·exact I'.pin p (List.mem_append_right _ hp)
  ·have e:p=(C,oC):=by simpa using hp
   subst e;refine ⟨hoC,uC,hCL,hCfs,fun v z=>?_⟩;rw [hdC.1] at z;cases z
 refine thn (hgy _ s' σ _ (.ref s2.heap.objs.size) _ _ pinC rfl (q _ hD)) ?_;rintro _ s'' ⟨σ2,H3,I3,q3⟩;obtain ⟨p1,p2,p3,p4,p5⟩:=I3.pin (C,oC) (List.mem_append_right _ (List.mem_append_right _ List.mem_cons_self));refine ⟨m,⟨oC,esC,epC,p1,hdC⟩,fun h' sb=>?_⟩;refine ⟨σ2,H3,(Inv.unpinned I3).turned (t':=s''.toks) (it:=C) (fun b o hb e=>sb.extBut b o hb e) p2 hCL (.inr (Nat.le_trans I2.sz hle)) (fun x c e z=>?_) fun p hp z=>?_,q3⟩
 ·obtain ⟨v,hv⟩:=I2.cell x c e;have:=hv.lt;rw [z] at this;exact Nat.lt_irrefl _ (Nat.lt_of_lt_of_le this hle)
 ·have:=Heap.lt_size (I2.pin p hp).1;rw [z] at this;exact Nat.lt_irrefl _ (Nat.lt_of_lt_of_le this hle)
end
end L2
namespace DL
open PySem PySem.Spec PyProof.Rows L2
noncomputable abbrev St:=L2.St
structure CloI where
 ps:List Str
 N:List Str
 fr:List Str
 scope:Scope
 body:List Stmt
inductive D where
 | non | bl (b:Bool) | int (i:Int) | str (x:Str) | tup (ds:List D) | ref (n:Nat) | rol (ds:List D) | obj (c:Str) (ks:List Str) (ds:List D) | fn (x:Str) | lam | clo (I:CloI) (ds:List D)
 deriving Inhabited
inductive MO where
 | lst (ds:List D)
 | dct (kvs:List (Key×D))
 | plc
 | plq (x:Str)
noncomputable abbrev MH:=List MO
noncomputable abbrev Loc:=List (Option D)
noncomputable def Hv (K:PySem.W.Frag) (H:Hp) (a:Addr) (xs:List V):Prop:=(∃ o,H a=some (.frz o (.lst xs))) \/
  ∃ (o:Obj) (its:Array Value) (n:Nat),K.lookup a=some o/\o.cls=.type "list"/\o.dict=none/\o.data=.seq its n/\its.size<=sizeLine/\Vals xs its.toList
theorem Hv.sq {K:PySem.W.Frag}{H:Hp}{a:Addr}{xs:List V}(h:Hv K H a xs):SqL K H a xs:=by
 rcases h with ⟨o,h⟩|h
 ·exact .inl (.inr ⟨o,h⟩)
 ·exact .inr h
noncomputable def Yt (fd:FuncData):Prop:=∃ (name qual:Str) (ps:Arguments) (x y:Str) (p q pt:Pos) (k:Nat) (sc:Scope) (pm cdv ct:Value),fd=PySem.W.kla_fn name qual ps (.Tuple [.Name x p,.Name y q] k pt) sc [] pm cdv ct /\
  FnScope [x,y] [x,y] sc/\(x==("__debug__":Str))=false/\(x==("__classdict__":Str))=false/\(y==("__debug__":Str))=false/\(y==("__classdict__":Str))=false/\∀ u v,bindArgs fd ⟨[u,v],[]⟩=pure [(x,u),(y,v)]
noncomputable def Nq (H:Hp) (v:Value) (q:Str):Prop:=∃ c oc u vs tq,v=.ref c/\H c=some (.frz oc u)/\oc.data=.fields vs/\vs[1]?=some (.str q tq)
noncomputable def Yu (H:Hp) (a:Addr):Prop:=∃ o u fd,H a=some (.frz o u)/\o.data=.func fd/\Yt fd/\Nq H fd.code fd.qualname
structure CloSc (I:CloI):Prop where
 kind:I.scope.kind=.function
 co:I.scope.isCoroutine=false
 gen:I.scope.isGenerator=false
 nd:(I.N++I.fr).Nodup
 pre:I.N.take I.ps.length=I.ps
 par:∀ x∈I.ps,I.scope.names.lookup x=some .local
 nocell:∀ y∈I.scope.names,y.2≠.cell
 free:∀ x,I.scope.names.lookup x=some .free->x∈I.fr
 frs:∀ x∈I.fr,I.scope.names.lookup x=some .free
noncomputable def Yv (I:CloI) (fd:FuncData) (cl:List (Str×Addr)):Prop:=∃ (name qual:Str) (params:Arguments) (doc pm cdv ctv:Value),fd=PySem.W.fnX name qual params I.body I.scope cl .none .none doc pm none cdv ctv/\∀ us:List Value,us.length=I.ps.length->bindArgs fd ⟨us,[]⟩=pure (I.ps.zip us)
noncomputable def Cz (H:Hp):List Addr->List V->Prop
 | [],[]=>True
 | c::cs,v::vs=>(∃ oc u w,H c=some (.frz oc u)/\oc.data=.cell (some w)/\RelV v w)/\Cz H cs vs
 | _,_=>False
noncomputable def Yw (H:Hp) (a:Addr) (I:CloI) (xs:List V):Prop:=∃ o u fd cl,H a=some (.frz o u)/\o.data=.func fd/\CloSc I/\Yv I fd cl/\Nq H fd.code fd.qualname/\cl.map (·.1)=I.fr/\(cl.map (·.2)).Nodup/\Cz H (cl.map (·.2)) xs
mutual
inductive RD (K:PySem.W.Frag) (H:Hp) (ρ:List Addr):D->V->Prop
 | non:RD K H ρ .non .non
 | bl (b:Bool):RD K H ρ (.bl b) (.bl b)
 | int (i:Int):RD K H ρ (.int i) (.int i)
 | str (x:Str):RD K H ρ (.str x) (.str x)
 | tup {ds:List D} {a:Addr} {xs:List V}:SqT K H a xs->RDs K H ρ ds xs->RD K H ρ (.tup ds) (.ref a)
 | ref {n:Nat} {a:Addr}:ρ[n]?=some a->RD K H ρ (.ref n) (.ref a)
 | rol {ds:List D} {a:Addr} {xs:List V}:Hv K H a xs->RDs K H ρ ds xs->RD K H ρ (.rol ds) (.ref a)
 | obj {c:Str} {ks:List Str} {ds:List D} {a C dx:Addr} {xs:List V}:PySem.W.nsIn K mainGlobals c=some (some (.ref C))->H a=some (.ins C dx (ks.zip xs))->ks.length=xs.length->RDs K H ρ ds xs->RD K H ρ (.obj c ks ds) (.ref a)
 | fn {x:Str} {a:Addr}:PySem.W.nsIn K mainGlobals x=some (some (.ref a))->RD K H ρ (.fn x) (.ref a)
 | lam {a:Addr}:Yu H a->RD K H ρ .lam (.ref a)
 | clo {I:CloI} {ds:List D} {a:Addr} {xs:List V}:Yw H a I xs->RDs K H ρ ds xs->RD K H ρ (.clo I ds) (.ref a)
inductive RDs (K:PySem.W.Frag) (H:Hp) (ρ:List Addr):List D->List V->Prop
 | nil:RDs K H ρ [] []
 | cons {d:D} {v:V} {ds:List D} {vs:List V}:RD K H ρ d v->RDs K H ρ ds vs->RDs K H ρ (d::ds) (v::vs)
end
structure Ev (K:PySem.W.Frag) (H:Hp) (ρ:List Addr) (H':Hp) (ρ':List Addr):Prop where
 tup:∀ a xs,SqT K H a xs->SqT K H' a xs
 pre:ρ <+: ρ'
 perm:∀ a xs,Hv K H a xs->Hv K H' a xs
 ins:∀ a C dx fs,H a=some (.ins C dx fs)->H' a=some (.ins C dx fs)
 frz:∀ a o u,H a=some (.frz o u)->H' a=some (.frz o u)
theorem Ev.refl {K:PySem.W.Frag}{H:Hp}{ρ:List Addr}:Ev K H ρ H ρ:=⟨fun _ _ h=>h,List.prefix_refl _,fun _ _ h=>h,fun _ _ _ _ h=>h,fun _ _ _ h=>h⟩
theorem Ev.trans {K:PySem.W.Frag}{H H1 H2:Hp}{ρ ρ1 ρ2:List Addr}(a:Ev K H ρ H1 ρ1) (b:Ev K H1 ρ1 H2 ρ2):Ev K H ρ H2 ρ2:=⟨fun x xs h=>b.tup x xs (a.tup x xs h),a.pre.trans b.pre,fun x xs h=>b.perm x xs (a.perm x xs h),fun x C dx fs h=>b.ins x C dx fs (a.ins x C dx fs h),fun x o u h=>b.frz x o u (a.frz x o u h)⟩
theorem Ev.at {K:PySem.W.Frag}{H H':Hp}{ρ ρ':List Addr}(e:Ev K H ρ H' ρ') {n:Nat}{a:Addr}(h:ρ[n]?=some a):ρ'[n]?=some a:=by
 obtain ⟨t,rfl⟩:=e.pre;obtain ⟨hl,_⟩:=List.getElem?_eq_some_iff.mp h;rw [List.getElem?_append_left hl];exact h
theorem Nq.mono {H H':Hp}(e:∀ a o u,H a=some (.frz o u)->H' a=some (.frz o u)) {v:Value}{q:Str}(h:Nq H v q):Nq H' v q :=
 let ⟨c,oc,u,vs,tq,h1,h2,h3⟩:=h;⟨c,oc,u,vs,tq,h1,e _ _ _ h2,h3⟩
theorem Yu.mono {H H':Hp}(e:∀ a o u,H a=some (.frz o u)->H' a=some (.frz o u)) {a:Addr}(h:Yu H a):Yu H' a :=
 let ⟨o,u,fd,h1,h2,h3,h4⟩:=h;⟨o,u,fd,e _ _ _ h1,h2,h3,h4.mono e⟩
theorem Cz.mono {H H':Hp}(e:∀ a o u,H a=some (.frz o u)->H' a=some (.frz o u)):∀ {cs:List Addr}{vs:List V},Cz H cs vs->Cz H' cs vs
 | [],[],_=>trivial
 | _::_,_::_,⟨⟨oc,u,w,h1,h2,h3⟩,t⟩=>⟨⟨oc,u,w,e _ _ _ h1,h2,h3⟩,Cz.mono e t⟩
theorem Yw.mono {H H':Hp}(e:∀ a o u,H a=some (.frz o u)->H' a=some (.frz o u)) {a:Addr}{I:CloI}{xs:List V}(h:Yw H a I xs):Yw H' a I xs :=
 let ⟨o,u,fd,cl,h1,h2,h3,h4,h5,h6,h7,h8⟩:=h;⟨o,u,fd,cl,e _ _ _ h1,h2,h3,h4,h5.mono e,h6,h7,h8.mono e⟩
mutual
theorem RD.mono {K:PySem.W.Frag}{H H':Hp}{ρ ρ':List Addr}(e:Ev K H ρ H' ρ'):∀ {d:D}{v:V},RD K H ρ d v->RD K H' ρ' d v
 | _,_,.non=>.non
 | _,_,.bl b=>.bl b
 | _,_,.int i=>.int i
 | _,_,.str x=>.str x
 | _,_,.tup s r=>.tup (e.tup _ _ s) (RDs.mono e r)
 | _,_,.ref h=>.ref (e.at h)
 | _,_,.rol s r=>.rol (e.perm _ _ s) (RDs.mono e r)
 | _,_,.obj n s l r=>.obj n (e.ins _ _ _ _ s) l (RDs.mono e r)
 | _,_,.fn h=>.fn h
 | _,_,.lam h=>.lam (h.mono e.frz)
 | _,_,.clo h r=>.clo (h.mono e.frz) (RDs.mono e r)
theorem RDs.mono {K:PySem.W.Frag}{H H':Hp}{ρ ρ':List Addr}(e:Ev K H ρ H' ρ'):∀ {ds:List D}{vs:List V},RDs K H ρ ds vs->RDs K H' ρ' ds vs
 | _,_,.nil=>.nil
 | _,_,.cons r t=>.cons (RD.mono e r) (RDs.mono e t)
end
section
variable {K:PySem.W.Frag}{H H':Hp}{ρ ρ':List Addr}
theorem RDs.length:∀ {ds:List D}{vs:List V},RDs K H ρ ds vs->ds.length=vs.length
 | _,_,.nil=>rfl
 | _,_,.cons _ t=>by rw [List.length_cons,List.length_cons,RDs.length t]
theorem RDs.get:∀ {ds:List D}{vs:List V}{i:Nat}{d:D},RDs K H ρ ds vs->ds[i]?=some d->∃ v,vs[i]?=some v/\RD K H ρ d v
 | _,_,_,_,.nil,e=>by simp at e
 | _,_,0,_,.cons r _,e=>by simp at e;subst e;exact ⟨_,by simp,r⟩
 | _,_,i+1,d,.cons _ t,e=>by
  obtain ⟨v,h1,h2⟩:=RDs.get (i:=i) (d:=d) t (by simpa using e);exact ⟨v,by simpa using h1,h2⟩
theorem RDs.append:∀ {ds es:List D}{vs us:List V},RDs K H ρ ds vs->RDs K H ρ es us->RDs K H ρ (ds++es) (vs++us)
 | _,_,_,_,.nil,s=>s
 | _,_,_,_,.cons r t,s=>.cons r (RDs.append t s)
theorem RDs.take:∀ {ds:List D}{vs:List V}(n:Nat),RDs K H ρ ds vs->RDs K H ρ (ds.take n) (vs.take n)
 | _,_,0,_=>.nil
 | _,_,_+1,.nil=>.nil
 | _,_,n+1,.cons r t=>.cons r (RDs.take n t)
theorem RDs.drop:∀ {ds:List D}{vs:List V}(n:Nat),RDs K H ρ ds vs->RDs K H ρ (ds.drop n) (vs.drop n)
 | _,_,0,r=>r
 | _,_,_+1,.nil=>.nil
 | _,_,n+1,.cons _ t=>RDs.drop n t
theorem RDs.set {d:D}{v:V}(r:RD K H ρ d v):∀ {ds:List D}{vs:List V}(n:Nat),RDs K H ρ ds vs->RDs K H ρ (ds.set n d) (vs.set n v)
 | _,_,_,.nil=>.nil
 | _,_,0,.cons _ t=>.cons r t
 | _,_,n+1,.cons q t=>.cons q (RDs.set r n t)
theorem RDs.ints:∀ (ns:List Int),RDs K H ρ (ns.map D.int) (ns.map V.int)
 | []=>.nil
 | n::r=>.cons (.int n) (RDs.ints r)
noncomputable def Af8 (K:PySem.W.Frag) (a:Addr):Prop:=∃ (f:Addr) (o:Obj) (fd:FuncData) (c bm:Addr) (ob:Obj),PySem.W.nsIn K mainGlobals "pattern_of"=some (some (.ref f))/\K.lookup f=some o/\o.data=.func fd/\fd.code=.ref c/\PySem.W.codeHdIn K c a=true /\
  PySem.W.nsIn K mainGlobals "__builtins__"=some (some (.ref bm))/\K.lookup bm=some ob/\ob.cls=.type "module"/\ob.dict=some builtinsNs/\ob.data=.plain/\bm≠builtinsNs/\bm≠mainGlobals
noncomputable abbrev rK:Str:=("pattern_of":Str) ++ ".<locals>." ++ "<lambda>"
noncomputable def eY (K:PySem.W.Frag) (H:Hp) (a:Addr):Prop:=∃ ps,H a=some (.tbl ps)/\TriplesOk ps.toList/\(∀ pos v,codeAmong pos ps.toList=some v->Nq H v rK)/\Af8 K a
noncomputable def eZ (K:PySem.W.Frag) (x:Str) (a:Addr):Prop:=∃ (f:Addr) (o:Obj) (fd:FuncData) (c bm:Addr) (ob:Obj),PySem.W.nsIn K mainGlobals x=some (some (.ref f))/\K.lookup f=some o/\o.data=.func fd/\fd.code=.ref c/\PySem.W.codeHdIn K c a=true /\
  PySem.W.nsIn K mainGlobals "__builtins__"=some (some (.ref bm))/\K.lookup bm=some ob/\ob.cls=.type "module"/\ob.dict=some builtinsNs/\ob.data=.plain/\bm≠builtinsNs/\bm≠mainGlobals
noncomputable abbrev fB (x:Str):Str:=x ++ ".<locals>." ++ "_law_pick"
noncomputable def fD (K:PySem.W.Frag) (H:Hp) (x:Str) (a:Addr):Prop:=∃ ps,H a=some (.tbl ps)/\TriplesOk ps.toList/\(∀ pos v,codeAmong pos ps.toList=some v->Nq H v (fB x))/\eZ K x a
noncomputable def RO (K:PySem.W.Frag) (H:Hp) (ρ:List Addr) (a:Addr):MO->Prop
 | .lst ds=>∃ xs,H a=some (.lst xs)/\RDs K H ρ ds xs
 | .plc=>eY K H a
 | .plq x=>fD K H x a
 | .dct kvs=>∃ xs:List (Key×V),H a=some (.dK xs)/\xs.map (·.1)=kvs.map (·.1)/\RDs K H ρ (kvs.map (·.2)) (xs.map (·.2))
structure RS (K:PySem.W.Frag) (H:Hp) (ρ:List Addr) (mh:MH):Prop where
 len:ρ.length=mh.length
 nd:ρ.Nodup
 obj:∀ (n:Nat) (a:Addr) (o:MO),ρ[n]?=some a->mh[n]?=some o->RO K H ρ a o
noncomputable def RL (K:PySem.W.Frag) (H:Hp) (ρ:List Addr) (loc:Loc) (σ:St):Prop:=loc.length=σ.length/\∀ (i:Nat) (d:D),loc[i]?=some (some d)->∃ v,σ[i]?=some (some v)/\RD K H ρ d v
theorem RL.mono {loc:Loc}{σ:St}(e:Ev K H ρ H' ρ') (h:RL K H ρ loc σ):RL K H' ρ' loc σ:=⟨h.1,fun i d q=>let ⟨v,e1,r⟩:=h.2 i d q;⟨v,e1,r.mono e⟩⟩
theorem RL.set {loc:Loc}{σ:St}{d:D}{v:V}{i:Nat}(h:RL K H ρ loc σ) (r:RD K H ρ d v):RL K H ρ (loc.set i (some d)) (σ.set i (some v)):=by
 refine ⟨by rw [List.length_set,List.length_set];exact h.1,fun j d' q=>?_⟩
 by_cases e:i=j
 ·subst e;rw [List.getElem?_set] at q;simp only [if_true] at q;split at q
  ·rename_i hl;cases q;refine ⟨v,?_,r⟩;rw [List.getElem?_set];simp only [if_true];rw [if_pos (by rw [← h.1];exact hl)]
  ·cases q
 ·rw [List.getElem?_set_ne e] at q;rw [List.getElem?_set_ne e];exact h.2 j d' q
theorem RS.at {mh:MH}(h:RS K H ρ mh) {n:Nat}{o:MO}(e:mh[n]?=some o):∃ a,ρ[n]?=some a/\RO K H ρ a o:=by
 obtain ⟨hl,_⟩:=List.getElem?_eq_some_iff.mp e;have hl':n < ρ.length:=by rw [h.len];exact hl
 exact ⟨ρ[n],List.getElem?_eq_getElem hl',h.obj n _ o (List.getElem?_eq_getElem hl') e⟩
theorem RS.tracked {mh:MH}(h:RS K H ρ mh) {a:Addr}(ha:a∈ρ):∃ o,H a=some o:=by
 obtain ⟨n,hn,rfl⟩:=List.getElem_of_mem ha;have hl:n < mh.length:=by rw [← h.len];exact hn
 have q:=h.obj n _ _ (List.getElem?_eq_getElem hn) (List.getElem?_eq_getElem hl);cases e:mh[n] with
 | lst ds=>rw [e] at q;obtain ⟨xs,q,_⟩:=q;exact ⟨_,q⟩
 | dct kvs=>rw [e] at q;obtain ⟨xs,q,_⟩:=q;exact ⟨_,q⟩
 | plc=>rw [e] at q;obtain ⟨xs,q,_⟩:=q;exact ⟨_,q⟩
 | plq x=>rw [e] at q;obtain ⟨xs,q,_⟩:=q;exact ⟨_,q⟩
theorem RO.read {a:Addr}{ds:List D}(h:RO K H ρ a (.lst ds)):∃ xs,SqL K H a xs/\RDs K H ρ ds xs:=by
 obtain ⟨xs,q,r⟩:=h;exact ⟨xs,.inl (.inl q),r⟩
theorem Yx {a p:Addr}{o:HO}{xs:List V}(hp:H p=none) (h:SqT K H a xs):SqT K (upd H p o) a xs:=by
 rcases h with (h|⟨ob,h⟩)|h
 ·exact .inl (.inl (by rw [Ah (Am h hp)];exact h))
 ·exact .inl (.inr ⟨ob,by rw [Ah (Am h hp)];exact h⟩)
 ·exact .inr h
theorem rM {a p:Addr}{ys zs xs:List V}(hp:H p=some (.lst ys)) (h:SqT K H a xs):SqT K (upd H p (.lst zs)) a xs:=by
 rcases h with (h|⟨ob,h⟩)|h
 ·exact .inl (.inl (by rw [Ah (Kg h hp (by intro z;cases z))];exact h))
 ·exact .inl (.inr ⟨ob,by rw [Ah (Kg h hp (by intro z;cases z))];exact h⟩)
 ·exact .inr h
theorem Uj {a p:Addr}{o:HO}{xs:List V}(hp:H p=none) (h:Hv K H a xs):Hv K (upd H p o) a xs:=by
 rcases h with ⟨ob,h⟩|h
 ·exact .inl ⟨ob,by rw [Ah (Am h hp)];exact h⟩
 ·exact .inr h
theorem fG {a p:Addr}{ys zs xs:List V}(hp:H p=some (.lst ys)) (h:Hv K H a xs):Hv K (upd H p (.lst zs)) a xs:=by
 rcases h with ⟨ob,h⟩|h
 ·exact .inl ⟨ob,by rw [Ah (Kg h hp (by intro z;cases z))];exact h⟩
 ·exact .inr h
theorem Ev.new {p:Addr}{o:HO}(hp:H p=none):Ev K H ρ (upd H p o) ρ:=⟨fun _ _ h=>Yx hp h,List.prefix_refl _,fun _ _ h=>Uj hp h,fun a _ _ _ h=>by rw [Ah (Am h hp)];exact h,fun a _ _ h=>by rw [Ah (Am h hp)];exact h⟩
theorem Ev.newL {p:Addr}{o:HO}(hp:H p=none):Ev K H ρ (upd H p o) (ρ++[p]):=⟨fun _ _ h=>Yx hp h,List.prefix_append _ _,fun _ _ h=>Uj hp h,fun a _ _ _ h=>by rw [Ah (Am h hp)];exact h,fun a _ _ h=>by rw [Ah (Am h hp)];exact h⟩
theorem Ev.lst {p:Addr}{ys zs:List V}(hp:H p=some (.lst ys)):Ev K H ρ (upd H p (.lst zs)) ρ:=⟨fun _ _ h=>rM hp h,List.prefix_refl _,fun _ _ h=>fG hp h,fun a _ _ _ h=>by rw [Ah (Kg h hp (by intro z;cases z))];exact h,fun a _ _ h=>by rw [Ah (Kg h hp (by intro z;cases z))];exact h⟩
theorem RO.mono {a:Addr}{o:MO}(e:Ev K H ρ H' ρ') (s:H' a=H a) (h:RO K H ρ a o):RO K H' ρ' a o:=by
 cases o with
 | lst ds=>obtain ⟨xs,q,r⟩:=h;exact ⟨xs,by rw [s];exact q,r.mono e⟩
 | dct kvs=>obtain ⟨xs,q,k,r⟩:=h;exact ⟨xs,by rw [s];exact q,k,r.mono e⟩
 | plc=>obtain ⟨ps,q,t,c,k⟩:=h;exact ⟨ps,by rw [s];exact q,t,fun pos v z=>(c pos v z).mono e.frz,k⟩
 | plq x=>obtain ⟨ps,q,t,c,k⟩:=h;exact ⟨ps,by rw [s];exact q,t,fun pos v z=>(c pos v z).mono e.frz,k⟩
theorem RS.new {mh:MH}{p:Addr}{o:HO}(h:RS K H ρ mh) (hp:H p=none):RS K (upd H p o) ρ mh :=
 ⟨h.len,h.nd,fun n a ob e1 e2=>(h.obj n a ob e1 e2).mono (Ev.new hp) (by
  obtain ⟨oo,q⟩:=h.tracked (List.mem_of_getElem? e1)
  rw [Ah (Am q hp)])⟩
theorem RS.newL {mh:MH}{p:Addr}{xs:List V}{ds:List D}(h:RS K H ρ mh) (hp:H p=none) (r:RDs K H ρ ds xs):RS K (upd H p (.lst xs)) (ρ++[p]) (mh++[.lst ds]):=by
 have hnp:p ∉ ρ:=fun z=>by
  obtain ⟨o,q⟩:=h.tracked z;rw [hp] at q;cases q
 refine ⟨by rw [List.length_append,List.length_append,h.len];rfl,?_,fun n a ob e1 e2=>?_⟩
 ·rw [List.nodup_append]
  exact ⟨h.nd,List.pairwise_singleton _ _,fun a ha b hb z=>by
   rw [List.mem_singleton.mp hb] at z;rw [z] at ha;exact hnp ha⟩
 ·by_cases hn:n < ρ.length
  ·rw [List.getElem?_append_left hn] at e1;rw [List.getElem?_append_left (by rw [← h.len];exact hn)] at e2;refine (h.obj n a ob e1 e2).mono (Ev.newL hp) ?_;obtain ⟨oo,q⟩:=h.tracked (List.mem_of_getElem? e1);rw [Ah (Am q hp)]
  ·rw [List.getElem?_append_right (by omega)] at e1;rw [List.getElem?_append_right (by rw [← h.len];omega)] at e2;have n0:n - ρ.length=0:=by
    have:=(List.getElem?_eq_some_iff.mp e1).1;simp at this;omega
   rw [n0] at e1;rw [← h.len,n0] at e2;cases e1;cases e2;exact ⟨xs,Be,r.mono (Ev.newL hp)⟩
theorem RS.setL {mh:MH}{n:Nat}{p:Addr}{ys xs:List V}{ds:List D}(h:RS K H ρ mh) (hn:ρ[n]?=some p) (hp:H p=some (.lst ys)) (r:RDs K H ρ ds xs):RS K (upd H p (.lst xs)) ρ (mh.set n (.lst ds)):=by
 refine ⟨by rw [List.length_set];exact h.len,h.nd,fun m a ob e1 e2=>?_⟩
 by_cases hm:n=m
 ·subst hm;rw [hn] at e1;cases e1;rw [List.getElem?_set] at e2;simp only [if_true] at e2;split at e2
  ·cases e2;exact ⟨xs,Be,r.mono (Ev.lst hp)⟩
  ·cases e2
 ·rw [List.getElem?_set_ne hm] at e2;refine (h.obj m a ob e1 e2).mono (Ev.lst hp) ?_;rw [Ah];intro z;subst z;exact hm ((List.getElem?_inj (List.getElem?_eq_some_iff.mp hn).1 h.nd).mp (hn.trans e1.symm))
end
noncomputable abbrev DM (α:Type):=Loc->MH->Option (α×MH)
noncomputable def DM.bnd {α β:Type}(m:DM α) (f:α->DM β):DM β:=fun loc mh=>match m loc mh with
 | none=>none
 | some (a,mh')=>f a loc mh'
theorem Ay {α β:Type}{m:DM α}{f:α->DM β}{loc:Loc}{mh:MH}{r:β×MH}(h:m.bnd f loc mh=some r):∃ a m1,m loc mh=some (a,m1)/\f a loc m1=some r:=by
 unfold DM.bnd at h;split at h
 ·cases h
 ·rename_i a m1 e;exact ⟨a,m1,e,h⟩
noncomputable def Zr {α:Type}(a:α):DM α:=fun _ mh=>some (a,mh)
noncomputable def Zl {α:Type}(f:MH->Option (α×MH)):DM α:=fun _ mh=>f mh
noncomputable def Zb {α:Type}:DM α:=fun _ _=>none
noncomputable def Co (K:PySem.W.Frag) (H:Hp) (ρ:List Addr) (mh':MH) (d:D) (Q:VK):Prop:=∀ H' ρ' v,Ev K H ρ H' ρ'->RS K H' ρ' mh'->RD K H' ρ' d v->Q v H'
noncomputable def tD (K:PySem.W.Frag) (loc:Loc) (mh:MH) (r:Option (D×MH)):TE:=fun σ H Q=>∃ ρ d mh',r=some (d,mh')/\RL K H ρ loc σ/\RS K H ρ mh/\Co K H ρ mh' d Q
noncomputable def tDT (K:PySem.W.Frag) (loc:Loc) (mh:MH) (r:Option (Bool×MH)):TT:=fun σ H Q=>∃ ρ b mh',r=some (b,mh')/\RL K H ρ loc σ/\RS K H ρ mh/\∀ H' ρ',Ev K H ρ H' ρ'->RS K H' ρ' mh'->Q b H'
noncomputable def tDA (K:PySem.W.Frag) (loc:Loc) (mh:MH) (r:Option (List D×MH)):TA:=fun σ H Q=>∃ ρ ds mh',r=some (ds,mh')/\RL K H ρ loc σ/\RS K H ρ mh/\∀ H' ρ' vs,Ev K H ρ H' ρ'->RS K H' ρ' mh'->RDs K H' ρ' ds vs->Q vs H'
noncomputable def DE (X:Cx) (e:Expr) (m:DM D):Prop:=∀ loc mh,PE X e (tD X.K loc mh (m loc mh))
noncomputable def DT (X:Cx) (e:Expr) (m:DM Bool):Prop:=∀ loc mh,PT X e (tDT X.K loc mh (m loc mh))
noncomputable def DA (X:Cx) (es:List Expr) (m:DM (List D)):Prop:=∀ loc mh,PA X es (tDA X.K loc mh (m loc mh))
theorem Bm {X:Cx}{e:Expr}{t t':TE}(h:PE X e t) (i:∀ σ H Q,t' σ H Q->t σ H Q):PE X e t':=fun pins s σ H Q I q=>h pins s σ H Q I (i σ H Q q)
theorem Sg {X:Cx}{e:Expr}{t t':TT}(h:PT X e t) (i:∀ σ H Q,t' σ H Q->t σ H Q):PT X e t':=fun pins s σ H Q I q=>h pins s σ H Q I (i σ H Q q)
theorem fH {X:Cx}{es:List Expr}{t t':TA}(h:PA X es t) (i:∀ σ H Q,t' σ H Q->t σ H Q):PA X es t':=fun pos pins s σ H Q I q=>h pos pins s σ H Q I (i σ H Q q)
theorem rN {K:PySem.W.Frag}{loc:Loc}{mh:MH}{σ:St}{H:Hp}{Q:VK}(h:tD K loc mh none σ H Q):False:=by obtain ⟨_,_,_,e,_⟩:=h;cases e
theorem Bo {X:Cx}{e:Expr}{loc:Loc}{mh:MH}:PE X e (tD X.K loc mh none):=fun _ _ _ _ _ _ h=>(rN h).elim
theorem Yy {X:Cx}{e:Expr}{loc:Loc}{mh:MH}:PT X e (tDT X.K loc mh none):=fun _ _ _ _ _ _ h=>by obtain ⟨_,_,_,e,_⟩:=h;cases e
theorem Yz {X:Cx}{es:List Expr}{loc:Loc}{mh:MH}:PA X es (tDA X.K loc mh none):=fun _ _ _ _ _ _ _ h=>by obtain ⟨_,_,_,e,_⟩:=h;cases e
theorem Ba {X:Cx}{e:Expr}:DE X e Zb:=fun _ _=>Bo
theorem Eh {X:Cx}{e:Expr}:DT X e Zb:=fun _ _=>Yy
theorem fJ {X:Cx}{es:List Expr}:DA X es Zb:=fun _ _=>Yz
section
variable {X:Cx}{a b c e:Expr}{ma mb mc:DM D}{pos:Pos}
theorem rO {d:D}{v:V}(h:PE X e (tC v)) (r:∀ K H ρ,RD K H ρ d v):DE X e (Zr d):=by
 refine fun loc mh=>Bm h ?_
 rintro σ H Q ⟨ρ,d',mh',q,rl,rs,co⟩;cases q;exact co H ρ v Ev.refl rs (r _ _ _)
theorem fK {i:Nat}{x:Str}(hN:X.N[i]?=some x) (hv:Vis X.env.scope x) (hd:(x==("__debug__":Str))=false) (hcd:(x==("__classdict__":Str))=false) :
  DE X (.Name x pos) (fun loc mh=>match loc[i]? with | some (some d)=>some (d,mh) | _=>none):=by
 refine fun loc mh=>Bm (Ht hN hv hd hcd) ?_
 rintro σ H Q ⟨ρ,d',mh',q,rl,rs,co⟩;dsimp only at q;split at q
 ·rename_i d e;cases q;obtain ⟨v,h1,h2⟩:=rl.2 i d' e;exact ⟨v,h1,co H ρ v Ev.refl rs h2⟩
 ·cases q
noncomputable def rD (K:PySem.W.Frag) (f:D->D->MH->Option (D×MH)):R2:=fun x y H Q=>∃ ρ mh dx dy d mh',f dx dy mh=some (d,mh')/\RS K H ρ mh/\RD K H ρ dx x/\RD K H ρ dy y/\Co K H ρ mh' d Q
noncomputable def rD1 (K:PySem.W.Frag) (f:D->MH->Option (D×MH)):V->Hp->VK->Prop:=fun x H Q=>∃ ρ mh dx d mh',f dx mh=some (d,mh')/\RS K H ρ mh/\RD K H ρ dx x/\Co K H ρ mh' d Q
noncomputable def rDs (K:PySem.W.Frag) (f:List D->MH->Option (D×MH)):List V->Hp->VK->Prop:=fun xs H Q=>∃ ρ mh ds d mh',f ds mh=some (d,mh')/\RS K H ρ mh/\RDs K H ρ ds xs/\Co K H ρ mh' d Q
theorem Co.ev {K:PySem.W.Frag}{H H1:Hp}{ρ ρ1:List Addr}{mh':MH}{d:D}{Q:VK}(e:Ev K H ρ H1 ρ1) (c:Co K H ρ mh' d Q):Co K H1 ρ1 mh' d Q:=fun H' ρ' v e' rs r=>c H' ρ' v (e.trans e') rs r
noncomputable def dop (f:D->D->MH->Option (D×MH)) (ma mb:DM D):DM D:=ma.bnd fun x=>mb.bnd fun y=>Zl (f x y)
theorem two {K:PySem.W.Frag}{f:D->D->MH->Option (D×MH)}{loc:Loc}{mh:MH}{σ:St}{H:Hp}{Q:VK}(h:tD K loc mh (dop f ma mb loc mh) σ H Q) :
  ∃ x m1,ma loc mh=some (x,m1)/\tOp (rD K f) (tD K loc mh (ma loc mh)) (tD K loc m1 (mb loc m1)) σ H Q:=by
 obtain ⟨ρ,d,mh',q,rl,rs,co⟩:=h;obtain ⟨x,m1,ea,q⟩:=Ay q;obtain ⟨y,m2,eb,q⟩:=Ay q;refine ⟨x,m1,ea,ρ,x,m1,ea,rl,rs,fun H1 ρ1 v1 e1 rs1 r1=>⟨ρ1,y,m2,eb,rl.mono e1,rs1,fun H2 ρ2 v2 e2 rs2 r2=>?_⟩⟩;exact ⟨ρ2,m2,x,y,d,mh',q,rs2,r1.mono e2,r2,co.ev (e1.trans e2)⟩
theorem Wm {f:D->D->MH->Option (D×MH)}(h:∀ ta tb,PE X a ta->PE X b tb->PE X e (tOp (rD X.K f) ta tb)) (ha:DE X a ma) (hb:DE X b mb):DE X e (dop f ma mb):=fun loc mh=>by
 cases ea:ma loc mh with
 | none =>
  have:dop f ma mb loc mh=none:=by unfold dop DM.bnd;rw [ea]
  rw [this];exact Bo
 | some p =>
  refine Bm (h _ _ (ha loc mh) (hb loc p.2)) fun σ H Q q=>?_
  obtain ⟨x,m1,e1,q⟩:=two q;rw [ea] at e1;cases e1;exact q
theorem Aef {op:Operator}{f:D->D->MH->Option (D×MH)}(ho:OpR X (binaryOp op) (rD X.K f)) (ha:DE X a ma) (hb:DE X b mb):DE X (.BinOp a op b pos) (dop f ma mb):=Wm (fun _ _ p q=>Adx ho p q) ha hb
theorem zP {op:CmpOp}{f:D->D->MH->Option (D×MH)}(ho:OpR X (compareOp op) (rD X.K f)) (hm:behindInMarks op b=false) (ha:DE X a ma) (hb:DE X b mb):DE X (.Compare a [op] [b] pos) (dop f ma mb):=Wm (fun _ _ p q=>qO ho p q hm) ha hb
theorem Aeg {f:D->D->MH->Option (D×MH)}(ho:IxR X (rD X.K f)) (hs:Rz b) (ha:DE X a ma) (hb:DE X b mb):DE X (.Subscript a b pos) (dop f ma mb):=Wm (fun _ _ p q=>Ad9 ho p q hs) ha hb
theorem Aeh {op:UnaryOp}{f:D->MH->Option (D×MH)}(ho:UnR X (unaryOp op) (rD1 X.K f)) (ha:DE X a ma):DE X (.UnaryOp op a pos) (ma.bnd fun x=>Zl (f x)):=fun loc mh =>
 Bm (Ady ho (ha loc mh)) fun σ H Q ⟨ρ,d,mh',q,rl,rs,co⟩=>by
 obtain ⟨x,m1,ea,q⟩:=Ay q
 ·exact ⟨ρ,x,m1,ea,rl,rs,fun H1 ρ1 v1 e1 rs1 r1=>⟨ρ1,m1,x,d,mh',q,rs1,r1,co.ev e1⟩⟩
noncomputable def asB:D->Option Bool
 | .bl b=>some b
 | _=>none
noncomputable def Aj (ma:DM D):DM Bool:=ma.bnd fun x=>match asB x with | some b=>Zr b | none=>Zb
theorem rP {f:D->D->MH->Option (D×MH)}(h:∀ ta tb,PE X a ta->PE X b tb->PT X e (dN (tOp (rD X.K f) ta tb))) (ha:DE X a ma) (hb:DE X b mb):DT X e (Aj (dop f ma mb)):=fun loc mh=>by
 cases ea:ma loc mh with
 | none =>
  have:Aj (dop f ma mb) loc mh=none:=by unfold Aj dop DM.bnd;rw [ea]
  rw [this];exact Yy
 | some p =>
  refine Sg (h _ _ (ha loc mh) (hb loc p.2)) ?_;rintro σ H Q ⟨ρ,k,mh',q,rl,rs,co⟩;unfold Aj at q;cases ed:dop f ma mb loc mh with
  | none=>unfold DM.bnd at q;rw [ed] at q;cases q
  | some z =>
   obtain ⟨d,m2⟩:=z;unfold DM.bnd at q;rw [ed] at q;cases d with
   | bl k' =>
    cases q;have t:tD X.K loc mh (dop f ma mb loc mh) σ H (fun x H'=>∃ k,x=.bl k/\Q k H'):=⟨ρ,.bl k,mh',ed,rl,rs,fun H' ρ' v e' rs' r'=>by cases r';exact ⟨k,rfl,co H' ρ' e' rs'⟩⟩;obtain ⟨x,m1,e1,q⟩:=two t;rw [ea] at e1;cases e1;exact q
   | non=>cases q
   | int i=>cases q
   | str s=>cases q
   | tup ds=>cases q
   | ref n=>cases q
   | rol ds=>cases q
   | obj c ks ds=>cases q
   | fn x=>cases q
   | lam=>cases q
   | clo=>cases q
theorem zQ {op:CmpOp}{f:D->D->MH->Option (D×MH)}(ho:OpR X (compareOp op) (rD X.K f)) (hm:behindInMarks op b=false) (ha:DE X a ma) (hb:DE X b mb):DT X (.Compare a [op] [b] pos) (Aj (dop f ma mb)):=rP (fun _ _ p q=>qP ho p q hm) ha hb
noncomputable def Hq (t u:DM Bool):DM Bool:=t.bnd fun c=>if c=true then u else Zr false
noncomputable def Km (t u:DM Bool):DM Bool:=t.bnd fun c=>if c=true then Zr true else u
noncomputable def Hw (t:DM Bool):DM Bool:=t.bnd fun c=>Zr (!c)
noncomputable def DW (X:Cx) (e:Expr) (m:DM Bool):Prop:=∀ loc mh,PW X e (tDT X.K loc mh (m loc mh))
theorem Y0 {loc:Loc}{mh:MH}:PW X e (tDT X.K loc mh none):=fun _ _ _ _ _ _ _ h=>by obtain ⟨_,_,_,e,_⟩:=h;cases e
theorem fL {t t':TT}(h:PW X e t) (i:∀ σ H Q,t' σ H Q->t σ H Q):PW X e t':=fun wh pins s σ H Q I q=>h wh pins s σ H Q I (i σ H Q q)
theorem DW.dt {m:DM Bool}(h:DW X e m):DT X e m:=fun loc mh=>(h loc mh).pt
variable {t u:DM Bool}{rest:List Expr}
theorem rQ (ha:DT X a t):DW X (.BoolOp .And [a] pos) t:=fun loc mh=>qD (ha loc mh)
theorem zR (ha:DT X a t):DW X (.BoolOp .Or [a] pos) t:=fun loc mh=>xU (ha loc mh)
theorem zT (ha:DT X a t) (hb:DW X (.BoolOp .And (b::rest) pos) u):DW X (.BoolOp .And (a::b::rest) pos) (Hq t u):=fun loc mh=>by
 cases ea:t loc mh with
 | none =>
  have:Hq t u loc mh=none:=by unfold Hq DM.bnd;rw [ea]
  rw [this];exact Y0
 | some p =>
  obtain ⟨k,m1⟩:=p;refine fL (xV (ha loc mh) (hb loc m1)) ?_;rintro σ H Q ⟨ρ,k',mh',q,rl,rs,co⟩;have q':(if k=true then u else Zr false) loc m1=some (k',mh'):=by unfold Hq DM.bnd at q;rw [ea] at q;exact q
  refine ⟨ρ,k,m1,ea,rl,rs,fun H1 ρ1 e1 rs1=>?_⟩;cases k with
  | true=>exact R8 ⟨ρ1,k',mh',q',rl.mono e1,rs1,fun H2 ρ2 e2 rs2=>co H2 ρ2 (e1.trans e2) rs2⟩
  | false=>cases q';exact R7 (co H1 ρ1 e1 rs1)
theorem Aei (ha:DT X a t) (hb:DW X (.BoolOp .Or (b::rest) pos) u):DW X (.BoolOp .Or (a::b::rest) pos) (Km t u):=fun loc mh=>by
 cases ea:t loc mh with
 | none =>
  have:Km t u loc mh=none:=by unfold Km DM.bnd;rw [ea]
  rw [this];exact Y0
 | some p =>
  obtain ⟨k,m1⟩:=p;refine fL (Adl (ha loc mh) (hb loc m1)) ?_;rintro σ H Q ⟨ρ,k',mh',q,rl,rs,co⟩;have q':(if k=true then Zr true else u) loc m1=some (k',mh'):=by unfold Km DM.bnd at q;rw [ea] at q;exact q
  refine ⟨ρ,k,m1,ea,rl,rs,fun H1 ρ1 e1 rs1=>?_⟩;cases k with
  | true=>cases q';exact R8 (co H1 ρ1 e1 rs1)
  | false=>exact R7 ⟨ρ1,k',mh',q',rl.mono e1,rs1,fun H2 ρ2 e2 rs2=>co H2 ρ2 (e1.trans e2) rs2⟩
theorem zU (ha:DT X a t):DT X (.UnaryOp .Not a pos) (Hw t):=fun loc mh=>by
 refine Sg (xW (ha loc mh)) ?_;rintro σ H Q ⟨ρ,k',mh',q,rl,rs,co⟩;obtain ⟨k,m1,ea,q⟩:=Ay q
 ·cases q;exact ⟨ρ,k,mh',ea,rl,rs,fun H1 ρ1 e1 rs1=>co H1 ρ1 e1 rs1⟩
noncomputable def dIf (t:DM Bool) (ma mb:DM D):DM D:=t.bnd fun c=>if c=true then ma else mb
theorem Aej (hc:DT X c t) (ha:DE X a ma) (hb:DE X b mb):DE X (.IfExp c a b pos) (dIf t ma mb):=fun loc mh=>by
 cases ea:t loc mh with
 | none =>
  have:dIf t ma mb loc mh=none:=by unfold dIf DM.bnd;rw [ea]
  rw [this];exact Bo
 | some p =>
  obtain ⟨k,m1⟩:=p;refine Bm (dB (hc loc mh) (ha loc m1) (hb loc m1)) ?_;rintro σ H Q ⟨ρ,d,mh',q,rl,rs,co⟩;have q':(if k=true then ma else mb) loc m1=some (d,mh'):=by unfold dIf DM.bnd at q;rw [ea] at q;exact q
  refine ⟨ρ,k,m1,ea,rl,rs,fun H1 ρ1 e1 rs1=>?_⟩;cases k with
  | true=>exact R8 ⟨ρ1,d,mh',q',rl.mono e1,rs1,co.ev e1⟩
  | false=>exact R7 ⟨ρ1,d,mh',q',rl.mono e1,rs1,co.ev e1⟩
noncomputable def Gq (ma mb:DM D):DM D:=(Aj ma).bnd fun c=>if c=true then mb else Zr (.bl false)
noncomputable def fM (ma mb:DM D):DM D:=(Aj ma).bnd fun c=>if c=true then Zr (.bl true) else mb
theorem Fo {loc:Loc}{mh:MH}{k:Bool}{m1:MH}(h:Aj ma loc mh=some (k,m1)):ma loc mh=some (.bl k,m1):=by
 obtain ⟨x,m2,ea,h⟩:=Ay h
 ·cases x with
  | bl b=>cases h;exact ea
  | non=>cases h
  | int i=>cases h
  | str s=>cases h
  | tup ds=>cases h
  | ref n=>cases h
  | rol ds=>cases h
  | obj c ks ds=>cases h
  | fn x=>cases h
  | lam=>cases h
  | clo=>cases h
theorem zV {op}(ha:DE X a ma):DE X (.BoolOp op [a] pos) ma:=fun loc mh=>xX (ha loc mh)
theorem zW (ha:DE X a ma) (hb:DE X (.BoolOp .And (b::rest) pos) mb):DE X (.BoolOp .And (a::b::rest) pos) (Gq ma mb):=fun loc mh=>by
 cases ea:Aj ma loc mh with
 | none =>
  have:Gq ma mb loc mh=none:=by unfold Gq DM.bnd;rw [ea]
  rw [this];exact Bo
 | some p =>
  obtain ⟨k,m1⟩:=p;refine Bm (xY (ha loc mh) (hb loc m1)) ?_;rintro σ H Q ⟨ρ,d,mh',q,rl,rs,co⟩;have q':(if k=true then mb else Zr (.bl false)) loc m1=some (d,mh'):=by unfold Gq DM.bnd at q;rw [ea] at q;exact q
  refine ⟨ρ,.bl k,m1,Fo ea,rl,rs,fun H1 ρ1 v e1 rs1 r1=>?_⟩;cases r1;refine ⟨k,rfl,?_⟩;cases k with
  | true=>exact R8 ⟨ρ1,d,mh',q',rl.mono e1,rs1,co.ev e1⟩
  | false=>cases q';exact R7 (co H1 ρ1 _ e1 rs1 (.bl false))
theorem Aek (ha:DE X a ma) (hb:DE X (.BoolOp .Or (b::rest) pos) mb):DE X (.BoolOp .Or (a::b::rest) pos) (fM ma mb):=fun loc mh=>by
 cases ea:Aj ma loc mh with
 | none =>
  have:fM ma mb loc mh=none:=by unfold fM DM.bnd;rw [ea]
  rw [this];exact Bo
 | some p =>
  obtain ⟨k,m1⟩:=p;refine Bm (Ado (ha loc mh) (hb loc m1)) ?_;rintro σ H Q ⟨ρ,d,mh',q,rl,rs,co⟩;have q':(if k=true then Zr (.bl true) else mb) loc m1=some (d,mh'):=by unfold fM DM.bnd at q;rw [ea] at q;exact q
  refine ⟨ρ,.bl k,m1,Fo ea,rl,rs,fun H1 ρ1 v e1 rs1 r1=>?_⟩;cases r1;refine ⟨k,rfl,?_⟩;cases k with
  | true=>cases q';exact R8 (co H1 ρ1 _ e1 rs1 (.bl true))
  | false=>exact R7 ⟨ρ1,d,mh',q',rl.mono e1,rs1,co.ev e1⟩
theorem zX (ha:DE X a ma):DE X (.UnaryOp .Not a pos) ((Aj ma).bnd fun c=>Zr (.bl (!c))):=fun loc mh=>by
 refine Bm (xZ (ha loc mh)) ?_;rintro σ H Q ⟨ρ,d,mh',q,rl,rs,co⟩;cases ea:Aj ma loc mh with
 | none=>unfold DM.bnd at q;rw [ea] at q;cases q
 | some p =>
  obtain ⟨k,m1⟩:=p;unfold DM.bnd at q;rw [ea] at q;cases q;refine ⟨ρ,.bl k,mh',Fo ea,rl,rs,fun H1 ρ1 v e1 rs1 r1=>?_⟩;cases r1;exact ⟨k,rfl,co H1 ρ1 _ e1 rs1 (.bl _)⟩
noncomputable def fO:D->MH->Option Bool
 | .non,_=>some false
 | .bl b,_=>some b
 | .int i,_=>some (i != 0)
 | .str y,_=>if y.length<=sizeLine then some ((y.length:Int) != 0) else none
 | .tup ds,_=>some (!ds.isEmpty)
 | .ref n,mh=>match mh[n]? with | some (.lst o)=>some (!o.isEmpty) | _=>none
 | .rol ds,_=>some (!ds.isEmpty)
 | .obj ..,_=>none
 | .fn _,_=>none
 | .lam,_=>none
 | .clo _ _,_=>none
theorem Hx {K:PySem.W.Frag}{H:Hp}{ρ:List Addr}{ds:List D}{xs:List V}(r:RDs K H ρ ds xs):ds.isEmpty=xs.isEmpty:=by cases r <;> rfl
theorem rR {K:PySem.W.Frag}{H:Hp}{ρ:List Addr}{mh:MH}{d:D}{v:V}{k:Bool}(rs:RS K H ρ mh) (r:RD K H ρ d v) (e:fO d mh=some k):yZ K v H k:=by
 cases r with
 | non=>cases e;rfl
 | bl b=>cases e;rfl
 | int i=>cases e;rfl
 | str x =>
  have e:(if x.length<=sizeLine then some ((x.length:Int) != 0) else none)=some k:=e;split at e
  ·rename_i hz;cases e;exact ⟨hz,rfl⟩
  ·cases e
 | tup s r=>cases e;exact .inr (.inl ⟨_,s,by rw [Hx r]⟩)
 | rol s r=>cases e;exact .inl ⟨_,s.sq,by rw [Hx r]⟩
 | obj n s l r=>cases e
 | fn h=>cases e
 | lam h=>cases e
 | clo=>cases e
 | @ref n a h =>
  have e:(match mh[n]? with | some (.lst o)=>some (!o.isEmpty) | _=>none)=some k:=e;split at e
  ·rename_i o eo;cases e;obtain ⟨a',ha,ro⟩:=rs.at eo;rw [h] at ha;cases ha;obtain ⟨xs,q,r⟩:=ro.read;exact .inl ⟨xs,q,by rw [Hx r]⟩
  ·cases e
noncomputable def Hr (ma:DM D):DM Bool:=ma.bnd fun x=>fun _ mh=>match fO x mh with | some k=>some (k,mh) | none=>none
theorem Uk (ha:DE X a ma) (he:∀ whole,isTrue a X.env whole=(do let v ← whole;standAt a.pos;holding [v] (truthy v))):DT X a (Hr ma):=fun loc mh=>by
 refine Sg (dU (ha loc mh) he) ?_;rintro σ H Q ⟨ρ,k,mh',q,rl,rs,co⟩;obtain ⟨x,m1,ea,q⟩:=Ay q
 ·split at q
  ·rename_i k' ek;cases q;exact ⟨ρ,x,mh',ea,rl,rs,fun H1 ρ1 v e1 rs1 r1=>⟨k,rR rs1 r1 ek,co H1 ρ1 e1 rs1⟩⟩
  ·cases q
noncomputable def Aa (ma:DM D) (mr:DM (List D)):DM (List D):=ma.bnd fun x=>mr.bnd fun xs=>Zr (x::xs)
theorem fP:DA X [] (Zr []):=by
 refine fun loc mh=>fH Gx ?_
 rintro σ H Q ⟨ρ,ds,mh',q,rl,rs,co⟩;cases q;exact co H ρ [] Ev.refl rs .nil
theorem Nz {es:List Expr}{mr:DM (List D)}(ha:DE X a ma) (hr:DA X es mr) (hs:starEach (a::es) X.env=(false,eval a X.env)::starEach es X.env):DA X (a::es) (Aa ma mr):=fun loc mh=>by
 cases ea:ma loc mh with
 | none =>
  have:Aa ma mr loc mh=none:=by unfold Aa DM.bnd;rw [ea]
  rw [this];exact Yz
 | some p =>
  obtain ⟨x,m1⟩:=p;refine fH (Dp (ha loc mh) (hr loc m1) hs) ?_;rintro σ H Q ⟨ρ,ds,mh',q,rl,rs,co⟩;obtain ⟨x2,m2,ea2,q⟩:=Ay q;rw [ea] at ea2;cases ea2;obtain ⟨xs,m2,er,q'⟩:=Ay q
  ·cases q';exact ⟨ρ,x,m1,ea,rl,rs,fun H1 ρ1 v e1 rs1 r1=>⟨ρ1,xs,mh',er,rl.mono e1,rs1,fun H2 ρ2 vs e2 rs2 r2=>co H2 ρ2 _ (e1.trans e2) rs2 (.cons (r1.mono e2) r2)⟩⟩
noncomputable def Q5 (ds:List D) (mh:MH):Option (D×MH):=if ds.length<=sizeLine then some (.tup ds,mh) else none
noncomputable def Q6 (ds:List D) (mh:MH):Option (D×MH):=if ds.length<=sizeLine then some (.ref mh.length,mh++[.lst ds]) else none
theorem RS.last {K:PySem.W.Frag}{H:Hp}{ρ:List Addr}{mh:MH}(h:RS K H ρ mh) (p:Addr):(ρ++[p])[mh.length]?=some p:=by rw [← h.len];simp
theorem Co.newT {K:PySem.W.Frag}{H:Hp}{ρ:List Addr}{mh:MH}{ds:List D}{vs:List V}{Q:VK}(rs:RS K H ρ mh) (r:RDs K H ρ ds vs) (co:Co K H ρ mh (.tup ds) Q):∀ p,H p=none->Q (.ref p) (upd H p (.tup vs)):=fun p hp =>
 co _ ρ _ (Ev.new hp) (rs.new hp) (.tup (.inl (.inl Be)) (r.mono (Ev.new hp)))
theorem Co.newL {K:PySem.W.Frag}{H:Hp}{ρ:List Addr}{mh:MH}{ds:List D}{vs:List V}{Q:VK}(rs:RS K H ρ mh) (r:RDs K H ρ ds vs) (co:Co K H ρ (mh++[.lst ds]) (.ref mh.length) Q):∀ p,H p=none->Q (.ref p) (upd H p (.lst vs)):=fun p hp =>
 co _ (ρ++[p]) _ (Ev.newL hp) (rs.newL hp r) (.ref (rs.last p))
theorem zY {es:List Expr}{mr:DM (List D)}{x1}(h:DA X es mr):DE X (.Tuple es x1 pos) (mr.bnd fun ds=>Zl (Q5 ds)):=fun loc mh=>by
 refine Bm (dZ (h loc mh)) ?_;rintro σ H Q ⟨ρ,d,mh',q,rl,rs,co⟩;obtain ⟨ds,m1,ea,q⟩:=Ay q
 ·unfold Zl Q5 at q;split at q
  ·rename_i hz;cases q;exact ⟨ρ,ds,mh',ea,rl,rs,fun H1 ρ1 vs e1 rs1 r1=>⟨by rw [← r1.length];exact hz,Co.newT rs1 r1 (co.ev e1)⟩⟩
  ·cases q
theorem zZ {es:List Expr}{mr:DM (List D)}(h:DA X es mr):DE X (.List es pos) (mr.bnd fun ds=>Zl (Q6 ds)):=fun loc mh=>by
 refine Bm (zF (h loc mh)) ?_;rintro σ H Q ⟨ρ,d,mh',q,rl,rs,co⟩;obtain ⟨ds,m1,ea,q⟩:=Ay q
 ·unfold Zl Q6 at q;split at q
  ·rename_i hz;cases q;exact ⟨ρ,ds,m1,ea,rl,rs,fun H1 ρ1 vs e1 rs1 r1=>⟨by rw [← r1.length];exact hz,Co.newL rs1 r1 (co.ev e1)⟩⟩
  ·cases q
theorem Fp {f:List D->MH->Option (D×MH)}{es:List Expr}{mr:DM (List D)}{x:Str}{p:Pos}{id:String}(hc:Ca X (.builtin id) (rDs X.K f)) (hg:Gl X x) (hm:X.mg x=none) (hv:bootBuiltins x=some (.builtin id)) (ha:DA X (a::es) mr)
  (hn:x ≠ "__name__") (hdb:(x==("__debug__":Str))=false) (he:starEach (a::es) X.env=(false,eval a X.env)::starEach es X.env) (hpl:(backTo pos (starEach es X.env)).any (·.1)=false) :
  DE X (.Call (.Name x p) (a::es) [] pos) (mr.bnd fun ds=>Zl (f ds)):=fun loc mh=>by
 refine Bm (Ug hc hg hm hv (ha loc mh) hn hdb he hpl) ?_;rintro σ H Q ⟨ρ,d,mh',q,rl,rs,co⟩;obtain ⟨ds,m1,ea,q⟩:=Ay q
 ·exact ⟨ρ,ds,m1,ea,rl,rs,fun H1 ρ1 vs e1 rs1 r1=>⟨ρ1,m1,ds,d,mh',q,rs1,r1,co.ev e1⟩⟩
theorem Li {f:List D->MH->Option (D×MH)}{es:List Expr}{mr:DM (List D)}{x:Str}{p:Pos}{T:String}(hc:Ca X (.type T) (rDs X.K f)) (hg:Gl X x) (hm:X.mg x=none) (hv:bootBuiltins x=some (.type T)) (ha:DA X (a::es) mr)
  (hn:x ≠ "__name__") (hdb:(x==("__debug__":Str))=false) (he:starEach (a::es) X.env=(false,eval a X.env)::starEach es X.env) (hpl:(backTo pos (starEach es X.env)).any (·.1)=false) :
  DE X (.Call (.Name x p) (a::es) [] pos) (mr.bnd fun ds=>Zl (f ds)):=fun loc mh=>by
 refine Bm (Gp hc hg hm hv (ha loc mh) hn hdb he hpl) ?_;rintro σ H Q ⟨ρ,d,mh',q,rl,rs,co⟩;obtain ⟨ds,m1,ea,q⟩:=Ay q
 ·exact ⟨ρ,ds,m1,ea,rl,rs,fun H1 ρ1 vs e1 rs1 r1=>⟨ρ1,m1,ds,d,mh',q,rs1,r1,co.ev e1⟩⟩
end
section
variable {X:Cx}
theorem N5 {f:Value->Value->Sem Value}{r r':R2}(h:OpR X f r) (i:∀ x y H Q,r' x y H Q->r x y H Q):OpR X f r':=fun pins s σ H x y v u Q I rx ry q=>h pins s σ H x y v u Q I rx ry (i x y H Q q)
noncomputable def iop (C:Int->Int->Bool) (g:Int->Int->Int):D->D->MH->Option (D×MH)
 | .int i,.int j,mh=>if C i j=true then some (.int (g i j),mh) else none
 | _,_,_=>none
theorem Ju {f:Value->Value->Sem Value}{C:Int->Int->Prop}{Cb:Int->Int->Bool}{g:Int->Int->Int}(h:OpR X f (rI C fun i j=>.int (g i j))) (hC:∀ i j,Cb i j=true->C i j):OpR X f (rD X.K (iop Cb g)):=by
 refine N5 h ?_;rintro x y H Q ⟨ρ,mh,dx,dy,d,mh',q,rs,rx,ry,co⟩;cases rx with
 | int i =>
  cases ry with
  | int j =>
   have q:(if Cb i j=true then some (D.int (g i j),mh) else none)=some (d,mh'):=q;split at q
   ·rename_i hc;cases q;exact ⟨i,j,rfl,rfl,hC i j hc,co H ρ _ Ev.refl rs (.int _)⟩
   ·cases q
  | _=>cases q
 | _=>cases q
theorem Sh {f:Value->Value->Sem Value}{g:Int->Int->Int}(h:OpR X f (rI0 fun i j=>.int (g i j))):OpR X f (rD X.K (iop (fun _ _=>true) g)) :=
 Ju (C:=fun _ _=>True) (N5 h fun x y H Q ⟨i,j,e1,e2,_,q⟩=>⟨i,j,e1,e2,q⟩) fun _ _ _=>trivial
noncomputable def Ql (g:Int->Int->Bool):D->D->MH->Option (D×MH)
 | .int i,.int j,mh=>some (.bl (g i j),mh)
 | _,_,_=>none
theorem N6 {f:Value->Value->Sem Value}{g:Int->Int->Bool}(h:OpR X f (rI0 fun i j=>.bl (g i j))):OpR X f (rD X.K (Ql g)):=by
 refine N5 h ?_;rintro x y H Q ⟨ρ,mh,dx,dy,d,mh',q,rs,rx,ry,co⟩;cases rx with
 | int i =>
  cases ry with
  | int j =>
   cases q;exact ⟨i,j,rfl,rfl,co H ρ _ Ev.refl rs (.bl _)⟩
  | _=>cases q
 | _=>cases q
noncomputable def Cd:D->D->MH->Option (D×MH)
 | .int i,.int j,mh=>some (.int (i+j),mh)
 | .str i,.str j,mh=>if i.length+j.length<=sizeLine then some (.str (i++j),mh) else none
 | .tup xs,.tup ys,mh=>if xs.length+ys.length<=sizeLine then some (.tup (xs++ys),mh) else none
 | .ref n,.ref m,mh=>match mh[n]?,mh[m]? with
  | some (.lst xs),some (.lst ys)=>if xs.length+ys.length<=sizeLine then some (.ref mh.length,mh++[.lst (xs++ys)]) else none
  | _,_=>none
 | _,_,_=>none
end
noncomputable def Df {α β:Type}(f:α->Option β):List α->Option (List β)
 | []=>some []
 | x::xs=>match f x with
  | some y=>match Df f xs with
   | some ys=>some (y::ys)
   | none=>none
  | none=>none
noncomputable def py (mh:MH):Nat->D->Option PyData
 | _,.non=>some .none
 | _,.bl b=>some (.bool b)
 | _,.int i=>some (.int i)
 | _,.str x=>if PyData.strOk x=true then some (.str x) else none
 | 0,.tup _=>none
 | 0,.ref _=>none
 | 0,.rol _=>none
 | 0,.obj ..=>none
 | _+1,.obj ..=>none
 | 0,.fn _=>none
 | 0,.lam=>none
 | 0,.clo _ _=>none
 | _+1,.fn _=>none
 | _+1,.lam=>none
 | _+1,.clo _ _=>none
 | n+1,.tup ds=>match Df (py mh n) ds with | some xs=>some (.tuple xs) | none=>none
 | n+1,.rol ds=>match Df (py mh n) ds with | some xs=>some (.list xs) | none=>none
 | n+1,.ref k=>match mh[k]? with
  | some (.lst o)=>match Df (py mh n) o with | some xs=>some (.list xs) | none=>none
  | _=>none
section
variable {X:Cx}{pins:List (Addr×Obj)}{σ:St}{H:Hp}{s:Shared}{ρ:List Addr}{mh:MH}
theorem Dc (I:Inv X pins σ H s) (rs:RS X.K H ρ mh):∀ (n:Nat) (d:D) (v:V) (u:Value) (a:PyData),py mh n d=some a->RD X.K H ρ d v->RelV v u->(∃ as,Reads s.heap u a as)/\a.canLay0=true/\a.depth<=n:=by
 intro n
 induction n with
 | zero =>
  intro d v u a e r rv;cases r with
  | non=>cases e;cases rv;exact ⟨⟨_,.none⟩,rfl,Nat.le_refl _⟩
  | bl b=>cases e;cases rv;exact ⟨⟨_,.bool b⟩,rfl,Nat.le_refl _⟩
  | int i=>cases e;obtain ⟨t,rfl⟩:=rv;exact ⟨⟨_,.int i t⟩,rfl,Nat.le_refl _⟩
  | str x =>
   have e:(if PyData.strOk x=true then some (PyData.str x) else none)=some a:=e;split at e
   ·cases e;obtain ⟨t,rfl⟩:=rv;exact ⟨⟨_,.str x t⟩,by assumption,Nat.le_refl _⟩
   ·cases e
  | tup s r=>cases e
  | ref h=>cases e
  | rol s r=>cases e
  | obj n s l r=>cases e
  | fn h=>cases e
  | lam h=>cases e
  | clo=>cases e
 | succ n ih =>
  have all:∀ (ds:List D) (vs:List V) (us:List Value) (as:List PyData),Df (py mh n) ds=some as->RDs X.K H ρ ds vs->Vals vs us->(∃ bs,ReadsAll s.heap us as bs)/\PyData.canLayAll0 as=true/\PyData.depthAll as<=n:=by
   intro ds
   induction ds with
   | nil=>intro vs us as e r rv;cases e;cases r;cases rv;exact ⟨⟨_,.nil⟩,rfl,Nat.zero_le _⟩
   | cons d ds ihd =>
    intro vs us as e r rv;cases r with
    | cons r1 r2 =>
     cases rv with
     | cons v1 v2 =>
      simp only [Df] at e;split at e
      ·rename_i y ey;split at e
       ·rename_i ys eys;cases e;obtain ⟨⟨a1,h1⟩,h2,h3⟩:=ih _ _ _ _ ey r1 v1;obtain ⟨⟨b1,g1⟩,g2,g3⟩:=ihd _ _ _ eys r2 v2;refine ⟨⟨_,.cons h1 g1⟩,?_,?_⟩
        ·simp only [PyData.canLayAll0,h2,g2,Bool.and_self]
        ·simp only [PyData.depthAll];omega
       ·cases e
      ·cases e
  intro d v u a e r rv;cases r with
  | non=>cases e;cases rv;exact ⟨⟨_,.none⟩,rfl,Nat.zero_le _⟩
  | bl b=>cases e;cases rv;exact ⟨⟨_,.bool b⟩,rfl,Nat.zero_le _⟩
  | int i=>cases e;obtain ⟨t,rfl⟩:=rv;exact ⟨⟨_,.int i t⟩,rfl,Nat.zero_le _⟩
  | str x =>
   have e:(if PyData.strOk x=true then some (PyData.str x) else none)=some a:=e;split at e
   ·cases e;obtain ⟨t,rfl⟩:=rv;exact ⟨⟨_,.str x t⟩,by assumption,Nat.zero_le _⟩
   ·cases e
  | @tup ds a' xs sq r =>
   cases rv;have e:(match Df (py mh n) ds with | some xs=>some (PyData.tuple xs) | none=>none)=some a:=e;split at e
   ·rename_i ys ey;cases e;obtain ⟨its,rv,⟨o,h1,h2,n',h3⟩,_⟩:=I.tuple sq;obtain ⟨⟨bs,g1⟩,g2,g3⟩:=all ds xs its ys ey r rv;refine ⟨⟨_,.tuple h1 h2 h3 (by simpa using g1)⟩,by simpa [PyData.canLay0] using g2,?_⟩;simp only [PyData.depth];omega
   ·cases e
  | obj n s l r=>cases e
  | fn h=>cases e
  | lam h=>cases e
  | clo=>cases e
  | @rol ds a' xs sq r =>
   cases rv;have e:(match Df (py mh n) ds with | some xs=>some (PyData.list xs) | none=>none)=some a:=e;split at e
   ·rename_i ys ey;cases e;obtain ⟨its,rv,⟨ob,n',h1,h2,h2',h3⟩,_⟩:=I.list sq.sq;obtain ⟨⟨bs,g1⟩,g2,g3⟩:=all _ xs its ys ey r rv;refine ⟨⟨_,.list h1 h2 h3 (by simpa using g1)⟩,by simpa [PyData.canLay0] using g2,?_⟩;simp only [PyData.depth];omega
   ·cases e
  | @ref k a' h =>
   cases rv;have e:(match mh[k]? with | some (.lst o)=>(match Df (py mh n) o with | some xs=>some (PyData.list xs) | none=>none) | _=>none)=some a:=e;split at e
   ·rename_i o eo;split at e
    ·rename_i ys ey;cases e;obtain ⟨a2,ha,ro⟩:=rs.at eo;rw [h] at ha;cases ha;obtain ⟨xs,sq,r⟩:=ro.read;obtain ⟨its,rv,⟨ob,n',h1,h2,h2',h3⟩,_⟩:=I.list sq;obtain ⟨⟨bs,g1⟩,g2,g3⟩:=all _ xs its ys ey r rv;refine ⟨⟨_,.list h1 h2 h3 (by simpa using g1)⟩,by simpa [PyData.canLay0] using g2,?_⟩;simp only [PyData.depth];omega
    ·cases e
   ·cases e
noncomputable def eqB (mh:MH) (x y:D):Option Bool:=match py mh 60 x,py mh 60 y with
 | some a,some b=>some (PyData.eqv a b)
 | _,_=>none
noncomputable def eqD (x y:D) (mh:MH):Option (D×MH):=match eqB mh x y with | some k=>some (.bl k,mh) | none=>none
noncomputable def neD (x y:D) (mh:MH):Option (D×MH):=match eqB mh x y with | some k=>some (.bl (!k),mh) | none=>none
theorem fQ {A:Around}{a b:PyData}(hu:A.units+64 < cLine) (h:a.depth<=60):A.units+min a.depth b.depth < cLine:=by omega
theorem Ul {x y:D}{k:Bool}(h:eqB mh x y=some k):∃ a b,py mh 60 x=some a/\py mh 60 y=some b/\k=PyData.eqv a b:=by
 unfold eqB at h;split at h
 ·rename_i a b ea eb;cases h;exact ⟨a,b,ea,eb,rfl⟩
 ·cases h
theorem Aaa (hu:X.A.units+64 < cLine):OpR X (compareOp .Eq) (rD X.K eqD):=by
 rintro pins s σ H x y v u Q I rx ry ⟨ρ,mh,dx,dy,d,mh',q,rs,r1,r2,co⟩;unfold eqD at q;split at q
 ·rename_i k ek;cases q;obtain ⟨a,b,ea,eb,rfl⟩:=Ul ek;obtain ⟨⟨as,h1⟩,h2,h3⟩:=Dc I rs 60 dx x v a ea r1 rx;obtain ⟨⟨bs,g1⟩,g2,g3⟩:=Dc I rs 60 dy y u b eb r2 ry;exact SeqAt.compareEq_reads h1 g1 h2 g2 (fQ hu h3) ⟨.bl _,H,I,rfl,co H ρ _ Ev.refl rs (.bl _)⟩
 ·cases q
theorem Aab (hu:X.A.units+64 < cLine):OpR X (compareOp .NotEq) (rD X.K neD):=by
 rintro pins s σ H x y v u Q I rx ry ⟨ρ,mh,dx,dy,d,mh',q,rs,r1,r2,co⟩;unfold neD at q;split at q
 ·rename_i k ek;cases q;obtain ⟨a,b,ea,eb,rfl⟩:=Ul ek;obtain ⟨⟨as,h1⟩,h2,h3⟩:=Dc I rs 60 dx x v a ea r1 rx;obtain ⟨⟨bs,g1⟩,g2,g3⟩:=Dc I rs 60 dy y u b eb r2 ry;exact SeqAt.compareNe_reads h1 g1 h2 g2 (fQ hu h3) ⟨.bl _,H,I,rfl,co H ρ _ Ev.refl rs (.bl _)⟩
 ·cases q
noncomputable def inB (mh:MH) (x c:D):Option Bool:=match py mh 60 x,py mh 60 c with
 | some a,some (.list xs)=>some (xs.any fun y=>PyData.eqv y a)
 | some a,some (.tuple xs)=>some (xs.any fun y=>PyData.eqv y a)
 | _,_=>none
noncomputable def Um (neg:Bool) (x c:D) (mh:MH):Option (D×MH):=match inB mh x c with | some k=>some (.bl (if neg then !k else k),mh) | none=>none
theorem rT (hu:X.A.units+64 < cLine):OpR X (compareOp .In) (rD X.K (Um false)):=by
 rintro pins s σ H x y v u Q I rx ry ⟨ρ,mh,dx,dy,d,mh',q,rs,r1,r2,co⟩;unfold Um at q;split at q
 ·rename_i k ek;cases q;unfold inB at ek;split at ek
  ·rename_i a xs ea eb;cases ek;obtain ⟨⟨as,h1⟩,h2,h3⟩:=Dc I rs 60 dx x v a ea r1 rx;obtain ⟨⟨bs,g1⟩,g2,g3⟩:=Dc I rs 60 dy y u _ eb r2 ry;exact SeqAt.in_list_reads g1 h1 (by simpa [PyData.canLay0] using g2) h2 (by simp only [PyData.depth] at g3;omega) ⟨.bl _,H,I,rfl,co H ρ _ Ev.refl rs (.bl _)⟩
  ·rename_i a xs ea eb;cases ek;obtain ⟨⟨as,h1⟩,h2,h3⟩:=Dc I rs 60 dx x v a ea r1 rx;obtain ⟨⟨bs,g1⟩,g2,g3⟩:=Dc I rs 60 dy y u _ eb r2 ry;exact SeqAt.in_tuple_reads g1 h1 (by simpa [PyData.canLay0] using g2) h2 (by simp only [PyData.depth] at g3;omega) ⟨.bl _,H,I,rfl,co H ρ _ Ev.refl rs (.bl _)⟩
  ·cases ek
 ·cases q
theorem Wn (hu:X.A.units+64 < cLine):OpR X (compareOp .NotIn) (rD X.K (Um true)):=by
 rintro pins s σ H x y v u Q I rx ry ⟨ρ,mh,dx,dy,d,mh',q,rs,r1,r2,co⟩;unfold Um at q;split at q
 ·rename_i k ek;cases q;unfold inB at ek;split at ek
  ·rename_i a xs ea eb;cases ek;obtain ⟨⟨as,h1⟩,h2,h3⟩:=Dc I rs 60 dx x v a ea r1 rx;obtain ⟨⟨bs,g1⟩,g2,g3⟩:=Dc I rs 60 dy y u _ eb r2 ry;exact SeqAt.notIn_list_reads g1 h1 (by simpa [PyData.canLay0] using g2) h2 (by simp only [PyData.depth] at g3;omega) ⟨.bl _,H,I,rfl,co H ρ _ Ev.refl rs (.bl _)⟩
  ·rename_i a xs ea eb;cases ek;obtain ⟨⟨as,h1⟩,h2,h3⟩:=Dc I rs 60 dx x v a ea r1 rx;obtain ⟨⟨bs,g1⟩,g2,g3⟩:=Dc I rs 60 dy y u _ eb r2 ry;exact SeqAt.notIn_tuple_reads g1 h1 (by simpa [PyData.canLay0] using g2) h2 (by simp only [PyData.depth] at g3;omega) ⟨.bl _,H,I,rfl,co H ρ _ Ev.refl rs (.bl _)⟩
  ·cases ek
 ·cases q
end
section
variable {X:Cx}
noncomputable def isD (neg:Bool) (x y:D) (mh:MH):Option (D×MH):=match y with
 | .non=>some (.bl (if neg then !(match x with | .non=>true | _=>false) else match x with | .non=>true | _=>false),mh)
 | .bl b=>(match x with
  | .bl a=>some (.bl (if neg then a != b else a==b),mh)
  | .non=>some (.bl neg,mh)
  | _=>none)
 | _=>none
theorem Aac:OpR X (compareOp .Is) (rD X.K (isD false)):=by
 rintro pins s σ H x y v u Q I rx ry ⟨ρ,mh,dx,dy,d,mh',q,rs,r1,r2,co⟩;cases r2 with
 | non =>
  cases q;cases ry;refine is_none_gen ⟨.bl _,H,I,?_,co H ρ _ Ev.refl rs (.bl _)⟩;rw [rx.none_iff];cases r1 <;> rfl
 | bl b =>
  cases r1 with
  | bl a=>cases q;cases rx;cases ry;exact is_bool ⟨.bl _,H,I,rfl,co H ρ _ Ev.refl rs (.bl _)⟩
  | non=>cases q;cases rx;cases ry;exact wpAny_pure (a:=Value.bool false) ⟨.bl _,H,I,rfl,co H ρ _ Ev.refl rs (.bl _)⟩
  | _=>cases q
 | _=>cases q
theorem aX:OpR X (compareOp .IsNot) (rD X.K (isD true)):=by
 rintro pins s σ H x y v u Q I rx ry ⟨ρ,mh,dx,dy,d,mh',q,rs,r1,r2,co⟩;cases r2 with
 | non =>
  cases q;cases ry;refine isnot_none_gen ⟨.bl _,H,I,?_,co H ρ _ Ev.refl rs (.bl _)⟩;rw [rx.none_iff];cases r1 <;> rfl
 | bl b =>
  cases r1 with
  | bl a=>cases q;cases rx;cases ry;exact isnot_bool ⟨.bl _,H,I,rfl,co H ρ _ Ev.refl rs (.bl _)⟩
  | non=>cases q;cases rx;cases ry;exact wpAny_pure (a:=Value.bool true) ⟨.bl _,H,I,rfl,co H ρ _ Ev.refl rs (.bl _)⟩
  | _=>cases q
 | _=>cases q
theorem fU:OpR X (binaryOp .Add) (fun x y H Q=>∃ a b ys,x=.ref a/\y=.ref b/\SqT X.K H a []/\SqT X.K H b ys/\Q (.ref b) H):=by
 rintro pins s σ H x y v u Q I rx ry ⟨a,b,ys,e1,e2,ha,hb,q⟩;subst e1;subst e2;cases rx;cases ry;obtain ⟨its,r1,p1,_⟩:=I.tuple ha;obtain ⟨its2,r2,p2,_⟩:=I.tuple hb;cases r1;obtain ⟨⟨cls,dd,data,sl⟩,ho,hc,n,hd⟩:=id p1;obtain ⟨⟨cls2,dd2,data2,sl2⟩,ho2,hc2,n2,hd2⟩:=id p2;simp only at hc hd hc2 hd2;subst hc hd hc2 hd2;exact concat_meets ⟨_,ho,rfl⟩ ⟨_,ho2,rfl⟩ noFill_tuple_add seq_tuple_add PySem.F.slot_tuple_add PySem.F.entry_tuple_add (PySem.F.args_tuple_add_2 _ _) (tuple_addW0 a b _ _ n n2 dd dd2 sl sl2 (by simp)) ⟨ho,ho2,⟨.ref b,H,I,rfl,q⟩⟩
theorem rW:OpR X (binaryOp .Add) (rD X.K Cd):=by
 refine N5 (yP.or (V9.or (rB.or (zN.or fU)))) ?_;rintro x y H Q ⟨ρ,mh,dx,dy,d,mh',q,rs,rx,ry,co⟩;cases rx with
 | int i =>
  cases ry with
  | int j=>cases q;exact .inl ⟨i,j,rfl,rfl,co H ρ _ Ev.refl rs (.int _)⟩
  | _=>cases q
 | str i =>
  cases ry with
  | str j =>
   have q:(if i.length+j.length<=sizeLine then some (D.str (i++j),mh) else none)=some (d,mh'):=q;split at q
   ·rename_i hz;cases q;exact .inr (.inl ⟨i,j,rfl,rfl,hz,co H ρ _ Ev.refl rs (.str _)⟩)
   ·cases q
  | _=>cases q
 | @tup xs a us s1 r1 =>
  cases ry with
  | @tup ys b ws s2 r2 =>
   have q:(if xs.length+ys.length<=sizeLine then some (D.tup (xs++ys),mh) else none)=some (d,mh'):=q;split at q
   ·rename_i hz;cases q
    by_cases hne:xs=[]
    ·subst hne;cases r1;exact .inr (.inr (.inr (.inr ⟨a,b,ws,rfl,rfl,s1,s2,co H ρ _ Ev.refl rs (.tup s2 r2)⟩)))
    ·refine .inr (.inr (.inl ⟨a,b,us,ws,rfl,rfl,s1,s2,fun z=>hne ?_,by rw [← r1.length,← r2.length];exact hz,?_⟩))
     ·rw [z] at r1;cases r1;rfl
     ·refine ⟨fun z=>?_,fun z=>Co.newT rs (r1.append r2) co⟩;subst z;cases r2;exact co H ρ _ Ev.refl rs (.tup s1 (by rw [List.append_nil];exact r1))
   ·cases q
  | _=>cases q
 | @ref n a ha =>
  cases ry with
  | @ref m b hb =>
   have q:(match mh[n]?,mh[m]? with
    | some (.lst xs),some (.lst ys)=>if xs.length+ys.length<=sizeLine then some (D.ref mh.length,mh++[.lst (xs++ys)]) else none
    | _,_=>none)=some (d,mh'):=q
   split at q
   ·rename_i xs ys e1 e2;split at q
    ·rename_i hz;cases q;obtain ⟨a2,h1,us,g1,r1⟩:=rs.at e1;obtain ⟨b2,h2,ws,g2,r2⟩:=rs.at e2;rw [ha] at h1;rw [hb] at h2;cases h1;cases h2;exact .inr (.inr (.inr (.inl ⟨a,b,us,ws,rfl,rfl,g1,g2,by rw [← r1.length,← r2.length];exact hz,Co.newL rs (r1.append r2) co⟩)))
    ·cases q
   ·cases q
  | _=>cases q
 | _=>cases q
end
section
variable {X:Cx}
theorem Lj {f:Value}{r r':List V->Hp->VK->Prop}(h:Ca X f r) (i:∀ xs H Q,r' xs H Q->r xs H Q):Ca X f r':=fun pins s σ H xs us Q I rx q=>h pins s σ H xs us Q I rx (i xs H Q q)
theorem rY {r r':R2}(h:IxR X r) (i:∀ x y H Q,r' x y H Q->r x y H Q):IxR X r':=fun a b pins s σ H x y v u Q I rx ry q hs=>h a b pins s σ H x y v u Q I rx ry (i x y H Q q) hs
theorem rZ {r r':V->Option Int->Option Int->Hp->VK->Prop}(h:SlR X r) (i:∀ x lo hi H Q,r' x lo hi H Q->r x lo hi H Q):SlR X r':=fun pins s σ H x v vl vu lo hi sl Q I rx hs pl pu q=>h pins s σ H x v vl vu lo hi sl Q I rx hs pl pu (i x lo hi H Q q)
noncomputable def Dq:D->MH->Option (List D)
 | .tup ds,_=>some ds
 | .ref n,mh=>match mh[n]? with | some (.lst o)=>some o | _=>none
 | .rol ds,_=>some ds
 | _,_=>none
theorem Il {K:PySem.W.Frag}{H:Hp}{ρ:List Addr}{mh:MH}{d:D}{v:V}{ds:List D}(rs:RS K H ρ mh) (r:RD K H ρ d v) (e:Dq d mh=some ds):∃ p xs,v=.ref p/\(SqL K H p xs\/SqT K H p xs)/\RDs K H ρ ds xs:=by
 cases r with
 | tup s r=>cases e;exact ⟨_,_,rfl,.inr s,r⟩
 | rol s r=>cases e;exact ⟨_,_,rfl,.inl s.sq,r⟩
 | @ref n a h =>
  have e:(match mh[n]? with | some (.lst o)=>some o | _=>none)=some ds:=e;split at e
  ·rename_i o eo;cases e;obtain ⟨a',ha,ro⟩:=rs.at eo;rw [h] at ha;cases ha;obtain ⟨xs,q,r⟩:=ro.read;exact ⟨_,xs,rfl,.inl q,r⟩
  ·cases e
 | _=>cases e
theorem sE {K:PySem.W.Frag}{H:Hp}{ρ:List Addr}{ds:List D}{xs:List V}{i:Int}{d:D}(r:RDs K H ρ ds xs) (e:atI ds i=some d):∃ v,atI xs i=some v/\RD K H ρ d v:=by
 unfold atI at e ⊢;rw [← r.length];cases q:ixN ds.length i with
 | none=>rw [q] at e;cases e
 | some j =>
  rw [q] at e;exact r.get e
noncomputable def aY (x y:D) (mh:MH):Option (D×MH):=match y with
 | .int i=>(match x with
  | .str z=>if z.length<=sizeLine then (match atI z.cps.toList i with | some c=>some (.str ⟨#[c]⟩,mh) | none=>none) else none
  | _=>match Dq x mh with
   | some ds=>(match atI ds i with | some d=>some (d,mh) | none=>none)
   | none=>none)
 | _=>none
theorem Ael:IxR X (rD X.K aY):=by
 refine rY (zL (X:=X)) ?_;rintro x y H Q ⟨ρ,mh,dx,dy,d,mh',q,rs,rx,ry,co⟩;have seq:∀ i:Int,y=.int i->(match Dq dx mh with | some ds=>(match atI ds i with | some d=>some (d,mh) | none=>none) | none=>none)=some (d,mh')->rIx X.K x y H Q:=fun i ey q=>by
  split at q
  ·rename_i ds e1;split at q
   ·rename_i d' e2;cases q;obtain ⟨p,xs,rfl,hq,r⟩:=Il rs rx e1;obtain ⟨v,e3,r3⟩:=sE r e2;rcases hq with hq|hq
    ·exact .inl ⟨p,xs,i,v,rfl,ey,hq,e3,co H ρ v Ev.refl rs r3⟩
    ·exact .inr (.inl ⟨p,xs,i,v,rfl,ey,hq,e3,co H ρ v Ev.refl rs r3⟩)
   ·cases q
  ·cases q
 cases ry with
 | int i =>
  cases rx with
  | str z =>
   have q:(if z.length<=sizeLine then (match atI z.cps.toList i with | some c=>some (D.str ⟨#[c]⟩,mh) | none=>none) else none)=some (d,mh'):=q;split at q
   ·rename_i hz;split at q
    ·rename_i c ec;cases q;exact .inr (.inr ⟨z,i,c,rfl,rfl,hz,ec,co H ρ _ Ev.refl rs (.str _)⟩)
    ·cases q
   ·cases q
  | non=>exact seq i rfl q
  | bl b=>exact seq i rfl q
  | int j=>exact seq i rfl q
  | tup s r=>exact seq i rfl q
  | ref h=>exact seq i rfl q
  | rol s r=>exact seq i rfl q
  | obj n s l r=>exact seq i rfl q
  | fn h=>exact seq i rfl q
  | lam h=>exact seq i rfl q
  | clo=>exact seq i rfl q
 | _=>cases q
noncomputable def cutD {α:Type}(xs:List α) (lo hi:Option Int):List α:=(xs.drop (HT.sIx xs.length 0 lo)).take (HT.sIx xs.length xs.length hi - HT.sIx xs.length 0 lo)
theorem Sq {K:PySem.W.Frag}{H:Hp}{ρ:List Addr}{ds:List D}{xs:List V}{lo hi:Option Int}(r:RDs K H ρ ds xs):RDs K H ρ (cutD ds lo hi) (Uh xs lo hi):=by
 unfold cutD Uh;rw [r.length];exact (r.drop _).take _
theorem Jh {prog:Program}{w:World}{A:Around}{E:Value->Shared->Prop}{s:Shared}{t sl:Addr}{items:Array Value}{vl vu:Value}{lo hi:Option Int}{Q:Value->Shared->Prop}(ht:IsTup s.heap t items) (hs:s.heap.IsSliceOf sl vl vu .none) (pl:IsPart vl lo) (pu:IsPart vu hi)
  (h0:HT.sIx items.size 0 lo=0) (h1:HT.sIx items.size items.size hi=items.size) (h:Q (.ref t) s):wpAny (model prog w) A (getItem (.ref t) (.ref sl)) Q E s:=by
 obtain ⟨os,hos,hcs,hds⟩:=id hs
 have hTs:s.TypeIs (.ref sl) "slice":=⟨os,hos,hcs⟩
 unfold getItem
 try with_reducible refine wpAny_holding ?_
 first | refine wpAny_bind (wpAny_pure ?_) | skip
 refine wpAny_bind (wpAny_sequenceKey ht.typeIs (by decide) ?_)
 refine wpAny_bind (wpAny_callSpecial?_slot (name:=Str.ofString "__getitem__") ht.typeIs PyProof.Rows.slot_tuple_getitem
  (wpAny_call_entry PyProof.Rows.slot_tuple_getitem ht.typeIs entry_tuple_getitem ?_ (args_tuple_getitem _ _)))
 show wpAny _ _ (Builtin.Tuple.tupleItemsOf (.ref t) >>= _) _ _ s;refine wpAny_bind (tupleItemsOf_ ht ?_);refine wpAny_bind (wpAny_typeOf hTs ?_);rw [if_pos (by decide)];refine wpAny_bind (HT.sliceApplied_gen hs pl pu ?_);rw [h0,h1];have hyes:((((0:Nat):Int)==0&&(1:Int)==1&&(items.size - 0)==items.size)=true):=by simp
 show wpAny _ _ (if (((0:Nat):Int)==0&&(1:Int)==1&&(items.size - 0)==items.size)=true then _ else _) _ _ s;rw [if_pos hyes];unfold Builtin.Tuple.tupleIsExact;refine wpAny_bind (wpAny_bind (wpAny_typeOf ht.typeIs (wpAny_pure ?_)));rw [if_pos (by decide)];exact wpAny_bind (wpAny_rule (wpAny_pure ⟨_,rfl,wpAny_pure h⟩))
theorem aZ:SlR X (fun x lo hi H Q=>∃ a xs,x=.ref a/\SqT X.K H a xs/\HT.sIx xs.length 0 lo=0/\HT.sIx xs.length xs.length hi=xs.length/\Q (.ref a) H):=by
 intro pins s σ H x v vl vu lo hi sl Q I rx hs pl pu h;obtain ⟨a,xs,rfl,hx,h0,h1,q⟩:=h;cases rx;obtain ⟨its,r,ht,hz⟩:=I.tuple hx;have hlen:its.toArray.size=xs.length:=by rw [List.size_toArray];exact r.length.symm
 refine ⟨"tuple",_,PyProof.Rows.slot_tuple_getitem.lookup,ht.typeIs,?_⟩;exact Jh ht hs pl pu (by rw [hlen];exact h0) (by rw [hlen];exact h1) ⟨.ref a,H,I,rfl,q⟩
noncomputable def slD (x:D) (lo hi:Option Int) (mh:MH):Option (D×MH):=match x with
 | .tup ds=>if HT.sIx ds.length 0 lo=0/\HT.sIx ds.length ds.length hi=ds.length then some (.tup ds,mh) else some (.tup (cutD ds lo hi),mh)
 | .ref n=>match mh[n]? with
  | some (.lst o)=>some (.ref mh.length,mh++[.lst (cutD o lo hi)])
  | _=>none
 | .rol ds=>some (.ref mh.length,mh++[.lst (cutD ds lo hi)])
 | _=>none
noncomputable def Af9 (K:PySem.W.Frag):V->Option Int->Option Int->Hp->VK->Prop:=fun x lo hi H Q=>∃ ρ mh dx d mh',slD dx lo hi mh=some (d,mh')/\RS K H ρ mh/\RD K H ρ dx x/\Co K H ρ mh' d Q
theorem Aga:SlR X (Af9 X.K):=by
 refine rZ (aZ.or (zH.or rE)) ?_;rintro x lo hi H Q ⟨ρ,mh,dx,d,mh',q,rs,rx,co⟩;cases rx with
 | @tup ds a xs s r =>
  have q:(if HT.sIx ds.length 0 lo=0/\HT.sIx ds.length ds.length hi=ds.length then some (D.tup ds,mh) else some (D.tup (cutD ds lo hi),mh))=some (d,mh'):=q;have hl:=r.length;split at q
  ·rename_i hw;cases q;exact .inl ⟨a,xs,rfl,s,by rw [← hl];exact hw.1,by rw [← hl];exact hw.2,co H ρ _ Ev.refl rs (.tup s r)⟩
  ·rename_i hw;cases q;exact .inr (.inl ⟨a,xs,rfl,s,by rw [← hl];exact hw,Co.newT rs (Sq r) co⟩)
 | @ref n a h =>
  have q:(match mh[n]? with | some (.lst o)=>some (D.ref mh.length,mh++[.lst (cutD o lo hi)]) | _=>none)=some (d,mh'):=q;split at q
  ·rename_i o eo;cases q;obtain ⟨a',ha,ro⟩:=rs.at eo;rw [h] at ha;cases ha;obtain ⟨xs,sq,r⟩:=ro.read;exact .inr (.inr ⟨a,xs,rfl,sq,Co.newL rs (Sq r) co⟩)
  ·cases q
 | @rol ds a xs s r =>
  cases q;exact .inr (.inr ⟨a,xs,rfl,s.sq,Co.newL rs (Sq r) co⟩)
 | _=>cases q
noncomputable def Ko (m:Option (DM D)):DM (Option Int):=match m with
 | none=>Zr none
 | some m=>m.bnd fun x=>match x with | .int i=>Zr (some i) | _=>Zb
noncomputable def fV (X:Cx) (e:Option Expr) (m:Option (DM D)):Prop:=match e,m with
 | none,none=>True
 | some e,some m=>DE X e m
 | _,_=>False
noncomputable def tDO (K:PySem.W.Frag) (loc:Loc) (mh:MH) (r:Option (Option Int×MH)):TO:=fun σ H Q=>∃ ρ o mh',r=some (o,mh')/\RL K H ρ loc σ/\RS K H ρ mh/\∀ H' ρ',Ev K H ρ H' ρ'->RS K H' ρ' mh'->Q o H'
theorem Aem {e:Option Expr}{m:Option (DM D)}(h:fV X e m) (loc:Loc) (mh:MH):PO X e (tDO X.K loc mh (Ko m loc mh)):=by
 rintro pins s σ H Q I ⟨ρ,o,mh',q,rl,rs,co⟩;cases e with
 | none =>
  cases m with
  | none =>
   cases q;exact qZ pins s σ H Q I (co H ρ Ev.refl rs)
  | some m=>exact h.elim
 | some e =>
  cases m with
  | none=>exact h.elim
  | some m =>
   obtain ⟨x,m1,ea,q⟩:=Ay q;cases x with
   | int i =>
    cases q;refine rA (h loc mh) pins s σ H Q I ⟨ρ,.int i,mh',ea,rl,rs,fun H' ρ' v e' rs' r'=>?_⟩;cases r';exact ⟨i,rfl,co H' ρ' e' rs'⟩
   | non=>cases q
   | bl b=>cases q
   | str z=>cases q
   | tup ds=>cases q
   | ref n=>cases q
   | rol ds=>cases q
   | obj c ks ds=>cases q
   | fn x=>cases q
   | lam=>cases q
   | clo=>cases q
noncomputable def dSl (ma:DM D) (ml mu:Option (DM D)):DM D:=ma.bnd fun x=>(Ko ml).bnd fun l=>(Ko mu).bnd fun u=>Zl (slD x l u)
theorem fW {a:Expr}{ma:DM D}{lo hi:Option Expr}{ml mu:Option (DM D)}{p2 pos:Pos}(ha:DE X a ma) (hl:fV X lo ml) (hu:fV X hi mu):DE X (.Subscript a (.Slice lo hi none p2) pos) (dSl ma ml mu):=fun loc mh=>by
 cases ea:ma loc mh with
 | none =>
  have:dSl ma ml mu loc mh=none:=by unfold dSl DM.bnd;rw [ea]
  rw [this];exact Bo
 | some p =>
  obtain ⟨x,m1⟩:=p;cases el:Ko ml loc m1 with
  | none =>
   have:dSl ma ml mu loc mh=none:=by unfold dSl;unfold DM.bnd;rw [ea];dsimp only;rw [el]
   rw [this];exact Bo
  | some p2 =>
   obtain ⟨l,m2⟩:=p2;refine Bm (eN Aga (ha loc mh) (Aem hl loc m1) (Aem hu loc m2)) ?_;rintro σ H Q ⟨ρ,d,mh',q,rl,rs,co⟩;obtain ⟨x',m1',ea',q⟩:=Ay q;rw [ea] at ea';cases ea';obtain ⟨l',m2',el',q⟩:=Ay q;rw [el] at el';cases el';obtain ⟨u,m3,eu,q⟩:=Ay q
   exact ⟨ρ,x,m1,ea,rl,rs,fun H1 ρ1 v e1 rs1 r1=>⟨ρ1,l,m2,el,rl.mono e1,rs1,fun H2 ρ2 e2 rs2=>⟨ρ2,u,m3,eu,(rl.mono e1).mono e2,rs2,fun H3 ρ3 e3 rs3 =>
    ⟨ρ3,m3,x,d,mh',q,rs3,(r1.mono e2).mono e3,co.ev (e1.trans (e2.trans e3))⟩⟩⟩⟩
end
end DL
namespace HT
open PySem PySem.Spec PyProof.Rows
section
variable {prog:Program}{w:World}{A:Around}{E:Value->Shared->Prop}{s:Shared}
end
end HT
namespace DL
open PySem PySem.Spec PyProof.Rows L2
section
variable {X:Cx}
noncomputable def Dr:List D->MH->Option (D×MH)
 | [.str z],mh=>if z.length<=sizeLine then some (.int z.length,mh) else none
 | [x],mh=>match Dq x mh with | some ds=>some (.int ds.length,mh) | none=>none
 | _,_=>none
theorem Wo {K:PySem.W.Frag}{H:Hp}{ρ:List Addr}{d:D}{xs:List V}(h:RDs K H ρ [d] xs):∃ v,xs=[v]/\RD K H ρ d v:=by
 cases h with
 | cons r t=>cases t;exact ⟨_,rfl,r⟩
theorem bA:Ca X (.builtin "len") (rDs X.K Dr):=by
 refine Lj (R3.or R5) ?_;rintro xs H Q ⟨ρ,mh,ds,d,mh',q,rs,r,co⟩
 match ds,q with
 | [x],q =>
  obtain ⟨v,rfl,rx⟩:=Wo r;have seq:(match Dq x mh with | some ds=>some (D.int ds.length,mh) | none=>none)=some (d,mh')->∃ p ys,[v]=[.ref p]/\(SqL X.K H p ys\/SqT X.K H p ys)/\Q (.int ys.length) H:=fun q=>by
   split at q
   ·rename_i ds e1;cases q;obtain ⟨p,ys,rfl,hq,r⟩:=Il rs rx e1;exact ⟨p,ys,rfl,hq,by rw [← r.length];exact co H ρ _ Ev.refl rs (.int _)⟩
   ·cases q
  cases rx with
  | str z =>
   have q:(if z.length<=sizeLine then some (D.int z.length,mh) else none)=some (d,mh'):=q;split at q
   ·rename_i hz;cases q;exact .inr ⟨z,rfl,hz,co H ρ _ Ev.refl rs (.int _)⟩
   ·cases q
  | non=>exact .inl (seq q)
  | bl b=>exact .inl (seq q)
  | int i=>exact .inl (seq q)
  | tup s r=>exact .inl (seq q)
  | ref h=>exact .inl (seq q)
  | rol s r=>exact .inl (seq q)
  | obj n s l r=>exact .inl (seq q)
  | fn h=>exact .inl (seq q)
  | lam h=>exact .inl (seq q)
  | clo=>exact .inl (seq q)
 | [],q=>cases q
 | _::_::_,q=>simp [Dr] at q
noncomputable def Uo:List D->MH->Option (D×MH)
 | [x],mh=>match Dq x mh with | some ds=>some (.ref mh.length,mh++[.lst ds]) | none=>none
 | _,_=>none
theorem Wq:Ca X (.type "list") (rDs X.K Uo):=by
 refine Lj R6 ?_;rintro xs H Q ⟨ρ,mh,ds,d,mh',q,rs,r,co⟩
 match ds,q with
 | [x],q =>
  obtain ⟨v,rfl,rx⟩:=Wo r;have q:(match Dq x mh with | some ds=>some (D.ref mh.length,mh++[.lst ds]) | none=>none)=some (d,mh'):=q;split at q
  ·rename_i ds e1;cases q;obtain ⟨p,ys,rfl,hq,r⟩:=Il rs rx e1;exact ⟨p,ys,rfl,hq,Co.newL rs r co⟩
  ·cases q
 | [],q=>cases q
 | _::_::_,q=>cases q
noncomputable def Gz:List D->MH->Option (D×MH)
 | [x],mh=>match Dq x mh with | some ds=>some (.tup ds,mh) | none=>none
 | _,_=>none
theorem Uq:Ca X (.type "tuple") (rDs X.K Gz):=by
 refine Lj Qk ?_;rintro xs H Q ⟨ρ,mh,ds,d,mh',q,rs,r,co⟩
 match ds,q with
 | [x],q =>
  obtain ⟨v,rfl,rx⟩:=Wo r;have q:(match Dq x mh with | some ds=>some (D.tup ds,mh) | none=>none)=some (d,mh'):=q;split at q
  ·rename_i ds e1;cases q;obtain ⟨p,ys,rfl,hq,r⟩:=Il rs rx e1;rcases hq with hq|hq
   ·exact ⟨p,ys,rfl,.inl ⟨hq,Co.newT rs r co⟩⟩
   ·exact ⟨p,ys,rfl,.inr ⟨hq,co H ρ _ Ev.refl rs (.tup hq r)⟩⟩
  ·cases q
 | [],q=>cases q
 | _::_::_,q=>cases q
noncomputable def fX:D->MH->Option String
 | .non,_=>some "NoneType"
 | .bl _,_=>some "bool"
 | .int _,_=>some "int"
 | .str _,_=>some "str"
 | .tup _,_=>some "tuple"
 | .ref n,mh=>match mh[n]? with | some (.lst _)=>some "list" | _=>none
 | .rol _,_=>some "list"
 | .obj ..,_=>none
 | .fn _,_=>none
 | .lam,_=>none
 | .clo _ _,_=>none
noncomputable def Aad (t c:String):Option Bool :=
 if t==c then some true else
 if ["NoneType", "bool", "int", "str", "tuple", "list"].contains t&&["bool", "int", "str", "tuple", "list", "dict"].contains c then some (t == "bool"&&c == "int") else none
theorem G3 {K:PySem.W.Frag}{t c:String}{b:Bool}(ht:t∈["NoneType", "bool", "int", "str", "tuple", "list"]) (hc:c∈["bool", "int", "str", "tuple", "list", "dict"]) (h:Aad t c=some b):PySem.W.kitOne K (.type t) (.type c)=some b:=by
 simp only [List.mem_cons,List.mem_nil_iff,or_false] at ht hc;rcases ht with rfl | rfl | rfl | rfl | rfl | rfl <;> rcases hc with rfl | rfl | rfl | rfl | rfl | rfl <;> (first | (have e:b=true:=by (have h':=h;revert h';decide +revert));subst e;kernel_rfl | (have e:b=false:=by (have h':=h;revert h';decide +revert));subst e;kernel_rfl)
end
inductive Src where
 | seq (ds:List D) | lref (n:Nat) | enum (s:Src) | zip (s t:Src)
noncomputable def Ez:Nat->List D->List D
 | _,[]=>[]
 | i,d::r=>.tup [.int i,d]::Ez (i+1) r
noncomputable def Src.items:Src->MH->List D
 | .seq ds,_=>ds
 | .lref n,mh=>match mh[n]? with | some (.lst o)=>o | _=>[]
 | .enum s,mh=>Ez 0 (s.items mh)
 | .zip s t,mh=>List.zipWith (fun a b=>.tup [a,b]) (s.items mh) (t.items mh)
noncomputable def Src.ok:Src->MH->Bool
 | .seq _,_=>true
 | .lref n,mh=>match mh[n]? with | some (.lst _)=>true | _=>false
 | .enum s,mh=>s.ok mh
 | .zip s t,mh=>s.ok mh&&t.ok mh
noncomputable def Src.get (s:Src) (mh:MH) (i:Nat):Option D:=(s.items mh)[i]?
noncomputable def Src.stop (s:Src) (mh:MH) (i:Nat):Bool:=s.ok mh&&decide ((s.items mh).length<=i)
structure JR (K:PySem.W.Frag) (H0:Hp) (ρ0:List Addr) (src:Src) (J:It):Prop where
 go:∀ H ρ mh i d,Ev K H0 ρ0 H ρ->RS K H ρ mh->src.get mh i=some d->J.go i H/\∀ x H',J.yld i H x H'->Ev K H ρ H' ρ/\RS K H' ρ mh/\RD K H' ρ d x
 stop:∀ H ρ mh i,Ev K H0 ρ0 H ρ->RS K H ρ mh->src.stop mh i=true->J.stop i H
noncomputable def tDI (K:PySem.W.Frag) (loc:Loc) (mh:MH) (r:Option (Src×MH)):TI:=fun σ H R=>∃ ρ src mh',r=some (src,mh')/\RL K H ρ loc σ/\RS K H ρ mh/\∀ H' ρ' J,Ev K H ρ H' ρ'->RS K H' ρ' mh'->JR K H' ρ' src J->R J H'
noncomputable def DI (X:Cx) (tg iter:Expr) (m:DM Src):Prop:=∀ loc mh,PI X tg iter (tDI X.K loc mh (m loc mh))
theorem Aae {X:Cx}{tg e:Expr}{t t':TI}(h:PI X tg e t) (i:∀ σ H R,t' σ H R->t σ H R):PI X tg e t':=fun pins s σ H R I q=>h pins s σ H R I (i σ H R q)
theorem Ds {X:Cx}{tg e:Expr}{loc:Loc}{mh:MH}:PI X tg e (tDI X.K loc mh none):=fun _ _ _ _ _ _ h=>by obtain ⟨_,_,_,e,_⟩:=h;cases e
section
variable {X:Cx}{tg:Expr}
theorem JR.tup {K:PySem.W.Frag}{H0:Hp}{ρ0:List Addr}{ds:List D}{a:Addr}{xs:List V}(s:SqT K H0 a xs) (r:RDs K H0 ρ0 ds xs):JR K H0 ρ0 (.seq ds) (Itt K a) where
 go:=fun H ρ mh i d e rs q=>by
  obtain ⟨v,e1,r1⟩:=(r.mono e).get q;refine ⟨⟨xs,v,e.tup _ _ s,e1⟩,?_⟩;rintro x H' ⟨h1,h2⟩;subst h1;have:=h2 xs (e.tup _ _ s);rw [e1] at this;cases this;exact ⟨Ev.refl,rs,r1⟩
 stop:=fun H ρ mh i e rs q=>by
  refine ⟨xs,e.tup _ _ s,?_⟩;rw [← r.length];have q:(true&&decide (ds.length<=i))=true:=q;rw [Bool.true_and] at q;exact of_decide_eq_true q
theorem JR.lst {K:PySem.W.Frag}{H0:Hp}{ρ0:List Addr}{n:Nat}{a:Addr}(h:ρ0[n]?=some a):JR K H0 ρ0 (.lref n) (Itl K a) where
 go:=fun H ρ mh i d e rs q=>by
  unfold Src.get Src.items at q;cases eo:mh[n]? with
  | none=>simp only [eo] at q;simp at q
  | some ob =>
   cases ob with
   | dct kvs=>simp only [eo] at q;simp at q
   | plc=>simp only [eo] at q;simp at q
   | plq=>simp only [eo] at q;simp at q
   | lst o =>
   simp only [eo] at q;obtain ⟨a',ha,ro⟩:=rs.at eo;rw [e.at h] at ha;cases ha;obtain ⟨xs,sq,r⟩:=ro.read;obtain ⟨v,e1,r1⟩:=r.get q;refine ⟨⟨xs,v,sq,e1⟩,?_⟩;rintro x H' ⟨h1,h2⟩;subst h1;have:=h2 xs sq;rw [e1] at this;cases this;exact ⟨Ev.refl,rs,r1⟩
 stop:=fun H ρ mh i e rs q=>by
  unfold Src.stop Src.ok Src.items at q;cases eo:mh[n]? with
  | none=>simp only [eo] at q;simp at q
  | some ob =>
   cases ob with
   | dct kvs=>simp only [eo] at q;simp at q
   | plc=>simp only [eo] at q;simp at q
   | plq=>simp only [eo] at q;simp at q
   | lst o =>
   simp only [eo] at q;obtain ⟨a',ha,ro⟩:=rs.at eo;rw [e.at h] at ha;cases ha;obtain ⟨xs,sq,r⟩:=ro.read;exact ⟨xs,sq,by rw [← r.length];simpa using q⟩
theorem JR.rol {K:PySem.W.Frag}{H0:Hp}{ρ0:List Addr}{ds:List D}{a:Addr}{xs:List V}(s:Hv K H0 a xs) (r:RDs K H0 ρ0 ds xs):JR K H0 ρ0 (.seq ds) (Itl K a) where
 go:=fun H ρ mh i d e rs q=>by
  obtain ⟨v,e1,r1⟩:=(r.mono e).get q;have sq:=(e.perm _ _ s).sq;refine ⟨⟨xs,v,sq,e1⟩,?_⟩;rintro x H' ⟨h1,h2⟩;subst h1;have:=h2 xs sq;rw [e1] at this;cases this;exact ⟨Ev.refl,rs,r1⟩
 stop:=fun H ρ mh i e rs q=>by
  refine ⟨xs,(e.perm _ _ s).sq,?_⟩;rw [← r.length];have q:(true&&decide (ds.length<=i))=true:=q;rw [Bool.true_and] at q;exact of_decide_eq_true q
noncomputable def Ce (lo:Int) (n:Nat):List D:=(List.range n).map fun (k:Nat)=>D.int (lo+(k:Int))
theorem JR.rng {K:PySem.W.Frag}{H0:Hp}{ρ0:List Addr}{lo:Int}{n:Nat}:JR K H0 ρ0 (.seq (Ce lo n)) (Itr lo n) where
 go:=fun H ρ mh i d e rs q=>by
  have q:(Ce lo n)[i]?=some d:=q;unfold Ce at q;rw [List.getElem?_map] at q
  by_cases hi:i < n
  ·rw [List.getElem?_range hi] at q;cases q;refine ⟨hi,?_⟩;rintro x H' ⟨h1,h2⟩;subst h1;subst h2;exact ⟨Ev.refl,rs,.int _⟩
  ·rw [List.getElem?_eq_none (by simp;omega)] at q;cases q
 stop:=fun H ρ mh i e rs q=>by
  show n<=i;have q:(true&&decide ((Ce lo n).length<=i))=true:=q;rw [Bool.true_and] at q;have:=of_decide_eq_true q;unfold Ce at this
  simpa using this
noncomputable def srcOf:D->MH->Option Src
 | .tup ds,_=>some (.seq ds)
 | .ref n,mh=>match mh[n]? with | some (.lst _)=>some (.lref n) | _=>none
 | .rol ds,_=>some (.seq ds)
 | _,_=>none
noncomputable def Ec (ma:DM D):DM Src:=ma.bnd fun x=>fun _ mh=>match srcOf x mh with | some s=>some (s,mh) | none=>none
theorem Gf {a:Expr}{ma:DM D}(ha:DE X a ma):DI X tg a (Ec ma):=fun loc mh=>by
 cases ea:ma loc mh with
 | none =>
  have:Ec ma loc mh=none:=by unfold Ec DM.bnd;rw [ea]
  rw [this];exact Ds
 | some p =>
  obtain ⟨x,m1⟩:=p;have eq:Ec ma loc mh=(match srcOf x m1 with | some s=>some (s,m1) | none=>none):=by unfold Ec DM.bnd;rw [ea]
  rw [eq];cases x with
  | tup ds =>
   rintro pins s σ H R I ⟨ρ,src,mh',q,rl,rs,co⟩;cases q;refine yL (ha loc mh) pins s σ H R I ⟨ρ,_,_,ea,rl,rs,fun H1 ρ1 v e1 rs1 r1=>?_⟩;cases r1 with
   | tup s r=>exact ⟨_,rfl,⟨_,s⟩,co H1 ρ1 _ e1 rs1 (JR.tup s r)⟩
  | ref n =>
   rintro pins s σ H R I ⟨ρ,src,mh',q,rl,rs,co⟩;cases eo:m1[n]? with
   | none=>simp only [srcOf,eo] at q;cases q
   | some ob =>
    cases ob with
    | dct kvs=>simp only [srcOf,eo] at q;cases q
    | plc=>simp only [srcOf,eo] at q;cases q
    | plq=>simp only [srcOf,eo] at q;cases q
    | lst o =>
    simp only [srcOf,eo] at q;cases q;refine Yo (ha loc mh) pins s σ H R I ⟨ρ,_,_,ea,rl,rs,fun H1 ρ1 v e1 rs1 r1=>?_⟩;cases r1 with
    | @ref _ a' h =>
     obtain ⟨a2,ha2,ro⟩:=rs1.at eo;rw [h] at ha2;cases ha2;obtain ⟨xs,sq,r⟩:=ro.read;exact ⟨_,rfl,⟨xs,sq⟩,co H1 ρ1 _ e1 rs1 (JR.lst h)⟩
  | rol ds =>
   rintro pins s σ H R I ⟨ρ,src,mh',q,rl,rs,co⟩;cases q;refine Yo (ha loc mh) pins s σ H R I ⟨ρ,_,_,ea,rl,rs,fun H1 ρ1 v e1 rs1 r1=>?_⟩;cases r1 with
   | rol s r=>exact ⟨_,rfl,⟨_,s.sq⟩,co H1 ρ1 _ e1 rs1 (JR.rol s r)⟩
  | non=>exact Ds
  | bl b=>exact Ds
  | int i=>exact Ds
  | str z=>exact Ds
  | obj c ks ds=>exact Ds
  | fn x=>exact Ds
  | lam=>exact Ds
  | clo=>exact Ds
noncomputable def Jv (ds:List D):Option Src:=match ds with
 | [.int j]=>if -(2 ^ 62)<=j/\j < 2 ^ 62 then some (.seq (Ce 0 j.toNat)) else none
 | _=>none
theorem bB {ds:List D}{s:Src}(h:Jv ds=some s):∃ j,ds=[.int j]/\-(2 ^ 62)<=j/\j < 2 ^ 62/\s=.seq (Ce 0 j.toNat):=by
 unfold Jv at h;split at h
 ·rename_i j;split at h
  ·rename_i hj;cases h;exact ⟨j,rfl,hj.1,hj.2,rfl⟩
  ·cases h
 ·cases h
noncomputable def Nr (f:List D->Option Src) (mr:DM (List D)):DM Src:=mr.bnd fun ds=>match f ds with | some s=>Zr s | none=>Zb
theorem bC {f:List D->Option Src}{mr:DM (List D)}{loc:Loc}{mh:MH}{r:Src×MH}(h:Nr f mr loc mh=some r):∃ ds,mr loc mh=some (ds,r.2)/\f ds=some r.1:=by
 obtain ⟨ds,m1,ea,q⟩:=Ay h;cases e:f ds with
 | none=>rw [e] at q;cases q
 | some s=>rw [e] at q;cases q;exact ⟨ds,ea,e⟩
theorem Agb {K:PySem.W.Frag}{H:Hp}{ρ:List Addr}{d e:D}{xs:List V}(h:RDs K H ρ [d,e] xs):∃ v u,xs=[v,u]/\RD K H ρ d v/\RD K H ρ e u:=by
 cases h with
 | cons r t =>
  cases t with
  | cons r2 t=>cases t;exact ⟨_,_,rfl,r,r2⟩
theorem bD {a:Expr}{mr:DM (List D)}{p pos:Pos}(hg:Gl X "range") (hm:X.mg "range"=none) (ha:DA X [a] mr) (hs:starEach [a] X.env=[(false,eval a X.env)]):DI X tg (.Call (.Name "range" p) [a] [] pos) (Nr Jv mr):=fun loc mh=>by
 refine Aae (aO hg hm (ha loc mh) hs) ?_;rintro σ H R ⟨ρ,src,mh',q,rl,rs,co⟩;obtain ⟨ds,ea,q⟩:=bC q;refine ⟨ρ,ds,mh',ea,rl,rs,fun H1 ρ1 vs e1 rs1 r1=>?_⟩;obtain ⟨j,rfl,h1,h2,e⟩:=bB q;obtain ⟨v,rfl,rv⟩:=Wo r1;cases rv;have e:src=.seq (Ce 0 j.toNat):=e;subst e;exact ⟨j,rfl,h1,h2,co H1 ρ1 _ e1 rs1 JR.rng⟩
end
inductive Fl where
 | nx | bk | ct | rt (d:D)
noncomputable abbrev SM:=Loc->MH->Option (Fl×Loc×MH)
noncomputable def CoS (K:PySem.W.Frag) (H:Hp) (ρ:List Addr) (f:Fl) (loc':Loc) (mh':MH) (N:Ends):Prop:=match f with
 | .nx=>∀ H' ρ' σ',Ev K H ρ H' ρ'->RS K H' ρ' mh'->RL K H' ρ' loc' σ'->N.nx σ' H'
 | .bk=>∀ H' ρ' σ',Ev K H ρ H' ρ'->RS K H' ρ' mh'->RL K H' ρ' loc' σ'->N.bk σ' H'
 | .ct=>∀ H' ρ' σ',Ev K H ρ H' ρ'->RS K H' ρ' mh'->RL K H' ρ' loc' σ'->N.ct σ' H'
 | .rt d=>∀ H' ρ' v,Ev K H ρ H' ρ'->RS K H' ρ' mh'->RD K H' ρ' d v->N.rt v H'
theorem CoS.ev {K:PySem.W.Frag}{H H1:Hp}{ρ ρ1:List Addr}{f:Fl}{loc':Loc}{mh':MH}{N:Ends}(e:Ev K H ρ H1 ρ1) (c:CoS K H ρ f loc' mh' N):CoS K H1 ρ1 f loc' mh' N:=by
 cases f with
 | nx=>exact fun H' ρ' σ' e' rs r=>c H' ρ' σ' (e.trans e') rs r
 | bk=>exact fun H' ρ' σ' e' rs r=>c H' ρ' σ' (e.trans e') rs r
 | ct=>exact fun H' ρ' σ' e' rs r=>c H' ρ' σ' (e.trans e') rs r
 | rt d=>exact fun H' ρ' σ' e' rs r=>c H' ρ' σ' (e.trans e') rs r
noncomputable def tS (K:PySem.W.Frag) (m:SM):TS:=fun N σ H=>∃ loc mh ρ f loc' mh',m loc mh=some (f,loc',mh')/\RL K H ρ loc σ/\RS K H ρ mh/\CoS K H ρ f loc' mh' N
noncomputable def DS (X:Cx) (st:Stmt) (m:SM):Prop:=PS X st (tS X.K m)
noncomputable def DSs (X:Cx) (sts:List Stmt) (m:SM):Prop:=PSs X sts (tS X.K m)
theorem Fq {X:Cx}{st:Stmt}{t t':TS}(h:PS X st t) (i:∀ N σ H,t' N σ H->t N σ H):PS X st t':=fun pins s σ H N I q=>h pins s σ H N I (i N σ H q)
theorem Y4 {X:Cx}{st:List Stmt}{t t':TS}(h:PSs X st t) (i:∀ N σ H,t' N σ H->t N σ H):PSs X st t':=fun pins s σ H N I q=>h pins s σ H N I (i N σ H q)
noncomputable def SM.bad:SM:=fun _ _=>none
theorem Dt {X:Cx}{st:Stmt}:DS X st SM.bad:=fun _ _ _ _ _ _ h=>by obtain ⟨_,_,_,_,_,_,e,_⟩:=h;cases e
noncomputable def tDx (K:PySem.W.Frag) (m:DM D):TE:=fun σ H Q=>∃ loc mh,tD K loc mh (m loc mh) σ H Q
noncomputable def tTx (K:PySem.W.Frag) (m:DM Bool):TT:=fun σ H Q=>∃ loc mh,tDT K loc mh (m loc mh) σ H Q
noncomputable def tIx (K:PySem.W.Frag) (m:DM Src):TI:=fun σ H R=>∃ loc mh,tDI K loc mh (m loc mh) σ H R
theorem DE.x {X:Cx}{e:Expr}{m:DM D}(h:DE X e m):PE X e (tDx X.K m):=fun pins s σ H Q I ⟨loc,mh,q⟩=>h loc mh pins s σ H Q I q
theorem DT.x {X:Cx}{e:Expr}{m:DM Bool}(h:DT X e m):PT X e (tTx X.K m):=fun pins s σ H Q I ⟨loc,mh,q⟩=>h loc mh pins s σ H Q I q
theorem DI.x {X:Cx}{tg e:Expr}{m:DM Src}(h:DI X tg e m):PI X tg e (tIx X.K m):=fun pins s σ H Q I ⟨loc,mh,q⟩=>h loc mh pins s σ H Q I q
section
variable {X:Cx}{st:Stmt}{sts:List Stmt}{m m1 m2:SM}{e:Expr}{me:DM D}{pos:Pos}
noncomputable def Zn:SM:=fun loc mh=>some (.nx,loc,mh)
noncomputable def Ab (m1 m2:SM):SM:=fun loc mh=>match m1 loc mh with
 | some (.nx,l,h)=>m2 l h
 | r=>r
theorem Y5:DSs X [] Zn:=by
 refine Y4 qF ?_;rintro N σ H ⟨loc,mh,ρ,f,loc',mh',q,rl,rs,co⟩;cases q;exact co H ρ σ Ev.refl rs rl
theorem Ur (h1:DS X st m1) (h2:DSs X sts m2):DSs X (st::sts) (Ab m1 m2):=by
 refine Y4 (dD h1 h2) ?_;rintro N σ H ⟨loc,mh,ρ,f,loc',mh',q,rl,rs,co⟩;unfold Ab at q;split at q
 ·rename_i l h e1;exact ⟨loc,mh,ρ,.nx,l,h,e1,rl,rs,fun H1 ρ1 σ1 ev1 rs1 rl1=>⟨l,h,ρ1,f,loc',mh',q,rl1,rs1,co.ev ev1⟩⟩
 ·rename_i r hne;refine ⟨loc,mh,ρ,f,loc',mh',q,rl,rs,?_⟩;cases f with
  | nx=>exact absurd q (hne _ _)
  | bk=>exact co
  | ct=>exact co
  | rt d=>exact co
theorem sG:DS X (.Pass pos) Zn:=by
 refine Fq qH ?_;rintro N σ H ⟨loc,mh,ρ,f,loc',mh',q,rl,rs,co⟩;cases q;exact co H ρ σ Ev.refl rs rl
theorem fY:DS X (.Break pos) (fun loc mh=>some (.bk,loc,mh)):=by
 refine Fq dF ?_;rintro N σ H ⟨loc,mh,ρ,f,loc',mh',q,rl,rs,co⟩;cases q;exact co H ρ σ Ev.refl rs rl
theorem Us:DS X (.Continue pos) (fun loc mh=>some (.ct,loc,mh)):=by
 refine Fq Ud ?_;rintro N σ H ⟨loc,mh,ρ,f,loc',mh',q,rl,rs,co⟩;cases q;exact co H ρ σ Ev.refl rs rl
noncomputable def retS (me:DM D):SM:=fun loc mh=>match me loc mh with | some (d,mh')=>some (.rt d,loc,mh') | none=>none
theorem fZ (he:DE X e me):DS X (.Return (some e) pos) (retS me):=by
 refine Fq (yD he.x) ?_;rintro N σ H ⟨loc,mh,ρ,f,loc',mh',q,rl,rs,co⟩;unfold retS at q;split at q
 ·rename_i d h1 ee;cases q;exact ⟨loc,mh,ρ,d,_,ee,rl,rs,co⟩
 ·cases q
theorem sH:DS X (.Return none pos) (fun loc mh=>some (.rt .non,loc,mh)):=by
 refine Fq qJ ?_;rintro N σ H ⟨loc,mh,ρ,f,loc',mh',q,rl,rs,co⟩;cases q;exact co H ρ _ Ev.refl rs .non
noncomputable def Ep (me:DM D):SM:=fun loc mh=>match me loc mh with | some (_,mh')=>some (.nx,loc,mh') | none=>none
theorem sI (he:DE X e me) (hs:swapsWith e none pos.line X.env=pure false):DS X (.Expr e pos) (Ep me):=by
 refine Fq (qI he.x hs) ?_;rintro N σ H ⟨loc,mh,ρ,f,loc',mh',q,rl,rs,co⟩;unfold Ep at q;split at q
 ·rename_i d h1 ee;cases q;exact ⟨loc,mh,ρ,d,_,ee,rl,rs,fun H' ρ' v e' rs' r'=>co H' ρ' σ e' rs' (rl.mono e')⟩
 ·cases q
noncomputable def ifS (t:DM Bool) (m1 m2:SM):SM:=fun loc mh=>match t loc mh with
 | some (k,h)=>if k=true then m1 loc h else m2 loc h
 | none=>none
theorem Aen {c:Expr}{a b:List Stmt}{t:DM Bool}(hc:DT X c t) (ha:DSs X a m1) (hb:DSs X b m2):DS X (.If c a b pos) (ifS t m1 m2):=by
 refine Fq (Ads hc.x ha hb) ?_;rintro N σ H ⟨loc,mh,ρ,f,loc',mh',q,rl,rs,co⟩;unfold ifS at q;split at q
 ·rename_i k h ek;refine ⟨loc,mh,ρ,k,h,ek,rl,rs,fun H1 ρ1 e1 rs1=>?_⟩;cases k with
  | true=>exact R8 ⟨loc,h,ρ1,f,loc',mh',by rw [if_pos rfl] at q;exact q,rl.mono e1,rs1,co.ev e1⟩
  | false=>exact R7 ⟨loc,h,ρ1,f,loc',mh',by rw [if_neg Bool.false_ne_true] at q;exact q,rl.mono e1,rs1,co.ev e1⟩
 ·cases q
noncomputable abbrev GM:=D->Loc->MH->Option (Loc×MH)
noncomputable def Im (ws:List Nat) (σ σ':St):Prop:=σ'.length=σ.length/\∀ i,i ∉ ws->σ'[i]?=σ[i]?
noncomputable def tG (K:PySem.W.Frag) (ws:List Nat) (g:GM):TG:=fun v σ H Q=>∃ d loc mh ρ loc' mh',g d loc mh=some (loc',mh')/\RL K H ρ loc σ/\RS K H ρ mh/\RD K H ρ d v /\
 ∀ H' ρ' σ',Ev K H ρ H' ρ'->RS K H' ρ' mh'->RL K H' ρ' loc' σ'->Im ws σ σ'->Q σ' H'
noncomputable def DG (X:Cx) (tg:Expr) (ws:List Nat) (g:GM):Prop:=PG X tg (tG X.K ws g)
theorem Wr {tg:Expr}{t t':TG}(h:PG X tg t) (i:∀ v σ H Q,t' v σ H Q->t v σ H Q):PG X tg t':=fun pins s σ H v u Q I r q=>h pins s σ H v u Q I r (i v σ H Q q)
noncomputable def Bb (i:Nat):GM:=fun d loc mh=>some (loc.set i (some d),mh)
theorem Im.set {σ:St}{i:Nat}{o:Option V}:Im [i] σ (σ.set i o):=⟨List.length_set,fun j hj=>List.getElem?_set_ne (fun e=>hj (by simp [e]))⟩
theorem sJ {i:Nat}{x:Str}(hN:X.N.Nodup) (hi:X.N[i]?=some x) (hx:L2.Loc X.env.scope x) (hf:X.fn x=true\/X.env.scope.names.lookup x=some .local):DG X (.Name x pos) [i] (Bb i):=by
 refine Wr (Yn hN hi hx hf) ?_;rintro v σ H Q ⟨d,loc,mh,ρ,loc',mh',q,rl,rs,r,co⟩;cases q;exact co H ρ _ Ev.refl rs (rl.set r) Im.set
noncomputable def Ov:List Nat->List D->Loc->Loc
 | i::is,d::ds,loc=>Ov is ds (loc.set i (some d))
 | _,_,loc=>loc
noncomputable def Kp:List Nat->List V->St->St
 | i::is,d::ds,loc=>Kp is ds (loc.set i (some d))
 | _,_,loc=>loc
noncomputable def gNs:List Nat->TGs
 | []=>Adu
 | i::is=>vY (dG i) (gNs is)
theorem gC:∀ (is:List Nat) (vs:List V) (σ:St) (H:Hp) (Q:St->Hp->Prop),vs.length=is.length->Q (Kp is vs σ) H->gNs is vs σ H Q
 | [],[],_,_,_,_,q=>⟨rfl,q⟩
 | [],_::_,_,_,_,h,_=>by simp at h
 | _::_,[],_,_,_,h,_=>by simp at h
 | i::is,v::vs,σ,H,Q,h,q=>⟨v,vs,rfl,gC is vs _ H Q (by simpa using h) q⟩
theorem Q7 {K:PySem.W.Frag}{H:Hp}{ρ:List Addr}:∀ (is:List Nat) {ds:List D}{vs:List V}{loc:Loc}{σ:St},RDs K H ρ ds vs->RL K H ρ loc σ->RL K H ρ (Ov is ds loc) (Kp is vs σ)
 | [],_,_,_,_,.nil,rl=>rl
 | [],_,_,_,_,.cons _ _,rl=>rl
 | _::_,_,_,_,_,.nil,rl=>rl
 | i::is,_,_,_,_,.cons r t,rl=>Q7 is t (rl.set r)
theorem Mt:∀ (is:List Nat) (vs:List V) (σ:St),Im is σ (Kp is vs σ)
 | [],[],_=>⟨rfl,fun _ _=>rfl⟩
 | [],_::_,_=>⟨rfl,fun _ _=>rfl⟩
 | _::_,[],_=>⟨rfl,fun _ _=>rfl⟩
 | i::is,v::vs,σ=>by
  obtain ⟨h1,h2⟩:=Mt is vs (σ.set i (some v));refine ⟨h1.trans List.length_set,fun j hj=>?_⟩;have hj':¬ (j=i)/\j ∉ is:=by simpa using hj
  show (Kp is vs (σ.set i (some v)))[j]?=σ[j]?;rw [h2 j hj'.2,List.getElem?_set_ne (fun e=>hj'.1 e.symm)]
noncomputable def Ow (is:List Nat):GM:=fun d loc mh=>match d with
 | .tup ds=>if ds.length=is.length then some (Ov is ds loc,mh) else none
 | _=>none
theorem Aaf {es:List Expr}{k:Nat}{is:List Nat}(hc:X.calm=true) (h:PGs X es (gNs is)) (hn:(assignEach es X.env).length=is.length) (hst:(assignEach es X.env).findIdx? (·.1)=none):DG X (.Tuple es k pos) is (Ow is):=by
 refine Wr (yF hc h hn hst) ?_;rintro v σ H Q ⟨d,loc,mh,ρ,loc',mh',q,rl,rs,r,co⟩;cases r with
 | @tup ds a xs s r =>
  have q:(if ds.length=is.length then some (Ov is ds loc,mh) else none)=some (loc',mh'):=q;split at q
  ·rename_i hl;cases q;exact ⟨a,xs,rfl,s,by rw [← r.length];exact hl,gC is xs σ H Q (by rw [← r.length];exact hl) (co H ρ _ Ev.refl rs (Q7 is r rl) (Mt is xs σ))⟩
  ·cases q
 | _=>cases q
noncomputable def wB (o i v:D) (mh:MH):Option MH:=match o,i with
 | .ref n,.int k=>match mh[n]? with
  | some (.lst ds)=>match ixN ds.length k with
   | some j=>some (mh.set n (.lst (ds.set j v)))
   | none=>none
  | _=>none
 | _,_=>none
noncomputable def gD (mo mi:DM D):GM:=fun v loc mh=>match mo loc mh with
 | some (o,m1)=>match mi loc m1 with
  | some (i,m2)=>match wB o i v m2 with
   | some m3=>some (loc,m3)
   | none=>none
  | none=>none
 | none=>none
theorem Ws {o i v:D}{mh m:MH}(h:wB o i v mh=some m):∃ n k ds j,o=.ref n/\i=.int k/\mh[n]?=some (.lst ds)/\ixN ds.length k=some j/\m=mh.set n (.lst (ds.set j v)):=by
 cases o with
 | ref n =>
  cases i with
  | int k =>
   have h:(match mh[n]? with | some (.lst ds)=>(match ixN ds.length k with | some j=>some (mh.set n (.lst (ds.set j v))) | none=>none) | _=>none)=some m:=h;split at h
   ·rename_i ds em;split at h
    ·rename_i j ej;cases h;exact ⟨n,k,ds,j,rfl,rfl,em,ej,rfl⟩
    ·cases h
   ·cases h
  | _=>cases h
 | _=>cases i <;> cases h
theorem Aag {o i:Expr}{mo mi:DM D}(ho:DE X o mo) (hi:DE X i mi) (ha:∀ v,assign (.Subscript o i pos) X.env v=(do
      let ov ← holding [v] (eval o X.env)
      let iv ← holding [v,ov] (eval i X.env)
      standAt pos
      holding [v,ov,iv] (setItem ov iv v)
      release [v,ov,iv] [])):DG X (.Subscript o i pos) [] (gD mo mi):=by
  refine Wr (yG ho.x hi.x set_list ha) ?_;rintro v σ H Q ⟨d,loc,mh,ρ,loc',mh',q,rl,rs,r,co⟩;unfold gD at q;split at q
  · rename_i od m1 eo;split at q
    · rename_i idx m2 ei;split at q
      · rename_i m3 es;cases q;refine ⟨loc,mh,ρ,od,m1,eo,rl,rs,fun H1 ρ1 v1 e1 rs1 r1=>⟨loc,m1,ρ1,idx,m2,ei,rl.mono e1,rs1,fun H2 ρ2 v2 e2 rs2 r2=>?_⟩⟩;obtain ⟨n,k,ds,j,rfl,rfl,em,ej,rfl⟩:=Ws es;have r':=(r.mono e1).mono e2;cases r1.mono e2 with
        | @ref _ a hn =>
          cases r2;obtain ⟨a',ha',xs,hx,rx⟩:=rs2.at em;rw [hn] at ha';cases ha';refine ⟨a,xs,k,j,rfl,rfl,hx,by rw [← rx.length];exact ej,?_⟩;exact co _ ρ2 σ ((e1.trans e2).trans (Ev.lst hx)) (rs2.setL hn hx (rx.set r' j)) (((rl.mono e1).mono e2).mono (Ev.lst hx)) ⟨rfl,fun _ _=>rfl⟩
      · cases q
    · cases q
  · cases q
noncomputable def Bd (me:DM D) (g:GM):SM:=fun loc mh=>match me loc mh with
 | some (d,h)=>match g d loc h with
  | some (l,h')=>some (.nx,l,h')
  | none=>none
 | none=>none
theorem Ut {ws:List Nat}{g:GM}{N:Ends}{σ:St}{H:Hp}(h:tS X.K (Bd me g) N σ H):yH (tDx X.K me) (tG X.K ws g) N σ H:=by
 obtain ⟨loc,mh,ρ,f,loc',mh',q,rl,rs,co⟩:=h;unfold Bd at q;split at q
 ·rename_i d h1 ee;split at q
  ·rename_i l h2 eg;cases q;exact ⟨loc,mh,ρ,d,h1,ee,rl,rs,fun H1 ρ1 v e1 rs1 r1=>⟨d,loc,h1,ρ1,_,_,eg,rl.mono e1,rs1,r1,fun H2 ρ2 σ2 e2 rs2 rl2 _=>co H2 ρ2 σ2 (e1.trans e2) rs2 rl2⟩⟩
  ·cases q
 ·cases q
theorem Wt {tg:Expr}{ws:List Nat}{g:GM}(he:DE X e me) (hg:DG X tg ws g) (hs:swapsWithSole [tg] e pos.line X.env=pure false) (hw:swappedStores [tg] e X.env=pure none) (h1:(assignEach [tg] X.env).map (·.2)=[assign tg X.env]):DS X (.Assign [tg] e pos) (Bd me g) :=
 Fq (yI he.x hg hs hw h1) fun N σ H h=>Ut h
noncomputable def Nt (src:Src) (g:GM) (body:SM):Nat->Nat->SM
 | 0,i,loc,mh=>if src.stop mh i=true then some (.nx,loc,mh) else none
 | k+1,i,loc,mh=>match src.get mh i with
  | none=>if src.stop mh i=true then some (.nx,loc,mh) else none
  | some d=>match g d loc mh with
   | none=>none
   | some (l1,h1)=>match body l1 h1 with
    | some (.nx,l,h)=>Nt src g body k (i+1) l h
    | some (.ct,l,h)=>Nt src g body k (i+1) l h
    | some (.bk,l,h)=>some (.nx,l,h)
    | some (.rt d,l,h)=>some (.rt d,l,h)
    | none=>none
noncomputable def Hs (mi:DM Src) (g:GM) (body:SM):SM:=fun loc mh=>match mi loc mh with
 | some (src,h)=>Nt src g body (src.items h).length 0 loc h
 | none=>none
theorem Aah {tg iter:Expr}{body:List Stmt}{mi:DM Src}{ws:List Nat}{g:GM}{mb:SM}(hp:PassesOwn (model X.prog X.w) X.A X.env X.xe) (hc:X.calm=true) (hi:DI X tg iter mi) (hg:DG X tg ws g) (hb:DSs X body mb)
  (hs:∀ x,foldedSetIterable iter X.env x=pure x):DS X (.For tg iter body [] pos) (Hs mi g mb):=by
 refine Fq (yM hp hc hi.x hg hb hs) ?_;rintro N σ H ⟨loc,mh,ρ,f,loc',mh',q,rl,rs,co⟩;unfold Hs at q;split at q
 ·rename_i src h0 ei;refine ⟨loc,mh,ρ,src,h0,ei,rl,rs,fun H1 ρ1 J e1 rs1 jr=>?_⟩
  refine ⟨fun i k σ H=>∃ ρ loc mh f loc' mh',Ev X.K H1 ρ1 H ρ/\RL X.K H ρ loc σ/\RS X.K H ρ mh/\Nt src g mb k i loc mh=some (f,loc',mh')/\CoS X.K H ρ f loc' mh' N,
   ⟨_,ρ1,loc,h0,f,loc',mh',Ev.refl,rl.mono e1,rs1,q,co.ev e1⟩,?_⟩
  rintro i k σ H ⟨ρ,loc,mh,f,loc',mh',ev,rl,rs,q,co⟩;have stop:(if src.stop mh i=true then some (Fl.nx,loc,mh) else none)=some (f,loc',mh')->J.stop i H/\N.nx σ H:=fun q=>by
   split at q
   ·rename_i hst;cases q;exact ⟨jr.stop H ρ mh i ev rs hst,co H ρ σ Ev.refl rs rl⟩
   ·cases q
  cases k with
  | zero=>exact .inl (stop q)
  | succ k =>
   simp only [Nt] at q;split at q
   ·exact .inl (stop q)
   ·rename_i d ed;obtain ⟨hgo,hyld⟩:=jr.go H ρ mh i d ev rs ed;split at q
    ·cases q
    ·rename_i l1 h1 eg
     refine .inr ⟨hgo,fun σ' H'=>∃ ρ' loc mh f loc' mh',Ev X.K H1 ρ1 H' ρ'/\RL X.K H' ρ' loc σ'/\RS X.K H' ρ' mh/\Nt src g mb k (i+1) loc mh=some (f,loc',mh')/\CoS X.K H' ρ' f loc' mh' N,
      fun σ' H' h=>⟨k,Nat.lt_succ_self _,h⟩,fun x H' hy=>?_⟩
     obtain ⟨ev2,rs2,rd2⟩:=hyld x H' hy;refine ⟨d,loc,mh,ρ,l1,h1,eg,rl.mono ev2,rs2,rd2,fun H3 ρ3 σ3 ev3 rs3 rl3 _=>?_⟩;split at q
     ·rename_i l h eb;exact ⟨l1,h1,ρ3,.nx,l,h,eb,rl3,rs3,fun H4 ρ4 σ4 ev4 rs4 rl4=>⟨ρ4,l,h,f,loc',mh',ev.trans (ev2.trans (ev3.trans ev4)),rl4,rs4,q,co.ev (ev2.trans (ev3.trans ev4))⟩⟩
     ·rename_i l h eb;exact ⟨l1,h1,ρ3,.ct,l,h,eb,rl3,rs3,fun H4 ρ4 σ4 ev4 rs4 rl4=>⟨ρ4,l,h,f,loc',mh',ev.trans (ev2.trans (ev3.trans ev4)),rl4,rs4,q,co.ev (ev2.trans (ev3.trans ev4))⟩⟩
     ·rename_i l h eb;cases q;exact ⟨l1,h1,ρ3,.bk,_,_,eb,rl3,rs3,fun H4 ρ4 σ4 ev4 rs4 rl4=>co H4 ρ4 σ4 (ev2.trans (ev3.trans ev4)) rs4 rl4⟩
     ·rename_i d' l h eb;cases q;exact ⟨l1,h1,ρ3,.rt d',_,_,eb,rl3,rs3,fun H4 ρ4 v4 ev4 rs4 r4=>co H4 ρ4 v4 (ev2.trans (ev3.trans ev4)) rs4 r4⟩
     ·cases q
 ·cases q
end
noncomputable def Es (t:DM Bool) (body:SM):Nat->SM
 | 0,_,_=>none
 | k+1,loc,mh=>match t loc mh with
  | none=>none
  | some (false,h)=>some (.nx,loc,h)
  | some (true,h)=>match body loc h with
   | some (.nx,l,h)=>Es t body k l h
   | some (.ct,l,h)=>Es t body k l h
   | some (.bk,l,h)=>some (.nx,l,h)
   | some (.rt d,l,h)=>some (.rt d,l,h)
   | none=>none
noncomputable def Ss (t:DM Bool) (body:SM):SM:=Es t body 1000000
section
variable {X:Cx}{pos:Pos}
theorem gF {c:Expr}{body:List Stmt}{t:DM Bool}{mb:SM}(hp:PassesOwn (model X.prog X.w) X.A X.env X.xe) (hc:DT X c t) (hb:DSs X body mb):DS X (.While c body [] pos) (Ss t mb):=by
 refine Fq (dI hp hc.x hb) ?_;rintro N σ H ⟨loc,mh,ρ,f,loc',mh',q,rl,rs,co⟩;refine ⟨fun k σ H=>∃ ρ loc mh f loc' mh',RL X.K H ρ loc σ/\RS X.K H ρ mh/\Es t mb k loc mh=some (f,loc',mh')/\CoS X.K H ρ f loc' mh' N,⟨_,ρ,loc,mh,f,loc',mh',rl,rs,q,co⟩,?_⟩;rintro k σ H ⟨ρ,loc,mh,f,loc',mh',rl,rs,q,co⟩;cases k with
 | zero=>cases q
 | succ k =>
  simp only [Es] at q;split at q
  ·cases q
  ·rename_i h et;cases q;exact ⟨_,mh,ρ,false,_,et,rl,rs,fun H1 ρ1 e1 rs1=>R7 (co H1 ρ1 σ e1 rs1 (rl.mono e1))⟩
  ·rename_i h et;refine ⟨loc,mh,ρ,true,h,et,rl,rs,fun H1 ρ1 e1 rs1=>R8 ⟨fun σ' H'=>∃ ρ' loc mh f loc' mh',RL X.K H' ρ' loc σ'/\RS X.K H' ρ' mh/\Es t mb k loc mh=some (f,loc',mh')/\CoS X.K H' ρ' f loc' mh' N,fun σ' H' h=>⟨k,Nat.lt_succ_self _,h⟩,?_⟩⟩;have rl1:=rl.mono e1;split at q
   ·rename_i l h2 eb;exact ⟨loc,h,ρ1,.nx,l,h2,eb,rl1,rs1,fun H4 ρ4 σ4 ev4 rs4 rl4=>⟨ρ4,l,h2,f,loc',mh',rl4,rs4,q,co.ev (e1.trans ev4)⟩⟩
   ·rename_i l h2 eb;exact ⟨loc,h,ρ1,.ct,l,h2,eb,rl1,rs1,fun H4 ρ4 σ4 ev4 rs4 rl4=>⟨ρ4,l,h2,f,loc',mh',rl4,rs4,q,co.ev (e1.trans ev4)⟩⟩
   ·rename_i l h2 eb;cases q;exact ⟨loc,h,ρ1,.bk,_,_,eb,rl1,rs1,fun H4 ρ4 σ4 ev4 rs4 rl4=>co H4 ρ4 σ4 (e1.trans ev4) rs4 rl4⟩
   ·rename_i d' l h2 eb;cases q;exact ⟨loc,h,ρ1,.rt d',_,_,eb,rl1,rs1,fun H4 ρ4 v4 ev4 rs4 r4=>co H4 ρ4 v4 (e1.trans ev4) rs4 r4⟩
   ·cases q
end
noncomputable def Qm (cs:List (Option Nat)) (loc:Loc):Loc:=cs.map fun o=>match o with | some j=>(match loc[j]? with | some d=>d | none=>none) | none=>none
noncomputable def Qn (cs:List (Option Nat)) (σ:St):St:=cs.map fun o=>match o with | some j=>(match σ[j]? with | some d=>d | none=>none) | none=>none
theorem Aai {K:PySem.W.Frag}{H:Hp}{ρ:List Addr}{loc:Loc}{σ:St}(cs:List (Option Nat)) (h:RL K H ρ loc σ):RL K H ρ (Qm cs loc) (Qn cs σ):=by
 refine ⟨by unfold Qm Qn;rw [List.length_map,List.length_map],fun i d e=>?_⟩;unfold Qm at e;unfold Qn;rw [List.getElem?_map] at e ⊢;cases q:cs[i]? with
 | none=>rw [q] at e;cases e
 | some o =>
  rw [q] at e;cases o with
  | none=>simp at e
  | some j =>
   simp only [Option.map_some,Option.some.injEq] at e;cases ej:loc[j]? with
   | none=>rw [ej] at e;cases e
   | some d' =>
    rw [ej] at e;have e:d'=some d:=e;subst e;obtain ⟨v,e1,r⟩:=h.2 j d ej;exact ⟨v,by simp only [Option.map_some,e1],r⟩
structure CapOk (X:Cx) (N':List Str) (scope:Scope) (cs:List (Option Nat)):Prop where
 len:N'.length=cs.length
 cap:∀ (i:Nat) (x:Str) (j:Nat),N'[i]?=some x->cs[i]?=some (some j)->scope.names.lookup x=some .free/\X.N[j]?=some x
theorem CapOk.to {X:Cx}{N':List Str}{scope:Scope}{cs:List (Option Nat)}(h:CapOk X N' scope cs) (σ:St):Cap X N' scope σ (Qn cs σ):=by
 refine ⟨by unfold Qn;rw [List.length_map];exact h.len.symm,fun i x v e1 e2=>?_⟩;unfold Qn at e2;rw [List.getElem?_map] at e2;cases q:cs[i]? with
 | none=>rw [q] at e2;cases e2
 | some o =>
  rw [q] at e2;cases o with
  | none=>simp at e2
  | some j =>
   obtain ⟨h1,h2⟩:=h.cap i x j e1 q;refine ⟨h1,j,h2,?_⟩;simp only [Option.map_some,Option.some.injEq] at e2;cases ej:σ[j]? with
   | none=>rw [ej] at e2;cases e2
   | some d'=>rw [ej] at e2;have e2:d'=some v:=e2;rw [e2]
theorem sO {cs:List (Option Nat)}{ws:List Nat}{σ σ2:St}(hw:∀ i∈ws,∀ j,cs[i]?≠some (some j)) (h:Im ws (Qn cs σ) σ2):Kept (Qn cs σ) σ2:=by
 refine ⟨h.1,fun i v e=>?_⟩;rw [h.2 i fun hi=>?_]
 ·exact e
 ·unfold Qn at e;rw [List.getElem?_map] at e;cases q:cs[i]? with
  | none=>rw [q] at e;cases e
  | some o =>
   cases o with
   | none=>rw [q] at e;simp at e
   | some j=>exact hw i hi j q
noncomputable def Jj (src:Src) (g:GM) (tc:DM Bool) (me:DM D) (loc:Loc):Nat->Nat->List D->MH->Option (List D×MH)
 | 0,i,acc,mh=>if src.stop mh i=true then some (acc,mh) else none
 | k+1,i,acc,mh=>match src.get mh i with
  | none=>if src.stop mh i=true then some (acc,mh) else none
  | some d=>match g d loc mh with
   | none=>none
   | some (l1,h1)=>match tc l1 h1 with
    | none=>none
    | some (c,h2)=>if c=true then (match me l1 h2 with
      | some (y,h3)=>if acc.length < sizeLine then Jj src g tc me loc k (i+1) (acc++[y]) h3 else none
      | none=>none) else Jj src g tc me loc k (i+1) acc h2
noncomputable def Dk (mi:DM Src) (cs:List (Option Nat)) (g:GM) (tc:DM Bool) (me:DM D):DM D:=fun loc mh=>match mi loc mh with
 | some (src,h)=>match Jj src g tc me (Qm cs loc) (src.items h).length 0 [] h with
  | some (ds,h')=>some (.ref h'.length,h'++[.lst ds])
  | none=>none
 | none=>none
section
variable {X:Cx}{N':List Str}{scope:Scope}{cs:List (Option Nat)}{ws:List Nat}{mi:DM Src}{g:GM}{tc:DM Bool}{me:DM D}{elt target iter:Expr}{ifs:List Expr}{pos:Pos}
theorem Uu (hcap:CapOk X N' scope cs) (hw:∀ i∈ws,∀ j,cs[i]?≠some (some j)) {σ:St}{H:Hp}{Q:VK}(h:tDx X.K (Dk mi cs g tc me) σ H Q) :
  eX X N' scope (tIx X.K mi) (tG X.K ws g) (tTx X.K tc) (tDx X.K me) σ H Q:=by
 obtain ⟨loc,mh,ρ,d,mh',q,rl,rs,co⟩:=h;unfold Dk at q;split at q
 ·rename_i src h0 ei;split at q
  ·rename_i ds h1 ec;cases q;refine ⟨loc,mh,ρ,src,h0,ei,rl,rs,fun H1 ρ1 J e1 rs1 jr=>?_⟩;refine ⟨Qn cs σ,hcap.to σ,fun i k acc H=>∃ ρ accD mh,Ev X.K H1 ρ1 H ρ/\RS X.K H ρ mh/\RDs X.K H ρ accD acc/\Jj src g tc me (Qm cs loc) k i accD mh=some (ds,h1),⟨_,ρ1,[],h0,Ev.refl,rs1,.nil,ec⟩,?_⟩;have co1:=co.ev e1;have rl1:=Aai cs (rl.mono e1);rintro i k acc H ⟨ρ,accD,mh,ev,rs,ra,q⟩;have stop:(if src.stop mh i=true then some (accD,mh) else none)=some (ds,h1)->J.stop i H/\∀ p,H p=none->Q (.ref p) (upd H p (.lst acc)):=fun q=>by
    split at q
    ·rename_i hst;cases q;exact ⟨jr.stop H ρ _ i ev rs hst,Co.newL rs ra (co1.ev ev)⟩
    ·cases q
   cases k with
   | zero=>exact .inl (stop q)
   | succ k =>
    simp only [Jj] at q;split at q
    ·exact .inl (stop q)
    ·rename_i d ed;obtain ⟨hgo,hyld⟩:=jr.go H ρ mh i d ev rs ed;split at q
     ·cases q
     ·rename_i l1 h2 eg;refine .inr ⟨hgo,fun acc' H'=>∃ ρ accD mh,Ev X.K H1 ρ1 H' ρ/\RS X.K H' ρ mh/\RDs X.K H' ρ accD acc'/\Jj src g tc me (Qm cs loc) k (i+1) accD mh=some (ds,h1),fun acc' H' h=>⟨k,Nat.lt_succ_self _,h⟩,fun x H' hy=>?_⟩;obtain ⟨ev2,rs2,rd2⟩:=hyld x H' hy;refine ⟨d,Qm cs loc,mh,ρ,l1,h2,eg,rl1.mono (ev.trans ev2),rs2,rd2,fun H3 ρ3 σ3 ev3 rs3 rl3 kb=>⟨sO hw kb,?_⟩⟩;split at q
      ·cases q
      ·rename_i c h3 et;refine ⟨l1,h2,ρ3,c,h3,et,rl3,rs3,fun H4 ρ4 ev4 rs4=>?_⟩;have evA:=ev2.trans (ev3.trans ev4);cases c with
       | false =>
        rw [if_neg Bool.false_ne_true] at q;exact R7 ⟨ρ4,accD,h3,ev.trans evA,rs4,ra.mono evA,q⟩
       | true =>
        rw [if_pos rfl] at q;split at q
        ·rename_i y h4 ey;split at q
         ·rename_i hz;refine R8 ⟨by rw [← ra.length];exact hz,l1,h3,ρ4,y,h4,ey,rl3.mono ev4,rs4,fun H5 ρ5 v ev5 rs5 r5=>⟨ρ5,accD++[y],h4,ev.trans (evA.trans ev5),rs5,(ra.mono (evA.trans ev5)).append (.cons r5 .nil),q⟩⟩
         ·cases q
        ·cases q
  ·cases q
 ·cases q
noncomputable def DIf (X:Cx) (ifs:List Expr) (m:DM Bool):Prop:=PIf X ifs (tTx X.K m)
theorem sS:DIf X [] (Zr true):=by
 rintro pins s σ H Q I ⟨loc,mh,ρ,b,mh',q,rl,rs,co⟩;cases q;exact rG pins s σ H Q I (co H ρ Ev.refl rs)
theorem sU {c:Expr}{m:DM Bool}(h:DT X c m):DIf X [c] m:=rH h.x
theorem sV (hc:X.calm=true) (S:CompOk X scope) (hcap:CapOk X N' scope cs) (hw:∀ i∈ws,∀ j,cs[i]?≠some (some j)) (hit:DI X target iter mi)
  (hg:∀ pins C cells s₀ H₀ fp,DG (Cv X pins N' scope C cells s₀ H₀ fp) target ws g)
  (hi:∀ pins C cells s₀ H₀ fp,DIf (Cv X pins N' scope C cells s₀ H₀ fp) ifs tc)
  (he:∀ pins C cells s₀ H₀ fp,DE (Cv X pins N' scope C cells s₀ H₀ fp) elt me)
  (hs:∀ x,foldedSetIterable iter X.env x=pure x):DE X (.ListComp elt [⟨target,iter,ifs,0⟩] scope pos) (Dk mi cs g tc me):=fun loc mh =>
 Bm (rJ (N':=N') (g:=tG X.K ws g) (tc:=tTx X.K tc) (te:=tDx X.K me) hc S hit.x (fun p C c s h f=>hg p C c s h f) (fun p C c s h f=>hi p C c s h f) (fun p C c s h f=>(he p C c s h f).x) hs) fun σ H Q h=>Uu hcap hw ⟨loc,mh,h⟩
theorem Wu {y:Str}{py spos:Pos}{wy:List Nat}{gy:GM}(hc:X.calm=true) (S:CompOk X scope) (hcap:CapOk X N' scope cs) (hw:∀ i∈ws,∀ j,cs[i]?≠some (some j)) (hit:DI X target iter mi)
  (hg:∀ pins C cells s₀ H₀ fp,DG (Cv X pins N' scope C cells s₀ H₀ fp) target ws g)
  (hi:∀ pins C cells s₀ H₀ fp,DIf (Cv X pins N' scope C cells s₀ H₀ fp) ifs tc)
  (he:∀ pins C cells s₀ H₀ fp,DE (Cv X pins N' scope C cells s₀ H₀ fp) elt me) (hgy:DG X (.Name y py) wy gy)
  (hsw:swapsWith (.ListComp elt [⟨target,iter,ifs,0⟩] scope pos) (some (.Name y py)) spos.line X.env=pure true)
  (hs:∀ x,foldedSetIterable iter X.env x=pure x):DS X (.Assign [.Name y py] (.ListComp elt [⟨target,iter,ifs,0⟩] scope pos) spos) (Bd (Dk mi cs g tc me) gy) :=
 Fq (Wl (N':=N') (g:=tG X.K ws g) (tc:=tTx X.K tc) (te:=tDx X.K me) hc S hit.x (fun p C c s h f=>hg p C c s h f) (fun p C c s h f=>hi p C c s h f) (fun p C c s h f=>(he p C c s h f).x) hgy hsw hs) fun N σ H h=>Uu hcap hw (Ut h)
end
noncomputable def spD (K:PySem.W.Frag) (n:Nat) (f:List D->MH->Option (D×MH)):Sp:=fun vs H Q _=>vs.length=n/\rDs K f vs H Q
section
variable {X:Cx}
theorem Y6 {CX:CXT}{k:Nat}{fa:Addr}{fd:FuncData}{ps:List Str}{f:List D->MH->Option (D×MH)}{x:Str}{p pos:Pos}{a:Expr}{es:List Expr}{mr:DM (List D)}{E:XK}
  (F:FnOk X.prog X.w X.K X.mg X.base CX k fa fd ps (spD X.K ps.length f)) (hr:Room k X.A) (hg:Gl X x) (hm:X.mg x=some (.ref fa)) (hk:PySem.W.keepIn X.K (.ref fa)=true) (hb:Binds X.K fd ps []) (hx:Cp CX X E)
  (ha:DA X (a::es) mr) (hf:∀ ds mh r,f ds mh=some r->ds.length=ps.length) (hdb:(x==("__debug__":Str))=false) (he:starEach (a::es) X.env=(false,eval a X.env)::starEach es X.env) (hpl:(backTo pos (starEach es X.env)).any (·.1)=false) :
  DE X (.Call (.Name x p) (a::es) [] pos) (mr.bnd fun ds=>Zl (f ds)):=fun loc mh=>by
 refine Bm (qU F hr hg hm hk hb .nil hx (ha loc mh) hdb he hpl) ?_;rintro σ H Q ⟨ρ,d,mh',q,rl,rs,co⟩;obtain ⟨ds,m1,ea,q⟩:=Ay q;refine ⟨ρ,ds,m1,ea,rl,rs,fun H1 ρ1 vs e1 rs1 r1=>?_⟩;show spD X.K ps.length f (vs++[]) H1 Q E;rw [List.append_nil];exact ⟨by rw [← r1.length];exact hf _ _ _ q,ρ1,m1,ds,d,mh',q,rs1,r1,co.ev e1⟩
theorem gG {CX:CXT}{k:Nat}{fa:Addr}{fd:FuncData}{f:List D->MH->Option (D×MH)}{x:Str}{p pos:Pos}{E:XK}
  (F:FnOk X.prog X.w X.K X.mg X.base CX k fa fd [] (spD X.K 0 f)) (hr:Room k X.A) (hg:Gl X x) (hm:X.mg x=some (.ref fa)) (hk:PySem.W.keepIn X.K (.ref fa)=true) (hb:Binds X.K fd [] []) (hx:Cp CX X E) (hdb:(x==("__debug__":Str))=false) :
  DE X (.Call (.Name x p) [] [] pos) (Zl (f [])):=fun loc mh=>by
 refine Bm (eE F hr hg hm hk hb .nil hx hdb) ?_;rintro σ H Q ⟨ρ,d,mh',q,rl,rs,co⟩;exact ⟨rfl,ρ,mh,[],d,mh',q,rs,.nil,co⟩
noncomputable def Uv (c:String) (x:D) (mh:MH):Option (D×MH):=match fX x mh with
 | some t=>match Aad t c with
  | some b=>some (.bl b,mh)
  | none=>none
 | none=>none
theorem gH {c:String}(hc:c∈["bool", "int", "str", "tuple", "list", "dict"]):Ca X (.builtin "isinstance") (fun xs H Q=>∃ v,xs=[v,.ty c]/\rD1 X.K (Uv c) v H Q):=by
 rintro pins s σ H xs us Q I r ⟨v,e,ρ,mh,dx,d,mh',q,rs,rd,co⟩;subst e;obtain ⟨u,w',rfl,r1,r2⟩:=Vals.two r;cases (show w'=Value.type c from r2);unfold Uv at q;split at q
 ·rename_i t et;split at q
  ·rename_i b eb;cases q;have fin:∀ tk,EP X pins σ Q (.bool b) { s with toks:=tk }:=fun tk=>⟨.bl b,H,I.tok tk,rfl,co H ρ _ Ev.refl rs (.bl b)⟩
   cases rd with
   | non=>cases et;cases (show u=Value.none from r1);exact PySem.W.kia_one PySem.W.kitx_none I.kIn True.intro (G3 (by decide) hc eb) (fun z=>nomatch z) fin
   | bl y=>cases et;cases (show u=Value.bool y from r1);exact PySem.W.kia_one PySem.W.kitx_bool I.kIn True.intro (G3 (by decide) hc eb) (fun z=>nomatch z) fin
   | int i=>cases et;obtain ⟨t,q⟩:=(show ∃ t,u=Value.int i t from r1);cases q;exact PySem.W.kia_one PySem.W.kitx_int I.kIn True.intro (G3 (by decide) hc eb) (fun z=>nomatch z) fin
   | str y=>cases et;obtain ⟨t,q⟩:=(show ∃ t,u=Value.str y t from r1);cases q;exact PySem.W.kia_one PySem.W.kitx_str I.kIn True.intro (G3 (by decide) hc eb) (fun z=>nomatch z) fin
   | @tup ds a xs sq r =>
    cases et;cases (show u=Value.ref a from r1);obtain ⟨its,_,⟨o,h1,h2,_⟩,_⟩:=I.tuple sq;exact PySem.W.kia_one PySem.W.kitx_tuple I.kIn ⟨o,h1,h2⟩ (G3 (by decide) hc eb) (fun z=>nomatch z) fin
   | obj n s l r=>cases et
   | fn h=>cases et
   | lam h=>cases et
   | clo=>cases et
   | @rol ds a xs sq r =>
    cases et;cases (show u=Value.ref a from r1);obtain ⟨its,_,⟨ob,n',h1,h2,_⟩,_⟩:=I.list sq.sq;exact PySem.W.kia_one PySem.W.kitx_list I.kIn ⟨ob,h1,h2⟩ (G3 (by decide) hc eb) (fun z=>nomatch z) fin
   | @ref n a h =>
    have et:(match mh[n]? with | some (.lst _)=>some "list" | _=>none)=some t:=et;split at et
    ·rename_i o eo;cases et;cases (show u=Value.ref a from r1);obtain ⟨a',ha,ro⟩:=rs.at eo;rw [h] at ha;cases ha;obtain ⟨xs,sq,_⟩:=ro.read;obtain ⟨its,_,⟨ob,n',h1,h2,_⟩,_⟩:=I.list sq;exact PySem.W.kia_one PySem.W.kitx_list I.kIn ⟨ob,h1,h2⟩ (G3 (by decide) hc eb) (fun z=>nomatch z) fin
    ·cases et
  ·cases q
 ·cases q
theorem Aaj {c:Str}{T:String}{p p2 pos:Pos}{a:Expr}{ma:DM D}(hT:T∈["bool", "int", "str", "tuple", "list", "dict"]) (hg:Gl X "isinstance") (hm:X.mg "isinstance"=none) (hg2:Gl X c) (hm2:X.mg c=none) (hv2:bootBuiltins c=some (.type T)) (hn2:c ≠ "__name__") (hd2:(c==("__debug__":Str))=false) (ha:DE X a ma)
  (he:starEach (a::[.Name c p2]) X.env=(false,eval a X.env)::starEach [.Name c p2] X.env):DE X (.Call (.Name "isinstance" p) [a,.Name c p2] [] pos) (ma.bnd fun x=>Zl (Uv T x)):=fun loc mh=>by
 refine Bm (Ug (gH hT) hg hm boot_isinstance (Dp (ha loc mh) (Dp (qC hg2 hm2 hv2 (v:=.ty T) rfl hn2 hd2) Gx) he) (by decide) (by decide) he) ?_;rintro σ H Q ⟨ρ,d,mh',q,rl,rs,co⟩;obtain ⟨x,m1,ea,q⟩:=Ay q;exact ⟨ρ,x,m1,ea,rl,rs,fun H1 ρ1 v e1 rs1 r1=>⟨v,rfl,ρ1,m1,x,d,mh',q,rs1,r1,co.ev e1⟩⟩
end
section
variable {X:Cx}{a b c e o:Expr}{ma mb mc mo:DM D}{pos:Pos}
noncomputable def G4 (f f':D->D->MH->Option (D×MH)) (ma mb mc:DM D):DM D:=ma.bnd fun x=>mb.bnd fun y=>(Aj (Zl (f x y))).bnd fun k=>if k=true then mc.bnd fun z=>Zl (f' y z) else Zr (.bl false)
theorem Q8 {f f':D->D->MH->Option (D×MH)}{σ:St}{H:Hp}{Q:VK}(h:tDx X.K (G4 f f' ma mb mc) σ H Q):V7 (rD X.K f) (rD X.K f') (tDx X.K ma) (tDx X.K mb) (tDx X.K mc) σ H Q:=by
 obtain ⟨loc,mh,ρ,d,mh',q,rl,rs,co⟩:=h;obtain ⟨x,m1,ea,q⟩:=Ay q;obtain ⟨y,m2,eb,q⟩:=Ay q;obtain ⟨k,m3,ek,q⟩:=Ay q;have ek:=Fo ek;refine ⟨loc,mh,ρ,x,m1,ea,rl,rs,fun H1 ρ1 v1 e1 rs1 r1=>⟨loc,m1,ρ1,y,m2,eb,rl.mono e1,rs1,fun H2 ρ2 v2 e2 rs2 r2=>⟨ρ2,m2,x,y,.bl k,m3,ek,rs2,r1.mono e2,r2,fun H3 ρ3 v3 e3 rs3 r3=>?_⟩⟩⟩;cases r3;refine ⟨k,rfl,?_⟩;cases k with
 | true =>
  rw [if_pos rfl] at q;obtain ⟨z,m4,ec,q⟩:=Ay q;exact R8 ⟨loc,m3,ρ3,z,m4,ec,((rl.mono e1).mono e2).mono e3,rs3,fun H4 ρ4 v4 e4 rs4 r4=>⟨ρ4,m4,y,z,d,mh',q,rs4,(r2.mono e3).mono e4,r4,co.ev (e1.trans (e2.trans (e3.trans e4)))⟩⟩
 | false =>
  rw [if_neg Bool.false_ne_true] at q;cases q;exact R7 (co H3 ρ3 _ (e1.trans (e2.trans e3)) rs3 (.bl false))
theorem gJ {op op':CmpOp}{f f':D->D->MH->Option (D×MH)}(ho:OpR X (compareOp op) (rD X.K f)) (ho':OpR X (compareOp op') (rD X.K f')) (hm:lastMarks [op,op'] [b,c]=false) (ha:DE X a ma) (hb:DE X b mb) (hc:DE X c mc) :
  DE X (.Compare a [op,op'] [b,c] pos) (G4 f f' ma mb mc):=fun loc mh=>Bm (dO ho ho' ha.x hb.x hc.x hm) fun σ H Q h=>Q8 ⟨loc,mh,h⟩
theorem gK {op op':CmpOp}{f f':D->D->MH->Option (D×MH)}(ho:OpR X (compareOp op) (rD X.K f)) (ho':OpR X (compareOp op') (rD X.K f')) (hm:lastMarks [op,op'] [b,c]=false) (ha:DE X a ma) (hb:DE X b mb) (hc:DE X c mc) :
  DT X (.Compare a [op,op'] [b,c] pos) (Aj (G4 f f' ma mb mc)):=by
 refine fun loc mh=>Sg (dR ho ho' ha.x hb.x hc.x hm) ?_
 rintro σ H Q ⟨ρ,k,mh',q,rl,rs,co⟩;have q:=Fo q;exact Q8 ⟨loc,mh,ρ,_,_,q,rl,rs,fun H' ρ' v e' rs' r'=>by cases r';exact ⟨k,rfl,co H' ρ' e' rs'⟩⟩
noncomputable def rDM (K:PySem.W.Frag) (f:D->List D->MH->Option (D×MH)):V->List V->Hp->VK->Prop:=fun x xs H Q=>∃ ρ mh dx ds d mh',f dx ds mh=some (d,mh')/\RS K H ρ mh/\RD K H ρ dx x/\RDs K H ρ ds xs/\Co K H ρ mh' d Q
noncomputable def bF (T:String) (x:D) (mh:MH):Bool:=match x with
 | .str _=>T == "str"
 | .int _=>T == "int"
 | .ref n=>T == "list"&&(match mh[n]? with | some (.lst _)=>true | _=>false)
 | .tup _=>T == "tuple"
 | _=>false
theorem gM {K:PySem.W.Frag}{H:Hp}{ρ:List Addr}{mh:MH}{T:String}{x:D}{v:V}(rs:RS K H ρ mh) (r:RD K H ρ x v) (h:bF T x mh=true):tyV K T v H:=by
 cases r with
 | str z=>exact eq_of_beq h
 | int i=>exact eq_of_beq h
 | @ref n a hn =>
  have h:(T == "list"&&(match mh[n]? with | some (.lst _)=>true | _=>false))=true:=h;rw [Bool.and_eq_true] at h;obtain ⟨o,eo⟩:∃ o,mh[n]?=some (.lst o):=by
   have h:=h.2;split at h
   ·exact ⟨_,‹_›⟩
   ·cases h
  obtain ⟨a',ha,ro⟩:=rs.at eo;rw [hn] at ha;cases ha;obtain ⟨xs,sq,_⟩:=ro.read;exact .inl ⟨eq_of_beq h.1,xs,sq⟩
 | tup s r=>exact .inr (.inl ⟨eq_of_beq h,_,s⟩)
 | _=>cases h
noncomputable def Cw (T:String) (f:D->List D->MH->Option (D×MH)) (mo:DM D) (mr:DM (List D)):DM D:=mo.bnd fun x=>fun loc mh=>if bF T x mh=true then (mr.bnd fun ds=>Zl (f x ds)) loc mh else none
theorem Mu {T id:String}{name:Str}{apos:Pos}{es:List Expr}{mr:DM (List D)}{f:D->List D->MH->Option (D×MH)}(pa:PlainAttrs T) (slot:Slot T name id) (hty:typeOf (.builtin id)=pure (.type "method_descriptor")) (hm:MtR X id (rDM X.K f)) (ho:DE X o mo) (ha:DA X (a::es) mr)
  (hbase:attributeBase o name X.env (eval o X.env)=eval o X.env)
  (hfew:((backTo pos (starEach (a::es) X.env)).all (fun x=>!x.1)&&(backToKw pos (keywordEach [] X.env)).all (fun x=>x.1.isSome)
   && decide ((a::es).length+([]:List Keyword).length+(if ([]:List Keyword).isEmpty then 0 else 1) < 30))=true)
  (hline:(apos.endLine==pos.line)=true) (hs:starEach (a::es) X.env=(false,eval a X.env)::starEach es X.env) (hplain:(backTo pos (starEach es X.env)).any (·.1)=false) :
  DE X (.Call (.Attribute o name apos) (a::es) [] pos) (Cw T f mo mr):=fun loc mh=>by
 cases eo:mo loc mh with
 | none =>
  have:Cw T f mo mr loc mh=none:=by unfold Cw DM.bnd;rw [eo]
  rw [this];exact Bo
 | some p =>
  obtain ⟨x,m1⟩:=p;refine Bm (Aee pa slot hty hm (ho loc mh) (ha loc m1) hbase hfew hline hs hplain) ?_;rintro σ H Q ⟨ρ,d,mh',q,rl,rs,co⟩;obtain ⟨x',m1',eo',q⟩:=Ay q;rw [eo] at eo';cases eo';split at q
  ·rename_i ht;obtain ⟨ds,m2,er,q⟩:=Ay q;exact ⟨ρ,x,m1,eo,rl,rs,fun H1 ρ1 v e1 rs1 r1=>⟨gM rs1 r1 ht,ρ1,ds,m2,er,rl.mono e1,rs1,fun H2 ρ2 vs e2 rs2 r2=>⟨ρ2,m2,x,ds,d,mh',q,rs2,r1.mono e2,r2,co.ev (e1.trans e2)⟩⟩⟩
  ·cases q
theorem gO {T id:String}{name:Str}{apos:Pos}{f:D->List D->MH->Option (D×MH)}(pa:PlainAttrs T) (slot:Slot T name id) (hty:typeOf (.builtin id)=pure (.type "method_descriptor")) (hm:MtR X id (rDM X.K f)) (ho:DE X o mo)
  (hbase:attributeBase o name X.env (eval o X.env)=eval o X.env) (hline:(apos.endLine==pos.line)=true):DE X (.Call (.Attribute o name apos) [] [] pos) (Cw T f mo (Zr [])):=fun loc mh=>by
 refine Bm (zM pa slot hty hm (ho loc mh) hbase hline) ?_;rintro σ H Q ⟨ρ,d,mh',q,rl,rs,co⟩;obtain ⟨x,m1,eo,q⟩:=Ay q;split at q
 ·rename_i ht;exact ⟨ρ,x,m1,eo,rl,rs,fun H1 ρ1 v e1 rs1 r1=>⟨gM rs1 r1 ht,ρ1,m1,x,[],d,mh',q,rs1,r1,.nil,co.ev e1⟩⟩
 ·cases q
theorem sW {id:String}{r r':V->List V->Hp->VK->Prop}(h:MtR X id r) (i:∀ x xs H Q,r' x xs H Q->r x xs H Q):MtR X id r':=fun pins s σ H x xs v us Q I rx rs q=>h pins s σ H x xs v us Q I rx rs (i x xs H Q q)
noncomputable def Ck:D->List D->MH->Option (D×MH)
 | .ref n,[y],mh=>match mh[n]? with
  | some (.lst ds)=>if ds.length < sizeLine then some (.non,mh.set n (.lst (ds++[y]))) else none
  | _=>none
 | _,_,_=>none
theorem Wv:MtR X "list.append" (rDM X.K Ck):=by
 refine sW aU ?_;rintro x xs H Q ⟨ρ,mh,dx,ds,d,mh',q,rs,rx,r,co⟩
 match ds,q with
 | [y],q =>
  obtain ⟨v,rfl,rv⟩:=Wo r;cases rx with
  | @ref n a hn =>
   have q:(match mh[n]? with | some (.lst ds)=>if ds.length < sizeLine then some (D.non,mh.set n (.lst (ds++[y]))) else none | _=>none)=some (d,mh'):=q;split at q
   ·rename_i ds em;split at q
    ·rename_i hz;cases q;obtain ⟨a',ha,us,hu,ru⟩:=rs.at em;rw [hn] at ha;cases ha;exact ⟨a,us,v,rfl,rfl,hu,by rw [← ru.length];exact hz,co _ ρ _ (Ev.lst hu) (rs.setL hn hu (ru.append (.cons rv .nil))) .non⟩
    ·cases q
   ·cases q
  | _=>cases q
 | [],q=>cases dx <;> cases q
 | _::_::_,q=>cases dx <;> cases q
noncomputable def gP:D->List D->MH->Option (D×MH)
 | .int i,[],mh=>some (.int (Builtin.Int.intBits i),mh)
 | _,_,_=>none
theorem gQ:MtR X "int.bit_length" (rDM X.K gP):=by
 rintro pins s σ H x xs v us Q I rx rv ⟨ρ,mh,dx,ds,d,mh',q,rs,r1,r2,co⟩
 match ds,q with
 | [],q =>
  cases r2;cases rv;cases r1 with
  | int i =>
   cases q;obtain ⟨t,rfl⟩:=rx;exact call_int_bit_length ⟨.int _,H,I.tok _,⟨_,rfl⟩,co H ρ _ Ev.refl rs (.int _)⟩
  | _=>cases q
 | _::_,q=>cases dx <;> cases q
noncomputable def Aak:D->MH->Option (D×MH)
 | .int i,mh=>some (.int (-i),mh)
 | _,_=>none
theorem sX:UnR X (unaryOp .USub) (rD1 X.K Aak):=by
 rintro pins s σ H x v Q I rx ⟨ρ,mh,dx,d,mh',q,rs,r1,co⟩;cases r1 with
 | int i=>cases q;exact yX pins s σ H _ v Q I rx ⟨i,rfl,co H ρ _ Ev.refl rs (.int _)⟩
 | _=>cases q
end
section
variable {P:Program}{w:World}
variable {A:Around}{E:Value->Shared->Prop}{s:Shared}
end
section
variable {P:Program}{w:World}{A:Around}{R:Result->Shared->Prop}{I:Addr}{fp wr:List Addr}{G:Array GenState->Array GenState->Prop}{n:Nat}{V:Nat->Value->Prop}{T:Nat->Shared->Prop}
end
section
variable {P:Program}{w:World}{A:Around}{E:Value->Shared->Prop}{s:Shared}
end
section
variable {P:Program}{w:World}{A:Around}{E:Value->Shared->Prop}{s:Shared}
noncomputable def gR (ns:List Int):List Int:=firstMet (fun i=>ns.getD i 0) ns.length
end
section
variable {P:Program}{w:World}{A:Around}{E:Value->Shared->Prop}{s:Shared}
end
section
variable {P:Program}{w:World}{A:Around}{E:Value->Shared->Prop}
end
namespace SI
end SI
section
variable {P:Program}{w:World}{A:Around}{E:Value->Shared->Prop}{s:Shared}{a I:Addr}{o:Obj}{es:Array (Int×Value)}{ep n:Nat}{t:SetTable}{S:Int->Bool}
end
section
variable {P:Program}{w:World}{A:Around}{E:Value->Shared->Prop}{s:Shared}{a I:Addr}{o:Obj}{es:Array (Int×Value)}{ep n:Nat}{t:SetTable}{S:Int->Bool}
end
noncomputable def Aeo (ns:List Int):List Int:=(gR ns).mergeSort fun a b=>decide (a<=b)
section
variable {X:Cx}
end
section
variable {P:Program}{w:World}{A:Around}{E:Value->Shared->Prop}{s:Shared}{a b:Addr}{o o':Obj}{es es':Array (Int×Value)}{ep n ep' n':Nat}{t t':SetTable}{S S':Int->Bool}
end
noncomputable def Aep (ns ms:List Int):Bool:=ns.all (fun k=>ms.contains k)&&ms.all fun k=>ns.contains k
section
variable {P:Program}{w:World}{K:Type} [DecidableEq K] {knd:KeyKind P w K}{A:Around}{E:Value->Shared->Prop}{s:Shared}
end
section
variable {P:Program}{w:World}{K:Type} [DecidableEq K] {knd:KeyKind P w K}{A:Around}{E:Value->Shared->Prop}{s:Shared}
end
section
variable {P:Program}{w:World}{K:Type} [DecidableEq K] {knd:KeyKind P w K}
end
section
variable {P:Program}{w:World}{K:Type} [DecidableEq K] {knd:KeyKind P w K}{A:Around}{R:Result->Shared->Prop}{I:Addr}{fp wr:List Addr}{G:Array GenState->Array GenState->Prop}{n:Nat}{V:Nat->Value->Prop}{T:Nat->Shared->Prop}
end
section
variable {P:Program}{w:World}{K:Type} [DecidableEq K] {knd:KeyKind P w K}{A:Around}{E:Value->Shared->Prop}{s:Shared}
end
section
variable {X:Cx}
end
noncomputable def intsOf:List D->Option (List Int)
 | []=>some []
 | .int i::r=>match intsOf r with
  | some l=>some (i::l)
  | none=>none
 | _=>none
noncomputable def gU:D->MH->Option (List Int)
 | .ref n,mh=>match mh[n]? with
  | some (.lst o)=>intsOf o
  | _=>none
 | .rol ds,_=>intsOf ds
 | .tup ds,_=>intsOf ds
 | _,_=>none
theorem Mw:∀ {ds:List D}{ns:List Int},intsOf ds=some ns->ds=ns.map D.int
 | [],ns,h=>by cases h;rfl
 | d::r,ns,h=>by
  cases d with
  | int i =>
   have h:(match intsOf r with | some l=>some (i::l) | none=>none)=some ns:=h;split at h
   ·rename_i l e;cases h;rw [Mw e];rfl
   ·cases h
  | _=>cases h
section
variable {K:PySem.W.Frag}{H:Hp}{ρ:List Addr}{mh:MH}
theorem gY {ns:List Int}{vs:List V}(h:RDs K H ρ (ns.map D.int) vs):vs=ns.map V.int:=by
 induction ns generalizing vs with
 | nil=>cases h;rfl
 | cons n r ih =>
  cases h with
  | cons a t=>cases a;rw [ih t];rfl
end
noncomputable def sY (x:D) (mh:MH):Option (D×MH):=match gU x mh with
 | some ns=>if ns.length < 4000 then some (.int (gR ns).length,mh) else none
 | none=>none
noncomputable def Aal (x y:D) (mh:MH):Option (D×MH):=match gU x mh,gU y mh with
 | some ns,some ms=>if ns.length < 4000/\ms.length < 4000 then some (.bl (Aep ns ms),mh) else none
 | _,_=>none
section
variable {X:Cx}{a:Expr}{ma:DM D}{p p2 pos pos2:Pos}
noncomputable def gZ (mx my:DM D):DM D:=mx.bnd fun x=>my.bnd fun y=>Zl (Aal x y)
end
section
variable {X:Cx}{pins:List (Addr×Obj)}{σ:L2.St}{H:Hp}{s:Shared}
theorem Uw (I:Inv X pins σ H s) {A:Around}(hh:A.handled=none) {p:Addr}{ys:List V}(hq:SqL X.K H p ys\/SqT X.K H p ys) {Q:Value->Shared->Prop}{E:Value->Shared->Prop}
  (h:∀ (its:List Value) (St:Nat->Heap->Prop) (h2:Heap),Vals ys its->Walks X.prog X.w A s.heap.objs.size [s.heap.objs.size,p] [s.heap.objs.size] its.length (fun i v=>its[i]?=some v) St->St 0 h2 ->
   (∀ b∈[s.heap.objs.size,p],b < h2.objs.size)->(∀ b o,s.heap.get? b=some o->h2.get? b=some o)->Q (.ref s.heap.objs.size) { s with heap:=h2 }) :
  wpAny (model X.prog X.w) A (pyIter (.ref p)) Q E s:=by
 rcases hq with hq|hq
 ·obtain ⟨its,rv,pl,hz⟩:=I.list hq;have hlt:p < s.heap.objs.size:=by obtain ⟨_,_,e,_⟩:=pl;exact Heap.lt_size e
  refine wpAny_pyIter_list pl.isList ?_;have W:=Walks.list (prog:=X.prog) (w:=X.w) hh s.heap.objs.size p (Nat.ne_of_lt hlt) its.toArray;refine h its (fun i h=>h.IsListIter s.heap.objs.size p i/\h.IsList p its.toArray) _ rv (by simpa using W) ⟨⟨_,Heap.get?_push_size _ rfl,rfl,rfl⟩,pl.isList.push _⟩ (fun b hb=>?_) fun b o e=>Heap.get?_push_of_some _ e
  rw [Heap.size_push];simp at hb;rcases hb with e|e
  ·rw [e];exact Nat.lt_succ_self _
  ·rw [e];exact Nat.lt_succ_of_lt hlt
 ·obtain ⟨its,rv,pl,hz⟩:=I.tuple hq;have pl:s.heap.IsTuple p its.toArray:=pl;have hlt:p < s.heap.objs.size:=by obtain ⟨_,e,_⟩:=id pl;exact Heap.lt_size e
  refine wpAny_pyIter_tuple pl ?_;have W:=Walks.tuple (prog:=X.prog) (w:=X.w) hh s.heap.objs.size p (Nat.ne_of_lt hlt) its.toArray;refine h its (fun i h=>h.IsTupleIter s.heap.objs.size p i/\h.IsTuple p its.toArray) _ rv (by simpa using W) ⟨⟨_,Heap.get?_push_size _ rfl,rfl,rfl⟩,pl.push _⟩ (fun b hb=>?_) fun b o e=>Heap.get?_push_of_some _ e
  rw [Heap.size_push];simp at hb;rcases hb with e|e
  ·rw [e];exact Nat.lt_succ_self _
  ·rw [e];exact Nat.lt_succ_of_lt hlt
theorem Ux {h2 h':Heap}(hk:∀ b o,b ∉ [s.heap.objs.size]->h2.get? b=some o->h'.get? b=some o) (h1:∀ b o,s.heap.get? b=some o->h2.get? b=some o):∀ b o,s.heap.get? b=some o->h'.get? b=some o :=
 fun b o e=>hk b o (fun hm=>by rw [List.mem_singleton.mp hm] at e;exact Nat.lt_irrefl _ (Heap.lt_size e)) (h1 b o e)
end
noncomputable def boolsOf:List D->Option (List Bool)
 | []=>some []
 | .bl i::r=>match boolsOf r with
  | some l=>some (i::l)
  | none=>none
 | _=>none
theorem Mx:∀ (ns:List Bool),boolsOf (ns.map D.bl)=some ns
 | []=>rfl
 | n::r=>by
  show (match boolsOf (r.map D.bl) with | some l=>some (n::l) | none=>none)=_;rw [Mx r]
theorem Kq:∀ {ds:List D}{ns:List Bool},boolsOf ds=some ns->ds=ns.map D.bl
 | [],ns,h=>by cases h;rfl
 | d::r,ns,h=>by
  cases d with
  | bl i =>
   have h:(match boolsOf r with | some l=>some (i::l) | none=>none)=some ns:=h;split at h
   ·rename_i l e;cases h;rw [Kq e];rfl
   ·cases h
  | _=>cases h
theorem bG {K:PySem.W.Frag}{H:Hp}{ρ:List Addr}{ns:List Bool}{vs:List V}(h:RDs K H ρ (ns.map D.bl) vs):vs=ns.map V.bl:=by
 induction ns generalizing vs with
 | nil=>cases h;rfl
 | cons n r ih =>
  cases h with
  | cons a t=>cases a;rw [ih t];rfl
theorem Y7:∀ {bs:List Bool}{its:List Value},Vals (bs.map V.bl) its->its=bs.map Value.bool
 | [],_,.nil=>rfl
 | b::r,_,.cons h t=>by
  have h:_=Value.bool b:=h;rw [h,Y7 t];rfl
theorem Kr:∀ {ns:List Int}{its:List Value}{i:Nat}{v:Value},Vals (ns.map V.int) its->its[i]?=some v->∃ n t,ns[i]?=some n/\v=.int n t
 | [],_,_,_,.nil,e=>by simp at e
 | n::r,_,0,_,.cons h t,e=>by
  obtain ⟨k,rfl⟩:=h;cases e;exact ⟨n,k,rfl,rfl⟩
 | n::r,_,i+1,_,.cons h t,e=>by
  obtain ⟨m,k,h1,h2⟩:=Kr (i:=i) t (by simpa using e);exact ⟨m,k,by simpa using h1,h2⟩
noncomputable def Ks (f:List Bool->Bool):List D->MH->Option (D×MH)
 | [x],mh=>match Dq x mh with
  | some ds=>match boolsOf ds with
   | some bs=>some (.bl (f bs),mh)
   | none=>none
  | none=>none
 | _,_=>none
theorem Sv {f:List Bool->Bool}{ds:List D}{mh mh':MH}{d:D}(h:Ks f ds mh=some (d,mh')):∃ x bs,ds=[x]/\Dq x mh=some (bs.map D.bl)/\d=.bl (f bs)/\mh'=mh:=by
 match ds,h with
 | [x],h =>
  have h:(match Dq x mh with | some ds=>(match boolsOf ds with | some bs=>some (D.bl (f bs),mh) | none=>none) | none=>none)=some (d,mh'):=h;split at h
  ·rename_i es e;split at h
   ·rename_i bs eb;cases h;rw [Kq eb] at e;exact ⟨x,bs,rfl,e,rfl,rfl⟩
   ·cases h
  ·cases h
 | [],h=>cases h
 | _::_::_,h=>cases h
noncomputable def sZ:List D->MH->Option (D×MH):=Ks fun bs=>bs.all id
section
variable {X:Cx}
theorem iB (hc:X.calm=true) {id:String}{f:List Bool->Bool}{dflt:Bool}{g:List Nat->(Nat->Bool)->Bool}(hg:∀ bs:List Bool,g (List.range bs.length) (fun i=>(bs[i]?).getD dflt)=f bs)
  (call_w:∀ {A:Around} {x:Value} {Q:Value->Shared->Prop} {E:Value->Shared->Prop} {s:Shared},wpAny (model X.prog X.w) A.in1 (pyIter x) (fun it s₂=>∃ I fp wr n P St tr,it=.ref I/\Walks X.prog X.w A.in1 I fp wr n P St/\St 0 s₂.heap/\TruthOf X.prog X.w A.in1 P tr /\
   ∀ h' tk,(∀ b o,b ∉ wr->s₂.heap.get? b=some o->h'.get? b=some o)->Q (.bool (g (List.range n) tr)) { s₂ with heap:=h',toks:=tk }) E s->wpAny (model X.prog X.w) A (call (.builtin id) [x]) Q E s) :
  Ca X (.builtin id) (rDs X.K (Ks f)):=by
 rintro pins s σ H xs us Q I r ⟨ρ,mh,ds,d,mh',q,rs,rd,co⟩;obtain ⟨x,bs,rfl,e,rfl,rfl⟩:=Sv q;obtain ⟨v,rfl,rx⟩:=Wo rd;obtain ⟨u,rfl,ru⟩:=vals1 r;obtain ⟨p,ys,rfl,hq,ry⟩:=Il rs rx e;cases ru;rw [bG ry] at hq;refine call_w (Uw I (A:=X.A.in1) (I.ok.hd hc) hq fun its St h2 rv W st _ hk=>?_);have ei:=Y7 rv;refine ⟨_,_,_,its.length,_,St,fun i=>(bs[i]?).getD dflt,rfl,W,st,fun i v s' Q' E' hP hQ=>?_,fun h' tk hk'=>?_⟩
 ·rw [ei,List.getElem?_map] at hP;cases eb:bs[i]? with
  | none=>rw [eb] at hP;cases hP
  | some b =>
   rw [eb] at hP;cases hP;simp only [eb,Option.getD_some] at hQ;exact wpAny_truthy_bool hQ
 ·have e2:its.length=bs.length:=by rw [ei,List.length_map]
  rw [e2,hg bs];exact ⟨.bl _,H,I.kept (t':=tk) (Ux hk' hk),rfl,co H ρ _ Ev.refl rs (.bl _)⟩
theorem bH (hc:X.calm=true):Ca X (.builtin "all") (rDs X.K sZ):=iB (dflt:=true) hc (g:=fun l f=>l.all f) (fun bs=>LSm.range_all bs) fun h=>call_all_walk h
end
noncomputable def Uy:Int->List Int->Int
 | m,[]=>m
 | m,x::r=>Uy (if x < m then x else m) r
theorem Ku (bt:Nat->Nat->Bool) (f:Int->List Int->Int) (ns:List Int) (b:Int->Int->Bool) (hb:∀ i j x y,ns[i]?=some x->ns[j]?=some y->bt i j=b x y) (f0:∀ m,f m []=m) (f1:∀ m l x,f m (l++[x])=if b x (f m l)=true then x else f m l) :
  ∀ (k:Nat) (h:k < ns.length),∀ m r,ns=m::r->ns[argBest bt k]?=some (f m (r.take k))
 | 0,h,m,r,e=>by
  subst e;simp [argBest,f0]
 | k+1,h,m,r,e=>by
  have ih:=Ku bt f ns b hb f0 f1 k (by omega) m r e;have hk:k < r.length:=by rw [e,List.length_cons] at h;omega
  have e1:ns[k+1]?=some r[k]:=by rw [e,List.getElem?_cons_succ,List.getElem?_eq_getElem hk]
  have e2:r.take (k+1)=r.take k++[r[k]]:=by rw [List.take_add_one,List.getElem?_eq_getElem hk];rfl
  have e3:=hb (k+1) (argBest bt k) _ _ e1 ih;rw [e2,f1];unfold argBest;rw [e3];split
  ·exact e1
  ·exact ih
theorem Q9:∀ (l:List Int) (m x:Int),Uy m (l++[x])=if decide (x < Uy m l)=true then x else Uy m l
 | [],m,x=>by by_cases h:x < m <;> simp [Uy,h]
 | y::l,m,x=>by
  show Uy _ (l++[x])=_;rw [Q9 l];rfl
noncomputable def Ww (f:Int->List Int->Int):List D->MH->Option (D×MH)
 | [x],mh=>match Dq x mh with
  | some ds=>match intsOf ds with
   | some (n::r)=>some (.int (f n r),mh)
   | _=>none
  | none=>none
 | _,_=>none
theorem Uz {f:Int->List Int->Int}{ds:List D}{mh mh':MH}{d:D}(h:Ww f ds mh=some (d,mh')):∃ x n r,ds=[x]/\Dq x mh=some ((n::r).map D.int)/\d=.int (f n r)/\mh'=mh:=by
 match ds,h with
 | [x],h =>
  have h:(match Dq x mh with | some ds=>(match intsOf ds with | some (n::r)=>some (D.int (f n r),mh) | _=>none) | none=>none)=some (d,mh'):=h;split at h
  ·rename_i es e;split at h
   ·rename_i n r eb;cases h;rw [Mw eb] at e;exact ⟨x,n,r,rfl,e,rfl,rfl⟩
   ·cases h
  ·cases h
 | [],h=>cases h
 | _::_::_,h=>cases h
noncomputable def minD:List D->MH->Option (D×MH):=Ww Uy
section
variable {X:Cx}
theorem tB (hc:X.calm=true) {id:String}{f:Int->List Int->Int}{op:CmpOp}{b:Int->Int->Bool}(f0:∀ m,f m []=m) (f1:∀ m l x,f m (l++[x])=if b x (f m l)=true then x else f m l)
  (cmp:∀ {A:Around} {x y:Int} {t u:Tok} {Q:Value->Shared->Prop} {E:Value->Shared->Prop} {s:Shared},Q (.bool (b x y)) s->wpAny (model X.prog X.w) A (richCompare op (.int x t) (.int y u)) Q E s)
  (call_w:∀ {A:Around} {x:Value} {Q:Value->Shared->Prop} {E:Value->Shared->Prop} {s:Shared},wpAny (model X.prog X.w) A.in1 (pyIter x) (fun it s₂=>∃ I fp wr n P St bt,it=.ref I/\Walks X.prog X.w A.in1 I fp wr n P St/\St 0 s₂.heap/\(∀ b∈fp,b < s₂.heap.objs.size)/\0 < n/\CmpOf X.prog X.w A.in1 op P bt /\
   ∀ v h' tk,P (argBest bt (n - 1)) v->(∀ b o,b ∉ wr->s₂.heap.get? b=some o->h'.get? b=some o)->Q v { s₂ with heap:=h',toks:=tk }) E s->wpAny (model X.prog X.w) A (call (.builtin id) [x]) Q E s) :
  Ca X (.builtin id) (rDs X.K (Ww f)):=by
 rintro pins s σ H xs us Q I r ⟨ρ,mh,ds,d,mh',q,rs,rd,co⟩;obtain ⟨x,n,l,rfl,e,rfl,rfl⟩:=Uz q;obtain ⟨v,rfl,rx⟩:=Wo rd;obtain ⟨u,rfl,ru⟩:=vals1 r;obtain ⟨p,ys,rfl,hq,ry⟩:=Il rs rx e;cases ru;rw [gY ry] at hq;refine call_w (Uw I (A:=X.A.in1) (I.ok.hd hc) hq fun its St h2 rv W st hfp hk=>?_);have hlen:(n::l).length=its.length:=by have:=rv.length;simpa using this
 refine ⟨_,_,_,its.length,_,St,fun i j=>(match (n::l)[i]?,(n::l)[j]? with | some x,some y=>b x y | _,_=>false),rfl,W,st,hfp,by rw [← hlen];simp,fun i j vi vj s' Q' E' hi hj hQ=>?_,fun v h' tk hP hk'=>?_⟩
 ·obtain ⟨a,t,e1,rfl⟩:=Kr rv hi;obtain ⟨a',t',e2,rfl⟩:=Kr rv hj;simp only [e1,e2] at hQ;exact cmp hQ
 ·have ar:=Ku (fun i j=>(match (n::l)[i]?,(n::l)[j]? with | some x,some y=>b x y | _,_=>false)) f (n::l) b (fun i j x y e1 e2=>by simp only [e1,e2]) f0 f1 (its.length - 1) (by rw [hlen];simp at hlen;omega) n l rfl;obtain ⟨a,t,e1,rfl⟩:=Kr rv hP;rw [ar] at e1;have e3:l.take (its.length - 1)=l:=List.take_of_length_le (by rw [← hlen];simp);rw [e3] at e1;cases e1;exact ⟨.int _,H,I.kept (t':=tk) (Ux hk' hk),⟨t,rfl⟩,co H ρ _ Ev.refl rs (.int _)⟩
end
section
variable {X:Cx}
theorem bI (hc:X.calm=true):Ca X (.builtin "min") (rDs X.K minD):=tB (op:=.Lt) (b:=fun x m=>decide (x < m)) hc (fun _=>rfl) (fun m l x=>Q9 l m x) (fun h=>PyProof.Rows.lt_int h) fun h=>call_min_walk h
end
section
variable {X:Cx}{pins:List (Addr×Obj)}{σ:L2.St}{H:Hp}{s:Shared}{fp:List Addr}{h':Heap}
theorem bJ {t':Nat}(I:Inv X pins σ H s) (k:∀ b o,b ∉ fp->s.heap.get? b=some o->h'.get? b=some o) (hf:∀ b∈fp,Kl X pins H b):Inv X pins σ H { s with heap:=h',toks:=t' }:=by
 have nf:∀ b u,H b=some u->b ∉ fp:=fun b u e z=>by rw [(hf b z).1] at e;cases e
 refine I.step (g':=s.gens) (d':=s.drawn) (ch:=fp) (fun b hb=>⟨(hf b hb).2.2.2.1,(hf b hb).2.1,(hf b hb).2.2.2.2.1,(hf b hb).2.2.2.2.2⟩) (fun b o _ _ hc e _=>k b o hc e) (fun b o _ _ hc e _=>⟨o.slots,k b o hc e⟩) (fun _ _ _ _ n=>n)
  (fun b o hc e=>⟨o,k b o hc e⟩) (fun _ _ e=>e) (fun _ _ _ e=>e) (fun b ps e=>⟨#[],by rw [e];simp⟩) (fun m hm=>?_) (fun b u e=>?_) I.bare
 ·obtain ⟨o,es,ep,ho,r⟩:=hm;exact ⟨o,es,ep,k _ o (fun z=>(hf _ z).2.1 rfl) ho,r⟩
 ·refine (I.hok b u e).stay (fun c v hc q=>k c v ?_ q) (fun _ q=>q) fun _ _ q=>q
  rcases hc with z|z
  ·rw [z];exact nf b u e
  ·exact nf c _ z
theorem Qo {t':Nat}{a:Addr}{o:HO}(I:Inv X pins σ H s) (k:∀ b o,b ∉ fp->s.heap.get? b=some o->h'.get? b=some o) (hf:∀ b∈fp,Kl X pins H b) (hp:s.heap.objs.size<=a) (new:Ey X.prog X.w (upd H a o) h' a o) :
  Inv X pins σ (upd H a o) { s with heap:=h',toks:=t' }:=by
 have hn:H a=none:=I.hok.fresh hp;have nb:∀ b u,H b=some u->upd H a o b=some u:=fun b u e=>by rw [Ah (Am e hn)];exact e
 have nf:∀ b u,H b=some u->b ∉ fp:=fun b u e z=>by rw [(hf b z).1] at e;cases e
 refine I.step (g':=s.gens) (d':=s.drawn) (ch:=fp) (fun b hb=>⟨(hf b hb).2.2.2.1,(hf b hb).2.1,(hf b hb).2.2.2.2.1,(hf b hb).2.2.2.2.2⟩) (fun b o _ _ hc e _=>k b o hc e) (fun b o _ _ hc e _=>⟨o.slots,k b o hc e⟩) (fun b o' hc e n=>?_)
  (fun b o hc e=>⟨o,k b o hc e⟩) (fun b xs e=>nb _ _ e) (fun b o u e=>nb _ _ e) (fun b ps e=>⟨#[],by rw [nb _ _ e];simp⟩) (fun m hm=>?_) (fun b u e=>?_) I.bare
 ·rw [Ah (Nat.ne_of_lt (Nat.lt_of_lt_of_le (Heap.lt_size e) hp))];exact n
 ·obtain ⟨o,es,ep,ho,r⟩:=hm;exact ⟨o,es,ep,k _ o (fun z=>(hf _ z).2.1 rfl) ho,r⟩
 ·by_cases hb:b=a
  ·subst hb;rw [Be] at e;cases e;exact new
  ·rw [Ah hb] at e;refine (I.hok b u e).stay (fun c v hc q=>k c v ?_ q) (fun c q=>nb _ _ q) fun c xs q=>nb _ _ q
   rcases hc with z|z
   ·rw [z];exact nf b u e
   ·exact nf c _ z
end
section
variable {prog:Program}{w:World}{A:Around}{E:Value->Shared->Prop}{s:Shared}
theorem U0 {it l:Addr}{i:Nat}{items:Array Value}{x:Value}{Q:Value->Shared->Prop}(hit:s.heap.IsTupleIter it l i) (hl:s.heap.IsTuple l items) (hx:items[i]?=some x)
  (hQ:∀ h',h'.IsTupleIter it l (i+1)->Heap.SameBut it s.heap h'->Q x { s with heap:=h' }):wpAny (model prog w) A (Builtin.SmallTypes.nextOf (.ref it)) Q E s:=by
 obtain ⟨o,ho,hc,hd⟩:=id hit;obtain ⟨ol,hol,_,nl,hdl⟩:=hl;unfold Builtin.SmallTypes.nextOf
 refine wpAny_bind (wpAny_callSpecial?_slot (name:=Str.ofString "__next__") hit.typeIs F.slot_tuple_iterator_next (wpAny_call_entry F.slot_tuple_iterator_next hit.typeIs F.entry_tuple_iterator_next ?_ (F.args_tuple_iterator_next_1 _)));show wpAny _ _ (field (.ref it) 0 >>= _) _ _ s;refine wpAny_bind (wpAny_field ho hd (x:=.ref l) rfl ?_);show wpAny _ _ (if (Value.ref l==Value.none)=true then _ else _) _ _ s;rw [if_neg (show ¬ ((Value.ref l==Value.none)=true) from Bool.false_ne_true)];show wpAny _ _ (field (.ref it) 1 >>= _) _ _ s;refine wpAny_bind (wpAny_field ho hd (x:=.int i 0) rfl ?_);show wpAny _ _ (seqItems? (.ref l) >>= _) _ _ s;refine wpAny_bind (wpAny_seqItems hol hdl ?_);simp only [Int.toNat_natCast,hx];refine wpAny_bind (wpAny_setField ho hd (by simp) (wpAny_pure ⟨x,rfl,wpAny_pure (hQ _ ⟨_,Heap.get?_update_self _ ho (Obj.isFreed_of_fields (Obj.data_mapFields hd _)),(Obj.cls_mapFields ..).trans hc,?_⟩ (Heap.SameBut.update ..))⟩));rw [Obj.data_mapFields hd];simp [rawInt]
theorem U3 {it l:Addr}{i:Nat}{items:Array Value}{Q:Value->Shared->Prop}(hh:A.handled=none) (hit:s.heap.IsTupleIter it l i) (hl:s.heap.IsTuple l items) (hx:items[i]?=none)
  (hE:∀ h' e,Heap.ExtBut it s.heap h'->(∃ o,h'.get? e=some o/\o.cls=.type "StopIteration")->E (.ref e) { s with heap:=h' }):wpAny (model prog w) A (Builtin.SmallTypes.nextOf (.ref it)) Q E s:=by
 obtain ⟨o,ho,hc,hd⟩:=id hit;obtain ⟨ol,hol,_,nl,hdl⟩:=hl;unfold Builtin.SmallTypes.nextOf
 refine wpAny_bind (wpAny_callSpecial?_slot (name:=Str.ofString "__next__") hit.typeIs F.slot_tuple_iterator_next (wpAny_call_entry F.slot_tuple_iterator_next hit.typeIs F.entry_tuple_iterator_next ?_ (F.args_tuple_iterator_next_1 _)));show wpAny _ _ (field (.ref it) 0 >>= _) _ _ s;refine wpAny_bind (wpAny_field ho hd (x:=.ref l) rfl ?_);show wpAny _ _ (if (Value.ref l==Value.none)=true then _ else _) _ _ s;rw [if_neg (show ¬ ((Value.ref l==Value.none)=true) from Bool.false_ne_true)];show wpAny _ _ (field (.ref it) 1 >>= _) _ _ s;refine wpAny_bind (wpAny_field ho hd (x:=.int i 0) rfl ?_);show wpAny _ _ (seqItems? (.ref l) >>= _) _ _ s;refine wpAny_bind (wpAny_seqItems hol hdl ?_);simp only [Int.toNat_natCast,hx]
 refine wpAny_bind (wpAny_rule (wpAny_bind (wpAny_setField ho hd (by simp) ?_)));show wpAny _ _ (newExc (.type "StopIteration") [] >>= _) _ _ _;refine wpAny_bind ?_;simp only [newExc,newTuple];refine wpAny_bind (wpAny_newObj_type ?_ (by size_fits));refine wpAny_bind (m:=firstArgMember _ _) (wpAny_of_eq (a:=Value.none) (by first | rfl | (simp only [firstArgMember];rfl)) ?_);refine wpAny_newObj_type ?_ (by size_fits);simp only [raiseNew];refine wpAny_bind (wpAny_handled ?_);first | rw [show A.in1.handled=none from hh] | rw [hh]
 refine wpAny_bind (wpAny_pure (wpAny_throw (hE _ _ (((Heap.SameBut.update ..).extBut.push _).push _) ⟨_,Heap.get?_push_size _ rfl,rfl⟩)))
theorem bK (hh:A.handled=none) (it l:Addr) (hne:l≠it) (items:Array Value):Draws prog w A it [it,l] items.size (fun i v=>items[i]?=some v) (fun i h=>h.IsTupleIter it l i/\h.IsTuple l items) where
 live:=fun _ _ st=>let ⟨o,ho,_⟩:=st.1;⟨o,ho⟩
 frame:=fun _ _ _ st hk=>⟨let ⟨o,ho,r⟩:=st.1;⟨o,hk it (by simp) o ho,r⟩,let ⟨o,ho,r⟩:=st.2;⟨o,hk l (by simp) o ho,r⟩⟩
 item:=fun i s Q E hi st hQ=>U0 st.1 st.2 (x:=items[i]) (by simp [hi]) fun h' hit' hs'=>hQ _ h' s.toks (by simp [hi]) ⟨hit',st.2.extBut hs'.extBut hne⟩ hs'
 done:=fun s Q E st hE=>U3 hh st.1 st.2 (by simp) hE
end
theorem k_ne {X:Cx}{pins:List (Addr×Obj)}{σ:L2.St}{H:Hp}{s:Shared}{a b:Addr}{o:Obj}(I:Inv X pins σ H s) (e:X.K.lookup a=some o) (f:Kl X pins H b):a≠b:=fun z=>by
 have hb:=I.ok.mod.kin a o e;rcases f.2.2.2.1 with q|q
 ·exact I.ok.noex a o hb (z ▸ q)
 ·have h1:a < X.base.objs.size:=Heap.lt_size hb;have h2:=I.ok.bsz;have h3:X.s₀.heap.objs.size<=a:=z ▸ q;exact absurd (Nat.lt_of_lt_of_le h1 h2) (Nat.not_lt.mpr h3)
theorem wC {H:Hp}{a b:Addr}{u:HO}(h:Rd H a u) (f:H b=none):a≠b:=fun z=>by
 rcases h with h | ⟨o,h⟩ <;> (rw [z,f] at h;cases h)
structure SeqK where
 sq:PySem.W.Frag->Hp->Addr->List V->Prop
 isIt:Heap->Addr->Addr->Nat->Prop
 isSeq:Heap->Addr->Array Value->Prop
 cls:String
 get:∀ {X:Cx} {pins:List (Addr×Obj)} {σ:L2.St} {H:Hp} {s:Shared} {a:Addr} {xs:List V},Inv X pins σ H s->sq X.K H a xs->∃ its:List Value,Vals xs its/\isSeq s.heap a its.toArray/\xs.length<=sizeLine
 inj:∀ {X:Cx} {pins:List (Addr×Obj)} {σ:L2.St} {H:Hp} {s:Shared} {a:Addr} {xs ys:List V},Inv X pins σ H s->sq X.K H a xs->sq X.K H a ys->xs=ys
 itO:∀ {h:Heap} {it l:Addr} {i:Nat},isIt h it l i->∃ o,h.get? it=some o/\o.cls=.type cls/\∃ vs,o.data=.fields vs
 itK:∀ {h h':Heap} {it l:Addr} {i:Nat},isIt h it l i->(∀ o,h.get? it=some o->h'.get? it=some o)->isIt h' it l i
 seqO:∀ {h:Heap} {l:Addr} {items:Array Value},isSeq h l items->∃ o,h.get? l=some o/\∃ n,o.data=.seq items n
 Wx:∀ {h h':Heap} {l:Addr} {items:Array Value},isSeq h l items->(∀ o,h.get? l=some o->h'.get? l=some o)->isSeq h' l items
 draws:∀ {prog:Program} {w:World} {A:Around},A.handled=none->∀ (it l:Addr),l≠it->∀ (items:Array Value),Draws prog w A it [it,l] items.size (fun i v=>items[i]?=some v) (fun i h=>isIt h it l i/\isSeq h l items)
 iter:∀ {prog:Program} {w:World} {A:Around} {E:Value->Shared->Prop} {s:Shared} {l:Addr} {items:Array Value} {Q:Value->Shared->Prop},isSeq s.heap l items ->
  Q (.ref s.heap.objs.size) { s with heap:=s.heap.push { cls:=.type cls,data:=.fields #[.ref l,.int 0 0] } }->wpAny (model prog w) A (pyIter (.ref l)) Q E s
 stop:∀ {prog:Program} {w:World} {A:Around} {E:Value->Shared->Prop} {s:Shared} {it l:Addr} {i:Nat} {items:Array Value} {Q:Value->Shared->Prop},A.handled=none->isIt s.heap it l i->isSeq s.heap l items->items[i]?=none ->
  (∀ h' e,Heap.ExtBut it s.heap h'->(∃ o,h'.get? e=some o/\o.cls=.type "StopIteration")->E (.ref e) { s with heap:=h' })->wpAny (model prog w) A (Builtin.SmallTypes.nextOf (.ref it)) Q E s
 next:∀ {prog:Program} {w:World} {A:Around} {E:Value->Shared->Prop} {s:Shared} {it l:Addr} {i:Nat} {items:Array Value} {x:Value} {Q:Value->Shared->Prop},isIt s.heap it l i->isSeq s.heap l items->items[i]?=some x ->
  (∀ h',isIt h' it l (i+1)->Heap.SameBut it s.heap h'->Q x { s with heap:=h' })->wpAny (model prog w) A (Builtin.SmallTypes.nextOf (.ref it)) Q E s
 ne:∀ {X:Cx} {pins:List (Addr×Obj)} {σ:L2.St} {H:Hp} {s:Shared} {a b:Addr} {xs:List V},Inv X pins σ H s->sq X.K H a xs->Kl X pins H b->a≠b
 new:∀ (h:Heap) (l:Addr),isIt (h.push { cls:=.type cls,data:=.fields #[.ref l,.int 0 0] }) h.objs.size l 0
noncomputable def tE:SeqK where
 sq:=SqL
 isIt:=fun h it l i=>h.IsListIter it l i
 isSeq:=fun h l its=>h.IsList l its
 cls := "list_iterator"
 get:=fun I h=>let ⟨its,r,p,z⟩:=I.list h;⟨its,r,p.isList,z⟩
 inj:=fun I h h'=>I.list_inj h h'
 itO:=fun ⟨o,e,c,d⟩=>⟨o,e,c,_,d⟩
 itK:=fun st k=>st.at k
 seqO:=fun ⟨o,e,_,n,d⟩=>⟨o,e,n,d⟩
 Wx:=fun ⟨o,e,r⟩ k=>⟨o,k o e,r⟩
 draws:=fun hh it l hne items=>Draws.list hh it l hne items
 iter:=fun hs q=>wpAny_pyIter_list hs q
 stop:=fun hh a b c d=>wpAny_nextOf_list_end hh a b c d
 next:=fun a b c d=>wpAny_nextOf_list_item a b c d
 ne:=fun I h f=>by
  rcases h with h|⟨o,its,n,hk,_⟩
  ·exact wC h f.1
  ·exact k_ne I hk f
 new:=fun h l=>⟨_,Heap.get?_push_size _ rfl,rfl,rfl⟩
noncomputable def Aeq:SeqK where
 sq:=SqT
 isIt:=fun h it l i=>h.IsTupleIter it l i
 isSeq:=fun h l its=>h.IsTuple l its
 cls := "tuple_iterator"
 get:=fun I h=>let ⟨its,r,p,z⟩:=I.tuple h;⟨its,r,p,z⟩
 inj:=fun I h h'=>I.tuple_inj h h'
 itO:=fun ⟨o,e,c,d⟩=>⟨o,e,c,_,d⟩
 itK:=fun ⟨o,e,r⟩ k=>⟨o,k o e,r⟩
 seqO:=fun ⟨o,e,_,n,d⟩=>⟨o,e,n,d⟩
 Wx:=fun ⟨o,e,r⟩ k=>⟨o,k o e,r⟩
 draws:=fun hh it l hne items=>bK hh it l hne items
 iter:=fun hs q=>wpAny_pyIter_tuple hs q
 stop:=fun hh a b c d=>U3 hh a b c d
 next:=fun a b c d=>U0 a b c d
 ne:=fun I h f=>by
  rcases h with h|⟨o,its,n,hk,_⟩
  ·exact wC h f.1
  ·exact k_ne I hk f
 new:=fun h l=>⟨_,Heap.get?_push_size _ rfl,rfl,rfl⟩
noncomputable def Ite (k:SeqK) (K:PySem.W.Frag) (a:Addr):It :=
 ⟨fun i H=>∃ xs x,k.sq K H a xs/\xs[i]?=some x,fun i H y H'=>∃ T x,H T=none/\y=.ref T/\(∀ xs,k.sq K H a xs->xs[i]?=some x)/\H'=upd H T (.tup [.int i,x]),fun i H=>∃ xs,k.sq K H a xs/\xs.length<=i⟩
theorem Aam {k:SeqK}{h:Heap}{it l:Addr}{i:Nat}{items:Array Value}(a:k.isIt h it l i) (b:k.isSeq h l items):l≠it:=fun z=>by
 obtain ⟨o,e,c,vs,d⟩:=k.itO a;obtain ⟨o',e',n,d'⟩:=k.seqO b;rw [z,e] at e';cases e';rw [d] at d';cases d'
theorem bL {P:Program}{w:World}{K:PySem.W.Frag}(k:SeqK) {elts:List Expr}{kk:Nat}{tp:Pos}(a e it:Addr) (hne:e≠it):Turn P w K (.Tuple elts kk tp) (Ite k K a) [e,it] e (fun i h=>(∃ old,IsEnum h e it i old)/\k.isIt h it a i) where
 mem:=by simp
 obj:=fun i h st b hb=>by
  have hb:b=e\/b=it:=by simpa using hb
  rcases hb with rfl|rfl
  ·obtain ⟨old,q⟩:=st.1
   exact ⟨_,q,fun v z=>by
    have z':Data.fields _=Data.cell v:=z
    cases z'⟩
  ·obtain ⟨o,q,c,vs,d⟩:=k.itO st.2;exact ⟨o,q,fun v z=>by rw [d] at z;cases z⟩
 keep:=fun i h h' st kp=>⟨let ⟨old,q⟩:=st.1;⟨old,kp e (by simp) _ q⟩,k.itK st.2 fun o q=>kp it (by simp) o q⟩
 item:=by
  intro X hP hw hK hc i pins s σ H E I hf st hg;subst hP hw hK;obtain ⟨xs,x,hq,hx⟩:=hg;obtain ⟨its,rv,p,hz⟩:=k.get I hq;obtain ⟨u,hu,ru⟩:=rv.get hx;obtain ⟨⟨old,he⟩,hit⟩:=st;have hae:a≠e:=fun z=>by
   obtain ⟨o',e',n,d'⟩:=k.seqO p;rw [z,he] at e';cases e';cases d'
  have hai:=Aam hit p;have D:=k.draws (prog:=X.prog) (w:=X.w) (A:=X.A.in1) (I.ok.hd hc) it a hai its.toArray;have hi:i < its.toArray.size:=by rw [List.size_toArray];exact (List.getElem?_eq_some_iff.mp hu).1
  refine wpAny_pyNext_enum_itemD D he ⟨hit,p⟩ hi hne (by simp [hne,hae.symm]) fun y h1 tk hy ho st1 hT _ hk=>?_
  have ey:y=u:=by
   have hy':its[i]?=some y:=by simpa using hy
   rw [hu] at hy';cases hy';rfl
  subst ey;refine ⟨_,rfl,wpAny_letOwnedTupleGo_enum ho fun h2 he2 hs2=>?_⟩;have elt:e < s.heap.objs.size:=Heap.lt_size he;have ilt:it < s.heap.objs.size:=by
   obtain ⟨o,q,_⟩:=k.itO hit;exact Heap.lt_size q
  have hT2:Nm h2 s.heap.objs.size #[.int i tk,y]:=⟨_,hs2.extBut _ _ (Nat.ne_of_gt elt) hT,rfl,rfl,_,rfl⟩;have nb:∀ b,b ∉ [e,it]->b≠e/\b≠it:=fun b hb=>by simpa using hb
  have I2:Inv X pins σ (upd H s.heap.objs.size (.tup [.int i,x])) { s with heap:=h2,toks:=tk+1 }:=Qo (fp:=[e,it]) I (fun b o hb q=>hs2.extBut b o (nb b hb).1 (hk b o (nb b hb).1 (nb b hb).2 q)) hf (Nat.le_refl _) ⟨by simp [sizeLine_eq],[.int i tk,y],.cons ⟨tk,rfl⟩ (.cons ru .nil),hT2⟩;refine ⟨.ref s.heap.objs.size,_,I2,rfl,⟨s.heap.objs.size,x,I.hok.fresh (Nat.le_refl _),rfl,fun ys hy=>by rw [k.inj I hy hq];exact hx,rfl⟩,⟨⟨_,by simpa using he2⟩,k.itK st1.1 fun o q=>hs2.extBut _ _ hne.symm q⟩,fun b hb=>?_⟩;rw [Ah ?_]
  ·exact (hf b hb).1
  ·intro z;have hb:b=e\/b=it:=by simpa using hb
   rcases hb with q|q
   ·rw [q] at z;exact absurd z (Nat.ne_of_lt elt)
   ·rw [q] at z;exact absurd z (Nat.ne_of_lt ilt)
 done:=by
  intro X hP hw hK hc i pins s σ H E I hf st hg;subst hP hw hK;obtain ⟨xs,hq,hx⟩:=hg;obtain ⟨its,rv,p,hz⟩:=k.get I hq;obtain ⟨⟨old,he⟩,hit⟩:=st;have hl:=rv.length
  have hT:s.TypeIs (.ref e) "enumerate":=⟨_,he,rfl⟩
  unfold pyNext
  refine wpAny_bind (wpAny_attempt (wpAny_callSpecial?_slot (name:=Str.ofString "__next__") hT F.slot_enumerate_next (wpAny_call_entry F.slot_enumerate_next hT F.entry_enumerate_next ?_ (F.args_enumerate_next_1 _))));show wpAny _ _ (field (.ref e) 2 >>= _) _ _ _;refine wpAny_bind (wpAny_field he rfl (x:=.ref it) rfl ?_);refine wpAny_bind (k.stop (A:=X.A.in1) (I.ok.hd hc) hit p (by simp;omega) fun h' x he' hx'=>?_);obtain ⟨o,ho,hcl⟩:=hx'
  refine wpAny_bind (wpAny_isInstance (T := "StopIteration") (b:=true) ⟨o,ho,hcl⟩ isSubtype_stop (wpAny_pure ⟨rfl,?_⟩));exact bJ (t':=s.toks) (fp:=[e,it]) I (fun b o hb q=>he' b o (fun z=>hb (by simp [z])) q) hf
 self:=fun _ i s Q E st h=>by
  obtain ⟨⟨old,he⟩,_⟩:=st;exact wpAny_pyIter_enum he h
set_option maxHeartbeats 8000000 in
theorem U4 (l:Addr) (items:Array Value) (n:Nat) (dct:Option Addr) (sl:Array (Option Value)) :
    Meets (Builtin.«enumerate.__new__» ⟨[.type "enumerate",.ref l],[]⟩) (fun _ R s=>s.heap.get? l=some { cls:=.type "tuple",dict:=dct,data:=.seq items n,slots:=sl } /\
      R (.ok (.ret (.ref (s.heap.push { cls:=.type "tuple_iterator",data:=.fields #[.ref l,.int 0 0] }).objs.size)))
        { s with heap:=(s.heap.push { cls:=.type "tuple_iterator",data:=.fields #[.ref l,.int 0 0] }).push { cls:=.type "enumerate",data:=.fields #[.none,.bool false,.ref s.heap.objs.size,rawInt 0,.none,.none] } }) :=
  .of_wp fun prog w A R s h=>by
    obtain ⟨hp,g,d,tk,os⟩:=s;obtain ⟨hl,h⟩:=h;have hsub:=sub_enumerate;have hL:Heap.IsTuple (Shared.heap ⟨hp,g,d,tk,os⟩) l items:=⟨_,hl,rfl,n,rfl⟩;wp_walk using AutoSeq1.wpAny_loadPart' hl
    refine wpAny_stack_any fun st=>wpAny_pure ?_;split
    · rename_i c _ _ _ _ _
      cases (c==Value.type "enumerate") <;> (wp_walk using AutoSeq1.wpAny_loadPart' hl,wpAny_pyIter_tuple hL;exact ⟨_,rfl,h⟩)
    · (wp_walk using AutoSeq1.wpAny_loadPart' hl,wpAny_pyIter_tuple hL;exact ⟨_,rfl,h⟩)
section
variable {prog:Program}{w:World}{A:Around}{E:Value->Shared->Prop}{s:Shared}
theorem bM {l:Addr}{items:Array Value}{Q:Value->Shared->Prop}(hL:s.heap.IsTuple l items)
  (h:∀ h',IsEnum h' (s.heap.objs.size+1) s.heap.objs.size 0 .none->h'.IsTupleIter s.heap.objs.size l 0->h'.objs.size=s.heap.objs.size+2->(∀ b o,s.heap.get? b=some o->h'.get? b=some o)->Q (.ref (s.heap.objs.size+1)) { s with heap:=h' }) :
  wpAny (model prog w) A (call (.type "enumerate") [.ref l]) Q E s:=by
 obtain ⟨⟨c,dct,dt,sl⟩,hl,hc,n,hd⟩:=hL
 replace hc:c=.type "tuple":=hc
 replace hd:dt=.seq items n:=hd
 subst hc hd;refine callType_new F.called_enumerate (by decide) (F.typeCall_enumerate_1 _) (F.newCall_enumerate_1 _) (fun obj=>F.args_object_init_2 obj _) F.entry_enumerate_new (U4 l items n dct sl) ⟨hl,?_⟩
 have hz:(s.heap.push { cls:=.type "tuple_iterator",data:=.fields #[.ref l,.int 0 0] }).objs.size=s.heap.objs.size+1:=Heap.size_push ..;show _/\_;rw [hz]
 have he:IsEnum ((s.heap.push { cls:=.type "tuple_iterator",data:=.fields #[.ref l,.int 0 0] }).push { cls:=.type "enumerate",data:=.fields #[.none,.bool false,.ref s.heap.objs.size,rawInt 0,.none,.none] }) (s.heap.objs.size+1) s.heap.objs.size 0 .none:=by
  have:=Heap.get?_push_size (s.heap.push { cls:=.type "tuple_iterator",data:=.fields #[.ref l,.int 0 0] }) (o:={ cls:=.type "enumerate",data:=.fields #[.none,.bool false,.ref s.heap.objs.size,rawInt 0,.none,.none] }) rfl;rw [hz] at this;exact this
 refine ⟨⟨_,he,rfl⟩,h _ he ⟨_,Heap.get?_push_of_some _ (Heap.get?_push_size _ rfl),rfl,rfl⟩ (by rw [Heap.size_push,hz]) fun b o x=>Heap.get?_push_of_some _ (Heap.get?_push_of_some _ x)⟩
end
structure SR (k:SeqK) (K:PySem.W.Frag) (H0:Hp) (ρ0:List Addr) (src:Src) (a:Addr):Prop where
 rd:∀ H ρ mh,Ev K H0 ρ0 H ρ->RS K H ρ mh->src.ok mh=true->∃ xs,k.sq K H a xs/\RDs K H ρ (src.items mh) xs
 ok:∀ (mh:MH) (i:Nat) (d:D),(src.items mh)[i]?=some d->src.ok mh=true
theorem SR.tup {K:PySem.W.Frag}{H0:Hp}{ρ0:List Addr}{ds:List D}{a:Addr}{xs:List V}(s:SqT K H0 a xs) (r:RDs K H0 ρ0 ds xs):SR Aeq K H0 ρ0 (.seq ds) a :=
 ⟨fun H ρ mh e rs _=>⟨xs,e.tup _ _ s,r.mono e⟩,fun _ _ _ _=>rfl⟩
theorem SR.rol {K:PySem.W.Frag}{H0:Hp}{ρ0:List Addr}{ds:List D}{a:Addr}{xs:List V}(s:Hv K H0 a xs) (r:RDs K H0 ρ0 ds xs):SR tE K H0 ρ0 (.seq ds) a :=
 ⟨fun H ρ mh e rs _=>⟨xs,(e.perm _ _ s).sq,r.mono e⟩,fun _ _ _ _=>rfl⟩
theorem SR.lst {K:PySem.W.Frag}{H0:Hp}{ρ0:List Addr}{n:Nat}{a:Addr}(h:ρ0[n]?=some a):SR tE K H0 ρ0 (.lref n) a:=by
 refine ⟨fun H ρ mh e rs ok=>?_,fun mh i d q=>?_⟩
 ·have ok:(match mh[n]? with | some (.lst _)=>true | _=>false)=true:=ok;obtain ⟨o,eo⟩:∃ o,mh[n]?=some (.lst o):=by
   split at ok
   ·exact ⟨_,‹_›⟩
   ·cases ok
  obtain ⟨a',ha,ro⟩:=rs.at eo;rw [e.at h] at ha;cases ha;obtain ⟨xs,sq,r⟩:=ro.read;refine ⟨xs,sq,?_⟩;show RDs K H ρ (match mh[n]? with | some (.lst o)=>o | _=>[]) xs;rw [eo];exact r
 ·have q:(match mh[n]? with | some (.lst o)=>o | _=>[])[i]?=some d:=q;show (match mh[n]? with | some (.lst _)=>true | _=>false)=true;split at q
  ·rfl
  ·simp at q
theorem Io:∀ (l:List D) (j i:Nat),(Ez j l)[i]?=(l[i]?).map fun d=>D.tup [.int ((j+i:Nat):Int),d]
 | [],_,_=>by simp [Ez]
 | d::r,j,0=>by simp [Ez]
 | d::r,j,i+1=>by
  show (Ez (j+1) r)[i]?=_;rw [Io r (j+1) i,List.getElem?_cons_succ];have e:j+1+i=j+(i+1):=by omega
  rw [e]
theorem Ra:∀ (l:List D) (j:Nat),(Ez j l).length=l.length
 | [],_=>rfl
 | _::r,j=>by show (Ez (j+1) r).length+1=r.length+1;rw [Ra r]
theorem JR.enum {k:SeqK}{K:PySem.W.Frag}{H0:Hp}{ρ0:List Addr}{src:Src}{a:Addr}(S:SR k K H0 ρ0 src a):JR K H0 ρ0 (.enum src) (Ite k K a) where
 go:=fun H ρ mh i d e rs q=>by
  have q:(Ez 0 (src.items mh))[i]?=some d:=q;rw [Io] at q;cases e1:(src.items mh)[i]? with
  | none=>rw [e1] at q;cases q
  | some d' =>
   rw [e1] at q;cases q;obtain ⟨xs,sq,r⟩:=S.rd H ρ mh e rs (S.ok mh i d' e1);obtain ⟨v,ev,rv⟩:=r.get e1;refine ⟨⟨xs,v,sq,ev⟩,?_⟩;rintro x H' ⟨T,x',hT,h1,h2,h3⟩;subst h1;subst h3;have:=h2 xs sq;rw [ev] at this;cases this;refine ⟨Ev.new hT,rs.new hT,.tup (.inl (.inl Be)) (.cons ?_ (.cons (rv.mono (Ev.new hT)) .nil))⟩;rw [Nat.zero_add];exact .int _
 stop:=fun H ρ mh i e rs q=>by
  have q:(src.ok mh&&decide ((Ez 0 (src.items mh)).length<=i))=true:=q;rw [Bool.and_eq_true,Ra] at q;obtain ⟨xs,sq,r⟩:=S.rd H ρ mh e rs q.1;exact ⟨xs,sq,by rw [← r.length];exact of_decide_eq_true q.2⟩
noncomputable def Jk (ma:DM D):DM Src:=ma.bnd fun x=>fun _ mh=>match srcOf x mh with | some s=>some (.enum s,mh) | none=>none
section
variable {X:Cx}
theorem bN:bootBuiltins "enumerate"=some (.type "enumerate"):=by decide +kernel
theorem Ox (k:SeqK) {pins:List (Addr×Obj)}{σ:L2.St}{H:Hp}{s:Shared}{R:It->Hp->Prop}{E:Value->Shared->Prop}{elts:List Expr}{kk:Nat}{tp:Pos}{a:Addr}{xs:List V}(I:Inv X pins σ H s) (hq:k.sq X.K H a xs) (hR:R (Ite k X.K a) H)
  (hnew:∀ {items:Array Value} {Q:Value->Shared->Prop},k.isSeq s.heap a items->(∀ h',IsEnum h' (s.heap.objs.size+1) s.heap.objs.size 0 .none->k.isIt h' s.heap.objs.size a 0->h'.objs.size=s.heap.objs.size+2->(∀ b o,s.heap.get? b=some o->h'.get? b=some o)->Q (.ref (s.heap.objs.size+1)) { s with heap:=h' }) ->
   wpAny (model X.prog X.w) X.A (call (.type "enumerate") [.ref a]) Q E s) :
  wpAny (model X.prog X.w) X.A (call (.type "enumerate") [.ref a]) (fun v s1=>wpAny (model X.prog X.w) X.A (pyIter v) (PIE X pins σ (.Tuple elts kk tp) R) E s1) E s:=by
 obtain ⟨its,rv,p,hz⟩:=k.get I hq;refine hnew p fun h' he hit hsz hk=>wpAny_pyIter_enum he ?_
 have I1:Inv X pins σ H { s with heap:=h' }:=I.kept (t':=s.toks) hk;refine ⟨s.heap.objs.size+1,[s.heap.objs.size+1,s.heap.objs.size],_,Ite k X.K a,H,rfl,I1,bL k a _ _ (Nat.succ_ne_self _),⟨⟨_,he⟩,hit⟩,fun b hb=>?_,hR⟩;have hb:b=s.heap.objs.size+1\/b=s.heap.objs.size:=by simpa using hb
 rcases hb with rfl|rfl
 ·exact I.fpOk (Nat.le_succ _) (I.hok.fresh (Nat.le_succ _))
 ·exact I.fpOk (Nat.le_refl _) (I.hok.fresh (Nat.le_refl _))
theorem tH {a:Expr}{ma:DM D}{elts:List Expr}{kk:Nat}{tp p pos:Pos}(hc:X.calm=true) (hg:Gl X "enumerate") (hm:X.mg "enumerate"=none) (ha:DE X a ma) (hs:starEach [a] X.env=(false,eval a X.env)::starEach [] X.env) :
  DI X (.Tuple elts kk tp) (.Call (.Name "enumerate" p) [a] [] pos) (Jk ma):=fun loc mh=>by
 cases ea:ma loc mh with
 | none =>
  have:Jk ma loc mh=none:=by unfold Jk DM.bnd;rw [ea]
  rw [this];exact Ds
 | some pr =>
  obtain ⟨x,m1⟩:=pr;have eq:Jk ma loc mh=(match srcOf x m1 with | some s=>some (.enum s,m1) | none=>none):=by unfold Jk DM.bnd;rw [ea]
  rw [eq];rintro pins s σ H R I ⟨ρ,src,mh',q,rl,rs,co⟩;refine Call_ (Oi I hg hm bN (PyProof.Rows.callWith_type1 (thn (Dp (ha loc mh) Gx hs pos pins s σ H (fun vs H1=>∃ v ρ1,vs=[v]/\Ev X.K H ρ H1 ρ1/\RS X.K H1 ρ1 m1/\RD X.K H1 ρ1 x v) I ⟨ρ,x,m1,ea,rl,rs,fun H1 ρ1 v e1 rs1 r1=>⟨v,ρ1,rfl,e1,rs1,r1⟩⟩) ?_) hs rfl));rintro us s1 ⟨vs,H1,I1,r1,q1⟩;obtain ⟨v,ρ1,rfl,e1,rs1,rx⟩:=q1;obtain ⟨u,rfl,ru⟩:=vals1 r1;cases x with
  | tup ds =>
   cases q;cases rx with
   | tup sq r =>
    cases ru;exact Ox Aeq I1 sq (co H1 ρ1 _ e1 rs1 (JR.enum (SR.tup sq r))) fun hL h=>bM hL h
  | ref n =>
   cases eo:m1[n]? with
   | none=>simp only [srcOf,eo] at q;cases q
   | some ob =>
    cases ob with
    | dct kvs=>simp only [srcOf,eo] at q;cases q
    | plc=>simp only [srcOf,eo] at q;cases q
    | plq=>simp only [srcOf,eo] at q;cases q
    | lst o =>
    simp only [srcOf,eo] at q;cases q;cases rx with
    | @ref _ a' h =>
     cases ru;obtain ⟨a2,ha2,ro⟩:=rs1.at eo;rw [h] at ha2;cases ha2;obtain ⟨xs,sq,r⟩:=ro.read;exact Ox tE I1 sq (co H1 ρ1 _ e1 rs1 (JR.enum (SR.lst h))) fun hL h=>call_enumerate_list hL h
  | rol ds =>
   cases q;cases rx with
   | rol sq r =>
    cases ru;exact Ox tE I1 sq.sq (co H1 ρ1 _ e1 rs1 (JR.enum (SR.rol sq r))) fun hL h=>call_enumerate_list hL h
  | non=>cases q
  | bl b=>cases q
  | int i=>cases q
  | str z=>cases q
  | obj c ks ds=>cases q
  | fn x=>cases q
  | lam=>cases q
  | clo=>cases q
end
section
variable {X:Cx}
theorem Qp {prog:Program}{w:World}{A:Around}{E:Value->Shared->Prop}{s:Shared}{r:Addr}{a b c:Int}{t u v:Tok}{n:Nat}{Q:List Value->Shared->Prop}(hh:A.handled=none) (hr:IsRange s.heap r a b c t u v) (hsmall:Builtin.Range.small a b c=true)
  (hn:Builtin.Range.rangeSize a b c=n) (hlen:n<=2 ^ 24)
  (hQ:∀ h' tk acc,(∀ b o,s.heap.get? b=some o->h'.get? b=some o)->ItemsOf (fun i v=>∃ t,v=.int (a+i * c) t) acc n->Q acc.toList { s with heap:=h',toks:=tk }):wpAny (model prog w) A (collect (.ref r)) Q E s:=by
 have key:∀ R:Result->Shared->Prop,(∀ h' tk acc' c',(∀ b o,b≠s.heap.objs.size->(s.heap.push { cls:=.type "list",data:=.seq ([]:List Value).toArray }).get? b=some o->h'.get? b=some o)->h'.get? s.heap.objs.size=some { cls:=.type "list",dict:=none,data:=.seq acc' c',slots:=#[] } ->
   ItemsOf (fun i v=>∃ t,v=.int (a+i * c) t) acc' n->R (.ok (.ret (.ref s.heap.objs.size))) { s with heap:=h',toks:=tk })->codeAny (model prog w) A (.builtin "proto.collect" ⟨[.ref r],[]⟩) R s:=fun R hR=>by
  refine codeAny_builtin F.entry_proto_collect ?_;rw [Around.under_plainId F.plain_proto_collect _]
  show wpAny _ A.in1 (newList [] >>= fun l=>again (.builtin "list.__iadd__" ⟨[l,.ref r],[]⟩)) _ _ s;refine wpAny_bind (wpAny_newObj_type ?_);refine wpAny_pure ⟨plainId_quiet F.plain_list_iadd _,codeAny_builtin F.entry_list_iadd ?_⟩;rw [Around.under_plainId F.plain_list_iadd _]
  have hS:(s.heap.push { cls:=.type "list",data:=.seq ([]:List Value).toArray }).get? s.heap.objs.size=some { cls:=.type "list",data:=.seq #[] 0 }:=Heap.get?_push_size _ rfl;show wpAny _ A.in1 (Builtin.List.listExtendWith (.ref s.heap.objs.size) (.ref r) (.ref s.heap.objs.size)) _ _ _
  exact wpAny_extend_range (A:=A) (R:=R) (s:={ s with heap:=s.heap.push { cls:=.type "list",data:=.seq ([]:List Value).toArray } }) hh (Heap.get?_push_of_some _ hr) hsmall hn hlen s.heap.objs.size _ 0 hS hR
 unfold collect;refine wpAny_bind (wpAny_runValue (key _ fun h' tk acc' c' hk hS' hacc=>?_));show wpAny _ A (load s.heap.objs.size >>= _) _ _ _;refine wpAny_bind (wpAny_load hS' ?_);exact wpAny_pure (hQ h' tk acc' (fun b o e=>hk b o (Nat.ne_of_lt (Heap.lt_size e)) (Heap.get?_push_of_some _ e)) hacc)
theorem Oz (r:Addr) (a b c:Int) (t u v:Tok) (n:Nat) (hsmall:Builtin.Range.small a b c=true) (hn:Builtin.Range.rangeSize a b c=n) (hlen:n<=2 ^ 24) :
  Meets (Builtin.«tuple.__new__» ⟨[.type "tuple",.ref r],[]⟩) (fun A R s=>A.handled=none/\IsRange s.heap r a b c t u v/\∀ (h':Heap) (tk:Nat) (acc:Array Value),(∀ b o,s.heap.get? b=some o->h'.get? b=some o)->ItemsOf (fun i v=>∃ t,v=.int (a+i * c) t) acc n ->
    R (.ok (.ret (.ref h'.objs.size))) { s with heap:=h'.push { cls:=.type "tuple",data:=.seq acc },toks:=tk }) :=
 .of_wp fun prog w A R s h=>by
  obtain ⟨hh,hr,h⟩:=h;have hsub:=sub_tuple_self;have hinit:=init_tuple_lookup;have hmh:=madeHere_tuple
  have hT:s.TypeIs (.ref r) "range":=⟨_,hr,rfl⟩
  have hh1:A.in1.handled=none:=hh;wp_walk using wpAny_typeOf hT,Qp hh1 hr hsmall hn hlen
  intro h' tk acc hk hacc;show wpAny _ _ (Builtin.Tuple.tupleExact acc.toList.toArray >>= fun v=>ret v) _ _ _;unfold Builtin.Tuple.tupleExact;refine wpAny_bind (wpAny_newObj_type (wpAny_pure ⟨_,rfl,?_⟩) (show acc.toList.toArray.size<=sizeLine by simp only [Array.toArray_toList];rw [hacc.1,sizeLine_eq];omega));have e:acc.toList.toArray=acc:=by simp
  rw [e];exact h h' tk acc hk hacc
theorem Qq {prog:Program}{w:World}{A:Around}{E:Value->Shared->Prop}{s:Shared}{r:Addr}{a b c:Int}{t u v:Tok}{n:Nat}{Q:Value->Shared->Prop}(hh:A.handled=none) (hr:IsRange s.heap r a b c t u v) (hsmall:Builtin.Range.small a b c=true)
  (hn:Builtin.Range.rangeSize a b c=n) (hlen:n<=2 ^ 24)
  (h:∀ (h':Heap) (tk:Nat) (acc:Array Value),(∀ b o,s.heap.get? b=some o->h'.get? b=some o)->ItemsOf (fun i v=>∃ t,v=.int (a+i * c) t) acc n->Q (.ref h'.objs.size) { s with heap:=h'.push { cls:=.type "tuple",data:=.seq acc },toks:=tk }) :
  wpAny (model prog w) A (call (.type "tuple") [.ref r]) Q E s:=by
 refine callType_new F.called_tuple (by decide) (F.typeCall_tuple_1 _) (F.newCall_tuple_1 _) (fun obj=>F.args_object_init_2 obj _) F.entry_tuple_new
  (Oz r a b c t u v n hsmall hn hlen) ⟨hh,hr,fun h' tk acc hk hacc=>⟨⟨_,Heap.get?_push_size _ rfl,rfl⟩,h h' tk acc hk hacc⟩⟩
theorem O1 {a:Int}{n:Nat}{acc:Array Value}(h:ItemsOf (fun i v=>∃ t,v=.int (a+i * 1) t) acc n):Vals ((List.range n).map fun (i:Nat)=>V.int (a+(i:Int))) acc.toList:=by
 have key:∀ (m:Nat) (l:List Value) (j:Nat),l.length=m->(∀ (i:Nat) (v:Value),l[i]?=some v->∃ t,v=Value.int (a+((j+i:Nat):Int)) t)->Vals ((List.range' j m).map fun (i:Nat)=>V.int (a+(i:Int))) l:=by
  intro m
  induction m with
  | zero=>intro l j hl _;rw [List.length_eq_zero_iff.mp hl];exact .nil
  | succ m ih =>
   intro l j hl hv
   match l,hl with
   | x::r,hl =>
    rw [List.range'_succ,List.map_cons];refine .cons ?_ (ih r (j+1) (by simpa using hl) fun i v e=>?_)
    ·obtain ⟨t,e⟩:=hv 0 x rfl;exact ⟨t,e⟩
    ·obtain ⟨t,q⟩:=hv (i+1) v (by simpa using e);have e2:j+(i+1)=j+1+i:=by omega
     rw [e2] at q;exact ⟨t,q⟩
 rw [List.range_eq_range'];refine key n acc.toList 0 (by rw [Array.length_toList];exact h.1) fun i v e=>?_
 obtain ⟨t,q⟩:=h.2 i v (by simpa using e);rw [Int.mul_one] at q;rw [Nat.zero_add];exact ⟨t,q⟩
theorem Rb:Ca X (.type "range") (fun xs H Q=>∃ j:Int,xs=[.int j]/\-(2 ^ 62)<=j/\j < 2 ^ 62/\∀ p,H p=none->Q (.ref p) (upd H p (.rng 0 j))):=by
 rintro pins s σ H xs us Q I r ⟨j,e,h1,h2,q⟩;subst e;obtain ⟨u,rfl,ru⟩:=vals1 r;obtain ⟨t,rfl⟩:=ru;exact call_range_1 ⟨.ref s.heap.objs.size,_,I.laid (o:=.rng 0 j) (fun b o e=>Heap.get?_push_of_some _ e) (Nat.le_refl _) ⟨_,_,_,Heap.get?_push_size _ rfl⟩,rfl,q _ (I.hok.fresh (Nat.le_refl _))⟩
theorem Rc {j:Int}(h1:-(2 ^ 62)<=j) (h2:j < 2 ^ 62):Builtin.Range.small 0 j 1=true/\Builtin.Range.rangeSize 0 j 1=(j.toNat:Int):=by
 refine ⟨small_one (by omega) (by omega) h1 h2,?_⟩;rw [rangeSize_one];split <;> omega
theorem Sw (hc:X.calm=true):Ca X (.type "list") (fun xs H Q=>∃ a j,xs=[.ref a]/\H a=some (.rng 0 j)/\-(2 ^ 62)<=j/\j<=1000000/\∀ p,H p=none->Q (.ref p) (upd H p (.lst ((List.range j.toNat).map fun (i:Nat)=>V.int (0+(i:Int)))))):=by
 rintro pins s σ H xs us Q I r ⟨a,j,e,hH,h1,h2,q⟩;subst e;obtain ⟨u,rfl,ru⟩:=vals1 r;cases ru;obtain ⟨t,u,v,hr⟩:=I.hok a _ hH;obtain ⟨f1,f2⟩:=Rc h1 (show j < 2 ^ 62 by omega);refine call_list_range (I.ok.hd hc) hr f1 f2 (by omega) fun h' tk acc c hk hS hacc=>?_
 exact ⟨.ref s.heap.objs.size,_,I.laid (t':=tk) (o:=.lst ((List.range j.toNat).map fun (i:Nat)=>V.int (0+(i:Int)))) hk (Nat.le_refl _) ⟨by simp [sizeLine_eq];omega,acc.toList,c,O1 hacc,by simpa using hS⟩,rfl,q _ (I.hok.fresh (Nat.le_refl _))⟩
theorem Qs (hc:X.calm=true):Ca X (.type "tuple") (fun xs H Q=>∃ a j,xs=[.ref a]/\H a=some (.rng 0 j)/\-(2 ^ 62)<=j/\j<=1000000/\∀ p,H p=none->Q (.ref p) (upd H p (.tup ((List.range j.toNat).map fun (i:Nat)=>V.int (0+(i:Int)))))):=by
 rintro pins s σ H xs us Q I r ⟨a,j,e,hH,h1,h2,q⟩;subst e;obtain ⟨u,rfl,ru⟩:=vals1 r;cases ru;obtain ⟨t,u,v,hr⟩:=I.hok a _ hH;obtain ⟨f1,f2⟩:=Rc h1 (show j < 2 ^ 62 by omega);refine Qq (I.ok.hd hc) hr f1 f2 (by omega) fun h' tk acc hk hacc=>?_
 have I1:Inv X pins σ H { s with heap:=h',toks:=tk }:=I.kept (t':=tk) hk;exact ⟨.ref h'.objs.size,_,I1.laid (t':=tk) (o:=.tup ((List.range j.toNat).map fun (i:Nat)=>V.int (0+(i:Int)))) (fun b o e=>Heap.get?_push_of_some _ e) (Nat.le_refl _) ⟨by simp [sizeLine_eq];omega,acc.toList,O1 hacc,by simpa using Nm.new h' acc⟩,rfl,q _ (I1.hok.fresh (Nat.le_refl _))⟩
noncomputable def Er (x:D) (mh:MH):Option (D×MH):=match x with
 | .int j=>if -(2 ^ 62)<=j/\j<=1000000 then some (.ref mh.length,mh++[.lst (Ce 0 j.toNat)]) else none
 | _=>none
noncomputable def N7 (x:D) (mh:MH):Option (D×MH):=match x with
 | .int j=>if -(2 ^ 62)<=j/\j<=1000000 then some (.tup (Ce 0 j.toNat),mh) else none
 | _=>none
theorem Rf {K:PySem.W.Frag}{H:Hp}{ρ:List Addr}(n:Nat):RDs K H ρ (Ce 0 n) ((List.range n).map fun (i:Nat)=>V.int (0+(i:Int))):=by
 unfold Ce;generalize List.range n=l
 induction l with
 | nil=>exact .nil
 | cons i r ih=>exact .cons (.int _) ih
variable {a:Expr}{ma:DM D}{p p2 pos pos2:Pos}
theorem Wy (hc:X.calm=true) (hg:Gl X "list") (hm:X.mg "list"=none) (hg2:Gl X "range") (hm2:X.mg "range"=none) (ha:DE X a ma) (hs:starEach [a] X.env=(false,eval a X.env)::starEach [] X.env) :
  DE X (.Call (.Name "list" p) [.Call (.Name "range" p2) [a] [] pos2] [] pos) (ma.bnd fun x=>Zl (Er x)):=fun loc mh =>
 Bm (Gp (Sw hc) hg hm (by decide +kernel) (Dp (Gp Rb hg2 hm2 boot_range (Dp (ha loc mh) Gx hs) (by decide) (by decide) hs) Gx)) fun σ H Q ⟨ρ,d,mh',q,rl,rs,co⟩=>by
  obtain ⟨x,m1,ea,q⟩:=Ay q;refine ⟨ρ,x,m1,ea,rl,rs,fun H1 ρ1 v e1 rs1 r1=>?_⟩;have q:Er x m1=some (d,mh'):=q;cases r1 with
  | int j =>
   simp only [Er] at q;split at q
   ·rename_i hl;cases q;exact ⟨j,rfl,hl.1,by omega,fun b hb=>⟨b,j,rfl,Be,hl.1,hl.2,Co.newL (rs1.new hb) (Rf _) (co.ev (e1.trans (Ev.new hb)))⟩⟩
   ·cases q
  | _=>cases q
theorem bO (hc:X.calm=true) (hg:Gl X "tuple") (hm:X.mg "tuple"=none) (hg2:Gl X "range") (hm2:X.mg "range"=none) (ha:DE X a ma) (hs:starEach [a] X.env=(false,eval a X.env)::starEach [] X.env) :
  DE X (.Call (.Name "tuple" p) [.Call (.Name "range" p2) [a] [] pos2] [] pos) (ma.bnd fun x=>Zl (N7 x)):=fun loc mh =>
 Bm (Gp (Qs hc) hg hm (by decide +kernel) (Dp (Gp Rb hg2 hm2 boot_range (Dp (ha loc mh) Gx hs) (by decide) (by decide) hs) Gx)) fun σ H Q ⟨ρ,d,mh',q,rl,rs,co⟩=>by
  obtain ⟨x,m1,ea,q⟩:=Ay q;refine ⟨ρ,x,m1,ea,rl,rs,fun H1 ρ1 v e1 rs1 r1=>?_⟩;have q:N7 x m1=some (d,mh'):=q;cases r1 with
  | int j =>
   simp only [N7] at q;split at q
   ·rename_i hl;cases q;exact ⟨j,rfl,hl.1,by omega,fun b hb=>⟨b,j,rfl,Be,hl.1,hl.2,Co.newT (rs1.new hb) (Rf _) (co.ev (e1.trans (Ev.new hb)))⟩⟩
   ·cases q
  | _=>cases q
end
end DL
namespace DL
open PySem PySem.Spec PyProof.Rows L2 PySem.W
noncomputable def Aer:List Int->List Int->Bool
 | [],[]=>false
 | [],_::_=>true
 | _::_,[]=>false
 | x::xs,y::ys=>if (x==y)=true then Aer xs ys else decide (x < y)
section
variable {prog:Program}{w:World}{A:Around}{E:Value->Shared->Prop}{κ:SortKind}{it:Array Keyed}{s:Shared}
end
section
variable {prog:Program}{w:World}{A:Around}{E:Value->Shared->Prop}{s:Shared}
end
section
variable {X:Cx}
end
noncomputable abbrev TX:=Str×List Int
noncomputable def Agc (a b:TX):Bool:=if a.1=b.1 then Aer a.2 b.2 else decide (a.1.cps.toList < b.1.cps.toList)
noncomputable def wF (ks:List TX):List TX:=ks.mergeSort fun a b=>!Agc b a
section
variable {n:Nat}{lt:Nat->Nat->Bool}
end
section
variable {prog:Program}{w:World}{A:Around}{E:Value->Shared->Prop}{s:Shared}
end
noncomputable def txD (k:TX):D:=.tup (.str k.1::k.2.map D.int)
noncomputable def tK:List TX->List TX
 | []=>[]
 | x::r=>if x∈r then tK r else x::tK r
section
variable {X:Cx}
end
noncomputable def iC:List D->Option (List TX)
 | []=>some []
 | .tup (.str x::r)::t=>match intsOf r with
  | some ns=>match iC t with
   | some l=>some ((x,ns)::l)
   | none=>none
  | none=>none
 | _=>none
noncomputable def iD (ds:List D) (mh:MH):Option (D×MH):=match iC ds with
 | some ks=>if (tK ks).length<=17 then some (.ref mh.length,mh++[.lst ((wF (tK ks)).map txD)]) else none
 | none=>none
noncomputable def bQ (x:D) (mh:MH):Option (D×MH):=match x with
 | .ref n=>match mh[n]? with
  | some (.lst o)=>match intsOf o with
   | some ns=>if ns.length < 4000 then (if (gR ns).length < 64 then some (.ref mh.length,mh++[.lst ((Aeo ns).map D.int)]) else none) else none
   | none=>iD o mh
  | _=>none
 | _=>none
section
variable {K:PySem.W.Frag}{H:Hp}{ρ:List Addr}
end
section
variable {X:Cx}{a:Expr}{ma:DM D}{p p2 pos pos2:Pos}
end
end DL
namespace DL
open PySem PySem.Spec PyProof.Rows L2
section
variable {prog:Program}{w:World}{A:Around}{E:Value->Shared->Prop}{s:Shared}
end
section
variable {prog:Program}{w:World}{A:Around}{E:Value->Shared->Prop}{s:Shared}
end
section
variable {X:Cx}
end
section
variable {prog:Program}{w:World}{A:Around}{E:Value->Shared->Prop}{s:Shared}
end
section
variable {prog:Program}{w:World}{A:Around}{E:Value->Shared->Prop}{s:Shared}{k1 k2:SeqK}{S z TI TO i1 i2 l1 l2:Addr}{i:Nat}
end
noncomputable def Aan (a b:D):D:=.tup [a,b]
noncomputable def iH:List D->MH->Option (D×MH)
 | [x,y],mh=>match Dq x mh,Dq y mh with
  | some as,some bs=>some (.ref mh.length,mh++[.lst (List.zipWith Aan as bs)])
  | _,_=>none
 | _,_=>none
section
variable {X:Cx}
end
end DL
namespace DL
open PySem PySem.Spec PyProof.Rows L2 PySem.W
noncomputable def iJ:List D->MH->Option (D×MH)
 | [x,y],mh=>match Dq x mh,Dq y mh with
  | some as,some bs=>match iC (List.zipWith Aan as bs) with
   | some ks=>if ks.Nodup/\ks.length < 64 then some (.ref (mh.length+1),mh++[.lst (List.zipWith Aan as bs)]++[.lst ((wF ks).map txD)]) else none
   | none=>none
  | _,_=>none
 | _,_=>none
section
variable {X:Cx}
end
end DL
namespace DL
open PySem PySem.Spec PyProof.Rows L2
section
variable {X:Cx}
end
noncomputable def Y8 (T1:String) (f1:D->List D->MH->Option (D×MH)) (T2:String) (f2:D->List D->MH->Option (D×MH)) (mo:DM D) (mr:DM (List D)):DM D:=fun loc mh=>match mo loc mh with
 | some (x,m1)=>if bF T1 x m1 then Cw T1 f1 mo mr loc mh else Cw T2 f2 mo mr loc mh
 | none=>none
theorem U5 {X:Cx}{e:Expr}{T1 T2:String}{f1 f2:D->List D->MH->Option (D×MH)}{mo:DM D}{mr:DM (List D)}(h1:DE X e (Cw T1 f1 mo mr)) (h2:DE X e (Cw T2 f2 mo mr)):DE X e (Y8 T1 f1 T2 f2 mo mr):=fun loc mh=>by
 unfold Y8;split
 ·split
  ·exact h1 loc mh
  ·exact h2 loc mh
 ·exact Bo
section
variable {prog:Program}{w:World}{A:Around}{E:Value->Shared->Prop}{s:Shared}
end
inductive DEnts (w:World) (K:PySem.W.Frag):List DictEntry->List (Str×D)->Prop
 | nil:DEnts w K [] []
 | cons {k:Str} {t:Tok} {u:Value} {v:V} {d:D} {es:List DictEntry} {kvs:List (Str×D)}:RelV v u->(∀ H ρ,RD K H ρ d v)->DEnts w K es kvs->DEnts w K ({ hash:=hashStr w k,key:=.str k t,val:=u }::es) ((k,d)::kvs)
structure DicOk (w:World) (K:PySem.W.Frag) (a:Addr) (kvs:List (Str×D)):Prop where
 ns:(a==sysModules)=false
 ob:∃ o es ep,K.lookup a=some o/\o.ExactDict/\o.data=.dict es ep/\DEnts w K es.toList kvs
section
variable {X:Cx}{a:Addr}{kvs:List (Str×D)}
variable {e:Expr}{me:DM D}{x:Str}{p pos:Pos}
end
mutual
noncomputable def rdV (K:PySem.W.Frag):Nat->Value->Option D
 | _,.none=>some .non
 | _,.bool b=>some (.bl b)
 | _,.int i _=>some (.int i)
 | _,.str x _=>some (.str x)
 | n+1,.ref a=>match K.lookup a with
  | some ⟨.type c,none,.seq its _,_⟩=>if c == "tuple"&&decide (its.size<=1000) then (match O3 K n its.toList with | some ds=>some (.tup ds) | none=>none) else none
  | _=>none
 | _,_=>none
noncomputable def O3 (K:PySem.W.Frag):Nat->List Value->Option (List D)
 | _,[]=>some []
 | 0,_::_=>none
 | n+1,u::r=>match rdV K n u with
  | some d=>(match O3 K n r with | some ds=>some (d::ds) | none=>none)
  | none=>none
end
mutual
theorem iK {K:PySem.W.Frag}:∀ (n:Nat) {u:Value}{d:D},rdV K n u=some d->∃ v,RelV v u/\∀ H ρ,RD K H ρ d v
 | n,.none,d,h=>by cases n <;> (simp only [rdV] at h;cases h;exact ⟨.non,rfl,fun _ _=>.non⟩)
 | n,.bool b,d,h=>by cases n <;> (simp only [rdV] at h;cases h;exact ⟨.bl b,rfl,fun _ _=>.bl b⟩)
 | n,.int i t,d,h=>by cases n <;> (simp only [rdV] at h;cases h;exact ⟨.int i,⟨t,rfl⟩,fun _ _=>.int i⟩)
 | n,.str x t,d,h=>by cases n <;> (simp only [rdV] at h;cases h;exact ⟨.str x,⟨t,rfl⟩,fun _ _=>.str x⟩)
 | 0,.ref a,d,h=>by simp only [rdV] at h;cases h
 | n+1,.ref a,d,h=>by
  simp only [rdV] at h;split at h
  ·rename_i c its ep sl hk;split at h
   ·rename_i hc;rw [Bool.and_eq_true,decide_eq_true_iff] at hc;split at h
    ·rename_i ds hd;cases h;obtain ⟨vs,h1,h2⟩:=Y9 n hd;refine ⟨.ref a,rfl,fun H ρ=>.tup (.inr ⟨_,its,ep,hk,by rw [eq_of_beq hc.1],rfl,rfl,?_,h1⟩) (h2 H ρ)⟩;rw [sizeLine_eq];omega
    ·cases h
   ·cases h
  ·cases h
 | n,.float _ _,d,h=>by cases n <;> (simp only [rdV] at h;cases h)
 | n,.bytes _ _,d,h=>by cases n <;> (simp only [rdV] at h;cases h)
 | n,.ellipsis,d,h=>by cases n <;> (simp only [rdV] at h;cases h)
 | n,.notImplemented,d,h=>by cases n <;> (simp only [rdV] at h;cases h)
 | n,.type _,d,h=>by cases n <;> (simp only [rdV] at h;cases h)
 | n,.builtin _,d,h=>by cases n <;> (simp only [rdV] at h;cases h)
theorem Y9 {K:PySem.W.Frag}:∀ (n:Nat) {us:List Value}{ds:List D},O3 K n us=some ds->∃ vs,Vals vs us/\∀ H ρ,RDs K H ρ ds vs
 | n,[],ds,h=>by cases n <;> (simp only [O3] at h;cases h;exact ⟨[],.nil,fun _ _=>.nil⟩)
 | 0,_::_,ds,h=>by simp only [O3] at h;cases h
 | n+1,u::r,ds,h=>by
  simp only [O3] at h;split at h
  ·rename_i d hd;split at h
   ·rename_i ds' hr;cases h;obtain ⟨v,a1,a2⟩:=iK n hd;obtain ⟨vs,b1,b2⟩:=Y9 n hr;exact ⟨v::vs,.cons a1 b1,fun H ρ=>.cons (a2 H ρ) (b2 H ρ)⟩
   ·cases h
  ·cases h
end
theorem O4 {K:PySem.W.Frag}{H:Hp}{ρ:List Addr}{f:Str}{d:D}:∀ {ks:List Str}{ds:List D}{xs:List V},RDs K H ρ ds xs->(ks.zip ds).lookup f=some d->∃ v,(ks.zip xs).lookup f=some v/\RD K H ρ d v
 | [],_,_,_,h=>by simp at h
 | k::ks,_,_,.nil,h=>by simp at h
 | k::ks,_,_,.cons r t,h=>by
  rw [List.zip_cons_cons,List.lookup_cons] at h ⊢;cases e:f==k with
  | true=>rw [e] at h;cases h;exact ⟨_,rfl,r⟩
  | false=>rw [e] at h;exact O4 t h
theorem O5 {f:Str}:∀ {ks:List Str}{xs:List V},ks.contains f=false->(ks.zip xs).lookup f=none
 | [],_,_=>by simp
 | k::ks,[],_=>by simp
 | k::ks,x::xs,h=>by
  rw [List.contains_cons,Bool.or_eq_false_iff] at h;rw [List.zip_cons_cons,List.lookup_cons,h.1];exact O5 h.2
noncomputable def iM (c f:Str) (x:D) (mh:MH):Option (D×MH):=match x with
 | .obj c' ks ds=>if c'==c then (match (ks.zip ds).lookup f with | some d=>some (d,mh) | none=>none) else none
 | _=>none
section
variable {X:Cx}{o:Expr}{mo:DM D}{c f:Str}{C:Addr}{pos apos:Pos}
theorem Aao (hn:PySem.W.nsIn X.K mainGlobals c=some (some (.ref C))) (hc:Cls X.K C) (ha:Eg X.K C f) (ho:DE X o mo) (hb:attributeBase o f X.env (eval o X.env)=eval o X.env):DE X (.Attribute o f pos) (mo.bnd fun x=>Zl (iM c f x)):=fun loc mh =>
 Bm (zB (ho loc mh) hb) fun σ H Q ⟨ρ,d,mh',q,rl,rs,co⟩=>by
  obtain ⟨x,m1,ea,q2⟩:=Ay q
  clear q
  refine ⟨ρ,x,m1,ea,rl,rs,fun H1 ρ1 v e1 rs1 r1=>?_⟩;change iM c f x m1=some (d,mh') at q2;cases r1 with
  | @obj c' ks ds a C' dx xs h1 h2 h3 h4 =>
   simp only [iM] at q2;split at q2
   ·rename_i hcc;have e:=eq_of_beq hcc;subst e;rw [hn] at h1;cases h1;split at q2
    ·rename_i d' hl;cases q2;obtain ⟨v',l1,l2⟩:=O4 h4 hl;exact ⟨a,C,dx,_,v',rfl,h2,hc,ha,l1,co H1 ρ1 _ e1 rs1 l2⟩
    ·cases q2
   ·cases q2
  | _=>cases q2
noncomputable def O6 (c m:Str) (f:List D->MH->Option (D×MH)) (mo:DM D) (mr:DM (List D)):DM D:=mo.bnd fun x=>match x with
 | .obj c' ks ds=>if c'==c&&!(ks.contains m) then mr.bnd fun as=>Zl (f (.obj c' ks ds::as)) else Zb
 | _=>Zb
theorem Rg {env:Env}{o:Expr}{m:Str}{args:List Expr}(hbase:attributeBase o m env (eval o env)=eval o env)
  (hfew:((backTo pos (starEach args env)).all (fun x=>!x.1)&&(backToKw pos (keywordEach [] env)).all (fun x=>x.1.isSome)&&decide (args.length+([]:List Keyword).length+(if ([]:List Keyword).isEmpty then 0 else 1) < 30))=true)
  (hline:(apos.endLine==pos.line)=true) :
  eval (.Call (.Attribute o m apos) args [] pos) env=(do
   let ov ← eval o env
   standAt apos.atName
   let (f,first) ← holding [ov] (getMethod ov m (do return (← importBound o env).getD true))
   callWith pos f first (backTo pos (starEach args env)) (backToKw pos (keywordEach [] env))):=by
 rw [arm_eval_Call,hbase];have hform:methodCallForm (args.length+([]:List Keyword).length) (backTo pos (starEach args env)) (backToKw pos (keywordEach [] env))=true:=hfew;have hpos:methodCallPos true o env apos pos=pure pos:=by unfold methodCallPos;simp [hline]
 unfold methodCall;rw [hform,hpos];rfl
variable {CX:CXT}{k:Nat}{fa:Addr}{fd:FuncData}{ps:List Str}{m:Str}{g:List D->MH->Option (D×MH)}{e:Expr}{es:List Expr}{mr:DM (List D)}{E:XK}
theorem O7 {loc:Loc}{mh:MH}{r:D×MH}(h:O6 c m g mo mr loc mh=some r):∃ ks ds m1,mo loc mh=some (.obj c ks ds,m1)/\ks.contains m=false/\∃ as m2,mr loc m1=some (as,m2)/\g (.obj c ks ds::as) m2=some r:=by
 obtain ⟨x,m1,ea,h2⟩:=Ay h
 clear h
 cases x with
 | obj c' ks ds =>
  simp only at h2;split at h2
  ·rename_i hc;rw [Bool.and_eq_true] at hc;have ec:=eq_of_beq hc.1;subst ec;obtain ⟨as,m2,eb,h3⟩:=Ay h2;exact ⟨ks,ds,m1,ea,by simpa using hc.2,as,m2,eb,h3⟩
  ·cases h2
 | _=>cases h2
theorem tL (hn:PySem.W.nsIn X.K mainGlobals c=some (some (.ref C))) (hc:Cls X.K C) (hm:Meth X.K C m fa) (F:FnOk X.prog X.w X.K X.mg X.base CX k fa fd ps (spD X.K ps.length g)) (hr:Room k X.A) (hb:Binds X.K fd ps []) (hx:Cp CX X E) (ho:DE X o mo) (ha:DA X (e::es) mr)
  (hl:∀ ds mh r,g ds mh=some r->ds.length=ps.length) (hbase:attributeBase o m X.env (eval o X.env)=eval o X.env)
  (hfew:((backTo pos (starEach (e::es) X.env)).all (fun x=>!x.1)&&(backToKw pos (keywordEach [] X.env)).all (fun x=>x.1.isSome)&&decide ((e::es).length+([]:List Keyword).length+(if ([]:List Keyword).isEmpty then 0 else 1) < 30))=true)
  (hline:(apos.endLine==pos.line)=true) (hst:starEach (e::es) X.env=(false,eval e X.env)::starEach es X.env) (hpl:(backTo pos (starEach es X.env)).any (·.1)=false) :
  DE X (.Call (.Attribute o m apos) (e::es) [] pos) (O6 c m g mo mr):=fun loc mh=>by
 cases eq:O6 c m g mo mr loc mh with
 | none=>exact Bo
 | some r =>
  obtain ⟨ks,ds,m1,ea,hk,as,m2,eb,hg⟩:=O7 eq;refine Bm (qW (ho loc mh) hc hm F hr hb .nil hx (ha loc m1) hst hpl (Rg hbase hfew hline)) ?_;rintro σ H Q ⟨ρ,d,mh',q,rl,rs,co⟩;cases q;refine ⟨ρ,_,m1,ea,rl,rs,fun H1 ρ1 v e1 rs1 r1=>?_⟩;cases r1 with
  | @obj _ _ _ a C' dx xs h1 h2 h3 h4 =>
   rw [hn] at h1;cases h1;refine ⟨a,dx,_,rfl,h2,O5 hk,ρ1,as,m2,eb,rl.mono e1,rs1,fun H2 ρ2 vs e2 rs2 r2=>?_⟩;show spD X.K ps.length g (.ref a::(vs++[])) H2 Q E;rw [List.append_nil];have rr:RDs X.K H2 ρ2 (.obj c ks ds::as) (.ref a::vs):=.cons (.obj hn (e2.ins _ _ _ _ h2) h3 (h4.mono e2)) r2;exact ⟨by rw [← rr.length];exact hl _ _ _ hg,ρ2,m2,_,d,mh',hg,rs2,rr,co.ev (e1.trans e2)⟩
theorem iQ (hn:PySem.W.nsIn X.K mainGlobals c=some (some (.ref C))) (hc:Cls X.K C) (hm:Meth X.K C m fa) (F:FnOk X.prog X.w X.K X.mg X.base CX k fa fd ps (spD X.K ps.length g)) (hr:Room k X.A) (hb:Binds X.K fd ps []) (hx:Cp CX X E) (ho:DE X o mo)
  (hl:∀ ds mh r,g ds mh=some r->ds.length=ps.length) (hbase:attributeBase o m X.env (eval o X.env)=eval o X.env) (hline:(apos.endLine==pos.line)=true) :
  DE X (.Call (.Attribute o m apos) [] [] pos) (O6 c m g mo (Zr [])):=fun loc mh=>by
 cases eq:O6 c m g mo (Zr []) loc mh with
 | none=>exact Bo
 | some r =>
  obtain ⟨ks,ds,m1,ea,hk,as,m2,eb,hg⟩:=O7 eq;cases eb;refine Bm (eF (ho loc mh) hc hm F hr hb .nil hx (Rg hbase rfl hline)) ?_;rintro σ H Q ⟨ρ,d,mh',q,rl,rs,co⟩;cases q;refine ⟨ρ,_,m1,ea,rl,rs,fun H1 ρ1 v e1 rs1 r1=>?_⟩;cases r1 with
  | @obj _ _ _ a C' dx xs h1 h2 h3 h4 =>
   rw [hn] at h1;cases h1;refine ⟨a,dx,_,rfl,h2,O5 hk,?_⟩;have rr:RDs X.K H1 ρ1 [.obj c ks ds] [.ref a]:=.cons (.obj hn h2 h3 h4) .nil;have hl1:[V.ref a].length=ps.length:=by rw [← rr.length];exact hl _ _ _ hg
   exact ⟨hl1,ρ1,m1,_,d,mh',hg,rs1,rr,co.ev e1⟩
noncomputable def spI (C:Addr) (f:Str):Sp:=fun vs H Q _=>∃ x dx v,vs=[.ref x,v]/\H x=some (.ins C dx [])/\Q .non (upd H x (.ins C dx [(f,v)]))
theorem tM {x:Str}{p:Pos}{ma:DM D}{a:Expr}(hn:PySem.W.nsIn X.K mainGlobals x=some (some (.ref C))) (M:Mk X.K C fa) (F:FnOk X.prog X.w X.K X.mg X.base CX k fa fd ps (spI C f)) (hr:Room (k+1) X.A) (hg:Gl X x) (hm:X.mg x=some (.ref C)) (hb:Binds X.K fd ps []) (hx:Cp CX X E)
  (ha:DE X a ma) (hdb:(x==("__debug__":Str))=false) (hs:starEach [a] X.env=(false,eval a X.env)::starEach [] X.env) :
  DE X (.Call (.Name x p) [a] [] pos) (ma.bnd fun d=>Zr (.obj x [f] [d])):=fun loc mh =>
 Bm (qX M F hr hg hm hb .nil hx (Dp (ha loc mh) Gx hs) hdb hs) fun σ H Q ⟨ρ,d,mh',q,rl,rs,co⟩=>by
  obtain ⟨y,m1,ea,q⟩:=Ay q;cases q;refine ⟨ρ,y,_,ea,rl,rs,fun H1 ρ1 v e1 rs1 r1=>fun z dx hz hdx hne=>?_⟩;refine ⟨z,dx,v,rfl,Be,rfl,?_⟩;have e2:Ev X.K H1 ρ1 (upd (upd H1 dx (.own z)) z (.ins C dx [])) ρ1:=(Ev.new hdx).trans (Ev.new (by rw [Ah (Ne.symm hne)];exact hz));have rs2:RS X.K (upd (upd H1 dx (.own z)) z (.ins C dx [])) ρ1 mh':=(rs1.new hdx).new (by rw [Ah (Ne.symm hne)];exact hz);rw [pX];have hz':upd H1 dx (HO.own z) z=none:=by rw [Ah (Ne.symm hne)];exact hz
  refine co _ ρ1 _ (e1.trans ((Ev.new hdx).trans (Ev.new hz'))) ((rs1.new hdx).new hz') ?_;exact .obj (xs:=[v]) hn Be rfl (.cons (r1.mono ((Ev.new hdx).trans (Ev.new hz'))) .nil)
end
theorem tO {P:Program}{w:World}{K:PySem.W.Frag}{mg:Str->Option Value}{base:Heap}{qual:Str}{st:Stmt}{fa C:Addr}{fd:FuncData}{s q f:Str}{p1 p2 p3 p4:Pos}(F:Fun K "__init__" qual st fa fd) (S:FnScope [s,q] [s,q] (Ai st)) (hb:Bu st=[.Assign [.Attribute (.Name s p1) f p2] (.Name q p3) p4])
  (hs1:Vis (Ai st) s) (hq1:Vis (Ai st) q) (hc:Cls K C) (ha:Eg K C f) (d1:(s==("__debug__":Str))=false/\(s==("__classdict__":Str))=false) (d2:(q==("__debug__":Str))=false/\(q==("__classdict__":Str))=false):FnOk P w K mg base CX0 1 fa fd [s,q] (spI C f):=by
 refine F.ok S (fun vs H Q E h=>?_) fun cdv A outer sh H vs Q E hr h=>?_
 ·obtain ⟨x,dx,v,rfl,_⟩:=h;rfl
 ·obtain ⟨x,dx,v,rfl,hx,hQ⟩:=h;rw [hb];refine ⟨_,qG (zE (Ht (i:=0) rfl ?_ d1.1 d1.2) (Ht (i:=1) rfl ?_ d2.1 d2.2) rfl),?_⟩
  ·exact hs1
  ·exact hq1
  ·exact ⟨v,rfl,.ref x,rfl,x,C,dx,[],rfl,hx,hc,ha,by show 0 < 1000;decide,hQ⟩
noncomputable abbrev Fn:=List D->MH->Option (D×MH)
noncomputable def Jl (ok:Str->Str->Bool) (f:Str) (mo:DM D):DM D:=mo.bnd fun x=>match x with
 | .obj c ks ds=>if ok c f then Zl (iM c f (.obj c ks ds)) else Zb
 | _=>Zb
noncomputable def Gg (met:Str->Str->Option (List Str×Fn)) (m:Str) (mo:DM D) (mr:DM (List D)):DM D:=mo.bnd fun x=>match x with
 | .obj c ks ds=>(match met c m with
  | some (_,g)=>if ks.contains m then Zb else mr.bnd fun as=>Zl (g (.obj c ks ds::as))
  | none=>Zb)
 | _=>Zb
section
variable {X:Cx}{o:Expr}{mo:DM D}{f m:Str}{pos apos:Pos}
theorem tQ {ok:Str->Str->Bool}(hok:∀ c,ok c f=true->∃ C,PySem.W.nsIn X.K mainGlobals c=some (some (.ref C))/\Cls X.K C/\Eg X.K C f) (ho:DE X o mo) (hb:attributeBase o f X.env (eval o X.env)=eval o X.env):DE X (.Attribute o f pos) (Jl ok f mo):=fun loc mh=>by
 cases ea:mo loc mh with
 | none =>
  have:Jl ok f mo loc mh=none:=by unfold Jl DM.bnd;rw [ea]
  rw [this];exact Bo
 | some pr =>
  obtain ⟨x,m1⟩:=pr;cases x with
  | obj c ks ds =>
   by_cases h:ok c f=true
   ·obtain ⟨C,h1,h2,h3⟩:=hok c h;have e:Jl ok f mo loc mh=(mo.bnd fun x=>Zl (iM c f x)) loc mh:=by unfold Jl DM.bnd;rw [ea];dsimp only;rw [if_pos h]
    rw [e];exact Aao h1 h2 h3 ho hb loc mh
   ·have:Jl ok f mo loc mh=none:=by unfold Jl DM.bnd;rw [ea];dsimp only;rw [if_neg h];rfl
    rw [this];exact Bo
  | _ =>
   have:Jl ok f mo loc mh=none:=by unfold Jl DM.bnd;rw [ea];rfl
   rw [this];exact Bo
theorem Za {met:Str->Str->Option (List Str×Fn)}{mr:DM (List D)}{loc:Loc}{mh m1:MH}{c:Str}{ks:List Str}{ds:List D}{ps:List Str}{g:Fn}(ea:mo loc mh=some (.obj c ks ds,m1)) (hm:met c m=some (ps,g)):Gg met m mo mr loc mh=O6 c m g mo mr loc mh:=by
 unfold Gg O6 DM.bnd;rw [ea];dsimp only;rw [hm];dsimp only;cases hk:ks.contains m with
 | true=>rw [if_pos rfl,if_neg (by simp)]
 | false=>rw [if_neg (by simp),if_pos (by simp)]
theorem tR {k:Nat}{E:XK}{e:Expr}{es:List Expr}{mr:DM (List D)}{met:Str->Str->Option (List Str×Fn)}
  (hm:∀ c ps g,met c m=some (ps,g)->∃ C fa fd,PySem.W.nsIn X.K mainGlobals c=some (some (.ref C))/\Cls X.K C/\Meth X.K C m fa/\Binds X.K fd ps []/\FnOk X.prog X.w X.K X.mg X.base CX0 k fa fd ps (spD X.K ps.length g)/\∀ ds mh r,g ds mh=some r->ds.length=ps.length)
  (hr:Room k X.A) (hx:Cp CX0 X E) (ho:DE X o mo) (ha:DA X (e::es) mr) (hbase:attributeBase o m X.env (eval o X.env)=eval o X.env)
  (hfew:((backTo pos (starEach (e::es) X.env)).all (fun x=>!x.1)&&(backToKw pos (keywordEach [] X.env)).all (fun x=>x.1.isSome)&&decide ((e::es).length+([]:List Keyword).length+(if ([]:List Keyword).isEmpty then 0 else 1) < 30))=true)
  (hline:(apos.endLine==pos.line)=true) (hst:starEach (e::es) X.env=(false,eval e X.env)::starEach es X.env) (hpl:(backTo pos (starEach es X.env)).any (·.1)=false) :
  DE X (.Call (.Attribute o m apos) (e::es) [] pos) (Gg met m mo mr):=fun loc mh=>by
 cases ea:mo loc mh with
 | none =>
  have:Gg met m mo mr loc mh=none:=by unfold Gg DM.bnd;rw [ea]
  rw [this];exact Bo
 | some pr =>
  obtain ⟨x,m1⟩:=pr;cases x with
  | obj c ks ds =>
   cases em:met c m with
   | none =>
    have:Gg met m mo mr loc mh=none:=by unfold Gg DM.bnd;rw [ea];dsimp only;rw [em];rfl
    rw [this];exact Bo
   | some pg =>
    obtain ⟨ps,g⟩:=pg;obtain ⟨C,fa,fd,h1,h2,h3,h4,h5,h6⟩:=hm c ps g em;rw [Za ea em];exact tL (E:=E) h1 h2 h3 h5 hr h4 hx ho ha h6 hbase hfew hline hst hpl loc mh
  | _ =>
   have:Gg met m mo mr loc mh=none:=by unfold Gg DM.bnd;rw [ea];rfl
   rw [this];exact Bo
theorem iR {k:Nat}{E:XK}{met:Str->Str->Option (List Str×Fn)}
  (hm:∀ c ps g,met c m=some (ps,g)->∃ C fa fd,PySem.W.nsIn X.K mainGlobals c=some (some (.ref C))/\Cls X.K C/\Meth X.K C m fa/\Binds X.K fd ps []/\FnOk X.prog X.w X.K X.mg X.base CX0 k fa fd ps (spD X.K ps.length g)/\∀ ds mh r,g ds mh=some r->ds.length=ps.length)
  (hr:Room k X.A) (hx:Cp CX0 X E) (ho:DE X o mo) (hbase:attributeBase o m X.env (eval o X.env)=eval o X.env) (hline:(apos.endLine==pos.line)=true) :
  DE X (.Call (.Attribute o m apos) [] [] pos) (Gg met m mo (Zr [])):=fun loc mh=>by
 cases ea:mo loc mh with
 | none =>
  have:Gg met m mo (Zr []) loc mh=none:=by unfold Gg DM.bnd;rw [ea]
  rw [this];exact Bo
 | some pr =>
  obtain ⟨x,m1⟩:=pr;cases x with
  | obj c ks ds =>
   cases em:met c m with
   | none =>
    have:Gg met m mo (Zr []) loc mh=none:=by unfold Gg DM.bnd;rw [ea];dsimp only;rw [em];rfl
    rw [this];exact Bo
   | some pg =>
    obtain ⟨ps,g⟩:=pg;obtain ⟨C,fa,fd,h1,h2,h3,h4,h5,h6⟩:=hm c ps g em;rw [Za ea em];exact iQ (E:=E) h1 h2 h3 h5 hr h4 hx ho h6 hbase hline loc mh
  | _ =>
   have:Gg met m mo (Zr []) loc mh=none:=by unfold Gg DM.bnd;rw [ea];rfl
   rw [this];exact Bo
end
section
variable {X:Cx}
noncomputable def Aap:List D->Option (Int×Int)
 | [.int i,.int j]=>some (i,j)
 | _=>none
theorem bR {ds:List D}{z:Int×Int}(h:Aap ds=some z):ds=[.int z.1,.int z.2]:=by
 match ds,h with
 | [d,e],h =>
  cases d with
  | int i =>
   cases e with
   | int j=>cases h;rfl
   | _=>cases h
  | _=>cases h
 | [],h=>cases h
 | [d],h=>cases d <;> cases h
 | d::e::_::_,h=>cases d <;> first | cases h | (cases e <;> cases h)
noncomputable def iU (f:Int->List Int->Int) (g:Fn):Fn:=fun ds mh=>match Aap ds with
 | some z=>some (.int (f z.1 [z.2]),mh)
 | none=>g ds mh
theorem Wz {v:Value}{f:Int->List Int->Int}{g:Fn}(h2:Ca X v (fun xs H Q=>∃ i j,xs=[.int i,.int j]/\Q (.int (f i [j])) H)) (hg:Ca X v (rDs X.K g)):Ca X v (rDs X.K (iU f g)):=by
 rintro pins s σ H xs us Q I r ⟨ρ,mh,ds,d,mh',q,rs,rd,co⟩;unfold iU at q;cases e:Aap ds with
 | none=>rw [e] at q;exact hg pins s σ H xs us Q I r ⟨ρ,mh,ds,d,mh',q,rs,rd,co⟩
 | some z =>
  rw [e] at q;cases q;rw [bR e] at rd;obtain ⟨v1,v2,rfl,r1,r2⟩:=Agb rd;cases r1;cases r2;exact h2 pins s σ H _ us Q I r ⟨_,_,rfl,co H ρ _ Ev.refl rs (.int _)⟩
noncomputable def wH:Fn:=iU Uy minD
theorem W0 (hc:X.calm=true):Ca X (.builtin "min") (rDs X.K wH):=Wz (aP hc) (bI hc)
end
section
variable {X:Cx}{tg:Expr}
end
theorem My:fillsNumberSlot (.type "tuple") "mul"=pure false:=PySem.fillsNumberSlot_seq (id := "tuple.__mul__") (r:=some (.builtin "tuple.__rmul__")) PySem.F.slot_tuple_mul.lookup (by decide +kernel) PySem.F.slot_tuple_rmul.lookup (by decide +kernel)
theorem Mz:seqRepeat? (.type "tuple")=pure (some (.builtin "tuple.__mul__")):=by
 unfold seqRepeat?
 rw [PySem.seqSlot_of (T := "tuple") (name := "__mul__") (id := "tuple.__mul__") PySem.F.slot_tuple_mul.lookup (by decide +kernel),PySem.seqSlot_of (T := "tuple") (name := "__rmul__") (id := "tuple.__rmul__") PySem.F.slot_tuple_rmul.lookup (by decide +kernel)];rfl
theorem Rh (a:Int) (t:Tok) (l:Addr) (items:Array Value) (n:Nat) (dd:Option Addr) (sl:Array (Option Value)) :
  Meets (Builtin.«int.__rmul__» ⟨[.int a t,.ref l],[]⟩) (fun _ R s=>s.heap.get? l=some { cls:=.type "tuple",dict:=dd,data:=.seq items n,slots:=sl }/\R (.ok (.ret Value.notImplemented)) s) :=
 .of_wp fun prog w A R s h=>by obtain ⟨hp,g,d,tk,os⟩:=s;obtain ⟨hl,h⟩:=h;wp_walk;exact ⟨_,rfl,h⟩
theorem iV (l:Addr) (items:Array Value) (n:Nat) (dd:Option Addr) (sl:Array (Option Value)) (x:Int) (u:Tok) (hc0:¬(decide (x < -(2 ^ 63)) || decide (x ≥ 2 ^ 63))=true) (hc1:¬(items.isEmpty || x==1)=true) (hc2:¬(decide (x<=0) || items.isEmpty)=true) (hc3:¬((items.size:Int) * x > (2 ^ 63 - 1) / 8)) (hc5:¬(List.foldl (fun x1 x2=>x1++x2) #[] (List.replicate x.toNat items)).size > sizeLine) (hc4:¬PySem.Builtin.Tuple.tupleTooMany ((items.size:Int) * x)=true) :
  Meets (Builtin.«tuple.__mul__» ⟨[.ref l,.int x u],[]⟩) (fun _ R s=>s.heap.get? l=some { cls:=.type "tuple",dict:=dd,data:=.seq items n,slots:=sl }/\R (.ok (.ret (Value.ref s.heap.objs.size))) { s with heap:=s.heap.push { cls:=Value.type "tuple",data:=Data.seq (List.foldl (fun x1 x2=>x1++x2) #[] (List.replicate x.toNat items)) },toks:=s.toks }) :=
 .of_wp fun prog w A R s h=>by
  obtain ⟨hp,g,d,tk,os⟩:=s;obtain ⟨hl,h⟩:=h;have f1:=AutoSeq1.idx_int;wp_walk using wpAny_loadPart' hl
  simp only [hc0,Bool.false_eq_true,if_false];wp_walk using wpAny_loadPart' hl
  simp only [hc3,if_false];wp_walk using wpAny_loadPart' hl
  exact ⟨_,rfl,h⟩
theorem iW (l:Addr) (items:Array Value) (n:Nat) (dd:Option Addr) (sl:Array (Option Value)) (u:Tok) :
  Meets (Builtin.«tuple.__mul__» ⟨[.ref l,.int 1 u],[]⟩) (fun _ R s=>s.heap.get? l=some { cls:=.type "tuple",dict:=dd,data:=.seq items n,slots:=sl }/\R (.ok (.ret (Value.ref l))) s) :=
 .of_wp fun prog w A R s h=>by
  obtain ⟨hp,g,d,tk,os⟩:=s;obtain ⟨hl,h⟩:=h;have f1:=AutoSeq1.idx_int;have c1:(items.isEmpty || (1:Int)==1)=true:=by rw [Bool.or_eq_true];exact .inr rfl
  wp_walk using wpAny_loadPart' hl
  exact ⟨_,rfl,h⟩
section
variable {X:Cx}
theorem RDs.rep {K:PySem.W.Frag}{H:Hp}{ρ:List Addr}{ds:List D}{vs:List V}(h:RDs K H ρ ds vs):∀ k:Nat,RDs K H ρ (List.replicate k ds).flatten (List.replicate k vs).flatten
 | 0=>.nil
 | k+1=>by
  rw [List.replicate_succ,List.replicate_succ,List.flatten_cons,List.flatten_cons];exact h.append (RDs.rep h k)
theorem bT:OpR X (binaryOp .Mult) (fun x y H Q=>∃ a k xs,x=.ref a/\y=.int k/\SqT X.K H a xs/\xs≠[]/\1 < k/\k<=1000/\xs.length<=1000/\∀ p,H p=none->Q (.ref p) (upd H p (.tup (List.replicate k.toNat xs).flatten))):=by
 rintro pins s σ H x y v u Q I rx ry ⟨a,k,xs,e1,e2,ha,hne,h1,h2,h3,q⟩;subst e1;subst e2;cases rx;obtain ⟨t,rfl⟩:=ry;obtain ⟨its,r1,p1,_⟩:=I.tuple ha;obtain ⟨⟨cls,dd,data,sl⟩,ho,hc,n,hd⟩:=id p1;simp only at hc hd;subst hc hd;have hl:its.length<=1000:=by rw [← r1.length];exact h3
 have hn:its.toArray.isEmpty=false:=by
  cases its with
  | nil=>exact absurd (r1.nil_iff.mp rfl) hne
  | cons b r=>rfl
 have hm:((its.toArray.size:Nat):Int) * k<=1000 * 1000:=by
  rw [List.size_toArray];exact Int.mul_le_mul (by omega) (by omega) (by omega) (by omega)
 have hf:List.foldl (fun x1 x2=>x1++x2) #[] (List.replicate k.toNat its.toArray)=(List.replicate k.toNat its).flatten.toArray:=by
  have:=foldl_rep its k.toNat [];rw [List.nil_append] at this;exact this
 have c0:¬(decide (k < -(2 ^ 63)) || decide (k ≥ 2 ^ 63))=true:=by
  rw [Bool.or_eq_true,decide_eq_true_iff,decide_eq_true_iff];omega
 have c1:¬(its.toArray.isEmpty || k==1)=true:=by
  rw [hn,Bool.false_or,beq_iff_eq];omega
 have c2:¬(decide (k<=0) || its.toArray.isEmpty)=true:=by
  rw [hn,Bool.or_false,decide_eq_true_iff];omega
 have c3:¬(((its.toArray.size:Nat):Int) * k > (2 ^ 63 - 1) / 8):=by omega
 have c4:¬PySem.Builtin.Tuple.tupleTooMany (((its.toArray.size:Nat):Int) * k)=true:=by
  have:(sizeLine:Nat)=16777216:=sizeLine_eq;unfold PySem.Builtin.Tuple.tupleTooMany;rw [decide_eq_true_iff];omega
 have c5:¬(List.foldl (fun x1 x2=>x1++x2) #[] (List.replicate k.toNat its.toArray)).size > sizeLine:=by
  rw [hf,List.size_toArray,len_rep,sizeLine_eq];have:k.toNat * its.length<=1000 * 1000:=Nat.mul_le_mul (by omega) hl;omega
 refine wpAny_binaryOp_repeat_ref (T := "tuple") (U := "int") (by decide) ⟨_,ho,rfl⟩ (fun s'=>PySem.typeIs_int s' k t) My PySem.F.fills_int_mul PySem.F.slot_int_rmul Mz PySem.F.slot_int_index.lookup
  (call_meets PySem.F.slot_int_rmul (PySem.typeIs_int s k t) PySem.F.entry_int_rmul (PySem.F.args_int_rmul_2 _ _) (Rh k t a its.toArray n dd sl)
   ⟨ho,rfl,⟨_,ho,rfl⟩,call_meets PySem.F.slot_tuple_mul ⟨_,ho,rfl⟩ PySem.F.entry_tuple_mul (PySem.F.args_tuple_mul_2 _ _) (iV a its.toArray n dd sl k t c0 c1 c2 c3 c5 c4) ⟨ho,?_⟩⟩)
 rw [hf];refine ⟨.ref s.heap.objs.size,_,I.laid (t':=s.toks) (o:=.tup (List.replicate k.toNat xs).flatten) (fun b ob q=>Heap.get?_push_of_some _ q) (Nat.le_refl _) ?_,rfl,q _ (I.hok.fresh (Nat.le_refl _))⟩;refine ⟨?_,_,r1.rep k.toNat,Nm.new _ _⟩;rw [len_rep,sizeLine_eq];have:k.toNat * xs.length<=1000 * 1000:=Nat.mul_le_mul (by omega) h3;omega
theorem bU:OpR X (binaryOp .Mult) (fun x y H Q=>∃ a xs,x=.ref a/\y=.int 1/\SqT X.K H a xs/\Q (.ref a) H):=by
 rintro pins s σ H x y v u Q I rx ry ⟨a,xs,e1,e2,ha,q⟩;subst e1;subst e2;cases rx;obtain ⟨t,rfl⟩:=ry;obtain ⟨its,r1,p1,_⟩:=I.tuple ha;obtain ⟨⟨cls,dd,data,sl⟩,ho,hc,n,hd⟩:=id p1;simp only at hc hd;subst hc hd
 exact wpAny_binaryOp_repeat_ref (T := "tuple") (U := "int") (by decide) ⟨_,ho,rfl⟩ (fun s'=>PySem.typeIs_int s' 1 t) My PySem.F.fills_int_mul PySem.F.slot_int_rmul Mz PySem.F.slot_int_index.lookup
  (call_meets PySem.F.slot_int_rmul (PySem.typeIs_int s 1 t) PySem.F.entry_int_rmul (PySem.F.args_int_rmul_2 _ _) (Rh 1 t a its.toArray n dd sl)
   ⟨ho,rfl,⟨_,ho,rfl⟩,call_meets PySem.F.slot_tuple_mul ⟨_,ho,rfl⟩ PySem.F.entry_tuple_mul (PySem.F.args_tuple_mul_2 _ _) (iW a its.toArray n dd sl t) ⟨ho,⟨.ref a,H,I,rfl,q⟩⟩⟩)
noncomputable def Aaq:D->D->Option (List D×Int)
 | .tup ds,.int k=>some (ds,k)
 | _,_=>none
theorem bV {x y:D}{z:List D×Int}(h:Aaq x y=some z):x=.tup z.1/\y=.int z.2:=by
 cases x with
 | tup ds =>
  cases y with
  | int k=>cases h;exact ⟨rfl,rfl⟩
  | _=>cases h
 | _=>cases h
noncomputable def Zc (g:D->D->MH->Option (D×MH)):D->D->MH->Option (D×MH):=fun x y mh=>match Aaq x y with
 | some z=>if z.2=1 then some (.tup z.1,mh) else if (z.1.isEmpty=false/\z.1.length<=1000)/\(1 < z.2/\z.2<=1000) then some (.tup (List.replicate z.2.toNat z.1).flatten,mh) else none
 | none=>g x y mh
theorem iY {g:D->D->MH->Option (D×MH)}(h:OpR X (binaryOp .Mult) (rD X.K g)):OpR X (binaryOp .Mult) (rD X.K (Zc g)):=by
 rintro pins s σ H x y v u Q I rx ry ⟨ρ,mh,dx,dy,d,mh',q,rs,r1,r2,co⟩;unfold Zc at q;cases e:Aaq dx dy with
 | none=>rw [e] at q;exact h pins s σ H x y v u Q I rx ry ⟨ρ,mh,dx,dy,d,mh',q,rs,r1,r2,co⟩
 | some z =>
  rw [e] at q;obtain ⟨ds,k⟩:=z;obtain ⟨rfl,rfl⟩:=bV e;have q:(if k=1 then some (D.tup ds,mh) else if (ds.isEmpty=false/\ds.length<=1000)/\(1 < k/\k<=1000) then some (D.tup (List.replicate k.toNat ds).flatten,mh) else none)=some (d,mh'):=q
  by_cases h1:k=1
  ·subst h1;rw [if_pos rfl] at q;cases q;cases r2;cases r1 with
   | tup s1 rr=>exact bU pins s σ H _ _ v u Q I rx ry ⟨_,_,rfl,rfl,s1,co H ρ _ Ev.refl rs (.tup s1 rr)⟩
  rw [if_neg h1] at q
  by_cases hz:(ds.isEmpty=false/\ds.length<=1000)/\(1 < k/\k<=1000)
  ·have q:(if (ds.isEmpty=false/\ds.length<=1000)/\(1 < k/\k<=1000) then some (D.tup (List.replicate k.toNat ds).flatten,mh) else none)=some (d,mh'):=q;rw [if_pos hz] at q;cases q;cases r2;cases r1 with
   | tup s1 rr=>exact bT pins s σ H _ _ v u Q I rx ry ⟨_,_,_,rfl,rfl,s1,fun z=>by
     subst z;cases rr
     exact absurd hz.1.1 (by simp),hz.2.1,hz.2.2,by rw [← rr.length];exact hz.1.2,Co.newT rs (rr.rep _) co⟩
  ·have q:(if (ds.isEmpty=false/\ds.length<=1000)/\(1 < k/\k<=1000) then some (D.tup (List.replicate k.toNat ds).flatten,mh) else none)=some (d,mh'):=q;rw [if_neg hz] at q;cases q
end
section
variable {X:Cx}
noncomputable def wI:D->MH->Option (List D)
 | .ref n,mh=>match mh[n]? with | some (.lst ds)=>some ds | _=>none
 | _,_=>none
theorem W2 {x:D}{mh:MH}{ds:List D}(h:wI x mh=some ds):∃ n,x=.ref n/\mh[n]?=some (.lst ds):=by
 cases x with
 | ref n =>
  have h:(match mh[n]? with | some (.lst ds)=>some ds | _=>none)=some ds:=h;cases e:mh[n]? with
  | none=>rw [e] at h;cases h
  | some o =>
   cases o with
   | lst es=>rw [e] at h;cases h;exact ⟨n,rfl,e⟩
   | dct kvs=>rw [e] at h;cases h
   | plc=>rw [e] at h;cases h
   | plq=>rw [e] at h;cases h
 | _=>cases h
end
section
variable {K:PySem.W.Frag}{H H':Hp}{ρ ρ':List Addr}
end
noncomputable def M4 (x:D) (mh:MH):Option (List (Key×D)):=match x with
 | .ref n=>(match mh[n]? with | some (.dct kvs)=>some kvs | _=>none)
 | _=>none
theorem W3 {x:D}{mh:MH}{kvs:List (Key×D)}(h:M4 x mh=some kvs):∃ n,x=.ref n/\mh[n]?=some (.dct kvs):=by
 cases x with
 | ref n =>
  have h:(match mh[n]? with | some (.dct kvs)=>some kvs | _=>none)=some kvs:=h;split at h
  ·rename_i e;cases h;exact ⟨n,rfl,e⟩
  ·cases h
 | _=>cases h
theorem Ip {n:Nat}{mh:MH}{ds:List D}(h:mh[n]?=some (.lst ds)):M4 (.ref n) mh=none:=by
 show (match mh[n]? with | some (.dct kvs)=>some kvs | _=>none)=none;rw [h]
noncomputable def inD (neg:Bool) (x c:D) (mh:MH):Option (D×MH):=match M4 c mh with
 | none=>Um neg x c mh
 | some _=>none
noncomputable def ixD (x y:D) (mh:MH):Option (D×MH):=match M4 x mh with
 | none=>aY x y mh
 | some _=>none
section
variable {X:Cx}
theorem Aar (hu:X.A.units+64 < cLine):OpR X (compareOp .In) (rD X.K (inD false)):=by
 rintro pins s σ H x y v u Q I rx ry ⟨ρ,mh,dx,dy,d,mh',q,rs,r1,r2,co⟩;unfold inD at q;split at q
 ·exact rT hu pins s σ H x y v u Q I rx ry ⟨ρ,mh,dx,dy,d,mh',q,rs,r1,r2,co⟩
 ·cases q
theorem bW (hu:X.A.units+64 < cLine):OpR X (compareOp .NotIn) (rD X.K (inD true)):=by
 rintro pins s σ H x y v u Q I rx ry ⟨ρ,mh,dx,dy,d,mh',q,rs,r1,r2,co⟩;unfold inD at q;split at q
 ·exact Wn hu pins s σ H x y v u Q I rx ry ⟨ρ,mh,dx,dy,d,mh',q,rs,r1,r2,co⟩
 ·cases q
theorem Agd:IxR X (rD X.K ixD):=by
 rintro value slice pins s σ H x y v u Q I rx ry ⟨ρ,mh,dx,dy,d,mh',q,rs,r1,r2,co⟩ hs;unfold ixD at q;split at q
 ·exact Ael value slice pins s σ H x y v u Q I rx ry ⟨ρ,mh,dx,dy,d,mh',q,rs,r1,r2,co⟩ hs
 ·cases q
noncomputable def Age:Const->Option Str
 | .str x=>some x
 | _=>none
noncomputable def Agf:Expr->Option Str
 | .Constant c _ _=>Age c
 | _=>none
noncomputable def Agg:Option Expr->Option Str
 | some e=>Agf e
 | none=>none
noncomputable def wJ:List (Option Expr)->List Expr->Bool
 | [],[]=>true
 | k::ks,_::vs=>(Agg k).isSome&&wJ ks vs
 | _,_=>false
end
section
variable {X:Cx}{a:Addr}{kvs:List (Str×D)}
variable {e:Expr}{es:List Expr}{x:Str}{p apos cpos:Pos}
end
section
variable {X:Cx}{pos pos':Pos}
end
noncomputable def spL (a:Addr) (fd:FuncData):Sp:=fun vs H Q _=>vs.length=2/\(∃ o u,H a=some (.frz o u)/\o.data=.func fd)/\Nq H fd.code fd.qualname/\∀ t,H t=none->Q (.ref t) (upd H t (.tup vs))
theorem Aas {P:Program}{w:World}{K:PySem.W.Frag}{mg:Str->Option Value}{base:Heap}{a:Addr}{fd:FuncData}(L:Yt fd):∃ x y,FnOk P w K mg base CX0 1 a fd [x,y] (spL a fd)/\∀ u v,bindArgs fd ⟨[u,v],[]⟩=pure [(x,u),(y,v)]:=by
 obtain ⟨name,qual,ps,x,y,p,q,pt,k,sc,pm,cdv,ct,rfl,S,d1,d2,d3,d4,bind⟩:=L;refine ⟨x,y,⟨fun vs H Q E h=>h.1,fun A outer s H args us vs Q E hr e0 hb r hsp=>?_⟩,bind⟩;obtain ⟨hl,⟨o,u,ho,hd⟩,⟨c,oc,u2,fs,tq,e1,e2,e3,e4⟩,hQ⟩:=hsp;have lim:s.heap.NoLimit:=e0.mod.nolimit.keeps fun b o e=>(e0.bs b o e).1
 have hkind:∀ z∈[x,y].zip us,sc.names.lookup z.1=some .local\/(sc.names.lookup z.1=some .cell/\((cellsFrom (s.heap.objs.size+1) sc.names []).lookup z.1).isSome=true):=by
  rintro ⟨n,v⟩ hy;rcases S.par n (List.of_mem_zip hy).1 with q|q
  ·exact .inl q
  ·exact .inr ⟨q,PySem.W.cellsFrom_some _ _ _ (.inl q)⟩
 refine PySem.W.kla_callFunE hr.depth (e0.hok a _ ho).1 hd S.co S.gen rfl ⟨c,oc,fs,tq,e1,(e0.hok c _ e2).1,e3,e4⟩ (hb _ _ _ _ ?_);refine wpAny_newFunctionEnv_cells S.kind hkind fun env he s1 xx=>?_
 subst he;refine ⟨lim.keeps xx.toInCall.keep,PySem.W.kla_codeExpr ?_⟩;have I:Inv (Jt CX0 P w K mg base [x,y] qual sc a cdv A outer s H E) [] (start [x,y] vs) H s1:=Lg S hr.hd e0 hl r xx;have vis:∀ z∈[x,y],Vis sc z:=fun z hz=>(S.par z hz).elim .inl fun h=>.inr (.inl h)
 have pe:PE (Jt CX0 P w K mg base [x,y] qual sc a cdv A outer s H E) (.Tuple [.Name x p,.Name y q] k pt) (Ad5 (dY (xP 0) (dY (xP 1) qT))) :=
  dZ (Dp (Ht rfl (vis x (by simp)) d1 d2) (Dp (Ht rfl (vis y (by simp)) d3 d4) Gx))
 obtain ⟨v1,v2,rfl⟩:∃ v1 v2,vs=[v1,v2]:=by
  match vs,hl with
  | [v1,v2],_=>exact ⟨v1,v2,rfl⟩
 refine wpAny_mono (pe [] s1 _ H Q I ⟨v1,rfl,v2,rfl,by show 2<=sizeLine;decide,hQ⟩) (fun v s' h=>?_) fun e s' h=>h
 obtain ⟨v',H',J,rv,q'⟩:=h;exact ⟨v',H',J.os,J.bare,J.base,J.hok,rv,q'⟩
section
variable {X:Cx}
theorem Sx {a:Addr}{o:Obj}{h:Heap}(e:h.get? a=some o):PySem.W.Frag.In [(a,o)] h:=fun b ob q=>by
 by_cases hb:b=a
 ·subst hb;simp at q;subst q;exact e
 ·have:(b==a)=false:=by simpa using hb
  simp [List.lookup,this] at q
theorem W4 {i:Nat}{x:Str}{p pos:Pos}{e:Expr}{es:List Expr}{t:TA}{E:XK}
  (hr:Room 1 X.A) (hN:X.N[i]?=some x) (hv:Vis X.env.scope x) (hx:Cp CX0 X E)
  (ha:PA X (e::es) t) (hdb:(x==("__debug__":Str))=false) (hcd:(x==("__classdict__":Str))=false) (he:starEach (e::es) X.env=(false,eval e X.env)::starEach es X.env) (hpl:(backTo pos (starEach es X.env)).any (·.1)=false) :
  PE X (.Call (.Name x p) (e::es) [] pos) (fun σ H Q=>∃ a o fd,σ[i]?=some (some (.ref a))/\Yt fd/\o.data=.func fd/\(∃ u,H a=some (.frz o u))/\t σ H fun vs H1=>(∃ u,H1 a=some (.frz o u))/\spL a fd vs H1 Q E):=by
 intro pins s σ H Q I h;obtain ⟨a,o,fd,h3,L,ho,h5,h4⟩:=h;refine wpAny_Call_Name_kw (thn (Ht hN hv hdb hcd pins s σ H (fun v H1=>v=.ref a/\(∃ u,H1 a=some (.frz o u))/\t σ H1 fun vs H1=>(∃ u,H1 a=some (.frz o u))/\spL a fd vs H1 Q E) I ⟨_,h3,rfl,h5,h4⟩) ?_);rintro u s1 ⟨v,H1,I1,rv,rfl,⟨u1,g1⟩,q⟩;cases (show u=Value.ref a from rv);obtain ⟨x1,y1,F,bind⟩:=Aas (P:=X.prog) (w:=X.w) (K:=X.K) (mg:=X.mg) (base:=X.base) (a:=a) L;have hk:PySem.W.keepIn [(a,o)] (.ref a)=true:=by
  obtain ⟨oc,od,dd,sl⟩:=o;cases ho;simp [PySem.W.keepIn]
 refine PySem.W.callWith_K (K:=[(a,o)]) (h₀:=s1.heap) (Sx (I1.hok a _ g1).1) hk (thn (ha pos pins s1 σ H1 _ I1 q) fun us s2 ⟨vs,H2,I2,r,⟨uf,hf⟩,q2⟩=>⟨Sx (I2.hok a _ hf).1,?_⟩) he hpl;refine Js (ds:=[]) (dvs:=[]) F hr ?_ .nil hx I2 r (by rw [List.append_nil];exact q2);intro s us hk hl;obtain ⟨u1,u2,rfl⟩:∃ u1 u2,us=[u1,u2]:=by
  match us,(show us.length=2 by simpa using hl) with
  | [u1,u2],_=>exact ⟨u1,u2,rfl⟩
 exact .of_eq (bind u1 u2)
noncomputable def lamP (ds:List D) (mh:MH):Option (D×MH):=match ds with
 | [a,b]=>some (.tup [a,b],mh)
 | _=>none
theorem W5 {i:Nat}{x:Str}{p pos:Pos}{a:Expr}{es:List Expr}{mr:DM (List D)}{loc:DL.Loc}{mh:MH}
  (hr:Room 1 X.A) (hN:X.N[i]?=some x) (hv:Vis X.env.scope x) (hx:Cp CX0 X E0) (ha:DA X (a::es) mr)
  (hdb:(x==("__debug__":Str))=false) (hcd:(x==("__classdict__":Str))=false) (he:starEach (a::es) X.env=(false,eval a X.env)::starEach es X.env) (hpl:(backTo pos (starEach es X.env)).any (·.1)=false) (el:loc[i]?=some (some .lam)) :
  PE X (.Call (.Name x p) (a::es) [] pos) (tD X.K loc mh ((mr.bnd fun ds=>Zl (lamP ds)) loc mh)):=by
 refine Bm (W4 hr hN hv hx (ha loc mh) hdb hcd he hpl) ?_;rintro σ H Q ⟨ρ,d,mh',q,rl,rs,co⟩;obtain ⟨ds,m1,ea,q⟩:=Ay q;obtain ⟨v,e1,r⟩:=rl.2 i _ el;cases r with
 | @lam ad L =>
  obtain ⟨o,u,fd,h1,h2,h3,h4⟩:=L;refine ⟨ad,o,fd,e1,h3,h2,⟨u,h1⟩,ρ,ds,m1,ea,rl,rs,fun H1 ρ1 vs e1 rs1 r1=>⟨⟨u,e1.frz _ _ _ h1⟩,?_⟩⟩;unfold Zl lamP at q;split at q
  ·rename_i a b;cases q;exact ⟨by rw [← r1.length];rfl,⟨o,u,e1.frz _ _ _ h1,h2⟩,h4.mono e1.frz,Co.newT rs1 r1 (co.ev e1)⟩
  ·cases q
end
noncomputable abbrev W6:=CloI->List D->List D->MH->Option (D×MH)
noncomputable def spC (K:PySem.W.Frag) (a:Addr) (I:CloI) (fd:FuncData) (cl:List (Str×Addr)) (g:List D->List D->MH->Option (D×MH)):Sp:=fun vs H Q _=>vs.length=I.ps.length/\(∃ o u,H a=some (.frz o u)/\o.data=.func fd)/\Nq H fd.code fd.qualname/\cl.map (·.1)=I.fr/\(cl.map (·.2)).Nodup /\
 ∃ xs,Cz H (cl.map (·.2)) xs/\∃ ρ mh fs ds d mh',g fs ds mh=some (d,mh')/\RS K H ρ mh/\RDs K H ρ fs xs/\RDs K H ρ ds vs/\∀ H' ρ' v,Ev K H ρ H' ρ'->RS K H' ρ' mh'->RD K H' ρ' d v->Q v H'
noncomputable def U6 (P:Program) (w:World) (K:PySem.W.Frag) (mg:Str->Option Value) (base:Heap) (k:Nat) (clo:W6):Prop:=(∀ I a fd cl,CloSc I->Yv I fd cl->FnOk P w K mg base CX0 k a fd I.ps (spC K a I fd cl (clo I)))/\∀ I fs ds mh r,clo I fs ds mh=some r->ds.length=I.ps.length
theorem iZ {P:Program}{w:World}{K:PySem.W.Frag}{mg:Str->Option Value}{base:Heap}{k:Nat}:U6 P w K mg base k (fun _ _ _ _=>none) :=
 ⟨fun I a fd cl _ _=>⟨fun vs H Q E h=>h.1,fun A outer s H args us vs Q E _ _ _ _ h=>by
  obtain ⟨_,_,_,_,_,_,_,_,_,_,_,_,_,q,_⟩:=h
  cases q⟩,fun I fs ds mh r h=>by cases h⟩
section
variable {X:Cx}
theorem W7 {k i:Nat}{clo:W6}{x:Str}{p pos:Pos}{e:Expr}{es:List Expr}{t:TA}{E:XK}
  (F:U6 X.prog X.w X.K X.mg X.base k clo) (hr:Room k X.A) (hN:X.N[i]?=some x) (hv:Vis X.env.scope x) (hx:Cp CX0 X E)
  (ha:PA X (e::es) t) (hdb:(x==("__debug__":Str))=false) (hcd:(x==("__classdict__":Str))=false) (he:starEach (e::es) X.env=(false,eval e X.env)::starEach es X.env) (hpl:(backTo pos (starEach es X.env)).any (·.1)=false) :
  PE X (.Call (.Name x p) (e::es) [] pos) (fun σ H Q=>∃ a o fd cl I,σ[i]?=some (some (.ref a))/\CloSc I/\Yv I fd cl/\o.data=.func fd/\(∃ u,H a=some (.frz o u))/\t σ H fun vs H1=>(∃ u,H1 a=some (.frz o u))/\spC X.K a I fd cl (clo I) vs H1 Q E):=by
 intro pins s σ H Q I h;obtain ⟨a,o,fd,cl,ci,h3,L1,L2,ho,h5,h4⟩:=h;refine wpAny_Call_Name_kw (thn (Ht hN hv hdb hcd pins s σ H (fun v H1=>v=.ref a/\(∃ u,H1 a=some (.frz o u))/\t σ H1 fun vs H1=>(∃ u,H1 a=some (.frz o u))/\spC X.K a ci fd cl (clo ci) vs H1 Q E) I ⟨_,h3,rfl,h5,h4⟩) ?_);rintro u s1 ⟨v,H1,I1,rv,rfl,⟨u1,g1⟩,q⟩;cases (show u=Value.ref a from rv);have hk:PySem.W.keepIn [(a,o)] (.ref a)=true:=by
  obtain ⟨oc,od,dd,sl⟩:=o;cases ho;simp [PySem.W.keepIn]
 refine PySem.W.callWith_K (K:=[(a,o)]) (h₀:=s1.heap) (Sx (I1.hok a _ g1).1) hk (thn (ha pos pins s1 σ H1 _ I1 q) fun us s2 ⟨vs,H2,I2,r,⟨uf,hf⟩,q2⟩=>⟨Sx (I2.hok a _ hf).1,?_⟩) he hpl;refine Js (ds:=[]) (dvs:=[]) (F.1 ci a fd cl L1 L2) hr ?_ .nil hx I2 r (by rw [List.append_nil];exact q2);intro s us hk hl;obtain ⟨name,qual,params,doc,pm,cdv,ctv,rfl,bind⟩:=L2;rw [List.append_nil] at hl ⊢;exact .of_eq (bind us hl)
theorem W8 {k i:Nat}{clo:W6}{ci:CloI}{fs:List D}{x:Str}{p pos:Pos}{a:Expr}{es:List Expr}{mr:DM (List D)}{loc:DL.Loc}{mh:MH}
  (F:U6 X.prog X.w X.K X.mg X.base k clo) (hr:Room k X.A) (hN:X.N[i]?=some x) (hv:Vis X.env.scope x) (hx:Cp CX0 X E0) (ha:DA X (a::es) mr)
  (hdb:(x==("__debug__":Str))=false) (hcd:(x==("__classdict__":Str))=false) (he:starEach (a::es) X.env=(false,eval a X.env)::starEach es X.env) (hpl:(backTo pos (starEach es X.env)).any (·.1)=false) (el:loc[i]?=some (some (.clo ci fs))) :
  PE X (.Call (.Name x p) (a::es) [] pos) (tD X.K loc mh ((mr.bnd fun ds=>Zl (clo ci fs ds)) loc mh)):=by
 refine Bm (W7 F hr hN hv hx (ha loc mh) hdb hcd he hpl) ?_;rintro σ H Q ⟨ρ,d,mh',q,rl,rs,co⟩;obtain ⟨ds,m1,ea,q⟩:=Ay q;obtain ⟨v,e1,r⟩:=rl.2 i _ el;cases r with
 | @clo _ _ ad xs L rf =>
  obtain ⟨o,u,fd,cl,h1,h2,h3,h4,h5,h6,h7,h8⟩:=L;refine ⟨ad,o,fd,cl,ci,e1,h3,h4,h2,⟨u,h1⟩,ρ,ds,m1,ea,rl,rs,fun H1 ρ1 vs e1 rs1 r1=>⟨⟨u,e1.frz _ _ _ h1⟩,?_⟩⟩;exact ⟨by rw [← r1.length];exact F.2 _ _ _ _ _ q,⟨o,u,e1.frz _ _ _ h1,h2⟩,h5.mono e1.frz,h6,h7,xs,h8.mono e1.frz,ρ1,m1,fs,ds,d,mh',q,rs1,rf.mono e1,r1,co.ev e1⟩
end
section
variable {X:Cx}
theorem jC {CX:CXT}{k i:Nat}{fa:Addr}{fd:FuncData}{ps:List Str}{sp:Sp}{ds:List Value}{dvs:List V}{x:Str}{p pos:Pos}{e:Expr}{es:List Expr}{t:TA}{E:XK}
  (F:FnOk X.prog X.w X.K X.mg X.base CX k fa fd ps sp) (hr:Room k X.A) (hN:X.N[i]?=some x) (hv:Vis X.env.scope x) (hk:PySem.W.keepIn X.K (.ref fa)=true) (hb:Binds X.K fd ps ds) (hd:Vals dvs ds) (hx:Cp CX X E)
  (ha:PA X (e::es) t) (hdb:(x==("__debug__":Str))=false) (hcd:(x==("__classdict__":Str))=false) (he:starEach (e::es) X.env=(false,eval e X.env)::starEach es X.env) (hpl:(backTo pos (starEach es X.env)).any (·.1)=false) :
  PE X (.Call (.Name x p) (e::es) [] pos) (fun σ H Q=>∃ y a,PySem.W.nsIn X.K mainGlobals y=some (some (.ref a))/\X.mg y=some (.ref fa)/\σ[i]?=some (some (.ref a))/\Yp sp dvs E t σ H Q):=by
 intro pins s σ H Q I h;obtain ⟨y,a,h1,h2,h3,h4⟩:=h;have e1:=PySem.W.mg_of I.kIn (I.mod.glob.keeps I.bk) h1;rw [h2] at e1;cases e1;refine wpAny_Call_Name_kw (thn (Ht hN hv hdb hcd pins s σ H (fun v H1=>v=.ref fa/\Yp sp dvs E t σ H1 Q) I ⟨_,h3,rfl,h4⟩) ?_);rintro u s1 ⟨v,H1,I1,rv,rfl,q⟩;cases (show u=Value.ref fa from rv);refine PySem.W.callWith_K (h₀:=X.base) I1.ok.mod.kin hk (thn (ha pos pins s1 σ H1 _ I1 q) fun us s2 ⟨vs,H2,I2,r,q2⟩=>⟨I2.kIn,?_⟩) he hpl;exact Js F hr hb hd hx I2 r q2
noncomputable def Ri (cal:Str->Option (List Str×Fn)) (clo:W6) (i:Nat) (mr:DM (List D)):DM D:=fun loc mh=>match loc[i]? with
 | some (some (.fn y))=>(match cal y with
  | some (_,g)=>(mr.bnd fun ds=>Zl (g ds)) loc mh
  | none=>none)
 | some (some .lam)=>(mr.bnd fun ds=>Zl (lamP ds)) loc mh
 | some (some (.clo I fs))=>(mr.bnd fun ds=>Zl (clo I fs ds)) loc mh
 | _=>none
theorem jD {cal:Str->Option (List Str×Fn)}{clo:W6}{k i:Nat}{x:Str}{p pos:Pos}{a:Expr}{es:List Expr}{mr:DM (List D)}(k1:1<=k)
  (hc:∀ y ps f,cal y=some (ps,f)->∃ fa fd,X.mg y=some (.ref fa)/\PySem.W.keepIn X.K (.ref fa)=true/\Binds X.K fd ps []/\FnOk X.prog X.w X.K X.mg X.base CX0 k fa fd ps (spD X.K ps.length f)/\∀ ds mh r,f ds mh=some r->ds.length=ps.length)
  (hcl:U6 X.prog X.w X.K X.mg X.base k clo) (hr:Room k X.A) (hN:X.N[i]?=some x) (hv:Vis X.env.scope x) (hx:Cp CX0 X E0) (ha:DA X (a::es) mr)
  (hdb:(x==("__debug__":Str))=false) (hcd:(x==("__classdict__":Str))=false) (he:starEach (a::es) X.env=(false,eval a X.env)::starEach es X.env) (hpl:(backTo pos (starEach es X.env)).any (·.1)=false) :
  DE X (.Call (.Name x p) (a::es) [] pos) (Ri cal clo i mr):=fun loc mh=>by
 unfold Ri;split
 ·rename_i y el;split
  ·rename_i ps f ec;obtain ⟨fa,fd,h1,h2,h3,h4,h5⟩:=hc y ps f ec;refine Bm (jC h4 hr hN hv h2 h3 .nil hx (ha loc mh) hdb hcd he hpl) ?_;rintro σ H Q ⟨ρ,d,mh',q,rl,rs,co⟩;obtain ⟨ds,m1,ea,q⟩:=Ay q;obtain ⟨v,e1,r⟩:=rl.2 i _ el;cases r with
   | @fn _ ad hn =>
    refine ⟨y,ad,hn,h1,e1,ρ,ds,m1,ea,rl,rs,fun H1 ρ1 vs e1 rs1 r1=>?_⟩;show spD X.K ps.length f (vs++[]) H1 Q E0;rw [List.append_nil];exact ⟨by rw [← r1.length];exact h5 _ _ _ q,ρ1,m1,ds,d,mh',q,rs1,r1,co.ev e1⟩
  ·exact Bo
 ·rename_i el;exact W5 (hr.mono k1) hN hv hx ha hdb hcd he hpl el
 ·rename_i I fs el;exact W8 hcl hr hN hv hx ha hdb hcd he hpl el
 ·exact Bo
noncomputable def Zd (g:D->D->MH->Option (D×MH)):D->D->MH->Option (D×MH):=fun x y mh=>match wI x mh with
 | some ds=>(match y with
  | .int k=>if (-(2 ^ 62)<=k/\k < 2 ^ 62)/\ds.length * k.toNat<=1000000 then some (.ref mh.length,mh++[.lst (List.replicate k.toNat ds).flatten]) else none
  | _=>none)
 | none=>g x y mh
theorem jE {g:D->D->MH->Option (D×MH)}(h:OpR X (binaryOp .Mult) (rD X.K g)):OpR X (binaryOp .Mult) (rD X.K (Zd g)):=by
 rintro pins s σ H x y v u Q I rx ry ⟨ρ,mh,dx,dy,d,mh',q,rs,r1,r2,co⟩;unfold Zd at q;split at q
 ·rename_i ds e;obtain ⟨n,rfl,en⟩:=W2 e;split at q
  ·rename_i k;split at q
   ·rename_i hk;cases q;cases r2;cases r1 with
    | @ref _ a ha =>
     obtain ⟨a',ha',xs,hl,rr⟩:=rs.at en;rw [ha] at ha';cases ha';refine zO pins s σ H _ _ v u Q I rx ry ⟨a,k,xs,rfl,rfl,hl,by omega,by omega,by rw [← rr.length,sizeLine_eq];omega,Co.newL rs (rr.rep _) co⟩
   ·cases q
  ·cases q
 ·exact h pins s σ H x y v u Q I rx ry ⟨ρ,mh,dx,dy,d,mh',q,rs,r1,r2,co⟩
end
theorem jF {X:Cx}:OpR X (binaryOp .FloorDiv) (rI (fun _ j=>j≠0/\j.natAbs < 10889035741470030830827987437816582766592) fun i j=>.int (i.fdiv j)):=opI fun _ j _ _ _ _ _ hc q=>floordiv_int hc.1 q (.inl (PyProof.noPylong_of_log2 (by
 have h:j.natAbs < 2 ^ 133:=hc.2
 by_cases h0:j.natAbs=0
 ·rw [h0];decide +kernel
 ·have h60:j.natAbs.log2 < 133:=(Nat.log2_lt h0).mpr h
  omega)))
structure SC where
 N:List Str
 scope:Scope
 own:Str->Bool
structure Gb where
 cal:Str->Option (List Str×Fn)
 con:Str->Option D
 dic:Str->Option (List (Str×D))
 fld:Str->Str->Bool
 met:Str->Str->Option (List Str×Fn)
 mkr:Str->Option Str
 clo:W6:=fun _ _ _ _=>none
noncomputable def slot (N:List Str) (x:Str):Option Nat:=N.findIdx? (fun y=>y==x)
noncomputable def jG (sc:Scope) (x:Str):Bool:=match sc.names.lookup x with
 | some .local=>true
 | some .cell=>true
 | some .free=>true
 | _=>false
noncomputable def bY (sc:Scope) (x:Str):Bool:=match sc.names.lookup x with
 | some .local=>true
 | some .cell=>true
 | _=>false
noncomputable def glB (sc:Scope) (x:Str):Bool:=match sc.names.lookup x with
 | some .globalImplicit=>true
 | _=>false
noncomputable def U7 (i j:Int):Bool:=decide (-(2 ^ 64) < i/\i < 2 ^ 64) || decide (-(2 ^ 64) < j/\j < 2 ^ 64)
noncomputable def Aes:Operator->Option (D->D->MH->Option (D×MH))
 | .Add=>some Cd
 | .Sub=>some (iop (fun _ _=>true) fun i j=>i - j)
 | .Mult=>some (Zc (Zd (iop U7 fun i j=>i * j)))
 | .FloorDiv=>some (iop (fun _ j=>decide (j≠0)&&decide (j.natAbs < 10889035741470030830827987437816582766592)) fun i j=>i.fdiv j)
 | .Mod=>some (iop (fun _ j=>decide (j≠0)) fun i j=>i.fmod j)
 | .Pow=>some (iop (fun i j=>decide (0<=j)&&(decide (j<=1000000)&&decide (i.natAbs < 2 ^ 64))) fun i j=>i ^ j.toNat)
 | .LShift=>some (iop (fun i j=>decide (0<=j)&&(decide (j<=1000000)&&decide (i.natAbs < 2 ^ 64))) fun i j=>i * 2 ^ j.toNat)
 | .RShift=>some (iop (fun _ j=>decide (0<=j)) fun i j=>i / 2 ^ j.toNat)
 | .BitAnd=>some (iop (fun _ _=>true) Builtin.bitAnd)
 | .BitOr=>some (iop (fun _ _=>true) Builtin.bitOr)
 | _=>none
noncomputable def O8:CmpOp->(D->D->MH->Option (D×MH))
 | .Eq=>eqD
 | .NotEq=>neD
 | .Lt=>Ql fun i j=>decide (i < j)
 | .LtE=>Ql fun i j=>decide (i<=j)
 | .Gt=>Ql fun i j=>decide (j < i)
 | .GtE=>Ql fun i j=>decide (j<=i)
 | .Is=>isD false
 | .IsNot=>isD true
 | .In=>inD false
 | .NotIn=>inD true
theorem tU {X:Cx}{op:Operator}{f:D->D->MH->Option (D×MH)}(h:Aes op=some f):OpR X (binaryOp op) (rD X.K f):=by
 cases op <;> (try cases h)
 ·exact rW
 ·exact Sh yQ
 ·refine iY (jE (Ju yR fun i j h=>?_));unfold U7 at h;rw [Bool.or_eq_true,decide_eq_true_iff,decide_eq_true_iff] at h;exact h
 ·exact Ju qN fun i j h=>of_decide_eq_true h
 ·refine Ju yS fun i j h=>?_
  rw [Bool.and_eq_true,Bool.and_eq_true,decide_eq_true_iff,decide_eq_true_iff,decide_eq_true_iff] at h;exact ⟨h.1,h.2.1,h.2.2⟩
 ·refine Ju yU fun i j h=>?_
  rw [Bool.and_eq_true,Bool.and_eq_true,decide_eq_true_iff,decide_eq_true_iff,decide_eq_true_iff] at h;exact ⟨h.1,h.2.1,h.2.2⟩
 ·exact Ju yV fun i j h=>of_decide_eq_true h
 ·exact Sh Ad0
 ·exact Sh yW
 ·refine Ju jF fun i j h=>?_
  rw [Bool.and_eq_true,decide_eq_true_iff,decide_eq_true_iff] at h;exact ⟨h.1,h.2⟩
theorem Gr {X:Cx}(hu:X.A.units+64 < cLine) (op:CmpOp):OpR X (compareOp op) (rD X.K (O8 op)):=by
 cases op
 ·exact Aaa hu
 ·exact Aab hu
 ·exact N6 Ad1
 ·exact N6 Ad2
 ·exact N6 Ad3
 ·exact N6 Ad4
 ·exact Aac
 ·exact aX
 ·exact Aar hu
 ·exact bW hu
noncomputable def isStar:Expr->Bool
 | .Starred ..=>true
 | _=>false
noncomputable def isSet:Expr->Bool
 | .Set ..=>true
 | _=>false
noncomputable def Ir:Expr->Bool
 | .ListComp ..=>true
 | .SetComp ..=>true
 | .DictComp ..=>true
 | _=>false
noncomputable def isSlice:Expr->Bool
 | .Slice ..=>true
 | _=>false
noncomputable def baseOk:Expr->Bool
 | .Call (.Name ..) [] [] _=>false
 | _=>true
noncomputable def tyOf (c:Str):Option String :=
 if c == "int" then some "int" else if c == "bool" then some "bool" else if c == "str" then some "str" else if c == "tuple" then some "tuple" else if c == "list" then some "list" else if c == "dict" then some "dict" else none
noncomputable def bZ:Fn:=fun _ _=>none
noncomputable def Sy (_:D) (_:List D) (_:MH):Option (D×MH):=none
theorem Kv {X:Cx}{f:Value}:Ca X f (rDs X.K bZ):=by
 rintro _ _ _ _ _ _ _ _ _ ⟨_,_,_,_,_,e,_⟩;cases e
theorem M5 {X:Cx}{id:String}:MtR X id (rDM X.K Sy):=by
 rintro _ _ _ _ _ _ _ _ _ _ _ _ ⟨_,_,_,_,_,_,e,_⟩;cases e
noncomputable def jH (x:Str):Option Fn:=if x=="len" then some Dr else if x=="list" then some Uo else if x=="tuple" then some Gz else if x=="all" then some sZ else if x=="any" then some bZ else if x=="max" then some bZ else if x=="min" then some wH else if x=="int" then some bZ else if x=="sorted" then some bZ else if x=="sum" then some bZ else none
noncomputable def Lk (m:Str) (n:Nat):Option (String×(D->List D->MH->Option (D×MH))) :=
 if m == "append"&&n==1 then some ("list",Ck) else if m == "bit_length"&&n==0 then some ("int",gP) else if m == "pop"&&n==1 then some ("list",Sy) else if m == "pop"&&n==0 then some ("list",Sy) else if m == "extend"&&n==1 then some ("list",Sy) else if m == "index"&&n==1 then some ("tuple",Sy) else none
noncomputable def Et:Expr->Bool
 | .Tuple ..=>true
 | _=>false
noncomputable def setArg (_:Expr) (_:List Expr):Option Expr:=none
noncomputable def W9:Expr->List Expr->Option Expr
 | .Call (.Name g _) [b] [] _,[]=>if g == "range"&&!isStar b then some b else none
 | _,_=>none
noncomputable def Aat (_:Expr) (_:List Expr):Option (Expr×Expr):=none
noncomputable def Ze (_:SC) (_:Expr) (_:CmpOp) (_:Expr):Option (Nat×Nat):=none
noncomputable def Dn (scope:Scope):List Str:=(scope.names.filter fun p=>(match p.2 with | .local=>true | .cell=>true | .free=>true | _=>false)).map (·.1)
noncomputable def O9 (N:List Str) (scope:Scope):List (Option Nat):=(Dn scope).map fun x=>match scope.names.lookup x with
 | some .free=>slot N x
 | _=>none
noncomputable def Kw (scope outer:Scope):Scope:={ scope with names:=scope.names.map fun (n,k)=>if (k==.free&&outer.kind==.function&&outer.names.lookup n==some .cell) then (n,.cell) else (n,k) }
noncomputable def S5 (scope:Scope) (sc:SC):SC:={ N:=Dn scope,scope:=Kw scope sc.scope,own:=fun x=>bY scope x }
noncomputable def N8 (scope:Scope) (sc:SC):Bool :=
 (match scope.kind with | .function=>true | _=>false)&&(decide ((scope.names.map (·.1)).Nodup) &&
  scope.names.all fun p=>(match p.2 with | .free=>(match sc.scope.names.lookup p.1 with | some .cell=>true | some .free=>true | _=>false) | _=>true))
noncomputable def U8 (G:Gb) (sc:SC):Expr->Option (List (Str×D))
 | _=>none
noncomputable def jJ (G:Gb) (sc:SC) (op:CmpOp) (b:Expr):Option (Bool×List (Str×D)):=match op with
 | .In=>(match U8 G sc b with | some kvs=>some (false,kvs) | none=>none)
 | .NotIn=>(match U8 G sc b with | some kvs=>some (true,kvs) | none=>none)
 | _=>none
noncomputable def wK (G:Gb) (f:Str):List Expr->Option Str
 | []=>G.mkr f
 | _=>none
noncomputable def iGn (sc:SC) (x:Str):Option Nat:=if bY sc.scope x&&sc.own x then slot sc.N x else none
noncomputable def iGs (sc:SC):List Expr->Option (List Nat)
 | []=>some []
 | .Name x _::r=>match iGn sc x with
  | some i=>match iGs sc r with
   | some is=>some (i::is)
   | none=>none
  | none=>none
 | _=>none
noncomputable def iG (sc:SC):Expr->Option (List Nat×GM)
 | .Name x _=>match iGn sc x with | some i=>some ([i],Bb i) | none=>none
 | .Tuple es _ _=>match iGs sc es with | some is=>some (is,Ow is) | none=>none
 | _=>none
noncomputable def Aau:Option Str->Bool
 | some n=>n == "default"
 | none=>false
noncomputable def tV:Expr->Bool
 | .Constant .none _ _=>true
 | _=>false
noncomputable def Xa (k:Keyword):Bool:=Aau k.arg&&tV k.value
theorem U9 {k:Keyword}(h:Xa k=true):∃ j cp kp,k=⟨some "default",.Constant .none j cp,kp⟩:=by
 obtain ⟨n,v,p⟩:=k;unfold Xa at h;rw [Bool.and_eq_true] at h;obtain ⟨h1,h2⟩:=h;cases n with
 | none=>cases h1
 | some n =>
  have e:n = "default":=eq_of_beq h1
  subst e;cases v with
  | Constant c j cp =>
   cases c with
   | none=>exact ⟨_,_,_,rfl⟩
   | _=>cases h2
  | _=>cases h2
noncomputable def iEb (E:SC->Expr->DM D) (T:SC->Expr->DM Bool) (A:SC->List Expr->DM (List D)) (F:SC->List Expr->DM Bool) (I:SC->Expr->Expr->DM Src) (G:Gb) (sc:SC) (e:Expr):DM D:=match e with
 | .Constant (.int i) _ _=>Zr (.int i)
 | .Constant (.bool b) _ _=>Zr (.bl b)
 | .Constant .none _ _=>Zr .non
 | .Constant (.str x) _ _=>Zr (.str x)
 | .Name x _=>if jG sc.scope x&&!(x == "__debug__")&&!(x == "__classdict__") then (match slot sc.N x with
   | some i=>fun loc mh=>match loc[i]? with | some (some d)=>some (d,mh) | _=>none
   | none=>Zb) else if glB sc.scope x&&!(x == "__debug__") then (match G.con x with | some d=>Zr d | none=>Zb) else Zb
 | .BinOp a op b _=>(match Aes op with | some f=>dop f (E sc a) (E sc b) | none=>Zb)
 | .UnaryOp .USub a _=>(E sc a).bnd fun x=>Zl (Aak x)
 | .UnaryOp .Not a _=>(Aj (E sc a)).bnd fun c=>Zr (.bl (!c))
 | .BoolOp op [a] _=>E sc a
 | .BoolOp .And (a::b::r) p=>Gq (E sc a) (E sc (.BoolOp .And (b::r) p))
 | .BoolOp .Or (a::b::r) p=>fM (E sc a) (E sc (.BoolOp .Or (b::r) p))
 | .Compare a [op] [b] _=>(match Ze sc a op b with
  | some (i,j)=>gZ (fun loc mh=>match loc[i]? with | some (some d)=>some (d,mh) | _=>none) (fun loc mh=>match loc[j]? with | some (some d)=>some (d,mh) | _=>none)
  | none=>match jJ G sc op b with
   | some (neg,kvs)=>Zb
   | none=>if isSet b then Zb else dop (O8 op) (E sc a) (E sc b))
 | .Compare a [op,op'] [b,c] _=>if isSet c then Zb else G4 (O8 op) (O8 op') (E sc a) (E sc b) (E sc c)
 | .IfExp c a b _=>dIf (T sc c) (E sc a) (E sc b)
 | .Tuple es _ _=>(A sc es).bnd fun ds=>Zl (Q5 ds)
 | .List es _=>(A sc es).bnd fun ds=>Zl (Q6 ds)
 | .Dict ks vs _=>if wJ ks vs&&!ks.isEmpty&&decide (ks.length<=15) then Zb else Zb
 | .Subscript a (.Slice lo hi none _) _=>dSl (E sc a) (match lo with | some e=>some (E sc e) | none=>none) (match hi with | some e=>some (E sc e) | none=>none)
 | .Subscript a b _=>if isSlice b then Zb else (match U8 G sc a with | some kvs=>Zb | none=>dop ixD (E sc a) (E sc b))
 | .Attribute o f _=>if baseOk o then Jl G.fld f (E sc o) else Zb
 | .Call (.Name f _) [] [] _=>if glB sc.scope f&&!(f == "__debug__") then (match G.cal f with | some ([],g)=>Zl (g []) | _=>Zb) else Zb
 | .Call (.Name f _) (a::es) [] _=>if jG sc.scope f&&!(f == "__debug__")&&!(f == "__classdict__")&&!(isStar a)&&es.all (fun e=>!isStar e) then (match slot sc.N f with | some i=>Ri G.cal G.clo i (A sc (a::es)) | none=>Zb) else if glB sc.scope f&&!(f == "__debug__")&&!(f == "__name__")&&!(isStar a)&&es.all (fun e=>!isStar e) then
   (match G.cal f with
   | some (_,g)=>(A sc (a::es)).bnd fun ds=>Zl (g ds)
   | none=>match wK G f es with
    | some fl=>(E sc a).bnd fun d=>Zr (.obj f [fl] [d])
    | none=>match setArg a es with
    | some b=>if glB sc.scope "set" then (if f == "len" then (E sc b).bnd (fun x=>Zl (sY x)) else if f == "sorted" then (E sc b).bnd (fun x=>Zl (bQ x)) else Zb) else Zb
    | none=>match Aat a es with
    | some (b,c)=>if glB sc.scope "zip"&&f == "list" then (A sc [b,c]).bnd (fun ds=>Zl (iH ds)) else if glB sc.scope "zip"&&f == "sorted" then (A sc [b,c]).bnd (fun ds=>Zl (iJ ds)) else Zb
    | none=>match W9 a es with
    | some b=>if glB sc.scope "range" then (if f == "list" then (E sc b).bnd (fun x=>Zl (Er x)) else if f == "tuple" then (E sc b).bnd (fun x=>Zl (N7 x)) else Zb) else Zb
    | none=>if f == "isinstance" then (match es with
    | [.Name c _]=>if glB sc.scope c&&!(c == "__debug__")&&!(c == "__name__") then (match tyOf c with | some ty=>(E sc a).bnd fun x=>Zl (Uv ty x) | none=>Zb) else Zb
    | _=>Zb) else match jH f with
     | some g=>(A sc (a::es)).bnd fun ds=>Zl (g ds)
     | none=>Zb) else Zb
 | .Call (.Name f _) [a] (kw::ks) _=>if glB sc.scope f&&!(isStar a)&&Xa kw&&ks.isEmpty then (if f == "max" then Zb else if f == "min" then Zb else Zb) else Zb
 | .Call (.Attribute o m ap) [] [] p=>if baseOk o&&(ap.endLine==p.line) then (match Lk m 0 with | some (ty,f)=>Cw ty f (E sc o) (Zr []) | none=>Gg G.met m (E sc o) (Zr [])) else Zb
 | .Call (.Attribute o m ap) (a::es) [] p=>if baseOk o&&(ap.endLine==p.line)&&!(isStar a)&&es.all (fun e=>!isStar e)&&decide ((a::es).length < 20) then (if m == "get" then (match U8 G sc o with | some kvs=>Zb | none=>Zb) else if m == "count"&&es.isEmpty then Y8 "tuple" Sy "list" Sy (E sc o) (A sc (a::es)) else if m == "index"&&es.isEmpty then Y8 "tuple" Sy "list" Sy (E sc o) (A sc (a::es)) else (match Lk m (a::es).length with | some (ty,f)=>Cw ty f (E sc o) (A sc (a::es)) | none=>Gg G.met m (E sc o) (A sc (a::es)))) else Zb
 | .ListComp elt [⟨tg,iter,ifs,k⟩] scope _=>if k==0&&N8 scope sc&&!(isSet iter) then (match iG (S5 scope sc) tg with
   | some (ws,g)=>if ws.all (fun i=>match (O9 sc.N scope)[i]? with | some (some _)=>false | _=>true) then Dk (I sc tg iter) (O9 sc.N scope) g (F (S5 scope sc) ifs) (E (S5 scope sc) elt) else Zb
   | none=>Zb) else Zb
 | _=>Zb
noncomputable def iTb (E:SC->Expr->DM D) (T:SC->Expr->DM Bool) (A:SC->List Expr->DM (List D)) (F:SC->List Expr->DM Bool) (I:SC->Expr->Expr->DM Src) (G:Gb) (sc:SC) (e:Expr):DM Bool:=match e with
 | .UnaryOp .Not a _=>Hw (T sc a)
 | .BoolOp op [a] _=>T sc a
 | .BoolOp .And (a::b::r) p=>Hq (T sc a) (T sc (.BoolOp .And (b::r) p))
 | .BoolOp .Or (a::b::r) p=>Km (T sc a) (T sc (.BoolOp .Or (b::r) p))
 | .BoolOp _ [] _=>Zb
 | .IfExp ..=>Zb
 | .Compare a [op] [b] _=>(match jJ G sc op b with
  | some (neg,kvs)=>Zb
  | none=>if isSet b then Zb else Aj (dop (O8 op) (E sc a) (E sc b)))
 | .Compare a [op,op'] [b,c] _=>if isSet c then Zb else Aj (G4 (O8 op) (O8 op') (E sc a) (E sc b) (E sc c))
 | .Compare ..=>Zb
 | e=>Hr (E sc e)
noncomputable def iIb (E:SC->Expr->DM D) (T:SC->Expr->DM Bool) (A:SC->List Expr->DM (List D)) (F:SC->List Expr->DM Bool) (I:SC->Expr->Expr->DM Src) (G:Gb) (sc:SC) (tg e:Expr):DM Src:=match e with
 | .Call (.Name f p) [a] [] p'=>if f == "range"&&glB sc.scope f then (if isStar a then Zb else Nr Jv (A sc [a])) else if f == "enumerate"&&glB sc.scope f then (if isStar a || !(Et tg) then Zb else Jk (E sc a)) else Ec (E sc (.Call (.Name f p) [a] [] p'))
 | .Call (.Name f p) [a,b] [] p'=>if f == "range"&&glB sc.scope f then (if isStar a || isStar b then Zb else Zb) else if f == "zip"&&glB sc.scope f then (if isStar a || isStar b || !(Et tg) then Zb else Zb) else Ec (E sc (.Call (.Name f p) [a,b] [] p'))
 | .Call (.Name f p) [a,b,c] [] p'=>if f == "range"&&glB sc.scope f then (if isStar a || isStar b || isStar c then Zb else Zb) else Ec (E sc (.Call (.Name f p) [a,b,c] [] p'))
 | e=>Ec (E sc e)
mutual
noncomputable def iE (G:Gb):Nat->SC->Expr->DM D
 | 0,_,_=>Zb
 | n+1,sc,e=>iEb (iE G n) (iT G n) (iA G n) (iF G n) (iI G n) G sc e
termination_by structural n=>n
noncomputable def iT (G:Gb):Nat->SC->Expr->DM Bool
 | 0,_,_=>Zb
 | n+1,sc,e=>iTb (iE G n) (iT G n) (iA G n) (iF G n) (iI G n) G sc e
termination_by structural n=>n
noncomputable def iA (G:Gb):Nat->SC->List Expr->DM (List D)
 | 0,_,_=>Zb
 | n+1,sc,es=>match es with
  | []=>Zr []
  | a::r=>if isStar a then Zb else Aa (iE G n sc a) (iA G n sc r)
termination_by structural n=>n
noncomputable def iF (G:Gb):Nat->SC->List Expr->DM Bool
 | 0,_,_=>Zb
 | n+1,sc,es=>match es with
  | []=>Zr true
  | [c]=>iT G n sc c
  | _=>Zb
termination_by structural n=>n
noncomputable def iI (G:Gb):Nat->SC->Expr->Expr->DM Src
 | 0,_,_,_=>Zb
 | n+1,sc,tg,e=>iIb (iE G n) (iT G n) (iA G n) (iF G n) (iI G n) G sc tg e
termination_by structural n=>n
end
noncomputable def Aet (sc:SC) (x:Str) (px:Pos) (y:Str) (py:Pos) (a b:Expr):Bool :=
 ((if sc.scope.kind.isAnnotationScope then ScopeKind.function else sc.scope.kind)==.function)&&(sc.scope.names.lookup x==some .local)&&(sc.scope.names.lookup y==some .local)&&(py.line==px.line)&&!(x==y)&&!isStar a&&!isStar b&&!([a,b].all (foldedForSure 8))&&!([a,b].all (constantsAlone 8))
noncomputable def Aav (mr:DM (List D)) (i j:Nat):SM:=fun loc mh=>match mr loc mh with
 | some ([d,e],h)=>some (.nx,(loc.set i (some d)).set j (some e),h)
 | _=>none
noncomputable def iGt (G:Gb) (n:Nat) (sc:SC) (tg:Expr):Option GM:=match tg with
 | .Subscript o i _=>if isSlice i then none else some (gD (iE G n sc o) (iE G n sc i))
 | tg=>match iG sc tg with | some (_,g)=>some g | none=>none
noncomputable def Aaw (n:Nat) (G:Gb) (sc:SC) (tg v:Expr):SM:=match tg,v with
 | .Name y py,.ListComp elt gens scope vp=>(match iG sc (.Name y py) with | some (_,g)=>Bd (iE G n sc (.ListComp elt gens scope vp)) g | none=>SM.bad)
 | .Tuple [.Name x px,.Name y py] _ _,.Tuple [a,b] _ _=>if Aet sc x px y py a b then (match slot sc.N x,slot sc.N y with | some i,some j=>Aav (iA G n sc [a,b]) i j | _,_=>SM.bad) else SM.bad
 | tg,v=>if Ir v || (Et tg&&Et v) then SM.bad else (match iGt G n sc tg with | some g=>Bd (iE G n sc v) g | none=>SM.bad)
noncomputable def iSb (n:Nat) (B:SC->List Stmt->SM) (G:Gb) (sc:SC) (s:Stmt):SM:=match s with
 | .Expr e _=>if Ir e then SM.bad else Ep (iE G n sc e)
 | .Pass _=>Zn
 | .Break _=>fun loc mh=>some (.bk,loc,mh)
 | .Continue _=>fun loc mh=>some (.ct,loc,mh)
 | .Return (some e) _=>retS (iE G n sc e)
 | .Return none _=>fun loc mh=>some (.rt .non,loc,mh)
 | .Assign [tg] v _=>Aaw n G sc tg v
 | .If c a b _=>ifS (iT G n sc c) (B sc a) (B sc b)
 | .While c body [] _=>Ss (iT G n sc c) (B sc body)
 | .For tg it body [] _=>if isSet it then SM.bad else (match iG sc tg with | some (_,g)=>Hs (iI G n sc tg it) g (B sc body) | none=>SM.bad)
 | _=>SM.bad
mutual
noncomputable def iS (G:Gb):Nat->SC->Stmt->SM
 | 0,_,_=>SM.bad
 | n+1,sc,s=>iSb n (iSs G n) G sc s
termination_by structural n=>n
noncomputable def iSs (G:Gb):Nat->SC->List Stmt->SM
 | 0,_,_=>SM.bad
 | n+1,sc,ss=>match ss with
  | []=>Zn
  | s::r=>Ab (iS G n sc s) (iSs G n sc r)
termination_by structural n=>n
end
structure FnI where
 ps:List Str
 N:List Str
 scope:Scope
 body:List Stmt
noncomputable def Ac (G:Gb) (n:Nat) (f:FnI):Fn:=fun ds mh=>if ds.length=f.ps.length then (match iSs G n { N:=f.N,scope:=f.scope,own:=fun _=>true } f.body (ds.map some++List.replicate (f.N.length - ds.length) none) mh with
 | some (.rt d,_,mh')=>some (d,mh')
 | some (.nx,_,mh')=>some (.non,mh')
 | _=>none) else none
noncomputable def fuel:Nat:=60
structure MakI where
 pre:List Stmt
 i:Nat
 pl:Nat
 js:List Nat
 ci:CloI
 post:List Stmt
noncomputable def Jw (loc:Loc):List Nat->Option (List D)
 | []=>some []
 | j::r=>match loc[j]? with
  | some (some d)=>(match Jw loc r with | some ds=>some (d::ds) | none=>none)
  | _=>none
noncomputable def cA (x:Str) (m:MakI):SM:=fun loc mh=>match mh[m.pl]? with
 | some (.plq y)=>if y==x then (match Jw loc m.js with | some ds=>some (.nx,loc.set m.i (some (.clo m.ci ds)),mh) | none=>none) else none
 | _=>none
noncomputable def Zf (G:Gb) (n:Nat) (x:Str) (f:FnI) (m:MakI):SM:=Ab (iSs G n { N:=f.N,scope:=f.scope,own:=fun _=>true } m.pre) (Ab (cA x m) (iSs G n { N:=f.N,scope:=f.scope,own:=fun y=>!(m.ci.fr.contains y) } m.post))
noncomputable def Lp (G:Gb) (n:Nat) (x:Str) (f:FnI) (m:MakI):Fn:=fun ds mh=>if ds.length=f.ps.length then (match Zf G n x f m (ds.map some++List.replicate (f.N.length - ds.length) none) mh with
 | some (.rt d,_,mh')=>some (d,mh')
 | some (.nx,_,mh')=>some (.non,mh')
 | _=>none) else none
noncomputable def M6 (G:Gb) (n:Nat):W6:=fun I fs ds mh=>if ds.length=I.ps.length then (match iSs G n { N:=I.N++I.fr,scope:=I.scope,own:=fun y=>!(I.fr.contains y) } I.body (ds.map some++List.replicate (I.N.length - ds.length) none++fs.map some) mh with
 | some (.rt d,_,mh')=>some (d,mh')
 | some (.nx,_,mh')=>some (.non,mh')
 | _=>none) else none
structure Tb where
 tb:Str->Option FnI
 con:Str->Option D
 dic:Str->Option (List (Str×D))
 fld:Str->Str->Bool
 tbm:Str->Str->Option FnI
 mkr:Str->Option Str
 lam:Str->Option Str:=fun _=>none
 mak:Str->Option MakI:=fun _=>none
noncomputable def lamF (G:Gb) (y:Str):Fn:=fun ds mh=>match ds,mh[0]?,G.cal y with
 | [d],some MO.plc,some (_,g)=>g [d,d,D.lam] mh
 | _,_,_=>none
noncomputable def Va (T:Tb) (G:Gb) (x:Str) (g:Fn):Fn:=match T.lam x with
 | some y=>lamF G y
 | none=>g
noncomputable def Vb (T:Tb) (G:Gb) (x:Str) (I:FnI) (g:Fn):Fn:=match T.mak x with
 | some m=>Lp G fuel x I m
 | none=>g
noncomputable def GkN (T:Tb):Nat->Gb
 | 0=>{ cal:=fun _=>none,con:=T.con,dic:=T.dic,fld:=T.fld,met:=fun _ _=>none,mkr:=T.mkr }
 | k+1=>{ cal:=fun x=>(match T.tb x with | some I=>some (I.ps,Vb T (GkN T k) x I (Va T (GkN T k) x (Ac (GkN T k) fuel I))) | none=>none),con:=T.con,dic:=T.dic,fld:=T.fld,met:=fun c m=>(match T.tbm c m with | some I=>some (I.ps,Ac (GkN T k) fuel I) | none=>none),mkr:=T.mkr,clo:=M6 (GkN T k) fuel }
noncomputable def Hy:List Str:=["len", "list", "tuple", "range", "isinstance", "int", "bool", "str", "dict", "set", "sorted", "all", "any", "max", "min", "enumerate", "zip", "sum"]
structure GOk (P:Program) (w:World) (K:PySem.W.Frag) (mg:Str->Option Value) (base:Heap) (k:Nat) (G:Gb):Prop where
 fn:∀ x ps f,G.cal x=some (ps,f)->∃ fa fd,mg x=some (.ref fa)/\PySem.W.keepIn K (.ref fa)=true/\Binds K fd ps []/\FnOk P w K mg base CX0 (k+2) fa fd ps (spD K ps.length f)/\∀ ds mh r,f ds mh=some r->ds.length=ps.length
 con:∀ x d,G.con x=some d->∃ u v,mg x=some u/\RelV v u/\∀ H ρ,RD K H ρ d v
 blt:∀ b∈Hy,mg b=none
 dic:∀ x kvs,G.dic x=some kvs->∃ a,mg x=some (.ref a)/\DicOk w K a kvs
 fld:∀ c f,G.fld c f=true->∃ C,PySem.W.nsIn K mainGlobals c=some (some (.ref C))/\Cls K C/\Eg K C f
 met:∀ c m ps g,G.met c m=some (ps,g)->∃ C fa fd,PySem.W.nsIn K mainGlobals c=some (some (.ref C))/\Cls K C/\Meth K C m fa/\Binds K fd ps []/\FnOk P w K mg base CX0 (k+2) fa fd ps (spD K ps.length g)/\∀ ds mh r,g ds mh=some r->ds.length=ps.length
 mkr:∀ c f,G.mkr c=some f->∃ C fa fd ps,PySem.W.nsIn K mainGlobals c=some (some (.ref C))/\Mk K C fa/\mg c=some (.ref C)/\Binds K fd ps []/\FnOk P w K mg base CX0 1 fa fd ps (spI C f)
 clo:U6 P w K mg base (k+2) G.clo
structure XOk (X:Cx) (k:Nat) (G:Gb) (sc:SC):Prop where
 N:X.N=sc.N
 nd:sc.N.Nodup
 sco:X.env.scope=sc.scope
 own:∀ x,sc.own x=true->L2.Loc sc.scope x->X.fn x=true\/sc.scope.names.lookup x=some .local
 calm:X.calm=true
 xe:X.xe=fun _ _=>False
 room:Room (k+2) X.A
 g:GOk X.prog X.w X.K X.mg X.base k G
theorem Ei {N:List Str}{x:Str}{i:Nat}(h:slot N x=some i):N[i]?=some x:=by
 unfold slot at h;obtain ⟨hl,hp,_⟩:=List.findIdx?_eq_some_iff_getElem.mp h;rw [List.getElem?_eq_getElem hl];exact congrArg some (eq_of_beq hp)
theorem tW {sc:Scope}{x:Str}(h:jG sc x=true):Vis sc x:=by
 unfold jG at h;split at h
 ·exact .inl (by assumption)
 ·exact .inr (.inl (by assumption))
 ·exact .inr (.inr (by assumption))
 ·cases h
theorem S6 {sc:Scope}{x:Str}(h:bY sc x=true):L2.Loc sc x:=by
 unfold bY at h;split at h
 ·exact .inl (by assumption)
 ·exact .inr (by assumption)
 ·cases h
theorem jK {sc:Scope}{x:Str}(h:glB sc x=true):sc.names.lookup x=some .globalImplicit:=by
 unfold glB at h;split at h
 ·assumption
 ·cases h
section
variable {X:Cx}{k:Nat}{G:Gb}{sc:SC}
theorem XOk.gl (O:XOk X k G sc) {x:Str}(h:glB sc.scope x=true):Gl X x:=by
 show X.env.scope.names.lookup x=_;rw [O.sco];exact jK h
theorem XOk.vis (O:XOk X k G sc) {x:Str}(h:jG sc.scope x=true):Vis X.env.scope x:=by rw [O.sco];exact tW h
theorem XOk.units (O:XOk X k G sc):X.A.units+64 < cLine:=O.room.units
theorem Ci {a:Expr}{es:List Expr}{env:Env}(h:isStar a=false):starEach (a::es) env=(false,eval a env)::starEach es env:=by
 cases a <;> first | rfl | cases h
theorem Bv {pos:Pos}{env:Env}:∀ {es:List Expr},(es.all fun e=>!isStar e)=true->(backTo pos (starEach es env)).any (·.1)=false
 | [],_=>rfl
 | a::r,h=>by
  rw [List.all_cons,Bool.and_eq_true] at h;have h1:isStar a=false:=by simpa using h.1
  rw [Ci h1];show (false || (backTo pos (starEach r env)).any (·.1))=false;rw [Bv h.2];rfl
theorem S7 {pos:Pos}{env:Env}:∀ {es:List Expr},(es.all fun e=>!isStar e)=true->(backTo pos (starEach es env)).all (fun x=>!x.1)=true
 | [],_=>rfl
 | a::r,h=>by
  rw [List.all_cons,Bool.and_eq_true] at h;have h1:isStar a=false:=by simpa using h.1
  rw [Ci h1];show (true&&(backTo pos (starEach r env)).all (fun x=>!x.1))=true;rw [S7 h.2];rfl
theorem Di {o:Expr}{name:Str}{env:Env}{w:Sem Value}(h:baseOk o=true):attributeBase o name env w=w:=by
 cases o <;> try rfl
 rename_i f as kw p;cases f <;> try rfl
 cases as <;> try rfl
 cases kw <;> try rfl
 cases h
theorem Xb {e:Expr}{env:Env}(h:isSet e=false):∀ x,foldedSetIterable e env x=pure x:=by
 intro x;cases e <;> first | rfl | cases h
theorem Ky {op:CmpOp}{e:Expr}(h:isSet e=false):behindInMarks op e=false:=by
 cases e <;> first | rfl | cases h
theorem Aeu {b:Expr}(h:isSlice b=false):Rz b:=by
 intro o i;cases b <;> first | rfl | cases h
theorem Pa (O:XOk X k G sc) (scope:Scope):relabel scope X.env=Kw scope sc.scope:=by
 unfold relabel Kw Env.kindOf;rw [O.sco]
theorem Lq (O:XOk X k G sc) {scope:Scope}(h:N8 scope sc=true):CompOk X scope:=by
 unfold N8 at h;rw [Bool.and_eq_true,Bool.and_eq_true] at h;obtain ⟨h1,h2,h3⟩:=h;refine ⟨?_,of_decide_eq_true h2,fun p hp e=>?_⟩
 ·split at h1
  ·assumption
  ·cases h1
 ·have:=List.all_eq_true.mp h3 p hp;rw [e] at this;show X.env.scope.names.lookup p.1=_\/X.env.scope.names.lookup p.1=_;rw [O.sco];dsimp only at this;split at this
  ·exact .inl (by assumption)
  ·exact .inr (by assumption)
  ·cases this
theorem S8 {scope:Scope}(h:(scope.names.map (·.1)).Nodup):(Dn scope).Nodup:=by
 unfold Dn;exact h.sublist ((List.filter_sublist).map _)
theorem Vc (O:XOk X k G sc) (scope:Scope):CapOk X (Dn scope) scope (O9 sc.N scope):=by
 refine ⟨by unfold O9;rw [List.length_map],fun i x j e1 e2=>?_⟩;unfold O9 at e2;rw [List.getElem?_map,e1] at e2;simp only [Option.map_some,Option.some.injEq] at e2;split at e2
 ·rename_i hl;exact ⟨hl,by rw [O.N];exact Ei e2⟩
 ·cases e2
theorem XOk.comp (O:XOk X k G sc) {scope:Scope}(h:N8 scope sc=true) (pins:List (Addr×Obj)) (C:Addr) (cells:List (Str×Addr)) (s₀:Shared) (H₀:Hp) (fp:List Addr) :
  XOk (Cv X pins (Dn scope) scope C cells s₀ H₀ fp) k G (S5 scope sc):=by
 have S:=Lq O h;refine ⟨rfl,S8 S.nd,Pa O scope,fun x hx hl=>?_,O.calm,rfl,O.room,O.g⟩;have hx:bY scope x=true:=hx;rcases S6 hx with q|q
 ·right;show (Kw scope sc.scope).names.lookup x=_;rw [← Pa O scope,Fj,q];rfl
 ·left;exact decide_eq_true (PySem.mem_of_lookup q)
theorem Vd {x:Str}{i:Nat}(h:iGn sc x=some i):bY sc.scope x=true/\sc.own x=true/\slot sc.N x=some i:=by
 unfold iGn at h;split at h
 ·rename_i hc;rw [Bool.and_eq_true] at hc;exact ⟨hc.1,hc.2,h⟩
 ·cases h
theorem XOk.name (O:XOk X k G sc) {x:Str}{i:Nat}{pos:Pos}(h:iGn sc x=some i):PG X (.Name x pos) (dG i):=by
 obtain ⟨h1,h2,h3⟩:=Vd h;have hl:=S6 h1;refine Yn (by rw [O.N];exact O.nd) (by rw [O.N];exact Ei h3) (by rw [O.sco];exact hl) ?_;rw [O.sco];exact O.own x h2 hl
theorem XOk.names (O:XOk X k G sc) {es:List Expr}{is:List Nat}(h:iGs sc es=some is):PGs X es (gNs is)/\(assignEach es X.env).length=is.length/\(assignEach es X.env).findIdx? (·.1)=none:=by
 induction es generalizing is with
 | nil=>cases h;exact ⟨qK,rfl,rfl⟩
 | cons e r ih =>
  cases e with
  | Name x p =>
   simp only [iGs] at h;split at h
   ·rename_i i ei;split at h
    ·rename_i js ej;cases h;obtain ⟨h1,h2,h3⟩:=ih ej;refine ⟨dH (O.name ei) h1 rfl,?_,?_⟩
     ·show (assignEach r X.env).length+1=js.length+1;rw [h2]
     ·show List.findIdx? (fun x=>x.1) ((false,assign (.Name x p) X.env)::assignEach r X.env)=none;rw [List.findIdx?_cons];simp only [Bool.false_eq_true,if_false,h3];rfl
    ·cases h
   ·cases h
  | _=>cases h
theorem XOk.target (O:XOk X k G sc) {tg:Expr}{ws:List Nat}{g:GM}(h:iG sc tg=some (ws,g)):DG X tg ws g:=by
 cases tg with
 | Name x p =>
  simp only [iG] at h;split at h
  ·rename_i i ei;cases h;obtain ⟨h1,h2,h3⟩:=Vd ei;have hl:=S6 h1;refine sJ (by rw [O.N];exact O.nd) (by rw [O.N];exact Ei h3) (by rw [O.sco];exact hl) ?_;rw [O.sco];exact O.own x h2 hl
  ·cases h
 | Tuple es kk p =>
  simp only [iG] at h;split at h
  ·rename_i is ei;cases h;obtain ⟨h1,h2,h3⟩:=O.names ei;exact Aaf O.calm h1 h2 h3
  ·cases h
 | _=>cases h
end
structure SndE (G:Gb) (n:Nat):Prop where
 e:∀ {X:Cx} {k:Nat} {sc:SC},XOk X k G sc->∀ e,DE X e (iE G n sc e)
 t:∀ {X:Cx} {k:Nat} {sc:SC},XOk X k G sc->∀ e,DT X e (iT G n sc e)
 a:∀ {X:Cx} {k:Nat} {sc:SC},XOk X k G sc->∀ es,DA X es (iA G n sc es)
 f:∀ {X:Cx} {k:Nat} {sc:SC},XOk X k G sc->∀ es,DIf X es (iF G n sc es)
 i:∀ {X:Cx} {k:Nat} {sc:SC},XOk X k G sc->∀ tg e,DI X tg e (iI G n sc tg e)
theorem Zg {X:Cx}{es:List Expr}:DIf X es Zb:=fun pins s σ H Q I ⟨loc,mh,ρ,b,mh',q,_⟩=>by cases q
theorem G5 {X:Cx}{tg e:Expr}:DI X tg e Zb:=fun loc mh=>Ds
theorem tX {c:Str}{T:String}(h:tyOf c=some T):T∈["bool", "int", "str", "tuple", "list", "dict"]/\bootBuiltins c=some (.type T)/\c∈Hy:=by
 unfold tyOf at h;split at h
 ·rename_i e;cases h;rw [eq_of_beq e];exact ⟨by decide,boot_int,by decide +kernel⟩
 ·split at h
  ·rename_i e;cases h;rw [eq_of_beq e];exact ⟨by decide,boot_bool,by decide +kernel⟩
  ·split at h
   ·rename_i e;cases h;rw [eq_of_beq e];exact ⟨by decide,boot_str,by decide +kernel⟩
   ·split at h
    ·rename_i e;cases h;rw [eq_of_beq e];exact ⟨by decide,by decide +kernel,by decide +kernel⟩
    ·split at h
     ·rename_i e;cases h;rw [eq_of_beq e];exact ⟨by decide,by decide +kernel,by decide +kernel⟩
     ·split at h
      ·rename_i e;cases h;rw [eq_of_beq e];exact ⟨by decide,by decide +kernel,by decide +kernel⟩
      ·cases h
theorem Xc {G:Gb}{f fl:Str}{es:List Expr}(h:wK G f es=some fl):es=[]/\G.mkr f=some fl:=by
 cases es with
 | nil=>exact ⟨rfl,h⟩
 | cons a r=>cases h
theorem Pb {X:Cx}{a:Expr}{es:List Expr}{p:Pos}(hs:isStar a=false) (hr:(es.all fun e=>!isStar e)=true) (hk:(a::es).length < 20):((backTo p (starEach (a::es) X.env)).all (fun x=>!x.1)&&(backToKw p (keywordEach [] X.env)).all (fun x=>x.1.isSome)&&decide ((a::es).length+([]:List Keyword).length+(if ([]:List Keyword).isEmpty then 0 else 1) < 30))=true:=by
 rw [S7 (by rw [List.all_cons,hs,hr];rfl)];have:decide ((a::es).length+([]:List Keyword).length+(if ([]:List Keyword).isEmpty then 0 else 1) < 30)=true:=decide_eq_true (by simp;simp at hk;omega);rw [this];rfl
theorem jL {X:Cx}{k:Nat}{G:Gb}{sc:SC}(O:XOk X k G sc) {f:Str}{g:Fn}{p pos:Pos}{a:Expr}{es:List Expr}{mr:DM (List D)}(h:jH f=some g) (hg:glB sc.scope f=true) (ha:DA X (a::es) mr) (hn:f ≠ "__name__") (hd:(f==("__debug__":Str))=false) (hs:isStar a=false) (hr:(es.all fun e=>!isStar e)=true) :
  DE X (.Call (.Name f p) (a::es) [] pos) (mr.bnd fun ds=>Zl (g ds)):=by
 unfold jH at h;split at h
 ·rename_i e;cases h;rw [eq_of_beq e] at hg hn hd ⊢;exact Fp bA (O.gl hg) (O.g.blt _ (by decide +kernel)) PySem.boot_len ha hn hd (Ci hs) (Bv hr)
 ·split at h
  ·rename_i e;cases h;rw [eq_of_beq e] at hg hn hd ⊢;exact Li Wq (O.gl hg) (O.g.blt _ (by decide +kernel)) (by decide +kernel) ha hn hd (Ci hs) (Bv hr)
  ·split at h
   ·rename_i e;cases h;rw [eq_of_beq e] at hg hn hd ⊢;exact Li Uq (O.gl hg) (O.g.blt _ (by decide +kernel)) (by decide +kernel) ha hn hd (Ci hs) (Bv hr)
   ·split at h
    ·rename_i e;cases h;rw [eq_of_beq e] at hg hn hd ⊢;exact Fp (bH O.calm) (O.gl hg) (O.g.blt _ (by decide +kernel)) (by decide +kernel) ha hn hd (Ci hs) (Bv hr)
    ·split at h
     ·rename_i e;cases h;rw [eq_of_beq e] at hg hn hd ⊢;exact Fp (Kv (f:=.builtin "any")) (O.gl hg) (O.g.blt _ (by decide +kernel)) (by decide +kernel) ha hn hd (Ci hs) (Bv hr)
     ·split at h
      ·rename_i e;cases h;rw [eq_of_beq e] at hg hn hd ⊢;exact Fp (Kv (f:=.builtin "max")) (O.gl hg) (O.g.blt _ (by decide +kernel)) (by decide +kernel) ha hn hd (Ci hs) (Bv hr)
      ·split at h
       ·rename_i e;cases h;rw [eq_of_beq e] at hg hn hd ⊢;exact Fp (W0 O.calm) (O.gl hg) (O.g.blt _ (by decide +kernel)) (by decide +kernel) ha hn hd (Ci hs) (Bv hr)
       ·split at h
        ·rename_i e;cases h;rw [eq_of_beq e] at hg hn hd ⊢;exact Li (Kv (f:=.type "int")) (O.gl hg) (O.g.blt _ (by decide +kernel)) (by decide +kernel) ha hn hd (Ci hs) (Bv hr)
        ·split at h
         ·rename_i e;cases h;rw [eq_of_beq e] at hg hn hd ⊢;exact Fp (Kv (f:=.builtin "sorted")) (O.gl hg) (O.g.blt _ (by decide +kernel)) (by decide +kernel) ha hn hd (Ci hs) (Bv hr)
         ·split at h
          ·rename_i e;cases h;rw [eq_of_beq e] at hg hn hd ⊢;exact Fp (Kv (f:=.builtin "sum")) (O.gl hg) (O.g.blt _ (by decide +kernel)) (by decide +kernel) ha hn hd (Ci hs) (Bv hr)
          ·cases h
theorem Xd {X:Cx}{m:Str}{T:String}{f:D->List D->MH->Option (D×MH)}{o:Expr}{mo:DM D}{ap p:Pos}(h:Lk m 0=some (T,f)) (ho:DE X o mo) (hb:baseOk o=true) (hl:(ap.endLine==p.line)=true):DE X (.Call (.Attribute o m ap) [] [] p) (Cw T f mo (Zr [])):=by
 unfold Lk at h;split at h
 ·rename_i e;rw [Bool.and_eq_true] at e;exact absurd e.2 (by decide)
 ·split at h
  ·rename_i e;rw [Bool.and_eq_true] at e;cases h;rw [eq_of_beq e.1];exact gO PySem.F.plainAttrs_int PySem.F.slot_int_bit_length PySem.F.type_int_bit_length gQ ho (Di hb) hl
  ·split at h
   ·rename_i e;rw [Bool.and_eq_true] at e;exact absurd e.2 (by decide)
   ·split at h
    ·rename_i e;rw [Bool.and_eq_true] at e;cases h;rw [eq_of_beq e.1];exact gO PySem.F.plainAttrs_list PySem.F.slot_list_pop PySem.F.type_list_pop M5 ho (Di hb) hl
    ·split at h
     ·rename_i e;rw [Bool.and_eq_true] at e;exact absurd e.2 (by decide)
     ·split at h
      ·rename_i e;rw [Bool.and_eq_true] at e;exact absurd e.2 (by decide)
      ·cases h
theorem cB {X:Cx}{m:Str}{T:String}{f:D->List D->MH->Option (D×MH)}{o a:Expr}{es:List Expr}{mo:DM D}{mr:DM (List D)}{ap p:Pos}(h:Lk m (a::es).length=some (T,f)) (ho:DE X o mo) (ha:DA X (a::es) mr) (hb:baseOk o=true) (hl:(ap.endLine==p.line)=true) (hs:isStar a=false) (hr:(es.all fun e=>!isStar e)=true) (hk:(a::es).length < 20) :
  DE X (.Call (.Attribute o m ap) (a::es) [] p) (Cw T f mo mr):=by
 have few:((backTo p (starEach (a::es) X.env)).all (fun x=>!x.1)&&(backToKw p (keywordEach [] X.env)).all (fun x=>x.1.isSome)&&decide ((a::es).length+([]:List Keyword).length+(if ([]:List Keyword).isEmpty then 0 else 1) < 30))=true:=by
  rw [S7 (by rw [List.all_cons,hs,hr];rfl)];have:decide ((a::es).length+([]:List Keyword).length+(if ([]:List Keyword).isEmpty then 0 else 1) < 30)=true:=decide_eq_true (by simp;simp at hk;omega);rw [this];rfl
 unfold Lk at h;split at h
 ·rename_i e;rw [Bool.and_eq_true] at e;cases h;rw [eq_of_beq e.1];exact Mu PySem.F.plainAttrs_list PySem.F.slot_list_append PySem.F.type_list_append Wv ho ha (Di hb) few hl (Ci hs) (Bv hr)
 ·split at h
  ·rename_i e;rw [Bool.and_eq_true] at e;exact absurd (eq_of_beq e.2) (by simp)
  ·split at h
   ·rename_i e;rw [Bool.and_eq_true] at e;cases h;rw [eq_of_beq e.1];exact Mu PySem.F.plainAttrs_list PySem.F.slot_list_pop PySem.F.type_list_pop M5 ho ha (Di hb) few hl (Ci hs) (Bv hr)
   ·split at h
    ·rename_i e;rw [Bool.and_eq_true] at e;exact absurd (eq_of_beq e.2) (by simp)
    ·split at h
     ·rename_i e;rw [Bool.and_eq_true] at e;cases h;rw [eq_of_beq e.1];exact Mu PySem.F.plainAttrs_list PySem.F.slot_list_extend PySem.F.type_list_extend M5 ho ha (Di hb) few hl (Ci hs) (Bv hr)
     ·split at h
      ·rename_i e;rw [Bool.and_eq_true] at e;cases h;rw [eq_of_beq e.1];exact Mu PySem.F.plainAttrs_tuple PySem.F.slot_tuple_index PySem.F.type_tuple_index M5 ho ha (Di hb) few hl (Ci hs) (Bv hr)
      ·cases h
theorem Ve {a:Expr}{es:List Expr}{b:Expr}(h:W9 a es=some b):es=[]/\isStar b=false/\∃ p q,a=.Call (.Name "range" p) [b] [] q:=by
 unfold W9 at h;split at h
 ·rename_i g p b' q;split at h
  ·rename_i hc;rw [Bool.and_eq_true] at hc;cases h;exact ⟨rfl,by simpa using hc.2,p,q,by rw [eq_of_beq hc.1]⟩
  ·cases h
 ·cases h
theorem Xe {X:Cx}{k:Nat}{G:Gb}{sc:SC}(O:XOk X k G sc) {a b:Expr}{op:CmpOp}{i j:Nat}{pos:Pos}(h:Ze sc a op b=some (i,j)) :
  DE X (.Compare a [op] [b] pos) (gZ (fun loc mh=>match loc[i]? with | some (some d)=>some (d,mh) | _=>none) (fun loc mh=>match loc[j]? with | some (some d)=>some (d,mh) | _=>none)):=by cases h
theorem jM (G:Gb):SndE G 0:=⟨fun _ _=>Ba,fun _ _=>Eh,fun _ _=>fJ,fun _ _=>Zg,fun _ _ _=>G5⟩
theorem Aev {G:Gb}{n:Nat}(S:SndE G n) {X:Cx}{k:Nat}{sc:SC}(O:XOk X k G sc) (es:List Expr):DA X es (iA G (n+1) sc es):=by
 cases es with
 | nil=>exact fP
 | cons a r =>
  show DA X (a::r) (if isStar a then Zb else Aa (iE G n sc a) (iA G n sc r));split
  ·exact fJ
  ·rename_i h;exact Nz (S.e O a) (S.a O r) (Ci (by simpa using h))
theorem Aew {G:Gb}{n:Nat}(S:SndE G n) {X:Cx}{k:Nat}{sc:SC}(O:XOk X k G sc) (es:List Expr):DIf X es (iF G (n+1) sc es):=by
 cases es with
 | nil=>exact sS
 | cons a r =>
  cases r with
  | nil=>exact sU (S.t O a)
  | cons b r=>exact Zg
theorem Aex {G:Gb}{n:Nat}(S:SndE G n) {X:Cx}{k:Nat}{sc:SC}(O:XOk X k G sc) (tg e:Expr):DI X tg e (iIb (iE G n) (iT G n) (iA G n) (iF G n) (iI G n) G sc tg e):=by
 cases e with
 | Call ff args kws p' =>
  cases ff with
  | Name f p =>
   cases args with
   | nil=>exact Gf (S.e O _)
   | cons a r =>
    cases r with
    | nil =>
     cases kws with
     | nil =>
      delta iIb
      dsimp only;split
      ·rename_i h;rw [Bool.and_eq_true] at h;split
       ·exact G5
       ·rename_i hs;have hs:isStar a=false:=by simpa using hs
        have e:=eq_of_beq h.1;subst e;exact bD (O.gl h.2) (O.g.blt _ (by decide +kernel)) (S.a O [a]) (Ci hs)
      ·split
       ·rename_i h;rw [Bool.and_eq_true] at h;split
        ·exact G5
        ·rename_i hs;have hs:isStar a=false/\Et tg=true:=by simpa using hs
         have e:=eq_of_beq h.1;subst e;cases tg with
         | Tuple es kk tp=>exact tH O.calm (O.gl h.2) (O.g.blt _ (by decide +kernel)) (S.e O a) (Ci hs.1)
         | _=>cases hs.2
       ·exact Gf (S.e O _)
     | cons _ _=>exact Gf (S.e O _)
    | cons b r =>
     cases r with
     | nil =>
      cases kws with
      | nil =>
       delta iIb
       dsimp only;split
       ·rename_i h;rw [Bool.and_eq_true] at h;split
        ·exact G5
        ·rename_i hs;have hs:isStar a=false/\isStar b=false:=by simpa using hs
         have e:=eq_of_beq h.1;subst e;exact G5
       ·split
        ·rename_i h;rw [Bool.and_eq_true] at h;split
         ·exact G5
         ·rename_i hs;have hs:(isStar a=false/\isStar b=false)/\Et tg=true:=by simpa using hs
          have e:=eq_of_beq h.1;subst e;cases tg with
          | Tuple elts kk tp=>exact G5
          | _=>cases hs.2
        ·exact Gf (S.e O _)
      | cons _ _=>exact Gf (S.e O _)
     | cons c r =>
      cases r with
      | cons _ _=>exact Gf (S.e O _)
      | nil =>
       cases kws with
       | cons _ _=>exact Gf (S.e O _)
       | nil =>
        delta iIb
        dsimp only;split
        ·rename_i h;rw [Bool.and_eq_true] at h;split
         ·exact G5
         ·rename_i hs;have hs:(isStar a=false/\isStar b=false)/\isStar c=false:=by simpa using hs
          have e:=eq_of_beq h.1;subst e;exact G5
        ·exact Gf (S.e O _)
  | _=>exact Gf (S.e O _)
 | _=>exact Gf (S.e O _)
theorem wL {X:Cx}{op:BoolOp}{vs:List Expr}{p:Pos}{m:DM Bool}(h:DT X (.BoolOp op vs p) m):DW X (.BoolOp op vs p) m:=fun loc mh wh pins s σ H Q I q=>h loc mh pins s σ H Q I q
theorem Aey {G:Gb}{n:Nat}(S:SndE G n) {X:Cx}{k:Nat}{sc:SC}(O:XOk X k G sc) (e:Expr):DT X e (iTb (iE G n) (iT G n) (iA G n) (iF G n) (iI G n) G sc e):=by
 cases e with
 | UnaryOp op a p =>
  cases op with
  | Not=>exact zU (S.t O _)
  | _=>exact Uk (S.e O _) fun _=>rfl
 | BoolOp op vs p =>
  cases vs with
  | nil=>cases op <;> exact Eh
  | cons a r =>
   cases r with
   | nil =>
    cases op
    ·exact (rQ (S.t O a)).dt
    ·exact (zR (S.t O a)).dt
   | cons b r =>
    cases op
    ·exact (zT (S.t O _) (wL (S.t O _))).dt
    ·exact (Aei (S.t O _) (wL (S.t O _))).dt
 | IfExp c a b p=>exact Eh
 | Compare a ops cs p =>
  cases ops with
  | nil=>exact Eh
  | cons op ops =>
   cases ops with
   | nil =>
    cases cs with
    | nil=>exact Eh
    | cons b cs =>
     cases cs with
     | cons _ _=>exact Eh
     | nil =>
      delta iTb
      dsimp only;split
      ·rename_i neg kvs hd;exact Eh
      ·split
       ·exact Eh
       ·rename_i h;exact zQ (Gr O.units _) (Ky (by simpa using h)) (S.e O _) (S.e O _)
   | cons op' ops =>
    cases ops with
    | cons _ _=>exact Eh
    | nil =>
     cases cs with
     | nil=>exact Eh
     | cons b cs =>
      cases cs with
      | nil=>exact Eh
      | cons c cs =>
       cases cs with
       | cons _ _=>exact Eh
       | nil =>
        delta iTb
        dsimp only;split
        ·exact Eh
        ·rename_i h;exact gK (Gr O.units _) (Gr O.units _) (by show behindInMarks _ _=false;exact Ky (by simpa using h)) (S.e O _) (S.e O _) (S.e O _)
 | _=>exact Uk (S.e O _) fun _=>rfl
theorem Aez {G:Gb}{n:Nat}(S:SndE G n) {X:Cx}{k:Nat}{sc:SC}(O:XOk X k G sc) (e:Expr):DE X e (iEb (iE G n) (iT G n) (iA G n) (iF G n) (iI G n) G sc e):=by
 cases e with
 | Constant c _ _ =>
  cases c with
  | int i=>exact rO xQ fun _ _ _=>.int _
  | bool b=>exact rO Adk fun _ _ _=>.bl _
  | none=>exact rO xR fun _ _ _=>.non
  | str x=>exact rO xT fun _ _ _=>.str _
  | _=>exact Ba
 | Name x p =>
  delta iEb
  dsimp only;split
  ·rename_i h;rw [Bool.and_eq_true,Bool.and_eq_true] at h;obtain ⟨⟨h1,h2⟩,h3⟩:=h;split
   ·rename_i i ei;exact fK (by rw [O.N];exact Ei ei) (O.vis h1) (by simpa using h2) (by simpa using h3)
   ·exact Ba
  ·split
   ·rename_i h;rw [Bool.and_eq_true] at h;split
    ·rename_i d ed;obtain ⟨u,v,h1,h2,h3⟩:=O.g.con _ _ ed;exact fun loc mh=>Bm (pZ (O.gl h.1) h1 h2 (by simpa using h.2)) fun σ H Q ⟨ρ,d',mh',q,rl,rs,co⟩=>by
      cases q;exact co H ρ v Ev.refl rs (h3 H ρ)
    ·exact Ba
   ·exact Ba
 | BinOp a op b _ =>
  delta iEb
  dsimp only;split
  ·rename_i f ef;exact Aef (tU ef) (S.e O _) (S.e O _)
  ·exact Ba
 | UnaryOp op a _ =>
  cases op with
  | USub=>exact Aeh sX (S.e O _)
  | Not=>exact zX (S.e O _)
  | _=>exact Ba
 | BoolOp op vs _ =>
  cases vs with
  | nil=>cases op <;> exact Ba
  | cons a r =>
   cases r with
   | nil=>cases op <;> exact zV (S.e O _)
   | cons b r =>
    cases op
    ·exact zW (S.e O _) (S.e O _)
    ·exact Aek (S.e O _) (S.e O _)
 | Compare a ops cs _ =>
  cases ops with
  | nil=>exact Ba
  | cons op ops =>
   cases ops with
   | nil =>
    cases cs with
    | nil=>exact Ba
    | cons b cs =>
     cases cs with
     | cons _ _=>exact Ba
     | nil =>
      delta iEb
      dsimp only;split
      ·rename_i i j hp;exact Xe O hp
      ·split
       ·rename_i neg kvs hd;exact Ba
       ·split
        ·exact Ba
        ·rename_i h;exact zP (Gr O.units _) (Ky (by simpa using h)) (S.e O _) (S.e O _)
   | cons op' ops =>
    cases ops with
    | cons _ _=>exact Ba
    | nil =>
     cases cs with
     | nil=>exact Ba
     | cons b cs =>
      cases cs with
      | nil=>exact Ba
      | cons c cs =>
       cases cs with
       | cons _ _=>exact Ba
       | nil =>
        delta iEb
        dsimp only;split
        ·exact Ba
        ·rename_i h;exact gJ (Gr O.units _) (Gr O.units _) (by show behindInMarks _ _=false;exact Ky (by simpa using h)) (S.e O _) (S.e O _) (S.e O _)
 | IfExp c a b _=>exact Aej (S.t O _) (S.e O _) (S.e O _)
 | Tuple es _ _=>exact zY (S.a O _)
 | List es _=>exact zZ (S.a O _)
 | Dict ks vs p =>
  delta iEb
  dsimp only;split
  ·rename_i h;rw [Bool.and_eq_true,Bool.and_eq_true] at h;exact Ba
  ·exact Ba
 | Subscript a b _ =>
  have gen:DE X (.Subscript a b ‹_›) (if isSlice b then Zb else (match U8 G sc a with | some kvs=>Zb | none=>dop ixD (iE G n sc a) (iE G n sc b))):=by
   split
   ·exact Ba
   ·rename_i h;split
    ·rename_i kvs hd;exact Ba
    ·exact Aeg Agd (Aeu (by simpa using h)) (S.e O _) (S.e O _)
  cases b with
  | Slice lo hi st _ =>
   cases st with
   | none =>
    refine fW (S.e O _) ?_ ?_
    ·cases lo with
     | none=>trivial
     | some e=>exact S.e O e
    ·cases hi with
     | none=>trivial
     | some e=>exact S.e O e
   | some s=>exact gen
  | _=>exact gen
 | Attribute o f _ =>
  delta iEb
  dsimp only;split
  ·rename_i h;exact tQ (fun c hc=>O.g.fld c _ hc) (S.e O _) (Di h)
  ·exact Ba
 | Call ff args kws p' =>
  cases ff with
  | Name f p =>
   cases kws with
   | cons kw ks =>
    cases args with
    | nil=>exact Ba
    | cons a es =>
     cases es with
     | cons _ _=>exact Ba
     | nil =>
      delta iEb
      dsimp only;split
      ·rename_i h;simp only [Bool.and_eq_true] at h;obtain ⟨⟨⟨h1,h4⟩,h5⟩,h6⟩:=h;have h4:isStar a=false:=by simpa using h4
       have h6:ks=[]:=by simpa using h6
       subst h6;obtain ⟨j,cp,kp,rfl⟩:=U9 h5;split
       ·rename_i hf;have e:=eq_of_beq hf;subst e;exact Ba
       ·split
        ·rename_i hf;have e:=eq_of_beq hf;subst e;exact Ba
        ·exact Ba
      ·exact Ba
   | nil =>
    cases args with
    | nil =>
     delta iEb
     dsimp only;split
     ·rename_i h;rw [Bool.and_eq_true] at h;split
      ·rename_i g eg;obtain ⟨fa,fd,h1,h2,h3,h4,h5⟩:=O.g.fn _ _ _ eg;exact gG (E:=E0) h4 O.room (O.gl h.1) h1 h2 h3 Oo (by simpa using h.2)
      ·exact Ba
     ·exact Ba
    | cons a es =>
     delta iEb
     dsimp only;split
     ·rename_i h;simp only [Bool.and_eq_true] at h;obtain ⟨⟨⟨⟨h1,h2⟩,h3⟩,h4⟩,h5⟩:=h;have h4:isStar a=false:=by simpa using h4
      split
      ·rename_i i ei;exact jD (by omega) (fun y ps f h=>O.g.fn y ps f h) O.g.clo O.room (by rw [O.N];exact Ei ei) (O.vis h1) Oo (S.a O _) (by simpa using h2) (by simpa using h3) (Ci h4) (Bv h5)
      ·exact Ba
     split
     ·rename_i h;simp only [Bool.and_eq_true] at h;obtain ⟨⟨⟨⟨h1,h2⟩,h3⟩,h4⟩,h5⟩:=h
      have h2:(f==("__debug__":Str))=false:=by simpa using h2
      have h3:f ≠ "__name__":=by simpa using h3
      have h4:isStar a=false:=by simpa using h4
      split
      ·rename_i ps g eg;obtain ⟨fa,fd,g1,g2,g3,g4,g5⟩:=O.g.fn _ _ _ eg;exact Y6 (E:=E0) g4 O.room (O.gl h1) g1 g2 g3 Oo (S.a O _) g5 h2 (Ci h4) (Bv h5)
      ·split
       ·rename_i fl hb;obtain ⟨rfl,hb⟩:=Xc hb;obtain ⟨C,fa,fd,ps,g1,g2,g3,g4,g5⟩:=O.g.mkr _ _ hb;exact tM (E:=E0) g1 g2 g5 (O.room.mono (by omega)) (O.gl h1) g3 g4 Oo (S.e O a) h2 (Ci h4)
       split
       ·rename_i b hb;cases hb
       ·split
        ·rename_i b c hb;cases hb
        ·split
         ·rename_i b hb;obtain ⟨rfl,hsb,p2,q2,rfl⟩:=Ve hb;split
          ·rename_i hs;split
           ·rename_i hf;have e:=eq_of_beq hf;subst e;exact Wy O.calm (O.gl h1) (O.g.blt _ (by decide +kernel)) (O.gl hs) (O.g.blt _ (by decide +kernel)) (S.e O b) (Ci hsb)
           ·split
            ·rename_i hf;have e:=eq_of_beq hf;subst e;exact bO O.calm (O.gl h1) (O.g.blt _ (by decide +kernel)) (O.gl hs) (O.g.blt _ (by decide +kernel)) (S.e O b) (Ci hsb)
            ·exact Ba
          ·exact Ba
         ·split
          ·rename_i hf;split
           ·rename_i c pc;split
            ·rename_i hc;simp only [Bool.and_eq_true] at hc;obtain ⟨⟨c1,c2⟩,c3⟩:=hc;split
             ·rename_i T eT;obtain ⟨t1,t2,t3⟩:=tX eT;have e:=eq_of_beq hf;subst e;exact Aaj t1 (O.gl h1) (O.g.blt _ (by decide +kernel)) (O.gl c1) (O.g.blt _ t3) t2 (by simpa using c3) (by simpa using c2) (S.e O a) (Ci h4)
             ·exact Ba
            ·exact Ba
           ·exact Ba
          ·split
           ·rename_i g eg;exact jL O eg h1 (S.a O _) h3 h2 h4 h5
           ·exact Ba
     ·exact Ba
  | Attribute o m ap =>
   cases kws with
   | cons _ _=>cases args <;> exact Ba
   | nil =>
    cases args with
    | nil =>
     delta iEb
     dsimp only;split
     ·rename_i h;rw [Bool.and_eq_true] at h;split
      ·rename_i T f eT;exact Xd eT (S.e O _) h.1 h.2
      ·exact iR (E:=E0) (fun c ps g hg=>O.g.met c _ ps g hg) O.room Oo (S.e O _) (Di h.1) h.2
     ·exact Ba
    | cons a es =>
     delta iEb
     dsimp only;split
     ·rename_i h;simp only [Bool.and_eq_true] at h;obtain ⟨⟨⟨⟨h1,h2⟩,h3⟩,h4⟩,h5⟩:=h;split
      ·rename_i hm;have em:=eq_of_beq hm;subst em;rw [Bool.not_eq_true'] at h3;split
       ·rename_i kvs hd;exact Ba
       ·exact Ba
      split
      ·rename_i hm;rw [Bool.and_eq_true] at hm;have em:=eq_of_beq hm.1;subst em;rw [Bool.not_eq_true'] at h3;exact U5 (Mu PySem.F.plainAttrs_tuple PySem.F.slot_tuple_count PySem.F.type_tuple_count M5 (S.e O _) (S.a O _) (Di h1) (Pb h3 h4 (of_decide_eq_true h5)) h2 (Ci h3) (Bv h4))
        (Mu PySem.F.plainAttrs_list PySem.F.slot_list_count PySem.F.type_list_count M5 (S.e O _) (S.a O _) (Di h1) (Pb h3 h4 (of_decide_eq_true h5)) h2 (Ci h3) (Bv h4))
      split
      ·rename_i hm;rw [Bool.and_eq_true] at hm;have em:=eq_of_beq hm.1;subst em;rw [Bool.not_eq_true'] at h3;exact U5 (Mu PySem.F.plainAttrs_tuple PySem.F.slot_tuple_index PySem.F.type_tuple_index M5 (S.e O _) (S.a O _) (Di h1) (Pb h3 h4 (of_decide_eq_true h5)) h2 (Ci h3) (Bv h4))
        (Mu PySem.F.plainAttrs_list PySem.F.slot_list_index PySem.F.type_list_index M5 (S.e O _) (S.a O _) (Di h1) (Pb h3 h4 (of_decide_eq_true h5)) h2 (Ci h3) (Bv h4))
      split
      ·rename_i T f eT;exact cB eT (S.e O _) (S.a O _) h1 h2 (by simpa using h3) h4 (of_decide_eq_true h5)
      ·rw [Bool.not_eq_true'] at h3;exact tR (E:=E0) (fun c ps g hg=>O.g.met c _ ps g hg) O.room Oo (S.e O _) (S.a O _) (Di h1) (Pb h3 h4 (of_decide_eq_true h5)) h2 (Ci h3) (Bv h4)
     ·exact Ba
  | _=>cases args <;> exact Ba
 | ListComp elt gens scope p =>
  cases gens with
  | nil=>exact Ba
  | cons g gens =>
   obtain ⟨tg,iter,ifs,kk⟩:=g;cases gens with
   | cons _ _=>exact Ba
   | nil =>
    delta iEb
    dsimp only;split
    ·rename_i h;simp only [Bool.and_eq_true] at h;obtain ⟨⟨h1,h2⟩,h3⟩:=h;have e:=eq_of_beq h1;subst e;split
     ·rename_i ws g eg;split
      ·rename_i hw;refine sV (N':=Dn scope) O.calm (Lq O h2) (Vc O scope) (fun i hi j q=>?_) (S.i O tg iter) (fun p C c s h f=>(O.comp h2 p C c s h f).target eg) (fun p C c s h f=>S.f (O.comp h2 p C c s h f) ifs) (fun p C c s h f=>S.e (O.comp h2 p C c s h f) elt) (Xb (by simpa using h3));have z:=List.all_eq_true.mp hw i hi;rw [q] at z;cases z
      ·exact Ba
     ·exact Ba
    ·exact Ba
 | _=>exact Ba
theorem snd (G:Gb):∀ n,SndE G n
 | 0=>jM G
 | n+1=>⟨fun O=>Aez (snd G n) O,fun O=>Aey (snd G n) O,fun O=>Aev (snd G n) O,fun O=>Aew (snd G n) O,fun O=>Aex (snd G n) O⟩
theorem Rj {pos:Pos}{i j:Int}{c v:Value}(l:List Value) (h:TriplesOk l) (e:codeAmong pos (l++[rawInt i,rawInt j,c])=some v):codeAmong pos l=some v\/v=c:=by
 fun_induction TriplesOk l with
 | case1 =>
  simp only [List.nil_append,codeAmong,rawInt] at e;split at e
  ·cases e;exact .inr rfl
  ·cases e
 | case2 a t b u x rest ih =>
  simp only [List.cons_append,codeAmong] at e ⊢;split at e
  ·rename_i hc;rw [if_pos hc];exact .inl e
  ·rename_i hc;rw [if_neg hc];exact ih h e
 | case3 l h1 h2=>exact h.elim
section
variable {K:PySem.W.Frag}{H:Hp}{ρ:List Addr}
theorem Ev.tab {p:Addr}{ys zs:Array Value}(hp:H p=some (.tbl ys)):Ev K H ρ (upd H p (.tbl zs)) ρ:=by
 have ne:∀ {a:Addr} {o:HO},H a=some o->(∀ ps,o≠.tbl ps)->upd H p (.tbl zs) a=some o:=fun {a o} h n=>by
  rw [Ah (Kg h hp (n ys))];exact h
 refine ⟨fun a xs h=>?_,List.prefix_refl _,fun a xs h=>?_,fun a C dx fs h=>ne h (fun _ z=>by cases z),fun a o u h=>ne h (fun _ z=>by cases z)⟩
 ·rcases h with (h|⟨ob,h⟩)|h
  ·exact .inl (.inl (ne h (fun _ z=>by cases z)))
  ·exact .inl (.inr ⟨ob,ne h (fun _ z=>by cases z)⟩)
  ·exact .inr h
 ·rcases h with ⟨ob,h⟩|h
  ·exact .inl ⟨ob,ne h (fun _ z=>by cases z)⟩
  ·exact .inr h
theorem RS.tab {mh:MH}{n:Nat}{p:Addr}{ys zs:Array Value}(h:RS K H ρ mh) (hn:ρ[n]?=some p) (hm:mh[n]?=some .plc) (hp:H p=some (.tbl ys)) (new:eY K (upd H p (.tbl zs)) p):RS K (upd H p (.tbl zs)) ρ mh :=
 ⟨h.len,h.nd,fun m a ob e1 e2=>by
  by_cases hm':n=m
  ·subst hm';rw [hn] at e1;cases e1;rw [hm] at e2;cases e2;exact new
  ·refine (h.obj m a ob e1 e2).mono (Ev.tab hp) ?_;rw [Ah];intro z;subst z
   exact hm' ((List.getElem?_inj (List.getElem?_eq_some_iff.mp hn).1 h.nd).mp (hn.trans e1.symm))⟩
theorem RS.tabQ {mh:MH}{n:Nat}{p:Addr}{ys zs:Array Value}(h:RS K H ρ mh) (hn:ρ[n]?=some p) {x:Str}(hm:mh[n]?=some (.plq x)) (hp:H p=some (.tbl ys)) (new:fD K (upd H p (.tbl zs)) x p):RS K (upd H p (.tbl zs)) ρ mh :=
 ⟨h.len,h.nd,fun m a ob e1 e2=>by
  by_cases hm':n=m
  ·subst hm';rw [hn] at e1;cases e1;rw [hm] at e2;cases e2;exact new
  ·refine (h.obj m a ob e1 e2).mono (Ev.tab hp) ?_;rw [Ah];intro z;subst z
   exact hm' ((List.getElem?_inj (List.getElem?_eq_some_iff.mp hn).1 h.nd).mp (hn.trans e1.symm))⟩
end
noncomputable abbrev uT:HO:=.ext fun _=>True
section
variable {P:Program}{w:World}{H:Hp}{h h2:Heap}{pl c a:Addr}{tb more:Array Value}{oc ob:Obj}{fs:List Addr}
noncomputable abbrev H3 (H:Hp) (c:Addr) (oc:Obj) (pl:Addr) (tb:Array Value) (a:Addr) (ob:Obj):Hp:=upd (upd (upd H c (.frz oc uT)) pl (.tbl tb)) a (.frz ob uT)
theorem Zh {b:Addr}{o:HO}(e:H b=some o) (n:∀ ps,o≠.tbl ps) (ht:H pl=some (.tbl tb)) (fc:H c=none) (fa:H a=none):H3 H c oc pl (tb++more) a ob b=some o:=by
 unfold H3;rw [Ah (Am e fa),Ah (Kg e ht (n tb)),Ah (Am e fc)];exact e
theorem Zj (ok:HOk P w H h) (ht:H pl=some (.tbl tb)) (fc:H c=none) (fa:H a=none) (nca:c≠a) (k:∀ b o,b≠pl->h.get? b=some o->h2.get? b=some o)
  (hpl:h2.get? pl=some (PySem.W.tabObj (tb++more))) (hc:h2.get? c=some oc) (ha:h2.get? a=some ob):HOk P w (H3 H c oc pl (tb++more) a ob) h2:=fun b o e=>by
 by_cases b1:b=a
 ·subst b1;unfold H3 at e;rw [Be] at e;cases e;exact ⟨ha,trivial,⟨_,ha⟩,fun _ _ _ _=>trivial⟩
 ·by_cases b2:b=pl
  ·subst b2;unfold H3 at e;rw [Ah b1,Be] at e;cases e;exact hpl
  ·by_cases b3:b=c
   ·subst b3;unfold H3 at e;rw [Ah b1,Ah b2,Be] at e;cases e;exact ⟨hc,trivial,⟨_,hc⟩,fun _ _ _ _=>trivial⟩
   ·have e0:H b=some o:=by
     unfold H3 at e;rw [Ah b1,Ah b2,Ah b3] at e;exact e
    refine (ok b o e0).stay (fun x u hx q=>k x u (fun z=>?_) q) (fun x q=>Zh q (fun _ z=>by cases z) ht fc fa) fun x xs q=>Zh q (fun _ z=>by cases z) ht fc fa
    rcases hx with rfl|hx
    ·exact b2 z
    ·subst z;rw [ht] at hx;cases hx
theorem jN (ht:H pl=some (.tbl tb)) (fc:H c=none) (fa:H a=none) (sc:h.objs.size<=c) (sa:h.objs.size<=a) (k:∀ b o,b≠pl->h.get? b=some o->h2.get? b=some o)
  (hpl:h2.get? pl=some (PySem.W.tabObj (tb++more))):Un fs [] H (H3 H c oc pl (tb++more) a ob) h h2:=by
 have np:∀ b,H b=none->b≠pl:=fun b n z=>by subst z;rw [ht] at n;cases n
 refine ⟨fun b o e n _ _=>k b o (np b n) e,fun b o e n _ _=>⟨o.slots,k b o (np b n) e⟩,fun b o e n _=>?_,fun b o e _=>?_,fun b xs e=>Zh e (fun _ z=>by cases z) ht fc fa,fun b o u e=>Zh e (fun _ z=>by cases z) ht fc fa,fun b ps e=>?_⟩
 ·unfold H3;rw [Ah (Nat.ne_of_lt (Nat.lt_of_lt_of_le (Heap.lt_size e) sa)),Ah (np b n),Ah (Nat.ne_of_lt (Nat.lt_of_lt_of_le (Heap.lt_size e) sc))];exact n
 ·by_cases z:b=pl
  ·subst z;exact ⟨_,hpl⟩
  ·exact ⟨o,k b o z e⟩
 ·unfold H3;rw [Ah (Am e fa)]
  by_cases z:b=pl
  ·subst z;rw [ht] at e;cases e;exact ⟨more,by rw [Be]⟩
  ·exact ⟨#[],by rw [Ah z,Ah (Am e fc),e];simp⟩
end
structure LamT (lps:Arguments) (body:Expr) (lsc:Scope):Prop where
 d:∀ env,defaultsOf lps env=([],[])
 c:∀ env,closureFor lsc env=pure []
 f:∀ name qual pm cdv ct,Yt (PySem.W.kla_fn name qual lps body lsc [] pm cdv ct)
section
variable {X:Cx}
theorem Aax {lps:Arguments}{body:Expr}{lsc:Scope}{lpos:Pos}{loc:DL.Loc}{mh:MH}(L:LamT lps body lsc) (hq:X.env.qual ++ "<lambda>"=rK)
  (hX:∃ (f:Addr) (o:Obj) (fd:FuncData),PySem.W.nsIn X.K mainGlobals "pattern_of"=some (some (.ref f))/\X.K.lookup f=some o/\o.data=.func fd/\X.env.code=fd.code) (h0:mh[0]?=some .plc) :
  PE X (.Lambda lps body lsc lpos) (tD X.K loc mh (some (.lam,mh))):=by
 rintro pins s σ H Q I ⟨ρ,d,mh',q,rl,rs,co⟩;cases q;obtain ⟨pl,hpl,ro⟩:=rs.at h0;obtain ⟨tb,ht,tri,cod,pk⟩:=(show eY X.K H pl from ro);obtain ⟨f,o,fd,c,bm,ob,n1,n2,n3,n4,n5,b1,b2,b3,b4,b5,b6,b7⟩:=id pk;obtain ⟨f',o',fd',m1,m2,m3,m4⟩:=hX;rw [n1] at m1;cases m1;rw [n2] at m2;cases m2;rw [n3] at m3;cases m3;rw [n4] at m4;have hP:s.heap.get? pl=some (PySem.W.tabObj tb):=I.hok pl _ ht;have C:=PySem.W.codeHd_of_K I.kIn n5;have hg:s.heap.Ns mainGlobals X.mg:=I.mod.glob.keeps I.bk;have hgP:mainGlobals≠pl:=fun z=>by
  obtain ⟨o,es,ep,e,hd,_⟩:=hg;rw [z,hP] at e;cases e;cases hd
 have hb:s.heap.BuiltinsAt X.mg pl:=⟨bm,ob,PySem.W.mg_of I.kIn hg b1,b6,b7,(fun z=>by
  have e:=I.kIn _ _ b2
  rw [z,hP] at e;cases e;cases b3),I.kIn _ _ b2,b3,b4,b5⟩
 refine PySem.W.kla_eval (L.d _) ?_;rw [hq];cases hm:codeAmong lpos tb.toList with
 | none =>
  refine PySem.W.kla_makeFunction (L.c _) I.ok.glob hg m4 C hP tri hm hgP hb fun c' ctv h' tk hx hge hlt hrec htb=>?_
  obtain ⟨c2,oc,vs,tq,e1,e2,e3,e4⟩:=hrec;cases e1;have fc:H c'=none:=I.hok.fresh hge;have sa:s.heap.objs.size<=h'.objs.size:=Nat.le_of_lt (Nat.lt_of_le_of_lt hge hlt);have fa:H h'.objs.size=none:=I.hok.fresh sa;have nca:c'≠h'.objs.size:=Nat.ne_of_lt hlt;have npa:h'.objs.size≠pl:=Nat.ne_of_gt (Heap.lt_size htb);have kk:∀ (ob:Obj) b o,b≠pl->s.heap.get? b=some o->(h'.push ob).get? b=some o:=fun ob b o n e=>Heap.get?_push_of_some _ (hx b o n e)
  have rs1:=(rs.new (o:=.frz oc uT) fc);have t1:upd H c' (.frz oc uT) pl=some (.tbl tb):=by rw [Ah (Am ht fc)];exact ht
  have fr:∀ a o u,H a=some (.frz o u)->upd (upd H c' (.frz oc uT)) pl (.tbl (tb++#[rawInt lpos.line,rawInt lpos.col,.ref c'])) a=some (.frz o u):=fun a o u e=>by
   rw [Ah (Kg e ht (by intro z;cases z)),Ah (Am e fc)];exact e
  have ncp:c'≠pl:=fun z=>by subst z;rw [ht] at fc;cases fc
  have cd1:Nq (upd (upd H c' (.frz oc uT)) pl (.tbl (tb++#[rawInt lpos.line,rawInt lpos.col,.ref c']))) (.ref c') rK:=⟨c',oc,uT,vs,tq,rfl,by rw [Ah ncp,Be],e3,e4⟩
  have rs2:=rs1.tab (zs:=tb++#[rawInt lpos.line,rawInt lpos.col,.ref c']) hpl h0 t1 ⟨_,Be,by
    simpa using TriplesOk_snoc lpos.line lpos.col (.ref c') _ tri,fun pos v z=>by
    rcases Rj _ tri (by simpa using z) with z|z
    ·exact (cod pos v z).mono fr
    ·subst z;exact cd1,pk⟩
  have f2:upd (upd H c' (.frz oc uT)) pl (.tbl (tb++#[rawInt lpos.line,rawInt lpos.col,.ref c'])) h'.objs.size=none:=by rw [Ah npa,Ah (Ne.symm nca)];exact fa
  have ev:Ev X.K H ρ _ ρ:=((Ev.new (o:=.frz oc uT) fc).trans (Ev.tab (zs:=tb++#[rawInt lpos.line,rawInt lpos.col,.ref c']) t1)).trans (Ev.new (o:=.frz (PySem.W.kla_obj "<lambda>" rK lps body lsc [] ((X.mg "__name__").getD .none) c' ctv) uT) f2);refine ⟨.ref h'.objs.size,H3 H c' oc pl _ h'.objs.size _,I.un (jN ht fc fa hge sa (kk _) (Heap.get?_push_of_some _ htb)) (Zj I.hok ht fc fa nca (kk _) (Heap.get?_push_of_some _ htb) (Heap.get?_push_of_some _ e2) (Heap.get?_push_size _ rfl)),rfl,?_⟩;exact co _ ρ _ ev (rs2.new f2) (.lam ⟨_,uT,_,Be,rfl,L.f _ _ _ _ _,cd1.mono fun a o u e=>by unfold H3;rw [Ah (Am e f2)];exact e⟩)
 | some cv =>
  obtain ⟨c',oc,u,vs,tq,rfl,e2,e3,e4⟩:=cod lpos cv hm;refine PySem.W.kla_makeFunctionHit (L.c _) I.ok.glob hg m4 C hP tri hm hb fun ctv h' tk hk hsz=>?_
  have fa:H h'.objs.size=none:=I.hok.fresh hsz;refine ⟨.ref h'.objs.size,upd H h'.objs.size (.frz _ uT),I.laid (t':=tk) (fun b u e=>Heap.get?_push_of_some _ (hk b u e)) hsz ⟨Heap.get?_push_size _ rfl,trivial,⟨_,Heap.get?_push_size _ rfl⟩,fun _ _ _ _=>trivial⟩,rfl,?_⟩;exact co _ ρ _ (Ev.new fa) (rs.new fa) (.lam ⟨_,uT,_,Be,rfl,L.f _ _ _ _ _,c',oc,u,vs,tq,rfl,by rw [Ah (Am e2 fa)];exact e2,e3,e4⟩)
noncomputable def Aay:DM D:=fun _ mh=>match mh[0]? with
 | some MO.plc=>some (D.lam,mh)
 | _=>none
end
theorem H9 {K:PySem.W.Frag}{H:Hp}{ρ:List Addr}{N:List Str}{ds:List D}{vs:List V}(r:RDs K H ρ ds vs):RL K H ρ (ds.map some++List.replicate (N.length - ds.length) none) (L2.start N vs):=by
 have hl:=r.length;unfold L2.start;refine ⟨by simp [hl],fun i d e=>?_⟩
 by_cases hi:i < ds.length
 ·rw [List.getElem?_append_left (by simpa using hi),List.getElem?_map] at e;cases q:ds[i]? with
  | none=>rw [q] at e;cases e
  | some d' =>
   rw [q] at e;cases e;obtain ⟨v,e1,r1⟩:=r.get q;exact ⟨v,by rw [List.getElem?_append_left (by simp;omega),List.getElem?_map,e1];rfl,r1⟩
 ·rw [List.getElem?_append_right (by simpa using hi),List.getElem?_replicate] at e;split at e <;> cases e
noncomputable def jO (st:Stmt) (a y:Str):Prop:=∃ p1 p2 p3 rpos cpos lps body lsc lpos,Bu st=[.Return (some (.Call (.Name y p1) [.Name a p2,.Name a p3,.Lambda lps body lsc lpos] [] cpos)) rpos]/\LamT lps body lsc /\
  glB (Ai st) y=true/\(y==("__debug__":Str))=false/\(a==("__debug__":Str))=false/\(a==("__classdict__":Str))=false
theorem Aaz {P:Program}{w:World}{K:PySem.W.Frag}{mg:Str->Option Value}{base:Heap}{k:Nat}{G:Gb}{st:Stmt}{f:Addr}{fd:FuncData}{N:List Str}{a y:Str}(g:GOk P w K mg base k G) (F:Fun K "pattern_of" "pattern_of" st f fd)
  (hn:PySem.W.nsIn K mainGlobals "pattern_of"=some (some (.ref f))) (S:FnScope N [a] (Ai st)) (L:jO st a y):FnOk P w K mg base CX0 (k+3) f fd [a] (spD K 1 (lamF G y)):=by
 obtain ⟨⟨oc,od,kV,doc,pm,an,cdv,ct,osl,rfl,lk,hcd⟩,kp⟩:=F;obtain ⟨p1,p2,p3,rpos,cpos,lps,body,lsc,lpos,hb,LT,hy,hyd,ha1,ha2⟩:=L;refine wA lk hcd S (fun vs H Q E h=>h.1) fun A outer s H vs Q E hr h=>?_
 obtain ⟨hl,ρ,mh,ds,d,mh',q,rs,r,co⟩:=h;unfold lamF at q;split at q
 ·rename_i d0 ps gf h0 hg;obtain ⟨fa,fdz,g1,g2,g3,g4,g5⟩:=g.fn _ _ _ hg;have hN:N[0]?=some a:=by
   have:=S.pre
   match N,this with
   | n::r,z=>simp at z;rw [z];rfl
  have va:Vis (Ai st) a:=(S.par a (by simp)).elim .inl fun h=>.inr (.inl h)
  have dl:DE (Jt CX0 P w K mg base N "pattern_of" (Ai st) f cdv A outer s H E) (.Lambda lps body lsc lpos) Aay:=fun loc mh=>by
   unfold Aay;split
   ·rename_i h0;exact Aax LT rfl ⟨f,_,_,hn,lk,rfl,rfl⟩ h0
   ·exact Bo
  have dv:∀ p,DE (Jt CX0 P w K mg base N "pattern_of" (Ai st) f cdv A outer s H E) (.Name a p) _:=fun p=>fK (i:=0) hN va ha1 ha2
  have dc:=Y6 (p:=p1) (pos:=cpos) g4 hr (jK hy) g1 g2 g3 Oo (Nz (dv p2) (Nz (dv p3) (Nz dl fP rfl) rfl) rfl) g5 hyd rfl rfl;refine ⟨_,by rw [hb];exact Ur (fZ (pos:=rpos) dc) Y5,?_⟩;refine ⟨_,mh,ρ,.rt d,[d0].map some++List.replicate (N.length - [d0].length) none,mh',?_,H9 r,rs,co⟩;cases N with
  | nil=>cases hN
  | cons n r =>
   simp [Ab,retS,DM.bnd,Aa,Zr,Zl,Aay,h0,q]
 ·cases q
theorem Iu {X:Cx}{st:Stmt}{g:GM}:DS X st (Bd Zb g):=fun _ _ _ _ _ _ h=>by obtain ⟨_,_,_,_,_,_,e,_⟩:=h;cases e
theorem Xf {G:Gb}{X:Cx}{k:Nat}{sc:SC}(O:XOk X k G sc) (n:Nat) {y:Str}{py vp spos:Pos}{elt:Expr}{gens:List Comprehension}{scope:Scope}{ws:List Nat}{gy:GM}(hgy:iG sc (.Name y py)=some (ws,gy)) :
  DS X (.Assign [.Name y py] (.ListComp elt gens scope vp) spos) (Bd (iE G n sc (.ListComp elt gens scope vp)) gy):=by
 have hg:=O.target hgy;have sw:swapsWith (.ListComp elt gens scope vp) (some (.Name y py)) spos.line X.env=pure (X.env.blockKind==.function&&X.env.kindOf y==some .local&&py.line==vp.line&&!(scope.names.any fun (n,k)=>n==y&&(k==.local || k==.cell))):=rfl;cases hb:(X.env.blockKind==.function&&X.env.kindOf y==some .local&&py.line==vp.line&&!(scope.names.any fun (n,k)=>n==y&&(k==.local || k==.cell))) with
 | false =>
  rw [hb] at sw;exact Wt ((snd G n).e O _) hg sw rfl rfl
 | true =>
  rw [hb] at sw;cases n with
  | zero=>exact Iu
  | succ n =>
   show DS X _ (Bd (iEb (iE G n) (iT G n) (iA G n) (iF G n) (iI G n) G sc _) gy)
   match gens with
   | []=>exact Iu
   | ⟨_,_,_,_⟩::_::_=>exact Iu
   | [⟨tg,iter,ifs,kk⟩] =>
    delta iEb
    dsimp only;split
    ·rename_i h;simp only [Bool.and_eq_true] at h;obtain ⟨⟨h1,h2⟩,h3⟩:=h;have e:=eq_of_beq h1;subst e;split
     ·rename_i ws g eg;split
      ·rename_i hw;refine Wu (N':=Dn scope) O.calm (Lq O h2) (Vc O scope) (fun i hi j q=>?_) ((snd G n).i O tg iter) (fun p C c s h f=>(O.comp h2 p C c s h f).target eg) (fun p C c s h f=>(snd G n).f (O.comp h2 p C c s h f) ifs) (fun p C c s h f=>(snd G n).e (O.comp h2 p C c s h f) elt) hg sw (Xb (by simpa using h3));have z:=List.all_eq_true.mp hw i hi;rw [q] at z;cases z
      ·exact Iu
     ·exact Iu
    ·exact Iu
theorem Vf {v tg:Expr}{line:Nat}{env:Env}(h:Ir v=false):swapsWithSole [tg] v line env=pure false:=by
 show swapsWith v (some tg) line env=pure false;cases v <;> first | rfl | cases h
theorem cC {v:Expr}{line:Nat}{env:Env}(h:Ir v=false):swapsWith v none line env=pure false:=by
 cases v <;> first | rfl | cases h
theorem M7 {v tg:Expr}{env:Env}(h:(Et tg&&Et v)=false) (hl:∀ es p,tg≠.List es p):swappedStores [tg] v env=pure none:=by
 cases tg with
 | Tuple ts kk p =>
  cases v with
  | Tuple vs k2 p2=>cases h
  | _=>rfl
 | List es p=>exact (hl es p rfl).elim
 | _=>first | rfl | (cases v <;> rfl)
theorem Aa0 {x y:Str}{a b:Expr}{px py pt pt2:Pos}{kt k2:Nat}{env:Env}(hb:(env.blockKind==.function)=true) (hx:(env.kindOf x==some .local)=true) (hy:(env.kindOf y==some .local)=true) (hl:(py.line==px.line)=true) (hne:(x==y)=false) (sa:isStar a=false) (sb:isStar b=false)
  (hf:[a,b].all (foldedForSure 8)=false) (hc:[a,b].all (constantsAlone 8)=false):swappedStores [.Tuple [.Name x px,.Name y py] kt pt] (.Tuple [a,b] k2 pt2) env=pure (some [x,y]):=by
 have he:([x,y].eraseDups.length != [x,y].length)=false:=by
  have:(y==x)=false:=by
   cases q:(y==x) with
   | false=>rfl
   | true=>rw [eq_of_beq q] at hne;simp at hne
  simp [List.eraseDups_cons,this,hne]
 have hbk:(env.blockKind != .function)=false:=by rw [bne,hb];rfl
 have e1:(Option.map (fun e:Expr=>e.pos.line) [Expr.Name x px,Expr.Name y py].head?).getD 0=px.line:=rfl;unfold swappedStores;dsimp only;refine (if_neg ?_).trans ?_
 ·simp [hbk]
 refine (if_neg ?_).trans ?_
 ·simp only [List.any_cons,List.any_nil,Bool.or_false];rw [Bool.not_eq_true,Bool.or_eq_false_iff];constructor
  ·cases a <;> first | rfl | cases sa
  ·cases b <;> first | rfl | cases sb
 simp only [e1,List.filterMap_cons,List.filterMap_nil,hx,hy,hl,beq_self_eq_true,Bool.and_self,if_true];refine (if_neg ?_).trans ?_
 ·rw [he];simp
 rw [if_neg (by rw [hf];simp),if_neg (by rw [hc];simp)]
theorem Aa1 {X:Cx}{i j:Nat}{x y:Str}{a b:Expr}{mr:DM (List D)}{px py pt pt2 pos:Pos}{kt k2:Nat}(hc:X.calm=true) (hN:X.N.Nodup) (hi:X.N[i]?=some x) (hj:X.N[j]?=some y) (hij:i≠j) (hx:X.env.scope.names.lookup x=some .local) (hy:X.env.scope.names.lookup y=some .local) (ha:DA X [a,b] mr)
  (hw:swappedStores [.Tuple [.Name x px,.Name y py] kt pt] (.Tuple [a,b] k2 pt2) X.env=pure (some [x,y])):DS X (.Assign [.Tuple [.Name x px,.Name y py] kt pt] (.Tuple [a,b] k2 pt2) pos) (Aav mr i j):=by
 rintro pins s σ H N I ⟨loc,mh,ρ,f,loc',mh',e,rl,rs,co⟩;refine yJ hc hN hi hj hij hx hy (ha loc mh) hw rfl pins s σ H N I ?_;unfold Aav at e;split at e
 ·rename_i d1 d2 h1 er;cases e;refine ⟨ρ,[d1,d2],mh',er,rl,rs,fun H' ρ' vs e' rs' r'=>?_⟩;cases r' with
  | cons r1 r' =>
   cases r' with
   | cons r2 r' =>
    cases r';exact ⟨_,_,rfl,co H' ρ' _ e' rs' (((rl.mono e').set r1).set r2)⟩
 ·cases e
theorem Ae0 (G:Gb) (n:Nat) (ihss:∀ {X:Cx}{k:Nat}{sc:SC},XOk X k G sc->∀ ss,DSs X ss (iSs G n sc ss)) {X:Cx}{k:Nat}{sc:SC}(O:XOk X k G sc) (s:Stmt):DS X s (iSb n (iSs G n) G sc s):=by
 have S:=snd G n;cases s with
 | Expr e p =>
  delta iSb
  dsimp only;split
  ·exact Dt
  ·rename_i h;exact sI (S.e O _) (cC (by simpa using h))
 | Pass _=>exact sG
 | Break _=>exact fY
 | Continue _=>exact Us
 | Return e _ =>
  cases e with
  | some e=>exact fZ (S.e O _)
  | none=>exact sH
 | Assign ts v p =>
  cases ts with
  | nil=>exact Dt
  | cons tg r =>
   cases r with
   | cons _ _=>exact Dt
   | nil =>
    have gen:DS X (.Assign [tg] v p) (if Ir v || (Et tg&&Et v) then SM.bad else (match iGt G n sc tg with | some g=>Bd (iE G n sc v) g | none=>SM.bad)):=by
     split
     ·exact Dt
     ·rename_i h;have h:Ir v=false/\(Et tg&&Et v)=false:=by
       rw [Bool.not_eq_true,Bool.or_eq_false_iff] at h;exact h
      split
      ·rename_i g eg;have gen:(match iG sc tg with | some (_,g)=>some g | none=>none)=some g->DS X (.Assign [tg] v p) (Bd (iE G n sc v) g):=fun eg=>by
        split at eg
        ·rename_i ws g' eg';cases eg;refine Wt (S.e O _) (O.target eg') (Vf h.1) (M7 h.2 (fun es p z=>by subst z;simp [iG] at eg')) ?_;cases tg <;> first | rfl | (simp [iG] at eg')
        ·cases eg
       cases tg with
       | Subscript o i p' =>
        simp only [iGt] at eg;split at eg
        ·cases eg
        ·rename_i hs;cases eg;have hs:isSlice i=false:=by simpa using hs
         refine Wt (S.e O _) (Aag (S.e O _) (S.e O _) ?_) (Vf h.1) (M7 h.2 (fun _ _ z=>by cases z)) rfl;intro v';cases i <;> first | rfl | cases hs
       | _=>exact gen eg
      ·exact Dt
    cases tg with
    | Name y py =>
     cases v with
     | ListComp elt gens scope vp =>
      delta iSb
      dsimp only
      delta Aaw
      dsimp only;split
      ·rename_i ws g eg;exact Xf O n eg
      ·exact Dt
     | _=>exact gen
    | Tuple tl kt pt =>
     cases tl with
     | nil=>exact gen
     | cons t1 tl =>
      cases t1 with
      | Name x px =>
       cases tl with
       | nil=>exact gen
       | cons t2 tl =>
        cases t2 with
        | Name y py =>
         cases tl with
         | cons _ _=>exact gen
         | nil =>
          cases v with
          | Tuple vl k2 pt2 =>
           cases vl with
           | nil=>exact gen
           | cons a vl =>
            cases vl with
            | nil=>exact gen
            | cons b vl =>
             cases vl with
             | cons _ _=>exact gen
             | nil =>
              delta iSb
              dsimp only
              delta Aaw
              dsimp only;split
              ·rename_i h;unfold Aet at h;simp only [Bool.and_eq_true,Bool.not_eq_true'] at h;obtain ⟨⟨⟨⟨⟨⟨⟨⟨h1,h2⟩,h3⟩,h4⟩,h5⟩,h6⟩,h7⟩,h8⟩,h9⟩:=h;split
               ·rename_i i j ei ej;have hi:=Ei ei;have hj:=Ei ej;refine Aa1 O.calm (by rw [O.N];exact O.nd) (by rw [O.N];exact hi) (by rw [O.N];exact hj) (fun z=>?_) (by rw [O.sco];exact eq_of_beq h2) (by rw [O.sco];exact eq_of_beq h3) (S.a O _) (Aa0 ?_ ?_ ?_ h4 h5 h6 h7 h8 h9)
                ·subst z;rw [hi] at hj;cases hj;simp at h5
                ·unfold Env.blockKind;rw [O.sco];exact h1
                ·unfold Env.kindOf;rw [O.sco];exact h2
                ·unfold Env.kindOf;rw [O.sco];exact h3
               ·exact Dt
              ·exact Dt
          | _=>exact gen
        | _=>exact gen
      | _=>exact gen
    | _=>exact gen
 | If c a b _=>exact Aen (S.t O _) (ihss O _) (ihss O _)
 | While c body els _ =>
  cases els with
  | cons _ _=>exact Dt
  | nil =>
   refine gF ?_ (S.t O _) (ihss O _);rw [O.xe];exact PassesOwn.never
 | For tg it body els _ =>
  cases els with
  | cons _ _=>exact Dt
  | nil =>
   delta iSb
   dsimp only;split
   ·exact Dt
   ·rename_i h;split
    ·rename_i ws g eg;refine Aah ?_ O.calm (S.i O _ _) (O.target eg) (ihss O _) (Xb (by simpa using h));rw [O.xe];exact PassesOwn.never
    ·exact Dt
 | _=>exact Dt
theorem tY (G:Gb) (n:Nat):(∀ {X:Cx}{k:Nat}{sc:SC},XOk X k G sc->∀ s,DS X s (iS G n sc s))/\(∀ {X:Cx}{k:Nat}{sc:SC},XOk X k G sc->∀ ss,DSs X ss (iSs G n sc ss)):=by
 induction n with
 | zero=>exact ⟨fun _ _=>Dt,fun _ _ _ _ _ _ _ _ h=>by obtain ⟨_,_,_,_,_,_,e,_⟩:=h;cases e⟩
 | succ n ih =>
  refine ⟨fun {X k sc} O s=>Ae0 G n (fun O ss=>ih.2 O ss) O s,fun {X k sc} O ss=>?_⟩;cases ss with
  | nil=>exact Y5
  | cons s r=>exact Ur (ih.1 O s) (ih.2 O r)
theorem wM {P:Program}{w:World}{K:PySem.W.Frag}{mg:Str->Option Value}{base:Heap}{k:Nat}{G:Gb}{x qual:Str}{st:Stmt}{f:Addr}{fd:FuncData}{I:FnI}(g:GOk P w K mg base k G) (F:Fun K x qual st f fd) (S:FnScope I.N I.ps (Ai st))
  (hs:I.scope=Ai st) (hb:I.body=Bu st) (n:Nat):FnOk P w K mg base CX0 (k+3) f fd I.ps (spD K I.ps.length (Ac G n I)):=by
 refine F.ok S (fun vs H Q E h=>h.1) fun cdv A outer s H vs Q E hr h=>?_
 obtain ⟨hl,ρ,mh,ds,d,mh',q,rs,r,co⟩:=h;refine ⟨_,(tY G n).2 (sc:={ N:=I.N,scope:=I.scope,own:=fun _=>true }) ⟨rfl,S.nd,hs.symm,fun _ _ _=>.inl rfl,rfl,rfl,hr,g⟩ (Bu st),?_⟩;unfold Ac at q;split at q
 ·split at q
  ·rename_i d' loc' m' e;cases q;exact ⟨_,mh,ρ,.rt d,loc',mh',by rw [← hb];exact e,H9 r,rs,co⟩
  ·rename_i loc' m' e;cases q;exact ⟨_,mh,ρ,.nx,loc',mh',by rw [← hb];exact e,H9 r,rs,fun H' ρ' σ' e' rs' _=>co H' ρ' _ e' rs' .non⟩
  ·cases q
 ·cases q
theorem Vg {G:Gb}{n:Nat}{I:FnI}{ds:List D}{mh:MH}{r:D×MH}(h:Ac G n I ds mh=some r):ds.length=I.ps.length:=by
 unfold Ac at h;split at h
 ·assumption
 ·cases h
noncomputable def Zk (P:Program) (w:World) (K:PySem.W.Frag) (mg:Str->Option Value) (base:Heap) (I:CloI) (qual:Str) (f:Addr) (cd:Value) (cl:List (Str×Addr)) (A:Around) (outer:List Env) (s:Shared) (H:Hp):Cx where
 prog:=P
 w:=w
 K:=K
 mg:=mg
 base:=base
 A:=A.deeper (PySem.W.envX qual I.scope s.heap.objs.size f cd cl)
 N:=I.N++I.fr
 s₀:=s
 H₀:=H
 env:=PySem.W.envX qual I.scope s.heap.objs.size f cd cl
 outer:=outer
 stack:=PySem.W.envX qual I.scope s.heap.objs.size f cd cl::outer
 ex:=[]
 calm:=true
 fn:=fun y=>!(I.fr.contains y)
 pn:=[]
 xe:=fun _ _=>False
theorem Cz.get {H:Hp}:∀ {cs:List Addr}{vs:List V}{i:Nat}{c:Addr},Cz H cs vs->cs[i]?=some c->∃ v oc u w,vs[i]?=some v/\H c=some (.frz oc u)/\oc.data=.cell (some w)/\RelV v w
 | [],[],i,c,_,e=>by simp at e
 | _::_,_::_,0,c,⟨⟨oc,u,w,h1,h2,h3⟩,_⟩,e=>by simp at e;subst e;exact ⟨_,oc,u,w,rfl,h1,h2,h3⟩
 | _::_,_::_,i+1,c,⟨_,t⟩,e=>by
  obtain ⟨v,oc,u,w,h0,h1,h2,h3⟩:=Cz.get (i:=i) t (by simpa using e);exact ⟨v,oc,u,w,by simpa using h0,h1,h2,h3⟩
theorem Cz.len {H:Hp}:∀ {cs:List Addr}{vs:List V},Cz H cs vs->cs.length=vs.length
 | [],[],_=>rfl
 | _::_,_::_,⟨_,t⟩=>by rw [List.length_cons,List.length_cons,Cz.len t]
theorem cD {α:Type}:∀ {cl:List (Str×α)}{i:Nat}{x:Str}{c:α},(cl.map (·.1)).Nodup->cl[i]?=some (x,c)->cl.lookup x=some c:=fun {cl i x c} nd e=>Cq nd (List.mem_of_getElem? e)
theorem Xg {α:Type}{cl:List (Str×α)}{x:Str}{c:α}(e:cl.lookup x=some c):∃ i:Nat,cl[i]?=some (x,c):=by
 obtain ⟨i,hi,e2⟩:=List.getElem_of_mem (PySem.mem_of_lookup e);exact ⟨i,by rw [List.getElem?_eq_getElem hi,e2]⟩
theorem Xh {us:List Value}:∀ {ps:List Str}{i:Nat}{x:Str}{u:Value},ps.Nodup->ps[i]?=some x->us[i]?=some u->(ps.zip us).reverse.lookup x=some u:=fun {ps i x u} nd h1 h2=>by
 refine Cq ?_ (List.mem_reverse.mpr (List.mem_of_getElem? (i:=i) ?_))
 ·rw [List.map_reverse];have h:((ps.zip us).map (·.1)).Nodup:=by
   refine List.Nodup.sublist ?_ nd
   clear h1 h2 nd
   induction ps generalizing us with
   | nil=>simp
   | cons p ps ih =>
    cases us with
    | nil=>simp
    | cons u us=>exact (ih (us:=us)).cons_cons p
  exact List.pairwise_reverse.mpr (h.imp fun z=>Ne.symm z)
 ·rw [List.getElem?_zip_eq_some];exact ⟨h1,h2⟩
section
variable {P:Program}{w:World}{K:PySem.W.Frag}{mg:Str->Option Value}{base:Heap}{k:Nat}{G:Gb}
theorem cF {I:CloI}{qual:Str}{f:Addr}{cd:Value}{cl:List (Str×Addr)}{A:Around}{outer:List Env}{s:Shared}{H:Hp}{us:List Value}{vs xs:List V}{h₁:Heap}{tk:Nat}
  (S:CloSc I) (hn:cl.map (·.1)=I.fr) (hnd:(cl.map (·.2)).Nodup) (hc:Cz H (cl.map (·.2)) xs) (hd:A.handled=none) (e0:Env0 P w K mg base A outer s H) (hl:vs.length=I.ps.length) (r:Vals vs us)
  (hns:h₁.Ns s.heap.objs.size (fun x=>(I.ps.zip us).reverse.lookup x)) (hk:∀ b o,s.heap.get? b=some o->h₁.get? b=some o) :
  Inv (Zk P w K mg base I qual f cd cl A outer s H) [] (vs.map some++List.replicate (I.N.length - vs.length) none++xs.map some) H { s with heap:=h₁,toks:=tk }:=by
 have noA:∀ b:Addr,b ∉ ([]:List Addr):=fun b z=>absurd z (by simp)
 have ndF:(cl.map (·.1)).Nodup:=by rw [hn];exact (List.nodup_append.mp S.nd).2.1
 have ndN:=(List.nodup_append.mp S.nd).1;have hpl:I.ps.length<=I.N.length:=by have:=congrArg List.length S.pre;rw [List.length_take] at this;omega
 have at_:∀ x c,cl.lookup x=some c->∃ i v oc u wv,cl[i]?=some (x,c)/\xs[i]?=some v/\H c=some (.frz oc u)/\oc.data=.cell (some wv)/\RelV v wv:=fun x c e=>by
  obtain ⟨i,ei⟩:=Xg e;obtain ⟨v,oc,u,wv,h0,h1,h2,h3⟩:=hc.get (i:=i) (c:=c) (by rw [List.getElem?_map,ei];rfl);exact ⟨i,v,oc,u,wv,ei,h0,h1,h2,h3⟩
 have cellAt:∀ {c:Addr} {oc:Obj} {u:HO} {wv:Value},H c=some (.frz oc u)->oc.data=.cell (some wv)->h₁.IsCell c (some wv):=fun h1 h2=>⟨_,hk _ _ (e0.hok _ _ h1).1,h2⟩
 have frN:∀ x c,cl.lookup x=some c->x∈I.fr:=fun x c e=>by
  rw [← hn];exact List.mem_map.mpr ⟨(x,c),PySem.mem_of_lookup e,rfl⟩
 have fnF:∀ x,x∈I.fr->(Zk P w K mg base I qual f cd cl A outer s H).fn x=false:=fun x hx=>by
  show (!(I.fr.contains x))=false;rw [List.contains_iff_mem.mpr hx];rfl
 refine ⟨⟨e0.mod,S.kind,rfl,rfl,Nat.le_refl _,fun y z c h1 h2=>?_,fun y hy=>?_,fun y c h1 h2=>?_,fun _=>hd,Around.frames_deeper e0.frames,.inr ⟨rfl,rfl⟩,fun b z=>absurd z (noA b),e0.bs,e0.bsz,fun b _ _=>noA b,fun b z=>absurd z (noA b),e0.funs,e0.frf⟩,
  rfl,e0.bare,Un.kept hk,⟨_,hns,fun i y v h1 h2 h3=>?_⟩,fun y c h=>?_,e0.hok.fresh (Nat.le_refl _),fun y c h=>?_,fun p hp=>absurd (show p∈([]:List (Addr×Obj)) from hp) (by simp),e0.hok.kept hk,?_⟩
 ·have h1:cl.lookup y=some c:=h1;have h2:cl.lookup z=some c:=h2;obtain ⟨i,ei⟩:=Xg h1;obtain ⟨j,ej⟩:=Xg h2;have e1:(cl.map (·.2))[i]?=some c:=by rw [List.getElem?_map,ei];rfl
  have e2:(cl.map (·.2))[j]?=some c:=by rw [List.getElem?_map,ej];rfl
  have:i=j:=(List.getElem?_inj (List.getElem?_eq_some_iff.mp e1).1 hnd).mp (e1.trans e2.symm);subst this;rw [ei] at ej;cases ej;rfl
 ·have hy:I.scope.names.lookup y=some .cell\/I.scope.names.lookup y=some .free:=hy;rcases hy with hy|hy
  ·exact absurd rfl (S.nocell _ (PySem.mem_of_lookup hy))
  ·have:=S.free y hy;rw [← hn] at this;obtain ⟨⟨a,c⟩,hm,rfl⟩:=List.mem_map.mp this;exact ⟨c,Cq ndF hm⟩
 ·rw [fnF y (frN y c h2)] at h1;cases h1
 ·have h1:(I.N++I.fr)[i]?=some y:=h1;have lm:(vs.map some++List.replicate (I.N.length - vs.length) none:List (Option V)).length=I.N.length:=by
   rw [List.length_append,List.length_map,List.length_replicate];omega
  by_cases hi:i < I.N.length
  ·rw [List.getElem?_append_left hi] at h1;rw [List.getElem?_append_left (by rw [lm];exact hi)] at h2
   by_cases hv:i < vs.length
   ·rw [List.getElem?_append_left (by simpa using hv),List.getElem?_map] at h2;have ha:vs[i]?=some v:=by
     cases e:vs[i]? with
     | none=>rw [e] at h2;cases h2
     | some a=>rw [e] at h2;cases h2;rfl
    obtain ⟨u,hu,rv⟩:=r.get ha;have hp:I.ps[i]?=some y:=by
     rw [← S.pre,List.getElem?_take_of_lt (by omega)];exact h1
    have ndP:I.ps.Nodup:=by rw [← S.pre];exact ndN.sublist (List.take_sublist _ _)
    exact ⟨u,rv,.inl ⟨S.par y (List.mem_of_getElem? hp),Xh ndP hp hu⟩⟩
   ·rw [List.getElem?_append_right (by simpa using hv),List.getElem?_replicate] at h2;split at h2 <;> cases h2
  ·rw [List.getElem?_append_right (by omega)] at h1;rw [List.getElem?_append_right (by rw [lm];omega),lm,List.getElem?_map] at h2;rw [← hn,List.getElem?_map] at h1;cases ec:cl[i - I.N.length]? with
   | none=>rw [ec] at h1;cases h1
   | some q =>
    obtain ⟨x,c⟩:=q;rw [ec] at h1;cases h1;obtain ⟨v',oc,u,wv,g0,g1,g2,g3⟩:=hc.get (i:=i - I.N.length) (c:=c) (by rw [List.getElem?_map,ec];rfl);rw [g0] at h2;cases h2;refine ⟨wv,g3,.inr ⟨?_,c,cD ndF ec,cellAt g1 g2⟩⟩;rcases h3 with z|z|z
    ·exact .inr (by
      have hf:x∈I.fr:=by rw [← hn];exact List.mem_map.mpr ⟨(x,c),List.mem_of_getElem? ec,rfl⟩
      exact absurd z (fun z=>by
       have:=S.frs x hf;rw [show I.scope.names.lookup x=some .local from z] at this
       cases this))
    ·exact .inl z
    ·exact .inr z
 ·obtain ⟨i,v,oc,u,wv,_,_,h1,h2,_⟩:=at_ y c h;exact ⟨_,cellAt h1 h2⟩
 ·obtain ⟨i,v,oc,u,wv,_,_,h1,h2,_⟩:=at_ y c h;exact .inr ⟨fnF y (frN y c h),oc,u,h1⟩
 ·show _=(I.N++I.fr).length;have h5:=hc.len;have h6:=congrArg List.length hn;rw [List.length_map] at h5 h6;rw [List.length_append,List.length_append,List.length_append,List.length_map,List.length_replicate,List.length_map];omega
theorem Aa2 {I:CloI}{a:Addr}{fd:FuncData}{cl:List (Str×Addr)}(g:GOk P w K mg base k G) (S:CloSc I) (F:Yv I fd cl) (n:Nat):FnOk P w K mg base CX0 (k+3) a fd I.ps (spC K a I fd cl (M6 G n I)):=by
 obtain ⟨name,qual,params,doc,pm,cdv,ctv,rfl,bind⟩:=F;refine ⟨fun vs H Q E h=>h.1,fun A outer s H args us vs Q E hr e0 hb r hsp=>?_⟩;obtain ⟨hl,⟨o,u,ho,hd⟩,⟨c,oc,u2,fs',tq,e1,e2,e3,e4⟩,hn,hnd,xs,hc,ρ,mh,fs,ds,d,mh',q,rs,rf,rd,co⟩:=hsp;have lim:s.heap.NoLimit:=e0.mod.nolimit.keeps fun b o e=>(e0.bs b o e).1
 have ul:us.length=I.ps.length:=by rw [← r.length];exact hl
 refine codeAny_call_def (binds:=I.ps.zip us) hr.depth (e0.hok a _ ho).1 hd lim ⟨c,oc,fs',tq,e1,(e0.hok c _ e2).1,e3,e4⟩ rfl hb S.nocell (fun y hy=>S.par _ (List.of_mem_zip hy).1) (fun h₁ hns hk=>?_) S.co S.gen S.kind;have J:=cF (cd:=cdv) (f:=a) (qual:=qual) (tk:=s.toks+(I.ps.zip us).length) S hn hnd hc hr.hd e0 hl r hns hk;have O:XOk (Zk P w K mg base I qual a cdv cl A outer s H) k G { N:=I.N++I.fr,scope:=I.scope,own:=fun y=>!(I.fr.contains y) }:=⟨rfl,S.nd,rfl,fun x hx _=>.inl hx,rfl,rfl,hr.deeper _,g⟩;unfold M6 at q;split at q
 ·rename_i hds;have lv:ds.length=vs.length:=rd.length;have rl:RL K H ρ (ds.map some++List.replicate (I.N.length - ds.length) none++fs.map some) (vs.map some++List.replicate (I.N.length - vs.length) none++xs.map some):=by
   have lf:=rf.length;refine ⟨by simp [lv,lf],fun i d' e=>?_⟩
   by_cases hi:i < (ds.map some++List.replicate (I.N.length - ds.length) none:List (Option D)).length
   ·rw [List.getElem?_append_left hi] at e;have hi':i < (vs.map some++List.replicate (I.N.length - vs.length) none:List (Option V)).length:=by simp at hi ⊢;omega
    rw [List.getElem?_append_left hi']
    by_cases hv:i < ds.length
    ·rw [List.getElem?_append_left (by simpa using hv),List.getElem?_map] at e;cases q':ds[i]? with
     | none=>rw [q'] at e;cases e
     | some d2 =>
      rw [q'] at e;cases e;obtain ⟨v,e1,r1⟩:=rd.get q';exact ⟨v,by rw [List.getElem?_append_left (by simp;omega),List.getElem?_map,e1];rfl,r1⟩
    ·rw [List.getElem?_append_right (by simpa using hv),List.getElem?_replicate] at e;split at e <;> cases e
   ·have eL:(ds.map some++List.replicate (I.N.length - ds.length) none:List (Option D)).length=(vs.map some++List.replicate (I.N.length - vs.length) none:List (Option V)).length:=by simp [lv]
    rw [List.getElem?_append_right (by omega),List.getElem?_map] at e;rw [List.getElem?_append_right (by omega),← eL];cases q':fs[i - (ds.map some++List.replicate (I.N.length - ds.length) none:List (Option D)).length]? with
    | none=>rw [q'] at e;cases e
    | some d2 =>
     rw [q'] at e;cases e;obtain ⟨v,e1,r1⟩:=rf.get q';exact ⟨v,by rw [List.getElem?_map,e1];rfl,r1⟩
  have T:=(tY G n).2 O I.body;have fin:∀ {σ':L2.St} {H':Hp} {v:V} {u:Value} {s':Shared},Inv (Zk P w K mg base I qual a cdv cl A outer s H) [] σ' H' s'->RelV v u->Q v H'->CE outer P w H s Q u s':=fun {σ' H' v u s'} J rv q=>⟨v,H',J.os,J.bare,J.base,J.hok,rv,q⟩
  have run:tS K (iSs G n { N:=I.N++I.fr,scope:=I.scope,own:=fun y=>!(I.fr.contains y) } I.body) { nx:=fun _ H'=>Q .non H',rt:=Q } (vs.map some++List.replicate (I.N.length - vs.length) none++xs.map some) H:=by
   split at q
   ·rename_i d' loc' m' e;cases q;exact ⟨_,mh,ρ,.rt d,loc',mh',e,rl,rs,co⟩
   ·rename_i loc' m' e;cases q;exact ⟨_,mh,ρ,.nx,loc',mh',e,rl,rs,fun H' ρ' σ' e' rs' _=>co H' ρ' _ e' rs' .non⟩
   ·cases q
  refine wpAny_mono (T [] _ _ H _ J run) (fun fl s' hs=>?_) fun e s' hs=>False.elim hs
  cases fl with
  | ret u =>
   obtain ⟨v,σ',H',J',rv,q'⟩:=hs;exact fin J' rv q'
  | next =>
   obtain ⟨σ',H',J',q'⟩:=hs;exact fin (v:=V.non) (u:=Value.none) J' rfl q'
  | brk =>
   obtain ⟨_,_,_,q'⟩:=hs;exact False.elim q'
  | cont =>
   obtain ⟨_,_,_,q'⟩:=hs;exact False.elim q'
 ·cases q
theorem cG {n:Nat}{I:CloI}{fs ds:List D}{mh:MH}{r:D×MH}(h:M6 G n I fs ds mh=some r):ds.length=I.ps.length:=by
 unfold M6 at h;split at h
 ·assumption
 ·cases h
end
noncomputable abbrev cap (X:Cx) (fr:List Str):Cx:={ X with fn:=fun y=>X.fn y&&!(fr.contains y) }
section
variable {X:Cx}{pins:List (Addr×Obj)}{σ:L2.St}{H:Hp}{s:Shared}{fr:List Str}
theorem Aa3 (ok:X.Ok):(DL.cap X fr).Ok :=
 ⟨ok.mod,ok.kind,ok.glob,ok.blt,ok.above,ok.inj,ok.has,fun x c h=>ok.cab x c (by
  have h:(X.fn x&&!(fr.contains x))=true:=h;rw [Bool.and_eq_true] at h
  exact h.1),ok.hd,ok.frames,ok.stk,ok.exf,ok.bs,ok.bsz,ok.noex,ok.exfs,ok.funs,ok.frf⟩
theorem tZ (I:Inv X pins σ H s):Inv (DL.cap X fr) pins σ H s :=
 ⟨Aa3 I.ok,I.os,I.bare,I.base,I.loc,I.cell,I.free,fun x c h=>(I.freeC x c h).imp id fun ⟨a,b⟩=>⟨by show (X.fn x&&!(fr.contains x))=false;rw [a];rfl,b⟩,I.pin,I.hok,I.len⟩
theorem Xi (I:Inv X pins σ H s) {x:Str}{c:Addr}(hc:X.env.cells.lookup x=some c) (hf:X.fn x=false) (ha:X.s₀.heap.objs.size<=c) :
  ∃ H' oc u,Inv X pins σ H' s/\H' c=some (.frz oc u)/\s.heap.get? c=some oc/\((H'=H)\/(H c=none/\H'=upd H c (.frz oc u))):=by
 rcases I.freeC x c hc with fc|⟨_,oc,u,fz⟩
 rotate_left
 ·exact ⟨H,oc,u,I,fz,(I.hok c _ fz).1,.inl rfl⟩
 ·obtain ⟨v,oc,ho,hd⟩:=I.cell x c hc;refine ⟨upd H c (.frz oc uT),oc,uT,?_,Be,ho,.inr ⟨fc,rfl⟩⟩;have ne:∀ {b:Addr} {o:HO},H b=some o->upd H c (.frz oc uT) b=some o:=fun {b o} e=>by rw [Ah (Am e fc)];exact e
  have ne0:∀ b o,X.s₀.heap.get? b=some o->b≠c:=fun b o e=>Nat.ne_of_lt (Nat.lt_of_lt_of_le (Heap.lt_size e) ha)
  refine ⟨I.ok,I.os,I.bare,⟨I.base.keep,I.base.slot,fun b o e n hx=>?_,I.base.there,fun b xs e=>ne (I.base.tups b xs e),fun b o u e=>ne (I.base.frzs b o u e),fun b ps e=>?_⟩,I.loc,I.cell,?_,fun y c' e=>?_,fun p hp=>?_,fun b ob e=>?_,I.len⟩
  ·rw [Ah (ne0 b o e)];exact I.base.free b o e n hx
  ·obtain ⟨more,q⟩:=I.base.tbls b ps e;exact ⟨more,ne q⟩
  ·rw [Ah (Ne.symm (I.cne x c hc))];exact I.free
  ·by_cases z:c'=c
   ·subst z;have:=I.ok.inj y x c' e hc;subst this;exact .inr ⟨hf,oc,uT,Be⟩
   ·rw [Ah z];exact I.freeC y c' e
  ·obtain ⟨e,n,e3,e4,e5⟩:=I.pin p hp;have:p.1≠c:=fun z=>by
    rw [z,ho] at e;cases e;exact e5 _ hd
   exact ⟨e,by rw [Ah this];exact n,e3,e4,e5⟩
  ·by_cases z:b=c
   ·subst z;rw [Be] at e;cases e;exact ⟨ho,trivial,⟨_,ho⟩,fun _ _ _ _=>trivial⟩
   ·rw [Ah z] at e;exact (I.hok b ob e).stay (fun _ _ _ q=>q) (fun _ q=>ne q) fun _ _ q=>ne q
theorem M8 {K:PySem.W.Frag}{ρ:List Addr}{mh:MH}:∀ (L:List (Str×Addr)) {vs:List V}{H:Hp},Inv X pins σ H s->RS K H ρ mh->(∀ q∈L,X.env.cells.lookup q.1=some q.2/\X.fn q.1=false/\X.s₀.heap.objs.size<=q.2)->L.length=vs.length->(∀ (i:Nat) (q:Str×Addr) (v:V),L[i]?=some q->vs[i]?=some v->∃ u,RelV v u/\s.heap.IsCell q.2 (some u)) ->
  ∃ H',Inv X pins σ H' s/\Ev K H ρ H' ρ/\RS K H' ρ mh/\Cz H' (L.map (·.2)) vs
 | [],[],H,I,rs,_,_,_=>⟨H,I,Ev.refl,rs,trivial⟩
 | [],_::_,_,_,_,_,hl,_=>by simp at hl
 | _::_,[],_,_,_,_,hl,_=>by simp at hl
 | q::L,v::vs,H,I,rs,hq,hl,hv=>by
  obtain ⟨h1,h2,h3⟩:=hq q List.mem_cons_self;obtain ⟨H1,oc,u,I1,f1,g1,hor⟩:=Xi I h1 h2 h3;have ev1:Ev K H ρ H1 ρ/\RS K H1 ρ mh:=by
   rcases hor with rfl|⟨n,rfl⟩
   ·exact ⟨Ev.refl,rs⟩
   ·exact ⟨Ev.new n,rs.new n⟩
  obtain ⟨H2,I2,ev2,rs2,cs⟩:=M8 L I1 ev1.2 (fun q hq'=>hq q (List.mem_cons_of_mem _ hq')) (by simpa using hl) fun i q v e1 e2=>hv (i+1) q v (by simpa using e1) (by simpa using e2)
  obtain ⟨w,rw_,o,ho,hd⟩:=hv 0 q v rfl rfl;rw [g1] at ho;cases ho;exact ⟨H2,I2,ev1.1.trans ev2,rs2,⟨oc,u,w,ev2.frz _ _ _ f1,hd,rw_⟩,cs⟩
end
noncomputable def uD (names:List (Str×NameKind)):List Str:=names.foldl (fun c x=>if x.2==.free then x.1::c else c) []
theorem M9 (env:Env) (names:List (Str×NameKind)):(Dd env names).map (·.1)=uD names:=by
 have go:∀ (names:List (Str×NameKind)) (acc:List (Str×Addr)) (acc':List Str),acc.map (·.1)=acc'->(names.foldl (fun c x=>Hu env x c) acc).map (·.1)=names.foldl (fun c x=>if x.2==.free then x.1::c else c) acc':=by
  intro names
  induction names with
  | nil=>exact fun _ _ h=>h
  | cons x r ih =>
   intro acc acc' h;refine ih _ _ ?_;show List.map (·.1) (Hu env x acc)=(if (x.2==.free)=true then x.1::acc' else acc');unfold Hu;split
   ·rw [List.map_cons,h]
   ·exact h
 exact go names [] [] rfl
structure MakDef (I:FnI) (m:MakI) (st:Stmt):Prop where
 ex:∃ params pos,Bu st=m.pre++.FunctionDef "_law_pick" params m.ci.body [] none [] m.ci.scope none "_law_pick" pos::m.post/\params.defaults=[]/\params.kw_defaults=[]/\(∀ env,annTrees params none env=[]) /\
  ∀ name qual cl doc pm cdv ctv (us:List Value),us.length=m.ci.ps.length->bindArgs (PySem.W.fnX name qual params m.ci.body m.ci.scope cl .none .none doc pm none cdv ctv) ⟨us,[]⟩=pure (m.ci.ps.zip us)
 sc:CloSc m.ci
 fr:m.ci.fr=uD m.ci.scope.names
 cel:∀ x∈m.ci.fr,(Ai st).names.lookup x=some .cell
 nm:I.N[m.i]?=some ("_law_pick":Str)
 lc:(Ai st).names.lookup ("_law_pick":Str)=some .local
 js:m.js.length=m.ci.fr.length
 at_:∀ (t j:Nat) (x:Str),m.js[t]?=some j->m.ci.fr[t]?=some x->I.N[j]?=some x
theorem Ph {loc:DL.Loc}:∀ {js:List Nat}{ds:List D},Jw loc js=some ds->ds.length=js.length/\∀ (t j:Nat) (d:D),js[t]?=some j->ds[t]?=some d->loc[j]?=some (some d)
 | [],ds,h=>by cases h;exact ⟨rfl,fun t j d e=>by simp at e⟩
 | j::r,ds,h=>by
  unfold Jw at h;split at h
  ·rename_i d ed;split at h
   ·rename_i ds' er;cases h;obtain ⟨h1,h2⟩:=Ph er;refine ⟨by rw [List.length_cons,List.length_cons,h1],fun t j' d' e1 e2=>?_⟩;cases t with
    | zero=>cases e1;cases e2;exact ed
    | succ t=>exact h2 t j' d' (by simpa using e1) (by simpa using e2)
   ·cases h
  ·cases h
theorem jP {K:PySem.W.Frag}{H:Hp}{ρ:List Addr}{loc:DL.Loc}{σ:L2.St}(rl:RL K H ρ loc σ):∀ {js:List Nat}{ds:List D},Jw loc js=some ds->∃ vs,RDs K H ρ ds vs/\∀ (t j:Nat) (v:V),js[t]?=some j->vs[t]?=some v->σ[j]?=some (some v)
 | [],ds,h=>by cases h;exact ⟨[],.nil,fun t j v e=>by simp at e⟩
 | j::r,ds,h=>by
  unfold Jw at h;split at h
  ·rename_i d ed;split at h
   ·rename_i ds' er;cases h;obtain ⟨vs,r1,r2⟩:=jP rl er;obtain ⟨v,e1,rd⟩:=rl.2 j d ed;refine ⟨v::vs,.cons rd r1,fun t j' v' q1 q2=>?_⟩;cases t with
    | zero=>cases q1;cases q2;exact e1
    | succ t=>exact r2 t j' v' (by simpa using q1) (by simpa using q2)
   ·cases h
  ·cases h
section
variable {X:Cx}
theorem Aa4 {x:Str}{I:FnI}{m:MakI}{st:Stmt}{params:Arguments}{pos:Pos}(M:MakDef I m st)
  (hd0:params.defaults=[]) (hk0:params.kw_defaults=[]) (ha:∀ env,annTrees params none env=[])
  (hb:∀ name qual cl doc pm cdv ctv (us:List Value),us.length=m.ci.ps.length->bindArgs (PySem.W.fnX name qual params m.ci.body m.ci.scope cl .none .none doc pm none cdv ctv) ⟨us,[]⟩=pure (m.ci.ps.zip us))
  (hN:X.N=I.N) (hnd:X.N.Nodup) (hsc:X.env.scope=Ai st) (hq:X.env.qual=x ++ ".<locals>.") (hcab:∀ y c,y∈m.ci.fr->X.env.cells.lookup y=some c->X.s₀.heap.objs.size<=c)
  (hX:∃ (f:Addr) (o:Obj) (fd:FuncData),PySem.W.nsIn X.K mainGlobals x=some (some (.ref f))/\X.K.lookup f=some o/\o.data=.func fd/\X.env.code=fd.code) :
  DS (cap X m.ci.fr) (.FunctionDef "_law_pick" params m.ci.body [] none [] m.ci.scope none "_law_pick" pos) (cA x m):=by
 rintro pins s σ H D I0 ⟨loc,mh,ρ,fl,loc',mh',q,rl,rs,co⟩;unfold cA at q;split at q
 rotate_left
 ·cases q
 rename_i y h0;split at q
 rotate_left
 ·cases q
 rename_i hy;have hy:=eq_of_beq hy;subst hy;split at q
 rotate_left
 ·cases q
 rename_i ds el;cases q;obtain ⟨vs,rvs,hvs⟩:=jP rl el;obtain ⟨ld,_⟩:=Ph el;have lv:vs.length=m.ci.fr.length:=by rw [← rvs.length,ld,M.js]
 have hfr:∀ z∈m.ci.scope.names,z.2=.free->∃ c,X.env.cells.lookup z.1=some c:=fun z hz e=>by
  have hz':(z.1,NameKind.free)∈m.ci.scope.names:=by rw [← e];exact hz
  have:z.1∈m.ci.fr:=by
   rw [M.fr,← M9 X.env];exact List.mem_map.mpr ⟨_,PySem.mem_of_lookup (Lh hz'),rfl⟩
  exact I0.ok.has z.1 (.inl (by show X.env.scope.names.lookup z.1=some .cell;rw [hsc];exact M.cel z.1 this))
 have hcl:closureFor m.ci.scope X.env=pure (Dd X.env m.ci.scope.names):=Gd hfr;have hcn:(Dd X.env m.ci.scope.names).map (·.1)=m.ci.fr:=by rw [M9,M.fr]
 have hce:∀ z∈Dd X.env m.ci.scope.names,X.env.cells.lookup z.1=some z.2:=fun z hz=>by
  rcases Gy m.ci.scope.names [] z.1 z.2 hz with h|⟨h1,h2⟩
  ·simp at h
  ·obtain ⟨c,e⟩:=hfr _ h1 rfl;rw [h2,e];rfl
 have hcd:((Dd X.env m.ci.scope.names).map (·.2)).Nodup:=by
  have nd1:((Dd X.env m.ci.scope.names).map (·.1)).Nodup:=by rw [hcn];exact (List.nodup_append.mp M.sc.nd).2.1
  generalize Dd X.env m.ci.scope.names=L at nd1 hce
  induction L with
  | nil=>simp
  | cons z L ih =>
   rw [List.map_cons,List.nodup_cons] at nd1 ⊢;refine ⟨fun hm=>?_,ih nd1.2 fun z hz=>hce z (List.mem_cons_of_mem _ hz)⟩;obtain ⟨z',hz',e⟩:=List.mem_map.mp hm;have e1:=hce z List.mem_cons_self;have e2:=hce z' (List.mem_cons_of_mem _ hz');rw [e] at e2;exact nd1.1 (List.mem_map.mpr ⟨z',hz',I0.ok.inj _ _ _ e2 e1⟩)
 obtain ⟨Hz,Iz,ev0,rs0,cells⟩:=M8 (Dd X.env m.ci.scope.names) (vs:=vs) I0 rs (fun z hz=>⟨hce z hz,by
   have:z.1∈m.ci.fr:=by rw [← hcn];exact List.mem_map.mpr ⟨z,hz,rfl⟩
   show (X.fn z.1&&!(m.ci.fr.contains z.1))=false
   rw [List.contains_iff_mem.mpr this];simp,hcab z.1 z.2 (by rw [← hcn];exact List.mem_map.mpr ⟨z,hz,rfl⟩) (hce z hz)⟩)
  (by rw [lv,← hcn,List.length_map]) fun i z v e1 e2=>by
   have e3:m.ci.fr[i]?=some z.1:=by rw [← hcn,List.getElem?_map,e1];rfl
   have hi:i < m.js.length:=by rw [M.js];exact (List.getElem?_eq_some_iff.mp e3).1
   have e4:=List.getElem?_eq_getElem hi;have e5:=hvs i _ v e4 e2;have e6:=M.at_ i _ z.1 e4 e3;obtain ⟨mm,hns,hlk⟩:=I0.loc;have hm:z.1∈m.ci.fr:=List.mem_of_getElem? e3;obtain ⟨u,ru,lk⟩:=hlk _ z.1 v (by show X.N[_]?=_;rw [hN];exact e6) e5 (.inr (.inl (by show X.env.scope.names.lookup z.1=some .cell;rw [hsc];exact M.cel z.1 hm)));refine ⟨u,ru,?_⟩;rcases lk with ⟨k,_⟩|⟨_,c,ec,hc⟩
   ·have k:X.env.scope.names.lookup z.1=some .local:=k;rw [hsc,M.cel z.1 hm] at k;cases k
   ·have:=hce z (List.mem_of_getElem? e1);rw [show X.env.cells.lookup z.1=some c from ec] at this;cases this;exact hc
 have rl0:=rl.mono ev0;have rvs0:=rvs.mono ev0;have kX:(cap X m.ci.fr).env=X.env:=rfl;obtain ⟨pl,hpl,ro⟩:=rs0.at h0;obtain ⟨tb,ht,tri,cod,pk⟩:=(show fD X.K Hz y pl from ro);obtain ⟨f,o,fd,c,bm,ob,n1,n2,n3,n4,n5,b1,b2,b3,b4,b5,b6,b7⟩:=id pk;obtain ⟨f',o',fd',m1,m2,m3,m4⟩:=hX;rw [n1] at m1;cases m1;rw [n2] at m2;cases m2;rw [n3] at m3;cases m3;rw [n4] at m4;have hP:s.heap.get? pl=some (PySem.W.tabObj tb):=Iz.hok pl _ ht;have C:=PySem.W.codeHd_of_K Iz.kIn n5;have hg:s.heap.Ns mainGlobals X.mg:=Iz.mod.glob.keeps Iz.bk;have hgP:mainGlobals≠pl:=fun z=>by
  obtain ⟨o,es,ep,e,hd,_⟩:=hg;rw [z,hP] at e;cases e;cases hd
 have hbt:s.heap.BuiltinsAt X.mg pl:=⟨bm,ob,PySem.W.mg_of Iz.kIn hg b1,b6,b7,(fun z=>by
  have e:=Iz.kIn _ _ b2
  rw [z,hP] at e;cases e;cases b3),Iz.kIn _ _ b2,b3,b4,b5⟩
 have hqn:qualnameIn X.env "_law_pick" "_law_pick"=fB y:=by
  unfold qualnameIn;rw [if_neg,hq];intro z;have z:=eq_of_beq z
  have z:X.env.scope.names.lookup ("_law_pick":Str)=some .globalExplicit:=z;rw [hsc,M.lc] at z;cases z
 have ndC:(cap X m.ci.fr).N.Nodup:=hnd
 have nmC:(cap X m.ci.fr).N[m.i]?=some ("_law_pick":Str):=by show X.N[m.i]?=_;rw [hN];exact M.nm
 have lcC:(cap X m.ci.fr).env.scope.names.lookup ("_law_pick":Str)=some .local:=by show X.env.scope.names.lookup _=_;rw [hsc];exact M.lc
 have last:∀ {H2:Hp} {s2:Shared} {a:Addr} {ob:Obj} {doc pm ctv:Value} {c':Addr},Inv (cap X m.ci.fr) pins σ H2 s2->Ev X.K Hz ρ H2 ρ->RS X.K H2 ρ mh->H2 a=some (.frz ob uT)->ob.data=.func (PySem.W.fnX "_law_pick" (fB y) params m.ci.body m.ci.scope (Dd X.env m.ci.scope.names) .none .none doc pm none (.ref c') ctv)->Nq H2 (.ref c') (fB y) ->
   wpAny (model X.prog X.w) X.A (storeName X.env "_law_pick" (.ref a)) (fun _ s''=>SP (cap X m.ci.fr) pins D .next s'') X.xe s2:=fun {H2 s2 a ob doc pm ctv c'} J ev r2 ha hd hcod=>by
  refine Kh (X:=cap X m.ci.fr) (v:=.ref a) J ndC nmC (.inl lcC) rfl (fun s3 J3=>⟨_,H2,J3,?_⟩) (.inr lcC);have rc:RD X.K H2 ρ (.clo m.ci ds) (.ref a):=.clo ⟨ob,uT,_,Dd X.env m.ci.scope.names,ha,hd,M.sc,⟨_,_,params,doc,pm,_,ctv,rfl,fun us hu=>hb _ _ _ _ _ _ _ us hu⟩,hcod,hcn,hcd,cells.mono ev.frz⟩ (rvs0.mono ev);exact co H2 ρ _ (ev0.trans ev) r2 ((rl0.mono ev).set rc)
 refine PySem.W.nestDef_K hd0 hk0 (ha _) ?_
 show wpAny (model X.prog X.w) X.A (makeFunction "_law_pick" (qualnameIn X.env "_law_pick" "_law_pick") params (.stmts m.ci.body) m.ci.scope X.env [] [] [] pos pos.line) _ X.xe s;rw [hqn];cases hm:codeAmong pos tb.toList with
 | none =>
  refine PySem.W.makeFunction_K hcl I0.ok.glob hg m4 C hP tri hm hgP hbt fun c' ctv doc h' tk hx hge hlt hrec htb=>?_
  obtain ⟨c2,oc,ws,tq,e1,e2,e3,e4⟩:=hrec;cases e1;have fc:Hz c'=none:=Iz.hok.fresh hge;have sa:s.heap.objs.size<=h'.objs.size:=Nat.le_of_lt (Nat.lt_of_le_of_lt hge hlt);have fa:Hz h'.objs.size=none:=Iz.hok.fresh sa;have nca:c'≠h'.objs.size:=Nat.ne_of_lt hlt;have npa:h'.objs.size≠pl:=Nat.ne_of_gt (Heap.lt_size htb);have kk:∀ (ob:Obj) b o,b≠pl->s.heap.get? b=some o->(h'.push ob).get? b=some o:=fun ob b o n e=>Heap.get?_push_of_some _ (hx b o n e)
  have rs1:=(rs0.new (o:=.frz oc uT) fc);have t1:upd Hz c' (.frz oc uT) pl=some (.tbl tb):=by rw [Ah (Am ht fc)];exact ht
  have frz1:∀ a o u,Hz a=some (.frz o u)->upd (upd Hz c' (.frz oc uT)) pl (.tbl (tb++#[rawInt pos.line,rawInt pos.col,.ref c'])) a=some (.frz o u):=fun a o u e=>by
   rw [Ah (Kg e ht (by intro z;cases z)),Ah (Am e fc)];exact e
  have ncp:c'≠pl:=fun z=>by subst z;rw [ht] at fc;cases fc
  have cd1:Nq (upd (upd Hz c' (.frz oc uT)) pl (.tbl (tb++#[rawInt pos.line,rawInt pos.col,.ref c']))) (.ref c') (fB y):=⟨c',oc,uT,ws,tq,rfl,by rw [Ah ncp,Be],e3,e4⟩
  have rs2:=rs1.tabQ (zs:=tb++#[rawInt pos.line,rawInt pos.col,.ref c']) hpl h0 t1 ⟨_,Be,by
    simpa using TriplesOk_snoc pos.line pos.col (.ref c') _ tri,fun pos v z=>by
    rcases Rj _ tri (by simpa using z) with z|z
    ·exact (cod pos v z).mono frz1
    ·subst z;exact cd1,pk⟩
  have f2:upd (upd Hz c' (.frz oc uT)) pl (.tbl (tb++#[rawInt pos.line,rawInt pos.col,.ref c'])) h'.objs.size=none:=by rw [Ah npa,Ah (Ne.symm nca)];exact fa
  refine last (c':=c') (Iz.un (jN ht fc fa hge sa (kk _) (Heap.get?_push_of_some _ htb)) (Zj Iz.hok ht fc fa nca (kk _) (Heap.get?_push_of_some _ htb) (Heap.get?_push_of_some _ e2) (Heap.get?_push_size _ rfl)))
   (((Ev.new (o:=.frz oc uT) fc).trans (Ev.tab (zs:=tb++#[rawInt pos.line,rawInt pos.col,.ref c']) t1)).trans (Ev.new f2)) (rs2.new f2) Be rfl (cd1.mono fun a o u e=>by unfold H3;rw [Ah (Am e f2)];exact e)
 | some cv =>
  obtain ⟨c',oc,u,ws,tq,rfl,e2,e3,e4⟩:=cod pos cv hm;refine PySem.W.makeFunction_hit hcl I0.ok.glob hg m4 C hP tri hm hbt fun ctv doc h' tk hk hsz=>?_
  have fa:Hz h'.objs.size=none:=Iz.hok.fresh hsz;refine last (c':=c') (Iz.laid (o:=.frz _ uT) (t':=tk) (fun b u e=>Heap.get?_push_of_some _ (hk b u e)) hsz ⟨Heap.get?_push_size _ rfl,trivial,⟨_,Heap.get?_push_size _ rfl⟩,fun _ _ _ _=>trivial⟩) (Ev.new fa) (rs0.new fa) Be rfl ⟨c',oc,u,ws,tq,rfl,by rw [Ah (Am e2 fa)];exact e2,e3,e4⟩
end
section
variable {P:Program}{w:World}{K:PySem.W.Frag}{mg:Str->Option Value}{base:Heap}{k:Nat}{G:Gb}
theorem jQ {n:Nat}{x:Str}{I:FnI}{m:MakI}{ds:List D}{mh:MH}{r:D×MH}(h:Lp G n x I m ds mh=some r):ds.length=I.ps.length:=by
 unfold Lp at h;split at h
 ·assumption
 ·cases h
theorem Xj {m1 m2:SM}{D:Ends}{σ:L2.St}{H:Hp}(h:tS K (Ab m1 m2) D σ H):tS K m1 { D with nx:=tS K m2 D } σ H:=by
 obtain ⟨loc,mh,ρ,f,loc',mh',q,rl,rs,co⟩:=h;unfold Ab at q;split at q
 ·rename_i l h e1;exact ⟨loc,mh,ρ,.nx,l,h,e1,rl,rs,fun H1 ρ1 σ1 ev1 rs1 rl1=>⟨l,h,ρ1,f,loc',mh',q,rl1,rs1,co.ev ev1⟩⟩
 ·rename_i r hne;refine ⟨loc,mh,ρ,f,loc',mh',q,rl,rs,?_⟩;cases f with
  | nx=>exact absurd q (hne _ _)
  | bk=>exact co
  | ct=>exact co
  | rt d=>exact co
theorem Zm {X:Cx}{sc:SC}(O:XOk X k G sc) {Z:Flow->Shared->Prop}{rest:List Stmt}(pins:List (Addr×Obj)):∀ (n:Nat) (pre:List Stmt) {s:Shared}{σ:L2.St}{H:Hp}{D:Ends},Inv X pins σ H s->tS X.K (iSs G n sc pre) D σ H->(∀ f s',f≠.next->SP X pins D f s'->Z f s') ->
  (∀ s' σ' H',Inv X pins σ' H' s'->D.nx σ' H'->wpAny (model X.prog X.w) X.A (execs rest X.env) Z X.xe s')->wpAny (model X.prog X.w) X.A (execs (pre++rest) X.env) Z X.xe s
 | 0,pre,s,σ,H,D,I,h,_,_=>by
  obtain ⟨_,_,_,_,_,_,q,_⟩:=h;cases q
 | n+1,[],s,σ,H,D,I,h,h1,h2=>by
  obtain ⟨loc,mh,ρ,f,loc',mh',q,rl,rs,co⟩:=h;cases q;exact h2 s σ H I (co H ρ σ Ev.refl rs rl)
 | n+1,st::r,s,σ,H,D,I,h,h1,h2=>by
  refine wpAny_execs_cons (thn ((tY G n).1 O st pins s σ H _ I (Xj h)) fun f s1 q=>?_);cases f with
  | next =>
   obtain ⟨σ',H',I',q⟩:=q;exact Zm O pins n r I' q h1 h2
  | ret v=>exact h1 _ _ (by intro z;cases z) q
  | brk=>exact h1 _ _ (by intro z;cases z) q
  | cont=>exact h1 _ _ (by intro z;cases z) q
theorem jR {x:Str}{st:Stmt}{f:Addr}{fd:FuncData}{I:FnI}{m:MakI}(g:GOk P w K mg base k G) (F:Fun K x x st f fd) (hn:PySem.W.nsIn K mainGlobals x=some (some (.ref f))) (S:FnScope I.N I.ps (Ai st)) (hs:I.scope=Ai st) (M:MakDef I m st) (n:Nat) :
  FnOk P w K mg base CX0 (k+3) f fd I.ps (spD K I.ps.length (Lp G n x I m)):=by
 obtain ⟨⟨oc,od,kV,doc,pm,an,cdv,ct,osl,rfl,lk,hcd⟩,kp⟩:=F;obtain ⟨params,pos,hbd,hd0,hk0,ha,hb⟩:=M.ex;refine ⟨fun vs H Q E h=>h.1,fun A outer s H args us vs Q E hr e0 hbn r hsp=>?_⟩;have hl:=hsp.1;have KX:K.In s.heap:=e0.mod.kin.keeps fun b o e=>(e0.bs b o e).1
 have lim:s.heap.NoLimit:=e0.mod.nolimit.keeps fun b o e=>(e0.bs b o e).1
 have hkind:∀ y∈I.ps.zip us,(Ai st).names.lookup y.1=some .local\/((Ai st).names.lookup y.1=some .cell/\((cellsFrom (s.heap.objs.size+1) (Ai st).names []).lookup y.1).isSome=true):=by
  rintro ⟨n,v⟩ hy;rcases S.par n (List.of_mem_zip hy).1 with q|q
  ·exact .inl q
  ·exact .inr ⟨q,PySem.W.cellsFrom_some _ _ _ (.inl q)⟩
 refine codeAny_call_function hr.depth (KX _ _ lk) rfl S.co S.gen rfl (PySem.W.codeRec_of KX hcd) (hbn _ _ _ _ ?_);refine wpAny_newFunctionEnv_cells S.kind hkind fun env he s1 xx=>?_
 subst he;refine ⟨lim.keeps xx.toInCall.keep,codeAny_func ?_⟩;have J0:Inv (Jt CX0 P w K mg base I.N x (Ai st) f cdv A outer s H E) [] (start I.N vs) H s1:=Lg S hr.hd e0 hl r xx;have J:Inv (Jt CX0 P w K mg base I.N x (Ai st) f cdv A outer s H E).nox [] (start I.N vs) H s1:=J0.wish _;have O:XOk (Jt CX0 P w K mg base I.N x (Ai st) f cdv A outer s H E).nox k G { N:=I.N,scope:=I.scope,own:=fun _=>true }:=⟨rfl,S.nd,hs.symm,fun _ _ _=>.inl rfl,rfl,rfl,hr.deeper _,g⟩
 have O2:XOk (cap (Jt CX0 P w K mg base I.N x (Ai st) f cdv A outer s H E).nox m.ci.fr) k G { N:=I.N,scope:=I.scope,own:=fun y=>!(m.ci.fr.contains y) }:=⟨rfl,S.nd,hs.symm,fun y hy _=>.inl (by
  have hy:(!(m.ci.fr.contains y))=true:=hy;show (true&&!(m.ci.fr.contains y))=true
  rw [hy];rfl),rfl,rfl,hr.deeper _,g⟩
 obtain ⟨_,ρ,mh,ds,d,mh',q,rs,rd,co⟩:=hsp;have run:tS K (Zf G n x I m) { nx:=fun _ H'=>Q .non H',rt:=Q } (start I.N vs) H:=by
  unfold Lp at q;split at q
  ·split at q
   ·rename_i d' loc' m' e;cases q;exact ⟨_,mh,ρ,.rt d,loc',mh',e,H9 rd,rs,co⟩
   ·rename_i loc' m' e;cases q;exact ⟨_,mh,ρ,.nx,loc',mh',e,H9 rd,rs,fun H' ρ' σ' e' rs' _=>co H' ρ' _ e' rs' .non⟩
   ·cases q
  ·cases q
 let Z:Flow->Shared->Prop:=fun fl s'=>match fl with
  | .ret u=>CE outer P w H s Q u s'
  | .next=>CE outer P w H s Q .none s'
  | _=>False
 have fin:∀ {σ':L2.St} {H':Hp} {v:V} {u:Value} {s':Shared} {Y:Cx},Y.outer=outer->Y.prog=P->Y.w=w->Y.H₀=H->Y.s₀=s->Y.ex=[]->Inv Y [] σ' H' s'->RelV v u->Q v H'->CE outer P w H s Q u s':=fun {σ' H' v u s' Y} e1 e2 e3 e4 e5 e6 J rv q=>by
  refine ⟨v,H',by rw [← e5];exact J.os,J.bare,?_,by rw [← e2,← e3];exact J.hok,rv,q⟩;have:=J.base;rw [e6,e4,e5] at this;rw [← e1];exact this
 have flow:∀ {Y:Cx} {D:Ends},Y.outer=outer->Y.prog=P->Y.w=w->Y.H₀=H->Y.s₀=s->Y.ex=[]->D.rt=Q->(D.bk=fun _ _=>False)->(D.ct=fun _ _=>False)->∀ fl s',(fl≠.next\/∀ σ' H',D.nx σ' H'->Q .non H')->SP Y [] D fl s'->Z fl s':=fun {Y D} e1 e2 e3 e4 e5 e6 q1 q3 q4 fl s' q2 h=>by
  cases fl with
  | ret u =>
   obtain ⟨v,σ',H',J',rv,q'⟩:=h;exact fin e1 e2 e3 e4 e5 e6 J' rv (by rw [← q1];exact q')
  | next =>
   obtain ⟨σ',H',J',q'⟩:=h;exact fin (v:=V.non) (u:=Value.none) e1 e2 e3 e4 e5 e6 J' rfl ((q2.resolve_left fun z=>z rfl) _ _ q')
  | brk =>
   obtain ⟨_,_,_,q'⟩:=h;rw [q3] at q';exact q'
  | cont =>
   obtain ⟨_,_,_,q'⟩:=h;rw [q4] at q';exact q'
 have R:wpAny (model P w) (A.deeper (envOfC x (Ai st) s.heap.objs.size f cdv)) (execs (Bu st) (envOfC x (Ai st) s.heap.objs.size f cdv)) Z (fun _ _=>False) s1:=by
  rw [hbd];refine Zm O [] n m.pre J (Xj run) (fun fl s' hne h=>flow rfl rfl rfl rfl rfl rfl rfl rfl rfl fl s' (.inl hne) h) fun s2 σ2 H2 J2 h=>?_
  have Jc:=tZ (fr:=m.ci.fr) J2;refine wpAny_execs_cons (thn (Aa4 (X:=(Jt CX0 P w K mg base I.N x (Ai st) f cdv A outer s H E).nox) M hd0 hk0 ha hb rfl S.nd rfl rfl (fun y c _ e=>J0.ok.cab y c rfl e) ⟨f,_,_,hn,lk,rfl,rfl⟩ [] s2 σ2 H2 _ Jc (Xj h)) fun fl s3 q=>?_);cases fl with
  | next =>
   obtain ⟨σ3,H3',J3,q3⟩:=q;exact thn ((tY G n).2 O2 m.post [] s3 σ3 H3' _ J3 q3) fun fl s' h=>flow rfl rfl rfl rfl rfl rfl rfl rfl rfl fl s' (.inr fun _ _ z=>z) h
  | ret v=>exact flow rfl rfl rfl rfl rfl rfl rfl rfl rfl (.ret v) s3 (.inl (by intro z;cases z)) q
  | brk=>exact flow rfl rfl rfl rfl rfl rfl rfl rfl rfl .brk s3 (.inl (by intro z;cases z)) q
  | cont=>exact flow rfl rfl rfl rfl rfl rfl rfl rfl rfl .cont s3 (.inl (by intro z;cases z)) q
 refine wpAny_mono R (fun fl s' hz=>?_) fun e s' h=>False.elim h
 cases fl with
 | ret u=>exact hz
 | next=>exact hz
 | brk=>exact False.elim hz
 | cont=>exact False.elim hz
end
noncomputable def Ae1 (K:PySem.W.Frag) (mg:Str->Option Value) (x:Str) (I:FnI):Prop:=∃ (qual:Str) (st:Stmt) (f:Addr) (fd:FuncData),mg x=some (.ref f)/\Fun K x qual st f fd/\FnScope I.N I.ps (Ai st)/\I.scope=Ai st/\I.body=Bu st/\∀ us:List Value,us.length=I.ps.length->bindArgs fd ⟨us,[]⟩=pure (I.ps.zip us)
noncomputable def jU (K:PySem.W.Frag) (mg:Str->Option Value) (x:Str) (d:D):Prop:=∃ u v,mg x=some u/\RelV v u/\∀ H ρ,RD K H ρ d v
structure TbOk (w:World) (K:PySem.W.Frag) (mg:Str->Option Value) (T:Tb):Prop where
 fn:∀ x I,T.tb x=some I->∃ (qual:Str) (st:Stmt) (f:Addr) (fd:FuncData),mg x=some (.ref f)/\Fun K x qual st f fd/\FnScope I.N I.ps (Ai st)/\I.scope=Ai st/\I.body=Bu st/\∀ us:List Value,us.length=I.ps.length->bindArgs fd ⟨us,[]⟩=pure (I.ps.zip us)
 con:∀ x d,T.con x=some d->∃ u v,mg x=some u/\RelV v u/\∀ H ρ,RD K H ρ d v
 blt:∀ b∈Hy,mg b=none
 dic:∀ x kvs,T.dic x=some kvs->∃ a,mg x=some (.ref a)/\DicOk w K a kvs
 fld:∀ c f,T.fld c f=true->∃ C,PySem.W.nsIn K mainGlobals c=some (some (.ref C))/\Cls K C/\Eg K C f
 met:∀ c m I,T.tbm c m=some I->∃ (qual:Str) (st:Stmt) (C f:Addr) (fd:FuncData),PySem.W.nsIn K mainGlobals c=some (some (.ref C))/\Cls K C/\Meth K C m f/\Fun K m qual st f fd/\FnScope I.N I.ps (Ai st)/\I.scope=Ai st/\I.body=Bu st/\∀ us:List Value,us.length=I.ps.length->bindArgs fd ⟨us,[]⟩=pure (I.ps.zip us)
 mkr:∀ c f,T.mkr c=some f->∃ C fa fd ps,PySem.W.nsIn K mainGlobals c=some (some (.ref C))/\Mk K C fa/\mg c=some (.ref C)/\Binds K fd ps []/\∀ (P:Program) (w:World) (base:Heap),FnOk P w K mg base CX0 1 fa fd ps (spI C f)
 lam:∀ x y,T.lam x=some y->x = "pattern_of"/\∀ I,T.tb x=some I->∃ (st:Stmt) (f:Addr) (fd:FuncData) (a:Str),mg x=some (.ref f)/\Fun K x x st f fd/\PySem.W.nsIn K mainGlobals x=some (some (.ref f))/\I.ps=[a]/\FnScope I.N [a] (Ai st)/\jO st a y/\∀ us:List Value,us.length=I.ps.length->bindArgs fd ⟨us,[]⟩=pure (I.ps.zip us)
 mak:∀ x m,T.mak x=some m->∀ I,T.tb x=some I->∃ (st:Stmt) (f:Addr) (fd:FuncData),mg x=some (.ref f)/\Fun K x x st f fd/\PySem.W.nsIn K mainGlobals x=some (some (.ref f))/\FnScope I.N I.ps (Ai st)/\I.scope=Ai st/\MakDef I m st/\∀ us:List Value,us.length=I.ps.length->bindArgs fd ⟨us,[]⟩=pure (I.ps.zip us)
theorem gok {P:Program}{w:World}{K:PySem.W.Frag}{mg:Str->Option Value}{base:Heap}{T:Tb}(O:TbOk w K mg T) (k:Nat):GOk P w K mg base k (GkN T k):=by
 induction k with
 | zero=>exact ⟨fun x ps f h=>(by cases h),O.con,O.blt,O.dic,O.fld,fun c m ps g h=>(by cases h),fun c f h=>by
   obtain ⟨C,fa,fd,ps,h1,h2,h3,h4,h5⟩:=O.mkr c f h
   exact ⟨C,fa,fd,ps,h1,h2,h3,h4,h5 _ _ _⟩,iZ⟩
 | succ k ih =>
  refine ⟨fun x ps f h=>?_,O.con,O.blt,O.dic,O.fld,fun c m ps g h=>?_,fun c f h=>by
   obtain ⟨C,fa,fd,ps,h1,h2,h3,h4,h5⟩:=O.mkr c f h
   exact ⟨C,fa,fd,ps,h1,h2,h3,h4,h5 _ _ _⟩,⟨fun I a fd cl h1 h2=>Aa2 ih h1 h2 fuel,fun I fs ds mh r h=>cG h⟩⟩
  ·simp only [GkN] at h;split at h
   ·rename_i I eI;cases h;obtain ⟨qual,st,fa,fd,h1,h2,h3,h4,h5,h6⟩:=O.fn x I eI;cases em:T.mak x with
    | some m =>
     have e:∀ g,Vb T (GkN T k) x I g=Lp (GkN T k) fuel x I m:=fun g=>by unfold Vb;rw [em]
     rw [e];obtain ⟨st,f',fd',l1,l2,l3,l4,l5,l6,l7⟩:=O.mak x m em I eI;exact ⟨f',fd',l1,l2.kp,.all l7,jR ih l2 l3 l4 l5 l6 fuel,fun ds mh r hr=>jQ hr⟩
    | none =>
    have e0:∀ g,Vb T (GkN T k) x I g=g:=fun g=>by unfold Vb;rw [em]
    rw [e0];cases ey:T.lam x with
    | some y =>
     have e:Va T (GkN T k) x (Ac (GkN T k) fuel I)=lamF (GkN T k) y:=by unfold Va;rw [ey]
     rw [e];obtain ⟨rfl,z⟩:=O.lam x y ey;obtain ⟨st,f',fd',a,l1,l2,l3,l4,l5,l6,l7⟩:=z I eI;refine ⟨f',fd',l1,l2.kp,.all l7,?_,fun ds mh r hr=>?_⟩
     ·rw [l4];exact Aaz ih l2 l3 l5 l6
     ·rw [l4];unfold lamF at hr;split at hr
      ·rfl
      ·cases hr
    | none =>
     have e:Va T (GkN T k) x (Ac (GkN T k) fuel I)=Ac (GkN T k) fuel I:=by unfold Va;rw [ey]
     rw [e];exact ⟨fa,fd,h1,h2.kp,.all h6,wM ih h2 h3 h4 h5 fuel,fun ds mh r hr=>Vg hr⟩
   ·cases h
  ·simp only [GkN] at h;split at h
   ·rename_i I eI;cases h;obtain ⟨qual,st,C,fa,fd,g1,g2,g3,h2,h3,h4,h5,h6⟩:=O.met c m I eI;exact ⟨C,fa,fd,g1,g2,g3,.all h6,wM ih h2 h3 h4 h5 fuel,fun ds mh r hr=>Vg hr⟩
   ·cases h
noncomputable def Bh (st:Stmt):FnI :=
  { ps:=(Dh st).args.map (·.arg),
    N:=(Dh st).args.map (·.arg)++(((Ai st).names.filter fun p=>(match p.2 with | .local=>true | .cell=>true | _=>false)).map (·.1)).filter (fun x=>!((Dh st).args.map (·.arg)).contains x),
    scope:=Ai st,body:=Bu st }
end DL
namespace DL
open PySem L2
noncomputable def vr (i:Nat):DM D:=fun loc mh=>match loc[i]? with | some (some d)=>some (d,mh) | _=>none
noncomputable abbrev cH:=iop (fun _ _=>true) fun i j=>i - j
noncomputable abbrev G6:=Zc (Zd (iop U7 fun i j=>i * j))
noncomputable abbrev Du:=iop (fun _ j=>decide (j≠0)&&decide (j.natAbs < 10889035741470030830827987437816582766592)) fun i j=>i.fdiv j
noncomputable abbrev Cg:=iop (fun _ j=>decide (j≠0)) fun i j=>i.fmod j
noncomputable abbrev uE:=iop (fun i j=>decide (0<=j)&&(decide (j<=1000000)&&decide (i.natAbs < 2 ^ 64))) fun i j=>i ^ j.toNat
noncomputable abbrev Ae2:=iop (fun i j=>decide (0<=j)&&(decide (j<=1000000)&&decide (i.natAbs < 2 ^ 64))) fun i j=>i * 2 ^ j.toNat
noncomputable abbrev uF:=iop (fun _ j=>decide (0<=j)) fun i j=>i / 2 ^ j.toNat
noncomputable abbrev wN:=iop (fun _ _=>true) Builtin.bitAnd
noncomputable abbrev Aa5:=iop (fun _ _=>true) Builtin.bitOr
noncomputable abbrev ltD:=Ql fun i j=>decide (i < j)
noncomputable abbrev leD:=Ql fun i j=>decide (i<=j)
noncomputable abbrev gtD:=Ql fun i j=>decide (j < i)
noncomputable abbrev geD:=Ql fun i j=>decide (j<=i)
noncomputable def Jx (m:DM D):DM D:=m.bnd fun x=>Zl (Aak x)
noncomputable def Bg (mr:DM (List D)):DM D:=mr.bnd fun ds=>Zl (Q5 ds)
noncomputable def lstM (mr:DM (List D)):DM D:=mr.bnd fun ds=>Zl (Q6 ds)
noncomputable def Ag (f:Fn) (mr:DM (List D)):DM D:=mr.bnd fun ds=>Zl (f ds)
noncomputable def Aa6 (T:String) (m:DM D):DM D:=m.bnd fun x=>Zl (Uv T x)
noncomputable def Pj (m:DM D):DM D:=m.bnd fun x=>Zl (Er x)
theorem ln0 {f:List Value->Prop}(h:f []) (us:List Value) (e:us.length=0):f us:=by
 cases us with
 | nil=>exact h
 | cons _ _=>cases e
theorem ln1 {f:List Value->Prop}(h:∀ a,f [a]) (us:List Value) (e:us.length=1):f us:=by
 cases us with
 | nil=>cases e
 | cons a r=>exact ln0 (f:=fun r=>f (a::r)) (h a) r (Nat.succ.inj e)
theorem ln2 {f:List Value->Prop}(h:∀ a b,f [a,b]) (us:List Value) (e:us.length=2):f us:=by
 cases us with
 | nil=>cases e
 | cons a r=>exact ln1 (f:=fun r=>f (a::r)) (h a) r (Nat.succ.inj e)
theorem ln3 {f:List Value->Prop}(h:∀ a b c,f [a,b,c]) (us:List Value) (e:us.length=3):f us:=by
 cases us with
 | nil=>cases e
 | cons a r=>exact ln2 (f:=fun r=>f (a::r)) (h a) r (Nat.succ.inj e)
theorem ln4 {f:List Value->Prop}(h:∀ a b c d,f [a,b,c,d]) (us:List Value) (e:us.length=4):f us:=by
 cases us with
 | nil=>cases e
 | cons a r=>exact ln3 (f:=fun r=>f (a::r)) (h a) r (Nat.succ.inj e)
theorem ln5 {f:List Value->Prop}(h:∀ a b c d e,f [a,b,c,d,e]) (us:List Value) (e:us.length=5):f us:=by
 cases us with
 | nil=>cases e
 | cons a r=>exact ln4 (f:=fun r=>f (a::r)) (h a) r (Nat.succ.inj e)
theorem ln6 {f:List Value->Prop}(h:∀ a b c d e g,f [a,b,c,d,e,g]) (us:List Value) (e:us.length=6):f us:=by
 cases us with
 | nil=>cases e
 | cons a r=>exact ln5 (f:=fun r=>f (a::r)) (h a) r (Nat.succ.inj e)
theorem jV {q:Program}{loose:List Str}{XP:(Str->Option Value)->Heap->Prop}{K:Params->PySem.W.Frag}{as:List Addr}{n t:Nat}{r:PySem.W.RowW}{d:DefRec}{kwd:List (Str×Expr)}{run:Value->List Value->Sem Value}
  (e:∀ P,as=(K P).map (·.1)) (h:PySem.W.WalkO q loose XP (fun w h=>(K w.params).In h) r d kwd run):PySem.W.WalkX q loose XP (PySem.W.X.obsZ as) (PySem.W.X.valZ K n t) r d kwd run :=
 fun w s₀ s₁ mg mb G y a o pm cd doc dV kV h1 h2 h3 h4 h5 h6 args vals as' L hpre hlay hrd hwl hlo =>
  h w s₀ s₁ mg mb G (PySem.W.InK.keeps w s₀.heap s₁.heap (PySem.W.X.z_facts e y).2.1 L.keeps) a o pm cd doc dV kV h1 h2 h3 h4 h5 h6 args vals as' hpre hlay hrd hwl hlo
noncomputable def Kz (K:PySem.W.Frag):List (Str×Stmt)->Prop
 | []=>True
 | r::L=>(∃ (f:Addr) (fd:FuncData),PySem.W.nsIn K mainGlobals r.1=some (some (.ref f))/\Fun K r.1 r.1 r.2 f fd)/\Kz K L
theorem jX {K:PySem.W.Frag}{x:Str}{st:Stmt}{L:List (Str×Stmt)}{f:Addr}{oc:Value}{od an:Option Addr}{osl:Array (Option Value)}{kV doc pm cdv ct:Value}(a:PySem.W.nsIn K mainGlobals x=some (some (.ref f)))
  (l:K.lookup f=some ⟨oc,od,.func (PySem.W.fnOf x x (Dh st) (Bu st) (Ai st) .none kV doc pm an cdv ct),osl⟩)
  (c:PySem.W.codeIn K cdv x=true) (k:PySem.W.keepIn K (.ref f)=true) (q:Kz K L):Kz K ((x,st)::L):=⟨⟨f,_,a,Wj l c k⟩,q⟩
noncomputable def Ae3 (x:Str) (st:Stmt):Prop:=FnScope (Bh st).N (Bh st).ps (Ai st)/\∀ (kV doc pm:Value) (an:Option Addr) (cdv ct:Value) (us:List Value),us.length=(Bh st).ps.length->bindArgs (PySem.W.fnOf x x (Dh st) (Bu st) (Ai st) .none kV doc pm an cdv ct) ⟨us,[]⟩=pure ((Bh st).ps.zip us)
theorem Bc {x:Str}{st:Stmt}(s:FnScope (Bh st).N (Bh st).ps (Ai st)) (b:∀ (kV doc pm:Value) (an:Option Addr) (cdv ct:Value) (us:List Value),us.length=(Bh st).ps.length->bindArgs (PySem.W.fnOf x x (Dh st) (Bu st) (Ai st) .none kV doc pm an cdv ct) ⟨us,[]⟩=pure ((Bh st).ps.zip us)):Ae3 x st:=⟨s,b⟩
noncomputable def Zo:List (Str×Stmt)->Prop
 | []=>True
 | r::L=>Ae3 r.1 r.2/\Zo L
theorem Zq {K:PySem.W.Frag}{h:Heap}{mg:Str->Option Value}(X:K.In h) (G:h.Ns mainGlobals mg) {x:Str}{I:FnI}:∀ {L:List (Str×Stmt)},Kz K L->Zo L->(L.lookup x).map Bh=some I->Ae1 K mg x I
 | [],_,_,e=>by cases e
 | (y,st)::L,⟨⟨f,fd,a,F⟩,q⟩,⟨s,t⟩,e=>by
  simp only [List.lookup] at e;split at e
  ·rename_i hy;rw [eq_of_beq hy];cases e;refine ⟨y,st,f,fd,PySem.W.mg_of X G a,F,s.1,rfl,rfl,fun us hu=>?_⟩;obtain ⟨oc,od,kV,doc,pm,an,cdv,ct,osl,rfl,_⟩:=F.ex;exact s.2 kV doc pm an cdv ct us hu
  ·exact Zq X G q t e
noncomputable def Nb (K:PySem.W.Frag):List (Str×D)->Prop
 | []=>True
 | r::L=>(∃ u,PySem.W.nsIn K mainGlobals r.1=some (some u)/\rdV K 60 u=some r.2)/\Nb K L
theorem jY {K:PySem.W.Frag}{x:Str}{d:D}{L:List (Str×D)}{u:Value}(a:PySem.W.nsIn K mainGlobals x=some (some u)) (b:rdV K 60 u=some d) (q:Nb K L):Nb K ((x,d)::L):=⟨⟨u,a,b⟩,q⟩
theorem Vh {K:PySem.W.Frag}{h:Heap}{mg:Str->Option Value}(X:K.In h) (G:h.Ns mainGlobals mg) {x:Str}{d:D}:∀ {L:List (Str×D)},Nb K L->L.lookup x=some d->jU K mg x d
 | [],_,e=>by cases e
 | (y,d')::L,⟨⟨u,a,b⟩,q⟩,e=>by
  simp only [List.lookup] at e;split at e
  ·rename_i hy;rw [eq_of_beq hy];cases e;obtain ⟨v,r1,r2⟩:=iK 60 b;exact ⟨u,v,PySem.W.mg_of X G a,r1,r2⟩
  ·exact Vh X G q e
noncomputable def Nf (K:PySem.W.Frag):List Str->Prop
 | []=>True
 | b::L=>PySem.W.nsIn K mainGlobals b=some none/\Nf K L
theorem jZ {K:PySem.W.Frag}{b:Str}{L:List Str}(a:PySem.W.nsIn K mainGlobals b=some none) (q:Nf K L):Nf K (b::L):=⟨a,q⟩
theorem Vi {K:PySem.W.Frag}{h:Heap}{mg:Str->Option Value}(X:K.In h) (G:h.Ns mainGlobals mg):∀ {L:List Str},Nf K L->∀ b∈L,mg b=none
 | _::_,⟨a,_⟩,_,.head _=>PySem.W.mg_none_of X G a
 | _::_,⟨_,q⟩,b,.tail _ m=>Vi X G q b m
end DL
namespace L2
open PySem PySem.Spec PyProof.Rows
theorem cI {P:Program}{w:World}{K:PySem.W.Frag}{mg mb:Str->Option Value}{CX:CXT}{k:Nat}{fa a pl:Addr}{fd:FuncData}{x:Str}{sp:Sp}{s₁:Shared}{vs:List Value}{ns:List Int}
  (KX:K.In s₁.heap) (kp:K.lookup pl=none) (hpl:s₁.heap.get? pl=some (PySem.W.tabObj #[])) (ct:isCodeTable s₁.heap pl)
  (hns:s₁.heap.Ns mainGlobals mg) (hb:s₁.heap.Ns builtinsNs mb) (hbb:∀ x:Str,x ≠ "__name__"->mb x=bootBuiltins x) (hlim:s₁.heap.NoLimit) (hg:s₁.gens=#[])
  (ha:s₁.heap.get? a=some { cls:=.type "list",data:=.seq vs.toArray }) (hi:IntsAre vs ns) (hl:ns.length<=sizeLine) (hr:Room k callerA)
  (F:∀ base:Heap,K.In base->base.Ns mainGlobals mg->FnOk P w K mg base CX k fa fd [x] sp) (hbind:∀ (s:Shared) (u:Value),BindsTo s fd ⟨[u],[]⟩ [(x,u)])
  (hsp:∀ H:Hp,H pl=some (.tbl #[])->((∃ o,H a=some (.frz o (.lst (ns.map V.int))))\/∃ (o:Obj) (its:Array Value) (n:Nat),K.lookup a=some o/\o.cls=.type "list"/\o.dict=none/\o.data=.seq its n/\its.size<=sizeLine/\Vals (ns.map V.int) its.toList)->sp [.ref a] H (fun v _=>v=.bl true) fun _ _ _=>False)
  (hCX:∀ H e s',CX [] H s₁ (fun _ _ _=>False) e s'->False) :
  codeAny (model P w) callerA (.call (.ref fa) ⟨[.ref a],[]⟩) (fun r s'=>r=.ok (.ret (.bool true))/\OldK s₁.heap s'.heap/\s'.os=s₁.os/\AllBare s'.gens) s₁:=by
 have rv:=Q0 hi;have lenV:=hi.length;have hap:a≠pl:=fun z=>by rw [z,hpl] at ha;cases ha
 have core:∀ H:Hp,H pl=some (.tbl #[])->(H a=none\/H a=some (.frz { cls:=.type "list",data:=.seq vs.toArray } (.lst (ns.map V.int))))->(∀ b,b≠a->b≠pl->H b=none)->(H a≠none->K.lookup a=none) ->
   ((∃ o,H a=some (.frz o (.lst (ns.map V.int))))\/∃ (o:Obj) (its:Array Value) (n:Nat),K.lookup a=some o/\o.cls=.type "list"/\o.dict=none/\o.data=.seq its n/\its.size<=sizeLine/\Vals (ns.map V.int) its.toList) ->
   codeAny (model P w) callerA (.call (.ref fa) ⟨[.ref a],[]⟩) (fun r s'=>r=.ok (.ret (.bool true))/\OldK s₁.heap s'.heap/\s'.os=s₁.os/\AllBare s'.gens) s₁:=by
  intro H hP hA hO hK hS;have hok:HOk P w H s₁.heap:=fun b u z=>by
   by_cases b1:b=a
   ·subst b1;rcases hA with q|q
    ·rw [q] at z;cases z
    ·rw [q] at z;cases z;exact ⟨ha,by rw [List.length_map];exact hl,vs,_,rv,ha⟩
   ·by_cases b2:b=pl
    ·subst b2;rw [hP] at z;cases z;exact hpl
    ·rw [hO b b1 b2] at z;cases z
  have base_of:∀ {b:Addr} {o:Obj},s₁.heap.get? b=some o->H b=none->(Rv s₁.heap H).get? b=some o:=fun e n=>cZ e n
  have noA:∀ {b:Addr} {o:Obj} {es:Array DictEntry} {ep:Nat},s₁.heap.get? b=some o->o.data=.dict es ep->H b=none:=fun {b o es ep} e d=>by
   refine hO b (fun z=>?_) fun z=>?_
   ·subst z;rw [ha] at e;cases e;have d':Data.seq vs.toArray _=Data.dict es ep:=d;cases d'
   ·subst z;rw [hpl] at e;cases e;have d':Data.fields #[]=Data.dict es ep:=d;cases d'
  have nsK:∀ {b:Addr} {m:Str->Option Value},s₁.heap.Ns b m->(Rv s₁.heap H).Ns b m:=fun {b m} ⟨o,es,ep,e,d,r⟩=>⟨o,es,ep,base_of e (noA e d),d,r⟩
  have hKb:K.In (Rv s₁.heap H):=fun b o e=>base_of (KX b o e) (by
   by_cases b1:b=a
   ·subst b1;cases q:H b with
    | none=>rfl
    | some u=>rw [hK (by rw [q];simp)] at e;cases e
   ·exact hO b b1 fun z=>by subst z;rw [kp] at e;cases e)
  have hM:Mod K mg (Rv s₁.heap H):=⟨hKb,nsK hns,⟨mb,nsK hb,hbb⟩,let ⟨mc,h1,h2⟩:=hlim;⟨mc,nsK h1,h2⟩⟩;have e0:Env0 P w K mg (Rv s₁.heap H) callerA [] s₁ H:=⟨rfl,hM,fun b o e=>pY e,Nat.le_of_eq (aL _ _),trivial,fun b hb=>absurd (show b∈([]:List Addr) from hb) (by simp),hok,.of_eq hg⟩;refine codeAny_mono ((F _ hKb (nsK hns)).run callerA [] s₁ H ⟨[.ref a],[]⟩ [.ref a] [.ref a] _ _ hr e0 (hbind s₁ (.ref a)) (.cons rfl .nil) (hsp H hP hS)) fun r s' h=>?_
  cases r with
  | error e=>exact (hCX H e s' h).elim
  | ok fl =>
   cases fl with
   | next=>exact False.elim h
   | brk=>exact False.elim h
   | cont=>exact False.elim h
   | ret u =>
    obtain ⟨v,H',os,bare,un,hok',r',q⟩:=h;have q':v=.bl true:=q;subst q';obtain rfl:u=Value.bool true:=r';obtain ⟨more,hm⟩:=un.tbls pl _ hP;have pl':s'.heap.get? pl=some (PySem.W.tabObj (#[]++more)):=hok' pl _ hm;have keep:∀ b o,b≠pl->s₁.heap.get? b=some o->s'.heap.get? b=some o:=fun b o n e=>by
     by_cases b1:b=a
     ·subst b1;rcases hA with z|z
      ·exact un.keep b o e z (by intro z;exact absurd (show b∈([]:List Addr) from z) (by simp)) (by simp)
      ·have z2:=un.frzs b _ _ z;obtain ⟨e1,_⟩:=hok b _ z;obtain ⟨e2,_⟩:=hok' b _ z2;rw [e] at e1;cases e1;exact e2
     ·exact un.keep b o e (hO b b1 n) (by intro z;exact absurd (show b∈([]:List Addr) from z) (by simp)) (by simp)
    refine ⟨rfl,⟨fun b o e=>?_,fun b o e=>?_⟩,os,bare⟩
    ·by_cases z:b=pl
     ·subst z;rw [hpl] at e;cases e;exact .inr (.inl ⟨ct,rfl,#[],more,rfl,pl'⟩)
     ·exact .inl (keep b o z e)
    ·by_cases z:b=pl
     ·subst z;exact ⟨_,pl'⟩
     ·exact ⟨o,keep b o z e⟩
 cases hk:K.lookup a with
 | some o =>
  have e:=KX a o hk;rw [ha] at e;cases e;exact core (fun b=>if b=pl then some (.tbl #[]) else none) (if_pos rfl) (.inl (if_neg hap)) (fun b _ z=>if_neg z) (fun z=>absurd (if_neg hap) z) (.inr ⟨_,vs.toArray,_,hk,rfl,rfl,rfl,by rw [List.size_toArray,lenV];exact hl,by simpa using rv⟩)
 | none =>
  exact core (fun b=>if b=pl then some (.tbl #[]) else if b=a then some (.frz { cls:=.type "list",data:=.seq vs.toArray } (.lst (ns.map V.int))) else none) (if_pos rfl) (.inr (by simp only [if_neg hap,if_pos])) (fun b y z=>by simp only [if_neg z,if_neg y]) (fun _=>hk) (.inl ⟨_,by simp only [if_neg hap,if_pos];rfl⟩)
end L2
namespace DL
open PySem L2
noncomputable def cut (pl:Addr) (K:PySem.W.Frag):PySem.W.Frag:=K.filter fun q=>q.1 != pl
theorem Ft {pl a:Addr}:∀ {K:PySem.W.Frag},(cut pl K).lookup a=if a=pl then none else K.lookup a
 | []=>by unfold cut;simp
 | (b,o)::K=>by
  have ih:=Ft (pl:=pl) (a:=a) (K:=K);unfold cut at ih ⊢;rw [List.filter_cons]
  by_cases hb:b=pl
  ·subst hb;rw [if_neg (by simp),ih]
   by_cases ha:a=b
   ·rw [if_pos ha,if_pos ha]
   ·rw [if_neg ha,if_neg ha,List.lookup_cons];have:(a==b)=false:=by simpa using ha
    rw [this]
  ·rw [if_pos (by simpa using hb),List.lookup_cons,List.lookup_cons]
   by_cases ha:a=b
   ·subst ha;simp [hb]
   ·have:(a==b)=false:=by simpa using ha
    rw [this];exact ih
section
variable {pl:Addr}{K:PySem.W.Frag}(hp:K.lookup pl=some (PySem.W.tabObj #[]))
theorem kE {h:Heap}(X:K.In h):(cut pl K).In h:=fun a o e=>by
 rw [Ft] at e;split at e
 ·cases e
 ·exact X a o e
include hp
theorem Jy {a:Addr}{o:Obj}(e:K.lookup a=some o) (n:o.data≠.fields #[]):(cut pl K).lookup a=some o:=by
 rw [Ft,if_neg,e];intro z;subst z;rw [hp] at e;cases e;exact n rfl
theorem G7 {x:Str}{r:Option Value}(e:PySem.W.nsIn K mainGlobals x=some r):PySem.W.nsIn (cut pl K) mainGlobals x=some r:=by
 unfold PySem.W.nsIn at e ⊢;split at e
 ·rename_i hk;rw [Jy hp hk (by intro z;cases z)];exact e
 ·cases e
theorem kI {v:Value}{q:Str}(e:PySem.W.codeIn K v q=true):PySem.W.codeIn (cut pl K) v q=true:=by
 unfold PySem.W.codeIn at e ⊢;split at e
 ·split at e
  ·rename_i vs _ hk;rw [Jy hp hk (by intro z;injection z with z;subst z;simp at e)];exact e
  ·cases e
 ·cases e
theorem Xk {c a:Addr}(e:PySem.W.codeHdIn K c a=true):PySem.W.codeHdIn (cut pl K) c a=true:=by
 unfold PySem.W.codeHdIn at e ⊢;split at e
 ·rename_i vs _ hk;rw [Jy hp hk (by intro z;injection z with z;subst z;simp at e)];exact e
 ·cases e
theorem S9 {x q:Str}{st:Stmt}{f:Addr}{fd:FuncData}(F:Fun K x q st f fd):Fun (cut pl K) x q st f fd:=by
 obtain ⟨⟨oc,od,kV,doc,pm,an,cdv,ct,osl,e,lk,hcd⟩,kp⟩:=F;have l2:=Jy hp lk (by intro z;cases z);refine ⟨⟨oc,od,kV,doc,pm,an,cdv,ct,osl,e,l2,kI hp hcd⟩,?_⟩;unfold PySem.W.keepIn;simp only [l2]
theorem Zt:∀ {L:List (Str×Stmt)},Kz K L->Kz (cut pl K) L
 | [],_=>trivial
 | _::_,⟨⟨f,fd,a,F⟩,q⟩=>⟨⟨f,fd,G7 hp a,S9 hp F⟩,Zt q⟩
theorem Zu:∀ {L:List Str},Nf K L->Nf (cut pl K) L
 | [],_=>trivial
 | _::_,⟨a,q⟩=>⟨G7 hp a,Zu q⟩
mutual
theorem Zv:∀ (n:Nat) {u:Value}{d:D},rdV K n u=some d->rdV (cut pl K) n u=some d
 | n,.none,d,h=>by cases n <;> (simp only [rdV] at h ⊢;exact h)
 | n,.bool b,d,h=>by cases n <;> (simp only [rdV] at h ⊢;exact h)
 | n,.int i t,d,h=>by cases n <;> (simp only [rdV] at h ⊢;exact h)
 | n,.str x t,d,h=>by cases n <;> (simp only [rdV] at h ⊢;exact h)
 | 0,.ref a,d,h=>by simp only [rdV] at h;cases h
 | n+1,.ref a,d,h=>by
  simp only [rdV] at h ⊢;split at h
  ·rename_i c its ep sl hk;rw [Jy hp hk (by intro z;cases z)];dsimp only;split at h
   ·rename_i hc;rw [if_pos hc];split at h
    ·rename_i ds hd;rw [Vj n hd];exact h
    ·cases h
   ·cases h
  ·cases h
 | n,.float _ _,d,h=>by cases n <;> (simp only [rdV] at h;cases h)
 | n,.bytes _ _,d,h=>by cases n <;> (simp only [rdV] at h;cases h)
 | n,.ellipsis,d,h=>by cases n <;> (simp only [rdV] at h;cases h)
 | n,.notImplemented,d,h=>by cases n <;> (simp only [rdV] at h;cases h)
 | n,.type _,d,h=>by cases n <;> (simp only [rdV] at h;cases h)
 | n,.builtin _,d,h=>by cases n <;> (simp only [rdV] at h;cases h)
theorem Vj:∀ (n:Nat) {us:List Value}{ds:List D},O3 K n us=some ds->O3 (cut pl K) n us=some ds
 | n,[],ds,h=>by cases n <;> (simp only [O3] at h ⊢;exact h)
 | 0,_::_,ds,h=>by simp only [O3] at h;cases h
 | n+1,u::r,ds,h=>by
  simp only [O3] at h ⊢;split at h
  ·rename_i d hd;rw [Zv n hd];dsimp only;split at h
   ·rename_i ds2 hd2;rw [Vj n hd2];exact h
   ·cases h
  ·cases h
end
theorem Zw:∀ {L:List (Str×D)},Nb K L->Nb (cut pl K) L
 | [],_=>trivial
 | _::_,⟨⟨u,a,b⟩,q⟩=>⟨⟨u,G7 hp a,Zv hp 60 b⟩,Zw q⟩
end
theorem uG {pl:Addr}{K:PySem.W.Frag}(hp:K.lookup pl=some (PySem.W.tabObj #[])) {x:Str}(h:eZ K x pl):eZ (cut pl K) x pl:=by
 obtain ⟨f,o,fd,c,bm,ob,n1,n2,n3,n4,n5,b1,b2,b3,b4,b5,b6⟩:=h;exact ⟨f,o,fd,c,bm,ob,G7 hp n1,Jy hp n2 (by rw [n3];intro z;cases z),n3,n4,Xk hp n5,G7 hp b1,Jy hp b2 (by rw [b5];intro z;cases z),b3,b4,b5,b6⟩
theorem kJ {names:List (Str×NameKind)}{x:Str}(h:(x,NameKind.free)∈names):x∈uD names:=by
 have go:∀ (names:List (Str×NameKind)) (acc:List Str),(x∈acc\/(x,NameKind.free)∈names)->x∈names.foldl (fun c x=>if x.2==.free then x.1::c else c) acc:=by
  intro names
  induction names with
  | nil=>exact fun acc h=>h.elim id fun z=>by simp at z
  | cons y r ih =>
   intro acc h;refine ih _ ?_;rcases h with h|h
   ·left;show x∈(if (y.2==.free)=true then y.1::acc else acc);split
    ·exact List.mem_cons_of_mem _ h
    ·exact h
   ·rcases List.mem_cons.mp h with h|h
    ·left;subst h;show x∈(if (NameKind.free==.free)=true then x::acc else acc);rw [if_pos (by decide)];exact List.mem_cons_self
    ·exact .inr h
 exact go names [] (.inr h)
noncomputable def wO (st:Stmt):CloI:={ ps:=(Bh st).ps,N:=(Bh st).N,fr:=uD (Ai st).names,scope:=Ai st,body:=Bu st }
theorem Aa7 {N fr:List Str}{js:List Nat}(h:((js.zip fr).all fun p=>N[p.1]?==some p.2)=true):∀ (t j:Nat) (x:Str),js[t]?=some j->fr[t]?=some x->N[j]?=some x:=fun t j x h1 h2=>by
 have:=List.all_eq_true.mp h (j,x) (List.mem_of_getElem? (i:=t) (by rw [List.getElem?_zip_eq_some];exact ⟨h1,h2⟩));exact eq_of_beq this
theorem Zx {K:PySem.W.Frag}{h:Heap}{mg:Str->Option Value}(X:K.In h) (G:h.Ns mainGlobals mg) {x:Str}{st:Stmt}{I:FnI}{m:MakI}(D:MakDef (Bh st) m st):∀ {L:List (Str×Stmt)},Kz K L->Zo L->L.lookup x=some st->(L.lookup x).map Bh=some I ->
  ∃ (st:Stmt) (f:Addr) (fd:FuncData),mg x=some (.ref f)/\Fun K x x st f fd/\PySem.W.nsIn K mainGlobals x=some (some (.ref f))/\FnScope I.N I.ps (Ai st)/\I.scope=Ai st/\MakDef I m st/\∀ us:List Value,us.length=I.ps.length->bindArgs fd ⟨us,[]⟩=pure (I.ps.zip us)
 | [],_,_,e,_=>by cases e
 | (z,st')::L,⟨⟨f,fd,n,F⟩,q⟩,⟨s,t⟩,e,e2=>by
  simp only [List.lookup] at e e2;split at e
  ·rename_i hy;have hz:=eq_of_beq hy;subst hz;cases e;simp only [hy] at e2;cases e2;refine ⟨st,f,fd,PySem.W.mg_of X G n,F,n,s.1,rfl,D,fun us hu=>?_⟩;obtain ⟨oc,od,kV,doc,pm,an,cdv,ct,osl,rfl,_⟩:=F.ex;exact s.2 kV doc pm an cdv ct us hu
  ·rename_i hy;simp only [hy] at e2;exact Zx X G D q t e e2
theorem Tc {K:PySem.W.Frag}{a:Addr}:PySem.W.typeIn K (.ref a)=(K.lookup a).map (·.cls):=rfl
section
variable {pl:Addr}{K:PySem.W.Frag}(hp:K.lookup pl=some (PySem.W.tabObj #[]))
include hp
theorem Ia (a:Addr):(cut pl K).lookup a=K.lookup a\/((cut pl K).lookup a=none/\K.lookup a=some (PySem.W.tabObj #[])):=by
 rw [Ft];split
 ·rename_i e;exact .inr ⟨rfl,by rw [e];exact hp⟩
 ·exact .inl rfl
theorem uH (a:Addr) (x:Str):PySem.W.nsIn (cut pl K) a x=PySem.W.nsIn K a x:=by
 unfold PySem.W.nsIn;rcases Ia hp a with e|⟨e1,e2⟩
 ·rw [e]
 ·rw [e1,e2]
theorem uI (x:Str) (v:Value):PySem.W.ownIn (cut pl K) x v=PySem.W.ownIn K x v:=by
 unfold PySem.W.ownIn;cases v with
 | ref a =>
  dsimp only;rcases Ia hp a with e|⟨e1,e2⟩
  ·rw [e];split
   ·exact uH hp _ _
   ·rfl
  ·rw [e1,e2]
 | _=>rfl
theorem Rk (x:Str):∀ l:List Value,PySem.W.alongIn (cut pl K) x l=PySem.W.alongIn K x l
 | []=>rfl
 | c::r=>by
  unfold PySem.W.alongIn;rw [uI hp,Rk x r]
theorem Fv (t:Value) (x:Str):PySem.W.findIn (cut pl K) t x=PySem.W.findIn K t x:=by
 unfold PySem.W.findIn;cases t with
 | ref a =>
  dsimp only;rcases Ia hp a with e|⟨e1,e2⟩
  ·rw [e];split
   ·exact Rk hp _ _
   ·rfl
  ·rw [e1,e2]
 | _=>rfl
theorem Td (C:Addr):PySem.W.clsIn (cut pl K) C=PySem.W.clsIn K C:=by
 unfold PySem.W.clsIn;rcases Ia hp C with e|⟨e1,e2⟩
 ·rw [e]
 ·rw [e1,e2]
theorem Aa8 (C:Addr) (x:Str):PySem.W.plainGet (cut pl K) C x=PySem.W.plainGet K C x:=by
 unfold PySem.W.plainGet;rw [Fv hp,Fv hp]
theorem Aa9 (C:Addr):PySem.W.hasDictIn (cut pl K) C=PySem.W.hasDictIn K C:=by
 unfold PySem.W.hasDictIn;rw [Td hp]
theorem Aba (C:Addr):PySem.W.plainOver (cut pl K) C=PySem.W.plainOver K C:=by
 unfold PySem.W.plainOver;rw [Td hp]
theorem kO {a:Addr}(h:PySem.W.isFn K (.ref a)=true):PySem.W.isFn (cut pl K) (.ref a)=true:=by
 unfold PySem.W.isFn at h ⊢;rw [Tc] at h ⊢;rcases Ia hp a with e|⟨e1,e2⟩
 ·rw [e];exact h
 ·rw [e2] at h;simp [PySem.W.tabObj] at h
theorem Ng {a:Addr}{x:Str}{r:Option Value}(n:∃ oc od cd sl,K.lookup a=some ⟨oc,od,.cls cd,sl⟩) (h:PySem.W.specialIn K (.ref a) x=some r):PySem.W.specialIn (cut pl K) (.ref a) x=some r:=by
 obtain ⟨oc,od,cd,sl,n⟩:=n;unfold PySem.W.specialIn at h ⊢;rw [Tc] at h ⊢;rcases Ia hp a with e|⟨e1,e2⟩
 ·rw [e];rw [n,Option.map_some,Option.bind_some] at h ⊢;rw [Fv hp];exact h
 ·rw [n] at e2;cases e2
theorem Vk {a:Addr}(h:PySem.W.keepIn K (.ref a)=true):PySem.W.keepIn (cut pl K) (.ref a)=true:=by
 unfold PySem.W.keepIn at h ⊢;dsimp only at h ⊢;rcases Ia hp a with e|⟨e1,e2⟩
 ·rw [e];split at h
  ·rename_i hk
   first | rfl | (rw [hk])
  ·rename_i hk
   try rw [hk]
   try dsimp only
   rw [beq_iff_eq] at h ⊢;exact Ng hp ⟨_,_,_,_,hk⟩ h
  ·cases h
 ·rw [e2] at h;cases h
theorem cJ {C:Addr}(h:PySem.W.makesIn K C=true):PySem.W.makesIn (cut pl K) C=true:=by
 unfold PySem.W.makesIn at h ⊢;rcases Ia hp C with e|⟨e1,e2⟩
 ·rw [e];split at h
  ·rename_i cd sl hk
   try rw [hk]
   try dsimp only
   simp only [Bool.and_eq_true,beq_iff_eq] at h ⊢;refine ⟨⟨h.1.1,Ng hp ⟨_,_,_,_,hk⟩ h.1.2⟩,?_⟩;have h2:=h.2;unfold PySem.W.instIn at h2 ⊢;rw [Tc] at h2 ⊢;rw [e];rw [hk,Option.map_some,Option.bind_some] at h2 ⊢;unfold PySem.W.subIn at h2 ⊢;split at h2
   ·exact h2
   ·unfold PySem.W.mroIn at h2 ⊢;rw [Td hp];exact h2
   ·exact h2
  ·cases h
 ·rw [e2] at h;cases h
theorem Te {C:Addr}(c:Cls K C):Cls (cut pl K) C:=⟨(Aa8 hp _ _).trans c.pg,(Aa9 hp _).trans c.hd,(Aba hp _).trans c.po,(Fv hp _ _).trans c.sa⟩
theorem kW {C f:Addr}{m:Str}(c:Meth K C m f):Meth (cut pl K) C m f:=⟨(Fv hp _ _).trans c.at_,kO hp c.fn,Vk hp c.kp⟩
theorem Abb {C f:Addr}(c:Mk K C f):Mk (cut pl K) C f:=⟨cJ hp c.makes,(Fv hp _ _).trans c.init,kO hp c.fn,Vk hp c.kp⟩
theorem kY {C:Addr}{f:Str}(c:Eg K C f):Eg (cut pl K) C f:=(Fv hp _ _).trans c
end
theorem Ae4 {l:PySem.W.OpenLaw}{q:Program}{loose:List Str}{XP:(Str->Option Value)->Heap->Prop}{YP:World->Heap->Prop}{d:DefRec}{K:Params->PySem.W.Frag}{Tt:Tb}{I:FnI}{m:MakI}{x:Str}(k:Nat)
  (hn:l.most=some 63) (hdf:d.params.defaults=[]) (hY:∀ (w:World) (h:Heap),YP w h->(K w.params).In h) (hr:Room (k+3) callerA)
  (hI:Tt.tb d.name=some I) (hps:I.ps=[x]) (hm:Tt.mak d.name=some m)
  (T:∀ (w:World) (mg:Str->Option Value) (h:Heap),(K w.params).In h->h.Ns mainGlobals mg->∃ pl,(K w.params).lookup pl=some (PySem.W.tabObj #[])/\eZ (K w.params) d.name pl/\TbOk w (cut pl (K w.params)) mg Tt)
  (main:∀ ns:List Int,ns.length<=63->∃ mh',Lp (GkN Tt k) fuel d.name I m [.rol (ns.map D.int)] [.plq d.name]=some (.bl true,mh')) :
  PySem.W.WalkO q loose XP YP l.row.toRowW d [] (fun f vs=>PySem.call f vs):=by
 refine Att.attach_call hn hdf fun w s₀ s₁ mg mb fa o pm cd doc a vs ns G Y ho hd hcd hmg hobj hints hlen hg=>?_
 have KX:=hY w _ Y;obtain ⟨pl,hp,pk,tb⟩:=T w mg _ KX G.T.g;have ck:=kE (pl:=pl) KX;obtain ⟨st,f,fd,h1,h2,hns,h3,h4,h5,h6⟩:=tb.mak _ _ hm _ hI;rw [hmg] at h1;cases h1;have ct:isCodeTable s₁.heap pl:=by
  obtain ⟨f,o,fd,c,bm,ob,n1,n2,n3,n4,n5,_⟩:=pk;obtain ⟨o,vs,_,_,_,_,_,_,_,e1,e2,e3,e4,_⟩:=PySem.W.codeHd_of_K KX n5;exact ⟨c,o,vs,e1,e2,e3,e4⟩
 refine L2.cI (x:=x) (k:=k+3) (CX:=CX0) (fd:=fd) (sp:=spD (cut pl (K w.params)) 1 (Lp (GkN Tt k) fuel d.name I m)) ck (by rw [Ft,if_pos rfl]) (KX _ _ hp) ct G.T.g G.T.b G.T.builtins G.T.nolimit hg hobj hints (Nat.le_trans hlen (by decide)) hr (fun base hKb hNb=>?_) (fun s u=>.of_eq ?_) (fun H hP hS=>?_) fun _ _ _ z=>z
 ·have:=jR (P:=l.prog) (w:=w) (base:=base) (gok tb k) h2 hns h3 h4 h5 fuel;rw [hps] at this;exact this
 ·have:=h6 [u] (by rw [hps];rfl);rw [hps] at this;exact this
 ·obtain ⟨mh',e⟩:=main ns hlen;refine ⟨rfl,[pl],[.plq d.name],[.rol (ns.map D.int)],.bl true,mh',e,⟨rfl,List.pairwise_singleton _ _,fun n a o e1 e2=>?_⟩,.cons (.rol hS (RDs.ints ns)) .nil,fun H' ρ' v _ _ r=>by cases r;rfl⟩;cases n with
  | zero =>
   cases e1;cases e2;exact ⟨#[],hP,trivial,fun pos v z=>(by cases z),uG hp pk⟩
  | succ n=>cases e1
section
variable {loc:DL.Loc}{mh:MH}{ma mb:DM D}{mr:DM (List D)}{t u:DM Bool}{m1 m2:SM}
theorem Ae5 (i:Nat):vr i loc mh=(match loc[i]? with | some (some d)=>some (d,mh) | _=>none):=by kernel_rfl
theorem uJ:Hr ma loc mh=(match ma loc mh with | none=>none | some (x,h)=>(match fO x h with | some k=>some (k,h) | none=>none)):=by kernel_rfl
theorem kZ (T:String) (f:D->List D->MH->Option (D×MH)):Cw T f ma mr loc mh=(match ma loc mh with | none=>none | some (x,h)=>if bF T x h=true then (match mr loc h with | none=>none | some (ds,h2)=>f x ds h2) else none):=by kernel_rfl
theorem uK (g:GM):Bd ma g loc mh=(match ma loc mh with | some (d,h)=>(match g d loc h with | some (l,h')=>some (.nx,l,h') | none=>none) | none=>none):=by kernel_rfl
theorem lA:ifS t m1 m2 loc mh=(match t loc mh with | some (k,h)=>if k=true then m1 loc h else m2 loc h | none=>none):=by kernel_rfl
theorem uL:retS ma loc mh=(match ma loc mh with | some (d,h)=>some (.rt d,loc,h) | none=>none):=by kernel_rfl
theorem lB:Ep ma loc mh=(match ma loc mh with | some (_,h)=>some (.nx,loc,h) | none=>none):=by kernel_rfl
theorem Zy:Ab m1 m2 loc mh=(match m1 loc mh with | some (.nx,l,h)=>m2 l h | r=>r):=by kernel_rfl
theorem uM:Ec ma loc mh=(match ma loc mh with | none=>none | some (x,h)=>(match srcOf x h with | some s=>some (s,h) | none=>none)):=by kernel_rfl
theorem uN (f:List D->Option Src):Nr f mr loc mh=(match mr loc mh with | none=>none | some (ds,h)=>(match f ds with | some s=>some (s,h) | none=>none)):=by
 unfold Nr DM.bnd;cases mr loc mh with
 | none=>rfl
 | some p =>
  obtain ⟨ds,h⟩:=p;dsimp only;cases f ds <;> rfl
theorem lC:Ko (some ma) loc mh=(match ma loc mh with | some (.int i,h)=>some (some i,h) | _=>none):=by
 show (ma.bnd _) loc mh=_;unfold DM.bnd;cases ma loc mh with
 | none=>rfl
 | some p =>
  obtain ⟨x,h⟩:=p;cases x <;> rfl
theorem lE:Jk ma loc mh=(match ma loc mh with | none=>none | some (x,h)=>(match srcOf x h with | some s=>some (.enum s,h) | none=>none)):=by kernel_rfl
end
theorem Abd (C:Int->Int->Bool) (g:Int->Int->Int) (i j:Int) (mh:MH):iop C g (.int i) (.int j) mh=if C i j=true then some (.int (g i j),mh) else none:=by kernel_rfl
theorem lF {j:Int}(h0:0<=j) (h:j<=1000000):Jv [.int j]=some (.seq (Ce 0 j.toNat)):=by
 have e2:-(2 ^ 62)<=j/\j < 2 ^ 62:=by omega
 unfold Jv;dsimp only;rw [if_pos e2]
theorem Ib {B:Nat}(h:B<=1000000):Jv [.int B]=some (.seq (Ce 0 B)):=by rw [lF (by omega) (by omega),Int.toNat_natCast]
theorem le_size {n:Nat}(h:n<=1000000):n<=sizeLine:=by rw [sizeLine_eq];omega
theorem lt_size {n:Nat}(h:n<=1000000):n < sizeLine:=by rw [sizeLine_eq];omega
theorem lG {ds:List D}{mh:MH}(h:ds.length<=1000000):Q5 ds mh=some (.tup ds,mh):=by unfold Q5;rw [if_pos (le_size h)]
theorem lH {ds:List D}{mh:MH}(h:ds.length<=1000000):Q6 ds mh=some (.ref mh.length,mh++[.lst ds]):=by unfold Q6;rw [if_pos (le_size h)]
theorem Xl {n:Nat}{ds:List D}{y:D}{mh:MH}(e:mh[n]?=some (.lst ds)) (h:ds.length<=1000000):Ck (.ref n) [y] mh=some (.non,mh.set n (.lst (ds++[y]))):=by
 simp only [Ck,e,if_pos (lt_size h)]
theorem lJ {n m:Nat}{xs ys:List D}{mh:MH}(e1:mh[n]?=some (.lst xs)) (e2:mh[m]?=some (.lst ys)) (h:xs.length+ys.length<=1000000):Cd (.ref n) (.ref m) mh=some (.ref mh.length,mh++[.lst (xs++ys)]):=by
 simp only [Cd,e1,e2,if_pos (le_size h)]
theorem Iv (mh:MH) (n:Nat):∀ ns:List Int,Df (py mh n) (ns.map D.int)=some (ns.map PyData.int)
 | []=>rfl
 | a::r=>by
  have e:py mh n (.int a)=some (.int a):=by cases n <;> rfl
  simp only [List.map_cons,Df,e,Iv mh n r]
theorem uO {mh:MH}{n k:Nat}{ns:List Int}(h:mh[k]?=some (.lst (ns.map D.int))):py mh (n+1) (.ref k)=some (.list (ns.map PyData.int)):=by
 simp only [py,h,Iv]
theorem Ie:∀ xs ys:List Int,PyData.eqvAll (xs.map PyData.int) (ys.map PyData.int)=(xs==ys)
 | [],[]=>by simp [PyData.eqvAll]
 | [],_::_=>by simp [PyData.eqvAll]
 | _::_,[]=>by simp [PyData.eqvAll]
 | a::r,b::t=>by simp only [List.map_cons,PyData.eqvAll,PyData.eqv,Ie r t];rfl
theorem Pk {mh:MH}{k:Nat}{xs:List Int}{a:Int}(h:mh[k]?=some (.lst (xs.map D.int))):inD false (.int a) (.ref k) mh=some (.bl (decide (a∈xs)),mh):=by
 have e:py mh 60 (.int a)=some (.int a):=rfl;simp only [inD,Ip h,Um,inB,e,uO h];have:(List.map PyData.int xs).any (fun y=>PyData.eqv y (.int a))=decide (a∈xs):=by
  rw [List.any_map,Bool.eq_iff_iff,List.any_eq_true,decide_eq_true_iff];constructor
  ·rintro ⟨x,hx,e⟩;have e:(x==a)=true:=e;rw [← eq_of_beq e];exact hx
  ·intro hx;exact ⟨a,hx,(beq_self_eq_true a:(a==a)=true)⟩
 rw [this];rfl
end DL
namespace DL
open PySem L2 PyProof.Rows
noncomputable abbrev Ae (n:Nat):D:=.int (n:Int)
noncomputable def Jz (g n:Nat):List Nat:=(List.range n).filter fun i=>g.testBit i
theorem Xm {g n i:Nat}:i∈Jz g n ↔ i < n/\g.testBit i=true:=by unfold Jz;simp
theorem bits_le {g n:Nat}(h:g < 2 ^ n):Builtin.Int.intBits (g:Int)<=n:=by
 unfold Builtin.Int.intBits
 by_cases hg:g=0
 ·subst hg;simp
 ·have:¬ (((g:Int)==0)=true):=by simpa using hg
  rw [if_neg this,Int.natAbs_natCast];have:=(Nat.log2_lt hg).mpr h;omega
theorem Pn (g n:Nat):(Jz g n).length<=n:=by
 unfold Jz;have:=List.length_filter_le (fun i=>g.testBit i) (List.range n)
 simpa using this
noncomputable def setOf (l:List Nat):Nat:=l.foldl (fun a h=>a ||| 2 ^ h) 0
theorem K1 (i:Nat):∀ (l:List Nat) (a:Nat),(l.foldl (fun a h=>a ||| 2 ^ h) a).testBit i=(a.testBit i || decide (i∈l))
 | [],a=>by simp
 | h::r,a=>by
  rw [List.foldl_cons,K1 i r,Nat.testBit_or,Nat.testBit_two_pow];have e:decide (h=i)=decide (i=h):=by simp [eq_comm]
  rw [e]
  by_cases e1:i=h
  ·simp [e1]
  ·by_cases e2:i∈r <;> simp [e1,e2]
theorem Qt (l:List Nat) (i:Nat):(setOf l).testBit i=decide (i∈l):=by unfold setOf;rw [K1];simp
theorem cL (a b:Nat):Builtin.bitOr (a:Int) (b:Int)=((a ||| b:Nat):Int):=by
 rw [bitOr_and,bitAnd_pp (by omega) (by omega)];have:=nat_or_add_and a b;simp only [Int.toNat_natCast];omega
theorem uP (s h:Nat):(Builtin.bitAnd ((s:Int) / 2 ^ (h:Int).toNat) 1==1)=s.testBit h:=by
 rw [bitAnd_m1,Int.toNat_natCast];rw [Nat.testBit_eq_decide_div_mod_eq];have e:((s:Int) / 2 ^ h) % 2=((s / 2 ^ h % 2:Nat):Int):=by
  rw [Int.natCast_emod,Int.natCast_ediv,Int.natCast_pow];rfl
 rw [e,Bool.eq_iff_iff,decide_eq_true_iff,beq_iff_eq];omega
end DL
namespace DL
open PySem L2
noncomputable def wD {α:Type}(m:DM α) (loc:DL.Loc) (mh:MH) (P:α->MH->Prop):Prop:=∃ a h,m loc mh=some (a,h)/\P a h
noncomputable def wV (r:Option (D×MH)) (P:D->MH->Prop):Prop:=∃ d h,r=some (d,h)/\P d h
noncomputable def wG (r:Option (DL.Loc×MH)) (P:DL.Loc->MH->Prop):Prop:=∃ l h,r=some (l,h)/\P l h
noncomputable def wS (m:SM) (loc:DL.Loc) (mh:MH) (P:Fl->DL.Loc->MH->Prop):Prop:=∃ f l h,m loc mh=some (f,l,h)/\P f l h
section
variable {loc:DL.Loc}{mh:MH}{ma mb mc:DM D}{mr:DM (List D)}{t u:DM Bool}{P:D->MH->Prop}{B:Bool->MH->Prop}
theorem Bk {α:Type}{m:DM α}{P Q:α->MH->Prop}(h:wD m loc mh P) (i:∀ a h,P a h->Q a h):wD m loc mh Q:=let ⟨a,h',e,p⟩:=h;⟨a,h',e,i a h' p⟩
theorem Ao {i:Nat}{d:D}(e:loc[i]?=some (some d)) (h:P d mh):wD (vr i) loc mh P:=⟨d,mh,by rw [Ae5,e],h⟩
theorem Ad {α:Type}{a:α}{P:α->MH->Prop}(h:P a mh):wD (Zr a) loc mh P:=⟨a,mh,rfl,h⟩
theorem uQ {f:MH->Option (D×MH)}(h:wV (f mh) P):wD (Zl f) loc mh P:=h
theorem Bw {α β:Type}{m:DM α}{f:α->DM β}{P:β->MH->Prop}(h:wD m loc mh fun a h1=>wD (f a) loc h1 P):wD (m.bnd f) loc mh P:=by
 obtain ⟨a,h1,e1,b,h2,e2,p⟩:=h;exact ⟨b,h2,by unfold DM.bnd;rw [e1];exact e2,p⟩
theorem Az {f:D->D->MH->Option (D×MH)}(h:wD ma loc mh fun x h1=>wD mb loc h1 fun y h2=>wV (f x y h2) P):wD (dop f ma mb) loc mh P:=Bw (Bk h fun _ _ q=>Bw (Bk q fun _ _ z=>z))
theorem Aw {P:List D->MH->Prop}(h:wD ma loc mh fun x h1=>wD mr loc h1 fun xs h2=>P (x::xs) h2):wD (Aa ma mr) loc mh P:=Bw (Bk h fun _ _ q=>Bw (Bk q fun _ _ z=>Ad z))
theorem Br {f:Fn}(h:wD mr loc mh fun ds h1=>wV (f ds h1) P):wD (Ag f mr) loc mh P:=Bw (Bk h fun _ _ q=>q)
theorem lK (h:wD mr loc mh fun ds h1=>ds.length<=1000000/\P (.tup ds) h1):wD (Bg mr) loc mh P:=Bw (Bk h fun _ _ q=>⟨_,_,lG q.1,q.2⟩)
theorem Tf (h:wD mr loc mh fun ds h1=>ds.length<=1000000/\P (.ref h1.length) (h1++[.lst ds])):wD (lstM mr) loc mh P:=Bw (Bk h fun _ _ q=>⟨_,_,lH q.1,q.2⟩)
theorem lM (h:wD ma loc mh fun x h1=>∃ i,x=.int i/\P (.int (-i)) h1):wD (Jx ma) loc mh P:=Bw (Bk h fun _ _ ⟨i,e,q⟩=>by subst e;exact ⟨_,_,rfl,q⟩)
theorem Abe {T:String}(h:wD ma loc mh fun x h1=>wV (Uv T x h1) P):wD (Aa6 T ma) loc mh P:=Bw (Bk h fun _ _ q=>q)
theorem Xn (h:wD ma loc mh fun x h1=>wV (Er x h1) P):wD (Pj ma) loc mh P:=Bw (Bk h fun _ _ q=>q)
theorem Ar (h:wD ma loc mh fun x h1=>∃ k,x=.bl k/\B k h1):wD (Aj ma) loc mh B:=Bw (Bk h fun _ _ ⟨k,e,q⟩=>by subst e;exact Ad q)
theorem G8 (h:wD ma loc mh fun x h1=>∃ k,fO x h1=some k/\B k h1):wD (Hr ma) loc mh B:=by
 obtain ⟨x,h1,e,k,ek,q⟩:=h;exact ⟨k,h1,by rw [uJ,e];dsimp only;rw [ek],q⟩
theorem G9 (h:wD t loc mh fun k h1=>B (!k) h1):wD (Hw t) loc mh B:=Bw (Bk h fun _ _ q=>Ad q)
theorem Tg (h:wD t loc mh fun k h1=>(k=true->wD u loc h1 B)/\(k=false->B false h1)):wD (Hq t u) loc mh B:=Bw (Bk h fun k _ q=>by
 cases k with
 | true=>exact q.1 rfl
 | false=>exact Ad (q.2 rfl))
theorem Ej (h:wD t loc mh fun k h1=>(k=true->B true h1)/\(k=false->wD u loc h1 B)):wD (Km t u) loc mh B:=Bw (Bk h fun k _ q=>by
 cases k with
 | true=>exact Ad (q.1 rfl)
 | false=>exact q.2 rfl)
theorem uR (h:wD ma loc mh fun x h1=>∃ k,x=.bl k/\(k=true->wD mb loc h1 P)/\(k=false->P (.bl false) h1)):wD (Gq ma mb) loc mh P:=Bw (Ar (Bk h fun _ _ ⟨k,e,q⟩=>⟨k,e,by
 cases k with
 | true=>exact q.1 rfl
 | false=>exact Ad (q.2 rfl)⟩))
theorem lN (h:wD t loc mh fun k h1=>(k=true->wD ma loc h1 P)/\(k=false->wD mb loc h1 P)):wD (dIf t ma mb) loc mh P:=Bw (Bk h fun k _ q=>by
 cases k with
 | true=>exact q.1 rfl
 | false=>exact q.2 rfl)
theorem Vl {f f':D->D->MH->Option (D×MH)}(h:wD ma loc mh fun x h1=>wD mb loc h1 fun y h2=>wV (f x y h2) fun z h3=>∃ k,z=.bl k/\(k=true->wD mc loc h3 fun w h4=>wV (f' y w h4) P)/\(k=false->P (.bl false) h3)):wD (G4 f f' ma mb mc) loc mh P :=
 Bw (Bk h fun _ _ q=>Bw (Bk q fun _ _ z=>Bw (Ar (Bk (uQ z) fun _ _ ⟨k,e,q⟩=>⟨k,e,by
  cases k with
  | true=>exact Bw (Bk (q.1 rfl) fun _ _ w=>w)
  | false=>exact Ad (q.2 rfl)⟩))))
theorem Zz {T:String}{f:D->List D->MH->Option (D×MH)}(h:wD ma loc mh fun x h1=>bF T x h1=true/\wD mr loc h1 fun ds h2=>wV (f x ds h2) P):wD (Cw T f ma mr) loc mh P:=by
 obtain ⟨x,h1,e1,ht,ds,h2,e2,d,h3,e3,p⟩:=h;exact ⟨d,h3,by rw [kZ,e1];dsimp only;rw [if_pos ht,e2];exact e3,p⟩
theorem lO {O:Option Int->MH->Prop}(h:O none mh):wD (Ko none) loc mh O:=⟨none,mh,rfl,h⟩
theorem lQ {O:Option Int->MH->Prop}(h:wD ma loc mh fun x h1=>∃ i,x=.int i/\O (some i) h1):wD (Ko (some ma)) loc mh O:=by
 obtain ⟨x,h1,e,i,rfl,q⟩:=h;exact ⟨some i,h1,by rw [lC,e],q⟩
theorem Ae6 {ml mu:Option (DM D)}(h:wD ma loc mh fun x h1=>wD (Ko ml) loc h1 fun l h2=>wD (Ko mu) loc h2 fun r h3=>wV (slD x l r h3) P):wD (dSl ma ml mu) loc mh P :=
 Bw (Bk h fun _ _ q=>Bw (Bk q fun _ _ z=>Bw (Bk z fun _ _ w=>w)))
theorem Pq {R:Src->MH->Prop}(h:wD ma loc mh fun x h1=>∃ s,srcOf x h1=some s/\R s h1):wD (Ec ma) loc mh R:=by
 obtain ⟨x,h1,e,s,es,q⟩:=h;exact ⟨s,h1,by rw [uM,e];dsimp only;rw [es],q⟩
theorem uU {R:Src->MH->Prop}(h:wD ma loc mh fun x h1=>∃ s,srcOf x h1=some s/\R (.enum s) h1):wD (Jk ma) loc mh R:=by
 obtain ⟨x,h1,e,s,es,q⟩:=h;exact ⟨.enum s,h1,by rw [lE,e];dsimp only;rw [es],q⟩
theorem lR {R:Src->MH->Prop}{f:List D->Option Src}(h:wD mr loc mh fun ds h1=>∃ s,f ds=some s/\R s h1):wD (Nr f mr) loc mh R:=by
 obtain ⟨x,h1,e,s,es,q⟩:=h;exact ⟨s,h1,by rw [uN,e];dsimp only;rw [es],q⟩
end
noncomputable def Wx (m2:SM) (P:Fl->DL.Loc->MH->Prop) (f:Fl) (l:DL.Loc) (h:MH):Prop:=match f with
 | .nx=>wS m2 l h P
 | f=>P f l h
section
variable {loc l:DL.Loc}{mh h1:MH}{me:DM D}{m1 m2:SM}{g:GM}{t:DM Bool}{P:Fl->DL.Loc->MH->Prop}
theorem Ak (h:wS m1 loc mh (Wx m2 P)):wS (Ab m1 m2) loc mh P:=by
 obtain ⟨f,l,h1,e,q⟩:=h;cases f with
 | nx =>
  obtain ⟨f',l',h',e',p⟩:=q;exact ⟨f',l',h',by rw [Zy,e];exact e',p⟩
 | _=>exact ⟨_,l,h1,by rw [Zy,e],q⟩
theorem Af (h:wS m2 l h1 P):Wx m2 P .nx l h1:=h
theorem uV {d:D}(h:P (.rt d) l h1):Wx m2 P (.rt d) l h1:=h
theorem Ax (h:P .nx loc mh):wS Zn loc mh P:=⟨_,_,_,rfl,h⟩
theorem Dg (h:wD me loc mh fun d h1=>wG (g d loc h1) fun l h2=>P .nx l h2):wS (Bd me g) loc mh P:=by
 obtain ⟨d,h1,e1,l,h2,e2,p⟩:=h;exact ⟨.nx,l,h2,by rw [uK,e1];dsimp only;rw [e2],p⟩
theorem Hf (h:wD me loc mh fun d h1=>P (.rt d) loc h1):wS (retS me) loc mh P:=by
 obtain ⟨d,h1,e1,p⟩:=h;exact ⟨.rt d,loc,h1,by rw [uL,e1],p⟩
theorem uW (h:wD me loc mh fun _ h1=>P .nx loc h1):wS (Ep me) loc mh P:=by
 obtain ⟨d,h1,e1,p⟩:=h;exact ⟨.nx,loc,h1,by rw [lB,e1],p⟩
theorem Bl (h:wD t loc mh fun k h1=>(k=true->wS m1 loc h1 P)/\(k=false->wS m2 loc h1 P)):wS (ifS t m1 m2) loc mh P:=by
 obtain ⟨k,h1,e1,a,b⟩:=h;cases k with
 | true =>
  obtain ⟨f,l,h',e,p⟩:=a rfl;exact ⟨f,l,h',by rw [lA,e1];exact e,p⟩
 | false =>
  obtain ⟨f,l,h',e,p⟩:=b rfl;exact ⟨f,l,h',by rw [lA,e1];exact e,p⟩
theorem Bf {i:Nat}{d:D}{R:DL.Loc->MH->Prop}(h:R (loc.set i (some d)) mh):wG (Bb i d loc mh) R:=⟨_,_,rfl,h⟩
theorem Ti {is:List Nat}{ds:List D}{R:DL.Loc->MH->Prop}(hl:ds.length=is.length) (h:R (Ov is ds loc) mh):wG (Ow is (.tup ds) loc mh) R:=⟨_,_,if_pos hl,h⟩
noncomputable def Abf (J:DL.Loc->MH->Prop) (P:Fl->DL.Loc->MH->Prop) (f:Fl) (l:DL.Loc) (h:MH):Prop:=match f with
 | .nx=>J l h
 | .ct=>J l h
 | .bk=>P .nx l h
 | .rt d=>P (.rt d) l h
theorem Xo {src:Src}{ds:List D}{body:SM}(J:Nat->DL.Loc->MH->Prop) (keep:∀ i l h,J i l h->src.ok h=true/\src.items h=ds)
  (step:∀ i d l h,ds[i]?=some d->J i l h->wG (g d l h) fun l1 h1=>wS body l1 h1 (Abf (J (i+1)) P)) (fin:∀ l h,J ds.length l h->P .nx l h) :
  ∀ (k i:Nat) (l:DL.Loc) (h:MH),i+k=ds.length->J i l h->wS (Nt src g body k i) l h P
 | 0,i,l,h,e,j=>by
  have e:i=ds.length:=by omega
  subst e;have s:src.stop h ds.length=true:=by
   unfold Src.stop;rw [(keep _ _ _ j).1,(keep _ _ _ j).2,Bool.true_and];exact decide_eq_true (Nat.le_refl _)
  exact ⟨.nx,l,h,by simp only [Nt,s,if_true],fin _ _ j⟩
 | k+1,i,l,h,e,j=>by
  have hi:i < ds.length:=by omega
  have eg:src.get h i=some ds[i]:=by
   unfold Src.get;rw [(keep _ _ _ j).2,List.getElem?_eq_getElem hi]
  obtain ⟨l1,h1,e1,f,l2,h2,e2,q⟩:=step i ds[i] l h (List.getElem?_eq_getElem hi) j;cases f with
  | nx =>
   obtain ⟨f',l',h',e',p⟩:=Xo J keep step fin k (i+1) l2 h2 (by omega) q;exact ⟨f',l',h',by simp only [Nt,eg,e1,e2];exact e',p⟩
  | ct =>
   obtain ⟨f',l',h',e',p⟩:=Xo J keep step fin k (i+1) l2 h2 (by omega) q;exact ⟨f',l',h',by simp only [Nt,eg,e1,e2];exact e',p⟩
  | bk=>exact ⟨.nx,l2,h2,by simp only [Nt,eg,e1,e2],q⟩
  | rt d=>exact ⟨.rt d,l2,h2,by simp only [Nt,eg,e1,e2],q⟩
theorem Hg {mi:DM Src}{body:SM}(h:wD mi loc mh fun src h0=>∃ ds,∃ J:Nat->DL.Loc->MH->Prop,J 0 loc h0/\(∀ i l h,J i l h->src.ok h=true/\src.items h=ds) /\
  (∀ i d l h,ds[i]?=some d->J i l h->wG (g d l h) fun l1 h1=>wS body l1 h1 (Abf (J (i+1)) P))/\∀ l h,J ds.length l h->P .nx l h):wS (Hs mi g body) loc mh P:=by
 obtain ⟨src,h0,e,ds,J,j0,keep,step,fin⟩:=h;have el:(src.items h0).length=ds.length:=by rw [(keep _ _ _ j0).2]
 obtain ⟨f,l,h',e',p⟩:=Xo J keep step fin ds.length 0 loc h0 (by omega) j0;refine ⟨f,l,h',?_,p⟩;unfold Hs;rw [e];dsimp only;rw [el];exact e'
theorem Tj {src:Src}{ds:List D}{tc:DM Bool}{e:DM D}{R:List D->MH->Prop}(J:Nat->List D->MH->Prop) (keep:∀ i acc h,J i acc h->src.ok h=true/\src.items h=ds) (hz:ds.length<=1000000) (small:∀ i acc h,J i acc h->acc.length<=i)
  (step:∀ i d acc h,ds[i]?=some d->J i acc h->wG (g d loc h) fun l1 h1=>wD tc l1 h1 fun c h2=>(c=true->wD e l1 h2 fun y h3=>J (i+1) (acc++[y]) h3)/\(c=false->J (i+1) acc h2)) (fin:∀ acc h,J ds.length acc h->R acc h) :
  ∀ (k i:Nat) (acc:List D) (h:MH),i+k=ds.length->J i acc h->∃ acc' h',Jj src g tc e loc k i acc h=some (acc',h')/\R acc' h'
 | 0,i,acc,h,q,j=>by
  have q:i=ds.length:=by omega
  subst q;have s:src.stop h ds.length=true:=by
   unfold Src.stop;rw [(keep _ _ _ j).1,(keep _ _ _ j).2,Bool.true_and];exact decide_eq_true (Nat.le_refl _)
  exact ⟨acc,h,by simp only [Jj,s,if_true],fin _ _ j⟩
 | k+1,i,acc,h,q,j=>by
  have hi:i < ds.length:=by omega
  have eg:src.get h i=some ds[i]:=by
   unfold Src.get;rw [(keep _ _ _ j).2,List.getElem?_eq_getElem hi]
  obtain ⟨l1,h1,e1,c,h2,e2,a,b⟩:=step i ds[i] acc h (List.getElem?_eq_getElem hi) j;cases c with
  | true =>
   obtain ⟨y,h3,e3,j3⟩:=a rfl;obtain ⟨acc',h',e',p⟩:=Tj J keep hz small step fin k (i+1) _ h3 (by omega) j3;have hl:acc.length < sizeLine:=lt_size (by have:=small _ _ _ j;omega);exact ⟨acc',h',by simp only [Jj,eg,e1,e2,if_true,e3,if_pos hl];exact e',p⟩
  | false =>
   obtain ⟨acc',h',e',p⟩:=Tj J keep hz small step fin k (i+1) _ h2 (by omega) (b rfl);exact ⟨acc',h',by simp only [Jj,eg,e1,e2,Bool.false_eq_true,if_false];exact e',p⟩
theorem Z0 {mi:DM Src}{cs:List (Option Nat)}{tc:DM Bool}{e:DM D}{Q:D->MH->Prop}(h:wD mi loc mh fun src h0=>∃ ds,∃ J:Nat->List D->MH->Prop,ds.length<=1000000/\J 0 [] h0/\(∀ i acc h,J i acc h->src.ok h=true/\src.items h=ds)/\(∀ i acc h,J i acc h->acc.length<=i) /\
  (∀ i d acc h,ds[i]?=some d->J i acc h->wG (g d (Qm cs loc) h) fun l1 h1=>wD tc l1 h1 fun c h2=>(c=true->wD e l1 h2 fun y h3=>J (i+1) (acc++[y]) h3)/\(c=false->J (i+1) acc h2)) /\
  ∀ acc h,J ds.length acc h->Q (.ref h.length) (h++[.lst acc])):wD (Dk mi cs g tc e) loc mh Q:=by
 obtain ⟨src,h0,e0,ds,J,hz,j0,keep,small,step,fin⟩:=h;have el:(src.items h0).length=ds.length:=by rw [(keep _ _ _ j0).2]
 obtain ⟨acc,h',e',p⟩:=Tj J keep hz small step fin ds.length 0 [] h0 (by omega) j0;refine ⟨.ref h'.length,h'++[.lst acc],?_,p⟩;unfold Dk;rw [e0];dsimp only;rw [el,e']
end
noncomputable def whK (J:Nat->DL.Loc->MH->Prop) (n:Nat) (P:Fl->DL.Loc->MH->Prop) (f:Fl) (l:DL.Loc) (h:MH):Prop:=match f with
 | .nx=>∃ m,m < n/\J m l h
 | .ct=>∃ m,m < n/\J m l h
 | .bk=>P .nx l h
 | .rt d=>P (.rt d) l h
theorem Pr {t:DM Bool}{body:SM}{P:Fl->DL.Loc->MH->Prop}{J:Nat->DL.Loc->MH->Prop}(step:∀ n l h,J n l h->wD t l h fun b h1=>(b=true->wS body l h1 (whK J n P))/\(b=false->P .nx l h1)):∀ (K n:Nat) (loc:DL.Loc) (mh:MH),n < K->J n loc mh->wS (Es t body K) loc mh P
 | 0,_,_,_,h,_=>absurd h (Nat.not_lt_zero _)
 | K+1,n,loc,mh,hn,j=>by
  obtain ⟨b,h1,et,q⟩:=step n loc mh j;cases b with
  | false=>exact ⟨.nx,loc,h1,by simp only [Es,et],q.2 rfl⟩
  | true =>
   obtain ⟨f,l,h2,eb,p⟩:=q.1 rfl;cases f with
   | nx =>
    obtain ⟨m,hm,jm⟩:=p;obtain ⟨f3,l3,h3,e3,p3⟩:=Pr step K m l h2 (by omega) jm;exact ⟨f3,l3,h3,by simp only [Es,et,eb];exact e3,p3⟩
   | ct =>
    obtain ⟨m,hm,jm⟩:=p;obtain ⟨f3,l3,h3,e3,p3⟩:=Pr step K m l h2 (by omega) jm;exact ⟨f3,l3,h3,by simp only [Es,et,eb];exact e3,p3⟩
   | bk=>exact ⟨.nx,l,h2,by simp only [Es,et,eb],p⟩
   | rt d=>exact ⟨.rt d,l,h2,by simp only [Es,et,eb],p⟩
theorem lU {t:DM Bool}{body:SM}{loc:DL.Loc}{mh:MH}{P:Fl->DL.Loc->MH->Prop}(J:Nat->DL.Loc->MH->Prop) (n:Nat) (hn:n < 1000000) (j0:J n loc mh) (step:∀ n l h,J n l h->wD t l h fun b h1=>(b=true->wS body l h1 (whK J n P))/\(b=false->P .nx l h1)):wS (Ss t body) loc mh P :=
 Pr step _ n loc mh hn j0
noncomputable def Tn (P:D->MH->Prop) (f:Fl) (_:DL.Loc) (h:MH):Prop:=match f with
 | .rt d=>P d h
 | .nx=>P .non h
 | _=>False
theorem Al {G:Gb}{n:Nat}{I:FnI}{b:SM}{ds:List D}{mh:MH}{np m:Nat}{P:D->MH->Prop}(hb:iSs G n { N:=I.N,scope:=I.scope,own:=fun _=>true } I.body=b) (hp:I.ps.length=np) (hN:I.N.length=m) (hl:ds.length=np)
  (h:wS b (ds.map some++List.replicate (m - np) none) mh (Tn P)):wV (Ac G n I ds mh) P:=by
 obtain ⟨f,l,h',e,p⟩:=h;cases f with
 | rt d=>exact ⟨d,h',by unfold Ac;rw [if_pos (by rw [hp];exact hl),hb,hN,hl,e],p⟩
 | nx=>exact ⟨.non,h',by unfold Ac;rw [if_pos (by rw [hp];exact hl),hb,hN,hl,e],p⟩
 | bk=>exact p.elim
 | ct=>exact p.elim
section
variable {mh:MH}{P:D->MH->Prop}
theorem Aq {r:Option (D×MH)}{d:D}{h:MH}(e:r=some (d,h)) (p:P d h):wV r P:=⟨d,h,e,p⟩
theorem Gh {C:Int->Int->Bool}{g:Int->Int->Int}{i j:Int}(hC:C i j=true) (h:P (.int (g i j)) mh):wV (iop C g (.int i) (.int j) mh) P:=⟨_,_,by rw [Abd,if_pos hC],h⟩
theorem lV {i j:Int}(h:P (.int (i - j)) mh):wV (cH (.int i) (.int j) mh) P:=Gh rfl h
theorem Gi {i j:Int}(hj:j≠0) (h:P (.int (i.fmod j)) mh):wV (Cg (.int i) (.int j) mh) P:=Gh (decide_eq_true hj) h
theorem Iw {i j:Int}(hj:j≠0) (hb:j.natAbs < 10889035741470030830827987437816582766592) (h:P (.int (i.fdiv j)) mh):wV (Du (.int i) (.int j) mh) P:=Gh (by rw [decide_eq_true hj,decide_eq_true hb];rfl) h
theorem Pu {i j:Int}(hb:(-(2 ^ 64) < i/\i < 2 ^ 64)\/(-(2 ^ 64) < j/\j < 2 ^ 64)) (h:P (.int (i * j)) mh):wV (G6 (.int i) (.int j) mh) P:=show wV (iop U7 (fun i j=>i * j) (.int i) (.int j) mh) P from Gh (by unfold U7;rw [Bool.or_eq_true,decide_eq_true_iff,decide_eq_true_iff];exact hb) h
theorem Cm {g:Int->Int->Bool}{i j:Int}(h:P (.bl (g i j)) mh):wV (Ql g (.int i) (.int j) mh) P:=⟨_,_,rfl,h⟩
theorem Abg {i j:Int}(h:P (.int (i+j)) mh):wV (Cd (.int i) (.int j) mh) P:=⟨_,_,rfl,h⟩
theorem Bp {i j:Int}(h:P (.bl (i==j)) mh):wV (eqD (.int i) (.int j) mh) P:=⟨_,_,rfl,h⟩
theorem lW {i j:Int}(h:P (.bl (!(i==j))) mh):wV (neD (.int i) (.int j) mh) P:=⟨_,_,rfl,h⟩
theorem Ig {x y:D}{k:Bool}(e:eqB mh x y=some k) (h:P (.bl k) mh):wV (eqD x y mh) P:=⟨_,_,by unfold eqD;rw [e],h⟩
theorem wQ {x y:D}{k:Bool}(e:eqB mh x y=some k) (h:P (.bl (!k)) mh):wV (neD x y mh) P:=⟨_,_,by unfold neD;rw [e],h⟩
theorem uX {x y:D}{k:Bool}(e:inB mh x y=some k):M4 y mh=none:=by
 cases q:M4 y mh with
 | none=>rfl
 | some kvs =>
  obtain ⟨n,rfl,en⟩:=W3 q;have p:py mh 60 (.ref n)=none:=by
   show (match mh[n]? with | some (.lst o)=>(match Df (py mh 59) o with | some xs=>some (PyData.list xs) | none=>none) | _=>none)=_;rw [en]
  unfold inB at e;rw [p] at e;split at e
  ·rename_i z;cases z
  ·rename_i z;cases z
  ·cases e
theorem Vm {neg:Bool}{x y:D}{k:Bool}(e:inB mh x y=some k) (h:P (.bl (if neg then !k else k)) mh):wV (inD neg x y mh) P:=⟨_,_,by unfold inD;rw [uX e];dsimp only;unfold Um;rw [e],h⟩
theorem Ja {n m:Nat}{xs ys:List D}(e1:mh[n]?=some (.lst xs)) (e2:mh[m]?=some (.lst ys)) (hz:xs.length+ys.length<=1000000) (h:P (.ref mh.length) (mh++[.lst (xs++ys)])):wV (Cd (.ref n) (.ref m) mh) P:=⟨_,_,lJ e1 e2 hz,h⟩
theorem K3 {xs ys:List D}(hz:xs.length+ys.length<=1000000) (h:P (.tup (xs++ys)) mh):wV (Cd (.tup xs) (.tup ys) mh) P:=⟨_,_,by simp only [Cd,if_pos (le_size hz)],h⟩
theorem Cr {ds:List D}{j:Nat}{d:D}(e:ds[j]?=some d) (h:P d mh):wV (ixD (.tup ds) (.int j) mh) P:=⟨d,mh,by simp only [ixD,M4,aY,Dq,Ry e],h⟩
theorem Abh {ds:List D}{j:Nat}{d:D}(e:ds[j]?=some d) (h:P d mh):wV (ixD (.rol ds) (.int j) mh) P:=⟨d,mh,by simp only [ixD,M4,aY,Dq,Ry e],h⟩
theorem Cu {n:Nat}{ds:List D}{j:Nat}{d:D}(e1:mh[n]?=some (.lst ds)) (e:ds[j]?=some d) (h:P d mh):wV (ixD (.ref n) (.int j) mh) P:=⟨d,mh,by simp only [ixD,Ip e1,aY,Dq,e1,Ry e],h⟩
theorem Cy {n:Nat}{ds:List D}{y:D}(e:mh[n]?=some (.lst ds)) (hz:ds.length<=1000000) (h:P .non (mh.set n (.lst (ds++[y])))):wV (Ck (.ref n) [y] mh) P:=⟨_,_,Xl e hz,h⟩
theorem Bs {x:D}{ds:List D}(hx:∀ z,x≠.str z) (e:Dq x mh=some ds) (h:P (.int ds.length) mh):wV (Dr [x] mh) P:=by
 refine ⟨_,_,?_,h⟩;cases x with
 | str z=>exact (hx z rfl).elim
 | _=>simp only [Dr,e]
theorem cM {x:D}{ds:List D}(e:Dq x mh=some ds) (h:P (.ref mh.length) (mh++[.lst ds])):wV (Uo [x] mh) P:=⟨_,_,by simp only [Uo,e],h⟩
theorem Ih {x:D}{ds:List D}(e:Dq x mh=some ds) (h:P (.tup ds) mh):wV (Gz [x] mh) P:=⟨_,_,by simp only [Gz,e],h⟩
theorem lX {f:List Bool->Bool}{x:D}{bs:List Bool}(e:Dq x mh=some (bs.map D.bl)) (h:P (.bl (f bs)) mh):wV (Ks f [x] mh) P:=⟨_,_,by simp only [Ks,e,Mx],h⟩
end
structure Ext (W:List Nat) (a b:MH):Prop where
 len:a.length<=b.length
 old:∀ i o,i ∉ W->a[i]?=some o->b[i]?=some o
theorem Ext.refl {W:List Nat}{a:MH}:Ext W a a:=⟨Nat.le_refl _,fun _ _ _ e=>e⟩
theorem Ext.trans {W:List Nat}{a b c:MH}(x:Ext W a b) (y:Ext W b c):Ext W a c:=⟨Nat.le_trans x.len y.len,fun i o h e=>y.old i o h (x.old i o h e)⟩
theorem Ext.weak {W:List Nat}{a b:MH}(x:Ext [] a b):Ext W a b:=⟨x.len,fun i o _ e=>x.old i o (by simp) e⟩
theorem Ext.more {W:List Nat}{a g:MH}:Ext W a (a++g):=⟨by rw [List.length_append];omega,fun i o _ e=>by rw [List.getElem?_append_left (List.getElem?_eq_some_iff.mp e).1];exact e⟩
theorem Ext.set {n:Nat}{a:MH}{o:MO}:Ext [n] a (a.set n o):=⟨by rw [List.length_set];exact Nat.le_refl _,fun i o' h e=>by rw [List.getElem?_set_ne (fun z=>h (by simp [z]))];exact e⟩
theorem Ext.setNew {W:List Nat}{n:Nat}{a b:MH}{o:MO}(x:Ext W a b) (h:a.length<=n):Ext W a (b.set n o):=⟨by rw [List.length_set];exact x.len,fun i o' hi e=>by
 have:i < a.length:=(List.getElem?_eq_some_iff.mp e).1
 rw [List.getElem?_set_ne (by omega)];exact x.old i o' hi e⟩
theorem Av {a:MH}{o:MO}:(a++[o])[a.length]?=some o:=by rw [List.getElem?_append_right (Nat.le_refl _),Nat.sub_self];rfl
theorem Eu {a:MH}{n:Nat}{o o':MO}(h:a[n]?=some o'):(a.set n o)[n]?=some o:=by
 rw [List.getElem?_set];simp [(List.getElem?_eq_some_iff.mp h).1]
noncomputable def mkM (c f:Str) (ma:DM D):DM D:=ma.bnd fun d=>Zr (.obj c [f] [d])
theorem Vn {a b:Str}{k:Bool}(ha:PyData.strOk a=true) (hb:PyData.strOk b=true) (e:(a==b)=k) (mh:MH):eqB mh (.str a) (.str b)=some k:=by
 unfold eqB;simp only [py,if_pos ha,if_pos hb,PyData.eqv,e]
section
variable {loc:DL.Loc}{mh:MH}{ma:DM D}{mr:DM (List D)}{P:D->MH->Prop}
theorem Ae7 {c f:Str}(h:wD ma loc mh fun d h1=>P (.obj c [f] [d]) h1):wD (mkM c f ma) loc mh P:=Bw (Bk h fun _ _ q=>Ad q)
theorem lY {met:Str->Str->Option (List Str×Fn)}{m:Str}(h:wD ma loc mh fun x h1=>∃ c ks ds ps g,x=.obj c ks ds/\met c m=some (ps,g)/\ks.contains m=false/\wD mr loc h1 fun as h2=>wV (g (.obj c ks ds::as) h2) P):wD (Gg met m ma mr) loc mh P:=Bw (Bk h fun _ h1 ⟨c,ks,ds,ps,g,e,em,hk,q⟩=>by
 subst e;show wD (match met c m with | some (_,g)=>if ks.contains m then Zb else mr.bnd fun as=>Zl (g (.obj c ks ds::as)) | none=>Zb) _ _ _;rw [em];dsimp only;rw [if_neg (by rw [hk];simp)]
 exact Bw (Bk q fun _ _ z=>z))
theorem Xp {i j:Int}(h1:0<=j) (h2:j<=1000000) (h3:i.natAbs < 2 ^ 64) (h:P (.int (i ^ j.toNat)) mh):wV (uE (.int i) (.int j) mh) P:=Gh (by rw [decide_eq_true h1,decide_eq_true h2,decide_eq_true h3];rfl) h
theorem Abi {a b:Str}(ha:PyData.strOk a=true) (hb:PyData.strOk b=true) (e:(a==b)=true) (h:P (.bl true) mh):wV (eqD (.str a) (.str b) mh) P:=Ig (Vn ha hb e mh) h
theorem Abj {a b:Str}(ha:PyData.strOk a=true) (hb:PyData.strOk b=true) (e:(a==b)=false) (h:P (.bl false) mh):wV (eqD (.str a) (.str b) mh) P:=Ig (Vn ha hb e mh) h
end
section
variable {loc:DL.Loc}{mh:MH}{ma:DM D}{mr:DM (List D)}{P:D->MH->Prop}
end
theorem Ae8 {k:Bool}{B:Bool->Prop}(h:B k):∃ j,D.bl k=.bl j/\B j:=⟨k,rfl,h⟩
theorem Abk {i:Int}{B:Int->Prop}(h:B i):∃ j,D.int i=.int j/\B j:=⟨i,rfl,h⟩
theorem lZ {p q:Prop}(h:p):((true=true)->p)/\((true=false)->q):=⟨fun _=>h,fun z=>by cases z⟩
theorem Dv {p q:Prop}(h:q):((false=true)->p)/\((false=false)->q):=⟨fun z=>(by cases z),fun _=>h⟩
theorem Oa {k:Bool}{p q:Prop}(e:k=true) (h:p):(k=true->p)/\(k=false->q):=⟨fun _=>h,fun z=>by rw [e] at z;cases z⟩
theorem Tp {k:Bool}{p q:Prop}(e:k=false) (h:q):(k=true->p)/\(k=false->q):=⟨fun z=>(by rw [e] at z;cases z),fun _=>h⟩
theorem Dj {k:Bool}{p q:Prop}(h1:k=true->p) (h2:k=false->q):(k=true->p)/\(k=false->q):=⟨h1,h2⟩
theorem Abl {k:Bool}{h:MH}{B:Bool->Prop}(q:B k):∃ j,fO (.bl k) h=some j/\B j:=⟨k,rfl,q⟩
theorem Abm {T t:String}{x:D}{b:Bool}{mh:MH}{P:D->MH->Prop}(e1:fX x mh=some t) (e2:Aad t T=some b) (h:P (.bl b) mh):wV (Uv T x mh) P:=⟨_,_,by unfold Uv;rw [e1];dsimp only;rw [e2],h⟩
mutual
noncomputable def dat:Nat->D->Bool
 | _,.int _=>true
 | _,.bl _=>true
 | _,.non=>true
 | _,.str x=>PyData.strOk x
 | n+1,.tup ds=>K4 n ds
 | _,_=>false
noncomputable def K4:Nat->List D->Bool
 | _,[]=>true
 | n,d::r=>dat n d&&K4 n r
end
mutual
theorem Tq (mh:MH):∀ (n:Nat) (d:D),dat n d=true->∃ a,py mh n d=some a/\a.canLay0=true
 | n,.int i,_=>⟨.int i,by cases n <;> rfl,rfl⟩
 | n,.bl i,_=>⟨.bool i,by cases n <;> rfl,rfl⟩
 | n,.non,_=>⟨.none,by cases n <;> rfl,rfl⟩
 | n,.str x,h=>by
  have h2:PyData.strOk x=true:=by cases n <;> exact h
  exact ⟨.str x,by cases n <;> (show (if PyData.strOk x=true then some (PyData.str x) else none)=_;rw [if_pos h2]),h2⟩
 | 0,.tup ds,h=>by simp [dat] at h
 | n+1,.tup ds,h=>by
  have h:K4 n ds=true:=h;obtain ⟨as,e,l⟩:=K5 mh n ds h;exact ⟨.tuple as,by simp only [py,e],by simpa [PyData.canLay0] using l⟩
 | 0,.ref _,h=>by simp [dat] at h
 | _+1,.ref _,h=>by simp [dat] at h
 | 0,.rol _,h=>by simp [dat] at h
 | _+1,.rol _,h=>by simp [dat] at h
 | 0,.obj ..,h=>by simp [dat] at h
 | _+1,.obj ..,h=>by simp [dat] at h
 | 0,.fn _,h=>by simp [dat] at h
 | _+1,.fn _,h=>by simp [dat] at h
theorem K5 (mh:MH):∀ (n:Nat) (ds:List D),K4 n ds=true->∃ as,Df (py mh n) ds=some as/\PyData.canLayAll0 as=true
 | n,[],_=>⟨[],rfl,rfl⟩
 | n,d::r,h=>by
  have h:(dat n d&&K4 n r)=true:=by simpa [K4] using h
  rw [Bool.and_eq_true] at h;obtain ⟨a,e1,l1⟩:=Tq mh n d h.1;obtain ⟨as,e2,l2⟩:=K5 mh n r h.2;exact ⟨a::as,by simp only [Df,e1,e2],by simp only [PyData.canLayAll0,l1,l2,Bool.and_self]⟩
end
theorem Hh {a b:Str}{k:Bool}(ha:PyData.strOk a=true) (hb:PyData.strOk b=true) (e:(a==b)=k) (mh:MH):eqB mh (.str a) (.str b)=some k:=by
 unfold eqB;simp only [py,if_pos ha,if_pos hb,PyData.eqv,e]
theorem ty_list {a:Nat}{ds:List D}{mh:MH}(e:mh[a]?=some (.lst ds)):bF "list" (.ref a) mh=true:=by
 show (true&&(match mh[a]? with | some (.lst _)=>true | _=>false))=true;rw [e];rfl
theorem src_list {a:Nat}{ds:List D}{mh:MH}(e:mh[a]?=some (.lst ds)):srcOf (.ref a) mh=some (.lref a):=by
 show (match mh[a]? with | some (.lst _)=>some (Src.lref a) | _=>none)=_;rw [e]
theorem Fd {a:Nat}{ds:List D}{mh:MH}(e:mh[a]?=some (.lst ds)):(Src.lref a).ok mh=true/\(Src.lref a).items mh=ds:=by
 refine ⟨?_,?_⟩
 ·show (match mh[a]? with | some (.lst _)=>true | _=>false)=true;rw [e]
 ·show (match mh[a]? with | some (.lst o)=>o | _=>[])=_;rw [e]
end DL
namespace Lw
open PySem L2 DL
noncomputable def top (i:Nat):Stmt:=PySem.Challenge.pw_letterall_k99_whole_neighbours_exchanged.main.body.getD i (.Pass ⟨0,0,0,0⟩)
noncomputable def Nh (s:Stmt) (j:Nat):Stmt:=match s with
 | .ClassDef _ _ _ b _ _ _ _ _ _ _=>b.getD j (.Pass ⟨0,0,0,0⟩)
 | _=>.Pass ⟨0,0,0,0⟩
noncomputable def f2:FnI:=Bh (top 2)
noncomputable def f3:FnI:=Bh (top 3)
noncomputable def f4:FnI:=Bh (top 4)
noncomputable def f5:FnI:=Bh (top 5)
noncomputable def f14:FnI:=Bh (top 14)
noncomputable def f15:FnI:=Bh (top 15)
noncomputable def f16:FnI:=Bh (top 16)
noncomputable def f17:FnI:=Bh (top 17)
noncomputable def f18:FnI:=Bh (top 18)
noncomputable def f19:FnI:=Bh (top 19)
noncomputable def f20:FnI:=Bh (top 20)
noncomputable def f21:FnI:=Bh (top 21)
noncomputable def f22:FnI:=Bh (top 22)
noncomputable def f27:FnI:=Bh (top 27)
noncomputable def f35:FnI:=Bh (top 35)
noncomputable def f36:FnI:=Bh (top 36)
noncomputable def f37:FnI:=Bh (top 37)
noncomputable def f42:FnI:=Bh (top 42)
noncomputable def f43:FnI:=Bh (top 43)
noncomputable def f44:FnI:=Bh (top 44)
noncomputable def f45:FnI:=Bh (top 45)
noncomputable def f46:FnI:=Bh (top 46)
noncomputable def f47:FnI:=Bh (top 47)
noncomputable def f50:FnI:=Bh (top 50)
noncomputable def f51:FnI:=Bh (top 51)
noncomputable def f52:FnI:=Bh (top 52)
noncomputable def f53:FnI:=Bh (top 53)
noncomputable def f54:FnI:=Bh (top 54)
noncomputable def f55:FnI:=Bh (top 55)
noncomputable def f56:FnI:=Bh (top 56)
noncomputable def f61:FnI:=Bh (top 61)
noncomputable def f62:FnI:=Bh (top 62)
noncomputable def f63:FnI:=Bh (top 63)
noncomputable def f64:FnI:=Bh (top 64)
noncomputable def f65:FnI:=Bh (top 65)
noncomputable def f66:FnI:=Bh (top 66)
noncomputable def f67:FnI:=Bh (top 67)
noncomputable def f68:FnI:=Bh (top 68)
noncomputable def f69:FnI:=Bh (top 69)
noncomputable def f71:FnI:=Bh (top 71)
noncomputable def f72:FnI:=Bh (top 72)
noncomputable def f73:FnI:=Bh (top 73)
noncomputable def f74:FnI:=Bh (top 74)
noncomputable def f75:FnI:=Bh (top 75)
noncomputable def f76:FnI:=Bh (top 76)
noncomputable def f77:FnI:=Bh (top 77)
noncomputable def f78:FnI:=Bh (top 78)
noncomputable def f79:FnI:=Bh (top 79)
noncomputable def f80:FnI:=Bh (top 80)
noncomputable def f82:FnI:=Bh (top 82)
noncomputable def f84:FnI:=Bh (top 84)
noncomputable def f85:FnI:=Bh (top 85)
noncomputable def f87:FnI:=Bh (top 87)
noncomputable def f88:FnI:=Bh (top 88)
noncomputable def f89:FnI:=Bh (top 89)
noncomputable def f90:FnI:=Bh (top 90)
noncomputable def f91:FnI:=Bh (top 91)
noncomputable def f92:FnI:=Bh (top 92)
noncomputable def f93:FnI:=Bh (top 93)
noncomputable def f94:FnI:=Bh (top 94)
noncomputable def f95:FnI:=Bh (top 95)
noncomputable def f96:FnI:=Bh (top 96)
noncomputable abbrev Jm:Stmt:=Nh (top 29) 1
noncomputable def Z1:FnI:=Bh Jm
noncomputable def Z2:List (Str×Stmt):=("has",top 2)::("members",top 3)::("set_of",top 4)::("many",top 5)::("blank",top 14)::("has_fallen",top 15)::("replaced",top 16)::("with_number",top 17)::("with_name",top 18)::("with_set",top 19)::("with_bell",top 20)::("at_place",top 21)::("moved_on",top 22)::("is_whole",top 27)::("hands_of",top 35)::("length_of",top 36)::("step_at",top 37)::("first",top 42)::("all_hands",top 43)::("part",top 44)::("row",top 45)::("with_part",top 46)::("with_row",top 47)::("step_now",top 50)::("others_of",top 51)::("choices_of",top 52)::("out_choices",top 53)::("may_send",top 54)::("take_choices",top 55)::("senders",top 56)::("after_step",top 61)::("after_quiet",top 62)::("reckoned",top 63)::("named",top 64)::("gathered",top 65)::("goes_there",top 66)::("after_out",top 67)::("after_send",top 68)::("after_take",top 69)::("moves",top 71)::("losses",top 72)::("falls",top 73)::("mover",top 74)::("after_move",top 75)::("may_be_made",top 76)::("is_move",top 77)::("is_choice",top 78)::("after_loss",top 79)::("after_fall",top 80)::("square",top 82)::("run",top 84)::("walk",top 85)::("_law_cell_at",top 87)::("_law_drawn",top 88)::("_law_lines",top 89)::("_law_number_step",top 90)::("_law_name_step",top 91)::("_law_step",top 92)::("_law_part",top 93)::("_law_program",top 94)::("_law_may",top 95)::("law",top 96)::[]
noncomputable def tb (x:Str):Option FnI:=(Z2.lookup x).map Bh
theorem Vo:Zo Z2:=⟨Bc ⟨rfl,rfl,rfl,by decide +kernel,by decide +kernel,by decide +kernel,by decide +kernel⟩ fun _ _ _ _ _ _=>ln2 fun _ _=>rfl,Bc ⟨rfl,rfl,rfl,by decide +kernel,by decide +kernel,by decide +kernel,by decide +kernel⟩ fun _ _ _ _ _ _=>ln1 fun _=>rfl,Bc ⟨rfl,rfl,rfl,by decide +kernel,by decide +kernel,by decide +kernel,by decide +kernel⟩ fun _ _ _ _ _ _=>ln1 fun _=>rfl,Bc ⟨rfl,rfl,rfl,by decide +kernel,by decide +kernel,by decide +kernel,by decide +kernel⟩ fun _ _ _ _ _ _=>ln1 fun _=>rfl,Bc ⟨rfl,rfl,rfl,by decide +kernel,by decide +kernel,by decide +kernel,by decide +kernel⟩ fun _ _ _ _ _ _=>ln1 fun _=>rfl,Bc ⟨rfl,rfl,rfl,by decide +kernel,by decide +kernel,by decide +kernel,by decide +kernel⟩ fun _ _ _ _ _ _=>ln1 fun _=>rfl,Bc ⟨rfl,rfl,rfl,by decide +kernel,by decide +kernel,by decide +kernel,by decide +kernel⟩ fun _ _ _ _ _ _=>ln3 fun _ _ _=>rfl,Bc ⟨rfl,rfl,rfl,by decide +kernel,by decide +kernel,by decide +kernel,by decide +kernel⟩ fun _ _ _ _ _ _=>ln3 fun _ _ _=>rfl,Bc ⟨rfl,rfl,rfl,by decide +kernel,by decide +kernel,by decide +kernel,by decide +kernel⟩ fun _ _ _ _ _ _=>ln3 fun _ _ _=>rfl,Bc ⟨rfl,rfl,rfl,by decide +kernel,by decide +kernel,by decide +kernel,by decide +kernel⟩ fun _ _ _ _ _ _=>ln3 fun _ _ _=>rfl,Bc ⟨rfl,rfl,rfl,by decide +kernel,by decide +kernel,by decide +kernel,by decide +kernel⟩ fun _ _ _ _ _ _=>ln2 fun _ _=>rfl,Bc ⟨rfl,rfl,rfl,by decide +kernel,by decide +kernel,by decide +kernel,by decide +kernel⟩ fun _ _ _ _ _ _=>ln2 fun _ _=>rfl,Bc ⟨rfl,rfl,rfl,by decide +kernel,by decide +kernel,by decide +kernel,by decide +kernel⟩ fun _ _ _ _ _ _=>ln1 fun _=>rfl,Bc ⟨rfl,rfl,rfl,by decide +kernel,by decide +kernel,by decide +kernel,by decide +kernel⟩ fun _ _ _ _ _ _=>ln1 fun _=>rfl,Bc ⟨rfl,rfl,rfl,by decide +kernel,by decide +kernel,by decide +kernel,by decide +kernel⟩ fun _ _ _ _ _ _=>ln2 fun _ _=>rfl,Bc ⟨rfl,rfl,rfl,by decide +kernel,by decide +kernel,by decide +kernel,by decide +kernel⟩ fun _ _ _ _ _ _=>ln2 fun _ _=>rfl,Bc ⟨rfl,rfl,rfl,by decide +kernel,by decide +kernel,by decide +kernel,by decide +kernel⟩ fun _ _ _ _ _ _=>ln3 fun _ _ _=>rfl,Bc ⟨rfl,rfl,rfl,by decide +kernel,by decide +kernel,by decide +kernel,by decide +kernel⟩ fun _ _ _ _ _ _=>ln1 fun _=>rfl,Bc ⟨rfl,rfl,rfl,by decide +kernel,by decide +kernel,by decide +kernel,by decide +kernel⟩ fun _ _ _ _ _ _=>ln1 fun _=>rfl,Bc ⟨rfl,rfl,rfl,by decide +kernel,by decide +kernel,by decide +kernel,by decide +kernel⟩ fun _ _ _ _ _ _=>ln2 fun _ _=>rfl,Bc ⟨rfl,rfl,rfl,by decide +kernel,by decide +kernel,by decide +kernel,by decide +kernel⟩ fun _ _ _ _ _ _=>ln3 fun _ _ _=>rfl,Bc ⟨rfl,rfl,rfl,by decide +kernel,by decide +kernel,by decide +kernel,by decide +kernel⟩ fun _ _ _ _ _ _=>ln3 fun _ _ _=>rfl,Bc ⟨rfl,rfl,rfl,by decide +kernel,by decide +kernel,by decide +kernel,by decide +kernel⟩ fun _ _ _ _ _ _=>ln4 fun _ _ _ _=>rfl,Bc ⟨rfl,rfl,rfl,by decide +kernel,by decide +kernel,by decide +kernel,by decide +kernel⟩ fun _ _ _ _ _ _=>ln3 fun _ _ _=>rfl,Bc ⟨rfl,rfl,rfl,by decide +kernel,by decide +kernel,by decide +kernel,by decide +kernel⟩ fun _ _ _ _ _ _=>ln3 fun _ _ _=>rfl,Bc ⟨rfl,rfl,rfl,by decide +kernel,by decide +kernel,by decide +kernel,by decide +kernel⟩ fun _ _ _ _ _ _=>ln3 fun _ _ _=>rfl,Bc ⟨rfl,rfl,rfl,by decide +kernel,by decide +kernel,by decide +kernel,by decide +kernel⟩ fun _ _ _ _ _ _=>ln1 fun _=>rfl,Bc ⟨rfl,rfl,rfl,by decide +kernel,by decide +kernel,by decide +kernel,by decide +kernel⟩ fun _ _ _ _ _ _=>ln4 fun _ _ _ _=>rfl,Bc ⟨rfl,rfl,rfl,by decide +kernel,by decide +kernel,by decide +kernel,by decide +kernel⟩ fun _ _ _ _ _ _=>ln3 fun _ _ _=>rfl,Bc ⟨rfl,rfl,rfl,by decide +kernel,by decide +kernel,by decide +kernel,by decide +kernel⟩ fun _ _ _ _ _ _=>ln3 fun _ _ _=>rfl,Bc ⟨rfl,rfl,rfl,by decide +kernel,by decide +kernel,by decide +kernel,by decide +kernel⟩ fun _ _ _ _ _ _=>ln5 fun _ _ _ _ _=>rfl,Bc ⟨rfl,rfl,rfl,by decide +kernel,by decide +kernel,by decide +kernel,by decide +kernel⟩ fun _ _ _ _ _ _=>ln5 fun _ _ _ _ _=>rfl,Bc ⟨rfl,rfl,rfl,by decide +kernel,by decide +kernel,by decide +kernel,by decide +kernel⟩ fun _ _ _ _ _ _=>ln3 fun _ _ _=>rfl,Bc ⟨rfl,rfl,rfl,by decide +kernel,by decide +kernel,by decide +kernel,by decide +kernel⟩ fun _ _ _ _ _ _=>ln4 fun _ _ _ _=>rfl,Bc ⟨rfl,rfl,rfl,by decide +kernel,by decide +kernel,by decide +kernel,by decide +kernel⟩ fun _ _ _ _ _ _=>ln4 fun _ _ _ _=>rfl,Bc ⟨rfl,rfl,rfl,by decide +kernel,by decide +kernel,by decide +kernel,by decide +kernel⟩ fun _ _ _ _ _ _=>ln2 fun _ _=>rfl,Bc ⟨rfl,rfl,rfl,by decide +kernel,by decide +kernel,by decide +kernel,by decide +kernel⟩ fun _ _ _ _ _ _=>ln3 fun _ _ _=>rfl,Bc ⟨rfl,rfl,rfl,by decide +kernel,by decide +kernel,by decide +kernel,by decide +kernel⟩ fun _ _ _ _ _ _=>ln3 fun _ _ _=>rfl,Bc ⟨rfl,rfl,rfl,by decide +kernel,by decide +kernel,by decide +kernel,by decide +kernel⟩ fun _ _ _ _ _ _=>ln4 fun _ _ _ _=>rfl,Bc ⟨rfl,rfl,rfl,by decide +kernel,by decide +kernel,by decide +kernel,by decide +kernel⟩ fun _ _ _ _ _ _=>ln2 fun _ _=>rfl,Bc ⟨rfl,rfl,rfl,by decide +kernel,by decide +kernel,by decide +kernel,by decide +kernel⟩ fun _ _ _ _ _ _=>ln1 fun _=>rfl,Bc ⟨rfl,rfl,rfl,by decide +kernel,by decide +kernel,by decide +kernel,by decide +kernel⟩ fun _ _ _ _ _ _=>ln1 fun _=>rfl,Bc ⟨rfl,rfl,rfl,by decide +kernel,by decide +kernel,by decide +kernel,by decide +kernel⟩ fun _ _ _ _ _ _=>ln1 fun _=>rfl,Bc ⟨rfl,rfl,rfl,by decide +kernel,by decide +kernel,by decide +kernel,by decide +kernel⟩ fun _ _ _ _ _ _=>ln3 fun _ _ _=>rfl,Bc ⟨rfl,rfl,rfl,by decide +kernel,by decide +kernel,by decide +kernel,by decide +kernel⟩ fun _ _ _ _ _ _=>ln3 fun _ _ _=>rfl,Bc ⟨rfl,rfl,rfl,by decide +kernel,by decide +kernel,by decide +kernel,by decide +kernel⟩ fun _ _ _ _ _ _=>ln1 fun _=>rfl,Bc ⟨rfl,rfl,rfl,by decide +kernel,by decide +kernel,by decide +kernel,by decide +kernel⟩ fun _ _ _ _ _ _=>ln1 fun _=>rfl,Bc ⟨rfl,rfl,rfl,by decide +kernel,by decide +kernel,by decide +kernel,by decide +kernel⟩ fun _ _ _ _ _ _=>ln3 fun _ _ _=>rfl,Bc ⟨rfl,rfl,rfl,by decide +kernel,by decide +kernel,by decide +kernel,by decide +kernel⟩ fun _ _ _ _ _ _=>ln2 fun _ _=>rfl,Bc ⟨rfl,rfl,rfl,by decide +kernel,by decide +kernel,by decide +kernel,by decide +kernel⟩ fun _ _ _ _ _ _=>ln4 fun _ _ _ _=>rfl,Bc ⟨rfl,rfl,rfl,by decide +kernel,by decide +kernel,by decide +kernel,by decide +kernel⟩ fun _ _ _ _ _ _=>ln3 fun _ _ _=>rfl,Bc ⟨rfl,rfl,rfl,by decide +kernel,by decide +kernel,by decide +kernel,by decide +kernel⟩ fun _ _ _ _ _ _=>ln2 fun _ _=>rfl,Bc ⟨rfl,rfl,rfl,by decide +kernel,by decide +kernel,by decide +kernel,by decide +kernel⟩ fun _ _ _ _ _ _=>ln2 fun _ _=>rfl,Bc ⟨rfl,rfl,rfl,by decide +kernel,by decide +kernel,by decide +kernel,by decide +kernel⟩ fun _ _ _ _ _ _=>ln2 fun _ _=>rfl,Bc ⟨rfl,rfl,rfl,by decide +kernel,by decide +kernel,by decide +kernel,by decide +kernel⟩ fun _ _ _ _ _ _=>ln2 fun _ _=>rfl,Bc ⟨rfl,rfl,rfl,by decide +kernel,by decide +kernel,by decide +kernel,by decide +kernel⟩ fun _ _ _ _ _ _=>ln5 fun _ _ _ _ _=>rfl,Bc ⟨rfl,rfl,rfl,by decide +kernel,by decide +kernel,by decide +kernel,by decide +kernel⟩ fun _ _ _ _ _ _=>ln6 fun _ _ _ _ _ _=>rfl,Bc ⟨rfl,rfl,rfl,by decide +kernel,by decide +kernel,by decide +kernel,by decide +kernel⟩ fun _ _ _ _ _ _=>ln4 fun _ _ _ _=>rfl,Bc ⟨rfl,rfl,rfl,by decide +kernel,by decide +kernel,by decide +kernel,by decide +kernel⟩ fun _ _ _ _ _ _=>ln3 fun _ _ _=>rfl,Bc ⟨rfl,rfl,rfl,by decide +kernel,by decide +kernel,by decide +kernel,by decide +kernel⟩ fun _ _ _ _ _ _=>ln1 fun _=>rfl,Bc ⟨rfl,rfl,rfl,by decide +kernel,by decide +kernel,by decide +kernel,by decide +kernel⟩ fun _ _ _ _ _ _=>ln4 fun _ _ _ _=>rfl,Bc ⟨rfl,rfl,rfl,by decide +kernel,by decide +kernel,by decide +kernel,by decide +kernel⟩ fun _ _ _ _ _ _=>ln1 fun _=>rfl,trivial⟩
noncomputable def mC:List (Str×D):=[("BELL_CHOICE",(.tup [(.int (-1)),(.int (0))])),("NUMBER_WORDS",(.tup [(.str "put"),(.str "copy"),(.str "raise"),(.str "sum"),(.str "choose")])),("NAME_WORDS",(.tup [(.str "me"),(.str "only"),(.str "pick")])),("SET_WORDS",(.tup [(.str "all"),(.str "empty"),(.str "join")])),("PLACE",(.int (0))),("NUMBERS",(.int (1))),("NAMES",(.int (2))),("SETS",(.int (3))),("BELL",(.int (4))),("NOBODY",(.int (-1))),("FALLEN",(.int (-1))),("ROOM",(.int (0))),("LEFT",(.int (1))),("ROLES",(.int (2))),("HANDS",(.int (3))),("PARTS",(.int (0))),("ROWS",(.int (1))),("LEFT_STILL",(.int (2)))]
noncomputable def con (x:Str):Option D:=mC.lookup x
noncomputable def dic (_:Str):Option (List (Str×D)):=none
noncomputable def fld (c f:Str):Bool:=(c == "Step"&&f == "form")
noncomputable def tbm (c m:Str):Option FnI:=if c == "Step"&&m == "told" then some Z1 else none
noncomputable def mkr (c:Str):Option Str:=if c == "Step" then some "form" else none
noncomputable def mk0:MakI:={ pre:=f96.body.take 3,i:=(f96.N.idxOf ("_law_pick":Str)),pl:=0,js:=(wO (f96.body.getD 3 (.Pass ⟨0,0,0,0⟩))).fr.map (fun x=>f96.N.idxOf x),ci:=wO (f96.body.getD 3 (.Pass ⟨0,0,0,0⟩)),post:=f96.body.drop 4 }
noncomputable def Tt:Tb:={ tb:=tb,con:=con,dic:=dic,fld:=fld,tbm:=tbm,mkr:=mkr,mak:=fun x=>if x=="law" then some mk0 else none }
theorem Abn:FnScope Z1.N Z1.ps (Ai Jm):=⟨rfl,rfl,rfl,by decide +kernel,by decide +kernel,by decide +kernel,by decide +kernel⟩
theorem wR:f2.ps.length=2/\f2.N.length=2:=by decide +kernel
theorem wU:f3.ps.length=1/\f3.N.length=1:=by decide +kernel
theorem Z3:f4.ps.length=1/\f4.N.length=3:=by decide +kernel
theorem wW:f5.ps.length=1/\f5.N.length=1:=by decide +kernel
theorem mD:f15.ps.length=1/\f15.N.length=1:=by decide +kernel
theorem mF:f16.ps.length=3/\f16.N.length=3:=by decide +kernel
theorem mG:f35.ps.length=2/\f35.N.length=2:=by decide +kernel
theorem mH:f36.ps.length=2/\f36.N.length=2:=by decide +kernel
theorem mJ:f37.ps.length=3/\f37.N.length=3:=by decide +kernel
theorem mK:f42.ps.length=1/\f42.N.length=2:=by decide +kernel
theorem Tr:f43.ps.length=1/\f43.N.length=1:=by decide +kernel
theorem mL:f44.ps.length=2/\f44.N.length=2:=by decide +kernel
theorem mO:f45.ps.length=3/\f45.N.length=3:=by decide +kernel
theorem mQ:f46.ps.length=3/\f46.N.length=3:=by decide +kernel
theorem mR:f47.ps.length=4/\f47.N.length=4:=by decide +kernel
theorem mU:f50.ps.length=3/\f50.N.length=3:=by decide +kernel
theorem mV:f51.ps.length=3/\f51.N.length=3:=by decide +kernel
theorem mW:f52.ps.length=3/\f52.N.length=5:=by decide +kernel
theorem mX:f53.ps.length=1/\f53.N.length=1:=by decide +kernel
theorem mY:f54.ps.length=4/\f54.N.length=5:=by decide +kernel
theorem mZ:f55.ps.length=3/\f55.N.length=7:=by decide +kernel
theorem nA:f56.ps.length=3/\f56.N.length=4:=by decide +kernel
theorem nC:f61.ps.length=5/\f61.N.length=5:=by decide +kernel
theorem nD:f62.ps.length=5/\f62.N.length=6:=by decide +kernel
theorem Gj:f63.ps.length=3/\f63.N.length=4:=by decide +kernel
theorem Lr:f64.ps.length=4/\f64.N.length=5:=by decide +kernel
theorem Ls:f65.ps.length=4/\f65.N.length=7:=by decide +kernel
theorem Gm:f66.ps.length=2/\f66.N.length=3:=by decide +kernel
theorem nF:f67.ps.length=3/\f67.N.length=5:=by decide +kernel
theorem nG:f68.ps.length=3/\f68.N.length=7:=by decide +kernel
theorem nH:f69.ps.length=4/\f69.N.length=8:=by decide +kernel
theorem nJ:f71.ps.length=2/\f71.N.length=5:=by decide +kernel
theorem nM:f72.ps.length=1/\f72.N.length=4:=by decide +kernel
theorem nO:f73.ps.length=1/\f73.N.length=1:=by decide +kernel
theorem Tv:f75.ps.length=3/\f75.N.length=4:=by decide +kernel
theorem Lx:f76.ps.length=3/\f76.N.length=3:=by decide +kernel
theorem nP:f77.ps.length=1/\f77.N.length=1:=by decide +kernel
theorem nQ:f78.ps.length=1/\f78.N.length=1:=by decide +kernel
theorem nR:f79.ps.length=3/\f79.N.length=5:=by decide +kernel
theorem nT:f80.ps.length=2/\f80.N.length=4:=by decide +kernel
theorem Ly:f82.ps.length=4/\f82.N.length=4:=by decide +kernel
theorem nU:f84.ps.length=3/\f84.N.length=7:=by decide +kernel
theorem nW:f85.ps.length=2/\f85.N.length=5:=by decide +kernel
theorem nY:f87.ps.length=2/\f87.N.length=2:=by decide +kernel
theorem nZ:f88.ps.length=2/\f88.N.length=4:=by decide +kernel
theorem oA:f89.ps.length=2/\f89.N.length=6:=by decide +kernel
theorem oE:f90.ps.length=5/\f90.N.length=6:=by decide +kernel
theorem oF:f91.ps.length=6/\f91.N.length=7:=by decide +kernel
theorem oG:f92.ps.length=4/\f92.N.length=8:=by decide +kernel
theorem oH:f93.ps.length=3/\f93.N.length=5:=by decide +kernel
theorem oJ:f94.ps.length=1/\f94.N.length=11:=by decide +kernel
theorem Lz:f95.ps.length=4/\f95.N.length=4:=by decide +kernel
theorem oK:f96.ps.length=1/\f96.N.length=11:=by decide +kernel
theorem Agh:MakDef (Bh (top 96)) mk0 (top 96):=⟨⟨_,_,rfl,rfl,rfl,fun _=>rfl,fun _ _ _ _ _ _ _=>ln1 fun _=>rfl⟩,⟨rfl,rfl,rfl,by decide +kernel,by decide +kernel,by decide +kernel,by decide +kernel,fun x h=>kJ (PySem.mem_of_lookup h),by decide +kernel⟩,rfl,by decide +kernel,by decide +kernel,by decide +kernel,by decide +kernel,Aa7 (by decide +kernel)⟩
theorem Agi {w:World}{K:W.Frag}{h:Heap}{mg:Str->Option Value}(X:K.In h) (G:h.Ns mainGlobals mg) {pl:Addr}(hp:K.lookup pl=some (W.tabObj #[])){C29:Addr}{f29_1':Addr} {od29_1 an29_1:Option Addr} {sl29_1:Array (Option Value)} {oc29_1 kV29_1 dc29_1 pm29_1 cd29_1 ct29_1:Value}{f29_0':Addr} {od29_0 an29_0:Option Addr} {sl29_0:Array (Option Value)} {oc29_0 kV29_0 dc29_0 pm29_0 cd29_0 ct29_0:Value}(rf:Kz K Z2)(rb:Nf K Hy)(rc:Nb K mC)(C29a:W.nsIn K mainGlobals "Step"=some (some (.ref C29)))(C29b:W.plainGet K C29 Str.empty=true)(C29c:W.hasDictIn K C29=true)(C29d:W.plainOver K C29=true)(C29e:W.findIn K (.ref C29) "__setattr__"=some (some (.builtin "object.__setattr__")))(C29f:W.findIn K (.ref C29) "form"=some none)(a29_1:W.findIn K (.ref C29) "told"=some (some (.ref f29_1')))(b29_1:W.isFn K (.ref f29_1')=true)(l29_1:K.lookup f29_1'=some ⟨oc29_1,od29_1,.func (W.fnOf "told" "Step.told" (Dh Jm) (Bu Jm) (Ai Jm) .none kV29_1 dc29_1 pm29_1 an29_1 cd29_1 ct29_1),sl29_1⟩)(c29_1:W.codeIn K cd29_1 "Step.told"=true)(k29_1:W.keepIn K (.ref f29_1')=true)(a29_0:W.findIn K (.ref C29) "__init__"=some (some (.ref f29_0')))(b29_0:W.isFn K (.ref f29_0')=true)(l29_0:K.lookup f29_0'=some ⟨oc29_0,od29_0,.func (W.fnOf "__init__" "Step.__init__" (Dh (Nh (top 29) 0)) (Bu (Nh (top 29) 0)) (Ai (Nh (top 29) 0)) .none kV29_0 dc29_0 pm29_0 an29_0 cd29_0 ct29_0),sl29_0⟩)(c29_0:W.codeIn K cd29_0 "Step.__init__"=true)(k29_0:W.keepIn K (.ref f29_0')=true)(C29m:W.makesIn K C29=true)(C29k:W.keepIn K (.ref C29)=true):TbOk w (cut pl K) mg Tt:=by
 have X:=kE (pl:=pl) X;have rf:=Zt hp rf;have rb:=Zu hp rb;have rc:=Zw hp rc;refine ⟨fun x I hx=>?_,fun x d hx=>?_,fun b hb=>?_,fun x kvs hx=>?_,fun c f hx=>?_,fun c m I hx=>?_,fun c f hx=>?_,fun x y hx=>?_,fun x m hx=>?_⟩
 ·exact Zq X G rf Vo hx
 ·show jU (cut pl K) mg x d;change con x=some d at hx;unfold con at hx;exact Vh X G rc hx
 ·exact Vi X G rb b hb
 ·cases hx
 ·change fld c f=true at hx;unfold fld at hx;simp only [Bool.or_eq_true,Bool.and_eq_true,beq_iff_eq] at hx;rcases hx with ⟨rfl,rfl⟩
  ·exact ⟨_,(G7 hp C29a),(Te hp ⟨C29b,C29c,C29d,C29e⟩),(kY hp C29f)⟩
 ·change tbm c m=some I at hx;unfold tbm at hx;split at hx
  ·rename_i e;rw [Bool.and_eq_true] at e;rw [eq_of_beq e.1,eq_of_beq e.2];cases hx;exact ⟨_,Jm,_,_,_,(G7 hp C29a),(Te hp ⟨C29b,C29c,C29d,C29e⟩),(kW hp ⟨a29_1,b29_1,k29_1⟩),(S9 hp (Wj (st:=Jm) l29_1 c29_1 k29_1)),Abn,rfl,rfl,ln1 fun _=>rfl⟩
  ·cases hx
 ·change mkr c=some f at hx;unfold mkr at hx;split at hx
  ·rename_i e;rw [eq_of_beq e];cases hx;exact ⟨_,_,_,["self", "form"],(G7 hp C29a),(Abb hp ⟨C29m,a29_0,b29_0,C29k⟩),W.mg_of X G (G7 hp C29a),.all (ln2 fun _ _=>rfl),fun P w base=>tO (S9 hp (Wj (st:=Nh (top 29) 0) l29_0 c29_0 k29_0)) ⟨rfl,rfl,rfl,by decide +kernel,by decide +kernel,by decide +kernel,by decide +kernel⟩ rfl (.inl (by decide +kernel)) (.inl (by decide +kernel)) (Te hp ⟨C29b,C29c,C29d,C29e⟩) (kY hp C29f) (by decide) (by decide)⟩
  ·cases hx
 ·cases hx
 ·change (if x=="law" then some mk0 else none)=some m at hx;split at hx
  ·rename_i e;rw [eq_of_beq e];cases hx;exact fun I hI=>Zx X G Agh rf Vo rfl hI
  ·cases hx
theorem tbM {w:World}{K:W.Frag}{h:Heap}{mg:Str->Option Value}(X:K.In h) (G:h.Ns mainGlobals mg) {pl f c bm:Addr}{oc:Value}{od od2:Option Addr}{fd:FuncData}{sl sl2 bsl:Array (Option Value)}{vs:Array Value}
  (la:W.nsIn K mainGlobals "law"=some (some (.ref f))) (ll:K.lookup f=some ⟨oc,od,.func fd,sl⟩) (le:fd.code=.ref c) (lc:K.lookup c=some ⟨.type "code",od2,.fields vs,sl2⟩) (lv:vs.getD 11 .none=.ref pl) (lp:K.lookup pl=some (W.tabObj #[])) (lh:W.codeHdIn K c pl=true)
  (lb:W.nsIn K mainGlobals "__builtins__"=some (some (.ref bm))) (lm:K.lookup bm=some ⟨.type "module",some builtinsNs,.plain,bsl⟩) (l6:bm≠builtinsNs) (l7:bm≠mainGlobals)
  {C29:Addr}
  {f29_1':Addr} {od29_1 an29_1:Option Addr} {sl29_1:Array (Option Value)} {oc29_1 kV29_1 dc29_1 pm29_1 cd29_1 ct29_1:Value}
  {f29_0':Addr} {od29_0 an29_0:Option Addr} {sl29_0:Array (Option Value)} {oc29_0 kV29_0 dc29_0 pm29_0 cd29_0 ct29_0:Value}
  (rf:Kz K Z2)
  (rb:Nf K Hy)
  (rc:Nb K mC)
  (C29a:W.nsIn K mainGlobals "Step"=some (some (.ref C29)))
  (C29b:W.plainGet K C29 Str.empty=true)
  (C29c:W.hasDictIn K C29=true)
  (C29d:W.plainOver K C29=true)
  (C29e:W.findIn K (.ref C29) "__setattr__"=some (some (.builtin "object.__setattr__")))
  (C29f:W.findIn K (.ref C29) "form"=some none)
  (a29_1:W.findIn K (.ref C29) "told"=some (some (.ref f29_1')))
  (b29_1:W.isFn K (.ref f29_1')=true)
  (l29_1:K.lookup f29_1'=some ⟨oc29_1,od29_1,.func (W.fnOf "told" "Step.told" (Dh Jm) (Bu Jm) (Ai Jm) .none kV29_1 dc29_1 pm29_1 an29_1 cd29_1 ct29_1),sl29_1⟩)
  (c29_1:W.codeIn K cd29_1 "Step.told"=true)
  (k29_1:W.keepIn K (.ref f29_1')=true)
  (a29_0:W.findIn K (.ref C29) "__init__"=some (some (.ref f29_0')))
  (b29_0:W.isFn K (.ref f29_0')=true)
  (l29_0:K.lookup f29_0'=some ⟨oc29_0,od29_0,.func (W.fnOf "__init__" "Step.__init__" (Dh (Nh (top 29) 0)) (Bu (Nh (top 29) 0)) (Ai (Nh (top 29) 0)) .none kV29_0 dc29_0 pm29_0 an29_0 cd29_0 ct29_0),sl29_0⟩)
  (c29_0:W.codeIn K cd29_0 "Step.__init__"=true)
  (k29_0:W.keepIn K (.ref f29_0')=true)
  (C29m:W.makesIn K C29=true)
  (C29k:W.keepIn K (.ref C29)=true):∃ pl,K.lookup pl=some (W.tabObj #[])/\eZ K "law" pl/\TbOk w (cut pl K) mg Tt :=
 ⟨pl,lp,⟨f,_,fd,c,bm,_,la,ll,rfl,le,lh,lb,lm,rfl,rfl,rfl,l6,l7⟩,Agi X G lp rf rb rc C29a C29b C29c C29d C29e C29f a29_1 b29_1 l29_1 c29_1 k29_1 a29_0 b29_0 l29_0 c29_0 k29_0 C29m C29k⟩
noncomputable def Gk (k:Nat):Gb:=GkN Tt k
noncomputable abbrev Bq (I:FnI) (k:Nat):SM:=iSs (Gk (k+1)) fuel {N:=I.N,scope:=I.scope,own:=fun _=>true} I.body
noncomputable def Ae9 (k:Nat):Str->Str->Option (List Str×Fn):=fun c m=>(match tbm c m with | some I=>some (I.ps,Ac (Gk k) fuel I) | none=>none)
noncomputable def b2 (k:Nat):SM :=
 (Ab (retS (dop eqD (dop wN (dop uF (vr 0) (vr 1)) (Zr (.int 1))) (Zr (.int 1))))
 Zn)
theorem Afa (k:Nat):Bq f2 k=b2 k:=by kernel_rfl
noncomputable def b3 (k:Nat):SM :=
 (Ab (retS (Ag Gz (Aa (Dk (Nr Jv (Aa (Cw "int" gP (vr 0) (Zr [])) (Zr []))) [none,none,some 0] (Bb 1) (Hr (Ag (Ac (Gk k) fuel f2) (Aa (vr 2) (Aa (vr 1) (Zr []))))) (vr 1)) (Zr []))))
 Zn)
theorem Afb (k:Nat):Bq f3 k=b3 k:=by kernel_rfl
noncomputable def b4 (k:Nat):SM :=
 (Ab (Bd (Zr (.int 0)) (Bb 1))
 (Ab (Hs (Ec (vr 0)) (Bb 2)
 (Ab (Bd (dop Aa5 (vr 1) (dop Ae2 (Zr (.int 1)) (vr 2))) (Bb 1))
  Zn))
 (Ab (retS (vr 1))
 Zn)))
theorem wX (k:Nat):Bq f4 k=b4 k:=by kernel_rfl
noncomputable def b5 (k:Nat):SM :=
 (Ab (retS (Ag Dr (Aa (Ag (Ac (Gk k) fuel f3) (Aa (vr 0) (Zr []))) (Zr []))))
 Zn)
theorem Afc (k:Nat):Bq f5 k=b5 k:=by kernel_rfl
noncomputable def b15 (k:Nat):SM :=
 (Ab (retS (dop eqD (dop ixD (vr 0) (Zr (.int (0)))) (Zr (.int (-1)))))
 Zn)
theorem Abo (k:Nat):Bq f15 k=b15 k:=by kernel_rfl
noncomputable def b16 (k:Nat):SM :=
 (Ab (retS (dop Cd (dop Cd (dSl (vr 0) none (some (vr 1))) (Bg (Aa (vr 2) (Zr [])))) (dSl (vr 0) (some (dop Cd (vr 1) (Zr (.int 1)))) none)))
 Zn)
theorem Abp (k:Nat):Bq f16 k=b16 k:=by kernel_rfl
noncomputable def b35 (k:Nat):SM :=
 (Ab (retS (Ag Gz (Aa (Dk (Jk (dop ixD (vr 0) (Zr (.int (3))))) [none,none,none,some 1] (Ow [1,2]) (Aj (dop eqD (vr 2) (vr 3))) (vr 1)) (Zr []))))
 Zn)
theorem Abq (k:Nat):Bq f35 k=b35 k:=by kernel_rfl
noncomputable def b36 (k:Nat):SM :=
 (Ab (retS (Ag Dr (Aa (dop ixD (dop ixD (vr 0) (Zr (.int (2)))) (vr 1)) (Zr []))))
 Zn)
theorem Abr (k:Nat):Bq f36 k=b36 k:=by kernel_rfl
noncomputable def b37 (k:Nat):SM :=
 (Ab (ifS (Aj (G4 leD ltD (Zr (.int 0)) (vr 2) (Ag (Ac (Gk k) fuel f36) (Aa (vr 0) (Aa (vr 1) (Zr []))))))
 (Ab (retS (mkM "Step" "form" (dop ixD (dop ixD (dop ixD (vr 0) (Zr (.int (2)))) (vr 1)) (vr 2))))
  Zn)
 Zn)
 (Ab (retS (Zr .non))
 Zn))
theorem Abs (k:Nat):Bq f37 k=b37 k:=by kernel_rfl
noncomputable def b42 (k:Nat):SM :=
 (Ab (Bd (Ag Dr (Aa (dop ixD (vr 0) (Zr (.int (3)))) (Zr []))) (Bb 1))
 (Ab (retS (Bg (Aa (dop G6 (Bg (Aa (Ag (Ac (Gk k) fuel f14) (Aa (Zr (.int 0)) (Zr []))) (Zr []))) (vr 1)) (Aa (dop G6 (Bg (Aa (dop G6 (Bg (Aa (Bg (Zr [])) (Zr []))) (vr 1)) (Zr []))) (vr 1)) (Aa (dop ixD (vr 0) (Zr (.int (1)))) (Zr []))))))
 Zn))
theorem Abt (k:Nat):Bq f42 k=b42 k:=by kernel_rfl
noncomputable def b43 (k:Nat):SM :=
 (Ab (retS (Pj (Ag Dr (Aa (dop ixD (vr 0) (Zr (.int (0)))) (Zr [])))))
 Zn)
theorem oM (k:Nat):Bq f43 k=b43 k:=by kernel_rfl
noncomputable def b44 (k:Nat):SM :=
 (Ab (retS (dop ixD (dop ixD (vr 0) (Zr (.int (0)))) (vr 1)))
 Zn)
theorem Abu (k:Nat):Bq f44 k=b44 k:=by kernel_rfl
noncomputable def b45 (k:Nat):SM :=
 (Ab (retS (dop ixD (dop ixD (dop ixD (vr 0) (Zr (.int (1)))) (vr 2)) (vr 1)))
 Zn)
theorem Abv (k:Nat):Bq f45 k=b45 k:=by kernel_rfl
noncomputable def b46 (k:Nat):SM :=
 (Ab (retS (Ag (Ac (Gk k) fuel f16) (Aa (vr 0) (Aa (Zr (.int (0))) (Aa (Ag (Ac (Gk k) fuel f16) (Aa (dop ixD (vr 0) (Zr (.int (0)))) (Aa (vr 1) (Aa (vr 2) (Zr []))))) (Zr []))))))
 Zn)
theorem Abw (k:Nat):Bq f46 k=b46 k:=by kernel_rfl
noncomputable def b47 (k:Nat):SM :=
 (Ab (retS (Ag (Ac (Gk k) fuel f16) (Aa (vr 0) (Aa (Zr (.int (1))) (Aa (Ag (Ac (Gk k) fuel f16) (Aa (dop ixD (vr 0) (Zr (.int (1)))) (Aa (vr 2) (Aa (Ag (Ac (Gk k) fuel f16) (Aa (dop ixD (dop ixD (vr 0) (Zr (.int (1)))) (vr 2)) (Aa (vr 1) (Aa (vr 3) (Zr []))))) (Zr []))))) (Zr []))))))
 Zn)
theorem Abx (k:Nat):Bq f47 k=b47 k:=by kernel_rfl
noncomputable def b50 (k:Nat):SM :=
 (Ab (retS (Ag (Ac (Gk k) fuel f37) (Aa (vr 0) (Aa (dop ixD (dop ixD (vr 0) (Zr (.int (3)))) (vr 2)) (Aa (dop ixD (Ag (Ac (Gk k) fuel f44) (Aa (vr 1) (Aa (vr 2) (Zr [])))) (Zr (.int (0)))) (Zr []))))))
 Zn)
theorem Aby (k:Nat):Bq f50 k=b50 k:=by kernel_rfl
noncomputable def b51 (k:Nat):SM :=
 (Ab (retS (Dk (Ec (Ag (Ac (Gk k) fuel f35) (Aa (vr 0) (Aa (vr 1) (Zr []))))) [none,none,some 2] (Bb 1) (Aj (dop neD (vr 1) (vr 2))) (vr 1)))
 Zn)
theorem Abz (k:Nat):Bq f51 k=b51 k:=by kernel_rfl
noncomputable def b52 (k:Nat):SM :=
 (Ab (Bd (Ag (Ac (Gk k) fuel f50) (Aa (vr 0) (Aa (vr 1) (Aa (vr 2) (Zr []))))) (Bb 3))
 (Ab (ifS (Aj (dop (isD false) (vr 3) (Zr .non)))
 (Ab (retS (lstM (Zr [])))
  Zn)
 Zn)
 (Ab (Bd (Gg (Ae9 k) "told" (vr 3) (Zr [])) (Bb 4))
 (Ab (ifS (Aj (dop eqD (dop ixD (vr 4) (Zr (.int 0))) (Zr (.str "choose"))))
 (Ab (retS (Pj (dop ixD (vr 4) (Zr (.int 2)))))
  Zn)
 Zn)
 (Ab (ifS (Aj (dop eqD (dop ixD (vr 4) (Zr (.int 0))) (Zr (.str "pick"))))
 (Ab (retS (Dk (Ec (Ag (Ac (Gk k) fuel f51) (Aa (vr 0) (Aa (dop ixD (vr 4) (Zr (.int 2))) (Aa (vr 2) (Zr [])))))) [none,none] (Bb 1) (Zr true) (Bg (Aa (vr 1) (Zr [])))))
  Zn)
 Zn)
 (Ab (ifS (Aj (dop eqD (dop ixD (vr 4) (Zr (.int 0))) (Zr (.str "out"))))
 (Ab (retS (Ag (Ac (Gk k) fuel f53) (Aa (dop ixD (dop ixD (Ag (Ac (Gk k) fuel f44) (Aa (vr 1) (Aa (vr 2) (Zr [])))) (Zr (.int (3)))) (dop ixD (vr 4) (Zr (.int 2)))) (Zr []))))
  Zn)
 Zn)
 (Ab (ifS (Aj (dop eqD (dop ixD (vr 4) (Zr (.int 0))) (Zr (.str "take"))))
 (Ab (retS (Ag (Ac (Gk k) fuel f55) (Aa (vr 1) (Aa (vr 2) (Aa (vr 4) (Zr []))))))
  Zn)
 Zn)
 (Ab (ifS (Hq (Aj (dop eqD (dop ixD (vr 4) (Zr (.int 0))) (Zr (.str "send")))) (Hw (Hr (Ag (Ac (Gk k) fuel f54) (Aa (vr 0) (Aa (vr 1) (Aa (vr 2) (Aa (vr 4) (Zr [])))))))))
 (Ab (retS (lstM (Zr [])))
  Zn)
 Zn)
 (Ab (retS (lstM (Aa (Zr (.int 0)) (Zr []))))
 Zn)))))))))
theorem Ab0 (k:Nat):Bq f52 k=b52 k:=by kernel_rfl
noncomputable def b53 (k:Nat):SM :=
 (Ab (ifS (Aj (dop eqD (vr 0) (Zr (.int 0))))
 (Ab (retS (lstM (Aa (Zr (.int 0)) (Zr []))))
  Zn)
 Zn)
 (Ab (retS (Dk (Ec (Ag (Ac (Gk k) fuel f3) (Aa (vr 0) (Zr [])))) [none,none] (Bb 1) (Zr true) (Bg (Aa (vr 1) (Zr [])))))
 Zn))
theorem Ab1 (k:Nat):Bq f53 k=b53 k:=by kernel_rfl
noncomputable def b54 (k:Nat):SM :=
 (Ab (Bd (dop ixD (dop ixD (Ag (Ac (Gk k) fuel f44) (Aa (vr 1) (Aa (vr 2) (Zr [])))) (Zr (.int (2)))) (dop ixD (vr 3) (Zr (.int 1)))) (Bb 4))
 (Ab (ifS (Km (Aj (dop eqD (vr 4) (Zr (.int (-1))))) (Hr (Ag (Ac (Gk k) fuel f15) (Aa (Ag (Ac (Gk k) fuel f44) (Aa (vr 1) (Aa (vr 4) (Zr [])))) (Zr [])))))
 (Ab (retS (Zr (.bl true)))
  Zn)
 Zn)
 (Ab (retS (dop ltD (Ag Dr (Aa (Ag (Ac (Gk k) fuel f45) (Aa (vr 1) (Aa (vr 2) (Aa (vr 4) (Zr []))))) (Zr []))) (dop ixD (vr 0) (Zr (.int (0))))))
 Zn)))
theorem Ab2 (k:Nat):Bq f54 k=b54 k:=by kernel_rfl
noncomputable def b55 (k:Nat):SM :=
 (Ab (Bd (Dk (Ec (dop ixD (vr 2) (Zr (.int 2)))) [none,none] (Bb 1) (Zr true) (dop ixD (vr 1) (Zr (.int 0)))) (Bb 3))
 (Ab (Bd (lstM (Zr [])) (Bb 4))
 (Ab (ifS (Hq (Aj (dop (inD false) (Zr (.int 0)) (vr 3))) (Hr (dop ixD (Ag (Ac (Gk k) fuel f44) (Aa (vr 0) (Aa (vr 1) (Zr [])))) (Zr (.int (4))))))
 (Ab (Ep (Cw "list" Ck (vr 4) (Aa (Zr (.tup [(.int (-1)),(.int (0))])) (Zr []))))
  Zn)
 Zn)
 (Ab (Hs (Ec (Ag (Ac (Gk k) fuel f56) (Aa (vr 0) (Aa (vr 1) (Aa (dop ixD (vr 2) (Zr (.int 1))) (Zr [])))))) (Bb 5)
 (Ab (Bd (Ag (Ac (Gk k) fuel f45) (Aa (vr 0) (Aa (vr 5) (Aa (vr 1) (Zr []))))) (Bb 6))
  (Ab (ifS (Hq (Aj (dop gtD (Ag Dr (Aa (vr 6) (Zr []))) (Zr (.int 0)))) (Aj (dop (inD false) (dop ixD (dop ixD (vr 6) (Zr (.int 0))) (Zr (.int 0))) (vr 3))))
  (Ab (Ep (Cw "list" Ck (vr 4) (Aa (Bg (Aa (vr 5) (Aa (dop ixD (dop ixD (vr 6) (Zr (.int 0))) (Zr (.int 0))) (Zr [])))) (Zr []))))
   Zn)
  Zn)
  Zn)))
 (Ab (retS (vr 4))
 Zn)))))
theorem Ab3 (k:Nat):Bq f55 k=b55 k:=by kernel_rfl
noncomputable def b56 (k:Nat):SM :=
 (Ab (ifS (Aj (dop eqD (vr 2) (Jx (Zr (.int 1)))))
 (Ab (retS (Ag (Ac (Gk k) fuel f43) (Aa (vr 0) (Zr []))))
  Zn)
 Zn)
 (Ab (Bd (dop ixD (dop ixD (Ag (Ac (Gk k) fuel f44) (Aa (vr 0) (Aa (vr 1) (Zr [])))) (Zr (.int (2)))) (vr 2)) (Bb 3))
 (Ab (retS (dIf (Aj (dop eqD (vr 3) (Zr (.int (-1))))) (lstM (Zr [])) (lstM (Aa (vr 3) (Zr [])))))
 Zn)))
theorem Ab4 (k:Nat):Bq f56 k=b56 k:=by kernel_rfl
noncomputable def b61 (k:Nat):SM :=
 (Ab (ifS (Aj (dop eqD (dop ixD (vr 3) (Zr (.int 0))) (Zr (.str "send"))))
 (Ab (retS (Ag (Ac (Gk k) fuel f68) (Aa (vr 1) (Aa (vr 2) (Aa (vr 3) (Zr []))))))
  Zn)
 Zn)
 (Ab (ifS (Aj (dop eqD (dop ixD (vr 3) (Zr (.int 0))) (Zr (.str "take"))))
 (Ab (retS (Ag (Ac (Gk k) fuel f69) (Aa (vr 1) (Aa (vr 2) (Aa (vr 3) (Aa (vr 4) (Zr [])))))))
  Zn)
 Zn)
 (Ab (retS (Ag (Ac (Gk k) fuel f46) (Aa (vr 1) (Aa (vr 2) (Aa (Ag (Ac (Gk k) fuel f62) (Aa (vr 0) (Aa (vr 2) (Aa (Ag (Ac (Gk k) fuel f44) (Aa (vr 1) (Aa (vr 2) (Zr [])))) (Aa (vr 3) (Aa (vr 4) (Zr []))))))) (Zr []))))))
 Zn)))
theorem Ab5 (k:Nat):Bq f61 k=b61 k:=by kernel_rfl
noncomputable def b62 (k:Nat):SM :=
 (Ab (Bd (dop ixD (vr 3) (Zr (.int 0))) (Bb 5))
 (Ab (ifS (Aj (dop (inD false) (vr 5) (Zr (.tup [(.str "put"),(.str "copy"),(.str "raise"),(.str "sum"),(.str "choose")]))))
 (Ab (retS (Ag (Ac (Gk k) fuel f22) (Aa (Ag (Ac (Gk k) fuel f17) (Aa (vr 2) (Aa (dop ixD (vr 3) (Zr (.int 1))) (Aa (Ag (Ac (Gk k) fuel f63) (Aa (dop ixD (vr 2) (Zr (.int (1)))) (Aa (vr 3) (Aa (vr 4) (Zr []))))) (Zr []))))) (Zr []))))
  Zn)
 Zn)
 (Ab (ifS (Aj (dop (inD false) (vr 5) (Zr (.tup [(.str "me"),(.str "only"),(.str "pick")]))))
 (Ab (retS (Ag (Ac (Gk k) fuel f22) (Aa (Ag (Ac (Gk k) fuel f18) (Aa (vr 2) (Aa (dop ixD (vr 3) (Zr (.int 1))) (Aa (Ag (Ac (Gk k) fuel f64) (Aa (vr 0) (Aa (vr 1) (Aa (vr 3) (Aa (vr 4) (Zr [])))))) (Zr []))))) (Zr []))))
  Zn)
 Zn)
 (Ab (ifS (Aj (dop (inD false) (vr 5) (Zr (.tup [(.str "all"),(.str "empty"),(.str "join")]))))
 (Ab (retS (Ag (Ac (Gk k) fuel f22) (Aa (Ag (Ac (Gk k) fuel f19) (Aa (vr 2) (Aa (dop ixD (vr 3) (Zr (.int 1))) (Aa (Ag (Ac (Gk k) fuel f65) (Aa (vr 0) (Aa (vr 1) (Aa (vr 2) (Aa (vr 3) (Zr [])))))) (Zr []))))) (Zr []))))
  Zn)
 Zn)
 (Ab (ifS (Aj (dop eqD (vr 5) (Zr (.str "out"))))
 (Ab (retS (Ag (Ac (Gk k) fuel f67) (Aa (vr 2) (Aa (vr 3) (Aa (vr 4) (Zr []))))))
  Zn)
 Zn)
 (Ab (ifS (Aj (dop eqD (vr 5) (Zr (.str "bell"))))
 (Ab (retS (Ag (Ac (Gk k) fuel f22) (Aa (Ag (Ac (Gk k) fuel f20) (Aa (vr 2) (Aa (Zr (.bl true)) (Zr [])))) (Zr []))))
  Zn)
 Zn)
 (Ab (ifS (Hr (Ag (Ac (Gk k) fuel f66) (Aa (vr 2) (Aa (vr 3) (Zr [])))))
 (Ab (retS (Ag (Ac (Gk k) fuel f21) (Aa (vr 2) (Aa (dop ixD (vr 3) (Jx (Zr (.int 1)))) (Zr [])))))
  Zn)
 Zn)
 (Ab (retS (Ag (Ac (Gk k) fuel f22) (Aa (vr 2) (Zr []))))
 Zn))))))))
theorem Ab6 (k:Nat):Bq f62 k=b62 k:=by kernel_rfl
noncomputable def b63 (k:Nat):SM :=
 (Ab (Bd (dop ixD (vr 1) (Zr (.int 0))) (Bb 3))
 (Ab (ifS (Aj (dop eqD (vr 3) (Zr (.str "put"))))
 (Ab (retS (dop ixD (vr 1) (Zr (.int 2))))
  Zn)
 Zn)
 (Ab (ifS (Aj (dop eqD (vr 3) (Zr (.str "copy"))))
 (Ab (retS (dop ixD (vr 0) (dop ixD (vr 1) (Zr (.int 2)))))
  Zn)
 Zn)
 (Ab (ifS (Aj (dop eqD (vr 3) (Zr (.str "raise"))))
 (Ab (retS (dop Cd (dop ixD (vr 0) (dop ixD (vr 1) (Zr (.int 1)))) (dop ixD (vr 1) (Zr (.int 2)))))
  Zn)
 Zn)
 (Ab (ifS (Aj (dop eqD (vr 3) (Zr (.str "sum"))))
 (Ab (retS (dop Cd (dop ixD (vr 0) (dop ixD (vr 1) (Zr (.int 1)))) (dop ixD (vr 0) (dop ixD (vr 1) (Zr (.int 2))))))
  Zn)
 Zn)
 (Ab (retS (vr 2))
 Zn))))))
theorem Px (k:Nat):Bq f63 k=b63 k:=by kernel_rfl
noncomputable def b64 (k:Nat):SM :=
 (Ab (Bd (dop ixD (vr 2) (Zr (.int 0))) (Bb 4))
 (Ab (ifS (Aj (dop eqD (vr 4) (Zr (.str "me"))))
 (Ab (retS (vr 1))
  Zn)
 Zn)
 (Ab (ifS (Aj (dop eqD (vr 4) (Zr (.str "only"))))
 (Ab (retS (dop ixD (Ag (Ac (Gk k) fuel f35) (Aa (vr 0) (Aa (dop ixD (vr 2) (Zr (.int 2))) (Zr [])))) (Zr (.int 0))))
  Zn)
 Zn)
 (Ab (retS (dop ixD (vr 3) (Zr (.int 0))))
 Zn))))
theorem Xq (k:Nat):Bq f64 k=b64 k:=by kernel_rfl
noncomputable def b65 (k:Nat):SM :=
 (Ab (Bd (dop ixD (vr 3) (Zr (.int 0))) (Bb 4))
 (Ab (ifS (Aj (dop eqD (vr 4) (Zr (.str "all"))))
 (Ab (retS (Ag (Ac (Gk k) fuel f4) (Aa (Ag (Ac (Gk k) fuel f51) (Aa (vr 0) (Aa (dop ixD (vr 3) (Zr (.int 2))) (Aa (vr 1) (Zr []))))) (Zr []))))
  Zn)
 Zn)
 (Ab (ifS (Aj (dop eqD (vr 4) (Zr (.str "empty"))))
 (Ab (retS (Zr (.int 0)))
  Zn)
 Zn)
 (Ab (Bd (dop ixD (dop ixD (vr 2) (Zr (.int (3)))) (dop ixD (vr 3) (Zr (.int 1)))) (Bb 5))
 (Ab (Bd (dop ixD (dop ixD (vr 2) (Zr (.int (2)))) (dop ixD (vr 3) (Zr (.int 2)))) (Bb 6))
 (Ab (retS (dIf (Aj (dop eqD (vr 6) (Zr (.int (-1))))) (vr 5) (dop Aa5 (vr 5) (Ag (Ac (Gk k) fuel f4) (Aa (lstM (Aa (vr 6) (Zr []))) (Zr []))))))
 Zn))))))
theorem Xr (k:Nat):Bq f65 k=b65 k:=by kernel_rfl
noncomputable def b66 (k:Nat):SM :=
 (Ab (Bd (dop ixD (vr 1) (Zr (.int 0))) (Bb 2))
 (Ab (ifS (Aj (dop eqD (vr 2) (Zr (.str "less"))))
 (Ab (retS (dop ltD (dop ixD (dop ixD (vr 0) (Zr (.int (1)))) (dop ixD (vr 1) (Zr (.int 1)))) (dop ixD (vr 1) (Zr (.int 2)))))
  Zn)
 Zn)
 (Ab (ifS (Aj (dop eqD (vr 2) (Zr (.str "before"))))
 (Ab (retS (dop ltD (dop ixD (dop ixD (vr 0) (Zr (.int (1)))) (dop ixD (vr 1) (Zr (.int 1)))) (dop ixD (dop ixD (vr 0) (Zr (.int (1)))) (dop ixD (vr 1) (Zr (.int 2))))))
  Zn)
 Zn)
 (Ab (ifS (Aj (dop eqD (vr 2) (Zr (.str "alike"))))
 (Ab (retS (dop eqD (dop ixD (dop ixD (vr 0) (Zr (.int (2)))) (dop ixD (vr 1) (Zr (.int 1)))) (dop ixD (dop ixD (vr 0) (Zr (.int (2)))) (dop ixD (vr 1) (Zr (.int 2))))))
  Zn)
 Zn)
 (Ab (ifS (Aj (dop eqD (vr 2) (Zr (.str "many"))))
 (Ab (retS (dop geD (Ag (Ac (Gk k) fuel f5) (Aa (dop ixD (dop ixD (vr 0) (Zr (.int (3)))) (dop ixD (vr 1) (Zr (.int 1)))) (Zr []))) (dop ixD (vr 1) (Zr (.int 2)))))
  Zn)
 Zn)
 (Ab (retS (Zr (.bl true)))
 Zn))))))
theorem Py (k:Nat):Bq f66 k=b66 k:=by kernel_rfl
noncomputable def b67 (k:Nat):SM :=
 (Ab (Bd (dop ixD (dop ixD (vr 0) (Zr (.int (3)))) (dop ixD (vr 1) (Zr (.int 2)))) (Bb 3))
 (Ab (ifS (Aj (dop eqD (vr 3) (Zr (.int 0))))
 (Ab (retS (Ag (Ac (Gk k) fuel f21) (Aa (vr 0) (Aa (dop ixD (vr 1) (Zr (.int 3))) (Zr [])))))
  Zn)
 Zn)
 (Ab (Bd (Ag (Ac (Gk k) fuel f19) (Aa (vr 0) (Aa (dop ixD (vr 1) (Zr (.int 2))) (Aa (dop cH (vr 3) (Ag (Ac (Gk k) fuel f4) (Aa (vr 2) (Zr [])))) (Zr []))))) (Bb 4))
 (Ab (retS (Ag (Ac (Gk k) fuel f22) (Aa (Ag (Ac (Gk k) fuel f18) (Aa (vr 4) (Aa (dop ixD (vr 1) (Zr (.int 1))) (Aa (dop ixD (vr 2) (Zr (.int 0))) (Zr []))))) (Zr []))))
 Zn))))
theorem Ab7 (k:Nat):Bq f67 k=b67 k:=by kernel_rfl
noncomputable def b68 (k:Nat):SM :=
 (Ab (Bd (Ag (Ac (Gk k) fuel f44) (Aa (vr 0) (Aa (vr 1) (Zr [])))) (Bb 3))
 (Ab (Bd (Ag (Ac (Gk k) fuel f46) (Aa (vr 0) (Aa (vr 1) (Aa (Ag (Ac (Gk k) fuel f22) (Aa (vr 3) (Zr []))) (Zr []))))) (Bb 4))
 (Ab (Bd (dop ixD (dop ixD (vr 3) (Zr (.int (2)))) (dop ixD (vr 2) (Zr (.int 1)))) (Bb 5))
 (Ab (ifS (Km (Aj (dop eqD (vr 5) (Zr (.int (-1))))) (Hr (Ag (Ac (Gk k) fuel f15) (Aa (Ag (Ac (Gk k) fuel f44) (Aa (vr 0) (Aa (vr 5) (Zr [])))) (Zr [])))))
 (Ab (retS (vr 4))
  Zn)
 Zn)
 (Ab (Bd (Bg (Aa (dop ixD (vr 2) (Zr (.int 2))) (Aa (dop ixD (dop ixD (vr 3) (Zr (.int (1)))) (dop ixD (vr 2) (Zr (.int 3)))) (Aa (dop ixD (dop ixD (vr 3) (Zr (.int (2)))) (dop ixD (vr 2) (Zr (.int 4)))) (Zr []))))) (Bb 6))
 (Ab (retS (Ag (Ac (Gk k) fuel f47) (Aa (vr 4) (Aa (vr 1) (Aa (vr 5) (Aa (dop Cd (Ag (Ac (Gk k) fuel f45) (Aa (vr 0) (Aa (vr 1) (Aa (vr 5) (Zr []))))) (Bg (Aa (vr 6) (Zr [])))) (Zr [])))))))
 Zn))))))
theorem Ab8 (k:Nat):Bq f68 k=b68 k:=by kernel_rfl
noncomputable def b69 (k:Nat):SM :=
 (Ab (Bd (dop ixD (Dk (Ec (dop ixD (vr 2) (Zr (.int 2)))) [none,none,some 3] (Bb 1) (Aj (dop eqD (dop ixD (vr 1) (Zr (.int 0))) (dop ixD (vr 2) (Zr (.int 1))))) (vr 1)) (Zr (.int 0))) (Bb 4))
 (Ab (Bd (Ag (Ac (Gk k) fuel f21) (Aa (Ag (Ac (Gk k) fuel f44) (Aa (vr 0) (Aa (vr 1) (Zr [])))) (Aa (dop ixD (vr 4) (Zr (.int 4))) (Zr [])))) (Bb 5))
 (Ab (ifS (Aj (dop eqD (vr 3) (Zr (.tup [(.int (-1)),(.int (0))]))))
 (Ab (retS (Ag (Ac (Gk k) fuel f46) (Aa (vr 0) (Aa (vr 1) (Aa (Ag (Ac (Gk k) fuel f20) (Aa (vr 5) (Aa (Zr (.bl false)) (Zr [])))) (Zr []))))))
  Zn)
 Zn)
 (Ab (Bd (dop ixD (vr 3) (Zr (.int 0))) (Bb 6))
 (Ab (Bd (Ag (Ac (Gk k) fuel f45) (Aa (vr 0) (Aa (vr 6) (Aa (vr 1) (Zr []))))) (Bb 7))
 (Ab (Bd (Ag (Ac (Gk k) fuel f17) (Aa (vr 5) (Aa (dop ixD (vr 4) (Zr (.int 1))) (Aa (dop ixD (dop ixD (vr 7) (Zr (.int 0))) (Zr (.int 1))) (Zr []))))) (Bb 5))
 (Ab (Bd (Ag (Ac (Gk k) fuel f18) (Aa (vr 5) (Aa (dop ixD (vr 4) (Zr (.int 2))) (Aa (dop ixD (dop ixD (vr 7) (Zr (.int 0))) (Zr (.int 2))) (Zr []))))) (Bb 5))
 (Ab (Bd (Ag (Ac (Gk k) fuel f18) (Aa (vr 5) (Aa (dop ixD (vr 4) (Zr (.int 3))) (Aa (vr 6) (Zr []))))) (Bb 5))
 (Ab (retS (Ag (Ac (Gk k) fuel f46) (Aa (Ag (Ac (Gk k) fuel f47) (Aa (vr 0) (Aa (vr 6) (Aa (vr 1) (Aa (dSl (vr 7) (some (Zr (.int 1))) none) (Zr [])))))) (Aa (vr 1) (Aa (vr 5) (Zr []))))))
 Zn)))))))))
theorem Ab9 (k:Nat):Bq f69 k=b69 k:=by kernel_rfl
noncomputable def b71 (k:Nat):SM :=
 (Ab (Bd (lstM (Zr [])) (Bb 2))
 (Ab (Hs (Ec (Ag (Ac (Gk k) fuel f43) (Aa (vr 1) (Zr [])))) (Bb 3)
 (Ab (Hs (Ec (Ag (Ac (Gk k) fuel f52) (Aa (vr 0) (Aa (vr 1) (Aa (vr 3) (Zr [])))))) (Bb 4)
  (Ab (Ep (Cw "list" Ck (vr 2) (Aa (Bg (Aa (Zr (.str "do")) (Aa (vr 3) (Aa (vr 4) (Zr []))))) (Zr []))))
   Zn))
  Zn))
 (Ab (retS (dop Cd (dop Cd (vr 2) (Ag (Ac (Gk k) fuel f72) (Aa (vr 1) (Zr [])))) (Ag (Ac (Gk k) fuel f73) (Aa (vr 1) (Zr [])))))
 Zn)))
theorem Aca (k:Nat):Bq f71 k=b71 k:=by kernel_rfl
noncomputable def b72 (k:Nat):SM :=
 (Ab (Bd (lstM (Zr [])) (Bb 1))
 (Ab (ifS (Aj (dop eqD (dop ixD (dop ixD (vr 0) (Zr (.int (2)))) (Zr (.int 0))) (Zr (.int 0))))
 (Ab (retS (vr 1))
  Zn)
 Zn)
 (Ab (Hs (Ec (Ag (Ac (Gk k) fuel f43) (Aa (vr 0) (Zr [])))) (Bb 2)
 (Ab (Hs (Ec (Ag (Ac (Gk k) fuel f43) (Aa (vr 0) (Zr [])))) (Bb 3)
  (Ab (ifS (Aj (dop gtD (Ag Dr (Aa (Ag (Ac (Gk k) fuel f45) (Aa (vr 0) (Aa (vr 2) (Aa (vr 3) (Zr []))))) (Zr []))) (Zr (.int 0))))
   (Ab (Ep (Cw "list" Ck (vr 1) (Aa (Bg (Aa (Zr (.str "lose")) (Aa (vr 2) (Aa (vr 3) (Zr []))))) (Zr []))))
    Zn)
   Zn)
   Zn))
  Zn))
 (Ab (retS (vr 1))
 Zn))))
theorem Acb (k:Nat):Bq f72 k=b72 k:=by kernel_rfl
noncomputable def b73 (k:Nat):SM :=
 (Ab (ifS (Aj (dop eqD (dop ixD (dop ixD (vr 0) (Zr (.int (2)))) (Zr (.int 1))) (Zr (.int 0))))
 (Ab (retS (lstM (Zr [])))
  Zn)
 Zn)
 (Ab (retS (Dk (Ec (Ag (Ac (Gk k) fuel f43) (Aa (vr 0) (Zr [])))) [none,none,some 0] (Bb 1) (Hw (Hr (Ag (Ac (Gk k) fuel f15) (Aa (Ag (Ac (Gk k) fuel f44) (Aa (vr 2) (Aa (vr 1) (Zr [])))) (Zr []))))) (Bg (Aa (Zr (.str "fall")) (Aa (vr 1) (Zr []))))))
 Zn))
theorem Acd (k:Nat):Bq f73 k=b73 k:=by kernel_rfl
noncomputable def b75 (k:Nat):SM :=
 (Ab (ifS (Aj (dop eqD (dop ixD (vr 2) (Zr (.int 0))) (Zr (.str "lose"))))
 (Ab (retS (Ag (Ac (Gk k) fuel f79) (Aa (vr 1) (Aa (dop ixD (vr 2) (Zr (.int 1))) (Aa (dop ixD (vr 2) (Zr (.int 2))) (Zr []))))))
  Zn)
 Zn)
 (Ab (ifS (Aj (dop eqD (dop ixD (vr 2) (Zr (.int 0))) (Zr (.str "fall"))))
 (Ab (retS (Ag (Ac (Gk k) fuel f80) (Aa (vr 1) (Aa (dop ixD (vr 2) (Zr (.int 1))) (Zr [])))))
  Zn)
 Zn)
 (Ab (Bd (Gg (Ae9 k) "told" (Ag (Ac (Gk k) fuel f50) (Aa (vr 0) (Aa (vr 1) (Aa (dop ixD (vr 2) (Zr (.int 1))) (Zr []))))) (Zr [])) (Bb 3))
 (Ab (retS (Ag (Ac (Gk k) fuel f61) (Aa (vr 0) (Aa (vr 1) (Aa (dop ixD (vr 2) (Zr (.int 1))) (Aa (vr 3) (Aa (dop ixD (vr 2) (Zr (.int 2))) (Zr []))))))))
 Zn))))
theorem oN (k:Nat):Bq f75 k=b75 k:=by kernel_rfl
noncomputable def b76 (k:Nat):SM :=
 (Ab (ifS (Hw (Hr (Ag (Ac (Gk k) fuel f77) (Aa (vr 2) (Zr [])))))
 (Ab (retS (Zr (.bl false)))
  Zn)
 Zn)
 (Ab (ifS (Aj (dop eqD (dop ixD (vr 2) (Zr (.int 0))) (Zr (.str "lose"))))
 (Ab (retS (dop (inD false) (vr 2) (Ag (Ac (Gk k) fuel f72) (Aa (vr 1) (Zr [])))))
  Zn)
 Zn)
 (Ab (ifS (Aj (dop eqD (dop ixD (vr 2) (Zr (.int 0))) (Zr (.str "fall"))))
 (Ab (retS (dop (inD false) (vr 2) (Ag (Ac (Gk k) fuel f73) (Aa (vr 1) (Zr [])))))
  Zn)
 Zn)
 (Ab (retS (Gq (G4 leD ltD (Zr (.int 0)) (dop ixD (vr 2) (Zr (.int 1))) (Ag Dr (Aa (dop ixD (vr 1) (Zr (.int (0)))) (Zr [])))) (dop (inD false) (dop ixD (vr 2) (Zr (.int 2))) (Ag (Ac (Gk k) fuel f52) (Aa (vr 0) (Aa (vr 1) (Aa (dop ixD (vr 2) (Zr (.int 1))) (Zr []))))))))
 Zn))))
theorem Xu (k:Nat):Bq f76 k=b76 k:=by kernel_rfl
noncomputable def b77 (k:Nat):SM :=
 (Ab (ifS (Km (Hw (Hr (Aa6 "tuple" (vr 0)))) (Hw (Aj (G4 leD leD (Zr (.int 2)) (Ag Dr (Aa (vr 0) (Zr []))) (Zr (.int 3))))))
 (Ab (retS (Zr (.bl false)))
  Zn)
 Zn)
 (Ab (ifS (Aj (dop eqD (dop ixD (vr 0) (Zr (.int 0))) (Zr (.str "do"))))
 (Ab (retS (Gq (dop eqD (Ag Dr (Aa (vr 0) (Zr []))) (Zr (.int 3))) (Gq (Ag (Ac (Gk k) fuel f27) (Aa (dop ixD (vr 0) (Zr (.int 1))) (Zr []))) (Ag (Ac (Gk k) fuel f78) (Aa (dop ixD (vr 0) (Zr (.int 2))) (Zr []))))))
  Zn)
 Zn)
 (Ab (ifS (Aj (dop eqD (dop ixD (vr 0) (Zr (.int 0))) (Zr (.str "lose"))))
 (Ab (retS (Gq (dop eqD (Ag Dr (Aa (vr 0) (Zr []))) (Zr (.int 3))) (Gq (Ag (Ac (Gk k) fuel f27) (Aa (dop ixD (vr 0) (Zr (.int 1))) (Zr []))) (Ag (Ac (Gk k) fuel f27) (Aa (dop ixD (vr 0) (Zr (.int 2))) (Zr []))))))
  Zn)
 Zn)
 (Ab (retS (Gq (dop eqD (dop ixD (vr 0) (Zr (.int 0))) (Zr (.str "fall"))) (Gq (dop eqD (Ag Dr (Aa (vr 0) (Zr []))) (Zr (.int 2))) (Ag (Ac (Gk k) fuel f27) (Aa (dop ixD (vr 0) (Zr (.int 1))) (Zr []))))))
 Zn))))
theorem Ace (k:Nat):Bq f77 k=b77 k:=by kernel_rfl
noncomputable def b78 (k:Nat):SM :=
 (Ab (ifS (Hr (Aa6 "tuple" (vr 0)))
 (Ab (retS (Ag sZ (Aa (Dk (Ec (vr 0)) [none,none] (Bb 1) (Zr true) (Ag (Ac (Gk k) fuel f27) (Aa (vr 1) (Zr [])))) (Zr []))))
  Zn)
 Zn)
 (Ab (retS (Ag (Ac (Gk k) fuel f27) (Aa (vr 0) (Zr []))))
 Zn))
theorem Acf (k:Nat):Bq f78 k=b78 k:=by kernel_rfl
noncomputable def b79 (k:Nat):SM :=
 (Ab (Bd (dop ixD (vr 0) (Zr (.int (2)))) (Bb 3))
 (Ab (Bd (Ag (Ac (Gk k) fuel f47) (Aa (vr 0) (Aa (vr 1) (Aa (vr 2) (Aa (dSl (Ag (Ac (Gk k) fuel f45) (Aa (vr 0) (Aa (vr 1) (Aa (vr 2) (Zr []))))) (some (Zr (.int 1))) none) (Zr [])))))) (Bb 4))
 (Ab (retS (Ag (Ac (Gk k) fuel f16) (Aa (vr 4) (Aa (Zr (.int (2))) (Aa (Bg (Aa (dop cH (dop ixD (vr 3) (Zr (.int 0))) (Zr (.int 1))) (Aa (dop ixD (vr 3) (Zr (.int 1))) (Zr [])))) (Zr []))))))
 Zn)))
theorem Acg (k:Nat):Bq f79 k=b79 k:=by kernel_rfl
noncomputable def b80 (k:Nat):SM :=
 (Ab (Bd (dop ixD (vr 0) (Zr (.int (2)))) (Bb 2))
 (Ab (Bd (Ag (Ac (Gk k) fuel f16) (Aa (vr 0) (Aa (Zr (.int (1))) (Aa (Ag (Ac (Gk k) fuel f16) (Aa (dop ixD (vr 0) (Zr (.int (1)))) (Aa (vr 1) (Aa (dop G6 (Bg (Aa (Bg (Zr [])) (Zr []))) (Ag Dr (Aa (dop ixD (vr 0) (Zr (.int (0)))) (Zr [])))) (Zr []))))) (Zr []))))) (Bb 3))
 (Ab (retS (Ag (Ac (Gk k) fuel f16) (Aa (Ag (Ac (Gk k) fuel f46) (Aa (vr 3) (Aa (vr 1) (Aa (Ag (Ac (Gk k) fuel f14) (Aa (Zr (.int (-1))) (Zr []))) (Zr []))))) (Aa (Zr (.int (2))) (Aa (Bg (Aa (dop ixD (vr 2) (Zr (.int 0))) (Aa (dop cH (dop ixD (vr 2) (Zr (.int 1))) (Zr (.int 1))) (Zr [])))) (Zr []))))))
 Zn)))
theorem Ach (k:Nat):Bq f80 k=b80 k:=by kernel_rfl
noncomputable def b82 (k:Nat):SM :=
 (Ab (ifS (Km (Hw (Hr (Ag (Ac (Gk k) fuel f76) (Aa (vr 0) (Aa (vr 1) (Aa (vr 2) (Zr []))))))) (Hw (Hr (Ag (Ac (Gk k) fuel f76) (Aa (vr 0) (Aa (vr 1) (Aa (vr 3) (Zr []))))))))
 (Ab (retS (Zr .non))
  Zn)
 Zn)
 (Ab (ifS (Km (Aj (dop eqD (Ag (Ac (Gk k) fuel f74) (Aa (vr 2) (Zr []))) (Ag (Ac (Gk k) fuel f74) (Aa (vr 3) (Zr []))))) (Aj (dop (inD false) (Jx (Zr (.int 1))) (Bg (Aa (Ag (Ac (Gk k) fuel f74) (Aa (vr 2) (Zr []))) (Aa (Ag (Ac (Gk k) fuel f74) (Aa (vr 3) (Zr []))) (Zr [])))))))
 (Ab (retS (Zr .non))
  Zn)
 Zn)
 (Ab (retS (Ag (Ac (Gk k) fuel f75) (Aa (vr 0) (Aa (Ag (Ac (Gk k) fuel f75) (Aa (vr 0) (Aa (vr 1) (Aa (vr 2) (Zr []))))) (Aa (vr 3) (Zr []))))))
 Zn)))
theorem Xv (k:Nat):Bq f82 k=b82 k:=by kernel_rfl
noncomputable def b84 (k:Nat):SM :=
 (Ab (Bd (lstM (Zr [])) (Bb 3))
 (Ab (Bd (lstM (Aa (Ag (Ac (Gk k) fuel f42) (Aa (vr 0) (Zr []))) (Zr []))) (Bb 4))
 (Ab (Ss (Aj (dop ltD (Ag Dr (Aa (vr 3) (Zr []))) (vr 2)))
 (Ab (Bd (Ag (Ac (Gk k) fuel f71) (Aa (vr 0) (Aa (dop ixD (vr 4) (Jx (Zr (.int 1)))) (Zr [])))) (Bb 5))
  (Ab (ifS (Aj (dop eqD (Ag Dr (Aa (vr 5) (Zr []))) (Zr (.int 0))))
  (Ab (fun loc mh=>some (.bk,loc,mh))
   Zn)
  Zn)
  (Ab (Bd (dop ixD (vr 5) (dop Cg (Ri (Gk (k+1)).cal (Gk (k+1)).clo 1 (Aa (Ag Uo (Aa (vr 5) (Zr []))) (Zr []))) (Ag Dr (Aa (vr 5) (Zr []))))) (Bb 6))
  (Ab (Ep (Cw "list" Ck (vr 3) (Aa (vr 6) (Zr []))))
  (Ab (Ep (Cw "list" Ck (vr 4) (Aa (Ag (Ac (Gk k) fuel f75) (Aa (vr 0) (Aa (dop ixD (vr 4) (Jx (Zr (.int 1)))) (Aa (vr 6) (Zr []))))) (Zr []))))
  Zn))))))
 (Ab (retS (Bg (Aa (vr 3) (Aa (vr 4) (Zr [])))))
 Zn))))
theorem Aci (k:Nat):Bq f84 k=b84 k:=by kernel_rfl
noncomputable def b85 (k:Nat):SM :=
 (Ab (Bd (lstM (Aa (Ag (Ac (Gk k) fuel f42) (Aa (vr 0) (Zr []))) (Zr []))) (Bb 2))
 (Ab (Hs (Jk (vr 1)) (Ow [3,4])
 (Ab (ifS (Hw (Hr (Ag (Ac (Gk k) fuel f76) (Aa (vr 0) (Aa (dop ixD (vr 2) (Jx (Zr (.int 1)))) (Aa (vr 4) (Zr [])))))))
  (Ab SM.bad
   Zn)
  Zn)
  (Ab (Ep (Cw "list" Ck (vr 2) (Aa (Ag (Ac (Gk k) fuel f75) (Aa (vr 0) (Aa (dop ixD (vr 2) (Jx (Zr (.int 1)))) (Aa (vr 4) (Zr []))))) (Zr []))))
  Zn)))
 (Ab (retS (vr 2))
 Zn)))
theorem Acj (k:Nat):Bq f85 k=b85 k:=by kernel_rfl
noncomputable def b87 (k:Nat):SM :=
 (Ab (ifS (Aj (dop ltD (vr 1) (Ag Dr (Aa (vr 0) (Zr [])))))
 (Ab (retS (dop ixD (vr 0) (vr 1)))
  Zn)
 Zn)
 (Ab (retS (Zr (.int 0)))
 Zn))
theorem Ack (k:Nat):Bq f87 k=b87 k:=by kernel_rfl
noncomputable def b88 (k:Nat):SM :=
 (Ab (Bd (dop uF (vr 0) (dop Cd (Zr (.int 1)) (dop G6 (Zr (.int 24)) (dop Cg (vr 1) (Zr (.int 120)))))) (Bb 2))
 (Ab (ifS (Hq (Aj (dop eqD (dop Cg (vr 0) (Zr (.int 2))) (Zr (.int 1)))) (Aj (dop gtD (vr 2) (Zr (.int 0)))))
 (Ab (retS (dop Cg (vr 2) (dop uE (Zr (.int 2)) (Zr (.int 24)))))
  Zn)
 Zn)
 (Ab (Bd (dop Cg (dop G6 (dop Cd (dop Cd (dop Cg (dop Du (vr 0) (Zr (.int 2))) (Zr (.int 2147483647))) (dop G6 (Zr (.int 7919)) (vr 1))) (Zr (.int 1))) (Zr (.int 48271))) (Zr (.int 2147483647))) (Bb 3))
 (Ab (Bd (dop Cg (dop G6 (vr 3) (dop Cd (dop Du (vr 3) (Zr (.int 1009))) (Zr (.int 69621)))) (Zr (.int 2147483647))) (Bb 3))
 (Ab (retS (dop Cg (dop G6 (vr 3) (dop Cd (dop Du (vr 3) (Zr (.int 2003))) (Zr (.int 40692)))) (Zr (.int 2147483399))))
 Zn)))))
theorem Acl (k:Nat):Bq f88 k=b88 k:=by kernel_rfl
noncomputable def b89 (k:Nat):SM :=
 (Ab (Bd (lstM (Aa (dop Cd (Zr (.int 1)) (dop Cg (vr 0) (Zr (.int 3)))) (Aa (dop Cg (dop Du (vr 0) (Zr (.int 3))) (Zr (.int 4))) (Zr [])))) (Bb 2))
 (Ab (Bd (lstM (Zr [])) (Bb 3))
 (Ab (Hs (Nr Jv (Aa (dop Cd (Zr (.int 1)) (dop Cg (dop Du (vr 0) (Zr (.int 12))) (Zr (.int 2)))) (Zr []))) (Bb 4)
 (Ab (Bd (dop ixD (lstM (Aa (Bg (Aa (Zr (.int 0)) (Aa (Zr (.int 1)) (Aa (Zr (.int 2)) (Zr []))))) (Aa (Bg (Aa (Zr (.int 1)) (Aa (Zr (.int 2)) (Aa (Zr (.int 0)) (Zr []))))) (Aa (Bg (Aa (Zr (.int 2)) (Aa (Zr (.int 0)) (Aa (Zr (.int 1)) (Zr []))))) (Zr []))))) (dop Cg (dop Du (vr 0) (dop Cd (Zr (.int 24)) (dop G6 (Zr (.int 48)) (vr 4)))) (Zr (.int 3)))) (Bb 5))
  (Ab (ifS (Aj (dop (inD true) (dop ixD (vr 2) (vr 4)) (Dk (Ec (vr 3)) [none,none] (Bb 1) (Zr true) (dop ixD (vr 1) (Zr (.int 0))))))
  (Ab (Ep (Cw "list" Ck (vr 3) (Aa (dop Cd (dop Cd (Bg (Aa (dop ixD (vr 2) (vr 4)) (Zr []))) (vr 5)) (Bg (Aa (dop Cg (dop Du (vr 0) (dop Cd (Zr (.int 144)) (dop G6 (Zr (.int 300)) (vr 4)))) (dop Cd (vr 1) (Zr (.int 1)))) (Zr [])))) (Zr []))))
   Zn)
  Zn)
  Zn)))
 (Ab (retS (Ag Gz (Aa (vr 3) (Zr []))))
 Zn))))
theorem Acm (k:Nat):Bq f89 k=b89 k:=by kernel_rfl
noncomputable def b90 (k:Nat):SM :=
 (Ab (Bd (dop ixD (lstM (Aa (Zr (.int 0)) (Aa (Zr (.int 1)) (Aa (Zr (.int 2)) (Aa (Jx (Zr (.int 1))) (Aa (Zr (.int 3)) (Aa (Jx (dop uE (Zr (.int 10)) (Zr (.int 30)))) (Aa (dop uE (Zr (.int 10)) (Zr (.int 30))) (Aa (Zr (.int 7)) (Zr [])))))))))) (dop Cg (vr 4) (Zr (.int 8)))) (Bb 5))
 (Ab (ifS (Aj (dop eqD (vr 0) (Zr (.int 0))))
 (Ab (retS (Bg (Aa (Zr (.str "put")) (Aa (vr 1) (Aa (vr 5) (Zr []))))))
  Zn)
 Zn)
 (Ab (ifS (Aj (dop eqD (vr 0) (Zr (.int 1))))
 (Ab (retS (Bg (Aa (Zr (.str "copy")) (Aa (vr 1) (Aa (vr 2) (Zr []))))))
  Zn)
 Zn)
 (Ab (ifS (Aj (dop eqD (vr 0) (Zr (.int 2))))
 (Ab (retS (Bg (Aa (Zr (.str "raise")) (Aa (vr 1) (Aa (vr 5) (Zr []))))))
  Zn)
 Zn)
 (Ab (ifS (Aj (dop eqD (vr 0) (Zr (.int 3))))
 (Ab (retS (Bg (Aa (Zr (.str "sum")) (Aa (vr 1) (Aa (vr 2) (Zr []))))))
  Zn)
 Zn)
 (Ab (ifS (Aj (dop eqD (vr 0) (Zr (.int 4))))
 (Ab (retS (Bg (Aa (Zr (.str "choose")) (Aa (vr 1) (Aa (dop Cd (Zr (.int 1)) (dop Cg (dop Du (vr 4) (Zr (.int 8))) (Zr (.int 3)))) (Zr []))))))
  Zn)
 Zn)
 (Ab (ifS (Aj (dop eqD (vr 0) (Zr (.int 5))))
 (Ab (retS (Bg (Aa (Zr (.str "less")) (Aa (vr 1) (Aa (vr 5) (Aa (vr 3) (Zr [])))))))
  Zn)
 Zn)
 (Ab (ifS (Aj (dop eqD (vr 0) (Zr (.int 6))))
 (Ab (retS (Bg (Aa (Zr (.str "before")) (Aa (vr 1) (Aa (vr 2) (Aa (vr 3) (Zr [])))))))
  Zn)
 Zn)
 (Ab (retS (Bg (Aa (Zr (.str "go")) (Aa (vr 3) (Zr [])))))
 Zn)))))))))
theorem Acn (k:Nat):Bq f90 k=b90 k:=by kernel_rfl
noncomputable def b91 (k:Nat):SM :=
 (Ab (Bd (dop Cg (vr 4) (Ag Dr (Aa (vr 5) (Zr [])))) (Bb 6))
 (Ab (ifS (Km (Aj (dop eqD (vr 0) (Zr (.int 8)))) (Hq (Aj (dop eqD (vr 0) (Zr (.int 9)))) (Aj (dop neD (dop ixD (vr 5) (vr 6)) (Zr (.int 1))))))
 (Ab (retS (Bg (Aa (Zr (.str "me")) (Aa (vr 1) (Zr [])))))
  Zn)
 Zn)
 (Ab (ifS (Aj (dop eqD (vr 0) (Zr (.int 9))))
 (Ab (retS (Bg (Aa (Zr (.str "only")) (Aa (vr 1) (Aa (vr 6) (Zr []))))))
  Zn)
 Zn)
 (Ab (ifS (Aj (dop eqD (vr 0) (Zr (.int 10))))
 (Ab (retS (Bg (Aa (Zr (.str "pick")) (Aa (vr 1) (Aa (vr 6) (Zr []))))))
  Zn)
 Zn)
 (Ab (ifS (Aj (dop eqD (vr 0) (Zr (.int 11))))
 (Ab (retS (Bg (Aa (Zr (.str "alike")) (Aa (vr 1) (Aa (vr 2) (Aa (vr 3) (Zr [])))))))
  Zn)
 Zn)
 (Ab (ifS (Aj (dop eqD (vr 0) (Zr (.int 12))))
 (Ab (retS (Bg (Aa (Zr (.str "all")) (Aa (dop Cg (vr 1) (Zr (.int 2))) (Aa (vr 6) (Zr []))))))
  Zn)
 Zn)
 (Ab (ifS (Aj (dop eqD (vr 0) (Zr (.int 13))))
 (Ab (retS (Bg (Aa (Zr (.str "empty")) (Aa (dop Cg (vr 1) (Zr (.int 2))) (Zr [])))))
  Zn)
 Zn)
 (Ab (ifS (Aj (dop eqD (vr 0) (Zr (.int 14))))
 (Ab (retS (Bg (Aa (Zr (.str "join")) (Aa (dop Cg (vr 1) (Zr (.int 2))) (Aa (vr 2) (Zr []))))))
  Zn)
 Zn)
 (Ab (ifS (Aj (dop eqD (vr 0) (Zr (.int 15))))
 (Ab (retS (Bg (Aa (Zr (.str "out")) (Aa (vr 2) (Aa (dop Cg (vr 1) (Zr (.int 2))) (Aa (vr 3) (Zr [])))))))
  Zn)
 Zn)
 (Ab (retS (Bg (Aa (Zr (.str "many")) (Aa (dop Cg (vr 1) (Zr (.int 2))) (Aa (dop Cg (dop Du (vr 4) (Zr (.int 8))) (Zr (.int 4))) (Aa (vr 3) (Zr [])))))))
 Zn))))))))))
theorem Aco (k:Nat):Bq f91 k=b91 k:=by kernel_rfl
noncomputable def b92 (k:Nat):SM :=
 (Ab (Bd (dop Cg (vr 0) (Zr (.int 28))) (Bb 4))
 (Ab (Bd (dop Cg (dop Du (vr 0) (Zr (.int 28))) (Zr (.int 3))) (Bb 5))
 (Ab (Bd (dop Cg (dop Du (vr 0) (Zr (.int 84))) (Zr (.int 3))) (Bb 6))
 (Ab (Bd (dop Cg (dop Du (vr 0) (Zr (.int 252))) (dop Cd (vr 2) (Zr (.int 1)))) (Bb 7))
 (Ab (ifS (Aj (dop ltD (vr 4) (Zr (.int 8))))
 (Ab (retS (Ag (Ac (Gk k) fuel f90) (Aa (vr 4) (Aa (vr 5) (Aa (vr 6) (Aa (vr 7) (Aa (vr 1) (Zr []))))))))
  Zn)
 Zn)
 (Ab (ifS (Aj (dop ltD (vr 4) (Zr (.int 17))))
 (Ab (retS (Ag (Ac (Gk k) fuel f91) (Aa (vr 4) (Aa (vr 5) (Aa (vr 6) (Aa (vr 7) (Aa (vr 1) (Aa (vr 3) (Zr [])))))))))
  Zn)
 Zn)
 (Ab (ifS (Aj (dop ltD (vr 4) (Zr (.int 22))))
 (Ab (retS (Bg (Aa (Zr (.str "send")) (Aa (vr 5) (Aa (dop Cd (Zr (.int 1)) (dop Cg (vr 1) (Zr (.int 3)))) (Aa (vr 6) (Aa (dop Cg (dop Du (vr 1) (Zr (.int 4))) (Zr (.int 3))) (Zr []))))))))
  Zn)
 Zn)
 (Ab (ifS (Aj (dop ltD (vr 4) (Zr (.int 27))))
 (Ab (retS (Bg (Aa (Zr (.str "take")) (Aa (dop ixD (lstM (Aa (Jx (Zr (.int 1))) (Aa (Jx (Zr (.int 1))) (Aa (Zr (.int 0)) (Aa (Zr (.int 1)) (Aa (Zr (.int 2)) (Zr []))))))) (dop Cg (dop Du (vr 1) (Zr (.int 1200))) (Zr (.int 5)))) (Aa (Ag (Ac (Gk k) fuel f89) (Aa (vr 1) (Aa (vr 2) (Zr [])))) (Zr []))))))
  Zn)
 Zn)
 (Ab (retS (Bg (Aa (Zr (.str "bell")) (Zr []))))
 Zn)))))))))
theorem Acp (k:Nat):Bq f92 k=b92 k:=by kernel_rfl
noncomputable def b93 (k:Nat):SM :=
 (Ab (Bd (lstM (Zr [])) (Bb 3))
 (Ab (Hs (Nr Jv (Aa (vr 1) (Zr []))) (Bb 4)
 (Ab (Ep (Cw "list" Ck (vr 3) (Aa (Ag (Ac (Gk k) fuel f92) (Aa (Ag (Ac (Gk k) fuel f88) (Aa (vr 0) (Aa (dop G6 (Zr (.int 2)) (vr 4)) (Zr [])))) (Aa (Ag (Ac (Gk k) fuel f88) (Aa (vr 0) (Aa (dop Cd (dop G6 (Zr (.int 2)) (vr 4)) (Zr (.int 1))) (Zr [])))) (Aa (vr 1) (Aa (vr 2) (Zr [])))))) (Zr []))))
  Zn))
 (Ab (retS (Ag Gz (Aa (vr 3) (Zr []))))
 Zn)))
theorem Acq (k:Nat):Bq f93 k=b93 k:=by kernel_rfl
noncomputable def b94 (k:Nat):SM :=
 (Ab (Bd (Ag (Ac (Gk k) fuel f87) (Aa (vr 0) (Aa (Zr (.int 0)) (Zr [])))) (Bb 1))
 (Ab (Bd (lstM (Aa (Bg (Aa (Zr (.int 1)) (Aa (Bg (Aa (Zr (.int 0)) (Zr []))) (Zr [])))) (Aa (Bg (Aa (Zr (.int 1)) (Aa (Bg (Aa (Zr (.int 0)) (Aa (Zr (.int 0)) (Zr [])))) (Zr [])))) (Aa (Bg (Aa (Zr (.int 2)) (Aa (Bg (Aa (Zr (.int 0)) (Aa (Zr (.int 1)) (Zr [])))) (Zr [])))) (Aa (Bg (Aa (Zr (.int 2)) (Aa (Bg (Aa (Zr (.int 0)) (Aa (Zr (.int 0)) (Aa (Zr (.int 1)) (Zr []))))) (Zr [])))) (Aa (Bg (Aa (Zr (.int 3)) (Aa (Bg (Aa (Zr (.int 0)) (Aa (Zr (.int 1)) (Aa (Zr (.int 2)) (Zr []))))) (Zr [])))) (Aa (Bg (Aa (Zr (.int 2)) (Aa (Bg (Aa (Zr (.int 1)) (Aa (Zr (.int 1)) (Zr [])))) (Zr [])))) (Aa (Bg (Aa (Zr (.int 1)) (Aa (Bg (Aa (Zr (.int 0)) (Aa (Zr (.int 0)) (Aa (Zr (.int 0)) (Zr []))))) (Zr [])))) (Zr []))))))))) (Bb 2))
 (Ab (Bd (dop ixD (dop Cd (vr 2) (lstM (Aa (Bg (Aa (Zr (.int 2)) (Aa (Bg (Aa (Zr (.int 0)) (Aa (Zr (.int 0)) (Aa (Zr (.int 1)) (Aa (Zr (.int 1)) (Zr [])))))) (Zr [])))) (Aa (Bg (Aa (Zr (.int 4)) (Aa (Bg (Aa (Zr (.int 0)) (Aa (Zr (.int 1)) (Aa (Zr (.int 2)) (Aa (Zr (.int 3)) (Zr [])))))) (Zr [])))) (Zr []))))) (dop Cg (Ag (Ac (Gk k) fuel f88) (Aa (vr 1) (Aa (Zr (.int 0)) (Zr [])))) (Zr (.int 9)))) (Ow [3,4]))
 (Ab (Bd (Dk (Nr Jv (Aa (vr 3) (Zr []))) [none,none,some 4] (Bb 1) (Zr true) (Ag Dr (Aa (Dk (Ec (vr 2)) [none,none,some 1] (Bb 1) (Aj (dop eqD (vr 1) (vr 2))) (vr 1)) (Zr [])))) (Bb 6))
 (Ab (Bd (dop ixD (lstM (Aa (Bg (Aa (Zr (.int 0)) (Aa (Zr (.int 0)) (Zr [])))) (Aa (Bg (Aa (Zr (.int 0)) (Aa (Zr (.int 0)) (Zr [])))) (Aa (Bg (Aa (Zr (.int 1)) (Aa (Zr (.int 0)) (Zr [])))) (Aa (Bg (Aa (Zr (.int 0)) (Aa (Zr (.int 1)) (Zr [])))) (Aa (Bg (Aa (Zr (.int 2)) (Aa (Zr (.int 2)) (Zr [])))) (Zr []))))))) (dop Cg (Ag (Ac (Gk k) fuel f88) (Aa (vr 1) (Aa (Zr (.int 1)) (Zr [])))) (Zr (.int 5)))) (Bb 7))
 (Ab (Bd (dop ixD (lstM (Aa (Zr (.int 1)) (Aa (Zr (.int 1)) (Aa (Zr (.int 2)) (Zr []))))) (dop Cg (Ag (Ac (Gk k) fuel f88) (Aa (vr 1) (Aa (Zr (.int 2)) (Zr [])))) (Zr (.int 3)))) (Bb 8))
 (Ab (Bd (lstM (Zr [])) (Bb 9))
 (Ab (Hs (Nr Jv (Aa (vr 3) (Zr []))) (Bb 5)
 (Ab (Bd (dop Cg (Ag (Ac (Gk k) fuel f88) (Aa (vr 1) (Aa (dop Cd (Zr (.int 3)) (vr 5)) (Zr [])))) (Zr (.int 5))) (Bb 10))
  (Ab (Ep (Cw "list" Ck (vr 9) (Aa (Ag (Ac (Gk k) fuel f93) (Aa (Ag (Ac (Gk k) fuel f87) (Aa (vr 0) (Aa (dop Cd (Zr (.int 1)) (vr 5)) (Zr [])))) (Aa (vr 10) (Aa (vr 6) (Zr []))))) (Zr []))))
  Zn)))
 (Ab (retS (Bg (Aa (vr 8) (Aa (vr 7) (Aa (Ag Gz (Aa (vr 9) (Zr []))) (Aa (vr 4) (Zr [])))))))
 Zn)))))))))
theorem Acr (k:Nat):Bq f94 k=b94 k:=by kernel_rfl
noncomputable def b95 (k:Nat):SM :=
 (Ab (ifS (Km (Aj (dop ltD (Ag (Ac (Gk k) fuel f74) (Aa (vr 2) (Zr []))) (Zr (.int 0)))) (Km (Aj (dop ltD (Ag (Ac (Gk k) fuel f74) (Aa (vr 3) (Zr []))) (Zr (.int 0)))) (Aj (dop eqD (Ag (Ac (Gk k) fuel f74) (Aa (vr 2) (Zr []))) (Ag (Ac (Gk k) fuel f74) (Aa (vr 3) (Zr [])))))))
 (Ab (retS (Zr (.bl false)))
  Zn)
 Zn)
 (Ab (retS (dop (inD false) (vr 3) (Ag (Ac (Gk k) fuel f71) (Aa (vr 0) (Aa (vr 1) (Zr []))))))
 Zn))
theorem Xw (k:Nat):Bq f95 k=b95 k:=by kernel_rfl
noncomputable def Acs (k:Nat):SM :=
 (Ab (Ab (Bd (Ag (Ac (Gk k) fuel f94) (Aa (vr 0) (Zr []))) (Bb 1))
 (Ab (Bd (dop Cd (Dk (Ec (dSl (vr 0) (some (Zr (.int 5))) (some (Zr (.int 29))))) [none,none] (Bb 1) (Zr true) (dop Cg (vr 1) (Zr (.int 1000)))) (lstM (Aa (dop Cg (Ag (Ac (Gk k) fuel f87) (Aa (vr 0) (Aa (Zr (.int 0)) (Zr [])))) (Zr (.int 7))) (Zr [])))) (Bb 10))
 (Ab (Bd (lstM (Zr [])) (Bb 9))
 Zn)))
 (Ab (cA "law" mk0)
 (Ab (Bd (Ag (Ac (Gk k) fuel f84) (Aa (vr 1) (Aa (vr 2) (Aa (Zr (.int 24)) (Zr []))))) (Ow [3,4]))
 (Ab (Bd (dop ixD (vr 4) (Jx (Zr (.int 1)))) (Bb 5))
 (Ab (Hs (Nr Jv (Aa (dop cH (Ag Dr (Aa (vr 3) (Zr []))) (Zr (.int 1))) (Zr []))) (Bb 6)
 (Ab (Bd (Ag (Ac (Gk k) fuel f82) (Aa (vr 1) (Aa (dop ixD (vr 4) (vr 6)) (Aa (dop ixD (vr 3) (vr 6)) (Aa (dop ixD (vr 3) (dop Cd (vr 6) (Zr (.int 1)))) (Zr [])))))) (Bb 7))
  (Ab (ifS (Hr (Ag (Ac (Gk k) fuel f95) (Aa (vr 1) (Aa (dop ixD (vr 4) (vr 6)) (Aa (dop ixD (vr 3) (vr 6)) (Aa (dop ixD (vr 3) (dop Cd (vr 6) (Zr (.int 1)))) (Zr [])))))))
  (Ab (Bd (dop Cd (dop Cd (dSl (vr 3) none (some (vr 6))) (lstM (Aa (dop ixD (vr 3) (dop Cd (vr 6) (Zr (.int 1)))) (Aa (dop ixD (vr 3) (vr 6)) (Zr []))))) (dSl (vr 3) (some (dop Cd (vr 6) (Zr (.int 2)))) none)) (Bb 8))
   (Ab (ifS (Aj (dop neD (vr 7) (dop ixD (vr 4) (dop Cd (vr 6) (Zr (.int 2))))))
   (Ab (retS (Zr (.bl false)))
    Zn)
   Zn)
   (Ab (Bd (Ag (Ac (Gk k) fuel f85) (Aa (vr 1) (Aa (vr 8) (Zr [])))) (Bb 4))
   (Ab (Bd (vr 8) (Bb 3))
   (Ab (ifS (Aj (dop neD (dop ixD (vr 4) (Jx (Zr (.int 1)))) (vr 5)))
   (Ab (retS (Zr (.bl false)))
    Zn)
   Zn)
   Zn)))))
  (Ab (ifS (Aj (dop (isD true) (vr 7) (Zr .non)))
   (Ab (retS (Zr (.bl false)))
    Zn)
   Zn)
   Zn))
  Zn)))
 (Ab (retS (dop eqD (dop ixD (Ag (Ac (Gk k) fuel f85) (Aa (vr 1) (Aa (vr 3) (Zr [])))) (Jx (Zr (.int 1)))) (vr 5)))
 Zn))))))
theorem uY (k:Nat):Zf (Gk (k+1)) fuel "law" f96 mk0=Acs k:=by kernel_rfl
noncomputable def Acu (k:Nat):SM :=
 (Ab (Ep (Cw "list" Ck (vr 2) (Aa (Ag Dr (Aa (vr 0) (Zr []))) (Zr []))))
 (Ab (retS (dop ixD (vr 1) (dop Cg (dop cH (Ag Dr (Aa (vr 2) (Zr []))) (Zr (.int 1))) (Ag Dr (Aa (vr 1) (Zr []))))))
 Zn))
theorem uZ (k:Nat):iSs (Gk (k+1)) fuel { N:=mk0.ci.N++mk0.ci.fr,scope:=mk0.ci.scope,own:=fun y=>!(mk0.ci.fr.contains y) } mk0.ci.body=Acu k:=by kernel_rfl
local macro_rules | `(tactic| walk_at "s") => `(tactic| with_reducible first | refine Ak ?_ | refine Dg ?_ | refine Hf ?_ | refine uW ?_ | refine Bl ?_ | refine Ax ?_ | refine Af ?_ | refine uV ?_ | refine Ao (by with_unfolding_all rfl) ?_ | refine Ad ?_ | refine Az ?_ | refine Aw ?_ | refine Br ?_ | refine lK ?_ | refine Tf ?_ | refine lM ?_ | refine Abe ?_ | refine Xn ?_ | refine Ae7 ?_ | refine lY ?_ | refine Ar ?_ | refine G8 ?_ | refine G9 ?_ | refine Tg ?_ | refine Ej ?_ | refine uR ?_ | refine lN ?_ | refine Vl ?_ | refine Zz ?_ | refine Ae6 ?_ | refine lO ?_ | refine lQ ?_ | refine Pq ?_ | refine uU ?_ | refine lR ?_ | refine Bf ?_ | refine Ae8 ?_ | refine Abk ?_ | refine lZ ?_ | refine Dv ?_ | refine Oa (by with_unfolding_all rfl) ?_ | refine Tp (by with_unfolding_all rfl) ?_ | refine Abl ?_ | refine Abg ?_ | refine lV ?_ | refine Cm ?_ | refine Bp ?_ | refine lW ?_ | refine Abm (by with_unfolding_all rfl) (by with_unfolding_all rfl) ?_)
local macro_rules | `(tactic| walk_at "r") => `(tactic| repeat walk_at "s")
theorem Fb {ds:List D}{q:Prop}(h:ds.length<=1000000) (hq:q):ds.length<=1000000/\q:=⟨h,hq⟩
theorem Tw {h:MH}{j:Nat}{o:MO}(e:h[j]?=some o):j < h.length:=(List.getElem?_eq_some_iff.mp e).1
theorem Afd (i:Int) {j:Int}(h:0 < j):0<=i.fmod j:=Int.fmod_nonneg_of_pos i h
theorem Afe (i:Int) {j:Int}(h:0 < j):i.fmod j < j:=Int.fmod_lt_of_pos i h
theorem Bt (i:Int) (n:Nat) (h:0 < n):∃ r:Nat,r < n/\i.fmod (n:Int)=(r:Int):=by
 have l1:=Afd i (j:=(n:Int)) (by omega);have l2:=Afe i (j:=(n:Int)) (by omega);exact ⟨(i.fmod n).toNat,by omega,by omega⟩
theorem Tz (h:MH) (ds:List D):Dq (.ref h.length) (h++[.lst ds])=some ds:=by
 show (match (h++[MO.lst ds])[h.length]? with | some (.lst o)=>some o | _=>none)=_;rw [Av]
theorem Ek {h:MH}{j:Nat}{ds:List D}(e:h[j]?=some (.lst ds)):Dq (.ref j) h=some ds:=by
 show (match h[j]? with | some (.lst o)=>some o | _=>none)=_;rw [e]
theorem Dl (n:Nat):Ce 0 n=(List.range n).map Ae:=List.map_congr_left fun x _=>by show D.int (0+(x:Int))=D.int (x:Int);rw [Int.zero_add]
theorem Fw {n:Nat}{ds:List D}{j:Nat}{mh:MH}{P:D->MH->Prop}(e1:mh[n]?=some (.lst ds)) (hj:j < ds.length) (h:∀ d∈ds,P d mh):wV (ixD (.ref n) (.int j) mh) P:=Cu e1 (List.getElem?_eq_getElem hj) (h _ (List.getElem_mem hj))
noncomputable def IsI (h:MH) (j:Nat) (ns:List Int):Prop:=h[j]?=some (.lst (ns.map D.int))
theorem IsI.ext {h h':MH}{j:Nat}{ns:List Int}(g:IsI h j ns) (x:Ext [] h h'):IsI h' j ns:=x.old _ _ (by simp) g
theorem Acv {n:Nat}{ns:List Int}{j:Nat}{mh:MH}{P:D->MH->Prop}(g:IsI mh n ns) (hj:j < ns.length) (h:P (.int ns[j]) mh):wV (ixD (.ref n) (.int j) mh) P:=Cu g (by rw [List.getElem?_map,List.getElem?_eq_getElem hj];rfl) h
theorem Acw {r:Option (D×MH)}{h:MH}{x:D}(w:wV r fun a h'=>a=x/\h'=h):r=some (x,h):=by
 obtain ⟨a,h',e,rfl,rfl⟩:=w;exact e
theorem Fx {α:Type}{mi:DM Src}{cs:List (Option Nat)}{g:GM}{tc:DM Bool}{e:DM D}{loc:DL.Loc}{mh:MH}{Q:D->MH->Prop}(xs:List α) (F:α->D) (pr:α->Bool) (f:α->D) (hz:xs.length<=1000000)
  (hm:wD mi loc mh fun src h0=>Ext [] mh h0/\∀ h,Ext [] h0 h->src.ok h=true/\src.items h=xs.map F)
  (step:∀ x h {R:D->MH->Prop},x∈xs->Ext [] mh h->(∀ h',Ext [] h h'->R (f x) h')->wG (g (F x) (Qm cs loc) h) fun l1 h1=>h1=h/\wD tc l1 h fun c h2=>c=pr x/\h2=h/\(pr x=true->wD e l1 h R))
  (fin:∀ h,Ext [] mh h->Q (.ref h.length) (h++[.lst ((xs.filter pr).map f)])):wD (Dk mi cs g tc e) loc mh Q:=by
 refine Z0 (Bk hm ?_);rintro src h0 ⟨x0,keep⟩;refine ⟨xs.map F,fun i acc h=>acc=((xs.take i).filter pr).map f/\i<=xs.length/\Ext [] h0 h,by rw [List.length_map];exact hz,⟨rfl,Nat.zero_le _,Ext.refl⟩,fun i acc h q=>keep h q.2.2,?_,?_,?_⟩
 ·rintro i acc h ⟨rfl,hi,_⟩;rw [List.length_map];refine Nat.le_trans (List.length_filter_le _ _) ?_;rw [List.length_take];omega
 ·rintro i d acc h ed ⟨rfl,hi,x⟩;rw [List.getElem?_map] at ed;cases ex:xs[i]? with
  | none=>rw [ex] at ed;cases ed
  | some y =>
   rw [ex] at ed;cases ed;have hl:=(List.getElem?_eq_some_iff.mp ex).1;have et:xs.take (i+1)=xs.take i++[y]:=by rw [List.take_add_one,ex];rfl
   obtain ⟨l1,h1,e1,rfl,c,h2,e2,rfl,rfl,q⟩:=step y h (R:=fun z h3=>((xs.take i).filter pr).map f++[z]=((xs.take (i+1)).filter pr).map f/\i+1<=xs.length/\Ext [] h0 h3\/pr y=false) (List.mem_of_getElem? ex) (x0.trans x) fun h' x'=>by
    cases hp:pr y with
    | false=>exact .inr rfl
    | true=>exact .inl ⟨by rw [et,List.filter_append,List.map_append];simp [hp],hl,x.trans x'⟩
   refine ⟨l1,_,e1,_,_,e2,fun hp=>?_,fun hp=>⟨?_,hl,x⟩⟩
   ·refine Bk (q hp) ?_;rintro z h3 (w | w)
    ·exact w
    ·rw [hp] at w;cases w
   ·rw [et,List.filter_append,List.map_append];simp [hp]
 ·rintro acc h ⟨rfl,hi,x⟩;rw [List.length_map,List.take_length];exact fin h (x0.trans x)
theorem Gs {α:Type}{mi:DM Src}{cs:List (Option Nat)}{g:GM}{e:DM D}{loc:DL.Loc}{mh:MH}{Q:D->MH->Prop}(xs:List α) (F:α->D) (f:α->D) (hz:xs.length<=1000000)
  (hm:wD mi loc mh fun src h0=>Ext [] mh h0/\∀ h,Ext [] h0 h->src.ok h=true/\src.items h=xs.map F)
  (step:∀ x h {R:D->MH->Prop},x∈xs->Ext [] mh h->(∀ h',Ext [] h h'->R (f x) h')->wG (g (F x) (Qm cs loc) h) fun l1 h1=>h1=h/\wD e l1 h R)
  (fin:∀ h,Ext [] mh h->Q (.ref h.length) (h++[.lst (xs.map f)])):wD (Dk mi cs g (Zr true) e) loc mh Q:=by
 refine Fx xs F (fun _=>true) f hz hm (fun x h R hx ex hR=>?_) fun h ex=>?_
 ·obtain ⟨l1,h1,e1,rfl,q⟩:=step x h hx ex hR;exact ⟨l1,_,e1,rfl,Ad ⟨rfl,rfl,fun _=>q⟩⟩
 ·have:=fin h ex;rw [List.filter_eq_self.mpr (fun _ _=>rfl)];exact this
theorem K6 {ds:List D}{α:Type}{xs:List α}{F:α->D}{mh:MH}(e:ds=xs.map F):Ext [] mh mh/\∀ h,Ext [] mh h->(Src.seq ds).ok h=true/\(Src.seq ds).items h=xs.map F:=⟨Ext.refl,fun _ _=>⟨rfl,e⟩⟩
theorem T3 {n:Nat}{α:Type}{xs:List α}{F:α->D}{mh:MH}(e:mh[n]?=some (.lst (xs.map F))):∀ h,Ext [] mh h->(Src.lref n).ok h=true/\(Src.lref n).items h=xs.map F:=fun h x=>Fd (x.old _ _ (by simp) e)
theorem Ew {a:D}{r:List D}{mh:MH}{P:D->MH->Prop}(h:P a mh):wV (ixD (.tup (a::r)) (.int 0) mh) P:=Cr (j:=0) rfl h
theorem Gn {a b:D}{r:List D}{mh:MH}{P:D->MH->Prop}(h:P b mh):wV (ixD (.tup (a::b::r)) (.int 1) mh) P:=Cr (j:=1) rfl h
theorem Dw {a b c:D}{r:List D}{mh:MH}{P:D->MH->Prop}(h:P c mh):wV (ixD (.tup (a::b::c::r)) (.int 2) mh) P:=Cr (j:=2) rfl h
theorem Ii {a b c d:D}{r:List D}{mh:MH}{P:D->MH->Prop}(h:P d mh):wV (ixD (.tup (a::b::c::d::r)) (.int 3) mh) P:=Cr (j:=3) rfl h
theorem J1 {a b c d e:D}{r:List D}{mh:MH}{P:D->MH->Prop}(h:P e mh):wV (ixD (.tup (a::b::c::d::e::r)) (.int 4) mh) P:=Cr (j:=4) rfl h
structure Pg where
 room:Nat
 l0:Nat
 l1:Nat
 roles:List (List D)
 plays:List Nat
noncomputable def Pg.d (p:Pg):D:=.tup [.int p.room,.tup [.int p.l0,.int p.l1],.tup (p.roles.map D.tup),.tup (p.plays.map Ae)]
noncomputable def Pg.H (p:Pg):Nat:=p.plays.length
noncomputable def Pg.len (p:Pg) (r:Nat):Nat:=((p.roles[r]?).getD []).length
structure Pg.ok (p:Pg):Prop where
 h1:1<=p.plays.length
 h6:p.plays.length<=6
 pl:∀ r∈p.plays,r < p.roles.length
 rm:p.room<=10
local macro_rules | `(tactic| walk_at "x4") => `(tactic| repeat (first | walk_at "s" | with_reducible refine Fb (by simp) ?_ | with_reducible refine Ew ?_ | with_reducible refine Gn ?_ | with_reducible refine Dw ?_ | with_reducible refine Ii ?_ | with_reducible refine J1 ?_))
section
variable {mh:MH}{n:Nat}{d:D}{P:D->MH->Prop}
theorem vA (k:Nat) (p:Pg) (r:Nat) (hr:r < p.roles.length) (h:P (.int (p.len r)) mh):wV (Ac (Gk (k+1)) fuel f36 [p.d,.int r] mh) P:=by
 refine Al (Abr k) mH.1 mH.2 rfl ?_;show wS (b36 k) [some p.d,some (.int r)] mh _;unfold b36 Pg.d
 walk_at "x4"
 refine Cr (j:=r) (d:=.tup p.roles[r]) (by rw [List.getElem?_map,List.getElem?_eq_getElem hr];rfl) ?_
 walk_at "x4"
 refine Bs (ds:=p.roles[r]) (by intro z z';cases z') rfl ?_;have e:p.len r=p.roles[r].length:=by unfold Pg.len;rw [List.getElem?_eq_getElem hr];rfl
 rw [e] at h;exact h
end
theorem vB {ds:List D}{i:Nat}(hi:i < ds.length) {mh:MH}{P:D->MH->Prop}(h:P (.tup (ds.take i)) mh):wV (slD (.tup ds) none (some (i:Int)) mh) P:=by
 refine ⟨_,_,?_,h⟩;have e2:HT.sIx ds.length ds.length (some (i:Int))=i:=by rw [HT.sIx_nat];omega
 show (if HT.sIx ds.length 0 none=0/\HT.sIx ds.length ds.length (some (i:Int))=ds.length then some (D.tup ds,mh) else some (D.tup (DL.cutD ds none (some (i:Int))),mh))=_;rw [e2,if_neg (by omega)];unfold DL.cutD;rw [e2];simp [HT.sIx_none]
theorem T4 {ds:List D}{i:Nat}(hi:i<=ds.length) {mh:MH}{P:D->MH->Prop}(h:P (.tup (ds.drop i)) mh):wV (slD (.tup ds) (some (i:Int)) none mh) P:=by
 have e1:HT.sIx ds.length 0 (some (i:Int))=i:=by rw [HT.sIx_nat];omega
 have e2:HT.sIx ds.length ds.length none=ds.length:=rfl
 by_cases h0:i=0
 ·subst h0;refine ⟨.tup ds,mh,?_,by simpa using h⟩;show (if HT.sIx ds.length 0 (some ((0:Nat):Int))=0/\HT.sIx ds.length ds.length none=ds.length then some (D.tup ds,mh) else _)=_;rw [e1,e2,if_pos ⟨rfl,rfl⟩]
 ·refine ⟨_,_,?_,h⟩;show (if HT.sIx ds.length 0 (some (i:Int))=0/\HT.sIx ds.length ds.length none=ds.length then some (D.tup ds,mh) else some (D.tup (DL.cutD ds (some (i:Int)) none),mh))=_;rw [e1,e2,if_neg (by omega)];unfold DL.cutD;rw [e1,e2,List.take_of_length_le (by rw [List.length_drop];omega)]
theorem Dy (k:Nat) {ds:List D}{i:Nat}{x:D}(hi:i < ds.length) (hz:ds.length<=1000) {mh:MH}{P:D->MH->Prop}(h:P (.tup (ds.set i x)) mh):wV (Ac (Gk (k+1)) fuel f16 [.tup ds,.int i,x] mh) P:=by
 refine Al (Abp k) mF.1 mF.2 rfl ?_;show wS (b16 k) [some (.tup ds),some (.int i),some x] mh _;unfold b16
 walk_at "x4"
 refine vB hi ?_
 walk_at "x4"
 refine K3 (by rw [List.length_take,List.length_singleton];omega) ?_
 walk_at "x4"
 rw [show (i:Int)+1=((i+1:Nat):Int) by omega];refine T4 (by omega) ?_;refine K3 (by rw [List.length_append,List.length_take,List.length_singleton,List.length_drop];omega) ?_;rw [List.set_eq_take_append_cons_drop,if_pos hi] at h
 walk_at "x4"
 rw [List.append_assoc];exact h
structure Pt where
 pl:Int
 n0:Int
 n1:Int
 n2:Int
 m0:Int
 m1:Int
 m2:Int
 s0:Nat
 s1:Nat
 bell:Bool
noncomputable abbrev Lt:=Int×Int×Int
noncomputable def Pt.d (p:Pt):D:=.tup [.int p.pl,.tup [.int p.n0,.int p.n1,.int p.n2],.tup [.int p.m0,.int p.m1,.int p.m2],.tup [.int p.s0,.int p.s1],.bl p.bell]
noncomputable def ltD (l:Lt):D:=.tup [.int l.1,.int l.2.1,.int l.2.2]
noncomputable def lsD (l:List Lt):D:=.tup (l.map ltD)
noncomputable def Qu (w:List (List Lt)):D:=.tup (w.map lsD)
structure Wd where
 ps:List Pt
 rs:List (List (List Lt))
 x:Nat
 y:Nat
noncomputable def Wd.d (w:Wd):D:=.tup [.tup (w.ps.map Pt.d),.tup (w.rs.map Qu),.tup [.int w.x,.int w.y]]
structure Pt.ok (H L:Nat) (p:Pt):Prop where
 pl1:-1<=p.pl
 pl2:p.pl<=L
 a0:-1<=p.m0/\p.m0<=(H:Int) - 1
 a1:-1<=p.m1/\p.m1<=(H:Int) - 1
 a2:-1<=p.m2/\p.m2<=(H:Int) - 1
 b0:p.s0 < 2 ^ H
 b1:p.s1 < 2 ^ H
noncomputable def Agj (H:Nat) (l:Lt):Prop:=(1<=l.1/\l.1<=12)/\-1<=l.2.2/\l.2.2<=(H:Int) - 1
noncomputable def oO (p:Pg) (l:List Lt):Prop:=l.length<=p.room/\∀ z∈l,Agj p.H z
noncomputable def wY (p:Pg) (w:List (List Lt)):Prop:=w.length=p.H/\∀ l∈w,oO p l
structure Wd.ok (p:Pg) (w:Wd):Prop where
 lp:w.ps.length=p.plays.length
 ps:∀ (i r:Nat) (q:Pt),p.plays[i]?=some r->w.ps[i]?=some q->q.ok p.H (p.len r)
 lr:w.rs.length=p.plays.length
 rs:∀ v∈w.rs,wY p v
 xx:w.x<=p.l0
 yy:w.y<=p.l1
noncomputable def p0:Pt:=⟨0,0,0,0,0,0,0,0,0,false⟩
noncomputable def Wd.pt (w:Wd) (h:Nat):Pt:=(w.ps[h]?).getD p0
noncomputable def Wd.cell (w:Wd) (s t:Nat):List Lt:=(((w.rs[t]?).getD [])[s]?).getD []
theorem Wd.pt_at {w:Wd}{h:Nat}(hh:h < w.ps.length):w.ps[h]?=some (w.pt h):=by unfold Wd.pt;rw [List.getElem?_eq_getElem hh];rfl
section
variable {mh:MH}{P:D->MH->Prop}{p:Pg}{w:Wd}
theorem Fy (k h:Nat) (hh:h < w.ps.length) (q:P (w.pt h).d mh):wV (Ac (Gk (k+1)) fuel f44 [w.d,.int h] mh) P:=by
 refine Al (Abu k) mL.1 mL.2 rfl ?_;show wS (b44 k) [some w.d,some (.int h)] mh _;unfold b44 Wd.d
 walk_at "x4"
 refine Cr (j:=h) (d:=(w.pt h).d) (by rw [List.getElem?_map,Wd.pt_at hh];rfl) ?_;exact q
theorem T5 (wo:w.ok p) {s t:Nat}(hs:s < p.plays.length) (ht:t < p.plays.length):∃ v,w.rs[t]?=some v/\v[s]?=some (w.cell s t)/\wY p v:=by
 have lt:t < w.rs.length:=by rw [wo.lr];exact ht
 have vo:=wo.rs _ (List.getElem_mem lt);have ls:s < (w.rs[t]).length:=by rw [vo.1];exact hs
 refine ⟨w.rs[t],List.getElem?_eq_getElem lt,?_,vo⟩;unfold Wd.cell;rw [List.getElem?_eq_getElem lt];show w.rs[t][s]?=some ((w.rs[t][s]?).getD []);rw [List.getElem?_eq_getElem ls];rfl
theorem Fe (k s t:Nat) (wo:w.ok p) (hs:s < p.plays.length) (ht:t < p.plays.length) (q:P (lsD (w.cell s t)) mh):wV (Ac (Gk (k+1)) fuel f45 [w.d,.int s,.int t] mh) P:=by
 obtain ⟨v,e1,e2,_⟩:=T5 wo hs ht;refine Al (Abv k) mO.1 mO.2 rfl ?_;show wS (b45 k) [some w.d,some (.int s),some (.int t)] mh _;unfold b45 Wd.d
 walk_at "x4"
 refine Cr (j:=t) (d:=Qu v) (by rw [List.getElem?_map,e1];rfl) ?_
 walk_at "x4"
 refine Cr (j:=s) (d:=lsD (w.cell s t)) (by rw [List.getElem?_map,e2];rfl) ?_;exact q
noncomputable def Wd.setP (w:Wd) (h:Nat) (q:Pt):Wd:={ w with ps:=w.ps.set h q }
noncomputable def Wd.setC (w:Wd) (s t:Nat) (l:List Lt):Wd:={ w with rs:=w.rs.set t (((w.rs[t]?).getD []).set s l) }
theorem Gu (k h:Nat) (po:p.ok) (wo:w.ok p) (hh:h < p.plays.length) (y:Pt) (q:P (w.setP h y).d mh):wV (Ac (Gk (k+2)) fuel f46 [w.d,.int h,y.d] mh) P:=by
 have h6:=po.h6;refine Al (Abw (k+1)) mQ.1 mQ.2 rfl ?_;show wS (b46 (k+1)) [some w.d,some (.int h),some y.d] mh _;unfold b46 Wd.d
 walk_at "x4"
 refine Dy k (by rw [List.length_map,wo.lp];exact hh) (by rw [List.length_map,wo.lp];omega) ?_
 walk_at "x4"
 refine Dy k (i:=0) (by simp) (by simp) ?_;have e:(w.ps.map Pt.d).set h y.d=(w.ps.set h y).map Pt.d:=by rw [List.map_set]
 rw [e];exact q
theorem Ma (k s t:Nat) (po:p.ok) (wo:w.ok p) (hs:s < p.plays.length) (ht:t < p.plays.length) (l:List Lt) (q:P (w.setC s t l).d mh):wV (Ac (Gk (k+2)) fuel f47 [w.d,.int s,.int t,lsD l] mh) P:=by
 have h6:=po.h6;obtain ⟨v,e1,e2,vo⟩:=T5 wo hs ht;have lv:v.length=p.plays.length:=vo.1;refine Al (Abx (k+1)) mR.1 mR.2 rfl ?_;show wS (b47 (k+1)) [some w.d,some (.int s),some (.int t),some (lsD l)] mh _;unfold b47 Wd.d
 walk_at "x4"
 refine Cr (j:=t) (d:=Qu v) (by rw [List.getElem?_map,e1];rfl) ?_
 walk_at "x4"
 unfold Qu;refine Dy k (by rw [List.length_map,lv];exact hs) (by rw [List.length_map,lv];omega) ?_
 walk_at "x4"
 refine Dy k (by rw [List.length_map,wo.lr];exact ht) (by rw [List.length_map,wo.lr];omega) ?_
 walk_at "x4"
 refine Dy k (i:=1) (by simp) (by simp) ?_;have e:(w.rs.map fun w=>D.tup (w.map lsD)).set t (.tup ((v.map lsD).set s (lsD l)))=(w.rs.set t (v.set s l)).map fun w=>D.tup (w.map lsD):=by rw [List.map_set,List.map_set]
 rw [e];have e3:w.setC s t l={ w with rs:=w.rs.set t (v.set s l) }:=by unfold Wd.setC;rw [e1];rfl
 rw [e3] at q;exact q
theorem Ob {h:Nat}{y:Pt}(wo:w.ok p) (hy:∀ r,p.plays[h]?=some r->y.ok p.H (p.len r)):(w.setP h y).ok p:=by
 refine ⟨by show (w.ps.set h y).length=_;rw [List.length_set];exact wo.lp,fun i r q e1 e2=>?_,wo.lr,wo.rs,wo.xx,wo.yy⟩;have e2:(w.ps.set h y)[i]?=some q:=e2
 by_cases e:h=i
 ·subst e;rw [List.getElem?_set] at e2;simp only [if_true] at e2;split at e2
  ·cases e2;exact hy r e1
  ·cases e2
 ·rw [List.getElem?_set_ne e] at e2;exact wo.ps i r q e1 e2
theorem T6 {s t:Nat}{l:List Lt}(wo:w.ok p) (hl:oO p l):(w.setC s t l).ok p:=by
 refine ⟨wo.lp,wo.ps,by show (w.rs.set t _).length=_;rw [List.length_set];exact wo.lr,fun v hv=>?_,wo.xx,wo.yy⟩;have hv:v∈w.rs.set t (((w.rs[t]?).getD []).set s l):=hv;rcases List.mem_or_eq_of_mem_set hv with hv|rfl
 ·exact wo.rs v hv
 ·cases e:w.rs[t]? with
  | none =>
   rw [e] at hv;rw [List.set_eq_of_length_le (by exact List.getElem?_eq_none_iff.mp e)] at hv;exact wo.rs _ hv
  | some u =>
   have uo:=wo.rs u (List.mem_of_getElem? e);refine ⟨by show (u.set s l).length=_;rw [List.length_set];exact uo.1,fun z hz=>?_⟩;rcases List.mem_or_eq_of_mem_set (show z∈u.set s l from hz) with hz|rfl
   ·exact uo.2 z hz
   ·exact hl
theorem Vp {h:Nat}(wo:w.ok p) (hh:h < p.plays.length):∃ r,p.plays[h]?=some r/\(w.pt h).ok p.H (p.len r):=by
 refine ⟨p.plays[h],List.getElem?_eq_getElem hh,wo.ps h _ _ (List.getElem?_eq_getElem hh) (Wd.pt_at (by rw [wo.lp];exact hh))⟩
end
noncomputable def mem (s:Nat):List Nat:=Jz s (Builtin.Int.intBits (s:Int))
noncomputable def cN (l:List Nat):D:=.tup (l.map Ae)
theorem Acx {s h:Nat}{mh:MH}{P:D->MH->Prop}(q:P (.int ((s:Int) / 2 ^ (h:Int).toNat)) mh):wV (uF (.int s) (.int h) mh) P:=Gh (decide_eq_true (by omega)) q
theorem vC {i j:Int}{mh:MH}{P:D->MH->Prop}(q:P (.int (Builtin.bitAnd i j)) mh):wV (wN (.int i) (.int j) mh) P:=Gh rfl q
theorem Afg (k s h:Nat) (mh:MH):Ac (Gk (k+1)) fuel f2 [.int s,.int h] mh=some (.bl (s.testBit h),mh):=by
 refine Acw ?_;refine Al (Afa k) wR.1 wR.2 rfl ?_;show wS (b2 k) [some (.int s),some (.int h)] mh _;unfold b2
 walk_at "x4"
 refine Acx ?_
 walk_at "x4"
 refine vC ?_
 walk_at "x4"
 refine ⟨?_,rfl⟩;rw [uP]
theorem Ni (k s:Nat) (hs:s < 2 ^ 20) (mh:MH) {P:D->MH->Prop}(h:∀ h',Ext [] mh h'->P (cN (mem s)) h'):wV (Ac (Gk (k+2)) fuel f3 [.int s] mh) P:=by
 have hb:=bits_le (g:=s) (n:=20) hs;refine Al (Afb (k+1)) wU.1 wU.2 rfl ?_;show wS (b3 (k+1)) [some (.int s)] mh _;unfold b3
 walk_at "x4"
 refine Fx (List.range (Builtin.Int.intBits (s:Int))) Ae (fun i=>s.testBit i) Ae (by rw [List.length_range];omega) ?_ (fun x h' R hx ex hR=>?_) fun h' ex=>?_
 ·refine lR (Aw (Zz (Ao (by with_unfolding_all rfl) ⟨rfl,?_⟩)))
  walk_at "x4"
  refine Aq (d:=.int (Builtin.Int.intBits (s:Int):Nat)) (h:=mh) rfl ?_
  walk_at "x4"
  exact ⟨_,Ib (by omega),by rw [Dl];exact K6 rfl⟩
 ·refine Bf ⟨rfl,?_⟩
  walk_at "x4"
  refine Aq (Afg k s x h') ?_
  walk_at "x4"
  refine ⟨rfl,rfl,fun _=>?_⟩
  walk_at "x4"
  exact hR h' Ext.refl
 ·walk_at "x4"
  exact Ih (Tz _ _) (h _ (ex.trans Ext.more))
theorem Xx {i j:Nat}{mh:MH}{P:D->MH->Prop}(q:P (Ae (i ||| j)) mh):wV (Aa5 (.int i) (.int j) mh) P:=Gh rfl (by show P (.int (Builtin.bitOr i j)) mh;rw [cL];exact q)
theorem oR {H:Nat}{mh:MH}{P:D->MH->Prop}(hH:H<=20) (h:P (.int ((2 ^ H:Nat):Int)) mh):wV (Ae2 (.int 1) (.int H) mh) P:=Gh (by
 rw [Bool.and_eq_true,Bool.and_eq_true,decide_eq_true_iff,decide_eq_true_iff,decide_eq_true_iff]
 exact ⟨by omega,by omega,by decide⟩) (by
  show P (.int (1 * 2 ^ (H:Int).toNat)) mh;rw [Int.one_mul,Int.toNat_natCast];have e:((2 ^ H:Nat):Int)=2 ^ H:=by push_cast;rfl
  rw [← e];exact h)
theorem Pz (k n:Nat) (l:List Nat) (mh:MH) (e:mh[n]?=some (.lst (l.map Ae))) (hl:∀ x∈l,x<=20) {P:D->MH->Prop}(h:P (Ae (setOf l)) mh):wV (Ac (Gk (k+1)) fuel f4 [.ref n] mh) P:=by
 refine Al (wX k) Z3.1 Z3.2 rfl ?_;show wS (b4 k) [some (.ref n),none,none] mh _;unfold b4
 walk_at "x4"
 refine Hg (Pq (Ao rfl ⟨_,src_list e,l.map Ae,fun i loc h'=>h'=mh/\∃ z,loc=[some (.ref n),some (Ae (setOf (l.take i))),z],⟨rfl,none,rfl⟩,?_,?_,?_⟩))
 ·rintro i loc h' ⟨rfl,_⟩;exact Fd e
 ·rintro i d loc h' ed ⟨rfl,z,rfl⟩;rw [List.getElem?_map] at ed;cases ex:l[i]? with
  | none=>rw [ex] at ed;cases ed
  | some y =>
   rw [ex] at ed;cases ed
   walk_at "x4"
   have hy:=hl y (List.mem_of_getElem? ex);refine oR hy ?_
   walk_at "x4"
   refine Xx ?_
   walk_at "x4"
   refine ⟨rfl,some (Ae y),?_⟩;have:setOf (l.take (i+1))=setOf (l.take i) ||| 2 ^ y:=by
    unfold setOf;rw [List.take_add_one,ex,List.foldl_append];rfl
   rw [this];rfl
 ·rintro loc h' ⟨rfl,z,rfl⟩;rw [List.length_map,List.take_length]
  walk_at "x4"
  exact h
theorem Vq (k:Nat) (l:List Nat) (mh:MH) (hl:∀ x∈l,x<=20) {P:D->MH->Prop}(h:P (Ae (setOf l)) mh):wV (Ac (Gk (k+1)) fuel f4 [cN l] mh) P:=by
 refine Al (wX k) Z3.1 Z3.2 rfl ?_;show wS (b4 k) [some (cN l),none,none] mh _;unfold b4
 walk_at "x4"
 refine Hg (Pq (Ao (by with_unfolding_all rfl) ⟨.seq (l.map Ae),rfl,l.map Ae,fun i loc h'=>h'=mh/\∃ z,loc=[some (cN l),some (Ae (setOf (l.take i))),z],⟨rfl,none,rfl⟩,fun _ _ _ _=>⟨rfl,rfl⟩,?_,?_⟩))
 ·rintro i d loc h' ed ⟨rfl,z,rfl⟩;rw [List.getElem?_map] at ed;cases ex:l[i]? with
  | none=>rw [ex] at ed;cases ed
  | some y =>
   rw [ex] at ed;cases ed
   walk_at "x4"
   have hy:=hl y (List.mem_of_getElem? ex);refine oR hy ?_
   walk_at "x4"
   refine Xx ?_
   walk_at "x4"
   refine ⟨rfl,some (Ae y),?_⟩;have:setOf (l.take (i+1))=setOf (l.take i) ||| 2 ^ y:=by
    unfold setOf;rw [List.take_add_one,ex,List.foldl_append];rfl
   rw [this];rfl
 ·rintro loc h' ⟨rfl,z,rfl⟩;rw [List.length_map,List.take_length]
  walk_at "x4"
  exact h
theorem Vr {l:List Nat}{n:Nat}(h:∀ x∈l,x < n):setOf l < 2 ^ n:=by
 refine Nat.lt_pow_two_of_testBit _ fun i hi=>?_
 rw [Qt,decide_eq_false];exact fun z=>by have:=h i z;omega
noncomputable def plA (p:Pg) (h:Nat):Nat:=(p.plays[h]?).getD 0
noncomputable def hands (p:Pg) (r:Nat):List Nat:=(List.range p.plays.length).filter fun i=>plA p i==r
theorem Vs {p:Pg}{r h:Nat}(m:h∈hands p r):h < p.plays.length:=by
 unfold hands at m;rw [List.mem_filter,List.mem_range] at m;exact m.1
theorem Xy (p:Pg):Ez 0 (p.plays.map Ae)=(List.range p.plays.length).map fun i=>D.tup [Ae i,Ae (plA p i)]:=by
 refine List.ext_getElem? fun i=>?_
 rw [Io,List.getElem?_map,List.getElem?_map,Nat.zero_add]
 by_cases h:i < p.plays.length
 ·rw [List.getElem?_eq_getElem h,List.getElem?_range h];show some (D.tup [Ae i,Ae p.plays[i]])=some (D.tup [Ae i,Ae (plA p i)]);unfold plA;rw [List.getElem?_eq_getElem h];rfl
 ·rw [List.getElem?_eq_none_iff.mpr (by omega),List.getElem?_eq_none_iff.mpr (by rw [List.length_range];omega)];rfl
theorem Rm (k r:Nat) (p:Pg) (po:p.ok) (mh:MH) {P:D->MH->Prop}(h:∀ h',Ext [] mh h'->P (cN (hands p r)) h'):wV (Ac (Gk (k+1)) fuel f35 [p.d,.int r] mh) P:=by
 have h6:=po.h6;refine Al (Abq k) mG.1 mG.2 rfl ?_;show wS (b35 k) [some p.d,some (.int r)] mh _;unfold b35;refine Ak (Hf (Br (Aw ?_)));refine Fx (List.range p.plays.length) (fun i=>.tup [Ae i,Ae (plA p i)]) (fun i=>plA p i==r) Ae (by rw [List.length_range];omega) ?_ (fun x h' R hx ex hR=>?_) fun h' ex=>?_
 ·unfold Pg.d
  walk_at "x4"
  refine ⟨_,rfl,Ext.refl,fun _ _=>⟨rfl,?_⟩⟩;exact Xy p
 ·refine Ti rfl ⟨rfl,?_⟩;show wD _ [none,some (Ae x),some (Ae (plA p x)),some (.int r)] h' _
  walk_at "x4"
  have e:(((plA p x:Nat):Int)==(r:Int))=(plA p x==r):=by
   by_cases z:plA p x=r
   ·rw [z];simp
   ·rw [beq_eq_false_iff_ne.mpr z];exact beq_eq_false_iff_ne.mpr fun q=>z (by omega)
  refine ⟨e,rfl,fun _=>?_⟩
  walk_at "x4"
  exact hR _ Ext.refl
 ·walk_at "x4"
  exact Ih (Tz _ _) (h _ (ex.trans Ext.more))
noncomputable def oth (p:Pg) (r h:Nat):List Nat:=(hands p r).filter fun i=>!(i==h)
theorem Xz {p:Pg}{r h i:Nat}(m:i∈oth p r h):i < p.plays.length:=by
 unfold oth at m;rw [List.mem_filter] at m;exact Vs m.1
theorem Mf {p:Pg}{r:Nat}:(hands p r).length<=p.plays.length:=by
 unfold hands;exact Nat.le_trans (List.length_filter_le _ _) (by rw [List.length_range];exact Nat.le_refl _)
theorem Z4 (k r h:Nat) (p:Pg) (po:p.ok) (mh:MH) {P:D->MH->Prop}(q:∀ j h',Ext [] mh h'->h'[j]?=some (.lst ((oth p r h).map Ae))->P (.ref j) h'):wV (Ac (Gk (k+2)) fuel f51 [p.d,.int r,.int h] mh) P:=by
 have h6:=po.h6;have hl:=Mf (p:=p) (r:=r);refine Al (Abz (k+1)) mV.1 mV.2 rfl ?_;show wS (b51 (k+1)) [some p.d,some (.int r),some (.int h)] mh _;unfold b51;refine Ak (Hf ?_);refine Fx (hands p r) Ae (fun i=>!(i==h)) Ae (by omega) ?_ (fun x h' R hx ex hR=>?_) fun h' ex=>?_
 ·walk_at "x4"
  refine Rm k r p po mh fun h1 x1=>?_
  exact ⟨_,rfl,x1,fun _ _=>⟨rfl,rfl⟩⟩
 ·refine Bf ⟨rfl,?_⟩
  walk_at "x4"
  have e:(!(((x:Nat):Int)==(h:Int)))=(!(x==h)):=by
   by_cases z:x=h
   ·rw [z];simp
   ·rw [beq_eq_false_iff_ne.mpr z,beq_eq_false_iff_ne.mpr fun q=>z (by omega)]
  refine ⟨e,rfl,fun _=>?_⟩
  walk_at "x4"
  exact hR _ Ext.refl
 ·walk_at "x4"
  exact q _ _ (ex.trans Ext.more) Av
theorem J4 {c:Nat}{mh:MH}(hc:c<=1000000) {P:D->MH->Prop}(h:P (.ref mh.length) (mh++[.lst ((List.range c).map Ae)])):wV (Er (.int c) mh) P:=by
 refine ⟨_,_,?_,h⟩;have hb:-(2 ^ 62)<=(c:Int)/\(c:Int)<=1000000:=by omega
 have e:Ce 0 c=(List.range c).map Ae:=by
  unfold Ce;apply List.map_congr_left;intro a _;simp [Ae]
 simp only [Er,if_pos hb,Int.toNat_natCast,e]
structure Ln where
 kd:Nat
 a:Nat
 b:Nat
 c:Nat
 q:Nat
noncomputable def lnD (l:Ln):D:=.tup [Ae l.kd,Ae l.a,Ae l.b,Ae l.c,Ae l.q]
inductive Sp where
 | put (a:Nat) (n:Int) | copy (a b:Nat) | raise (a:Nat) (n:Int) | sum (a b:Nat) | choose (a c:Nat) | less (a:Nat) (n:Int) (q:Nat) | before (a b q:Nat) | go (q:Nat)
 | me (a:Nat) | only (a r:Nat) | pick (a r:Nat) | alike (a b q:Nat) | all (g r:Nat) | empty (g:Nat) | join (g a:Nat) | out (a g q:Nat) | many (g c q:Nat)
 | send (a kd b c:Nat) | take (bx:Int) (ls:List Ln) | bell
noncomputable def spD:Sp->D
 | .put a n=>.tup [.str "put",Ae a,.int n]
 | .copy a b=>.tup [.str "copy",Ae a,Ae b]
 | .raise a n=>.tup [.str "raise",Ae a,.int n]
 | .sum a b=>.tup [.str "sum",Ae a,Ae b]
 | .choose a c=>.tup [.str "choose",Ae a,Ae c]
 | .less a n q=>.tup [.str "less",Ae a,.int n,Ae q]
 | .before a b q=>.tup [.str "before",Ae a,Ae b,Ae q]
 | .go q=>.tup [.str "go",Ae q]
 | .me a=>.tup [.str "me",Ae a]
 | .only a r=>.tup [.str "only",Ae a,Ae r]
 | .pick a r=>.tup [.str "pick",Ae a,Ae r]
 | .alike a b q=>.tup [.str "alike",Ae a,Ae b,Ae q]
 | .all g r=>.tup [.str "all",Ae g,Ae r]
 | .empty g=>.tup [.str "empty",Ae g]
 | .join g a=>.tup [.str "join",Ae g,Ae a]
 | .out a g q=>.tup [.str "out",Ae a,Ae g,Ae q]
 | .many g c q=>.tup [.str "many",Ae g,Ae c,Ae q]
 | .send a kd b c=>.tup [.str "send",Ae a,Ae kd,Ae b,Ae c]
 | .take bx ls=>.tup [.str "take",.int bx,.tup (ls.map lnD)]
 | .bell=>.tup [.str "bell"]
structure Ln.ok (L:Nat) (l:Ln):Prop where
 a:l.a < 3
 b:l.b < 3
 c:l.c < 3
 q:l.q<=L
noncomputable def Sp.ok (p:Pg) (L:Nat):Sp->Prop
 | .put a _=>a < 3
 | .copy a b=>a < 3/\b < 3
 | .raise a _=>a < 3
 | .sum a b=>a < 3/\b < 3
 | .choose a c=>a < 3/\c<=1000
 | .less a _ q=>a < 3/\q<=L
 | .before a b q=>(a < 3/\b < 3)/\q<=L
 | .go q=>q<=L
 | .me a=>a < 3
 | .only a r=>a < 3/\hands p r≠[]
 | .pick a _=>a < 3
 | .alike a b q=>(a < 3/\b < 3)/\q<=L
 | .all g _=>g < 2
 | .empty g=>g < 2
 | .join g a=>g < 2/\a < 3
 | .out a g q=>(a < 3/\g < 2)/\q<=L
 | .many g _ q=>g < 2/\q<=L
 | .send a kd b c=>(a < 3/\b < 3/\c < 3)/\1<=kd/\kd<=12
 | .take bx ls=>(bx=-1\/∃ b:Nat,b < 3/\bx=(b:Int))/\ls.length<=1000/\∀ l∈ls,l.ok L
 | .bell=>True
structure Prg (p:Pg) (S:List (List Sp)):Prop where
 po:p.ok
 eq:p.roles=S.map fun l=>l.map spD
 ok:∀ (r:Nat) (l:List Sp),S[r]?=some l->∀ s∈l,s.ok p l.length
 ln:∀ l∈S,l.length<=1000
noncomputable def stA (S:List (List Sp)) (r:Nat) (pl:Int):Option Sp:=if 0<=pl then ((S[r]?).getD [])[pl.toNat]? else none
noncomputable def Pt.nm (q:Pt) (a:Nat):Int:=if a=0 then q.m0 else if a=1 then q.m1 else q.m2
noncomputable def Pt.nu (q:Pt) (a:Nat):Int:=if a=0 then q.n0 else if a=1 then q.n1 else q.n2
noncomputable def Pt.se (q:Pt) (g:Nat):Nat:=if g=0 then q.s0 else q.s1
theorem Pt.nm_ok {H L a:Nat}{q:Pt}(h:q.ok H L):-1<=q.nm a/\q.nm a<=(H:Int) - 1:=by
 unfold Pt.nm;split
 ·exact h.a0
 ·split
  ·exact h.a1
  ·exact h.a2
theorem Pt.se_ok {H L g:Nat}{q:Pt}(h:q.ok H L):q.se g < 2 ^ H:=by
 unfold Pt.se;split
 ·exact h.b0
 ·exact h.b1
local macro_rules | `(tactic| walk_at "x2") => `(tactic| repeat (first | walk_at "s" | with_reducible refine Fb (by simp) ?_ | with_reducible refine Ew ?_ | with_reducible refine Gn ?_ | with_reducible refine Dw ?_ | with_reducible refine Ii ?_ | with_reducible refine J1 ?_ | with_reducible refine Abi (by kernel_rfl) (by kernel_rfl) (by decide +kernel) ?_ | with_reducible refine Abj (by kernel_rfl) (by kernel_rfl) (by decide +kernel) ?_))
section
variable {mh:MH}{P:D->MH->Prop}{p:Pg}{w:Wd}{S:List (List Sp)}
theorem P0 {q:Pt}{a:Nat}(ha:a < 3) (h:P (.int (q.nm a)) mh):wV (ixD (.tup [.int q.m0,.int q.m1,.int q.m2]) (Ae a) mh) P:=by
 match a,ha with
 | 0,_=>exact Cr (j:=0) rfl h
 | 1,_=>exact Cr (j:=1) rfl h
 | 2,_=>exact Cr (j:=2) rfl h
theorem Nj {q:Pt}{a:Nat}(ha:a < 3) (h:P (.int (q.nu a)) mh):wV (ixD (.tup [.int q.n0,.int q.n1,.int q.n2]) (Ae a) mh) P:=by
 match a,ha with
 | 0,_=>exact Cr (j:=0) rfl h
 | 1,_=>exact Cr (j:=1) rfl h
 | 2,_=>exact Cr (j:=2) rfl h
theorem Z5 {q:Pt}{g:Nat}(hg:g < 2) (h:P (.int (q.se g:Nat)) mh):wV (ixD (.tup [.int q.s0,.int q.s1]) (Ae g) mh) P:=by
 match g,hg with
 | 0,_=>exact Cr (j:=0) rfl h
 | 1,_=>exact Cr (j:=1) rfl h
theorem Rn (g:Prg p S):p.roles.length=S.length:=by rw [g.eq,List.length_map]
theorem len_eq (g:Prg p S) (r:Nat):p.len r=((S[r]?).getD []).length:=by
 unfold Pg.len;rw [g.eq,List.getElem?_map];cases S[r]? with
 | none=>rfl
 | some l=>show (l.map spD).length=l.length;rw [List.length_map]
noncomputable def Z6:Option Sp->D
 | none=>.non
 | some s=>.obj "Step" ["form"] [spD s]
theorem X3 (k r:Nat) (pl:Int) (g:Prg p S) (hr:r < p.roles.length) (q:P (Z6 (stA S r pl)) mh):wV (Ac (Gk (k+2)) fuel f37 [p.d,.int r,.int pl] mh) P:=by
 have hr':r < S.length:=by rw [← Rn g];exact hr
 have eS:S[r]?=some S[r]:=List.getElem?_eq_getElem hr';have el:p.len r=S[r].length:=by rw [len_eq g,eS];rfl
 refine Al (Abs (k+1)) mJ.1 mJ.2 rfl ?_;show wS (b37 (k+1)) [some p.d,some (.int r),some (.int pl)] mh _;unfold b37;have no:stA S r pl=none->wS (Ab (retS (Zr .non)) Zn) [some p.d,some (.int r),some (.int pl)] mh (Tn P):=fun e=>by
  rw [e] at q
  walk_at "x2"
  exact q
 refine Ak (Bl (Ar (Vl ?_)));refine Ad (Ao (by with_unfolding_all rfl) (Cm ⟨_,rfl,fun e0=>?_,fun e0=>⟨_,rfl,fun e=>(by cases e),fun _=>?_⟩⟩))
 ·have e0:=of_decide_eq_true e0
  walk_at "x2"
  refine vA k p r hr ?_;refine Cm ⟨_,rfl,fun e1=>?_,fun e1=>?_⟩
  ·have e1:=of_decide_eq_true e1;have hl:pl.toNat < S[r].length:=by omega
   have es:stA S r pl=some S[r][pl.toNat]:=by unfold stA;rw [if_pos e0,eS];exact List.getElem?_eq_getElem hl
   rw [es] at q;unfold Pg.d
   walk_at "x2"
   refine Cr (j:=r) (d:=.tup (S[r].map spD)) (by rw [List.getElem?_map,g.eq,List.getElem?_map,eS];rfl) ?_
   walk_at "x2"
   rw [show pl=((pl.toNat:Nat):Int) by omega];refine Cr (j:=pl.toNat) (d:=spD S[r][pl.toNat]) (by rw [List.getElem?_map,List.getElem?_eq_getElem hl];rfl) ?_
   walk_at "x2"
   exact q
  ·have e1:=of_decide_eq_false e1;refine Ax (Af (no ?_));unfold stA;rw [if_pos e0,eS];exact List.getElem?_eq_none_iff.mpr (by show S[r].length<=pl.toNat;omega)
 ·have e0:=of_decide_eq_false e0;refine Ax (Af (no ?_));unfold stA;rw [if_neg e0]
noncomputable def stW (p:Pg) (S:List (List Sp)) (w:Wd) (h:Nat):Option Sp:=stA S (plA p h) (w.pt h).pl
theorem Ro {h:Nat}(hh:h < p.plays.length):p.plays[h]?=some (plA p h):=by unfold plA;rw [List.getElem?_eq_getElem hh];rfl
theorem wZ (po:p.ok) {h:Nat}(hh:h < p.plays.length):plA p h < p.roles.length:=po.pl _ (List.mem_of_getElem? (Ro hh))
theorem Ij (k h:Nat) (g:Prg p S) (wo:w.ok p) (hh:h < p.plays.length) (q:P (Z6 (stW p S w h)) mh):wV (Ac (Gk (k+3)) fuel f50 [p.d,w.d,.int h] mh) P:=by
 refine Al (Aby (k+2)) mU.1 mU.2 rfl ?_;show wS (b50 (k+2)) [some p.d,some w.d,some (.int h)] mh _;unfold b50;refine Ak (Hf (Br (Aw (Ao (by with_unfolding_all rfl) (Aw ?_)))));refine Az (Az (Ao (by with_unfolding_all rfl) (Ad ?_)));unfold Pg.d
 walk_at "x2"
 refine Cr (j:=h) (d:=Ae (plA p h)) (by rw [List.getElem?_map,Ro hh];rfl) ?_
 walk_at "x2"
 refine Fy (k+1) h (by rw [wo.lp];exact hh) ?_;unfold Pt.d
 walk_at "x2"
 exact X3 k _ _ g (wZ g.po hh) q
theorem Hi (k:Nat) (wo:w.ok p) (po:p.ok) (q:∀ j h',Ext [] mh h'->mh.length<=j->h'[j]?=some (.lst ((List.range p.H).map Ae))->P (.ref j) h'):wV (Ac (Gk (k+1)) fuel f43 [w.d] mh) P:=by
 have h6:=po.h6;refine Al (oM k) Tr.1 Tr.2 rfl ?_;show wS (b43 k) [some w.d] mh _;unfold b43 Wd.d
 walk_at "x2"
 refine Bs (ds:=w.ps.map Pt.d) (by intro z z';cases z') rfl ?_;rw [List.length_map,wo.lp];exact J4 (c:=p.plays.length) (by omega) (q _ _ Ext.more (Nat.le_refl _) Av)
end
noncomputable def X4 (q:Pt):Bool:=q.pl==-1
theorem J5 (k:Nat) (q:Pt) (mh:MH) {P:D->MH->Prop}(h:P (.bl (X4 q)) mh):wV (Ac (Gk (k+1)) fuel f15 [q.d] mh) P:=by
 refine Al (Abo k) mD.1 mD.2 rfl ?_;show wS (b15 k) [some q.d] mh _;unfold b15 Pt.d
 walk_at "x2"
 exact h
noncomputable def Jo (w:Wd) (to:Int):Bool:=(to==-1) || X4 (w.pt to.toNat)
noncomputable def J6 (p:Pg) (w:Wd) (h a:Nat):Bool:=Jo w ((w.pt h).nm a) || decide ((w.cell h ((w.pt h).nm a).toNat).length < p.room)
section
variable {mh:MH}{P:D->MH->Prop}{p:Pg}{w:Wd}{S:List (List Sp)}
theorem Mg {to:Int}{H:Nat}(h:-1<=to/\to<=(H:Int) - 1) (hn:¬ to=-1):to=((to.toNat:Nat):Int)/\to.toNat < H:=⟨by omega,by omega⟩
theorem Vt (k h a kd b c:Nat) (g:Prg p S) (wo:w.ok p) (hh:h < p.plays.length) (ha:a < 3) (q:P (.bl (J6 p w h a)) mh):wV (Ac (Gk (k+2)) fuel f54 [p.d,w.d,.int h,spD (.send a kd b c)] mh) P:=by
 obtain ⟨r,er,qo⟩:=Vp wo hh;have nk:=Pt.nm_ok (a:=a) qo;refine Al (Ab2 (k+1)) mY.1 mY.2 rfl ?_;show wS (b54 (k+1)) [some p.d,some w.d,some (.int h),some (spD (.send a kd b c)),none] mh _;unfold b54;refine Ak (Dg (Az (Az (Br (Aw (Ao (by with_unfolding_all rfl) (Aw (Ao (by with_unfolding_all rfl) (Ad (Fy k h (by rw [wo.lp];exact hh) ?_)))))))))) ;unfold Pt.d;dsimp only [spD]
 walk_at "x2"
 refine P0 ha ?_;unfold J6 Jo at q;generalize (w.pt h).nm a=to at q nk;refine Bf (Af (Ak (Bl (Ej (Ar (Az (Ao (by with_unfolding_all rfl) (Ad (Bp ⟨_,rfl,fun e=>?_,fun e=>?_⟩)))))))))
 ·rw [e,Bool.true_or,Bool.true_or] at q
  walk_at "x2"
  exact q
 ·rw [e,Bool.false_or] at q;have hn:¬ to=-1:=fun z=>by rw [z] at e;cases e
  obtain ⟨e1,e2⟩:=Mg nk hn;refine G8 (Br (Aw (Br (Aw (Ao (by with_unfolding_all rfl) (Aw (Ao (d:=.int to) (by with_unfolding_all rfl) (Ad ?_)))))))) ;rw [e1];refine Fy k to.toNat (by rw [wo.lp];exact e2) ?_
  walk_at "x2"
  refine J5 k _ _ ⟨_,rfl,Dj (fun e3=>?_) fun e3=>?_⟩
  ·rw [e3,Bool.true_or] at q
   walk_at "x2"
   exact q
  ·rw [e3,Bool.false_or] at q;refine Ax (Af ?_)
   walk_at "x2"
   refine Fe k h to.toNat wo hh e2 ?_;unfold lsD
   walk_at "x2"
   refine Bs (ds:=(w.cell h to.toNat).map ltD) (by intro z z';cases z') rfl ?_;unfold Pg.d
   walk_at "x2"
   rw [List.length_map];have e4:decide (((w.cell h to.toNat).length:Int) < (p.room:Int))=decide ((w.cell h to.toNat).length < p.room):=by
    by_cases z:(w.cell h to.toNat).length < p.room
    ·rw [decide_eq_true z,decide_eq_true (by omega)]
    ·rw [decide_eq_false z,decide_eq_false (by omega)]
   rw [e4];exact q
noncomputable def T7 (i:Nat):D:=.tup [Ae i]
noncomputable def Qa (s:Nat):List D:=if s=0 then [.int 0] else (mem s).map T7
theorem vD (k s:Nat) (hs:s < 2 ^ 20) (q:∀ j h',Ext [] mh h'->mh.length<=j->h'[j]?=some (.lst (Qa s))->P (.ref j) h'):wV (Ac (Gk (k+3)) fuel f53 [.int s] mh) P:=by
 refine Al (Ab1 (k+2)) mX.1 mX.2 rfl ?_;show wS (b53 (k+2)) [some (.int s)] mh _;unfold b53 ;unfold Qa at q;refine Ak (Bl (Ar (Az (Ao (by with_unfolding_all rfl) (Ad (Bp ⟨_,rfl,fun e=>?_,fun e=>?_⟩))))))
 ·have e:(s:Int)=0:=eq_of_beq e;rw [if_pos (by omega)] at q
  walk_at "x2"
  exact q _ _ Ext.more (Nat.le_refl _) Av
 ·have e:¬ (s:Int)=0:=beq_eq_false_iff_ne.mp e;rw [if_neg (by omega)] at q;refine Ax (Af (Ak (Hf ?_)));have lm:(mem s).length<=1000:=by
   have h1:=Pn s (Builtin.Int.intBits (s:Int));have h2:=bits_le (g:=s) (n:=20) hs;show (Jz _ _).length<=1000;omega
  refine Gs (mem s) Ae T7 (by omega) ?_ (fun x h' R hx ex hR=>?_) fun h' ex=>?_
  ·walk_at "x2"
   refine Ni k s hs mh fun h1 x1=>?_
   exact ⟨_,rfl,x1,fun _ _=>⟨rfl,rfl⟩⟩
  ·refine Bf ⟨rfl,?_⟩
   walk_at "x2"
   exact hR _ Ext.refl
  ·walk_at "x2"
   exact q _ _ (ex.trans Ext.more) ex.len Av
noncomputable def Ef (p:Pg) (w:Wd) (h:Nat) (bx:Int):List Nat:=if bx=-1 then List.range p.H else if (w.pt h).nm bx.toNat=-1 then [] else [((w.pt h).nm bx.toNat).toNat]
theorem Vu {h:Nat}{bx:Int}(wo:w.ok p) (hh:h < p.plays.length) {s:Nat}(hs:s∈Ef p w h bx):s < p.plays.length:=by
 unfold Ef at hs;split at hs
 ·exact List.mem_range.mp hs
 ·split at hs
  ·cases hs
  ·rename_i hn;obtain ⟨r,er,qo⟩:=Vp wo hh;rw [List.mem_singleton.mp hs];exact (Mg (Pt.nm_ok qo) hn).2
theorem Vv (k h:Nat) (bx:Int) (hb:bx=-1\/∃ b:Nat,b < 3/\bx=(b:Int)) (po:p.ok) (wo:w.ok p) (hh:h < p.plays.length) (q:∀ j h',Ext [] mh h'->mh.length<=j->h'[j]?=some (.lst ((Ef p w h bx).map Ae))->P (.ref j) h'):wV (Ac (Gk (k+2)) fuel f56 [w.d,.int h,.int bx] mh) P:=by
 have h6:=po.h6;obtain ⟨r,er,qo⟩:=Vp wo hh;refine Al (Ab4 (k+1)) nA.1 nA.2 rfl ?_;show wS (b56 (k+1)) [some w.d,some (.int h),some (.int bx),none] mh _;unfold b56;unfold Ef at q;rcases hb with rfl|⟨b,hb,rfl⟩
 ·rw [if_pos rfl] at q
  walk_at "x2"
  refine Al (oM k) Tr.1 Tr.2 rfl ?_;show wS (b43 k) [some w.d] mh _;unfold b43 Wd.d
  walk_at "x2"
  refine Bs (ds:=w.ps.map Pt.d) (by intro z z';cases z') rfl ?_;rw [List.length_map,wo.lp];exact J4 (c:=p.plays.length) (by omega) (q _ _ Ext.more (Nat.le_refl _) Av)
 ·rw [if_neg (by omega),Int.toNat_natCast] at q;refine Ak (Bl (Ar (Az (Ao (by with_unfolding_all rfl) (lM (Ad ⟨1,rfl,Bp ⟨_,rfl,fun e=>?_,fun _=>Ax (Af ?_)⟩⟩))))))
  ·have e:=eq_of_beq e;omega
  ·refine Ak (Dg (Az (Az (Br (Aw (Ao (by with_unfolding_all rfl) (Aw (Ao (by with_unfolding_all rfl) (Ad (Fy k h (by rw [wo.lp];exact hh) ?_)))))))))) ;unfold Pt.d
   walk_at "x2"
   refine P0 hb ?_;have nk:=Pt.nm_ok (a:=b) qo;generalize (w.pt h).nm b=to at q nk;refine Bf (Af (Ak (Hf (lN (Ar (Az (Ao (by with_unfolding_all rfl) (Ad (Bp ⟨_,rfl,fun e=>?_,fun e=>?_⟩)))))))))
   ·have e:=eq_of_beq e;rw [if_pos e] at q
    walk_at "x2"
    exact q _ _ Ext.more (Nat.le_refl _) Av
   ·have e:=beq_eq_false_iff_ne.mp e;rw [if_neg e] at q;obtain ⟨e1,e2⟩:=Mg nk e;rw [e1]
    walk_at "x2"
    refine q _ _ Ext.more (Nat.le_refl _) ?_;rw [Av];show _=some (MO.lst [Ae to.toNat]);rfl
noncomputable def J7 (w:Wd) (h:Nat) (ks:List Int) (s:Nat):List D:=match w.cell s h with
 | []=>[]
 | l::_=>if l.1∈ks then [.tup [Ae s,.int l.1]] else []
noncomputable def Ji (ls:List Ln):List Int:=ls.map fun l=>(l.kd:Int)
noncomputable def Fz (w:Wd) (h:Nat) (ls:List Ln):List D:=if (decide ((0:Int)∈Ji ls)&&(w.pt h).bell)=true then [.tup [.int (-1),.int 0]] else []
noncomputable def Jp (p:Pg) (w:Wd) (h:Nat) (bx:Int) (ls:List Ln):List D:=Fz w h ls++(Ef p w h bx).flatMap (J7 w h (Ji ls))
theorem oU {h s:Nat}{ks:List Int}:(J7 w h ks s).length<=1:=by
 unfold J7;split
 ·simp
 ·split <;> simp
theorem Vw {h s:Nat}{ks:List Int}(e:w.cell s h=[]):J7 w h ks s=[]:=by unfold J7;rw [e]
theorem T8 {h s:Nat}{ks:List Int}{l:Lt}{r:List Lt}(e:w.cell s h=l::r) (hk:l.1∈ks):J7 w h ks s=[.tup [Ae s,.int l.1]]:=by unfold J7;rw [e];exact if_pos hk
theorem Z7 {h s:Nat}{ks:List Int}{l:Lt}{r:List Lt}(e:w.cell s h=l::r) (hk:¬ l.1∈ks):J7 w h ks s=[]:=by unfold J7;rw [e];exact if_neg hk
theorem Qc {h:Nat}{ks:List Int}:∀ l:List Nat,(l.flatMap (J7 w h ks)).length<=l.length
 | []=>by simp
 | s::r=>by
  rw [List.flatMap_cons,List.length_append,List.length_cons];have:=Qc (h:=h) (ks:=ks) r;have:=oU (w:=w) (h:=h) (s:=s) (ks:=ks);omega
theorem cO {h i s:Nat}{ks:List Int}{l:List Nat}(e:l[i]?=some s):(l.take (i+1)).flatMap (J7 w h ks)=(l.take i).flatMap (J7 w h ks)++J7 w h ks s:=by
 rw [List.take_add_one,e,List.flatMap_append];simp
theorem oV (k h:Nat) (bx:Int) (ls:List Ln) (hb:bx=-1\/∃ b:Nat,b < 3/\bx=(b:Int)) (hl:ls.length<=1000) (po:p.ok) (wo:w.ok p) (hh:h < p.plays.length) (q:∀ j h',Ext [] mh h'->mh.length<=j->h'[j]?=some (.lst (Jp p w h bx ls))->P (.ref j) h') :
    wV (Ac (Gk (k+3)) fuel f55 [w.d,.int h,spD (.take bx ls)] mh) P:=by
  have h6:=po.h6;have sl:(Ef p w h bx).length<=6:=by
    unfold Ef;split
    · rw [List.length_range];exact h6
    · split <;> simp
  refine Al (Ab3 (k+2)) mZ.1 mZ.2 rfl ?_;show wS (b55 (k+2)) [some w.d,some (.int h),some (spD (.take bx ls)),none,none,none,none] mh _;unfold b55;refine Ak (Dg ?_);refine Gs ls lnD (fun l=>Ae l.kd) (by omega) ?_ (fun x h' R hx ex hR=>?_) fun m1 x1=>?_
  · dsimp only [spD]
    walk_at "x2"
    exact ⟨_,rfl,K6 rfl⟩
  · refine Bf ⟨rfl,?_⟩;unfold lnD
    walk_at "x2"
    exact hR _ Ext.refl
  refine Bf (Af (Ak (Dg (Tf (Ad ⟨by simp,?_⟩)))));generalize hm2:m1++[MO.lst (ls.map fun l=>Ae l.kd)]=m2;have gk:m2[m1.length]?=some (.lst ((Ji ls).map D.int)):=by
    rw [← hm2,Av];unfold Ji;rw [List.map_map];rfl
  have x2:Ext [] mh m2:=by rw [← hm2];exact x1.trans Ext.more
  have l12:m1.length < m2.length:=by rw [← hm2];simp
  refine Bf (Af ?_);show wS _ [some w.d,some (.int h),some (spD (.take bx ls)),some (.ref m1.length),some (.ref m2.length),none,none] (m2++[MO.lst []]) _;have gk3:(m2++[MO.lst []])[m1.length]?=some (.lst ((Ji ls).map D.int)):=(Ext.more (W:=[])).old _ _ (by simp) gk
  -- behind the bell
  have loop:∀ m3:MH,Ext [] m2 m3->m3[m2.length]?=some (.lst (Fz w h ls))->wS (Ab (Hs (Ec (Ag (Ac (Gk (k+2)) fuel f56) (Aa (vr 0) (Aa (vr 1) (Aa (dop ixD (vr 2) (Zr (.int 1))) (Zr [])))))) (Bb 5)
     (Ab (Bd (Ag (Ac (Gk (k+2)) fuel f45) (Aa (vr 0) (Aa (vr 5) (Aa (vr 1) (Zr []))))) (Bb 6))
      (Ab (ifS (Hq (Aj (dop gtD (Ag Dr (Aa (vr 6) (Zr []))) (Zr (.int 0)))) (Aj (dop (inD false) (dop ixD (dop ixD (vr 6) (Zr (.int 0))) (Zr (.int 0))) (vr 3))))
      (Ab (Ep (Cw "list" Ck (vr 4) (Aa (Bg (Aa (vr 5) (Aa (dop ixD (dop ixD (vr 6) (Zr (.int 0))) (Zr (.int 0))) (Zr [])))) (Zr []))))
       Zn)
      Zn)
      Zn)))
     (Ab (retS (vr 4))
     Zn)) [some w.d,some (.int h),some (spD (.take bx ls)),some (.ref m1.length),some (.ref m2.length),none,none] m3 (Tn P):=fun m3 x3 gf=>by
    have bl1:(Fz w h ls).length<=1:=by unfold Fz;split <;> simp
    refine Ak (Hg (Pq (Br (Aw (Ao (by with_unfolding_all rfl) (Aw (Ao (by with_unfolding_all rfl) (Aw ?_))))))));dsimp only [spD]
    walk_at "x2"
    refine Vv k h bx hb po wo hh fun js m4 x4 hj gs=>?_
    have jf:m2.length < m3.length:=(List.getElem?_eq_some_iff.mp gf).1;refine ⟨_,src_list gs,(Ef p w h bx).map Ae,fun i l m=>Ext [m2.length] m4 m/\m[m2.length]?=some (.lst (Fz w h ls++((Ef p w h bx).take i).flatMap (J7 w h (Ji ls))))/\∃ x5 x6,l=[some w.d,some (.int h),some (spD (.take bx ls)),some (.ref m1.length),some (.ref m2.length),x5,x6],⟨Ext.refl,by rw [x4.old _ _ (by simp) gf];simp,none,none,rfl⟩,?_,?_,?_⟩
    · rintro i l m ⟨xm,_,_⟩;exact Fd (xm.old _ _ (by intro z;have:=List.mem_singleton.mp z;omega) gs)
    · rintro i d l m ed ⟨xm,gm,x5,x6,rfl⟩;rw [List.getElem?_map] at ed;cases es:(Ef p w h bx)[i]? with
      | none=>rw [es] at ed;cases ed
      | some s =>
        rw [es] at ed;cases ed;have hs:=Vu wo hh (List.mem_of_getElem? es);have tf:=cO (w:=w) (h:=h) (ks:=Ji ls) es;have gk4:m[m1.length]?=some (.lst ((Ji ls).map D.int)):=xm.old _ _ (by intro z;have:=List.mem_singleton.mp z;omega) (x4.old _ _ (by simp) (x3.old _ _ (by simp) gk));refine Bf ?_;show wS _ [some w.d,some (.int h),some (spD (.take bx ls)),some (.ref m1.length),some (.ref m2.length),some (Ae s),x6] m _
        walk_at "x2"
        refine Fe (k+1) s h wo hs hh ?_
        walk_at "x2"
        cases ec:w.cell s h with
        | nil =>
          rw [Vw ec] at tf;refine Aq (d:=.int 0) (h:=m) rfl ?_
          walk_at "x2"
          exact ⟨xm,by rw [tf];simpa using gm,_,_,rfl⟩
        | cons l0 lr =>
          refine Bs (ds:=(l0::lr).map ltD) (by intro z z';cases z') rfl ?_
          walk_at "x2"
          refine Oa (by rw [List.length_map,List.length_cons];exact decide_eq_true (by omega)) ?_;unfold lsD;rw [List.map_cons];unfold ltD
          walk_at "x2"
          refine Aq (Pk gk4) ⟨_,rfl,Dj (fun e=>?_) fun e=>?_⟩
          · have e:=of_decide_eq_true e;rw [T8 ec e] at tf
            walk_at "x2"
            refine ⟨ty_list gm,?_⟩
            walk_at "x2"
            have fl:=Qc (w:=w) (h:=h) (ks:=Ji ls) ((Ef p w h bx).take i);have tl:((Ef p w h bx).take i).length<=6:=by rw [List.length_take];omega
            refine Cy gm (by rw [List.length_append];omega) ?_
            walk_at "x2"
            refine ⟨xm.trans Ext.set,?_,_,_,rfl⟩;rw [Eu gm,tf,List.append_assoc]
          · have e:=of_decide_eq_false e;rw [Z7 ec e] at tf;refine Ax (Af (Ax ⟨xm,by rw [tf];simpa using gm,_,_,rfl⟩))
    · rintro l m ⟨xm,gm,x5,x6,rfl⟩;rw [List.length_map,List.take_length] at gm
      walk_at "x2"
      refine q _ _ ?_ x2.len gm;have lm2:mh.length<=m2.length:=x2.len;refine ⟨Nat.le_trans x2.len (Nat.le_trans x3.len (Nat.le_trans x4.len xm.len)),fun i o _ e=>?_⟩;have hi:i < mh.length:=(List.getElem?_eq_some_iff.mp e).1;exact xm.old i o (by intro z;have:=List.mem_singleton.mp z;omega) (x4.old i o (by simp) (x3.old i o (by simp) (x2.old i o (by simp) e)))
  refine Ak (Bl (Tg (Ar (Az (Ad (Ao (by with_unfolding_all rfl) (Aq (Pk gk3) ⟨_,rfl,fun e=>?_,fun e=>?_⟩)))))))
  · walk_at "x2"
    refine Fy (k+1) h (by rw [wo.lp];exact hh) ?_;unfold Pt.d
    walk_at "x2"
    refine Dj (fun e2=>?_) fun e2=>?_
    · walk_at "x2"
      refine ⟨ty_list Av,?_⟩
      walk_at "x2"
      refine Cy Av (by simp) ?_;refine Ax (Af (loop _ ?_ ?_))
      · exact ⟨by simp,fun i o _ ei=>by
          have:i < m2.length:=(List.getElem?_eq_some_iff.mp ei).1
          rw [List.getElem?_set_ne (by omega),List.getElem?_append_left this];exact ei⟩
      · rw [Eu Av];unfold Fz;rw [e,e2];rfl
    · refine Ax (Af (loop _ Ext.more ?_));rw [Av];unfold Fz;rw [e,e2];rfl
  · refine Dv (Ax (Af (loop _ Ext.more ?_)));rw [Av];unfold Fz;rw [e];rfl
end
noncomputable def Agk:D->Bool
 | .non=>true
 | _=>false
theorem oW {mh:MH}{d:D}{P:D->MH->Prop}(h:P (.bl (Agk d)) mh):wV (isD false d .non mh) P:=⟨_,_,rfl,by cases d <;> exact h⟩
noncomputable def chs (p:Pg) (w:Wd) (h:Nat):Sp->List D
 | .choose _ c=>(List.range c).map Ae
 | .pick _ r=>(oth p r h).map T7
 | .out _ g _=>Qa ((w.pt h).se g)
 | .take bx ls=>Jp p w h bx ls
 | .send a _ _ _=>if J6 p w h a=true then [.int 0] else []
 | _=>[.int 0]
noncomputable def chW (p:Pg) (S:List (List Sp)) (w:Wd) (h:Nat):List D:=match stW p S w h with
 | none=>[]
 | some s=>chs p w h s
theorem X5 (k:Nat) (t:D) (mh:MH):Ac (Gk (k+1)) fuel Z1 [.obj "Step" ["form"] [t]] mh=some (t,mh):=by kernel_rfl
section
variable {mh:MH}{P:D->MH->Prop}{p:Pg}{w:Wd}{S:List (List Sp)}
theorem Rp {h:Nat}{s:Sp}(g:Prg p S) (hh:h < p.plays.length) (e:stW p S w h=some s):s.ok p (p.len (plA p h))/\0<=(w.pt h).pl/\(w.pt h).pl < p.len (plA p h):=by
 unfold stW stA at e;split at e
 ·rename_i h0;have hr:plA p h < S.length:=by rw [← Rn g];exact wZ g.po hh
  have eS:S[plA p h]?=some S[plA p h]:=List.getElem?_eq_getElem hr;rw [eS] at e;have e:S[plA p h][(w.pt h).pl.toNat]?=some s:=e;have hl:=(List.getElem?_eq_some_iff.mp e).1;have el:p.len (plA p h)=S[plA p h].length:=by rw [len_eq g,eS];rfl
  refine ⟨?_,h0,by omega⟩;rw [el];exact g.ok _ _ eS s (List.mem_of_getElem? e)
 ·cases e
theorem Ga (k h:Nat) (g:Prg p S) (wo:w.ok p) (hh:h < p.plays.length) (q:∀ j h',Ext [] mh h'->mh.length<=j->h'[j]?=some (.lst (chW p S w h))->P (.ref j) h'):wV (Ac (Gk (k+4)) fuel f52 [p.d,w.d,.int h] mh) P:=by
 have po:=g.po;have h6:=po.h6;obtain ⟨r0,er0,qo⟩:=Vp wo hh;have hH:p.H<=6:=h6;refine Al (Ab0 (k+3)) mW.1 mW.2 rfl ?_;show wS (b52 (k+3)) [some p.d,some w.d,some (.int h),none,none] mh _;unfold b52
 walk_at "x2"
 refine Ij k h g wo hh ?_;unfold chW at q;cases es:stW p S w h with
 | none =>
  rw [es] at q;unfold Z6
  walk_at "x2"
  refine oW ?_
  walk_at "x2"
  exact q _ _ Ext.more (Nat.le_refl _) Av
 | some s =>
  rw [es] at q;obtain ⟨so,p1,p2⟩:=Rp g hh es;have q:∀ j h',Ext [] mh h'->mh.length<=j->h'[j]?=some (.lst (chs p w h s))->P (.ref j) h':=q;refine Bf (Af (Ak (Bl (Ar (Az (Ao (by with_unfolding_all rfl) (Ad (oW ⟨_,rfl,fun e=>(by cases e),fun _=>Ax (Af ?_)⟩))))))))
  refine Ak (Dg (lY (Ao (d:=.obj "Step" ["form"] [spD s]) (by with_unfolding_all rfl) ⟨_,_,_,_,_,rfl,rfl,by decide +kernel,Ad (Aq (X5 (k+2) (spD s) mh) ?_)⟩)));refine Bf (Af ?_);show wS _ [some p.d,some w.d,some (.int h),some (Z6 (some s)),some (spD s)] mh _
  by_cases hn:(∃ (wd:Str) (rest:List D),spD s=.tup (.str wd::rest)/\PyData.strOk wd=true/\(wd==("choose":Str))=false/\(wd==("pick":Str))=false/\(wd==("out":Str))=false/\(wd==("take":Str))=false/\(wd==("send":Str))=false)/\chs p w h s=[.int 0]
  ·obtain ⟨⟨wd,rest,e,h0,h1,h2,h3,h4,h5⟩,ec⟩:=hn;rw [ec] at q;have ix:∀ {Q:D->MH->Prop} {m:MH},Q (.str wd) m->wV (ixD (spD s) (.int 0) m) Q:=fun q=>by
    rw [e];exact Ew q
   walk_at "x2"
   refine ix ?_;refine Ad (Ig (k:=false) (Hh h0 (by decide +kernel) h1 mh) ⟨_,rfl,Dv (Ax (Af ?_))⟩)
   walk_at "x2"
   refine ix ?_;refine Ad (Ig (k:=false) (Hh h0 (by decide +kernel) h2 mh) ⟨_,rfl,Dv (Ax (Af ?_))⟩)
   walk_at "x2"
   refine ix ?_;refine Ad (Ig (k:=false) (Hh h0 (by decide +kernel) h3 mh) ⟨_,rfl,Dv (Ax (Af ?_))⟩)
   walk_at "x2"
   refine ix ?_;refine Ad (Ig (k:=false) (Hh h0 (by decide +kernel) h4 mh) ⟨_,rfl,Dv (Ax (Af ?_))⟩)
   walk_at "x2"
   refine ix ?_;refine Ad (Ig (k:=false) (Hh h0 (by decide +kernel) h5 mh) ⟨_,rfl,Dv (Dv (Ax (Af ?_)))⟩)
   walk_at "x2"
   exact q _ _ Ext.more (Nat.le_refl _) Av
  cases s with
  | choose a c =>
   dsimp only [spD]
   walk_at "x2"
   exact J4 (c:=c) (by have:=so.2;omega) (q _ _ Ext.more (Nat.le_refl _) Av)
  | pick a r =>
   dsimp only [spD]
   walk_at "x2"
   have lo:(oth p r h).length<=6:=Nat.le_trans (List.length_filter_le _ _) (Nat.le_trans Mf h6);refine Gs (oth p r h) Ae T7 (by omega) ?_ (fun x h' R hx ex hR=>?_) fun h' ex=>?_
   ·walk_at "x2"
    refine Z4 (k+1) r h p po mh fun j h1 x1 gj=>?_
    exact ⟨_,src_list gj,x1,T3 gj⟩
   ·refine Bf ⟨rfl,?_⟩
    walk_at "x2"
    exact hR _ Ext.refl
   ·walk_at "x2"
    exact q _ _ (ex.trans Ext.more) ex.len Av
  | out a gg qq =>
   dsimp only [spD]
   walk_at "x2"
   refine Fy (k+2) h (by rw [wo.lp];exact hh) ?_;unfold Pt.d
   walk_at "x2"
   refine Z5 so.1.2 ?_
   walk_at "x2"
   refine vD k _ (Nat.lt_of_lt_of_le (Pt.se_ok qo) (Nat.pow_le_pow_right (by decide) (by omega))) fun j h1 x1 lj gj=>?_
   exact q _ _ x1 lj gj
  | take bx ls =>
   refine Ak (Bl (Ar (Az (Az (Ao (by with_unfolding_all rfl) (Ad ?_))))));dsimp only [spD]
   walk_at "x2"
   exact oV k h bx ls so.1 so.2.1 po wo hh fun j h1 x1 lj gj=>q _ _ x1 lj gj
  | send a kd b c =>
   refine Ak (Bl (Ar (Az (Az (Ao (by with_unfolding_all rfl) (Ad ?_))))));dsimp only [spD]
   walk_at "x2"
   refine Vt (k+1) h a kd b c g wo hh so.1.1 ⟨_,rfl,?_⟩;have q:∀ j h',Ext [] mh h'->mh.length<=j->h'[j]?=some (.lst (if J6 p w h a=true then [.int 0] else []))->P (.ref j) h':=q;cases em:J6 p w h a with
   | true =>
    rw [em] at q
    walk_at "x2"
    exact q _ _ Ext.more (Nat.le_refl _) Av
   | false =>
    rw [em] at q
    walk_at "x2"
    exact q _ _ Ext.more (Nat.le_refl _) Av
  | _=>exact absurd ⟨⟨_,_,rfl,by decide +kernel,by decide +kernel,by decide +kernel,by decide +kernel,by decide +kernel,by decide +kernel⟩,rfl⟩ hn
end
theorem Hj {P:D->MH->Prop}{d:D}{l:DL.Loc}{h:MH}(q:P d h):Tn P (.rt d) l h:=q
noncomputable def Pt.setN (q:Pt) (a:Nat) (n:Int):Pt:=match a with
 | 0=>{ q with n0:=n }
 | 1=>{ q with n1:=n }
 | _=>{ q with n2:=n }
noncomputable def Pt.setM (q:Pt) (a:Nat) (n:Int):Pt:=match a with
 | 0=>{ q with m0:=n }
 | 1=>{ q with m1:=n }
 | _=>{ q with m2:=n }
noncomputable def Pt.setS (q:Pt) (a:Nat) (n:Nat):Pt:=match a with
 | 0=>{ q with s0:=n }
 | _=>{ q with s1:=n }
noncomputable def Pt.to (q:Pt) (pl:Int):Pt:={ q with pl:=pl }
noncomputable def Pt.ring (q:Pt) (b:Bool):Pt:={ q with bell:=b }
theorem Jb (k:Nat) (q:Pt) {a:Nat}(ha:a < 3) (n:Int) (mh:MH):Ac (Gk (k+2)) fuel f17 [q.d,Ae a,.int n] mh=some ((q.setN a n).d,mh):=by
 match a,ha with
 | 0,_=>kernel_rfl
 | 1,_=>kernel_rfl
 | 2,_=>kernel_rfl
theorem Jd (k:Nat) (q:Pt) {a:Nat}(ha:a < 3) (n:Int) (mh:MH):Ac (Gk (k+2)) fuel f18 [q.d,Ae a,.int n] mh=some ((q.setM a n).d,mh):=by
 match a,ha with
 | 0,_=>kernel_rfl
 | 1,_=>kernel_rfl
 | 2,_=>kernel_rfl
theorem K7 (k:Nat) (q:Pt) {a:Nat}(ha:a < 2) (n:Nat) (mh:MH):Ac (Gk (k+2)) fuel f19 [q.d,Ae a,.int n] mh=some ((q.setS a n).d,mh):=by
 match a,ha with
 | 0,_=>kernel_rfl
 | 1,_=>kernel_rfl
theorem Z8 (k:Nat) (q:Pt) (b:Bool) (mh:MH):Ac (Gk (k+2)) fuel f20 [q.d,.bl b] mh=some ((q.ring b).d,mh):=by kernel_rfl
theorem Qd (k:Nat) (q:Pt) (pl:Int) (mh:MH):Ac (Gk (k+2)) fuel f21 [q.d,.int pl] mh=some ((q.to pl).d,mh):=by kernel_rfl
theorem Bx (k:Nat) (q:Pt) (mh:MH):Ac (Gk (k+3)) fuel f22 [q.d] mh=some ((q.to (q.pl+1)).d,mh):=by kernel_rfl
section
variable {H L:Nat}{q:Pt}
theorem Je (h:q.ok H L) (a:Nat) (n:Int):(q.setN a n).ok H L:=by
 unfold Pt.setN;split <;> exact ⟨h.pl1,h.pl2,h.a0,h.a1,h.a2,h.b0,h.b1⟩
theorem Jf (h:q.ok H L) (a:Nat) {n:Int}(hn:-1<=n/\n<=(H:Int) - 1):(q.setM a n).ok H L:=by
 unfold Pt.setM;split
 ·exact ⟨h.pl1,h.pl2,hn,h.a1,h.a2,h.b0,h.b1⟩
 ·exact ⟨h.pl1,h.pl2,h.a0,hn,h.a2,h.b0,h.b1⟩
 ·exact ⟨h.pl1,h.pl2,h.a0,h.a1,hn,h.b0,h.b1⟩
theorem K8 (h:q.ok H L) (a:Nat) {n:Nat}(hn:n < 2 ^ H):(q.setS a n).ok H L:=by
 unfold Pt.setS;split
 ·exact ⟨h.pl1,h.pl2,h.a0,h.a1,h.a2,hn,h.b1⟩
 ·exact ⟨h.pl1,h.pl2,h.a0,h.a1,h.a2,h.b0,hn⟩
theorem K9 (h:q.ok H L) {pl:Int}(h1:-1<=pl) (h2:pl<=L):(q.to pl).ok H L:=⟨h1,h2,h.a0,h.a1,h.a2,h.b0,h.b1⟩
theorem Z9 (h:q.ok H L) (b:Bool):(q.ring b).ok H L:=⟨h.pl1,h.pl2,h.a0,h.a1,h.a2,h.b0,h.b1⟩
theorem Dz (a:Nat) (n:Int):(q.setN a n).pl=q.pl:=by unfold Pt.setN;split <;> rfl
theorem En (a:Nat) (n:Int):(q.setM a n).pl=q.pl:=by unfold Pt.setM;split <;> rfl
theorem Eo (a:Nat) (n:Nat):(q.setS a n).pl=q.pl:=by unfold Pt.setS;split <;> rfl
end
theorem Vx {f:D->D->MH->Option (D×MH)}{x y d:D}{mh:MH}{P:D->MH->Prop}(e:∀ mh,f x y mh=some (d,mh)) (h:P d mh):wV (f x y mh) P:=⟨_,_,e mh,h⟩
theorem Qe {f:D->D->MH->Option (D×MH)}{x y:D}{b:Bool}{mh:MH}{P:D->MH->Prop}(e:∀ mh,f x y mh=some (.bl b,mh)) (h:P (.bl b) mh):wV (f x y mh) P:=⟨_,_,e mh,h⟩
theorem Zi {x y:D}{mh:MH}{P:D->MH->Prop}(e:∀ mh,inD false x y mh=some (.bl false,mh)) (h:P (.bl false) mh):wV (inD false x y mh) P:=⟨_,_,e mh,h⟩
local macro_rules | `(tactic| walk_at "x0") => `(tactic| repeat (first | walk_at "s" | with_reducible refine Hj ?_ | with_reducible refine Fb (by simp) ?_ | with_reducible refine Ew ?_ | with_reducible refine Gn ?_ | with_reducible refine Dw ?_ | with_reducible refine Ii ?_ | with_reducible refine J1 ?_ | with_reducible refine Abi (by kernel_rfl) (by kernel_rfl) (by decide +kernel) ?_ | with_reducible refine Abj (by kernel_rfl) (by kernel_rfl) (by decide +kernel) ?_))
section
variable {mh:MH}{P:D->MH->Prop}{p:Pg}{w:Wd}{S:List (List Sp)}{L:Nat}{q:Pt}
theorem oX (k s:Nat) (hs:s < 2 ^ 20) (h:∀ h',Ext [] mh h'->P (.int ((mem s).length:Nat)) h'):wV (Ac (Gk (k+3)) fuel f5 [.int s] mh) P:=by
 refine Al (Afc (k+2)) wW.1 wW.2 rfl ?_;show wS (b5 (k+2)) [some (.int s)] mh _;unfold b5
 walk_at "x0"
 refine Ni k s hs mh fun h1 x1=>?_
 walk_at "x0"
 exact Bs (ds:=(mem s).map Ae) (by intro z z';cases z') rfl (by rw [List.length_map];exact h _ x1)
theorem vG {s m:Nat}(hm:s.testBit m=true):((s:Nat):Int) - ((setOf [m]:Nat):Int)=((s - 2 ^ m:Nat):Int):=by
 have e:setOf [m]=2 ^ m:=by show (0 ||| 2 ^ m)=2 ^ m;exact Nat.zero_or _
 have:=Nat.ge_two_pow_of_testBit hm;rw [e];omega
theorem Afh {s H:Nat}(h6:H<=6) (h:s < 2 ^ H):s < 2 ^ 20:=Nat.lt_of_lt_of_le h (Nat.pow_le_pow_right (by decide) (by omega))
noncomputable def Pt.on (q:Pt):Pt:=q.to (q.pl+1)
noncomputable def cInt:D->Int
 | .int i=>i
 | .tup [.int i]=>i
 | _=>0
noncomputable def Pt.jp (q:Pt) (b:Bool) (t:Nat):Pt:=if b=true then q.to (t:Nat) else q.on
noncomputable def quF (p:Pg) (h:Nat) (q:Pt) (c:D):Sp->Pt
 | .put a n=>(q.setN a n).on
 | .copy a b=>(q.setN a (q.nu b)).on
 | .raise a n=>(q.setN a (q.nu a+n)).on
 | .sum a b=>(q.setN a (q.nu a+q.nu b)).on
 | .choose a _=>(q.setN a (cInt c)).on
 | .me a=>(q.setM a (h:Nat)).on
 | .only a r=>(q.setM a (((hands p r).headD 0:Nat))).on
 | .pick a _=>(q.setM a (cInt c)).on
 | .all g r=>(q.setS g (setOf (oth p r h))).on
 | .empty g=>(q.setS g 0).on
 | .join g a=>(q.setS g (if q.nm a=-1 then q.se g else q.se g ||| setOf [(q.nm a).toNat])).on
 | .out a g t=>if q.se g=0 then q.to (t:Nat) else ((q.setS g (q.se g - 2 ^ (cInt c).toNat)).setM a (cInt c)).on
 | .bell=>(q.ring true).on
 | .less a n t=>q.jp (decide (q.nu a < n)) t
 | .before a b t=>q.jp (decide (q.nu a < q.nu b)) t
 | .go t=>q.to (t:Nat)
 | .alike a b t=>q.jp (q.nm a==q.nm b) t
 | .many g n t=>q.jp (decide ((n:Int)<=((mem (q.se g)).length:Nat))) t
 | _=>q
theorem cP (k h:Nat) (g:Prg p S) (wo:w.ok p) (hh:h < p.plays.length) (s:Sp) (so:s.ok p L) (qo:(w.pt h).ok p.H L) (p1:0<=(w.pt h).pl) (p2:(w.pt h).pl < L) (c:D) (hc:c∈chs p w h s) (ht:∀ bx ls,s≠.take bx ls) (hs:∀ a kd b c,s≠.send a kd b c)
  (f:∀ (q':Pt) h',q'.ok p.H L->0<=q'.pl->q'=quF p h (w.pt h) c s->Ext [] mh h'->P q'.d h'):wV (Ac (Gk (k+5)) fuel f62 [p.d,.int h,(w.pt h).d,spD s,c] mh) P:=by
 have po:=g.po;have hH:p.H<=6:=po.h6;refine Al (Ab6 (k+4)) nD.1 nD.2 rfl ?_;show wS (b62 (k+4)) [some p.d,some (.int h),some (w.pt h).d,some (spD s),some c,none] mh _;unfold b62;generalize hq:w.pt h=q at qo p1 p2 f;have mv:∀ (y:Pt),y.ok p.H L->y.pl=q.pl->(y.to (y.pl+1)).ok p.H L:=fun y yo ye=>K9 yo (by omega) (by omega)
 have mp:∀ (y:Pt),y.pl=q.pl->0<=(y.to (y.pl+1)).pl:=fun y e=>by show 0<=y.pl+1;omega
 have ix3:∀ {P:D->MH->Prop} {m:MH},P (.tup [.int q.n0,.int q.n1,.int q.n2]) m->wV (ixD q.d (.int 1) m) P:=fun h=>Gn h
 have ixM:∀ {P:D->MH->Prop} {m:MH},P (.tup [.int q.m0,.int q.m1,.int q.m2]) m->wV (ixD q.d (.int 2) m) P:=fun h=>Dw h
 have ixS:∀ {P:D->MH->Prop} {m:MH},P (.tup [.int q.s0,.int q.s1]) m->wV (ixD q.d (.int 3) m) P:=fun h=>Ii h
 cases s with
 | put a n =>
  dsimp only [spD]
  walk_at "x0"
  refine Qe (f:=inD false) (b:=true) (fun _=>by kernel_rfl) ?_
  walk_at "x0"
  refine ix3 ?_
  walk_at "x0"
  refine Al (Px (k+3)) Gj.1 Gj.2 rfl ?_;show wS (b63 (k+3)) [some (.tup [.int q.n0,.int q.n1,.int q.n2]),some _,some _,none] mh _;unfold b63
  walk_at "x0"
  walk_at "x0"
  refine Aq (Jb (k+2) q so _ mh) ?_
  walk_at "x0"
  refine Aq (Bx (k+1) _ _) ?_;exact f _ _ (mv _ (Je qo _ _) (Dz _ _)) (mp _ (Dz _ _)) rfl Ext.refl
 | copy a b =>
  dsimp only [spD]
  walk_at "x0"
  refine Qe (f:=inD false) (b:=true) (fun _=>by kernel_rfl) ?_
  walk_at "x0"
  refine ix3 ?_
  walk_at "x0"
  refine Al (Px (k+3)) Gj.1 Gj.2 rfl ?_;show wS (b63 (k+3)) [some (.tup [.int q.n0,.int q.n1,.int q.n2]),some _,some _,none] mh _;unfold b63
  walk_at "x0"
  refine Nj so.2 ?_
  walk_at "x0"
  refine Aq (Jb (k+2) q so.1 _ mh) ?_
  walk_at "x0"
  refine Aq (Bx (k+1) _ _) ?_;exact f _ _ (mv _ (Je qo _ _) (Dz _ _)) (mp _ (Dz _ _)) rfl Ext.refl
 | raise a n =>
  dsimp only [spD]
  walk_at "x0"
  refine Qe (f:=inD false) (b:=true) (fun _=>by kernel_rfl) ?_
  walk_at "x0"
  refine ix3 ?_
  walk_at "x0"
  refine Al (Px (k+3)) Gj.1 Gj.2 rfl ?_;show wS (b63 (k+3)) [some (.tup [.int q.n0,.int q.n1,.int q.n2]),some _,some _,none] mh _;unfold b63
  walk_at "x0"
  refine Nj so ?_
  walk_at "x0"
  refine Aq (Jb (k+2) q so _ mh) ?_
  walk_at "x0"
  refine Aq (Bx (k+1) _ _) ?_;exact f _ _ (mv _ (Je qo _ _) (Dz _ _)) (mp _ (Dz _ _)) rfl Ext.refl
 | sum a b =>
  dsimp only [spD]
  walk_at "x0"
  refine Qe (f:=inD false) (b:=true) (fun _=>by kernel_rfl) ?_
  walk_at "x0"
  refine ix3 ?_
  walk_at "x0"
  refine Al (Px (k+3)) Gj.1 Gj.2 rfl ?_;show wS (b63 (k+3)) [some (.tup [.int q.n0,.int q.n1,.int q.n2]),some _,some _,none] mh _;unfold b63
  walk_at "x0"
  refine Nj so.1 ?_
  walk_at "x0"
  refine Nj so.2 ?_
  walk_at "x0"
  refine Aq (Jb (k+2) q so.1 _ mh) ?_
  walk_at "x0"
  refine Aq (Bx (k+1) _ _) ?_;exact f _ _ (mv _ (Je qo _ _) (Dz _ _)) (mp _ (Dz _ _)) rfl Ext.refl
 | choose a n =>
  obtain ⟨i,_,rfl⟩:=List.mem_map.mp (show c∈(List.range n).map Ae from hc);dsimp only [spD]
  walk_at "x0"
  refine Qe (f:=inD false) (b:=true) (fun _=>by kernel_rfl) ?_
  walk_at "x0"
  refine ix3 ?_
  walk_at "x0"
  refine Al (Px (k+3)) Gj.1 Gj.2 rfl ?_;show wS (b63 (k+3)) [some (.tup [.int q.n0,.int q.n1,.int q.n2]),some _,some _,none] mh _;unfold b63
  walk_at "x0"
  walk_at "x0"
  refine Aq (Jb (k+2) q so.1 _ mh) ?_
  walk_at "x0"
  refine Aq (Bx (k+1) _ _) ?_;exact f _ _ (mv _ (Je qo _ _) (Dz _ _)) (mp _ (Dz _ _)) rfl Ext.refl
 | me a =>
  dsimp only [spD]
  walk_at "x0"
  refine Zi (fun _=>by kernel_rfl) ?_
  walk_at "x0"
  refine Qe (f:=inD false) (b:=true) (fun _=>by kernel_rfl) ?_
  walk_at "x0"
  refine Al (Xq (k+3)) Lr.1 Lr.2 rfl ?_;show wS (b64 (k+3)) [some p.d,some (.int h),some _,some _,none] mh _;unfold b64
  walk_at "x0"
  refine Aq (Jd (k+2) q so (h:Int) mh) ?_
  walk_at "x0"
  refine Aq (Bx (k+1) _ _) ?_;have hh:h < p.H:=hh;exact f _ _ (mv _ (Jf qo _ ⟨by omega,by omega⟩) (En _ _)) (mp _ (En _ _)) rfl Ext.refl
 | only a r =>
  dsimp only [spD]
  walk_at "x0"
  refine Zi (fun _=>by kernel_rfl) ?_
  walk_at "x0"
  refine Qe (f:=inD false) (b:=true) (fun _=>by kernel_rfl) ?_
  walk_at "x0"
  refine Al (Xq (k+3)) Lr.1 Lr.2 rfl ?_;show wS (b64 (k+3)) [some p.d,some (.int h),some _,some _,none] mh _;unfold b64
  walk_at "x0"
  refine Rm (k+2) r p po mh fun m1 x1=>?_
  cases eh:hands p r with
  | nil=>exact absurd eh so.2
  | cons y ys =>
   have hy:y < p.H:=Vs (r:=r) (by rw [eh];exact List.mem_cons_self);unfold cN;rw [List.map_cons]
   walk_at "x0"
   refine Aq (Jd (k+2) q so.1 (y:Int) m1) ?_
   walk_at "x0"
   refine Aq (Bx (k+1) _ _) ?_;exact f _ _ (mv _ (Jf qo _ ⟨by omega,by omega⟩) (En _ _)) (mp _ (En _ _)) (by dsimp only [quF];rw [eh];rfl) x1
 | pick a r =>
  obtain ⟨y,hy,rfl⟩:=List.mem_map.mp (show c∈(oth p r h).map T7 from hc);have hy:y < p.H:=Xz hy;dsimp only [spD]
  walk_at "x0"
  refine Zi (fun _=>by kernel_rfl) ?_
  walk_at "x0"
  refine Qe (f:=inD false) (b:=true) (fun _=>by kernel_rfl) ?_
  walk_at "x0"
  refine Al (Xq (k+3)) Lr.1 Lr.2 rfl ?_;show wS (b64 (k+3)) [some p.d,some (.int h),some _,some _,none] mh _;unfold b64
  walk_at "x0"
  unfold T7
  walk_at "x0"
  refine Aq (Jd (k+2) q so (y:Int) mh) ?_
  walk_at "x0"
  refine Aq (Bx (k+1) _ _) ?_;exact f _ _ (mv _ (Jf qo _ ⟨by omega,by omega⟩) (En _ _)) (mp _ (En _ _)) rfl Ext.refl
 | all gg r =>
  dsimp only [spD]
  walk_at "x0"
  refine Zi (fun _=>by kernel_rfl) ?_
  walk_at "x0"
  refine Zi (fun _=>by kernel_rfl) ?_
  walk_at "x0"
  refine Qe (f:=inD false) (b:=true) (fun _=>by kernel_rfl) ?_
  walk_at "x0"
  refine Al (Xr (k+3)) Ls.1 Ls.2 rfl ?_;show wS (b65 (k+3)) [some p.d,some (.int h),some q.d,some _,none,none,none] mh _;unfold b65
  walk_at "x0"
  refine Z4 (k+1) r h p po mh fun j m1 x1 gj=>?_
  walk_at "x0"
  refine Pz (k+2) j (oth p r h) m1 gj (fun x hx=>by have:x < p.H:=Xz hx;omega) ?_
  walk_at "x0"
  refine Aq (K7 (k+2) q so _ m1) ?_
  walk_at "x0"
  refine Aq (Bx (k+1) _ _) ?_;exact f _ _ (mv _ (K8 qo _ (Vr fun x hx=>Xz hx)) (Eo _ _)) (mp _ (Eo _ _)) rfl x1
 | empty gg =>
  dsimp only [spD]
  walk_at "x0"
  refine Zi (fun _=>by kernel_rfl) ?_
  walk_at "x0"
  refine Zi (fun _=>by kernel_rfl) ?_
  walk_at "x0"
  refine Qe (f:=inD false) (b:=true) (fun _=>by kernel_rfl) ?_
  walk_at "x0"
  refine Al (Xr (k+3)) Ls.1 Ls.2 rfl ?_;show wS (b65 (k+3)) [some p.d,some (.int h),some q.d,some _,none,none,none] mh _;unfold b65
  walk_at "x0"
  refine Aq (K7 (k+2) q so 0 mh) ?_
  walk_at "x0"
  refine Aq (Bx (k+1) _ _) ?_;exact f _ _ (mv _ (K8 qo _ (Nat.two_pow_pos _)) (Eo _ _)) (mp _ (Eo _ _)) rfl Ext.refl
 | join gg a =>
  dsimp only [spD]
  walk_at "x0"
  refine Zi (fun _=>by kernel_rfl) ?_
  walk_at "x0"
  refine Zi (fun _=>by kernel_rfl) ?_
  walk_at "x0"
  refine Qe (f:=inD false) (b:=true) (fun _=>by kernel_rfl) ?_
  walk_at "x0"
  refine Al (Xr (k+3)) Ls.1 Ls.2 rfl ?_;show wS (b65 (k+3)) [some p.d,some (.int h),some q.d,some _,none,none,none] mh _;unfold b65
  walk_at "x0"
  unfold Pt.d
  walk_at "x0"
  refine Z5 so.1 ?_
  walk_at "x0"
  refine P0 so.2 ?_;have nk:=Pt.nm_ok (a:=a) qo;have sk:=Pt.se_ok (g:=gg) qo;generalize hto:q.nm a=to at nk;refine Bf (Af (Ak (Hf (lN (Ar (Az (Ao (by with_unfolding_all rfl) (Ad (Bp ⟨_,rfl,fun e=>?_,fun e=>?_⟩)))))))))
  ·walk_at "x0"
   refine Aq (K7 (k+2) q so.1 (q.se gg) mh) ?_
   walk_at "x0"
   refine Aq (Bx (k+1) _ _) ?_;exact f _ _ (mv _ (K8 qo _ sk) (Eo _ _)) (mp _ (Eo _ _)) (by dsimp only [quF];rw [hto,if_pos (eq_of_beq e)];rfl) Ext.refl
  ·have e:=beq_eq_false_iff_ne.mp e;obtain ⟨e1,e2⟩:=Mg nk e;rw [e1]
   walk_at "x0"
   refine Pz (k+2) mh.length [to.toNat] _ (by rw [Av];rfl) (fun x hx=>by rw [List.mem_singleton.mp hx];omega) ?_;refine Xx ?_
   walk_at "x0"
   refine Aq (K7 (k+2) q so.1 _ _) ?_
   walk_at "x0"
   refine Aq (Bx (k+1) _ _) ?_;exact f _ _ (mv _ (K8 qo _ (Nat.or_lt_two_pow sk (Vr fun x hx=>by rw [List.mem_singleton.mp hx];exact e2))) (Eo _ _)) (mp _ (Eo _ _)) (by dsimp only [quF];rw [hto,if_neg e];rfl) Ext.more
 | out a gg qq =>
  dsimp only [spD]
  walk_at "x0"
  refine Zi (fun _=>by kernel_rfl) ?_
  walk_at "x0"
  refine Zi (fun _=>by kernel_rfl) ?_
  walk_at "x0"
  refine Zi (fun _=>by kernel_rfl) ?_
  walk_at "x0"
  refine Al (Ab7 (k+3)) nF.1 nF.2 rfl ?_
  show wS (b67 (k+3)) [some q.d,some (.tup [.str "out",Ae a,Ae gg,Ae qq]),some c,none,none] mh _;unfold b67;have hc:c∈Qa (q.se gg):=by rw [← hq];exact hc
  have sk:=Pt.se_ok (g:=gg) qo;obtain ⟨⟨ha,hg⟩,hqq⟩:=so;refine Ak (Dg (Az (Az (Ao (by with_unfolding_all rfl) (Ad (Ii ?_))))))
  walk_at "x0"
  refine Z5 hg ?_;unfold Qa at hc;refine Bf (Af (Ak (Bl (Ar (Az (Ao (by with_unfolding_all rfl) (Ad (Bp ⟨_,rfl,fun e=>?_,fun e=>?_⟩))))))))
  ·walk_at "x0"
   refine Aq (Qd (k+1) q _ _) ?_
   walk_at "x0"
   exact f _ _ (K9 qo (by omega) (by omega)) (by show (0:Int)<=(qq:Nat);omega) (by dsimp only [quF];rw [if_pos (by have e:((q.se gg:Nat):Int)=0:=eq_of_beq e;omega)]) Ext.refl
  ·have e:¬ ((q.se gg:Nat):Int)=0:=beq_eq_false_iff_ne.mp e;rw [if_neg (by omega)] at hc;obtain ⟨m,hm,rfl⟩:=List.mem_map.mp hc;have hb:(q.se gg).testBit m=true:=(Xm.mp hm).2;have hmH:m < p.H:=by
    rcases Nat.lt_or_ge m p.H with z|z
    ·exact z
    ·have:=Nat.ge_two_pow_of_testBit hb;have:=Nat.pow_le_pow_right (n:=2) (by decide) z;omega
   refine Ax (Af (Ak (Dg (Br (Aw (Ao (by with_unfolding_all rfl) (Aw ?_))))))) 
   walk_at "x0"
   refine Vq (k+2) [m] _ (fun x hx=>by rw [List.mem_singleton.mp hx];omega) ?_;refine lV ?_;rw [vG hb]
   walk_at "x0"
   refine Aq (K7 (k+1) q hg _ _) ?_
   walk_at "x0"
   unfold T7
   walk_at "x0"
   refine Aq (Jd (k+1) _ ha (m:Int) _) ?_
   walk_at "x0"
   refine Aq (Bx k _ _) ?_
   walk_at "x0"
   refine f _ _ (mv _ (Jf (K8 qo _ (Nat.lt_of_le_of_lt (Nat.sub_le _ _) sk)) _ ⟨by omega,by omega⟩) (by rw [En,Eo])) (mp _ (by rw [En,Eo])) (by dsimp only [quF];rw [if_neg (by omega)];rfl) Ext.refl
 | bell =>
  dsimp only [spD]
  walk_at "x0"
  refine Zi (fun _=>by kernel_rfl) ?_
  walk_at "x0"
  refine Zi (fun _=>by kernel_rfl) ?_
  walk_at "x0"
  refine Zi (fun _=>by kernel_rfl) ?_
  walk_at "x0"
  refine Aq (Z8 (k+2) q true mh) ?_
  walk_at "x0"
  refine Aq (Bx (k+1) _ _) ?_;exact f _ _ (mv _ (Z9 qo _) rfl) (mp _ rfl) rfl Ext.refl
 | less a n qq =>
  dsimp only [spD]
  walk_at "x0"
  refine Zi (fun _=>by kernel_rfl) ?_
  walk_at "x0"
  refine Zi (fun _=>by kernel_rfl) ?_
  walk_at "x0"
  refine Zi (fun _=>by kernel_rfl) ?_
  walk_at "x0"
  refine Al (Py (k+3)) Gm.1 Gm.2 rfl ?_;show wS (b66 (k+3)) [some q.d,some _,none] mh _;unfold b66
  walk_at "x0"
  refine ix3 ?_
  walk_at "x0"
  refine Nj so.1 ?_
  walk_at "x0"
  have sq:=so.2;refine Dj (fun e=>?_) fun e=>?_
  ·walk_at "x0"
   refine Vx (f:=ixD) (d:=Ae qq) (fun _=>by kernel_rfl) ?_
   walk_at "x0"
   refine Aq (Qd (k+2) q _ _) ?_;exact f _ _ (K9 qo (by omega) (by omega)) (by show (0:Int)<=(qq:Nat);omega) (by show _=Pt.jp _ _ _;unfold Pt.jp;exact (if_pos e).symm) Ext.refl
  ·walk_at "x0"
   refine Aq (Bx (k+1) _ _) ?_;exact f _ _ (mv _ qo rfl) (mp _ rfl) (by show _=Pt.jp _ _ _;unfold Pt.jp;exact (if_neg (by rw [e];decide)).symm) Ext.refl
 | before a b qq =>
  dsimp only [spD]
  walk_at "x0"
  refine Zi (fun _=>by kernel_rfl) ?_
  walk_at "x0"
  refine Zi (fun _=>by kernel_rfl) ?_
  walk_at "x0"
  refine Zi (fun _=>by kernel_rfl) ?_
  walk_at "x0"
  refine Al (Py (k+3)) Gm.1 Gm.2 rfl ?_;show wS (b66 (k+3)) [some q.d,some _,none] mh _;unfold b66
  walk_at "x0"
  refine ix3 ?_
  walk_at "x0"
  refine Nj so.1.1 ?_
  walk_at "x0"
  refine ix3 ?_
  walk_at "x0"
  refine Nj so.1.2 ?_
  walk_at "x0"
  have sq:=so.2;refine Dj (fun e=>?_) fun e=>?_
  ·walk_at "x0"
   refine Vx (f:=ixD) (d:=Ae qq) (fun _=>by kernel_rfl) ?_
   walk_at "x0"
   refine Aq (Qd (k+2) q _ _) ?_;exact f _ _ (K9 qo (by omega) (by omega)) (by show (0:Int)<=(qq:Nat);omega) (by show _=Pt.jp _ _ _;unfold Pt.jp;exact (if_pos e).symm) Ext.refl
  ·walk_at "x0"
   refine Aq (Bx (k+1) _ _) ?_;exact f _ _ (mv _ qo rfl) (mp _ rfl) (by show _=Pt.jp _ _ _;unfold Pt.jp;exact (if_neg (by rw [e];decide)).symm) Ext.refl
 | go qq =>
  have so:qq<=L:=so;dsimp only [spD]
  walk_at "x0"
  refine Zi (fun _=>by kernel_rfl) ?_
  walk_at "x0"
  refine Zi (fun _=>by kernel_rfl) ?_
  walk_at "x0"
  refine Zi (fun _=>by kernel_rfl) ?_
  walk_at "x0"
  refine Al (Py (k+3)) Gm.1 Gm.2 rfl ?_;show wS (b66 (k+3)) [some q.d,some _,none] mh _;unfold b66
  walk_at "x0"
  refine Vx (f:=ixD) (d:=Ae qq) (fun _=>by kernel_rfl) ?_
  walk_at "x0"
  refine Aq (Qd (k+2) q _ _) ?_;exact f _ _ (K9 qo (by omega) (by omega)) (by show (0:Int)<=(qq:Nat);omega) rfl Ext.refl
 | alike a b qq =>
  dsimp only [spD]
  walk_at "x0"
  refine Zi (fun _=>by kernel_rfl) ?_
  walk_at "x0"
  refine Zi (fun _=>by kernel_rfl) ?_
  walk_at "x0"
  refine Zi (fun _=>by kernel_rfl) ?_
  walk_at "x0"
  refine Al (Py (k+3)) Gm.1 Gm.2 rfl ?_;show wS (b66 (k+3)) [some q.d,some _,none] mh _;unfold b66
  walk_at "x0"
  refine ixM ?_
  walk_at "x0"
  refine P0 so.1.1 ?_
  walk_at "x0"
  refine ixM ?_
  walk_at "x0"
  refine P0 so.1.2 ?_
  walk_at "x0"
  have sq:=so.2;refine Dj (fun e=>?_) fun e=>?_
  ·walk_at "x0"
   refine Vx (f:=ixD) (d:=Ae qq) (fun _=>by kernel_rfl) ?_
   walk_at "x0"
   refine Aq (Qd (k+2) q _ _) ?_;exact f _ _ (K9 qo (by omega) (by omega)) (by show (0:Int)<=(qq:Nat);omega) (by show _=Pt.jp _ _ _;unfold Pt.jp;exact (if_pos e).symm) Ext.refl
  ·walk_at "x0"
   refine Aq (Bx (k+1) _ _) ?_;exact f _ _ (mv _ qo rfl) (mp _ rfl) (by show _=Pt.jp _ _ _;unfold Pt.jp;exact (if_neg (by rw [e];decide)).symm) Ext.refl
 | many gg n qq =>
  dsimp only [spD]
  walk_at "x0"
  refine Zi (fun _=>by kernel_rfl) ?_
  walk_at "x0"
  refine Zi (fun _=>by kernel_rfl) ?_
  walk_at "x0"
  refine Zi (fun _=>by kernel_rfl) ?_
  walk_at "x0"
  refine Al (Py (k+3)) Gm.1 Gm.2 rfl ?_;show wS (b66 (k+3)) [some q.d,some _,none] mh _;unfold b66
  walk_at "x0"
  refine ixS ?_
  walk_at "x0"
  refine Z5 so.1 ?_
  walk_at "x0"
  refine oX k _ (Afh hH (Pt.se_ok qo)) fun m1 x1=>?_
  walk_at "x0"
  have sq:=so.2;refine Dj (fun e=>?_) fun e=>?_
  ·walk_at "x0"
   refine Vx (f:=ixD) (d:=Ae qq) (fun _=>by kernel_rfl) ?_
   walk_at "x0"
   refine Aq (Qd (k+2) q _ _) ?_;exact f _ _ (K9 qo (by omega) (by omega)) (by show (0:Int)<=(qq:Nat);omega) (by show _=Pt.jp _ _ _;unfold Pt.jp;exact (if_pos e).symm) x1
  ·walk_at "x0"
   refine Aq (Bx (k+1) _ _) ?_;exact f _ _ (mv _ qo rfl) (mp _ rfl) (by show _=Pt.jp _ _ _;unfold Pt.jp;exact (if_neg (by rw [e];decide)).symm) x1
 | take bx ls=>exact absurd rfl (ht bx ls)
 | send a kd b c'=>exact absurd rfl (hs a kd b c')
end
inductive Ed where
 | no | app (t:Nat) (m:Lt) | pop (s:Nat)
noncomputable def Wd.ed (w:Wd) (h:Nat):Ed->Wd
 | .no=>w
 | .app t m=>w.setC h t (w.cell h t++[m])
 | .pop s=>w.setC s h (w.cell s h).tail
noncomputable def Wd.ap (w:Wd) (h:Nat) (e:Pt×Ed):Wd:=(w.setP h e.1).ed h e.2
noncomputable def vH (b:Bool) (to:Int) (m:Lt):Ed:=if b=true then .no else .app to.toNat m
noncomputable def Nu (q:Pt) (f:Nat->List Lt) (ls:List Ln):D->Pt×Ed
 | .tup [.int x,.int kd]=>match ls.filter (fun l=>((l.kd:Nat):Int)==kd) with
  | ln::_=>if ([x,kd]==[-1,0])=true then ((q.to ((ln.q:Nat):Int)).ring false,.no) else match f x.toNat with
   | l::_=>(((((q.to ((ln.q:Nat):Int)).setN ln.a l.2.1).setM ln.b l.2.2).setM ln.c x),.pop x.toNat)
   | []=>(q,.no)
  | []=>(q,.no)
 | _=>(q,.no)
noncomputable def eff (p:Pg) (w:Wd) (h:Nat) (c:D):Sp->Pt×Ed
 | .send a kd b c'=>((w.pt h).on,vH (Jo w ((w.pt h).nm a)) ((w.pt h).nm a) ((kd:Int),(w.pt h).nu b,(w.pt h).nm c'))
 | .take _ ls=>Nu (w.pt h) (fun s=>w.cell s h) ls c
 | s=>(quF p h (w.pt h) c s,.no)
theorem oY (mh:MH) (xs ys:List Int):eqB mh (.tup (xs.map D.int)) (.tup (ys.map D.int))=some (xs==ys):=by
 have e:∀ zs:List Int,py mh 60 (.tup (zs.map D.int))=some (.tuple (zs.map PyData.int)):=fun zs=>by
  show (match Df (py mh 59) (zs.map D.int) with | some xs=>some (PyData.tuple xs) | none=>none)=_;rw [Iv]
 unfold eqB;rw [e,e];simp only [PyData.eqv,Ie]
section
variable {mh:MH}{P:D->MH->Prop}{p:Pg}{w:Wd}{S:List (List Sp)}
theorem T9 (wo:w.ok p) {s t:Nat}(hs:s < p.plays.length) (ht:t < p.plays.length):oO p (w.cell s t):=by
 obtain ⟨v,e1,e2,vo⟩:=T5 wo hs ht;exact vo.2 _ (List.mem_of_getElem? e2)
theorem La (wo:w.ok p) {h:Nat}(hh:h < p.plays.length):(w.pt h).ok p.H (p.len (plA p h)):=by
 obtain ⟨r,er,qo⟩:=Vp wo hh;rw [Ro hh] at er;cases er;exact qo
theorem oZ (k h a kd b c:Nat) (g:Prg p S) (wo:w.ok p) (hh:h < p.plays.length) (so:Sp.ok p (p.len (plA p h)) (.send a kd b c)) (p1:0<=(w.pt h).pl) (p2:(w.pt h).pl < p.len (plA p h)) (hm:J6 p w h a=true)
  (f:∀ w':Wd,w'.ok p->0<=(w.pt h).on.pl->w'=w.ap h ((w.pt h).on,vH (Jo w ((w.pt h).nm a)) ((w.pt h).nm a) ((kd:Int),(w.pt h).nu b,(w.pt h).nm c))->P w'.d mh):wV (Ac (Gk (k+4)) fuel f68 [w.d,.int h,spD (.send a kd b c)] mh) P:=by
 obtain ⟨⟨ha,hb,hc⟩,hk1,hk2⟩:=so;have po:=g.po;have rm:=po.rm;have qo:=La wo hh;have nk:=Pt.nm_ok (a:=a) qo;have nc:=Pt.nm_ok (a:=c) qo;refine Al (Ab8 (k+3)) nG.1 nG.2 rfl ?_;show wS (b68 (k+3)) [some w.d,some (.int h),some (spD (.send a kd b c)),none,none,none,none] mh _;unfold b68
 walk_at "x0"
 refine Fy (k+2) h (by rw [wo.lp];exact hh) ?_
 walk_at "x0"
 refine Aq (Bx k _ _) ?_
 walk_at "x0"
 refine Gu (k+1) h po wo hh _ ?_;have qo1:=K9 qo (pl:=(w.pt h).pl+1) (by omega) (by omega);have w1o:(w.setP h ((w.pt h).to ((w.pt h).pl+1))).ok p:=Ob wo fun r er=>by
  rw [Ro hh] at er;cases er;exact qo1
 have pl1:0<=(w.pt h).on.pl:=by show 0<=(w.pt h).pl+1;omega
 unfold J6 Jo at hm;unfold Jo at f;refine Bf (Af (Ak (Dg ?_)));refine Az (Az (Ao (d:=(w.pt h).d) (by with_unfolding_all rfl) (Ad (Dw ?_))));refine Az (Ao (by with_unfolding_all rfl) (Ad (Gn ?_)));refine P0 ha ?_;generalize (w.pt h).nm a=to at nk hm f;refine Bf (Af (Ak (Bl (Ej (Ar (Az (Ao (by with_unfolding_all rfl) (Ad (Bp ⟨_,rfl,fun e=>?_,fun e=>?_⟩)))))))))
 ·walk_at "x0"
  exact f _ w1o pl1 (by rw [e];rfl)
 ·have hn:¬ to=-1:=beq_eq_false_iff_ne.mp e;obtain ⟨e1,e2⟩:=Mg nk hn;rw [e] at hm;refine G8 (Br (Aw (Br (Aw (Ao (by with_unfolding_all rfl) (Aw (Ao (d:=.int to) (by with_unfolding_all rfl) (Ad ?_)))))))) ;rw [e1];refine Fy (k+2) to.toNat (by rw [wo.lp];exact e2) ?_
  walk_at "x0"
  refine J5 (k+2) _ _ ⟨_,rfl,Dj (fun e3=>?_) fun e3=>?_⟩
  ·walk_at "x0"
   exact f _ w1o pl1 (by rw [e3,Bool.or_true];rfl)
  ·rw [e3] at hm;have hm:(w.cell h to.toNat).length < p.room:=by simpa using hm
   refine Ax (Af (Ak (Dg (lK (Aw ?_)))));dsimp only [spD]
   walk_at "x0"
   refine Gn (b:=.tup [.int (w.pt h).n0,.int (w.pt h).n1,.int (w.pt h).n2]) ?_
   walk_at "x0"
   refine Nj hb ?_
   walk_at "x0"
   refine Dw (c:=.tup [.int (w.pt h).m0,.int (w.pt h).m1,.int (w.pt h).m2]) ?_
   walk_at "x0"
   refine P0 hc ?_
   walk_at "x0"
   refine Fe (k+2) h to.toNat wo hh e2 ?_
   walk_at "x0"
   have lo:=T9 wo hh e2;have ll:=lo.1;unfold lsD;refine K3 (by rw [List.length_map,List.length_singleton];omega) ?_;have el:(w.cell h to.toNat).map ltD++[D.tup [Ae kd,.int ((w.pt h).nu b),.int ((w.pt h).nm c)]]=(w.cell h to.toNat++[((kd:Int),(w.pt h).nu b,(w.pt h).nm c)]).map ltD:=by rw [List.map_append];rfl
   rw [el]
   walk_at "x0"
   refine Ma (k+1) h to.toNat po w1o hh e2 _ ?_
   walk_at "x0"
   refine f _ (T6 w1o ⟨by rw [List.length_append,List.length_singleton];omega,fun z hz=>?_⟩) pl1 (by rw [e,e3];rfl);rcases List.mem_append.mp hz with hz|hz
   ·exact lo.2 z hz
   ·rw [List.mem_singleton.mp hz];exact ⟨⟨by show (1:Int)<=(kd:Int);omega,by show (kd:Int)<=12;omega⟩,nc⟩
noncomputable def Acy (w:Wd) (s t:Nat):Wd:={ w.setC s t (w.cell s t).tail with x:=w.x - 1 }
noncomputable def Acz (p:Pg) (w:Wd) (h:Nat):Wd:=⟨w.ps.set h ⟨-1,0,0,0,-1,-1,-1,0,0,false⟩,w.rs.set h (List.replicate p.plays.length []),w.x,w.y - 1⟩
theorem pA (k s t:Nat) (po:p.ok) (wo:w.ok p) (hs:s < p.plays.length) (ht:t < p.plays.length) (hx:¬ w.x=0) (f:(Acy w s t).ok p->P (Acy w s t).d mh):wV (Ac (Gk (k+3)) fuel f79 [w.d,.int s,.int t] mh) P:=by
 have lo:=T9 wo hs ht;refine Al (Acg (k+2)) nR.1 nR.2 rfl ?_;show wS (b79 (k+2)) [some w.d,some (.int s),some (.int t),none,none] mh _;unfold b79;refine Ak (Dg (Az (Ao (by with_unfolding_all rfl) (Ad (Dw (c:=.tup [.int w.x,.int w.y]) ?_)))))
 walk_at "x0"
 refine Fe (k+1) s t wo hs ht ?_
 walk_at "x0"
 have sl:∀ {P:D->MH->Prop},P (lsD (w.cell s t).tail) mh->wV (slD (lsD (w.cell s t)) (some 1) none mh) P:=fun {P} h=>by
  cases e:w.cell s t with
  | nil =>
   rw [e] at h;exact ⟨_,_,rfl,h⟩
  | cons l r =>
   rw [e] at h;refine T4 (i:=1) (ds:=(l::r).map ltD) (by simp) ?_;exact h
 refine sl ?_
 walk_at "x0"
 refine Ma k s t po wo hs ht _ ?_;have w1o:(w.setC s t (w.cell s t).tail).ok p:=T6 wo ⟨by rw [List.length_tail];have:=lo.1;omega,fun z hz=>lo.2 z (List.mem_of_mem_tail hz)⟩
 walk_at "x0"
 refine Dy (k+1) (i:=2) (by simp) (by simp) ?_;have e:((w.x:Nat):Int) - 1=((w.x - 1:Nat):Int):=by omega
 rw [e];exact f ⟨w1o.lp,w1o.ps,w1o.lr,w1o.rs,by have:=wo.xx;show w.x - 1<=_;omega,w1o.yy⟩
theorem aA (k:Nat) (pl:Int) (mh:MH):Ac (Gk (k+1)) fuel f14 [.int pl] mh=some ((⟨pl,0,0,0,-1,-1,-1,0,0,false⟩:Pt).d,mh):=by kernel_rfl
theorem Oc {k:Nat}{x:D}{mh:MH}{P:D->MH->Prop}(h1:1<=k) (h2:k<=1000) (h:P (.tup (List.replicate k x)) mh):wV (G6 (.tup [x]) (.int k) mh) P:=by
 refine ⟨_,_,?_,h⟩;show (if (k:Int)=1 then some (D.tup [x],mh) else if (List.isEmpty [x]=false/\[x].length<=1000)/\(1 < (k:Int)/\(k:Int)<=1000) then some (D.tup (List.replicate (k:Int).toNat [x]).flatten,mh) else none)=_
 by_cases e:k=1
 ·subst e;rfl
 ·rw [if_neg (by omega),if_pos ⟨⟨rfl,by simp⟩,by omega,by omega⟩,Int.toNat_natCast];have e:(List.replicate k [x]).flatten=List.replicate k x:=by
   clear h h1 h2 e
   induction k with
   | zero=>rfl
   | succ k ih=>rw [List.replicate_succ,List.flatten_cons,ih,List.replicate_succ];rfl
  rw [e]
theorem Vy {H L:Nat}(h1:1<=H) {pl:Int}(h2:-1<=pl) (h3:pl<=L):(⟨pl,0,0,0,-1,-1,-1,0,0,false⟩:Pt).ok H L:=⟨h2,h3,⟨show (-1:Int)<=-1 by decide,show (-1:Int)<=(H:Int) - 1 by omega⟩,⟨show (-1:Int)<=-1 by decide,show (-1:Int)<=(H:Int) - 1 by omega⟩,⟨show (-1:Int)<=-1 by decide,show (-1:Int)<=(H:Int) - 1 by omega⟩,Nat.two_pow_pos _,Nat.two_pow_pos _⟩
theorem pB (k h:Nat) (po:p.ok) (wo:w.ok p) (hh:h < p.plays.length) (hy:¬ w.y=0) (f:(Acz p w h).ok p->P (Acz p w h).d mh):wV (Ac (Gk (k+3)) fuel f80 [w.d,.int h] mh) P:=by
 have h1:=po.h1;have h6:=po.h6;refine Al (Ach (k+2)) nT.1 nT.2 rfl ?_;show wS (b80 (k+2)) [some w.d,some (.int h),none,none] mh _;unfold b80;refine Ak (Dg (Az (Ao (by with_unfolding_all rfl) (Ad (Dw (c:=.tup [.int w.x,.int w.y]) ?_)))));unfold Wd.d
 walk_at "x0"
 refine Bs (ds:=w.ps.map Pt.d) (by intro z z';cases z') rfl ?_;rw [List.length_map,wo.lp];refine Oc h1 (by omega) ?_
 walk_at "x0"
 refine Dy (k+1) (by rw [List.length_map,wo.lr];exact hh) (by rw [List.length_map,wo.lr];omega) ?_
 walk_at "x0"
 refine Dy (k+1) (i:=1) (by simp) (by simp) ?_;have e0:(w.rs.map Qu).set h (.tup (List.replicate p.plays.length (.tup [])))=(w.rs.set h (List.replicate p.plays.length [])).map Qu:=by
  rw [List.map_set];unfold Qu;rw [List.map_replicate];rfl
 rw [e0]
 walk_at "x0"
 refine Aq (aA (k+1) (-1) mh) ?_
 walk_at "x0"
 have w1o:(⟨w.ps,w.rs.set h (List.replicate p.plays.length []),w.x,w.y⟩:Wd).ok p:=by
  refine ⟨wo.lp,wo.ps,by rw [List.length_set];exact wo.lr,fun v hv=>?_,wo.xx,wo.yy⟩;rcases List.mem_or_eq_of_mem_set hv with hv|rfl
  ·exact wo.rs v hv
  ·exact ⟨List.length_replicate,fun l hl=>by rw [(List.mem_replicate.mp hl).2];exact ⟨Nat.zero_le _,fun z hz=>absurd hz (by simp)⟩⟩
 refine Gu (w:=⟨w.ps,w.rs.set h (List.replicate p.plays.length []),w.x,w.y⟩) k h po w1o hh _ ?_
 walk_at "x0"
 refine Dy (k+1) (i:=2) (by simp) (by simp) ?_;have e:((w.y:Nat):Int) - 1=((w.y - 1:Nat):Int):=by omega
 rw [e];have w2o:=Ob (h:=h) (y:=⟨-1,0,0,0,-1,-1,-1,0,0,false⟩) w1o fun r _=>Vy h1 (by decide) (by omega)
 exact f ⟨w2o.lp,w2o.ps,w2o.lr,w2o.rs,w2o.xx,by have:=wo.yy;show w.y - 1<=_;omega⟩
end
section
variable {mh:MH}{P:D->MH->Prop}{p:Pg}{w:Wd}{S:List (List Sp)}
theorem Ik {h:Nat}{bx:Int}{ls:List Ln}{c:D}(wo:w.ok p) (hh:h < p.plays.length) (hc:c∈Jp p w h bx ls) :
  (c=.tup [.int (-1),.int 0]/\(0:Int)∈Ji ls)\/∃ s l r,s < p.plays.length/\w.cell s h=l::r/\l.1∈Ji ls/\c=.tup [.int (s:Nat),.int l.1]:=by
 unfold Jp at hc;rcases List.mem_append.mp hc with hc|hc
 ·unfold Fz at hc;split at hc
  ·rename_i e;rw [Bool.and_eq_true] at e;exact Or.inl ⟨List.mem_singleton.mp hc,of_decide_eq_true e.1⟩
  ·cases hc
 ·obtain ⟨s,hs,hc⟩:=List.mem_flatMap.mp hc;have hs:=Vu wo hh hs;unfold J7 at hc;split at hc
  ·cases hc
  ·rename_i l r ec;split at hc
   ·rename_i hk;exact Or.inr ⟨s,l,r,hs,ec,hk,List.mem_singleton.mp hc⟩
   ·cases hc
theorem cQ (k h:Nat) (bx:Int) (ls:List Ln) (g:Prg p S) (wo:w.ok p) (hh:h < p.plays.length) (so:Sp.ok p (p.len (plA p h)) (.take bx ls)) {c:D}(hc:c∈Jp p w h bx ls)
  (f:∀ (w':Wd) h',w'.ok p->0<=(Nu (w.pt h) (fun s=>w.cell s h) ls c).1.pl->w'=w.ap h (Nu (w.pt h) (fun s=>w.cell s h) ls c)->Ext [] mh h'->P w'.d h'):wV (Ac (Gk (k+4)) fuel f69 [w.d,.int h,spD (.take bx ls),c] mh) P:=by
 obtain ⟨sb,sl,sk⟩:=so;have po:=g.po;have qo:=La wo hh;obtain ⟨x,kd,rfl,hk⟩:∃ x kd:Int,c=.tup [.int x,.int kd]/\kd∈Ji ls:=by
  rcases Ik wo hh hc with ⟨rfl,h0⟩|⟨s,l,r,_,_,h0,rfl⟩
  ·exact ⟨_,_,rfl,h0⟩
  ·exact ⟨_,_,rfl,h0⟩
 refine Al (Ab9 (k+3)) nH.1 nH.2 rfl ?_;show wS (b69 (k+3)) [some w.d,some (.int h),some (spD (.take bx ls)),some (.tup [.int x,.int kd]),none,none,none,none] mh _;unfold b69;refine Ak (Dg (Az ?_));refine Fx ls lnD (fun l=>((l.kd:Nat):Int)==kd) lnD (by omega) ?_ (fun x h' R hx ex hR=>?_) fun m1 x1=>?_
 ·dsimp only [spD]
  walk_at "x0"
  exact ⟨_,rfl,K6 rfl⟩
 ·refine Bf ⟨rfl,?_⟩;refine Ar (Az (Az (Ao (d:=lnD x) (by with_unfolding_all rfl) (Ad (Ew ?_)))))
  walk_at "x0"
  refine ⟨rfl,rfl,fun _=>?_⟩;refine Ao (d:=lnD x) (by with_unfolding_all rfl) ?_;exact hR _ Ext.refl
 cases el:ls.filter fun l=>((l.kd:Nat):Int)==kd with
 | nil =>
  obtain ⟨l,hl,e⟩:=List.mem_map.mp hk;have:=List.filter_eq_nil_iff.mp el l hl;rw [e] at this;exact absurd (beq_self_eq_true _) this
 | cons ln lr =>
  have hln:ln∈ls:=(List.mem_filter.mp (by rw [el];exact List.mem_cons_self)).1;have lo:=sk ln hln;rw [List.map_cons];refine Ad (Cu (j:=0) Av rfl ?_);generalize hm2:m1++[MO.lst (lnD ln::lr.map lnD)]=m2;have x2:Ext [] mh m2:=by rw [← hm2];exact x1.trans Ext.more
  refine Bf (Af (Ak (Dg (Br (Aw (Br (Aw (Ao (by with_unfolding_all rfl) (Aw (Ao (by with_unfolding_all rfl) (Ad (Fy (k+2) h (by rw [wo.lp];exact hh) ?_)))))))))))) ;refine Aw (Az (Ao (d:=lnD ln) (by with_unfolding_all rfl) (Ad (J1 ?_))))
  walk_at "x0"
  refine Aq (Qd (k+1) _ _ _) ?_;have q1:=K9 qo (pl:=((ln.q:Nat):Int)) (by omega) (by have:=lo.q;omega);generalize hq1:(w.pt h).to ((ln.q:Nat):Int)=u1;have q1:u1.ok p.H (p.len (plA p h)):=by rw [← hq1];exact q1
  have fin:∀ {u:Pt},u.ok p.H (p.len (plA p h))->∀ {w1:Wd},w1.ok p->(w1.setP h u).ok p:=fun {u} uo {w1} o1=>Ob o1 fun r er=>by
   rw [Ro hh] at er;cases er;exact uo
  refine Bf (Af (Ak (Bl (Ar (Az (Ao (by with_unfolding_all rfl) (Ad ?_)))))));have ee:=oY m2 [x,kd] [-1,0];refine Ig ee ⟨_,rfl,fun e=>?_,fun e=>?_⟩
  ·walk_at "x0"
   refine Aq (Z8 (k+1) u1 false m2) ?_
   walk_at "x0"
   refine Gu (k+1) h po wo hh _ ?_
   walk_at "x0"
   have et:Nu (w.pt h) (fun s=>w.cell s h) ls (.tup [.int x,.int kd])=(u1.ring false,.no):=by
    dsimp only [Nu];rw [el];dsimp only;rw [if_pos e,hq1]
   exact f _ _ (fin (Z9 q1 _) wo) (by rw [et];show 0<=u1.pl;rw [← hq1];show (0:Int)<=(ln.q:Nat);omega) (by rw [et];rfl) x2
  ·rcases Ik wo hh hc with ⟨e1,_⟩|⟨s,l,r,hs,ec,h0,e1⟩
   ·cases e1;cases e
   ·cases e1;have co:=T9 wo hs hh;refine Ax (Af ?_)
    walk_at "x0"
    refine Fe (k+2) s h wo hs hh ?_;rw [ec] at co ⊢;refine Bf (Af ?_);show wS _ [some w.d,some (.int h),some (spD (.take bx ls)),some (.tup [.int (s:Nat),.int l.1]),some (lnD ln),some u1.d,some (.int (s:Nat)),some (.tup (ltD l::r.map ltD))] m2 _
    walk_at "x0"
    refine Vx (f:=ixD) (d:=Ae ln.a) (fun _=>by kernel_rfl) ?_
    walk_at "x0"
    refine Gn (a:=.int l.1) (b:=.int l.2.1) ?_
    walk_at "x0"
    refine Aq (Jb (k+1) u1 lo.a l.2.1 m2) ?_
    walk_at "x0"
    refine Vx (f:=ixD) (d:=Ae ln.b) (fun _=>by kernel_rfl) ?_
    walk_at "x0"
    refine Dw (a:=.int l.1) (b:=.int l.2.1) (c:=.int l.2.2) ?_
    walk_at "x0"
    refine Aq (Jd (k+1) _ lo.b l.2.2 m2) ?_
    walk_at "x0"
    refine Vx (f:=ixD) (d:=Ae ln.c) (fun _=>by kernel_rfl) ?_
    walk_at "x0"
    refine Aq (Jd (k+1) _ lo.c (s:Int) m2) ?_
    walk_at "x0"
    refine T4 (i:=1) (ds:=(l::r).map ltD) (by simp) ?_
    walk_at "x0"
    refine Ma (k+1) s h po wo hs hh r ?_;have w1o:=T6 (s:=s) (t:=h) (l:=r) wo ⟨by have:=co.1;rw [List.length_cons] at this;omega,fun z hz=>co.2 z (List.mem_cons_of_mem _ hz)⟩
    walk_at "x0"
    refine Gu (k+1) h po w1o hh _ ?_;have hl:=(co.2 l List.mem_cons_self).2;have hs:s < p.H:=hs;have et:Nu (w.pt h) (fun s=>w.cell s h) ls (.tup [.int (s:Nat),.int l.1])=(((u1.setN ln.a l.2.1).setM ln.b l.2.2).setM ln.c (s:Nat),.pop s):=by
     dsimp only [Nu];rw [el];dsimp only;rw [if_neg (by rw [e];decide),Int.toNat_natCast,ec,hq1]
    exact f _ _ (fin (Jf (Jf (Je q1 _ _) _ hl) _ ⟨by omega,by omega⟩) w1o) (by rw [et];show 0<=Pt.pl _;rw [En,En,Dz,← hq1];show (0:Int)<=(ln.q:Nat);omega) (by rw [et];show _=(w.setP h _).setC s h (w.cell s h).tail;rw [ec];rfl) x2
theorem Vz (k h:Nat) (g:Prg p S) (wo:w.ok p) (hh:h < p.plays.length) {s:Sp}(es:stW p S w h=some s) {c:D}(hc:c∈chs p w h s)
  (f:∀ (w':Wd) h',w'.ok p->0<=(eff p w h c s).1.pl->w'=w.ap h (eff p w h c s)->Ext [] mh h'->P w'.d h'):wV (Ac (Gk (k+6)) fuel f61 [p.d,w.d,.int h,spD s,c] mh) P:=by
 obtain ⟨so,p1,p2⟩:=Rp g hh es;have qo:=La wo hh;refine Al (Ab5 (k+5)) nC.1 nC.2 rfl ?_;show wS (b61 (k+5)) [some p.d,some w.d,some (.int h),some (spD s),some c] mh _;have quiet:(∀ bx ls,s≠.take bx ls)->(∀ a kd b c,s≠.send a kd b c)->wS (b61 (k+5)) [some p.d,some w.d,some (.int h),some (spD s),some c] mh (Tn P):=fun ht hs=>by
  obtain ⟨wd,rest,e,h0,h1,h2⟩:∃ (wd:Str) (rest:List D),spD s=.tup (.str wd::rest)/\PyData.strOk wd=true/\(wd==("send":Str))=false/\(wd==("take":Str))=false:=by
   cases s with
   | take bx ls=>exact absurd rfl (ht bx ls)
   | send a kd b c=>exact absurd rfl (hs a kd b c)
   | _=>exact ⟨_,_,rfl,by decide +kernel,by decide +kernel,by decide +kernel⟩
  have ix:∀ {Q:D->MH->Prop} {m:MH},Q (.str wd) m->wV (ixD (spD s) (.int 0) m) Q:=fun q=>by
   rw [e];exact Ew q
  unfold b61
  walk_at "x0"
  refine ix ?_;refine Ad (Ig (k:=false) (Hh h0 (by decide +kernel) h1 mh) ⟨_,rfl,Dv (Ax (Af ?_))⟩)
  walk_at "x0"
  refine ix ?_;refine Ad (Ig (k:=false) (Hh h0 (by decide +kernel) h2 mh) ⟨_,rfl,Dv (Ax (Af ?_))⟩)
  walk_at "x0"
  refine Fy (k+4) h (by rw [wo.lp];exact hh) ?_
  walk_at "x0"
  refine cP k h g wo hh s so qo p1 p2 c hc ht hs fun q' h' qo' pl' eq' x1=>?_
  walk_at "x0"
  refine Gu (k+3) h g.po wo hh _ ?_;have ee:eff p w h c s=(q',.no):=by
   rw [eq'];cases s with
   | take bx ls=>exact absurd rfl (ht bx ls)
   | send a kd b c=>exact absurd rfl (hs a kd b c)
   | _=>rfl
  exact f _ _ (Ob wo fun r er=>by rw [Ro hh] at er;cases er;exact qo') (by rw [ee];exact pl') (by rw [ee];rfl) x1
 cases s with
 | send a kd b c' =>
  have hm:J6 p w h a=true:=by
   have hc:c∈(if J6 p w h a=true then [D.int 0] else []):=hc;cases e:J6 p w h a with
   | true=>rfl
   | false=>rw [e] at hc;cases hc
  unfold b61;dsimp only [spD]
  walk_at "x0"
  refine oZ (k+1) h a kd b c' g wo hh so p1 p2 hm fun w' o' pl' e'=>?_
  exact f _ _ o' pl' e' Ext.refl
 | take bx ls =>
  unfold b61;dsimp only [spD]
  walk_at "x0"
  exact cQ (k+1) h bx ls g wo hh so hc f
 | _=>exact quiet (fun _ _ z=>by cases z) fun _ _ _ _ z=>by cases z
end
theorem Od {ms:DM Src}{g:GM}{body:SM}{l0:DL.Loc}{mh:MH}{K:Fl->DL.Loc->MH->Prop}{α:Type}(xs:List α) (G:α->D) (F:α->List D) (acc:List D) (j:Nat) (I:DL.Loc->Prop)
  (hj:mh[j]?=some (.lst acc)) (i0:I l0) (hb:(acc++xs.flatMap F).length<=1000000)
  (hm:wD ms l0 mh fun src h0=>Ext [] mh h0/\∀ h,Ext [j] h0 h->src.ok h=true/\src.items h=xs.map G)
  (step:∀ x l h a,x∈xs->I l->Ext [j] mh h->h[j]?=some (.lst a)->(a++F x).length<=1000000->∀ {J:DL.Loc->MH->Prop},(∀ l2 h2,I l2->Ext [j] h h2->h2[j]?=some (.lst (a++F x))->J l2 h2)->wG (g (G x) l h) fun l1 h1=>wS body l1 h1 (Abf J K))
  (fin:∀ l h,I l->Ext [j] mh h->h[j]?=some (.lst (acc++xs.flatMap F))->K .nx l h):wS (Hs ms g body) l0 mh K:=by
 refine Hg (Bk hm ?_);rintro src h0 ⟨x0,keep⟩;refine ⟨xs.map G,fun i l h=>I l/\Ext [j] h0 h/\h[j]?=some (.lst (acc++(xs.take i).flatMap F)),⟨i0,Ext.refl,by rw [x0.old _ _ (by simp) hj];simp⟩,fun i l h q=>keep h q.2.1,?_,?_⟩
 ·rintro i d l h ed ⟨il,xh,gh⟩;rw [List.getElem?_map] at ed;cases ex:xs[i]? with
  | none=>rw [ex] at ed;cases ed
  | some x =>
   rw [ex] at ed;cases ed;have et:(xs.take (i+1)).flatMap F=(xs.take i).flatMap F++F x:=by
    rw [List.take_add_one,ex,List.flatMap_append];simp
   refine step x l h _ (List.mem_of_getElem? ex) il (x0.weak.trans xh) gh ?_ fun l2 h2 i2 x2 g2=>⟨i2,xh.trans x2,by rw [g2,et,List.append_assoc]⟩
   rw [List.append_assoc,← et];refine Nat.le_trans ?_ hb;rw [List.length_append,List.length_append];have:((xs.take (i+1)).flatMap F).length+((xs.drop (i+1)).flatMap F).length=(xs.flatMap F).length:=by
    rw [← List.length_append,← List.flatMap_append,List.take_append_drop]
   omega
 ·rintro l h ⟨il,xh,gh⟩;rw [List.length_map,List.take_length] at gh;exact fin l h il (x0.weak.trans xh) gh
theorem Oe {n j:Nat}{α:Type}{xs:List α}{F:α->D}{mh h0:MH}(x:Ext [] mh h0) (e:h0[n]?=some (.lst (xs.map F))) (hn:n≠j):Ext [] mh h0/\∀ h,Ext [j] h0 h->(Src.lref n).ok h=true/\(Src.lref n).items h=xs.map F :=
 ⟨x,fun h y=>Fd (y.old _ _ (by intro z;exact hn (List.mem_singleton.mp z)) e)⟩
noncomputable def doD (h:Nat) (c:D):D:=.tup [.str "do",Ae h,c]
noncomputable def loD (s t:Nat):D:=.tup [.str "lose",Ae s,Ae t]
noncomputable def faD (h:Nat):D:=.tup [.str "fall",Ae h]
noncomputable def doL (p:Pg) (S:List (List Sp)) (w:Wd):List D:=(List.range p.H).flatMap fun h=>(chW p S w h).flatMap fun c=>[doD h c]
noncomputable def X6 (w:Wd) (s t:Nat):List D:=if 0 < (w.cell s t).length then [loD s t] else []
noncomputable def Ac0 (p:Pg) (w:Wd):List D:=(List.range p.H).flatMap fun s=>(List.range p.H).flatMap fun t=>X6 w s t
noncomputable def Mh (p:Pg) (w:Wd):List D:=if w.x=0 then [] else Ac0 p w
noncomputable def Mi (p:Pg) (w:Wd):List D:=if w.y=0 then [] else ((List.range p.H).filter fun h=>!X4 (w.pt h)).map faD
theorem Lb {α β:Type}{f:α->List β}{b:Nat}:∀ (l:List α),(∀ x∈l,(f x).length<=b)->(l.flatMap f).length<=l.length * b
 | [],_=>by simp
 | x::r,h=>by
  rw [List.flatMap_cons,List.length_append,List.length_cons,Nat.succ_mul];have:=Lb r fun y hy=>h y (List.mem_cons_of_mem _ hy)
  have:=h x List.mem_cons_self;omega
section
variable {mh:MH}{P:D->MH->Prop}{p:Pg}{w:Wd}{S:List (List Sp)}
theorem aB (po:p.ok):(Ac0 p w).length<=36:=by
 have h6:p.H<=6:=po.h6;have h1:∀ s∈List.range p.H,((List.range p.H).flatMap fun t=>X6 w s t).length<=6:=fun s _=>by
  refine Nat.le_trans (Lb (b:=1) _ fun t _=>?_) (by rw [List.length_range];omega);unfold X6;split <;> simp
 refine Nat.le_trans (Lb (b:=6) _ h1) ?_;rw [List.length_range];omega
theorem J8 (k:Nat) (po:p.ok) (wo:w.ok p) (q:∀ j h',Ext [] mh h'->h'[j]?=some (.lst (Mh p w))->P (.ref j) h'):wV (Ac (Gk (k+2)) fuel f72 [w.d] mh) P:=by
 have h6:p.H<=6:=po.h6;refine Al (Acb (k+1)) nM.1 nM.2 rfl ?_;show wS (b72 (k+1)) [some w.d,none,none,none] mh _;unfold b72;refine Ak (Dg (Tf (Ad ⟨by simp,Bf (Af ?_)⟩)));refine Ak (Bl (Ar (Az (Az (Az (Ao (by with_unfolding_all rfl) (Ad (Dw (c:=.tup [.int w.x,.int w.y]) ?_))))))))
 walk_at "x0"
 unfold Mh at q
 by_cases e0:w.x=0
 ·refine Oa (by rw [e0];rfl) ?_;rw [if_pos e0] at q
  walk_at "x0"
  exact q _ _ Ext.more Av
 ·refine Tp (beq_eq_false_iff_ne.mpr (by omega)) (Ax (Af (Ak ?_)));rw [if_neg e0] at q;have hl:=aB (w:=w) po;refine Od (List.range p.H) Ae (fun s=>(List.range p.H).flatMap fun t=>X6 w s t) [] mh.length (fun l=>∃ x y,l=[some w.d,some (.ref mh.length),x,y]) Av ⟨_,_,rfl⟩ (by show (Ac0 p w).length<=_;omega) ?_ (fun s l h a hs il xh gh hz J hJ=>?_) fun l h il xh gh=>?_
  ·walk_at "x0"
   refine Hi k wo po fun j h1 x1 lj gj=>⟨_,src_list gj,Oe x1 gj ?_⟩
   rw [List.length_append,List.length_singleton] at lj;omega
  ·obtain ⟨x,y,rfl⟩:=il;have hs:=List.mem_range.mp hs;refine Bf ?_;show wS _ [some w.d,some (.ref mh.length),some (Ae s),y] h _;refine Ak ?_;refine Od (List.range p.H) Ae (fun t=>X6 w s t) a mh.length (fun l=>∃ y,l=[some w.d,some (.ref mh.length),some (Ae s),y]) gh ⟨_,rfl⟩ hz ?_ (fun t l h3 a3 ht il x3 g3 hz3 J3 hJ3=>?_) fun l h3 il x3 g3=>?_
   ·walk_at "x0"
    refine Hi k wo po fun j h1 x1 lj gj=>⟨_,src_list gj,Oe x1 gj ?_⟩
    have:=(List.getElem?_eq_some_iff.mp gh).1;omega
   ·obtain ⟨y,rfl⟩:=il;have ht:=List.mem_range.mp ht;refine Bf ?_;show wS _ [some w.d,some (.ref mh.length),some (Ae s),some (Ae t)] h3 _
    walk_at "x0"
    refine Fe k s t wo hs ht ?_
    walk_at "x0"
    refine Bs (ds:=(w.cell s t).map ltD) (by intro z z';cases z') rfl ?_;rw [List.length_map];unfold X6 at hJ3 hz3;refine Ad (Cm ⟨_,rfl,fun e=>?_,fun e=>?_⟩)
    ·have e:=of_decide_eq_true e;rw [if_pos (by omega)] at hJ3 hz3
     walk_at "x0"
     refine ⟨ty_list g3,?_⟩
     walk_at "x0"
     refine Cy g3 (by rw [List.length_append] at hz3;omega) ?_
     walk_at "x0"
     exact hJ3 _ _ ⟨_,rfl⟩ Ext.set (Eu g3)
    ·have e:=of_decide_eq_false e;rw [if_neg (by omega),List.append_nil] at hJ3;refine Ax (Af (Ax ?_));exact hJ3 _ _ ⟨_,rfl⟩ Ext.refl g3
   ·obtain ⟨y,rfl⟩:=il;refine Af (Ax ?_);exact hJ _ _ ⟨_,_,rfl⟩ x3 g3
  ·obtain ⟨x,y,rfl⟩:=il;rw [List.nil_append] at gh
   walk_at "x0"
   refine q _ _ ⟨Nat.le_trans (by simp) xh.len,fun i o _ e=>?_⟩ gh;have hi:=(List.getElem?_eq_some_iff.mp e).1;exact xh.old i o (by intro z;have:=List.mem_singleton.mp z;omega) ((Ext.more (W:=[])).old _ _ (by simp) e)
theorem Mj (k:Nat) (po:p.ok) (wo:w.ok p) (q:∀ j h',Ext [] mh h'->h'[j]?=some (.lst (Mi p w))->P (.ref j) h'):wV (Ac (Gk (k+2)) fuel f73 [w.d] mh) P:=by
 have h6:p.H<=6:=po.h6;refine Al (Acd (k+1)) nO.1 nO.2 rfl ?_;show wS (b73 (k+1)) [some w.d] mh _;unfold b73;refine Ak (Bl (Ar (Az (Az (Az (Ao (by with_unfolding_all rfl) (Ad (Dw (c:=.tup [.int w.x,.int w.y]) ?_))))))))
 walk_at "x0"
 unfold Mi at q
 by_cases e0:w.y=0
 ·refine Oa (by rw [e0];rfl) ?_;rw [if_pos e0] at q
  walk_at "x0"
  exact q _ _ Ext.more Av
 ·refine Tp (beq_eq_false_iff_ne.mpr (by omega)) (Ax (Af (Ak (Hf ?_))));rw [if_neg e0] at q;refine Fx (List.range p.H) Ae (fun h=>!X4 (w.pt h)) faD (by rw [List.length_range];omega) ?_ (fun x h' R hx ex hR=>?_) fun m1 x1=>?_
  ·walk_at "x0"
   exact Hi k wo po fun j h1 x1 lj gj=>⟨_,src_list gj,x1,T3 gj⟩
  ·refine Bf ⟨rfl,?_⟩
   walk_at "x0"
   refine Fy k x (by rw [wo.lp];exact List.mem_range.mp hx) ?_
   walk_at "x0"
   refine J5 k _ _ ⟨_,rfl,rfl,rfl,fun _=>?_⟩
   walk_at "x0"
   exact hR _ Ext.refl
  ·walk_at "x0"
   exact q _ _ (x1.trans Ext.more) Av
theorem Ac1 {h:Nat}(g:Prg p S) (wo:w.ok p) (hh:h < p.plays.length):(chW p S w h).length<=1000:=by
 have po:=g.po;have h6:p.H<=6:=po.h6;unfold chW;cases es:stW p S w h with
 | none=>simp
 | some s =>
  obtain ⟨so,p1,p2⟩:=Rp g hh es;have qo:=La wo hh;show (chs p w h s).length<=1000;cases s with
  | choose a c=>show ((List.range c).map Ae).length<=1000;rw [List.length_map,List.length_range];exact so.2
  | pick a r =>
   show ((oth p r h).map T7).length<=1000;rw [List.length_map];have:(oth p r h).length<=p.H:=Nat.le_trans (List.length_filter_le _ _) Mf;omega
  | out a gg qq =>
   show (Qa ((w.pt h).se gg)).length<=1000;unfold Qa;split
   ·simp
   ·rw [List.length_map];have h1:=Pn ((w.pt h).se gg) (Builtin.Int.intBits (((w.pt h).se gg:Nat):Int));have h2:=bits_le (g:=(w.pt h).se gg) (n:=20) (Afh h6 (Pt.se_ok qo));show (Jz _ _).length<=1000;omega
  | take bx ls =>
   show (Jp p w h bx ls).length<=1000;unfold Jp;rw [List.length_append];have h1:(Fz w h ls).length<=1:=by unfold Fz;split <;> simp
   have h2:=Qc (w:=w) (h:=h) (ks:=Ji ls) (Ef p w h bx);have h3:(Ef p w h bx).length<=6:=by
    unfold Ef;split
    ·rw [List.length_range];exact h6
    ·split <;> simp
   omega
  | send a kd b c =>
   show (if J6 p w h a=true then [D.int 0] else []).length<=1000;split <;> simp
  | _=>exact (by decide:1<=1000)
theorem Ac2 (g:Prg p S) (wo:w.ok p):(doL p S w).length<=6000:=by
 have h6:p.H<=6:=g.po.h6;refine Nat.le_trans (Lb (b:=1000) _ fun h hh=>?_) (by rw [List.length_range];omega);refine Nat.le_trans (Lb (b:=1) _ fun c _=>by simp) ?_;have:=Ac1 g wo (List.mem_range.mp hh);omega
theorem Ml (k:Nat) (g:Prg p S) (wo:w.ok p) (q:∀ j h',Ext [] mh h'->h'[j]?=some (.lst (doL p S w++Mh p w++Mi p w))->P (.ref j) h'):wV (Ac (Gk (k+5)) fuel f71 [p.d,w.d] mh) P:=by
 have po:=g.po;have h6:p.H<=6:=po.h6;have dl:=Ac2 g wo;refine Al (Aca (k+4)) nJ.1 nJ.2 rfl ?_;show wS (b71 (k+4)) [some p.d,some w.d,none,none,none] mh _;unfold b71;refine Ak (Dg (Tf (Ad ⟨by simp,Bf (Af (Ak ?_))⟩)));refine Od (List.range p.H) Ae (fun h=>(chW p S w h).flatMap fun c=>[doD h c]) [] mh.length (fun l=>∃ x y,l=[some p.d,some w.d,some (.ref mh.length),x,y]) Av ⟨_,_,rfl⟩ (by show (doL p S w).length<=_;omega) ?_ (fun hd l h a hs il xh gh hz J hJ=>?_) fun l h il xh gh=>?_
 ·walk_at "x0"
  refine Hi (k+3) wo po fun j h1 x1 lj gj=>⟨_,src_list gj,Oe x1 gj ?_⟩
  rw [List.length_append,List.length_singleton] at lj;omega
 ·obtain ⟨x,y,rfl⟩:=il;have hs:=List.mem_range.mp hs;refine Bf ?_;show wS _ [some p.d,some w.d,some (.ref mh.length),some (Ae hd),y] h _;refine Ak ?_;refine Od (chW p S w hd) id (fun c=>[doD hd c]) a mh.length (fun l=>∃ y,l=[some p.d,some w.d,some (.ref mh.length),some (Ae hd),y]) gh ⟨_,rfl⟩ hz ?_ (fun c l h3 a3 ht il x3 g3 hz3 J3 hJ3=>?_) fun l h3 il x3 g3=>?_
  ·walk_at "x0"
   refine Ga k hd g wo hs fun j h1 x1 lj gj=>⟨_,src_list gj,Oe x1 (by rw [List.map_id];exact gj) ?_⟩
   have:=(List.getElem?_eq_some_iff.mp gh).1;omega
  ·obtain ⟨y,rfl⟩:=il;refine Bf ?_;show wS _ [some p.d,some w.d,some (.ref mh.length),some (Ae hd),some c] h3 _
   walk_at "x0"
   refine ⟨ty_list g3,?_⟩
   walk_at "x0"
   refine Cy g3 (by rw [List.length_append] at hz3;omega) ?_
   walk_at "x0"
   exact hJ3 _ _ ⟨_,rfl⟩ Ext.set (Eu g3)
  ·obtain ⟨y,rfl⟩:=il;refine Af (Ax ?_);exact hJ _ _ ⟨_,_,rfl⟩ x3 g3
 ·obtain ⟨x,y,rfl⟩:=il;rw [List.nil_append] at gh
  have x0:Ext [] mh h:=⟨Nat.le_trans (by simp) xh.len,fun i o _ e=>by
   have hi:=(List.getElem?_eq_some_iff.mp e).1
   exact xh.old i o (by intro z;have:=List.mem_singleton.mp z;omega) ((Ext.more (W:=[])).old _ _ (by simp) e)⟩
  have ll:(Mh p w).length<=36:=by
   unfold Mh;split
   ·simp
   ·exact aB po
  have fl:(Mi p w).length<=6:=by
   unfold Mi;split
   ·simp
   ·rw [List.length_map];exact Nat.le_trans (List.length_filter_le _ _) (by rw [List.length_range];exact h6)
  refine Af (Ak (Hf (Az (Az (Ao (by with_unfolding_all rfl) (Br (Aw (Ao (by with_unfolding_all rfl) (Ad ?_)))))))));refine J8 (k+2) po wo fun j1 h1 x1 g1=>?_
  refine Ja (x1.old _ _ (by simp) gh) g1 (by show (doL p S w).length+_<=_;omega) ?_;refine Br (Aw (Ao (by with_unfolding_all rfl) (Ad ?_)));refine Mj (k+2) po wo fun j2 h2 x2 g2=>?_
  refine Ja (x2.old _ _ (by simp) Av) g2 (by rw [List.length_append];show (doL p S w).length+_+_<=_;omega) ?_;exact q _ _ (x0.trans (x1.trans (Ext.more.trans (x2.trans Ext.more)))) Av
end
theorem V0 {f:D->Option PyData}{x:D}:∀ {l:List D}{as:List PyData},Df f l=some as->x∈l->∃ a,a∈as/\f x=some a
 | d::r,as,e,hx=>by
  simp only [Df] at e;cases e1:f d with
  | none=>rw [e1] at e;cases e
  | some b =>
   rw [e1] at e;cases e2:Df f r with
   | none=>rw [e2] at e;cases e
   | some bs =>
    rw [e2] at e;cases e;rcases List.mem_cons.mp hx with rfl|hx
    ·exact ⟨b,List.mem_cons_self,e1⟩
    ·obtain ⟨a,ha,ea⟩:=V0 e2 hx;exact ⟨a,List.mem_cons_of_mem _ ha,ea⟩
theorem pC (mh:MH):∀ (n:Nat) (d:D) (a:PyData),py mh n d=some a->dat n d=true->py mh (n+1) d=some a
 | 0,.non,_,h,_=>h
 | _+1,.non,_,h,_=>h
 | 0,.bl _,_,h,_=>h
 | _+1,.bl _,_,h,_=>h
 | 0,.int _,_,h,_=>h
 | _+1,.int _,_,h,_=>h
 | 0,.str _,_,h,_=>h
 | _+1,.str _,_,h,_=>h
 | 0,.tup _,_,_,z=>by simp [dat] at z
 | 0,.ref _,_,_,z=>by simp [dat] at z
 | 0,.rol _,_,_,z=>by simp [dat] at z
 | 0,.obj ..,_,_,z=>by simp [dat] at z
 | 0,.fn _,_,_,z=>by simp [dat] at z
 | _+1,.ref _,_,_,z=>by simp [dat] at z
 | _+1,.rol _,_,_,z=>by simp [dat] at z
 | _+1,.obj ..,_,_,z=>by simp [dat] at z
 | _+1,.fn _,_,_,z=>by simp [dat] at z
 | n+1,.tup ds,a,h,z=>by
  have z:K4 n ds=true:=z;have up:∀ {l:List D} {as:List PyData},K4 n l=true->Df (py mh n) l=some as->Df (py mh (n+1)) l=some as:=fun {l}=>by
   induction l with
   | nil=>intro as _ e;exact e
   | cons d r ih =>
    intro as z e;have z:(dat n d&&K4 n r)=true:=by simpa [K4] using z
    rw [Bool.and_eq_true] at z;simp only [Df] at e ⊢;cases e1:py mh n d with
    | none=>rw [e1] at e;cases e
    | some b =>
     rw [e1] at e;rw [pC mh n d b e1 z.1];cases e2:Df (py mh n) r with
     | none=>rw [e2] at e;cases e
     | some bs=>rw [e2] at e;rw [ih z.2 e2];exact e
  have h:(match Df (py mh n) ds with | some xs=>some (PyData.tuple xs) | none=>none)=some a:=h;show (match Df (py mh (n+1)) ds with | some xs=>some (PyData.tuple xs) | none=>none)=some a;cases e:Df (py mh n) ds with
  | none=>rw [e] at h;cases h
  | some xs=>rw [e] at h;rw [up z e];exact h
theorem Hl {n:Nat}:∀ {l:List D},(∀ x∈l,dat n x=true)->K4 n l=true
 | [],_=>rfl
 | x::r,h=>by
  show K4 n (x::r)=true;simp only [K4,h x List.mem_cons_self,Hl fun y hy=>h y (List.mem_cons_of_mem _ hy),Bool.and_self]
theorem Og {mh:MH}{P:D->MH->Prop}{j:Nat}{ds:List D}{x:D}(gj:mh[j]?=some (.lst ds)) (hd:∀ y∈ds,dat 59 y=true) (hx:x∈ds) (q:P (.bl true) mh):wV (inD false x (.ref j) mh) P:=by
 obtain ⟨as,e,_⟩:=K5 mh 59 ds (Hl hd);obtain ⟨a,ha,ea⟩:=V0 e hx;obtain ⟨a',ea',la⟩:=Tq mh 59 x (hd x hx);rw [ea] at ea';cases ea';refine Vm (k:=true) ?_ q;unfold inB;have p1:py mh 60 (.ref j)=some (.list as):=by
  show (match mh[j]? with | some (.lst o)=>(match Df (py mh 59) o with | some xs=>some (PyData.list xs) | none=>none) | _=>none)=_;rw [gj];dsimp only;rw [e]
 rw [p1,pC mh 59 x a ea (hd x hx)];dsimp only;exact congrArg some (List.any_eq_true.mpr ⟨a,ha,SeqAt.eqv_refl a la⟩)
theorem aC (n:Nat) (i:Int):dat n (.int i)=true:=by cases n <;> rfl
theorem pD (n:Nat) (xs:List Int):K4 n (xs.map D.int)=true:=Hl fun x hx=>by
 obtain ⟨i,_,rfl⟩:=List.mem_map.mp hx;exact aC n i
noncomputable def Chc (c:D):Prop:=(∃ i:Int,c=.int i)\/∃ xs:List Int,xs.length<=2/\c=.tup (xs.map D.int)
theorem Ld {c:D}{n:Nat}(h:Chc c):dat (n+1) c=true:=by
 rcases h with ⟨i,rfl⟩|⟨xs,_,rfl⟩
 ·rfl
 ·exact pD n xs
section
variable {mh:MH}{P:D->MH->Prop}{p:Pg}{w:Wd}{S:List (List Sp)}
theorem Ea {h:Nat}{c:D}(wo:w.ok p) (hh:h < p.plays.length) (hc:c∈chW p S w h):∃ s,stW p S w h=some s/\c∈chs p w h s/\Chc c:=by
 unfold chW at hc;cases es:stW p S w h with
 | none=>rw [es] at hc;cases hc
 | some s =>
  rw [es] at hc;have hc:c∈chs p w h s:=hc;refine ⟨s,rfl,hc,?_⟩;have zero:c∈[D.int 0]->Chc c:=fun z=>Or.inl ⟨0,List.mem_singleton.mp z⟩
  cases s with
  | choose a n =>
   obtain ⟨i,_,rfl⟩:=List.mem_map.mp (show c∈(List.range n).map Ae from hc);exact Or.inl ⟨_,rfl⟩
  | pick a r =>
   obtain ⟨y,_,rfl⟩:=List.mem_map.mp (show c∈(oth p r h).map T7 from hc);exact Or.inr ⟨[(y:Int)],by simp,rfl⟩
  | out a gg qq =>
   have hc:c∈Qa ((w.pt h).se gg):=hc;unfold Qa at hc;split at hc
   ·exact zero hc
   ·obtain ⟨y,_,rfl⟩:=List.mem_map.mp hc;exact Or.inr ⟨[(y:Int)],by simp,rfl⟩
  | take bx ls =>
   rcases Ik wo hh hc with ⟨rfl,_⟩|⟨s,l,r,_,_,_,rfl⟩
   ·exact Or.inr ⟨[-1,0],by simp,rfl⟩
   ·exact Or.inr ⟨[(s:Int),l.1],by simp,rfl⟩
  | send a kd b c' =>
   have hc:c∈(if J6 p w h a=true then [D.int 0] else []):=hc;split at hc
   ·exact zero hc
   ·cases hc
  | _=>exact zero hc
theorem Gv (k:Nat) (i:Int) (mh:MH):Ac (Gk (k+1)) fuel f27 [.int i] mh=some (.bl true,mh):=by kernel_rfl
theorem cR {j:Nat}{mh:MH}{bs:List Bool}{P:D->MH->Prop}(e:mh[j]?=some (.lst (bs.map D.bl))) (h:P (.bl (bs.all id)) mh):wV (sZ [.ref j] mh) P:=lX (f:=fun bs=>bs.all id) (Ek e) h
theorem X7 (k:Nat) {c:D}(hc:Chc c) (f:∀ h',Ext [] mh h'->P (.bl true) h'):wV (Ac (Gk (k+2)) fuel f78 [c] mh) P:=by
 refine Al (Acf (k+1)) nQ.1 nQ.2 rfl ?_;show wS (b78 (k+1)) [some c] mh _;unfold b78;rcases hc with ⟨i,rfl⟩|⟨xs,hx,rfl⟩
 ·walk_at "x0"
  exact Aq (Gv k _ _) (f _ Ext.refl)
 ·walk_at "x0"
  refine Gs xs D.int (fun _=>.bl true) (by omega) (Pq (Ao (by with_unfolding_all rfl) ⟨_,rfl,K6 rfl⟩)) (fun x h1 R hx x1 hR=>?_) fun h1 x1=>?_
  ·refine Bf ⟨rfl,?_⟩
   walk_at "x0"
   exact Aq (Gv k _ _) (hR _ Ext.refl)
  ·walk_at "x0"
   refine cR (bs:=xs.map fun _=>true) (by rw [Av,List.map_map];rfl) ?_;have e:(xs.map fun _=>true).all id=true:=by rw [List.all_map];exact List.all_eq_true.mpr fun _ _=>rfl
   rw [e]
   walk_at "x0"
   exact f _ (x1.trans Ext.more)
noncomputable def Mv (p:Pg) (S:List (List Sp)) (w:Wd) (m:D):Prop:=(∃ h c,h < p.plays.length/\c∈chW p S w h/\m=doD h c)\/(∃ s t,s < p.plays.length/\t < p.plays.length/\¬ w.x=0/\loD s t∈Mh p w/\m=loD s t)\/∃ h,h < p.plays.length/\¬ w.y=0/\faD h∈Mi p w/\m=faD h
theorem Ua {m:D}(h:m∈Mh p w):∃ s t,s < p.plays.length/\t < p.plays.length/\¬ w.x=0/\m=loD s t:=by
 unfold Mh at h;split at h
 ·cases h
 ·rename_i e0;obtain ⟨s,hs,h⟩:=List.mem_flatMap.mp h;obtain ⟨t,ht,h⟩:=List.mem_flatMap.mp h;unfold X6 at h;split at h
  ·exact ⟨s,t,List.mem_range.mp hs,List.mem_range.mp ht,e0,List.mem_singleton.mp h⟩
  ·cases h
theorem Ub {m:D}(h:m∈Mi p w):∃ s,s < p.plays.length/\¬ w.y=0/\m=faD s:=by
 unfold Mi at h;split at h
 ·cases h
 ·rename_i e0;obtain ⟨s,hs,rfl⟩:=List.mem_map.mp h;exact ⟨s,List.mem_range.mp (List.mem_filter.mp hs).1,e0,rfl⟩
theorem aD {m:D}(h:m∈doL p S w++Mh p w++Mi p w):Mv p S w m:=by
 rcases List.mem_append.mp h with h|h
 ·rcases List.mem_append.mp h with h|h
  ·obtain ⟨s,hs,h⟩:=List.mem_flatMap.mp h;obtain ⟨c,hc,h⟩:=List.mem_flatMap.mp h;exact Or.inl ⟨s,c,List.mem_range.mp hs,hc,List.mem_singleton.mp h⟩
  ·obtain ⟨s,t,h1,h2,h3,e⟩:=Ua h;exact Or.inr (Or.inl ⟨s,t,h1,h2,h3,by rw [← e];exact h,e⟩)
 ·obtain ⟨s,h1,h2,e⟩:=Ub h;exact Or.inr (Or.inr ⟨s,h1,h2,by rw [← e];exact h,e⟩)
theorem Ka (k:Nat) (wo:w.ok p) {m:D}(hm:Mv p S w m) (f:∀ h',Ext [] mh h'->P (.bl true) h'):wV (Ac (Gk (k+3)) fuel f77 [m] mh) P:=by
 refine Al (Ace (k+2)) nP.1 nP.2 rfl ?_;show wS (b77 (k+2)) [some m] mh _;unfold b77;rcases hm with ⟨h,c,hh,hc,rfl⟩|⟨s,t,hs,ht,hx,hi,rfl⟩|⟨h,hh,hy,hi,rfl⟩
 ·obtain ⟨s,es,hcs,cf⟩:=Ea wo hh hc;unfold doD
  walk_at "x0"
  refine Bs (ds:=_) (by intro z z';cases z') rfl ?_
  walk_at "x0"
  refine Bs (ds:=_) (by intro z z';cases z') rfl ?_
  walk_at "x0"
  refine Aq (Gv (k+1) _ _) ⟨_,rfl,fun _=>?_,fun e=>by cases e⟩
  walk_at "x0"
  exact X7 k cf f
 ·unfold loD
  walk_at "x0"
  refine Bs (ds:=_) (by intro z z';cases z') rfl ?_
  walk_at "x0"
  refine Bs (ds:=_) (by intro z z';cases z') rfl ?_
  walk_at "x0"
  refine Aq (Gv (k+1) _ _) ⟨_,rfl,fun _=>?_,fun e=>by cases e⟩
  walk_at "x0"
  exact Aq (Gv (k+1) _ _) (f _ Ext.refl)
 ·unfold faD
  walk_at "x0"
  refine Bs (ds:=_) (by intro z z';cases z') rfl ?_
  walk_at "x0"
  refine Bs (ds:=_) (by intro z z';cases z') rfl ?_
  walk_at "x0"
  exact Aq (Gv (k+1) _ _) (f _ Ext.refl)
theorem Le (k:Nat) (g:Prg p S) (wo:w.ok p) {m:D}(hm:Mv p S w m) (f:∀ h',Ext [] mh h'->P (.bl true) h'):wV (Ac (Gk (k+5)) fuel f76 [p.d,w.d,m] mh) P:=by
 refine Al (Xu (k+4)) Lx.1 Lx.2 rfl ?_;show wS (b76 (k+4)) [some p.d,some w.d,some m] mh _;unfold b76;refine Ak (Bl (G9 (G8 (Br (Aw (Ao (by with_unfolding_all rfl) (Ad ?_)))))));refine Ka (k+1) wo hm fun h1 x1=>?_
 rcases hm with ⟨h,c,hh,hc,rfl⟩|⟨s,t,hs,ht,hx,hi,rfl⟩|⟨h,hh,hy,hi,rfl⟩
 ·unfold doD
  walk_at "x0"
  refine Ew (a:=.tup (w.ps.map Pt.d)) ?_
  walk_at "x0"
  refine Bs (ds:=w.ps.map Pt.d) (by intro z z';cases z') rfl ?_;rw [List.length_map,wo.lp];refine Cm ⟨_,rfl,fun _=>?_,fun e=>absurd (of_decide_eq_false e) (by omega)⟩
  walk_at "x0"
  refine Ga k h g wo hh fun j h2 x2 lj gj=>?_
  refine Og gj (fun y hy=>?_) hc ?_
  ·obtain ⟨_,_,_,cf⟩:=Ea wo hh hy;exact Ld (n:=58) cf
  ·walk_at "x0"
   exact f _ (x1.trans x2)
 ·unfold loD
  walk_at "x0"
  refine J8 (k+2) g.po wo fun j h2 x2 gj=>?_
  refine Og gj (fun y hy=>?_) hi ?_
  ·obtain ⟨_,_,_,_,_,rfl⟩:=Ua hy
   kernel_rfl
  ·walk_at "x0"
   exact f _ (x1.trans x2)
 ·unfold faD
  walk_at "x0"
  refine Mj (k+2) g.po wo fun j h2 x2 gj=>?_
  refine Og gj (fun y hy=>?_) hi ?_
  ·obtain ⟨_,_,_,rfl⟩:=Ub hy
   kernel_rfl
  ·walk_at "x0"
   exact f _ (x1.trans x2)
theorem Kc (k h:Nat) (g:Prg p S) (wo:w.ok p) (hh:h < p.plays.length) {s:Sp}(es:stW p S w h=some s) {c:D}(hc:c∈chs p w h s) (f:∀ (w':Wd) h',w'.ok p->0<=(eff p w h c s).1.pl->w'=w.ap h (eff p w h c s)->Ext [] mh h'->P w'.d h'):wV (Ac (Gk (k+7)) fuel f75 [p.d,w.d,doD h c] mh) P:=by
 refine Al (oN (k+6)) Tv.1 Tv.2 rfl ?_;show wS (b75 (k+6)) [some p.d,some w.d,some (doD h c),none] mh _;unfold b75;unfold doD
 walk_at "x0"
 refine Ij (k+3) h g wo hh ?_;rw [es];refine ⟨_,_,_,_,_,rfl,rfl,by decide +kernel,Ad (Aq (X5 (k+5) (spD s) mh) ?_)⟩
 walk_at "x0"
 exact Vz k h g wo hh es hc f
theorem X8 {h:Nat}{s:Sp}(es:stW p S w h=some s) {c:D}(hc:c∈chs p w h s):c∈chW p S w h:=by unfold chW;rw [es];exact hc
noncomputable def Nx (p:Pg) (S:List (List Sp)) (w:Wd) (m:D) (w':Wd):Prop:=(∃ h c s,h < p.plays.length/\stW p S w h=some s/\c∈chs p w h s/\m=doD h c/\w'=w.ap h (eff p w h c s))\/(∃ s t,s < p.plays.length/\t < p.plays.length/\¬ w.x=0/\loD s t∈Mh p w/\m=loD s t/\w'=Acy w s t)\/∃ h,h < p.plays.length/\¬ w.y=0/\faD h∈Mi p w/\m=faD h/\w'=Acz p w h
theorem Nx.mv {m:D}{w':Wd}(h:Nx p S w m w'):Mv p S w m:=by
 rcases h with ⟨h,c,s,hh,es,hc,rfl,_⟩|⟨s,t,hs,ht,hx,hi,rfl,_⟩|⟨h,hh,hy,hi,rfl,_⟩
 ·exact Or.inl ⟨h,c,hh,X8 es hc,rfl⟩
 ·exact Or.inr (Or.inl ⟨s,t,hs,ht,hx,hi,rfl⟩)
 ·exact Or.inr (Or.inr ⟨h,hh,hy,hi,rfl⟩)
theorem aF {h h':Nat}{c c':D}(e:doD h c=doD h' c'):h=h'/\c=c':=by
 unfold doD Ae at e;injection e with e
 injection e with _ e
 injection e with e1 e
 injection e with e2 _
 injection e1 with e1
 exact ⟨by omega,e2⟩
theorem vI {s t s' t':Nat}(e:loD s t=loD s' t'):s=s'/\t=t':=by
 unfold loD Ae at e;injection e with e
 injection e with _ e
 injection e with e1 e
 injection e with e2 _
 injection e1 with e1
 injection e2 with e2
 exact ⟨by omega,by omega⟩
theorem vJ {h h':Nat}(e:faD h=faD h'):h=h':=by
 unfold faD Ae at e;injection e with e
 injection e with _ e
 injection e with e1 e
 injection e1 with e1
 omega
theorem pF {h s t:Nat}{c:D}:doD h c≠loD s t:=fun e=>by
 unfold doD loD at e;injection e with e
 injection e with e _
 injection e with e
 exact absurd e (by decide +kernel)
theorem pG {h s:Nat}{c:D}:doD h c≠faD s:=fun e=>by
 unfold doD faD at e;injection e with e
 injection e with _ e
 injection e with _ e
 cases e
theorem xG {s t h:Nat}:loD s t≠faD h:=fun e=>by
 unfold loD faD at e;injection e with e
 injection e with _ e
 injection e with _ e
 cases e
theorem Nx.det {m:D}{a b:Wd}(h1:Nx p S w m a) (h2:Nx p S w m b):a=b:=by
 rcases h1 with ⟨h,c,s,hh,es,hc,e,ea⟩|⟨s,t,hs,ht,hx,hi,e,ea⟩|⟨h,hh,hy,hi,e,ea⟩
 ·rcases h2 with ⟨h',c',s',hh',es',hc',e',eb⟩|⟨s',t',_,_,_,_,e',eb⟩|⟨h',_,_,_,e',eb⟩
  ·obtain ⟨rfl,rfl⟩:=aF (e.symm.trans e');rw [es] at es';cases es';rw [ea,eb]
  ·exact absurd (e.symm.trans e') pF
  ·exact absurd (e.symm.trans e') pG
 ·rcases h2 with ⟨h',c',s',hh',es',hc',e',eb⟩|⟨s',t',_,_,_,_,e',eb⟩|⟨h',_,_,_,e',eb⟩
  ·exact absurd (e'.symm.trans e) pF
  ·obtain ⟨rfl,rfl⟩:=vI (e.symm.trans e');rw [ea,eb]
  ·exact absurd (e.symm.trans e') xG
 ·rcases h2 with ⟨h',c',s',hh',es',hc',e',eb⟩|⟨s',t',_,_,_,_,e',eb⟩|⟨h',_,_,_,e',eb⟩
  ·exact absurd (e'.symm.trans e) pG
  ·exact absurd (e'.symm.trans e) xG
  ·obtain rfl:=vJ (e.symm.trans e');rw [ea,eb]
theorem Kd (k:Nat) (g:Prg p S) (wo:w.ok p) {m:D}(hm:Mv p S w m) (f:∀ (w':Wd) h',w'.ok p->Nx p S w m w'->Ext [] mh h'->P w'.d h'):wV (Ac (Gk (k+7)) fuel f75 [p.d,w.d,m] mh) P:=by
 refine Al (oN (k+6)) Tv.1 Tv.2 rfl ?_;show wS (b75 (k+6)) [some p.d,some w.d,some m,none] mh _;unfold b75;rcases hm with ⟨h,c,hh,hc,rfl⟩|⟨s,t,hs,ht,hx,hi,rfl⟩|⟨h,hh,hy,hi,rfl⟩
 ·obtain ⟨s,es,hcs,cf⟩:=Ea wo hh hc;unfold doD
  walk_at "x0"
  refine Ij (k+3) h g wo hh ?_;rw [es];refine ⟨_,_,_,_,_,rfl,rfl,by decide +kernel,Ad (Aq (X5 (k+5) (spD s) mh) ?_)⟩
  walk_at "x0"
  exact Vz k h g wo hh es hcs fun w' h' o _ e x=>f w' h' o (Or.inl ⟨h,c,s,hh,es,hcs,rfl,e⟩) x
 ·unfold loD
  walk_at "x0"
  exact pA (k+3) s t g.po wo hs ht hx fun o=>f _ _ o (Or.inr (Or.inl ⟨s,t,hs,ht,hx,hi,rfl,rfl⟩)) Ext.refl
 ·unfold faD
  walk_at "x0"
  exact pB (k+3) h g.po wo hh hy fun o=>f _ _ o (Or.inr (Or.inr ⟨h,hh,hy,hi,rfl,rfl⟩)) Ext.refl
end
section
variable {p:Pg}{w:Wd}{S:List (List Sp)}{h h':Nat}{e e':Pt×Ed}
theorem xH {u:Wd}{x:Nat}{d:Ed}:(u.ed h d).pt x=u.pt x:=by cases d <;> rfl
theorem aG {u:Wd}{d:Ed}:(u.ed h d).ps=u.ps:=by cases d <;> rfl
theorem Nk {u:Wd}{d:Ed}:(u.ed h d).x=u.x/\(u.ed h d).y=u.y:=by cases d <;> exact ⟨rfl,rfl⟩
theorem Eb (hne:h≠h'):(w.ap h e).pt h'=w.pt h':=by
 unfold Wd.ap;rw [xH];unfold Wd.pt Wd.setP;dsimp only;rw [List.getElem?_set_ne hne]
theorem Afi (hh:h < w.ps.length):(w.ap h e).pt h=e.1:=by
 unfold Wd.ap;rw [xH];unfold Wd.pt Wd.setP;dsimp only;rw [List.getElem?_set_self hh];rfl
theorem Ac3 (hh:h < w.ps.length) (h0:0<=(w.pt h).pl) (h1:0<=e.1.pl) (x:Nat):X4 ((w.ap h e).pt x)=X4 (w.pt x):=by
 by_cases z:h=x
 ·subst z;rw [Afi hh];unfold X4;rw [beq_eq_false_iff_ne.mpr (by omega),beq_eq_false_iff_ne.mpr (by omega)]
 ·rw [Eb z]
theorem aH (hh:h < w.ps.length) (h0:0<=(w.pt h).pl) (h1:0<=e.1.pl) (to:Int):Jo (w.ap h e) to=Jo w to:=by
 unfold Jo;rw [Ac3 hh h0 h1]
theorem Rq (wo:w.ok p) {s t:Nat}(hs:s < p.plays.length) (ht:t < p.plays.length) (l:List Lt) (s' t':Nat):(w.setC s t l).cell s' t'=if s=s'/\t=t' then l else w.cell s' t':=by
 have hl:t < w.rs.length:=by rw [wo.lr];exact ht
 unfold Wd.cell Wd.setC;dsimp only
 by_cases et:t=t'
 ·subst et;rw [List.getElem?_set_self hl];have hv:=(wo.rs (w.rs[t]) (List.getElem_mem hl)).1;rw [List.getElem?_eq_getElem hl];simp only [Option.getD_some]
  by_cases es:s=s'
  ·subst es;rw [List.getElem?_set_self (by rw [hv];exact hs),if_pos ⟨rfl,trivial⟩];rfl
  ·rw [List.getElem?_set_ne es,if_neg fun z=>es z.1]
 ·rw [List.getElem?_set_ne et,if_neg fun z=>et z.2]
noncomputable def Ev (p:Pg) (w:Wd) (h:Nat):Ed->Prop
 | .no=>True
 | .app t _=>t < p.plays.length
 | .pop s=>s < p.plays.length/\w.cell s h≠[]
noncomputable def edF (h:Nat):Ed->Nat->Nat->List Lt->List Lt
 | .no,_,_,l=>l
 | .app t0 m,s,t,l=>if h=s/\t0=t then l++[m] else l
 | .pop s0,s,t,l=>if s0=s/\h=t then l.tail else l
theorem Ho (wo:w.ok p) (hh:h < p.plays.length) {ev:∀ t m,e.2=.app t m->t < p.plays.length}{ep:∀ s,e.2=.pop s->s < p.plays.length}(s t:Nat):(w.ap h e).cell s t=edF h e.2 s t (w.cell s t):=by
 obtain ⟨X,d⟩:=e;have key:((w.setC 0 0 []).ok p->True):=fun _=>trivial
 cases d with
 | no=>rfl
 | app t0 m =>
  have a:=Rq wo hh (ev t0 m rfl) (w.cell h t0++[m]) s t;refine Eq.trans (show _=(w.setC h t0 (w.cell h t0++[m])).cell s t from rfl) (a.trans ?_);show _=if h=s/\t0=t then w.cell s t++[m] else w.cell s t
  by_cases z:h=s/\t0=t
  ·rw [if_pos z,if_pos z,z.1,z.2]
  ·rw [if_neg z,if_neg z]
 | pop s0 =>
  have a:=Rq wo (ep s0 rfl) hh (w.cell s0 h).tail s t;refine Eq.trans (show _=(w.setC s0 h (w.cell s0 h).tail).cell s t from rfl) (a.trans ?_);show _=if s0=s/\h=t then (w.cell s t).tail else w.cell s t
  by_cases z:s0=s/\h=t
  ·rw [if_pos z,if_pos z,z.1,z.2]
  ·rw [if_neg z,if_neg z]
theorem Ev.app (v:Ev p w h e.2):∀ t m,e.2=.app t m->t < p.plays.length:=fun t m z=>by rw [z] at v;exact v
theorem Ev.pop (v:Ev p w h e.2):∀ s,e.2=.pop s->s < p.plays.length:=fun s z=>by rw [z] at v;exact v.1
theorem Ac4 {u:Wd}(wo:w.ok p) (uo:u.ok p) (e1:w.ps=u.ps) (e2:w.x=u.x) (e3:w.y=u.y) (ec:∀ s t,s < p.plays.length->t < p.plays.length->w.cell s t=u.cell s t):w=u:=by
 obtain ⟨a,b,c,d⟩:=w;obtain ⟨a',b',c',d'⟩:=u;have er:b=b':=by
  refine List.ext_getElem (by rw [show b.length=_ from wo.lr,show b'.length=_ from uo.lr]) fun t h1 h2=>?_
  have l1:=(wo.rs b[t] (List.getElem_mem h1)).1;have l2:=(uo.rs b'[t] (List.getElem_mem h2)).1;have ht:t < p.plays.length:=by rw [← wo.lr];exact h1
  refine List.ext_getElem (by rw [l1,l2]) fun s h3 h4=>?_
  have hs:s < p.plays.length:=by rw [l1] at h3;exact h3
  have:=ec s t hs ht;unfold Wd.cell at this;dsimp only at this;rw [List.getElem?_eq_getElem h1,List.getElem?_eq_getElem h2] at this;simp only [Option.getD_some] at this;rw [List.getElem?_eq_getElem h3,List.getElem?_eq_getElem h4] at this;exact this
 simp only at e1 e2 e3;rw [e1,e2,e3,er]
theorem V1 {l:List Lt}(h:l≠[]) (m:Lt):(l++[m]).tail=l.tail++[m]:=by
 cases l with
 | nil=>exact absurd rfl h
 | cons a b=>rfl
theorem pH {d d':Ed}(hne:h≠h') (v:Ev p w h d) (v':Ev p w h' d') (s t:Nat):edF h' d' s t (edF h d s t (w.cell s t))=edF h d s t (edF h' d' s t (w.cell s t)):=by
 cases d with
 | no=>rfl
 | app t0 m =>
  cases d' with
  | no=>rfl
  | app t1 m1 =>
   show (if _ then _ else _)=if _ then _ else _
   dsimp only [edF]
   by_cases a:h=s/\t0=t
   ·rw [if_pos a,if_neg (fun b=>hne (a.1.trans b.1.symm)),if_pos a,if_neg (fun b=>hne (a.1.trans b.1.symm))]
   ·rw [if_neg a,if_neg a]
  | pop s1 =>
   show (if _ then _ else _)=if _ then _ else _
   dsimp only [edF]
   by_cases a:h=s/\t0=t
   ·rw [if_pos a,if_pos a]
    by_cases b:s1=s/\h'=t
    ·rw [if_pos b,if_pos b];exact V1 (by have:=v'.2;rw [b.1,b.2] at this;exact this) m
    ·rw [if_neg b,if_neg b]
   ·rw [if_neg a,if_neg a]
 | pop s0 =>
  cases d' with
  | no=>rfl
  | app t1 m1 =>
   show (if _ then _ else _)=if _ then _ else _
   dsimp only [edF]
   by_cases a:h'=s/\t1=t
   ·rw [if_pos a,if_pos a]
    by_cases b:s0=s/\h=t
    ·rw [if_pos b,if_pos b];exact (V1 (by have:=v.2;rw [b.1,b.2] at this;exact this) m1).symm
    ·rw [if_neg b,if_neg b]
   ·rw [if_neg a,if_neg a]
  | pop s1 =>
   show (if _ then _ else _)=if _ then _ else _
   dsimp only [edF]
   by_cases a:s0=s/\h=t
   ·rw [if_pos a,if_neg (fun b=>hne (a.2.trans b.2.symm)),if_pos a,if_neg (fun b=>hne (a.2.trans b.2.symm))]
   ·rw [if_neg a,if_neg a]
theorem vK (hne:h≠h') (hh:h < p.plays.length) (hh':h' < p.plays.length) (wo:w.ok p) (o1:(w.ap h e).ok p) (o2:(w.ap h' e').ok p) (o12:((w.ap h e).ap h' e').ok p) (o21:((w.ap h' e').ap h e).ok p) (v:Ev p w h e.2) (v':Ev p w h' e'.2):(w.ap h e).ap h' e'=(w.ap h' e').ap h e:=by
 refine Ac4 o12 o21 ?_ ?_ ?_ fun s t _ _=>?_
 ·unfold Wd.ap;rw [aG,aG];show ((w.setP h e.1).ed h e.2).ps.set h' e'.1=((w.setP h' e'.1).ed h' e'.2).ps.set h e.1;rw [aG,aG];exact List.set_comm _ _ hne
 ·unfold Wd.ap;rw [Nk.1,Nk.1];show ((w.setP h e.1).ed h e.2).x=((w.setP h' e'.1).ed h' e'.2).x;rw [Nk.1,Nk.1];rfl
 ·unfold Wd.ap;rw [Nk.2,Nk.2];show ((w.setP h e.1).ed h e.2).y=((w.setP h' e'.1).ed h' e'.2).y;rw [Nk.2,Nk.2];rfl
 ·rw [Ho o1 hh' (ev:=v'.app) (ep:=v'.pop),Ho o2 hh (ev:=v.app) (ep:=v.pop),Ho wo hh (ev:=v.app) (ep:=v.pop),Ho wo hh' (ev:=v'.app) (ep:=v'.pop)];exact pH hne v v' s t
theorem Yb (g:Prg p S) (wo:w.ok p) (hh:h < p.plays.length) {s:Sp}(es:stW p S w h=some s) {c:D}(hc:c∈chs p w h s):Ev p w h (eff p w h c s).2:=by
 have qo:=La wo hh;cases s with
 | send a kd b c' =>
  show Ev p w h (vH _ _ _);unfold vH;split
  ·exact trivial
  ·rename_i z;unfold Jo at z;have nk:=Pt.nm_ok (a:=a) qo;have hn:¬ (w.pt h).nm a=-1:=fun e=>z (by rw [e];rfl)
   exact (Mg nk hn).2
 | take bx ls =>
  show Ev p w h (Nu _ _ _ _).2;rcases Ik wo hh hc with ⟨rfl,h0⟩|⟨s,l,r,hs,ec,h0,rfl⟩
  ·dsimp only [Nu];split
   ·rw [if_pos (by decide)];exact trivial
   ·exact trivial
  ·dsimp only [Nu];split
   ·split
    ·exact trivial
    ·rw [Int.toNat_natCast,ec];exact ⟨hs,by rw [ec];intro z;cases z⟩
   ·exact trivial
 | _=>exact trivial
theorem V2 {d:Ed}{s t:Nat}{l:Lt}{r:List Lt}(hne:h≠t):∃ r',edF h d s t (l::r)=l::r':=by
 cases d with
 | no=>exact ⟨_,rfl⟩
 | app t0 m =>
  dsimp only [edF];split
  ·exact ⟨_,rfl⟩
  ·exact ⟨_,rfl⟩
 | pop s0 =>
  dsimp only [edF];rw [if_neg fun z=>hne z.2];exact ⟨_,rfl⟩
theorem Yc (hne:h≠h') (wo:w.ok p) (hh:h < p.plays.length) (hh':h' < p.plays.length) (h0:0<=(w.pt h).pl) (h1:0<=e.1.pl) (v:Ev p w h e.2) {s:Sp}{c:D}(hc:c∈chs p w h' s):eff p (w.ap h e) h' c s=eff p w h' c s:=by
 have hl:h < w.ps.length:=by rw [wo.lp];exact hh
 cases s with
 | send a kd b c' =>
  dsimp only [eff];rw [Eb hne,aH hl h0 h1]
 | take bx ls =>
  dsimp only [eff];rw [Eb hne];rcases Ik wo hh' hc with ⟨rfl,h0⟩|⟨s,l,r,hs,ec,h0,rfl⟩
  ·dsimp only [Nu];split
   ·rw [if_pos (by decide),if_pos (by decide)]
   ·rfl
  ·dsimp only [Nu];split
   ·split
    ·rfl
    ·rw [Int.toNat_natCast,Ho wo hh (ev:=v.app) (ep:=v.pop),ec];obtain ⟨r',e'⟩:=V2 (h:=h) (d:=e.2) (s:=s) (l:=l) (r:=r) hne;rw [e']
   ·rfl
 | _ =>
  dsimp only [eff];rw [Eb hne]
theorem pI (hne:h≠h'):stW p S (w.ap h e) h'=stW p S w h':=by unfold stW;rw [Eb hne]
theorem pJ (hne:h≠h') (wo:w.ok p) (hh:h < p.plays.length) (hh':h' < p.plays.length) (h0:0<=(w.pt h).pl) (h1:0<=e.1.pl) (v:Ev p w h e.2) {s:Sp}{c:D}(hc:c∈chs p w h' s):c∈chs p (w.ap h e) h' s:=by
 have hl:h < w.ps.length:=by rw [wo.lp];exact hh
 cases s with
 | send a kd b c' =>
  have hc:c∈(if J6 p w h' a=true then [D.int 0] else []):=hc;show c∈(if J6 p (w.ap h e) h' a=true then [D.int 0] else []);split at hc
  ·rename_i z;rw [if_pos]
   ·exact hc
   ·unfold J6 at z ⊢;rw [Eb hne,aH hl h0 h1];rcases (Bool.or_eq_true _ _).mp z with z|z
    ·rw [z];rfl
    ·have z:=of_decide_eq_true z;rw [Ho wo hh (ev:=v.app) (ep:=v.pop)];have:(edF h e.2 h' ((w.pt h').nm a).toNat (w.cell h' ((w.pt h').nm a).toNat)).length<=(w.cell h' ((w.pt h').nm a).toNat).length:=by
      cases e.2 with
      | no=>exact Nat.le_refl _
      | app t0 m =>
       dsimp only [edF];rw [if_neg fun z=>hne z.1];exact Nat.le_refl _
      | pop s0 =>
       dsimp only [edF];split
       ·rw [List.length_tail];omega
       ·exact Nat.le_refl _
     rw [decide_eq_true (Nat.lt_of_le_of_lt this z),Bool.or_true]
  ·cases hc
 | take bx ls =>
  have hc:c∈Jp p w h' bx ls:=hc;show c∈Jp p (w.ap h e) h' bx ls;unfold Jp at hc ⊢;have eb:Fz (w.ap h e) h' ls=Fz w h' ls:=by unfold Fz;rw [Eb hne]
  have er:Ef p (w.ap h e) h' bx=Ef p w h' bx:=by unfold Ef;rw [Eb hne]
  rw [eb,er];rcases List.mem_append.mp hc with hc|hc
  ·exact List.mem_append_left _ hc
  ·refine List.mem_append_right _ ?_;obtain ⟨s,hs,hc⟩:=List.mem_flatMap.mp hc;refine List.mem_flatMap.mpr ⟨s,hs,?_⟩;cases ec:w.cell s h' with
   | nil=>rw [Vw ec] at hc;cases hc
   | cons l r =>
    obtain ⟨r',e'⟩:=V2 (h:=h) (d:=e.2) (s:=s) (l:=l) (r:=r) hne;have e2:(w.ap h e).cell s h'=l::r':=by rw [Ho wo hh (ev:=v.app) (ep:=v.pop),ec,e']
    by_cases hk:l.1∈Ji ls
    ·rw [T8 ec hk] at hc;rw [T8 e2 hk];exact hc
    ·rw [Z7 ec hk] at hc;cases hc
 | out a gg qq =>
  have hc:c∈Qa ((w.pt h').se gg):=hc;show c∈Qa (((w.ap h e).pt h').se gg);rw [Eb hne];exact hc
 | _=>exact hc
end
theorem Rr {f:D->Option PyData}{a:PyData}:∀ {l:List D}{as:List PyData},Df f l=some as->a∈as->∃ x,x∈l/\f x=some a
 | [],as,e,m=>by simp only [Df] at e;cases e;cases m
 | d::r,as,e,m=>by
  simp only [Df] at e;cases e1:f d with
  | none=>rw [e1] at e;cases e
  | some b =>
   rw [e1] at e;cases e2:Df f r with
   | none=>rw [e2] at e;cases e
   | some bs =>
    rw [e2] at e;cases e;rcases List.mem_cons.mp m with rfl|m
    ·exact ⟨d,List.mem_cons_self,e1⟩
    ·obtain ⟨x,hx,ex⟩:=Rr e2 m;exact ⟨x,List.mem_cons_of_mem _ hx,ex⟩
theorem pK {mh:MH}{P:D->MH->Prop}{j:Nat}{ds:List D}{x:D}{b:PyData}(gj:mh[j]?=some (.lst ds)) (hd:∀ y∈ds,dat 59 y=true) (eb:py mh 60 x=some b) (hx:∀ y∈ds,∀ a,py mh 59 y=some a->PyData.eqv a b=false/\PyData.eqv b a=false) (q:P (.bl false) mh):wV (inD false x (.ref j) mh) P:=by
 obtain ⟨as,e,_⟩:=K5 mh 59 ds (Hl hd);refine Vm (k:=false) ?_ q;unfold inB;have p1:py mh 60 (.ref j)=some (.list as):=by
  show (match mh[j]? with | some (.lst o)=>(match Df (py mh 59) o with | some xs=>some (PyData.list xs) | none=>none) | _=>none)=_;rw [gj];dsimp only;rw [e]
 rw [p1,eb];dsimp only;refine congrArg some (List.any_eq_false.mpr fun a ha=>?_);obtain ⟨y,hy,ey⟩:=Rr e ha;have:=hx y hy a ey
 first
  | (rw [this.1];decide)
  | (rw [this.2];decide)
section
variable {mh:MH}{P:D->MH->Prop}{p:Pg}{w:Wd}{S:List (List Sp)}
end
theorem aJ {n:Nat}{ds:List D}(h:∀ x∈ds,dat n x=true):dat (n+1) (.tup ds)=true:=Hl h
theorem Oh {α:Type}{n:Nat}{l:List α}{F:α->D}(h:∀ x∈l,dat n (F x)=true):dat (n+1) (.tup (l.map F))=true:=Hl fun x hx=>by
 obtain ⟨y,hy,rfl⟩:=List.mem_map.mp hx;exact h y hy
theorem Ac5 (q:Pt):dat 58 q.d=true:=by kernel_rfl
theorem Ac6 (l:Lt):dat 56 (ltD l)=true:=by kernel_rfl
theorem Ac7 (l:List Lt):dat 57 (lsD l)=true:=Oh fun x _=>Ac6 x
theorem vL (l:List (List Lt)):dat 58 (Qu l)=true:=Oh fun x _=>Ac7 x
theorem Ac8 (w:Wd):dat 59 (.tup (w.ps.map Pt.d))=true:=Oh fun x _=>Ac5 x
theorem Ac9 (w:Wd):dat 59 (.tup (w.rs.map Qu))=true:=Oh fun x _=>vL x
theorem Ada (w:Wd):dat 59 (.tup [.int w.x,.int w.y])=true:=by kernel_rfl
theorem Yd (w:Wd):dat 60 w.d=true:=aJ fun x hx=>by
 simp only [List.mem_cons,List.mem_nil_iff,or_false] at hx;rcases hx with rfl|rfl|rfl
 ·exact Ac8 w
 ·exact Ac9 w
 ·exact Ada w
theorem eq_self (mh:MH) {d:D}(h:dat 60 d=true):eqB mh d d=some true:=by
 obtain ⟨a,ea,la⟩:=Tq mh 60 d h;unfold eqB;rw [ea];exact congrArg some (SeqAt.eqv_refl a la)
theorem aK (mh:MH) (i a b:Int):inB mh (.int i) (.tup [.int a,.int b])=some ((a==i) || (b==i)):=by
 have e2:py mh 60 (.tup [.int a,.int b])=some (.tuple [.int a,.int b]):=by kernel_rfl
 have e1:py mh 60 (.int i)=some (.int i):=rfl;unfold inB;rw [e1,e2];dsimp only;show some ((PyData.eqv (.int a) (.int i)) || ((PyData.eqv (.int b) (.int i)) || false))=_;rw [Bool.or_false];rfl
local macro_rules | `(tactic| walk_at "x7") => `(tactic| repeat (first | walk_at "s" | with_reducible refine Hj ?_ | with_reducible refine Fb (by simp) ?_ | with_reducible refine Ew ?_ | with_reducible refine Gn ?_ | with_reducible refine Dw ?_ | with_reducible refine Ii ?_ | with_reducible refine J1 ?_ | with_reducible refine Iw (by decide) (by decide) ?_ | with_reducible refine Gi (by decide) ?_ | with_reducible refine Abi (by kernel_rfl) (by kernel_rfl) (by decide +kernel) ?_ | with_reducible refine Abj (by kernel_rfl) (by kernel_rfl) (by decide +kernel) ?_))
section
variable {mh:MH}{P:D->MH->Prop}{p:Pg}{w:Wd}{S:List (List Sp)}
theorem Ye {m:D}(wo:w.ok p) (h:Mv p S w m):dat 59 m=true:=by
 rcases h with ⟨h,c,hh,hc,rfl⟩|⟨s,t,_,_,_,_,rfl⟩|⟨h,_,_,_,rfl⟩
 ·obtain ⟨_,_,_,cf⟩:=Ea wo hh hc;refine aJ fun x hx=>?_
  simp only [List.mem_cons,List.mem_nil_iff,or_false] at hx;rcases hx with rfl|rfl|rfl
  ·kernel_rfl
  ·exact aC _ _
  ·exact Ld (n:=57) cf
 ·kernel_rfl
 ·kernel_rfl
theorem Dm (k h:Nat) (c:D) (mh:MH):Ac (Gk (k+1)) fuel f74 [doD h c] mh=some (.int h,mh):=by kernel_rfl
theorem Yg (k s t:Nat) (mh:MH):Ac (Gk (k+1)) fuel f74 [loD s t] mh=some (.int (-1),mh):=by kernel_rfl
theorem Yh (k h:Nat) (mh:MH):Ac (Gk (k+1)) fuel f74 [faD h] mh=some (.int (-1),mh):=by kernel_rfl
theorem pL {m:D}(hm:Mv p S w m):∃ i:Int,∀ k mh,Ac (Gk (k+1)) fuel f74 [m] mh=some (.int i,mh):=by
 rcases hm with ⟨h,c,hh,hc,rfl⟩|⟨s,t,hs,ht,hx,hi,rfl⟩|⟨h,hh,hy,hi,rfl⟩
 ·exact ⟨_,fun k mh=>Dm k h c mh⟩
 ·exact ⟨_,fun k mh=>Yg k s t mh⟩
 ·exact ⟨_,fun k mh=>Yh k h mh⟩
theorem Adb (k:Nat) (g:Prg p S) (wo:w.ok p) {h h':Nat}(hne:h≠h') (hh:h < p.plays.length) (hh':h' < p.plays.length) {s s':Sp}{c c':D}(es:stW p S w h=some s) (es':stW p S w h'=some s') (hc:c∈chs p w h s) (hc':c'∈chs p w h' s')
  (f:∀ (w1 w2:Wd) m,w1=w.ap h (eff p w h c s)->w1.ok p->w2=w1.ap h' (eff p w h' c' s')->w2.ok p->Ext [] mh m->P w2.d m):wV (Ac (Gk (k+8)) fuel f82 [p.d,w.d,doD h c,doD h' c'] mh) P:=by
 refine Al (Xv (k+7)) Ly.1 Ly.2 rfl ?_;show wS (b82 (k+7)) [some p.d,some w.d,some (doD h c),some (doD h' c')] mh _;unfold b82;refine Ak (Bl (Ej (G9 (G8 (Br (Aw (Ao (by with_unfolding_all rfl) (Aw (Ao (by with_unfolding_all rfl) (Aw (Ao (by with_unfolding_all rfl) (Ad ?_))))))))))));refine Le (k+2) g wo (Or.inl ⟨h,c,hh,X8 es hc,rfl⟩) fun m1 x1=>?_
 walk_at "x7"
 refine Le (k+2) g wo (Or.inl ⟨h',c',hh',X8 es' hc',rfl⟩) fun m2 x2=>?_
 walk_at "x7"
 refine Aq (Dm _ _ _ _) ?_
 walk_at "x7"
 refine Aq (Dm _ _ _ _) ?_;refine Bp ⟨_,rfl,fun e=>absurd (eq_of_beq e) (by omega),fun e=>?_⟩
 walk_at "x7"
 refine Aq (Dm _ _ _ _) ?_
 walk_at "x7"
 refine Aq (Dm _ _ _ _) ?_
 walk_at "x7"
 refine Vm (k:=false) ((aK _ _ _ _).trans (congrArg some ?_)) ?_
 ·rw [beq_eq_false_iff_ne.mpr (show ¬ (h:Int)=-1 by omega),beq_eq_false_iff_ne.mpr (show ¬ (h':Int)=-1 by omega)];rfl
 walk_at "x7"
 refine Kc k h g wo hh es hc fun w1 m3 o1 pl1 e1 x3=>?_
 have v:=Yb g wo hh es hc;have hp:=(Rp g hh es).2.1
 walk_at "x7"
 have es1:stW p S w1 h'=some s':=by rw [e1,pI hne];exact es'
 have hc1:c'∈chs p w1 h' s':=by rw [e1];exact pJ hne wo hh hh' hp pl1 v hc'
 refine Kc k h' g o1 hh' es1 hc1 fun w2 m4 o2 pl2 e2 x4=>?_
 refine f w1 w2 m4 e1 o1 ?_ o2 (((x1.trans x2).trans x3).trans x4);rw [e2];have:=Yc hne wo hh hh' hp pl1 v (e:=eff p w h c s) hc';rw [← e1] at this;rw [this]
end
local macro_rules | `(tactic| walk_at "x1") => `(tactic| repeat (first | walk_at "s" | with_reducible refine Hj ?_ | with_reducible refine Fb (by simp) ?_ | with_reducible refine Ew ?_ | with_reducible refine Gn ?_ | with_reducible refine Dw ?_ | with_reducible refine Ii ?_ | with_reducible refine J1 ?_ | with_reducible refine Iw (by decide) (by decide) ?_ | with_reducible refine Gi (by decide) ?_ | with_reducible refine Pu (Or.inl (by decide)) ?_ | with_reducible refine Pu (Or.inr (by decide)) ?_))
section
variable {mh:MH}{P:D->MH->Prop}
theorem vM {i:Int}{h:Nat}(q:∀ z:Int,P (.int z) mh):wV (uF (.int i) (.int h) mh) P:=Gh (decide_eq_true (by omega)) (q _)
theorem Ff (k:Nat) (c:Int) (i:Nat) (f:∀ d:Nat,d < 2147483648->P (Ae d) mh):wV (Ac (Gk (k+1)) fuel f88 [.int c,.int i] mh) P:=by
  refine Al (Acl k) nZ.1 nZ.2 rfl ?_;show wS (b88 k) [some (.int c),some (.int i),none,none] mh _;unfold b88
  walk_at "x1"
  obtain ⟨r,hr,er⟩:=Bt i 120 (by decide);have er:(i:Int).fmod 120=(r:Int):=er;rw [er];have e:(1:Int)+24 * (r:Int)=((1+24 * r:Nat):Int):=by omega
  rw [e];refine vM fun z=>?_
  walk_at "x1"
  have rest:wS (Ab (Bd (dop Cg (dop G6 (dop Cd (dop Cd (dop Cg (dop Du (vr 0) (Zr (.int 2))) (Zr (.int 2147483647))) (dop G6 (Zr (.int 7919)) (vr 1))) (Zr (.int 1))) (Zr (.int 48271))) (Zr (.int 2147483647))) (Bb 3))
     (Ab (Bd (dop Cg (dop G6 (vr 3) (dop Cd (dop Du (vr 3) (Zr (.int 1009))) (Zr (.int 69621)))) (Zr (.int 2147483647))) (Bb 3))
     (Ab (retS (dop Cg (dop G6 (vr 3) (dop Cd (dop Du (vr 3) (Zr (.int 2003))) (Zr (.int 40692)))) (Zr (.int 2147483399))))
     Zn))) [some (.int c),some (.int i),some (.int z),none] mh (Tn P):=by
    walk_at "x1"
    generalize (((c.fdiv 2).fmod 2147483647+7919 * (i:Int)+1) * 48271)=y1;obtain ⟨n1,h1,e1⟩:=Bt y1 2147483647 (by decide);have e1:y1.fmod 2147483647=(n1:Int):=e1;rw [e1];refine Pu (Or.inl ⟨by omega,by omega⟩) ?_
    walk_at "x1"
    generalize ((n1:Int) * ((n1:Int).fdiv 1009+69621))=y2;obtain ⟨n2,h2,e2⟩:=Bt y2 2147483647 (by decide);have e2:y2.fmod 2147483647=(n2:Int):=e2;rw [e2];refine Pu (Or.inl ⟨by omega,by omega⟩) ?_
    walk_at "x1"
    generalize ((n2:Int) * ((n2:Int).fdiv 2003+40692))=y3;obtain ⟨n3,h3,e3⟩:=Bt y3 2147483399 (by decide);have e3:y3.fmod 2147483399=(n3:Int):=e3;rw [e3];exact f n3 (by omega)
  refine ⟨fun e1=>?_,fun e1=>?_⟩
  · walk_at "x1"
    refine Dj (fun e2=>?_) fun e2=>?_
    · walk_at "x1"
      refine Xp (by decide) (by decide) (by decide) ?_;refine Gi (by decide) ?_;obtain ⟨n3,h3,e3⟩:=Bt z 16777216 (by decide);have e3:z.fmod ((2:Int) ^ (24:Int).toNat)=(n3:Int):=e3;rw [e3]
      walk_at "x1"
      exact f n3 (by omega)
    · exact Ax (Af rest)
  · exact Dv (Ax (Af rest))
end
theorem Yi {mh:MH}{k:Nat}{xs:List Int}{a:Int}(h:mh[k]?=some (.lst (xs.map D.int))):inD true (.int a) (.ref k) mh=some (.bl (!decide (a∈xs)),mh):=by
 have e:=Pk (a:=a) h;simp only [inD,Ip h,Um] at e ⊢;cases ei:inB mh (.int a) (.ref k) with
 | none=>rw [ei] at e;cases e
 | some b =>
  rw [ei] at e;have e:some (D.bl b,mh)=some (D.bl (decide (a∈xs)),mh):=e;cases e;rfl
section
variable {mh:MH}{P:D->MH->Prop}{p:Pg}
theorem cT (k d L:Nat) (hL:L<=7) (f:∀ (ls:List Ln) h',ls.length<=3->(∀ l∈ls,Ln.ok L l)->Ext [] mh h'->P (.tup (ls.map lnD)) h'):wV (Ac (Gk (k+1)) fuel f89 [.int d,.int L] mh) P:=by
 refine Al (Acm k) oA.1 oA.2 rfl ?_;show wS (b89 k) [some (.int d),some (.int L),none,none,none,none] mh _;unfold b89;obtain ⟨k1,hk1,ek1⟩:=Bt d 3 (by decide);have ek1:(d:Int).fmod 3=(k1:Int):=ek1;obtain ⟨k2,hk2,ek2⟩:=Bt ((d:Int).fdiv 3) 4 (by decide);have ek2:((d:Int).fdiv 3).fmod 4=(k2:Int):=ek2;obtain ⟨nn,hnn,enn⟩:=Bt ((d:Int).fdiv 12) 2 (by decide);have enn:((d:Int).fdiv 12).fmod 2=(nn:Int):=enn
 walk_at "x1"
 rw [ek1,ek2];generalize hm1:mh++[MO.lst [D.int (1+(k1:Int)),.int (k2:Int)]]=m1;have g1:m1[mh.length]?=some (.lst [Ae (1+k1),Ae k2]):=by
  rw [← hm1,Av];have:(1:Int)+(k1:Int)=((1+k1:Nat):Int):=by omega
  rw [this]
 have x1:Ext [] mh m1:=by rw [← hm1];exact Ext.more
 have l1:mh.length < m1.length:=by rw [← hm1];simp
 refine Hg ?_
 walk_at "x1"
 rw [enn];have e0:(1:Int)+(nn:Int)=((1+nn:Nat):Int):=by omega
 rw [e0];refine ⟨_,Ib (by omega),Ce 0 (1+nn),fun i l h=>Ext [m1.length] (m1++[MO.lst []]) h/\(∃ ls:List Ln,ls.length<=i/\(∀ l∈ls,Ln.ok L l)/\h[m1.length]?=some (.lst (ls.map lnD)))/\∃ x y,l=[some (.int d),some (.int L),some (.ref mh.length),some (.ref m1.length),x,y],⟨Ext.refl,⟨[],Nat.le_refl _,fun _ z=>absurd z (by simp),Av⟩,_,_,rfl⟩,fun _ _ _ _=>⟨rfl,rfl⟩,?_,?_⟩
 ·rintro i dd l h ed ⟨xh,⟨ls,ll,lo,gl⟩,x,y,rfl⟩;rw [Dl,List.getElem?_map] at ed;have hi:i < 1+nn:=by
   rcases Nat.lt_or_ge i (1+nn) with z|z
   ·exact z
   ·rw [List.getElem?_eq_none_iff.mpr (by rw [List.length_range];exact z)] at ed;cases ed
  rw [List.getElem?_range hi] at ed;cases ed;refine Bf ?_;show wS _ [some (.int d),some (.int L),some (.ref mh.length),some (.ref m1.length),some (.int i),y] h _
  walk_at "x1"
  have e1:(24:Int)+48 * (i:Int)=((24+48 * i:Nat):Int):=by omega
  rw [e1];refine Iw (by omega) (by omega) ?_
  walk_at "x1"
  obtain ⟨b3,hb3,eb3⟩:=Bt ((d:Int).fdiv ((24+48 * i:Nat):Int)) 3 (by decide);have eb3:((d:Int).fdiv ((24+48 * i:Nat):Int)).fmod 3=(b3:Int):=eb3;rw [eb3];refine Fw Av (by simpa using hb3) fun bx hbx=>?_
  obtain ⟨ba,bb,bc,ha,hb,hc,rfl⟩:∃ a b c:Nat,a < 3/\b < 3/\c < 3/\bx=.tup [Ae a,Ae b,Ae c]:=by
   simp only [List.mem_cons,List.mem_nil_iff,or_false] at hbx;rcases hbx with rfl|rfl|rfl
   ·exact ⟨0,1,2,by decide,by decide,by decide,rfl⟩
   ·exact ⟨1,2,0,by decide,by decide,by decide,rfl⟩
   ·exact ⟨2,0,1,by decide,by decide,by decide,rfl⟩
  generalize hh2:h++[MO.lst [D.tup [.int 0,.int 1,.int 2],.tup [.int 1,.int 2,.int 0],.tup [.int 2,.int 0,.int 1]]]=h2;have x2:Ext [m1.length] (m1++[MO.lst []]) h2:=by rw [← hh2];exact xh.trans Ext.more
  have gl2:h2[m1.length]?=some (.lst (ls.map lnD)):=by rw [← hh2];exact (Ext.more (W:=[])).old _ _ (by simp) gl
  have gk:∀ h',Ext [] h2 h'->h'[mh.length]?=some (.lst [Ae (1+k1),Ae k2]):=fun h' x'=>x'.old _ _ (by simp) (x2.old _ _ (by intro z;have:=List.mem_singleton.mp z;omega) ((Ext.more (W:=[])).old _ _ (by simp) g1))
  obtain ⟨kd,ekd⟩:∃ kd:Nat,[Ae (1+k1),Ae k2][i]?=some (Ae kd):=by
   match i,(show i < 2 by omega) with
   | 0,_=>exact ⟨_,rfl⟩
   | 1,_=>exact ⟨_,rfl⟩
  refine Bf (Af (Ak (Bl (Ar (Az (Az (Ao (by with_unfolding_all rfl) (Ao (d:=.int i) (by with_unfolding_all rfl) (Cu (gk _ Ext.refl) ekd ?_)))))))));refine Gs ls lnD (fun l=>Ae l.kd) (by omega) ?_ (fun x h' R hx ex hR=>?_) fun m3 x3=>?_
  ·walk_at "x1"
   exact ⟨_,src_list gl2,Ext.refl,T3 gl2⟩
  ·refine Bf ⟨rfl,?_⟩;unfold lnD
   walk_at "x1"
   exact hR _ Ext.refl
  ·have gi:(m3++[MO.lst (ls.map fun l=>Ae l.kd)])[m3.length]?=some (.lst ((Ji ls).map D.int)):=by
    rw [Av];unfold Ji;rw [List.map_map];rfl
   generalize hm4:m3++[MO.lst (ls.map fun l=>Ae l.kd)]=m4 at gi;have x4:Ext [] h2 m4:=by rw [← hm4];exact x3.trans Ext.more
   have gl4:=x4.old _ _ (by simp) gl2;refine Aq (Yi gi) ⟨_,rfl,fun _=>?_,fun _=>?_⟩
   ·walk_at "x1"
    refine ⟨ty_list gl4,?_⟩
    walk_at "x1"
    refine Cu (gk _ x4) ekd ?_
    walk_at "x1"
    refine K3 (by simp) ?_
    walk_at "x1"
    have e2:(144:Int)+300 * (i:Int)=((144+300 * i:Nat):Int):=by omega
    rw [e2];refine Iw (by omega) (by omega) ?_
    walk_at "x1"
    have e3:(L:Int)+1=((L+1:Nat):Int):=by omega
    rw [e3];refine Gi (by omega) ?_;obtain ⟨q,hq,eq⟩:=Bt ((d:Int).fdiv ((144+300 * i:Nat):Int)) (L+1) (by omega);rw [eq]
    walk_at "x1"
    refine K3 (by simp) ?_
    walk_at "x1"
    refine Cy gl4 (by rw [List.length_map];omega) ?_
    walk_at "x1"
    refine ⟨x2.trans (x4.weak.trans Ext.set),⟨ls++[⟨kd,ba,bb,bc,q⟩],by simpa using ll,fun l hl=>?_,by rw [Eu gl4,List.map_append];rfl⟩,_,_,rfl⟩;rcases List.mem_append.mp hl with hl|hl
    ·exact lo l hl
    ·rw [List.mem_singleton.mp hl];exact ⟨ha,hb,hc,show q<=L by omega⟩
   ·refine Ax (Af (Ax ⟨x2.trans x4.weak,⟨ls,by omega,lo,gl4⟩,_,_,rfl⟩))
 ·rintro l h ⟨xh,⟨ls,ll,lo,gl⟩,x,y,rfl⟩;rw [Dl,List.length_map,List.length_range] at ll
  walk_at "x1"
  refine Ih (Ek gl) ?_;refine f ls h (by omega) lo ⟨Nat.le_trans x1.len (Nat.le_trans (by simp) xh.len),fun i o _ e=>?_⟩;have hi:=(List.getElem?_eq_some_iff.mp e).1;exact xh.old i o (by intro z;have:=List.mem_singleton.mp z;omega) ((Ext.more (W:=[])).old _ _ (by simp) (x1.old _ _ (by simp) e))
end
section
variable {mh:MH}{P:D->MH->Prop}{p:Pg}
theorem pM (k w a b q d L:Nat) (ha:a < 3) (hb:b < 3) (hq:q<=L) (f:∀ s h',Sp.ok p L s->Ext [] mh h'->P (spD s) h'):wV (Ac (Gk (k+1)) fuel f90 [.int w,.int a,.int b,.int q,.int d] mh) P:=by
 refine Al (Acn k) oE.1 oE.2 rfl ?_;show wS (b90 k) [some (.int w),some (.int a),some (.int b),some (.int q),some (.int d),none] mh _;unfold b90;obtain ⟨r8,h8,e8⟩:=Bt d 8 (by decide);have e8:(d:Int).fmod 8=(r8:Int):=e8;obtain ⟨r3,h3,e3⟩:=Bt ((d:Int).fdiv 8) 3 (by decide);have e3:((d:Int).fdiv 8).fmod 3=(r3:Int):=e3
 walk_at "x1"
 refine Xp (by decide) (by decide) (by decide) ?_
 walk_at "x1"
 refine Xp (by decide) (by decide) (by decide) ?_
 walk_at "x1"
 rw [e8];refine Fw Av (by simpa using h8) fun x hx=>?_
 obtain ⟨n,rfl⟩:∃ n:Int,x=.int n:=by
  simp only [List.mem_cons,List.mem_nil_iff,or_false] at hx;rcases hx with rfl | rfl | rfl | rfl | rfl | rfl | rfl | rfl <;> exact ⟨_,rfl⟩
 refine Bf (Af ?_);refine Ak (Bl (Ar (Az (Ao (by with_unfolding_all rfl) (Ad (Bp ⟨_,rfl,fun _=>?_,fun _=>Ax (Af ?_)⟩))))))
 ·walk_at "x1"
  exact f (.put a n) _ ha Ext.more
 refine Ak (Bl (Ar (Az (Ao (by with_unfolding_all rfl) (Ad (Bp ⟨_,rfl,fun _=>?_,fun _=>Ax (Af ?_)⟩))))))
 ·walk_at "x1"
  exact f (.copy a b) _ ⟨ha,hb⟩ Ext.more
 refine Ak (Bl (Ar (Az (Ao (by with_unfolding_all rfl) (Ad (Bp ⟨_,rfl,fun _=>?_,fun _=>Ax (Af ?_)⟩))))))
 ·walk_at "x1"
  exact f (.raise a n) _ ha Ext.more
 refine Ak (Bl (Ar (Az (Ao (by with_unfolding_all rfl) (Ad (Bp ⟨_,rfl,fun _=>?_,fun _=>Ax (Af ?_)⟩))))))
 ·walk_at "x1"
  exact f (.sum a b) _ ⟨ha,hb⟩ Ext.more
 refine Ak (Bl (Ar (Az (Ao (by with_unfolding_all rfl) (Ad (Bp ⟨_,rfl,fun _=>?_,fun _=>Ax (Af ?_)⟩))))))
 ·walk_at "x1"
  rw [e3];have e1:(1:Int)+(r3:Int)=((1+r3:Nat):Int):=by omega
  rw [e1];exact f (.choose a (1+r3)) _ ⟨ha,by omega⟩ Ext.more
 refine Ak (Bl (Ar (Az (Ao (by with_unfolding_all rfl) (Ad (Bp ⟨_,rfl,fun _=>?_,fun _=>Ax (Af ?_)⟩))))))
 ·walk_at "x1"
  exact f (.less a n q) _ ⟨ha,hq⟩ Ext.more
 refine Ak (Bl (Ar (Az (Ao (by with_unfolding_all rfl) (Ad (Bp ⟨_,rfl,fun _=>?_,fun _=>Ax (Af ?_)⟩))))))
 ·walk_at "x1"
  exact f (.before a b q) _ ⟨⟨ha,hb⟩,hq⟩ Ext.more
 walk_at "x1"
 exact f (.go q) _ hq Ext.more
noncomputable def Nv (hs:List Nat) (R:Nat):List Nat:=(List.range R).map fun r=>(hs.filter (·==r)).length
theorem vN {r:Nat}(h:(p.plays.filter (·==r)).length=1):hands p r≠[]:=by
 cases e:p.plays.filter (·==r) with
 | nil=>rw [e] at h;cases h
 | cons y ys =>
  have hy:=List.mem_filter.mp (show y∈p.plays.filter (·==r) by rw [e];exact List.mem_cons_self);obtain ⟨i,hi,ei⟩:=List.mem_iff_getElem.mp hy.1;have er:y=r:=eq_of_beq hy.2;have:i∈hands p r:=by
   unfold hands;rw [List.mem_filter,List.mem_range];refine ⟨hi,?_⟩;unfold plA;rw [List.getElem?_eq_getElem hi,ei,er];exact beq_self_eq_true r
  intro z;rw [z] at this;cases this
theorem cU (k w a b q d L R j:Nat) (hR:1<=R) (gj:mh[j]?=some (.lst ((Nv p.plays R).map Ae))) (ha:a < 3) (hb:b < 3) (hq:q<=L) (f:∀ s,Sp.ok p L s->P (spD s) mh):wV (Ac (Gk (k+1)) fuel f91 [.int w,.int a,.int b,.int q,.int d,.ref j] mh) P:=by
  refine Al (Aco k) oF.1 oF.2 rfl ?_;show wS (b91 k) [some (.int w),some (.int a),some (.int b),some (.int q),some (.int d),some (.ref j),none] mh _;unfold b91;obtain ⟨a2,h2,e2⟩:=Bt a 2 (by decide);have e2:(a:Int).fmod 2=(a2:Int):=e2;obtain ⟨r4,h4,e4⟩:=Bt ((d:Int).fdiv 8) 4 (by decide);have e4:((d:Int).fdiv 8).fmod 4=(r4:Int):=e4;have cl:(Nv p.plays R).length=R:=by unfold Nv;rw [List.length_map,List.length_range]
  obtain ⟨r,hr,er⟩:=Bt d R (by omega)
  walk_at "x1"
  refine Bs (ds:=(Nv p.plays R).map Ae) (by intro z z';cases z') (Ek gj) ?_;rw [List.length_map,cl];refine Gi (by omega) ?_;rw [er];have ec:((Nv p.plays R).map Ae)[r]?=some (Ae (p.plays.filter (·==r)).length):=by
    unfold Nv;rw [List.map_map,List.getElem?_map,List.getElem?_range hr];rfl
  refine Bf (Af ?_)
  have rest:(w=9->(p.plays.filter (·==r)).length=1)->wS (Ab (ifS (Aj (dop eqD (vr 0) (Zr (.int 9))))
     (Ab (retS (Bg (Aa (Zr (.str "only")) (Aa (vr 1) (Aa (vr 6) (Zr []))))))
      Zn)
     Zn)
     (Ab (ifS (Aj (dop eqD (vr 0) (Zr (.int 10))))
     (Ab (retS (Bg (Aa (Zr (.str "pick")) (Aa (vr 1) (Aa (vr 6) (Zr []))))))
      Zn)
     Zn)
     (Ab (ifS (Aj (dop eqD (vr 0) (Zr (.int 11))))
     (Ab (retS (Bg (Aa (Zr (.str "alike")) (Aa (vr 1) (Aa (vr 2) (Aa (vr 3) (Zr [])))))))
      Zn)
     Zn)
     (Ab (ifS (Aj (dop eqD (vr 0) (Zr (.int 12))))
     (Ab (retS (Bg (Aa (Zr (.str "all")) (Aa (dop Cg (vr 1) (Zr (.int 2))) (Aa (vr 6) (Zr []))))))
      Zn)
     Zn)
     (Ab (ifS (Aj (dop eqD (vr 0) (Zr (.int 13))))
     (Ab (retS (Bg (Aa (Zr (.str "empty")) (Aa (dop Cg (vr 1) (Zr (.int 2))) (Zr [])))))
      Zn)
     Zn)
     (Ab (ifS (Aj (dop eqD (vr 0) (Zr (.int 14))))
     (Ab (retS (Bg (Aa (Zr (.str "join")) (Aa (dop Cg (vr 1) (Zr (.int 2))) (Aa (vr 2) (Zr []))))))
      Zn)
     Zn)
     (Ab (ifS (Aj (dop eqD (vr 0) (Zr (.int 15))))
     (Ab (retS (Bg (Aa (Zr (.str "out")) (Aa (vr 2) (Aa (dop Cg (vr 1) (Zr (.int 2))) (Aa (vr 3) (Zr [])))))))
      Zn)
     Zn)
     (Ab (retS (Bg (Aa (Zr (.str "many")) (Aa (dop Cg (vr 1) (Zr (.int 2))) (Aa (dop Cg (dop Du (vr 4) (Zr (.int 8))) (Zr (.int 4))) (Aa (vr 3) (Zr [])))))))
     Zn)))))))) [some (.int w),some (.int a),some (.int b),some (.int q),some (.int d),some (.ref j),some (.int r)] mh (Tn P):=fun hw=>by
    refine Ak (Bl (Ar (Az (Ao (by with_unfolding_all rfl) (Ad (Bp ⟨_,rfl,fun e9=>?_,fun _=>Ax (Af ?_)⟩))))))
    · walk_at "x1"
      have e9:(w:Int)=9:=eq_of_beq e9;exact f (.only a r) ⟨ha,vN (hw (by omega))⟩
    refine Ak (Bl (Ar (Az (Ao (by with_unfolding_all rfl) (Ad (Bp ⟨_,rfl,fun _=>?_,fun _=>Ax (Af ?_)⟩))))))
    · walk_at "x1"
      exact f (.pick a r) ha
    refine Ak (Bl (Ar (Az (Ao (by with_unfolding_all rfl) (Ad (Bp ⟨_,rfl,fun _=>?_,fun _=>Ax (Af ?_)⟩))))))
    · walk_at "x1"
      exact f (.alike a b q) ⟨⟨ha,hb⟩,hq⟩
    refine Ak (Bl (Ar (Az (Ao (by with_unfolding_all rfl) (Ad (Bp ⟨_,rfl,fun _=>?_,fun _=>Ax (Af ?_)⟩))))))
    · walk_at "x1"
      rw [e2]
      walk_at "x1"
      exact f (.all a2 r) h2
    refine Ak (Bl (Ar (Az (Ao (by with_unfolding_all rfl) (Ad (Bp ⟨_,rfl,fun _=>?_,fun _=>Ax (Af ?_)⟩))))))
    · walk_at "x1"
      rw [e2];exact f (.empty a2) h2
    refine Ak (Bl (Ar (Az (Ao (by with_unfolding_all rfl) (Ad (Bp ⟨_,rfl,fun _=>?_,fun _=>Ax (Af ?_)⟩))))))
    · walk_at "x1"
      rw [e2]
      walk_at "x1"
      exact f (.join a2 b) ⟨h2,hb⟩
    refine Ak (Bl (Ar (Az (Ao (by with_unfolding_all rfl) (Ad (Bp ⟨_,rfl,fun _=>?_,fun _=>Ax (Af ?_)⟩))))))
    · walk_at "x1"
      rw [e2]
      walk_at "x1"
      exact f (.out b a2 q) ⟨⟨hb,h2⟩,hq⟩
    walk_at "x1"
    rw [e2,e4];exact f (.many a2 r4 q) ⟨h2,hq⟩
  refine Ak (Bl (Ej (Ar (Az (Ao (by with_unfolding_all rfl) (Ad (Bp ⟨_,rfl,fun e8=>?_,fun e8=>?_⟩)))))))
  · refine lZ ?_
    walk_at "x1"
    exact f (.me a) ha
  · refine Tg (Ar (Az (Ao (by with_unfolding_all rfl) (Ad (Bp ⟨_,rfl,fun e9=>?_,fun e9=>?_⟩)))))
    · refine Ar (Az (Az (Ao (by with_unfolding_all rfl) (Ao (d:=.int r) (by with_unfolding_all rfl) (Cu gj ec ?_)))));refine Ad (lW ⟨_,rfl,Dj (fun e1=>?_) fun e1=>?_⟩)
      · walk_at "x1"
        exact f (.me a) ha
      · refine Ax (Af (rest fun _=>?_));have e1:((((p.plays.filter (·==r)).length:Nat):Int)==1)=true:=by simpa using e1
        have e1:(((p.plays.filter (·==r)).length:Nat):Int)=1:=eq_of_beq e1;omega
    · have e9:¬ (w:Int)=9:=beq_eq_false_iff_ne.mp e9;exact Dv (Ax (Af (rest fun z=>absurd z (by omega))))
theorem cV (k d1 d2 L R j:Nat) (hL:L<=7) (hR:1<=R) (gj:mh[j]?=some (.lst ((Nv p.plays R).map Ae))) (f:∀ s h',Sp.ok p L s->Ext [] mh h'->P (spD s) h'):wV (Ac (Gk (k+2)) fuel f92 [.int d1,.int d2,.int L,.ref j] mh) P:=by
 refine Al (Acp (k+1)) oG.1 oG.2 rfl ?_;show wS (b92 (k+1)) [some (.int d1),some (.int d2),some (.int L),some (.ref j),none,none,none,none] mh _;unfold b92;obtain ⟨w,hw,ew⟩:=Bt d1 28 (by decide);have ew:(d1:Int).fmod 28=(w:Int):=ew;obtain ⟨a,ha,ea⟩:=Bt ((d1:Int).fdiv 28) 3 (by decide);have ea:((d1:Int).fdiv 28).fmod 3=(a:Int):=ea;obtain ⟨b,hb,eb⟩:=Bt ((d1:Int).fdiv 84) 3 (by decide);have eb:((d1:Int).fdiv 84).fmod 3=(b:Int):=eb;obtain ⟨q,hq,eq⟩:=Bt ((d1:Int).fdiv 252) (L+1) (by omega);obtain ⟨s3,hs3,es3⟩:=Bt d2 3 (by decide);have es3:(d2:Int).fmod 3=(s3:Int):=es3;obtain ⟨t3,ht3,et3⟩:=Bt ((d2:Int).fdiv 4) 3 (by decide);have et3:((d2:Int).fdiv 4).fmod 3=(t3:Int):=et3;obtain ⟨u5,hu5,eu5⟩:=Bt ((d2:Int).fdiv 1200) 5 (by decide);have eu5:((d2:Int).fdiv 1200).fmod 5=(u5:Int):=eu5
 walk_at "x1"
 have e3:(L:Int)+1=((L+1:Nat):Int):=by omega
 rw [e3];refine Gi (by omega) ?_;rw [ew,ea,eb,eq];refine Bf (Af ?_);show wS _ [some (.int d1),some (.int d2),some (.int L),some (.ref j),some (.int w),some (.int a),some (.int b),some (.int q)] mh _;refine Ak (Bl (Ar (Az (Ao (by with_unfolding_all rfl) (Ad (Cm ⟨_,rfl,fun _=>?_,fun _=>Ax (Af ?_)⟩))))))
 ·walk_at "x1"
  exact pM k w a b q d2 L ha hb (by omega) f
 refine Ak (Bl (Ar (Az (Ao (by with_unfolding_all rfl) (Ad (Cm ⟨_,rfl,fun _=>?_,fun _=>Ax (Af ?_)⟩))))))
 ·walk_at "x1"
  exact cU k w a b q d2 L R j hR gj ha hb (by omega) fun s so=>f s _ so Ext.refl
 refine Ak (Bl (Ar (Az (Ao (by with_unfolding_all rfl) (Ad (Cm ⟨_,rfl,fun _=>?_,fun _=>Ax (Af ?_)⟩))))))
 ·walk_at "x1"
  rw [es3,et3];have e1:(1:Int)+(s3:Int)=((1+s3:Nat):Int):=by omega
  rw [e1];exact f (.send a (1+s3) b t3) _ ⟨⟨ha,hb,ht3⟩,by omega,by omega⟩ Ext.refl
 refine Ak (Bl (Ar (Az (Ao (by with_unfolding_all rfl) (Ad (Cm ⟨_,rfl,fun _=>?_,fun _=>Ax (Af ?_)⟩))))))
 ·walk_at "x1"
  rw [eu5];refine Fw Av (by simpa using hu5) fun x hx=>?_
  obtain ⟨bx,rfl,hbx⟩:∃ bx:Int,x=.int bx/\(bx=-1\/∃ b:Nat,b < 3/\bx=(b:Int)):=by
   simp only [List.mem_cons,List.mem_nil_iff,or_false] at hx;rcases hx with rfl|rfl|rfl|rfl|rfl
   ·exact ⟨_,rfl,Or.inl rfl⟩
   ·exact ⟨_,rfl,Or.inl rfl⟩
   ·exact ⟨_,rfl,Or.inr ⟨0,by decide,rfl⟩⟩
   ·exact ⟨_,rfl,Or.inr ⟨1,by decide,rfl⟩⟩
   ·exact ⟨_,rfl,Or.inr ⟨2,by decide,rfl⟩⟩
  walk_at "x1"
  refine cT k d2 L hL fun ls h' l3 lo x1=>?_
  walk_at "x1"
  exact f (.take bx ls) _ ⟨hbx,by omega,lo⟩ (Ext.more.trans x1)
 walk_at "x1"
 exact f .bell _ trivial Ext.refl
end
noncomputable def rlD (l:List Sp):D:=.tup (l.map spD)
section
variable {mh:MH}{P:D->MH->Prop}{p:Pg}
theorem Qf {n i:Nat}{d:D}(e:(Ce 0 n)[i]?=some d):i < n/\d=Ae i:=by
 rw [Dl,List.getElem?_map] at e;rcases Nat.lt_or_ge i n with z|z
 ·rw [List.getElem?_range z] at e;cases e;exact ⟨z,rfl⟩
 ·rw [List.getElem?_eq_none_iff.mpr (by rw [List.length_range];exact z)] at e;cases e
theorem Qg (k:Nat) (ns:List Int) (i:Nat) (mh:MH) {P:D->MH->Prop}(h:∀ v:Int,P (.int v) mh):wV (Ac (Gk (k+1)) fuel f87 [.rol (ns.map D.int),.int i] mh) P:=by
 refine Al (Ack k) nY.1 nY.2 rfl ?_;show wS (b87 k) [some (.rol (ns.map D.int)),some (.int i)] mh _;unfold b87;walk_at "r"
 refine Bs (by intro z;simp) rfl ?_;walk_at "r"
 refine Dj (fun hk=>?_) fun hk=>?_
 ·walk_at "r"
  rw [decide_eq_true_iff,List.length_map] at hk;have hi:i < ns.length:=by omega
  refine Abh (d:=.int ns[i]) (by rw [List.getElem?_map,List.getElem?_eq_getElem hi];rfl) ?_;exact h _
 ·walk_at "r"
  exact h _
theorem cW (k L R j:Nat) (c:Int) (hL:L<=7) (hR:1<=R) (gj:mh[j]?=some (.lst ((Nv p.plays R).map Ae))) (f:∀ (ss:List Sp) h',ss.length=L->(∀ s∈ss,Sp.ok p L s)->Ext [] mh h'->P (rlD ss) h'):wV (Ac (Gk (k+3)) fuel f93 [.int c,.int L,.ref j] mh) P:=by
 have hj:=(List.getElem?_eq_some_iff.mp gj).1;refine Al (Acq (k+2)) oH.1 oH.2 rfl ?_;show wS (b93 (k+2)) [some (.int c),some (.int L),some (.ref j),none,none] mh _;unfold b93
 walk_at "x1"
 refine Hg ?_
 walk_at "x1"
 refine ⟨_,Ib (by omega),Ce 0 L,fun i l h=>Ext [mh.length] (mh++[MO.lst []]) h/\(∃ ss:List Sp,ss.length=i/\(∀ s∈ss,Sp.ok p L s)/\h[mh.length]?=some (.lst (ss.map spD)))/\∃ x,l=[some (.int c),some (.int L),some (.ref j),some (.ref mh.length),x],⟨Ext.refl,⟨[],rfl,fun _ z=>absurd z (by simp),Av⟩,_,rfl⟩,fun _ _ _ _=>⟨rfl,rfl⟩,?_,?_⟩
 ·rintro i dd l h ed ⟨xh,⟨ss,sl,so,gs⟩,x,rfl⟩;obtain ⟨hi,rfl⟩:=Qf ed;have gj1:h[j]?=some (.lst ((Nv p.plays R).map Ae)):=xh.old _ _ (by intro z;have:=List.mem_singleton.mp z;omega) ((Ext.more (W:=[])).old _ _ (by simp) gj);refine Bf ?_;show wS _ [some (.int c),some (.int L),some (.ref j),some (.ref mh.length),some (.int i)] h _
  walk_at "x1"
  refine ⟨ty_list gs,?_⟩
  walk_at "x1"
  have e1:(2:Int) * (i:Int)=((2 * i:Nat):Int):=by omega
  rw [e1];refine Ff (k+1) c (2 * i) fun d1 _=>?_
  walk_at "x1"
  rw [e1];have e2:((2 * i:Nat):Int)+1=((2 * i+1:Nat):Int):=by omega
  rw [e2];refine Ff (k+1) c (2 * i+1) fun d2 _=>?_
  walk_at "x1"
  refine cV (p:=p) k d1 d2 L R j hL hR gj1 fun s h1 s1 x1=>?_
  have gs1:=x1.old _ _ (by simp) gs
  walk_at "x1"
  refine Cy gs1 (by rw [List.length_map];omega) ?_
  walk_at "x1"
  refine ⟨xh.trans (x1.weak.trans Ext.set),⟨ss++[s],by rw [List.length_append,sl];rfl,fun z hz=>?_,by rw [Eu gs1,List.map_append];rfl⟩,_,rfl⟩;rcases List.mem_append.mp hz with hz|hz
  ·exact so z hz
  ·rw [List.mem_singleton.mp hz];exact s1
 ·rintro l h ⟨xh,⟨ss,sl,so,gs⟩,x,rfl⟩;rw [Dl,List.length_map,List.length_range] at sl
  walk_at "x1"
  refine Ih (Ek gs) ?_;refine f ss h sl so ⟨Nat.le_trans (by simp) xh.len,fun i o _ e=>?_⟩;have hi:=(List.getElem?_eq_some_iff.mp e).1;exact xh.old i o (by intro z;have:=List.mem_singleton.mp z;omega) ((Ext.more (W:=[])).old _ _ (by simp) e)
theorem Afj {p p':Pg}(h:p.plays=p'.plays) {L:Nat}{s:Sp}(so:Sp.ok p L s):Sp.ok p' L s:=by
 cases s with
 | only a r =>
  refine ⟨so.1,?_⟩;have:hands p' r=hands p r:=by unfold hands plA;rw [h]
  rw [this];exact so.2
 | _=>exact so
noncomputable def Shp (R:Nat) (hs:List Nat):Prop:=(1<=R/\R<=4)/\(1<=hs.length/\hs.length<=6)/\∀ r∈hs,r < R
theorem cX (k:Nat) (ns:List Int) (f:∀ (p:Pg) (S:List (List Sp)) h',Prg p S->Ext [] mh h'->P p.d h'):wV (Ac (Gk (k+4)) fuel f94 [.rol (ns.map D.int)] mh) P:=by
 refine Al (Acr (k+3)) oJ.1 oJ.2 rfl ?_;show wS (b94 (k+3)) [some (.rol (ns.map D.int)),none,none,none,none,none,none,none,none,none,none] mh _;unfold b94
 walk_at "x1"
 refine Qg (k+2) ns 0 mh fun c=>?_
 walk_at "x1"
 refine Ja ((Ext.more (W:=[])).old _ _ (by simp) Av) Av (by decide) ?_
 walk_at "x1"
 refine Ff (k+2) c 0 fun d0 _=>?_
 walk_at "x1"
 obtain ⟨r12,h12,e12⟩:=Bt d0 9 (by decide);have e12:(d0:Int).fmod 9=(r12:Int):=e12;rw [e12];refine Fw Av (by simpa using h12) fun x hx=>?_
 obtain ⟨R,hs,rfl,sh⟩:∃ (R:Nat) (hs:List Nat),x=.tup [Ae R,.tup (hs.map Ae)]/\Shp R hs:=by
  clear f
  simp only [List.mem_append,List.mem_cons,List.mem_nil_iff,or_false] at hx;rcases hx with (rfl|rfl|rfl|rfl|rfl|rfl|rfl)|rfl|rfl
  ·exact ⟨1,[0],rfl,by unfold Shp;decide⟩
  ·exact ⟨1,[0,0],rfl,by unfold Shp;decide⟩
  ·exact ⟨2,[0,1],rfl,by unfold Shp;decide⟩
  ·exact ⟨2,[0,0,1],rfl,by unfold Shp;decide⟩
  ·exact ⟨3,[0,1,2],rfl,by unfold Shp;decide⟩
  ·exact ⟨2,[1,1],rfl,by unfold Shp;decide⟩
  ·exact ⟨1,[0,0,0],rfl,by unfold Shp;decide⟩
  ·exact ⟨2,[0,0,1,1],rfl,by unfold Shp;decide⟩
  ·exact ⟨4,[0,1,2,3],rfl,by unfold Shp;decide⟩
 clear hx
 obtain ⟨⟨R1,R4⟩,⟨H1,H6⟩,hr⟩:=sh;have x1:∀ g1 g2 g3:MH,Ext [] mh (mh++g1++g2++g3):=fun _ _ _=>(Ext.more.trans Ext.more).trans Ext.more
 generalize hm:(_:List MO)++[MO.lst (_++_)]=m;have x1:Ext [] mh m:=by
  rw [← hm];exact x1 _ _ _
 clear hm
 refine Ti rfl (Af ?_);generalize hy:some (D.ref mh.length)=y;show wS _ [some (.rol (ns.map D.int)),some (.int c),_,some (Ae R),some (.tup (hs.map Ae)),none,none,none,none,none,none] m (Tn P);refine Ak (Dg ?_);refine Gs (List.range R) Ae (fun r=>Ae (hs.filter (·==r)).length) (by rw [List.length_range];omega) ?_ (fun r h' R' hx ex hR=>?_) fun m1 xm1=>?_
 ·walk_at "x1"
  exact ⟨_,Ib (by omega),Ext.refl,fun _ _=>⟨rfl,Dl R⟩⟩
 ·refine Bf ⟨rfl,?_⟩;refine Br (Aw ?_);refine Fx hs Ae (·==r) Ae (by omega) ?_ (fun x h2 R2 hx2 ex2 hR2=>?_) fun m2 xm2=>?_
  ·walk_at "x1"
   exact ⟨_,rfl,K6 rfl⟩
  ·refine Bf ⟨rfl,?_⟩
   walk_at "x1"
   have e:(((x:Nat):Int)==(r:Int))=(x==r):=by
    by_cases z:x=r
    ·rw [z];simp
    ·rw [beq_eq_false_iff_ne.mpr z,beq_eq_false_iff_ne.mpr fun q=>z (by omega)]
   refine ⟨e,rfl,fun _=>?_⟩
   walk_at "x1"
   exact hR2 _ Ext.refl
  ·walk_at "x1"
   refine Bs (ds:=(hs.filter (·==r)).map Ae) (by intro z z';cases z') (Tz _ _) ?_;rw [List.length_map];exact hR _ (xm2.trans Ext.more)
 ·have gc:(m1++[MO.lst ((List.range R).map fun r=>Ae (hs.filter (·==r)).length)])[m1.length]?=some (.lst ((Nv hs R).map Ae)):=by
   rw [Av];unfold Nv;rw [List.map_map];rfl
  generalize hm2:m1++[MO.lst ((List.range R).map fun r=>Ae (hs.filter (·==r)).length)]=m2 at gc;have x2:Ext [] mh m2:=by rw [← hm2];exact x1.trans (xm1.trans Ext.more)
  walk_at "x1"
  refine Ff (k+2) c 1 fun d1 _=>?_
  walk_at "x1"
  obtain ⟨r6,h6,e6⟩:=Bt d1 5 (by decide);have e6:(d1:Int).fmod 5=(r6:Int):=e6;rw [e6];refine Fw Av (by simpa using h6) fun x hx=>?_
  obtain ⟨l0,l1,hl0,hl1,rfl⟩:∃ l0 l1:Nat,l0<=5/\l1<=5/\x=.tup [Ae l0,Ae l1]:=by
   simp only [List.mem_cons,List.mem_nil_iff,or_false] at hx;rcases hx with rfl|rfl|rfl|rfl|rfl
   ·exact ⟨0,0,by decide,by decide,rfl⟩
   ·exact ⟨0,0,by decide,by decide,rfl⟩
   ·exact ⟨1,0,by decide,by decide,rfl⟩
   ·exact ⟨0,1,by decide,by decide,rfl⟩
   ·exact ⟨2,2,by decide,by decide,rfl⟩
  walk_at "x1"
  refine Ff (k+2) c 2 fun d2 _=>?_
  walk_at "x1"
  obtain ⟨r5,h5,e5⟩:=Bt d2 3 (by decide);have e5:(d2:Int).fmod 3=(r5:Int):=e5;rw [e5];refine Fw Av (by simpa using h5) fun x hx=>?_
  obtain ⟨rm,hrm1,hrm,rfl⟩:∃ rm:Nat,1<=rm/\rm<=10/\x=Ae rm:=by
   simp only [List.mem_cons,List.mem_nil_iff,or_false] at hx;rcases hx with rfl|rfl|rfl
   ·exact ⟨1,by decide,by decide,rfl⟩
   ·exact ⟨1,by decide,by decide,rfl⟩
   ·exact ⟨2,by decide,by decide,rfl⟩
  have x3:∀ g1 g2:MH,Ext [] m2 (m2++g1++g2):=fun _ _=>Ext.more.trans Ext.more
  generalize hm3:m2++_++_=m3;have x3:Ext [] m2 m3:=by rw [← hm3];exact x3 _ _
  have gc3:=x3.old _ _ (by simp) gc;have lj:=(List.getElem?_eq_some_iff.mp gc3).1
  walk_at "x1"
  show wS _ [some (.rol (ns.map D.int)),some (.int c),y,some (Ae R),some (.tup (hs.map Ae)),none,some (.ref m1.length),some (.tup [Ae l0,Ae l1]),some (Ae rm),some (.ref m3.length),none] (m3++[MO.lst []]) _;refine Hg ?_
  walk_at "x1"
  refine ⟨_,Ib (by omega),Ce 0 R,fun i l h=>Ext [m3.length] (m3++[MO.lst []]) h/\(∃ S:List (List Sp),S.length=i/\(∀ ss∈S,ss.length<=7/\∀ s∈ss,Sp.ok ⟨rm,l0,l1,[],hs⟩ ss.length s)/\h[m3.length]?=some (.lst (S.map rlD)))/\∃ x5 x10,l=[some (.rol (ns.map D.int)),some (.int c),y,some (Ae R),some (.tup (hs.map Ae)),x5,some (.ref m1.length),some (.tup [Ae l0,Ae l1]),some (Ae rm),some (.ref m3.length),x10],⟨Ext.refl,⟨[],rfl,fun _ z=>absurd z (by simp),Av⟩,_,_,rfl⟩,fun _ _ _ _=>⟨rfl,rfl⟩,?_,?_⟩
  ·rintro i dd l h ed ⟨xh,⟨S,sl,so,gs⟩,x5,x10,rfl⟩;obtain ⟨hi,rfl⟩:=Qf ed;have gj1:h[m1.length]?=some (.lst ((Nv hs R).map Ae)):=xh.old _ _ (by intro z;have:=List.mem_singleton.mp z;omega) ((Ext.more (W:=[])).old _ _ (by simp) gc3);refine Bf ?_;show wS _ [some (.rol (ns.map D.int)),some (.int c),y,some (Ae R),some (.tup (hs.map Ae)),some (.int i),some (.ref m1.length),some (.tup [Ae l0,Ae l1]),some (Ae rm),some (.ref m3.length),x10] h _
   walk_at "x1"
   have e1:(3:Int)+(i:Int)=((3+i:Nat):Int):=by omega
   rw [e1];refine Ff (k+2) c (3+i) fun d3 _=>?_
   walk_at "x1"
   obtain ⟨L,h8,e8⟩:=Bt d3 5 (by decide);have e8:(d3:Int).fmod 5=(L:Int):=e8;rw [e8]
   walk_at "x1"
   refine ⟨ty_list gs,?_⟩
   walk_at "x1"
   have e2:(1:Int)+(i:Int)=((1+i:Nat):Int):=by omega
   rw [e2];refine Qg (k+2) ns (1+i) h fun c2=>?_
   walk_at "x1"
   refine cW (p:=⟨rm,l0,l1,[],hs⟩) k L R m1.length c2 (by omega) R1 gj1 fun ss h1 sl1 so1 x1=>?_
   have gs1:=x1.old _ _ (by simp) gs
   walk_at "x1"
   refine Cy gs1 (by rw [List.length_map];omega) ?_
   walk_at "x1"
   refine ⟨xh.trans (x1.weak.trans Ext.set),⟨S++[ss],by rw [List.length_append,sl];rfl,fun z hz=>?_,by rw [Eu gs1,List.map_append];rfl⟩,_,_,rfl⟩;rcases List.mem_append.mp hz with hz|hz
   ·exact so z hz
   ·rw [List.mem_singleton.mp hz,sl1];exact ⟨by omega,so1⟩
  ·rintro l h ⟨xh,⟨S,sl,so,gs⟩,x5,x10,rfl⟩;rw [Dl,List.length_map,List.length_range] at sl
   walk_at "x1"
   refine Ih (Ek gs) ?_
   walk_at "x1"
   have e:D.tup [Ae rm,.tup [Ae l0,Ae l1],.tup (S.map rlD),.tup (hs.map Ae)]=(⟨rm,l0,l1,S.map fun l=>l.map spD,hs⟩:Pg).d:=by
    unfold Pg.d;rw [List.map_map];rfl
   rw [e];refine f ⟨rm,l0,l1,S.map fun l=>l.map spD,hs⟩ S h ⟨⟨H1,H6,fun r hr'=>?_,hrm⟩,rfl,fun r l el s hs'=>Afj rfl ((so l (List.mem_of_getElem? el)).2 s hs'),fun l hl=>by have:=(so l hl).1;omega⟩ (x2.trans (x3.trans ⟨Nat.le_trans (by simp) xh.len,fun i o _ e=>?_⟩))
   ·show r < (S.map _).length;rw [List.length_map,sl];exact hr r hr'
   ·have hi:=(List.getElem?_eq_some_iff.mp e).1;exact xh.old i o (by intro z;have:=List.mem_singleton.mp z;omega) ((Ext.more (W:=[])).old _ _ (by simp) e)
end
theorem Ke {n:Nat}{ds:List D}{d:D}{mh:MH}{P:D->MH->Prop}(e1:mh[n]?=some (.lst ds)) (hd:ds[ds.length - 1]?=some d) (h:P d mh):wV (ixD (.ref n) (.int (-1)) mh) P:=by
 have hl:0 < ds.length:=by
  cases ds with
  | nil=>cases hd
  | cons _ _=>exact Nat.succ_pos _
 refine ⟨d,mh,?_,h⟩;have ea:atI ds (-1)=some d:=by
  unfold atI ixN;rw [if_neg (by decide),if_pos (by omega)];show ds[(-1+(ds.length:Int)).toNat]?=_;have:(-1+(ds.length:Int)).toNat=ds.length - 1:=by omega
  rw [this];exact hd
 simp only [ixD,Ip e1,aY,Dq,e1,ea]
theorem Kf {α:Type}{l:List α}(h:0 < l.length):∃ a x,l=a++[x]:=by
 refine ⟨l.dropLast,l.getLast (by intro z;rw [z] at h;cases h),?_⟩;rw [List.dropLast_concat_getLast]
theorem Adc {W:List Nat}{a b:MH}{n:Nat}{o:MO}(x:Ext W a b) (h:n∈W):Ext W a (b.set n o):=⟨by rw [List.length_set];exact x.len,fun i o' hi e=>by
 rw [List.getElem?_set_ne (by intro z;rw [z] at h;exact hi h)]
 exact x.old i o' hi e⟩
local macro_rules | `(tactic| walk_at "x5") => `(tactic| repeat (first | walk_at "s" | with_reducible refine Hj ?_ | with_reducible refine Fb (by simp) ?_ | with_reducible refine Iw (by decide) (by decide) ?_ | with_reducible refine Gi (by decide) ?_))
local macro_rules | `(tactic| walk_at "x8") => `(tactic| repeat (first | walk_at "s" | with_reducible refine Hj ?_ | with_reducible refine Fb (by simp) ?_ | with_reducible refine Ew ?_ | with_reducible refine Gn ?_ | with_reducible refine Dw ?_ | with_reducible refine Ii ?_ | with_reducible refine J1 ?_))
section
variable {mh:MH}{P:D->MH->Prop}{p:Pg}{w:Wd}{S:List (List Sp)}
noncomputable def pt0:Pt:=⟨0,0,0,0,-1,-1,-1,0,0,false⟩
noncomputable def Mp (p:Pg):Wd:=⟨List.replicate p.H pt0,List.replicate p.H (List.replicate p.H []),p.l0,p.l1⟩
theorem Yj (po:p.ok):(Mp p).ok p:=by
 have h1:1<=p.H:=po.h1;refine ⟨List.length_replicate,fun i r q er eq=>?_,List.length_replicate,fun v hv=>?_,Nat.le_refl _,Nat.le_refl _⟩
 ·have hq:q∈List.replicate p.H pt0:=List.mem_of_getElem? eq;rw [(List.mem_replicate.mp hq).2];exact Vy h1 (by decide) (by omega)
 ·rw [(List.mem_replicate.mp hv).2];exact ⟨List.length_replicate,fun l hl=>by rw [(List.mem_replicate.mp hl).2];exact ⟨Nat.zero_le _,fun z hz=>absurd hz (by simp)⟩⟩
theorem Afk:(Mp p).d=.tup [.tup (List.replicate p.H pt0.d),.tup (List.replicate p.H (.tup (List.replicate p.H (.tup [])))),.tup [.int p.l0,.int p.l1]]:=by
 unfold Mp Wd.d;dsimp only;rw [List.map_replicate,List.map_replicate];unfold Qu;rw [List.map_replicate];rfl
theorem Rt (k:Nat) (po:p.ok) (f:P (Mp p).d mh):wV (Ac (Gk (k+2)) fuel f42 [p.d] mh) P:=by
 have h1:1<=p.H:=po.h1;have h6:p.H<=6:=po.h6;refine Al (Abt (k+1)) mK.1 mK.2 rfl ?_;show wS (b42 (k+1)) [some p.d,none] mh _;unfold b42 Pg.d
 walk_at "x8"
 refine Bs (ds:=p.plays.map Ae) (by intro z z';cases z') rfl ?_;rw [List.length_map]
 walk_at "x8"
 refine Aq (aA k 0 mh) ?_
 walk_at "x8"
 refine Oc h1 (by show p.H<=1000;omega) ?_
 walk_at "x8"
 refine Oc h1 (by show p.H<=1000;omega) ?_
 walk_at "x8"
 refine Oc h1 (by show p.H<=1000;omega) ?_
 walk_at "x8"
 rw [Afk] at f;exact f
theorem vO {mh g h:MH}(xh:Ext [mh.length] (mh++g) h):Ext [] mh h:=⟨Nat.le_trans (by simp) xh.len,fun i o _ e=>by
 have hi:=(List.getElem?_eq_some_iff.mp e).1
 exact xh.old i o (by intro z;have:=List.mem_singleton.mp z;omega) ((Ext.more (W:=[])).old _ _ (by simp) e)⟩
theorem pN (g:Prg p S) (wo:w.ok p) {h:Nat}(hh:h < p.plays.length) {s:Sp}(es:stW p S w h=some s) {c:D}(hc:c∈chs p w h s):(w.ap h (eff p w h c s)).ok p/\0<=(eff p w h c s).1.pl:=by
 obtain ⟨_,_,_,q⟩:=Kc (mh:=[]) (P:=fun _ _=>(w.ap h (eff p w h c s)).ok p/\0<=(eff p w h c s).1.pl) 0 h g wo hh es hc fun w' h' o pl e _=>⟨e ▸ o,pl⟩
 exact q
theorem Nx.ok (g:Prg p S) (wo:w.ok p) {m:D}{w':Wd}(h:Nx p S w m w'):w'.ok p:=by
 obtain ⟨_,_,_,q⟩:=Kd (mh:=[]) (P:=fun _ _=>w'.ok p) 0 g wo h.mv fun a _ o n _=>h.det n ▸ o
 exact q
inductive Ch (p:Pg) (S:List (List Sp)):Wd->List D->List Wd->Prop
 | nil {w:Wd}:Ch p S w [] [w]
 | cons {w w':Wd} {m:D} {ms:List D} {ws:List Wd}:Nx p S w m w'->Ch p S w' ms ws->Ch p S w (m::ms) (w::ws)
theorem Ch.len {ms:List D}{ws:List Wd}(h:Ch p S w ms ws):ws.length=ms.length+1:=by
 induction h with
 | nil=>rfl
 | cons _ _ ih=>rw [List.length_cons,List.length_cons,ih]
theorem Ch.ok (g:Prg p S) {ms:List D}{ws:List Wd}(h:Ch p S w ms ws):w.ok p->∀ u∈ws,u.ok p:=by
 induction h with
 | nil=>intro wo u hu;rw [List.mem_singleton.mp hu];exact wo
 | cons n _ ih =>
  intro wo u hu;rcases List.mem_cons.mp hu with rfl|hu
  ·exact wo
  ·exact ih (n.ok g wo) u hu
theorem Ch.at {ms:List D}{ws:List Wd}(h:Ch p S w ms ws):∀ (i:Nat) (a b:Wd) (m:D),ws[i]?=some a->ms[i]?=some m->ws[i+1]?=some b->Nx p S a m b:=by
 induction h with
 | nil=>intro i a b m _ e _;cases e
 | @cons w w' m0 ms ws n c ih =>
  intro i a b m ea em eb;cases i with
  | zero =>
   cases ea;cases em;cases c with
   | nil=>cases eb;exact n
   | cons _ _=>cases eb;exact n
  | succ i=>exact ih i a b m ea em eb
theorem V3 (k jm:Nat) (g:Prg p S) {ms:List D}{ws:List Wd}(hc:Ch p S (Mp p) ms ws) (lm:ms.length<=1000) (gm:mh[jm]?=some (.lst ms)) (f:∀ jw h',h'[jw]?=some (.lst (ws.map Wd.d))->Ext [] mh h'->P (.ref jw) h'):wV (Ac (Gk (k+8)) fuel f85 [p.d,.ref jm] mh) P:=by
 have hj:=(List.getElem?_eq_some_iff.mp gm).1;have lw:=hc.len;have wok:=hc.ok g (Yj g.po);refine Al (Acj (k+7)) nW.1 nW.2 rfl ?_;show wS (b85 (k+7)) [some p.d,some (.ref jm),none,none,none] mh _;unfold b85
 walk_at "x5"
 refine Rt (k+5) g.po ?_
 walk_at "x5"
 refine Hg ?_
 walk_at "x5"
 have gm1:(mh++[MO.lst [(Mp p).d]])[jm]?=some (.lst ms):=(Ext.more (W:=[])).old _ _ (by simp) gm;have e0:ws.take 1=[Mp p]:=by cases hc <;> rfl
 refine ⟨_,src_list gm1,Ez 0 ms,fun i l h=>Ext [mh.length] (mh++[MO.lst [(Mp p).d]]) h/\h[mh.length]?=some (.lst ((ws.take (i+1)).map Wd.d))/\∃ x3 x4,l=[some p.d,some (.ref jm),some (.ref mh.length),x3,x4],⟨Ext.refl,by rw [e0];exact Av,_,_,rfl⟩,?_,?_,?_⟩
 ·rintro i l h ⟨xh,_,_⟩;have gj:=xh.old _ _ (by intro z;have:=List.mem_singleton.mp z;omega) gm1;have q:=Fd gj;exact ⟨q.1,congrArg (Ez 0) q.2⟩
 ·rintro i d l h ed ⟨xh,gw,x3,x4,rfl⟩;rw [Io] at ed;obtain ⟨m,em,rfl⟩:=Option.map_eq_some_iff.mp ed;have hi:=(List.getElem?_eq_some_iff.mp em).1;have ea:ws[i]?=some (ws[i]'(by omega)):=List.getElem?_eq_getElem (by omega);have eb:ws[i+1]?=some (ws[i+1]'(by omega)):=List.getElem?_eq_getElem (by omega);generalize ws[i]'(by omega)=a at ea;generalize ws[i+1]'(by omega)=b at eb;have nx:=hc.at i a b m ea em eb;have ao:=wok a (List.mem_of_getElem? ea);have lt:(ws.take (i+1)).length=i+1:=by rw [List.length_take];omega
  have hd:((ws.take (i+1)).map Wd.d)[((ws.take (i+1)).map Wd.d).length - 1]?=some a.d:=by
   rw [List.length_map,lt,Nat.add_sub_cancel,List.getElem?_map,List.getElem?_take_of_lt (Nat.lt_succ_self i),ea];rfl
  refine Ti rfl ?_;show wS _ [some p.d,some (.ref jm),some (.ref mh.length),_,some m] h _
  walk_at "x5"
  refine Ke gw hd ?_
  walk_at "x5"
  refine Le (k+2) g ao nx.mv fun h1 x1=>?_
  have gw1:=x1.old _ _ (by simp) gw
  walk_at "x5"
  refine ⟨ty_list gw1,?_⟩
  walk_at "x5"
  refine Ke gw1 hd ?_
  walk_at "x5"
  refine Kd k g ao nx.mv fun w' h2 o2 n2 x2=>?_
  have ew:=nx.det n2;subst ew;have gw2:=x2.old _ _ (by simp) gw1
  walk_at "x5"
  refine Cy gw2 (by rw [List.length_map,lt];omega) ?_
  walk_at "x5"
  refine ⟨xh.trans ((x1.trans x2).weak.trans Ext.set),?_,_,_,rfl⟩;rw [Eu gw2,List.take_add_one (i:=i+1),eb,List.map_append];rfl
 ·rintro l h ⟨xh,gw,x3,x4,rfl⟩;have el:(Ez 0 ms).length=ms.length:=by
   have:∀ (k:Nat) (l:List D),(Ez k l).length=l.length:=fun k l=>by
    induction l generalizing k with
    | nil=>rfl
    | cons a r ih=>show (Ez (k+1) r).length+1=_;rw [ih];rfl
   exact this 0 ms
  rw [el,List.take_of_length_le (by omega)] at gw
  walk_at "x5"
  exact f _ _ gw (vO xh)
end
theorem Yk {mh:MH}{P:D->MH->Prop}{j:Nat}{ds:List D}{x:D}(gj:mh[j]?=some (.lst ds)) (hd:∀ y∈ds,dat 59 y=true) (hx:dat 60 x=true) (q:∀ b,P (.bl b) mh):wV (inD false x (.ref j) mh) P:=by
 obtain ⟨as,e,_⟩:=K5 mh 59 ds (Hl hd);obtain ⟨a,ea,_⟩:=Tq mh 60 x hx;have p1:py mh 60 (.ref j)=some (.list as):=by
  show (match mh[j]? with | some (.lst o)=>(match Df (py mh 59) o with | some xs=>some (PyData.list xs) | none=>none) | _=>none)=_;rw [gj];dsimp only;rw [e]
 have e2:∃ b,inB mh x (.ref j)=some b:=by
  unfold inB;rw [p1,ea];exact ⟨_,rfl⟩
 obtain ⟨b,e2⟩:=e2;exact Vm (k:=b) e2 (q b)
noncomputable def chP:D->PyData
 | .int i=>.int i
 | .tup ds=>.tuple (ds.map fun d=>match d with | .int i=>.int i | _=>.none)
 | _=>.none
theorem Qh (xs:List Int):chP (.tup (xs.map D.int))=.tuple (xs.map PyData.int):=by
 show PyData.tuple ((xs.map D.int).map _)=_;rw [List.map_map];rfl
theorem Yl {c:D}(h:Chc c) (mh:MH) (n:Nat):py mh (n+1) c=some (chP c):=by
 rcases h with ⟨i,rfl⟩|⟨xs,_,rfl⟩
 ·rfl
 ·rw [Qh];show (match Df (py mh n) (xs.map D.int) with | some ys=>some (PyData.tuple ys) | none=>none)=_;rw [Iv]
theorem Ym {c d:D}(h1:Chc c) (h2:Chc d) (hn:c≠d):PyData.eqv (chP c) (chP d)=false:=by
 rcases h1 with ⟨i,rfl⟩|⟨xs,_,rfl⟩
 ·rcases h2 with ⟨j,rfl⟩|⟨ys,_,rfl⟩
  ·have:i≠j:=fun e=>hn (by rw [e])
   show (i==j)=false;exact beq_eq_false_iff_ne.mpr this
  ·rfl
 ·rcases h2 with ⟨j,rfl⟩|⟨ys,_,rfl⟩
  ·rfl
  ·rw [Qh,Qh];show PyData.eqvAll _ _=false;rw [Ie];exact beq_eq_false_iff_ne.mpr fun e=>hn (by rw [e])
section
variable {mh:MH}{P:D->MH->Prop}{p:Pg}{w:Wd}{S:List (List Sp)}
theorem doP {c:D}(cf:Chc c) (h:Nat) (n:Nat):py mh (n+2) (doD h c)=some (.tuple [.str "do",.int h,chP c]):=by
 show (match Df (py mh (n+1)) [.str "do",.int h,c] with | some ys=>some (PyData.tuple ys) | none=>none)=_
 have e0:py mh (n+1) (.str "do")=some (.str "do"):=by
  show (if PyData.strOk "do"=true then some (PyData.str "do") else none)=_;rw [if_pos (by decide +kernel)]
 have e1:py mh (n+1) (.int h)=some (.int h):=rfl;simp only [Df,e0,e1,Yl cf mh n]
theorem xJ {c d:D}(h1:Chc c) (h2:Chc d) {s t:Nat}(hn:¬ (s=t/\c=d)):PyData.eqv (.tuple [.str "do",.int s,chP c]) (.tuple [.str "do",.int t,chP d])=false:=by
 simp only [PyData.eqv,PyData.eqvAll,Bool.and_true]
 by_cases e:s=t
 ·rw [Ym h1 h2 fun z=>hn ⟨e,z⟩,Bool.and_false,Bool.and_false]
 ·rw [beq_eq_false_iff_ne.mpr (show ¬ (s:Int)=(t:Int) by omega),Bool.false_and,Bool.and_false]
theorem vP (k h:Nat) {c:D}(cf:Chc c) (g:Prg p S) (wo:w.ok p) (hh:h < p.plays.length) (hi:c ∉ chW p S w h) (hf:∀ mh {Q:D->MH->Prop},(∀ h',Ext [] mh h'->Q (.bl true) h')->wV (Ac (Gk (k+4)) fuel f77 [doD h c] mh) Q) (f:∀ h',Ext [] mh h'->P (.bl false) h'):wV (Ac (Gk (k+5)) fuel f76 [p.d,w.d,doD h c] mh) P:=by
 refine Al (Xu (k+4)) Lx.1 Lx.2 rfl ?_;show wS (b76 (k+4)) [some p.d,some w.d,some (doD h c)] mh _;unfold b76;refine Ak (Bl (G9 (G8 (Br (Aw (Ao (by with_unfolding_all rfl) (Ad ?_)))))));refine hf mh fun h1 x1=>?_
 unfold doD
 walk_at "x0"
 refine Ew (a:=.tup (w.ps.map Pt.d)) ?_
 walk_at "x0"
 refine Bs (ds:=w.ps.map Pt.d) (by intro z z';cases z') rfl ?_;rw [List.length_map,wo.lp];refine Cm ⟨_,rfl,fun _=>?_,fun e=>absurd (of_decide_eq_false e) (by omega)⟩
 walk_at "x0"
 refine Ga k h g wo hh fun j h2 x2 lj gj=>?_
 refine pK (b:=chP c) gj (fun y hy=>?_) (Yl cf h2 59) (fun y hy a ea=>?_) ?_
 ·obtain ⟨_,_,_,cf⟩:=Ea wo hh hy;exact Ld (n:=58) cf
 ·obtain ⟨_,_,_,cy⟩:=Ea wo hh hy;rw [Yl cy h2 58] at ea;cases ea;have hn:y≠c:=fun e=>hi (e ▸ hy)
  exact ⟨Ym cy cf hn,Ym cf cy hn.symm⟩
 ·walk_at "x0"
  exact f _ (x1.trans x2)
theorem vQ (k:Nat) (g:Prg p S) (wo:w.ok p) {u:Wd}(uo:u.ok p) {m:D}(hm:Mv p S u m) (f:∀ b h',Ext [] mh h'->P (.bl b) h'):wV (Ac (Gk (k+5)) fuel f76 [p.d,w.d,m] mh) P:=by
 have md:dat 59 m=true:=Ye uo hm;refine Al (Xu (k+4)) Lx.1 Lx.2 rfl ?_;show wS (b76 (k+4)) [some p.d,some w.d,some m] mh _;unfold b76;refine Ak (Bl (G9 (G8 (Br (Aw (Ao (by with_unfolding_all rfl) (Ad ?_)))))));refine Ka (k+1) uo hm fun h1 x1=>?_
 rcases hm with ⟨h,c,hh,hc,rfl⟩|⟨s,t,hs,ht,hx,hi,rfl⟩|⟨h,hh,hy,hi,rfl⟩
 ·obtain ⟨_,_,_,cf⟩:=Ea uo hh hc;unfold doD
  walk_at "x0"
  refine Ew (a:=.tup (w.ps.map Pt.d)) ?_
  walk_at "x0"
  refine Bs (ds:=w.ps.map Pt.d) (by intro z z';cases z') rfl ?_;rw [List.length_map,wo.lp];refine Cm ⟨_,rfl,fun _=>?_,fun e=>absurd (of_decide_eq_false e) (by omega)⟩
  walk_at "x0"
  refine Ga k h g wo hh fun j h2 x2 lj gj=>?_
  refine Yk gj (fun y hy=>?_) (Ld (n:=59) cf) fun b=>?_
  ·obtain ⟨_,_,_,cf⟩:=Ea wo hh hy;exact Ld (n:=58) cf
  ·walk_at "x0"
   exact f b _ (x1.trans x2)
 ·unfold loD
  walk_at "x0"
  refine J8 (k+2) g.po wo fun j h2 x2 gj=>?_
  refine Yk gj (fun y hy=>?_) (by kernel_rfl) fun b=>?_
  ·obtain ⟨_,_,_,_,_,rfl⟩:=Ua hy
   kernel_rfl
  ·walk_at "x0"
   exact f b _ (x1.trans x2)
 ·unfold faD
  walk_at "x0"
  refine Mj (k+2) g.po wo fun j h2 x2 gj=>?_
  refine Yk gj (fun y hy=>?_) (by kernel_rfl) fun b=>?_
  ·obtain ⟨_,_,_,rfl⟩:=Ub hy
   kernel_rfl
  ·walk_at "x0"
   exact f b _ (x1.trans x2)
theorem Ade (k:Nat) (g:Prg p S) (wo:w.ok p) {u:Wd}(uo:u.ok p) {m:D}(hm:Mv p S w m) {h:Nat}{c:D}(hh:h < p.plays.length) (hu:c∈chW p S u h) (hi:c ∉ chW p S w h) (f:∀ h',Ext [] mh h'->P .non h'):wV (Ac (Gk (k+8)) fuel f82 [p.d,w.d,m,doD h c] mh) P:=by
 obtain ⟨_,_,_,cf⟩:=Ea uo hh hu;refine Al (Xv (k+7)) Ly.1 Ly.2 rfl ?_;show wS (b82 (k+7)) [some p.d,some w.d,some m,some (doD h c)] mh _;unfold b82;refine Ak (Bl (Ej (G9 (G8 (Br (Aw (Ao (by with_unfolding_all rfl) (Aw (Ao (by with_unfolding_all rfl) (Aw (Ao (by with_unfolding_all rfl) (Ad ?_))))))))))));refine Le (k+2) g wo hm fun h1 x1=>?_
 walk_at "x0"
 refine vP (k+2) h cf g wo hh hi (fun mh Q q=>Ka (k+3) uo (Or.inl ⟨h,c,hh,hu,rfl⟩) q) fun h2 x2=>?_
 walk_at "x0"
 exact f _ (x1.trans x2)
theorem Adf (k:Nat) (g:Prg p S) (wo:w.ok p) {u:Wd}(uo:u.ok p) {m n:D}(hm:Mv p S w m) (hn:Mv p S u n) {i j:Int}(em:∀ k mh,Ac (Gk (k+1)) fuel f74 [m] mh=some (.int i,mh)) (en:∀ k mh,Ac (Gk (k+1)) fuel f74 [n] mh=some (.int j,mh)) (hij:i=j\/i=-1\/j=-1) (f:∀ h',Ext [] mh h'->P .non h'):wV (Ac (Gk (k+8)) fuel f82 [p.d,w.d,m,n] mh) P:=by
 refine Al (Xv (k+7)) Ly.1 Ly.2 rfl ?_;show wS (b82 (k+7)) [some p.d,some w.d,some m,some n] mh _;unfold b82;refine Ak (Bl (Ej (G9 (G8 (Br (Aw (Ao (by with_unfolding_all rfl) (Aw (Ao (by with_unfolding_all rfl) (Aw (Ao (by with_unfolding_all rfl) (Ad ?_))))))))))));refine Le (k+2) g wo hm fun h1 x1=>?_
 walk_at "x0"
 refine vQ (k+2) g wo uo hn fun b h2 x2=>?_
 cases b with
 | false =>
  walk_at "x0"
  exact f _ (x1.trans x2)
 | true =>
  walk_at "x0"
  refine Aq (em _ _) ?_
  walk_at "x0"
  refine Aq (en _ _) ?_;refine Bp ⟨_,rfl,fun e=>?_,fun e=>?_⟩
  ·walk_at "x0"
   exact f _ (x1.trans x2)
  ·have hne:¬ i=j:=beq_eq_false_iff_ne.mp e
   walk_at "x0"
   refine Aq (em _ _) ?_
   walk_at "x0"
   refine Aq (en _ _) ?_
   walk_at "x0"
   refine Vm (k:=true) ((aK _ _ _ _).trans (congrArg some ?_)) ?_
   ·rcases hij with z|z|z
    ·exact absurd z hne
    ·rw [z];rfl
    ·rw [z];exact Bool.or_true _
   walk_at "x0"
   exact f _ (x1.trans x2)
end
section
variable {mh:MH}{P:D->MH->Prop}{p:Pg}{w:Wd}{S:List (List Sp)}
theorem pO (k jp ja j:Nat) {h:MH}{ml:List D}{vs us:List Int}(gj:h[j]?=some (.lst ml)) (gp:IsI h jp vs) (ga:IsI h ja us) (hv:0 < vs.length) (la:us.length<=1000) (hne:jp≠ja) (f:∀ v:Int,P (.int v) (h.set ja (.lst ((us++[(ml.length:Int)]).map D.int)))):wV (M6 (Gk (k+1)) fuel mk0.ci [.ref jp,.ref ja] [.ref j] h) P:=by
 have w:wS (Acu k) [some (.ref j),some (.ref jp),some (.ref ja)] h fun fl _ h'=>∃ d,fl=.rt d/\P d h':=by
  unfold Acu
  walk_at "x5"
  refine ⟨ty_list ga,?_⟩
  walk_at "x5"
  refine Bs (by intro z z';cases z') (Ek gj) ?_
  walk_at "x5"
  refine Cy ga (by rw [List.length_map];omega) ?_;have e1:us.map D.int++[.int (ml.length:Int)]=(us++[(ml.length:Int)]).map D.int:=by rw [List.map_append];rfl
  rw [e1];have ga1:(h.set ja (.lst ((us++[(ml.length:Int)]).map D.int)))[ja]?=some (.lst ((us++[(ml.length:Int)]).map D.int)):=Eu ga;have gp1:(h.set ja (.lst ((us++[(ml.length:Int)]).map D.int)))[jp]?=some (.lst (vs.map D.int)):=(Ext.set (n:=ja)).old _ _ (by intro z;exact hne (List.mem_singleton.mp z)) gp;generalize h.set ja (.lst ((us++[(ml.length:Int)]).map D.int))=h1 at f ga1 gp1 ⊢
  walk_at "x5"
  refine Bs (by intro z z';cases z') (Ek ga1) ?_
  walk_at "x5"
  refine Bs (by intro z z';cases z') (Ek gp1) ?_;rw [List.length_map];refine Gi (by rw [List.length_map];omega) ?_;rw [List.length_map];obtain ⟨r,hr,er⟩:=Bt (((us++[(ml.length:Int)]).length:Int) - 1) vs.length hv;rw [er];refine Acv gp1 hr ?_
  walk_at "x5"
  exact ⟨_,rfl,f _⟩
 obtain ⟨fl,l,h',e,d,rfl,q⟩:=w;refine ⟨d,h',?_,q⟩;unfold M6;rw [if_pos (show [D.ref j].length=mk0.ci.ps.length from (show 1=mk0.ci.ps.length by decide +kernel)),uZ];have el:([D.ref j].map some++List.replicate (mk0.ci.N.length - [D.ref j].length) none++[D.ref jp,D.ref ja].map some)=[some (.ref j),some (.ref jp),some (.ref ja)]:=by
  have:mk0.ci.N.length - [D.ref j].length=0:=(show mk0.ci.N.length - 1=0 by decide +kernel);rw [this];rfl
 rw [el,e]
theorem pP {k i jp ja:Nat}{mr:DM (List D)}{loc:DL.Loc}(el:loc[i]?=some (some (.clo mk0.ci [.ref jp,.ref ja]))) (h:wD mr loc mh fun ds h1=>∃ j ml vs us,ds=[.ref j]/\h1[j]?=some (.lst ml)/\IsI h1 jp vs/\IsI h1 ja us/\0 < vs.length/\us.length<=1000/\jp≠ja/\∀ v:Int,P (.int v) (h1.set ja (.lst ((us++[(ml.length:Int)]).map D.int)))):wD (Ri (Gk (k+2)).cal (Gk (k+2)).clo i mr) loc mh P:=by
 obtain ⟨ds,h1,e1,j,ml,vs,us,rfl,gj,gp,ga,hv,la,hne,q⟩:=h;obtain ⟨d,h2,e2,z⟩:=pO k jp ja j gj gp ga hv la hne q;refine ⟨d,h2,?_,z⟩;unfold Ri;rw [el];show (mr.bnd fun ds=>Zl (M6 (Gk (k+1)) fuel mk0.ci [.ref jp,.ref ja] ds)) loc mh=_;unfold DM.bnd;rw [e1];exact e2
theorem Adg {m:D}(h:Mv p S w m):∃ ds,m=.tup ds:=by
 rcases h with ⟨h,c,_,_,rfl⟩ | ⟨s,t,_,_,_,_,rfl⟩ | ⟨h,_,_,_,rfl⟩ <;> exact ⟨_,rfl⟩
theorem Ch.snoc {ms:List D}{ws wa:List Wd}{wl w':Wd}{m:D}(h:Ch p S w ms ws):ws=wa++[wl]->Nx p S wl m w'->Ch p S w (ms++[m]) (ws++[w']):=by
 induction h generalizing wa with
 | @nil w =>
  intro e n;have e:[w]=wa++[wl]:=e;cases wa with
  | nil=>cases e;exact .cons n .nil
  | cons a r=>cases r <;> cases e
 | @cons w w1 m0 ms ws n0 c ih =>
  intro e n;have:=c.len;cases wa with
  | nil =>
   injection e with _ e
   rw [e] at this;cases this
  | cons a r =>
   injection e with _ e
   exact .cons n0 (ih e n)
theorem vR (k jp ja:Nat) (g:Prg p S) {vs:List Int}(lv:0 < vs.length) (hne:jp≠ja) (gv:IsI mh jp vs) (ga:IsI mh ja []) (f:∀ (ms:List D) (ws:List Wd) jm jw h',Ch p S (Mp p) ms ws->ms.length<=24->h'[jm]?=some (.lst ms)->h'[jw]?=some (.lst (ws.map Wd.d))->Ext [ja] mh h'->P (.tup [.ref jm,.ref jw]) h'):wV (Ac (Gk (k+8)) fuel f84 [p.d,.clo mk0.ci [.ref jp,.ref ja],.int 24] mh) P:=by
 have hja:=Tw ga;have hjp:=Tw gv;refine Al (Aci (k+7)) nU.1 nU.2 rfl ?_;show wS (b84 (k+7)) [some p.d,some (.clo mk0.ci [.ref jp,.ref ja]),some (.int 24),none,none,none,none] mh _;unfold b84
 walk_at "x5"
 refine Rt (k+5) g.po ?_
 walk_at "x5"
 generalize hm1:mh++[MO.lst []]=m1;have l1:m1.length=mh.length+1:=by rw [← hm1];simp
 have g1:m1[mh.length]?=some (.lst []):=by rw [← hm1];exact Av
 have x1:Ext [ja] mh m1:=by rw [← hm1];exact Ext.more
 have gv1:IsI m1 jp vs:=by rw [← hm1];exact gv.ext Ext.more
 have ga1:IsI m1 ja []:=by rw [← hm1];exact ga.ext Ext.more
 refine lU (fun n l h=>∃ (ms:List D) (ws:List Wd) (us:List Int) (x5 x6:Option D),ms.length+n=24/\l=[some p.d,some (.clo mk0.ci [.ref jp,.ref ja]),some (.int 24),some (.ref mh.length),some (.ref m1.length),x5,x6]/\Ch p S (Mp p) ms ws/\h[mh.length]?=some (.lst ms)/\h[m1.length]?=some (.lst (ws.map Wd.d))/\us.length=ms.length/\IsI h ja us/\IsI h jp vs/\Ext [ja] mh h) 24 (by decide) ⟨[],[Mp p],[],none,none,rfl,rfl,.nil,(Ext.more (W:=[])).old _ _ (by simp) g1,Av,rfl,ga1.ext Ext.more,gv1.ext Ext.more,x1.trans Ext.more⟩ ?_;rintro n l h ⟨ms,ws,us,x5,x6,hn,rfl,ch,gm,gw,lu,gu,gp,xh⟩;have lw:=ch.len;have wo:=ch.ok g (Yj g.po)
 walk_at "x5"
 refine Bs (by intro z z';cases z') (Ek gm) ?_
 walk_at "x5"
 refine Dj (fun e=>?_) fun e=>?_
 ·have e:((ms.length:Nat):Int) < 24:=of_decide_eq_true e;obtain ⟨wa,wl,ew⟩:=Kf (l:=ws) (by omega);have wlo:wl.ok p:=wo wl (by rw [ew];simp);have hd:(ws.map Wd.d)[(ws.map Wd.d).length - 1]?=some wl.d:=by
   rw [ew,List.map_append,List.length_append,List.map_singleton,List.length_singleton,Nat.add_sub_cancel,List.getElem?_append_right (Nat.le_refl _),Nat.sub_self];rfl
  walk_at "x5"
  refine Ke gw hd ?_
  walk_at "x5"
  refine Ml (k+2) g wlo fun j h2 x2 gj=>?_
  have gj:h2[j]?=some (.lst (doL p S wl++Mh p wl++Mi p wl)):=gj;have all:∀ m∈doL p S wl++Mh p wl++Mi p wl,Mv p S wl m:=fun m hm=>aD hm
  generalize doL p S wl++Mh p wl++Mi p wl=ml at gj all;have gm2:=x2.old _ _ (by simp) gm;have gw2:=x2.old _ _ (by simp) gw;have gu2:=gu.ext x2;have gp2:=gp.ext x2;have xh2:=xh.trans x2.weak;have hj2:=Tw gj
  walk_at "x5"
  refine Bs (by intro z z';cases z') (Ek gj) ?_
  walk_at "x5"
  refine Dj (fun e0=>?_) fun e0=>?_
  ·refine Ak ⟨_,_,_,rfl,?_⟩;show Wx _ _ Fl.nx _ _
   walk_at "x5"
   exact f ms ws _ _ _ ch (by omega) gm2 gw2 xh2
  ·have e0:¬ ((ml.length:Nat):Int)=0:=beq_eq_false_iff_ne.mp e0;have hl:0 < ml.length:=by omega
   walk_at "x5"
   refine pP (k:=k+6) (jp:=jp) (ja:=ja) (by with_unfolding_all rfl) ?_
   walk_at "x5"
   refine cM (Ek gj) ?_;have gu3:=gu2.ext (Ext.more (g:=[MO.lst ml]));have gp3:=gp2.ext (Ext.more (g:=[MO.lst ml]))
   walk_at "x5"
   refine ⟨_,ml,vs,us,rfl,Av,gp3,gu3,lv,by omega,hne,fun ul=>?_⟩;have x3:Ext [ja] h2 ((h2++[MO.lst ml]).set ja (.lst ((us++[(ml.length:Int)]).map D.int))):=Adc Ext.more (by simp);have gua:IsI ((h2++[MO.lst ml]).set ja (.lst ((us++[(ml.length:Int)]).map D.int))) ja (us++[(ml.length:Int)]):=Eu gu3;have gpa:IsI ((h2++[MO.lst ml]).set ja (.lst ((us++[(ml.length:Int)]).map D.int))) jp vs:=(Ext.set (n:=ja)).old _ _ (by intro z;exact hne (List.mem_singleton.mp z)) gp3;have nj:j≠ja:=fun z=>by
    rw [z] at gj;have gu2:h2[ja]?=some (.lst (us.map D.int)):=gu2;rw [gu2] at gj;injection gj with gj
    injection gj with gj
    cases ml with
    | nil=>cases hl
    | cons m0 mr =>
     obtain ⟨ds,ed⟩:=Adg (all m0 List.mem_cons_self);obtain ⟨i,_,ei⟩:=List.mem_map.mp (show m0∈us.map D.int by rw [gj];exact List.mem_cons_self);rw [ed] at ei;cases ei
   generalize hu':us++[(ml.length:Int)]=us' at x3 gua gpa ⊢;have lu':us'.length=ms.length+1:=by rw [← hu',List.length_append,lu];rfl
   generalize (h2++[MO.lst ml]).set ja (.lst (us'.map D.int))=h3 at x3 gua gpa ⊢;have gj3:h3[j]?=some (.lst ml):=x3.old _ _ (by simpa using nj) gj;have gm3:=x3.old _ _ (by intro z;have:=List.mem_singleton.mp z;omega) gm2;have gw3:=x3.old _ _ (by intro z;have:=List.mem_singleton.mp z;omega) gw2;have xh3:=xh2.trans x3
   walk_at "x5"
   refine Bs (by intro z z';cases z') (Ek gj3) ?_;refine Gi (by omega) ?_;obtain ⟨r,hr,er⟩:=Bt ul ml.length hl;rw [er];refine Fw gj3 hr fun mv hmv=>?_
   have mvv:=all mv hmv
   walk_at "x5"
   refine ⟨ty_list gm3,?_⟩
   walk_at "x5"
   refine Cy gm3 (by omega) ?_;have gm4:(h3.set mh.length (.lst (ms++[mv])))[mh.length]?=some (.lst (ms++[mv])):=Eu gm3;have gw4:(h3.set mh.length (.lst (ms++[mv])))[m1.length]?=some (.lst (ws.map Wd.d)):=(Ext.set (n:=mh.length)).old _ _ (by intro z;have:=List.mem_singleton.mp z;omega) gw3;have gu4:IsI (h3.set mh.length (.lst (ms++[mv]))) ja us':=(Ext.set (n:=mh.length)).old _ _ (by intro z;have:=List.mem_singleton.mp z;omega) gua;have gp4:IsI (h3.set mh.length (.lst (ms++[mv]))) jp vs:=(Ext.set (n:=mh.length)).old _ _ (by intro z;have:=List.mem_singleton.mp z;omega) gpa;have xh4:Ext [ja] mh (h3.set mh.length (.lst (ms++[mv]))):=xh3.setNew (Nat.le_refl _);generalize h3.set mh.length (.lst (ms++[mv]))=h4 at gm4 gw4 gu4 gp4 xh4 ⊢
   walk_at "x5"
   refine ⟨ty_list gw4,?_⟩
   walk_at "x5"
   refine Ke gw4 hd ?_
   walk_at "x5"
   refine Kd k g wlo mvv fun w' h5 o5 n5 x5=>?_
   have gm5:=x5.old _ _ (by simp) gm4;have gw5:=x5.old _ _ (by simp) gw4;have gu5:=gu4.ext x5;have gp5:=gp4.ext x5;have xh5:=xh4.trans x5.weak
   walk_at "x5"
   refine Cy gw5 (by rw [List.length_map];omega) ?_
   walk_at "x5"
   exact ⟨n - 1,by omega,ms++[mv],ws++[w'],us',_,_,by rw [List.length_append,List.length_singleton];omega,rfl,ch.snoc ew n5,(Ext.set (n:=m1.length)).old _ _ (by intro z;have:=List.mem_singleton.mp z;omega) gm5,by rw [Eu gw5,List.map_append];rfl,by rw [lu',List.length_append];rfl,(Ext.set (n:=m1.length)).old _ _ (by intro z;have:=List.mem_singleton.mp z;omega) gu5,(Ext.set (n:=m1.length)).old _ _ (by intro z;have:=List.mem_singleton.mp z;omega) gp5,xh5.setNew (by omega)⟩
 ·walk_at "x5"
  exact f ms ws _ _ _ ch (by omega) gm gw xh
end
local macro_rules | `(tactic| walk_at "x6") => `(tactic| repeat (first | walk_at "s" | with_reducible refine Hj ?_ | with_reducible refine Fb (by simp) ?_))
section
variable {mh:MH}{P:D->MH->Prop}{p:Pg}{w:Wd}{S:List (List Sp)}
theorem Ch.split {M:List D}:∀ {A:List D}{w:Wd}{ws:List Wd},Ch p S w (A++M) ws->∃ wa u wb,ws=wa++wb/\wa.length=A.length/\Ch p S u M wb/\∀ M' wb',Ch p S u M' wb'->Ch p S w (A++M') (wa++wb')
 | [],w,ws,h=>⟨[],w,ws,rfl,rfl,h,fun _ _ c=>c⟩
 | a::r,w,_,.cons n c=>by
  obtain ⟨wa,u,wb,e,l,c',q⟩:=Ch.split c;exact ⟨w::wa,u,wb,by rw [e];rfl,by rw [List.length_cons,List.length_cons,l],c',fun M' wb' z=>.cons n (q M' wb' z)⟩
theorem Nx.do {h:Nat}{c:D}{w1:Wd}(n:Nx p S w (doD h c) w1):∃ s,h < p.plays.length/\stW p S w h=some s/\c∈chs p w h s/\w1=w.ap h (eff p w h c s):=by
 rcases n with ⟨h',c',s,hh,es,hc,e,ea⟩|⟨s,t,hs,ht,hx,hi,e,ea⟩|⟨h,hh,hy,hi,e,ea⟩
 ·obtain ⟨rfl,rfl⟩:=aF e;exact ⟨s,hh,es,hc,ea⟩
 ·exact absurd e pF
 ·exact absurd e pG
theorem swap (g:Prg p S) (wo:w.ok p) {h h':Nat}{c c':D}(hne:h≠h') {w1 w2:Wd}(n1:Nx p S w (doD h c) w1) (n2:Nx p S w1 (doD h' c') w2) (hc':c'∈chW p S w h'):∃ s s' u1,h < p.plays.length/\h' < p.plays.length/\stW p S w h=some s/\stW p S w h'=some s'/\c∈chs p w h s/\c'∈chs p w h' s'/\w2=(w.ap h (eff p w h c s)).ap h' (eff p w h' c' s')/\Nx p S w (doD h' c') u1/\Nx p S u1 (doD h c) w2:=by
 have o2':=n2.ok g (n1.ok g wo);obtain ⟨s,hh,es,hc,rfl⟩:=n1.do
 obtain ⟨s',hh',es',hd,e2⟩:=n2.do
 rw [pI hne] at es';have hc':c'∈chs p w h' s':=by
  unfold chW at hc';rw [es'] at hc';exact hc'
 have v:=Yb g wo hh es hc;have v':=Yb g wo hh' es' hc';obtain ⟨o1,pl1⟩:=pN g wo hh es hc;obtain ⟨o1',pl1'⟩:=pN g wo hh' es' hc';have hp:=(Rp g hh es).2.1;have hp':=(Rp g hh' es').2.1;rw [Yc hne wo hh hh' hp pl1 v hc'] at e2;have es2:stW p S (w.ap h' (eff p w h' c' s')) h=some s:=by rw [pI hne.symm];exact es
 have hc2:c∈chs p (w.ap h' (eff p w h' c' s')) h s:=pJ hne.symm wo hh' hh hp' pl1' v' hc;have ee:=Yc hne.symm wo hh' hh hp' pl1' v' hc;obtain ⟨o21,_⟩:=pN g o1' hh es2 hc2;rw [ee] at o21;rw [e2] at o2';have cm:=vK hne hh hh' wo o1 o1' o2' o21 v v';refine ⟨s,s',_,hh,hh',es,es',hc,hc',e2,Or.inl ⟨h',c',s',hh',es',hc',rfl,rfl⟩,Or.inl ⟨h,c,s,hh,es2,hc2,rfl,?_⟩⟩;rw [ee,e2,cm]
theorem vU (k:Nat) {m n:D}{i j:Int}(em:∀ k mh,Ac (Gk (k+1)) fuel f74 [m] mh=some (.int i,mh)) (en:∀ k mh,Ac (Gk (k+1)) fuel f74 [n] mh=some (.int j,mh)) (hij:i < 0\/j < 0\/i=j) (f:P (.bl false) mh):wV (Ac (Gk (k+2)) fuel f95 [p.d,w.d,m,n] mh) P:=by
 refine Al (Xw (k+1)) Lz.1 Lz.2 rfl ?_;show wS (b95 (k+1)) [some p.d,some w.d,some m,some n] mh _;unfold b95;refine Ak (Bl (Ej (Ar (Az (Br (Aw (Ao (by with_unfolding_all rfl) (Ad (Aq (em _ _) (Ad (Cm ⟨_,rfl,fun e=>?_,fun e=>?_⟩)))))))))))
 ·walk_at "x6"
  exact f
 ·refine Ej (Ar (Az (Br (Aw (Ao (by with_unfolding_all rfl) (Ad (Aq (en _ _) (Ad (Cm ⟨_,rfl,fun e2=>?_,fun e2=>?_⟩)))))))))
  ·walk_at "x6"
   exact f
  ·walk_at "x6"
   refine Aq (em _ _) ?_
   walk_at "x6"
   refine Aq (en _ _) ?_;have e:=of_decide_eq_false e;have e2:=of_decide_eq_false e2;refine Bp ⟨_,rfl,fun e3=>?_,fun e3=>?_⟩
   ·walk_at "x6"
    exact f
   ·have:=beq_eq_false_iff_ne.mp e3;omega
theorem pQ (k:Nat) (g:Prg p S) (wo:w.ok p) {h h':Nat}{c c':D}(hne:h≠h') (hh':h' < p.plays.length) (hc:c'∈chW p S w h') (f:∀ h',Ext [] mh h'->P (.bl true) h'):wV (Ac (Gk (k+6)) fuel f95 [p.d,w.d,doD h c,doD h' c'] mh) P:=by
 refine Al (Xw (k+5)) Lz.1 Lz.2 rfl ?_;show wS (b95 (k+5)) [some p.d,some w.d,some (doD h c),some (doD h' c')] mh _;unfold b95;refine Ak (Bl (Ej (Ar (Az (Br (Aw (Ao (by with_unfolding_all rfl) (Ad (Aq (Dm _ _ _ _) (Ad (Cm ⟨_,rfl,fun e=>absurd (of_decide_eq_true e) (by omega),fun e=>?_⟩)))))))))));refine Ej (Ar (Az (Br (Aw (Ao (by with_unfolding_all rfl) (Ad (Aq (Dm _ _ _ _) (Ad (Cm ⟨_,rfl,fun e2=>absurd (of_decide_eq_true e2) (by omega),fun e2=>?_⟩)))))))))
 walk_at "x6"
 refine Aq (Dm _ _ _ _) ?_
 walk_at "x6"
 refine Aq (Dm _ _ _ _) ?_;refine Bp ⟨_,rfl,fun e3=>absurd (eq_of_beq e3) (by omega),fun e3=>?_⟩
 walk_at "x6"
 refine Ml k g wo fun j h2 x2 gj=>?_
 refine Og gj (fun y hy=>Ye wo (aD hy)) ?_ ?_
 ·refine List.mem_append_left _ (List.mem_append_left _ (List.mem_flatMap.mpr ⟨h',List.mem_range.mpr hh',List.mem_flatMap.mpr ⟨c',hc,List.mem_singleton.mpr rfl⟩⟩))
 ·walk_at "x6"
  exact f _ x2
theorem pR (k:Nat) (g:Prg p S) (wo:w.ok p) {h h':Nat}{c c':D}(cf:Chc c') (hne:h≠h') (hh':h' < p.plays.length) (hc:c' ∉ chW p S w h') (f:∀ h',Ext [] mh h'->P (.bl false) h'):wV (Ac (Gk (k+6)) fuel f95 [p.d,w.d,doD h c,doD h' c'] mh) P:=by
 refine Al (Xw (k+5)) Lz.1 Lz.2 rfl ?_;show wS (b95 (k+5)) [some p.d,some w.d,some (doD h c),some (doD h' c')] mh _;unfold b95;refine Ak (Bl (Ej (Ar (Az (Br (Aw (Ao (by with_unfolding_all rfl) (Ad (Aq (Dm _ _ _ _) (Ad (Cm ⟨_,rfl,fun e=>absurd (of_decide_eq_true e) (by omega),fun e=>?_⟩)))))))))));refine Ej (Ar (Az (Br (Aw (Ao (by with_unfolding_all rfl) (Ad (Aq (Dm _ _ _ _) (Ad (Cm ⟨_,rfl,fun e2=>absurd (of_decide_eq_true e2) (by omega),fun e2=>?_⟩)))))))))
 walk_at "x6"
 refine Aq (Dm _ _ _ _) ?_
 walk_at "x6"
 refine Aq (Dm _ _ _ _) ?_;refine Bp ⟨_,rfl,fun e3=>absurd (eq_of_beq e3) (by omega),fun e3=>?_⟩
 walk_at "x6"
 refine Ml k g wo fun j h2 x2 gj=>?_
 refine pK gj (fun y hy=>Ye wo (aD hy)) (doP cf h' 58) (fun y hy a ea=>?_) ?_
 ·rcases aD hy with ⟨t,d,ht,hd,rfl⟩|⟨s,t,_,_,_,_,rfl⟩|⟨t,_,_,_,rfl⟩
  ·obtain ⟨_,_,_,cd⟩:=Ea wo ht hd;rw [doP cd t 57] at ea;cases ea;have hn:¬ (t=h'/\d=c'):=fun z=>hc (by rw [← z.1,← z.2];exact hd)
   exact ⟨xJ cd cf hn,xJ cf cd fun z=>hn ⟨z.1.symm,z.2.symm⟩⟩
  ·have e0:py h2 59 (loD s t)=some (PyData.tuple [.str "lose",.int (s:Nat),.int (t:Nat)]):=by kernel_rfl
   rw [e0] at ea;cases ea
   have e1:(("lose":Str) == "do")=false:=by decide +kernel
   have e2:(("do":Str) == "lose")=false:=by decide +kernel
   constructor <;> simp only [PyData.eqv,PyData.eqvAll,e1,e2,Bool.false_and]
  ·have e0:py h2 59 (faD t)=some (PyData.tuple [.str "fall",.int (t:Nat)]):=by kernel_rfl
   rw [e0] at ea;cases ea
   have e1:(("fall":Str) == "do")=false:=by decide +kernel
   have e2:(("do":Str) == "fall")=false:=by decide +kernel
   constructor <;> simp only [PyData.eqv,PyData.eqvAll,e1,e2,Bool.false_and]
 ·walk_at "x6"
  exact f _ x2
end
theorem vV {G:Gb}{n:Nat}{x:Str}{I:FnI}{m:MakI}{b:SM}{ds:List D}{mh:MH}{np c:Nat}{P:D->MH->Prop}(hb:Zf G n x I m=b) (hp:I.ps.length=np) (hN:I.N.length=c) (hl:ds.length=np)
  (h:wS b (ds.map some++List.replicate (c - np) none) mh (Tn P)):wV (Lp G n x I m ds mh) P:=by
 obtain ⟨f,l,h',e,p⟩:=h;cases f with
 | rt d=>exact ⟨d,h',by unfold Lp;rw [if_pos (by rw [hp];exact hl),hb,hN,hl,e],p⟩
 | nx=>exact ⟨.non,h',by unfold Lp;rw [if_pos (by rw [hp];exact hl),hb,hN,hl,e],p⟩
 | bk=>exact p.elim
 | ct=>exact p.elim
theorem Adh {ns:List Int}{lo hi:Option Int}{mh:MH}{P:D->MH->Prop}(h:∀ ms:List Int,ms.length<=ns.length->P (.ref mh.length) (mh++[.lst (ms.map D.int)])):wV (slD (.rol (ns.map D.int)) lo hi mh) P:=by
 refine ⟨_,_,rfl,?_⟩;have e:DL.cutD (ns.map D.int) lo hi=(DL.cutD ns lo hi).map D.int:=by
  unfold DL.cutD;rw [List.length_map,List.map_take,List.map_drop]
 rw [e];exact h _ (by unfold DL.cutD;rw [List.length_take,List.length_drop];omega)
theorem pU {n:Nat}{ds:List D}{i:Nat}(hi:i<=ds.length) {mh:MH}{P:D->MH->Prop}(e:mh[n]?=some (.lst ds)) (h:P (.ref mh.length) (mh++[.lst (ds.take i)])):wV (slD (.ref n) none (some (i:Int)) mh) P:=by
 refine ⟨_,_,?_,h⟩;have e2:HT.sIx ds.length ds.length (some (i:Int))=i:=by rw [HT.sIx_nat];omega
 show (match mh[n]? with | some (.lst o)=>some (D.ref mh.length,mh++[MO.lst (DL.cutD o none (some (i:Int)))]) | _=>none)=_;rw [e];dsimp only;unfold DL.cutD;rw [e2];simp [HT.sIx_none]
theorem pW {n:Nat}{ds:List D}{i:Nat}(hi:i<=ds.length) {mh:MH}{P:D->MH->Prop}(e:mh[n]?=some (.lst ds)) (h:P (.ref mh.length) (mh++[.lst (ds.drop i)])):wV (slD (.ref n) (some (i:Int)) none mh) P:=by
 refine ⟨_,_,?_,h⟩;have e1:HT.sIx ds.length 0 (some (i:Int))=i:=by rw [HT.sIx_nat];omega
 have e2:HT.sIx ds.length ds.length none=ds.length:=rfl;show (match mh[n]? with | some (.lst o)=>some (D.ref mh.length,mh++[MO.lst (DL.cutD o (some (i:Int)) none)]) | _=>none)=_;rw [e];dsimp only;unfold DL.cutD;rw [e1,e2,List.take_of_length_le (by rw [List.length_drop];omega)]
theorem Adi {loc:DL.Loc}{mh:MH}{K:Fl->DL.Loc->MH->Prop}{d d':D}(e1:mh[0]?=some (.plq "law")) (e2:loc[10]?=some (some d)) (e3:loc[9]?=some (some d')) (h:K .nx (loc.set 2 (some (.clo mk0.ci [d,d']))) mh):wS (cA "law" mk0) loc mh K:=by
 refine ⟨.nx,_,mh,?_,h⟩;have ej:mk0.js=[10,9]:=by decide +kernel
 have ei:mk0.i=2:=by decide +kernel
 have ep:mk0.pl=0:=rfl;unfold cA;rw [ep,e1];dsimp only;rw [if_pos (by decide +kernel),ej];simp only [Jw,e2,e3];rw [ei]
theorem cY {n:Nat}(h:n<=1000000):Jv [.int ((n:Int) - 1)]=some (.seq (Ce 0 (n - 1))):=by
 unfold Jv;dsimp only;rw [if_pos (by omega),show ((n:Int) - 1).toNat=n - 1 by omega]
theorem at0 {α:Type}{A r:List α}{x:α}:(A++x::r)[A.length]?=some x:=by rw [List.getElem?_append_right (Nat.le_refl _),Nat.sub_self];rfl
theorem at1 {α:Type}{A r:List α}{x y:α}:(A++x::y::r)[A.length+1]?=some y:=by rw [List.getElem?_append_right (by omega),Nat.add_sub_cancel_left];rfl
theorem at2 {α:Type}{A r:List α}{x y z:α}:(A++x::y::z::r)[A.length+2]?=some z:=by rw [List.getElem?_append_right (by omega),Nat.add_sub_cancel_left];rfl
theorem Afl {α:Type}:∀ {l:List α}{i:Nat},i+1 < l.length->∃ A m n B,l=A++m::n::B/\A.length=i
 | [],_,h=>by cases h
 | [_],_,h=>absurd h (by simp)
 | a::b::r,0,_=>⟨[],a,b,r,rfl,rfl⟩
 | a::b::r,i+1,h=>by
  obtain ⟨A,m,n,B,e,l⟩:=Afl (l:=b::r) (i:=i) (Nat.lt_of_succ_lt_succ h);exact ⟨a::A,m,n,B,by rw [e];rfl,by rw [List.length_cons,l]⟩
section
variable {p:Pg}{w:Wd}{S:List (List Sp)}
theorem Ch.head {M:List D}{ws:List Wd}(h:Ch p S w M ws):∃ r,ws=w::r:=by cases h <;> exact ⟨_,rfl⟩
theorem kind {m n:D}{w1 w2:Wd}(o1:w1.ok p) (n1:Nx p S w m w1) (n2:Nx p S w1 n w2):(∃ i j:Int,(∀ k mh,Ac (Gk (k+1)) fuel f74 [m] mh=some (.int i,mh))/\(∀ k mh,Ac (Gk (k+1)) fuel f74 [n] mh=some (.int j,mh))/\(i=j\/i=-1\/j=-1))\/∃ h c h' c',m=doD h c/\n=doD h' c'/\h≠h'/\h' < p.plays.length/\c'∈chW p S w1 h'/\Chc c':=by
 obtain ⟨j,ej⟩:=pL n2.mv;obtain ⟨i,ei⟩:=pL n1.mv;rcases n1.mv with ⟨h,c,hh,hc,rfl⟩|⟨s,t,hs,ht,hx,hi,rfl⟩|⟨h,hh,hy,hi,rfl⟩
 ·rcases n2.mv with ⟨h',c',hh',hc',rfl⟩|⟨s',t',hs',ht',hx',hi',rfl⟩|⟨h',hh',hy',hi',rfl⟩
  ·by_cases e:h=h'
   ·exact Or.inl ⟨_,_,fun k mh=>Dm k h c mh,fun k mh=>Dm k h' c' mh,Or.inl (by rw [e])⟩
   ·obtain ⟨_,_,_,cf⟩:=Ea o1 hh' hc';exact Or.inr ⟨h,c,h',c',rfl,rfl,e,hh',hc',cf⟩
  ·exact Or.inl ⟨_,_,ei,fun k mh=>Yg k s' t' mh,Or.inr (Or.inr rfl)⟩
  ·exact Or.inl ⟨_,_,ei,fun k mh=>Yh k h' mh,Or.inr (Or.inr rfl)⟩
 ·exact Or.inl ⟨_,_,fun k mh=>Yg k s t mh,ej,Or.inr (Or.inl rfl)⟩
 ·exact Or.inl ⟨_,_,fun k mh=>Yh k h mh,ej,Or.inr (Or.inl rfl)⟩
end
noncomputable def depth:Nat:=30
local macro_rules | `(tactic| walk_at "x3") => `(tactic| repeat (first | walk_at "s" | with_reducible refine Hj ?_ | with_reducible refine Fb (by simp) ?_ | with_reducible refine Iw (by decide) (by decide) ?_ | with_reducible refine Gi (by decide) ?_ | with_reducible refine Pu (Or.inl (by decide)) ?_))
theorem Adj (ns:List Int) (hn:ns.length<=63):wV (Lp (Gk (29+1)) fuel "law" f96 mk0 [.rol (ns.map D.int)] [.plq "law"]) fun d _=>d=.bl true:=by
 refine vV (uY 29) oK.1 oK.2 rfl ?_
 show wS (Acs 29) [some (.rol (ns.map D.int)),none,none,none,none,none,none,none,none,none,none] [.plq "law"] _;unfold Acs
 have gp:[MO.plq "law"][0]?=some (.plq "law"):=rfl
 generalize [MO.plq "law"]=m0 at gp ⊢
 walk_at "x3"
 refine cX 25 ns fun p S m1 g x1=>?_
 have gp1:=x1.old _ _ (by simp) gp
 walk_at "x3"
 refine Z0 ?_
 walk_at "x3"
 refine Adh fun ms lm=>?_
 have gp2:(m1++[MO.lst (ms.map D.int)])[0]?=some (.plq "law"):=(Ext.more (W:=[])).old _ _ (by simp) gp1;have gs2:(m1++[MO.lst (ms.map D.int)])[m1.length]?=some (.lst (ms.map D.int)):=Av;generalize m1++[MO.lst (ms.map D.int)]=m2 at gp2 gs2 ⊢;generalize m1.length=js at gs2 ⊢;refine ⟨_,src_list gs2,ms.map D.int,fun i acc h=>(∃ vs:List Int,acc=vs.map D.int/\vs.length=i)/\Ext [] m2 h,by rw [List.length_map];omega,⟨⟨[],rfl,rfl⟩,Ext.refl⟩,?_,?_,?_,?_⟩
 ·rintro i acc h ⟨_,xh⟩;exact Fd (xh.old _ _ (by simp) gs2)
 ·rintro i acc h ⟨⟨vs,rfl,lv⟩,_⟩;rw [List.length_map,lv];exact Nat.le_refl _
 ·rintro i dd acc h ed ⟨⟨vs,rfl,lv⟩,xh⟩;rw [List.getElem?_map] at ed;obtain ⟨v,_,rfl⟩:=Option.map_eq_some_iff.mp ed;refine Bf ?_;show wD _ [none,some (.int v)] h _;refine Ad ⟨fun _=>?_,fun e=>by cases e⟩
  walk_at "x3"
  exact ⟨⟨vs++[v.fmod 1000],by rw [List.map_append];rfl,by rw [List.length_append,lv];rfl⟩,xh⟩
 rintro acc m3 ⟨⟨vs,rfl,lv⟩,x3⟩
 have gp3:(m3++[MO.lst (vs.map D.int)])[0]?=some (.plq "law"):=(Ext.more (W:=[])).old _ _ (by simp) (x3.old _ _ (by simp) gp2);have gv3:(m3++[MO.lst (vs.map D.int)])[m3.length]?=some (.lst (vs.map D.int)):=Av;generalize m3++[MO.lst (vs.map D.int)]=m4 at gp3 gv3 ⊢;generalize m3.length=jv at gv3 ⊢
 walk_at "x3"
 refine Qg 28 ns 0 m4 fun c=>?_
 walk_at "x3"
 have ll:vs.length<=63:=by rw [lv,List.length_map];omega
 refine Ja (xs:=vs.map D.int) (ys:=[.int (c.fmod 7)]) ((Ext.more (W:=[])).old _ _ (by simp) gv3) Av (by rw [List.length_map,List.length_singleton];omega) ?_
 have gp4:((m4++[MO.lst [D.int (c.fmod 7)]])++[MO.lst (vs.map D.int++[D.int (c.fmod 7)])])[0]?=some (.plq "law"):=(Ext.more (W:=[])).old _ _ (by simp) ((Ext.more (W:=[])).old _ _ (by simp) gp3);have gv4:IsI ((m4++[MO.lst [D.int (c.fmod 7)]])++[MO.lst (vs.map D.int++[D.int (c.fmod 7)])]) (m4++[MO.lst [D.int (c.fmod 7)]]).length (vs++[c.fmod 7]):=by
  unfold IsI;rw [Av,List.map_append];rfl
 generalize (m4++[MO.lst [D.int (c.fmod 7)]])++[MO.lst (vs.map D.int++[D.int (c.fmod 7)])]=m5 at gp4 gv4 ⊢;generalize (m4++[MO.lst [D.int (c.fmod 7)]]).length=jp at gv4 ⊢;have lv5:0 < (vs++[c.fmod 7]).length:=by rw [List.length_append,List.length_singleton];omega
 generalize vs++[c.fmod 7]=us at gv4 lv5
 walk_at "x3"
 have gp5:(m5++[MO.lst []])[0]?=some (.plq "law"):=(Ext.more (W:=[])).old _ _ (by simp) gp4;have gv5:IsI (m5++[MO.lst []]) jp us:=gv4.ext Ext.more;have ga5:IsI (m5++[MO.lst []]) m5.length []:=Av;have hne:jp≠m5.length:=Nat.ne_of_lt (Tw gv4);generalize m5++[MO.lst []]=m6 at gp5 gv5 ga5 ⊢;generalize m5.length=ja at ga5 hne ⊢;show wS _ [some (.rol (ns.map D.int)),some p.d,none,none,none,none,none,none,none,some (.ref ja),some (.ref jp)] m6 _;refine Adi gp5 rfl rfl ?_
 walk_at "x3"
 refine vR 21 jp ja g lv5 hne gv5 ga5 fun ms0 ws0 jm0 jw0 m7 ch0 lm0 gm0 gw0 x7=>?_
 refine Ti rfl (Af ?_);show wS _ [some (.rol (ns.map D.int)),some p.d,some (.clo mk0.ci [.ref jp,.ref ja]),some (.ref jm0),some (.ref jw0),none,none,none,none,some (.ref ja),some (.ref jp)] m7 _;have lw0:=ch0.len;obtain ⟨wa,we,ew⟩:=Kf (l:=ws0) (by omega);have gl0:ws0.getLast?=some we:=by rw [ew];exact List.getLast?_concat
 have hd:∀ {ws:List Wd},ws.getLast?=some we->(ws.map Wd.d)[(ws.map Wd.d).length - 1]?=some we.d:=fun {ws} e=>by
  rw [List.length_map,List.getElem?_map,← List.getLast?_eq_getElem?,e];rfl
 walk_at "x3"
 refine Ke gw0 (hd gl0) ?_
 walk_at "x3"
 refine Hg ?_
 walk_at "x3"
 refine Bs (by intro z z';cases z') (Ek gm0) ?_
 walk_at "x3"
 refine ⟨_,cY (by omega),Ce 0 (ms0.length - 1),fun i l h=>∃ (ms:List D) (ws:List Wd) (jm jw:Nat) (x6 x7 x8:Option D),l=[some (.rol (ns.map D.int)),some p.d,some (.clo mk0.ci [.ref jp,.ref ja]),some (.ref jm),some (.ref jw),some we.d,x6,x7,x8,some (.ref ja),some (.ref jp)]/\Ch p S (Mp p) ms ws/\ms.length=ms0.length/\ws.getLast?=some we/\h[jm]?=some (.lst ms)/\h[jw]?=some (.lst (ws.map Wd.d)),⟨ms0,ws0,jm0,jw0,_,_,_,rfl,ch0,rfl,gl0,gm0,gw0⟩,fun _ _ _ _=>⟨rfl,rfl⟩,?_,?_⟩
 ·rintro i dd l h ed ⟨ms,ws,jm,jw,x6,x7,x8,rfl,chh,lms,gl,gm,gw⟩;obtain ⟨hi,rfl⟩:=Qf ed;refine Bf ?_;show wS _ [some (.rol (ns.map D.int)),some p.d,some (.clo mk0.ci [.ref jp,.ref ja]),some (.ref jm),some (.ref jw),some we.d,some (.int i),x7,x8,some (.ref ja),some (.ref jp)] h _;obtain ⟨A,m,n,B,rfl,rfl⟩:=Afl (l:=ms) (i:=i) (by omega);obtain ⟨wa,u,wb,rfl,la,cu,rep⟩:=chh.split;have uo:u.ok p:=chh.ok g (Yj g.po) u (by obtain ⟨r,e⟩:=cu.head;rw [e];simp);cases cu with
  | @cons _ w1 _ _ wb n1 cu =>
  cases cu with
  | @cons _ w2 _ _ wc n2 cu =>
  have o1:=n1.ok g uo;obtain ⟨wr,rfl⟩:=cu.head;have ci:((A.length:Nat):Int)+1=((A.length+1:Nat):Int):=by omega
  have em0:(A++m::n::B)[A.length]?=some m:=at0;have em1:(A++m::n::B)[A.length+1]?=some n:=at1;have ew0:((wa++u::w1::w2::wr).map Wd.d)[A.length]?=some u.d:=by rw [List.getElem?_map,← la,at0];rfl
  have ew2:((wa++u::w1::w2::wr).map Wd.d)[A.length+2]?=some w2.d:=by rw [List.getElem?_map,← la,at2];rfl
  walk_at "x3"
  refine Cu gw ew0 ?_
  walk_at "x3"
  refine Cu gm em0 ?_
  walk_at "x3"
  rw [ci];refine Cu gm em1 ?_
  walk_at "x3"
  rcases kind o1 n1 n2 with ⟨i,j,ei,ej,hij⟩|⟨t,c,t',c',rfl,rfl,hne',ht',hc',cf⟩
  ·refine Adf 21 g uo o1 n1.mv n2.mv ei ej hij fun h1 x1=>?_
   have gm1:=x1.old _ _ (by simp) gm;have gw1:=x1.old _ _ (by simp) gw
   walk_at "x3"
   refine Cu gw1 ew0 ?_
   walk_at "x3"
   refine Cu gm1 em0 ?_
   walk_at "x3"
   rw [ci];refine Cu gm1 em1 ?_
   walk_at "x3"
   refine vU 27 ei ej (by omega) ?_
   walk_at "x3"
   refine ⟨.bl false,_,rfl,?_⟩
   walk_at "x3"
   exact ⟨_,_,jm,jw,_,_,_,rfl,chh,lms,gl,x1.old _ _ (by simp) gm,x1.old _ _ (by simp) gw⟩
  ·by_cases hc:c'∈chW p S u t'
   ·obtain ⟨s,s',u1,ht,ht',es,es',hcs,hcs',e2,v1,v2⟩:=swap g uo hne' n1 n2 hc;refine Adb 21 g uo hne' ht ht' es es' hcs hcs' fun z1 z2 h1 ez1 _ ez2 _ x1=>?_
    rw [ez1,← e2] at ez2;rw [ez2];have gm1:=x1.old _ _ (by simp) gm;have gw1:=x1.old _ _ (by simp) gw
    walk_at "x3"
    refine Cu gw1 ew0 ?_
    walk_at "x3"
    refine Cu gm1 em0 ?_
    walk_at "x3"
    rw [ci];refine Cu gm1 em1 ?_
    walk_at "x3"
    refine pQ 23 g uo hne' ht' hc fun h2 x2=>?_
    have gm2:=x2.old _ _ (by simp) gm1;have gw2:=x2.old _ _ (by simp) gw1
    walk_at "x3"
    refine pU (by rw [List.length_append];omega) gm2 ?_;rw [List.take_left];have gA:(h2++[MO.lst A])[h2.length]?=some (.lst A):=Av;have x3:Ext [] h2 (h2++[MO.lst A]):=Ext.more;generalize h2++[MO.lst A]=h3 at gA x3 ⊢;generalize h2.length=jA at gA ⊢;have gm3:=x3.old _ _ (by simp) gm2;have gw3:=x3.old _ _ (by simp) gw2
    walk_at "x3"
    rw [ci];refine Cu gm3 em1 ?_
    walk_at "x3"
    refine Cu gm3 em0 ?_
    walk_at "x3"
    refine Ja (xs:=A) (ys:=[doD t' c',doD t c]) ((Ext.more (W:=[])).old _ _ (by simp) gA) Av (by rw [List.length_append] at lms;simp only [List.length_cons,List.length_nil];omega) ?_;have x4:Ext [] h3 ((h3++[MO.lst [doD t' c',doD t c]])++[MO.lst (A++[doD t' c',doD t c])]):=Ext.trans Ext.more Ext.more;have gB:((h3++[MO.lst [doD t' c',doD t c]])++[MO.lst (A++[doD t' c',doD t c])])[(h3++[MO.lst [doD t' c',doD t c]]).length]?=some (.lst (A++[doD t' c',doD t c])):=Av;generalize (h3++[MO.lst [doD t' c',doD t c]])++[MO.lst (A++[doD t' c',doD t c])]=h4 at x4 gB ⊢;generalize (h3++[MO.lst [doD t' c',doD t c]]).length=jB at gB ⊢;have gm4:=x4.old _ _ (by simp) gm3;have gw4:=x4.old _ _ (by simp) gw3
    walk_at "x3"
    rw [show ((A.length:Nat):Int)+2=((A.length+2:Nat):Int) by omega];refine pW (by rw [List.length_append,List.length_cons,List.length_cons];omega) gm4 ?_;rw [show (A++doD t c::doD t' c'::B).drop (A.length+2)=B by rw [← List.drop_drop,List.drop_left];rfl];refine Ja (xs:=A++[doD t' c',doD t c]) (ys:=B) ((Ext.more (W:=[])).old _ _ (by simp) gB) Av (by rw [List.length_append] at lms ⊢;simp only [List.length_cons,List.length_nil] at lms ⊢;omega) ?_;have eT:A++[doD t' c',doD t c]++B=A++doD t' c'::doD t c::B:=by rw [List.append_assoc];rfl
    rw [eT];have x5:Ext [] h4 ((h4++[MO.lst B])++[MO.lst (A++doD t' c'::doD t c::B)]):=Ext.trans Ext.more Ext.more;have gT:((h4++[MO.lst B])++[MO.lst (A++doD t' c'::doD t c::B)])[(h4++[MO.lst B]).length]?=some (.lst (A++doD t' c'::doD t c::B)):=Av;generalize (h4++[MO.lst B])++[MO.lst (A++doD t' c'::doD t c::B)]=h5 at x5 gT ⊢;generalize (h4++[MO.lst B]).length=jT at gT ⊢;have gw5:=x5.old _ _ (by simp) gw4
    walk_at "x3"
    rw [show ((A.length:Nat):Int)+2=((A.length+2:Nat):Int) by omega];refine Cu gw5 ew2 ?_;refine wQ (eq_self _ (Yd _)) ⟨_,rfl,Dv (Ax (Af ?_))⟩;have chT:Ch p S (Mp p) (A++doD t' c'::doD t c::B) (wa++u::u1::w2::wr):=rep _ _ (.cons v1 (.cons v2 cu));have lT:(A++doD t' c'::doD t c::B).length=ms0.length:=by rw [← lms];simp
    have glT:(wa++u::u1::w2::wr).getLast?=some we:=by
     obtain ⟨z,x,ez⟩:=Kf (l:=w2::wr) (by simp);rw [ez] at gl ⊢;have q1:∀ y:Wd,wa++u::y::(z++[x])=(wa++u::y::z)++[x]:=fun y=>by simp
     rw [q1,List.getLast?_concat] at gl ⊢;exact gl
    walk_at "x3"
    refine V3 21 jT g chT (by omega) gT fun jW h6 gW x6=>?_
    have gT6:=x6.old _ _ (by simp) gT
    walk_at "x3"
    refine Ke gW (hd glT) ?_
    walk_at "x3"
    refine wQ (eq_self _ (Yd _)) ⟨_,rfl,Dv (Ax (Af ?_))⟩
    walk_at "x3"
    exact ⟨_,_,jT,jW,_,_,_,rfl,chT,lT,glT,gT6,gW⟩
   ·refine Ade 21 g uo o1 n1.mv ht' hc' hc fun h1 x1=>?_
    have gm1:=x1.old _ _ (by simp) gm;have gw1:=x1.old _ _ (by simp) gw
    walk_at "x3"
    refine Cu gw1 ew0 ?_
    walk_at "x3"
    refine Cu gm1 em0 ?_
    walk_at "x3"
    rw [ci];refine Cu gm1 em1 ?_
    walk_at "x3"
    refine pR 23 g uo cf hne' ht' hc fun h2 x2=>?_
    have x1:=x1.trans x2
    walk_at "x3"
    refine ⟨.bl false,_,rfl,?_⟩
    walk_at "x3"
    exact ⟨_,_,jm,jw,_,_,_,rfl,chh,lms,gl,x1.old _ _ (by simp) gm,x1.old _ _ (by simp) gw⟩
 ·rintro l h ⟨ms,ws,jm,jw,x6,x7,x8,rfl,chh,lms,gl,gm,gw⟩
  walk_at "x3"
  refine V3 21 jm g chh (by omega) gm fun jW h6 gW x6=>?_
  walk_at "x3"
  refine Ke gW (hd gl) ?_
  walk_at "x3"
  refine Ig (eq_self _ (Yd _)) ?_
  walk_at "x3"
  rfl
theorem main (ns:List Int) (h:ns.length<=63):∃ mh',Lp (GkN Tt depth) fuel "law" f96 mk0 [.rol (ns.map D.int)] [.plq "law"]=some (.bl true,mh'):=by
 obtain ⟨d,h,e,rfl⟩:=Adj ns h;exact ⟨h,e⟩
end Lw
open PySem PySem.W PyProof.Rows
namespace PySem.W.Fast
def tw9681404404844010848:Unit:=()
def tw5517078356721316397:Unit:=()
def tw18441087553803848540:Unit:=()
def tw5208638636031359112:Unit:=()
def tw4370993413795373841:Unit:=()
def tw1081573076539159459:Unit:=()
def tw13734452498299007440:Unit:=()
def tw15544481281579563955:Unit:=()
def tw969006630490277842:Unit:=()
def tw12194375360005527466:Unit:=()
def tw11546601188204684592:Unit:=()
def tw12276161822582696822:Unit:=()
def tw16058057727950739917:Unit:=()
def tw4352227627495320441:Unit:=()
def tw7171971477283926712:Unit:=()
def tw6382378110162879299:Unit:=()
def tw7205609097838271211:Unit:=()
def tw4802722654120925917:Unit:=()
def tw6402239552145582890:Unit:=()
def tw16179240769273461211:Unit:=()
def tw10899444405514872679:Unit:=()
def tw4121551530831268685:Unit:=()
def tw14192430483487725557:Unit:=()
def tw240705208756716750:Unit:=()
def tw3411706094182213214:Unit:=()
def tw10637966484472668793:Unit:=()
def tw1610560790589241775:Unit:=()
def tw1790350888617750139:Unit:=()
def tw12446964404085930990:Unit:=()
def tw15359732978174853566:Unit:=()
def tw15026638341510594346:Unit:=()
def tw13259030067030927798:Unit:=()
def tw5943776842695699847:Unit:=()
def tw1335765548516224694:Unit:=()
def tw7061833754209680559:Unit:=()
def tw13572824544301235267:Unit:=()
def tw7435356297719689796:Unit:=()
def tw17701760049217080265:Unit:=()
def tw4645598219605754408:Unit:=()
def tw6716785387101927094:Unit:=()
def tw17179746103477855823:Unit:=()
def tw8411379667255701667:Unit:=()
def tw18156064784383093086:Unit:=()
def tw7370616072623366328:Unit:=()
def tw9258511049864430211:Unit:=()
def tw14093042600818446443:Unit:=()
def tw16453245151062913425:Unit:=()
def tw2687678886623542093:Unit:=()
def tw8352219587239772881:Unit:=()
def tw17303686432631294961:Unit:=()
def tw13224378046825294119:Unit:=()
def tw17139754637255733372:Unit:=()
def tw4328101099994789135:Unit:=()
def tw662917401778137540:Unit:=()
def tw13888880589752710038:Unit:=()
def tw3012821784481107889:Unit:=()
def tw2224844133537724838:Unit:=()
def tw15141302567959354686:Unit:=()
def tw4742861190112464726:Unit:=()
def tw536672727023762809:Unit:=()
def tw16823147779034441760:Unit:=()
def tw18004550281225500368:Unit:=()
def tw9785793172783088147:Unit:=()
def tw551686791009811731:Unit:=()
def tw7960056200187020246:Unit:=()
def tw2089197645445569900:Unit:=()
def tw7391995683518525012:Unit:=()
def tw11109236716913956459:Unit:=()
def tw4670658094926389915:Unit:=()
def tw6752961265457172373:Unit:=()
def tw12799421592096344034:Unit:=()
def tw14642498868606859553:Unit:=()
def tw10260072791828290317:Unit:=()
def tw5380630541750372956:Unit:=()
def tw42440798208810845:Unit:=()
def tw2184759235003373655:Unit:=()
def tw13867177700636608070:Unit:=()
def tw15290318925112506973:Unit:=()
def tw8528335246384677589:Unit:=()
def tw16759728759856211468:Unit:=()
def tw10922854805825428828:Unit:=()
def tw13954541314520951040:Unit:=()
def tw13239394423223291063:Unit:=()
def tw1158459340550474798:Unit:=()
def tw16491972084459857836:Unit:=()
def tw11744603086339878307:Unit:=()
def tw13129692192529573233:Unit:=()
def tw12709499954237776417:Unit:=()
def tw15242733600535736341:Unit:=()
def tw3008910661810278808:Unit:=()
def tw15497716696599070523:Unit:=()
def tw28794256199814394:Unit:=()
def tw12761065241237474795:Unit:=()
def tw2696857072783988074:Unit:=()
def tw15031584870705199543:Unit:=()
def tw136274202005114295:Unit:=()
def tw4122831702693597663:Unit:=()
def tw16178173736343082510:Unit:=()
def tw4819353584723314475:Unit:=()
def tw5497289621303328990:Unit:=()
def tw15027876982481004252:Unit:=()
def tw18140390601576847743:Unit:=()
def tw2835733887485909624:Unit:=()
def tw12707934172307061664:Unit:=()
def tw10736640437057821477:Unit:=()
def tw6235788956765291748:Unit:=()
def tw8995906884756652293:Unit:=()
def tw3581148206427692647:Unit:=()
def tw18193248731998886118:Unit:=()
def tw2212233424689289762:Unit:=()
def tw18061610557947791177:Unit:=()
def tw4232804255457920788:Unit:=()
def tw492111783453853670:Unit:=()
def tw5078360542953297818:Unit:=()
def tw1432978243198808288:Unit:=()
def tw14801238281602442797:Unit:=()
def tw11493309556243074291:Unit:=()
def tw6067468301656677026:Unit:=()
def tw12756135608368810186:Unit:=()
def tw2174204418381809953:Unit:=()
def tw15882284124422990339:Unit:=()
def tw16264481086489240103:Unit:=()
def tw12342204916648400484:Unit:=()
def tw9912272237529271253:Unit:=()
def tw4847366622199860959:Unit:=()
def tw11206926318233471845:Unit:=()
def tw3409649138380345259:Unit:=()
def tw9097289025272023456:Unit:=()
def tw5601115903313420631:Unit:=()
def tw5424140445448669305:Unit:=()
def tw14442234599942517101:Unit:=()
end PySem.W.Fast
set_option maxRecDepth 100000 in
set_option maxHeartbeats 0 in
theorem PySem.Challenge.cw_letterall_k99_whole_neighbours_exchanged_holds : PySem.Challenge.rw_letterall_k99_whole_neighbours_exchanged.Holds := by
 w_on; o_law; z_head; (case hw => w_witness2)
 k_fill
 refine DL.jV (fun _ => by kernel_rfl) (DL.Ae4 (l := PySem.Challenge.rw_letterall_k99_whole_neighbours_exchanged) (Tt := Lw.Tt) (I := Lw.f96) (m := Lw.mk0) (x := "_law_script") Lw.depth rfl rfl (fun w h Y => Y) ⟨rfl, by decide, by decide⟩ (by kernel_rfl) (by decide +kernel) (by kernel_rfl) ?T Lw.main)
 case T =>
  intro w mg h KX G;refine' Lw.tbM KX G ?qla ?qll ?qle ?qlc ?qlv ?qlp ?qlh ?qlb ?qlm ?ql6 ?ql7 ?rf ?rb ?rc ?C29a ?C29b ?C29c ?C29d ?C29e ?C29f ?a29_1 ?b29_1 ?l29_1 ?c29_1 ?k29_1 ?a29_0 ?b29_0 ?l29_0 ?c29_0 ?k29_0 ?C29m ?C29k
  (case qla | qll => k_is)
  (case qle => exact rfl)
  (case qlc => k_is)
  (case qlv => exact rfl)
  (case qlp => k_is)
  (case qlh => (first | kernel_rfl | k_is))
  (case qlb | qlm => k_is)
  (case ql6 => decide)
  (case ql7 => decide)
  (case rf => (repeat (apply DL.jX; (focus k_is); (focus k_is); (focus k_is); (focus k_is))); exact trivial)
  (case rb => (repeat (apply DL.jZ; (focus k_is))); exact trivial)
  (case rc => (repeat (apply DL.jY; (focus k_is); (focus kernel_rfl))); exact trivial)
  (case C29a | C29b | C29c | C29d | C29e | C29f | a29_1 | b29_1 | l29_1 | c29_1 | k29_1 | a29_0 | b29_0 | l29_0 | c29_0 | k29_0 | C29m | C29k => k_is)
#print axioms PySem.Challenge.cw_letterall_k99_whole_neighbours_exchanged_holds
