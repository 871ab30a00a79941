import PyProof.Rows.All
import Wide.All
import OpenK.AllK
import Wide.FinOn
import Lean
import PyProof.EqAt
import PyProof.EqKinds
import PyProof.TupleCall
import KE.BitLaws
import PySem.Challenge.RW_letterall_k21_worlds
set_option Elab.async false
set_option linter.all false
set_option maxRecDepth 100000
set_option maxHeartbeats 8000000
namespace L2
open PySem PySem.Spec PyProof.Rows
noncomputable abbrev Key:=Sum Int Str
noncomputable def xG:Key->Value->Bool
 | .inl k,v=>Value.isInt k v
 | .inr x,v=>Value.isStrOf x v
noncomputable def Afy (w:World):Key->Int
 | .inl k=>hashInt k
 | .inr x=>hashStr w x
theorem Dg:∀ {k:Key}{v:Value},xG k v=true->(∃ i t,k=Sum.inl i/\v=Value.int i t)\/(∃ x t,k=Sum.inr x/\v=Value.str x t)
 | .inl i,v,h=>by
  obtain ⟨t,e⟩:=Value.isInt_shape (k:=i) (v:=v) h;exact .inl ⟨i,t,rfl,e⟩
 | .inr x,v,h=>by
  obtain ⟨t,e⟩:=Value.isStrOf_shape (x:=x) (v:=v) h;exact .inr ⟨x,t,rfl,e⟩
theorem xW (a b:Int):decide ((Sum.inl a:Key)=Sum.inl b)=(a==b):=by
 by_cases e:a=b
 ·subst e;simp
 ·have h:¬ (Sum.inl a:Key)=Sum.inl b:=fun q=>e (Sum.inl.inj q)
  rw [decide_eq_false h];exact (beq_eq_false_iff_ne.mpr e).symm
theorem xX (a b:Str):decide ((Sum.inr a:Key)=Sum.inr b)=decide (a=b):=by
 by_cases e:a=b
 ·subst e;simp
 ·have h:¬ (Sum.inr a:Key)=Sum.inr b:=fun q=>e (Sum.inr.inj q)
  rw [decide_eq_false h,decide_eq_false e]
theorem xY (a:Int) (b:Str):decide ((Sum.inl a:Key)=Sum.inr b)=false:=decide_eq_false (fun q=>nomatch q)
theorem xZ (a:Str) (b:Int):decide ((Sum.inr a:Key)=Sum.inl b)=false:=decide_eq_false (fun q=>nomatch q)
noncomputable def Rz (prog:Program) (w:World):PySem.KeyKind prog w Key where
 is:=xG
 hash:=Afy w
 inj:=fun v a b ha hb=>by
  rcases Dg ha with ⟨i,t,rfl,rfl⟩|⟨x,t,rfl,rfl⟩
  ·rcases Dg hb with ⟨j,u,rfl,e⟩|⟨y,u,rfl,e⟩
   ·injection e with e1 _;rw [e1]
   ·exact nomatch e
  ·rcases Dg hb with ⟨j,u,rfl,e⟩|⟨y,u,rfl,e⟩
   ·exact nomatch e
   ·injection e with e1 _;rw [e1]
 byValue:=fun k v h=>by
  rcases Dg h with ⟨i,t,rfl,rfl⟩ | ⟨x,t,rfl,rfl⟩ <;> rfl
 pyHash:=fun hv h=>by
  rcases Dg hv with ⟨i,t,rfl,rfl⟩|⟨x,t,rfl,rfl⟩
  ·exact wpAny_pyHash_int h
  ·exact wpAny_pyHash_str h
 eqBool:=fun hu hv h=>by
  rcases Dg hu with ⟨i,t,rfl,rfl⟩|⟨x,t,rfl,rfl⟩
  ·rcases Dg hv with ⟨j,u,rfl,rfl⟩|⟨y,u,rfl,rfl⟩
   ·rw [xW] at h;exact wpAny_eqBool_int h
   ·rw [xY] at h;exact SeqAt.EqAt.int_str i t y u _ _ _ _ h
  ·rcases Dg hv with ⟨j,u,rfl,rfl⟩|⟨y,u,rfl,rfl⟩
   ·rw [xZ] at h;exact SeqAt.EqAt.str_int x t j u _ _ _ _ h
   ·rw [xX] at h;exact wpAny_eqBool_str h
 «strs»:=fun k x t v h=>by
  rcases Dg h with ⟨i,u,rfl,e⟩|⟨y,u,rfl,e⟩
  ·exact nomatch e
  ·injection e with e1 _
   subst e1;cases v <;> rfl
inductive V where
 | non | bl (b:Bool) | int (i:Int) | str (x:Str) | byt (b:Array UInt8) | flt (b:UInt64) | ref (a:Addr) | ty (n:String)
 deriving DecidableEq
noncomputable def Cg:V->Value->Prop
 | .non,u=>u=Value.none
 | .bl b,u=>u=Value.bool b
 | .int i,u=>∃ t,u=Value.int i t
 | .str x,u=>∃ t,u=Value.str x t
 | .byt b,u=>∃ t,u=Value.bytes b t
 | .flt b,u=>∃ t,u=Value.float b t
 | .ref a,u=>u=Value.ref a
 | .ty n,u=>u=Value.type n
noncomputable abbrev Vals:List V->List Value->Prop:=Paired Cg
theorem Vals.length {xs:List V}{us:List Value}(r:Vals xs us):xs.length=us.length:=Paired.length r
theorem Vals.get:∀ {xs:List V}{us:List Value}{i:Nat}{x:V},Vals xs us->xs[i]?=some x->∃ u,us[i]?=some u/\Cg x u
 | _,_,_,_,.nil,e=>by simp at e
 | _,_,0,_,.cons r _,e=>by simp at e;subst e;exact ⟨_,rfl,r⟩
 | _,_,i+1,x,.cons _ t,e=>by
  obtain ⟨u,h1,h2⟩:=Vals.get (i:=i) (x:=x) t (by simpa using e);exact ⟨u,by simpa using h1,h2⟩
theorem Vals.set {x:V}{u:Value}(r:Cg x u):∀ {xs:List V}{us:List Value}(i:Nat),Vals xs us->Vals (xs.set i x) (us.set i u)
 | _,_,_,.nil=>.nil
 | _,_,0,.cons _ t=>.cons r t
 | _,_,i+1,.cons q t=>.cons q (Vals.set r i t)
theorem Vals.append:∀ {xs ys:List V}{us ws:List Value},Vals xs us->Vals ys ws->Vals (xs++ys) (us++ws)
 | _,_,_,_,.nil,s=>s
 | _,_,_,_,.cons r t,s=>.cons r (Vals.append t s)
theorem Vals.take:∀ {xs:List V}{us:List Value}(n:Nat),Vals xs us->Vals (xs.take n) (us.take n)
 | _,_,0,_=>.nil
 | _,_,_+1,.nil=>.nil
 | _,_,n+1,.cons r t=>.cons r (Vals.take n t)
theorem Vals.drop:∀ {xs:List V}{us:List Value}(n:Nat),Vals xs us->Vals (xs.drop n) (us.drop n)
 | _,_,0,r=>r
 | _,_,_+1,.nil=>.nil
 | _,_,n+1,.cons _ t=>Vals.drop n t
noncomputable def Ke:Option V->Option Value->Prop
 | some v,some u=>Cg v u
 | none,none=>True
 | _,_=>False
noncomputable def KV {κ:Type}:List (κ×V)->List (κ×Value)->Prop:=Paired fun (p:κ×V) (q:κ×Value)=>p.1=q.1/\Cg p.2 q.2
noncomputable def kV:Key->V
 | .inl i=>.int i
 | .inr x=>.str x
inductive HO where
 | lst (xs:List V)
 | tup (xs:List V)
 | dK (kvs:List (Key×V)) | dT (kvs:List (List Key×V))
 | set (S:Int->Bool) (n:Nat)
 | ins (C dx:Addr) (fs:List (Str×V))
 | own (x:Addr)
 | xd (fs:List (Str×V))
 | met (f x:Addr)
 | rng (lo hi:Int)
 | frz (o:Obj) (u:HO)
 | tbl (ps:Array Value)
 | ext (φ:Heap->Prop)
noncomputable abbrev Hp:=Addr->Option HO
noncomputable def upd (H:Hp) (a:Addr) (o:HO):Hp:=fun b=>if b=a then some o else H b
theorem Dh {H:Hp}{a:Addr}{o:HO}:upd H a o a=some o:=by unfold upd;rw [if_pos rfl]
theorem Bg {H:Hp}{a b:Addr}{o:HO}(h:b≠a):upd H a o b=H b:=by unfold upd;rw [if_neg h]
theorem qZ {H:Hp}{a:Addr}{o u:HO}:upd (upd H a o) a u=upd H a u:=by
 funext b;unfold upd;split <;> rfl
theorem Yj {H:Hp}{a b:Addr}{o u:HO}(h:H a=some o) (h':H b=some u) (d:o≠u):a≠b:=by
 intro e;subst e;rw [h] at h';exact d (Option.some.inj h')
theorem Bs {H:Hp}{a b:Addr}{o:HO}(h:H a=some o) (h':H b=none):a≠b:=by
 intro e;subst e;rw [h] at h';cases h'
section
variable (P:Program) (w:World)
noncomputable def Le (h:Heap) (a:Addr) (its:Array Value):Prop:=∃ o,h.get? a=some o/\o.cls=.type "tuple"/\o.dict=none/\∃ n,o.data=.seq its n
theorem Le.to {h:Heap}{a:Addr}{its:Array Value}(x:Le h a its):IsTup h a its:=let ⟨o,e,c,_,n,d⟩:=x;⟨o,e,c,n,d⟩
theorem Le.new (h:Heap) (its:Array Value):Le (h.push { cls:=.type "tuple",data:=.seq its }) h.objs.size its:=⟨_,Heap.get?_push_size _ rfl,rfl,rfl,_,rfl⟩
noncomputable def Fy (H:Hp) (h:Heap) (a:Addr):HO->Prop
 | .lst xs=>xs.length<=sizeLine/\∃ (its:List Value) (n:Nat),Vals xs its/\h.get? a=some { cls:=.type "list",data:=.seq its.toArray n }
 | .tup xs=>xs.length<=sizeLine/\∃ its:List Value,Vals xs its/\Le h a its.toArray
 | .dK kvs=>kvs.length<=sizeLine/\(a==sysModules)=false/\∃ vs,KV kvs vs/\h.DictOf (Rz P w) a vs
 | .dT kvs=>kvs.length<=sizeLine/\(a==sysModules)=false/\∃ xs:List (List Key×Addr×Value),
   Paired (fun (p:List Key×V) (q:List Key×Addr×Value)=>p.1=q.1/\H q.2.1=some (.tup (p.1.map kV))/\Cg p.2 q.2.2) kvs xs /\
   ∃ o es ep,h.get? a=some o/\o.ExactDict/\o.data=.dict es ep/\es.toList=xs.map (entryOfKey (tupleKind (Rz P w)))/\(xs.map (·.1)).Nodup
 | .set S n=>h.SetOf (intKind P w) a S n
 | .ins C dx fs=>H dx=some (.own a)/\fs.length<=1000/\dx≠a/\h.get? a=some (PySem.W.instObj C dx) /\
   ∃ mA,h.Ns1 dx mA/\(∀ f,Ke (fs.lookup f) (mA f))/\PySem.Within mA (fs.map (·.1))
 | .own _=>∃ o,h.get? a=some o
 | .xd fs=>∃ mA,h.Ns1 a mA/\∀ f,Ke (fs.lookup f) (mA f)
 | .rng lo hi=>∃ t u v,h.get? a=some { cls:=.type "range",data:=.fields #[.int lo t,.int hi u,.int 1 v] }
 | .frz o u=>h.get? a=some o/\Fy H h a u
 | .tbl ps=>h.get? a=some { cls:=.none,data:=.fields ps }
 | .met f x=>h.get? a=some (PySem.W.methodObj (.ref f) (.ref x))
 | .ext φ=>φ h/\(∃ o,h.get? a=some o)/\∀ h1 h2:Heap,φ h1->(∀ o,h1.get? a=some o->h2.get? a=some o)->φ h2
noncomputable def HOk (H:Hp) (h:Heap):Prop:=∀ a o,H a=some o->Fy P w H h a o
end
section
variable {P:Program}{w:World}{H H':Hp}{h h':Heap}{a:Addr}{o:HO}
theorem Fy.lt (x:Fy P w H h a o):a < h.objs.size:=by
 cases o with
 | lst xs=>obtain ⟨_,_,_,_,e⟩:=x;exact Heap.lt_size e
 | tup xs=>obtain ⟨_,_,_,p⟩:=x;exact p.to.lt
 | dK kvs=>obtain ⟨_,_,_,_,o,_,_,e,_⟩:=x;exact Heap.lt_size e
 | dT kvs=>obtain ⟨_,_,_,_,o,_,_,e,_⟩:=x;exact Heap.lt_size e
 | set S n=>obtain ⟨o,_,_,_,e,_⟩:=x;exact Heap.lt_size e
 | ins C dx fs=>obtain ⟨_,_,_,e,_⟩:=x;exact Heap.lt_size e
 | own y=>obtain ⟨_,e⟩:=x;exact Heap.lt_size e
 | xd fs=>obtain ⟨_,⟨_,_,_,e,_⟩,_⟩:=x;exact Heap.lt_size e
 | rng lo hi=>obtain ⟨_,_,_,e⟩:=x;exact Heap.lt_size e
 | frz ob u=>obtain ⟨e,_⟩:=x;exact Heap.lt_size e
 | tbl ps=>exact Heap.lt_size (show h.get? a=some _ from x)
 | met f y=>exact Heap.lt_size (show h.get? a=some _ from x)
 | ext φ=>obtain ⟨_,⟨_,e⟩,_⟩:=x;exact Heap.lt_size e
theorem Paired.mapP {α β:Type}{F G:α->β->Prop}:∀ {l₁:List α}{l₂:List β},Paired F l₁ l₂->(∀ a b,F a b->G a b)->Paired G l₁ l₂
 | _,_,.nil,_=>.nil
 | _,_,.cons r t,f=>.cons (f _ _ r) (Paired.mapP t f)
theorem Fy.stay (x:Fy P w H h a o) (k:∀ b u,(b=a\/H b=some (.own a))->h.get? b=some u->h'.get? b=some u)
  (ho:∀ b,H b=some (.own a)->H' b=some (.own a)) (ht:∀ b xs,H b=some (.tup xs)->H' b=some (.tup xs)):Fy P w H' h' a o:=by
 induction o with
 | lst xs=>obtain ⟨z,its,n,r,e⟩:=x;exact ⟨z,its,n,r,k _ _ (.inl rfl) e⟩
 | tup xs=>obtain ⟨z,its,r,ob,e,c⟩:=x;exact ⟨z,its,r,ob,k _ _ (.inl rfl) e,c⟩
 | dK kvs=>obtain ⟨z,y,vs,r,ob,es,ep,e,c⟩:=x;exact ⟨z,y,vs,r,ob,es,ep,k _ _ (.inl rfl) e,c⟩
 | dT kvs =>
  obtain ⟨z,y,xs,r,ob,es,ep,e,c⟩:=x;exact ⟨z,y,xs,Paired.mapP r fun p q z=>⟨z.1,ht _ _ z.2.1,z.2.2⟩,ob,es,ep,k _ _ (.inl rfl) e,c⟩
 | set S n=>obtain ⟨ob,es,ep,t,e,c⟩:=x;exact ⟨ob,es,ep,t,k _ _ (.inl rfl) e,c⟩
 | ins C dx fs =>
  obtain ⟨d,z,ne,e,mA,⟨od,es,ep,e2,c⟩,r⟩:=x;exact ⟨ho _ d,z,ne,k _ _ (.inl rfl) e,mA,⟨od,es,ep,k _ _ (.inr d) e2,c⟩,r⟩
 | own y=>obtain ⟨ob,e⟩:=x;exact ⟨ob,k _ _ (.inl rfl) e⟩
 | xd fs=>obtain ⟨mA,⟨od,es,ep,e,c⟩,r⟩:=x;exact ⟨mA,⟨od,es,ep,k _ _ (.inl rfl) e,c⟩,r⟩
 | rng lo hi=>obtain ⟨t,u,v,e⟩:=x;exact ⟨t,u,v,k _ _ (.inl rfl) e⟩
 | frz ob u ih=>obtain ⟨e,q⟩:=x;exact ⟨k _ _ (.inl rfl) e,ih q⟩
 | tbl ps =>
  have e:h.get? a=some { cls:=.none,data:=.fields ps }:=x;show h'.get? a=some { cls:=.none,data:=.fields ps };exact k a _ (.inl rfl) e
 | met f y =>
  have e:h.get? a=some (PySem.W.methodObj (.ref f) (.ref y)):=x;show h'.get? a=some (PySem.W.methodObj (.ref f) (.ref y));exact k a _ (.inl rfl) e
 | ext φ=>obtain ⟨p,⟨o,e⟩,st⟩:=x;exact ⟨st _ _ p fun o q=>k _ _ (.inl rfl) q,⟨o,k _ _ (.inl rfl) e⟩,st⟩
theorem HOk.lt (x:HOk P w H h) (e:H a=some o):a < h.objs.size:=(x a o e).lt
theorem HOk.fresh (x:HOk P w H h) (e:h.objs.size<=a):H a=none:=by
 cases q:H a with
 | none=>rfl
 | some u=>exact absurd (Nat.lt_of_lt_of_le (x.lt q) e) (Nat.lt_irrefl _)
theorem HOk.kept (x:HOk P w H h) (k:∀ b u,h.get? b=some u->h'.get? b=some u):HOk P w H h':=fun a o e =>
 (x a o e).stay (fun b u _ q=>k b u q) (fun _ q=>q) fun _ _ q=>q
theorem HOk.laid (x:HOk P w H h) (k:∀ b u,h.get? b=some u->h'.get? b=some u) (hp:h.objs.size<=a) (new:Fy P w (upd H a o) h' a o):HOk P w (upd H a o) h':=fun b u e=>by
 have hn:=x.fresh hp
 by_cases hb:b=a
 ·subst hb;rw [Dh] at e;cases e;exact new
 ·rw [Bg hb] at e;exact (x b u e).stay (fun c v _ q=>k c v q) (fun c q=>by rw [Bg (Bs q hn)];exact q) fun c xs q=>by rw [Bg (Bs q hn)];exact q
end
noncomputable def Rd (H:Hp) (a:Addr) (u:HO):Prop:=H a=some u\/∃ o,H a=some (.frz o u)
theorem Rd.ok {P:Program}{w:World}{H:Hp}{h:Heap}{a:Addr}{u:HO}(r:Rd H a u) (x:HOk P w H h):Fy P w H h a u:=by
 rcases r with r|⟨o,r⟩
 ·exact x a u r
 ·obtain ⟨_,q⟩:=x a _ r;exact q
noncomputable def Mut:Option HO->Prop
 | some (.lst _)=>True
 | some (.dK _)=>True
 | some (.dT _)=>True
 | some (.set _ _)=>True
 | some (.ins _ _ _)=>True
 | some (.ext _)=>True
 | _=>False
section
variable {P:Program}{w:World}{H:Hp}{h h':Heap}{x e:Addr}{o':HO}
theorem HOk.write (ok:HOk P w H h) (mu:Mut (H x)) (he:e=x\/H e=some (.own x)) (k:∀ b u,b≠e->h.get? b=some u->h'.get? b=some u) (heo:∃ u,h'.get? e=some u)
  (new:Fy P w (upd H x o') h' x o'):HOk P w (upd H x o') h':=fun b u q=>by
 have nown:∀ c y,H c=some (.own y)->c≠x:=fun c y r z=>by subst z;rw [r] at mu;exact mu
 have ntup:∀ c xs,H c=some (.tup xs)->c≠x:=fun c xs r z=>by subst z;rw [r] at mu;exact mu
 by_cases hb:b=x
 ·subst hb;rw [Dh] at q;cases q;exact new
 ·rw [Bg hb] at q
  by_cases hbe:b=e
  ·have q':H b=some (.own x):=by
    rcases he with z|z
    ·exact absurd (hbe.trans z) hb
    ·rw [hbe];exact z
   rw [q] at q';cases q';obtain ⟨v,hv⟩:=heo;exact ⟨v,by rw [hbe];exact hv⟩
  ·refine (ok b u q).stay (fun c v hc r=>k c v ?_ r) (fun c r=>by rw [Bg (nown c b r)];exact r) fun c xs r=>by rw [Bg (ntup c xs r)];exact r
   rcases hc with rfl|hc
   ·exact hbe
   ·rintro rfl;rcases he with z|z
    ·exact nown c b hc z
    ·rw [hc] at z;cases z;exact hb rfl
end
structure Un (fs ex:List Addr) (H H':Hp) (h h':Heap):Prop where
 keep:∀ b o,h.get? b=some o->H b=none->b ∉ fs->b ∉ ex->h'.get? b=some o
 slot:∀ b o,h.get? b=some o->H b=none->b∈fs->b ∉ ex->∃ sl,h'.get? b=some { o with slots:=sl }
 free:∀ b o,h.get? b=some o->H b=none->b ∉ ex->H' b=none
 there:∀ b o,h.get? b=some o->b ∉ ex->∃ o',h'.get? b=some o'
 tups:∀ b xs,H b=some (.tup xs)->H' b=some (.tup xs)
 frzs:∀ b o u,H b=some (.frz o u)->H' b=some (.frz o u)
 tbls:∀ b ps,H b=some (.tbl ps)->∃ more,H' b=some (.tbl (ps++more))
section
variable {fs fs' ex ex':List Addr}{H H1 H2:Hp}{h h1 h2 h':Heap}{a x e:Addr}{o:HO}
theorem Un.any (u:Un fs ex H H1 h h1) {b:Addr}{ob:Obj}(q:h.get? b=some ob) (n:H b=none) (hx:b ∉ ex):∃ sl,h1.get? b=some { ob with slots:=sl }:=by
 by_cases hb:b∈fs
 ·exact u.slot b ob q n hb hx
 ·exact ⟨ob.slots,u.keep b ob q n hb hx⟩
theorem Un.kept (k:∀ b u,h.get? b=some u->h'.get? b=some u):Un fs ex H H h h' :=
 ⟨fun b ob q _ _ _=>k b ob q,fun b ob q _ _ _=>⟨ob.slots,k b ob q⟩,fun _ _ _ n _=>n,fun b ob q _=>⟨ob,k b ob q⟩,fun _ _ q=>q,fun _ _ _ q=>q,fun _ ps q=>⟨#[],by rw [q];simp⟩⟩
theorem Un.refl:Un fs ex H H h h:=Un.kept fun _ _ q=>q
theorem Un.laid (k:∀ b u,h.get? b=some u->h'.get? b=some u) (hp:h.objs.size<=a) (hn:H a=none):Un fs ex H (upd H a o) h h' where
 keep:=fun b u q _ _ _=>k b u q
 slot:=fun b u q _ _ _=>⟨u.slots,k b u q⟩
 free:=fun b u q n _=>by rw [Bg (Nat.ne_of_lt (Nat.lt_of_lt_of_le (Heap.lt_size q) hp))];exact n
 there:=fun b u q _=>⟨u,k b u q⟩
 tups:=fun b xs q=>by rw [Bg (Bs q hn)];exact q
 frzs:=fun b u xs q=>by rw [Bg (Bs q hn)];exact q
 tbls:=fun b ps q=>⟨#[],by rw [Bg (Bs q hn),q];simp⟩
theorem Un.write (mu:Mut (H x)) (he:e=x\/H e=some (.own x)) (k:∀ b u,b≠e->h.get? b=some u->h'.get? b=some u) (heo:∃ u,h'.get? e=some u):Un fs ex H (upd H x o) h h':=by
 have hx:∀ b,H b=none->b≠x:=fun b n z=>by subst z;rw [n] at mu;exact mu
 have hb:∀ b,H b=none->b≠e:=fun b n z=>by
  subst z;rcases he with r|r
  ·exact hx b n r
  ·rw [n] at r;cases r
 have hm:∀ b u,H b=some u->¬ Mut (some u)->b≠x:=fun b u q nm z=>by subst z;rw [q] at mu;exact nm mu
 refine ⟨fun b u q n _ _=>k b u (hb b n) q,fun b u q n _ _=>⟨u.slots,k b u (hb b n) q⟩,fun b u q n _=>by rw [Bg (hx b n)];exact n,fun b u q _=>?_,
  fun b xs q=>by rw [Bg (hm b _ q fun z=>z)];exact q,fun b u xs q=>by rw [Bg (hm b _ q fun z=>z)];exact q,fun b ps q=>⟨#[],by rw [Bg (hm b _ q fun z=>z),q];simp⟩⟩
 by_cases hbe:b=e
 ·subst hbe;exact heo
 ·exact ⟨u,k b u hbe q⟩
end
noncomputable def trk (h:Heap) (H:Hp):List Addr:=(List.range h.objs.size).filter fun a=>(H a).isSome
noncomputable def R0 (h:Heap) (H:Hp):Heap:=PySem.W.hideAll h (trk h H)
theorem aK (h:Heap) (H:Hp):(R0 h H).objs.size=h.objs.size:=PySem.W.hideAll_size _ _
theorem eE {h:Heap}{H:Hp}{b:Addr}{o:Obj}(e:h.get? b=some o) (n:H b=none):(R0 h H).get? b=some o :=
 PySem.W.hideAll_get _ e fun hm=>by
  have q:(H b).isSome=true:=(List.mem_filter.mp hm).2;rw [n] at q;simp at q
theorem rA {h:Heap}{H:Hp}{b:Addr}{o:Obj}(e:(R0 h H).get? b=some o):h.get? b=some o/\H b=none:=by
 have e':h.get? b=some o:=PySem.W.of_hideAll (trk h H) e;refine ⟨e',?_⟩;cases q:H b with
 | none=>rfl
 | some x =>
  have hm:b∈trk h H:=List.mem_filter.mpr ⟨List.mem_range.mpr (Heap.lt_size e'),by simp [q]⟩;have z:(R0 h H).get? b=none:=PySem.W.hideAll_none (trk h H) hm;rw [z] at e;cases e
structure Mod (K:PySem.W.Frag) (mg:Str->Option Value) (base:Heap):Prop where
 kin:K.In base
 glob:base.Ns mainGlobals mg
 blt:∃ mb,base.Ns builtinsNs mb/\∀ x:Str,x ≠ "__name__"->mb x=bootBuiltins x
 nolimit:base.NoLimit
structure Cx where
 prog:Program
 w:World
 K:PySem.W.Frag
 mg:Str->Option Value
 base:Heap
 A:Around
 N:List Str
 s₀:Shared
 H₀:Hp
 env:Env
 outer:List Env
 stack:List Env
 ex:List Addr
 fn:Str->Bool
 calm:Bool
 pn:List (Addr×Obj)
 xe:Value->Shared->Prop
noncomputable def frs (l:List Env):List Addr:=l.filterMap (·.frame)
noncomputable abbrev Cx.fs (X:Cx):List Addr:=frs X.outer
noncomputable def Vis (sc:Scope) (x:Str):Prop:=sc.names.lookup x=some .local\/sc.names.lookup x=some .cell\/sc.names.lookup x=some .free
noncomputable def Loc (sc:Scope) (x:Str):Prop:=sc.names.lookup x=some .local\/sc.names.lookup x=some .cell
noncomputable def Look (env:Env) (h:Heap) (m:Str->Option Value) (x:Str) (u:Value):Prop :=
 (env.kindOf x=some .local/\m x=some u)\/((env.kindOf x=some .cell\/env.kindOf x=some .free)/\∃ c,env.cells.lookup x=some c/\h.IsCell c (some u))
structure Cx.Ok (X:Cx):Prop where
 mod:Mod X.K X.mg X.base
 kind:X.env.scope.kind=.function
 glob:X.env.globals=mainGlobals
 blt:X.env.builtins=builtinsNs
 above:X.s₀.heap.objs.size<=X.env.locals
 inj:∀ x y c,X.env.cells.lookup x=some c->X.env.cells.lookup y=some c->x=y
 has:∀ x,(X.env.kindOf x=some .cell\/X.env.kindOf x=some .free)->∃ c,X.env.cells.lookup x=some c
 cab:∀ x c,X.fn x=true->X.env.cells.lookup x=some c->X.s₀.heap.objs.size<=c
 hd:X.calm=true->X.A.handled=none
 frames:X.A.frames=some X.stack
 stk:X.stack=X.outer\/(X.stack=X.env::X.outer/\X.env.frame=some X.env.locals)
 exf:∀ b∈X.ex,b≠X.env.locals/\∀ x c,X.env.cells.lookup x=some c->c≠b
 bs:∀ b o,X.base.get? b=some o->X.s₀.heap.get? b=some o/\X.H₀ b=none
 bsz:X.base.objs.size<=X.s₀.heap.objs.size
 noex:∀ b o,X.base.get? b=some o->b ∉ X.ex
 exfs:∀ b∈X.ex,b ∉ X.fs
 funs:X.s₀.heap.FunFrames X.base X.outer
 frf:∀ b∈X.fs,X.H₀ b=none
structure Inv (X:Cx) (pins:List (Addr×Obj)) (σ:List (Option V)) (H:Hp) (s:Shared):Prop where
 ok:X.Ok
 os:s.os=X.s₀.os
 bare:AllBare s.gens
 base:Un X.fs X.ex X.H₀ H X.s₀.heap s.heap
 loc:∃ m,s.heap.Ns X.env.locals m/\∀ (i:Nat) (x:Str) (v:V),X.N[i]?=some x->σ[i]?=some (some v)->Vis X.env.scope x->∃ u,Cg v u/\Look X.env s.heap m x u
 cell:∀ x c,X.env.cells.lookup x=some c->∃ v,s.heap.IsCell c v
 free:H X.env.locals=none
 freeC:∀ x c,X.env.cells.lookup x=some c->H c=none
 pin:∀ p∈X.pn++pins,s.heap.get? p.1=some p.2/\H p.1=none/\p.1≠X.env.locals/\p.1 ∉ X.fs/\∀ v,p.2.data≠.cell v
 hok:HOk X.prog X.w H s.heap
 len:σ.length=X.N.length
section
variable {X:Cx}{pins:List (Addr×Obj)}{σ:List (Option V)}{H H':Hp}{s:Shared}{h':Heap}
theorem Cx.Ok.nofr (ok:X.Ok) {b:Addr}{o:Obj}(e:X.base.get? b=some o):b ∉ X.fs:=fun hb=>by
 have:=(ok.funs.mem hb).1;rw [e] at this;cases this
theorem Inv.bs (I:Inv X pins σ H s):∀ b o,X.base.get? b=some o->s.heap.get? b=some o/\H b=none:=fun b o e =>
 ⟨I.base.keep b o (I.ok.bs b o e).1 (I.ok.bs b o e).2 (I.ok.nofr e) (I.ok.noex b o e),I.base.free b o (I.ok.bs b o e).1 (I.ok.bs b o e).2 (I.ok.noex b o e)⟩
theorem Inv.bk (I:Inv X pins σ H s):∀ b o,X.base.get? b=some o->s.heap.get? b=some o:=fun b o e=>(I.bs b o e).1
theorem Inv.mod (I:Inv X pins σ H s):Mod X.K X.mg X.base:=I.ok.mod
theorem Inv.kIn (I:Inv X pins σ H s):X.K.In s.heap:=I.ok.mod.kin.keeps I.bk
theorem Inv.lt (I:Inv X pins σ H s):X.env.locals < s.heap.objs.size:=let ⟨_,hn,_⟩:=I.loc;hn.lt
theorem Inv.sz (I:Inv X pins σ H s):X.s₀.heap.objs.size<=s.heap.objs.size:=Nat.le_trans I.ok.above (Nat.le_of_lt I.lt)
theorem Inv.nofs (I:Inv X pins σ H s) {a:Addr}(h:s.heap.objs.size<=a):a ∉ X.fs:=fun hb=>by
 obtain ⟨_,o,ho,_⟩:=I.ok.funs.mem hb;exact absurd (Nat.lt_of_lt_of_le (Heap.lt_size ho) (Nat.le_trans I.sz h)) (Nat.lt_irrefl _)
theorem Inv.cne (I:Inv X pins σ H s):∀ x c,X.env.cells.lookup x=some c->c≠X.env.locals:=fun x c e z=>by
 obtain ⟨v,o,ho,hd⟩:=I.cell x c e;obtain ⟨m,⟨o',es,ep,ho',hd',_⟩,_⟩:=I.loc;rw [z,ho'] at ho;cases ho;rw [hd'] at hd;cases hd
theorem Inv.funs (I:Inv X pins σ H s):s.heap.FunFrames X.base X.outer:=by
 have all:∀ (l:List Env),(∀ b∈frs l,b∈X.fs)->X.s₀.heap.FunFrames X.base l->s.heap.FunFrames X.base l:=by
  intro l
  induction l with
  | nil=>intro _ _;trivial
  | cons env r ih =>
   intro hs hl;obtain ⟨hk,⟨L,o,hf,hn,ho,hd⟩,hr⟩:=hl;have hL:L∈X.fs:=hs L (by unfold frs;rw [List.filterMap_cons,hf];exact List.mem_cons_self);obtain ⟨sl,e⟩:=I.base.slot L o ho (I.ok.frf L hL) hL fun z=>I.ok.exfs L z hL
   exact ⟨hk,⟨L,_,hf,hn,e,hd⟩,ih (fun b hb=>hs b (by unfold frs;rw [List.filterMap_cons,hf];exact List.mem_cons_of_mem _ hb)) hr⟩
 exact all X.outer (fun _ hb=>hb) I.ok.funs
theorem Inv.stack (I:Inv X pins σ H s):s.heap.FunFrames X.base X.stack:=by
 rcases I.ok.stk with e|⟨e,hf⟩
 ·rw [e];exact I.funs
 ·rw [e];obtain ⟨m,hn,_⟩:=I.loc;refine .cons (by rw [I.ok.kind];decide) hf hn ?_ I.funs;exact Heap.get?_none_of_le (Nat.le_trans I.ok.bsz I.ok.above)
theorem Inv.stkSub (I:Inv X pins σ H s):∀ b∈frs X.stack,b∈X.env.locals::X.fs:=fun b hb=>by
 rcases I.ok.stk with e|⟨e,hf⟩
 ·rw [e] at hb;exact List.mem_cons_of_mem _ hb
 ·rw [e] at hb;unfold frs at hb;rw [List.filterMap_cons,hf] at hb;exact hb
theorem Inv.stkFree (I:Inv X pins σ H s):∀ b∈frs X.stack,H b=none:=fun b hb=>by
 rcases List.mem_cons.mp (I.stkSub b hb) with e|hb
 ·rw [e];exact I.free
 ·obtain ⟨_,o,ho,_⟩:=I.ok.funs.mem hb;exact I.base.free b o ho (I.ok.frf b hb) fun z=>I.ok.exfs b z hb
theorem Inv.step {g':Array GenState}{t':Nat}{d':Drawn}{ch:List Addr}(I:Inv X pins σ H s)
  (hch:∀ b∈ch,(b∈X.ex\/X.s₀.heap.objs.size<=b)/\b≠X.env.locals/\(∀ x c,X.env.cells.lookup x=some c->c≠b)/\∀ p∈X.pn++pins,p.1≠b)
  (keep:∀ b o,b≠X.env.locals->b ∉ X.fs->b ∉ ch->s.heap.get? b=some o->H b=none->h'.get? b=some o)
  (slot:∀ b o,b≠X.env.locals->b∈X.fs->b ∉ ch->s.heap.get? b=some o->H b=none->∃ sl,h'.get? b=some { o with slots:=sl }) (free:∀ b o,b ∉ ch->s.heap.get? b=some o->H b=none->H' b=none)
  (there:∀ b o,b ∉ ch->s.heap.get? b=some o->∃ o',h'.get? b=some o')
  (tups:∀ b xs,H b=some (.tup xs)->H' b=some (.tup xs)) (frzs:∀ b o u,H b=some (.frz o u)->H' b=some (.frz o u)) (tbls:∀ b ps,H b=some (.tbl ps)->∃ more,H' b=some (.tbl (ps++more)))
  (ns:∀ m,s.heap.Ns X.env.locals m->h'.Ns X.env.locals m) (hok:HOk X.prog X.w H' h') (hg:AllBare g') :
  Inv X pins σ H' { s with heap:=h',gens:=g',drawn:=d',toks:=t' }:=by
 have neL:∀ b o,X.s₀.heap.get? b=some o->b≠X.env.locals:=fun b o e=>Nat.ne_of_lt (Nat.lt_of_lt_of_le (Heap.lt_size e) I.ok.above)
 have neC:∀ b o,X.s₀.heap.get? b=some o->b ∉ X.ex->b ∉ ch:=fun b o e hx hb=>by
  rcases (hch b hb).1 with z|z
  ·exact hx z
  ·exact absurd (Nat.lt_of_lt_of_le (Heap.lt_size e) z) (Nat.lt_irrefl _)
 have cellK:∀ x c,X.env.cells.lookup x=some c->∀ v,s.heap.IsCell c v->h'.IsCell c v:=by
  rintro x c e v ⟨o,ho,hd⟩;have nch:c ∉ ch:=fun z=>(hch c z).2.2.1 x c e rfl
  by_cases hc:c∈X.fs
  ·obtain ⟨sl,q⟩:=slot c o (I.cne x c e) hc nch ho (I.freeC x c e);exact ⟨_,q,hd⟩
  ·exact ⟨o,keep c o (I.cne x c e) hc nch ho (I.freeC x c e),hd⟩
 refine ⟨I.ok,I.os,hg,⟨fun b o e n hb hx=>?_,fun b o e n hb hx=>?_,fun b o e n hx=>?_,fun b o e hx=>?_,fun b xs e=>tups b xs (I.base.tups b xs e),fun b o xs e=>frzs b o xs (I.base.frzs b o xs e),fun b ps e=>?_⟩,?_,fun x c e=>?_,?_,fun x c e=>?_,fun p hp=>?_,hok,I.len⟩
 ·exact keep b o (neL b o e) hb (neC b o e hx) (I.base.keep b o e n hb hx) (I.base.free b o e n hx)
 ·obtain ⟨sl,e1⟩:=I.base.slot b o e n hb hx;obtain ⟨sl',e2⟩:=slot b _ (neL b o e) hb (neC b o e hx) e1 (I.base.free b o e n hx);exact ⟨sl',e2⟩
 ·obtain ⟨o',e1⟩:=I.base.there b o e hx;exact free b o' (neC b o e hx) e1 (I.base.free b o e n hx)
 ·obtain ⟨o',e1⟩:=I.base.there b o e hx;exact there b o' (neC b o e hx) e1
 ·obtain ⟨m1,e1⟩:=I.base.tbls b ps e;obtain ⟨m2,e2⟩:=tbls b _ e1;exact ⟨m1++m2,by rw [e2,Array.append_assoc]⟩
 ·obtain ⟨m,hn,hl⟩:=I.loc;refine ⟨m,ns m hn,fun i x v e1 e2 e3=>?_⟩;obtain ⟨u,r,l⟩:=hl i x v e1 e2 e3;refine ⟨u,r,?_⟩;rcases l with l|⟨k,c,e,z⟩
  ·exact .inl l
  ·exact .inr ⟨k,c,e,cellK x c e _ z⟩
 ·obtain ⟨v,z⟩:=I.cell x c e;exact ⟨v,cellK x c e v z⟩
 ·obtain ⟨m,⟨o,_,_,ho,_⟩,_⟩:=I.loc;exact free _ o (fun z=>(hch _ z).2.1 rfl) ho I.free
 ·obtain ⟨v,o,ho,hd⟩:=I.cell x c e;exact free c o (fun z=>(hch c z).2.2.1 x c e rfl) ho (I.freeC x c e)
 ·obtain ⟨e,n,ne,nf,d⟩:=I.pin p hp;have nch:p.1 ∉ ch:=fun z=>(hch p.1 z).2.2.2 p hp rfl
  exact ⟨keep p.1 p.2 ne nf nch e n,free p.1 p.2 nch e n,ne,nf,d⟩
theorem Inv.un {t':Nat}(I:Inv X pins σ H s) (u:Un X.fs [] H H' s.heap h') (hok:HOk X.prog X.w H' h'):Inv X pins σ H' { s with heap:=h',toks:=t' }:=by
 obtain ⟨m,⟨o,es,ep,ho,r⟩,_⟩:=id I.loc;obtain ⟨sl,hL⟩:=u.any ho I.free (by simp)
 exact I.step (g':=s.gens) (d':=s.drawn) (ch:=[]) (fun _ z=>nomatch z) (fun b o _ hb _ e n=>u.keep b o e n hb (by simp)) (fun b o _ hb _ e n=>u.slot b o e n hb (by simp)) (fun b o _ e n=>u.free b o e n (by simp)) (fun b o _ e=>u.there b o e (by simp)) u.tups u.frzs u.tbls (fun m' hm=>by
  obtain ⟨o',es',ep',ho',r'⟩:=hm;rw [ho] at ho';cases ho'
  exact ⟨_,es',ep',hL,r'⟩) hok I.bare
theorem Inv.call {g':Array GenState}{t':Nat}{d':Drawn}{ch:List Addr}(I:Inv X pins σ H s) (u:Un (frs X.stack) ch H H' s.heap h') (hok:HOk X.prog X.w H' h') (hg:AllBare g')
  (hch:∀ b∈ch,(b∈X.ex\/X.s₀.heap.objs.size<=b)/\b≠X.env.locals/\(∀ x c,X.env.cells.lookup x=some c->c≠b)/\∀ p∈X.pn++pins,p.1≠b) :
  Inv X pins σ H' { s with heap:=h',gens:=g',drawn:=d',toks:=t' }:=by
 obtain ⟨m,⟨o,es,ep,ho,r⟩,_⟩:=id I.loc;obtain ⟨sl,hL⟩:=u.any ho I.free fun z=>(hch _ z).2.1 rfl
 exact I.step (ch:=ch) hch (fun b o hL hb hc e n=>u.keep b o e n (fun z=>(List.mem_cons.mp (I.stkSub b z)).elim hL hb) hc) (fun b o _ _ hc e n=>u.any e n hc) (fun b o hc e n=>u.free b o e n hc) (fun b o hc e=>u.there b o e hc) u.tups u.frzs u.tbls (fun m' hm=>by
  obtain ⟨o',es',ep',ho',r'⟩:=hm;rw [ho] at ho';cases ho'
  exact ⟨_,es',ep',hL,r'⟩) hok hg
theorem Inv.turned {t':Nat}{it:Addr}(I:Inv X pins σ H s) (k:∀ b o,b≠it->s.heap.get? b=some o->h'.get? b=some o) (hn:H it=none) (hL:it≠X.env.locals)
  (h1:it∈X.ex\/X.s₀.heap.objs.size<=it) (h2:∀ x c,X.env.cells.lookup x=some c->c≠it) (h3:∀ p∈X.pn++pins,p.1≠it):Inv X pins σ H { s with heap:=h',toks:=t' }:=by
 have nit:∀ b u,H b=some u->b≠it:=fun b u e z=>by rw [z,hn] at e;cases e
 refine I.step (g':=s.gens) (d':=s.drawn) (ch:=[it]) (fun b hb=>?_) (fun b o _ _ hc e _=>k b o (fun z=>hc (by simp [z])) e) (fun b o _ _ hc e _=>⟨o.slots,k b o (fun z=>hc (by simp [z])) e⟩) (fun _ _ _ _ n=>n)
  (fun b o hc e=>⟨o,k b o (fun z=>hc (by simp [z])) e⟩) (fun _ _ e=>e) (fun _ _ _ e=>e) (fun b ps e=>⟨#[],by rw [e];simp⟩) (fun m hm=>?_) (fun b u e=>?_) I.bare
 ·have e:b=it:=by simpa using hb
  subst e;exact ⟨h1,hL,h2,h3⟩
 ·obtain ⟨o,es,ep,ho,r⟩:=hm;exact ⟨o,es,ep,k _ o (Ne.symm hL) ho,r⟩
 ·refine (I.hok b u e).stay (fun c v hc q=>k c v ?_ q) (fun _ q=>q) fun _ _ q=>q
  rcases hc with z|z
  ·rw [z];exact nit b u e
  ·exact nit c _ z
theorem Inv.tok (I:Inv X pins σ H s) (t:Nat):Inv X pins σ H { s with toks:=t }:=I.un (h':=s.heap) (t':=t) Un.refl I.hok
theorem Inv.kept {t':Nat}(I:Inv X pins σ H s) (k:∀ b u,s.heap.get? b=some u->h'.get? b=some u):Inv X pins σ H { s with heap:=h',toks:=t' }:=I.un (Un.kept k) (I.hok.kept k)
theorem Inv.laid {a:Addr}{o:HO}{t':Nat}(I:Inv X pins σ H s) (k:∀ b u,s.heap.get? b=some u->h'.get? b=some u) (hp:s.heap.objs.size<=a) (new:Fy X.prog X.w (upd H a o) h' a o) :
  Inv X pins σ (upd H a o) { s with heap:=h',toks:=t' }:=I.un (Un.laid k hp (I.hok.fresh hp)) (I.hok.laid k hp new)
theorem Inv.write {x e:Addr}{o:HO}{t':Nat}(I:Inv X pins σ H s) (mu:Mut (H x)) (he:e=x\/H e=some (.own x)) (k:∀ b u,b≠e->s.heap.get? b=some u->h'.get? b=some u) (heo:∃ u,h'.get? e=some u)
  (new:Fy X.prog X.w (upd H x o) h' x o):Inv X pins σ (upd H x o) { s with heap:=h',toks:=t' }:=I.un (Un.write mu he k heo) (I.hok.write mu he k heo new)
theorem Inv.weak {σ':List (Option V)}(I:Inv X pins σ H s) (hl:σ'.length=σ.length) (w:∀ (i:Nat) v,σ'[i]?=some (some v)->σ[i]?=some (some v)):Inv X pins σ' H s :=
 ⟨I.ok,I.os,I.bare,I.base,let ⟨m,hn,hl'⟩:=I.loc;⟨m,hn,fun i x v e1 e2 e3=>hl' i x v e1 (w i v e2) e3⟩,I.cell,I.free,I.freeC,I.pin,I.hok,hl.trans I.len⟩
theorem Inv.pins_of {pins':List (Addr×Obj)}(I:Inv X pins σ H s) (h:∀ p∈pins',s.heap.get? p.1=some p.2/\H p.1=none/\p.1≠X.env.locals/\p.1 ∉ X.fs/\∀ v,p.2.data≠.cell v):Inv X pins' σ H s :=
 ⟨I.ok,I.os,I.bare,I.base,I.loc,I.cell,I.free,I.freeC,fun p hp=>(List.mem_append.mp hp).elim (fun z=>I.pin p (List.mem_append_left _ z)) (h p),I.hok,I.len⟩
theorem Uh {N:List Str}(hN:N.Nodup) {i j:Nat}{x:Str}(a:N[i]?=some x) (b:N[j]?=some x):i=j:=by
 obtain ⟨h1,e1⟩:=List.getElem?_eq_some_iff.mp a;obtain ⟨h2,e2⟩:=List.getElem?_eq_some_iff.mp b;exact (List.getElem_inj hN).mp (e1.trans e2.symm)
theorem aL {M:Model}{A:Around}{E:Value->Shared->Prop}{i:Nat}{x:Str}{v:V}{u:Value}{Q:Unit->Shared->Prop}(I:Inv X pins σ H s) (hN:X.N.Nodup) (hi:X.N[i]?=some x) (hx:Loc X.env.scope x) (r:Cg v u)
  (h:∀ s',Inv X pins (σ.set i (some v)) H s'->(∃ a,Heap.SameBut a s.heap s'.heap/\(a=X.env.locals\/X.env.cells.lookup x=some a))->Q () s') (hf:X.fn x=true\/X.env.scope.names.lookup x=some .local:=by first | exact .inl rfl | exact .inr rfl | assumption):wpAny M A (storeName X.env x u) Q E s:=by
 obtain ⟨m,hn,hl⟩:=id I.loc;have hcls:(X.env.scope.kind==.class || (X.env.scope.kind==.module&&X.env.locals != X.env.globals))=false:=by rw [I.ok.kind];rfl
 have hiσ:i < σ.length:=by rw [I.len];exact (List.getElem?_eq_some_iff.mp hi).1
 have cne:=I.cne;have tracked:∀ {a:Addr} {h':Heap},(∃ o,s.heap.get? a=some o/\H a=none)->Heap.SameBut a s.heap h'->HOk X.prog X.w H h':=fun {a h'} ha hs b ob e=>by
  obtain ⟨_,_,hfree⟩:=ha;refine (I.hok b ob e).stay (fun c w' hc q=>(hs.2 c ?_).trans q) (fun _ q=>q) fun _ _ q=>q
  rintro rfl;rcases hc with rfl|hc
  ·rw [hfree] at e;cases e
  ·rw [hfree] at hc;cases hc
 rcases hx with hk|hk
 ·refine wpAny_storeName_local hk hn (fun h' hn' hs=>?_) hcls;obtain ⟨oL,_,_,hoL,_⟩:=id hn;refine h _ ⟨I.ok,I.os,I.bare,⟨fun b o e n hb hx=>?_,fun b o e n hb hx=>?_,I.base.free,fun b o e hx=>?_,I.base.tups,I.base.frzs,I.base.tbls⟩,⟨_,hn',fun j y v' e1 e2 e3=>?_⟩,fun y c e=>?_,I.free,I.freeC,fun p hp=>?_,tracked ⟨oL,hoL,I.free⟩ hs,by simpa using I.len⟩ ⟨_,hs,.inl rfl⟩
  ·exact (hs.2 b (Nat.ne_of_lt (Nat.lt_of_lt_of_le (Heap.lt_size e) I.ok.above))).trans (I.base.keep b o e n hb hx)
  ·obtain ⟨sl,e1⟩:=I.base.slot b o e n hb hx;exact ⟨sl,(hs.2 b (Nat.ne_of_lt (Nat.lt_of_lt_of_le (Heap.lt_size e) I.ok.above))).trans e1⟩
  ·obtain ⟨o',e1⟩:=I.base.there b o e hx;exact ⟨o',(hs.2 b (Nat.ne_of_lt (Nat.lt_of_lt_of_le (Heap.lt_size e) I.ok.above))).trans e1⟩
  ·by_cases hj:j=i
   ·subst hj;rw [hi] at e1;cases e1;rw [List.getElem?_set_self hiσ] at e2;cases e2;exact ⟨u,r,.inl ⟨hk,by simp⟩⟩
   ·rw [List.getElem?_set_ne (Ne.symm hj)] at e2;obtain ⟨u',r',q⟩:=hl j y v' e1 e2 e3;refine ⟨u',r',?_⟩;rcases q with ⟨k,e⟩|⟨k,c,e,z⟩
    ·refine .inl ⟨k,?_⟩;have:y≠x:=fun e=>hj (Uh hN e1 (e ▸ hi))
     simp [this,e]
    ·exact .inr ⟨k,c,e,z.sameBut hs (cne y c e)⟩
  ·obtain ⟨w',z⟩:=I.cell y c e;exact ⟨w',z.sameBut hs (cne y c e)⟩
  ·obtain ⟨e,n,ne,nf,d⟩:=I.pin p hp;exact ⟨(hs.2 p.1 ne).trans e,n,ne,nf,d⟩
 ·have hfn:X.fn x=true:=by
   rcases hf with z|z
   ·exact z
   ·rw [z] at hk;cases hk
  obtain ⟨c,hc⟩:=I.ok.has x (.inl hk);obtain ⟨w',z⟩:=I.cell x c hc;refine wpAny_storeName_cell I.ok.kind hk hc z (fun h' hc' hs=>?_);obtain ⟨oc,hoc,hocd⟩:=id z;refine h { s with heap:=h' } ⟨I.ok,I.os,I.bare,⟨fun b o e n hb hx=>?_,fun b o e n hb hx=>?_,I.base.free,fun b o e hx=>?_,I.base.tups,I.base.frzs,I.base.tbls⟩,⟨m,hn.sameBut hs (Ne.symm (cne x c hc)),fun j y v' e1 e2 e3=>?_⟩,fun y c' e=>?_,I.free,I.freeC,fun p hp=>?_,tracked ⟨oc,hoc,I.freeC x c hc⟩ hs,by simpa using I.len⟩ ⟨c,hs,.inr hc⟩
  ·exact (hs.2 b (Nat.ne_of_lt (Nat.lt_of_lt_of_le (Heap.lt_size e) (I.ok.cab x c hfn hc)))).trans (I.base.keep b o e n hb hx)
  ·obtain ⟨sl,e1⟩:=I.base.slot b o e n hb hx;exact ⟨sl,(hs.2 b (Nat.ne_of_lt (Nat.lt_of_lt_of_le (Heap.lt_size e) (I.ok.cab x c hfn hc)))).trans e1⟩
  ·obtain ⟨o',e1⟩:=I.base.there b o e hx;exact ⟨o',(hs.2 b (Nat.ne_of_lt (Nat.lt_of_lt_of_le (Heap.lt_size e) (I.ok.cab x c hfn hc)))).trans e1⟩
  ·by_cases hj:j=i
   ·subst hj;rw [hi] at e1;cases e1;rw [List.getElem?_set_self hiσ] at e2;cases e2;exact ⟨u,r,.inr ⟨.inl hk,c,hc,hc'⟩⟩
   ·rw [List.getElem?_set_ne (Ne.symm hj)] at e2;obtain ⟨u',r',q⟩:=hl j y v' e1 e2 e3;refine ⟨u',r',?_⟩;rcases q with q|⟨k,c',e,z'⟩
    ·exact .inl q
    ·refine .inr ⟨k,c',e,z'.sameBut hs ?_⟩;rintro rfl;exact hj (Uh hN e1 (I.ok.inj _ _ _ e hc ▸ hi))
  ·by_cases hcc:c'=c
   ·subst hcc;exact ⟨_,hc'⟩
   ·obtain ⟨w2,z2⟩:=I.cell y c' e;exact ⟨w2,z2.sameBut hs hcc⟩
  ·obtain ⟨e,n,ne,nf,d⟩:=I.pin p hp;refine ⟨(hs.2 p.1 ?_).trans e,n,ne,nf,d⟩;intro q;rw [q,hoc] at e;have q':oc=p.2:=Option.some.inj e;exact d w' (by rw [← q'];exact hocd)
theorem Og {M:Model}{A:Around}{E:Value->Shared->Prop}{i:Nat}{x:Str}{v:V}{u:Value}{Q:Unit->Shared->Prop}(I:Inv X pins σ H s) (hN:X.N.Nodup) (hi:X.N[i]?=some x) (hx:Loc X.env.scope x) (r:Cg v u)
  (h:∀ s',Inv X pins (σ.set i (some v)) H s'->Q () s') (hf:X.fn x=true\/X.env.scope.names.lookup x=some .local:=by first | exact .inl rfl | exact .inr rfl | assumption):wpAny M A (storeName X.env x u) Q E s :=
 aL I hN hi hx r (fun s' I' _=>h s' I') hf
theorem Inv.call' {s':Shared}{ch:List Addr}(I:Inv X pins σ H s) (ho:s'.os=s.os) (u:Un (frs X.stack) ch H H' s.heap s'.heap) (hok:HOk X.prog X.w H' s'.heap) (hg:AllBare s'.gens)
  (hch:∀ b∈ch,(b∈X.ex\/X.s₀.heap.objs.size<=b)/\b≠X.env.locals/\(∀ x c,X.env.cells.lookup x=some c->c≠b)/\∀ p∈X.pn++pins,p.1≠b):Inv X pins σ H' s':=by
 obtain ⟨h',g',d',t',o'⟩:=s';have e:o'=s.os:=ho;subst e;exact I.call (g':=g') (t':=t') (d':=d') u hok hg hch
end
noncomputable abbrev XK:=Value->Option Addr->Hp->Prop
noncomputable abbrev St:=List (Option V)
noncomputable abbrev VK:=V->Hp->Prop
noncomputable abbrev TE:=St->Hp->VK->Prop
noncomputable abbrev TT:=St->Hp->(Bool->Hp->Prop)->Prop
noncomputable abbrev TA:=St->Hp->(List V->Hp->Prop)->Prop
structure Ends where
 nx:St->Hp->Prop
 rt:VK
 bk:St->Hp->Prop:=fun _ _=>False
 ct:St->Hp->Prop:=fun _ _=>False
noncomputable abbrev TS:=Ends->St->Hp->Prop
noncomputable def EP (X:Cx) (pins:List (Addr×Obj)) (σ:St) (Q:VK) (u:Value) (s':Shared):Prop:=∃ v H',Inv X pins σ H' s'/\Cg v u/\Q v H'
noncomputable def TP (X:Cx) (pins:List (Addr×Obj)) (σ:St) (Q:Bool->Hp->Prop) (b:Bool) (s':Shared):Prop:=∃ H',Inv X pins σ H' s'/\Q b H'
noncomputable def AP (X:Cx) (pins:List (Addr×Obj)) (σ:St) (Q:List V->Hp->Prop) (us:List Value) (s':Shared):Prop:=∃ vs H',Inv X pins σ H' s'/\Vals vs us/\Q vs H'
noncomputable def SP (X:Cx) (pins:List (Addr×Obj)) (D:Ends) (f:Flow) (s':Shared):Prop :=
 match f with
 | .next=>∃ σ' H',Inv X pins σ' H' s'/\D.nx σ' H'
 | .brk=>∃ σ' H',Inv X pins σ' H' s'/\D.bk σ' H'
 | .cont=>∃ σ' H',Inv X pins σ' H' s'/\D.ct σ' H'
 | .ret u=>∃ v σ' H',Inv X pins σ' H' s'/\Cg v u/\D.rt v H'
noncomputable def PE (X:Cx) (e:Expr) (t:TE):Prop :=
 ∀ (pins:List (Addr×Obj)) (s:Shared) (σ:St) (H:Hp) (Q:VK),Inv X pins σ H s->t σ H Q->wpAny (model X.prog X.w) X.A (eval e X.env) (EP X pins σ Q) X.xe s
noncomputable def PT (X:Cx) (e:Expr) (t:TT):Prop :=
 ∀ (pins:List (Addr×Obj)) (s:Shared) (σ:St) (H:Hp) (Q:Bool->Hp->Prop),Inv X pins σ H s->t σ H Q->wpAny (model X.prog X.w) X.A (isTrue e X.env (eval e X.env)) (TP X pins σ Q) X.xe s
noncomputable def PW (X:Cx) (e:Expr) (t:TT):Prop :=
 ∀ (whole:Sem Value) (pins:List (Addr×Obj)) (s:Shared) (σ:St) (H:Hp) (Q:Bool->Hp->Prop),Inv X pins σ H s->t σ H Q->wpAny (model X.prog X.w) X.A (isTrue e X.env whole) (TP X pins σ Q) X.xe s
theorem PW.pt {X:Cx}{e:Expr}{t:TT}(h:PW X e t):PT X e t:=h _
noncomputable def PA (X:Cx) (es:List Expr) (t:TA):Prop :=
 ∀ (pos:Pos) (pins:List (Addr×Obj)) (s:Shared) (σ:St) (H:Hp) (Q:List V->Hp->Prop),Inv X pins σ H s->t σ H Q->wpAny (model X.prog X.w) X.A (spliced (backTo pos (starEach es X.env))) (AP X pins σ Q) X.xe s
noncomputable def PS (X:Cx) (st:Stmt) (t:TS):Prop :=
 ∀ (pins:List (Addr×Obj)) (s:Shared) (σ:St) (H:Hp) (D:Ends),Inv X pins σ H s->t D σ H->wpAny (model X.prog X.w) X.A (exec st X.env) (SP X pins D) X.xe s
noncomputable def PSs (X:Cx) (st:List Stmt) (t:TS):Prop :=
 ∀ (pins:List (Addr×Obj)) (s:Shared) (σ:St) (H:Hp) (D:Ends),Inv X pins σ H s->t D σ H->wpAny (model X.prog X.w) X.A (execs st X.env) (SP X pins D) X.xe s
theorem thn {α:Type}{t:Sem α}{Q Q':α->Shared->Prop}{M:Model}{A:Around}{E:Value->Shared->Prop}{s:Shared}(h:wpAny M A t Q E s) (hQ:∀ a s,Q a s->Q' a s):wpAny M A t Q' E s:=wpAny_mono h hQ fun _ _ x=>x
section
variable {X:Cx}
noncomputable def Afz (i:Nat):TE:=fun σ H Q=>∃ v,σ[i]?=some (some v)/\Q v H
noncomputable def tC (v:V):TE:=fun _ H Q=>Q v H
theorem R3 {i:Nat}{x:Str}{pos:Pos}(hN:X.N[i]?=some x) (hv:Vis X.env.scope x) (hd:(x==("__debug__":Str))=false:=by decide) (hcd:(x==("__classdict__":Str))=false:=by decide):PE X (.Name x pos) (Afz i):=by
 intro pins s σ H Q I h;obtain ⟨v,e,h⟩:=h;obtain ⟨m,hn,hl⟩:=I.loc;obtain ⟨u,r,l⟩:=hl i x v hN e hv;have fin:EP X pins σ Q u s:=⟨v,H,I,r,h⟩;rcases l with ⟨hk,hm⟩|⟨hk,c,hc,hcell⟩
 ·exact wpAny_Name (wpAny_loadName_local I.ok.kind hk hn hm fin) hd
 ·rcases hk with hk|hk
  ·exact wpAny_Name (wpAny_loadName_cell I.ok.kind hk hc hcell fin) hd
  ·exact wpAny_Name (wpAny_loadName_free I.ok.kind hk hc hcell fin hcd) hd
theorem yC {i j pos}:PE X (.Constant (.int i) j pos) (tC (.int i)):=fun _ _ _ H _ I h=>wpAny_Constant_int ⟨.int i,H,I.tok _,⟨_,rfl⟩,h⟩
theorem Ads {b j pos}:PE X (.Constant (.bool b) j pos) (tC (.bl b)):=fun _ _ _ H _ I h=>Constant_bool ⟨.bl b,H,I,rfl,h⟩
theorem yD {j pos}:PE X (.Constant .none j pos) (tC .non):=fun _ _ _ H _ I h=>Constant_none ⟨.non,H,I,rfl,h⟩
theorem yE {x j pos}:PE X (.Constant (.str x) j pos) (tC (.str x)):=fun _ _ _ H _ I h=>Calls.Constant_str ⟨.str x,H,I.tok _,⟨_,rfl⟩,h⟩
noncomputable def Gl (X:Cx) (x:Str):Prop:=X.env.kindOf x=some .globalImplicit
theorem Nm {E:Value->Shared->Prop}{pins:List (Addr×Obj)}{s:Shared}{σ:St}{H:Hp}{x:Str}{u:Value}{pos:Pos}{Q:Value->Shared->Prop}(I:Inv X pins σ H s) (hg:Gl X x) (hm:X.mg x=some u) (h:Q u s)
  (hd:(x==("__debug__":Str))=false:=by decide):wpAny (model X.prog X.w) X.A (eval (.Name x pos) X.env) Q E s :=
 Calls.Name_function_global I.ok.kind hg (Calls.loadGlobal_global (by rw [I.ok.glob];exact I.mod.glob.keeps I.bk) hm h) hd
theorem Jw {E:Value->Shared->Prop}{pins:List (Addr×Obj)}{s:Shared}{σ:St}{H:Hp}{x:Str}{u:Value}{pos:Pos}{Q:Value->Shared->Prop}(I:Inv X pins σ H s) (hg:Gl X x) (hm:X.mg x=none) (hv:bootBuiltins x=some u) (h:Q u s)
  (hn:x ≠ "__name__":=by decide) (hd:(x==("__debug__":Str))=false:=by decide):wpAny (model X.prog X.w) X.A (eval (.Name x pos) X.env) Q E s:=by
 obtain ⟨mb,h1,h2⟩:=I.mod.blt;exact Calls.Name_function_global I.ok.kind hg (Calls.loadGlobal_builtin (by rw [I.ok.glob];exact I.mod.glob.keeps I.bk) hm (by rw [I.ok.blt];exact h1.keeps I.bk) ((h2 x hn).trans hv) h) hd
theorem rB {x:Str}{v:V}{u:Value}{pos:Pos}(hg:Gl X x) (hm:X.mg x=some u) (r:Cg v u) (hd:(x==("__debug__":Str))=false:=by decide):PE X (.Name x pos) (tC v) :=
 fun _ _ _ H _ I h=>Nm I hg hm ⟨v,H,I,r,h⟩ hd
theorem rC {x:Str}{v:V}{u:Value}{pos:Pos}(hg:Gl X x) (hm:X.mg x=none) (hv:bootBuiltins x=some u) (r:Cg v u) (hn:x ≠ "__name__":=by decide) (hd:(x==("__debug__":Str))=false:=by decide):PE X (.Name x pos) (tC v) :=
 fun _ _ _ H _ I h=>Jw I hg hm hv ⟨v,H,I,r,h⟩ hn hd
variable {a b:Expr}{ta tb:TE}{pos:Pos}
theorem Cg.none_iff {x:V}{v:Value}(r:Cg x v):(v==Value.none)=decide (x=.non):=by
 cases x with
 | non=>cases r;rfl
 | bl _=>cases r;rfl
 | int _=>obtain ⟨t,rfl⟩:=r;rfl
 | str _=>obtain ⟨t,rfl⟩:=r;rfl
 | byt _=>obtain ⟨t,rfl⟩:=r;rfl
 | flt _=>obtain ⟨t,rfl⟩:=r;rfl
 | ref _=>cases r;rfl
 | ty _=>cases r;rfl
variable {tA tB':TT}{rest:List Expr}
noncomputable def Af0 (t u:TT):TT:=fun σ H Q=>t σ H fun c H1=>if c=true then u σ H1 Q else Q false H1
noncomputable def tOr (t u:TT):TT:=fun σ H Q=>t σ H fun c H1=>if c=true then Q true H1 else u σ H1 Q
noncomputable def Af1 (t:TT):TT:=fun σ H Q=>t σ H fun c H1=>Q (!c) H1
theorem rE (ha:PT X a tA):PW X (.BoolOp .And [a] pos) tA:=by
 intro wh pins s σ H Q I h;refine isTrue_and (thn (ha pins s σ H Q I h) fun c s1 e=>?_);cases c with
 | true=>exact isTrue_and_nil e
 | false=>exact e
theorem yF (ha:PT X a tA):PW X (.BoolOp .Or [a] pos) tA:=by
 intro wh pins s σ H Q I h;refine isTrue_or (thn (ha pins s σ H Q I h) fun c s1 e=>?_);cases c with
 | false=>exact isTrue_or_nil e
 | true=>exact e
theorem yG (ha:PT X a tA) (hb:PW X (.BoolOp .And (b::rest) pos) tB'):PW X (.BoolOp .And (a::b::rest) pos) (Af0 tA tB'):=by
 intro wh pins s σ H Q I h;refine isTrue_and (thn (ha pins s σ H _ I h) ?_);rintro c s1 ⟨H1,I1,q1⟩;cases c with
 | true=>exact hb wh pins s1 σ H1 Q I1 q1
 | false=>exact ⟨H1,I1,q1⟩
theorem Adt (ha:PT X a tA) (hb:PW X (.BoolOp .Or (b::rest) pos) tB'):PW X (.BoolOp .Or (a::b::rest) pos) (tOr tA tB'):=by
 intro wh pins s σ H Q I h;refine isTrue_or (thn (ha pins s σ H _ I h) ?_);rintro c s1 ⟨H1,I1,q1⟩;cases c with
 | true=>exact ⟨H1,I1,q1⟩
 | false=>exact hb wh pins s1 σ H1 Q I1 q1
theorem yH (ha:PT X a tA):PT X (.UnaryOp .Not a pos) (Af1 tA):=by
 intro pins s σ H Q I h;exact isTrue_not (ha pins s σ H (fun c H1=>Q (!c) H1) I h)
noncomputable def Adu (ta tb:TE):TE:=fun σ H Q=>ta σ H fun x H1=>∃ c,x=.bl c/\if c=true then tb σ H1 Q else Q (.bl false) H1
noncomputable def Af2 (ta tb:TE):TE:=fun σ H Q=>ta σ H fun x H1=>∃ c,x=.bl c/\if c=true then Q (.bl true) H1 else tb σ H1 Q
noncomputable def Adv (ta:TE):TE:=fun σ H Q=>ta σ H fun x H1=>∃ c,x=.bl c/\Q (.bl (!c)) H1
theorem yI {op}{t:TE}(h:PE X a t):PE X (.BoolOp op [a] pos) t:=fun pins s σ H Q I hw=>BoolOp_one (h pins s σ H Q I hw)
theorem yJ (ha:PE X a ta) (hb:PE X (.BoolOp .And (b::rest) pos) tb):PE X (.BoolOp .And (a::b::rest) pos) (Adu ta tb):=by
 intro pins s σ H Q I h;refine BoolOp_and (thn (ha pins s σ H _ I h) ?_);rintro v s1 ⟨x,H1,I1,r1,q1⟩;obtain ⟨c,rfl,q1⟩:=q1;cases r1;refine wpAny_truthy_bool ?_;cases c with
 | true=>exact hb pins s1 σ H1 Q I1 q1
 | false=>exact ⟨.bl false,H1,I1,rfl,q1⟩
theorem Adw (ha:PE X a ta) (hb:PE X (.BoolOp .Or (b::rest) pos) tb):PE X (.BoolOp .Or (a::b::rest) pos) (Af2 ta tb):=by
 intro pins s σ H Q I h;refine BoolOp_or (thn (ha pins s σ H _ I h) ?_);rintro v s1 ⟨x,H1,I1,r1,q1⟩;obtain ⟨c,rfl,q1⟩:=q1;cases r1;refine wpAny_truthy_bool ?_;cases c with
 | false=>exact hb pins s1 σ H1 Q I1 q1
 | true=>exact ⟨.bl true,H1,I1,rfl,q1⟩
theorem yK (ha:PE X a ta):PE X (.UnaryOp .Not a pos) (Adv ta):=by
 intro pins s σ H Q I h;refine UnaryOp_ (thn (ha pins s σ H _ I h) ?_);rintro v s1 ⟨x,H1,I1,r1,q1⟩;obtain ⟨c,rfl,q1⟩:=q1;cases r1;exact not_of (wpAny_truthy_bool ⟨.bl (!c),H1,I1,rfl,q1⟩)
noncomputable def tIf (t:TT) (ta tb:TE):TE:=fun σ H Q=>t σ H fun c H1=>if c=true then ta σ H1 Q else tb σ H1 Q
theorem eF {c:Expr}(hc:PT X c tA) (ha:PE X a ta) (hb:PE X b tb):PE X (.IfExp c a b pos) (tIf tA ta tb):=by
 intro pins s σ H Q I h;refine wpAny_IfExp (thn (hc pins s σ H _ I h) ?_);rintro d s1 ⟨H1,I1,q1⟩;cases d with
 | true=>exact ha pins s1 σ H1 Q I1 q1
 | false=>exact hb pins s1 σ H1 Q I1 q1
end
noncomputable def SqL (K:PySem.W.Frag) (H:Hp) (a:Addr) (xs:List V):Prop :=
 Rd H a (.lst xs) \/
  ∃ (o:Obj) (its:Array Value) (n:Nat),K.lookup a=some o/\o.cls=.type "list"/\o.dict=none/\o.data=.seq its n/\its.size<=sizeLine/\Vals xs its.toList
noncomputable def SqT (K:PySem.W.Frag) (H:Hp) (a:Addr) (xs:List V):Prop :=
 Rd H a (.tup xs) \/
  ∃ (o:Obj) (its:Array Value) (n:Nat),K.lookup a=some o/\o.cls=.type "tuple"/\o.dict=none/\o.data=.seq its n/\its.size<=sizeLine/\Vals xs its.toList
noncomputable def Af3:Value->Option V
 | .none=>some .non
 | .bool b=>some (.bl b)
 | .int i _=>some (.int i)
 | .str x _=>some (.str x)
 | .bytes b _=>some (.byt b)
 | .float b _=>some (.flt b)
 | .ref a=>some (.ref a)
 | .type n=>some (.ty n)
 | _=>none
theorem Cg.abs {x:V}{u:Value}(r:Cg x u):Af3 u=some x:=by
 cases x with
 | non=>cases r;rfl
 | bl _=>cases r;rfl
 | int _=>obtain ⟨t,rfl⟩:=r;rfl
 | str _=>obtain ⟨t,rfl⟩:=r;rfl
 | byt _=>obtain ⟨t,rfl⟩:=r;rfl
 | flt _=>obtain ⟨t,rfl⟩:=r;rfl
 | ref _=>cases r;rfl
 | ty _=>cases r;rfl
theorem Cg.inj {x y:V}{u:Value}(r:Cg x u) (q:Cg y u):x=y:=Option.some.inj (r.abs.symm.trans q.abs)
theorem Vals.inj {xs ys:List V}{us:List Value}(a:Vals xs us) (b:Vals ys us):xs=ys:=by
 induction a generalizing ys with
 | nil=>cases b;rfl
 | cons r t ih =>
  cases b with
  | cons r' t'=>rw [r.inj r',ih t']
section
variable {X:Cx}{pins:List (Addr×Obj)}{σ:St}{H:Hp}{s:Shared}{a:Addr}{xs ys:List V}
theorem Inv.list (I:Inv X pins σ H s) (h:SqL X.K H a xs):∃ its:List Value,Vals xs its/\PlainL s.heap a its.toArray/\xs.length<=sizeLine:=by
 rcases h with h|⟨o,its,n,hk,hc,hd,hs,hz,r⟩
 ·obtain ⟨z,its,n,r,e⟩:=h.ok I.hok;exact ⟨its,r,⟨_,n,e,rfl,rfl,rfl⟩,z⟩
 ·refine ⟨its.toList,r,⟨o,n,I.kIn a o hk,hc,hd,by simpa using hs⟩,?_⟩;have e:=r.length;simp only [Array.length_toList] at e;omega
theorem Inv.tuple (I:Inv X pins σ H s) (h:SqT X.K H a xs):∃ its:List Value,Vals xs its/\IsTup s.heap a its.toArray/\xs.length<=sizeLine:=by
 rcases h with h|⟨o,its,n,hk,hc,hd,hs,hz,r⟩
 ·obtain ⟨z,its,r,p⟩:=h.ok I.hok;exact ⟨its,r,p.to,z⟩
 ·refine ⟨its.toList,r,⟨o,I.kIn a o hk,hc,n,by simpa using hs⟩,?_⟩;have e:=r.length;simp only [Array.length_toList] at e;omega
theorem Inv.tupleP (I:Inv X pins σ H s) (h:SqT X.K H a xs):∃ its:List Value,Vals xs its/\Le s.heap a its.toArray/\xs.length<=sizeLine:=by
 rcases h with h|⟨o,its,n,hk,hc,hd,hs,hz,r⟩
 ·obtain ⟨z,its,r,p⟩:=h.ok I.hok;exact ⟨its,r,p,z⟩
 ·refine ⟨its.toList,r,⟨o,I.kIn a o hk,hc,hd,n,by simpa using hs⟩,?_⟩;have e:=r.length;simp only [Array.length_toList] at e;omega
theorem Inv.list_inj (I:Inv X pins σ H s) (h:SqL X.K H a xs) (h':SqL X.K H a ys):xs=ys:=by
 obtain ⟨its,r,⟨o,n,e,_,_,d⟩,_⟩:=I.list h;obtain ⟨its',r',⟨o',n',e',_,_,d'⟩,_⟩:=I.list h';rw [e] at e';cases e';rw [d] at d';injection d' with d1 _
 have:its=its':=by simpa using congrArg Array.toList d1
 subst this;exact r.inj r'
theorem Inv.tuple_inj (I:Inv X pins σ H s) (h:SqT X.K H a xs) (h':SqT X.K H a ys):xs=ys:=by
 obtain ⟨its,r,⟨o,e,_,n,d⟩,_⟩:=I.tuple h;obtain ⟨its',r',⟨o',e',_,n',d'⟩,_⟩:=I.tuple h';rw [e] at e';cases e';rw [d] at d';injection d' with d1 _
 have:its=its':=by simpa using congrArg Array.toList d1
 subst this;exact r.inj r'
end
noncomputable abbrev Cx.wish (X:Cx) (E:Value->Shared->Prop):Cx:={ X with xe:=E }
noncomputable abbrev Cx.nox (X:Cx):Cx:=X.wish fun _ _=>False
theorem Cx.Ok.wish {X:Cx}(ok:X.Ok) (E:Value->Shared->Prop):(X.wish E).Ok :=
 ⟨ok.mod,ok.kind,ok.glob,ok.blt,ok.above,ok.inj,ok.has,ok.cab,ok.hd,ok.frames,ok.stk,ok.exf,ok.bs,ok.bsz,ok.noex,ok.exfs,ok.funs,ok.frf⟩
theorem Cx.Ok.unwish {X:Cx}{E:Value->Shared->Prop}(ok:(X.wish E).Ok):X.Ok :=
 ⟨ok.mod,ok.kind,ok.glob,ok.blt,ok.above,ok.inj,ok.has,ok.cab,ok.hd,ok.frames,ok.stk,ok.exf,ok.bs,ok.bsz,ok.noex,ok.exfs,ok.funs,ok.frf⟩
section
variable {X:Cx}{pins:List (Addr×Obj)}{σ:St}{H:Hp}{s:Shared}{E:Value->Shared->Prop}
theorem Inv.wish (I:Inv X pins σ H s) (E:Value->Shared->Prop):Inv (X.wish E) pins σ H s:=⟨I.ok.wish E,I.os,I.bare,I.base,I.loc,I.cell,I.free,I.freeC,I.pin,I.hok,I.len⟩
theorem Inv.unwish (I:Inv (X.wish E) pins σ H s):Inv X pins σ H s:=⟨I.ok.unwish,I.os,I.bare,I.base,I.loc,I.cell,I.free,I.freeC,I.pin,I.hok,I.len⟩
theorem SP.unwish {D:Ends}{f:Flow}{s':Shared}(h:SP (X.wish E) pins D f s'):SP X pins D f s':=by
 cases f with
 | next=>obtain ⟨σ',H',I,q⟩:=h;exact ⟨σ',H',I.unwish,q⟩
 | brk=>obtain ⟨σ',H',I,q⟩:=h;exact ⟨σ',H',I.unwish,q⟩
 | cont=>obtain ⟨σ',H',I,q⟩:=h;exact ⟨σ',H',I.unwish,q⟩
 | ret u=>obtain ⟨v,σ',H',I,r,q⟩:=h;exact ⟨v,σ',H',I.unwish,r,q⟩
theorem PSs.nox {st:List Stmt}{t:TS}(h:PSs X.nox st t):PSs X st t:=fun pins s σ H D I hw =>
 wpAny_mono (h pins s σ H D (I.wish _) hw) (fun _ _ q=>q.unwish) fun _ _ z=>False.elim z
end
section
variable {X:Cx}{st:Stmt}{rest:List Stmt}{t u:TS}{e:Expr}{te:TE}{pos:Pos}
noncomputable def xH:TS:=fun D σ H=>D.nx σ H
noncomputable def Af4 (t u:TS):TS:=fun D σ H=>t { D with nx:=u D } σ H
theorem rF:PSs X [] xH:=fun _ _ σ H _ I h=>wpAny_execs_nil ⟨σ,H,I,h⟩
theorem eG (h1:PS X st t) (h2:PSs X rest u):PSs X (st::rest) (Af4 t u):=by
 intro pins s σ H D I h;refine wpAny_execs_cons (thn (h1 pins s σ H { D with nx:=u D } I h) fun f s1 q=>?_);cases f with
 | next =>
  obtain ⟨σ',H',I',q⟩:=q;exact h2 pins s1 σ' H' D I' q
 | ret v=>exact q
 | brk=>exact q
 | cont=>exact q
theorem rG (h1:PS X st t):PSs X [st] t:=by
 intro pins s σ H D I h;refine wpAny_execs_cons (thn (h1 pins s σ H D I h) fun f s1 q=>?_);cases f with
 | next=>exact wpAny_execs_nil q
 | ret v=>exact q
 | brk=>exact q
 | cont=>exact q
noncomputable def yL:TS:=fun D σ H=>D.bk σ H
noncomputable def Adx:TS:=fun D σ H=>D.ct σ H
theorem rH:PS X (.Pass pos) xH:=fun _ _ σ H _ I h=>wpAny_Pass ⟨σ,H,I,h⟩
theorem eN:PS X (.Break pos) yL:=fun _ _ σ H _ I h=>wpAny_Break ⟨σ,H,I,h⟩
theorem Ui:PS X (.Continue pos) Adx:=fun _ _ σ H _ I h=>wpAny_Continue ⟨σ,H,I,h⟩
theorem Inv.quiet {pins:List (Addr×Obj)}{σ:St}{H:Hp}{s:Shared}(I:Inv X pins σ H s):interactive X.env=false:=by simp [interactive,I.ok.kind]
noncomputable def Ady (te:TE):TS:=fun D σ H=>te σ H fun _ H1=>D.nx σ H1
theorem rJ (he:PE X e te) (hs:swapsWith e none pos.line X.env=pure false:=by rfl):PS X (.Expr e pos) (Ady te):=by
 intro pins s σ H D I h;exact wpAny_Expr_any (thn (he pins s σ H _ I h) fun v s1 ⟨x,H1,I1,r1,q1⟩=>⟨σ,H1,I1,q1⟩) I.quiet hs
noncomputable def Af5 (te:TE):TS:=fun D σ H=>te σ H D.rt
theorem yM (he:PE X e te):PS X (.Return (some e) pos) (Af5 te):=by
 intro pins s σ H D I h;refine wpAny_Return_some (thn (he pins s σ H _ I h) ?_);rintro v s1 ⟨x,H1,I1,r1,q1⟩;exact ⟨x,σ,H1,I1,r1,q1⟩
noncomputable def Adz:TS:=fun D _ H=>D.rt .non H
theorem rK:PS X (.Return none pos) Adz:=fun _ _ σ H _ I h=>wpAny_Return_none ⟨.non,σ,H,I,rfl,h⟩
noncomputable def Af6 (c:TT) (t u:TS):TS:=fun D σ H=>c σ H fun b H1=>if b=true then t D σ H1 else u D σ H1
theorem Ad0 {c:Expr}{a b:List Stmt}{tc:TT}(hc:PT X c tc) (ha:PSs X a t) (hb:PSs X b u):PS X (.If c a b pos) (Af6 tc t u):=by
 intro pins s σ H D I h;refine wpAny_If (thn (hc pins s σ H _ I h) ?_);rintro d s1 ⟨H1,I1,q1⟩;cases d with
 | true=>exact ha pins s1 σ H1 D I1 q1
 | false=>exact hb pins s1 σ H1 D I1 q1
end
noncomputable abbrev TG:=V->St->Hp->(St->Hp->Prop)->Prop
noncomputable abbrev TGs:=List V->St->Hp->(St->Hp->Prop)->Prop
noncomputable def PG (X:Cx) (target:Expr) (t:TG):Prop :=
 ∀ (pins:List (Addr×Obj)) (s:Shared) (σ:St) (H:Hp) (v:V) (u:Value) (Q:St->Hp->Prop),Inv X pins σ H s->Cg v u->t v σ H Q ->
  wpAny (model X.prog X.w) X.A (assign target X.env u) (fun _ s'=>∃ σ' H',Inv X pins σ' H' s'/\Q σ' H') X.xe s
noncomputable def PGs (X:Cx) (ts:List Expr) (t:TGs):Prop :=
 ∀ (pins:List (Addr×Obj)) (s:Shared) (σ:St) (H:Hp) (vs:List V) (us:List Value) (Q:St->Hp->Prop),Inv X pins σ H s->Vals vs us->t vs σ H Q ->
  wpAny (model X.prog X.w) X.A (assignInOrder ((assignEach ts X.env).map (·.2)) us) (fun _ s'=>∃ σ' H',Inv X pins σ' H' s'/\Q σ' H') X.xe s
noncomputable abbrev yN:=V->V->V->Hp->(Hp->Prop)->Prop
noncomputable def Ad1 (X:Cx) (t:yN):Prop :=
 ∀ (pins:List (Addr×Obj)) (s:Shared) (σ:St) (H:Hp) (o i v:V) (ov iv u:Value) (Q:Hp->Prop),Inv X pins σ H s->Cg o ov->Cg i iv->Cg v u->t o i v H Q ->
  wpAny (model X.prog X.w) X.A (setItem ov iv u) (fun _ s'=>∃ H',Inv X pins σ H' s'/\Q H') X.xe s
section
variable {X:Cx}{pos:Pos}
noncomputable def eO (i:Nat):TG:=fun v σ H Q=>Q (σ.set i (some v)) H
theorem Yk {i:Nat}{x:Str}(hN:X.N.Nodup) (hi:X.N[i]?=some x) (hx:Loc X.env.scope x) (hf:X.fn x=true\/X.env.scope.names.lookup x=some .local:=by first | exact .inl rfl | exact .inr rfl | assumption):PG X (.Name x pos) (eO i):=by
 intro pins s σ H v u Q I r h;exact wpAny_assign_Name (Og I hN hi hx r (fun s' I'=>⟨_,H,I',h⟩) hf)
noncomputable def Ad2:TGs:=fun vs σ H Q=>vs=[]/\Q σ H
noncomputable def xJ (t:TG) (u:TGs):TGs:=fun vs σ H Q=>∃ v r,vs=v::r/\t v σ H fun σ' H'=>u r σ' H' Q
theorem rM:PGs X [] Ad2:=by
 intro pins s σ H vs us Q I r h;obtain ⟨e,h⟩:=h;subst e;cases r;exact assignInOrder_nil ⟨σ,H,I,h⟩
theorem eU {e:Expr}{es:List Expr}{t:TG}{u:TGs}(h1:PG X e t) (h2:PGs X es u)
  (hs:(assignEach (e::es) X.env).map (·.2)=assign e X.env::(assignEach es X.env).map (·.2):=by rfl):PGs X (e::es) (xJ t u):=by
 intro pins s σ H vs us Q I r h;obtain ⟨v,vr,e1,h⟩:=h;subst e1;cases r with
 | cons r rr =>
  rw [hs];refine assignInOrder_cons (thn (h1 pins s σ H _ _ _ I r h) ?_);rintro _ s1 ⟨σ1,H1,I1,q1⟩;exact h2 pins s1 σ1 H1 _ _ Q I1 rr q1
noncomputable def Af7 (K:PySem.W.Frag) (n:Nat) (t:TGs):TG:=fun v σ H Q=>∃ a xs,v=.ref a/\SqT K H a xs/\xs.length=n/\t xs σ H Q
theorem yO {es:List Expr}{k:Nat}{t:TGs}{n:Nat}(hc:X.calm=true) (h:PGs X es t)
  (hn:(assignEach es X.env).length=n:=by rfl) (hst:(assignEach es X.env).findIdx? (·.1)=none:=by rfl):PG X (.Tuple es k pos) (Af7 X.K n t):=by
 intro pins s σ H v u Q I r hw;obtain ⟨a,xs,e1,hq,hl,hw⟩:=hw;subst e1;cases r;obtain ⟨its,rv,ht,hz⟩:=I.tuple hq;refine assign_Tuple_tuple (I.ok.hd hc) ht (by simp [hn,← hl,rv.length]) hst fun h' hx=>?_
 have I1:Inv X pins σ H { s with heap:=h' }:=I.kept (t':=s.toks) fun b o e=>hx b o (Nat.ne_of_lt (Heap.lt_size e)) e
 exact h pins _ σ H xs _ Q I1 (by simpa using rv) hw
noncomputable def Af8 (to ti:TE) (t:yN):TG:=fun v σ H Q=>to σ H fun o H1=>ti σ H1 fun i H2=>t o i v H2 fun H3=>Q σ H3
theorem yP {o i:Expr}{to ti:TE}{t:yN}(ho:PE X o to) (hi:PE X i ti) (hs:Ad1 X t)
  (ha:∀ v,assign (.Subscript o i pos) X.env v=(do
   let ov ← holding [v] (eval o X.env)
   let iv ← holding [v,ov] (eval i X.env)
   standAt pos
   holding [v,ov,iv] (setItem ov iv v)
   release [v,ov,iv] []):=by intro _;rfl):PG X (.Subscript o i pos) (Af8 to ti t):=by
 intro pins s σ H v u Q I r h;rw [ha];refine wpAny_bind (wpAny_holding (thn (ho pins s σ H _ I h) ?_));rintro ov s1 ⟨x,H1,I1,r1,q1⟩;refine wpAny_bind (wpAny_holding (thn (hi pins s1 σ H1 _ I1 q1) ?_));rintro iv s2 ⟨y,H2,I2,r2,q2⟩;refine wpAny_bind (wpAny_standAt (wpAny_bind (wpAny_holding (thn (hs pins s2 σ H2 x y v ov iv u _ I2 r1 r2 r q2) ?_))));rintro _ s3 ⟨H3,I3,q3⟩;exact wpAny_release ⟨σ,H3,I3,q3⟩
noncomputable def yQ (te:TE) (g:TG):TS:=fun D σ H=>te σ H fun x H1=>g x σ H1 D.nx
theorem yR {tg e:Expr}{te:TE}{g:TG}(he:PE X e te) (hg:PG X tg g) (hs:swapsWithSole [tg] e pos.line X.env=pure false:=by rfl) (hw:swappedStores [tg] e X.env=pure none:=by rfl)
  (h1:(assignEach [tg] X.env).map (·.2)=[assign tg X.env]:=by rfl):PS X (.Assign [tg] e pos) (yQ te g):=by
 intro pins s σ H D I h;refine wpAny_Assign_stores (thn (he pins s σ H _ I h) ?_) hs hw;rintro v s1 ⟨x,H1,I1,r1,q1⟩;rw [h1];exact thn (hg pins s1 σ H1 x v _ I1 r1 q1) fun _ s2 q=>q
noncomputable def Af9 (i j:Nat) (ta:TA):TS:=fun D σ H=>ta σ H fun vs H1=>∃ v w,vs=[v,w]/\D.nx ((σ.set i (some v)).set j (some w)) H1
theorem yS {i j:Nat}{x y:Str}{a b:Expr}{ta:TA}{px py pt:Pos}{kt k2 pt2}(hc:X.calm=true) (hN:X.N.Nodup) (hi:X.N[i]?=some x) (hj:X.N[j]?=some y) (hij:i≠j)
  (hx:X.env.scope.names.lookup x=some .local) (hy:X.env.scope.names.lookup y=some .local) (ha:PA X [a,b] ta)
  (hw:swappedStores [.Tuple [.Name x px,.Name y py] kt pt] (.Tuple [a,b] k2 pt2) X.env=pure (some [x,y]))
  (hs:swapsWithSole [.Tuple [.Name x px,.Name y py] kt pt] (.Tuple [a,b] k2 pt2) pos.line X.env=pure false:=by rfl) :
  PS X (.Assign [.Tuple [.Name x px,.Name y py] kt pt] (.Tuple [a,b] k2 pt2) pos) (Af9 i j ta):=by
 intro pins s σ H D I h;rw [exec_Assign_arm];refine wpAny_bind (wpAny_standAt ?_);rw [hs];refine wpAny_bind (wpAny_pure ?_);rw [if_neg (by decide)];refine wpAny_bind (Tuple_ (thn (ha _ pins s σ H _ I h) ?_));rintro us s1 ⟨vs,H1,I1,r1,q1⟩;obtain ⟨v,w,e1,q1⟩:=q1;subst e1;obtain ⟨u1,u2,rfl,rv,rw'⟩:∃ u1 u2,us=[u1,u2]/\Cg v u1/\Cg w u2:=by
  cases r1 with
  | cons p q =>
   cases q with
   | cons p' q' =>
    cases q';exact ⟨_,_,rfl,p,p'⟩
 refine wpAny_newObj_type ?_ (by show 2<=sizeLine;decide)
 have I2:Inv X pins σ H1 { s1 with heap:=s1.heap.push { cls:=.type "tuple",data:=.seq [u1,u2].toArray } }:=I1.kept (t':=s1.toks) fun b o e=>Heap.get?_push_of_some _ e
 rw [hw];refine wpAny_bind (wpAny_pure ?_)
 show wpAny (model X.prog X.w) X.A (do rule "assign.swapped-stores";let items ← unpackItems (.ref s1.heap.objs.size) 2 none;assignInOrder [fun v=>bindName X.env y v,fun v=>bindName X.env x v] items.reverse;pure Flow.next) _ _ _;refine wpAny_bind (wpAny_rule (wpAny_bind (unpackItems_tuple (items:=#[u1,u2]) (I.ok.hd hc) (IsTup.new s1.heap _) fun h' hx'=>?_)));have I3:=I2.kept (h':=h') (t':=s1.toks) fun b o e=>hx' b o (Nat.ne_of_lt (Heap.lt_size e)) e
 show wpAny _ _ (assignInOrder [fun v=>bindName X.env y v,fun v=>bindName X.env x v] [u2,u1] >>= fun _=>pure Flow.next) _ _ _;refine wpAny_bind (assignInOrder_cons (wpAny_bindName (Og I3 hN hj (.inl hy) rw' (fun s2 I4=>?_) (.inr hy))));refine assignInOrder_cons (wpAny_bindName (Og I4 hN hi (.inl hx) rv (fun s3 I5=>assignInOrder_nil (wpAny_pure ?_)) (.inr hx)));rw [List.set_comm _ _ (Ne.symm hij)] at I5;exact ⟨_,H1,I5,q1⟩
end
section
variable {X:Cx}{pos:Pos}
end
structure It where
 go:Nat->Hp->Prop
 yld:Nat->Hp->V->Hp->Prop
 stop:Nat->Hp->Prop
noncomputable def Kf (X:Cx) (pins:List (Addr×Obj)) (H:Hp) (b:Addr):Prop :=
 H b=none/\b≠X.env.locals/\b ∉ X.fs/\(b∈X.ex\/X.s₀.heap.objs.size<=b)/\(∀ x c,X.env.cells.lookup x=some c->c≠b)/\∀ p∈X.pn++pins,p.1≠b
theorem Inv.fpOk {X:Cx}{pins:List (Addr×Obj)}{σ:St}{H H':Hp}{s:Shared}{b:Addr}(I:Inv X pins σ H s) (hb:s.heap.objs.size<=b) (hn:H' b=none):Kf X pins H' b:=by
 refine ⟨hn,Nat.ne_of_gt (Nat.lt_of_lt_of_le I.lt hb),I.nofs hb,.inr (Nat.le_trans I.sz hb),fun x c e z=>?_,fun p hp z=>?_⟩
 ·obtain ⟨v,q⟩:=I.cell x c e;exact absurd (Nat.lt_of_lt_of_le q.lt (by rw [z];exact hb)) (Nat.lt_irrefl _)
 ·exact absurd (Nat.lt_of_lt_of_le (Heap.lt_size (I.pin p hp).1) (by rw [z];exact hb)) (Nat.lt_irrefl _)
structure Turn (P:Program) (w:World) (K:PySem.W.Frag) (tg:Expr) (J:It) (fp:List Addr) (it:Addr) (tn:Nat->Heap->Prop):Prop where
 mem:it∈fp
 obj:∀ i h,tn i h->∀ b∈fp,∃ o,h.get? b=some o/\∀ v,o.data≠.cell v
 keep:∀ i h h',tn i h->(∀ b∈fp,∀ o,h.get? b=some o->h'.get? b=some o)->tn i h'
 item:∀ (X:Cx),X.prog=P->X.w=w->X.K=K->X.calm=true->∀ (i:Nat) (pins:List (Addr×Obj)) (s:Shared) (σ:St) (H:Hp) (E:Value->Shared->Prop),Inv X pins σ H s->(∀ b∈fp,Kf X pins H b)->tn i s.heap->J.go i H ->
  wpAny (model P w) X.A (pyNext (.ref it)) (fun r s1=>∃ u,r=some u /\
   wpAny (model P w) X.A (letOwnedTupleGo tg (.ref it) u) (fun _ s2=>∃ x H',Inv X pins σ H' s2/\Cg x u/\J.yld i H x H'/\tn (i+1) s2.heap/\∀ b∈fp,H' b=none) E s1) E s
 done:∀ (X:Cx),X.prog=P->X.w=w->X.K=K->X.calm=true->∀ (i:Nat) (pins:List (Addr×Obj)) (s:Shared) (σ:St) (H:Hp) (E:Value->Shared->Prop),Inv X pins σ H s->(∀ b∈fp,Kf X pins H b)->tn i s.heap->J.stop i H ->
  wpAny (model P w) X.A (pyNext (.ref it)) (fun r s1=>r=none/\Inv X pins σ H s1) E s
 self:∀ (A:Around) (i:Nat) (s:Shared) (Q:Value->Shared->Prop) (E:Value->Shared->Prop),tn i s.heap->Q (.ref it) s->wpAny (model P w) A (pyIter (.ref it)) Q E s
noncomputable abbrev TI:=St->Hp->(It->Hp->Prop)->Prop
noncomputable def PIE (X:Cx) (pins:List (Addr×Obj)) (σ:St) (tg:Expr) (R:It->Hp->Prop) (itv:Value) (s2:Shared):Prop :=
 ∃ (it:Addr) (fp:List Addr) (tn:Nat->Heap->Prop) (J:It) (H':Hp),itv=.ref it/\Inv X pins σ H' s2/\Turn X.prog X.w X.K tg J fp it tn/\tn 0 s2.heap/\(∀ b∈fp,Kf X pins H' b)/\R J H'
noncomputable def PI (X:Cx) (tg iter:Expr) (wi:TI):Prop :=
 ∀ (pins:List (Addr×Obj)) (s:Shared) (σ:St) (H:Hp) (R:It->Hp->Prop),Inv X pins σ H s->wi σ H R ->
  wpAny (model X.prog X.w) X.A (eval iter X.env) (fun v s1=>wpAny (model X.prog X.w) X.A (pyIter v) (PIE X pins σ tg R) X.xe s1) X.xe s
theorem eV {M:Model}{A:Around}{E:Value->Shared->Prop}{s:Shared}{tg:Expr}{it:Addr}{u:Value}{o:Obj}{n:String}{vs:Array Value}{Q:Unit->Shared->Prop}(ho:s.heap.get? it=some o) (hc:o.cls=.type n) (hd:o.data=.fields vs)
    (hn:["enumerate", "zip", "dict_itemiterator", "dict_reverseitemiterator", "odict_iterator", "itertools.zip_longest", "itertools.pairwise"].contains n=false) (hQ:Q () s):wpAny M A (letOwnedTupleGo tg (.ref it) u) Q E s:=by
  unfold letOwnedTupleGo;cases tg <;> first
    | exact wpAny_pure hQ
    | (cases u <;> first
        | exact wpAny_pure hQ
        | (refine wpAny_bind (wpAny_load ho ?_)
           rw [hc,hd]
           show wpAny M A (if (["enumerate", "zip", "dict_itemiterator", "dict_reverseitemiterator", "odict_iterator", "itertools.zip_longest", "itertools.pairwise"].contains n&&vs[0]?==some (rawInt _))=true then _ else _) Q E s;rw [if_neg (by intro h;rw [hn,Bool.false_and] at h;cases h)]
           exact wpAny_pure hQ))
noncomputable def Itl (K:PySem.W.Frag) (a:Addr):It :=
 ⟨fun i H=>∃ xs x,SqL K H a xs/\xs[i]?=some x,fun i H x H'=>H'=H/\∀ xs,SqL K H a xs->xs[i]?=some x,fun i H=>∃ xs,SqL K H a xs/\xs.length<=i⟩
noncomputable def Itt (K:PySem.W.Frag) (a:Addr):It :=
 ⟨fun i H=>∃ xs x,SqT K H a xs/\xs[i]?=some x,fun i H x H'=>H'=H/\∀ xs,SqT K H a xs->xs[i]?=some x,fun i H=>∃ xs,SqT K H a xs/\xs.length<=i⟩
noncomputable def Itr (lo:Int) (n:Nat):It:=⟨fun i _=>i < n,fun i H x H'=>H'=H/\x=.int (lo+i),fun i _=>n<=i⟩
theorem aM {P:Program}{w:World}{K:PySem.W.Frag}{tg:Expr}(a it:Addr):Turn P w K tg (Itl K a) [it] it (fun i h=>h.IsListIter it a i) where
 mem:=by simp
 obj:=fun i h st b hb=>by
  have e:b=it:=by simpa using hb
  subst e;obtain ⟨o,e,c,d⟩:=st;exact ⟨o,e,fun v z=>by rw [d] at z;cases z⟩
 keep:=fun i h h' st k=>st.at fun o e=>k it (by simp) o e
 item:=by
  intro X hP hw hK hc i pins s σ H E I hf st hg;subst hP hw hK;obtain ⟨xs,x,hq,hx⟩:=hg;obtain ⟨its,rv,p,hz⟩:=I.list hq;obtain ⟨u,hu,ru⟩:=rv.get hx;obtain ⟨f0,f1,f2,f3,f4,f5⟩:=hf it (by simp);refine wpAny_pyNext_list_item st p.isList (x:=u) (by simpa using hu) fun h' st' sb=>?_
  have I1:Inv X pins σ H { s with heap:=h' }:=I.turned (t':=s.toks) (fun b o hb e=>(sb.2 b hb).trans e) f0 f1 f3 f4 f5;obtain ⟨o,e,c,d⟩:=id st';exact ⟨u,rfl,eV (s:={ s with heap:=h' }) e c d (by decide) ⟨x,H,I1,ru,⟨rfl,fun ys hy=>by rw [I.list_inj hy hq];exact hx⟩,st',fun b hb=>(hf b hb).1⟩⟩
 done:=by
  intro X hP hw hK hc i pins s σ H E I hf st hg;subst hP hw hK;obtain ⟨xs,hq,hx⟩:=hg;obtain ⟨its,rv,p,hz⟩:=I.list hq;obtain ⟨f0,f1,f2,f3,f4,f5⟩:=hf it (by simp);have hl:=rv.length;exact wpAny_pyNext_list_end (I.ok.hd hc) st p.isList (by simp;omega) fun h' eb=>⟨rfl,I.turned (t':=s.toks) (fun b o hb e=>eb b o hb e) f0 f1 f3 f4 f5⟩
 self:=fun _ _ _ _ _ st h=>wpAny_pyIter_listiter st h
theorem V8 {P:Program}{w:World}{K:PySem.W.Frag}{tg:Expr}(a it:Addr):Turn P w K tg (Itt K a) [it] it (fun i h=>h.IsTupleIter it a i) where
 mem:=by simp
 obj:=fun i h st b hb=>by
  have e:b=it:=by simpa using hb
  subst e;obtain ⟨o,e,c,d⟩:=st;exact ⟨o,e,fun v z=>by rw [d] at z;cases z⟩
 keep:=fun i h h' st k=>st.at fun o e=>k it (by simp) o e
 item:=by
  intro X hP hw hK hc i pins s σ H E I hf st hg;subst hP hw hK;obtain ⟨xs,x,hq,hx⟩:=hg;obtain ⟨its,rv,p,hz⟩:=I.tuple hq;obtain ⟨u,hu,ru⟩:=rv.get hx;obtain ⟨f0,f1,f2,f3,f4,f5⟩:=hf it (by simp);refine wpAny_pyNext_tuple_item st (show s.heap.IsTuple a its.toArray from p) (x:=u) (by simpa using hu) fun h' st' sb=>?_
  have I1:Inv X pins σ H { s with heap:=h' }:=I.turned (t':=s.toks) (fun b o hb e=>(sb.2 b hb).trans e) f0 f1 f3 f4 f5;obtain ⟨o,e,c,d⟩:=id st';exact ⟨u,rfl,eV (s:={ s with heap:=h' }) e c d (by decide) ⟨x,H,I1,ru,⟨rfl,fun ys hy=>by rw [I.tuple_inj hy hq];exact hx⟩,st',fun b hb=>(hf b hb).1⟩⟩
 done:=by
  intro X hP hw hK hc i pins s σ H E I hf st hg;subst hP hw hK;obtain ⟨xs,hq,hx⟩:=hg;obtain ⟨its,rv,p,hz⟩:=I.tuple hq;obtain ⟨f0,f1,f2,f3,f4,f5⟩:=hf it (by simp);have hl:=rv.length;exact wpAny_pyNext_tuple_end (I.ok.hd hc) st (show s.heap.IsTuple a its.toArray from p) (by simp;omega) fun h' eb=>⟨rfl,I.turned (t':=s.toks) (fun b o hb e=>eb b o hb e) f0 f1 f3 f4 f5⟩
 self:=fun _ _ _ _ _ st h=>wpAny_pyIter_tupleiter st h
theorem V9 {P:Program}{w:World}{K:PySem.W.Frag}{tg:Expr}(it:Addr) (lo:Int) (n:Nat):Turn P w K tg (Itr lo n) [it] it (fun i h=>IsRangeIter h it (lo+(i:Nat) * 1) ((n:Int) - (i:Nat)) 1) where
 mem:=by simp
 obj:=fun i h st b hb=>by
  have e:b=it:=by simpa using hb
  subst e
  exact ⟨_,st,fun v z=>by
   have z':Data.fields _=Data.cell v:=z
   cases z'⟩
 keep:=fun i h h' st k=>k it (by simp) _ st
 item:=by
  intro X hP hw hK hc i pins s σ H E I hf st hg;subst hP hw hK;obtain ⟨f0,f1,f2,f3,f4,f5⟩:=hf it (by simp);have W:=Walks.range (prog:=X.prog) (w:=X.w) (I.ok.hd hc) it lo 1 n;refine W.item i s _ _ hg st fun v h' tk hv st' kk=>?_
  obtain ⟨t,rfl⟩:=hv;have I1:Inv X pins σ H { s with heap:=h',toks:=tk }:=I.turned (fun b o hb e=>kk b o (by simpa using hb) e) f0 f1 f3 f4 f5
  refine ⟨_,rfl,eV (s:={ s with heap:=h',toks:=tk }) (n := "range_iterator") st' rfl rfl (by decide) ⟨.int (lo+i),H,I1,⟨t,?_⟩,⟨rfl,rfl⟩,st',fun b hb=>(hf b hb).1⟩⟩;rw [Int.mul_one]
 done:=by
  intro X hP hw hK hc i pins s σ H E I hf st hg;subst hP hw hK;obtain ⟨f0,f1,f2,f3,f4,f5⟩:=hf it (by simp);exact wpAny_pyNext_range_end (I.ok.hd hc) st (by have:n<=i:=hg;omega) fun h' eb=>⟨rfl,I.turned (t':=s.toks) (fun b o hb e=>eb b o hb e) f0 f1 f3 f4 f5⟩
 self:=fun _ _ _ _ _ st h=>wpAny_pyIter_rangeiter st h
section
variable {X:Cx}{tg:Expr}
noncomputable def Ad3 (K:PySem.W.Frag) (tl:TE):TI:=fun σ H R=>tl σ H fun x H1=>∃ a,x=.ref a/\(∃ xs,SqL K H1 a xs)/\R (Itl K a) H1
noncomputable def Aga (K:PySem.W.Frag) (tl:TE):TI:=fun σ H R=>tl σ H fun x H1=>∃ a,x=.ref a/\(∃ xs,SqT K H1 a xs)/\R (Itt K a) H1
theorem Yl {l:Expr}{tl:TE}(hl:PE X l tl):PI X tg l (Ad3 X.K tl):=by
 intro pins s σ H R I h;refine thn (hl pins s σ H _ I h) ?_;rintro v s1 ⟨x,H1,I1,r1,q1⟩;obtain ⟨a,e,⟨xs,hq⟩,q⟩:=q1;subst e;cases r1;obtain ⟨its,rv,p,hz⟩:=I1.list hq;refine wpAny_pyIter_list p.isList ?_;refine ⟨s1.heap.objs.size,[s1.heap.objs.size],_,_,H1,rfl,I1.kept (t':=s1.toks) fun b o e=>Heap.get?_push_of_some _ e,aM a _,⟨_,Heap.get?_push_size _ rfl,rfl,rfl⟩,fun b hb=>?_,q⟩;have e:b=s1.heap.objs.size:=by simpa using hb
 subst e;exact I1.fpOk (Nat.le_refl _) (I1.hok.fresh (Nat.le_refl _))
theorem yU {l:Expr}{tl:TE}(hl:PE X l tl):PI X tg l (Aga X.K tl):=by
 intro pins s σ H R I h;refine thn (hl pins s σ H _ I h) ?_;rintro v s1 ⟨x,H1,I1,r1,q1⟩;obtain ⟨a,e,⟨xs,hq⟩,q⟩:=q1;subst e;cases r1;obtain ⟨its,rv,p,hz⟩:=I1.tuple hq;refine wpAny_pyIter_tuple (show s1.heap.IsTuple a its.toArray from p) ?_;refine ⟨s1.heap.objs.size,[s1.heap.objs.size],_,_,H1,rfl,I1.kept (t':=s1.toks) fun b o e=>Heap.get?_push_of_some _ e,V8 a _,⟨_,Heap.get?_push_size _ rfl,rfl,rfl⟩,fun b hb=>?_,q⟩;have e:b=s1.heap.objs.size:=by simpa using hb
 subst e;exact I1.fpOk (Nat.le_refl _) (I1.hok.fresh (Nat.le_refl _))
theorem Uj {pins:List (Addr×Obj)}{σ:St}{H:Hp}{s:Shared}{R:It->Hp->Prop}{E:Value->Shared->Prop}{lo hi:Int}{t u v:Tok}{tk:Nat}(I:Inv X pins σ H s) (h1:-(2 ^ 62)<=lo) (h2:lo < 2 ^ 62) (h3:-(2 ^ 62)<=hi) (h4:hi < 2 ^ 62)
  (q:R (Itr lo (hi - lo).toNat) H):wpAny (model X.prog X.w) X.A (pyIter (.ref s.heap.objs.size)) (PIE X pins σ tg R) E { s with heap:=s.heap.push { cls:=.type "range",data:=.fields #[.int lo t,.int hi u,.int 1 v] },toks:=tk }:=by
 refine wpAny_pyIter_range (IsRange.new ..) (small_one h1 h2 h3 h4) ?_
 have I1:Inv X pins σ H { s with heap:=s.heap.push { cls:=.type "range",data:=.fields #[.int lo t,.int hi u,.int 1 v] },toks:=tk }:=I.kept fun b o e=>Heap.get?_push_of_some _ e
 refine ⟨(s.heap.push { cls:=.type "range",data:=.fields #[.int lo t,.int hi u,.int 1 v] }).objs.size,[(s.heap.push { cls:=.type "range",data:=.fields #[.int lo t,.int hi u,.int 1 v] }).objs.size],_,_,H,rfl,
  I1.kept (t':=tk) fun b o e=>Heap.get?_push_of_some _ e,V9 _ lo (hi - lo).toNat,?_,fun b hb=>?_,q⟩
 ·have e1:lo+((0:Nat):Int) * 1=lo:=by simp
  have e2:(((hi - lo).toNat:Nat):Int) - ((0:Nat):Int)=Builtin.Range.rangeSize lo hi 1:=by rw [rangeSize_one];split <;> omega
  show IsRangeIter _ _ (lo+((0:Nat):Int) * 1) ((((hi - lo).toNat:Nat):Int) - ((0:Nat):Int)) 1;rw [e1,e2];exact Heap.get?_push_size _ rfl
 ·have e:b=(s.heap.push { cls:=.type "range",data:=.fields #[.int lo t,.int hi u,.int 1 v] }).objs.size:=by simpa using hb
  subst e;exact I1.fpOk (Nat.le_refl _) (I1.hok.fresh (Nat.le_refl _))
noncomputable def Ad4 (ta:TA):TI:=fun σ H R=>ta σ H fun vs H1=>∃ j:Int,vs=[.int j]/\-(2 ^ 62)<=j/\j < 2 ^ 62/\R (Itr 0 j.toNat) H1
noncomputable def Ad5 (ta:TA):TI:=fun σ H R=>ta σ H fun vs H1=>∃ i j:Int,vs=[.int i,.int j]/\(-(2 ^ 62)<=i/\i < 2 ^ 62/\-(2 ^ 62)<=j/\j < 2 ^ 62)/\R (Itr i (j - i).toNat) H1
theorem aN {a:Expr}{ta:TA}{p pos:Pos}(hg:Gl X "range") (hm:X.mg "range"=none) (ha:PA X [a] ta) (hs:starEach [a] X.env=[(false,eval a X.env)]:=by rfl):PI X tg (.Call (.Name "range" p) [a] [] pos) (Ad4 ta):=by
 intro pins s σ H R I h;refine Call_ (Jw I hg hm boot_range (PyProof.Rows.callWith_type1 (thn (ha pos pins s σ H _ I h) ?_) hs rfl));rintro us s1 ⟨vs,H1,I1,r1,q1⟩;obtain ⟨j,e,q1,q2,q⟩:=q1;subst e;cases r1 with
 | cons r rr =>
  cases rr;obtain ⟨t,rfl⟩:=r;exact call_range_1 (Uj I1 (by omega) (by omega) q1 q2 (by simpa using q))
theorem aO {a b:Expr}{ta:TA}{p pos:Pos}(hg:Gl X "range") (hm:X.mg "range"=none) (ha:PA X [a,b] ta) (hs:starEach [a,b] X.env=[(false,eval a X.env),(false,eval b X.env)]:=by rfl) (hs2:starEach [b] X.env=[(false,eval b X.env)]:=by rfl) :
  PI X tg (.Call (.Name "range" p) [a,b] [] pos) (Ad5 ta):=by
 intro pins s σ H R I h;refine Call_ (Jw I hg hm boot_range (PyProof.Rows.callWith_type1 (thn (ha pos pins s σ H _ I h) fun us s1 ⟨vs,H1,I1,r1,q1⟩=>?_) (by rw [hs,hs2]) (by rw [hs2];rfl)));obtain ⟨i,j,e,⟨q1,q2,q3,q4⟩,q⟩:=q1;subst e;cases r1 with
 | cons r rr =>
  cases rr with
  | cons r' rr =>
   cases rr;obtain ⟨t,rfl⟩:=r;obtain ⟨t',rfl⟩:=r';exact call_range_2 (Uj I1 q1 q2 q3 q4 q)
noncomputable def Agb (wi:TI) (g:TG) (tb:TS):TS:=fun D σ H=>wi σ H fun J H1=>∃ W:Nat->Nat->St->Hp->Prop,(∃ m,W 0 m σ H1)/\∀ i m σ H,W i m σ H ->
 (J.stop i H/\D.nx σ H)\/(J.go i H/\∃ N:St->Hp->Prop,(∀ σ' H',N σ' H'->∃ m',m' < m/\W (i+1) m' σ' H')/\∀ x H',J.yld i H x H'->g x σ H' fun σ2 H2=>tb { D with nx:=N,ct:=N,bk:=D.nx } σ2 H2)
noncomputable def Jx (fp:List Addr) (h:Heap):List (Addr×Obj):=fp.filterMap fun b=>(h.get? b).map fun o=>(b,o)
theorem Hx {fp:List Addr}{h:Heap}{b:Addr}{o:Obj}(hb:b∈fp) (e:h.get? b=some o):(b,o)∈Jx fp h:=List.mem_filterMap.mpr ⟨b,hb,by rw [e];rfl⟩
theorem Q5 {fp:List Addr}{h:Heap}{p:Addr×Obj}(hp:p∈Jx fp h):p.1∈fp/\h.get? p.1=some p.2:=by
 obtain ⟨b,hb,e⟩:=List.mem_filterMap.mp hp;cases q:h.get? b with
 | none=>rw [q] at e;cases e
 | some o =>
  rw [q] at e;have e':(b,o)=p:=Option.some.inj e;subst e';exact ⟨hb,q⟩
theorem Inv.pinned {pins:List (Addr×Obj)}{σ:St}{H:Hp}{s:Shared}{fp:List Addr}(I:Inv X pins σ H s) (hf:∀ b∈fp,Kf X pins H b) (ho:∀ b∈fp,∃ o,s.heap.get? b=some o/\∀ v,o.data≠.cell v):Inv X (pins++Jx fp s.heap) σ H s :=
 I.pins_of fun p hp=>(List.mem_append.mp hp).elim (fun z=>I.pin p (List.mem_append_right _ z)) fun z=>by
  obtain ⟨hb,e⟩:=Q5 z;obtain ⟨f0,f1,f2,_⟩:=hf p.1 hb;obtain ⟨o,e',d⟩:=ho p.1 hb;rw [e] at e';cases e';exact ⟨e,f0,f1,f2,d⟩
theorem Inv.unpinned {pins pl:List (Addr×Obj)}{σ:St}{H:Hp}{s:Shared}(I:Inv X (pins++pl) σ H s):Inv X pins σ H s:=I.pins_of fun p hp=>I.pin p (List.mem_append_right _ (List.mem_append_left _ hp))
theorem yV {iter:Expr}{body:List Stmt}{wi:TI}{g:TG}{tb:TS}{pos:Pos}(hp:PassesOwn (model X.prog X.w) X.A X.env X.xe) (hc:X.calm=true) (hi:PI X tg iter wi) (hg:PG X tg g) (hb:PSs X body tb)
  (hs:∀ x,foldedSetIterable iter X.env x=pure x:=by intro _;rfl):PS X (.For tg iter body [] pos) (Agb wi g tb):=by
 intro pins s σ H D I h;refine wpAny_For (thn (hi pins s σ H _ I h) fun v s1 h1=>thn h1 fun itv s2 h2=>?_) hs;obtain ⟨it,fp,tn,J,H2,e,I2,T,st2,f2,W,⟨m0,w0⟩,turn⟩:=h2;subst e
 -- what stays true of the iterator's objects through the loop
 have stat:∀ {H':Hp},(∀ b∈fp,H' b=none)->∀ b∈fp,Kf X pins H' b:=fun hn b hb=>⟨hn b hb,(f2 b hb).2⟩
 refine codeAny_forLoop_any (fun n s'=>∃ i σ' H',Inv X pins σ' H' s'/\tn i s'.heap/\(∀ b∈fp,H' b=none)/\W i n σ' H') ?_ m0 ⟨0,σ,H2,I2,st2,fun b hb=>(f2 b hb).1,w0⟩;rintro n s3 ⟨i,σ3,H3,I3,st3,fr3,w3⟩;rcases turn i n σ3 H3 w3 with ⟨stop,qn⟩|⟨go,N,hN,step⟩
 ·refine wpAny_passesOwn hp (thn (T.done X rfl rfl rfl hc i pins s3 σ3 H3 X.xe I3 (stat fr3) st3 stop) ?_);rintro r s4 ⟨hr,I4⟩;subst hr;exact wpAny_execs_nil ⟨σ3,H3,I4,qn⟩
 ·refine wpAny_passesOwn hp (thn (T.item X rfl rfl rfl hc i pins s3 σ3 H3 X.xe I3 (stat fr3) st3 go) ?_);rintro r s4 ⟨u,hr,h4⟩;subst hr;refine wpAny_passesOwn hp (thn h4 ?_);rintro _ s5 ⟨x,H5,I5,r5,y5,st5,fr5⟩;have I5':=I5.pinned (stat fr5) (T.obj _ _ st5);refine wpAny_passesOwn hp (thn (hg _ s5 σ3 H5 x u _ I5' r5 (step x H5 y5)) ?_);rintro _ s6 ⟨σ6,H6,I6,q6⟩;refine wpAny_passesOwn hp (thn (hb _ s6 σ6 H6 _ I6 q6) fun f s7 q7=>?_);have again:∀ {σ7:St} {H7:Hp},Inv X (pins++Jx fp s5.heap) σ7 H7 s7->N σ7 H7->∃ m,m < n/\∃ i σ' H',Inv X pins σ' H' s7/\tn i s7.heap/\(∀ b∈fp,H' b=none)/\W i m σ' H':=fun {σ7 H7} I7 n7=>by
   obtain ⟨m',hm,w7⟩:=hN σ7 H7 n7;refine ⟨m',hm,i+1,σ7,H7,I7.unpinned,T.keep _ _ _ st5 fun b hb o e=>(I7.pin (b,o) (List.mem_append_right _ (List.mem_append_right _ (Hx hb e)))).1,fun b hb=>?_,w7⟩;obtain ⟨o,e,d⟩:=T.obj _ _ st5 b hb;exact (I7.pin (b,o) (List.mem_append_right _ (List.mem_append_right _ (Hx hb e)))).2.1
  cases f with
  | next=>obtain ⟨σ7,H7,I7,n7⟩:=q7;exact again I7 n7
  | cont=>obtain ⟨σ7,H7,I7,n7⟩:=q7;exact again I7 n7
  | brk=>obtain ⟨σ7,H7,I7,q7⟩:=q7;exact ⟨σ7,H7,I7.unpinned,q7⟩
  | ret v=>obtain ⟨x7,σ7,H7,I7,r7,q7⟩:=q7;exact ⟨x7,σ7,H7,I7.unpinned,r7,q7⟩
end
noncomputable abbrev R2:=V->V->Hp->VK->Prop
noncomputable def OpR (X:Cx) (f:Value->Value->Sem Value) (r:R2):Prop :=
 ∀ (pins:List (Addr×Obj)) (s:Shared) (σ:St) (H:Hp) (x y:V) (v u:Value) (Q:VK),Inv X pins σ H s->Cg x v->Cg y u->r x y H Q ->
  wpAny (model X.prog X.w) X.A (f v u) (EP X pins σ Q) X.xe s
noncomputable def UnR (X:Cx) (f:Value->Sem Value) (r:V->Hp->VK->Prop):Prop :=
 ∀ (pins:List (Addr×Obj)) (s:Shared) (σ:St) (H:Hp) (x:V) (v:Value) (Q:VK),Inv X pins σ H s->Cg x v->r x H Q ->
  wpAny (model X.prog X.w) X.A (f v) (EP X pins σ Q) X.xe s
noncomputable def Dd (X:Cx) (f:Value) (r:List V->Hp->VK->Prop):Prop :=
 ∀ (pins:List (Addr×Obj)) (s:Shared) (σ:St) (H:Hp) (xs:List V) (us:List Value) (Q:VK),Inv X pins σ H s->Vals xs us->r xs H Q ->
  wpAny (model X.prog X.w) X.A (call f us) (EP X pins σ Q) X.xe s
noncomputable def Agc (X:Cx) (r:V->Hp->(Bool->Hp->Prop)->Prop):Prop :=
 ∀ (pins:List (Addr×Obj)) (s:Shared) (σ:St) (H:Hp) (x:V) (v:Value) (Q:Bool->Hp->Prop),Inv X pins σ H s->Cg x v->r x H Q ->
  wpAny (model X.prog X.w) X.A (truthy v) (TP X pins σ Q) X.xe s
noncomputable def tOp (r:R2) (ta tb:TE):TE:=fun σ H Q=>ta σ H fun x H1=>tb σ H1 fun y H2=>r x y H2 Q
noncomputable def tUn (r:V->Hp->VK->Prop) (ta:TE):TE:=fun σ H Q=>ta σ H fun x H1=>r x H1 Q
noncomputable def rI (C:Int->Int->Prop) (g:Int->Int->V):R2:=fun x y H Q=>∃ i j,x=.int i/\y=.int j/\C i j/\Q (g i j) H
noncomputable def rI0 (g:Int->Int->V):R2:=fun x y H Q=>∃ i j,x=.int i/\y=.int j/\Q (g i j) H
noncomputable def rU (g:Int->V):V->Hp->VK->Prop:=fun x H Q=>∃ i,x=.int i/\Q (g i) H
section
variable {X:Cx}{a b c:Expr}{ta tb tc:TE}{pos:Pos}
theorem yW (ha:PE X a ta) (hb:PE X b tb) {pins:List (Addr×Obj)}{s:Shared}{σ:St}{H:Hp}{R:V->V->Hp->Prop}(I:Inv X pins σ H s)
  (h:ta σ H fun x H1=>tb σ H1 fun y H2=>R x y H2) {Q:Value->Shared->Prop} {f:Value->Value->Sem Value}
  (hf:∀ v u s2 x y H2,Inv X pins σ H2 s2->Cg x v->Cg y u->R x y H2->wpAny (model X.prog X.w) X.A (f v u) Q X.xe s2) :
  wpAny (model X.prog X.w) X.A (eval a X.env) (fun v s₁=>wpAny (model X.prog X.w) X.A (eval b X.env) (fun u s₂=>wpAny (model X.prog X.w) X.A (f v u) Q X.xe s₂) X.xe s₁) X.xe s:=by
 refine thn (ha pins s σ H _ I h) ?_;rintro v s1 ⟨x,H1,I1,r1,q1⟩;refine thn (hb pins s1 σ H1 _ I1 q1) ?_;rintro u s2 ⟨y,H2,I2,r2,q2⟩;exact hf v u s2 x y H2 I2 r1 r2 q2
theorem Ad6 {op:Operator}{r:R2}(ho:OpR X (binaryOp op) r) (ha:PE X a ta) (hb:PE X b tb):PE X (.BinOp a op b pos) (tOp r ta tb):=by
 intro pins s σ H Q I h;exact wpAny_BinOp (yW ha hb I h fun v u s2 x y H2 I2 rx ry q=>ho pins s2 σ H2 x y v u Q I2 rx ry q)
theorem Ad7 {op:UnaryOp}{r:V->Hp->VK->Prop}(ho:UnR X (unaryOp op) r) (ha:PE X a ta):PE X (.UnaryOp op a pos) (tUn r ta):=by
 intro pins s σ H Q I h;refine UnaryOp_ (thn (ha pins s σ H _ I h) ?_);rintro v s1 ⟨x,H1,I1,r1,q1⟩;exact ho pins s1 σ H1 x v Q I1 r1 q1
theorem opI {f:Value->Value->Sem Value}{C:Int->Int->Prop}{g:Int->Int->Int}
  (rule:∀ (i j:Int) (t u:Tok) (s:Shared) (Q:Value->Shared->Prop) (E:Value->Shared->Prop),C i j->Q (.int (g i j) s.toks) { s with toks:=s.toks+1 }->wpAny (model X.prog X.w) X.A (f (.int i t) (.int j u)) Q E s) :
  OpR X f (rI C fun i j=>.int (g i j)):=by
 intro pins s σ H x y v u Q I rx ry h;obtain ⟨i,j,rfl,rfl,hc,q⟩:=h;obtain ⟨t,rfl⟩:=rx;obtain ⟨t',rfl⟩:=ry;exact rule i j t t' s _ _ hc ⟨.int (g i j),H,I.tok _,⟨_,rfl⟩,q⟩
theorem rN {f:Value->Value->Sem Value}{g:Int->Int->Int}
  (rule:∀ (i j:Int) (t u:Tok) (s:Shared) (Q:Value->Shared->Prop) (E:Value->Shared->Prop),Q (.int (g i j) s.toks) { s with toks:=s.toks+1 }->wpAny (model X.prog X.w) X.A (f (.int i t) (.int j u)) Q E s) :
  OpR X f (rI0 fun i j=>.int (g i j)):=by
 intro pins s σ H x y v u Q I rx ry h;obtain ⟨i,j,rfl,rfl,q⟩:=h;obtain ⟨t,rfl⟩:=rx;obtain ⟨t',rfl⟩:=ry;exact rule i j t t' s _ _ ⟨.int (g i j),H,I.tok _,⟨_,rfl⟩,q⟩
theorem rO {f:Value->Value->Sem Value}{g:Int->Int->Bool}
  (rule:∀ (i j:Int) (t u:Tok) (s:Shared) (Q:Value->Shared->Prop) (E:Value->Shared->Prop),Q (.bool (g i j)) s->wpAny (model X.prog X.w) X.A (f (.int i t) (.int j u)) Q E s) :
  OpR X f (rI0 fun i j=>.bl (g i j)):=by
 intro pins s σ H x y v u Q I rx ry h;obtain ⟨i,j,rfl,rfl,q⟩:=h;obtain ⟨t,rfl⟩:=rx;obtain ⟨t',rfl⟩:=ry;exact rule i j t t' s _ _ ⟨.bl (g i j),H,I,rfl,q⟩
noncomputable def Ad8 (i j:Int):Prop:=0<=j/\j<=1000000/\i.natAbs < 2 ^ 64
noncomputable def yX (i j:Int):Prop:=(-(2 ^ 64) < i/\i < 2 ^ 64)\/(-(2 ^ 64) < j/\j < 2 ^ 64)
theorem yX.ok {i j:Int}(h:yX i j):IntMulOk i j:=by
 rcases h with ⟨h1,h2⟩|⟨h1,h2⟩
 ·exact .of_left (intBits_le_64 h1 h2)
 ·exact .of_right (intBits_le_64 h1 h2)
theorem Wa (k:Nat):(0:Int)<=2 ^ k:=by
 rw [two_pow_cast];exact Int.natCast_nonneg _
theorem yZ:OpR X (binaryOp .Add) (rI0 fun i j=>.int (i+j)):=rN fun _ _ _ _ _ _ _ q=>add_int q
theorem zA:OpR X (binaryOp .Sub) (rI0 fun i j=>.int (i - j)):=rN fun _ _ _ _ _ _ _ q=>sub_int q
theorem zB:OpR X (binaryOp .Mult) (rI yX fun i j=>.int (i * j)):=opI fun _ _ _ _ _ _ _ hc q=>mul_int q hc.ok
theorem rP:OpR X (binaryOp .Mod) (rI (fun _ j=>j≠0) fun i j=>.int (i.fmod j)):=opI fun _ _ _ _ _ _ _ hc q=>mod_int' hc q
theorem zE:OpR X (binaryOp .Pow) (rI Ad8 fun i j=>.int (i ^ j.toNat)):=opI fun _ _ _ _ _ _ _ hc q=>pow_int_small hc.1 hc.2.1 hc.2.2 q
theorem zF:OpR X (binaryOp .LShift) (rI Ad8 fun i j=>.int (i * 2 ^ j.toNat)):=opI fun _ _ _ _ _ _ _ hc q=>lshift_int_small hc.1 hc.2.1 hc.2.2 q
theorem zG:OpR X (binaryOp .RShift) (rI (fun _ j=>0<=j) fun i j=>.int (i / 2 ^ j.toNat)):=opI fun i j _ _ _ _ _ hc q =>
 rshift_int hc (by rw [Int.fdiv_eq_ediv_of_nonneg i (Wa _)];exact q)
theorem zH:OpR X (binaryOp .BitAnd) (rI0 fun i j=>.int (Builtin.bitAnd i j)):=rN fun _ _ _ _ _ _ _ q=>and_int q
theorem Ad9:OpR X (binaryOp .BitOr) (rI0 fun i j=>.int (Builtin.bitOr i j)):=rN fun _ _ _ _ _ _ _ q=>or_int q
theorem unI {f:Value->Sem Value}{g:Int->Int}
  (rule:∀ (i:Int) (t:Tok) (s:Shared) (Q:Value->Shared->Prop) (E:Value->Shared->Prop),Q (.int (g i) s.toks) { s with toks:=s.toks+1 }->wpAny (model X.prog X.w) X.A (f (.int i t)) Q E s) :
  UnR X f (rU fun i=>.int (g i)):=by
 intro pins s σ H x v Q I rx h;obtain ⟨i,rfl,q⟩:=h;obtain ⟨t,rfl⟩:=rx;exact rule i t s _ _ ⟨.int (g i),H,I.tok _,⟨_,rfl⟩,q⟩
theorem zJ:UnR X (unaryOp .USub) (rU fun i=>.int (-i)):=unI fun _ _ _ _ _ q=>neg_int q
end
section
variable {X:Cx}{a b c:Expr}{ta tb tc:TE}{pos:Pos}
theorem Aea:OpR X (compareOp .Lt) (rI0 fun i j=>.bl (decide (i < j))):=rO fun _ _ _ _ _ _ _ q=>lt_int q
theorem Aeb:OpR X (compareOp .LtE) (rI0 fun i j=>.bl (decide (i<=j))):=rO fun _ _ _ _ _ _ _ q=>le_int q
theorem Aec:OpR X (compareOp .Gt) (rI0 fun i j=>.bl (decide (j < i))):=rO fun _ _ _ _ _ _ _ q=>gt_int q
theorem Aed:OpR X (compareOp .GtE) (rI0 fun i j=>.bl (decide (j<=i))):=rO fun _ _ _ _ _ _ _ q=>ge_int q
theorem OpR.or {f:Value->Value->Sem Value}{r r':R2}(h:OpR X f r) (h':OpR X f r'):OpR X f (fun x y H Q=>r x y H Q\/r' x y H Q):=by
 intro pins s σ H x y v u Q I rx ry q;rcases q with q|q
 ·exact h pins s σ H x y v u Q I rx ry q
 ·exact h' pins s σ H x y v u Q I rx ry q
theorem rQ {op:CmpOp}{r:R2}(ho:OpR X (compareOp op) r) (ha:PE X a ta) (hb:PE X b tb) (hm:behindInMarks op b=false):PE X (.Compare a [op] [b] pos) (tOp r ta tb):=by
 intro pins s σ H Q I h;exact wpAny_Compare1 (yW ha hb I h fun v u s2 x y H2 I2 rx ry q=>ho pins s2 σ H2 x y v u Q I2 rx ry q) hm
noncomputable def eX (t:TE):TT:=fun σ H Q=>t σ H fun x H'=>∃ k,x=.bl k/\Q k H'
theorem rR {op:CmpOp}{r:R2}(ho:OpR X (compareOp op) r) (ha:PE X a ta) (hb:PE X b tb) (hm:behindInMarks op b=false):PT X (.Compare a [op] [b] pos) (eX (tOp r ta tb)):=by
 intro pins s σ H Q I h
 refine wpAny_isTrue_Compare1 (thn (ha pins s σ H _ I h) fun v s1 ⟨x,H1,I1,r1,q1⟩=>thn (hb pins s1 σ H1 _ I1 q1) fun u s2 ⟨y,H2,I2,r2,q2⟩ =>
  thn (ho pins s2 σ H2 x y v u _ I2 r1 r2 q2) fun c s3 ⟨z,H3,I3,r3,k,e,q3⟩=>?_) hm
 subst e;cases r3;exact wpAny_truthy_bool ⟨H3,I3,q3⟩
noncomputable def Wb (r r':R2) (ta tb tc:TE):TE:=fun σ H Q=>ta σ H fun x H1=>tb σ H1 fun y H2=>r x y H2 fun z H3=>∃ k,z=.bl k /\
 (if k=true then tc σ H3 fun w' H4=>r' y w' H4 Q else Q (.bl false) H3)
theorem eY {op op':CmpOp}{r r':R2}(ho:OpR X (compareOp op) r) (ho':OpR X (compareOp op') r') (ha:PE X a ta) (hb:PE X b tb) (hc:PE X c tc)
  (hm:lastMarks [op,op'] [b,c]=false:=by with_unfolding_all rfl):PE X (.Compare a [op,op'] [b,c] pos) (Wb r r' ta tb tc):=by
 intro pins s σ H Q I h
 refine Compare_chain (thn (ha pins s σ H _ I h) fun v s1 ⟨x,H1,I1,r1,q1⟩=>chain_link (thn (hb pins s1 σ H1 _ I1 q1) fun u s2 ⟨y,H2,I2,r2,q2⟩ =>
  thn (ho pins s2 σ H2 x y v u _ I2 r1 r2 q2) fun d s3 ⟨z,H3,I3,r3,k,e,q3⟩=>?_)) hm
 subst e;cases r3;refine wpAny_truthy_bool ?_;cases k with
 | false=>exact ite_ff ⟨.bl false,H3,I3,rfl,q3⟩
 | true=>exact ite_tt (chain_last (thn (hc pins s3 σ H3 _ I3 q3) fun w' s4 ⟨z',H4,I4,r4,q4⟩=>ho' pins s4 σ H4 y z' u w' Q I4 r2 r4 q4))
theorem eZ {op op':CmpOp}{r r':R2}(ho:OpR X (compareOp op) r) (ho':OpR X (compareOp op') r') (ha:PE X a ta) (hb:PE X b tb) (hc:PE X c tc)
  (hm:lastMarks [op,op'] [b,c]=false:=by with_unfolding_all rfl):PT X (.Compare a [op,op'] [b,c] pos) (eX (Wb r r' ta tb tc)):=by
 intro pins s σ H Q I h
 refine isTrue_chain (thn (ha pins s σ H _ I h) fun v s1 ⟨x,H1,I1,r1,q1⟩=>test_link (thn (hb pins s1 σ H1 _ I1 q1) fun u s2 ⟨y,H2,I2,r2,q2⟩ =>
  thn (ho pins s2 σ H2 x y v u _ I2 r1 r2 q2) fun d s3 ⟨z,H3,I3,r3,k,e,q3⟩=>?_)) hm
 subst e;cases r3;refine wpAny_truthy_bool ?_;cases k with
 | false =>
  obtain ⟨k',e',q'⟩:=q3;cases e';exact ite_ff ⟨H3,I3,q'⟩
 | true =>
  refine ite_tt (test_last (thn (hc pins s3 σ H3 _ I3 q3) ?_));rintro w' s4 ⟨z',H4,I4,r4,q4⟩;refine thn (ho' pins s4 σ H4 y z' u w' _ I4 r2 r4 q4) ?_;rintro d' s5 ⟨z2,H5,I5,r5,k2,e2,q5⟩;subst e2;cases r5;exact wpAny_truthy_bool ⟨H5,I5,q5⟩
noncomputable def zK (K:PySem.W.Frag) (x:V) (H:Hp) (k:Bool):Prop :=
 match x with
 | .non=>k=false
 | .bl b=>k=b
 | .int i=>k=(i != 0)
 | .str y=>y.length<=sizeLine/\k=((y.length:Int) != 0)
 | .byt y=>y.size<=sizeLine/\k=((y.size:Int) != 0)
 | .ref p=>(∃ xs,SqL K H p xs/\k=!xs.isEmpty)\/(∃ xs,SqT K H p xs/\k=!xs.isEmpty)\/∃ kvs,H p=some (.dK kvs)/\k=!kvs.isEmpty
 | _=>False
theorem Wc {κ:Type}{kvs:List (κ×V)}{vs:List (κ×Value)}(r:KV kvs vs):(!vs.isEmpty)=!kvs.isEmpty:=by
 cases r <;> rfl
theorem Oh {xs:List V}{its:List Value}(r:Vals xs its):(!its.toArray.isEmpty)=!xs.isEmpty:=by
 cases r <;> simp
theorem Jy:(sizeLine:Nat) < 2 ^ 63:=by rw [sizeLine_eq];decide
theorem zL:Agc X (fun x H Q=>∃ k,zK X.K x H k/\Q k H):=by
 intro pins s σ H x v Q I rx h;obtain ⟨k,e,q⟩:=h;have hl:=Jy;have hs:sizeLine=16777216:=sizeLine_eq;cases x with
 | non =>
  cases rx;have e':k=false:=e;subst e';exact truthy_none ⟨H,I,q⟩
 | bl b =>
  cases rx;have e':k=b:=e;subst e';exact wpAny_truthy_bool ⟨H,I,q⟩
 | int i =>
  obtain ⟨t,rfl⟩:=rx;have e':k=(i != 0):=e;subst e';exact PySem.P.truthy_int ⟨H,I,q⟩
 | str y =>
  obtain ⟨t,rfl⟩:=rx;obtain ⟨hy,e'⟩:y.length<=sizeLine/\k=((y.length:Int) != 0):=e;subst e';exact PySem.P.truthy_str (by omega) ⟨H,I.tok _,q⟩
 | byt y =>
  obtain ⟨t,rfl⟩:=rx;obtain ⟨hy,e'⟩:y.size<=sizeLine/\k=((y.size:Int) != 0):=e;subst e';exact PySem.W.truthy_bytes (by omega) ⟨H,I.tok _,q⟩
 | ref p =>
  cases rx;have e':(∃ xs,SqL X.K H p xs/\k=!xs.isEmpty)\/(∃ xs,SqT X.K H p xs/\k=!xs.isEmpty)\/∃ kvs,H p=some (.dK kvs)/\k=!kvs.isEmpty:=e;rcases e' with ⟨xs,hx,e'⟩|⟨xs,hx,e'⟩|⟨kvs,hx,e'⟩
  ·subst e';obtain ⟨its,r,pl,hz⟩:=I.list hx;have hlen:=r.length;exact wpAny_truthy_list pl.isList (by simp only [List.size_toArray];omega) ⟨H,I.tok _,by rw [Oh r];exact q⟩
  ·subst e';obtain ⟨its,r,pl,hz⟩:=I.tuple hx;have hlen:=r.length;exact truthy_tuple pl (by simp only [List.size_toArray];omega) ⟨H,I.tok _,by rw [Oh r];exact q⟩
  ·subst e';obtain ⟨hz,hS,vs,r,m⟩:kvs.length<=sizeLine/\(p==sysModules)=false/\∃ vs,KV kvs vs/\s.heap.DictOf (Rz X.prog X.w) p vs:=I.hok p _ hx;have hlen:kvs.length=vs.length:=Paired.length r;exact wpAny_truthy_dict hS m (by omega) ⟨H,I.tok _,by rw [Wc r];exact q⟩
 | _=>exact (show False from e).elim
theorem fB (ha:PE X a ta) (he:∀ whole,isTrue a X.env whole=(do let v ← whole;standAt a.pos;holding [v] (truthy v))) :
  PT X a (fun σ H Q=>ta σ H fun x H'=>∃ k,zK X.K x H' k/\Q k H'):=by
 intro pins s σ H Q I h;exact isTrue_plain (thn (ha pins s σ H _ I h) fun v s1 ⟨x,H1,I1,r1,q1⟩=>zL pins s1 σ H1 x v Q I1 r1 q1) (he _)
theorem Wf:OpR X (binaryOp .Add) (fun x y H Q=>∃ i j,x=.str i/\y=.str j/\i.length+j.length<=sizeLine/\Q (.str (i++j)) H):=by
 intro pins s σ H x y v u Q I rx ry h;obtain ⟨i,j,rfl,rfl,hz,q⟩:=h;obtain ⟨t,rfl⟩:=rx;obtain ⟨t',rfl⟩:=ry;exact add_str (fun t' tk=>⟨.str (i++j),H,I.tok _,⟨_,rfl⟩,q⟩) hz
theorem vals1 {x:V}{us:List Value}(r:Vals [x] us):∃ u,us=[u]/\Cg x u:=by
 cases r with
 | cons r1 r2=>cases r2;exact ⟨_,rfl,r1⟩
theorem vals2 {x y:V}{us:List Value}(r:Vals [x,y] us):∃ u w',us=[u,w']/\Cg x u/\Cg y w':=by
 cases r with
 | cons r1 r2 =>
  cases r2 with
  | cons r3 r4=>cases r4;exact ⟨_,_,rfl,r1,r3⟩
theorem aP (hc:X.calm=true):Dd X (.builtin "min") (fun xs H Q=>∃ i j,xs=[.int i,.int j]/\Q (.int (if j < i then j else i)) H):=by
 intro pins s σ H xs us Q I r h;obtain ⟨i,j,rfl,q⟩:=h;obtain ⟨u,w',rfl,⟨t,rfl⟩,⟨t',rfl⟩⟩:=vals2 r;refine min_two_ints (I.ok.hd hc) fun h' tk k=>⟨_,H,I.kept k,?_,q⟩
 by_cases hj:j < i
 ·rw [if_pos hj,if_pos hj];exact ⟨_,rfl⟩
 ·rw [if_neg hj,if_neg hj];exact ⟨_,rfl⟩
end
structure ObjM (h:Heap) (x dx C:Addr) (mA:Str->Option Value):Prop where
 obj:h.get? x=some (PySem.W.instObj C dx)
 ns:h.Ns1 dx mA
 ne:dx≠x
theorem aQ {h:Heap}{dx:Addr}{mA:Str->Option Value}(n:h.Ns1 dx mA):∃ od,h.get? dx=some od/\∀ name,PySem.W.lookIn name od=some (mA name):=by
 obtain ⟨o,es,ep,ho,hd,hk,_,hm⟩:=n;refine ⟨o,ho,fun name=>?_⟩;have e:=hm name;unfold nsFind findBy at e;rw [← Array.find?_toList] at e;unfold PySem.W.lookIn;rw [hd];dsimp only;split
 ·rename_i y q;rw [q] at e;exact congrArg some e
 ·rename_i q;rw [q] at e;have a:es.toList.any (·.refKey)=false:=by
   rw [List.any_eq_false];intro y hy;obtain ⟨z,t,hkey⟩:=hk y (Array.mem_toList_iff.mp hy);simp [DictEntry.refKey,hkey]
  have a':¬ es.toList.any (·.refKey)=true:=by rw [a];exact Bool.false_ne_true
  rw [if_neg a'];exact congrArg some e
theorem ObjM.look {h:Heap}{x dx C:Addr}{mA:Str->Option Value}(I:ObjM h x dx C mA):∃ od,PySem.W.InstAt h x (PySem.W.instObj C dx) C (some od)/\∀ name,PySem.W.lookIn name od=some (mA name) :=
 let ⟨od,ho,hl⟩:=aQ I.ns
 ⟨od,⟨I.obj,rfl,rfl,ho⟩,hl⟩
section
variable {prog:Program}{w:World}{A:Around}{E:Value->Shared->Prop}{s:Shared}{K:PySem.W.Frag}{x dx C f:Addr}{mA:Str->Option Value}{name:Str}{v:Value}
theorem get_map {expr:Bool}{Q:Value->Shared->Prop}(X:K.In s.heap) (I:ObjM s.heap x dx C mA) (hg:PySem.W.plainGet K C name=true) (hh:PySem.W.hasDictIn K C=true)
  (ha:PySem.W.findIn K (.ref C) name=some none) (hv:mA name=some v) (hv':PySem.W.handedIn v=true) (h:Q v { s with toks:=s.toks+1 }) :
  wpAny (model prog w) A (getAttr (.ref x) name expr) Q E s:=by
 obtain ⟨od,J,hl⟩:=I.look;exact PySem.W.get_value X J (PySem.W.plainGet_of hg).1 (PySem.W.findObj_own hh ha rfl (by rw [hl,hv])) hv' h
theorem fD {pl:Sem Bool}{Q:Value×List Value->Shared->Prop}(X:K.In s.heap) (I:ObjM s.heap x dx C mA) (hg:PySem.W.plainGet K C name=true)
  (hf:PySem.W.findIn K (.ref C) name=some (some (.ref f))) (ht:PySem.W.isFn K (.ref f)=true) (hv:mA name=none) (h:Q (.ref f,[.ref x]) s) :
  wpAny (model prog w) A (getMethod (.ref x) name pl) Q E s:=by
 obtain ⟨od,J,hl⟩:=I.look;exact PySem.W.method_fn X J (PySem.W.plainGet_of hg).1 (PySem.W.plainGet_of hg).2 hf (beq_iff_eq.mp ht) (by show (PySem.W.lookIn name od).map (·.isSome)=some false;rw [hl,hv];rfl) h
theorem rT {ns:List Str}{Q:Unit->Shared->Prop}(X:K.In s.heap) (I:ObjM s.heap x dx C mA)
  (hs:PySem.W.findIn K (.ref C) "__setattr__"=some (some (.builtin "object.__setattr__"))) (hp:PySem.W.plainOver K C=true) (ht:PySem.W.takerIn K C name=some none) (hh:PySem.W.hasDictIn K C=true)
  (hw:PySem.Within mA ns) (hsz:ns.length<=sizeLine)
  (h:∀ h',ObjM h' x dx C (fun y=>if y=name then some v else mA y)->Heap.SameBut dx s.heap h'->Q () { s with heap:=h',toks:=s.toks+2 }) :
  wpAny (model prog w) A (setAttr (.ref x) name v) Q E s:=by
 obtain ⟨od,J,hl⟩:=I.look;refine PySem.W.set_plain X J hs (PySem.W.osa_open (s:={ s with toks:=s.toks+1 }) (r:=none) X J hp ht fun b=>?_);obtain ⟨cd,hc,hd'⟩:=PySem.W.any_some hh;have hx:s.heap.get? x=some ⟨.ref C,some dx,.plain,#[]⟩:=I.obj;refine wpAny_bind (wpAny_pure (wpAny_bind (wpAny_bind (wpAny_loadPart hx (wpAny_bind (PySem.W.Looks.here (s:={ s with toks:=s.toks+1 }) (PySem.W.looks_clsIn X hc) ?_))))));rw [hd'];refine wpAny_pure (a:=some dx) (wpAny_bind (wpAny_pure (wpAny_bind ?_)));refine wpAny_nsSet1 (s:={ s with toks:=s.toks+1 }) I.ns fun h' hn2 hs2=>?_
 obtain ⟨oD,esD,epD,hoD,hdD,hcD⟩:=hn2.count (PySem.Within.cons name v hw);refine wpAny_bind (wpAny_lookBehind hoD (by rw [hdD];exact pastItsLine_dict (Nat.le_trans hcD (by rw [List.length_cons];omega))) ?_);exact wpAny_pure (h _ ⟨(hs2.2 _ (Ne.symm I.ne)).trans I.obj,hn2,I.ne⟩ hs2)
theorem fG {R:Result->Shared->Prop}{vs:List Value}{kw:List (Str×Value)}(X:K.In s.heap) (hm:PySem.W.makesIn K C=true)
    (hi:PySem.W.findIn K (.ref C) "__init__"=some (some (.ref f))) (hf:PySem.W.typeIn K (.ref f)=some (.type "function"))
    (h:codeAny (model prog w) (A.under (.builtin "type.__call__" ⟨.ref C::vs,kw⟩)) (.call (.ref f) ⟨.ref (s.heap.objs.size+1)::vs,kw⟩) (PySem.W.InitBack (s.heap.objs.size+1) R)
      { s with heap:=(s.heap.push PySem.W.emptyDict).push (PySem.W.instObj C s.heap.objs.size) }) :
    codeAny (model prog w) A (.call (.ref C) ⟨vs,kw⟩) R s:=by
  obtain ⟨hh,g,d,t,os⟩:=s;exact PySem.W.make_core (PySem.W.makes_of X hm) (PySem.W.looks_findIn X hi) (fun self=>PySem.W.bind_fn X self hf) (.inl rfl) h
end
noncomputable def Jl (f:Str) (v:V):List (Str×V)->List (Str×V)
 | []=>[(f,v)]
 | (g,x)::r=>if g=f then (g,v)::r else (g,x)::Jl f v r
theorem Mj (f g:Str) (v:V):∀ fs:List (Str×V),(Jl f v fs).lookup g=if g=f then some v else fs.lookup g
 | []=>by
  show List.lookup g [(f,v)]=_
  by_cases h:g=f
  ·have hb:(g==f)=true:=beq_iff_eq.mpr h;simp only [List.lookup,hb,if_pos h]
  ·have hb:(g==f)=false:=beq_eq_false_iff_ne.mpr h;simp only [List.lookup,hb,if_neg h]
 | (k,x)::r=>by
  have ih:=Mj f g v r;rw [show Jl f v ((k,x)::r)=(if k=f then (k,v)::r else (k,x)::Jl f v r) from rfl]
  by_cases hk:k=f
  ·rw [if_pos hk]
   by_cases h:g=k
   ·have hb:(g==k)=true:=beq_iff_eq.mpr h;simp only [List.lookup,hb,if_pos (h.trans hk)]
   ·have hb:(g==k)=false:=beq_eq_false_iff_ne.mpr h;simp only [List.lookup,hb,if_neg (fun e:g=f=>h (e.trans hk.symm))]
  ·rw [if_neg hk]
   by_cases h:g=k
   ·have hb:(g==k)=true:=beq_iff_eq.mpr h;simp only [List.lookup,hb,if_neg (fun e:g=f=>hk (h.symm.trans e))]
   ·have hb:(g==k)=false:=beq_eq_false_iff_ne.mpr h;simp only [List.lookup,hb];exact ih
theorem Lf (f:Str) (v:V):∀ fs:List (Str×V),f∈(Jl f v fs).map (·.1)/\∀ g,g∈fs.map (·.1)->g∈(Jl f v fs).map (·.1)
 | []=>⟨by simp [Jl],fun g h=>by simp at h⟩
 | (k,x)::r=>by
  obtain ⟨i1,i2⟩:=Lf f v r;rw [show Jl f v ((k,x)::r)=(if k=f then (k,v)::r else (k,x)::Jl f v r) from rfl]
  by_cases hk:k=f
  ·rw [if_pos hk];subst hk;exact ⟨by simp,fun g h=>by simpa using h⟩
  ·rw [if_neg hk];refine ⟨?_,fun g h=>?_⟩
   ·rw [List.map_cons];exact List.mem_cons_of_mem _ i1
   ·rw [List.map_cons] at h ⊢;rcases List.mem_cons.mp h with e|e
    ·exact List.mem_cons.mpr (.inl e)
    ·exact List.mem_cons_of_mem _ (i2 g e)
theorem Ml (f:Str) (v:V):∀ fs:List (Str×V),(Jl f v fs).length<=fs.length+1
 | []=>by simp [Jl]
 | (k,x)::r=>by
  have ih:=Ml f v r;rw [show Jl f v ((k,x)::r)=(if k=f then (k,v)::r else (k,x)::Jl f v r) from rfl]
  by_cases hk:k=f
  ·rw [if_pos hk,List.length_cons,List.length_cons];omega
  ·rw [if_neg hk,List.length_cons,List.length_cons];omega
theorem Ke.some_of {v:V}{o:Option Value}(r:Ke (some v) o):∃ u,o=some u/\Cg v u:=by
 cases o with
 | none=>exact (show False from r).elim
 | some u=>exact ⟨u,rfl,r⟩
theorem Ke.none_of {o:Option Value}(r:Ke none o):o=none:=by
 cases o with
 | none=>rfl
 | some u=>exact (show False from r).elim
theorem aR {v:V}{u:Value}(r:Cg v u):PySem.W.handedIn u=true:=by
 cases v with
 | non=>cases (show u=Value.none from r);rfl
 | bl b=>cases (show u=Value.bool b from r);rfl
 | int i=>obtain ⟨t,e⟩:=(show ∃ t,u=Value.int i t from r);cases e;rfl
 | str x=>obtain ⟨t,e⟩:=(show ∃ t,u=Value.str x t from r);cases e;rfl
 | byt b=>obtain ⟨t,e⟩:=(show ∃ t,u=Value.bytes b t from r);cases e;rfl
 | flt b=>obtain ⟨t,e⟩:=(show ∃ t,u=Value.float b t from r);cases e;rfl
 | ref a=>cases (show u=Value.ref a from r);rfl
 | ty n=>cases (show u=Value.type n from r);rfl
section
variable {P:Program}{w:World}{H H':Hp}{h h':Heap}{a C dx:Addr}{fs fs':List (Str×V)}
theorem R5 (hok:HOk P w H h) (e:H a=some (.ins C dx fs)):∃ mA,ObjM h a dx C mA/\(∀ f,Ke (fs.lookup f) (mA f))/\PySem.Within mA (fs.map (·.1))/\fs.length<=1000/\H dx=some (.own a):=by
 obtain ⟨d,z,ne,ob,mA,n,r,q⟩:=(show Fy P w H h a (.ins C dx fs) from hok a _ e);exact ⟨mA,⟨ob,n,ne⟩,r,q,z,d⟩
end
structure Cls (K:PySem.W.Frag) (C:Addr):Prop where
 pg:PySem.W.plainGet K C Str.empty=true
 hd:PySem.W.hasDictIn K C=true
 po:PySem.W.plainOver K C=true
 sa:PySem.W.findIn K (.ref C) "__setattr__"=some (some (.builtin "object.__setattr__"))
theorem Cls.get {K:PySem.W.Frag}{C:Addr}(c:Cls K C) (f:Str):PySem.W.plainGet K C f=true:=c.pg
noncomputable def Gn (K:PySem.W.Frag) (C:Addr) (f:Str):Prop:=PySem.W.findIn K (.ref C) f=some none
theorem Gn.taker {K:PySem.W.Frag}{C:Addr}{f:Str}(n:Gn K C f):PySem.W.takerIn K C f=some none:=by
 unfold PySem.W.takerIn;rw [show PySem.W.findIn K (.ref C) f=some none from n];rfl
structure Meth (K:PySem.W.Frag) (C:Addr) (m:Str) (f:Addr):Prop where
 at_:PySem.W.findIn K (.ref C) m=some (some (.ref f))
 fn:PySem.W.isFn K (.ref f)=true
 kp:PySem.W.keepIn K (.ref f)=true
section
variable {X:Cx}{pins:List (Addr×Obj)}{σ:St}{H:Hp}{s:Shared}{a C dx:Addr}{fs:List (Str×V)}{f:Str}{v:V}{A:Around}{E:Value->Shared->Prop}
theorem Wg {b:Bool}{Q:Value->Shared->Prop}(I:Inv X pins σ H s) (e:H a=some (.ins C dx fs)) (c:Cls X.K C) (n:Gn X.K C f) (l:fs.lookup f=some v)
  (h:∀ u s',Inv X pins σ H s'->Cg v u->Q u s'):wpAny (model X.prog X.w) A (getAttr (.ref a) f b) Q E s:=by
 obtain ⟨mA,O,r,_,_,_⟩:=R5 I.hok e;obtain ⟨u,hu,ru⟩:=Ke.some_of (v:=v) (o:=mA f) (by rw [← l];exact r f);exact get_map I.kIn O (c.get f) c.hd n hu (aR ru) (h u _ (I.tok _) ru)
theorem Oi {m:Str}{g:Addr}{pl:Sem Bool}{Q:Value×List Value->Shared->Prop}(I:Inv X pins σ H s) (e:H a=some (.ins C dx fs)) (c:Cls X.K C) (k:Meth X.K C m g) (l:fs.lookup m=none)
  (h:Q (.ref g,[.ref a]) s):wpAny (model X.prog X.w) A (getMethod (.ref a) m pl) Q E s:=by
 obtain ⟨mA,O,r,_,_,_⟩:=R5 I.hok e;have hn:mA m=none:=Ke.none_of (by rw [← l];exact r m);exact fD I.kIn O (c.get m) k.at_ k.fn hn h
theorem Wh {y:V}{u:Value}{Q:Unit->Shared->Prop}(I:Inv X pins σ H s) (e:H a=some (.ins C dx fs)) (c:Cls X.K C) (n:Gn X.K C f) (hl:fs.length < 1000) (ry:Cg y u)
  (h:∀ s',Inv X pins σ (upd H a (.ins C dx (Jl f y fs))) s'->Q () s'):wpAny (model X.prog X.w) A (setAttr (.ref a) f u) Q E s:=by
 obtain ⟨mA,O,r,wi,_,ho⟩:=R5 I.hok e;have hz:(fs.map (·.1)).length<=sizeLine:=by rw [List.length_map,sizeLine_eq];omega
 refine rT I.kIn O c.sa c.po n.taker c.hd wi hz fun h' O' sb=>h _ ?_
 have hd:∃ o,h'.get? dx=some o:=let ⟨o,_,_,e',_⟩:=O'.ns;⟨o,e'⟩;refine I.write (x:=a) (e:=dx) (by rw [e];exact True.intro) (.inr ho) (fun b q hb z=>(sb.2 b hb).trans z) hd ?_;refine ⟨by rw [Bg O.ne];exact ho,?_,O.ne,O'.obj,_,O'.ns,fun g=>?_,fun g hg=>?_⟩
 ·have:=Ml f y fs;omega
 ·show Ke ((Jl f y fs).lookup g) (if g=f then some u else mA g);rw [Mj]
  by_cases q:g=f
  ·rw [if_pos q,if_pos q];exact ry
  ·rw [if_neg q,if_neg q];exact r g
 ·by_cases q:g=f
  ·rw [q];exact (Lf f y fs).1
  ·refine (Lf f y fs).2 g (wi g fun z=>hg ?_);show (if g=f then some u else mA g)=none;rw [if_neg q];exact z
theorem Inv.made (I:Inv X pins σ H s):Inv X pins σ (upd (upd H s.heap.objs.size (.own (s.heap.objs.size+1))) (s.heap.objs.size+1) (.ins C s.heap.objs.size []))
    { s with heap:=(s.heap.push PySem.W.emptyDict).push (PySem.W.instObj C s.heap.objs.size) }:=by
  have e1:(s.heap.push PySem.W.emptyDict).get? s.heap.objs.size=some PySem.W.emptyDict:=Heap.get?_push_size s.heap rfl;have e2:((s.heap.push PySem.W.emptyDict).push (PySem.W.instObj C s.heap.objs.size)).get? (s.heap.objs.size+1)=some (PySem.W.instObj C s.heap.objs.size):=by
    have:=Heap.get?_push_size (s.heap.push PySem.W.emptyDict) (o:=PySem.W.instObj C s.heap.objs.size) rfl
    rwa [Heap.size_push] at this
  have e3:(s.heap.push PySem.W.emptyDict).Ns s.heap.objs.size (fun _=>none):=⟨PySem.W.emptyDict,#[],_,e1,rfl,(fun e he=>absurd he (by simp)),fun _=>rfl⟩;have I1:=I.laid (a:=s.heap.objs.size) (o:=.own (s.heap.objs.size+1)) (h':=s.heap.push PySem.W.emptyDict) (t':=s.toks) (fun b u q=>Heap.get?_push_of_some _ q) (Nat.le_refl _) ⟨_,e1⟩;refine I1.laid (a:=s.heap.objs.size+1) (o:=.ins C s.heap.objs.size []) (t':=s.toks) (fun b u q=>Heap.get?_push_of_some _ q) (Nat.le_of_eq (Heap.size_push _ _)) ?_;have ne:s.heap.objs.size≠s.heap.objs.size+1:=Nat.ne_of_lt (Nat.lt_succ_self _);refine ⟨by rw [Bg ne,Dh],Nat.zero_le _,ne,e2,fun _=>none,(Heap.Ns1.of_empty e3).at fun o q=>Heap.get?_push_of_some _ q,fun _=>True.intro,fun y hy=>absurd rfl hy⟩
theorem rW {prog:Program}{w:World}{env:Env}{e:Expr}{f:Str}{pos:Pos}{s:Shared}{Q:Value->Shared->Prop}(hb:attributeBase e f env (eval e env)=eval e env)
  (h:wpAny (model prog w) A (eval e env) (fun o s₁=>wpAny (model prog w) A (getAttr o f true) Q E s₁) E s):wpAny (model prog w) A (eval (.Attribute e f pos) env) Q E s :=
 Attribute_any_ h (by rw [arm_eval_Attribute,hb])
end
noncomputable def Agd (K:PySem.W.Frag) (ta:TE) (f:Str):TE:=fun σ H Q=>ta σ H fun x H1=>∃ a C dx fs v,x=.ref a/\H1 a=some (.ins C dx fs)/\Cls K C/\Gn K C f/\fs.lookup f=some v/\Q v H1
noncomputable def Age (K:PySem.W.Frag) (ta tv:TE) (f:Str):TS:=fun D σ H=>tv σ H fun y H1=>ta σ H1 fun x H2=>∃ a C dx fs,x=.ref a/\H2 a=some (.ins C dx fs)/\Cls K C/\Gn K C f/\fs.length < 1000 /\
 D.nx σ (upd H2 a (.ins C dx (Jl f y fs)))
section
variable {X:Cx}{o e value:Expr}{f:Str}{pos pos' tpos:Pos}{ta tv:TE}
theorem zM (he:PE X e ta) (hb:attributeBase e f X.env (eval e X.env)=eval e X.env):PE X (.Attribute e f pos) (Agd X.K ta f):=by
 intro pins s σ H Q I h;refine rW hb (thn (he pins s σ H _ I h) ?_);rintro u s1 ⟨x,H1,I1,rx,a,C,dx,fs,v,ex,ea,c,n,l,q⟩;subst ex;obtain rfl:u=Value.ref a:=rx;exact Wg I1 ea c n l fun u' s2 I2 ru=>⟨v,H1,I2,ru,q⟩
theorem zN (ha:PE X o ta) (hv:PE X value tv) (hs:swapsWith value (some (.Attribute o f pos')) pos.line X.env=pure false):PS X (.Assign [.Attribute o f pos'] value pos) (Age X.K ta tv f):=by
 intro pins s σ H D I h;refine plainObj_wpAny_Assign_Attribute (thn (hv pins s σ H _ I h) fun u s1 ⟨y,H1,I1,ry,q⟩=>thn (ha pins s1 σ H1 _ I1 q) ?_) hs;rintro ov s2 ⟨x,H2,I2,rx,a,C,dx,fs,ex,ea,c,n,l,q2⟩;subst ex;obtain rfl:ov=Value.ref a:=rx;exact Wh I2 ea c n l ry fun s3 I3=>⟨σ,_,I3,q2⟩
end
section
variable {X:Cx}{pins:List (Addr×Obj)}{σ:St}{H:Hp}{s:Shared}{A:Around}{E:Value->Shared->Prop}{Q:Value->Shared->Prop}{c:Value}{b:Bool}
end
structure Room (k:Nat) (A:Around):Prop where
 hd:A.handled=none
 dp:A.depth+3 * k+5 < recursionLimit
 un:A.units+16 * k+200 < cLine
theorem Room.mono {j k:Nat}{A:Around}(r:Room k A) (h:j<=k):Room j A:=⟨r.hd,by have:=r.dp;omega,by have:=r.un;omega⟩
theorem Room.deeper {k:Nat}{A:Around}(r:Room (k+1) A) (env:Env):Room k (A.deeper env) :=
 ⟨r.hd,by have:=r.dp;show A.depth+1+3 * k+5 < _;omega,by have:=r.un;show A.units+3+16 * k+200 < _;omega⟩
theorem Wi {A:Around}{C:Addr}{us:List Value}{kw:List (Str×Value)}:(A.under (.builtin "type.__call__" ⟨.ref C::us,kw⟩)).depth=A.depth+1:=by
 first | rfl | simp [Around.under,Code.weight,Code.isCreation,Code.isGuard,Code.isCaller,Code.frames,Code.isFrame,guardIds]
theorem Wj {A:Around}{C:Addr}{us:List Value}{kw:List (Str×Value)}:(A.under (.builtin "type.__call__" ⟨.ref C::us,kw⟩)).units=A.units+1:=by
 first | rfl | simp [Around.under,Code.cUnits,Code.frames,Code.isFrame]
theorem Room.make {k:Nat}{A:Around}(r:Room (k+1) A) (C:Addr) (us:List Value) (kw:List (Str×Value)):Room k (A.under (.builtin "type.__call__" ⟨.ref C::us,kw⟩)) :=
 ⟨r.hd,by have:=r.dp;rw [Wi];omega,by have:=r.un;rw [Wj];omega⟩
theorem Room.depth {k:Nat}{A:Around}(r:Room k A):A.depth < recursionLimit:=by have:=r.dp;omega
theorem Room.units {k:Nat}{A:Around}(r:Room k A):A.units+64 < cLine:=by have:=r.un;omega
noncomputable def zO:TA:=fun _ H Q=>Q [] H
noncomputable def Aee (ta:TE) (tr:TA):TA:=fun σ H Q=>ta σ H fun x H1=>tr σ H1 fun xs H2=>Q (x::xs) H2
section
variable {X:Cx}{e:Expr}{es:List Expr}{te:TE}{t:TA}{pos:Pos}
theorem Im:PA X [] zO:=fun _ _ _ _ H Q I h=>Calls.spliced_nil ⟨[],H,I,.nil,h⟩
theorem Ga (ha:PE X e te) (hr:PA X es t) (hs:starEach (e::es) X.env=(false,eval e X.env)::starEach es X.env:=by rfl):PA X (e::es) (Aee te t):=by
 intro pos pins s σ H Q I h;rw [hs];show wpAny _ _ (spliced ((false,eval e X.env)::backTo pos (starEach es X.env))) _ _ s;refine Calls.spliced_cons (thn (ha pins s σ H _ I h) ?_);rintro u s1 ⟨x,H1,I1,r1,q1⟩;refine thn (hr pos pins s1 σ H1 _ I1 q1) ?_;rintro us s2 ⟨xs,H2,I2,r2,q2⟩;exact ⟨x::xs,H2,I2,.cons r1 r2,q2⟩
noncomputable def Agf (t:TA):TE:=fun σ H Q=>t σ H fun xs H1=>xs.length<=sizeLine/\∀ p,H1 p=none->Q (.ref p) (upd H1 p (.tup xs))
noncomputable def Agg (t:TA):TE:=fun σ H Q=>t σ H fun xs H1=>xs.length<=sizeLine/\∀ p,H1 p=none->Q (.ref p) (upd H1 p (.lst xs))
theorem zP {x1}(h:PA X es t):PE X (.Tuple es x1 pos) (Agf t):=by
 intro pins s σ H Q I hq;refine wpAny_Tuple_spliced (thn (h pos pins s σ H _ I hq) ?_);rintro us s1 ⟨xs,H1,I1,r,z,q⟩;refine ⟨by rw [← r.length];exact z,?_⟩;have hf:H1 s1.heap.objs.size=none:=I1.hok.fresh (Nat.le_refl _);refine ⟨.ref s1.heap.objs.size,upd H1 s1.heap.objs.size (.tup xs),I1.laid (t':=s1.toks) (fun b u e=>Heap.get?_push_of_some _ e) (Nat.le_refl _) ?_,rfl,q _ hf⟩;exact ⟨z,us,r,⟨_,Heap.get?_push_size _ rfl,rfl,rfl,_,rfl⟩⟩
theorem zQ (h:PA X es t):PE X (.List es pos) (Agg t):=by
 intro pins s σ H Q I hq;refine wpAny_List_spliced (thn (h pos pins s σ H _ I hq) ?_);rintro us s1 ⟨xs,H1,I1,r,z,q⟩;refine ⟨by rw [← r.length];exact z,?_⟩;have hf:H1 s1.heap.objs.size=none:=I1.hok.fresh (Nat.le_refl _);refine ⟨.ref s1.heap.objs.size,upd H1 s1.heap.objs.size (.lst xs),I1.laid (t':=s1.toks) (fun b u e=>Heap.get?_push_of_some _ e) (Nat.le_refl _) ?_,rfl,q _ hf⟩;exact ⟨z,us,0,r,Heap.get?_push_size _ rfl⟩
end
noncomputable abbrev Sp:=List V->Hp->VK->XK->Prop
noncomputable abbrev CXT:=List Env->Hp->Shared->XK->Value->Shared->Prop
structure Env0 (P:Program) (w:World) (K:PySem.W.Frag) (mg:Str->Option Value) (base:Heap) (A:Around) (outer:List Env) (s:Shared) (H:Hp):Prop where
 frames:A.frames=some outer
 mod:Mod K mg base
 bs:∀ b o,base.get? b=some o->s.heap.get? b=some o/\H b=none
 bsz:base.objs.size<=s.heap.objs.size
 funs:s.heap.FunFrames base outer
 frf:∀ b∈frs outer,H b=none
 hok:HOk P w H s.heap
 bare:AllBare s.gens
noncomputable def CE (outer:List Env) (P:Program) (w:World) (H:Hp) (s:Shared) (Q:VK) (u:Value) (s':Shared):Prop :=
 ∃ v H',s'.os=s.os/\AllBare s'.gens/\Un (frs outer) [] H H' s.heap s'.heap/\HOk P w H' s'.heap/\Cg v u/\Q v H'
noncomputable def CR (CX:CXT) (outer:List Env) (P:Program) (w:World) (H:Hp) (s:Shared) (Q:VK) (E:XK) (r:Result) (s':Shared):Prop :=
 match r with
 | .ok (.ret u)=>CE outer P w H s Q u s'
 | .ok _=>False
 | .error e=>CX outer H s E e s'
structure FnOk (P:Program) (w:World) (K:PySem.W.Frag) (mg:Str->Option Value) (base:Heap) (CX:CXT) (k:Nat) (f:Addr) (fd:FuncData) (ps:List Str) (sp:Sp):Prop where
 len:∀ vs H Q E,sp vs H Q E->vs.length=ps.length
 run:∀ (A:Around) (outer:List Env) (s:Shared) (H:Hp) (args:Args) (us:List Value) (vs:List V) (Q:VK) (E:XK),Room k A->Env0 P w K mg base A outer s H->BindsTo s fd args (ps.zip us)->Vals vs us->sp vs H Q E ->
  codeAny (model P w) A (.call (.ref f) args) (CR CX outer P w H s Q E) s
theorem Env0.make {P:Program}{w:World}{K:PySem.W.Frag}{mg:Str->Option Value}{base:Heap}{A:Around}{outer:List Env}{s:Shared}{H:Hp}(e:Env0 P w K mg base A outer s H) (C:Addr) (us:List Value) (kw:List (Str×Value)) :
  Env0 P w K mg base (A.under (.builtin "type.__call__" ⟨.ref C::us,kw⟩)) outer s H:=⟨by first | exact e.frames | (simpa [Around.under,Code.envs,Code.isFrame,pushEnvs] using e.frames),e.mod,e.bs,e.bsz,e.funs,e.frf,e.hok,e.bare⟩
section
variable {X:Cx}{pins:List (Addr×Obj)}{σ:St}{H:Hp}{s s':Shared}
theorem Inv.env0 (I:Inv X pins σ H s):Env0 X.prog X.w X.K X.mg X.base X.A X.stack s H :=
 ⟨I.ok.frames,I.ok.mod,I.bs,Nat.le_trans I.ok.bsz I.sz,I.stack,I.stkFree,I.hok,I.bare⟩
theorem Inv.after {Q:VK}{u:Value}(I:Inv X pins σ H s) (h:CE X.stack X.prog X.w H s Q u s'):EP X pins σ Q u s':=by
 obtain ⟨v,H',os,bare,un,hok,r,q⟩:=h;obtain ⟨hh,g,d,t,os'⟩:=s';obtain rfl:os'=s.os:=os;exact ⟨v,H',I.call (h':=hh) (g':=g) (d':=d) (t':=t) (ch:=[]) un hok bare (fun b z=>absurd z (by simp)),r,q⟩
end
noncomputable def Ym (sp:Sp) (dvs:List V) (E:XK) (t:TA):TE:=fun σ H Q=>t σ H fun vs H1=>sp (vs++dvs) H1 Q E
noncomputable def xK (C:Addr) (m:Str) (sp:Sp) (dvs:List V) (E:XK) (ta:TE) (t:TA):TE:=fun σ H Q=>ta σ H fun x H1=>∃ a dx fs,x=.ref a/\H1 a=some (.ins C dx fs)/\fs.lookup m=none /\
 t σ H1 fun vs H2=>sp (x::(vs++dvs)) H2 Q E
noncomputable def Aef (C:Addr) (sp:Sp) (dvs:List V) (E:XK) (t:TA):TE:=fun σ H Q=>t σ H fun vs H1=>∀ x dx,H1 x=none->H1 dx=none->dx≠x ->
 sp (.ref x::(vs++dvs)) (upd (upd H1 dx (.own x)) x (.ins C dx [])) (fun v H2=>v=.non/\Q (.ref x) H2) E
noncomputable def Binds (K:PySem.W.Frag) (fd:FuncData) (ps:List Str) (ds:List Value):Prop :=
 ∀ (s:Shared) (us:List Value),K.In s.heap->(us++ds).length=ps.length->BindsTo s fd ⟨us,[]⟩ (ps.zip (us++ds))
theorem Binds.all {K:PySem.W.Frag}{fd:FuncData}{ps:List Str}(h:∀ us:List Value,us.length=ps.length->bindArgs fd ⟨us,[]⟩=pure (ps.zip us)):Binds K fd ps []:=fun s us _ hl=>by
 rw [List.append_nil] at hl ⊢;exact .of_eq (h us hl)
noncomputable def Dv (CX:CXT) (X:Cx) (E:XK):Prop:=∀ (pins:List (Addr×Obj)) (σ:St) (H:Hp) (s:Shared) (e:Value) (s':Shared),Inv X pins σ H s->CX X.stack H s E e s'->X.xe e s'
section
variable {X:Cx}{CX:CXT}{k:Nat}{f C:Addr}{fd:FuncData}{ps:List Str}{sp:Sp}{dvs:List V}{ds:List Value}{E:XK}{x m:Str}{p pos apos:Pos}{e o:Expr}{es:List Expr}{ta:TE}{t:TA}
theorem Oj {pins:List (Addr×Obj)}{σ:St}{H:Hp}{s:Shared}{Q:VK}{us:List Value}{vs:List V}(F:FnOk X.prog X.w X.K X.mg X.base CX k f fd ps sp) (hr:Room k X.A) (hb:Binds X.K fd ps ds) (hd:Vals dvs ds) (hx:Dv CX X E)
  (I:Inv X pins σ H s) (r:Vals vs us) (h:sp (vs++dvs) H Q E):wpAny (model X.prog X.w) X.A (call (.ref f) us) (EP X pins σ Q) X.xe s:=by
 have r2:Vals (vs++dvs) (us++ds):=r.append hd;have hl:(us++ds).length=ps.length:=by rw [← r2.length];exact F.len _ _ _ _ h
 refine wpAny_call (codeAny_mono (F.run X.A X.stack s H ⟨us,[]⟩ (us++ds) (vs++dvs) Q E hr I.env0 (hb s us I.kIn hl) r2 h) fun r s' hq=>?_);cases r with
 | error e=>exact hx pins σ H s e s' I hq
 | ok fl =>
  cases fl with
  | ret u=>exact I.after hq
  | next=>exact False.elim hq
  | brk=>exact False.elim hq
  | cont=>exact False.elim hq
theorem rY (F:FnOk X.prog X.w X.K X.mg X.base CX k f fd ps sp) (hr:Room k X.A) (hg:Gl X x) (hm:X.mg x=some (.ref f)) (hk:PySem.W.keepIn X.K (.ref f)=true) (hb:Binds X.K fd ps ds) (hd:Vals dvs ds) (hx:Dv CX X E)
  (ha:PA X (e::es) t) (hdb:(x==("__debug__":Str))=false:=by decide) (he:starEach (e::es) X.env=(false,eval e X.env)::starEach es X.env:=by rfl) (hpl:(backTo pos (starEach es X.env)).any (·.1)=false:=by rfl) :
  PE X (.Call (.Name x p) (e::es) [] pos) (Ym sp dvs E t):=by
 intro pins s σ H Q I h;refine wpAny_Call_Name_kw (Nm I hg hm ?_ hdb);refine PySem.W.callWith_K (h₀:=X.base) I.ok.mod.kin hk (thn (ha pos pins s σ H _ I h) fun us s1 ⟨vs,H1,I1,r,q⟩=>⟨I1.kIn,?_⟩) he hpl;exact Oj F hr hb hd hx I1 r q
theorem fH (F:FnOk X.prog X.w X.K X.mg X.base CX k f fd ps sp) (hr:Room k X.A) (hg:Gl X x) (hm:X.mg x=some (.ref f)) (hk:PySem.W.keepIn X.K (.ref f)=true) (hb:Binds X.K fd ps ds) (hd:Vals dvs ds) (hx:Dv CX X E)
  (hdb:(x==("__debug__":Str))=false:=by decide):PE X (.Call (.Name x p) [] [] pos) (Ym sp dvs E zO):=by
 intro pins s σ H Q I h;refine wpAny_Call_Name_kw (Nm I hg hm ?_ hdb);exact PySem.W.callWith_K0 I.kIn hk (Oj (us:=[]) F hr hb hd hx I .nil h)
theorem rZ {pl:Sem Bool}(he:PE X o ta) (c:Cls X.K C) (hm:Meth X.K C m f) (F:FnOk X.prog X.w X.K X.mg X.base CX k f fd ps sp) (hr:Room k X.A) (hb:Binds X.K fd ps ds) (hd:Vals dvs ds) (hx:Dv CX X E) (ha:PA X (e::es) t)
  (hst:starEach (e::es) X.env=(false,eval e X.env)::starEach es X.env:=by rfl) (hpl:(backTo pos (starEach es X.env)).any (·.1)=false:=by rfl)
  (ht:eval (.Call (.Attribute o m apos) (e::es) [] pos) X.env=(do
   let ov ← eval o X.env
   standAt apos.atName
   let (f,first) ← holding [ov] (getMethod ov m pl)
   callWith pos f first (backTo pos (starEach (e::es) X.env)) (backToKw pos (keywordEach [] X.env))):=by rfl) :
  PE X (.Call (.Attribute o m apos) (e::es) [] pos) (xK C m sp dvs E ta t):=by
 intro pins s σ H Q I h;refine PySem.W.methodCall_KW (pl:=pl) (thn (he pins s σ H _ I h) ?_) ht;rintro u s1 ⟨x,H1,I1,rx,a,dx,fs,ex,ea,l,q⟩;subst ex;obtain rfl:u=Value.ref a:=rx;refine Oi I1 ea c hm l ?_;refine PySem.W.callWith_K (first:=[.ref a]) (h₀:=X.base) I.ok.mod.kin hm.kp (thn (ha pos pins s1 σ H1 _ I1 q) fun us s2 ⟨vs,H2,I2,r,q2⟩=>⟨I2.kIn,?_⟩) hst hpl;exact Oj (us:=.ref a::us) (vs:=.ref a::vs) F hr hb hd hx I2 (.cons rfl r) q2
theorem fJ {pl:Sem Bool}(he:PE X o ta) (c:Cls X.K C) (hm:Meth X.K C m f) (F:FnOk X.prog X.w X.K X.mg X.base CX k f fd ps sp) (hr:Room k X.A) (hb:Binds X.K fd ps ds) (hd:Vals dvs ds) (hx:Dv CX X E)
  (ht:eval (.Call (.Attribute o m apos) [] [] pos) X.env=(do
   let ov ← eval o X.env
   standAt apos.atName
   let (f,first) ← holding [ov] (getMethod ov m pl)
   callWith pos f first (backTo pos (starEach [] X.env)) (backToKw pos (keywordEach [] X.env))):=by rfl) :
  PE X (.Call (.Attribute o m apos) [] [] pos) (xK C m sp dvs E ta zO):=by
 intro pins s σ H Q I h;refine PySem.W.methodCall_KW (pl:=pl) (thn (he pins s σ H _ I h) ?_) ht;rintro u s1 ⟨x,H1,I1,rx,a,dx,fs,ex,ea,l,q⟩;subst ex;obtain rfl:u=Value.ref a:=rx;refine Oi I1 ea c hm l ?_;exact PySem.W.callWith_K0 (first:=[.ref a]) I1.kIn hm.kp (Oj (us:=[.ref a]) (vs:=[.ref a]) F hr hb hd hx I1 (.cons rfl .nil) q)
structure Mk (K:PySem.W.Frag) (C f:Addr):Prop where
 makes:PySem.W.makesIn K C=true
 init:PySem.W.findIn K (.ref C) "__init__"=some (some (.ref f))
 fn:PySem.W.isFn K (.ref f)=true
 kp:PySem.W.keepIn K (.ref C)=true
theorem fK {pins:List (Addr×Obj)}{σ:St}{H:Hp}{s:Shared}{Q:VK}{us:List Value}{vs:List V}(M:Mk X.K C f) (F:FnOk X.prog X.w X.K X.mg X.base CX k f fd ps sp) (hr:Room (k+1) X.A) (hb:Binds X.K fd ps ds) (hd:Vals dvs ds)
  (hx:Dv CX X E) (I:Inv X pins σ H s) (r:Vals vs us)
  (h:∀ x dx,H x=none->H dx=none->dx≠x->sp (.ref x::(vs++dvs)) (upd (upd H dx (.own x)) x (.ins C dx [])) (fun v H2=>v=.non/\Q (.ref x) H2) E) :
  wpAny (model X.prog X.w) X.A (call (.ref C) us) (EP X pins σ Q) X.xe s:=by
 have hq:=h (s.heap.objs.size+1) s.heap.objs.size (I.hok.fresh (Nat.le_succ _)) (I.hok.fresh (Nat.le_refl _)) (Nat.ne_of_lt (Nat.lt_succ_self _));have I2:=Inv.made (C:=C) I;have r2:Vals (V.ref (s.heap.objs.size+1)::(vs++dvs)) (Value.ref (s.heap.objs.size+1)::(us++ds)):=.cons rfl (r.append hd);have hl:(Value.ref (s.heap.objs.size+1)::us++ds).length=ps.length:=by
  have e:=r2.length;rw [F.len _ _ _ _ hq] at e;exact e.symm
 refine wpAny_call (fG (f:=f) I.kIn M.makes M.init (beq_iff_eq.mp M.fn) (codeAny_mono (F.run _ X.stack _ _ ⟨Value.ref (s.heap.objs.size+1)::us,[]⟩ (Value.ref (s.heap.objs.size+1)::(us++ds)) _ _ E (hr.make C us [])
  (I2.env0.make C us []) (hb _ (Value.ref (s.heap.objs.size+1)::us) I2.kIn hl) r2 hq) fun r s' hq'=>?_))
 cases r with
 | error e=>exact hx pins σ _ _ e s' I2 hq'
 | ok fl =>
  cases fl with
  | ret u =>
   obtain ⟨v,H',I3,rv,ev,q3⟩:=I2.after hq';subst ev;exact ⟨rv,⟨V.ref (s.heap.objs.size+1),H',I3,rfl,q3⟩⟩
  | next=>exact False.elim hq'
  | brk=>exact False.elim hq'
  | cont=>exact False.elim hq'
theorem sE (M:Mk X.K C f) (F:FnOk X.prog X.w X.K X.mg X.base CX k f fd ps sp) (hr:Room (k+1) X.A) (hg:Gl X x) (hm:X.mg x=some (.ref C)) (hb:Binds X.K fd ps ds) (hd:Vals dvs ds) (hx:Dv CX X E)
  (ha:PA X (e::es) t) (hdb:(x==("__debug__":Str))=false:=by decide) (he:starEach (e::es) X.env=(false,eval e X.env)::starEach es X.env:=by rfl) (hpl:(backTo pos (starEach es X.env)).any (·.1)=false:=by rfl) :
  PE X (.Call (.Name x p) (e::es) [] pos) (Aef C sp dvs E t):=by
 intro pins s σ H Q I h;refine wpAny_Call_Name_kw (Nm I hg hm ?_ hdb);refine PySem.W.callWith_K (h₀:=X.base) I.ok.mod.kin M.kp (thn (ha pos pins s σ H _ I h) fun us s1 ⟨vs,H1,I1,r,q⟩=>⟨I1.kIn,?_⟩) he hpl;exact fK M F hr hb hd hx I1 r q
end
section
variable {X:Cx}{CX:CXT}{k:Nat}{f C:Addr}{fd:FuncData}{ps ks:List Str}{sp:Sp}{E:XK}{x m:Str}{p pos apos kpos:Pos}{e o:Expr}{es:List Expr}{kws:List Keyword}{te ta:TE}{t tk:TA}{nm:Option Str}
variable {g:List Value->List Value->List Value}{gV:List V->List V->List V}
end
structure FnScope (N P:List Str) (sc:Scope):Prop where
 kind:sc.kind=.function
 co:sc.isCoroutine=false
 gen:sc.isGenerator=false
 nd:N.Nodup
 pre:N.take P.length=P
 par:∀ x∈P,sc.names.lookup x=some .local\/sc.names.lookup x=some .cell
 nofree:∀ y∈sc.names,y.2≠.free
theorem Q6 {kindOf:Str->Option NameKind}{x:Str}:∀ {binds:List (Str×Value)}{m:Str->Option Value},(∀ v,(x,v) ∉ binds)->bindL kindOf binds m x=m x
 | [],_,_=>rfl
 | (n,v)::r,m,h=>by
  unfold bindL;rw [Q6 fun w hw=>h w (List.mem_cons_of_mem _ hw)];split
  ·have:x≠n:=by rintro rfl;exact h v List.mem_cons_self
   simp [this]
  ·rfl
theorem Q7 {kindOf:Str->Option NameKind}{x:Str}:∀ {binds:List (Str×Value)}{m:Str->Option Value},(∀ v,(x,v) ∉ binds)->bindC kindOf binds m x=m x
 | [],_,_=>rfl
 | (n,v)::r,m,h=>by
  unfold bindC;rw [Q7 fun w hw=>h w (List.mem_cons_of_mem _ hw)];split
  ·rfl
  ·have:x≠n:=by rintro rfl;exact h v List.mem_cons_self
   simp [this]
theorem Q8 {kindOf:Str->Option NameKind}{x:Str}{v:Value}:∀ {P:List Str}{vs:List Value}{i:Nat}{m:Str->Option Value},P.Nodup->P[i]?=some x->vs[i]?=some v->kindOf x=some .local ->
  bindL kindOf (P.zip vs) m x=some v
 | [],_,_,_,_,h,_,_=>by simp at h
 | _::_,[],_,_,_,_,h,_=>by simp at h
 | p::P,w::vs,0,m,nd,h1,h2,hk=>by
  simp at h1 h2;subst h1;subst h2;show bindL kindOf ((p,w)::P.zip vs) m p=_;unfold bindL;rw [Q6 fun v hv=>(List.nodup_cons.mp nd).1 (List.of_mem_zip hv).1,if_pos hk];simp
 | p::P,w::vs,i+1,m,nd,h1,h2,hk=>by
  show bindL kindOf ((p,w)::P.zip vs) m x=_;unfold bindL;exact Q8 (i:=i) (List.nodup_cons.mp nd).2 (by simpa using h1) (by simpa using h2) hk
theorem Q9 {kindOf:Str->Option NameKind}{x:Str}{v:Value}:∀ {P:List Str}{vs:List Value}{i:Nat}{m:Str->Option Value},P.Nodup->P[i]?=some x->vs[i]?=some v->kindOf x≠some .local ->
  bindC kindOf (P.zip vs) m x=some v
 | [],_,_,_,_,h,_,_=>by simp at h
 | _::_,[],_,_,_,_,h,_=>by simp at h
 | p::P,w::vs,0,m,nd,h1,h2,hk=>by
  simp at h1 h2;subst h1;subst h2;show bindC kindOf ((p,w)::P.zip vs) m p=_;unfold bindC;rw [Q7 fun v hv=>(List.nodup_cons.mp nd).1 (List.of_mem_zip hv).1,if_neg hk];simp
 | p::P,w::vs,i+1,m,nd,h1,h2,hk=>by
  show bindC kindOf ((p,w)::P.zip vs) m x=_;unfold bindC;exact Q9 (i:=i) (List.nodup_cons.mp nd).2 (by simpa using h1) (by simpa using h2) hk
noncomputable def start (N:List Str) (vs:List V):St:=vs.map some++List.replicate (N.length - vs.length) none
noncomputable def aU (CX:CXT) (P:Program) (w:World) (K:PySem.W.Frag) (mg:Str->Option Value) (base:Heap) (N:List Str) (qual:Str) (scope:Scope) (f:Addr) (cd:Value) (A:Around) (outer:List Env) (s:Shared) (H:Hp) (E:XK):Cx where
 prog:=P
 w:=w
 K:=K
 mg:=mg
 base:=base
 A:=A.deeper (envOfC qual scope s.heap.objs.size f cd)
 N:=N
 s₀:=s
 H₀:=H
 env:=envOfC qual scope s.heap.objs.size f cd
 outer:=outer
 stack:=envOfC qual scope s.heap.objs.size f cd::outer
 ex:=[]
 calm:=true
 fn:=fun _=>true
 pn:=[]
 xe:=fun e s'=>wpAny (model P w) (A.deeper (envOfC qual scope s.heap.objs.size f cd)) (leaving (envOfC qual scope s.heap.objs.size f cd) e) (fun _ s''=>CX outer H s E e s'') (fun e' s''=>CX outer H s E e' s'') s'
theorem Uk {sc:Scope}{n:Nat}{x:Str}(h:sc.names.lookup x=some .cell):∃ c,(cellsFrom n sc.names []).lookup x=some c:=by
 have q:=PySem.W.cellsFrom_some sc.names n [] (.inl h);exact Option.isSome_iff_exists.mp q
theorem aV {CX:CXT}{P:Program}{w:World}{K:PySem.W.Frag}{mg:Str->Option Value}{base:Heap}{N ps:List Str}{qual:Str}{scope:Scope}{f:Addr}{cd:Value}{A:Around}{outer:List Env}{s s1:Shared}{H:Hp}{E:XK}{us:List Value}{vs:List V}
  (S:FnScope N ps scope) (hd:A.handled=none) (e0:Env0 P w K mg base A outer s H) (hl:vs.length=ps.length) (r:Vals vs us)
  (x:InCallC s s.heap.objs.size (bindL (envOfC qual scope s.heap.objs.size f cd).kindOf (ps.zip us) fun _=>none) (cellsFrom (s.heap.objs.size+1) scope.names []) (bindC (envOfC qual scope s.heap.objs.size f cd).kindOf (ps.zip us) fun _=>none) s1) :
  Inv (aU CX P w K mg base N qual scope f cd A outer s H E) [] (start N vs) H s1:=by
 have hpl:ps.length<=N.length:=by have:=congrArg List.length S.pre;rw [List.length_take] at this;omega
 obtain ⟨h1,tk,rfl,hk⟩:=x.done;have noA:∀ b:Addr,b ∉ (aU CX P w K mg base N qual scope f cd A outer s H E).ex:=fun b z=>absurd (show b∈([]:List Addr) from z) (by simp)
 refine ⟨⟨e0.mod,S.kind,rfl,rfl,Nat.le_refl _,fun y z c h1 h2=>?_,fun y hy=>?_,fun y c _ h=>?_,fun _=>hd,Around.frames_deeper e0.frames,.inr ⟨rfl,rfl⟩,fun b z=>absurd z (noA b),e0.bs,e0.bsz,fun b _ _=>noA b,fun b z=>absurd z (noA b),e0.funs,e0.frf⟩,
  rfl,e0.bare,Un.kept hk,⟨_,x.toInCall.ns,fun i y v h1 h2 h3=>?_⟩,fun y c h=>⟨_,x.cell y c h⟩,e0.hok.fresh (Nat.le_refl _),fun y c h=>?_,fun p hp=>absurd (show p∈([]:List (Addr×Obj)) from hp) (by simp),e0.hok.kept hk,?_⟩
 ·exact name_of_addr x.apart (PySem.mem_of_lookup h1) (PySem.mem_of_lookup h2)
 ·have hy:scope.names.lookup y=some .cell\/scope.names.lookup y=some .free:=hy;rcases hy with hy|hy
  ·exact Uk hy
  ·exact absurd rfl (S.nofree _ (PySem.mem_of_lookup hy))
 ·exact Nat.le_of_lt (x.above y c (PySem.mem_of_lookup h))
 ·have hi:i < vs.length:=by
   unfold start at h2
   by_cases hi:i < vs.length
   ·exact hi
   ·rw [List.getElem?_append_right (by simpa using hi)] at h2;rw [List.getElem?_replicate] at h2;split at h2 <;> cases h2
  have ha:vs[i]?=some v:=by
   unfold start at h2;rw [List.getElem?_append_left (by simpa using hi),List.getElem?_map] at h2;cases e:vs[i]? with
   | none=>rw [e] at h2;cases h2
   | some a=>rw [e] at h2;cases h2;rfl
  obtain ⟨u,hu,rv⟩:=r.get ha;have hp:ps[i]?=some y:=by
   rw [← S.pre,List.getElem?_take_of_lt (by omega)];exact h1
  have ndP:ps.Nodup:=by rw [← S.pre];exact S.nd.sublist (List.take_sublist _ _)
  refine ⟨u,rv,?_⟩;rcases S.par y (List.mem_of_getElem? hp) with k|k
  ·exact .inl ⟨k,Q8 ndP hp hu k⟩
  ·obtain ⟨c,e⟩:=Uk (n:=s.heap.objs.size+1) k;refine .inr ⟨.inl k,c,e,?_⟩;have q:=x.cell y c e;rw [Q9 ndP hp hu (by show scope.names.lookup y≠_;rw [k];decide)] at q;exact q
 ·exact e0.hok.fresh (Nat.le_of_lt (x.above y c (PySem.mem_of_lookup h)))
 ·unfold start;show _=N.length;rw [List.length_append,List.length_map,List.length_replicate];omega
theorem Aeg {CX:CXT}{P:Program}{w:World}{K:PySem.W.Frag}{mg:Str->Option Value}{base:Heap}{k:Nat}{f:Addr}{name qual:Str}{params:Arguments}{body:List Stmt}{scope:Scope}{dV kV doc pm cdv ct oc:Value}{an od:Option Addr}
  {osl:Array (Option Value)} {N ps:List Str} {sp:Sp} (lk:K.lookup f=some ⟨oc,od,.func (PySem.W.fnOf name qual params body scope dV kV doc pm an cdv ct),osl⟩) (hcd:PySem.W.codeIn K cdv qual=true) (S:FnScope N ps scope)
  (len:∀ vs H Q E,sp vs H Q E->vs.length=ps.length)
  (hbody:∀ (A:Around) (outer:List Env) (s:Shared) (H:Hp) (vs:List V) (Q:VK) (E:XK),Room k (A.deeper (envOfC qual scope s.heap.objs.size f cdv))->sp vs H Q E ->
   ∃ t,PSs (aU CX P w K mg base N qual scope f cdv A outer s H E) body t/\t { nx:=fun _ H'=>Q .non H',rt:=Q } (start N vs) H) :
  FnOk P w K mg base CX (k+1) f (PySem.W.fnOf name qual params body scope dV kV doc pm an cdv ct) ps sp:=by
 refine ⟨len,fun A outer s H args us vs Q E hr e0 hb r hsp=>?_⟩;have hl:=len _ _ _ _ hsp;have KX:K.In s.heap:=e0.mod.kin.keeps fun b o e=>(e0.bs b o e).1
 have lim:s.heap.NoLimit:=e0.mod.nolimit.keeps fun b o e=>(e0.bs b o e).1
 have hkind:∀ y∈ps.zip us,scope.names.lookup y.1=some .local\/(scope.names.lookup y.1=some .cell/\((cellsFrom (s.heap.objs.size+1) scope.names []).lookup y.1).isSome=true):=by
  rintro ⟨n,v⟩ hy;rcases S.par n (List.of_mem_zip hy).1 with q|q
  ·exact .inl q
  ·exact .inr ⟨q,PySem.W.cellsFrom_some _ _ _ (.inl q)⟩
 refine codeAny_call_function hr.depth (KX _ _ lk) rfl S.co S.gen rfl (PySem.W.codeRec_of KX hcd) (hb _ _ _ _ ?_);refine wpAny_newFunctionEnv_cells S.kind hkind fun env he s1 x=>?_
 subst he;refine ⟨lim.keeps x.toInCall.keep,codeAny_func ?_⟩;obtain ⟨t,ht,hq⟩:=hbody A outer s H vs Q E (hr.deeper _) hsp;have I:Inv (aU CX P w K mg base N qual scope f cdv A outer s H E) [] (start N vs) H s1:=aV S hr.hd e0 hl r x;refine wpAny_mono (ht [] s1 (start N vs) H _ I hq) (fun fl s' hs=>?_) fun e s' hs=>hs
 have fin:∀ {σ':St} {H':Hp} {v:V} {u:Value},Inv (aU CX P w K mg base N qual scope f cdv A outer s H E) [] σ' H' s'->Cg v u->Q v H'->CE outer P w H s Q u s' :=
  fun {σ' H' v u} J rv q=>⟨v,H',J.os,J.bare,J.base,J.hok,rv,q⟩
 cases fl with
 | ret u =>
  obtain ⟨v,σ',H',J,rv,q⟩:=hs;exact fin J rv q
 | next =>
  obtain ⟨σ',H',J,q⟩:=hs;exact fin (v:=V.non) (u:=Value.none) J rfl q
 | brk =>
  obtain ⟨_,_,_,q⟩:=hs;exact False.elim q
 | cont =>
  obtain ⟨_,_,_,q⟩:=hs;exact False.elim q
section
variable {X:Cx}{x:Str}{p pos:Pos}{e:Expr}{es:List Expr}{t:TA}{id T:String}{r:List V->Hp->VK->Prop}
noncomputable def tCB (r:List V->Hp->VK->Prop) (t:TA):TE:=fun σ H Q=>t σ H fun vs H1=>r vs H1 Q
theorem Ul (hc:Dd X (.builtin id) r) (hg:Gl X x) (hm:X.mg x=none) (hv:bootBuiltins x=some (.builtin id)) (ha:PA X (e::es) t) (hn:x ≠ "__name__":=by decide) (hdb:(x==("__debug__":Str))=false:=by decide)
  (he:starEach (e::es) X.env=(false,eval e X.env)::starEach es X.env:=by rfl) (hpl:(backTo pos (starEach es X.env)).any (·.1)=false:=by rfl):PE X (.Call (.Name x p) (e::es) [] pos) (tCB r t):=by
 intro pins s σ H Q I h;refine wpAny_Call_Name_kw (Jw I hg hm hv ?_ hn hdb);exact PyProof.Rows.callWith_builtin1 (thn (ha pos pins s σ H _ I h) fun us s1 ⟨vs,H1,I1,r1,q1⟩=>hc pins s1 σ H1 vs us Q I1 r1 q1) he hpl
theorem Hs (hc:Dd X (.type T) r) (hg:Gl X x) (hm:X.mg x=none) (hv:bootBuiltins x=some (.type T)) (ha:PA X (e::es) t) (hn:x ≠ "__name__":=by decide) (hdb:(x==("__debug__":Str))=false:=by decide)
  (he:starEach (e::es) X.env=(false,eval e X.env)::starEach es X.env:=by rfl) (hpl:(backTo pos (starEach es X.env)).any (·.1)=false:=by rfl):PE X (.Call (.Name x p) (e::es) [] pos) (tCB r t):=by
 intro pins s σ H Q I h;refine wpAny_Call_Name_kw (Jw I hg hm hv ?_ hn hdb);exact PyProof.Rows.callWith_type1 (thn (ha pos pins s σ H _ I h) fun us s1 ⟨vs,H1,I1,r1,q1⟩=>hc pins s1 σ H1 vs us Q I1 r1 q1) he hpl
end
end L2
namespace HT
open PySem PyProof.Rows
section
open PySem.SeqAt
open PySem.AutoSeq1 (wpAny_loadPart')
open PySem.MeetsSeq PySem.MeetsSeq2 PySem.MeetsSeq3
end
section
variable {prog:Program}{w:World}{A:Around}{E:Value->Shared->Prop}{s:Shared}
theorem cat_tup {t b:Addr}{vs ws:List Value}{Q:Value->Shared->Prop}(ht:IsTup s.heap t vs.toArray) (hb:IsTup s.heap b ws.toArray) (hv:vs≠[])
  (h1:ws=[]->Q (.ref t) s) (h2:ws≠[]->Q (.ref s.heap.objs.size) { s with heap:=s.heap.push { cls:=.type "tuple",data:=.seq (vs++ws).toArray } })
  (hsz:vs.length+ws.length<=sizeLine):wpAny (model prog w) A (binaryOp .Add (.ref t) (.ref b)) Q E s:=by
 obtain ⟨⟨cls,dd,data,sl⟩,ho,hc,n,hd⟩:=id ht;obtain ⟨⟨cls2,dd2,data2,sl2⟩,ho2,hc2,n2,hd2⟩:=id hb;simp only at hc hd hc2 hd2;subst hc hd hc2 hd2;have e:vs.toArray++ws.toArray=(vs++ws).toArray:=by simp
 by_cases hw:ws=[]
 ·exact concat_meets ⟨_,ho,rfl⟩ ⟨_,ho2,rfl⟩ noFill_tuple_add seq_tuple_add PySem.F.slot_tuple_add PySem.F.entry_tuple_add (PySem.F.args_tuple_add_2 _ _)
   (tuple_addW1 t b vs.toArray ws.toArray n n2 dd dd2 sl sl2 (by simpa using hv) (by simp [hw])) ⟨ho,ho2,h1 hw⟩
 ·refine concat_meets ⟨_,ho,rfl⟩ ⟨_,ho2,rfl⟩ noFill_tuple_add seq_tuple_add PySem.F.slot_tuple_add PySem.F.entry_tuple_add (PySem.F.args_tuple_add_2 _ _)
   (tuple_addW2 t b vs.toArray ws.toArray n n2 dd dd2 sl sl2 (by simpa using hv) (by simpa using hw) (by rw [List.size_toArray,List.size_toArray];exact hsz)) ⟨ho,ho2,?_⟩
  rw [e];exact h2 hw
noncomputable def sIx (n d:Nat):Option Int->Nat
 | none=>d
 | some v=>if v < 0 then (v+(n:Int)).toNat else min v.toNat n
theorem sIx_none (n d:Nat):sIx n d none=d:=rfl
theorem sIx_nat (n d k:Nat):sIx n d (some (k:Int))=min k n:=by
 show (if (k:Int) < 0 then ((k:Int)+(n:Int)).toNat else min (k:Int).toNat n)=min k n;rw [if_neg (by omega),Int.toNat_natCast]
theorem zR (n d:Nat) (hd:d<=n) (o:Option Int):sIx n d o<=n:=by
 cases o with
 | none=>exact hd
 | some v =>
  show (if v < 0 then (v+(n:Int)).toNat else min v.toNat n)<=n
  by_cases hv:v < 0
  ·rw [if_pos hv];omega
  ·rw [if_neg hv];exact Nat.min_le_right _ _
theorem Yn (v:Int) (n d:Nat):(if v < 0 then max (v+(n:Int)) 0 else min v (n:Int))=((sIx n d (some v):Nat):Int):=by
 show (if v < 0 then max (v+(n:Int)) 0 else min v (n:Int))=(((if v < 0 then (v+(n:Int)).toNat else min v.toNat n):Nat):Int)
 by_cases hv:v < 0
 ·simp only [if_pos hv];omega
 ·simp only [if_neg hv];omega
theorem Wk (lo hi:Option Int) (n:Nat):Builtin.Slice.sliceAdjust lo hi 1 (n:Int)=(((sIx n 0 lo:Nat):Int),((sIx n n hi:Nat):Int)):=by
 have h1:¬ ((1:Int) < 0):=by omega
 unfold Builtin.Slice.sliceAdjust;simp only [h1,if_false];refine Prod.ext ?_ ?_
 ·cases lo with
  | none=>rfl
  | some v=>exact Yn v n 0
 ·cases hi with
  | none=>rfl
  | some v=>exact Yn v n n
theorem Wl (i j:Nat):Builtin.Slice.slicePlaces (i:Int) (j:Int) 1=j - i:=by
 unfold Builtin.Slice.slicePlaces;have h1:(1:Int) > 0:=by omega
 simp only [h1,if_true,Int.ediv_one];split <;> omega
theorem Ol {v:Value}{o:Option Int}{Q:Option Int->Shared->Prop}(p:IsPart v o) (h:Q o s):wpAny (model prog w) A (Builtin.Slice.slicePartIndex v) Q E s:=by
 cases p with
 | none=>exact slicePart_none h
 | int i t=>exact slicePart_int h
theorem sliceApplied_gen {sl:Addr}{vl vu:Value}{lo hi:Option Int}{n:Nat}{Q:Int×Int×Nat->Shared->Prop}(hs:s.heap.IsSliceOf sl vl vu .none) (pl:IsPart vl lo) (pu:IsPart vu hi)
  (h:Q (((sIx n 0 lo:Nat):Int),1,sIx n n hi - sIx n 0 lo) s):wpAny (model prog w) A (Builtin.Slice.sliceApplied (.ref sl) (pure (n:Int))) Q E s:=by
 obtain ⟨os,hos,hcs,hds⟩:=id hs;unfold Builtin.Slice.sliceApplied Builtin.Slice.sliceFields;refine wpAny_bind (wpAny_bind (wpAny_field hos hds (x:=vl) rfl (wpAny_bind (wpAny_field hos hds (x:=vu) rfl (wpAny_bind (wpAny_field hos hds (x:=.none) rfl (wpAny_pure ?_)))))));refine wpAny_bind (slicePart_none ?_);show wpAny _ _ (if ((1:Int)==0)=true then _ else _) _ _ s;rw [if_neg (by decide)];refine wpAny_bind (Ol pl (wpAny_bind (Ol pu (wpAny_bind (wpAny_pure ?_)))));show wpAny _ _ (match Builtin.Slice.sliceAdjust lo hi 1 (n:Int) with | (lo,hi)=>pure (lo,(1:Int),Builtin.Slice.slicePlaces lo hi 1)) _ _ s;rw [Wk lo hi n];show wpAny _ _ (pure (((sIx n 0 lo:Nat):Int),(1:Int),Builtin.Slice.slicePlaces ((sIx n 0 lo:Nat):Int) ((sIx n n hi:Nat):Int) 1)) _ _ s;rw [Wl];exact wpAny_pure h
theorem fL (xs:Array Value) (i k:Nat):((List.range k).filterMap fun (m:Nat)=>xs[((i:Int)+(m:Int) * 1).toNat]?).toArray=((xs.toList.drop i).take k).toArray:=by
 have e:(fun (m:Nat)=>xs[((i:Int)+(m:Int) * 1).toNat]?)=fun m=>xs[i+m]?:=by
  funext m;have:((i:Int)+(m:Int) * 1).toNat=i+m:=by omega
  rw [this]
 rw [e];have:=pick_run xs i k;rw [List.filterMap_map] at this;have e2:((fun x=>xs[x]?) ∘ fun x=>i+x)=fun m=>xs[i+m]?:=rfl
 rw [e2] at this;rw [this]
theorem getItem_tuple_cut {t sl:Addr}{items:Array Value}{vl vu:Value}{lo hi:Option Int}{Q:Value->Shared->Prop}(ht:IsTup s.heap t items) (hs:s.heap.IsSliceOf sl vl vu .none) (pl:IsPart vl lo) (pu:IsPart vu hi)
  (hw:¬ (sIx items.size 0 lo=0/\sIx items.size items.size hi=items.size))
  (h:Q (.ref s.heap.objs.size) { s with heap:=s.heap.push { cls:=.type "tuple",data:=.seq ((items.toList.drop (sIx items.size 0 lo)).take (sIx items.size items.size hi - sIx items.size 0 lo)).toArray } })
  (hsz:items.size<=sizeLine):wpAny (model prog w) A (getItem (.ref t) (.ref sl)) Q E s:=by
 have htake:sizeOk (.seq ((items.toList.drop (sIx items.size 0 lo)).take (sIx items.size items.size hi - sIx items.size 0 lo)).toArray):=by
  show ((items.toList.drop (sIx items.size 0 lo)).take (sIx items.size items.size hi - sIx items.size 0 lo)).toArray.size<=sizeLine;rw [List.size_toArray,List.length_take,List.length_drop,Array.length_toList];omega
 have hj:sIx items.size items.size hi<=items.size:=zR _ _ (Nat.le_refl _) hi;obtain ⟨os,hos,hcs,hds⟩:=id hs
 have hTs:s.TypeIs (.ref sl) "slice":=⟨os,hos,hcs⟩
 unfold getItem
 try with_reducible refine wpAny_holding ?_
 first | refine wpAny_bind (wpAny_pure ?_) | skip
 refine wpAny_bind (wpAny_sequenceKey ht.typeIs (by decide) ?_)
 refine wpAny_bind (wpAny_callSpecial?_slot (name:=Str.ofString "__getitem__") ht.typeIs PyProof.Rows.slot_tuple_getitem
  (wpAny_call_entry PyProof.Rows.slot_tuple_getitem ht.typeIs entry_tuple_getitem ?_ (args_tuple_getitem _ _)))
 show wpAny _ _ (Builtin.Tuple.tupleItemsOf (.ref t) >>= _) _ _ s;refine wpAny_bind (tupleItemsOf_ ht ?_);refine wpAny_bind (wpAny_typeOf hTs ?_);rw [if_pos (by decide)];refine wpAny_bind (sliceApplied_gen hs pl pu ?_);have hno:¬ ((((sIx items.size 0 lo:Nat):Int)==0&&(1:Int)==1&&(sIx items.size items.size hi - sIx items.size 0 lo)==items.size)=true):=by
  intro q;rw [Bool.and_eq_true,Bool.and_eq_true] at q;have q1:((sIx items.size 0 lo:Nat):Int)=0:=eq_of_beq q.1.1;have q2:sIx items.size items.size hi - sIx items.size 0 lo=items.size:=eq_of_beq q.2;exact hw ⟨by omega,by omega⟩
 show wpAny _ _ (if (((sIx items.size 0 lo:Nat):Int)==0&&(1:Int)==1&&(sIx items.size items.size hi - sIx items.size 0 lo)==items.size)=true then _ else _) _ _ s;rw [if_neg hno,fL]
 first
  | exact wpAny_bind (m:=Builtin.Tuple.tupleExact _) (wpAny_newObj_type (wpAny_pure ⟨_,rfl,wpAny_pure h⟩) htake)
  | exact wpAny_bind (m:=Builtin.Tuple.tupleExact _) (wpAny_newObj_type (wpAny_bind (wpAny_pure (wpAny_pure ⟨_,rfl,wpAny_pure h⟩))) htake)
  | exact wpAny_bind (wpAny_bind (m:=Builtin.Tuple.tupleExact _) (wpAny_newObj_type (wpAny_pure (wpAny_pure ⟨_,rfl,wpAny_pure h⟩)) htake))
  | exact wpAny_bind (wpAny_bind (m:=Builtin.Tuple.tupleExact _) (wpAny_newObj_type (wpAny_pure ⟨_,rfl,wpAny_pure h⟩) htake))
end
end HT
namespace L2
open PySem PySem.Spec PyProof.Rows
noncomputable abbrev TO:=St->Hp->(Option Int->Hp->Prop)->Prop
noncomputable def PO (X:Cx) (e:Option Expr) (t:TO):Prop :=
 ∀ (pins:List (Addr×Obj)) (s:Shared) (σ:St) (H:Hp) (Q:Option Int->Hp->Prop),Inv X pins σ H s->t σ H Q ->
  wpAny (model X.prog X.w) X.A (evalPart e X.env) (fun u s'=>∃ o H',Inv X pins σ H' s'/\IsPart u o/\Q o H') X.xe s
noncomputable def sG:TO:=fun _ H Q=>Q none H
noncomputable def Aeh (t:TE):TO:=fun σ H Q=>t σ H fun x H1=>∃ i,x=.int i/\Q (some i) H1
section
variable {X:Cx}{e:Expr}{te:TE}{lo hi:Option Expr}{tl th:TO}{pos p2:Pos}
theorem sH:PO X none sG:=by
 intro pins s σ H Q I h;rw [evalPart_none];exact wpAny_pure ⟨none,H,I,.none,h⟩
theorem sI (h:PE X e te):PO X (some e) (Aeh te):=by
 intro pins s σ H Q I hw;rw [evalPart_some];refine thn (h pins s σ H _ I hw) ?_;rintro u s1 ⟨x,H1,I1,r1,q1⟩;obtain ⟨i,rfl,q⟩:=q1;obtain ⟨t,rfl⟩:=r1;exact ⟨some i,H1,I1,.int i t,q⟩
noncomputable def SlR (X:Cx) (r:V->Option Int->Option Int->Hp->VK->Prop):Prop :=
 ∀ (pins:List (Addr×Obj)) (s:Shared) (σ:St) (H:Hp) (x:V) (v vl vu:Value) (lo hi:Option Int) (sl:Addr) (Q:VK),Inv X pins σ H s->Cg x v->s.heap.IsSliceOf sl vl vu .none->IsPart vl lo->IsPart vu hi->r x lo hi H Q ->
  ∃ T id,typeLookup (.type T) "__getitem__"=pure (some (.builtin id))/\s.TypeIs v T/\wpAny (model X.prog X.w) X.A (getItem v (.ref sl)) (EP X pins σ Q) X.xe s
theorem SlR.or {r r':V->Option Int->Option Int->Hp->VK->Prop}(h:SlR X r) (h':SlR X r'):SlR X (fun x lo hi H Q=>r x lo hi H Q\/r' x lo hi H Q):=by
 intro pins s σ H x v vl vu lo hi sl Q I rx hs pl pu q;rcases q with q|q
 ·exact h pins s σ H x v vl vu lo hi sl Q I rx hs pl pu q
 ·exact h' pins s σ H x v vl vu lo hi sl Q I rx hs pl pu q
noncomputable def tSl (r:V->Option Int->Option Int->Hp->VK->Prop) (te:TE) (tl th:TO):TE:=fun σ H Q=>te σ H fun x H1=>tl σ H1 fun l H2=>th σ H2 fun u H3=>r x l u H3 Q
theorem fM {r:V->Option Int->Option Int->Hp->VK->Prop}(hr:SlR X r) (he:PE X e te) (hl:PO X lo tl) (hu:PO X hi th):PE X (.Subscript e (.Slice lo hi none p2) pos) (tSl r te tl th):=by
 intro pins s σ H Q I h;refine Subscript_ (thn (he pins s σ H _ I h) ?_);rintro v s1 ⟨x,H1,I1,r1,q1⟩;refine wpAny_Slice (thn (hl pins s1 σ H1 _ I1 q1) ?_);rintro vl s2 ⟨l,H2,I2,pl,q2⟩;refine thn (hu pins s2 σ H2 _ I2 q2) ?_;rintro vu s3 ⟨u,H3,I3,pu,q3⟩;rw [evalPart_none];refine wpAny_pure ?_
 have I4:Inv X pins σ H3 { s3 with heap:=s3.heap.push { cls:=.type "slice",data:=.fields #[vl,vu,.none] } }:=I3.kept (t':=s3.toks) fun b ob q=>Heap.get?_push_of_some _ q
 obtain ⟨T,id,hT,ht,hg⟩:=hr pins { s3 with heap:=s3.heap.push { cls:=.type "slice",data:=.fields #[vl,vu,.none] } } σ H3 x v vl vu l u s3.heap.objs.size Q I4 r1 (Heap.IsSliceOf.new ..) pl pu q3
 show wpAny (model X.prog X.w) X.A (subscriptTail e (.Slice lo hi none p2) v (.ref s3.heap.objs.size)) (EP X pins σ Q) X.xe { s3 with heap:=s3.heap.push { cls:=.type "slice",data:=.fields #[vl,vu,.none] } };exact tail_any (ops:=[.ref s3.heap.objs.size,v]) ht hT hg (by with_unfolding_all rfl)
noncomputable def Um (xs:List V) (lo hi:Option Int):List V:=(xs.drop (HT.sIx xs.length 0 lo)).take (HT.sIx xs.length xs.length hi - HT.sIx xs.length 0 lo)
theorem Mp (xs:List V) (lo hi:Option Int):(Um xs lo hi).length<=xs.length:=by
 unfold Um;rw [List.length_take,List.length_drop];omega
noncomputable def Agh (K:PySem.W.Frag):V->Option Int->Option Int->Hp->VK->Prop:=fun x lo hi H Q=>∃ a xs,x=.ref a/\SqT K H a xs /\
 ¬ (HT.sIx xs.length 0 lo=0/\HT.sIx xs.length xs.length hi=xs.length)/\∀ p,H p=none->Q (.ref p) (upd H p (.tup (Um xs lo hi)))
theorem zT:SlR X (Agh X.K):=by
 intro pins s σ H x v vl vu lo hi sl Q I rx hs pl pu h;obtain ⟨a,xs,rfl,hx,hw,q⟩:=h;cases rx;obtain ⟨its,r,ht,hz⟩:=I.tuple hx;have hlen:its.toArray.size=xs.length:=by rw [List.size_toArray];exact r.length.symm
 refine ⟨"tuple",_,PyProof.Rows.slot_tuple_getitem.lookup,ht.typeIs,?_⟩;refine HT.getItem_tuple_cut ht hs pl pu (by rw [hlen];exact hw) ?_ (by rw [hlen];exact hz);rw [hlen];refine ⟨.ref s.heap.objs.size,_,I.laid (t':=s.toks) (o:=.tup (Um xs lo hi)) (fun b ob q=>Heap.get?_push_of_some _ q) (Nat.le_refl _) ?_,rfl,q _ (I.hok.fresh (Nat.le_refl _))⟩;exact ⟨Nat.le_trans (Mp xs lo hi) hz,_,(r.drop (HT.sIx xs.length 0 lo)).take (HT.sIx xs.length xs.length hi - HT.sIx xs.length 0 lo),Le.new _ _⟩
noncomputable def Aei (K:PySem.W.Frag):R2:=fun x y H Q=>∃ a b xs ys,x=.ref a/\y=.ref b/\SqT K H a xs/\SqT K H b ys/\xs≠[]/\xs.length+ys.length<=sizeLine /\
 (ys=[]->Q (.ref a) H)/\(ys≠[]->∀ p,H p=none->Q (.ref p) (upd H p (.tup (xs++ys))))
theorem Vals.nil_iff {xs:List V}{us:List Value}(r:Vals xs us):us=[] ↔ xs=[]:=by
 cases r with
 | nil=>simp
 | cons _ _=>simp
theorem sJ:OpR X (binaryOp .Add) (Aei X.K):=by
 intro pins s σ H x y v u Q I rx ry h;obtain ⟨a,b,xs,ys,rfl,rfl,ha,hb,hx,hz,q1,q2⟩:=h;cases rx;cases ry;obtain ⟨its,r1,p1,_⟩:=I.tuple ha;obtain ⟨its2,r2,p2,_⟩:=I.tuple hb;refine HT.cat_tup p1 p2 (fun z=>hx (r1.nil_iff.mp z)) (fun z=>⟨.ref a,H,I,rfl,q1 (r2.nil_iff.mp z)⟩) (fun z=>?_) (by rw [← r1.length,← r2.length];exact hz);refine ⟨.ref s.heap.objs.size,_,I.laid (t':=s.toks) (o:=.tup (xs++ys)) (fun b ob q=>Heap.get?_push_of_some _ q) (Nat.le_refl _) ?_,rfl,q2 (fun w=>z (r2.nil_iff.mpr w)) _ (I.hok.fresh (Nat.le_refl _))⟩;exact ⟨by rw [List.length_append];exact hz,_,r1.append r2,Le.new _ _⟩
end
noncomputable def ixN (n:Nat) (i:Int):Option Nat:=if 0<=i then (if i < n then some i.toNat else none) else if -(n:Int)<=i then some (i+n).toNat else none
noncomputable def atI {α:Type}(xs:List α) (i:Int):Option α:=(ixN xs.length i).bind fun j=>xs[j]?
theorem Yo {n:Nat}{i:Int}{j:Nat}(h:ixN n i=some j):seqIndex? i n=some j/\j < n/\-(n:Int)<=i/\i < n:=by
 unfold ixN at h
 by_cases h0:0<=i
 ·rw [if_pos h0] at h
  by_cases h1:i < n
  ·rw [if_pos h1] at h;have e:i.toNat=j:=Option.some.inj h;exact ⟨by rw [seqIndex_of h0 h1,e],by omega,by omega,h1⟩
  ·rw [if_neg h1] at h;cases h
 ·rw [if_neg h0] at h
  by_cases h1:-(n:Int)<=i
  ·rw [if_pos h1] at h;have e:(i+n).toNat=j:=Option.some.inj h;exact ⟨by rw [seqIndex_neg (by omega) h1,e],by omega,h1,by omega⟩
  ·rw [if_neg h1] at h;cases h
theorem R6 {α:Type}{xs:List α}{i:Int}{v:α}(h:atI xs i=some v):∃ j,seqIndex? i xs.length=some j/\xs[j]?=some v/\j < xs.length/\-(xs.length:Int)<=i/\i < xs.length:=by
 unfold atI at h;cases e:ixN xs.length i with
 | none=>rw [e] at h;cases h
 | some j =>
  rw [e] at h;obtain ⟨h1,h2,h3,h4⟩:=Yo e;exact ⟨j,h1,h,h2,h3,h4⟩
theorem R7 {α:Type}{xs:List α}{j:Nat}{v:α}(h:xs[j]?=some v):atI xs (j:Int)=some v:=by
 have hj:j < xs.length:=(List.getElem?_eq_some_iff.mp h).1;have e:ixN xs.length (j:Int)=some j:=by
  unfold ixN;rw [if_pos (by omega),if_pos (by omega)];simp
 unfold atI;rw [e];exact h
noncomputable def R8 (b:Expr):Prop:=∀ o i,subscripted b false o i=operate [o,i] (getItem o i)
noncomputable def IxR (X:Cx) (r:R2):Prop :=
 ∀ (value slice:Expr) (pins:List (Addr×Obj)) (s:Shared) (σ:St) (H:Hp) (x y:V) (v u:Value) (Q:VK),Inv X pins σ H s->Cg x v->Cg y u->r x y H Q ->
  subscripted slice false v u=operate [v,u] (getItem v u)->wpAny (model X.prog X.w) X.A (subscriptTail value slice v u) (EP X pins σ Q) X.xe s
noncomputable def MtR (X:Cx) (id:String) (r:V->List V->Hp->VK->Prop):Prop :=
 ∀ (pins:List (Addr×Obj)) (s:Shared) (σ:St) (H:Hp) (x:V) (xs:List V) (v:Value) (us:List Value) (Q:VK),Inv X pins σ H s->Cg x v->Vals xs us->r x xs H Q ->
  wpAny (model X.prog X.w) X.A (call (.builtin id) (v::us)) (EP X pins σ Q) X.xe s
section
variable {X:Cx}{a b:Expr}{ta tb:TE}{pos:Pos}
theorem IxR.or {r r':R2}(h:IxR X r) (h':IxR X r'):IxR X (fun x y H Q=>r x y H Q\/r' x y H Q):=by
 intro value slice pins s σ H x y v u Q I rx ry q hs;rcases q with q|q
 ·exact h value slice pins s σ H x y v u Q I rx ry q hs
 ·exact h' value slice pins s σ H x y v u Q I rx ry q hs
theorem Aej {r:R2}(hr:IxR X r) (ha:PE X a ta) (hb:PE X b tb) (hs:R8 b):PE X (.Subscript a b pos) (tOp r ta tb):=by
 intro pins s σ H Q I h;exact Subscript_ (yW ha hb I h fun v u s2 x y H2 I2 rx ry q=>hr a b pins s2 σ H2 x y v u Q I2 rx ry q (hs _ _))
noncomputable def Aek (K:PySem.W.Frag):R2:=fun x y H Q=>∃ p xs i v,x=.ref p/\y=.int i/\SqL K H p xs/\atI xs i=some v/\Q v H
noncomputable def Ael (K:PySem.W.Frag):R2:=fun x y H Q=>∃ p xs i v,x=.ref p/\y=.int i/\SqT K H p xs/\atI xs i=some v/\Q v H
noncomputable def Aem:R2:=fun x y H Q=>∃ z i c,x=.str z/\y=.int i/\z.length<=sizeLine/\atI z.cps.toList i=some c/\Q (.str ⟨#[c]⟩) H
theorem sO:IxR X (Aek X.K):=by
 intro value slice pins s σ H x y v u Q I rx ry h hs;obtain ⟨p,xs,i,z,rfl,rfl,hq,he,q⟩:=h;cases rx;obtain ⟨t,rfl⟩:=ry;obtain ⟨its,r,pl,hz⟩:=I.list hq;obtain ⟨j,h1,h2,h3,h4,h5⟩:=R6 he;obtain ⟨w,ew,rw'⟩:=r.get h2;have hl:=r.length;have hn:=Jy;have fin:EP X pins σ Q w s:=⟨z,H,I,rw',q⟩
 by_cases h0:0<=i
 ·have hj:i.toNat=j:=by
   rw [seqIndex_of h0 h5] at h1;exact Option.some.inj h1
  exact item_listR pl.isList h0 (by omega) (by rw [hj];simpa using ew) fin hs
 ·have hj:(i+(its.toArray.size:Int)).toNat=j:=by
   rw [seqIndex_neg (by omega) h4] at h1;rw [List.size_toArray,← hl];exact Option.some.inj h1
  exact subscriptTail_builtinR (x:=w) pl.isList.typeIs slot_list_getitem.lookup
   (wpAny_getItem_list_neg (Q:=fun r s'=>r=w/\EP X pins σ Q r s') pl.isList (by omega) (by rw [List.size_toArray] <;> omega) (by omega) (by rw [hj];simpa using ew) ⟨rfl,fin⟩) hs
theorem zU:IxR X (Ael X.K):=by
 intro value slice pins s σ H x y v u Q I rx ry h hs;obtain ⟨p,xs,i,z,rfl,rfl,hq,he,q⟩:=h;cases rx;obtain ⟨t,rfl⟩:=ry;obtain ⟨its,r,pl,hz⟩:=I.tuple hq;obtain ⟨j,h1,h2,h3,h4,h5⟩:=R6 he;obtain ⟨w,ew,rw'⟩:=r.get h2;have hl:=r.length;have hn:=Jy;have fin:EP X pins σ Q w s:=⟨z,H,I,rw',q⟩;exact subscriptTail_builtinR (x:=w) pl.typeIs slot_tuple_getitem.lookup
  (getItem_tuple (j:=j) (Q:=fun r s'=>r=w/\EP X pins σ Q r s') pl (by omega) (by omega) (by rw [List.size_toArray,← hl];exact h1) (by simpa using ew) ⟨rfl,fin⟩) hs
theorem zV:IxR X Aem:=by
 intro value slice pins s σ H x y v u Q I rx ry h hs;obtain ⟨z,i,c,rfl,rfl,hz,he,q⟩:=h;obtain ⟨t,rfl⟩:=rx;obtain ⟨t',rfl⟩:=ry;obtain ⟨j,h1,h2,h3,h4,h5⟩:=R6 he;have hl:z.cps.toList.length=z.length:=by simp [Str.length]
 rw [hl] at h1 h4 h5;have hn:=Jy
 exact tail_any (typeIs_str s z t) slot_str_getitem.lookup (getItem_str (c:=c) (by
  have e1:decide (i < -(2 ^ 63:Int))=false:=decide_eq_false (by omega);have e2:decide (i ≥ 2 ^ 63)=false:=decide_eq_false (by omega)
  rw [e1,e2,Bool.or_false]) (by rw [h1];simpa using h2) ⟨.str ⟨#[c]⟩,H,I.tok _,⟨_,rfl⟩,q⟩) hs
noncomputable def rIx (K:PySem.W.Frag):R2:=fun x y H Q=>Aek K x y H Q\/Ael K x y H Q\/Aem x y H Q
theorem zW:IxR X (rIx X.K):=sO.or (zU.or zV)
theorem Wm (its:List Value) (n j:Nat) (u:Value):Obj.mapSeq (·.setIfInBounds j u) { cls:=.type "list",data:=.seq its.toArray n }={ cls:=.type "list",data:=.seq (its.set j u).toArray n }:=by
 simp [Obj.mapSeq]
theorem Inv.lst {pins:List (Addr×Obj)}{σ:St}{H:Hp}{s:Shared}{p:Addr}{xs:List V}(I:Inv X pins σ H s) (h:H p=some (.lst xs)) :
  ∃ (its:List Value) (n:Nat),Vals xs its/\s.heap.get? p=some { cls:=.type "list",data:=.seq its.toArray n }/\xs.length<=sizeLine:=by
 obtain ⟨z,its,n,r,e⟩:=I.hok p _ h;exact ⟨its,n,r,e,z⟩
theorem Inv.lstUpd {pins:List (Addr×Obj)}{σ:St}{H:Hp}{s:Shared}{p:Addr}{xs ys:List V}{its its':List Value}{n n':Nat}{f:Obj->Obj}(I:Inv X pins σ H s) (h:H p=some (.lst xs))
  (ho:s.heap.get? p=some { cls:=.type "list",data:=.seq its.toArray n }) (hf:f { cls:=.type "list",data:=.seq its.toArray n }={ cls:=.type "list",data:=.seq its'.toArray n' }) (r:Vals ys its') (hz:ys.length<=sizeLine) (t:Nat) :
  Inv X pins σ (upd H p (.lst ys)) { s with heap:=s.heap.update p f,toks:=t }:=by
 have e:(s.heap.update p f).get? p=some { cls:=.type "list",data:=.seq its'.toArray n' }:=by
  rw [Heap.get?_update_self f ho (by rw [hf] <;> rfl),hf]
 refine I.write (x:=p) (e:=p) (by rw [h];trivial) (.inl rfl) (fun b u hb q=>(Heap.get?_update_other _ _ (Ne.symm hb)).trans q) ⟨_,e⟩ ?_;exact ⟨hz,its',n',r,e⟩
noncomputable def Aen:V->V->V->Hp->(Hp->Prop)->Prop:=fun o i v H Q=>∃ p xs k j,o=.ref p/\i=.int k/\H p=some (.lst xs)/\ixN xs.length k=some j/\Q (upd H p (.lst (xs.set j v)))
theorem set_list:Ad1 X Aen:=by
 intro pins s σ H o i v ov iv u Q I ro ri rv h;obtain ⟨p,xs,k,j,rfl,rfl,hp,hj,q⟩:=h;cases ro;obtain ⟨t,rfl⟩:=ri;obtain ⟨its,n,r,ho,hz⟩:=I.lst hp;obtain ⟨h1,h2,h3,h4⟩:=Yo hj;have hl:=r.length;have hn:=Jy;have I':Inv X pins σ (upd H p (.lst (xs.set j v))) { s with heap:=s.heap.update p (Obj.mapSeq (·.setIfInBounds j u)) } :=
  I.lstUpd hp ho (Wm its n j u) (r.set rv j) (by rw [List.length_set];exact hz) s.toks
 by_cases h0:0<=k
 ·have hk:k.toNat=j:=by
   rw [seqIndex_of h0 h4] at h1;exact Option.some.inj h1
  exact PySem.W.ki_setAt ho h0 (by omega) (by rw [List.size_toArray,← hl];exact h4) (by rw [hk];exact ⟨_,I',q⟩)
 ·have hk:(k+(its.toArray.size:Int)).toNat=j:=by
   rw [seqIndex_neg (by omega) h3] at h1;rw [List.size_toArray,← hl];exact Option.some.inj h1
  exact PySem.W.ki_setBack ho (by omega) (by rw [List.size_toArray,← hl];exact h3) (by omega) (by rw [hk];exact ⟨_,I',q⟩)
theorem R9 (lo hi:Option Int) (n:Nat):(sliceBounds lo hi none n).1=((HT.sIx n 0 lo:Nat):Int)/\(sliceBounds lo hi none n).2.1=((HT.sIx n n hi:Nat):Int)/\(sliceBounds lo hi none n).2.2=1:=by
 refine ⟨?_,?_,rfl⟩
 ·cases lo with
  | none=>simp [sliceBounds,HT.sIx]
  | some i =>
   simp only [sliceBounds,HT.sIx,Option.getD_none,show (1:Int) > 0 by decide,if_true]
   by_cases h:i < 0
   ·simp only [h,if_true] <;> omega
   ·simp only [h,if_false] <;> omega
 ·cases hi with
  | none=>simp [sliceBounds,HT.sIx]
  | some i =>
   simp only [sliceBounds,HT.sIx,Option.getD_none,show (1:Int) > 0 by decide,if_true]
   by_cases h:i < 0
   ·simp only [h,if_true] <;> omega
   ·simp only [h,if_false] <;> omega
theorem Qo (its:List Value) (lo hi:Option Int):slicePick its.toArray lo hi none=((its.drop (HT.sIx its.length 0 lo)).take (HT.sIx its.length its.length hi - HT.sIx its.length 0 lo)).toArray:=by
 obtain ⟨h1,h2,h3⟩:=R9 lo hi its.toArray.size;unfold slicePick;rw [h1,h2,h3];simp only [sliceRange_one,pick_run,List.size_toArray] <;> rfl
noncomputable def Agi (K:PySem.W.Frag):V->Option Int->Option Int->Hp->VK->Prop:=fun x lo hi H Q=>∃ a xs,x=.ref a/\SqL K H a xs/\∀ p,H p=none->Q (.ref p) (upd H p (.lst (Um xs lo hi)))
theorem sS:SlR X (Agi X.K):=by
 intro pins s σ H x v vl vu lo hi sl Q I rx hs pl pu h;obtain ⟨a,xs,rfl,hx,q⟩:=h;cases rx;obtain ⟨its,r,ht,hz⟩:=I.list hx;have hlen:=r.length
 refine ⟨"list",_,slot_list_getitem.lookup,ht.isList.typeIs,?_⟩;refine wpAny_getItem_list_slice ht.isList hs pl pu .none (by simp) ?_ (by rw [List.size_toArray] <;> omega);rw [Qo,← hlen];refine ⟨.ref s.heap.objs.size,_,I.laid (t':=s.toks) (o:=.lst (Um xs lo hi)) (fun b ob q=>Heap.get?_push_of_some _ q) (Nat.le_refl _) ?_,rfl,q _ (I.hok.fresh (Nat.le_refl _))⟩;exact ⟨Nat.le_trans (Mp xs lo hi) hz,_,0,(r.drop (HT.sIx xs.length 0 lo)).take (HT.sIx xs.length xs.length hi - HT.sIx xs.length 0 lo),Heap.get?_push_size _ rfl⟩
theorem Sd:Dd X (.builtin "len") (fun xs H Q=>∃ p ys,xs=[.ref p]/\(SqL X.K H p ys\/SqT X.K H p ys)/\Q (.int ys.length) H):=by
 intro pins s σ H xs us Q I r h;obtain ⟨p,ys,rfl,hq,q⟩:=h;obtain ⟨u,rfl,rx⟩:=vals1 r;cases rx;have hn:=Jy;rcases hq with hq|hq
 ·obtain ⟨its,r',pl,hz⟩:=I.list hq;have hlen:=r'.length;exact Calls.call_len_list pl.isList (by simp only [List.size_toArray] <;> omega) ⟨.int ys.length,H,I.tok _,⟨s.toks+1,by rw [List.size_toArray,hlen]⟩,q⟩
 ·obtain ⟨its,r',pl,hz⟩:=I.tuple hq;have hlen:=r'.length;exact len_tuple pl (by simp only [List.size_toArray] <;> omega) ⟨.int ys.length,H,I.tok _,⟨s.toks+1,by rw [List.size_toArray,hlen]⟩,q⟩
theorem Sg:Dd X (.builtin "len") (fun xs H Q=>∃ z,xs=[.str z]/\z.length<=sizeLine/\Q (.int z.length) H):=by
 intro pins s σ H xs us Q I r h;obtain ⟨z,rfl,hz,q⟩:=h;obtain ⟨u,rfl,t,rfl⟩:=vals1 r;have hn:=Jy;exact len_str (by omega) ⟨.int z.length,H,I.tok _,⟨_,rfl⟩,q⟩
theorem Dd.or {f:Value}{r r':List V->Hp->VK->Prop}(h:Dd X f r) (h':Dd X f r'):Dd X f (fun xs H Q=>r xs H Q\/r' xs H Q):=by
 intro pins s σ H xs us Q I rs q;rcases q with q|q
 ·exact h pins s σ H xs us Q I rs q
 ·exact h' pins s σ H xs us Q I rs q
theorem Sh:Dd X (.type "list") (fun xs H Q=>∃ p ys,xs=[.ref p]/\(SqL X.K H p ys\/SqT X.K H p ys)/\∀ l,H l=none->Q (.ref l) (upd H l (.lst ys))):=by
 intro pins s σ H xs us Q I r h;obtain ⟨p,ys,rfl,hq,q⟩:=h;obtain ⟨u,rfl,rx⟩:=vals1 r;cases rx;have fin:∀ (its:List Value),Vals ys its->ys.length<=sizeLine->∀ (h':Heap) (c':Nat),(∀ b o',s.heap.get? b=some o'->h'.get? b=some o') ->
   h'.get? s.heap.objs.size=some { cls:=.type "list",dict:=none,data:=.seq its.toArray c',slots:=#[] }->EP X pins σ Q (.ref s.heap.objs.size) { s with heap:=h' }:=fun its r' hz h' c' kp e =>
  ⟨.ref s.heap.objs.size,_,I.laid (t':=s.toks) kp (Nat.le_refl _) (show Fy X.prog X.w _ h' _ (.lst ys) from ⟨hz,its,c',r',e⟩),rfl,q _ (I.hok.fresh (Nat.le_refl _))⟩
 rcases hq with hq|hq
 ·obtain ⟨its,r',pl,hz⟩:=I.list hq;have hlen:=r'.length;obtain ⟨o,ho,hc,n,hd⟩:=pl.isList;exact call_list_seq p (.inl rfl) ho hc hd (fun h' c' kp e=>fin its r' hz h' c' kp e) (by simp only [List.size_toArray] <;> omega)
 ·obtain ⟨its,r',pl,hz⟩:=I.tuple hq;have hlen:=r'.length;obtain ⟨o,ho,hc,n,hd⟩:=pl;exact call_list_seq p (.inr rfl) ho hc hd (fun h' c' kp e=>fin its r' hz h' c' kp e) (by simp only [List.size_toArray] <;> omega)
theorem Qp:Dd X (.type "tuple") (fun xs H Q=>∃ p ys,xs=[.ref p]/\((SqL X.K H p ys/\∀ l,H l=none->Q (.ref l) (upd H l (.tup ys)))\/(SqT X.K H p ys/\Q (.ref p) H))):=by
 intro pins s σ H xs us Q I r h;obtain ⟨p,ys,rfl,h⟩:=h;obtain ⟨u,rfl,rx⟩:=vals1 r;cases rx;rcases h with ⟨hq,q⟩|⟨hq,q⟩
 ·obtain ⟨its,r',pl,hz⟩:=I.list hq;have hlen:=r'.length;refine call_tuple_list pl.isList (fun h' kp=>?_) (by simp only [List.size_toArray] <;> omega);have I1:Inv X pins σ H { s with heap:=h' }:=I.kept (t':=s.toks) kp
  have I2:Inv X pins σ (upd H h'.objs.size (.tup ys)) { s with heap:=h'.push { cls:=.type "tuple",data:=.seq its.toArray } } :=
   I1.laid (t':=s.toks) (fun b o e=>Heap.get?_push_of_some _ e) (Nat.le_refl _) (show Fy X.prog X.w _ _ _ (.tup ys) from ⟨hz,its,r',Le.new _ _⟩)
  exact ⟨.ref h'.objs.size,_,I2,rfl,q _ (I1.hok.fresh (Nat.le_refl _))⟩
 ·obtain ⟨its,r',pl,hz⟩:=I.tuple hq;exact call_tuple_same pl ⟨.ref p,H,I,rfl,q⟩
noncomputable def tyV (K:PySem.W.Frag) (T:String) (x:V) (H:Hp):Prop:=match x with
 | .str _=>T = "str"
 | .int _=>T = "int"
 | .ref p=>(T = "list"/\∃ xs,SqL K H p xs)\/(T = "tuple"/\∃ xs,SqT K H p xs) \/
   (T = "dict"/\((∃ kvs,H p=some (.dK kvs))\/∃ kvs,H p=some (.dT kvs)))\/(T = "set"/\∃ S n,H p=some (.set S n))
 | _=>False
theorem fO {pins:List (Addr×Obj)}{σ:St}{H:Hp}{s:Shared}{T:String}{x:V}{v:Value}(I:Inv X pins σ H s) (r:Cg x v) (ty:tyV X.K T x H) :
  s.TypeIs v T/\∀ a,v=.ref a->∃ ob,s.heap.get? a=some ob/\ob.dict=none:=by
 cases x with
 | str z =>
  obtain ⟨t,rfl⟩:=r
  cases (show T = "str" from ty);exact ⟨typeIs_str s z t,fun _ e=>nomatch e⟩
 | int i =>
  obtain ⟨t,rfl⟩:=r
  cases (show T = "int" from ty);exact ⟨typeIs_int s i t,fun _ e=>nomatch e⟩
 | ref p =>
  cases r;rcases ty with ⟨rfl,xs,hq⟩|⟨rfl,xs,hq⟩|⟨rfl,hk⟩|⟨rfl,S,n,hk⟩
  ·obtain ⟨its,_,pl,_⟩:=I.list hq;refine ⟨pl.isList.typeIs,fun a e=>?_⟩;cases e;obtain ⟨o,n,e,c,hd,_⟩:=pl;exact ⟨o,e,hd⟩
  ·obtain ⟨its,_,⟨o,e,c,d,n,dd⟩,_⟩:=I.tupleP hq;refine ⟨⟨o,e,c⟩,fun a e2=>?_⟩;cases e2;exact ⟨o,e,d⟩
  ·have z:∃ o,s.heap.get? p=some o/\o.ExactDict:=by
    rcases hk with ⟨kvs,hk⟩|⟨kvs,hk⟩
    ·obtain ⟨_,_,_,_,o,_,_,e,ex,_⟩:=I.hok p _ hk;exact ⟨o,e,ex⟩
    ·obtain ⟨_,_,_,_,o,_,_,e,ex,_⟩:=I.hok p _ hk;exact ⟨o,e,ex⟩
   obtain ⟨o,e,ex⟩:=z;refine ⟨⟨o,e,ex.1⟩,fun a e2=>?_⟩;cases e2;exact ⟨o,e,ex.2.1⟩
  ·obtain ⟨o,_,_,_,e,ex,_⟩:=I.hok p _ hk;refine ⟨⟨o,e,ex.1⟩,fun a e2=>?_⟩;cases e2;exact ⟨o,e,ex.2.1⟩
 | _=>exact False.elim ty
noncomputable def Agj (K:PySem.W.Frag) (T:String) (r:V->List V->Hp->VK->Prop) (to:TE):TE:=fun σ H Q=>to σ H fun x H1=>tyV K T x H1/\r x [] H1 Q
noncomputable def tBM (K:PySem.W.Frag) (T:String) (r:V->List V->Hp->VK->Prop) (to:TE) (t:TA):TE:=fun σ H Q=>to σ H fun x H1=>tyV K T x H1/\t σ H1 fun xs H2=>r x xs H2 Q
variable {o e:Expr}{es:List Expr}{to:TE}{t:TA}{name:Str}{apos cpos:Pos}{T id:String}{r:V->List V->Hp->VK->Prop}
theorem zX (pa:PlainAttrs T) (slot:Slot T name id) (hty:typeOf (.builtin id)=pure (.type "method_descriptor")) (hm:MtR X id r) (ho:PE X o to)
  (hbase:attributeBase o name X.env (eval o X.env)=eval o X.env:=by rfl) (hline:(apos.endLine==cpos.line)=true:=by rfl):PE X (.Call (.Attribute o name apos) [] [] cpos) (Agj X.K T r to):=by
 intro pins s σ H Q I h;refine wpAny_Call_method0_late hbase hline (thn (ho pins s σ H _ I h) ?_);rintro v s1 ⟨x,H1,I1,r1,ty,q1⟩;obtain ⟨h1,h2⟩:=fO I1 r1 ty;exact ⟨T,id,pa,slot,hty,h1,h2,Calls.callWith_builtin rfl (PySem.evalArgs_none (hm pins s1 σ H1 x [] v [] Q I1 r1 .nil q1))⟩
theorem Aeo (pa:PlainAttrs T) (slot:Slot T name id) (hty:typeOf (.builtin id)=pure (.type "method_descriptor")) (hm:MtR X id r) (ho:PE X o to) (ha:PA X (e::es) t)
  (hbase:attributeBase o name X.env (eval o X.env)=eval o X.env:=by rfl)
  (hfew:((backTo cpos (starEach (e::es) X.env)).all (fun x=>!x.1)&&(backToKw cpos (keywordEach [] X.env)).all (fun x=>x.1.isSome)
   && decide ((e::es).length+([]:List Keyword).length+(if ([]:List Keyword).isEmpty then 0 else 1) < 30))=true:=by rfl)
  (hline:(apos.endLine==cpos.line)=true:=by rfl) (hs:starEach (e::es) X.env=(false,eval e X.env)::starEach es X.env:=by rfl) (hplain:(backTo cpos (starEach es X.env)).any (·.1)=false:=by rfl) :
  PE X (.Call (.Attribute o name apos) (e::es) [] cpos) (tBM X.K T r to t):=by
 intro pins s σ H Q I h;refine wpAny_Call_method_late hbase hfew hline rfl (thn (ho pins s σ H _ I h) ?_);rintro v s1 ⟨x,H1,I1,r1,ty,q1⟩;obtain ⟨h1,h2⟩:=fO I1 r1 ty;refine ⟨T,id,pa,slot,hty,h1,h2,?_⟩;have hA:=ha cpos pins s1 σ H1 _ I1 q1;rw [hs] at hA ⊢;refine Calls.callWith_builtin (by show (false || (backTo cpos (starEach es X.env)).any (·.1))=false;rw [hplain] <;> rfl) (Calls.evalArgs_plain ?_);refine thn hA ?_;rintro us s2 ⟨vs,H2,I2,r2,q2⟩;exact hm pins s2 σ H2 x vs v us Q I2 r1 r2 q2
end
noncomputable def MtM (X:Cx) (id:String) (r:V->List V->Hp->VK->Prop):Prop :=
 ∀ (pins:List (Addr×Obj)) (s:Shared) (σ:St) (H:Hp) (x:V) (xs:List V) (v:Value) (us:List Value) (Q:VK),Inv X pins σ H s->Cg x v->Vals xs us->r x xs H Q ->
  wpAny (model X.prog X.w) X.A (call (.builtin id) (v::us)) (EP X pins σ Q) X.xe s
theorem Vals.one {x:V}{us:List Value}(h:Vals [x] us):∃ u,us=[u]/\Cg x u:=by
 cases h with
 | cons r t=>cases t;exact ⟨_,rfl,r⟩
theorem Vals.two {x y:V}{us:List Value}(h:Vals [x,y] us):∃ u v,us=[u,v]/\Cg x u/\Cg y v:=by
 cases h with
 | cons r t =>
  obtain ⟨v,e,q⟩:=Vals.one t;subst e;exact ⟨_,_,rfl,r,q⟩
theorem Vals.zero:∀ {us:List Value},Vals [] us->us=[]
 | _,.nil=>rfl
theorem Vals.eraseIdx:∀ {xs:List V}{us:List Value}(i:Nat),Vals xs us->Vals (xs.eraseIdx i) (us.eraseIdx i)
 | _,_,_,.nil=>.nil
 | _,_,0,.cons _ t=>t
 | _,_,i+1,.cons r t=>.cons r (Vals.eraseIdx i t)
theorem Vals.reverse {xs:List V}{us:List Value}(h:Vals xs us):Vals xs.reverse us.reverse:=by
 induction h with
 | nil=>exact .nil
 | cons r t ih=>rw [List.reverse_cons,List.reverse_cons];exact Vals.append ih (.cons r .nil)
theorem Vals.rep {xs:List V}{us:List Value}(h:Vals xs us):∀ k:Nat,Vals (List.replicate k xs).flatten (List.replicate k us).flatten
 | 0=>.nil
 | k+1=>by
  rw [List.replicate_succ,List.replicate_succ,List.flatten_cons,List.flatten_cons];exact Vals.append h (Vals.rep h k)
theorem foldl_rep (its:List Value):∀ (k:Nat) (acc:List Value),
  List.foldl (fun x1 x2=>x1++x2) acc.toArray (List.replicate k its.toArray)=(acc++(List.replicate k its).flatten).toArray
 | 0,acc=>by simp
 | k+1,acc=>by
  have e:acc.toArray++its.toArray=(acc++its).toArray:=by simp
  have e2:(acc++its)++(List.replicate k its).flatten=acc++(List.replicate (k+1) its).flatten:=by
   rw [List.replicate_succ,List.flatten_cons,List.append_assoc]
  rw [← e2,← foldl_rep its k (acc++its),← e,List.replicate_succ,List.foldl_cons]
section
variable {X:Cx}{pins:List (Addr×Obj)}{σ:St}{H:Hp}{s:Shared}{l b:Addr}{xs ys zs:List V}
theorem Inv.lset {its its':List Value}{n:Nat}{f:Array Value->Array Value}{t':Nat}(I:Inv X pins σ H s) (hH:H l=some (.lst xs))
  (e:s.heap.get? l=some { cls:=.type "list",data:=.seq its.toArray n }) (hf:f its.toArray=its'.toArray) (hv:Vals ys its') (hz:ys.length<=sizeLine) :
  Inv X pins σ (upd H l (.lst ys)) { s with heap:=s.heap.update l (Obj.mapSeq f),toks:=t' }:=by
 have q:=PySem.IsL.update e f;rw [hf] at q;refine I.write (x:=l) (e:=l) (by rw [hH];exact trivial) (.inl rfl) (fun b' u hb hu=>(Heap.get?_update_other s.heap (Obj.mapSeq f) (Ne.symm hb)).trans hu) ⟨_,q⟩ ?_;exact ⟨hz,its',_,hv,q⟩
theorem Inv.lnew {its:List Value}{t':Nat}(I:Inv X pins σ H s) (hv:Vals ys its) (hz:ys.length<=sizeLine) :
  Inv X pins σ (upd H s.heap.objs.size (.lst ys)) { s with heap:=s.heap.push { cls:=.type "list",data:=.seq its.toArray },toks:=t' } :=
 I.laid (fun _ _ q=>Heap.get?_push_of_some _ q) (Nat.le_refl _) ⟨hz,its,0,hv,Heap.get?_push_size _ rfl⟩
theorem Inv.fresh (I:Inv X pins σ H s):H s.heap.objs.size=none:=I.hok.fresh (Nat.le_refl _)
theorem Inv.lstM (I:Inv X pins σ H s) (hH:H l=some (.lst xs)):xs.length<=sizeLine/\∃ (its:List Value) (n:Nat),Vals xs its/\xs.length=its.length/\s.heap.get? l=some { cls:=.type "list",data:=.seq its.toArray n }:=by
 obtain ⟨z,its,n,r,e⟩:=I.hok l _ hH;exact ⟨z,its,n,r,r.length,e⟩
theorem fP {n:Nat}(h:n<=sizeLine):Builtin.List.listTooLong n=false:=by
 unfold Builtin.List.listTooLong;exact decide_eq_false (by omega)
end
section
variable {X:Cx}
noncomputable def sU:V->List V->Hp->VK->Prop:=fun x vs H Q=>∃ l xs y,x=.ref l/\vs=[y]/\H l=some (.lst xs)/\xs.length < sizeLine/\Q .non (upd H l (.lst (xs++[y])))
theorem aW:MtM X "list.append" sU:=by
 intro pins s σ H x vs v us Q I rx rv h;obtain ⟨l,xs,y,rfl,rfl,hH,hz,q⟩:=h;cases rx;obtain ⟨u,rfl,ru⟩:=rv.one;obtain ⟨z,its,n,r,hl,e⟩:=I.lstM hH;refine call_meets F.slot_list_append ⟨_,e,rfl⟩ F.entry_list_append (F.args_list_append_2 _ _) (PySem.list_append l its.toArray n u (by rw [List.size_toArray];omega)) ⟨e,?_⟩;refine ⟨.non,_,I.lset (its':=its++[u]) hH e (by simp) (r.append (.cons ru .nil)) ?_,rfl,q⟩;rw [List.length_append,List.length_singleton];omega
noncomputable def Agk:R2:=fun x y H Q=>∃ l b xs zs,x=.ref l/\y=.ref b/\H l=some (.lst xs)/\H b=some (.lst zs)/\xs.length+zs.length<=sizeLine/\∀ p,H p=none->Q (.ref p) (upd H p (.lst (xs++zs)))
theorem zY:OpR X (binaryOp .Add) Agk:=by
 intro pins s σ H x y v u Q I rx ry h;obtain ⟨l,b,xs,zs,rfl,rfl,hH,hB,hz,q⟩:=h;cases rx;cases ry;obtain ⟨z,its,n,r,hl,e⟩:=I.lstM hH;obtain ⟨z2,its2,n2,r2,hl2,e2⟩:=I.lstM hB;refine PySem.P.add_list e e2 ?_ (by rw [List.size_toArray,List.size_toArray];omega);have ea:its.toArray++its2.toArray=(its++its2).toArray:=by simp
 rw [ea];exact ⟨.ref _,_,I.lnew (t':=s.toks) (r.append r2) (by rw [List.length_append];omega),rfl,q _ I.fresh⟩
noncomputable def Agl:R2:=fun x y H Q=>∃ l k xs,x=.ref l/\y=.int k/\H l=some (.lst xs)/\-(2 ^ 63)<=k/\k < 2 ^ 63/\xs.length * k.toNat<=sizeLine /\
 ∀ p,H p=none->Q (.ref p) (upd H p (.lst (List.replicate k.toNat xs).flatten))
theorem len_rep {α:Type}(xs:List α) (k:Nat):(List.replicate k xs).flatten.length=k * xs.length:=by
 induction k with
 | zero=>simp
 | succ k ih=>rw [List.replicate_succ,List.flatten_cons,List.length_append,ih,Nat.succ_mul,Nat.add_comm]
theorem zZ:OpR X (binaryOp .Mult) Agl:=by
 intro pins s σ H x y v u Q I rx ry h;obtain ⟨l,k,xs,rfl,rfl,hH,h1,h2,hz,q⟩:=h;cases rx;obtain ⟨t,rfl⟩:=ry;obtain ⟨z,its,n,r,hl,e⟩:=I.lstM hH;have hlen:its.toArray.size * k.toNat<=sizeLine:=by rw [List.size_toArray,← hl];exact hz
 have hcap:¬ its.toArray.size * k.toNat > (2 ^ 63 - 1) / 8:=by
  have:(sizeLine:Nat)<=(2 ^ 63 - 1) / 8:=by decide
  omega
 have hfit:¬ (!Builtin.List.listFitsIndex k)=true:=by
  rw [fitsIndex_both h1 h2];exact Bool.false_ne_true
 have hlong:¬ Builtin.List.listTooLong (its.toArray.size * k.toNat)=true:=by
  rw [fP hlen];exact Bool.false_ne_true
 have hnew:List.foldl (fun x1 x2=>x1++x2) #[] (List.replicate (if its.toArray.isEmpty=true then 0 else k.toNat) its.toArray)=(List.replicate k.toNat its).flatten.toArray:=by
  have f0:∀ m:Nat,List.foldl (fun x1 x2=>x1++x2) #[] (List.replicate m its.toArray)=(List.replicate m its).flatten.toArray:=fun m=>by
   have:=foldl_rep its m [];rw [List.nil_append] at this;exact this
  rw [f0];cases its with
  | nil=>simp
  | cons a r'=>rw [if_neg (by simp)]
 refine wpAny_binaryOp_repeat_ref (T := "list") (U := "int") (by decide) ⟨_,e,rfl⟩ (fun s'=>typeIs_int s' k t) noFill_list_mul F.fills_int_mul F.slot_int_rmul repeat_list F.slot_int_index.lookup
  (call_meets F.slot_int_rmul (typeIs_int s k t) F.entry_int_rmul (F.args_int_rmul_2 _ _) (int___rmul___int_list k t l its.toArray n)
   ⟨e,rfl,⟨_,e,rfl⟩,call_meets F.slot_list_mul ⟨_,e,rfl⟩ F.entry_list_mul (F.args_list_mul_2 _ _) (AutoListH.list___mul___list_int_3 l its.toArray n k t hfit hcap hlong) ⟨e,?_⟩⟩)
 rw [hnew];exact ⟨.ref _,_,I.lnew (t':=s.toks) (r.rep k.toNat) (by rw [len_rep,Nat.mul_comm];exact hz),rfl,q _ I.fresh⟩
end
section
variable {prog:Program}{w:World}{A:Around}{E:Value->Shared->Prop}{s:Shared}
end
section
variable {X:Cx}
end
end L2
namespace Att
open PySem PySem.W PySem.Calls PyProof.Rows
theorem Ng {P:Params}{h:Heap}:∀ (ns:List Int) (vs:List Value),WellAll P h vs (ns.map WData.int)->IntsAre vs ns:=by
 intro ns
 induction ns with
 | nil =>
  intro vs w;rw [List.map_nil] at w;cases w;exact .nil
 | cons n ns ih =>
  intro vs w;rw [List.map_cons] at w;cases w with
  | cons a b =>
   cases a;exact .cons _ _ (ih _ b)
theorem aX {l:OpenLaw}{n:Nat}(hn:l.most=some n) {P:Params}{h:Heap}{args:List WData}{vals:List Value}
  (hpre:l.row.toRowW.claim.pre args=true) (hwl:WellAll P h vals args) :
  ∃ a vs ns,vals=[Value.ref a]/\args=[WData.list (ns.map WData.int)]/\h.get? a=some { cls:=.type "list",data:=.seq vs.toArray }/\IntsAre vs ns/\ns.length<=n:=by
 have hsh:WShape.hasAll [] args [.list .int]=true:=(pre_splitW hpre).1;have hc:l.pre.holds [] { args:=args }=true:=(pre_splitW hpre).2;obtain ⟨d,r,rfl,h1,h2⟩:=hasAllW_cons hsh;obtain rfl:=hasAllW_nil h2;obtain ⟨xs,rfl,h3⟩:=hasW_list h1;obtain ⟨ns,rfl⟩:=items_int h3;have hlen:ns.length<=n:=by
  unfold OpenLaw.pre at hc;have h4:(WTm.not (.lt (.lit (.int (n:Int))) (.len (.arg 0)))).holds [] { args:=[.list (ns.map .int)] }=true:=by
   have h4:=(holds_andW hc).1;rw [hn] at h4;exact h4
  have h5:=condW_of h4 (w_not (w_lt w_lit (w_len_list (w_arg rfl))));rw [List.length_map] at h5;refine Nat.le_of_not_lt fun q=>?_
  have q':(n:Int) < ((ns.length:Nat):Int):=by omega
  first
   | (rw [decide_eq_true q'] at h5;exact absurd h5 (by decide))
   | (simp at h5;omega)
 cases hwl with
 | cons w1 w2 =>
  cases w2;cases w1 with
  | list ho hall=>exact ⟨_,_,ns,rfl,rfl,ho,Ng ns _ hall,hlen⟩
theorem aY (l:OpenLaw) (args:List WData):l.row.toRowW.claim.post args (.bool true) args=true :=
 postW_of (r:=l.row.toRowW) (X:=(true==true))
  (show WShape.has [] (.bool true) .bool=true by first | rfl | decide | simp [WShape.has,WShape.arms,WShape.armsAll])
  (show (WTm.eq .res (.lit (.bool true))).value [] { args:=args,res:=some (.bool true),after:=args }=some (.bool (true==true)) from w_eq_bool (w_res rfl) w_lit) rfl
theorem attach_call {l:OpenLaw}{n:Nat}{q:Program}{loose:List Str}{XP:(Str->Option Value)->Heap->Prop}{YP:World->Heap->Prop}{d:DefRec}
  (hn:l.most=some n) (hdf:d.params.defaults=[])
  (call:∀ (w:World) (s₀ s₁:Shared) (mg mb:Str->Option Value) (fa:Addr) (o:Obj) (pm cd doc:Value) (a:Addr) (vs:List Value) (ns:List Int),
   Ground q loose [] XP w s₀ mg mb s₁.heap->YP w s₁.heap ->
   s₁.heap.get? fa=some o->o.data=.func (docDef d.name d.params d.body d.scope pm cd doc)->s₁.heap.CodeRec cd d.name->mg d.name=some (.ref fa) ->
   s₁.heap.get? a=some { cls:=.type "list",data:=.seq vs.toArray }->IntsAre vs ns->ns.length<=n->s₁.gens=#[] ->
   codeAny (model l.prog w) callerA (.call (.ref fa) ⟨[.ref a],[]⟩) (fun r s'=>r=.ok (.ret (.bool true))/\OldK s₁.heap s'.heap/\s'.os=s₁.os/\AllBare s'.gens) s₁) :
  WalkO q loose XP YP l.row.toRowW d [] (fun f vs=>PySem.call f vs):=by
 intro w s₀ s₁ mg mb G Y fa o pm cd doc dV kV ho hd hcd hD hmg hg args vals as hpre hlay hrd hwl hlo;obtain rfl:dV=.none:=Dflts.none hD hdf;obtain rfl:kV=.none:=Dflts.noKw hD;obtain ⟨a,vs,ns,rfl,rfl,hobj,hints,hlen⟩:=aX hn hpre hwl;refine enter_call (codeAny_mono (call w s₀ s₁ mg mb fa o pm cd doc a vs ns G Y ho (fd_plain hd) hcd hmg hobj hints hlen hg) fun r s' hq=>?_);obtain ⟨rfl,h2,h3,h4⟩:=hq;exact ⟨.inl ⟨.bool true,.bool true,[],rfl,fun _=>rfl,.bool true,aY l _,fun _=>⟨List.Pairwise.nil,fun _ hm=>(nomatch hm)⟩⟩,h2,h3,h4⟩
section
variable {prog:Program}{w:World}{A:Around}{E:Value->Shared->Prop}{s:Shared}{K:Frag}
end
end Att
namespace L2
open PySem PySem.Spec PyProof.Rows
theorem Iz:∀ {vs:List Value}{ns:List Int},IntsAre vs ns->Vals (ns.map V.int) vs
 | _,_,.nil=>.nil
 | _,_,.cons n t h=>.cons ⟨t,rfl⟩ (Iz h)
noncomputable def Only (H:Hp):Prop:=∀ b,H b=none\/∃ o xs,H b=some (.frz o (.lst xs))
theorem fQ {P:Program}{w:World}{K:PySem.W.Frag}{mg mb:Str->Option Value}{CX:CXT}{k:Nat}{fa a:Addr}{fd:FuncData}{x:Str}{sp:Sp}{s₁:Shared}{vs:List Value}{ns:List Int}
  (KX:K.In s₁.heap) (hns:s₁.heap.Ns mainGlobals mg) (hb:s₁.heap.Ns builtinsNs mb) (hbb:∀ x:Str,x ≠ "__name__"->mb x=bootBuiltins x) (hlim:s₁.heap.NoLimit) (hg:s₁.gens=#[])
  (ha:s₁.heap.get? a=some { cls:=.type "list",data:=.seq vs.toArray }) (hi:IntsAre vs ns) (hl:ns.length<=sizeLine) (hr:Room k callerA)
  (F:∀ base:Heap,K.In base->base.Ns mainGlobals mg->FnOk P w K mg base CX k fa fd [x] sp) (hbind:∀ (s:Shared) (u:Value),BindsTo s fd ⟨[u],[]⟩ [(x,u)])
  (hsp:∀ H:Hp,Only H->SqL K H a (ns.map V.int)->sp [.ref a] H (fun v _=>v=.bl true) fun _ _ _=>False)
  (hCX:∀ H e s',CX [] H s₁ (fun _ _ _=>False) e s'->False) :
  codeAny (model P w) callerA (.call (.ref fa) ⟨[.ref a],[]⟩) (fun r s'=>r=.ok (.ret (.bool true))/\OldK s₁.heap s'.heap/\s'.os=s₁.os/\AllBare s'.gens) s₁:=by
 have rv:=Iz hi;have lenV:=hi.length
 -- from an abstract heap in which nothing but the script may be tracked
 have core:∀ H:Hp,Only H->SqL K H a (ns.map V.int)->HOk P w H s₁.heap->(∀ b,H b≠none->b=a)->(H a≠none->K.lookup a=none) ->
   codeAny (model P w) callerA (.call (.ref fa) ⟨[.ref a],[]⟩) (fun r s'=>r=.ok (.ret (.bool true))/\OldK s₁.heap s'.heap/\s'.os=s₁.os/\AllBare s'.gens) s₁:=by
  intro H hO hS hok hA hK;have base_of:∀ {b:Addr} {o:Obj},s₁.heap.get? b=some o->H b=none->(R0 s₁.heap H).get? b=some o:=fun e n=>eE e n
  have noA:∀ {b:Addr} {o:Obj} {es:Array DictEntry} {ep:Nat},s₁.heap.get? b=some o->o.data=.dict es ep->H b=none:=fun {b o es ep} e d=>by
   cases q:H b with
   | none=>rfl
   | some u =>
    have e':b=a:=hA b (by rw [q];simp);subst e';rw [ha] at e;cases e;have d':Data.seq vs.toArray _=Data.dict es ep:=d;cases d'
  have nsK:∀ {b:Addr} {m:Str->Option Value},s₁.heap.Ns b m->(R0 s₁.heap H).Ns b m:=fun {b m} ⟨o,es,ep,e,d,r⟩=>⟨o,es,ep,base_of e (noA e d),d,r⟩
  have hKb:K.In (R0 s₁.heap H):=fun b o e=>base_of (KX b o e) (by
   cases q:H b with
   | none=>rfl
   | some u =>
    have e':b=a:=hA b (by rw [q];simp);subst e'
    rw [hK (by rw [q];simp)] at e;cases e)
  have hM:Mod K mg (R0 s₁.heap H):=⟨hKb,nsK hns,⟨mb,nsK hb,hbb⟩,let ⟨mc,h1,h2⟩:=hlim;⟨mc,nsK h1,h2⟩⟩;have e0:Env0 P w K mg (R0 s₁.heap H) callerA [] s₁ H:=⟨rfl,hM,fun b o e=>rA e,Nat.le_of_eq (aK _ _),trivial,fun b hb=>absurd (show b∈([]:List Addr) from hb) (by simp),hok,.of_eq hg⟩;refine codeAny_mono ((F _ hKb (nsK hns)).run callerA [] s₁ H ⟨[.ref a],[]⟩ [.ref a] [.ref a] _ _ hr e0 (hbind s₁ (.ref a)) (.cons rfl .nil) (hsp H hO hS)) fun r s' h=>?_
  cases r with
  | error e=>exact (hCX H e s' h).elim
  | ok fl =>
   cases fl with
   | next=>exact False.elim h
   | brk=>exact False.elim h
   | cont=>exact False.elim h
   | ret u =>
    obtain ⟨v,H',os,bare,un,hok',r',q⟩:=h;have q':v=.bl true:=q;subst q';obtain rfl:u=Value.bool true:=r';refine ⟨rfl,OldK.of_keep fun b o e=>?_,os,bare⟩;cases q:H b with
    | none=>exact un.keep b o e q (by intro z;exact absurd (show b∈([]:List Addr) from z) (by simp)) (by simp)
    | some u =>
     rcases hO b with z|⟨ob,xs,z⟩
     ·rw [q] at z;cases z
     ·have z2:=un.frzs b ob _ z;obtain ⟨e1,_⟩:=hok b _ z;obtain ⟨e2,_⟩:=hok' b _ z2;rw [e] at e1;cases e1;exact e2
 cases hk:K.lookup a with
 | some o =>
  -- the script is one of the module's own objects
  have e:=KX a o hk;rw [ha] at e;cases e;refine core (fun _=>none) (fun _=>.inl rfl) (.inr ⟨_,vs.toArray,_,hk,rfl,rfl,rfl,by rw [List.size_toArray,lenV];exact hl,by simpa using rv⟩) (fun b u z=>by have z':(none:Option HO)=some u:=z;cases z') (fun b z=>absurd rfl z) fun z=>absurd rfl z
 | none =>
  refine core (fun b=>if b=a then some (.frz { cls:=.type "list",data:=.seq vs.toArray } (.lst (ns.map V.int))) else none) (fun b=>?_) (.inl (.inr ⟨{ cls:=.type "list",data:=.seq vs.toArray },if_pos rfl⟩)) (fun b u z=>?_) (fun b z=>?_) fun _=>hk
  ·by_cases hb:b=a
   ·exact .inr ⟨_,_,if_pos hb⟩
   ·exact .inl (if_neg hb)
  ·by_cases hb:b=a
   ·have z':=(if_pos hb).symm.trans z;cases z';subst hb;exact ⟨ha,by rw [List.length_map];exact hl,vs,_,rv,ha⟩
   ·have z':=(if_neg hb).symm.trans z;cases z'
  ·by_cases hb:b=a
   ·exact hb
   ·exact absurd (if_neg hb) z
theorem sV {l:PySem.W.OpenLaw}{n k:Nat}{q:Program}{loose:List Str}{XP:(Str->Option Value)->Heap->Prop}{YP:World->Heap->Prop}{d:DefRec}{K:Params->PySem.W.Frag}{CX:World->CXT}{sp:World->Sp}{x:Str}
  (hn:l.most=some n) (hn2:n<=sizeLine) (hdf:d.params.defaults=[]) (hr:Room k callerA)
  (hY:∀ (w:World) (h:Heap),YP w h->(K w.params).In h)
  (F:∀ (w:World) (mg:Str->Option Value) (fa:Addr) (h:Heap),(K w.params).In h->h.Ns mainGlobals mg->mg d.name=some (.ref fa) ->
   ∃ fd:FuncData,(∀ (s:Shared) (u:Value),BindsTo s fd ⟨[u],[]⟩ [(x,u)]) /\
    ∀ base:Heap,(K w.params).In base->base.Ns mainGlobals mg->FnOk l.prog w (K w.params) mg base (CX w) k fa fd [x] (sp w))
  (hsp:∀ (w:World) (H:Hp) (a:Addr) (ns:List Int),ns.length<=n->Only H->SqL (K w.params) H a (ns.map V.int)->sp w [.ref a] H (fun v _=>v=.bl true) fun _ _ _=>False)
  (hCX:∀ (w:World) (H:Hp) (s:Shared) (e:Value) (s':Shared),CX w [] H s (fun _ _ _=>False) e s'->False) :
  PySem.W.WalkO q loose XP YP l.row.toRowW d [] (fun f vs=>PySem.call f vs):=by
 refine Att.attach_call hn hdf fun w s₀ s₁ mg mb fa o pm cd doc a vs ns G Y ho hd hcd hmg hobj hints hlen hg=>?_
 have KX:=hY w _ Y;obtain ⟨fd,hb,hF⟩:=F w mg fa _ KX G.T.g hmg;exact fQ KX G.T.g G.T.b G.T.builtins G.T.nolimit hg hobj hints (Nat.le_trans hlen hn2) hr hF hb (fun H hO hS=>hsp w H a ns hlen hO hS) fun H e s'=>hCX w H s₁ e s'
noncomputable def Em (s:Stmt):Arguments:=match s with
 | .FunctionDef _ a _ _ _ _ _ _ _ _=>a
 | _=>{ posonlyargs:=[],args:=[],vararg:=none,kwonlyargs:=[],kw_defaults:=[],kwarg:=none,defaults:=[] }
noncomputable def Dl (s:Stmt):List Stmt:=match s with
 | .FunctionDef _ _ b _ _ _ _ _ _ _=>b
 | _=>[]
noncomputable def Bk (s:Stmt):Scope:=match s with
 | .FunctionDef _ _ _ _ _ _ sc _ _ _=>sc
 | _=>{ kind:=.function,names:=[],isGenerator:=false,isCoroutine:=false }
noncomputable abbrev CX0:CXT:=fun _ _ _ _ _ _=>False
noncomputable abbrev E0:XK:=fun _ _ _=>False
theorem Ra {X:Cx}:Dv CX0 X E0:=fun _ _ _ _ _ _ _ h=>h.elim
structure Fun (K:PySem.W.Frag) (x qual:Str) (st:Stmt) (f:Addr) (fd:FuncData):Prop where
 ex:∃ (oc:Value) (od:Option Addr) (kV doc pm:Value) (an:Option Addr) (cdv ct:Value) (osl:Array (Option Value)),
  fd=PySem.W.fnOf x qual (Em st) (Dl st) (Bk st) .none kV doc pm an cdv ct/\K.lookup f=some ⟨oc,od,.func fd,osl⟩/\PySem.W.codeIn K cdv qual=true
 kp:PySem.W.keepIn K (.ref f)=true
section
variable {P:Program}{w:World}{K:PySem.W.Frag}{mg:Str->Option Value}{base:Heap}
theorem Fun.ok {x qual:Str}{st:Stmt}{f:Addr}{fd:FuncData}{N ps:List Str}{k:Nat}{sp:Sp}(F:Fun K x qual st f fd) (S:FnScope N ps (Bk st)) (len:∀ vs H Q E,sp vs H Q E->vs.length=ps.length)
  (hbody:∀ (cdv:Value) (A:Around) (outer:List Env) (s:Shared) (H:Hp) (vs:List V) (Q:VK) (E:XK),Room k (A.deeper (envOfC qual (Bk st) s.heap.objs.size f cdv))->sp vs H Q E ->
   ∃ t,PSs (aU CX0 P w K mg base N qual (Bk st) f cdv A outer s H E).nox (Dl st) t/\t { nx:=fun _ H'=>Q .non H',rt:=Q } (start N vs) H):FnOk P w K mg base CX0 (k+1) f fd ps sp:=by
 obtain ⟨oc,od,kV,doc,pm,an,cdv,ct,osl,rfl,lk,hcd⟩:=F.ex;refine Aeg lk hcd S len fun A outer s H vs Q E hr hsp=>?_
 obtain ⟨t,h,q⟩:=hbody cdv A outer s H vs Q E hr hsp;exact ⟨t,h.nox,q⟩
theorem Wn {x qual:Str}{st:Stmt}{f:Addr}{oc:Value}{od an:Option Addr}{osl:Array (Option Value)}{kV doc pm cdv ct:Value}(l:K.lookup f=some ⟨oc,od,.func (PySem.W.fnOf x qual (Em st) (Dl st) (Bk st) .none kV doc pm an cdv ct),osl⟩)
  (c:PySem.W.codeIn K cdv qual=true) (k:PySem.W.keepIn K (.ref f)=true):Fun K x qual st f (PySem.W.fnOf x qual (Em st) (Dl st) (Bk st) .none kV doc pm an cdv ct):=⟨⟨oc,od,kV,doc,pm,an,cdv,ct,osl,rfl,l,c⟩,k⟩
end
section
variable {X:Cx}
end
theorem Uo {A B:Prop}(h:B):if false=true then A else B:=by
 rw [if_neg Bool.false_ne_true];exact h
theorem Uq {A B:Prop}(h:A):if true=true then A else B:=by
 rw [if_pos rfl];exact h
section
variable {κ:Type} [DecidableEq κ]
noncomputable def Nh (kvs:List (κ×V)) (k:κ):Option V:=(kvs.find? fun kv=>decide (kv.1=k)).map (·.2)
noncomputable def putK (kvs:List (κ×V)) (k:κ) (v:V):List (κ×V) :=
 if (kvs.any fun kv=>decide (kv.1=k))=true then kvs.map (fun kv=>if kv.1=k then (kv.1,v) else kv) else kvs++[(k,v)]
theorem Om {p:κ×V}{r:List (κ×V)}{k:κ}(e:p.1=k):Nh (p::r) k=some p.2:=by simp [Nh,List.find?_cons,e]
theorem Oo {p:κ×V}{r:List (κ×V)}{k:κ}(e:¬ p.1=k):Nh (p::r) k=Nh r k:=by simp [Nh,List.find?_cons,e]
theorem Ke.isSome_eq {o:Option V}{u:Option Value}(r:Ke o u):o.isSome=u.isSome:=by
 cases o with
 | none=>cases u with
  | none=>rfl
  | some _=>exact (show False from r).elim
 | some _=>cases u with
  | none=>exact (show False from r).elim
  | some _=>rfl
theorem KV.val {kvs:List (κ×V)}{vs:List (κ×Value)}(r:KV kvs vs) (k:κ):Ke (Nh kvs k) (valueAt vs k):=by
 unfold KV at r
 induction r with
 | nil=>exact True.intro
 | @cons p q ps qs h t ih =>
  obtain ⟨h1,h2⟩:=h
  by_cases e:p.1=k
  ·have e':q.1=k:=h1.symm.trans e;have b:valueAt (q::qs) k=some q.2:=by simp [valueAt,List.find?_cons,e']
   rw [Om e,b];exact h2
  ·have e':¬ q.1=k:=fun z=>e (h1.trans z)
   have b:valueAt (q::qs) k=valueAt qs k:=by simp [valueAt,List.find?_cons,e']
   rw [Oo e,b];exact ih
theorem KV.any {kvs:List (κ×V)}{vs:List (κ×Value)}(r:KV kvs vs) (k:κ):(kvs.any fun kv=>decide (kv.1=k))=vs.any fun kv=>decide (kv.1=k):=by
 unfold KV at r
 induction r with
 | nil=>rfl
 | cons h t ih=>rw [List.any_cons,List.any_cons,ih,h.1]
theorem KV.repl {kvs:List (κ×V)}{vs:List (κ×Value)}(r:KV kvs vs) (k:κ) {y:V}{u:Value}(ry:Cg y u) :
  KV (kvs.map fun kv=>if kv.1=k then (kv.1,y) else kv) (vs.map fun kv=>if kv.1=k then (kv.1,u) else kv):=by
 unfold KV at r ⊢
 induction r with
 | nil=>exact .nil
 | @cons p q ps qs h t ih =>
  rw [List.map_cons,List.map_cons];refine .cons ?_ ih;obtain ⟨h1,h2⟩:=h
  by_cases e:p.1=k
  ·rw [if_pos e,if_pos (h1.symm.trans e)];exact ⟨h1,ry⟩
  ·rw [if_neg e,if_neg (fun z=>e (h1.trans z))];exact ⟨h1,h2⟩
theorem KV.put {kvs:List (κ×V)}{vs:List (κ×Value)}(r:KV kvs vs) (k:κ) {y:V}{u:Value}(ry:Cg y u):KV (putK kvs k y) (stored vs k u):=by
 unfold putK stored;rw [r.any k]
 by_cases e:(vs.any fun kv=>decide (kv.1=k))=true
 ·rw [if_pos e,if_pos e];exact r.repl k ry
 ·rw [if_neg e,if_neg e];exact Paired.snoc r ⟨rfl,ry⟩
end
noncomputable abbrev KT (H:Hp):List (List Key×V)->List (List Key×Addr×Value)->Prop:=Paired fun p q=>p.1=q.1/\H q.2.1=some (.tup (p.1.map kV))/\Cg p.2 q.2.2
theorem KT.val {H:Hp}{kvs:List (List Key×V)}{xs:List (List Key×Addr×Value)}(r:KT H kvs xs) (k:List Key):Ke (Nh kvs k) ((atKey xs k).map (·.2)):=by
 induction r with
 | nil=>exact True.intro
 | @cons p q ps qs h t ih =>
  obtain ⟨h1,_,h2⟩:=h
  by_cases e:p.1=k
  ·have e':q.1=k:=h1.symm.trans e;have b:atKey (q::qs) k=some q.2:=by simp [atKey,List.find?_cons,e']
   rw [Om e,b];exact h2
  ·have e':¬ q.1=k:=fun z=>e (h1.trans z)
   have b:atKey (q::qs) k=atKey qs k:=by simp [atKey,List.find?_cons,e']
   rw [Oo e,b];exact ih
section
variable {P:Program}{w:World}{H:Hp}{h:Heap}{a:Addr}
end
noncomputable def Aep (H:Hp) (a:Addr) (y:V) (r:Option V):Prop :=
 (∃ kvs k,Rd H a (.dK kvs)/\y=kV k/\r=Nh kvs k)\/∃ kvs k b,Rd H a (.dT kvs)/\y=.ref b/\H b=some (.tup (k.map kV))/\r=Nh kvs k
theorem Aep.k {H:Hp}{a:Addr}{kvs:List (Key×V)}{k:Key}(e:H a=some (.dK kvs)):Aep H a (kV k) (Nh kvs k):=.inl ⟨kvs,k,.inl e,rfl,rfl⟩
section
variable {X:Cx}{pins:List (Addr×Obj)}{σ:St}{H:Hp}{s:Shared}{a:Addr}{y v:V}{u r:Value}{o:Option V}{A:Around}{E:Value->Shared->Prop}
theorem Inv.big (I:Inv X pins σ H s):sysModules < s.heap.objs.size:=by
 have h:mainGlobals < s.heap.objs.size:=(I.mod.glob.keeps I.bk).lt;exact Nat.lt_trans (by decide) h
end
section
variable {X:Cx}{pins:List (Addr×Obj)}{σ:St}{H:Hp}{s:Shared}{a:Addr}{kvs:List (Key×V)}{k:Key}{u:Value}{A:Around}{E:Value->Shared->Prop}
end
section
variable {X:Cx}{o i e value:Expr}{pos pos' tpos:Pos}{td ty tv:TE}
end
section
variable {X:Cx}{pos:Pos}
end
section
variable {X:Cx}{pins:List (Addr×Obj)}{σ:St}{H:Hp}{s:Shared}{a:Addr}{y d:V}{u r:Value}{o:Option V}{A:Around}{E:Value->Shared->Prop}
end
section
variable {X:Cx}{o e f:Expr}{apos cpos:Pos}{td ty tx:TE}
end
section
variable {X:Cx}{pins:List (Addr×Obj)}{σ:St}{H:Hp}{s:Shared}{a:Addr}{kvs:List (Key×V)}{A:Around}{E:Value->Shared->Prop}
end
section
variable {X:Cx}{pins:List (Addr×Obj)}{σ:St}{H:Hp}{s:Shared}{a:Addr}{y:V}{u:Value}{A:Around}{E:Value->Shared->Prop}
end
theorem Oq {α β:Type}(g:α->β->β):∀ (l:List α) (f:α->β->Sem (ForInStep β)) (c:β),(∀ x∈l,∀ c,f x c=pure (.yield (g x c)))->forIn l c f=pure (l.foldl (fun c x=>g x c) c)
 | [],f,c,_=>by rw [List.forIn_nil];rfl
 | x::r,f,c,h=>by
  rw [List.forIn_cons,h x List.mem_cons_self];show (forIn r (g x c) f)=_;rw [Oq g r f (g x c) fun y hy=>h y (List.mem_cons_of_mem _ hy)];rfl
noncomputable def Mq (env:Env) (x:Str×NameKind) (cs:List (Str×Addr)):List (Str×Addr):=if x.2==.free then (x.1,(env.cells.lookup x.1).getD 0)::cs else cs
noncomputable def G5 (env:Env) (names:List (Str×NameKind)):List (Str×Addr):=names.foldl (fun c x=>Mq env x c) []
theorem Jp {scope:Scope}{env:Env}(h:∀ x∈scope.names,x.2=.free->∃ c,env.cells.lookup x.1=some c):closureFor scope env=pure (G5 env scope.names):=by
 unfold closureFor G5;dsimp only;rw [Oq (Mq env)]
 ·rfl
 ·intro x hx c;obtain ⟨n,k⟩:=x;dsimp only;unfold Mq
  by_cases e:(k==NameKind.free)=true
  ·obtain ⟨a,ha⟩:=h _ hx (beq_iff_eq.mp e);have ha':List.lookup n env.cells=some a:=ha;dsimp only;rw [if_pos e,if_pos e];unfold cellOf;rw [ha'];rfl
  ·dsimp only;rw [if_neg e,if_neg e]
theorem Jz {env:Env}:∀ (names:List (Str×NameKind)) (acc:List (Str×Addr)) (x:Str) (c:Addr),(x,c)∈names.foldl (fun c x=>Mq env x c) acc->(x,c)∈acc\/((x,NameKind.free)∈names/\c=(env.cells.lookup x).getD 0)
 | [],acc,x,c,h=>.inl h
 | (n,k)::r,acc,x,c,h=>by
  rcases Jz r _ x c h with q|⟨q1,q2⟩
  ·unfold Mq at q;dsimp only at q;split at q
   ·rename_i e;have e:=beq_iff_eq.mp e;rcases List.mem_cons.mp q with q|q
    ·cases q;exact .inr ⟨by rw [e];exact List.mem_cons_self,rfl⟩
    ·exact .inl q
   ·exact .inl q
  ·exact .inr ⟨List.mem_cons_of_mem _ q1,q2⟩
theorem Ot {env:Env}:∀ (names:List (Str×NameKind)) (acc:List (Str×Addr)) (x:Str),(acc.lookup x).isSome=true\/(x,NameKind.free)∈names->((names.foldl (fun c x=>Mq env x c) acc).lookup x).isSome=true
 | [],acc,x,h=>by
  rcases h with h|h
  ·exact h
  ·exact absurd h (by simp)
 | (n,k)::r,acc,x,h=>by
  refine Ot r _ x ?_;unfold Mq;rcases h with h|h
  ·left;dsimp only;split
   ·rw [List.lookup_cons];split
    ·rfl
    ·exact h
   ·exact h
  ·rcases List.mem_cons.mp h with h|h
   ·cases h;left;dsimp only;rw [if_pos (by rfl),List.lookup_cons];simp
   ·exact .inr h
theorem Sq {env:Env}{names:List (Str×NameKind)}{x:Str}{c:Addr}(h:(G5 env names).lookup x=some c):(x,NameKind.free)∈names/\c=(env.cells.lookup x).getD 0:=by
 rcases Jz names [] x c (PySem.mem_of_lookup h) with q|q
 ·exact absurd q (by simp)
 ·exact q
theorem Rb {env:Env}{names:List (Str×NameKind)}{x:Str}(h:(x,NameKind.free)∈names):(G5 env names).lookup x=some ((env.cells.lookup x).getD 0):=by
 obtain ⟨c,e⟩:=Option.isSome_iff_exists.mp (Ot (env:=env) names [] x (.inr h));rw [show G5 env names=names.foldl (fun c x=>Mq env x c) [] from rfl,e,(Sq e).2]
theorem Fi:∀ (names:List (Str×NameKind)) (n:Nat) (acc:List (Str×Addr)) (x:Str) (c:Addr),(x,c)∈cellsFrom n names acc->(x,c)∈acc\/(n<=c/\(x,NameKind.cell)∈names)
 | [],_,_,_,_,h=>.inl h
 | (y,k)::r,n,acc,x,c,h=>by
  unfold cellsFrom at h;split at h
  ·rename_i e;have e:=beq_iff_eq.mp e;rcases Fi r (n+1) _ x c h with q|⟨q1,q2⟩
   ·rcases List.mem_cons.mp q with q|q
    ·cases q;exact .inr ⟨Nat.le_refl _,by rw [e];exact List.mem_cons_self⟩
    ·exact .inl q
   ·exact .inr ⟨by omega,List.mem_cons_of_mem _ q2⟩
  ·rcases Fi r n acc x c h with q|⟨q1,q2⟩
   ·exact .inl q
   ·exact .inr ⟨q1,List.mem_cons_of_mem _ q2⟩
theorem G9:∀ (names:List (Str×NameKind)) (n lo:Nat) (acc:List (Str×Addr)) (x:Str) (c:Addr),lo<=n->((x,NameKind.cell)∈names\/∀ c',acc.lookup x=some c'->lo<=c')->(cellsFrom n names acc).lookup x=some c->lo<=c
 | [],_,_,acc,x,c,_,h,e=>by
  rcases h with h|h
  ·exact absurd h (by simp)
  ·exact h c e
 | (y,k)::r,n,lo,acc,x,c,hl,h,e=>by
  unfold cellsFrom at e;split at e
  ·rename_i ek;refine G9 r (n+1) lo _ x c (by omega) ?_ e;rcases h with h|h
   ·rcases List.mem_cons.mp h with h|h
    ·cases h;right;intro c' hc;rw [List.lookup_cons] at hc;rw [beq_self_eq_true] at hc;cases hc;exact hl
    ·exact .inl h
   ·right;intro c' hc;rw [List.lookup_cons] at hc;split at hc
    ·cases hc;omega
    ·exact h c' hc
  ·rename_i ek;refine G9 r n lo acc x c hl ?_ e;rcases h with h|h
   ·rcases List.mem_cons.mp h with h|h
    ·cases h;exact absurd rfl ek
    ·exact .inl h
   ·exact .inr h
theorem Hf:∀ (names:List (Str×NameKind)) (n:Nat) (acc:List (Str×Addr)),(∀ x y c,(x,c)∈acc->(y,c)∈acc->x=y)->(∀ x c,(x,c)∈acc->c < n) ->
  ∀ x y c,(x,c)∈cellsFrom n names acc->(y,c)∈cellsFrom n names acc->x=y
 | [],_,_,h,_=>h
 | (z,k)::r,n,acc,h,hb=>by
  unfold cellsFrom;split
  ·refine Hf r (n+1) _ (fun x y c hx hy=>?_) fun x c hx=>?_
   ·rcases List.mem_cons.mp hx with hx | hx <;> rcases List.mem_cons.mp hy with hy|hy
    ·cases hx;cases hy;rfl
    ·cases hx;exact absurd (hb _ _ hy) (Nat.lt_irrefl _)
    ·cases hy;exact absurd (hb _ _ hx) (Nat.lt_irrefl _)
    ·exact h x y c hx hy
   ·rcases List.mem_cons.mp hx with hx|hx
    ·cases hx;exact Nat.lt_succ_self _
    ·exact Nat.lt_succ_of_lt (hb x c hx)
  ·exact Hf r n acc h hb
theorem Gp:∀ (names:List (Str×NameKind)) (h:Heap) (acc:List (Str×Addr)) (x:Str) (c:Addr),(∀ x c,(x,c)∈acc->∃ v,h.IsCell c v)->(x,c)∈cellsFrom h.objs.size names acc->∃ v,(pushCells h names).IsCell c v
 | [],h,acc,x,c,hb,e=>hb x c e
 | (y,k)::r,h,acc,x,c,hb,e=>by
  unfold cellsFrom at e;unfold pushCells;split at e
  ·rename_i ek;rw [if_pos ek];refine Gp r _ ((y,h.objs.size)::acc) x c (fun x c hx=>?_) (by rw [Heap.size_push];exact e);rcases List.mem_cons.mp hx with hx|hx
   ·cases hx;exact ⟨none,_,Heap.get?_push_size _ rfl,rfl⟩
   ·obtain ⟨v,q⟩:=hb x c hx;exact ⟨v,q.keeps fun b o e=>Heap.get?_push_of_some _ e⟩
  ·rename_i ek;rw [if_neg ek];exact Gp r h acc x c hb e
theorem Gq:∀ (names:List (Str×NameKind)) (h:Heap),h.objs.size<=(pushCells h names).objs.size
 | [],h=>Nat.le_refl _
 | (y,k)::r,h=>by
  unfold pushCells;split
  ·refine Nat.le_trans ?_ (Gq r _);rw [Heap.size_push];omega
  ·exact Gq r h
theorem Ur {M:Model}{A:Around}{E:Value->Shared->Prop}{s:Shared}{scope:Scope}{globals:Addr}{cl:List (Str×Addr)}{qual:Str}{env:Env}{Q:Env->Shared->Prop}
  (hQ:Q (newEnv scope s.heap.objs.size globals (cellsFrom (s.heap.objs.size+1) scope.names cl) qual none .none (some env) builtinsNs) { s with heap:=pushCells (s.heap.push { cls:=.type "dict",data:=.dict #[] }) scope.names }) :
  wpAny M A (newFunctionEnv scope globals cl [] qual none .none (some env)) Q E s:=by
 simp only [newFunctionEnv,Option.isSome_some,if_true];refine wpAny_bind (wpAny_alloc ?_);refine wpAny_bind (wpAny_layCells _ (fun name kind cells=>by cases hkc:kind==NameKind.cell <;> simp [hkc]) _ _ _ _ ?_)
 rw [show ({ s with heap:=s.heap.push { cls:=.type "dict",data:=.dict #[] } }:Shared).heap.objs.size=s.heap.objs.size+1 from Heap.size_push ..];rw [List.forIn_nil];exact wpAny_bind (wpAny_pure (wpAny_pure hQ))
theorem Fj {α:Type}:∀ {l:List (Str×α)}{n:Str}{c:α},(l.map (·.1)).Nodup->(n,c)∈l->l.lookup n=some c
 | [],_,_,_,h=>absurd h (by simp)
 | (k,v)::r,n,c,nd,h=>by
  rw [List.map_cons,List.nodup_cons] at nd;rw [List.lookup_cons];rcases List.mem_cons.mp h with q|q
  ·cases q;rw [beq_self_eq_true]
  ·have:(n==k)=false:=by
    rw [beq_eq_false_iff_ne];intro e;subst e;exact nd.1 (List.mem_map.mpr ⟨(n,c),q,rfl⟩)
   rw [this];exact Fj nd.2 q
theorem Gr {env:Env}(scope:Scope) (x:Str):(relabel scope env).names.lookup x=(scope.names.lookup x).map fun k=>if (k==.free&&env.scope.kind==.function&&env.kindOf x==some .cell) then .cell else k:=by
 show (scope.names.map _).lookup x=_
 induction scope.names with
 | nil=>rfl
 | cons a r ih =>
  obtain ⟨n,k⟩:=a;rw [List.map_cons];dsimp only;rw [List.lookup_cons (b:=k)]
  by_cases e:(x==n)=true
  ·rw [e];have e':=beq_iff_eq.mp e;subst e';dsimp only;split
   ·rename_i hc;rw [List.lookup_cons,e];simp only [Option.map_some,hc,if_true]
   ·rename_i hc;rw [List.lookup_cons,e];rw [Option.map_some,if_neg hc]
  ·have e2:(x==n)=false:=by simpa using e
   rw [e2];dsimp only;split
   ·rw [List.lookup_cons,e2];exact ih
   ·rw [List.lookup_cons,e2];exact ih
structure CompOk (X:Cx) (scope:Scope):Prop where
 kind:scope.kind=.function
 nd:(scope.names.map (·.1)).Nodup
 fr:∀ x∈scope.names,x.2=.free->X.env.kindOf x.1=some .cell\/X.env.kindOf x.1=some .free
noncomputable def Dm (X:Cx) (pins:List (Addr×Obj)) (N':List Str) (scope:Scope) (C:Addr) (cells:List (Str×Addr)) (s₀:Shared) (H₀:Hp) (fp:List Addr):Cx where
 prog:=X.prog
 w:=X.w
 K:=X.K
 mg:=X.mg
 base:=X.base
 A:=X.A
 N:=N'
 s₀:=s₀
 H₀:=H₀
 env:={ scope:=relabel scope X.env,locals:=C,globals:=X.env.globals,cells:=cells,qual:=X.env.qual,func:=none,code:=X.env.code,frame:=X.env.frame,builtins:=X.env.builtins }
 outer:=X.stack
 stack:=X.stack
 ex:=fp
 fn:=fun x=>decide ((x,NameKind.cell)∈scope.names)
 calm:=X.calm
 pn:=X.pn++pins
 xe:=fun _ _=>False
noncomputable def Cap (X:Cx) (N':List Str) (scope:Scope) (σ σ0:St):Prop:=σ0.length=N'.length/\∀ (i:Nat) (x:Str) (v:V),N'[i]?=some x->σ0[i]?=some (some v) ->
 scope.names.lookup x=some .free/\∃ j:Nat,X.N[j]?=some x/\σ[j]?=some (some v)
noncomputable abbrev Bt (its:List Value) (n:Nat):Obj:={ cls:=.type "list",data:=.seq its.toArray n }
section
variable {X:Cx}{pins:List (Addr×Obj)}{σ:St}{H:Hp}{s:Shared}
theorem Wo {N':List Str}{scope:Scope}{fp:List Addr}{σ0:St}(I:Inv X pins σ H s) (S:CompOk X scope) (hf:∀ b∈fp,Kf X pins H b) (hb:∀ b∈fp,∃ o,s.heap.get? b=some o) (hσ:Cap X N' scope σ σ0) :
    Inv (Dm X pins N' scope (s.heap.objs.size+1) (cellsFrom (s.heap.objs.size+1+1) scope.names (G5 X.env scope.names)) s H fp) [(s.heap.objs.size,Bt [] 0)] σ0 H
      { s with heap:=pushCells ((s.heap.push (Bt [] 0)).push { cls:=.type "dict",data:=.dict #[] }) scope.names }:=by
  have sz1:(s.heap.push (Bt [] 0)).objs.size=s.heap.objs.size+1:=Heap.size_push ..
  have sz2:((s.heap.push (Bt [] 0)).push { cls:=.type "dict",data:=.dict #[] }).objs.size=s.heap.objs.size+1+1:=by rw [Heap.size_push,sz1]
  have keep:∀ b o,s.heap.get? b=some o->(pushCells ((s.heap.push (Bt [] 0)).push { cls:=.type "dict",data:=.dict #[] }) scope.names).get? b=some o:=fun b o e=>pushCells_keeps _ _ b o (Heap.get?_push_of_some _ (Heap.get?_push_of_some _ e))
  have capt:∀ x c,(x,c)∈G5 X.env scope.names->X.env.cells.lookup x=some c:=fun x c h=>by
    rcases Jz scope.names [] x c h with q|⟨q1,q2⟩
    · exact absurd q (by simp)
    · obtain ⟨c',e⟩:=I.ok.has x (S.fr _ q1 rfl);rw [e] at q2;rw [e,q2];rfl
  have cells:∀ x c,(cellsFrom (s.heap.objs.size+1+1) scope.names (G5 X.env scope.names)).lookup x=some c->X.env.cells.lookup x=some c\/s.heap.objs.size+1+1<=c:=fun x c h=>by
    rcases Fi _ _ _ x c (PySem.mem_of_lookup h) with q|⟨q,_⟩
    · exact .inl (capt x c q)
    · exact .inr q
  have stk:∀ b∈frs X.stack,b < s.heap.objs.size:=fun b hb=>by
    rcases Nat.lt_or_ge b s.heap.objs.size with z|z
    · exact z
    · rcases List.mem_cons.mp (I.stkSub b hb) with q|q
      · rw [q];exact I.lt
      · exact absurd q (I.nofs z)
  have fpb:∀ b∈fp,b < s.heap.objs.size:=fun b h=>let ⟨o,e⟩:=hb b h;Heap.lt_size e
  refine ⟨⟨I.ok.mod,S.kind,I.ok.glob,I.ok.blt,Nat.le_succ _,fun x y c h1 h2=>?_,fun x hx=>?_,fun x c hx h=>?_,I.ok.hd,I.ok.frames,.inl rfl,fun b hb=>⟨?_,fun x c h=>?_⟩,I.bs,Nat.le_trans I.ok.bsz I.sz,fun b o h z=>?_,fun b hb z=>?_,I.stack,I.stkFree⟩,
    rfl,I.bare,Un.kept keep,⟨fun _=>none,?_,fun i x v h1 h2 h3=>?_⟩,fun x c h=>?_,I.hok.fresh (Nat.le_succ _),fun x c h=>?_,fun p hp=>?_,I.hok.kept keep,hσ.1⟩
  · refine Hf scope.names (s.heap.objs.size+1+1) (G5 X.env scope.names) (fun x y c h1 h2=>I.ok.inj x y c (capt x c h1) (capt y c h2)) (fun x c h=>?_) x y c (PySem.mem_of_lookup h1) (PySem.mem_of_lookup h2);obtain ⟨v,q⟩:=I.cell x c (capt x c h);exact Nat.lt_succ_of_lt (Nat.lt_succ_of_lt q.lt)
  · have hx:(relabel scope X.env).names.lookup x=some .cell\/(relabel scope X.env).names.lookup x=some .free:=hx;rw [Gr] at hx;refine Option.isSome_iff_exists.mp (PySem.W.cellsFrom_some scope.names _ _ ?_);cases e:scope.names.lookup x with
    | none=>rw [e] at hx;rcases hx with h | h <;> cases h
    | some k =>
      cases k with
      | cell=>exact .inl rfl
      | free=>right;rw [Rb (PySem.mem_of_lookup e)];rfl
      | «local»=>rw [e] at hx;rcases hx with h | h <;> cases h
      | globalExplicit=>rw [e] at hx;rcases hx with h | h <;> cases h
      | globalImplicit=>rw [e] at hx;rcases hx with h | h <;> cases h
  · exact Nat.le_trans (Nat.le_succ_of_le (Nat.le_succ _)) (G9 scope.names _ (s.heap.objs.size+1+1) _ x c (Nat.le_refl _) (.inl (of_decide_eq_true hx)) h)
  · exact Nat.ne_of_lt (Nat.lt_succ_of_lt (fpb b hb))
  · rcases cells x c h with q|q
    · exact (hf b hb).2.2.2.2.1 x c q
    · exact Nat.ne_of_gt (Nat.lt_of_lt_of_le (fpb b hb) (by omega))
  · rcases (hf b z).2.2.2.1 with q|q
    · exact I.ok.noex b o h q
    · exact absurd (Nat.lt_of_lt_of_le (Heap.lt_size h) (Nat.le_trans I.ok.bsz q)) (Nat.lt_irrefl _)
  · rcases List.mem_cons.mp (I.stkSub b z) with q|q
    · exact (hf b hb).2.1 q
    · exact (hf b hb).2.2.1 q
  · show (pushCells _ _).Ns (s.heap.objs.size+1) _
    have n:=(Heap.Ns.new (s.heap.push (Bt [] 0)) (.type "dict")).keeps (pushCells_keeps scope.names _);rw [sz1] at n;exact n
  · obtain ⟨e1,j,e2,e3⟩:=hσ.2 i x v h1 h2;obtain ⟨m,hn,hl⟩:=I.loc;have fr:=S.fr _ (PySem.mem_of_lookup e1) rfl;have vis:Vis X.env.scope x:=by
      rcases fr with q|q
      · exact .inr (.inl q)
      · exact .inr (.inr q)
    obtain ⟨u,r,l⟩:=hl j x v e2 e3 vis;refine ⟨u,r,.inr ⟨?_,?_⟩⟩
    · show (relabel scope X.env).names.lookup x=some .cell\/(relabel scope X.env).names.lookup x=some .free;rw [Gr,e1];simp only [Option.map_some];split
      · exact .inl rfl
      · exact .inr rfl
    · rcases l with ⟨k,_⟩|⟨_,c,ec,hc⟩
      · rcases fr with q | q <;> · rw [k] at q;cases q
      · refine ⟨c,?_,hc.keeps keep⟩;obtain ⟨c2,e⟩:=Option.isSome_iff_exists.mp (PySem.W.cellsFrom_some (x:=x) scope.names (s.heap.objs.size+1+1) (G5 X.env scope.names) (.inr (by rw [Rb (PySem.mem_of_lookup e1)];rfl)));show (cellsFrom _ _ _).lookup x=some c;rw [e];rcases Fi _ _ _ x c2 (PySem.mem_of_lookup e) with q|⟨_,q⟩
        · rw [capt x c2 q] at ec;exact ec
        · rw [Fj S.nd q] at e1;cases e1
  · refine Gp scope.names ((s.heap.push (Bt [] 0)).push { cls:=.type "dict",data:=.dict #[] }) (G5 X.env scope.names) x c (fun x c h=>?_) ?_
    · obtain ⟨v,q⟩:=I.cell x c (capt x c h);exact ⟨v,q.keeps fun b o e=>Heap.get?_push_of_some _ (Heap.get?_push_of_some _ e)⟩
    · rw [sz2];exact PySem.mem_of_lookup h
  · rcases cells x c h with q|q
    · exact I.freeC x c q
    · exact I.hok.fresh (by omega)
  · rcases List.mem_append.mp hp with hp|hp
    · obtain ⟨q1,q2,q3,q4,q5⟩:=I.pin p hp;have lt:=Heap.lt_size q1;refine ⟨keep _ _ q1,q2,Nat.ne_of_lt (Nat.lt_succ_of_lt lt),fun z=>?_,q5⟩;rcases List.mem_cons.mp (I.stkSub p.1 z) with r|r
      · exact q3 r
      · exact q4 r
    · have e:p=(s.heap.objs.size,Bt [] 0):=by simpa using hp
      subst e;refine ⟨pushCells_keeps _ _ _ _ (Heap.get?_push_of_some _ (Heap.get?_push_size _ rfl)),I.hok.fresh (Nat.le_refl _),Nat.ne_of_lt (Nat.lt_succ_self _),fun z=>?_,fun v=>by intro z;cases z⟩;exact Nat.lt_irrefl _ (stk _ z)
theorem fU {N':List Str}{scope:Scope}{fp:List Addr}{σ':St}{C:Addr}{cells:List (Str×Addr)}{H':Hp}{s':Shared}{its:List Value}{n:Nat}{ys:List V}{pl:List (Addr×Obj)}(I:Inv X pins σ H s) (hf:∀ b∈fp,Kf X pins H b)
  (J:Inv (Dm X pins N' scope C cells s H fp) ((s.heap.objs.size,Bt its n)::pl) σ' H' s') (r:Vals ys its) (hz:ys.length<=sizeLine) :
  Inv X pins σ (upd H' s.heap.objs.size (.lst ys)) s':=by
 obtain ⟨p1,p2,p3,p4,p5⟩:=J.pin (s.heap.objs.size,Bt its n) (List.mem_append_right _ List.mem_cons_self);have hD:H' s.heap.objs.size=none:=p2;have ne:∀ b o,s.heap.get? b=some o->b≠s.heap.objs.size:=fun b o e=>Nat.ne_of_lt (Heap.lt_size e)
 have U:=J.base;refine I.call' (ch:=fp) J.os ⟨fun b o e h1 h2 h3=>U.keep b o e h1 h2 h3,fun b o e h1 h2 h3=>U.slot b o e h1 h2 h3,fun b o e h1 h2=>?_,U.there,fun b xs e=>?_,fun b o u e=>?_,fun b ps e=>?_⟩ ?_ J.bare fun b hb=>?_
 ·rw [Bg (ne b o e)];exact U.free b o e h1 h2
 ·have q:=U.tups b xs e;rw [Bg (Bs q hD)];exact q
 ·have q:=U.frzs b o u e;rw [Bg (Bs q hD)];exact q
 ·obtain ⟨m,q⟩:=U.tbls b ps e;exact ⟨m,by rw [Bg (Bs q hD)];exact q⟩
 ·intro b u e
  by_cases hb:b=s.heap.objs.size
  ·subst hb;rw [Dh] at e;cases e;exact ⟨hz,its,n,r,p1⟩
  ·rw [Bg hb] at e;exact (J.hok b u e).stay (fun _ _ _ q=>q) (fun c q=>by rw [Bg (Bs q hD)];exact q) fun c xs q=>by rw [Bg (Bs q hD)];exact q
 ·obtain ⟨q0,q1,q2,q3,q4,q5⟩:=hf b hb;exact ⟨q3,q1,q4,q5⟩
end
section
variable {prog:Program}{w:World}{A:Around}{E:Value->Shared->Prop}{R:Result->Shared->Prop}{s:Shared}
noncomputable abbrev Yp (ifs:List Expr) (env:Env):Sem Bool:=forIn ifs true fun c r=>if r=true then do let ok ← isTrue c env (eval c env);pure (ForInStep.yield ok) else pure (ForInStep.yield r)
theorem Ss {elt target iter:Expr}{ifs:List Expr}{scope:Scope}{pos:Pos}{it acc:Value}{env:Env}(I:Nat->Shared->Prop)
  (turn:∀ n s,I n s->wpAny (model prog w) A (pyNext it) (fun r s₁=>match r with
   | none=>R (.ok .next) s₁
   | some v=>wpAny (model prog w) A (letOwnedTupleGo target it v) (fun _ s'=>wpAny (model prog w) A (assign target env v) (fun _ s₂ =>
     wpAny (model prog w) A (Yp ifs env) (fun ok s₃ =>
      if ok=true then wpAny (model prog w) A (eval elt env) (fun x s₄ =>
       wpAny (model prog w) A (call (.builtin "list.append") [acc,x]) (fun _ s₅=>∃ m,m < n/\I m s₅) (fun _ _=>False) s₄) (fun _ _=>False) s₃
      else ∃ m,m < n/\I m s₃) (fun _ _=>False) s₂) (fun _ _=>False) s') (fun _ _=>False) s₁) (fun _ _=>False) s)
  (n:Nat) (h:I n s) :
  codeAny (model prog w) A (.compLoop (.ListComp elt [⟨target,iter,ifs,0⟩] scope pos) 0 it acc env) R s:=by
 refine codeAny_loop rfl I (fun n s hI=>?_) n h;show wpAny _ A ((compTurn (.ListComp elt [⟨target,iter,ifs,0⟩] scope pos) 0 it acc env).onRaise (fun x=>do noteFrame x env;theTreesLotGoes x)) _ _ s;refine wpAny_noted ?_;rw [compTurn_list];refine wpAny_bind (wpAny_standAt (wpAny_bind (wpAny_mono (turn n s hI) (fun r s₁ h₁=>?_) fun _ _ h'=>h'.elim)));cases r with
 | none=>exact wpAny_pure h₁
 | some v =>
  refine wpAny_bind (wpAny_mono h₁ (fun _ s' h'=>?_) fun _ _ h'=>h'.elim);refine wpAny_bind (wpAny_mono h' (fun _ s₂ h₂=>wpAny_bind (wpAny_mono h₂ (fun ok s₃ h₃=>?_) fun _ _ h'=>h'.elim)) fun _ _ h'=>h'.elim);cases ok with
  | false=>exact wpAny_pure ⟨rfl,h₃⟩
  | true =>
   exact wpAny_bind (wpAny_bind (wpAny_mono h₃ (fun x s₄ h₄=>wpAny_bind (wpAny_mono h₄ (fun _ s₅ h₅=>wpAny_pure (wpAny_pure ⟨rfl,h₅⟩)) fun _ _ h'=>h'.elim)) fun _ _ h'=>h'.elim))
end
noncomputable def PIf (X:Cx) (ifs:List Expr) (t:TT):Prop :=
 ∀ (pins:List (Addr×Obj)) (s:Shared) (σ:St) (H:Hp) (Q:Bool->Hp->Prop),Inv X pins σ H s->t σ H Q->wpAny (model X.prog X.w) X.A (Yp ifs X.env) (TP X pins σ Q) X.xe s
theorem sW {X:Cx}:PIf X [] (fun _ H Q=>Q true H):=fun pins s σ H Q I h=>wpAny_tests_nil ⟨H,I,h⟩
theorem sX {X:Cx}{c:Expr}{t:TT}(h:PT X c t):PIf X [c] t:=fun pins s σ H Q I q=>wpAny_tests_one (h pins s σ H Q I q)
noncomputable def Kept (σ0 σ2:St):Prop:=σ2.length=σ0.length/\∀ (i:Nat) v,σ0[i]?=some (some v)->σ2[i]?=some (some v)
noncomputable def fV (X:Cx) (N':List Str) (scope:Scope) (wi:TI) (g:TG) (tc:TT) (te:TE):TE:=fun σ H Q=>wi σ H fun J H1=>∃ σ0,Cap X N' scope σ σ0/\∃ W:Nat->Nat->List V->Hp->Prop,(∃ m,W 0 m [] H1)/\∀ i m acc H,W i m acc H ->
 (J.stop i H/\∀ p,H p=none->Q (.ref p) (upd H p (.lst acc))) \/
 (J.go i H/\∃ N:List V->Hp->Prop,(∀ acc' H',N acc' H'->∃ m',m' < m/\W (i+1) m' acc' H')/\∀ x H',J.yld i H x H'->g x σ0 H' fun σ2 H2=>Kept σ0 σ2/\tc σ2 H2 fun b H3=>if b=true then acc.length < sizeLine/\te σ2 H3 fun y H4=>N (acc++[y]) H4 else N acc H3)
section
variable {X:Cx}{N':List Str}{scope:Scope}{wi:TI}{g:TG}{tc:TT}{te:TE}{elt target iter:Expr}{ifs:List Expr}{pos:Pos}
theorem Ou {pins:List (Addr×Obj)}{s:Shared}{σ σ0:St}{H:Hp}{it:Addr}{fp:List Addr}{tn:Nat->Heap->Prop}{J:It}{QQ:List V->Hp->Prop}{E:Value->Shared->Prop}{RR:Value->Addr->Result->Shared->Prop}(hc:X.calm=true) (S:CompOk X scope)
  (hg:∀ pins C cells s₀ H₀ fp,PG (Dm X pins N' scope C cells s₀ H₀ fp) target g)
  (hi:∀ pins C cells s₀ H₀ fp,PIf (Dm X pins N' scope C cells s₀ H₀ fp) ifs tc)
  (he:∀ pins C cells s₀ H₀ fp,PE (Dm X pins N' scope C cells s₀ H₀ fp) elt te)
  (I:Inv X pins σ H s) (T:Turn X.prog X.w X.K target J fp it tn) (st:tn 0 s.heap) (hf:∀ b∈fp,Kf X pins H b) (hσ:Cap X N' scope σ σ0)
  (W:Nat->Nat->List V->Hp->Prop) (w0:∃ m,W 0 m [] H)
  (turn:∀ i m acc H,W i m acc H->(J.stop i H/\QQ acc H) \/
   (J.go i H/\∃ N:List V->Hp->Prop,(∀ acc' H',N acc' H'->∃ m',m' < m/\W (i+1) m' acc' H')/\∀ x H',J.yld i H x H'->g x σ0 H' fun σ2 H2=>Kept σ0 σ2/\tc σ2 H2 fun b H3=>if b=true then acc.length < sizeLine/\te σ2 H3 fun y H4=>N (acc++[y]) H4 else N acc H3))
  (hRR:∀ (C:Addr) (acc:List V) (H':Hp) (s':Shared) (m:Str->Option Value),QQ acc H'->Inv X pins σ (upd H' s.heap.objs.size (.lst acc)) s'->H' s.heap.objs.size=none->s'.heap.Ns C m->H' C=none->C≠s.heap.objs.size->s.heap.objs.size<=C->RR (.ref s.heap.objs.size) C (.ok .next) s') :
  wpAny (model X.prog X.w) X.A (newList []) (fun acc s₃=>wpAny (model X.prog X.w) X.A (newFunctionEnv scope X.env.globals (G5 X.env scope.names) [] X.env.qual none .none (some X.env)) (fun cenv s₄ =>
   codeAny (model X.prog X.w) X.A (.compStart (.ListComp elt [⟨target,iter,ifs,0⟩] scope pos) 0 (.ref it) acc { cenv with scope:=relabel scope X.env }) (RR acc cenv.locals) s₄) E s₃) E s:=by
 refine wpAny_newObj_type (Ur ?_);have sz1:(s.heap.push (Bt [] 0)).objs.size=s.heap.objs.size+1:=Heap.size_push ..;have I0:=Wo (N':=N') (σ0:=σ0) I S hf (fun b hb=>let ⟨o,e,_⟩:=T.obj 0 _ st b hb;⟨o,e⟩) hσ
 show codeAny (model X.prog X.w) X.A (.compStart (.ListComp elt [⟨target,iter,ifs,0⟩] scope pos) 0 (.ref it) (.ref s.heap.objs.size) _) (RR (.ref s.heap.objs.size) (s.heap.push (Bt [] 0)).objs.size) { s with heap:=pushCells ((s.heap.push (Bt [] 0)).push { cls:=.type "dict",data:=.dict #[] }) scope.names };rw [sz1];show codeAny (model X.prog X.w) X.A (.compStart (.ListComp elt [⟨target,iter,ifs,0⟩] scope pos) 0 (.ref it) (.ref s.heap.objs.size) (Dm X pins N' scope (s.heap.objs.size+1) (cellsFrom (s.heap.objs.size+1+1) scope.names (G5 X.env scope.names)) s H fp).env) _ _;generalize hX':Dm X pins N' scope (s.heap.objs.size+1) (cellsFrom (s.heap.objs.size+1+1) scope.names (G5 X.env scope.names)) s H fp=X' at I0 ⊢
 have keep0:∀ b o,s.heap.get? b=some o->(pushCells ((s.heap.push (Bt [] 0)).push { cls:=.type "dict",data:=.dict #[] }) scope.names).get? b=some o:=fun b o e=>pushCells_keeps _ _ b o (Heap.get?_push_of_some _ (Heap.get?_push_of_some _ e))
 have st0:tn 0 (pushCells ((s.heap.push (Bt [] 0)).push { cls:=.type "dict",data:=.dict #[] }) scope.names):=T.keep _ _ _ st fun b _ o e=>keep0 b o e
 have hA:X'.A=X.A:=by rw [← hX'];rfl
 have hP:X'.prog=X.prog:=by rw [← hX'];rfl
 have hw:X'.w=X.w:=by rw [← hX'];rfl
 have hK:X'.K=X.K:=by rw [← hX'];rfl
 have hC:X'.calm=true:=by rw [← hX'];exact hc
 have hL:X'.env.locals=s.heap.objs.size+1:=by rw [← hX'];rfl
 have hS0:X'.s₀=s:=by rw [← hX'];rfl
 have hxe:X'.xe=fun _ _=>False:=by rw [← hX'];rfl
 have hex:X'.ex=fp:=by rw [← hX'];rfl
 have hpn:X'.pn=X.pn++pins:=by rw [← hX'];rfl
 have hgX:PG X' target g:=by rw [← hX'];exact hg _ _ _ _ _ _
 have hiX:PIf X' ifs tc:=by rw [← hX'];exact hi _ _ _ _ _ _
 have heX:PE X' elt te:=by rw [← hX'];exact he _ _ _ _ _ _
 -- the iterator's own objects,in the block
 have fpo:∀ {pl:List (Addr×Obj)} {H':Hp} {its:List Value} {n:Nat},(∀ b∈fp,H' b=none)->∀ b∈fp,Kf X' [(s.heap.objs.size,Bt its n)] H' b:=fun {pl H' its n} hn b hb=>by
  obtain ⟨q0,q1,q2,q3,q4,q5⟩:=hf b hb;obtain ⟨e1,e2⟩:=I0.ok.exf b (by rw [hex];exact hb);have lt:b < s.heap.objs.size:=let ⟨o,e,_⟩:=T.obj 0 _ st b hb;Heap.lt_size e;refine ⟨hn b hb,e1,I0.ok.exfs b (by rw [hex];exact hb),.inl (by rw [hex];exact hb),e2,fun p hp=>?_⟩;rw [hpn] at hp;rcases List.mem_append.mp hp with hp|hp
  ·exact q5 p hp
  ·have e:p=(s.heap.objs.size,Bt its n):=by simpa using hp
   subst e;exact Nat.ne_of_gt lt
 obtain ⟨m0,w0⟩:=w0
 have loop:codeAny (model X.prog X.w) X.A (.compLoop (.ListComp elt [⟨target,iter,ifs,0⟩] scope pos) 0 (.ref it) (.ref s.heap.objs.size) X'.env) (RR (.ref s.heap.objs.size) (s.heap.objs.size+1)) { s with heap:=pushCells ((s.heap.push (Bt [] 0)).push { cls:=.type "dict",data:=.dict #[] }) scope.names }:=by
  refine Ss (fun k s'=>∃ i H' acc its n,Inv X' [(s.heap.objs.size,Bt its n)] σ0 H' s'/\tn i s'.heap/\(∀ b∈fp,H' b=none)/\Vals acc its/\acc.length<=sizeLine/\W i k acc H') ?_ m0
   ⟨0,H,[],[],0,I0,st0,fun b hb=>(hf b hb).1,.nil,Nat.zero_le _,w0⟩
  rintro k s3 ⟨i,H3,acc,its,n,I3,st3,fr3,rv,hz,w3⟩;rcases turn i k acc H3 w3 with ⟨stop,qn⟩|⟨go,N,hN,step⟩
  ·have z:=T.done X' hP hw hK hC i _ s3 σ0 H3 (fun _ _=>False) I3 (fpo (pl:=[]) fr3) st3 stop;rw [hA] at z;refine thn z ?_;rintro r s4 ⟨hr,I4⟩;subst hr;obtain ⟨m,hn,_⟩:=I4.loc;rw [hL] at hn;have fC:=I4.free;rw [hL] at fC;have e:=I4;rw [← hX'] at e;exact hRR _ acc H3 s4 m qn (fU I hf e rv hz) (I4.pin (s.heap.objs.size,Bt its n) (List.mem_append_right _ List.mem_cons_self)).2.1 hn fC (Nat.succ_ne_self _) (Nat.le_succ _)
  ·have z:=T.item X' hP hw hK hC i _ s3 σ0 H3 (fun _ _=>False) I3 (fpo (pl:=[]) fr3) st3 go;rw [hA] at z;refine thn z ?_;rintro r s4 ⟨u,hr,h4⟩;subst hr;refine thn h4 ?_;rintro _ s5 ⟨x,H5,I5,r5,y5,st5,fr5⟩;have I5':=I5.pinned (fpo (pl:=[]) fr5) (T.obj _ _ st5);have zg:=hgX _ s5 σ0 H5 x u _ I5' r5 (step x H5 y5);rw [hP,hw,hA,hxe] at zg;refine thn zg ?_;rintro _ s6 ⟨σ6,H6,I6,kp,q6⟩;have zi:=hiX _ s6 σ6 H6 _ I6 q6;rw [hP,hw,hA,hxe] at zi;refine thn zi ?_;rintro b s7 ⟨H7,I7,q7⟩
   -- back to the loop's head
   have back:∀ {H8:Hp} {s8:Shared} {acc':List V} {its':List Value} {n':Nat},Inv X' ([(s.heap.objs.size,Bt its' n')]++Jx fp s5.heap) σ6 H8 s8->Vals acc' its'->acc'.length<=sizeLine->N acc' H8 ->
     ∃ m,m < k/\∃ i H' acc its n,Inv X' [(s.heap.objs.size,Bt its n)] σ0 H' s8/\tn i s8.heap/\(∀ b∈fp,H' b=none)/\Vals acc its/\acc.length<=sizeLine/\W i m acc H':=fun {H8 s8 acc' its' n'} I8 rv' hz' n8=>by
    obtain ⟨m',hm,w8⟩:=hN acc' H8 n8;refine ⟨m',hm,i+1,H8,acc',its',n',(I8.unpinned).weak kp.1.symm kp.2,T.keep _ _ _ st5 fun b hb o e=>(I8.pin (b,o) (List.mem_append_right _ (List.mem_append_right _ (Hx hb e)))).1,fun b hb=>?_,rv',hz',w8⟩;obtain ⟨o,e,d⟩:=T.obj _ _ st5 b hb;exact (I8.pin (b,o) (List.mem_append_right _ (List.mem_append_right _ (Hx hb e)))).2.1
   cases b with
   | false =>
    rw [if_neg Bool.false_ne_true] at q7;rw [if_neg Bool.false_ne_true];exact back I7 rv hz q7
   | true =>
    rw [if_pos rfl] at q7;rw [if_pos rfl];obtain ⟨hlt,q7⟩:=q7;have ze:=heX _ s7 σ6 H7 _ I7 q7;rw [hP,hw,hA,hxe] at ze;refine thn ze ?_;rintro y s8 ⟨yv,H8,I8,r8,q8⟩;obtain ⟨p1,p2,p3,p4,p5⟩:=I8.pin (s.heap.objs.size,Bt its n) (List.mem_append_right _ (List.mem_append_left _ List.mem_cons_self));have len:its.toArray.size<=sizeLine:=by
     have:=rv.length;simp only [List.size_toArray];omega
    refine wpAny_list_append_plain (hsz:=len) ⟨n,p1⟩ ?_;rintro h' ⟨n',pl⟩ sb;have pl':h'.get? s.heap.objs.size=some (Bt (its++[y]) n'):=by rw [pl];simp [Bt]
    have lD:s.heap.objs.size < (pushCells ((s.heap.push (Bt [] 0)).push { cls:=.type "dict",data:=.dict #[] }) scope.names).objs.size:=by
     refine Nat.lt_of_lt_of_le ?_ (Gq _ _);rw [Heap.size_push,Heap.size_push];omega
    have cne:∀ z c,X'.env.cells.lookup z=some c->c≠s.heap.objs.size:=fun z c e q=>by
     obtain ⟨v,hv⟩:=I8.cell z c e;obtain ⟨o,ho,hd⟩:=hv;rw [q] at ho;rw [show s8.heap.get? s.heap.objs.size=some (Bt its n) from p1] at ho;cases ho;cases hd
    have J9:Inv X' (Jx fp s5.heap) σ6 H8 { s8 with heap:=h' }:=by
     refine Inv.turned (t':=s8.toks) (it:=s.heap.objs.size) (I8.pins_of fun p hp=>I8.pin p (List.mem_append_right _ (List.mem_append_right _ hp))) (fun b o hb e=>sb.extBut b o hb e) p2 (by rw [hL];exact Nat.ne_of_lt (Nat.lt_succ_self _)) (.inr (by rw [hS0];exact Nat.le_refl _)) cne fun p hp=>?_
     rw [hpn] at hp;rcases List.mem_append.mp hp with hp|hp
     ·have:p.1 < s.heap.objs.size:=Heap.lt_size (I.pin p hp).1;exact Nat.ne_of_lt this
     ·obtain ⟨hb,_⟩:=Q5 hp;have:p.1 < s.heap.objs.size:=let ⟨o,e,_⟩:=T.obj 0 _ st p.1 hb;Heap.lt_size e;exact Nat.ne_of_lt this
    have I9:Inv X' ([(s.heap.objs.size,Bt (its++[y]) n')]++Jx fp s5.heap) σ6 H8 { s8 with heap:=h' }:=by
     refine J9.pins_of fun p hp=>?_
     rcases List.mem_append.mp hp with hp|hp
     ·have e:p=(s.heap.objs.size,Bt (its++[y]) n'):=by simpa using hp
      subst e;exact ⟨pl',p2,p3,p4,fun v=>by intro z;cases z⟩
     ·exact J9.pin p (List.mem_append_right _ hp)
    exact back I9 (rv.append (.cons r8 .nil)) (by rw [List.length_append,List.length_singleton];omega) q8
 exact codeAny_compStart_list loop (T.self X.A 0 _ _ _ st0 loop)
theorem sY (hc:X.calm=true) (S:CompOk X scope) (hit:PI X target iter wi)
  (hg:∀ pins C cells s₀ H₀ fp,PG (Dm X pins N' scope C cells s₀ H₀ fp) target g)
  (hi:∀ pins C cells s₀ H₀ fp,PIf (Dm X pins N' scope C cells s₀ H₀ fp) ifs tc)
  (he:∀ pins C cells s₀ H₀ fp,PE (Dm X pins N' scope C cells s₀ H₀ fp) elt te)
  (hs:∀ x,foldedSetIterable iter X.env x=pure x:=by intro _;rfl) :
  PE X (.ListComp elt [⟨target,iter,ifs,0⟩] scope pos) (fV X N' scope wi g tc te):=by
 intro pins s σ H Q I h;rw [eval_ListComp];have hfree:∀ x∈scope.names,x.2=.free->∃ c,X.env.cells.lookup x.1=some c:=fun x hx e=>I.ok.has x.1 (S.fr x hx e)
 refine wpAny_comprehension_free (use:=none) rfl hs (Jp hfree) S.kind (fun x hx e=>Fj S.nd (by rw [← e];exact hx)) (thn (hit pins s σ H _ I h) fun v s1 h1=>thn h1 fun itv s2 h2=>?_);obtain ⟨it,fp,tn,J,H2,e,I2,T,st2,f2,σ0,hσ,W,w0,turn⟩:=h2;subst e;refine Ou (QQ:=fun acc H=>∀ p,H p=none->Q (.ref p) (upd H p (.lst acc))) (RR:=fun acc C=>compPost (model X.prog X.w) X.A X.xe none (EP X pins σ Q) acc C) hc S hg hi he I2 T st2 f2 hσ W w0 turn ?_;intro C acc H' s' m q I' hD hn hC hne hle;refine ⟨m,hn,fun h' sb=>?_⟩;obtain ⟨oC,_,_,hoC,_⟩:=id hn;have uC:upd H' s2.heap.objs.size (.lst acc) C=none:=by rw [Bg hne];exact hC
 have hCL:C≠X.env.locals:=Nat.ne_of_gt (Nat.lt_of_lt_of_le I2.lt hle);refine ⟨.ref s2.heap.objs.size,_,I'.turned (t':=s'.toks) (it:=C) (fun b o hb e=>sb.extBut b o hb e) uC hCL (.inr (Nat.le_trans I2.sz hle)) (fun x c e z=>?_) fun p hp z=>?_,rfl,q _ hD⟩
 ·obtain ⟨v,hv⟩:=I2.cell x c e;have:=hv.lt;rw [z] at this;exact Nat.lt_irrefl _ (Nat.lt_of_lt_of_le this hle)
 ·have:=Heap.lt_size (I2.pin p hp).1;rw [z] at this;exact Nat.lt_irrefl _ (Nat.lt_of_lt_of_le this hle)
theorem Wq {y:Str}{py spos:Pos}{gy:TG}(hc:X.calm=true) (S:CompOk X scope) (hit:PI X target iter wi)
  (hg:∀ pins C cells s₀ H₀ fp,PG (Dm X pins N' scope C cells s₀ H₀ fp) target g)
  (hi:∀ pins C cells s₀ H₀ fp,PIf (Dm X pins N' scope C cells s₀ H₀ fp) ifs tc)
  (he:∀ pins C cells s₀ H₀ fp,PE (Dm X pins N' scope C cells s₀ H₀ fp) elt te)
  (hgy:PG X (.Name y py) gy)
  (hsw:swapsWith (.ListComp elt [⟨target,iter,ifs,0⟩] scope pos) (some (.Name y py)) spos.line X.env=pure true)
  (hs:∀ x,foldedSetIterable iter X.env x=pure x:=by intro _;rfl) :
  PS X (.Assign [.Name y py] (.ListComp elt [⟨target,iter,ifs,0⟩] scope pos) spos) (yQ (fV X N' scope wi g tc te) gy):=by
 intro pins s σ H D I h;rw [exec_Assign_Name_used _ _ _ _ hsw];refine wpAny_bind (wpAny_standAt (wpAny_bind ?_));show wpAny _ X.A (do let _ ← comprehension (.ListComp elt [⟨target,iter,ifs,0⟩] scope pos) scope X.env _ (newList []) false (eval iter X.env) (some (assign (.Name y py) X.env))) _ _ s;have hfree:∀ x∈scope.names,x.2=.free->∃ c,X.env.cells.lookup x.1=some c:=fun x hx e=>I.ok.has x.1 (S.fr x hx e)
 refine wpAny_bind (wpAny_mono (wpAny_comprehension_free (use:=some (assign (.Name y py) X.env)) (Q:=fun _ s'=>SP X pins D .next s') rfl hs (Jp hfree) S.kind (fun x hx e=>Fj S.nd (by rw [← e];exact hx)) (thn (hit pins s σ H _ I h) fun v s1 h1=>thn h1 fun itv s2 h2=>?_))
  (fun _ s' hq=>wpAny_pure (wpAny_pure hq)) fun _ _ e=>e)
 obtain ⟨it,fp,tn,J,H2,e,I2,T,st2,f2,σ0,hσ,W,w0,turn⟩:=h2;subst e;refine Ou (QQ:=fun acc H=>∀ p,H p=none->gy (.ref p) σ (upd H p (.lst acc)) D.nx) (RR:=fun acc C=>compPost (model X.prog X.w) X.A X.xe (some (assign (.Name y py) X.env)) (fun _ s'=>SP X pins D .next s') acc C) hc S hg hi he I2 T st2 f2 hσ W w0 turn ?_;intro C acc H' s' m q I' hD hn hC hne hle;obtain ⟨oC,esC,epC,hoC,hdC⟩:=id hn;have uC:upd H' s2.heap.objs.size (.lst acc) C=none:=by rw [Bg hne];exact hC
 have hCL:C≠X.env.locals:=Nat.ne_of_gt (Nat.lt_of_lt_of_le I2.lt hle);have hCfs:C ∉ X.fs:=I2.nofs hle;have pinC:Inv X (pins++[(C,oC)]) σ (upd H' s2.heap.objs.size (.lst acc)) s':=by
  refine I'.pins_of fun p hp=>?_
  rcases List.mem_append.mp hp with hp|hp
  ·exact I'.pin p (List.mem_append_right _ hp)
  ·have e:p=(C,oC):=by simpa using hp
   subst e;refine ⟨hoC,uC,hCL,hCfs,fun v z=>?_⟩;rw [hdC.1] at z;cases z
 refine thn (hgy _ s' σ _ (.ref s2.heap.objs.size) _ _ pinC rfl (q _ hD)) ?_;rintro _ s'' ⟨σ2,H3,I3,q3⟩;obtain ⟨p1,p2,p3,p4,p5⟩:=I3.pin (C,oC) (List.mem_append_right _ (List.mem_append_right _ List.mem_cons_self));refine ⟨m,⟨oC,esC,epC,p1,hdC⟩,fun h' sb=>?_⟩;refine ⟨σ2,H3,(Inv.unpinned I3).turned (t':=s''.toks) (it:=C) (fun b o hb e=>sb.extBut b o hb e) p2 hCL (.inr (Nat.le_trans I2.sz hle)) (fun x c e z=>?_) fun p hp z=>?_,q3⟩
 ·obtain ⟨v,hv⟩:=I2.cell x c e;have:=hv.lt;rw [z] at this;exact Nat.lt_irrefl _ (Nat.lt_of_lt_of_le this hle)
 ·have:=Heap.lt_size (I2.pin p hp).1;rw [z] at this;exact Nat.lt_irrefl _ (Nat.lt_of_lt_of_le this hle)
end
end L2
namespace DL
open PySem PySem.Spec PyProof.Rows L2
noncomputable abbrev St:=L2.St
inductive D where
 | non | bl (b:Bool) | int (i:Int) | str (x:Str) | tup (ds:List D) | ref (n:Nat) | rol (ds:List D) | obj (c:Str) (ks:List Str) (ds:List D) | fn (x:Str)
 deriving Inhabited
inductive MO where
 | lst (ds:List D)
 | dct (kvs:List (Key×D))
noncomputable abbrev MH:=List MO
noncomputable abbrev Loc:=List (Option D)
noncomputable def Ik (K:PySem.W.Frag) (H:Hp) (a:Addr) (xs:List V):Prop:=(∃ o,H a=some (.frz o (.lst xs))) \/
  ∃ (o:Obj) (its:Array Value) (n:Nat),K.lookup a=some o/\o.cls=.type "list"/\o.dict=none/\o.data=.seq its n/\its.size<=sizeLine/\Vals xs its.toList
theorem Ik.sq {K:PySem.W.Frag}{H:Hp}{a:Addr}{xs:List V}(h:Ik K H a xs):SqL K H a xs:=by
 rcases h with ⟨o,h⟩|h
 ·exact .inl (.inr ⟨o,h⟩)
 ·exact .inr h
mutual
inductive RD (K:PySem.W.Frag) (H:Hp) (ρ:List Addr):D->V->Prop
 | non:RD K H ρ .non .non
 | bl (b:Bool):RD K H ρ (.bl b) (.bl b)
 | int (i:Int):RD K H ρ (.int i) (.int i)
 | str (x:Str):RD K H ρ (.str x) (.str x)
 | tup {ds:List D} {a:Addr} {xs:List V}:SqT K H a xs->RDs K H ρ ds xs->RD K H ρ (.tup ds) (.ref a)
 | ref {n:Nat} {a:Addr}:ρ[n]?=some a->RD K H ρ (.ref n) (.ref a)
 | rol {ds:List D} {a:Addr} {xs:List V}:Ik K H a xs->RDs K H ρ ds xs->RD K H ρ (.rol ds) (.ref a)
 | obj {c:Str} {ks:List Str} {ds:List D} {a C dx:Addr} {xs:List V}:PySem.W.nsIn K mainGlobals c=some (some (.ref C))->H a=some (.ins C dx (ks.zip xs))->ks.length=xs.length->RDs K H ρ ds xs->RD K H ρ (.obj c ks ds) (.ref a)
 | fn {x:Str} {a:Addr}:PySem.W.nsIn K mainGlobals x=some (some (.ref a))->RD K H ρ (.fn x) (.ref a)
inductive RDs (K:PySem.W.Frag) (H:Hp) (ρ:List Addr):List D->List V->Prop
 | nil:RDs K H ρ [] []
 | cons {d:D} {v:V} {ds:List D} {vs:List V}:RD K H ρ d v->RDs K H ρ ds vs->RDs K H ρ (d::ds) (v::vs)
end
structure Ev (K:PySem.W.Frag) (H:Hp) (ρ:List Addr) (H':Hp) (ρ':List Addr):Prop where
 tup:∀ a xs,SqT K H a xs->SqT K H' a xs
 pre:ρ <+: ρ'
 perm:∀ a xs,Ik K H a xs->Ik K H' a xs
 ins:∀ a C dx fs,H a=some (.ins C dx fs)->H' a=some (.ins C dx fs)
theorem Ev.refl {K:PySem.W.Frag}{H:Hp}{ρ:List Addr}:Ev K H ρ H ρ:=⟨fun _ _ h=>h,List.prefix_refl _,fun _ _ h=>h,fun _ _ _ _ h=>h⟩
theorem Ev.trans {K:PySem.W.Frag}{H H1 H2:Hp}{ρ ρ1 ρ2:List Addr}(a:Ev K H ρ H1 ρ1) (b:Ev K H1 ρ1 H2 ρ2):Ev K H ρ H2 ρ2:=⟨fun x xs h=>b.tup x xs (a.tup x xs h),a.pre.trans b.pre,fun x xs h=>b.perm x xs (a.perm x xs h),fun x C dx fs h=>b.ins x C dx fs (a.ins x C dx fs h)⟩
theorem Ev.at {K:PySem.W.Frag}{H H':Hp}{ρ ρ':List Addr}(e:Ev K H ρ H' ρ') {n:Nat}{a:Addr}(h:ρ[n]?=some a):ρ'[n]?=some a:=by
 obtain ⟨t,rfl⟩:=e.pre;obtain ⟨hl,_⟩:=List.getElem?_eq_some_iff.mp h;rw [List.getElem?_append_left hl];exact h
mutual
theorem RD.mono {K:PySem.W.Frag}{H H':Hp}{ρ ρ':List Addr}(e:Ev K H ρ H' ρ'):∀ {d:D}{v:V},RD K H ρ d v->RD K H' ρ' d v
 | _,_,.non=>.non
 | _,_,.bl b=>.bl b
 | _,_,.int i=>.int i
 | _,_,.str x=>.str x
 | _,_,.tup s r=>.tup (e.tup _ _ s) (RDs.mono e r)
 | _,_,.ref h=>.ref (e.at h)
 | _,_,.rol s r=>.rol (e.perm _ _ s) (RDs.mono e r)
 | _,_,.obj n s l r=>.obj n (e.ins _ _ _ _ s) l (RDs.mono e r)
 | _,_,.fn h=>.fn h
theorem RDs.mono {K:PySem.W.Frag}{H H':Hp}{ρ ρ':List Addr}(e:Ev K H ρ H' ρ'):∀ {ds:List D}{vs:List V},RDs K H ρ ds vs->RDs K H' ρ' ds vs
 | _,_,.nil=>.nil
 | _,_,.cons r t=>.cons (RD.mono e r) (RDs.mono e t)
end
section
variable {K:PySem.W.Frag}{H H':Hp}{ρ ρ':List Addr}
theorem RDs.length:∀ {ds:List D}{vs:List V},RDs K H ρ ds vs->ds.length=vs.length
 | _,_,.nil=>rfl
 | _,_,.cons _ t=>by rw [List.length_cons,List.length_cons,RDs.length t]
theorem RDs.get:∀ {ds:List D}{vs:List V}{i:Nat}{d:D},RDs K H ρ ds vs->ds[i]?=some d->∃ v,vs[i]?=some v/\RD K H ρ d v
 | _,_,_,_,.nil,e=>by simp at e
 | _,_,0,_,.cons r _,e=>by simp at e;subst e;exact ⟨_,by simp,r⟩
 | _,_,i+1,d,.cons _ t,e=>by
  obtain ⟨v,h1,h2⟩:=RDs.get (i:=i) (d:=d) t (by simpa using e);exact ⟨v,by simpa using h1,h2⟩
theorem RDs.append:∀ {ds es:List D}{vs us:List V},RDs K H ρ ds vs->RDs K H ρ es us->RDs K H ρ (ds++es) (vs++us)
 | _,_,_,_,.nil,s=>s
 | _,_,_,_,.cons r t,s=>.cons r (RDs.append t s)
theorem RDs.take:∀ {ds:List D}{vs:List V}(n:Nat),RDs K H ρ ds vs->RDs K H ρ (ds.take n) (vs.take n)
 | _,_,0,_=>.nil
 | _,_,_+1,.nil=>.nil
 | _,_,n+1,.cons r t=>.cons r (RDs.take n t)
theorem RDs.drop:∀ {ds:List D}{vs:List V}(n:Nat),RDs K H ρ ds vs->RDs K H ρ (ds.drop n) (vs.drop n)
 | _,_,0,r=>r
 | _,_,_+1,.nil=>.nil
 | _,_,n+1,.cons _ t=>RDs.drop n t
theorem RDs.set {d:D}{v:V}(r:RD K H ρ d v):∀ {ds:List D}{vs:List V}(n:Nat),RDs K H ρ ds vs->RDs K H ρ (ds.set n d) (vs.set n v)
 | _,_,_,.nil=>.nil
 | _,_,0,.cons _ t=>.cons r t
 | _,_,n+1,.cons q t=>.cons q (RDs.set r n t)
theorem RDs.reverse {ds:List D}{vs:List V}(h:RDs K H ρ ds vs):RDs K H ρ ds.reverse vs.reverse:=by
 induction ds generalizing vs with
 | nil=>cases h;exact .nil
 | cons d ds ih =>
  cases h with
  | cons r t =>
   rw [List.reverse_cons,List.reverse_cons];exact (ih t).append (.cons r .nil)
theorem RDs.ints:∀ (ns:List Int),RDs K H ρ (ns.map D.int) (ns.map V.int)
 | []=>.nil
 | n::r=>.cons (.int n) (RDs.ints r)
noncomputable def RO (K:PySem.W.Frag) (H:Hp) (ρ:List Addr) (a:Addr):MO->Prop
 | .lst ds=>∃ xs,H a=some (.lst xs)/\RDs K H ρ ds xs
 | .dct kvs=>∃ xs:List (Key×V),H a=some (.dK xs)/\xs.map (·.1)=kvs.map (·.1)/\RDs K H ρ (kvs.map (·.2)) (xs.map (·.2))
structure RS (K:PySem.W.Frag) (H:Hp) (ρ:List Addr) (mh:MH):Prop where
 len:ρ.length=mh.length
 nd:ρ.Nodup
 obj:∀ (n:Nat) (a:Addr) (o:MO),ρ[n]?=some a->mh[n]?=some o->RO K H ρ a o
noncomputable def RL (K:PySem.W.Frag) (H:Hp) (ρ:List Addr) (loc:Loc) (σ:St):Prop:=loc.length=σ.length/\∀ (i:Nat) (d:D),loc[i]?=some (some d)->∃ v,σ[i]?=some (some v)/\RD K H ρ d v
theorem RL.mono {loc:Loc}{σ:St}(e:Ev K H ρ H' ρ') (h:RL K H ρ loc σ):RL K H' ρ' loc σ:=⟨h.1,fun i d q=>let ⟨v,e1,r⟩:=h.2 i d q;⟨v,e1,r.mono e⟩⟩
theorem RL.set {loc:Loc}{σ:St}{d:D}{v:V}{i:Nat}(h:RL K H ρ loc σ) (r:RD K H ρ d v):RL K H ρ (loc.set i (some d)) (σ.set i (some v)):=by
 refine ⟨by rw [List.length_set,List.length_set];exact h.1,fun j d' q=>?_⟩
 by_cases e:i=j
 ·subst e;rw [List.getElem?_set] at q;simp only [if_true] at q;split at q
  ·rename_i hl;cases q;refine ⟨v,?_,r⟩;rw [List.getElem?_set];simp only [if_true];rw [if_pos (by rw [← h.1];exact hl)]
  ·cases q
 ·rw [List.getElem?_set_ne e] at q;rw [List.getElem?_set_ne e];exact h.2 j d' q
theorem RS.at {mh:MH}(h:RS K H ρ mh) {n:Nat}{o:MO}(e:mh[n]?=some o):∃ a,ρ[n]?=some a/\RO K H ρ a o:=by
 obtain ⟨hl,_⟩:=List.getElem?_eq_some_iff.mp e;have hl':n < ρ.length:=by rw [h.len];exact hl
 exact ⟨ρ[n],List.getElem?_eq_getElem hl',h.obj n _ o (List.getElem?_eq_getElem hl') e⟩
theorem RS.tracked {mh:MH}(h:RS K H ρ mh) {a:Addr}(ha:a∈ρ):∃ o,H a=some o:=by
 obtain ⟨n,hn,rfl⟩:=List.getElem_of_mem ha;have hl:n < mh.length:=by rw [← h.len];exact hn
 have q:=h.obj n _ _ (List.getElem?_eq_getElem hn) (List.getElem?_eq_getElem hl);cases e:mh[n] with
 | lst ds=>rw [e] at q;obtain ⟨xs,q,_⟩:=q;exact ⟨_,q⟩
 | dct kvs=>rw [e] at q;obtain ⟨xs,q,_⟩:=q;exact ⟨_,q⟩
theorem RO.read {a:Addr}{ds:List D}(h:RO K H ρ a (.lst ds)):∃ xs,SqL K H a xs/\RDs K H ρ ds xs:=by
 obtain ⟨xs,q,r⟩:=h;exact ⟨xs,.inl (.inl q),r⟩
theorem Yq {a p:Addr}{o:HO}{xs:List V}(hp:H p=none) (h:SqT K H a xs):SqT K (upd H p o) a xs:=by
 rcases h with (h|⟨ob,h⟩)|h
 ·exact .inl (.inl (by rw [Bg (Bs h hp)];exact h))
 ·exact .inl (.inr ⟨ob,by rw [Bg (Bs h hp)];exact h⟩)
 ·exact .inr h
theorem sZ {a p:Addr}{ys zs xs:List V}(hp:H p=some (.lst ys)) (h:SqT K H a xs):SqT K (upd H p (.lst zs)) a xs:=by
 rcases h with (h|⟨ob,h⟩)|h
 ·exact .inl (.inl (by rw [Bg (Yj h hp (by intro z;cases z))];exact h))
 ·exact .inl (.inr ⟨ob,by rw [Bg (Yj h hp (by intro z;cases z))];exact h⟩)
 ·exact .inr h
theorem Us {a p:Addr}{o:HO}{xs:List V}(hp:H p=none) (h:Ik K H a xs):Ik K (upd H p o) a xs:=by
 rcases h with ⟨ob,h⟩|h
 ·exact .inl ⟨ob,by rw [Bg (Bs h hp)];exact h⟩
 ·exact .inr h
theorem fW {a p:Addr}{ys zs xs:List V}(hp:H p=some (.lst ys)) (h:Ik K H a xs):Ik K (upd H p (.lst zs)) a xs:=by
 rcases h with ⟨ob,h⟩|h
 ·exact .inl ⟨ob,by rw [Bg (Yj h hp (by intro z;cases z))];exact h⟩
 ·exact .inr h
theorem Ev.new {p:Addr}{o:HO}(hp:H p=none):Ev K H ρ (upd H p o) ρ:=⟨fun _ _ h=>Yq hp h,List.prefix_refl _,fun _ _ h=>Us hp h,fun a _ _ _ h=>by rw [Bg (Bs h hp)];exact h⟩
theorem Ev.newL {p:Addr}{o:HO}(hp:H p=none):Ev K H ρ (upd H p o) (ρ++[p]):=⟨fun _ _ h=>Yq hp h,List.prefix_append _ _,fun _ _ h=>Us hp h,fun a _ _ _ h=>by rw [Bg (Bs h hp)];exact h⟩
theorem Ev.lst {p:Addr}{ys zs:List V}(hp:H p=some (.lst ys)):Ev K H ρ (upd H p (.lst zs)) ρ:=⟨fun _ _ h=>sZ hp h,List.prefix_refl _,fun _ _ h=>fW hp h,fun a _ _ _ h=>by rw [Bg (Yj h hp (by intro z;cases z))];exact h⟩
theorem RO.mono {a:Addr}{o:MO}(e:Ev K H ρ H' ρ') (s:H' a=H a) (h:RO K H ρ a o):RO K H' ρ' a o:=by
 cases o with
 | lst ds=>obtain ⟨xs,q,r⟩:=h;exact ⟨xs,by rw [s];exact q,r.mono e⟩
 | dct kvs=>obtain ⟨xs,q,k,r⟩:=h;exact ⟨xs,by rw [s];exact q,k,r.mono e⟩
theorem RS.new {mh:MH}{p:Addr}{o:HO}(h:RS K H ρ mh) (hp:H p=none):RS K (upd H p o) ρ mh :=
 ⟨h.len,h.nd,fun n a ob e1 e2=>(h.obj n a ob e1 e2).mono (Ev.new hp) (by
  obtain ⟨oo,q⟩:=h.tracked (List.mem_of_getElem? e1)
  rw [Bg (Bs q hp)])⟩
theorem RS.newL {mh:MH}{p:Addr}{xs:List V}{ds:List D}(h:RS K H ρ mh) (hp:H p=none) (r:RDs K H ρ ds xs):RS K (upd H p (.lst xs)) (ρ++[p]) (mh++[.lst ds]):=by
 have hnp:p ∉ ρ:=fun z=>by
  obtain ⟨o,q⟩:=h.tracked z;rw [hp] at q;cases q
 refine ⟨by rw [List.length_append,List.length_append,h.len];rfl,?_,fun n a ob e1 e2=>?_⟩
 ·rw [List.nodup_append]
  exact ⟨h.nd,List.pairwise_singleton _ _,fun a ha b hb z=>by
   rw [List.mem_singleton.mp hb] at z;rw [z] at ha;exact hnp ha⟩
 ·by_cases hn:n < ρ.length
  ·rw [List.getElem?_append_left hn] at e1;rw [List.getElem?_append_left (by rw [← h.len];exact hn)] at e2;refine (h.obj n a ob e1 e2).mono (Ev.newL hp) ?_;obtain ⟨oo,q⟩:=h.tracked (List.mem_of_getElem? e1);rw [Bg (Bs q hp)]
  ·rw [List.getElem?_append_right (by omega)] at e1;rw [List.getElem?_append_right (by rw [← h.len];omega)] at e2;have n0:n - ρ.length=0:=by
    have:=(List.getElem?_eq_some_iff.mp e1).1;simp at this;omega
   rw [n0] at e1;rw [← h.len,n0] at e2;cases e1;cases e2;exact ⟨xs,Dh,r.mono (Ev.newL hp)⟩
theorem RS.setL {mh:MH}{n:Nat}{p:Addr}{ys xs:List V}{ds:List D}(h:RS K H ρ mh) (hn:ρ[n]?=some p) (hp:H p=some (.lst ys)) (r:RDs K H ρ ds xs):RS K (upd H p (.lst xs)) ρ (mh.set n (.lst ds)):=by
 refine ⟨by rw [List.length_set];exact h.len,h.nd,fun m a ob e1 e2=>?_⟩
 by_cases hm:n=m
 ·subst hm;rw [hn] at e1;cases e1;rw [List.getElem?_set] at e2;simp only [if_true] at e2;split at e2
  ·cases e2;exact ⟨xs,Dh,r.mono (Ev.lst hp)⟩
  ·cases e2
 ·rw [List.getElem?_set_ne hm] at e2;refine (h.obj m a ob e1 e2).mono (Ev.lst hp) ?_;rw [Bg];intro z;subst z;exact hm ((List.getElem?_inj (List.getElem?_eq_some_iff.mp hn).1 h.nd).mp (hn.trans e1.symm))
end
noncomputable abbrev DM (α:Type):=Loc->MH->Option (α×MH)
noncomputable def DM.bnd {α β:Type}(m:DM α) (f:α->DM β):DM β:=fun loc mh=>match m loc mh with
 | none=>none
 | some (a,mh')=>f a loc mh'
theorem Be {α β:Type}{m:DM α}{f:α->DM β}{loc:Loc}{mh:MH}{r:β×MH}(h:m.bnd f loc mh=some r):∃ a m1,m loc mh=some (a,m1)/\f a loc m1=some r:=by
 unfold DM.bnd at h;split at h
 ·cases h
 ·rename_i a m1 e;exact ⟨a,m1,e,h⟩
noncomputable def Zr {α:Type}(a:α):DM α:=fun _ mh=>some (a,mh)
noncomputable def Zl {α:Type}(f:MH->Option (α×MH)):DM α:=fun _ mh=>f mh
noncomputable def Zb {α:Type}:DM α:=fun _ _=>none
noncomputable def Co (K:PySem.W.Frag) (H:Hp) (ρ:List Addr) (mh':MH) (d:D) (Q:VK):Prop:=∀ H' ρ' v,Ev K H ρ H' ρ'->RS K H' ρ' mh'->RD K H' ρ' d v->Q v H'
noncomputable def tD (K:PySem.W.Frag) (loc:Loc) (mh:MH) (r:Option (D×MH)):TE:=fun σ H Q=>∃ ρ d mh',r=some (d,mh')/\RL K H ρ loc σ/\RS K H ρ mh/\Co K H ρ mh' d Q
noncomputable def tDT (K:PySem.W.Frag) (loc:Loc) (mh:MH) (r:Option (Bool×MH)):TT:=fun σ H Q=>∃ ρ b mh',r=some (b,mh')/\RL K H ρ loc σ/\RS K H ρ mh/\∀ H' ρ',Ev K H ρ H' ρ'->RS K H' ρ' mh'->Q b H'
noncomputable def tDA (K:PySem.W.Frag) (loc:Loc) (mh:MH) (r:Option (List D×MH)):TA:=fun σ H Q=>∃ ρ ds mh',r=some (ds,mh')/\RL K H ρ loc σ/\RS K H ρ mh/\∀ H' ρ' vs,Ev K H ρ H' ρ'->RS K H' ρ' mh'->RDs K H' ρ' ds vs->Q vs H'
noncomputable def DE (X:Cx) (e:Expr) (m:DM D):Prop:=∀ loc mh,PE X e (tD X.K loc mh (m loc mh))
noncomputable def DT (X:Cx) (e:Expr) (m:DM Bool):Prop:=∀ loc mh,PT X e (tDT X.K loc mh (m loc mh))
noncomputable def DA (X:Cx) (es:List Expr) (m:DM (List D)):Prop:=∀ loc mh,PA X es (tDA X.K loc mh (m loc mh))
theorem Cm {X:Cx}{e:Expr}{t t':TE}(h:PE X e t) (i:∀ σ H Q,t' σ H Q->t σ H Q):PE X e t':=fun pins s σ H Q I q=>h pins s σ H Q I (i σ H Q q)
theorem Sv {X:Cx}{e:Expr}{t t':TT}(h:PT X e t) (i:∀ σ H Q,t' σ H Q->t σ H Q):PT X e t':=fun pins s σ H Q I q=>h pins s σ H Q I (i σ H Q q)
theorem fX {X:Cx}{es:List Expr}{t t':TA}(h:PA X es t) (i:∀ σ H Q,t' σ H Q->t σ H Q):PA X es t':=fun pos pins s σ H Q I q=>h pos pins s σ H Q I (i σ H Q q)
theorem tE {K:PySem.W.Frag}{loc:Loc}{mh:MH}{σ:St}{H:Hp}{Q:VK}(h:tD K loc mh none σ H Q):False:=by obtain ⟨_,_,_,e,_⟩:=h;cases e
theorem Cu {X:Cx}{e:Expr}{loc:Loc}{mh:MH}:PE X e (tD X.K loc mh none):=fun _ _ _ _ _ _ h=>(tE h).elim
theorem Yr {X:Cx}{e:Expr}{loc:Loc}{mh:MH}:PT X e (tDT X.K loc mh none):=fun _ _ _ _ _ _ h=>by obtain ⟨_,_,_,e,_⟩:=h;cases e
theorem Ys {X:Cx}{es:List Expr}{loc:Loc}{mh:MH}:PA X es (tDA X.K loc mh none):=fun _ _ _ _ _ _ _ h=>by obtain ⟨_,_,_,e,_⟩:=h;cases e
theorem Bd {X:Cx}{e:Expr}:DE X e Zb:=fun _ _=>Cu
theorem Et {X:Cx}{e:Expr}:DT X e Zb:=fun _ _=>Yr
theorem fY {X:Cx}{es:List Expr}:DA X es Zb:=fun _ _=>Ys
section
variable {X:Cx}{a b c e:Expr}{ma mb mc:DM D}{pos:Pos}
theorem tH {d:D}{v:V}(h:PE X e (tC v)) (r:∀ K H ρ,RD K H ρ d v):DE X e (Zr d):=by
 refine fun loc mh=>Cm h ?_
 rintro σ H Q ⟨ρ,d',mh',q,rl,rs,co⟩;cases q;exact co H ρ v Ev.refl rs (r _ _ _)
theorem Aaa {i:Nat}{x:Str}(hN:X.N[i]?=some x) (hv:Vis X.env.scope x) (hd:(x==("__debug__":Str))=false) (hcd:(x==("__classdict__":Str))=false) :
  DE X (.Name x pos) (fun loc mh=>match loc[i]? with | some (some d)=>some (d,mh) | _=>none):=by
 refine fun loc mh=>Cm (R3 hN hv hd hcd) ?_
 rintro σ H Q ⟨ρ,d',mh',q,rl,rs,co⟩;dsimp only at q;split at q
 ·rename_i d e;cases q;obtain ⟨v,h1,h2⟩:=rl.2 i d' e;exact ⟨v,h1,co H ρ v Ev.refl rs h2⟩
 ·cases q
noncomputable def rD (K:PySem.W.Frag) (f:D->D->MH->Option (D×MH)):R2:=fun x y H Q=>∃ ρ mh dx dy d mh',f dx dy mh=some (d,mh')/\RS K H ρ mh/\RD K H ρ dx x/\RD K H ρ dy y/\Co K H ρ mh' d Q
noncomputable def rD1 (K:PySem.W.Frag) (f:D->MH->Option (D×MH)):V->Hp->VK->Prop:=fun x H Q=>∃ ρ mh dx d mh',f dx mh=some (d,mh')/\RS K H ρ mh/\RD K H ρ dx x/\Co K H ρ mh' d Q
noncomputable def rDs (K:PySem.W.Frag) (f:List D->MH->Option (D×MH)):List V->Hp->VK->Prop:=fun xs H Q=>∃ ρ mh ds d mh',f ds mh=some (d,mh')/\RS K H ρ mh/\RDs K H ρ ds xs/\Co K H ρ mh' d Q
theorem Co.ev {K:PySem.W.Frag}{H H1:Hp}{ρ ρ1:List Addr}{mh':MH}{d:D}{Q:VK}(e:Ev K H ρ H1 ρ1) (c:Co K H ρ mh' d Q):Co K H1 ρ1 mh' d Q:=fun H' ρ' v e' rs r=>c H' ρ' v (e.trans e') rs r
noncomputable def dop (f:D->D->MH->Option (D×MH)) (ma mb:DM D):DM D:=ma.bnd fun x=>mb.bnd fun y=>Zl (f x y)
theorem two {K:PySem.W.Frag}{f:D->D->MH->Option (D×MH)}{loc:Loc}{mh:MH}{σ:St}{H:Hp}{Q:VK}(h:tD K loc mh (dop f ma mb loc mh) σ H Q) :
  ∃ x m1,ma loc mh=some (x,m1)/\tOp (rD K f) (tD K loc mh (ma loc mh)) (tD K loc m1 (mb loc m1)) σ H Q:=by
 obtain ⟨ρ,d,mh',q,rl,rs,co⟩:=h;obtain ⟨x,m1,ea,q⟩:=Be q;obtain ⟨y,m2,eb,q⟩:=Be q;refine ⟨x,m1,ea,ρ,x,m1,ea,rl,rs,fun H1 ρ1 v1 e1 rs1 r1=>⟨ρ1,y,m2,eb,rl.mono e1,rs1,fun H2 ρ2 v2 e2 rs2 r2=>?_⟩⟩;exact ⟨ρ2,m2,x,y,d,mh',q,rs2,r1.mono e2,r2,co.ev (e1.trans e2)⟩
theorem Wr {f:D->D->MH->Option (D×MH)}(h:∀ ta tb,PE X a ta->PE X b tb->PE X e (tOp (rD X.K f) ta tb)) (ha:DE X a ma) (hb:DE X b mb):DE X e (dop f ma mb):=fun loc mh=>by
 cases ea:ma loc mh with
 | none =>
  have:dop f ma mb loc mh=none:=by unfold dop DM.bnd;rw [ea]
  rw [this];exact Cu
 | some p =>
  refine Cm (h _ _ (ha loc mh) (hb loc p.2)) fun σ H Q q=>?_
  obtain ⟨x,m1,e1,q⟩:=two q;rw [ea] at e1;cases e1;exact q
theorem Aeq {op:Operator}{f:D->D->MH->Option (D×MH)}(ho:OpR X (binaryOp op) (rD X.K f)) (ha:DE X a ma) (hb:DE X b mb):DE X (.BinOp a op b pos) (dop f ma mb):=Wr (fun _ _ p q=>Ad6 ho p q) ha hb
theorem Aab {op:CmpOp}{f:D->D->MH->Option (D×MH)}(ho:OpR X (compareOp op) (rD X.K f)) (hm:behindInMarks op b=false) (ha:DE X a ma) (hb:DE X b mb):DE X (.Compare a [op] [b] pos) (dop f ma mb):=Wr (fun _ _ p q=>rQ ho p q hm) ha hb
theorem Aer {f:D->D->MH->Option (D×MH)}(ho:IxR X (rD X.K f)) (hs:R8 b) (ha:DE X a ma) (hb:DE X b mb):DE X (.Subscript a b pos) (dop f ma mb):=Wr (fun _ _ p q=>Aej ho p q hs) ha hb
theorem Aes {op:UnaryOp}{f:D->MH->Option (D×MH)}(ho:UnR X (unaryOp op) (rD1 X.K f)) (ha:DE X a ma):DE X (.UnaryOp op a pos) (ma.bnd fun x=>Zl (f x)):=fun loc mh =>
 Cm (Ad7 ho (ha loc mh)) fun σ H Q ⟨ρ,d,mh',q,rl,rs,co⟩=>by
 obtain ⟨x,m1,ea,q⟩:=Be q
 ·exact ⟨ρ,x,m1,ea,rl,rs,fun H1 ρ1 v1 e1 rs1 r1=>⟨ρ1,m1,x,d,mh',q,rs1,r1,co.ev e1⟩⟩
noncomputable def asB:D->Option Bool
 | .bl b=>some b
 | _=>none
noncomputable def Al (ma:DM D):DM Bool:=ma.bnd fun x=>match asB x with | some b=>Zr b | none=>Zb
theorem tK {f:D->D->MH->Option (D×MH)}(h:∀ ta tb,PE X a ta->PE X b tb->PT X e (eX (tOp (rD X.K f) ta tb))) (ha:DE X a ma) (hb:DE X b mb):DT X e (Al (dop f ma mb)):=fun loc mh=>by
 cases ea:ma loc mh with
 | none =>
  have:Al (dop f ma mb) loc mh=none:=by unfold Al dop DM.bnd;rw [ea]
  rw [this];exact Yr
 | some p =>
  refine Sv (h _ _ (ha loc mh) (hb loc p.2)) ?_;rintro σ H Q ⟨ρ,k,mh',q,rl,rs,co⟩;unfold Al at q;cases ed:dop f ma mb loc mh with
  | none=>unfold DM.bnd at q;rw [ed] at q;cases q
  | some z =>
   obtain ⟨d,m2⟩:=z;unfold DM.bnd at q;rw [ed] at q;cases d with
   | bl k' =>
    cases q;have t:tD X.K loc mh (dop f ma mb loc mh) σ H (fun x H'=>∃ k,x=.bl k/\Q k H'):=⟨ρ,.bl k,mh',ed,rl,rs,fun H' ρ' v e' rs' r'=>by cases r';exact ⟨k,rfl,co H' ρ' e' rs'⟩⟩;obtain ⟨x,m1,e1,q⟩:=two t;rw [ea] at e1;cases e1;exact q
   | non=>cases q
   | int i=>cases q
   | str s=>cases q
   | tup ds=>cases q
   | ref n=>cases q
   | rol ds=>cases q
   | obj c ks ds=>cases q
   | fn x=>cases q
theorem Aac {op:CmpOp}{f:D->D->MH->Option (D×MH)}(ho:OpR X (compareOp op) (rD X.K f)) (hm:behindInMarks op b=false) (ha:DE X a ma) (hb:DE X b mb):DT X (.Compare a [op] [b] pos) (Al (dop f ma mb)):=tK (fun _ _ p q=>rR ho p q hm) ha hb
noncomputable def Ht (t u:DM Bool):DM Bool:=t.bnd fun c=>if c=true then u else Zr false
noncomputable def J0 (t u:DM Bool):DM Bool:=t.bnd fun c=>if c=true then Zr true else u
noncomputable def Dk (t:DM Bool):DM Bool:=t.bnd fun c=>Zr (!c)
noncomputable def DW (X:Cx) (e:Expr) (m:DM Bool):Prop:=∀ loc mh,PW X e (tDT X.K loc mh (m loc mh))
theorem Yt {loc:Loc}{mh:MH}:PW X e (tDT X.K loc mh none):=fun _ _ _ _ _ _ _ h=>by obtain ⟨_,_,_,e,_⟩:=h;cases e
theorem fZ {t t':TT}(h:PW X e t) (i:∀ σ H Q,t' σ H Q->t σ H Q):PW X e t':=fun wh pins s σ H Q I q=>h wh pins s σ H Q I (i σ H Q q)
theorem DW.dt {m:DM Bool}(h:DW X e m):DT X e m:=fun loc mh=>(h loc mh).pt
variable {t u:DM Bool}{rest:List Expr}
theorem tL (ha:DT X a t):DW X (.BoolOp .And [a] pos) t:=fun loc mh=>rE (ha loc mh)
theorem Aad (ha:DT X a t):DW X (.BoolOp .Or [a] pos) t:=fun loc mh=>yF (ha loc mh)
theorem Aae (ha:DT X a t) (hb:DW X (.BoolOp .And (b::rest) pos) u):DW X (.BoolOp .And (a::b::rest) pos) (Ht t u):=fun loc mh=>by
 cases ea:t loc mh with
 | none =>
  have:Ht t u loc mh=none:=by unfold Ht DM.bnd;rw [ea]
  rw [this];exact Yt
 | some p =>
  obtain ⟨k,m1⟩:=p;refine fZ (yG (ha loc mh) (hb loc m1)) ?_;rintro σ H Q ⟨ρ,k',mh',q,rl,rs,co⟩;have q':(if k=true then u else Zr false) loc m1=some (k',mh'):=by unfold Ht DM.bnd at q;rw [ea] at q;exact q
  refine ⟨ρ,k,m1,ea,rl,rs,fun H1 ρ1 e1 rs1=>?_⟩;cases k with
  | true=>exact Uq ⟨ρ1,k',mh',q',rl.mono e1,rs1,fun H2 ρ2 e2 rs2=>co H2 ρ2 (e1.trans e2) rs2⟩
  | false=>cases q';exact Uo (co H1 ρ1 e1 rs1)
theorem Aet (ha:DT X a t) (hb:DW X (.BoolOp .Or (b::rest) pos) u):DW X (.BoolOp .Or (a::b::rest) pos) (J0 t u):=fun loc mh=>by
 cases ea:t loc mh with
 | none =>
  have:J0 t u loc mh=none:=by unfold J0 DM.bnd;rw [ea]
  rw [this];exact Yt
 | some p =>
  obtain ⟨k,m1⟩:=p;refine fZ (Adt (ha loc mh) (hb loc m1)) ?_;rintro σ H Q ⟨ρ,k',mh',q,rl,rs,co⟩;have q':(if k=true then Zr true else u) loc m1=some (k',mh'):=by unfold J0 DM.bnd at q;rw [ea] at q;exact q
  refine ⟨ρ,k,m1,ea,rl,rs,fun H1 ρ1 e1 rs1=>?_⟩;cases k with
  | true=>cases q';exact Uq (co H1 ρ1 e1 rs1)
  | false=>exact Uo ⟨ρ1,k',mh',q',rl.mono e1,rs1,fun H2 ρ2 e2 rs2=>co H2 ρ2 (e1.trans e2) rs2⟩
theorem Aaf (ha:DT X a t):DT X (.UnaryOp .Not a pos) (Dk t):=fun loc mh=>by
 refine Sv (yH (ha loc mh)) ?_;rintro σ H Q ⟨ρ,k',mh',q,rl,rs,co⟩;obtain ⟨k,m1,ea,q⟩:=Be q
 ·cases q;exact ⟨ρ,k,mh',ea,rl,rs,fun H1 ρ1 e1 rs1=>co H1 ρ1 e1 rs1⟩
noncomputable def dIf (t:DM Bool) (ma mb:DM D):DM D:=t.bnd fun c=>if c=true then ma else mb
theorem Aeu (hc:DT X c t) (ha:DE X a ma) (hb:DE X b mb):DE X (.IfExp c a b pos) (dIf t ma mb):=fun loc mh=>by
 cases ea:t loc mh with
 | none =>
  have:dIf t ma mb loc mh=none:=by unfold dIf DM.bnd;rw [ea]
  rw [this];exact Cu
 | some p =>
  obtain ⟨k,m1⟩:=p;refine Cm (eF (hc loc mh) (ha loc m1) (hb loc m1)) ?_;rintro σ H Q ⟨ρ,d,mh',q,rl,rs,co⟩;have q':(if k=true then ma else mb) loc m1=some (d,mh'):=by unfold dIf DM.bnd at q;rw [ea] at q;exact q
  refine ⟨ρ,k,m1,ea,rl,rs,fun H1 ρ1 e1 rs1=>?_⟩;cases k with
  | true=>exact Uq ⟨ρ1,d,mh',q',rl.mono e1,rs1,co.ev e1⟩
  | false=>exact Uo ⟨ρ1,d,mh',q',rl.mono e1,rs1,co.ev e1⟩
noncomputable def Dw (ma mb:DM D):DM D:=(Al ma).bnd fun c=>if c=true then mb else Zr (.bl false)
noncomputable def gA (ma mb:DM D):DM D:=(Al ma).bnd fun c=>if c=true then Zr (.bl true) else mb
theorem Gs {loc:Loc}{mh:MH}{k:Bool}{m1:MH}(h:Al ma loc mh=some (k,m1)):ma loc mh=some (.bl k,m1):=by
 obtain ⟨x,m2,ea,h⟩:=Be h
 ·cases x with
  | bl b=>cases h;exact ea
  | non=>cases h
  | int i=>cases h
  | str s=>cases h
  | tup ds=>cases h
  | ref n=>cases h
  | rol ds=>cases h
  | obj c ks ds=>cases h
  | fn x=>cases h
theorem Aag {op}(ha:DE X a ma):DE X (.BoolOp op [a] pos) ma:=fun loc mh=>yI (ha loc mh)
theorem Aah (ha:DE X a ma) (hb:DE X (.BoolOp .And (b::rest) pos) mb):DE X (.BoolOp .And (a::b::rest) pos) (Dw ma mb):=fun loc mh=>by
 cases ea:Al ma loc mh with
 | none =>
  have:Dw ma mb loc mh=none:=by unfold Dw DM.bnd;rw [ea]
  rw [this];exact Cu
 | some p =>
  obtain ⟨k,m1⟩:=p;refine Cm (yJ (ha loc mh) (hb loc m1)) ?_;rintro σ H Q ⟨ρ,d,mh',q,rl,rs,co⟩;have q':(if k=true then mb else Zr (.bl false)) loc m1=some (d,mh'):=by unfold Dw DM.bnd at q;rw [ea] at q;exact q
  refine ⟨ρ,.bl k,m1,Gs ea,rl,rs,fun H1 ρ1 v e1 rs1 r1=>?_⟩;cases r1;refine ⟨k,rfl,?_⟩;cases k with
  | true=>exact Uq ⟨ρ1,d,mh',q',rl.mono e1,rs1,co.ev e1⟩
  | false=>cases q';exact Uo (co H1 ρ1 _ e1 rs1 (.bl false))
theorem Aev (ha:DE X a ma) (hb:DE X (.BoolOp .Or (b::rest) pos) mb):DE X (.BoolOp .Or (a::b::rest) pos) (gA ma mb):=fun loc mh=>by
 cases ea:Al ma loc mh with
 | none =>
  have:gA ma mb loc mh=none:=by unfold gA DM.bnd;rw [ea]
  rw [this];exact Cu
 | some p =>
  obtain ⟨k,m1⟩:=p;refine Cm (Adw (ha loc mh) (hb loc m1)) ?_;rintro σ H Q ⟨ρ,d,mh',q,rl,rs,co⟩;have q':(if k=true then Zr (.bl true) else mb) loc m1=some (d,mh'):=by unfold gA DM.bnd at q;rw [ea] at q;exact q
  refine ⟨ρ,.bl k,m1,Gs ea,rl,rs,fun H1 ρ1 v e1 rs1 r1=>?_⟩;cases r1;refine ⟨k,rfl,?_⟩;cases k with
  | true=>cases q';exact Uq (co H1 ρ1 _ e1 rs1 (.bl true))
  | false=>exact Uo ⟨ρ1,d,mh',q',rl.mono e1,rs1,co.ev e1⟩
theorem Aai (ha:DE X a ma):DE X (.UnaryOp .Not a pos) ((Al ma).bnd fun c=>Zr (.bl (!c))):=fun loc mh=>by
 refine Cm (yK (ha loc mh)) ?_;rintro σ H Q ⟨ρ,d,mh',q,rl,rs,co⟩;cases ea:Al ma loc mh with
 | none=>unfold DM.bnd at q;rw [ea] at q;cases q
 | some p =>
  obtain ⟨k,m1⟩:=p;unfold DM.bnd at q;rw [ea] at q;cases q;refine ⟨ρ,.bl k,mh',Gs ea,rl,rs,fun H1 ρ1 v e1 rs1 r1=>?_⟩;cases r1;exact ⟨k,rfl,co H1 ρ1 _ e1 rs1 (.bl _)⟩
noncomputable def gB:D->MH->Option Bool
 | .non,_=>some false
 | .bl b,_=>some b
 | .int i,_=>some (i != 0)
 | .str y,_=>if y.length<=sizeLine then some ((y.length:Int) != 0) else none
 | .tup ds,_=>some (!ds.isEmpty)
 | .ref n,mh=>match mh[n]? with | some (.lst o)=>some (!o.isEmpty) | _=>none
 | .rol ds,_=>some (!ds.isEmpty)
 | .obj ..,_=>none
 | .fn _,_=>none
theorem Io {K:PySem.W.Frag}{H:Hp}{ρ:List Addr}{ds:List D}{xs:List V}(r:RDs K H ρ ds xs):ds.isEmpty=xs.isEmpty:=by cases r <;> rfl
theorem tM {K:PySem.W.Frag}{H:Hp}{ρ:List Addr}{mh:MH}{d:D}{v:V}{k:Bool}(rs:RS K H ρ mh) (r:RD K H ρ d v) (e:gB d mh=some k):zK K v H k:=by
 cases r with
 | non=>cases e;rfl
 | bl b=>cases e;rfl
 | int i=>cases e;rfl
 | str x =>
  have e:(if x.length<=sizeLine then some ((x.length:Int) != 0) else none)=some k:=e;split at e
  ·rename_i hz;cases e;exact ⟨hz,rfl⟩
  ·cases e
 | tup s r=>cases e;exact .inr (.inl ⟨_,s,by rw [Io r]⟩)
 | rol s r=>cases e;exact .inl ⟨_,s.sq,by rw [Io r]⟩
 | obj n s l r=>cases e
 | fn h=>cases e
 | @ref n a h =>
  have e:(match mh[n]? with | some (.lst o)=>some (!o.isEmpty) | _=>none)=some k:=e;split at e
  ·rename_i o eo;cases e;obtain ⟨a',ha,ro⟩:=rs.at eo;rw [h] at ha;cases ha;obtain ⟨xs,q,r⟩:=ro.read;exact .inl ⟨xs,q,by rw [Io r]⟩
  ·cases e
noncomputable def Dy (ma:DM D):DM Bool:=ma.bnd fun x=>fun _ mh=>match gB x mh with | some k=>some (k,mh) | none=>none
theorem Ut (ha:DE X a ma) (he:∀ whole,isTrue a X.env whole=(do let v ← whole;standAt a.pos;holding [v] (truthy v))):DT X a (Dy ma):=fun loc mh=>by
 refine Sv (fB (ha loc mh) he) ?_;rintro σ H Q ⟨ρ,k,mh',q,rl,rs,co⟩;obtain ⟨x,m1,ea,q⟩:=Be q
 ·split at q
  ·rename_i k' ek;cases q;exact ⟨ρ,x,mh',ea,rl,rs,fun H1 ρ1 v e1 rs1 r1=>⟨k,tM rs1 r1 ek,co H1 ρ1 e1 rs1⟩⟩
  ·cases q
noncomputable def Aa (ma:DM D) (mr:DM (List D)):DM (List D):=ma.bnd fun x=>mr.bnd fun xs=>Zr (x::xs)
theorem Aaj:DA X [] (Zr []):=by
 refine fun loc mh=>fX Im ?_
 rintro σ H Q ⟨ρ,ds,mh',q,rl,rs,co⟩;cases q;exact co H ρ [] Ev.refl rs .nil
theorem tO {es:List Expr}{mr:DM (List D)}(ha:DE X a ma) (hr:DA X es mr) (hs:starEach (a::es) X.env=(false,eval a X.env)::starEach es X.env):DA X (a::es) (Aa ma mr):=fun loc mh=>by
 cases ea:ma loc mh with
 | none =>
  have:Aa ma mr loc mh=none:=by unfold Aa DM.bnd;rw [ea]
  rw [this];exact Ys
 | some p =>
  obtain ⟨x,m1⟩:=p;refine fX (Ga (ha loc mh) (hr loc m1) hs) ?_;rintro σ H Q ⟨ρ,ds,mh',q,rl,rs,co⟩;obtain ⟨x2,m2,ea2,q⟩:=Be q;rw [ea] at ea2;cases ea2;obtain ⟨xs,m2,er,q'⟩:=Be q
  ·cases q';exact ⟨ρ,x,m1,ea,rl,rs,fun H1 ρ1 v e1 rs1 r1=>⟨ρ1,xs,mh',er,rl.mono e1,rs1,fun H2 ρ2 vs e2 rs2 r2=>co H2 ρ2 _ (e1.trans e2) rs2 (.cons (r1.mono e2) r2)⟩⟩
noncomputable def Rc (ds:List D) (mh:MH):Option (D×MH):=if ds.length<=sizeLine then some (.tup ds,mh) else none
noncomputable def Rf (ds:List D) (mh:MH):Option (D×MH):=if ds.length<=sizeLine then some (.ref mh.length,mh++[.lst ds]) else none
theorem RS.last {K:PySem.W.Frag}{H:Hp}{ρ:List Addr}{mh:MH}(h:RS K H ρ mh) (p:Addr):(ρ++[p])[mh.length]?=some p:=by rw [← h.len];simp
theorem Co.newT {K:PySem.W.Frag}{H:Hp}{ρ:List Addr}{mh:MH}{ds:List D}{vs:List V}{Q:VK}(rs:RS K H ρ mh) (r:RDs K H ρ ds vs) (co:Co K H ρ mh (.tup ds) Q):∀ p,H p=none->Q (.ref p) (upd H p (.tup vs)):=fun p hp =>
 co _ ρ _ (Ev.new hp) (rs.new hp) (.tup (.inl (.inl Dh)) (r.mono (Ev.new hp)))
theorem Co.newL {K:PySem.W.Frag}{H:Hp}{ρ:List Addr}{mh:MH}{ds:List D}{vs:List V}{Q:VK}(rs:RS K H ρ mh) (r:RDs K H ρ ds vs) (co:Co K H ρ (mh++[.lst ds]) (.ref mh.length) Q):∀ p,H p=none->Q (.ref p) (upd H p (.lst vs)):=fun p hp =>
 co _ (ρ++[p]) _ (Ev.newL hp) (rs.newL hp r) (.ref (rs.last p))
theorem Aak {es:List Expr}{mr:DM (List D)}{x1}(h:DA X es mr):DE X (.Tuple es x1 pos) (mr.bnd fun ds=>Zl (Rc ds)):=fun loc mh=>by
 refine Cm (zP (h loc mh)) ?_;rintro σ H Q ⟨ρ,d,mh',q,rl,rs,co⟩;obtain ⟨ds,m1,ea,q⟩:=Be q
 ·unfold Zl Rc at q;split at q
  ·rename_i hz;cases q;exact ⟨ρ,ds,mh',ea,rl,rs,fun H1 ρ1 vs e1 rs1 r1=>⟨by rw [← r1.length];exact hz,Co.newT rs1 r1 (co.ev e1)⟩⟩
  ·cases q
theorem Aal {es:List Expr}{mr:DM (List D)}(h:DA X es mr):DE X (.List es pos) (mr.bnd fun ds=>Zl (Rf ds)):=fun loc mh=>by
 refine Cm (zQ (h loc mh)) ?_;rintro σ H Q ⟨ρ,d,mh',q,rl,rs,co⟩;obtain ⟨ds,m1,ea,q⟩:=Be q
 ·unfold Zl Rf at q;split at q
  ·rename_i hz;cases q;exact ⟨ρ,ds,m1,ea,rl,rs,fun H1 ρ1 vs e1 rs1 r1=>⟨by rw [← r1.length];exact hz,Co.newL rs1 r1 (co.ev e1)⟩⟩
  ·cases q
theorem Gu {f:List D->MH->Option (D×MH)}{es:List Expr}{mr:DM (List D)}{x:Str}{p:Pos}{id:String}(hc:Dd X (.builtin id) (rDs X.K f)) (hg:Gl X x) (hm:X.mg x=none) (hv:bootBuiltins x=some (.builtin id)) (ha:DA X (a::es) mr)
  (hn:x ≠ "__name__") (hdb:(x==("__debug__":Str))=false) (he:starEach (a::es) X.env=(false,eval a X.env)::starEach es X.env) (hpl:(backTo pos (starEach es X.env)).any (·.1)=false) :
  DE X (.Call (.Name x p) (a::es) [] pos) (mr.bnd fun ds=>Zl (f ds)):=fun loc mh=>by
 refine Cm (Ul hc hg hm hv (ha loc mh) hn hdb he hpl) ?_;rintro σ H Q ⟨ρ,d,mh',q,rl,rs,co⟩;obtain ⟨ds,m1,ea,q⟩:=Be q
 ·exact ⟨ρ,ds,m1,ea,rl,rs,fun H1 ρ1 vs e1 rs1 r1=>⟨ρ1,m1,ds,d,mh',q,rs1,r1,co.ev e1⟩⟩
theorem Lg {f:List D->MH->Option (D×MH)}{es:List Expr}{mr:DM (List D)}{x:Str}{p:Pos}{T:String}(hc:Dd X (.type T) (rDs X.K f)) (hg:Gl X x) (hm:X.mg x=none) (hv:bootBuiltins x=some (.type T)) (ha:DA X (a::es) mr)
  (hn:x ≠ "__name__") (hdb:(x==("__debug__":Str))=false) (he:starEach (a::es) X.env=(false,eval a X.env)::starEach es X.env) (hpl:(backTo pos (starEach es X.env)).any (·.1)=false) :
  DE X (.Call (.Name x p) (a::es) [] pos) (mr.bnd fun ds=>Zl (f ds)):=fun loc mh=>by
 refine Cm (Hs hc hg hm hv (ha loc mh) hn hdb he hpl) ?_;rintro σ H Q ⟨ρ,d,mh',q,rl,rs,co⟩;obtain ⟨ds,m1,ea,q⟩:=Be q
 ·exact ⟨ρ,ds,m1,ea,rl,rs,fun H1 ρ1 vs e1 rs1 r1=>⟨ρ1,m1,ds,d,mh',q,rs1,r1,co.ev e1⟩⟩
end
section
variable {X:Cx}
theorem Np {f:Value->Value->Sem Value}{r r':R2}(h:OpR X f r) (i:∀ x y H Q,r' x y H Q->r x y H Q):OpR X f r':=fun pins s σ H x y v u Q I rx ry q=>h pins s σ H x y v u Q I rx ry (i x y H Q q)
noncomputable def iop (C:Int->Int->Bool) (g:Int->Int->Int):D->D->MH->Option (D×MH)
 | .int i,.int j,mh=>if C i j=true then some (.int (g i j),mh) else none
 | _,_,_=>none
theorem J1 {f:Value->Value->Sem Value}{C:Int->Int->Prop}{Cb:Int->Int->Bool}{g:Int->Int->Int}(h:OpR X f (rI C fun i j=>.int (g i j))) (hC:∀ i j,Cb i j=true->C i j):OpR X f (rD X.K (iop Cb g)):=by
 refine Np h ?_;rintro x y H Q ⟨ρ,mh,dx,dy,d,mh',q,rs,rx,ry,co⟩;cases rx with
 | int i =>
  cases ry with
  | int j =>
   have q:(if Cb i j=true then some (D.int (g i j),mh) else none)=some (d,mh'):=q;split at q
   ·rename_i hc;cases q;exact ⟨i,j,rfl,rfl,hC i j hc,co H ρ _ Ev.refl rs (.int _)⟩
   ·cases q
  | _=>cases q
 | _=>cases q
theorem Sw {f:Value->Value->Sem Value}{g:Int->Int->Int}(h:OpR X f (rI0 fun i j=>.int (g i j))):OpR X f (rD X.K (iop (fun _ _=>true) g)) :=
 J1 (C:=fun _ _=>True) (Np h fun x y H Q ⟨i,j,e1,e2,_,q⟩=>⟨i,j,e1,e2,q⟩) fun _ _ _=>trivial
noncomputable def Qq (g:Int->Int->Bool):D->D->MH->Option (D×MH)
 | .int i,.int j,mh=>some (.bl (g i j),mh)
 | _,_,_=>none
theorem Nq {f:Value->Value->Sem Value}{g:Int->Int->Bool}(h:OpR X f (rI0 fun i j=>.bl (g i j))):OpR X f (rD X.K (Qq g)):=by
 refine Np h ?_;rintro x y H Q ⟨ρ,mh,dx,dy,d,mh',q,rs,rx,ry,co⟩;cases rx with
 | int i =>
  cases ry with
  | int j =>
   cases q;exact ⟨i,j,rfl,rfl,co H ρ _ Ev.refl rs (.bl _)⟩
  | _=>cases q
 | _=>cases q
noncomputable def Bu:D->D->MH->Option (D×MH)
 | .int i,.int j,mh=>some (.int (i+j),mh)
 | .str i,.str j,mh=>if i.length+j.length<=sizeLine then some (.str (i++j),mh) else none
 | .tup xs,.tup ys,mh=>if xs.length+ys.length<=sizeLine then some (.tup (xs++ys),mh) else none
 | .ref n,.ref m,mh=>match mh[n]?,mh[m]? with
  | some (.lst xs),some (.lst ys)=>if xs.length+ys.length<=sizeLine then some (.ref mh.length,mh++[.lst (xs++ys)]) else none
  | _,_=>none
 | _,_,_=>none
end
noncomputable def mapO {α β:Type}(f:α->Option β):List α->Option (List β)
 | []=>some []
 | x::xs=>match f x with
  | some y=>match mapO f xs with
   | some ys=>some (y::ys)
   | none=>none
  | none=>none
noncomputable def py (mh:MH):Nat->D->Option PyData
 | _,.non=>some .none
 | _,.bl b=>some (.bool b)
 | _,.int i=>some (.int i)
 | _,.str x=>if PyData.strOk x=true then some (.str x) else none
 | 0,.tup _=>none
 | 0,.ref _=>none
 | 0,.rol _=>none
 | 0,.obj ..=>none
 | _+1,.obj ..=>none
 | 0,.fn _=>none
 | _+1,.fn _=>none
 | n+1,.tup ds=>match mapO (py mh n) ds with | some xs=>some (.tuple xs) | none=>none
 | n+1,.rol ds=>match mapO (py mh n) ds with | some xs=>some (.list xs) | none=>none
 | n+1,.ref k=>match mh[k]? with
  | some (.lst o)=>match mapO (py mh n) o with | some xs=>some (.list xs) | none=>none
  | _=>none
section
variable {X:Cx}{pins:List (Addr×Obj)}{σ:St}{H:Hp}{s:Shared}{ρ:List Addr}{mh:MH}
theorem Ds (I:Inv X pins σ H s) (rs:RS X.K H ρ mh):∀ (n:Nat) (d:D) (v:V) (u:Value) (a:PyData),py mh n d=some a->RD X.K H ρ d v->Cg v u->(∃ as,Reads s.heap u a as)/\a.canLay0=true/\a.depth<=n:=by
 intro n
 induction n with
 | zero =>
  intro d v u a e r rv;cases r with
  | non=>cases e;cases rv;exact ⟨⟨_,.none⟩,rfl,Nat.le_refl _⟩
  | bl b=>cases e;cases rv;exact ⟨⟨_,.bool b⟩,rfl,Nat.le_refl _⟩
  | int i=>cases e;obtain ⟨t,rfl⟩:=rv;exact ⟨⟨_,.int i t⟩,rfl,Nat.le_refl _⟩
  | str x =>
   have e:(if PyData.strOk x=true then some (PyData.str x) else none)=some a:=e;split at e
   ·cases e;obtain ⟨t,rfl⟩:=rv;exact ⟨⟨_,.str x t⟩,by assumption,Nat.le_refl _⟩
   ·cases e
  | tup s r=>cases e
  | ref h=>cases e
  | rol s r=>cases e
  | obj n s l r=>cases e
  | fn h=>cases e
 | succ n ih =>
  have all:∀ (ds:List D) (vs:List V) (us:List Value) (as:List PyData),mapO (py mh n) ds=some as->RDs X.K H ρ ds vs->Vals vs us->(∃ bs,ReadsAll s.heap us as bs)/\PyData.canLayAll0 as=true/\PyData.depthAll as<=n:=by
   intro ds
   induction ds with
   | nil=>intro vs us as e r rv;cases e;cases r;cases rv;exact ⟨⟨_,.nil⟩,rfl,Nat.zero_le _⟩
   | cons d ds ihd =>
    intro vs us as e r rv;cases r with
    | cons r1 r2 =>
     cases rv with
     | cons v1 v2 =>
      simp only [mapO] at e;split at e
      ·rename_i y ey;split at e
       ·rename_i ys eys;cases e;obtain ⟨⟨a1,h1⟩,h2,h3⟩:=ih _ _ _ _ ey r1 v1;obtain ⟨⟨b1,g1⟩,g2,g3⟩:=ihd _ _ _ eys r2 v2;refine ⟨⟨_,.cons h1 g1⟩,?_,?_⟩
        ·simp only [PyData.canLayAll0,h2,g2,Bool.and_self]
        ·simp only [PyData.depthAll];omega
       ·cases e
      ·cases e
  intro d v u a e r rv;cases r with
  | non=>cases e;cases rv;exact ⟨⟨_,.none⟩,rfl,Nat.zero_le _⟩
  | bl b=>cases e;cases rv;exact ⟨⟨_,.bool b⟩,rfl,Nat.zero_le _⟩
  | int i=>cases e;obtain ⟨t,rfl⟩:=rv;exact ⟨⟨_,.int i t⟩,rfl,Nat.zero_le _⟩
  | str x =>
   have e:(if PyData.strOk x=true then some (PyData.str x) else none)=some a:=e;split at e
   ·cases e;obtain ⟨t,rfl⟩:=rv;exact ⟨⟨_,.str x t⟩,by assumption,Nat.zero_le _⟩
   ·cases e
  | @tup ds a' xs sq r =>
   cases rv;have e:(match mapO (py mh n) ds with | some xs=>some (PyData.tuple xs) | none=>none)=some a:=e;split at e
   ·rename_i ys ey;cases e;obtain ⟨its,rv,⟨o,h1,h2,n',h3⟩,_⟩:=I.tuple sq;obtain ⟨⟨bs,g1⟩,g2,g3⟩:=all ds xs its ys ey r rv;refine ⟨⟨_,.tuple h1 h2 h3 (by simpa using g1)⟩,by simpa [PyData.canLay0] using g2,?_⟩;simp only [PyData.depth];omega
   ·cases e
  | obj n s l r=>cases e
  | fn h=>cases e
  | @rol ds a' xs sq r =>
   cases rv;have e:(match mapO (py mh n) ds with | some xs=>some (PyData.list xs) | none=>none)=some a:=e;split at e
   ·rename_i ys ey;cases e;obtain ⟨its,rv,⟨ob,n',h1,h2,h2',h3⟩,_⟩:=I.list sq.sq;obtain ⟨⟨bs,g1⟩,g2,g3⟩:=all _ xs its ys ey r rv;refine ⟨⟨_,.list h1 h2 h3 (by simpa using g1)⟩,by simpa [PyData.canLay0] using g2,?_⟩;simp only [PyData.depth];omega
   ·cases e
  | @ref k a' h =>
   cases rv;have e:(match mh[k]? with | some (.lst o)=>(match mapO (py mh n) o with | some xs=>some (PyData.list xs) | none=>none) | _=>none)=some a:=e;split at e
   ·rename_i o eo;split at e
    ·rename_i ys ey;cases e;obtain ⟨a2,ha,ro⟩:=rs.at eo;rw [h] at ha;cases ha;obtain ⟨xs,sq,r⟩:=ro.read;obtain ⟨its,rv,⟨ob,n',h1,h2,h2',h3⟩,_⟩:=I.list sq;obtain ⟨⟨bs,g1⟩,g2,g3⟩:=all _ xs its ys ey r rv;refine ⟨⟨_,.list h1 h2 h3 (by simpa using g1)⟩,by simpa [PyData.canLay0] using g2,?_⟩;simp only [PyData.depth];omega
    ·cases e
   ·cases e
noncomputable def eqB (mh:MH) (x y:D):Option Bool:=match py mh 60 x,py mh 60 y with
 | some a,some b=>some (PyData.eqv a b)
 | _,_=>none
noncomputable def eqD (x y:D) (mh:MH):Option (D×MH):=match eqB mh x y with | some k=>some (.bl k,mh) | none=>none
noncomputable def neD (x y:D) (mh:MH):Option (D×MH):=match eqB mh x y with | some k=>some (.bl (!k),mh) | none=>none
theorem gC {A:Around}{a b:PyData}(hu:A.units+64 < cLine) (h:a.depth<=60):A.units+min a.depth b.depth < cLine:=by omega
theorem Uu {x y:D}{k:Bool}(h:eqB mh x y=some k):∃ a b,py mh 60 x=some a/\py mh 60 y=some b/\k=PyData.eqv a b:=by
 unfold eqB at h;split at h
 ·rename_i a b ea eb;cases h;exact ⟨a,b,ea,eb,rfl⟩
 ·cases h
theorem Aam (hu:X.A.units+64 < cLine):OpR X (compareOp .Eq) (rD X.K eqD):=by
 rintro pins s σ H x y v u Q I rx ry ⟨ρ,mh,dx,dy,d,mh',q,rs,r1,r2,co⟩;unfold eqD at q;split at q
 ·rename_i k ek;cases q;obtain ⟨a,b,ea,eb,rfl⟩:=Uu ek;obtain ⟨⟨as,h1⟩,h2,h3⟩:=Ds I rs 60 dx x v a ea r1 rx;obtain ⟨⟨bs,g1⟩,g2,g3⟩:=Ds I rs 60 dy y u b eb r2 ry;exact SeqAt.compareEq_reads h1 g1 h2 g2 (gC hu h3) ⟨.bl _,H,I,rfl,co H ρ _ Ev.refl rs (.bl _)⟩
 ·cases q
theorem Aan (hu:X.A.units+64 < cLine):OpR X (compareOp .NotEq) (rD X.K neD):=by
 rintro pins s σ H x y v u Q I rx ry ⟨ρ,mh,dx,dy,d,mh',q,rs,r1,r2,co⟩;unfold neD at q;split at q
 ·rename_i k ek;cases q;obtain ⟨a,b,ea,eb,rfl⟩:=Uu ek;obtain ⟨⟨as,h1⟩,h2,h3⟩:=Ds I rs 60 dx x v a ea r1 rx;obtain ⟨⟨bs,g1⟩,g2,g3⟩:=Ds I rs 60 dy y u b eb r2 ry;exact SeqAt.compareNe_reads h1 g1 h2 g2 (gC hu h3) ⟨.bl _,H,I,rfl,co H ρ _ Ev.refl rs (.bl _)⟩
 ·cases q
noncomputable def inB (mh:MH) (x c:D):Option Bool:=match py mh 60 x,py mh 60 c with
 | some a,some (.list xs)=>some (xs.any fun y=>PyData.eqv y a)
 | some a,some (.tuple xs)=>some (xs.any fun y=>PyData.eqv y a)
 | _,_=>none
noncomputable def Uv (neg:Bool) (x c:D) (mh:MH):Option (D×MH):=match inB mh x c with | some k=>some (.bl (if neg then !k else k),mh) | none=>none
theorem tQ (hu:X.A.units+64 < cLine):OpR X (compareOp .In) (rD X.K (Uv false)):=by
 rintro pins s σ H x y v u Q I rx ry ⟨ρ,mh,dx,dy,d,mh',q,rs,r1,r2,co⟩;unfold Uv at q;split at q
 ·rename_i k ek;cases q;unfold inB at ek;split at ek
  ·rename_i a xs ea eb;cases ek;obtain ⟨⟨as,h1⟩,h2,h3⟩:=Ds I rs 60 dx x v a ea r1 rx;obtain ⟨⟨bs,g1⟩,g2,g3⟩:=Ds I rs 60 dy y u _ eb r2 ry;exact SeqAt.in_list_reads g1 h1 (by simpa [PyData.canLay0] using g2) h2 (by simp only [PyData.depth] at g3;omega) ⟨.bl _,H,I,rfl,co H ρ _ Ev.refl rs (.bl _)⟩
  ·rename_i a xs ea eb;cases ek;obtain ⟨⟨as,h1⟩,h2,h3⟩:=Ds I rs 60 dx x v a ea r1 rx;obtain ⟨⟨bs,g1⟩,g2,g3⟩:=Ds I rs 60 dy y u _ eb r2 ry;exact SeqAt.in_tuple_reads g1 h1 (by simpa [PyData.canLay0] using g2) h2 (by simp only [PyData.depth] at g3;omega) ⟨.bl _,H,I,rfl,co H ρ _ Ev.refl rs (.bl _)⟩
  ·cases ek
 ·cases q
theorem Ws (hu:X.A.units+64 < cLine):OpR X (compareOp .NotIn) (rD X.K (Uv true)):=by
 rintro pins s σ H x y v u Q I rx ry ⟨ρ,mh,dx,dy,d,mh',q,rs,r1,r2,co⟩;unfold Uv at q;split at q
 ·rename_i k ek;cases q;unfold inB at ek;split at ek
  ·rename_i a xs ea eb;cases ek;obtain ⟨⟨as,h1⟩,h2,h3⟩:=Ds I rs 60 dx x v a ea r1 rx;obtain ⟨⟨bs,g1⟩,g2,g3⟩:=Ds I rs 60 dy y u _ eb r2 ry;exact SeqAt.notIn_list_reads g1 h1 (by simpa [PyData.canLay0] using g2) h2 (by simp only [PyData.depth] at g3;omega) ⟨.bl _,H,I,rfl,co H ρ _ Ev.refl rs (.bl _)⟩
  ·rename_i a xs ea eb;cases ek;obtain ⟨⟨as,h1⟩,h2,h3⟩:=Ds I rs 60 dx x v a ea r1 rx;obtain ⟨⟨bs,g1⟩,g2,g3⟩:=Ds I rs 60 dy y u _ eb r2 ry;exact SeqAt.notIn_tuple_reads g1 h1 (by simpa [PyData.canLay0] using g2) h2 (by simp only [PyData.depth] at g3;omega) ⟨.bl _,H,I,rfl,co H ρ _ Ev.refl rs (.bl _)⟩
  ·cases ek
 ·cases q
end
section
variable {X:Cx}
noncomputable def isD (neg:Bool):D->D->MH->Option (D×MH)
 | x,.non,mh=>some (.bl (if neg then !(match x with | .non=>true | _=>false) else match x with | .non=>true | _=>false),mh)
 | .bl a,.bl b,mh=>some (.bl (if neg then a != b else a==b),mh)
 | _,_,_=>none
theorem Aao:OpR X (compareOp .Is) (rD X.K (isD false)):=by
 rintro pins s σ H x y v u Q I rx ry ⟨ρ,mh,dx,dy,d,mh',q,rs,r1,r2,co⟩;cases r2 with
 | non =>
  cases q;cases ry;refine is_none_gen ⟨.bl _,H,I,?_,co H ρ _ Ev.refl rs (.bl _)⟩;rw [rx.none_iff];cases r1 <;> rfl
 | bl b =>
  cases r1 with
  | bl a=>cases q;cases rx;cases ry;exact is_bool ⟨.bl _,H,I,rfl,co H ρ _ Ev.refl rs (.bl _)⟩
  | _=>cases q
 | _=>cases r1 <;> cases q
theorem aZ:OpR X (compareOp .IsNot) (rD X.K (isD true)):=by
 rintro pins s σ H x y v u Q I rx ry ⟨ρ,mh,dx,dy,d,mh',q,rs,r1,r2,co⟩;cases r2 with
 | non =>
  cases q;cases ry;refine isnot_none_gen ⟨.bl _,H,I,?_,co H ρ _ Ev.refl rs (.bl _)⟩;rw [rx.none_iff];cases r1 <;> rfl
 | bl b =>
  cases r1 with
  | bl a=>cases q;cases rx;cases ry;exact isnot_bool ⟨.bl _,H,I,rfl,co H ρ _ Ev.refl rs (.bl _)⟩
  | _=>cases q
 | _=>cases r1 <;> cases q
theorem gD:OpR X (binaryOp .Add) (fun x y H Q=>∃ a b ys,x=.ref a/\y=.ref b/\SqT X.K H a []/\SqT X.K H b ys/\Q (.ref b) H):=by
 rintro pins s σ H x y v u Q I rx ry ⟨a,b,ys,e1,e2,ha,hb,q⟩;subst e1;subst e2;cases rx;cases ry;obtain ⟨its,r1,p1,_⟩:=I.tuple ha;obtain ⟨its2,r2,p2,_⟩:=I.tuple hb;cases r1;obtain ⟨⟨cls,dd,data,sl⟩,ho,hc,n,hd⟩:=id p1;obtain ⟨⟨cls2,dd2,data2,sl2⟩,ho2,hc2,n2,hd2⟩:=id p2;simp only at hc hd hc2 hd2;subst hc hd hc2 hd2;exact concat_meets ⟨_,ho,rfl⟩ ⟨_,ho2,rfl⟩ noFill_tuple_add seq_tuple_add PySem.F.slot_tuple_add PySem.F.entry_tuple_add (PySem.F.args_tuple_add_2 _ _) (tuple_addW0 a b _ _ n n2 dd dd2 sl sl2 (by simp)) ⟨ho,ho2,⟨.ref b,H,I,rfl,q⟩⟩
theorem tR:OpR X (binaryOp .Add) (rD X.K Bu):=by
 refine Np (yZ.or (Wf.or (sJ.or (zY.or gD)))) ?_;rintro x y H Q ⟨ρ,mh,dx,dy,d,mh',q,rs,rx,ry,co⟩;cases rx with
 | int i =>
  cases ry with
  | int j=>cases q;exact .inl ⟨i,j,rfl,rfl,co H ρ _ Ev.refl rs (.int _)⟩
  | _=>cases q
 | str i =>
  cases ry with
  | str j =>
   have q:(if i.length+j.length<=sizeLine then some (D.str (i++j),mh) else none)=some (d,mh'):=q;split at q
   ·rename_i hz;cases q;exact .inr (.inl ⟨i,j,rfl,rfl,hz,co H ρ _ Ev.refl rs (.str _)⟩)
   ·cases q
  | _=>cases q
 | @tup xs a us s1 r1 =>
  cases ry with
  | @tup ys b ws s2 r2 =>
   have q:(if xs.length+ys.length<=sizeLine then some (D.tup (xs++ys),mh) else none)=some (d,mh'):=q;split at q
   ·rename_i hz;cases q
    by_cases hne:xs=[]
    ·subst hne;cases r1;exact .inr (.inr (.inr (.inr ⟨a,b,ws,rfl,rfl,s1,s2,co H ρ _ Ev.refl rs (.tup s2 r2)⟩)))
    ·refine .inr (.inr (.inl ⟨a,b,us,ws,rfl,rfl,s1,s2,fun z=>hne ?_,by rw [← r1.length,← r2.length];exact hz,?_⟩))
     ·rw [z] at r1;cases r1;rfl
     ·refine ⟨fun z=>?_,fun z=>Co.newT rs (r1.append r2) co⟩;subst z;cases r2;exact co H ρ _ Ev.refl rs (.tup s1 (by rw [List.append_nil];exact r1))
   ·cases q
  | _=>cases q
 | @ref n a ha =>
  cases ry with
  | @ref m b hb =>
   have q:(match mh[n]?,mh[m]? with
    | some (.lst xs),some (.lst ys)=>if xs.length+ys.length<=sizeLine then some (D.ref mh.length,mh++[.lst (xs++ys)]) else none
    | _,_=>none)=some (d,mh'):=q
   split at q
   ·rename_i xs ys e1 e2;split at q
    ·rename_i hz;cases q;obtain ⟨a2,h1,us,g1,r1⟩:=rs.at e1;obtain ⟨b2,h2,ws,g2,r2⟩:=rs.at e2;rw [ha] at h1;rw [hb] at h2;cases h1;cases h2;exact .inr (.inr (.inr (.inl ⟨a,b,us,ws,rfl,rfl,g1,g2,by rw [← r1.length,← r2.length];exact hz,Co.newL rs (r1.append r2) co⟩)))
    ·cases q
   ·cases q
  | _=>cases q
 | _=>cases q
end
section
variable {X:Cx}
theorem Lh {f:Value}{r r':List V->Hp->VK->Prop}(h:Dd X f r) (i:∀ xs H Q,r' xs H Q->r xs H Q):Dd X f r':=fun pins s σ H xs us Q I rx q=>h pins s σ H xs us Q I rx (i xs H Q q)
theorem tU {r r':R2}(h:IxR X r) (i:∀ x y H Q,r' x y H Q->r x y H Q):IxR X r':=fun a b pins s σ H x y v u Q I rx ry q hs=>h a b pins s σ H x y v u Q I rx ry (i x y H Q q) hs
theorem tV {r r':V->Option Int->Option Int->Hp->VK->Prop}(h:SlR X r) (i:∀ x lo hi H Q,r' x lo hi H Q->r x lo hi H Q):SlR X r':=fun pins s σ H x v vl vu lo hi sl Q I rx hs pl pu q=>h pins s σ H x v vl vu lo hi sl Q I rx hs pl pu (i x lo hi H Q q)
noncomputable def Gd:D->MH->Option (List D)
 | .tup ds,_=>some ds
 | .ref n,mh=>match mh[n]? with | some (.lst o)=>some o | _=>none
 | .rol ds,_=>some ds
 | _,_=>none
theorem Ja {K:PySem.W.Frag}{H:Hp}{ρ:List Addr}{mh:MH}{d:D}{v:V}{ds:List D}(rs:RS K H ρ mh) (r:RD K H ρ d v) (e:Gd d mh=some ds):∃ p xs,v=.ref p/\(SqL K H p xs\/SqT K H p xs)/\RDs K H ρ ds xs:=by
 cases r with
 | tup s r=>cases e;exact ⟨_,_,rfl,.inr s,r⟩
 | rol s r=>cases e;exact ⟨_,_,rfl,.inl s.sq,r⟩
 | @ref n a h =>
  have e:(match mh[n]? with | some (.lst o)=>some o | _=>none)=some ds:=e;split at e
  ·rename_i o eo;cases e;obtain ⟨a',ha,ro⟩:=rs.at eo;rw [h] at ha;cases ha;obtain ⟨xs,q,r⟩:=ro.read;exact ⟨_,xs,rfl,.inl q,r⟩
  ·cases e
 | _=>cases e
theorem tW {K:PySem.W.Frag}{H:Hp}{ρ:List Addr}{ds:List D}{xs:List V}{i:Int}{d:D}(r:RDs K H ρ ds xs) (e:atI ds i=some d):∃ v,atI xs i=some v/\RD K H ρ d v:=by
 unfold atI at e ⊢;rw [← r.length];cases q:ixN ds.length i with
 | none=>rw [q] at e;cases e
 | some j =>
  rw [q] at e;exact r.get e
noncomputable def gF:D->D->MH->Option (D×MH)
 | .str z,.int i,mh=>if z.length<=sizeLine then (match atI z.cps.toList i with | some c=>some (.str ⟨#[c]⟩,mh) | none=>none) else none
 | x,.int i,mh=>match Gd x mh with
  | some ds=>(match atI ds i with | some d=>some (d,mh) | none=>none)
  | none=>none
 | _,_,_=>none
theorem Aew:IxR X (rD X.K gF):=by
 refine tU (zW (X:=X)) ?_;rintro x y H Q ⟨ρ,mh,dx,dy,d,mh',q,rs,rx,ry,co⟩;have seq:∀ i:Int,y=.int i->(match Gd dx mh with | some ds=>(match atI ds i with | some d=>some (d,mh) | none=>none) | none=>none)=some (d,mh')->rIx X.K x y H Q:=fun i ey q=>by
  split at q
  ·rename_i ds e1;split at q
   ·rename_i d' e2;cases q;obtain ⟨p,xs,rfl,hq,r⟩:=Ja rs rx e1;obtain ⟨v,e3,r3⟩:=tW r e2;rcases hq with hq|hq
    ·exact .inl ⟨p,xs,i,v,rfl,ey,hq,e3,co H ρ v Ev.refl rs r3⟩
    ·exact .inr (.inl ⟨p,xs,i,v,rfl,ey,hq,e3,co H ρ v Ev.refl rs r3⟩)
   ·cases q
  ·cases q
 cases ry with
 | int i =>
  cases rx with
  | str z =>
   have q:(if z.length<=sizeLine then (match atI z.cps.toList i with | some c=>some (D.str ⟨#[c]⟩,mh) | none=>none) else none)=some (d,mh'):=q;split at q
   ·rename_i hz;split at q
    ·rename_i c ec;cases q;exact .inr (.inr ⟨z,i,c,rfl,rfl,hz,ec,co H ρ _ Ev.refl rs (.str _)⟩)
    ·cases q
   ·cases q
  | non=>exact seq i rfl q
  | bl b=>exact seq i rfl q
  | int j=>exact seq i rfl q
  | tup s r=>exact seq i rfl q
  | ref h=>exact seq i rfl q
  | rol s r=>exact seq i rfl q
  | obj n s l r=>exact seq i rfl q
  | fn h=>exact seq i rfl q
 | non=>cases rx <;> cases q
 | bl b=>cases rx <;> cases q
 | str s=>cases rx <;> cases q
 | tup s r=>cases rx <;> cases q
 | ref h=>cases rx <;> cases q
 | rol s r=>cases rx <;> cases q
 | obj n s l r=>cases rx <;> cases q
 | fn h=>cases rx <;> cases q
noncomputable def cutD {α:Type}(xs:List α) (lo hi:Option Int):List α:=(xs.drop (HT.sIx xs.length 0 lo)).take (HT.sIx xs.length xs.length hi - HT.sIx xs.length 0 lo)
theorem Sx {K:PySem.W.Frag}{H:Hp}{ρ:List Addr}{ds:List D}{xs:List V}{lo hi:Option Int}(r:RDs K H ρ ds xs):RDs K H ρ (cutD ds lo hi) (Um xs lo hi):=by
 unfold cutD Um;rw [r.length];exact (r.drop _).take _
theorem Jm {prog:Program}{w:World}{A:Around}{E:Value->Shared->Prop}{s:Shared}{t sl:Addr}{items:Array Value}{vl vu:Value}{lo hi:Option Int}{Q:Value->Shared->Prop}(ht:IsTup s.heap t items) (hs:s.heap.IsSliceOf sl vl vu .none) (pl:IsPart vl lo) (pu:IsPart vu hi)
  (h0:HT.sIx items.size 0 lo=0) (h1:HT.sIx items.size items.size hi=items.size) (h:Q (.ref t) s):wpAny (model prog w) A (getItem (.ref t) (.ref sl)) Q E s:=by
 obtain ⟨os,hos,hcs,hds⟩:=id hs
 have hTs:s.TypeIs (.ref sl) "slice":=⟨os,hos,hcs⟩
 unfold getItem
 try with_reducible refine wpAny_holding ?_
 first | refine wpAny_bind (wpAny_pure ?_) | skip
 refine wpAny_bind (wpAny_sequenceKey ht.typeIs (by decide) ?_)
 refine wpAny_bind (wpAny_callSpecial?_slot (name:=Str.ofString "__getitem__") ht.typeIs PyProof.Rows.slot_tuple_getitem
  (wpAny_call_entry PyProof.Rows.slot_tuple_getitem ht.typeIs entry_tuple_getitem ?_ (args_tuple_getitem _ _)))
 show wpAny _ _ (Builtin.Tuple.tupleItemsOf (.ref t) >>= _) _ _ s;refine wpAny_bind (tupleItemsOf_ ht ?_);refine wpAny_bind (wpAny_typeOf hTs ?_);rw [if_pos (by decide)];refine wpAny_bind (HT.sliceApplied_gen hs pl pu ?_);rw [h0,h1];have hyes:((((0:Nat):Int)==0&&(1:Int)==1&&(items.size - 0)==items.size)=true):=by simp
 show wpAny _ _ (if (((0:Nat):Int)==0&&(1:Int)==1&&(items.size - 0)==items.size)=true then _ else _) _ _ s;rw [if_pos hyes];unfold Builtin.Tuple.tupleIsExact;refine wpAny_bind (wpAny_bind (wpAny_typeOf ht.typeIs (wpAny_pure ?_)));rw [if_pos (by decide)];exact wpAny_bind (wpAny_rule (wpAny_pure ⟨_,rfl,wpAny_pure h⟩))
theorem bA:SlR X (fun x lo hi H Q=>∃ a xs,x=.ref a/\SqT X.K H a xs/\HT.sIx xs.length 0 lo=0/\HT.sIx xs.length xs.length hi=xs.length/\Q (.ref a) H):=by
 intro pins s σ H x v vl vu lo hi sl Q I rx hs pl pu h;obtain ⟨a,xs,rfl,hx,h0,h1,q⟩:=h;cases rx;obtain ⟨its,r,ht,hz⟩:=I.tuple hx;have hlen:its.toArray.size=xs.length:=by rw [List.size_toArray];exact r.length.symm
 refine ⟨"tuple",_,PyProof.Rows.slot_tuple_getitem.lookup,ht.typeIs,?_⟩;exact Jm ht hs pl pu (by rw [hlen];exact h0) (by rw [hlen];exact h1) ⟨.ref a,H,I,rfl,q⟩
noncomputable def slD (x:D) (lo hi:Option Int) (mh:MH):Option (D×MH):=match x with
 | .tup ds=>if HT.sIx ds.length 0 lo=0/\HT.sIx ds.length ds.length hi=ds.length then some (.tup ds,mh) else some (.tup (cutD ds lo hi),mh)
 | .ref n=>match mh[n]? with
  | some (.lst o)=>some (.ref mh.length,mh++[.lst (cutD o lo hi)])
  | _=>none
 | .rol ds=>some (.ref mh.length,mh++[.lst (cutD ds lo hi)])
 | _=>none
noncomputable def Agm (K:PySem.W.Frag):V->Option Int->Option Int->Hp->VK->Prop:=fun x lo hi H Q=>∃ ρ mh dx d mh',slD dx lo hi mh=some (d,mh')/\RS K H ρ mh/\RD K H ρ dx x/\Co K H ρ mh' d Q
theorem Agn:SlR X (Agm X.K):=by
 refine tV (bA.or (zT.or sS)) ?_;rintro x lo hi H Q ⟨ρ,mh,dx,d,mh',q,rs,rx,co⟩;cases rx with
 | @tup ds a xs s r =>
  have q:(if HT.sIx ds.length 0 lo=0/\HT.sIx ds.length ds.length hi=ds.length then some (D.tup ds,mh) else some (D.tup (cutD ds lo hi),mh))=some (d,mh'):=q;have hl:=r.length;split at q
  ·rename_i hw;cases q;exact .inl ⟨a,xs,rfl,s,by rw [← hl];exact hw.1,by rw [← hl];exact hw.2,co H ρ _ Ev.refl rs (.tup s r)⟩
  ·rename_i hw;cases q;exact .inr (.inl ⟨a,xs,rfl,s,by rw [← hl];exact hw,Co.newT rs (Sx r) co⟩)
 | @ref n a h =>
  have q:(match mh[n]? with | some (.lst o)=>some (D.ref mh.length,mh++[.lst (cutD o lo hi)]) | _=>none)=some (d,mh'):=q;split at q
  ·rename_i o eo;cases q;obtain ⟨a',ha,ro⟩:=rs.at eo;rw [h] at ha;cases ha;obtain ⟨xs,sq,r⟩:=ro.read;exact .inr (.inr ⟨a,xs,rfl,sq,Co.newL rs (Sx r) co⟩)
  ·cases q
 | @rol ds a xs s r =>
  cases q;exact .inr (.inr ⟨a,xs,rfl,s.sq,Co.newL rs (Sx r) co⟩)
 | _=>cases q
noncomputable def Kg (m:Option (DM D)):DM (Option Int):=match m with
 | none=>Zr none
 | some m=>m.bnd fun x=>match x with | .int i=>Zr (some i) | _=>Zb
noncomputable def gG (X:Cx) (e:Option Expr) (m:Option (DM D)):Prop:=match e,m with
 | none,none=>True
 | some e,some m=>DE X e m
 | _,_=>False
noncomputable def tDO (K:PySem.W.Frag) (loc:Loc) (mh:MH) (r:Option (Option Int×MH)):TO:=fun σ H Q=>∃ ρ o mh',r=some (o,mh')/\RL K H ρ loc σ/\RS K H ρ mh/\∀ H' ρ',Ev K H ρ H' ρ'->RS K H' ρ' mh'->Q o H'
theorem Aex {e:Option Expr}{m:Option (DM D)}(h:gG X e m) (loc:Loc) (mh:MH):PO X e (tDO X.K loc mh (Kg m loc mh)):=by
 rintro pins s σ H Q I ⟨ρ,o,mh',q,rl,rs,co⟩;cases e with
 | none =>
  cases m with
  | none =>
   cases q;exact sH pins s σ H Q I (co H ρ Ev.refl rs)
  | some m=>exact h.elim
 | some e =>
  cases m with
  | none=>exact h.elim
  | some m =>
   obtain ⟨x,m1,ea,q⟩:=Be q;cases x with
   | int i =>
    cases q;refine sI (h loc mh) pins s σ H Q I ⟨ρ,.int i,mh',ea,rl,rs,fun H' ρ' v e' rs' r'=>?_⟩;cases r';exact ⟨i,rfl,co H' ρ' e' rs'⟩
   | non=>cases q
   | bl b=>cases q
   | str z=>cases q
   | tup ds=>cases q
   | ref n=>cases q
   | rol ds=>cases q
   | obj c ks ds=>cases q
   | fn x=>cases q
noncomputable def dSl (ma:DM D) (ml mu:Option (DM D)):DM D:=ma.bnd fun x=>(Kg ml).bnd fun l=>(Kg mu).bnd fun u=>Zl (slD x l u)
theorem gH {a:Expr}{ma:DM D}{lo hi:Option Expr}{ml mu:Option (DM D)}{p2 pos:Pos}(ha:DE X a ma) (hl:gG X lo ml) (hu:gG X hi mu):DE X (.Subscript a (.Slice lo hi none p2) pos) (dSl ma ml mu):=fun loc mh=>by
 cases ea:ma loc mh with
 | none =>
  have:dSl ma ml mu loc mh=none:=by unfold dSl DM.bnd;rw [ea]
  rw [this];exact Cu
 | some p =>
  obtain ⟨x,m1⟩:=p;cases el:Kg ml loc m1 with
  | none =>
   have:dSl ma ml mu loc mh=none:=by unfold dSl;unfold DM.bnd;rw [ea];dsimp only;rw [el]
   rw [this];exact Cu
  | some p2 =>
   obtain ⟨l,m2⟩:=p2;refine Cm (fM Agn (ha loc mh) (Aex hl loc m1) (Aex hu loc m2)) ?_;rintro σ H Q ⟨ρ,d,mh',q,rl,rs,co⟩;obtain ⟨x',m1',ea',q⟩:=Be q;rw [ea] at ea';cases ea';obtain ⟨l',m2',el',q⟩:=Be q;rw [el] at el';cases el';obtain ⟨u,m3,eu,q⟩:=Be q
   exact ⟨ρ,x,m1,ea,rl,rs,fun H1 ρ1 v e1 rs1 r1=>⟨ρ1,l,m2,el,rl.mono e1,rs1,fun H2 ρ2 e2 rs2=>⟨ρ2,u,m3,eu,(rl.mono e1).mono e2,rs2,fun H3 ρ3 e3 rs3 =>
    ⟨ρ3,m3,x,d,mh',q,rs3,(r1.mono e2).mono e3,co.ev (e1.trans (e2.trans e3))⟩⟩⟩⟩
end
section
variable {X:Cx}
noncomputable def Dn:List D->MH->Option (D×MH)
 | [.str z],mh=>if z.length<=sizeLine then some (.int z.length,mh) else none
 | [x],mh=>match Gd x mh with | some ds=>some (.int ds.length,mh) | none=>none
 | _,_=>none
theorem Wt {K:PySem.W.Frag}{H:Hp}{ρ:List Addr}{d:D}{xs:List V}(h:RDs K H ρ [d] xs):∃ v,xs=[v]/\RD K H ρ d v:=by
 cases h with
 | cons r t=>cases t;exact ⟨_,rfl,r⟩
theorem bB:Dd X (.builtin "len") (rDs X.K Dn):=by
 refine Lh (Sd.or Sg) ?_;rintro xs H Q ⟨ρ,mh,ds,d,mh',q,rs,r,co⟩
 match ds,q with
 | [x],q =>
  obtain ⟨v,rfl,rx⟩:=Wt r;have seq:(match Gd x mh with | some ds=>some (D.int ds.length,mh) | none=>none)=some (d,mh')->∃ p ys,[v]=[.ref p]/\(SqL X.K H p ys\/SqT X.K H p ys)/\Q (.int ys.length) H:=fun q=>by
   split at q
   ·rename_i ds e1;cases q;obtain ⟨p,ys,rfl,hq,r⟩:=Ja rs rx e1;exact ⟨p,ys,rfl,hq,by rw [← r.length];exact co H ρ _ Ev.refl rs (.int _)⟩
   ·cases q
  cases rx with
  | str z =>
   have q:(if z.length<=sizeLine then some (D.int z.length,mh) else none)=some (d,mh'):=q;split at q
   ·rename_i hz;cases q;exact .inr ⟨z,rfl,hz,co H ρ _ Ev.refl rs (.int _)⟩
   ·cases q
  | non=>exact .inl (seq q)
  | bl b=>exact .inl (seq q)
  | int i=>exact .inl (seq q)
  | tup s r=>exact .inl (seq q)
  | ref h=>exact .inl (seq q)
  | rol s r=>exact .inl (seq q)
  | obj n s l r=>exact .inl (seq q)
  | fn h=>exact .inl (seq q)
 | [],q=>cases q
 | _::_::_,q=>simp [Dn] at q
noncomputable def G6:List D->MH->Option (D×MH)
 | [x],mh=>match Gd x mh with | some ds=>some (.ref mh.length,mh++[.lst ds]) | none=>none
 | _,_=>none
theorem Wu:Dd X (.type "list") (rDs X.K G6):=by
 refine Lh Sh ?_;rintro xs H Q ⟨ρ,mh,ds,d,mh',q,rs,r,co⟩
 match ds,q with
 | [x],q =>
  obtain ⟨v,rfl,rx⟩:=Wt r;have q:(match Gd x mh with | some ds=>some (D.ref mh.length,mh++[.lst ds]) | none=>none)=some (d,mh'):=q;split at q
  ·rename_i ds e1;cases q;obtain ⟨p,ys,rfl,hq,r⟩:=Ja rs rx e1;exact ⟨p,ys,rfl,hq,Co.newL rs r co⟩
  ·cases q
 | [],q=>cases q
 | _::_::_,q=>cases q
noncomputable def En:List D->MH->Option (D×MH)
 | [x],mh=>match Gd x mh with | some ds=>some (.tup ds,mh) | none=>none
 | _,_=>none
theorem Uw:Dd X (.type "tuple") (rDs X.K En):=by
 refine Lh Qp ?_;rintro xs H Q ⟨ρ,mh,ds,d,mh',q,rs,r,co⟩
 match ds,q with
 | [x],q =>
  obtain ⟨v,rfl,rx⟩:=Wt r;have q:(match Gd x mh with | some ds=>some (D.tup ds,mh) | none=>none)=some (d,mh'):=q;split at q
  ·rename_i ds e1;cases q;obtain ⟨p,ys,rfl,hq,r⟩:=Ja rs rx e1;rcases hq with hq|hq
   ·exact ⟨p,ys,rfl,.inl ⟨hq,Co.newT rs r co⟩⟩
   ·exact ⟨p,ys,rfl,.inr ⟨hq,co H ρ _ Ev.refl rs (.tup hq r)⟩⟩
  ·cases q
 | [],q=>cases q
 | _::_::_,q=>cases q
noncomputable def Wv:D->MH->Option String
 | .non,_=>some "NoneType"
 | .bl _,_=>some "bool"
 | .int _,_=>some "int"
 | .str _,_=>some "str"
 | .tup _,_=>some "tuple"
 | .ref n,mh=>match mh[n]? with | some (.lst _)=>some "list" | _=>none
 | .rol _,_=>some "list"
 | .obj ..,_=>none
 | .fn _,_=>none
noncomputable def Aap (t c:String):Option Bool :=
 if t==c then some true else
 if ["NoneType", "bool", "int", "str", "tuple", "list"].contains t&&["bool", "int", "str", "tuple", "list", "dict"].contains c then some (t == "bool"&&c == "int") else none
theorem Hy {K:PySem.W.Frag}{t c:String}{b:Bool}(ht:t∈["NoneType", "bool", "int", "str", "tuple", "list"]) (hc:c∈["bool", "int", "str", "tuple", "list", "dict"]) (h:Aap t c=some b):PySem.W.kitOne K (.type t) (.type c)=some b:=by
 simp only [List.mem_cons,List.mem_nil_iff,or_false] at ht hc;rcases ht with rfl | rfl | rfl | rfl | rfl | rfl <;> rcases hc with rfl | rfl | rfl | rfl | rfl | rfl <;> (first | (have e:b=true:=by (have h':=h;revert h';decide +revert));subst e;kernel_rfl | (have e:b=false:=by (have h':=h;revert h';decide +revert));subst e;kernel_rfl)
end
inductive Src where
 | seq (ds:List D) | lref (n:Nat) | enum (s:Src) | zip (s t:Src)
noncomputable def Ip:Nat->List D->List D
 | _,[]=>[]
 | i,d::r=>.tup [.int i,d]::Ip (i+1) r
noncomputable def Src.items:Src->MH->List D
 | .seq ds,_=>ds
 | .lref n,mh=>match mh[n]? with | some (.lst o)=>o | _=>[]
 | .enum s,mh=>Ip 0 (s.items mh)
 | .zip s t,mh=>List.zipWith (fun a b=>.tup [a,b]) (s.items mh) (t.items mh)
noncomputable def Src.ok:Src->MH->Bool
 | .seq _,_=>true
 | .lref n,mh=>match mh[n]? with | some (.lst _)=>true | _=>false
 | .enum s,mh=>s.ok mh
 | .zip s t,mh=>s.ok mh&&t.ok mh
noncomputable def Src.get (s:Src) (mh:MH) (i:Nat):Option D:=(s.items mh)[i]?
noncomputable def Src.stop (s:Src) (mh:MH) (i:Nat):Bool:=s.ok mh&&decide ((s.items mh).length<=i)
structure JR (K:PySem.W.Frag) (H0:Hp) (ρ0:List Addr) (src:Src) (J:It):Prop where
 go:∀ H ρ mh i d,Ev K H0 ρ0 H ρ->RS K H ρ mh->src.get mh i=some d->J.go i H/\∀ x H',J.yld i H x H'->Ev K H ρ H' ρ/\RS K H' ρ mh/\RD K H' ρ d x
 stop:∀ H ρ mh i,Ev K H0 ρ0 H ρ->RS K H ρ mh->src.stop mh i=true->J.stop i H
noncomputable def tDI (K:PySem.W.Frag) (loc:Loc) (mh:MH) (r:Option (Src×MH)):TI:=fun σ H R=>∃ ρ src mh',r=some (src,mh')/\RL K H ρ loc σ/\RS K H ρ mh/\∀ H' ρ' J,Ev K H ρ H' ρ'->RS K H' ρ' mh'->JR K H' ρ' src J->R J H'
noncomputable def DI (X:Cx) (tg iter:Expr) (m:DM Src):Prop:=∀ loc mh,PI X tg iter (tDI X.K loc mh (m loc mh))
theorem gJ {X:Cx}{tg e:Expr}{t t':TI}(h:PI X tg e t) (i:∀ σ H R,t' σ H R->t σ H R):PI X tg e t':=fun pins s σ H R I q=>h pins s σ H R I (i σ H R q)
theorem Fo {X:Cx}{tg e:Expr}{loc:Loc}{mh:MH}:PI X tg e (tDI X.K loc mh none):=fun _ _ _ _ _ _ h=>by obtain ⟨_,_,_,e,_⟩:=h;cases e
section
variable {X:Cx}{tg:Expr}
theorem JR.tup {K:PySem.W.Frag}{H0:Hp}{ρ0:List Addr}{ds:List D}{a:Addr}{xs:List V}(s:SqT K H0 a xs) (r:RDs K H0 ρ0 ds xs):JR K H0 ρ0 (.seq ds) (Itt K a) where
 go:=fun H ρ mh i d e rs q=>by
  obtain ⟨v,e1,r1⟩:=(r.mono e).get q;refine ⟨⟨xs,v,e.tup _ _ s,e1⟩,?_⟩;rintro x H' ⟨h1,h2⟩;subst h1;have:=h2 xs (e.tup _ _ s);rw [e1] at this;cases this;exact ⟨Ev.refl,rs,r1⟩
 stop:=fun H ρ mh i e rs q=>by
  refine ⟨xs,e.tup _ _ s,?_⟩;rw [← r.length];have q:(true&&decide (ds.length<=i))=true:=q;rw [Bool.true_and] at q;exact of_decide_eq_true q
theorem JR.lst {K:PySem.W.Frag}{H0:Hp}{ρ0:List Addr}{n:Nat}{a:Addr}(h:ρ0[n]?=some a):JR K H0 ρ0 (.lref n) (Itl K a) where
 go:=fun H ρ mh i d e rs q=>by
  unfold Src.get Src.items at q;cases eo:mh[n]? with
  | none=>simp only [eo] at q;simp at q
  | some ob =>
   cases ob with
   | dct kvs=>simp only [eo] at q;simp at q
   | lst o =>
   simp only [eo] at q;obtain ⟨a',ha,ro⟩:=rs.at eo;rw [e.at h] at ha;cases ha;obtain ⟨xs,sq,r⟩:=ro.read;obtain ⟨v,e1,r1⟩:=r.get q;refine ⟨⟨xs,v,sq,e1⟩,?_⟩;rintro x H' ⟨h1,h2⟩;subst h1;have:=h2 xs sq;rw [e1] at this;cases this;exact ⟨Ev.refl,rs,r1⟩
 stop:=fun H ρ mh i e rs q=>by
  unfold Src.stop Src.ok Src.items at q;cases eo:mh[n]? with
  | none=>simp only [eo] at q;simp at q
  | some ob =>
   cases ob with
   | dct kvs=>simp only [eo] at q;simp at q
   | lst o =>
   simp only [eo] at q;obtain ⟨a',ha,ro⟩:=rs.at eo;rw [e.at h] at ha;cases ha;obtain ⟨xs,sq,r⟩:=ro.read;exact ⟨xs,sq,by rw [← r.length];simpa using q⟩
theorem JR.rol {K:PySem.W.Frag}{H0:Hp}{ρ0:List Addr}{ds:List D}{a:Addr}{xs:List V}(s:Ik K H0 a xs) (r:RDs K H0 ρ0 ds xs):JR K H0 ρ0 (.seq ds) (Itl K a) where
 go:=fun H ρ mh i d e rs q=>by
  obtain ⟨v,e1,r1⟩:=(r.mono e).get q;have sq:=(e.perm _ _ s).sq;refine ⟨⟨xs,v,sq,e1⟩,?_⟩;rintro x H' ⟨h1,h2⟩;subst h1;have:=h2 xs sq;rw [e1] at this;cases this;exact ⟨Ev.refl,rs,r1⟩
 stop:=fun H ρ mh i e rs q=>by
  refine ⟨xs,(e.perm _ _ s).sq,?_⟩;rw [← r.length];have q:(true&&decide (ds.length<=i))=true:=q;rw [Bool.true_and] at q;exact of_decide_eq_true q
noncomputable def Cd (lo:Int) (n:Nat):List D:=(List.range n).map fun (k:Nat)=>D.int (lo+(k:Int))
theorem JR.rng {K:PySem.W.Frag}{H0:Hp}{ρ0:List Addr}{lo:Int}{n:Nat}:JR K H0 ρ0 (.seq (Cd lo n)) (Itr lo n) where
 go:=fun H ρ mh i d e rs q=>by
  have q:(Cd lo n)[i]?=some d:=q;unfold Cd at q;rw [List.getElem?_map] at q
  by_cases hi:i < n
  ·rw [List.getElem?_range hi] at q;cases q;refine ⟨hi,?_⟩;rintro x H' ⟨h1,h2⟩;subst h1;subst h2;exact ⟨Ev.refl,rs,.int _⟩
  ·rw [List.getElem?_eq_none (by simp;omega)] at q;cases q
 stop:=fun H ρ mh i e rs q=>by
  show n<=i;have q:(true&&decide ((Cd lo n).length<=i))=true:=q;rw [Bool.true_and] at q;have:=of_decide_eq_true q;unfold Cd at this
  simpa using this
noncomputable def srcOf:D->MH->Option Src
 | .tup ds,_=>some (.seq ds)
 | .ref n,mh=>match mh[n]? with | some (.lst _)=>some (.lref n) | _=>none
 | .rol ds,_=>some (.seq ds)
 | _,_=>none
noncomputable def Dt (ma:DM D):DM Src:=ma.bnd fun x=>fun _ mh=>match srcOf x mh with | some s=>some (s,mh) | none=>none
theorem Hg {a:Expr}{ma:DM D}(ha:DE X a ma):DI X tg a (Dt ma):=fun loc mh=>by
 cases ea:ma loc mh with
 | none =>
  have:Dt ma loc mh=none:=by unfold Dt DM.bnd;rw [ea]
  rw [this];exact Fo
 | some p =>
  obtain ⟨x,m1⟩:=p;have eq:Dt ma loc mh=(match srcOf x m1 with | some s=>some (s,m1) | none=>none):=by unfold Dt DM.bnd;rw [ea]
  rw [eq];cases x with
  | tup ds =>
   rintro pins s σ H R I ⟨ρ,src,mh',q,rl,rs,co⟩;cases q;refine yU (ha loc mh) pins s σ H R I ⟨ρ,_,_,ea,rl,rs,fun H1 ρ1 v e1 rs1 r1=>?_⟩;cases r1 with
   | tup s r=>exact ⟨_,rfl,⟨_,s⟩,co H1 ρ1 _ e1 rs1 (JR.tup s r)⟩
  | ref n =>
   rintro pins s σ H R I ⟨ρ,src,mh',q,rl,rs,co⟩;cases eo:m1[n]? with
   | none=>simp only [srcOf,eo] at q;cases q
   | some ob =>
    cases ob with
    | dct kvs=>simp only [srcOf,eo] at q;cases q
    | lst o =>
    simp only [srcOf,eo] at q;cases q;refine Yl (ha loc mh) pins s σ H R I ⟨ρ,_,_,ea,rl,rs,fun H1 ρ1 v e1 rs1 r1=>?_⟩;cases r1 with
    | @ref _ a' h =>
     obtain ⟨a2,ha2,ro⟩:=rs1.at eo;rw [h] at ha2;cases ha2;obtain ⟨xs,sq,r⟩:=ro.read;exact ⟨_,rfl,⟨xs,sq⟩,co H1 ρ1 _ e1 rs1 (JR.lst h)⟩
  | rol ds =>
   rintro pins s σ H R I ⟨ρ,src,mh',q,rl,rs,co⟩;cases q;refine Yl (ha loc mh) pins s σ H R I ⟨ρ,_,_,ea,rl,rs,fun H1 ρ1 v e1 rs1 r1=>?_⟩;cases r1 with
   | rol s r=>exact ⟨_,rfl,⟨_,s.sq⟩,co H1 ρ1 _ e1 rs1 (JR.rol s r)⟩
  | non=>exact Fo
  | bl b=>exact Fo
  | int i=>exact Fo
  | str z=>exact Fo
  | obj c ks ds=>exact Fo
  | fn x=>exact Fo
noncomputable def Jo (ds:List D):Option Src:=match ds with
 | [.int j]=>if -(2 ^ 62)<=j/\j < 2 ^ 62 then some (.seq (Cd 0 j.toNat)) else none
 | _=>none
noncomputable def Ww (ds:List D):Option Src:=match ds with
 | [.int i,.int j]=>if (-(2 ^ 62)<=i/\i < 2 ^ 62)/\(-(2 ^ 62)<=j/\j < 2 ^ 62) then some (.seq (Cd i (j - i).toNat)) else none
 | _=>none
theorem bC {ds:List D}{s:Src}(h:Jo ds=some s):∃ j,ds=[.int j]/\-(2 ^ 62)<=j/\j < 2 ^ 62/\s=.seq (Cd 0 j.toNat):=by
 unfold Jo at h;split at h
 ·rename_i j;split at h
  ·rename_i hj;cases h;exact ⟨j,rfl,hj.1,hj.2,rfl⟩
  ·cases h
 ·cases h
theorem bD {ds:List D}{s:Src}(h:Ww ds=some s):∃ i j,ds=[.int i,.int j]/\(-(2 ^ 62)<=i/\i < 2 ^ 62/\-(2 ^ 62)<=j/\j < 2 ^ 62)/\s=.seq (Cd i (j - i).toNat):=by
 unfold Ww at h;split at h
 ·rename_i i j;split at h
  ·rename_i hj;cases h;exact ⟨i,j,rfl,⟨hj.1.1,hj.1.2,hj.2.1,hj.2.2⟩,rfl⟩
  ·cases h
 ·cases h
noncomputable def Hz (f:List D->Option Src) (mr:DM (List D)):DM Src:=mr.bnd fun ds=>match f ds with | some s=>Zr s | none=>Zb
theorem Rg {f:List D->Option Src}{mr:DM (List D)}{loc:Loc}{mh:MH}{r:Src×MH}(h:Hz f mr loc mh=some r):∃ ds,mr loc mh=some (ds,r.2)/\f ds=some r.1:=by
 obtain ⟨ds,m1,ea,q⟩:=Be h;cases e:f ds with
 | none=>rw [e] at q;cases q
 | some s=>rw [e] at q;cases q;exact ⟨ds,ea,e⟩
theorem Aey {K:PySem.W.Frag}{H:Hp}{ρ:List Addr}{d e:D}{xs:List V}(h:RDs K H ρ [d,e] xs):∃ v u,xs=[v,u]/\RD K H ρ d v/\RD K H ρ e u:=by
 cases h with
 | cons r t =>
  cases t with
  | cons r2 t=>cases t;exact ⟨_,_,rfl,r,r2⟩
theorem bF {a:Expr}{mr:DM (List D)}{p pos:Pos}(hg:Gl X "range") (hm:X.mg "range"=none) (ha:DA X [a] mr) (hs:starEach [a] X.env=[(false,eval a X.env)]):DI X tg (.Call (.Name "range" p) [a] [] pos) (Hz Jo mr):=fun loc mh=>by
 refine gJ (aN hg hm (ha loc mh) hs) ?_;rintro σ H R ⟨ρ,src,mh',q,rl,rs,co⟩;obtain ⟨ds,ea,q⟩:=Rg q;refine ⟨ρ,ds,mh',ea,rl,rs,fun H1 ρ1 vs e1 rs1 r1=>?_⟩;obtain ⟨j,rfl,h1,h2,e⟩:=bC q;obtain ⟨v,rfl,rv⟩:=Wt r1;cases rv;have e:src=.seq (Cd 0 j.toNat):=e;subst e;exact ⟨j,rfl,h1,h2,co H1 ρ1 _ e1 rs1 JR.rng⟩
theorem bG {a b:Expr}{mr:DM (List D)}{p pos:Pos}(hg:Gl X "range") (hm:X.mg "range"=none) (ha:DA X [a,b] mr) (hs:starEach [a,b] X.env=[(false,eval a X.env),(false,eval b X.env)]) (hs2:starEach [b] X.env=[(false,eval b X.env)]):DI X tg (.Call (.Name "range" p) [a,b] [] pos) (Hz Ww mr):=fun loc mh=>by
 refine gJ (aO hg hm (ha loc mh) hs hs2) ?_;rintro σ H R ⟨ρ,src,mh',q,rl,rs,co⟩;obtain ⟨ds,ea,q⟩:=Rg q;refine ⟨ρ,ds,mh',ea,rl,rs,fun H1 ρ1 vs e1 rs1 r1=>?_⟩;obtain ⟨i,j,rfl,h1,e⟩:=bD q;obtain ⟨v,u,rfl,rv,ru⟩:=Aey r1;cases rv;cases ru;have e:src=.seq (Cd i (j - i).toNat):=e;subst e;exact ⟨i,j,rfl,h1,co H1 ρ1 _ e1 rs1 JR.rng⟩
end
inductive Fl where
 | nx | bk | ct | rt (d:D)
noncomputable abbrev SM:=Loc->MH->Option (Fl×Loc×MH)
noncomputable def CoS (K:PySem.W.Frag) (H:Hp) (ρ:List Addr) (f:Fl) (loc':Loc) (mh':MH) (N:Ends):Prop:=match f with
 | .nx=>∀ H' ρ' σ',Ev K H ρ H' ρ'->RS K H' ρ' mh'->RL K H' ρ' loc' σ'->N.nx σ' H'
 | .bk=>∀ H' ρ' σ',Ev K H ρ H' ρ'->RS K H' ρ' mh'->RL K H' ρ' loc' σ'->N.bk σ' H'
 | .ct=>∀ H' ρ' σ',Ev K H ρ H' ρ'->RS K H' ρ' mh'->RL K H' ρ' loc' σ'->N.ct σ' H'
 | .rt d=>∀ H' ρ' v,Ev K H ρ H' ρ'->RS K H' ρ' mh'->RD K H' ρ' d v->N.rt v H'
theorem CoS.ev {K:PySem.W.Frag}{H H1:Hp}{ρ ρ1:List Addr}{f:Fl}{loc':Loc}{mh':MH}{N:Ends}(e:Ev K H ρ H1 ρ1) (c:CoS K H ρ f loc' mh' N):CoS K H1 ρ1 f loc' mh' N:=by
 cases f with
 | nx=>exact fun H' ρ' σ' e' rs r=>c H' ρ' σ' (e.trans e') rs r
 | bk=>exact fun H' ρ' σ' e' rs r=>c H' ρ' σ' (e.trans e') rs r
 | ct=>exact fun H' ρ' σ' e' rs r=>c H' ρ' σ' (e.trans e') rs r
 | rt d=>exact fun H' ρ' σ' e' rs r=>c H' ρ' σ' (e.trans e') rs r
noncomputable def tS (K:PySem.W.Frag) (m:SM):TS:=fun N σ H=>∃ loc mh ρ f loc' mh',m loc mh=some (f,loc',mh')/\RL K H ρ loc σ/\RS K H ρ mh/\CoS K H ρ f loc' mh' N
noncomputable def DS (X:Cx) (st:Stmt) (m:SM):Prop:=PS X st (tS X.K m)
noncomputable def DSs (X:Cx) (sts:List Stmt) (m:SM):Prop:=PSs X sts (tS X.K m)
theorem Hh {X:Cx}{st:Stmt}{t t':TS}(h:PS X st t) (i:∀ N σ H,t' N σ H->t N σ H):PS X st t':=fun pins s σ H N I q=>h pins s σ H N I (i N σ H q)
theorem Yu {X:Cx}{st:List Stmt}{t t':TS}(h:PSs X st t) (i:∀ N σ H,t' N σ H->t N σ H):PSs X st t':=fun pins s σ H N I q=>h pins s σ H N I (i N σ H q)
noncomputable def SM.bad:SM:=fun _ _=>none
theorem Eu {X:Cx}{st:Stmt}:DS X st SM.bad:=fun _ _ _ _ _ _ h=>by obtain ⟨_,_,_,_,_,_,e,_⟩:=h;cases e
noncomputable def tDx (K:PySem.W.Frag) (m:DM D):TE:=fun σ H Q=>∃ loc mh,tD K loc mh (m loc mh) σ H Q
noncomputable def tTx (K:PySem.W.Frag) (m:DM Bool):TT:=fun σ H Q=>∃ loc mh,tDT K loc mh (m loc mh) σ H Q
noncomputable def tIx (K:PySem.W.Frag) (m:DM Src):TI:=fun σ H R=>∃ loc mh,tDI K loc mh (m loc mh) σ H R
theorem DE.x {X:Cx}{e:Expr}{m:DM D}(h:DE X e m):PE X e (tDx X.K m):=fun pins s σ H Q I ⟨loc,mh,q⟩=>h loc mh pins s σ H Q I q
theorem DT.x {X:Cx}{e:Expr}{m:DM Bool}(h:DT X e m):PT X e (tTx X.K m):=fun pins s σ H Q I ⟨loc,mh,q⟩=>h loc mh pins s σ H Q I q
theorem DI.x {X:Cx}{tg e:Expr}{m:DM Src}(h:DI X tg e m):PI X tg e (tIx X.K m):=fun pins s σ H Q I ⟨loc,mh,q⟩=>h loc mh pins s σ H Q I q
section
variable {X:Cx}{st:Stmt}{sts:List Stmt}{m m1 m2:SM}{e:Expr}{me:DM D}{pos:Pos}
noncomputable def Zn:SM:=fun loc mh=>some (.nx,loc,mh)
noncomputable def Ab (m1 m2:SM):SM:=fun loc mh=>match m1 loc mh with
 | some (.nx,l,h)=>m2 l h
 | r=>r
theorem tX:DSs X [] Zn:=by
 refine Yu rF ?_;rintro N σ H ⟨loc,mh,ρ,f,loc',mh',q,rl,rs,co⟩;cases q;exact co H ρ σ Ev.refl rs rl
theorem gK (h1:DS X st m1) (h2:DSs X sts m2):DSs X (st::sts) (Ab m1 m2):=by
 refine Yu (eG h1 h2) ?_;rintro N σ H ⟨loc,mh,ρ,f,loc',mh',q,rl,rs,co⟩;unfold Ab at q;split at q
 ·rename_i l h e1;exact ⟨loc,mh,ρ,.nx,l,h,e1,rl,rs,fun H1 ρ1 σ1 ev1 rs1 rl1=>⟨l,h,ρ1,f,loc',mh',q,rl1,rs1,co.ev ev1⟩⟩
 ·rename_i r hne;refine ⟨loc,mh,ρ,f,loc',mh',q,rl,rs,?_⟩;cases f with
  | nx=>exact absurd q (hne _ _)
  | bk=>exact co
  | ct=>exact co
  | rt d=>exact co
theorem tY:DS X (.Pass pos) Zn:=by
 refine Hh rH ?_;rintro N σ H ⟨loc,mh,ρ,f,loc',mh',q,rl,rs,co⟩;cases q;exact co H ρ σ Ev.refl rs rl
theorem gM:DS X (.Break pos) (fun loc mh=>some (.bk,loc,mh)):=by
 refine Hh eN ?_;rintro N σ H ⟨loc,mh,ρ,f,loc',mh',q,rl,rs,co⟩;cases q;exact co H ρ σ Ev.refl rs rl
theorem Ux:DS X (.Continue pos) (fun loc mh=>some (.ct,loc,mh)):=by
 refine Hh Ui ?_;rintro N σ H ⟨loc,mh,ρ,f,loc',mh',q,rl,rs,co⟩;cases q;exact co H ρ σ Ev.refl rs rl
noncomputable def Am (me:DM D):SM:=fun loc mh=>match me loc mh with | some (d,mh')=>some (.rt d,loc,mh') | none=>none
theorem Aaq (he:DE X e me):DS X (.Return (some e) pos) (Am me):=by
 refine Hh (yM he.x) ?_;rintro N σ H ⟨loc,mh,ρ,f,loc',mh',q,rl,rs,co⟩;unfold Am at q;split at q
 ·rename_i d h1 ee;cases q;exact ⟨loc,mh,ρ,d,_,ee,rl,rs,co⟩
 ·cases q
theorem tZ:DS X (.Return none pos) (fun loc mh=>some (.rt .non,loc,mh)):=by
 refine Hh rK ?_;rintro N σ H ⟨loc,mh,ρ,f,loc',mh',q,rl,rs,co⟩;cases q;exact co H ρ _ Ev.refl rs .non
noncomputable def Dz (me:DM D):SM:=fun loc mh=>match me loc mh with | some (_,mh')=>some (.nx,loc,mh') | none=>none
theorem uD (he:DE X e me) (hs:swapsWith e none pos.line X.env=pure false):DS X (.Expr e pos) (Dz me):=by
 refine Hh (rJ he.x hs) ?_;rintro N σ H ⟨loc,mh,ρ,f,loc',mh',q,rl,rs,co⟩;unfold Dz at q;split at q
 ·rename_i d h1 ee;cases q;exact ⟨loc,mh,ρ,d,_,ee,rl,rs,fun H' ρ' v e' rs' r'=>co H' ρ' σ e' rs' (rl.mono e')⟩
 ·cases q
noncomputable def ifS (t:DM Bool) (m1 m2:SM):SM:=fun loc mh=>match t loc mh with
 | some (k,h)=>if k=true then m1 loc h else m2 loc h
 | none=>none
theorem Aez {c:Expr}{a b:List Stmt}{t:DM Bool}(hc:DT X c t) (ha:DSs X a m1) (hb:DSs X b m2):DS X (.If c a b pos) (ifS t m1 m2):=by
 refine Hh (Ad0 hc.x ha hb) ?_;rintro N σ H ⟨loc,mh,ρ,f,loc',mh',q,rl,rs,co⟩;unfold ifS at q;split at q
 ·rename_i k h ek;refine ⟨loc,mh,ρ,k,h,ek,rl,rs,fun H1 ρ1 e1 rs1=>?_⟩;cases k with
  | true=>exact Uq ⟨loc,h,ρ1,f,loc',mh',by rw [if_pos rfl] at q;exact q,rl.mono e1,rs1,co.ev e1⟩
  | false=>exact Uo ⟨loc,h,ρ1,f,loc',mh',by rw [if_neg Bool.false_ne_true] at q;exact q,rl.mono e1,rs1,co.ev e1⟩
 ·cases q
noncomputable abbrev GM:=D->Loc->MH->Option (Loc×MH)
noncomputable def Jb (ws:List Nat) (σ σ':St):Prop:=σ'.length=σ.length/\∀ i,i ∉ ws->σ'[i]?=σ[i]?
noncomputable def tG (K:PySem.W.Frag) (ws:List Nat) (g:GM):TG:=fun v σ H Q=>∃ d loc mh ρ loc' mh',g d loc mh=some (loc',mh')/\RL K H ρ loc σ/\RS K H ρ mh/\RD K H ρ d v /\
 ∀ H' ρ' σ',Ev K H ρ H' ρ'->RS K H' ρ' mh'->RL K H' ρ' loc' σ'->Jb ws σ σ'->Q σ' H'
noncomputable def DG (X:Cx) (tg:Expr) (ws:List Nat) (g:GM):Prop:=PG X tg (tG X.K ws g)
theorem Wx {tg:Expr}{t t':TG}(h:PG X tg t) (i:∀ v σ H Q,t' v σ H Q->t v σ H Q):PG X tg t':=fun pins s σ H v u Q I r q=>h pins s σ H v u Q I r (i v σ H Q q)
noncomputable def Aw (i:Nat):GM:=fun d loc mh=>some (loc.set i (some d),mh)
theorem Jb.set {σ:St}{i:Nat}{o:Option V}:Jb [i] σ (σ.set i o):=⟨List.length_set,fun j hj=>List.getElem?_set_ne (fun e=>hj (by simp [e]))⟩
theorem uE {i:Nat}{x:Str}(hN:X.N.Nodup) (hi:X.N[i]?=some x) (hx:L2.Loc X.env.scope x) (hf:X.fn x=true\/X.env.scope.names.lookup x=some .local):DG X (.Name x pos) [i] (Aw i):=by
 refine Wx (Yk hN hi hx hf) ?_;rintro v σ H Q ⟨d,loc,mh,ρ,loc',mh',q,rl,rs,r,co⟩;cases q;exact co H ρ _ Ev.refl rs (rl.set r) Jb.set
noncomputable def Li:List Nat->List D->Loc->Loc
 | i::is,d::ds,loc=>Li is ds (loc.set i (some d))
 | _,_,loc=>loc
noncomputable def Kh:List Nat->List V->St->St
 | i::is,d::ds,loc=>Kh is ds (loc.set i (some d))
 | _,_,loc=>loc
noncomputable def gNs:List Nat->TGs
 | []=>Ad2
 | i::is=>xJ (eO i) (gNs is)
theorem gO:∀ (is:List Nat) (vs:List V) (σ:St) (H:Hp) (Q:St->Hp->Prop),vs.length=is.length->Q (Kh is vs σ) H->gNs is vs σ H Q
 | [],[],_,_,_,_,q=>⟨rfl,q⟩
 | [],_::_,_,_,_,h,_=>by simp at h
 | _::_,[],_,_,_,h,_=>by simp at h
 | i::is,v::vs,σ,H,Q,h,q=>⟨v,vs,rfl,gO is vs _ H Q (by simpa using h) q⟩
theorem Rh {K:PySem.W.Frag}{H:Hp}{ρ:List Addr}:∀ (is:List Nat) {ds:List D}{vs:List V}{loc:Loc}{σ:St},RDs K H ρ ds vs->RL K H ρ loc σ->RL K H ρ (Li is ds loc) (Kh is vs σ)
 | [],_,_,_,_,.nil,rl=>rl
 | [],_,_,_,_,.cons _ _,rl=>rl
 | _::_,_,_,_,_,.nil,rl=>rl
 | i::is,_,_,_,_,.cons r t,rl=>Rh is t (rl.set r)
theorem Mr:∀ (is:List Nat) (vs:List V) (σ:St),Jb is σ (Kh is vs σ)
 | [],[],_=>⟨rfl,fun _ _=>rfl⟩
 | [],_::_,_=>⟨rfl,fun _ _=>rfl⟩
 | _::_,[],_=>⟨rfl,fun _ _=>rfl⟩
 | i::is,v::vs,σ=>by
  obtain ⟨h1,h2⟩:=Mr is vs (σ.set i (some v));refine ⟨h1.trans List.length_set,fun j hj=>?_⟩;have hj':¬ (j=i)/\j ∉ is:=by simpa using hj
  show (Kh is vs (σ.set i (some v)))[j]?=σ[j]?;rw [h2 j hj'.2,List.getElem?_set_ne (fun e=>hj'.1 e.symm)]
noncomputable def Ms (is:List Nat):GM:=fun d loc mh=>match d with
 | .tup ds=>if ds.length=is.length then some (Li is ds loc,mh) else none
 | _=>none
theorem Aar {es:List Expr}{k:Nat}{is:List Nat}(hc:X.calm=true) (h:PGs X es (gNs is)) (hn:(assignEach es X.env).length=is.length) (hst:(assignEach es X.env).findIdx? (·.1)=none):DG X (.Tuple es k pos) is (Ms is):=by
 refine Wx (yO hc h hn hst) ?_;rintro v σ H Q ⟨d,loc,mh,ρ,loc',mh',q,rl,rs,r,co⟩;cases r with
 | @tup ds a xs s r =>
  have q:(if ds.length=is.length then some (Li is ds loc,mh) else none)=some (loc',mh'):=q;split at q
  ·rename_i hl;cases q;exact ⟨a,xs,rfl,s,by rw [← r.length];exact hl,gO is xs σ H Q (by rw [← r.length];exact hl) (co H ρ _ Ev.refl rs (Rh is r rl) (Mr is xs σ))⟩
  ·cases q
 | _=>cases q
noncomputable def Ae0 (o i v:D) (mh:MH):Option MH:=match o,i with
 | .ref n,.int k=>match mh[n]? with
  | some (.lst ds)=>match ixN ds.length k with
   | some j=>some (mh.set n (.lst (ds.set j v)))
   | none=>none
  | _=>none
 | _,_=>none
noncomputable def gP (mo mi:DM D):GM:=fun v loc mh=>match mo loc mh with
 | some (o,m1)=>match mi loc m1 with
  | some (i,m2)=>match Ae0 o i v m2 with
   | some m3=>some (loc,m3)
   | none=>none
  | none=>none
 | none=>none
theorem Aas {o i:Expr}{mo mi:DM D}(ho:DE X o mo) (hi:DE X i mi) (ha:∀ v,assign (.Subscript o i pos) X.env v=(do
      let ov ← holding [v] (eval o X.env)
      let iv ← holding [v,ov] (eval i X.env)
      standAt pos
      holding [v,ov,iv] (setItem ov iv v)
      release [v,ov,iv] [])):DG X (.Subscript o i pos) [] (gP mo mi):=by
  refine Wx (yP ho.x hi.x set_list ha) ?_;rintro v σ H Q ⟨d,loc,mh,ρ,loc',mh',q,rl,rs,r,co⟩;unfold gP at q;split at q
  · rename_i od m1 eo;split at q
    · rename_i idx m2 ei;split at q
      · rename_i m3 es;cases q;refine ⟨loc,mh,ρ,od,m1,eo,rl,rs,fun H1 ρ1 v1 e1 rs1 r1=>⟨loc,m1,ρ1,idx,m2,ei,rl.mono e1,rs1,fun H2 ρ2 v2 e2 rs2 r2=>?_⟩⟩;have r1':=r1.mono e2;have r':=(r.mono e1).mono e2;cases r1' with
        | @ref n a hn =>
          cases r2 with
          | int k =>
            have es:(match m2[n]? with | some (.lst ds)=>(match ixN ds.length k with | some j=>some (m2.set n (.lst (ds.set j d))) | none=>none) | _=>none)=some mh':=es;split at es
            · rename_i ds em;split at es
              · rename_i j ej;cases es;obtain ⟨a',ha',xs,hx,rx⟩:=rs2.at em;rw [hn] at ha';cases ha';refine ⟨a,xs,k,j,rfl,rfl,hx,by rw [← rx.length];exact ej,?_⟩;exact co _ ρ2 σ ((e1.trans e2).trans (Ev.lst hx)) (rs2.setL hn hx (rx.set r' j)) (((rl.mono e1).mono e2).mono (Ev.lst hx)) ⟨rfl,fun _ _=>rfl⟩
              · cases es
            · cases es
          | _=>cases es
        | _=>cases r2 <;> cases es
      · cases q
    · cases q
  · cases q
noncomputable def Bb (me:DM D) (g:GM):SM:=fun loc mh=>match me loc mh with
 | some (d,h)=>match g d loc h with
  | some (l,h')=>some (.nx,l,h')
  | none=>none
 | none=>none
theorem Uy {ws:List Nat}{g:GM}{N:Ends}{σ:St}{H:Hp}(h:tS X.K (Bb me g) N σ H):yQ (tDx X.K me) (tG X.K ws g) N σ H:=by
 obtain ⟨loc,mh,ρ,f,loc',mh',q,rl,rs,co⟩:=h;unfold Bb at q;split at q
 ·rename_i d h1 ee;split at q
  ·rename_i l h2 eg;cases q;exact ⟨loc,mh,ρ,d,h1,ee,rl,rs,fun H1 ρ1 v e1 rs1 r1=>⟨d,loc,h1,ρ1,_,_,eg,rl.mono e1,rs1,r1,fun H2 ρ2 σ2 e2 rs2 rl2 _=>co H2 ρ2 σ2 (e1.trans e2) rs2 rl2⟩⟩
  ·cases q
 ·cases q
theorem Wy {tg:Expr}{ws:List Nat}{g:GM}(he:DE X e me) (hg:DG X tg ws g) (hs:swapsWithSole [tg] e pos.line X.env=pure false) (hw:swappedStores [tg] e X.env=pure none) (h1:(assignEach [tg] X.env).map (·.2)=[assign tg X.env]):DS X (.Assign [tg] e pos) (Bb me g) :=
 Hh (yR he.x hg hs hw h1) fun N σ H h=>Uy h
noncomputable def Ni (src:Src) (g:GM) (body:SM):Nat->Nat->SM
 | 0,i,loc,mh=>if src.stop mh i=true then some (.nx,loc,mh) else none
 | k+1,i,loc,mh=>match src.get mh i with
  | none=>if src.stop mh i=true then some (.nx,loc,mh) else none
  | some d=>match g d loc mh with
   | none=>none
   | some (l1,h1)=>match body l1 h1 with
    | some (.nx,l,h)=>Ni src g body k (i+1) l h
    | some (.ct,l,h)=>Ni src g body k (i+1) l h
    | some (.bk,l,h)=>some (.nx,l,h)
    | some (.rt d,l,h)=>some (.rt d,l,h)
    | none=>none
noncomputable def Ge (mi:DM Src) (g:GM) (body:SM):SM:=fun loc mh=>match mi loc mh with
 | some (src,h)=>Ni src g body (src.items h).length 0 loc h
 | none=>none
theorem Aat {tg iter:Expr}{body:List Stmt}{mi:DM Src}{ws:List Nat}{g:GM}{mb:SM}(hp:PassesOwn (model X.prog X.w) X.A X.env X.xe) (hc:X.calm=true) (hi:DI X tg iter mi) (hg:DG X tg ws g) (hb:DSs X body mb)
  (hs:∀ x,foldedSetIterable iter X.env x=pure x):DS X (.For tg iter body [] pos) (Ge mi g mb):=by
 refine Hh (yV hp hc hi.x hg hb hs) ?_;rintro N σ H ⟨loc,mh,ρ,f,loc',mh',q,rl,rs,co⟩;unfold Ge at q;split at q
 ·rename_i src h0 ei;refine ⟨loc,mh,ρ,src,h0,ei,rl,rs,fun H1 ρ1 J e1 rs1 jr=>?_⟩
  refine ⟨fun i k σ H=>∃ ρ loc mh f loc' mh',Ev X.K H1 ρ1 H ρ/\RL X.K H ρ loc σ/\RS X.K H ρ mh/\Ni src g mb k i loc mh=some (f,loc',mh')/\CoS X.K H ρ f loc' mh' N,
   ⟨_,ρ1,loc,h0,f,loc',mh',Ev.refl,rl.mono e1,rs1,q,co.ev e1⟩,?_⟩
  rintro i k σ H ⟨ρ,loc,mh,f,loc',mh',ev,rl,rs,q,co⟩;have stop:(if src.stop mh i=true then some (Fl.nx,loc,mh) else none)=some (f,loc',mh')->J.stop i H/\N.nx σ H:=fun q=>by
   split at q
   ·rename_i hst;cases q;exact ⟨jr.stop H ρ mh i ev rs hst,co H ρ σ Ev.refl rs rl⟩
   ·cases q
  cases k with
  | zero=>exact .inl (stop q)
  | succ k =>
   simp only [Ni] at q;split at q
   ·exact .inl (stop q)
   ·rename_i d ed;obtain ⟨hgo,hyld⟩:=jr.go H ρ mh i d ev rs ed;split at q
    ·cases q
    ·rename_i l1 h1 eg
     refine .inr ⟨hgo,fun σ' H'=>∃ ρ' loc mh f loc' mh',Ev X.K H1 ρ1 H' ρ'/\RL X.K H' ρ' loc σ'/\RS X.K H' ρ' mh/\Ni src g mb k (i+1) loc mh=some (f,loc',mh')/\CoS X.K H' ρ' f loc' mh' N,
      fun σ' H' h=>⟨k,Nat.lt_succ_self _,h⟩,fun x H' hy=>?_⟩
     obtain ⟨ev2,rs2,rd2⟩:=hyld x H' hy;refine ⟨d,loc,mh,ρ,l1,h1,eg,rl.mono ev2,rs2,rd2,fun H3 ρ3 σ3 ev3 rs3 rl3 _=>?_⟩;split at q
     ·rename_i l h eb;exact ⟨l1,h1,ρ3,.nx,l,h,eb,rl3,rs3,fun H4 ρ4 σ4 ev4 rs4 rl4=>⟨ρ4,l,h,f,loc',mh',ev.trans (ev2.trans (ev3.trans ev4)),rl4,rs4,q,co.ev (ev2.trans (ev3.trans ev4))⟩⟩
     ·rename_i l h eb;exact ⟨l1,h1,ρ3,.ct,l,h,eb,rl3,rs3,fun H4 ρ4 σ4 ev4 rs4 rl4=>⟨ρ4,l,h,f,loc',mh',ev.trans (ev2.trans (ev3.trans ev4)),rl4,rs4,q,co.ev (ev2.trans (ev3.trans ev4))⟩⟩
     ·rename_i l h eb;cases q;exact ⟨l1,h1,ρ3,.bk,_,_,eb,rl3,rs3,fun H4 ρ4 σ4 ev4 rs4 rl4=>co H4 ρ4 σ4 (ev2.trans (ev3.trans ev4)) rs4 rl4⟩
     ·rename_i d' l h eb;cases q;exact ⟨l1,h1,ρ3,.rt d',_,_,eb,rl3,rs3,fun H4 ρ4 v4 ev4 rs4 r4=>co H4 ρ4 v4 (ev2.trans (ev3.trans ev4)) rs4 r4⟩
     ·cases q
 ·cases q
end
noncomputable def Qs (cs:List (Option Nat)) (loc:Loc):Loc:=cs.map fun o=>match o with | some j=>(match loc[j]? with | some d=>d | none=>none) | none=>none
noncomputable def Qt (cs:List (Option Nat)) (σ:St):St:=cs.map fun o=>match o with | some j=>(match σ[j]? with | some d=>d | none=>none) | none=>none
theorem Aau {K:PySem.W.Frag}{H:Hp}{ρ:List Addr}{loc:Loc}{σ:St}(cs:List (Option Nat)) (h:RL K H ρ loc σ):RL K H ρ (Qs cs loc) (Qt cs σ):=by
 refine ⟨by unfold Qs Qt;rw [List.length_map,List.length_map],fun i d e=>?_⟩;unfold Qs at e;unfold Qt;rw [List.getElem?_map] at e ⊢;cases q:cs[i]? with
 | none=>rw [q] at e;cases e
 | some o =>
  rw [q] at e;cases o with
  | none=>simp at e
  | some j =>
   simp only [Option.map_some,Option.some.injEq] at e;cases ej:loc[j]? with
   | none=>rw [ej] at e;cases e
   | some d' =>
    rw [ej] at e;have e:d'=some d:=e;subst e;obtain ⟨v,e1,r⟩:=h.2 j d ej;exact ⟨v,by simp only [Option.map_some,e1],r⟩
structure CapOk (X:Cx) (N':List Str) (scope:Scope) (cs:List (Option Nat)):Prop where
 len:N'.length=cs.length
 cap:∀ (i:Nat) (x:Str) (j:Nat),N'[i]?=some x->cs[i]?=some (some j)->scope.names.lookup x=some .free/\X.N[j]?=some x
theorem CapOk.to {X:Cx}{N':List Str}{scope:Scope}{cs:List (Option Nat)}(h:CapOk X N' scope cs) (σ:St):Cap X N' scope σ (Qt cs σ):=by
 refine ⟨by unfold Qt;rw [List.length_map];exact h.len.symm,fun i x v e1 e2=>?_⟩;unfold Qt at e2;rw [List.getElem?_map] at e2;cases q:cs[i]? with
 | none=>rw [q] at e2;cases e2
 | some o =>
  rw [q] at e2;cases o with
  | none=>simp at e2
  | some j =>
   obtain ⟨h1,h2⟩:=h.cap i x j e1 q;refine ⟨h1,j,h2,?_⟩;simp only [Option.map_some,Option.some.injEq] at e2;cases ej:σ[j]? with
   | none=>rw [ej] at e2;cases e2
   | some d'=>rw [ej] at e2;have e2:d'=some v:=e2;rw [e2]
theorem uF {cs:List (Option Nat)}{ws:List Nat}{σ σ2:St}(hw:∀ i∈ws,∀ j,cs[i]?≠some (some j)) (h:Jb ws (Qt cs σ) σ2):Kept (Qt cs σ) σ2:=by
 refine ⟨h.1,fun i v e=>?_⟩;rw [h.2 i fun hi=>?_]
 ·exact e
 ·unfold Qt at e;rw [List.getElem?_map] at e;cases q:cs[i]? with
  | none=>rw [q] at e;cases e
  | some o =>
   cases o with
   | none=>rw [q] at e;simp at e
   | some j=>exact hw i hi j q
noncomputable def Jq (src:Src) (g:GM) (tc:DM Bool) (me:DM D) (loc:Loc):Nat->Nat->List D->MH->Option (List D×MH)
 | 0,i,acc,mh=>if src.stop mh i=true then some (acc,mh) else none
 | k+1,i,acc,mh=>match src.get mh i with
  | none=>if src.stop mh i=true then some (acc,mh) else none
  | some d=>match g d loc mh with
   | none=>none
   | some (l1,h1)=>match tc l1 h1 with
    | none=>none
    | some (c,h2)=>if c=true then (match me l1 h2 with
      | some (y,h3)=>if acc.length < sizeLine then Jq src g tc me loc k (i+1) (acc++[y]) h3 else none
      | none=>none) else Jq src g tc me loc k (i+1) acc h2
noncomputable def Df (mi:DM Src) (cs:List (Option Nat)) (g:GM) (tc:DM Bool) (me:DM D):DM D:=fun loc mh=>match mi loc mh with
 | some (src,h)=>match Jq src g tc me (Qs cs loc) (src.items h).length 0 [] h with
  | some (ds,h')=>some (.ref h'.length,h'++[.lst ds])
  | none=>none
 | none=>none
section
variable {X:Cx}{N':List Str}{scope:Scope}{cs:List (Option Nat)}{ws:List Nat}{mi:DM Src}{g:GM}{tc:DM Bool}{me:DM D}{elt target iter:Expr}{ifs:List Expr}{pos:Pos}
theorem Uz (hcap:CapOk X N' scope cs) (hw:∀ i∈ws,∀ j,cs[i]?≠some (some j)) {σ:St}{H:Hp}{Q:VK}(h:tDx X.K (Df mi cs g tc me) σ H Q) :
  fV X N' scope (tIx X.K mi) (tG X.K ws g) (tTx X.K tc) (tDx X.K me) σ H Q:=by
 obtain ⟨loc,mh,ρ,d,mh',q,rl,rs,co⟩:=h;unfold Df at q;split at q
 ·rename_i src h0 ei;split at q
  ·rename_i ds h1 ec;cases q;refine ⟨loc,mh,ρ,src,h0,ei,rl,rs,fun H1 ρ1 J e1 rs1 jr=>?_⟩;refine ⟨Qt cs σ,hcap.to σ,fun i k acc H=>∃ ρ accD mh,Ev X.K H1 ρ1 H ρ/\RS X.K H ρ mh/\RDs X.K H ρ accD acc/\Jq src g tc me (Qs cs loc) k i accD mh=some (ds,h1),⟨_,ρ1,[],h0,Ev.refl,rs1,.nil,ec⟩,?_⟩;have co1:=co.ev e1;have rl1:=Aau cs (rl.mono e1);rintro i k acc H ⟨ρ,accD,mh,ev,rs,ra,q⟩;have stop:(if src.stop mh i=true then some (accD,mh) else none)=some (ds,h1)->J.stop i H/\∀ p,H p=none->Q (.ref p) (upd H p (.lst acc)):=fun q=>by
    split at q
    ·rename_i hst;cases q;exact ⟨jr.stop H ρ _ i ev rs hst,Co.newL rs ra (co1.ev ev)⟩
    ·cases q
   cases k with
   | zero=>exact .inl (stop q)
   | succ k =>
    simp only [Jq] at q;split at q
    ·exact .inl (stop q)
    ·rename_i d ed;obtain ⟨hgo,hyld⟩:=jr.go H ρ mh i d ev rs ed;split at q
     ·cases q
     ·rename_i l1 h2 eg;refine .inr ⟨hgo,fun acc' H'=>∃ ρ accD mh,Ev X.K H1 ρ1 H' ρ/\RS X.K H' ρ mh/\RDs X.K H' ρ accD acc'/\Jq src g tc me (Qs cs loc) k (i+1) accD mh=some (ds,h1),fun acc' H' h=>⟨k,Nat.lt_succ_self _,h⟩,fun x H' hy=>?_⟩;obtain ⟨ev2,rs2,rd2⟩:=hyld x H' hy;refine ⟨d,Qs cs loc,mh,ρ,l1,h2,eg,rl1.mono (ev.trans ev2),rs2,rd2,fun H3 ρ3 σ3 ev3 rs3 rl3 kb=>⟨uF hw kb,?_⟩⟩;split at q
      ·cases q
      ·rename_i c h3 et;refine ⟨l1,h2,ρ3,c,h3,et,rl3,rs3,fun H4 ρ4 ev4 rs4=>?_⟩;have evA:=ev2.trans (ev3.trans ev4);cases c with
       | false =>
        rw [if_neg Bool.false_ne_true] at q;exact Uo ⟨ρ4,accD,h3,ev.trans evA,rs4,ra.mono evA,q⟩
       | true =>
        rw [if_pos rfl] at q;split at q
        ·rename_i y h4 ey;split at q
         ·rename_i hz;refine Uq ⟨by rw [← ra.length];exact hz,l1,h3,ρ4,y,h4,ey,rl3.mono ev4,rs4,fun H5 ρ5 v ev5 rs5 r5=>⟨ρ5,accD++[y],h4,ev.trans (evA.trans ev5),rs5,(ra.mono (evA.trans ev5)).append (.cons r5 .nil),q⟩⟩
         ·cases q
        ·cases q
  ·cases q
 ·cases q
noncomputable def DIf (X:Cx) (ifs:List Expr) (m:DM Bool):Prop:=PIf X ifs (tTx X.K m)
theorem uG:DIf X [] (Zr true):=by
 rintro pins s σ H Q I ⟨loc,mh,ρ,b,mh',q,rl,rs,co⟩;cases q;exact sW pins s σ H Q I (co H ρ Ev.refl rs)
theorem uH {c:Expr}{m:DM Bool}(h:DT X c m):DIf X [c] m:=sX h.x
theorem uI (hc:X.calm=true) (S:CompOk X scope) (hcap:CapOk X N' scope cs) (hw:∀ i∈ws,∀ j,cs[i]?≠some (some j)) (hit:DI X target iter mi)
  (hg:∀ pins C cells s₀ H₀ fp,DG (Dm X pins N' scope C cells s₀ H₀ fp) target ws g)
  (hi:∀ pins C cells s₀ H₀ fp,DIf (Dm X pins N' scope C cells s₀ H₀ fp) ifs tc)
  (he:∀ pins C cells s₀ H₀ fp,DE (Dm X pins N' scope C cells s₀ H₀ fp) elt me)
  (hs:∀ x,foldedSetIterable iter X.env x=pure x):DE X (.ListComp elt [⟨target,iter,ifs,0⟩] scope pos) (Df mi cs g tc me):=fun loc mh =>
 Cm (sY (N':=N') (g:=tG X.K ws g) (tc:=tTx X.K tc) (te:=tDx X.K me) hc S hit.x (fun p C c s h f=>hg p C c s h f) (fun p C c s h f=>hi p C c s h f) (fun p C c s h f=>(he p C c s h f).x) hs) fun σ H Q h=>Uz hcap hw ⟨loc,mh,h⟩
theorem Wz {y:Str}{py spos:Pos}{wy:List Nat}{gy:GM}(hc:X.calm=true) (S:CompOk X scope) (hcap:CapOk X N' scope cs) (hw:∀ i∈ws,∀ j,cs[i]?≠some (some j)) (hit:DI X target iter mi)
  (hg:∀ pins C cells s₀ H₀ fp,DG (Dm X pins N' scope C cells s₀ H₀ fp) target ws g)
  (hi:∀ pins C cells s₀ H₀ fp,DIf (Dm X pins N' scope C cells s₀ H₀ fp) ifs tc)
  (he:∀ pins C cells s₀ H₀ fp,DE (Dm X pins N' scope C cells s₀ H₀ fp) elt me) (hgy:DG X (.Name y py) wy gy)
  (hsw:swapsWith (.ListComp elt [⟨target,iter,ifs,0⟩] scope pos) (some (.Name y py)) spos.line X.env=pure true)
  (hs:∀ x,foldedSetIterable iter X.env x=pure x):DS X (.Assign [.Name y py] (.ListComp elt [⟨target,iter,ifs,0⟩] scope pos) spos) (Bb (Df mi cs g tc me) gy) :=
 Hh (Wq (N':=N') (g:=tG X.K ws g) (tc:=tTx X.K tc) (te:=tDx X.K me) hc S hit.x (fun p C c s h f=>hg p C c s h f) (fun p C c s h f=>hi p C c s h f) (fun p C c s h f=>(he p C c s h f).x) hgy hsw hs) fun N σ H h=>Uz hcap hw (Uy h)
end
noncomputable def spD (K:PySem.W.Frag) (n:Nat) (f:List D->MH->Option (D×MH)):Sp:=fun vs H Q _=>vs.length=n/\rDs K f vs H Q
section
variable {X:Cx}
theorem uJ {CX:CXT}{k:Nat}{fa:Addr}{fd:FuncData}{ps:List Str}{f:List D->MH->Option (D×MH)}{x:Str}{p pos:Pos}{a:Expr}{es:List Expr}{mr:DM (List D)}{E:XK}
  (F:FnOk X.prog X.w X.K X.mg X.base CX k fa fd ps (spD X.K ps.length f)) (hr:Room k X.A) (hg:Gl X x) (hm:X.mg x=some (.ref fa)) (hk:PySem.W.keepIn X.K (.ref fa)=true) (hb:Binds X.K fd ps []) (hx:Dv CX X E)
  (ha:DA X (a::es) mr) (hf:∀ ds mh r,f ds mh=some r->ds.length=ps.length) (hdb:(x==("__debug__":Str))=false) (he:starEach (a::es) X.env=(false,eval a X.env)::starEach es X.env) (hpl:(backTo pos (starEach es X.env)).any (·.1)=false) :
  DE X (.Call (.Name x p) (a::es) [] pos) (mr.bnd fun ds=>Zl (f ds)):=fun loc mh=>by
 refine Cm (rY F hr hg hm hk hb .nil hx (ha loc mh) hdb he hpl) ?_;rintro σ H Q ⟨ρ,d,mh',q,rl,rs,co⟩;obtain ⟨ds,m1,ea,q⟩:=Be q;refine ⟨ρ,ds,m1,ea,rl,rs,fun H1 ρ1 vs e1 rs1 r1=>?_⟩;show spD X.K ps.length f (vs++[]) H1 Q E;rw [List.append_nil];exact ⟨by rw [← r1.length];exact hf _ _ _ q,ρ1,m1,ds,d,mh',q,rs1,r1,co.ev e1⟩
theorem gQ {CX:CXT}{k:Nat}{fa:Addr}{fd:FuncData}{f:List D->MH->Option (D×MH)}{x:Str}{p pos:Pos}{E:XK}
  (F:FnOk X.prog X.w X.K X.mg X.base CX k fa fd [] (spD X.K 0 f)) (hr:Room k X.A) (hg:Gl X x) (hm:X.mg x=some (.ref fa)) (hk:PySem.W.keepIn X.K (.ref fa)=true) (hb:Binds X.K fd [] []) (hx:Dv CX X E) (hdb:(x==("__debug__":Str))=false) :
  DE X (.Call (.Name x p) [] [] pos) (Zl (f [])):=fun loc mh=>by
 refine Cm (fH F hr hg hm hk hb .nil hx hdb) ?_;rintro σ H Q ⟨ρ,d,mh',q,rl,rs,co⟩;exact ⟨rfl,ρ,mh,[],d,mh',q,rs,.nil,co⟩
noncomputable def Ov (c:String) (x:D) (mh:MH):Option (D×MH):=match Wv x mh with
 | some t=>match Aap t c with
  | some b=>some (.bl b,mh)
  | none=>none
 | none=>none
theorem gR {c:String}(hc:c∈["bool", "int", "str", "tuple", "list", "dict"]):Dd X (.builtin "isinstance") (fun xs H Q=>∃ v,xs=[v,.ty c]/\rD1 X.K (Ov c) v H Q):=by
 rintro pins s σ H xs us Q I r ⟨v,e,ρ,mh,dx,d,mh',q,rs,rd,co⟩;subst e;obtain ⟨u,w',rfl,r1,r2⟩:=Vals.two r;cases (show w'=Value.type c from r2);unfold Ov at q;split at q
 ·rename_i t et;split at q
  ·rename_i b eb;cases q;have fin:∀ tk,EP X pins σ Q (.bool b) { s with toks:=tk }:=fun tk=>⟨.bl b,H,I.tok tk,rfl,co H ρ _ Ev.refl rs (.bl b)⟩
   cases rd with
   | non=>cases et;cases (show u=Value.none from r1);exact PySem.W.kia_one PySem.W.kitx_none I.kIn True.intro (Hy (by decide) hc eb) (fun z=>nomatch z) fin
   | bl y=>cases et;cases (show u=Value.bool y from r1);exact PySem.W.kia_one PySem.W.kitx_bool I.kIn True.intro (Hy (by decide) hc eb) (fun z=>nomatch z) fin
   | int i=>cases et;obtain ⟨t,q⟩:=(show ∃ t,u=Value.int i t from r1);cases q;exact PySem.W.kia_one PySem.W.kitx_int I.kIn True.intro (Hy (by decide) hc eb) (fun z=>nomatch z) fin
   | str y=>cases et;obtain ⟨t,q⟩:=(show ∃ t,u=Value.str y t from r1);cases q;exact PySem.W.kia_one PySem.W.kitx_str I.kIn True.intro (Hy (by decide) hc eb) (fun z=>nomatch z) fin
   | @tup ds a xs sq r =>
    cases et;cases (show u=Value.ref a from r1);obtain ⟨its,_,⟨o,h1,h2,_⟩,_⟩:=I.tuple sq;exact PySem.W.kia_one PySem.W.kitx_tuple I.kIn ⟨o,h1,h2⟩ (Hy (by decide) hc eb) (fun z=>nomatch z) fin
   | obj n s l r=>cases et
   | fn h=>cases et
   | @rol ds a xs sq r =>
    cases et;cases (show u=Value.ref a from r1);obtain ⟨its,_,⟨ob,n',h1,h2,_⟩,_⟩:=I.list sq.sq;exact PySem.W.kia_one PySem.W.kitx_list I.kIn ⟨ob,h1,h2⟩ (Hy (by decide) hc eb) (fun z=>nomatch z) fin
   | @ref n a h =>
    have et:(match mh[n]? with | some (.lst _)=>some "list" | _=>none)=some t:=et;split at et
    ·rename_i o eo;cases et;cases (show u=Value.ref a from r1);obtain ⟨a',ha,ro⟩:=rs.at eo;rw [h] at ha;cases ha;obtain ⟨xs,sq,_⟩:=ro.read;obtain ⟨its,_,⟨ob,n',h1,h2,_⟩,_⟩:=I.list sq;exact PySem.W.kia_one PySem.W.kitx_list I.kIn ⟨ob,h1,h2⟩ (Hy (by decide) hc eb) (fun z=>nomatch z) fin
    ·cases et
  ·cases q
 ·cases q
theorem Aav {c:Str}{T:String}{p p2 pos:Pos}{a:Expr}{ma:DM D}(hT:T∈["bool", "int", "str", "tuple", "list", "dict"]) (hg:Gl X "isinstance") (hm:X.mg "isinstance"=none) (hg2:Gl X c) (hm2:X.mg c=none) (hv2:bootBuiltins c=some (.type T)) (hn2:c ≠ "__name__") (hd2:(c==("__debug__":Str))=false) (ha:DE X a ma)
  (he:starEach (a::[.Name c p2]) X.env=(false,eval a X.env)::starEach [.Name c p2] X.env):DE X (.Call (.Name "isinstance" p) [a,.Name c p2] [] pos) (ma.bnd fun x=>Zl (Ov T x)):=fun loc mh=>by
 refine Cm (Ul (gR hT) hg hm boot_isinstance (Ga (ha loc mh) (Ga (rC hg2 hm2 hv2 (v:=.ty T) rfl hn2 hd2) Im) he) (by decide) (by decide) he) ?_;rintro σ H Q ⟨ρ,d,mh',q,rl,rs,co⟩;obtain ⟨x,m1,ea,q⟩:=Be q;exact ⟨ρ,x,m1,ea,rl,rs,fun H1 ρ1 v e1 rs1 r1=>⟨v,rfl,ρ1,m1,x,d,mh',q,rs1,r1,co.ev e1⟩⟩
end
section
variable {X:Cx}{a b c e o:Expr}{ma mb mc mo:DM D}{pos:Pos}
noncomputable def Hi (f f':D->D->MH->Option (D×MH)) (ma mb mc:DM D):DM D:=ma.bnd fun x=>mb.bnd fun y=>(Al (Zl (f x y))).bnd fun k=>if k=true then mc.bnd fun z=>Zl (f' y z) else Zr (.bl false)
theorem Ri {f f':D->D->MH->Option (D×MH)}{σ:St}{H:Hp}{Q:VK}(h:tDx X.K (Hi f f' ma mb mc) σ H Q):Wb (rD X.K f) (rD X.K f') (tDx X.K ma) (tDx X.K mb) (tDx X.K mc) σ H Q:=by
 obtain ⟨loc,mh,ρ,d,mh',q,rl,rs,co⟩:=h;obtain ⟨x,m1,ea,q⟩:=Be q;obtain ⟨y,m2,eb,q⟩:=Be q;obtain ⟨k,m3,ek,q⟩:=Be q;have ek:=Gs ek;refine ⟨loc,mh,ρ,x,m1,ea,rl,rs,fun H1 ρ1 v1 e1 rs1 r1=>⟨loc,m1,ρ1,y,m2,eb,rl.mono e1,rs1,fun H2 ρ2 v2 e2 rs2 r2=>⟨ρ2,m2,x,y,.bl k,m3,ek,rs2,r1.mono e2,r2,fun H3 ρ3 v3 e3 rs3 r3=>?_⟩⟩⟩;cases r3;refine ⟨k,rfl,?_⟩;cases k with
 | true =>
  rw [if_pos rfl] at q;obtain ⟨z,m4,ec,q⟩:=Be q;exact Uq ⟨loc,m3,ρ3,z,m4,ec,((rl.mono e1).mono e2).mono e3,rs3,fun H4 ρ4 v4 e4 rs4 r4=>⟨ρ4,m4,y,z,d,mh',q,rs4,(r2.mono e3).mono e4,r4,co.ev (e1.trans (e2.trans (e3.trans e4)))⟩⟩
 | false =>
  rw [if_neg Bool.false_ne_true] at q;cases q;exact Uo (co H3 ρ3 _ (e1.trans (e2.trans e3)) rs3 (.bl false))
theorem gU {op op':CmpOp}{f f':D->D->MH->Option (D×MH)}(ho:OpR X (compareOp op) (rD X.K f)) (ho':OpR X (compareOp op') (rD X.K f')) (hm:lastMarks [op,op'] [b,c]=false) (ha:DE X a ma) (hb:DE X b mb) (hc:DE X c mc) :
  DE X (.Compare a [op,op'] [b,c] pos) (Hi f f' ma mb mc):=fun loc mh=>Cm (eY ho ho' ha.x hb.x hc.x hm) fun σ H Q h=>Ri ⟨loc,mh,h⟩
theorem gW {op op':CmpOp}{f f':D->D->MH->Option (D×MH)}(ho:OpR X (compareOp op) (rD X.K f)) (ho':OpR X (compareOp op') (rD X.K f')) (hm:lastMarks [op,op'] [b,c]=false) (ha:DE X a ma) (hb:DE X b mb) (hc:DE X c mc) :
  DT X (.Compare a [op,op'] [b,c] pos) (Al (Hi f f' ma mb mc)):=by
 refine fun loc mh=>Sv (eZ ho ho' ha.x hb.x hc.x hm) ?_
 rintro σ H Q ⟨ρ,k,mh',q,rl,rs,co⟩;have q:=Gs q;exact Ri ⟨loc,mh,ρ,_,_,q,rl,rs,fun H' ρ' v e' rs' r'=>by cases r';exact ⟨k,rfl,co H' ρ' e' rs'⟩⟩
noncomputable def rDM (K:PySem.W.Frag) (f:D->List D->MH->Option (D×MH)):V->List V->Hp->VK->Prop:=fun x xs H Q=>∃ ρ mh dx ds d mh',f dx ds mh=some (d,mh')/\RS K H ρ mh/\RD K H ρ dx x/\RDs K H ρ ds xs/\Co K H ρ mh' d Q
noncomputable def W0 (T:String) (x:D) (mh:MH):Bool:=match x with
 | .str _=>T == "str"
 | .int _=>T == "int"
 | .ref n=>T == "list"&&(match mh[n]? with | some (.lst _)=>true | _=>false)
 | .tup _=>T == "tuple"
 | _=>false
theorem gY {K:PySem.W.Frag}{H:Hp}{ρ:List Addr}{mh:MH}{T:String}{x:D}{v:V}(rs:RS K H ρ mh) (r:RD K H ρ x v) (h:W0 T x mh=true):tyV K T v H:=by
 cases r with
 | str z=>exact eq_of_beq h
 | int i=>exact eq_of_beq h
 | @ref n a hn =>
  have h:(T == "list"&&(match mh[n]? with | some (.lst _)=>true | _=>false))=true:=h;rw [Bool.and_eq_true] at h;obtain ⟨o,eo⟩:∃ o,mh[n]?=some (.lst o):=by
   have h:=h.2;split at h
   ·exact ⟨_,‹_›⟩
   ·cases h
  obtain ⟨a',ha,ro⟩:=rs.at eo;rw [hn] at ha;cases ha;obtain ⟨xs,sq,_⟩:=ro.read;exact .inl ⟨eq_of_beq h.1,xs,sq⟩
 | tup s r=>exact .inr (.inl ⟨eq_of_beq h,_,s⟩)
 | _=>cases h
noncomputable def Cz (T:String) (f:D->List D->MH->Option (D×MH)) (mo:DM D) (mr:DM (List D)):DM D:=mo.bnd fun x=>fun loc mh=>if W0 T x mh=true then (mr.bnd fun ds=>Zl (f x ds)) loc mh else none
theorem Mt {T id:String}{name:Str}{apos:Pos}{es:List Expr}{mr:DM (List D)}{f:D->List D->MH->Option (D×MH)}(pa:PlainAttrs T) (slot:Slot T name id) (hty:typeOf (.builtin id)=pure (.type "method_descriptor")) (hm:MtR X id (rDM X.K f)) (ho:DE X o mo) (ha:DA X (a::es) mr)
  (hbase:attributeBase o name X.env (eval o X.env)=eval o X.env)
  (hfew:((backTo pos (starEach (a::es) X.env)).all (fun x=>!x.1)&&(backToKw pos (keywordEach [] X.env)).all (fun x=>x.1.isSome)
   && decide ((a::es).length+([]:List Keyword).length+(if ([]:List Keyword).isEmpty then 0 else 1) < 30))=true)
  (hline:(apos.endLine==pos.line)=true) (hs:starEach (a::es) X.env=(false,eval a X.env)::starEach es X.env) (hplain:(backTo pos (starEach es X.env)).any (·.1)=false) :
  DE X (.Call (.Attribute o name apos) (a::es) [] pos) (Cz T f mo mr):=fun loc mh=>by
 cases eo:mo loc mh with
 | none =>
  have:Cz T f mo mr loc mh=none:=by unfold Cz DM.bnd;rw [eo]
  rw [this];exact Cu
 | some p =>
  obtain ⟨x,m1⟩:=p;refine Cm (Aeo pa slot hty hm (ho loc mh) (ha loc m1) hbase hfew hline hs hplain) ?_;rintro σ H Q ⟨ρ,d,mh',q,rl,rs,co⟩;obtain ⟨x',m1',eo',q⟩:=Be q;rw [eo] at eo';cases eo';split at q
  ·rename_i ht;obtain ⟨ds,m2,er,q⟩:=Be q;exact ⟨ρ,x,m1,eo,rl,rs,fun H1 ρ1 v e1 rs1 r1=>⟨gY rs1 r1 ht,ρ1,ds,m2,er,rl.mono e1,rs1,fun H2 ρ2 vs e2 rs2 r2=>⟨ρ2,m2,x,ds,d,mh',q,rs2,r1.mono e2,r2,co.ev (e1.trans e2)⟩⟩⟩
  ·cases q
theorem gZ {T id:String}{name:Str}{apos:Pos}{f:D->List D->MH->Option (D×MH)}(pa:PlainAttrs T) (slot:Slot T name id) (hty:typeOf (.builtin id)=pure (.type "method_descriptor")) (hm:MtR X id (rDM X.K f)) (ho:DE X o mo)
  (hbase:attributeBase o name X.env (eval o X.env)=eval o X.env) (hline:(apos.endLine==pos.line)=true):DE X (.Call (.Attribute o name apos) [] [] pos) (Cz T f mo (Zr [])):=fun loc mh=>by
 refine Cm (zX pa slot hty hm (ho loc mh) hbase hline) ?_;rintro σ H Q ⟨ρ,d,mh',q,rl,rs,co⟩;obtain ⟨x,m1,eo,q⟩:=Be q;split at q
 ·rename_i ht;exact ⟨ρ,x,m1,eo,rl,rs,fun H1 ρ1 v e1 rs1 r1=>⟨gY rs1 r1 ht,ρ1,m1,x,[],d,mh',q,rs1,r1,.nil,co.ev e1⟩⟩
 ·cases q
theorem uK {id:String}{r r':V->List V->Hp->VK->Prop}(h:MtR X id r) (i:∀ x xs H Q,r' x xs H Q->r x xs H Q):MtR X id r':=fun pins s σ H x xs v us Q I rx rs q=>h pins s σ H x xs v us Q I rx rs (i x xs H Q q)
noncomputable def Ci:D->List D->MH->Option (D×MH)
 | .ref n,[y],mh=>match mh[n]? with
  | some (.lst ds)=>if ds.length < sizeLine then some (.non,mh.set n (.lst (ds++[y]))) else none
  | _=>none
 | _,_,_=>none
theorem W2:MtR X "list.append" (rDM X.K Ci):=by
 refine uK aW ?_;rintro x xs H Q ⟨ρ,mh,dx,ds,d,mh',q,rs,rx,r,co⟩
 match ds,q with
 | [y],q =>
  obtain ⟨v,rfl,rv⟩:=Wt r;cases rx with
  | @ref n a hn =>
   have q:(match mh[n]? with | some (.lst ds)=>if ds.length < sizeLine then some (D.non,mh.set n (.lst (ds++[y]))) else none | _=>none)=some (d,mh'):=q;split at q
   ·rename_i ds em;split at q
    ·rename_i hz;cases q;obtain ⟨a',ha,us,hu,ru⟩:=rs.at em;rw [hn] at ha;cases ha;exact ⟨a,us,v,rfl,rfl,hu,by rw [← ru.length];exact hz,co _ ρ _ (Ev.lst hu) (rs.setL hn hu (ru.append (.cons rv .nil))) .non⟩
    ·cases q
   ·cases q
  | _=>cases q
 | [],q=>cases dx <;> cases q
 | _::_::_,q=>cases dx <;> cases q
noncomputable def iB:D->List D->MH->Option (D×MH)
 | .int i,[],mh=>some (.int (Builtin.Int.intBits i),mh)
 | _,_,_=>none
theorem iC:MtR X "int.bit_length" (rDM X.K iB):=by
 rintro pins s σ H x xs v us Q I rx rv ⟨ρ,mh,dx,ds,d,mh',q,rs,r1,r2,co⟩
 match ds,q with
 | [],q =>
  cases r2;cases rv;cases r1 with
  | int i =>
   cases q;obtain ⟨t,rfl⟩:=rx;exact call_int_bit_length ⟨.int _,H,I.tok _,⟨_,rfl⟩,co H ρ _ Ev.refl rs (.int _)⟩
  | _=>cases q
 | _::_,q=>cases dx <;> cases q
noncomputable def Aaw:D->MH->Option (D×MH)
 | .int i,mh=>some (.int (-i),mh)
 | _,_=>none
theorem uL:UnR X (unaryOp .USub) (rD1 X.K Aaw):=by
 rintro pins s σ H x v Q I rx ⟨ρ,mh,dx,d,mh',q,rs,r1,co⟩;cases r1 with
 | int i=>cases q;exact zJ pins s σ H _ v Q I rx ⟨i,rfl,co H ρ _ Ev.refl rs (.int _)⟩
 | _=>cases q
end
noncomputable def Aax (xs:Array Nat):Prop:=xs.toList.Pairwise (· < ·)
theorem Aax.lt {xs:Array Nat}(h:Aax xs) {i j:Nat}{x y:Nat}(hij:i < j) (hx:xs[i]?=some x) (hy:xs[j]?=some y):x < y:=by
 obtain ⟨h1,rfl⟩:=Array.getElem?_eq_some_iff.mp hx;obtain ⟨h2,rfl⟩:=Array.getElem?_eq_some_iff.mp hy;have:=List.pairwise_iff_getElem.mp h i j (by simpa using h1) (by simpa using h2) hij
 simpa using this
structure Below (xs:Array Nat) (j p:Nat):Prop where
 le:p<=xs.size
 lo:∀ i x,i < p->xs[i]?=some x->x < j
 hi:∀ i x,p<=i->xs[i]?=some x->j<=x
theorem Below.same {xs:Array Nat}{j p q:Nat}(a:Below xs j p) (b:Below xs j q):p=q:=by
 rcases Nat.lt_trichotomy p q with h|h|h
 ·have:=b.le;have hp:p < xs.size:=by omega
  have:=b.lo p _ h (Array.getElem?_eq_getElem hp);have:=a.hi p _ (Nat.le_refl _) (Array.getElem?_eq_getElem hp);omega
 ·exact h
 ·have:=a.le;have hq:q < xs.size:=by omega
  have:=a.lo q _ h (Array.getElem?_eq_getElem hq);have:=b.hi q _ (Nat.le_refl _) (Array.getElem?_eq_getElem hq);omega
structure Good (b:Bool) (t:SetTable):Prop where
 led:t.led=b
 rise:t.plain=true->Aax t.place
theorem Good.stand {b:Bool}{t:SetTable}(h:Good b t) (n:Nat):Good b (t.standIn n):=⟨h.led,fun z=>by cases z⟩
section
variable {P:Program}{w:World}
structure SetD (P:Program) (w:World) (o:Obj) (es:Array (Int×Value)) (ep:Nat) (t:SetTable) (S:Int->Bool) (n:Nat):Prop where
 ex:o.ExactSet
 dt:o.data=.set es ep t
 el:ElemsOf (intKind P w) es.toList
 mem:∀ k,S k=true ↔ ∃ e∈es.toList,(intKind P w).is k e.2=true
 few:es.size < scanBound
 fit:t.fits es.size=true
 sz:es.size=n
 good:Good (!w.params.followText "set-order") t
noncomputable def bH (P:Program) (w:World) (h:Heap) (a:Addr) (S:Int->Bool) (n:Nat):Prop:=∃ o es ep t,h.get? a=some o/\SetD P w o es ep t S n
theorem bH.of {h:Heap}{a:Addr}{S:Int->Bool}{n:Nat}(g:bH P w h a S n):h.SetOf (intKind P w) a S n:=by
 obtain ⟨o,es,ep,t,e,d⟩:=g;exact ⟨o,es,ep,t,e,d.ex,d.dt,d.el,d.mem,d.few,d.fit,d.sz⟩
theorem bH.stay {h h':Heap}{a:Addr}{S:Int->Bool}{n:Nat}(g:bH P w h a S n) (k:∀ o,h.get? a=some o->h'.get? a=some o):bH P w h' a S n:=by
 obtain ⟨o,es,ep,t,e,d⟩:=g;exact ⟨o,es,ep,t,k o e,d⟩
variable {A:Around}{E:Value->Shared->Prop}{s:Shared}
end
section
variable {P:Program}{w:World}{A:Around}{R:Result->Shared->Prop}{I:Addr}{fp wr:List Addr}{G:Array GenState->Array GenState->Prop}{n:Nat}{V:Nat->Value->Prop}{T:Nat->Shared->Prop}
end
section
variable {P:Program}{w:World}{A:Around}{E:Value->Shared->Prop}{s:Shared}
end
section
variable {P:Program}{w:World}{A:Around}{E:Value->Shared->Prop}{s:Shared}
noncomputable def U0 (ns:List Int):List Int:=firstMet (fun i=>ns.getD i 0) ns.length
end
section
variable {P:Program}{w:World}{A:Around}{E:Value->Shared->Prop}{s:Shared}
end
theorem Ow {α:Type}:∀ {l:List α}{i:Nat}(h:i < l.length),List.Perm (l[i]::l.eraseIdx i) l
 | a::r,0,_=>.refl _
 | a::r,i+1,h=>by
  have hi:i < r.length:=by simpa using h
  have:=Ow (l:=r) (i:=i) hi;show List.Perm (r[i]::a::r.eraseIdx i) (a::r);exact (List.Perm.swap _ _ _).trans (this.cons a)
theorem Yv {α:Type}(nx:Nat->Nat):∀ (Ac k:Nat) (left:List α) (out:Array α),left.length=Ac->List.Perm (pickOrder.go nx Ac k left out).toList (out.toList++left)
 | 0,k,left,out,h=>by
  have:left=[]:=List.length_eq_zero_iff.mp h;subst this;unfold pickOrder.go;rw [List.append_nil]
 | Ac+1,k,left,out,h=>by
  unfold pickOrder.go;have hl:nx k % left.length < left.length:=Nat.mod_lt _ (by omega);rw [List.getElem?_eq_getElem hl];dsimp only;refine (Yv nx Ac _ _ _ (by rw [List.length_eraseIdx,if_pos hl];omega)).trans ?_;rw [Array.toList_push,List.append_assoc]
  exact List.Perm.append_left _ (by
   show List.Perm (left[nx k % left.length]::left.eraseIdx (nx k % left.length)) left
   exact Ow hl)
theorem bI {α:Type}(nx:Nat->Nat) (xs:Array α):List.Perm (pickOrder nx xs).toList xs.toList:=by
 unfold pickOrder
 simpa using Yv nx xs.size 0 xs.toList #[] (by simp)
section
variable {P:Program}{w:World}{A:Around}{E:Value->Shared->Prop}
end
inductive Mode where
 | txt | slt | drw (tp:Addr) (pl:List Nat)
noncomputable def Mode.first (t:SetTable):Mode->Nat->Value
 | .txt,_=>.int 0 0
 | .slt,0=>.int 0 0
 | .slt,i+1=>.int ((t.place.getD i 0+1:Nat):Int) 0
 | .drw tp _,_=>.ref tp
noncomputable def Mode.ord (w:World) (a:Addr) (es:Array (Int×Value)) (ep:Nat):Mode->List Value
 | .txt=>(pickOrder (w.params.setOrder a ep) es).toList.map (·.2)
 | .slt=>es.toList.map (·.2)
 | .drw _ pl=>pl.filterMap fun p=>(es[p]?).map (·.2)
noncomputable def Mode.ok (w:World) (es:Array (Int×Value)) (t:SetTable):Mode->Heap->Prop
 | .txt,_=>w.params.followText "set-order"=true
 | .slt,_=>w.params.followText "set-order"=false/\(t.plain=true\/es.size<=1)
 | .drw tp pl,h=>w.params.followText "set-order"=false/\pl.Perm (List.range es.size)/\∃ n,h.get? tp=some { cls:=.type "tuple",data:=.seq (pl.map fun (p:Nat)=>rawInt (p:Int)).toArray n }
theorem Mode.perm {w:World}{a:Addr}{es:Array (Int×Value)}{ep:Nat}{t:SetTable}{m:Mode}{h:Heap}(k:m.ok w es t h):List.Perm (m.ord w a es ep) (es.toList.map (·.2)):=by
 cases m with
 | txt=>exact (bI _ _).map _
 | slt=>exact .refl _
 | drw tp pl =>
  obtain ⟨_,hp,_⟩:=k;refine (hp.filterMap _).trans ?_;have:=congrArg (List.map (fun x:Int×Value=>x.2)) (filterMap_getElem?_range es);rw [List.map_filterMap] at this;rw [← this]
noncomputable abbrev Ae1 (f:Value) (i:Nat) (a:Addr) (n ep:Nat):Obj:={ cls:=.type "set_iterator",data:=.fields #[f,.int i 0,.ref a,.int n 0,.int ep 0] }
namespace SI
end SI
section
variable {P:Program}{w:World}{A:Around}{E:Value->Shared->Prop}{s:Shared}{a I:Addr}{o:Obj}{es:Array (Int×Value)}{ep n:Nat}{t:SetTable}{S:Int->Bool}
structure SetSt (w:World) (o:Obj) (es:Array (Int×Value)) (ep:Nat) (t:SetTable) (a I:Addr) (m:Mode) (i:Nat) (h:Heap):Prop where
 it:h.get? I=some (Ae1 (m.first t i) i a es.size ep)
 st:h.get? a=some o
 ok:m.ok w es t h
end
section
variable {P:Program}{w:World}{A:Around}{E:Value->Shared->Prop}{s:Shared}{a I:Addr}{o:Obj}{es:Array (Int×Value)}{ep n:Nat}{t:SetTable}{S:Int->Bool}
noncomputable def Mode.fp:Mode->List Addr
 | .drw tp _=>[tp]
 | _=>[]
end
noncomputable def Ae2 (ns:List Int):List Int:=(U0 ns).mergeSort fun a b=>decide (a<=b)
theorem Iz:∀ {us:List Value}{ns:List Int},IntsAre us ns->Vals (ns.map V.int) us
 | _,_,.nil=>.nil
 | _,_,.cons n t h=>.cons ⟨t,rfl⟩ (Iz h)
noncomputable abbrev Ago (ns:List Int):Int->Bool:=fun j=>(U0 ns).any (·==j)
section
variable {X:Cx}
noncomputable def Ag2 (P:Program) (w:World) (a:Addr) (ns:List Int):HO:=.ext fun h=>bH P w h a (Ago ns) (U0 ns).length
end
section
variable {P:Program}{w:World}{A:Around}{E:Value->Shared->Prop}{s:Shared}{a b:Addr}{o o':Obj}{es es':Array (Int×Value)}{ep n ep' n':Nat}{t t':SetTable}{S S':Int->Bool}
end
noncomputable def Ae3 (ns ms:List Int):Bool:=ns.all (fun k=>ms.contains k)&&ms.all fun k=>ns.contains k
noncomputable def intsOf:List D->Option (List Int)
 | []=>some []
 | .int i::r=>match intsOf r with
  | some l=>some (i::l)
  | none=>none
 | _=>none
noncomputable def Yw:D->MH->Option (List Int)
 | .ref n,mh=>match mh[n]? with
  | some (.lst o)=>intsOf o
  | _=>none
 | .rol ds,_=>intsOf ds
 | .tup ds,_=>intsOf ds
 | _,_=>none
theorem Mu:∀ {ds:List D}{ns:List Int},intsOf ds=some ns->ds=ns.map D.int
 | [],ns,h=>by cases h;rfl
 | d::r,ns,h=>by
  cases d with
  | int i =>
   have h:(match intsOf r with | some l=>some (i::l) | none=>none)=some ns:=h;split at h
   ·rename_i l e;cases h;rw [Mu e];rfl
   ·cases h
  | _=>cases h
section
variable {K:PySem.W.Frag}{H:Hp}{ρ:List Addr}{mh:MH}
theorem iD {ns:List Int}{vs:List V}(h:RDs K H ρ (ns.map D.int) vs):vs=ns.map V.int:=by
 induction ns generalizing vs with
 | nil=>cases h;rfl
 | cons n r ih =>
  cases h with
  | cons a t=>cases a;rw [ih t];rfl
end
noncomputable def uM (x:D) (mh:MH):Option (D×MH):=match Yw x mh with
 | some ns=>if ns.length < 4000 then some (.int (U0 ns).length,mh) else none
 | none=>none
noncomputable def iH (x:D) (mh:MH):Option (D×MH):=match Yw x mh with
 | some ns=>if ns.length < 4000 then (if (U0 ns).length < 64 then some (.ref mh.length,mh++[.lst ((Ae2 ns).map D.int)]) else none) else none
 | none=>none
noncomputable def Aay (x y:D) (mh:MH):Option (D×MH):=match Yw x mh,Yw y mh with
 | some ns,some ms=>if ns.length < 4000/\ms.length < 4000 then some (.bl (Ae3 ns ms),mh) else none
 | _,_=>none
section
variable {X:Cx}{a:Expr}{ma:DM D}{p p2 pos pos2:Pos}
noncomputable def iJ (mx my:DM D):DM D:=mx.bnd fun x=>my.bnd fun y=>Zl (Aay x y)
end
section
variable {X:Cx}{pins:List (Addr×Obj)}{σ:L2.St}{H:Hp}{s:Shared}
theorem U3 (I:Inv X pins σ H s) {A:Around}(hh:A.handled=none) {p:Addr}{ys:List V}(hq:SqL X.K H p ys\/SqT X.K H p ys) {Q:Value->Shared->Prop}{E:Value->Shared->Prop}
  (h:∀ (its:List Value) (St:Nat->Heap->Prop) (h2:Heap),Vals ys its->Walks X.prog X.w A s.heap.objs.size [s.heap.objs.size,p] [s.heap.objs.size] its.length (fun i v=>its[i]?=some v) St->St 0 h2 ->
   (∀ b∈[s.heap.objs.size,p],b < h2.objs.size)->(∀ b o,s.heap.get? b=some o->h2.get? b=some o)->Q (.ref s.heap.objs.size) { s with heap:=h2 }) :
  wpAny (model X.prog X.w) A (pyIter (.ref p)) Q E s:=by
 rcases hq with hq|hq
 ·obtain ⟨its,rv,pl,hz⟩:=I.list hq;have hlt:p < s.heap.objs.size:=by obtain ⟨_,_,e,_⟩:=pl;exact Heap.lt_size e
  refine wpAny_pyIter_list pl.isList ?_;have W:=Walks.list (prog:=X.prog) (w:=X.w) hh s.heap.objs.size p (Nat.ne_of_lt hlt) its.toArray;refine h its (fun i h=>h.IsListIter s.heap.objs.size p i/\h.IsList p its.toArray) _ rv (by simpa using W) ⟨⟨_,Heap.get?_push_size _ rfl,rfl,rfl⟩,pl.isList.push _⟩ (fun b hb=>?_) fun b o e=>Heap.get?_push_of_some _ e
  rw [Heap.size_push];simp at hb;rcases hb with e|e
  ·rw [e];exact Nat.lt_succ_self _
  ·rw [e];exact Nat.lt_succ_of_lt hlt
 ·obtain ⟨its,rv,pl,hz⟩:=I.tuple hq;have pl:s.heap.IsTuple p its.toArray:=pl;have hlt:p < s.heap.objs.size:=by obtain ⟨_,e,_⟩:=id pl;exact Heap.lt_size e
  refine wpAny_pyIter_tuple pl ?_;have W:=Walks.tuple (prog:=X.prog) (w:=X.w) hh s.heap.objs.size p (Nat.ne_of_lt hlt) its.toArray;refine h its (fun i h=>h.IsTupleIter s.heap.objs.size p i/\h.IsTuple p its.toArray) _ rv (by simpa using W) ⟨⟨_,Heap.get?_push_size _ rfl,rfl,rfl⟩,pl.push _⟩ (fun b hb=>?_) fun b o e=>Heap.get?_push_of_some _ e
  rw [Heap.size_push];simp at hb;rcases hb with e|e
  ·rw [e];exact Nat.lt_succ_self _
  ·rw [e];exact Nat.lt_succ_of_lt hlt
theorem U4 {h2 h':Heap}(hk:∀ b o,b ∉ [s.heap.objs.size]->h2.get? b=some o->h'.get? b=some o) (h1:∀ b o,s.heap.get? b=some o->h2.get? b=some o):∀ b o,s.heap.get? b=some o->h'.get? b=some o :=
 fun b o e=>hk b o (fun hm=>by rw [List.mem_singleton.mp hm] at e;exact Nat.lt_irrefl _ (Heap.lt_size e)) (h1 b o e)
end
noncomputable def boolsOf:List D->Option (List Bool)
 | []=>some []
 | .bl i::r=>match boolsOf r with
  | some l=>some (i::l)
  | none=>none
 | _=>none
theorem Mw:∀ (ns:List Bool),boolsOf (ns.map D.bl)=some ns
 | []=>rfl
 | n::r=>by
  show (match boolsOf (r.map D.bl) with | some l=>some (n::l) | none=>none)=_;rw [Mw r]
theorem Kl:∀ {ds:List D}{ns:List Bool},boolsOf ds=some ns->ds=ns.map D.bl
 | [],ns,h=>by cases h;rfl
 | d::r,ns,h=>by
  cases d with
  | bl i =>
   have h:(match boolsOf r with | some l=>some (i::l) | none=>none)=some ns:=h;split at h
   ·rename_i l e;cases h;rw [Kl e];rfl
   ·cases h
  | _=>cases h
theorem bJ {K:PySem.W.Frag}{H:Hp}{ρ:List Addr}{ns:List Bool}{vs:List V}(h:RDs K H ρ (ns.map D.bl) vs):vs=ns.map V.bl:=by
 induction ns generalizing vs with
 | nil=>cases h;rfl
 | cons n r ih =>
  cases h with
  | cons a t=>cases a;rw [ih t];rfl
theorem Yx:∀ {bs:List Bool}{its:List Value},Vals (bs.map V.bl) its->its=bs.map Value.bool
 | [],_,.nil=>rfl
 | b::r,_,.cons h t=>by
  have h:_=Value.bool b:=h;rw [h,Yx t];rfl
theorem Km:∀ {ns:List Int}{its:List Value}{i:Nat}{v:Value},Vals (ns.map V.int) its->its[i]?=some v->∃ n t,ns[i]?=some n/\v=.int n t
 | [],_,_,_,.nil,e=>by simp at e
 | n::r,_,0,_,.cons h t,e=>by
  obtain ⟨k,rfl⟩:=h;cases e;exact ⟨n,k,rfl,rfl⟩
 | n::r,_,i+1,_,.cons h t,e=>by
  obtain ⟨m,k,h1,h2⟩:=Km (i:=i) t (by simpa using e);exact ⟨m,k,by simpa using h1,h2⟩
noncomputable def Ko (f:List Bool->Bool):List D->MH->Option (D×MH)
 | [x],mh=>match Gd x mh with
  | some ds=>match boolsOf ds with
   | some bs=>some (.bl (f bs),mh)
   | none=>none
  | none=>none
 | _,_=>none
theorem Sy {f:List Bool->Bool}{ds:List D}{mh mh':MH}{d:D}(h:Ko f ds mh=some (d,mh')):∃ x bs,ds=[x]/\Gd x mh=some (bs.map D.bl)/\d=.bl (f bs)/\mh'=mh:=by
 match ds,h with
 | [x],h =>
  have h:(match Gd x mh with | some ds=>(match boolsOf ds with | some bs=>some (D.bl (f bs),mh) | none=>none) | none=>none)=some (d,mh'):=h;split at h
  ·rename_i es e;split at h
   ·rename_i bs eb;cases h;rw [Kl eb] at e;exact ⟨x,bs,rfl,e,rfl,rfl⟩
   ·cases h
  ·cases h
 | [],h=>cases h
 | _::_::_,h=>cases h
noncomputable def S5:List D->MH->Option (D×MH):=Ko fun bs=>bs.all id
section
variable {X:Cx}
theorem iK (hc:X.calm=true) {id:String}{f:List Bool->Bool}{dflt:Bool}{g:List Nat->(Nat->Bool)->Bool}(hg:∀ bs:List Bool,g (List.range bs.length) (fun i=>(bs[i]?).getD dflt)=f bs)
  (call_w:∀ {A:Around} {x:Value} {Q:Value->Shared->Prop} {E:Value->Shared->Prop} {s:Shared},wpAny (model X.prog X.w) A.in1 (pyIter x) (fun it s₂=>∃ I fp wr n P St tr,it=.ref I/\Walks X.prog X.w A.in1 I fp wr n P St/\St 0 s₂.heap/\TruthOf X.prog X.w A.in1 P tr /\
   ∀ h' tk,(∀ b o,b ∉ wr->s₂.heap.get? b=some o->h'.get? b=some o)->Q (.bool (g (List.range n) tr)) { s₂ with heap:=h',toks:=tk }) E s->wpAny (model X.prog X.w) A (call (.builtin id) [x]) Q E s) :
  Dd X (.builtin id) (rDs X.K (Ko f)):=by
 rintro pins s σ H xs us Q I r ⟨ρ,mh,ds,d,mh',q,rs,rd,co⟩;obtain ⟨x,bs,rfl,e,rfl,rfl⟩:=Sy q;obtain ⟨v,rfl,rx⟩:=Wt rd;obtain ⟨u,rfl,ru⟩:=vals1 r;obtain ⟨p,ys,rfl,hq,ry⟩:=Ja rs rx e;cases ru;rw [bJ ry] at hq;refine call_w (U3 I (A:=X.A.in1) (I.ok.hd hc) hq fun its St h2 rv W st _ hk=>?_);have ei:=Yx rv;refine ⟨_,_,_,its.length,_,St,fun i=>(bs[i]?).getD dflt,rfl,W,st,fun i v s' Q' E' hP hQ=>?_,fun h' tk hk'=>?_⟩
 ·rw [ei,List.getElem?_map] at hP;cases eb:bs[i]? with
  | none=>rw [eb] at hP;cases hP
  | some b =>
   rw [eb] at hP;cases hP;simp only [eb,Option.getD_some] at hQ;exact wpAny_truthy_bool hQ
 ·have e2:its.length=bs.length:=by rw [ei,List.length_map]
  rw [e2,hg bs];exact ⟨.bl _,H,I.kept (t':=tk) (U4 hk' hk),rfl,co H ρ _ Ev.refl rs (.bl _)⟩
theorem bK (hc:X.calm=true):Dd X (.builtin "all") (rDs X.K S5):=iK (dflt:=true) hc (g:=fun l f=>l.all f) (fun bs=>LSm.range_all bs) fun h=>call_all_walk h
end
noncomputable def Lj:Int->List Int->Int
 | m,[]=>m
 | m,x::r=>Lj (if x < m then x else m) r
theorem Kp (bt:Nat->Nat->Bool) (f:Int->List Int->Int) (ns:List Int) (b:Int->Int->Bool) (hb:∀ i j x y,ns[i]?=some x->ns[j]?=some y->bt i j=b x y) (f0:∀ m,f m []=m) (f1:∀ m l x,f m (l++[x])=if b x (f m l)=true then x else f m l) :
  ∀ (k:Nat) (h:k < ns.length),∀ m r,ns=m::r->ns[argBest bt k]?=some (f m (r.take k))
 | 0,h,m,r,e=>by
  subst e;simp [argBest,f0]
 | k+1,h,m,r,e=>by
  have ih:=Kp bt f ns b hb f0 f1 k (by omega) m r e;have hk:k < r.length:=by rw [e,List.length_cons] at h;omega
  have e1:ns[k+1]?=some r[k]:=by rw [e,List.getElem?_cons_succ,List.getElem?_eq_getElem hk]
  have e2:r.take (k+1)=r.take k++[r[k]]:=by rw [List.take_add_one,List.getElem?_eq_getElem hk];rfl
  have e3:=hb (k+1) (argBest bt k) _ _ e1 ih;rw [e2,f1];unfold argBest;rw [e3];split
  ·exact e1
  ·exact ih
theorem Rj:∀ (l:List Int) (m x:Int),Lj m (l++[x])=if decide (x < Lj m l)=true then x else Lj m l
 | [],m,x=>by by_cases h:x < m <;> simp [Lj,h]
 | y::l,m,x=>by
  show Lj _ (l++[x])=_;rw [Rj l];rfl
noncomputable def W3 (f:Int->List Int->Int):List D->MH->Option (D×MH)
 | [x],mh=>match Gd x mh with
  | some ds=>match intsOf ds with
   | some (n::r)=>some (.int (f n r),mh)
   | _=>none
  | none=>none
 | _,_=>none
theorem U5 {f:Int->List Int->Int}{ds:List D}{mh mh':MH}{d:D}(h:W3 f ds mh=some (d,mh')):∃ x n r,ds=[x]/\Gd x mh=some ((n::r).map D.int)/\d=.int (f n r)/\mh'=mh:=by
 match ds,h with
 | [x],h =>
  have h:(match Gd x mh with | some ds=>(match intsOf ds with | some (n::r)=>some (D.int (f n r),mh) | _=>none) | none=>none)=some (d,mh'):=h;split at h
  ·rename_i es e;split at h
   ·rename_i n r eb;cases h;rw [Mu eb] at e;exact ⟨x,n,r,rfl,e,rfl,rfl⟩
   ·cases h
  ·cases h
 | [],h=>cases h
 | _::_::_,h=>cases h
noncomputable def minD:List D->MH->Option (D×MH):=W3 Lj
section
variable {X:Cx}
theorem uN (hc:X.calm=true) {id:String}{f:Int->List Int->Int}{op:CmpOp}{b:Int->Int->Bool}(f0:∀ m,f m []=m) (f1:∀ m l x,f m (l++[x])=if b x (f m l)=true then x else f m l)
  (cmp:∀ {A:Around} {x y:Int} {t u:Tok} {Q:Value->Shared->Prop} {E:Value->Shared->Prop} {s:Shared},Q (.bool (b x y)) s->wpAny (model X.prog X.w) A (richCompare op (.int x t) (.int y u)) Q E s)
  (call_w:∀ {A:Around} {x:Value} {Q:Value->Shared->Prop} {E:Value->Shared->Prop} {s:Shared},wpAny (model X.prog X.w) A.in1 (pyIter x) (fun it s₂=>∃ I fp wr n P St bt,it=.ref I/\Walks X.prog X.w A.in1 I fp wr n P St/\St 0 s₂.heap/\(∀ b∈fp,b < s₂.heap.objs.size)/\0 < n/\CmpOf X.prog X.w A.in1 op P bt /\
   ∀ v h' tk,P (argBest bt (n - 1)) v->(∀ b o,b ∉ wr->s₂.heap.get? b=some o->h'.get? b=some o)->Q v { s₂ with heap:=h',toks:=tk }) E s->wpAny (model X.prog X.w) A (call (.builtin id) [x]) Q E s) :
  Dd X (.builtin id) (rDs X.K (W3 f)):=by
 rintro pins s σ H xs us Q I r ⟨ρ,mh,ds,d,mh',q,rs,rd,co⟩;obtain ⟨x,n,l,rfl,e,rfl,rfl⟩:=U5 q;obtain ⟨v,rfl,rx⟩:=Wt rd;obtain ⟨u,rfl,ru⟩:=vals1 r;obtain ⟨p,ys,rfl,hq,ry⟩:=Ja rs rx e;cases ru;rw [iD ry] at hq;refine call_w (U3 I (A:=X.A.in1) (I.ok.hd hc) hq fun its St h2 rv W st hfp hk=>?_);have hlen:(n::l).length=its.length:=by have:=rv.length;simpa using this
 refine ⟨_,_,_,its.length,_,St,fun i j=>(match (n::l)[i]?,(n::l)[j]? with | some x,some y=>b x y | _,_=>false),rfl,W,st,hfp,by rw [← hlen];simp,fun i j vi vj s' Q' E' hi hj hQ=>?_,fun v h' tk hP hk'=>?_⟩
 ·obtain ⟨a,t,e1,rfl⟩:=Km rv hi;obtain ⟨a',t',e2,rfl⟩:=Km rv hj;simp only [e1,e2] at hQ;exact cmp hQ
 ·have ar:=Kp (fun i j=>(match (n::l)[i]?,(n::l)[j]? with | some x,some y=>b x y | _,_=>false)) f (n::l) b (fun i j x y e1 e2=>by simp only [e1,e2]) f0 f1 (its.length - 1) (by rw [hlen];simp at hlen;omega) n l rfl;obtain ⟨a,t,e1,rfl⟩:=Km rv hP;rw [ar] at e1;have e3:l.take (its.length - 1)=l:=List.take_of_length_le (by rw [← hlen];simp);rw [e3] at e1;cases e1;exact ⟨.int _,H,I.kept (t':=tk) (U4 hk' hk),⟨t,rfl⟩,co H ρ _ Ev.refl rs (.int _)⟩
end
section
variable {X:Cx}
theorem bL (hc:X.calm=true):Dd X (.builtin "min") (rDs X.K minD):=uN (op:=.Lt) (b:=fun x m=>decide (x < m)) hc (fun _=>rfl) (fun m l x=>Rj l m x) (fun h=>PyProof.Rows.lt_int h) fun h=>call_min_walk h
theorem RDs.eraseIdx {K:PySem.W.Frag}{H:Hp}{ρ:List Addr}:∀ {ds:List D}{vs:List V}(n:Nat),RDs K H ρ ds vs->RDs K H ρ (ds.eraseIdx n) (vs.eraseIdx n)
 | _,_,_,.nil=>.nil
 | _,_,0,.cons _ t=>t
 | _,_,n+1,.cons r t=>.cons r (RDs.eraseIdx n t)
end
section
variable {X:Cx}{pins:List (Addr×Obj)}{σ:L2.St}{H:Hp}{s:Shared}{fp:List Addr}{h':Heap}
theorem Rk {t':Nat}(I:Inv X pins σ H s) (k:∀ b o,b ∉ fp->s.heap.get? b=some o->h'.get? b=some o) (hf:∀ b∈fp,Kf X pins H b):Inv X pins σ H { s with heap:=h',toks:=t' }:=by
 have nf:∀ b u,H b=some u->b ∉ fp:=fun b u e z=>by rw [(hf b z).1] at e;cases e
 refine I.step (g':=s.gens) (d':=s.drawn) (ch:=fp) (fun b hb=>⟨(hf b hb).2.2.2.1,(hf b hb).2.1,(hf b hb).2.2.2.2.1,(hf b hb).2.2.2.2.2⟩) (fun b o _ _ hc e _=>k b o hc e) (fun b o _ _ hc e _=>⟨o.slots,k b o hc e⟩) (fun _ _ _ _ n=>n)
  (fun b o hc e=>⟨o,k b o hc e⟩) (fun _ _ e=>e) (fun _ _ _ e=>e) (fun b ps e=>⟨#[],by rw [e];simp⟩) (fun m hm=>?_) (fun b u e=>?_) I.bare
 ·obtain ⟨o,es,ep,ho,r⟩:=hm;exact ⟨o,es,ep,k _ o (fun z=>(hf _ z).2.1 rfl) ho,r⟩
 ·refine (I.hok b u e).stay (fun c v hc q=>k c v ?_ q) (fun _ q=>q) fun _ _ q=>q
  rcases hc with z|z
  ·rw [z];exact nf b u e
  ·exact nf c _ z
theorem Jr {t':Nat}{a:Addr}{o:HO}(I:Inv X pins σ H s) (k:∀ b o,b ∉ fp->s.heap.get? b=some o->h'.get? b=some o) (hf:∀ b∈fp,Kf X pins H b) (hp:s.heap.objs.size<=a) (new:Fy X.prog X.w (upd H a o) h' a o) :
  Inv X pins σ (upd H a o) { s with heap:=h',toks:=t' }:=by
 have hn:H a=none:=I.hok.fresh hp;have nb:∀ b u,H b=some u->upd H a o b=some u:=fun b u e=>by rw [Bg (Bs e hn)];exact e
 have nf:∀ b u,H b=some u->b ∉ fp:=fun b u e z=>by rw [(hf b z).1] at e;cases e
 refine I.step (g':=s.gens) (d':=s.drawn) (ch:=fp) (fun b hb=>⟨(hf b hb).2.2.2.1,(hf b hb).2.1,(hf b hb).2.2.2.2.1,(hf b hb).2.2.2.2.2⟩) (fun b o _ _ hc e _=>k b o hc e) (fun b o _ _ hc e _=>⟨o.slots,k b o hc e⟩) (fun b o' hc e n=>?_)
  (fun b o hc e=>⟨o,k b o hc e⟩) (fun b xs e=>nb _ _ e) (fun b o u e=>nb _ _ e) (fun b ps e=>⟨#[],by rw [nb _ _ e];simp⟩) (fun m hm=>?_) (fun b u e=>?_) I.bare
 ·rw [Bg (Nat.ne_of_lt (Nat.lt_of_lt_of_le (Heap.lt_size e) hp))];exact n
 ·obtain ⟨o,es,ep,ho,r⟩:=hm;exact ⟨o,es,ep,k _ o (fun z=>(hf _ z).2.1 rfl) ho,r⟩
 ·by_cases hb:b=a
  ·subst hb;rw [Dh] at e;cases e;exact new
  ·rw [Bg hb] at e;refine (I.hok b u e).stay (fun c v hc q=>k c v ?_ q) (fun c q=>nb _ _ q) fun c xs q=>nb _ _ q
   rcases hc with z|z
   ·rw [z];exact nf b u e
   ·exact nf c _ z
end
section
variable {prog:Program}{w:World}{A:Around}{E:Value->Shared->Prop}{s:Shared}
theorem U6 {it l:Addr}{i:Nat}{items:Array Value}{x:Value}{Q:Value->Shared->Prop}(hit:s.heap.IsTupleIter it l i) (hl:s.heap.IsTuple l items) (hx:items[i]?=some x)
  (hQ:∀ h',h'.IsTupleIter it l (i+1)->Heap.SameBut it s.heap h'->Q x { s with heap:=h' }):wpAny (model prog w) A (Builtin.SmallTypes.nextOf (.ref it)) Q E s:=by
 obtain ⟨o,ho,hc,hd⟩:=id hit;obtain ⟨ol,hol,_,nl,hdl⟩:=hl;unfold Builtin.SmallTypes.nextOf
 refine wpAny_bind (wpAny_callSpecial?_slot (name:=Str.ofString "__next__") hit.typeIs F.slot_tuple_iterator_next (wpAny_call_entry F.slot_tuple_iterator_next hit.typeIs F.entry_tuple_iterator_next ?_ (F.args_tuple_iterator_next_1 _)));show wpAny _ _ (field (.ref it) 0 >>= _) _ _ s;refine wpAny_bind (wpAny_field ho hd (x:=.ref l) rfl ?_);show wpAny _ _ (if (Value.ref l==Value.none)=true then _ else _) _ _ s;rw [if_neg (show ¬ ((Value.ref l==Value.none)=true) from Bool.false_ne_true)];show wpAny _ _ (field (.ref it) 1 >>= _) _ _ s;refine wpAny_bind (wpAny_field ho hd (x:=.int i 0) rfl ?_);show wpAny _ _ (seqItems? (.ref l) >>= _) _ _ s;refine wpAny_bind (wpAny_seqItems hol hdl ?_);simp only [Int.toNat_natCast,hx];refine wpAny_bind (wpAny_setField ho hd (by simp) (wpAny_pure ⟨x,rfl,wpAny_pure (hQ _ ⟨_,Heap.get?_update_self _ ho (Obj.isFreed_of_fields (Obj.data_mapFields hd _)),(Obj.cls_mapFields ..).trans hc,?_⟩ (Heap.SameBut.update ..))⟩));rw [Obj.data_mapFields hd];simp [rawInt]
theorem U7 {it l:Addr}{i:Nat}{items:Array Value}{Q:Value->Shared->Prop}(hh:A.handled=none) (hit:s.heap.IsTupleIter it l i) (hl:s.heap.IsTuple l items) (hx:items[i]?=none)
  (hE:∀ h' e,Heap.ExtBut it s.heap h'->(∃ o,h'.get? e=some o/\o.cls=.type "StopIteration")->E (.ref e) { s with heap:=h' }):wpAny (model prog w) A (Builtin.SmallTypes.nextOf (.ref it)) Q E s:=by
 obtain ⟨o,ho,hc,hd⟩:=id hit;obtain ⟨ol,hol,_,nl,hdl⟩:=hl;unfold Builtin.SmallTypes.nextOf
 refine wpAny_bind (wpAny_callSpecial?_slot (name:=Str.ofString "__next__") hit.typeIs F.slot_tuple_iterator_next (wpAny_call_entry F.slot_tuple_iterator_next hit.typeIs F.entry_tuple_iterator_next ?_ (F.args_tuple_iterator_next_1 _)));show wpAny _ _ (field (.ref it) 0 >>= _) _ _ s;refine wpAny_bind (wpAny_field ho hd (x:=.ref l) rfl ?_);show wpAny _ _ (if (Value.ref l==Value.none)=true then _ else _) _ _ s;rw [if_neg (show ¬ ((Value.ref l==Value.none)=true) from Bool.false_ne_true)];show wpAny _ _ (field (.ref it) 1 >>= _) _ _ s;refine wpAny_bind (wpAny_field ho hd (x:=.int i 0) rfl ?_);show wpAny _ _ (seqItems? (.ref l) >>= _) _ _ s;refine wpAny_bind (wpAny_seqItems hol hdl ?_);simp only [Int.toNat_natCast,hx]
 refine wpAny_bind (wpAny_rule (wpAny_bind (wpAny_setField ho hd (by simp) ?_)));show wpAny _ _ (newExc (.type "StopIteration") [] >>= _) _ _ _;refine wpAny_bind ?_;simp only [newExc,newTuple];refine wpAny_bind (wpAny_newObj_type ?_ (by size_fits));refine wpAny_bind (m:=firstArgMember _ _) (wpAny_of_eq (a:=Value.none) (by first | rfl | (simp only [firstArgMember];rfl)) ?_);refine wpAny_newObj_type ?_ (by size_fits);simp only [raiseNew];refine wpAny_bind (wpAny_handled ?_);first | rw [show A.in1.handled=none from hh] | rw [hh]
 refine wpAny_bind (wpAny_pure (wpAny_throw (hE _ _ (((Heap.SameBut.update ..).extBut.push _).push _) ⟨_,Heap.get?_push_size _ rfl,rfl⟩)))
theorem bN (hh:A.handled=none) (it l:Addr) (hne:l≠it) (items:Array Value):Draws prog w A it [it,l] items.size (fun i v=>items[i]?=some v) (fun i h=>h.IsTupleIter it l i/\h.IsTuple l items) where
 live:=fun _ _ st=>let ⟨o,ho,_⟩:=st.1;⟨o,ho⟩
 frame:=fun _ _ _ st hk=>⟨let ⟨o,ho,r⟩:=st.1;⟨o,hk it (by simp) o ho,r⟩,let ⟨o,ho,r⟩:=st.2;⟨o,hk l (by simp) o ho,r⟩⟩
 item:=fun i s Q E hi st hQ=>U6 st.1 st.2 (x:=items[i]) (by simp [hi]) fun h' hit' hs'=>hQ _ h' s.toks (by simp [hi]) ⟨hit',st.2.extBut hs'.extBut hne⟩ hs'
 done:=fun s Q E st hE=>U7 hh st.1 st.2 (by simp) hE
end
theorem k_ne {X:Cx}{pins:List (Addr×Obj)}{σ:L2.St}{H:Hp}{s:Shared}{a b:Addr}{o:Obj}(I:Inv X pins σ H s) (e:X.K.lookup a=some o) (f:Kf X pins H b):a≠b:=fun z=>by
 have hb:=I.ok.mod.kin a o e;rcases f.2.2.2.1 with q|q
 ·exact I.ok.noex a o hb (z ▸ q)
 ·have h1:a < X.base.objs.size:=Heap.lt_size hb;have h2:=I.ok.bsz;have h3:X.s₀.heap.objs.size<=a:=z ▸ q;exact absurd (Nat.lt_of_lt_of_le h1 h2) (Nat.not_lt.mpr h3)
theorem xM {H:Hp}{a b:Addr}{u:HO}(h:Rd H a u) (f:H b=none):a≠b:=fun z=>by
 rcases h with h | ⟨o,h⟩ <;> (rw [z,f] at h;cases h)
structure SeqK where
 sq:PySem.W.Frag->Hp->Addr->List V->Prop
 isIt:Heap->Addr->Addr->Nat->Prop
 isSeq:Heap->Addr->Array Value->Prop
 cls:String
 get:∀ {X:Cx} {pins:List (Addr×Obj)} {σ:L2.St} {H:Hp} {s:Shared} {a:Addr} {xs:List V},Inv X pins σ H s->sq X.K H a xs->∃ its:List Value,Vals xs its/\isSeq s.heap a its.toArray/\xs.length<=sizeLine
 inj:∀ {X:Cx} {pins:List (Addr×Obj)} {σ:L2.St} {H:Hp} {s:Shared} {a:Addr} {xs ys:List V},Inv X pins σ H s->sq X.K H a xs->sq X.K H a ys->xs=ys
 itO:∀ {h:Heap} {it l:Addr} {i:Nat},isIt h it l i->∃ o,h.get? it=some o/\o.cls=.type cls/\∃ vs,o.data=.fields vs
 itK:∀ {h h':Heap} {it l:Addr} {i:Nat},isIt h it l i->(∀ o,h.get? it=some o->h'.get? it=some o)->isIt h' it l i
 seqO:∀ {h:Heap} {l:Addr} {items:Array Value},isSeq h l items->∃ o,h.get? l=some o/\∃ n,o.data=.seq items n
 seqK:∀ {h h':Heap} {l:Addr} {items:Array Value},isSeq h l items->(∀ o,h.get? l=some o->h'.get? l=some o)->isSeq h' l items
 draws:∀ {prog:Program} {w:World} {A:Around},A.handled=none->∀ (it l:Addr),l≠it->∀ (items:Array Value),Draws prog w A it [it,l] items.size (fun i v=>items[i]?=some v) (fun i h=>isIt h it l i/\isSeq h l items)
 iter:∀ {prog:Program} {w:World} {A:Around} {E:Value->Shared->Prop} {s:Shared} {l:Addr} {items:Array Value} {Q:Value->Shared->Prop},isSeq s.heap l items ->
  Q (.ref s.heap.objs.size) { s with heap:=s.heap.push { cls:=.type cls,data:=.fields #[.ref l,.int 0 0] } }->wpAny (model prog w) A (pyIter (.ref l)) Q E s
 stop:∀ {prog:Program} {w:World} {A:Around} {E:Value->Shared->Prop} {s:Shared} {it l:Addr} {i:Nat} {items:Array Value} {Q:Value->Shared->Prop},A.handled=none->isIt s.heap it l i->isSeq s.heap l items->items[i]?=none ->
  (∀ h' e,Heap.ExtBut it s.heap h'->(∃ o,h'.get? e=some o/\o.cls=.type "StopIteration")->E (.ref e) { s with heap:=h' })->wpAny (model prog w) A (Builtin.SmallTypes.nextOf (.ref it)) Q E s
 next:∀ {prog:Program} {w:World} {A:Around} {E:Value->Shared->Prop} {s:Shared} {it l:Addr} {i:Nat} {items:Array Value} {x:Value} {Q:Value->Shared->Prop},isIt s.heap it l i->isSeq s.heap l items->items[i]?=some x ->
  (∀ h',isIt h' it l (i+1)->Heap.SameBut it s.heap h'->Q x { s with heap:=h' })->wpAny (model prog w) A (Builtin.SmallTypes.nextOf (.ref it)) Q E s
 ne:∀ {X:Cx} {pins:List (Addr×Obj)} {σ:L2.St} {H:Hp} {s:Shared} {a b:Addr} {xs:List V},Inv X pins σ H s->sq X.K H a xs->Kf X pins H b->a≠b
 new:∀ (h:Heap) (l:Addr),isIt (h.push { cls:=.type cls,data:=.fields #[.ref l,.int 0 0] }) h.objs.size l 0
noncomputable def bO:SeqK where
 sq:=SqL
 isIt:=fun h it l i=>h.IsListIter it l i
 isSeq:=fun h l its=>h.IsList l its
 cls := "list_iterator"
 get:=fun I h=>let ⟨its,r,p,z⟩:=I.list h;⟨its,r,p.isList,z⟩
 inj:=fun I h h'=>I.list_inj h h'
 itO:=fun ⟨o,e,c,d⟩=>⟨o,e,c,_,d⟩
 itK:=fun st k=>st.at k
 seqO:=fun ⟨o,e,_,n,d⟩=>⟨o,e,n,d⟩
 seqK:=fun ⟨o,e,r⟩ k=>⟨o,k o e,r⟩
 draws:=fun hh it l hne items=>Draws.list hh it l hne items
 iter:=fun hs q=>wpAny_pyIter_list hs q
 stop:=fun hh a b c d=>wpAny_nextOf_list_end hh a b c d
 next:=fun a b c d=>wpAny_nextOf_list_item a b c d
 ne:=fun I h f=>by
  rcases h with h|⟨o,its,n,hk,_⟩
  ·exact xM h f.1
  ·exact k_ne I hk f
 new:=fun h l=>⟨_,Heap.get?_push_size _ rfl,rfl,rfl⟩
noncomputable def Aaz:SeqK where
 sq:=SqT
 isIt:=fun h it l i=>h.IsTupleIter it l i
 isSeq:=fun h l its=>h.IsTuple l its
 cls := "tuple_iterator"
 get:=fun I h=>let ⟨its,r,p,z⟩:=I.tuple h;⟨its,r,p,z⟩
 inj:=fun I h h'=>I.tuple_inj h h'
 itO:=fun ⟨o,e,c,d⟩=>⟨o,e,c,_,d⟩
 itK:=fun ⟨o,e,r⟩ k=>⟨o,k o e,r⟩
 seqO:=fun ⟨o,e,_,n,d⟩=>⟨o,e,n,d⟩
 seqK:=fun ⟨o,e,r⟩ k=>⟨o,k o e,r⟩
 draws:=fun hh it l hne items=>bN hh it l hne items
 iter:=fun hs q=>wpAny_pyIter_tuple hs q
 stop:=fun hh a b c d=>U7 hh a b c d
 next:=fun a b c d=>U6 a b c d
 ne:=fun I h f=>by
  rcases h with h|⟨o,its,n,hk,_⟩
  ·exact xM h f.1
  ·exact k_ne I hk f
 new:=fun h l=>⟨_,Heap.get?_push_size _ rfl,rfl,rfl⟩
noncomputable def Ite (k:SeqK) (K:PySem.W.Frag) (a:Addr):It :=
 ⟨fun i H=>∃ xs x,k.sq K H a xs/\xs[i]?=some x,fun i H y H'=>∃ T x,H T=none/\y=.ref T/\(∀ xs,k.sq K H a xs->xs[i]?=some x)/\H'=upd H T (.tup [.int i,x]),fun i H=>∃ xs,k.sq K H a xs/\xs.length<=i⟩
theorem Aa0 {k:SeqK}{h:Heap}{it l:Addr}{i:Nat}{items:Array Value}(a:k.isIt h it l i) (b:k.isSeq h l items):l≠it:=fun z=>by
 obtain ⟨o,e,c,vs,d⟩:=k.itO a;obtain ⟨o',e',n,d'⟩:=k.seqO b;rw [z,e] at e';cases e';rw [d] at d';cases d'
theorem bQ {P:Program}{w:World}{K:PySem.W.Frag}(k:SeqK) {elts:List Expr}{kk:Nat}{tp:Pos}(a e it:Addr) (hne:e≠it):Turn P w K (.Tuple elts kk tp) (Ite k K a) [e,it] e (fun i h=>(∃ old,IsEnum h e it i old)/\k.isIt h it a i) where
 mem:=by simp
 obj:=fun i h st b hb=>by
  have hb:b=e\/b=it:=by simpa using hb
  rcases hb with rfl|rfl
  ·obtain ⟨old,q⟩:=st.1
   exact ⟨_,q,fun v z=>by
    have z':Data.fields _=Data.cell v:=z
    cases z'⟩
  ·obtain ⟨o,q,c,vs,d⟩:=k.itO st.2;exact ⟨o,q,fun v z=>by rw [d] at z;cases z⟩
 keep:=fun i h h' st kp=>⟨let ⟨old,q⟩:=st.1;⟨old,kp e (by simp) _ q⟩,k.itK st.2 fun o q=>kp it (by simp) o q⟩
 item:=by
  intro X hP hw hK hc i pins s σ H E I hf st hg;subst hP hw hK;obtain ⟨xs,x,hq,hx⟩:=hg;obtain ⟨its,rv,p,hz⟩:=k.get I hq;obtain ⟨u,hu,ru⟩:=rv.get hx;obtain ⟨⟨old,he⟩,hit⟩:=st;have hae:a≠e:=fun z=>by
   obtain ⟨o',e',n,d'⟩:=k.seqO p;rw [z,he] at e';cases e';cases d'
  have hai:=Aa0 hit p;have D:=k.draws (prog:=X.prog) (w:=X.w) (A:=X.A.in1) (I.ok.hd hc) it a hai its.toArray;have hi:i < its.toArray.size:=by rw [List.size_toArray];exact (List.getElem?_eq_some_iff.mp hu).1
  refine wpAny_pyNext_enum_itemD D he ⟨hit,p⟩ hi hne (by simp [hne,hae.symm]) fun y h1 tk hy ho st1 hT _ hk=>?_
  have ey:y=u:=by
   have hy':its[i]?=some y:=by simpa using hy
   rw [hu] at hy';cases hy';rfl
  subst ey;refine ⟨_,rfl,wpAny_letOwnedTupleGo_enum ho fun h2 he2 hs2=>?_⟩;have elt:e < s.heap.objs.size:=Heap.lt_size he;have ilt:it < s.heap.objs.size:=by
   obtain ⟨o,q,_⟩:=k.itO hit;exact Heap.lt_size q
  have hT2:Le h2 s.heap.objs.size #[.int i tk,y]:=⟨_,hs2.extBut _ _ (Nat.ne_of_gt elt) hT,rfl,rfl,_,rfl⟩;have nb:∀ b,b ∉ [e,it]->b≠e/\b≠it:=fun b hb=>by simpa using hb
  have I2:Inv X pins σ (upd H s.heap.objs.size (.tup [.int i,x])) { s with heap:=h2,toks:=tk+1 }:=Jr (fp:=[e,it]) I (fun b o hb q=>hs2.extBut b o (nb b hb).1 (hk b o (nb b hb).1 (nb b hb).2 q)) hf (Nat.le_refl _) ⟨by simp [sizeLine_eq],[.int i tk,y],.cons ⟨tk,rfl⟩ (.cons ru .nil),hT2⟩;refine ⟨.ref s.heap.objs.size,_,I2,rfl,⟨s.heap.objs.size,x,I.hok.fresh (Nat.le_refl _),rfl,fun ys hy=>by rw [k.inj I hy hq];exact hx,rfl⟩,⟨⟨_,by simpa using he2⟩,k.itK st1.1 fun o q=>hs2.extBut _ _ hne.symm q⟩,fun b hb=>?_⟩;rw [Bg ?_]
  ·exact (hf b hb).1
  ·intro z;have hb:b=e\/b=it:=by simpa using hb
   rcases hb with q|q
   ·rw [q] at z;exact absurd z (Nat.ne_of_lt elt)
   ·rw [q] at z;exact absurd z (Nat.ne_of_lt ilt)
 done:=by
  intro X hP hw hK hc i pins s σ H E I hf st hg;subst hP hw hK;obtain ⟨xs,hq,hx⟩:=hg;obtain ⟨its,rv,p,hz⟩:=k.get I hq;obtain ⟨⟨old,he⟩,hit⟩:=st;have hl:=rv.length
  have hT:s.TypeIs (.ref e) "enumerate":=⟨_,he,rfl⟩
  unfold pyNext
  refine wpAny_bind (wpAny_attempt (wpAny_callSpecial?_slot (name:=Str.ofString "__next__") hT F.slot_enumerate_next (wpAny_call_entry F.slot_enumerate_next hT F.entry_enumerate_next ?_ (F.args_enumerate_next_1 _))));show wpAny _ _ (field (.ref e) 2 >>= _) _ _ _;refine wpAny_bind (wpAny_field he rfl (x:=.ref it) rfl ?_);refine wpAny_bind (k.stop (A:=X.A.in1) (I.ok.hd hc) hit p (by simp;omega) fun h' x he' hx'=>?_);obtain ⟨o,ho,hcl⟩:=hx'
  refine wpAny_bind (wpAny_isInstance (T := "StopIteration") (b:=true) ⟨o,ho,hcl⟩ isSubtype_stop (wpAny_pure ⟨rfl,?_⟩));exact Rk (t':=s.toks) (fp:=[e,it]) I (fun b o hb q=>he' b o (fun z=>hb (by simp [z])) q) hf
 self:=fun _ i s Q E st h=>by
  obtain ⟨⟨old,he⟩,_⟩:=st;exact wpAny_pyIter_enum he h
set_option maxHeartbeats 8000000 in
theorem U8 (l:Addr) (items:Array Value) (n:Nat) (dct:Option Addr) (sl:Array (Option Value)) :
    Meets (Builtin.«enumerate.__new__» ⟨[.type "enumerate",.ref l],[]⟩) (fun _ R s=>s.heap.get? l=some { cls:=.type "tuple",dict:=dct,data:=.seq items n,slots:=sl } /\
      R (.ok (.ret (.ref (s.heap.push { cls:=.type "tuple_iterator",data:=.fields #[.ref l,.int 0 0] }).objs.size)))
        { s with heap:=(s.heap.push { cls:=.type "tuple_iterator",data:=.fields #[.ref l,.int 0 0] }).push { cls:=.type "enumerate",data:=.fields #[.none,.bool false,.ref s.heap.objs.size,rawInt 0,.none,.none] } }) :=
  .of_wp fun prog w A R s h=>by
    obtain ⟨hp,g,d,tk,os⟩:=s;obtain ⟨hl,h⟩:=h;have hsub:=sub_enumerate;have hL:Heap.IsTuple (Shared.heap ⟨hp,g,d,tk,os⟩) l items:=⟨_,hl,rfl,n,rfl⟩;wp_walk using AutoSeq1.wpAny_loadPart' hl
    refine wpAny_stack_any fun st=>wpAny_pure ?_;split
    · rename_i c _ _ _ _ _
      cases (c==Value.type "enumerate") <;> (wp_walk using AutoSeq1.wpAny_loadPart' hl,wpAny_pyIter_tuple hL;exact ⟨_,rfl,h⟩)
    · (wp_walk using AutoSeq1.wpAny_loadPart' hl,wpAny_pyIter_tuple hL;exact ⟨_,rfl,h⟩)
section
variable {prog:Program}{w:World}{A:Around}{E:Value->Shared->Prop}{s:Shared}
theorem bR {l:Addr}{items:Array Value}{Q:Value->Shared->Prop}(hL:s.heap.IsTuple l items)
  (h:∀ h',IsEnum h' (s.heap.objs.size+1) s.heap.objs.size 0 .none->h'.IsTupleIter s.heap.objs.size l 0->h'.objs.size=s.heap.objs.size+2->(∀ b o,s.heap.get? b=some o->h'.get? b=some o)->Q (.ref (s.heap.objs.size+1)) { s with heap:=h' }) :
  wpAny (model prog w) A (call (.type "enumerate") [.ref l]) Q E s:=by
 obtain ⟨⟨c,dct,dt,sl⟩,hl,hc,n,hd⟩:=hL
 replace hc:c=.type "tuple":=hc
 replace hd:dt=.seq items n:=hd
 subst hc hd;refine callType_new F.called_enumerate (by decide) (F.typeCall_enumerate_1 _) (F.newCall_enumerate_1 _) (fun obj=>F.args_object_init_2 obj _) F.entry_enumerate_new (U8 l items n dct sl) ⟨hl,?_⟩
 have hz:(s.heap.push { cls:=.type "tuple_iterator",data:=.fields #[.ref l,.int 0 0] }).objs.size=s.heap.objs.size+1:=Heap.size_push ..;show _/\_;rw [hz]
 have he:IsEnum ((s.heap.push { cls:=.type "tuple_iterator",data:=.fields #[.ref l,.int 0 0] }).push { cls:=.type "enumerate",data:=.fields #[.none,.bool false,.ref s.heap.objs.size,rawInt 0,.none,.none] }) (s.heap.objs.size+1) s.heap.objs.size 0 .none:=by
  have:=Heap.get?_push_size (s.heap.push { cls:=.type "tuple_iterator",data:=.fields #[.ref l,.int 0 0] }) (o:={ cls:=.type "enumerate",data:=.fields #[.none,.bool false,.ref s.heap.objs.size,rawInt 0,.none,.none] }) rfl;rw [hz] at this;exact this
 refine ⟨⟨_,he,rfl⟩,h _ he ⟨_,Heap.get?_push_of_some _ (Heap.get?_push_size _ rfl),rfl,rfl⟩ (by rw [Heap.size_push,hz]) fun b o x=>Heap.get?_push_of_some _ (Heap.get?_push_of_some _ x)⟩
end
structure SR (k:SeqK) (K:PySem.W.Frag) (H0:Hp) (ρ0:List Addr) (src:Src) (a:Addr):Prop where
 rd:∀ H ρ mh,Ev K H0 ρ0 H ρ->RS K H ρ mh->src.ok mh=true->∃ xs,k.sq K H a xs/\RDs K H ρ (src.items mh) xs
 ok:∀ (mh:MH) (i:Nat) (d:D),(src.items mh)[i]?=some d->src.ok mh=true
theorem SR.tup {K:PySem.W.Frag}{H0:Hp}{ρ0:List Addr}{ds:List D}{a:Addr}{xs:List V}(s:SqT K H0 a xs) (r:RDs K H0 ρ0 ds xs):SR Aaz K H0 ρ0 (.seq ds) a :=
 ⟨fun H ρ mh e rs _=>⟨xs,e.tup _ _ s,r.mono e⟩,fun _ _ _ _=>rfl⟩
theorem SR.rol {K:PySem.W.Frag}{H0:Hp}{ρ0:List Addr}{ds:List D}{a:Addr}{xs:List V}(s:Ik K H0 a xs) (r:RDs K H0 ρ0 ds xs):SR bO K H0 ρ0 (.seq ds) a :=
 ⟨fun H ρ mh e rs _=>⟨xs,(e.perm _ _ s).sq,r.mono e⟩,fun _ _ _ _=>rfl⟩
theorem SR.lst {K:PySem.W.Frag}{H0:Hp}{ρ0:List Addr}{n:Nat}{a:Addr}(h:ρ0[n]?=some a):SR bO K H0 ρ0 (.lref n) a:=by
 refine ⟨fun H ρ mh e rs ok=>?_,fun mh i d q=>?_⟩
 ·have ok:(match mh[n]? with | some (.lst _)=>true | _=>false)=true:=ok;obtain ⟨o,eo⟩:∃ o,mh[n]?=some (.lst o):=by
   split at ok
   ·exact ⟨_,‹_›⟩
   ·cases ok
  obtain ⟨a',ha,ro⟩:=rs.at eo;rw [e.at h] at ha;cases ha;obtain ⟨xs,sq,r⟩:=ro.read;refine ⟨xs,sq,?_⟩;show RDs K H ρ (match mh[n]? with | some (.lst o)=>o | _=>[]) xs;rw [eo];exact r
 ·have q:(match mh[n]? with | some (.lst o)=>o | _=>[])[i]?=some d:=q;show (match mh[n]? with | some (.lst _)=>true | _=>false)=true;split at q
  ·rfl
  ·simp at q
theorem Lk:∀ (l:List D) (j i:Nat),(Ip j l)[i]?=(l[i]?).map fun d=>D.tup [.int ((j+i:Nat):Int),d]
 | [],_,_=>by simp [Ip]
 | d::r,j,0=>by simp [Ip]
 | d::r,j,i+1=>by
  show (Ip (j+1) r)[i]?=_;rw [Lk r (j+1) i,List.getElem?_cons_succ];have e:j+1+i=j+(i+1):=by omega
  rw [e]
theorem Rm:∀ (l:List D) (j:Nat),(Ip j l).length=l.length
 | [],_=>rfl
 | _::r,j=>by show (Ip (j+1) r).length+1=r.length+1;rw [Rm r]
theorem JR.enum {k:SeqK}{K:PySem.W.Frag}{H0:Hp}{ρ0:List Addr}{src:Src}{a:Addr}(S:SR k K H0 ρ0 src a):JR K H0 ρ0 (.enum src) (Ite k K a) where
 go:=fun H ρ mh i d e rs q=>by
  have q:(Ip 0 (src.items mh))[i]?=some d:=q;rw [Lk] at q;cases e1:(src.items mh)[i]? with
  | none=>rw [e1] at q;cases q
  | some d' =>
   rw [e1] at q;cases q;obtain ⟨xs,sq,r⟩:=S.rd H ρ mh e rs (S.ok mh i d' e1);obtain ⟨v,ev,rv⟩:=r.get e1;refine ⟨⟨xs,v,sq,ev⟩,?_⟩;rintro x H' ⟨T,x',hT,h1,h2,h3⟩;subst h1;subst h3;have:=h2 xs sq;rw [ev] at this;cases this;refine ⟨Ev.new hT,rs.new hT,.tup (.inl (.inl Dh)) (.cons ?_ (.cons (rv.mono (Ev.new hT)) .nil))⟩;rw [Nat.zero_add];exact .int _
 stop:=fun H ρ mh i e rs q=>by
  have q:(src.ok mh&&decide ((Ip 0 (src.items mh)).length<=i))=true:=q;rw [Bool.and_eq_true,Rm] at q;obtain ⟨xs,sq,r⟩:=S.rd H ρ mh e rs q.1;exact ⟨xs,sq,by rw [← r.length];exact of_decide_eq_true q.2⟩
noncomputable def Kq (ma:DM D):DM Src:=ma.bnd fun x=>fun _ mh=>match srcOf x mh with | some s=>some (.enum s,mh) | none=>none
section
variable {X:Cx}
theorem bT:bootBuiltins "enumerate"=some (.type "enumerate"):=by decide +kernel
theorem Ox (k:SeqK) {pins:List (Addr×Obj)}{σ:L2.St}{H:Hp}{s:Shared}{R:It->Hp->Prop}{E:Value->Shared->Prop}{elts:List Expr}{kk:Nat}{tp:Pos}{a:Addr}{xs:List V}(I:Inv X pins σ H s) (hq:k.sq X.K H a xs) (hR:R (Ite k X.K a) H)
  (hnew:∀ {items:Array Value} {Q:Value->Shared->Prop},k.isSeq s.heap a items->(∀ h',IsEnum h' (s.heap.objs.size+1) s.heap.objs.size 0 .none->k.isIt h' s.heap.objs.size a 0->h'.objs.size=s.heap.objs.size+2->(∀ b o,s.heap.get? b=some o->h'.get? b=some o)->Q (.ref (s.heap.objs.size+1)) { s with heap:=h' }) ->
   wpAny (model X.prog X.w) X.A (call (.type "enumerate") [.ref a]) Q E s) :
  wpAny (model X.prog X.w) X.A (call (.type "enumerate") [.ref a]) (fun v s1=>wpAny (model X.prog X.w) X.A (pyIter v) (PIE X pins σ (.Tuple elts kk tp) R) E s1) E s:=by
 obtain ⟨its,rv,p,hz⟩:=k.get I hq;refine hnew p fun h' he hit hsz hk=>wpAny_pyIter_enum he ?_
 have I1:Inv X pins σ H { s with heap:=h' }:=I.kept (t':=s.toks) hk;refine ⟨s.heap.objs.size+1,[s.heap.objs.size+1,s.heap.objs.size],_,Ite k X.K a,H,rfl,I1,bQ k a _ _ (Nat.succ_ne_self _),⟨⟨_,he⟩,hit⟩,fun b hb=>?_,hR⟩;have hb:b=s.heap.objs.size+1\/b=s.heap.objs.size:=by simpa using hb
 rcases hb with rfl|rfl
 ·exact I.fpOk (Nat.le_succ _) (I.hok.fresh (Nat.le_succ _))
 ·exact I.fpOk (Nat.le_refl _) (I.hok.fresh (Nat.le_refl _))
theorem uO {a:Expr}{ma:DM D}{elts:List Expr}{kk:Nat}{tp p pos:Pos}(hc:X.calm=true) (hg:Gl X "enumerate") (hm:X.mg "enumerate"=none) (ha:DE X a ma) (hs:starEach [a] X.env=(false,eval a X.env)::starEach [] X.env) :
  DI X (.Tuple elts kk tp) (.Call (.Name "enumerate" p) [a] [] pos) (Kq ma):=fun loc mh=>by
 cases ea:ma loc mh with
 | none =>
  have:Kq ma loc mh=none:=by unfold Kq DM.bnd;rw [ea]
  rw [this];exact Fo
 | some pr =>
  obtain ⟨x,m1⟩:=pr;have eq:Kq ma loc mh=(match srcOf x m1 with | some s=>some (.enum s,m1) | none=>none):=by unfold Kq DM.bnd;rw [ea]
  rw [eq];rintro pins s σ H R I ⟨ρ,src,mh',q,rl,rs,co⟩;refine Call_ (Jw I hg hm bT (PyProof.Rows.callWith_type1 (thn (Ga (ha loc mh) Im hs pos pins s σ H (fun vs H1=>∃ v ρ1,vs=[v]/\Ev X.K H ρ H1 ρ1/\RS X.K H1 ρ1 m1/\RD X.K H1 ρ1 x v) I ⟨ρ,x,m1,ea,rl,rs,fun H1 ρ1 v e1 rs1 r1=>⟨v,ρ1,rfl,e1,rs1,r1⟩⟩) ?_) hs rfl));rintro us s1 ⟨vs,H1,I1,r1,q1⟩;obtain ⟨v,ρ1,rfl,e1,rs1,rx⟩:=q1;obtain ⟨u,rfl,ru⟩:=vals1 r1;cases x with
  | tup ds =>
   cases q;cases rx with
   | tup sq r =>
    cases ru;exact Ox Aaz I1 sq (co H1 ρ1 _ e1 rs1 (JR.enum (SR.tup sq r))) fun hL h=>bR hL h
  | ref n =>
   cases eo:m1[n]? with
   | none=>simp only [srcOf,eo] at q;cases q
   | some ob =>
    cases ob with
    | dct kvs=>simp only [srcOf,eo] at q;cases q
    | lst o =>
    simp only [srcOf,eo] at q;cases q;cases rx with
    | @ref _ a' h =>
     cases ru;obtain ⟨a2,ha2,ro⟩:=rs1.at eo;rw [h] at ha2;cases ha2;obtain ⟨xs,sq,r⟩:=ro.read;exact Ox bO I1 sq (co H1 ρ1 _ e1 rs1 (JR.enum (SR.lst h))) fun hL h=>call_enumerate_list hL h
  | rol ds =>
   cases q;cases rx with
   | rol sq r =>
    cases ru;exact Ox bO I1 sq.sq (co H1 ρ1 _ e1 rs1 (JR.enum (SR.rol sq r))) fun hL h=>call_enumerate_list hL h
  | non=>cases q
  | bl b=>cases q
  | int i=>cases q
  | str z=>cases q
  | obj c ks ds=>cases q
  | fn x=>cases q
end
section
variable {X:Cx}
theorem Qu {prog:Program}{w:World}{A:Around}{E:Value->Shared->Prop}{s:Shared}{r:Addr}{a b c:Int}{t u v:Tok}{n:Nat}{Q:List Value->Shared->Prop}(hh:A.handled=none) (hr:IsRange s.heap r a b c t u v) (hsmall:Builtin.Range.small a b c=true)
  (hn:Builtin.Range.rangeSize a b c=n) (hlen:n<=2 ^ 24)
  (hQ:∀ h' tk acc,(∀ b o,s.heap.get? b=some o->h'.get? b=some o)->ItemsOf (fun i v=>∃ t,v=.int (a+i * c) t) acc n->Q acc.toList { s with heap:=h',toks:=tk }):wpAny (model prog w) A (collect (.ref r)) Q E s:=by
 have key:∀ R:Result->Shared->Prop,(∀ h' tk acc' c',(∀ b o,b≠s.heap.objs.size->(s.heap.push { cls:=.type "list",data:=.seq ([]:List Value).toArray }).get? b=some o->h'.get? b=some o)->h'.get? s.heap.objs.size=some { cls:=.type "list",dict:=none,data:=.seq acc' c',slots:=#[] } ->
   ItemsOf (fun i v=>∃ t,v=.int (a+i * c) t) acc' n->R (.ok (.ret (.ref s.heap.objs.size))) { s with heap:=h',toks:=tk })->codeAny (model prog w) A (.builtin "proto.collect" ⟨[.ref r],[]⟩) R s:=fun R hR=>by
  refine codeAny_builtin F.entry_proto_collect ?_;rw [Around.under_plainId F.plain_proto_collect _]
  show wpAny _ A.in1 (newList [] >>= fun l=>again (.builtin "list.__iadd__" ⟨[l,.ref r],[]⟩)) _ _ s;refine wpAny_bind (wpAny_newObj_type ?_);refine wpAny_pure ⟨plainId_quiet F.plain_list_iadd _,codeAny_builtin F.entry_list_iadd ?_⟩;rw [Around.under_plainId F.plain_list_iadd _]
  have hS:(s.heap.push { cls:=.type "list",data:=.seq ([]:List Value).toArray }).get? s.heap.objs.size=some { cls:=.type "list",data:=.seq #[] 0 }:=Heap.get?_push_size _ rfl;show wpAny _ A.in1 (Builtin.List.listExtendWith (.ref s.heap.objs.size) (.ref r) (.ref s.heap.objs.size)) _ _ _
  exact wpAny_extend_range (A:=A) (R:=R) (s:={ s with heap:=s.heap.push { cls:=.type "list",data:=.seq ([]:List Value).toArray } }) hh (Heap.get?_push_of_some _ hr) hsmall hn hlen s.heap.objs.size _ 0 hS hR
 unfold collect;refine wpAny_bind (wpAny_runValue (key _ fun h' tk acc' c' hk hS' hacc=>?_));show wpAny _ A (load s.heap.objs.size >>= _) _ _ _;refine wpAny_bind (wpAny_load hS' ?_);exact wpAny_pure (hQ h' tk acc' (fun b o e=>hk b o (Nat.ne_of_lt (Heap.lt_size e)) (Heap.get?_push_of_some _ e)) hacc)
theorem Oz (r:Addr) (a b c:Int) (t u v:Tok) (n:Nat) (hsmall:Builtin.Range.small a b c=true) (hn:Builtin.Range.rangeSize a b c=n) (hlen:n<=2 ^ 24) :
  Meets (Builtin.«tuple.__new__» ⟨[.type "tuple",.ref r],[]⟩) (fun A R s=>A.handled=none/\IsRange s.heap r a b c t u v/\∀ (h':Heap) (tk:Nat) (acc:Array Value),(∀ b o,s.heap.get? b=some o->h'.get? b=some o)->ItemsOf (fun i v=>∃ t,v=.int (a+i * c) t) acc n ->
    R (.ok (.ret (.ref h'.objs.size))) { s with heap:=h'.push { cls:=.type "tuple",data:=.seq acc },toks:=tk }) :=
 .of_wp fun prog w A R s h=>by
  obtain ⟨hh,hr,h⟩:=h;have hsub:=sub_tuple_self;have hinit:=init_tuple_lookup;have hmh:=madeHere_tuple
  have hT:s.TypeIs (.ref r) "range":=⟨_,hr,rfl⟩
  have hh1:A.in1.handled=none:=hh;wp_walk using wpAny_typeOf hT,Qu hh1 hr hsmall hn hlen
  intro h' tk acc hk hacc;show wpAny _ _ (Builtin.Tuple.tupleExact acc.toList.toArray >>= fun v=>ret v) _ _ _;unfold Builtin.Tuple.tupleExact;refine wpAny_bind (wpAny_newObj_type (wpAny_pure ⟨_,rfl,?_⟩) (show acc.toList.toArray.size<=sizeLine by simp only [Array.toArray_toList];rw [hacc.1,sizeLine_eq];omega));have e:acc.toList.toArray=acc:=by simp
  rw [e];exact h h' tk acc hk hacc
theorem Qv {prog:Program}{w:World}{A:Around}{E:Value->Shared->Prop}{s:Shared}{r:Addr}{a b c:Int}{t u v:Tok}{n:Nat}{Q:Value->Shared->Prop}(hh:A.handled=none) (hr:IsRange s.heap r a b c t u v) (hsmall:Builtin.Range.small a b c=true)
  (hn:Builtin.Range.rangeSize a b c=n) (hlen:n<=2 ^ 24)
  (h:∀ (h':Heap) (tk:Nat) (acc:Array Value),(∀ b o,s.heap.get? b=some o->h'.get? b=some o)->ItemsOf (fun i v=>∃ t,v=.int (a+i * c) t) acc n->Q (.ref h'.objs.size) { s with heap:=h'.push { cls:=.type "tuple",data:=.seq acc },toks:=tk }) :
  wpAny (model prog w) A (call (.type "tuple") [.ref r]) Q E s:=by
 refine callType_new F.called_tuple (by decide) (F.typeCall_tuple_1 _) (F.newCall_tuple_1 _) (fun obj=>F.args_object_init_2 obj _) F.entry_tuple_new
  (Oz r a b c t u v n hsmall hn hlen) ⟨hh,hr,fun h' tk acc hk hacc=>⟨⟨_,Heap.get?_push_size _ rfl,rfl⟩,h h' tk acc hk hacc⟩⟩
theorem O1 {a:Int}{n:Nat}{acc:Array Value}(h:ItemsOf (fun i v=>∃ t,v=.int (a+i * 1) t) acc n):Vals ((List.range n).map fun (i:Nat)=>V.int (a+(i:Int))) acc.toList:=by
 have key:∀ (m:Nat) (l:List Value) (j:Nat),l.length=m->(∀ (i:Nat) (v:Value),l[i]?=some v->∃ t,v=Value.int (a+((j+i:Nat):Int)) t)->Vals ((List.range' j m).map fun (i:Nat)=>V.int (a+(i:Int))) l:=by
  intro m
  induction m with
  | zero=>intro l j hl _;rw [List.length_eq_zero_iff.mp hl];exact .nil
  | succ m ih =>
   intro l j hl hv
   match l,hl with
   | x::r,hl =>
    rw [List.range'_succ,List.map_cons];refine .cons ?_ (ih r (j+1) (by simpa using hl) fun i v e=>?_)
    ·obtain ⟨t,e⟩:=hv 0 x rfl;exact ⟨t,e⟩
    ·obtain ⟨t,q⟩:=hv (i+1) v (by simpa using e);have e2:j+(i+1)=j+1+i:=by omega
     rw [e2] at q;exact ⟨t,q⟩
 rw [List.range_eq_range'];refine key n acc.toList 0 (by rw [Array.length_toList];exact h.1) fun i v e=>?_
 obtain ⟨t,q⟩:=h.2 i v (by simpa using e);rw [Int.mul_one] at q;rw [Nat.zero_add];exact ⟨t,q⟩
theorem Rn:Dd X (.type "range") (fun xs H Q=>∃ j:Int,xs=[.int j]/\-(2 ^ 62)<=j/\j < 2 ^ 62/\∀ p,H p=none->Q (.ref p) (upd H p (.rng 0 j))):=by
 rintro pins s σ H xs us Q I r ⟨j,e,h1,h2,q⟩;subst e;obtain ⟨u,rfl,ru⟩:=vals1 r;obtain ⟨t,rfl⟩:=ru;exact call_range_1 ⟨.ref s.heap.objs.size,_,I.laid (o:=.rng 0 j) (fun b o e=>Heap.get?_push_of_some _ e) (Nat.le_refl _) ⟨_,_,_,Heap.get?_push_size _ rfl⟩,rfl,q _ (I.hok.fresh (Nat.le_refl _))⟩
theorem Ro {j:Int}(h1:-(2 ^ 62)<=j) (h2:j < 2 ^ 62):Builtin.Range.small 0 j 1=true/\Builtin.Range.rangeSize 0 j 1=(j.toNat:Int):=by
 refine ⟨small_one (by omega) (by omega) h1 h2,?_⟩;rw [rangeSize_one];split <;> omega
theorem S6 (hc:X.calm=true):Dd X (.type "list") (fun xs H Q=>∃ a j,xs=[.ref a]/\H a=some (.rng 0 j)/\-(2 ^ 62)<=j/\j<=1000000/\∀ p,H p=none->Q (.ref p) (upd H p (.lst ((List.range j.toNat).map fun (i:Nat)=>V.int (0+(i:Int)))))):=by
 rintro pins s σ H xs us Q I r ⟨a,j,e,hH,h1,h2,q⟩;subst e;obtain ⟨u,rfl,ru⟩:=vals1 r;cases ru;obtain ⟨t,u,v,hr⟩:=I.hok a _ hH;obtain ⟨f1,f2⟩:=Ro h1 (show j < 2 ^ 62 by omega);refine call_list_range (I.ok.hd hc) hr f1 f2 (by omega) fun h' tk acc c hk hS hacc=>?_
 exact ⟨.ref s.heap.objs.size,_,I.laid (t':=tk) (o:=.lst ((List.range j.toNat).map fun (i:Nat)=>V.int (0+(i:Int)))) hk (Nat.le_refl _) ⟨by simp [sizeLine_eq];omega,acc.toList,c,O1 hacc,by simpa using hS⟩,rfl,q _ (I.hok.fresh (Nat.le_refl _))⟩
theorem Qw (hc:X.calm=true):Dd X (.type "tuple") (fun xs H Q=>∃ a j,xs=[.ref a]/\H a=some (.rng 0 j)/\-(2 ^ 62)<=j/\j<=1000000/\∀ p,H p=none->Q (.ref p) (upd H p (.tup ((List.range j.toNat).map fun (i:Nat)=>V.int (0+(i:Int)))))):=by
 rintro pins s σ H xs us Q I r ⟨a,j,e,hH,h1,h2,q⟩;subst e;obtain ⟨u,rfl,ru⟩:=vals1 r;cases ru;obtain ⟨t,u,v,hr⟩:=I.hok a _ hH;obtain ⟨f1,f2⟩:=Ro h1 (show j < 2 ^ 62 by omega);refine Qv (I.ok.hd hc) hr f1 f2 (by omega) fun h' tk acc hk hacc=>?_
 have I1:Inv X pins σ H { s with heap:=h',toks:=tk }:=I.kept (t':=tk) hk;exact ⟨.ref h'.objs.size,_,I1.laid (t':=tk) (o:=.tup ((List.range j.toNat).map fun (i:Nat)=>V.int (0+(i:Int)))) (fun b o e=>Heap.get?_push_of_some _ e) (Nat.le_refl _) ⟨by simp [sizeLine_eq];omega,acc.toList,O1 hacc,by simpa using Le.new h' acc⟩,rfl,q _ (I1.hok.fresh (Nat.le_refl _))⟩
noncomputable def Fq (x:D) (mh:MH):Option (D×MH):=match x with
 | .int j=>if -(2 ^ 62)<=j/\j<=1000000 then some (.ref mh.length,mh++[.lst (Cd 0 j.toNat)]) else none
 | _=>none
noncomputable def Nr (x:D) (mh:MH):Option (D×MH):=match x with
 | .int j=>if -(2 ^ 62)<=j/\j<=1000000 then some (.tup (Cd 0 j.toNat),mh) else none
 | _=>none
theorem Rp {K:PySem.W.Frag}{H:Hp}{ρ:List Addr}(n:Nat):RDs K H ρ (Cd 0 n) ((List.range n).map fun (i:Nat)=>V.int (0+(i:Int))):=by
 unfold Cd;generalize List.range n=l
 induction l with
 | nil=>exact .nil
 | cons i r ih=>exact .cons (.int _) ih
variable {a:Expr}{ma:DM D}{p p2 pos pos2:Pos}
theorem W4 (hc:X.calm=true) (hg:Gl X "list") (hm:X.mg "list"=none) (hg2:Gl X "range") (hm2:X.mg "range"=none) (ha:DE X a ma) (hs:starEach [a] X.env=(false,eval a X.env)::starEach [] X.env) :
  DE X (.Call (.Name "list" p) [.Call (.Name "range" p2) [a] [] pos2] [] pos) (ma.bnd fun x=>Zl (Fq x)):=fun loc mh =>
 Cm (Hs (S6 hc) hg hm (by decide +kernel) (Ga (Hs Rn hg2 hm2 boot_range (Ga (ha loc mh) Im hs) (by decide) (by decide) hs) Im)) fun σ H Q ⟨ρ,d,mh',q,rl,rs,co⟩=>by
  obtain ⟨x,m1,ea,q⟩:=Be q;refine ⟨ρ,x,m1,ea,rl,rs,fun H1 ρ1 v e1 rs1 r1=>?_⟩;have q:Fq x m1=some (d,mh'):=q;cases r1 with
  | int j =>
   simp only [Fq] at q;split at q
   ·rename_i hl;cases q;exact ⟨j,rfl,hl.1,by omega,fun b hb=>⟨b,j,rfl,Dh,hl.1,hl.2,Co.newL (rs1.new hb) (Rp _) (co.ev (e1.trans (Ev.new hb)))⟩⟩
   ·cases q
  | _=>cases q
theorem bU (hc:X.calm=true) (hg:Gl X "tuple") (hm:X.mg "tuple"=none) (hg2:Gl X "range") (hm2:X.mg "range"=none) (ha:DE X a ma) (hs:starEach [a] X.env=(false,eval a X.env)::starEach [] X.env) :
  DE X (.Call (.Name "tuple" p) [.Call (.Name "range" p2) [a] [] pos2] [] pos) (ma.bnd fun x=>Zl (Nr x)):=fun loc mh =>
 Cm (Hs (Qw hc) hg hm (by decide +kernel) (Ga (Hs Rn hg2 hm2 boot_range (Ga (ha loc mh) Im hs) (by decide) (by decide) hs) Im)) fun σ H Q ⟨ρ,d,mh',q,rl,rs,co⟩=>by
  obtain ⟨x,m1,ea,q⟩:=Be q;refine ⟨ρ,x,m1,ea,rl,rs,fun H1 ρ1 v e1 rs1 r1=>?_⟩;have q:Nr x m1=some (d,mh'):=q;cases r1 with
  | int j =>
   simp only [Nr] at q;split at q
   ·rename_i hl;cases q;exact ⟨j,rfl,hl.1,by omega,fun b hb=>⟨b,j,rfl,Dh,hl.1,hl.2,Co.newT (rs1.new hb) (Rp _) (co.ev (e1.trans (Ev.new hb)))⟩⟩
   ·cases q
  | _=>cases q
end
end DL
namespace DL
open PySem PySem.Spec PyProof.Rows L2 PySem.W
section
variable {prog:Program}{w:World}{A:Around}{E:Value->Shared->Prop}{κ:SortKind}{it:Array Keyed}{s:Shared}
end
noncomputable def TI (h:Heap) (v:Value) (ns:List Int):Prop:=∃ (a:Addr) (o:Obj) (its:List Value) (n:Nat),v=.ref a/\h.get? a=some o/\o.cls=.type "tuple"/\o.data=.seq its.toArray n/\IntsAre its ns
inductive TIs (h:Heap):List Value->List (List Int)->Prop
 | nil:TIs h [] []
 | cons {v:Value} {n:Int} {ns:List Int} {vs:List Value} {ts:List (List Int)}:TI h v (n::ns)->TIs h vs ts->TIs h (v::vs) ((n::ns)::ts)
theorem TIs.grow {h h':Heap}(k:∀ b o,h.get? b=some o->h'.get? b=some o):∀ {vs:List Value}{ts:List (List Int)},TIs h vs ts->TIs h' vs ts
 | _,_,.nil=>.nil
 | _,_,.cons ⟨a,o,its,n,e1,e2,e3⟩ t=>.cons ⟨a,o,its,n,e1,k _ _ e2,e3⟩ (t.grow k)
theorem TIs.tups {h:Heap}:∀ {vs:List Value}{ts:List (List Int)},TIs h vs ts->∃ fs,KatTups h vs fs/\fs.length=vs.length/\∀ v∈fs,∃ n t,v=Value.int n t
 | _,_,.nil=>⟨[],KatTups.nil,rfl,fun v hv=>by cases hv⟩
 | _,_,.cons ⟨a,o,its,n,e1,e2,e3,e4,e5⟩ t=>by
  obtain ⟨fs,k,l,f⟩:=t.tups;subst e1;cases e5 with
  | cons _ t0 r=>exact ⟨_::fs,KatTups.cons e2 e3 e4 rfl k,by simp [l],fun v hv=>by
    rcases List.mem_cons.mp hv with rfl|hv
    ·exact ⟨_,_,rfl⟩
    ·exact f v hv⟩
theorem TIs.at {h:Heap}:∀ {vs:List Value}{ts:List (List Int)}(k:Nat),TIs h vs ts->k < vs.length->∃ ns,ts[k]?=some ns/\TI h (vs.getD k Value.none) ns
 | _,_,_,.nil,hk=>by simp at hk
 | _,_,0,.cons e t,_=>⟨_,rfl,e⟩
 | _,_,k+1,.cons e t,hk=>by
  obtain ⟨ns,a1,a2⟩:=TIs.at k t (by simpa using hk);exact ⟨ns,by simpa using a1,by simpa using a2⟩
section
variable {prog:Program}{w:World}{A:Around}{E:Value->Shared->Prop}{s:Shared}
end
section
variable {X:Cx}
end
end DL
namespace DL
open PySem PySem.Spec PyProof.Rows L2
structure ZNe (z TI TO i1 i2:Addr):Prop where
 TIz:TI≠z
 TOz:TO≠z
 i1z:i1≠z
 i2z:i2≠z
 TITO:TI≠TO
 TIi1:TI≠i1
 TIi2:TI≠i2
 TOi1:TO≠i1
 TOi2:TO≠i2
 i12:i1≠i2
section
variable {prog:Program}{w:World}{A:Around}{E:Value->Shared->Prop}{s:Shared}
theorem bV (k1 k2:SeqK) {z TI TO i1 i2 l1 l2:Addr}{i:Nat}{xs ys:Array Value}{x y a b:Value}{Q:Value->Shared->Prop}(D:ZNe z TI TO i1 i2) (l1z:l1≠z) (l1TO:l1≠TO) (l1i1:l1≠i1) (l2z:l2≠z) (l2TO:l2≠TO) (l2i1:l2≠i1)
  (hz:IsZip s.heap z TI TO .none) (hTI:IsPair s.heap TI (.ref i1) (.ref i2)) (hTO:IsPair s.heap TO a b) (h1:k1.isIt s.heap i1 l1 i) (h2:k2.isIt s.heap i2 l2 i) (hl1:k1.isSeq s.heap l1 xs) (hl2:k2.isSeq s.heap l2 ys) (hx:xs[i]?=some x) (hy:ys[i]?=some y)
  (hQ:∀ h',IsZip h' z TI TO (rawInt s.heap.objs.size)->IsPair h' TO x y->k1.isIt h' i1 l1 (i+1)->k2.isIt h' i2 l2 (i+1)->IsPair h' s.heap.objs.size x y->h'.objs.size=s.heap.objs.size+1 ->
   (∀ c o,c≠z->c≠TO->c≠i1->c≠i2->s.heap.get? c=some o->h'.get? c=some o)->Q (.ref s.heap.objs.size) { s with heap:=h' }) :
  wpAny (model prog w) A (Builtin.«zip.__next__» ⟨[.ref z],[]⟩) (fun fin s'=>∃ v,fin=.done (.ret v)/\Q v s') E s:=by
 show wpAny _ _ (field (.ref z) 2 >>= _) _ _ _;refine wpAny_bind (wpAny_field hz rfl (x:=.bool false) rfl ?_);show wpAny _ _ (field (.ref z) 3 >>= _) _ _ _;refine wpAny_bind (wpAny_field hz rfl (x:=.ref TI) rfl ?_);refine wpAny_bind (wpAny_seqItems hTI rfl ?_);show wpAny _ _ (Builtin.SmallTypes.ownedTupleIsFree (.ref z) >>= _) _ _ _;refine wpAny_bind ?_;unfold Builtin.SmallTypes.ownedTupleIsFree;refine wpAny_bind (wpAny_field hz rfl (x:=.none) rfl (wpAny_pure ?_));simp only [if_true];refine wpAny_bind (wpAny_rule ?_);refine wpAny_bind (wpAny_field hz rfl (x:=.ref TO) rfl ?_);refine wpAny_bind (wpAny_setField_rec hz (by simp) fun h₁ hz₁ hs₁=>?_);replace hz₁:IsZip h₁ z TI TO .ellipsis:=hz₁;refine wpAny_bind ?_;simp only [List.zipIdx_cons,List.zipIdx_nil,List.forIn_cons,List.forIn_nil];refine wpAny_bind (wpAny_bind (wpAny_onRaise ?_));show wpAny _ _ (Builtin.SmallTypes.nextOf (.ref i1) >>= _) _ _ _;refine wpAny_bind (k1.next (k1.itK h1 fun o e=>hs₁.extBut _ _ D.i1z e) (k1.seqK hl1 fun o e=>hs₁.extBut _ _ l1z e) hx fun h₂ h1₂ hs₂=>wpAny_pure ?_);have hTO₂:IsPair h₂ TO a b:=hs₂.extBut _ _ D.TOi1 (hs₁.extBut _ _ D.TOz hTO);refine wpAny_bind (wpAny_seqItems hTO₂ rfl ?_);refine wpAny_bind (wpAny_updateSeq_pair hTO₂ fun h₃ hTO₃ hs₃=>?_)
 replace hTO₃:IsPair h₃ TO x b:=hTO₃
 refine wpAny_bind (wpAny_letGo (wpAny_pure ?_));refine wpAny_bind (wpAny_bind (wpAny_onRaise ?_));show wpAny _ _ (Builtin.SmallTypes.nextOf (.ref i2) >>= _) _ _ _;refine wpAny_bind (k2.next (k2.itK h2 fun o e=>hs₃.extBut _ _ D.TOi2.symm (hs₂.extBut _ _ D.i12.symm (hs₁.extBut _ _ D.i2z e))) (k2.seqK hl2 fun o e=>hs₃.extBut _ _ l2TO (hs₂.extBut _ _ l2i1 (hs₁.extBut _ _ l2z e))) hy fun h₄ h2₄ hs₄=>wpAny_pure ?_);have hTO₄:IsPair h₄ TO x b:=hs₄.extBut _ _ D.TOi2 hTO₃;refine wpAny_bind (wpAny_seqItems hTO₄ rfl ?_);refine wpAny_bind (wpAny_updateSeq_pair hTO₄ fun h₅ hTO₅ hs₅=>?_)
 replace hTO₅:IsPair h₅ TO x y:=hTO₅
 refine wpAny_bind (wpAny_letGo (wpAny_pure (wpAny_pure ?_)));refine wpAny_bind (wpAny_seqItems hTO₅ rfl ?_);refine wpAny_bind (wpAny_newTuple ?_);have hsz:h₅.objs.size=s.heap.objs.size:=by rw [hs₅.1,hs₄.1,hs₃.1,hs₂.1,hs₁.1]
 have hz₅:IsZip h₅ z TI TO .ellipsis:=hs₅.extBut _ _ D.TOz.symm (hs₄.extBut _ _ D.i2z.symm (hs₃.extBut _ _ D.TOz.symm (hs₂.extBut _ _ D.i1z.symm hz₁)));have hk₅:∀ c o,c≠z->c≠TO->c≠i1->c≠i2->s.heap.get? c=some o->h₅.get? c=some o:=fun c o c1 c2 c3 c4 e=>hs₅.extBut _ _ c2 (hs₄.extBut _ _ c4 (hs₃.extBut _ _ c2 (hs₂.extBut _ _ c3 (hs₁.extBut _ _ c1 e))))
 have h1₅:k1.isIt h₅ i1 l1 (i+1):=k1.itK h1₂ fun o e=>hs₅.extBut _ _ D.TOi1.symm (hs₄.extBut _ _ D.i12 (hs₃.extBut _ _ D.TOi1.symm e))
 have h2₅:k2.isIt h₅ i2 l2 (i+1):=k2.itK h2₄ fun o e=>hs₅.extBut _ _ D.TOi2.symm e
 have hzlt:z < h₅.objs.size:=Heap.lt_size hz₅;show wpAny _ _ (Builtin.SmallTypes.ownedTupleHandOut (.ref z) (.ref h₅.objs.size) >>= _) _ _ _;refine wpAny_bind ?_;unfold Builtin.SmallTypes.ownedTupleHandOut
 have hz₆:IsZip (h₅.push { cls:=.type "tuple",data:=.seq #[x,y] }) z TI TO .ellipsis:=Heap.get?_push_of_some _ hz₅;refine wpAny_bind (wpAny_setField_rec hz₆ (by simp) fun h₇ hz₇ hs₇=>?_);replace hz₇:IsZip h₇ z TI TO (rawInt h₅.objs.size):=hz₇;refine wpAny_setField_rec hz₇ (by simp) fun h₈ hz₈ hs₈=>?_;replace hz₈:IsZip h₈ z TI TO (rawInt h₅.objs.size):=hz₈
 have up:∀ c o,c≠z->h₅.get? c=some o->h₈.get? c=some o:=fun c o c1 e=>hs₈.extBut _ _ c1 (hs₇.extBut _ _ c1 (Heap.get?_push_of_some _ e))
 have hT₈:IsPair h₈ h₅.objs.size x y:=hs₈.extBut _ _ (Nat.ne_of_gt hzlt) (hs₇.extBut _ _ (Nat.ne_of_gt hzlt) (Heap.get?_push_size _ rfl));have hz8:h₈.objs.size=h₅.objs.size+1:=by rw [hs₈.1,hs₇.1,Heap.size_push]
 rw [hsz] at hz₈ hT₈ hz8;refine wpAny_pure ⟨_,rfl,?_⟩;show Q (.ref h₅.objs.size) _;rw [hsz];exact hQ h₈ hz₈ (up _ _ D.TOz hTO₅) (k1.itK h1₅ fun o e=>up _ o D.i1z e) (k2.itK h2₅ fun o e=>up _ o D.i2z e) hT₈ hz8 fun c o c1 c2 c3 c4 e=>up c o c1 (hk₅ c o c1 c2 c3 c4 e)
theorem bW (k1 k2:SeqK) {z TI TO i1 i2 l1 l2:Addr}{i:Nat}{xs ys:Array Value}{a b:Value}{Q:Fin->Shared->Prop}(hh:A.handled=none) (D:ZNe z TI TO i1 i2) (l1z:l1≠z) (l2z:l2≠z) (l2TO:l2≠TO) (l2i1:l2≠i1)
  (hz:IsZip s.heap z TI TO .none) (hTI:IsPair s.heap TI (.ref i1) (.ref i2)) (hTO:IsPair s.heap TO a b) (h1:k1.isIt s.heap i1 l1 i) (h2:k2.isIt s.heap i2 l2 i) (hl1:k1.isSeq s.heap l1 xs) (hl2:k2.isSeq s.heap l2 ys) (hend:xs[i]?=none\/ys[i]?=none)
  (hE:∀ h' e,(∀ c o,c≠z->c≠TO->c≠i1->c≠i2->s.heap.get? c=some o->h'.get? c=some o)->(∃ o,h'.get? e=some o/\o.cls=.type "StopIteration")->E (.ref e) { s with heap:=h' }) :
  wpAny (model prog w) A (Builtin.«zip.__next__» ⟨[.ref z],[]⟩) Q E s:=by
 show wpAny _ _ (field (.ref z) 2 >>= _) _ _ _;refine wpAny_bind (wpAny_field hz rfl (x:=.bool false) rfl ?_);show wpAny _ _ (field (.ref z) 3 >>= _) _ _ _;refine wpAny_bind (wpAny_field hz rfl (x:=.ref TI) rfl ?_);refine wpAny_bind (wpAny_seqItems hTI rfl ?_);show wpAny _ _ (Builtin.SmallTypes.ownedTupleIsFree (.ref z) >>= _) _ _ _;refine wpAny_bind ?_;unfold Builtin.SmallTypes.ownedTupleIsFree;refine wpAny_bind (wpAny_field hz rfl (x:=.none) rfl (wpAny_pure ?_));simp only [if_true];refine wpAny_bind (wpAny_rule ?_);refine wpAny_bind (wpAny_field hz rfl (x:=.ref TO) rfl ?_);refine wpAny_bind (wpAny_setField_rec hz (by simp) fun h₁ hz₁ hs₁=>?_);replace hz₁:IsZip h₁ z TI TO .ellipsis:=hz₁;refine wpAny_bind ?_;simp only [List.zipIdx_cons,List.zipIdx_nil,List.forIn_cons,List.forIn_nil];refine wpAny_bind (wpAny_bind (wpAny_onRaise ?_));show wpAny _ _ (Builtin.SmallTypes.nextOf (.ref i1) >>= _) _ _ _;cases hx:xs[i]? with
 | none =>
  refine wpAny_bind (k1.stop hh (k1.itK h1 fun o e=>hs₁.extBut _ _ D.i1z e) (k1.seqK hl1 fun o e=>hs₁.extBut _ _ l1z e) hx fun h₂ e hs₂ he=>?_);obtain ⟨oe,hoe,hce⟩:=he;have hz₂:IsZip h₂ z TI TO .ellipsis:=hs₂ _ _ D.i1z.symm hz₁;have hez:e≠z:=fun x=>by subst x;rw [hz₂] at hoe;cases hoe;simp at hce
  exact wpAny_setField_rec hz₂ (by simp) fun h₃ _ hs₃=>hE h₃ e (fun c o c1 _ c3 _ x=>hs₃.extBut _ _ c1 (hs₂ _ _ c3 (hs₁.extBut _ _ c1 x))) ⟨oe,hs₃.extBut _ _ hez hoe,hce⟩
 | some x =>
  have hy:ys[i]?=none:=by rcases hend with h|h;rw [hx] at h;cases h;exact h
  refine wpAny_bind (k1.next (k1.itK h1 fun o e=>hs₁.extBut _ _ D.i1z e) (k1.seqK hl1 fun o e=>hs₁.extBut _ _ l1z e) hx fun h₂ h1₂ hs₂=>wpAny_pure ?_);have hTO₂:IsPair h₂ TO a b:=hs₂.extBut _ _ D.TOi1 (hs₁.extBut _ _ D.TOz hTO);refine wpAny_bind (wpAny_seqItems hTO₂ rfl ?_);refine wpAny_bind (wpAny_updateSeq_pair hTO₂ fun h₃ hTO₃ hs₃=>?_);refine wpAny_bind (wpAny_letGo (wpAny_pure ?_));refine wpAny_bind (wpAny_bind (wpAny_onRaise ?_));show wpAny _ _ (Builtin.SmallTypes.nextOf (.ref i2) >>= _) _ _ _;refine wpAny_bind (k2.stop hh (k2.itK h2 fun o e=>hs₃.extBut _ _ D.TOi2.symm (hs₂.extBut _ _ D.i12.symm (hs₁.extBut _ _ D.i2z e))) (k2.seqK hl2 fun o e=>hs₃.extBut _ _ l2TO (hs₂.extBut _ _ l2i1 (hs₁.extBut _ _ l2z e))) hy fun h₄ e hs₄ he=>?_);obtain ⟨oe,hoe,hce⟩:=he;have hz₄:IsZip h₄ z TI TO .ellipsis:=hs₄ _ _ D.i2z.symm (hs₃.extBut _ _ D.TOz.symm (hs₂.extBut _ _ D.i1z.symm hz₁));have hez:e≠z:=fun x=>by subst x;rw [hz₄] at hoe;cases hoe;simp at hce
  exact wpAny_setField_rec hz₄ (by simp) fun h₅ _ hs₅=>hE h₅ e (fun c o c1 c2 c3 c4 x=>hs₅.extBut _ _ c1 (hs₄ _ _ c4 (hs₃.extBut _ _ c2 (hs₂.extBut _ _ c3 (hs₁.extBut _ _ c1 x))))) ⟨oe,hs₅.extBut _ _ hez hoe,hce⟩
end
noncomputable def Itz (k1 k2:SeqK) (K:PySem.W.Frag) (l1 l2:Addr):It :=
  ⟨fun i H=>∃ xs ys x y,k1.sq K H l1 xs/\k2.sq K H l2 ys/\xs[i]?=some x/\ys[i]?=some y,
   fun i H v H'=>∃ T x y,H T=none/\v=.ref T/\(∀ xs,k1.sq K H l1 xs->xs[i]?=some x)/\(∀ ys,k2.sq K H l2 ys->ys[i]?=some y)/\H'=upd H T (.tup [x,y]),
   fun i H=>∃ xs ys,k1.sq K H l1 xs/\k2.sq K H l2 ys/\(xs.length<=i\/ys.length<=i)⟩
theorem iM {P:Program}{w:World}{K:PySem.W.Frag}(k1 k2:SeqK) {elts:List Expr}{kk:Nat}{tp:Pos}(l1 l2 z TI TO i1 i2:Addr) (D:ZNe z TI TO i1 i2) :
  Turn P w K (.Tuple elts kk tp) (Itz k1 k2 K l1 l2) [z,TI,TO,i1,i2] z (fun i h=>IsZip h z TI TO .none/\IsPair h TI (.ref i1) (.ref i2)/\(∃ a b,IsPair h TO a b)/\k1.isIt h i1 l1 i/\k2.isIt h i2 l2 i) where
 mem:=by simp
 obj:=fun i h st b hb=>by
  obtain ⟨hz,hTI,⟨a,c,hTO⟩,h1,h2⟩:=st;have hb:b=z\/b=TI\/b=TO\/b=i1\/b=i2:=by simpa using hb
  rcases hb with rfl|rfl|rfl|rfl|rfl
  ·exact ⟨_,hz,fun v q=>by have q':Data.fields _=Data.cell v:=q;cases q'⟩
  ·exact ⟨_,hTI,fun v q=>by have q':Data.seq _ _=Data.cell v:=q;cases q'⟩
  ·exact ⟨_,hTO,fun v q=>by have q':Data.seq _ _=Data.cell v:=q;cases q'⟩
  ·obtain ⟨o,q,c,vs,d⟩:=k1.itO h1;exact ⟨o,q,fun v z=>by rw [d] at z;cases z⟩
  ·obtain ⟨o,q,c,vs,d⟩:=k2.itO h2;exact ⟨o,q,fun v z=>by rw [d] at z;cases z⟩
 keep:=fun i h h' st kp=>by
  obtain ⟨hz,hTI,⟨a,c,hTO⟩,h1,h2⟩:=st;exact ⟨kp z (by simp) _ hz,kp TI (by simp) _ hTI,⟨a,c,kp TO (by simp) _ hTO⟩,k1.itK h1 fun o q=>kp i1 (by simp) o q,k2.itK h2 fun o q=>kp i2 (by simp) o q⟩
 item:=by
  intro X hP hw hK hc i pins s σ H E I hf st hg;subst hP hw hK;obtain ⟨xs,ys,x,y,hq1,hq2,hx,hy⟩:=hg;obtain ⟨its1,rv1,p1,hz1⟩:=k1.get I hq1;obtain ⟨its2,rv2,p2,hz2⟩:=k2.get I hq2;obtain ⟨u1,hu1,ru1⟩:=rv1.get hx;obtain ⟨u2,hu2,ru2⟩:=rv2.get hy;obtain ⟨hz,hTI,⟨a,c,hTO⟩,h1,h2⟩:=st;have fz:=hf z (by simp);have fTO:=hf TO (by simp);have f1:=hf i1 (by simp)
  have hT:s.TypeIs (.ref z) "zip":=⟨_,hz,rfl⟩
  unfold pyNext
  refine wpAny_bind (wpAny_attempt (wpAny_callSpecial?_slot (name:=Str.ofString "__next__") hT F.slot_zip_next (wpAny_call_entry F.slot_zip_next hT F.entry_zip_next
   (bV k1 k2 (i:=i) D (k1.ne I hq1 fz) (k1.ne I hq1 fTO) (k1.ne I hq1 f1) (k2.ne I hq2 fz) (k2.ne I hq2 fTO) (k2.ne I hq2 f1) hz hTI hTO h1 h2 p1 p2 (x:=u1) (y:=u2) (by simpa using hu1) (by simpa using hu2) fun h' a1 a2 a3 a4 a5 a6 hk=>wpAny_pure ?_) (F.args_zip_next_1 _))))
  refine ⟨_,rfl,wpAny_letOwnedTupleGo_zip a1 fun h2' hz' hs'=>?_⟩;have zlt:z < s.heap.objs.size:=Heap.lt_size hz;have hT2:Le h2' s.heap.objs.size #[u1,u2]:=⟨_,hs'.extBut _ _ (Nat.ne_of_gt zlt) a5,rfl,rfl,_,rfl⟩;have nb:∀ b,b ∉ [z,TI,TO,i1,i2]->b≠z/\b≠TO/\b≠i1/\b≠i2:=fun b hb=>by simp at hb;exact ⟨hb.1,hb.2.2.1,hb.2.2.2.1,hb.2.2.2.2⟩
  have I2:Inv X pins σ (upd H s.heap.objs.size (.tup [x,y])) { s with heap:=h2' }:=Jr (t':=s.toks) (fp:=[z,TI,TO,i1,i2]) I (fun b o hb q=>hs'.extBut b o (nb b hb).1 (hk b o (nb b hb).1 (nb b hb).2.1 (nb b hb).2.2.1 (nb b hb).2.2.2 q)) hf (Nat.le_refl _) ⟨by simp [sizeLine_eq],[u1,u2],.cons ru1 (.cons ru2 .nil),hT2⟩;refine ⟨.ref s.heap.objs.size,_,I2,rfl,⟨s.heap.objs.size,x,y,I.hok.fresh (Nat.le_refl _),rfl,fun zs q=>by rw [k1.inj I q hq1];exact hx,fun zs q=>by rw [k2.inj I q hq2];exact hy,rfl⟩,⟨hz',hs'.extBut _ _ D.TIz (hk _ _ D.TIz D.TITO D.TIi1 D.TIi2 hTI),⟨_,_,hs'.extBut _ _ D.TOz a2⟩,k1.itK a3 fun o q=>hs'.extBut _ _ D.i1z q,k2.itK a4 fun o q=>hs'.extBut _ _ D.i2z q⟩,fun b hb=>?_⟩;rw [Bg ?_]
  ·exact (hf b hb).1
  ·intro q;have hb:b=z\/b=TI\/b=TO\/b=i1\/b=i2:=by simpa using hb
   have lt:b < s.heap.objs.size:=by
    rcases hb with e|e|e|e|e
    ·rw [e];exact zlt
    ·rw [e];exact Heap.lt_size hTI
    ·rw [e];exact Heap.lt_size hTO
    ·obtain ⟨o,q,_⟩:=k1.itO h1;rw [e];exact Heap.lt_size q
    ·obtain ⟨o,q,_⟩:=k2.itO h2;rw [e];exact Heap.lt_size q
   exact absurd q (Nat.ne_of_lt lt)
 done:=by
  intro X hP hw hK hc i pins s σ H E I hf st hg;subst hP hw hK;obtain ⟨xs,ys,hq1,hq2,hx⟩:=hg;obtain ⟨its1,rv1,p1,hz1⟩:=k1.get I hq1;obtain ⟨its2,rv2,p2,hz2⟩:=k2.get I hq2;obtain ⟨hz,hTI,⟨a,c,hTO⟩,h1,h2⟩:=st;have fz:=hf z (by simp);have fTO:=hf TO (by simp);have f1:=hf i1 (by simp)
  have hT:s.TypeIs (.ref z) "zip":=⟨_,hz,rfl⟩
  have e1:=rv1.length;have e2:=rv2.length;unfold pyNext
  refine wpAny_bind (wpAny_attempt (wpAny_callSpecial?_slot (name:=Str.ofString "__next__") hT F.slot_zip_next (wpAny_call_entry F.slot_zip_next hT F.entry_zip_next
   (bW k1 k2 (i:=i) (A:=X.A.in1) (I.ok.hd hc) D (k1.ne I hq1 fz) (k2.ne I hq2 fz) (k2.ne I hq2 fTO) (k2.ne I hq2 f1) hz hTI hTO h1 h2 p1 p2 ?_ fun h' e hk he=>?_) (F.args_zip_next_1 _))))
  ·rcases hx with q|q
   ·exact .inl (by simp;omega)
   ·exact .inr (by simp;omega)
  ·obtain ⟨o,ho,hcl⟩:=he
   refine wpAny_bind (wpAny_isInstance (T := "StopIteration") (b:=true) ⟨o,ho,hcl⟩ isSubtype_stop (wpAny_pure ⟨rfl,?_⟩))
   exact Rk (t':=s.toks) (fp:=[z,TI,TO,i1,i2]) I (fun b o hb q=>by
    simp at hb
    exact hk b o hb.1 hb.2.2.1 hb.2.2.2.1 hb.2.2.2.2 q) hf
 self:=fun _ i s Q E st h=>wpAny_pyIter_zip st.1 h
noncomputable abbrev zK1 (k1:SeqK) (h:Heap) (l1:Addr):Heap:=h.push { cls:=.type k1.cls,data:=.fields #[.ref l1,.int 0 0] }
noncomputable abbrev zK2 (k1 k2:SeqK) (h:Heap) (l1 l2:Addr):Heap:=(zK1 k1 h l1).push { cls:=.type k2.cls,data:=.fields #[.ref l2,.int 0 0] }
noncomputable abbrev zK3 (k1 k2:SeqK) (h:Heap) (l1 l2:Addr):Heap:=(zK2 k1 k2 h l1 l2).push { cls:=.type "tuple",data:=.seq #[.ref h.objs.size,.ref (zK1 k1 h l1).objs.size] }
noncomputable abbrev zK4 (k1 k2:SeqK) (h:Heap) (l1 l2:Addr):Heap:=(zK3 k1 k2 h l1 l2).push { cls:=.type "tuple",data:=.seq #[.none,.none] }
noncomputable abbrev zK5 (k1 k2:SeqK) (h:Heap) (l1 l2:Addr):Heap:=(zK4 k1 k2 h l1 l2).push { cls:=.type "zip",data:=.fields #[.none,.bool false,.bool false,.ref (zK2 k1 k2 h l1 l2).objs.size,.ref (zK3 k1 k2 h l1 l2).objs.size] }
theorem W5 (k1 k2:SeqK) (l1 l2:Addr) (xs ys:Array Value) :
  Meets (Builtin.«zip.__new__» ⟨[.type "zip",.ref l1,.ref l2],[]⟩) (fun _ R s=>k1.isSeq s.heap l1 xs/\k2.isSeq s.heap l2 ys /\
   R (.ok (.ret (.ref (zK4 k1 k2 s.heap l1 l2).objs.size))) { s with heap:=zK5 k1 k2 s.heap l1 l2 }) :=
 .of_wp fun prog w A R s h=>by
  obtain ⟨hp,g,d,tk,os⟩:=s;obtain ⟨hl1,hl2,h⟩:=h;have hsub:=sub_zip;have hL1:k1.isSeq (Shared.heap ⟨hp,g,d,tk,os⟩) l1 xs:=hl1;have hL2:k2.isSeq (Shared.heap ⟨hp.push { cls:=.type k1.cls,data:=.fields #[.ref l1,.int 0 0] },g,d,tk,os⟩) l2 ys:=k2.seqK hl2 fun o e=>Heap.get?_push_of_some _ e
  wp_walk using k1.iter hL1,k2.iter hL2
  exact ⟨_,rfl,h⟩
section
variable {prog:Program}{w:World}{A:Around}{E:Value->Shared->Prop}{s:Shared}
theorem bY (k1 k2:SeqK) {l1 l2:Addr}{xs ys:Array Value}{Q:Value->Shared->Prop}(hl1:k1.isSeq s.heap l1 xs) (hl2:k2.isSeq s.heap l2 ys)
  (h:∀ h',IsZip h' (s.heap.objs.size+4) (s.heap.objs.size+2) (s.heap.objs.size+3) .none->IsPair h' (s.heap.objs.size+2) (.ref s.heap.objs.size) (.ref (s.heap.objs.size+1)) ->
   IsPair h' (s.heap.objs.size+3) .none .none->k1.isIt h' s.heap.objs.size l1 0->k2.isIt h' (s.heap.objs.size+1) l2 0->h'.objs.size=s.heap.objs.size+5 ->
   (∀ c o,s.heap.get? c=some o->h'.get? c=some o)->Q (.ref (s.heap.objs.size+4)) { s with heap:=h' }) :
  wpAny (model prog w) A (call (.type "zip") [.ref l1,.ref l2]) Q E s:=by
 refine callType_new F.called_zip (by decide) (F.typeCall_zip_2 _ _) (F.newCall_zip_2 _ _) (fun obj=>F.args_object_init_3 obj _ _) F.entry_zip_new
  (W5 k1 k2 l1 l2 xs ys) ⟨hl1,hl2,?_⟩
 have z1:(zK1 k1 s.heap l1).objs.size=s.heap.objs.size+1:=Heap.size_push ..;have z2:(zK2 k1 k2 s.heap l1 l2).objs.size=s.heap.objs.size+2:=by rw [Heap.size_push,z1]
 have z3:(zK3 k1 k2 s.heap l1 l2).objs.size=s.heap.objs.size+3:=by rw [Heap.size_push,z2]
 have z4:(zK4 k1 k2 s.heap l1 l2).objs.size=s.heap.objs.size+4:=by rw [Heap.size_push,z3]
 have z5:(zK5 k1 k2 s.heap l1 l2).objs.size=s.heap.objs.size+5:=by rw [Heap.size_push,z4]
 have g5:(zK5 k1 k2 s.heap l1 l2).get? (zK4 k1 k2 s.heap l1 l2).objs.size=some _:=Heap.get?_push_size _ rfl;have g4:(zK5 k1 k2 s.heap l1 l2).get? (zK3 k1 k2 s.heap l1 l2).objs.size=some _:=Heap.get?_push_of_some _ (Heap.get?_push_size _ rfl);have g3:(zK5 k1 k2 s.heap l1 l2).get? (zK2 k1 k2 s.heap l1 l2).objs.size=some _:=Heap.get?_push_of_some _ (Heap.get?_push_of_some _ (Heap.get?_push_size _ rfl));have g2:(zK5 k1 k2 s.heap l1 l2).get? (zK1 k1 s.heap l1).objs.size=some _:=Heap.get?_push_of_some _ (Heap.get?_push_of_some _ (Heap.get?_push_of_some _ (Heap.get?_push_size _ rfl)));have g1:(zK5 k1 k2 s.heap l1 l2).get? s.heap.objs.size=some _:=Heap.get?_push_of_some _ (Heap.get?_push_of_some _ (Heap.get?_push_of_some _ (Heap.get?_push_of_some _ (Heap.get?_push_size _ rfl))));show _/\_;rw [z2,z3,z4] at g5;rw [z1,z2] at g3;rw [z3] at g4;rw [z1] at g2;rw [z4]
 exact ⟨⟨_,g5,rfl⟩,h _ g5 g3 g4 (k1.itK (k1.new s.heap l1) fun o e=>Heap.get?_push_of_some _ (Heap.get?_push_of_some _ (Heap.get?_push_of_some _ (Heap.get?_push_of_some _ e)))) (by
  have:=k2.itK (h':=zK5 k1 k2 s.heap l1 l2) (k2.new (zK1 k1 s.heap l1) l2) fun o e=>Heap.get?_push_of_some _ (Heap.get?_push_of_some _ (Heap.get?_push_of_some _ e))
  rw [z1] at this
  exact this) z5 fun c o x =>
  Heap.get?_push_of_some _ (Heap.get?_push_of_some _ (Heap.get?_push_of_some _ (Heap.get?_push_of_some _ (Heap.get?_push_of_some _ x))))⟩
end
noncomputable def uP:List D->MH->Option (Src×MH)
 | [x,y],mh=>match srcOf x mh,srcOf y mh with
  | some s,some t=>some (.zip s t,mh)
  | _,_=>none
 | _,_=>none
noncomputable def U9 (mr:DM (List D)):DM Src:=mr.bnd fun ds=>fun _ mh=>uP ds mh
theorem iQ {K:PySem.W.Frag}{H:Hp}{ρ:List Addr}{mh:MH}{x:D}{v:V}{s:Src}(rs:RS K H ρ mh) (r:RD K H ρ x v) (e:srcOf x mh=some s):∃ (k:SeqK) (a:Addr) (xs:List V),v=.ref a/\SR k K H ρ s a/\k.sq K H a xs:=by
 cases x with
 | tup ds =>
  cases e;cases r with
  | tup sq r=>exact ⟨Aaz,_,_,rfl,SR.tup sq r,sq⟩
 | ref n =>
  cases eo:mh[n]? with
  | none=>simp only [srcOf,eo] at e;cases e
  | some ob =>
   cases ob with
   | dct kvs=>simp only [srcOf,eo] at e;cases e
   | lst o =>
   simp only [srcOf,eo] at e;cases e;cases r with
   | @ref _ a' h =>
    obtain ⟨a2,ha2,ro⟩:=rs.at eo;rw [h] at ha2;cases ha2;obtain ⟨xs,sq,r⟩:=ro.read;exact ⟨bO,_,xs,rfl,SR.lst h,sq⟩
 | rol ds =>
  cases e;cases r with
  | rol sq r=>exact ⟨bO,_,_,rfl,SR.rol sq r,sq.sq⟩
 | non=>cases e
 | bl b=>cases e
 | int i=>cases e
 | str z=>cases e
 | obj c ks ds=>cases e
 | fn x=>cases e
theorem JR.zip {k1 k2:SeqK}{K:PySem.W.Frag}{H0:Hp}{ρ0:List Addr}{s1 s2:Src}{a1 a2:Addr}(S1:SR k1 K H0 ρ0 s1 a1) (S2:SR k2 K H0 ρ0 s2 a2):JR K H0 ρ0 (.zip s1 s2) (Itz k1 k2 K a1 a2) where
 go:=fun H ρ mh i d e rs q=>by
  have q:(List.zipWith (fun a b=>D.tup [a,b]) (s1.items mh) (s2.items mh))[i]?=some d:=q;rw [List.getElem?_zipWith] at q;cases e1:(s1.items mh)[i]? with
  | none=>rw [e1] at q;simp at q
  | some d1 =>
   cases e2:(s2.items mh)[i]? with
   | none=>rw [e1,e2] at q;simp at q
   | some d2 =>
    rw [e1,e2] at q;cases q;obtain ⟨xs,sq,r⟩:=S1.rd H ρ mh e rs (S1.ok mh i d1 e1);obtain ⟨ys,sq2,r2⟩:=S2.rd H ρ mh e rs (S2.ok mh i d2 e2);obtain ⟨v,ev,rv⟩:=r.get e1;obtain ⟨u,eu,ru⟩:=r2.get e2;refine ⟨⟨xs,ys,v,u,sq,sq2,ev,eu⟩,?_⟩;rintro x H' ⟨T,x',y',hT,h1,h2,h3,h4⟩;subst h1;subst h4;have t1:=h2 xs sq;rw [ev] at t1;cases t1;have t2:=h3 ys sq2;rw [eu] at t2;cases t2;exact ⟨Ev.new hT,rs.new hT,.tup (.inl (.inl Dh)) (.cons (rv.mono (Ev.new hT)) (.cons (ru.mono (Ev.new hT)) .nil))⟩
 stop:=fun H ρ mh i e rs q=>by
  have q:((s1.ok mh&&s2.ok mh)&&decide ((List.zipWith (fun a b=>D.tup [a,b]) (s1.items mh) (s2.items mh)).length<=i))=true:=q;rw [Bool.and_eq_true,Bool.and_eq_true,List.length_zipWith] at q;obtain ⟨xs,sq,r⟩:=S1.rd H ρ mh e rs q.1.1;obtain ⟨ys,sq2,r2⟩:=S2.rd H ρ mh e rs q.1.2;have:=of_decide_eq_true q.2;refine ⟨xs,ys,sq,sq2,?_⟩;rw [← r.length,← r2.length];omega
section
variable {X:Cx}
theorem boot_zip:bootBuiltins "zip"=some (.type "zip"):=by decide +kernel
theorem uQ (k1 k2:SeqK) {pins:List (Addr×Obj)}{σ:L2.St}{H:Hp}{s:Shared}{R:It->Hp->Prop}{E:Value->Shared->Prop}{elts:List Expr}{kk:Nat}{tp:Pos}{a b:Addr}{xs ys:List V}(I:Inv X pins σ H s) (hq:k1.sq X.K H a xs) (hq2:k2.sq X.K H b ys) (hR:R (Itz k1 k2 X.K a b) H) :
  wpAny (model X.prog X.w) X.A (call (.type "zip") [.ref a,.ref b]) (fun v s1=>wpAny (model X.prog X.w) X.A (pyIter v) (PIE X pins σ (.Tuple elts kk tp) R) E s1) E s:=by
 obtain ⟨its,rv,p,hz⟩:=k1.get I hq;obtain ⟨its2,rv2,p2,hz2⟩:=k2.get I hq2;refine bY k1 k2 p p2 fun h' g1 g2 g3 g4 g5 hsz hk=>wpAny_pyIter_zip g1 ?_
 have I1:Inv X pins σ H { s with heap:=h' }:=I.kept (t':=s.toks) hk;refine ⟨s.heap.objs.size+4,[s.heap.objs.size+4,s.heap.objs.size+2,s.heap.objs.size+3,s.heap.objs.size,s.heap.objs.size+1],_,Itz k1 k2 X.K a b,H,rfl,I1,iM k1 k2 a b _ _ _ _ _ ?_,⟨g1,g2,⟨_,_,g3⟩,g4,g5⟩,fun c hc=>?_,hR⟩
 ·generalize s.heap.objs.size=N;exact ⟨Nat.ne_of_lt (Nat.lt_succ_of_lt (Nat.lt_succ_self _)),Nat.ne_of_lt (Nat.lt_succ_self _),Nat.ne_of_lt (Nat.lt_add_of_pos_right (by decide)),Nat.ne_of_lt (Nat.add_lt_add_left (by decide) N),Nat.ne_of_lt (Nat.lt_succ_self _),Nat.ne_of_gt (Nat.lt_add_of_pos_right (by decide)),Nat.ne_of_gt (Nat.lt_succ_self _),Nat.ne_of_gt (Nat.lt_add_of_pos_right (by decide)),Nat.ne_of_gt (Nat.add_lt_add_left (by decide) N),Nat.ne_of_lt (Nat.lt_succ_self _)⟩
 ·have hc:c=s.heap.objs.size+4\/c=s.heap.objs.size+2\/c=s.heap.objs.size+3\/c=s.heap.objs.size\/c=s.heap.objs.size+1:=by simpa using hc
  have:s.heap.objs.size<=c:=by
   rcases hc with e | e | e | e | e <;> rw [e]
   ·exact Nat.le_add_right _ _
   ·exact Nat.le_add_right _ _
   ·exact Nat.le_add_right _ _
   ·exact Nat.le_refl _
   ·exact Nat.le_add_right _ _
  exact I.fpOk this (I.hok.fresh this)
theorem Aa1 {a b:Expr}{mr:DM (List D)}{elts:List Expr}{kk:Nat}{tp p pos:Pos}(hg:Gl X "zip") (hm:X.mg "zip"=none) (ha:DA X [a,b] mr) (hs:starEach [a,b] X.env=(false,eval a X.env)::starEach [b] X.env) (hpl:(backTo pos (starEach [b] X.env)).any (·.1)=false) :
  DI X (.Tuple elts kk tp) (.Call (.Name "zip" p) [a,b] [] pos) (U9 mr):=fun loc mh=>by
 cases ea:mr loc mh with
 | none =>
  have:U9 mr loc mh=none:=by unfold U9 DM.bnd;rw [ea]
  rw [this];exact Fo
 | some pr =>
  obtain ⟨ds,m1⟩:=pr;have eq:U9 mr loc mh=uP ds m1:=by unfold U9 DM.bnd;rw [ea]
  rw [eq];rintro pins s σ H R I ⟨ρ,src,mh',q,rl,rs,co⟩;refine Call_ (Jw I hg hm boot_zip (PyProof.Rows.callWith_type1 (thn (ha loc mh pos pins s σ H (fun vs H1=>∃ ρ1,Ev X.K H ρ H1 ρ1/\RS X.K H1 ρ1 m1/\RDs X.K H1 ρ1 ds vs) I ⟨ρ,ds,m1,ea,rl,rs,fun H1 ρ1 v e1 rs1 r1=>⟨ρ1,e1,rs1,r1⟩⟩) ?_) hs hpl));rintro us s1 ⟨vs,H1,I1,r1,q1⟩;obtain ⟨ρ1,e1,rs1,rx⟩:=q1;unfold uP at q;split at q
  ·rename_i x y;cases rx with
   | cons rx ry =>
    cases ry with
    | cons ry rz =>
     cases rz;split at q
     ·rename_i s1' t1' es et;cases q;obtain ⟨k1,a1,xs,rfl,S1,sq1⟩:=iQ rs1 rx es;obtain ⟨k2,a2,ys,rfl,S2,sq2⟩:=iQ rs1 ry et;cases r1 with
      | cons u1 r1 =>
       cases r1 with
       | cons u2 r1 =>
        cases r1;cases u1;cases u2;exact uQ k1 k2 I1 sq1 sq2 (co H1 ρ1 _ e1 rs1 (JR.zip S1 S2))
     ·cases q
  ·cases q
end
section
variable {X:Cx}
end
noncomputable def Yy (T1:String) (f1:D->List D->MH->Option (D×MH)) (T2:String) (f2:D->List D->MH->Option (D×MH)) (mo:DM D) (mr:DM (List D)):DM D:=fun loc mh=>match mo loc mh with
 | some (x,m1)=>if W0 T1 x m1 then Cz T1 f1 mo mr loc mh else Cz T2 f2 mo mr loc mh
 | none=>none
theorem Va {X:Cx}{e:Expr}{T1 T2:String}{f1 f2:D->List D->MH->Option (D×MH)}{mo:DM D}{mr:DM (List D)}(h1:DE X e (Cz T1 f1 mo mr)) (h2:DE X e (Cz T2 f2 mo mr)):DE X e (Yy T1 f1 T2 f2 mo mr):=fun loc mh=>by
 unfold Yy;split
 ·split
  ·exact h1 loc mh
  ·exact h2 loc mh
 ·exact Cu
section
variable {prog:Program}{w:World}{A:Around}{E:Value->Shared->Prop}{s:Shared}
end
inductive DEnts (w:World) (K:PySem.W.Frag):List DictEntry->List (Str×D)->Prop
 | nil:DEnts w K [] []
 | cons {k:Str} {t:Tok} {u:Value} {v:V} {d:D} {es:List DictEntry} {kvs:List (Str×D)}:Cg v u->(∀ H ρ,RD K H ρ d v)->DEnts w K es kvs->DEnts w K ({ hash:=hashStr w k,key:=.str k t,val:=u }::es) ((k,d)::kvs)
structure DicOk (w:World) (K:PySem.W.Frag) (a:Addr) (kvs:List (Str×D)):Prop where
 ns:(a==sysModules)=false
 ob:∃ o es ep,K.lookup a=some o/\o.ExactDict/\o.data=.dict es ep/\DEnts w K es.toList kvs
noncomputable def Fp (es:List DictEntry) (k:Str):Option Value:=match es with
 | []=>none
 | e::r=>if Value.isStrOf k e.key then some e.val else Fp r k
theorem Mx (es:Array DictEntry) (k:Str):findBy Value.isStrOf es k=Fp es.toList k:=by
 obtain ⟨l⟩:=es;simp only [findBy,List.find?_toArray]
 induction l with
 | nil=>rfl
 | cons e r ih =>
  rw [List.find?_cons];show _=(if Value.isStrOf k e.key=true then some e.val else Fp r k);cases h:Value.isStrOf k e.key with
  | true=>rfl
  | false=>exact ih
theorem J2 {w:World}{K:PySem.W.Frag}:∀ {es:List DictEntry}{kvs:List (Str×D)},DEnts w K es kvs->∀ k:Str,(∃ d u v,kvs.lookup k=some d/\Fp es k=some u/\Cg v u/\∀ H ρ,RD K H ρ d v)\/(kvs.lookup k=none/\Fp es k=none)
 | _,_,.nil,k=>.inr ⟨rfl,rfl⟩
 | _,_,@DEnts.cons _ _ k0 t u v d es kvs rv rd h,k=>by
  by_cases e:k=k0
  ·subst e;left;refine ⟨d,u,v,by simp [List.lookup],?_,rv,rd⟩;simp [Fp,Value.isStrOf]
  ·have e1:(k==k0)=false:=by simpa using e
   have e2:Value.isStrOf k (.str k0 t)=false:=by
    simp [Value.isStrOf];exact fun z=>e z.symm
   rcases J2 h k with ⟨d',u',v',h1,h2,h3,h4⟩|⟨h1,h2⟩
   ·left;refine ⟨d',u',v',by rw [List.lookup_cons,e1];exact h1,?_,h3,h4⟩;show (if Value.isStrOf k (.str k0 t)=true then some u else Fp es k)=some u';rw [e2];exact h2
   ·right;refine ⟨by rw [List.lookup_cons,e1];exact h1,?_⟩;show (if Value.isStrOf k (.str k0 t)=true then some u else Fp es k)=none;rw [e2];exact h2
theorem O2 {P:Program}{w:World}{K:PySem.W.Frag}{es:List DictEntry}{kvs:List (Str×D)}(h:DEnts w K es kvs):∀ e∈es,∃ k,(PySem.strKind P w).is k e.key=true/\e.hash=(PySem.strKind P w).hash k:=by
 induction h with
 | nil=>intro e he;cases he
 | cons rv rd h ih =>
  intro e he;rcases List.mem_cons.mp he with rfl|he
  ·exact ⟨_,by simp [PySem.strKind,Value.isStrOf],rfl⟩
  ·exact ih e he
section
variable {X:Cx}{a:Addr}{kvs:List (Str×D)}
theorem DicOk.map {pins:List (Addr×Obj)}{σ:L2.St}{H:Hp}{s:Shared}(D:DicOk X.w X.K a kvs) (I:Inv X pins σ H s):∃ f,s.heap.MapOf (PySem.strKind X.prog X.w) a f/\∀ k,(∃ d u v,kvs.lookup k=some d/\f k=some u/\Cg v u/\∀ H ρ,RD X.K H ρ d v)\/(kvs.lookup k=none/\f k=none):=by
 obtain ⟨o,es,ep,h1,h2,h3,h4⟩:=D.ob;refine ⟨Fp es.toList,⟨o,es,ep,I.kIn a o h1,h2,h3,fun e he=>O2 h4 e (by simpa using he),fun k=>Mx es k⟩,J2 h4⟩
variable {e:Expr}{me:DM D}{x:Str}{p pos:Pos}
noncomputable def Ag0 (neg:Bool) (kvs:List (Str×D)) (m:DM D):DM D:=m.bnd fun y=>match y with
 | .str k=>Zr (.bl (if neg then !(kvs.lookup k).isSome else (kvs.lookup k).isSome))
 | _=>Zb
noncomputable def Ag1 (kvs:List (Str×D)) (m:DM D):DM D:=m.bnd fun y=>match y with
 | .str k=>(match kvs.lookup k with | some d=>Zr d | none=>Zb)
 | _=>Zb
end
mutual
noncomputable def rdV (K:PySem.W.Frag):Nat->Value->Option D
 | _,.none=>some .non
 | _,.bool b=>some (.bl b)
 | _,.int i _=>some (.int i)
 | _,.str x _=>some (.str x)
 | n+1,.ref a=>match K.lookup a with
  | some ⟨.type c,none,.seq its _,_⟩=>if c == "tuple"&&decide (its.size<=1000) then (match bZ K n its.toList with | some ds=>some (.tup ds) | none=>none) else none
  | _=>none
 | _,_=>none
noncomputable def bZ (K:PySem.W.Frag):Nat->List Value->Option (List D)
 | _,[]=>some []
 | 0,_::_=>none
 | n+1,u::r=>match rdV K n u with
  | some d=>(match bZ K n r with | some ds=>some (d::ds) | none=>none)
  | none=>none
end
mutual
theorem iR {K:PySem.W.Frag}:∀ (n:Nat) {u:Value}{d:D},rdV K n u=some d->∃ v,Cg v u/\∀ H ρ,RD K H ρ d v
 | n,.none,d,h=>by cases n <;> (simp only [rdV] at h;cases h;exact ⟨.non,rfl,fun _ _=>.non⟩)
 | n,.bool b,d,h=>by cases n <;> (simp only [rdV] at h;cases h;exact ⟨.bl b,rfl,fun _ _=>.bl b⟩)
 | n,.int i t,d,h=>by cases n <;> (simp only [rdV] at h;cases h;exact ⟨.int i,⟨t,rfl⟩,fun _ _=>.int i⟩)
 | n,.str x t,d,h=>by cases n <;> (simp only [rdV] at h;cases h;exact ⟨.str x,⟨t,rfl⟩,fun _ _=>.str x⟩)
 | 0,.ref a,d,h=>by simp only [rdV] at h;cases h
 | n+1,.ref a,d,h=>by
  simp only [rdV] at h;split at h
  ·rename_i c its ep sl hk;split at h
   ·rename_i hc;rw [Bool.and_eq_true,decide_eq_true_iff] at hc;split at h
    ·rename_i ds hd;cases h;obtain ⟨vs,h1,h2⟩:=Yz n hd;refine ⟨.ref a,rfl,fun H ρ=>.tup (.inr ⟨_,its,ep,hk,by rw [eq_of_beq hc.1],rfl,rfl,?_,h1⟩) (h2 H ρ)⟩;rw [sizeLine_eq];omega
    ·cases h
   ·cases h
  ·cases h
 | n,.float _ _,d,h=>by cases n <;> (simp only [rdV] at h;cases h)
 | n,.bytes _ _,d,h=>by cases n <;> (simp only [rdV] at h;cases h)
 | n,.ellipsis,d,h=>by cases n <;> (simp only [rdV] at h;cases h)
 | n,.notImplemented,d,h=>by cases n <;> (simp only [rdV] at h;cases h)
 | n,.type _,d,h=>by cases n <;> (simp only [rdV] at h;cases h)
 | n,.builtin _,d,h=>by cases n <;> (simp only [rdV] at h;cases h)
theorem Yz {K:PySem.W.Frag}:∀ (n:Nat) {us:List Value}{ds:List D},bZ K n us=some ds->∃ vs,Vals vs us/\∀ H ρ,RDs K H ρ ds vs
 | n,[],ds,h=>by cases n <;> (simp only [bZ] at h;cases h;exact ⟨[],.nil,fun _ _=>.nil⟩)
 | 0,_::_,ds,h=>by simp only [bZ] at h;cases h
 | n+1,u::r,ds,h=>by
  simp only [bZ] at h;split at h
  ·rename_i d hd;split at h
   ·rename_i ds' hr;cases h;obtain ⟨v,a1,a2⟩:=iR n hd;obtain ⟨vs,b1,b2⟩:=Yz n hr;exact ⟨v::vs,.cons a1 b1,fun H ρ=>.cons (a2 H ρ) (b2 H ρ)⟩
   ·cases h
  ·cases h
end
theorem O3 {K:PySem.W.Frag}{H:Hp}{ρ:List Addr}{f:Str}{d:D}:∀ {ks:List Str}{ds:List D}{xs:List V},RDs K H ρ ds xs->(ks.zip ds).lookup f=some d->∃ v,(ks.zip xs).lookup f=some v/\RD K H ρ d v
 | [],_,_,_,h=>by simp at h
 | k::ks,_,_,.nil,h=>by simp at h
 | k::ks,_,_,.cons r t,h=>by
  rw [List.zip_cons_cons,List.lookup_cons] at h ⊢;cases e:f==k with
  | true=>rw [e] at h;cases h;exact ⟨_,rfl,r⟩
  | false=>rw [e] at h;exact O3 t h
theorem O4 {f:Str}:∀ {ks:List Str}{xs:List V},ks.contains f=false->(ks.zip xs).lookup f=none
 | [],_,_=>by simp
 | k::ks,[],_=>by simp
 | k::ks,x::xs,h=>by
  rw [List.contains_cons,Bool.or_eq_false_iff] at h;rw [List.zip_cons_cons,List.lookup_cons,h.1];exact O4 h.2
noncomputable def iU (c f:Str) (x:D) (mh:MH):Option (D×MH):=match x with
 | .obj c' ks ds=>if c'==c then (match (ks.zip ds).lookup f with | some d=>some (d,mh) | none=>none) else none
 | _=>none
section
variable {X:Cx}{o:Expr}{mo:DM D}{c f:Str}{C:Addr}{pos apos:Pos}
theorem Aa2 (hn:PySem.W.nsIn X.K mainGlobals c=some (some (.ref C))) (hc:Cls X.K C) (ha:Gn X.K C f) (ho:DE X o mo) (hb:attributeBase o f X.env (eval o X.env)=eval o X.env):DE X (.Attribute o f pos) (mo.bnd fun x=>Zl (iU c f x)):=fun loc mh =>
 Cm (zM (ho loc mh) hb) fun σ H Q ⟨ρ,d,mh',q,rl,rs,co⟩=>by
  obtain ⟨x,m1,ea,q2⟩:=Be q
  clear q
  refine ⟨ρ,x,m1,ea,rl,rs,fun H1 ρ1 v e1 rs1 r1=>?_⟩;change iU c f x m1=some (d,mh') at q2;cases r1 with
  | @obj c' ks ds a C' dx xs h1 h2 h3 h4 =>
   simp only [iU] at q2;split at q2
   ·rename_i hcc;have e:=eq_of_beq hcc;subst e;rw [hn] at h1;cases h1;split at q2
    ·rename_i d' hl;cases q2;obtain ⟨v',l1,l2⟩:=O3 h4 hl;exact ⟨a,C,dx,_,v',rfl,h2,hc,ha,l1,co H1 ρ1 _ e1 rs1 l2⟩
    ·cases q2
   ·cases q2
  | _=>cases q2
noncomputable def O5 (c m:Str) (f:List D->MH->Option (D×MH)) (mo:DM D) (mr:DM (List D)):DM D:=mo.bnd fun x=>match x with
 | .obj c' ks ds=>if c'==c&&!(ks.contains m) then mr.bnd fun as=>Zl (f (.obj c' ks ds::as)) else Zb
 | _=>Zb
theorem Rq {env:Env}{o:Expr}{m:Str}{args:List Expr}(hbase:attributeBase o m env (eval o env)=eval o env)
  (hfew:((backTo pos (starEach args env)).all (fun x=>!x.1)&&(backToKw pos (keywordEach [] env)).all (fun x=>x.1.isSome)&&decide (args.length+([]:List Keyword).length+(if ([]:List Keyword).isEmpty then 0 else 1) < 30))=true)
  (hline:(apos.endLine==pos.line)=true) :
  eval (.Call (.Attribute o m apos) args [] pos) env=(do
   let ov ← eval o env
   standAt apos.atName
   let (f,first) ← holding [ov] (getMethod ov m (do return (← importBound o env).getD true))
   callWith pos f first (backTo pos (starEach args env)) (backToKw pos (keywordEach [] env))):=by
 rw [arm_eval_Call,hbase];have hform:methodCallForm (args.length+([]:List Keyword).length) (backTo pos (starEach args env)) (backToKw pos (keywordEach [] env))=true:=hfew;have hpos:methodCallPos true o env apos pos=pure pos:=by unfold methodCallPos;simp [hline]
 unfold methodCall;rw [hform,hpos];rfl
variable {CX:CXT}{k:Nat}{fa:Addr}{fd:FuncData}{ps:List Str}{m:Str}{g:List D->MH->Option (D×MH)}{e:Expr}{es:List Expr}{mr:DM (List D)}{E:XK}
theorem O6 {loc:Loc}{mh:MH}{r:D×MH}(h:O5 c m g mo mr loc mh=some r):∃ ks ds m1,mo loc mh=some (.obj c ks ds,m1)/\ks.contains m=false/\∃ as m2,mr loc m1=some (as,m2)/\g (.obj c ks ds::as) m2=some r:=by
 obtain ⟨x,m1,ea,h2⟩:=Be h
 clear h
 cases x with
 | obj c' ks ds =>
  simp only at h2;split at h2
  ·rename_i hc;rw [Bool.and_eq_true] at hc;have ec:=eq_of_beq hc.1;subst ec;obtain ⟨as,m2,eb,h3⟩:=Be h2;exact ⟨ks,ds,m1,ea,by simpa using hc.2,as,m2,eb,h3⟩
  ·cases h2
 | _=>cases h2
theorem uR (hn:PySem.W.nsIn X.K mainGlobals c=some (some (.ref C))) (hc:Cls X.K C) (hm:Meth X.K C m fa) (F:FnOk X.prog X.w X.K X.mg X.base CX k fa fd ps (spD X.K ps.length g)) (hr:Room k X.A) (hb:Binds X.K fd ps []) (hx:Dv CX X E) (ho:DE X o mo) (ha:DA X (e::es) mr)
  (hl:∀ ds mh r,g ds mh=some r->ds.length=ps.length) (hbase:attributeBase o m X.env (eval o X.env)=eval o X.env)
  (hfew:((backTo pos (starEach (e::es) X.env)).all (fun x=>!x.1)&&(backToKw pos (keywordEach [] X.env)).all (fun x=>x.1.isSome)&&decide ((e::es).length+([]:List Keyword).length+(if ([]:List Keyword).isEmpty then 0 else 1) < 30))=true)
  (hline:(apos.endLine==pos.line)=true) (hst:starEach (e::es) X.env=(false,eval e X.env)::starEach es X.env) (hpl:(backTo pos (starEach es X.env)).any (·.1)=false) :
  DE X (.Call (.Attribute o m apos) (e::es) [] pos) (O5 c m g mo mr):=fun loc mh=>by
 cases eq:O5 c m g mo mr loc mh with
 | none=>exact Cu
 | some r =>
  obtain ⟨ks,ds,m1,ea,hk,as,m2,eb,hg⟩:=O6 eq;refine Cm (rZ (ho loc mh) hc hm F hr hb .nil hx (ha loc m1) hst hpl (Rq hbase hfew hline)) ?_;rintro σ H Q ⟨ρ,d,mh',q,rl,rs,co⟩;cases q;refine ⟨ρ,_,m1,ea,rl,rs,fun H1 ρ1 v e1 rs1 r1=>?_⟩;cases r1 with
  | @obj _ _ _ a C' dx xs h1 h2 h3 h4 =>
   rw [hn] at h1;cases h1;refine ⟨a,dx,_,rfl,h2,O4 hk,ρ1,as,m2,eb,rl.mono e1,rs1,fun H2 ρ2 vs e2 rs2 r2=>?_⟩;show spD X.K ps.length g (.ref a::(vs++[])) H2 Q E;rw [List.append_nil];have rr:RDs X.K H2 ρ2 (.obj c ks ds::as) (.ref a::vs):=.cons (.obj hn (e2.ins _ _ _ _ h2) h3 (h4.mono e2)) r2;exact ⟨by rw [← rr.length];exact hl _ _ _ hg,ρ2,m2,_,d,mh',hg,rs2,rr,co.ev (e1.trans e2)⟩
theorem iV (hn:PySem.W.nsIn X.K mainGlobals c=some (some (.ref C))) (hc:Cls X.K C) (hm:Meth X.K C m fa) (F:FnOk X.prog X.w X.K X.mg X.base CX k fa fd ps (spD X.K ps.length g)) (hr:Room k X.A) (hb:Binds X.K fd ps []) (hx:Dv CX X E) (ho:DE X o mo)
  (hl:∀ ds mh r,g ds mh=some r->ds.length=ps.length) (hbase:attributeBase o m X.env (eval o X.env)=eval o X.env) (hline:(apos.endLine==pos.line)=true) :
  DE X (.Call (.Attribute o m apos) [] [] pos) (O5 c m g mo (Zr [])):=fun loc mh=>by
 cases eq:O5 c m g mo (Zr []) loc mh with
 | none=>exact Cu
 | some r =>
  obtain ⟨ks,ds,m1,ea,hk,as,m2,eb,hg⟩:=O6 eq;cases eb;refine Cm (fJ (ho loc mh) hc hm F hr hb .nil hx (Rq hbase rfl hline)) ?_;rintro σ H Q ⟨ρ,d,mh',q,rl,rs,co⟩;cases q;refine ⟨ρ,_,m1,ea,rl,rs,fun H1 ρ1 v e1 rs1 r1=>?_⟩;cases r1 with
  | @obj _ _ _ a C' dx xs h1 h2 h3 h4 =>
   rw [hn] at h1;cases h1;refine ⟨a,dx,_,rfl,h2,O4 hk,?_⟩;have rr:RDs X.K H1 ρ1 [.obj c ks ds] [.ref a]:=.cons (.obj hn h2 h3 h4) .nil;have hl1:[V.ref a].length=ps.length:=by rw [← rr.length];exact hl _ _ _ hg
   exact ⟨hl1,ρ1,m1,_,d,mh',hg,rs1,rr,co.ev e1⟩
noncomputable def spI (C:Addr) (f:Str):Sp:=fun vs H Q _=>∃ x dx v,vs=[.ref x,v]/\H x=some (.ins C dx [])/\Q .non (upd H x (.ins C dx [(f,v)]))
theorem uT {x:Str}{p:Pos}{ma:DM D}{a:Expr}(hn:PySem.W.nsIn X.K mainGlobals x=some (some (.ref C))) (M:Mk X.K C fa) (F:FnOk X.prog X.w X.K X.mg X.base CX k fa fd ps (spI C f)) (hr:Room (k+1) X.A) (hg:Gl X x) (hm:X.mg x=some (.ref C)) (hb:Binds X.K fd ps []) (hx:Dv CX X E)
  (ha:DE X a ma) (hdb:(x==("__debug__":Str))=false) (hs:starEach [a] X.env=(false,eval a X.env)::starEach [] X.env) :
  DE X (.Call (.Name x p) [a] [] pos) (ma.bnd fun d=>Zr (.obj x [f] [d])):=fun loc mh =>
 Cm (sE M F hr hg hm hb .nil hx (Ga (ha loc mh) Im hs) hdb hs) fun σ H Q ⟨ρ,d,mh',q,rl,rs,co⟩=>by
  obtain ⟨y,m1,ea,q⟩:=Be q;cases q;refine ⟨ρ,y,_,ea,rl,rs,fun H1 ρ1 v e1 rs1 r1=>fun z dx hz hdx hne=>?_⟩;refine ⟨z,dx,v,rfl,Dh,rfl,?_⟩;have e2:Ev X.K H1 ρ1 (upd (upd H1 dx (.own z)) z (.ins C dx [])) ρ1:=(Ev.new hdx).trans (Ev.new (by rw [Bg (Ne.symm hne)];exact hz));have rs2:RS X.K (upd (upd H1 dx (.own z)) z (.ins C dx [])) ρ1 mh':=(rs1.new hdx).new (by rw [Bg (Ne.symm hne)];exact hz);rw [qZ];have hz':upd H1 dx (HO.own z) z=none:=by rw [Bg (Ne.symm hne)];exact hz
  refine co _ ρ1 _ (e1.trans ((Ev.new hdx).trans (Ev.new hz'))) ((rs1.new hdx).new hz') ?_;exact .obj (xs:=[v]) hn Dh rfl (.cons (r1.mono ((Ev.new hdx).trans (Ev.new hz'))) .nil)
end
theorem uU {P:Program}{w:World}{K:PySem.W.Frag}{mg:Str->Option Value}{base:Heap}{qual:Str}{st:Stmt}{fa C:Addr}{fd:FuncData}{s q f:Str}{p1 p2 p3 p4:Pos}(F:Fun K "__init__" qual st fa fd) (S:FnScope [s,q] [s,q] (Bk st)) (hb:Dl st=[.Assign [.Attribute (.Name s p1) f p2] (.Name q p3) p4])
  (hs1:Vis (Bk st) s) (hq1:Vis (Bk st) q) (hc:Cls K C) (ha:Gn K C f) (d1:(s==("__debug__":Str))=false/\(s==("__classdict__":Str))=false) (d2:(q==("__debug__":Str))=false/\(q==("__classdict__":Str))=false):FnOk P w K mg base CX0 1 fa fd [s,q] (spI C f):=by
 refine F.ok S (fun vs H Q E h=>?_) fun cdv A outer sh H vs Q E hr h=>?_
 ·obtain ⟨x,dx,v,rfl,_⟩:=h;rfl
 ·obtain ⟨x,dx,v,rfl,hx,hQ⟩:=h;rw [hb];refine ⟨_,rG (zN (R3 (i:=0) rfl ?_ d1.1 d1.2) (R3 (i:=1) rfl ?_ d2.1 d2.2) rfl),?_⟩
  ·exact hs1
  ·exact hq1
  ·exact ⟨v,rfl,.ref x,rfl,x,C,dx,[],rfl,hx,hc,ha,by show 0 < 1000;decide,hQ⟩
noncomputable abbrev Fn:=List D->MH->Option (D×MH)
noncomputable def Js (ok:Str->Str->Bool) (f:Str) (mo:DM D):DM D:=mo.bnd fun x=>match x with
 | .obj c ks ds=>if ok c f then Zl (iU c f (.obj c ks ds)) else Zb
 | _=>Zb
noncomputable def Hj (met:Str->Str->Option (List Str×Fn)) (m:Str) (mo:DM D) (mr:DM (List D)):DM D:=mo.bnd fun x=>match x with
 | .obj c ks ds=>(match met c m with
  | some (_,g)=>if ks.contains m then Zb else mr.bnd fun as=>Zl (g (.obj c ks ds::as))
  | none=>Zb)
 | _=>Zb
section
variable {X:Cx}{o:Expr}{mo:DM D}{f m:Str}{pos apos:Pos}
theorem uV {ok:Str->Str->Bool}(hok:∀ c,ok c f=true->∃ C,PySem.W.nsIn X.K mainGlobals c=some (some (.ref C))/\Cls X.K C/\Gn X.K C f) (ho:DE X o mo) (hb:attributeBase o f X.env (eval o X.env)=eval o X.env):DE X (.Attribute o f pos) (Js ok f mo):=fun loc mh=>by
 cases ea:mo loc mh with
 | none =>
  have:Js ok f mo loc mh=none:=by unfold Js DM.bnd;rw [ea]
  rw [this];exact Cu
 | some pr =>
  obtain ⟨x,m1⟩:=pr;cases x with
  | obj c ks ds =>
   by_cases h:ok c f=true
   ·obtain ⟨C,h1,h2,h3⟩:=hok c h;have e:Js ok f mo loc mh=(mo.bnd fun x=>Zl (iU c f x)) loc mh:=by unfold Js DM.bnd;rw [ea];dsimp only;rw [if_pos h]
    rw [e];exact Aa2 h1 h2 h3 ho hb loc mh
   ·have:Js ok f mo loc mh=none:=by unfold Js DM.bnd;rw [ea];dsimp only;rw [if_neg h];rfl
    rw [this];exact Cu
  | _ =>
   have:Js ok f mo loc mh=none:=by unfold Js DM.bnd;rw [ea];rfl
   rw [this];exact Cu
theorem Y0 {met:Str->Str->Option (List Str×Fn)}{mr:DM (List D)}{loc:Loc}{mh m1:MH}{c:Str}{ks:List Str}{ds:List D}{ps:List Str}{g:Fn}(ea:mo loc mh=some (.obj c ks ds,m1)) (hm:met c m=some (ps,g)):Hj met m mo mr loc mh=O5 c m g mo mr loc mh:=by
 unfold Hj O5 DM.bnd;rw [ea];dsimp only;rw [hm];dsimp only;cases hk:ks.contains m with
 | true=>rw [if_pos rfl,if_neg (by simp)]
 | false=>rw [if_neg (by simp),if_pos (by simp)]
theorem uW {k:Nat}{E:XK}{e:Expr}{es:List Expr}{mr:DM (List D)}{met:Str->Str->Option (List Str×Fn)}
  (hm:∀ c ps g,met c m=some (ps,g)->∃ C fa fd,PySem.W.nsIn X.K mainGlobals c=some (some (.ref C))/\Cls X.K C/\Meth X.K C m fa/\Binds X.K fd ps []/\FnOk X.prog X.w X.K X.mg X.base CX0 k fa fd ps (spD X.K ps.length g)/\∀ ds mh r,g ds mh=some r->ds.length=ps.length)
  (hr:Room k X.A) (hx:Dv CX0 X E) (ho:DE X o mo) (ha:DA X (e::es) mr) (hbase:attributeBase o m X.env (eval o X.env)=eval o X.env)
  (hfew:((backTo pos (starEach (e::es) X.env)).all (fun x=>!x.1)&&(backToKw pos (keywordEach [] X.env)).all (fun x=>x.1.isSome)&&decide ((e::es).length+([]:List Keyword).length+(if ([]:List Keyword).isEmpty then 0 else 1) < 30))=true)
  (hline:(apos.endLine==pos.line)=true) (hst:starEach (e::es) X.env=(false,eval e X.env)::starEach es X.env) (hpl:(backTo pos (starEach es X.env)).any (·.1)=false) :
  DE X (.Call (.Attribute o m apos) (e::es) [] pos) (Hj met m mo mr):=fun loc mh=>by
 cases ea:mo loc mh with
 | none =>
  have:Hj met m mo mr loc mh=none:=by unfold Hj DM.bnd;rw [ea]
  rw [this];exact Cu
 | some pr =>
  obtain ⟨x,m1⟩:=pr;cases x with
  | obj c ks ds =>
   cases em:met c m with
   | none =>
    have:Hj met m mo mr loc mh=none:=by unfold Hj DM.bnd;rw [ea];dsimp only;rw [em];rfl
    rw [this];exact Cu
   | some pg =>
    obtain ⟨ps,g⟩:=pg;obtain ⟨C,fa,fd,h1,h2,h3,h4,h5,h6⟩:=hm c ps g em;rw [Y0 ea em];exact uR (E:=E) h1 h2 h3 h5 hr h4 hx ho ha h6 hbase hfew hline hst hpl loc mh
  | _ =>
   have:Hj met m mo mr loc mh=none:=by unfold Hj DM.bnd;rw [ea];rfl
   rw [this];exact Cu
theorem iW {k:Nat}{E:XK}{met:Str->Str->Option (List Str×Fn)}
  (hm:∀ c ps g,met c m=some (ps,g)->∃ C fa fd,PySem.W.nsIn X.K mainGlobals c=some (some (.ref C))/\Cls X.K C/\Meth X.K C m fa/\Binds X.K fd ps []/\FnOk X.prog X.w X.K X.mg X.base CX0 k fa fd ps (spD X.K ps.length g)/\∀ ds mh r,g ds mh=some r->ds.length=ps.length)
  (hr:Room k X.A) (hx:Dv CX0 X E) (ho:DE X o mo) (hbase:attributeBase o m X.env (eval o X.env)=eval o X.env) (hline:(apos.endLine==pos.line)=true) :
  DE X (.Call (.Attribute o m apos) [] [] pos) (Hj met m mo (Zr [])):=fun loc mh=>by
 cases ea:mo loc mh with
 | none =>
  have:Hj met m mo (Zr []) loc mh=none:=by unfold Hj DM.bnd;rw [ea]
  rw [this];exact Cu
 | some pr =>
  obtain ⟨x,m1⟩:=pr;cases x with
  | obj c ks ds =>
   cases em:met c m with
   | none =>
    have:Hj met m mo (Zr []) loc mh=none:=by unfold Hj DM.bnd;rw [ea];dsimp only;rw [em];rfl
    rw [this];exact Cu
   | some pg =>
    obtain ⟨ps,g⟩:=pg;obtain ⟨C,fa,fd,h1,h2,h3,h4,h5,h6⟩:=hm c ps g em;rw [Y0 ea em];exact iV (E:=E) h1 h2 h3 h5 hr h4 hx ho h6 hbase hline loc mh
  | _ =>
   have:Hj met m mo (Zr []) loc mh=none:=by unfold Hj DM.bnd;rw [ea];rfl
   rw [this];exact Cu
end
section
variable {X:Cx}
noncomputable def Aa3:List D->Option (Int×Int)
 | [.int i,.int j]=>some (i,j)
 | _=>none
theorem cA {ds:List D}{z:Int×Int}(h:Aa3 ds=some z):ds=[.int z.1,.int z.2]:=by
 match ds,h with
 | [d,e],h =>
  cases d with
  | int i =>
   cases e with
   | int j=>cases h;rfl
   | _=>cases h
  | _=>cases h
 | [],h=>cases h
 | [d],h=>cases d <;> cases h
 | d::e::_::_,h=>cases d <;> first | cases h | (cases e <;> cases h)
noncomputable def iY (f:Int->List Int->Int) (g:Fn):Fn:=fun ds mh=>match Aa3 ds with
 | some z=>some (.int (f z.1 [z.2]),mh)
 | none=>g ds mh
theorem W6 {v:Value}{f:Int->List Int->Int}{g:Fn}(h2:Dd X v (fun xs H Q=>∃ i j,xs=[.int i,.int j]/\Q (.int (f i [j])) H)) (hg:Dd X v (rDs X.K g)):Dd X v (rDs X.K (iY f g)):=by
 rintro pins s σ H xs us Q I r ⟨ρ,mh,ds,d,mh',q,rs,rd,co⟩;unfold iY at q;cases e:Aa3 ds with
 | none=>rw [e] at q;exact hg pins s σ H xs us Q I r ⟨ρ,mh,ds,d,mh',q,rs,rd,co⟩
 | some z =>
  rw [e] at q;cases q;rw [cA e] at rd;obtain ⟨v1,v2,rfl,r1,r2⟩:=Aey rd;cases r1;cases r2;exact h2 pins s σ H _ us Q I r ⟨_,_,rfl,co H ρ _ Ev.refl rs (.int _)⟩
noncomputable def Y4:Fn:=iY Lj minD
theorem W7 (hc:X.calm=true):Dd X (.builtin "min") (rDs X.K Y4):=W6 (aP hc) (bL hc)
end
section
variable {X:Cx}{tg:Expr}
end
theorem My:fillsNumberSlot (.type "tuple") "mul"=pure false:=PySem.fillsNumberSlot_seq (id := "tuple.__mul__") (r:=some (.builtin "tuple.__rmul__")) PySem.F.slot_tuple_mul.lookup (by decide +kernel) PySem.F.slot_tuple_rmul.lookup (by decide +kernel)
theorem Mz:seqRepeat? (.type "tuple")=pure (some (.builtin "tuple.__mul__")):=by
 unfold seqRepeat?
 rw [PySem.seqSlot_of (T := "tuple") (name := "__mul__") (id := "tuple.__mul__") PySem.F.slot_tuple_mul.lookup (by decide +kernel),PySem.seqSlot_of (T := "tuple") (name := "__rmul__") (id := "tuple.__rmul__") PySem.F.slot_tuple_rmul.lookup (by decide +kernel)];rfl
theorem Rr (a:Int) (t:Tok) (l:Addr) (items:Array Value) (n:Nat) (dd:Option Addr) (sl:Array (Option Value)) :
  Meets (Builtin.«int.__rmul__» ⟨[.int a t,.ref l],[]⟩) (fun _ R s=>s.heap.get? l=some { cls:=.type "tuple",dict:=dd,data:=.seq items n,slots:=sl }/\R (.ok (.ret Value.notImplemented)) s) :=
 .of_wp fun prog w A R s h=>by obtain ⟨hp,g,d,tk,os⟩:=s;obtain ⟨hl,h⟩:=h;wp_walk;exact ⟨_,rfl,h⟩
theorem iZ (l:Addr) (items:Array Value) (n:Nat) (dd:Option Addr) (sl:Array (Option Value)) (x:Int) (u:Tok) (hc0:¬(decide (x < -(2 ^ 63)) || decide (x ≥ 2 ^ 63))=true) (hc1:¬(items.isEmpty || x==1)=true) (hc2:¬(decide (x<=0) || items.isEmpty)=true) (hc3:¬((items.size:Int) * x > (2 ^ 63 - 1) / 8)) (hc5:¬(List.foldl (fun x1 x2=>x1++x2) #[] (List.replicate x.toNat items)).size > sizeLine) (hc4:¬PySem.Builtin.Tuple.tupleTooMany ((items.size:Int) * x)=true) :
  Meets (Builtin.«tuple.__mul__» ⟨[.ref l,.int x u],[]⟩) (fun _ R s=>s.heap.get? l=some { cls:=.type "tuple",dict:=dd,data:=.seq items n,slots:=sl }/\R (.ok (.ret (Value.ref s.heap.objs.size))) { s with heap:=s.heap.push { cls:=Value.type "tuple",data:=Data.seq (List.foldl (fun x1 x2=>x1++x2) #[] (List.replicate x.toNat items)) },toks:=s.toks }) :=
 .of_wp fun prog w A R s h=>by
  obtain ⟨hp,g,d,tk,os⟩:=s;obtain ⟨hl,h⟩:=h;have f1:=AutoSeq1.idx_int;wp_walk using wpAny_loadPart' hl
  simp only [hc0,Bool.false_eq_true,if_false];wp_walk using wpAny_loadPart' hl
  simp only [hc3,if_false];wp_walk using wpAny_loadPart' hl
  exact ⟨_,rfl,h⟩
theorem jA (l:Addr) (items:Array Value) (n:Nat) (dd:Option Addr) (sl:Array (Option Value)) (u:Tok) :
  Meets (Builtin.«tuple.__mul__» ⟨[.ref l,.int 1 u],[]⟩) (fun _ R s=>s.heap.get? l=some { cls:=.type "tuple",dict:=dd,data:=.seq items n,slots:=sl }/\R (.ok (.ret (Value.ref l))) s) :=
 .of_wp fun prog w A R s h=>by
  obtain ⟨hp,g,d,tk,os⟩:=s;obtain ⟨hl,h⟩:=h;have f1:=AutoSeq1.idx_int;have c1:(items.isEmpty || (1:Int)==1)=true:=by rw [Bool.or_eq_true];exact .inr rfl
  wp_walk using wpAny_loadPart' hl
  exact ⟨_,rfl,h⟩
section
variable {X:Cx}
theorem RDs.rep {K:PySem.W.Frag}{H:Hp}{ρ:List Addr}{ds:List D}{vs:List V}(h:RDs K H ρ ds vs):∀ k:Nat,RDs K H ρ (List.replicate k ds).flatten (List.replicate k vs).flatten
 | 0=>.nil
 | k+1=>by
  rw [List.replicate_succ,List.replicate_succ,List.flatten_cons,List.flatten_cons];exact h.append (RDs.rep h k)
theorem cB:OpR X (binaryOp .Mult) (fun x y H Q=>∃ a k xs,x=.ref a/\y=.int k/\SqT X.K H a xs/\xs≠[]/\1 < k/\k<=1000/\xs.length<=1000/\∀ p,H p=none->Q (.ref p) (upd H p (.tup (List.replicate k.toNat xs).flatten))):=by
 rintro pins s σ H x y v u Q I rx ry ⟨a,k,xs,e1,e2,ha,hne,h1,h2,h3,q⟩;subst e1;subst e2;cases rx;obtain ⟨t,rfl⟩:=ry;obtain ⟨its,r1,p1,_⟩:=I.tuple ha;obtain ⟨⟨cls,dd,data,sl⟩,ho,hc,n,hd⟩:=id p1;simp only at hc hd;subst hc hd;have hl:its.length<=1000:=by rw [← r1.length];exact h3
 have hn:its.toArray.isEmpty=false:=by
  cases its with
  | nil=>exact absurd (r1.nil_iff.mp rfl) hne
  | cons b r=>rfl
 have hm:((its.toArray.size:Nat):Int) * k<=1000 * 1000:=by
  rw [List.size_toArray];exact Int.mul_le_mul (by omega) (by omega) (by omega) (by omega)
 have hf:List.foldl (fun x1 x2=>x1++x2) #[] (List.replicate k.toNat its.toArray)=(List.replicate k.toNat its).flatten.toArray:=by
  have:=foldl_rep its k.toNat [];rw [List.nil_append] at this;exact this
 have c0:¬(decide (k < -(2 ^ 63)) || decide (k ≥ 2 ^ 63))=true:=by
  rw [Bool.or_eq_true,decide_eq_true_iff,decide_eq_true_iff];omega
 have c1:¬(its.toArray.isEmpty || k==1)=true:=by
  rw [hn,Bool.false_or,beq_iff_eq];omega
 have c2:¬(decide (k<=0) || its.toArray.isEmpty)=true:=by
  rw [hn,Bool.or_false,decide_eq_true_iff];omega
 have c3:¬(((its.toArray.size:Nat):Int) * k > (2 ^ 63 - 1) / 8):=by omega
 have c4:¬PySem.Builtin.Tuple.tupleTooMany (((its.toArray.size:Nat):Int) * k)=true:=by
  have:(sizeLine:Nat)=16777216:=sizeLine_eq;unfold PySem.Builtin.Tuple.tupleTooMany;rw [decide_eq_true_iff];omega
 have c5:¬(List.foldl (fun x1 x2=>x1++x2) #[] (List.replicate k.toNat its.toArray)).size > sizeLine:=by
  rw [hf,List.size_toArray,len_rep,sizeLine_eq];have:k.toNat * its.length<=1000 * 1000:=Nat.mul_le_mul (by omega) hl;omega
 refine wpAny_binaryOp_repeat_ref (T := "tuple") (U := "int") (by decide) ⟨_,ho,rfl⟩ (fun s'=>PySem.typeIs_int s' k t) My PySem.F.fills_int_mul PySem.F.slot_int_rmul Mz PySem.F.slot_int_index.lookup
  (call_meets PySem.F.slot_int_rmul (PySem.typeIs_int s k t) PySem.F.entry_int_rmul (PySem.F.args_int_rmul_2 _ _) (Rr k t a its.toArray n dd sl)
   ⟨ho,rfl,⟨_,ho,rfl⟩,call_meets PySem.F.slot_tuple_mul ⟨_,ho,rfl⟩ PySem.F.entry_tuple_mul (PySem.F.args_tuple_mul_2 _ _) (iZ a its.toArray n dd sl k t c0 c1 c2 c3 c5 c4) ⟨ho,?_⟩⟩)
 rw [hf];refine ⟨.ref s.heap.objs.size,_,I.laid (t':=s.toks) (o:=.tup (List.replicate k.toNat xs).flatten) (fun b ob q=>Heap.get?_push_of_some _ q) (Nat.le_refl _) ?_,rfl,q _ (I.hok.fresh (Nat.le_refl _))⟩;refine ⟨?_,_,r1.rep k.toNat,Le.new _ _⟩;rw [len_rep,sizeLine_eq];have:k.toNat * xs.length<=1000 * 1000:=Nat.mul_le_mul (by omega) h3;omega
theorem cC:OpR X (binaryOp .Mult) (fun x y H Q=>∃ a xs,x=.ref a/\y=.int 1/\SqT X.K H a xs/\Q (.ref a) H):=by
 rintro pins s σ H x y v u Q I rx ry ⟨a,xs,e1,e2,ha,q⟩;subst e1;subst e2;cases rx;obtain ⟨t,rfl⟩:=ry;obtain ⟨its,r1,p1,_⟩:=I.tuple ha;obtain ⟨⟨cls,dd,data,sl⟩,ho,hc,n,hd⟩:=id p1;simp only at hc hd;subst hc hd
 exact wpAny_binaryOp_repeat_ref (T := "tuple") (U := "int") (by decide) ⟨_,ho,rfl⟩ (fun s'=>PySem.typeIs_int s' 1 t) My PySem.F.fills_int_mul PySem.F.slot_int_rmul Mz PySem.F.slot_int_index.lookup
  (call_meets PySem.F.slot_int_rmul (PySem.typeIs_int s 1 t) PySem.F.entry_int_rmul (PySem.F.args_int_rmul_2 _ _) (Rr 1 t a its.toArray n dd sl)
   ⟨ho,rfl,⟨_,ho,rfl⟩,call_meets PySem.F.slot_tuple_mul ⟨_,ho,rfl⟩ PySem.F.entry_tuple_mul (PySem.F.args_tuple_mul_2 _ _) (jA a its.toArray n dd sl t) ⟨ho,⟨.ref a,H,I,rfl,q⟩⟩⟩)
noncomputable def Aa4:D->D->Option (List D×Int)
 | .tup ds,.int k=>some (ds,k)
 | _,_=>none
theorem cD {x y:D}{z:List D×Int}(h:Aa4 x y=some z):x=.tup z.1/\y=.int z.2:=by
 cases x with
 | tup ds =>
  cases y with
  | int k=>cases h;exact ⟨rfl,rfl⟩
  | _=>cases h
 | _=>cases h
noncomputable def Y5 (g:D->D->MH->Option (D×MH)):D->D->MH->Option (D×MH):=fun x y mh=>match Aa4 x y with
 | some z=>if z.2=1 then some (.tup z.1,mh) else if (z.1.isEmpty=false/\z.1.length<=1000)/\(1 < z.2/\z.2<=1000) then some (.tup (List.replicate z.2.toNat z.1).flatten,mh) else none
 | none=>g x y mh
theorem jB {g:D->D->MH->Option (D×MH)}(h:OpR X (binaryOp .Mult) (rD X.K g)):OpR X (binaryOp .Mult) (rD X.K (Y5 g)):=by
 rintro pins s σ H x y v u Q I rx ry ⟨ρ,mh,dx,dy,d,mh',q,rs,r1,r2,co⟩;unfold Y5 at q;cases e:Aa4 dx dy with
 | none=>rw [e] at q;exact h pins s σ H x y v u Q I rx ry ⟨ρ,mh,dx,dy,d,mh',q,rs,r1,r2,co⟩
 | some z =>
  rw [e] at q;obtain ⟨ds,k⟩:=z;obtain ⟨rfl,rfl⟩:=cD e;have q:(if k=1 then some (D.tup ds,mh) else if (ds.isEmpty=false/\ds.length<=1000)/\(1 < k/\k<=1000) then some (D.tup (List.replicate k.toNat ds).flatten,mh) else none)=some (d,mh'):=q
  by_cases h1:k=1
  ·subst h1;rw [if_pos rfl] at q;cases q;cases r2;cases r1 with
   | tup s1 rr=>exact cC pins s σ H _ _ v u Q I rx ry ⟨_,_,rfl,rfl,s1,co H ρ _ Ev.refl rs (.tup s1 rr)⟩
  rw [if_neg h1] at q
  by_cases hz:(ds.isEmpty=false/\ds.length<=1000)/\(1 < k/\k<=1000)
  ·have q:(if (ds.isEmpty=false/\ds.length<=1000)/\(1 < k/\k<=1000) then some (D.tup (List.replicate k.toNat ds).flatten,mh) else none)=some (d,mh'):=q;rw [if_pos hz] at q;cases q;cases r2;cases r1 with
   | tup s1 rr=>exact cB pins s σ H _ _ v u Q I rx ry ⟨_,_,_,rfl,rfl,s1,fun z=>by
     subst z;cases rr
     exact absurd hz.1.1 (by simp),hz.2.1,hz.2.2,by rw [← rr.length];exact hz.1.2,Co.newT rs (rr.rep _) co⟩
  ·have q:(if (ds.isEmpty=false/\ds.length<=1000)/\(1 < k/\k<=1000) then some (D.tup (List.replicate k.toNat ds).flatten,mh) else none)=some (d,mh'):=q;rw [if_neg hz] at q;cases q
end
section
variable {X:Cx}
noncomputable def jC:D->MH->Option (List D)
 | .ref n,mh=>match mh[n]? with | some (.lst ds)=>some ds | _=>none
 | _,_=>none
theorem W8 {x:D}{mh:MH}{ds:List D}(h:jC x mh=some ds):∃ n,x=.ref n/\mh[n]?=some (.lst ds):=by
 cases x with
 | ref n =>
  have h:(match mh[n]? with | some (.lst ds)=>some ds | _=>none)=some ds:=h;cases e:mh[n]? with
  | none=>rw [e] at h;cases h
  | some o =>
   cases o with
   | lst es=>rw [e] at h;cases h;exact ⟨n,rfl,e⟩
   | dct kvs=>rw [e] at h;cases h
 | _=>cases h
end
end DL
namespace DL
open PySem PySem.Spec PyProof.Rows L2
open MeetsSeq MeetsSeq2 MeetsSeq3 SeqRoads2
noncomputable def LtA (A:Around) (s:Shared) (y x:Value) (b:Bool):Prop :=
 ∀ (prog:Program) (w:World) (E:Value->Shared->Prop) (Q:Value->Shared->Prop),Q (.bool b) s->wpAny (model prog w) A (richCompare .Lt y x) Q E s
inductive LexA (A:Around) (s:Shared) (m n:Nat):List (Value×Value)->Bool->Prop
 | nil:LexA A s m n [] (decide (m < n))
 | eq {x y:Value} {r:List (Value×Value)} {b:Bool}:SeqAt.EqAt A s x y true->LexA A s m n r b->LexA A s m n ((x,y)::r) b
 | ne {x y:Value} {r:List (Value×Value)} {b:Bool}:SeqAt.EqAt A s x y false->LtA A s x y b->LexA A s m n ((x,y)::r) b
theorem cF (l b:Addr) (xs ys:Array Value) (n n2:Nat) (dd dd2:Option Addr) (sl sl2:Array (Option Value)) (k:Bool) :
  Meets (Builtin.«tuple.__lt__» ⟨[.ref l,.ref b],[]⟩)
   (fun A R s=>s.heap.get? l=some { cls:=.type "tuple",dict:=dd,data:=.seq xs n,slots:=sl }/\s.heap.get? b=some { cls:=.type "tuple",dict:=dd2,data:=.seq ys n2,slots:=sl2 } /\
    LexA A.in1 s xs.size ys.size (xs.toList.zip ys.toList) k/\R (.ok (.ret (.bool k))) s) :=
 .of_wp fun prog w A R s h=>by
  obtain ⟨hp,g,d,tk,os⟩:=s;obtain ⟨h1,h2,lx,h⟩:=h;have f2:=AutoSeq1.sub_tuple_tuple;wp_walk using AutoSeq1.wpAny_loadPart' h1,AutoSeq1.wpAny_loadPart' h2,wpAny_forIn_list _ (fun rest c s'=>c.1=none/\s'=⟨hp,g,d,tk,os⟩/\LexA A.in1 ⟨hp,g,d,tk,os⟩ xs.size ys.size rest k) _
  case turn =>
   rintro ⟨y,x⟩ rest c s' ⟨hc,rfl,hx⟩;cases hx with
   | eq e lx=>exact wpAny_bind (e prog w _ _ (wpAny_pure ⟨rfl,rfl,lx⟩))
   | ne e lt =>
    refine wpAny_bind (e prog w _ _ (wpAny_bind (wpAny_rule (wpAny_bind (lt prog w _ _ ?_)))));wp_walk;exact ⟨_,rfl,h⟩
  case fin =>
   rintro ⟨c1,c2⟩ s' ⟨hc,rfl,hx⟩;cases hc;cases hx;wp_walk;refine ⟨_,rfl,?_⟩
   simpa [Builtin.Tuple.tupleCompareSizes] using h
  case h=>exact ⟨rfl,rfl,lx⟩
section
variable {A:Around}{s:Shared}
theorem LtA.tuples {l b:Addr}{xs ys:Array Value}{k:Bool}(hl:s.heap.IsTuple l xs) (hb:s.heap.IsTuple b ys) (hu:A.units < cLine) (lx:LexA A.in1 s xs.size ys.size (xs.toList.zip ys.toList) k):LtA A s (.ref l) (.ref b) k:=by
 intro prog w E Q h;obtain ⟨⟨c1,d1,t1,z1⟩,g1,e1,n1,f1⟩:=id hl;obtain ⟨⟨c2,d2,t2,z2⟩,g2,e2,n2,f2⟩:=id hb;cases e1;cases f1;cases e2;cases f2;exact richCompare_meets_room (op:=.Lt) ⟨_,g1,rfl⟩ ⟨_,g2,rfl⟩ F.slot_tuple_lt F.entry_tuple_lt (F.args_tuple_lt_2 _ _) (cF l b xs ys n1 n2 d1 d2 z1 z2 k)
  ⟨g1,g2,lx,show Value.bool k≠Value.notImplemented/\Q (.bool k) s from ⟨(fun x=>nomatch x),h⟩⟩ hu
mutual
noncomputable def ltP:PyData->PyData->Option Bool
 | .int i,.int j=>some (decide (i < j))
 | .bool p,.bool q=>some (decide (b2i p < b2i q))
 | .tuple xs,.tuple ys=>W9 xs ys
 | _,_=>none
noncomputable def W9:List PyData->List PyData->Option Bool
 | [],[]=>some false
 | [],_::_=>some true
 | _::_,[]=>some false
 | x::xs,y::ys=>if PyData.eqv x y=true then W9 xs ys else ltP x y
end
mutual
theorem cG:∀ (da db:PyData) (k:Bool) (A:Around) (s:Shared) (a b:Value) (as bs:List Addr),ltP da db=some k->Reads s.heap a da as->Reads s.heap b db bs->da.canLay0=true->db.canLay0=true->A.units+min da.depth db.depth < cLine->LtA A s a b k
 | .int i,db,k,A,s,a,b,as,bs,e,ra,rb,ha,hb,hu=>by
  cases db with
  | int j =>
   simp only [ltP] at e;cases e;cases ra;cases rb;exact fun prog w E Q h=>lt_int h
  | _=>simp only [ltP] at e;cases e
 | .bool p,db,k,A,s,a,b,as,bs,e,ra,rb,ha,hb,hu=>by
  cases db with
  | bool j =>
   simp only [ltP] at e;cases e;cases ra;cases rb;exact fun prog w E Q h=>lt_bool h
  | _=>simp only [ltP] at e;cases e
 | .tuple xs,db,k,A,s,a,b,as,bs,e,ra,rb,ha,hb,hu=>by
  cases db with
  | tuple ys =>
   simp only [ltP] at e;cases ra with
   | @tuple l o vs n _ as₁ h1 h2 h3 h4 =>
    cases rb with
    | @tuple l' o' us n' _ bs₁ k1 k2 k3 k4 =>
     refine LtA.tuples ⟨_,h1,h2,_,h3⟩ ⟨_,k1,k2,_,k3⟩ (SeqAt.room_here hu) ?_;exact O7 xs ys k A.in1 s vs.size us.size vs.toList us.toList _ _ e h4 k4 ha hb (SeqAt.room_in hu) 0 (by simp) (by simp)
  | _=>simp only [ltP] at e;cases e
 | .none,db,k,A,s,a,b,as,bs,e,ra,rb,ha,hb,hu=>by simp only [ltP] at e;cases e
 | .str _,db,k,A,s,a,b,as,bs,e,ra,rb,ha,hb,hu=>by simp only [ltP] at e;cases e
 | .list _,db,k,A,s,a,b,as,bs,e,ra,rb,ha,hb,hu=>by simp only [ltP] at e;cases e
 | .dict _,db,k,A,s,a,b,as,bs,e,ra,rb,ha,hb,hu=>by cases ha
theorem O7:∀ (xs ys:List PyData) (k:Bool) (A:Around) (s:Shared) (m n:Nat) (vs ws:List Value) (as bs:List Addr),W9 xs ys=some k->ReadsAll s.heap vs xs as->ReadsAll s.heap ws ys bs->PyData.canLayAll0 xs=true->PyData.canLayAll0 ys=true ->
  A.units+min (PyData.depthAll xs) (PyData.depthAll ys) < cLine->∀ i:Nat,m=i+vs.length->n=i+ws.length->LexA A s m n (vs.zip ws) k
 | [],ys,k,A,s,m,n,vs,ws,as,bs,e,ra,rb,ha,hb,hu,i,e1,e2=>by
  cases ra;cases ys with
  | nil =>
   cases rb;simp only [W9] at e;cases e;have:decide (m < n)=false:=by simp at e1 e2 ⊢;omega
   rw [← this];exact .nil
  | cons y ys =>
   cases rb;simp only [W9] at e;cases e;have:decide (m < n)=true:=by simp at e1 e2 ⊢;omega
   rw [← this];exact .nil
 | x::xs,ys,k,A,s,m,n,vs,ws,as,bs,e,ra,rb,ha,hb,hu,i,e1,e2=>by
  cases ra with
  | cons r rs =>
   cases ys with
   | nil =>
    cases rb;simp only [W9] at e;cases e;have:decide (m < n)=false:=by simp at e1 e2 ⊢;omega
    rw [← this];exact .nil
   | cons y ys =>
    cases rb with
    | cons r' rs' =>
     have ha':x.canLay0=true/\PyData.canLayAll0 xs=true:=by simpa [PyData.canLayAll0] using ha
     have hb':y.canLay0=true/\PyData.canLayAll0 ys=true:=by simpa [PyData.canLayAll0] using hb
     have q:=SeqAt.eqAt_reads x y A s _ _ _ _ r r' ha'.1 hb'.1 (SeqAt.room_head hu);simp only [W9] at e;split at e
     ·rename_i z;rw [z] at q;exact .eq q (O7 xs ys k A s m n _ _ _ _ e rs rs' ha'.2 hb'.2 (SeqAt.room_tail hu) (i+1) (by simp at e1;omega) (by simp at e2;omega))
     ·rename_i z;rw [Bool.not_eq_true] at z;rw [z] at q;exact .ne q (cG x y k A s _ _ _ _ e r r' ha'.1 hb'.1 (SeqAt.room_head hu))
end
end
end DL
namespace DL
open PySem PySem.Spec PyProof.Rows L2
section
variable {X:Cx}
end
noncomputable def keyB:Key->Key->Bool
 | .inl i,.inl j=>i==j
 | .inr x,.inr y=>x==y
 | _,_=>false
theorem Nt (a b:Key):keyB a b=decide (a=b):=by
 cases a with
 | inl i =>
  cases b with
  | inl j=>show (i==j)=_;by_cases h:i=j <;> simp [h]
  | inr y=>rfl
 | inr x =>
  cases b with
  | inl j=>rfl
  | inr y =>
   show (x==y)=_
   by_cases h:x=y
   ·subst h;simp
   ·rw [decide_eq_false (fun z=>h (by cases z;rfl))];exact beq_eq_false_iff_ne.mpr h
noncomputable def cH:List (Key×D)->Key->Option D
 | [],_=>none
 | p::r,k=>if keyB p.1 k=true then some p.2 else cH r k
noncomputable def putD (kvs:List (Key×D)) (k:Key) (d:D):List (Key×D) :=
 if (kvs.any fun kv=>keyB kv.1 k)=true then kvs.map (fun kv=>if keyB kv.1 k=true then (kv.1,d) else kv) else kvs++[(k,d)]
section
variable {K:PySem.W.Frag}{H H':Hp}{ρ ρ':List Addr}
noncomputable def RK (K:PySem.W.Frag) (H:Hp) (ρ:List Addr) (kvs:List (Key×D)) (xs:List (Key×V)):Prop:=xs.map (·.1)=kvs.map (·.1)/\RDs K H ρ (kvs.map (·.2)) (xs.map (·.2))
theorem RK.nil:RK K H ρ [] []:=⟨rfl,.nil⟩
theorem RK.cons {k:Key}{d:D}{v:V}{kvs:List (Key×D)}{xs:List (Key×V)}(r:RD K H ρ d v) (h:RK K H ρ kvs xs):RK K H ρ ((k,d)::kvs) ((k,v)::xs) :=
 ⟨by rw [List.map_cons,List.map_cons,h.1],.cons r h.2⟩
theorem RK.inv {k:Key}{d:D}{kvs:List (Key×D)}{xs:List (Key×V)}(h:RK K H ρ ((k,d)::kvs) xs):∃ v r,xs=(k,v)::r/\RD K H ρ d v/\RK K H ρ kvs r:=by
 obtain ⟨h1,h2⟩:=h;cases xs with
 | nil=>cases h1
 | cons p r =>
  obtain ⟨k',v⟩:=p;rw [List.map_cons,List.map_cons] at h1;injection h1 with e1 e2
  have e1:k'=k:=e1;subst e1;cases h2 with
  | cons a b=>exact ⟨v,r,rfl,a,e2,b⟩
theorem RK.inv0 {xs:List (Key×V)}(h:RK K H ρ [] xs):xs=[]:=by
 cases xs with
 | nil=>rfl
 | cons p r=>cases h.1
theorem RK.val (k:Key):∀ {kvs:List (Key×D)}{xs:List (Key×V)},RK K H ρ kvs xs->(∃ d v,cH kvs k=some d/\Nh xs k=some v/\RD K H ρ d v)\/(cH kvs k=none/\Nh xs k=none)
 | [],xs,h=>by rw [h.inv0];exact .inr ⟨rfl,rfl⟩
 | (k',d)::kvs,xs,h=>by
  obtain ⟨v,r,rfl,a,b⟩:=h.inv
  by_cases e:k'=k
  ·exact .inl ⟨d,v,by unfold cH;rw [Nt,decide_eq_true e,if_pos rfl],Om e,a⟩
  ·have e1:cH ((k',d)::kvs) k=cH kvs k:=by
    show (if keyB k' k=true then _ else _)=_;rw [Nt,decide_eq_false e,if_neg Bool.false_ne_true]
   rw [e1,Oo e];exact RK.val k b
theorem RK.any (k:Key):∀ {kvs:List (Key×D)}{xs:List (Key×V)},RK K H ρ kvs xs->(xs.any fun kv=>decide (kv.1=k))=(kvs.any fun kv=>keyB kv.1 k)
 | [],xs,h=>by rw [h.inv0];rfl
 | (k',d)::kvs,xs,h=>by
  obtain ⟨v,r,rfl,a,b⟩:=h.inv;rw [List.any_cons,List.any_cons,RK.any k b,Nt]
theorem RK.repl {d:D}{v:V}(k:Key) (rv:RD K H ρ d v):∀ {kvs:List (Key×D)}{xs:List (Key×V)},RK K H ρ kvs xs->RK K H ρ (kvs.map fun kv=>if keyB kv.1 k=true then (kv.1,d) else kv) (xs.map fun kv=>if kv.1=k then (kv.1,v) else kv)
 | [],xs,h=>by rw [h.inv0];exact .nil
 | (k',d')::kvs,xs,h=>by
  obtain ⟨v',r,rfl,a,b⟩:=h.inv;rw [List.map_cons,List.map_cons];dsimp only;rw [Nt]
  by_cases e:k'=k
  ·rw [decide_eq_true e,if_pos rfl,if_pos e];exact (RK.repl k rv b).cons rv
  ·rw [decide_eq_false e,if_neg Bool.false_ne_true,if_neg e];exact (RK.repl k rv b).cons a
theorem RK.put {d:D}{v:V}(k:Key) (rv:RD K H ρ d v) {kvs:List (Key×D)}{xs:List (Key×V)}(h:RK K H ρ kvs xs):RK K H ρ (putD kvs k d) (putK xs k v):=by
 unfold putD putK;rw [h.any k]
 by_cases e:(kvs.any fun kv=>keyB kv.1 k)=true
 ·rw [if_pos e,if_pos e];exact h.repl k rv
 ·rw [if_neg e,if_neg e];refine ⟨by rw [List.map_append,List.map_append,h.1];rfl,?_⟩;rw [List.map_append,List.map_append];exact h.2.append (.cons rv .nil)
theorem RK.length {kvs:List (Key×D)}{xs:List (Key×V)}(h:RK K H ρ kvs xs):xs.length=kvs.length:=by
 have:=congrArg List.length h.1
 simpa using this
end
noncomputable def M4 (x:D) (mh:MH):Option (List (Key×D)):=match x with
 | .ref n=>(match mh[n]? with | some (.dct kvs)=>some kvs | _=>none)
 | _=>none
theorem Xa {x:D}{mh:MH}{kvs:List (Key×D)}(h:M4 x mh=some kvs):∃ n,x=.ref n/\mh[n]?=some (.dct kvs):=by
 cases x with
 | ref n =>
  have h:(match mh[n]? with | some (.dct kvs)=>some kvs | _=>none)=some kvs:=h;split at h
  ·rename_i e;cases h;exact ⟨n,rfl,e⟩
  ·cases h
 | _=>cases h
theorem Lp {n:Nat}{mh:MH}{ds:List D}(h:mh[n]?=some (.lst ds)):M4 (.ref n) mh=none:=by
 show (match mh[n]? with | some (.dct kvs)=>some kvs | _=>none)=none;rw [h]
noncomputable def inD (neg:Bool) (x c:D) (mh:MH):Option (D×MH):=match M4 c mh with
 | none=>Uv neg x c mh
 | some _=>none
noncomputable def ixD (x y:D) (mh:MH):Option (D×MH):=match M4 x mh with
 | none=>gF x y mh
 | some _=>none
section
variable {X:Cx}
theorem Aa5 (hu:X.A.units+64 < cLine):OpR X (compareOp .In) (rD X.K (inD false)):=by
 rintro pins s σ H x y v u Q I rx ry ⟨ρ,mh,dx,dy,d,mh',q,rs,r1,r2,co⟩;unfold inD at q;split at q
 ·exact tQ hu pins s σ H x y v u Q I rx ry ⟨ρ,mh,dx,dy,d,mh',q,rs,r1,r2,co⟩
 ·cases q
theorem cI (hu:X.A.units+64 < cLine):OpR X (compareOp .NotIn) (rD X.K (inD true)):=by
 rintro pins s σ H x y v u Q I rx ry ⟨ρ,mh,dx,dy,d,mh',q,rs,r1,r2,co⟩;unfold inD at q;split at q
 ·exact Ws hu pins s σ H x y v u Q I rx ry ⟨ρ,mh,dx,dy,d,mh',q,rs,r1,r2,co⟩
 ·cases q
theorem Agp:IxR X (rD X.K ixD):=by
 rintro value slice pins s σ H x y v u Q I rx ry ⟨ρ,mh,dx,dy,d,mh',q,rs,r1,r2,co⟩ hs;unfold ixD at q;split at q
 ·exact Aew value slice pins s σ H x y v u Q I rx ry ⟨ρ,mh,dx,dy,d,mh',q,rs,r1,r2,co⟩ hs
 ·cases q
noncomputable def xN:List (Option Expr)->List Expr->Bool
 | [],[]=>true
 | some (.Constant (.str _) _ _)::ks,_::vs=>xN ks vs
 | _,_=>false
end
noncomputable def uX:Option Str->Value->Bool
 | none,.none=>true
 | none,_=>false
 | some x,v=>Value.isStrOf x v
theorem Dq {k:Option Str}{v:Value}(h:uX k v=true):(k=none/\v=.none)\/∃ x t,k=some x/\v=.str x t:=by
 cases k with
 | none=>cases v <;> first | exact .inl ⟨rfl,rfl⟩ | cases h
 | some x=>obtain ⟨t,e⟩:=Value.isStrOf_shape (show Value.isStrOf x v=true from h);exact .inr ⟨x,t,rfl,e⟩
noncomputable def Aa6 (w:World):Option Str->Int
 | none=>0xFCA86420
 | some x=>hashStr w x
theorem cJ {P:Program}{w:World}{A:Around}{E:Value->Shared->Prop}{s:Shared}{Q:Int->Shared->Prop}(h:Q 0xFCA86420 { s with toks:=s.toks+1 }):wpAny (model P w) A (pyHash .none) Q E s:=by
 have hT:s.TypeIs Value.none "NoneType":=rfl
 unfold pyHash pyHashByItsType;have hv:[Value.none].any Value.onHeap=false:=rfl;refine wpAny_bind ?_;rw [cRoomFor,if_neg (by rw [hv];exact Bool.false_ne_true)];refine wpAny_pure ?_;refine wpAny_bind (wpAny_specialOf hT F.slot_NoneType_hash.lookup ?_)
 show wpAny _ _ (if (some (Value.builtin "NoneType.__hash__")==some Value.none)=true then _ else _) Q E s;rw [if_neg (by rw [beq_builtin_none];exact Bool.false_ne_true)];refine wpAny_bind (wpAny_specialOf hT F.slot_NoneType_hash.lookup ?_)
 show wpAny _ _ (callSpecialIfBoundUnlessNone? .none "__hash__" _ >>= _) Q E s
 refine wpAny_bind (wpAny_callSpecialIfBoundUnlessNone?_slot hT F.slot_NoneType_hash
  (wpAny_call_entry F.slot_NoneType_hash hT F.entry_NoneType_hash
   (show wpAny _ _ (do ret (← mkInt 0xFCA86420)) _ _ s from wpAny_ret_mkInt ?_) (F.args_NoneType_hash_1 _)))
 exact wpAny_pure h
theorem uY {P:Program}{w:World}{A:Around}{E:Value->Shared->Prop}{s:Shared}{Q:Bool->Shared->Prop}(h:Q true s):wpAny (model P w) A (eqBool .none .none) Q E s:=by
 unfold eqBool;refine wpAny_holding ?_;rw [if_pos (by rfl)];exact wpAny_bind (wpAny_rule (wpAny_pure h))
noncomputable def Aa7 (prog:Program) (w:World):PySem.KeyKind prog w (Option Str) where
 is:=uX
 hash:=Aa6 w
 inj:=fun v a b ha hb=>by
  rcases Dq ha with ⟨rfl,rfl⟩|⟨x,t,rfl,rfl⟩
  ·rcases Dq hb with ⟨rfl,e⟩|⟨y,u,rfl,e⟩
   ·rfl
   ·exact nomatch e
  ·rcases Dq hb with ⟨rfl,e⟩|⟨y,u,rfl,e⟩
   ·exact nomatch e
   ·injection e with e1 _;rw [e1]
 byValue:=fun k v h=>by
  rcases Dq h with ⟨rfl,rfl⟩ | ⟨x,t,rfl,rfl⟩ <;> rfl
 pyHash:=fun hv h=>by
  rcases Dq hv with ⟨rfl,rfl⟩|⟨x,t,rfl,rfl⟩
  ·exact cJ h
  ·exact wpAny_pyHash_str h
 eqBool:=fun hu hv h=>by
  rcases Dq hu with ⟨rfl,rfl⟩|⟨x,t,rfl,rfl⟩
  ·rcases Dq hv with ⟨rfl,rfl⟩|⟨y,u,rfl,rfl⟩
   ·exact uY (by simpa using h)
   ·exact SeqAt.EqAt.none_str y u _ _ _ _ (by simpa using h)
  ·rcases Dq hv with ⟨rfl,rfl⟩|⟨y,u,rfl,rfl⟩
   ·exact SeqAt.EqAt.str_none x t _ _ _ _ (by simpa using h)
   ·exact wpAny_eqBool_str (by simpa using h)
 «strs»:=fun k x t v h=>by
  rcases Dq h with ⟨rfl,e⟩|⟨y,u,rfl,e⟩
  ·exact nomatch e
  ·injection e with e1 _
   subst e1;cases v <;> rfl
theorem Y6:∀ {w:World}{K:PySem.W.Frag}{es:List DictEntry}{kvs:List (Str×D)},DEnts w K es kvs->es.find? (fun e=>uX none e.key)=none
 | _,_,_,_,.nil=>rfl
 | _,_,_,_,.cons rv rd h=>by rw [List.find?_cons];exact Y6 h
section
variable {X:Cx}{a:Addr}{kvs:List (Str×D)}
theorem DicOk.mapO {pins:List (Addr×Obj)}{σ:L2.St}{H:Hp}{s:Shared}(D:DicOk X.w X.K a kvs) (I:Inv X pins σ H s):∃ f,s.heap.MapOf (Aa7 X.prog X.w) a f/\f none=none/\(∃ o,s.heap.get? a=some o/\o.dict=none)/\∀ k,(∃ d u v,kvs.lookup k=some d/\f (some k)=some u/\Cg v u/\∀ H ρ,RD X.K H ρ d v)\/(kvs.lookup k=none/\f (some k)=none):=by
 obtain ⟨o,es,ep,h1,h2,h3,h4⟩:=D.ob;refine ⟨fun k=>match k with | none=>none | some k=>Fp es.toList k,⟨o,es,ep,I.kIn a o h1,h2,h3,fun e he=>?_,fun k=>?_⟩,rfl,⟨o,I.kIn a o h1,h2.2.1⟩,J2 h4⟩
 ·obtain ⟨k,e1,e2⟩:=O2 (P:=X.prog) h4 e (by simpa using he);exact ⟨some k,e1,e2⟩
 ·cases k with
  | none =>
   show (es.find? fun e=>uX none e.key).map (·.val)=none;rw [← Array.find?_toList,Y6 h4];rfl
  | some k=>exact Mx es k
variable {e:Expr}{es:List Expr}{x:Str}{p apos cpos:Pos}
end
section
variable {X:Cx}
theorem jD {CX:CXT}{k i:Nat}{fa:Addr}{fd:FuncData}{ps:List Str}{sp:Sp}{ds:List Value}{dvs:List V}{x:Str}{p pos:Pos}{e:Expr}{es:List Expr}{t:TA}{E:XK}
  (F:FnOk X.prog X.w X.K X.mg X.base CX k fa fd ps sp) (hr:Room k X.A) (hN:X.N[i]?=some x) (hv:Vis X.env.scope x) (hk:PySem.W.keepIn X.K (.ref fa)=true) (hb:Binds X.K fd ps ds) (hd:Vals dvs ds) (hx:Dv CX X E)
  (ha:PA X (e::es) t) (hdb:(x==("__debug__":Str))=false) (hcd:(x==("__classdict__":Str))=false) (he:starEach (e::es) X.env=(false,eval e X.env)::starEach es X.env) (hpl:(backTo pos (starEach es X.env)).any (·.1)=false) :
  PE X (.Call (.Name x p) (e::es) [] pos) (fun σ H Q=>∃ y a,PySem.W.nsIn X.K mainGlobals y=some (some (.ref a))/\X.mg y=some (.ref fa)/\σ[i]?=some (some (.ref a))/\Ym sp dvs E t σ H Q):=by
 intro pins s σ H Q I h;obtain ⟨y,a,h1,h2,h3,h4⟩:=h;have e1:=PySem.W.mg_of I.kIn (I.mod.glob.keeps I.bk) h1;rw [h2] at e1;cases e1;refine wpAny_Call_Name_kw (thn (R3 hN hv hdb hcd pins s σ H (fun v H1=>v=.ref fa/\Ym sp dvs E t σ H1 Q) I ⟨_,h3,rfl,h4⟩) ?_);rintro u s1 ⟨v,H1,I1,rv,rfl,q⟩;cases (show u=Value.ref fa from rv);refine PySem.W.callWith_K (h₀:=X.base) I1.ok.mod.kin hk (thn (ha pos pins s1 σ H1 _ I1 q) fun us s2 ⟨vs,H2,I2,r,q2⟩=>⟨I2.kIn,?_⟩) he hpl;exact Oj F hr hb hd hx I2 r q2
noncomputable def O8 (cal:Str->Option (List Str×Fn)) (i:Nat) (mr:DM (List D)):DM D:=fun loc mh=>match loc[i]? with
 | some (some (.fn y))=>(match cal y with
  | some (_,g)=>(mr.bnd fun ds=>Zl (g ds)) loc mh
  | none=>none)
 | _=>none
theorem jE {cal:Str->Option (List Str×Fn)}{k i:Nat}{x:Str}{p pos:Pos}{a:Expr}{es:List Expr}{mr:DM (List D)}{E:XK}
  (hc:∀ y ps f,cal y=some (ps,f)->∃ fa fd,X.mg y=some (.ref fa)/\PySem.W.keepIn X.K (.ref fa)=true/\Binds X.K fd ps []/\FnOk X.prog X.w X.K X.mg X.base CX0 k fa fd ps (spD X.K ps.length f)/\∀ ds mh r,f ds mh=some r->ds.length=ps.length)
  (hr:Room k X.A) (hN:X.N[i]?=some x) (hv:Vis X.env.scope x) (hx:Dv CX0 X E) (ha:DA X (a::es) mr)
  (hdb:(x==("__debug__":Str))=false) (hcd:(x==("__classdict__":Str))=false) (he:starEach (a::es) X.env=(false,eval a X.env)::starEach es X.env) (hpl:(backTo pos (starEach es X.env)).any (·.1)=false) :
  DE X (.Call (.Name x p) (a::es) [] pos) (O8 cal i mr):=fun loc mh=>by
 unfold O8;split
 ·rename_i y el;split
  ·rename_i ps f ec;obtain ⟨fa,fd,h1,h2,h3,h4,h5⟩:=hc y ps f ec;refine Cm (jD h4 hr hN hv h2 h3 .nil hx (ha loc mh) hdb hcd he hpl) ?_;rintro σ H Q ⟨ρ,d,mh',q,rl,rs,co⟩;obtain ⟨ds,m1,ea,q⟩:=Be q;obtain ⟨v,e1,r⟩:=rl.2 i _ el;cases r with
   | @fn _ ad hn =>
    refine ⟨y,ad,hn,h1,e1,ρ,ds,m1,ea,rl,rs,fun H1 ρ1 vs e1 rs1 r1=>?_⟩;show spD X.K ps.length f (vs++[]) H1 Q E;rw [List.append_nil];exact ⟨by rw [← r1.length];exact h5 _ _ _ q,ρ1,m1,ds,d,mh',q,rs1,r1,co.ev e1⟩
  ·exact Cu
 ·exact Cu
noncomputable def Rt (g:D->D->MH->Option (D×MH)):D->D->MH->Option (D×MH):=fun x y mh=>match jC x mh with
 | some ds=>(match y with
  | .int k=>if (-(2 ^ 62)<=k/\k < 2 ^ 62)/\ds.length * k.toNat<=1000000 then some (.ref mh.length,mh++[.lst (List.replicate k.toNat ds).flatten]) else none
  | _=>none)
 | none=>g x y mh
theorem jF {g:D->D->MH->Option (D×MH)}(h:OpR X (binaryOp .Mult) (rD X.K g)):OpR X (binaryOp .Mult) (rD X.K (Rt g)):=by
 rintro pins s σ H x y v u Q I rx ry ⟨ρ,mh,dx,dy,d,mh',q,rs,r1,r2,co⟩;unfold Rt at q;split at q
 ·rename_i ds e;obtain ⟨n,rfl,en⟩:=W8 e;split at q
  ·rename_i k;split at q
   ·rename_i hk;cases q;cases r2;cases r1 with
    | @ref _ a ha =>
     obtain ⟨a',ha',xs,hl,rr⟩:=rs.at en;rw [ha] at ha';cases ha';refine zZ pins s σ H _ _ v u Q I rx ry ⟨a,k,xs,rfl,rfl,hl,by omega,by omega,by rw [← rr.length,sizeLine_eq];omega,Co.newL rs (rr.rep _) co⟩
   ·cases q
  ·cases q
 ·exact h pins s σ H x y v u Q I rx ry ⟨ρ,mh,dx,dy,d,mh',q,rs,r1,r2,co⟩
end
theorem jG {X:Cx}:OpR X (binaryOp .FloorDiv) (rI (fun _ j=>j≠0/\j.natAbs < 10889035741470030830827987437816582766592) fun i j=>.int (i.fdiv j)):=opI fun _ j _ _ _ _ _ hc q=>floordiv_int hc.1 q (.inl (PyProof.noPylong_of_log2 (by
 have h:j.natAbs < 2 ^ 133:=hc.2
 by_cases h0:j.natAbs=0
 ·rw [h0];decide +kernel
 ·have h60:j.natAbs.log2 < 133:=(Nat.log2_lt h0).mpr h
  omega)))
structure SC where
 N:List Str
 scope:Scope
 own:Str->Bool
structure Gb where
 cal:Str->Option (List Str×Fn)
 con:Str->Option D
 dic:Str->Option (List (Str×D))
 fld:Str->Str->Bool
 met:Str->Str->Option (List Str×Fn)
 mkr:Str->Option Str
noncomputable def slot (N:List Str) (x:Str):Option Nat:=N.findIdx? (fun y=>y==x)
noncomputable def jH (sc:Scope) (x:Str):Bool:=match sc.names.lookup x with
 | some .local=>true
 | some .cell=>true
 | some .free=>true
 | _=>false
noncomputable def cL (sc:Scope) (x:Str):Bool:=match sc.names.lookup x with
 | some .local=>true
 | some .cell=>true
 | _=>false
noncomputable def glB (sc:Scope) (x:Str):Bool:=match sc.names.lookup x with
 | some .globalImplicit=>true
 | _=>false
noncomputable def Vb (i j:Int):Bool:=decide (-(2 ^ 64) < i/\i < 2 ^ 64) || decide (-(2 ^ 64) < j/\j < 2 ^ 64)
noncomputable def Ae4:Operator->Option (D->D->MH->Option (D×MH))
 | .Add=>some Bu
 | .Sub=>some (iop (fun _ _=>true) fun i j=>i - j)
 | .Mult=>some (Y5 (Rt (iop Vb fun i j=>i * j)))
 | .FloorDiv=>some (iop (fun _ j=>decide (j≠0)&&decide (j.natAbs < 10889035741470030830827987437816582766592)) fun i j=>i.fdiv j)
 | .Mod=>some (iop (fun _ j=>decide (j≠0)) fun i j=>i.fmod j)
 | .Pow=>some (iop (fun i j=>decide (0<=j)&&(decide (j<=1000000)&&decide (i.natAbs < 2 ^ 64))) fun i j=>i ^ j.toNat)
 | .LShift=>some (iop (fun i j=>decide (0<=j)&&(decide (j<=1000000)&&decide (i.natAbs < 2 ^ 64))) fun i j=>i * 2 ^ j.toNat)
 | .RShift=>some (iop (fun _ j=>decide (0<=j)) fun i j=>i / 2 ^ j.toNat)
 | .BitAnd=>some (iop (fun _ _=>true) Builtin.bitAnd)
 | .BitOr=>some (iop (fun _ _=>true) Builtin.bitOr)
 | _=>none
noncomputable def O9:CmpOp->(D->D->MH->Option (D×MH))
 | .Eq=>eqD
 | .NotEq=>neD
 | .Lt=>Qq fun i j=>decide (i < j)
 | .LtE=>Qq fun i j=>decide (i<=j)
 | .Gt=>Qq fun i j=>decide (j < i)
 | .GtE=>Qq fun i j=>decide (j<=i)
 | .Is=>isD false
 | .IsNot=>isD true
 | .In=>inD false
 | .NotIn=>inD true
theorem uZ {X:Cx}{op:Operator}{f:D->D->MH->Option (D×MH)}(h:Ae4 op=some f):OpR X (binaryOp op) (rD X.K f):=by
 cases op <;> (try cases h)
 ·exact tR
 ·exact Sw zA
 ·refine jB (jF (J1 zB fun i j h=>?_));unfold Vb at h;rw [Bool.or_eq_true,decide_eq_true_iff,decide_eq_true_iff] at h;exact h
 ·exact J1 rP fun i j h=>of_decide_eq_true h
 ·refine J1 zE fun i j h=>?_
  rw [Bool.and_eq_true,Bool.and_eq_true,decide_eq_true_iff,decide_eq_true_iff,decide_eq_true_iff] at h;exact ⟨h.1,h.2.1,h.2.2⟩
 ·refine J1 zF fun i j h=>?_
  rw [Bool.and_eq_true,Bool.and_eq_true,decide_eq_true_iff,decide_eq_true_iff,decide_eq_true_iff] at h;exact ⟨h.1,h.2.1,h.2.2⟩
 ·exact J1 zG fun i j h=>of_decide_eq_true h
 ·exact Sw Ad9
 ·exact Sw zH
 ·refine J1 jG fun i j h=>?_
  rw [Bool.and_eq_true,decide_eq_true_iff,decide_eq_true_iff] at h;exact ⟨h.1,h.2⟩
theorem Hu {X:Cx}(hu:X.A.units+64 < cLine) (op:CmpOp):OpR X (compareOp op) (rD X.K (O9 op)):=by
 cases op
 ·exact Aam hu
 ·exact Aan hu
 ·exact Nq Aea
 ·exact Nq Aeb
 ·exact Nq Aec
 ·exact Nq Aed
 ·exact Aao
 ·exact aZ
 ·exact Aa5 hu
 ·exact cI hu
noncomputable def isStar:Expr->Bool
 | .Starred ..=>true
 | _=>false
noncomputable def isSet:Expr->Bool
 | .Set ..=>true
 | _=>false
noncomputable def Jc:Expr->Bool
 | .ListComp ..=>true
 | .SetComp ..=>true
 | .DictComp ..=>true
 | _=>false
noncomputable def isSlice:Expr->Bool
 | .Slice ..=>true
 | _=>false
noncomputable def baseOk:Expr->Bool
 | .Call (.Name ..) [] [] _=>false
 | _=>true
noncomputable def tyOf (c:Str):Option String :=
 if c == "int" then some "int" else if c == "bool" then some "bool" else if c == "str" then some "str" else if c == "tuple" then some "tuple" else if c == "list" then some "list" else if c == "dict" then some "dict" else none
noncomputable def cM:Fn:=fun _ _=>none
noncomputable def S7 (_:D) (_:List D) (_:MH):Option (D×MH):=none
theorem Kr {X:Cx}{f:Value}:Dd X f (rDs X.K cM):=by
 rintro _ _ _ _ _ _ _ _ _ ⟨_,_,_,_,_,e,_⟩;cases e
theorem M5 {X:Cx}{id:String}:MtR X id (rDM X.K S7):=by
 rintro _ _ _ _ _ _ _ _ _ _ _ _ ⟨_,_,_,_,_,_,e,_⟩;cases e
noncomputable def jJ (x:Str):Option Fn:=if x=="len" then some Dn else if x=="list" then some G6 else if x=="tuple" then some En else if x=="all" then some S5 else if x=="any" then some cM else if x=="max" then some cM else if x=="min" then some Y4 else if x=="int" then some cM else if x=="sorted" then some cM else if x=="sum" then some cM else none
noncomputable def Lq (m:Str) (n:Nat):Option (String×(D->List D->MH->Option (D×MH))) :=
 if m == "append"&&n==1 then some ("list",Ci) else if m == "bit_length"&&n==0 then some ("int",iB) else if m == "pop"&&n==1 then some ("list",S7) else if m == "pop"&&n==0 then some ("list",S7) else if m == "extend"&&n==1 then some ("list",S7) else if m == "index"&&n==1 then some ("tuple",S7) else none
noncomputable def Fv:Expr->Bool
 | .Tuple ..=>true
 | _=>false
noncomputable def setArg (_:Expr) (_:List Expr):Option Expr:=none
noncomputable def Xb:Expr->List Expr->Option Expr
 | .Call (.Name g _) [b] [] _,[]=>if g == "range"&&!isStar b then some b else none
 | _,_=>none
noncomputable def Y7 (_:SC) (_:Expr) (_:CmpOp) (_:Expr):Option (Nat×Nat):=none
noncomputable def Ej (scope:Scope):List Str:=(scope.names.filter fun p=>(match p.2 with | .local=>true | .cell=>true | .free=>true | _=>false)).map (·.1)
noncomputable def Pa (N:List Str) (scope:Scope):List (Option Nat):=(Ej scope).map fun x=>match scope.names.lookup x with
 | some .free=>slot N x
 | _=>none
noncomputable def Ks (scope outer:Scope):Scope:={ scope with names:=scope.names.map fun (n,k)=>if (k==.free&&outer.kind==.function&&outer.names.lookup n==some .cell) then (n,.cell) else (n,k) }
noncomputable def S8 (scope:Scope) (sc:SC):SC:={ N:=Ej scope,scope:=Ks scope sc.scope,own:=fun x=>cL scope x }
noncomputable def Nu (scope:Scope) (sc:SC):Bool :=
 (match scope.kind with | .function=>true | _=>false)&&(decide ((scope.names.map (·.1)).Nodup) &&
  scope.names.all fun p=>(match p.2 with | .free=>(match sc.scope.names.lookup p.1 with | some .cell=>true | some .free=>true | _=>false) | _=>true))
noncomputable def Vc (G:Gb) (sc:SC):Expr->Option (List (Str×D))
 | _=>none
noncomputable def jK (G:Gb) (sc:SC) (op:CmpOp) (b:Expr):Option (Bool×List (Str×D)):=match op with
 | .In=>(match Vc G sc b with | some kvs=>some (false,kvs) | none=>none)
 | .NotIn=>(match Vc G sc b with | some kvs=>some (true,kvs) | none=>none)
 | _=>none
noncomputable def xO (G:Gb) (f:Str):List Expr->Option Str
 | []=>G.mkr f
 | _=>none
noncomputable def iGn (sc:SC) (x:Str):Option Nat:=if cL sc.scope x&&sc.own x then slot sc.N x else none
noncomputable def iGs (sc:SC):List Expr->Option (List Nat)
 | []=>some []
 | .Name x _::r=>match iGn sc x with
  | some i=>match iGs sc r with
   | some is=>some (i::is)
   | none=>none
  | none=>none
 | _=>none
noncomputable def iG (sc:SC):Expr->Option (List Nat×GM)
 | .Name x _=>match iGn sc x with | some i=>some ([i],Aw i) | none=>none
 | .Tuple es _ _=>match iGs sc es with | some is=>some (is,Ms is) | none=>none
 | _=>none
noncomputable def Aa8:Option Str->Bool
 | some n=>n == "default"
 | none=>false
noncomputable def vA:Expr->Bool
 | .Constant .none _ _=>true
 | _=>false
noncomputable def Xc (k:Keyword):Bool:=Aa8 k.arg&&vA k.value
theorem Vd {k:Keyword}(h:Xc k=true):∃ j cp kp,k=⟨some "default",.Constant .none j cp,kp⟩:=by
 obtain ⟨n,v,p⟩:=k;unfold Xc at h;rw [Bool.and_eq_true] at h;obtain ⟨h1,h2⟩:=h;cases n with
 | none=>cases h1
 | some n =>
  have e:n = "default":=eq_of_beq h1
  subst e;cases v with
  | Constant c j cp =>
   cases c with
   | none=>exact ⟨_,_,_,rfl⟩
   | _=>cases h2
  | _=>cases h2
noncomputable def iEb (E:SC->Expr->DM D) (T:SC->Expr->DM Bool) (A:SC->List Expr->DM (List D)) (F:SC->List Expr->DM Bool) (I:SC->Expr->Expr->DM Src) (G:Gb) (sc:SC) (e:Expr):DM D:=match e with
 | .Constant (.int i) _ _=>Zr (.int i)
 | .Constant (.bool b) _ _=>Zr (.bl b)
 | .Constant .none _ _=>Zr .non
 | .Constant (.str x) _ _=>Zr (.str x)
 | .Name x _=>if jH sc.scope x&&!(x == "__debug__")&&!(x == "__classdict__") then (match slot sc.N x with
   | some i=>fun loc mh=>match loc[i]? with | some (some d)=>some (d,mh) | _=>none
   | none=>Zb) else if glB sc.scope x&&!(x == "__debug__") then (match G.con x with | some d=>Zr d | none=>Zb) else Zb
 | .BinOp a op b _=>(match Ae4 op with | some f=>dop f (E sc a) (E sc b) | none=>Zb)
 | .UnaryOp .USub a _=>(E sc a).bnd fun x=>Zl (Aaw x)
 | .UnaryOp .Not a _=>(Al (E sc a)).bnd fun c=>Zr (.bl (!c))
 | .BoolOp op [a] _=>E sc a
 | .BoolOp .And (a::b::r) p=>Dw (E sc a) (E sc (.BoolOp .And (b::r) p))
 | .BoolOp .Or (a::b::r) p=>gA (E sc a) (E sc (.BoolOp .Or (b::r) p))
 | .Compare a [op] [b] _=>(match Y7 sc a op b with
  | some (i,j)=>iJ (fun loc mh=>match loc[i]? with | some (some d)=>some (d,mh) | _=>none) (fun loc mh=>match loc[j]? with | some (some d)=>some (d,mh) | _=>none)
  | none=>match jK G sc op b with
   | some (neg,kvs)=>Zb
   | none=>if isSet b then Zb else dop (O9 op) (E sc a) (E sc b))
 | .Compare a [op,op'] [b,c] _=>if isSet c then Zb else Hi (O9 op) (O9 op') (E sc a) (E sc b) (E sc c)
 | .IfExp c a b _=>dIf (T sc c) (E sc a) (E sc b)
 | .Tuple es _ _=>(A sc es).bnd fun ds=>Zl (Rc ds)
 | .List es _=>(A sc es).bnd fun ds=>Zl (Rf ds)
 | .Dict ks vs _=>if xN ks vs&&!ks.isEmpty&&decide (ks.length<=15) then Zb else Zb
 | .Subscript a (.Slice lo hi none _) _=>dSl (E sc a) (match lo with | some e=>some (E sc e) | none=>none) (match hi with | some e=>some (E sc e) | none=>none)
 | .Subscript a b _=>if isSlice b then Zb else (match Vc G sc a with | some kvs=>Zb | none=>dop ixD (E sc a) (E sc b))
 | .Attribute o f _=>if baseOk o then Js G.fld f (E sc o) else Zb
 | .Call (.Name f _) [] [] _=>if glB sc.scope f&&!(f == "__debug__") then (match G.cal f with | some ([],g)=>Zl (g []) | _=>Zb) else Zb
 | .Call (.Name f _) (a::es) [] _=>if jH sc.scope f&&!(f == "__debug__")&&!(f == "__classdict__")&&!(isStar a)&&es.all (fun e=>!isStar e) then (match slot sc.N f with | some i=>O8 G.cal i (A sc (a::es)) | none=>Zb) else if glB sc.scope f&&!(f == "__debug__")&&!(f == "__name__")&&!(isStar a)&&es.all (fun e=>!isStar e) then
   (match G.cal f with
   | some (_,g)=>(A sc (a::es)).bnd fun ds=>Zl (g ds)
   | none=>match xO G f es with
    | some fl=>(E sc a).bnd fun d=>Zr (.obj f [fl] [d])
    | none=>match setArg a es with
    | some b=>if glB sc.scope "set" then (if f == "len" then (E sc b).bnd (fun x=>Zl (uM x)) else if f == "sorted" then (E sc b).bnd (fun x=>Zl (iH x)) else Zb) else Zb
    | none=>match Xb a es with
    | some b=>if glB sc.scope "range" then (if f == "list" then (E sc b).bnd (fun x=>Zl (Fq x)) else if f == "tuple" then (E sc b).bnd (fun x=>Zl (Nr x)) else Zb) else Zb
    | none=>if f == "isinstance" then (match es with
    | [.Name c _]=>if glB sc.scope c&&!(c == "__debug__")&&!(c == "__name__") then (match tyOf c with | some ty=>(E sc a).bnd fun x=>Zl (Ov ty x) | none=>Zb) else Zb
    | _=>Zb) else match jJ f with
     | some g=>(A sc (a::es)).bnd fun ds=>Zl (g ds)
     | none=>Zb) else Zb
 | .Call (.Name f _) [a] (kw::ks) _=>if glB sc.scope f&&!(isStar a)&&Xc kw&&ks.isEmpty then (if f == "max" then Zb else if f == "min" then Zb else Zb) else Zb
 | .Call (.Attribute o m ap) [] [] p=>if baseOk o&&(ap.endLine==p.line) then (match Lq m 0 with | some (ty,f)=>Cz ty f (E sc o) (Zr []) | none=>Hj G.met m (E sc o) (Zr [])) else Zb
 | .Call (.Attribute o m ap) (a::es) [] p=>if baseOk o&&(ap.endLine==p.line)&&!(isStar a)&&es.all (fun e=>!isStar e)&&decide ((a::es).length < 20) then (if m == "get" then (match Vc G sc o with | some kvs=>Zb | none=>Zb) else if m == "count"&&es.isEmpty then Yy "tuple" S7 "list" S7 (E sc o) (A sc (a::es)) else if m == "index"&&es.isEmpty then Yy "tuple" S7 "list" S7 (E sc o) (A sc (a::es)) else (match Lq m (a::es).length with | some (ty,f)=>Cz ty f (E sc o) (A sc (a::es)) | none=>Hj G.met m (E sc o) (A sc (a::es)))) else Zb
 | .ListComp elt [⟨tg,iter,ifs,k⟩] scope _=>if k==0&&Nu scope sc&&!(isSet iter) then (match iG (S8 scope sc) tg with
   | some (ws,g)=>if ws.all (fun i=>match (Pa sc.N scope)[i]? with | some (some _)=>false | _=>true) then Df (I sc tg iter) (Pa sc.N scope) g (F (S8 scope sc) ifs) (E (S8 scope sc) elt) else Zb
   | none=>Zb) else Zb
 | _=>Zb
noncomputable def iTb (E:SC->Expr->DM D) (T:SC->Expr->DM Bool) (A:SC->List Expr->DM (List D)) (F:SC->List Expr->DM Bool) (I:SC->Expr->Expr->DM Src) (G:Gb) (sc:SC) (e:Expr):DM Bool:=match e with
 | .UnaryOp .Not a _=>Dk (T sc a)
 | .BoolOp op [a] _=>T sc a
 | .BoolOp .And (a::b::r) p=>Ht (T sc a) (T sc (.BoolOp .And (b::r) p))
 | .BoolOp .Or (a::b::r) p=>J0 (T sc a) (T sc (.BoolOp .Or (b::r) p))
 | .BoolOp _ [] _=>Zb
 | .IfExp ..=>Zb
 | .Compare a [op] [b] _=>(match jK G sc op b with
  | some (neg,kvs)=>Zb
  | none=>if isSet b then Zb else Al (dop (O9 op) (E sc a) (E sc b)))
 | .Compare a [op,op'] [b,c] _=>if isSet c then Zb else Al (Hi (O9 op) (O9 op') (E sc a) (E sc b) (E sc c))
 | .Compare ..=>Zb
 | e=>Dy (E sc e)
noncomputable def iIb (E:SC->Expr->DM D) (T:SC->Expr->DM Bool) (A:SC->List Expr->DM (List D)) (F:SC->List Expr->DM Bool) (I:SC->Expr->Expr->DM Src) (G:Gb) (sc:SC) (tg e:Expr):DM Src:=match e with
 | .Call (.Name f p) [a] [] p'=>if f == "range"&&glB sc.scope f then (if isStar a then Zb else Hz Jo (A sc [a])) else if f == "enumerate"&&glB sc.scope f then (if isStar a || !(Fv tg) then Zb else Kq (E sc a)) else Dt (E sc (.Call (.Name f p) [a] [] p'))
 | .Call (.Name f p) [a,b] [] p'=>if f == "range"&&glB sc.scope f then (if isStar a || isStar b then Zb else Hz Ww (A sc [a,b])) else if f == "zip"&&glB sc.scope f then (if isStar a || isStar b || !(Fv tg) then Zb else U9 (A sc [a,b])) else Dt (E sc (.Call (.Name f p) [a,b] [] p'))
 | .Call (.Name f p) [a,b,c] [] p'=>if f == "range"&&glB sc.scope f then (if isStar a || isStar b || isStar c then Zb else Zb) else Dt (E sc (.Call (.Name f p) [a,b,c] [] p'))
 | e=>Dt (E sc e)
mutual
noncomputable def iE (G:Gb):Nat->SC->Expr->DM D
 | 0,_,_=>Zb
 | n+1,sc,e=>iEb (iE G n) (iT G n) (iA G n) (iF G n) (iI G n) G sc e
termination_by structural n=>n
noncomputable def iT (G:Gb):Nat->SC->Expr->DM Bool
 | 0,_,_=>Zb
 | n+1,sc,e=>iTb (iE G n) (iT G n) (iA G n) (iF G n) (iI G n) G sc e
termination_by structural n=>n
noncomputable def iA (G:Gb):Nat->SC->List Expr->DM (List D)
 | 0,_,_=>Zb
 | n+1,sc,es=>match es with
  | []=>Zr []
  | a::r=>if isStar a then Zb else Aa (iE G n sc a) (iA G n sc r)
termination_by structural n=>n
noncomputable def iF (G:Gb):Nat->SC->List Expr->DM Bool
 | 0,_,_=>Zb
 | n+1,sc,es=>match es with
  | []=>Zr true
  | [c]=>iT G n sc c
  | _=>Zb
termination_by structural n=>n
noncomputable def iI (G:Gb):Nat->SC->Expr->Expr->DM Src
 | 0,_,_,_=>Zb
 | n+1,sc,tg,e=>iIb (iE G n) (iT G n) (iA G n) (iF G n) (iI G n) G sc tg e
termination_by structural n=>n
end
noncomputable def Ae5 (sc:SC) (x:Str) (px:Pos) (y:Str) (py:Pos) (a b:Expr):Bool :=
 ((if sc.scope.kind.isAnnotationScope then ScopeKind.function else sc.scope.kind)==.function)&&(sc.scope.names.lookup x==some .local)&&(sc.scope.names.lookup y==some .local)&&(py.line==px.line)&&!(x==y)&&!isStar a&&!isStar b&&!([a,b].all (foldedForSure 8))&&!([a,b].all (constantsAlone 8))
noncomputable def Aa9 (mr:DM (List D)) (i j:Nat):SM:=fun loc mh=>match mr loc mh with
 | some ([d,e],h)=>some (.nx,(loc.set i (some d)).set j (some e),h)
 | _=>none
noncomputable def iGt (G:Gb) (n:Nat) (sc:SC) (tg:Expr):Option GM:=match tg with
 | .Subscript o i _=>if isSlice i then none else some (gP (iE G n sc o) (iE G n sc i))
 | tg=>match iG sc tg with | some (_,g)=>some g | none=>none
noncomputable def Aba (n:Nat) (G:Gb) (sc:SC) (tg v:Expr):SM:=match tg,v with
 | .Name y py,.ListComp elt gens scope vp=>(match iG sc (.Name y py) with | some (_,g)=>Bb (iE G n sc (.ListComp elt gens scope vp)) g | none=>SM.bad)
 | .Tuple [.Name x px,.Name y py] _ _,.Tuple [a,b] _ _=>if Ae5 sc x px y py a b then (match slot sc.N x,slot sc.N y with | some i,some j=>Aa9 (iA G n sc [a,b]) i j | _,_=>SM.bad) else SM.bad
 | tg,v=>if Jc v || (Fv tg&&Fv v) then SM.bad else (match iGt G n sc tg with | some g=>Bb (iE G n sc v) g | none=>SM.bad)
noncomputable def iSb (n:Nat) (B:SC->List Stmt->SM) (G:Gb) (sc:SC) (s:Stmt):SM:=match s with
 | .Expr e _=>if Jc e then SM.bad else Dz (iE G n sc e)
 | .Pass _=>Zn
 | .Break _=>fun loc mh=>some (.bk,loc,mh)
 | .Continue _=>fun loc mh=>some (.ct,loc,mh)
 | .Return (some e) _=>Am (iE G n sc e)
 | .Return none _=>fun loc mh=>some (.rt .non,loc,mh)
 | .Assign [tg] v _=>Aba n G sc tg v
 | .If c a b _=>ifS (iT G n sc c) (B sc a) (B sc b)
 | .For tg it body [] _=>if isSet it then SM.bad else (match iG sc tg with | some (_,g)=>Ge (iI G n sc tg it) g (B sc body) | none=>SM.bad)
 | _=>SM.bad
mutual
noncomputable def iS (G:Gb):Nat->SC->Stmt->SM
 | 0,_,_=>SM.bad
 | n+1,sc,s=>iSb n (iSs G n) G sc s
termination_by structural n=>n
noncomputable def iSs (G:Gb):Nat->SC->List Stmt->SM
 | 0,_,_=>SM.bad
 | n+1,sc,ss=>match ss with
  | []=>Zn
  | s::r=>Ab (iS G n sc s) (iSs G n sc r)
termination_by structural n=>n
end
structure FnI where
 ps:List Str
 N:List Str
 scope:Scope
 body:List Stmt
noncomputable def Ad (G:Gb) (n:Nat) (f:FnI):Fn:=fun ds mh=>if ds.length=f.ps.length then (match iSs G n { N:=f.N,scope:=f.scope,own:=fun _=>true } f.body (ds.map some++List.replicate (f.N.length - ds.length) none) mh with
 | some (.rt d,_,mh')=>some (d,mh')
 | some (.nx,_,mh')=>some (.non,mh')
 | _=>none) else none
noncomputable def Ac:Nat:=60
structure Tb where
 tb:Str->Option FnI
 con:Str->Option D
 dic:Str->Option (List (Str×D))
 fld:Str->Str->Bool
 tbm:Str->Str->Option FnI
 mkr:Str->Option Str
noncomputable def GkN (T:Tb):Nat->Gb
 | 0=>{ cal:=fun _=>none,con:=T.con,dic:=T.dic,fld:=T.fld,met:=fun _ _=>none,mkr:=T.mkr }
 | k+1=>{ cal:=fun x=>(match T.tb x with | some I=>some (I.ps,Ad (GkN T k) Ac I) | none=>none),con:=T.con,dic:=T.dic,fld:=T.fld,met:=fun c m=>(match T.tbm c m with | some I=>some (I.ps,Ad (GkN T k) Ac I) | none=>none),mkr:=T.mkr }
noncomputable def Ku:List Str:=["len", "list", "tuple", "range", "isinstance", "int", "bool", "str", "dict", "set", "sorted", "all", "any", "max", "min", "enumerate", "zip", "sum"]
structure GOk (P:Program) (w:World) (K:PySem.W.Frag) (mg:Str->Option Value) (base:Heap) (k:Nat) (G:Gb):Prop where
 fn:∀ x ps f,G.cal x=some (ps,f)->∃ fa fd,mg x=some (.ref fa)/\PySem.W.keepIn K (.ref fa)=true/\Binds K fd ps []/\FnOk P w K mg base CX0 (k+2) fa fd ps (spD K ps.length f)/\∀ ds mh r,f ds mh=some r->ds.length=ps.length
 con:∀ x d,G.con x=some d->∃ u v,mg x=some u/\Cg v u/\∀ H ρ,RD K H ρ d v
 blt:∀ b∈Ku,mg b=none
 dic:∀ x kvs,G.dic x=some kvs->∃ a,mg x=some (.ref a)/\DicOk w K a kvs
 fld:∀ c f,G.fld c f=true->∃ C,PySem.W.nsIn K mainGlobals c=some (some (.ref C))/\Cls K C/\Gn K C f
 met:∀ c m ps g,G.met c m=some (ps,g)->∃ C fa fd,PySem.W.nsIn K mainGlobals c=some (some (.ref C))/\Cls K C/\Meth K C m fa/\Binds K fd ps []/\FnOk P w K mg base CX0 (k+2) fa fd ps (spD K ps.length g)/\∀ ds mh r,g ds mh=some r->ds.length=ps.length
 mkr:∀ c f,G.mkr c=some f->∃ C fa fd ps,PySem.W.nsIn K mainGlobals c=some (some (.ref C))/\Mk K C fa/\mg c=some (.ref C)/\Binds K fd ps []/\FnOk P w K mg base CX0 1 fa fd ps (spI C f)
structure XOk (X:Cx) (k:Nat) (G:Gb) (sc:SC):Prop where
 N:X.N=sc.N
 nd:sc.N.Nodup
 sco:X.env.scope=sc.scope
 own:∀ x,sc.own x=true->L2.Loc sc.scope x->X.fn x=true\/sc.scope.names.lookup x=some .local
 calm:X.calm=true
 xe:X.xe=fun _ _=>False
 room:Room (k+2) X.A
 g:GOk X.prog X.w X.K X.mg X.base k G
theorem Ew {N:List Str}{x:Str}{i:Nat}(h:slot N x=some i):N[i]?=some x:=by
 unfold slot at h;obtain ⟨hl,hp,_⟩:=List.findIdx?_eq_some_iff_getElem.mp h;rw [List.getElem?_eq_getElem hl];exact congrArg some (eq_of_beq hp)
theorem vB {sc:Scope}{x:Str}(h:jH sc x=true):Vis sc x:=by
 unfold jH at h;split at h
 ·exact .inl (by assumption)
 ·exact .inr (.inl (by assumption))
 ·exact .inr (.inr (by assumption))
 ·cases h
theorem S9 {sc:Scope}{x:Str}(h:cL sc x=true):L2.Loc sc x:=by
 unfold cL at h;split at h
 ·exact .inl (by assumption)
 ·exact .inr (by assumption)
 ·cases h
theorem Abb {sc:Scope}{x:Str}(h:glB sc x=true):sc.names.lookup x=some .globalImplicit:=by
 unfold glB at h;split at h
 ·assumption
 ·cases h
section
variable {X:Cx}{k:Nat}{G:Gb}{sc:SC}
theorem XOk.gl (O:XOk X k G sc) {x:Str}(h:glB sc.scope x=true):Gl X x:=by
 show X.env.scope.names.lookup x=_;rw [O.sco];exact Abb h
theorem XOk.vis (O:XOk X k G sc) {x:Str}(h:jH sc.scope x=true):Vis X.env.scope x:=by rw [O.sco];exact vB h
theorem XOk.units (O:XOk X k G sc):X.A.units+64 < cLine:=O.room.units
theorem Cy {a:Expr}{es:List Expr}{env:Env}(h:isStar a=false):starEach (a::es) env=(false,eval a env)::starEach es env:=by
 cases a <;> first | rfl | cases h
theorem Ck {pos:Pos}{env:Env}:∀ {es:List Expr},(es.all fun e=>!isStar e)=true->(backTo pos (starEach es env)).any (·.1)=false
 | [],_=>rfl
 | a::r,h=>by
  rw [List.all_cons,Bool.and_eq_true] at h;have h1:isStar a=false:=by simpa using h.1
  rw [Cy h1];show (false || (backTo pos (starEach r env)).any (·.1))=false;rw [Ck h.2];rfl
theorem Tc {pos:Pos}{env:Env}:∀ {es:List Expr},(es.all fun e=>!isStar e)=true->(backTo pos (starEach es env)).all (fun x=>!x.1)=true
 | [],_=>rfl
 | a::r,h=>by
  rw [List.all_cons,Bool.and_eq_true] at h;have h1:isStar a=false:=by simpa using h.1
  rw [Cy h1];show (true&&(backTo pos (starEach r env)).all (fun x=>!x.1))=true;rw [Tc h.2];rfl
theorem Ea {o:Expr}{name:Str}{env:Env}{w:Sem Value}(h:baseOk o=true):attributeBase o name env w=w:=by
 cases o <;> try rfl
 rename_i f as kw p;cases f <;> try rfl
 cases as <;> try rfl
 cases kw <;> try rfl
 cases h
theorem Xd {e:Expr}{env:Env}(h:isSet e=false):∀ x,foldedSetIterable e env x=pure x:=by
 intro x;cases e <;> first | rfl | cases h
theorem Kv {op:CmpOp}{e:Expr}(h:isSet e=false):behindInMarks op e=false:=by
 cases e <;> first | rfl | cases h
theorem Ae6 {b:Expr}(h:isSlice b=false):R8 b:=by
 intro o i;cases b <;> first | rfl | cases h
theorem Pb (O:XOk X k G sc) (scope:Scope):relabel scope X.env=Ks scope sc.scope:=by
 unfold relabel Ks Env.kindOf;rw [O.sco]
theorem Lr (O:XOk X k G sc) {scope:Scope}(h:Nu scope sc=true):CompOk X scope:=by
 unfold Nu at h;rw [Bool.and_eq_true,Bool.and_eq_true] at h;obtain ⟨h1,h2,h3⟩:=h;refine ⟨?_,of_decide_eq_true h2,fun p hp e=>?_⟩
 ·split at h1
  ·assumption
  ·cases h1
 ·have:=List.all_eq_true.mp h3 p hp;rw [e] at this;show X.env.scope.names.lookup p.1=_\/X.env.scope.names.lookup p.1=_;rw [O.sco];dsimp only at this;split at this
  ·exact .inl (by assumption)
  ·exact .inr (by assumption)
  ·cases this
theorem Td {scope:Scope}(h:(scope.names.map (·.1)).Nodup):(Ej scope).Nodup:=by
 unfold Ej;exact h.sublist ((List.filter_sublist).map _)
theorem Ve (O:XOk X k G sc) (scope:Scope):CapOk X (Ej scope) scope (Pa sc.N scope):=by
 refine ⟨by unfold Pa;rw [List.length_map],fun i x j e1 e2=>?_⟩;unfold Pa at e2;rw [List.getElem?_map,e1] at e2;simp only [Option.map_some,Option.some.injEq] at e2;split at e2
 ·rename_i hl;exact ⟨hl,by rw [O.N];exact Ew e2⟩
 ·cases e2
theorem XOk.comp (O:XOk X k G sc) {scope:Scope}(h:Nu scope sc=true) (pins:List (Addr×Obj)) (C:Addr) (cells:List (Str×Addr)) (s₀:Shared) (H₀:Hp) (fp:List Addr) :
  XOk (Dm X pins (Ej scope) scope C cells s₀ H₀ fp) k G (S8 scope sc):=by
 have S:=Lr O h;refine ⟨rfl,Td S.nd,Pb O scope,fun x hx hl=>?_,O.calm,rfl,O.room,O.g⟩;have hx:cL scope x=true:=hx;rcases S9 hx with q|q
 ·right;show (Ks scope sc.scope).names.lookup x=_;rw [← Pb O scope,Gr,q];rfl
 ·left;exact decide_eq_true (PySem.mem_of_lookup q)
theorem Vf {x:Str}{i:Nat}(h:iGn sc x=some i):cL sc.scope x=true/\sc.own x=true/\slot sc.N x=some i:=by
 unfold iGn at h;split at h
 ·rename_i hc;rw [Bool.and_eq_true] at hc;exact ⟨hc.1,hc.2,h⟩
 ·cases h
theorem XOk.name (O:XOk X k G sc) {x:Str}{i:Nat}{pos:Pos}(h:iGn sc x=some i):PG X (.Name x pos) (eO i):=by
 obtain ⟨h1,h2,h3⟩:=Vf h;have hl:=S9 h1;refine Yk (by rw [O.N];exact O.nd) (by rw [O.N];exact Ew h3) (by rw [O.sco];exact hl) ?_;rw [O.sco];exact O.own x h2 hl
theorem XOk.names (O:XOk X k G sc) {es:List Expr}{is:List Nat}(h:iGs sc es=some is):PGs X es (gNs is)/\(assignEach es X.env).length=is.length/\(assignEach es X.env).findIdx? (·.1)=none:=by
 induction es generalizing is with
 | nil=>cases h;exact ⟨rM,rfl,rfl⟩
 | cons e r ih =>
  cases e with
  | Name x p =>
   simp only [iGs] at h;split at h
   ·rename_i i ei;split at h
    ·rename_i js ej;cases h;obtain ⟨h1,h2,h3⟩:=ih ej;refine ⟨eU (O.name ei) h1 rfl,?_,?_⟩
     ·show (assignEach r X.env).length+1=js.length+1;rw [h2]
     ·show List.findIdx? (fun x=>x.1) ((false,assign (.Name x p) X.env)::assignEach r X.env)=none;rw [List.findIdx?_cons];simp only [Bool.false_eq_true,if_false,h3];rfl
    ·cases h
   ·cases h
  | _=>cases h
theorem XOk.target (O:XOk X k G sc) {tg:Expr}{ws:List Nat}{g:GM}(h:iG sc tg=some (ws,g)):DG X tg ws g:=by
 cases tg with
 | Name x p =>
  simp only [iG] at h;split at h
  ·rename_i i ei;cases h;obtain ⟨h1,h2,h3⟩:=Vf ei;have hl:=S9 h1;refine uE (by rw [O.N];exact O.nd) (by rw [O.N];exact Ew h3) (by rw [O.sco];exact hl) ?_;rw [O.sco];exact O.own x h2 hl
  ·cases h
 | Tuple es kk p =>
  simp only [iG] at h;split at h
  ·rename_i is ei;cases h;obtain ⟨h1,h2,h3⟩:=O.names ei;exact Aar O.calm h1 h2 h3
  ·cases h
 | _=>cases h
end
structure SndE (G:Gb) (n:Nat):Prop where
 e:∀ {X:Cx} {k:Nat} {sc:SC},XOk X k G sc->∀ e,DE X e (iE G n sc e)
 t:∀ {X:Cx} {k:Nat} {sc:SC},XOk X k G sc->∀ e,DT X e (iT G n sc e)
 a:∀ {X:Cx} {k:Nat} {sc:SC},XOk X k G sc->∀ es,DA X es (iA G n sc es)
 f:∀ {X:Cx} {k:Nat} {sc:SC},XOk X k G sc->∀ es,DIf X es (iF G n sc es)
 i:∀ {X:Cx} {k:Nat} {sc:SC},XOk X k G sc->∀ tg e,DI X tg e (iI G n sc tg e)
theorem Y8 {X:Cx}{es:List Expr}:DIf X es Zb:=fun pins s σ H Q I ⟨loc,mh,ρ,b,mh',q,_⟩=>by cases q
theorem J4 {X:Cx}{tg e:Expr}:DI X tg e Zb:=fun loc mh=>Fo
theorem vC {c:Str}{T:String}(h:tyOf c=some T):T∈["bool", "int", "str", "tuple", "list", "dict"]/\bootBuiltins c=some (.type T)/\c∈Ku:=by
 unfold tyOf at h;split at h
 ·rename_i e;cases h;rw [eq_of_beq e];exact ⟨by decide,boot_int,by decide +kernel⟩
 ·split at h
  ·rename_i e;cases h;rw [eq_of_beq e];exact ⟨by decide,boot_bool,by decide +kernel⟩
  ·split at h
   ·rename_i e;cases h;rw [eq_of_beq e];exact ⟨by decide,boot_str,by decide +kernel⟩
   ·split at h
    ·rename_i e;cases h;rw [eq_of_beq e];exact ⟨by decide,by decide +kernel,by decide +kernel⟩
    ·split at h
     ·rename_i e;cases h;rw [eq_of_beq e];exact ⟨by decide,by decide +kernel,by decide +kernel⟩
     ·split at h
      ·rename_i e;cases h;rw [eq_of_beq e];exact ⟨by decide,by decide +kernel,by decide +kernel⟩
      ·cases h
theorem Xe {G:Gb}{f fl:Str}{es:List Expr}(h:xO G f es=some fl):es=[]/\G.mkr f=some fl:=by
 cases es with
 | nil=>exact ⟨rfl,h⟩
 | cons a r=>cases h
theorem Ph {X:Cx}{a:Expr}{es:List Expr}{p:Pos}(hs:isStar a=false) (hr:(es.all fun e=>!isStar e)=true) (hk:(a::es).length < 20):((backTo p (starEach (a::es) X.env)).all (fun x=>!x.1)&&(backToKw p (keywordEach [] X.env)).all (fun x=>x.1.isSome)&&decide ((a::es).length+([]:List Keyword).length+(if ([]:List Keyword).isEmpty then 0 else 1) < 30))=true:=by
 rw [Tc (by rw [List.all_cons,hs,hr];rfl)];have:decide ((a::es).length+([]:List Keyword).length+(if ([]:List Keyword).isEmpty then 0 else 1) < 30)=true:=decide_eq_true (by simp;simp at hk;omega);rw [this];rfl
theorem jL {X:Cx}{k:Nat}{G:Gb}{sc:SC}(O:XOk X k G sc) {f:Str}{g:Fn}{p pos:Pos}{a:Expr}{es:List Expr}{mr:DM (List D)}(h:jJ f=some g) (hg:glB sc.scope f=true) (ha:DA X (a::es) mr) (hn:f ≠ "__name__") (hd:(f==("__debug__":Str))=false) (hs:isStar a=false) (hr:(es.all fun e=>!isStar e)=true) :
  DE X (.Call (.Name f p) (a::es) [] pos) (mr.bnd fun ds=>Zl (g ds)):=by
 unfold jJ at h;split at h
 ·rename_i e;cases h;rw [eq_of_beq e] at hg hn hd ⊢;exact Gu bB (O.gl hg) (O.g.blt _ (by decide +kernel)) PySem.boot_len ha hn hd (Cy hs) (Ck hr)
 ·split at h
  ·rename_i e;cases h;rw [eq_of_beq e] at hg hn hd ⊢;exact Lg Wu (O.gl hg) (O.g.blt _ (by decide +kernel)) (by decide +kernel) ha hn hd (Cy hs) (Ck hr)
  ·split at h
   ·rename_i e;cases h;rw [eq_of_beq e] at hg hn hd ⊢;exact Lg Uw (O.gl hg) (O.g.blt _ (by decide +kernel)) (by decide +kernel) ha hn hd (Cy hs) (Ck hr)
   ·split at h
    ·rename_i e;cases h;rw [eq_of_beq e] at hg hn hd ⊢;exact Gu (bK O.calm) (O.gl hg) (O.g.blt _ (by decide +kernel)) (by decide +kernel) ha hn hd (Cy hs) (Ck hr)
    ·split at h
     ·rename_i e;cases h;rw [eq_of_beq e] at hg hn hd ⊢;exact Gu (Kr (f:=.builtin "any")) (O.gl hg) (O.g.blt _ (by decide +kernel)) (by decide +kernel) ha hn hd (Cy hs) (Ck hr)
     ·split at h
      ·rename_i e;cases h;rw [eq_of_beq e] at hg hn hd ⊢;exact Gu (Kr (f:=.builtin "max")) (O.gl hg) (O.g.blt _ (by decide +kernel)) (by decide +kernel) ha hn hd (Cy hs) (Ck hr)
      ·split at h
       ·rename_i e;cases h;rw [eq_of_beq e] at hg hn hd ⊢;exact Gu (W7 O.calm) (O.gl hg) (O.g.blt _ (by decide +kernel)) (by decide +kernel) ha hn hd (Cy hs) (Ck hr)
       ·split at h
        ·rename_i e;cases h;rw [eq_of_beq e] at hg hn hd ⊢;exact Lg (Kr (f:=.type "int")) (O.gl hg) (O.g.blt _ (by decide +kernel)) (by decide +kernel) ha hn hd (Cy hs) (Ck hr)
        ·split at h
         ·rename_i e;cases h;rw [eq_of_beq e] at hg hn hd ⊢;exact Gu (Kr (f:=.builtin "sorted")) (O.gl hg) (O.g.blt _ (by decide +kernel)) (by decide +kernel) ha hn hd (Cy hs) (Ck hr)
         ·split at h
          ·rename_i e;cases h;rw [eq_of_beq e] at hg hn hd ⊢;exact Gu (Kr (f:=.builtin "sum")) (O.gl hg) (O.g.blt _ (by decide +kernel)) (by decide +kernel) ha hn hd (Cy hs) (Ck hr)
          ·cases h
theorem Xf {X:Cx}{m:Str}{T:String}{f:D->List D->MH->Option (D×MH)}{o:Expr}{mo:DM D}{ap p:Pos}(h:Lq m 0=some (T,f)) (ho:DE X o mo) (hb:baseOk o=true) (hl:(ap.endLine==p.line)=true):DE X (.Call (.Attribute o m ap) [] [] p) (Cz T f mo (Zr [])):=by
 unfold Lq at h;split at h
 ·rename_i e;rw [Bool.and_eq_true] at e;exact absurd e.2 (by decide)
 ·split at h
  ·rename_i e;rw [Bool.and_eq_true] at e;cases h;rw [eq_of_beq e.1];exact gZ PySem.F.plainAttrs_int PySem.F.slot_int_bit_length PySem.F.type_int_bit_length iC ho (Ea hb) hl
  ·split at h
   ·rename_i e;rw [Bool.and_eq_true] at e;exact absurd e.2 (by decide)
   ·split at h
    ·rename_i e;rw [Bool.and_eq_true] at e;cases h;rw [eq_of_beq e.1];exact gZ PySem.F.plainAttrs_list PySem.F.slot_list_pop PySem.F.type_list_pop M5 ho (Ea hb) hl
    ·split at h
     ·rename_i e;rw [Bool.and_eq_true] at e;exact absurd e.2 (by decide)
     ·split at h
      ·rename_i e;rw [Bool.and_eq_true] at e;exact absurd e.2 (by decide)
      ·cases h
theorem cN {X:Cx}{m:Str}{T:String}{f:D->List D->MH->Option (D×MH)}{o a:Expr}{es:List Expr}{mo:DM D}{mr:DM (List D)}{ap p:Pos}(h:Lq m (a::es).length=some (T,f)) (ho:DE X o mo) (ha:DA X (a::es) mr) (hb:baseOk o=true) (hl:(ap.endLine==p.line)=true) (hs:isStar a=false) (hr:(es.all fun e=>!isStar e)=true) (hk:(a::es).length < 20) :
  DE X (.Call (.Attribute o m ap) (a::es) [] p) (Cz T f mo mr):=by
 have few:((backTo p (starEach (a::es) X.env)).all (fun x=>!x.1)&&(backToKw p (keywordEach [] X.env)).all (fun x=>x.1.isSome)&&decide ((a::es).length+([]:List Keyword).length+(if ([]:List Keyword).isEmpty then 0 else 1) < 30))=true:=by
  rw [Tc (by rw [List.all_cons,hs,hr];rfl)];have:decide ((a::es).length+([]:List Keyword).length+(if ([]:List Keyword).isEmpty then 0 else 1) < 30)=true:=decide_eq_true (by simp;simp at hk;omega);rw [this];rfl
 unfold Lq at h;split at h
 ·rename_i e;rw [Bool.and_eq_true] at e;cases h;rw [eq_of_beq e.1];exact Mt PySem.F.plainAttrs_list PySem.F.slot_list_append PySem.F.type_list_append W2 ho ha (Ea hb) few hl (Cy hs) (Ck hr)
 ·split at h
  ·rename_i e;rw [Bool.and_eq_true] at e;exact absurd (eq_of_beq e.2) (by simp)
  ·split at h
   ·rename_i e;rw [Bool.and_eq_true] at e;cases h;rw [eq_of_beq e.1];exact Mt PySem.F.plainAttrs_list PySem.F.slot_list_pop PySem.F.type_list_pop M5 ho ha (Ea hb) few hl (Cy hs) (Ck hr)
   ·split at h
    ·rename_i e;rw [Bool.and_eq_true] at e;exact absurd (eq_of_beq e.2) (by simp)
    ·split at h
     ·rename_i e;rw [Bool.and_eq_true] at e;cases h;rw [eq_of_beq e.1];exact Mt PySem.F.plainAttrs_list PySem.F.slot_list_extend PySem.F.type_list_extend M5 ho ha (Ea hb) few hl (Cy hs) (Ck hr)
     ·split at h
      ·rename_i e;rw [Bool.and_eq_true] at e;cases h;rw [eq_of_beq e.1];exact Mt PySem.F.plainAttrs_tuple PySem.F.slot_tuple_index PySem.F.type_tuple_index M5 ho ha (Ea hb) few hl (Cy hs) (Ck hr)
      ·cases h
theorem Vg {a:Expr}{es:List Expr}{b:Expr}(h:Xb a es=some b):es=[]/\isStar b=false/\∃ p q,a=.Call (.Name "range" p) [b] [] q:=by
 unfold Xb at h;split at h
 ·rename_i g p b' q;split at h
  ·rename_i hc;rw [Bool.and_eq_true] at hc;cases h;exact ⟨rfl,by simpa using hc.2,p,q,by rw [eq_of_beq hc.1]⟩
  ·cases h
 ·cases h
theorem Xg {X:Cx}{k:Nat}{G:Gb}{sc:SC}(O:XOk X k G sc) {a b:Expr}{op:CmpOp}{i j:Nat}{pos:Pos}(h:Y7 sc a op b=some (i,j)) :
  DE X (.Compare a [op] [b] pos) (iJ (fun loc mh=>match loc[i]? with | some (some d)=>some (d,mh) | _=>none) (fun loc mh=>match loc[j]? with | some (some d)=>some (d,mh) | _=>none)):=by cases h
theorem jM (G:Gb):SndE G 0:=⟨fun _ _=>Bd,fun _ _=>Et,fun _ _=>fY,fun _ _=>Y8,fun _ _ _=>J4⟩
theorem Ae7 {G:Gb}{n:Nat}(S:SndE G n) {X:Cx}{k:Nat}{sc:SC}(O:XOk X k G sc) (es:List Expr):DA X es (iA G (n+1) sc es):=by
 cases es with
 | nil=>exact Aaj
 | cons a r =>
  show DA X (a::r) (if isStar a then Zb else Aa (iE G n sc a) (iA G n sc r));split
  ·exact fY
  ·rename_i h;exact tO (S.e O a) (S.a O r) (Cy (by simpa using h))
theorem Ae8 {G:Gb}{n:Nat}(S:SndE G n) {X:Cx}{k:Nat}{sc:SC}(O:XOk X k G sc) (es:List Expr):DIf X es (iF G (n+1) sc es):=by
 cases es with
 | nil=>exact uG
 | cons a r =>
  cases r with
  | nil=>exact uH (S.t O a)
  | cons b r=>exact Y8
theorem Ae9 {G:Gb}{n:Nat}(S:SndE G n) {X:Cx}{k:Nat}{sc:SC}(O:XOk X k G sc) (tg e:Expr):DI X tg e (iIb (iE G n) (iT G n) (iA G n) (iF G n) (iI G n) G sc tg e):=by
 cases e with
 | Call ff args kws p' =>
  cases ff with
  | Name f p =>
   cases args with
   | nil=>exact Hg (S.e O _)
   | cons a r =>
    cases r with
    | nil =>
     cases kws with
     | nil =>
      delta iIb
      dsimp only;split
      ·rename_i h;rw [Bool.and_eq_true] at h;split
       ·exact J4
       ·rename_i hs;have hs:isStar a=false:=by simpa using hs
        have e:=eq_of_beq h.1;subst e;exact bF (O.gl h.2) (O.g.blt _ (by decide +kernel)) (S.a O [a]) (Cy hs)
      ·split
       ·rename_i h;rw [Bool.and_eq_true] at h;split
        ·exact J4
        ·rename_i hs;have hs:isStar a=false/\Fv tg=true:=by simpa using hs
         have e:=eq_of_beq h.1;subst e;cases tg with
         | Tuple es kk tp=>exact uO O.calm (O.gl h.2) (O.g.blt _ (by decide +kernel)) (S.e O a) (Cy hs.1)
         | _=>cases hs.2
       ·exact Hg (S.e O _)
     | cons _ _=>exact Hg (S.e O _)
    | cons b r =>
     cases r with
     | nil =>
      cases kws with
      | nil =>
       delta iIb
       dsimp only;split
       ·rename_i h;rw [Bool.and_eq_true] at h;split
        ·exact J4
        ·rename_i hs;have hs:isStar a=false/\isStar b=false:=by simpa using hs
         have e:=eq_of_beq h.1;subst e;exact bG (O.gl h.2) (O.g.blt _ (by decide +kernel)) (S.a O [a,b]) (by rw [Cy hs.1,Cy hs.2];rfl) (Cy hs.2)
       ·split
        ·rename_i h;rw [Bool.and_eq_true] at h;split
         ·exact J4
         ·rename_i hs;have hs:(isStar a=false/\isStar b=false)/\Fv tg=true:=by simpa using hs
          have e:=eq_of_beq h.1;subst e;cases tg with
          | Tuple elts kk tp=>exact Aa1 (O.gl h.2) (O.g.blt _ (by decide +kernel)) (S.a O [a,b]) (Cy hs.1.1) (Ck (by simp [hs.1.2]))
          | _=>cases hs.2
        ·exact Hg (S.e O _)
      | cons _ _=>exact Hg (S.e O _)
     | cons c r =>
      cases r with
      | cons _ _=>exact Hg (S.e O _)
      | nil =>
       cases kws with
       | cons _ _=>exact Hg (S.e O _)
       | nil =>
        delta iIb
        dsimp only;split
        ·rename_i h;rw [Bool.and_eq_true] at h;split
         ·exact J4
         ·rename_i hs;have hs:(isStar a=false/\isStar b=false)/\isStar c=false:=by simpa using hs
          have e:=eq_of_beq h.1;subst e;exact J4
        ·exact Hg (S.e O _)
  | _=>exact Hg (S.e O _)
 | _=>exact Hg (S.e O _)
theorem xP {X:Cx}{op:BoolOp}{vs:List Expr}{p:Pos}{m:DM Bool}(h:DT X (.BoolOp op vs p) m):DW X (.BoolOp op vs p) m:=fun loc mh wh pins s σ H Q I q=>h loc mh pins s σ H Q I q
theorem Afa {G:Gb}{n:Nat}(S:SndE G n) {X:Cx}{k:Nat}{sc:SC}(O:XOk X k G sc) (e:Expr):DT X e (iTb (iE G n) (iT G n) (iA G n) (iF G n) (iI G n) G sc e):=by
 cases e with
 | UnaryOp op a p =>
  cases op with
  | Not=>exact Aaf (S.t O _)
  | _=>exact Ut (S.e O _) fun _=>rfl
 | BoolOp op vs p =>
  cases vs with
  | nil=>cases op <;> exact Et
  | cons a r =>
   cases r with
   | nil =>
    cases op
    ·exact (tL (S.t O a)).dt
    ·exact (Aad (S.t O a)).dt
   | cons b r =>
    cases op
    ·exact (Aae (S.t O _) (xP (S.t O _))).dt
    ·exact (Aet (S.t O _) (xP (S.t O _))).dt
 | IfExp c a b p=>exact Et
 | Compare a ops cs p =>
  cases ops with
  | nil=>exact Et
  | cons op ops =>
   cases ops with
   | nil =>
    cases cs with
    | nil=>exact Et
    | cons b cs =>
     cases cs with
     | cons _ _=>exact Et
     | nil =>
      delta iTb
      dsimp only;split
      ·rename_i neg kvs hd;exact Et
      ·split
       ·exact Et
       ·rename_i h;exact Aac (Hu O.units _) (Kv (by simpa using h)) (S.e O _) (S.e O _)
   | cons op' ops =>
    cases ops with
    | cons _ _=>exact Et
    | nil =>
     cases cs with
     | nil=>exact Et
     | cons b cs =>
      cases cs with
      | nil=>exact Et
      | cons c cs =>
       cases cs with
       | cons _ _=>exact Et
       | nil =>
        delta iTb
        dsimp only;split
        ·exact Et
        ·rename_i h;exact gW (Hu O.units _) (Hu O.units _) (by show behindInMarks _ _=false;exact Kv (by simpa using h)) (S.e O _) (S.e O _) (S.e O _)
 | _=>exact Ut (S.e O _) fun _=>rfl
theorem Afb {G:Gb}{n:Nat}(S:SndE G n) {X:Cx}{k:Nat}{sc:SC}(O:XOk X k G sc) (e:Expr):DE X e (iEb (iE G n) (iT G n) (iA G n) (iF G n) (iI G n) G sc e):=by
 cases e with
 | Constant c _ _ =>
  cases c with
  | int i=>exact tH yC fun _ _ _=>.int _
  | bool b=>exact tH Ads fun _ _ _=>.bl _
  | none=>exact tH yD fun _ _ _=>.non
  | str x=>exact tH yE fun _ _ _=>.str _
  | _=>exact Bd
 | Name x p =>
  delta iEb
  dsimp only;split
  ·rename_i h;rw [Bool.and_eq_true,Bool.and_eq_true] at h;obtain ⟨⟨h1,h2⟩,h3⟩:=h;split
   ·rename_i i ei;exact Aaa (by rw [O.N];exact Ew ei) (O.vis h1) (by simpa using h2) (by simpa using h3)
   ·exact Bd
  ·split
   ·rename_i h;rw [Bool.and_eq_true] at h;split
    ·rename_i d ed;obtain ⟨u,v,h1,h2,h3⟩:=O.g.con _ _ ed;exact fun loc mh=>Cm (rB (O.gl h.1) h1 h2 (by simpa using h.2)) fun σ H Q ⟨ρ,d',mh',q,rl,rs,co⟩=>by
      cases q;exact co H ρ v Ev.refl rs (h3 H ρ)
    ·exact Bd
   ·exact Bd
 | BinOp a op b _ =>
  delta iEb
  dsimp only;split
  ·rename_i f ef;exact Aeq (uZ ef) (S.e O _) (S.e O _)
  ·exact Bd
 | UnaryOp op a _ =>
  cases op with
  | USub=>exact Aes uL (S.e O _)
  | Not=>exact Aai (S.e O _)
  | _=>exact Bd
 | BoolOp op vs _ =>
  cases vs with
  | nil=>cases op <;> exact Bd
  | cons a r =>
   cases r with
   | nil=>cases op <;> exact Aag (S.e O _)
   | cons b r =>
    cases op
    ·exact Aah (S.e O _) (S.e O _)
    ·exact Aev (S.e O _) (S.e O _)
 | Compare a ops cs _ =>
  cases ops with
  | nil=>exact Bd
  | cons op ops =>
   cases ops with
   | nil =>
    cases cs with
    | nil=>exact Bd
    | cons b cs =>
     cases cs with
     | cons _ _=>exact Bd
     | nil =>
      delta iEb
      dsimp only;split
      ·rename_i i j hp;exact Xg O hp
      ·split
       ·rename_i neg kvs hd;exact Bd
       ·split
        ·exact Bd
        ·rename_i h;exact Aab (Hu O.units _) (Kv (by simpa using h)) (S.e O _) (S.e O _)
   | cons op' ops =>
    cases ops with
    | cons _ _=>exact Bd
    | nil =>
     cases cs with
     | nil=>exact Bd
     | cons b cs =>
      cases cs with
      | nil=>exact Bd
      | cons c cs =>
       cases cs with
       | cons _ _=>exact Bd
       | nil =>
        delta iEb
        dsimp only;split
        ·exact Bd
        ·rename_i h;exact gU (Hu O.units _) (Hu O.units _) (by show behindInMarks _ _=false;exact Kv (by simpa using h)) (S.e O _) (S.e O _) (S.e O _)
 | IfExp c a b _=>exact Aeu (S.t O _) (S.e O _) (S.e O _)
 | Tuple es _ _=>exact Aak (S.a O _)
 | List es _=>exact Aal (S.a O _)
 | Dict ks vs p =>
  delta iEb
  dsimp only;split
  ·rename_i h;rw [Bool.and_eq_true,Bool.and_eq_true] at h;exact Bd
  ·exact Bd
 | Subscript a b _ =>
  have gen:DE X (.Subscript a b ‹_›) (if isSlice b then Zb else (match Vc G sc a with | some kvs=>Zb | none=>dop ixD (iE G n sc a) (iE G n sc b))):=by
   split
   ·exact Bd
   ·rename_i h;split
    ·rename_i kvs hd;exact Bd
    ·exact Aer Agp (Ae6 (by simpa using h)) (S.e O _) (S.e O _)
  cases b with
  | Slice lo hi st _ =>
   cases st with
   | none =>
    refine gH (S.e O _) ?_ ?_
    ·cases lo with
     | none=>trivial
     | some e=>exact S.e O e
    ·cases hi with
     | none=>trivial
     | some e=>exact S.e O e
   | some s=>exact gen
  | _=>exact gen
 | Attribute o f _ =>
  delta iEb
  dsimp only;split
  ·rename_i h;exact uV (fun c hc=>O.g.fld c _ hc) (S.e O _) (Ea h)
  ·exact Bd
 | Call ff args kws p' =>
  cases ff with
  | Name f p =>
   cases kws with
   | cons kw ks =>
    cases args with
    | nil=>exact Bd
    | cons a es =>
     cases es with
     | cons _ _=>exact Bd
     | nil =>
      delta iEb
      dsimp only;split
      ·rename_i h;simp only [Bool.and_eq_true] at h;obtain ⟨⟨⟨h1,h4⟩,h5⟩,h6⟩:=h;have h4:isStar a=false:=by simpa using h4
       have h6:ks=[]:=by simpa using h6
       subst h6;obtain ⟨j,cp,kp,rfl⟩:=Vd h5;split
       ·rename_i hf;have e:=eq_of_beq hf;subst e;exact Bd
       ·split
        ·rename_i hf;have e:=eq_of_beq hf;subst e;exact Bd
        ·exact Bd
      ·exact Bd
   | nil =>
    cases args with
    | nil =>
     delta iEb
     dsimp only;split
     ·rename_i h;rw [Bool.and_eq_true] at h;split
      ·rename_i g eg;obtain ⟨fa,fd,h1,h2,h3,h4,h5⟩:=O.g.fn _ _ _ eg;exact gQ (E:=E0) h4 O.room (O.gl h.1) h1 h2 h3 Ra (by simpa using h.2)
      ·exact Bd
     ·exact Bd
    | cons a es =>
     delta iEb
     dsimp only;split
     ·rename_i h;simp only [Bool.and_eq_true] at h;obtain ⟨⟨⟨⟨h1,h2⟩,h3⟩,h4⟩,h5⟩:=h;have h4:isStar a=false:=by simpa using h4
      split
      ·rename_i i ei;exact jE (E:=E0) (fun y ps f h=>O.g.fn y ps f h) O.room (by rw [O.N];exact Ew ei) (O.vis h1) Ra (S.a O _) (by simpa using h2) (by simpa using h3) (Cy h4) (Ck h5)
      ·exact Bd
     split
     ·rename_i h;simp only [Bool.and_eq_true] at h;obtain ⟨⟨⟨⟨h1,h2⟩,h3⟩,h4⟩,h5⟩:=h
      have h2:(f==("__debug__":Str))=false:=by simpa using h2
      have h3:f ≠ "__name__":=by simpa using h3
      have h4:isStar a=false:=by simpa using h4
      split
      ·rename_i ps g eg;obtain ⟨fa,fd,g1,g2,g3,g4,g5⟩:=O.g.fn _ _ _ eg;exact uJ (E:=E0) g4 O.room (O.gl h1) g1 g2 g3 Ra (S.a O _) g5 h2 (Cy h4) (Ck h5)
      ·split
       ·rename_i fl hb;obtain ⟨rfl,hb⟩:=Xe hb;obtain ⟨C,fa,fd,ps,g1,g2,g3,g4,g5⟩:=O.g.mkr _ _ hb;exact uT (E:=E0) g1 g2 g5 (O.room.mono (by omega)) (O.gl h1) g3 g4 Ra (S.e O a) h2 (Cy h4)
       split
       ·rename_i b hb;cases hb
       ·split
        ·rename_i b hb;obtain ⟨rfl,hsb,p2,q2,rfl⟩:=Vg hb;split
         ·rename_i hs;split
          ·rename_i hf;have e:=eq_of_beq hf;subst e;exact W4 O.calm (O.gl h1) (O.g.blt _ (by decide +kernel)) (O.gl hs) (O.g.blt _ (by decide +kernel)) (S.e O b) (Cy hsb)
          ·split
           ·rename_i hf;have e:=eq_of_beq hf;subst e;exact bU O.calm (O.gl h1) (O.g.blt _ (by decide +kernel)) (O.gl hs) (O.g.blt _ (by decide +kernel)) (S.e O b) (Cy hsb)
           ·exact Bd
         ·exact Bd
        ·split
         ·rename_i hf;split
          ·rename_i c pc;split
           ·rename_i hc;simp only [Bool.and_eq_true] at hc;obtain ⟨⟨c1,c2⟩,c3⟩:=hc;split
            ·rename_i T eT;obtain ⟨t1,t2,t3⟩:=vC eT;have e:=eq_of_beq hf;subst e;exact Aav t1 (O.gl h1) (O.g.blt _ (by decide +kernel)) (O.gl c1) (O.g.blt _ t3) t2 (by simpa using c3) (by simpa using c2) (S.e O a) (Cy h4)
            ·exact Bd
           ·exact Bd
          ·exact Bd
         ·split
          ·rename_i g eg;exact jL O eg h1 (S.a O _) h3 h2 h4 h5
          ·exact Bd
     ·exact Bd
  | Attribute o m ap =>
   cases kws with
   | cons _ _=>cases args <;> exact Bd
   | nil =>
    cases args with
    | nil =>
     delta iEb
     dsimp only;split
     ·rename_i h;rw [Bool.and_eq_true] at h;split
      ·rename_i T f eT;exact Xf eT (S.e O _) h.1 h.2
      ·exact iW (E:=E0) (fun c ps g hg=>O.g.met c _ ps g hg) O.room Ra (S.e O _) (Ea h.1) h.2
     ·exact Bd
    | cons a es =>
     delta iEb
     dsimp only;split
     ·rename_i h;simp only [Bool.and_eq_true] at h;obtain ⟨⟨⟨⟨h1,h2⟩,h3⟩,h4⟩,h5⟩:=h;split
      ·rename_i hm;have em:=eq_of_beq hm;subst em;rw [Bool.not_eq_true'] at h3;split
       ·rename_i kvs hd;exact Bd
       ·exact Bd
      split
      ·rename_i hm;rw [Bool.and_eq_true] at hm;have em:=eq_of_beq hm.1;subst em;rw [Bool.not_eq_true'] at h3;exact Va (Mt PySem.F.plainAttrs_tuple PySem.F.slot_tuple_count PySem.F.type_tuple_count M5 (S.e O _) (S.a O _) (Ea h1) (Ph h3 h4 (of_decide_eq_true h5)) h2 (Cy h3) (Ck h4))
        (Mt PySem.F.plainAttrs_list PySem.F.slot_list_count PySem.F.type_list_count M5 (S.e O _) (S.a O _) (Ea h1) (Ph h3 h4 (of_decide_eq_true h5)) h2 (Cy h3) (Ck h4))
      split
      ·rename_i hm;rw [Bool.and_eq_true] at hm;have em:=eq_of_beq hm.1;subst em;rw [Bool.not_eq_true'] at h3;exact Va (Mt PySem.F.plainAttrs_tuple PySem.F.slot_tuple_index PySem.F.type_tuple_index M5 (S.e O _) (S.a O _) (Ea h1) (Ph h3 h4 (of_decide_eq_true h5)) h2 (Cy h3) (Ck h4))
        (Mt PySem.F.plainAttrs_list PySem.F.slot_list_index PySem.F.type_list_index M5 (S.e O _) (S.a O _) (Ea h1) (Ph h3 h4 (of_decide_eq_true h5)) h2 (Cy h3) (Ck h4))
      split
      ·rename_i T f eT;exact cN eT (S.e O _) (S.a O _) h1 h2 (by simpa using h3) h4 (of_decide_eq_true h5)
      ·rw [Bool.not_eq_true'] at h3;exact uW (E:=E0) (fun c ps g hg=>O.g.met c _ ps g hg) O.room Ra (S.e O _) (S.a O _) (Ea h1) (Ph h3 h4 (of_decide_eq_true h5)) h2 (Cy h3) (Ck h4)
     ·exact Bd
  | _=>cases args <;> exact Bd
 | ListComp elt gens scope p =>
  cases gens with
  | nil=>exact Bd
  | cons g gens =>
   obtain ⟨tg,iter,ifs,kk⟩:=g;cases gens with
   | cons _ _=>exact Bd
   | nil =>
    delta iEb
    dsimp only;split
    ·rename_i h;simp only [Bool.and_eq_true] at h;obtain ⟨⟨h1,h2⟩,h3⟩:=h;have e:=eq_of_beq h1;subst e;split
     ·rename_i ws g eg;split
      ·rename_i hw;refine uI (N':=Ej scope) O.calm (Lr O h2) (Ve O scope) (fun i hi j q=>?_) (S.i O tg iter) (fun p C c s h f=>(O.comp h2 p C c s h f).target eg) (fun p C c s h f=>S.f (O.comp h2 p C c s h f) ifs) (fun p C c s h f=>S.e (O.comp h2 p C c s h f) elt) (Xd (by simpa using h3));have z:=List.all_eq_true.mp hw i hi;rw [q] at z;cases z
      ·exact Bd
     ·exact Bd
    ·exact Bd
 | _=>exact Bd
theorem snd (G:Gb):∀ n,SndE G n
 | 0=>jM G
 | n+1=>⟨fun O=>Afb (snd G n) O,fun O=>Afa (snd G n) O,fun O=>Ae7 (snd G n) O,fun O=>Ae8 (snd G n) O,fun O=>Ae9 (snd G n) O⟩
theorem Jd {X:Cx}{st:Stmt}{g:GM}:DS X st (Bb Zb g):=fun _ _ _ _ _ _ h=>by obtain ⟨_,_,_,_,_,_,e,_⟩:=h;cases e
theorem Xh {G:Gb}{X:Cx}{k:Nat}{sc:SC}(O:XOk X k G sc) (n:Nat) {y:Str}{py vp spos:Pos}{elt:Expr}{gens:List Comprehension}{scope:Scope}{ws:List Nat}{gy:GM}(hgy:iG sc (.Name y py)=some (ws,gy)) :
  DS X (.Assign [.Name y py] (.ListComp elt gens scope vp) spos) (Bb (iE G n sc (.ListComp elt gens scope vp)) gy):=by
 have hg:=O.target hgy;have sw:swapsWith (.ListComp elt gens scope vp) (some (.Name y py)) spos.line X.env=pure (X.env.blockKind==.function&&X.env.kindOf y==some .local&&py.line==vp.line&&!(scope.names.any fun (n,k)=>n==y&&(k==.local || k==.cell))):=rfl;cases hb:(X.env.blockKind==.function&&X.env.kindOf y==some .local&&py.line==vp.line&&!(scope.names.any fun (n,k)=>n==y&&(k==.local || k==.cell))) with
 | false =>
  rw [hb] at sw;exact Wy ((snd G n).e O _) hg sw rfl rfl
 | true =>
  rw [hb] at sw;cases n with
  | zero=>exact Jd
  | succ n =>
   show DS X _ (Bb (iEb (iE G n) (iT G n) (iA G n) (iF G n) (iI G n) G sc _) gy)
   match gens with
   | []=>exact Jd
   | ⟨_,_,_,_⟩::_::_=>exact Jd
   | [⟨tg,iter,ifs,kk⟩] =>
    delta iEb
    dsimp only;split
    ·rename_i h;simp only [Bool.and_eq_true] at h;obtain ⟨⟨h1,h2⟩,h3⟩:=h;have e:=eq_of_beq h1;subst e;split
     ·rename_i ws g eg;split
      ·rename_i hw;refine Wz (N':=Ej scope) O.calm (Lr O h2) (Ve O scope) (fun i hi j q=>?_) ((snd G n).i O tg iter) (fun p C c s h f=>(O.comp h2 p C c s h f).target eg) (fun p C c s h f=>(snd G n).f (O.comp h2 p C c s h f) ifs) (fun p C c s h f=>(snd G n).e (O.comp h2 p C c s h f) elt) hg sw (Xd (by simpa using h3));have z:=List.all_eq_true.mp hw i hi;rw [q] at z;cases z
      ·exact Jd
     ·exact Jd
    ·exact Jd
theorem Vh {v tg:Expr}{line:Nat}{env:Env}(h:Jc v=false):swapsWithSole [tg] v line env=pure false:=by
 show swapsWith v (some tg) line env=pure false;cases v <;> first | rfl | cases h
theorem cO {v:Expr}{line:Nat}{env:Env}(h:Jc v=false):swapsWith v none line env=pure false:=by
 cases v <;> first | rfl | cases h
theorem M6 {v tg:Expr}{env:Env}(h:(Fv tg&&Fv v)=false) (hl:∀ es p,tg≠.List es p):swappedStores [tg] v env=pure none:=by
 cases tg with
 | Tuple ts kk p =>
  cases v with
  | Tuple vs k2 p2=>cases h
  | _=>rfl
 | List es p=>exact (hl es p rfl).elim
 | _=>first | rfl | (cases v <;> rfl)
theorem Abd {x y:Str}{a b:Expr}{px py pt pt2:Pos}{kt k2:Nat}{env:Env}(hb:(env.blockKind==.function)=true) (hx:(env.kindOf x==some .local)=true) (hy:(env.kindOf y==some .local)=true) (hl:(py.line==px.line)=true) (hne:(x==y)=false) (sa:isStar a=false) (sb:isStar b=false)
  (hf:[a,b].all (foldedForSure 8)=false) (hc:[a,b].all (constantsAlone 8)=false):swappedStores [.Tuple [.Name x px,.Name y py] kt pt] (.Tuple [a,b] k2 pt2) env=pure (some [x,y]):=by
 have he:([x,y].eraseDups.length != [x,y].length)=false:=by
  have:(y==x)=false:=by
   cases q:(y==x) with
   | false=>rfl
   | true=>rw [eq_of_beq q] at hne;simp at hne
  simp [List.eraseDups_cons,this,hne]
 have hbk:(env.blockKind != .function)=false:=by rw [bne,hb];rfl
 have e1:(Option.map (fun e:Expr=>e.pos.line) [Expr.Name x px,Expr.Name y py].head?).getD 0=px.line:=rfl;unfold swappedStores;dsimp only;refine (if_neg ?_).trans ?_
 ·simp [hbk]
 refine (if_neg ?_).trans ?_
 ·simp only [List.any_cons,List.any_nil,Bool.or_false];rw [Bool.not_eq_true,Bool.or_eq_false_iff];constructor
  ·cases a <;> first | rfl | cases sa
  ·cases b <;> first | rfl | cases sb
 simp only [e1,List.filterMap_cons,List.filterMap_nil,hx,hy,hl,beq_self_eq_true,Bool.and_self,if_true];refine (if_neg ?_).trans ?_
 ·rw [he];simp
 rw [if_neg (by rw [hf];simp),if_neg (by rw [hc];simp)]
theorem Abe {X:Cx}{i j:Nat}{x y:Str}{a b:Expr}{mr:DM (List D)}{px py pt pt2 pos:Pos}{kt k2:Nat}(hc:X.calm=true) (hN:X.N.Nodup) (hi:X.N[i]?=some x) (hj:X.N[j]?=some y) (hij:i≠j) (hx:X.env.scope.names.lookup x=some .local) (hy:X.env.scope.names.lookup y=some .local) (ha:DA X [a,b] mr)
  (hw:swappedStores [.Tuple [.Name x px,.Name y py] kt pt] (.Tuple [a,b] k2 pt2) X.env=pure (some [x,y])):DS X (.Assign [.Tuple [.Name x px,.Name y py] kt pt] (.Tuple [a,b] k2 pt2) pos) (Aa9 mr i j):=by
 rintro pins s σ H N I ⟨loc,mh,ρ,f,loc',mh',e,rl,rs,co⟩;refine yS hc hN hi hj hij hx hy (ha loc mh) hw rfl pins s σ H N I ?_;unfold Aa9 at e;split at e
 ·rename_i d1 d2 h1 er;cases e;refine ⟨ρ,[d1,d2],mh',er,rl,rs,fun H' ρ' vs e' rs' r'=>?_⟩;cases r' with
  | cons r1 r' =>
   cases r' with
   | cons r2 r' =>
    cases r';exact ⟨_,_,rfl,co H' ρ' _ e' rs' (((rl.mono e').set r1).set r2)⟩
 ·cases e
theorem Afc (G:Gb) (n:Nat) (ihss:∀ {X:Cx}{k:Nat}{sc:SC},XOk X k G sc->∀ ss,DSs X ss (iSs G n sc ss)) {X:Cx}{k:Nat}{sc:SC}(O:XOk X k G sc) (s:Stmt):DS X s (iSb n (iSs G n) G sc s):=by
 have S:=snd G n;cases s with
 | Expr e p =>
  delta iSb
  dsimp only;split
  ·exact Eu
  ·rename_i h;exact uD (S.e O _) (cO (by simpa using h))
 | Pass _=>exact tY
 | Break _=>exact gM
 | Continue _=>exact Ux
 | Return e _ =>
  cases e with
  | some e=>exact Aaq (S.e O _)
  | none=>exact tZ
 | Assign ts v p =>
  cases ts with
  | nil=>exact Eu
  | cons tg r =>
   cases r with
   | cons _ _=>exact Eu
   | nil =>
    have gen:DS X (.Assign [tg] v p) (if Jc v || (Fv tg&&Fv v) then SM.bad else (match iGt G n sc tg with | some g=>Bb (iE G n sc v) g | none=>SM.bad)):=by
     split
     ·exact Eu
     ·rename_i h;have h:Jc v=false/\(Fv tg&&Fv v)=false:=by
       rw [Bool.not_eq_true,Bool.or_eq_false_iff] at h;exact h
      split
      ·rename_i g eg;have gen:(match iG sc tg with | some (_,g)=>some g | none=>none)=some g->DS X (.Assign [tg] v p) (Bb (iE G n sc v) g):=fun eg=>by
        split at eg
        ·rename_i ws g' eg';cases eg;refine Wy (S.e O _) (O.target eg') (Vh h.1) (M6 h.2 (fun es p z=>by subst z;simp [iG] at eg')) ?_;cases tg <;> first | rfl | (simp [iG] at eg')
        ·cases eg
       cases tg with
       | Subscript o i p' =>
        simp only [iGt] at eg;split at eg
        ·cases eg
        ·rename_i hs;cases eg;have hs:isSlice i=false:=by simpa using hs
         refine Wy (S.e O _) (Aas (S.e O _) (S.e O _) ?_) (Vh h.1) (M6 h.2 (fun _ _ z=>by cases z)) rfl;intro v';cases i <;> first | rfl | cases hs
       | _=>exact gen eg
      ·exact Eu
    cases tg with
    | Name y py =>
     cases v with
     | ListComp elt gens scope vp =>
      delta iSb
      dsimp only
      delta Aba
      dsimp only;split
      ·rename_i ws g eg;exact Xh O n eg
      ·exact Eu
     | _=>exact gen
    | Tuple tl kt pt =>
     cases tl with
     | nil=>exact gen
     | cons t1 tl =>
      cases t1 with
      | Name x px =>
       cases tl with
       | nil=>exact gen
       | cons t2 tl =>
        cases t2 with
        | Name y py =>
         cases tl with
         | cons _ _=>exact gen
         | nil =>
          cases v with
          | Tuple vl k2 pt2 =>
           cases vl with
           | nil=>exact gen
           | cons a vl =>
            cases vl with
            | nil=>exact gen
            | cons b vl =>
             cases vl with
             | cons _ _=>exact gen
             | nil =>
              delta iSb
              dsimp only
              delta Aba
              dsimp only;split
              ·rename_i h;unfold Ae5 at h;simp only [Bool.and_eq_true,Bool.not_eq_true'] at h;obtain ⟨⟨⟨⟨⟨⟨⟨⟨h1,h2⟩,h3⟩,h4⟩,h5⟩,h6⟩,h7⟩,h8⟩,h9⟩:=h;split
               ·rename_i i j ei ej;have hi:=Ew ei;have hj:=Ew ej;refine Abe O.calm (by rw [O.N];exact O.nd) (by rw [O.N];exact hi) (by rw [O.N];exact hj) (fun z=>?_) (by rw [O.sco];exact eq_of_beq h2) (by rw [O.sco];exact eq_of_beq h3) (S.a O _) (Abd ?_ ?_ ?_ h4 h5 h6 h7 h8 h9)
                ·subst z;rw [hi] at hj;cases hj;simp at h5
                ·unfold Env.blockKind;rw [O.sco];exact h1
                ·unfold Env.kindOf;rw [O.sco];exact h2
                ·unfold Env.kindOf;rw [O.sco];exact h3
               ·exact Eu
              ·exact Eu
          | _=>exact gen
        | _=>exact gen
      | _=>exact gen
    | _=>exact gen
 | If c a b _=>exact Aez (S.t O _) (ihss O _) (ihss O _)
 | For tg it body els _ =>
  cases els with
  | cons _ _=>exact Eu
  | nil =>
   delta iSb
   dsimp only;split
   ·exact Eu
   ·rename_i h;split
    ·rename_i ws g eg;refine Aat ?_ O.calm (S.i O _ _) (O.target eg) (ihss O _) (Xd (by simpa using h));rw [O.xe];exact PassesOwn.never
    ·exact Eu
 | _=>exact Eu
theorem Agq (G:Gb) (n:Nat):(∀ {X:Cx}{k:Nat}{sc:SC},XOk X k G sc->∀ s,DS X s (iS G n sc s))/\(∀ {X:Cx}{k:Nat}{sc:SC},XOk X k G sc->∀ ss,DSs X ss (iSs G n sc ss)):=by
 induction n with
 | zero=>exact ⟨fun _ _=>Eu,fun _ _ _ _ _ _ _ _ h=>by obtain ⟨_,_,_,_,_,_,e,_⟩:=h;cases e⟩
 | succ n ih =>
  refine ⟨fun {X k sc} O s=>Afc G n (fun O ss=>ih.2 O ss) O s,fun {X k sc} O ss=>?_⟩;cases ss with
  | nil=>exact tX
  | cons s r=>exact gK (ih.1 O s) (ih.2 O r)
theorem Vi {K:PySem.W.Frag}{H:Hp}{ρ:List Addr}{N:List Str}{ds:List D}{vs:List V}(r:RDs K H ρ ds vs):RL K H ρ (ds.map some++List.replicate (N.length - ds.length) none) (L2.start N vs):=by
 have hl:=r.length;unfold L2.start;refine ⟨by simp [hl],fun i d e=>?_⟩
 by_cases hi:i < ds.length
 ·rw [List.getElem?_append_left (by simpa using hi),List.getElem?_map] at e;cases q:ds[i]? with
  | none=>rw [q] at e;cases e
  | some d' =>
   rw [q] at e;cases e;obtain ⟨v,e1,r1⟩:=r.get q;exact ⟨v,by rw [List.getElem?_append_left (by simp;omega),List.getElem?_map,e1];rfl,r1⟩
 ·rw [List.getElem?_append_right (by simpa using hi),List.getElem?_replicate] at e;split at e <;> cases e
theorem jN {P:Program}{w:World}{K:PySem.W.Frag}{mg:Str->Option Value}{base:Heap}{k:Nat}{G:Gb}{x qual:Str}{st:Stmt}{f:Addr}{fd:FuncData}{I:FnI}(g:GOk P w K mg base k G) (F:Fun K x qual st f fd) (S:FnScope I.N I.ps (Bk st))
  (hs:I.scope=Bk st) (hb:I.body=Dl st) (n:Nat):FnOk P w K mg base CX0 (k+3) f fd I.ps (spD K I.ps.length (Ad G n I)):=by
 refine F.ok S (fun vs H Q E h=>h.1) fun cdv A outer s H vs Q E hr h=>?_
 obtain ⟨hl,ρ,mh,ds,d,mh',q,rs,r,co⟩:=h;refine ⟨_,(Agq G n).2 (sc:={ N:=I.N,scope:=I.scope,own:=fun _=>true }) ⟨rfl,S.nd,hs.symm,fun _ _ _=>.inl rfl,rfl,rfl,hr,g⟩ (Dl st),?_⟩;unfold Ad at q;split at q
 ·split at q
  ·rename_i d' loc' m' e;cases q;exact ⟨_,mh,ρ,.rt d,loc',mh',by rw [← hb];exact e,Vi r,rs,co⟩
  ·rename_i loc' m' e;cases q;exact ⟨_,mh,ρ,.nx,loc',mh',by rw [← hb];exact e,Vi r,rs,fun H' ρ' σ' e' rs' _=>co H' ρ' _ e' rs' .non⟩
  ·cases q
 ·cases q
theorem Vj {G:Gb}{n:Nat}{I:FnI}{ds:List D}{mh:MH}{r:D×MH}(h:Ad G n I ds mh=some r):ds.length=I.ps.length:=by
 unfold Ad at h;split at h
 ·assumption
 ·cases h
noncomputable def Afd (K:PySem.W.Frag) (mg:Str->Option Value) (x:Str) (I:FnI):Prop:=∃ (qual:Str) (st:Stmt) (f:Addr) (fd:FuncData),mg x=some (.ref f)/\Fun K x qual st f fd/\FnScope I.N I.ps (Bk st)/\I.scope=Bk st/\I.body=Dl st/\∀ us:List Value,us.length=I.ps.length->bindArgs fd ⟨us,[]⟩=pure (I.ps.zip us)
noncomputable def Te (K:PySem.W.Frag) (mg:Str->Option Value) (x:Str) (d:D):Prop:=∃ u v,mg x=some u/\Cg v u/\∀ H ρ,RD K H ρ d v
theorem vD {α:Type}{x n:Str}{a I:α}{r:Option α}{P:Str->α->Prop}(hx:(if x==n then some a else r)=some I) (h1:P n a) (h2:r=some I->P x I):P x I:=by
 by_cases h:(x==n)=true
 ·rw [if_pos h] at hx;cases hx;rw [eq_of_beq h];exact h1
 ·rw [if_neg h] at hx;exact h2 hx
structure TbOk (w:World) (K:PySem.W.Frag) (mg:Str->Option Value) (T:Tb):Prop where
 fn:∀ x I,T.tb x=some I->∃ (qual:Str) (st:Stmt) (f:Addr) (fd:FuncData),mg x=some (.ref f)/\Fun K x qual st f fd/\FnScope I.N I.ps (Bk st)/\I.scope=Bk st/\I.body=Dl st/\∀ us:List Value,us.length=I.ps.length->bindArgs fd ⟨us,[]⟩=pure (I.ps.zip us)
 con:∀ x d,T.con x=some d->∃ u v,mg x=some u/\Cg v u/\∀ H ρ,RD K H ρ d v
 blt:∀ b∈Ku,mg b=none
 dic:∀ x kvs,T.dic x=some kvs->∃ a,mg x=some (.ref a)/\DicOk w K a kvs
 fld:∀ c f,T.fld c f=true->∃ C,PySem.W.nsIn K mainGlobals c=some (some (.ref C))/\Cls K C/\Gn K C f
 met:∀ c m I,T.tbm c m=some I->∃ (qual:Str) (st:Stmt) (C f:Addr) (fd:FuncData),PySem.W.nsIn K mainGlobals c=some (some (.ref C))/\Cls K C/\Meth K C m f/\Fun K m qual st f fd/\FnScope I.N I.ps (Bk st)/\I.scope=Bk st/\I.body=Dl st/\∀ us:List Value,us.length=I.ps.length->bindArgs fd ⟨us,[]⟩=pure (I.ps.zip us)
 mkr:∀ c f,T.mkr c=some f->∃ C fa fd ps,PySem.W.nsIn K mainGlobals c=some (some (.ref C))/\Mk K C fa/\mg c=some (.ref C)/\Binds K fd ps []/\∀ (P:Program) (w:World) (base:Heap),FnOk P w K mg base CX0 1 fa fd ps (spI C f)
theorem gok {P:Program}{w:World}{K:PySem.W.Frag}{mg:Str->Option Value}{base:Heap}{T:Tb}(O:TbOk w K mg T) (k:Nat):GOk P w K mg base k (GkN T k):=by
 induction k with
 | zero=>exact ⟨fun x ps f h=>(by cases h),O.con,O.blt,O.dic,O.fld,fun c m ps g h=>(by cases h),fun c f h=>by
   obtain ⟨C,fa,fd,ps,h1,h2,h3,h4,h5⟩:=O.mkr c f h
   exact ⟨C,fa,fd,ps,h1,h2,h3,h4,h5 _ _ _⟩⟩
 | succ k ih =>
  refine ⟨fun x ps f h=>?_,O.con,O.blt,O.dic,O.fld,fun c m ps g h=>?_,fun c f h=>by
   obtain ⟨C,fa,fd,ps,h1,h2,h3,h4,h5⟩:=O.mkr c f h
   exact ⟨C,fa,fd,ps,h1,h2,h3,h4,h5 _ _ _⟩⟩
  ·simp only [GkN] at h;split at h
   ·rename_i I eI;cases h;obtain ⟨qual,st,fa,fd,h1,h2,h3,h4,h5,h6⟩:=O.fn x I eI;exact ⟨fa,fd,h1,h2.kp,.all h6,jN ih h2 h3 h4 h5 Ac,fun ds mh r hr=>Vj hr⟩
   ·cases h
  ·simp only [GkN] at h;split at h
   ·rename_i I eI;cases h;obtain ⟨qual,st,C,fa,fd,g1,g2,g3,h2,h3,h4,h5,h6⟩:=O.met c m I eI;exact ⟨C,fa,fd,g1,g2,g3,.all h6,jN ih h2 h3 h4 h5 Ac,fun ds mh r hr=>Vj hr⟩
   ·cases h
noncomputable def Bh (st:Stmt):FnI :=
  { ps:=(Em st).args.map (·.arg),
    N:=(Em st).args.map (·.arg)++(((Bk st).names.filter fun p=>(match p.2 with | .local=>true | .cell=>true | _=>false)).map (·.1)).filter (fun x=>!((Em st).args.map (·.arg)).contains x),
    scope:=Bk st,body:=Dl st }
theorem walk {l:PySem.W.OpenLaw}{q:Program}{loose:List Str}{XP:(Str->Option Value)->Heap->Prop}{YP:World->Heap->Prop}{d:DefRec}{K:Params->PySem.W.Frag}{Tt:Tb}{I:FnI}{x:Str}(k:Nat)
  (hn:l.most=some 63) (hdf:d.params.defaults=[]) (hY:∀ (w:World) (h:Heap),YP w h->(K w.params).In h) (hr:Room (k+3) callerA)
  (hI:Tt.tb d.name=some I) (hps:I.ps=[x])
  (T:∀ (w:World) (mg:Str->Option Value) (h:Heap),(K w.params).In h->h.Ns mainGlobals mg->TbOk w (K w.params) mg Tt)
  (main:∀ ns:List Int,ns.length<=63->∃ mh',Ad (GkN Tt k) Ac I [.rol (ns.map D.int)] []=some (.bl true,mh')) :
  PySem.W.WalkO q loose XP YP l.row.toRowW d [] (fun f vs=>PySem.call f vs):=by
 refine L2.sV (n:=63) (k:=k+3) (x:=x) (CX:=fun _=>CX0) (sp:=fun w=>spD (K w.params) 1 (Ad (GkN Tt k) Ac I)) hn (by decide) hdf hr hY (fun w mg fa h hK hN hm=>?_) (fun w H a ns hl hO hS=>?_) fun _ _ _ _ _ z=>z
 ·obtain ⟨qual,st,f,fd,h1,h2,h3,h4,h5,h6⟩:=(T w mg h hK hN).fn _ _ hI;rw [hm] at h1;cases h1;refine ⟨fd,fun s u=>.of_eq ?_,fun base hKb hNb=>?_⟩
  ·have:=h6 [u] (by rw [hps];rfl);rw [hps] at this;exact this
  ·have:=jN (P:=l.prog) (w:=w) (base:=base) (gok (T w mg h hK hN) k) h2 h3 h4 h5 Ac;rw [hps] at this;exact this
 ·obtain ⟨mh',e⟩:=main ns hl;have P:Ik (K w.params) H a (ns.map V.int):=by
   rcases hS with (h|h)|h
   ·rcases hO a with z|⟨o,xs,z⟩
    ·rw [z] at h;cases h
    ·rw [z] at h;cases h
   ·exact .inl h
   ·exact .inr h
  refine ⟨rfl,[],[],[.rol (ns.map D.int)],.bl true,mh',e,⟨rfl,List.nodup_nil,fun n a o e=>by simp at e⟩,.cons (.rol P (RDs.ints ns)) .nil,fun H' ρ' v _ _ r=>by cases r;rfl⟩
end DL
namespace DL
open PySem L2
noncomputable def vr (i:Nat):DM D:=fun loc mh=>match loc[i]? with | some (some d)=>some (d,mh) | _=>none
noncomputable abbrev Kw:=iop (fun _ _=>true) fun i j=>i - j
noncomputable abbrev Gv:=Y5 (Rt (iop Vb fun i j=>i * j))
noncomputable abbrev Br:=iop (fun _ j=>decide (j≠0)&&decide (j.natAbs < 10889035741470030830827987437816582766592)) fun i j=>i.fdiv j
noncomputable abbrev Bm:=iop (fun _ j=>decide (j≠0)) fun i j=>i.fmod j
noncomputable abbrev jO:=iop (fun i j=>decide (0<=j)&&(decide (j<=1000000)&&decide (i.natAbs < 2 ^ 64))) fun i j=>i ^ j.toNat
noncomputable abbrev Vk:=iop (fun i j=>decide (0<=j)&&(decide (j<=1000000)&&decide (i.natAbs < 2 ^ 64))) fun i j=>i * 2 ^ j.toNat
noncomputable abbrev vG:=iop (fun _ j=>decide (0<=j)) fun i j=>i / 2 ^ j.toNat
noncomputable abbrev xQ:=iop (fun _ _=>true) Builtin.bitAnd
noncomputable abbrev Abf:=iop (fun _ _=>true) Builtin.bitOr
noncomputable abbrev ltD:=Qq fun i j=>decide (i < j)
noncomputable abbrev leD:=Qq fun i j=>decide (i<=j)
noncomputable abbrev gtD:=Qq fun i j=>decide (j < i)
noncomputable abbrev geD:=Qq fun i j=>decide (j<=i)
noncomputable def Ir (m:DM D):DM D:=m.bnd fun x=>Zl (Aaw x)
noncomputable def Afe (m:DM D):DM D:=(Al m).bnd fun c=>Zr (.bl (!c))
noncomputable def Aq (mr:DM (List D)):DM D:=mr.bnd fun ds=>Zl (Rc ds)
noncomputable def lstM (mr:DM (List D)):DM D:=mr.bnd fun ds=>Zl (Rf ds)
noncomputable def Ae (f:Fn) (mr:DM (List D)):DM D:=mr.bnd fun ds=>Zl (f ds)
noncomputable def Tf (T:String) (m:DM D):DM D:=m.bnd fun x=>Zl (Ov T x)
noncomputable def Pj (m:DM D):DM D:=m.bnd fun x=>Zl (Fq x)
theorem ln0 {f:List Value->Prop}(h:f []) (us:List Value) (e:us.length=0):f us:=by
 cases us with
 | nil=>exact h
 | cons _ _=>cases e
theorem ln1 {f:List Value->Prop}(h:∀ a,f [a]) (us:List Value) (e:us.length=1):f us:=by
 cases us with
 | nil=>cases e
 | cons a r=>exact ln0 (f:=fun r=>f (a::r)) (h a) r (Nat.succ.inj e)
theorem ln2 {f:List Value->Prop}(h:∀ a b,f [a,b]) (us:List Value) (e:us.length=2):f us:=by
 cases us with
 | nil=>cases e
 | cons a r=>exact ln1 (f:=fun r=>f (a::r)) (h a) r (Nat.succ.inj e)
theorem ln3 {f:List Value->Prop}(h:∀ a b c,f [a,b,c]) (us:List Value) (e:us.length=3):f us:=by
 cases us with
 | nil=>cases e
 | cons a r=>exact ln2 (f:=fun r=>f (a::r)) (h a) r (Nat.succ.inj e)
theorem ln4 {f:List Value->Prop}(h:∀ a b c d,f [a,b,c,d]) (us:List Value) (e:us.length=4):f us:=by
 cases us with
 | nil=>cases e
 | cons a r=>exact ln3 (f:=fun r=>f (a::r)) (h a) r (Nat.succ.inj e)
theorem ln5 {f:List Value->Prop}(h:∀ a b c d e,f [a,b,c,d,e]) (us:List Value) (e:us.length=5):f us:=by
 cases us with
 | nil=>cases e
 | cons a r=>exact ln4 (f:=fun r=>f (a::r)) (h a) r (Nat.succ.inj e)
theorem ln6 {f:List Value->Prop}(h:∀ a b c d e g,f [a,b,c,d,e,g]) (us:List Value) (e:us.length=6):f us:=by
 cases us with
 | nil=>cases e
 | cons a r=>exact ln5 (f:=fun r=>f (a::r)) (h a) r (Nat.succ.inj e)
theorem jP {q:Program}{loose:List Str}{XP:(Str->Option Value)->Heap->Prop}{K:Params->PySem.W.Frag}{as:List Addr}{n t:Nat}{r:PySem.W.RowW}{d:DefRec}{kwd:List (Str×Expr)}{run:Value->List Value->Sem Value}
  (e:∀ P,as=(K P).map (·.1)) (h:PySem.W.WalkO q loose XP (fun w h=>(K w.params).In h) r d kwd run):PySem.W.WalkX q loose XP (PySem.W.X.obsZ as) (PySem.W.X.valZ K n t) r d kwd run :=
 fun w s₀ s₁ mg mb G y a o pm cd doc dV kV h1 h2 h3 h4 h5 h6 args vals as' L hpre hlay hrd hwl hlo =>
  h w s₀ s₁ mg mb G (PySem.W.InK.keeps w s₀.heap s₁.heap (PySem.W.X.z_facts e y).2.1 L.keeps) a o pm cd doc dV kV h1 h2 h3 h4 h5 h6 args vals as' hpre hlay hrd hwl hlo
noncomputable def Ru (K:PySem.W.Frag):List (Str×Stmt)->Prop
 | []=>True
 | r::L=>(∃ (f:Addr) (fd:FuncData),PySem.W.nsIn K mainGlobals r.1=some (some (.ref f))/\Fun K r.1 r.1 r.2 f fd)/\Ru K L
theorem jQ {K:PySem.W.Frag}{x:Str}{st:Stmt}{L:List (Str×Stmt)}{f:Addr}{oc:Value}{od an:Option Addr}{osl:Array (Option Value)}{kV doc pm cdv ct:Value}(a:PySem.W.nsIn K mainGlobals x=some (some (.ref f)))
  (l:K.lookup f=some ⟨oc,od,.func (PySem.W.fnOf x x (Em st) (Dl st) (Bk st) .none kV doc pm an cdv ct),osl⟩)
  (c:PySem.W.codeIn K cdv x=true) (k:PySem.W.keepIn K (.ref f)=true) (q:Ru K L):Ru K ((x,st)::L):=⟨⟨f,_,a,Wn l c k⟩,q⟩
noncomputable def Afg (x:Str) (st:Stmt):Prop:=FnScope (Bh st).N (Bh st).ps (Bk st)/\∀ (kV doc pm:Value) (an:Option Addr) (cdv ct:Value) (us:List Value),us.length=(Bh st).ps.length->bindArgs (PySem.W.fnOf x x (Em st) (Dl st) (Bk st) .none kV doc pm an cdv ct) ⟨us,[]⟩=pure ((Bh st).ps.zip us)
theorem Bc {x:Str}{st:Stmt}(s:FnScope (Bh st).N (Bh st).ps (Bk st)) (b:∀ (kV doc pm:Value) (an:Option Addr) (cdv ct:Value) (us:List Value),us.length=(Bh st).ps.length->bindArgs (PySem.W.fnOf x x (Em st) (Dl st) (Bk st) .none kV doc pm an cdv ct) ⟨us,[]⟩=pure ((Bh st).ps.zip us)):Afg x st:=⟨s,b⟩
noncomputable def jR:List (Str×Stmt)->Prop
 | []=>True
 | r::L=>Afg r.1 r.2/\jR L
theorem Y9 {K:PySem.W.Frag}{h:Heap}{mg:Str->Option Value}(X:K.In h) (G:h.Ns mainGlobals mg) {x:Str}{I:FnI}:∀ {L:List (Str×Stmt)},Ru K L->jR L->(L.lookup x).map Bh=some I->Afd K mg x I
 | [],_,_,e=>by cases e
 | (y,st)::L,⟨⟨f,fd,a,F⟩,q⟩,⟨s,t⟩,e=>by
  simp only [List.lookup] at e;split at e
  ·rename_i hy;rw [eq_of_beq hy];cases e;refine ⟨y,st,f,fd,PySem.W.mg_of X G a,F,s.1,rfl,rfl,fun us hu=>?_⟩;obtain ⟨oc,od,kV,doc,pm,an,cdv,ct,osl,rfl,_⟩:=F.ex;exact s.2 kV doc pm an cdv ct us hu
  ·exact Y9 X G q t e
theorem jT {K:PySem.W.Frag}{h:Heap}{mg:Str->Option Value}(X:K.In h) (G:h.Ns mainGlobals mg) {x:Str}{st:Stmt}:∀ {L:List (Str×Stmt)},Ru K L->L.lookup x=some st->Te K mg x (.fn x)
 | [],_,e=>by cases e
 | (y,st)::L,⟨⟨f,fd,a,F⟩,q⟩,e=>by
  simp only [List.lookup] at e;split at e
  ·rename_i hy;rw [eq_of_beq hy];exact ⟨_,.ref f,PySem.W.mg_of X G a,rfl,fun _ _=>.fn a⟩
  ·exact jT X G q e
noncomputable def Vl (K:PySem.W.Frag):List (Str×D)->Prop
 | []=>True
 | r::L=>(∃ u,PySem.W.nsIn K mainGlobals r.1=some (some u)/\rdV K 60 u=some r.2)/\Vl K L
theorem jU {K:PySem.W.Frag}{x:Str}{d:D}{L:List (Str×D)}{u:Value}(a:PySem.W.nsIn K mainGlobals x=some (some u)) (b:rdV K 60 u=some d) (q:Vl K L):Vl K ((x,d)::L):=⟨⟨u,a,b⟩,q⟩
theorem Vm {K:PySem.W.Frag}{h:Heap}{mg:Str->Option Value}(X:K.In h) (G:h.Ns mainGlobals mg) {x:Str}{d:D}:∀ {L:List (Str×D)},Vl K L->L.lookup x=some d->Te K mg x d
 | [],_,e=>by cases e
 | (y,d')::L,⟨⟨u,a,b⟩,q⟩,e=>by
  simp only [List.lookup] at e;split at e
  ·rename_i hy;rw [eq_of_beq hy];cases e;obtain ⟨v,r1,r2⟩:=iR 60 b;exact ⟨u,v,PySem.W.mg_of X G a,r1,r2⟩
  ·exact Vm X G q e
noncomputable def Vn (K:PySem.W.Frag):List Str->Prop
 | []=>True
 | b::L=>PySem.W.nsIn K mainGlobals b=some none/\Vn K L
theorem jV {K:PySem.W.Frag}{b:Str}{L:List Str}(a:PySem.W.nsIn K mainGlobals b=some none) (q:Vn K L):Vn K (b::L):=⟨a,q⟩
theorem Vo {K:PySem.W.Frag}{h:Heap}{mg:Str->Option Value}(X:K.In h) (G:h.Ns mainGlobals mg):∀ {L:List Str},Vn K L->∀ b∈L,mg b=none
 | _::_,⟨a,_⟩,_,.head _=>PySem.W.mg_none_of X G a
 | _::_,⟨_,q⟩,b,.tail _ m=>Vo X G q b m
section
variable {loc:DL.Loc}{mh:MH}{ma mb:DM D}{mr:DM (List D)}{t u:DM Bool}{m1 m2:SM}
theorem Afh (i:Nat):vr i loc mh=(match loc[i]? with | some (some d)=>some (d,mh) | _=>none):=by kernel_rfl
theorem vH:Dy ma loc mh=(match ma loc mh with | none=>none | some (x,h)=>(match gB x h with | some k=>some (k,h) | none=>none)):=by kernel_rfl
theorem jW (T:String) (f:D->List D->MH->Option (D×MH)):Cz T f ma mr loc mh=(match ma loc mh with | none=>none | some (x,h)=>if W0 T x h=true then (match mr loc h with | none=>none | some (ds,h2)=>f x ds h2) else none):=by kernel_rfl
theorem vI (g:GM):Bb ma g loc mh=(match ma loc mh with | some (d,h)=>(match g d loc h with | some (l,h')=>some (.nx,l,h') | none=>none) | none=>none):=by kernel_rfl
theorem jX:ifS t m1 m2 loc mh=(match t loc mh with | some (k,h)=>if k=true then m1 loc h else m2 loc h | none=>none):=by kernel_rfl
theorem vJ:Am ma loc mh=(match ma loc mh with | some (d,h)=>some (.rt d,loc,h) | none=>none):=by kernel_rfl
theorem jY:Dz ma loc mh=(match ma loc mh with | some (_,h)=>some (.nx,loc,h) | none=>none):=by kernel_rfl
theorem Za:Ab m1 m2 loc mh=(match m1 loc mh with | some (.nx,l,h)=>m2 l h | r=>r):=by kernel_rfl
theorem vK:Dt ma loc mh=(match ma loc mh with | none=>none | some (x,h)=>(match srcOf x h with | some s=>some (s,h) | none=>none)):=by kernel_rfl
theorem vL (f:List D->Option Src):Hz f mr loc mh=(match mr loc mh with | none=>none | some (ds,h)=>(match f ds with | some s=>some (s,h) | none=>none)):=by
 unfold Hz DM.bnd;cases mr loc mh with
 | none=>rfl
 | some p =>
  obtain ⟨ds,h⟩:=p;dsimp only;cases f ds <;> rfl
theorem jZ:Kg (some ma) loc mh=(match ma loc mh with | some (.int i,h)=>some (some i,h) | _=>none):=by
 show (ma.bnd _) loc mh=_;unfold DM.bnd;cases ma loc mh with
 | none=>rfl
 | some p =>
  obtain ⟨x,h⟩:=p;cases x <;> rfl
theorem kE:Kq ma loc mh=(match ma loc mh with | none=>none | some (x,h)=>(match srcOf x h with | some s=>some (.enum s,h) | none=>none)):=by kernel_rfl
end
theorem Abg (C:Int->Int->Bool) (g:Int->Int->Int) (i j:Int) (mh:MH):iop C g (.int i) (.int j) mh=if C i j=true then some (.int (g i j),mh) else none:=by kernel_rfl
theorem kI {j:Int}(h0:0<=j) (h:j<=1000000):Jo [.int j]=some (.seq (Cd 0 j.toNat)):=by
 have e2:-(2 ^ 62)<=j/\j < 2 ^ 62:=by omega
 unfold Jo;dsimp only;rw [if_pos e2]
theorem Gw {B:Nat}(h:B<=1000000):Jo [.int B]=some (.seq (Cd 0 B)):=by rw [kI (by omega) (by omega),Int.toNat_natCast]
theorem le_size {n:Nat}(h:n<=1000000):n<=sizeLine:=by rw [sizeLine_eq];omega
theorem lt_size {n:Nat}(h:n<=1000000):n < sizeLine:=by rw [sizeLine_eq];omega
theorem kJ {ds:List D}{mh:MH}(h:ds.length<=1000000):Rc ds mh=some (.tup ds,mh):=by unfold Rc;rw [if_pos (le_size h)]
theorem kO {ds:List D}{mh:MH}(h:ds.length<=1000000):Rf ds mh=some (.ref mh.length,mh++[.lst ds]):=by unfold Rf;rw [if_pos (le_size h)]
theorem Xi {n:Nat}{ds:List D}{y:D}{mh:MH}(e:mh[n]?=some (.lst ds)) (h:ds.length<=1000000):Ci (.ref n) [y] mh=some (.non,mh.set n (.lst (ds++[y]))):=by
 simp only [Ci,e,if_pos (lt_size h)]
theorem kW {n m:Nat}{xs ys:List D}{mh:MH}(e1:mh[n]?=some (.lst xs)) (e2:mh[m]?=some (.lst ys)) (h:xs.length+ys.length<=1000000):Bu (.ref n) (.ref m) mh=some (.ref mh.length,mh++[.lst (xs++ys)]):=by
 simp only [Bu,e1,e2,if_pos (le_size h)]
theorem Ls (mh:MH) (n:Nat):∀ ns:List Int,mapO (py mh n) (ns.map D.int)=some (ns.map PyData.int)
 | []=>rfl
 | a::r=>by
  have e:py mh n (.int a)=some (.int a):=by cases n <;> rfl
  simp only [List.map_cons,mapO,e,Ls mh n r]
theorem vM {mh:MH}{n k:Nat}{ns:List Int}(h:mh[k]?=some (.lst (ns.map D.int))):py mh (n+1) (.ref k)=some (.list (ns.map PyData.int)):=by
 simp only [py,h,Ls]
theorem M7:∀ xs ys:List Int,PyData.eqvAll (xs.map PyData.int) (ys.map PyData.int)=(xs==ys)
 | [],[]=>by simp [PyData.eqvAll]
 | [],_::_=>by simp [PyData.eqvAll]
 | _::_,[]=>by simp [PyData.eqvAll]
 | a::r,b::t=>by simp only [List.map_cons,PyData.eqvAll,PyData.eqv,M7 r t];rfl
theorem Pk {mh:MH}{k:Nat}{xs:List Int}{a:Int}(h:mh[k]?=some (.lst (xs.map D.int))):inD false (.int a) (.ref k) mh=some (.bl (decide (a∈xs)),mh):=by
 have e:py mh 60 (.int a)=some (.int a):=rfl;simp only [inD,Lp h,Uv,inB,e,vM h];have:(List.map PyData.int xs).any (fun y=>PyData.eqv y (.int a))=decide (a∈xs):=by
  rw [List.any_map,Bool.eq_iff_iff,List.any_eq_true,decide_eq_true_iff];constructor
  ·rintro ⟨x,hx,e⟩;have e:(x==a)=true:=e;rw [← eq_of_beq e];exact hx
  ·intro hx;exact ⟨a,hx,(beq_self_eq_true a:(a==a)=true)⟩
 rw [this];rfl
end DL
namespace DL
open PySem L2 PyProof.Rows
noncomputable abbrev Ah (n:Nat):D:=.int (n:Int)
noncomputable def J5 (g n:Nat):List Nat:=(List.range n).filter fun i=>g.testBit i
theorem Xj {g n i:Nat}:i∈J5 g n ↔ i < n/\g.testBit i=true:=by unfold J5;simp
theorem bits_le {g n:Nat}(h:g < 2 ^ n):Builtin.Int.intBits (g:Int)<=n:=by
 unfold Builtin.Int.intBits
 by_cases hg:g=0
 ·subst hg;simp
 ·have:¬ (((g:Int)==0)=true):=by simpa using hg
  rw [if_neg this,Int.natAbs_natCast];have:=(Nat.log2_lt hg).mpr h;omega
theorem Pn (g n:Nat):(J5 g n).length<=n:=by
 unfold J5;have:=List.length_filter_le (fun i=>g.testBit i) (List.range n)
 simpa using this
noncomputable def setOf (l:List Nat):Nat:=l.foldl (fun a h=>a ||| 2 ^ h) 0
theorem Ky (i:Nat):∀ (l:List Nat) (a:Nat),(l.foldl (fun a h=>a ||| 2 ^ h) a).testBit i=(a.testBit i || decide (i∈l))
 | [],a=>by simp
 | h::r,a=>by
  rw [List.foldl_cons,Ky i r,Nat.testBit_or,Nat.testBit_two_pow];have e:decide (h=i)=decide (i=h):=by simp [eq_comm]
  rw [e]
  by_cases e1:i=h
  ·simp [e1]
  ·by_cases e2:i∈r <;> simp [e1,e2]
theorem Qx (l:List Nat) (i:Nat):(setOf l).testBit i=decide (i∈l):=by unfold setOf;rw [Ky];simp
theorem cP (a b:Nat):Builtin.bitOr (a:Int) (b:Int)=((a ||| b:Nat):Int):=by
 rw [bitOr_and,bitAnd_pp (by omega) (by omega)];have:=nat_or_add_and a b;simp only [Int.toNat_natCast];omega
theorem vN (s h:Nat):(Builtin.bitAnd ((s:Int) / 2 ^ (h:Int).toNat) 1==1)=s.testBit h:=by
 rw [bitAnd_m1,Int.toNat_natCast];rw [Nat.testBit_eq_decide_div_mod_eq];have e:((s:Int) / 2 ^ h) % 2=((s / 2 ^ h % 2:Nat):Int):=by
  rw [Int.natCast_emod,Int.natCast_ediv,Int.natCast_pow];rfl
 rw [e,Bool.eq_iff_iff,decide_eq_true_iff,beq_iff_eq];omega
end DL
namespace DL
open PySem L2
noncomputable def wD {α:Type}(m:DM α) (loc:DL.Loc) (mh:MH) (P:α->MH->Prop):Prop:=∃ a h,m loc mh=some (a,h)/\P a h
noncomputable def wV (r:Option (D×MH)) (P:D->MH->Prop):Prop:=∃ d h,r=some (d,h)/\P d h
noncomputable def wG (r:Option (DL.Loc×MH)) (P:DL.Loc->MH->Prop):Prop:=∃ l h,r=some (l,h)/\P l h
noncomputable def wS (m:SM) (loc:DL.Loc) (mh:MH) (P:Fl->DL.Loc->MH->Prop):Prop:=∃ f l h,m loc mh=some (f,l,h)/\P f l h
section
variable {loc:DL.Loc}{mh:MH}{ma mb mc:DM D}{mr:DM (List D)}{t u:DM Bool}{P:D->MH->Prop}{B:Bool->MH->Prop}
theorem Bo {α:Type}{m:DM α}{P Q:α->MH->Prop}(h:wD m loc mh P) (i:∀ a h,P a h->Q a h):wD m loc mh Q:=let ⟨a,h',e,p⟩:=h;⟨a,h',e,i a h' p⟩
theorem Aj {i:Nat}{d:D}(e:loc[i]?=some (some d)) (h:P d mh):wD (vr i) loc mh P:=⟨d,mh,by rw [Afh,e],h⟩
theorem Ag {α:Type}{a:α}{P:α->MH->Prop}(h:P a mh):wD (Zr a) loc mh P:=⟨a,mh,rfl,h⟩
theorem vO {f:MH->Option (D×MH)}(h:wV (f mh) P):wD (Zl f) loc mh P:=h
theorem Cp {α β:Type}{m:DM α}{f:α->DM β}{P:β->MH->Prop}(h:wD m loc mh fun a h1=>wD (f a) loc h1 P):wD (m.bnd f) loc mh P:=by
 obtain ⟨a,h1,e1,b,h2,e2,p⟩:=h;exact ⟨b,h2,by unfold DM.bnd;rw [e1];exact e2,p⟩
theorem Av {f:D->D->MH->Option (D×MH)}(h:wD ma loc mh fun x h1=>wD mb loc h1 fun y h2=>wV (f x y h2) P):wD (dop f ma mb) loc mh P:=Cp (Bo h fun _ _ q=>Cp (Bo q fun _ _ z=>z))
theorem Ar {P:List D->MH->Prop}(h:wD ma loc mh fun x h1=>wD mr loc h1 fun xs h2=>P (x::xs) h2):wD (Aa ma mr) loc mh P:=Cp (Bo h fun _ _ q=>Cp (Bo q fun _ _ z=>Ag z))
theorem Cj {f:Fn}(h:wD mr loc mh fun ds h1=>wV (f ds h1) P):wD (Ae f mr) loc mh P:=Cp (Bo h fun _ _ q=>q)
theorem Pq (h:wD mr loc mh fun ds h1=>ds.length<=1000000/\P (.tup ds) h1):wD (Aq mr) loc mh P:=Cp (Bo h fun _ _ q=>⟨_,_,kJ q.1,q.2⟩)
theorem Pr (h:wD mr loc mh fun ds h1=>ds.length<=1000000/\P (.ref h1.length) (h1++[.lst ds])):wD (lstM mr) loc mh P:=Cp (Bo h fun _ _ q=>⟨_,_,kO q.1,q.2⟩)
theorem kY (h:wD ma loc mh fun x h1=>∃ i,x=.int i/\P (.int (-i)) h1):wD (Ir ma) loc mh P:=Cp (Bo h fun _ _ ⟨i,e,q⟩=>by subst e;exact ⟨_,_,rfl,q⟩)
theorem kZ {T:String}(h:wD ma loc mh fun x h1=>wV (Ov T x h1) P):wD (Tf T ma) loc mh P:=Cp (Bo h fun _ _ q=>q)
theorem Xk (h:wD ma loc mh fun x h1=>wV (Fq x h1) P):wD (Pj ma) loc mh P:=Cp (Bo h fun _ _ q=>q)
theorem Ba (h:wD ma loc mh fun x h1=>∃ k,x=.bl k/\B k h1):wD (Al ma) loc mh B:=Cp (Bo h fun _ _ ⟨k,e,q⟩=>by subst e;exact Ag q)
theorem H9 (h:wD ma loc mh fun x h1=>∃ k,gB x h1=some k/\B k h1):wD (Dy ma) loc mh B:=by
 obtain ⟨x,h1,e,k,ek,q⟩:=h;exact ⟨k,h1,by rw [vH,e];dsimp only;rw [ek],q⟩
theorem vP (h:wD ma loc mh fun x h1=>∃ k,x=.bl k/\P (.bl (!k)) h1):wD (Afe ma) loc mh P:=Cp (Ba (Bo h fun _ _ ⟨k,e,q⟩=>⟨k,e,Ag q⟩))
theorem Kz (h:wD t loc mh fun k h1=>B (!k) h1):wD (Dk t) loc mh B:=Cp (Bo h fun _ _ q=>Ag q)
theorem Nv (h:wD t loc mh fun k h1=>(k=true->wD u loc h1 B)/\(k=false->B false h1)):wD (Ht t u) loc mh B:=Cp (Bo h fun k _ q=>by
 cases k with
 | true=>exact q.1 rfl
 | false=>exact Ag (q.2 rfl))
theorem Pu (h:wD t loc mh fun k h1=>(k=true->B true h1)/\(k=false->wD u loc h1 B)):wD (J0 t u) loc mh B:=Cp (Bo h fun k _ q=>by
 cases k with
 | true=>exact Ag (q.1 rfl)
 | false=>exact q.2 rfl)
theorem Zc (h:wD ma loc mh fun x h1=>∃ k,x=.bl k/\(k=true->wD mb loc h1 P)/\(k=false->P (.bl false) h1)):wD (Dw ma mb) loc mh P:=Cp (Ba (Bo h fun _ _ ⟨k,e,q⟩=>⟨k,e,by
 cases k with
 | true=>exact q.1 rfl
 | false=>exact Ag (q.2 rfl)⟩))
theorem lA (h:wD t loc mh fun k h1=>(k=true->wD ma loc h1 P)/\(k=false->wD mb loc h1 P)):wD (dIf t ma mb) loc mh P:=Cp (Bo h fun k _ q=>by
 cases k with
 | true=>exact q.1 rfl
 | false=>exact q.2 rfl)
theorem Vp {f f':D->D->MH->Option (D×MH)}(h:wD ma loc mh fun x h1=>wD mb loc h1 fun y h2=>wV (f x y h2) fun z h3=>∃ k,z=.bl k/\(k=true->wD mc loc h3 fun w h4=>wV (f' y w h4) P)/\(k=false->P (.bl false) h3)):wD (Hi f f' ma mb mc) loc mh P :=
 Cp (Bo h fun _ _ q=>Cp (Bo q fun _ _ z=>Cp (Ba (Bo (vO z) fun _ _ ⟨k,e,q⟩=>⟨k,e,by
  cases k with
  | true=>exact Cp (Bo (q.1 rfl) fun _ _ w=>w)
  | false=>exact Ag (q.2 rfl)⟩))))
theorem Zd {T:String}{f:D->List D->MH->Option (D×MH)}(h:wD ma loc mh fun x h1=>W0 T x h1=true/\wD mr loc h1 fun ds h2=>wV (f x ds h2) P):wD (Cz T f ma mr) loc mh P:=by
 obtain ⟨x,h1,e1,ht,ds,h2,e2,d,h3,e3,p⟩:=h;exact ⟨d,h3,by rw [jW,e1];dsimp only;rw [if_pos ht,e2];exact e3,p⟩
theorem lB {O:Option Int->MH->Prop}(h:O none mh):wD (Kg none) loc mh O:=⟨none,mh,rfl,h⟩
theorem lC {O:Option Int->MH->Prop}(h:wD ma loc mh fun x h1=>∃ i,x=.int i/\O (some i) h1):wD (Kg (some ma)) loc mh O:=by
 obtain ⟨x,h1,e,i,rfl,q⟩:=h;exact ⟨some i,h1,by rw [jZ,e],q⟩
theorem Afi {ml mu:Option (DM D)}(h:wD ma loc mh fun x h1=>wD (Kg ml) loc h1 fun l h2=>wD (Kg mu) loc h2 fun r h3=>wV (slD x l r h3) P):wD (dSl ma ml mu) loc mh P :=
 Cp (Bo h fun _ _ q=>Cp (Bo q fun _ _ z=>Cp (Bo z fun _ _ w=>w)))
theorem Ey {R:Src->MH->Prop}(h:wD ma loc mh fun x h1=>∃ s,srcOf x h1=some s/\R s h1):wD (Dt ma) loc mh R:=by
 obtain ⟨x,h1,e,s,es,q⟩:=h;exact ⟨s,h1,by rw [vK,e];dsimp only;rw [es],q⟩
theorem vQ {R:Src->MH->Prop}(h:wD ma loc mh fun x h1=>∃ s,srcOf x h1=some s/\R (.enum s) h1):wD (Kq ma) loc mh R:=by
 obtain ⟨x,h1,e,s,es,q⟩:=h;exact ⟨.enum s,h1,by rw [kE,e];dsimp only;rw [es],q⟩
theorem lE {R:Src->MH->Prop}{f:List D->Option Src}(h:wD mr loc mh fun ds h1=>∃ s,f ds=some s/\R s h1):wD (Hz f mr) loc mh R:=by
 obtain ⟨x,h1,e,s,es,q⟩:=h;exact ⟨s,h1,by rw [vL,e];dsimp only;rw [es],q⟩
end
noncomputable def seqK (m2:SM) (P:Fl->DL.Loc->MH->Prop) (f:Fl) (l:DL.Loc) (h:MH):Prop:=match f with
 | .nx=>wS m2 l h P
 | f=>P f l h
section
variable {loc l:DL.Loc}{mh h1:MH}{me:DM D}{m1 m2:SM}{g:GM}{t:DM Bool}{P:Fl->DL.Loc->MH->Prop}
theorem Ak (h:wS m1 loc mh (seqK m2 P)):wS (Ab m1 m2) loc mh P:=by
 obtain ⟨f,l,h1,e,q⟩:=h;cases f with
 | nx =>
  obtain ⟨f',l',h',e',p⟩:=q;exact ⟨f',l',h',by rw [Za,e];exact e',p⟩
 | _=>exact ⟨_,l,h1,by rw [Za,e],q⟩
theorem Af (h:wS m2 l h1 P):seqK m2 P .nx l h1:=h
theorem vR {d:D}(h:P (.rt d) l h1):seqK m2 P (.rt d) l h1:=h
theorem Ax (h:P .nx loc mh):wS Zn loc mh P:=⟨_,_,_,rfl,h⟩
theorem Cw (h:wD me loc mh fun d h1=>wG (g d loc h1) fun l h2=>P .nx l h2):wS (Bb me g) loc mh P:=by
 obtain ⟨d,h1,e1,l,h2,e2,p⟩:=h;exact ⟨.nx,l,h2,by rw [vI,e1];dsimp only;rw [e2],p⟩
theorem Gx (h:wD me loc mh fun d h1=>P (.rt d) loc h1):wS (Am me) loc mh P:=by
 obtain ⟨d,h1,e1,p⟩:=h;exact ⟨.rt d,loc,h1,by rw [vJ,e1],p⟩
theorem vU (h:wD me loc mh fun _ h1=>P .nx loc h1):wS (Dz me) loc mh P:=by
 obtain ⟨d,h1,e1,p⟩:=h;exact ⟨.nx,loc,h1,by rw [jY,e1],p⟩
theorem Bx (h:wD t loc mh fun k h1=>(k=true->wS m1 loc h1 P)/\(k=false->wS m2 loc h1 P)):wS (ifS t m1 m2) loc mh P:=by
 obtain ⟨k,h1,e1,a,b⟩:=h;cases k with
 | true =>
  obtain ⟨f,l,h',e,p⟩:=a rfl;exact ⟨f,l,h',by rw [jX,e1];exact e,p⟩
 | false =>
  obtain ⟨f,l,h',e,p⟩:=b rfl;exact ⟨f,l,h',by rw [jX,e1];exact e,p⟩
theorem Ay {i:Nat}{d:D}{R:DL.Loc->MH->Prop}(h:R (loc.set i (some d)) mh):wG (Aw i d loc mh) R:=⟨_,_,rfl,h⟩
theorem Tg {is:List Nat}{ds:List D}{R:DL.Loc->MH->Prop}(hl:ds.length=is.length) (h:R (Li is ds loc) mh):wG (Ms is (.tup ds) loc mh) R:=⟨_,_,if_pos hl,h⟩
noncomputable def Abh (J:DL.Loc->MH->Prop) (P:Fl->DL.Loc->MH->Prop) (f:Fl) (l:DL.Loc) (h:MH):Prop:=match f with
 | .nx=>J l h
 | .ct=>J l h
 | .bk=>P .nx l h
 | .rt d=>P (.rt d) l h
theorem Xl {src:Src}{ds:List D}{body:SM}(J:Nat->DL.Loc->MH->Prop) (keep:∀ i l h,J i l h->src.ok h=true/\src.items h=ds)
  (step:∀ i d l h,ds[i]?=some d->J i l h->wG (g d l h) fun l1 h1=>wS body l1 h1 (Abh (J (i+1)) P)) (fin:∀ l h,J ds.length l h->P .nx l h) :
  ∀ (k i:Nat) (l:DL.Loc) (h:MH),i+k=ds.length->J i l h->wS (Ni src g body k i) l h P
 | 0,i,l,h,e,j=>by
  have e:i=ds.length:=by omega
  subst e;have s:src.stop h ds.length=true:=by
   unfold Src.stop;rw [(keep _ _ _ j).1,(keep _ _ _ j).2,Bool.true_and];exact decide_eq_true (Nat.le_refl _)
  exact ⟨.nx,l,h,by simp only [Ni,s,if_true],fin _ _ j⟩
 | k+1,i,l,h,e,j=>by
  have hi:i < ds.length:=by omega
  have eg:src.get h i=some ds[i]:=by
   unfold Src.get;rw [(keep _ _ _ j).2,List.getElem?_eq_getElem hi]
  obtain ⟨l1,h1,e1,f,l2,h2,e2,q⟩:=step i ds[i] l h (List.getElem?_eq_getElem hi) j;cases f with
  | nx =>
   obtain ⟨f',l',h',e',p⟩:=Xl J keep step fin k (i+1) l2 h2 (by omega) q;exact ⟨f',l',h',by simp only [Ni,eg,e1,e2];exact e',p⟩
  | ct =>
   obtain ⟨f',l',h',e',p⟩:=Xl J keep step fin k (i+1) l2 h2 (by omega) q;exact ⟨f',l',h',by simp only [Ni,eg,e1,e2];exact e',p⟩
  | bk=>exact ⟨.nx,l2,h2,by simp only [Ni,eg,e1,e2],q⟩
  | rt d=>exact ⟨.rt d,l2,h2,by simp only [Ni,eg,e1,e2],q⟩
theorem Ez {mi:DM Src}{body:SM}(h:wD mi loc mh fun src h0=>∃ ds,∃ J:Nat->DL.Loc->MH->Prop,J 0 loc h0/\(∀ i l h,J i l h->src.ok h=true/\src.items h=ds) /\
  (∀ i d l h,ds[i]?=some d->J i l h->wG (g d l h) fun l1 h1=>wS body l1 h1 (Abh (J (i+1)) P))/\∀ l h,J ds.length l h->P .nx l h):wS (Ge mi g body) loc mh P:=by
 obtain ⟨src,h0,e,ds,J,j0,keep,step,fin⟩:=h;have el:(src.items h0).length=ds.length:=by rw [(keep _ _ _ j0).2]
 obtain ⟨f,l,h',e',p⟩:=Xl J keep step fin ds.length 0 loc h0 (by omega) j0;refine ⟨f,l,h',?_,p⟩;unfold Ge;rw [e];dsimp only;rw [el];exact e'
theorem Ti {src:Src}{ds:List D}{tc:DM Bool}{e:DM D}{R:List D->MH->Prop}(J:Nat->List D->MH->Prop) (keep:∀ i acc h,J i acc h->src.ok h=true/\src.items h=ds) (hz:ds.length<=1000000) (small:∀ i acc h,J i acc h->acc.length<=i)
  (step:∀ i d acc h,ds[i]?=some d->J i acc h->wG (g d loc h) fun l1 h1=>wD tc l1 h1 fun c h2=>(c=true->wD e l1 h2 fun y h3=>J (i+1) (acc++[y]) h3)/\(c=false->J (i+1) acc h2)) (fin:∀ acc h,J ds.length acc h->R acc h) :
  ∀ (k i:Nat) (acc:List D) (h:MH),i+k=ds.length->J i acc h->∃ acc' h',Jq src g tc e loc k i acc h=some (acc',h')/\R acc' h'
 | 0,i,acc,h,q,j=>by
  have q:i=ds.length:=by omega
  subst q;have s:src.stop h ds.length=true:=by
   unfold Src.stop;rw [(keep _ _ _ j).1,(keep _ _ _ j).2,Bool.true_and];exact decide_eq_true (Nat.le_refl _)
  exact ⟨acc,h,by simp only [Jq,s,if_true],fin _ _ j⟩
 | k+1,i,acc,h,q,j=>by
  have hi:i < ds.length:=by omega
  have eg:src.get h i=some ds[i]:=by
   unfold Src.get;rw [(keep _ _ _ j).2,List.getElem?_eq_getElem hi]
  obtain ⟨l1,h1,e1,c,h2,e2,a,b⟩:=step i ds[i] acc h (List.getElem?_eq_getElem hi) j;cases c with
  | true =>
   obtain ⟨y,h3,e3,j3⟩:=a rfl;obtain ⟨acc',h',e',p⟩:=Ti J keep hz small step fin k (i+1) _ h3 (by omega) j3;have hl:acc.length < sizeLine:=lt_size (by have:=small _ _ _ j;omega);exact ⟨acc',h',by simp only [Jq,eg,e1,e2,if_true,e3,if_pos hl];exact e',p⟩
  | false =>
   obtain ⟨acc',h',e',p⟩:=Ti J keep hz small step fin k (i+1) _ h2 (by omega) (b rfl);exact ⟨acc',h',by simp only [Jq,eg,e1,e2,Bool.false_eq_true,if_false];exact e',p⟩
theorem vV {mi:DM Src}{cs:List (Option Nat)}{tc:DM Bool}{e:DM D}{Q:D->MH->Prop}(h:wD mi loc mh fun src h0=>∃ ds,∃ J:Nat->List D->MH->Prop,ds.length<=1000000/\J 0 [] h0/\(∀ i acc h,J i acc h->src.ok h=true/\src.items h=ds)/\(∀ i acc h,J i acc h->acc.length<=i) /\
  (∀ i d acc h,ds[i]?=some d->J i acc h->wG (g d (Qs cs loc) h) fun l1 h1=>wD tc l1 h1 fun c h2=>(c=true->wD e l1 h2 fun y h3=>J (i+1) (acc++[y]) h3)/\(c=false->J (i+1) acc h2)) /\
  ∀ acc h,J ds.length acc h->Q (.ref h.length) (h++[.lst acc])):wD (Df mi cs g tc e) loc mh Q:=by
 obtain ⟨src,h0,e0,ds,J,hz,j0,keep,small,step,fin⟩:=h;have el:(src.items h0).length=ds.length:=by rw [(keep _ _ _ j0).2]
 obtain ⟨acc,h',e',p⟩:=Ti J keep hz small step fin ds.length 0 [] h0 (by omega) j0;refine ⟨.ref h'.length,h'++[.lst acc],?_,p⟩;unfold Df;rw [e0];dsimp only;rw [el,e']
end
noncomputable def Px (P:D->MH->Prop) (f:Fl) (_:DL.Loc) (h:MH):Prop:=match f with
 | .rt d=>P d h
 | .nx=>P .non h
 | _=>False
theorem Ao {G:Gb}{n:Nat}{I:FnI}{b:SM}{ds:List D}{mh:MH}{np m:Nat}{P:D->MH->Prop}(hb:iSs G n { N:=I.N,scope:=I.scope,own:=fun _=>true } I.body=b) (hp:I.ps.length=np) (hN:I.N.length=m) (hl:ds.length=np)
  (h:wS b (ds.map some++List.replicate (m - np) none) mh (Px P)):wV (Ad G n I ds mh) P:=by
 obtain ⟨f,l,h',e,p⟩:=h;cases f with
 | rt d=>exact ⟨d,h',by unfold Ad;rw [if_pos (by rw [hp];exact hl),hb,hN,hl,e],p⟩
 | nx=>exact ⟨.non,h',by unfold Ad;rw [if_pos (by rw [hp];exact hl),hb,hN,hl,e],p⟩
 | bk=>exact p.elim
 | ct=>exact p.elim
section
variable {mh:MH}{P:D->MH->Prop}
theorem Bj {r:Option (D×MH)}{d:D}{h:MH}(e:r=some (d,h)) (p:P d h):wV r P:=⟨d,h,e,p⟩
theorem Gy {C:Int->Int->Bool}{g:Int->Int->Int}{i j:Int}(hC:C i j=true) (h:P (.int (g i j)) mh):wV (iop C g (.int i) (.int j) mh) P:=⟨_,_,by rw [Abg,if_pos hC],h⟩
theorem lF {i j:Int}(h:P (.int (i - j)) mh):wV (Kw (.int i) (.int j) mh) P:=Gy rfl h
theorem Cq {i j:Int}(hj:j≠0) (h:P (.int (i.fmod j)) mh):wV (Bm (.int i) (.int j) mh) P:=Gy (decide_eq_true hj) h
theorem K1 {i j:Int}(hj:j≠0) (hb:j.natAbs < 10889035741470030830827987437816582766592) (h:P (.int (i.fdiv j)) mh):wV (Br (.int i) (.int j) mh) P:=Gy (by rw [decide_eq_true hj,decide_eq_true hb];rfl) h
theorem Tn {i j:Int}(hb:(-(2 ^ 64) < i/\i < 2 ^ 64)\/(-(2 ^ 64) < j/\j < 2 ^ 64)) (h:P (.int (i * j)) mh):wV (Gv (.int i) (.int j) mh) P:=show wV (iop Vb (fun i j=>i * j) (.int i) (.int j) mh) P from Gy (by unfold Vb;rw [Bool.or_eq_true,decide_eq_true_iff,decide_eq_true_iff];exact hb) h
theorem Gf {g:Int->Int->Bool}{i j:Int}(h:P (.bl (g i j)) mh):wV (Qq g (.int i) (.int j) mh) P:=⟨_,_,rfl,h⟩
theorem Abi {i j:Int}(h:P (.int (i+j)) mh):wV (Bu (.int i) (.int j) mh) P:=⟨_,_,rfl,h⟩
theorem Cr {i j:Int}(h:P (.bl (i==j)) mh):wV (eqD (.int i) (.int j) mh) P:=⟨_,_,rfl,h⟩
theorem lG {i j:Int}(h:P (.bl (!(i==j))) mh):wV (neD (.int i) (.int j) mh) P:=⟨_,_,rfl,h⟩
theorem Jt {x y:D}{k:Bool}(e:eqB mh x y=some k) (h:P (.bl k) mh):wV (eqD x y mh) P:=⟨_,_,by unfold eqD;rw [e],h⟩
theorem lH {x y:D}{k:Bool}(e:eqB mh x y=some k) (h:P (.bl (!k)) mh):wV (neD x y mh) P:=⟨_,_,by unfold neD;rw [e],h⟩
theorem vW {x y:D}{k:Bool}(e:inB mh x y=some k):M4 y mh=none:=by
 cases q:M4 y mh with
 | none=>rfl
 | some kvs =>
  obtain ⟨n,rfl,en⟩:=Xa q;have p:py mh 60 (.ref n)=none:=by
   show (match mh[n]? with | some (.lst o)=>(match mapO (py mh 59) o with | some xs=>some (PyData.list xs) | none=>none) | _=>none)=_;rw [en]
  unfold inB at e;rw [p] at e;split at e
  ·rename_i z;cases z
  ·rename_i z;cases z
  ·cases e
theorem Afj {neg:Bool}{x y:D}{k:Bool}(e:inB mh x y=some k) (h:P (.bl (if neg then !k else k)) mh):wV (inD neg x y mh) P:=⟨_,_,by unfold inD;rw [vW e];dsimp only;unfold Uv;rw [e],h⟩
theorem G7 {n m:Nat}{xs ys:List D}(e1:mh[n]?=some (.lst xs)) (e2:mh[m]?=some (.lst ys)) (hz:xs.length+ys.length<=1000000) (h:P (.ref mh.length) (mh++[.lst (xs++ys)])):wV (Bu (.ref n) (.ref m) mh) P:=⟨_,_,kW e1 e2 hz,h⟩
theorem Dr {xs ys:List D}(hz:xs.length+ys.length<=1000000) (h:P (.tup (xs++ys)) mh):wV (Bu (.tup xs) (.tup ys) mh) P:=⟨_,_,by simp only [Bu,if_pos (le_size hz)],h⟩
theorem Bf {ds:List D}{j:Nat}{d:D}(e:ds[j]?=some d) (h:P d mh):wV (ixD (.tup ds) (.int j) mh) P:=⟨d,mh,by simp only [ixD,M4,gF,Gd,R7 e],h⟩
theorem lJ {ds:List D}{j:Nat}{d:D}(e:ds[j]?=some d) (h:P d mh):wV (ixD (.rol ds) (.int j) mh) P:=⟨d,mh,by simp only [ixD,M4,gF,Gd,R7 e],h⟩
theorem Py {n:Nat}{ds:List D}{j:Nat}{d:D}(e1:mh[n]?=some (.lst ds)) (e:ds[j]?=some d) (h:P d mh):wV (ixD (.ref n) (.int j) mh) P:=⟨d,mh,by simp only [ixD,Lp e1,gF,Gd,e1,R7 e],h⟩
theorem Dp {n:Nat}{ds:List D}{y:D}(e:mh[n]?=some (.lst ds)) (hz:ds.length<=1000000) (h:P .non (mh.set n (.lst (ds++[y])))):wV (Ci (.ref n) [y] mh) P:=⟨_,_,Xi e hz,h⟩
theorem Bv {x:D}{ds:List D}(hx:∀ z,x≠.str z) (e:Gd x mh=some ds) (h:P (.int ds.length) mh):wV (Dn [x] mh) P:=by
 refine ⟨_,_,?_,h⟩;cases x with
 | str z=>exact (hx z rfl).elim
 | _=>simp only [Dn,e]
theorem Fb {x:D}{ds:List D}(e:Gd x mh=some ds) (h:P (.ref mh.length) (mh++[.lst ds])):wV (G6 [x] mh) P:=⟨_,_,by simp only [G6,e],h⟩
theorem Ef {x:D}{ds:List D}(e:Gd x mh=some ds) (h:P (.tup ds) mh):wV (En [x] mh) P:=⟨_,_,by simp only [En,e],h⟩
theorem lK {f:List Bool->Bool}{x:D}{bs:List Bool}(e:Gd x mh=some (bs.map D.bl)) (h:P (.bl (f bs)) mh):wV (Ko f [x] mh) P:=⟨_,_,by simp only [Ko,e,Mw],h⟩
end
structure Ext (W:List Nat) (a b:MH):Prop where
 len:a.length<=b.length
 old:∀ i o,i ∉ W->a[i]?=some o->b[i]?=some o
theorem Ext.refl {W:List Nat}{a:MH}:Ext W a a:=⟨Nat.le_refl _,fun _ _ _ e=>e⟩
theorem Ext.trans {W:List Nat}{a b c:MH}(x:Ext W a b) (y:Ext W b c):Ext W a c:=⟨Nat.le_trans x.len y.len,fun i o h e=>y.old i o h (x.old i o h e)⟩
theorem Ext.weak {W:List Nat}{a b:MH}(x:Ext [] a b):Ext W a b:=⟨x.len,fun i o _ e=>x.old i o (by simp) e⟩
theorem Ext.more {W:List Nat}{a g:MH}:Ext W a (a++g):=⟨by rw [List.length_append];omega,fun i o _ e=>by rw [List.getElem?_append_left (List.getElem?_eq_some_iff.mp e).1];exact e⟩
theorem Ext.set {n:Nat}{a:MH}{o:MO}:Ext [n] a (a.set n o):=⟨by rw [List.length_set];exact Nat.le_refl _,fun i o' h e=>by rw [List.getElem?_set_ne (fun z=>h (by simp [z]))];exact e⟩
theorem Ai {a:MH}{o:MO}:(a++[o])[a.length]?=some o:=by rw [List.getElem?_append_right (Nat.le_refl _),Nat.sub_self];rfl
theorem Iu {a:MH}{n:Nat}{o o':MO}(h:a[n]?=some o'):(a.set n o)[n]?=some o:=by
 rw [List.getElem?_set];simp [(List.getElem?_eq_some_iff.mp h).1]
noncomputable def mkM (c f:Str) (ma:DM D):DM D:=ma.bnd fun d=>Zr (.obj c [f] [d])
theorem Vq {a b:Str}{k:Bool}(ha:PyData.strOk a=true) (hb:PyData.strOk b=true) (e:(a==b)=k) (mh:MH):eqB mh (.str a) (.str b)=some k:=by
 unfold eqB;simp only [py,if_pos ha,if_pos hb,PyData.eqv,e]
section
variable {loc:DL.Loc}{mh:MH}{ma:DM D}{mr:DM (List D)}{P:D->MH->Prop}
theorem Afk {c f:Str}(h:wD ma loc mh fun d h1=>P (.obj c [f] [d]) h1):wD (mkM c f ma) loc mh P:=Cp (Bo h fun _ _ q=>Ag q)
theorem lM {met:Str->Str->Option (List Str×Fn)}{m:Str}(h:wD ma loc mh fun x h1=>∃ c ks ds ps g,x=.obj c ks ds/\met c m=some (ps,g)/\ks.contains m=false/\wD mr loc h1 fun as h2=>wV (g (.obj c ks ds::as) h2) P):wD (Hj met m ma mr) loc mh P:=Cp (Bo h fun _ h1 ⟨c,ks,ds,ps,g,e,em,hk,q⟩=>by
 subst e;show wD (match met c m with | some (_,g)=>if ks.contains m then Zb else mr.bnd fun as=>Zl (g (.obj c ks ds::as)) | none=>Zb) _ _ _;rw [em];dsimp only;rw [if_neg (by rw [hk];simp)]
 exact Cp (Bo q fun _ _ z=>z))
theorem Abj {R:Src->MH->Prop}(h:wD mr loc mh fun ds h1=>∃ x y s t,ds=[x,y]/\srcOf x h1=some s/\srcOf y h1=some t/\R (.zip s t) h1):wD (U9 mr) loc mh R:=Cp (Bo h fun _ h1 ⟨x,y,s,t,e,e1,e2,q⟩=>by
 subst e
 exact ⟨_,h1,by simp only [uP,e1,e2],q⟩)
theorem Tp {i j:Int}(h1:0<=j) (h2:j<=1000000) (h3:i.natAbs < 2 ^ 64) (h:P (.int (i ^ j.toNat)) mh):wV (jO (.int i) (.int j) mh) P:=Gy (by rw [decide_eq_true h1,decide_eq_true h2,decide_eq_true h3];rfl) h
theorem Afl {a b:Str}(ha:PyData.strOk a=true) (hb:PyData.strOk b=true) (e:(a==b)=true) (h:P (.bl true) mh):wV (eqD (.str a) (.str b) mh) P:=Jt (Vq ha hb e mh) h
theorem Afm {a b:Str}(ha:PyData.strOk a=true) (hb:PyData.strOk b=true) (e:(a==b)=false) (h:P (.bl false) mh):wV (eqD (.str a) (.str b) mh) P:=Jt (Vq ha hb e mh) h
end
section
variable {loc:DL.Loc}{mh:MH}{ma:DM D}{mr:DM (List D)}{P:D->MH->Prop}
end
theorem Afn {k:Bool}{B:Bool->Prop}(h:B k):∃ j,D.bl k=.bl j/\B j:=⟨k,rfl,h⟩
theorem Abk {i:Int}{B:Int->Prop}(h:B i):∃ j,D.int i=.int j/\B j:=⟨i,rfl,h⟩
theorem Xm {p q:Prop}(h:p):((true=true)->p)/\((true=false)->q):=⟨fun _=>h,fun z=>by cases z⟩
theorem Ed {p q:Prop}(h:q):((false=true)->p)/\((false=false)->q):=⟨fun z=>(by cases z),fun _=>h⟩
theorem Nx {k:Bool}{p q:Prop}(e:k=true) (h:p):(k=true->p)/\(k=false->q):=⟨fun _=>h,fun z=>by rw [e] at z;cases z⟩
theorem Tq {k:Bool}{p q:Prop}(e:k=false) (h:q):(k=true->p)/\(k=false->q):=⟨fun z=>(by rw [e] at z;cases z),fun _=>h⟩
theorem Cv {k:Bool}{p q:Prop}(h1:k=true->p) (h2:k=false->q):(k=true->p)/\(k=false->q):=⟨h1,h2⟩
theorem Abl {k:Bool}{h:MH}{B:Bool->Prop}(q:B k):∃ j,gB (.bl k) h=some j/\B j:=⟨k,rfl,q⟩
theorem Tr {T t:String}{x:D}{b:Bool}{mh:MH}{P:D->MH->Prop}(e1:Wv x mh=some t) (e2:Aap t T=some b) (h:P (.bl b) mh):wV (Ov T x mh) P:=⟨_,_,by unfold Ov;rw [e1];dsimp only;rw [e2],h⟩
mutual
noncomputable def dat:Nat->D->Bool
 | _,.int _=>true
 | _,.bl _=>true
 | _,.non=>true
 | _,.str x=>PyData.strOk x
 | n+1,.tup ds=>Fd n ds
 | _,_=>false
noncomputable def Fd:Nat->List D->Bool
 | _,[]=>true
 | n,d::r=>dat n d&&Fd n r
end
mutual
theorem Xn (mh:MH):∀ (n:Nat) (d:D),dat n d=true->∃ a,py mh n d=some a/\a.canLay0=true
 | n,.int i,_=>⟨.int i,by cases n <;> rfl,rfl⟩
 | n,.bl i,_=>⟨.bool i,by cases n <;> rfl,rfl⟩
 | n,.non,_=>⟨.none,by cases n <;> rfl,rfl⟩
 | n,.str x,h=>by
  have h2:PyData.strOk x=true:=by cases n <;> exact h
  exact ⟨.str x,by cases n <;> (show (if PyData.strOk x=true then some (PyData.str x) else none)=_;rw [if_pos h2]),h2⟩
 | 0,.tup ds,h=>by simp [dat] at h
 | n+1,.tup ds,h=>by
  have h:Fd n ds=true:=h;obtain ⟨as,e,l⟩:=K3 mh n ds h;exact ⟨.tuple as,by simp only [py,e],by simpa [PyData.canLay0] using l⟩
 | 0,.ref _,h=>by simp [dat] at h
 | _+1,.ref _,h=>by simp [dat] at h
 | 0,.rol _,h=>by simp [dat] at h
 | _+1,.rol _,h=>by simp [dat] at h
 | 0,.obj ..,h=>by simp [dat] at h
 | _+1,.obj ..,h=>by simp [dat] at h
 | 0,.fn _,h=>by simp [dat] at h
 | _+1,.fn _,h=>by simp [dat] at h
theorem K3 (mh:MH):∀ (n:Nat) (ds:List D),Fd n ds=true->∃ as,mapO (py mh n) ds=some as/\PyData.canLayAll0 as=true
 | n,[],_=>⟨[],rfl,rfl⟩
 | n,d::r,h=>by
  have h:(dat n d&&Fd n r)=true:=by simpa [Fd] using h
  rw [Bool.and_eq_true] at h;obtain ⟨a,e1,l1⟩:=Xn mh n d h.1;obtain ⟨as,e2,l2⟩:=K3 mh n r h.2;exact ⟨a::as,by simp only [mapO,e1,e2],by simp only [PyData.canLayAll0,l1,l2,Bool.and_self]⟩
end
theorem lN {x:D}(h:dat 60 x=true) (mh:MH):eqB mh x x=some true:=by
 obtain ⟨a,e,l⟩:=Xn mh 60 x h;unfold eqB;rw [e];dsimp only;rw [SeqAt.eqv_refl a l]
theorem Ia {a b:Str}{k:Bool}(ha:PyData.strOk a=true) (hb:PyData.strOk b=true) (e:(a==b)=k) (mh:MH):eqB mh (.str a) (.str b)=some k:=by
 unfold eqB;simp only [py,if_pos ha,if_pos hb,PyData.eqv,e]
theorem Tv {x y:D}{mh:MH}{P:D->MH->Prop}(e:x=y) (hx:dat 60 x=true) (h:P (.bl false) mh):wV (neD x y mh) P:=by
 subst e;exact lH (lN hx mh) h
theorem lO {a b:Nat}{ds:List D}{mh:MH}{P:D->MH->Prop}(e1:mh[a]?=some (.lst ds)) (e2:mh[b]?=some (.lst ds)) (hd:Fd 59 ds=true) (h:P (.bl false) mh):wV (neD (.ref a) (.ref b) mh) P:=by
 obtain ⟨as,e,l⟩:=K3 mh 59 ds hd;have p1:py mh 60 (.ref a)=some (.list as):=by
  show (match mh[a]? with | some (.lst o)=>(match mapO (py mh 59) o with | some xs=>some (PyData.list xs) | none=>none) | _=>none)=_;rw [e1];dsimp only;rw [e]
 have p2:py mh 60 (.ref b)=some (.list as):=by
  show (match mh[b]? with | some (.lst o)=>(match mapO (py mh 59) o with | some xs=>some (PyData.list xs) | none=>none) | _=>none)=_;rw [e2];dsimp only;rw [e]
 refine lH (k:=true) ?_ h;unfold eqB;rw [p1,p2];dsimp only;rw [SeqAt.eqv_refl _ (by simpa [PyData.canLay0] using l)]
theorem ty_list {a:Nat}{ds:List D}{mh:MH}(e:mh[a]?=some (.lst ds)):W0 "list" (.ref a) mh=true:=by
 show (true&&(match mh[a]? with | some (.lst _)=>true | _=>false))=true;rw [e];rfl
theorem src_list {a:Nat}{ds:List D}{mh:MH}(e:mh[a]?=some (.lst ds)):srcOf (.ref a) mh=some (.lref a):=by
 show (match mh[a]? with | some (.lst _)=>some (Src.lref a) | _=>none)=_;rw [e]
theorem Hv {a:Nat}{ds:List D}{mh:MH}(e:mh[a]?=some (.lst ds)):(Src.lref a).ok mh=true/\(Src.lref a).items mh=ds:=by
 refine ⟨?_,?_⟩
 ·show (match mh[a]? with | some (.lst _)=>true | _=>false)=true;rw [e]
 ·show (match mh[a]? with | some (.lst o)=>o | _=>[])=_;rw [e]
end DL
namespace Lw
open PySem L2 DL
noncomputable def top (i:Nat):Stmt:=PySem.Challenge.pw_letterall_k21_worlds.main.body.getD i (.Pass ⟨0,0,0,0⟩)
noncomputable def Vr (s:Stmt) (j:Nat):Stmt:=match s with
 | .ClassDef _ _ _ b _ _ _ _ _ _ _=>b.getD j (.Pass ⟨0,0,0,0⟩)
 | _=>.Pass ⟨0,0,0,0⟩
noncomputable def f9:FnI:=Bh (top 9)
noncomputable def f10:FnI:=Bh (top 10)
noncomputable def f11:FnI:=Bh (top 11)
noncomputable def f12:FnI:=Bh (top 12)
noncomputable def f13:FnI:=Bh (top 13)
noncomputable def f14:FnI:=Bh (top 14)
noncomputable def f15:FnI:=Bh (top 15)
noncomputable def f16:FnI:=Bh (top 16)
noncomputable def f17:FnI:=Bh (top 17)
noncomputable def f22:FnI:=Bh (top 22)
noncomputable def f23:FnI:=Bh (top 23)
noncomputable def f24:FnI:=Bh (top 24)
noncomputable def f25:FnI:=Bh (top 25)
noncomputable def f33:FnI:=Bh (top 33)
noncomputable def f34:FnI:=Bh (top 34)
noncomputable def f35:FnI:=Bh (top 35)
noncomputable def f40:FnI:=Bh (top 40)
noncomputable def f41:FnI:=Bh (top 41)
noncomputable def f42:FnI:=Bh (top 42)
noncomputable def f43:FnI:=Bh (top 43)
noncomputable def f44:FnI:=Bh (top 44)
noncomputable def f45:FnI:=Bh (top 45)
noncomputable def f46:FnI:=Bh (top 46)
noncomputable def f47:FnI:=Bh (top 47)
noncomputable def f48:FnI:=Bh (top 48)
noncomputable def f49:FnI:=Bh (top 49)
noncomputable def f50:FnI:=Bh (top 50)
noncomputable def f51:FnI:=Bh (top 51)
noncomputable def f52:FnI:=Bh (top 52)
noncomputable def f53:FnI:=Bh (top 53)
noncomputable def f55:FnI:=Bh (top 55)
noncomputable def f56:FnI:=Bh (top 56)
noncomputable def f57:FnI:=Bh (top 57)
noncomputable def f58:FnI:=Bh (top 58)
noncomputable def f61:FnI:=Bh (top 61)
noncomputable def f62:FnI:=Bh (top 62)
noncomputable def f63:FnI:=Bh (top 63)
noncomputable def f64:FnI:=Bh (top 64)
noncomputable def f65:FnI:=Bh (top 65)
noncomputable def f66:FnI:=Bh (top 66)
noncomputable def f67:FnI:=Bh (top 67)
noncomputable def f72:FnI:=Bh (top 72)
noncomputable def f73:FnI:=Bh (top 73)
noncomputable def f74:FnI:=Bh (top 74)
noncomputable def f75:FnI:=Bh (top 75)
noncomputable def f76:FnI:=Bh (top 76)
noncomputable def f77:FnI:=Bh (top 77)
noncomputable def f78:FnI:=Bh (top 78)
noncomputable def f79:FnI:=Bh (top 79)
noncomputable def f80:FnI:=Bh (top 80)
noncomputable def f82:FnI:=Bh (top 82)
noncomputable def f83:FnI:=Bh (top 83)
noncomputable def f84:FnI:=Bh (top 84)
noncomputable def f85:FnI:=Bh (top 85)
noncomputable def f86:FnI:=Bh (top 86)
noncomputable def f87:FnI:=Bh (top 87)
noncomputable def f88:FnI:=Bh (top 88)
noncomputable def f89:FnI:=Bh (top 89)
noncomputable def f90:FnI:=Bh (top 90)
noncomputable def f91:FnI:=Bh (top 91)
noncomputable def f93:FnI:=Bh (top 93)
noncomputable def f94:FnI:=Bh (top 94)
noncomputable def f95:FnI:=Bh (top 95)
noncomputable def f96:FnI:=Bh (top 96)
noncomputable def f97:FnI:=Bh (top 97)
noncomputable def f98:FnI:=Bh (top 98)
noncomputable def f99:FnI:=Bh (top 99)
noncomputable def lQ:FnI:=Bh (top 100)
noncomputable def Gg:FnI:=Bh (top 101)
noncomputable def lR:FnI:=Bh (top 102)
noncomputable def lU:FnI:=Bh (top 103)
noncomputable def lV:FnI:=Bh (top 104)
noncomputable def lW:FnI:=Bh (top 105)
noncomputable def cQ:FnI:=Bh (top 106)
noncomputable def cR:FnI:=Bh (top 107)
noncomputable def Xo:FnI:=Bh (top 108)
noncomputable def cT:FnI:=Bh (top 109)
noncomputable abbrev Pz:Stmt:=Vr (top 27) 1
noncomputable def Ze:FnI:=Bh Pz
noncomputable def lX:List (Str×Stmt):=("blank",top 9)::("has_fallen",top 10)::("replaced",top 11)::("with_number",top 12)::("with_name",top 13)::("with_set",top 14)::("with_bell",top 15)::("at_place",top 16)::("moved_on",top 17)::("is_whole",top 22)::("is_between",top 23)::("is_tuple_of",top 24)::("are_between",top 25)::("hands_of",top 33)::("length_of",top 34)::("step_at",top 35)::("first",top 40)::("all_hands",top 41)::("part",top 42)::("row",top 43)::("with_part",top 44)::("with_row",top 45)::("is_world",top 46)::("has_world_form",top 47)::("is_left",top 48)::("are_parts",top 49)::("is_part",top 50)::("are_rows",top 51)::("is_row",top 52)::("is_letter",top 53)::("has",top 55)::("members",top 56)::("set_of",top 57)::("many",top 58)::("step_now",top 61)::("others_of",top 62)::("choices_of",top 63)::("out_choices",top 64)::("may_send",top 65)::("take_choices",top 66)::("senders",top 67)::("after_step",top 72)::("after_quiet",top 73)::("reckoned",top 74)::("named",top 75)::("gathered",top 76)::("goes_there",top 77)::("after_out",top 78)::("after_send",top 79)::("after_take",top 80)::("moves",top 82)::("losses",top 83)::("falls",top 84)::("do",top 85)::("after_move",top 86)::("may_be_made",top 87)::("is_move",top 88)::("is_choice",top 89)::("after_loss",top 90)::("after_fall",top 91)::("_law_cell_at",top 93)::("_law_drawn",top 94)::("_law_lines",top 95)::("_law_number_step",top 96)::("_law_name_step",top 97)::("_law_step",top 98)::("_law_part",top 99)::("_law_program",top 100)::("_law_put",top 101)::("_law_come",top 102)::("_law_told",top 103)::("_law_bad_part",top 104)::("_law_good_part",top 105)::("_law_rows",top 106)::("_law_left",top 107)::("_law_turned",top 108)::("law",top 109)::[]
noncomputable def tb (x:Str):Option FnI:=(lX.lookup x).map Bh
theorem lY:jR lX:=⟨Bc ⟨rfl,rfl,rfl,by decide +kernel,by decide +kernel,by decide +kernel,by decide +kernel⟩ fun _ _ _ _ _ _=>ln1 fun _=>rfl,Bc ⟨rfl,rfl,rfl,by decide +kernel,by decide +kernel,by decide +kernel,by decide +kernel⟩ fun _ _ _ _ _ _=>ln1 fun _=>rfl,Bc ⟨rfl,rfl,rfl,by decide +kernel,by decide +kernel,by decide +kernel,by decide +kernel⟩ fun _ _ _ _ _ _=>ln3 fun _ _ _=>rfl,Bc ⟨rfl,rfl,rfl,by decide +kernel,by decide +kernel,by decide +kernel,by decide +kernel⟩ fun _ _ _ _ _ _=>ln3 fun _ _ _=>rfl,Bc ⟨rfl,rfl,rfl,by decide +kernel,by decide +kernel,by decide +kernel,by decide +kernel⟩ fun _ _ _ _ _ _=>ln3 fun _ _ _=>rfl,Bc ⟨rfl,rfl,rfl,by decide +kernel,by decide +kernel,by decide +kernel,by decide +kernel⟩ fun _ _ _ _ _ _=>ln3 fun _ _ _=>rfl,Bc ⟨rfl,rfl,rfl,by decide +kernel,by decide +kernel,by decide +kernel,by decide +kernel⟩ fun _ _ _ _ _ _=>ln2 fun _ _=>rfl,Bc ⟨rfl,rfl,rfl,by decide +kernel,by decide +kernel,by decide +kernel,by decide +kernel⟩ fun _ _ _ _ _ _=>ln2 fun _ _=>rfl,Bc ⟨rfl,rfl,rfl,by decide +kernel,by decide +kernel,by decide +kernel,by decide +kernel⟩ fun _ _ _ _ _ _=>ln1 fun _=>rfl,Bc ⟨rfl,rfl,rfl,by decide +kernel,by decide +kernel,by decide +kernel,by decide +kernel⟩ fun _ _ _ _ _ _=>ln1 fun _=>rfl,Bc ⟨rfl,rfl,rfl,by decide +kernel,by decide +kernel,by decide +kernel,by decide +kernel⟩ fun _ _ _ _ _ _=>ln3 fun _ _ _=>rfl,Bc ⟨rfl,rfl,rfl,by decide +kernel,by decide +kernel,by decide +kernel,by decide +kernel⟩ fun _ _ _ _ _ _=>ln2 fun _ _=>rfl,Bc ⟨rfl,rfl,rfl,by decide +kernel,by decide +kernel,by decide +kernel,by decide +kernel⟩ fun _ _ _ _ _ _=>ln4 fun _ _ _ _=>rfl,Bc ⟨rfl,rfl,rfl,by decide +kernel,by decide +kernel,by decide +kernel,by decide +kernel⟩ fun _ _ _ _ _ _=>ln2 fun _ _=>rfl,Bc ⟨rfl,rfl,rfl,by decide +kernel,by decide +kernel,by decide +kernel,by decide +kernel⟩ fun _ _ _ _ _ _=>ln2 fun _ _=>rfl,Bc ⟨rfl,rfl,rfl,by decide +kernel,by decide +kernel,by decide +kernel,by decide +kernel⟩ fun _ _ _ _ _ _=>ln3 fun _ _ _=>rfl,Bc ⟨rfl,rfl,rfl,by decide +kernel,by decide +kernel,by decide +kernel,by decide +kernel⟩ fun _ _ _ _ _ _=>ln1 fun _=>rfl,Bc ⟨rfl,rfl,rfl,by decide +kernel,by decide +kernel,by decide +kernel,by decide +kernel⟩ fun _ _ _ _ _ _=>ln1 fun _=>rfl,Bc ⟨rfl,rfl,rfl,by decide +kernel,by decide +kernel,by decide +kernel,by decide +kernel⟩ fun _ _ _ _ _ _=>ln2 fun _ _=>rfl,Bc ⟨rfl,rfl,rfl,by decide +kernel,by decide +kernel,by decide +kernel,by decide +kernel⟩ fun _ _ _ _ _ _=>ln3 fun _ _ _=>rfl,Bc ⟨rfl,rfl,rfl,by decide +kernel,by decide +kernel,by decide +kernel,by decide +kernel⟩ fun _ _ _ _ _ _=>ln3 fun _ _ _=>rfl,Bc ⟨rfl,rfl,rfl,by decide +kernel,by decide +kernel,by decide +kernel,by decide +kernel⟩ fun _ _ _ _ _ _=>ln4 fun _ _ _ _=>rfl,Bc ⟨rfl,rfl,rfl,by decide +kernel,by decide +kernel,by decide +kernel,by decide +kernel⟩ fun _ _ _ _ _ _=>ln2 fun _ _=>rfl,Bc ⟨rfl,rfl,rfl,by decide +kernel,by decide +kernel,by decide +kernel,by decide +kernel⟩ fun _ _ _ _ _ _=>ln3 fun _ _ _=>rfl,Bc ⟨rfl,rfl,rfl,by decide +kernel,by decide +kernel,by decide +kernel,by decide +kernel⟩ fun _ _ _ _ _ _=>ln2 fun _ _=>rfl,Bc ⟨rfl,rfl,rfl,by decide +kernel,by decide +kernel,by decide +kernel,by decide +kernel⟩ fun _ _ _ _ _ _=>ln3 fun _ _ _=>rfl,Bc ⟨rfl,rfl,rfl,by decide +kernel,by decide +kernel,by decide +kernel,by decide +kernel⟩ fun _ _ _ _ _ _=>ln4 fun _ _ _ _=>rfl,Bc ⟨rfl,rfl,rfl,by decide +kernel,by decide +kernel,by decide +kernel,by decide +kernel⟩ fun _ _ _ _ _ _=>ln3 fun _ _ _=>rfl,Bc ⟨rfl,rfl,rfl,by decide +kernel,by decide +kernel,by decide +kernel,by decide +kernel⟩ fun _ _ _ _ _ _=>ln3 fun _ _ _=>rfl,Bc ⟨rfl,rfl,rfl,by decide +kernel,by decide +kernel,by decide +kernel,by decide +kernel⟩ fun _ _ _ _ _ _=>ln3 fun _ _ _=>rfl,Bc ⟨rfl,rfl,rfl,by decide +kernel,by decide +kernel,by decide +kernel,by decide +kernel⟩ fun _ _ _ _ _ _=>ln2 fun _ _=>rfl,Bc ⟨rfl,rfl,rfl,by decide +kernel,by decide +kernel,by decide +kernel,by decide +kernel⟩ fun _ _ _ _ _ _=>ln1 fun _=>rfl,Bc ⟨rfl,rfl,rfl,by decide +kernel,by decide +kernel,by decide +kernel,by decide +kernel⟩ fun _ _ _ _ _ _=>ln1 fun _=>rfl,Bc ⟨rfl,rfl,rfl,by decide +kernel,by decide +kernel,by decide +kernel,by decide +kernel⟩ fun _ _ _ _ _ _=>ln1 fun _=>rfl,Bc ⟨rfl,rfl,rfl,by decide +kernel,by decide +kernel,by decide +kernel,by decide +kernel⟩ fun _ _ _ _ _ _=>ln3 fun _ _ _=>rfl,Bc ⟨rfl,rfl,rfl,by decide +kernel,by decide +kernel,by decide +kernel,by decide +kernel⟩ fun _ _ _ _ _ _=>ln3 fun _ _ _=>rfl,Bc ⟨rfl,rfl,rfl,by decide +kernel,by decide +kernel,by decide +kernel,by decide +kernel⟩ fun _ _ _ _ _ _=>ln3 fun _ _ _=>rfl,Bc ⟨rfl,rfl,rfl,by decide +kernel,by decide +kernel,by decide +kernel,by decide +kernel⟩ fun _ _ _ _ _ _=>ln1 fun _=>rfl,Bc ⟨rfl,rfl,rfl,by decide +kernel,by decide +kernel,by decide +kernel,by decide +kernel⟩ fun _ _ _ _ _ _=>ln4 fun _ _ _ _=>rfl,Bc ⟨rfl,rfl,rfl,by decide +kernel,by decide +kernel,by decide +kernel,by decide +kernel⟩ fun _ _ _ _ _ _=>ln3 fun _ _ _=>rfl,Bc ⟨rfl,rfl,rfl,by decide +kernel,by decide +kernel,by decide +kernel,by decide +kernel⟩ fun _ _ _ _ _ _=>ln3 fun _ _ _=>rfl,Bc ⟨rfl,rfl,rfl,by decide +kernel,by decide +kernel,by decide +kernel,by decide +kernel⟩ fun _ _ _ _ _ _=>ln5 fun _ _ _ _ _=>rfl,Bc ⟨rfl,rfl,rfl,by decide +kernel,by decide +kernel,by decide +kernel,by decide +kernel⟩ fun _ _ _ _ _ _=>ln5 fun _ _ _ _ _=>rfl,Bc ⟨rfl,rfl,rfl,by decide +kernel,by decide +kernel,by decide +kernel,by decide +kernel⟩ fun _ _ _ _ _ _=>ln3 fun _ _ _=>rfl,Bc ⟨rfl,rfl,rfl,by decide +kernel,by decide +kernel,by decide +kernel,by decide +kernel⟩ fun _ _ _ _ _ _=>ln4 fun _ _ _ _=>rfl,Bc ⟨rfl,rfl,rfl,by decide +kernel,by decide +kernel,by decide +kernel,by decide +kernel⟩ fun _ _ _ _ _ _=>ln4 fun _ _ _ _=>rfl,Bc ⟨rfl,rfl,rfl,by decide +kernel,by decide +kernel,by decide +kernel,by decide +kernel⟩ fun _ _ _ _ _ _=>ln2 fun _ _=>rfl,Bc ⟨rfl,rfl,rfl,by decide +kernel,by decide +kernel,by decide +kernel,by decide +kernel⟩ fun _ _ _ _ _ _=>ln3 fun _ _ _=>rfl,Bc ⟨rfl,rfl,rfl,by decide +kernel,by decide +kernel,by decide +kernel,by decide +kernel⟩ fun _ _ _ _ _ _=>ln3 fun _ _ _=>rfl,Bc ⟨rfl,rfl,rfl,by decide +kernel,by decide +kernel,by decide +kernel,by decide +kernel⟩ fun _ _ _ _ _ _=>ln4 fun _ _ _ _=>rfl,Bc ⟨rfl,rfl,rfl,by decide +kernel,by decide +kernel,by decide +kernel,by decide +kernel⟩ fun _ _ _ _ _ _=>ln2 fun _ _=>rfl,Bc ⟨rfl,rfl,rfl,by decide +kernel,by decide +kernel,by decide +kernel,by decide +kernel⟩ fun _ _ _ _ _ _=>ln1 fun _=>rfl,Bc ⟨rfl,rfl,rfl,by decide +kernel,by decide +kernel,by decide +kernel,by decide +kernel⟩ fun _ _ _ _ _ _=>ln1 fun _=>rfl,Bc ⟨rfl,rfl,rfl,by decide +kernel,by decide +kernel,by decide +kernel,by decide +kernel⟩ fun _ _ _ _ _ _=>ln3 fun _ _ _=>rfl,Bc ⟨rfl,rfl,rfl,by decide +kernel,by decide +kernel,by decide +kernel,by decide +kernel⟩ fun _ _ _ _ _ _=>ln3 fun _ _ _=>rfl,Bc ⟨rfl,rfl,rfl,by decide +kernel,by decide +kernel,by decide +kernel,by decide +kernel⟩ fun _ _ _ _ _ _=>ln3 fun _ _ _=>rfl,Bc ⟨rfl,rfl,rfl,by decide +kernel,by decide +kernel,by decide +kernel,by decide +kernel⟩ fun _ _ _ _ _ _=>ln1 fun _=>rfl,Bc ⟨rfl,rfl,rfl,by decide +kernel,by decide +kernel,by decide +kernel,by decide +kernel⟩ fun _ _ _ _ _ _=>ln1 fun _=>rfl,Bc ⟨rfl,rfl,rfl,by decide +kernel,by decide +kernel,by decide +kernel,by decide +kernel⟩ fun _ _ _ _ _ _=>ln3 fun _ _ _=>rfl,Bc ⟨rfl,rfl,rfl,by decide +kernel,by decide +kernel,by decide +kernel,by decide +kernel⟩ fun _ _ _ _ _ _=>ln2 fun _ _=>rfl,Bc ⟨rfl,rfl,rfl,by decide +kernel,by decide +kernel,by decide +kernel,by decide +kernel⟩ fun _ _ _ _ _ _=>ln2 fun _ _=>rfl,Bc ⟨rfl,rfl,rfl,by decide +kernel,by decide +kernel,by decide +kernel,by decide +kernel⟩ fun _ _ _ _ _ _=>ln2 fun _ _=>rfl,Bc ⟨rfl,rfl,rfl,by decide +kernel,by decide +kernel,by decide +kernel,by decide +kernel⟩ fun _ _ _ _ _ _=>ln2 fun _ _=>rfl,Bc ⟨rfl,rfl,rfl,by decide +kernel,by decide +kernel,by decide +kernel,by decide +kernel⟩ fun _ _ _ _ _ _=>ln5 fun _ _ _ _ _=>rfl,Bc ⟨rfl,rfl,rfl,by decide +kernel,by decide +kernel,by decide +kernel,by decide +kernel⟩ fun _ _ _ _ _ _=>ln6 fun _ _ _ _ _ _=>rfl,Bc ⟨rfl,rfl,rfl,by decide +kernel,by decide +kernel,by decide +kernel,by decide +kernel⟩ fun _ _ _ _ _ _=>ln4 fun _ _ _ _=>rfl,Bc ⟨rfl,rfl,rfl,by decide +kernel,by decide +kernel,by decide +kernel,by decide +kernel⟩ fun _ _ _ _ _ _=>ln3 fun _ _ _=>rfl,Bc ⟨rfl,rfl,rfl,by decide +kernel,by decide +kernel,by decide +kernel,by decide +kernel⟩ fun _ _ _ _ _ _=>ln1 fun _=>rfl,Bc ⟨rfl,rfl,rfl,by decide +kernel,by decide +kernel,by decide +kernel,by decide +kernel⟩ fun _ _ _ _ _ _=>ln3 fun _ _ _=>rfl,Bc ⟨rfl,rfl,rfl,by decide +kernel,by decide +kernel,by decide +kernel,by decide +kernel⟩ fun _ _ _ _ _ _=>ln2 fun _ _=>rfl,Bc ⟨rfl,rfl,rfl,by decide +kernel,by decide +kernel,by decide +kernel,by decide +kernel⟩ fun _ _ _ _ _ _=>ln2 fun _ _=>rfl,Bc ⟨rfl,rfl,rfl,by decide +kernel,by decide +kernel,by decide +kernel,by decide +kernel⟩ fun _ _ _ _ _ _=>ln4 fun _ _ _ _=>rfl,Bc ⟨rfl,rfl,rfl,by decide +kernel,by decide +kernel,by decide +kernel,by decide +kernel⟩ fun _ _ _ _ _ _=>ln4 fun _ _ _ _=>rfl,Bc ⟨rfl,rfl,rfl,by decide +kernel,by decide +kernel,by decide +kernel,by decide +kernel⟩ fun _ _ _ _ _ _=>ln4 fun _ _ _ _=>rfl,Bc ⟨rfl,rfl,rfl,by decide +kernel,by decide +kernel,by decide +kernel,by decide +kernel⟩ fun _ _ _ _ _ _=>ln4 fun _ _ _ _=>rfl,Bc ⟨rfl,rfl,rfl,by decide +kernel,by decide +kernel,by decide +kernel,by decide +kernel⟩ fun _ _ _ _ _ _=>ln4 fun _ _ _ _=>rfl,Bc ⟨rfl,rfl,rfl,by decide +kernel,by decide +kernel,by decide +kernel,by decide +kernel⟩ fun _ _ _ _ _ _=>ln1 fun _=>rfl,trivial⟩
noncomputable def xR:List (Str×D):=[("BELL_CHOICE",(.tup [(.int (-1)),(.int (0))])),("NUMBER_WORDS",(.tup [(.str "put"),(.str "copy"),(.str "raise"),(.str "sum"),(.str "choose")])),("NAME_WORDS",(.tup [(.str "me"),(.str "only"),(.str "pick")])),("SET_WORDS",(.tup [(.str "all"),(.str "empty"),(.str "join")])),("PLACE",(.int (0))),("NUMBERS",(.int (1))),("NAMES",(.int (2))),("SETS",(.int (3))),("BELL",(.int (4))),("NOBODY",(.int (-1))),("FALLEN",(.int (-1))),("ROOM",(.int (0))),("LEFT",(.int (1))),("ROLES",(.int (2))),("HANDS",(.int (3))),("PARTS",(.int (0))),("ROWS",(.int (1))),("LEFT_STILL",(.int (2)))]
noncomputable def con (x:Str):Option D:=if x=="is_whole" then some (.fn "is_whole") else xR.lookup x
noncomputable def dic (_:Str):Option (List (Str×D)):=none
noncomputable def fld (c f:Str):Bool:=(c == "Step"&&f == "form")
noncomputable def tbm (c m:Str):Option FnI:=if c == "Step"&&m == "told" then some Ze else none
noncomputable def mkr (c:Str):Option Str:=if c == "Step" then some "form" else none
noncomputable def Tt:Tb:={ tb:=tb,con:=con,dic:=dic,fld:=fld,tbm:=tbm,mkr:=mkr }
theorem Abm:FnScope Ze.N Ze.ps (Bk Pz):=⟨rfl,rfl,rfl,by decide +kernel,by decide +kernel,by decide +kernel,by decide +kernel⟩
theorem lZ:f10.ps.length=1/\f10.N.length=1:=by decide +kernel
theorem mC:f11.ps.length=3/\f11.N.length=3:=by decide +kernel
theorem mD:f22.ps.length=1/\f22.N.length=1:=by decide +kernel
theorem mF:f23.ps.length=3/\f23.N.length=3:=by decide +kernel
theorem mG:f24.ps.length=2/\f24.N.length=2:=by decide +kernel
theorem mH:f25.ps.length=4/\f25.N.length=4:=by decide +kernel
theorem mJ:f33.ps.length=2/\f33.N.length=2:=by decide +kernel
theorem mK:f34.ps.length=2/\f34.N.length=2:=by decide +kernel
theorem mL:f35.ps.length=3/\f35.N.length=3:=by decide +kernel
theorem mO:f40.ps.length=1/\f40.N.length=2:=by decide +kernel
theorem Tw:f41.ps.length=1/\f41.N.length=1:=by decide +kernel
theorem mQ:f42.ps.length=2/\f42.N.length=2:=by decide +kernel
theorem mR:f43.ps.length=3/\f43.N.length=3:=by decide +kernel
theorem mU:f44.ps.length=3/\f44.N.length=3:=by decide +kernel
theorem mV:f45.ps.length=4/\f45.N.length=4:=by decide +kernel
theorem mW:f46.ps.length=2/\f46.N.length=2:=by decide +kernel
theorem mX:f47.ps.length=3/\f47.N.length=3:=by decide +kernel
theorem mY:f48.ps.length=2/\f48.N.length=2:=by decide +kernel
theorem mZ:f49.ps.length=3/\f49.N.length=3:=by decide +kernel
theorem nA:f50.ps.length=4/\f50.N.length=5:=by decide +kernel
theorem nC:f51.ps.length=3/\f51.N.length=5:=by decide +kernel
theorem nD:f52.ps.length=3/\f52.N.length=3:=by decide +kernel
theorem nF:f53.ps.length=3/\f53.N.length=3:=by decide +kernel
theorem nG:f55.ps.length=2/\f55.N.length=2:=by decide +kernel
theorem nH:f56.ps.length=1/\f56.N.length=1:=by decide +kernel
theorem Tz:f57.ps.length=1/\f57.N.length=3:=by decide +kernel
theorem nJ:f58.ps.length=1/\f58.N.length=1:=by decide +kernel
theorem nM:f61.ps.length=3/\f61.N.length=3:=by decide +kernel
theorem nO:f62.ps.length=3/\f62.N.length=3:=by decide +kernel
theorem nP:f63.ps.length=3/\f63.N.length=5:=by decide +kernel
theorem nQ:f64.ps.length=1/\f64.N.length=1:=by decide +kernel
theorem nR:f65.ps.length=4/\f65.N.length=5:=by decide +kernel
theorem nT:f66.ps.length=3/\f66.N.length=7:=by decide +kernel
theorem nU:f67.ps.length=3/\f67.N.length=4:=by decide +kernel
theorem nW:f72.ps.length=5/\f72.N.length=5:=by decide +kernel
theorem nY:f73.ps.length=5/\f73.N.length=6:=by decide +kernel
theorem Hl:f74.ps.length=3/\f74.N.length=4:=by decide +kernel
theorem Lx:f75.ps.length=4/\f75.N.length=5:=by decide +kernel
theorem Ly:f76.ps.length=4/\f76.N.length=7:=by decide +kernel
theorem Ho:f77.ps.length=2/\f77.N.length=3:=by decide +kernel
theorem nZ:f78.ps.length=3/\f78.N.length=5:=by decide +kernel
theorem oA:f79.ps.length=3/\f79.N.length=7:=by decide +kernel
theorem oE:f80.ps.length=4/\f80.N.length=8:=by decide +kernel
theorem oF:f82.ps.length=2/\f82.N.length=5:=by decide +kernel
theorem oG:f83.ps.length=1/\f83.N.length=4:=by decide +kernel
theorem oH:f84.ps.length=1/\f84.N.length=1:=by decide +kernel
theorem oJ:f85.ps.length=3/\f85.N.length=3:=by decide +kernel
theorem oK:f86.ps.length=3/\f86.N.length=4:=by decide +kernel
theorem oM:f87.ps.length=3/\f87.N.length=3:=by decide +kernel
theorem oN:f88.ps.length=1/\f88.N.length=1:=by decide +kernel
theorem oO:f89.ps.length=1/\f89.N.length=1:=by decide +kernel
theorem oR:f90.ps.length=3/\f90.N.length=5:=by decide +kernel
theorem oU:f91.ps.length=2/\f91.N.length=4:=by decide +kernel
theorem oV:f93.ps.length=2/\f93.N.length=2:=by decide +kernel
theorem oW:f94.ps.length=2/\f94.N.length=4:=by decide +kernel
theorem oX:f95.ps.length=2/\f95.N.length=6:=by decide +kernel
theorem oY:f96.ps.length=5/\f96.N.length=6:=by decide +kernel
theorem oZ:f97.ps.length=6/\f97.N.length=7:=by decide +kernel
theorem pA:f98.ps.length=4/\f98.N.length=8:=by decide +kernel
theorem pB:f99.ps.length=3/\f99.N.length=5:=by decide +kernel
theorem Zf:lQ.ps.length=1/\lQ.N.length=11:=by decide +kernel
theorem Zg:Gg.ps.length=3/\Gg.N.length=3:=by decide +kernel
theorem Zh:lR.ps.length=2/\lR.N.length=5:=by decide +kernel
theorem Zj:lU.ps.length=2/\lU.N.length=5:=by decide +kernel
theorem Zk:lV.ps.length=4/\lV.N.length=7:=by decide +kernel
theorem Zm:lW.ps.length=4/\lW.N.length=7:=by decide +kernel
theorem Ny:cQ.ps.length=4/\cQ.N.length=11:=by decide +kernel
theorem Nz:cR.ps.length=4/\cR.N.length=6:=by decide +kernel
theorem N5:Xo.ps.length=4/\Xo.N.length=6:=by decide +kernel
theorem Zo:cT.ps.length=1/\cT.N.length=12:=by decide +kernel
theorem Agr {w:World}{K:W.Frag}{h:Heap}{mg:Str->Option Value}(X:K.In h) (G:h.Ns mainGlobals mg){C27:Addr}{f27_1':Addr} {od27_1 an27_1:Option Addr} {sl27_1:Array (Option Value)} {oc27_1 kV27_1 dc27_1 pm27_1 cd27_1 ct27_1:Value}{f27_0':Addr} {od27_0 an27_0:Option Addr} {sl27_0:Array (Option Value)} {oc27_0 kV27_0 dc27_0 pm27_0 cd27_0 ct27_0:Value}(rf:Ru K lX)(rb:Vn K Ku)(rc:Vl K xR)(C27a:W.nsIn K mainGlobals "Step"=some (some (.ref C27)))(C27b:W.plainGet K C27 Str.empty=true)(C27c:W.hasDictIn K C27=true)(C27d:W.plainOver K C27=true)(C27e:W.findIn K (.ref C27) "__setattr__"=some (some (.builtin "object.__setattr__")))(C27f:W.findIn K (.ref C27) "form"=some none)(a27_1:W.findIn K (.ref C27) "told"=some (some (.ref f27_1')))(b27_1:W.isFn K (.ref f27_1')=true)(l27_1:K.lookup f27_1'=some ⟨oc27_1,od27_1,.func (W.fnOf "told" "Step.told" (Em Pz) (Dl Pz) (Bk Pz) .none kV27_1 dc27_1 pm27_1 an27_1 cd27_1 ct27_1),sl27_1⟩)(c27_1:W.codeIn K cd27_1 "Step.told"=true)(k27_1:W.keepIn K (.ref f27_1')=true)(a27_0:W.findIn K (.ref C27) "__init__"=some (some (.ref f27_0')))(b27_0:W.isFn K (.ref f27_0')=true)(l27_0:K.lookup f27_0'=some ⟨oc27_0,od27_0,.func (W.fnOf "__init__" "Step.__init__" (Em (Vr (top 27) 0)) (Dl (Vr (top 27) 0)) (Bk (Vr (top 27) 0)) .none kV27_0 dc27_0 pm27_0 an27_0 cd27_0 ct27_0),sl27_0⟩)(c27_0:W.codeIn K cd27_0 "Step.__init__"=true)(k27_0:W.keepIn K (.ref f27_0')=true)(C27m:W.makesIn K C27=true)(C27k:W.keepIn K (.ref C27)=true):TbOk w K mg Tt:=by
 refine ⟨fun x I hx=>?_,fun x d hx=>?_,fun b hb=>?_,fun x kvs hx=>?_,fun c f hx=>?_,fun c m I hx=>?_,fun c f hx=>?_⟩
 ·exact Y9 X G rf lY hx
 ·show Te K mg x d;change con x=some d at hx;unfold con at hx;refine vD (P:=Te K mg) hx (jT X G rf (st:=top 22) rfl) fun hx=>?_
  exact Vm X G rc hx
 ·exact Vo X G rb b hb
 ·cases hx
 ·change fld c f=true at hx;unfold fld at hx;simp only [Bool.or_eq_true,Bool.and_eq_true,beq_iff_eq] at hx;rcases hx with ⟨rfl,rfl⟩
  ·exact ⟨_,C27a,⟨C27b,C27c,C27d,C27e⟩,C27f⟩
 ·change tbm c m=some I at hx;unfold tbm at hx;split at hx
  ·rename_i e;rw [Bool.and_eq_true] at e;rw [eq_of_beq e.1,eq_of_beq e.2];cases hx;exact ⟨_,Pz,_,_,_,C27a,⟨C27b,C27c,C27d,C27e⟩,⟨a27_1,b27_1,k27_1⟩,Wn (st:=Pz) l27_1 c27_1 k27_1,Abm,rfl,rfl,ln1 fun _=>rfl⟩
  ·cases hx
 ·change mkr c=some f at hx;unfold mkr at hx;split at hx
  ·rename_i e;rw [eq_of_beq e];cases hx;exact ⟨_,_,_,["self", "form"],C27a,⟨C27m,a27_0,b27_0,C27k⟩,W.mg_of X G C27a,.all (ln2 fun _ _=>rfl),fun P w base=>uU (Wn (st:=Vr (top 27) 0) l27_0 c27_0 k27_0) ⟨rfl,rfl,rfl,by decide +kernel,by decide +kernel,by decide +kernel,by decide +kernel⟩ rfl (.inl (by decide +kernel)) (.inl (by decide +kernel)) ⟨C27b,C27c,C27d,C27e⟩ C27f (by decide) (by decide)⟩
  ·cases hx
noncomputable def Gk (k:Nat):Gb:=GkN Tt k
noncomputable abbrev Bq (I:FnI) (k:Nat):SM:=iSs (Gk (k+1)) Ac {N:=I.N,scope:=I.scope,own:=fun _=>true} I.body
noncomputable def Afo (k:Nat):Str->Str->Option (List Str×Fn):=fun c m=>(match tbm c m with | some I=>some (I.ps,Ad (Gk k) Ac I) | none=>none)
noncomputable def b10 (k:Nat):SM :=
 (Ab (Am (dop eqD (dop ixD (vr 0) (Zr (.int (0)))) (Zr (.int (-1)))))
 Zn)
theorem Abn (k:Nat):Bq f10 k=b10 k:=by kernel_rfl
noncomputable def b11 (k:Nat):SM :=
 (Ab (Am (dop Bu (dop Bu (dSl (vr 0) none (some (vr 1))) (Aq (Aa (vr 2) (Zr [])))) (dSl (vr 0) (some (dop Bu (vr 1) (Zr (.int 1)))) none)))
 Zn)
theorem Abo (k:Nat):Bq f11 k=b11 k:=by kernel_rfl
noncomputable def b22 (k:Nat):SM :=
 (Ab (Am (Dw (Tf "int" (vr 0)) (Afe (Tf "bool" (vr 0)))))
 Zn)
theorem Abp (k:Nat):Bq f22 k=b22 k:=by kernel_rfl
noncomputable def b23 (k:Nat):SM :=
 (Ab (Am (Dw (Ae (Ad (Gk k) Ac f22) (Aa (vr 0) (Zr []))) (Hi leD leD (vr 1) (vr 0) (vr 2))))
 Zn)
theorem Abq (k:Nat):Bq f23 k=b23 k:=by kernel_rfl
noncomputable def b24 (k:Nat):SM :=
 (Ab (Am (Dw (Tf "tuple" (vr 0)) (dop eqD (Ae Dn (Aa (vr 0) (Zr []))) (vr 1))))
 Zn)
theorem Abr (k:Nat):Bq f24 k=b24 k:=by kernel_rfl
noncomputable def b25 (k:Nat):SM :=
 (Ab (Am (Dw (Ae (Ad (Gk k) Ac f24) (Aa (vr 0) (Aa (vr 1) (Zr [])))) (Ae S5 (Aa (Df (Dt (vr 0)) [none,none,some 3,some 2] (Aw 1) (Zr true) (Ae (Ad (Gk k) Ac f23) (Aa (vr 1) (Aa (vr 3) (Aa (vr 2) (Zr [])))))) (Zr [])))))
 Zn)
theorem Abs (k:Nat):Bq f25 k=b25 k:=by kernel_rfl
noncomputable def b33 (k:Nat):SM :=
 (Ab (Am (Ae En (Aa (Df (Kq (dop ixD (vr 0) (Zr (.int (3))))) [none,none,none,some 1] (Ms [1,2]) (Al (dop eqD (vr 2) (vr 3))) (vr 1)) (Zr []))))
 Zn)
theorem Abt (k:Nat):Bq f33 k=b33 k:=by kernel_rfl
noncomputable def b34 (k:Nat):SM :=
 (Ab (Am (Ae Dn (Aa (dop ixD (dop ixD (vr 0) (Zr (.int (2)))) (vr 1)) (Zr []))))
 Zn)
theorem Abu (k:Nat):Bq f34 k=b34 k:=by kernel_rfl
noncomputable def b35 (k:Nat):SM :=
 (Ab (ifS (Al (Hi leD ltD (Zr (.int 0)) (vr 2) (Ae (Ad (Gk k) Ac f34) (Aa (vr 0) (Aa (vr 1) (Zr []))))))
 (Ab (Am (mkM "Step" "form" (dop ixD (dop ixD (dop ixD (vr 0) (Zr (.int (2)))) (vr 1)) (vr 2))))
  Zn)
 Zn)
 (Ab (Am (Zr .non))
 Zn))
theorem Abv (k:Nat):Bq f35 k=b35 k:=by kernel_rfl
noncomputable def b40 (k:Nat):SM :=
 (Ab (Bb (Ae Dn (Aa (dop ixD (vr 0) (Zr (.int (3)))) (Zr []))) (Aw 1))
 (Ab (Am (Aq (Aa (dop Gv (Aq (Aa (Ae (Ad (Gk k) Ac f9) (Aa (Zr (.int 0)) (Zr []))) (Zr []))) (vr 1)) (Aa (dop Gv (Aq (Aa (dop Gv (Aq (Aa (Aq (Zr [])) (Zr []))) (vr 1)) (Zr []))) (vr 1)) (Aa (dop ixD (vr 0) (Zr (.int (1)))) (Zr []))))))
 Zn))
theorem Abw (k:Nat):Bq f40 k=b40 k:=by kernel_rfl
noncomputable def b41 (k:Nat):SM :=
 (Ab (Am (Pj (Ae Dn (Aa (dop ixD (vr 0) (Zr (.int (0)))) (Zr [])))))
 Zn)
theorem pC (k:Nat):Bq f41 k=b41 k:=by kernel_rfl
noncomputable def b42 (k:Nat):SM :=
 (Ab (Am (dop ixD (dop ixD (vr 0) (Zr (.int (0)))) (vr 1)))
 Zn)
theorem Abx (k:Nat):Bq f42 k=b42 k:=by kernel_rfl
noncomputable def b43 (k:Nat):SM :=
 (Ab (Am (dop ixD (dop ixD (dop ixD (vr 0) (Zr (.int (1)))) (vr 2)) (vr 1)))
 Zn)
theorem Aby (k:Nat):Bq f43 k=b43 k:=by kernel_rfl
noncomputable def b44 (k:Nat):SM :=
 (Ab (Am (Ae (Ad (Gk k) Ac f11) (Aa (vr 0) (Aa (Zr (.int (0))) (Aa (Ae (Ad (Gk k) Ac f11) (Aa (dop ixD (vr 0) (Zr (.int (0)))) (Aa (vr 1) (Aa (vr 2) (Zr []))))) (Zr []))))))
 Zn)
theorem Abz (k:Nat):Bq f44 k=b44 k:=by kernel_rfl
noncomputable def b45 (k:Nat):SM :=
 (Ab (Am (Ae (Ad (Gk k) Ac f11) (Aa (vr 0) (Aa (Zr (.int (1))) (Aa (Ae (Ad (Gk k) Ac f11) (Aa (dop ixD (vr 0) (Zr (.int (1)))) (Aa (vr 2) (Aa (Ae (Ad (Gk k) Ac f11) (Aa (dop ixD (dop ixD (vr 0) (Zr (.int (1)))) (vr 2)) (Aa (vr 1) (Aa (vr 3) (Zr []))))) (Zr []))))) (Zr []))))))
 Zn)
theorem Ab0 (k:Nat):Bq f45 k=b45 k:=by kernel_rfl
noncomputable def b46 (k:Nat):SM :=
 (Ab (Am (Ae (Ad (Gk k) Ac f47) (Aa (vr 0) (Aa (vr 1) (Aa (Zr (.fn "is_whole")) (Zr []))))))
 Zn)
theorem Ab1 (k:Nat):Bq f46 k=b46 k:=by kernel_rfl
noncomputable def b47 (k:Nat):SM :=
 (Ab (ifS (Dk (Dy (Ae (Ad (Gk k) Ac f24) (Aa (vr 1) (Aa (Zr (.int 3)) (Zr []))))))
 (Ab (Am (Zr (.bl false)))
  Zn)
 Zn)
 (Ab (ifS (J0 (Dk (Dy (Ae (Ad (Gk k) Ac f49) (Aa (vr 0) (Aa (dop ixD (vr 1) (Zr (.int (0)))) (Aa (vr 2) (Zr []))))))) (Dk (Dy (Ae (Ad (Gk k) Ac f51) (Aa (vr 0) (Aa (dop ixD (vr 1) (Zr (.int (1)))) (Aa (vr 2) (Zr []))))))))
 (Ab (Am (Zr (.bl false)))
  Zn)
 Zn)
 (Ab (Am (Ae (Ad (Gk k) Ac f48) (Aa (dop ixD (vr 1) (Zr (.int (2)))) (Aa (dop ixD (vr 0) (Zr (.int (1)))) (Zr [])))))
 Zn)))
theorem Ab2 (k:Nat):Bq f47 k=b47 k:=by kernel_rfl
noncomputable def b48 (k:Nat):SM :=
 (Ab (Am (Dw (Ae (Ad (Gk k) Ac f24) (Aa (vr 0) (Aa (Zr (.int 2)) (Zr [])))) (Dw (Ae (Ad (Gk k) Ac f23) (Aa (dop ixD (vr 0) (Zr (.int 0))) (Aa (Zr (.int 0)) (Aa (dop ixD (vr 1) (Zr (.int 0))) (Zr []))))) (Ae (Ad (Gk k) Ac f23) (Aa (dop ixD (vr 0) (Zr (.int 1))) (Aa (Zr (.int 0)) (Aa (dop ixD (vr 1) (Zr (.int 1))) (Zr []))))))))
 Zn)
theorem Ab3 (k:Nat):Bq f48 k=b48 k:=by kernel_rfl
noncomputable def b49 (k:Nat):SM :=
 (Ab (ifS (Dk (Dy (Ae (Ad (Gk k) Ac f24) (Aa (vr 1) (Aa (Ae Dn (Aa (dop ixD (vr 0) (Zr (.int (3)))) (Zr []))) (Zr []))))))
 (Ab (Am (Zr (.bl false)))
  Zn)
 Zn)
 (Ab (Am (Ae S5 (Aa (Df (U9 (Aa (dop ixD (vr 0) (Zr (.int (3)))) (Aa (vr 1) (Zr [])))) [none,none,none,some 2,some 0] (Ms [1,2]) (Zr true) (Ae (Ad (Gk k) Ac f50) (Aa (vr 4) (Aa (vr 1) (Aa (vr 2) (Aa (vr 3) (Zr []))))))) (Zr []))))
 Zn))
theorem Ab4 (k:Nat):Bq f49 k=b49 k:=by kernel_rfl
noncomputable def b50 (k:Nat):SM :=
 (Ab (Bb (Ae Dn (Aa (dop ixD (vr 0) (Zr (.int (3)))) (Zr []))) (Aw 4))
 (Ab (ifS (J0 (Dk (Dy (Ae (Ad (Gk k) Ac f24) (Aa (vr 2) (Aa (Zr (.int 5)) (Zr [])))))) (Dk (Dy (Ae (Ad (Gk k) Ac f23) (Aa (dop ixD (vr 2) (Zr (.int (0)))) (Aa (Zr (.int (-1))) (Aa (Ae (Ad (Gk k) Ac f34) (Aa (vr 0) (Aa (vr 1) (Zr [])))) (Zr []))))))))
 (Ab (Am (Zr (.bl false)))
  Zn)
 Zn)
 (Ab (ifS (J0 (Dk (Dy (Ae (Ad (Gk k) Ac f24) (Aa (dop ixD (vr 2) (Zr (.int (1)))) (Aa (Zr (.int 3)) (Zr [])))))) (Dk (Dy (Ae S5 (Aa (Df (Dt (dop ixD (vr 2) (Zr (.int (1))))) [none,none,some 3] (Aw 1) (Zr true) (O8 (Gk (k+1)).cal 2 (Aa (vr 1) (Zr [])))) (Zr []))))))
 (Ab (Am (Zr (.bl false)))
  Zn)
 Zn)
 (Ab (ifS (Dk (Dy (Ae (Ad (Gk k) Ac f25) (Aa (dop ixD (vr 2) (Zr (.int (2)))) (Aa (Zr (.int 3)) (Aa (Zr (.int (-1))) (Aa (dop Kw (vr 4) (Zr (.int 1))) (Zr []))))))))
 (Ab (Am (Zr (.bl false)))
  Zn)
 Zn)
 (Ab (Am (Dw (Ae (Ad (Gk k) Ac f25) (Aa (dop ixD (vr 2) (Zr (.int (3)))) (Aa (Zr (.int 2)) (Aa (Zr (.int 0)) (Aa (dop Kw (dop Vk (Zr (.int 1)) (vr 4)) (Zr (.int 1))) (Zr [])))))) (Tf "bool" (dop ixD (vr 2) (Zr (.int (4)))))))
 Zn)))))
theorem Ab5 (k:Nat):Bq f50 k=b50 k:=by kernel_rfl
noncomputable def b51 (k:Nat):SM :=
 (Ab (Bb (Ae Dn (Aa (dop ixD (vr 0) (Zr (.int (3)))) (Zr []))) (Aw 3))
 (Ab (ifS (Dk (Dy (Ae (Ad (Gk k) Ac f24) (Aa (vr 1) (Aa (vr 3) (Zr []))))))
 (Ab (Am (Zr (.bl false)))
  Zn)
 Zn)
 (Ab (Ge (Dt (vr 1)) (Aw 4)
 (Ab (ifS (J0 (Dk (Dy (Ae (Ad (Gk k) Ac f24) (Aa (vr 4) (Aa (vr 3) (Zr [])))))) (Dk (Dy (Ae S5 (Aa (Df (Dt (vr 4)) [none,none,some 2,some 0] (Aw 1) (Zr true) (Ae (Ad (Gk k) Ac f52) (Aa (vr 3) (Aa (vr 1) (Aa (vr 2) (Zr [])))))) (Zr []))))))
  (Ab (Am (Zr (.bl false)))
   Zn)
  Zn)
  Zn))
 (Ab (Am (Zr (.bl true)))
 Zn))))
theorem Ab6 (k:Nat):Bq f51 k=b51 k:=by kernel_rfl
noncomputable def b52 (k:Nat):SM :=
 (Ab (ifS (J0 (Dk (Dy (Tf "tuple" (vr 1)))) (Al (dop gtD (Ae Dn (Aa (vr 1) (Zr []))) (dop ixD (vr 0) (Zr (.int (0)))))))
 (Ab (Am (Zr (.bl false)))
  Zn)
 Zn)
 (Ab (Am (Ae S5 (Aa (Df (Dt (vr 1)) [none,none,some 2,some 0] (Aw 1) (Zr true) (Ae (Ad (Gk k) Ac f53) (Aa (vr 1) (Aa (Ae Dn (Aa (dop ixD (vr 3) (Zr (.int (3)))) (Zr []))) (Aa (vr 2) (Zr [])))))) (Zr []))))
 Zn))
theorem Ab7 (k:Nat):Bq f52 k=b52 k:=by kernel_rfl
noncomputable def b53 (k:Nat):SM :=
 (Ab (ifS (Dk (Dy (Ae (Ad (Gk k) Ac f24) (Aa (vr 0) (Aa (Zr (.int 3)) (Zr []))))))
 (Ab (Am (Zr (.bl false)))
  Zn)
 Zn)
 (Ab (Am (Dw (Ae (Ad (Gk k) Ac f23) (Aa (dop ixD (vr 0) (Zr (.int 0))) (Aa (Zr (.int 1)) (Aa (Zr (.int 12)) (Zr []))))) (Dw (O8 (Gk (k+1)).cal 2 (Aa (dop ixD (vr 0) (Zr (.int 1))) (Zr []))) (Ae (Ad (Gk k) Ac f23) (Aa (dop ixD (vr 0) (Zr (.int 2))) (Aa (Zr (.int (-1))) (Aa (dop Kw (vr 1) (Zr (.int 1))) (Zr []))))))))
 Zn))
theorem Ab8 (k:Nat):Bq f53 k=b53 k:=by kernel_rfl
noncomputable def b55 (k:Nat):SM :=
 (Ab (Am (dop eqD (dop xQ (dop vG (vr 0) (vr 1)) (Zr (.int 1))) (Zr (.int 1))))
 Zn)
theorem Ab9 (k:Nat):Bq f55 k=b55 k:=by kernel_rfl
noncomputable def b56 (k:Nat):SM :=
 (Ab (Am (Ae En (Aa (Df (Hz Jo (Aa (Cz "int" iB (vr 0) (Zr [])) (Zr []))) [none,none,some 0] (Aw 1) (Dy (Ae (Ad (Gk k) Ac f55) (Aa (vr 2) (Aa (vr 1) (Zr []))))) (vr 1)) (Zr []))))
 Zn)
theorem Aca (k:Nat):Bq f56 k=b56 k:=by kernel_rfl
noncomputable def b57 (k:Nat):SM :=
 (Ab (Bb (Zr (.int 0)) (Aw 1))
 (Ab (Ge (Dt (vr 0)) (Aw 2)
 (Ab (Bb (dop Abf (vr 1) (dop Vk (Zr (.int 1)) (vr 2))) (Aw 1))
  Zn))
 (Ab (Am (vr 1))
 Zn)))
theorem pD (k:Nat):Bq f57 k=b57 k:=by kernel_rfl
noncomputable def b58 (k:Nat):SM :=
 (Ab (Am (Ae Dn (Aa (Ae (Ad (Gk k) Ac f56) (Aa (vr 0) (Zr []))) (Zr []))))
 Zn)
theorem Acb (k:Nat):Bq f58 k=b58 k:=by kernel_rfl
noncomputable def b61 (k:Nat):SM :=
 (Ab (Am (Ae (Ad (Gk k) Ac f35) (Aa (vr 0) (Aa (dop ixD (dop ixD (vr 0) (Zr (.int (3)))) (vr 2)) (Aa (dop ixD (Ae (Ad (Gk k) Ac f42) (Aa (vr 1) (Aa (vr 2) (Zr [])))) (Zr (.int (0)))) (Zr []))))))
 Zn)
theorem Acd (k:Nat):Bq f61 k=b61 k:=by kernel_rfl
noncomputable def b62 (k:Nat):SM :=
 (Ab (Am (Df (Dt (Ae (Ad (Gk k) Ac f33) (Aa (vr 0) (Aa (vr 1) (Zr []))))) [none,none,some 2] (Aw 1) (Al (dop neD (vr 1) (vr 2))) (vr 1)))
 Zn)
theorem Ace (k:Nat):Bq f62 k=b62 k:=by kernel_rfl
noncomputable def b63 (k:Nat):SM :=
 (Ab (Bb (Ae (Ad (Gk k) Ac f61) (Aa (vr 0) (Aa (vr 1) (Aa (vr 2) (Zr []))))) (Aw 3))
 (Ab (ifS (Al (dop (isD false) (vr 3) (Zr .non)))
 (Ab (Am (lstM (Zr [])))
  Zn)
 Zn)
 (Ab (Bb (Hj (Afo k) "told" (vr 3) (Zr [])) (Aw 4))
 (Ab (ifS (Al (dop eqD (dop ixD (vr 4) (Zr (.int 0))) (Zr (.str "choose"))))
 (Ab (Am (Pj (dop ixD (vr 4) (Zr (.int 2)))))
  Zn)
 Zn)
 (Ab (ifS (Al (dop eqD (dop ixD (vr 4) (Zr (.int 0))) (Zr (.str "pick"))))
 (Ab (Am (Df (Dt (Ae (Ad (Gk k) Ac f62) (Aa (vr 0) (Aa (dop ixD (vr 4) (Zr (.int 2))) (Aa (vr 2) (Zr [])))))) [none,none] (Aw 1) (Zr true) (Aq (Aa (vr 1) (Zr [])))))
  Zn)
 Zn)
 (Ab (ifS (Al (dop eqD (dop ixD (vr 4) (Zr (.int 0))) (Zr (.str "out"))))
 (Ab (Am (Ae (Ad (Gk k) Ac f64) (Aa (dop ixD (dop ixD (Ae (Ad (Gk k) Ac f42) (Aa (vr 1) (Aa (vr 2) (Zr [])))) (Zr (.int (3)))) (dop ixD (vr 4) (Zr (.int 2)))) (Zr []))))
  Zn)
 Zn)
 (Ab (ifS (Al (dop eqD (dop ixD (vr 4) (Zr (.int 0))) (Zr (.str "take"))))
 (Ab (Am (Ae (Ad (Gk k) Ac f66) (Aa (vr 1) (Aa (vr 2) (Aa (vr 4) (Zr []))))))
  Zn)
 Zn)
 (Ab (ifS (Ht (Al (dop eqD (dop ixD (vr 4) (Zr (.int 0))) (Zr (.str "send")))) (Dk (Dy (Ae (Ad (Gk k) Ac f65) (Aa (vr 0) (Aa (vr 1) (Aa (vr 2) (Aa (vr 4) (Zr [])))))))))
 (Ab (Am (lstM (Zr [])))
  Zn)
 Zn)
 (Ab (Am (lstM (Aa (Zr (.int 0)) (Zr []))))
 Zn)))))))))
theorem Acf (k:Nat):Bq f63 k=b63 k:=by kernel_rfl
noncomputable def b64 (k:Nat):SM :=
 (Ab (ifS (Al (dop eqD (vr 0) (Zr (.int 0))))
 (Ab (Am (lstM (Aa (Zr (.int 0)) (Zr []))))
  Zn)
 Zn)
 (Ab (Am (Df (Dt (Ae (Ad (Gk k) Ac f56) (Aa (vr 0) (Zr [])))) [none,none] (Aw 1) (Zr true) (Aq (Aa (vr 1) (Zr [])))))
 Zn))
theorem Acg (k:Nat):Bq f64 k=b64 k:=by kernel_rfl
noncomputable def b65 (k:Nat):SM :=
 (Ab (Bb (dop ixD (dop ixD (Ae (Ad (Gk k) Ac f42) (Aa (vr 1) (Aa (vr 2) (Zr [])))) (Zr (.int (2)))) (dop ixD (vr 3) (Zr (.int 1)))) (Aw 4))
 (Ab (ifS (J0 (Al (dop eqD (vr 4) (Zr (.int (-1))))) (Dy (Ae (Ad (Gk k) Ac f10) (Aa (Ae (Ad (Gk k) Ac f42) (Aa (vr 1) (Aa (vr 4) (Zr [])))) (Zr [])))))
 (Ab (Am (Zr (.bl true)))
  Zn)
 Zn)
 (Ab (Am (dop ltD (Ae Dn (Aa (Ae (Ad (Gk k) Ac f43) (Aa (vr 1) (Aa (vr 2) (Aa (vr 4) (Zr []))))) (Zr []))) (dop ixD (vr 0) (Zr (.int (0))))))
 Zn)))
theorem Ach (k:Nat):Bq f65 k=b65 k:=by kernel_rfl
noncomputable def b66 (k:Nat):SM :=
 (Ab (Bb (Df (Dt (dop ixD (vr 2) (Zr (.int 2)))) [none,none] (Aw 1) (Zr true) (dop ixD (vr 1) (Zr (.int 0)))) (Aw 3))
 (Ab (Bb (lstM (Zr [])) (Aw 4))
 (Ab (ifS (Ht (Al (dop (inD false) (Zr (.int 0)) (vr 3))) (Dy (dop ixD (Ae (Ad (Gk k) Ac f42) (Aa (vr 0) (Aa (vr 1) (Zr [])))) (Zr (.int (4))))))
 (Ab (Dz (Cz "list" Ci (vr 4) (Aa (Zr (.tup [(.int (-1)),(.int (0))])) (Zr []))))
  Zn)
 Zn)
 (Ab (Ge (Dt (Ae (Ad (Gk k) Ac f67) (Aa (vr 0) (Aa (vr 1) (Aa (dop ixD (vr 2) (Zr (.int 1))) (Zr [])))))) (Aw 5)
 (Ab (Bb (Ae (Ad (Gk k) Ac f43) (Aa (vr 0) (Aa (vr 5) (Aa (vr 1) (Zr []))))) (Aw 6))
  (Ab (ifS (Ht (Al (dop gtD (Ae Dn (Aa (vr 6) (Zr []))) (Zr (.int 0)))) (Al (dop (inD false) (dop ixD (dop ixD (vr 6) (Zr (.int 0))) (Zr (.int 0))) (vr 3))))
  (Ab (Dz (Cz "list" Ci (vr 4) (Aa (Aq (Aa (vr 5) (Aa (dop ixD (dop ixD (vr 6) (Zr (.int 0))) (Zr (.int 0))) (Zr [])))) (Zr []))))
   Zn)
  Zn)
  Zn)))
 (Ab (Am (vr 4))
 Zn)))))
theorem Aci (k:Nat):Bq f66 k=b66 k:=by kernel_rfl
noncomputable def b67 (k:Nat):SM :=
 (Ab (ifS (Al (dop eqD (vr 2) (Ir (Zr (.int 1)))))
 (Ab (Am (Ae (Ad (Gk k) Ac f41) (Aa (vr 0) (Zr []))))
  Zn)
 Zn)
 (Ab (Bb (dop ixD (dop ixD (Ae (Ad (Gk k) Ac f42) (Aa (vr 0) (Aa (vr 1) (Zr [])))) (Zr (.int (2)))) (vr 2)) (Aw 3))
 (Ab (Am (dIf (Al (dop eqD (vr 3) (Zr (.int (-1))))) (lstM (Zr [])) (lstM (Aa (vr 3) (Zr [])))))
 Zn)))
theorem Acj (k:Nat):Bq f67 k=b67 k:=by kernel_rfl
noncomputable def b72 (k:Nat):SM :=
 (Ab (ifS (Al (dop eqD (dop ixD (vr 3) (Zr (.int 0))) (Zr (.str "send"))))
 (Ab (Am (Ae (Ad (Gk k) Ac f79) (Aa (vr 1) (Aa (vr 2) (Aa (vr 3) (Zr []))))))
  Zn)
 Zn)
 (Ab (ifS (Al (dop eqD (dop ixD (vr 3) (Zr (.int 0))) (Zr (.str "take"))))
 (Ab (Am (Ae (Ad (Gk k) Ac f80) (Aa (vr 1) (Aa (vr 2) (Aa (vr 3) (Aa (vr 4) (Zr [])))))))
  Zn)
 Zn)
 (Ab (Am (Ae (Ad (Gk k) Ac f44) (Aa (vr 1) (Aa (vr 2) (Aa (Ae (Ad (Gk k) Ac f73) (Aa (vr 0) (Aa (vr 2) (Aa (Ae (Ad (Gk k) Ac f42) (Aa (vr 1) (Aa (vr 2) (Zr [])))) (Aa (vr 3) (Aa (vr 4) (Zr []))))))) (Zr []))))))
 Zn)))
theorem Ack (k:Nat):Bq f72 k=b72 k:=by kernel_rfl
noncomputable def b73 (k:Nat):SM :=
 (Ab (Bb (dop ixD (vr 3) (Zr (.int 0))) (Aw 5))
 (Ab (ifS (Al (dop (inD false) (vr 5) (Zr (.tup [(.str "put"),(.str "copy"),(.str "raise"),(.str "sum"),(.str "choose")]))))
 (Ab (Am (Ae (Ad (Gk k) Ac f17) (Aa (Ae (Ad (Gk k) Ac f12) (Aa (vr 2) (Aa (dop ixD (vr 3) (Zr (.int 1))) (Aa (Ae (Ad (Gk k) Ac f74) (Aa (dop ixD (vr 2) (Zr (.int (1)))) (Aa (vr 3) (Aa (vr 4) (Zr []))))) (Zr []))))) (Zr []))))
  Zn)
 Zn)
 (Ab (ifS (Al (dop (inD false) (vr 5) (Zr (.tup [(.str "me"),(.str "only"),(.str "pick")]))))
 (Ab (Am (Ae (Ad (Gk k) Ac f17) (Aa (Ae (Ad (Gk k) Ac f13) (Aa (vr 2) (Aa (dop ixD (vr 3) (Zr (.int 1))) (Aa (Ae (Ad (Gk k) Ac f75) (Aa (vr 0) (Aa (vr 1) (Aa (vr 3) (Aa (vr 4) (Zr [])))))) (Zr []))))) (Zr []))))
  Zn)
 Zn)
 (Ab (ifS (Al (dop (inD false) (vr 5) (Zr (.tup [(.str "all"),(.str "empty"),(.str "join")]))))
 (Ab (Am (Ae (Ad (Gk k) Ac f17) (Aa (Ae (Ad (Gk k) Ac f14) (Aa (vr 2) (Aa (dop ixD (vr 3) (Zr (.int 1))) (Aa (Ae (Ad (Gk k) Ac f76) (Aa (vr 0) (Aa (vr 1) (Aa (vr 2) (Aa (vr 3) (Zr [])))))) (Zr []))))) (Zr []))))
  Zn)
 Zn)
 (Ab (ifS (Al (dop eqD (vr 5) (Zr (.str "out"))))
 (Ab (Am (Ae (Ad (Gk k) Ac f78) (Aa (vr 2) (Aa (vr 3) (Aa (vr 4) (Zr []))))))
  Zn)
 Zn)
 (Ab (ifS (Al (dop eqD (vr 5) (Zr (.str "bell"))))
 (Ab (Am (Ae (Ad (Gk k) Ac f17) (Aa (Ae (Ad (Gk k) Ac f15) (Aa (vr 2) (Aa (Zr (.bl true)) (Zr [])))) (Zr []))))
  Zn)
 Zn)
 (Ab (ifS (Dy (Ae (Ad (Gk k) Ac f77) (Aa (vr 2) (Aa (vr 3) (Zr [])))))
 (Ab (Am (Ae (Ad (Gk k) Ac f16) (Aa (vr 2) (Aa (dop ixD (vr 3) (Ir (Zr (.int 1)))) (Zr [])))))
  Zn)
 Zn)
 (Ab (Am (Ae (Ad (Gk k) Ac f17) (Aa (vr 2) (Zr []))))
 Zn))))))))
theorem Acl (k:Nat):Bq f73 k=b73 k:=by kernel_rfl
noncomputable def b74 (k:Nat):SM :=
 (Ab (Bb (dop ixD (vr 1) (Zr (.int 0))) (Aw 3))
 (Ab (ifS (Al (dop eqD (vr 3) (Zr (.str "put"))))
 (Ab (Am (dop ixD (vr 1) (Zr (.int 2))))
  Zn)
 Zn)
 (Ab (ifS (Al (dop eqD (vr 3) (Zr (.str "copy"))))
 (Ab (Am (dop ixD (vr 0) (dop ixD (vr 1) (Zr (.int 2)))))
  Zn)
 Zn)
 (Ab (ifS (Al (dop eqD (vr 3) (Zr (.str "raise"))))
 (Ab (Am (dop Bu (dop ixD (vr 0) (dop ixD (vr 1) (Zr (.int 1)))) (dop ixD (vr 1) (Zr (.int 2)))))
  Zn)
 Zn)
 (Ab (ifS (Al (dop eqD (vr 3) (Zr (.str "sum"))))
 (Ab (Am (dop Bu (dop ixD (vr 0) (dop ixD (vr 1) (Zr (.int 1)))) (dop ixD (vr 0) (dop ixD (vr 1) (Zr (.int 2))))))
  Zn)
 Zn)
 (Ab (Am (vr 2))
 Zn))))))
theorem P0 (k:Nat):Bq f74 k=b74 k:=by kernel_rfl
noncomputable def b75 (k:Nat):SM :=
 (Ab (Bb (dop ixD (vr 2) (Zr (.int 0))) (Aw 4))
 (Ab (ifS (Al (dop eqD (vr 4) (Zr (.str "me"))))
 (Ab (Am (vr 1))
  Zn)
 Zn)
 (Ab (ifS (Al (dop eqD (vr 4) (Zr (.str "only"))))
 (Ab (Am (dop ixD (Ae (Ad (Gk k) Ac f33) (Aa (vr 0) (Aa (dop ixD (vr 2) (Zr (.int 2))) (Zr [])))) (Zr (.int 0))))
  Zn)
 Zn)
 (Ab (Am (dop ixD (vr 3) (Zr (.int 0))))
 Zn))))
theorem Xp (k:Nat):Bq f75 k=b75 k:=by kernel_rfl
noncomputable def b76 (k:Nat):SM :=
 (Ab (Bb (dop ixD (vr 3) (Zr (.int 0))) (Aw 4))
 (Ab (ifS (Al (dop eqD (vr 4) (Zr (.str "all"))))
 (Ab (Am (Ae (Ad (Gk k) Ac f57) (Aa (Ae (Ad (Gk k) Ac f62) (Aa (vr 0) (Aa (dop ixD (vr 3) (Zr (.int 2))) (Aa (vr 1) (Zr []))))) (Zr []))))
  Zn)
 Zn)
 (Ab (ifS (Al (dop eqD (vr 4) (Zr (.str "empty"))))
 (Ab (Am (Zr (.int 0)))
  Zn)
 Zn)
 (Ab (Bb (dop ixD (dop ixD (vr 2) (Zr (.int (3)))) (dop ixD (vr 3) (Zr (.int 1)))) (Aw 5))
 (Ab (Bb (dop ixD (dop ixD (vr 2) (Zr (.int (2)))) (dop ixD (vr 3) (Zr (.int 2)))) (Aw 6))
 (Ab (Am (dIf (Al (dop eqD (vr 6) (Zr (.int (-1))))) (vr 5) (dop Abf (vr 5) (Ae (Ad (Gk k) Ac f57) (Aa (lstM (Aa (vr 6) (Zr []))) (Zr []))))))
 Zn))))))
theorem Xq (k:Nat):Bq f76 k=b76 k:=by kernel_rfl
noncomputable def b77 (k:Nat):SM :=
 (Ab (Bb (dop ixD (vr 1) (Zr (.int 0))) (Aw 2))
 (Ab (ifS (Al (dop eqD (vr 2) (Zr (.str "less"))))
 (Ab (Am (dop ltD (dop ixD (dop ixD (vr 0) (Zr (.int (1)))) (dop ixD (vr 1) (Zr (.int 1)))) (dop ixD (vr 1) (Zr (.int 2)))))
  Zn)
 Zn)
 (Ab (ifS (Al (dop eqD (vr 2) (Zr (.str "before"))))
 (Ab (Am (dop ltD (dop ixD (dop ixD (vr 0) (Zr (.int (1)))) (dop ixD (vr 1) (Zr (.int 1)))) (dop ixD (dop ixD (vr 0) (Zr (.int (1)))) (dop ixD (vr 1) (Zr (.int 2))))))
  Zn)
 Zn)
 (Ab (ifS (Al (dop eqD (vr 2) (Zr (.str "alike"))))
 (Ab (Am (dop eqD (dop ixD (dop ixD (vr 0) (Zr (.int (2)))) (dop ixD (vr 1) (Zr (.int 1)))) (dop ixD (dop ixD (vr 0) (Zr (.int (2)))) (dop ixD (vr 1) (Zr (.int 2))))))
  Zn)
 Zn)
 (Ab (ifS (Al (dop eqD (vr 2) (Zr (.str "many"))))
 (Ab (Am (dop geD (Ae (Ad (Gk k) Ac f58) (Aa (dop ixD (dop ixD (vr 0) (Zr (.int (3)))) (dop ixD (vr 1) (Zr (.int 1)))) (Zr []))) (dop ixD (vr 1) (Zr (.int 2)))))
  Zn)
 Zn)
 (Ab (Am (Zr (.bl true)))
 Zn))))))
theorem Qa (k:Nat):Bq f77 k=b77 k:=by kernel_rfl
noncomputable def b78 (k:Nat):SM :=
 (Ab (Bb (dop ixD (dop ixD (vr 0) (Zr (.int (3)))) (dop ixD (vr 1) (Zr (.int 2)))) (Aw 3))
 (Ab (ifS (Al (dop eqD (vr 3) (Zr (.int 0))))
 (Ab (Am (Ae (Ad (Gk k) Ac f16) (Aa (vr 0) (Aa (dop ixD (vr 1) (Zr (.int 3))) (Zr [])))))
  Zn)
 Zn)
 (Ab (Bb (Ae (Ad (Gk k) Ac f14) (Aa (vr 0) (Aa (dop ixD (vr 1) (Zr (.int 2))) (Aa (dop Kw (vr 3) (Ae (Ad (Gk k) Ac f57) (Aa (vr 2) (Zr [])))) (Zr []))))) (Aw 4))
 (Ab (Am (Ae (Ad (Gk k) Ac f17) (Aa (Ae (Ad (Gk k) Ac f13) (Aa (vr 4) (Aa (dop ixD (vr 1) (Zr (.int 1))) (Aa (dop ixD (vr 2) (Zr (.int 0))) (Zr []))))) (Zr []))))
 Zn))))
theorem Acm (k:Nat):Bq f78 k=b78 k:=by kernel_rfl
noncomputable def b79 (k:Nat):SM :=
 (Ab (Bb (Ae (Ad (Gk k) Ac f42) (Aa (vr 0) (Aa (vr 1) (Zr [])))) (Aw 3))
 (Ab (Bb (Ae (Ad (Gk k) Ac f44) (Aa (vr 0) (Aa (vr 1) (Aa (Ae (Ad (Gk k) Ac f17) (Aa (vr 3) (Zr []))) (Zr []))))) (Aw 4))
 (Ab (Bb (dop ixD (dop ixD (vr 3) (Zr (.int (2)))) (dop ixD (vr 2) (Zr (.int 1)))) (Aw 5))
 (Ab (ifS (J0 (Al (dop eqD (vr 5) (Zr (.int (-1))))) (Dy (Ae (Ad (Gk k) Ac f10) (Aa (Ae (Ad (Gk k) Ac f42) (Aa (vr 0) (Aa (vr 5) (Zr [])))) (Zr [])))))
 (Ab (Am (vr 4))
  Zn)
 Zn)
 (Ab (Bb (Aq (Aa (dop ixD (vr 2) (Zr (.int 2))) (Aa (dop ixD (dop ixD (vr 3) (Zr (.int (1)))) (dop ixD (vr 2) (Zr (.int 3)))) (Aa (dop ixD (dop ixD (vr 3) (Zr (.int (2)))) (dop ixD (vr 2) (Zr (.int 4)))) (Zr []))))) (Aw 6))
 (Ab (Am (Ae (Ad (Gk k) Ac f45) (Aa (vr 4) (Aa (vr 1) (Aa (vr 5) (Aa (dop Bu (Ae (Ad (Gk k) Ac f43) (Aa (vr 0) (Aa (vr 1) (Aa (vr 5) (Zr []))))) (Aq (Aa (vr 6) (Zr [])))) (Zr [])))))))
 Zn))))))
theorem Acn (k:Nat):Bq f79 k=b79 k:=by kernel_rfl
noncomputable def b80 (k:Nat):SM :=
 (Ab (Bb (dop ixD (Df (Dt (dop ixD (vr 2) (Zr (.int 2)))) [none,none,some 3] (Aw 1) (Al (dop eqD (dop ixD (vr 1) (Zr (.int 0))) (dop ixD (vr 2) (Zr (.int 1))))) (vr 1)) (Zr (.int 0))) (Aw 4))
 (Ab (Bb (Ae (Ad (Gk k) Ac f16) (Aa (Ae (Ad (Gk k) Ac f42) (Aa (vr 0) (Aa (vr 1) (Zr [])))) (Aa (dop ixD (vr 4) (Zr (.int 4))) (Zr [])))) (Aw 5))
 (Ab (ifS (Al (dop eqD (vr 3) (Zr (.tup [(.int (-1)),(.int (0))]))))
 (Ab (Am (Ae (Ad (Gk k) Ac f44) (Aa (vr 0) (Aa (vr 1) (Aa (Ae (Ad (Gk k) Ac f15) (Aa (vr 5) (Aa (Zr (.bl false)) (Zr [])))) (Zr []))))))
  Zn)
 Zn)
 (Ab (Bb (dop ixD (vr 3) (Zr (.int 0))) (Aw 6))
 (Ab (Bb (Ae (Ad (Gk k) Ac f43) (Aa (vr 0) (Aa (vr 6) (Aa (vr 1) (Zr []))))) (Aw 7))
 (Ab (Bb (Ae (Ad (Gk k) Ac f12) (Aa (vr 5) (Aa (dop ixD (vr 4) (Zr (.int 1))) (Aa (dop ixD (dop ixD (vr 7) (Zr (.int 0))) (Zr (.int 1))) (Zr []))))) (Aw 5))
 (Ab (Bb (Ae (Ad (Gk k) Ac f13) (Aa (vr 5) (Aa (dop ixD (vr 4) (Zr (.int 2))) (Aa (dop ixD (dop ixD (vr 7) (Zr (.int 0))) (Zr (.int 2))) (Zr []))))) (Aw 5))
 (Ab (Bb (Ae (Ad (Gk k) Ac f13) (Aa (vr 5) (Aa (dop ixD (vr 4) (Zr (.int 3))) (Aa (vr 6) (Zr []))))) (Aw 5))
 (Ab (Am (Ae (Ad (Gk k) Ac f44) (Aa (Ae (Ad (Gk k) Ac f45) (Aa (vr 0) (Aa (vr 6) (Aa (vr 1) (Aa (dSl (vr 7) (some (Zr (.int 1))) none) (Zr [])))))) (Aa (vr 1) (Aa (vr 5) (Zr []))))))
 Zn)))))))))
theorem Aco (k:Nat):Bq f80 k=b80 k:=by kernel_rfl
noncomputable def b82 (k:Nat):SM :=
 (Ab (Bb (lstM (Zr [])) (Aw 2))
 (Ab (Ge (Dt (Ae (Ad (Gk k) Ac f41) (Aa (vr 1) (Zr [])))) (Aw 3)
 (Ab (Ge (Dt (Ae (Ad (Gk k) Ac f63) (Aa (vr 0) (Aa (vr 1) (Aa (vr 3) (Zr [])))))) (Aw 4)
  (Ab (Dz (Cz "list" Ci (vr 2) (Aa (Aq (Aa (Zr (.str "do")) (Aa (vr 3) (Aa (vr 4) (Zr []))))) (Zr []))))
   Zn))
  Zn))
 (Ab (Am (dop Bu (dop Bu (vr 2) (Ae (Ad (Gk k) Ac f83) (Aa (vr 1) (Zr [])))) (Ae (Ad (Gk k) Ac f84) (Aa (vr 1) (Zr [])))))
 Zn)))
theorem Acp (k:Nat):Bq f82 k=b82 k:=by kernel_rfl
noncomputable def b83 (k:Nat):SM :=
 (Ab (Bb (lstM (Zr [])) (Aw 1))
 (Ab (ifS (Al (dop eqD (dop ixD (dop ixD (vr 0) (Zr (.int (2)))) (Zr (.int 0))) (Zr (.int 0))))
 (Ab (Am (vr 1))
  Zn)
 Zn)
 (Ab (Ge (Dt (Ae (Ad (Gk k) Ac f41) (Aa (vr 0) (Zr [])))) (Aw 2)
 (Ab (Ge (Dt (Ae (Ad (Gk k) Ac f41) (Aa (vr 0) (Zr [])))) (Aw 3)
  (Ab (ifS (Al (dop gtD (Ae Dn (Aa (Ae (Ad (Gk k) Ac f43) (Aa (vr 0) (Aa (vr 2) (Aa (vr 3) (Zr []))))) (Zr []))) (Zr (.int 0))))
   (Ab (Dz (Cz "list" Ci (vr 1) (Aa (Aq (Aa (Zr (.str "lose")) (Aa (vr 2) (Aa (vr 3) (Zr []))))) (Zr []))))
    Zn)
   Zn)
   Zn))
  Zn))
 (Ab (Am (vr 1))
 Zn))))
theorem Acq (k:Nat):Bq f83 k=b83 k:=by kernel_rfl
noncomputable def b84 (k:Nat):SM :=
 (Ab (ifS (Al (dop eqD (dop ixD (dop ixD (vr 0) (Zr (.int (2)))) (Zr (.int 1))) (Zr (.int 0))))
 (Ab (Am (lstM (Zr [])))
  Zn)
 Zn)
 (Ab (Am (Df (Dt (Ae (Ad (Gk k) Ac f41) (Aa (vr 0) (Zr [])))) [none,none,some 0] (Aw 1) (Dk (Dy (Ae (Ad (Gk k) Ac f10) (Aa (Ae (Ad (Gk k) Ac f42) (Aa (vr 2) (Aa (vr 1) (Zr [])))) (Zr []))))) (Aq (Aa (Zr (.str "fall")) (Aa (vr 1) (Zr []))))))
 Zn))
theorem Acr (k:Nat):Bq f84 k=b84 k:=by kernel_rfl
noncomputable def b85 (k:Nat):SM :=
 (Ab (ifS (Dk (Dy (Ae (Ad (Gk k) Ac f87) (Aa (vr 0) (Aa (vr 1) (Aa (vr 2) (Zr [])))))))
 (Ab SM.bad
  Zn)
 Zn)
 (Ab (Am (Ae (Ad (Gk k) Ac f86) (Aa (vr 0) (Aa (vr 1) (Aa (vr 2) (Zr []))))))
 Zn))
theorem Acs (k:Nat):Bq f85 k=b85 k:=by kernel_rfl
noncomputable def b86 (k:Nat):SM :=
 (Ab (ifS (Al (dop eqD (dop ixD (vr 2) (Zr (.int 0))) (Zr (.str "lose"))))
 (Ab (Am (Ae (Ad (Gk k) Ac f90) (Aa (vr 1) (Aa (dop ixD (vr 2) (Zr (.int 1))) (Aa (dop ixD (vr 2) (Zr (.int 2))) (Zr []))))))
  Zn)
 Zn)
 (Ab (ifS (Al (dop eqD (dop ixD (vr 2) (Zr (.int 0))) (Zr (.str "fall"))))
 (Ab (Am (Ae (Ad (Gk k) Ac f91) (Aa (vr 1) (Aa (dop ixD (vr 2) (Zr (.int 1))) (Zr [])))))
  Zn)
 Zn)
 (Ab (Bb (Hj (Afo k) "told" (Ae (Ad (Gk k) Ac f61) (Aa (vr 0) (Aa (vr 1) (Aa (dop ixD (vr 2) (Zr (.int 1))) (Zr []))))) (Zr [])) (Aw 3))
 (Ab (Am (Ae (Ad (Gk k) Ac f72) (Aa (vr 0) (Aa (vr 1) (Aa (dop ixD (vr 2) (Zr (.int 1))) (Aa (vr 3) (Aa (dop ixD (vr 2) (Zr (.int 2))) (Zr []))))))))
 Zn))))
theorem Acu (k:Nat):Bq f86 k=b86 k:=by kernel_rfl
noncomputable def b87 (k:Nat):SM :=
 (Ab (ifS (Dk (Dy (Ae (Ad (Gk k) Ac f88) (Aa (vr 2) (Zr [])))))
 (Ab (Am (Zr (.bl false)))
  Zn)
 Zn)
 (Ab (ifS (Al (dop eqD (dop ixD (vr 2) (Zr (.int 0))) (Zr (.str "lose"))))
 (Ab (Am (dop (inD false) (vr 2) (Ae (Ad (Gk k) Ac f83) (Aa (vr 1) (Zr [])))))
  Zn)
 Zn)
 (Ab (ifS (Al (dop eqD (dop ixD (vr 2) (Zr (.int 0))) (Zr (.str "fall"))))
 (Ab (Am (dop (inD false) (vr 2) (Ae (Ad (Gk k) Ac f84) (Aa (vr 1) (Zr [])))))
  Zn)
 Zn)
 (Ab (Am (Dw (Hi leD ltD (Zr (.int 0)) (dop ixD (vr 2) (Zr (.int 1))) (Ae Dn (Aa (dop ixD (vr 1) (Zr (.int (0)))) (Zr [])))) (dop (inD false) (dop ixD (vr 2) (Zr (.int 2))) (Ae (Ad (Gk k) Ac f63) (Aa (vr 0) (Aa (vr 1) (Aa (dop ixD (vr 2) (Zr (.int 1))) (Zr []))))))))
 Zn))))
theorem Acv (k:Nat):Bq f87 k=b87 k:=by kernel_rfl
noncomputable def b88 (k:Nat):SM :=
 (Ab (ifS (J0 (Dk (Dy (Tf "tuple" (vr 0)))) (Dk (Al (Hi leD leD (Zr (.int 2)) (Ae Dn (Aa (vr 0) (Zr []))) (Zr (.int 3))))))
 (Ab (Am (Zr (.bl false)))
  Zn)
 Zn)
 (Ab (ifS (Al (dop eqD (dop ixD (vr 0) (Zr (.int 0))) (Zr (.str "do"))))
 (Ab (Am (Dw (dop eqD (Ae Dn (Aa (vr 0) (Zr []))) (Zr (.int 3))) (Dw (Ae (Ad (Gk k) Ac f22) (Aa (dop ixD (vr 0) (Zr (.int 1))) (Zr []))) (Ae (Ad (Gk k) Ac f89) (Aa (dop ixD (vr 0) (Zr (.int 2))) (Zr []))))))
  Zn)
 Zn)
 (Ab (ifS (Al (dop eqD (dop ixD (vr 0) (Zr (.int 0))) (Zr (.str "lose"))))
 (Ab (Am (Dw (dop eqD (Ae Dn (Aa (vr 0) (Zr []))) (Zr (.int 3))) (Dw (Ae (Ad (Gk k) Ac f22) (Aa (dop ixD (vr 0) (Zr (.int 1))) (Zr []))) (Ae (Ad (Gk k) Ac f22) (Aa (dop ixD (vr 0) (Zr (.int 2))) (Zr []))))))
  Zn)
 Zn)
 (Ab (Am (Dw (dop eqD (dop ixD (vr 0) (Zr (.int 0))) (Zr (.str "fall"))) (Dw (dop eqD (Ae Dn (Aa (vr 0) (Zr []))) (Zr (.int 2))) (Ae (Ad (Gk k) Ac f22) (Aa (dop ixD (vr 0) (Zr (.int 1))) (Zr []))))))
 Zn))))
theorem Acw (k:Nat):Bq f88 k=b88 k:=by kernel_rfl
noncomputable def b89 (k:Nat):SM :=
 (Ab (ifS (Dy (Tf "tuple" (vr 0)))
 (Ab (Am (Ae S5 (Aa (Df (Dt (vr 0)) [none,none] (Aw 1) (Zr true) (Ae (Ad (Gk k) Ac f22) (Aa (vr 1) (Zr [])))) (Zr []))))
  Zn)
 Zn)
 (Ab (Am (Ae (Ad (Gk k) Ac f22) (Aa (vr 0) (Zr []))))
 Zn))
theorem Acx (k:Nat):Bq f89 k=b89 k:=by kernel_rfl
noncomputable def b90 (k:Nat):SM :=
 (Ab (Bb (dop ixD (vr 0) (Zr (.int (2)))) (Aw 3))
 (Ab (Bb (Ae (Ad (Gk k) Ac f45) (Aa (vr 0) (Aa (vr 1) (Aa (vr 2) (Aa (dSl (Ae (Ad (Gk k) Ac f43) (Aa (vr 0) (Aa (vr 1) (Aa (vr 2) (Zr []))))) (some (Zr (.int 1))) none) (Zr [])))))) (Aw 4))
 (Ab (Am (Ae (Ad (Gk k) Ac f11) (Aa (vr 4) (Aa (Zr (.int (2))) (Aa (Aq (Aa (dop Kw (dop ixD (vr 3) (Zr (.int 0))) (Zr (.int 1))) (Aa (dop ixD (vr 3) (Zr (.int 1))) (Zr [])))) (Zr []))))))
 Zn)))
theorem Acy (k:Nat):Bq f90 k=b90 k:=by kernel_rfl
noncomputable def b91 (k:Nat):SM :=
 (Ab (Bb (dop ixD (vr 0) (Zr (.int (2)))) (Aw 2))
 (Ab (Bb (Ae (Ad (Gk k) Ac f11) (Aa (vr 0) (Aa (Zr (.int (1))) (Aa (Ae (Ad (Gk k) Ac f11) (Aa (dop ixD (vr 0) (Zr (.int (1)))) (Aa (vr 1) (Aa (dop Gv (Aq (Aa (Aq (Zr [])) (Zr []))) (Ae Dn (Aa (dop ixD (vr 0) (Zr (.int (0)))) (Zr [])))) (Zr []))))) (Zr []))))) (Aw 3))
 (Ab (Am (Ae (Ad (Gk k) Ac f11) (Aa (Ae (Ad (Gk k) Ac f44) (Aa (vr 3) (Aa (vr 1) (Aa (Ae (Ad (Gk k) Ac f9) (Aa (Zr (.int (-1))) (Zr []))) (Zr []))))) (Aa (Zr (.int (2))) (Aa (Aq (Aa (dop ixD (vr 2) (Zr (.int 0))) (Aa (dop Kw (dop ixD (vr 2) (Zr (.int 1))) (Zr (.int 1))) (Zr [])))) (Zr []))))))
 Zn)))
theorem Acz (k:Nat):Bq f91 k=b91 k:=by kernel_rfl
noncomputable def b93 (k:Nat):SM :=
 (Ab (ifS (Al (dop ltD (vr 1) (Ae Dn (Aa (vr 0) (Zr [])))))
 (Ab (Am (dop ixD (vr 0) (vr 1)))
  Zn)
 Zn)
 (Ab (Am (Zr (.int 0)))
 Zn))
theorem Ac0 (k:Nat):Bq f93 k=b93 k:=by kernel_rfl
noncomputable def b94 (k:Nat):SM :=
 (Ab (Bb (dop vG (vr 0) (dop Bu (Zr (.int 1)) (dop Gv (Zr (.int 24)) (dop Bm (vr 1) (Zr (.int 120)))))) (Aw 2))
 (Ab (ifS (Ht (Al (dop eqD (dop Bm (vr 0) (Zr (.int 2))) (Zr (.int 1)))) (Al (dop gtD (vr 2) (Zr (.int 0)))))
 (Ab (Am (dop Bm (vr 2) (dop jO (Zr (.int 2)) (Zr (.int 24)))))
  Zn)
 Zn)
 (Ab (Bb (dop Bm (dop Gv (dop Bu (dop Bu (dop Bm (dop Br (vr 0) (Zr (.int 2))) (Zr (.int 2147483647))) (dop Gv (Zr (.int 7919)) (vr 1))) (Zr (.int 1))) (Zr (.int 48271))) (Zr (.int 2147483647))) (Aw 3))
 (Ab (Bb (dop Bm (dop Gv (vr 3) (dop Bu (dop Br (vr 3) (Zr (.int 1009))) (Zr (.int 69621)))) (Zr (.int 2147483647))) (Aw 3))
 (Ab (Am (dop Bm (dop Gv (vr 3) (dop Bu (dop Br (vr 3) (Zr (.int 2003))) (Zr (.int 40692)))) (Zr (.int 2147483399))))
 Zn)))))
theorem Ac1 (k:Nat):Bq f94 k=b94 k:=by kernel_rfl
noncomputable def b95 (k:Nat):SM :=
 (Ab (Bb (lstM (Aa (dop Bu (Zr (.int 1)) (dop Bm (vr 0) (Zr (.int 3)))) (Aa (dop Bm (dop Br (vr 0) (Zr (.int 3))) (Zr (.int 4))) (Aa (Zr (.int 4)) (Zr []))))) (Aw 2))
 (Ab (Bb (lstM (Zr [])) (Aw 3))
 (Ab (Ge (Hz Jo (Aa (dop Bu (Zr (.int 1)) (dop Bm (dop Br (vr 0) (Zr (.int 12))) (Zr (.int 3)))) (Zr []))) (Aw 4)
 (Ab (Bb (dop ixD (lstM (Aa (Aq (Aa (Zr (.int 0)) (Aa (Zr (.int 1)) (Aa (Zr (.int 2)) (Zr []))))) (Aa (Aq (Aa (Zr (.int 1)) (Aa (Zr (.int 2)) (Aa (Zr (.int 0)) (Zr []))))) (Aa (Aq (Aa (Zr (.int 2)) (Aa (Zr (.int 0)) (Aa (Zr (.int 1)) (Zr []))))) (Zr []))))) (dop Bm (dop Br (vr 0) (dop Bu (Zr (.int 24)) (dop Gv (Zr (.int 48)) (vr 4)))) (Zr (.int 3)))) (Aw 5))
  (Ab (ifS (Al (dop (inD true) (dop ixD (vr 2) (vr 4)) (Df (Dt (vr 3)) [none,none] (Aw 1) (Zr true) (dop ixD (vr 1) (Zr (.int 0))))))
  (Ab (Dz (Cz "list" Ci (vr 3) (Aa (dop Bu (dop Bu (Aq (Aa (dop ixD (vr 2) (vr 4)) (Zr []))) (vr 5)) (Aq (Aa (dop Bm (dop Br (vr 0) (dop Bu (Zr (.int 144)) (dop Gv (Zr (.int 300)) (vr 4)))) (dop Bu (vr 1) (Zr (.int 1)))) (Zr [])))) (Zr []))))
   Zn)
  Zn)
  Zn)))
 (Ab (Am (Ae En (Aa (vr 3) (Zr []))))
 Zn))))
theorem Ac2 (k:Nat):Bq f95 k=b95 k:=by kernel_rfl
noncomputable def b96 (k:Nat):SM :=
 (Ab (Bb (dop ixD (lstM (Aa (Zr (.int 0)) (Aa (Zr (.int 1)) (Aa (Zr (.int 2)) (Aa (Ir (Zr (.int 1))) (Aa (Zr (.int 3)) (Aa (Ir (dop jO (Zr (.int 10)) (Zr (.int 30)))) (Aa (dop jO (Zr (.int 10)) (Zr (.int 30))) (Aa (Zr (.int 7)) (Zr [])))))))))) (dop Bm (vr 4) (Zr (.int 8)))) (Aw 5))
 (Ab (ifS (Al (dop eqD (vr 0) (Zr (.int 0))))
 (Ab (Am (Aq (Aa (Zr (.str "put")) (Aa (vr 1) (Aa (vr 5) (Zr []))))))
  Zn)
 Zn)
 (Ab (ifS (Al (dop eqD (vr 0) (Zr (.int 1))))
 (Ab (Am (Aq (Aa (Zr (.str "copy")) (Aa (vr 1) (Aa (vr 2) (Zr []))))))
  Zn)
 Zn)
 (Ab (ifS (Al (dop eqD (vr 0) (Zr (.int 2))))
 (Ab (Am (Aq (Aa (Zr (.str "raise")) (Aa (vr 1) (Aa (vr 5) (Zr []))))))
  Zn)
 Zn)
 (Ab (ifS (Al (dop eqD (vr 0) (Zr (.int 3))))
 (Ab (Am (Aq (Aa (Zr (.str "sum")) (Aa (vr 1) (Aa (vr 2) (Zr []))))))
  Zn)
 Zn)
 (Ab (ifS (Al (dop eqD (vr 0) (Zr (.int 4))))
 (Ab (Am (Aq (Aa (Zr (.str "choose")) (Aa (vr 1) (Aa (dop Bu (Zr (.int 1)) (dop Bm (dop Br (vr 4) (Zr (.int 8))) (Zr (.int 3)))) (Zr []))))))
  Zn)
 Zn)
 (Ab (ifS (Al (dop eqD (vr 0) (Zr (.int 5))))
 (Ab (Am (Aq (Aa (Zr (.str "less")) (Aa (vr 1) (Aa (vr 5) (Aa (vr 3) (Zr [])))))))
  Zn)
 Zn)
 (Ab (ifS (Al (dop eqD (vr 0) (Zr (.int 6))))
 (Ab (Am (Aq (Aa (Zr (.str "before")) (Aa (vr 1) (Aa (vr 2) (Aa (vr 3) (Zr [])))))))
  Zn)
 Zn)
 (Ab (Am (Aq (Aa (Zr (.str "go")) (Aa (vr 3) (Zr [])))))
 Zn)))))))))
theorem Ac3 (k:Nat):Bq f96 k=b96 k:=by kernel_rfl
noncomputable def b97 (k:Nat):SM :=
 (Ab (Bb (dop Bm (vr 4) (Ae Dn (Aa (vr 5) (Zr [])))) (Aw 6))
 (Ab (ifS (J0 (Al (dop eqD (vr 0) (Zr (.int 8)))) (Ht (Al (dop eqD (vr 0) (Zr (.int 9)))) (Al (dop neD (dop ixD (vr 5) (vr 6)) (Zr (.int 1))))))
 (Ab (Am (Aq (Aa (Zr (.str "me")) (Aa (vr 1) (Zr [])))))
  Zn)
 Zn)
 (Ab (ifS (Al (dop eqD (vr 0) (Zr (.int 9))))
 (Ab (Am (Aq (Aa (Zr (.str "only")) (Aa (vr 1) (Aa (vr 6) (Zr []))))))
  Zn)
 Zn)
 (Ab (ifS (Al (dop eqD (vr 0) (Zr (.int 10))))
 (Ab (Am (Aq (Aa (Zr (.str "pick")) (Aa (vr 1) (Aa (vr 6) (Zr []))))))
  Zn)
 Zn)
 (Ab (ifS (Al (dop eqD (vr 0) (Zr (.int 11))))
 (Ab (Am (Aq (Aa (Zr (.str "alike")) (Aa (vr 1) (Aa (vr 2) (Aa (vr 3) (Zr [])))))))
  Zn)
 Zn)
 (Ab (ifS (Al (dop eqD (vr 0) (Zr (.int 12))))
 (Ab (Am (Aq (Aa (Zr (.str "all")) (Aa (dop Bm (vr 1) (Zr (.int 2))) (Aa (vr 6) (Zr []))))))
  Zn)
 Zn)
 (Ab (ifS (Al (dop eqD (vr 0) (Zr (.int 13))))
 (Ab (Am (Aq (Aa (Zr (.str "empty")) (Aa (dop Bm (vr 1) (Zr (.int 2))) (Zr [])))))
  Zn)
 Zn)
 (Ab (ifS (Al (dop eqD (vr 0) (Zr (.int 14))))
 (Ab (Am (Aq (Aa (Zr (.str "join")) (Aa (dop Bm (vr 1) (Zr (.int 2))) (Aa (vr 2) (Zr []))))))
  Zn)
 Zn)
 (Ab (ifS (Al (dop eqD (vr 0) (Zr (.int 15))))
 (Ab (Am (Aq (Aa (Zr (.str "out")) (Aa (vr 2) (Aa (dop Bm (vr 1) (Zr (.int 2))) (Aa (vr 3) (Zr [])))))))
  Zn)
 Zn)
 (Ab (Am (Aq (Aa (Zr (.str "many")) (Aa (dop Bm (vr 1) (Zr (.int 2))) (Aa (dop Bm (dop Br (vr 4) (Zr (.int 8))) (Zr (.int 4))) (Aa (vr 3) (Zr [])))))))
 Zn))))))))))
theorem Ac4 (k:Nat):Bq f97 k=b97 k:=by kernel_rfl
noncomputable def b98 (k:Nat):SM :=
 (Ab (Bb (dop Bm (vr 0) (Zr (.int 28))) (Aw 4))
 (Ab (Bb (dop Bm (dop Br (vr 0) (Zr (.int 28))) (Zr (.int 3))) (Aw 5))
 (Ab (Bb (dop Bm (dop Br (vr 0) (Zr (.int 84))) (Zr (.int 3))) (Aw 6))
 (Ab (Bb (dop Bm (dop Br (vr 0) (Zr (.int 252))) (dop Bu (vr 2) (Zr (.int 1)))) (Aw 7))
 (Ab (ifS (Al (dop ltD (vr 4) (Zr (.int 8))))
 (Ab (Am (Ae (Ad (Gk k) Ac f96) (Aa (vr 4) (Aa (vr 5) (Aa (vr 6) (Aa (vr 7) (Aa (vr 1) (Zr []))))))))
  Zn)
 Zn)
 (Ab (ifS (Al (dop ltD (vr 4) (Zr (.int 17))))
 (Ab (Am (Ae (Ad (Gk k) Ac f97) (Aa (vr 4) (Aa (vr 5) (Aa (vr 6) (Aa (vr 7) (Aa (vr 1) (Aa (vr 3) (Zr [])))))))))
  Zn)
 Zn)
 (Ab (ifS (Al (dop ltD (vr 4) (Zr (.int 22))))
 (Ab (Am (Aq (Aa (Zr (.str "send")) (Aa (vr 5) (Aa (dop Bu (Zr (.int 1)) (dop Bm (vr 1) (Zr (.int 3)))) (Aa (vr 6) (Aa (dop Bm (dop Br (vr 1) (Zr (.int 4))) (Zr (.int 3))) (Zr []))))))))
  Zn)
 Zn)
 (Ab (ifS (Al (dop ltD (vr 4) (Zr (.int 27))))
 (Ab (Am (Aq (Aa (Zr (.str "take")) (Aa (dop ixD (lstM (Aa (Ir (Zr (.int 1))) (Aa (Ir (Zr (.int 1))) (Aa (Zr (.int 0)) (Aa (Zr (.int 1)) (Aa (Zr (.int 2)) (Zr []))))))) (dop Bm (dop Br (vr 1) (Zr (.int 1200))) (Zr (.int 5)))) (Aa (Ae (Ad (Gk k) Ac f95) (Aa (vr 1) (Aa (vr 2) (Zr [])))) (Zr []))))))
  Zn)
 Zn)
 (Ab (Am (Aq (Aa (Zr (.str "bell")) (Zr []))))
 Zn)))))))))
theorem Ac5 (k:Nat):Bq f98 k=b98 k:=by kernel_rfl
noncomputable def b99 (k:Nat):SM :=
 (Ab (Bb (lstM (Zr [])) (Aw 3))
 (Ab (Ge (Hz Jo (Aa (vr 1) (Zr []))) (Aw 4)
 (Ab (Dz (Cz "list" Ci (vr 3) (Aa (Ae (Ad (Gk k) Ac f98) (Aa (Ae (Ad (Gk k) Ac f94) (Aa (vr 0) (Aa (dop Gv (Zr (.int 2)) (vr 4)) (Zr [])))) (Aa (Ae (Ad (Gk k) Ac f94) (Aa (vr 0) (Aa (dop Bu (dop Gv (Zr (.int 2)) (vr 4)) (Zr (.int 1))) (Zr [])))) (Aa (vr 1) (Aa (vr 2) (Zr [])))))) (Zr []))))
  Zn))
 (Ab (Am (Ae En (Aa (vr 3) (Zr []))))
 Zn)))
theorem Ac6 (k:Nat):Bq f99 k=b99 k:=by kernel_rfl
noncomputable def Ac7 (k:Nat):SM :=
 (Ab (Bb (Ae (Ad (Gk k) Ac f93) (Aa (vr 0) (Aa (Zr (.int 0)) (Zr [])))) (Aw 1))
 (Ab (Bb (lstM (Aa (Aq (Aa (Zr (.int 1)) (Aa (Aq (Aa (Zr (.int 0)) (Zr []))) (Zr [])))) (Aa (Aq (Aa (Zr (.int 1)) (Aa (Aq (Aa (Zr (.int 0)) (Aa (Zr (.int 0)) (Zr [])))) (Zr [])))) (Aa (Aq (Aa (Zr (.int 2)) (Aa (Aq (Aa (Zr (.int 0)) (Aa (Zr (.int 1)) (Zr [])))) (Zr [])))) (Aa (Aq (Aa (Zr (.int 2)) (Aa (Aq (Aa (Zr (.int 0)) (Aa (Zr (.int 0)) (Aa (Zr (.int 1)) (Zr []))))) (Zr [])))) (Aa (Aq (Aa (Zr (.int 3)) (Aa (Aq (Aa (Zr (.int 0)) (Aa (Zr (.int 1)) (Aa (Zr (.int 2)) (Zr []))))) (Zr [])))) (Aa (Aq (Aa (Zr (.int 2)) (Aa (Aq (Aa (Zr (.int 1)) (Aa (Zr (.int 1)) (Zr [])))) (Zr [])))) (Aa (Aq (Aa (Zr (.int 1)) (Aa (Aq (Aa (Zr (.int 0)) (Aa (Zr (.int 0)) (Aa (Zr (.int 0)) (Zr []))))) (Zr [])))) (Zr []))))))))) (Aw 2))
 (Ab (Bb (dop Bu (vr 2) (lstM (Aa (Aq (Aa (Zr (.int 2)) (Aa (Aq (Aa (Zr (.int 0)) (Aa (Zr (.int 0)) (Aa (Zr (.int 1)) (Aa (Zr (.int 1)) (Zr [])))))) (Zr [])))) (Aa (Aq (Aa (Zr (.int 4)) (Aa (Aq (Aa (Zr (.int 0)) (Aa (Zr (.int 1)) (Aa (Zr (.int 2)) (Aa (Zr (.int 3)) (Zr [])))))) (Zr [])))) (Aa (Aq (Aa (Zr (.int 2)) (Aa (Aq (Aa (Zr (.int 0)) (Aa (Zr (.int 0)) (Aa (Zr (.int 0)) (Aa (Zr (.int 1)) (Aa (Zr (.int 1)) (Zr []))))))) (Zr [])))) (Zr [])))))) (Aw 2))
 (Ab (Bb (dop Bu (vr 2) (lstM (Aa (Aq (Aa (Zr (.int 3)) (Aa (Aq (Aa (Zr (.int 0)) (Aa (Zr (.int 0)) (Aa (Zr (.int 1)) (Aa (Zr (.int 1)) (Aa (Zr (.int 2)) (Aa (Zr (.int 2)) (Zr [])))))))) (Zr [])))) (Aa (Aq (Aa (Zr (.int 1)) (Aa (dop Gv (Aq (Aa (Zr (.int 0)) (Zr []))) (Zr (.int 6))) (Zr [])))) (Zr []))))) (Aw 2))
 (Ab (Bb (dop ixD (vr 2) (dop Bm (Ae (Ad (Gk k) Ac f94) (Aa (vr 1) (Aa (Zr (.int 0)) (Zr [])))) (Zr (.int 12)))) (Ms [3,4]))
 (Ab (Bb (Df (Hz Jo (Aa (vr 3) (Zr []))) [none,none,some 4] (Aw 1) (Zr true) (Ae Dn (Aa (Df (Dt (vr 2)) [none,none,some 1] (Aw 1) (Al (dop eqD (vr 1) (vr 2))) (vr 1)) (Zr [])))) (Aw 6))
 (Ab (Bb (dop ixD (lstM (Aa (Aq (Aa (Zr (.int 0)) (Aa (Zr (.int 0)) (Zr [])))) (Aa (Aq (Aa (Zr (.int 0)) (Aa (Zr (.int 0)) (Zr [])))) (Aa (Aq (Aa (Zr (.int 1)) (Aa (Zr (.int 0)) (Zr [])))) (Aa (Aq (Aa (Zr (.int 0)) (Aa (Zr (.int 1)) (Zr [])))) (Aa (Aq (Aa (Zr (.int 2)) (Aa (Zr (.int 2)) (Zr [])))) (Aa (Aq (Aa (Zr (.int 5)) (Aa (Zr (.int 4)) (Zr [])))) (Zr [])))))))) (dop Bm (Ae (Ad (Gk k) Ac f94) (Aa (vr 1) (Aa (Zr (.int 1)) (Zr [])))) (Zr (.int 6)))) (Aw 7))
 (Ab (Bb (dop ixD (lstM (Aa (Zr (.int 1)) (Aa (Zr (.int 1)) (Aa (Zr (.int 2)) (Aa (Zr (.int 3)) (Aa (Zr (.int 10)) (Zr []))))))) (dop Bm (Ae (Ad (Gk k) Ac f94) (Aa (vr 1) (Aa (Zr (.int 2)) (Zr [])))) (Zr (.int 5)))) (Aw 8))
 (Ab (Bb (lstM (Zr [])) (Aw 9))
 (Ab (Ge (Hz Jo (Aa (vr 3) (Zr []))) (Aw 5)
 (Ab (Bb (dop Bm (Ae (Ad (Gk k) Ac f94) (Aa (vr 1) (Aa (dop Bu (Zr (.int 3)) (vr 5)) (Zr [])))) (Zr (.int 8))) (Aw 10))
  (Ab (Dz (Cz "list" Ci (vr 9) (Aa (Ae (Ad (Gk k) Ac f99) (Aa (Ae (Ad (Gk k) Ac f93) (Aa (vr 0) (Aa (dop Bu (Zr (.int 1)) (vr 5)) (Zr [])))) (Aa (vr 10) (Aa (vr 6) (Zr []))))) (Zr []))))
  Zn)))
 (Ab (Am (Aq (Aa (vr 8) (Aa (vr 7) (Aa (Ae En (Aa (vr 9) (Zr []))) (Aa (vr 4) (Zr [])))))))
 Zn)))))))))))
theorem vX (k:Nat):Bq lQ k=Ac7 k:=by kernel_rfl
noncomputable def Ac8 (k:Nat):SM :=
 (Ab (Am (dop Bu (dop Bu (dSl (vr 0) none (some (vr 1))) (Aq (Aa (vr 2) (Zr [])))) (dSl (vr 0) (some (dop Bu (vr 1) (Zr (.int 1)))) none)))
 Zn)
theorem vY (k:Nat):Bq Gg k=Ac8 k:=by kernel_rfl
noncomputable def Ac9 (k:Nat):SM :=
 (Ab (Bb (Ae (Ad (Gk k) Ac f40) (Aa (vr 1) (Zr []))) (Aw 2))
 (Ab (Ge (Hz Ww (Aa (Zr (.int 8)) (Aa (Ae Y4 (Aa (Ae Dn (Aa (vr 0) (Zr []))) (Aa (Zr (.int 40)) (Zr [])))) (Zr [])))) (Aw 3)
 (Ab (Bb (Ae (Ad (Gk k) Ac f82) (Aa (vr 1) (Aa (vr 2) (Zr [])))) (Aw 4))
  (Ab (ifS (Al (dop neD (vr 4) (lstM (Zr []))))
  (Ab (Bb (Ae (Ad (Gk k) Ac f85) (Aa (vr 1) (Aa (vr 2) (Aa (dop ixD (vr 4) (dop Bm (Ae (Ad (Gk k) Ac f94) (Aa (dop ixD (vr 0) (vr 3)) (Aa (vr 3) (Zr [])))) (Ae Dn (Aa (vr 4) (Zr []))))) (Zr []))))) (Aw 2))
   Zn)
  Zn)
  Zn)))
 (Ab (Am (vr 2))
 Zn)))
theorem vZ (k:Nat):Bq lR k=Ac9 k:=by kernel_rfl
noncomputable def Ada (k:Nat):SM :=
 (Ab (Bb (Ae Dn (Aa (dop ixD (vr 0) (Zr (.int 3))) (Zr []))) (Aw 2))
 (Ab (Ge (Hz Jo (Aa (vr 2) (Zr []))) (Aw 3)
 (Ab (ifS (Al (dop neD (Ae (Ad (Gk k) Ac f42) (Aa (vr 1) (Aa (vr 3) (Zr [])))) (dop ixD (dop ixD (vr 1) (Zr (.int 0))) (vr 3))))
  (Ab (Am (Zr (.bl false)))
   Zn)
  Zn)
  (Ab (Ge (Hz Jo (Aa (vr 2) (Zr []))) (Aw 4)
  (Ab (ifS (Al (dop neD (Ae (Ad (Gk k) Ac f43) (Aa (vr 1) (Aa (vr 4) (Aa (vr 3) (Zr []))))) (dop ixD (dop ixD (dop ixD (vr 1) (Zr (.int 1))) (vr 3)) (vr 4))))
   (Ab (Am (Zr (.bl false)))
    Zn)
   Zn)
   Zn))
  Zn)))
 (Ab (Am (dop (isD false) (Ae (Ad (Gk k) Ac f46) (Aa (vr 0) (Aa (vr 1) (Zr [])))) (Zr (.bl true))))
 Zn)))
theorem wA (k:Nat):Bq lU k=Ada k:=by kernel_rfl
noncomputable def Adb (k:Nat):SM :=
 (Ab (Bb (Ae Dn (Aa (dop ixD (dop ixD (vr 0) (Zr (.int 2))) (dop ixD (dop ixD (vr 0) (Zr (.int 3))) (vr 1))) (Zr []))) (Aw 4))
 (Ab (Bb (Ae Dn (Aa (dop ixD (vr 0) (Zr (.int 3))) (Zr []))) (Aw 5))
 (Ab (Bb (lstM (Aa (Ae (Ad (Gk k) Ac Gg) (Aa (vr 2) (Aa (Zr (.int 0)) (Aa (dop ixD (lstM (Aa (Ir (Zr (.int 2))) (Aa (dop Bu (vr 4) (Zr (.int 1))) (Aa (Zr (.bl true)) (Aa (Zr .non) (Aa (Zr (.str "0")) (Zr []))))))) (dop Bm (dop Br (vr 3) (Zr (.int 16))) (Zr (.int 5)))) (Zr []))))) (Zr []))) (Aw 6))
 (Ab (Dz (Cz "list" Ci (vr 6) (Aa (Ae (Ad (Gk k) Ac Gg) (Aa (vr 2) (Aa (Zr (.int 1)) (Aa (Ae (Ad (Gk k) Ac Gg) (Aa (dop ixD (vr 2) (Zr (.int 1))) (Aa (dop Bm (dop Br (vr 3) (Zr (.int 16))) (Zr (.int 3))) (Aa (dop ixD (lstM (Aa (Zr .non) (Aa (Zr (.str "1")) (Aa (Zr (.bl true)) (Aa (Aq (Aa (Zr (.int 0)) (Aa (Zr (.int 0)) (Zr [])))) (Zr [])))))) (dop Bm (dop Br (vr 3) (Zr (.int 64))) (Zr (.int 4)))) (Zr []))))) (Zr []))))) (Zr []))))
 (Ab (Dz (Cz "list" Ci (vr 6) (Aa (Ae (Ad (Gk k) Ac Gg) (Aa (vr 2) (Aa (Zr (.int 1)) (Aa (dop ixD (lstM (Aa (dop Bu (dop ixD (vr 2) (Zr (.int 1))) (Aq (Aa (Zr (.int 0)) (Zr [])))) (Aa (dSl (dop ixD (vr 2) (Zr (.int 1))) none (some (Zr (.int 2)))) (Aa (Ae G6 (Aa (dop ixD (vr 2) (Zr (.int 1))) (Zr []))) (Aa (Zr (.int 0)) (Zr [])))))) (dop Bm (dop Br (vr 3) (Zr (.int 16))) (Zr (.int 4)))) (Zr []))))) (Zr []))))
 (Ab (Dz (Cz "list" Ci (vr 6) (Aa (Ae (Ad (Gk k) Ac Gg) (Aa (vr 2) (Aa (Zr (.int 2)) (Aa (Ae (Ad (Gk k) Ac Gg) (Aa (dop ixD (vr 2) (Zr (.int 2))) (Aa (dop Bm (dop Br (vr 3) (Zr (.int 16))) (Zr (.int 3))) (Aa (dop ixD (lstM (Aa (Ir (Zr (.int 2))) (Aa (vr 5) (Aa (Zr (.bl true)) (Aa (Zr .non) (Zr [])))))) (dop Bm (dop Br (vr 3) (Zr (.int 64))) (Zr (.int 4)))) (Zr []))))) (Zr []))))) (Zr []))))
 (Ab (Dz (Cz "list" Ci (vr 6) (Aa (Ae (Ad (Gk k) Ac Gg) (Aa (vr 2) (Aa (Zr (.int 2)) (Aa (dop ixD (lstM (Aa (dop Bu (dop ixD (vr 2) (Zr (.int 2))) (Aq (Aa (Zr (.int 0)) (Zr [])))) (Aa (dSl (dop ixD (vr 2) (Zr (.int 2))) none (some (Zr (.int 2)))) (Aa (Ae G6 (Aa (dop ixD (vr 2) (Zr (.int 2))) (Zr []))) (Zr []))))) (dop Bm (dop Br (vr 3) (Zr (.int 16))) (Zr (.int 3)))) (Zr []))))) (Zr []))))
 (Ab (Dz (Cz "list" Ci (vr 6) (Aa (Ae (Ad (Gk k) Ac Gg) (Aa (vr 2) (Aa (Zr (.int 3)) (Aa (Ae (Ad (Gk k) Ac Gg) (Aa (dop ixD (vr 2) (Zr (.int 3))) (Aa (dop Bm (dop Br (vr 3) (Zr (.int 16))) (Zr (.int 2))) (Aa (dop ixD (lstM (Aa (Ir (Zr (.int 1))) (Aa (dop Vk (Zr (.int 1)) (vr 5)) (Aa (Zr (.bl true)) (Aa (Zr .non) (Zr [])))))) (dop Bm (dop Br (vr 3) (Zr (.int 64))) (Zr (.int 4)))) (Zr []))))) (Zr []))))) (Zr []))))
 (Ab (Dz (Cz "list" Ci (vr 6) (Aa (Ae (Ad (Gk k) Ac Gg) (Aa (vr 2) (Aa (Zr (.int 4)) (Aa (dop ixD (lstM (Aa (Zr (.int 0)) (Aa (Zr (.int 1)) (Aa (Zr .non) (Aa (Zr (.str "")) (Zr [])))))) (dop Bm (dop Br (vr 3) (Zr (.int 16))) (Zr (.int 4)))) (Zr []))))) (Zr []))))
 (Ab (Bb (dop Bu (vr 6) (lstM (Aa (dop Bu (vr 2) (Aq (Aa (Zr (.int 0)) (Zr [])))) (Aa (dSl (vr 2) none (some (Zr (.int 4)))) (Aa (Ae G6 (Aa (vr 2) (Zr []))) (Aa (Zr .non) (Zr []))))))) (Aw 6))
 (Ab (Am (dop ixD (vr 6) (dop Bm (vr 3) (Ae Dn (Aa (vr 6) (Zr []))))))
 Zn)))))))))))
theorem wB (k:Nat):Bq lV k=Adb k:=by kernel_rfl
noncomputable def Adc (k:Nat):SM :=
 (Ab (Bb (Ae Dn (Aa (dop ixD (dop ixD (vr 0) (Zr (.int 2))) (dop ixD (dop ixD (vr 0) (Zr (.int 3))) (vr 1))) (Zr []))) (Aw 4))
 (Ab (Bb (Ae Dn (Aa (dop ixD (vr 0) (Zr (.int 3))) (Zr []))) (Aw 5))
 (Ab (Bb (lstM (Aa (Ae (Ad (Gk k) Ac Gg) (Aa (vr 2) (Aa (Zr (.int 0)) (Aa (dop Kw (dop Bm (dop Br (vr 3) (Zr (.int 16))) (dop Bu (vr 4) (Zr (.int 2)))) (Zr (.int 1))) (Zr []))))) (Aa (Ae (Ad (Gk k) Ac Gg) (Aa (vr 2) (Aa (Zr (.int 1)) (Aa (Aq (Aa (vr 3) (Aa (Ir (vr 3)) (Aa (dop Bu (dop jO (Zr (.int 10)) (Zr (.int 50))) (vr 3)) (Zr []))))) (Zr []))))) (Zr [])))) (Aw 6))
 (Ab (Dz (Cz "list" Ci (vr 6) (Aa (Ae (Ad (Gk k) Ac Gg) (Aa (vr 2) (Aa (Zr (.int 2)) (Aa (Aq (Aa (dop Kw (dop Bm (dop Br (vr 3) (Zr (.int 16))) (dop Bu (vr 5) (Zr (.int 1)))) (Zr (.int 1))) (Aa (Ir (Zr (.int 1))) (Aa (dop Kw (vr 5) (Zr (.int 1))) (Zr []))))) (Zr []))))) (Zr []))))
 (Ab (Dz (Cz "list" Ci (vr 6) (Aa (Ae (Ad (Gk k) Ac Gg) (Aa (vr 2) (Aa (Zr (.int 3)) (Aa (Aq (Aa (dop Bm (dop Br (vr 3) (Zr (.int 16))) (dop Vk (Zr (.int 1)) (vr 5))) (Aa (dop Kw (dop Vk (Zr (.int 1)) (vr 5)) (Zr (.int 1))) (Zr [])))) (Zr []))))) (Zr []))))
 (Ab (Dz (Cz "list" Ci (vr 6) (Aa (Ae (Ad (Gk k) Ac Gg) (Aa (vr 2) (Aa (Zr (.int 4)) (Aa (dop eqD (dop Bm (dop Br (vr 3) (Zr (.int 16))) (Zr (.int 2))) (Zr (.int 0))) (Zr []))))) (Zr []))))
 (Ab (Am (dop ixD (vr 6) (dop Bm (vr 3) (Zr (.int 5)))))
 Zn)))))))
theorem wC (k:Nat):Bq lW k=Adc k:=by kernel_rfl
noncomputable def pF (k:Nat):SM :=
 (Ab (Bb (Ae Dn (Aa (dop ixD (vr 0) (Zr (.int 3))) (Zr []))) (Aw 4))
 (Ab (Bb (dop Bm (dop Br (vr 2) (Zr (.int 8))) (vr 4)) (Aw 5))
 (Ab (Bb (dop Bm (dop Br (vr 2) (Zr (.int 32))) (vr 4)) (Aw 6))
 (Ab (Bb (Ae En (Aa (dop Gv (lstM (Aa (Aq (Aa (dop Bu (Zr (.int 1)) (dop Bm (dop Br (vr 2) (Zr (.int 128))) (Zr (.int 12)))) (Aa (vr 2) (Aa (dop Kw (dop Bm (dop Br (vr 2) (Zr (.int 256))) (dop Bu (vr 4) (Zr (.int 1)))) (Zr (.int 1))) (Zr []))))) (Zr []))) (dop Bm (dop Br (vr 2) (Zr (.int 8))) (dop Bu (dop ixD (vr 0) (Zr (.int 0))) (Zr (.int 1))))) (Zr []))) (Aw 7))
 (Ab (ifS (Dk (Dy (vr 3)))
 (Ab (Bb (lstM (Aa (Aq (Aa (Zr (.int 0)) (Aa (Zr (.int 0)) (Aa (Zr (.int 0)) (Zr []))))) (Aa (Aq (Aa (Zr (.int 13)) (Aa (Zr (.int 0)) (Aa (Zr (.int 0)) (Zr []))))) (Aa (Aq (Aa (Zr (.int 1)) (Aa (Zr .non) (Aa (Zr (.int 0)) (Zr []))))) (Aa (Aq (Aa (Zr (.int 1)) (Aa (Zr (.int 0)) (Aa (vr 4) (Zr []))))) (Aa (Aq (Aa (Zr (.int 1)) (Aa (Zr (.int 0)) (Aa (Ir (Zr (.int 2))) (Zr []))))) (Aa (Aq (Aa (Zr (.int 1)) (Aa (Zr (.int 0)) (Zr [])))) (Aa (lstM (Aa (Zr (.int 1)) (Aa (Zr (.int 0)) (Aa (Zr (.int 0)) (Zr []))))) (Aa (Aq (Aa (Zr (.int 1)) (Aa (Zr (.bl true)) (Aa (Zr (.int 0)) (Zr []))))) (Zr [])))))))))) (Aw 8))
  (Ab (Bb (lstM (Aa (Aq (Aa (dop ixD (vr 8) (dop Bm (dop Br (vr 2) (Zr (.int 128))) (Zr (.int 8)))) (Zr []))) (Aa (dop Gv (Aq (Aa (Aq (Aa (Zr (.int 1)) (Aa (Zr (.int 0)) (Aa (Zr (.int 0)) (Zr []))))) (Zr []))) (dop Bu (dop ixD (vr 0) (Zr (.int 0))) (Zr (.int 1)))) (Aa (lstM (Zr [])) (Aa (Zr .non) (Aa (Aq (Aa (Aq (Aa (Zr (.int 1)) (Aa (Zr (.int 0)) (Aa (Zr (.int 0)) (Zr []))))) (Aa (Zr .non) (Zr [])))) (Zr []))))))) (Aw 9))
  (Ab (Bb (dop ixD (vr 9) (dop Bm (dop Br (vr 2) (Zr (.int 1024))) (Zr (.int 5)))) (Aw 7))
  Zn)))
 Zn)
 (Ab (Bb (Ae (Ad (Gk k) Ac Gg) (Aa (dop ixD (vr 1) (Zr (.int 1))) (Aa (vr 5) (Aa (Ae (Ad (Gk k) Ac Gg) (Aa (dop ixD (dop ixD (vr 1) (Zr (.int 1))) (vr 5)) (Aa (vr 6) (Aa (vr 7) (Zr []))))) (Zr []))))) (Aw 10))
 (Ab (ifS (Ht (Dk (Dy (vr 3))) (Al (dop eqD (dop Bm (vr 2) (Zr (.int 4))) (Zr (.int 0)))))
 (Ab (Bb (dop ixD (lstM (Aa (dop Bu (dop ixD (vr 1) (Zr (.int 1))) (Aq (Aa (dop ixD (dop ixD (vr 1) (Zr (.int 1))) (Zr (.int 0))) (Zr [])))) (Aa (dSl (dop ixD (vr 1) (Zr (.int 1))) (some (Zr (.int 1))) none) (Aa (Ae G6 (Aa (dop ixD (vr 1) (Zr (.int 1))) (Zr []))) (Aa (Ae (Ad (Gk k) Ac Gg) (Aa (dop ixD (vr 1) (Zr (.int 1))) (Aa (vr 5) (Aa (Aq (Zr [])) (Zr []))))) (Zr [])))))) (dop Bm (dop Br (vr 2) (Zr (.int 128))) (Zr (.int 4)))) (Aw 10))
  Zn)
 Zn)
 (Ab (Am (Aq (Aa (dop ixD (vr 1) (Zr (.int 0))) (Aa (vr 10) (Aa (dop ixD (vr 1) (Zr (.int 2))) (Zr []))))))
 Zn))))))))
theorem Zq (k:Nat):Bq cQ k=pF k:=by kernel_rfl
noncomputable def pG (k:Nat):SM :=
 (Ab (Bb (dop ixD (dop ixD (vr 0) (Zr (.int 1))) (dop Bm (dop Br (vr 2) (Zr (.int 2))) (Zr (.int 2)))) (Aw 4))
 (Ab (Bb (dop Bm (dop Br (vr 2) (Zr (.int 4))) (dop Bu (vr 4) (Zr (.int 1)))) (Aw 5))
 (Ab (ifS (Dk (Dy (vr 3)))
 (Ab (Bb (dop ixD (lstM (Aa (Ir (Zr (.int 1))) (Aa (dop Bu (vr 4) (Zr (.int 1))) (Aa (Zr (.bl true)) (Aa (Zr .non) (Aa (Zr (.str "0")) (Zr []))))))) (dop Bm (dop Br (vr 2) (Zr (.int 4))) (Zr (.int 5)))) (Aw 5))
  Zn)
 Zn)
 (Ab (Am (Aq (Aa (dop ixD (vr 1) (Zr (.int 0))) (Aa (dop ixD (vr 1) (Zr (.int 1))) (Aa (Ae (Ad (Gk k) Ac Gg) (Aa (dop ixD (vr 1) (Zr (.int 2))) (Aa (dop Bm (dop Br (vr 2) (Zr (.int 2))) (Zr (.int 2))) (Aa (vr 5) (Zr []))))) (Zr []))))))
 Zn))))
theorem Zt (k:Nat):Bq cR k=pG k:=by kernel_rfl
noncomputable def pH (k:Nat):SM :=
 (Ab (Bb (dop Bm (dop Br (vr 2) (Zr (.int 4))) (Ae Dn (Aa (dop ixD (vr 0) (Zr (.int 3))) (Zr [])))) (Aw 4))
 (Ab (ifS (Al (dop eqD (dop Bm (vr 2) (Zr (.int 4))) (Zr (.int 0))))
 (Ab (Am (Ae (Ad (Gk k) Ac cQ) (Aa (vr 0) (Aa (vr 1) (Aa (dop Br (vr 2) (Zr (.int 16))) (Aa (vr 3) (Zr [])))))))
  Zn)
 Zn)
 (Ab (ifS (Al (dop eqD (dop Bm (vr 2) (Zr (.int 4))) (Zr (.int 1))))
 (Ab (Am (Ae (Ad (Gk k) Ac cR) (Aa (vr 0) (Aa (vr 1) (Aa (dop Br (vr 2) (Zr (.int 16))) (Aa (vr 3) (Zr [])))))))
  Zn)
 Zn)
 (Ab (Bb (Ae (Ad (Gk k) Ac lV) (Aa (vr 0) (Aa (vr 4) (Aa (dop ixD (dop ixD (vr 1) (Zr (.int 0))) (vr 4)) (Aa (dop Br (vr 2) (Zr (.int 16))) (Zr [])))))) (Aw 5))
 (Ab (ifS (Dy (vr 3))
 (Ab (Bb (Ae (Ad (Gk k) Ac lW) (Aa (vr 0) (Aa (vr 4) (Aa (dop ixD (dop ixD (vr 1) (Zr (.int 0))) (vr 4)) (Aa (dop Br (vr 2) (Zr (.int 16))) (Zr [])))))) (Aw 5))
  Zn)
 Zn)
 (Ab (Am (Aq (Aa (Ae (Ad (Gk k) Ac Gg) (Aa (dop ixD (vr 1) (Zr (.int 0))) (Aa (vr 4) (Aa (vr 5) (Zr []))))) (Aa (dop ixD (vr 1) (Zr (.int 1))) (Aa (dop ixD (vr 1) (Zr (.int 2))) (Zr []))))))
 Zn))))))
theorem Zu (k:Nat):Bq Xo k=pH k:=by kernel_rfl
noncomputable def Ade (k:Nat):SM :=
 (Ab (Bb (Ae (Ad (Gk k) Ac lQ) (Aa (vr 0) (Zr []))) (Aw 1))
 (Ab (Bb (Aq (Aa (Zr (.int 0)) (Aa (Aq (Aa (Zr (.int 0)) (Aa (Zr (.int 0)) (Aa (Zr (.int 0)) (Zr []))))) (Aa (Aq (Aa (Ir (Zr (.int 1))) (Aa (Ir (Zr (.int 1))) (Aa (Ir (Zr (.int 1))) (Zr []))))) (Aa (Aq (Aa (Zr (.int 0)) (Aa (Zr (.int 0)) (Zr [])))) (Aa (Zr (.bl false)) (Zr []))))))) (Aw 2))
 (Ab (Bb (Ae En (Aa (Df (Dt (dop ixD (vr 1) (Zr (.int 3)))) [none,none] (Aw 1) (Zr true) (Aq (Zr []))) (Zr []))) (Aw 3))
 (Ab (ifS (Al (dop neD (Ae (Ad (Gk k) Ac f40) (Aa (vr 1) (Zr []))) (Aq (Aa (Ae En (Aa (Df (Dt (dop ixD (vr 1) (Zr (.int 3)))) [none,none,some 2] (Aw 1) (Zr true) (vr 2)) (Zr []))) (Aa (Ae En (Aa (Df (Dt (dop ixD (vr 1) (Zr (.int 3)))) [none,none,some 3] (Aw 1) (Zr true) (vr 2)) (Zr []))) (Aa (dop ixD (vr 1) (Zr (.int 1))) (Zr [])))))))
 (Ab (Am (Zr (.bl false)))
  Zn)
 Zn)
 (Ab (Bb (Ae (Ad (Gk k) Ac lR) (Aa (vr 0) (Aa (vr 1) (Zr [])))) (Aw 4))
 (Ab (ifS (Dk (Dy (Ae (Ad (Gk k) Ac lU) (Aa (vr 1) (Aa (vr 4) (Zr []))))))
 (Ab (Am (Zr (.bl false)))
  Zn)
 Zn)
 (Ab (Ge (Hz Ww (Aa (Zr (.int 5)) (Aa (Ae Y4 (Aa (Ae Dn (Aa (vr 0) (Zr []))) (Aa (Zr (.int 63)) (Zr [])))) (Zr [])))) (Aw 5)
 (Ab (Bb (Ae (Ad (Gk k) Ac f94) (Aa (dop ixD (vr 0) (vr 5)) (Aa (vr 5) (Zr [])))) (Aw 6))
  (Ab (ifS (Al (dop (isD true) (Ae (Ad (Gk k) Ac f46) (Aa (vr 1) (Aa (Ae (Ad (Gk k) Ac Xo) (Aa (vr 1) (Aa (vr 4) (Aa (vr 6) (Aa (Zr (.bl true)) (Zr [])))))) (Zr [])))) (Zr (.bl true))))
  (Ab (Am (Zr (.bl false)))
   Zn)
  Zn)
  (Ab (ifS (Al (dop (isD true) (Ae (Ad (Gk k) Ac f46) (Aa (vr 1) (Aa (Ae (Ad (Gk k) Ac Xo) (Aa (vr 1) (Aa (vr 4) (Aa (vr 6) (Aa (Zr (.bl false)) (Zr [])))))) (Zr [])))) (Zr (.bl false))))
  (Ab (Am (Zr (.bl false)))
   Zn)
  Zn)
  Zn))))
 (Ab (Bb (vr 4) (Ms [7,8,9]))
 (Ab (Bb (lstM (Aa (dop Bu (vr 4) (Aq (Aa (Zr (.int 0)) (Zr [])))) (Aa (dSl (vr 4) none (some (Zr (.int 2)))) (Aa (Ae G6 (Aa (vr 4) (Zr []))) (Aa (Zr .non) (Aa (Aq (Zr [])) (Aa (dop ixD (vr 4) (Zr (.int 0))) (Aa (Aq (Aa (dSl (vr 7) (some (Zr (.int 1))) none) (Aa (vr 8) (Aa (vr 9) (Zr []))))) (Zr []))))))))) (Aw 10))
 (Ab (Bb (dop Bu (vr 10) (lstM (Aa (Aq (Aa (dop Bu (vr 7) (Aq (Aa (dop ixD (vr 7) (Zr (.int 0))) (Zr [])))) (Aa (vr 8) (Aa (vr 9) (Zr []))))) (Aa (Aq (Aa (Ae G6 (Aa (vr 7) (Zr []))) (Aa (vr 8) (Aa (vr 9) (Zr []))))) (Aa (Aq (Aa (vr 7) (Aa (vr 8) (Aa (dop Bu (vr 9) (Aq (Aa (Zr (.int 0)) (Zr [])))) (Zr []))))) (Zr [])))))) (Aw 10))
 (Ab (Bb (dop Bu (vr 10) (lstM (Aa (Aq (Aa (vr 7) (Aa (vr 8) (Aa (dSl (vr 9) none (some (Zr (.int 1)))) (Zr []))))) (Aa (Aq (Aa (vr 7) (Aa (vr 8) (Aa (Ae G6 (Aa (vr 9) (Zr []))) (Zr []))))) (Aa (Aq (Aa (vr 7) (Aa (vr 8) (Aa (Zr .non) (Zr []))))) (Aa (Aq (Aa (vr 7) (Aa (vr 8) (Aa (Zr (.int 0)) (Zr []))))) (Zr []))))))) (Aw 10))
 (Ab (Ge (Dt (dop Bu (vr 10) (lstM (Aa (Aq (Aa (vr 7) (Aa (Zr .non) (Aa (vr 9) (Zr []))))) (Aa (Aq (Aa (vr 7) (Aa (dop Bu (vr 8) (Aq (Aa (dop ixD (vr 8) (Zr (.int 0))) (Zr [])))) (Aa (vr 9) (Zr []))))) (Aa (Aq (Aa (vr 7) (Aa (dSl (vr 8) (some (Zr (.int 1))) none) (Aa (vr 9) (Zr []))))) (Zr []))))))) (Aw 11)
 (Ab (ifS (Al (dop (isD true) (Ae (Ad (Gk k) Ac f46) (Aa (vr 1) (Aa (vr 11) (Zr [])))) (Zr (.bl false))))
  (Ab (Am (Zr (.bl false)))
   Zn)
  Zn)
  Zn))
 (Ab (Am (Zr (.bl true)))
 Zn)))))))))))))
theorem wF (k:Nat):Bq cT k=Ade k:=by kernel_rfl
local macro_rules | `(tactic| walk_at "s") => `(tactic| first
 | (with_reducible refine Ak ?_) | (with_reducible refine Cw ?_) | (with_reducible refine Gx ?_) | (with_reducible refine vU ?_) | (with_reducible refine Bx ?_) | (with_reducible refine Ax ?_) | (with_reducible refine Af ?_) | (with_reducible refine vR ?_)
 | (with_reducible refine Aj (by with_unfolding_all rfl) ?_) | (with_reducible refine Ag ?_) | (with_reducible refine Av ?_) | (with_reducible refine Ar ?_) | (with_reducible refine Cj ?_) | (with_reducible refine Pq ?_) | (with_reducible refine Pr ?_) | (with_reducible refine kY ?_)
 | (with_reducible refine kZ ?_) | (with_reducible refine Xk ?_) | (with_reducible refine wD_tupRng ?_) | (with_reducible refine wD_lenSet ?_) | (with_reducible refine wD_sortSet ?_) | (with_reducible refine Afk ?_) | (with_reducible refine wD_attr ?_) | (with_reducible refine lM ?_) | (with_reducible refine wD_dicIn ?_) | (with_reducible refine wD_dicIx ?_) | (with_reducible refine Abj ?_) | (with_reducible refine wS_par ?_) | (with_reducible refine Ba ?_) | (with_reducible refine H9 ?_) | (with_reducible refine vP ?_) | (with_reducible refine Kz ?_)
 | (with_reducible refine Nv ?_) | (with_reducible refine Pu ?_) | (with_reducible refine Zc ?_) | (with_reducible refine wD_orV ?_) | (with_reducible refine lA ?_) | (with_reducible refine Vp ?_) | (with_reducible refine Zd ?_) | (with_reducible refine Afi ?_) | (with_reducible refine lB ?_) | (with_reducible refine lC ?_)
 | (with_reducible refine Ey ?_) | (with_reducible refine vQ ?_) | (with_reducible refine lE ?_) | (with_reducible refine Ay ?_) | (with_reducible refine wG_sub ?_) | (with_reducible refine Afn ?_) | (with_reducible refine Abk ?_) | (with_reducible refine Xm ?_) | (with_reducible refine Ed ?_) | (with_reducible refine Nx (by with_unfolding_all rfl) ?_) | (with_reducible refine Tq (by with_unfolding_all rfl) ?_) | (with_reducible refine Abl ?_)
 | (with_reducible refine Abi ?_) | (with_reducible refine lF ?_) | (with_reducible refine Gf ?_) | (with_reducible refine Cr ?_) | (with_reducible refine lG ?_) | (with_reducible refine Tr (by with_unfolding_all rfl) (by with_unfolding_all rfl) ?_))
local macro_rules | `(tactic| walk_at "r") => `(tactic| repeat walk_at "s")
theorem K4 {ds:List D}{q:Prop}(h:ds.length<=1000000) (hq:q):ds.length<=1000000/\q:=⟨h,hq⟩
theorem Afp (i:Int) {j:Int}(h:0 < j):0<=i.fmod j:=Int.fmod_nonneg_of_pos i h
theorem Afq (i:Int) {j:Int}(h:0 < j):i.fmod j < j:=Int.fmod_lt_of_pos i h
theorem Az (i:Int) (n:Nat) (h:0 < n):∃ r:Nat,r < n/\i.fmod (n:Int)=(r:Int):=by
 have l1:=Afp i (j:=(n:Int)) (by omega);have l2:=Afq i (j:=(n:Int)) (by omega);exact ⟨(i.fmod n).toNat,by omega,by omega⟩
theorem Je (h:MH) (ds:List D):Gd (.ref h.length) (h++[.lst ds])=some ds:=by
 show (match (h++[MO.lst ds])[h.length]? with | some (.lst o)=>some o | _=>none)=_;rw [Ai]
theorem Ib {h:MH}{j:Nat}{ds:List D}(e:h[j]?=some (.lst ds)):Gd (.ref j) h=some ds:=by
 show (match h[j]? with | some (.lst o)=>some o | _=>none)=_;rw [e]
theorem Ei (n:Nat):Cd 0 n=(List.range n).map Ah:=List.map_congr_left fun x _=>by show D.int (0+(x:Int))=D.int (x:Int);rw [Int.zero_add]
theorem Ce {n:Nat}{ds:List D}{j:Nat}{mh:MH}{P:D->MH->Prop}(e1:mh[n]?=some (.lst ds)) (hj:j < ds.length) (h:∀ d∈ds,P d mh):wV (ixD (.ref n) (.int j) mh) P:=Py e1 (List.getElem?_eq_getElem hj) (h _ (List.getElem_mem hj))
theorem Vs (k:Nat) (ns:List Int) (i:Nat) (mh:MH) {P:D->MH->Prop}(h:∀ v:Int,P (.int v) mh):wV (Ad (Gk (k+1)) Ac f93 [.rol (ns.map D.int),.int i] mh) P:=by
 refine Ao (Ac0 k) oV.1 oV.2 rfl ?_;show wS (b93 k) [some (.rol (ns.map D.int)),some (.int i)] mh _;unfold b93;walk_at "r"
 refine Bv (by intro z;simp) rfl ?_;walk_at "r"
 refine Cv (fun hk=>?_) fun hk=>?_
 ·walk_at "r"
  rw [decide_eq_true_iff,List.length_map] at hk;have hi:i < ns.length:=by omega
  refine lJ (d:=.int ns[i]) (by rw [List.getElem?_map,List.getElem?_eq_getElem hi];rfl) ?_;exact h _
 ·walk_at "r"
  exact h _
theorem Adf {r:Option (D×MH)}{h:MH}{x:D}(w:wV r fun a h'=>a=x/\h'=h):r=some (x,h):=by
 obtain ⟨a,h',e,rfl,rfl⟩:=w;exact e
theorem Gz {α:Type}{mi:DM Src}{cs:List (Option Nat)}{g:GM}{tc:DM Bool}{e:DM D}{loc:DL.Loc}{mh:MH}{Q:D->MH->Prop}(xs:List α) (F:α->D) (pr:α->Bool) (f:α->D) (hz:xs.length<=1000000)
  (hm:wD mi loc mh fun src h0=>Ext [] mh h0/\∀ h,Ext [] h0 h->src.ok h=true/\src.items h=xs.map F)
  (step:∀ x h {R:D->MH->Prop},x∈xs->Ext [] mh h->(∀ h',Ext [] h h'->R (f x) h')->wG (g (F x) (Qs cs loc) h) fun l1 h1=>h1=h/\wD tc l1 h fun c h2=>c=pr x/\h2=h/\(pr x=true->wD e l1 h R))
  (fin:∀ h,Ext [] mh h->Q (.ref h.length) (h++[.lst ((xs.filter pr).map f)])):wD (Df mi cs g tc e) loc mh Q:=by
 refine vV (Bo hm ?_);rintro src h0 ⟨x0,keep⟩;refine ⟨xs.map F,fun i acc h=>acc=((xs.take i).filter pr).map f/\i<=xs.length/\Ext [] h0 h,by rw [List.length_map];exact hz,⟨rfl,Nat.zero_le _,Ext.refl⟩,fun i acc h q=>keep h q.2.2,?_,?_,?_⟩
 ·rintro i acc h ⟨rfl,hi,_⟩;rw [List.length_map];refine Nat.le_trans (List.length_filter_le _ _) ?_;rw [List.length_take];omega
 ·rintro i d acc h ed ⟨rfl,hi,x⟩;rw [List.getElem?_map] at ed;cases ex:xs[i]? with
  | none=>rw [ex] at ed;cases ed
  | some y =>
   rw [ex] at ed;cases ed;have hl:=(List.getElem?_eq_some_iff.mp ex).1;have et:xs.take (i+1)=xs.take i++[y]:=by rw [List.take_add_one,ex];rfl
   obtain ⟨l1,h1,e1,rfl,c,h2,e2,rfl,rfl,q⟩:=step y h (R:=fun z h3=>((xs.take i).filter pr).map f++[z]=((xs.take (i+1)).filter pr).map f/\i+1<=xs.length/\Ext [] h0 h3\/pr y=false) (List.mem_of_getElem? ex) (x0.trans x) fun h' x'=>by
    cases hp:pr y with
    | false=>exact .inr rfl
    | true=>exact .inl ⟨by rw [et,List.filter_append,List.map_append];simp [hp],hl,x.trans x'⟩
   refine ⟨l1,_,e1,_,_,e2,fun hp=>?_,fun hp=>⟨?_,hl,x⟩⟩
   ·refine Bo (q hp) ?_;rintro z h3 (w | w)
    ·exact w
    ·rw [hp] at w;cases w
   ·rw [et,List.filter_append,List.map_append];simp [hp]
 ·rintro acc h ⟨rfl,hi,x⟩;rw [List.length_map,List.take_length];exact fin h (x0.trans x)
theorem Di {α:Type}{mi:DM Src}{cs:List (Option Nat)}{g:GM}{e:DM D}{loc:DL.Loc}{mh:MH}{Q:D->MH->Prop}(xs:List α) (F:α->D) (f:α->D) (hz:xs.length<=1000000)
  (hm:wD mi loc mh fun src h0=>Ext [] mh h0/\∀ h,Ext [] h0 h->src.ok h=true/\src.items h=xs.map F)
  (step:∀ x h {R:D->MH->Prop},x∈xs->Ext [] mh h->(∀ h',Ext [] h h'->R (f x) h')->wG (g (F x) (Qs cs loc) h) fun l1 h1=>h1=h/\wD e l1 h R)
  (fin:∀ h,Ext [] mh h->Q (.ref h.length) (h++[.lst (xs.map f)])):wD (Df mi cs g (Zr true) e) loc mh Q:=by
 refine Gz xs F (fun _=>true) f hz hm (fun x h R hx ex hR=>?_) fun h ex=>?_
 ·obtain ⟨l1,h1,e1,rfl,q⟩:=step x h hx ex hR;exact ⟨l1,_,e1,rfl,Ag ⟨rfl,rfl,fun _=>q⟩⟩
 ·have:=fin h ex;rw [List.filter_eq_self.mpr (fun _ _=>rfl)];exact this
theorem Eh {ds:List D}{α:Type}{xs:List α}{F:α->D}{mh:MH}(e:ds=xs.map F):Ext [] mh mh/\∀ h,Ext [] mh h->(Src.seq ds).ok h=true/\(Src.seq ds).items h=xs.map F:=⟨Ext.refl,fun _ _=>⟨rfl,e⟩⟩
theorem T3 {n:Nat}{α:Type}{xs:List α}{F:α->D}{mh:MH}(e:mh[n]?=some (.lst (xs.map F))):∀ h,Ext [] mh h->(Src.lref n).ok h=true/\(Src.lref n).items h=xs.map F:=fun h x=>Hv (x.old _ _ (by simp) e)
noncomputable def Th (mh:MH):Nat->D->Prop
 | _,.non=>True
 | _,.bl _=>True
 | _,.int _=>True
 | _,.str x=>PyData.strOk x=true
 | 0,_=>False
 | n+1,.tup ds=>∀ x∈ds,Th mh n x
 | n+1,.ref k=>∃ ds,mh[k]?=some (.lst ds)/\∀ x∈ds,Th mh n x
 | _+1,.rol _=>False
 | _+1,.obj ..=>False
 | _+1,.fn _=>False
theorem Th.ext {mh h:MH}(e:Ext [] mh h):∀ {n:Nat}{d:D},Th mh n d->Th h n d
 | _,.non,_=>by simp only [Th]
 | _,.bl _,_=>by simp only [Th]
 | _,.int _,_=>by simp only [Th]
 | n,.str x,t=>by simp only [Th] at t ⊢;exact t
 | 0,.tup _,t=>by simp only [Th] at t
 | 0,.ref _,t=>by simp only [Th] at t
 | 0,.rol _,t=>by simp only [Th] at t
 | 0,.obj ..,t=>by simp only [Th] at t
 | 0,.fn _,t=>by simp only [Th] at t
 | n+1,.tup ds,t=>by simp only [Th] at t ⊢;exact fun x hx=>(t x hx).ext e
 | n+1,.ref k,t=>by simp only [Th] at t ⊢;obtain ⟨ds,e1,e2⟩:=t;exact ⟨ds,e.old _ _ (by simp) e1,fun x hx=>(e2 x hx).ext e⟩
 | n+1,.rol _,t=>by simp only [Th] at t
 | n+1,.obj ..,t=>by simp only [Th] at t
 | n+1,.fn _,t=>by simp only [Th] at t
theorem Th.up {mh:MH}:∀ {n:Nat}{d:D},Th mh n d->Th mh (n+1) d
 | _,.non,_=>by simp only [Th]
 | _,.bl _,_=>by simp only [Th]
 | _,.int _,_=>by simp only [Th]
 | n,.str x,t=>by simp only [Th] at t ⊢;exact t
 | 0,.tup _,t=>by simp only [Th] at t
 | 0,.ref _,t=>by simp only [Th] at t
 | 0,.rol _,t=>by simp only [Th] at t
 | 0,.obj ..,t=>by simp only [Th] at t
 | 0,.fn _,t=>by simp only [Th] at t
 | n+1,.tup ds,t=>by unfold Th at t ⊢;exact fun x hx=>(t x hx).up
 | n+1,.ref k,t=>by unfold Th at t ⊢;obtain ⟨ds,e1,e2⟩:=t;exact ⟨ds,e1,fun x hx=>(e2 x hx).up⟩
 | n+1,.rol _,t=>by unfold Th at t;exact t.elim
 | n+1,.obj ..,t=>by unfold Th at t;exact t.elim
 | n+1,.fn _,t=>by unfold Th at t;exact t.elim
theorem Th.le {mh:MH}{d:D}{n:Nat}(t:Th mh n d):∀ {m:Nat},n<=m->Th mh m d:=fun {m} h=>by
 induction m with
 | zero =>
  have z:n=0:=by omega
  subst z;exact t
 | succ m ih =>
  by_cases e:n=m+1
  ·subst e;exact t
  ·exact (ih (by omega)).up
theorem Th.items {mh:MH}{n:Nat}{ds:List D}(t:Th mh n (.tup ds)):∃ m,n=m+1/\∀ x∈ds,Th mh m x:=by
 cases n with
 | zero=>unfold Th at t;exact t.elim
 | succ m=>unfold Th at t;exact ⟨m,rfl,t⟩
noncomputable def tag:D->String
 | .non => "NoneType"
 | .bl _ => "bool"
 | .int _ => "int"
 | .str _ => "str"
 | .tup _ => "tuple"
 | _ => "list"
theorem Th.tag {mh:MH}{n:Nat}{d:D}(t:Th mh n d):Wv d mh=some (Lw.tag d):=by
 cases d with
 | ref k =>
  cases n with
  | zero=>unfold Th at t;exact t.elim
  | succ n =>
   unfold Th at t;obtain ⟨ds,e,_⟩:=t
   show (match mh[k]? with | some (.lst _)=>some "list" | _=>none)=_;rw [e];rfl
 | rol _=>cases n <;> (unfold Th at t;exact t.elim)
 | obj _ _ _=>cases n <;> (unfold Th at t;exact t.elim)
 | fn _=>cases n <;> (unfold Th at t;exact t.elim)
 | _=>rfl
noncomputable def isT:D->Bool
 | .tup _=>true
 | _=>false
noncomputable def whB:D->Bool
 | .int _=>true
 | _=>false
noncomputable def Afr:D->Bool
 | .int _=>true
 | .bl _=>true
 | _=>false
noncomputable def blB:D->Bool
 | .bl _=>true
 | _=>false
local macro_rules | `(tactic| walk_at "x4") => `(tactic| repeat (first | walk_at "s" | with_reducible refine K4 (by simp) ?_))
section
variable {mh:MH}{n:Nat}{d:D}{P:D->MH->Prop}
theorem Zv (t:Th mh n d) (h:P (.bl (isT d)) mh):wV (Ov "tuple" d mh) P:=Tr t.tag (b:=isT d) (by cases d <;> rfl) h
theorem wH (t:Th mh n d) (h:P (.bl (Afr d)) mh):wV (Ov "int" d mh) P:=Tr t.tag (b:=Afr d) (by cases d <;> rfl) h
theorem Vt (t:Th mh n d) (h:P (.bl (blB d)) mh):wV (Ov "bool" d mh) P:=Tr t.tag (b:=blB d) (by cases d <;> rfl) h
noncomputable def Ags:D->Bool
 | .non=>true
 | _=>false
theorem pI (h:P (.bl (Ags d)) mh):wV (isD false d .non mh) P:=⟨_,_,rfl,by cases d <;> exact h⟩
noncomputable def btB (l h:Int):D->Bool
 | .int i=>decide (l<=i)&&decide (i<=h)
 | _=>false
theorem Eb (k:Nat) (t:Th mh n d) (h:P (.bl (whB d)) mh):wV (Ad (Gk (k+1)) Ac f22 [d] mh) P:=by
 refine Ao (Abp k) mD.1 mD.2 rfl ?_;show wS (b22 k) [some d] mh _;unfold b22
 walk_at "x4"
 refine wH t ?_;refine ⟨_,rfl,fun e=>?_,fun e=>?_⟩
 ·walk_at "x4"
  refine Vt t ?_
  walk_at "x4"
  cases d <;> first | exact h | cases e
 ·cases d <;> first | exact h | cases e
theorem Ek (k:Nat) (l u:Int) (t:Th mh n d) (h:P (.bl (btB l u d)) mh):wV (Ad (Gk (k+2)) Ac f23 [d,.int l,.int u] mh) P:=by
 refine Ao (Abq (k+1)) mF.1 mF.2 rfl ?_;show wS (b23 (k+1)) [some d,some (.int l),some (.int u)] mh _;unfold b23
 walk_at "x4"
 refine Eb k t ?_;refine ⟨_,rfl,fun e=>?_,fun e=>?_⟩
 ·cases d with
  | int i =>
   walk_at "x4"
   refine Cv (fun e=>?_) fun e=>?_
   ·walk_at "x4"
    have h:P (.bl (decide (l<=i)&&decide (i<=u))) mh:=h;rw [e,Bool.true_and] at h;exact h
   ·have h:P (.bl (decide (l<=i)&&decide (i<=u))) mh:=h;rw [e,Bool.false_and] at h;exact h
  | _=>cases e
 ·cases d <;> first | exact h | cases e
end
noncomputable def J6 (n:Nat):D->Bool
 | .tup ds=>ds.length==n
 | _=>false
section
variable {mh:MH}{n:Nat}{d:D}{P:D->MH->Prop}
theorem Gh (k m:Nat) (t:Th mh n d) (h:P (.bl (J6 m d)) mh):wV (Ad (Gk (k+1)) Ac f24 [d,.int m] mh) P:=by
 refine Ao (Abr k) mG.1 mG.2 rfl ?_;show wS (b24 k) [some d,some (.int m)] mh _;unfold b24
 walk_at "x4"
 refine Zv t ?_;refine ⟨_,rfl,fun e=>?_,fun e=>?_⟩
 ·cases d with
  | tup ds =>
   walk_at "x4"
   refine Bv (ds:=ds) (by intro z z';cases z') rfl ?_
   walk_at "x4"
   have e:(((ds.length:Nat):Int)==(m:Int))=(ds.length==m):=by
    by_cases z:ds.length=m
    ·rw [z];simp
    ·rw [beq_eq_false_iff_ne.mpr z];exact beq_eq_false_iff_ne.mpr fun q=>z (by omega)
   rw [e];exact h
  | _=>cases e
 ·cases d <;> first | exact h | cases e
noncomputable def J7 (m:Nat) (l u:Int):D->Bool
 | .tup ds=>(ds.length==m)&&ds.all (btB l u)
 | _=>false
theorem Gm {j:Nat}{mh:MH}{bs:List Bool}{P:D->MH->Prop}(e:mh[j]?=some (.lst (bs.map D.bl))) (h:P (.bl (bs.all id)) mh):wV (S5 [.ref j] mh) P:=lK (f:=fun bs=>bs.all id) (Ib e) h
theorem Zw (k m:Nat) (l u:Int) (t:Th mh n d) (hz:m<=1000) (h:∀ h',Ext [] mh h'->P (.bl (J7 m l u d)) h'):wV (Ad (Gk (k+3)) Ac f25 [d,.int m,.int l,.int u] mh) P:=by
 refine Ao (Abs (k+2)) mH.1 mH.2 rfl ?_;show wS (b25 (k+2)) [some d,some (.int m),some (.int l),some (.int u)] mh _;unfold b25
 walk_at "x4"
 refine Gh (k+1) m t ?_;refine ⟨_,rfl,fun e=>?_,fun e=>?_⟩
 ·cases d with
  | tup ds =>
   have el:ds.length=m:=eq_of_beq e;obtain ⟨n',rfl,ti⟩:=t.items
   walk_at "x4"
   refine Di ds id (fun x=>.bl (btB l u x)) (by omega) (Ey (Aj (by with_unfolding_all rfl) ⟨_,rfl,Eh (F:=id) (by simp)⟩)) (fun x h1 R hx x1 hR=>?_) fun h1 x1=>?_
   ·refine Ay ⟨rfl,?_⟩
    walk_at "x4"
    exact Ek k l u ((ti x hx).ext x1) (hR _ Ext.refl)
   ·walk_at "x4"
    refine Gm (bs:=ds.map (btB l u)) (by rw [Ai,List.map_map];rfl) ?_;have:=h _ (x1.trans (Ext.more (g:=[.lst (ds.map fun x=>.bl (btB l u x))])));have e2:J7 m l u (.tup ds)=(ds.map (btB l u)).all id:=by
     show ((ds.length==m)&&ds.all (btB l u))=_;rw [el,beq_self_eq_true,Bool.true_and,List.all_map];rfl
    rw [e2] at this;exact this
  | _=>cases e
 ·have e2:J7 m l u d=false:=by
   cases d with
   | tup ds=>show ((ds.length==m)&&_)=false;rw [show (ds.length==m)=false from e];rfl
   | _=>rfl
  have:=h _ Ext.refl;rw [e2] at this;exact this
end
theorem Eo {a:D}{r:List D}{mh:MH}{P:D->MH->Prop}(h:P a mh):wV (ixD (.tup (a::r)) (.int 0) mh) P:=Bf (j:=0) rfl h
theorem Fe {a b:D}{r:List D}{mh:MH}{P:D->MH->Prop}(h:P b mh):wV (ixD (.tup (a::b::r)) (.int 1) mh) P:=Bf (j:=1) rfl h
theorem Ep {a b c:D}{r:List D}{mh:MH}{P:D->MH->Prop}(h:P c mh):wV (ixD (.tup (a::b::c::r)) (.int 2) mh) P:=Bf (j:=2) rfl h
theorem Fw {a b c d:D}{r:List D}{mh:MH}{P:D->MH->Prop}(h:P d mh):wV (ixD (.tup (a::b::c::d::r)) (.int 3) mh) P:=Bf (j:=3) rfl h
theorem Qc {a b c d e:D}{r:List D}{mh:MH}{P:D->MH->Prop}(h:P e mh):wV (ixD (.tup (a::b::c::d::e::r)) (.int 4) mh) P:=Bf (j:=4) rfl h
structure Pg where
 room:Nat
 l0:Nat
 l1:Nat
 roles:List (List D)
 plays:List Nat
noncomputable def Pg.d (p:Pg):D:=.tup [.int p.room,.tup [.int p.l0,.int p.l1],.tup (p.roles.map D.tup),.tup (p.plays.map Ah)]
noncomputable def Pg.H (p:Pg):Nat:=p.plays.length
noncomputable def Pg.len (p:Pg) (r:Nat):Nat:=((p.roles[r]?).getD []).length
structure Pg.ok (p:Pg):Prop where
 h1:1<=p.plays.length
 h6:p.plays.length<=6
 pl:∀ r∈p.plays,r < p.roles.length
 rm:p.room<=10
noncomputable def Ec (H:Nat):D->Bool
 | .tup [k,n,m]=>btB 1 12 k&&(whB n&&btB (-1) ((H:Int) - 1) m)
 | _=>false
noncomputable def Lz (p:Pg):D->Bool
 | .tup ls=>decide (ls.length<=p.room)&&ls.all (Ec p.H)
 | _=>false
noncomputable def Fz (p:Pg):D->Bool
 | .tup ws=>(ws.length==p.H)&&ws.all (Lz p)
 | _=>false
noncomputable def Ft (p:Pg):D->Bool
 | .tup rs=>(rs.length==p.H)&&rs.all (Fz p)
 | _=>false
noncomputable def Qd:D->Bool
 | .tup ds=>(ds.length==3)&&ds.all whB
 | _=>false
noncomputable def Du (H L:Nat):D->Bool
 | .tup [pl,ns,ms,ss,b]=>btB (-1) (L:Int) pl&&(Qd ns&&(J7 3 (-1) ((H:Int) - 1) ms&&(J7 2 0 ((2 ^ H:Nat) - 1) ss&&blB b)))
 | _=>false
noncomputable def Er (p:Pg):D->Bool
 | .tup ps=>(ps.length==p.H)&&(List.zipWith (fun r x=>Du p.H (p.len r) x) p.plays ps).all id
 | _=>false
noncomputable def Il (p:Pg):D->Bool
 | .tup [x,y]=>btB 0 p.l0 x&&btB 0 p.l1 y
 | _=>false
noncomputable def Hq (p:Pg):D->Bool
 | .tup [x,y,z]=>Er p x&&(Ft p y&&Il p z)
 | _=>false
theorem Vu {k i:Nat}{mr:DM (List D)}{loc:DL.Loc}{mh:MH}{P:D->MH->Prop}(el:loc[i]?=some (some (.fn "is_whole"))) (h:wD mr loc mh fun ds h1=>wV (Ad (Gk k) Ac f22 ds h1) P):wD (O8 (Gk (k+1)).cal i mr) loc mh P:=by
 obtain ⟨ds,h1,e1,d,h2,e2,q⟩:=h;refine ⟨d,h2,?_,q⟩;unfold O8;rw [el];show (mr.bnd fun ds=>Zl (Ad (Gk k) Ac f22 ds)) loc mh=_;unfold DM.bnd;rw [e1];exact e2
theorem Afs {d:D}(h:J6 3 d=true):∃ a b c,d=.tup [a,b,c]:=by
 cases d with
 | tup ds =>
  have h:(ds.length==3)=true:=h
  match ds,eq_of_beq h with
  | [a,b,c],_=>exact ⟨a,b,c,rfl⟩
 | _=>cases h
theorem Agt {d:D}(h:J6 2 d=true):∃ a b,d=.tup [a,b]:=by
 cases d with
 | tup ds =>
  have h:(ds.length==2)=true:=h
  match ds,eq_of_beq h with
  | [a,b],_=>exact ⟨a,b,rfl⟩
 | _=>cases h
theorem Agu {d:D}(h:J6 5 d=true):∃ a b c x y,d=.tup [a,b,c,x,y]:=by
 cases d with
 | tup ds =>
  have h:(ds.length==5)=true:=h
  match ds,eq_of_beq h with
  | [a,b,c,x,y],_=>exact ⟨a,b,c,x,y,rfl⟩
 | _=>cases h
theorem Agv {d:D}(h:J6 3 d=false) {H:Nat}:Ec H d=false:=by
 unfold Ec;split
 ·cases h
 ·rfl
theorem Agw {d:D}(h:J6 5 d=false) {H L:Nat}:Du H L d=false:=by
 unfold Du;split
 ·cases h
 ·rfl
theorem Agx {d:D}(h:J6 2 d=false) {p:Pg}:Il p d=false:=by
 unfold Il;split
 ·cases h
 ·rfl
theorem Agy {d:D}(h:J6 3 d=false) {p:Pg}:Hq p d=false:=by
 unfold Hq;split
 ·cases h
 ·rfl
local macro_rules | `(tactic| walk_at "x2") => `(tactic| repeat (first | walk_at "s" | with_reducible refine K4 (by simp) ?_ | with_reducible refine Eo ?_ | with_reducible refine Fe ?_ | with_reducible refine Ep ?_ | with_reducible refine Fw ?_ | with_reducible refine Qc ?_))
section
variable {mh:MH}{n:Nat}{d:D}{P:D->MH->Prop}
theorem Xr (k H:Nat) (t:Th mh n d) (h:P (.bl (Ec H d)) mh):wV (Ad (Gk (k+3)) Ac f53 [d,.int H,.fn "is_whole"] mh) P:=by
 refine Ao (Ab8 (k+2)) nF.1 nF.2 rfl ?_
 show wS (b53 (k+2)) [some d,some (.int H),some (.fn "is_whole")] mh _;unfold b53
 walk_at "x2"
 refine Gh (k+1) 3 t ⟨_,rfl,?_⟩;cases e:J6 3 d with
 | false =>
  rw [Agv e] at h
  walk_at "x2"
  exact h
 | true =>
  obtain ⟨a,b,c,rfl⟩:=Afs e;obtain ⟨n',rfl,ti⟩:=t.items;have h:P (.bl (btB 1 12 a&&(whB b&&btB (-1) ((H:Int) - 1) c))) mh:=h
  walk_at "x2"
  refine Ek k 1 12 (ti a (by simp)) ⟨_,rfl,Cv (fun e1=>?_) fun e1=>?_⟩
  ·rw [e1,Bool.true_and] at h;refine Zc (Vu (by with_unfolding_all rfl) ?_)
   walk_at "x2"
   refine Eb (k+1) (ti b (by simp)) ⟨_,rfl,Cv (fun e2=>?_) fun e2=>?_⟩
   ·rw [e2,Bool.true_and] at h
    walk_at "x2"
    exact Ek k (-1) _ (ti c (by simp)) h
   ·rw [e2,Bool.false_and] at h;exact h
  ·rw [e1,Bool.false_and] at h;exact h
theorem wI (k:Nat) (p:Pg) (po:p.ok) (t:Th mh n d) (h:∀ h',Ext [] mh h'->P (.bl (Lz p d)) h'):wV (Ad (Gk (k+4)) Ac f52 [p.d,d,.fn "is_whole"] mh) P:=by
 refine Ao (Ab7 (k+3)) nD.1 nD.2 rfl ?_
 show wS (b52 (k+3)) [some p.d,some d,some (.fn "is_whole")] mh _;unfold b52 Pg.d;refine Ak (Bx (Pu (Kz (H9 (kZ (Aj (by with_unfolding_all rfl) (Zv t ⟨_,rfl,fun e=>?_,fun e=>?_⟩)))))))
 ·walk_at "x2"
  have e2:Lz p d=false:=by cases d <;> first | rfl | cases e
  rw [e2] at h;exact h _ Ext.refl
 ·cases d with
  | tup ls =>
   obtain ⟨n',rfl,ti⟩:=t.items
   walk_at "x2"
   refine Bv (ds:=ls) (by intro z z';cases z') rfl ?_
   walk_at "x2"
   have h:∀ h',Ext [] mh h'->P (.bl (decide (ls.length<=p.room)&&ls.all (Ec p.H))) h':=h;refine Cv (fun e1=>?_) fun e1=>?_
   ·walk_at "x2"
    have e1:=of_decide_eq_true e1;rw [decide_eq_false (by omega),Bool.false_and] at h;exact h _ Ext.refl
   ·have e1:=of_decide_eq_false e1;rw [decide_eq_true (by omega),Bool.true_and] at h
    walk_at "x2"
    have rm:=po.rm;refine Di ls id (fun x=>.bl (Ec p.H x)) (by omega) (Ey (Aj (by with_unfolding_all rfl) ⟨_,rfl,Eh (F:=id) (by simp)⟩)) (fun x h1 R hx x1 hR=>?_) fun h1 x1=>?_
    ·refine Ay ⟨rfl,?_⟩
     walk_at "x2"
     refine Bv (ds:=p.plays.map Ah) (by intro z z';cases z') rfl ?_
     walk_at "x2"
     rw [List.length_map];exact Xr k p.H ((ti x hx).ext x1) (hR _ Ext.refl)
    ·walk_at "x2"
     refine Gm (bs:=ls.map (Ec p.H)) (by rw [Ai,List.map_map];rfl) ?_;have e2:ls.all (Ec p.H)=(ls.map (Ec p.H)).all id:=by rw [List.all_map];rfl
     rw [e2] at h;exact h _ (x1.trans Ext.more)
  | _=>cases e
end
theorem N6 {h:Nat}{mh:MH}{P:D->MH->Prop}(hh:h<=1000000) (q:P (.int ((2 ^ h:Nat):Int)) mh):wV (Vk (.int 1) (.int h) mh) P:=by
 refine Gy (by rw [decide_eq_true (show (0:Int)<=(h:Int) by omega),decide_eq_true (show (h:Int)<=1000000 by omega)];rfl) ?_;have e:(1:Int) * 2 ^ (h:Int).toNat=((2 ^ h:Nat):Int):=by rw [Int.one_mul,Int.toNat_natCast];push_cast;rfl
 rw [e];exact q
theorem pJ {s t:List D}{α:Type}{xs:List α}{F:α->D}{mh:MH}(e:List.zipWith (fun a b=>D.tup [a,b]) s t=xs.map F):Ext [] mh mh/\∀ h,Ext [] mh h->(Src.zip (.seq s) (.seq t)).ok h=true/\(Src.zip (.seq s) (.seq t)).items h=xs.map F:=⟨Ext.refl,fun _ _=>⟨rfl,e⟩⟩
section
variable {mh:MH}{n:Nat}{d:D}{P:D->MH->Prop}
theorem Ma (p:Pg) (h:P (.int p.H) mh):wV (Dn [.tup (p.plays.map Ah)] mh) P:=Bv (ds:=p.plays.map Ah) (by intro z z';cases z') rfl (by rw [List.length_map];exact h)
theorem Zx (k:Nat) (p:Pg) (r:Nat) (hr:r < p.roles.length) (h:P (.int (p.len r)) mh):wV (Ad (Gk (k+1)) Ac f34 [p.d,.int r] mh) P:=by
 refine Ao (Abu k) mK.1 mK.2 rfl ?_;show wS (b34 k) [some p.d,some (.int r)] mh _;unfold b34 Pg.d
 walk_at "x2"
 refine Bf (j:=r) (d:=.tup p.roles[r]) (by rw [List.getElem?_map,List.getElem?_eq_getElem hr];rfl) ?_
 walk_at "x2"
 refine Bv (ds:=p.roles[r]) (by intro z z';cases z') rfl ?_;have e:p.len r=p.roles[r].length:=by unfold Pg.len;rw [List.getElem?_eq_getElem hr];rfl
 rw [e] at h;exact h
theorem pK {ds:List D}(e:ds.length=3):Qd (.tup ds)=(ds.map whB).all id:=by
 show ((ds.length==3)&&ds.all whB)=_;rw [e,List.all_map];rfl
theorem pL (k:Nat) (p:Pg) (po:p.ok) (r:Nat) (hr:r < p.roles.length) (t:Th mh n d) (h:∀ h',Ext [] mh h'->P (.bl (Du p.H (p.len r) d)) h'):wV (Ad (Gk (k+4)) Ac f50 [p.d,.int r,d,.fn "is_whole"] mh) P:=by
  have h6:p.H<=6:=po.h6;refine Ao (Ab5 (k+3)) nA.1 nA.2 rfl ?_
  show wS (b50 (k+3)) [some p.d,some (.int r),some d,some (.fn "is_whole"),none] mh _;unfold b50;refine Ak (Cw ?_);unfold Pg.d
  walk_at "x2"
  refine Ma p ?_;refine Ay (Af ?_)
  show wS _ [some p.d,some (.int r),some d,some (.fn "is_whole"),some (.int p.H)] mh _
  walk_at "x2"
  refine Gh (k+2) 5 t ⟨_,rfl,?_⟩;cases e:J6 5 d with
  | false =>
    simp only [Agw e] at h
    walk_at "x2"
    exact h _ Ext.refl
  | true =>
    obtain ⟨a,ns,ms,ss,b,rfl⟩:=Agu e;obtain ⟨n',rfl,ti⟩:=t.items;have h:∀ h',Ext [] mh h'->P (.bl (btB (-1) (p.len r:Int) a&&(Qd ns&&(J7 3 (-1) ((p.H:Int) - 1) ms&&(J7 2 0 ((2 ^ p.H:Nat) - 1) ss&&blB b))))) h':=h
    walk_at "x2"
    refine Zx (k+2) p r hr ?_
    walk_at "x2"
    refine Ek (k+1) (-1) _ (ti a (by simp)) ⟨_,rfl,?_⟩;cases e1:btB (-1) (p.len r:Int) a with
    | false =>
      rw [e1] at h;simp only [Bool.false_and] at h
      walk_at "x2"
      exact h _ Ext.refl
    | true =>
      rw [e1] at h;simp only [Bool.true_and] at h
      have rest:∀ m1,Ext [] mh m1->(∀ h',Ext [] mh h'->P (.bl (J7 3 (-1) ((p.H:Int) - 1) ms&&(J7 2 0 ((2 ^ p.H:Nat) - 1) ss&&blB b))) h')->wS (Ab (ifS (Dk (Dy (Ae (Ad (Gk (k+3)) Ac f25) (Aa (dop ixD (vr 2) (Zr (.int (2)))) (Aa (Zr (.int 3)) (Aa (Zr (.int (-1))) (Aa (dop Kw (vr 4) (Zr (.int 1))) (Zr []))))))))
         (Ab (Am (Zr (.bl false)))
          Zn)
         Zn)
         (Ab (Am (Dw (Ae (Ad (Gk (k+3)) Ac f25) (Aa (dop ixD (vr 2) (Zr (.int (3)))) (Aa (Zr (.int 2)) (Aa (Zr (.int 0)) (Aa (dop Kw (dop Vk (Zr (.int 1)) (vr 4)) (Zr (.int 1))) (Zr [])))))) (Tf "bool" (dop ixD (vr 2) (Zr (.int (4)))))))
         Zn)) [some p.d,some (.int r),some (.tup [a,ns,ms,ss,b]),some (.fn "is_whole"),some (.int p.H)] m1 (Px P):=fun m1 x1 h=>by
        walk_at "x2"
        refine Zw k 3 (-1) _ ((ti ms (by simp)).ext x1) (by decide) fun m2 x2=>⟨_,rfl,?_⟩
        cases e3:J7 3 (-1) ((p.H:Int) - 1) ms with
        | false =>
          rw [e3] at h;simp only [Bool.false_and] at h
          walk_at "x2"
          exact h _ (x1.trans x2)
        | true =>
          rw [e3] at h;simp only [Bool.true_and] at h
          walk_at "x2"
          refine N6 (by omega) ?_
          walk_at "x2"
          refine Zw k 2 0 _ ((ti ss (by simp)).ext (x1.trans x2)) (by decide) fun m3 x3=>⟨_,rfl,Cv (fun e4=>?_) fun e4=>?_⟩
          · rw [e4] at h;simp only [Bool.true_and] at h
            walk_at "x2"
            exact Vt ((ti b (by simp)).ext ((x1.trans x2).trans x3)) (h _ ((x1.trans x2).trans x3))
          · rw [e4] at h;simp only [Bool.false_and] at h;exact h _ ((x1.trans x2).trans x3)
      walk_at "x2"
      refine Gh (k+2) 3 (ti ns (by simp)) ⟨_,rfl,?_⟩;cases e2:J6 3 ns with
      | false =>
        have e3:Qd ns=false:=by
          cases ns with
          | tup ds=>show ((ds.length==3)&&_)=false;rw [show (ds.length==3)=false from e2];rfl
          | _=>rfl
        rw [e3] at h;simp only [Bool.false_and] at h
        walk_at "x2"
        exact h _ Ext.refl
      | true =>
        cases ns with
        | tup ds =>
          have el:ds.length=3:=eq_of_beq e2;obtain ⟨m',rfl,tn⟩:=(ti (.tup ds) (by simp)).items;rw [pK el] at h
          walk_at "x2"
          refine Di ds id (fun x=>.bl (whB x)) (by omega) (Ey (Av (Aj (by with_unfolding_all rfl) (Ag (Fe ⟨_,rfl,Eh (F:=id) (by simp)⟩))))) (fun x h1 R hx x1 hR=>?_) fun h1 x1=>?_
          · refine Ay ⟨rfl,Vu (by with_unfolding_all rfl) ?_⟩
            walk_at "x2"
            exact Eb (k+2) ((tn x hx).ext x1) (hR _ Ext.refl)
          · walk_at "x2"
            refine Gm (bs:=ds.map whB) (by rw [Ai,List.map_map];rfl) ⟨_,rfl,?_⟩;cases e3:(ds.map whB).all id with
            | false =>
              rw [e3] at h;simp only [Bool.false_and] at h
              walk_at "x2"
              exact h _ (x1.trans Ext.more)
            | true =>
              rw [e3] at h;simp only [Bool.true_and] at h;refine Cv (fun e=>by cases e) fun _=>Ax (Af ?_)
              exact rest _ (x1.trans Ext.more) h
        | _=>cases e2
theorem cU (k:Nat) (p:Pg) (po:p.ok) (t:Th mh n d) (h:∀ h',Ext [] mh h'->P (.bl (Er p d)) h'):wV (Ad (Gk (k+5)) Ac f49 [p.d,d,.fn "is_whole"] mh) P:=by
 have h6:p.plays.length<=6:=po.h6;refine Ao (Ab4 (k+4)) mZ.1 mZ.2 rfl ?_
 show wS (b49 (k+4)) [some p.d,some d,some (.fn "is_whole")] mh _;unfold b49;unfold Pg.d
 walk_at "x2"
 refine Ma p ?_
 walk_at "x2"
 refine Gh (k+3) p.H t ⟨_,rfl,?_⟩;cases e:J6 p.H d with
 | false =>
  have e3:Er p d=false:=by
   cases d with
   | tup ds=>show ((ds.length==p.H)&&_)=false;rw [show (ds.length==p.H)=false from e];rfl
   | _=>rfl
  simp only [e3] at h
  walk_at "x2"
  exact h _ Ext.refl
 | true =>
  cases d with
  | tup ds =>
   have el:ds.length=p.plays.length:=eq_of_beq e;obtain ⟨n',rfl,ti⟩:=t.items;have e3:Er p (.tup ds)=((p.plays.zip ds).map fun z=>Du p.H (p.len z.1) z.2).all id:=by
    show ((ds.length==p.H)&&(List.zipWith (fun r x=>Du p.H (p.len r) x) p.plays ds).all id)=_;rw [show (ds.length==p.H)=true from e,Bool.true_and,List.zip,List.map_zipWith]
   rw [e3] at h
   walk_at "x2"
   refine Di (p.plays.zip ds) (fun z=>.tup [Ah z.1,z.2]) (fun z=>.bl (Du p.H (p.len z.1) z.2)) (by rw [List.length_zip];omega) ?_ (fun z h1 R hz x1 hR=>?_) fun h1 x1=>?_
   ·walk_at "x2"
    refine ⟨_,_,_,_,rfl,rfl,rfl,pJ ?_⟩;rw [List.zip,List.map_zipWith,List.zipWith_map_left]
   ·refine Tg rfl ⟨rfl,?_⟩;have m1:=List.of_mem_zip hz
    show wD _ [none,some (Ah z.1),some z.2,some (.fn "is_whole"),some p.d] h1 R
    walk_at "x2"
    exact pL k p po z.1 (po.pl _ m1.1) ((ti z.2 m1.2).ext x1) fun h' x'=>hR _ x'
   ·walk_at "x2"
    refine Gm (bs:=(p.plays.zip ds).map fun z=>Du p.H (p.len z.1) z.2) (by rw [Ai,List.map_map];rfl) ?_;exact h _ (x1.trans Ext.more)
  | _=>cases e
theorem pM (k:Nat) (p:Pg) (t:Th mh n d) (h:P (.bl (Il p d)) mh):wV (Ad (Gk (k+3)) Ac f48 [d,.tup [.int p.l0,.int p.l1]] mh) P:=by
 refine Ao (Ab3 (k+2)) mY.1 mY.2 rfl ?_;show wS (b48 (k+2)) [some d,some (.tup [.int p.l0,.int p.l1])] mh _;unfold b48
 walk_at "x2"
 refine Gh (k+1) 2 t ⟨_,rfl,Cv (fun e=>?_) fun e=>?_⟩
 ·obtain ⟨a,b,rfl⟩:=Agt e;obtain ⟨n',rfl,ti⟩:=t.items;have h:P (.bl (btB 0 p.l0 a&&btB 0 p.l1 b)) mh:=h
  walk_at "x2"
  refine Ek k 0 _ (ti a (by simp)) ⟨_,rfl,Cv (fun e=>?_) fun e=>?_⟩
  ·rw [e,Bool.true_and] at h
   walk_at "x2"
   exact Ek k 0 _ (ti b (by simp)) h
  ·rw [e,Bool.false_and] at h;exact h
 ·rw [Agx e] at h;exact h
theorem pN (k:Nat) (p:Pg) (po:p.ok) (t:Th mh n d) (h:∀ h',Ext [] mh h'->P (.bl (Ft p d)) h'):wV (Ad (Gk (k+5)) Ac f51 [p.d,d,.fn "is_whole"] mh) P:=by
 have h6:p.plays.length<=6:=po.h6;refine Ao (Ab6 (k+4)) nC.1 nC.2 rfl ?_
 show wS (b51 (k+4)) [some p.d,some d,some (.fn "is_whole"),none,none] mh _;unfold b51;refine Ak (Cw ?_);unfold Pg.d
 walk_at "x2"
 refine Ma p ?_;refine Ay (Af ?_)
 show wS _ [some p.d,some d,some (.fn "is_whole"),some (.int p.H),none] mh _
 walk_at "x2"
 refine Gh (k+3) p.H t ⟨_,rfl,?_⟩;cases e:J6 p.H d with
 | false =>
  have e3:Ft p d=false:=by
   cases d with
   | tup ds=>show ((ds.length==p.H)&&_)=false;rw [show (ds.length==p.H)=false from e];rfl
   | _=>rfl
  simp only [e3] at h
  walk_at "x2"
  exact h _ Ext.refl
 | true =>
  cases d with
  | tup rs =>
   have el:rs.length=p.plays.length:=eq_of_beq e;obtain ⟨n',rfl,ti⟩:=t.items;have e3:Ft p (.tup rs)=rs.all (Fz p):=by
    show ((rs.length==p.H)&&rs.all (Fz p))=_;rw [show (rs.length==p.H)=true from e,Bool.true_and]
   rw [e3] at h
   refine Cv (fun e=>by cases e) fun _=>Ax (Af (Ak (Ez (Ey (Aj (by with_unfolding_all rfl) ⟨_,rfl,rs,fun i l h'=>Ext [] mh h'/\(∃ x4,l=[some p.d,some (.tup rs),some (.fn "is_whole"),some (.int p.H),x4])/\(rs.take i).all (Fz p)=true,⟨Ext.refl,⟨none,rfl⟩,rfl⟩,fun _ _ _ _=>⟨rfl,rfl⟩,?_,?_⟩)))))
   ·rintro i w l h' ed ⟨x1,⟨x4,rfl⟩,ha⟩;have hw:=List.mem_of_getElem? ed;refine Ay ?_
    show wS _ [some p.d,some (.tup rs),some (.fn "is_whole"),some (.int p.H),some w] h' _;have no:∀ h'',Ext [] mh h''->Fz p w=false->P (.bl false) h'':=fun h'' x ew=>by
     have:rs.all (Fz p)=false:=by rw [List.all_eq_false];exact ⟨w,hw,by rw [ew];simp⟩
     rw [this] at h;exact h _ x
    have et:(rs.take (i+1)).all (Fz p)=((rs.take i).all (Fz p)&&Fz p w):=by rw [List.take_add_one,ed,List.all_append];simp
    walk_at "x2"
    refine Gh (k+3) p.H ((ti w hw).ext x1) ⟨_,rfl,?_⟩;cases e2:J6 p.H w with
    | false =>
     have e4:Fz p w=false:=by
      cases w with
      | tup ds=>show ((ds.length==p.H)&&_)=false;rw [show (ds.length==p.H)=false from e2];rfl
      | _=>rfl
     walk_at "x2"
     exact no _ x1 e4
    | true =>
     cases w with
     | tup ws =>
      have el2:ws.length=p.plays.length:=eq_of_beq e2;obtain ⟨m',rfl,tw⟩:=(ti (.tup ws) hw).items;have e4:Fz p (.tup ws)=(ws.map (Lz p)).all id:=by
       show ((ws.length==p.H)&&ws.all (Lz p))=_;rw [show (ws.length==p.H)=true from e2,Bool.true_and,List.all_map];rfl
      walk_at "x2"
      refine Di ws id (fun x=>.bl (Lz p x)) (by omega) (Ey (Aj (by with_unfolding_all rfl) ⟨_,rfl,Eh (F:=id) (by simp)⟩)) (fun x h1 R hx x2 hR=>?_) fun h1 x2=>?_
      ·refine Ay ⟨rfl,?_⟩
       show wD _ [none,some x,some (.fn "is_whole"),some p.d] h1 R
       walk_at "x2"
       exact wI k p po ((tw x hx).ext (x1.trans x2)) fun h' x'=>hR _ x'
      ·walk_at "x2"
       refine Gm (bs:=ws.map (Lz p)) (by rw [Ai,List.map_map];rfl) ⟨_,rfl,?_⟩;cases e5:(ws.map (Lz p)).all id with
       | false =>
        walk_at "x2"
        exact no _ ((x1.trans x2).trans Ext.more) (e4.trans e5)
       | true =>
        walk_at "x2"
        exact ⟨(x1.trans x2).trans Ext.more,⟨_,rfl⟩,by rw [et,ha,e4,e5];rfl⟩
     | _=>cases e2
   ·rintro l h' ⟨x1,⟨x4,rfl⟩,ha⟩;rw [List.take_length] at ha;rw [ha] at h
    walk_at "x2"
    exact h _ x1
  | _=>cases e
theorem G8 (k:Nat) (p:Pg) (po:p.ok) (t:Th mh n d) (h:∀ h',Ext [] mh h'->P (.bl (Hq p d)) h'):wV (Ad (Gk (k+7)) Ac f46 [p.d,d] mh) P:=by
 refine Ao (Ab1 (k+6)) mW.1 mW.2 rfl ?_;show wS (b46 (k+6)) [some p.d,some d] mh _;unfold b46
 walk_at "x2"
 refine Ao (Ab2 (k+5)) mX.1 mX.2 rfl ?_
 show wS (b47 (k+5)) [some p.d,some d,some (.fn "is_whole")] mh _;unfold b47
 walk_at "x2"
 refine Gh (k+4) 3 t ⟨_,rfl,?_⟩;cases e:J6 3 d with
 | false =>
  simp only [Agy e] at h
  walk_at "x2"
  exact h _ Ext.refl
 | true =>
  obtain ⟨a,b,c,rfl⟩:=Afs e;obtain ⟨n',rfl,ti⟩:=t.items;have h:∀ h',Ext [] mh h'->P (.bl (Er p a&&(Ft p b&&Il p c))) h':=h
  walk_at "x2"
  refine cU k p po (ti a (by simp)) fun h1 x1=>⟨_,rfl,?_⟩
  cases e1:Er p a with
  | false =>
   rw [e1] at h;simp only [Bool.false_and] at h
   walk_at "x2"
   exact h _ x1
  | true =>
   rw [e1] at h;simp only [Bool.true_and] at h
   walk_at "x2"
   refine pN k p po ((ti b (by simp)).ext x1) fun h2 x2=>⟨_,rfl,?_⟩
   cases e2:Ft p b with
   | false =>
    rw [e2] at h;simp only [Bool.false_and] at h
    walk_at "x2"
    exact h _ (x1.trans x2)
   | true =>
    rw [e2] at h;simp only [Bool.true_and] at h;unfold Pg.d
    walk_at "x2"
    exact pM (k+2) p ((ti c (by simp)).ext (x1.trans x2)) (h _ (x1.trans x2))
end
theorem Ie {ds:List D}{i:Nat}(hi:i < ds.length) {mh:MH}{P:D->MH->Prop}(h:P (.tup (ds.take i)) mh):wV (slD (.tup ds) none (some (i:Int)) mh) P:=by
 refine ⟨_,_,?_,h⟩;have e2:HT.sIx ds.length ds.length (some (i:Int))=i:=by rw [HT.sIx_nat];omega
 show (if HT.sIx ds.length 0 none=0/\HT.sIx ds.length ds.length (some (i:Int))=ds.length then some (D.tup ds,mh) else some (D.tup (DL.cutD ds none (some (i:Int))),mh))=_;rw [e2,if_neg (by omega)];unfold DL.cutD;rw [e2];simp [HT.sIx_none]
theorem Ig {ds:List D}{i:Nat}(hi:i<=ds.length) {mh:MH}{P:D->MH->Prop}(h:P (.tup (ds.drop i)) mh):wV (slD (.tup ds) (some (i:Int)) none mh) P:=by
 have e1:HT.sIx ds.length 0 (some (i:Int))=i:=by rw [HT.sIx_nat];omega
 have e2:HT.sIx ds.length ds.length none=ds.length:=rfl
 by_cases h0:i=0
 ·subst h0;refine ⟨.tup ds,mh,?_,by simpa using h⟩;show (if HT.sIx ds.length 0 (some ((0:Nat):Int))=0/\HT.sIx ds.length ds.length none=ds.length then some (D.tup ds,mh) else _)=_;rw [e1,e2,if_pos ⟨rfl,rfl⟩]
 ·refine ⟨_,_,?_,h⟩;show (if HT.sIx ds.length 0 (some (i:Int))=0/\HT.sIx ds.length ds.length none=ds.length then some (D.tup ds,mh) else some (D.tup (DL.cutD ds (some (i:Int)) none),mh))=_;rw [e1,e2,if_neg (by omega)];unfold DL.cutD;rw [e1,e2,List.take_of_length_le (by rw [List.length_drop];omega)]
theorem Es (k:Nat) {ds:List D}{i:Nat}{x:D}(hi:i < ds.length) (hz:ds.length<=1000) {mh:MH}{P:D->MH->Prop}(h:P (.tup (ds.set i x)) mh):wV (Ad (Gk (k+1)) Ac f11 [.tup ds,.int i,x] mh) P:=by
 refine Ao (Abo k) mC.1 mC.2 rfl ?_;show wS (b11 k) [some (.tup ds),some (.int i),some x] mh _;unfold b11
 walk_at "x2"
 refine Ie hi ?_
 walk_at "x2"
 refine Dr (by rw [List.length_take,List.length_singleton];omega) ?_
 walk_at "x2"
 rw [show (i:Int)+1=((i+1:Nat):Int) by omega];refine Ig (by omega) ?_;refine Dr (by rw [List.length_append,List.length_take,List.length_singleton,List.length_drop];omega) ?_;rw [List.set_eq_take_append_cons_drop,if_pos hi] at h
 walk_at "x2"
 rw [List.append_assoc];exact h
structure Pt where
 pl:Int
 n0:Int
 n1:Int
 n2:Int
 m0:Int
 m1:Int
 m2:Int
 s0:Nat
 s1:Nat
 bell:Bool
noncomputable abbrev Lt:=Int×Int×Int
noncomputable def Pt.d (p:Pt):D:=.tup [.int p.pl,.tup [.int p.n0,.int p.n1,.int p.n2],.tup [.int p.m0,.int p.m1,.int p.m2],.tup [.int p.s0,.int p.s1],.bl p.bell]
noncomputable def ltD (l:Lt):D:=.tup [.int l.1,.int l.2.1,.int l.2.2]
noncomputable def lsD (l:List Lt):D:=.tup (l.map ltD)
noncomputable def Eg (w:List (List Lt)):D:=.tup (w.map lsD)
structure Wd where
 ps:List Pt
 rs:List (List (List Lt))
 x:Nat
 y:Nat
noncomputable def Wd.d (w:Wd):D:=.tup [.tup (w.ps.map Pt.d),.tup (w.rs.map Eg),.tup [.int w.x,.int w.y]]
structure Pt.ok (H L:Nat) (p:Pt):Prop where
 pl1:-1<=p.pl
 pl2:p.pl<=L
 a0:-1<=p.m0/\p.m0<=(H:Int) - 1
 a1:-1<=p.m1/\p.m1<=(H:Int) - 1
 a2:-1<=p.m2/\p.m2<=(H:Int) - 1
 b0:p.s0 < 2 ^ H
 b1:p.s1 < 2 ^ H
noncomputable def Aft (H:Nat) (l:Lt):Prop:=(1<=l.1/\l.1<=12)/\-1<=l.2.2/\l.2.2<=(H:Int) - 1
noncomputable def Zy (p:Pg) (l:List Lt):Prop:=l.length<=p.room/\∀ z∈l,Aft p.H z
noncomputable def Zz (p:Pg) (w:List (List Lt)):Prop:=w.length=p.H/\∀ l∈w,Zy p l
structure Wd.ok (p:Pg) (w:Wd):Prop where
 lp:w.ps.length=p.plays.length
 ps:∀ (i r:Nat) (q:Pt),p.plays[i]?=some r->w.ps[i]?=some q->q.ok p.H (p.len r)
 lr:w.rs.length=p.plays.length
 rs:∀ v∈w.rs,Zz p v
 xx:w.x<=p.l0
 yy:w.y<=p.l1
theorem Qy {l u i:Int}(h1:l<=i) (h2:i<=u):btB l u (.int i)=true:=by show (decide (l<=i)&&decide (i<=u))=true;rw [decide_eq_true h1,decide_eq_true h2];rfl
theorem wJ {H L:Nat}{q:Pt}(h:q.ok H L):Du H L q.d=true:=by
 have p1:1<=2 ^ H:=Nat.one_le_two_pow;have h0:=h.b0;have h1:=h.b1;show (btB (-1) (L:Int) (.int q.pl)&&(true&&((true&&(btB _ _ _&&(btB _ _ _&&(btB _ _ _&&true))))&&((true&&(btB _ _ _&&(btB _ _ _&&true)))&&true))))=true;rw [Qy h.pl1 h.pl2,Qy h.a0.1 h.a0.2,Qy h.a1.1 h.a1.2,Qy h.a2.1 h.a2.2,Qy (by omega) (by omega),Qy (by omega) (by omega)];rfl
theorem wK {H:Nat}{l:Lt}(h:Aft H l):Ec H (ltD l)=true:=by
 show (btB 1 12 (.int l.1)&&(true&&btB (-1) ((H:Int) - 1) (.int l.2.2)))=true;rw [Qy h.1.1 h.1.2,Qy h.2.1 h.2.2];rfl
theorem pO {p:Pg}{l:List Lt}(h:Zy p l):Lz p (lsD l)=true:=by
 show (decide ((l.map ltD).length<=p.room)&&(l.map ltD).all (Ec p.H))=true;rw [List.length_map,decide_eq_true h.1,Bool.true_and,List.all_map,List.all_eq_true];exact fun z hz=>wK (h.2 z hz)
theorem pP {p:Pg}{w:List (List Lt)}(h:Zz p w):Fz p (Eg w)=true:=by
 show (((w.map lsD).length==p.H)&&(w.map lsD).all (Lz p))=true;rw [List.length_map,h.1,beq_self_eq_true,Bool.true_and,List.all_map,List.all_eq_true];exact fun z hz=>pO (h.2 z hz)
theorem cV {p:Pg}{rs:List (List (List Lt))}(hl:rs.length=p.plays.length) (h:∀ v∈rs,Zz p v):Ft p (.tup (rs.map Eg))=true:=by
 show (((rs.map Eg).length==p.H)&&(rs.map Eg).all (Fz p))=true;rw [List.length_map,show rs.length=p.H from hl,beq_self_eq_true,Bool.true_and,List.all_map,List.all_eq_true];exact fun z hz=>pP (h z hz)
theorem pQ {p:Pg}{rs:List Nat}{ps:List Pt}(h:∀ (i:Nat) (r:Nat) (q:Pt),rs[i]?=some r->ps[i]?=some q->q.ok p.H (p.len r)):(List.zipWith (fun r x=>Du p.H (p.len r) x) rs (ps.map Pt.d)).all id=true:=by
 rw [List.all_eq_true];intro b hb;obtain ⟨i,e⟩:=List.mem_iff_getElem?.mp hb;rw [List.getElem?_zipWith,List.getElem?_map] at e;cases er:rs[i]? with
 | none=>rw [er] at e;cases e
 | some r =>
  cases ep:ps[i]? with
  | none=>rw [er,ep] at e;cases e
  | some q =>
   rw [er,ep] at e;have e:some (Du p.H (p.len r) q.d)=some b:=e;rw [wJ (h i r q er ep)] at e;cases e;rfl
theorem Xu {p:Pg}{ps:List Pt}(hl:ps.length=p.plays.length) (h:∀ (i:Nat) (r:Nat) (q:Pt),p.plays[i]?=some r->ps[i]?=some q->q.ok p.H (p.len r)):Er p (.tup (ps.map Pt.d))=true:=by
 show (((ps.map Pt.d).length==p.H)&&(List.zipWith (fun r x=>Du p.H (p.len r) x) p.plays (ps.map Pt.d)).all id)=true;rw [List.length_map,show ps.length=p.H from hl,beq_self_eq_true,pQ h];rfl
theorem cW {p:Pg}{x y:Nat}(hx:x<=p.l0) (hy:y<=p.l1):Il p (.tup [.int x,.int y])=true:=by
 show (btB 0 p.l0 (.int x)&&btB 0 p.l1 (.int y))=true;rw [Qy (by omega) (by omega),Qy (by omega) (by omega)];rfl
theorem Z0 {p:Pg}{w:Wd}(h:w.ok p):Hq p w.d=true:=by
 show (Er p (.tup (w.ps.map Pt.d))&&(Ft p (.tup (w.rs.map Eg))&&Il p (.tup [.int w.x,.int w.y])))=true;rw [Xu h.lp h.ps,cV h.lr h.rs,cW h.xx h.yy];rfl
noncomputable def p0:Pt:=⟨0,0,0,0,0,0,0,0,0,false⟩
noncomputable def Wd.pt (w:Wd) (h:Nat):Pt:=(w.ps[h]?).getD p0
noncomputable def Wd.cell (w:Wd) (s t:Nat):List Lt:=(((w.rs[t]?).getD [])[s]?).getD []
theorem Wd.pt_at {w:Wd}{h:Nat}(hh:h < w.ps.length):w.ps[h]?=some (w.pt h):=by unfold Wd.pt;rw [List.getElem?_eq_getElem hh];rfl
section
variable {mh:MH}{P:D->MH->Prop}{p:Pg}{w:Wd}
theorem Fx (k h:Nat) (hh:h < w.ps.length) (q:P (w.pt h).d mh):wV (Ad (Gk (k+1)) Ac f42 [w.d,.int h] mh) P:=by
 refine Ao (Abx k) mQ.1 mQ.2 rfl ?_;show wS (b42 k) [some w.d,some (.int h)] mh _;unfold b42 Wd.d
 walk_at "x2"
 refine Bf (j:=h) (d:=(w.pt h).d) (by rw [List.getElem?_map,Wd.pt_at hh];rfl) ?_;exact q
theorem Jf (wo:w.ok p) {s t:Nat}(hs:s < p.plays.length) (ht:t < p.plays.length):∃ v,w.rs[t]?=some v/\v[s]?=some (w.cell s t)/\Zz p v:=by
 have lt:t < w.rs.length:=by rw [wo.lr];exact ht
 have vo:=wo.rs _ (List.getElem_mem lt);have ls:s < (w.rs[t]).length:=by rw [vo.1];exact hs
 refine ⟨w.rs[t],List.getElem?_eq_getElem lt,?_,vo⟩;unfold Wd.cell;rw [List.getElem?_eq_getElem lt];show w.rs[t][s]?=some ((w.rs[t][s]?).getD []);rw [List.getElem?_eq_getElem ls];rfl
theorem Ff (k s t:Nat) (wo:w.ok p) (hs:s < p.plays.length) (ht:t < p.plays.length) (q:P (lsD (w.cell s t)) mh):wV (Ad (Gk (k+1)) Ac f43 [w.d,.int s,.int t] mh) P:=by
 obtain ⟨v,e1,e2,_⟩:=Jf wo hs ht;refine Ao (Aby k) mR.1 mR.2 rfl ?_;show wS (b43 k) [some w.d,some (.int s),some (.int t)] mh _;unfold b43 Wd.d
 walk_at "x2"
 refine Bf (j:=t) (d:=Eg v) (by rw [List.getElem?_map,e1];rfl) ?_
 walk_at "x2"
 refine Bf (j:=s) (d:=lsD (w.cell s t)) (by rw [List.getElem?_map,e2];rfl) ?_;exact q
noncomputable def Wd.setP (w:Wd) (h:Nat) (q:Pt):Wd:={ w with ps:=w.ps.set h q }
noncomputable def Wd.setC (w:Wd) (s t:Nat) (l:List Lt):Wd:={ w with rs:=w.rs.set t (((w.rs[t]?).getD []).set s l) }
theorem Hw (k h:Nat) (po:p.ok) (wo:w.ok p) (hh:h < p.plays.length) (y:Pt) (q:P (w.setP h y).d mh):wV (Ad (Gk (k+2)) Ac f44 [w.d,.int h,y.d] mh) P:=by
 have h6:=po.h6;refine Ao (Abz (k+1)) mU.1 mU.2 rfl ?_;show wS (b44 (k+1)) [some w.d,some (.int h),some y.d] mh _;unfold b44 Wd.d
 walk_at "x2"
 refine Es k (by rw [List.length_map,wo.lp];exact hh) (by rw [List.length_map,wo.lp];omega) ?_
 walk_at "x2"
 refine Es k (i:=0) (by simp) (by simp) ?_;have e:(w.ps.map Pt.d).set h y.d=(w.ps.set h y).map Pt.d:=by rw [List.map_set]
 rw [e];exact q
theorem Mf (k s t:Nat) (po:p.ok) (wo:w.ok p) (hs:s < p.plays.length) (ht:t < p.plays.length) (l:List Lt) (q:P (w.setC s t l).d mh):wV (Ad (Gk (k+2)) Ac f45 [w.d,.int s,.int t,lsD l] mh) P:=by
 have h6:=po.h6;obtain ⟨v,e1,e2,vo⟩:=Jf wo hs ht;have lv:v.length=p.plays.length:=vo.1;refine Ao (Ab0 (k+1)) mV.1 mV.2 rfl ?_;show wS (b45 (k+1)) [some w.d,some (.int s),some (.int t),some (lsD l)] mh _;unfold b45 Wd.d
 walk_at "x2"
 refine Bf (j:=t) (d:=Eg v) (by rw [List.getElem?_map,e1];rfl) ?_
 walk_at "x2"
 unfold Eg;refine Es k (by rw [List.length_map,lv];exact hs) (by rw [List.length_map,lv];omega) ?_
 walk_at "x2"
 refine Es k (by rw [List.length_map,wo.lr];exact ht) (by rw [List.length_map,wo.lr];omega) ?_
 walk_at "x2"
 refine Es k (i:=1) (by simp) (by simp) ?_;have e:(w.rs.map fun w=>D.tup (w.map lsD)).set t (.tup ((v.map lsD).set s (lsD l)))=(w.rs.set t (v.set s l)).map fun w=>D.tup (w.map lsD):=by rw [List.map_set,List.map_set]
 rw [e];have e3:w.setC s t l={ w with rs:=w.rs.set t (v.set s l) }:=by unfold Wd.setC;rw [e1];rfl
 rw [e3] at q;exact q
theorem K5 {h:Nat}{y:Pt}(wo:w.ok p) (hy:∀ r,p.plays[h]?=some r->y.ok p.H (p.len r)):(w.setP h y).ok p:=by
 refine ⟨by show (w.ps.set h y).length=_;rw [List.length_set];exact wo.lp,fun i r q e1 e2=>?_,wo.lr,wo.rs,wo.xx,wo.yy⟩;have e2:(w.ps.set h y)[i]?=some q:=e2
 by_cases e:h=i
 ·subst e;rw [List.getElem?_set] at e2;simp only [if_true] at e2;split at e2
  ·cases e2;exact hy r e1
  ·cases e2
 ·rw [List.getElem?_set_ne e] at e2;exact wo.ps i r q e1 e2
theorem N7 {s t:Nat}{l:List Lt}(wo:w.ok p) (hl:Zy p l):(w.setC s t l).ok p:=by
 refine ⟨wo.lp,wo.ps,by show (w.rs.set t _).length=_;rw [List.length_set];exact wo.lr,fun v hv=>?_,wo.xx,wo.yy⟩;have hv:v∈w.rs.set t (((w.rs[t]?).getD []).set s l):=hv;rcases List.mem_or_eq_of_mem_set hv with hv|rfl
 ·exact wo.rs v hv
 ·cases e:w.rs[t]? with
  | none =>
   rw [e] at hv;rw [List.set_eq_of_length_le (by exact List.getElem?_eq_none_iff.mp e)] at hv;exact wo.rs _ hv
  | some u =>
   have uo:=wo.rs u (List.mem_of_getElem? e);refine ⟨by show (u.set s l).length=_;rw [List.length_set];exact uo.1,fun z hz=>?_⟩;rcases List.mem_or_eq_of_mem_set (show z∈u.set s l from hz) with hz|rfl
   ·exact uo.2 z hz
   ·exact hl
theorem Vv {h:Nat}(wo:w.ok p) (hh:h < p.plays.length):∃ r,p.plays[h]?=some r/\(w.pt h).ok p.H (p.len r):=by
 refine ⟨p.plays[h],List.getElem?_eq_getElem hh,wo.ps h _ _ (List.getElem?_eq_getElem hh) (Wd.pt_at (by rw [wo.lp];exact hh))⟩
end
noncomputable def mem (s:Nat):List Nat:=J5 s (Builtin.Int.intBits (s:Int))
noncomputable def cX (l:List Nat):D:=.tup (l.map Ah)
theorem Adg {s h:Nat}{mh:MH}{P:D->MH->Prop}(q:P (.int ((s:Int) / 2 ^ (h:Int).toNat)) mh):wV (vG (.int s) (.int h) mh) P:=Gy (decide_eq_true (by omega)) q
theorem wL {i j:Int}{mh:MH}{P:D->MH->Prop}(q:P (.int (Builtin.bitAnd i j)) mh):wV (xQ (.int i) (.int j) mh) P:=Gy rfl q
theorem Afu (k s h:Nat) (mh:MH):Ad (Gk (k+1)) Ac f55 [.int s,.int h] mh=some (.bl (s.testBit h),mh):=by
 refine Adf ?_;refine Ao (Ab9 k) nG.1 nG.2 rfl ?_;show wS (b55 k) [some (.int s),some (.int h)] mh _;unfold b55
 walk_at "x2"
 refine Adg ?_
 walk_at "x2"
 refine wL ?_
 walk_at "x2"
 refine ⟨?_,rfl⟩;rw [vN]
theorem M8 (k s:Nat) (hs:s < 2 ^ 20) (mh:MH) {P:D->MH->Prop}(h:∀ h',Ext [] mh h'->P (cX (mem s)) h'):wV (Ad (Gk (k+2)) Ac f56 [.int s] mh) P:=by
 have hb:=bits_le (g:=s) (n:=20) hs;refine Ao (Aca (k+1)) nH.1 nH.2 rfl ?_;show wS (b56 (k+1)) [some (.int s)] mh _;unfold b56
 walk_at "x2"
 refine Gz (List.range (Builtin.Int.intBits (s:Int))) Ah (fun i=>s.testBit i) Ah (by rw [List.length_range];omega) ?_ (fun x h' R hx ex hR=>?_) fun h' ex=>?_
 ·refine lE (Ar (Zd (Aj (by with_unfolding_all rfl) ⟨rfl,?_⟩)))
  walk_at "x2"
  refine Bj (d:=.int (Builtin.Int.intBits (s:Int):Nat)) (h:=mh) rfl ?_
  walk_at "x2"
  exact ⟨_,Gw (by omega),by rw [Ei];exact Eh rfl⟩
 ·refine Ay ⟨rfl,?_⟩
  walk_at "x2"
  refine Bj (Afu k s x h') ?_
  walk_at "x2"
  refine ⟨rfl,rfl,fun _=>?_⟩
  walk_at "x2"
  exact hR h' Ext.refl
 ·walk_at "x2"
  exact Ef (Je _ _) (h _ (ex.trans Ext.more))
theorem Xv {i j:Nat}{mh:MH}{P:D->MH->Prop}(q:P (Ah (i ||| j)) mh):wV (Abf (.int i) (.int j) mh) P:=Gy rfl (by show P (.int (Builtin.bitOr i j)) mh;rw [cP];exact q)
theorem pR {H:Nat}{mh:MH}{P:D->MH->Prop}(hH:H<=20) (h:P (.int ((2 ^ H:Nat):Int)) mh):wV (Vk (.int 1) (.int H) mh) P:=Gy (by
 rw [Bool.and_eq_true,Bool.and_eq_true,decide_eq_true_iff,decide_eq_true_iff,decide_eq_true_iff]
 exact ⟨by omega,by omega,by decide⟩) (by
  show P (.int (1 * 2 ^ (H:Int).toNat)) mh;rw [Int.one_mul,Int.toNat_natCast];have e:((2 ^ H:Nat):Int)=2 ^ H:=by push_cast;rfl
  rw [← e];exact h)
theorem Qe (k n:Nat) (l:List Nat) (mh:MH) (e:mh[n]?=some (.lst (l.map Ah))) (hl:∀ x∈l,x<=20) {P:D->MH->Prop}(h:P (Ah (setOf l)) mh):wV (Ad (Gk (k+1)) Ac f57 [.ref n] mh) P:=by
 refine Ao (pD k) Tz.1 Tz.2 rfl ?_;show wS (b57 k) [some (.ref n),none,none] mh _;unfold b57
 walk_at "x2"
 refine Ez (Ey (Aj rfl ⟨_,src_list e,l.map Ah,fun i loc h'=>h'=mh/\∃ z,loc=[some (.ref n),some (Ah (setOf (l.take i))),z],⟨rfl,none,rfl⟩,?_,?_,?_⟩))
 ·rintro i loc h' ⟨rfl,_⟩;exact Hv e
 ·rintro i d loc h' ed ⟨rfl,z,rfl⟩;rw [List.getElem?_map] at ed;cases ex:l[i]? with
  | none=>rw [ex] at ed;cases ed
  | some y =>
   rw [ex] at ed;cases ed
   walk_at "x2"
   have hy:=hl y (List.mem_of_getElem? ex);refine pR hy ?_
   walk_at "x2"
   refine Xv ?_
   walk_at "x2"
   refine ⟨rfl,some (Ah y),?_⟩;have:setOf (l.take (i+1))=setOf (l.take i) ||| 2 ^ y:=by
    unfold setOf;rw [List.take_add_one,ex,List.foldl_append];rfl
   rw [this];rfl
 ·rintro loc h' ⟨rfl,z,rfl⟩;rw [List.length_map,List.take_length]
  walk_at "x2"
  exact h
theorem Vw (k:Nat) (l:List Nat) (mh:MH) (hl:∀ x∈l,x<=20) {P:D->MH->Prop}(h:P (Ah (setOf l)) mh):wV (Ad (Gk (k+1)) Ac f57 [cX l] mh) P:=by
 refine Ao (pD k) Tz.1 Tz.2 rfl ?_;show wS (b57 k) [some (cX l),none,none] mh _;unfold b57
 walk_at "x2"
 refine Ez (Ey (Aj (by with_unfolding_all rfl) ⟨.seq (l.map Ah),rfl,l.map Ah,fun i loc h'=>h'=mh/\∃ z,loc=[some (cX l),some (Ah (setOf (l.take i))),z],⟨rfl,none,rfl⟩,fun _ _ _ _=>⟨rfl,rfl⟩,?_,?_⟩))
 ·rintro i d loc h' ed ⟨rfl,z,rfl⟩;rw [List.getElem?_map] at ed;cases ex:l[i]? with
  | none=>rw [ex] at ed;cases ed
  | some y =>
   rw [ex] at ed;cases ed
   walk_at "x2"
   have hy:=hl y (List.mem_of_getElem? ex);refine pR hy ?_
   walk_at "x2"
   refine Xv ?_
   walk_at "x2"
   refine ⟨rfl,some (Ah y),?_⟩;have:setOf (l.take (i+1))=setOf (l.take i) ||| 2 ^ y:=by
    unfold setOf;rw [List.take_add_one,ex,List.foldl_append];rfl
   rw [this];rfl
 ·rintro loc h' ⟨rfl,z,rfl⟩;rw [List.length_map,List.take_length]
  walk_at "x2"
  exact h
theorem Vx {l:List Nat}{n:Nat}(h:∀ x∈l,x < n):setOf l < 2 ^ n:=by
 refine Nat.lt_pow_two_of_testBit _ fun i hi=>?_
 rw [Qx,decide_eq_false];exact fun z=>by have:=h i z;omega
noncomputable def plA (p:Pg) (h:Nat):Nat:=(p.plays[h]?).getD 0
noncomputable def hands (p:Pg) (r:Nat):List Nat:=(List.range p.plays.length).filter fun i=>plA p i==r
theorem Vy {p:Pg}{r h:Nat}(m:h∈hands p r):h < p.plays.length:=by
 unfold hands at m;rw [List.mem_filter,List.mem_range] at m;exact m.1
theorem Xw (p:Pg):Ip 0 (p.plays.map Ah)=(List.range p.plays.length).map fun i=>D.tup [Ah i,Ah (plA p i)]:=by
 refine List.ext_getElem? fun i=>?_
 rw [Lk,List.getElem?_map,List.getElem?_map,Nat.zero_add]
 by_cases h:i < p.plays.length
 ·rw [List.getElem?_eq_getElem h,List.getElem?_range h];show some (D.tup [Ah i,Ah p.plays[i]])=some (D.tup [Ah i,Ah (plA p i)]);unfold plA;rw [List.getElem?_eq_getElem h];rfl
 ·rw [List.getElem?_eq_none_iff.mpr (by omega),List.getElem?_eq_none_iff.mpr (by rw [List.length_range];omega)];rfl
theorem Rv (k r:Nat) (p:Pg) (po:p.ok) (mh:MH) {P:D->MH->Prop}(h:∀ h',Ext [] mh h'->P (cX (hands p r)) h'):wV (Ad (Gk (k+1)) Ac f33 [p.d,.int r] mh) P:=by
 have h6:=po.h6;refine Ao (Abt k) mJ.1 mJ.2 rfl ?_;show wS (b33 k) [some p.d,some (.int r)] mh _;unfold b33;refine Ak (Gx (Cj (Ar ?_)));refine Gz (List.range p.plays.length) (fun i=>.tup [Ah i,Ah (plA p i)]) (fun i=>plA p i==r) Ah (by rw [List.length_range];omega) ?_ (fun x h' R hx ex hR=>?_) fun h' ex=>?_
 ·unfold Pg.d
  walk_at "x2"
  refine ⟨_,rfl,Ext.refl,fun _ _=>⟨rfl,?_⟩⟩;exact Xw p
 ·refine Tg rfl ⟨rfl,?_⟩;show wD _ [none,some (Ah x),some (Ah (plA p x)),some (.int r)] h' _
  walk_at "x2"
  have e:(((plA p x:Nat):Int)==(r:Int))=(plA p x==r):=by
   by_cases z:plA p x=r
   ·rw [z];simp
   ·rw [beq_eq_false_iff_ne.mpr z];exact beq_eq_false_iff_ne.mpr fun q=>z (by omega)
  refine ⟨e,rfl,fun _=>?_⟩
  walk_at "x2"
  exact hR _ Ext.refl
 ·walk_at "x2"
  exact Ef (Je _ _) (h _ (ex.trans Ext.more))
noncomputable def oth (p:Pg) (r h:Nat):List Nat:=(hands p r).filter fun i=>!(i==h)
theorem Xx {p:Pg}{r h i:Nat}(m:i∈oth p r h):i < p.plays.length:=by
 unfold oth at m;rw [List.mem_filter] at m;exact Vy m.1
theorem Mg {p:Pg}{r:Nat}:(hands p r).length<=p.plays.length:=by
 unfold hands;exact Nat.le_trans (List.length_filter_le _ _) (by rw [List.length_range];exact Nat.le_refl _)
theorem Z1 (k r h:Nat) (p:Pg) (po:p.ok) (mh:MH) {P:D->MH->Prop}(q:∀ j h',Ext [] mh h'->h'[j]?=some (.lst ((oth p r h).map Ah))->P (.ref j) h'):wV (Ad (Gk (k+2)) Ac f62 [p.d,.int r,.int h] mh) P:=by
 have h6:=po.h6;have hl:=Mg (p:=p) (r:=r);refine Ao (Ace (k+1)) nO.1 nO.2 rfl ?_;show wS (b62 (k+1)) [some p.d,some (.int r),some (.int h)] mh _;unfold b62;refine Ak (Gx ?_);refine Gz (hands p r) Ah (fun i=>!(i==h)) Ah (by omega) ?_ (fun x h' R hx ex hR=>?_) fun h' ex=>?_
 ·walk_at "x2"
  refine Rv k r p po mh fun h1 x1=>?_
  exact ⟨_,rfl,x1,fun _ _=>⟨rfl,rfl⟩⟩
 ·refine Ay ⟨rfl,?_⟩
  walk_at "x2"
  have e:(!(((x:Nat):Int)==(h:Int)))=(!(x==h)):=by
   by_cases z:x=h
   ·rw [z];simp
   ·rw [beq_eq_false_iff_ne.mpr z,beq_eq_false_iff_ne.mpr fun q=>z (by omega)]
  refine ⟨e,rfl,fun _=>?_⟩
  walk_at "x2"
  exact hR _ Ext.refl
 ·walk_at "x2"
  exact q _ _ (ex.trans Ext.more) Ai
theorem J8 {c:Nat}{mh:MH}(hc:c<=1000000) {P:D->MH->Prop}(h:P (.ref mh.length) (mh++[.lst ((List.range c).map Ah)])):wV (Fq (.int c) mh) P:=by
 refine ⟨_,_,?_,h⟩;have hb:-(2 ^ 62)<=(c:Int)/\(c:Int)<=1000000:=by omega
 have e:Cd 0 c=(List.range c).map Ah:=by
  unfold Cd;apply List.map_congr_left;intro a _;simp [Ah]
 simp only [Fq,if_pos hb,Int.toNat_natCast,e]
structure Ln where
 kd:Nat
 a:Nat
 b:Nat
 c:Nat
 q:Nat
noncomputable def lnD (l:Ln):D:=.tup [Ah l.kd,Ah l.a,Ah l.b,Ah l.c,Ah l.q]
inductive Sp where
 | put (a:Nat) (n:Int) | copy (a b:Nat) | raise (a:Nat) (n:Int) | sum (a b:Nat) | choose (a c:Nat) | less (a:Nat) (n:Int) (q:Nat) | before (a b q:Nat) | go (q:Nat)
 | me (a:Nat) | only (a r:Nat) | pick (a r:Nat) | alike (a b q:Nat) | all (g r:Nat) | empty (g:Nat) | join (g a:Nat) | out (a g q:Nat) | many (g c q:Nat)
 | send (a kd b c:Nat) | take (bx:Int) (ls:List Ln) | bell
noncomputable def spD:Sp->D
 | .put a n=>.tup [.str "put",Ah a,.int n]
 | .copy a b=>.tup [.str "copy",Ah a,Ah b]
 | .raise a n=>.tup [.str "raise",Ah a,.int n]
 | .sum a b=>.tup [.str "sum",Ah a,Ah b]
 | .choose a c=>.tup [.str "choose",Ah a,Ah c]
 | .less a n q=>.tup [.str "less",Ah a,.int n,Ah q]
 | .before a b q=>.tup [.str "before",Ah a,Ah b,Ah q]
 | .go q=>.tup [.str "go",Ah q]
 | .me a=>.tup [.str "me",Ah a]
 | .only a r=>.tup [.str "only",Ah a,Ah r]
 | .pick a r=>.tup [.str "pick",Ah a,Ah r]
 | .alike a b q=>.tup [.str "alike",Ah a,Ah b,Ah q]
 | .all g r=>.tup [.str "all",Ah g,Ah r]
 | .empty g=>.tup [.str "empty",Ah g]
 | .join g a=>.tup [.str "join",Ah g,Ah a]
 | .out a g q=>.tup [.str "out",Ah a,Ah g,Ah q]
 | .many g c q=>.tup [.str "many",Ah g,Ah c,Ah q]
 | .send a kd b c=>.tup [.str "send",Ah a,Ah kd,Ah b,Ah c]
 | .take bx ls=>.tup [.str "take",.int bx,.tup (ls.map lnD)]
 | .bell=>.tup [.str "bell"]
structure Ln.ok (L:Nat) (l:Ln):Prop where
 a:l.a < 3
 b:l.b < 3
 c:l.c < 3
 q:l.q<=L
noncomputable def Sp.ok (p:Pg) (L:Nat):Sp->Prop
 | .put a _=>a < 3
 | .copy a b=>a < 3/\b < 3
 | .raise a _=>a < 3
 | .sum a b=>a < 3/\b < 3
 | .choose a c=>a < 3/\c<=1000
 | .less a _ q=>a < 3/\q<=L
 | .before a b q=>(a < 3/\b < 3)/\q<=L
 | .go q=>q<=L
 | .me a=>a < 3
 | .only a r=>a < 3/\hands p r≠[]
 | .pick a _=>a < 3
 | .alike a b q=>(a < 3/\b < 3)/\q<=L
 | .all g _=>g < 2
 | .empty g=>g < 2
 | .join g a=>g < 2/\a < 3
 | .out a g q=>(a < 3/\g < 2)/\q<=L
 | .many g _ q=>g < 2/\q<=L
 | .send a kd b c=>(a < 3/\b < 3/\c < 3)/\1<=kd/\kd<=12
 | .take bx ls=>(bx=-1\/∃ b:Nat,b < 3/\bx=(b:Int))/\ls.length<=1000/\∀ l∈ls,l.ok L
 | .bell=>True
structure Prg (p:Pg) (S:List (List Sp)):Prop where
 po:p.ok
 eq:p.roles=S.map fun l=>l.map spD
 ok:∀ (r:Nat) (l:List Sp),S[r]?=some l->∀ s∈l,s.ok p l.length
 ln:∀ l∈S,l.length<=1000
noncomputable def stA (S:List (List Sp)) (r:Nat) (pl:Int):Option Sp:=if 0<=pl then ((S[r]?).getD [])[pl.toNat]? else none
noncomputable def Pt.nm (q:Pt) (a:Nat):Int:=if a=0 then q.m0 else if a=1 then q.m1 else q.m2
noncomputable def Pt.nu (q:Pt) (a:Nat):Int:=if a=0 then q.n0 else if a=1 then q.n1 else q.n2
noncomputable def Pt.se (q:Pt) (g:Nat):Nat:=if g=0 then q.s0 else q.s1
theorem Pt.nm_ok {H L a:Nat}{q:Pt}(h:q.ok H L):-1<=q.nm a/\q.nm a<=(H:Int) - 1:=by
 unfold Pt.nm;split
 ·exact h.a0
 ·split
  ·exact h.a1
  ·exact h.a2
theorem Pt.se_ok {H L g:Nat}{q:Pt}(h:q.ok H L):q.se g < 2 ^ H:=by
 unfold Pt.se;split
 ·exact h.b0
 ·exact h.b1
local macro_rules | `(tactic| walk_at "x3") => `(tactic| repeat (first | walk_at "s" | with_reducible refine K4 (by simp) ?_ | with_reducible refine Eo ?_ | with_reducible refine Fe ?_ | with_reducible refine Ep ?_ | with_reducible refine Fw ?_ | with_reducible refine Qc ?_ | with_reducible refine Afl (by kernel_rfl) (by kernel_rfl) (by decide +kernel) ?_ | with_reducible refine Afm (by kernel_rfl) (by kernel_rfl) (by decide +kernel) ?_))
section
variable {mh:MH}{P:D->MH->Prop}{p:Pg}{w:Wd}{S:List (List Sp)}
theorem Qf {q:Pt}{a:Nat}(ha:a < 3) (h:P (.int (q.nm a)) mh):wV (ixD (.tup [.int q.m0,.int q.m1,.int q.m2]) (Ah a) mh) P:=by
 match a,ha with
 | 0,_=>exact Bf (j:=0) rfl h
 | 1,_=>exact Bf (j:=1) rfl h
 | 2,_=>exact Bf (j:=2) rfl h
theorem M9 {q:Pt}{a:Nat}(ha:a < 3) (h:P (.int (q.nu a)) mh):wV (ixD (.tup [.int q.n0,.int q.n1,.int q.n2]) (Ah a) mh) P:=by
 match a,ha with
 | 0,_=>exact Bf (j:=0) rfl h
 | 1,_=>exact Bf (j:=1) rfl h
 | 2,_=>exact Bf (j:=2) rfl h
theorem Z2 {q:Pt}{g:Nat}(hg:g < 2) (h:P (.int (q.se g:Nat)) mh):wV (ixD (.tup [.int q.s0,.int q.s1]) (Ah g) mh) P:=by
 match g,hg with
 | 0,_=>exact Bf (j:=0) rfl h
 | 1,_=>exact Bf (j:=1) rfl h
theorem Rw (g:Prg p S):p.roles.length=S.length:=by rw [g.eq,List.length_map]
theorem len_eq (g:Prg p S) (r:Nat):p.len r=((S[r]?).getD []).length:=by
 unfold Pg.len;rw [g.eq,List.getElem?_map];cases S[r]? with
 | none=>rfl
 | some l=>show (l.map spD).length=l.length;rw [List.length_map]
noncomputable def Z3:Option Sp->D
 | none=>.non
 | some s=>.obj "Step" ["form"] [spD s]
theorem Xy (k r:Nat) (pl:Int) (g:Prg p S) (hr:r < p.roles.length) (q:P (Z3 (stA S r pl)) mh):wV (Ad (Gk (k+2)) Ac f35 [p.d,.int r,.int pl] mh) P:=by
 have hr':r < S.length:=by rw [← Rw g];exact hr
 have eS:S[r]?=some S[r]:=List.getElem?_eq_getElem hr';have el:p.len r=S[r].length:=by rw [len_eq g,eS];rfl
 refine Ao (Abv (k+1)) mL.1 mL.2 rfl ?_;show wS (b35 (k+1)) [some p.d,some (.int r),some (.int pl)] mh _;unfold b35;have no:stA S r pl=none->wS (Ab (Am (Zr .non)) Zn) [some p.d,some (.int r),some (.int pl)] mh (Px P):=fun e=>by
  rw [e] at q
  walk_at "x3"
  exact q
 refine Ak (Bx (Ba (Vp ?_)));refine Ag (Aj (by with_unfolding_all rfl) (Gf ⟨_,rfl,fun e0=>?_,fun e0=>⟨_,rfl,fun e=>(by cases e),fun _=>?_⟩⟩))
 ·have e0:=of_decide_eq_true e0
  walk_at "x3"
  refine Zx k p r hr ?_;refine Gf ⟨_,rfl,fun e1=>?_,fun e1=>?_⟩
  ·have e1:=of_decide_eq_true e1;have hl:pl.toNat < S[r].length:=by omega
   have es:stA S r pl=some S[r][pl.toNat]:=by unfold stA;rw [if_pos e0,eS];exact List.getElem?_eq_getElem hl
   rw [es] at q;unfold Pg.d
   walk_at "x3"
   refine Bf (j:=r) (d:=.tup (S[r].map spD)) (by rw [List.getElem?_map,g.eq,List.getElem?_map,eS];rfl) ?_
   walk_at "x3"
   rw [show pl=((pl.toNat:Nat):Int) by omega];refine Bf (j:=pl.toNat) (d:=spD S[r][pl.toNat]) (by rw [List.getElem?_map,List.getElem?_eq_getElem hl];rfl) ?_
   walk_at "x3"
   exact q
  ·have e1:=of_decide_eq_false e1;refine Ax (Af (no ?_));unfold stA;rw [if_pos e0,eS];exact List.getElem?_eq_none_iff.mpr (by show S[r].length<=pl.toNat;omega)
 ·have e0:=of_decide_eq_false e0;refine Ax (Af (no ?_));unfold stA;rw [if_neg e0]
noncomputable def stW (p:Pg) (S:List (List Sp)) (w:Wd) (h:Nat):Option Sp:=stA S (plA p h) (w.pt h).pl
theorem Ju {h:Nat}(hh:h < p.plays.length):p.plays[h]?=some (plA p h):=by unfold plA;rw [List.getElem?_eq_getElem hh];rfl
theorem pU (po:p.ok) {h:Nat}(hh:h < p.plays.length):plA p h < p.roles.length:=po.pl _ (List.mem_of_getElem? (Ju hh))
theorem Nb (k h:Nat) (g:Prg p S) (wo:w.ok p) (hh:h < p.plays.length) (q:P (Z3 (stW p S w h)) mh):wV (Ad (Gk (k+3)) Ac f61 [p.d,w.d,.int h] mh) P:=by
 refine Ao (Acd (k+2)) nM.1 nM.2 rfl ?_;show wS (b61 (k+2)) [some p.d,some w.d,some (.int h)] mh _;unfold b61;refine Ak (Gx (Cj (Ar (Aj (by with_unfolding_all rfl) (Ar ?_)))));refine Av (Av (Aj (by with_unfolding_all rfl) (Ag ?_)));unfold Pg.d
 walk_at "x3"
 refine Bf (j:=h) (d:=Ah (plA p h)) (by rw [List.getElem?_map,Ju hh];rfl) ?_
 walk_at "x3"
 refine Fx (k+1) h (by rw [wo.lp];exact hh) ?_;unfold Pt.d
 walk_at "x3"
 exact Xy k _ _ g (pU g.po hh) q
theorem Ih (k:Nat) (wo:w.ok p) (po:p.ok) (q:∀ j h',Ext [] mh h'->mh.length<=j->h'[j]?=some (.lst ((List.range p.H).map Ah))->P (.ref j) h'):wV (Ad (Gk (k+1)) Ac f41 [w.d] mh) P:=by
 have h6:=po.h6;refine Ao (pC k) Tw.1 Tw.2 rfl ?_;show wS (b41 k) [some w.d] mh _;unfold b41 Wd.d
 walk_at "x3"
 refine Bv (ds:=w.ps.map Pt.d) (by intro z z';cases z') rfl ?_;rw [List.length_map,wo.lp];exact J8 (c:=p.plays.length) (by omega) (q _ _ Ext.more (Nat.le_refl _) Ai)
end
noncomputable def wM (q:Pt):Bool:=q.pl==-1
theorem Ka (k:Nat) (q:Pt) (mh:MH) {P:D->MH->Prop}(h:P (.bl (wM q)) mh):wV (Ad (Gk (k+1)) Ac f10 [q.d] mh) P:=by
 refine Ao (Abn k) lZ.1 lZ.2 rfl ?_;show wS (b10 k) [some q.d] mh _;unfold b10 Pt.d
 walk_at "x3"
 exact h
noncomputable def pW (w:Wd) (to:Int):Bool:=(to==-1) || wM (w.pt to.toNat)
noncomputable def Nj (p:Pg) (w:Wd) (h a:Nat):Bool:=pW w ((w.pt h).nm a) || decide ((w.cell h ((w.pt h).nm a).toNat).length < p.room)
section
variable {mh:MH}{P:D->MH->Prop}{p:Pg}{w:Wd}{S:List (List Sp)}
theorem Qg {to:Int}{H:Nat}(h:-1<=to/\to<=(H:Int) - 1) (hn:¬ to=-1):to=((to.toNat:Nat):Int)/\to.toNat < H:=⟨by omega,by omega⟩
theorem Vz (k h a kd b c:Nat) (g:Prg p S) (wo:w.ok p) (hh:h < p.plays.length) (ha:a < 3) (q:P (.bl (Nj p w h a)) mh):wV (Ad (Gk (k+2)) Ac f65 [p.d,w.d,.int h,spD (.send a kd b c)] mh) P:=by
 obtain ⟨r,er,qo⟩:=Vv wo hh;have nk:=Pt.nm_ok (a:=a) qo;refine Ao (Ach (k+1)) nR.1 nR.2 rfl ?_;show wS (b65 (k+1)) [some p.d,some w.d,some (.int h),some (spD (.send a kd b c)),none] mh _;unfold b65;refine Ak (Cw (Av (Av (Cj (Ar (Aj (by with_unfolding_all rfl) (Ar (Aj (by with_unfolding_all rfl) (Ag (Fx k h (by rw [wo.lp];exact hh) ?_)))))))))) ;unfold Pt.d;dsimp only [spD]
 walk_at "x3"
 refine Qf ha ?_;unfold Nj pW at q;generalize (w.pt h).nm a=to at q nk;refine Ay (Af (Ak (Bx (Pu (Ba (Av (Aj (by with_unfolding_all rfl) (Ag (Cr ⟨_,rfl,fun e=>?_,fun e=>?_⟩)))))))))
 ·rw [e,Bool.true_or,Bool.true_or] at q
  walk_at "x3"
  exact q
 ·rw [e,Bool.false_or] at q;have hn:¬ to=-1:=fun z=>by rw [z] at e;cases e
  obtain ⟨e1,e2⟩:=Qg nk hn;refine H9 (Cj (Ar (Cj (Ar (Aj (by with_unfolding_all rfl) (Ar (Aj (d:=.int to) (by with_unfolding_all rfl) (Ag ?_)))))))) ;rw [e1];refine Fx k to.toNat (by rw [wo.lp];exact e2) ?_
  walk_at "x3"
  refine Ka k _ _ ⟨_,rfl,Cv (fun e3=>?_) fun e3=>?_⟩
  ·rw [e3,Bool.true_or] at q
   walk_at "x3"
   exact q
  ·rw [e3,Bool.false_or] at q;refine Ax (Af ?_)
   walk_at "x3"
   refine Ff k h to.toNat wo hh e2 ?_;unfold lsD
   walk_at "x3"
   refine Bv (ds:=(w.cell h to.toNat).map ltD) (by intro z z';cases z') rfl ?_;unfold Pg.d
   walk_at "x3"
   rw [List.length_map];have e4:decide (((w.cell h to.toNat).length:Int) < (p.room:Int))=decide ((w.cell h to.toNat).length < p.room):=by
    by_cases z:(w.cell h to.toNat).length < p.room
    ·rw [decide_eq_true z,decide_eq_true (by omega)]
    ·rw [decide_eq_false z,decide_eq_false (by omega)]
   rw [e4];exact q
noncomputable def T4 (i:Nat):D:=.tup [Ah i]
noncomputable def T5 (s:Nat):List D:=if s=0 then [.int 0] else (mem s).map T4
theorem wN (k s:Nat) (hs:s < 2 ^ 20) (q:∀ j h',Ext [] mh h'->mh.length<=j->h'[j]?=some (.lst (T5 s))->P (.ref j) h'):wV (Ad (Gk (k+3)) Ac f64 [.int s] mh) P:=by
 refine Ao (Acg (k+2)) nQ.1 nQ.2 rfl ?_;show wS (b64 (k+2)) [some (.int s)] mh _;unfold b64 ;unfold T5 at q;refine Ak (Bx (Ba (Av (Aj (by with_unfolding_all rfl) (Ag (Cr ⟨_,rfl,fun e=>?_,fun e=>?_⟩))))))
 ·have e:(s:Int)=0:=eq_of_beq e;rw [if_pos (by omega)] at q
  walk_at "x3"
  exact q _ _ Ext.more (Nat.le_refl _) Ai
 ·have e:¬ (s:Int)=0:=beq_eq_false_iff_ne.mp e;rw [if_neg (by omega)] at q;refine Ax (Af (Ak (Gx ?_)));have lm:(mem s).length<=1000:=by
   have h1:=Pn s (Builtin.Int.intBits (s:Int));have h2:=bits_le (g:=s) (n:=20) hs;show (J5 _ _).length<=1000;omega
  refine Di (mem s) Ah T4 (by omega) ?_ (fun x h' R hx ex hR=>?_) fun h' ex=>?_
  ·walk_at "x3"
   refine M8 k s hs mh fun h1 x1=>?_
   exact ⟨_,rfl,x1,fun _ _=>⟨rfl,rfl⟩⟩
  ·refine Ay ⟨rfl,?_⟩
   walk_at "x3"
   exact hR _ Ext.refl
  ·walk_at "x3"
   exact q _ _ (ex.trans Ext.more) ex.len Ai
noncomputable def G3 (p:Pg) (w:Wd) (h:Nat) (bx:Int):List Nat:=if bx=-1 then List.range p.H else if (w.pt h).nm bx.toNat=-1 then [] else [((w.pt h).nm bx.toNat).toNat]
theorem V0 {h:Nat}{bx:Int}(wo:w.ok p) (hh:h < p.plays.length) {s:Nat}(hs:s∈G3 p w h bx):s < p.plays.length:=by
 unfold G3 at hs;split at hs
 ·exact List.mem_range.mp hs
 ·split at hs
  ·cases hs
  ·rename_i hn;obtain ⟨r,er,qo⟩:=Vv wo hh;rw [List.mem_singleton.mp hs];exact (Qg (Pt.nm_ok qo) hn).2
theorem V1 (k h:Nat) (bx:Int) (hb:bx=-1\/∃ b:Nat,b < 3/\bx=(b:Int)) (po:p.ok) (wo:w.ok p) (hh:h < p.plays.length) (q:∀ j h',Ext [] mh h'->mh.length<=j->h'[j]?=some (.lst ((G3 p w h bx).map Ah))->P (.ref j) h'):wV (Ad (Gk (k+2)) Ac f67 [w.d,.int h,.int bx] mh) P:=by
 have h6:=po.h6;obtain ⟨r,er,qo⟩:=Vv wo hh;refine Ao (Acj (k+1)) nU.1 nU.2 rfl ?_;show wS (b67 (k+1)) [some w.d,some (.int h),some (.int bx),none] mh _;unfold b67;unfold G3 at q;rcases hb with rfl|⟨b,hb,rfl⟩
 ·rw [if_pos rfl] at q
  walk_at "x3"
  refine Ao (pC k) Tw.1 Tw.2 rfl ?_;show wS (b41 k) [some w.d] mh _;unfold b41 Wd.d
  walk_at "x3"
  refine Bv (ds:=w.ps.map Pt.d) (by intro z z';cases z') rfl ?_;rw [List.length_map,wo.lp];exact J8 (c:=p.plays.length) (by omega) (q _ _ Ext.more (Nat.le_refl _) Ai)
 ·rw [if_neg (by omega),Int.toNat_natCast] at q;refine Ak (Bx (Ba (Av (Aj (by with_unfolding_all rfl) (kY (Ag ⟨1,rfl,Cr ⟨_,rfl,fun e=>?_,fun _=>Ax (Af ?_)⟩⟩))))))
  ·have e:=eq_of_beq e;omega
  ·refine Ak (Cw (Av (Av (Cj (Ar (Aj (by with_unfolding_all rfl) (Ar (Aj (by with_unfolding_all rfl) (Ag (Fx k h (by rw [wo.lp];exact hh) ?_)))))))))) ;unfold Pt.d
   walk_at "x3"
   refine Qf hb ?_;have nk:=Pt.nm_ok (a:=b) qo;generalize (w.pt h).nm b=to at q nk;refine Ay (Af (Ak (Gx (lA (Ba (Av (Aj (by with_unfolding_all rfl) (Ag (Cr ⟨_,rfl,fun e=>?_,fun e=>?_⟩)))))))))
   ·have e:=eq_of_beq e;rw [if_pos e] at q
    walk_at "x3"
    exact q _ _ Ext.more (Nat.le_refl _) Ai
   ·have e:=beq_eq_false_iff_ne.mp e;rw [if_neg e] at q;obtain ⟨e1,e2⟩:=Qg nk e;rw [e1]
    walk_at "x3"
    refine q _ _ Ext.more (Nat.le_refl _) ?_;rw [Ai];show _=some (MO.lst [Ah to.toNat]);rfl
noncomputable def Kc (w:Wd) (h:Nat) (ks:List Int) (s:Nat):List D:=match w.cell s h with
 | []=>[]
 | l::_=>if l.1∈ks then [.tup [Ah s,.int l.1]] else []
noncomputable def Kd (ls:List Ln):List Int:=ls.map fun l=>(l.kd:Int)
noncomputable def Iv (w:Wd) (h:Nat) (ls:List Ln):List D:=if (decide ((0:Int)∈Kd ls)&&(w.pt h).bell)=true then [.tup [.int (-1),.int 0]] else []
noncomputable def Qh (p:Pg) (w:Wd) (h:Nat) (bx:Int) (ls:List Ln):List D:=Iv w h ls++(G3 p w h bx).flatMap (Kc w h (Kd ls))
theorem pX {h s:Nat}{ks:List Int}:(Kc w h ks s).length<=1:=by
 unfold Kc;split
 ·simp
 ·split <;> simp
theorem pY {h s:Nat}{ks:List Int}(e:w.cell s h=[]):Kc w h ks s=[]:=by unfold Kc;rw [e]
theorem wO {h s:Nat}{ks:List Int}{l:Lt}{r:List Lt}(e:w.cell s h=l::r) (hk:l.1∈ks):Kc w h ks s=[.tup [Ah s,.int l.1]]:=by unfold Kc;rw [e];exact if_pos hk
theorem wQ {h s:Nat}{ks:List Int}{l:Lt}{r:List Lt}(e:w.cell s h=l::r) (hk:¬ l.1∈ks):Kc w h ks s=[]:=by unfold Kc;rw [e];exact if_neg hk
theorem Qi {h:Nat}{ks:List Int}:∀ l:List Nat,(l.flatMap (Kc w h ks)).length<=l.length
 | []=>by simp
 | s::r=>by
  rw [List.flatMap_cons,List.length_append,List.length_cons];have:=Qi (h:=h) (ks:=ks) r;have:=pX (w:=w) (h:=h) (s:=s) (ks:=ks);omega
theorem cY {h i s:Nat}{ks:List Int}{l:List Nat}(e:l[i]?=some s):(l.take (i+1)).flatMap (Kc w h ks)=(l.take i).flatMap (Kc w h ks)++Kc w h ks s:=by
 rw [List.take_add_one,e,List.flatMap_append];simp
theorem pZ (k h:Nat) (bx:Int) (ls:List Ln) (hb:bx=-1\/∃ b:Nat,b < 3/\bx=(b:Int)) (hl:ls.length<=1000) (po:p.ok) (wo:w.ok p) (hh:h < p.plays.length) (q:∀ j h',Ext [] mh h'->mh.length<=j->h'[j]?=some (.lst (Qh p w h bx ls))->P (.ref j) h') :
    wV (Ad (Gk (k+3)) Ac f66 [w.d,.int h,spD (.take bx ls)] mh) P:=by
  have h6:=po.h6;have sl:(G3 p w h bx).length<=6:=by
    unfold G3;split
    · rw [List.length_range];exact h6
    · split <;> simp
  refine Ao (Aci (k+2)) nT.1 nT.2 rfl ?_;show wS (b66 (k+2)) [some w.d,some (.int h),some (spD (.take bx ls)),none,none,none,none] mh _;unfold b66;refine Ak (Cw ?_);refine Di ls lnD (fun l=>Ah l.kd) (by omega) ?_ (fun x h' R hx ex hR=>?_) fun m1 x1=>?_
  · dsimp only [spD]
    walk_at "x3"
    exact ⟨_,rfl,Eh rfl⟩
  · refine Ay ⟨rfl,?_⟩;unfold lnD
    walk_at "x3"
    exact hR _ Ext.refl
  refine Ay (Af (Ak (Cw (Pr (Ag ⟨by simp,?_⟩)))));generalize hm2:m1++[MO.lst (ls.map fun l=>Ah l.kd)]=m2;have gk:m2[m1.length]?=some (.lst ((Kd ls).map D.int)):=by
    rw [← hm2,Ai];unfold Kd;rw [List.map_map];rfl
  have x2:Ext [] mh m2:=by rw [← hm2];exact x1.trans Ext.more
  have l12:m1.length < m2.length:=by rw [← hm2];simp
  refine Ay (Af ?_);show wS _ [some w.d,some (.int h),some (spD (.take bx ls)),some (.ref m1.length),some (.ref m2.length),none,none] (m2++[MO.lst []]) _;have gk3:(m2++[MO.lst []])[m1.length]?=some (.lst ((Kd ls).map D.int)):=(Ext.more (W:=[])).old _ _ (by simp) gk
  -- behind the bell
  have loop:∀ m3:MH,Ext [] m2 m3->m3[m2.length]?=some (.lst (Iv w h ls))->wS (Ab (Ge (Dt (Ae (Ad (Gk (k+2)) Ac f67) (Aa (vr 0) (Aa (vr 1) (Aa (dop ixD (vr 2) (Zr (.int 1))) (Zr [])))))) (Aw 5)
     (Ab (Bb (Ae (Ad (Gk (k+2)) Ac f43) (Aa (vr 0) (Aa (vr 5) (Aa (vr 1) (Zr []))))) (Aw 6))
      (Ab (ifS (Ht (Al (dop gtD (Ae Dn (Aa (vr 6) (Zr []))) (Zr (.int 0)))) (Al (dop (inD false) (dop ixD (dop ixD (vr 6) (Zr (.int 0))) (Zr (.int 0))) (vr 3))))
      (Ab (Dz (Cz "list" Ci (vr 4) (Aa (Aq (Aa (vr 5) (Aa (dop ixD (dop ixD (vr 6) (Zr (.int 0))) (Zr (.int 0))) (Zr [])))) (Zr []))))
       Zn)
      Zn)
      Zn)))
     (Ab (Am (vr 4))
     Zn)) [some w.d,some (.int h),some (spD (.take bx ls)),some (.ref m1.length),some (.ref m2.length),none,none] m3 (Px P):=fun m3 x3 gf=>by
    have bl1:(Iv w h ls).length<=1:=by unfold Iv;split <;> simp
    refine Ak (Ez (Ey (Cj (Ar (Aj (by with_unfolding_all rfl) (Ar (Aj (by with_unfolding_all rfl) (Ar ?_))))))));dsimp only [spD]
    walk_at "x3"
    refine V1 k h bx hb po wo hh fun js m4 x4 hj gs=>?_
    have jf:m2.length < m3.length:=(List.getElem?_eq_some_iff.mp gf).1;refine ⟨_,src_list gs,(G3 p w h bx).map Ah,fun i l m=>Ext [m2.length] m4 m/\m[m2.length]?=some (.lst (Iv w h ls++((G3 p w h bx).take i).flatMap (Kc w h (Kd ls))))/\∃ x5 x6,l=[some w.d,some (.int h),some (spD (.take bx ls)),some (.ref m1.length),some (.ref m2.length),x5,x6],⟨Ext.refl,by rw [x4.old _ _ (by simp) gf];simp,none,none,rfl⟩,?_,?_,?_⟩
    · rintro i l m ⟨xm,_,_⟩;exact Hv (xm.old _ _ (by intro z;have:=List.mem_singleton.mp z;omega) gs)
    · rintro i d l m ed ⟨xm,gm,x5,x6,rfl⟩;rw [List.getElem?_map] at ed;cases es:(G3 p w h bx)[i]? with
      | none=>rw [es] at ed;cases ed
      | some s =>
        rw [es] at ed;cases ed;have hs:=V0 wo hh (List.mem_of_getElem? es);have tf:=cY (w:=w) (h:=h) (ks:=Kd ls) es;have gk4:m[m1.length]?=some (.lst ((Kd ls).map D.int)):=xm.old _ _ (by intro z;have:=List.mem_singleton.mp z;omega) (x4.old _ _ (by simp) (x3.old _ _ (by simp) gk));refine Ay ?_;show wS _ [some w.d,some (.int h),some (spD (.take bx ls)),some (.ref m1.length),some (.ref m2.length),some (Ah s),x6] m _
        walk_at "x3"
        refine Ff (k+1) s h wo hs hh ?_
        walk_at "x3"
        cases ec:w.cell s h with
        | nil =>
          rw [pY ec] at tf;refine Bj (d:=.int 0) (h:=m) rfl ?_
          walk_at "x3"
          exact ⟨xm,by rw [tf];simpa using gm,_,_,rfl⟩
        | cons l0 lr =>
          refine Bv (ds:=(l0::lr).map ltD) (by intro z z';cases z') rfl ?_
          walk_at "x3"
          refine Nx (by rw [List.length_map,List.length_cons];exact decide_eq_true (by omega)) ?_;unfold lsD;rw [List.map_cons];unfold ltD
          walk_at "x3"
          refine Bj (Pk gk4) ⟨_,rfl,Cv (fun e=>?_) fun e=>?_⟩
          · have e:=of_decide_eq_true e;rw [wO ec e] at tf
            walk_at "x3"
            refine ⟨ty_list gm,?_⟩
            walk_at "x3"
            have fl:=Qi (w:=w) (h:=h) (ks:=Kd ls) ((G3 p w h bx).take i);have tl:((G3 p w h bx).take i).length<=6:=by rw [List.length_take];omega
            refine Dp gm (by rw [List.length_append];omega) ?_
            walk_at "x3"
            refine ⟨xm.trans Ext.set,?_,_,_,rfl⟩;rw [Iu gm,tf,List.append_assoc]
          · have e:=of_decide_eq_false e;rw [wQ ec e] at tf;refine Ax (Af (Ax ⟨xm,by rw [tf];simpa using gm,_,_,rfl⟩))
    · rintro l m ⟨xm,gm,x5,x6,rfl⟩;rw [List.length_map,List.take_length] at gm
      walk_at "x3"
      refine q _ _ ?_ x2.len gm;have lm2:mh.length<=m2.length:=x2.len;refine ⟨Nat.le_trans x2.len (Nat.le_trans x3.len (Nat.le_trans x4.len xm.len)),fun i o _ e=>?_⟩;have hi:i < mh.length:=(List.getElem?_eq_some_iff.mp e).1;exact xm.old i o (by intro z;have:=List.mem_singleton.mp z;omega) (x4.old i o (by simp) (x3.old i o (by simp) (x2.old i o (by simp) e)))
  refine Ak (Bx (Nv (Ba (Av (Ag (Aj (by with_unfolding_all rfl) (Bj (Pk gk3) ⟨_,rfl,fun e=>?_,fun e=>?_⟩)))))))
  · walk_at "x3"
    refine Fx (k+1) h (by rw [wo.lp];exact hh) ?_;unfold Pt.d
    walk_at "x3"
    refine Cv (fun e2=>?_) fun e2=>?_
    · walk_at "x3"
      refine ⟨ty_list Ai,?_⟩
      walk_at "x3"
      refine Dp Ai (by simp) ?_;refine Ax (Af (loop _ ?_ ?_))
      · exact ⟨by simp,fun i o _ ei=>by
          have:i < m2.length:=(List.getElem?_eq_some_iff.mp ei).1
          rw [List.getElem?_set_ne (by omega),List.getElem?_append_left this];exact ei⟩
      · rw [Iu Ai];unfold Iv;rw [e,e2];rfl
    · refine Ax (Af (loop _ Ext.more ?_));rw [Ai];unfold Iv;rw [e,e2];rfl
  · refine Ed (Ax (Af (loop _ Ext.more ?_)));rw [Ai];unfold Iv;rw [e];rfl
end
noncomputable def chs (p:Pg) (w:Wd) (h:Nat):Sp->List D
 | .choose _ c=>(List.range c).map Ah
 | .pick _ r=>(oth p r h).map T4
 | .out _ g _=>T5 ((w.pt h).se g)
 | .take bx ls=>Qh p w h bx ls
 | .send a _ _ _=>if Nj p w h a=true then [.int 0] else []
 | _=>[.int 0]
noncomputable def chW (p:Pg) (S:List (List Sp)) (w:Wd) (h:Nat):List D:=match stW p S w h with
 | none=>[]
 | some s=>chs p w h s
theorem qC (k:Nat) (t:D) (mh:MH):Ad (Gk (k+1)) Ac Ze [.obj "Step" ["form"] [t]] mh=some (t,mh):=by kernel_rfl
section
variable {mh:MH}{P:D->MH->Prop}{p:Pg}{w:Wd}{S:List (List Sp)}
theorem qD {h:Nat}{s:Sp}(g:Prg p S) (hh:h < p.plays.length) (e:stW p S w h=some s):s.ok p (p.len (plA p h))/\0<=(w.pt h).pl/\(w.pt h).pl < p.len (plA p h):=by
 unfold stW stA at e;split at e
 ·rename_i h0;have hr:plA p h < S.length:=by rw [← Rw g];exact pU g.po hh
  have eS:S[plA p h]?=some S[plA p h]:=List.getElem?_eq_getElem hr;rw [eS] at e;have e:S[plA p h][(w.pt h).pl.toNat]?=some s:=e;have hl:=(List.getElem?_eq_some_iff.mp e).1;have el:p.len (plA p h)=S[plA p h].length:=by rw [len_eq g,eS];rfl
  refine ⟨?_,h0,by omega⟩;rw [el];exact g.ok _ _ eS s (List.mem_of_getElem? e)
 ·cases e
theorem Nf (k h:Nat) (g:Prg p S) (wo:w.ok p) (hh:h < p.plays.length) (q:∀ j h',Ext [] mh h'->mh.length<=j->h'[j]?=some (.lst (chW p S w h))->P (.ref j) h'):wV (Ad (Gk (k+4)) Ac f63 [p.d,w.d,.int h] mh) P:=by
 have po:=g.po;have h6:=po.h6;obtain ⟨r0,er0,qo⟩:=Vv wo hh;have hH:p.H<=6:=h6;refine Ao (Acf (k+3)) nP.1 nP.2 rfl ?_;show wS (b63 (k+3)) [some p.d,some w.d,some (.int h),none,none] mh _;unfold b63
 walk_at "x3"
 refine Nb k h g wo hh ?_;unfold chW at q;cases es:stW p S w h with
 | none =>
  rw [es] at q;unfold Z3
  walk_at "x3"
  refine pI ?_
  walk_at "x3"
  exact q _ _ Ext.more (Nat.le_refl _) Ai
 | some s =>
  rw [es] at q;obtain ⟨so,p1,p2⟩:=qD g hh es;have q:∀ j h',Ext [] mh h'->mh.length<=j->h'[j]?=some (.lst (chs p w h s))->P (.ref j) h':=q;refine Ay (Af (Ak (Bx (Ba (Av (Aj (by with_unfolding_all rfl) (Ag (pI ⟨_,rfl,fun e=>(by cases e),fun _=>Ax (Af ?_)⟩))))))))
  refine Ak (Cw (lM (Aj (d:=.obj "Step" ["form"] [spD s]) (by with_unfolding_all rfl) ⟨_,_,_,_,_,rfl,rfl,by decide +kernel,Ag (Bj (qC (k+2) (spD s) mh) ?_)⟩)));refine Ay (Af ?_);show wS _ [some p.d,some w.d,some (.int h),some (Z3 (some s)),some (spD s)] mh _
  by_cases hn:(∃ (wd:Str) (rest:List D),spD s=.tup (.str wd::rest)/\PyData.strOk wd=true/\(wd==("choose":Str))=false/\(wd==("pick":Str))=false/\(wd==("out":Str))=false/\(wd==("take":Str))=false/\(wd==("send":Str))=false)/\chs p w h s=[.int 0]
  ·obtain ⟨⟨wd,rest,e,h0,h1,h2,h3,h4,h5⟩,ec⟩:=hn;rw [ec] at q;have ix:∀ {Q:D->MH->Prop} {m:MH},Q (.str wd) m->wV (ixD (spD s) (.int 0) m) Q:=fun q=>by
    rw [e];exact Eo q
   walk_at "x3"
   refine ix ?_;refine Ag (Jt (k:=false) (Ia h0 (by decide +kernel) h1 mh) ⟨_,rfl,Ed (Ax (Af ?_))⟩)
   walk_at "x3"
   refine ix ?_;refine Ag (Jt (k:=false) (Ia h0 (by decide +kernel) h2 mh) ⟨_,rfl,Ed (Ax (Af ?_))⟩)
   walk_at "x3"
   refine ix ?_;refine Ag (Jt (k:=false) (Ia h0 (by decide +kernel) h3 mh) ⟨_,rfl,Ed (Ax (Af ?_))⟩)
   walk_at "x3"
   refine ix ?_;refine Ag (Jt (k:=false) (Ia h0 (by decide +kernel) h4 mh) ⟨_,rfl,Ed (Ax (Af ?_))⟩)
   walk_at "x3"
   refine ix ?_;refine Ag (Jt (k:=false) (Ia h0 (by decide +kernel) h5 mh) ⟨_,rfl,Ed (Ed (Ax (Af ?_)))⟩)
   walk_at "x3"
   exact q _ _ Ext.more (Nat.le_refl _) Ai
  cases s with
  | choose a c =>
   dsimp only [spD]
   walk_at "x3"
   exact J8 (c:=c) (by have:=so.2;omega) (q _ _ Ext.more (Nat.le_refl _) Ai)
  | pick a r =>
   dsimp only [spD]
   walk_at "x3"
   have lo:(oth p r h).length<=6:=Nat.le_trans (List.length_filter_le _ _) (Nat.le_trans Mg h6);refine Di (oth p r h) Ah T4 (by omega) ?_ (fun x h' R hx ex hR=>?_) fun h' ex=>?_
   ·walk_at "x3"
    refine Z1 (k+1) r h p po mh fun j h1 x1 gj=>?_
    exact ⟨_,src_list gj,x1,T3 gj⟩
   ·refine Ay ⟨rfl,?_⟩
    walk_at "x3"
    exact hR _ Ext.refl
   ·walk_at "x3"
    exact q _ _ (ex.trans Ext.more) ex.len Ai
  | out a gg qq =>
   dsimp only [spD]
   walk_at "x3"
   refine Fx (k+2) h (by rw [wo.lp];exact hh) ?_;unfold Pt.d
   walk_at "x3"
   refine Z2 so.1.2 ?_
   walk_at "x3"
   refine wN k _ (Nat.lt_of_lt_of_le (Pt.se_ok qo) (Nat.pow_le_pow_right (by decide) (by omega))) fun j h1 x1 lj gj=>?_
   exact q _ _ x1 lj gj
  | take bx ls =>
   refine Ak (Bx (Ba (Av (Av (Aj (by with_unfolding_all rfl) (Ag ?_))))));dsimp only [spD]
   walk_at "x3"
   exact pZ k h bx ls so.1 so.2.1 po wo hh fun j h1 x1 lj gj=>q _ _ x1 lj gj
  | send a kd b c =>
   refine Ak (Bx (Ba (Av (Av (Aj (by with_unfolding_all rfl) (Ag ?_))))));dsimp only [spD]
   walk_at "x3"
   refine Vz (k+1) h a kd b c g wo hh so.1.1 ⟨_,rfl,?_⟩;have q:∀ j h',Ext [] mh h'->mh.length<=j->h'[j]?=some (.lst (if Nj p w h a=true then [.int 0] else []))->P (.ref j) h':=q;cases em:Nj p w h a with
   | true =>
    rw [em] at q
    walk_at "x3"
    exact q _ _ Ext.more (Nat.le_refl _) Ai
   | false =>
    rw [em] at q
    walk_at "x3"
    exact q _ _ Ext.more (Nat.le_refl _) Ai
  | _=>exact absurd ⟨⟨_,_,rfl,by decide +kernel,by decide +kernel,by decide +kernel,by decide +kernel,by decide +kernel,by decide +kernel⟩,rfl⟩ hn
end
theorem Z4 {P:D->MH->Prop}{d:D}{l:DL.Loc}{h:MH}(q:P d h):Px P (.rt d) l h:=q
noncomputable def Pt.setN (q:Pt) (a:Nat) (n:Int):Pt:=match a with
 | 0=>{ q with n0:=n }
 | 1=>{ q with n1:=n }
 | _=>{ q with n2:=n }
noncomputable def Pt.setM (q:Pt) (a:Nat) (n:Int):Pt:=match a with
 | 0=>{ q with m0:=n }
 | 1=>{ q with m1:=n }
 | _=>{ q with m2:=n }
noncomputable def Pt.setS (q:Pt) (a:Nat) (n:Nat):Pt:=match a with
 | 0=>{ q with s0:=n }
 | _=>{ q with s1:=n }
noncomputable def Pt.to (q:Pt) (pl:Int):Pt:={ q with pl:=pl }
noncomputable def Pt.ring (q:Pt) (b:Bool):Pt:={ q with bell:=b }
theorem Jg (k:Nat) (q:Pt) {a:Nat}(ha:a < 3) (n:Int) (mh:MH):Ad (Gk (k+2)) Ac f12 [q.d,Ah a,.int n] mh=some ((q.setN a n).d,mh):=by
 match a,ha with
 | 0,_=>kernel_rfl
 | 1,_=>kernel_rfl
 | 2,_=>kernel_rfl
theorem Jh (k:Nat) (q:Pt) {a:Nat}(ha:a < 3) (n:Int) (mh:MH):Ad (Gk (k+2)) Ac f13 [q.d,Ah a,.int n] mh=some ((q.setM a n).d,mh):=by
 match a,ha with
 | 0,_=>kernel_rfl
 | 1,_=>kernel_rfl
 | 2,_=>kernel_rfl
theorem K6 (k:Nat) (q:Pt) {a:Nat}(ha:a < 2) (n:Nat) (mh:MH):Ad (Gk (k+2)) Ac f14 [q.d,Ah a,.int n] mh=some ((q.setS a n).d,mh):=by
 match a,ha with
 | 0,_=>kernel_rfl
 | 1,_=>kernel_rfl
theorem Z5 (k:Nat) (q:Pt) (b:Bool) (mh:MH):Ad (Gk (k+2)) Ac f15 [q.d,.bl b] mh=some ((q.ring b).d,mh):=by kernel_rfl
theorem Qj (k:Nat) (q:Pt) (pl:Int) (mh:MH):Ad (Gk (k+2)) Ac f16 [q.d,.int pl] mh=some ((q.to pl).d,mh):=by kernel_rfl
theorem Dc (k:Nat) (q:Pt) (mh:MH):Ad (Gk (k+3)) Ac f17 [q.d] mh=some ((q.to (q.pl+1)).d,mh):=by kernel_rfl
section
variable {H L:Nat}{q:Pt}
theorem Gi (h:q.ok H L) (a:Nat) (n:Int):(q.setN a n).ok H L:=by
 unfold Pt.setN;split <;> exact ⟨h.pl1,h.pl2,h.a0,h.a1,h.a2,h.b0,h.b1⟩
theorem Gj (h:q.ok H L) (a:Nat) {n:Int}(hn:-1<=n/\n<=(H:Int) - 1):(q.setM a n).ok H L:=by
 unfold Pt.setM;split
 ·exact ⟨h.pl1,h.pl2,hn,h.a1,h.a2,h.b0,h.b1⟩
 ·exact ⟨h.pl1,h.pl2,h.a0,hn,h.a2,h.b0,h.b1⟩
 ·exact ⟨h.pl1,h.pl2,h.a0,h.a1,hn,h.b0,h.b1⟩
theorem Ii (h:q.ok H L) (a:Nat) {n:Nat}(hn:n < 2 ^ H):(q.setS a n).ok H L:=by
 unfold Pt.setS;split
 ·exact ⟨h.pl1,h.pl2,h.a0,h.a1,h.a2,hn,h.b1⟩
 ·exact ⟨h.pl1,h.pl2,h.a0,h.a1,h.a2,h.b0,hn⟩
theorem Jv (h:q.ok H L) {pl:Int}(h1:-1<=pl) (h2:pl<=L):(q.to pl).ok H L:=⟨h1,h2,h.a0,h.a1,h.a2,h.b0,h.b1⟩
theorem T6 (h:q.ok H L) (b:Bool):(q.ring b).ok H L:=⟨h.pl1,h.pl2,h.a0,h.a1,h.a2,h.b0,h.b1⟩
theorem K7 (a:Nat) (n:Int):(q.setN a n).pl=q.pl:=by unfold Pt.setN;split <;> rfl
theorem N8 (a:Nat) (n:Int):(q.setM a n).pl=q.pl:=by unfold Pt.setM;split <;> rfl
theorem K8 (a:Nat) (n:Nat):(q.setS a n).pl=q.pl:=by unfold Pt.setS;split <;> rfl
end
theorem V2 {f:D->D->MH->Option (D×MH)}{x y d:D}{mh:MH}{P:D->MH->Prop}(e:∀ mh,f x y mh=some (d,mh)) (h:P d mh):wV (f x y mh) P:=⟨_,_,e mh,h⟩
theorem Qk {f:D->D->MH->Option (D×MH)}{x y:D}{b:Bool}{mh:MH}{P:D->MH->Prop}(e:∀ mh,f x y mh=some (.bl b,mh)) (h:P (.bl b) mh):wV (f x y mh) P:=⟨_,_,e mh,h⟩
theorem Zi {x y:D}{mh:MH}{P:D->MH->Prop}(e:∀ mh,inD false x y mh=some (.bl false,mh)) (h:P (.bl false) mh):wV (inD false x y mh) P:=⟨_,_,e mh,h⟩
local macro_rules | `(tactic| walk_at "x1") => `(tactic| repeat (first | walk_at "s" | with_reducible refine Z4 ?_ | with_reducible refine K4 (by simp) ?_ | with_reducible refine Eo ?_ | with_reducible refine Fe ?_ | with_reducible refine Ep ?_ | with_reducible refine Fw ?_ | with_reducible refine Qc ?_ | with_reducible refine Afl (by kernel_rfl) (by kernel_rfl) (by decide +kernel) ?_ | with_reducible refine Afm (by kernel_rfl) (by kernel_rfl) (by decide +kernel) ?_))
section
variable {mh:MH}{P:D->MH->Prop}{p:Pg}{w:Wd}{S:List (List Sp)}{L:Nat}{q:Pt}
theorem qF (k s:Nat) (hs:s < 2 ^ 20) (h:∀ (n:Nat) h',Ext [] mh h'->P (.int n) h'):wV (Ad (Gk (k+3)) Ac f58 [.int s] mh) P:=by
 refine Ao (Acb (k+2)) nJ.1 nJ.2 rfl ?_;show wS (b58 (k+2)) [some (.int s)] mh _;unfold b58
 walk_at "x1"
 refine M8 k s hs mh fun h1 x1=>?_
 walk_at "x1"
 exact Bv (ds:=(mem s).map Ah) (by intro z z';cases z') rfl (h _ _ x1)
theorem wR {s m:Nat}(hm:s.testBit m=true):((s:Nat):Int) - ((setOf [m]:Nat):Int)=((s - 2 ^ m:Nat):Int):=by
 have e:setOf [m]=2 ^ m:=by show (0 ||| 2 ^ m)=2 ^ m;exact Nat.zero_or _
 have:=Nat.ge_two_pow_of_testBit hm;rw [e];omega
theorem Afv {s H:Nat}(h6:H<=6) (h:s < 2 ^ H):s < 2 ^ 20:=Nat.lt_of_lt_of_le h (Nat.pow_le_pow_right (by decide) (by omega))
theorem cZ (k h:Nat) (g:Prg p S) (wo:w.ok p) (hh:h < p.plays.length) (s:Sp) (so:s.ok p L) (qo:(w.pt h).ok p.H L) (p1:0<=(w.pt h).pl) (p2:(w.pt h).pl < L) (c:D) (hc:c∈chs p w h s) (ht:∀ bx ls,s≠.take bx ls) (hs:∀ a kd b c,s≠.send a kd b c)
  (f:∀ (q':Pt) h',q'.ok p.H L->Ext [] mh h'->P q'.d h'):wV (Ad (Gk (k+5)) Ac f73 [p.d,.int h,(w.pt h).d,spD s,c] mh) P:=by
 have po:=g.po;have hH:p.H<=6:=po.h6;refine Ao (Acl (k+4)) nY.1 nY.2 rfl ?_;show wS (b73 (k+4)) [some p.d,some (.int h),some (w.pt h).d,some (spD s),some c,none] mh _;unfold b73;generalize hq:w.pt h=q at qo p1 p2 f;have mv:∀ (y:Pt),y.ok p.H L->y.pl=q.pl->(y.to (y.pl+1)).ok p.H L:=fun y yo ye=>Jv yo (by omega) (by omega)
 have ix3:∀ {P:D->MH->Prop} {m:MH},P (.tup [.int q.n0,.int q.n1,.int q.n2]) m->wV (ixD q.d (.int 1) m) P:=fun h=>Fe h
 have ixM:∀ {P:D->MH->Prop} {m:MH},P (.tup [.int q.m0,.int q.m1,.int q.m2]) m->wV (ixD q.d (.int 2) m) P:=fun h=>Ep h
 have ixS:∀ {P:D->MH->Prop} {m:MH},P (.tup [.int q.s0,.int q.s1]) m->wV (ixD q.d (.int 3) m) P:=fun h=>Fw h
 cases s with
 | put a n =>
  dsimp only [spD]
  walk_at "x1"
  refine Qk (f:=inD false) (b:=true) (fun _=>by kernel_rfl) ?_
  walk_at "x1"
  refine ix3 ?_
  walk_at "x1"
  refine Ao (P0 (k+3)) Hl.1 Hl.2 rfl ?_;show wS (b74 (k+3)) [some (.tup [.int q.n0,.int q.n1,.int q.n2]),some _,some _,none] mh _;unfold b74
  walk_at "x1"
  walk_at "x1"
  refine Bj (Jg (k+2) q so _ mh) ?_
  walk_at "x1"
  refine Bj (Dc (k+1) _ _) ?_;exact f _ _ (mv _ (Gi qo _ _) (K7 _ _)) Ext.refl
 | copy a b =>
  dsimp only [spD]
  walk_at "x1"
  refine Qk (f:=inD false) (b:=true) (fun _=>by kernel_rfl) ?_
  walk_at "x1"
  refine ix3 ?_
  walk_at "x1"
  refine Ao (P0 (k+3)) Hl.1 Hl.2 rfl ?_;show wS (b74 (k+3)) [some (.tup [.int q.n0,.int q.n1,.int q.n2]),some _,some _,none] mh _;unfold b74
  walk_at "x1"
  refine M9 so.2 ?_
  walk_at "x1"
  refine Bj (Jg (k+2) q so.1 _ mh) ?_
  walk_at "x1"
  refine Bj (Dc (k+1) _ _) ?_;exact f _ _ (mv _ (Gi qo _ _) (K7 _ _)) Ext.refl
 | raise a n =>
  dsimp only [spD]
  walk_at "x1"
  refine Qk (f:=inD false) (b:=true) (fun _=>by kernel_rfl) ?_
  walk_at "x1"
  refine ix3 ?_
  walk_at "x1"
  refine Ao (P0 (k+3)) Hl.1 Hl.2 rfl ?_;show wS (b74 (k+3)) [some (.tup [.int q.n0,.int q.n1,.int q.n2]),some _,some _,none] mh _;unfold b74
  walk_at "x1"
  refine M9 so ?_
  walk_at "x1"
  refine Bj (Jg (k+2) q so _ mh) ?_
  walk_at "x1"
  refine Bj (Dc (k+1) _ _) ?_;exact f _ _ (mv _ (Gi qo _ _) (K7 _ _)) Ext.refl
 | sum a b =>
  dsimp only [spD]
  walk_at "x1"
  refine Qk (f:=inD false) (b:=true) (fun _=>by kernel_rfl) ?_
  walk_at "x1"
  refine ix3 ?_
  walk_at "x1"
  refine Ao (P0 (k+3)) Hl.1 Hl.2 rfl ?_;show wS (b74 (k+3)) [some (.tup [.int q.n0,.int q.n1,.int q.n2]),some _,some _,none] mh _;unfold b74
  walk_at "x1"
  refine M9 so.1 ?_
  walk_at "x1"
  refine M9 so.2 ?_
  walk_at "x1"
  refine Bj (Jg (k+2) q so.1 _ mh) ?_
  walk_at "x1"
  refine Bj (Dc (k+1) _ _) ?_;exact f _ _ (mv _ (Gi qo _ _) (K7 _ _)) Ext.refl
 | choose a n =>
  obtain ⟨i,_,rfl⟩:=List.mem_map.mp (show c∈(List.range n).map Ah from hc);dsimp only [spD]
  walk_at "x1"
  refine Qk (f:=inD false) (b:=true) (fun _=>by kernel_rfl) ?_
  walk_at "x1"
  refine ix3 ?_
  walk_at "x1"
  refine Ao (P0 (k+3)) Hl.1 Hl.2 rfl ?_;show wS (b74 (k+3)) [some (.tup [.int q.n0,.int q.n1,.int q.n2]),some _,some _,none] mh _;unfold b74
  walk_at "x1"
  walk_at "x1"
  refine Bj (Jg (k+2) q so.1 _ mh) ?_
  walk_at "x1"
  refine Bj (Dc (k+1) _ _) ?_;exact f _ _ (mv _ (Gi qo _ _) (K7 _ _)) Ext.refl
 | me a =>
  dsimp only [spD]
  walk_at "x1"
  refine Zi (fun _=>by kernel_rfl) ?_
  walk_at "x1"
  refine Qk (f:=inD false) (b:=true) (fun _=>by kernel_rfl) ?_
  walk_at "x1"
  refine Ao (Xp (k+3)) Lx.1 Lx.2 rfl ?_;show wS (b75 (k+3)) [some p.d,some (.int h),some _,some _,none] mh _;unfold b75
  walk_at "x1"
  refine Bj (Jh (k+2) q so (h:Int) mh) ?_
  walk_at "x1"
  refine Bj (Dc (k+1) _ _) ?_;have hh:h < p.H:=hh;exact f _ _ (mv _ (Gj qo _ ⟨by omega,by omega⟩) (N8 _ _)) Ext.refl
 | only a r =>
  dsimp only [spD]
  walk_at "x1"
  refine Zi (fun _=>by kernel_rfl) ?_
  walk_at "x1"
  refine Qk (f:=inD false) (b:=true) (fun _=>by kernel_rfl) ?_
  walk_at "x1"
  refine Ao (Xp (k+3)) Lx.1 Lx.2 rfl ?_;show wS (b75 (k+3)) [some p.d,some (.int h),some _,some _,none] mh _;unfold b75
  walk_at "x1"
  refine Rv (k+2) r p po mh fun m1 x1=>?_
  cases eh:hands p r with
  | nil=>exact absurd eh so.2
  | cons y ys =>
   have hy:y < p.H:=Vy (r:=r) (by rw [eh];exact List.mem_cons_self);unfold cX;rw [List.map_cons]
   walk_at "x1"
   refine Bj (Jh (k+2) q so.1 (y:Int) m1) ?_
   walk_at "x1"
   refine Bj (Dc (k+1) _ _) ?_;exact f _ _ (mv _ (Gj qo _ ⟨by omega,by omega⟩) (N8 _ _)) x1
 | pick a r =>
  obtain ⟨y,hy,rfl⟩:=List.mem_map.mp (show c∈(oth p r h).map T4 from hc);have hy:y < p.H:=Xx hy;dsimp only [spD]
  walk_at "x1"
  refine Zi (fun _=>by kernel_rfl) ?_
  walk_at "x1"
  refine Qk (f:=inD false) (b:=true) (fun _=>by kernel_rfl) ?_
  walk_at "x1"
  refine Ao (Xp (k+3)) Lx.1 Lx.2 rfl ?_;show wS (b75 (k+3)) [some p.d,some (.int h),some _,some _,none] mh _;unfold b75
  walk_at "x1"
  unfold T4
  walk_at "x1"
  refine Bj (Jh (k+2) q so (y:Int) mh) ?_
  walk_at "x1"
  refine Bj (Dc (k+1) _ _) ?_;exact f _ _ (mv _ (Gj qo _ ⟨by omega,by omega⟩) (N8 _ _)) Ext.refl
 | all gg r =>
  dsimp only [spD]
  walk_at "x1"
  refine Zi (fun _=>by kernel_rfl) ?_
  walk_at "x1"
  refine Zi (fun _=>by kernel_rfl) ?_
  walk_at "x1"
  refine Qk (f:=inD false) (b:=true) (fun _=>by kernel_rfl) ?_
  walk_at "x1"
  refine Ao (Xq (k+3)) Ly.1 Ly.2 rfl ?_;show wS (b76 (k+3)) [some p.d,some (.int h),some q.d,some _,none,none,none] mh _;unfold b76
  walk_at "x1"
  refine Z1 (k+1) r h p po mh fun j m1 x1 gj=>?_
  walk_at "x1"
  refine Qe (k+2) j (oth p r h) m1 gj (fun x hx=>by have:x < p.H:=Xx hx;omega) ?_
  walk_at "x1"
  refine Bj (K6 (k+2) q so _ m1) ?_
  walk_at "x1"
  refine Bj (Dc (k+1) _ _) ?_;exact f _ _ (mv _ (Ii qo _ (Vx fun x hx=>Xx hx)) (K8 _ _)) x1
 | empty gg =>
  dsimp only [spD]
  walk_at "x1"
  refine Zi (fun _=>by kernel_rfl) ?_
  walk_at "x1"
  refine Zi (fun _=>by kernel_rfl) ?_
  walk_at "x1"
  refine Qk (f:=inD false) (b:=true) (fun _=>by kernel_rfl) ?_
  walk_at "x1"
  refine Ao (Xq (k+3)) Ly.1 Ly.2 rfl ?_;show wS (b76 (k+3)) [some p.d,some (.int h),some q.d,some _,none,none,none] mh _;unfold b76
  walk_at "x1"
  refine Bj (K6 (k+2) q so 0 mh) ?_
  walk_at "x1"
  refine Bj (Dc (k+1) _ _) ?_;exact f _ _ (mv _ (Ii qo _ (Nat.two_pow_pos _)) (K8 _ _)) Ext.refl
 | join gg a =>
  dsimp only [spD]
  walk_at "x1"
  refine Zi (fun _=>by kernel_rfl) ?_
  walk_at "x1"
  refine Zi (fun _=>by kernel_rfl) ?_
  walk_at "x1"
  refine Qk (f:=inD false) (b:=true) (fun _=>by kernel_rfl) ?_
  walk_at "x1"
  refine Ao (Xq (k+3)) Ly.1 Ly.2 rfl ?_;show wS (b76 (k+3)) [some p.d,some (.int h),some q.d,some _,none,none,none] mh _;unfold b76
  walk_at "x1"
  unfold Pt.d
  walk_at "x1"
  refine Z2 so.1 ?_
  walk_at "x1"
  refine Qf so.2 ?_;have nk:=Pt.nm_ok (a:=a) qo;have sk:=Pt.se_ok (g:=gg) qo;generalize q.nm a=to at nk;refine Ay (Af (Ak (Gx (lA (Ba (Av (Aj (by with_unfolding_all rfl) (Ag (Cr ⟨_,rfl,fun e=>?_,fun e=>?_⟩)))))))))
  ·walk_at "x1"
   refine Bj (K6 (k+2) q so.1 (q.se gg) mh) ?_
   walk_at "x1"
   refine Bj (Dc (k+1) _ _) ?_;exact f _ _ (mv _ (Ii qo _ sk) (K8 _ _)) Ext.refl
  ·have e:=beq_eq_false_iff_ne.mp e;obtain ⟨e1,e2⟩:=Qg nk e;rw [e1]
   walk_at "x1"
   refine Qe (k+2) mh.length [to.toNat] _ (by rw [Ai];rfl) (fun x hx=>by rw [List.mem_singleton.mp hx];omega) ?_;refine Xv ?_
   walk_at "x1"
   refine Bj (K6 (k+2) q so.1 _ _) ?_
   walk_at "x1"
   refine Bj (Dc (k+1) _ _) ?_;exact f _ _ (mv _ (Ii qo _ (Nat.or_lt_two_pow sk (Vx fun x hx=>by rw [List.mem_singleton.mp hx];exact e2))) (K8 _ _)) Ext.more
 | out a gg qq =>
  dsimp only [spD]
  walk_at "x1"
  refine Zi (fun _=>by kernel_rfl) ?_
  walk_at "x1"
  refine Zi (fun _=>by kernel_rfl) ?_
  walk_at "x1"
  refine Zi (fun _=>by kernel_rfl) ?_
  walk_at "x1"
  refine Ao (Acm (k+3)) nZ.1 nZ.2 rfl ?_
  show wS (b78 (k+3)) [some q.d,some (.tup [.str "out",Ah a,Ah gg,Ah qq]),some c,none,none] mh _;unfold b78;have hc:c∈T5 (q.se gg):=by rw [← hq];exact hc
  have sk:=Pt.se_ok (g:=gg) qo;obtain ⟨⟨ha,hg⟩,hqq⟩:=so;refine Ak (Cw (Av (Av (Aj (by with_unfolding_all rfl) (Ag (Fw ?_))))))
  walk_at "x1"
  refine Z2 hg ?_;unfold T5 at hc;refine Ay (Af (Ak (Bx (Ba (Av (Aj (by with_unfolding_all rfl) (Ag (Cr ⟨_,rfl,fun e=>?_,fun e=>?_⟩))))))))
  ·walk_at "x1"
   refine Bj (Qj (k+1) q _ _) ?_
   walk_at "x1"
   exact f _ _ (Jv qo (by omega) (by omega)) Ext.refl
  ·have e:¬ ((q.se gg:Nat):Int)=0:=beq_eq_false_iff_ne.mp e;rw [if_neg (by omega)] at hc;obtain ⟨m,hm,rfl⟩:=List.mem_map.mp hc;have hb:(q.se gg).testBit m=true:=(Xj.mp hm).2;have hmH:m < p.H:=by
    rcases Nat.lt_or_ge m p.H with z|z
    ·exact z
    ·have:=Nat.ge_two_pow_of_testBit hb;have:=Nat.pow_le_pow_right (n:=2) (by decide) z;omega
   refine Ax (Af (Ak (Cw (Cj (Ar (Aj (by with_unfolding_all rfl) (Ar ?_))))))) 
   walk_at "x1"
   refine Vw (k+2) [m] _ (fun x hx=>by rw [List.mem_singleton.mp hx];omega) ?_;refine lF ?_;rw [wR hb]
   walk_at "x1"
   refine Bj (K6 (k+1) q hg _ _) ?_
   walk_at "x1"
   unfold T4
   walk_at "x1"
   refine Bj (Jh (k+1) _ ha (m:Int) _) ?_
   walk_at "x1"
   refine Bj (Dc k _ _) ?_
   walk_at "x1"
   refine f _ _ (mv _ (Gj (Ii qo _ (Nat.lt_of_le_of_lt (Nat.sub_le _ _) sk)) _ ⟨by omega,by omega⟩) (by rw [N8,K8])) Ext.refl
 | bell =>
  dsimp only [spD]
  walk_at "x1"
  refine Zi (fun _=>by kernel_rfl) ?_
  walk_at "x1"
  refine Zi (fun _=>by kernel_rfl) ?_
  walk_at "x1"
  refine Zi (fun _=>by kernel_rfl) ?_
  walk_at "x1"
  refine Bj (Z5 (k+2) q true mh) ?_
  walk_at "x1"
  refine Bj (Dc (k+1) _ _) ?_;exact f _ _ (mv _ (T6 qo _) rfl) Ext.refl
 | less a n qq =>
  dsimp only [spD]
  walk_at "x1"
  refine Zi (fun _=>by kernel_rfl) ?_
  walk_at "x1"
  refine Zi (fun _=>by kernel_rfl) ?_
  walk_at "x1"
  refine Zi (fun _=>by kernel_rfl) ?_
  walk_at "x1"
  refine Ao (Qa (k+3)) Ho.1 Ho.2 rfl ?_;show wS (b77 (k+3)) [some q.d,some _,none] mh _;unfold b77
  walk_at "x1"
  refine ix3 ?_
  walk_at "x1"
  refine M9 so.1 ?_
  walk_at "x1"
  have sq:=so.2;refine Cv (fun _=>?_) fun _=>?_
  ·walk_at "x1"
   refine V2 (f:=ixD) (d:=Ah qq) (fun _=>by kernel_rfl) ?_
   walk_at "x1"
   refine Bj (Qj (k+2) q _ _) ?_;exact f _ _ (Jv qo (by omega) (by omega)) Ext.refl
  ·walk_at "x1"
   refine Bj (Dc (k+1) _ _) ?_;exact f _ _ (mv _ qo rfl) Ext.refl
 | before a b qq =>
  dsimp only [spD]
  walk_at "x1"
  refine Zi (fun _=>by kernel_rfl) ?_
  walk_at "x1"
  refine Zi (fun _=>by kernel_rfl) ?_
  walk_at "x1"
  refine Zi (fun _=>by kernel_rfl) ?_
  walk_at "x1"
  refine Ao (Qa (k+3)) Ho.1 Ho.2 rfl ?_;show wS (b77 (k+3)) [some q.d,some _,none] mh _;unfold b77
  walk_at "x1"
  refine ix3 ?_
  walk_at "x1"
  refine M9 so.1.1 ?_
  walk_at "x1"
  refine ix3 ?_
  walk_at "x1"
  refine M9 so.1.2 ?_
  walk_at "x1"
  have sq:=so.2;refine Cv (fun _=>?_) fun _=>?_
  ·walk_at "x1"
   refine V2 (f:=ixD) (d:=Ah qq) (fun _=>by kernel_rfl) ?_
   walk_at "x1"
   refine Bj (Qj (k+2) q _ _) ?_;exact f _ _ (Jv qo (by omega) (by omega)) Ext.refl
  ·walk_at "x1"
   refine Bj (Dc (k+1) _ _) ?_;exact f _ _ (mv _ qo rfl) Ext.refl
 | go qq =>
  have so:qq<=L:=so;dsimp only [spD]
  walk_at "x1"
  refine Zi (fun _=>by kernel_rfl) ?_
  walk_at "x1"
  refine Zi (fun _=>by kernel_rfl) ?_
  walk_at "x1"
  refine Zi (fun _=>by kernel_rfl) ?_
  walk_at "x1"
  refine Ao (Qa (k+3)) Ho.1 Ho.2 rfl ?_;show wS (b77 (k+3)) [some q.d,some _,none] mh _;unfold b77
  walk_at "x1"
  refine V2 (f:=ixD) (d:=Ah qq) (fun _=>by kernel_rfl) ?_
  walk_at "x1"
  refine Bj (Qj (k+2) q _ _) ?_;exact f _ _ (Jv qo (by omega) (by omega)) Ext.refl
 | alike a b qq =>
  dsimp only [spD]
  walk_at "x1"
  refine Zi (fun _=>by kernel_rfl) ?_
  walk_at "x1"
  refine Zi (fun _=>by kernel_rfl) ?_
  walk_at "x1"
  refine Zi (fun _=>by kernel_rfl) ?_
  walk_at "x1"
  refine Ao (Qa (k+3)) Ho.1 Ho.2 rfl ?_;show wS (b77 (k+3)) [some q.d,some _,none] mh _;unfold b77
  walk_at "x1"
  refine ixM ?_
  walk_at "x1"
  refine Qf so.1.1 ?_
  walk_at "x1"
  refine ixM ?_
  walk_at "x1"
  refine Qf so.1.2 ?_
  walk_at "x1"
  have sq:=so.2;refine Cv (fun _=>?_) fun _=>?_
  ·walk_at "x1"
   refine V2 (f:=ixD) (d:=Ah qq) (fun _=>by kernel_rfl) ?_
   walk_at "x1"
   refine Bj (Qj (k+2) q _ _) ?_;exact f _ _ (Jv qo (by omega) (by omega)) Ext.refl
  ·walk_at "x1"
   refine Bj (Dc (k+1) _ _) ?_;exact f _ _ (mv _ qo rfl) Ext.refl
 | many gg n qq =>
  dsimp only [spD]
  walk_at "x1"
  refine Zi (fun _=>by kernel_rfl) ?_
  walk_at "x1"
  refine Zi (fun _=>by kernel_rfl) ?_
  walk_at "x1"
  refine Zi (fun _=>by kernel_rfl) ?_
  walk_at "x1"
  refine Ao (Qa (k+3)) Ho.1 Ho.2 rfl ?_;show wS (b77 (k+3)) [some q.d,some _,none] mh _;unfold b77
  walk_at "x1"
  refine ixS ?_
  walk_at "x1"
  refine Z2 so.1 ?_
  walk_at "x1"
  refine qF k _ (Afv hH (Pt.se_ok qo)) fun n2 m1 x1=>?_
  walk_at "x1"
  have sq:=so.2;refine Cv (fun _=>?_) fun _=>?_
  ·walk_at "x1"
   refine V2 (f:=ixD) (d:=Ah qq) (fun _=>by kernel_rfl) ?_
   walk_at "x1"
   refine Bj (Qj (k+2) q _ _) ?_;exact f _ _ (Jv qo (by omega) (by omega)) x1
  ·walk_at "x1"
   refine Bj (Dc (k+1) _ _) ?_;exact f _ _ (mv _ qo rfl) x1
 | take bx ls=>exact absurd rfl (ht bx ls)
 | send a kd b c'=>exact absurd rfl (hs a kd b c')
end
theorem qG (mh:MH) (xs ys:List Int):eqB mh (.tup (xs.map D.int)) (.tup (ys.map D.int))=some (xs==ys):=by
 have e:∀ zs:List Int,py mh 60 (.tup (zs.map D.int))=some (.tuple (zs.map PyData.int)):=fun zs=>by
  show (match mapO (py mh 59) (zs.map D.int) with | some xs=>some (PyData.tuple xs) | none=>none)=_;rw [Ls]
 unfold eqB;rw [e,e];simp only [PyData.eqv,M7]
section
variable {mh:MH}{P:D->MH->Prop}{p:Pg}{w:Wd}{S:List (List Sp)}
theorem T7 (wo:w.ok p) {s t:Nat}(hs:s < p.plays.length) (ht:t < p.plays.length):Zy p (w.cell s t):=by
 obtain ⟨v,e1,e2,vo⟩:=Jf wo hs ht;exact vo.2 _ (List.mem_of_getElem? e2)
theorem K9 (wo:w.ok p) {h:Nat}(hh:h < p.plays.length):(w.pt h).ok p.H (p.len (plA p h)):=by
 obtain ⟨r,er,qo⟩:=Vv wo hh;rw [Ju hh] at er;cases er;exact qo
theorem qH (k h a kd b c:Nat) (g:Prg p S) (wo:w.ok p) (hh:h < p.plays.length) (so:Sp.ok p (p.len (plA p h)) (.send a kd b c)) (p1:0<=(w.pt h).pl) (p2:(w.pt h).pl < p.len (plA p h)) (hm:Nj p w h a=true)
  (f:∀ w':Wd,w'.ok p->P w'.d mh):wV (Ad (Gk (k+4)) Ac f79 [w.d,.int h,spD (.send a kd b c)] mh) P:=by
 obtain ⟨⟨ha,hb,hc⟩,hk1,hk2⟩:=so;have po:=g.po;have rm:=po.rm;have qo:=K9 wo hh;have nk:=Pt.nm_ok (a:=a) qo;have nc:=Pt.nm_ok (a:=c) qo;refine Ao (Acn (k+3)) oA.1 oA.2 rfl ?_;show wS (b79 (k+3)) [some w.d,some (.int h),some (spD (.send a kd b c)),none,none,none,none] mh _;unfold b79
 walk_at "x1"
 refine Fx (k+2) h (by rw [wo.lp];exact hh) ?_
 walk_at "x1"
 refine Bj (Dc k _ _) ?_
 walk_at "x1"
 refine Hw (k+1) h po wo hh _ ?_;have qo1:=Jv qo (pl:=(w.pt h).pl+1) (by omega) (by omega);have w1o:(w.setP h ((w.pt h).to ((w.pt h).pl+1))).ok p:=K5 wo fun r er=>by
  rw [Ju hh] at er;cases er;exact qo1
 unfold Nj pW at hm;refine Ay (Af (Ak (Cw ?_)));refine Av (Av (Aj (d:=(w.pt h).d) (by with_unfolding_all rfl) (Ag (Ep ?_))));refine Av (Aj (by with_unfolding_all rfl) (Ag (Fe ?_)));refine Qf ha ?_;generalize (w.pt h).nm a=to at nk hm;refine Ay (Af (Ak (Bx (Pu (Ba (Av (Aj (by with_unfolding_all rfl) (Ag (Cr ⟨_,rfl,fun e=>?_,fun e=>?_⟩)))))))))
 ·walk_at "x1"
  exact f _ w1o
 ·have hn:¬ to=-1:=beq_eq_false_iff_ne.mp e;obtain ⟨e1,e2⟩:=Qg nk hn;rw [e] at hm;refine H9 (Cj (Ar (Cj (Ar (Aj (by with_unfolding_all rfl) (Ar (Aj (d:=.int to) (by with_unfolding_all rfl) (Ag ?_)))))))) ;rw [e1];refine Fx (k+2) to.toNat (by rw [wo.lp];exact e2) ?_
  walk_at "x1"
  refine Ka (k+2) _ _ ⟨_,rfl,Cv (fun e3=>?_) fun e3=>?_⟩
  ·walk_at "x1"
   exact f _ w1o
  ·rw [e3] at hm;have hm:(w.cell h to.toNat).length < p.room:=by simpa using hm
   refine Ax (Af (Ak (Cw (Pq (Ar ?_)))));dsimp only [spD]
   walk_at "x1"
   refine Fe (b:=.tup [.int (w.pt h).n0,.int (w.pt h).n1,.int (w.pt h).n2]) ?_
   walk_at "x1"
   refine M9 hb ?_
   walk_at "x1"
   refine Ep (c:=.tup [.int (w.pt h).m0,.int (w.pt h).m1,.int (w.pt h).m2]) ?_
   walk_at "x1"
   refine Qf hc ?_
   walk_at "x1"
   refine Ff (k+2) h to.toNat wo hh e2 ?_
   walk_at "x1"
   have lo:=T7 wo hh e2;have ll:=lo.1;unfold lsD;refine Dr (by rw [List.length_map,List.length_singleton];omega) ?_;have el:(w.cell h to.toNat).map ltD++[D.tup [Ah kd,.int ((w.pt h).nu b),.int ((w.pt h).nm c)]]=(w.cell h to.toNat++[((kd:Int),(w.pt h).nu b,(w.pt h).nm c)]).map ltD:=by rw [List.map_append];rfl
   rw [el]
   walk_at "x1"
   refine Mf (k+1) h to.toNat po w1o hh e2 _ ?_
   walk_at "x1"
   refine f _ (N7 w1o ⟨by rw [List.length_append,List.length_singleton];omega,fun z hz=>?_⟩);rcases List.mem_append.mp hz with hz|hz
   ·exact lo.2 z hz
   ·rw [List.mem_singleton.mp hz];exact ⟨⟨by show (1:Int)<=(kd:Int);omega,by show (kd:Int)<=12;omega⟩,nc⟩
theorem qI (k s t:Nat) (po:p.ok) (wo:w.ok p) (hs:s < p.plays.length) (ht:t < p.plays.length) (hx:¬ w.x=0) (f:∀ w':Wd,w'.ok p->P w'.d mh):wV (Ad (Gk (k+3)) Ac f90 [w.d,.int s,.int t] mh) P:=by
 have lo:=T7 wo hs ht;refine Ao (Acy (k+2)) oR.1 oR.2 rfl ?_;show wS (b90 (k+2)) [some w.d,some (.int s),some (.int t),none,none] mh _;unfold b90;refine Ak (Cw (Av (Aj (by with_unfolding_all rfl) (Ag (Ep (c:=.tup [.int w.x,.int w.y]) ?_)))))
 walk_at "x1"
 refine Ff (k+1) s t wo hs ht ?_
 walk_at "x1"
 have sl:∀ {P:D->MH->Prop},P (lsD (w.cell s t).tail) mh->wV (slD (lsD (w.cell s t)) (some 1) none mh) P:=fun {P} h=>by
  cases e:w.cell s t with
  | nil =>
   rw [e] at h;exact ⟨_,_,rfl,h⟩
  | cons l r =>
   rw [e] at h;refine Ig (i:=1) (ds:=(l::r).map ltD) (by simp) ?_;exact h
 refine sl ?_
 walk_at "x1"
 refine Mf k s t po wo hs ht _ ?_;have w1o:(w.setC s t (w.cell s t).tail).ok p:=N7 wo ⟨by rw [List.length_tail];have:=lo.1;omega,fun z hz=>lo.2 z (List.mem_of_mem_tail hz)⟩
 walk_at "x1"
 refine Es (k+1) (i:=2) (by simp) (by simp) ?_;have e:((w.x:Nat):Int) - 1=((w.x - 1:Nat):Int):=by omega
 rw [e];exact f { w.setC s t (w.cell s t).tail with x:=w.x - 1 } ⟨w1o.lp,w1o.ps,w1o.lr,w1o.rs,by have:=wo.xx;show w.x - 1<=_;omega,w1o.yy⟩
theorem Z6 (k:Nat) (pl:Int) (mh:MH):Ad (Gk (k+1)) Ac f9 [.int pl] mh=some ((⟨pl,0,0,0,-1,-1,-1,0,0,false⟩:Pt).d,mh):=by kernel_rfl
theorem Ji {k:Nat}{x:D}{mh:MH}{P:D->MH->Prop}(h1:1<=k) (h2:k<=1000) (h:P (.tup (List.replicate k x)) mh):wV (Gv (.tup [x]) (.int k) mh) P:=by
 refine ⟨_,_,?_,h⟩;show (if (k:Int)=1 then some (D.tup [x],mh) else if (List.isEmpty [x]=false/\[x].length<=1000)/\(1 < (k:Int)/\(k:Int)<=1000) then some (D.tup (List.replicate (k:Int).toNat [x]).flatten,mh) else none)=_
 by_cases e:k=1
 ·subst e;rfl
 ·rw [if_neg (by omega),if_pos ⟨⟨rfl,by simp⟩,by omega,by omega⟩,Int.toNat_natCast];have e:(List.replicate k [x]).flatten=List.replicate k x:=by
   clear h h1 h2 e
   induction k with
   | zero=>rfl
   | succ k ih=>rw [List.replicate_succ,List.flatten_cons,ih,List.replicate_succ];rfl
  rw [e]
theorem V3 {H L:Nat}(h1:1<=H) {pl:Int}(h2:-1<=pl) (h3:pl<=L):(⟨pl,0,0,0,-1,-1,-1,0,0,false⟩:Pt).ok H L:=⟨h2,h3,⟨show (-1:Int)<=-1 by decide,show (-1:Int)<=(H:Int) - 1 by omega⟩,⟨show (-1:Int)<=-1 by decide,show (-1:Int)<=(H:Int) - 1 by omega⟩,⟨show (-1:Int)<=-1 by decide,show (-1:Int)<=(H:Int) - 1 by omega⟩,Nat.two_pow_pos _,Nat.two_pow_pos _⟩
theorem qJ (k h:Nat) (po:p.ok) (wo:w.ok p) (hh:h < p.plays.length) (hy:¬ w.y=0) (f:∀ w':Wd,w'.ok p->P w'.d mh):wV (Ad (Gk (k+3)) Ac f91 [w.d,.int h] mh) P:=by
 have h1:=po.h1;have h6:=po.h6;refine Ao (Acz (k+2)) oU.1 oU.2 rfl ?_;show wS (b91 (k+2)) [some w.d,some (.int h),none,none] mh _;unfold b91;refine Ak (Cw (Av (Aj (by with_unfolding_all rfl) (Ag (Ep (c:=.tup [.int w.x,.int w.y]) ?_)))));unfold Wd.d
 walk_at "x1"
 refine Bv (ds:=w.ps.map Pt.d) (by intro z z';cases z') rfl ?_;rw [List.length_map,wo.lp];refine Ji h1 (by omega) ?_
 walk_at "x1"
 refine Es (k+1) (by rw [List.length_map,wo.lr];exact hh) (by rw [List.length_map,wo.lr];omega) ?_
 walk_at "x1"
 refine Es (k+1) (i:=1) (by simp) (by simp) ?_;have e0:(w.rs.map Eg).set h (.tup (List.replicate p.plays.length (.tup [])))=(w.rs.set h (List.replicate p.plays.length [])).map Eg:=by
  rw [List.map_set];unfold Eg;rw [List.map_replicate];rfl
 rw [e0]
 walk_at "x1"
 refine Bj (Z6 (k+1) (-1) mh) ?_
 walk_at "x1"
 have w1o:(⟨w.ps,w.rs.set h (List.replicate p.plays.length []),w.x,w.y⟩:Wd).ok p:=by
  refine ⟨wo.lp,wo.ps,by rw [List.length_set];exact wo.lr,fun v hv=>?_,wo.xx,wo.yy⟩;rcases List.mem_or_eq_of_mem_set hv with hv|rfl
  ·exact wo.rs v hv
  ·exact ⟨List.length_replicate,fun l hl=>by rw [(List.mem_replicate.mp hl).2];exact ⟨Nat.zero_le _,fun z hz=>absurd hz (by simp)⟩⟩
 refine Hw (w:=⟨w.ps,w.rs.set h (List.replicate p.plays.length []),w.x,w.y⟩) k h po w1o hh _ ?_
 walk_at "x1"
 refine Es (k+1) (i:=2) (by simp) (by simp) ?_;have e:((w.y:Nat):Int) - 1=((w.y - 1:Nat):Int):=by omega
 rw [e];have w2o:=K5 (h:=h) (y:=⟨-1,0,0,0,-1,-1,-1,0,0,false⟩) w1o fun r _=>V3 h1 (by decide) (by omega)
 exact f ⟨w.ps.set h ⟨-1,0,0,0,-1,-1,-1,0,0,false⟩,w.rs.set h (List.replicate p.plays.length []),w.x,w.y - 1⟩ ⟨w2o.lp,w2o.ps,w2o.lr,w2o.rs,w2o.xx,by have:=wo.yy;show w.y - 1<=_;omega⟩
end
section
variable {mh:MH}{P:D->MH->Prop}{p:Pg}{w:Wd}{S:List (List Sp)}
theorem Ql {h:Nat}{bx:Int}{ls:List Ln}{c:D}(wo:w.ok p) (hh:h < p.plays.length) (hc:c∈Qh p w h bx ls) :
  (c=.tup [.int (-1),.int 0]/\(0:Int)∈Kd ls)\/∃ s l r,s < p.plays.length/\w.cell s h=l::r/\l.1∈Kd ls/\c=.tup [.int (s:Nat),.int l.1]:=by
 unfold Qh at hc;rcases List.mem_append.mp hc with hc|hc
 ·unfold Iv at hc;split at hc
  ·rename_i e;rw [Bool.and_eq_true] at e;exact Or.inl ⟨List.mem_singleton.mp hc,of_decide_eq_true e.1⟩
  ·cases hc
 ·obtain ⟨s,hs,hc⟩:=List.mem_flatMap.mp hc;have hs:=V0 wo hh hs;unfold Kc at hc;split at hc
  ·cases hc
  ·rename_i l r ec;split at hc
   ·rename_i hk;exact Or.inr ⟨s,l,r,hs,ec,hk,List.mem_singleton.mp hc⟩
   ·cases hc
theorem dB (k h:Nat) (bx:Int) (ls:List Ln) (g:Prg p S) (wo:w.ok p) (hh:h < p.plays.length) (so:Sp.ok p (p.len (plA p h)) (.take bx ls)) {c:D}(hc:c∈Qh p w h bx ls)
  (f:∀ (w':Wd) h',w'.ok p->Ext [] mh h'->P w'.d h'):wV (Ad (Gk (k+4)) Ac f80 [w.d,.int h,spD (.take bx ls),c] mh) P:=by
 obtain ⟨sb,sl,sk⟩:=so;have po:=g.po;have qo:=K9 wo hh;obtain ⟨x,kd,rfl,hk⟩:∃ x kd:Int,c=.tup [.int x,.int kd]/\kd∈Kd ls:=by
  rcases Ql wo hh hc with ⟨rfl,h0⟩|⟨s,l,r,_,_,h0,rfl⟩
  ·exact ⟨_,_,rfl,h0⟩
  ·exact ⟨_,_,rfl,h0⟩
 refine Ao (Aco (k+3)) oE.1 oE.2 rfl ?_;show wS (b80 (k+3)) [some w.d,some (.int h),some (spD (.take bx ls)),some (.tup [.int x,.int kd]),none,none,none,none] mh _;unfold b80;refine Ak (Cw (Av ?_));refine Gz ls lnD (fun l=>((l.kd:Nat):Int)==kd) lnD (by omega) ?_ (fun x h' R hx ex hR=>?_) fun m1 x1=>?_
 ·dsimp only [spD]
  walk_at "x1"
  exact ⟨_,rfl,Eh rfl⟩
 ·refine Ay ⟨rfl,?_⟩;refine Ba (Av (Av (Aj (d:=lnD x) (by with_unfolding_all rfl) (Ag (Eo ?_)))))
  walk_at "x1"
  refine ⟨rfl,rfl,fun _=>?_⟩;refine Aj (d:=lnD x) (by with_unfolding_all rfl) ?_;exact hR _ Ext.refl
 cases el:ls.filter fun l=>((l.kd:Nat):Int)==kd with
 | nil =>
  obtain ⟨l,hl,e⟩:=List.mem_map.mp hk;have:=List.filter_eq_nil_iff.mp el l hl;rw [e] at this;exact absurd (beq_self_eq_true _) this
 | cons ln lr =>
  have hln:ln∈ls:=(List.mem_filter.mp (by rw [el];exact List.mem_cons_self)).1;have lo:=sk ln hln;rw [List.map_cons];refine Ag (Py (j:=0) Ai rfl ?_);generalize hm2:m1++[MO.lst (lnD ln::lr.map lnD)]=m2;have x2:Ext [] mh m2:=by rw [← hm2];exact x1.trans Ext.more
  refine Ay (Af (Ak (Cw (Cj (Ar (Cj (Ar (Aj (by with_unfolding_all rfl) (Ar (Aj (by with_unfolding_all rfl) (Ag (Fx (k+2) h (by rw [wo.lp];exact hh) ?_)))))))))))) ;refine Ar (Av (Aj (d:=lnD ln) (by with_unfolding_all rfl) (Ag (Qc ?_))))
  walk_at "x1"
  refine Bj (Qj (k+1) _ _ _) ?_;have q1:=Jv qo (pl:=((ln.q:Nat):Int)) (by omega) (by have:=lo.q;omega);generalize hq1:(w.pt h).to ((ln.q:Nat):Int)=u1;have q1:u1.ok p.H (p.len (plA p h)):=by rw [← hq1];exact q1
  have fin:∀ {u:Pt},u.ok p.H (p.len (plA p h))->∀ {w1:Wd},w1.ok p->(w1.setP h u).ok p:=fun {u} uo {w1} o1=>K5 o1 fun r er=>by
   rw [Ju hh] at er;cases er;exact uo
  refine Ay (Af (Ak (Bx (Ba (Av (Aj (by with_unfolding_all rfl) (Ag ?_)))))));have ee:=qG m2 [x,kd] [-1,0];refine Jt ee ⟨_,rfl,fun e=>?_,fun e=>?_⟩
  ·walk_at "x1"
   refine Bj (Z5 (k+1) u1 false m2) ?_
   walk_at "x1"
   refine Hw (k+1) h po wo hh _ ?_
   walk_at "x1"
   exact f _ _ (fin (T6 q1 _) wo) x2
  ·rcases Ql wo hh hc with ⟨e1,_⟩|⟨s,l,r,hs,ec,h0,e1⟩
   ·cases e1;cases e
   ·cases e1;have co:=T7 wo hs hh;refine Ax (Af ?_)
    walk_at "x1"
    refine Ff (k+2) s h wo hs hh ?_;rw [ec] at co ⊢;refine Ay (Af ?_);show wS _ [some w.d,some (.int h),some (spD (.take bx ls)),some (.tup [.int (s:Nat),.int l.1]),some (lnD ln),some u1.d,some (.int (s:Nat)),some (.tup (ltD l::r.map ltD))] m2 _
    walk_at "x1"
    refine V2 (f:=ixD) (d:=Ah ln.a) (fun _=>by kernel_rfl) ?_
    walk_at "x1"
    refine Fe (a:=.int l.1) (b:=.int l.2.1) ?_
    walk_at "x1"
    refine Bj (Jg (k+1) u1 lo.a l.2.1 m2) ?_
    walk_at "x1"
    refine V2 (f:=ixD) (d:=Ah ln.b) (fun _=>by kernel_rfl) ?_
    walk_at "x1"
    refine Ep (a:=.int l.1) (b:=.int l.2.1) (c:=.int l.2.2) ?_
    walk_at "x1"
    refine Bj (Jh (k+1) _ lo.b l.2.2 m2) ?_
    walk_at "x1"
    refine V2 (f:=ixD) (d:=Ah ln.c) (fun _=>by kernel_rfl) ?_
    walk_at "x1"
    refine Bj (Jh (k+1) _ lo.c (s:Int) m2) ?_
    walk_at "x1"
    refine Ig (i:=1) (ds:=(l::r).map ltD) (by simp) ?_
    walk_at "x1"
    refine Mf (k+1) s h po wo hs hh r ?_;have w1o:=N7 (s:=s) (t:=h) (l:=r) wo ⟨by have:=co.1;rw [List.length_cons] at this;omega,fun z hz=>co.2 z (List.mem_cons_of_mem _ hz)⟩
    walk_at "x1"
    refine Hw (k+1) h po w1o hh _ ?_;have hl:=(co.2 l List.mem_cons_self).2;have hs:s < p.H:=hs;exact f _ _ (fin (Gj (Gj (Gi q1 _ _) _ hl) _ ⟨by omega,by omega⟩) w1o) x2
theorem qK (k h:Nat) (g:Prg p S) (wo:w.ok p) (hh:h < p.plays.length) {s:Sp}(es:stW p S w h=some s) {c:D}(hc:c∈chs p w h s)
  (f:∀ (w':Wd) h',w'.ok p->Ext [] mh h'->P w'.d h'):wV (Ad (Gk (k+6)) Ac f72 [p.d,w.d,.int h,spD s,c] mh) P:=by
 obtain ⟨so,p1,p2⟩:=qD g hh es;have qo:=K9 wo hh;refine Ao (Ack (k+5)) nW.1 nW.2 rfl ?_;show wS (b72 (k+5)) [some p.d,some w.d,some (.int h),some (spD s),some c] mh _;have quiet:(∀ bx ls,s≠.take bx ls)->(∀ a kd b c,s≠.send a kd b c)->wS (b72 (k+5)) [some p.d,some w.d,some (.int h),some (spD s),some c] mh (Px P):=fun ht hs=>by
  obtain ⟨wd,rest,e,h0,h1,h2⟩:∃ (wd:Str) (rest:List D),spD s=.tup (.str wd::rest)/\PyData.strOk wd=true/\(wd==("send":Str))=false/\(wd==("take":Str))=false:=by
   cases s with
   | take bx ls=>exact absurd rfl (ht bx ls)
   | send a kd b c=>exact absurd rfl (hs a kd b c)
   | _=>exact ⟨_,_,rfl,by decide +kernel,by decide +kernel,by decide +kernel⟩
  have ix:∀ {Q:D->MH->Prop} {m:MH},Q (.str wd) m->wV (ixD (spD s) (.int 0) m) Q:=fun q=>by
   rw [e];exact Eo q
  unfold b72
  walk_at "x1"
  refine ix ?_;refine Ag (Jt (k:=false) (Ia h0 (by decide +kernel) h1 mh) ⟨_,rfl,Ed (Ax (Af ?_))⟩)
  walk_at "x1"
  refine ix ?_;refine Ag (Jt (k:=false) (Ia h0 (by decide +kernel) h2 mh) ⟨_,rfl,Ed (Ax (Af ?_))⟩)
  walk_at "x1"
  refine Fx (k+4) h (by rw [wo.lp];exact hh) ?_
  walk_at "x1"
  refine cZ k h g wo hh s so qo p1 p2 c hc ht hs fun q' h' qo' x1=>?_
  walk_at "x1"
  refine Hw (k+3) h g.po wo hh _ ?_;exact f _ _ (K5 wo fun r er=>by rw [Ju hh] at er;cases er;exact qo') x1
 cases s with
 | send a kd b c' =>
  have hm:Nj p w h a=true:=by
   have hc:c∈(if Nj p w h a=true then [D.int 0] else []):=hc;cases e:Nj p w h a with
   | true=>rfl
   | false=>rw [e] at hc;cases hc
  unfold b72;dsimp only [spD]
  walk_at "x1"
  refine qH (k+1) h a kd b c' g wo hh so p1 p2 hm fun w' o'=>?_
  exact f _ _ o' Ext.refl
 | take bx ls =>
  unfold b72;dsimp only [spD]
  walk_at "x1"
  exact dB (k+1) h bx ls g wo hh so hc f
 | _=>exact quiet (fun _ _ z=>by cases z) fun _ _ _ _ z=>by cases z
end
theorem Oa {ms:DM Src}{g:GM}{body:SM}{l0:DL.Loc}{mh:MH}{K:Fl->DL.Loc->MH->Prop}{α:Type}(xs:List α) (G:α->D) (F:α->List D) (acc:List D) (j:Nat) (I:DL.Loc->Prop)
  (hj:mh[j]?=some (.lst acc)) (i0:I l0) (hb:(acc++xs.flatMap F).length<=1000000)
  (hm:wD ms l0 mh fun src h0=>Ext [] mh h0/\∀ h,Ext [j] h0 h->src.ok h=true/\src.items h=xs.map G)
  (step:∀ x l h a,x∈xs->I l->Ext [j] mh h->h[j]?=some (.lst a)->(a++F x).length<=1000000->∀ {J:DL.Loc->MH->Prop},(∀ l2 h2,I l2->Ext [j] h h2->h2[j]?=some (.lst (a++F x))->J l2 h2)->wG (g (G x) l h) fun l1 h1=>wS body l1 h1 (Abh J K))
  (fin:∀ l h,I l->Ext [j] mh h->h[j]?=some (.lst (acc++xs.flatMap F))->K .nx l h):wS (Ge ms g body) l0 mh K:=by
 refine Ez (Bo hm ?_);rintro src h0 ⟨x0,keep⟩;refine ⟨xs.map G,fun i l h=>I l/\Ext [j] h0 h/\h[j]?=some (.lst (acc++(xs.take i).flatMap F)),⟨i0,Ext.refl,by rw [x0.old _ _ (by simp) hj];simp⟩,fun i l h q=>keep h q.2.1,?_,?_⟩
 ·rintro i d l h ed ⟨il,xh,gh⟩;rw [List.getElem?_map] at ed;cases ex:xs[i]? with
  | none=>rw [ex] at ed;cases ed
  | some x =>
   rw [ex] at ed;cases ed;have et:(xs.take (i+1)).flatMap F=(xs.take i).flatMap F++F x:=by
    rw [List.take_add_one,ex,List.flatMap_append];simp
   refine step x l h _ (List.mem_of_getElem? ex) il (x0.weak.trans xh) gh ?_ fun l2 h2 i2 x2 g2=>⟨i2,xh.trans x2,by rw [g2,et,List.append_assoc]⟩
   rw [List.append_assoc,← et];refine Nat.le_trans ?_ hb;rw [List.length_append,List.length_append];have:((xs.take (i+1)).flatMap F).length+((xs.drop (i+1)).flatMap F).length=(xs.flatMap F).length:=by
    rw [← List.length_append,← List.flatMap_append,List.take_append_drop]
   omega
 ·rintro l h ⟨il,xh,gh⟩;rw [List.length_map,List.take_length] at gh;exact fin l h il (x0.weak.trans xh) gh
theorem Ob {n j:Nat}{α:Type}{xs:List α}{F:α->D}{mh h0:MH}(x:Ext [] mh h0) (e:h0[n]?=some (.lst (xs.map F))) (hn:n≠j):Ext [] mh h0/\∀ h,Ext [j] h0 h->(Src.lref n).ok h=true/\(Src.lref n).items h=xs.map F :=
 ⟨x,fun h y=>Hv (y.old _ _ (by intro z;exact hn (List.mem_singleton.mp z)) e)⟩
noncomputable def doD (h:Nat) (c:D):D:=.tup [.str "do",Ah h,c]
noncomputable def loD (s t:Nat):D:=.tup [.str "lose",Ah s,Ah t]
noncomputable def faD (h:Nat):D:=.tup [.str "fall",Ah h]
noncomputable def doL (p:Pg) (S:List (List Sp)) (w:Wd):List D:=(List.range p.H).flatMap fun h=>(chW p S w h).flatMap fun c=>[doD h c]
noncomputable def Xz (w:Wd) (s t:Nat):List D:=if 0 < (w.cell s t).length then [loD s t] else []
noncomputable def Adh (p:Pg) (w:Wd):List D:=(List.range p.H).flatMap fun s=>(List.range p.H).flatMap fun t=>Xz w s t
noncomputable def Qz (p:Pg) (w:Wd):List D:=if w.x=0 then [] else Adh p w
noncomputable def Q0 (p:Pg) (w:Wd):List D:=if w.y=0 then [] else ((List.range p.H).filter fun h=>!wM (w.pt h)).map faD
theorem La {α β:Type}{f:α->List β}{b:Nat}:∀ (l:List α),(∀ x∈l,(f x).length<=b)->(l.flatMap f).length<=l.length * b
 | [],_=>by simp
 | x::r,h=>by
  rw [List.flatMap_cons,List.length_append,List.length_cons,Nat.succ_mul];have:=La r fun y hy=>h y (List.mem_cons_of_mem _ hy)
  have:=h x List.mem_cons_self;omega
section
variable {mh:MH}{P:D->MH->Prop}{p:Pg}{w:Wd}{S:List (List Sp)}
theorem Z7 (po:p.ok):(Adh p w).length<=36:=by
 have h6:p.H<=6:=po.h6;have h1:∀ s∈List.range p.H,((List.range p.H).flatMap fun t=>Xz w s t).length<=6:=fun s _=>by
  refine Nat.le_trans (La (b:=1) _ fun t _=>?_) (by rw [List.length_range];omega);unfold Xz;split <;> simp
 refine Nat.le_trans (La (b:=6) _ h1) ?_;rw [List.length_range];omega
theorem Qm (k:Nat) (po:p.ok) (wo:w.ok p) (q:∀ j h',Ext [] mh h'->h'[j]?=some (.lst (Qz p w))->P (.ref j) h'):wV (Ad (Gk (k+2)) Ac f83 [w.d] mh) P:=by
 have h6:p.H<=6:=po.h6;refine Ao (Acq (k+1)) oG.1 oG.2 rfl ?_;show wS (b83 (k+1)) [some w.d,none,none,none] mh _;unfold b83;refine Ak (Cw (Pr (Ag ⟨by simp,Ay (Af ?_)⟩)));refine Ak (Bx (Ba (Av (Av (Av (Aj (by with_unfolding_all rfl) (Ag (Ep (c:=.tup [.int w.x,.int w.y]) ?_))))))))
 walk_at "x1"
 unfold Qz at q
 by_cases e0:w.x=0
 ·refine Nx (by rw [e0];rfl) ?_;rw [if_pos e0] at q
  walk_at "x1"
  exact q _ _ Ext.more Ai
 ·refine Tq (beq_eq_false_iff_ne.mpr (by omega)) (Ax (Af (Ak ?_)));rw [if_neg e0] at q;have hl:=Z7 (w:=w) po;refine Oa (List.range p.H) Ah (fun s=>(List.range p.H).flatMap fun t=>Xz w s t) [] mh.length (fun l=>∃ x y,l=[some w.d,some (.ref mh.length),x,y]) Ai ⟨_,_,rfl⟩ (by show (Adh p w).length<=_;omega) ?_ (fun s l h a hs il xh gh hz J hJ=>?_) fun l h il xh gh=>?_
  ·walk_at "x1"
   refine Ih k wo po fun j h1 x1 lj gj=>⟨_,src_list gj,Ob x1 gj ?_⟩
   rw [List.length_append,List.length_singleton] at lj;omega
  ·obtain ⟨x,y,rfl⟩:=il;have hs:=List.mem_range.mp hs;refine Ay ?_;show wS _ [some w.d,some (.ref mh.length),some (Ah s),y] h _;refine Ak ?_;refine Oa (List.range p.H) Ah (fun t=>Xz w s t) a mh.length (fun l=>∃ y,l=[some w.d,some (.ref mh.length),some (Ah s),y]) gh ⟨_,rfl⟩ hz ?_ (fun t l h3 a3 ht il x3 g3 hz3 J3 hJ3=>?_) fun l h3 il x3 g3=>?_
   ·walk_at "x1"
    refine Ih k wo po fun j h1 x1 lj gj=>⟨_,src_list gj,Ob x1 gj ?_⟩
    have:=(List.getElem?_eq_some_iff.mp gh).1;omega
   ·obtain ⟨y,rfl⟩:=il;have ht:=List.mem_range.mp ht;refine Ay ?_;show wS _ [some w.d,some (.ref mh.length),some (Ah s),some (Ah t)] h3 _
    walk_at "x1"
    refine Ff k s t wo hs ht ?_
    walk_at "x1"
    refine Bv (ds:=(w.cell s t).map ltD) (by intro z z';cases z') rfl ?_;rw [List.length_map];unfold Xz at hJ3 hz3;refine Ag (Gf ⟨_,rfl,fun e=>?_,fun e=>?_⟩)
    ·have e:=of_decide_eq_true e;rw [if_pos (by omega)] at hJ3 hz3
     walk_at "x1"
     refine ⟨ty_list g3,?_⟩
     walk_at "x1"
     refine Dp g3 (by rw [List.length_append] at hz3;omega) ?_
     walk_at "x1"
     exact hJ3 _ _ ⟨_,rfl⟩ Ext.set (Iu g3)
    ·have e:=of_decide_eq_false e;rw [if_neg (by omega),List.append_nil] at hJ3;refine Ax (Af (Ax ?_));exact hJ3 _ _ ⟨_,rfl⟩ Ext.refl g3
   ·obtain ⟨y,rfl⟩:=il;refine Af (Ax ?_);exact hJ _ _ ⟨_,_,rfl⟩ x3 g3
  ·obtain ⟨x,y,rfl⟩:=il;rw [List.nil_append] at gh
   walk_at "x1"
   refine q _ _ ⟨Nat.le_trans (by simp) xh.len,fun i o _ e=>?_⟩ gh;have hi:=(List.getElem?_eq_some_iff.mp e).1;exact xh.old i o (by intro z;have:=List.mem_singleton.mp z;omega) ((Ext.more (W:=[])).old _ _ (by simp) e)
theorem Rx (k:Nat) (po:p.ok) (wo:w.ok p) (q:∀ j h',Ext [] mh h'->h'[j]?=some (.lst (Q0 p w))->P (.ref j) h'):wV (Ad (Gk (k+2)) Ac f84 [w.d] mh) P:=by
 have h6:p.H<=6:=po.h6;refine Ao (Acr (k+1)) oH.1 oH.2 rfl ?_;show wS (b84 (k+1)) [some w.d] mh _;unfold b84;refine Ak (Bx (Ba (Av (Av (Av (Aj (by with_unfolding_all rfl) (Ag (Ep (c:=.tup [.int w.x,.int w.y]) ?_))))))))
 walk_at "x1"
 unfold Q0 at q
 by_cases e0:w.y=0
 ·refine Nx (by rw [e0];rfl) ?_;rw [if_pos e0] at q
  walk_at "x1"
  exact q _ _ Ext.more Ai
 ·refine Tq (beq_eq_false_iff_ne.mpr (by omega)) (Ax (Af (Ak (Gx ?_))));rw [if_neg e0] at q;refine Gz (List.range p.H) Ah (fun h=>!wM (w.pt h)) faD (by rw [List.length_range];omega) ?_ (fun x h' R hx ex hR=>?_) fun m1 x1=>?_
  ·walk_at "x1"
   exact Ih k wo po fun j h1 x1 lj gj=>⟨_,src_list gj,x1,T3 gj⟩
  ·refine Ay ⟨rfl,?_⟩
   walk_at "x1"
   refine Fx k x (by rw [wo.lp];exact List.mem_range.mp hx) ?_
   walk_at "x1"
   refine Ka k _ _ ⟨_,rfl,rfl,rfl,fun _=>?_⟩
   walk_at "x1"
   exact hR _ Ext.refl
  ·walk_at "x1"
   exact q _ _ (x1.trans Ext.more) Ai
theorem Adi {h:Nat}(g:Prg p S) (wo:w.ok p) (hh:h < p.plays.length):(chW p S w h).length<=1000:=by
 have po:=g.po;have h6:p.H<=6:=po.h6;unfold chW;cases es:stW p S w h with
 | none=>simp
 | some s =>
  obtain ⟨so,p1,p2⟩:=qD g hh es;have qo:=K9 wo hh;show (chs p w h s).length<=1000;cases s with
  | choose a c=>show ((List.range c).map Ah).length<=1000;rw [List.length_map,List.length_range];exact so.2
  | pick a r =>
   show ((oth p r h).map T4).length<=1000;rw [List.length_map];have:(oth p r h).length<=p.H:=Nat.le_trans (List.length_filter_le _ _) Mg;omega
  | out a gg qq =>
   show (T5 ((w.pt h).se gg)).length<=1000;unfold T5;split
   ·simp
   ·rw [List.length_map];have h1:=Pn ((w.pt h).se gg) (Builtin.Int.intBits (((w.pt h).se gg:Nat):Int));have h2:=bits_le (g:=(w.pt h).se gg) (n:=20) (Afv h6 (Pt.se_ok qo));show (J5 _ _).length<=1000;omega
  | take bx ls =>
   show (Qh p w h bx ls).length<=1000;unfold Qh;rw [List.length_append];have h1:(Iv w h ls).length<=1:=by unfold Iv;split <;> simp
   have h2:=Qi (w:=w) (h:=h) (ks:=Kd ls) (G3 p w h bx);have h3:(G3 p w h bx).length<=6:=by
    unfold G3;split
    ·rw [List.length_range];exact h6
    ·split <;> simp
   omega
  | send a kd b c =>
   show (if Nj p w h a=true then [D.int 0] else []).length<=1000;split <;> simp
  | _=>exact (by decide:1<=1000)
theorem Adj (g:Prg p S) (wo:w.ok p):(doL p S w).length<=6000:=by
 have h6:p.H<=6:=g.po.h6;refine Nat.le_trans (La (b:=1000) _ fun h hh=>?_) (by rw [List.length_range];omega);refine Nat.le_trans (La (b:=1) _ fun c _=>by simp) ?_;have:=Adi g wo (List.mem_range.mp hh);omega
theorem dD (k:Nat) (g:Prg p S) (wo:w.ok p) (q:∀ j h',Ext [] mh h'->h'[j]?=some (.lst (doL p S w++Qz p w++Q0 p w))->P (.ref j) h'):wV (Ad (Gk (k+5)) Ac f82 [p.d,w.d] mh) P:=by
 have po:=g.po;have h6:p.H<=6:=po.h6;have dl:=Adj g wo;refine Ao (Acp (k+4)) oF.1 oF.2 rfl ?_;show wS (b82 (k+4)) [some p.d,some w.d,none,none,none] mh _;unfold b82;refine Ak (Cw (Pr (Ag ⟨by simp,Ay (Af (Ak ?_))⟩)));refine Oa (List.range p.H) Ah (fun h=>(chW p S w h).flatMap fun c=>[doD h c]) [] mh.length (fun l=>∃ x y,l=[some p.d,some w.d,some (.ref mh.length),x,y]) Ai ⟨_,_,rfl⟩ (by show (doL p S w).length<=_;omega) ?_ (fun hd l h a hs il xh gh hz J hJ=>?_) fun l h il xh gh=>?_
 ·walk_at "x1"
  refine Ih (k+3) wo po fun j h1 x1 lj gj=>⟨_,src_list gj,Ob x1 gj ?_⟩
  rw [List.length_append,List.length_singleton] at lj;omega
 ·obtain ⟨x,y,rfl⟩:=il;have hs:=List.mem_range.mp hs;refine Ay ?_;show wS _ [some p.d,some w.d,some (.ref mh.length),some (Ah hd),y] h _;refine Ak ?_;refine Oa (chW p S w hd) id (fun c=>[doD hd c]) a mh.length (fun l=>∃ y,l=[some p.d,some w.d,some (.ref mh.length),some (Ah hd),y]) gh ⟨_,rfl⟩ hz ?_ (fun c l h3 a3 ht il x3 g3 hz3 J3 hJ3=>?_) fun l h3 il x3 g3=>?_
  ·walk_at "x1"
   refine Nf k hd g wo hs fun j h1 x1 lj gj=>⟨_,src_list gj,Ob x1 (by rw [List.map_id];exact gj) ?_⟩
   have:=(List.getElem?_eq_some_iff.mp gh).1;omega
  ·obtain ⟨y,rfl⟩:=il;refine Ay ?_;show wS _ [some p.d,some w.d,some (.ref mh.length),some (Ah hd),some c] h3 _
   walk_at "x1"
   refine ⟨ty_list g3,?_⟩
   walk_at "x1"
   refine Dp g3 (by rw [List.length_append] at hz3;omega) ?_
   walk_at "x1"
   exact hJ3 _ _ ⟨_,rfl⟩ Ext.set (Iu g3)
  ·obtain ⟨y,rfl⟩:=il;refine Af (Ax ?_);exact hJ _ _ ⟨_,_,rfl⟩ x3 g3
 ·obtain ⟨x,y,rfl⟩:=il;rw [List.nil_append] at gh
  have x0:Ext [] mh h:=⟨Nat.le_trans (by simp) xh.len,fun i o _ e=>by
   have hi:=(List.getElem?_eq_some_iff.mp e).1
   exact xh.old i o (by intro z;have:=List.mem_singleton.mp z;omega) ((Ext.more (W:=[])).old _ _ (by simp) e)⟩
  have ll:(Qz p w).length<=36:=by
   unfold Qz;split
   ·simp
   ·exact Z7 po
  have fl:(Q0 p w).length<=6:=by
   unfold Q0;split
   ·simp
   ·rw [List.length_map];exact Nat.le_trans (List.length_filter_le _ _) (by rw [List.length_range];exact h6)
  refine Af (Ak (Gx (Av (Av (Aj (by with_unfolding_all rfl) (Cj (Ar (Aj (by with_unfolding_all rfl) (Ag ?_)))))))));refine Qm (k+2) po wo fun j1 h1 x1 g1=>?_
  refine G7 (x1.old _ _ (by simp) gh) g1 (by show (doL p S w).length+_<=_;omega) ?_;refine Cj (Ar (Aj (by with_unfolding_all rfl) (Ag ?_)));refine Rx (k+2) po wo fun j2 h2 x2 g2=>?_
  refine G7 (x2.old _ _ (by simp) Ai) g2 (by rw [List.length_append];show (doL p S w).length+_+_<=_;omega) ?_;exact q _ _ (x0.trans (x1.trans (Ext.more.trans (x2.trans Ext.more)))) Ai
end
theorem V4 {f:D->Option PyData}{x:D}:∀ {l:List D}{as:List PyData},mapO f l=some as->x∈l->∃ a,a∈as/\f x=some a
 | d::r,as,e,hx=>by
  simp only [mapO] at e;cases e1:f d with
  | none=>rw [e1] at e;cases e
  | some b =>
   rw [e1] at e;cases e2:mapO f r with
   | none=>rw [e2] at e;cases e
   | some bs =>
    rw [e2] at e;cases e;rcases List.mem_cons.mp hx with rfl|hx
    ·exact ⟨b,List.mem_cons_self,e1⟩
    ·obtain ⟨a,ha,ea⟩:=V4 e2 hx;exact ⟨a,List.mem_cons_of_mem _ ha,ea⟩
theorem qL (mh:MH):∀ (n:Nat) (d:D) (a:PyData),py mh n d=some a->dat n d=true->py mh (n+1) d=some a
 | 0,.non,_,h,_=>h
 | _+1,.non,_,h,_=>h
 | 0,.bl _,_,h,_=>h
 | _+1,.bl _,_,h,_=>h
 | 0,.int _,_,h,_=>h
 | _+1,.int _,_,h,_=>h
 | 0,.str _,_,h,_=>h
 | _+1,.str _,_,h,_=>h
 | 0,.tup _,_,_,z=>by simp [dat] at z
 | 0,.ref _,_,_,z=>by simp [dat] at z
 | 0,.rol _,_,_,z=>by simp [dat] at z
 | 0,.obj ..,_,_,z=>by simp [dat] at z
 | 0,.fn _,_,_,z=>by simp [dat] at z
 | _+1,.ref _,_,_,z=>by simp [dat] at z
 | _+1,.rol _,_,_,z=>by simp [dat] at z
 | _+1,.obj ..,_,_,z=>by simp [dat] at z
 | _+1,.fn _,_,_,z=>by simp [dat] at z
 | n+1,.tup ds,a,h,z=>by
  have z:Fd n ds=true:=z;have up:∀ {l:List D} {as:List PyData},Fd n l=true->mapO (py mh n) l=some as->mapO (py mh (n+1)) l=some as:=fun {l}=>by
   induction l with
   | nil=>intro as _ e;exact e
   | cons d r ih =>
    intro as z e;have z:(dat n d&&Fd n r)=true:=by simpa [Fd] using z
    rw [Bool.and_eq_true] at z;simp only [mapO] at e ⊢;cases e1:py mh n d with
    | none=>rw [e1] at e;cases e
    | some b =>
     rw [e1] at e;rw [qL mh n d b e1 z.1];cases e2:mapO (py mh n) r with
     | none=>rw [e2] at e;cases e
     | some bs=>rw [e2] at e;rw [ih z.2 e2];exact e
  have h:(match mapO (py mh n) ds with | some xs=>some (PyData.tuple xs) | none=>none)=some a:=h;show (match mapO (py mh (n+1)) ds with | some xs=>some (PyData.tuple xs) | none=>none)=some a;cases e:mapO (py mh n) ds with
  | none=>rw [e] at h;cases h
  | some xs=>rw [e] at h;rw [up z e];exact h
theorem Jj {n:Nat}:∀ {l:List D},(∀ x∈l,dat n x=true)->Fd n l=true
 | [],_=>rfl
 | x::r,h=>by
  show Fd n (x::r)=true;simp only [Fd,h x List.mem_cons_self,Jj fun y hy=>h y (List.mem_cons_of_mem _ hy),Bool.and_self]
theorem T8 {mh:MH}{P:D->MH->Prop}{j:Nat}{ds:List D}{x:D}(gj:mh[j]?=some (.lst ds)) (hd:∀ y∈ds,dat 59 y=true) (hx:x∈ds) (q:P (.bl true) mh):wV (inD false x (.ref j) mh) P:=by
 obtain ⟨as,e,_⟩:=K3 mh 59 ds (Jj hd);obtain ⟨a,ha,ea⟩:=V4 e hx;obtain ⟨a',ea',la⟩:=Xn mh 59 x (hd x hx);rw [ea] at ea';cases ea';refine Afj (k:=true) ?_ q;unfold inB;have p1:py mh 60 (.ref j)=some (.list as):=by
  show (match mh[j]? with | some (.lst o)=>(match mapO (py mh 59) o with | some xs=>some (PyData.list xs) | none=>none) | _=>none)=_;rw [gj];dsimp only;rw [e]
 rw [p1,qL mh 59 x a ea (hd x hx)];dsimp only;exact congrArg some (List.any_eq_true.mpr ⟨a,ha,SeqAt.eqv_refl a la⟩)
theorem Dj (n:Nat) (i:Int):dat n (.int i)=true:=by cases n <;> rfl
theorem qM (n:Nat) (xs:List Int):Fd n (xs.map D.int)=true:=Jj fun x hx=>by
 obtain ⟨i,_,rfl⟩:=List.mem_map.mp hx;exact Dj n i
noncomputable def Chc (c:D):Prop:=(∃ i:Int,c=.int i)\/∃ xs:List Int,xs.length<=2/\c=.tup (xs.map D.int)
theorem Z8 {c:D}{n:Nat}(h:Chc c):dat (n+1) c=true:=by
 rcases h with ⟨i,rfl⟩|⟨xs,_,rfl⟩
 ·rfl
 ·exact qM n xs
section
variable {mh:MH}{P:D->MH->Prop}{p:Pg}{w:Wd}{S:List (List Sp)}
theorem Oc {h:Nat}{c:D}(wo:w.ok p) (hh:h < p.plays.length) (hc:c∈chW p S w h):∃ s,stW p S w h=some s/\c∈chs p w h s/\Chc c:=by
 unfold chW at hc;cases es:stW p S w h with
 | none=>rw [es] at hc;cases hc
 | some s =>
  rw [es] at hc;have hc:c∈chs p w h s:=hc;refine ⟨s,rfl,hc,?_⟩;have zero:c∈[D.int 0]->Chc c:=fun z=>Or.inl ⟨0,List.mem_singleton.mp z⟩
  cases s with
  | choose a n =>
   obtain ⟨i,_,rfl⟩:=List.mem_map.mp (show c∈(List.range n).map Ah from hc);exact Or.inl ⟨_,rfl⟩
  | pick a r =>
   obtain ⟨y,_,rfl⟩:=List.mem_map.mp (show c∈(oth p r h).map T4 from hc);exact Or.inr ⟨[(y:Int)],by simp,rfl⟩
  | out a gg qq =>
   have hc:c∈T5 ((w.pt h).se gg):=hc;unfold T5 at hc;split at hc
   ·exact zero hc
   ·obtain ⟨y,_,rfl⟩:=List.mem_map.mp hc;exact Or.inr ⟨[(y:Int)],by simp,rfl⟩
  | take bx ls =>
   rcases Ql wo hh hc with ⟨rfl,_⟩|⟨s,l,r,_,_,_,rfl⟩
   ·exact Or.inr ⟨[-1,0],by simp,rfl⟩
   ·exact Or.inr ⟨[(s:Int),l.1],by simp,rfl⟩
  | send a kd b c' =>
   have hc:c∈(if Nj p w h a=true then [D.int 0] else []):=hc;split at hc
   ·exact zero hc
   ·cases hc
  | _=>exact zero hc
theorem Yb (k:Nat) {c:D}(hc:Chc c) (f:∀ h',Ext [] mh h'->P (.bl true) h'):wV (Ad (Gk (k+2)) Ac f89 [c] mh) P:=by
 refine Ao (Acx (k+1)) oO.1 oO.2 rfl ?_;show wS (b89 (k+1)) [some c] mh _;unfold b89;rcases hc with ⟨i,rfl⟩|⟨xs,hx,rfl⟩
 ·walk_at "x1"
  exact Eb (n:=0) k (by simp only [Th]) (f _ Ext.refl)
 ·walk_at "x1"
  refine Di xs D.int (fun _=>.bl true) (by omega) (Ey (Aj (by with_unfolding_all rfl) ⟨_,rfl,Eh rfl⟩)) (fun x h1 R hx x1 hR=>?_) fun h1 x1=>?_
  ·refine Ay ⟨rfl,?_⟩
   walk_at "x1"
   exact Eb (n:=0) k (by simp only [Th]) (hR _ Ext.refl)
  ·walk_at "x1"
   refine Gm (bs:=xs.map fun _=>true) (by rw [Ai,List.map_map];rfl) ?_;have e:(xs.map fun _=>true).all id=true:=by rw [List.all_map];exact List.all_eq_true.mpr fun _ _=>rfl
   rw [e]
   walk_at "x1"
   exact f _ (x1.trans Ext.more)
noncomputable def Mv (p:Pg) (S:List (List Sp)) (w:Wd) (m:D):Prop:=(∃ h c,h < p.plays.length/\c∈chW p S w h/\m=doD h c)\/(∃ s t,s < p.plays.length/\t < p.plays.length/\¬ w.x=0/\loD s t∈Qz p w/\m=loD s t)\/∃ h,h < p.plays.length/\¬ w.y=0/\faD h∈Q0 p w/\m=faD h
theorem Z9 {m:D}(h:m∈Qz p w):∃ s t,s < p.plays.length/\t < p.plays.length/\¬ w.x=0/\m=loD s t:=by
 unfold Qz at h;split at h
 ·cases h
 ·rename_i e0;obtain ⟨s,hs,h⟩:=List.mem_flatMap.mp h;obtain ⟨t,ht,h⟩:=List.mem_flatMap.mp h;unfold Xz at h;split at h
  ·exact ⟨s,t,List.mem_range.mp hs,List.mem_range.mp ht,e0,List.mem_singleton.mp h⟩
  ·cases h
theorem aA {m:D}(h:m∈Q0 p w):∃ s,s < p.plays.length/\¬ w.y=0/\m=faD s:=by
 unfold Q0 at h;split at h
 ·cases h
 ·rename_i e0;obtain ⟨s,hs,rfl⟩:=List.mem_map.mp h;exact ⟨s,List.mem_range.mp (List.mem_filter.mp hs).1,e0,rfl⟩
theorem Afw {m:D}(h:m∈doL p S w++Qz p w++Q0 p w):Mv p S w m:=by
 rcases List.mem_append.mp h with h|h
 ·rcases List.mem_append.mp h with h|h
  ·obtain ⟨s,hs,h⟩:=List.mem_flatMap.mp h;obtain ⟨c,hc,h⟩:=List.mem_flatMap.mp h;exact Or.inl ⟨s,c,List.mem_range.mp hs,hc,List.mem_singleton.mp h⟩
  ·obtain ⟨s,t,h1,h2,h3,e⟩:=Z9 h;exact Or.inr (Or.inl ⟨s,t,h1,h2,h3,by rw [← e];exact h,e⟩)
 ·obtain ⟨s,h1,h2,e⟩:=aA h;exact Or.inr (Or.inr ⟨s,h1,h2,by rw [← e];exact h,e⟩)
theorem Yc (k:Nat) (wo:w.ok p) {m:D}(hm:Mv p S w m) (f:∀ h',Ext [] mh h'->P (.bl true) h'):wV (Ad (Gk (k+3)) Ac f88 [m] mh) P:=by
 refine Ao (Acw (k+2)) oN.1 oN.2 rfl ?_;show wS (b88 (k+2)) [some m] mh _;unfold b88;rcases hm with ⟨h,c,hh,hc,rfl⟩|⟨s,t,hs,ht,hx,hi,rfl⟩|⟨h,hh,hy,hi,rfl⟩
 ·obtain ⟨s,es,hcs,cf⟩:=Oc wo hh hc;unfold doD
  walk_at "x1"
  refine Bv (ds:=_) (by intro z z';cases z') rfl ?_
  walk_at "x1"
  refine Bv (ds:=_) (by intro z z';cases z') rfl ?_
  walk_at "x1"
  refine Eb (n:=0) (k+1) (by simp only [Ah,Th]) ⟨_,rfl,fun _=>?_,fun e=>by cases e⟩
  walk_at "x1"
  exact Yb k cf f
 ·unfold loD
  walk_at "x1"
  refine Bv (ds:=_) (by intro z z';cases z') rfl ?_
  walk_at "x1"
  refine Bv (ds:=_) (by intro z z';cases z') rfl ?_
  walk_at "x1"
  refine Eb (n:=0) (k+1) (by simp only [Ah,Th]) ⟨_,rfl,fun _=>?_,fun e=>by cases e⟩
  walk_at "x1"
  exact Eb (n:=0) (k+1) (by simp only [Ah,Th]) (f _ Ext.refl)
 ·unfold faD
  walk_at "x1"
  refine Bv (ds:=_) (by intro z z';cases z') rfl ?_
  walk_at "x1"
  refine Bv (ds:=_) (by intro z z';cases z') rfl ?_
  walk_at "x1"
  exact Eb (n:=0) (k+1) (by simp only [Ah,Th]) (f _ Ext.refl)
theorem wU (k:Nat) (g:Prg p S) (wo:w.ok p) {m:D}(hm:Mv p S w m) (f:∀ h',Ext [] mh h'->P (.bl true) h'):wV (Ad (Gk (k+5)) Ac f87 [p.d,w.d,m] mh) P:=by
 refine Ao (Acv (k+4)) oM.1 oM.2 rfl ?_;show wS (b87 (k+4)) [some p.d,some w.d,some m] mh _;unfold b87;refine Ak (Bx (Kz (H9 (Cj (Ar (Aj (by with_unfolding_all rfl) (Ag ?_)))))));refine Yc (k+1) wo hm fun h1 x1=>?_
 rcases hm with ⟨h,c,hh,hc,rfl⟩|⟨s,t,hs,ht,hx,hi,rfl⟩|⟨h,hh,hy,hi,rfl⟩
 ·unfold doD
  walk_at "x1"
  refine Eo (a:=.tup (w.ps.map Pt.d)) ?_
  walk_at "x1"
  refine Bv (ds:=w.ps.map Pt.d) (by intro z z';cases z') rfl ?_;rw [List.length_map,wo.lp];refine Gf ⟨_,rfl,fun _=>?_,fun e=>absurd (of_decide_eq_false e) (by omega)⟩
  walk_at "x1"
  refine Nf k h g wo hh fun j h2 x2 lj gj=>?_
  refine T8 gj (fun y hy=>?_) hc ?_
  ·obtain ⟨_,_,_,cf⟩:=Oc wo hh hy;exact Z8 (n:=58) cf
  ·walk_at "x1"
   exact f _ (x1.trans x2)
 ·unfold loD
  walk_at "x1"
  refine Qm (k+2) g.po wo fun j h2 x2 gj=>?_
  refine T8 gj (fun y hy=>?_) hi ?_
  ·obtain ⟨_,_,_,_,_,rfl⟩:=Z9 hy
   kernel_rfl
  ·walk_at "x1"
   exact f _ (x1.trans x2)
 ·unfold faD
  walk_at "x1"
  refine Rx (k+2) g.po wo fun j h2 x2 gj=>?_
  refine T8 gj (fun y hy=>?_) hi ?_
  ·obtain ⟨_,_,_,rfl⟩:=aA hy
   kernel_rfl
  ·walk_at "x1"
   exact f _ (x1.trans x2)
theorem dF (k:Nat) (g:Prg p S) (wo:w.ok p) {m:D}(hm:Mv p S w m) (f:∀ (w':Wd) h',w'.ok p->Ext [] mh h'->P w'.d h'):wV (Ad (Gk (k+7)) Ac f86 [p.d,w.d,m] mh) P:=by
 refine Ao (Acu (k+6)) oK.1 oK.2 rfl ?_;show wS (b86 (k+6)) [some p.d,some w.d,some m,none] mh _;unfold b86;rcases hm with ⟨h,c,hh,hc,rfl⟩|⟨s,t,hs,ht,hx,hi,rfl⟩|⟨h,hh,hy,hi,rfl⟩
 ·obtain ⟨s,es,hcs,cf⟩:=Oc wo hh hc;unfold doD
  walk_at "x1"
  refine Nb (k+3) h g wo hh ?_;rw [es];refine ⟨_,_,_,_,_,rfl,rfl,by decide +kernel,Ag (Bj (qC (k+5) (spD s) mh) ?_)⟩
  walk_at "x1"
  exact qK k h g wo hh es hcs f
 ·unfold loD
  walk_at "x1"
  exact qI (k+3) s t g.po wo hs ht hx fun w' o=>f _ _ o Ext.refl
 ·unfold faD
  walk_at "x1"
  exact qJ (k+3) h g.po wo hh hy fun w' o=>f _ _ o Ext.refl
theorem Adk (k:Nat) (g:Prg p S) (wo:w.ok p) {m:D}(hm:Mv p S w m) (f:∀ (w':Wd) h',w'.ok p->Ext [] mh h'->P w'.d h'):wV (Ad (Gk (k+8)) Ac f85 [p.d,w.d,m] mh) P:=by
 refine Ao (Acs (k+7)) oJ.1 oJ.2 rfl ?_;show wS (b85 (k+7)) [some p.d,some w.d,some m] mh _;unfold b85;refine Ak (Bx (Kz (H9 (Cj (Ar (Aj (by with_unfolding_all rfl) (Ar (Aj (by with_unfolding_all rfl) (Ar (Aj (by with_unfolding_all rfl) (Ag ?_)))))))))));refine wU (k+2) g wo hm fun h1 x1=>?_
 walk_at "x1"
 exact dF k g wo hm fun w' h2 o x2=>f _ _ o (x1.trans x2)
end
local macro_rules | `(tactic| walk_at "x0") => `(tactic| repeat (first | walk_at "s" | with_reducible refine Z4 ?_ | with_reducible refine K4 (by simp) ?_ | with_reducible refine Eo ?_ | with_reducible refine Fe ?_ | with_reducible refine Ep ?_ | with_reducible refine Fw ?_ | with_reducible refine Qc ?_ | with_reducible refine K1 (by decide) (by decide) ?_ | with_reducible refine Cq (by decide) ?_ | with_reducible refine Tn (Or.inl (by decide)) ?_ | with_reducible refine Tn (Or.inr (by decide)) ?_))
section
variable {mh:MH}{P:D->MH->Prop}
theorem wW {i:Int}{h:Nat}(q:∀ z:Int,P (.int z) mh):wV (vG (.int i) (.int h) mh) P:=Gy (decide_eq_true (by omega)) (q _)
theorem El (k:Nat) (c:Int) (i:Nat) (f:∀ d:Nat,d < 2147483648->P (Ah d) mh):wV (Ad (Gk (k+1)) Ac f94 [.int c,.int i] mh) P:=by
  refine Ao (Ac1 k) oW.1 oW.2 rfl ?_;show wS (b94 k) [some (.int c),some (.int i),none,none] mh _;unfold b94
  walk_at "x0"
  obtain ⟨r,hr,er⟩:=Az i 120 (by decide);have er:(i:Int).fmod 120=(r:Int):=er;rw [er];have e:(1:Int)+24 * (r:Int)=((1+24 * r:Nat):Int):=by omega
  rw [e];refine wW fun z=>?_
  walk_at "x0"
  have rest:wS (Ab (Bb (dop Bm (dop Gv (dop Bu (dop Bu (dop Bm (dop Br (vr 0) (Zr (.int 2))) (Zr (.int 2147483647))) (dop Gv (Zr (.int 7919)) (vr 1))) (Zr (.int 1))) (Zr (.int 48271))) (Zr (.int 2147483647))) (Aw 3))
     (Ab (Bb (dop Bm (dop Gv (vr 3) (dop Bu (dop Br (vr 3) (Zr (.int 1009))) (Zr (.int 69621)))) (Zr (.int 2147483647))) (Aw 3))
     (Ab (Am (dop Bm (dop Gv (vr 3) (dop Bu (dop Br (vr 3) (Zr (.int 2003))) (Zr (.int 40692)))) (Zr (.int 2147483399))))
     Zn))) [some (.int c),some (.int i),some (.int z),none] mh (Px P):=by
    walk_at "x0"
    generalize (((c.fdiv 2).fmod 2147483647+7919 * (i:Int)+1) * 48271)=y1;obtain ⟨n1,h1,e1⟩:=Az y1 2147483647 (by decide);have e1:y1.fmod 2147483647=(n1:Int):=e1;rw [e1];refine Tn (Or.inl ⟨by omega,by omega⟩) ?_
    walk_at "x0"
    generalize ((n1:Int) * ((n1:Int).fdiv 1009+69621))=y2;obtain ⟨n2,h2,e2⟩:=Az y2 2147483647 (by decide);have e2:y2.fmod 2147483647=(n2:Int):=e2;rw [e2];refine Tn (Or.inl ⟨by omega,by omega⟩) ?_
    walk_at "x0"
    generalize ((n2:Int) * ((n2:Int).fdiv 2003+40692))=y3;obtain ⟨n3,h3,e3⟩:=Az y3 2147483399 (by decide);have e3:y3.fmod 2147483399=(n3:Int):=e3;rw [e3];exact f n3 (by omega)
  refine ⟨fun e1=>?_,fun e1=>?_⟩
  · walk_at "x0"
    refine Cv (fun e2=>?_) fun e2=>?_
    · walk_at "x0"
      refine Tp (by decide) (by decide) (by decide) ?_;refine Cq (by decide) ?_;obtain ⟨n3,h3,e3⟩:=Az z 16777216 (by decide);have e3:z.fmod ((2:Int) ^ (24:Int).toNat)=(n3:Int):=e3;rw [e3]
      walk_at "x0"
      exact f n3 (by omega)
    · exact Ax (Af rest)
  · exact Ed (Ax (Af rest))
end
theorem Yd {mh:MH}{k:Nat}{xs:List Int}{a:Int}(h:mh[k]?=some (.lst (xs.map D.int))):inD true (.int a) (.ref k) mh=some (.bl (!decide (a∈xs)),mh):=by
 have e:=Pk (a:=a) h;simp only [inD,Lp h,Uv] at e ⊢;cases ei:inB mh (.int a) (.ref k) with
 | none=>rw [ei] at e;cases e
 | some b =>
  rw [ei] at e;have e:some (D.bl b,mh)=some (D.bl (decide (a∈xs)),mh):=e;cases e;rfl
section
variable {mh:MH}{P:D->MH->Prop}{p:Pg}
theorem dG (k d L:Nat) (hL:L<=7) (f:∀ (ls:List Ln) h',ls.length<=3->(∀ l∈ls,Ln.ok L l)->Ext [] mh h'->P (.tup (ls.map lnD)) h'):wV (Ad (Gk (k+1)) Ac f95 [.int d,.int L] mh) P:=by
 refine Ao (Ac2 k) oX.1 oX.2 rfl ?_;show wS (b95 k) [some (.int d),some (.int L),none,none,none,none] mh _;unfold b95;obtain ⟨k1,hk1,ek1⟩:=Az d 3 (by decide);have ek1:(d:Int).fmod 3=(k1:Int):=ek1;obtain ⟨k2,hk2,ek2⟩:=Az ((d:Int).fdiv 3) 4 (by decide);have ek2:((d:Int).fdiv 3).fmod 4=(k2:Int):=ek2;obtain ⟨nn,hnn,enn⟩:=Az ((d:Int).fdiv 12) 3 (by decide);have enn:((d:Int).fdiv 12).fmod 3=(nn:Int):=enn
 walk_at "x0"
 rw [ek1,ek2];generalize hm1:mh++[MO.lst [D.int (1+(k1:Int)),.int (k2:Int),.int 4]]=m1;have g1:m1[mh.length]?=some (.lst [Ah (1+k1),Ah k2,Ah 4]):=by
  rw [← hm1,Ai];have:(1:Int)+(k1:Int)=((1+k1:Nat):Int):=by omega
  rw [this];rfl
 have x1:Ext [] mh m1:=by rw [← hm1];exact Ext.more
 have l1:mh.length < m1.length:=by rw [← hm1];simp
 refine Ez ?_
 walk_at "x0"
 rw [enn];have e0:(1:Int)+(nn:Int)=((1+nn:Nat):Int):=by omega
 rw [e0];refine ⟨_,Gw (by omega),Cd 0 (1+nn),fun i l h=>Ext [m1.length] (m1++[MO.lst []]) h/\(∃ ls:List Ln,ls.length<=i/\(∀ l∈ls,Ln.ok L l)/\h[m1.length]?=some (.lst (ls.map lnD)))/\∃ x y,l=[some (.int d),some (.int L),some (.ref mh.length),some (.ref m1.length),x,y],⟨Ext.refl,⟨[],Nat.le_refl _,fun _ z=>absurd z (by simp),Ai⟩,_,_,rfl⟩,fun _ _ _ _=>⟨rfl,rfl⟩,?_,?_⟩
 ·rintro i dd l h ed ⟨xh,⟨ls,ll,lo,gl⟩,x,y,rfl⟩;rw [Ei,List.getElem?_map] at ed;have hi:i < 1+nn:=by
   rcases Nat.lt_or_ge i (1+nn) with z|z
   ·exact z
   ·rw [List.getElem?_eq_none_iff.mpr (by rw [List.length_range];exact z)] at ed;cases ed
  rw [List.getElem?_range hi] at ed;cases ed;refine Ay ?_;show wS _ [some (.int d),some (.int L),some (.ref mh.length),some (.ref m1.length),some (.int i),y] h _
  walk_at "x0"
  have e1:(24:Int)+48 * (i:Int)=((24+48 * i:Nat):Int):=by omega
  rw [e1];refine K1 (by omega) (by omega) ?_
  walk_at "x0"
  obtain ⟨b3,hb3,eb3⟩:=Az ((d:Int).fdiv ((24+48 * i:Nat):Int)) 3 (by decide);have eb3:((d:Int).fdiv ((24+48 * i:Nat):Int)).fmod 3=(b3:Int):=eb3;rw [eb3];refine Ce Ai (by simpa using hb3) fun bx hbx=>?_
  obtain ⟨ba,bb,bc,ha,hb,hc,rfl⟩:∃ a b c:Nat,a < 3/\b < 3/\c < 3/\bx=.tup [Ah a,Ah b,Ah c]:=by
   simp only [List.mem_cons,List.mem_nil_iff,or_false] at hbx;rcases hbx with rfl|rfl|rfl
   ·exact ⟨0,1,2,by decide,by decide,by decide,rfl⟩
   ·exact ⟨1,2,0,by decide,by decide,by decide,rfl⟩
   ·exact ⟨2,0,1,by decide,by decide,by decide,rfl⟩
  generalize hh2:h++[MO.lst [D.tup [.int 0,.int 1,.int 2],.tup [.int 1,.int 2,.int 0],.tup [.int 2,.int 0,.int 1]]]=h2;have x2:Ext [m1.length] (m1++[MO.lst []]) h2:=by rw [← hh2];exact xh.trans Ext.more
  have gl2:h2[m1.length]?=some (.lst (ls.map lnD)):=by rw [← hh2];exact (Ext.more (W:=[])).old _ _ (by simp) gl
  have gk:∀ h',Ext [] h2 h'->h'[mh.length]?=some (.lst [Ah (1+k1),Ah k2,Ah 4]):=fun h' x'=>x'.old _ _ (by simp) (x2.old _ _ (by intro z;have:=List.mem_singleton.mp z;omega) ((Ext.more (W:=[])).old _ _ (by simp) g1))
  obtain ⟨kd,ekd⟩:∃ kd:Nat,[Ah (1+k1),Ah k2,Ah 4][i]?=some (Ah kd):=by
   match i,(show i < 3 by omega) with
   | 0,_=>exact ⟨_,rfl⟩
   | 1,_=>exact ⟨_,rfl⟩
   | 2,_=>exact ⟨_,rfl⟩
  refine Ay (Af (Ak (Bx (Ba (Av (Av (Aj (by with_unfolding_all rfl) (Aj (d:=.int i) (by with_unfolding_all rfl) (Py (gk _ Ext.refl) ekd ?_)))))))));refine Di ls lnD (fun l=>Ah l.kd) (by omega) ?_ (fun x h' R hx ex hR=>?_) fun m3 x3=>?_
  ·walk_at "x0"
   exact ⟨_,src_list gl2,Ext.refl,T3 gl2⟩
  ·refine Ay ⟨rfl,?_⟩;unfold lnD
   walk_at "x0"
   exact hR _ Ext.refl
  ·have gi:(m3++[MO.lst (ls.map fun l=>Ah l.kd)])[m3.length]?=some (.lst ((Kd ls).map D.int)):=by
    rw [Ai];unfold Kd;rw [List.map_map];rfl
   generalize hm4:m3++[MO.lst (ls.map fun l=>Ah l.kd)]=m4 at gi;have x4:Ext [] h2 m4:=by rw [← hm4];exact x3.trans Ext.more
   have gl4:=x4.old _ _ (by simp) gl2;refine Bj (Yd gi) ⟨_,rfl,fun _=>?_,fun _=>?_⟩
   ·walk_at "x0"
    refine ⟨ty_list gl4,?_⟩
    walk_at "x0"
    refine Py (gk _ x4) ekd ?_
    walk_at "x0"
    refine Dr (by simp) ?_
    walk_at "x0"
    have e2:(144:Int)+300 * (i:Int)=((144+300 * i:Nat):Int):=by omega
    rw [e2];refine K1 (by omega) (by omega) ?_
    walk_at "x0"
    have e3:(L:Int)+1=((L+1:Nat):Int):=by omega
    rw [e3];refine Cq (by omega) ?_;obtain ⟨q,hq,eq⟩:=Az ((d:Int).fdiv ((144+300 * i:Nat):Int)) (L+1) (by omega);rw [eq]
    walk_at "x0"
    refine Dr (by simp) ?_
    walk_at "x0"
    refine Dp gl4 (by rw [List.length_map];omega) ?_
    walk_at "x0"
    refine ⟨x2.trans (x4.weak.trans Ext.set),⟨ls++[⟨kd,ba,bb,bc,q⟩],by simpa using ll,fun l hl=>?_,by rw [Iu gl4,List.map_append];rfl⟩,_,_,rfl⟩;rcases List.mem_append.mp hl with hl|hl
    ·exact lo l hl
    ·rw [List.mem_singleton.mp hl];exact ⟨ha,hb,hc,show q<=L by omega⟩
   ·refine Ax (Af (Ax ⟨x2.trans x4.weak,⟨ls,by omega,lo,gl4⟩,_,_,rfl⟩))
 ·rintro l h ⟨xh,⟨ls,ll,lo,gl⟩,x,y,rfl⟩;rw [Ei,List.length_map,List.length_range] at ll
  walk_at "x0"
  refine Ef (Ib gl) ?_;refine f ls h (by omega) lo ⟨Nat.le_trans x1.len (Nat.le_trans (by simp) xh.len),fun i o _ e=>?_⟩;have hi:=(List.getElem?_eq_some_iff.mp e).1;exact xh.old i o (by intro z;have:=List.mem_singleton.mp z;omega) ((Ext.more (W:=[])).old _ _ (by simp) (x1.old _ _ (by simp) e))
end
section
variable {mh:MH}{P:D->MH->Prop}{p:Pg}
theorem qN (k w a b q d L:Nat) (ha:a < 3) (hb:b < 3) (hq:q<=L) (f:∀ s h',Sp.ok p L s->Ext [] mh h'->P (spD s) h'):wV (Ad (Gk (k+1)) Ac f96 [.int w,.int a,.int b,.int q,.int d] mh) P:=by
 refine Ao (Ac3 k) oY.1 oY.2 rfl ?_;show wS (b96 k) [some (.int w),some (.int a),some (.int b),some (.int q),some (.int d),none] mh _;unfold b96;obtain ⟨r8,h8,e8⟩:=Az d 8 (by decide);have e8:(d:Int).fmod 8=(r8:Int):=e8;obtain ⟨r3,h3,e3⟩:=Az ((d:Int).fdiv 8) 3 (by decide);have e3:((d:Int).fdiv 8).fmod 3=(r3:Int):=e3
 walk_at "x0"
 refine Tp (by decide) (by decide) (by decide) ?_
 walk_at "x0"
 refine Tp (by decide) (by decide) (by decide) ?_
 walk_at "x0"
 rw [e8];refine Ce Ai (by simpa using h8) fun x hx=>?_
 obtain ⟨n,rfl⟩:∃ n:Int,x=.int n:=by
  simp only [List.mem_cons,List.mem_nil_iff,or_false] at hx;rcases hx with rfl | rfl | rfl | rfl | rfl | rfl | rfl | rfl <;> exact ⟨_,rfl⟩
 refine Ay (Af ?_);refine Ak (Bx (Ba (Av (Aj (by with_unfolding_all rfl) (Ag (Cr ⟨_,rfl,fun _=>?_,fun _=>Ax (Af ?_)⟩))))))
 ·walk_at "x0"
  exact f (.put a n) _ ha Ext.more
 refine Ak (Bx (Ba (Av (Aj (by with_unfolding_all rfl) (Ag (Cr ⟨_,rfl,fun _=>?_,fun _=>Ax (Af ?_)⟩))))))
 ·walk_at "x0"
  exact f (.copy a b) _ ⟨ha,hb⟩ Ext.more
 refine Ak (Bx (Ba (Av (Aj (by with_unfolding_all rfl) (Ag (Cr ⟨_,rfl,fun _=>?_,fun _=>Ax (Af ?_)⟩))))))
 ·walk_at "x0"
  exact f (.raise a n) _ ha Ext.more
 refine Ak (Bx (Ba (Av (Aj (by with_unfolding_all rfl) (Ag (Cr ⟨_,rfl,fun _=>?_,fun _=>Ax (Af ?_)⟩))))))
 ·walk_at "x0"
  exact f (.sum a b) _ ⟨ha,hb⟩ Ext.more
 refine Ak (Bx (Ba (Av (Aj (by with_unfolding_all rfl) (Ag (Cr ⟨_,rfl,fun _=>?_,fun _=>Ax (Af ?_)⟩))))))
 ·walk_at "x0"
  rw [e3];have e1:(1:Int)+(r3:Int)=((1+r3:Nat):Int):=by omega
  rw [e1];exact f (.choose a (1+r3)) _ ⟨ha,by omega⟩ Ext.more
 refine Ak (Bx (Ba (Av (Aj (by with_unfolding_all rfl) (Ag (Cr ⟨_,rfl,fun _=>?_,fun _=>Ax (Af ?_)⟩))))))
 ·walk_at "x0"
  exact f (.less a n q) _ ⟨ha,hq⟩ Ext.more
 refine Ak (Bx (Ba (Av (Aj (by with_unfolding_all rfl) (Ag (Cr ⟨_,rfl,fun _=>?_,fun _=>Ax (Af ?_)⟩))))))
 ·walk_at "x0"
  exact f (.before a b q) _ ⟨⟨ha,hb⟩,hq⟩ Ext.more
 walk_at "x0"
 exact f (.go q) _ hq Ext.more
noncomputable def Nk (hs:List Nat) (R:Nat):List Nat:=(List.range R).map fun r=>(hs.filter (·==r)).length
theorem wX {r:Nat}(h:(p.plays.filter (·==r)).length=1):hands p r≠[]:=by
 cases e:p.plays.filter (·==r) with
 | nil=>rw [e] at h;cases h
 | cons y ys =>
  have hy:=List.mem_filter.mp (show y∈p.plays.filter (·==r) by rw [e];exact List.mem_cons_self);obtain ⟨i,hi,ei⟩:=List.mem_iff_getElem.mp hy.1;have er:y=r:=eq_of_beq hy.2;have:i∈hands p r:=by
   unfold hands;rw [List.mem_filter,List.mem_range];refine ⟨hi,?_⟩;unfold plA;rw [List.getElem?_eq_getElem hi,ei,er];exact beq_self_eq_true r
  intro z;rw [z] at this;cases this
theorem dH (k w a b q d L R j:Nat) (hR:1<=R) (gj:mh[j]?=some (.lst ((Nk p.plays R).map Ah))) (ha:a < 3) (hb:b < 3) (hq:q<=L) (f:∀ s,Sp.ok p L s->P (spD s) mh):wV (Ad (Gk (k+1)) Ac f97 [.int w,.int a,.int b,.int q,.int d,.ref j] mh) P:=by
  refine Ao (Ac4 k) oZ.1 oZ.2 rfl ?_;show wS (b97 k) [some (.int w),some (.int a),some (.int b),some (.int q),some (.int d),some (.ref j),none] mh _;unfold b97;obtain ⟨a2,h2,e2⟩:=Az a 2 (by decide);have e2:(a:Int).fmod 2=(a2:Int):=e2;obtain ⟨r4,h4,e4⟩:=Az ((d:Int).fdiv 8) 4 (by decide);have e4:((d:Int).fdiv 8).fmod 4=(r4:Int):=e4;have cl:(Nk p.plays R).length=R:=by unfold Nk;rw [List.length_map,List.length_range]
  obtain ⟨r,hr,er⟩:=Az d R (by omega)
  walk_at "x0"
  refine Bv (ds:=(Nk p.plays R).map Ah) (by intro z z';cases z') (Ib gj) ?_;rw [List.length_map,cl];refine Cq (by omega) ?_;rw [er];have ec:((Nk p.plays R).map Ah)[r]?=some (Ah (p.plays.filter (·==r)).length):=by
    unfold Nk;rw [List.map_map,List.getElem?_map,List.getElem?_range hr];rfl
  refine Ay (Af ?_)
  have rest:(w=9->(p.plays.filter (·==r)).length=1)->wS (Ab (ifS (Al (dop eqD (vr 0) (Zr (.int 9))))
     (Ab (Am (Aq (Aa (Zr (.str "only")) (Aa (vr 1) (Aa (vr 6) (Zr []))))))
      Zn)
     Zn)
     (Ab (ifS (Al (dop eqD (vr 0) (Zr (.int 10))))
     (Ab (Am (Aq (Aa (Zr (.str "pick")) (Aa (vr 1) (Aa (vr 6) (Zr []))))))
      Zn)
     Zn)
     (Ab (ifS (Al (dop eqD (vr 0) (Zr (.int 11))))
     (Ab (Am (Aq (Aa (Zr (.str "alike")) (Aa (vr 1) (Aa (vr 2) (Aa (vr 3) (Zr [])))))))
      Zn)
     Zn)
     (Ab (ifS (Al (dop eqD (vr 0) (Zr (.int 12))))
     (Ab (Am (Aq (Aa (Zr (.str "all")) (Aa (dop Bm (vr 1) (Zr (.int 2))) (Aa (vr 6) (Zr []))))))
      Zn)
     Zn)
     (Ab (ifS (Al (dop eqD (vr 0) (Zr (.int 13))))
     (Ab (Am (Aq (Aa (Zr (.str "empty")) (Aa (dop Bm (vr 1) (Zr (.int 2))) (Zr [])))))
      Zn)
     Zn)
     (Ab (ifS (Al (dop eqD (vr 0) (Zr (.int 14))))
     (Ab (Am (Aq (Aa (Zr (.str "join")) (Aa (dop Bm (vr 1) (Zr (.int 2))) (Aa (vr 2) (Zr []))))))
      Zn)
     Zn)
     (Ab (ifS (Al (dop eqD (vr 0) (Zr (.int 15))))
     (Ab (Am (Aq (Aa (Zr (.str "out")) (Aa (vr 2) (Aa (dop Bm (vr 1) (Zr (.int 2))) (Aa (vr 3) (Zr [])))))))
      Zn)
     Zn)
     (Ab (Am (Aq (Aa (Zr (.str "many")) (Aa (dop Bm (vr 1) (Zr (.int 2))) (Aa (dop Bm (dop Br (vr 4) (Zr (.int 8))) (Zr (.int 4))) (Aa (vr 3) (Zr [])))))))
     Zn)))))))) [some (.int w),some (.int a),some (.int b),some (.int q),some (.int d),some (.ref j),some (.int r)] mh (Px P):=fun hw=>by
    refine Ak (Bx (Ba (Av (Aj (by with_unfolding_all rfl) (Ag (Cr ⟨_,rfl,fun e9=>?_,fun _=>Ax (Af ?_)⟩))))))
    · walk_at "x0"
      have e9:(w:Int)=9:=eq_of_beq e9;exact f (.only a r) ⟨ha,wX (hw (by omega))⟩
    refine Ak (Bx (Ba (Av (Aj (by with_unfolding_all rfl) (Ag (Cr ⟨_,rfl,fun _=>?_,fun _=>Ax (Af ?_)⟩))))))
    · walk_at "x0"
      exact f (.pick a r) ha
    refine Ak (Bx (Ba (Av (Aj (by with_unfolding_all rfl) (Ag (Cr ⟨_,rfl,fun _=>?_,fun _=>Ax (Af ?_)⟩))))))
    · walk_at "x0"
      exact f (.alike a b q) ⟨⟨ha,hb⟩,hq⟩
    refine Ak (Bx (Ba (Av (Aj (by with_unfolding_all rfl) (Ag (Cr ⟨_,rfl,fun _=>?_,fun _=>Ax (Af ?_)⟩))))))
    · walk_at "x0"
      rw [e2]
      walk_at "x0"
      exact f (.all a2 r) h2
    refine Ak (Bx (Ba (Av (Aj (by with_unfolding_all rfl) (Ag (Cr ⟨_,rfl,fun _=>?_,fun _=>Ax (Af ?_)⟩))))))
    · walk_at "x0"
      rw [e2];exact f (.empty a2) h2
    refine Ak (Bx (Ba (Av (Aj (by with_unfolding_all rfl) (Ag (Cr ⟨_,rfl,fun _=>?_,fun _=>Ax (Af ?_)⟩))))))
    · walk_at "x0"
      rw [e2]
      walk_at "x0"
      exact f (.join a2 b) ⟨h2,hb⟩
    refine Ak (Bx (Ba (Av (Aj (by with_unfolding_all rfl) (Ag (Cr ⟨_,rfl,fun _=>?_,fun _=>Ax (Af ?_)⟩))))))
    · walk_at "x0"
      rw [e2]
      walk_at "x0"
      exact f (.out b a2 q) ⟨⟨hb,h2⟩,hq⟩
    walk_at "x0"
    rw [e2,e4];exact f (.many a2 r4 q) ⟨h2,hq⟩
  refine Ak (Bx (Pu (Ba (Av (Aj (by with_unfolding_all rfl) (Ag (Cr ⟨_,rfl,fun e8=>?_,fun e8=>?_⟩)))))))
  · refine Xm ?_
    walk_at "x0"
    exact f (.me a) ha
  · refine Nv (Ba (Av (Aj (by with_unfolding_all rfl) (Ag (Cr ⟨_,rfl,fun e9=>?_,fun e9=>?_⟩)))))
    · refine Ba (Av (Av (Aj (by with_unfolding_all rfl) (Aj (d:=.int r) (by with_unfolding_all rfl) (Py gj ec ?_)))));refine Ag (lG ⟨_,rfl,Cv (fun e1=>?_) fun e1=>?_⟩)
      · walk_at "x0"
        exact f (.me a) ha
      · refine Ax (Af (rest fun _=>?_));have e1:((((p.plays.filter (·==r)).length:Nat):Int)==1)=true:=by simpa using e1
        have e1:(((p.plays.filter (·==r)).length:Nat):Int)=1:=eq_of_beq e1;omega
    · have e9:¬ (w:Int)=9:=beq_eq_false_iff_ne.mp e9;exact Ed (Ax (Af (rest fun z=>absurd z (by omega))))
theorem dI (k d1 d2 L R j:Nat) (hL:L<=7) (hR:1<=R) (gj:mh[j]?=some (.lst ((Nk p.plays R).map Ah))) (f:∀ s h',Sp.ok p L s->Ext [] mh h'->P (spD s) h'):wV (Ad (Gk (k+2)) Ac f98 [.int d1,.int d2,.int L,.ref j] mh) P:=by
 refine Ao (Ac5 (k+1)) pA.1 pA.2 rfl ?_;show wS (b98 (k+1)) [some (.int d1),some (.int d2),some (.int L),some (.ref j),none,none,none,none] mh _;unfold b98;obtain ⟨w,hw,ew⟩:=Az d1 28 (by decide);have ew:(d1:Int).fmod 28=(w:Int):=ew;obtain ⟨a,ha,ea⟩:=Az ((d1:Int).fdiv 28) 3 (by decide);have ea:((d1:Int).fdiv 28).fmod 3=(a:Int):=ea;obtain ⟨b,hb,eb⟩:=Az ((d1:Int).fdiv 84) 3 (by decide);have eb:((d1:Int).fdiv 84).fmod 3=(b:Int):=eb;obtain ⟨q,hq,eq⟩:=Az ((d1:Int).fdiv 252) (L+1) (by omega);obtain ⟨s3,hs3,es3⟩:=Az d2 3 (by decide);have es3:(d2:Int).fmod 3=(s3:Int):=es3;obtain ⟨t3,ht3,et3⟩:=Az ((d2:Int).fdiv 4) 3 (by decide);have et3:((d2:Int).fdiv 4).fmod 3=(t3:Int):=et3;obtain ⟨u5,hu5,eu5⟩:=Az ((d2:Int).fdiv 1200) 5 (by decide);have eu5:((d2:Int).fdiv 1200).fmod 5=(u5:Int):=eu5
 walk_at "x0"
 have e3:(L:Int)+1=((L+1:Nat):Int):=by omega
 rw [e3];refine Cq (by omega) ?_;rw [ew,ea,eb,eq];refine Ay (Af ?_);show wS _ [some (.int d1),some (.int d2),some (.int L),some (.ref j),some (.int w),some (.int a),some (.int b),some (.int q)] mh _;refine Ak (Bx (Ba (Av (Aj (by with_unfolding_all rfl) (Ag (Gf ⟨_,rfl,fun _=>?_,fun _=>Ax (Af ?_)⟩))))))
 ·walk_at "x0"
  exact qN k w a b q d2 L ha hb (by omega) f
 refine Ak (Bx (Ba (Av (Aj (by with_unfolding_all rfl) (Ag (Gf ⟨_,rfl,fun _=>?_,fun _=>Ax (Af ?_)⟩))))))
 ·walk_at "x0"
  exact dH k w a b q d2 L R j hR gj ha hb (by omega) fun s so=>f s _ so Ext.refl
 refine Ak (Bx (Ba (Av (Aj (by with_unfolding_all rfl) (Ag (Gf ⟨_,rfl,fun _=>?_,fun _=>Ax (Af ?_)⟩))))))
 ·walk_at "x0"
  rw [es3,et3];have e1:(1:Int)+(s3:Int)=((1+s3:Nat):Int):=by omega
  rw [e1];exact f (.send a (1+s3) b t3) _ ⟨⟨ha,hb,ht3⟩,by omega,by omega⟩ Ext.refl
 refine Ak (Bx (Ba (Av (Aj (by with_unfolding_all rfl) (Ag (Gf ⟨_,rfl,fun _=>?_,fun _=>Ax (Af ?_)⟩))))))
 ·walk_at "x0"
  rw [eu5];refine Ce Ai (by simpa using hu5) fun x hx=>?_
  obtain ⟨bx,rfl,hbx⟩:∃ bx:Int,x=.int bx/\(bx=-1\/∃ b:Nat,b < 3/\bx=(b:Int)):=by
   simp only [List.mem_cons,List.mem_nil_iff,or_false] at hx;rcases hx with rfl|rfl|rfl|rfl|rfl
   ·exact ⟨_,rfl,Or.inl rfl⟩
   ·exact ⟨_,rfl,Or.inl rfl⟩
   ·exact ⟨_,rfl,Or.inr ⟨0,by decide,rfl⟩⟩
   ·exact ⟨_,rfl,Or.inr ⟨1,by decide,rfl⟩⟩
   ·exact ⟨_,rfl,Or.inr ⟨2,by decide,rfl⟩⟩
  walk_at "x0"
  refine dG k d2 L hL fun ls h' l3 lo x1=>?_
  walk_at "x0"
  exact f (.take bx ls) _ ⟨hbx,by omega,lo⟩ (Ext.more.trans x1)
 walk_at "x0"
 exact f .bell _ trivial Ext.refl
end
noncomputable def rlD (l:List Sp):D:=.tup (l.map spD)
section
variable {mh:MH}{P:D->MH->Prop}{p:Pg}
theorem Lb {n i:Nat}{d:D}(e:(Cd 0 n)[i]?=some d):i < n/\d=Ah i:=by
 rw [Ei,List.getElem?_map] at e;rcases Nat.lt_or_ge i n with z|z
 ·rw [List.getElem?_range z] at e;cases e;exact ⟨z,rfl⟩
 ·rw [List.getElem?_eq_none_iff.mpr (by rw [List.length_range];exact z)] at e;cases e
theorem dJ (k L R j:Nat) (c:Int) (hL:L<=7) (hR:1<=R) (gj:mh[j]?=some (.lst ((Nk p.plays R).map Ah))) (f:∀ (ss:List Sp) h',ss.length=L->(∀ s∈ss,Sp.ok p L s)->Ext [] mh h'->P (rlD ss) h'):wV (Ad (Gk (k+3)) Ac f99 [.int c,.int L,.ref j] mh) P:=by
 have hj:=(List.getElem?_eq_some_iff.mp gj).1;refine Ao (Ac6 (k+2)) pB.1 pB.2 rfl ?_;show wS (b99 (k+2)) [some (.int c),some (.int L),some (.ref j),none,none] mh _;unfold b99
 walk_at "x0"
 refine Ez ?_
 walk_at "x0"
 refine ⟨_,Gw (by omega),Cd 0 L,fun i l h=>Ext [mh.length] (mh++[MO.lst []]) h/\(∃ ss:List Sp,ss.length=i/\(∀ s∈ss,Sp.ok p L s)/\h[mh.length]?=some (.lst (ss.map spD)))/\∃ x,l=[some (.int c),some (.int L),some (.ref j),some (.ref mh.length),x],⟨Ext.refl,⟨[],rfl,fun _ z=>absurd z (by simp),Ai⟩,_,rfl⟩,fun _ _ _ _=>⟨rfl,rfl⟩,?_,?_⟩
 ·rintro i dd l h ed ⟨xh,⟨ss,sl,so,gs⟩,x,rfl⟩;obtain ⟨hi,rfl⟩:=Lb ed;have gj1:h[j]?=some (.lst ((Nk p.plays R).map Ah)):=xh.old _ _ (by intro z;have:=List.mem_singleton.mp z;omega) ((Ext.more (W:=[])).old _ _ (by simp) gj);refine Ay ?_;show wS _ [some (.int c),some (.int L),some (.ref j),some (.ref mh.length),some (.int i)] h _
  walk_at "x0"
  refine ⟨ty_list gs,?_⟩
  walk_at "x0"
  have e1:(2:Int) * (i:Int)=((2 * i:Nat):Int):=by omega
  rw [e1];refine El (k+1) c (2 * i) fun d1 _=>?_
  walk_at "x0"
  rw [e1];have e2:((2 * i:Nat):Int)+1=((2 * i+1:Nat):Int):=by omega
  rw [e2];refine El (k+1) c (2 * i+1) fun d2 _=>?_
  walk_at "x0"
  refine dI (p:=p) k d1 d2 L R j hL hR gj1 fun s h1 s1 x1=>?_
  have gs1:=x1.old _ _ (by simp) gs
  walk_at "x0"
  refine Dp gs1 (by rw [List.length_map];omega) ?_
  walk_at "x0"
  refine ⟨xh.trans (x1.weak.trans Ext.set),⟨ss++[s],by rw [List.length_append,sl];rfl,fun z hz=>?_,by rw [Iu gs1,List.map_append];rfl⟩,_,rfl⟩;rcases List.mem_append.mp hz with hz|hz
  ·exact so z hz
  ·rw [List.mem_singleton.mp hz];exact s1
 ·rintro l h ⟨xh,⟨ss,sl,so,gs⟩,x,rfl⟩;rw [Ei,List.length_map,List.length_range] at sl
  walk_at "x0"
  refine Ef (Ib gs) ?_;refine f ss h sl so ⟨Nat.le_trans (by simp) xh.len,fun i o _ e=>?_⟩;have hi:=(List.getElem?_eq_some_iff.mp e).1;exact xh.old i o (by intro z;have:=List.mem_singleton.mp z;omega) ((Ext.more (W:=[])).old _ _ (by simp) e)
theorem Afx {p p':Pg}(h:p.plays=p'.plays) {L:Nat}{s:Sp}(so:Sp.ok p L s):Sp.ok p' L s:=by
 cases s with
 | only a r =>
  refine ⟨so.1,?_⟩;have:hands p' r=hands p r:=by unfold hands plA;rw [h]
  rw [this];exact so.2
 | _=>exact so
theorem Agz (a b c d e:MH):Ext [] mh (mh++a++b++c++d++e):=(((Ext.more.trans Ext.more).trans Ext.more).trans Ext.more).trans Ext.more
theorem qO (s c x y:D) (a b d:Option D):Li [3,4] [x,y] (((([some s,none,none,none,none,none,none,none,none,none,none].set 1 (some c)).set 2 a).set 2 b).set 2 d)=[some s,some c,d,some x,some y,none,none,none,none,none,none]:=rfl
noncomputable def Shp (R:Nat) (hs:List Nat):Prop:=(1<=R/\R<=4)/\(1<=hs.length/\hs.length<=6)/\∀ r∈hs,r < R
theorem dM (k:Nat) (ns:List Int) (f:∀ (p:Pg) (S:List (List Sp)) h',Prg p S->p.l0<=5->p.l1<=5->1<=p.room->(∀ l∈S,l.length<=7)->Ext [] mh h'->P p.d h'):wV (Ad (Gk (k+4)) Ac lQ [.rol (ns.map D.int)] mh) P:=by
  refine Ao (vX (k+3)) Zf.1 Zf.2 rfl ?_;show wS (Ac7 (k+3)) [some (.rol (ns.map D.int)),none,none,none,none,none,none,none,none,none,none] mh _;unfold Ac7
  walk_at "x0"
  refine Vs (k+2) ns 0 mh fun c=>?_
  walk_at "x0"
  refine G7 ((Ext.more (W:=[])).old _ _ (by simp) Ai) Ai (by decide) ?_
  walk_at "x0"
  refine Ji (k:=6) (by decide) (by decide) ?_
  walk_at "x0"
  refine G7 ((Ext.more (W:=[])).old _ _ (by simp) Ai) Ai (by decide) ?_
  walk_at "x0"
  refine El (k+2) c 0 fun d0 _=>?_
  walk_at "x0"
  obtain ⟨r12,h12,e12⟩:=Az d0 12 (by decide);have e12:(d0:Int).fmod 12=(r12:Int):=e12;rw [e12];refine Ce Ai (by simpa using h12) fun x hx=>?_
  obtain ⟨R,hs,rfl,sh⟩:∃ (R:Nat) (hs:List Nat),x=.tup [Ah R,.tup (hs.map Ah)]/\Shp R hs:=by
    clear f
    simp only [List.mem_append,List.mem_cons,List.mem_nil_iff,or_false] at hx;rcases hx with ((rfl|rfl|rfl|rfl|rfl|rfl|rfl)|rfl|rfl|rfl)|rfl|rfl
    · exact ⟨1,[0],rfl,by unfold Shp;decide⟩
    · exact ⟨1,[0,0],rfl,by unfold Shp;decide⟩
    · exact ⟨2,[0,1],rfl,by unfold Shp;decide⟩
    · exact ⟨2,[0,0,1],rfl,by unfold Shp;decide⟩
    · exact ⟨3,[0,1,2],rfl,by unfold Shp;decide⟩
    · exact ⟨2,[1,1],rfl,by unfold Shp;decide⟩
    · exact ⟨1,[0,0,0],rfl,by unfold Shp;decide⟩
    · exact ⟨2,[0,0,1,1],rfl,by unfold Shp;decide⟩
    · exact ⟨4,[0,1,2,3],rfl,by unfold Shp;decide⟩
    · exact ⟨2,[0,0,0,1,1],rfl,by unfold Shp;decide⟩
    · exact ⟨3,[0,0,1,1,2,2],rfl,by unfold Shp;decide⟩
    · exact ⟨1,[0,0,0,0,0,0],rfl,by unfold Shp;decide⟩
  clear hx
  obtain ⟨⟨R1,R4⟩,⟨H1,H6⟩,hr⟩:=sh;generalize hm:(_:List MO)++[MO.lst (_++_++_)]=m5;have x5:Ext [] mh m5:=by
    rw [← hm];exact Agz _ _ _ _ _
  clear hm
  refine Tg rfl (Af ?_)
  have key:∀ (m:MH) (y:Option D),Ext [] mh m->wS (     (Ab (Bb (Df (Hz Jo (Aa (vr 3) (Zr []))) [none,none,some 4] (Aw 1) (Zr true) (Ae Dn (Aa (Df (Dt (vr 2)) [none,none,some 1] (Aw 1) (Al (dop eqD (vr 1) (vr 2))) (vr 1)) (Zr [])))) (Aw 6))
      (Ab (Bb (dop ixD (lstM (Aa (Aq (Aa (Zr (.int 0)) (Aa (Zr (.int 0)) (Zr [])))) (Aa (Aq (Aa (Zr (.int 0)) (Aa (Zr (.int 0)) (Zr [])))) (Aa (Aq (Aa (Zr (.int 1)) (Aa (Zr (.int 0)) (Zr [])))) (Aa (Aq (Aa (Zr (.int 0)) (Aa (Zr (.int 1)) (Zr [])))) (Aa (Aq (Aa (Zr (.int 2)) (Aa (Zr (.int 2)) (Zr [])))) (Aa (Aq (Aa (Zr (.int 5)) (Aa (Zr (.int 4)) (Zr [])))) (Zr [])))))))) (dop Bm (Ae (Ad (Gk (k+3)) Ac f94) (Aa (vr 1) (Aa (Zr (.int 1)) (Zr [])))) (Zr (.int 6)))) (Aw 7))
      (Ab (Bb (dop ixD (lstM (Aa (Zr (.int 1)) (Aa (Zr (.int 1)) (Aa (Zr (.int 2)) (Aa (Zr (.int 3)) (Aa (Zr (.int 10)) (Zr []))))))) (dop Bm (Ae (Ad (Gk (k+3)) Ac f94) (Aa (vr 1) (Aa (Zr (.int 2)) (Zr [])))) (Zr (.int 5)))) (Aw 8))
      (Ab (Bb (lstM (Zr [])) (Aw 9))
      (Ab (Ge (Hz Jo (Aa (vr 3) (Zr []))) (Aw 5)
      (Ab (Bb (dop Bm (Ae (Ad (Gk (k+3)) Ac f94) (Aa (vr 1) (Aa (dop Bu (Zr (.int 3)) (vr 5)) (Zr [])))) (Zr (.int 8))) (Aw 10))
       (Ab (Dz (Cz "list" Ci (vr 9) (Aa (Ae (Ad (Gk (k+3)) Ac f99) (Aa (Ae (Ad (Gk (k+3)) Ac f93) (Aa (vr 0) (Aa (dop Bu (Zr (.int 1)) (vr 5)) (Zr [])))) (Aa (vr 10) (Aa (vr 6) (Zr []))))) (Zr []))))
       Zn)))
      (Ab (Am (Aq (Aa (vr 8) (Aa (vr 7) (Aa (Ae En (Aa (vr 9) (Zr []))) (Aa (vr 4) (Zr [])))))))
      Zn))))))) [some (.rol (ns.map D.int)),some (.int c),y,some (Ah R),some (.tup (hs.map Ah)),none,none,none,none,none,none] m (Px P):=fun m y x1=>by
    refine Ak (Cw ?_);refine Di (List.range R) Ah (fun r=>Ah (hs.filter (·==r)).length) (by rw [List.length_range];omega) ?_ (fun r h' R' hx ex hR=>?_) fun m1 xm1=>?_
    · walk_at "x0"
      exact ⟨_,Gw (by omega),Ext.refl,fun _ _=>⟨rfl,Ei R⟩⟩
    · refine Ay ⟨rfl,?_⟩;refine Cj (Ar ?_);refine Gz hs Ah (·==r) Ah (by omega) ?_ (fun x h2 R2 hx2 ex2 hR2=>?_) fun m2 xm2=>?_
      · walk_at "x0"
        exact ⟨_,rfl,Eh rfl⟩
      · refine Ay ⟨rfl,?_⟩
        walk_at "x0"
        have e:(((x:Nat):Int)==(r:Int))=(x==r):=by
          by_cases z:x=r
          · rw [z];simp
          · rw [beq_eq_false_iff_ne.mpr z,beq_eq_false_iff_ne.mpr fun q=>z (by omega)]
        refine ⟨e,rfl,fun _=>?_⟩
        walk_at "x0"
        exact hR2 _ Ext.refl
      · walk_at "x0"
        refine Bv (ds:=(hs.filter (·==r)).map Ah) (by intro z z';cases z') (Je _ _) ?_;rw [List.length_map];exact hR _ (xm2.trans Ext.more)
    · have gc:(m1++[MO.lst ((List.range R).map fun r=>Ah (hs.filter (·==r)).length)])[m1.length]?=some (.lst ((Nk hs R).map Ah)):=by
        rw [Ai];unfold Nk;rw [List.map_map];rfl
      generalize hm2:m1++[MO.lst ((List.range R).map fun r=>Ah (hs.filter (·==r)).length)]=m2 at gc;have x2:Ext [] mh m2:=by rw [← hm2];exact x1.trans (xm1.trans Ext.more)
      walk_at "x0"
      refine El (k+2) c 1 fun d1 _=>?_
      walk_at "x0"
      obtain ⟨r6,h6,e6⟩:=Az d1 6 (by decide);have e6:(d1:Int).fmod 6=(r6:Int):=e6;rw [e6];refine Ce Ai (by simpa using h6) fun x hx=>?_
      obtain ⟨l0,l1,hl0,hl1,rfl⟩:∃ l0 l1:Nat,l0<=5/\l1<=5/\x=.tup [Ah l0,Ah l1]:=by
        simp only [List.mem_cons,List.mem_nil_iff,or_false] at hx;rcases hx with rfl|rfl|rfl|rfl|rfl|rfl
        · exact ⟨0,0,by decide,by decide,rfl⟩
        · exact ⟨0,0,by decide,by decide,rfl⟩
        · exact ⟨1,0,by decide,by decide,rfl⟩
        · exact ⟨0,1,by decide,by decide,rfl⟩
        · exact ⟨2,2,by decide,by decide,rfl⟩
        · exact ⟨5,4,by decide,by decide,rfl⟩
      walk_at "x0"
      refine El (k+2) c 2 fun d2 _=>?_
      walk_at "x0"
      obtain ⟨r5,h5,e5⟩:=Az d2 5 (by decide);have e5:(d2:Int).fmod 5=(r5:Int):=e5;rw [e5];refine Ce Ai (by simpa using h5) fun x hx=>?_
      obtain ⟨rm,hrm1,hrm,rfl⟩:∃ rm:Nat,1<=rm/\rm<=10/\x=Ah rm:=by
        simp only [List.mem_cons,List.mem_nil_iff,or_false] at hx;rcases hx with rfl|rfl|rfl|rfl|rfl
        · exact ⟨1,by decide,by decide,rfl⟩
        · exact ⟨1,by decide,by decide,rfl⟩
        · exact ⟨2,by decide,by decide,rfl⟩
        · exact ⟨3,by decide,by decide,rfl⟩
        · exact ⟨10,by decide,by decide,rfl⟩
      have x3:∀ g1 g2:MH,Ext [] m2 (m2++g1++g2):=fun _ _=>Ext.more.trans Ext.more
      generalize hm3:m2++_++_=m3;have x3:Ext [] m2 m3:=by rw [← hm3];exact x3 _ _
      have gc3:=x3.old _ _ (by simp) gc;have lj:=(List.getElem?_eq_some_iff.mp gc3).1
      walk_at "x0"
      show wS _ [some (.rol (ns.map D.int)),some (.int c),y,some (Ah R),some (.tup (hs.map Ah)),none,some (.ref m1.length),some (.tup [Ah l0,Ah l1]),some (Ah rm),some (.ref m3.length),none] (m3++[MO.lst []]) _;refine Ez ?_
      walk_at "x0"
      refine ⟨_,Gw (by omega),Cd 0 R,fun i l h=>Ext [m3.length] (m3++[MO.lst []]) h/\(∃ S:List (List Sp),S.length=i/\(∀ ss∈S,ss.length<=7/\∀ s∈ss,Sp.ok ⟨rm,l0,l1,[],hs⟩ ss.length s)/\h[m3.length]?=some (.lst (S.map rlD)))/\∃ x5 x10,l=[some (.rol (ns.map D.int)),some (.int c),y,some (Ah R),some (.tup (hs.map Ah)),x5,some (.ref m1.length),some (.tup [Ah l0,Ah l1]),some (Ah rm),some (.ref m3.length),x10],⟨Ext.refl,⟨[],rfl,fun _ z=>absurd z (by simp),Ai⟩,_,_,rfl⟩,fun _ _ _ _=>⟨rfl,rfl⟩,?_,?_⟩
      · rintro i dd l h ed ⟨xh,⟨S,sl,so,gs⟩,x5,x10,rfl⟩;obtain ⟨hi,rfl⟩:=Lb ed;have gj1:h[m1.length]?=some (.lst ((Nk hs R).map Ah)):=xh.old _ _ (by intro z;have:=List.mem_singleton.mp z;omega) ((Ext.more (W:=[])).old _ _ (by simp) gc3);refine Ay ?_;show wS _ [some (.rol (ns.map D.int)),some (.int c),y,some (Ah R),some (.tup (hs.map Ah)),some (.int i),some (.ref m1.length),some (.tup [Ah l0,Ah l1]),some (Ah rm),some (.ref m3.length),x10] h _
        walk_at "x0"
        have e1:(3:Int)+(i:Int)=((3+i:Nat):Int):=by omega
        rw [e1];refine El (k+2) c (3+i) fun d3 _=>?_
        walk_at "x0"
        obtain ⟨L,h8,e8⟩:=Az d3 8 (by decide);have e8:(d3:Int).fmod 8=(L:Int):=e8;rw [e8]
        walk_at "x0"
        refine ⟨ty_list gs,?_⟩
        walk_at "x0"
        have e2:(1:Int)+(i:Int)=((1+i:Nat):Int):=by omega
        rw [e2];refine Vs (k+2) ns (1+i) h fun c2=>?_
        walk_at "x0"
        refine dJ (p:=⟨rm,l0,l1,[],hs⟩) k L R m1.length c2 (by omega) R1 gj1 fun ss h1 sl1 so1 x1=>?_
        have gs1:=x1.old _ _ (by simp) gs
        walk_at "x0"
        refine Dp gs1 (by rw [List.length_map];omega) ?_
        walk_at "x0"
        refine ⟨xh.trans (x1.weak.trans Ext.set),⟨S++[ss],by rw [List.length_append,sl];rfl,fun z hz=>?_,by rw [Iu gs1,List.map_append];rfl⟩,_,_,rfl⟩;rcases List.mem_append.mp hz with hz|hz
        · exact so z hz
        · rw [List.mem_singleton.mp hz,sl1];exact ⟨by omega,so1⟩
      · rintro l h ⟨xh,⟨S,sl,so,gs⟩,x5,x10,rfl⟩;rw [Ei,List.length_map,List.length_range] at sl
        walk_at "x0"
        refine Ef (Ib gs) ?_
        walk_at "x0"
        have e:D.tup [Ah rm,.tup [Ah l0,Ah l1],.tup (S.map rlD),.tup (hs.map Ah)]=(⟨rm,l0,l1,S.map fun l=>l.map spD,hs⟩:Pg).d:=by
          unfold Pg.d;rw [List.map_map];rfl
        rw [e];refine f ⟨rm,l0,l1,S.map fun l=>l.map spD,hs⟩ S h ⟨⟨H1,H6,fun r hr'=>?_,hrm⟩,rfl,fun r l el s hs'=>Afx rfl ((so l (List.mem_of_getElem? el)).2 s hs'),fun l hl=>by have:=(so l hl).1;omega⟩ hl0 hl1 hrm1 (fun l hl=>(so l hl).1) (x2.trans (x3.trans ⟨Nat.le_trans (by simp) xh.len,fun i o _ e=>?_⟩))
        · show r < (S.map _).length;rw [List.length_map,sl];exact hr r hr'
        · have hi:=(List.getElem?_eq_some_iff.mp e).1;exact xh.old i o (by intro z;have:=List.mem_singleton.mp z;omega) ((Ext.more (W:=[])).old _ _ (by simp) e)
  rw [qO];exact key m5 _ x5
end
theorem Bl {mh:MH}:∀ (n:Nat) (d:D),dat n d=true->Th mh n d
 | 0,.non,_=>by unfold Th;trivial
 | 0,.bl _,_=>by unfold Th;trivial
 | 0,.int _,_=>by unfold Th;trivial
 | 0,.str x,t=>by unfold Th;exact t
 | 0,.tup _,t=>by simp [dat] at t
 | 0,.ref _,t=>by simp [dat] at t
 | 0,.rol _,t=>by simp [dat] at t
 | 0,.obj ..,t=>by simp [dat] at t
 | 0,.fn _,t=>by simp [dat] at t
 | n+1,.non,_=>by unfold Th;trivial
 | n+1,.bl _,_=>by unfold Th;trivial
 | n+1,.int _,_=>by unfold Th;trivial
 | n+1,.str x,t=>by unfold Th;exact t
 | n+1,.tup ds,t=>by
  unfold Th;have t:Fd n ds=true:=t;have go:∀ l:List D,Fd n l=true->∀ x∈l,Th mh n x:=fun l=>by
   induction l with
   | nil=>exact fun _ _ z=>absurd z (by simp)
   | cons d r ih =>
    intro z x hx;have z:(dat n d&&Fd n r)=true:=by simpa [Fd] using z
    rw [Bool.and_eq_true] at z;rcases List.mem_cons.mp hx with rfl|hx
    ·exact Bl n _ z.1
    ·exact ih z.2 x hx
  exact go ds t
 | n+1,.ref _,t=>by simp [dat] at t
 | n+1,.rol _,t=>by simp [dat] at t
 | n+1,.obj ..,t=>by simp [dat] at t
 | n+1,.fn _,t=>by simp [dat] at t
theorem Od {n:Nat}{ds:List D}(h:∀ x∈ds,dat n x=true):dat (n+1) (.tup ds)=true:=Jj h
theorem Ld {α:Type}{n:Nat}{l:List α}{F:α->D}(h:∀ x∈l,dat n (F x)=true):dat (n+1) (.tup (l.map F))=true:=Jj fun x hx=>by
 obtain ⟨y,hy,rfl⟩:=List.mem_map.mp hx;exact h y hy
theorem Ye (q:Pt):dat 58 q.d=true:=by kernel_rfl
theorem Adl (l:Lt):dat 56 (ltD l)=true:=by kernel_rfl
theorem qP (l:List Lt):dat 57 (lsD l)=true:=Ld fun x _=>Adl x
theorem T9 (l:List (List Lt)):dat 58 (Eg l)=true:=Ld fun x _=>qP x
theorem Yg (w:Wd):dat 59 (.tup (w.ps.map Pt.d))=true:=Ld fun x _=>Ye x
theorem Yh (w:Wd):dat 59 (.tup (w.rs.map Eg))=true:=Ld fun x _=>T9 x
theorem Ua (w:Wd):dat 59 (.tup [.int w.x,.int w.y])=true:=by kernel_rfl
theorem Yi (w:Wd):dat 60 w.d=true:=Od fun x hx=>by
 simp only [List.mem_cons,List.mem_nil_iff,or_false] at hx;rcases hx with rfl|rfl|rfl
 ·exact Yg w
 ·exact Yh w
 ·exact Ua w
section
variable {mh:MH}{P:D->MH->Prop}{p:Pg}{w:Wd}{S:List (List Sp)}
noncomputable def pt0:Pt:=⟨0,0,0,0,-1,-1,-1,0,0,false⟩
noncomputable def wY (p:Pg):Wd:=⟨List.replicate p.H pt0,List.replicate p.H (List.replicate p.H []),p.l0,p.l1⟩
theorem Adm (po:p.ok):(wY p).ok p:=by
 have h1:1<=p.H:=po.h1;refine ⟨List.length_replicate,fun i r q er eq=>?_,List.length_replicate,fun v hv=>?_,Nat.le_refl _,Nat.le_refl _⟩
 ·have hq:q∈List.replicate p.H pt0:=List.mem_of_getElem? eq;rw [(List.mem_replicate.mp hq).2];exact V3 h1 (by decide) (by omega)
 ·rw [(List.mem_replicate.mp hv).2];exact ⟨List.length_replicate,fun l hl=>by rw [(List.mem_replicate.mp hl).2];exact ⟨Nat.zero_le _,fun z hz=>absurd hz (by simp)⟩⟩
theorem xT:(wY p).d=.tup [.tup (List.replicate p.H pt0.d),.tup (List.replicate p.H (.tup (List.replicate p.H (.tup [])))),.tup [.int p.l0,.int p.l1]]:=by
 unfold wY Wd.d;dsimp only;rw [List.map_replicate,List.map_replicate];unfold Eg;rw [List.map_replicate];rfl
theorem Ry (k:Nat) (po:p.ok) (f:P (wY p).d mh):wV (Ad (Gk (k+2)) Ac f40 [p.d] mh) P:=by
 have h1:1<=p.H:=po.h1;have h6:p.H<=6:=po.h6;refine Ao (Abw (k+1)) mO.1 mO.2 rfl ?_;show wS (b40 (k+1)) [some p.d,none] mh _;unfold b40 Pg.d
 walk_at "x0"
 refine Bv (ds:=p.plays.map Ah) (by intro z z';cases z') rfl ?_;rw [List.length_map]
 walk_at "x0"
 refine Bj (Z6 k 0 mh) ?_
 walk_at "x0"
 refine Ji h1 (by show p.H<=1000;omega) ?_
 walk_at "x0"
 refine Ji h1 (by show p.H<=1000;omega) ?_
 walk_at "x0"
 refine Ji h1 (by show p.H<=1000;omega) ?_
 walk_at "x0"
 rw [xT] at f;exact f
theorem xU (a b:Int):Lj a [b]=if b < a then b else a:=rfl
theorem aB {a m:Int}(ha:-100<=a/\a<=100) (hm:-100<=m/\m<=100):Ww [.int a,.int m]=some (.seq (Cd a (m - a).toNat)):=by
 show (if (-(2 ^ 62)<=a/\a < 2 ^ 62)/\(-(2 ^ 62)<=m/\m < 2 ^ 62) then some (Src.seq (Cd a (m - a).toNat)) else none)=_;rw [if_pos ⟨⟨by omega,by omega⟩,by omega,by omega⟩]
theorem aC {a:Nat}{m:Int}{i:Nat}{d:D}(e:(Cd (a:Int) (m - a).toNat)[i]?=some d):d=Ah (a+i)/\((a+i:Nat):Int) < m:=by
 unfold Cd at e;rw [List.getElem?_map] at e;rcases Nat.lt_or_ge i (m - a).toNat with z|z
 ·rw [List.getElem?_range z] at e;cases e;refine ⟨?_,by omega⟩;show D.int ((a:Int)+(i:Int))=D.int ((a+i:Nat):Int);rw [Int.natCast_add]
 ·rw [List.getElem?_eq_none_iff.mpr (by rw [List.length_range];exact z)] at e;cases e
theorem xV {ns:List Int}{i:Nat}(hi:i < ns.length) (f:∀ c:Int,P (.int c) mh):wV (ixD (.rol (ns.map D.int)) (.int i) mh) P:=lJ (d:=.int ns[i]) (by rw [List.getElem?_map,List.getElem?_eq_getElem hi];rfl) (f _)
theorem Adn {m:D}(wo:w.ok p) (h:Mv p S w m):dat 59 m=true:=by
 rcases h with ⟨h,c,hh,hc,rfl⟩|⟨s,t,_,_,_,_,rfl⟩|⟨h,_,_,_,rfl⟩
 ·obtain ⟨_,_,_,cf⟩:=Oc wo hh hc;refine Od fun x hx=>?_
  simp only [List.mem_cons,List.mem_nil_iff,or_false] at hx;rcases hx with rfl|rfl|rfl
  ·kernel_rfl
  ·exact Dj _ _
  ·exact Z8 (n:=57) cf
 ·kernel_rfl
 ·kernel_rfl
theorem ne_nil {a b:Nat}{d:D}{ds:List D}(e1:mh[a]?=some (.lst (d::ds))) (e2:mh[b]?=some (.lst [])) (hd:∀ x∈d::ds,dat 59 x=true) (h:P (.bl true) mh):wV (neD (.ref a) (.ref b) mh) P:=by
 obtain ⟨as,e,l⟩:=K3 mh 59 (d::ds) (Jj hd);obtain ⟨a',as',rfl⟩:∃ a' as',as=a'::as':=by
  simp only [mapO] at e;cases e1:py mh 59 d with
  | none=>rw [e1] at e;cases e
  | some b =>
   rw [e1] at e;cases e2:mapO (py mh 59) ds with
   | none=>rw [e2] at e;cases e
   | some bs=>rw [e2] at e;cases e;exact ⟨_,_,rfl⟩
 have p1:py mh 60 (.ref a)=some (.list (a'::as')):=by
  show (match mh[a]? with | some (.lst o)=>(match mapO (py mh 59) o with | some xs=>some (PyData.list xs) | none=>none) | _=>none)=_;rw [e1];dsimp only;rw [e]
 have p2:py mh 60 (.ref b)=some (.list []):=by
  show (match mh[b]? with | some (.lst o)=>(match mapO (py mh 59) o with | some xs=>some (PyData.list xs) | none=>none) | _=>none)=_;rw [e2];rfl
 refine lH (k:=false) ?_ h;unfold eqB;rw [p1,p2];simp only [PyData.eqv,PyData.eqvAll]
theorem qQ (k:Nat) (ns:List Int) (g:Prg p S) (f:∀ (w:Wd) h',w.ok p->Ext [] mh h'->P w.d h'):wV (Ad (Gk (k+9)) Ac lR [.rol (ns.map D.int),p.d] mh) P:=by
 refine Ao (vZ (k+8)) Zh.1 Zh.2 rfl ?_;show wS (Ac9 (k+8)) [some (.rol (ns.map D.int)),some p.d,none,none,none] mh _;unfold Ac9
 walk_at "x0"
 refine Ry (k+6) g.po ?_
 walk_at "x0"
 refine Ez ?_
 walk_at "x0"
 refine Bv (by intro z z';cases z') rfl ?_
 walk_at "x0"
 rw [List.length_map];refine Bj (d:=.int (Lj (ns.length:Int) [40])) (h:=mh) rfl ?_
 walk_at "x0"
 generalize hM:Lj (ns.length:Int) [40]=M;have bM:M<=ns.length/\0<=M/\M<=40:=by
  rw [xU] at hM;subst hM;split <;> omega
 refine ⟨_,aB (a:=8) ⟨by decide,by decide⟩ ⟨by omega,by omega⟩,Cd 8 (M - 8).toNat,fun _ l h=>Ext [] mh h/\∃ (w:Wd) (x3 x4:Option D),w.ok p/\l=[some (.rol (ns.map D.int)),some p.d,some w.d,x3,x4],⟨Ext.refl,_,_,_,Adm g.po,rfl⟩,fun _ _ _ _=>⟨rfl,rfl⟩,?_,?_⟩
 ·rintro i d l h ed ⟨xh,w,x3,x4,wo,rfl⟩;obtain ⟨rfl,hi⟩:=aC (a:=8) ed;refine Ay ?_;show wS _ [some (.rol (ns.map D.int)),some p.d,some w.d,some (.int ((8+i:Nat):Int)),x4] h _
  walk_at "x0"
  refine dD (k+3) g wo fun j h1 x1 gj=>?_
  refine Ay (Af (Ak (Bx (Ba (Av (Aj (by with_unfolding_all rfl) (Pr (Ag ⟨by simp,?_⟩))))))));generalize hms:doL p S w++Qz p w++Q0 p w=ms at gj;have hmv:∀ m∈ms,Mv p S w m:=fun m hm=>Afw (by rw [hms];exact hm)
  have gj2:(h1++[MO.lst []])[j]?=some (.lst ms):=(Ext.more (W:=[])).old _ _ (by simp) gj;have gj3:(h1++[MO.lst []])[h1.length]?=some (.lst []):=Ai;cases ms with
  | nil =>
   refine lO gj2 gj3 rfl ?_
   walk_at "x0"
   exact ⟨xh.trans (x1.trans Ext.more),w,_,_,wo,rfl⟩
  | cons m0 mr =>
   refine ne_nil gj2 gj3 (fun m hm=>Adn wo (hmv m hm)) ?_;refine ⟨_,rfl,Xm ?_⟩
   walk_at "x0"
   refine xV (by omega) fun c=>?_
   walk_at "x0"
   refine El (k+7) c (8+i) fun d3 _=>?_
   walk_at "x0"
   refine Bv (ds:=m0::mr) (by intro z z';cases z') (Ib gj2) ?_;refine Cq (by rw [List.length_cons];omega) ?_;obtain ⟨r,hr,er⟩:=Az d3 (m0::mr).length (by rw [List.length_cons];omega);rw [er];refine Ce gj2 hr fun m hm=>?_
   walk_at "x0"
   refine Adk k g wo (hmv m hm) fun w' h' wo' x'=>?_
   walk_at "x0"
   exact ⟨xh.trans (x1.trans (Ext.more.trans x')),w',_,_,wo',rfl⟩
 ·rintro l h ⟨xh,w,x3,x4,wo,rfl⟩
  walk_at "x0"
  exact f w h wo xh
theorem qR (k:Nat) (g:Prg p S) (wo:w.ok p) (f:∀ h',Ext [] mh h'->P (.bl true) h'):wV (Ad (Gk (k+8)) Ac lU [p.d,w.d] mh) P:=by
 have h6:p.H<=6:=g.po.h6;refine Ao (wA (k+7)) Zj.1 Zj.2 rfl ?_;show wS (Ada (k+7)) [some p.d,some w.d,none,none,none] mh _;unfold Ada;refine Ak (Cw (Cj (Ar (Av (Aj (by with_unfolding_all rfl) (Ag (Fw (d:=.tup (p.plays.map Ah)) ?_)))))))
 walk_at "x0"
 refine Bv (ds:=p.plays.map Ah) (by intro z z';cases z') rfl ?_;rw [List.length_map]
 walk_at "x0"
 refine Ez ?_
 walk_at "x0"
 refine ⟨_,Gw (B:=p.H) (by omega),Cd 0 p.H,fun _ l h=>h=mh/\∃ x3 x4,l=[some p.d,some w.d,some (.int p.H),x3,x4],⟨rfl,_,_,rfl⟩,fun _ _ _ _=>⟨rfl,rfl⟩,?_,?_⟩
 ·rintro i d l h ed ⟨rfl,x3,x4,rfl⟩;obtain ⟨hi,rfl⟩:=Lb ed;refine Ay ?_;show wS _ [some p.d,some w.d,some (.int p.H),some (Ah i),x4] h _;have hi2:i < w.ps.length:=by rw [wo.lp];exact hi
  refine Ak (Bx (Ba (Av (Cj (Ar (Aj (by with_unfolding_all rfl) (Ar (Aj (by with_unfolding_all rfl) (Ag (Fx (k+6) i hi2 ?_))))))))));refine Av (Av (Aj (by with_unfolding_all rfl) (Ag (Eo (a:=.tup (w.ps.map Pt.d)) ?_))));refine Aj (by with_unfolding_all rfl) (Bf (j:=i) (d:=(w.pt i).d) (by rw [List.getElem?_map,Wd.pt_at hi2];rfl) ?_);refine Tv rfl (by kernel_rfl) ⟨_,rfl,fun e=>(by cases e),fun _=>Ax (Af (Ak (Ez ?_)))⟩
  walk_at "x0"
  refine ⟨_,Gw (B:=p.H) (by omega),Cd 0 p.H,fun _ l h'=>h'=h/\∃ x4,l=[some p.d,some w.d,some (.int p.H),some (Ah i),x4],⟨rfl,_,rfl⟩,fun _ _ _ _=>⟨rfl,rfl⟩,?_,?_⟩
  ·rintro j d l h' ed ⟨rfl,x4,rfl⟩;obtain ⟨hj,rfl⟩:=Lb ed;refine Ay ?_;show wS _ [some p.d,some w.d,some (.int p.H),some (Ah i),some (Ah j)] h' _;obtain ⟨v,e1,e2,_⟩:=Jf wo hj hi;refine Ak (Bx (Ba (Av (Cj (Ar (Aj (by with_unfolding_all rfl) (Ar (Aj (by with_unfolding_all rfl) (Ar (Aj (by with_unfolding_all rfl) (Ag (Ff (k+6) j i wo hj hi ?_))))))))))));refine Av (Av (Av (Aj (by with_unfolding_all rfl) (Ag (Fe (b:=.tup (w.rs.map Eg)) ?_)))));refine Aj (by with_unfolding_all rfl) (Bf (j:=i) (d:=.tup (v.map lsD)) (by rw [List.getElem?_map,e1];rfl) ?_);refine Aj (by with_unfolding_all rfl) (Bf (j:=j) (d:=lsD (w.cell j i)) (by rw [List.getElem?_map,e2];rfl) ?_);refine Tv rfl (Ld fun x _=>by kernel_rfl) ⟨_,rfl,fun e=>(by cases e),fun _=>Ax (Af (Ax ?_))⟩;exact ⟨rfl,_,rfl⟩
  ·rintro l h' ⟨rfl,x4,rfl⟩;exact Af (Ax ⟨rfl,_,_,rfl⟩)
 ·rintro l h ⟨rfl,x3,x4,rfl⟩
  walk_at "x0"
  refine G8 k p g.po (n:=60) (Bl _ _ (Yi w)) fun h' x'=>?_
  rw [Z0 wo]
  walk_at "x0"
  refine ⟨_,_,rfl,?_⟩;exact f _ x'
end
section
variable {mh:MH}{P:D->MH->Prop}{p:Pg}{w:Wd}{S:List (List Sp)}
theorem Ca (k:Nat) {ds:List D}{i:Nat}{x:D}(hi:i < ds.length) (hz:ds.length<=1000) (h:P (.tup (ds.set i x)) mh):wV (Ad (Gk (k+1)) Ac Gg [.tup ds,.int i,x] mh) P:=by
 refine Ao (vY k) Zg.1 Zg.2 rfl ?_;show wS (Ac8 k) [some (.tup ds),some (.int i),some x] mh _;unfold Ac8
 walk_at "x0"
 refine Ie hi ?_
 walk_at "x0"
 refine Dr (by rw [List.length_take,List.length_singleton];omega) ?_
 walk_at "x0"
 have e:((i:Nat):Int)+1=((i+1:Nat):Int):=by omega
 rw [e];refine Ig (by omega) ?_;refine Dr (by rw [List.length_append,List.length_take,List.length_singleton,List.length_drop];omega) ?_;rw [List.set_eq_take_append_cons_drop,if_pos hi] at h;rw [List.append_assoc];exact h
noncomputable def Tj (m:MH) (j:Nat) (x:D):Prop:=∀ m',Ext [j] m m'->Th m' 59 x
theorem Tj.mono {m m1:MH}{j:Nat}{x:D}(h:Tj m j x) (e:Ext [j] m m1):Tj m1 j x:=fun m' e'=>h m' (e.trans e')
theorem Ub:∀ {n:Nat}{x:D},dat n x=true->dat (n+1) x=true
 | 0,.non,_=>rfl
 | 0,.bl _,_=>rfl
 | 0,.int _,_=>rfl
 | 0,.str x,t=>t
 | 0,.tup _,t=>by simp [dat] at t
 | 0,.ref _,t=>by simp [dat] at t
 | 0,.rol _,t=>by simp [dat] at t
 | 0,.obj ..,t=>by simp [dat] at t
 | 0,.fn _,t=>by simp [dat] at t
 | n+1,.non,_=>rfl
 | n+1,.bl _,_=>rfl
 | n+1,.int _,_=>rfl
 | n+1,.str x,t=>t
 | n+1,.tup ds,t=>by
  have t:Fd n ds=true:=t;show Fd (n+1) ds=true;have go:∀ l:List D,Fd n l=true->Fd (n+1) l=true:=fun l=>by
   induction l with
   | nil=>exact fun _=>rfl
   | cons d r ih =>
    intro z;have z:(dat n d&&Fd n r)=true:=by simpa [Fd] using z
    rw [Bool.and_eq_true] at z;have:(dat (n+1) d&&Fd (n+1) r)=true:=by rw [Ub z.1,ih z.2];rfl
    simpa [Fd] using this
  exact go ds t
 | n+1,.ref _,t=>by simp [dat] at t
 | n+1,.rol _,t=>by simp [dat] at t
 | n+1,.obj ..,t=>by simp [dat] at t
 | n+1,.fn _,t=>by simp [dat] at t
theorem Ado {m:MH}{j:Nat}{x:D}(h:dat 59 x=true):Tj m j x:=fun _ _=>Bl 59 x h
theorem Jk {n:Nat}{ds:List D}{i:Nat}{y:D}(h1:∀ x∈ds,dat n x=true) (h2:dat n y=true):dat (n+1) (.tup (ds.set i y))=true:=Od fun x hx=>by
 rcases List.mem_or_eq_of_mem_set hx with hx|rfl
 ·exact h1 x hx
 ·exact h2
theorem Oe {f:D->Bool}{ds:List D}{i:Nat}{y:D}(hi:i < ds.length) (h:f y=false):(ds.set i y).all f=false:=by
 rw [List.all_eq_false];exact ⟨y,List.mem_iff_getElem?.mpr ⟨i,by rw [List.getElem?_set_self hi]⟩,by rw [h];simp⟩
noncomputable def ptL (q:Pt):List D:=[.int q.pl,.tup [.int q.n0,.int q.n1,.int q.n2],.tup [.int q.m0,.int q.m1,.int q.m2],.tup [.int q.s0,.int q.s1],.bl q.bell]
theorem Uc (q:Pt):∀ x∈ptL q,dat 57 x=true:=fun x hx=>by
 unfold ptL at hx;simp only [List.mem_cons,List.mem_nil_iff,or_false] at hx;rcases hx with rfl | rfl | rfl | rfl | rfl <;> kernel_rfl
structure Bp (H L:Nat) (m:MH) (j:Nat) (x:D):Prop where
 t:Tj m j x
 b:Du H L x=false
noncomputable def Bps (H L:Nat) (m:MH) (j n:Nat):Prop:=∃ xs,m[j]?=some (.lst xs)/\(∀ x∈xs,Bp H L m j x)/\xs.length=n
theorem Bps.mono {H L:Nat}{m m1:MH}{j n:Nat}(g:Bps H L m j n) (e:Ext [] m m1):Bps H L m1 j n:=by
 obtain ⟨xs,e1,h,z⟩:=g;exact ⟨xs,e.old _ _ (by simp) e1,fun x hx=>⟨(h x hx).t.mono e.weak,(h x hx).b⟩,z⟩
theorem Bps.ty {H L:Nat}{m:MH}{j n:Nat}(g:Bps H L m j n):W0 "list" (.ref j) m=true:=by
 obtain ⟨xs,e,_⟩:=g;exact ty_list e
theorem Bps.lt {H L:Nat}{m:MH}{j n:Nat}(g:Bps H L m j n):j < m.length:=by
 obtain ⟨xs,e,_⟩:=g;exact (List.getElem?_eq_some_iff.mp e).1
theorem qT {m:MH}{j i n:Nat}{q:Pt}{ds:List D}(e:m[n]?=some (.lst ds)) (hn:n≠j) (hd:∀ x∈ds,dat 56 x=true):Tj m j (.tup ((ptL q).set i (.ref n))):=fun m' x'=>by
 show Th m' (58+1) _;unfold Th;intro y hy;rcases List.mem_or_eq_of_mem_set hy with hy|rfl
 ·exact (Bl 57 y (Uc q y hy)).le (by decide)
 ·show Th m' (57+1) _;unfold Th;exact ⟨ds,x'.old _ _ (by intro z;exact hn (List.mem_singleton.mp z)) e,fun z hz=>(Bl 56 z (hd z hz)).le (by decide)⟩
section
variable {H L:Nat}{q:Pt}{y:D}
theorem b0 (h:btB (-1) (L:Int) y=false):Du H L (.tup ((ptL q).set 0 y))=false:=by
 show (btB (-1) (L:Int) y&&_)=false;rw [h];rfl
theorem b1 (h:Qd y=false):Du H L (.tup ((ptL q).set 1 y))=false:=by
 show (_&&(Qd y&&_))=false;rw [h,Bool.false_and,Bool.and_false]
theorem b2 (h:J7 3 (-1) ((H:Int) - 1) y=false):Du H L (.tup ((ptL q).set 2 y))=false:=by
 show (_&&(_&&(J7 3 (-1) ((H:Int) - 1) y&&_)))=false;rw [h,Bool.false_and,Bool.and_false,Bool.and_false]
theorem b3 (h:J7 2 0 ((2 ^ H:Nat) - 1) y=false):Du H L (.tup ((ptL q).set 3 y))=false:=by
 show (_&&(_&&(_&&(J7 2 0 ((2 ^ H:Nat) - 1) y&&_))))=false;rw [h,Bool.false_and,Bool.and_false,Bool.and_false,Bool.and_false]
theorem b4 (h:blB y=false):Du H L (.tup ((ptL q).set 4 y))=false:=by
 show (_&&(_&&(_&&(_&&blB y))))=false;rw [h,Bool.and_false,Bool.and_false,Bool.and_false,Bool.and_false]
theorem aD {n:Nat}{l u:Int}{ds:List D}{i:Nat}(hi:i < ds.length) (h:btB l u y=false):J7 n l u (.tup (ds.set i y))=false:=by
 show (((ds.set i y).length==n)&&(ds.set i y).all (btB l u))=false;rw [Oe hi h,Bool.and_false]
theorem qU {ds:List D}{i:Nat}(hi:i < ds.length) (h:whB y=false):Qd (.tup (ds.set i y))=false:=by
 show (((ds.set i y).length==3)&&(ds.set i y).all whB)=false;rw [Oe hi h,Bool.and_false]
theorem aF {l u i:Int}(h:i < l):btB l u (.int i)=false:=by show (decide (l<=i)&&_)=false;rw [decide_eq_false (by omega)];rfl
theorem V5 {l u i:Int}(h:u < i):btB l u (.int i)=false:=by show (decide (l<=i)&&decide (i<=u))=false;rw [show decide (i<=u)=false from decide_eq_false (by omega),Bool.and_false]
end
theorem Mh {H L:Nat}{m:MH}{j n:Nat}{x:D}{Q:D->MH->Prop}(g:Bps H L m j n) (hn:n<=50) (hx:Bp H L m j x) (hq:∀ m1,Ext [j] m m1->Bps H L m1 j (n+1)->Q .non m1):wV (Ci (.ref j) [x] m) Q:=by
 obtain ⟨xs,e,h,z⟩:=g;refine Dp e (by omega) (hq _ Ext.set ⟨xs++[x],Iu e,fun y hy=>?_,by rw [List.length_append,z];rfl⟩);rcases List.mem_append.mp hy with hy|hy
 ·exact ⟨(h y hy).t.mono Ext.set,(h y hy).b⟩
 ·rw [List.mem_singleton.mp hy];exact ⟨hx.t.mono Ext.set,hx.b⟩
theorem Hr {H L:Nat}{m:MH}{j i:Nat}{q:Pt}{y:D}(h1:dat 57 y=true) (h2:Du H L (.tup ((ptL q).set i y))=false):Bp H L m j (.tup ((ptL q).set i y)):=⟨Ado (Jk (n:=58) (fun x hx=>Ub (Uc q x hx)) (Ub h1)),h2⟩
theorem wZ {H L:Nat}{m:MH}{x:D}{Q:Nat->MH->Prop}(hx:Bp H L m m.length x) (f:∀ j m1,Ext [] m m1->m.length<=j->Bps H L m1 j 1->Q j m1):Q m.length (m++[.lst [x]]):=f _ _ Ext.more (Nat.le_refl _) ⟨[x],Ai,fun y hy=>by rw [List.mem_singleton.mp hy];exact ⟨hx.t.mono Ext.more,hx.b⟩,rfl⟩
theorem aG (po:p.ok) {h:Nat}(hh:h < p.plays.length):∃ l,p.roles[plA p h]?=some l/\l.length=p.len (plA p h):=by
 have hr:=pU po hh;refine ⟨p.roles[plA p h],List.getElem?_eq_getElem hr,?_⟩;unfold Pg.len;rw [List.getElem?_eq_getElem hr];rfl
theorem aH (k h:Nat) (z:Int) (q:Pt) (po:p.ok) (hh:h < p.plays.length) (f:∀ x h',Ext [] mh h'->Th h' 59 x->Du p.H (p.len (plA p h)) x=false->P x h'):wV (Ad (Gk (k+2)) Ac lV [p.d,.int h,q.d,.int z] mh) P:=by
 have h6:p.H<=6:=po.h6;obtain ⟨rl,erl,lrl⟩:=aG po hh;refine Ao (wB (k+1)) Zk.1 Zk.2 rfl ?_;show wS (Adb (k+1)) [some p.d,some (.int h),some (.tup (ptL q)),some (.int z),none,none,none] mh _;unfold Adb Pg.d
 walk_at "x0"
 refine Bf (j:=h) (d:=Ah (plA p h)) (by rw [List.getElem?_map,Ju hh];rfl) ?_;refine Bf (j:=plA p h) (d:=.tup rl) (by rw [List.getElem?_map,erl];rfl) ?_
 walk_at "x0"
 refine Bv (ds:=rl) (by intro z z';cases z') rfl ?_;rw [lrl];generalize p.len (plA p h)=L at f
 walk_at "x0"
 refine Bv (ds:=p.plays.map Ah) (by intro z z';cases z') rfl ?_;rw [List.length_map];have eH:p.plays.length=p.H:=rfl;rw [eH];generalize p.H=H at f h6
 walk_at "x0"
 obtain ⟨r,h5,e5⟩:=Az (z.fdiv 16) 5 (by decide);have e5:Int.fmod (z.fdiv 16) 5=(r:Int):=e5;rw [e5];refine Ce Ai (by simpa using h5) fun y hy=>?_
 have yy:dat 57 y=true/\btB (-1) (L:Int) y=false:=by
  simp only [List.mem_cons,List.mem_nil_iff,or_false] at hy;rcases hy with rfl|rfl|rfl|rfl|rfl
  ·exact ⟨Dj _ _,aF (by decide)⟩
  ·exact ⟨Dj _ _,V5 (by omega)⟩
  ·exact ⟨rfl,rfl⟩
  ·exact ⟨rfl,rfl⟩
  ·exact ⟨by kernel_rfl,rfl⟩
 clear hy
 walk_at "x0"
 refine Ca k (i:=0) (by show 0 < 5;decide) (by show 5<=1000;decide) ?_;refine Ag ⟨by simp,Ay (Af ?_)⟩
 show wS _ [some p.d,some (.int h),some (.tup (ptL q)),some (.int z),some (.int L),some (.int H),some (.ref (mh++[MO.lst [D.int (-2),D.int ((L:Int)+1),D.bl true,D.non,D.str "0"]]).length)] _ _;refine wZ (H:=H) (L:=L) (Q:=fun j m=>wS _ [some p.d,some (.int h),some (.tup (ptL q)),some (.int z),some (.int L),some (.int H),some (.ref j)] m (Px P)) (Hr yy.1 (b0 yy.2)) fun j m1 x1 lj g1=>?_
 have lj:mh.length < j:=by rw [List.length_append,List.length_singleton] at lj;omega
 have X1:Ext [] mh m1:=Ext.more.trans x1
 clear yy
 -- a number
 walk_at "x0"
 refine ⟨g1.ty,?_⟩
 walk_at "x0"
 refine Bf (j:=1) (d:=.tup [.int q.n0,.int q.n1,.int q.n2]) rfl ?_
 walk_at "x0"
 obtain ⟨r,h4,e4⟩:=Az (z.fdiv 64) 4 (by decide);have e4:Int.fmod (z.fdiv 64) 4=(r:Int):=e4;rw [e4];refine Ce Ai (by simpa using h4) fun y hy=>?_
 have yy:dat 56 y=true/\whB y=false:=by
  simp only [List.mem_cons,List.mem_nil_iff,or_false] at hy;rcases hy with rfl|rfl|rfl|rfl
  ·exact ⟨rfl,rfl⟩
  ·exact ⟨by kernel_rfl,rfl⟩
  ·exact ⟨rfl,rfl⟩
  ·exact ⟨by kernel_rfl,rfl⟩
 clear hy
 walk_at "x0"
 obtain ⟨r,h3,e3⟩:=Az (z.fdiv 16) 3 (by decide);have e3:Int.fmod (z.fdiv 16) 3=(r:Int):=e3;rw [e3];refine Ca k (by simpa using h3) (by simp) ?_
 walk_at "x0"
 refine Ca k (i:=1) (by show 1 < 5;decide) (by show 5<=1000;decide) ?_
 walk_at "x0"
 refine Mh (g1.mono Ext.more) (by decide) (Hr (Jk (fun x hx=>by simp only [List.mem_cons,List.mem_nil_iff,or_false] at hx;rcases hx with rfl | rfl | rfl <;> exact Dj _ _) yy.1) (b1 (qU (by simpa using h3) yy.2))) fun m2 x2 g2=>?_
 have X2:Ext [j] m1 m2:=Ext.more.trans x2
 clear yy e3 e4 h3 h4
 -- numbers
 walk_at "x0"
 refine ⟨g2.ty,?_⟩
 walk_at "x0"
 refine Bf (j:=1) (d:=.tup [.int q.n0,.int q.n1,.int q.n2]) rfl ?_
 walk_at "x0"
 refine Dr (by simp) ?_
 walk_at "x0"
 refine Bf (j:=1) (d:=.tup [.int q.n0,.int q.n1,.int q.n2]) rfl ?_
 walk_at "x0"
 refine Ie (i:=2) (by simp) ?_
 walk_at "x0"
 refine Bf (j:=1) (d:=.tup [.int q.n0,.int q.n1,.int q.n2]) rfl ?_
 walk_at "x0"
 refine Fb rfl ?_
 walk_at "x0"
 obtain ⟨r,h4,e4⟩:=Az (z.fdiv 16) 4 (by decide);have e4:Int.fmod (z.fdiv 16) 4=(r:Int):=e4;rw [e4];have jl:=g2.lt;refine Ce Ai (by simpa using h4) fun y hy=>?_
 walk_at "x0"
 refine Ca k (i:=1) (by show 1 < 5;decide) (by show 5<=1000;decide) ?_
 walk_at "x0"
 refine Mh (g2.mono (Ext.more.trans Ext.more)) (by decide) ?_ fun m3 x3 g3=>?_
 ·simp only [List.mem_cons,List.mem_nil_iff,or_false] at hy;rcases hy with rfl|rfl|rfl|rfl
  ·exact Hr (by kernel_rfl) (b1 rfl)
  ·exact Hr (by kernel_rfl) (b1 rfl)
  ·exact ⟨qT (n:=m2.length) (Ext.more.old (W:=[]) _ _ (by simp) Ai) (by omega) (fun x hx=>by simp only [List.mem_cons,List.mem_nil_iff,or_false] at hx;rcases hx with rfl | rfl | rfl <;> exact Dj _ _),b1 rfl⟩
  ·exact Hr (by kernel_rfl) (b1 rfl)
 have X3:Ext [j] m1 m3:=X2.trans ((Ext.more.trans Ext.more).trans x3)
 clear hy e4 h4 jl
 -- a name
 walk_at "x0"
 refine ⟨g3.ty,?_⟩
 walk_at "x0"
 refine Bf (j:=2) (d:=.tup [.int q.m0,.int q.m1,.int q.m2]) rfl ?_
 walk_at "x0"
 obtain ⟨r,h4,e4⟩:=Az (z.fdiv 64) 4 (by decide);have e4:Int.fmod (z.fdiv 64) 4=(r:Int):=e4;rw [e4];refine Ce Ai (by simpa using h4) fun y hy=>?_
 have yy:dat 56 y=true/\btB (-1) ((H:Int) - 1) y=false:=by
  simp only [List.mem_cons,List.mem_nil_iff,or_false] at hy;rcases hy with rfl|rfl|rfl|rfl
  ·exact ⟨Dj _ _,aF (by decide)⟩
  ·exact ⟨Dj _ _,V5 (by omega)⟩
  ·exact ⟨rfl,rfl⟩
  ·exact ⟨rfl,rfl⟩
 clear hy
 walk_at "x0"
 obtain ⟨r,h3,e3⟩:=Az (z.fdiv 16) 3 (by decide);have e3:Int.fmod (z.fdiv 16) 3=(r:Int):=e3;rw [e3];refine Ca k (by simpa using h3) (by simp) ?_
 walk_at "x0"
 refine Ca k (i:=2) (by show 2 < 5;decide) (by show 5<=1000;decide) ?_
 walk_at "x0"
 refine Mh (g3.mono Ext.more) (by decide) (Hr (Jk (fun x hx=>by simp only [List.mem_cons,List.mem_nil_iff,or_false] at hx;rcases hx with rfl | rfl | rfl <;> exact Dj _ _) yy.1) (b2 (aD (by simpa using h3) yy.2))) fun m4 x4 g4=>?_
 have X4:Ext [j] m1 m4:=X3.trans (Ext.more.trans x4)
 clear yy e3 e4 h3 h4
 -- names
 walk_at "x0"
 refine ⟨g4.ty,?_⟩
 walk_at "x0"
 refine Bf (j:=2) (d:=.tup [.int q.m0,.int q.m1,.int q.m2]) rfl ?_
 walk_at "x0"
 refine Dr (by simp) ?_
 walk_at "x0"
 refine Bf (j:=2) (d:=.tup [.int q.m0,.int q.m1,.int q.m2]) rfl ?_
 walk_at "x0"
 refine Ie (i:=2) (by simp) ?_
 walk_at "x0"
 refine Bf (j:=2) (d:=.tup [.int q.m0,.int q.m1,.int q.m2]) rfl ?_
 walk_at "x0"
 refine Fb rfl ?_
 walk_at "x0"
 obtain ⟨r,h3,e3⟩:=Az (z.fdiv 16) 3 (by decide);have e3:Int.fmod (z.fdiv 16) 3=(r:Int):=e3;rw [e3];have jl:=g4.lt;refine Ce Ai (by simpa using h3) fun y hy=>?_
 walk_at "x0"
 refine Ca k (i:=2) (by show 2 < 5;decide) (by show 5<=1000;decide) ?_
 walk_at "x0"
 refine Mh (g4.mono (Ext.more.trans Ext.more)) (by decide) ?_ fun m5 x5 g5=>?_
 ·simp only [List.mem_cons,List.mem_nil_iff,or_false] at hy;rcases hy with rfl|rfl|rfl
  ·exact Hr (by kernel_rfl) (b2 rfl)
  ·exact Hr (by kernel_rfl) (b2 rfl)
  ·exact ⟨qT (n:=m4.length) (Ext.more.old (W:=[]) _ _ (by simp) Ai) (by omega) (fun x hx=>by simp only [List.mem_cons,List.mem_nil_iff,or_false] at hx;rcases hx with rfl | rfl | rfl <;> exact Dj _ _),b2 rfl⟩
 have X5:Ext [j] m1 m5:=X4.trans ((Ext.more.trans Ext.more).trans x5)
 clear hy e3 h3 jl
 -- a set
 walk_at "x0"
 refine ⟨g5.ty,?_⟩
 walk_at "x0"
 refine Bf (j:=3) (d:=.tup [.int q.s0,.int q.s1]) rfl ?_
 walk_at "x0"
 refine N6 (by omega) ?_
 walk_at "x0"
 obtain ⟨r,h4,e4⟩:=Az (z.fdiv 64) 4 (by decide);have e4:Int.fmod (z.fdiv 64) 4=(r:Int):=e4;rw [e4];refine Ce Ai (by simpa using h4) fun y hy=>?_
 have yy:dat 56 y=true/\btB 0 ((2 ^ H:Nat) - 1) y=false:=by
  simp only [List.mem_cons,List.mem_nil_iff,or_false] at hy;rcases hy with rfl|rfl|rfl|rfl
  ·exact ⟨Dj _ _,aF (by decide)⟩
  ·exact ⟨Dj _ _,V5 (by omega)⟩
  ·exact ⟨rfl,rfl⟩
  ·exact ⟨rfl,rfl⟩
 clear hy
 walk_at "x0"
 obtain ⟨r,h2,e2⟩:=Az (z.fdiv 16) 2 (by decide);have e2:Int.fmod (z.fdiv 16) 2=(r:Int):=e2;rw [e2];refine Ca k (by simpa using h2) (by simp) ?_
 walk_at "x0"
 refine Ca k (i:=3) (by show 3 < 5;decide) (by show 5<=1000;decide) ?_
 walk_at "x0"
 refine Mh (g5.mono Ext.more) (by decide) (Hr (Jk (fun x hx=>by simp only [List.mem_cons,List.mem_nil_iff,or_false] at hx;rcases hx with rfl | rfl <;> exact Dj _ _) yy.1) (b3 (aD (by simpa using h2) yy.2))) fun m6 x6 g6=>?_
 have X6:Ext [j] m1 m6:=X5.trans (Ext.more.trans x6)
 clear yy e2 e4 h2 h4
 -- the bell
 walk_at "x0"
 refine ⟨g6.ty,?_⟩
 walk_at "x0"
 obtain ⟨r,h4,e4⟩:=Az (z.fdiv 16) 4 (by decide);have e4:Int.fmod (z.fdiv 16) 4=(r:Int):=e4;rw [e4];refine Ce Ai (by simpa using h4) fun y hy=>?_
 have yy:dat 57 y=true/\blB y=false:=by
  simp only [List.mem_cons,List.mem_nil_iff,or_false] at hy;rcases hy with rfl|rfl|rfl|rfl
  ·exact ⟨rfl,rfl⟩
  ·exact ⟨rfl,rfl⟩
  ·exact ⟨rfl,rfl⟩
  ·exact ⟨by kernel_rfl,rfl⟩
 clear hy
 walk_at "x0"
 refine Ca k (i:=4) (by show 4 < 5;decide) (by show 5<=1000;decide) ?_
 walk_at "x0"
 refine Mh (g6.mono Ext.more) (by decide) (Hr yy.1 (b4 yy.2)) fun m7 x7 g7=>?_
 have X7:Ext [j] m1 m7:=X6.trans (Ext.more.trans x7)
 clear yy e4 h4
 -- the rest
 obtain ⟨xs,gx,hx,lx⟩:=g7;have lx:xs.length=7:=lx;have jl:=(List.getElem?_eq_some_iff.mp gx).1
 walk_at "x0"
 refine Dr (by show 5+1<=1000000;decide) ?_
 walk_at "x0"
 refine Ie (i:=4) (by show 4 < 5;decide) ?_
 walk_at "x0"
 refine Fb rfl ?_
 walk_at "x0"
 refine G7 ((Ext.more.trans Ext.more).old (W:=[]) _ _ (by simp) gx) Ai (by rw [lx];show 7+4<=1000000;decide) ?_
 walk_at "x0"
 refine Bv (ds:=xs++[.tup (ptL q++[.int 0]),.tup ((ptL q).take 4),.ref m7.length,.non]) (by intro z z';cases z') (Ib Ai) ?_;rw [List.length_append,lx];obtain ⟨r,h11,e11⟩:=Az z 11 (by decide);have e11:Int.fmod z 11=(r:Int):=e11;refine Cq (show ((11:Nat):Int)≠0 by decide) ?_;have e11:z.fmod ((7+[D.tup (ptL q++[.int 0]),.tup ((ptL q).take 4),.ref m7.length,.non].length:Nat):Int)=(r:Int):=e11;rw [e11];generalize hm8:m7++_++_++_=m8;have x8:Ext [] m7 m8:=by rw [← hm8];exact (Ext.more.trans Ext.more).trans Ext.more
 have gl:m8[m7.length]?=some (.lst (ptL q)):=by rw [← hm8];exact (Ext.more.trans Ext.more).old (W:=[]) _ _ (by simp) Ai
 refine Ce (by rw [← hm8];exact Ai) (by rw [List.length_append,lx];exact h11) fun y hy=>?_
 have X8:Ext [] mh m8:=by
  have X:=X7.trans x8.weak;refine ⟨Nat.le_trans X1.len X.len,fun i o _ e=>?_⟩;have hi:=(List.getElem?_eq_some_iff.mp e).1;exact X.old i o (by intro z;have:=List.mem_singleton.mp z;omega) (X1.old _ _ (by simp) e)
 walk_at "x0"
 rcases List.mem_append.mp hy with hy|hy
 ·exact f y m8 X8 ((hx y hy).t m8 x8.weak) (hx y hy).b
 ·simp only [List.mem_cons,List.mem_nil_iff,or_false] at hy;rcases hy with rfl|rfl|rfl|rfl
  ·exact f _ m8 X8 (Bl 59 _ (by kernel_rfl)) rfl
  ·exact f _ m8 X8 (Bl 59 _ (by kernel_rfl)) rfl
  ·refine f _ m8 X8 ?_ rfl;show Th m8 (58+1) _;unfold Th;exact ⟨_,gl,fun x hx=>(Bl 57 x (Uc q x hx)).le (by decide)⟩
  ·exact f _ m8 X8 (Bl 59 _ (by kernel_rfl)) rfl
end
theorem Ud {m:MH}{o o2:MO}:(m++[o]).set m.length o2=m++[o2]:=by rw [List.set_append_right _ _ (Nat.le_refl _),Nat.sub_self];rfl
section
variable {mh:MH}{P:D->MH->Prop}{p:Pg}{w:Wd}{S:List (List Sp)}
theorem qW (k h:Nat) (z:Int) (q:Pt) (po:p.ok) (hh:h < p.plays.length) (qo:q.ok p.H (p.len (plA p h))) (f:∀ (q':Pt) h',Ext [] mh h'->q'.ok p.H (p.len (plA p h))->P q'.d h'):wV (Ad (Gk (k+2)) Ac lW [p.d,.int h,q.d,.int z] mh) P:=by
 have h6:p.H<=6:=po.h6;have h1:1<=p.H:=po.h1;obtain ⟨rl,erl,lrl⟩:=aG po hh;refine Ao (wC (k+1)) Zm.1 Zm.2 rfl ?_;show wS (Adc (k+1)) [some p.d,some (.int h),some (.tup (ptL q)),some (.int z),none,none,none] mh _;unfold Adc Pg.d
 walk_at "x0"
 refine Bf (j:=h) (d:=Ah (plA p h)) (by rw [List.getElem?_map,Ju hh];rfl) ?_;refine Bf (j:=plA p h) (d:=.tup rl) (by rw [List.getElem?_map,erl];rfl) ?_
 walk_at "x0"
 refine Bv (ds:=rl) (by intro z z';cases z') rfl ?_;rw [lrl];generalize p.len (plA p h)=L at f qo
 walk_at "x0"
 refine Bv (ds:=p.plays.map Ah) (by intro z z';cases z') rfl ?_;rw [List.length_map];have eH:p.plays.length=p.H:=rfl;rw [eH];generalize p.H=H at f h6 h1 qo
 walk_at "x0"
 have eL:(L:Int)+2=((L+2:Nat):Int):=by omega
 rw [eL];refine Cq (by omega) ?_;obtain ⟨a,ha,ea⟩:=Az (z.fdiv 16) (L+2) (by omega);rw [ea]
 walk_at "x0"
 refine Ca k (i:=0) (by show 0 < 5;decide) (by show 5<=1000;decide) ?_
 walk_at "x0"
 refine Tp (by decide) (by decide) (by decide) ?_
 walk_at "x0"
 generalize (10:Int) ^ (50:Int).toNat+z=big;refine Ca k (i:=1) (by show 1 < 5;decide) (by show 5<=1000;decide) ?_;refine Ag ⟨by simp,Ay (Af ?_)⟩;have hx0:∃ q':Pt,q'.ok H L/\D.tup ((ptL q).set 0 (.int ((a:Int) - 1)))=q'.d:=⟨q.to ((a:Int) - 1),Jv qo (by omega) (by omega),rfl⟩;have hx1:∃ q':Pt,q'.ok H L/\D.tup ((ptL q).set 1 (.tup [.int z,.int (-z),.int big]))=q'.d:=⟨((q.setN 0 z).setN 1 (-z)).setN 2 big,Gi (Gi (Gi qo _ _) _ _) _ _,rfl⟩;generalize D.tup ((ptL q).set 0 (.int ((a:Int) - 1)))=x0 at hx0;generalize D.tup ((ptL q).set 1 (.tup [.int z,.int (-z),.int big]))=x1 at hx1;show wS _ [some p.d,some (.int h),some (.tup (ptL q)),some (.int z),some (.int L),some (.int H),some (.ref mh.length)] (mh++[MO.lst [x0,x1]]) _
 walk_at "x0"
 refine ⟨ty_list Ai,?_⟩
 walk_at "x0"
 have eH1:(H:Int)+1=((H+1:Nat):Int):=by omega
 rw [eH1];refine Cq (by omega) ?_;obtain ⟨b,hb,eb⟩:=Az (z.fdiv 16) (H+1) (by omega);rw [eb]
 walk_at "x0"
 refine Ca k (i:=2) (by show 2 < 5;decide) (by show 5<=1000;decide) ?_;have hx2:∃ q':Pt,q'.ok H L/\D.tup ((ptL q).set 2 (.tup [.int ((b:Int) - 1),.int (-1),.int ((H:Int) - 1)]))=q'.d:=⟨((q.setM 0 ((b:Int) - 1)).setM 1 (-1)).setM 2 ((H:Int) - 1),Gj (Gj (Gj qo _ ⟨by omega,by omega⟩) _ ⟨by omega,by omega⟩) _ ⟨by omega,by omega⟩,rfl⟩;generalize D.tup ((ptL q).set 2 (.tup [.int ((b:Int) - 1),.int (-1),.int ((H:Int) - 1)]))=x2 at hx2
 walk_at "x0"
 refine Dp Ai (by simp) ?_;rw [Ud]
 walk_at "x0"
 refine ⟨ty_list Ai,?_⟩
 walk_at "x0"
 refine N6 (by omega) ?_;have hp:0 < 2 ^ H:=Nat.two_pow_pos _;refine Cq (by omega) ?_;obtain ⟨c,hc,ec⟩:=Az (z.fdiv 16) (2 ^ H) hp;rw [ec]
 walk_at "x0"
 refine N6 (by omega) ?_
 walk_at "x0"
 have e1:((2 ^ H:Nat):Int) - 1=((2 ^ H - 1:Nat):Int):=by omega
 rw [e1];refine Ca k (i:=3) (by show 3 < 5;decide) (by show 5<=1000;decide) ?_;have hx3:∃ q':Pt,q'.ok H L/\D.tup ((ptL q).set 3 (.tup [.int (c:Nat),.int ((2 ^ H - 1:Nat):Int)]))=q'.d:=⟨(q.setS 0 c).setS 1 (2 ^ H - 1),Ii (Ii qo _ hc) _ (by omega),rfl⟩;generalize D.tup ((ptL q).set 3 (.tup [.int (c:Nat),.int ((2 ^ H - 1:Nat):Int)]))=x3 at hx3
 walk_at "x0"
 refine Dp Ai (by simp) ?_;rw [Ud]
 walk_at "x0"
 refine ⟨ty_list Ai,?_⟩
 walk_at "x0"
 refine Ca k (i:=4) (by show 4 < 5;decide) (by show 5<=1000;decide) ?_;have hx4:∀ b:Bool,∃ q':Pt,q'.ok H L/\D.tup ((ptL q).set 4 (.bl b))=q'.d:=fun b=>⟨q.ring b,T6 qo _,rfl⟩
 have hx4:=hx4 ((z.fdiv 16).fmod 2==0);generalize D.tup ((ptL q).set 4 (.bl ((z.fdiv 16).fmod 2==0)))=x4 at hx4
 walk_at "x0"
 refine Dp Ai (by simp) ?_;rw [Ud]
 walk_at "x0"
 obtain ⟨r,hr,er⟩:=Az z 5 (by decide);have er:z.fmod 5=(r:Int):=er;rw [er];refine Ce Ai (by simpa using hr) fun y hy=>?_
 have hq:∃ q':Pt,q'.ok H L/\y=q'.d:=by
  simp only [List.mem_append,List.mem_cons,List.mem_nil_iff,or_false] at hy;rcases hy with (((rfl | rfl) | rfl) | rfl) | rfl <;> assumption
 obtain ⟨q',o',rfl⟩:=hq
 walk_at "x0"
 exact f q' _ Ext.more o'
end
theorem aJ {n k:Nat}{x:D}{mh:MH}{P:D->MH->Prop}(e:mh[n]?=some (.lst [x])) (hk:k<=1000) (h:P (.ref mh.length) (mh++[.lst (List.replicate k x)])):wV (Gv (.ref n) (.int k) mh) P:=by
 refine ⟨_,_,?_,h⟩;have e1:jC (.ref n) mh=some [x]:=by
  show (match mh[n]? with | some (.lst o)=>some o | _=>none)=_;rw [e]
 show Rt _ (.ref n) (.int k) mh=_;unfold Rt;rw [e1];dsimp only;rw [if_pos ⟨⟨by omega,by omega⟩,by rw [Int.toNat_natCast,List.length_singleton];omega⟩,Int.toNat_natCast];have e:(List.replicate k [x]).flatten=List.replicate k x:=by
  clear h hk
  induction k with
  | zero=>rfl
  | succ k ih=>rw [List.replicate_succ,List.flatten_cons,ih,List.replicate_succ];rfl
 rw [e]
section
variable {mh:MH}{P:D->MH->Prop}{p:Pg}{w:Wd}{S:List (List Sp)}
theorem Adp {s t:Nat}{v:List (List Lt)}{l:List Lt}(e:w.rs[t]?=some v):(w.setC s t l).d=.tup [.tup (w.ps.map Pt.d),.tup ((w.rs.map Eg).set t (.tup ((v.map lsD).set s (lsD l)))),.tup [.int w.x,.int w.y]]:=by
 unfold Wd.setC Wd.d;dsimp only;rw [e,List.map_set];show D.tup [_,.tup ((w.rs.map Eg).set t (.tup ((v.set s l).map lsD))),_]=_;rw [List.map_set]
theorem dN (k:Nat) (z:Int) (g:Prg p S) (wo:w.ok p) (f:∀ (w':Wd) h',Ext [] mh h'->w'.ok p->P w'.d h'):wV (Ad (Gk (k+2)) Ac cQ [p.d,w.d,.int z,.bl true] mh) P:=by
 have po:=g.po;have h6:p.H<=6:=po.h6;have h1:1<=p.H:=po.h1;have rm:=po.rm;refine Ao (Zq (k+1)) Ny.1 Ny.2 rfl ?_;show wS (pF (k+1)) [some p.d,some w.d,some (.int z),some (.bl true),none,none,none,none,none,none,none] mh _;unfold pF Pg.d Wd.d
 walk_at "x0"
 refine Bv (ds:=p.plays.map Ah) (by intro z z';cases z') rfl ?_;rw [List.length_map];have eH:p.plays.length=p.H:=rfl;rw [eH]
 walk_at "x0"
 refine Cq (by omega) ?_;obtain ⟨t,ht,et⟩:=Az (z.fdiv 8) p.H (by omega);rw [et]
 walk_at "x0"
 refine Cq (by omega) ?_;obtain ⟨s,hs,es⟩:=Az (z.fdiv 32) p.H (by omega);rw [es];obtain ⟨v,e1,e2,vo⟩:=Jf wo hs ht;obtain ⟨kd,hk,ek⟩:=Az (z.fdiv 128) 12 (by decide);have ek:Int.fmod (z.fdiv 128) 12=(kd:Int):=ek
 walk_at "x0"
 rw [ek];have eH1:(p.H:Int)+1=((p.H+1:Nat):Int):=by omega
 rw [eH1];refine Cq (by omega) ?_;obtain ⟨nm,hnm,enm⟩:=Az (z.fdiv 256) (p.H+1) (by omega);rw [enm]
 walk_at "x0"
 have eR1:(p.room:Int)+1=((p.room+1:Nat):Int):=by omega
 rw [eR1];refine Cq (by omega) ?_;obtain ⟨n,hn,en⟩:=Az (z.fdiv 8) (p.room+1) (by omega);rw [en];refine aJ Ai (by omega) ?_
 walk_at "x0"
 refine Ef (Ib Ai) ?_
 walk_at "x0"
 refine Bf (j:=t) (d:=.tup (v.map lsD)) (by rw [List.getElem?_map,e1];rfl) ?_
 walk_at "x0"
 refine Ca k (i:=s) (by rw [List.length_map,vo.1];exact hs) (by rw [List.length_map,vo.1];omega) ?_
 walk_at "x0"
 refine Ca k (i:=t) (by rw [List.length_map,wo.lr];exact ht) (by rw [List.length_map,wo.lr];show p.H<=1000;omega) ?_
 walk_at "x0"
 have e:(.tup (List.replicate n (.tup [.int (1+(kd:Int)),.int z,.int ((nm:Int) - 1)])):D)=lsD (List.replicate n ((1+(kd:Int)),z,(nm:Int) - 1)):=by
  unfold lsD;rw [List.map_replicate];rfl
 rw [e,← Adp e1];refine f _ _ (Ext.more.trans Ext.more) (N7 wo ⟨by rw [List.length_replicate];omega,fun y hy=>?_⟩);rw [(List.mem_replicate.mp hy).2];exact ⟨⟨show (1:Int)<=1+(kd:Int) by omega,show 1+(kd:Int)<=12 by omega⟩,show (-1:Int)<=(nm:Int) - 1 by omega,show (nm:Int) - 1<=(p.H:Int) - 1 by omega⟩
end
section
variable {mh:MH}{P:D->MH->Prop}{p:Pg}{w:Wd}{S:List (List Sp)}
theorem qX {v:List D}{s:Nat}{y:D}(hs:s < v.length) (h:Lz p y=false):Fz p (.tup (v.set s y))=false:=by
 show (((v.set s y).length==p.H)&&(v.set s y).all (Lz p))=false;rw [Oe hs h,Bool.and_false]
theorem V6 {v:List D}{s:Nat}{y:D}(hs:s < v.length) (h:Fz p y=false):Ft p (.tup (v.set s y))=false:=by
 show (((v.set s y).length==p.H)&&(v.set s y).all (Fz p))=false;rw [Oe hs h,Bool.and_false]
theorem Ue {m:MH}{n:Nat}{ds:List D}{i:Nat}{y:D}(h1:∀ x∈ds,Th m n x) (h2:Th m n y):Th m (n+1) (.tup (ds.set i y)):=by
 unfold Th;intro x hx;rcases List.mem_or_eq_of_mem_set hx with hx|rfl
 ·exact h1 x hx
 ·exact h2
theorem Adq {m:MH}{n:Nat}{y:D}(h:Th m n y):Th m (n+1) (.tup [y]):=by
 unfold Th;intro x hx;rw [List.mem_singleton.mp hx];exact h
theorem Qn {α:Type}{m:MH}{n k:Nat}{l:List α}{F:α->D}(h:∀ x∈l,dat k (F x)=true) (hk:k<=n):∀ x∈l.map F,Th m n x:=fun x hx=>by
 obtain ⟨y,hy,rfl⟩:=List.mem_map.mp hx;exact (Bl k _ (h y hy)).le hk
theorem dO (k:Nat) (z:Int) (g:Prg p S) (hr1:1<=p.room) (wo:w.ok p) (f:∀ (y:D) h',Ext [] mh h'->Th h' 59 y->Ft p y=false->P (.tup [.tup (w.ps.map Pt.d),y,.tup [.int w.x,.int w.y]]) h'):wV (Ad (Gk (k+2)) Ac cQ [p.d,w.d,.int z,.bl false] mh) P:=by
 have po:=g.po;have h6:p.H<=6:=po.h6;have h1:1<=p.H:=po.h1;have rm:=po.rm;refine Ao (Zq (k+1)) Ny.1 Ny.2 rfl ?_;show wS (pF (k+1)) [some p.d,some w.d,some (.int z),some (.bl false),none,none,none,none,none,none,none] mh _;unfold pF Pg.d Wd.d
 walk_at "x0"
 refine Bv (ds:=p.plays.map Ah) (by intro z z';cases z') rfl ?_;rw [List.length_map];have eH:p.plays.length=p.H:=rfl;rw [eH]
 walk_at "x0"
 refine Cq (by omega) ?_;obtain ⟨t,ht,et⟩:=Az (z.fdiv 8) p.H (by omega);rw [et]
 walk_at "x0"
 refine Cq (by omega) ?_;obtain ⟨s,hs,es⟩:=Az (z.fdiv 32) p.H (by omega);rw [es];obtain ⟨v,e1,e2,vo⟩:=Jf wo hs ht;obtain ⟨kd,hk,ek⟩:=Az (z.fdiv 128) 12 (by decide);have ek:Int.fmod (z.fdiv 128) 12=(kd:Int):=ek
 walk_at "x0"
 rw [ek];have eH1:(p.H:Int)+1=((p.H+1:Nat):Int):=by omega
 rw [eH1];refine Cq (by omega) ?_;obtain ⟨nm,hnm,enm⟩:=Az (z.fdiv 256) (p.H+1) (by omega);rw [enm]
 walk_at "x0"
 have eR1:(p.room:Int)+1=((p.room+1:Nat):Int):=by omega
 rw [eR1];refine Cq (by omega) ?_;obtain ⟨n,hn,en⟩:=Az (z.fdiv 8) (p.room+1) (by omega);rw [en];refine aJ Ai (by omega) ?_
 walk_at "x0"
 refine Ef (Ib Ai) ?_;generalize hm1:mh++_++_=m1;have x1:Ext [] mh m1:=by rw [← hm1];exact Ext.more.trans Ext.more
 clear hm1
 generalize D.tup (List.replicate n (.tup [.int (1+(kd:Int)),.int z,.int ((nm:Int) - 1)]))=lt0
 walk_at "x0"
 obtain ⟨r8,h8,e8⟩:=Az (z.fdiv 128) 8 (by decide);have e8:Int.fmod (z.fdiv 128) 8=(r8:Int):=e8;rw [e8];generalize hm2:m1++_++_=m2;have x2:Ext [] m1 m2:=by rw [← hm2];exact Ext.more.trans Ext.more
 have gl:m2[m1.length]?=some (.lst [.int 1,.int 0,.int 0]):=by rw [← hm2];exact Ext.more.old (W:=[]) _ _ (by simp) Ai
 refine Ce (by rw [← hm2];exact Ai) (by simpa using h8) fun y hy=>?_
 have yy:Th m2 40 y/\Ec p.H y=false:=by
  clear f
  simp only [List.mem_cons,List.mem_nil_iff,or_false] at hy;rcases hy with rfl|rfl|rfl|rfl|rfl|rfl|rfl|rfl
  ·exact ⟨Bl _ _ (by kernel_rfl),rfl⟩
  ·exact ⟨Bl _ _ (by kernel_rfl),rfl⟩
  ·exact ⟨Bl _ _ (by kernel_rfl),rfl⟩
  ·refine ⟨Bl _ _ (by kernel_rfl),?_⟩;show (btB 1 12 (.int 1)&&(whB (.int 0)&&btB (-1) ((p.H:Int) - 1) (.int (p.H:Int))))=false;rw [show btB (-1) ((p.H:Int) - 1) (.int (p.H:Int))=false from V5 (by omega),Bool.and_false,Bool.and_false]
  ·exact ⟨Bl _ _ (by kernel_rfl),rfl⟩
  ·exact ⟨Bl _ _ (by kernel_rfl),rfl⟩
  ·refine ⟨?_,rfl⟩;show Th m2 (39+1) _;unfold Th;refine ⟨_,gl,fun x hx=>?_⟩;simp only [List.mem_cons,List.mem_nil_iff,or_false] at hx;rcases hx with rfl | rfl | rfl <;> exact Bl _ _ rfl
  ·exact ⟨Bl _ _ (by kernel_rfl),rfl⟩
 clear hy hm2
 walk_at "x0"
 have eR2:(p.room:Int)+1=((p.room+1:Nat):Int):=by omega
 rw [eR2];refine Ji (by omega) (by omega) ?_
 walk_at "x0"
 obtain ⟨r5,h5,e5⟩:=Az (z.fdiv 1024) 5 (by decide);have e5:Int.fmod (z.fdiv 1024) 5=(r5:Int):=e5;rw [e5];generalize hm3:m2++_++_=m3;have x3:Ext [] m2 m3:=by rw [← hm3];exact Ext.more.trans Ext.more
 have gl3:m3[m2.length]?=some (.lst []):=by rw [← hm3];exact Ext.more.old (W:=[]) _ _ (by simp) Ai
 refine Ce (by rw [← hm3];exact Ai) (by simpa using h5) fun y2 hy=>?_
 have yy2:Th m3 41 y2/\Lz p y2=false:=by
  clear f
  simp only [List.mem_cons,List.mem_nil_iff,or_false] at hy;rcases hy with rfl|rfl|rfl|rfl|rfl
  ·refine ⟨Adq (yy.1.ext x3),?_⟩;show (_&&(Ec p.H y&&true))=false;rw [yy.2,Bool.false_and,Bool.and_false]
  ·refine ⟨Bl _ _ (Od fun x hx=>by rw [(List.mem_replicate.mp hx).2];kernel_rfl),?_⟩;show (decide ((List.replicate (p.room+1) _).length<=p.room)&&_)=false;rw [List.length_replicate,decide_eq_false (by omega)];rfl
  ·refine ⟨?_,rfl⟩;show Th m3 (40+1) _;unfold Th;exact ⟨_,gl3,fun x hx=>absurd hx (by simp)⟩
  ·exact ⟨Bl _ _ rfl,rfl⟩
  ·refine ⟨Bl _ _ (by kernel_rfl),?_⟩;show (_&&(_&&(false&&_)))=false;rw [Bool.false_and,Bool.and_false,Bool.and_false]
 clear hy hm3
 walk_at "x0"
 refine Bf (j:=t) (d:=.tup (v.map lsD)) (by rw [List.getElem?_map,e1];rfl) ?_
 walk_at "x0"
 have sv:s < (v.map lsD).length:=by rw [List.length_map,vo.1];exact hs
 have tr:t < (w.rs.map Eg).length:=by rw [List.length_map,wo.lr];exact ht
 have rl:(w.rs.map Eg).length=p.H:=by rw [List.length_map,wo.lr];rfl
 have rd:∀ m:MH,∀ x∈w.rs.map Eg,Th m 58 x:=fun m=>Qn (fun x _=>T9 x) (Nat.le_refl _)
 refine Ca k (i:=s) sv (by rw [List.length_map,vo.1];omega) ?_
 walk_at "x0"
 refine Ca k (i:=t) tr (by omega) ?_;have y3:Th m3 59 (.tup ((w.rs.map Eg).set t (.tup ((v.map lsD).set s y2)))):=Ue (rd m3) (Ue (Qn (fun x _=>qP x) (Nat.le_refl _)) (yy2.1.le (by decide)));have b3:Ft p (.tup ((w.rs.map Eg).set t (.tup ((v.map lsD).set s y2))))=false:=V6 tr (qX sv yy2.2);generalize D.tup ((w.rs.map Eg).set t (.tup ((v.map lsD).set s y2)))=y4 at y3 b3;refine Ay (Af (Ak (Bx (Nv (Kz (H9 (Aj (by with_unfolding_all rfl) ⟨_,rfl,fun _=>?_,fun e=>(by cases e)⟩)))))))
 walk_at "x0"
 refine Cv (fun _=>?_) fun _=>?_
 ·walk_at "x0"
  cases er:w.rs.map Eg with
  | nil=>rw [er] at rl;have:0=p.H:=rl;omega
  | cons a0 ar =>
   rw [er] at rl tr rd
   walk_at "x0"
   refine Dr (by rw [rl,List.length_singleton];omega) ?_
   walk_at "x0"
   refine Ig (i:=1) (by rw [List.length_cons];omega) ?_
   walk_at "x0"
   refine Fb rfl ?_
   walk_at "x0"
   refine Ca k (i:=t) tr (by rw [rl];omega) ?_
   walk_at "x0"
   obtain ⟨r4,h4,e4⟩:=Az (z.fdiv 128) 4 (by decide);have e4:Int.fmod (z.fdiv 128) 4=(r4:Int):=e4;rw [e4];generalize hm4:m3++_++_=m4;have x4:Ext [] m3 m4:=by rw [← hm4];exact Ext.more.trans Ext.more
   have gl4:m4[m3.length]?=some (.lst (a0::ar)):=by rw [← hm4];exact Ext.more.old (W:=[]) _ _ (by simp) Ai
   refine Ce (by rw [← hm4];exact Ai) (by simpa using h4) fun y5 hy=>?_
   have rl':ar.length+1=p.H:=by rw [← rl];rfl
   have yy5:Th m4 59 y5/\Ft p y5=false:=by
    clear f
    simp only [List.mem_cons,List.mem_nil_iff,or_false] at hy;rcases hy with rfl|rfl|rfl|rfl
    ·refine ⟨?_,?_⟩
     ·show Th m4 (58+1) _;unfold Th;intro x hx;rcases List.mem_append.mp hx with hx|hx
      ·exact rd m4 x hx
      ·rw [List.mem_singleton.mp hx];exact rd m4 _ List.mem_cons_self
     ·show ((((a0::ar)++[a0]).length==p.H)&&_)=false;rw [beq_eq_false_iff_ne.mpr (by rw [List.length_append,List.length_singleton,List.length_cons];omega)];rfl
    ·refine ⟨?_,?_⟩
     ·show Th m4 (58+1) _;unfold Th;exact fun x hx=>rd m4 x (List.mem_of_mem_drop hx)
     ·show ((((a0::ar).drop 1).length==p.H)&&_)=false;rw [beq_eq_false_iff_ne.mpr (by rw [List.length_drop,List.length_cons];omega)];rfl
    ·refine ⟨?_,rfl⟩;show Th m4 (58+1) _;unfold Th;exact ⟨_,gl4,fun x hx=>rd m4 x hx⟩
    ·refine ⟨Ue (rd m4) (Bl _ _ rfl),V6 tr ?_⟩;show ((0==p.H)&&_)=false;rw [beq_eq_false_iff_ne.mpr (by omega)];rfl
   walk_at "x0"
   exact f y5 m4 (x1.trans (x2.trans (x3.trans x4))) yy5.1 yy5.2
 ·refine Ax (Af ?_)
  walk_at "x0"
  exact f y4 m3 (x1.trans (x2.trans x3)) y3 b3
end
section
variable {mh:MH}{P:D->MH->Prop}{p:Pg}{w:Wd}{S:List (List Sp)}
theorem G4 {x y z:D}(h:Er p x=false):Hq p (.tup [x,y,z])=false:=by
 show (Er p x&&(Ft p y&&Il p z))=false;rw [h];rfl
theorem Ij {x y z:D}(h:Ft p y=false):Hq p (.tup [x,y,z])=false:=by
 show (Er p x&&(Ft p y&&Il p z))=false;rw [h,Bool.false_and,Bool.and_false]
theorem Fg {x y z:D}(h:Il p z=false):Hq p (.tup [x,y,z])=false:=by
 show (Er p x&&(Ft p y&&Il p z))=false;rw [h,Bool.and_false,Bool.and_false]
theorem dR {h:Nat}{ps:List D}{x:D}(hh:h < p.plays.length) (hl:ps.length=p.plays.length) (hb:Du p.H (p.len (plA p h)) x=false):Er p (.tup (ps.set h x))=false:=by
 show (((ps.set h x).length==p.H)&&(List.zipWith (fun r x=>Du p.H (p.len r) x) p.plays (ps.set h x)).all id)=false;have:(List.zipWith (fun r x=>Du p.H (p.len r) x) p.plays (ps.set h x)).all id=false:=by
  rw [List.all_eq_false];refine ⟨false,List.mem_iff_getElem?.mpr ⟨h,?_⟩,by simp⟩;rw [List.getElem?_zipWith,Ju hh,List.getElem?_set_self (by omega)];show some (Du p.H (p.len (plA p h)) x)=_;rw [hb]
 rw [this,Bool.and_false]
theorem th3 {m:MH}{n:Nat}{x y z:D}(hx:Th m n x) (hy:Th m n y) (hz:Th m n z):Th m (n+1) (.tup [x,y,z]):=by
 unfold Th;intro u hu;simp only [List.mem_cons,List.mem_nil_iff,or_false] at hu;rcases hu with rfl | rfl | rfl <;> assumption
theorem dU (k:Nat) (z:Int) (wo:w.ok p) (f:∀ (w':Wd) h',Ext [] mh h'->w'.ok p->P w'.d h'):wV (Ad (Gk (k+2)) Ac cR [p.d,w.d,.int z,.bl true] mh) P:=by
 refine Ao (Zt (k+1)) Nz.1 Nz.2 rfl ?_;show wS (pG (k+1)) [some p.d,some w.d,some (.int z),some (.bl true),none,none] mh _;unfold pG Pg.d Wd.d;obtain ⟨i,h2,e2⟩:=Az (z.fdiv 2) 2 (by decide);have e2:Int.fmod (z.fdiv 2) 2=(i:Int):=e2
 walk_at "x0"
 rw [e2]
 match i,h2 with
 | 0,_ =>
  refine Bf (j:=0) (d:=.int p.l0) rfl ?_
  walk_at "x0"
  have e:(p.l0:Int)+1=((p.l0+1:Nat):Int):=by omega
  rw [e];refine Cq (by omega) ?_;obtain ⟨r,hr,er⟩:=Az (z.fdiv 4) (p.l0+1) (by omega);rw [er]
  walk_at "x0"
  rw [e2];refine Ca k (i:=0) (by simp) (by simp) ?_
  walk_at "x0"
  exact f { w with x:=r } mh Ext.refl ⟨wo.lp,wo.ps,wo.lr,wo.rs,show r<=p.l0 by omega,wo.yy⟩
 | 1,_ =>
  refine Bf (j:=1) (d:=.int p.l1) rfl ?_
  walk_at "x0"
  have e:(p.l1:Int)+1=((p.l1+1:Nat):Int):=by omega
  rw [e];refine Cq (by omega) ?_;obtain ⟨r,hr,er⟩:=Az (z.fdiv 4) (p.l1+1) (by omega);rw [er]
  walk_at "x0"
  rw [e2];refine Ca k (i:=1) (by simp) (by simp) ?_
  walk_at "x0"
  exact f { w with y:=r } mh Ext.refl ⟨wo.lp,wo.ps,wo.lr,wo.rs,wo.xx,show r<=p.l1 by omega⟩
theorem dW (k:Nat) (z:Int) (f:∀ (y:D) h',Ext [] mh h'->Th h' 59 y->Il p y=false->P (.tup [.tup (w.ps.map Pt.d),.tup (w.rs.map Eg),y]) h'):wV (Ad (Gk (k+2)) Ac cR [p.d,w.d,.int z,.bl false] mh) P:=by
 refine Ao (Zt (k+1)) Nz.1 Nz.2 rfl ?_;show wS (pG (k+1)) [some p.d,some w.d,some (.int z),some (.bl false),none,none] mh _;unfold pG Pg.d Wd.d;obtain ⟨i,h2,e2⟩:=Az (z.fdiv 2) 2 (by decide);have e2:Int.fmod (z.fdiv 2) 2=(i:Int):=e2
 have pick:∀ (l:Nat) (y:D),y∈[D.int (-1),.int ((l:Int)+1),.bl true,.non,.str "0"]->dat 58 y=true/\btB 0 (l:Int) y=false:=fun l y hy=>by
  simp only [List.mem_cons,List.mem_nil_iff,or_false] at hy;rcases hy with rfl|rfl|rfl|rfl|rfl
  ·exact ⟨Dj _ _,aF (by decide)⟩
  ·exact ⟨Dj _ _,V5 (by omega)⟩
  ·exact ⟨rfl,rfl⟩
  ·exact ⟨rfl,rfl⟩
  ·exact ⟨by kernel_rfl,rfl⟩
 obtain ⟨r5,h5,e5⟩:=Az (z.fdiv 4) 5 (by decide);have e5:Int.fmod (z.fdiv 4) 5=(r5:Int):=e5
 walk_at "x0"
 rw [e2]
 match i,h2 with
 | 0,_ =>
  refine Bf (j:=0) (d:=.int p.l0) rfl ?_
  walk_at "x0"
  refine Cq (by omega) ?_
  walk_at "x0"
  rw [e5];refine Ce Ai (by simpa using h5) fun y hy=>?_
  obtain ⟨y1,y2⟩:=pick p.l0 y hy
  walk_at "x0"
  rw [e2];refine Ca k (i:=0) (by simp) (by simp) ?_
  walk_at "x0"
  refine f _ _ Ext.more (Bl _ _ (Jk (n:=58) (fun x hx=>by simp only [List.mem_cons,List.mem_nil_iff,or_false] at hx;rcases hx with rfl | rfl <;> exact Dj _ _) y1)) ?_;show (btB 0 (p.l0:Int) y&&btB 0 (p.l1:Int) (.int w.y))=false;rw [y2];rfl
 | 1,_ =>
  refine Bf (j:=1) (d:=.int p.l1) rfl ?_
  walk_at "x0"
  refine Cq (by omega) ?_
  walk_at "x0"
  rw [e5];refine Ce Ai (by simpa using h5) fun y hy=>?_
  obtain ⟨y1,y2⟩:=pick p.l1 y hy
  walk_at "x0"
  rw [e2];refine Ca k (i:=1) (by simp) (by simp) ?_
  walk_at "x0"
  refine f _ _ Ext.more (Bl _ _ (Jk (n:=58) (fun x hx=>by simp only [List.mem_cons,List.mem_nil_iff,or_false] at hx;rcases hx with rfl | rfl <;> exact Dj _ _) y1)) ?_;show (btB 0 (p.l0:Int) (.int w.x)&&btB 0 (p.l1:Int) y)=false;rw [y2,Bool.and_false]
theorem Adr {h:Nat}{y:Pt}:(w.setP h y).d=.tup [.tup ((w.ps.map Pt.d).set h y.d),.tup (w.rs.map Eg),.tup [.int w.x,.int w.y]]:=by
 unfold Wd.setP Wd.d;dsimp only;rw [List.map_set]
theorem dX (k:Nat) (z:Int) (g:Prg p S) (wo:w.ok p) (f:∀ (w':Wd) h',Ext [] mh h'->w'.ok p->P w'.d h'):wV (Ad (Gk (k+3)) Ac Xo [p.d,w.d,.int z,.bl true] mh) P:=by
 have po:=g.po;have h1:1<=p.H:=po.h1;refine Ao (Zu (k+2)) N5.1 N5.2 rfl ?_;show wS (pH (k+2)) [some p.d,some w.d,some (.int z),some (.bl true),none,none] mh _;unfold pH;refine Ak (Cw (Av (Av (Aj (by with_unfolding_all rfl) (Ag (K1 (by decide) (by decide) ?_))))));refine Cj (Ar (Av (Aj (by with_unfolding_all rfl) (Ag (Fw (d:=.tup (p.plays.map Ah)) ?_)))));refine Ag (Bv (ds:=p.plays.map Ah) (by intro z z';cases z') rfl ?_);rw [List.length_map];have eH:p.plays.length=p.H:=rfl;rw [eH];refine Cq (by omega) ?_;obtain ⟨h,hh,eh⟩:=Az (z.fdiv 4) p.H (by omega);have hh:h < p.plays.length:=hh;rw [eh];refine Ay (Af ?_);refine Ak (Bx (Ba (Av (Av (Aj (by with_unfolding_all rfl) (Ag (Cq (by decide) (Ag (Cr ⟨_,rfl,fun _=>?_,fun _=>Ax (Af ?_)⟩)))))))))
 ·walk_at "x0"
  exact dN k _ g wo f
 refine Ak (Bx (Ba (Av (Av (Aj (by with_unfolding_all rfl) (Ag (Cq (by decide) (Ag (Cr ⟨_,rfl,fun _=>?_,fun _=>Ax (Af ?_)⟩)))))))))
 ·walk_at "x0"
  exact dU k _ wo f
 refine Ak (Cw ?_);refine Cj (Ar (Aj (by with_unfolding_all rfl) (Ar (Aj (by with_unfolding_all rfl) (Ar ?_)))));refine Av (Av (Aj (by with_unfolding_all rfl) (Ag (Eo (a:=.tup (w.ps.map Pt.d)) ?_))));refine Aj (by with_unfolding_all rfl) (Bf (j:=h) (d:=(w.pt h).d) (by rw [List.getElem?_map,Wd.pt_at (by rw [wo.lp];exact hh)];rfl) ?_)
 walk_at "x0"
 refine aH k h _ (w.pt h) po hh fun y m1 x1 _ _=>?_
 refine Ay (Af (Ak (Bx (H9 (Aj (by with_unfolding_all rfl) ⟨_,rfl,fun _=>?_,fun e=>(by cases e)⟩)))));refine Ak (Cw ?_);refine Cj (Ar (Aj (by with_unfolding_all rfl) (Ar (Aj (by with_unfolding_all rfl) (Ar ?_)))));refine Av (Av (Aj (by with_unfolding_all rfl) (Ag (Eo (a:=.tup (w.ps.map Pt.d)) ?_))));refine Aj (by with_unfolding_all rfl) (Bf (j:=h) (d:=(w.pt h).d) (by rw [List.getElem?_map,Wd.pt_at (by rw [wo.lp];exact hh)];rfl) ?_)
 walk_at "x0"
 refine qW k h _ (w.pt h) po hh (K9 wo hh) fun q' m2 x2 qo=>?_
 refine Ay (Af (Ax (Af ?_)));refine Ak (Gx (Pq (Ar ?_)));refine Cj (Ar (Av (Aj (by with_unfolding_all rfl) (Ag (Eo (a:=.tup (w.ps.map Pt.d)) ?_)))))
 walk_at "x0"
 refine Ca (k+1) (i:=h) (by rw [List.length_map,wo.lp];exact hh) (by rw [List.length_map,wo.lp];have:=po.h6;omega) ?_
 walk_at "x0"
 refine Fe (b:=.tup (w.rs.map Eg)) ?_
 walk_at "x0"
 refine Ep (c:=.tup [.int w.x,.int w.y]) ?_
 walk_at "x0"
 have e:=Adr (w:=w) (h:=h) (y:=q');rw [← e];exact f _ _ (x1.trans x2) (K5 wo fun r er=>by rw [Ju hh] at er;cases er;exact qo)
theorem dY (k:Nat) (z:Int) (g:Prg p S) (hr1:1<=p.room) (wo:w.ok p) (f:∀ (x:D) h',Ext [] mh h'->Th h' 61 x->Hq p x=false->P x h'):wV (Ad (Gk (k+3)) Ac Xo [p.d,w.d,.int z,.bl false] mh) P:=by
 have po:=g.po;have h1:1<=p.H:=po.h1;refine Ao (Zu (k+2)) N5.1 N5.2 rfl ?_;show wS (pH (k+2)) [some p.d,some w.d,some (.int z),some (.bl false),none,none] mh _;unfold pH;refine Ak (Cw (Av (Av (Aj (by with_unfolding_all rfl) (Ag (K1 (by decide) (by decide) ?_))))));refine Cj (Ar (Av (Aj (by with_unfolding_all rfl) (Ag (Fw (d:=.tup (p.plays.map Ah)) ?_)))));refine Ag (Bv (ds:=p.plays.map Ah) (by intro z z';cases z') rfl ?_);rw [List.length_map];have eH:p.plays.length=p.H:=rfl;rw [eH];refine Cq (by omega) ?_;obtain ⟨h,hh,eh⟩:=Az (z.fdiv 4) p.H (by omega);have hh:h < p.plays.length:=hh;rw [eh];refine Ay (Af ?_);refine Ak (Bx (Ba (Av (Av (Aj (by with_unfolding_all rfl) (Ag (Cq (by decide) (Ag (Cr ⟨_,rfl,fun _=>?_,fun _=>Ax (Af ?_)⟩)))))))))
 ·walk_at "x0"
  exact dO k _ g hr1 wo fun y h' x1 t1 b1=>f _ h' x1 (th3 (Bl _ _ (Yg w)) t1 (Bl _ _ (Ua w))).up (Ij b1)
 refine Ak (Bx (Ba (Av (Av (Aj (by with_unfolding_all rfl) (Ag (Cq (by decide) (Ag (Cr ⟨_,rfl,fun _=>?_,fun _=>Ax (Af ?_)⟩)))))))))
 ·walk_at "x0"
  exact dW k _ fun y h' x1 t1 b1=>f _ h' x1 (th3 (Bl _ _ (Yg w)) (Bl _ _ (Yh w)) t1).up (Fg b1)
 refine Ak (Cw ?_);refine Cj (Ar (Aj (by with_unfolding_all rfl) (Ar (Aj (by with_unfolding_all rfl) (Ar ?_)))));refine Av (Av (Aj (by with_unfolding_all rfl) (Ag (Eo (a:=.tup (w.ps.map Pt.d)) ?_))));refine Aj (by with_unfolding_all rfl) (Bf (j:=h) (d:=(w.pt h).d) (by rw [List.getElem?_map,Wd.pt_at (by rw [wo.lp];exact hh)];rfl) ?_)
 walk_at "x0"
 refine aH k h _ (w.pt h) po hh fun y m1 x1 t1 b1=>?_
 refine Ay (Af (Ak (Bx (H9 (Aj (by with_unfolding_all rfl) ⟨_,rfl,fun e=>(by cases e),fun _=>Ax (Af ?_)⟩)))));refine Ak (Gx (Pq (Ar ?_)));refine Cj (Ar (Av (Aj (by with_unfolding_all rfl) (Ag (Eo (a:=.tup (w.ps.map Pt.d)) ?_)))))
 walk_at "x0"
 refine Ca (k+1) (i:=h) (by rw [List.length_map,wo.lp];exact hh) (by rw [List.length_map,wo.lp];have:=po.h6;omega) ?_
 walk_at "x0"
 refine Fe (b:=.tup (w.rs.map Eg)) ?_
 walk_at "x0"
 refine Ep (c:=.tup [.int w.x,.int w.y]) ?_
 walk_at "x0"
 refine f _ _ x1 (th3 (Ue (Qn (fun q _=>Ye q) (by decide)) t1) (Bl _ _ (Yh w)).up (Bl _ _ (Ua w)).up) (G4 (dR hh (by rw [List.length_map];exact wo.lp) b1))
end
noncomputable def depth:Nat:=10
section
variable {mh:MH}{P:D->MH->Prop}{p:Pg}{w:Wd}{S:List (List Sp)}
noncomputable def Bw (p:Pg) (m:MH) (y:D):Prop:=Th m 62 y/\Hq p y=false
theorem Bw.ext {m m':MH}{y:D}(h:Bw p m y) (e:Ext [] m m'):Bw p m' y:=⟨h.1.ext e,h.2⟩
theorem Mi {l:List D}(h:l.length≠p.H):Er p (.tup l)=false:=by
 show ((l.length==p.H)&&_)=false;rw [beq_eq_false_iff_ne.mpr h];rfl
theorem V7 {l:List D}(h:l.length≠p.H):Ft p (.tup l)=false:=by
 show ((l.length==p.H)&&_)=false;rw [beq_eq_false_iff_ne.mpr h];rfl
theorem qY {ps:List Pt}(h:ps.length=p.H):Hq p (.tup (ps.map Pt.d))=false:=by
 match ps,h with
 | [],_=>rfl
 | [_],_=>rfl
 | [_,_],_=>rfl
 | [a,b,c],h=>exact G4 (Mi (l:=ptL a) (by rw [← h];show 5≠3;decide))
 | _::_::_::_::_,_=>rfl
theorem Ug {m:MH}{n k:Nat}{ds:List D}(e:m[k]?=some (.lst ds)) (h:∀ x∈ds,Th m n x):Th m (n+1) (.ref k):=by
 unfold Th;exact ⟨ds,e,h⟩
theorem Iw {m:MH}{n:Nat}{ds:List D}(h:∀ x∈ds,Th m n x):Th m (n+1) (.tup ds):=by
 unfold Th;exact h
theorem dZ (k:Nat) (g:Prg p S) (wo:w.ok p) (s0 s2 s3 x5 x6:Option D) {Q:D->MH->Prop}(hq:∀ h',Q (.bl true) h'):wS ((Ab (Bb (vr 4) (Ms [7,8,9]))
      (Ab (Bb (lstM (Aa (dop Bu (vr 4) (Aq (Aa (Zr (.int 0)) (Zr [])))) (Aa (dSl (vr 4) none (some (Zr (.int 2)))) (Aa (Ae G6 (Aa (vr 4) (Zr []))) (Aa (Zr .non) (Aa (Aq (Zr [])) (Aa (dop ixD (vr 4) (Zr (.int 0))) (Aa (Aq (Aa (dSl (vr 7) (some (Zr (.int 1))) none) (Aa (vr 8) (Aa (vr 9) (Zr []))))) (Zr []))))))))) (Aw 10))
      (Ab (Bb (dop Bu (vr 10) (lstM (Aa (Aq (Aa (dop Bu (vr 7) (Aq (Aa (dop ixD (vr 7) (Zr (.int 0))) (Zr [])))) (Aa (vr 8) (Aa (vr 9) (Zr []))))) (Aa (Aq (Aa (Ae G6 (Aa (vr 7) (Zr []))) (Aa (vr 8) (Aa (vr 9) (Zr []))))) (Aa (Aq (Aa (vr 7) (Aa (vr 8) (Aa (dop Bu (vr 9) (Aq (Aa (Zr (.int 0)) (Zr [])))) (Zr []))))) (Zr [])))))) (Aw 10))
      (Ab (Bb (dop Bu (vr 10) (lstM (Aa (Aq (Aa (vr 7) (Aa (vr 8) (Aa (dSl (vr 9) none (some (Zr (.int 1)))) (Zr []))))) (Aa (Aq (Aa (vr 7) (Aa (vr 8) (Aa (Ae G6 (Aa (vr 9) (Zr []))) (Zr []))))) (Aa (Aq (Aa (vr 7) (Aa (vr 8) (Aa (Zr .non) (Zr []))))) (Aa (Aq (Aa (vr 7) (Aa (vr 8) (Aa (Zr (.int 0)) (Zr []))))) (Zr []))))))) (Aw 10))
      (Ab (Ge (Dt (dop Bu (vr 10) (lstM (Aa (Aq (Aa (vr 7) (Aa (Zr .non) (Aa (vr 9) (Zr []))))) (Aa (Aq (Aa (vr 7) (Aa (dop Bu (vr 8) (Aq (Aa (dop ixD (vr 8) (Zr (.int 0))) (Zr [])))) (Aa (vr 9) (Zr []))))) (Aa (Aq (Aa (vr 7) (Aa (dSl (vr 8) (some (Zr (.int 1))) none) (Aa (vr 9) (Zr []))))) (Zr []))))))) (Aw 11)
      (Ab (ifS (Al (dop (isD true) (Ae (Ad (Gk (k+7)) Ac f46) (Aa (vr 1) (Aa (vr 11) (Zr [])))) (Zr (.bl false))))
       (Ab (Am (Zr (.bl false)))
        Zn)
       Zn)
       Zn))
      (Ab (Am (Zr (.bl true)))
      Zn))))))) [s0,some p.d,s2,s3,some w.d,x5,x6,none,none,none,none,none] mh (Px Q):=by
  have h6:p.H<=6:=g.po.h6;have h1:1<=p.H:=g.po.h1;have la:(w.ps.map Pt.d).length=p.H:=by rw [List.length_map];exact wo.lp
  have lb:(w.rs.map Eg).length=p.H:=by rw [List.length_map];exact wo.lr
  have ta:∀ m:MH,∀ x∈w.ps.map Pt.d,Th m 59 x:=fun m=>Qn (fun x _=>Ye x) (by decide)
  have tb:∀ m:MH,∀ x∈w.rs.map Eg,Th m 59 x:=fun m=>Qn (fun x _=>T9 x) (by decide)
  have tc:∀ m:MH,Th m 60 (.tup [.int w.x,.int w.y]):=fun m=>(Bl _ _ (Ua w)).up
  have na:=qY (p:=p) (ps:=w.ps) wo.lp;unfold Wd.d;generalize w.ps.map Pt.d=al at la ta na;generalize w.rs.map Eg=bl at lb tb;obtain ⟨a0,ar,rfl⟩:∃ a0 ar,al=a0::ar:=by
    cases al with
    | nil=>have:0=p.H:=la;omega
    | cons a r=>exact ⟨a,r,rfl⟩
  obtain ⟨b0,br,rfl⟩:∃ b0 br,bl=b0::br:=by
    cases bl with
    | nil=>have:0=p.H:=lb;omega
    | cons a r=>exact ⟨a,r,rfl⟩
  have lar:ar.length+1=p.H:=la;have lbr:br.length+1=p.H:=lb;have tA:∀ m:MH,Th m 60 (.tup (a0::ar)):=fun m=>Iw (ta m)
  have tB:∀ m:MH,Th m 60 (.tup (b0::br)):=fun m=>Iw (tb m)
  refine Ak (Cw (Aj (by with_unfolding_all rfl) (Tg rfl (Af ?_))));show wS _ [s0,some p.d,s2,s3,some (.tup [.tup (a0::ar),.tup (b0::br),.tup [.int w.x,.int w.y]]),x5,x6,some (.tup (a0::ar)),some (.tup (b0::br)),some (.tup [.int w.x,.int w.y]),none,none] mh _
  walk_at "x0"
  refine Dr (by simp) ?_
  walk_at "x0"
  refine Ie (i:=2) (by simp) ?_
  walk_at "x0"
  refine Fb rfl ?_
  walk_at "x0"
  refine Ig (i:=1) (by simp) ?_;refine Ar (Aj (by with_unfolding_all rfl) (Ar (Aj (by with_unfolding_all rfl) (Ag ⟨by simp,Ag ⟨by simp,Ay (Af ?_)⟩⟩))));generalize hm1:mh++_++_=m1;generalize hj1:List.length (mh++_)=j1;obtain ⟨xs1,g1,l1,hx1⟩:∃ xs,m1[j1]?=some (.lst xs)/\xs.length=7/\∀ y∈xs,Bw p m1 y:=by
    have gl:m1[mh.length]?=some (.lst [.tup (a0::ar),.tup (b0::br),.tup [.int w.x,.int w.y]]):=by rw [← hm1];exact Ext.more.old (W:=[]) _ _ (by simp) Ai
    refine ⟨_,by rw [← hm1,← hj1];exact Ai,rfl,fun y hy=>?_⟩;have t3:∀ x∈[D.tup (a0::ar),.tup (b0::br),.tup [.int w.x,.int w.y]],Th m1 61 x:=fun x hx=>by
      simp only [List.mem_cons,List.mem_nil_iff,or_false] at hx;rcases hx with rfl|rfl|rfl
      · exact (tA m1).up
      · exact (tB m1).up
      · exact (tc m1).up
    simp only [List.mem_cons,List.mem_nil_iff,or_false] at hy;rcases hy with rfl|rfl|rfl|rfl|rfl|rfl|rfl
    · refine ⟨Iw fun x hx=>?_,rfl⟩;rcases List.mem_append.mp hx with hx|hx
      · exact t3 x hx
      · rw [List.mem_singleton.mp hx];exact Bl _ _ rfl
    · exact ⟨Iw fun x hx=>t3 x (List.mem_of_mem_take hx),rfl⟩
    · exact ⟨Ug gl t3,rfl⟩
    · exact ⟨Bl _ _ rfl,rfl⟩
    · exact ⟨Bl _ _ rfl,rfl⟩
    · exact ⟨(tA m1).up.up,na⟩
    · exact ⟨th3 (Iw fun x hx=>(ta m1 x (List.mem_of_mem_drop hx)).up) (tB m1).up (tc m1).up,G4 (Mi (by rw [List.length_drop];omega))⟩
  clear hm1 hj1
  show wS _ [s0,some p.d,s2,s3,some (.tup [.tup (a0::ar),.tup (b0::br),.tup [.int w.x,.int w.y]]),x5,x6,some (.tup (a0::ar)),some (.tup (b0::br)),some (.tup [.int w.x,.int w.y]),some (.ref j1),none] m1 _
  walk_at "x0"
  refine Dr (by rw [la,List.length_singleton];omega) ?_
  walk_at "x0"
  refine Fb rfl ?_
  walk_at "x0"
  refine Dr (by simp) ?_
  walk_at "x0"
  refine G7 ((Ext.more.trans Ext.more).old (W:=[]) _ _ (by simp) g1) Ai (by rw [l1];simp) ?_;refine Ay (Af ?_);generalize hm2:m1++_++_++_=m2;generalize hj2:List.length (m1++_++_)=j2;obtain ⟨xs2,g2,l2,hx2⟩:∃ xs,m2[j2]?=some (.lst xs)/\xs.length=10/\∀ y∈xs,Bw p m2 y:=by
    have x12:Ext [] m1 m2:=by rw [← hm2];exact (Ext.more.trans Ext.more).trans Ext.more
    have gl:m2[m1.length]?=some (.lst (a0::ar)):=by rw [← hm2];exact (Ext.more.trans Ext.more).old (W:=[]) _ _ (by simp) Ai
    refine ⟨_,by rw [← hm2,← hj2];exact Ai,by rw [List.length_append,l1];rfl,fun y hy=>?_⟩;rcases List.mem_append.mp hy with hy|hy
    · exact (hx1 y hy).ext x12
    simp only [List.mem_cons,List.mem_nil_iff,or_false] at hy;rcases hy with rfl|rfl|rfl
    · refine ⟨th3 (Iw fun x hx=>?_) (tB m2).up (tc m2).up,G4 (Mi (by rw [List.length_append,la,List.length_singleton];omega))⟩;rcases List.mem_append.mp hx with hx|hx
      · exact (ta m2 x hx).up
      · rw [List.mem_singleton.mp hx];exact (ta m2 _ List.mem_cons_self).up
    · exact ⟨th3 (Ug gl fun x hx=>(ta m2 x hx).up) (tB m2).up (tc m2).up,G4 rfl⟩
    · exact ⟨th3 (tA m2).up (tB m2).up (Bl _ _ (by kernel_rfl)),Fg rfl⟩
  clear hm2 hj2 g1 hx1
  show wS _ [s0,some p.d,s2,s3,some (.tup [.tup (a0::ar),.tup (b0::br),.tup [.int w.x,.int w.y]]),x5,x6,some (.tup (a0::ar)),some (.tup (b0::br)),some (.tup [.int w.x,.int w.y]),some (.ref j2),none] m2 _
  walk_at "x0"
  refine Ie (i:=1) (by simp) ?_
  walk_at "x0"
  refine Fb rfl ?_
  walk_at "x0"
  refine G7 ((Ext.more.trans Ext.more).old (W:=[]) _ _ (by simp) g2) Ai (by rw [l2];simp) ?_;refine Ay (Af ?_);generalize hm3:m2++_++_++_=m3;generalize hj3:List.length (m2++_++_)=j3;obtain ⟨xs3,g3,l3,hx3⟩:∃ xs,m3[j3]?=some (.lst xs)/\xs.length=14/\∀ y∈xs,Bw p m3 y:=by
    have x12:Ext [] m2 m3:=by rw [← hm3];exact (Ext.more.trans Ext.more).trans Ext.more
    have gl:m3[m2.length]?=some (.lst [.int w.x,.int w.y]):=by rw [← hm3];exact (Ext.more.trans Ext.more).old (W:=[]) _ _ (by simp) Ai
    refine ⟨_,by rw [← hm3,← hj3];exact Ai,by rw [List.length_append,l2];rfl,fun y hy=>?_⟩;rcases List.mem_append.mp hy with hy|hy
    · exact (hx2 y hy).ext x12
    simp only [List.mem_cons,List.mem_nil_iff,or_false] at hy;rcases hy with rfl|rfl|rfl|rfl
    · exact ⟨th3 (tA m3).up (tB m3).up (Bl _ _ (by kernel_rfl)),Fg rfl⟩
    · refine ⟨th3 (tA m3).up (tB m3).up (Ug gl fun x hx=>?_),Fg rfl⟩;simp only [List.mem_cons,List.mem_nil_iff,or_false] at hx;rcases hx with rfl | rfl <;> exact Bl _ _ rfl
    · exact ⟨th3 (tA m3).up (tB m3).up (Bl _ _ rfl),Fg rfl⟩
    · exact ⟨th3 (tA m3).up (tB m3).up (Bl _ _ rfl),Fg rfl⟩
  clear hm3 hj3 g2 hx2
  show wS _ [s0,some p.d,s2,s3,some (.tup [.tup (a0::ar),.tup (b0::br),.tup [.int w.x,.int w.y]]),x5,x6,some (.tup (a0::ar)),some (.tup (b0::br)),some (.tup [.int w.x,.int w.y]),some (.ref j3),none] m3 _;refine Ak (Ez ?_)
  walk_at "x0"
  refine Dr (by rw [lb,List.length_singleton];omega) ?_
  walk_at "x0"
  refine Ig (i:=1) (by simp) ?_
  walk_at "x0"
  refine G7 (Ext.more.old (W:=[]) _ _ (by simp) g3) Ai (by rw [l3];simp) ?_;generalize hm4:m3++_++_=m4;generalize hj4:List.length (m3++_)=j4;obtain ⟨xs4,g4,hx4⟩:∃ xs,m4[j4]?=some (.lst xs)/\∀ y∈xs,Bw p m4 y:=by
    have x12:Ext [] m3 m4:=by rw [← hm4];exact Ext.more.trans Ext.more
    refine ⟨_,by rw [← hm4,← hj4];exact Ai,fun y hy=>?_⟩;rcases List.mem_append.mp hy with hy|hy
    · exact (hx3 y hy).ext x12
    simp only [List.mem_cons,List.mem_nil_iff,or_false] at hy;rcases hy with rfl|rfl|rfl
    · exact ⟨th3 (tA m4).up (Bl _ _ rfl) (tc m4).up,Ij rfl⟩
    · refine ⟨th3 (tA m4).up (Iw fun x hx=>?_) (tc m4).up,Ij (V7 (by rw [List.length_append,lb,List.length_singleton];omega))⟩;rcases List.mem_append.mp hx with hx|hx
      · exact (tb m4 x hx).up
      · rw [List.mem_singleton.mp hx];exact (tb m4 _ List.mem_cons_self).up
    · exact ⟨th3 (tA m4).up (Iw fun x hx=>(tb m4 x (List.mem_of_mem_drop hx)).up) (tc m4).up,Ij (V7 (by rw [List.length_drop,lb];omega))⟩
  clear hm4 hj4 g3 hx3
  refine ⟨_,src_list g4,xs4,fun _ l h=>Ext [] m4 h/\∃ x11,l=[s0,some p.d,s2,s3,some (.tup [.tup (a0::ar),.tup (b0::br),.tup [.int w.x,.int w.y]]),x5,x6,some (.tup (a0::ar)),some (.tup (b0::br)),some (.tup [.int w.x,.int w.y]),some (.ref j3),x11],⟨Ext.refl,_,rfl⟩,fun _ _ _ q=>Hv (q.1.old _ _ (by simp) g4),?_,?_⟩
  · rintro i d l h ed ⟨xh,x11,rfl⟩;obtain ⟨td,bd⟩:=(hx4 d (List.mem_of_getElem? ed)).ext xh;refine Ay ?_;show wS _ [s0,some p.d,s2,s3,some (.tup [.tup (a0::ar),.tup (b0::br),.tup [.int w.x,.int w.y]]),x5,x6,some (.tup (a0::ar)),some (.tup (b0::br)),some (.tup [.int w.x,.int w.y]),some (.ref j3),some d] h _
    walk_at "x0"
    refine G8 k p g.po td fun h' x'=>?_
    rw [bd];refine Ag ⟨_,_,rfl,⟨_,rfl,Ed (Ax (Af (Ax ⟨xh.trans x',_,rfl⟩)))⟩⟩
  · rintro l h ⟨xh,x11,rfl⟩
    walk_at "x0"
    exact hq h
end
theorem main:∀ ns:List Int,ns.length<=63->∃ mh',Ad (Gk depth) Ac cT [.rol (ns.map D.int)] []=some (.bl true,mh'):=by
 intro ns hns
 suffices hw:wV (Ad (Gk (9+1)) Ac cT [.rol (ns.map D.int)] []) fun d _=>d=.bl true by
  obtain ⟨d,h,e,rfl⟩:=hw;exact ⟨h,e⟩
 refine Ao (wF 9) Zo.1 Zo.2 rfl ?_;show wS (Ade 9) [some (.rol (ns.map D.int)),none,none,none,none,none,none,none,none,none,none,none] [] _;unfold Ade
 walk_at "x0"
 refine dM 5 ns fun p S m0 g hl0 hl1 hr1 _ x0=>?_
 have h6:p.plays.length<=6:=g.po.h6
 walk_at "x0"
 refine Di p.plays Ah (fun _=>.tup []) (by omega) ?_ (fun x h' R hx ex hR=>?_) fun m1 x1=>?_
 ·refine Ey (Av (Aj (by with_unfolding_all rfl) (Ag (Fw (d:=.tup (p.plays.map Ah)) ?_))));exact ⟨_,rfl,Eh rfl⟩
 ·refine Ay ⟨rfl,?_⟩
  walk_at "x0"
  exact hR _ Ext.refl
 walk_at "x0"
 refine Ef (Je _ _) ?_;refine Ay (Af ?_);generalize m1++_=m2;show wS _ [some (.rol (ns.map D.int)),some p.d,some (.tup [.int 0,.tup [.int 0,.int 0,.int 0],.tup [.int (-1),.int (-1),.int (-1)],.tup [.int 0,.int 0],.bl false]),some (.tup (p.plays.map fun _=>.tup [])),none,none,none,none,none,none,none,none] m2 _;generalize hst:D.tup [.int 0,.tup [.int 0,.int 0,.int 0],.tup [.int (-1),.int (-1),.int (-1)],.tup [.int 0,.int 0],.bl false]=st;generalize hem:D.tup (p.plays.map fun _=>.tup [])=em
 walk_at "x0"
 refine Ry 7 g.po ?_;refine Pq (Ar (Cj (Ar ?_)));refine Di p.plays Ah (fun _=>st) (by omega) ?_ (fun x h' R hx ex hR=>?_) fun m3 x3=>?_
 ·refine Ey (Av (Aj (by with_unfolding_all rfl) (Ag (Fw (d:=.tup (p.plays.map Ah)) ?_))));exact ⟨_,rfl,Eh rfl⟩
 ·refine Ay ⟨rfl,?_⟩
  walk_at "x0"
  exact hR _ Ext.refl
 refine Ag (Ef (Je _ _) ?_);refine Ar (Cj (Ar ?_));refine Di p.plays Ah (fun _=>em) (by omega) ?_ (fun x h' R hx ex hR=>?_) fun m4 x4=>?_
 ·refine Ey (Av (Aj (by with_unfolding_all rfl) (Ag (Fw (d:=.tup (p.plays.map Ah)) ?_))));exact ⟨_,rfl,Eh rfl⟩
 ·refine Ay ⟨rfl,?_⟩
  walk_at "x0"
  exact hR _ Ext.refl
 refine Ag (Ef (Je _ _) ?_);refine Ar (Av (Aj (by with_unfolding_all rfl) (Ag (Fe (b:=.tup [.int p.l0,.int p.l1]) ?_))));refine Ag ⟨by simp,?_⟩;refine Tv ?_ (Yi _) ⟨_,rfl,Ed (Ax (Af ?_))⟩
 ·rw [xT,← hst,← hem,List.map_const',List.map_const',List.map_const'];rfl
 generalize m4++_=m5
 clear hst hem
 walk_at "x0"
 refine qQ 0 ns g fun w m6 wo x6=>?_
 walk_at "x0"
 refine qR 1 g wo fun m7 x7=>?_
 walk_at "x0"
 refine Ez ?_
 walk_at "x0"
 refine Bv (by intro z z';cases z') rfl ?_
 walk_at "x0"
 rw [List.length_map];refine Bj (d:=.int (Lj (ns.length:Int) [63])) (h:=m7) rfl ?_
 walk_at "x0"
 generalize hM:Lj (ns.length:Int) [63]=M;have bM:M<=ns.length/\0<=M/\M<=63:=by
  rw [xU] at hM;subst hM;split <;> omega
 refine ⟨_,aB (a:=5) ⟨by decide,by decide⟩ ⟨by omega,by omega⟩,Cd 5 (M - 5).toNat,fun _ l _=>∃ (x5 x6:Option D),l=[some (.rol (ns.map D.int)),some p.d,some st,some em,some w.d,x5,x6,none,none,none,none,none],⟨_,_,rfl⟩,fun _ _ _ _=>⟨rfl,rfl⟩,?_,?_⟩
 ·rintro i d l h ed ⟨x5,x6,rfl⟩;obtain ⟨rfl,hi⟩:=aC (a:=5) ed;refine Ay ?_;show wS _ [some (.rol (ns.map D.int)),some p.d,some st,some em,some w.d,some (.int ((5+i:Nat):Int)),x6,none,none,none,none,none] h _
  walk_at "x0"
  refine xV (by omega) fun c=>?_
  walk_at "x0"
  refine El 8 c (5+i) fun d3 _=>?_
  walk_at "x0"
  refine dX 6 d3 g wo fun w' h1 x1 wo'=>?_
  walk_at "x0"
  refine G8 2 p g.po (n:=60) (Bl _ _ (Yi w')) fun h2 x2=>?_
  rw [Z0 wo'];refine Ag ⟨_,_,rfl,⟨_,rfl,Ed (Ax (Af ?_))⟩⟩
  walk_at "x0"
  refine dY 6 d3 g hr1 wo fun x h3 x3 tx bx=>?_
  walk_at "x0"
  refine G8 2 p g.po tx fun h4 x4=>?_
  rw [bx];exact Ag ⟨_,_,rfl,⟨_,rfl,Ed (Ax (Af (Ax ⟨_,_,rfl⟩)))⟩⟩
 ·rintro l h ⟨x5,x6,rfl⟩;exact Af (dZ 2 g wo _ _ _ _ _ fun _=>rfl)
end Lw
open PySem PySem.W PyProof.Rows
namespace PySem.W.Fast
def tw6032183345120469842:Unit:=()
def tw11517526154873784451:Unit:=()
def tw7335031544340420566:Unit:=()
def tw4410851208708321361:Unit:=()
def tw10077553469040323257:Unit:=()
def tw14193952843432578226:Unit:=()
def tw12520656488355942730:Unit:=()
def tw12079633625962881325:Unit:=()
def tw8376002941149311950:Unit:=()
def tw14331056248701159438:Unit:=()
def tw2511200791177942843:Unit:=()
def tw10287133788845437777:Unit:=()
def tw15142341684065516367:Unit:=()
def tw17538048266754182142:Unit:=()
def tw765119627324176825:Unit:=()
def tw10750636825700016821:Unit:=()
def tw14697774516475701050:Unit:=()
def tw18103027077725822902:Unit:=()
def tw16762878536826646037:Unit:=()
def tw14650207059011592143:Unit:=()
def tw3221140075782202597:Unit:=()
def tw16637387750950344764:Unit:=()
def tw17879066469171232377:Unit:=()
def tw4126712691408831709:Unit:=()
def tw17994460602166340982:Unit:=()
def tw1608598238163835864:Unit:=()
def tw11880010253264961657:Unit:=()
def tw6455547020603320549:Unit:=()
def tw5596493610237263483:Unit:=()
def tw15849468173494195935:Unit:=()
def tw1008777108007758690:Unit:=()
def tw8897169247239022158:Unit:=()
def tw7592275834784187819:Unit:=()
def tw6826069358395783771:Unit:=()
def tw15104160799589589477:Unit:=()
def tw13785482649487157028:Unit:=()
def tw7532869198561215580:Unit:=()
def tw15412195158056200033:Unit:=()
def tw13987058607751413429:Unit:=()
def tw2255259706121506974:Unit:=()
def tw4011399714274177334:Unit:=()
def tw3890858343487893385:Unit:=()
def tw10454178425664394728:Unit:=()
def tw12242133821204442255:Unit:=()
def tw378622407693240846:Unit:=()
def tw3931170321515587763:Unit:=()
def tw13293119096200247104:Unit:=()
def tw1802908986539680692:Unit:=()
def tw6308341461384585144:Unit:=()
def tw4320159670291185818:Unit:=()
def tw1851834016027065721:Unit:=()
def tw11630345263597004316:Unit:=()
def tw10565527225586658199:Unit:=()
def tw13428195316749265025:Unit:=()
def tw13757386401555888786:Unit:=()
def tw4303481961427256267:Unit:=()
def tw14184625098814132820:Unit:=()
def tw15255491662867644820:Unit:=()
def tw12373867414558949131:Unit:=()
def tw11172722701493645507:Unit:=()
def tw5961149976620056137:Unit:=()
def tw9809310378330963842:Unit:=()
def tw8466149075458366011:Unit:=()
def tw1391648647104870833:Unit:=()
def tw1979273268808522734:Unit:=()
def tw10552372785046363076:Unit:=()
def tw6182420745947202435:Unit:=()
def tw13306246523896613800:Unit:=()
def tw3970189605032542451:Unit:=()
def tw11794484489638782445:Unit:=()
def tw3521444348547098546:Unit:=()
def tw13362447848676600318:Unit:=()
def tw11505275267837362484:Unit:=()
def tw11850121535261492166:Unit:=()
def tw4393143577288843869:Unit:=()
def tw6407022675167699580:Unit:=()
def tw11992918422699436259:Unit:=()
def tw12101975460944771429:Unit:=()
def tw1181380593809402455:Unit:=()
def tw9342517096473138241:Unit:=()
def tw12524266978824077346:Unit:=()
def tw536990208791784469:Unit:=()
def tw17474720361799683123:Unit:=()
def tw11346492403211593969:Unit:=()
def tw9801097782691907279:Unit:=()
def tw7287524048111105282:Unit:=()
def tw5151181416892656518:Unit:=()
def tw12836462912649727023:Unit:=()
def tw11068257366081197370:Unit:=()
def tw704084986494297382:Unit:=()
def tw8483678687430140425:Unit:=()
def tw12392327585981084647:Unit:=()
def tw14180362207225402914:Unit:=()
def tw17839677731496085119:Unit:=()
def tw189234595686046796:Unit:=()
def tw14439922205415892307:Unit:=()
def tw3577709810817217275:Unit:=()
def tw1703555067750210093:Unit:=()
def tw9355874855399881439:Unit:=()
def tw8747225547174736306:Unit:=()
def tw13846103186011442079:Unit:=()
def tw8360871739745615652:Unit:=()
def tw3494576804120107756:Unit:=()
def tw10501590318049466744:Unit:=()
def tw7819967320261603020:Unit:=()
def tw9694102275532872140:Unit:=()
def tw7280602890546256397:Unit:=()
def tw7753805198573968840:Unit:=()
def tw1288347590561914111:Unit:=()
def tw15296526031313031570:Unit:=()
def tw2737635013101310203:Unit:=()
def tw7612934102010515968:Unit:=()
def tw5585708682278045484:Unit:=()
def tw9199325083793709816:Unit:=()
def tw4373756373246416488:Unit:=()
def tw11030855623411333425:Unit:=()
def tw4881696853432043990:Unit:=()
def tw15596128953484194420:Unit:=()
def tw2587314840592328752:Unit:=()
def tw6484066704227164474:Unit:=()
def tw10024827463956097081:Unit:=()
def tw11096182538452999185:Unit:=()
def tw11694603218020508387:Unit:=()
def tw661045626756643734:Unit:=()
def tw10501657231671010724:Unit:=()
def tw12416276298510170208:Unit:=()
def tw9992048242710728063:Unit:=()
def tw7485084230752543857:Unit:=()
def tw14973274171003965064:Unit:=()
def tw12230479770136464423:Unit:=()
def tw5208588378750291476:Unit:=()
def tw7123080384961709112:Unit:=()
def tw11151125922427226639:Unit:=()
def tw6016129146190599744:Unit:=()
def tw14405405493026151494:Unit:=()
def tw6287279997361757846:Unit:=()
def tw16659292354414590420:Unit:=()
def tw1017541426477669239:Unit:=()
def tw10960164807311919273:Unit:=()
def tw2882018093695642491:Unit:=()
def tw15960802343500551696:Unit:=()
def tw4985160748830361640:Unit:=()
def tw15059602112171428763:Unit:=()
def tw3249641862068751224:Unit:=()
def tw4460418211518983008:Unit:=()
def tw5763380323624310445:Unit:=()
def tw6051588845354289657:Unit:=()
def tw18318595305803250186:Unit:=()
def tw11879690086030641816:Unit:=()
def tw1355378755466969635:Unit:=()
def tw13879387510500988556:Unit:=()
def tw12800487274090971539:Unit:=()
def tw8009426067621778885:Unit:=()
def tw1803004764970202558:Unit:=()
def tw4455630227022520732:Unit:=()
def tw7012483037881886613:Unit:=()
def tw7429492976247351066:Unit:=()
def tw13152548433800535456:Unit:=()
def tw7311686345093373006:Unit:=()
end PySem.W.Fast
set_option maxRecDepth 100000 in
set_option maxHeartbeats 0 in
theorem PySem.Challenge.cw_letterall_k21_worlds_holds : PySem.Challenge.rw_letterall_k21_worlds.Holds := by
 w_on; o_law; z_head; (case hw => w_witness2)
 k_fill
 refine DL.jP (fun _ => by kernel_rfl) (DL.walk (l := PySem.Challenge.rw_letterall_k21_worlds) (Tt := Lw.Tt) (I := Lw.cT) (x := "_law_script") Lw.depth rfl rfl (fun w h Y => Y) ⟨rfl, by decide, by decide⟩ (by kernel_rfl) (by decide +kernel) ?T Lw.main)
 case T =>
  intro w mg h KX G;refine' Lw.Agr KX G ?rf ?rb ?rc ?C27a ?C27b ?C27c ?C27d ?C27e ?C27f ?a27_1 ?b27_1 ?l27_1 ?c27_1 ?k27_1 ?a27_0 ?b27_0 ?l27_0 ?c27_0 ?k27_0 ?C27m ?C27k
  (case rf => (repeat (apply DL.jQ; (focus k_is); (focus k_is); (focus k_is); (focus k_is))); exact trivial)
  (case rb => (repeat (apply DL.jV; (focus k_is))); exact trivial)
  (case rc => (repeat (apply DL.jU; (focus k_is); (focus kernel_rfl))); exact trivial)
  (case C27a | C27b | C27c | C27d | C27e | C27f | a27_1 | b27_1 | l27_1 | c27_1 | k27_1 | a27_0 | b27_0 | l27_0 | c27_0 | k27_0 | C27m | C27k => k_is)
#print axioms PySem.Challenge.cw_letterall_k21_worlds_holds
