import PyProof.Rows.All
import Wide.All
import OpenK.AllK
import Wide.FinOn
import Lean
import PyProof.EqAt
import PyProof.EqKinds
import PyProof.TupleCall
import KE.BitLaws
import PySem.Challenge.RW_letterall_k47_blind_claims
set_option bootstrap.genMatcherCode false
set_option compiler.extract_closed false
noncomputable section
set_option Elab.async false
set_option linter.all false
set_option maxRecDepth 100000
set_option maxHeartbeats 8000000
namespace L2
open PySem PySem.Spec PyProof.Rows
noncomputable abbrev Key:=Sum Int Str
noncomputable def Pu:Key->Value->Bool
 | .inl k,v=>Value.isInt k v
 | .inr x,v=>Value.isStrOf x v
noncomputable def Aet (w:World):Key->Int
 | .inl k=>hashInt k
 | .inr x=>hashStr w x
theorem Bw:∀ {k:Key}{v:Value},Pu k v=true->(∃ i t,k=Sum.inl i/\v=Value.int i t)\/(∃ x t,k=Sum.inr x/\v=Value.str x t)
 | .inl i,v,h=>by
  obtain ⟨t,e⟩:=Value.isInt_shape (k:=i) (v:=v) h;exact .inl ⟨i,t,rfl,e⟩
 | .inr x,v,h=>by
  obtain ⟨t,e⟩:=Value.isStrOf_shape (x:=x) (v:=v) h;exact .inr ⟨x,t,rfl,e⟩
theorem Zz (i:Int) (t:Tok):Pu (.inl i) (.int i t)=true:=by simp [Pu,Value.isInt]
theorem Z0 (x:Str) (t:Tok):Pu (.inr x) (.str x t)=true:=by simp [Pu,Value.isStrOf]
theorem wB (a b:Int):decide ((Sum.inl a:Key)=Sum.inl b)=(a==b):=by
 by_cases e:a=b
 ·subst e;simp
 ·have h:¬ (Sum.inl a:Key)=Sum.inl b:=fun q=>e (Sum.inl.inj q)
  rw [decide_eq_false h];exact (beq_eq_false_iff_ne.mpr e).symm
theorem wC (a b:Str):decide ((Sum.inr a:Key)=Sum.inr b)=decide (a=b):=by
 by_cases e:a=b
 ·subst e;simp
 ·have h:¬ (Sum.inr a:Key)=Sum.inr b:=fun q=>e (Sum.inr.inj q)
  rw [decide_eq_false h,decide_eq_false e]
theorem wF (a:Int) (b:Str):decide ((Sum.inl a:Key)=Sum.inr b)=false:=decide_eq_false (fun q=>nomatch q)
theorem wH (a:Str) (b:Int):decide ((Sum.inr a:Key)=Sum.inl b)=false:=decide_eq_false (fun q=>nomatch q)
noncomputable def Bm (prog:Program) (w:World):PySem.KeyKind prog w Key where
 is:=Pu
 hash:=Aet w
 inj:=fun v a b ha hb=>by
  rcases Bw ha with ⟨i,t,rfl,rfl⟩|⟨x,t,rfl,rfl⟩
  ·rcases Bw hb with ⟨j,u,rfl,e⟩|⟨y,u,rfl,e⟩
   ·injection e with e1 _;rw [e1]
   ·exact nomatch e
  ·rcases Bw hb with ⟨j,u,rfl,e⟩|⟨y,u,rfl,e⟩
   ·exact nomatch e
   ·injection e with e1 _;rw [e1]
 byValue:=fun k v h=>by
  rcases Bw h with ⟨i,t,rfl,rfl⟩ | ⟨x,t,rfl,rfl⟩ <;> rfl
 pyHash:=fun hv h=>by
  rcases Bw hv with ⟨i,t,rfl,rfl⟩|⟨x,t,rfl,rfl⟩
  ·exact wpAny_pyHash_int h
  ·exact wpAny_pyHash_str h
 eqBool:=fun hu hv h=>by
  rcases Bw hu with ⟨i,t,rfl,rfl⟩|⟨x,t,rfl,rfl⟩
  ·rcases Bw hv with ⟨j,u,rfl,rfl⟩|⟨y,u,rfl,rfl⟩
   ·rw [wB] at h;exact wpAny_eqBool_int h
   ·rw [wF] at h;exact SeqAt.EqAt.int_str i t y u _ _ _ _ h
  ·rcases Bw hv with ⟨j,u,rfl,rfl⟩|⟨y,u,rfl,rfl⟩
   ·rw [wH] at h;exact SeqAt.EqAt.str_int x t j u _ _ _ _ h
   ·rw [wC] at h;exact wpAny_eqBool_str h
 «strs»:=fun k x t v h=>by
  rcases Bw h with ⟨i,u,rfl,e⟩|⟨y,u,rfl,e⟩
  ·exact nomatch e
  ·injection e with e1 _
   subst e1;cases v <;> rfl
theorem Tw (prog:Program) (w:World) (i:Int) (t:Tok):(Bm prog w).is (.inl i) (.int i t)=true:=Zz i t
theorem Tz (prog:Program) (w:World) (x:Str) (t:Tok):(Bm prog w).is (.inr x) (.str x t)=true:=Z0 x t
inductive V where
 | non | bl (b:Bool) | int (i:Int) | str (x:Str) | byt (b:Array UInt8) | flt (b:UInt64) | ref (a:Addr) | ty (n:String)
 deriving DecidableEq
noncomputable def RelV:V->Value->Prop
 | .non,u=>u=Value.none
 | .bl b,u=>u=Value.bool b
 | .int i,u=>∃ t,u=Value.int i t
 | .str x,u=>∃ t,u=Value.str x t
 | .byt b,u=>∃ t,u=Value.bytes b t
 | .flt b,u=>∃ t,u=Value.float b t
 | .ref a,u=>u=Value.ref a
 | .ty n,u=>u=Value.type n
noncomputable abbrev Vals:List V->List Value->Prop:=Paired RelV
theorem Vals.length {xs:List V}{us:List Value}(r:Vals xs us):xs.length=us.length:=Paired.length r
theorem Vals.get:∀ {xs:List V}{us:List Value}{i:Nat}{x:V},Vals xs us->xs[i]?=some x->∃ u,us[i]?=some u/\RelV x u
 | _,_,_,_,.nil,e=>by simp at e
 | _,_,0,_,.cons r _,e=>by simp at e;subst e;exact ⟨_,rfl,r⟩
 | _,_,i+1,x,.cons _ t,e=>by
  obtain ⟨u,h1,h2⟩:=Vals.get (i:=i) (x:=x) t (by simpa using e);exact ⟨u,by simpa using h1,h2⟩
theorem Vals.set {x:V}{u:Value}(r:RelV x u):∀ {xs:List V}{us:List Value}(i:Nat),Vals xs us->Vals (xs.set i x) (us.set i u)
 | _,_,_,.nil=>.nil
 | _,_,0,.cons _ t=>.cons r t
 | _,_,i+1,.cons q t=>.cons q (Vals.set r i t)
theorem Vals.append:∀ {xs ys:List V}{us ws:List Value},Vals xs us->Vals ys ws->Vals (xs++ys) (us++ws)
 | _,_,_,_,.nil,s=>s
 | _,_,_,_,.cons r t,s=>.cons r (Vals.append t s)
theorem Vals.take:∀ {xs:List V}{us:List Value}(n:Nat),Vals xs us->Vals (xs.take n) (us.take n)
 | _,_,0,_=>.nil
 | _,_,_+1,.nil=>.nil
 | _,_,n+1,.cons r t=>.cons r (Vals.take n t)
theorem Vals.drop:∀ {xs:List V}{us:List Value}(n:Nat),Vals xs us->Vals (xs.drop n) (us.drop n)
 | _,_,0,r=>r
 | _,_,_+1,.nil=>.nil
 | _,_,n+1,.cons _ t=>Vals.drop n t
noncomputable def Q9:Option V->Option Value->Prop
 | some v,some u=>RelV v u
 | none,none=>True
 | _,_=>False
noncomputable def KV {κ:Type}:List (κ×V)->List (κ×Value)->Prop:=Paired fun (p:κ×V) (q:κ×Value)=>p.1=q.1/\RelV p.2 q.2
noncomputable def kV:Key->V
 | .inl i=>.int i
 | .inr x=>.str x
inductive HO where
 | lst (xs:List V)
 | tup (xs:List V)
 | dK (kvs:List (Key×V)) | dT (kvs:List (List Key×V))
 | set (S:Int->Bool) (n:Nat)
 | ins (C dx:Addr) (fs:List (Str×V))
 | own (x:Addr)
 | xd (fs:List (Str×V))
 | met (f x:Addr)
 | rng (lo hi:Int)
 | frz (o:Obj) (u:HO)
 | tbl (ps:Array Value)
 | ext (φ:Heap->Prop)
noncomputable abbrev Hp:=Addr->Option HO
noncomputable def upd (H:Hp) (a:Addr) (o:HO):Hp:=fun b=>if b=a then some o else H b
theorem Cm {H:Hp}{a:Addr}{o:HO}:upd H a o a=some o:=by unfold upd;rw [if_pos rfl]
theorem Aq {H:Hp}{a b:Addr}{o:HO}(h:b≠a):upd H a o b=H b:=by unfold upd;rw [if_neg h]
theorem Jf {H:Hp}{a b:Addr}{o u:HO}(h:H a=some o) (h':H b=some u) (d:o≠u):a≠b:=by
 intro e;subst e;rw [h] at h';exact d (Option.some.inj h')
theorem Av {H:Hp}{a b:Addr}{o:HO}(h:H a=some o) (h':H b=none):a≠b:=by
 intro e;subst e;rw [h] at h';cases h'
section
variable (P:Program) (w:World)
noncomputable def Pb (h:Heap) (a:Addr) (its:Array Value):Prop:=∃ o,h.get? a=some o/\o.cls=.type "tuple"/\o.dict=none/\∃ n,o.data=.seq its n
theorem Pb.to {h:Heap}{a:Addr}{its:Array Value}(x:Pb h a its):IsTup h a its:=let ⟨o,e,c,_,n,d⟩:=x;⟨o,e,c,n,d⟩
theorem Pb.new (h:Heap) (its:Array Value):Pb (h.push { cls:=.type "tuple",data:=.seq its }) h.objs.size its:=⟨_,Heap.get?_push_size _ rfl,rfl,rfl,_,rfl⟩
noncomputable def Cw (H:Hp) (h:Heap) (a:Addr):HO->Prop
 | .lst xs=>xs.length<=sizeLine/\∃ (its:List Value) (n:Nat),Vals xs its/\h.get? a=some { cls:=.type "list",data:=.seq its.toArray n }
 | .tup xs=>xs.length<=sizeLine/\∃ its:List Value,Vals xs its/\Pb h a its.toArray
 | .dK kvs=>kvs.length<=sizeLine/\(a==sysModules)=false/\∃ vs,KV kvs vs/\h.DictOf (Bm P w) a vs
 | .dT kvs=>kvs.length<=sizeLine/\(a==sysModules)=false/\∃ xs:List (List Key×Addr×Value),
   Paired (fun (p:List Key×V) (q:List Key×Addr×Value)=>p.1=q.1/\H q.2.1=some (.tup (p.1.map kV))/\RelV p.2 q.2.2) kvs xs /\
   ∃ o es ep,h.get? a=some o/\o.ExactDict/\o.data=.dict es ep/\es.toList=xs.map (entryOfKey (tupleKind (Bm P w)))/\(xs.map (·.1)).Nodup
 | .set S n=>h.SetOf (intKind P w) a S n
 | .ins C dx fs=>H dx=some (.own a)/\fs.length<=1000/\dx≠a/\h.get? a=some (PySem.W.instObj C dx) /\
   ∃ mA,h.Ns1 dx mA/\(∀ f,Q9 (fs.lookup f) (mA f))/\PySem.Within mA (fs.map (·.1))
 | .own _=>∃ o,h.get? a=some o
 | .xd fs=>∃ mA,h.Ns1 a mA/\∀ f,Q9 (fs.lookup f) (mA f)
 | .rng lo hi=>∃ t u v,h.get? a=some { cls:=.type "range",data:=.fields #[.int lo t,.int hi u,.int 1 v] }
 | .frz o u=>h.get? a=some o/\Cw H h a u
 | .tbl ps=>h.get? a=some { cls:=.none,data:=.fields ps }
 | .met f x=>h.get? a=some (PySem.W.methodObj (.ref f) (.ref x))
 | .ext φ=>φ h/\(∃ o,h.get? a=some o)/\∀ h1 h2:Heap,φ h1->(∀ o,h1.get? a=some o->h2.get? a=some o)->φ h2
noncomputable def HOk (H:Hp) (h:Heap):Prop:=∀ a o,H a=some o->Cw P w H h a o
end
section
variable {P:Program}{w:World}{H H':Hp}{h h':Heap}{a:Addr}{o:HO}
theorem Cw.lt (x:Cw P w H h a o):a < h.objs.size:=by
 cases o with
 | lst xs=>obtain ⟨_,_,_,_,e⟩:=x;exact Heap.lt_size e
 | tup xs=>obtain ⟨_,_,_,p⟩:=x;exact p.to.lt
 | dK kvs=>obtain ⟨_,_,_,_,o,_,_,e,_⟩:=x;exact Heap.lt_size e
 | dT kvs=>obtain ⟨_,_,_,_,o,_,_,e,_⟩:=x;exact Heap.lt_size e
 | set S n=>obtain ⟨o,_,_,_,e,_⟩:=x;exact Heap.lt_size e
 | ins C dx fs=>obtain ⟨_,_,_,e,_⟩:=x;exact Heap.lt_size e
 | own y=>obtain ⟨_,e⟩:=x;exact Heap.lt_size e
 | xd fs=>obtain ⟨_,⟨_,_,_,e,_⟩,_⟩:=x;exact Heap.lt_size e
 | rng lo hi=>obtain ⟨_,_,_,e⟩:=x;exact Heap.lt_size e
 | frz ob u=>obtain ⟨e,_⟩:=x;exact Heap.lt_size e
 | tbl ps=>exact Heap.lt_size (show h.get? a=some _ from x)
 | met f y=>exact Heap.lt_size (show h.get? a=some _ from x)
 | ext φ=>obtain ⟨_,⟨_,e⟩,_⟩:=x;exact Heap.lt_size e
theorem Paired.mapP {α β:Type}{F G:α->β->Prop}:∀ {l₁:List α}{l₂:List β},Paired F l₁ l₂->(∀ a b,F a b->G a b)->Paired G l₁ l₂
 | _,_,.nil,_=>.nil
 | _,_,.cons r t,f=>.cons (f _ _ r) (Paired.mapP t f)
theorem Cw.stay (x:Cw P w H h a o) (k:∀ b u,(b=a\/H b=some (.own a))->h.get? b=some u->h'.get? b=some u)
  (ho:∀ b,H b=some (.own a)->H' b=some (.own a)) (ht:∀ b xs,H b=some (.tup xs)->H' b=some (.tup xs)):Cw P w H' h' a o:=by
 induction o with
 | lst xs=>obtain ⟨z,its,n,r,e⟩:=x;exact ⟨z,its,n,r,k _ _ (.inl rfl) e⟩
 | tup xs=>obtain ⟨z,its,r,ob,e,c⟩:=x;exact ⟨z,its,r,ob,k _ _ (.inl rfl) e,c⟩
 | dK kvs=>obtain ⟨z,y,vs,r,ob,es,ep,e,c⟩:=x;exact ⟨z,y,vs,r,ob,es,ep,k _ _ (.inl rfl) e,c⟩
 | dT kvs =>
  obtain ⟨z,y,xs,r,ob,es,ep,e,c⟩:=x;exact ⟨z,y,xs,Paired.mapP r fun p q z=>⟨z.1,ht _ _ z.2.1,z.2.2⟩,ob,es,ep,k _ _ (.inl rfl) e,c⟩
 | set S n=>obtain ⟨ob,es,ep,t,e,c⟩:=x;exact ⟨ob,es,ep,t,k _ _ (.inl rfl) e,c⟩
 | ins C dx fs =>
  obtain ⟨d,z,ne,e,mA,⟨od,es,ep,e2,c⟩,r⟩:=x;exact ⟨ho _ d,z,ne,k _ _ (.inl rfl) e,mA,⟨od,es,ep,k _ _ (.inr d) e2,c⟩,r⟩
 | own y=>obtain ⟨ob,e⟩:=x;exact ⟨ob,k _ _ (.inl rfl) e⟩
 | xd fs=>obtain ⟨mA,⟨od,es,ep,e,c⟩,r⟩:=x;exact ⟨mA,⟨od,es,ep,k _ _ (.inl rfl) e,c⟩,r⟩
 | rng lo hi=>obtain ⟨t,u,v,e⟩:=x;exact ⟨t,u,v,k _ _ (.inl rfl) e⟩
 | frz ob u ih=>obtain ⟨e,q⟩:=x;exact ⟨k _ _ (.inl rfl) e,ih q⟩
 | tbl ps =>
  have e:h.get? a=some { cls:=.none,data:=.fields ps }:=x;show h'.get? a=some { cls:=.none,data:=.fields ps };exact k a _ (.inl rfl) e
 | met f y =>
  have e:h.get? a=some (PySem.W.methodObj (.ref f) (.ref y)):=x;show h'.get? a=some (PySem.W.methodObj (.ref f) (.ref y));exact k a _ (.inl rfl) e
 | ext φ=>obtain ⟨p,⟨o,e⟩,st⟩:=x;exact ⟨st _ _ p fun o q=>k _ _ (.inl rfl) q,⟨o,k _ _ (.inl rfl) e⟩,st⟩
theorem HOk.lt (x:HOk P w H h) (e:H a=some o):a < h.objs.size:=(x a o e).lt
theorem HOk.fresh (x:HOk P w H h) (e:h.objs.size<=a):H a=none:=by
 cases q:H a with
 | none=>rfl
 | some u=>exact absurd (Nat.lt_of_lt_of_le (x.lt q) e) (Nat.lt_irrefl _)
theorem HOk.kept (x:HOk P w H h) (k:∀ b u,h.get? b=some u->h'.get? b=some u):HOk P w H h':=fun a o e =>
 (x a o e).stay (fun b u _ q=>k b u q) (fun _ q=>q) fun _ _ q=>q
theorem HOk.laid (x:HOk P w H h) (k:∀ b u,h.get? b=some u->h'.get? b=some u) (hp:h.objs.size<=a) (new:Cw P w (upd H a o) h' a o):HOk P w (upd H a o) h':=fun b u e=>by
 have hn:=x.fresh hp
 by_cases hb:b=a
 ·subst hb;rw [Cm] at e;cases e;exact new
 ·rw [Aq hb] at e;exact (x b u e).stay (fun c v _ q=>k c v q) (fun c q=>by rw [Aq (Av q hn)];exact q) fun c xs q=>by rw [Aq (Av q hn)];exact q
end
noncomputable def Rd (H:Hp) (a:Addr) (u:HO):Prop:=H a=some u\/∃ o,H a=some (.frz o u)
theorem Rd.ok {P:Program}{w:World}{H:Hp}{h:Heap}{a:Addr}{u:HO}(r:Rd H a u) (x:HOk P w H h):Cw P w H h a u:=by
 rcases r with r|⟨o,r⟩
 ·exact x a u r
 ·obtain ⟨_,q⟩:=x a _ r;exact q
noncomputable def Mut:Option HO->Prop
 | some (.lst _)=>True
 | some (.dK _)=>True
 | some (.dT _)=>True
 | some (.set _ _)=>True
 | some (.ins _ _ _)=>True
 | some (.ext _)=>True
 | _=>False
section
variable {P:Program}{w:World}{H:Hp}{h h':Heap}{x e:Addr}{o':HO}
theorem HOk.write (ok:HOk P w H h) (mu:Mut (H x)) (he:e=x\/H e=some (.own x)) (k:∀ b u,b≠e->h.get? b=some u->h'.get? b=some u) (heo:∃ u,h'.get? e=some u)
  (new:Cw P w (upd H x o') h' x o'):HOk P w (upd H x o') h':=fun b u q=>by
 have nown:∀ c y,H c=some (.own y)->c≠x:=fun c y r z=>by subst z;rw [r] at mu;exact mu
 have ntup:∀ c xs,H c=some (.tup xs)->c≠x:=fun c xs r z=>by subst z;rw [r] at mu;exact mu
 by_cases hb:b=x
 ·subst hb;rw [Cm] at q;cases q;exact new
 ·rw [Aq hb] at q
  by_cases hbe:b=e
  ·have q':H b=some (.own x):=by
    rcases he with z|z
    ·exact absurd (hbe.trans z) hb
    ·rw [hbe];exact z
   rw [q] at q';cases q';obtain ⟨v,hv⟩:=heo;exact ⟨v,by rw [hbe];exact hv⟩
  ·refine (ok b u q).stay (fun c v hc r=>k c v ?_ r) (fun c r=>by rw [Aq (nown c b r)];exact r) fun c xs r=>by rw [Aq (ntup c xs r)];exact r
   rcases hc with rfl|hc
   ·exact hbe
   ·rintro rfl;rcases he with z|z
    ·exact nown c b hc z
    ·rw [hc] at z;cases z;exact hb rfl
end
structure Un (fs ex:List Addr) (H H':Hp) (h h':Heap):Prop where
 keep:∀ b o,h.get? b=some o->H b=none->b ∉ fs->b ∉ ex->h'.get? b=some o
 slot:∀ b o,h.get? b=some o->H b=none->b∈fs->b ∉ ex->∃ sl,h'.get? b=some { o with slots:=sl }
 free:∀ b o,h.get? b=some o->H b=none->b ∉ ex->H' b=none
 there:∀ b o,h.get? b=some o->b ∉ ex->∃ o',h'.get? b=some o'
 tups:∀ b xs,H b=some (.tup xs)->H' b=some (.tup xs)
 frzs:∀ b o u,H b=some (.frz o u)->H' b=some (.frz o u)
 tbls:∀ b ps,H b=some (.tbl ps)->∃ more,H' b=some (.tbl (ps++more))
section
variable {fs fs' ex ex':List Addr}{H H1 H2:Hp}{h h1 h2 h':Heap}{a x e:Addr}{o:HO}
theorem Un.any (u:Un fs ex H H1 h h1) {b:Addr}{ob:Obj}(q:h.get? b=some ob) (n:H b=none) (hx:b ∉ ex):∃ sl,h1.get? b=some { ob with slots:=sl }:=by
 by_cases hb:b∈fs
 ·exact u.slot b ob q n hb hx
 ·exact ⟨ob.slots,u.keep b ob q n hb hx⟩
theorem Un.kept (k:∀ b u,h.get? b=some u->h'.get? b=some u):Un fs ex H H h h' :=
 ⟨fun b ob q _ _ _=>k b ob q,fun b ob q _ _ _=>⟨ob.slots,k b ob q⟩,fun _ _ _ n _=>n,fun b ob q _=>⟨ob,k b ob q⟩,fun _ _ q=>q,fun _ _ _ q=>q,fun _ ps q=>⟨#[],by rw [q];simp⟩⟩
theorem Un.refl:Un fs ex H H h h:=Un.kept fun _ _ q=>q
theorem Un.laid (k:∀ b u,h.get? b=some u->h'.get? b=some u) (hp:h.objs.size<=a) (hn:H a=none):Un fs ex H (upd H a o) h h' where
 keep:=fun b u q _ _ _=>k b u q
 slot:=fun b u q _ _ _=>⟨u.slots,k b u q⟩
 free:=fun b u q n _=>by rw [Aq (Nat.ne_of_lt (Nat.lt_of_lt_of_le (Heap.lt_size q) hp))];exact n
 there:=fun b u q _=>⟨u,k b u q⟩
 tups:=fun b xs q=>by rw [Aq (Av q hn)];exact q
 frzs:=fun b u xs q=>by rw [Aq (Av q hn)];exact q
 tbls:=fun b ps q=>⟨#[],by rw [Aq (Av q hn),q];simp⟩
theorem Un.write (mu:Mut (H x)) (he:e=x\/H e=some (.own x)) (k:∀ b u,b≠e->h.get? b=some u->h'.get? b=some u) (heo:∃ u,h'.get? e=some u):Un fs ex H (upd H x o) h h':=by
 have hx:∀ b,H b=none->b≠x:=fun b n z=>by subst z;rw [n] at mu;exact mu
 have hb:∀ b,H b=none->b≠e:=fun b n z=>by
  subst z;rcases he with r|r
  ·exact hx b n r
  ·rw [n] at r;cases r
 have hm:∀ b u,H b=some u->¬ Mut (some u)->b≠x:=fun b u q nm z=>by subst z;rw [q] at mu;exact nm mu
 refine ⟨fun b u q n _ _=>k b u (hb b n) q,fun b u q n _ _=>⟨u.slots,k b u (hb b n) q⟩,fun b u q n _=>by rw [Aq (hx b n)];exact n,fun b u q _=>?_,
  fun b xs q=>by rw [Aq (hm b _ q fun z=>z)];exact q,fun b u xs q=>by rw [Aq (hm b _ q fun z=>z)];exact q,fun b ps q=>⟨#[],by rw [Aq (hm b _ q fun z=>z),q];simp⟩⟩
 by_cases hbe:b=e
 ·subst hbe;exact heo
 ·exact ⟨u,k b u hbe q⟩
end
noncomputable def trk (h:Heap) (H:Hp):List Addr:=(List.range h.objs.size).filter fun a=>(H a).isSome
noncomputable def Ra (h:Heap) (H:Hp):Heap:=PySem.W.hideAll h (trk h H)
theorem Z1 (h:Heap) (H:Hp):(Ra h H).objs.size=h.objs.size:=PySem.W.hideAll_size _ _
theorem cV {h:Heap}{H:Hp}{b:Addr}{o:Obj}(e:h.get? b=some o) (n:H b=none):(Ra h H).get? b=some o :=
 PySem.W.hideAll_get _ e fun hm=>by
  have q:(H b).isSome=true:=(List.mem_filter.mp hm).2;rw [n] at q;simp at q
theorem pH {h:Heap}{H:Hp}{b:Addr}{o:Obj}(e:(Ra h H).get? b=some o):h.get? b=some o/\H b=none:=by
 have e':h.get? b=some o:=PySem.W.of_hideAll (trk h H) e;refine ⟨e',?_⟩;cases q:H b with
 | none=>rfl
 | some x =>
  have hm:b∈trk h H:=List.mem_filter.mpr ⟨List.mem_range.mpr (Heap.lt_size e'),by simp [q]⟩;have z:(Ra h H).get? b=none:=PySem.W.hideAll_none (trk h H) hm;rw [z] at e;cases e
structure Mod (K:PySem.W.Frag) (mg:Str->Option Value) (base:Heap):Prop where
 kin:K.In base
 glob:base.Ns mainGlobals mg
 blt:∃ mb,base.Ns builtinsNs mb/\∀ x:Str,x ≠ "__name__"->mb x=bootBuiltins x
 nolimit:base.NoLimit
structure Cx where
 prog:Program
 w:World
 K:PySem.W.Frag
 mg:Str->Option Value
 base:Heap
 A:Around
 N:List Str
 s₀:Shared
 H₀:Hp
 env:Env
 outer:List Env
 stack:List Env
 ex:List Addr
 fn:Str->Bool
 calm:Bool
 pn:List (Addr×Obj)
 xe:Value->Shared->Prop
noncomputable def frs (l:List Env):List Addr:=l.filterMap (·.frame)
noncomputable abbrev Cx.fs (X:Cx):List Addr:=frs X.outer
noncomputable def Vis (sc:Scope) (x:Str):Prop:=sc.names.lookup x=some .local\/sc.names.lookup x=some .cell\/sc.names.lookup x=some .free
noncomputable def Loc (sc:Scope) (x:Str):Prop:=sc.names.lookup x=some .local\/sc.names.lookup x=some .cell
noncomputable def Look (env:Env) (h:Heap) (m:Str->Option Value) (x:Str) (u:Value):Prop :=
 (env.kindOf x=some .local/\m x=some u)\/((env.kindOf x=some .cell\/env.kindOf x=some .free)/\∃ c,env.cells.lookup x=some c/\h.IsCell c (some u))
structure Cx.Ok (X:Cx):Prop where
 mod:Mod X.K X.mg X.base
 kind:X.env.scope.kind=.function
 glob:X.env.globals=mainGlobals
 blt:X.env.builtins=builtinsNs
 above:X.s₀.heap.objs.size<=X.env.locals
 inj:∀ x y c,X.env.cells.lookup x=some c->X.env.cells.lookup y=some c->x=y
 has:∀ x,(X.env.kindOf x=some .cell\/X.env.kindOf x=some .free)->∃ c,X.env.cells.lookup x=some c
 cab:∀ x c,X.fn x=true->X.env.cells.lookup x=some c->X.s₀.heap.objs.size<=c
 hd:X.calm=true->X.A.handled=none
 frames:X.A.frames=some X.stack
 stk:X.stack=X.outer\/(X.stack=X.env::X.outer/\X.env.frame=some X.env.locals)
 exf:∀ b∈X.ex,b≠X.env.locals/\∀ x c,X.env.cells.lookup x=some c->c≠b
 bs:∀ b o,X.base.get? b=some o->X.s₀.heap.get? b=some o/\X.H₀ b=none
 bsz:X.base.objs.size<=X.s₀.heap.objs.size
 noex:∀ b o,X.base.get? b=some o->b ∉ X.ex
 exfs:∀ b∈X.ex,b ∉ X.fs
 funs:X.s₀.heap.FunFrames X.base X.outer
 frf:∀ b∈X.fs,X.H₀ b=none
structure Inv (X:Cx) (pins:List (Addr×Obj)) (σ:List (Option V)) (H:Hp) (s:Shared):Prop where
 ok:X.Ok
 os:s.os=X.s₀.os
 bare:AllBare s.gens
 base:Un X.fs X.ex X.H₀ H X.s₀.heap s.heap
 loc:∃ m,s.heap.Ns X.env.locals m/\∀ (i:Nat) (x:Str) (v:V),X.N[i]?=some x->σ[i]?=some (some v)->Vis X.env.scope x->∃ u,RelV v u/\Look X.env s.heap m x u
 cell:∀ x c,X.env.cells.lookup x=some c->∃ v,s.heap.IsCell c v
 free:H X.env.locals=none
 freeC:∀ x c,X.env.cells.lookup x=some c->H c=none
 pin:∀ p∈X.pn++pins,s.heap.get? p.1=some p.2/\H p.1=none/\p.1≠X.env.locals/\p.1 ∉ X.fs/\∀ v,p.2.data≠.cell v
 hok:HOk X.prog X.w H s.heap
 len:σ.length=X.N.length
section
variable {X:Cx}{pins:List (Addr×Obj)}{σ:List (Option V)}{H H':Hp}{s:Shared}{h':Heap}
theorem Cx.Ok.nofr (ok:X.Ok) {b:Addr}{o:Obj}(e:X.base.get? b=some o):b ∉ X.fs:=fun hb=>by
 have:=(ok.funs.mem hb).1;rw [e] at this;cases this
theorem Inv.bs (I:Inv X pins σ H s):∀ b o,X.base.get? b=some o->s.heap.get? b=some o/\H b=none:=fun b o e =>
 ⟨I.base.keep b o (I.ok.bs b o e).1 (I.ok.bs b o e).2 (I.ok.nofr e) (I.ok.noex b o e),I.base.free b o (I.ok.bs b o e).1 (I.ok.bs b o e).2 (I.ok.noex b o e)⟩
theorem Inv.bk (I:Inv X pins σ H s):∀ b o,X.base.get? b=some o->s.heap.get? b=some o:=fun b o e=>(I.bs b o e).1
theorem Inv.mod (I:Inv X pins σ H s):Mod X.K X.mg X.base:=I.ok.mod
theorem Inv.kIn (I:Inv X pins σ H s):X.K.In s.heap:=I.ok.mod.kin.keeps I.bk
theorem Inv.lt (I:Inv X pins σ H s):X.env.locals < s.heap.objs.size:=let ⟨_,hn,_⟩:=I.loc;hn.lt
theorem Inv.sz (I:Inv X pins σ H s):X.s₀.heap.objs.size<=s.heap.objs.size:=Nat.le_trans I.ok.above (Nat.le_of_lt I.lt)
theorem Inv.nofs (I:Inv X pins σ H s) {a:Addr}(h:s.heap.objs.size<=a):a ∉ X.fs:=fun hb=>by
 obtain ⟨_,o,ho,_⟩:=I.ok.funs.mem hb;exact absurd (Nat.lt_of_lt_of_le (Heap.lt_size ho) (Nat.le_trans I.sz h)) (Nat.lt_irrefl _)
theorem Inv.cne (I:Inv X pins σ H s):∀ x c,X.env.cells.lookup x=some c->c≠X.env.locals:=fun x c e z=>by
 obtain ⟨v,o,ho,hd⟩:=I.cell x c e;obtain ⟨m,⟨o',es,ep,ho',hd',_⟩,_⟩:=I.loc;rw [z,ho'] at ho;cases ho;rw [hd'] at hd;cases hd
theorem Inv.funs (I:Inv X pins σ H s):s.heap.FunFrames X.base X.outer:=by
 have all:∀ (l:List Env),(∀ b∈frs l,b∈X.fs)->X.s₀.heap.FunFrames X.base l->s.heap.FunFrames X.base l:=by
  intro l
  induction l with
  | nil=>intro _ _;trivial
  | cons env r ih =>
   intro hs hl;obtain ⟨hk,⟨L,o,hf,hn,ho,hd⟩,hr⟩:=hl;have hL:L∈X.fs:=hs L (by unfold frs;rw [List.filterMap_cons,hf];exact List.mem_cons_self);obtain ⟨sl,e⟩:=I.base.slot L o ho (I.ok.frf L hL) hL fun z=>I.ok.exfs L z hL
   exact ⟨hk,⟨L,_,hf,hn,e,hd⟩,ih (fun b hb=>hs b (by unfold frs;rw [List.filterMap_cons,hf];exact List.mem_cons_of_mem _ hb)) hr⟩
 exact all X.outer (fun _ hb=>hb) I.ok.funs
theorem Inv.stack (I:Inv X pins σ H s):s.heap.FunFrames X.base X.stack:=by
 rcases I.ok.stk with e|⟨e,hf⟩
 ·rw [e];exact I.funs
 ·rw [e];obtain ⟨m,hn,_⟩:=I.loc;refine .cons (by rw [I.ok.kind];decide) hf hn ?_ I.funs;exact Heap.get?_none_of_le (Nat.le_trans I.ok.bsz I.ok.above)
theorem Inv.stkSub (I:Inv X pins σ H s):∀ b∈frs X.stack,b∈X.env.locals::X.fs:=fun b hb=>by
 rcases I.ok.stk with e|⟨e,hf⟩
 ·rw [e] at hb;exact List.mem_cons_of_mem _ hb
 ·rw [e] at hb;unfold frs at hb;rw [List.filterMap_cons,hf] at hb;exact hb
theorem Inv.stkFree (I:Inv X pins σ H s):∀ b∈frs X.stack,H b=none:=fun b hb=>by
 rcases List.mem_cons.mp (I.stkSub b hb) with e|hb
 ·rw [e];exact I.free
 ·obtain ⟨_,o,ho,_⟩:=I.ok.funs.mem hb;exact I.base.free b o ho (I.ok.frf b hb) fun z=>I.ok.exfs b z hb
theorem Inv.step {g':Array GenState}{t':Nat}{d':Drawn}{ch:List Addr}(I:Inv X pins σ H s)
  (hch:∀ b∈ch,(b∈X.ex\/X.s₀.heap.objs.size<=b)/\b≠X.env.locals/\(∀ x c,X.env.cells.lookup x=some c->c≠b)/\∀ p∈X.pn++pins,p.1≠b)
  (keep:∀ b o,b≠X.env.locals->b ∉ X.fs->b ∉ ch->s.heap.get? b=some o->H b=none->h'.get? b=some o)
  (slot:∀ b o,b≠X.env.locals->b∈X.fs->b ∉ ch->s.heap.get? b=some o->H b=none->∃ sl,h'.get? b=some { o with slots:=sl }) (free:∀ b o,b ∉ ch->s.heap.get? b=some o->H b=none->H' b=none)
  (there:∀ b o,b ∉ ch->s.heap.get? b=some o->∃ o',h'.get? b=some o')
  (tups:∀ b xs,H b=some (.tup xs)->H' b=some (.tup xs)) (frzs:∀ b o u,H b=some (.frz o u)->H' b=some (.frz o u)) (tbls:∀ b ps,H b=some (.tbl ps)->∃ more,H' b=some (.tbl (ps++more)))
  (ns:∀ m,s.heap.Ns X.env.locals m->h'.Ns X.env.locals m) (hok:HOk X.prog X.w H' h') (hg:AllBare g') :
  Inv X pins σ H' { s with heap:=h',gens:=g',drawn:=d',toks:=t' }:=by
 have neL:∀ b o,X.s₀.heap.get? b=some o->b≠X.env.locals:=fun b o e=>Nat.ne_of_lt (Nat.lt_of_lt_of_le (Heap.lt_size e) I.ok.above)
 have neC:∀ b o,X.s₀.heap.get? b=some o->b ∉ X.ex->b ∉ ch:=fun b o e hx hb=>by
  rcases (hch b hb).1 with z|z
  ·exact hx z
  ·exact absurd (Nat.lt_of_lt_of_le (Heap.lt_size e) z) (Nat.lt_irrefl _)
 have cellK:∀ x c,X.env.cells.lookup x=some c->∀ v,s.heap.IsCell c v->h'.IsCell c v:=by
  rintro x c e v ⟨o,ho,hd⟩;have nch:c ∉ ch:=fun z=>(hch c z).2.2.1 x c e rfl
  by_cases hc:c∈X.fs
  ·obtain ⟨sl,q⟩:=slot c o (I.cne x c e) hc nch ho (I.freeC x c e);exact ⟨_,q,hd⟩
  ·exact ⟨o,keep c o (I.cne x c e) hc nch ho (I.freeC x c e),hd⟩
 refine ⟨I.ok,I.os,hg,⟨fun b o e n hb hx=>?_,fun b o e n hb hx=>?_,fun b o e n hx=>?_,fun b o e hx=>?_,fun b xs e=>tups b xs (I.base.tups b xs e),fun b o xs e=>frzs b o xs (I.base.frzs b o xs e),fun b ps e=>?_⟩,?_,fun x c e=>?_,?_,fun x c e=>?_,fun p hp=>?_,hok,I.len⟩
 ·exact keep b o (neL b o e) hb (neC b o e hx) (I.base.keep b o e n hb hx) (I.base.free b o e n hx)
 ·obtain ⟨sl,e1⟩:=I.base.slot b o e n hb hx;obtain ⟨sl',e2⟩:=slot b _ (neL b o e) hb (neC b o e hx) e1 (I.base.free b o e n hx);exact ⟨sl',e2⟩
 ·obtain ⟨o',e1⟩:=I.base.there b o e hx;exact free b o' (neC b o e hx) e1 (I.base.free b o e n hx)
 ·obtain ⟨o',e1⟩:=I.base.there b o e hx;exact there b o' (neC b o e hx) e1
 ·obtain ⟨m1,e1⟩:=I.base.tbls b ps e;obtain ⟨m2,e2⟩:=tbls b _ e1;exact ⟨m1++m2,by rw [e2,Array.append_assoc]⟩
 ·obtain ⟨m,hn,hl⟩:=I.loc;refine ⟨m,ns m hn,fun i x v e1 e2 e3=>?_⟩;obtain ⟨u,r,l⟩:=hl i x v e1 e2 e3;refine ⟨u,r,?_⟩;rcases l with l|⟨k,c,e,z⟩
  ·exact .inl l
  ·exact .inr ⟨k,c,e,cellK x c e _ z⟩
 ·obtain ⟨v,z⟩:=I.cell x c e;exact ⟨v,cellK x c e v z⟩
 ·obtain ⟨m,⟨o,_,_,ho,_⟩,_⟩:=I.loc;exact free _ o (fun z=>(hch _ z).2.1 rfl) ho I.free
 ·obtain ⟨v,o,ho,hd⟩:=I.cell x c e;exact free c o (fun z=>(hch c z).2.2.1 x c e rfl) ho (I.freeC x c e)
 ·obtain ⟨e,n,ne,nf,d⟩:=I.pin p hp;have nch:p.1 ∉ ch:=fun z=>(hch p.1 z).2.2.2 p hp rfl
  exact ⟨keep p.1 p.2 ne nf nch e n,free p.1 p.2 nch e n,ne,nf,d⟩
theorem Inv.un {t':Nat}(I:Inv X pins σ H s) (u:Un X.fs [] H H' s.heap h') (hok:HOk X.prog X.w H' h'):Inv X pins σ H' { s with heap:=h',toks:=t' }:=by
 obtain ⟨m,⟨o,es,ep,ho,r⟩,_⟩:=id I.loc;obtain ⟨sl,hL⟩:=u.any ho I.free (by simp)
 exact I.step (g':=s.gens) (d':=s.drawn) (ch:=[]) (fun _ z=>nomatch z) (fun b o _ hb _ e n=>u.keep b o e n hb (by simp)) (fun b o _ hb _ e n=>u.slot b o e n hb (by simp)) (fun b o _ e n=>u.free b o e n (by simp)) (fun b o _ e=>u.there b o e (by simp)) u.tups u.frzs u.tbls (fun m' hm=>by
  obtain ⟨o',es',ep',ho',r'⟩:=hm;rw [ho] at ho';cases ho'
  exact ⟨_,es',ep',hL,r'⟩) hok I.bare
theorem Inv.call {g':Array GenState}{t':Nat}{d':Drawn}{ch:List Addr}(I:Inv X pins σ H s) (u:Un (frs X.stack) ch H H' s.heap h') (hok:HOk X.prog X.w H' h') (hg:AllBare g')
  (hch:∀ b∈ch,(b∈X.ex\/X.s₀.heap.objs.size<=b)/\b≠X.env.locals/\(∀ x c,X.env.cells.lookup x=some c->c≠b)/\∀ p∈X.pn++pins,p.1≠b) :
  Inv X pins σ H' { s with heap:=h',gens:=g',drawn:=d',toks:=t' }:=by
 obtain ⟨m,⟨o,es,ep,ho,r⟩,_⟩:=id I.loc;obtain ⟨sl,hL⟩:=u.any ho I.free fun z=>(hch _ z).2.1 rfl
 exact I.step (ch:=ch) hch (fun b o hL hb hc e n=>u.keep b o e n (fun z=>(List.mem_cons.mp (I.stkSub b z)).elim hL hb) hc) (fun b o _ _ hc e n=>u.any e n hc) (fun b o hc e n=>u.free b o e n hc) (fun b o hc e=>u.there b o e hc) u.tups u.frzs u.tbls (fun m' hm=>by
  obtain ⟨o',es',ep',ho',r'⟩:=hm;rw [ho] at ho';cases ho'
  exact ⟨_,es',ep',hL,r'⟩) hok hg
theorem Inv.turned {t':Nat}{it:Addr}(I:Inv X pins σ H s) (k:∀ b o,b≠it->s.heap.get? b=some o->h'.get? b=some o) (hn:H it=none) (hL:it≠X.env.locals)
  (h1:it∈X.ex\/X.s₀.heap.objs.size<=it) (h2:∀ x c,X.env.cells.lookup x=some c->c≠it) (h3:∀ p∈X.pn++pins,p.1≠it):Inv X pins σ H { s with heap:=h',toks:=t' }:=by
 have nit:∀ b u,H b=some u->b≠it:=fun b u e z=>by rw [z,hn] at e;cases e
 refine I.step (g':=s.gens) (d':=s.drawn) (ch:=[it]) (fun b hb=>?_) (fun b o _ _ hc e _=>k b o (fun z=>hc (by simp [z])) e) (fun b o _ _ hc e _=>⟨o.slots,k b o (fun z=>hc (by simp [z])) e⟩) (fun _ _ _ _ n=>n)
  (fun b o hc e=>⟨o,k b o (fun z=>hc (by simp [z])) e⟩) (fun _ _ e=>e) (fun _ _ _ e=>e) (fun b ps e=>⟨#[],by rw [e];simp⟩) (fun m hm=>?_) (fun b u e=>?_) I.bare
 ·have e:b=it:=by simpa using hb
  subst e;exact ⟨h1,hL,h2,h3⟩
 ·obtain ⟨o,es,ep,ho,r⟩:=hm;exact ⟨o,es,ep,k _ o (Ne.symm hL) ho,r⟩
 ·refine (I.hok b u e).stay (fun c v hc q=>k c v ?_ q) (fun _ q=>q) fun _ _ q=>q
  rcases hc with z|z
  ·rw [z];exact nit b u e
  ·exact nit c _ z
theorem Inv.tok (I:Inv X pins σ H s) (t:Nat):Inv X pins σ H { s with toks:=t }:=I.un (h':=s.heap) (t':=t) Un.refl I.hok
theorem Inv.kept {t':Nat}(I:Inv X pins σ H s) (k:∀ b u,s.heap.get? b=some u->h'.get? b=some u):Inv X pins σ H { s with heap:=h',toks:=t' }:=I.un (Un.kept k) (I.hok.kept k)
theorem Inv.laid {a:Addr}{o:HO}{t':Nat}(I:Inv X pins σ H s) (k:∀ b u,s.heap.get? b=some u->h'.get? b=some u) (hp:s.heap.objs.size<=a) (new:Cw X.prog X.w (upd H a o) h' a o) :
  Inv X pins σ (upd H a o) { s with heap:=h',toks:=t' }:=I.un (Un.laid k hp (I.hok.fresh hp)) (I.hok.laid k hp new)
theorem Inv.write {x e:Addr}{o:HO}{t':Nat}(I:Inv X pins σ H s) (mu:Mut (H x)) (he:e=x\/H e=some (.own x)) (k:∀ b u,b≠e->s.heap.get? b=some u->h'.get? b=some u) (heo:∃ u,h'.get? e=some u)
  (new:Cw X.prog X.w (upd H x o) h' x o):Inv X pins σ (upd H x o) { s with heap:=h',toks:=t' }:=I.un (Un.write mu he k heo) (I.hok.write mu he k heo new)
theorem Inv.weak {σ':List (Option V)}(I:Inv X pins σ H s) (hl:σ'.length=σ.length) (w:∀ (i:Nat) v,σ'[i]?=some (some v)->σ[i]?=some (some v)):Inv X pins σ' H s :=
 ⟨I.ok,I.os,I.bare,I.base,let ⟨m,hn,hl'⟩:=I.loc;⟨m,hn,fun i x v e1 e2 e3=>hl' i x v e1 (w i v e2) e3⟩,I.cell,I.free,I.freeC,I.pin,I.hok,hl.trans I.len⟩
theorem Inv.pins_of {pins':List (Addr×Obj)}(I:Inv X pins σ H s) (h:∀ p∈pins',s.heap.get? p.1=some p.2/\H p.1=none/\p.1≠X.env.locals/\p.1 ∉ X.fs/\∀ v,p.2.data≠.cell v):Inv X pins' σ H s :=
 ⟨I.ok,I.os,I.bare,I.base,I.loc,I.cell,I.free,I.freeC,fun p hp=>(List.mem_append.mp hp).elim (fun z=>I.pin p (List.mem_append_left _ z)) (h p),I.hok,I.len⟩
theorem T4 {N:List Str}(hN:N.Nodup) {i j:Nat}{x:Str}(a:N[i]?=some x) (b:N[j]?=some x):i=j:=by
 obtain ⟨h1,e1⟩:=List.getElem?_eq_some_iff.mp a;obtain ⟨h2,e2⟩:=List.getElem?_eq_some_iff.mp b;exact (List.getElem_inj hN).mp (e1.trans e2.symm)
theorem Z2 {M:Model}{A:Around}{E:Value->Shared->Prop}{i:Nat}{x:Str}{v:V}{u:Value}{Q:Unit->Shared->Prop}(I:Inv X pins σ H s) (hN:X.N.Nodup) (hi:X.N[i]?=some x) (hx:Loc X.env.scope x) (r:RelV v u)
  (h:∀ s',Inv X pins (σ.set i (some v)) H s'->(∃ a,Heap.SameBut a s.heap s'.heap/\(a=X.env.locals\/X.env.cells.lookup x=some a))->Q () s') (hf:X.fn x=true\/X.env.scope.names.lookup x=some .local:=by first | exact .inl rfl | exact .inr rfl | assumption):wpAny M A (storeName X.env x u) Q E s:=by
 obtain ⟨m,hn,hl⟩:=id I.loc;have hcls:(X.env.scope.kind==.class || (X.env.scope.kind==.module&&X.env.locals != X.env.globals))=false:=by rw [I.ok.kind];rfl
 have hiσ:i < σ.length:=by rw [I.len];exact (List.getElem?_eq_some_iff.mp hi).1
 have cne:=I.cne;have tracked:∀ {a:Addr} {h':Heap},(∃ o,s.heap.get? a=some o/\H a=none)->Heap.SameBut a s.heap h'->HOk X.prog X.w H h':=fun {a h'} ha hs b ob e=>by
  obtain ⟨_,_,hfree⟩:=ha;refine (I.hok b ob e).stay (fun c w' hc q=>(hs.2 c ?_).trans q) (fun _ q=>q) fun _ _ q=>q
  rintro rfl;rcases hc with rfl|hc
  ·rw [hfree] at e;cases e
  ·rw [hfree] at hc;cases hc
 rcases hx with hk|hk
 ·refine wpAny_storeName_local hk hn (fun h' hn' hs=>?_) hcls;obtain ⟨oL,_,_,hoL,_⟩:=id hn;refine h _ ⟨I.ok,I.os,I.bare,⟨fun b o e n hb hx=>?_,fun b o e n hb hx=>?_,I.base.free,fun b o e hx=>?_,I.base.tups,I.base.frzs,I.base.tbls⟩,⟨_,hn',fun j y v' e1 e2 e3=>?_⟩,fun y c e=>?_,I.free,I.freeC,fun p hp=>?_,tracked ⟨oL,hoL,I.free⟩ hs,by simpa using I.len⟩ ⟨_,hs,.inl rfl⟩
  ·exact (hs.2 b (Nat.ne_of_lt (Nat.lt_of_lt_of_le (Heap.lt_size e) I.ok.above))).trans (I.base.keep b o e n hb hx)
  ·obtain ⟨sl,e1⟩:=I.base.slot b o e n hb hx;exact ⟨sl,(hs.2 b (Nat.ne_of_lt (Nat.lt_of_lt_of_le (Heap.lt_size e) I.ok.above))).trans e1⟩
  ·obtain ⟨o',e1⟩:=I.base.there b o e hx;exact ⟨o',(hs.2 b (Nat.ne_of_lt (Nat.lt_of_lt_of_le (Heap.lt_size e) I.ok.above))).trans e1⟩
  ·by_cases hj:j=i
   ·subst hj;rw [hi] at e1;cases e1;rw [List.getElem?_set_self hiσ] at e2;cases e2;exact ⟨u,r,.inl ⟨hk,by simp⟩⟩
   ·rw [List.getElem?_set_ne (Ne.symm hj)] at e2;obtain ⟨u',r',q⟩:=hl j y v' e1 e2 e3;refine ⟨u',r',?_⟩;rcases q with ⟨k,e⟩|⟨k,c,e,z⟩
    ·refine .inl ⟨k,?_⟩;have:y≠x:=fun e=>hj (T4 hN e1 (e ▸ hi))
     simp [this,e]
    ·exact .inr ⟨k,c,e,z.sameBut hs (cne y c e)⟩
  ·obtain ⟨w',z⟩:=I.cell y c e;exact ⟨w',z.sameBut hs (cne y c e)⟩
  ·obtain ⟨e,n,ne,nf,d⟩:=I.pin p hp;exact ⟨(hs.2 p.1 ne).trans e,n,ne,nf,d⟩
 ·have hfn:X.fn x=true:=by
   rcases hf with z|z
   ·exact z
   ·rw [z] at hk;cases hk
  obtain ⟨c,hc⟩:=I.ok.has x (.inl hk);obtain ⟨w',z⟩:=I.cell x c hc;refine wpAny_storeName_cell I.ok.kind hk hc z (fun h' hc' hs=>?_);obtain ⟨oc,hoc,hocd⟩:=id z;refine h { s with heap:=h' } ⟨I.ok,I.os,I.bare,⟨fun b o e n hb hx=>?_,fun b o e n hb hx=>?_,I.base.free,fun b o e hx=>?_,I.base.tups,I.base.frzs,I.base.tbls⟩,⟨m,hn.sameBut hs (Ne.symm (cne x c hc)),fun j y v' e1 e2 e3=>?_⟩,fun y c' e=>?_,I.free,I.freeC,fun p hp=>?_,tracked ⟨oc,hoc,I.freeC x c hc⟩ hs,by simpa using I.len⟩ ⟨c,hs,.inr hc⟩
  ·exact (hs.2 b (Nat.ne_of_lt (Nat.lt_of_lt_of_le (Heap.lt_size e) (I.ok.cab x c hfn hc)))).trans (I.base.keep b o e n hb hx)
  ·obtain ⟨sl,e1⟩:=I.base.slot b o e n hb hx;exact ⟨sl,(hs.2 b (Nat.ne_of_lt (Nat.lt_of_lt_of_le (Heap.lt_size e) (I.ok.cab x c hfn hc)))).trans e1⟩
  ·obtain ⟨o',e1⟩:=I.base.there b o e hx;exact ⟨o',(hs.2 b (Nat.ne_of_lt (Nat.lt_of_lt_of_le (Heap.lt_size e) (I.ok.cab x c hfn hc)))).trans e1⟩
  ·by_cases hj:j=i
   ·subst hj;rw [hi] at e1;cases e1;rw [List.getElem?_set_self hiσ] at e2;cases e2;exact ⟨u,r,.inr ⟨.inl hk,c,hc,hc'⟩⟩
   ·rw [List.getElem?_set_ne (Ne.symm hj)] at e2;obtain ⟨u',r',q⟩:=hl j y v' e1 e2 e3;refine ⟨u',r',?_⟩;rcases q with q|⟨k,c',e,z'⟩
    ·exact .inl q
    ·refine .inr ⟨k,c',e,z'.sameBut hs ?_⟩;rintro rfl;exact hj (T4 hN e1 (I.ok.inj _ _ _ e hc ▸ hi))
  ·by_cases hcc:c'=c
   ·subst hcc;exact ⟨_,hc'⟩
   ·obtain ⟨w2,z2⟩:=I.cell y c' e;exact ⟨w2,z2.sameBut hs hcc⟩
  ·obtain ⟨e,n,ne,nf,d⟩:=I.pin p hp;refine ⟨(hs.2 p.1 ?_).trans e,n,ne,nf,d⟩;intro q;rw [q,hoc] at e;have q':oc=p.2:=Option.some.inj e;exact d w' (by rw [← q'];exact hocd)
theorem M5 {M:Model}{A:Around}{E:Value->Shared->Prop}{i:Nat}{x:Str}{v:V}{u:Value}{Q:Unit->Shared->Prop}(I:Inv X pins σ H s) (hN:X.N.Nodup) (hi:X.N[i]?=some x) (hx:Loc X.env.scope x) (r:RelV v u)
  (h:∀ s',Inv X pins (σ.set i (some v)) H s'->Q () s') (hf:X.fn x=true\/X.env.scope.names.lookup x=some .local:=by first | exact .inl rfl | exact .inr rfl | assumption):wpAny M A (storeName X.env x u) Q E s :=
 Z2 I hN hi hx r (fun s' I' _=>h s' I') hf
theorem Inv.call' {s':Shared}{ch:List Addr}(I:Inv X pins σ H s) (ho:s'.os=s.os) (u:Un (frs X.stack) ch H H' s.heap s'.heap) (hok:HOk X.prog X.w H' s'.heap) (hg:AllBare s'.gens)
  (hch:∀ b∈ch,(b∈X.ex\/X.s₀.heap.objs.size<=b)/\b≠X.env.locals/\(∀ x c,X.env.cells.lookup x=some c->c≠b)/\∀ p∈X.pn++pins,p.1≠b):Inv X pins σ H' s':=by
 obtain ⟨h',g',d',t',o'⟩:=s';have e:o'=s.os:=ho;subst e;exact I.call (g':=g') (t':=t') (d':=d') u hok hg hch
end
noncomputable abbrev XK:=Value->Option Addr->Hp->Prop
noncomputable abbrev St:=List (Option V)
noncomputable abbrev VK:=V->Hp->Prop
noncomputable abbrev TE:=St->Hp->VK->Prop
noncomputable abbrev TT:=St->Hp->(Bool->Hp->Prop)->Prop
noncomputable abbrev TA:=St->Hp->(List V->Hp->Prop)->Prop
structure Ends where
 nx:St->Hp->Prop
 rt:VK
 bk:St->Hp->Prop:=fun _ _=>False
 ct:St->Hp->Prop:=fun _ _=>False
noncomputable abbrev TS:=Ends->St->Hp->Prop
noncomputable def EP (X:Cx) (pins:List (Addr×Obj)) (σ:St) (Q:VK) (u:Value) (s':Shared):Prop:=∃ v H',Inv X pins σ H' s'/\RelV v u/\Q v H'
noncomputable def TP (X:Cx) (pins:List (Addr×Obj)) (σ:St) (Q:Bool->Hp->Prop) (b:Bool) (s':Shared):Prop:=∃ H',Inv X pins σ H' s'/\Q b H'
noncomputable def AP (X:Cx) (pins:List (Addr×Obj)) (σ:St) (Q:List V->Hp->Prop) (us:List Value) (s':Shared):Prop:=∃ vs H',Inv X pins σ H' s'/\Vals vs us/\Q vs H'
noncomputable def SP (X:Cx) (pins:List (Addr×Obj)) (D:Ends) (f:Flow) (s':Shared):Prop :=
 match f with
 | .next=>∃ σ' H',Inv X pins σ' H' s'/\D.nx σ' H'
 | .brk=>∃ σ' H',Inv X pins σ' H' s'/\D.bk σ' H'
 | .cont=>∃ σ' H',Inv X pins σ' H' s'/\D.ct σ' H'
 | .ret u=>∃ v σ' H',Inv X pins σ' H' s'/\RelV v u/\D.rt v H'
noncomputable def PE (X:Cx) (e:Expr) (t:TE):Prop :=
 ∀ (pins:List (Addr×Obj)) (s:Shared) (σ:St) (H:Hp) (Q:VK),Inv X pins σ H s->t σ H Q->wpAny (model X.prog X.w) X.A (eval e X.env) (EP X pins σ Q) X.xe s
noncomputable def PT (X:Cx) (e:Expr) (t:TT):Prop :=
 ∀ (pins:List (Addr×Obj)) (s:Shared) (σ:St) (H:Hp) (Q:Bool->Hp->Prop),Inv X pins σ H s->t σ H Q->wpAny (model X.prog X.w) X.A (isTrue e X.env (eval e X.env)) (TP X pins σ Q) X.xe s
noncomputable def PW (X:Cx) (e:Expr) (t:TT):Prop :=
 ∀ (whole:Sem Value) (pins:List (Addr×Obj)) (s:Shared) (σ:St) (H:Hp) (Q:Bool->Hp->Prop),Inv X pins σ H s->t σ H Q->wpAny (model X.prog X.w) X.A (isTrue e X.env whole) (TP X pins σ Q) X.xe s
theorem PW.pt {X:Cx}{e:Expr}{t:TT}(h:PW X e t):PT X e t:=h _
noncomputable def PA (X:Cx) (es:List Expr) (t:TA):Prop :=
 ∀ (pos:Pos) (pins:List (Addr×Obj)) (s:Shared) (σ:St) (H:Hp) (Q:List V->Hp->Prop),Inv X pins σ H s->t σ H Q->wpAny (model X.prog X.w) X.A (spliced (backTo pos (starEach es X.env))) (AP X pins σ Q) X.xe s
noncomputable def PS (X:Cx) (st:Stmt) (t:TS):Prop :=
 ∀ (pins:List (Addr×Obj)) (s:Shared) (σ:St) (H:Hp) (D:Ends),Inv X pins σ H s->t D σ H->wpAny (model X.prog X.w) X.A (exec st X.env) (SP X pins D) X.xe s
noncomputable def PSs (X:Cx) (st:List Stmt) (t:TS):Prop :=
 ∀ (pins:List (Addr×Obj)) (s:Shared) (σ:St) (H:Hp) (D:Ends),Inv X pins σ H s->t D σ H->wpAny (model X.prog X.w) X.A (execs st X.env) (SP X pins D) X.xe s
theorem thn {α:Type}{t:Sem α}{Q Q':α->Shared->Prop}{M:Model}{A:Around}{E:Value->Shared->Prop}{s:Shared}(h:wpAny M A t Q E s) (hQ:∀ a s,Q a s->Q' a s):wpAny M A t Q' E s:=wpAny_mono h hQ fun _ _ x=>x
section
variable {X:Cx}
noncomputable def Aeu (i:Nat):TE:=fun σ H Q=>∃ v,σ[i]?=some (some v)/\Q v H
noncomputable def tC (v:V):TE:=fun _ H Q=>Q v H
theorem wI {i:Nat}{x:Str}{pos:Pos}(hN:X.N[i]?=some x) (hv:Vis X.env.scope x) (hd:(x==("__debug__":Str))=false:=by decide) (hcd:(x==("__classdict__":Str))=false:=by decide):PE X (.Name x pos) (Aeu i):=by
 intro pins s σ H Q I h;obtain ⟨v,e,h⟩:=h;obtain ⟨m,hn,hl⟩:=I.loc;obtain ⟨u,r,l⟩:=hl i x v hN e hv;have fin:EP X pins σ Q u s:=⟨v,H,I,r,h⟩;rcases l with ⟨hk,hm⟩|⟨hk,c,hc,hcell⟩
 ·exact wpAny_Name (wpAny_loadName_local I.ok.kind hk hn hm fin) hd
 ·rcases hk with hk|hk
  ·exact wpAny_Name (wpAny_loadName_cell I.ok.kind hk hc hcell fin) hd
  ·exact wpAny_Name (wpAny_loadName_free I.ok.kind hk hc hcell fin hcd) hd
theorem wJ {i j pos}:PE X (.Constant (.int i) j pos) (tC (.int i)):=fun _ _ _ H _ I h=>wpAny_Constant_int ⟨.int i,H,I.tok _,⟨_,rfl⟩,h⟩
theorem Ace {b j pos}:PE X (.Constant (.bool b) j pos) (tC (.bl b)):=fun _ _ _ H _ I h=>Constant_bool ⟨.bl b,H,I,rfl,h⟩
theorem wK {j pos}:PE X (.Constant .none j pos) (tC .non):=fun _ _ _ H _ I h=>Constant_none ⟨.non,H,I,rfl,h⟩
theorem Wq {x j pos}:PE X (.Constant (.str x) j pos) (tC (.str x)):=fun _ _ _ H _ I h=>Calls.Constant_str ⟨.str x,H,I.tok _,⟨_,rfl⟩,h⟩
noncomputable def Gl (X:Cx) (x:Str):Prop:=X.env.kindOf x=some .globalImplicit
theorem Rb {E:Value->Shared->Prop}{pins:List (Addr×Obj)}{s:Shared}{σ:St}{H:Hp}{x:Str}{u:Value}{pos:Pos}{Q:Value->Shared->Prop}(I:Inv X pins σ H s) (hg:Gl X x) (hm:X.mg x=some u) (h:Q u s)
  (hd:(x==("__debug__":Str))=false:=by decide):wpAny (model X.prog X.w) X.A (eval (.Name x pos) X.env) Q E s :=
 Calls.Name_function_global I.ok.kind hg (Calls.loadGlobal_global (by rw [I.ok.glob];exact I.mod.glob.keeps I.bk) hm h) hd
theorem Kv {E:Value->Shared->Prop}{pins:List (Addr×Obj)}{s:Shared}{σ:St}{H:Hp}{x:Str}{u:Value}{pos:Pos}{Q:Value->Shared->Prop}(I:Inv X pins σ H s) (hg:Gl X x) (hm:X.mg x=none) (hv:bootBuiltins x=some u) (h:Q u s)
  (hn:x ≠ "__name__":=by decide) (hd:(x==("__debug__":Str))=false:=by decide):wpAny (model X.prog X.w) X.A (eval (.Name x pos) X.env) Q E s:=by
 obtain ⟨mb,h1,h2⟩:=I.mod.blt;exact Calls.Name_function_global I.ok.kind hg (Calls.loadGlobal_builtin (by rw [I.ok.glob];exact I.mod.glob.keeps I.bk) hm (by rw [I.ok.blt];exact h1.keeps I.bk) ((h2 x hn).trans hv) h) hd
theorem Il {x:Str}{v:V}{u:Value}{pos:Pos}(hg:Gl X x) (hm:X.mg x=some u) (r:RelV v u) (hd:(x==("__debug__":Str))=false:=by decide):PE X (.Name x pos) (tC v) :=
 fun _ _ _ H _ I h=>Rb I hg hm ⟨v,H,I,r,h⟩ hd
theorem pI {x:Str}{v:V}{u:Value}{pos:Pos}(hg:Gl X x) (hm:X.mg x=none) (hv:bootBuiltins x=some u) (r:RelV v u) (hn:x ≠ "__name__":=by decide) (hd:(x==("__debug__":Str))=false:=by decide):PE X (.Name x pos) (tC v) :=
 fun _ _ _ H _ I h=>Kv I hg hm hv ⟨v,H,I,r,h⟩ hn hd
variable {a b:Expr}{ta tb:TE}{pos:Pos}
theorem RelV.none_iff {x:V}{v:Value}(r:RelV x v):(v==Value.none)=decide (x=.non):=by
 cases x with
 | non=>cases r;rfl
 | bl _=>cases r;rfl
 | int _=>obtain ⟨t,rfl⟩:=r;rfl
 | str _=>obtain ⟨t,rfl⟩:=r;rfl
 | byt _=>obtain ⟨t,rfl⟩:=r;rfl
 | flt _=>obtain ⟨t,rfl⟩:=r;rfl
 | ref _=>cases r;rfl
 | ty _=>cases r;rfl
variable {tA tB':TT}{rest:List Expr}
noncomputable def Aev (t u:TT):TT:=fun σ H Q=>t σ H fun c H1=>if c=true then u σ H1 Q else Q false H1
noncomputable def tOr (t u:TT):TT:=fun σ H Q=>t σ H fun c H1=>if c=true then Q true H1 else u σ H1 Q
noncomputable def Aew (t:TT):TT:=fun σ H Q=>t σ H fun c H1=>Q (!c) H1
theorem pJ (ha:PT X a tA):PW X (.BoolOp .And [a] pos) tA:=by
 intro wh pins s σ H Q I h;refine isTrue_and (thn (ha pins s σ H Q I h) fun c s1 e=>?_);cases c with
 | true=>exact isTrue_and_nil e
 | false=>exact e
theorem wL (ha:PT X a tA):PW X (.BoolOp .Or [a] pos) tA:=by
 intro wh pins s σ H Q I h;refine isTrue_or (thn (ha pins s σ H Q I h) fun c s1 e=>?_);cases c with
 | false=>exact isTrue_or_nil e
 | true=>exact e
theorem wM (ha:PT X a tA) (hb:PW X (.BoolOp .And (b::rest) pos) tB'):PW X (.BoolOp .And (a::b::rest) pos) (Aev tA tB'):=by
 intro wh pins s σ H Q I h;refine isTrue_and (thn (ha pins s σ H _ I h) ?_);rintro c s1 ⟨H1,I1,q1⟩;cases c with
 | true=>exact hb wh pins s1 σ H1 Q I1 q1
 | false=>exact ⟨H1,I1,q1⟩
theorem Acf (ha:PT X a tA) (hb:PW X (.BoolOp .Or (b::rest) pos) tB'):PW X (.BoolOp .Or (a::b::rest) pos) (tOr tA tB'):=by
 intro wh pins s σ H Q I h;refine isTrue_or (thn (ha pins s σ H _ I h) ?_);rintro c s1 ⟨H1,I1,q1⟩;cases c with
 | true=>exact ⟨H1,I1,q1⟩
 | false=>exact hb wh pins s1 σ H1 Q I1 q1
theorem wN (ha:PT X a tA):PT X (.UnaryOp .Not a pos) (Aew tA):=by
 intro pins s σ H Q I h;exact isTrue_not (ha pins s σ H (fun c H1=>Q (!c) H1) I h)
noncomputable def Acg (ta tb:TE):TE:=fun σ H Q=>ta σ H fun x H1=>∃ c,x=.bl c/\if c=true then tb σ H1 Q else Q (.bl false) H1
noncomputable def Aex (ta tb:TE):TE:=fun σ H Q=>ta σ H fun x H1=>∃ c,x=.bl c/\if c=true then Q (.bl true) H1 else tb σ H1 Q
noncomputable def Ach (ta:TE):TE:=fun σ H Q=>ta σ H fun x H1=>∃ c,x=.bl c/\Q (.bl (!c)) H1
theorem wO {op}{t:TE}(h:PE X a t):PE X (.BoolOp op [a] pos) t:=fun pins s σ H Q I hw=>BoolOp_one (h pins s σ H Q I hw)
theorem wQ (ha:PE X a ta) (hb:PE X (.BoolOp .And (b::rest) pos) tb):PE X (.BoolOp .And (a::b::rest) pos) (Acg ta tb):=by
 intro pins s σ H Q I h;refine BoolOp_and (thn (ha pins s σ H _ I h) ?_);rintro v s1 ⟨x,H1,I1,r1,q1⟩;obtain ⟨c,rfl,q1⟩:=q1;cases r1;refine wpAny_truthy_bool ?_;cases c with
 | true=>exact hb pins s1 σ H1 Q I1 q1
 | false=>exact ⟨.bl false,H1,I1,rfl,q1⟩
theorem Aci (ha:PE X a ta) (hb:PE X (.BoolOp .Or (b::rest) pos) tb):PE X (.BoolOp .Or (a::b::rest) pos) (Aex ta tb):=by
 intro pins s σ H Q I h;refine BoolOp_or (thn (ha pins s σ H _ I h) ?_);rintro v s1 ⟨x,H1,I1,r1,q1⟩;obtain ⟨c,rfl,q1⟩:=q1;cases r1;refine wpAny_truthy_bool ?_;cases c with
 | false=>exact hb pins s1 σ H1 Q I1 q1
 | true=>exact ⟨.bl true,H1,I1,rfl,q1⟩
theorem wR (ha:PE X a ta):PE X (.UnaryOp .Not a pos) (Ach ta):=by
 intro pins s σ H Q I h;refine UnaryOp_ (thn (ha pins s σ H _ I h) ?_);rintro v s1 ⟨x,H1,I1,r1,q1⟩;obtain ⟨c,rfl,q1⟩:=q1;cases r1;exact not_of (wpAny_truthy_bool ⟨.bl (!c),H1,I1,rfl,q1⟩)
noncomputable def tIf (t:TT) (ta tb:TE):TE:=fun σ H Q=>t σ H fun c H1=>if c=true then ta σ H1 Q else tb σ H1 Q
theorem cW {c:Expr}(hc:PT X c tA) (ha:PE X a ta) (hb:PE X b tb):PE X (.IfExp c a b pos) (tIf tA ta tb):=by
 intro pins s σ H Q I h;refine wpAny_IfExp (thn (hc pins s σ H _ I h) ?_);rintro d s1 ⟨H1,I1,q1⟩;cases d with
 | true=>exact ha pins s1 σ H1 Q I1 q1
 | false=>exact hb pins s1 σ H1 Q I1 q1
end
noncomputable def SqL (K:PySem.W.Frag) (H:Hp) (a:Addr) (xs:List V):Prop :=
 Rd H a (.lst xs) \/
  ∃ (o:Obj) (its:Array Value) (n:Nat),K.lookup a=some o/\o.cls=.type "list"/\o.dict=none/\o.data=.seq its n/\its.size<=sizeLine/\Vals xs its.toList
noncomputable def SqT (K:PySem.W.Frag) (H:Hp) (a:Addr) (xs:List V):Prop :=
 Rd H a (.tup xs) \/
  ∃ (o:Obj) (its:Array Value) (n:Nat),K.lookup a=some o/\o.cls=.type "tuple"/\o.dict=none/\o.data=.seq its n/\its.size<=sizeLine/\Vals xs its.toList
noncomputable def Aey:Value->Option V
 | .none=>some .non
 | .bool b=>some (.bl b)
 | .int i _=>some (.int i)
 | .str x _=>some (.str x)
 | .bytes b _=>some (.byt b)
 | .float b _=>some (.flt b)
 | .ref a=>some (.ref a)
 | .type n=>some (.ty n)
 | _=>none
theorem RelV.abs {x:V}{u:Value}(r:RelV x u):Aey u=some x:=by
 cases x with
 | non=>cases r;rfl
 | bl _=>cases r;rfl
 | int _=>obtain ⟨t,rfl⟩:=r;rfl
 | str _=>obtain ⟨t,rfl⟩:=r;rfl
 | byt _=>obtain ⟨t,rfl⟩:=r;rfl
 | flt _=>obtain ⟨t,rfl⟩:=r;rfl
 | ref _=>cases r;rfl
 | ty _=>cases r;rfl
theorem RelV.inj {x y:V}{u:Value}(r:RelV x u) (q:RelV y u):x=y:=Option.some.inj (r.abs.symm.trans q.abs)
theorem Vals.inj {xs ys:List V}{us:List Value}(a:Vals xs us) (b:Vals ys us):xs=ys:=by
 induction a generalizing ys with
 | nil=>cases b;rfl
 | cons r t ih =>
  cases b with
  | cons r' t'=>rw [r.inj r',ih t']
section
variable {X:Cx}{pins:List (Addr×Obj)}{σ:St}{H:Hp}{s:Shared}{a:Addr}{xs ys:List V}
theorem Inv.list (I:Inv X pins σ H s) (h:SqL X.K H a xs):∃ its:List Value,Vals xs its/\PlainL s.heap a its.toArray/\xs.length<=sizeLine:=by
 rcases h with h|⟨o,its,n,hk,hc,hd,hs,hz,r⟩
 ·obtain ⟨z,its,n,r,e⟩:=h.ok I.hok;exact ⟨its,r,⟨_,n,e,rfl,rfl,rfl⟩,z⟩
 ·refine ⟨its.toList,r,⟨o,n,I.kIn a o hk,hc,hd,by simpa using hs⟩,?_⟩;have e:=r.length;simp only [Array.length_toList] at e;omega
theorem Inv.tuple (I:Inv X pins σ H s) (h:SqT X.K H a xs):∃ its:List Value,Vals xs its/\IsTup s.heap a its.toArray/\xs.length<=sizeLine:=by
 rcases h with h|⟨o,its,n,hk,hc,hd,hs,hz,r⟩
 ·obtain ⟨z,its,r,p⟩:=h.ok I.hok;exact ⟨its,r,p.to,z⟩
 ·refine ⟨its.toList,r,⟨o,I.kIn a o hk,hc,n,by simpa using hs⟩,?_⟩;have e:=r.length;simp only [Array.length_toList] at e;omega
theorem Inv.tupleP (I:Inv X pins σ H s) (h:SqT X.K H a xs):∃ its:List Value,Vals xs its/\Pb s.heap a its.toArray/\xs.length<=sizeLine:=by
 rcases h with h|⟨o,its,n,hk,hc,hd,hs,hz,r⟩
 ·obtain ⟨z,its,r,p⟩:=h.ok I.hok;exact ⟨its,r,p,z⟩
 ·refine ⟨its.toList,r,⟨o,I.kIn a o hk,hc,hd,n,by simpa using hs⟩,?_⟩;have e:=r.length;simp only [Array.length_toList] at e;omega
theorem Inv.list_inj (I:Inv X pins σ H s) (h:SqL X.K H a xs) (h':SqL X.K H a ys):xs=ys:=by
 obtain ⟨its,r,⟨o,n,e,_,_,d⟩,_⟩:=I.list h;obtain ⟨its',r',⟨o',n',e',_,_,d'⟩,_⟩:=I.list h';rw [e] at e';cases e';rw [d] at d';injection d' with d1 _
 have:its=its':=by simpa using congrArg Array.toList d1
 subst this;exact r.inj r'
theorem Inv.tuple_inj (I:Inv X pins σ H s) (h:SqT X.K H a xs) (h':SqT X.K H a ys):xs=ys:=by
 obtain ⟨its,r,⟨o,e,_,n,d⟩,_⟩:=I.tuple h;obtain ⟨its',r',⟨o',e',_,n',d'⟩,_⟩:=I.tuple h';rw [e] at e';cases e';rw [d] at d';injection d' with d1 _
 have:its=its':=by simpa using congrArg Array.toList d1
 subst this;exact r.inj r'
end
noncomputable abbrev Cx.wish (X:Cx) (E:Value->Shared->Prop):Cx:={ X with xe:=E }
noncomputable abbrev Cx.nox (X:Cx):Cx:=X.wish fun _ _=>False
theorem Cx.Ok.wish {X:Cx}(ok:X.Ok) (E:Value->Shared->Prop):(X.wish E).Ok :=
 ⟨ok.mod,ok.kind,ok.glob,ok.blt,ok.above,ok.inj,ok.has,ok.cab,ok.hd,ok.frames,ok.stk,ok.exf,ok.bs,ok.bsz,ok.noex,ok.exfs,ok.funs,ok.frf⟩
theorem Cx.Ok.unwish {X:Cx}{E:Value->Shared->Prop}(ok:(X.wish E).Ok):X.Ok :=
 ⟨ok.mod,ok.kind,ok.glob,ok.blt,ok.above,ok.inj,ok.has,ok.cab,ok.hd,ok.frames,ok.stk,ok.exf,ok.bs,ok.bsz,ok.noex,ok.exfs,ok.funs,ok.frf⟩
section
variable {X:Cx}{pins:List (Addr×Obj)}{σ:St}{H:Hp}{s:Shared}{E:Value->Shared->Prop}
theorem Inv.wish (I:Inv X pins σ H s) (E:Value->Shared->Prop):Inv (X.wish E) pins σ H s:=⟨I.ok.wish E,I.os,I.bare,I.base,I.loc,I.cell,I.free,I.freeC,I.pin,I.hok,I.len⟩
theorem Inv.unwish (I:Inv (X.wish E) pins σ H s):Inv X pins σ H s:=⟨I.ok.unwish,I.os,I.bare,I.base,I.loc,I.cell,I.free,I.freeC,I.pin,I.hok,I.len⟩
theorem SP.unwish {D:Ends}{f:Flow}{s':Shared}(h:SP (X.wish E) pins D f s'):SP X pins D f s':=by
 cases f with
 | next=>obtain ⟨σ',H',I,q⟩:=h;exact ⟨σ',H',I.unwish,q⟩
 | brk=>obtain ⟨σ',H',I,q⟩:=h;exact ⟨σ',H',I.unwish,q⟩
 | cont=>obtain ⟨σ',H',I,q⟩:=h;exact ⟨σ',H',I.unwish,q⟩
 | ret u=>obtain ⟨v,σ',H',I,r,q⟩:=h;exact ⟨v,σ',H',I.unwish,r,q⟩
theorem PSs.nox {st:List Stmt}{t:TS}(h:PSs X.nox st t):PSs X st t:=fun pins s σ H D I hw =>
 wpAny_mono (h pins s σ H D (I.wish _) hw) (fun _ _ q=>q.unwish) fun _ _ z=>False.elim z
end
section
variable {X:Cx}{st:Stmt}{rest:List Stmt}{t u:TS}{e:Expr}{te:TE}{pos:Pos}
noncomputable def uX:TS:=fun D σ H=>D.nx σ H
noncomputable def Aez (t u:TS):TS:=fun D σ H=>t { D with nx:=u D } σ H
theorem pK:PSs X [] uX:=fun _ _ σ H _ I h=>wpAny_execs_nil ⟨σ,H,I,h⟩
theorem cX (h1:PS X st t) (h2:PSs X rest u):PSs X (st::rest) (Aez t u):=by
 intro pins s σ H D I h;refine wpAny_execs_cons (thn (h1 pins s σ H { D with nx:=u D } I h) fun f s1 q=>?_);cases f with
 | next =>
  obtain ⟨σ',H',I',q⟩:=q;exact h2 pins s1 σ' H' D I' q
 | ret v=>exact q
 | brk=>exact q
 | cont=>exact q
noncomputable def wU:TS:=fun D σ H=>D.bk σ H
noncomputable def Acj:TS:=fun D σ H=>D.ct σ H
theorem pL:PS X (.Pass pos) uX:=fun _ _ σ H _ I h=>wpAny_Pass ⟨σ,H,I,h⟩
theorem cY:PS X (.Break pos) wU:=fun _ _ σ H _ I h=>wpAny_Break ⟨σ,H,I,h⟩
theorem T5:PS X (.Continue pos) Acj:=fun _ _ σ H _ I h=>wpAny_Continue ⟨σ,H,I,h⟩
theorem Inv.quiet {pins:List (Addr×Obj)}{σ:St}{H:Hp}{s:Shared}(I:Inv X pins σ H s):interactive X.env=false:=by simp [interactive,I.ok.kind]
noncomputable def Ack (te:TE):TS:=fun D σ H=>te σ H fun _ H1=>D.nx σ H1
theorem pM (he:PE X e te) (hs:swapsWith e none pos.line X.env=pure false:=by rfl):PS X (.Expr e pos) (Ack te):=by
 intro pins s σ H D I h;exact wpAny_Expr_any (thn (he pins s σ H _ I h) fun v s1 ⟨x,H1,I1,r1,q1⟩=>⟨σ,H1,I1,q1⟩) I.quiet hs
noncomputable def Ae0 (te:TE):TS:=fun D σ H=>te σ H D.rt
theorem wW (he:PE X e te):PS X (.Return (some e) pos) (Ae0 te):=by
 intro pins s σ H D I h;refine wpAny_Return_some (thn (he pins s σ H _ I h) ?_);rintro v s1 ⟨x,H1,I1,r1,q1⟩;exact ⟨x,σ,H1,I1,r1,q1⟩
noncomputable def Acl:TS:=fun D _ H=>D.rt .non H
theorem pN:PS X (.Return none pos) Acl:=fun _ _ σ H _ I h=>wpAny_Return_none ⟨.non,σ,H,I,rfl,h⟩
noncomputable def Ae1 (c:TT) (t u:TS):TS:=fun D σ H=>c σ H fun b H1=>if b=true then t D σ H1 else u D σ H1
theorem Acm {c:Expr}{a b:List Stmt}{tc:TT}(hc:PT X c tc) (ha:PSs X a t) (hb:PSs X b u):PS X (.If c a b pos) (Ae1 tc t u):=by
 intro pins s σ H D I h;refine wpAny_If (thn (hc pins s σ H _ I h) ?_);rintro d s1 ⟨H1,I1,q1⟩;cases d with
 | true=>exact ha pins s1 σ H1 D I1 q1
 | false=>exact hb pins s1 σ H1 D I1 q1
end
noncomputable abbrev TG:=V->St->Hp->(St->Hp->Prop)->Prop
noncomputable abbrev TGs:=List V->St->Hp->(St->Hp->Prop)->Prop
noncomputable def PG (X:Cx) (target:Expr) (t:TG):Prop :=
 ∀ (pins:List (Addr×Obj)) (s:Shared) (σ:St) (H:Hp) (v:V) (u:Value) (Q:St->Hp->Prop),Inv X pins σ H s->RelV v u->t v σ H Q ->
  wpAny (model X.prog X.w) X.A (assign target X.env u) (fun _ s'=>∃ σ' H',Inv X pins σ' H' s'/\Q σ' H') X.xe s
noncomputable def PGs (X:Cx) (ts:List Expr) (t:TGs):Prop :=
 ∀ (pins:List (Addr×Obj)) (s:Shared) (σ:St) (H:Hp) (vs:List V) (us:List Value) (Q:St->Hp->Prop),Inv X pins σ H s->Vals vs us->t vs σ H Q ->
  wpAny (model X.prog X.w) X.A (assignInOrder ((assignEach ts X.env).map (·.2)) us) (fun _ s'=>∃ σ' H',Inv X pins σ' H' s'/\Q σ' H') X.xe s
noncomputable abbrev wX:=V->V->V->Hp->(Hp->Prop)->Prop
noncomputable def Acn (X:Cx) (t:wX):Prop :=
 ∀ (pins:List (Addr×Obj)) (s:Shared) (σ:St) (H:Hp) (o i v:V) (ov iv u:Value) (Q:Hp->Prop),Inv X pins σ H s->RelV o ov->RelV i iv->RelV v u->t o i v H Q ->
  wpAny (model X.prog X.w) X.A (setItem ov iv u) (fun _ s'=>∃ H',Inv X pins σ H' s'/\Q H') X.xe s
section
variable {X:Cx}{pos:Pos}
noncomputable def cZ (i:Nat):TG:=fun v σ H Q=>Q (σ.set i (some v)) H
theorem Yk {i:Nat}{x:Str}(hN:X.N.Nodup) (hi:X.N[i]?=some x) (hx:Loc X.env.scope x) (hf:X.fn x=true\/X.env.scope.names.lookup x=some .local:=by first | exact .inl rfl | exact .inr rfl | assumption):PG X (.Name x pos) (cZ i):=by
 intro pins s σ H v u Q I r h;exact wpAny_assign_Name (M5 I hN hi hx r (fun s' I'=>⟨_,H,I',h⟩) hf)
noncomputable def Aco:TGs:=fun vs σ H Q=>vs=[]/\Q σ H
noncomputable def uY (t:TG) (u:TGs):TGs:=fun vs σ H Q=>∃ v r,vs=v::r/\t v σ H fun σ' H'=>u r σ' H' Q
theorem pO:PGs X [] Aco:=by
 intro pins s σ H vs us Q I r h;obtain ⟨e,h⟩:=h;subst e;cases r;exact assignInOrder_nil ⟨σ,H,I,h⟩
theorem dD {e:Expr}{es:List Expr}{t:TG}{u:TGs}(h1:PG X e t) (h2:PGs X es u)
  (hs:(assignEach (e::es) X.env).map (·.2)=assign e X.env::(assignEach es X.env).map (·.2):=by rfl):PGs X (e::es) (uY t u):=by
 intro pins s σ H vs us Q I r h;obtain ⟨v,vr,e1,h⟩:=h;subst e1;cases r with
 | cons r rr =>
  rw [hs];refine assignInOrder_cons (thn (h1 pins s σ H _ _ _ I r h) ?_);rintro _ s1 ⟨σ1,H1,I1,q1⟩;exact h2 pins s1 σ1 H1 _ _ Q I1 rr q1
noncomputable def Ae2 (K:PySem.W.Frag) (n:Nat) (t:TGs):TG:=fun v σ H Q=>∃ a xs,v=.ref a/\SqT K H a xs/\xs.length=n/\t xs σ H Q
theorem wY {es:List Expr}{k:Nat}{t:TGs}{n:Nat}(hc:X.calm=true) (h:PGs X es t)
  (hn:(assignEach es X.env).length=n:=by rfl) (hst:(assignEach es X.env).findIdx? (·.1)=none:=by rfl):PG X (.Tuple es k pos) (Ae2 X.K n t):=by
 intro pins s σ H v u Q I r hw;obtain ⟨a,xs,e1,hq,hl,hw⟩:=hw;subst e1;cases r;obtain ⟨its,rv,ht,hz⟩:=I.tuple hq;refine assign_Tuple_tuple (I.ok.hd hc) ht (by simp [hn,← hl,rv.length]) hst fun h' hx=>?_
 have I1:Inv X pins σ H { s with heap:=h' }:=I.kept (t':=s.toks) fun b o e=>hx b o (Nat.ne_of_lt (Heap.lt_size e)) e
 exact h pins _ σ H xs _ Q I1 (by simpa using rv) hw
noncomputable def Ae3 (to ti:TE) (t:wX):TG:=fun v σ H Q=>to σ H fun o H1=>ti σ H1 fun i H2=>t o i v H2 fun H3=>Q σ H3
theorem wZ {o i:Expr}{to ti:TE}{t:wX}(ho:PE X o to) (hi:PE X i ti) (hs:Acn X t)
  (ha:∀ v,assign (.Subscript o i pos) X.env v=(do
   let ov ← holding [v] (eval o X.env)
   let iv ← holding [v,ov] (eval i X.env)
   standAt pos
   holding [v,ov,iv] (setItem ov iv v)
   release [v,ov,iv] []):=by intro _;rfl):PG X (.Subscript o i pos) (Ae3 to ti t):=by
 intro pins s σ H v u Q I r h;rw [ha];refine wpAny_bind (wpAny_holding (thn (ho pins s σ H _ I h) ?_));rintro ov s1 ⟨x,H1,I1,r1,q1⟩;refine wpAny_bind (wpAny_holding (thn (hi pins s1 σ H1 _ I1 q1) ?_));rintro iv s2 ⟨y,H2,I2,r2,q2⟩;refine wpAny_bind (wpAny_standAt (wpAny_bind (wpAny_holding (thn (hs pins s2 σ H2 x y v ov iv u _ I2 r1 r2 r q2) ?_))));rintro _ s3 ⟨H3,I3,q3⟩;exact wpAny_release ⟨σ,H3,I3,q3⟩
noncomputable def xG (te:TE) (g:TG):TS:=fun D σ H=>te σ H fun x H1=>g x σ H1 D.nx
theorem xH {tg e:Expr}{te:TE}{g:TG}(he:PE X e te) (hg:PG X tg g) (hs:swapsWithSole [tg] e pos.line X.env=pure false:=by rfl) (hw:swappedStores [tg] e X.env=pure none:=by rfl)
  (h1:(assignEach [tg] X.env).map (·.2)=[assign tg X.env]:=by rfl):PS X (.Assign [tg] e pos) (xG te g):=by
 intro pins s σ H D I h;refine wpAny_Assign_stores (thn (he pins s σ H _ I h) ?_) hs hw;rintro v s1 ⟨x,H1,I1,r1,q1⟩;rw [h1];exact thn (hg pins s1 σ H1 x v _ I1 r1 q1) fun _ s2 q=>q
noncomputable def Ae4 (i j:Nat) (ta:TA):TS:=fun D σ H=>ta σ H fun vs H1=>∃ v w,vs=[v,w]/\D.nx ((σ.set i (some v)).set j (some w)) H1
theorem xJ {i j:Nat}{x y:Str}{a b:Expr}{ta:TA}{px py pt:Pos}{kt k2 pt2}(hc:X.calm=true) (hN:X.N.Nodup) (hi:X.N[i]?=some x) (hj:X.N[j]?=some y) (hij:i≠j)
  (hx:X.env.scope.names.lookup x=some .local) (hy:X.env.scope.names.lookup y=some .local) (ha:PA X [a,b] ta)
  (hw:swappedStores [.Tuple [.Name x px,.Name y py] kt pt] (.Tuple [a,b] k2 pt2) X.env=pure (some [x,y]))
  (hs:swapsWithSole [.Tuple [.Name x px,.Name y py] kt pt] (.Tuple [a,b] k2 pt2) pos.line X.env=pure false:=by rfl) :
  PS X (.Assign [.Tuple [.Name x px,.Name y py] kt pt] (.Tuple [a,b] k2 pt2) pos) (Ae4 i j ta):=by
 intro pins s σ H D I h;rw [exec_Assign_arm];refine wpAny_bind (wpAny_standAt ?_);rw [hs];refine wpAny_bind (wpAny_pure ?_);rw [if_neg (by decide)];refine wpAny_bind (Tuple_ (thn (ha _ pins s σ H _ I h) ?_));rintro us s1 ⟨vs,H1,I1,r1,q1⟩;obtain ⟨v,w,e1,q1⟩:=q1;subst e1;obtain ⟨u1,u2,rfl,rv,rw'⟩:∃ u1 u2,us=[u1,u2]/\RelV v u1/\RelV w u2:=by
  cases r1 with
  | cons p q =>
   cases q with
   | cons p' q' =>
    cases q';exact ⟨_,_,rfl,p,p'⟩
 refine wpAny_newObj_type ?_ (by show 2<=sizeLine;decide)
 have I2:Inv X pins σ H1 { s1 with heap:=s1.heap.push { cls:=.type "tuple",data:=.seq [u1,u2].toArray } }:=I1.kept (t':=s1.toks) fun b o e=>Heap.get?_push_of_some _ e
 rw [hw];refine wpAny_bind (wpAny_pure ?_)
 show wpAny (model X.prog X.w) X.A (do rule "assign.swapped-stores";let items ← unpackItems (.ref s1.heap.objs.size) 2 none;assignInOrder [fun v=>bindName X.env y v,fun v=>bindName X.env x v] items.reverse;pure Flow.next) _ _ _;refine wpAny_bind (wpAny_rule (wpAny_bind (unpackItems_tuple (items:=#[u1,u2]) (I.ok.hd hc) (IsTup.new s1.heap _) fun h' hx'=>?_)));have I3:=I2.kept (h':=h') (t':=s1.toks) fun b o e=>hx' b o (Nat.ne_of_lt (Heap.lt_size e)) e
 show wpAny _ _ (assignInOrder [fun v=>bindName X.env y v,fun v=>bindName X.env x v] [u2,u1] >>= fun _=>pure Flow.next) _ _ _;refine wpAny_bind (assignInOrder_cons (wpAny_bindName (M5 I3 hN hj (.inl hy) rw' (fun s2 I4=>?_) (.inr hy))));refine assignInOrder_cons (wpAny_bindName (M5 I4 hN hi (.inl hx) rv (fun s3 I5=>assignInOrder_nil (wpAny_pure ?_)) (.inr hx)));rw [List.set_comm _ _ (Ne.symm hij)] at I5;exact ⟨_,H1,I5,q1⟩
end
section
variable {X:Cx}{pos:Pos}
noncomputable def xK (c:TT) (tb:TS):TS:=fun D σ H=>∃ W:Nat->St->Hp->Prop,(∃ m,W m σ H)/\∀ m σ H,W m σ H ->
 c σ H fun b H1=>if b=true then ∃ N:St->Hp->Prop,(∀ σ' H',N σ' H'->∃ m',m' < m/\W m' σ' H')/\tb { D with nx:=N,ct:=N,bk:=D.nx } σ H1 else D.nx σ H1
theorem dF {c:Expr}{body:List Stmt}{tc:TT}{tb:TS}(hp:PassesOwn (model X.prog X.w) X.A X.env X.xe) (hc:PT X c tc) (hb:PSs X body tb):PS X (.While c body [] pos) (xK tc tb):=by
 intro pins s σ H D I h;obtain ⟨W,⟨m0,w0⟩,turn⟩:=h;refine wpAny_While (codeAny_whileLoop (fun n s'=>∃ σ' H',Inv X pins σ' H' s'/\W n σ' H') ?_ m0 ⟨σ,H,I,w0⟩);rintro n s1 ⟨σ1,H1,I1,w1⟩;refine wpAny_passesOwn hp (thn (hc pins s1 σ1 H1 _ I1 (turn n σ1 H1 w1)) ?_);rintro b s2 ⟨H2,I2,q2⟩;cases b with
 | true =>
  obtain ⟨N,hN,q2⟩:=q2;rw [if_pos rfl];refine wpAny_passesOwn hp (thn (hb pins s2 σ1 H2 _ I2 q2) fun f s3 q3=>?_);cases f with
  | next =>
   obtain ⟨σ3,H3,I3,n3⟩:=q3;obtain ⟨m',hm,w3⟩:=hN σ3 H3 n3;exact ⟨m',hm,σ3,H3,I3,w3⟩
  | cont =>
   obtain ⟨σ3,H3,I3,n3⟩:=q3;obtain ⟨m',hm,w3⟩:=hN σ3 H3 n3;exact ⟨m',hm,σ3,H3,I3,w3⟩
  | brk=>exact q3
  | ret v=>exact q3
 | false =>
  rw [if_neg Bool.false_ne_true];exact wpAny_execs_nil ⟨σ1,H2,I2,q2⟩
end
structure It where
 go:Nat->Hp->Prop
 yld:Nat->Hp->V->Hp->Prop
 stop:Nat->Hp->Prop
noncomputable def J3 (X:Cx) (pins:List (Addr×Obj)) (H:Hp) (b:Addr):Prop :=
 H b=none/\b≠X.env.locals/\b ∉ X.fs/\(b∈X.ex\/X.s₀.heap.objs.size<=b)/\(∀ x c,X.env.cells.lookup x=some c->c≠b)/\∀ p∈X.pn++pins,p.1≠b
theorem Inv.fpOk {X:Cx}{pins:List (Addr×Obj)}{σ:St}{H H':Hp}{s:Shared}{b:Addr}(I:Inv X pins σ H s) (hb:s.heap.objs.size<=b) (hn:H' b=none):J3 X pins H' b:=by
 refine ⟨hn,Nat.ne_of_gt (Nat.lt_of_lt_of_le I.lt hb),I.nofs hb,.inr (Nat.le_trans I.sz hb),fun x c e z=>?_,fun p hp z=>?_⟩
 ·obtain ⟨v,q⟩:=I.cell x c e;exact absurd (Nat.lt_of_lt_of_le q.lt (by rw [z];exact hb)) (Nat.lt_irrefl _)
 ·exact absurd (Nat.lt_of_lt_of_le (Heap.lt_size (I.pin p hp).1) (by rw [z];exact hb)) (Nat.lt_irrefl _)
structure Turn (P:Program) (w:World) (K:PySem.W.Frag) (tg:Expr) (J:It) (fp:List Addr) (it:Addr) (tn:Nat->Heap->Prop):Prop where
 mem:it∈fp
 obj:∀ i h,tn i h->∀ b∈fp,∃ o,h.get? b=some o/\∀ v,o.data≠.cell v
 keep:∀ i h h',tn i h->(∀ b∈fp,∀ o,h.get? b=some o->h'.get? b=some o)->tn i h'
 item:∀ (X:Cx),X.prog=P->X.w=w->X.K=K->X.calm=true->∀ (i:Nat) (pins:List (Addr×Obj)) (s:Shared) (σ:St) (H:Hp) (E:Value->Shared->Prop),Inv X pins σ H s->(∀ b∈fp,J3 X pins H b)->tn i s.heap->J.go i H ->
  wpAny (model P w) X.A (pyNext (.ref it)) (fun r s1=>∃ u,r=some u /\
   wpAny (model P w) X.A (letOwnedTupleGo tg (.ref it) u) (fun _ s2=>∃ x H',Inv X pins σ H' s2/\RelV x u/\J.yld i H x H'/\tn (i+1) s2.heap/\∀ b∈fp,H' b=none) E s1) E s
 done:∀ (X:Cx),X.prog=P->X.w=w->X.K=K->X.calm=true->∀ (i:Nat) (pins:List (Addr×Obj)) (s:Shared) (σ:St) (H:Hp) (E:Value->Shared->Prop),Inv X pins σ H s->(∀ b∈fp,J3 X pins H b)->tn i s.heap->J.stop i H ->
  wpAny (model P w) X.A (pyNext (.ref it)) (fun r s1=>r=none/\Inv X pins σ H s1) E s
 self:∀ (A:Around) (i:Nat) (s:Shared) (Q:Value->Shared->Prop) (E:Value->Shared->Prop),tn i s.heap->Q (.ref it) s->wpAny (model P w) A (pyIter (.ref it)) Q E s
noncomputable abbrev TI:=St->Hp->(It->Hp->Prop)->Prop
noncomputable def PIE (X:Cx) (pins:List (Addr×Obj)) (σ:St) (tg:Expr) (R:It->Hp->Prop) (itv:Value) (s2:Shared):Prop :=
 ∃ (it:Addr) (fp:List Addr) (tn:Nat->Heap->Prop) (J:It) (H':Hp),itv=.ref it/\Inv X pins σ H' s2/\Turn X.prog X.w X.K tg J fp it tn/\tn 0 s2.heap/\(∀ b∈fp,J3 X pins H' b)/\R J H'
noncomputable def PI (X:Cx) (tg iter:Expr) (wi:TI):Prop :=
 ∀ (pins:List (Addr×Obj)) (s:Shared) (σ:St) (H:Hp) (R:It->Hp->Prop),Inv X pins σ H s->wi σ H R ->
  wpAny (model X.prog X.w) X.A (eval iter X.env) (fun v s1=>wpAny (model X.prog X.w) X.A (pyIter v) (PIE X pins σ tg R) X.xe s1) X.xe s
theorem Yl {M:Model}{A:Around}{E:Value->Shared->Prop}{s:Shared}{tg:Expr}{it:Addr}{u:Value}{o:Obj}{n:String}{vs:Array Value}{Q:Unit->Shared->Prop}(ho:s.heap.get? it=some o) (hc:o.cls=.type n) (hd:o.data=.fields vs)
    (hn:["enumerate", "zip", "dict_itemiterator", "dict_reverseitemiterator", "odict_iterator", "itertools.zip_longest", "itertools.pairwise"].contains n=false) (hQ:Q () s):wpAny M A (letOwnedTupleGo tg (.ref it) u) Q E s:=by
  unfold letOwnedTupleGo;cases tg <;> first
    | exact wpAny_pure hQ
    | (cases u <;> first
        | exact wpAny_pure hQ
        | (refine wpAny_bind (wpAny_load ho ?_)
           rw [hc,hd]
           show wpAny M A (if (["enumerate", "zip", "dict_itemiterator", "dict_reverseitemiterator", "odict_iterator", "itertools.zip_longest", "itertools.pairwise"].contains n&&vs[0]?==some (rawInt _))=true then _ else _) Q E s;rw [if_neg (by intro h;rw [hn,Bool.false_and] at h;cases h)]
           exact wpAny_pure hQ))
noncomputable def Itl (K:PySem.W.Frag) (a:Addr):It :=
 ⟨fun i H=>∃ xs x,SqL K H a xs/\xs[i]?=some x,fun i H x H'=>H'=H/\∀ xs,SqL K H a xs->xs[i]?=some x,fun i H=>∃ xs,SqL K H a xs/\xs.length<=i⟩
noncomputable def Itt (K:PySem.W.Frag) (a:Addr):It :=
 ⟨fun i H=>∃ xs x,SqT K H a xs/\xs[i]?=some x,fun i H x H'=>H'=H/\∀ xs,SqT K H a xs->xs[i]?=some x,fun i H=>∃ xs,SqT K H a xs/\xs.length<=i⟩
noncomputable def Itr (lo:Int) (n:Nat):It:=⟨fun i _=>i < n,fun i H x H'=>H'=H/\x=.int (lo+i),fun i _=>n<=i⟩
theorem Z3 {P:Program}{w:World}{K:PySem.W.Frag}{tg:Expr}(a it:Addr):Turn P w K tg (Itl K a) [it] it (fun i h=>h.IsListIter it a i) where
 mem:=by simp
 obj:=fun i h st b hb=>by
  have e:b=it:=by simpa using hb
  subst e;obtain ⟨o,e,c,d⟩:=st;exact ⟨o,e,fun v z=>by rw [d] at z;cases z⟩
 keep:=fun i h h' st k=>st.at fun o e=>k it (by simp) o e
 item:=by
  intro X hP hw hK hc i pins s σ H E I hf st hg;subst hP hw hK;obtain ⟨xs,x,hq,hx⟩:=hg;obtain ⟨its,rv,p,hz⟩:=I.list hq;obtain ⟨u,hu,ru⟩:=rv.get hx;obtain ⟨f0,f1,f2,f3,f4,f5⟩:=hf it (by simp);refine wpAny_pyNext_list_item st p.isList (x:=u) (by simpa using hu) fun h' st' sb=>?_
  have I1:Inv X pins σ H { s with heap:=h' }:=I.turned (t':=s.toks) (fun b o hb e=>(sb.2 b hb).trans e) f0 f1 f3 f4 f5;obtain ⟨o,e,c,d⟩:=id st';exact ⟨u,rfl,Yl (s:={ s with heap:=h' }) e c d (by decide) ⟨x,H,I1,ru,⟨rfl,fun ys hy=>by rw [I.list_inj hy hq];exact hx⟩,st',fun b hb=>(hf b hb).1⟩⟩
 done:=by
  intro X hP hw hK hc i pins s σ H E I hf st hg;subst hP hw hK;obtain ⟨xs,hq,hx⟩:=hg;obtain ⟨its,rv,p,hz⟩:=I.list hq;obtain ⟨f0,f1,f2,f3,f4,f5⟩:=hf it (by simp);have hl:=rv.length;exact wpAny_pyNext_list_end (I.ok.hd hc) st p.isList (by simp;omega) fun h' eb=>⟨rfl,I.turned (t':=s.toks) (fun b o hb e=>eb b o hb e) f0 f1 f3 f4 f5⟩
 self:=fun _ _ _ _ _ st h=>wpAny_pyIter_listiter st h
theorem Wr {P:Program}{w:World}{K:PySem.W.Frag}{tg:Expr}(a it:Addr):Turn P w K tg (Itt K a) [it] it (fun i h=>h.IsTupleIter it a i) where
 mem:=by simp
 obj:=fun i h st b hb=>by
  have e:b=it:=by simpa using hb
  subst e;obtain ⟨o,e,c,d⟩:=st;exact ⟨o,e,fun v z=>by rw [d] at z;cases z⟩
 keep:=fun i h h' st k=>st.at fun o e=>k it (by simp) o e
 item:=by
  intro X hP hw hK hc i pins s σ H E I hf st hg;subst hP hw hK;obtain ⟨xs,x,hq,hx⟩:=hg;obtain ⟨its,rv,p,hz⟩:=I.tuple hq;obtain ⟨u,hu,ru⟩:=rv.get hx;obtain ⟨f0,f1,f2,f3,f4,f5⟩:=hf it (by simp);refine wpAny_pyNext_tuple_item st (show s.heap.IsTuple a its.toArray from p) (x:=u) (by simpa using hu) fun h' st' sb=>?_
  have I1:Inv X pins σ H { s with heap:=h' }:=I.turned (t':=s.toks) (fun b o hb e=>(sb.2 b hb).trans e) f0 f1 f3 f4 f5;obtain ⟨o,e,c,d⟩:=id st';exact ⟨u,rfl,Yl (s:={ s with heap:=h' }) e c d (by decide) ⟨x,H,I1,ru,⟨rfl,fun ys hy=>by rw [I.tuple_inj hy hq];exact hx⟩,st',fun b hb=>(hf b hb).1⟩⟩
 done:=by
  intro X hP hw hK hc i pins s σ H E I hf st hg;subst hP hw hK;obtain ⟨xs,hq,hx⟩:=hg;obtain ⟨its,rv,p,hz⟩:=I.tuple hq;obtain ⟨f0,f1,f2,f3,f4,f5⟩:=hf it (by simp);have hl:=rv.length;exact wpAny_pyNext_tuple_end (I.ok.hd hc) st (show s.heap.IsTuple a its.toArray from p) (by simp;omega) fun h' eb=>⟨rfl,I.turned (t':=s.toks) (fun b o hb e=>eb b o hb e) f0 f1 f3 f4 f5⟩
 self:=fun _ _ _ _ _ st h=>wpAny_pyIter_tupleiter st h
theorem Ws {P:Program}{w:World}{K:PySem.W.Frag}{tg:Expr}(it:Addr) (lo:Int) (n:Nat):Turn P w K tg (Itr lo n) [it] it (fun i h=>IsRangeIter h it (lo+(i:Nat) * 1) ((n:Int) - (i:Nat)) 1) where
 mem:=by simp
 obj:=fun i h st b hb=>by
  have e:b=it:=by simpa using hb
  subst e
  exact ⟨_,st,fun v z=>by
   have z':Data.fields _=Data.cell v:=z
   cases z'⟩
 keep:=fun i h h' st k=>k it (by simp) _ st
 item:=by
  intro X hP hw hK hc i pins s σ H E I hf st hg;subst hP hw hK;obtain ⟨f0,f1,f2,f3,f4,f5⟩:=hf it (by simp);have W:=Walks.range (prog:=X.prog) (w:=X.w) (I.ok.hd hc) it lo 1 n;refine W.item i s _ _ hg st fun v h' tk hv st' kk=>?_
  obtain ⟨t,rfl⟩:=hv;have I1:Inv X pins σ H { s with heap:=h',toks:=tk }:=I.turned (fun b o hb e=>kk b o (by simpa using hb) e) f0 f1 f3 f4 f5
  refine ⟨_,rfl,Yl (s:={ s with heap:=h',toks:=tk }) (n := "range_iterator") st' rfl rfl (by decide) ⟨.int (lo+i),H,I1,⟨t,?_⟩,⟨rfl,rfl⟩,st',fun b hb=>(hf b hb).1⟩⟩;rw [Int.mul_one]
 done:=by
  intro X hP hw hK hc i pins s σ H E I hf st hg;subst hP hw hK;obtain ⟨f0,f1,f2,f3,f4,f5⟩:=hf it (by simp);exact wpAny_pyNext_range_end (I.ok.hd hc) st (by have:n<=i:=hg;omega) fun h' eb=>⟨rfl,I.turned (t':=s.toks) (fun b o hb e=>eb b o hb e) f0 f1 f3 f4 f5⟩
 self:=fun _ _ _ _ _ st h=>wpAny_pyIter_rangeiter st h
section
variable {X:Cx}{tg:Expr}
noncomputable def Acp (K:PySem.W.Frag) (tl:TE):TI:=fun σ H R=>tl σ H fun x H1=>∃ a,x=.ref a/\(∃ xs,SqL K H1 a xs)/\R (Itl K a) H1
noncomputable def Ae5 (K:PySem.W.Frag) (tl:TE):TI:=fun σ H R=>tl σ H fun x H1=>∃ a,x=.ref a/\(∃ xs,SqT K H1 a xs)/\R (Itt K a) H1
theorem Ym {l:Expr}{tl:TE}(hl:PE X l tl):PI X tg l (Acp X.K tl):=by
 intro pins s σ H R I h;refine thn (hl pins s σ H _ I h) ?_;rintro v s1 ⟨x,H1,I1,r1,q1⟩;obtain ⟨a,e,⟨xs,hq⟩,q⟩:=q1;subst e;cases r1;obtain ⟨its,rv,p,hz⟩:=I1.list hq;refine wpAny_pyIter_list p.isList ?_;refine ⟨s1.heap.objs.size,[s1.heap.objs.size],_,_,H1,rfl,I1.kept (t':=s1.toks) fun b o e=>Heap.get?_push_of_some _ e,Z3 a _,⟨_,Heap.get?_push_size _ rfl,rfl,rfl⟩,fun b hb=>?_,q⟩;have e:b=s1.heap.objs.size:=by simpa using hb
 subst e;exact I1.fpOk (Nat.le_refl _) (I1.hok.fresh (Nat.le_refl _))
theorem xM {l:Expr}{tl:TE}(hl:PE X l tl):PI X tg l (Ae5 X.K tl):=by
 intro pins s σ H R I h;refine thn (hl pins s σ H _ I h) ?_;rintro v s1 ⟨x,H1,I1,r1,q1⟩;obtain ⟨a,e,⟨xs,hq⟩,q⟩:=q1;subst e;cases r1;obtain ⟨its,rv,p,hz⟩:=I1.tuple hq;refine wpAny_pyIter_tuple (show s1.heap.IsTuple a its.toArray from p) ?_;refine ⟨s1.heap.objs.size,[s1.heap.objs.size],_,_,H1,rfl,I1.kept (t':=s1.toks) fun b o e=>Heap.get?_push_of_some _ e,Wr a _,⟨_,Heap.get?_push_size _ rfl,rfl,rfl⟩,fun b hb=>?_,q⟩;have e:b=s1.heap.objs.size:=by simpa using hb
 subst e;exact I1.fpOk (Nat.le_refl _) (I1.hok.fresh (Nat.le_refl _))
theorem dG {pins:List (Addr×Obj)}{σ:St}{H:Hp}{s:Shared}{R:It->Hp->Prop}{E:Value->Shared->Prop}{lo hi:Int}{t u v:Tok}{tk:Nat}(I:Inv X pins σ H s) (h1:-(2 ^ 62)<=lo) (h2:lo < 2 ^ 62) (h3:-(2 ^ 62)<=hi) (h4:hi < 2 ^ 62)
  (q:R (Itr lo (hi - lo).toNat) H):wpAny (model X.prog X.w) X.A (pyIter (.ref s.heap.objs.size)) (PIE X pins σ tg R) E { s with heap:=s.heap.push { cls:=.type "range",data:=.fields #[.int lo t,.int hi u,.int 1 v] },toks:=tk }:=by
 refine wpAny_pyIter_range (IsRange.new ..) (small_one h1 h2 h3 h4) ?_
 have I1:Inv X pins σ H { s with heap:=s.heap.push { cls:=.type "range",data:=.fields #[.int lo t,.int hi u,.int 1 v] },toks:=tk }:=I.kept fun b o e=>Heap.get?_push_of_some _ e
 refine ⟨(s.heap.push { cls:=.type "range",data:=.fields #[.int lo t,.int hi u,.int 1 v] }).objs.size,[(s.heap.push { cls:=.type "range",data:=.fields #[.int lo t,.int hi u,.int 1 v] }).objs.size],_,_,H,rfl,
  I1.kept (t':=tk) fun b o e=>Heap.get?_push_of_some _ e,Ws _ lo (hi - lo).toNat,?_,fun b hb=>?_,q⟩
 ·have e1:lo+((0:Nat):Int) * 1=lo:=by simp
  have e2:(((hi - lo).toNat:Nat):Int) - ((0:Nat):Int)=Builtin.Range.rangeSize lo hi 1:=by rw [rangeSize_one];split <;> omega
  show IsRangeIter _ _ (lo+((0:Nat):Int) * 1) ((((hi - lo).toNat:Nat):Int) - ((0:Nat):Int)) 1;rw [e1,e2];exact Heap.get?_push_size _ rfl
 ·have e:b=(s.heap.push { cls:=.type "range",data:=.fields #[.int lo t,.int hi u,.int 1 v] }).objs.size:=by simpa using hb
  subst e;exact I1.fpOk (Nat.le_refl _) (I1.hok.fresh (Nat.le_refl _))
noncomputable def Acq (ta:TA):TI:=fun σ H R=>ta σ H fun vs H1=>∃ j:Int,vs=[.int j]/\-(2 ^ 62)<=j/\j < 2 ^ 62/\R (Itr 0 j.toNat) H1
theorem Z4 {a:Expr}{ta:TA}{p pos:Pos}(hg:Gl X "range") (hm:X.mg "range"=none) (ha:PA X [a] ta) (hs:starEach [a] X.env=[(false,eval a X.env)]:=by rfl):PI X tg (.Call (.Name "range" p) [a] [] pos) (Acq ta):=by
 intro pins s σ H R I h;refine Call_ (Kv I hg hm boot_range (PyProof.Rows.callWith_type1 (thn (ha pos pins s σ H _ I h) ?_) hs rfl));rintro us s1 ⟨vs,H1,I1,r1,q1⟩;obtain ⟨j,e,q1,q2,q⟩:=q1;subst e;cases r1 with
 | cons r rr =>
  cases rr;obtain ⟨t,rfl⟩:=r;exact call_range_1 (dG I1 (by omega) (by omega) q1 q2 (by simpa using q))
noncomputable def Ae6 (wi:TI) (g:TG) (tb:TS):TS:=fun D σ H=>wi σ H fun J H1=>∃ W:Nat->Nat->St->Hp->Prop,(∃ m,W 0 m σ H1)/\∀ i m σ H,W i m σ H ->
 (J.stop i H/\D.nx σ H)\/(J.go i H/\∃ N:St->Hp->Prop,(∀ σ' H',N σ' H'->∃ m',m' < m/\W (i+1) m' σ' H')/\∀ x H',J.yld i H x H'->g x σ H' fun σ2 H2=>tb { D with nx:=N,ct:=N,bk:=D.nx } σ2 H2)
noncomputable def Jo (fp:List Addr) (h:Heap):List (Addr×Obj):=fp.filterMap fun b=>(h.get? b).map fun o=>(b,o)
theorem G4 {fp:List Addr}{h:Heap}{b:Addr}{o:Obj}(hb:b∈fp) (e:h.get? b=some o):(b,o)∈Jo fp h:=List.mem_filterMap.mpr ⟨b,hb,by rw [e];rfl⟩
theorem Px {fp:List Addr}{h:Heap}{p:Addr×Obj}(hp:p∈Jo fp h):p.1∈fp/\h.get? p.1=some p.2:=by
 obtain ⟨b,hb,e⟩:=List.mem_filterMap.mp hp;cases q:h.get? b with
 | none=>rw [q] at e;cases e
 | some o =>
  rw [q] at e;have e':(b,o)=p:=Option.some.inj e;subst e';exact ⟨hb,q⟩
theorem Inv.pinned {pins:List (Addr×Obj)}{σ:St}{H:Hp}{s:Shared}{fp:List Addr}(I:Inv X pins σ H s) (hf:∀ b∈fp,J3 X pins H b) (ho:∀ b∈fp,∃ o,s.heap.get? b=some o/\∀ v,o.data≠.cell v):Inv X (pins++Jo fp s.heap) σ H s :=
 I.pins_of fun p hp=>(List.mem_append.mp hp).elim (fun z=>I.pin p (List.mem_append_right _ z)) fun z=>by
  obtain ⟨hb,e⟩:=Px z;obtain ⟨f0,f1,f2,_⟩:=hf p.1 hb;obtain ⟨o,e',d⟩:=ho p.1 hb;rw [e] at e';cases e';exact ⟨e,f0,f1,f2,d⟩
theorem Inv.unpinned {pins pl:List (Addr×Obj)}{σ:St}{H:Hp}{s:Shared}(I:Inv X (pins++pl) σ H s):Inv X pins σ H s:=I.pins_of fun p hp=>I.pin p (List.mem_append_right _ (List.mem_append_left _ hp))
theorem xN {iter:Expr}{body:List Stmt}{wi:TI}{g:TG}{tb:TS}{pos:Pos}(hp:PassesOwn (model X.prog X.w) X.A X.env X.xe) (hc:X.calm=true) (hi:PI X tg iter wi) (hg:PG X tg g) (hb:PSs X body tb)
  (hs:∀ x,foldedSetIterable iter X.env x=pure x:=by intro _;rfl):PS X (.For tg iter body [] pos) (Ae6 wi g tb):=by
 intro pins s σ H D I h;refine wpAny_For (thn (hi pins s σ H _ I h) fun v s1 h1=>thn h1 fun itv s2 h2=>?_) hs;obtain ⟨it,fp,tn,J,H2,e,I2,T,st2,f2,W,⟨m0,w0⟩,turn⟩:=h2;subst e
 -- what stays true of the iterator's objects through the loop
 have stat:∀ {H':Hp},(∀ b∈fp,H' b=none)->∀ b∈fp,J3 X pins H' b:=fun hn b hb=>⟨hn b hb,(f2 b hb).2⟩
 refine codeAny_forLoop_any (fun n s'=>∃ i σ' H',Inv X pins σ' H' s'/\tn i s'.heap/\(∀ b∈fp,H' b=none)/\W i n σ' H') ?_ m0 ⟨0,σ,H2,I2,st2,fun b hb=>(f2 b hb).1,w0⟩;rintro n s3 ⟨i,σ3,H3,I3,st3,fr3,w3⟩;rcases turn i n σ3 H3 w3 with ⟨stop,qn⟩|⟨go,N,hN,step⟩
 ·refine wpAny_passesOwn hp (thn (T.done X rfl rfl rfl hc i pins s3 σ3 H3 X.xe I3 (stat fr3) st3 stop) ?_);rintro r s4 ⟨hr,I4⟩;subst hr;exact wpAny_execs_nil ⟨σ3,H3,I4,qn⟩
 ·refine wpAny_passesOwn hp (thn (T.item X rfl rfl rfl hc i pins s3 σ3 H3 X.xe I3 (stat fr3) st3 go) ?_);rintro r s4 ⟨u,hr,h4⟩;subst hr;refine wpAny_passesOwn hp (thn h4 ?_);rintro _ s5 ⟨x,H5,I5,r5,y5,st5,fr5⟩;have I5':=I5.pinned (stat fr5) (T.obj _ _ st5);refine wpAny_passesOwn hp (thn (hg _ s5 σ3 H5 x u _ I5' r5 (step x H5 y5)) ?_);rintro _ s6 ⟨σ6,H6,I6,q6⟩;refine wpAny_passesOwn hp (thn (hb _ s6 σ6 H6 _ I6 q6) fun f s7 q7=>?_);have again:∀ {σ7:St} {H7:Hp},Inv X (pins++Jo fp s5.heap) σ7 H7 s7->N σ7 H7->∃ m,m < n/\∃ i σ' H',Inv X pins σ' H' s7/\tn i s7.heap/\(∀ b∈fp,H' b=none)/\W i m σ' H':=fun {σ7 H7} I7 n7=>by
   obtain ⟨m',hm,w7⟩:=hN σ7 H7 n7;refine ⟨m',hm,i+1,σ7,H7,I7.unpinned,T.keep _ _ _ st5 fun b hb o e=>(I7.pin (b,o) (List.mem_append_right _ (List.mem_append_right _ (G4 hb e)))).1,fun b hb=>?_,w7⟩;obtain ⟨o,e,d⟩:=T.obj _ _ st5 b hb;exact (I7.pin (b,o) (List.mem_append_right _ (List.mem_append_right _ (G4 hb e)))).2.1
  cases f with
  | next=>obtain ⟨σ7,H7,I7,n7⟩:=q7;exact again I7 n7
  | cont=>obtain ⟨σ7,H7,I7,n7⟩:=q7;exact again I7 n7
  | brk=>obtain ⟨σ7,H7,I7,q7⟩:=q7;exact ⟨σ7,H7,I7.unpinned,q7⟩
  | ret v=>obtain ⟨x7,σ7,H7,I7,r7,q7⟩:=q7;exact ⟨x7,σ7,H7,I7.unpinned,r7,q7⟩
end
noncomputable abbrev R2:=V->V->Hp->VK->Prop
noncomputable def OpR (X:Cx) (f:Value->Value->Sem Value) (r:R2):Prop :=
 ∀ (pins:List (Addr×Obj)) (s:Shared) (σ:St) (H:Hp) (x y:V) (v u:Value) (Q:VK),Inv X pins σ H s->RelV x v->RelV y u->r x y H Q ->
  wpAny (model X.prog X.w) X.A (f v u) (EP X pins σ Q) X.xe s
noncomputable def UnR (X:Cx) (f:Value->Sem Value) (r:V->Hp->VK->Prop):Prop :=
 ∀ (pins:List (Addr×Obj)) (s:Shared) (σ:St) (H:Hp) (x:V) (v:Value) (Q:VK),Inv X pins σ H s->RelV x v->r x H Q ->
  wpAny (model X.prog X.w) X.A (f v) (EP X pins σ Q) X.xe s
noncomputable def Bg (X:Cx) (f:Value) (r:List V->Hp->VK->Prop):Prop :=
 ∀ (pins:List (Addr×Obj)) (s:Shared) (σ:St) (H:Hp) (xs:List V) (us:List Value) (Q:VK),Inv X pins σ H s->Vals xs us->r xs H Q ->
  wpAny (model X.prog X.w) X.A (call f us) (EP X pins σ Q) X.xe s
noncomputable def Ae7 (X:Cx) (r:V->Hp->(Bool->Hp->Prop)->Prop):Prop :=
 ∀ (pins:List (Addr×Obj)) (s:Shared) (σ:St) (H:Hp) (x:V) (v:Value) (Q:Bool->Hp->Prop),Inv X pins σ H s->RelV x v->r x H Q ->
  wpAny (model X.prog X.w) X.A (truthy v) (TP X pins σ Q) X.xe s
noncomputable def tOp (r:R2) (ta tb:TE):TE:=fun σ H Q=>ta σ H fun x H1=>tb σ H1 fun y H2=>r x y H2 Q
noncomputable def tUn (r:V->Hp->VK->Prop) (ta:TE):TE:=fun σ H Q=>ta σ H fun x H1=>r x H1 Q
noncomputable def rI (C:Int->Int->Prop) (g:Int->Int->V):R2:=fun x y H Q=>∃ i j,x=.int i/\y=.int j/\C i j/\Q (g i j) H
noncomputable def rI0 (g:Int->Int->V):R2:=fun x y H Q=>∃ i j,x=.int i/\y=.int j/\Q (g i j) H
noncomputable def rU (g:Int->V):V->Hp->VK->Prop:=fun x H Q=>∃ i,x=.int i/\Q (g i) H
section
variable {X:Cx}{a b c:Expr}{ta tb tc:TE}{pos:Pos}
theorem xO (ha:PE X a ta) (hb:PE X b tb) {pins:List (Addr×Obj)}{s:Shared}{σ:St}{H:Hp}{R:V->V->Hp->Prop}(I:Inv X pins σ H s)
  (h:ta σ H fun x H1=>tb σ H1 fun y H2=>R x y H2) {Q:Value->Shared->Prop} {f:Value->Value->Sem Value}
  (hf:∀ v u s2 x y H2,Inv X pins σ H2 s2->RelV x v->RelV y u->R x y H2->wpAny (model X.prog X.w) X.A (f v u) Q X.xe s2) :
  wpAny (model X.prog X.w) X.A (eval a X.env) (fun v s₁=>wpAny (model X.prog X.w) X.A (eval b X.env) (fun u s₂=>wpAny (model X.prog X.w) X.A (f v u) Q X.xe s₂) X.xe s₁) X.xe s:=by
 refine thn (ha pins s σ H _ I h) ?_;rintro v s1 ⟨x,H1,I1,r1,q1⟩;refine thn (hb pins s1 σ H1 _ I1 q1) ?_;rintro u s2 ⟨y,H2,I2,r2,q2⟩;exact hf v u s2 x y H2 I2 r1 r2 q2
theorem Acr {op:Operator}{r:R2}(ho:OpR X (binaryOp op) r) (ha:PE X a ta) (hb:PE X b tb):PE X (.BinOp a op b pos) (tOp r ta tb):=by
 intro pins s σ H Q I h;exact wpAny_BinOp (xO ha hb I h fun v u s2 x y H2 I2 rx ry q=>ho pins s2 σ H2 x y v u Q I2 rx ry q)
theorem Acs {op:UnaryOp}{r:V->Hp->VK->Prop}(ho:UnR X (unaryOp op) r) (ha:PE X a ta):PE X (.UnaryOp op a pos) (tUn r ta):=by
 intro pins s σ H Q I h;refine UnaryOp_ (thn (ha pins s σ H _ I h) ?_);rintro v s1 ⟨x,H1,I1,r1,q1⟩;exact ho pins s1 σ H1 x v Q I1 r1 q1
theorem opI {f:Value->Value->Sem Value}{C:Int->Int->Prop}{g:Int->Int->Int}
  (rule:∀ (i j:Int) (t u:Tok) (s:Shared) (Q:Value->Shared->Prop) (E:Value->Shared->Prop),C i j->Q (.int (g i j) s.toks) { s with toks:=s.toks+1 }->wpAny (model X.prog X.w) X.A (f (.int i t) (.int j u)) Q E s) :
  OpR X f (rI C fun i j=>.int (g i j)):=by
 intro pins s σ H x y v u Q I rx ry h;obtain ⟨i,j,rfl,rfl,hc,q⟩:=h;obtain ⟨t,rfl⟩:=rx;obtain ⟨t',rfl⟩:=ry;exact rule i j t t' s _ _ hc ⟨.int (g i j),H,I.tok _,⟨_,rfl⟩,q⟩
theorem xP {f:Value->Value->Sem Value}{g:Int->Int->Int}
  (rule:∀ (i j:Int) (t u:Tok) (s:Shared) (Q:Value->Shared->Prop) (E:Value->Shared->Prop),Q (.int (g i j) s.toks) { s with toks:=s.toks+1 }->wpAny (model X.prog X.w) X.A (f (.int i t) (.int j u)) Q E s) :
  OpR X f (rI0 fun i j=>.int (g i j)):=by
 intro pins s σ H x y v u Q I rx ry h;obtain ⟨i,j,rfl,rfl,q⟩:=h;obtain ⟨t,rfl⟩:=rx;obtain ⟨t',rfl⟩:=ry;exact rule i j t t' s _ _ ⟨.int (g i j),H,I.tok _,⟨_,rfl⟩,q⟩
theorem pP {f:Value->Value->Sem Value}{g:Int->Int->Bool}
  (rule:∀ (i j:Int) (t u:Tok) (s:Shared) (Q:Value->Shared->Prop) (E:Value->Shared->Prop),Q (.bool (g i j)) s->wpAny (model X.prog X.w) X.A (f (.int i t) (.int j u)) Q E s) :
  OpR X f (rI0 fun i j=>.bl (g i j)):=by
 intro pins s σ H x y v u Q I rx ry h;obtain ⟨i,j,rfl,rfl,q⟩:=h;obtain ⟨t,rfl⟩:=rx;obtain ⟨t',rfl⟩:=ry;exact rule i j t t' s _ _ ⟨.bl (g i j),H,I,rfl,q⟩
noncomputable def Acu (i j:Int):Prop:=0<=j/\j<=1000000/\i.natAbs < 2 ^ 64
noncomputable def xQ (i j:Int):Prop:=(-(2 ^ 64) < i/\i < 2 ^ 64)\/(-(2 ^ 64) < j/\j < 2 ^ 64)
theorem xQ.ok {i j:Int}(h:xQ i j):IntMulOk i j:=by
 rcases h with ⟨h1,h2⟩|⟨h1,h2⟩
 ·exact .of_left (intBits_le_64 h1 h2)
 ·exact .of_right (intBits_le_64 h1 h2)
theorem Wt (k:Nat):(0:Int)<=2 ^ k:=by
 rw [two_pow_cast];exact Int.natCast_nonneg _
theorem xR:OpR X (binaryOp .Add) (rI0 fun i j=>.int (i+j)):=xP fun _ _ _ _ _ _ _ q=>add_int q
theorem xT:OpR X (binaryOp .Sub) (rI0 fun i j=>.int (i - j)):=xP fun _ _ _ _ _ _ _ q=>sub_int q
theorem xU:OpR X (binaryOp .Mult) (rI xQ fun i j=>.int (i * j)):=opI fun _ _ _ _ _ _ _ hc q=>mul_int q hc.ok
theorem pQ:OpR X (binaryOp .Mod) (rI (fun _ j=>j≠0) fun i j=>.int (i.fmod j)):=opI fun _ _ _ _ _ _ _ hc q=>mod_int' hc q
theorem xV:OpR X (binaryOp .Pow) (rI Acu fun i j=>.int (i ^ j.toNat)):=opI fun _ _ _ _ _ _ _ hc q=>pow_int_small hc.1 hc.2.1 hc.2.2 q
theorem xW:OpR X (binaryOp .LShift) (rI Acu fun i j=>.int (i * 2 ^ j.toNat)):=opI fun _ _ _ _ _ _ _ hc q=>lshift_int_small hc.1 hc.2.1 hc.2.2 q
theorem xX:OpR X (binaryOp .RShift) (rI (fun _ j=>0<=j) fun i j=>.int (i / 2 ^ j.toNat)):=opI fun i j _ _ _ _ _ hc q =>
 rshift_int hc (by rw [Int.fdiv_eq_ediv_of_nonneg i (Wt _)];exact q)
theorem xY:OpR X (binaryOp .BitAnd) (rI0 fun i j=>.int (Builtin.bitAnd i j)):=xP fun _ _ _ _ _ _ _ q=>and_int q
theorem unI {f:Value->Sem Value}{g:Int->Int}
  (rule:∀ (i:Int) (t:Tok) (s:Shared) (Q:Value->Shared->Prop) (E:Value->Shared->Prop),Q (.int (g i) s.toks) { s with toks:=s.toks+1 }->wpAny (model X.prog X.w) X.A (f (.int i t)) Q E s) :
  UnR X f (rU fun i=>.int (g i)):=by
 intro pins s σ H x v Q I rx h;obtain ⟨i,rfl,q⟩:=h;obtain ⟨t,rfl⟩:=rx;exact rule i t s _ _ ⟨.int (g i),H,I.tok _,⟨_,rfl⟩,q⟩
theorem xZ:UnR X (unaryOp .USub) (rU fun i=>.int (-i)):=unI fun _ _ _ _ _ q=>neg_int q
end
section
variable {X:Cx}{a b c:Expr}{ta tb tc:TE}{pos:Pos}
theorem Acv:OpR X (compareOp .Lt) (rI0 fun i j=>.bl (decide (i < j))):=pP fun _ _ _ _ _ _ _ q=>lt_int q
theorem Acw:OpR X (compareOp .LtE) (rI0 fun i j=>.bl (decide (i<=j))):=pP fun _ _ _ _ _ _ _ q=>le_int q
theorem Acx:OpR X (compareOp .Gt) (rI0 fun i j=>.bl (decide (j < i))):=pP fun _ _ _ _ _ _ _ q=>gt_int q
theorem Acy:OpR X (compareOp .GtE) (rI0 fun i j=>.bl (decide (j<=i))):=pP fun _ _ _ _ _ _ _ q=>ge_int q
theorem OpR.or {f:Value->Value->Sem Value}{r r':R2}(h:OpR X f r) (h':OpR X f r'):OpR X f (fun x y H Q=>r x y H Q\/r' x y H Q):=by
 intro pins s σ H x y v u Q I rx ry q;rcases q with q|q
 ·exact h pins s σ H x y v u Q I rx ry q
 ·exact h' pins s σ H x y v u Q I rx ry q
theorem Rc {op:CmpOp}{r:R2}(ho:OpR X (compareOp op) r) (ha:PE X a ta) (hb:PE X b tb) (hm:behindInMarks op b=false):PE X (.Compare a [op] [b] pos) (tOp r ta tb):=by
 intro pins s σ H Q I h;exact wpAny_Compare1 (xO ha hb I h fun v u s2 x y H2 I2 rx ry q=>ho pins s2 σ H2 x y v u Q I2 rx ry q) hm
noncomputable def dH (t:TE):TT:=fun σ H Q=>t σ H fun x H'=>∃ k,x=.bl k/\Q k H'
theorem Rf {op:CmpOp}{r:R2}(ho:OpR X (compareOp op) r) (ha:PE X a ta) (hb:PE X b tb) (hm:behindInMarks op b=false):PT X (.Compare a [op] [b] pos) (dH (tOp r ta tb)):=by
 intro pins s σ H Q I h
 refine wpAny_isTrue_Compare1 (thn (ha pins s σ H _ I h) fun v s1 ⟨x,H1,I1,r1,q1⟩=>thn (hb pins s1 σ H1 _ I1 q1) fun u s2 ⟨y,H2,I2,r2,q2⟩ =>
  thn (ho pins s2 σ H2 x y v u _ I2 r1 r2 q2) fun c s3 ⟨z,H3,I3,r3,k,e,q3⟩=>?_) hm
 subst e;cases r3;exact wpAny_truthy_bool ⟨H3,I3,q3⟩
noncomputable def Wu (r r':R2) (ta tb tc:TE):TE:=fun σ H Q=>ta σ H fun x H1=>tb σ H1 fun y H2=>r x y H2 fun z H3=>∃ k,z=.bl k /\
 (if k=true then tc σ H3 fun w' H4=>r' y w' H4 Q else Q (.bl false) H3)
theorem dI {op op':CmpOp}{r r':R2}(ho:OpR X (compareOp op) r) (ho':OpR X (compareOp op') r') (ha:PE X a ta) (hb:PE X b tb) (hc:PE X c tc)
  (hm:lastMarks [op,op'] [b,c]=false:=by with_unfolding_all rfl):PE X (.Compare a [op,op'] [b,c] pos) (Wu r r' ta tb tc):=by
 intro pins s σ H Q I h
 refine Compare_chain (thn (ha pins s σ H _ I h) fun v s1 ⟨x,H1,I1,r1,q1⟩=>chain_link (thn (hb pins s1 σ H1 _ I1 q1) fun u s2 ⟨y,H2,I2,r2,q2⟩ =>
  thn (ho pins s2 σ H2 x y v u _ I2 r1 r2 q2) fun d s3 ⟨z,H3,I3,r3,k,e,q3⟩=>?_)) hm
 subst e;cases r3;refine wpAny_truthy_bool ?_;cases k with
 | false=>exact ite_ff ⟨.bl false,H3,I3,rfl,q3⟩
 | true=>exact ite_tt (chain_last (thn (hc pins s3 σ H3 _ I3 q3) fun w' s4 ⟨z',H4,I4,r4,q4⟩=>ho' pins s4 σ H4 y z' u w' Q I4 r2 r4 q4))
theorem dJ {op op':CmpOp}{r r':R2}(ho:OpR X (compareOp op) r) (ho':OpR X (compareOp op') r') (ha:PE X a ta) (hb:PE X b tb) (hc:PE X c tc)
  (hm:lastMarks [op,op'] [b,c]=false:=by with_unfolding_all rfl):PT X (.Compare a [op,op'] [b,c] pos) (dH (Wu r r' ta tb tc)):=by
 intro pins s σ H Q I h
 refine isTrue_chain (thn (ha pins s σ H _ I h) fun v s1 ⟨x,H1,I1,r1,q1⟩=>test_link (thn (hb pins s1 σ H1 _ I1 q1) fun u s2 ⟨y,H2,I2,r2,q2⟩ =>
  thn (ho pins s2 σ H2 x y v u _ I2 r1 r2 q2) fun d s3 ⟨z,H3,I3,r3,k,e,q3⟩=>?_)) hm
 subst e;cases r3;refine wpAny_truthy_bool ?_;cases k with
 | false =>
  obtain ⟨k',e',q'⟩:=q3;cases e';exact ite_ff ⟨H3,I3,q'⟩
 | true =>
  refine ite_tt (test_last (thn (hc pins s3 σ H3 _ I3 q3) ?_));rintro w' s4 ⟨z',H4,I4,r4,q4⟩;refine thn (ho' pins s4 σ H4 y z' u w' _ I4 r2 r4 q4) ?_;rintro d' s5 ⟨z2,H5,I5,r5,k2,e2,q5⟩;subst e2;cases r5;exact wpAny_truthy_bool ⟨H5,I5,q5⟩
noncomputable def yC (K:PySem.W.Frag) (x:V) (H:Hp) (k:Bool):Prop :=
 match x with
 | .non=>k=false
 | .bl b=>k=b
 | .int i=>k=(i != 0)
 | .str y=>y.length<=sizeLine/\k=((y.length:Int) != 0)
 | .byt y=>y.size<=sizeLine/\k=((y.size:Int) != 0)
 | .ref p=>(∃ xs,SqL K H p xs/\k=!xs.isEmpty)\/(∃ xs,SqT K H p xs/\k=!xs.isEmpty)\/∃ kvs,H p=some (.dK kvs)/\k=!kvs.isEmpty
 | _=>False
theorem Wv {κ:Type}{kvs:List (κ×V)}{vs:List (κ×Value)}(r:KV kvs vs):(!vs.isEmpty)=!kvs.isEmpty:=by
 cases r <;> rfl
theorem M6 {xs:List V}{its:List Value}(r:Vals xs its):(!its.toArray.isEmpty)=!xs.isEmpty:=by
 cases r <;> simp
theorem Jp:(sizeLine:Nat) < 2 ^ 63:=by rw [sizeLine_eq];decide
theorem yD:Ae7 X (fun x H Q=>∃ k,yC X.K x H k/\Q k H):=by
 intro pins s σ H x v Q I rx h;obtain ⟨k,e,q⟩:=h;have hl:=Jp;have hs:sizeLine=16777216:=sizeLine_eq;cases x with
 | non =>
  cases rx;have e':k=false:=e;subst e';exact truthy_none ⟨H,I,q⟩
 | bl b =>
  cases rx;have e':k=b:=e;subst e';exact wpAny_truthy_bool ⟨H,I,q⟩
 | int i =>
  obtain ⟨t,rfl⟩:=rx;have e':k=(i != 0):=e;subst e';exact PySem.P.truthy_int ⟨H,I,q⟩
 | str y =>
  obtain ⟨t,rfl⟩:=rx;obtain ⟨hy,e'⟩:y.length<=sizeLine/\k=((y.length:Int) != 0):=e;subst e';exact PySem.P.truthy_str (by omega) ⟨H,I.tok _,q⟩
 | byt y =>
  obtain ⟨t,rfl⟩:=rx;obtain ⟨hy,e'⟩:y.size<=sizeLine/\k=((y.size:Int) != 0):=e;subst e';exact PySem.W.truthy_bytes (by omega) ⟨H,I.tok _,q⟩
 | ref p =>
  cases rx;have e':(∃ xs,SqL X.K H p xs/\k=!xs.isEmpty)\/(∃ xs,SqT X.K H p xs/\k=!xs.isEmpty)\/∃ kvs,H p=some (.dK kvs)/\k=!kvs.isEmpty:=e;rcases e' with ⟨xs,hx,e'⟩|⟨xs,hx,e'⟩|⟨kvs,hx,e'⟩
  ·subst e';obtain ⟨its,r,pl,hz⟩:=I.list hx;have hlen:=r.length;exact wpAny_truthy_list pl.isList (by simp only [List.size_toArray];omega) ⟨H,I.tok _,by rw [M6 r];exact q⟩
  ·subst e';obtain ⟨its,r,pl,hz⟩:=I.tuple hx;have hlen:=r.length;exact truthy_tuple pl (by simp only [List.size_toArray];omega) ⟨H,I.tok _,by rw [M6 r];exact q⟩
  ·subst e';obtain ⟨hz,hS,vs,r,m⟩:kvs.length<=sizeLine/\(p==sysModules)=false/\∃ vs,KV kvs vs/\s.heap.DictOf (Bm X.prog X.w) p vs:=I.hok p _ hx;have hlen:kvs.length=vs.length:=Paired.length r;exact wpAny_truthy_dict hS m (by omega) ⟨H,I.tok _,by rw [Wv r];exact q⟩
 | _=>exact (show False from e).elim
theorem dM (ha:PE X a ta) (he:∀ whole,isTrue a X.env whole=(do let v ← whole;standAt a.pos;holding [v] (truthy v))) :
  PT X a (fun σ H Q=>ta σ H fun x H'=>∃ k,yC X.K x H' k/\Q k H'):=by
 intro pins s σ H Q I h;exact isTrue_plain (thn (ha pins s σ H _ I h) fun v s1 ⟨x,H1,I1,r1,q1⟩=>yD pins s1 σ H1 x v Q I1 r1 q1) (he _)
theorem Ww:OpR X (binaryOp .Add) (fun x y H Q=>∃ i j,x=.str i/\y=.str j/\i.length+j.length<=sizeLine/\Q (.str (i++j)) H):=by
 intro pins s σ H x y v u Q I rx ry h;obtain ⟨i,j,rfl,rfl,hz,q⟩:=h;obtain ⟨t,rfl⟩:=rx;obtain ⟨t',rfl⟩:=ry;exact add_str (fun t' tk=>⟨.str (i++j),H,I.tok _,⟨_,rfl⟩,q⟩) hz
theorem vals1 {x:V}{us:List Value}(r:Vals [x] us):∃ u,us=[u]/\RelV x u:=by
 cases r with
 | cons r1 r2=>cases r2;exact ⟨_,rfl,r1⟩
theorem vals2 {x y:V}{us:List Value}(r:Vals [x,y] us):∃ u w',us=[u,w']/\RelV x u/\RelV y w':=by
 cases r with
 | cons r1 r2 =>
  cases r2 with
  | cons r3 r4=>cases r4;exact ⟨_,_,rfl,r1,r3⟩
theorem Z5 (hc:X.calm=true):Bg X (.builtin "max") (fun xs H Q=>∃ i j,xs=[.int i,.int j]/\Q (.int (if j > i then j else i)) H):=by
 intro pins s σ H xs us Q I r h;obtain ⟨i,j,rfl,q⟩:=h;obtain ⟨u,w',rfl,⟨t,rfl⟩,⟨t',rfl⟩⟩:=vals2 r;refine max_two_ints (I.ok.hd hc) fun h' tk k=>⟨_,H,I.kept k,?_,q⟩
 by_cases hj:j > i
 ·rw [if_pos hj,if_pos hj];exact ⟨_,rfl⟩
 ·rw [if_neg hj,if_neg hj];exact ⟨_,rfl⟩
theorem Z6 (hc:X.calm=true):Bg X (.builtin "min") (fun xs H Q=>∃ i j,xs=[.int i,.int j]/\Q (.int (if j < i then j else i)) H):=by
 intro pins s σ H xs us Q I r h;obtain ⟨i,j,rfl,q⟩:=h;obtain ⟨u,w',rfl,⟨t,rfl⟩,⟨t',rfl⟩⟩:=vals2 r;refine min_two_ints (I.ok.hd hc) fun h' tk k=>⟨_,H,I.kept k,?_,q⟩
 by_cases hj:j < i
 ·rw [if_pos hj,if_pos hj];exact ⟨_,rfl⟩
 ·rw [if_neg hj,if_neg hj];exact ⟨_,rfl⟩
theorem Py:Bg X (.type "int") (fun xs H Q=>(∃ i,xs=[.int i]/\Q (.int i) H)\/∃ k,xs=[.bl k]/\Q (.int (if k then 1 else 0)) H):=by
 intro pins s σ H xs us Q I r h;rcases h with ⟨i,rfl,q⟩|⟨k,rfl,q⟩
 ·obtain ⟨u,rfl,t,rfl⟩:=vals1 r;exact call_int_int ⟨.int i,H,I,⟨_,rfl⟩,q⟩
 ·obtain ⟨u,rfl,r1⟩:=vals1 r;cases r1;exact call_int_bool ⟨.int (if k then 1 else 0),H,I.tok _,⟨_,rfl⟩,q⟩
end
section
variable {prog:Program}{w:World}{A:Around}{E:Value->Shared->Prop}{s:Shared}{K:PySem.W.Frag}{x dx C f:Addr}{mA:Str->Option Value}{name:Str}{v:Value}
end
theorem Q9.some_of {v:V}{o:Option Value}(r:Q9 (some v) o):∃ u,o=some u/\RelV v u:=by
 cases o with
 | none=>exact (show False from r).elim
 | some u=>exact ⟨u,rfl,r⟩
section
variable {P:Program}{w:World}{H H':Hp}{h h':Heap}{a C dx:Addr}{fs fs':List (Str×V)}
end
structure Cls (K:PySem.W.Frag) (C:Addr):Prop where
 pg:PySem.W.plainGet K C Str.empty=true
 hd:PySem.W.hasDictIn K C=true
 po:PySem.W.plainOver K C=true
 sa:PySem.W.findIn K (.ref C) "__setattr__"=some (some (.builtin "object.__setattr__"))
noncomputable def dN (K:PySem.W.Frag) (C:Addr) (f:Str):Prop:=PySem.W.findIn K (.ref C) f=some none
structure Meth (K:PySem.W.Frag) (C:Addr) (m:Str) (f:Addr):Prop where
 at_:PySem.W.findIn K (.ref C) m=some (some (.ref f))
 fn:PySem.W.isFn K (.ref f)=true
 kp:PySem.W.keepIn K (.ref f)=true
section
variable {X:Cx}{pins:List (Addr×Obj)}{σ:St}{H:Hp}{s:Shared}{a C dx:Addr}{fs:List (Str×V)}{f:Str}{v:V}{A:Around}{E:Value->Shared->Prop}
end
section
variable {X:Cx}{o e value:Expr}{f:Str}{pos pos' tpos:Pos}{ta tv:TE}
end
section
variable {X:Cx}{pins:List (Addr×Obj)}{σ:St}{H:Hp}{s:Shared}{A:Around}{E:Value->Shared->Prop}{Q:Value->Shared->Prop}{c:Value}{b:Bool}
end
structure Room (k:Nat) (A:Around):Prop where
 hd:A.handled=none
 dp:A.depth+3 * k+5 < recursionLimit
 un:A.units+16 * k+200 < cLine
theorem Room.deeper {k:Nat}{A:Around}(r:Room (k+1) A) (env:Env):Room k (A.deeper env) :=
 ⟨r.hd,by have:=r.dp;show A.depth+1+3 * k+5 < _;omega,by have:=r.un;show A.units+3+16 * k+200 < _;omega⟩
theorem Room.depth {k:Nat}{A:Around}(r:Room k A):A.depth < recursionLimit:=by have:=r.dp;omega
theorem Room.units {k:Nat}{A:Around}(r:Room k A):A.units+64 < cLine:=by have:=r.un;omega
noncomputable def Acz:TA:=fun _ H Q=>Q [] H
noncomputable def Ac0 (ta:TE) (tr:TA):TA:=fun σ H Q=>ta σ H fun x H1=>tr σ H1 fun xs H2=>Q (x::xs) H2
section
variable {X:Cx}{e:Expr}{es:List Expr}{te:TE}{t:TA}{pos:Pos}
theorem M7:PA X [] Acz:=fun _ _ _ _ H Q I h=>Calls.spliced_nil ⟨[],H,I,.nil,h⟩
theorem Im (ha:PE X e te) (hr:PA X es t) (hs:starEach (e::es) X.env=(false,eval e X.env)::starEach es X.env:=by rfl):PA X (e::es) (Ac0 te t):=by
 intro pos pins s σ H Q I h;rw [hs];show wpAny _ _ (spliced ((false,eval e X.env)::backTo pos (starEach es X.env))) _ _ s;refine Calls.spliced_cons (thn (ha pins s σ H _ I h) ?_);rintro u s1 ⟨x,H1,I1,r1,q1⟩;refine thn (hr pos pins s1 σ H1 _ I1 q1) ?_;rintro us s2 ⟨xs,H2,I2,r2,q2⟩;exact ⟨x::xs,H2,I2,.cons r1 r2,q2⟩
noncomputable def Ae8 (t:TA):TE:=fun σ H Q=>t σ H fun xs H1=>xs.length<=sizeLine/\∀ p,H1 p=none->Q (.ref p) (upd H1 p (.tup xs))
noncomputable def Ae9 (t:TA):TE:=fun σ H Q=>t σ H fun xs H1=>xs.length<=sizeLine/\∀ p,H1 p=none->Q (.ref p) (upd H1 p (.lst xs))
theorem yE {x1}(h:PA X es t):PE X (.Tuple es x1 pos) (Ae8 t):=by
 intro pins s σ H Q I hq;refine wpAny_Tuple_spliced (thn (h pos pins s σ H _ I hq) ?_);rintro us s1 ⟨xs,H1,I1,r,z,q⟩;refine ⟨by rw [← r.length];exact z,?_⟩;have hf:H1 s1.heap.objs.size=none:=I1.hok.fresh (Nat.le_refl _);refine ⟨.ref s1.heap.objs.size,upd H1 s1.heap.objs.size (.tup xs),I1.laid (t':=s1.toks) (fun b u e=>Heap.get?_push_of_some _ e) (Nat.le_refl _) ?_,rfl,q _ hf⟩;exact ⟨z,us,r,⟨_,Heap.get?_push_size _ rfl,rfl,rfl,_,rfl⟩⟩
theorem yF (h:PA X es t):PE X (.List es pos) (Ae9 t):=by
 intro pins s σ H Q I hq;refine wpAny_List_spliced (thn (h pos pins s σ H _ I hq) ?_);rintro us s1 ⟨xs,H1,I1,r,z,q⟩;refine ⟨by rw [← r.length];exact z,?_⟩;have hf:H1 s1.heap.objs.size=none:=I1.hok.fresh (Nat.le_refl _);refine ⟨.ref s1.heap.objs.size,upd H1 s1.heap.objs.size (.lst xs),I1.laid (t':=s1.toks) (fun b u e=>Heap.get?_push_of_some _ e) (Nat.le_refl _) ?_,rfl,q _ hf⟩;exact ⟨z,us,0,r,Heap.get?_push_size _ rfl⟩
end
noncomputable abbrev Sp:=List V->Hp->VK->XK->Prop
noncomputable abbrev CXT:=List Env->Hp->Shared->XK->Value->Shared->Prop
structure Env0 (P:Program) (w:World) (K:PySem.W.Frag) (mg:Str->Option Value) (base:Heap) (A:Around) (outer:List Env) (s:Shared) (H:Hp):Prop where
 frames:A.frames=some outer
 mod:Mod K mg base
 bs:∀ b o,base.get? b=some o->s.heap.get? b=some o/\H b=none
 bsz:base.objs.size<=s.heap.objs.size
 funs:s.heap.FunFrames base outer
 frf:∀ b∈frs outer,H b=none
 hok:HOk P w H s.heap
 bare:AllBare s.gens
noncomputable def CE (outer:List Env) (P:Program) (w:World) (H:Hp) (s:Shared) (Q:VK) (u:Value) (s':Shared):Prop :=
 ∃ v H',s'.os=s.os/\AllBare s'.gens/\Un (frs outer) [] H H' s.heap s'.heap/\HOk P w H' s'.heap/\RelV v u/\Q v H'
noncomputable def CR (CX:CXT) (outer:List Env) (P:Program) (w:World) (H:Hp) (s:Shared) (Q:VK) (E:XK) (r:Result) (s':Shared):Prop :=
 match r with
 | .ok (.ret u)=>CE outer P w H s Q u s'
 | .ok _=>False
 | .error e=>CX outer H s E e s'
structure FnOk (P:Program) (w:World) (K:PySem.W.Frag) (mg:Str->Option Value) (base:Heap) (CX:CXT) (k:Nat) (f:Addr) (fd:FuncData) (ps:List Str) (sp:Sp):Prop where
 len:∀ vs H Q E,sp vs H Q E->vs.length=ps.length
 run:∀ (A:Around) (outer:List Env) (s:Shared) (H:Hp) (args:Args) (us:List Value) (vs:List V) (Q:VK) (E:XK),Room k A->Env0 P w K mg base A outer s H->BindsTo s fd args (ps.zip us)->Vals vs us->sp vs H Q E ->
  codeAny (model P w) A (.call (.ref f) args) (CR CX outer P w H s Q E) s
section
variable {X:Cx}{pins:List (Addr×Obj)}{σ:St}{H:Hp}{s s':Shared}
theorem Inv.env0 (I:Inv X pins σ H s):Env0 X.prog X.w X.K X.mg X.base X.A X.stack s H :=
 ⟨I.ok.frames,I.ok.mod,I.bs,Nat.le_trans I.ok.bsz I.sz,I.stack,I.stkFree,I.hok,I.bare⟩
theorem Inv.after {Q:VK}{u:Value}(I:Inv X pins σ H s) (h:CE X.stack X.prog X.w H s Q u s'):EP X pins σ Q u s':=by
 obtain ⟨v,H',os,bare,un,hok,r,q⟩:=h;obtain ⟨hh,g,d,t,os'⟩:=s';obtain rfl:os'=s.os:=os;exact ⟨v,H',I.call (h':=hh) (g':=g) (d':=d) (t':=t) (ch:=[]) un hok bare (fun b z=>absurd z (by simp)),r,q⟩
end
noncomputable def uZ (sp:Sp) (dvs:List V) (E:XK) (t:TA):TE:=fun σ H Q=>t σ H fun vs H1=>sp (vs++dvs) H1 Q E
noncomputable def Binds (K:PySem.W.Frag) (fd:FuncData) (ps:List Str) (ds:List Value):Prop :=
 ∀ (s:Shared) (us:List Value),K.In s.heap->(us++ds).length=ps.length->BindsTo s fd ⟨us,[]⟩ (ps.zip (us++ds))
theorem Binds.all {K:PySem.W.Frag}{fd:FuncData}{ps:List Str}(h:∀ us:List Value,us.length=ps.length->bindArgs fd ⟨us,[]⟩=pure (ps.zip us)):Binds K fd ps []:=fun s us _ hl=>by
 rw [List.append_nil] at hl ⊢;exact .of_eq (h us hl)
noncomputable def Kw (CX:CXT) (X:Cx) (E:XK):Prop:=∀ (pins:List (Addr×Obj)) (σ:St) (H:Hp) (s:Shared) (e:Value) (s':Shared),Inv X pins σ H s->CX X.stack H s E e s'->X.xe e s'
section
variable {X:Cx}{CX:CXT}{k:Nat}{f C:Addr}{fd:FuncData}{ps:List Str}{sp:Sp}{dvs:List V}{ds:List Value}{E:XK}{x m:Str}{p pos apos:Pos}{e o:Expr}{es:List Expr}{ta:TE}{t:TA}
theorem dO {pins:List (Addr×Obj)}{σ:St}{H:Hp}{s:Shared}{Q:VK}{us:List Value}{vs:List V}(F:FnOk X.prog X.w X.K X.mg X.base CX k f fd ps sp) (hr:Room k X.A) (hb:Binds X.K fd ps ds) (hd:Vals dvs ds) (hx:Kw CX X E)
  (I:Inv X pins σ H s) (r:Vals vs us) (h:sp (vs++dvs) H Q E):wpAny (model X.prog X.w) X.A (call (.ref f) us) (EP X pins σ Q) X.xe s:=by
 have r2:Vals (vs++dvs) (us++ds):=r.append hd;have hl:(us++ds).length=ps.length:=by rw [← r2.length];exact F.len _ _ _ _ h
 refine wpAny_call (codeAny_mono (F.run X.A X.stack s H ⟨us,[]⟩ (us++ds) (vs++dvs) Q E hr I.env0 (hb s us I.kIn hl) r2 h) fun r s' hq=>?_);cases r with
 | error e=>exact hx pins σ H s e s' I hq
 | ok fl =>
  cases fl with
  | ret u=>exact I.after hq
  | next=>exact False.elim hq
  | brk=>exact False.elim hq
  | cont=>exact False.elim hq
theorem pR (F:FnOk X.prog X.w X.K X.mg X.base CX k f fd ps sp) (hr:Room k X.A) (hg:Gl X x) (hm:X.mg x=some (.ref f)) (hk:PySem.W.keepIn X.K (.ref f)=true) (hb:Binds X.K fd ps ds) (hd:Vals dvs ds) (hx:Kw CX X E)
  (ha:PA X (e::es) t) (hdb:(x==("__debug__":Str))=false:=by decide) (he:starEach (e::es) X.env=(false,eval e X.env)::starEach es X.env:=by rfl) (hpl:(backTo pos (starEach es X.env)).any (·.1)=false:=by rfl) :
  PE X (.Call (.Name x p) (e::es) [] pos) (uZ sp dvs E t):=by
 intro pins s σ H Q I h;refine wpAny_Call_Name_kw (Rb I hg hm ?_ hdb);refine PySem.W.callWith_K (h₀:=X.base) I.ok.mod.kin hk (thn (ha pos pins s σ H _ I h) fun us s1 ⟨vs,H1,I1,r,q⟩=>⟨I1.kIn,?_⟩) he hpl;exact dO F hr hb hd hx I1 r q
theorem dR (F:FnOk X.prog X.w X.K X.mg X.base CX k f fd ps sp) (hr:Room k X.A) (hg:Gl X x) (hm:X.mg x=some (.ref f)) (hk:PySem.W.keepIn X.K (.ref f)=true) (hb:Binds X.K fd ps ds) (hd:Vals dvs ds) (hx:Kw CX X E)
  (hdb:(x==("__debug__":Str))=false:=by decide):PE X (.Call (.Name x p) [] [] pos) (uZ sp dvs E Acz):=by
 intro pins s σ H Q I h;refine wpAny_Call_Name_kw (Rb I hg hm ?_ hdb);exact PySem.W.callWith_K0 I.kIn hk (dO (us:=[]) F hr hb hd hx I .nil h)
structure Mk (K:PySem.W.Frag) (C f:Addr):Prop where
 makes:PySem.W.makesIn K C=true
 init:PySem.W.findIn K (.ref C) "__init__"=some (some (.ref f))
 fn:PySem.W.isFn K (.ref f)=true
 kp:PySem.W.keepIn K (.ref C)=true
end
section
variable {X:Cx}{CX:CXT}{k:Nat}{f C:Addr}{fd:FuncData}{ps ks:List Str}{sp:Sp}{E:XK}{x m:Str}{p pos apos kpos:Pos}{e o:Expr}{es:List Expr}{kws:List Keyword}{te ta:TE}{t tk:TA}{nm:Option Str}
variable {g:List Value->List Value->List Value}{gV:List V->List V->List V}
end
structure FnScope (N P:List Str) (sc:Scope):Prop where
 kind:sc.kind=.function
 co:sc.isCoroutine=false
 gen:sc.isGenerator=false
 nd:N.Nodup
 pre:N.take P.length=P
 par:∀ x∈P,sc.names.lookup x=some .local\/sc.names.lookup x=some .cell
 nofree:∀ y∈sc.names,y.2≠.free
theorem Pz {kindOf:Str->Option NameKind}{x:Str}:∀ {binds:List (Str×Value)}{m:Str->Option Value},(∀ v,(x,v) ∉ binds)->bindL kindOf binds m x=m x
 | [],_,_=>rfl
 | (n,v)::r,m,h=>by
  unfold bindL;rw [Pz fun w hw=>h w (List.mem_cons_of_mem _ hw)];split
  ·have:x≠n:=by rintro rfl;exact h v List.mem_cons_self
   simp [this]
  ·rfl
theorem P0 {kindOf:Str->Option NameKind}{x:Str}:∀ {binds:List (Str×Value)}{m:Str->Option Value},(∀ v,(x,v) ∉ binds)->bindC kindOf binds m x=m x
 | [],_,_=>rfl
 | (n,v)::r,m,h=>by
  unfold bindC;rw [P0 fun w hw=>h w (List.mem_cons_of_mem _ hw)];split
  ·rfl
  ·have:x≠n:=by rintro rfl;exact h v List.mem_cons_self
   simp [this]
theorem Qa {kindOf:Str->Option NameKind}{x:Str}{v:Value}:∀ {P:List Str}{vs:List Value}{i:Nat}{m:Str->Option Value},P.Nodup->P[i]?=some x->vs[i]?=some v->kindOf x=some .local ->
  bindL kindOf (P.zip vs) m x=some v
 | [],_,_,_,_,h,_,_=>by simp at h
 | _::_,[],_,_,_,_,h,_=>by simp at h
 | p::P,w::vs,0,m,nd,h1,h2,hk=>by
  simp at h1 h2;subst h1;subst h2;show bindL kindOf ((p,w)::P.zip vs) m p=_;unfold bindL;rw [Pz fun v hv=>(List.nodup_cons.mp nd).1 (List.of_mem_zip hv).1,if_pos hk];simp
 | p::P,w::vs,i+1,m,nd,h1,h2,hk=>by
  show bindL kindOf ((p,w)::P.zip vs) m x=_;unfold bindL;exact Qa (i:=i) (List.nodup_cons.mp nd).2 (by simpa using h1) (by simpa using h2) hk
theorem Qc {kindOf:Str->Option NameKind}{x:Str}{v:Value}:∀ {P:List Str}{vs:List Value}{i:Nat}{m:Str->Option Value},P.Nodup->P[i]?=some x->vs[i]?=some v->kindOf x≠some .local ->
  bindC kindOf (P.zip vs) m x=some v
 | [],_,_,_,_,h,_,_=>by simp at h
 | _::_,[],_,_,_,_,h,_=>by simp at h
 | p::P,w::vs,0,m,nd,h1,h2,hk=>by
  simp at h1 h2;subst h1;subst h2;show bindC kindOf ((p,w)::P.zip vs) m p=_;unfold bindC;rw [P0 fun v hv=>(List.nodup_cons.mp nd).1 (List.of_mem_zip hv).1,if_neg hk];simp
 | p::P,w::vs,i+1,m,nd,h1,h2,hk=>by
  show bindC kindOf ((p,w)::P.zip vs) m x=_;unfold bindC;exact Qc (i:=i) (List.nodup_cons.mp nd).2 (by simpa using h1) (by simpa using h2) hk
noncomputable def start (N:List Str) (vs:List V):St:=vs.map some++List.replicate (N.length - vs.length) none
noncomputable def Z7 (CX:CXT) (P:Program) (w:World) (K:PySem.W.Frag) (mg:Str->Option Value) (base:Heap) (N:List Str) (qual:Str) (scope:Scope) (f:Addr) (cd:Value) (A:Around) (outer:List Env) (s:Shared) (H:Hp) (E:XK):Cx where
 prog:=P
 w:=w
 K:=K
 mg:=mg
 base:=base
 A:=A.deeper (envOfC qual scope s.heap.objs.size f cd)
 N:=N
 s₀:=s
 H₀:=H
 env:=envOfC qual scope s.heap.objs.size f cd
 outer:=outer
 stack:=envOfC qual scope s.heap.objs.size f cd::outer
 ex:=[]
 calm:=true
 fn:=fun _=>true
 pn:=[]
 xe:=fun e s'=>wpAny (model P w) (A.deeper (envOfC qual scope s.heap.objs.size f cd)) (leaving (envOfC qual scope s.heap.objs.size f cd) e) (fun _ s''=>CX outer H s E e s'') (fun e' s''=>CX outer H s E e' s'') s'
theorem T6 {sc:Scope}{n:Nat}{x:Str}(h:sc.names.lookup x=some .cell):∃ c,(cellsFrom n sc.names []).lookup x=some c:=by
 have q:=PySem.W.cellsFrom_some sc.names n [] (.inl h);exact Option.isSome_iff_exists.mp q
theorem Z8 {CX:CXT}{P:Program}{w:World}{K:PySem.W.Frag}{mg:Str->Option Value}{base:Heap}{N ps:List Str}{qual:Str}{scope:Scope}{f:Addr}{cd:Value}{A:Around}{outer:List Env}{s s1:Shared}{H:Hp}{E:XK}{us:List Value}{vs:List V}
  (S:FnScope N ps scope) (hd:A.handled=none) (e0:Env0 P w K mg base A outer s H) (hl:vs.length=ps.length) (r:Vals vs us)
  (x:InCallC s s.heap.objs.size (bindL (envOfC qual scope s.heap.objs.size f cd).kindOf (ps.zip us) fun _=>none) (cellsFrom (s.heap.objs.size+1) scope.names []) (bindC (envOfC qual scope s.heap.objs.size f cd).kindOf (ps.zip us) fun _=>none) s1) :
  Inv (Z7 CX P w K mg base N qual scope f cd A outer s H E) [] (start N vs) H s1:=by
 have hpl:ps.length<=N.length:=by have:=congrArg List.length S.pre;rw [List.length_take] at this;omega
 obtain ⟨h1,tk,rfl,hk⟩:=x.done;have noA:∀ b:Addr,b ∉ (Z7 CX P w K mg base N qual scope f cd A outer s H E).ex:=fun b z=>absurd (show b∈([]:List Addr) from z) (by simp)
 refine ⟨⟨e0.mod,S.kind,rfl,rfl,Nat.le_refl _,fun y z c h1 h2=>?_,fun y hy=>?_,fun y c _ h=>?_,fun _=>hd,Around.frames_deeper e0.frames,.inr ⟨rfl,rfl⟩,fun b z=>absurd z (noA b),e0.bs,e0.bsz,fun b _ _=>noA b,fun b z=>absurd z (noA b),e0.funs,e0.frf⟩,
  rfl,e0.bare,Un.kept hk,⟨_,x.toInCall.ns,fun i y v h1 h2 h3=>?_⟩,fun y c h=>⟨_,x.cell y c h⟩,e0.hok.fresh (Nat.le_refl _),fun y c h=>?_,fun p hp=>absurd (show p∈([]:List (Addr×Obj)) from hp) (by simp),e0.hok.kept hk,?_⟩
 ·exact name_of_addr x.apart (PySem.mem_of_lookup h1) (PySem.mem_of_lookup h2)
 ·have hy:scope.names.lookup y=some .cell\/scope.names.lookup y=some .free:=hy;rcases hy with hy|hy
  ·exact T6 hy
  ·exact absurd rfl (S.nofree _ (PySem.mem_of_lookup hy))
 ·exact Nat.le_of_lt (x.above y c (PySem.mem_of_lookup h))
 ·have hi:i < vs.length:=by
   unfold start at h2
   by_cases hi:i < vs.length
   ·exact hi
   ·rw [List.getElem?_append_right (by simpa using hi)] at h2;rw [List.getElem?_replicate] at h2;split at h2 <;> cases h2
  have ha:vs[i]?=some v:=by
   unfold start at h2;rw [List.getElem?_append_left (by simpa using hi),List.getElem?_map] at h2;cases e:vs[i]? with
   | none=>rw [e] at h2;cases h2
   | some a=>rw [e] at h2;cases h2;rfl
  obtain ⟨u,hu,rv⟩:=r.get ha;have hp:ps[i]?=some y:=by
   rw [← S.pre,List.getElem?_take_of_lt (by omega)];exact h1
  have ndP:ps.Nodup:=by rw [← S.pre];exact S.nd.sublist (List.take_sublist _ _)
  refine ⟨u,rv,?_⟩;rcases S.par y (List.mem_of_getElem? hp) with k|k
  ·exact .inl ⟨k,Qa ndP hp hu k⟩
  ·obtain ⟨c,e⟩:=T6 (n:=s.heap.objs.size+1) k;refine .inr ⟨.inl k,c,e,?_⟩;have q:=x.cell y c e;rw [Qc ndP hp hu (by show scope.names.lookup y≠_;rw [k];decide)] at q;exact q
 ·exact e0.hok.fresh (Nat.le_of_lt (x.above y c (PySem.mem_of_lookup h)))
 ·unfold start;show _=N.length;rw [List.length_append,List.length_map,List.length_replicate];omega
theorem Ac1 {CX:CXT}{P:Program}{w:World}{K:PySem.W.Frag}{mg:Str->Option Value}{base:Heap}{k:Nat}{f:Addr}{name qual:Str}{params:Arguments}{body:List Stmt}{scope:Scope}{dV kV doc pm cdv ct oc:Value}{an od:Option Addr}
  {osl:Array (Option Value)} {N ps:List Str} {sp:Sp} (lk:K.lookup f=some ⟨oc,od,.func (PySem.W.fnOf name qual params body scope dV kV doc pm an cdv ct),osl⟩) (hcd:PySem.W.codeIn K cdv qual=true) (S:FnScope N ps scope)
  (len:∀ vs H Q E,sp vs H Q E->vs.length=ps.length)
  (hbody:∀ (A:Around) (outer:List Env) (s:Shared) (H:Hp) (vs:List V) (Q:VK) (E:XK),Room k (A.deeper (envOfC qual scope s.heap.objs.size f cdv))->sp vs H Q E ->
   ∃ t,PSs (Z7 CX P w K mg base N qual scope f cdv A outer s H E) body t/\t { nx:=fun _ H'=>Q .non H',rt:=Q } (start N vs) H) :
  FnOk P w K mg base CX (k+1) f (PySem.W.fnOf name qual params body scope dV kV doc pm an cdv ct) ps sp:=by
 refine ⟨len,fun A outer s H args us vs Q E hr e0 hb r hsp=>?_⟩;have hl:=len _ _ _ _ hsp;have KX:K.In s.heap:=e0.mod.kin.keeps fun b o e=>(e0.bs b o e).1
 have lim:s.heap.NoLimit:=e0.mod.nolimit.keeps fun b o e=>(e0.bs b o e).1
 have hkind:∀ y∈ps.zip us,scope.names.lookup y.1=some .local\/(scope.names.lookup y.1=some .cell/\((cellsFrom (s.heap.objs.size+1) scope.names []).lookup y.1).isSome=true):=by
  rintro ⟨n,v⟩ hy;rcases S.par n (List.of_mem_zip hy).1 with q|q
  ·exact .inl q
  ·exact .inr ⟨q,PySem.W.cellsFrom_some _ _ _ (.inl q)⟩
 refine codeAny_call_function hr.depth (KX _ _ lk) rfl S.co S.gen rfl (PySem.W.codeRec_of KX hcd) (hb _ _ _ _ ?_);refine wpAny_newFunctionEnv_cells S.kind hkind fun env he s1 x=>?_
 subst he;refine ⟨lim.keeps x.toInCall.keep,codeAny_func ?_⟩;obtain ⟨t,ht,hq⟩:=hbody A outer s H vs Q E (hr.deeper _) hsp;have I:Inv (Z7 CX P w K mg base N qual scope f cdv A outer s H E) [] (start N vs) H s1:=Z8 S hr.hd e0 hl r x;refine wpAny_mono (ht [] s1 (start N vs) H _ I hq) (fun fl s' hs=>?_) fun e s' hs=>hs
 have fin:∀ {σ':St} {H':Hp} {v:V} {u:Value},Inv (Z7 CX P w K mg base N qual scope f cdv A outer s H E) [] σ' H' s'->RelV v u->Q v H'->CE outer P w H s Q u s' :=
  fun {σ' H' v u} J rv q=>⟨v,H',J.os,J.bare,J.base,J.hok,rv,q⟩
 cases fl with
 | ret u =>
  obtain ⟨v,σ',H',J,rv,q⟩:=hs;exact fin J rv q
 | next =>
  obtain ⟨σ',H',J,q⟩:=hs;exact fin (v:=V.non) (u:=Value.none) J rfl q
 | brk =>
  obtain ⟨_,_,_,q⟩:=hs;exact False.elim q
 | cont =>
  obtain ⟨_,_,_,q⟩:=hs;exact False.elim q
section
variable {X:Cx}{x:Str}{p pos:Pos}{e:Expr}{es:List Expr}{t:TA}{id T:String}{r:List V->Hp->VK->Prop}
noncomputable def tCB (r:List V->Hp->VK->Prop) (t:TA):TE:=fun σ H Q=>t σ H fun vs H1=>r vs H1 Q
theorem M8 (hc:Bg X (.builtin id) r) (hg:Gl X x) (hm:X.mg x=none) (hv:bootBuiltins x=some (.builtin id)) (ha:PA X (e::es) t) (hn:x ≠ "__name__":=by decide) (hdb:(x==("__debug__":Str))=false:=by decide)
  (he:starEach (e::es) X.env=(false,eval e X.env)::starEach es X.env:=by rfl) (hpl:(backTo pos (starEach es X.env)).any (·.1)=false:=by rfl):PE X (.Call (.Name x p) (e::es) [] pos) (tCB r t):=by
 intro pins s σ H Q I h;refine wpAny_Call_Name_kw (Kv I hg hm hv ?_ hn hdb);exact PyProof.Rows.callWith_builtin1 (thn (ha pos pins s σ H _ I h) fun us s1 ⟨vs,H1,I1,r1,q1⟩=>hc pins s1 σ H1 vs us Q I1 r1 q1) he hpl
theorem Qd (hc:Bg X (.type T) r) (hg:Gl X x) (hm:X.mg x=none) (hv:bootBuiltins x=some (.type T)) (ha:PA X (e::es) t) (hn:x ≠ "__name__":=by decide) (hdb:(x==("__debug__":Str))=false:=by decide)
  (he:starEach (e::es) X.env=(false,eval e X.env)::starEach es X.env:=by rfl) (hpl:(backTo pos (starEach es X.env)).any (·.1)=false:=by rfl):PE X (.Call (.Name x p) (e::es) [] pos) (tCB r t):=by
 intro pins s σ H Q I h;refine wpAny_Call_Name_kw (Kv I hg hm hv ?_ hn hdb);exact PyProof.Rows.callWith_type1 (thn (ha pos pins s σ H _ I h) fun us s1 ⟨vs,H1,I1,r1,q1⟩=>hc pins s1 σ H1 vs us Q I1 r1 q1) he hpl
end
end L2
namespace HT
open PySem PyProof.Rows
section
open PySem.SeqAt
open PySem.AutoSeq1 (wpAny_loadPart')
open PySem.MeetsSeq PySem.MeetsSeq2 PySem.MeetsSeq3
end
section
variable {prog:Program}{w:World}{A:Around}{E:Value->Shared->Prop}{s:Shared}
theorem cat_tup {t b:Addr}{vs ws:List Value}{Q:Value->Shared->Prop}(ht:IsTup s.heap t vs.toArray) (hb:IsTup s.heap b ws.toArray) (hv:vs≠[])
  (h1:ws=[]->Q (.ref t) s) (h2:ws≠[]->Q (.ref s.heap.objs.size) { s with heap:=s.heap.push { cls:=.type "tuple",data:=.seq (vs++ws).toArray } })
  (hsz:vs.length+ws.length<=sizeLine):wpAny (model prog w) A (binaryOp .Add (.ref t) (.ref b)) Q E s:=by
 obtain ⟨⟨cls,dd,data,sl⟩,ho,hc,n,hd⟩:=id ht;obtain ⟨⟨cls2,dd2,data2,sl2⟩,ho2,hc2,n2,hd2⟩:=id hb;simp only at hc hd hc2 hd2;subst hc hd hc2 hd2;have e:vs.toArray++ws.toArray=(vs++ws).toArray:=by simp
 by_cases hw:ws=[]
 ·exact concat_meets ⟨_,ho,rfl⟩ ⟨_,ho2,rfl⟩ noFill_tuple_add seq_tuple_add PySem.F.slot_tuple_add PySem.F.entry_tuple_add (PySem.F.args_tuple_add_2 _ _)
   (tuple_addW1 t b vs.toArray ws.toArray n n2 dd dd2 sl sl2 (by simpa using hv) (by simp [hw])) ⟨ho,ho2,h1 hw⟩
 ·refine concat_meets ⟨_,ho,rfl⟩ ⟨_,ho2,rfl⟩ noFill_tuple_add seq_tuple_add PySem.F.slot_tuple_add PySem.F.entry_tuple_add (PySem.F.args_tuple_add_2 _ _)
   (tuple_addW2 t b vs.toArray ws.toArray n n2 dd dd2 sl sl2 (by simpa using hv) (by simpa using hw) (by rw [List.size_toArray,List.size_toArray];exact hsz)) ⟨ho,ho2,?_⟩
  rw [e];exact h2 hw
noncomputable def sIx (n d:Nat):Option Int->Nat
 | none=>d
 | some v=>if v < 0 then (v+(n:Int)).toNat else min v.toNat n
theorem sIx_none (n d:Nat):sIx n d none=d:=rfl
theorem sIx_nat (n d k:Nat):sIx n d (some (k:Int))=min k n:=by
 show (if (k:Int) < 0 then ((k:Int)+(n:Int)).toNat else min (k:Int).toNat n)=min k n;rw [if_neg (by omega),Int.toNat_natCast]
theorem yG (n d:Nat) (hd:d<=n) (o:Option Int):sIx n d o<=n:=by
 cases o with
 | none=>exact hd
 | some v =>
  show (if v < 0 then (v+(n:Int)).toNat else min v.toNat n)<=n
  by_cases hv:v < 0
  ·rw [if_pos hv];omega
  ·rw [if_neg hv];exact Nat.min_le_right _ _
theorem Yn (v:Int) (n d:Nat):(if v < 0 then max (v+(n:Int)) 0 else min v (n:Int))=((sIx n d (some v):Nat):Int):=by
 show (if v < 0 then max (v+(n:Int)) 0 else min v (n:Int))=(((if v < 0 then (v+(n:Int)).toNat else min v.toNat n):Nat):Int)
 by_cases hv:v < 0
 ·simp only [if_pos hv];omega
 ·simp only [if_neg hv];omega
theorem Wx (lo hi:Option Int) (n:Nat):Builtin.Slice.sliceAdjust lo hi 1 (n:Int)=(((sIx n 0 lo:Nat):Int),((sIx n n hi:Nat):Int)):=by
 have h1:¬ ((1:Int) < 0):=by omega
 unfold Builtin.Slice.sliceAdjust;simp only [h1,if_false];refine Prod.ext ?_ ?_
 ·cases lo with
  | none=>rfl
  | some v=>exact Yn v n 0
 ·cases hi with
  | none=>rfl
  | some v=>exact Yn v n n
theorem Wy (i j:Nat):Builtin.Slice.slicePlaces (i:Int) (j:Int) 1=j - i:=by
 unfold Builtin.Slice.slicePlaces;have h1:(1:Int) > 0:=by omega
 simp only [h1,if_true,Int.ediv_one];split <;> omega
theorem M9 {v:Value}{o:Option Int}{Q:Option Int->Shared->Prop}(p:IsPart v o) (h:Q o s):wpAny (model prog w) A (Builtin.Slice.slicePartIndex v) Q E s:=by
 cases p with
 | none=>exact slicePart_none h
 | int i t=>exact slicePart_int h
theorem sliceApplied_gen {sl:Addr}{vl vu:Value}{lo hi:Option Int}{n:Nat}{Q:Int×Int×Nat->Shared->Prop}(hs:s.heap.IsSliceOf sl vl vu .none) (pl:IsPart vl lo) (pu:IsPart vu hi)
  (h:Q (((sIx n 0 lo:Nat):Int),1,sIx n n hi - sIx n 0 lo) s):wpAny (model prog w) A (Builtin.Slice.sliceApplied (.ref sl) (pure (n:Int))) Q E s:=by
 obtain ⟨os,hos,hcs,hds⟩:=id hs;unfold Builtin.Slice.sliceApplied Builtin.Slice.sliceFields;refine wpAny_bind (wpAny_bind (wpAny_field hos hds (x:=vl) rfl (wpAny_bind (wpAny_field hos hds (x:=vu) rfl (wpAny_bind (wpAny_field hos hds (x:=.none) rfl (wpAny_pure ?_)))))));refine wpAny_bind (slicePart_none ?_);show wpAny _ _ (if ((1:Int)==0)=true then _ else _) _ _ s;rw [if_neg (by decide)];refine wpAny_bind (M9 pl (wpAny_bind (M9 pu (wpAny_bind (wpAny_pure ?_)))));show wpAny _ _ (match Builtin.Slice.sliceAdjust lo hi 1 (n:Int) with | (lo,hi)=>pure (lo,(1:Int),Builtin.Slice.slicePlaces lo hi 1)) _ _ s;rw [Wx lo hi n];show wpAny _ _ (pure (((sIx n 0 lo:Nat):Int),(1:Int),Builtin.Slice.slicePlaces ((sIx n 0 lo:Nat):Int) ((sIx n n hi:Nat):Int) 1)) _ _ s;rw [Wy];exact wpAny_pure h
theorem dU (xs:Array Value) (i k:Nat):((List.range k).filterMap fun (m:Nat)=>xs[((i:Int)+(m:Int) * 1).toNat]?).toArray=((xs.toList.drop i).take k).toArray:=by
 have e:(fun (m:Nat)=>xs[((i:Int)+(m:Int) * 1).toNat]?)=fun m=>xs[i+m]?:=by
  funext m;have:((i:Int)+(m:Int) * 1).toNat=i+m:=by omega
  rw [this]
 rw [e];have:=pick_run xs i k;rw [List.filterMap_map] at this;have e2:((fun x=>xs[x]?) ∘ fun x=>i+x)=fun m=>xs[i+m]?:=rfl
 rw [e2] at this;rw [this]
theorem getItem_tuple_cut {t sl:Addr}{items:Array Value}{vl vu:Value}{lo hi:Option Int}{Q:Value->Shared->Prop}(ht:IsTup s.heap t items) (hs:s.heap.IsSliceOf sl vl vu .none) (pl:IsPart vl lo) (pu:IsPart vu hi)
  (hw:¬ (sIx items.size 0 lo=0/\sIx items.size items.size hi=items.size))
  (h:Q (.ref s.heap.objs.size) { s with heap:=s.heap.push { cls:=.type "tuple",data:=.seq ((items.toList.drop (sIx items.size 0 lo)).take (sIx items.size items.size hi - sIx items.size 0 lo)).toArray } })
  (hsz:items.size<=sizeLine):wpAny (model prog w) A (getItem (.ref t) (.ref sl)) Q E s:=by
 have htake:sizeOk (.seq ((items.toList.drop (sIx items.size 0 lo)).take (sIx items.size items.size hi - sIx items.size 0 lo)).toArray):=by
  show ((items.toList.drop (sIx items.size 0 lo)).take (sIx items.size items.size hi - sIx items.size 0 lo)).toArray.size<=sizeLine;rw [List.size_toArray,List.length_take,List.length_drop,Array.length_toList];omega
 have hj:sIx items.size items.size hi<=items.size:=yG _ _ (Nat.le_refl _) hi;obtain ⟨os,hos,hcs,hds⟩:=id hs
 have hTs:s.TypeIs (.ref sl) "slice":=⟨os,hos,hcs⟩
 unfold getItem
 try with_reducible refine wpAny_holding ?_
 first | refine wpAny_bind (wpAny_pure ?_) | skip
 refine wpAny_bind (wpAny_sequenceKey ht.typeIs (by decide) ?_)
 refine wpAny_bind (wpAny_callSpecial?_slot (name:=Str.ofString "__getitem__") ht.typeIs PyProof.Rows.slot_tuple_getitem
  (wpAny_call_entry PyProof.Rows.slot_tuple_getitem ht.typeIs entry_tuple_getitem ?_ (args_tuple_getitem _ _)))
 show wpAny _ _ (Builtin.Tuple.tupleItemsOf (.ref t) >>= _) _ _ s;refine wpAny_bind (tupleItemsOf_ ht ?_);refine wpAny_bind (wpAny_typeOf hTs ?_);rw [if_pos (by decide)];refine wpAny_bind (sliceApplied_gen hs pl pu ?_);have hno:¬ ((((sIx items.size 0 lo:Nat):Int)==0&&(1:Int)==1&&(sIx items.size items.size hi - sIx items.size 0 lo)==items.size)=true):=by
  intro q;rw [Bool.and_eq_true,Bool.and_eq_true] at q;have q1:((sIx items.size 0 lo:Nat):Int)=0:=eq_of_beq q.1.1;have q2:sIx items.size items.size hi - sIx items.size 0 lo=items.size:=eq_of_beq q.2;exact hw ⟨by omega,by omega⟩
 show wpAny _ _ (if (((sIx items.size 0 lo:Nat):Int)==0&&(1:Int)==1&&(sIx items.size items.size hi - sIx items.size 0 lo)==items.size)=true then _ else _) _ _ s;rw [if_neg hno,dU]
 first
  | exact wpAny_bind (m:=Builtin.Tuple.tupleExact _) (wpAny_newObj_type (wpAny_pure ⟨_,rfl,wpAny_pure h⟩) htake)
  | exact wpAny_bind (m:=Builtin.Tuple.tupleExact _) (wpAny_newObj_type (wpAny_bind (wpAny_pure (wpAny_pure ⟨_,rfl,wpAny_pure h⟩))) htake)
  | exact wpAny_bind (wpAny_bind (m:=Builtin.Tuple.tupleExact _) (wpAny_newObj_type (wpAny_pure (wpAny_pure ⟨_,rfl,wpAny_pure h⟩)) htake))
  | exact wpAny_bind (wpAny_bind (m:=Builtin.Tuple.tupleExact _) (wpAny_newObj_type (wpAny_pure ⟨_,rfl,wpAny_pure h⟩) htake))
end
end HT
namespace L2
open PySem PySem.Spec PyProof.Rows
noncomputable abbrev TO:=St->Hp->(Option Int->Hp->Prop)->Prop
noncomputable def PO (X:Cx) (e:Option Expr) (t:TO):Prop :=
 ∀ (pins:List (Addr×Obj)) (s:Shared) (σ:St) (H:Hp) (Q:Option Int->Hp->Prop),Inv X pins σ H s->t σ H Q ->
  wpAny (model X.prog X.w) X.A (evalPart e X.env) (fun u s'=>∃ o H',Inv X pins σ H' s'/\IsPart u o/\Q o H') X.xe s
noncomputable def pU:TO:=fun _ H Q=>Q none H
noncomputable def Ac2 (t:TE):TO:=fun σ H Q=>t σ H fun x H1=>∃ i,x=.int i/\Q (some i) H1
theorem intsAre_of {ns:List Int}:∀ {us:List Value},Vals (ns.map V.int) us->IntsAre us ns:=by
 induction ns with
 | nil=>intro us r;rw [List.map_nil] at r;cases r;exact .nil
 | cons n ns ih =>
  intro us r;rw [List.map_cons] at r;cases r with
  | cons r1 r2 =>
   obtain ⟨t,e⟩:=r1;subst e;exact .cons n t (ih r2)
section
variable {X:Cx}{e:Expr}{te:TE}{lo hi:Option Expr}{tl th:TO}{pos p2:Pos}
theorem pW:PO X none pU:=by
 intro pins s σ H Q I h;rw [evalPart_none];exact wpAny_pure ⟨none,H,I,.none,h⟩
theorem pX (h:PE X e te):PO X (some e) (Ac2 te):=by
 intro pins s σ H Q I hw;rw [evalPart_some];refine thn (h pins s σ H _ I hw) ?_;rintro u s1 ⟨x,H1,I1,r1,q1⟩;obtain ⟨i,rfl,q⟩:=q1;obtain ⟨t,rfl⟩:=r1;exact ⟨some i,H1,I1,.int i t,q⟩
noncomputable def SlR (X:Cx) (r:V->Option Int->Option Int->Hp->VK->Prop):Prop :=
 ∀ (pins:List (Addr×Obj)) (s:Shared) (σ:St) (H:Hp) (x:V) (v vl vu:Value) (lo hi:Option Int) (sl:Addr) (Q:VK),Inv X pins σ H s->RelV x v->s.heap.IsSliceOf sl vl vu .none->IsPart vl lo->IsPart vu hi->r x lo hi H Q ->
  ∃ T id,typeLookup (.type T) "__getitem__"=pure (some (.builtin id))/\s.TypeIs v T/\wpAny (model X.prog X.w) X.A (getItem v (.ref sl)) (EP X pins σ Q) X.xe s
theorem SlR.or {r r':V->Option Int->Option Int->Hp->VK->Prop}(h:SlR X r) (h':SlR X r'):SlR X (fun x lo hi H Q=>r x lo hi H Q\/r' x lo hi H Q):=by
 intro pins s σ H x v vl vu lo hi sl Q I rx hs pl pu q;rcases q with q|q
 ·exact h pins s σ H x v vl vu lo hi sl Q I rx hs pl pu q
 ·exact h' pins s σ H x v vl vu lo hi sl Q I rx hs pl pu q
noncomputable def tSl (r:V->Option Int->Option Int->Hp->VK->Prop) (te:TE) (tl th:TO):TE:=fun σ H Q=>te σ H fun x H1=>tl σ H1 fun l H2=>th σ H2 fun u H3=>r x l u H3 Q
theorem dW {r:V->Option Int->Option Int->Hp->VK->Prop}(hr:SlR X r) (he:PE X e te) (hl:PO X lo tl) (hu:PO X hi th):PE X (.Subscript e (.Slice lo hi none p2) pos) (tSl r te tl th):=by
 intro pins s σ H Q I h;refine Subscript_ (thn (he pins s σ H _ I h) ?_);rintro v s1 ⟨x,H1,I1,r1,q1⟩;refine wpAny_Slice (thn (hl pins s1 σ H1 _ I1 q1) ?_);rintro vl s2 ⟨l,H2,I2,pl,q2⟩;refine thn (hu pins s2 σ H2 _ I2 q2) ?_;rintro vu s3 ⟨u,H3,I3,pu,q3⟩;rw [evalPart_none];refine wpAny_pure ?_
 have I4:Inv X pins σ H3 { s3 with heap:=s3.heap.push { cls:=.type "slice",data:=.fields #[vl,vu,.none] } }:=I3.kept (t':=s3.toks) fun b ob q=>Heap.get?_push_of_some _ q
 obtain ⟨T,id,hT,ht,hg⟩:=hr pins { s3 with heap:=s3.heap.push { cls:=.type "slice",data:=.fields #[vl,vu,.none] } } σ H3 x v vl vu l u s3.heap.objs.size Q I4 r1 (Heap.IsSliceOf.new ..) pl pu q3
 show wpAny (model X.prog X.w) X.A (subscriptTail e (.Slice lo hi none p2) v (.ref s3.heap.objs.size)) (EP X pins σ Q) X.xe { s3 with heap:=s3.heap.push { cls:=.type "slice",data:=.fields #[vl,vu,.none] } };exact tail_any (ops:=[.ref s3.heap.objs.size,v]) ht hT hg (by with_unfolding_all rfl)
noncomputable def T7 (xs:List V) (lo hi:Option Int):List V:=(xs.drop (HT.sIx xs.length 0 lo)).take (HT.sIx xs.length xs.length hi - HT.sIx xs.length 0 lo)
theorem Lg (xs:List V) (lo hi:Option Int):(T7 xs lo hi).length<=xs.length:=by
 unfold T7;rw [List.length_take,List.length_drop];omega
noncomputable def Afa (K:PySem.W.Frag):V->Option Int->Option Int->Hp->VK->Prop:=fun x lo hi H Q=>∃ a xs,x=.ref a/\SqT K H a xs /\
 ¬ (HT.sIx xs.length 0 lo=0/\HT.sIx xs.length xs.length hi=xs.length)/\∀ p,H p=none->Q (.ref p) (upd H p (.tup (T7 xs lo hi)))
theorem yH:SlR X (Afa X.K):=by
 intro pins s σ H x v vl vu lo hi sl Q I rx hs pl pu h;obtain ⟨a,xs,rfl,hx,hw,q⟩:=h;cases rx;obtain ⟨its,r,ht,hz⟩:=I.tuple hx;have hlen:its.toArray.size=xs.length:=by rw [List.size_toArray];exact r.length.symm
 refine ⟨"tuple",_,PyProof.Rows.slot_tuple_getitem.lookup,ht.typeIs,?_⟩;refine HT.getItem_tuple_cut ht hs pl pu (by rw [hlen];exact hw) ?_ (by rw [hlen];exact hz);rw [hlen];refine ⟨.ref s.heap.objs.size,_,I.laid (t':=s.toks) (o:=.tup (T7 xs lo hi)) (fun b ob q=>Heap.get?_push_of_some _ q) (Nat.le_refl _) ?_,rfl,q _ (I.hok.fresh (Nat.le_refl _))⟩;exact ⟨Nat.le_trans (Lg xs lo hi) hz,_,(r.drop (HT.sIx xs.length 0 lo)).take (HT.sIx xs.length xs.length hi - HT.sIx xs.length 0 lo),Pb.new _ _⟩
noncomputable def Ac3 (K:PySem.W.Frag):R2:=fun x y H Q=>∃ a b xs ys,x=.ref a/\y=.ref b/\SqT K H a xs/\SqT K H b ys/\xs≠[]/\xs.length+ys.length<=sizeLine /\
 (ys=[]->Q (.ref a) H)/\(ys≠[]->∀ p,H p=none->Q (.ref p) (upd H p (.tup (xs++ys))))
theorem Vals.nil_iff {xs:List V}{us:List Value}(r:Vals xs us):us=[] ↔ xs=[]:=by
 cases r with
 | nil=>simp
 | cons _ _=>simp
theorem pY:OpR X (binaryOp .Add) (Ac3 X.K):=by
 intro pins s σ H x y v u Q I rx ry h;obtain ⟨a,b,xs,ys,rfl,rfl,ha,hb,hx,hz,q1,q2⟩:=h;cases rx;cases ry;obtain ⟨its,r1,p1,_⟩:=I.tuple ha;obtain ⟨its2,r2,p2,_⟩:=I.tuple hb;refine HT.cat_tup p1 p2 (fun z=>hx (r1.nil_iff.mp z)) (fun z=>⟨.ref a,H,I,rfl,q1 (r2.nil_iff.mp z)⟩) (fun z=>?_) (by rw [← r1.length,← r2.length];exact hz);refine ⟨.ref s.heap.objs.size,_,I.laid (t':=s.toks) (o:=.tup (xs++ys)) (fun b ob q=>Heap.get?_push_of_some _ q) (Nat.le_refl _) ?_,rfl,q2 (fun w=>z (r2.nil_iff.mpr w)) _ (I.hok.fresh (Nat.le_refl _))⟩;exact ⟨by rw [List.length_append];exact hz,_,r1.append r2,Pb.new _ _⟩
end
noncomputable def ixN (n:Nat) (i:Int):Option Nat:=if 0<=i then (if i < n then some i.toNat else none) else if -(n:Int)<=i then some (i+n).toNat else none
noncomputable def atI {α:Type}(xs:List α) (i:Int):Option α:=(ixN xs.length i).bind fun j=>xs[j]?
theorem Rg {n:Nat}{i:Int}{j:Nat}(h:ixN n i=some j):seqIndex? i n=some j/\j < n/\-(n:Int)<=i/\i < n:=by
 unfold ixN at h
 by_cases h0:0<=i
 ·rw [if_pos h0] at h
  by_cases h1:i < n
  ·rw [if_pos h1] at h;have e:i.toNat=j:=Option.some.inj h;exact ⟨by rw [seqIndex_of h0 h1,e],by omega,by omega,h1⟩
  ·rw [if_neg h1] at h;cases h
 ·rw [if_neg h0] at h
  by_cases h1:-(n:Int)<=i
  ·rw [if_pos h1] at h;have e:(i+n).toNat=j:=Option.some.inj h;exact ⟨by rw [seqIndex_neg (by omega) h1,e],by omega,h1,by omega⟩
  ·rw [if_neg h1] at h;cases h
theorem Rh {α:Type}{xs:List α}{i:Int}{v:α}(h:atI xs i=some v):∃ j,seqIndex? i xs.length=some j/\xs[j]?=some v/\j < xs.length/\-(xs.length:Int)<=i/\i < xs.length:=by
 unfold atI at h;cases e:ixN xs.length i with
 | none=>rw [e] at h;cases h
 | some j =>
  rw [e] at h;obtain ⟨h1,h2,h3,h4⟩:=Rg e;exact ⟨j,h1,h,h2,h3,h4⟩
theorem Ri {α:Type}{xs:List α}{j:Nat}{v:α}(h:xs[j]?=some v):atI xs (j:Int)=some v:=by
 have hj:j < xs.length:=(List.getElem?_eq_some_iff.mp h).1;have e:ixN xs.length (j:Int)=some j:=by
  unfold ixN;rw [if_pos (by omega),if_pos (by omega)];simp
 unfold atI;rw [e];exact h
theorem dX {α:Type}(xs:List α) (v:α):atI (xs++[v]) (-1)=some v:=by
 have hl:(xs++[v]).length=xs.length+1:=by simp
 have e:ixN (xs++[v]).length (-1)=some xs.length:=by
  unfold ixN;rw [hl,if_neg (by decide),if_pos (by omega)];congr 1;omega
 unfold atI;rw [e];show (xs++[v])[xs.length]?=some v;simp
noncomputable def Ms (b:Expr):Prop:=∀ o i,subscripted b false o i=operate [o,i] (getItem o i)
noncomputable def IxR (X:Cx) (r:R2):Prop :=
 ∀ (value slice:Expr) (pins:List (Addr×Obj)) (s:Shared) (σ:St) (H:Hp) (x y:V) (v u:Value) (Q:VK),Inv X pins σ H s->RelV x v->RelV y u->r x y H Q ->
  subscripted slice false v u=operate [v,u] (getItem v u)->wpAny (model X.prog X.w) X.A (subscriptTail value slice v u) (EP X pins σ Q) X.xe s
noncomputable def MtR (X:Cx) (id:String) (r:V->List V->Hp->VK->Prop):Prop :=
 ∀ (pins:List (Addr×Obj)) (s:Shared) (σ:St) (H:Hp) (x:V) (xs:List V) (v:Value) (us:List Value) (Q:VK),Inv X pins σ H s->RelV x v->Vals xs us->r x xs H Q ->
  wpAny (model X.prog X.w) X.A (call (.builtin id) (v::us)) (EP X pins σ Q) X.xe s
section
variable {X:Cx}{a b:Expr}{ta tb:TE}{pos:Pos}
theorem IxR.or {r r':R2}(h:IxR X r) (h':IxR X r'):IxR X (fun x y H Q=>r x y H Q\/r' x y H Q):=by
 intro value slice pins s σ H x y v u Q I rx ry q hs;rcases q with q|q
 ·exact h value slice pins s σ H x y v u Q I rx ry q hs
 ·exact h' value slice pins s σ H x y v u Q I rx ry q hs
theorem vA {r:R2}(hr:IxR X r) (ha:PE X a ta) (hb:PE X b tb) (hs:Ms b):PE X (.Subscript a b pos) (tOp r ta tb):=by
 intro pins s σ H Q I h;exact Subscript_ (xO ha hb I h fun v u s2 x y H2 I2 rx ry q=>hr a b pins s2 σ H2 x y v u Q I2 rx ry q (hs _ _))
noncomputable def Ac4 (K:PySem.W.Frag):R2:=fun x y H Q=>∃ p xs i v,x=.ref p/\y=.int i/\SqL K H p xs/\atI xs i=some v/\Q v H
noncomputable def Ac5 (K:PySem.W.Frag):R2:=fun x y H Q=>∃ p xs i v,x=.ref p/\y=.int i/\SqT K H p xs/\atI xs i=some v/\Q v H
noncomputable def Ac6:R2:=fun x y H Q=>∃ z i c,x=.str z/\y=.int i/\z.length<=sizeLine/\atI z.cps.toList i=some c/\Q (.str ⟨#[c]⟩) H
theorem pZ:IxR X (Ac4 X.K):=by
 intro value slice pins s σ H x y v u Q I rx ry h hs;obtain ⟨p,xs,i,z,rfl,rfl,hq,he,q⟩:=h;cases rx;obtain ⟨t,rfl⟩:=ry;obtain ⟨its,r,pl,hz⟩:=I.list hq;obtain ⟨j,h1,h2,h3,h4,h5⟩:=Rh he;obtain ⟨w,ew,rw'⟩:=r.get h2;have hl:=r.length;have hn:=Jp;have fin:EP X pins σ Q w s:=⟨z,H,I,rw',q⟩
 by_cases h0:0<=i
 ·have hj:i.toNat=j:=by
   rw [seqIndex_of h0 h5] at h1;exact Option.some.inj h1
  exact item_listR pl.isList h0 (by omega) (by rw [hj];simpa using ew) fin hs
 ·have hj:(i+(its.toArray.size:Int)).toNat=j:=by
   rw [seqIndex_neg (by omega) h4] at h1;rw [List.size_toArray,← hl];exact Option.some.inj h1
  exact subscriptTail_builtinR (x:=w) pl.isList.typeIs slot_list_getitem.lookup
   (wpAny_getItem_list_neg (Q:=fun r s'=>r=w/\EP X pins σ Q r s') pl.isList (by omega) (by rw [List.size_toArray] <;> omega) (by omega) (by rw [hj];simpa using ew) ⟨rfl,fin⟩) hs
theorem yI:IxR X (Ac5 X.K):=by
 intro value slice pins s σ H x y v u Q I rx ry h hs;obtain ⟨p,xs,i,z,rfl,rfl,hq,he,q⟩:=h;cases rx;obtain ⟨t,rfl⟩:=ry;obtain ⟨its,r,pl,hz⟩:=I.tuple hq;obtain ⟨j,h1,h2,h3,h4,h5⟩:=Rh he;obtain ⟨w,ew,rw'⟩:=r.get h2;have hl:=r.length;have hn:=Jp;have fin:EP X pins σ Q w s:=⟨z,H,I,rw',q⟩;exact subscriptTail_builtinR (x:=w) pl.typeIs slot_tuple_getitem.lookup
  (getItem_tuple (j:=j) (Q:=fun r s'=>r=w/\EP X pins σ Q r s') pl (by omega) (by omega) (by rw [List.size_toArray,← hl];exact h1) (by simpa using ew) ⟨rfl,fin⟩) hs
theorem yJ:IxR X Ac6:=by
 intro value slice pins s σ H x y v u Q I rx ry h hs;obtain ⟨z,i,c,rfl,rfl,hz,he,q⟩:=h;obtain ⟨t,rfl⟩:=rx;obtain ⟨t',rfl⟩:=ry;obtain ⟨j,h1,h2,h3,h4,h5⟩:=Rh he;have hl:z.cps.toList.length=z.length:=by simp [Str.length]
 rw [hl] at h1 h4 h5;have hn:=Jp
 exact tail_any (typeIs_str s z t) slot_str_getitem.lookup (getItem_str (c:=c) (by
  have e1:decide (i < -(2 ^ 63:Int))=false:=decide_eq_false (by omega);have e2:decide (i ≥ 2 ^ 63)=false:=decide_eq_false (by omega)
  rw [e1,e2,Bool.or_false]) (by rw [h1];simpa using h2) ⟨.str ⟨#[c]⟩,H,I.tok _,⟨_,rfl⟩,q⟩) hs
noncomputable def rIx (K:PySem.W.Frag):R2:=fun x y H Q=>Ac4 K x y H Q\/Ac5 K x y H Q\/Ac6 x y H Q
theorem yK:IxR X (rIx X.K):=pZ.or (yI.or yJ)
theorem Wz (its:List Value) (n j:Nat) (u:Value):Obj.mapSeq (·.setIfInBounds j u) { cls:=.type "list",data:=.seq its.toArray n }={ cls:=.type "list",data:=.seq (its.set j u).toArray n }:=by
 simp [Obj.mapSeq]
theorem Inv.lst {pins:List (Addr×Obj)}{σ:St}{H:Hp}{s:Shared}{p:Addr}{xs:List V}(I:Inv X pins σ H s) (h:H p=some (.lst xs)) :
  ∃ (its:List Value) (n:Nat),Vals xs its/\s.heap.get? p=some { cls:=.type "list",data:=.seq its.toArray n }/\xs.length<=sizeLine:=by
 obtain ⟨z,its,n,r,e⟩:=I.hok p _ h;exact ⟨its,n,r,e,z⟩
theorem Inv.lstUpd {pins:List (Addr×Obj)}{σ:St}{H:Hp}{s:Shared}{p:Addr}{xs ys:List V}{its its':List Value}{n n':Nat}{f:Obj->Obj}(I:Inv X pins σ H s) (h:H p=some (.lst xs))
  (ho:s.heap.get? p=some { cls:=.type "list",data:=.seq its.toArray n }) (hf:f { cls:=.type "list",data:=.seq its.toArray n }={ cls:=.type "list",data:=.seq its'.toArray n' }) (r:Vals ys its') (hz:ys.length<=sizeLine) (t:Nat) :
  Inv X pins σ (upd H p (.lst ys)) { s with heap:=s.heap.update p f,toks:=t }:=by
 have e:(s.heap.update p f).get? p=some { cls:=.type "list",data:=.seq its'.toArray n' }:=by
  rw [Heap.get?_update_self f ho (by rw [hf] <;> rfl),hf]
 refine I.write (x:=p) (e:=p) (by rw [h];trivial) (.inl rfl) (fun b u hb q=>(Heap.get?_update_other _ _ (Ne.symm hb)).trans q) ⟨_,e⟩ ?_;exact ⟨hz,its',n',r,e⟩
noncomputable def Ac7:V->V->V->Hp->(Hp->Prop)->Prop:=fun o i v H Q=>∃ p xs k j,o=.ref p/\i=.int k/\H p=some (.lst xs)/\ixN xs.length k=some j/\Q (upd H p (.lst (xs.set j v)))
theorem set_list:Acn X Ac7:=by
 intro pins s σ H o i v ov iv u Q I ro ri rv h;obtain ⟨p,xs,k,j,rfl,rfl,hp,hj,q⟩:=h;cases ro;obtain ⟨t,rfl⟩:=ri;obtain ⟨its,n,r,ho,hz⟩:=I.lst hp;obtain ⟨h1,h2,h3,h4⟩:=Rg hj;have hl:=r.length;have hn:=Jp;have I':Inv X pins σ (upd H p (.lst (xs.set j v))) { s with heap:=s.heap.update p (Obj.mapSeq (·.setIfInBounds j u)) } :=
  I.lstUpd hp ho (Wz its n j u) (r.set rv j) (by rw [List.length_set];exact hz) s.toks
 by_cases h0:0<=k
 ·have hk:k.toNat=j:=by
   rw [seqIndex_of h0 h4] at h1;exact Option.some.inj h1
  exact PySem.W.ki_setAt ho h0 (by omega) (by rw [List.size_toArray,← hl];exact h4) (by rw [hk];exact ⟨_,I',q⟩)
 ·have hk:(k+(its.toArray.size:Int)).toNat=j:=by
   rw [seqIndex_neg (by omega) h3] at h1;rw [List.size_toArray,← hl];exact Option.some.inj h1
  exact PySem.W.ki_setBack ho (by omega) (by rw [List.size_toArray,← hl];exact h3) (by omega) (by rw [hk];exact ⟨_,I',q⟩)
theorem Rj (lo hi:Option Int) (n:Nat):(sliceBounds lo hi none n).1=((HT.sIx n 0 lo:Nat):Int)/\(sliceBounds lo hi none n).2.1=((HT.sIx n n hi:Nat):Int)/\(sliceBounds lo hi none n).2.2=1:=by
 refine ⟨?_,?_,rfl⟩
 ·cases lo with
  | none=>simp [sliceBounds,HT.sIx]
  | some i =>
   simp only [sliceBounds,HT.sIx,Option.getD_none,show (1:Int) > 0 by decide,if_true]
   by_cases h:i < 0
   ·simp only [h,if_true] <;> omega
   ·simp only [h,if_false] <;> omega
 ·cases hi with
  | none=>simp [sliceBounds,HT.sIx]
  | some i =>
   simp only [sliceBounds,HT.sIx,Option.getD_none,show (1:Int) > 0 by decide,if_true]
   by_cases h:i < 0
   ·simp only [h,if_true] <;> omega
   ·simp only [h,if_false] <;> omega
theorem Pg (its:List Value) (lo hi:Option Int):slicePick its.toArray lo hi none=((its.drop (HT.sIx its.length 0 lo)).take (HT.sIx its.length its.length hi - HT.sIx its.length 0 lo)).toArray:=by
 obtain ⟨h1,h2,h3⟩:=Rj lo hi its.toArray.size;unfold slicePick;rw [h1,h2,h3];simp only [sliceRange_one,pick_run,List.size_toArray] <;> rfl
noncomputable def Afb (K:PySem.W.Frag):V->Option Int->Option Int->Hp->VK->Prop:=fun x lo hi H Q=>∃ a xs,x=.ref a/\SqL K H a xs/\∀ p,H p=none->Q (.ref p) (upd H p (.lst (T7 xs lo hi)))
theorem qC:SlR X (Afb X.K):=by
 intro pins s σ H x v vl vu lo hi sl Q I rx hs pl pu h;obtain ⟨a,xs,rfl,hx,q⟩:=h;cases rx;obtain ⟨its,r,ht,hz⟩:=I.list hx;have hlen:=r.length
 refine ⟨"list",_,slot_list_getitem.lookup,ht.isList.typeIs,?_⟩;refine wpAny_getItem_list_slice ht.isList hs pl pu .none (by simp) ?_ (by rw [List.size_toArray] <;> omega);rw [Pg,← hlen];refine ⟨.ref s.heap.objs.size,_,I.laid (t':=s.toks) (o:=.lst (T7 xs lo hi)) (fun b ob q=>Heap.get?_push_of_some _ q) (Nat.le_refl _) ?_,rfl,q _ (I.hok.fresh (Nat.le_refl _))⟩;exact ⟨Nat.le_trans (Lg xs lo hi) hz,_,0,(r.drop (HT.sIx xs.length 0 lo)).take (HT.sIx xs.length xs.length hi - HT.sIx xs.length 0 lo),Heap.get?_push_size _ rfl⟩
theorem Rk:Bg X (.builtin "len") (fun xs H Q=>∃ p ys,xs=[.ref p]/\(SqL X.K H p ys\/SqT X.K H p ys)/\Q (.int ys.length) H):=by
 intro pins s σ H xs us Q I r h;obtain ⟨p,ys,rfl,hq,q⟩:=h;obtain ⟨u,rfl,rx⟩:=vals1 r;cases rx;have hn:=Jp;rcases hq with hq|hq
 ·obtain ⟨its,r',pl,hz⟩:=I.list hq;have hlen:=r'.length;exact Calls.call_len_list pl.isList (by simp only [List.size_toArray] <;> omega) ⟨.int ys.length,H,I.tok _,⟨s.toks+1,by rw [List.size_toArray,hlen]⟩,q⟩
 ·obtain ⟨its,r',pl,hz⟩:=I.tuple hq;have hlen:=r'.length;exact len_tuple pl (by simp only [List.size_toArray] <;> omega) ⟨.int ys.length,H,I.tok _,⟨s.toks+1,by rw [List.size_toArray,hlen]⟩,q⟩
theorem Rm:Bg X (.builtin "len") (fun xs H Q=>∃ z,xs=[.str z]/\z.length<=sizeLine/\Q (.int z.length) H):=by
 intro pins s σ H xs us Q I r h;obtain ⟨z,rfl,hz,q⟩:=h;obtain ⟨u,rfl,t,rfl⟩:=vals1 r;have hn:=Jp;exact len_str (by omega) ⟨.int z.length,H,I.tok _,⟨_,rfl⟩,q⟩
theorem Bg.or {f:Value}{r r':List V->Hp->VK->Prop}(h:Bg X f r) (h':Bg X f r'):Bg X f (fun xs H Q=>r xs H Q\/r' xs H Q):=by
 intro pins s σ H xs us Q I rs q;rcases q with q|q
 ·exact h pins s σ H xs us Q I rs q
 ·exact h' pins s σ H xs us Q I rs q
theorem Rn:Bg X (.type "list") (fun xs H Q=>∃ p ys,xs=[.ref p]/\(SqL X.K H p ys\/SqT X.K H p ys)/\∀ l,H l=none->Q (.ref l) (upd H l (.lst ys))):=by
 intro pins s σ H xs us Q I r h;obtain ⟨p,ys,rfl,hq,q⟩:=h;obtain ⟨u,rfl,rx⟩:=vals1 r;cases rx;have fin:∀ (its:List Value),Vals ys its->ys.length<=sizeLine->∀ (h':Heap) (c':Nat),(∀ b o',s.heap.get? b=some o'->h'.get? b=some o') ->
   h'.get? s.heap.objs.size=some { cls:=.type "list",dict:=none,data:=.seq its.toArray c',slots:=#[] }->EP X pins σ Q (.ref s.heap.objs.size) { s with heap:=h' }:=fun its r' hz h' c' kp e =>
  ⟨.ref s.heap.objs.size,_,I.laid (t':=s.toks) kp (Nat.le_refl _) (show Cw X.prog X.w _ h' _ (.lst ys) from ⟨hz,its,c',r',e⟩),rfl,q _ (I.hok.fresh (Nat.le_refl _))⟩
 rcases hq with hq|hq
 ·obtain ⟨its,r',pl,hz⟩:=I.list hq;have hlen:=r'.length;obtain ⟨o,ho,hc,n,hd⟩:=pl.isList;exact call_list_seq p (.inl rfl) ho hc hd (fun h' c' kp e=>fin its r' hz h' c' kp e) (by simp only [List.size_toArray] <;> omega)
 ·obtain ⟨its,r',pl,hz⟩:=I.tuple hq;have hlen:=r'.length;obtain ⟨o,ho,hc,n,hd⟩:=pl;exact call_list_seq p (.inr rfl) ho hc hd (fun h' c' kp e=>fin its r' hz h' c' kp e) (by simp only [List.size_toArray] <;> omega)
theorem Ph:Bg X (.type "tuple") (fun xs H Q=>∃ p ys,xs=[.ref p]/\((SqL X.K H p ys/\∀ l,H l=none->Q (.ref l) (upd H l (.tup ys)))\/(SqT X.K H p ys/\Q (.ref p) H))):=by
 intro pins s σ H xs us Q I r h;obtain ⟨p,ys,rfl,h⟩:=h;obtain ⟨u,rfl,rx⟩:=vals1 r;cases rx;rcases h with ⟨hq,q⟩|⟨hq,q⟩
 ·obtain ⟨its,r',pl,hz⟩:=I.list hq;have hlen:=r'.length;refine call_tuple_list pl.isList (fun h' kp=>?_) (by simp only [List.size_toArray] <;> omega);have I1:Inv X pins σ H { s with heap:=h' }:=I.kept (t':=s.toks) kp
  have I2:Inv X pins σ (upd H h'.objs.size (.tup ys)) { s with heap:=h'.push { cls:=.type "tuple",data:=.seq its.toArray } } :=
   I1.laid (t':=s.toks) (fun b o e=>Heap.get?_push_of_some _ e) (Nat.le_refl _) (show Cw X.prog X.w _ _ _ (.tup ys) from ⟨hz,its,r',Pb.new _ _⟩)
  exact ⟨.ref h'.objs.size,_,I2,rfl,q _ (I1.hok.fresh (Nat.le_refl _))⟩
 ·obtain ⟨its,r',pl,hz⟩:=I.tuple hq;exact call_tuple_same pl ⟨.ref p,H,I,rfl,q⟩
noncomputable def tyV (K:PySem.W.Frag) (T:String) (x:V) (H:Hp):Prop:=match x with
 | .str _=>T = "str"
 | .int _=>T = "int"
 | .ref p=>(T = "list"/\∃ xs,SqL K H p xs)\/(T = "tuple"/\∃ xs,SqT K H p xs) \/
   (T = "dict"/\((∃ kvs,H p=some (.dK kvs))\/∃ kvs,H p=some (.dT kvs)))\/(T = "set"/\∃ S n,H p=some (.set S n))
 | _=>False
theorem dY {pins:List (Addr×Obj)}{σ:St}{H:Hp}{s:Shared}{T:String}{x:V}{v:Value}(I:Inv X pins σ H s) (r:RelV x v) (ty:tyV X.K T x H) :
  s.TypeIs v T/\∀ a,v=.ref a->∃ ob,s.heap.get? a=some ob/\ob.dict=none:=by
 cases x with
 | str z =>
  obtain ⟨t,rfl⟩:=r
  cases (show T = "str" from ty);exact ⟨typeIs_str s z t,fun _ e=>nomatch e⟩
 | int i =>
  obtain ⟨t,rfl⟩:=r
  cases (show T = "int" from ty);exact ⟨typeIs_int s i t,fun _ e=>nomatch e⟩
 | ref p =>
  cases r;rcases ty with ⟨rfl,xs,hq⟩|⟨rfl,xs,hq⟩|⟨rfl,hk⟩|⟨rfl,S,n,hk⟩
  ·obtain ⟨its,_,pl,_⟩:=I.list hq;refine ⟨pl.isList.typeIs,fun a e=>?_⟩;cases e;obtain ⟨o,n,e,c,hd,_⟩:=pl;exact ⟨o,e,hd⟩
  ·obtain ⟨its,_,⟨o,e,c,d,n,dd⟩,_⟩:=I.tupleP hq;refine ⟨⟨o,e,c⟩,fun a e2=>?_⟩;cases e2;exact ⟨o,e,d⟩
  ·have z:∃ o,s.heap.get? p=some o/\o.ExactDict:=by
    rcases hk with ⟨kvs,hk⟩|⟨kvs,hk⟩
    ·obtain ⟨_,_,_,_,o,_,_,e,ex,_⟩:=I.hok p _ hk;exact ⟨o,e,ex⟩
    ·obtain ⟨_,_,_,_,o,_,_,e,ex,_⟩:=I.hok p _ hk;exact ⟨o,e,ex⟩
   obtain ⟨o,e,ex⟩:=z;refine ⟨⟨o,e,ex.1⟩,fun a e2=>?_⟩;cases e2;exact ⟨o,e,ex.2.1⟩
  ·obtain ⟨o,_,_,_,e,ex,_⟩:=I.hok p _ hk;refine ⟨⟨o,e,ex.1⟩,fun a e2=>?_⟩;cases e2;exact ⟨o,e,ex.2.1⟩
 | _=>exact False.elim ty
noncomputable def Afc (K:PySem.W.Frag) (T:String) (r:V->List V->Hp->VK->Prop) (to:TE):TE:=fun σ H Q=>to σ H fun x H1=>tyV K T x H1/\r x [] H1 Q
noncomputable def tBM (K:PySem.W.Frag) (T:String) (r:V->List V->Hp->VK->Prop) (to:TE) (t:TA):TE:=fun σ H Q=>to σ H fun x H1=>tyV K T x H1/\t σ H1 fun xs H2=>r x xs H2 Q
variable {o e:Expr}{es:List Expr}{to:TE}{t:TA}{name:Str}{apos cpos:Pos}{T id:String}{r:V->List V->Hp->VK->Prop}
theorem yL (pa:PlainAttrs T) (slot:Slot T name id) (hty:typeOf (.builtin id)=pure (.type "method_descriptor")) (hm:MtR X id r) (ho:PE X o to)
  (hbase:attributeBase o name X.env (eval o X.env)=eval o X.env:=by rfl) (hline:(apos.endLine==cpos.line)=true:=by rfl):PE X (.Call (.Attribute o name apos) [] [] cpos) (Afc X.K T r to):=by
 intro pins s σ H Q I h;refine wpAny_Call_method0_late hbase hline (thn (ho pins s σ H _ I h) ?_);rintro v s1 ⟨x,H1,I1,r1,ty,q1⟩;obtain ⟨h1,h2⟩:=dY I1 r1 ty;exact ⟨T,id,pa,slot,hty,h1,h2,Calls.callWith_builtin rfl (PySem.evalArgs_none (hm pins s1 σ H1 x [] v [] Q I1 r1 .nil q1))⟩
theorem Ac8 (pa:PlainAttrs T) (slot:Slot T name id) (hty:typeOf (.builtin id)=pure (.type "method_descriptor")) (hm:MtR X id r) (ho:PE X o to) (ha:PA X (e::es) t)
  (hbase:attributeBase o name X.env (eval o X.env)=eval o X.env:=by rfl)
  (hfew:((backTo cpos (starEach (e::es) X.env)).all (fun x=>!x.1)&&(backToKw cpos (keywordEach [] X.env)).all (fun x=>x.1.isSome)
   && decide ((e::es).length+([]:List Keyword).length+(if ([]:List Keyword).isEmpty then 0 else 1) < 30))=true:=by rfl)
  (hline:(apos.endLine==cpos.line)=true:=by rfl) (hs:starEach (e::es) X.env=(false,eval e X.env)::starEach es X.env:=by rfl) (hplain:(backTo cpos (starEach es X.env)).any (·.1)=false:=by rfl) :
  PE X (.Call (.Attribute o name apos) (e::es) [] cpos) (tBM X.K T r to t):=by
 intro pins s σ H Q I h;refine wpAny_Call_method_late hbase hfew hline rfl (thn (ho pins s σ H _ I h) ?_);rintro v s1 ⟨x,H1,I1,r1,ty,q1⟩;obtain ⟨h1,h2⟩:=dY I1 r1 ty;refine ⟨T,id,pa,slot,hty,h1,h2,?_⟩;have hA:=ha cpos pins s1 σ H1 _ I1 q1;rw [hs] at hA ⊢;refine Calls.callWith_builtin (by show (false || (backTo cpos (starEach es X.env)).any (·.1))=false;rw [hplain] <;> rfl) (Calls.evalArgs_plain ?_);refine thn hA ?_;rintro us s2 ⟨vs,H2,I2,r2,q2⟩;exact hm pins s2 σ H2 x vs v us Q I2 r1 r2 q2
end
noncomputable def MtM (X:Cx) (id:String) (r:V->List V->Hp->VK->Prop):Prop :=
 ∀ (pins:List (Addr×Obj)) (s:Shared) (σ:St) (H:Hp) (x:V) (xs:List V) (v:Value) (us:List Value) (Q:VK),Inv X pins σ H s->RelV x v->Vals xs us->r x xs H Q ->
  wpAny (model X.prog X.w) X.A (call (.builtin id) (v::us)) (EP X pins σ Q) X.xe s
theorem Vals.one {x:V}{us:List Value}(h:Vals [x] us):∃ u,us=[u]/\RelV x u:=by
 cases h with
 | cons r t=>cases t;exact ⟨_,rfl,r⟩
theorem Vals.two {x y:V}{us:List Value}(h:Vals [x,y] us):∃ u v,us=[u,v]/\RelV x u/\RelV y v:=by
 cases h with
 | cons r t =>
  obtain ⟨v,e,q⟩:=Vals.one t;subst e;exact ⟨_,_,rfl,r,q⟩
theorem Vals.zero:∀ {us:List Value},Vals [] us->us=[]
 | _,.nil=>rfl
theorem Vals.dropLast {xs:List V}{us:List Value}(h:Vals xs us):Vals xs.dropLast us.dropLast:=by
 induction h with
 | nil=>exact .nil
 | cons r t ih =>
  cases t with
  | nil=>exact .nil
  | cons q t'=>exact .cons r ih
theorem Vals.eraseIdx:∀ {xs:List V}{us:List Value}(i:Nat),Vals xs us->Vals (xs.eraseIdx i) (us.eraseIdx i)
 | _,_,_,.nil=>.nil
 | _,_,0,.cons _ t=>t
 | _,_,i+1,.cons r t=>.cons r (Vals.eraseIdx i t)
theorem Vals.reverse {xs:List V}{us:List Value}(h:Vals xs us):Vals xs.reverse us.reverse:=by
 induction h with
 | nil=>exact .nil
 | cons r t ih=>rw [List.reverse_cons,List.reverse_cons];exact Vals.append ih (.cons r .nil)
theorem W0 {α:Type}(l:List α):l.eraseIdx (l.length - 1)=l.dropLast:=by
 induction l with
 | nil=>rfl
 | cons a r ih =>
  cases r with
  | nil=>rfl
  | cons b r =>
   have e:(a::b::r).length - 1=((b::r).length - 1)+1:=by
    have h1:(a::b::r).length=r.length+2:=rfl;have h2:(b::r).length=r.length+1:=rfl;omega
   rw [e,List.eraseIdx_cons_succ,ih]
   all_goals rfl
theorem Qe {α:Type}:∀ (l:List α) (i:Nat),(l.eraseIdx i).length<=l.length
 | [],_=>Nat.le_refl _
 | _::_,0=>Nat.le_succ _
 | _::r,i+1=>Nat.succ_le_succ (Qe r i)
section
variable {X:Cx}{pins:List (Addr×Obj)}{σ:St}{H:Hp}{s:Shared}{l b:Addr}{xs ys zs:List V}
theorem Inv.lset {its its':List Value}{n:Nat}{f:Array Value->Array Value}{t':Nat}(I:Inv X pins σ H s) (hH:H l=some (.lst xs))
  (e:s.heap.get? l=some { cls:=.type "list",data:=.seq its.toArray n }) (hf:f its.toArray=its'.toArray) (hv:Vals ys its') (hz:ys.length<=sizeLine) :
  Inv X pins σ (upd H l (.lst ys)) { s with heap:=s.heap.update l (Obj.mapSeq f),toks:=t' }:=by
 have q:=PySem.IsL.update e f;rw [hf] at q;refine I.write (x:=l) (e:=l) (by rw [hH];exact trivial) (.inl rfl) (fun b' u hb hu=>(Heap.get?_update_other s.heap (Obj.mapSeq f) (Ne.symm hb)).trans hu) ⟨_,q⟩ ?_;exact ⟨hz,its',_,hv,q⟩
theorem Inv.lnew {its:List Value}{t':Nat}(I:Inv X pins σ H s) (hv:Vals ys its) (hz:ys.length<=sizeLine) :
  Inv X pins σ (upd H s.heap.objs.size (.lst ys)) { s with heap:=s.heap.push { cls:=.type "list",data:=.seq its.toArray },toks:=t' } :=
 I.laid (fun _ _ q=>Heap.get?_push_of_some _ q) (Nat.le_refl _) ⟨hz,its,0,hv,Heap.get?_push_size _ rfl⟩
theorem Inv.fresh (I:Inv X pins σ H s):H s.heap.objs.size=none:=I.hok.fresh (Nat.le_refl _)
theorem Inv.lstM (I:Inv X pins σ H s) (hH:H l=some (.lst xs)):xs.length<=sizeLine/\∃ (its:List Value) (n:Nat),Vals xs its/\xs.length=its.length/\s.heap.get? l=some { cls:=.type "list",data:=.seq its.toArray n }:=by
 obtain ⟨z,its,n,r,e⟩:=I.hok l _ hH;exact ⟨z,its,n,r,r.length,e⟩
theorem T8 {n:Nat}(h:n<=sizeLine):Builtin.List.listTooLong n=false:=by
 unfold Builtin.List.listTooLong;exact decide_eq_false (by omega)
end
section
variable {X:Cx}
noncomputable def qD:V->List V->Hp->VK->Prop:=fun x vs H Q=>∃ l xs y,x=.ref l/\vs=[y]/\H l=some (.lst xs)/\xs.length < sizeLine/\Q .non (upd H l (.lst (xs++[y])))
theorem Z9:MtM X "list.append" qD:=by
 intro pins s σ H x vs v us Q I rx rv h;obtain ⟨l,xs,y,rfl,rfl,hH,hz,q⟩:=h;cases rx;obtain ⟨u,rfl,ru⟩:=rv.one;obtain ⟨z,its,n,r,hl,e⟩:=I.lstM hH;refine call_meets F.slot_list_append ⟨_,e,rfl⟩ F.entry_list_append (F.args_list_append_2 _ _) (PySem.list_append l its.toArray n u (by rw [List.size_toArray];omega)) ⟨e,?_⟩;refine ⟨.non,_,I.lset (its':=its++[u]) hH e (by simp) (r.append (.cons ru .nil)) ?_,rfl,q⟩;rw [List.length_append,List.length_singleton];omega
noncomputable def qF:V->List V->Hp->VK->Prop:=fun x vs H Q=>∃ l b xs zs,x=.ref l/\vs=[.ref b]/\H l=some (.lst xs)/\H b=some (.lst zs)/\xs.length+zs.length<=sizeLine/\Q .non (upd H l (.lst (xs++zs)))
theorem aA:MtM X "list.extend" qF:=by
 intro pins s σ H x vs v us Q I rx rv h;obtain ⟨l,b,xs,zs,rfl,rfl,hH,hB,hz,q⟩:=h;cases rx;obtain ⟨u,rfl,ru⟩:=rv.one;cases ru;obtain ⟨z,its,n,r,hl,e⟩:=I.lstM hH;obtain ⟨z2,its2,n2,r2,hl2,e2⟩:=I.lstM hB;have hsz:its.toArray.size+its2.toArray.size<=sizeLine:=by rw [List.size_toArray,List.size_toArray];omega
 have hlong:¬ (!its.toArray.isEmpty&&Builtin.List.listTooLong (its.toArray.size+its2.toArray.size))=true:=by
  rw [T8 hsz,Bool.and_false];exact Bool.false_ne_true
 refine call_meets F.slot_list_extend ⟨_,e,rfl⟩ F.entry_list_extend (F.args_list_extend_2 _ _)
  (AutoSeq1.list_extend_list_list_0 l its.toArray n b its2.toArray n2 hlong (by rw [List.size_toArray];omega) (by omega)) ⟨e,e2,?_⟩
 refine ⟨.non,_,I.lset (its':=its++its2) hH e (by simp) (r.append r2) ?_,rfl,q⟩;rw [List.length_append];omega
noncomputable def Afd:V->List V->Hp->VK->Prop:=fun x vs H Q=>∃ l xs y,x=.ref l/\vs=[]/\H l=some (.lst xs)/\xs[xs.length - 1]?=some y/\Q y (upd H l (.lst xs.dropLast))
theorem yM:MtM X "list.pop" Afd:=by
 intro pins s σ H x vs v us Q I rx rv h;obtain ⟨l,xs,y,rfl,rfl,hH,hy,q⟩:=h;cases rx;have hus:=rv.zero;subst hus;obtain ⟨z,its,n,r,hl,e⟩:=I.lstM hH;obtain ⟨u,hu,ru⟩:=r.get hy;have hy':its.toArray[its.toArray.size - 1]?=some u:=by
  show its.toArray[its.length - 1]?=some u;rw [← Array.getElem?_toList,← hl];exact hu
 refine call_meets F.slot_list_pop ⟨_,e,rfl⟩ F.entry_list_pop (F.args_list_pop_1 _) (MeetsSeq.list_pop_last l its.toArray n u hy' (by rw [List.size_toArray];omega)) ⟨e,?_⟩;refine ⟨y,_,I.lset (its':=its.dropLast) hH e ?_ r.dropLast ?_,ru,q⟩
 ·show its.toArray.eraseIdxIfInBounds (its.toArray.size - 1)=its.dropLast.toArray;rw [List.size_toArray,List.eraseIdxIfInBounds_toArray,W0]
 ·rw [List.length_dropLast];omega
noncomputable def yN:V->List V->Hp->VK->Prop:=fun x vs H Q=>∃ l xs i k y,x=.ref l/\vs=[.int i]/\H l=some (.lst xs)/\-(2 ^ 63)<=i/\i < 2 ^ 63/\seqIndex? i xs.length=some k/\xs[k]?=some y/\Q y (upd H l (.lst (xs.eraseIdx k)))
theorem dZ:MtM X "list.pop" yN:=by
 intro pins s σ H x vs v us Q I rx rv h;obtain ⟨l,xs,i,k,y,rfl,rfl,hH,h1,h2,hk,hy,q⟩:=h;cases rx;obtain ⟨u,rfl,ru⟩:=rv.one;obtain ⟨t,rfl⟩:=ru;obtain ⟨z,its,n,r,hl,e⟩:=I.lstM hH;obtain ⟨w,hw,rw'⟩:=r.get hy;refine call_meets F.slot_list_pop ⟨_,e,rfl⟩ F.entry_list_pop (F.args_list_pop_2 _ _)
  (MeetsSeq.list_pop_at l its.toArray n i t k w (fitsIndex_both h1 h2) (by rw [List.size_toArray,← hl];exact hk) (by rw [← Array.getElem?_toList];exact hw) (by rw [List.size_toArray];omega)) ⟨e,?_⟩
 refine ⟨y,_,I.lset (its':=its.eraseIdx k) hH e ?_ (r.eraseIdx k) ?_,rw',q⟩
 ·show its.toArray.eraseIdxIfInBounds k=(its.eraseIdx k).toArray;rw [List.eraseIdxIfInBounds_toArray]
 ·have:=Qe xs k;omega
noncomputable def Afe:R2:=fun x y H Q=>∃ l b xs zs,x=.ref l/\y=.ref b/\H l=some (.lst xs)/\H b=some (.lst zs)/\xs.length+zs.length<=sizeLine/\∀ p,H p=none->Q (.ref p) (upd H p (.lst (xs++zs)))
theorem yO:OpR X (binaryOp .Add) Afe:=by
 intro pins s σ H x y v u Q I rx ry h;obtain ⟨l,b,xs,zs,rfl,rfl,hH,hB,hz,q⟩:=h;cases rx;cases ry;obtain ⟨z,its,n,r,hl,e⟩:=I.lstM hH;obtain ⟨z2,its2,n2,r2,hl2,e2⟩:=I.lstM hB;refine PySem.P.add_list e e2 ?_ (by rw [List.size_toArray,List.size_toArray];omega);have ea:its.toArray++its2.toArray=(its++its2).toArray:=by simp
 rw [ea];exact ⟨.ref _,_,I.lnew (t':=s.toks) (r.append r2) (by rw [List.length_append];omega),rfl,q _ I.fresh⟩
end
section
variable {prog:Program}{w:World}{A:Around}{E:Value->Shared->Prop}{s:Shared}
end
section
variable {X:Cx}
end
end L2
namespace Att
open PySem PySem.W PySem.Calls PyProof.Rows
theorem Ml {P:Params}{h:Heap}:∀ (ns:List Int) (vs:List Value),WellAll P h vs (ns.map WData.int)->IntsAre vs ns:=by
 intro ns
 induction ns with
 | nil =>
  intro vs w;rw [List.map_nil] at w;cases w;exact .nil
 | cons n ns ih =>
  intro vs w;rw [List.map_cons] at w;cases w with
  | cons a b =>
   cases a;exact .cons _ _ (ih _ b)
theorem aB {l:OpenLaw}{n:Nat}(hn:l.most=some n) {P:Params}{h:Heap}{args:List WData}{vals:List Value}
  (hpre:l.row.toRowW.claim.pre args=true) (hwl:WellAll P h vals args) :
  ∃ a vs ns,vals=[Value.ref a]/\args=[WData.list (ns.map WData.int)]/\h.get? a=some { cls:=.type "list",data:=.seq vs.toArray }/\IntsAre vs ns/\ns.length<=n:=by
 have hsh:WShape.hasAll [] args [.list .int]=true:=(pre_splitW hpre).1;have hc:l.pre.holds [] { args:=args }=true:=(pre_splitW hpre).2;obtain ⟨d,r,rfl,h1,h2⟩:=hasAllW_cons hsh;obtain rfl:=hasAllW_nil h2;obtain ⟨xs,rfl,h3⟩:=hasW_list h1;obtain ⟨ns,rfl⟩:=items_int h3;have hlen:ns.length<=n:=by
  unfold OpenLaw.pre at hc;have h4:(WTm.not (.lt (.lit (.int (n:Int))) (.len (.arg 0)))).holds [] { args:=[.list (ns.map .int)] }=true:=by
   have h4:=(holds_andW hc).1;rw [hn] at h4;exact h4
  have h5:=condW_of h4 (w_not (w_lt w_lit (w_len_list (w_arg rfl))));rw [List.length_map] at h5;refine Nat.le_of_not_lt fun q=>?_
  have q':(n:Int) < ((ns.length:Nat):Int):=by omega
  first
   | (rw [decide_eq_true q'] at h5;exact absurd h5 (by decide))
   | (simp at h5;omega)
 cases hwl with
 | cons w1 w2 =>
  cases w2;cases w1 with
  | list ho hall=>exact ⟨_,_,ns,rfl,rfl,ho,Ml ns _ hall,hlen⟩
theorem aC (l:OpenLaw) (args:List WData):l.row.toRowW.claim.post args (.bool true) args=true :=
 postW_of (r:=l.row.toRowW) (X:=(true==true))
  (show WShape.has [] (.bool true) .bool=true by first | rfl | decide | simp [WShape.has,WShape.arms,WShape.armsAll])
  (show (WTm.eq .res (.lit (.bool true))).value [] { args:=args,res:=some (.bool true),after:=args }=some (.bool (true==true)) from w_eq_bool (w_res rfl) w_lit) rfl
theorem attach_call {l:OpenLaw}{n:Nat}{q:Program}{loose:List Str}{XP:(Str->Option Value)->Heap->Prop}{YP:World->Heap->Prop}{d:DefRec}
  (hn:l.most=some n) (hdf:d.params.defaults=[])
  (call:∀ (w:World) (s₀ s₁:Shared) (mg mb:Str->Option Value) (fa:Addr) (o:Obj) (pm cd doc:Value) (a:Addr) (vs:List Value) (ns:List Int),
   Ground q loose [] XP w s₀ mg mb s₁.heap->YP w s₁.heap ->
   s₁.heap.get? fa=some o->o.data=.func (docDef d.name d.params d.body d.scope pm cd doc)->s₁.heap.CodeRec cd d.name->mg d.name=some (.ref fa) ->
   s₁.heap.get? a=some { cls:=.type "list",data:=.seq vs.toArray }->IntsAre vs ns->ns.length<=n->s₁.gens=#[] ->
   codeAny (model l.prog w) callerA (.call (.ref fa) ⟨[.ref a],[]⟩) (fun r s'=>r=.ok (.ret (.bool true))/\OldK s₁.heap s'.heap/\s'.os=s₁.os/\AllBare s'.gens) s₁) :
  WalkO q loose XP YP l.row.toRowW d [] (fun f vs=>PySem.call f vs):=by
 intro w s₀ s₁ mg mb G Y fa o pm cd doc dV kV ho hd hcd hD hmg hg args vals as hpre hlay hrd hwl hlo;obtain rfl:dV=.none:=Dflts.none hD hdf;obtain rfl:kV=.none:=Dflts.noKw hD;obtain ⟨a,vs,ns,rfl,rfl,hobj,hints,hlen⟩:=aB hn hpre hwl;refine enter_call (codeAny_mono (call w s₀ s₁ mg mb fa o pm cd doc a vs ns G Y ho (fd_plain hd) hcd hmg hobj hints hlen hg) fun r s' hq=>?_);obtain ⟨rfl,h2,h3,h4⟩:=hq;exact ⟨.inl ⟨.bool true,.bool true,[],rfl,fun _=>rfl,.bool true,aC l _,fun _=>⟨List.Pairwise.nil,fun _ hm=>(nomatch hm)⟩⟩,h2,h3,h4⟩
section
variable {prog:Program}{w:World}{A:Around}{E:Value->Shared->Prop}{s:Shared}{K:Frag}
end
end Att
namespace L2
open PySem PySem.Spec PyProof.Rows
theorem Ez:∀ {vs:List Value}{ns:List Int},IntsAre vs ns->Vals (ns.map V.int) vs
 | _,_,.nil=>.nil
 | _,_,.cons n t h=>.cons ⟨t,rfl⟩ (Ez h)
noncomputable def Only (H:Hp):Prop:=∀ b,H b=none\/∃ o xs,H b=some (.frz o (.lst xs))
theorem eE {P:Program}{w:World}{K:PySem.W.Frag}{mg mb:Str->Option Value}{CX:CXT}{k:Nat}{fa a:Addr}{fd:FuncData}{x:Str}{sp:Sp}{s₁:Shared}{vs:List Value}{ns:List Int}
  (KX:K.In s₁.heap) (hns:s₁.heap.Ns mainGlobals mg) (hb:s₁.heap.Ns builtinsNs mb) (hbb:∀ x:Str,x ≠ "__name__"->mb x=bootBuiltins x) (hlim:s₁.heap.NoLimit) (hg:s₁.gens=#[])
  (ha:s₁.heap.get? a=some { cls:=.type "list",data:=.seq vs.toArray }) (hi:IntsAre vs ns) (hl:ns.length<=sizeLine) (hr:Room k callerA)
  (F:∀ base:Heap,K.In base->base.Ns mainGlobals mg->FnOk P w K mg base CX k fa fd [x] sp) (hbind:∀ (s:Shared) (u:Value),BindsTo s fd ⟨[u],[]⟩ [(x,u)])
  (hsp:∀ H:Hp,Only H->SqL K H a (ns.map V.int)->sp [.ref a] H (fun v _=>v=.bl true) fun _ _ _=>False)
  (hCX:∀ H e s',CX [] H s₁ (fun _ _ _=>False) e s'->False) :
  codeAny (model P w) callerA (.call (.ref fa) ⟨[.ref a],[]⟩) (fun r s'=>r=.ok (.ret (.bool true))/\OldK s₁.heap s'.heap/\s'.os=s₁.os/\AllBare s'.gens) s₁:=by
 have rv:=Ez hi;have lenV:=hi.length
 -- from an abstract heap in which nothing but the script may be tracked
 have core:∀ H:Hp,Only H->SqL K H a (ns.map V.int)->HOk P w H s₁.heap->(∀ b,H b≠none->b=a)->(H a≠none->K.lookup a=none) ->
   codeAny (model P w) callerA (.call (.ref fa) ⟨[.ref a],[]⟩) (fun r s'=>r=.ok (.ret (.bool true))/\OldK s₁.heap s'.heap/\s'.os=s₁.os/\AllBare s'.gens) s₁:=by
  intro H hO hS hok hA hK;have base_of:∀ {b:Addr} {o:Obj},s₁.heap.get? b=some o->H b=none->(Ra s₁.heap H).get? b=some o:=fun e n=>cV e n
  have noA:∀ {b:Addr} {o:Obj} {es:Array DictEntry} {ep:Nat},s₁.heap.get? b=some o->o.data=.dict es ep->H b=none:=fun {b o es ep} e d=>by
   cases q:H b with
   | none=>rfl
   | some u =>
    have e':b=a:=hA b (by rw [q];simp);subst e';rw [ha] at e;cases e;have d':Data.seq vs.toArray _=Data.dict es ep:=d;cases d'
  have nsK:∀ {b:Addr} {m:Str->Option Value},s₁.heap.Ns b m->(Ra s₁.heap H).Ns b m:=fun {b m} ⟨o,es,ep,e,d,r⟩=>⟨o,es,ep,base_of e (noA e d),d,r⟩
  have hKb:K.In (Ra s₁.heap H):=fun b o e=>base_of (KX b o e) (by
   cases q:H b with
   | none=>rfl
   | some u =>
    have e':b=a:=hA b (by rw [q];simp);subst e'
    rw [hK (by rw [q];simp)] at e;cases e)
  have hM:Mod K mg (Ra s₁.heap H):=⟨hKb,nsK hns,⟨mb,nsK hb,hbb⟩,let ⟨mc,h1,h2⟩:=hlim;⟨mc,nsK h1,h2⟩⟩;have e0:Env0 P w K mg (Ra s₁.heap H) callerA [] s₁ H:=⟨rfl,hM,fun b o e=>pH e,Nat.le_of_eq (Z1 _ _),trivial,fun b hb=>absurd (show b∈([]:List Addr) from hb) (by simp),hok,.of_eq hg⟩;refine codeAny_mono ((F _ hKb (nsK hns)).run callerA [] s₁ H ⟨[.ref a],[]⟩ [.ref a] [.ref a] _ _ hr e0 (hbind s₁ (.ref a)) (.cons rfl .nil) (hsp H hO hS)) fun r s' h=>?_
  cases r with
  | error e=>exact (hCX H e s' h).elim
  | ok fl =>
   cases fl with
   | next=>exact False.elim h
   | brk=>exact False.elim h
   | cont=>exact False.elim h
   | ret u =>
    obtain ⟨v,H',os,bare,un,hok',r',q⟩:=h;have q':v=.bl true:=q;subst q';obtain rfl:u=Value.bool true:=r';refine ⟨rfl,OldK.of_keep fun b o e=>?_,os,bare⟩;cases q:H b with
    | none=>exact un.keep b o e q (by intro z;exact absurd (show b∈([]:List Addr) from z) (by simp)) (by simp)
    | some u =>
     rcases hO b with z|⟨ob,xs,z⟩
     ·rw [q] at z;cases z
     ·have z2:=un.frzs b ob _ z;obtain ⟨e1,_⟩:=hok b _ z;obtain ⟨e2,_⟩:=hok' b _ z2;rw [e] at e1;cases e1;exact e2
 cases hk:K.lookup a with
 | some o =>
  -- the script is one of the module's own objects
  have e:=KX a o hk;rw [ha] at e;cases e;refine core (fun _=>none) (fun _=>.inl rfl) (.inr ⟨_,vs.toArray,_,hk,rfl,rfl,rfl,by rw [List.size_toArray,lenV];exact hl,by simpa using rv⟩) (fun b u z=>by have z':(none:Option HO)=some u:=z;cases z') (fun b z=>absurd rfl z) fun z=>absurd rfl z
 | none =>
  refine core (fun b=>if b=a then some (.frz { cls:=.type "list",data:=.seq vs.toArray } (.lst (ns.map V.int))) else none) (fun b=>?_) (.inl (.inr ⟨{ cls:=.type "list",data:=.seq vs.toArray },if_pos rfl⟩)) (fun b u z=>?_) (fun b z=>?_) fun _=>hk
  ·by_cases hb:b=a
   ·exact .inr ⟨_,_,if_pos hb⟩
   ·exact .inl (if_neg hb)
  ·by_cases hb:b=a
   ·have z':=(if_pos hb).symm.trans z;cases z';subst hb;exact ⟨ha,by rw [List.length_map];exact hl,vs,_,rv,ha⟩
   ·have z':=(if_neg hb).symm.trans z;cases z'
  ·by_cases hb:b=a
   ·exact hb
   ·exact absurd (if_neg hb) z
theorem qG {l:PySem.W.OpenLaw}{n k:Nat}{q:Program}{loose:List Str}{XP:(Str->Option Value)->Heap->Prop}{YP:World->Heap->Prop}{d:DefRec}{K:Params->PySem.W.Frag}{CX:World->CXT}{sp:World->Sp}{x:Str}
  (hn:l.most=some n) (hn2:n<=sizeLine) (hdf:d.params.defaults=[]) (hr:Room k callerA)
  (hY:∀ (w:World) (h:Heap),YP w h->(K w.params).In h)
  (F:∀ (w:World) (mg:Str->Option Value) (fa:Addr) (h:Heap),(K w.params).In h->h.Ns mainGlobals mg->mg d.name=some (.ref fa) ->
   ∃ fd:FuncData,(∀ (s:Shared) (u:Value),BindsTo s fd ⟨[u],[]⟩ [(x,u)]) /\
    ∀ base:Heap,(K w.params).In base->base.Ns mainGlobals mg->FnOk l.prog w (K w.params) mg base (CX w) k fa fd [x] (sp w))
  (hsp:∀ (w:World) (H:Hp) (a:Addr) (ns:List Int),ns.length<=n->Only H->SqL (K w.params) H a (ns.map V.int)->sp w [.ref a] H (fun v _=>v=.bl true) fun _ _ _=>False)
  (hCX:∀ (w:World) (H:Hp) (s:Shared) (e:Value) (s':Shared),CX w [] H s (fun _ _ _=>False) e s'->False) :
  PySem.W.WalkO q loose XP YP l.row.toRowW d [] (fun f vs=>PySem.call f vs):=by
 refine Att.attach_call hn hdf fun w s₀ s₁ mg mb fa o pm cd doc a vs ns G Y ho hd hcd hmg hobj hints hlen hg=>?_
 have KX:=hY w _ Y;obtain ⟨fd,hb,hF⟩:=F w mg fa _ KX G.T.g hmg;exact eE KX G.T.g G.T.b G.T.builtins G.T.nolimit hg hobj hints (Nat.le_trans hlen hn2) hr hF hb (fun H hO hS=>hsp w H a ns hlen hO hS) fun H e s'=>hCX w H s₁ e s'
noncomputable def Es (s:Stmt):Arguments:=match s with
 | .FunctionDef _ a _ _ _ _ _ _ _ _=>a
 | _=>{ posonlyargs:=[],args:=[],vararg:=none,kwonlyargs:=[],kw_defaults:=[],kwarg:=none,defaults:=[] }
noncomputable def Cz (s:Stmt):List Stmt:=match s with
 | .FunctionDef _ _ b _ _ _ _ _ _ _=>b
 | _=>[]
noncomputable def Ba (s:Stmt):Scope:=match s with
 | .FunctionDef _ _ _ _ _ _ sc _ _ _=>sc
 | _=>{ kind:=.function,names:=[],isGenerator:=false,isCoroutine:=false }
noncomputable abbrev CX0:CXT:=fun _ _ _ _ _ _=>False
noncomputable abbrev E0:XK:=fun _ _ _=>False
theorem vB {X:Cx}:Kw CX0 X E0:=fun _ _ _ _ _ _ _ h=>h.elim
structure Fun (K:PySem.W.Frag) (x qual:Str) (st:Stmt) (f:Addr) (fd:FuncData):Prop where
 ex:∃ (oc:Value) (od:Option Addr) (kV doc pm:Value) (an:Option Addr) (cdv ct:Value) (osl:Array (Option Value)),
  fd=PySem.W.fnOf x qual (Es st) (Cz st) (Ba st) .none kV doc pm an cdv ct/\K.lookup f=some ⟨oc,od,.func fd,osl⟩/\PySem.W.codeIn K cdv qual=true
 kp:PySem.W.keepIn K (.ref f)=true
section
variable {P:Program}{w:World}{K:PySem.W.Frag}{mg:Str->Option Value}{base:Heap}
theorem Fun.ok {x qual:Str}{st:Stmt}{f:Addr}{fd:FuncData}{N ps:List Str}{k:Nat}{sp:Sp}(F:Fun K x qual st f fd) (S:FnScope N ps (Ba st)) (len:∀ vs H Q E,sp vs H Q E->vs.length=ps.length)
  (hbody:∀ (cdv:Value) (A:Around) (outer:List Env) (s:Shared) (H:Hp) (vs:List V) (Q:VK) (E:XK),Room k (A.deeper (envOfC qual (Ba st) s.heap.objs.size f cdv))->sp vs H Q E ->
   ∃ t,PSs (Z7 CX0 P w K mg base N qual (Ba st) f cdv A outer s H E).nox (Cz st) t/\t { nx:=fun _ H'=>Q .non H',rt:=Q } (start N vs) H):FnOk P w K mg base CX0 (k+1) f fd ps sp:=by
 obtain ⟨oc,od,kV,doc,pm,an,cdv,ct,osl,rfl,lk,hcd⟩:=F.ex;refine Ac1 lk hcd S len fun A outer s H vs Q E hr hsp=>?_
 obtain ⟨t,h,q⟩:=hbody cdv A outer s H vs Q E hr hsp;exact ⟨t,h.nox,q⟩
theorem yP {x qual:Str}{st:Stmt}{f:Addr}{oc:Value}{od an:Option Addr}{osl:Array (Option Value)}{kV doc pm cdv ct:Value}(l:K.lookup f=some ⟨oc,od,.func (PySem.W.fnOf x qual (Es st) (Cz st) (Ba st) .none kV doc pm an cdv ct),osl⟩)
  (c:PySem.W.codeIn K cdv qual=true) (k:PySem.W.keepIn K (.ref f)=true):Fun K x qual st f (PySem.W.fnOf x qual (Es st) (Cz st) (Ba st) .none kV doc pm an cdv ct):=⟨⟨oc,od,kV,doc,pm,an,cdv,ct,osl,rfl,l,c⟩,k⟩
end
section
variable {X:Cx}
end
theorem Ro {A B:Prop}(h:B):if false=true then A else B:=by
 rw [if_neg Bool.false_ne_true];exact h
theorem Rp {A B:Prop}(h:A):if true=true then A else B:=by
 rw [if_pos rfl];exact h
section
variable {κ:Type} [DecidableEq κ]
noncomputable def Ky (kvs:List (κ×V)) (k:κ):Option V:=(kvs.find? fun kv=>decide (kv.1=k)).map (·.2)
noncomputable def putK (kvs:List (κ×V)) (k:κ) (v:V):List (κ×V) :=
 if (kvs.any fun kv=>decide (kv.1=k))=true then kvs.map (fun kv=>if kv.1=k then (kv.1,v) else kv) else kvs++[(k,v)]
theorem Nb {p:κ×V}{r:List (κ×V)}{k:κ}(e:p.1=k):Ky (p::r) k=some p.2:=by simp [Ky,List.find?_cons,e]
theorem Nf {p:κ×V}{r:List (κ×V)}{k:κ}(e:¬ p.1=k):Ky (p::r) k=Ky r k:=by simp [Ky,List.find?_cons,e]
theorem T9 (kvs:List (κ×V)) (k:κ) (v:V):(putK kvs k v).length<=kvs.length+1:=by
 unfold putK;split
 ·rw [List.length_map];omega
 ·rw [List.length_append,List.length_cons,List.length_nil];omega
theorem Q9.isSome_eq {o:Option V}{u:Option Value}(r:Q9 o u):o.isSome=u.isSome:=by
 cases o with
 | none=>cases u with
  | none=>rfl
  | some _=>exact (show False from r).elim
 | some _=>cases u with
  | none=>exact (show False from r).elim
  | some _=>rfl
theorem KV.val {kvs:List (κ×V)}{vs:List (κ×Value)}(r:KV kvs vs) (k:κ):Q9 (Ky kvs k) (valueAt vs k):=by
 unfold KV at r
 induction r with
 | nil=>exact True.intro
 | @cons p q ps qs h t ih =>
  obtain ⟨h1,h2⟩:=h
  by_cases e:p.1=k
  ·have e':q.1=k:=h1.symm.trans e;have b:valueAt (q::qs) k=some q.2:=by simp [valueAt,List.find?_cons,e']
   rw [Nb e,b];exact h2
  ·have e':¬ q.1=k:=fun z=>e (h1.trans z)
   have b:valueAt (q::qs) k=valueAt qs k:=by simp [valueAt,List.find?_cons,e']
   rw [Nf e,b];exact ih
theorem KV.any {kvs:List (κ×V)}{vs:List (κ×Value)}(r:KV kvs vs) (k:κ):(kvs.any fun kv=>decide (kv.1=k))=vs.any fun kv=>decide (kv.1=k):=by
 unfold KV at r
 induction r with
 | nil=>rfl
 | cons h t ih=>rw [List.any_cons,List.any_cons,ih,h.1]
theorem KV.repl {kvs:List (κ×V)}{vs:List (κ×Value)}(r:KV kvs vs) (k:κ) {y:V}{u:Value}(ry:RelV y u) :
  KV (kvs.map fun kv=>if kv.1=k then (kv.1,y) else kv) (vs.map fun kv=>if kv.1=k then (kv.1,u) else kv):=by
 unfold KV at r ⊢
 induction r with
 | nil=>exact .nil
 | @cons p q ps qs h t ih =>
  rw [List.map_cons,List.map_cons];refine .cons ?_ ih;obtain ⟨h1,h2⟩:=h
  by_cases e:p.1=k
  ·rw [if_pos e,if_pos (h1.symm.trans e)];exact ⟨h1,ry⟩
  ·rw [if_neg e,if_neg (fun z=>e (h1.trans z))];exact ⟨h1,h2⟩
theorem KV.put {kvs:List (κ×V)}{vs:List (κ×Value)}(r:KV kvs vs) (k:κ) {y:V}{u:Value}(ry:RelV y u):KV (putK kvs k y) (stored vs k u):=by
 unfold putK stored;rw [r.any k]
 by_cases e:(vs.any fun kv=>decide (kv.1=k))=true
 ·rw [if_pos e,if_pos e];exact r.repl k ry
 ·rw [if_neg e,if_neg e];exact Paired.snoc r ⟨rfl,ry⟩
end
theorem Yo {P:Program}{w:World}{k:Key}{u:Value}(r:RelV (kV k) u):(Bm P w).is k u=true:=by
 cases k with
 | inl i=>obtain ⟨t,e⟩:=(show ∃ t,u=Value.int i t from r);subst e;exact Tw P w i t
 | inr x=>obtain ⟨t,e⟩:=(show ∃ t,u=Value.str x t from r);subst e;exact Tz P w x t
theorem Io {P:Program}{w:World}:∀ {ks:List Key}{us:List Value},Vals (ks.map kV) us->ItemsAre (Bm P w) ks us
 | [],_,r=>by rw [List.map_nil] at r;cases r;exact .nil
 | k::ks,_,r=>by
  rw [List.map_cons] at r;cases r with
  | cons h t=>exact .cons (Yo h) (Io t)
noncomputable abbrev KT (H:Hp):List (List Key×V)->List (List Key×Addr×Value)->Prop:=Paired fun p q=>p.1=q.1/\H q.2.1=some (.tup (p.1.map kV))/\RelV p.2 q.2.2
theorem KT.val {H:Hp}{kvs:List (List Key×V)}{xs:List (List Key×Addr×Value)}(r:KT H kvs xs) (k:List Key):Q9 (Ky kvs k) ((atKey xs k).map (·.2)):=by
 induction r with
 | nil=>exact True.intro
 | @cons p q ps qs h t ih =>
  obtain ⟨h1,_,h2⟩:=h
  by_cases e:p.1=k
  ·have e':q.1=k:=h1.symm.trans e;have b:atKey (q::qs) k=some q.2:=by simp [atKey,List.find?_cons,e']
   rw [Nb e,b];exact h2
  ·have e':¬ q.1=k:=fun z=>e (h1.trans z)
   have b:atKey (q::qs) k=atKey qs k:=by simp [atKey,List.find?_cons,e']
   rw [Nf e,b];exact ih
section
variable {P:Program}{w:World}{H:Hp}{h:Heap}{a:Addr}
theorem vC {u:HO}(ok:HOk P w H h) (e:Rd H a u):Cw P w H h a u:=e.ok ok
theorem vD {kvs:List (Key×V)}(ok:HOk P w H h) (e:Rd H a (.dK kvs)):kvs.length<=sizeLine/\(a==sysModules)=false/\∃ vs,KV kvs vs/\h.DictOf (Bm P w) a vs :=
 show Cw P w H h a (.dK kvs) from vC ok e
theorem vG {kvs:List (Key×V)}(ok:HOk P w H h) (e:H a=some (.dK kvs)):kvs.length<=sizeLine/\(a==sysModules)=false/\∃ vs,KV kvs vs/\h.DictOf (Bm P w) a vs:=vD ok (.inl e)
theorem eF {ks:List Key}(ok:HOk P w H h) (e:H a=some (.tup (ks.map kV))):(tupleKind (Bm P w)).is h ks a:=by
 obtain ⟨_,its,r,o,h1,h2,_,n,h3⟩:=(show Cw P w H h a (.tup (ks.map kV)) from ok a _ e);exact ⟨o,its.toArray,n,h1,h2,h3,by simpa using Io r⟩
theorem Ac9 {kvs:List (List Key×V)}(ok:HOk P w H h) (e:Rd H a (.dT kvs)):kvs.length<=sizeLine/\(a==sysModules)=false /\
  ∃ xs,KT H kvs xs/\h.DictOfH (tupleKind (Bm P w)) a xs:=by
 obtain ⟨z,y,xs,r,o,es,ep,h1,h2,h3,h4,h5⟩:=(show Cw P w H h a (.dT kvs) from vC ok e);refine ⟨z,y,xs,r,o,es,ep,h1,h2,h3,h4,fun x hx=>?_,h5⟩;have all:∀ {l:List (List Key×V)} {m:List (List Key×Addr×Value)},KT H l m->∀ x∈m,(tupleKind (Bm P w)).is h x.1 x.2.1:=by
  intro l m q
  induction q with
  | nil=>intro x hx;exact nomatch hx
  | @cons p q ps qs hq t ih =>
   intro x hx;rcases List.mem_cons.mp hx with e|hx
   ·subst e;exact eF ok (by rw [← hq.1];exact hq.2.1)
   ·exact ih x hx
 exact all r x hx
end
noncomputable def qH (H:Hp) (a:Addr) (y:V) (r:Option V):Prop :=
 (∃ kvs k,Rd H a (.dK kvs)/\y=kV k/\r=Ky kvs k)\/∃ kvs k b,Rd H a (.dT kvs)/\y=.ref b/\H b=some (.tup (k.map kV))/\r=Ky kvs k
theorem qH.k {H:Hp}{a:Addr}{kvs:List (Key×V)}{k:Key}(e:H a=some (.dK kvs)):qH H a (kV k) (Ky kvs k):=.inl ⟨kvs,k,.inl e,rfl,rfl⟩
section
variable {X:Cx}{pins:List (Addr×Obj)}{σ:St}{H:Hp}{s:Shared}{a:Addr}{y v:V}{u r:Value}{o:Option V}{A:Around}{E:Value->Shared->Prop}
theorem Inv.big (I:Inv X pins σ H s):sysModules < s.heap.objs.size:=by
 have h:mainGlobals < s.heap.objs.size:=(I.mod.glob.keeps I.bk).lt;exact Nat.lt_trans (by decide) h
theorem Afg {Q:Value->Shared->Prop}(hu:A.units+1 < cLine) (I:Inv X pins σ H s) (g:qH H a y o) (ry:RelV y u) (h:∀ s',Inv X pins σ H s'->Q (.bool o.isSome) s') :
  wpAny (model X.prog X.w) A (compareOp .In u (.ref a)) Q E s:=by
 rcases g with ⟨kvs,k,e,ey,l⟩|⟨kvs,k,b,e,ey,eb,l⟩
 ·subst ey;obtain ⟨z,hd,vs,rel,dd⟩:=vD I.hok e;refine wpAny_in_of (Yo ry) hd dd.mapOf ?_;rw [← (rel.val k).isSome_eq,← l];exact h _ (I.tok _)
 ·subst ey;cases (show u=Value.ref b from ry);obtain ⟨z,hd,xs,rel,dd⟩:=Ac9 I.hok e;refine wpAny_in_heap (tupleKind_room_in1 hu) (eF I.hok eb) hd dd ?_;have q:=(rel.val k).isSome_eq;rw [Option.isSome_map] at q;rw [← q,← l];exact h _ (I.tok _)
theorem qI {h':Heap}{t':Nat}{ob:HO}(I:Inv X pins σ H s) (mu:Mut (H a)) (hs:Heap.SameBut a s.heap h') (he:∃ q,h'.get? a=some q) (new:Cw X.prog X.w (upd H a ob) h' a ob) :
  Inv X pins σ (upd H a ob) { s with heap:=h',toks:=t' } :=
 I.write (x:=a) (e:=a) mu (.inl rfl) (fun b q hb z=>(hs.2 b hb).trans z) he new
theorem yQ {P:Program}{w:World}{H':Hp}{h':Heap}{kvs:List (Key×V)}{vs:List (Key×Value)}(z:kvs.length<=sizeLine) (hd:(a==sysModules)=false) (rel:KV kvs vs) (dd:h'.DictOf (Bm P w) a vs) :
  Cw P w H' h' a (.dK kvs):=⟨z,hd,vs,rel,dd⟩
end
section
variable {X:Cx}{pins:List (Addr×Obj)}{σ:St}{H:Hp}{s:Shared}{a:Addr}{kvs:List (Key×V)}{k:Key}{u:Value}{A:Around}{E:Value->Shared->Prop}
end
section
variable {X:Cx}{o i e value:Expr}{pos pos' tpos:Pos}{td ty tv:TE}
end
theorem eG {P:Program}{w:World}{H:Hp}(h:Heap) (hb:sysModules < h.objs.size):Cw P w H (h.push { cls:=.type "dict",data:=.dict #[] }) h.objs.size (.dK []) :=
 ⟨Nat.zero_le _,beq_eq_false_iff_ne.mpr (Ne.symm (Nat.ne_of_lt hb)),[],.nil,Heap.DictOf.new h⟩
section
variable {X:Cx}{pos:Pos}
end
noncomputable def Rq:List (TE×TE)->St->Hp->(List (V×V)->Hp->Prop)->Prop
 | [],_,H,Q=>Q [] H
 | (tk,tv)::r,σ,H,Q=>tk σ H fun x H1=>tv σ H1 fun y H2=>Rq r σ H2 fun ps H3=>Q ((x,y)::ps) H3
noncomputable abbrev VV:List (V×V)->List (Value×Value)->Prop:=Paired fun p q=>RelV p.1 q.1/\RelV p.2 q.2
noncomputable def PPs (X:Cx) (pos:Pos) (keys:List (Option Expr)) (values:List Expr) (trs:List (TE×TE)):Prop :=
 ∀ (pins:List (Addr×Obj)) (s:Shared) (σ:St) (H:Hp) (Q:List (V×V)->Hp->Prop),Inv X pins σ H s->Rq trs σ H Q ->
  wpAny (model X.prog X.w) X.A (evalPairs (pairTrees keys values X.env pos)) (fun vs s'=>∃ ps H',Inv X pins σ H' s'/\VV ps vs/\Q ps H') X.xe s
theorem qJ {X:Cx}{pos:Pos}:PPs X pos [] [] []:=fun pins s σ H Q I h=>pairTrees_nil_walk ⟨[],H,I,.nil,h⟩
theorem Ua {X:Cx}{pos:Pos}{k v:Expr}{ks:List (Option Expr)}{vs:List Expr}{tk tv:TE}{trs:List (TE×TE)}(hk:PE X k tk) (hv:PE X v tv) (hr:PPs X pos ks vs trs) :
  PPs X pos (some k::ks) (v::vs) ((tk,tv)::trs):=fun pins s σ H Q I h =>
 pairTrees_cons_walk (thn (hk pins s σ H _ I h) fun u s1 ⟨x,H1,I1,rx,q1⟩=>thn (hv pins s1 σ H1 _ I1 q1) fun w2 s2 ⟨y,H2,I2,ry,q2⟩ =>
  thn (hr pins s2 σ H2 _ I2 q2) fun ws s3 ⟨ps,H3,I3,rel,q3⟩=>⟨(x,y)::ps,H3,I3,.cons ⟨rx,ry⟩ rel,q3⟩)
noncomputable def Jq (kvs more:List (Key×V)):List (Key×V):=more.foldl (fun acc kv=>putK acc kv.1 kv.2) kvs
theorem KV.merge:∀ {more:List (Key×V)}{rs:List (Key×Value)}{kvs:List (Key×V)}{vs:List (Key×Value)},KV more rs->KV kvs vs->KV (Jq kvs more) (merged vs rs):=by
 intro more rs kvs vs r;unfold KV at r
 induction r generalizing kvs vs with
 | nil=>intro q;exact q
 | @cons p q ps qs h t ih =>
  intro r0;have e:KV (putK kvs p.1 p.2) (stored vs q.1 q.2):=by
   have:=r0.put p.1 h.2;rw [← h.1];exact this
  exact ih e
theorem Jg:∀ (more kvs:List (Key×V)),(Jq kvs more).length<=kvs.length+more.length
 | [],kvs=>by show kvs.length<=kvs.length+0;omega
 | p::r,kvs=>by
  have h1:=Jg r (putK kvs p.1 p.2);have h2:=T9 kvs p.1 p.2;show (Jq (putK kvs p.1 p.2) r).length<=_;rw [List.length_cons];omega
theorem Ng {P:Program}{w:World}:∀ {kvs:List (Key×V)}{ws:List (Value×Value)},VV (kvs.map fun kv=>(kV kv.1,kv.2)) ws->∃ rs,Carries (Bm P w) ws rs/\KV kvs rs
 | [],_,r=>by rw [List.map_nil] at r;cases r;exact ⟨[],True.intro,.nil⟩
 | p::kvs,_,r=>by
  rw [List.map_cons] at r;cases r with
  | @cons a b as bs h t =>
   obtain ⟨rs,c,q⟩:=Ng (P:=P) (w:=w) t;obtain ⟨b1,b2⟩:=b;exact ⟨(p.1,b2)::rs,⟨Yo h.1,rfl,c⟩,.cons ⟨rfl,h.2⟩ q⟩
noncomputable def Ada (trs:List (TE×TE)):TE:=fun σ H Q=>∀ p,H p=none->Rq trs σ (upd H p (.dK [])) fun ps H2=>H2 p=some (.dK [])/\∃ kvs:List (Key×V),ps=kvs.map (fun kv=>(kV kv.1,kv.2))/\kvs.length<=15/\Q (.ref p) (upd H2 p (.dK (Jq [] kvs)))
theorem qK {X:Cx}{pos:Pos}{keys:List (Option Expr)}{values:List Expr}{trs:List (TE×TE)}(h:PPs X pos keys values trs) (hall:keys.all (·.isSome)=true) (hl:keys.length=values.length) (h0:keys≠[])
  (h15:keys.length<=15):PE X (.Dict keys values pos) (Ada trs):=by
 intro pins s σ H Q I q;have hn:=I.hok.fresh (Nat.le_refl s.heap.objs.size)
 have I1:=I.laid (a:=s.heap.objs.size) (o:=.dK []) (h':=s.heap.push { cls:=.type "dict",data:=.dict #[] }) (t':=s.toks) (fun _ _ q=>Heap.get?_push_of_some _ q) (Nat.le_refl _) (eG s.heap I.big);refine wpAny_Dict_walk (knd:=Bm X.prog X.w) hall hl h0 h15 (thn (h pins _ σ _ _ I1 (q _ hn)) ?_);rintro ws s2 ⟨ps,H2,I2,rel,e,kvs,ep,lk,q2⟩;subst ep;obtain ⟨rs,c,rk⟩:=Ng (P:=X.prog) (w:=X.w) rel;obtain ⟨z,hd,vs0,r0,dd⟩:=vG I2.hok e;cases r0;refine ⟨rs,c,dd,fun h' dd' hs=>⟨.ref s.heap.objs.size,_,?_,rfl,q2⟩⟩;have hz:(Jq [] kvs).length<=sizeLine:=by
  have h1:=Jg kvs [];rw [List.length_nil] at h1;rw [sizeLine_eq];omega
 have he:∃ q,h'.get? s.heap.objs.size=some q:=let ⟨q,_,_,hq,_⟩:=dd';⟨q,hq⟩;exact qI I2 (by rw [e];exact True.intro) hs he (yQ hz hd (rk.merge .nil) dd')
section
variable {X:Cx}{pins:List (Addr×Obj)}{σ:St}{H:Hp}{s:Shared}{a:Addr}{y d:V}{u r:Value}{o:Option V}{A:Around}{E:Value->Shared->Prop}
end
section
variable {X:Cx}{o e f:Expr}{apos cpos:Pos}{td ty tx:TE}
end
section
variable {X:Cx}{pins:List (Addr×Obj)}{σ:St}{H:Hp}{s:Shared}{a:Addr}{kvs:List (Key×V)}{A:Around}{E:Value->Shared->Prop}
end
section
variable {X:Cx}{pins:List (Addr×Obj)}{σ:St}{H:Hp}{s:Shared}{a:Addr}{y:V}{u:Value}{A:Around}{E:Value->Shared->Prop}
end
theorem Nh {α β:Type}(g:α->β->β):∀ (l:List α) (f:α->β->Sem (ForInStep β)) (c:β),(∀ x∈l,∀ c,f x c=pure (.yield (g x c)))->forIn l c f=pure (l.foldl (fun c x=>g x c) c)
 | [],f,c,_=>by rw [List.forIn_nil];rfl
 | x::r,f,c,h=>by
  rw [List.forIn_cons,h x List.mem_cons_self];show (forIn r (g x c) f)=_;rw [Nh g r f (g x c) fun y hy=>h y (List.mem_cons_of_mem _ hy)];rfl
noncomputable def Lh (env:Env) (x:Str×NameKind) (cs:List (Str×Addr)):List (Str×Addr):=if x.2==.free then (x.1,(env.cells.lookup x.1).getD 0)::cs else cs
noncomputable def Gf (env:Env) (names:List (Str×NameKind)):List (Str×Addr):=names.foldl (fun c x=>Lh env x c) []
theorem Jh {scope:Scope}{env:Env}(h:∀ x∈scope.names,x.2=.free->∃ c,env.cells.lookup x.1=some c):closureFor scope env=pure (Gf env scope.names):=by
 unfold closureFor Gf;dsimp only;rw [Nh (Lh env)]
 ·rfl
 ·intro x hx c;obtain ⟨n,k⟩:=x;dsimp only;unfold Lh
  by_cases e:(k==NameKind.free)=true
  ·obtain ⟨a,ha⟩:=h _ hx (beq_iff_eq.mp e);have ha':List.lookup n env.cells=some a:=ha;dsimp only;rw [if_pos e,if_pos e];unfold cellOf;rw [ha'];rfl
  ·dsimp only;rw [if_neg e,if_neg e]
theorem Jr {env:Env}:∀ (names:List (Str×NameKind)) (acc:List (Str×Addr)) (x:Str) (c:Addr),(x,c)∈names.foldl (fun c x=>Lh env x c) acc->(x,c)∈acc\/((x,NameKind.free)∈names/\c=(env.cells.lookup x).getD 0)
 | [],acc,x,c,h=>.inl h
 | (n,k)::r,acc,x,c,h=>by
  rcases Jr r _ x c h with q|⟨q1,q2⟩
  ·unfold Lh at q;dsimp only at q;split at q
   ·rename_i e;have e:=beq_iff_eq.mp e;rcases List.mem_cons.mp q with q|q
    ·cases q;exact .inr ⟨by rw [e];exact List.mem_cons_self,rfl⟩
    ·exact .inl q
   ·exact .inl q
  ·exact .inr ⟨List.mem_cons_of_mem _ q1,q2⟩
theorem Ni {env:Env}:∀ (names:List (Str×NameKind)) (acc:List (Str×Addr)) (x:Str),(acc.lookup x).isSome=true\/(x,NameKind.free)∈names->((names.foldl (fun c x=>Lh env x c) acc).lookup x).isSome=true
 | [],acc,x,h=>by
  rcases h with h|h
  ·exact h
  ·exact absurd h (by simp)
 | (n,k)::r,acc,x,h=>by
  refine Ni r _ x ?_;unfold Lh;rcases h with h|h
  ·left;dsimp only;split
   ·rw [List.lookup_cons];split
    ·rfl
    ·exact h
   ·exact h
  ·rcases List.mem_cons.mp h with h|h
   ·cases h;left;dsimp only;rw [if_pos (by rfl),List.lookup_cons];simp
   ·exact .inr h
theorem Rr {env:Env}{names:List (Str×NameKind)}{x:Str}{c:Addr}(h:(Gf env names).lookup x=some c):(x,NameKind.free)∈names/\c=(env.cells.lookup x).getD 0:=by
 rcases Jr names [] x c (PySem.mem_of_lookup h) with q|q
 ·exact absurd q (by simp)
 ·exact q
theorem Qf {env:Env}{names:List (Str×NameKind)}{x:Str}(h:(x,NameKind.free)∈names):(Gf env names).lookup x=some ((env.cells.lookup x).getD 0):=by
 obtain ⟨c,e⟩:=Option.isSome_iff_exists.mp (Ni (env:=env) names [] x (.inr h));rw [show Gf env names=names.foldl (fun c x=>Lh env x c) [] from rfl,e,(Rr e).2]
theorem Ec:∀ (names:List (Str×NameKind)) (n:Nat) (acc:List (Str×Addr)) (x:Str) (c:Addr),(x,c)∈cellsFrom n names acc->(x,c)∈acc\/(n<=c/\(x,NameKind.cell)∈names)
 | [],_,_,_,_,h=>.inl h
 | (y,k)::r,n,acc,x,c,h=>by
  unfold cellsFrom at h;split at h
  ·rename_i e;have e:=beq_iff_eq.mp e;rcases Ec r (n+1) _ x c h with q|⟨q1,q2⟩
   ·rcases List.mem_cons.mp q with q|q
    ·cases q;exact .inr ⟨Nat.le_refl _,by rw [e];exact List.mem_cons_self⟩
    ·exact .inl q
   ·exact .inr ⟨by omega,List.mem_cons_of_mem _ q2⟩
  ·rcases Ec r n acc x c h with q|⟨q1,q2⟩
   ·exact .inl q
   ·exact .inr ⟨q1,List.mem_cons_of_mem _ q2⟩
theorem Gn:∀ (names:List (Str×NameKind)) (n lo:Nat) (acc:List (Str×Addr)) (x:Str) (c:Addr),lo<=n->((x,NameKind.cell)∈names\/∀ c',acc.lookup x=some c'->lo<=c')->(cellsFrom n names acc).lookup x=some c->lo<=c
 | [],_,_,acc,x,c,_,h,e=>by
  rcases h with h|h
  ·exact absurd h (by simp)
  ·exact h c e
 | (y,k)::r,n,lo,acc,x,c,hl,h,e=>by
  unfold cellsFrom at e;split at e
  ·rename_i ek;refine Gn r (n+1) lo _ x c (by omega) ?_ e;rcases h with h|h
   ·rcases List.mem_cons.mp h with h|h
    ·cases h;right;intro c' hc;rw [List.lookup_cons] at hc;rw [beq_self_eq_true] at hc;cases hc;exact hl
    ·exact .inl h
   ·right;intro c' hc;rw [List.lookup_cons] at hc;split at hc
    ·cases hc;omega
    ·exact h c' hc
  ·rename_i ek;refine Gn r n lo acc x c hl ?_ e;rcases h with h|h
   ·rcases List.mem_cons.mp h with h|h
    ·cases h;exact absurd rfl ek
    ·exact .inl h
   ·exact .inr h
theorem Gp:∀ (names:List (Str×NameKind)) (n:Nat) (acc:List (Str×Addr)),(∀ x y c,(x,c)∈acc->(y,c)∈acc->x=y)->(∀ x c,(x,c)∈acc->c < n) ->
  ∀ x y c,(x,c)∈cellsFrom n names acc->(y,c)∈cellsFrom n names acc->x=y
 | [],_,_,h,_=>h
 | (z,k)::r,n,acc,h,hb=>by
  unfold cellsFrom;split
  ·refine Gp r (n+1) _ (fun x y c hx hy=>?_) fun x c hx=>?_
   ·rcases List.mem_cons.mp hx with hx | hx <;> rcases List.mem_cons.mp hy with hy|hy
    ·cases hx;cases hy;rfl
    ·cases hx;exact absurd (hb _ _ hy) (Nat.lt_irrefl _)
    ·cases hy;exact absurd (hb _ _ hx) (Nat.lt_irrefl _)
    ·exact h x y c hx hy
   ·rcases List.mem_cons.mp hx with hx|hx
    ·cases hx;exact Nat.lt_succ_self _
    ·exact Nat.lt_succ_of_lt (hb x c hx)
  ·exact Gp r n acc h hb
theorem Fe:∀ (names:List (Str×NameKind)) (h:Heap) (acc:List (Str×Addr)) (x:Str) (c:Addr),(∀ x c,(x,c)∈acc->∃ v,h.IsCell c v)->(x,c)∈cellsFrom h.objs.size names acc->∃ v,(pushCells h names).IsCell c v
 | [],h,acc,x,c,hb,e=>hb x c e
 | (y,k)::r,h,acc,x,c,hb,e=>by
  unfold cellsFrom at e;unfold pushCells;split at e
  ·rename_i ek;rw [if_pos ek];refine Fe r _ ((y,h.objs.size)::acc) x c (fun x c hx=>?_) (by rw [Heap.size_push];exact e);rcases List.mem_cons.mp hx with hx|hx
   ·cases hx;exact ⟨none,_,Heap.get?_push_size _ rfl,rfl⟩
   ·obtain ⟨v,q⟩:=hb x c hx;exact ⟨v,q.keeps fun b o e=>Heap.get?_push_of_some _ e⟩
  ·rename_i ek;rw [if_neg ek];exact Fe r h acc x c hb e
theorem Ff:∀ (names:List (Str×NameKind)) (h:Heap),h.objs.size<=(pushCells h names).objs.size
 | [],h=>Nat.le_refl _
 | (y,k)::r,h=>by
  unfold pushCells;split
  ·refine Nat.le_trans ?_ (Ff r _);rw [Heap.size_push];omega
  ·exact Ff r h
theorem Ub {M:Model}{A:Around}{E:Value->Shared->Prop}{s:Shared}{scope:Scope}{globals:Addr}{cl:List (Str×Addr)}{qual:Str}{env:Env}{Q:Env->Shared->Prop}
  (hQ:Q (newEnv scope s.heap.objs.size globals (cellsFrom (s.heap.objs.size+1) scope.names cl) qual none .none (some env) builtinsNs) { s with heap:=pushCells (s.heap.push { cls:=.type "dict",data:=.dict #[] }) scope.names }) :
  wpAny M A (newFunctionEnv scope globals cl [] qual none .none (some env)) Q E s:=by
 simp only [newFunctionEnv,Option.isSome_some,if_true];refine wpAny_bind (wpAny_alloc ?_);refine wpAny_bind (wpAny_layCells _ (fun name kind cells=>by cases hkc:kind==NameKind.cell <;> simp [hkc]) _ _ _ _ ?_)
 rw [show ({ s with heap:=s.heap.push { cls:=.type "dict",data:=.dict #[] } }:Shared).heap.objs.size=s.heap.objs.size+1 from Heap.size_push ..];rw [List.forIn_nil];exact wpAny_bind (wpAny_pure (wpAny_pure hQ))
theorem Ed {α:Type}:∀ {l:List (Str×α)}{n:Str}{c:α},(l.map (·.1)).Nodup->(n,c)∈l->l.lookup n=some c
 | [],_,_,_,h=>absurd h (by simp)
 | (k,v)::r,n,c,nd,h=>by
  rw [List.map_cons,List.nodup_cons] at nd;rw [List.lookup_cons];rcases List.mem_cons.mp h with q|q
  ·cases q;rw [beq_self_eq_true]
  ·have:(n==k)=false:=by
    rw [beq_eq_false_iff_ne];intro e;subst e;exact nd.1 (List.mem_map.mpr ⟨(n,c),q,rfl⟩)
   rw [this];exact Ed nd.2 q
theorem Fg {env:Env}(scope:Scope) (x:Str):(relabel scope env).names.lookup x=(scope.names.lookup x).map fun k=>if (k==.free&&env.scope.kind==.function&&env.kindOf x==some .cell) then .cell else k:=by
 show (scope.names.map _).lookup x=_
 induction scope.names with
 | nil=>rfl
 | cons a r ih =>
  obtain ⟨n,k⟩:=a;rw [List.map_cons];dsimp only;rw [List.lookup_cons (b:=k)]
  by_cases e:(x==n)=true
  ·rw [e];have e':=beq_iff_eq.mp e;subst e';dsimp only;split
   ·rename_i hc;rw [List.lookup_cons,e];simp only [Option.map_some,hc,if_true]
   ·rename_i hc;rw [List.lookup_cons,e];rw [Option.map_some,if_neg hc]
  ·have e2:(x==n)=false:=by simpa using e
   rw [e2];dsimp only;split
   ·rw [List.lookup_cons,e2];exact ih
   ·rw [List.lookup_cons,e2];exact ih
structure CompOk (X:Cx) (scope:Scope):Prop where
 kind:scope.kind=.function
 nd:(scope.names.map (·.1)).Nodup
 fr:∀ x∈scope.names,x.2=.free->X.env.kindOf x.1=some .cell\/X.env.kindOf x.1=some .free
noncomputable def Ci (X:Cx) (pins:List (Addr×Obj)) (N':List Str) (scope:Scope) (C:Addr) (cells:List (Str×Addr)) (s₀:Shared) (H₀:Hp) (fp:List Addr):Cx where
 prog:=X.prog
 w:=X.w
 K:=X.K
 mg:=X.mg
 base:=X.base
 A:=X.A
 N:=N'
 s₀:=s₀
 H₀:=H₀
 env:={ scope:=relabel scope X.env,locals:=C,globals:=X.env.globals,cells:=cells,qual:=X.env.qual,func:=none,code:=X.env.code,frame:=X.env.frame,builtins:=X.env.builtins }
 outer:=X.stack
 stack:=X.stack
 ex:=fp
 fn:=fun x=>decide ((x,NameKind.cell)∈scope.names)
 calm:=X.calm
 pn:=X.pn++pins
 xe:=fun _ _=>False
noncomputable def Cap (X:Cx) (N':List Str) (scope:Scope) (σ σ0:St):Prop:=σ0.length=N'.length/\∀ (i:Nat) (x:Str) (v:V),N'[i]?=some x->σ0[i]?=some (some v) ->
 scope.names.lookup x=some .free/\∃ j:Nat,X.N[j]?=some x/\σ[j]?=some (some v)
noncomputable abbrev Az (its:List Value) (n:Nat):Obj:={ cls:=.type "list",data:=.seq its.toArray n }
section
variable {X:Cx}{pins:List (Addr×Obj)}{σ:St}{H:Hp}{s:Shared}
theorem W2 {N':List Str}{scope:Scope}{fp:List Addr}{σ0:St}(I:Inv X pins σ H s) (S:CompOk X scope) (hf:∀ b∈fp,J3 X pins H b) (hb:∀ b∈fp,∃ o,s.heap.get? b=some o) (hσ:Cap X N' scope σ σ0) :
    Inv (Ci X pins N' scope (s.heap.objs.size+1) (cellsFrom (s.heap.objs.size+1+1) scope.names (Gf X.env scope.names)) s H fp) [(s.heap.objs.size,Az [] 0)] σ0 H
      { s with heap:=pushCells ((s.heap.push (Az [] 0)).push { cls:=.type "dict",data:=.dict #[] }) scope.names }:=by
  have sz1:(s.heap.push (Az [] 0)).objs.size=s.heap.objs.size+1:=Heap.size_push ..
  have sz2:((s.heap.push (Az [] 0)).push { cls:=.type "dict",data:=.dict #[] }).objs.size=s.heap.objs.size+1+1:=by rw [Heap.size_push,sz1]
  have keep:∀ b o,s.heap.get? b=some o->(pushCells ((s.heap.push (Az [] 0)).push { cls:=.type "dict",data:=.dict #[] }) scope.names).get? b=some o:=fun b o e=>pushCells_keeps _ _ b o (Heap.get?_push_of_some _ (Heap.get?_push_of_some _ e))
  have capt:∀ x c,(x,c)∈Gf X.env scope.names->X.env.cells.lookup x=some c:=fun x c h=>by
    rcases Jr scope.names [] x c h with q|⟨q1,q2⟩
    · exact absurd q (by simp)
    · obtain ⟨c',e⟩:=I.ok.has x (S.fr _ q1 rfl);rw [e] at q2;rw [e,q2];rfl
  have cells:∀ x c,(cellsFrom (s.heap.objs.size+1+1) scope.names (Gf X.env scope.names)).lookup x=some c->X.env.cells.lookup x=some c\/s.heap.objs.size+1+1<=c:=fun x c h=>by
    rcases Ec _ _ _ x c (PySem.mem_of_lookup h) with q|⟨q,_⟩
    · exact .inl (capt x c q)
    · exact .inr q
  have stk:∀ b∈frs X.stack,b < s.heap.objs.size:=fun b hb=>by
    rcases Nat.lt_or_ge b s.heap.objs.size with z|z
    · exact z
    · rcases List.mem_cons.mp (I.stkSub b hb) with q|q
      · rw [q];exact I.lt
      · exact absurd q (I.nofs z)
  have fpb:∀ b∈fp,b < s.heap.objs.size:=fun b h=>let ⟨o,e⟩:=hb b h;Heap.lt_size e
  refine ⟨⟨I.ok.mod,S.kind,I.ok.glob,I.ok.blt,Nat.le_succ _,fun x y c h1 h2=>?_,fun x hx=>?_,fun x c hx h=>?_,I.ok.hd,I.ok.frames,.inl rfl,fun b hb=>⟨?_,fun x c h=>?_⟩,I.bs,Nat.le_trans I.ok.bsz I.sz,fun b o h z=>?_,fun b hb z=>?_,I.stack,I.stkFree⟩,
    rfl,I.bare,Un.kept keep,⟨fun _=>none,?_,fun i x v h1 h2 h3=>?_⟩,fun x c h=>?_,I.hok.fresh (Nat.le_succ _),fun x c h=>?_,fun p hp=>?_,I.hok.kept keep,hσ.1⟩
  · refine Gp scope.names (s.heap.objs.size+1+1) (Gf X.env scope.names) (fun x y c h1 h2=>I.ok.inj x y c (capt x c h1) (capt y c h2)) (fun x c h=>?_) x y c (PySem.mem_of_lookup h1) (PySem.mem_of_lookup h2);obtain ⟨v,q⟩:=I.cell x c (capt x c h);exact Nat.lt_succ_of_lt (Nat.lt_succ_of_lt q.lt)
  · have hx:(relabel scope X.env).names.lookup x=some .cell\/(relabel scope X.env).names.lookup x=some .free:=hx;rw [Fg] at hx;refine Option.isSome_iff_exists.mp (PySem.W.cellsFrom_some scope.names _ _ ?_);cases e:scope.names.lookup x with
    | none=>rw [e] at hx;rcases hx with h | h <;> cases h
    | some k =>
      cases k with
      | cell=>exact .inl rfl
      | free=>right;rw [Qf (PySem.mem_of_lookup e)];rfl
      | «local»=>rw [e] at hx;rcases hx with h | h <;> cases h
      | globalExplicit=>rw [e] at hx;rcases hx with h | h <;> cases h
      | globalImplicit=>rw [e] at hx;rcases hx with h | h <;> cases h
  · exact Nat.le_trans (Nat.le_succ_of_le (Nat.le_succ _)) (Gn scope.names _ (s.heap.objs.size+1+1) _ x c (Nat.le_refl _) (.inl (of_decide_eq_true hx)) h)
  · exact Nat.ne_of_lt (Nat.lt_succ_of_lt (fpb b hb))
  · rcases cells x c h with q|q
    · exact (hf b hb).2.2.2.2.1 x c q
    · exact Nat.ne_of_gt (Nat.lt_of_lt_of_le (fpb b hb) (by omega))
  · rcases (hf b z).2.2.2.1 with q|q
    · exact I.ok.noex b o h q
    · exact absurd (Nat.lt_of_lt_of_le (Heap.lt_size h) (Nat.le_trans I.ok.bsz q)) (Nat.lt_irrefl _)
  · rcases List.mem_cons.mp (I.stkSub b z) with q|q
    · exact (hf b hb).2.1 q
    · exact (hf b hb).2.2.1 q
  · show (pushCells _ _).Ns (s.heap.objs.size+1) _
    have n:=(Heap.Ns.new (s.heap.push (Az [] 0)) (.type "dict")).keeps (pushCells_keeps scope.names _);rw [sz1] at n;exact n
  · obtain ⟨e1,j,e2,e3⟩:=hσ.2 i x v h1 h2;obtain ⟨m,hn,hl⟩:=I.loc;have fr:=S.fr _ (PySem.mem_of_lookup e1) rfl;have vis:Vis X.env.scope x:=by
      rcases fr with q|q
      · exact .inr (.inl q)
      · exact .inr (.inr q)
    obtain ⟨u,r,l⟩:=hl j x v e2 e3 vis;refine ⟨u,r,.inr ⟨?_,?_⟩⟩
    · show (relabel scope X.env).names.lookup x=some .cell\/(relabel scope X.env).names.lookup x=some .free;rw [Fg,e1];simp only [Option.map_some];split
      · exact .inl rfl
      · exact .inr rfl
    · rcases l with ⟨k,_⟩|⟨_,c,ec,hc⟩
      · rcases fr with q | q <;> · rw [k] at q;cases q
      · refine ⟨c,?_,hc.keeps keep⟩;obtain ⟨c2,e⟩:=Option.isSome_iff_exists.mp (PySem.W.cellsFrom_some (x:=x) scope.names (s.heap.objs.size+1+1) (Gf X.env scope.names) (.inr (by rw [Qf (PySem.mem_of_lookup e1)];rfl)));show (cellsFrom _ _ _).lookup x=some c;rw [e];rcases Ec _ _ _ x c2 (PySem.mem_of_lookup e) with q|⟨_,q⟩
        · rw [capt x c2 q] at ec;exact ec
        · rw [Ed S.nd q] at e1;cases e1
  · refine Fe scope.names ((s.heap.push (Az [] 0)).push { cls:=.type "dict",data:=.dict #[] }) (Gf X.env scope.names) x c (fun x c h=>?_) ?_
    · obtain ⟨v,q⟩:=I.cell x c (capt x c h);exact ⟨v,q.keeps fun b o e=>Heap.get?_push_of_some _ (Heap.get?_push_of_some _ e)⟩
    · rw [sz2];exact PySem.mem_of_lookup h
  · rcases cells x c h with q|q
    · exact I.freeC x c q
    · exact I.hok.fresh (by omega)
  · rcases List.mem_append.mp hp with hp|hp
    · obtain ⟨q1,q2,q3,q4,q5⟩:=I.pin p hp;have lt:=Heap.lt_size q1;refine ⟨keep _ _ q1,q2,Nat.ne_of_lt (Nat.lt_succ_of_lt lt),fun z=>?_,q5⟩;rcases List.mem_cons.mp (I.stkSub p.1 z) with r|r
      · exact q3 r
      · exact q4 r
    · have e:p=(s.heap.objs.size,Az [] 0):=by simpa using hp
      subst e;refine ⟨pushCells_keeps _ _ _ _ (Heap.get?_push_of_some _ (Heap.get?_push_size _ rfl)),I.hok.fresh (Nat.le_refl _),Nat.ne_of_lt (Nat.lt_succ_self _),fun z=>?_,fun v=>by intro z;cases z⟩;exact Nat.lt_irrefl _ (stk _ z)
theorem eO {N':List Str}{scope:Scope}{fp:List Addr}{σ':St}{C:Addr}{cells:List (Str×Addr)}{H':Hp}{s':Shared}{its:List Value}{n:Nat}{ys:List V}{pl:List (Addr×Obj)}(I:Inv X pins σ H s) (hf:∀ b∈fp,J3 X pins H b)
  (J:Inv (Ci X pins N' scope C cells s H fp) ((s.heap.objs.size,Az its n)::pl) σ' H' s') (r:Vals ys its) (hz:ys.length<=sizeLine) :
  Inv X pins σ (upd H' s.heap.objs.size (.lst ys)) s':=by
 obtain ⟨p1,p2,p3,p4,p5⟩:=J.pin (s.heap.objs.size,Az its n) (List.mem_append_right _ List.mem_cons_self);have hD:H' s.heap.objs.size=none:=p2;have ne:∀ b o,s.heap.get? b=some o->b≠s.heap.objs.size:=fun b o e=>Nat.ne_of_lt (Heap.lt_size e)
 have U:=J.base;refine I.call' (ch:=fp) J.os ⟨fun b o e h1 h2 h3=>U.keep b o e h1 h2 h3,fun b o e h1 h2 h3=>U.slot b o e h1 h2 h3,fun b o e h1 h2=>?_,U.there,fun b xs e=>?_,fun b o u e=>?_,fun b ps e=>?_⟩ ?_ J.bare fun b hb=>?_
 ·rw [Aq (ne b o e)];exact U.free b o e h1 h2
 ·have q:=U.tups b xs e;rw [Aq (Av q hD)];exact q
 ·have q:=U.frzs b o u e;rw [Aq (Av q hD)];exact q
 ·obtain ⟨m,q⟩:=U.tbls b ps e;exact ⟨m,by rw [Aq (Av q hD)];exact q⟩
 ·intro b u e
  by_cases hb:b=s.heap.objs.size
  ·subst hb;rw [Cm] at e;cases e;exact ⟨hz,its,n,r,p1⟩
  ·rw [Aq hb] at e;exact (J.hok b u e).stay (fun _ _ _ q=>q) (fun c q=>by rw [Aq (Av q hD)];exact q) fun c xs q=>by rw [Aq (Av q hD)];exact q
 ·obtain ⟨q0,q1,q2,q3,q4,q5⟩:=hf b hb;exact ⟨q3,q1,q4,q5⟩
end
section
variable {prog:Program}{w:World}{A:Around}{E:Value->Shared->Prop}{R:Result->Shared->Prop}{s:Shared}
noncomputable abbrev Yp (ifs:List Expr) (env:Env):Sem Bool:=forIn ifs true fun c r=>if r=true then do let ok ← isTrue c env (eval c env);pure (ForInStep.yield ok) else pure (ForInStep.yield r)
theorem Rt {elt target iter:Expr}{ifs:List Expr}{scope:Scope}{pos:Pos}{it acc:Value}{env:Env}(I:Nat->Shared->Prop)
  (turn:∀ n s,I n s->wpAny (model prog w) A (pyNext it) (fun r s₁=>match r with
   | none=>R (.ok .next) s₁
   | some v=>wpAny (model prog w) A (letOwnedTupleGo target it v) (fun _ s'=>wpAny (model prog w) A (assign target env v) (fun _ s₂ =>
     wpAny (model prog w) A (Yp ifs env) (fun ok s₃ =>
      if ok=true then wpAny (model prog w) A (eval elt env) (fun x s₄ =>
       wpAny (model prog w) A (call (.builtin "list.append") [acc,x]) (fun _ s₅=>∃ m,m < n/\I m s₅) (fun _ _=>False) s₄) (fun _ _=>False) s₃
      else ∃ m,m < n/\I m s₃) (fun _ _=>False) s₂) (fun _ _=>False) s') (fun _ _=>False) s₁) (fun _ _=>False) s)
  (n:Nat) (h:I n s) :
  codeAny (model prog w) A (.compLoop (.ListComp elt [⟨target,iter,ifs,0⟩] scope pos) 0 it acc env) R s:=by
 refine codeAny_loop rfl I (fun n s hI=>?_) n h;show wpAny _ A ((compTurn (.ListComp elt [⟨target,iter,ifs,0⟩] scope pos) 0 it acc env).onRaise (fun x=>do noteFrame x env;theTreesLotGoes x)) _ _ s;refine wpAny_noted ?_;rw [compTurn_list];refine wpAny_bind (wpAny_standAt (wpAny_bind (wpAny_mono (turn n s hI) (fun r s₁ h₁=>?_) fun _ _ h'=>h'.elim)));cases r with
 | none=>exact wpAny_pure h₁
 | some v =>
  refine wpAny_bind (wpAny_mono h₁ (fun _ s' h'=>?_) fun _ _ h'=>h'.elim);refine wpAny_bind (wpAny_mono h' (fun _ s₂ h₂=>wpAny_bind (wpAny_mono h₂ (fun ok s₃ h₃=>?_) fun _ _ h'=>h'.elim)) fun _ _ h'=>h'.elim);cases ok with
  | false=>exact wpAny_pure ⟨rfl,h₃⟩
  | true =>
   exact wpAny_bind (wpAny_bind (wpAny_mono h₃ (fun x s₄ h₄=>wpAny_bind (wpAny_mono h₄ (fun _ s₅ h₅=>wpAny_pure (wpAny_pure ⟨rfl,h₅⟩)) fun _ _ h'=>h'.elim)) fun _ _ h'=>h'.elim))
end
noncomputable def PIf (X:Cx) (ifs:List Expr) (t:TT):Prop :=
 ∀ (pins:List (Addr×Obj)) (s:Shared) (σ:St) (H:Hp) (Q:Bool->Hp->Prop),Inv X pins σ H s->t σ H Q->wpAny (model X.prog X.w) X.A (Yp ifs X.env) (TP X pins σ Q) X.xe s
theorem qL {X:Cx}:PIf X [] (fun _ H Q=>Q true H):=fun pins s σ H Q I h=>wpAny_tests_nil ⟨H,I,h⟩
theorem qM {X:Cx}{c:Expr}{t:TT}(h:PT X c t):PIf X [c] t:=fun pins s σ H Q I q=>wpAny_tests_one (h pins s σ H Q I q)
noncomputable def Kept (σ0 σ2:St):Prop:=σ2.length=σ0.length/\∀ (i:Nat) v,σ0[i]?=some (some v)->σ2[i]?=some (some v)
noncomputable def eU (X:Cx) (N':List Str) (scope:Scope) (wi:TI) (g:TG) (tc:TT) (te:TE):TE:=fun σ H Q=>wi σ H fun J H1=>∃ σ0,Cap X N' scope σ σ0/\∃ W:Nat->Nat->List V->Hp->Prop,(∃ m,W 0 m [] H1)/\∀ i m acc H,W i m acc H ->
 (J.stop i H/\∀ p,H p=none->Q (.ref p) (upd H p (.lst acc))) \/
 (J.go i H/\∃ N:List V->Hp->Prop,(∀ acc' H',N acc' H'->∃ m',m' < m/\W (i+1) m' acc' H')/\∀ x H',J.yld i H x H'->g x σ0 H' fun σ2 H2=>Kept σ0 σ2/\tc σ2 H2 fun b H3=>if b=true then acc.length < sizeLine/\te σ2 H3 fun y H4=>N (acc++[y]) H4 else N acc H3)
section
variable {X:Cx}{N':List Str}{scope:Scope}{wi:TI}{g:TG}{tc:TT}{te:TE}{elt target iter:Expr}{ifs:List Expr}{pos:Pos}
theorem Nj {pins:List (Addr×Obj)}{s:Shared}{σ σ0:St}{H:Hp}{it:Addr}{fp:List Addr}{tn:Nat->Heap->Prop}{J:It}{QQ:List V->Hp->Prop}{E:Value->Shared->Prop}{RR:Value->Addr->Result->Shared->Prop}(hc:X.calm=true) (S:CompOk X scope)
  (hg:∀ pins C cells s₀ H₀ fp,PG (Ci X pins N' scope C cells s₀ H₀ fp) target g)
  (hi:∀ pins C cells s₀ H₀ fp,PIf (Ci X pins N' scope C cells s₀ H₀ fp) ifs tc)
  (he:∀ pins C cells s₀ H₀ fp,PE (Ci X pins N' scope C cells s₀ H₀ fp) elt te)
  (I:Inv X pins σ H s) (T:Turn X.prog X.w X.K target J fp it tn) (st:tn 0 s.heap) (hf:∀ b∈fp,J3 X pins H b) (hσ:Cap X N' scope σ σ0)
  (W:Nat->Nat->List V->Hp->Prop) (w0:∃ m,W 0 m [] H)
  (turn:∀ i m acc H,W i m acc H->(J.stop i H/\QQ acc H) \/
   (J.go i H/\∃ N:List V->Hp->Prop,(∀ acc' H',N acc' H'->∃ m',m' < m/\W (i+1) m' acc' H')/\∀ x H',J.yld i H x H'->g x σ0 H' fun σ2 H2=>Kept σ0 σ2/\tc σ2 H2 fun b H3=>if b=true then acc.length < sizeLine/\te σ2 H3 fun y H4=>N (acc++[y]) H4 else N acc H3))
  (hRR:∀ (C:Addr) (acc:List V) (H':Hp) (s':Shared) (m:Str->Option Value),QQ acc H'->Inv X pins σ (upd H' s.heap.objs.size (.lst acc)) s'->H' s.heap.objs.size=none->s'.heap.Ns C m->H' C=none->C≠s.heap.objs.size->s.heap.objs.size<=C->RR (.ref s.heap.objs.size) C (.ok .next) s') :
  wpAny (model X.prog X.w) X.A (newList []) (fun acc s₃=>wpAny (model X.prog X.w) X.A (newFunctionEnv scope X.env.globals (Gf X.env scope.names) [] X.env.qual none .none (some X.env)) (fun cenv s₄ =>
   codeAny (model X.prog X.w) X.A (.compStart (.ListComp elt [⟨target,iter,ifs,0⟩] scope pos) 0 (.ref it) acc { cenv with scope:=relabel scope X.env }) (RR acc cenv.locals) s₄) E s₃) E s:=by
 refine wpAny_newObj_type (Ub ?_);have sz1:(s.heap.push (Az [] 0)).objs.size=s.heap.objs.size+1:=Heap.size_push ..;have I0:=W2 (N':=N') (σ0:=σ0) I S hf (fun b hb=>let ⟨o,e,_⟩:=T.obj 0 _ st b hb;⟨o,e⟩) hσ
 show codeAny (model X.prog X.w) X.A (.compStart (.ListComp elt [⟨target,iter,ifs,0⟩] scope pos) 0 (.ref it) (.ref s.heap.objs.size) _) (RR (.ref s.heap.objs.size) (s.heap.push (Az [] 0)).objs.size) { s with heap:=pushCells ((s.heap.push (Az [] 0)).push { cls:=.type "dict",data:=.dict #[] }) scope.names };rw [sz1];show codeAny (model X.prog X.w) X.A (.compStart (.ListComp elt [⟨target,iter,ifs,0⟩] scope pos) 0 (.ref it) (.ref s.heap.objs.size) (Ci X pins N' scope (s.heap.objs.size+1) (cellsFrom (s.heap.objs.size+1+1) scope.names (Gf X.env scope.names)) s H fp).env) _ _;generalize hX':Ci X pins N' scope (s.heap.objs.size+1) (cellsFrom (s.heap.objs.size+1+1) scope.names (Gf X.env scope.names)) s H fp=X' at I0 ⊢
 have keep0:∀ b o,s.heap.get? b=some o->(pushCells ((s.heap.push (Az [] 0)).push { cls:=.type "dict",data:=.dict #[] }) scope.names).get? b=some o:=fun b o e=>pushCells_keeps _ _ b o (Heap.get?_push_of_some _ (Heap.get?_push_of_some _ e))
 have st0:tn 0 (pushCells ((s.heap.push (Az [] 0)).push { cls:=.type "dict",data:=.dict #[] }) scope.names):=T.keep _ _ _ st fun b _ o e=>keep0 b o e
 have hA:X'.A=X.A:=by rw [← hX'];rfl
 have hP:X'.prog=X.prog:=by rw [← hX'];rfl
 have hw:X'.w=X.w:=by rw [← hX'];rfl
 have hK:X'.K=X.K:=by rw [← hX'];rfl
 have hC:X'.calm=true:=by rw [← hX'];exact hc
 have hL:X'.env.locals=s.heap.objs.size+1:=by rw [← hX'];rfl
 have hS0:X'.s₀=s:=by rw [← hX'];rfl
 have hxe:X'.xe=fun _ _=>False:=by rw [← hX'];rfl
 have hex:X'.ex=fp:=by rw [← hX'];rfl
 have hpn:X'.pn=X.pn++pins:=by rw [← hX'];rfl
 have hgX:PG X' target g:=by rw [← hX'];exact hg _ _ _ _ _ _
 have hiX:PIf X' ifs tc:=by rw [← hX'];exact hi _ _ _ _ _ _
 have heX:PE X' elt te:=by rw [← hX'];exact he _ _ _ _ _ _
 -- the iterator's own objects,in the block
 have fpo:∀ {pl:List (Addr×Obj)} {H':Hp} {its:List Value} {n:Nat},(∀ b∈fp,H' b=none)->∀ b∈fp,J3 X' [(s.heap.objs.size,Az its n)] H' b:=fun {pl H' its n} hn b hb=>by
  obtain ⟨q0,q1,q2,q3,q4,q5⟩:=hf b hb;obtain ⟨e1,e2⟩:=I0.ok.exf b (by rw [hex];exact hb);have lt:b < s.heap.objs.size:=let ⟨o,e,_⟩:=T.obj 0 _ st b hb;Heap.lt_size e;refine ⟨hn b hb,e1,I0.ok.exfs b (by rw [hex];exact hb),.inl (by rw [hex];exact hb),e2,fun p hp=>?_⟩;rw [hpn] at hp;rcases List.mem_append.mp hp with hp|hp
  ·exact q5 p hp
  ·have e:p=(s.heap.objs.size,Az its n):=by simpa using hp
   subst e;exact Nat.ne_of_gt lt
 obtain ⟨m0,w0⟩:=w0
 have loop:codeAny (model X.prog X.w) X.A (.compLoop (.ListComp elt [⟨target,iter,ifs,0⟩] scope pos) 0 (.ref it) (.ref s.heap.objs.size) X'.env) (RR (.ref s.heap.objs.size) (s.heap.objs.size+1)) { s with heap:=pushCells ((s.heap.push (Az [] 0)).push { cls:=.type "dict",data:=.dict #[] }) scope.names }:=by
  refine Rt (fun k s'=>∃ i H' acc its n,Inv X' [(s.heap.objs.size,Az its n)] σ0 H' s'/\tn i s'.heap/\(∀ b∈fp,H' b=none)/\Vals acc its/\acc.length<=sizeLine/\W i k acc H') ?_ m0
   ⟨0,H,[],[],0,I0,st0,fun b hb=>(hf b hb).1,.nil,Nat.zero_le _,w0⟩
  rintro k s3 ⟨i,H3,acc,its,n,I3,st3,fr3,rv,hz,w3⟩;rcases turn i k acc H3 w3 with ⟨stop,qn⟩|⟨go,N,hN,step⟩
  ·have z:=T.done X' hP hw hK hC i _ s3 σ0 H3 (fun _ _=>False) I3 (fpo (pl:=[]) fr3) st3 stop;rw [hA] at z;refine thn z ?_;rintro r s4 ⟨hr,I4⟩;subst hr;obtain ⟨m,hn,_⟩:=I4.loc;rw [hL] at hn;have fC:=I4.free;rw [hL] at fC;have e:=I4;rw [← hX'] at e;exact hRR _ acc H3 s4 m qn (eO I hf e rv hz) (I4.pin (s.heap.objs.size,Az its n) (List.mem_append_right _ List.mem_cons_self)).2.1 hn fC (Nat.succ_ne_self _) (Nat.le_succ _)
  ·have z:=T.item X' hP hw hK hC i _ s3 σ0 H3 (fun _ _=>False) I3 (fpo (pl:=[]) fr3) st3 go;rw [hA] at z;refine thn z ?_;rintro r s4 ⟨u,hr,h4⟩;subst hr;refine thn h4 ?_;rintro _ s5 ⟨x,H5,I5,r5,y5,st5,fr5⟩;have I5':=I5.pinned (fpo (pl:=[]) fr5) (T.obj _ _ st5);have zg:=hgX _ s5 σ0 H5 x u _ I5' r5 (step x H5 y5);rw [hP,hw,hA,hxe] at zg;refine thn zg ?_;rintro _ s6 ⟨σ6,H6,I6,kp,q6⟩;have zi:=hiX _ s6 σ6 H6 _ I6 q6;rw [hP,hw,hA,hxe] at zi;refine thn zi ?_;rintro b s7 ⟨H7,I7,q7⟩
   -- back to the loop's head
   have back:∀ {H8:Hp} {s8:Shared} {acc':List V} {its':List Value} {n':Nat},Inv X' ([(s.heap.objs.size,Az its' n')]++Jo fp s5.heap) σ6 H8 s8->Vals acc' its'->acc'.length<=sizeLine->N acc' H8 ->
     ∃ m,m < k/\∃ i H' acc its n,Inv X' [(s.heap.objs.size,Az its n)] σ0 H' s8/\tn i s8.heap/\(∀ b∈fp,H' b=none)/\Vals acc its/\acc.length<=sizeLine/\W i m acc H':=fun {H8 s8 acc' its' n'} I8 rv' hz' n8=>by
    obtain ⟨m',hm,w8⟩:=hN acc' H8 n8;refine ⟨m',hm,i+1,H8,acc',its',n',(I8.unpinned).weak kp.1.symm kp.2,T.keep _ _ _ st5 fun b hb o e=>(I8.pin (b,o) (List.mem_append_right _ (List.mem_append_right _ (G4 hb e)))).1,fun b hb=>?_,rv',hz',w8⟩;obtain ⟨o,e,d⟩:=T.obj _ _ st5 b hb;exact (I8.pin (b,o) (List.mem_append_right _ (List.mem_append_right _ (G4 hb e)))).2.1
   cases b with
   | false =>
    rw [if_neg Bool.false_ne_true] at q7;rw [if_neg Bool.false_ne_true];exact back I7 rv hz q7
   | true =>
    rw [if_pos rfl] at q7;rw [if_pos rfl];obtain ⟨hlt,q7⟩:=q7;have ze:=heX _ s7 σ6 H7 _ I7 q7;rw [hP,hw,hA,hxe] at ze;refine thn ze ?_;rintro y s8 ⟨yv,H8,I8,r8,q8⟩;obtain ⟨p1,p2,p3,p4,p5⟩:=I8.pin (s.heap.objs.size,Az its n) (List.mem_append_right _ (List.mem_append_left _ List.mem_cons_self));have len:its.toArray.size<=sizeLine:=by
     have:=rv.length;simp only [List.size_toArray];omega
    refine wpAny_list_append_plain (hsz:=len) ⟨n,p1⟩ ?_;rintro h' ⟨n',pl⟩ sb;have pl':h'.get? s.heap.objs.size=some (Az (its++[y]) n'):=by rw [pl];simp [Az]
    have lD:s.heap.objs.size < (pushCells ((s.heap.push (Az [] 0)).push { cls:=.type "dict",data:=.dict #[] }) scope.names).objs.size:=by
     refine Nat.lt_of_lt_of_le ?_ (Ff _ _);rw [Heap.size_push,Heap.size_push];omega
    have cne:∀ z c,X'.env.cells.lookup z=some c->c≠s.heap.objs.size:=fun z c e q=>by
     obtain ⟨v,hv⟩:=I8.cell z c e;obtain ⟨o,ho,hd⟩:=hv;rw [q] at ho;rw [show s8.heap.get? s.heap.objs.size=some (Az its n) from p1] at ho;cases ho;cases hd
    have J9:Inv X' (Jo fp s5.heap) σ6 H8 { s8 with heap:=h' }:=by
     refine Inv.turned (t':=s8.toks) (it:=s.heap.objs.size) (I8.pins_of fun p hp=>I8.pin p (List.mem_append_right _ (List.mem_append_right _ hp))) (fun b o hb e=>sb.extBut b o hb e) p2 (by rw [hL];exact Nat.ne_of_lt (Nat.lt_succ_self _)) (.inr (by rw [hS0];exact Nat.le_refl _)) cne fun p hp=>?_
     rw [hpn] at hp;rcases List.mem_append.mp hp with hp|hp
     ·have:p.1 < s.heap.objs.size:=Heap.lt_size (I.pin p hp).1;exact Nat.ne_of_lt this
     ·obtain ⟨hb,_⟩:=Px hp;have:p.1 < s.heap.objs.size:=let ⟨o,e,_⟩:=T.obj 0 _ st p.1 hb;Heap.lt_size e;exact Nat.ne_of_lt this
    have I9:Inv X' ([(s.heap.objs.size,Az (its++[y]) n')]++Jo fp s5.heap) σ6 H8 { s8 with heap:=h' }:=by
     refine J9.pins_of fun p hp=>?_
     rcases List.mem_append.mp hp with hp|hp
     ·have e:p=(s.heap.objs.size,Az (its++[y]) n'):=by simpa using hp
      subst e;exact ⟨pl',p2,p3,p4,fun v=>by intro z;cases z⟩
     ·exact J9.pin p (List.mem_append_right _ hp)
    exact back I9 (rv.append (.cons r8 .nil)) (by rw [List.length_append,List.length_singleton];omega) q8
 exact codeAny_compStart_list loop (T.self X.A 0 _ _ _ st0 loop)
theorem qN (hc:X.calm=true) (S:CompOk X scope) (hit:PI X target iter wi)
  (hg:∀ pins C cells s₀ H₀ fp,PG (Ci X pins N' scope C cells s₀ H₀ fp) target g)
  (hi:∀ pins C cells s₀ H₀ fp,PIf (Ci X pins N' scope C cells s₀ H₀ fp) ifs tc)
  (he:∀ pins C cells s₀ H₀ fp,PE (Ci X pins N' scope C cells s₀ H₀ fp) elt te)
  (hs:∀ x,foldedSetIterable iter X.env x=pure x:=by intro _;rfl) :
  PE X (.ListComp elt [⟨target,iter,ifs,0⟩] scope pos) (eU X N' scope wi g tc te):=by
 intro pins s σ H Q I h;rw [eval_ListComp];have hfree:∀ x∈scope.names,x.2=.free->∃ c,X.env.cells.lookup x.1=some c:=fun x hx e=>I.ok.has x.1 (S.fr x hx e)
 refine wpAny_comprehension_free (use:=none) rfl hs (Jh hfree) S.kind (fun x hx e=>Ed S.nd (by rw [← e];exact hx)) (thn (hit pins s σ H _ I h) fun v s1 h1=>thn h1 fun itv s2 h2=>?_);obtain ⟨it,fp,tn,J,H2,e,I2,T,st2,f2,σ0,hσ,W,w0,turn⟩:=h2;subst e;refine Nj (QQ:=fun acc H=>∀ p,H p=none->Q (.ref p) (upd H p (.lst acc))) (RR:=fun acc C=>compPost (model X.prog X.w) X.A X.xe none (EP X pins σ Q) acc C) hc S hg hi he I2 T st2 f2 hσ W w0 turn ?_;intro C acc H' s' m q I' hD hn hC hne hle;refine ⟨m,hn,fun h' sb=>?_⟩;obtain ⟨oC,_,_,hoC,_⟩:=id hn;have uC:upd H' s2.heap.objs.size (.lst acc) C=none:=by rw [Aq hne];exact hC
 have hCL:C≠X.env.locals:=Nat.ne_of_gt (Nat.lt_of_lt_of_le I2.lt hle);refine ⟨.ref s2.heap.objs.size,_,I'.turned (t':=s'.toks) (it:=C) (fun b o hb e=>sb.extBut b o hb e) uC hCL (.inr (Nat.le_trans I2.sz hle)) (fun x c e z=>?_) fun p hp z=>?_,rfl,q _ hD⟩
 ·obtain ⟨v,hv⟩:=I2.cell x c e;have:=hv.lt;rw [z] at this;exact Nat.lt_irrefl _ (Nat.lt_of_lt_of_le this hle)
 ·have:=Heap.lt_size (I2.pin p hp).1;rw [z] at this;exact Nat.lt_irrefl _ (Nat.lt_of_lt_of_le this hle)
theorem W3 {y:Str}{py spos:Pos}{gy:TG}(hc:X.calm=true) (S:CompOk X scope) (hit:PI X target iter wi)
  (hg:∀ pins C cells s₀ H₀ fp,PG (Ci X pins N' scope C cells s₀ H₀ fp) target g)
  (hi:∀ pins C cells s₀ H₀ fp,PIf (Ci X pins N' scope C cells s₀ H₀ fp) ifs tc)
  (he:∀ pins C cells s₀ H₀ fp,PE (Ci X pins N' scope C cells s₀ H₀ fp) elt te)
  (hgy:PG X (.Name y py) gy)
  (hsw:swapsWith (.ListComp elt [⟨target,iter,ifs,0⟩] scope pos) (some (.Name y py)) spos.line X.env=pure true)
  (hs:∀ x,foldedSetIterable iter X.env x=pure x:=by intro _;rfl) :
  PS X (.Assign [.Name y py] (.ListComp elt [⟨target,iter,ifs,0⟩] scope pos) spos) (xG (eU X N' scope wi g tc te) gy):=by
 intro pins s σ H D I h;rw [exec_Assign_Name_used _ _ _ _ hsw];refine wpAny_bind (wpAny_standAt (wpAny_bind ?_));show wpAny _ X.A (do let _ ← comprehension (.ListComp elt [⟨target,iter,ifs,0⟩] scope pos) scope X.env _ (newList []) false (eval iter X.env) (some (assign (.Name y py) X.env))) _ _ s;have hfree:∀ x∈scope.names,x.2=.free->∃ c,X.env.cells.lookup x.1=some c:=fun x hx e=>I.ok.has x.1 (S.fr x hx e)
 refine wpAny_bind (wpAny_mono (wpAny_comprehension_free (use:=some (assign (.Name y py) X.env)) (Q:=fun _ s'=>SP X pins D .next s') rfl hs (Jh hfree) S.kind (fun x hx e=>Ed S.nd (by rw [← e];exact hx)) (thn (hit pins s σ H _ I h) fun v s1 h1=>thn h1 fun itv s2 h2=>?_))
  (fun _ s' hq=>wpAny_pure (wpAny_pure hq)) fun _ _ e=>e)
 obtain ⟨it,fp,tn,J,H2,e,I2,T,st2,f2,σ0,hσ,W,w0,turn⟩:=h2;subst e;refine Nj (QQ:=fun acc H=>∀ p,H p=none->gy (.ref p) σ (upd H p (.lst acc)) D.nx) (RR:=fun acc C=>compPost (model X.prog X.w) X.A X.xe (some (assign (.Name y py) X.env)) (fun _ s'=>SP X pins D .next s') acc C) hc S hg hi he I2 T st2 f2 hσ W w0 turn ?_;intro C acc H' s' m q I' hD hn hC hne hle;obtain ⟨oC,esC,epC,hoC,hdC⟩:=id hn;have uC:upd H' s2.heap.objs.size (.lst acc) C=none:=by rw [Aq hne];exact hC
 have hCL:C≠X.env.locals:=Nat.ne_of_gt (Nat.lt_of_lt_of_le I2.lt hle);have hCfs:C ∉ X.fs:=I2.nofs hle;have pinC:Inv X (pins++[(C,oC)]) σ (upd H' s2.heap.objs.size (.lst acc)) s':=by
  refine I'.pins_of fun p hp=>?_
  rcases List.mem_append.mp hp with hp|hp
  ·exact I'.pin p (List.mem_append_right _ hp)
  ·have e:p=(C,oC):=by simpa using hp
   subst e;refine ⟨hoC,uC,hCL,hCfs,fun v z=>?_⟩;rw [hdC.1] at z;cases z
 refine thn (hgy _ s' σ _ (.ref s2.heap.objs.size) _ _ pinC rfl (q _ hD)) ?_;rintro _ s'' ⟨σ2,H3,I3,q3⟩;obtain ⟨p1,p2,p3,p4,p5⟩:=I3.pin (C,oC) (List.mem_append_right _ (List.mem_append_right _ List.mem_cons_self));refine ⟨m,⟨oC,esC,epC,p1,hdC⟩,fun h' sb=>?_⟩;refine ⟨σ2,H3,(Inv.unpinned I3).turned (t':=s''.toks) (it:=C) (fun b o hb e=>sb.extBut b o hb e) p2 hCL (.inr (Nat.le_trans I2.sz hle)) (fun x c e z=>?_) fun p hp z=>?_,q3⟩
 ·obtain ⟨v,hv⟩:=I2.cell x c e;have:=hv.lt;rw [z] at this;exact Nat.lt_irrefl _ (Nat.lt_of_lt_of_le this hle)
 ·have:=Heap.lt_size (I2.pin p hp).1;rw [z] at this;exact Nat.lt_irrefl _ (Nat.lt_of_lt_of_le this hle)
end
end L2
namespace DL
open PySem PySem.Spec PyProof.Rows L2
noncomputable abbrev St:=L2.St
inductive D where
 | non | bl (b:Bool) | int (i:Int) | str (x:Str) | tup (ds:List D) | ref (n:Nat) | rol (ds:List D) | obj (c:Str) (ks:List Str) (ds:List D) | fn (x:Str) | lam
 deriving Inhabited
inductive MO where
 | lst (ds:List D)
 | dct (kvs:List (Key×D))
 | plc
noncomputable abbrev MH:=List MO
noncomputable abbrev Loc:=List (Option D)
noncomputable def Hq (K:PySem.W.Frag) (H:Hp) (a:Addr) (xs:List V):Prop:=(∃ o,H a=some (.frz o (.lst xs))) \/
  ∃ (o:Obj) (its:Array Value) (n:Nat),K.lookup a=some o/\o.cls=.type "list"/\o.dict=none/\o.data=.seq its n/\its.size<=sizeLine/\Vals xs its.toList
theorem Hq.sq {K:PySem.W.Frag}{H:Hp}{a:Addr}{xs:List V}(h:Hq K H a xs):SqL K H a xs:=by
 rcases h with ⟨o,h⟩|h
 ·exact .inl (.inr ⟨o,h⟩)
 ·exact .inr h
noncomputable def Adb (fd:FuncData):Prop:=∃ (name qual:Str) (ps:Arguments) (x y:Str) (p q pt:Pos) (k:Nat) (sc:Scope) (pm cdv ct:Value),fd=PySem.W.kla_fn name qual ps (.Tuple [.Name x p,.Name y q] k pt) sc [] pm cdv ct /\
  FnScope [x,y] [x,y] sc/\(x==("__debug__":Str))=false/\(x==("__classdict__":Str))=false/\(y==("__debug__":Str))=false/\(y==("__classdict__":Str))=false/\∀ u v,bindArgs fd ⟨[u,v],[]⟩=pure [(x,u),(y,v)]
noncomputable def eV (H:Hp) (v:Value) (q:Str):Prop:=∃ c oc u vs tq,v=.ref c/\H c=some (.frz oc u)/\oc.data=.fields vs/\vs[1]?=some (.str q tq)
noncomputable def Yq (H:Hp) (a:Addr):Prop:=∃ o u fd,H a=some (.frz o u)/\o.data=.func fd/\Adb fd/\eV H fd.code fd.qualname
mutual
inductive RD (K:PySem.W.Frag) (H:Hp) (ρ:List Addr):D->V->Prop
 | non:RD K H ρ .non .non
 | bl (b:Bool):RD K H ρ (.bl b) (.bl b)
 | int (i:Int):RD K H ρ (.int i) (.int i)
 | str (x:Str):RD K H ρ (.str x) (.str x)
 | tup {ds:List D} {a:Addr} {xs:List V}:SqT K H a xs->RDs K H ρ ds xs->RD K H ρ (.tup ds) (.ref a)
 | ref {n:Nat} {a:Addr}:ρ[n]?=some a->RD K H ρ (.ref n) (.ref a)
 | rol {ds:List D} {a:Addr} {xs:List V}:Hq K H a xs->RDs K H ρ ds xs->RD K H ρ (.rol ds) (.ref a)
 | obj {c:Str} {ks:List Str} {ds:List D} {a C dx:Addr} {xs:List V}:PySem.W.nsIn K mainGlobals c=some (some (.ref C))->H a=some (.ins C dx (ks.zip xs))->ks.length=xs.length->RDs K H ρ ds xs->RD K H ρ (.obj c ks ds) (.ref a)
 | fn {x:Str} {a:Addr}:PySem.W.nsIn K mainGlobals x=some (some (.ref a))->RD K H ρ (.fn x) (.ref a)
 | lam {a:Addr}:Yq H a->RD K H ρ .lam (.ref a)
inductive RDs (K:PySem.W.Frag) (H:Hp) (ρ:List Addr):List D->List V->Prop
 | nil:RDs K H ρ [] []
 | cons {d:D} {v:V} {ds:List D} {vs:List V}:RD K H ρ d v->RDs K H ρ ds vs->RDs K H ρ (d::ds) (v::vs)
end
structure Ev (K:PySem.W.Frag) (H:Hp) (ρ:List Addr) (H':Hp) (ρ':List Addr):Prop where
 tup:∀ a xs,SqT K H a xs->SqT K H' a xs
 pre:ρ <+: ρ'
 perm:∀ a xs,Hq K H a xs->Hq K H' a xs
 ins:∀ a C dx fs,H a=some (.ins C dx fs)->H' a=some (.ins C dx fs)
 frz:∀ a o u,H a=some (.frz o u)->H' a=some (.frz o u)
theorem Ev.refl {K:PySem.W.Frag}{H:Hp}{ρ:List Addr}:Ev K H ρ H ρ:=⟨fun _ _ h=>h,List.prefix_refl _,fun _ _ h=>h,fun _ _ _ _ h=>h,fun _ _ _ h=>h⟩
theorem Ev.trans {K:PySem.W.Frag}{H H1 H2:Hp}{ρ ρ1 ρ2:List Addr}(a:Ev K H ρ H1 ρ1) (b:Ev K H1 ρ1 H2 ρ2):Ev K H ρ H2 ρ2:=⟨fun x xs h=>b.tup x xs (a.tup x xs h),a.pre.trans b.pre,fun x xs h=>b.perm x xs (a.perm x xs h),fun x C dx fs h=>b.ins x C dx fs (a.ins x C dx fs h),fun x o u h=>b.frz x o u (a.frz x o u h)⟩
theorem Ev.at {K:PySem.W.Frag}{H H':Hp}{ρ ρ':List Addr}(e:Ev K H ρ H' ρ') {n:Nat}{a:Addr}(h:ρ[n]?=some a):ρ'[n]?=some a:=by
 obtain ⟨t,rfl⟩:=e.pre;obtain ⟨hl,_⟩:=List.getElem?_eq_some_iff.mp h;rw [List.getElem?_append_left hl];exact h
theorem eV.mono {H H':Hp}(e:∀ a o u,H a=some (.frz o u)->H' a=some (.frz o u)) {v:Value}{q:Str}(h:eV H v q):eV H' v q :=
 let ⟨c,oc,u,vs,tq,h1,h2,h3⟩:=h;⟨c,oc,u,vs,tq,h1,e _ _ _ h2,h3⟩
theorem Yq.mono {H H':Hp}(e:∀ a o u,H a=some (.frz o u)->H' a=some (.frz o u)) {a:Addr}(h:Yq H a):Yq H' a :=
 let ⟨o,u,fd,h1,h2,h3,h4⟩:=h;⟨o,u,fd,e _ _ _ h1,h2,h3,h4.mono e⟩
mutual
theorem RD.mono {K:PySem.W.Frag}{H H':Hp}{ρ ρ':List Addr}(e:Ev K H ρ H' ρ'):∀ {d:D}{v:V},RD K H ρ d v->RD K H' ρ' d v
 | _,_,.non=>.non
 | _,_,.bl b=>.bl b
 | _,_,.int i=>.int i
 | _,_,.str x=>.str x
 | _,_,.tup s r=>.tup (e.tup _ _ s) (RDs.mono e r)
 | _,_,.ref h=>.ref (e.at h)
 | _,_,.rol s r=>.rol (e.perm _ _ s) (RDs.mono e r)
 | _,_,.obj n s l r=>.obj n (e.ins _ _ _ _ s) l (RDs.mono e r)
 | _,_,.fn h=>.fn h
 | _,_,.lam h=>.lam (h.mono e.frz)
theorem RDs.mono {K:PySem.W.Frag}{H H':Hp}{ρ ρ':List Addr}(e:Ev K H ρ H' ρ'):∀ {ds:List D}{vs:List V},RDs K H ρ ds vs->RDs K H' ρ' ds vs
 | _,_,.nil=>.nil
 | _,_,.cons r t=>.cons (RD.mono e r) (RDs.mono e t)
end
section
variable {K:PySem.W.Frag}{H H':Hp}{ρ ρ':List Addr}
theorem RDs.length:∀ {ds:List D}{vs:List V},RDs K H ρ ds vs->ds.length=vs.length
 | _,_,.nil=>rfl
 | _,_,.cons _ t=>by rw [List.length_cons,List.length_cons,RDs.length t]
theorem RDs.get:∀ {ds:List D}{vs:List V}{i:Nat}{d:D},RDs K H ρ ds vs->ds[i]?=some d->∃ v,vs[i]?=some v/\RD K H ρ d v
 | _,_,_,_,.nil,e=>by simp at e
 | _,_,0,_,.cons r _,e=>by simp at e;subst e;exact ⟨_,by simp,r⟩
 | _,_,i+1,d,.cons _ t,e=>by
  obtain ⟨v,h1,h2⟩:=RDs.get (i:=i) (d:=d) t (by simpa using e);exact ⟨v,by simpa using h1,h2⟩
theorem RDs.append:∀ {ds es:List D}{vs us:List V},RDs K H ρ ds vs->RDs K H ρ es us->RDs K H ρ (ds++es) (vs++us)
 | _,_,_,_,.nil,s=>s
 | _,_,_,_,.cons r t,s=>.cons r (RDs.append t s)
theorem RDs.take:∀ {ds:List D}{vs:List V}(n:Nat),RDs K H ρ ds vs->RDs K H ρ (ds.take n) (vs.take n)
 | _,_,0,_=>.nil
 | _,_,_+1,.nil=>.nil
 | _,_,n+1,.cons r t=>.cons r (RDs.take n t)
theorem RDs.drop:∀ {ds:List D}{vs:List V}(n:Nat),RDs K H ρ ds vs->RDs K H ρ (ds.drop n) (vs.drop n)
 | _,_,0,r=>r
 | _,_,_+1,.nil=>.nil
 | _,_,n+1,.cons _ t=>RDs.drop n t
theorem RDs.set {d:D}{v:V}(r:RD K H ρ d v):∀ {ds:List D}{vs:List V}(n:Nat),RDs K H ρ ds vs->RDs K H ρ (ds.set n d) (vs.set n v)
 | _,_,_,.nil=>.nil
 | _,_,0,.cons _ t=>.cons r t
 | _,_,n+1,.cons q t=>.cons q (RDs.set r n t)
theorem RDs.reverse {ds:List D}{vs:List V}(h:RDs K H ρ ds vs):RDs K H ρ ds.reverse vs.reverse:=by
 induction ds generalizing vs with
 | nil=>cases h;exact .nil
 | cons d ds ih =>
  cases h with
  | cons r t =>
   rw [List.reverse_cons,List.reverse_cons];exact (ih t).append (.cons r .nil)
theorem RDs.ints:∀ (ns:List Int),RDs K H ρ (ns.map D.int) (ns.map V.int)
 | []=>.nil
 | n::r=>.cons (.int n) (RDs.ints r)
noncomputable def Afh (K:PySem.W.Frag) (a:Addr):Prop:=∃ (f:Addr) (o:Obj) (fd:FuncData) (c bm:Addr) (ob:Obj),PySem.W.nsIn K mainGlobals "pattern_of"=some (some (.ref f))/\K.lookup f=some o/\o.data=.func fd/\fd.code=.ref c/\PySem.W.codeHdIn K c a=true /\
  PySem.W.nsIn K mainGlobals "__builtins__"=some (some (.ref bm))/\K.lookup bm=some ob/\ob.cls=.type "module"/\ob.dict=some builtinsNs/\ob.data=.plain/\bm≠builtinsNs/\bm≠mainGlobals
noncomputable abbrev Afi:Str:=("pattern_of":Str) ++ ".<locals>." ++ "<lambda>"
noncomputable def Adc (K:PySem.W.Frag) (H:Hp) (a:Addr):Prop:=∃ ps,H a=some (.tbl ps)/\TriplesOk ps.toList/\(∀ pos v,codeAmong pos ps.toList=some v->eV H v Afi)/\Afh K a
noncomputable def RO (K:PySem.W.Frag) (H:Hp) (ρ:List Addr) (a:Addr):MO->Prop
 | .lst ds=>∃ xs,H a=some (.lst xs)/\RDs K H ρ ds xs
 | .plc=>Adc K H a
 | .dct kvs=>∃ xs:List (Key×V),H a=some (.dK xs)/\xs.map (·.1)=kvs.map (·.1)/\RDs K H ρ (kvs.map (·.2)) (xs.map (·.2))
structure RS (K:PySem.W.Frag) (H:Hp) (ρ:List Addr) (mh:MH):Prop where
 len:ρ.length=mh.length
 nd:ρ.Nodup
 obj:∀ (n:Nat) (a:Addr) (o:MO),ρ[n]?=some a->mh[n]?=some o->RO K H ρ a o
noncomputable def RL (K:PySem.W.Frag) (H:Hp) (ρ:List Addr) (loc:Loc) (σ:St):Prop:=loc.length=σ.length/\∀ (i:Nat) (d:D),loc[i]?=some (some d)->∃ v,σ[i]?=some (some v)/\RD K H ρ d v
theorem RL.mono {loc:Loc}{σ:St}(e:Ev K H ρ H' ρ') (h:RL K H ρ loc σ):RL K H' ρ' loc σ:=⟨h.1,fun i d q=>let ⟨v,e1,r⟩:=h.2 i d q;⟨v,e1,r.mono e⟩⟩
theorem RL.set {loc:Loc}{σ:St}{d:D}{v:V}{i:Nat}(h:RL K H ρ loc σ) (r:RD K H ρ d v):RL K H ρ (loc.set i (some d)) (σ.set i (some v)):=by
 refine ⟨by rw [List.length_set,List.length_set];exact h.1,fun j d' q=>?_⟩
 by_cases e:i=j
 ·subst e;rw [List.getElem?_set] at q;simp only [if_true] at q;split at q
  ·rename_i hl;cases q;refine ⟨v,?_,r⟩;rw [List.getElem?_set];simp only [if_true];rw [if_pos (by rw [← h.1];exact hl)]
  ·cases q
 ·rw [List.getElem?_set_ne e] at q;rw [List.getElem?_set_ne e];exact h.2 j d' q
theorem RS.at {mh:MH}(h:RS K H ρ mh) {n:Nat}{o:MO}(e:mh[n]?=some o):∃ a,ρ[n]?=some a/\RO K H ρ a o:=by
 obtain ⟨hl,_⟩:=List.getElem?_eq_some_iff.mp e;have hl':n < ρ.length:=by rw [h.len];exact hl
 exact ⟨ρ[n],List.getElem?_eq_getElem hl',h.obj n _ o (List.getElem?_eq_getElem hl') e⟩
theorem RS.tracked {mh:MH}(h:RS K H ρ mh) {a:Addr}(ha:a∈ρ):∃ o,H a=some o:=by
 obtain ⟨n,hn,rfl⟩:=List.getElem_of_mem ha;have hl:n < mh.length:=by rw [← h.len];exact hn
 have q:=h.obj n _ _ (List.getElem?_eq_getElem hn) (List.getElem?_eq_getElem hl);cases e:mh[n] with
 | lst ds=>rw [e] at q;obtain ⟨xs,q,_⟩:=q;exact ⟨_,q⟩
 | dct kvs=>rw [e] at q;obtain ⟨xs,q,_⟩:=q;exact ⟨_,q⟩
 | plc=>rw [e] at q;obtain ⟨xs,q,_⟩:=q;exact ⟨_,q⟩
theorem RO.read {a:Addr}{ds:List D}(h:RO K H ρ a (.lst ds)):∃ xs,SqL K H a xs/\RDs K H ρ ds xs:=by
 obtain ⟨xs,q,r⟩:=h;exact ⟨xs,.inl (.inl q),r⟩
theorem Ru {a p:Addr}{o:HO}{xs:List V}(hp:H p=none) (h:SqT K H a xs):SqT K (upd H p o) a xs:=by
 rcases h with (h|⟨ob,h⟩)|h
 ·exact .inl (.inl (by rw [Aq (Av h hp)];exact h))
 ·exact .inl (.inr ⟨ob,by rw [Aq (Av h hp)];exact h⟩)
 ·exact .inr h
theorem qO {a p:Addr}{ys zs xs:List V}(hp:H p=some (.lst ys)) (h:SqT K H a xs):SqT K (upd H p (.lst zs)) a xs:=by
 rcases h with (h|⟨ob,h⟩)|h
 ·exact .inl (.inl (by rw [Aq (Jf h hp (by intro z;cases z))];exact h))
 ·exact .inl (.inr ⟨ob,by rw [Aq (Jf h hp (by intro z;cases z))];exact h⟩)
 ·exact .inr h
theorem Uc {a p:Addr}{o:HO}{xs:List V}(hp:H p=none) (h:Hq K H a xs):Hq K (upd H p o) a xs:=by
 rcases h with ⟨ob,h⟩|h
 ·exact .inl ⟨ob,by rw [Aq (Av h hp)];exact h⟩
 ·exact .inr h
theorem eX {a p:Addr}{ys zs xs:List V}(hp:H p=some (.lst ys)) (h:Hq K H a xs):Hq K (upd H p (.lst zs)) a xs:=by
 rcases h with ⟨ob,h⟩|h
 ·exact .inl ⟨ob,by rw [Aq (Jf h hp (by intro z;cases z))];exact h⟩
 ·exact .inr h
theorem Ev.new {p:Addr}{o:HO}(hp:H p=none):Ev K H ρ (upd H p o) ρ:=⟨fun _ _ h=>Ru hp h,List.prefix_refl _,fun _ _ h=>Uc hp h,fun a _ _ _ h=>by rw [Aq (Av h hp)];exact h,fun a _ _ h=>by rw [Aq (Av h hp)];exact h⟩
theorem Ev.newL {p:Addr}{o:HO}(hp:H p=none):Ev K H ρ (upd H p o) (ρ++[p]):=⟨fun _ _ h=>Ru hp h,List.prefix_append _ _,fun _ _ h=>Uc hp h,fun a _ _ _ h=>by rw [Aq (Av h hp)];exact h,fun a _ _ h=>by rw [Aq (Av h hp)];exact h⟩
theorem Ev.lst {p:Addr}{ys zs:List V}(hp:H p=some (.lst ys)):Ev K H ρ (upd H p (.lst zs)) ρ:=⟨fun _ _ h=>qO hp h,List.prefix_refl _,fun _ _ h=>eX hp h,fun a _ _ _ h=>by rw [Aq (Jf h hp (by intro z;cases z))];exact h,fun a _ _ h=>by rw [Aq (Jf h hp (by intro z;cases z))];exact h⟩
theorem RO.mono {a:Addr}{o:MO}(e:Ev K H ρ H' ρ') (s:H' a=H a) (h:RO K H ρ a o):RO K H' ρ' a o:=by
 cases o with
 | lst ds=>obtain ⟨xs,q,r⟩:=h;exact ⟨xs,by rw [s];exact q,r.mono e⟩
 | dct kvs=>obtain ⟨xs,q,k,r⟩:=h;exact ⟨xs,by rw [s];exact q,k,r.mono e⟩
 | plc=>obtain ⟨ps,q,t,c,k⟩:=h;exact ⟨ps,by rw [s];exact q,t,fun pos v z=>(c pos v z).mono e.frz,k⟩
theorem RS.new {mh:MH}{p:Addr}{o:HO}(h:RS K H ρ mh) (hp:H p=none):RS K (upd H p o) ρ mh :=
 ⟨h.len,h.nd,fun n a ob e1 e2=>(h.obj n a ob e1 e2).mono (Ev.new hp) (by
  obtain ⟨oo,q⟩:=h.tracked (List.mem_of_getElem? e1)
  rw [Aq (Av q hp)])⟩
theorem RS.newL {mh:MH}{p:Addr}{xs:List V}{ds:List D}(h:RS K H ρ mh) (hp:H p=none) (r:RDs K H ρ ds xs):RS K (upd H p (.lst xs)) (ρ++[p]) (mh++[.lst ds]):=by
 have hnp:p ∉ ρ:=fun z=>by
  obtain ⟨o,q⟩:=h.tracked z;rw [hp] at q;cases q
 refine ⟨by rw [List.length_append,List.length_append,h.len];rfl,?_,fun n a ob e1 e2=>?_⟩
 ·rw [List.nodup_append]
  exact ⟨h.nd,List.pairwise_singleton _ _,fun a ha b hb z=>by
   rw [List.mem_singleton.mp hb] at z;rw [z] at ha;exact hnp ha⟩
 ·by_cases hn:n < ρ.length
  ·rw [List.getElem?_append_left hn] at e1;rw [List.getElem?_append_left (by rw [← h.len];exact hn)] at e2;refine (h.obj n a ob e1 e2).mono (Ev.newL hp) ?_;obtain ⟨oo,q⟩:=h.tracked (List.mem_of_getElem? e1);rw [Aq (Av q hp)]
  ·rw [List.getElem?_append_right (by omega)] at e1;rw [List.getElem?_append_right (by rw [← h.len];omega)] at e2;have n0:n - ρ.length=0:=by
    have:=(List.getElem?_eq_some_iff.mp e1).1;simp at this;omega
   rw [n0] at e1;rw [← h.len,n0] at e2;cases e1;cases e2;exact ⟨xs,Cm,r.mono (Ev.newL hp)⟩
theorem RS.setL {mh:MH}{n:Nat}{p:Addr}{ys xs:List V}{ds:List D}(h:RS K H ρ mh) (hn:ρ[n]?=some p) (hp:H p=some (.lst ys)) (r:RDs K H ρ ds xs):RS K (upd H p (.lst xs)) ρ (mh.set n (.lst ds)):=by
 refine ⟨by rw [List.length_set];exact h.len,h.nd,fun m a ob e1 e2=>?_⟩
 by_cases hm:n=m
 ·subst hm;rw [hn] at e1;cases e1;rw [List.getElem?_set] at e2;simp only [if_true] at e2;split at e2
  ·cases e2;exact ⟨xs,Cm,r.mono (Ev.lst hp)⟩
  ·cases e2
 ·rw [List.getElem?_set_ne hm] at e2;refine (h.obj m a ob e1 e2).mono (Ev.lst hp) ?_;rw [Aq];intro z;subst z;exact hm ((List.getElem?_inj (List.getElem?_eq_some_iff.mp hn).1 h.nd).mp (hn.trans e1.symm))
end
noncomputable abbrev DM (α:Type):=Loc->MH->Option (α×MH)
noncomputable def DM.bnd {α β:Type}(m:DM α) (f:α->DM β):DM β:=fun loc mh=>match m loc mh with
 | none=>none
 | some (a,mh')=>f a loc mh'
theorem Al {α β:Type}{m:DM α}{f:α->DM β}{loc:Loc}{mh:MH}{r:β×MH}(h:m.bnd f loc mh=some r):∃ a m1,m loc mh=some (a,m1)/\f a loc m1=some r:=by
 unfold DM.bnd at h;split at h
 ·cases h
 ·rename_i a m1 e;exact ⟨a,m1,e,h⟩
noncomputable def Zr {α:Type}(a:α):DM α:=fun _ mh=>some (a,mh)
noncomputable def Zl {α:Type}(f:MH->Option (α×MH)):DM α:=fun _ mh=>f mh
noncomputable def Zb {α:Type}:DM α:=fun _ _=>none
noncomputable def Co (K:PySem.W.Frag) (H:Hp) (ρ:List Addr) (mh':MH) (d:D) (Q:VK):Prop:=∀ H' ρ' v,Ev K H ρ H' ρ'->RS K H' ρ' mh'->RD K H' ρ' d v->Q v H'
noncomputable def tD (K:PySem.W.Frag) (loc:Loc) (mh:MH) (r:Option (D×MH)):TE:=fun σ H Q=>∃ ρ d mh',r=some (d,mh')/\RL K H ρ loc σ/\RS K H ρ mh/\Co K H ρ mh' d Q
noncomputable def tDT (K:PySem.W.Frag) (loc:Loc) (mh:MH) (r:Option (Bool×MH)):TT:=fun σ H Q=>∃ ρ b mh',r=some (b,mh')/\RL K H ρ loc σ/\RS K H ρ mh/\∀ H' ρ',Ev K H ρ H' ρ'->RS K H' ρ' mh'->Q b H'
noncomputable def tDA (K:PySem.W.Frag) (loc:Loc) (mh:MH) (r:Option (List D×MH)):TA:=fun σ H Q=>∃ ρ ds mh',r=some (ds,mh')/\RL K H ρ loc σ/\RS K H ρ mh/\∀ H' ρ' vs,Ev K H ρ H' ρ'->RS K H' ρ' mh'->RDs K H' ρ' ds vs->Q vs H'
noncomputable def DE (X:Cx) (e:Expr) (m:DM D):Prop:=∀ loc mh,PE X e (tD X.K loc mh (m loc mh))
noncomputable def DT (X:Cx) (e:Expr) (m:DM Bool):Prop:=∀ loc mh,PT X e (tDT X.K loc mh (m loc mh))
noncomputable def DA (X:Cx) (es:List Expr) (m:DM (List D)):Prop:=∀ loc mh,PA X es (tDA X.K loc mh (m loc mh))
theorem Bk {X:Cx}{e:Expr}{t t':TE}(h:PE X e t) (i:∀ σ H Q,t' σ H Q->t σ H Q):PE X e t':=fun pins s σ H Q I q=>h pins s σ H Q I (i σ H Q q)
theorem Kz {X:Cx}{e:Expr}{t t':TT}(h:PT X e t) (i:∀ σ H Q,t' σ H Q->t σ H Q):PT X e t':=fun pins s σ H Q I q=>h pins s σ H Q I (i σ H Q q)
theorem eY {X:Cx}{es:List Expr}{t t':TA}(h:PA X es t) (i:∀ σ H Q,t' σ H Q->t σ H Q):PA X es t':=fun pos pins s σ H Q I q=>h pos pins s σ H Q I (i σ H Q q)
theorem qP {K:PySem.W.Frag}{loc:Loc}{mh:MH}{σ:St}{H:Hp}{Q:VK}(h:tD K loc mh none σ H Q):False:=by obtain ⟨_,_,_,e,_⟩:=h;cases e
theorem Et {X:Cx}{e:Expr}{loc:Loc}{mh:MH}:PE X e (tD X.K loc mh none):=fun _ _ _ _ _ _ h=>(qP h).elim
theorem Yr {X:Cx}{e:Expr}{loc:Loc}{mh:MH}:PT X e (tDT X.K loc mh none):=fun _ _ _ _ _ _ h=>by obtain ⟨_,_,_,e,_⟩:=h;cases e
theorem Ys {X:Cx}{es:List Expr}{loc:Loc}{mh:MH}:PA X es (tDA X.K loc mh none):=fun _ _ _ _ _ _ _ h=>by obtain ⟨_,_,_,e,_⟩:=h;cases e
theorem Am {X:Cx}{e:Expr}:DE X e Zb:=fun _ _=>Et
theorem En {X:Cx}{e:Expr}:DT X e Zb:=fun _ _=>Yr
theorem eZ {X:Cx}{es:List Expr}:DA X es Zb:=fun _ _=>Ys
section
variable {X:Cx}{a b c e:Expr}{ma mb mc:DM D}{pos:Pos}
theorem qQ {d:D}{v:V}(h:PE X e (tC v)) (r:∀ K H ρ,RD K H ρ d v):DE X e (Zr d):=by
 refine fun loc mh=>Bk h ?_
 rintro σ H Q ⟨ρ,d',mh',q,rl,rs,co⟩;cases q;exact co H ρ v Ev.refl rs (r _ _ _)
theorem yR {i:Nat}{x:Str}(hN:X.N[i]?=some x) (hv:Vis X.env.scope x) (hd:(x==("__debug__":Str))=false) (hcd:(x==("__classdict__":Str))=false) :
  DE X (.Name x pos) (fun loc mh=>match loc[i]? with | some (some d)=>some (d,mh) | _=>none):=by
 refine fun loc mh=>Bk (wI hN hv hd hcd) ?_
 rintro σ H Q ⟨ρ,d',mh',q,rl,rs,co⟩;dsimp only at q;split at q
 ·rename_i d e;cases q;obtain ⟨v,h1,h2⟩:=rl.2 i d' e;exact ⟨v,h1,co H ρ v Ev.refl rs h2⟩
 ·cases q
noncomputable def rD (K:PySem.W.Frag) (f:D->D->MH->Option (D×MH)):R2:=fun x y H Q=>∃ ρ mh dx dy d mh',f dx dy mh=some (d,mh')/\RS K H ρ mh/\RD K H ρ dx x/\RD K H ρ dy y/\Co K H ρ mh' d Q
noncomputable def rD1 (K:PySem.W.Frag) (f:D->MH->Option (D×MH)):V->Hp->VK->Prop:=fun x H Q=>∃ ρ mh dx d mh',f dx mh=some (d,mh')/\RS K H ρ mh/\RD K H ρ dx x/\Co K H ρ mh' d Q
noncomputable def rDs (K:PySem.W.Frag) (f:List D->MH->Option (D×MH)):List V->Hp->VK->Prop:=fun xs H Q=>∃ ρ mh ds d mh',f ds mh=some (d,mh')/\RS K H ρ mh/\RDs K H ρ ds xs/\Co K H ρ mh' d Q
theorem Co.ev {K:PySem.W.Frag}{H H1:Hp}{ρ ρ1:List Addr}{mh':MH}{d:D}{Q:VK}(e:Ev K H ρ H1 ρ1) (c:Co K H ρ mh' d Q):Co K H1 ρ1 mh' d Q:=fun H' ρ' v e' rs r=>c H' ρ' v (e.trans e') rs r
noncomputable def dop (f:D->D->MH->Option (D×MH)) (ma mb:DM D):DM D:=ma.bnd fun x=>mb.bnd fun y=>Zl (f x y)
theorem two {K:PySem.W.Frag}{f:D->D->MH->Option (D×MH)}{loc:Loc}{mh:MH}{σ:St}{H:Hp}{Q:VK}(h:tD K loc mh (dop f ma mb loc mh) σ H Q) :
  ∃ x m1,ma loc mh=some (x,m1)/\tOp (rD K f) (tD K loc mh (ma loc mh)) (tD K loc m1 (mb loc m1)) σ H Q:=by
 obtain ⟨ρ,d,mh',q,rl,rs,co⟩:=h;obtain ⟨x,m1,ea,q⟩:=Al q;obtain ⟨y,m2,eb,q⟩:=Al q;refine ⟨x,m1,ea,ρ,x,m1,ea,rl,rs,fun H1 ρ1 v1 e1 rs1 r1=>⟨ρ1,y,m2,eb,rl.mono e1,rs1,fun H2 ρ2 v2 e2 rs2 r2=>?_⟩⟩;exact ⟨ρ2,m2,x,y,d,mh',q,rs2,r1.mono e2,r2,co.ev (e1.trans e2)⟩
theorem W4 {f:D->D->MH->Option (D×MH)}(h:∀ ta tb,PE X a ta->PE X b tb->PE X e (tOp (rD X.K f) ta tb)) (ha:DE X a ma) (hb:DE X b mb):DE X e (dop f ma mb):=fun loc mh=>by
 cases ea:ma loc mh with
 | none =>
  have:dop f ma mb loc mh=none:=by unfold dop DM.bnd;rw [ea]
  rw [this];exact Et
 | some p =>
  refine Bk (h _ _ (ha loc mh) (hb loc p.2)) fun σ H Q q=>?_
  obtain ⟨x,m1,e1,q⟩:=two q;rw [ea] at e1;cases e1;exact q
theorem Ade {op:Operator}{f:D->D->MH->Option (D×MH)}(ho:OpR X (binaryOp op) (rD X.K f)) (ha:DE X a ma) (hb:DE X b mb):DE X (.BinOp a op b pos) (dop f ma mb):=W4 (fun _ _ p q=>Acr ho p q) ha hb
theorem yS {op:CmpOp}{f:D->D->MH->Option (D×MH)}(ho:OpR X (compareOp op) (rD X.K f)) (hm:behindInMarks op b=false) (ha:DE X a ma) (hb:DE X b mb):DE X (.Compare a [op] [b] pos) (dop f ma mb):=W4 (fun _ _ p q=>Rc ho p q hm) ha hb
theorem Adf {f:D->D->MH->Option (D×MH)}(ho:IxR X (rD X.K f)) (hs:Ms b) (ha:DE X a ma) (hb:DE X b mb):DE X (.Subscript a b pos) (dop f ma mb):=W4 (fun _ _ p q=>vA ho p q hs) ha hb
theorem Adg {op:UnaryOp}{f:D->MH->Option (D×MH)}(ho:UnR X (unaryOp op) (rD1 X.K f)) (ha:DE X a ma):DE X (.UnaryOp op a pos) (ma.bnd fun x=>Zl (f x)):=fun loc mh =>
 Bk (Acs ho (ha loc mh)) fun σ H Q ⟨ρ,d,mh',q,rl,rs,co⟩=>by
 obtain ⟨x,m1,ea,q⟩:=Al q
 ·exact ⟨ρ,x,m1,ea,rl,rs,fun H1 ρ1 v1 e1 rs1 r1=>⟨ρ1,m1,x,d,mh',q,rs1,r1,co.ev e1⟩⟩
noncomputable def asB:D->Option Bool
 | .bl b=>some b
 | _=>none
noncomputable def Ah (ma:DM D):DM Bool:=ma.bnd fun x=>match asB x with | some b=>Zr b | none=>Zb
theorem qR {f:D->D->MH->Option (D×MH)}(h:∀ ta tb,PE X a ta->PE X b tb->PT X e (dH (tOp (rD X.K f) ta tb))) (ha:DE X a ma) (hb:DE X b mb):DT X e (Ah (dop f ma mb)):=fun loc mh=>by
 cases ea:ma loc mh with
 | none =>
  have:Ah (dop f ma mb) loc mh=none:=by unfold Ah dop DM.bnd;rw [ea]
  rw [this];exact Yr
 | some p =>
  refine Kz (h _ _ (ha loc mh) (hb loc p.2)) ?_;rintro σ H Q ⟨ρ,k,mh',q,rl,rs,co⟩;unfold Ah at q;cases ed:dop f ma mb loc mh with
  | none=>unfold DM.bnd at q;rw [ed] at q;cases q
  | some z =>
   obtain ⟨d,m2⟩:=z;unfold DM.bnd at q;rw [ed] at q;cases d with
   | bl k' =>
    cases q;have t:tD X.K loc mh (dop f ma mb loc mh) σ H (fun x H'=>∃ k,x=.bl k/\Q k H'):=⟨ρ,.bl k,mh',ed,rl,rs,fun H' ρ' v e' rs' r'=>by cases r';exact ⟨k,rfl,co H' ρ' e' rs'⟩⟩;obtain ⟨x,m1,e1,q⟩:=two t;rw [ea] at e1;cases e1;exact q
   | non=>cases q
   | int i=>cases q
   | str s=>cases q
   | tup ds=>cases q
   | ref n=>cases q
   | rol ds=>cases q
   | obj c ks ds=>cases q
   | fn x=>cases q
   | lam=>cases q
theorem yU {op:CmpOp}{f:D->D->MH->Option (D×MH)}(ho:OpR X (compareOp op) (rD X.K f)) (hm:behindInMarks op b=false) (ha:DE X a ma) (hb:DE X b mb):DT X (.Compare a [op] [b] pos) (Ah (dop f ma mb)):=qR (fun _ _ p q=>Rf ho p q hm) ha hb
noncomputable def Gg (t u:DM Bool):DM Bool:=t.bnd fun c=>if c=true then u else Zr false
noncomputable def W5 (t u:DM Bool):DM Bool:=t.bnd fun c=>if c=true then Zr true else u
noncomputable def Yt (t:DM Bool):DM Bool:=t.bnd fun c=>Zr (!c)
noncomputable def DW (X:Cx) (e:Expr) (m:DM Bool):Prop:=∀ loc mh,PW X e (tDT X.K loc mh (m loc mh))
theorem Yu {loc:Loc}{mh:MH}:PW X e (tDT X.K loc mh none):=fun _ _ _ _ _ _ _ h=>by obtain ⟨_,_,_,e,_⟩:=h;cases e
theorem fB {t t':TT}(h:PW X e t) (i:∀ σ H Q,t' σ H Q->t σ H Q):PW X e t':=fun wh pins s σ H Q I q=>h wh pins s σ H Q I (i σ H Q q)
theorem DW.dt {m:DM Bool}(h:DW X e m):DT X e m:=fun loc mh=>(h loc mh).pt
variable {t u:DM Bool}{rest:List Expr}
theorem qT (ha:DT X a t):DW X (.BoolOp .And [a] pos) t:=fun loc mh=>pJ (ha loc mh)
theorem yV (ha:DT X a t):DW X (.BoolOp .Or [a] pos) t:=fun loc mh=>wL (ha loc mh)
theorem yW (ha:DT X a t) (hb:DW X (.BoolOp .And (b::rest) pos) u):DW X (.BoolOp .And (a::b::rest) pos) (Gg t u):=fun loc mh=>by
 cases ea:t loc mh with
 | none =>
  have:Gg t u loc mh=none:=by unfold Gg DM.bnd;rw [ea]
  rw [this];exact Yu
 | some p =>
  obtain ⟨k,m1⟩:=p;refine fB (wM (ha loc mh) (hb loc m1)) ?_;rintro σ H Q ⟨ρ,k',mh',q,rl,rs,co⟩;have q':(if k=true then u else Zr false) loc m1=some (k',mh'):=by unfold Gg DM.bnd at q;rw [ea] at q;exact q
  refine ⟨ρ,k,m1,ea,rl,rs,fun H1 ρ1 e1 rs1=>?_⟩;cases k with
  | true=>exact Rp ⟨ρ1,k',mh',q',rl.mono e1,rs1,fun H2 ρ2 e2 rs2=>co H2 ρ2 (e1.trans e2) rs2⟩
  | false=>cases q';exact Ro (co H1 ρ1 e1 rs1)
theorem Adh (ha:DT X a t) (hb:DW X (.BoolOp .Or (b::rest) pos) u):DW X (.BoolOp .Or (a::b::rest) pos) (W5 t u):=fun loc mh=>by
 cases ea:t loc mh with
 | none =>
  have:W5 t u loc mh=none:=by unfold W5 DM.bnd;rw [ea]
  rw [this];exact Yu
 | some p =>
  obtain ⟨k,m1⟩:=p;refine fB (Acf (ha loc mh) (hb loc m1)) ?_;rintro σ H Q ⟨ρ,k',mh',q,rl,rs,co⟩;have q':(if k=true then Zr true else u) loc m1=some (k',mh'):=by unfold W5 DM.bnd at q;rw [ea] at q;exact q
  refine ⟨ρ,k,m1,ea,rl,rs,fun H1 ρ1 e1 rs1=>?_⟩;cases k with
  | true=>cases q';exact Rp (co H1 ρ1 e1 rs1)
  | false=>exact Ro ⟨ρ1,k',mh',q',rl.mono e1,rs1,fun H2 ρ2 e2 rs2=>co H2 ρ2 (e1.trans e2) rs2⟩
theorem yX (ha:DT X a t):DT X (.UnaryOp .Not a pos) (Yt t):=fun loc mh=>by
 refine Kz (wN (ha loc mh)) ?_;rintro σ H Q ⟨ρ,k',mh',q,rl,rs,co⟩;obtain ⟨k,m1,ea,q⟩:=Al q
 ·cases q;exact ⟨ρ,k,mh',ea,rl,rs,fun H1 ρ1 e1 rs1=>co H1 ρ1 e1 rs1⟩
noncomputable def dIf (t:DM Bool) (ma mb:DM D):DM D:=t.bnd fun c=>if c=true then ma else mb
theorem Adi (hc:DT X c t) (ha:DE X a ma) (hb:DE X b mb):DE X (.IfExp c a b pos) (dIf t ma mb):=fun loc mh=>by
 cases ea:t loc mh with
 | none =>
  have:dIf t ma mb loc mh=none:=by unfold dIf DM.bnd;rw [ea]
  rw [this];exact Et
 | some p =>
  obtain ⟨k,m1⟩:=p;refine Bk (cW (hc loc mh) (ha loc m1) (hb loc m1)) ?_;rintro σ H Q ⟨ρ,d,mh',q,rl,rs,co⟩;have q':(if k=true then ma else mb) loc m1=some (d,mh'):=by unfold dIf DM.bnd at q;rw [ea] at q;exact q
  refine ⟨ρ,k,m1,ea,rl,rs,fun H1 ρ1 e1 rs1=>?_⟩;cases k with
  | true=>exact Rp ⟨ρ1,d,mh',q',rl.mono e1,rs1,co.ev e1⟩
  | false=>exact Ro ⟨ρ1,d,mh',q',rl.mono e1,rs1,co.ev e1⟩
noncomputable def J4 (ma mb:DM D):DM D:=(Ah ma).bnd fun c=>if c=true then mb else Zr (.bl false)
noncomputable def fD (ma mb:DM D):DM D:=(Ah ma).bnd fun c=>if c=true then Zr (.bl true) else mb
theorem Dj {loc:Loc}{mh:MH}{k:Bool}{m1:MH}(h:Ah ma loc mh=some (k,m1)):ma loc mh=some (.bl k,m1):=by
 obtain ⟨x,m2,ea,h⟩:=Al h
 ·cases x with
  | bl b=>cases h;exact ea
  | non=>cases h
  | int i=>cases h
  | str s=>cases h
  | tup ds=>cases h
  | ref n=>cases h
  | rol ds=>cases h
  | obj c ks ds=>cases h
  | fn x=>cases h
  | lam=>cases h
theorem yZ {op}(ha:DE X a ma):DE X (.BoolOp op [a] pos) ma:=fun loc mh=>wO (ha loc mh)
theorem zA (ha:DE X a ma) (hb:DE X (.BoolOp .And (b::rest) pos) mb):DE X (.BoolOp .And (a::b::rest) pos) (J4 ma mb):=fun loc mh=>by
 cases ea:Ah ma loc mh with
 | none =>
  have:J4 ma mb loc mh=none:=by unfold J4 DM.bnd;rw [ea]
  rw [this];exact Et
 | some p =>
  obtain ⟨k,m1⟩:=p;refine Bk (wQ (ha loc mh) (hb loc m1)) ?_;rintro σ H Q ⟨ρ,d,mh',q,rl,rs,co⟩;have q':(if k=true then mb else Zr (.bl false)) loc m1=some (d,mh'):=by unfold J4 DM.bnd at q;rw [ea] at q;exact q
  refine ⟨ρ,.bl k,m1,Dj ea,rl,rs,fun H1 ρ1 v e1 rs1 r1=>?_⟩;cases r1;refine ⟨k,rfl,?_⟩;cases k with
  | true=>exact Rp ⟨ρ1,d,mh',q',rl.mono e1,rs1,co.ev e1⟩
  | false=>cases q';exact Ro (co H1 ρ1 _ e1 rs1 (.bl false))
theorem Adj (ha:DE X a ma) (hb:DE X (.BoolOp .Or (b::rest) pos) mb):DE X (.BoolOp .Or (a::b::rest) pos) (fD ma mb):=fun loc mh=>by
 cases ea:Ah ma loc mh with
 | none =>
  have:fD ma mb loc mh=none:=by unfold fD DM.bnd;rw [ea]
  rw [this];exact Et
 | some p =>
  obtain ⟨k,m1⟩:=p;refine Bk (Aci (ha loc mh) (hb loc m1)) ?_;rintro σ H Q ⟨ρ,d,mh',q,rl,rs,co⟩;have q':(if k=true then Zr (.bl true) else mb) loc m1=some (d,mh'):=by unfold fD DM.bnd at q;rw [ea] at q;exact q
  refine ⟨ρ,.bl k,m1,Dj ea,rl,rs,fun H1 ρ1 v e1 rs1 r1=>?_⟩;cases r1;refine ⟨k,rfl,?_⟩;cases k with
  | true=>cases q';exact Rp (co H1 ρ1 _ e1 rs1 (.bl true))
  | false=>exact Ro ⟨ρ1,d,mh',q',rl.mono e1,rs1,co.ev e1⟩
theorem zB (ha:DE X a ma):DE X (.UnaryOp .Not a pos) ((Ah ma).bnd fun c=>Zr (.bl (!c))):=fun loc mh=>by
 refine Bk (wR (ha loc mh)) ?_;rintro σ H Q ⟨ρ,d,mh',q,rl,rs,co⟩;cases ea:Ah ma loc mh with
 | none=>unfold DM.bnd at q;rw [ea] at q;cases q
 | some p =>
  obtain ⟨k,m1⟩:=p;unfold DM.bnd at q;rw [ea] at q;cases q;refine ⟨ρ,.bl k,mh',Dj ea,rl,rs,fun H1 ρ1 v e1 rs1 r1=>?_⟩;cases r1;exact ⟨k,rfl,co H1 ρ1 _ e1 rs1 (.bl _)⟩
noncomputable def fG:D->MH->Option Bool
 | .non,_=>some false
 | .bl b,_=>some b
 | .int i,_=>some (i != 0)
 | .str y,_=>if y.length<=sizeLine then some ((y.length:Int) != 0) else none
 | .tup ds,_=>some (!ds.isEmpty)
 | .ref n,mh=>match mh[n]? with | some (.lst o)=>some (!o.isEmpty) | _=>none
 | .rol ds,_=>some (!ds.isEmpty)
 | .obj ..,_=>none
 | .fn _,_=>none
 | .lam,_=>none
theorem Hv {K:PySem.W.Frag}{H:Hp}{ρ:List Addr}{ds:List D}{xs:List V}(r:RDs K H ρ ds xs):ds.isEmpty=xs.isEmpty:=by cases r <;> rfl
theorem qU {K:PySem.W.Frag}{H:Hp}{ρ:List Addr}{mh:MH}{d:D}{v:V}{k:Bool}(rs:RS K H ρ mh) (r:RD K H ρ d v) (e:fG d mh=some k):yC K v H k:=by
 cases r with
 | non=>cases e;rfl
 | bl b=>cases e;rfl
 | int i=>cases e;rfl
 | str x =>
  have e:(if x.length<=sizeLine then some ((x.length:Int) != 0) else none)=some k:=e;split at e
  ·rename_i hz;cases e;exact ⟨hz,rfl⟩
  ·cases e
 | tup s r=>cases e;exact .inr (.inl ⟨_,s,by rw [Hv r]⟩)
 | rol s r=>cases e;exact .inl ⟨_,s.sq,by rw [Hv r]⟩
 | obj n s l r=>cases e
 | fn h=>cases e
 | lam h=>cases e
 | @ref n a h =>
  have e:(match mh[n]? with | some (.lst o)=>some (!o.isEmpty) | _=>none)=some k:=e;split at e
  ·rename_i o eo;cases e;obtain ⟨a',ha,ro⟩:=rs.at eo;rw [h] at ha;cases ha;obtain ⟨xs,q,r⟩:=ro.read;exact .inl ⟨xs,q,by rw [Hv r]⟩
  ·cases e
noncomputable def Mp (ma:DM D):DM Bool:=ma.bnd fun x=>fun _ mh=>match fG x mh with | some k=>some (k,mh) | none=>none
theorem Ud (ha:DE X a ma) (he:∀ whole,isTrue a X.env whole=(do let v ← whole;standAt a.pos;holding [v] (truthy v))):DT X a (Mp ma):=fun loc mh=>by
 refine Kz (dM (ha loc mh) he) ?_;rintro σ H Q ⟨ρ,k,mh',q,rl,rs,co⟩;obtain ⟨x,m1,ea,q⟩:=Al q
 ·split at q
  ·rename_i k' ek;cases q;exact ⟨ρ,x,mh',ea,rl,rs,fun H1 ρ1 v e1 rs1 r1=>⟨k,qU rs1 r1 ek,co H1 ρ1 e1 rs1⟩⟩
  ·cases q
noncomputable def Aa (ma:DM D) (mr:DM (List D)):DM (List D):=ma.bnd fun x=>mr.bnd fun xs=>Zr (x::xs)
theorem zE:DA X [] (Zr []):=by
 refine fun loc mh=>eY M7 ?_
 rintro σ H Q ⟨ρ,ds,mh',q,rl,rs,co⟩;cases q;exact co H ρ [] Ev.refl rs .nil
theorem qW {es:List Expr}{mr:DM (List D)}(ha:DE X a ma) (hr:DA X es mr) (hs:starEach (a::es) X.env=(false,eval a X.env)::starEach es X.env):DA X (a::es) (Aa ma mr):=fun loc mh=>by
 cases ea:ma loc mh with
 | none =>
  have:Aa ma mr loc mh=none:=by unfold Aa DM.bnd;rw [ea]
  rw [this];exact Ys
 | some p =>
  obtain ⟨x,m1⟩:=p;refine eY (Im (ha loc mh) (hr loc m1) hs) ?_;rintro σ H Q ⟨ρ,ds,mh',q,rl,rs,co⟩;obtain ⟨x2,m2,ea2,q⟩:=Al q;rw [ea] at ea2;cases ea2;obtain ⟨xs,m2,er,q'⟩:=Al q
  ·cases q';exact ⟨ρ,x,m1,ea,rl,rs,fun H1 ρ1 v e1 rs1 r1=>⟨ρ1,xs,mh',er,rl.mono e1,rs1,fun H2 ρ2 vs e2 rs2 r2=>co H2 ρ2 _ (e1.trans e2) rs2 (.cons (r1.mono e2) r2)⟩⟩
noncomputable def Qg (ds:List D) (mh:MH):Option (D×MH):=if ds.length<=sizeLine then some (.tup ds,mh) else none
noncomputable def Qh (ds:List D) (mh:MH):Option (D×MH):=if ds.length<=sizeLine then some (.ref mh.length,mh++[.lst ds]) else none
theorem RS.last {K:PySem.W.Frag}{H:Hp}{ρ:List Addr}{mh:MH}(h:RS K H ρ mh) (p:Addr):(ρ++[p])[mh.length]?=some p:=by rw [← h.len];simp
theorem Co.newT {K:PySem.W.Frag}{H:Hp}{ρ:List Addr}{mh:MH}{ds:List D}{vs:List V}{Q:VK}(rs:RS K H ρ mh) (r:RDs K H ρ ds vs) (co:Co K H ρ mh (.tup ds) Q):∀ p,H p=none->Q (.ref p) (upd H p (.tup vs)):=fun p hp =>
 co _ ρ _ (Ev.new hp) (rs.new hp) (.tup (.inl (.inl Cm)) (r.mono (Ev.new hp)))
theorem Co.newL {K:PySem.W.Frag}{H:Hp}{ρ:List Addr}{mh:MH}{ds:List D}{vs:List V}{Q:VK}(rs:RS K H ρ mh) (r:RDs K H ρ ds vs) (co:Co K H ρ (mh++[.lst ds]) (.ref mh.length) Q):∀ p,H p=none->Q (.ref p) (upd H p (.lst vs)):=fun p hp =>
 co _ (ρ++[p]) _ (Ev.newL hp) (rs.newL hp r) (.ref (rs.last p))
theorem zF {es:List Expr}{mr:DM (List D)}{x1}(h:DA X es mr):DE X (.Tuple es x1 pos) (mr.bnd fun ds=>Zl (Qg ds)):=fun loc mh=>by
 refine Bk (yE (h loc mh)) ?_;rintro σ H Q ⟨ρ,d,mh',q,rl,rs,co⟩;obtain ⟨ds,m1,ea,q⟩:=Al q
 ·unfold Zl Qg at q;split at q
  ·rename_i hz;cases q;exact ⟨ρ,ds,mh',ea,rl,rs,fun H1 ρ1 vs e1 rs1 r1=>⟨by rw [← r1.length];exact hz,Co.newT rs1 r1 (co.ev e1)⟩⟩
  ·cases q
theorem zG {es:List Expr}{mr:DM (List D)}(h:DA X es mr):DE X (.List es pos) (mr.bnd fun ds=>Zl (Qh ds)):=fun loc mh=>by
 refine Bk (yF (h loc mh)) ?_;rintro σ H Q ⟨ρ,d,mh',q,rl,rs,co⟩;obtain ⟨ds,m1,ea,q⟩:=Al q
 ·unfold Zl Qh at q;split at q
  ·rename_i hz;cases q;exact ⟨ρ,ds,m1,ea,rl,rs,fun H1 ρ1 vs e1 rs1 r1=>⟨by rw [← r1.length];exact hz,Co.newL rs1 r1 (co.ev e1)⟩⟩
  ·cases q
theorem Fi {f:List D->MH->Option (D×MH)}{es:List Expr}{mr:DM (List D)}{x:Str}{p:Pos}{id:String}(hc:Bg X (.builtin id) (rDs X.K f)) (hg:Gl X x) (hm:X.mg x=none) (hv:bootBuiltins x=some (.builtin id)) (ha:DA X (a::es) mr)
  (hn:x ≠ "__name__") (hdb:(x==("__debug__":Str))=false) (he:starEach (a::es) X.env=(false,eval a X.env)::starEach es X.env) (hpl:(backTo pos (starEach es X.env)).any (·.1)=false) :
  DE X (.Call (.Name x p) (a::es) [] pos) (mr.bnd fun ds=>Zl (f ds)):=fun loc mh=>by
 refine Bk (M8 hc hg hm hv (ha loc mh) hn hdb he hpl) ?_;rintro σ H Q ⟨ρ,d,mh',q,rl,rs,co⟩;obtain ⟨ds,m1,ea,q⟩:=Al q
 ·exact ⟨ρ,ds,m1,ea,rl,rs,fun H1 ρ1 vs e1 rs1 r1=>⟨ρ1,m1,ds,d,mh',q,rs1,r1,co.ev e1⟩⟩
theorem K1 {f:List D->MH->Option (D×MH)}{es:List Expr}{mr:DM (List D)}{x:Str}{p:Pos}{T:String}(hc:Bg X (.type T) (rDs X.K f)) (hg:Gl X x) (hm:X.mg x=none) (hv:bootBuiltins x=some (.type T)) (ha:DA X (a::es) mr)
  (hn:x ≠ "__name__") (hdb:(x==("__debug__":Str))=false) (he:starEach (a::es) X.env=(false,eval a X.env)::starEach es X.env) (hpl:(backTo pos (starEach es X.env)).any (·.1)=false) :
  DE X (.Call (.Name x p) (a::es) [] pos) (mr.bnd fun ds=>Zl (f ds)):=fun loc mh=>by
 refine Bk (Qd hc hg hm hv (ha loc mh) hn hdb he hpl) ?_;rintro σ H Q ⟨ρ,d,mh',q,rl,rs,co⟩;obtain ⟨ds,m1,ea,q⟩:=Al q
 ·exact ⟨ρ,ds,m1,ea,rl,rs,fun H1 ρ1 vs e1 rs1 r1=>⟨ρ1,m1,ds,d,mh',q,rs1,r1,co.ev e1⟩⟩
end
section
variable {X:Cx}
theorem Mt {f:Value->Value->Sem Value}{r r':R2}(h:OpR X f r) (i:∀ x y H Q,r' x y H Q->r x y H Q):OpR X f r':=fun pins s σ H x y v u Q I rx ry q=>h pins s σ H x y v u Q I rx ry (i x y H Q q)
noncomputable def iop (C:Int->Int->Bool) (g:Int->Int->Int):D->D->MH->Option (D×MH)
 | .int i,.int j,mh=>if C i j=true then some (.int (g i j),mh) else none
 | _,_,_=>none
theorem Js {f:Value->Value->Sem Value}{C:Int->Int->Prop}{Cb:Int->Int->Bool}{g:Int->Int->Int}(h:OpR X f (rI C fun i j=>.int (g i j))) (hC:∀ i j,Cb i j=true->C i j):OpR X f (rD X.K (iop Cb g)):=by
 refine Mt h ?_;rintro x y H Q ⟨ρ,mh,dx,dy,d,mh',q,rs,rx,ry,co⟩;cases rx with
 | int i =>
  cases ry with
  | int j =>
   have q:(if Cb i j=true then some (D.int (g i j),mh) else none)=some (d,mh'):=q;split at q
   ·rename_i hc;cases q;exact ⟨i,j,rfl,rfl,hC i j hc,co H ρ _ Ev.refl rs (.int _)⟩
   ·cases q
  | _=>cases q
 | _=>cases q
theorem Yv {f:Value->Value->Sem Value}{g:Int->Int->Int}(h:OpR X f (rI0 fun i j=>.int (g i j))):OpR X f (rD X.K (iop (fun _ _=>true) g)) :=
 Js (C:=fun _ _=>True) (Mt h fun x y H Q ⟨i,j,e1,e2,_,q⟩=>⟨i,j,e1,e2,q⟩) fun _ _ _=>trivial
noncomputable def Pj (g:Int->Int->Bool):D->D->MH->Option (D×MH)
 | .int i,.int j,mh=>some (.bl (g i j),mh)
 | _,_,_=>none
theorem Mu {f:Value->Value->Sem Value}{g:Int->Int->Bool}(h:OpR X f (rI0 fun i j=>.bl (g i j))):OpR X f (rD X.K (Pj g)):=by
 refine Mt h ?_;rintro x y H Q ⟨ρ,mh,dx,dy,d,mh',q,rs,rx,ry,co⟩;cases rx with
 | int i =>
  cases ry with
  | int j =>
   cases q;exact ⟨i,j,rfl,rfl,co H ρ _ Ev.refl rs (.bl _)⟩
  | _=>cases q
 | _=>cases q
noncomputable def Ay:D->D->MH->Option (D×MH)
 | .int i,.int j,mh=>some (.int (i+j),mh)
 | .str i,.str j,mh=>if i.length+j.length<=sizeLine then some (.str (i++j),mh) else none
 | .tup xs,.tup ys,mh=>if xs.length+ys.length<=sizeLine then some (.tup (xs++ys),mh) else none
 | .ref n,.ref m,mh=>match mh[n]?,mh[m]? with
  | some (.lst xs),some (.lst ys)=>if xs.length+ys.length<=sizeLine then some (.ref mh.length,mh++[.lst (xs++ys)]) else none
  | _,_=>none
 | _,_,_=>none
end
noncomputable def Cr {α β:Type}(f:α->Option β):List α->Option (List β)
 | []=>some []
 | x::xs=>match f x with
  | some y=>match Cr f xs with
   | some ys=>some (y::ys)
   | none=>none
  | none=>none
noncomputable def py (mh:MH):Nat->D->Option PyData
 | _,.non=>some .none
 | _,.bl b=>some (.bool b)
 | _,.int i=>some (.int i)
 | _,.str x=>if PyData.strOk x=true then some (.str x) else none
 | 0,.tup _=>none
 | 0,.ref _=>none
 | 0,.rol _=>none
 | 0,.obj ..=>none
 | _+1,.obj ..=>none
 | 0,.fn _=>none
 | 0,.lam=>none
 | _+1,.fn _=>none
 | _+1,.lam=>none
 | n+1,.tup ds=>match Cr (py mh n) ds with | some xs=>some (.tuple xs) | none=>none
 | n+1,.rol ds=>match Cr (py mh n) ds with | some xs=>some (.list xs) | none=>none
 | n+1,.ref k=>match mh[k]? with
  | some (.lst o)=>match Cr (py mh n) o with | some xs=>some (.list xs) | none=>none
  | _=>none
section
variable {X:Cx}{pins:List (Addr×Obj)}{σ:St}{H:Hp}{s:Shared}{ρ:List Addr}{mh:MH}
theorem Eh (I:Inv X pins σ H s) (rs:RS X.K H ρ mh):∀ (n:Nat) (d:D) (v:V) (u:Value) (a:PyData),py mh n d=some a->RD X.K H ρ d v->RelV v u->(∃ as,Reads s.heap u a as)/\a.canLay0=true/\a.depth<=n:=by
 intro n
 induction n with
 | zero =>
  intro d v u a e r rv;cases r with
  | non=>cases e;cases rv;exact ⟨⟨_,.none⟩,rfl,Nat.le_refl _⟩
  | bl b=>cases e;cases rv;exact ⟨⟨_,.bool b⟩,rfl,Nat.le_refl _⟩
  | int i=>cases e;obtain ⟨t,rfl⟩:=rv;exact ⟨⟨_,.int i t⟩,rfl,Nat.le_refl _⟩
  | str x =>
   have e:(if PyData.strOk x=true then some (PyData.str x) else none)=some a:=e;split at e
   ·cases e;obtain ⟨t,rfl⟩:=rv;exact ⟨⟨_,.str x t⟩,by assumption,Nat.le_refl _⟩
   ·cases e
  | tup s r=>cases e
  | ref h=>cases e
  | rol s r=>cases e
  | obj n s l r=>cases e
  | fn h=>cases e
  | lam h=>cases e
 | succ n ih =>
  have all:∀ (ds:List D) (vs:List V) (us:List Value) (as:List PyData),Cr (py mh n) ds=some as->RDs X.K H ρ ds vs->Vals vs us->(∃ bs,ReadsAll s.heap us as bs)/\PyData.canLayAll0 as=true/\PyData.depthAll as<=n:=by
   intro ds
   induction ds with
   | nil=>intro vs us as e r rv;cases e;cases r;cases rv;exact ⟨⟨_,.nil⟩,rfl,Nat.zero_le _⟩
   | cons d ds ihd =>
    intro vs us as e r rv;cases r with
    | cons r1 r2 =>
     cases rv with
     | cons v1 v2 =>
      simp only [Cr] at e;split at e
      ·rename_i y ey;split at e
       ·rename_i ys eys;cases e;obtain ⟨⟨a1,h1⟩,h2,h3⟩:=ih _ _ _ _ ey r1 v1;obtain ⟨⟨b1,g1⟩,g2,g3⟩:=ihd _ _ _ eys r2 v2;refine ⟨⟨_,.cons h1 g1⟩,?_,?_⟩
        ·simp only [PyData.canLayAll0,h2,g2,Bool.and_self]
        ·simp only [PyData.depthAll];omega
       ·cases e
      ·cases e
  intro d v u a e r rv;cases r with
  | non=>cases e;cases rv;exact ⟨⟨_,.none⟩,rfl,Nat.zero_le _⟩
  | bl b=>cases e;cases rv;exact ⟨⟨_,.bool b⟩,rfl,Nat.zero_le _⟩
  | int i=>cases e;obtain ⟨t,rfl⟩:=rv;exact ⟨⟨_,.int i t⟩,rfl,Nat.zero_le _⟩
  | str x =>
   have e:(if PyData.strOk x=true then some (PyData.str x) else none)=some a:=e;split at e
   ·cases e;obtain ⟨t,rfl⟩:=rv;exact ⟨⟨_,.str x t⟩,by assumption,Nat.zero_le _⟩
   ·cases e
  | @tup ds a' xs sq r =>
   cases rv;have e:(match Cr (py mh n) ds with | some xs=>some (PyData.tuple xs) | none=>none)=some a:=e;split at e
   ·rename_i ys ey;cases e;obtain ⟨its,rv,⟨o,h1,h2,n',h3⟩,_⟩:=I.tuple sq;obtain ⟨⟨bs,g1⟩,g2,g3⟩:=all ds xs its ys ey r rv;refine ⟨⟨_,.tuple h1 h2 h3 (by simpa using g1)⟩,by simpa [PyData.canLay0] using g2,?_⟩;simp only [PyData.depth];omega
   ·cases e
  | obj n s l r=>cases e
  | fn h=>cases e
  | lam h=>cases e
  | @rol ds a' xs sq r =>
   cases rv;have e:(match Cr (py mh n) ds with | some xs=>some (PyData.list xs) | none=>none)=some a:=e;split at e
   ·rename_i ys ey;cases e;obtain ⟨its,rv,⟨ob,n',h1,h2,h2',h3⟩,_⟩:=I.list sq.sq;obtain ⟨⟨bs,g1⟩,g2,g3⟩:=all _ xs its ys ey r rv;refine ⟨⟨_,.list h1 h2 h3 (by simpa using g1)⟩,by simpa [PyData.canLay0] using g2,?_⟩;simp only [PyData.depth];omega
   ·cases e
  | @ref k a' h =>
   cases rv;have e:(match mh[k]? with | some (.lst o)=>(match Cr (py mh n) o with | some xs=>some (PyData.list xs) | none=>none) | _=>none)=some a:=e;split at e
   ·rename_i o eo;split at e
    ·rename_i ys ey;cases e;obtain ⟨a2,ha,ro⟩:=rs.at eo;rw [h] at ha;cases ha;obtain ⟨xs,sq,r⟩:=ro.read;obtain ⟨its,rv,⟨ob,n',h1,h2,h2',h3⟩,_⟩:=I.list sq;obtain ⟨⟨bs,g1⟩,g2,g3⟩:=all _ xs its ys ey r rv;refine ⟨⟨_,.list h1 h2 h3 (by simpa using g1)⟩,by simpa [PyData.canLay0] using g2,?_⟩;simp only [PyData.depth];omega
    ·cases e
   ·cases e
noncomputable def eqB (mh:MH) (x y:D):Option Bool:=match py mh 60 x,py mh 60 y with
 | some a,some b=>some (PyData.eqv a b)
 | _,_=>none
noncomputable def eqD (x y:D) (mh:MH):Option (D×MH):=match eqB mh x y with | some k=>some (.bl k,mh) | none=>none
noncomputable def neD (x y:D) (mh:MH):Option (D×MH):=match eqB mh x y with | some k=>some (.bl (!k),mh) | none=>none
theorem fH {A:Around}{a b:PyData}(hu:A.units+64 < cLine) (h:a.depth<=60):A.units+min a.depth b.depth < cLine:=by omega
theorem Ue {x y:D}{k:Bool}(h:eqB mh x y=some k):∃ a b,py mh 60 x=some a/\py mh 60 y=some b/\k=PyData.eqv a b:=by
 unfold eqB at h;split at h
 ·rename_i a b ea eb;cases h;exact ⟨a,b,ea,eb,rfl⟩
 ·cases h
theorem zH (hu:X.A.units+64 < cLine):OpR X (compareOp .Eq) (rD X.K eqD):=by
 rintro pins s σ H x y v u Q I rx ry ⟨ρ,mh,dx,dy,d,mh',q,rs,r1,r2,co⟩;unfold eqD at q;split at q
 ·rename_i k ek;cases q;obtain ⟨a,b,ea,eb,rfl⟩:=Ue ek;obtain ⟨⟨as,h1⟩,h2,h3⟩:=Eh I rs 60 dx x v a ea r1 rx;obtain ⟨⟨bs,g1⟩,g2,g3⟩:=Eh I rs 60 dy y u b eb r2 ry;exact SeqAt.compareEq_reads h1 g1 h2 g2 (fH hu h3) ⟨.bl _,H,I,rfl,co H ρ _ Ev.refl rs (.bl _)⟩
 ·cases q
theorem zJ (hu:X.A.units+64 < cLine):OpR X (compareOp .NotEq) (rD X.K neD):=by
 rintro pins s σ H x y v u Q I rx ry ⟨ρ,mh,dx,dy,d,mh',q,rs,r1,r2,co⟩;unfold neD at q;split at q
 ·rename_i k ek;cases q;obtain ⟨a,b,ea,eb,rfl⟩:=Ue ek;obtain ⟨⟨as,h1⟩,h2,h3⟩:=Eh I rs 60 dx x v a ea r1 rx;obtain ⟨⟨bs,g1⟩,g2,g3⟩:=Eh I rs 60 dy y u b eb r2 ry;exact SeqAt.compareNe_reads h1 g1 h2 g2 (fH hu h3) ⟨.bl _,H,I,rfl,co H ρ _ Ev.refl rs (.bl _)⟩
 ·cases q
noncomputable def inB (mh:MH) (x c:D):Option Bool:=match py mh 60 x,py mh 60 c with
 | some a,some (.list xs)=>some (xs.any fun y=>PyData.eqv y a)
 | some a,some (.tuple xs)=>some (xs.any fun y=>PyData.eqv y a)
 | _,_=>none
noncomputable def qX (neg:Bool) (x c:D) (mh:MH):Option (D×MH):=match inB mh x c with | some k=>some (.bl (if neg then !k else k),mh) | none=>none
theorem qY (hu:X.A.units+64 < cLine):OpR X (compareOp .In) (rD X.K (qX false)):=by
 rintro pins s σ H x y v u Q I rx ry ⟨ρ,mh,dx,dy,d,mh',q,rs,r1,r2,co⟩;unfold qX at q;split at q
 ·rename_i k ek;cases q;unfold inB at ek;split at ek
  ·rename_i a xs ea eb;cases ek;obtain ⟨⟨as,h1⟩,h2,h3⟩:=Eh I rs 60 dx x v a ea r1 rx;obtain ⟨⟨bs,g1⟩,g2,g3⟩:=Eh I rs 60 dy y u _ eb r2 ry;exact SeqAt.in_list_reads g1 h1 (by simpa [PyData.canLay0] using g2) h2 (by simp only [PyData.depth] at g3;omega) ⟨.bl _,H,I,rfl,co H ρ _ Ev.refl rs (.bl _)⟩
  ·rename_i a xs ea eb;cases ek;obtain ⟨⟨as,h1⟩,h2,h3⟩:=Eh I rs 60 dx x v a ea r1 rx;obtain ⟨⟨bs,g1⟩,g2,g3⟩:=Eh I rs 60 dy y u _ eb r2 ry;exact SeqAt.in_tuple_reads g1 h1 (by simpa [PyData.canLay0] using g2) h2 (by simp only [PyData.depth] at g3;omega) ⟨.bl _,H,I,rfl,co H ρ _ Ev.refl rs (.bl _)⟩
  ·cases ek
 ·cases q
end
section
variable {X:Cx}
noncomputable def isD (neg:Bool) (x y:D) (mh:MH):Option (D×MH):=match y with
 | .non=>some (.bl (if neg then !(match x with | .non=>true | _=>false) else match x with | .non=>true | _=>false),mh)
 | .bl b=>(match x with
  | .bl a=>some (.bl (if neg then a != b else a==b),mh)
  | .non=>some (.bl neg,mh)
  | _=>none)
 | _=>none
theorem zK:OpR X (compareOp .Is) (rD X.K (isD false)):=by
 rintro pins s σ H x y v u Q I rx ry ⟨ρ,mh,dx,dy,d,mh',q,rs,r1,r2,co⟩;cases r2 with
 | non =>
  cases q;cases ry;refine is_none_gen ⟨.bl _,H,I,?_,co H ρ _ Ev.refl rs (.bl _)⟩;rw [rx.none_iff];cases r1 <;> rfl
 | bl b =>
  cases r1 with
  | bl a=>cases q;cases rx;cases ry;exact is_bool ⟨.bl _,H,I,rfl,co H ρ _ Ev.refl rs (.bl _)⟩
  | non=>cases q;cases rx;cases ry;exact wpAny_pure (a:=Value.bool false) ⟨.bl _,H,I,rfl,co H ρ _ Ev.refl rs (.bl _)⟩
  | _=>cases q
 | _=>cases q
theorem aD:OpR X (compareOp .IsNot) (rD X.K (isD true)):=by
 rintro pins s σ H x y v u Q I rx ry ⟨ρ,mh,dx,dy,d,mh',q,rs,r1,r2,co⟩;cases r2 with
 | non =>
  cases q;cases ry;refine isnot_none_gen ⟨.bl _,H,I,?_,co H ρ _ Ev.refl rs (.bl _)⟩;rw [rx.none_iff];cases r1 <;> rfl
 | bl b =>
  cases r1 with
  | bl a=>cases q;cases rx;cases ry;exact isnot_bool ⟨.bl _,H,I,rfl,co H ρ _ Ev.refl rs (.bl _)⟩
  | non=>cases q;cases rx;cases ry;exact wpAny_pure (a:=Value.bool true) ⟨.bl _,H,I,rfl,co H ρ _ Ev.refl rs (.bl _)⟩
  | _=>cases q
 | _=>cases q
theorem fJ:OpR X (binaryOp .Add) (fun x y H Q=>∃ a b ys,x=.ref a/\y=.ref b/\SqT X.K H a []/\SqT X.K H b ys/\Q (.ref b) H):=by
 rintro pins s σ H x y v u Q I rx ry ⟨a,b,ys,e1,e2,ha,hb,q⟩;subst e1;subst e2;cases rx;cases ry;obtain ⟨its,r1,p1,_⟩:=I.tuple ha;obtain ⟨its2,r2,p2,_⟩:=I.tuple hb;cases r1;obtain ⟨⟨cls,dd,data,sl⟩,ho,hc,n,hd⟩:=id p1;obtain ⟨⟨cls2,dd2,data2,sl2⟩,ho2,hc2,n2,hd2⟩:=id p2;simp only at hc hd hc2 hd2;subst hc hd hc2 hd2;exact concat_meets ⟨_,ho,rfl⟩ ⟨_,ho2,rfl⟩ noFill_tuple_add seq_tuple_add PySem.F.slot_tuple_add PySem.F.entry_tuple_add (PySem.F.args_tuple_add_2 _ _) (tuple_addW0 a b _ _ n n2 dd dd2 sl sl2 (by simp)) ⟨ho,ho2,⟨.ref b,H,I,rfl,q⟩⟩
theorem qZ:OpR X (binaryOp .Add) (rD X.K Ay):=by
 refine Mt (xR.or (Ww.or (pY.or (yO.or fJ)))) ?_;rintro x y H Q ⟨ρ,mh,dx,dy,d,mh',q,rs,rx,ry,co⟩;cases rx with
 | int i =>
  cases ry with
  | int j=>cases q;exact .inl ⟨i,j,rfl,rfl,co H ρ _ Ev.refl rs (.int _)⟩
  | _=>cases q
 | str i =>
  cases ry with
  | str j =>
   have q:(if i.length+j.length<=sizeLine then some (D.str (i++j),mh) else none)=some (d,mh'):=q;split at q
   ·rename_i hz;cases q;exact .inr (.inl ⟨i,j,rfl,rfl,hz,co H ρ _ Ev.refl rs (.str _)⟩)
   ·cases q
  | _=>cases q
 | @tup xs a us s1 r1 =>
  cases ry with
  | @tup ys b ws s2 r2 =>
   have q:(if xs.length+ys.length<=sizeLine then some (D.tup (xs++ys),mh) else none)=some (d,mh'):=q;split at q
   ·rename_i hz;cases q
    by_cases hne:xs=[]
    ·subst hne;cases r1;exact .inr (.inr (.inr (.inr ⟨a,b,ws,rfl,rfl,s1,s2,co H ρ _ Ev.refl rs (.tup s2 r2)⟩)))
    ·refine .inr (.inr (.inl ⟨a,b,us,ws,rfl,rfl,s1,s2,fun z=>hne ?_,by rw [← r1.length,← r2.length];exact hz,?_⟩))
     ·rw [z] at r1;cases r1;rfl
     ·refine ⟨fun z=>?_,fun z=>Co.newT rs (r1.append r2) co⟩;subst z;cases r2;exact co H ρ _ Ev.refl rs (.tup s1 (by rw [List.append_nil];exact r1))
   ·cases q
  | _=>cases q
 | @ref n a ha =>
  cases ry with
  | @ref m b hb =>
   have q:(match mh[n]?,mh[m]? with
    | some (.lst xs),some (.lst ys)=>if xs.length+ys.length<=sizeLine then some (D.ref mh.length,mh++[.lst (xs++ys)]) else none
    | _,_=>none)=some (d,mh'):=q
   split at q
   ·rename_i xs ys e1 e2;split at q
    ·rename_i hz;cases q;obtain ⟨a2,h1,us,g1,r1⟩:=rs.at e1;obtain ⟨b2,h2,ws,g2,r2⟩:=rs.at e2;rw [ha] at h1;rw [hb] at h2;cases h1;cases h2;exact .inr (.inr (.inr (.inl ⟨a,b,us,ws,rfl,rfl,g1,g2,by rw [← r1.length,← r2.length];exact hz,Co.newL rs (r1.append r2) co⟩)))
    ·cases q
   ·cases q
  | _=>cases q
 | _=>cases q
end
section
variable {X:Cx}
theorem K3 {f:Value}{r r':List V->Hp->VK->Prop}(h:Bg X f r) (i:∀ xs H Q,r' xs H Q->r xs H Q):Bg X f r':=fun pins s σ H xs us Q I rx q=>h pins s σ H xs us Q I rx (i xs H Q q)
theorem rA {r r':R2}(h:IxR X r) (i:∀ x y H Q,r' x y H Q->r x y H Q):IxR X r':=fun a b pins s σ H x y v u Q I rx ry q hs=>h a b pins s σ H x y v u Q I rx ry (i x y H Q q) hs
theorem rB {r r':V->Option Int->Option Int->Hp->VK->Prop}(h:SlR X r) (i:∀ x lo hi H Q,r' x lo hi H Q->r x lo hi H Q):SlR X r':=fun pins s σ H x v vl vu lo hi sl Q I rx hs pl pu q=>h pins s σ H x v vl vu lo hi sl Q I rx hs pl pu (i x lo hi H Q q)
noncomputable def Eu:D->MH->Option (List D)
 | .tup ds,_=>some ds
 | .ref n,mh=>match mh[n]? with | some (.lst o)=>some o | _=>none
 | .rol ds,_=>some ds
 | _,_=>none
theorem J5 {K:PySem.W.Frag}{H:Hp}{ρ:List Addr}{mh:MH}{d:D}{v:V}{ds:List D}(rs:RS K H ρ mh) (r:RD K H ρ d v) (e:Eu d mh=some ds):∃ p xs,v=.ref p/\(SqL K H p xs\/SqT K H p xs)/\RDs K H ρ ds xs:=by
 cases r with
 | tup s r=>cases e;exact ⟨_,_,rfl,.inr s,r⟩
 | rol s r=>cases e;exact ⟨_,_,rfl,.inl s.sq,r⟩
 | @ref n a h =>
  have e:(match mh[n]? with | some (.lst o)=>some o | _=>none)=some ds:=e;split at e
  ·rename_i o eo;cases e;obtain ⟨a',ha,ro⟩:=rs.at eo;rw [h] at ha;cases ha;obtain ⟨xs,q,r⟩:=ro.read;exact ⟨_,xs,rfl,.inl q,r⟩
  ·cases e
 | _=>cases e
theorem rC {K:PySem.W.Frag}{H:Hp}{ρ:List Addr}{ds:List D}{xs:List V}{i:Int}{d:D}(r:RDs K H ρ ds xs) (e:atI ds i=some d):∃ v,atI xs i=some v/\RD K H ρ d v:=by
 unfold atI at e ⊢;rw [← r.length];cases q:ixN ds.length i with
 | none=>rw [q] at e;cases e
 | some j =>
  rw [q] at e;exact r.get e
noncomputable def aF (x y:D) (mh:MH):Option (D×MH):=match y with
 | .int i=>(match x with
  | .str z=>if z.length<=sizeLine then (match atI z.cps.toList i with | some c=>some (.str ⟨#[c]⟩,mh) | none=>none) else none
  | _=>match Eu x mh with
   | some ds=>(match atI ds i with | some d=>some (d,mh) | none=>none)
   | none=>none)
 | _=>none
theorem Adk:IxR X (rD X.K aF):=by
 refine rA (yK (X:=X)) ?_;rintro x y H Q ⟨ρ,mh,dx,dy,d,mh',q,rs,rx,ry,co⟩;have seq:∀ i:Int,y=.int i->(match Eu dx mh with | some ds=>(match atI ds i with | some d=>some (d,mh) | none=>none) | none=>none)=some (d,mh')->rIx X.K x y H Q:=fun i ey q=>by
  split at q
  ·rename_i ds e1;split at q
   ·rename_i d' e2;cases q;obtain ⟨p,xs,rfl,hq,r⟩:=J5 rs rx e1;obtain ⟨v,e3,r3⟩:=rC r e2;rcases hq with hq|hq
    ·exact .inl ⟨p,xs,i,v,rfl,ey,hq,e3,co H ρ v Ev.refl rs r3⟩
    ·exact .inr (.inl ⟨p,xs,i,v,rfl,ey,hq,e3,co H ρ v Ev.refl rs r3⟩)
   ·cases q
  ·cases q
 cases ry with
 | int i =>
  cases rx with
  | str z =>
   have q:(if z.length<=sizeLine then (match atI z.cps.toList i with | some c=>some (D.str ⟨#[c]⟩,mh) | none=>none) else none)=some (d,mh'):=q;split at q
   ·rename_i hz;split at q
    ·rename_i c ec;cases q;exact .inr (.inr ⟨z,i,c,rfl,rfl,hz,ec,co H ρ _ Ev.refl rs (.str _)⟩)
    ·cases q
   ·cases q
  | non=>exact seq i rfl q
  | bl b=>exact seq i rfl q
  | int j=>exact seq i rfl q
  | tup s r=>exact seq i rfl q
  | ref h=>exact seq i rfl q
  | rol s r=>exact seq i rfl q
  | obj n s l r=>exact seq i rfl q
  | fn h=>exact seq i rfl q
  | lam h=>exact seq i rfl q
 | _=>cases q
noncomputable def cutD {α:Type}(xs:List α) (lo hi:Option Int):List α:=(xs.drop (HT.sIx xs.length 0 lo)).take (HT.sIx xs.length xs.length hi - HT.sIx xs.length 0 lo)
theorem Rv {K:PySem.W.Frag}{H:Hp}{ρ:List Addr}{ds:List D}{xs:List V}{lo hi:Option Int}(r:RDs K H ρ ds xs):RDs K H ρ (cutD ds lo hi) (T7 xs lo hi):=by
 unfold cutD T7;rw [r.length];exact (r.drop _).take _
theorem Jd {prog:Program}{w:World}{A:Around}{E:Value->Shared->Prop}{s:Shared}{t sl:Addr}{items:Array Value}{vl vu:Value}{lo hi:Option Int}{Q:Value->Shared->Prop}(ht:IsTup s.heap t items) (hs:s.heap.IsSliceOf sl vl vu .none) (pl:IsPart vl lo) (pu:IsPart vu hi)
  (h0:HT.sIx items.size 0 lo=0) (h1:HT.sIx items.size items.size hi=items.size) (h:Q (.ref t) s):wpAny (model prog w) A (getItem (.ref t) (.ref sl)) Q E s:=by
 obtain ⟨os,hos,hcs,hds⟩:=id hs
 have hTs:s.TypeIs (.ref sl) "slice":=⟨os,hos,hcs⟩
 unfold getItem
 try with_reducible refine wpAny_holding ?_
 first | refine wpAny_bind (wpAny_pure ?_) | skip
 refine wpAny_bind (wpAny_sequenceKey ht.typeIs (by decide) ?_)
 refine wpAny_bind (wpAny_callSpecial?_slot (name:=Str.ofString "__getitem__") ht.typeIs PyProof.Rows.slot_tuple_getitem
  (wpAny_call_entry PyProof.Rows.slot_tuple_getitem ht.typeIs entry_tuple_getitem ?_ (args_tuple_getitem _ _)))
 show wpAny _ _ (Builtin.Tuple.tupleItemsOf (.ref t) >>= _) _ _ s;refine wpAny_bind (tupleItemsOf_ ht ?_);refine wpAny_bind (wpAny_typeOf hTs ?_);rw [if_pos (by decide)];refine wpAny_bind (HT.sliceApplied_gen hs pl pu ?_);rw [h0,h1];have hyes:((((0:Nat):Int)==0&&(1:Int)==1&&(items.size - 0)==items.size)=true):=by simp
 show wpAny _ _ (if (((0:Nat):Int)==0&&(1:Int)==1&&(items.size - 0)==items.size)=true then _ else _) _ _ s;rw [if_pos hyes];unfold Builtin.Tuple.tupleIsExact;refine wpAny_bind (wpAny_bind (wpAny_typeOf ht.typeIs (wpAny_pure ?_)));rw [if_pos (by decide)];exact wpAny_bind (wpAny_rule (wpAny_pure ⟨_,rfl,wpAny_pure h⟩))
theorem aG:SlR X (fun x lo hi H Q=>∃ a xs,x=.ref a/\SqT X.K H a xs/\HT.sIx xs.length 0 lo=0/\HT.sIx xs.length xs.length hi=xs.length/\Q (.ref a) H):=by
 intro pins s σ H x v vl vu lo hi sl Q I rx hs pl pu h;obtain ⟨a,xs,rfl,hx,h0,h1,q⟩:=h;cases rx;obtain ⟨its,r,ht,hz⟩:=I.tuple hx;have hlen:its.toArray.size=xs.length:=by rw [List.size_toArray];exact r.length.symm
 refine ⟨"tuple",_,PyProof.Rows.slot_tuple_getitem.lookup,ht.typeIs,?_⟩;exact Jd ht hs pl pu (by rw [hlen];exact h0) (by rw [hlen];exact h1) ⟨.ref a,H,I,rfl,q⟩
noncomputable def slD (x:D) (lo hi:Option Int) (mh:MH):Option (D×MH):=match x with
 | .tup ds=>if HT.sIx ds.length 0 lo=0/\HT.sIx ds.length ds.length hi=ds.length then some (.tup ds,mh) else some (.tup (cutD ds lo hi),mh)
 | .ref n=>match mh[n]? with
  | some (.lst o)=>some (.ref mh.length,mh++[.lst (cutD o lo hi)])
  | _=>none
 | .rol ds=>some (.ref mh.length,mh++[.lst (cutD ds lo hi)])
 | _=>none
noncomputable def Afj (K:PySem.W.Frag):V->Option Int->Option Int->Hp->VK->Prop:=fun x lo hi H Q=>∃ ρ mh dx d mh',slD dx lo hi mh=some (d,mh')/\RS K H ρ mh/\RD K H ρ dx x/\Co K H ρ mh' d Q
theorem Afk:SlR X (Afj X.K):=by
 refine rB (aG.or (yH.or qC)) ?_;rintro x lo hi H Q ⟨ρ,mh,dx,d,mh',q,rs,rx,co⟩;cases rx with
 | @tup ds a xs s r =>
  have q:(if HT.sIx ds.length 0 lo=0/\HT.sIx ds.length ds.length hi=ds.length then some (D.tup ds,mh) else some (D.tup (cutD ds lo hi),mh))=some (d,mh'):=q;have hl:=r.length;split at q
  ·rename_i hw;cases q;exact .inl ⟨a,xs,rfl,s,by rw [← hl];exact hw.1,by rw [← hl];exact hw.2,co H ρ _ Ev.refl rs (.tup s r)⟩
  ·rename_i hw;cases q;exact .inr (.inl ⟨a,xs,rfl,s,by rw [← hl];exact hw,Co.newT rs (Rv r) co⟩)
 | @ref n a h =>
  have q:(match mh[n]? with | some (.lst o)=>some (D.ref mh.length,mh++[.lst (cutD o lo hi)]) | _=>none)=some (d,mh'):=q;split at q
  ·rename_i o eo;cases q;obtain ⟨a',ha,ro⟩:=rs.at eo;rw [h] at ha;cases ha;obtain ⟨xs,sq,r⟩:=ro.read;exact .inr (.inr ⟨a,xs,rfl,sq,Co.newL rs (Rv r) co⟩)
  ·cases q
 | @rol ds a xs s r =>
  cases q;exact .inr (.inr ⟨a,xs,rfl,s.sq,Co.newL rs (Rv r) co⟩)
 | _=>cases q
noncomputable def J6 (m:Option (DM D)):DM (Option Int):=match m with
 | none=>Zr none
 | some m=>m.bnd fun x=>match x with | .int i=>Zr (some i) | _=>Zb
noncomputable def fK (X:Cx) (e:Option Expr) (m:Option (DM D)):Prop:=match e,m with
 | none,none=>True
 | some e,some m=>DE X e m
 | _,_=>False
noncomputable def tDO (K:PySem.W.Frag) (loc:Loc) (mh:MH) (r:Option (Option Int×MH)):TO:=fun σ H Q=>∃ ρ o mh',r=some (o,mh')/\RL K H ρ loc σ/\RS K H ρ mh/\∀ H' ρ',Ev K H ρ H' ρ'->RS K H' ρ' mh'->Q o H'
theorem Adl {e:Option Expr}{m:Option (DM D)}(h:fK X e m) (loc:Loc) (mh:MH):PO X e (tDO X.K loc mh (J6 m loc mh)):=by
 rintro pins s σ H Q I ⟨ρ,o,mh',q,rl,rs,co⟩;cases e with
 | none =>
  cases m with
  | none =>
   cases q;exact pW pins s σ H Q I (co H ρ Ev.refl rs)
  | some m=>exact h.elim
 | some e =>
  cases m with
  | none=>exact h.elim
  | some m =>
   obtain ⟨x,m1,ea,q⟩:=Al q;cases x with
   | int i =>
    cases q;refine pX (h loc mh) pins s σ H Q I ⟨ρ,.int i,mh',ea,rl,rs,fun H' ρ' v e' rs' r'=>?_⟩;cases r';exact ⟨i,rfl,co H' ρ' e' rs'⟩
   | non=>cases q
   | bl b=>cases q
   | str z=>cases q
   | tup ds=>cases q
   | ref n=>cases q
   | rol ds=>cases q
   | obj c ks ds=>cases q
   | fn x=>cases q
   | lam=>cases q
noncomputable def dSl (ma:DM D) (ml mu:Option (DM D)):DM D:=ma.bnd fun x=>(J6 ml).bnd fun l=>(J6 mu).bnd fun u=>Zl (slD x l u)
theorem fL {a:Expr}{ma:DM D}{lo hi:Option Expr}{ml mu:Option (DM D)}{p2 pos:Pos}(ha:DE X a ma) (hl:fK X lo ml) (hu:fK X hi mu):DE X (.Subscript a (.Slice lo hi none p2) pos) (dSl ma ml mu):=fun loc mh=>by
 cases ea:ma loc mh with
 | none =>
  have:dSl ma ml mu loc mh=none:=by unfold dSl DM.bnd;rw [ea]
  rw [this];exact Et
 | some p =>
  obtain ⟨x,m1⟩:=p;cases el:J6 ml loc m1 with
  | none =>
   have:dSl ma ml mu loc mh=none:=by unfold dSl;unfold DM.bnd;rw [ea];dsimp only;rw [el]
   rw [this];exact Et
  | some p2 =>
   obtain ⟨l,m2⟩:=p2;refine Bk (dW Afk (ha loc mh) (Adl hl loc m1) (Adl hu loc m2)) ?_;rintro σ H Q ⟨ρ,d,mh',q,rl,rs,co⟩;obtain ⟨x',m1',ea',q⟩:=Al q;rw [ea] at ea';cases ea';obtain ⟨l',m2',el',q⟩:=Al q;rw [el] at el';cases el';obtain ⟨u,m3,eu,q⟩:=Al q
   exact ⟨ρ,x,m1,ea,rl,rs,fun H1 ρ1 v e1 rs1 r1=>⟨ρ1,l,m2,el,rl.mono e1,rs1,fun H2 ρ2 e2 rs2=>⟨ρ2,u,m3,eu,(rl.mono e1).mono e2,rs2,fun H3 ρ3 e3 rs3 =>
    ⟨ρ3,m3,x,d,mh',q,rs3,(r1.mono e2).mono e3,co.ev (e1.trans (e2.trans e3))⟩⟩⟩⟩
theorem fM (its:List Value):slicePick its.toArray none none (some (-1))=its.reverse.toArray:=by
 unfold slicePick sliceBounds sliceRange;simp only [Option.getD_some];have h1:¬ ((-1:Int) > 0):=by decide
 simp only [h1,if_false,List.size_toArray];congr 1;have hc:(if ((its.length:Int) - 1 > -1) then ((its.length:Int) - 1 - -1 - -1 - 1) / (- -1) else 0).toNat=its.length:=by
  split
  ·have:((its.length:Int) - 1 - -1 - -1 - 1) / (- -1)=its.length:=by
    have e:(- -1:Int)=1:=by decide
    rw [e,Int.ediv_one];omega
   rw [this];omega
  ·omega
 rw [hc];have e:∀ k,k<=its.length->(List.map (fun (k:Nat)=>((its.length:Int) - 1+-1 * (k:Int)).toNat) (List.range k)).filterMap (fun x=>its.toArray[x]?)=its.reverse.take k:=by
  intro k
  induction k with
  | zero=>intro _;simp
  | succ k ih =>
   intro hk;rw [List.range_succ,List.map_append,List.filterMap_append,ih (by omega),List.take_add_one];congr 1;have e1:((its.length:Int) - 1+-1 * (k:Int)).toNat=its.length - 1 - k:=by omega
   have hlt:k < its.length:=by omega
   have hlt2:its.length - 1 - k < its.length:=by omega
   simp only [List.map_cons,List.map_nil,List.filterMap_cons,List.filterMap_nil,e1,List.getElem?_toArray,List.getElem?_reverse hlt,List.getElem?_eq_getElem hlt2,Option.toList_some]
 rw [e its.length (Nat.le_refl _),List.take_of_length_le (by simp)]
noncomputable def aH:D->MH->Option (D×MH)
 | .ref n,mh=>match mh[n]? with | some (.lst o)=>some (.ref mh.length,mh++[.lst o.reverse]) | _=>none
 | _,_=>none
end
end DL
namespace HT
open PySem PySem.Spec PyProof.Rows
section
variable {prog:Program}{w:World}{A:Around}{E:Value->Shared->Prop}{s:Shared}
end
end HT
namespace DL
open PySem PySem.Spec PyProof.Rows L2
section
variable {X:Cx}
theorem zL {a:Expr}{ma:DM D}{k:Nat}{p1 p2 p3 pos:Pos}(ha:DE X a ma):DE X (.Subscript a (.Slice none none (some (.UnaryOp .USub (.Constant (.int 1) k p1) p2)) p3) pos) (ma.bnd fun x=>Zl (aH x)):=fun loc mh=>by
 rintro pins s σ H Q I ⟨ρ,d,mh',q,rl,rs,co⟩;obtain ⟨x,m1,ea,q⟩:=Al q;refine Subscript_ (thn (ha loc mh pins s σ H (fun v H1=>∃ ρ1,Ev X.K H ρ H1 ρ1/\RS X.K H1 ρ1 m1/\RD X.K H1 ρ1 x v) I ⟨ρ,x,m1,ea,rl,rs,fun H1 ρ1 v e1 rs1 r1=>⟨ρ1,e1,rs1,r1⟩⟩) ?_);rintro v s1 ⟨xv,H1,I1,r1,ρ1,e1,rs1,rd⟩;refine wpAny_Slice ?_;rw [evalPart_none,evalPart_some];refine wpAny_pure (wpAny_pure ?_);refine UnaryOp_ (wpAny_Constant_int (neg_int ?_));cases rd with
 | @ref n b hb =>
  have q:(match m1[n]? with | some (.lst o)=>some (D.ref m1.length,m1++[.lst o.reverse]) | _=>none)=some (d,mh'):=q;split at q
  ·rename_i o eo;cases q;obtain ⟨a',ha',ro⟩:=rs1.at eo;rw [hb] at ha';cases ha';obtain ⟨xs,sq,r⟩:=ro.read;cases r1;have I2:=(I1.tok (s1.toks+1)).tok (s1.toks+1+1)
   have I3:Inv X pins σ H1 { s1 with heap:=s1.heap.push { cls:=.type "slice",data:=.fields #[.none,.none,.int (-1) (s1.toks+1)] },toks:=s1.toks+1+1 }:=I2.kept (t':=s1.toks+1+1) fun b ob q=>Heap.get?_push_of_some _ q
   obtain ⟨its,rv,ht,hz⟩:=I3.list sq;have hlen:=rv.length;refine tail_any (ops:=[.ref b,.ref s1.heap.objs.size]) ht.isList.typeIs slot_list_getitem.lookup (wpAny_getItem_list_slice ht.isList (Heap.IsSliceOf.new ..) .none .none (.int (-1) _) (by decide) ?_ (by rw [List.size_toArray];omega)) (by with_unfolding_all rfl);rw [fM];refine ⟨.ref _,_,I3.laid (t':=s1.toks+1+1) (o:=.lst xs.reverse) (fun b ob q=>Heap.get?_push_of_some _ q) (Nat.le_refl _) ⟨?_,_,0,rv.reverse,Heap.get?_push_size _ rfl⟩,rfl,Co.newL rs1 r.reverse (co.ev e1) _ (I3.hok.fresh (Nat.le_refl _))⟩;rw [List.length_reverse];exact hz
  ·cases q
 | _=>cases q
noncomputable def G5:List D->MH->Option (D×MH)
 | [.str z],mh=>if z.length<=sizeLine then some (.int z.length,mh) else none
 | [x],mh=>match Eu x mh with | some ds=>some (.int ds.length,mh) | none=>none
 | _,_=>none
theorem K4 {K:PySem.W.Frag}{H:Hp}{ρ:List Addr}{d:D}{xs:List V}(h:RDs K H ρ [d] xs):∃ v,xs=[v]/\RD K H ρ d v:=by
 cases h with
 | cons r t=>cases t;exact ⟨_,rfl,r⟩
theorem aJ:Bg X (.builtin "len") (rDs X.K G5):=by
 refine K3 (Rk.or Rm) ?_;rintro xs H Q ⟨ρ,mh,ds,d,mh',q,rs,r,co⟩
 match ds,q with
 | [x],q =>
  obtain ⟨v,rfl,rx⟩:=K4 r;have seq:(match Eu x mh with | some ds=>some (D.int ds.length,mh) | none=>none)=some (d,mh')->∃ p ys,[v]=[.ref p]/\(SqL X.K H p ys\/SqT X.K H p ys)/\Q (.int ys.length) H:=fun q=>by
   split at q
   ·rename_i ds e1;cases q;obtain ⟨p,ys,rfl,hq,r⟩:=J5 rs rx e1;exact ⟨p,ys,rfl,hq,by rw [← r.length];exact co H ρ _ Ev.refl rs (.int _)⟩
   ·cases q
  cases rx with
  | str z =>
   have q:(if z.length<=sizeLine then some (D.int z.length,mh) else none)=some (d,mh'):=q;split at q
   ·rename_i hz;cases q;exact .inr ⟨z,rfl,hz,co H ρ _ Ev.refl rs (.int _)⟩
   ·cases q
  | non=>exact .inl (seq q)
  | bl b=>exact .inl (seq q)
  | int i=>exact .inl (seq q)
  | tup s r=>exact .inl (seq q)
  | ref h=>exact .inl (seq q)
  | rol s r=>exact .inl (seq q)
  | obj n s l r=>exact .inl (seq q)
  | fn h=>exact .inl (seq q)
  | lam h=>exact .inl (seq q)
 | [],q=>cases q
 | _::_::_,q=>simp [G5] at q
noncomputable def Ji:List D->MH->Option (D×MH)
 | [x],mh=>match Eu x mh with | some ds=>some (.ref mh.length,mh++[.lst ds]) | none=>none
 | _,_=>none
theorem W6:Bg X (.type "list") (rDs X.K Ji):=by
 refine K3 Rn ?_;rintro xs H Q ⟨ρ,mh,ds,d,mh',q,rs,r,co⟩
 match ds,q with
 | [x],q =>
  obtain ⟨v,rfl,rx⟩:=K4 r;have q:(match Eu x mh with | some ds=>some (D.ref mh.length,mh++[.lst ds]) | none=>none)=some (d,mh'):=q;split at q
  ·rename_i ds e1;cases q;obtain ⟨p,ys,rfl,hq,r⟩:=J5 rs rx e1;exact ⟨p,ys,rfl,hq,Co.newL rs r co⟩
  ·cases q
 | [],q=>cases q
 | _::_::_,q=>cases q
noncomputable def Bt:List D->MH->Option (D×MH)
 | [x],mh=>match Eu x mh with | some ds=>some (.tup ds,mh) | none=>none
 | _,_=>none
theorem Ug:Bg X (.type "tuple") (rDs X.K Bt):=by
 refine K3 Ph ?_;rintro xs H Q ⟨ρ,mh,ds,d,mh',q,rs,r,co⟩
 match ds,q with
 | [x],q =>
  obtain ⟨v,rfl,rx⟩:=K4 r;have q:(match Eu x mh with | some ds=>some (D.tup ds,mh) | none=>none)=some (d,mh'):=q;split at q
  ·rename_i ds e1;cases q;obtain ⟨p,ys,rfl,hq,r⟩:=J5 rs rx e1;rcases hq with hq|hq
   ·exact ⟨p,ys,rfl,.inl ⟨hq,Co.newT rs r co⟩⟩
   ·exact ⟨p,ys,rfl,.inr ⟨hq,co H ρ _ Ev.refl rs (.tup hq r)⟩⟩
  ·cases q
 | [],q=>cases q
 | _::_::_,q=>cases q
noncomputable def fO:D->MH->Option String
 | .non,_=>some "NoneType"
 | .bl _,_=>some "bool"
 | .int _,_=>some "int"
 | .str _,_=>some "str"
 | .tup _,_=>some "tuple"
 | .ref n,mh=>match mh[n]? with | some (.lst _)=>some "list" | _=>none
 | .rol _,_=>some "list"
 | .obj ..,_=>none
 | .fn _,_=>none
 | .lam,_=>none
noncomputable def zM (t c:String):Option Bool :=
 if t==c then some true else
 if ["NoneType", "bool", "int", "str", "tuple", "list"].contains t&&["bool", "int", "str", "tuple", "list", "dict"].contains c then some (t == "bool"&&c == "int") else none
theorem G6 {K:PySem.W.Frag}{t c:String}{b:Bool}(ht:t∈["NoneType", "bool", "int", "str", "tuple", "list"]) (hc:c∈["bool", "int", "str", "tuple", "list", "dict"]) (h:zM t c=some b):PySem.W.kitOne K (.type t) (.type c)=some b:=by
 simp only [List.mem_cons,List.mem_nil_iff,or_false] at ht hc;rcases ht with rfl | rfl | rfl | rfl | rfl | rfl <;> rcases hc with rfl | rfl | rfl | rfl | rfl | rfl <;> (first | (have e:b=true:=by (have h':=h;revert h';decide +revert));subst e;kernel_rfl | (have e:b=false:=by (have h':=h;revert h';decide +revert));subst e;kernel_rfl)
end
inductive Src where
 | seq (ds:List D) | lref (n:Nat) | enum (s:Src) | zip (s t:Src)
noncomputable def Ei:Nat->List D->List D
 | _,[]=>[]
 | i,d::r=>.tup [.int i,d]::Ei (i+1) r
noncomputable def Src.items:Src->MH->List D
 | .seq ds,_=>ds
 | .lref n,mh=>match mh[n]? with | some (.lst o)=>o | _=>[]
 | .enum s,mh=>Ei 0 (s.items mh)
 | .zip s t,mh=>List.zipWith (fun a b=>.tup [a,b]) (s.items mh) (t.items mh)
noncomputable def Src.ok:Src->MH->Bool
 | .seq _,_=>true
 | .lref n,mh=>match mh[n]? with | some (.lst _)=>true | _=>false
 | .enum s,mh=>s.ok mh
 | .zip s t,mh=>s.ok mh&&t.ok mh
noncomputable def Src.get (s:Src) (mh:MH) (i:Nat):Option D:=(s.items mh)[i]?
noncomputable def Src.stop (s:Src) (mh:MH) (i:Nat):Bool:=s.ok mh&&decide ((s.items mh).length<=i)
structure JR (K:PySem.W.Frag) (H0:Hp) (ρ0:List Addr) (src:Src) (J:It):Prop where
 go:∀ H ρ mh i d,Ev K H0 ρ0 H ρ->RS K H ρ mh->src.get mh i=some d->J.go i H/\∀ x H',J.yld i H x H'->Ev K H ρ H' ρ/\RS K H' ρ mh/\RD K H' ρ d x
 stop:∀ H ρ mh i,Ev K H0 ρ0 H ρ->RS K H ρ mh->src.stop mh i=true->J.stop i H
noncomputable def tDI (K:PySem.W.Frag) (loc:Loc) (mh:MH) (r:Option (Src×MH)):TI:=fun σ H R=>∃ ρ src mh',r=some (src,mh')/\RL K H ρ loc σ/\RS K H ρ mh/\∀ H' ρ' J,Ev K H ρ H' ρ'->RS K H' ρ' mh'->JR K H' ρ' src J->R J H'
noncomputable def DI (X:Cx) (tg iter:Expr) (m:DM Src):Prop:=∀ loc mh,PI X tg iter (tDI X.K loc mh (m loc mh))
theorem zN {X:Cx}{tg e:Expr}{t t':TI}(h:PI X tg e t) (i:∀ σ H R,t' σ H R->t σ H R):PI X tg e t':=fun pins s σ H R I q=>h pins s σ H R I (i σ H R q)
theorem Ef {X:Cx}{tg e:Expr}{loc:Loc}{mh:MH}:PI X tg e (tDI X.K loc mh none):=fun _ _ _ _ _ _ h=>by obtain ⟨_,_,_,e,_⟩:=h;cases e
section
variable {X:Cx}{tg:Expr}
theorem JR.tup {K:PySem.W.Frag}{H0:Hp}{ρ0:List Addr}{ds:List D}{a:Addr}{xs:List V}(s:SqT K H0 a xs) (r:RDs K H0 ρ0 ds xs):JR K H0 ρ0 (.seq ds) (Itt K a) where
 go:=fun H ρ mh i d e rs q=>by
  obtain ⟨v,e1,r1⟩:=(r.mono e).get q;refine ⟨⟨xs,v,e.tup _ _ s,e1⟩,?_⟩;rintro x H' ⟨h1,h2⟩;subst h1;have:=h2 xs (e.tup _ _ s);rw [e1] at this;cases this;exact ⟨Ev.refl,rs,r1⟩
 stop:=fun H ρ mh i e rs q=>by
  refine ⟨xs,e.tup _ _ s,?_⟩;rw [← r.length];have q:(true&&decide (ds.length<=i))=true:=q;rw [Bool.true_and] at q;exact of_decide_eq_true q
theorem JR.lst {K:PySem.W.Frag}{H0:Hp}{ρ0:List Addr}{n:Nat}{a:Addr}(h:ρ0[n]?=some a):JR K H0 ρ0 (.lref n) (Itl K a) where
 go:=fun H ρ mh i d e rs q=>by
  unfold Src.get Src.items at q;cases eo:mh[n]? with
  | none=>simp only [eo] at q;simp at q
  | some ob =>
   cases ob with
   | dct kvs=>simp only [eo] at q;simp at q
   | plc=>simp only [eo] at q;simp at q
   | lst o =>
   simp only [eo] at q;obtain ⟨a',ha,ro⟩:=rs.at eo;rw [e.at h] at ha;cases ha;obtain ⟨xs,sq,r⟩:=ro.read;obtain ⟨v,e1,r1⟩:=r.get q;refine ⟨⟨xs,v,sq,e1⟩,?_⟩;rintro x H' ⟨h1,h2⟩;subst h1;have:=h2 xs sq;rw [e1] at this;cases this;exact ⟨Ev.refl,rs,r1⟩
 stop:=fun H ρ mh i e rs q=>by
  unfold Src.stop Src.ok Src.items at q;cases eo:mh[n]? with
  | none=>simp only [eo] at q;simp at q
  | some ob =>
   cases ob with
   | dct kvs=>simp only [eo] at q;simp at q
   | plc=>simp only [eo] at q;simp at q
   | lst o =>
   simp only [eo] at q;obtain ⟨a',ha,ro⟩:=rs.at eo;rw [e.at h] at ha;cases ha;obtain ⟨xs,sq,r⟩:=ro.read;exact ⟨xs,sq,by rw [← r.length];simpa using q⟩
theorem JR.rol {K:PySem.W.Frag}{H0:Hp}{ρ0:List Addr}{ds:List D}{a:Addr}{xs:List V}(s:Hq K H0 a xs) (r:RDs K H0 ρ0 ds xs):JR K H0 ρ0 (.seq ds) (Itl K a) where
 go:=fun H ρ mh i d e rs q=>by
  obtain ⟨v,e1,r1⟩:=(r.mono e).get q;have sq:=(e.perm _ _ s).sq;refine ⟨⟨xs,v,sq,e1⟩,?_⟩;rintro x H' ⟨h1,h2⟩;subst h1;have:=h2 xs sq;rw [e1] at this;cases this;exact ⟨Ev.refl,rs,r1⟩
 stop:=fun H ρ mh i e rs q=>by
  refine ⟨xs,(e.perm _ _ s).sq,?_⟩;rw [← r.length];have q:(true&&decide (ds.length<=i))=true:=q;rw [Bool.true_and] at q;exact of_decide_eq_true q
noncomputable def Br (lo:Int) (n:Nat):List D:=(List.range n).map fun (k:Nat)=>D.int (lo+(k:Int))
theorem JR.rng {K:PySem.W.Frag}{H0:Hp}{ρ0:List Addr}{lo:Int}{n:Nat}:JR K H0 ρ0 (.seq (Br lo n)) (Itr lo n) where
 go:=fun H ρ mh i d e rs q=>by
  have q:(Br lo n)[i]?=some d:=q;unfold Br at q;rw [List.getElem?_map] at q
  by_cases hi:i < n
  ·rw [List.getElem?_range hi] at q;cases q;refine ⟨hi,?_⟩;rintro x H' ⟨h1,h2⟩;subst h1;subst h2;exact ⟨Ev.refl,rs,.int _⟩
  ·rw [List.getElem?_eq_none (by simp;omega)] at q;cases q
 stop:=fun H ρ mh i e rs q=>by
  show n<=i;have q:(true&&decide ((Br lo n).length<=i))=true:=q;rw [Bool.true_and] at q;have:=of_decide_eq_true q;unfold Br at this
  simpa using this
noncomputable def srcOf:D->MH->Option Src
 | .tup ds,_=>some (.seq ds)
 | .ref n,mh=>match mh[n]? with | some (.lst _)=>some (.lref n) | _=>none
 | .rol ds,_=>some (.seq ds)
 | _,_=>none
noncomputable def Dc (ma:DM D):DM Src:=ma.bnd fun x=>fun _ mh=>match srcOf x mh with | some s=>some (s,mh) | none=>none
theorem Gq {a:Expr}{ma:DM D}(ha:DE X a ma):DI X tg a (Dc ma):=fun loc mh=>by
 cases ea:ma loc mh with
 | none =>
  have:Dc ma loc mh=none:=by unfold Dc DM.bnd;rw [ea]
  rw [this];exact Ef
 | some p =>
  obtain ⟨x,m1⟩:=p;have eq:Dc ma loc mh=(match srcOf x m1 with | some s=>some (s,m1) | none=>none):=by unfold Dc DM.bnd;rw [ea]
  rw [eq];cases x with
  | tup ds =>
   rintro pins s σ H R I ⟨ρ,src,mh',q,rl,rs,co⟩;cases q;refine xM (ha loc mh) pins s σ H R I ⟨ρ,_,_,ea,rl,rs,fun H1 ρ1 v e1 rs1 r1=>?_⟩;cases r1 with
   | tup s r=>exact ⟨_,rfl,⟨_,s⟩,co H1 ρ1 _ e1 rs1 (JR.tup s r)⟩
  | ref n =>
   rintro pins s σ H R I ⟨ρ,src,mh',q,rl,rs,co⟩;cases eo:m1[n]? with
   | none=>simp only [srcOf,eo] at q;cases q
   | some ob =>
    cases ob with
    | dct kvs=>simp only [srcOf,eo] at q;cases q
    | plc=>simp only [srcOf,eo] at q;cases q
    | lst o =>
    simp only [srcOf,eo] at q;cases q;refine Ym (ha loc mh) pins s σ H R I ⟨ρ,_,_,ea,rl,rs,fun H1 ρ1 v e1 rs1 r1=>?_⟩;cases r1 with
    | @ref _ a' h =>
     obtain ⟨a2,ha2,ro⟩:=rs1.at eo;rw [h] at ha2;cases ha2;obtain ⟨xs,sq,r⟩:=ro.read;exact ⟨_,rfl,⟨xs,sq⟩,co H1 ρ1 _ e1 rs1 (JR.lst h)⟩
  | rol ds =>
   rintro pins s σ H R I ⟨ρ,src,mh',q,rl,rs,co⟩;cases q;refine Ym (ha loc mh) pins s σ H R I ⟨ρ,_,_,ea,rl,rs,fun H1 ρ1 v e1 rs1 r1=>?_⟩;cases r1 with
   | rol s r=>exact ⟨_,rfl,⟨_,s.sq⟩,co H1 ρ1 _ e1 rs1 (JR.rol s r)⟩
  | non=>exact Ef
  | bl b=>exact Ef
  | int i=>exact Ef
  | str z=>exact Ef
  | obj c ks ds=>exact Ef
  | fn x=>exact Ef
  | lam=>exact Ef
noncomputable def Je (ds:List D):Option Src:=match ds with
 | [.int j]=>if -(2 ^ 62)<=j/\j < 2 ^ 62 then some (.seq (Br 0 j.toNat)) else none
 | _=>none
theorem aK {ds:List D}{s:Src}(h:Je ds=some s):∃ j,ds=[.int j]/\-(2 ^ 62)<=j/\j < 2 ^ 62/\s=.seq (Br 0 j.toNat):=by
 unfold Je at h;split at h
 ·rename_i j;split at h
  ·rename_i hj;cases h;exact ⟨j,rfl,hj.1,hj.2,rfl⟩
  ·cases h
 ·cases h
noncomputable def Ht (f:List D->Option Src) (mr:DM (List D)):DM Src:=mr.bnd fun ds=>match f ds with | some s=>Zr s | none=>Zb
theorem Qi {f:List D->Option Src}{mr:DM (List D)}{loc:Loc}{mh:MH}{r:Src×MH}(h:Ht f mr loc mh=some r):∃ ds,mr loc mh=some (ds,r.2)/\f ds=some r.1:=by
 obtain ⟨ds,m1,ea,q⟩:=Al h;cases e:f ds with
 | none=>rw [e] at q;cases q
 | some s=>rw [e] at q;cases q;exact ⟨ds,ea,e⟩
theorem Adm {K:PySem.W.Frag}{H:Hp}{ρ:List Addr}{d e:D}{xs:List V}(h:RDs K H ρ [d,e] xs):∃ v u,xs=[v,u]/\RD K H ρ d v/\RD K H ρ e u:=by
 cases h with
 | cons r t =>
  cases t with
  | cons r2 t=>cases t;exact ⟨_,_,rfl,r,r2⟩
theorem aL {a:Expr}{mr:DM (List D)}{p pos:Pos}(hg:Gl X "range") (hm:X.mg "range"=none) (ha:DA X [a] mr) (hs:starEach [a] X.env=[(false,eval a X.env)]):DI X tg (.Call (.Name "range" p) [a] [] pos) (Ht Je mr):=fun loc mh=>by
 refine zN (Z4 hg hm (ha loc mh) hs) ?_;rintro σ H R ⟨ρ,src,mh',q,rl,rs,co⟩;obtain ⟨ds,ea,q⟩:=Qi q;refine ⟨ρ,ds,mh',ea,rl,rs,fun H1 ρ1 vs e1 rs1 r1=>?_⟩;obtain ⟨j,rfl,h1,h2,e⟩:=aK q;obtain ⟨v,rfl,rv⟩:=K4 r1;cases rv;have e:src=.seq (Br 0 j.toNat):=e;subst e;exact ⟨j,rfl,h1,h2,co H1 ρ1 _ e1 rs1 JR.rng⟩
end
inductive Fl where
 | nx | bk | ct | rt (d:D)
noncomputable abbrev SM:=Loc->MH->Option (Fl×Loc×MH)
noncomputable def CoS (K:PySem.W.Frag) (H:Hp) (ρ:List Addr) (f:Fl) (loc':Loc) (mh':MH) (N:Ends):Prop:=match f with
 | .nx=>∀ H' ρ' σ',Ev K H ρ H' ρ'->RS K H' ρ' mh'->RL K H' ρ' loc' σ'->N.nx σ' H'
 | .bk=>∀ H' ρ' σ',Ev K H ρ H' ρ'->RS K H' ρ' mh'->RL K H' ρ' loc' σ'->N.bk σ' H'
 | .ct=>∀ H' ρ' σ',Ev K H ρ H' ρ'->RS K H' ρ' mh'->RL K H' ρ' loc' σ'->N.ct σ' H'
 | .rt d=>∀ H' ρ' v,Ev K H ρ H' ρ'->RS K H' ρ' mh'->RD K H' ρ' d v->N.rt v H'
theorem CoS.ev {K:PySem.W.Frag}{H H1:Hp}{ρ ρ1:List Addr}{f:Fl}{loc':Loc}{mh':MH}{N:Ends}(e:Ev K H ρ H1 ρ1) (c:CoS K H ρ f loc' mh' N):CoS K H1 ρ1 f loc' mh' N:=by
 cases f with
 | nx=>exact fun H' ρ' σ' e' rs r=>c H' ρ' σ' (e.trans e') rs r
 | bk=>exact fun H' ρ' σ' e' rs r=>c H' ρ' σ' (e.trans e') rs r
 | ct=>exact fun H' ρ' σ' e' rs r=>c H' ρ' σ' (e.trans e') rs r
 | rt d=>exact fun H' ρ' σ' e' rs r=>c H' ρ' σ' (e.trans e') rs r
noncomputable def tS (K:PySem.W.Frag) (m:SM):TS:=fun N σ H=>∃ loc mh ρ f loc' mh',m loc mh=some (f,loc',mh')/\RL K H ρ loc σ/\RS K H ρ mh/\CoS K H ρ f loc' mh' N
noncomputable def DS (X:Cx) (st:Stmt) (m:SM):Prop:=PS X st (tS X.K m)
noncomputable def DSs (X:Cx) (sts:List Stmt) (m:SM):Prop:=PSs X sts (tS X.K m)
theorem Fj {X:Cx}{st:Stmt}{t t':TS}(h:PS X st t) (i:∀ N σ H,t' N σ H->t N σ H):PS X st t':=fun pins s σ H N I q=>h pins s σ H N I (i N σ H q)
theorem Yw {X:Cx}{st:List Stmt}{t t':TS}(h:PSs X st t) (i:∀ N σ H,t' N σ H->t N σ H):PSs X st t':=fun pins s σ H N I q=>h pins s σ H N I (i N σ H q)
noncomputable def SM.bad:SM:=fun _ _=>none
theorem Dp {X:Cx}{st:Stmt}:DS X st SM.bad:=fun _ _ _ _ _ _ h=>by obtain ⟨_,_,_,_,_,_,e,_⟩:=h;cases e
noncomputable def tDx (K:PySem.W.Frag) (m:DM D):TE:=fun σ H Q=>∃ loc mh,tD K loc mh (m loc mh) σ H Q
noncomputable def tTx (K:PySem.W.Frag) (m:DM Bool):TT:=fun σ H Q=>∃ loc mh,tDT K loc mh (m loc mh) σ H Q
noncomputable def tIx (K:PySem.W.Frag) (m:DM Src):TI:=fun σ H R=>∃ loc mh,tDI K loc mh (m loc mh) σ H R
theorem DE.x {X:Cx}{e:Expr}{m:DM D}(h:DE X e m):PE X e (tDx X.K m):=fun pins s σ H Q I ⟨loc,mh,q⟩=>h loc mh pins s σ H Q I q
theorem DT.x {X:Cx}{e:Expr}{m:DM Bool}(h:DT X e m):PT X e (tTx X.K m):=fun pins s σ H Q I ⟨loc,mh,q⟩=>h loc mh pins s σ H Q I q
theorem DI.x {X:Cx}{tg e:Expr}{m:DM Src}(h:DI X tg e m):PI X tg e (tIx X.K m):=fun pins s σ H Q I ⟨loc,mh,q⟩=>h loc mh pins s σ H Q I q
section
variable {X:Cx}{st:Stmt}{sts:List Stmt}{m m1 m2:SM}{e:Expr}{me:DM D}{pos:Pos}
noncomputable def Zn:SM:=fun loc mh=>some (.nx,loc,mh)
noncomputable def Ab (m1 m2:SM):SM:=fun loc mh=>match m1 loc mh with
 | some (.nx,l,h)=>m2 l h
 | r=>r
theorem rE:DSs X [] Zn:=by
 refine Yw pK ?_;rintro N σ H ⟨loc,mh,ρ,f,loc',mh',q,rl,rs,co⟩;cases q;exact co H ρ σ Ev.refl rs rl
theorem fP (h1:DS X st m1) (h2:DSs X sts m2):DSs X (st::sts) (Ab m1 m2):=by
 refine Yw (cX h1 h2) ?_;rintro N σ H ⟨loc,mh,ρ,f,loc',mh',q,rl,rs,co⟩;unfold Ab at q;split at q
 ·rename_i l h e1;exact ⟨loc,mh,ρ,.nx,l,h,e1,rl,rs,fun H1 ρ1 σ1 ev1 rs1 rl1=>⟨l,h,ρ1,f,loc',mh',q,rl1,rs1,co.ev ev1⟩⟩
 ·rename_i r hne;refine ⟨loc,mh,ρ,f,loc',mh',q,rl,rs,?_⟩;cases f with
  | nx=>exact absurd q (hne _ _)
  | bk=>exact co
  | ct=>exact co
  | rt d=>exact co
theorem rF:DS X (.Pass pos) Zn:=by
 refine Fj pL ?_;rintro N σ H ⟨loc,mh,ρ,f,loc',mh',q,rl,rs,co⟩;cases q;exact co H ρ σ Ev.refl rs rl
theorem fQ:DS X (.Break pos) (fun loc mh=>some (.bk,loc,mh)):=by
 refine Fj cY ?_;rintro N σ H ⟨loc,mh,ρ,f,loc',mh',q,rl,rs,co⟩;cases q;exact co H ρ σ Ev.refl rs rl
theorem Uh:DS X (.Continue pos) (fun loc mh=>some (.ct,loc,mh)):=by
 refine Fj T5 ?_;rintro N σ H ⟨loc,mh,ρ,f,loc',mh',q,rl,rs,co⟩;cases q;exact co H ρ σ Ev.refl rs rl
noncomputable def retS (me:DM D):SM:=fun loc mh=>match me loc mh with | some (d,mh')=>some (.rt d,loc,mh') | none=>none
theorem zO (he:DE X e me):DS X (.Return (some e) pos) (retS me):=by
 refine Fj (wW he.x) ?_;rintro N σ H ⟨loc,mh,ρ,f,loc',mh',q,rl,rs,co⟩;unfold retS at q;split at q
 ·rename_i d h1 ee;cases q;exact ⟨loc,mh,ρ,d,_,ee,rl,rs,co⟩
 ·cases q
theorem rG:DS X (.Return none pos) (fun loc mh=>some (.rt .non,loc,mh)):=by
 refine Fj pN ?_;rintro N σ H ⟨loc,mh,ρ,f,loc',mh',q,rl,rs,co⟩;cases q;exact co H ρ _ Ev.refl rs .non
noncomputable def Ej (me:DM D):SM:=fun loc mh=>match me loc mh with | some (_,mh')=>some (.nx,loc,mh') | none=>none
theorem rH (he:DE X e me) (hs:swapsWith e none pos.line X.env=pure false):DS X (.Expr e pos) (Ej me):=by
 refine Fj (pM he.x hs) ?_;rintro N σ H ⟨loc,mh,ρ,f,loc',mh',q,rl,rs,co⟩;unfold Ej at q;split at q
 ·rename_i d h1 ee;cases q;exact ⟨loc,mh,ρ,d,_,ee,rl,rs,fun H' ρ' v e' rs' r'=>co H' ρ' σ e' rs' (rl.mono e')⟩
 ·cases q
noncomputable def ifS (t:DM Bool) (m1 m2:SM):SM:=fun loc mh=>match t loc mh with
 | some (k,h)=>if k=true then m1 loc h else m2 loc h
 | none=>none
theorem Adn {c:Expr}{a b:List Stmt}{t:DM Bool}(hc:DT X c t) (ha:DSs X a m1) (hb:DSs X b m2):DS X (.If c a b pos) (ifS t m1 m2):=by
 refine Fj (Acm hc.x ha hb) ?_;rintro N σ H ⟨loc,mh,ρ,f,loc',mh',q,rl,rs,co⟩;unfold ifS at q;split at q
 ·rename_i k h ek;refine ⟨loc,mh,ρ,k,h,ek,rl,rs,fun H1 ρ1 e1 rs1=>?_⟩;cases k with
  | true=>exact Rp ⟨loc,h,ρ1,f,loc',mh',by rw [if_pos rfl] at q;exact q,rl.mono e1,rs1,co.ev e1⟩
  | false=>exact Ro ⟨loc,h,ρ1,f,loc',mh',by rw [if_neg Bool.false_ne_true] at q;exact q,rl.mono e1,rs1,co.ev e1⟩
 ·cases q
noncomputable abbrev GM:=D->Loc->MH->Option (Loc×MH)
noncomputable def Ip (ws:List Nat) (σ σ':St):Prop:=σ'.length=σ.length/\∀ i,i ∉ ws->σ'[i]?=σ[i]?
noncomputable def tG (K:PySem.W.Frag) (ws:List Nat) (g:GM):TG:=fun v σ H Q=>∃ d loc mh ρ loc' mh',g d loc mh=some (loc',mh')/\RL K H ρ loc σ/\RS K H ρ mh/\RD K H ρ d v /\
 ∀ H' ρ' σ',Ev K H ρ H' ρ'->RS K H' ρ' mh'->RL K H' ρ' loc' σ'->Ip ws σ σ'->Q σ' H'
noncomputable def DG (X:Cx) (tg:Expr) (ws:List Nat) (g:GM):Prop:=PG X tg (tG X.K ws g)
theorem W7 {tg:Expr}{t t':TG}(h:PG X tg t) (i:∀ v σ H Q,t' v σ H Q->t v σ H Q):PG X tg t':=fun pins s σ H v u Q I r q=>h pins s σ H v u Q I r (i v σ H Q q)
noncomputable def Ae (i:Nat):GM:=fun d loc mh=>some (loc.set i (some d),mh)
theorem Ip.set {σ:St}{i:Nat}{o:Option V}:Ip [i] σ (σ.set i o):=⟨List.length_set,fun j hj=>List.getElem?_set_ne (fun e=>hj (by simp [e]))⟩
theorem rJ {i:Nat}{x:Str}(hN:X.N.Nodup) (hi:X.N[i]?=some x) (hx:L2.Loc X.env.scope x) (hf:X.fn x=true\/X.env.scope.names.lookup x=some .local):DG X (.Name x pos) [i] (Ae i):=by
 refine W7 (Yk hN hi hx hf) ?_;rintro v σ H Q ⟨d,loc,mh,ρ,loc',mh',q,rl,rs,r,co⟩;cases q;exact co H ρ _ Ev.refl rs (rl.set r) Ip.set
noncomputable def Nk:List Nat->List D->Loc->Loc
 | i::is,d::ds,loc=>Nk is ds (loc.set i (some d))
 | _,_,loc=>loc
noncomputable def J7:List Nat->List V->St->St
 | i::is,d::ds,loc=>J7 is ds (loc.set i (some d))
 | _,_,loc=>loc
noncomputable def gNs:List Nat->TGs
 | []=>Aco
 | i::is=>uY (cZ i) (gNs is)
theorem fU:∀ (is:List Nat) (vs:List V) (σ:St) (H:Hp) (Q:St->Hp->Prop),vs.length=is.length->Q (J7 is vs σ) H->gNs is vs σ H Q
 | [],[],_,_,_,_,q=>⟨rfl,q⟩
 | [],_::_,_,_,_,h,_=>by simp at h
 | _::_,[],_,_,_,h,_=>by simp at h
 | i::is,v::vs,σ,H,Q,h,q=>⟨v,vs,rfl,fU is vs _ H Q (by simpa using h) q⟩
theorem Qj {K:PySem.W.Frag}{H:Hp}{ρ:List Addr}:∀ (is:List Nat) {ds:List D}{vs:List V}{loc:Loc}{σ:St},RDs K H ρ ds vs->RL K H ρ loc σ->RL K H ρ (Nk is ds loc) (J7 is vs σ)
 | [],_,_,_,_,.nil,rl=>rl
 | [],_,_,_,_,.cons _ _,rl=>rl
 | _::_,_,_,_,_,.nil,rl=>rl
 | i::is,_,_,_,_,.cons r t,rl=>Qj is t (rl.set r)
theorem Li:∀ (is:List Nat) (vs:List V) (σ:St),Ip is σ (J7 is vs σ)
 | [],[],_=>⟨rfl,fun _ _=>rfl⟩
 | [],_::_,_=>⟨rfl,fun _ _=>rfl⟩
 | _::_,[],_=>⟨rfl,fun _ _=>rfl⟩
 | i::is,v::vs,σ=>by
  obtain ⟨h1,h2⟩:=Li is vs (σ.set i (some v));refine ⟨h1.trans List.length_set,fun j hj=>?_⟩;have hj':¬ (j=i)/\j ∉ is:=by simpa using hj
  show (J7 is vs (σ.set i (some v)))[j]?=σ[j]?;rw [h2 j hj'.2,List.getElem?_set_ne (fun e=>hj'.1 e.symm)]
noncomputable def J8 (is:List Nat):GM:=fun d loc mh=>match d with
 | .tup ds=>if ds.length=is.length then some (Nk is ds loc,mh) else none
 | _=>none
theorem zP {es:List Expr}{k:Nat}{is:List Nat}(hc:X.calm=true) (h:PGs X es (gNs is)) (hn:(assignEach es X.env).length=is.length) (hst:(assignEach es X.env).findIdx? (·.1)=none):DG X (.Tuple es k pos) is (J8 is):=by
 refine W7 (wY hc h hn hst) ?_;rintro v σ H Q ⟨d,loc,mh,ρ,loc',mh',q,rl,rs,r,co⟩;cases r with
 | @tup ds a xs s r =>
  have q:(if ds.length=is.length then some (Nk is ds loc,mh) else none)=some (loc',mh'):=q;split at q
  ·rename_i hl;cases q;exact ⟨a,xs,rfl,s,by rw [← r.length];exact hl,fU is xs σ H Q (by rw [← r.length];exact hl) (co H ρ _ Ev.refl rs (Qj is r rl) (Li is xs σ))⟩
  ·cases q
 | _=>cases q
noncomputable def Ui (o i v:D) (mh:MH):Option MH:=match o,i with
 | .ref n,.int k=>match mh[n]? with
  | some (.lst ds)=>match ixN ds.length k with
   | some j=>some (mh.set n (.lst (ds.set j v)))
   | none=>none
  | _=>none
 | _,_=>none
noncomputable def Hw (mo mi:DM D):GM:=fun v loc mh=>match mo loc mh with
 | some (o,m1)=>match mi loc m1 with
  | some (i,m2)=>match Ui o i v m2 with
   | some m3=>some (loc,m3)
   | none=>none
  | none=>none
 | none=>none
theorem W8 {o i v:D}{mh m:MH}(h:Ui o i v mh=some m):∃ n k ds j,o=.ref n/\i=.int k/\mh[n]?=some (.lst ds)/\ixN ds.length k=some j/\m=mh.set n (.lst (ds.set j v)):=by
 cases o with
 | ref n =>
  cases i with
  | int k =>
   have h:(match mh[n]? with | some (.lst ds)=>(match ixN ds.length k with | some j=>some (mh.set n (.lst (ds.set j v))) | none=>none) | _=>none)=some m:=h;split at h
   ·rename_i ds em;split at h
    ·rename_i j ej;cases h;exact ⟨n,k,ds,j,rfl,rfl,em,ej,rfl⟩
    ·cases h
   ·cases h
  | _=>cases h
 | _=>cases i <;> cases h
theorem zQ {o i:Expr}{mo mi:DM D}(ho:DE X o mo) (hi:DE X i mi) (ha:∀ v,assign (.Subscript o i pos) X.env v=(do
      let ov ← holding [v] (eval o X.env)
      let iv ← holding [v,ov] (eval i X.env)
      standAt pos
      holding [v,ov,iv] (setItem ov iv v)
      release [v,ov,iv] [])):DG X (.Subscript o i pos) [] (Hw mo mi):=by
  refine W7 (wZ ho.x hi.x set_list ha) ?_;rintro v σ H Q ⟨d,loc,mh,ρ,loc',mh',q,rl,rs,r,co⟩;unfold Hw at q;split at q
  · rename_i od m1 eo;split at q
    · rename_i idx m2 ei;split at q
      · rename_i m3 es;cases q;refine ⟨loc,mh,ρ,od,m1,eo,rl,rs,fun H1 ρ1 v1 e1 rs1 r1=>⟨loc,m1,ρ1,idx,m2,ei,rl.mono e1,rs1,fun H2 ρ2 v2 e2 rs2 r2=>?_⟩⟩;obtain ⟨n,k,ds,j,rfl,rfl,em,ej,rfl⟩:=W8 es;have r':=(r.mono e1).mono e2;cases r1.mono e2 with
        | @ref _ a hn =>
          cases r2;obtain ⟨a',ha',xs,hx,rx⟩:=rs2.at em;rw [hn] at ha';cases ha';refine ⟨a,xs,k,j,rfl,rfl,hx,by rw [← rx.length];exact ej,?_⟩;exact co _ ρ2 σ ((e1.trans e2).trans (Ev.lst hx)) (rs2.setL hn hx (rx.set r' j)) (((rl.mono e1).mono e2).mono (Ev.lst hx)) ⟨rfl,fun _ _=>rfl⟩
      · cases q
    · cases q
  · cases q
noncomputable def Ag (me:DM D) (g:GM):SM:=fun loc mh=>match me loc mh with
 | some (d,h)=>match g d loc h with
  | some (l,h')=>some (.nx,l,h')
  | none=>none
 | none=>none
theorem Uj {ws:List Nat}{g:GM}{N:Ends}{σ:St}{H:Hp}(h:tS X.K (Ag me g) N σ H):xG (tDx X.K me) (tG X.K ws g) N σ H:=by
 obtain ⟨loc,mh,ρ,f,loc',mh',q,rl,rs,co⟩:=h;unfold Ag at q;split at q
 ·rename_i d h1 ee;split at q
  ·rename_i l h2 eg;cases q;exact ⟨loc,mh,ρ,d,h1,ee,rl,rs,fun H1 ρ1 v e1 rs1 r1=>⟨d,loc,h1,ρ1,_,_,eg,rl.mono e1,rs1,r1,fun H2 ρ2 σ2 e2 rs2 rl2 _=>co H2 ρ2 σ2 (e1.trans e2) rs2 rl2⟩⟩
  ·cases q
 ·cases q
theorem W9 {tg:Expr}{ws:List Nat}{g:GM}(he:DE X e me) (hg:DG X tg ws g) (hs:swapsWithSole [tg] e pos.line X.env=pure false) (hw:swappedStores [tg] e X.env=pure none) (h1:(assignEach [tg] X.env).map (·.2)=[assign tg X.env]):DS X (.Assign [tg] e pos) (Ag me g) :=
 Fj (xH he.x hg hs hw h1) fun N σ H h=>Uj h
noncomputable def Mq (src:Src) (g:GM) (body:SM):Nat->Nat->SM
 | 0,i,loc,mh=>if src.stop mh i=true then some (.nx,loc,mh) else none
 | k+1,i,loc,mh=>match src.get mh i with
  | none=>if src.stop mh i=true then some (.nx,loc,mh) else none
  | some d=>match g d loc mh with
   | none=>none
   | some (l1,h1)=>match body l1 h1 with
    | some (.nx,l,h)=>Mq src g body k (i+1) l h
    | some (.ct,l,h)=>Mq src g body k (i+1) l h
    | some (.bk,l,h)=>some (.nx,l,h)
    | some (.rt d,l,h)=>some (.rt d,l,h)
    | none=>none
noncomputable def Gr (mi:DM Src) (g:GM) (body:SM):SM:=fun loc mh=>match mi loc mh with
 | some (src,h)=>Mq src g body (src.items h).length 0 loc h
 | none=>none
theorem zR {tg iter:Expr}{body:List Stmt}{mi:DM Src}{ws:List Nat}{g:GM}{mb:SM}(hp:PassesOwn (model X.prog X.w) X.A X.env X.xe) (hc:X.calm=true) (hi:DI X tg iter mi) (hg:DG X tg ws g) (hb:DSs X body mb)
  (hs:∀ x,foldedSetIterable iter X.env x=pure x):DS X (.For tg iter body [] pos) (Gr mi g mb):=by
 refine Fj (xN hp hc hi.x hg hb hs) ?_;rintro N σ H ⟨loc,mh,ρ,f,loc',mh',q,rl,rs,co⟩;unfold Gr at q;split at q
 ·rename_i src h0 ei;refine ⟨loc,mh,ρ,src,h0,ei,rl,rs,fun H1 ρ1 J e1 rs1 jr=>?_⟩
  refine ⟨fun i k σ H=>∃ ρ loc mh f loc' mh',Ev X.K H1 ρ1 H ρ/\RL X.K H ρ loc σ/\RS X.K H ρ mh/\Mq src g mb k i loc mh=some (f,loc',mh')/\CoS X.K H ρ f loc' mh' N,
   ⟨_,ρ1,loc,h0,f,loc',mh',Ev.refl,rl.mono e1,rs1,q,co.ev e1⟩,?_⟩
  rintro i k σ H ⟨ρ,loc,mh,f,loc',mh',ev,rl,rs,q,co⟩;have stop:(if src.stop mh i=true then some (Fl.nx,loc,mh) else none)=some (f,loc',mh')->J.stop i H/\N.nx σ H:=fun q=>by
   split at q
   ·rename_i hst;cases q;exact ⟨jr.stop H ρ mh i ev rs hst,co H ρ σ Ev.refl rs rl⟩
   ·cases q
  cases k with
  | zero=>exact .inl (stop q)
  | succ k =>
   simp only [Mq] at q;split at q
   ·exact .inl (stop q)
   ·rename_i d ed;obtain ⟨hgo,hyld⟩:=jr.go H ρ mh i d ev rs ed;split at q
    ·cases q
    ·rename_i l1 h1 eg
     refine .inr ⟨hgo,fun σ' H'=>∃ ρ' loc mh f loc' mh',Ev X.K H1 ρ1 H' ρ'/\RL X.K H' ρ' loc σ'/\RS X.K H' ρ' mh/\Mq src g mb k (i+1) loc mh=some (f,loc',mh')/\CoS X.K H' ρ' f loc' mh' N,
      fun σ' H' h=>⟨k,Nat.lt_succ_self _,h⟩,fun x H' hy=>?_⟩
     obtain ⟨ev2,rs2,rd2⟩:=hyld x H' hy;refine ⟨d,loc,mh,ρ,l1,h1,eg,rl.mono ev2,rs2,rd2,fun H3 ρ3 σ3 ev3 rs3 rl3 _=>?_⟩;split at q
     ·rename_i l h eb;exact ⟨l1,h1,ρ3,.nx,l,h,eb,rl3,rs3,fun H4 ρ4 σ4 ev4 rs4 rl4=>⟨ρ4,l,h,f,loc',mh',ev.trans (ev2.trans (ev3.trans ev4)),rl4,rs4,q,co.ev (ev2.trans (ev3.trans ev4))⟩⟩
     ·rename_i l h eb;exact ⟨l1,h1,ρ3,.ct,l,h,eb,rl3,rs3,fun H4 ρ4 σ4 ev4 rs4 rl4=>⟨ρ4,l,h,f,loc',mh',ev.trans (ev2.trans (ev3.trans ev4)),rl4,rs4,q,co.ev (ev2.trans (ev3.trans ev4))⟩⟩
     ·rename_i l h eb;cases q;exact ⟨l1,h1,ρ3,.bk,_,_,eb,rl3,rs3,fun H4 ρ4 σ4 ev4 rs4 rl4=>co H4 ρ4 σ4 (ev2.trans (ev3.trans ev4)) rs4 rl4⟩
     ·rename_i d' l h eb;cases q;exact ⟨l1,h1,ρ3,.rt d',_,_,eb,rl3,rs3,fun H4 ρ4 v4 ev4 rs4 r4=>co H4 ρ4 v4 (ev2.trans (ev3.trans ev4)) rs4 r4⟩
     ·cases q
 ·cases q
end
noncomputable def Eo (t:DM Bool) (body:SM):Nat->SM
 | 0,_,_=>none
 | k+1,loc,mh=>match t loc mh with
  | none=>none
  | some (false,h)=>some (.nx,loc,h)
  | some (true,h)=>match body loc h with
   | some (.nx,l,h)=>Eo t body k l h
   | some (.ct,l,h)=>Eo t body k l h
   | some (.bk,l,h)=>some (.nx,l,h)
   | some (.rt d,l,h)=>some (.rt d,l,h)
   | none=>none
noncomputable def Rw (t:DM Bool) (body:SM):SM:=Eo t body 1000000
section
variable {X:Cx}{pos:Pos}
theorem fV {c:Expr}{body:List Stmt}{t:DM Bool}{mb:SM}(hp:PassesOwn (model X.prog X.w) X.A X.env X.xe) (hc:DT X c t) (hb:DSs X body mb):DS X (.While c body [] pos) (Rw t mb):=by
 refine Fj (dF hp hc.x hb) ?_;rintro N σ H ⟨loc,mh,ρ,f,loc',mh',q,rl,rs,co⟩;refine ⟨fun k σ H=>∃ ρ loc mh f loc' mh',RL X.K H ρ loc σ/\RS X.K H ρ mh/\Eo t mb k loc mh=some (f,loc',mh')/\CoS X.K H ρ f loc' mh' N,⟨_,ρ,loc,mh,f,loc',mh',rl,rs,q,co⟩,?_⟩;rintro k σ H ⟨ρ,loc,mh,f,loc',mh',rl,rs,q,co⟩;cases k with
 | zero=>cases q
 | succ k =>
  simp only [Eo] at q;split at q
  ·cases q
  ·rename_i h et;cases q;exact ⟨_,mh,ρ,false,_,et,rl,rs,fun H1 ρ1 e1 rs1=>Ro (co H1 ρ1 σ e1 rs1 (rl.mono e1))⟩
  ·rename_i h et;refine ⟨loc,mh,ρ,true,h,et,rl,rs,fun H1 ρ1 e1 rs1=>Rp ⟨fun σ' H'=>∃ ρ' loc mh f loc' mh',RL X.K H' ρ' loc σ'/\RS X.K H' ρ' mh/\Eo t mb k loc mh=some (f,loc',mh')/\CoS X.K H' ρ' f loc' mh' N,fun σ' H' h=>⟨k,Nat.lt_succ_self _,h⟩,?_⟩⟩;have rl1:=rl.mono e1;split at q
   ·rename_i l h2 eb;exact ⟨loc,h,ρ1,.nx,l,h2,eb,rl1,rs1,fun H4 ρ4 σ4 ev4 rs4 rl4=>⟨ρ4,l,h2,f,loc',mh',rl4,rs4,q,co.ev (e1.trans ev4)⟩⟩
   ·rename_i l h2 eb;exact ⟨loc,h,ρ1,.ct,l,h2,eb,rl1,rs1,fun H4 ρ4 σ4 ev4 rs4 rl4=>⟨ρ4,l,h2,f,loc',mh',rl4,rs4,q,co.ev (e1.trans ev4)⟩⟩
   ·rename_i l h2 eb;cases q;exact ⟨loc,h,ρ1,.bk,_,_,eb,rl1,rs1,fun H4 ρ4 σ4 ev4 rs4 rl4=>co H4 ρ4 σ4 (e1.trans ev4) rs4 rl4⟩
   ·rename_i d' l h2 eb;cases q;exact ⟨loc,h,ρ1,.rt d',_,_,eb,rl1,rs1,fun H4 ρ4 v4 ev4 rs4 r4=>co H4 ρ4 v4 (e1.trans ev4) rs4 r4⟩
   ·cases q
end
noncomputable def G7 (cs:List (Option Nat)) (loc:Loc):Loc:=cs.map fun o=>match o with | some j=>(match loc[j]? with | some d=>d | none=>none) | none=>none
noncomputable def Pk (cs:List (Option Nat)) (σ:St):St:=cs.map fun o=>match o with | some j=>(match σ[j]? with | some d=>d | none=>none) | none=>none
theorem zT {K:PySem.W.Frag}{H:Hp}{ρ:List Addr}{loc:Loc}{σ:St}(cs:List (Option Nat)) (h:RL K H ρ loc σ):RL K H ρ (G7 cs loc) (Pk cs σ):=by
 refine ⟨by unfold G7 Pk;rw [List.length_map,List.length_map],fun i d e=>?_⟩;unfold G7 at e;unfold Pk;rw [List.getElem?_map] at e ⊢;cases q:cs[i]? with
 | none=>rw [q] at e;cases e
 | some o =>
  rw [q] at e;cases o with
  | none=>simp at e
  | some j =>
   simp only [Option.map_some,Option.some.injEq] at e;cases ej:loc[j]? with
   | none=>rw [ej] at e;cases e
   | some d' =>
    rw [ej] at e;have e:d'=some d:=e;subst e;obtain ⟨v,e1,r⟩:=h.2 j d ej;exact ⟨v,by simp only [Option.map_some,e1],r⟩
structure CapOk (X:Cx) (N':List Str) (scope:Scope) (cs:List (Option Nat)):Prop where
 len:N'.length=cs.length
 cap:∀ (i:Nat) (x:Str) (j:Nat),N'[i]?=some x->cs[i]?=some (some j)->scope.names.lookup x=some .free/\X.N[j]?=some x
theorem CapOk.to {X:Cx}{N':List Str}{scope:Scope}{cs:List (Option Nat)}(h:CapOk X N' scope cs) (σ:St):Cap X N' scope σ (Pk cs σ):=by
 refine ⟨by unfold Pk;rw [List.length_map];exact h.len.symm,fun i x v e1 e2=>?_⟩;unfold Pk at e2;rw [List.getElem?_map] at e2;cases q:cs[i]? with
 | none=>rw [q] at e2;cases e2
 | some o =>
  rw [q] at e2;cases o with
  | none=>simp at e2
  | some j =>
   obtain ⟨h1,h2⟩:=h.cap i x j e1 q;refine ⟨h1,j,h2,?_⟩;simp only [Option.map_some,Option.some.injEq] at e2;cases ej:σ[j]? with
   | none=>rw [ej] at e2;cases e2
   | some d'=>rw [ej] at e2;have e2:d'=some v:=e2;rw [e2]
theorem rK {cs:List (Option Nat)}{ws:List Nat}{σ σ2:St}(hw:∀ i∈ws,∀ j,cs[i]?≠some (some j)) (h:Ip ws (Pk cs σ) σ2):Kept (Pk cs σ) σ2:=by
 refine ⟨h.1,fun i v e=>?_⟩;rw [h.2 i fun hi=>?_]
 ·exact e
 ·unfold Pk at e;rw [List.getElem?_map] at e;cases q:cs[i]? with
  | none=>rw [q] at e;cases e
  | some o =>
   cases o with
   | none=>rw [q] at e;simp at e
   | some j=>exact hw i hi j q
noncomputable def Dq (src:Src) (g:GM) (tc:DM Bool) (me:DM D) (loc:Loc):Nat->Nat->List D->MH->Option (List D×MH)
 | 0,i,acc,mh=>if src.stop mh i=true then some (acc,mh) else none
 | k+1,i,acc,mh=>match src.get mh i with
  | none=>if src.stop mh i=true then some (acc,mh) else none
  | some d=>match g d loc mh with
   | none=>none
   | some (l1,h1)=>match tc l1 h1 with
    | none=>none
    | some (c,h2)=>if c=true then (match me l1 h2 with
      | some (y,h3)=>if acc.length < sizeLine then Dq src g tc me loc k (i+1) (acc++[y]) h3 else none
      | none=>none) else Dq src g tc me loc k (i+1) acc h2
noncomputable def Bo (mi:DM Src) (cs:List (Option Nat)) (g:GM) (tc:DM Bool) (me:DM D):DM D:=fun loc mh=>match mi loc mh with
 | some (src,h)=>match Dq src g tc me (G7 cs loc) (src.items h).length 0 [] h with
  | some (ds,h')=>some (.ref h'.length,h'++[.lst ds])
  | none=>none
 | none=>none
section
variable {X:Cx}{N':List Str}{scope:Scope}{cs:List (Option Nat)}{ws:List Nat}{mi:DM Src}{g:GM}{tc:DM Bool}{me:DM D}{elt target iter:Expr}{ifs:List Expr}{pos:Pos}
theorem Uk (hcap:CapOk X N' scope cs) (hw:∀ i∈ws,∀ j,cs[i]?≠some (some j)) {σ:St}{H:Hp}{Q:VK}(h:tDx X.K (Bo mi cs g tc me) σ H Q) :
  eU X N' scope (tIx X.K mi) (tG X.K ws g) (tTx X.K tc) (tDx X.K me) σ H Q:=by
 obtain ⟨loc,mh,ρ,d,mh',q,rl,rs,co⟩:=h;unfold Bo at q;split at q
 ·rename_i src h0 ei;split at q
  ·rename_i ds h1 ec;cases q;refine ⟨loc,mh,ρ,src,h0,ei,rl,rs,fun H1 ρ1 J e1 rs1 jr=>?_⟩;refine ⟨Pk cs σ,hcap.to σ,fun i k acc H=>∃ ρ accD mh,Ev X.K H1 ρ1 H ρ/\RS X.K H ρ mh/\RDs X.K H ρ accD acc/\Dq src g tc me (G7 cs loc) k i accD mh=some (ds,h1),⟨_,ρ1,[],h0,Ev.refl,rs1,.nil,ec⟩,?_⟩;have co1:=co.ev e1;have rl1:=zT cs (rl.mono e1);rintro i k acc H ⟨ρ,accD,mh,ev,rs,ra,q⟩;have stop:(if src.stop mh i=true then some (accD,mh) else none)=some (ds,h1)->J.stop i H/\∀ p,H p=none->Q (.ref p) (upd H p (.lst acc)):=fun q=>by
    split at q
    ·rename_i hst;cases q;exact ⟨jr.stop H ρ _ i ev rs hst,Co.newL rs ra (co1.ev ev)⟩
    ·cases q
   cases k with
   | zero=>exact .inl (stop q)
   | succ k =>
    simp only [Dq] at q;split at q
    ·exact .inl (stop q)
    ·rename_i d ed;obtain ⟨hgo,hyld⟩:=jr.go H ρ mh i d ev rs ed;split at q
     ·cases q
     ·rename_i l1 h2 eg;refine .inr ⟨hgo,fun acc' H'=>∃ ρ accD mh,Ev X.K H1 ρ1 H' ρ/\RS X.K H' ρ mh/\RDs X.K H' ρ accD acc'/\Dq src g tc me (G7 cs loc) k (i+1) accD mh=some (ds,h1),fun acc' H' h=>⟨k,Nat.lt_succ_self _,h⟩,fun x H' hy=>?_⟩;obtain ⟨ev2,rs2,rd2⟩:=hyld x H' hy;refine ⟨d,G7 cs loc,mh,ρ,l1,h2,eg,rl1.mono (ev.trans ev2),rs2,rd2,fun H3 ρ3 σ3 ev3 rs3 rl3 kb=>⟨rK hw kb,?_⟩⟩;split at q
      ·cases q
      ·rename_i c h3 et;refine ⟨l1,h2,ρ3,c,h3,et,rl3,rs3,fun H4 ρ4 ev4 rs4=>?_⟩;have evA:=ev2.trans (ev3.trans ev4);cases c with
       | false =>
        rw [if_neg Bool.false_ne_true] at q;exact Ro ⟨ρ4,accD,h3,ev.trans evA,rs4,ra.mono evA,q⟩
       | true =>
        rw [if_pos rfl] at q;split at q
        ·rename_i y h4 ey;split at q
         ·rename_i hz;refine Rp ⟨by rw [← ra.length];exact hz,l1,h3,ρ4,y,h4,ey,rl3.mono ev4,rs4,fun H5 ρ5 v ev5 rs5 r5=>⟨ρ5,accD++[y],h4,ev.trans (evA.trans ev5),rs5,(ra.mono (evA.trans ev5)).append (.cons r5 .nil),q⟩⟩
         ·cases q
        ·cases q
  ·cases q
 ·cases q
noncomputable def DIf (X:Cx) (ifs:List Expr) (m:DM Bool):Prop:=PIf X ifs (tTx X.K m)
theorem rM:DIf X [] (Zr true):=by
 rintro pins s σ H Q I ⟨loc,mh,ρ,b,mh',q,rl,rs,co⟩;cases q;exact qL pins s σ H Q I (co H ρ Ev.refl rs)
theorem rN {c:Expr}{m:DM Bool}(h:DT X c m):DIf X [c] m:=qM h.x
theorem rO (hc:X.calm=true) (S:CompOk X scope) (hcap:CapOk X N' scope cs) (hw:∀ i∈ws,∀ j,cs[i]?≠some (some j)) (hit:DI X target iter mi)
  (hg:∀ pins C cells s₀ H₀ fp,DG (Ci X pins N' scope C cells s₀ H₀ fp) target ws g)
  (hi:∀ pins C cells s₀ H₀ fp,DIf (Ci X pins N' scope C cells s₀ H₀ fp) ifs tc)
  (he:∀ pins C cells s₀ H₀ fp,DE (Ci X pins N' scope C cells s₀ H₀ fp) elt me)
  (hs:∀ x,foldedSetIterable iter X.env x=pure x):DE X (.ListComp elt [⟨target,iter,ifs,0⟩] scope pos) (Bo mi cs g tc me):=fun loc mh =>
 Bk (qN (N':=N') (g:=tG X.K ws g) (tc:=tTx X.K tc) (te:=tDx X.K me) hc S hit.x (fun p C c s h f=>hg p C c s h f) (fun p C c s h f=>hi p C c s h f) (fun p C c s h f=>(he p C c s h f).x) hs) fun σ H Q h=>Uk hcap hw ⟨loc,mh,h⟩
theorem Xa {y:Str}{py spos:Pos}{wy:List Nat}{gy:GM}(hc:X.calm=true) (S:CompOk X scope) (hcap:CapOk X N' scope cs) (hw:∀ i∈ws,∀ j,cs[i]?≠some (some j)) (hit:DI X target iter mi)
  (hg:∀ pins C cells s₀ H₀ fp,DG (Ci X pins N' scope C cells s₀ H₀ fp) target ws g)
  (hi:∀ pins C cells s₀ H₀ fp,DIf (Ci X pins N' scope C cells s₀ H₀ fp) ifs tc)
  (he:∀ pins C cells s₀ H₀ fp,DE (Ci X pins N' scope C cells s₀ H₀ fp) elt me) (hgy:DG X (.Name y py) wy gy)
  (hsw:swapsWith (.ListComp elt [⟨target,iter,ifs,0⟩] scope pos) (some (.Name y py)) spos.line X.env=pure true)
  (hs:∀ x,foldedSetIterable iter X.env x=pure x):DS X (.Assign [.Name y py] (.ListComp elt [⟨target,iter,ifs,0⟩] scope pos) spos) (Ag (Bo mi cs g tc me) gy) :=
 Fj (W3 (N':=N') (g:=tG X.K ws g) (tc:=tTx X.K tc) (te:=tDx X.K me) hc S hit.x (fun p C c s h f=>hg p C c s h f) (fun p C c s h f=>hi p C c s h f) (fun p C c s h f=>(he p C c s h f).x) hgy hsw hs) fun N σ H h=>Uk hcap hw (Uj h)
end
noncomputable def spD (K:PySem.W.Frag) (n:Nat) (f:List D->MH->Option (D×MH)):Sp:=fun vs H Q _=>vs.length=n/\rDs K f vs H Q
section
variable {X:Cx}
theorem rP {CX:CXT}{k:Nat}{fa:Addr}{fd:FuncData}{ps:List Str}{f:List D->MH->Option (D×MH)}{x:Str}{p pos:Pos}{a:Expr}{es:List Expr}{mr:DM (List D)}{E:XK}
  (F:FnOk X.prog X.w X.K X.mg X.base CX k fa fd ps (spD X.K ps.length f)) (hr:Room k X.A) (hg:Gl X x) (hm:X.mg x=some (.ref fa)) (hk:PySem.W.keepIn X.K (.ref fa)=true) (hb:Binds X.K fd ps []) (hx:Kw CX X E)
  (ha:DA X (a::es) mr) (hf:∀ ds mh r,f ds mh=some r->ds.length=ps.length) (hdb:(x==("__debug__":Str))=false) (he:starEach (a::es) X.env=(false,eval a X.env)::starEach es X.env) (hpl:(backTo pos (starEach es X.env)).any (·.1)=false) :
  DE X (.Call (.Name x p) (a::es) [] pos) (mr.bnd fun ds=>Zl (f ds)):=fun loc mh=>by
 refine Bk (pR F hr hg hm hk hb .nil hx (ha loc mh) hdb he hpl) ?_;rintro σ H Q ⟨ρ,d,mh',q,rl,rs,co⟩;obtain ⟨ds,m1,ea,q⟩:=Al q;refine ⟨ρ,ds,m1,ea,rl,rs,fun H1 ρ1 vs e1 rs1 r1=>?_⟩;show spD X.K ps.length f (vs++[]) H1 Q E;rw [List.append_nil];exact ⟨by rw [← r1.length];exact hf _ _ _ q,ρ1,m1,ds,d,mh',q,rs1,r1,co.ev e1⟩
theorem fW {CX:CXT}{k:Nat}{fa:Addr}{fd:FuncData}{f:List D->MH->Option (D×MH)}{x:Str}{p pos:Pos}{E:XK}
  (F:FnOk X.prog X.w X.K X.mg X.base CX k fa fd [] (spD X.K 0 f)) (hr:Room k X.A) (hg:Gl X x) (hm:X.mg x=some (.ref fa)) (hk:PySem.W.keepIn X.K (.ref fa)=true) (hb:Binds X.K fd [] []) (hx:Kw CX X E) (hdb:(x==("__debug__":Str))=false) :
  DE X (.Call (.Name x p) [] [] pos) (Zl (f [])):=fun loc mh=>by
 refine Bk (dR F hr hg hm hk hb .nil hx hdb) ?_;rintro σ H Q ⟨ρ,d,mh',q,rl,rs,co⟩;exact ⟨rfl,ρ,mh,[],d,mh',q,rs,.nil,co⟩
noncomputable def Ul (c:String) (x:D) (mh:MH):Option (D×MH):=match fO x mh with
 | some t=>match zM t c with
  | some b=>some (.bl b,mh)
  | none=>none
 | none=>none
theorem fX {c:String}(hc:c∈["bool", "int", "str", "tuple", "list", "dict"]):Bg X (.builtin "isinstance") (fun xs H Q=>∃ v,xs=[v,.ty c]/\rD1 X.K (Ul c) v H Q):=by
 rintro pins s σ H xs us Q I r ⟨v,e,ρ,mh,dx,d,mh',q,rs,rd,co⟩;subst e;obtain ⟨u,w',rfl,r1,r2⟩:=Vals.two r;cases (show w'=Value.type c from r2);unfold Ul at q;split at q
 ·rename_i t et;split at q
  ·rename_i b eb;cases q;have fin:∀ tk,EP X pins σ Q (.bool b) { s with toks:=tk }:=fun tk=>⟨.bl b,H,I.tok tk,rfl,co H ρ _ Ev.refl rs (.bl b)⟩
   cases rd with
   | non=>cases et;cases (show u=Value.none from r1);exact PySem.W.kia_one PySem.W.kitx_none I.kIn True.intro (G6 (by decide) hc eb) (fun z=>nomatch z) fin
   | bl y=>cases et;cases (show u=Value.bool y from r1);exact PySem.W.kia_one PySem.W.kitx_bool I.kIn True.intro (G6 (by decide) hc eb) (fun z=>nomatch z) fin
   | int i=>cases et;obtain ⟨t,q⟩:=(show ∃ t,u=Value.int i t from r1);cases q;exact PySem.W.kia_one PySem.W.kitx_int I.kIn True.intro (G6 (by decide) hc eb) (fun z=>nomatch z) fin
   | str y=>cases et;obtain ⟨t,q⟩:=(show ∃ t,u=Value.str y t from r1);cases q;exact PySem.W.kia_one PySem.W.kitx_str I.kIn True.intro (G6 (by decide) hc eb) (fun z=>nomatch z) fin
   | @tup ds a xs sq r =>
    cases et;cases (show u=Value.ref a from r1);obtain ⟨its,_,⟨o,h1,h2,_⟩,_⟩:=I.tuple sq;exact PySem.W.kia_one PySem.W.kitx_tuple I.kIn ⟨o,h1,h2⟩ (G6 (by decide) hc eb) (fun z=>nomatch z) fin
   | obj n s l r=>cases et
   | fn h=>cases et
   | lam h=>cases et
   | @rol ds a xs sq r =>
    cases et;cases (show u=Value.ref a from r1);obtain ⟨its,_,⟨ob,n',h1,h2,_⟩,_⟩:=I.list sq.sq;exact PySem.W.kia_one PySem.W.kitx_list I.kIn ⟨ob,h1,h2⟩ (G6 (by decide) hc eb) (fun z=>nomatch z) fin
   | @ref n a h =>
    have et:(match mh[n]? with | some (.lst _)=>some "list" | _=>none)=some t:=et;split at et
    ·rename_i o eo;cases et;cases (show u=Value.ref a from r1);obtain ⟨a',ha,ro⟩:=rs.at eo;rw [h] at ha;cases ha;obtain ⟨xs,sq,_⟩:=ro.read;obtain ⟨its,_,⟨ob,n',h1,h2,_⟩,_⟩:=I.list sq;exact PySem.W.kia_one PySem.W.kitx_list I.kIn ⟨ob,h1,h2⟩ (G6 (by decide) hc eb) (fun z=>nomatch z) fin
    ·cases et
  ·cases q
 ·cases q
theorem zU {c:Str}{T:String}{p p2 pos:Pos}{a:Expr}{ma:DM D}(hT:T∈["bool", "int", "str", "tuple", "list", "dict"]) (hg:Gl X "isinstance") (hm:X.mg "isinstance"=none) (hg2:Gl X c) (hm2:X.mg c=none) (hv2:bootBuiltins c=some (.type T)) (hn2:c ≠ "__name__") (hd2:(c==("__debug__":Str))=false) (ha:DE X a ma)
  (he:starEach (a::[.Name c p2]) X.env=(false,eval a X.env)::starEach [.Name c p2] X.env):DE X (.Call (.Name "isinstance" p) [a,.Name c p2] [] pos) (ma.bnd fun x=>Zl (Ul T x)):=fun loc mh=>by
 refine Bk (M8 (fX hT) hg hm boot_isinstance (Im (ha loc mh) (Im (pI hg2 hm2 hv2 (v:=.ty T) rfl hn2 hd2) M7) he) (by decide) (by decide) he) ?_;rintro σ H Q ⟨ρ,d,mh',q,rl,rs,co⟩;obtain ⟨x,m1,ea,q⟩:=Al q;exact ⟨ρ,x,m1,ea,rl,rs,fun H1 ρ1 v e1 rs1 r1=>⟨v,rfl,ρ1,m1,x,d,mh',q,rs1,r1,co.ev e1⟩⟩
end
section
variable {X:Cx}{a b c e o:Expr}{ma mb mc mo:DM D}{pos:Pos}
noncomputable def Nm (f f':D->D->MH->Option (D×MH)) (ma mb mc:DM D):DM D:=ma.bnd fun x=>mb.bnd fun y=>(Ah (Zl (f x y))).bnd fun k=>if k=true then mc.bnd fun z=>Zl (f' y z) else Zr (.bl false)
theorem Qk {f f':D->D->MH->Option (D×MH)}{σ:St}{H:Hp}{Q:VK}(h:tDx X.K (Nm f f' ma mb mc) σ H Q):Wu (rD X.K f) (rD X.K f') (tDx X.K ma) (tDx X.K mb) (tDx X.K mc) σ H Q:=by
 obtain ⟨loc,mh,ρ,d,mh',q,rl,rs,co⟩:=h;obtain ⟨x,m1,ea,q⟩:=Al q;obtain ⟨y,m2,eb,q⟩:=Al q;obtain ⟨k,m3,ek,q⟩:=Al q;have ek:=Dj ek;refine ⟨loc,mh,ρ,x,m1,ea,rl,rs,fun H1 ρ1 v1 e1 rs1 r1=>⟨loc,m1,ρ1,y,m2,eb,rl.mono e1,rs1,fun H2 ρ2 v2 e2 rs2 r2=>⟨ρ2,m2,x,y,.bl k,m3,ek,rs2,r1.mono e2,r2,fun H3 ρ3 v3 e3 rs3 r3=>?_⟩⟩⟩;cases r3;refine ⟨k,rfl,?_⟩;cases k with
 | true =>
  rw [if_pos rfl] at q;obtain ⟨z,m4,ec,q⟩:=Al q;exact Rp ⟨loc,m3,ρ3,z,m4,ec,((rl.mono e1).mono e2).mono e3,rs3,fun H4 ρ4 v4 e4 rs4 r4=>⟨ρ4,m4,y,z,d,mh',q,rs4,(r2.mono e3).mono e4,r4,co.ev (e1.trans (e2.trans (e3.trans e4)))⟩⟩
 | false =>
  rw [if_neg Bool.false_ne_true] at q;cases q;exact Ro (co H3 ρ3 _ (e1.trans (e2.trans e3)) rs3 (.bl false))
theorem fY {op op':CmpOp}{f f':D->D->MH->Option (D×MH)}(ho:OpR X (compareOp op) (rD X.K f)) (ho':OpR X (compareOp op') (rD X.K f')) (hm:lastMarks [op,op'] [b,c]=false) (ha:DE X a ma) (hb:DE X b mb) (hc:DE X c mc) :
  DE X (.Compare a [op,op'] [b,c] pos) (Nm f f' ma mb mc):=fun loc mh=>Bk (dI ho ho' ha.x hb.x hc.x hm) fun σ H Q h=>Qk ⟨loc,mh,h⟩
theorem fZ {op op':CmpOp}{f f':D->D->MH->Option (D×MH)}(ho:OpR X (compareOp op) (rD X.K f)) (ho':OpR X (compareOp op') (rD X.K f')) (hm:lastMarks [op,op'] [b,c]=false) (ha:DE X a ma) (hb:DE X b mb) (hc:DE X c mc) :
  DT X (.Compare a [op,op'] [b,c] pos) (Ah (Nm f f' ma mb mc)):=by
 refine fun loc mh=>Kz (dJ ho ho' ha.x hb.x hc.x hm) ?_
 rintro σ H Q ⟨ρ,k,mh',q,rl,rs,co⟩;have q:=Dj q;exact Qk ⟨loc,mh,ρ,_,_,q,rl,rs,fun H' ρ' v e' rs' r'=>by cases r';exact ⟨k,rfl,co H' ρ' e' rs'⟩⟩
noncomputable def rDM (K:PySem.W.Frag) (f:D->List D->MH->Option (D×MH)):V->List V->Hp->VK->Prop:=fun x xs H Q=>∃ ρ mh dx ds d mh',f dx ds mh=some (d,mh')/\RS K H ρ mh/\RD K H ρ dx x/\RDs K H ρ ds xs/\Co K H ρ mh' d Q
noncomputable def Rx (T:String) (x:D) (mh:MH):Bool:=match x with
 | .str _=>T == "str"
 | .int _=>T == "int"
 | .ref n=>T == "list"&&(match mh[n]? with | some (.lst _)=>true | _=>false)
 | .tup _=>T == "tuple"
 | _=>false
theorem gA {K:PySem.W.Frag}{H:Hp}{ρ:List Addr}{mh:MH}{T:String}{x:D}{v:V}(rs:RS K H ρ mh) (r:RD K H ρ x v) (h:Rx T x mh=true):tyV K T v H:=by
 cases r with
 | str z=>exact eq_of_beq h
 | int i=>exact eq_of_beq h
 | @ref n a hn =>
  have h:(T == "list"&&(match mh[n]? with | some (.lst _)=>true | _=>false))=true:=h;rw [Bool.and_eq_true] at h;obtain ⟨o,eo⟩:∃ o,mh[n]?=some (.lst o):=by
   have h:=h.2;split at h
   ·exact ⟨_,‹_›⟩
   ·cases h
  obtain ⟨a',ha,ro⟩:=rs.at eo;rw [hn] at ha;cases ha;obtain ⟨xs,sq,_⟩:=ro.read;exact .inl ⟨eq_of_beq h.1,xs,sq⟩
 | tup s r=>exact .inr (.inl ⟨eq_of_beq h,_,s⟩)
 | _=>cases h
noncomputable def Bv (T:String) (f:D->List D->MH->Option (D×MH)) (mo:DM D) (mr:DM (List D)):DM D:=mo.bnd fun x=>fun loc mh=>if Rx T x mh=true then (mr.bnd fun ds=>Zl (f x ds)) loc mh else none
theorem Lj {T id:String}{name:Str}{apos:Pos}{es:List Expr}{mr:DM (List D)}{f:D->List D->MH->Option (D×MH)}(pa:PlainAttrs T) (slot:Slot T name id) (hty:typeOf (.builtin id)=pure (.type "method_descriptor")) (hm:MtR X id (rDM X.K f)) (ho:DE X o mo) (ha:DA X (a::es) mr)
  (hbase:attributeBase o name X.env (eval o X.env)=eval o X.env)
  (hfew:((backTo pos (starEach (a::es) X.env)).all (fun x=>!x.1)&&(backToKw pos (keywordEach [] X.env)).all (fun x=>x.1.isSome)
   && decide ((a::es).length+([]:List Keyword).length+(if ([]:List Keyword).isEmpty then 0 else 1) < 30))=true)
  (hline:(apos.endLine==pos.line)=true) (hs:starEach (a::es) X.env=(false,eval a X.env)::starEach es X.env) (hplain:(backTo pos (starEach es X.env)).any (·.1)=false) :
  DE X (.Call (.Attribute o name apos) (a::es) [] pos) (Bv T f mo mr):=fun loc mh=>by
 cases eo:mo loc mh with
 | none =>
  have:Bv T f mo mr loc mh=none:=by unfold Bv DM.bnd;rw [eo]
  rw [this];exact Et
 | some p =>
  obtain ⟨x,m1⟩:=p;refine Bk (Ac8 pa slot hty hm (ho loc mh) (ha loc m1) hbase hfew hline hs hplain) ?_;rintro σ H Q ⟨ρ,d,mh',q,rl,rs,co⟩;obtain ⟨x',m1',eo',q⟩:=Al q;rw [eo] at eo';cases eo';split at q
  ·rename_i ht;obtain ⟨ds,m2,er,q⟩:=Al q;exact ⟨ρ,x,m1,eo,rl,rs,fun H1 ρ1 v e1 rs1 r1=>⟨gA rs1 r1 ht,ρ1,ds,m2,er,rl.mono e1,rs1,fun H2 ρ2 vs e2 rs2 r2=>⟨ρ2,m2,x,ds,d,mh',q,rs2,r1.mono e2,r2,co.ev (e1.trans e2)⟩⟩⟩
  ·cases q
theorem gB {T id:String}{name:Str}{apos:Pos}{f:D->List D->MH->Option (D×MH)}(pa:PlainAttrs T) (slot:Slot T name id) (hty:typeOf (.builtin id)=pure (.type "method_descriptor")) (hm:MtR X id (rDM X.K f)) (ho:DE X o mo)
  (hbase:attributeBase o name X.env (eval o X.env)=eval o X.env) (hline:(apos.endLine==pos.line)=true):DE X (.Call (.Attribute o name apos) [] [] pos) (Bv T f mo (Zr [])):=fun loc mh=>by
 refine Bk (yL pa slot hty hm (ho loc mh) hbase hline) ?_;rintro σ H Q ⟨ρ,d,mh',q,rl,rs,co⟩;obtain ⟨x,m1,eo,q⟩:=Al q;split at q
 ·rename_i ht;exact ⟨ρ,x,m1,eo,rl,rs,fun H1 ρ1 v e1 rs1 r1=>⟨gA rs1 r1 ht,ρ1,m1,x,[],d,mh',q,rs1,r1,.nil,co.ev e1⟩⟩
 ·cases q
theorem Mv {id:String}{r r':V->List V->Hp->VK->Prop}(h:MtR X id r) (i:∀ x xs H Q,r' x xs H Q->r x xs H Q):MtR X id r':=fun pins s σ H x xs v us Q I rx rs q=>h pins s σ H x xs v us Q I rx rs (i x xs H Q q)
noncomputable def Cg:D->List D->MH->Option (D×MH)
 | .ref n,[y],mh=>match mh[n]? with
  | some (.lst ds)=>if ds.length < sizeLine then some (.non,mh.set n (.lst (ds++[y]))) else none
  | _=>none
 | _,_,_=>none
theorem Xb:MtR X "list.append" (rDM X.K Cg):=by
 refine Mv Z9 ?_;rintro x xs H Q ⟨ρ,mh,dx,ds,d,mh',q,rs,rx,r,co⟩
 match ds,q with
 | [y],q =>
  obtain ⟨v,rfl,rv⟩:=K4 r;cases rx with
  | @ref n a hn =>
   have q:(match mh[n]? with | some (.lst ds)=>if ds.length < sizeLine then some (D.non,mh.set n (.lst (ds++[y]))) else none | _=>none)=some (d,mh'):=q;split at q
   ·rename_i ds em;split at q
    ·rename_i hz;cases q;obtain ⟨a',ha,us,hu,ru⟩:=rs.at em;rw [hn] at ha;cases ha;exact ⟨a,us,v,rfl,rfl,hu,by rw [← ru.length];exact hz,co _ ρ _ (Ev.lst hu) (rs.setL hn hu (ru.append (.cons rv .nil))) .non⟩
    ·cases q
   ·cases q
  | _=>cases q
 | [],q=>cases dx <;> cases q
 | _::_::_,q=>cases dx <;> cases q
noncomputable def gC:D->List D->MH->Option (D×MH)
 | .int i,[],mh=>some (.int (Builtin.Int.intBits i),mh)
 | _,_,_=>none
theorem gD:MtR X "int.bit_length" (rDM X.K gC):=by
 rintro pins s σ H x xs v us Q I rx rv ⟨ρ,mh,dx,ds,d,mh',q,rs,r1,r2,co⟩
 match ds,q with
 | [],q =>
  cases r2;cases rv;cases r1 with
  | int i =>
   cases q;obtain ⟨t,rfl⟩:=rx;exact call_int_bit_length ⟨.int _,H,I.tok _,⟨_,rfl⟩,co H ρ _ Ev.refl rs (.int _)⟩
  | _=>cases q
 | _::_,q=>cases dx <;> cases q
noncomputable def zV:D->MH->Option (D×MH)
 | .int i,mh=>some (.int (-i),mh)
 | _,_=>none
theorem rQ:UnR X (unaryOp .USub) (rD1 X.K zV):=by
 rintro pins s σ H x v Q I rx ⟨ρ,mh,dx,d,mh',q,rs,r1,co⟩;cases r1 with
 | int i=>cases q;exact xZ pins s σ H _ v Q I rx ⟨i,rfl,co H ρ _ Ev.refl rs (.int _)⟩
 | _=>cases q
end
noncomputable def Jt (xs:Array Nat):Prop:=xs.toList.Pairwise (· < ·)
theorem Jt.lt {xs:Array Nat}(h:Jt xs) {i j:Nat}{x y:Nat}(hij:i < j) (hx:xs[i]?=some x) (hy:xs[j]?=some y):x < y:=by
 obtain ⟨h1,rfl⟩:=Array.getElem?_eq_some_iff.mp hx;obtain ⟨h2,rfl⟩:=Array.getElem?_eq_some_iff.mp hy;have:=List.pairwise_iff_getElem.mp h i j (by simpa using h1) (by simpa using h2) hij
 simpa using this
structure Below (xs:Array Nat) (j p:Nat):Prop where
 le:p<=xs.size
 lo:∀ i x,i < p->xs[i]?=some x->x < j
 hi:∀ i x,p<=i->xs[i]?=some x->j<=x
theorem Np {xs:Array Nat}(h:Jt xs) {j:Nat}:∀ (fuel lo hi:Nat),lo<=hi->hi<=xs.size->hi<=lo+fuel->(∀ i x,i < lo->xs[i]?=some x->x < j)->(∀ i x,hi<=i->xs[i]?=some x->j<=x)->Below xs j (SetTable.below.go xs j fuel lo hi)
 | 0,lo,hi,h1,h2,h3,a,b=>by
  have e:lo=hi:=by omega
  subst e;exact ⟨h2,a,b⟩
 | fuel+1,lo,hi,h1,h2,h3,a,b=>by
  unfold SetTable.below.go
  by_cases hl:lo < hi
  ·rw [if_pos hl];have hm:(lo+hi) / 2 < xs.size:=by omega
   have hg:xs.getD ((lo+hi) / 2) j=xs[(lo+hi) / 2]:=by simp [Array.getD,hm]
   dsimp only;rw [hg]
   by_cases hc:xs[(lo+hi) / 2] < j
   ·rw [if_pos hc];refine Np h fuel _ _ (by omega) h2 (by omega) (fun i x hi' hx=>?_) b
    by_cases e:i=(lo+hi) / 2
    ·subst e;obtain ⟨_,rfl⟩:=Array.getElem?_eq_some_iff.mp hx;exact hc
    ·exact Nat.lt_trans (h.lt (by omega) hx (Array.getElem?_eq_getElem hm)) hc
   ·rw [if_neg hc];refine Np h fuel _ _ (by omega) (by omega) (by omega) a fun i x hi' hx=>?_
    by_cases e:i=(lo+hi) / 2
    ·subst e;obtain ⟨_,rfl⟩:=Array.getElem?_eq_some_iff.mp hx;exact Nat.le_of_not_lt hc
    ·exact Nat.le_trans (Nat.le_of_not_lt hc) (Nat.le_of_lt (h.lt (by omega) (Array.getElem?_eq_getElem hm) hx))
  ·rw [if_neg hl];have e:lo=hi:=by omega
   subst e;exact ⟨h2,a,b⟩
theorem Hx {xs:Array Nat}(h:Jt xs) (j:Nat):Below xs j (SetTable.below xs j):=by
 unfold SetTable.below;exact Np h _ _ _ (Nat.zero_le _) (Nat.le_refl _) (by omega) (fun i x hi=>absurd hi (Nat.not_lt_zero _)) fun i x hi hx=>by
  obtain ⟨h1,_⟩:=Array.getElem?_eq_some_iff.mp hx;omega
theorem Below.same {xs:Array Nat}{j p q:Nat}(a:Below xs j p) (b:Below xs j q):p=q:=by
 rcases Nat.lt_trichotomy p q with h|h|h
 ·have:=b.le;have hp:p < xs.size:=by omega
  have:=b.lo p _ h (Array.getElem?_eq_getElem hp);have:=a.hi p _ (Nat.le_refl _) (Array.getElem?_eq_getElem hp);omega
 ·exact h
 ·have:=a.le;have hq:q < xs.size:=by omega
  have:=a.lo q _ h (Array.getElem?_eq_getElem hq);have:=b.hi q _ (Nat.le_refl _) (Array.getElem?_eq_getElem hq);omega
theorem Xc {xs:Array Nat}(h:Jt xs):SetTable.below xs 0=0 :=
 (Hx h 0).same ⟨Nat.zero_le _,fun i x hi=>absurd hi (Nat.not_lt_zero _),fun _ _ _ _=>Nat.zero_le _⟩
theorem Xd {xs:Array Nat}(h:Jt xs) {i x:Nat}(hx:xs[i]?=some x):SetTable.below xs (x+1)=i+1:=by
 obtain ⟨hl,_⟩:=Array.getElem?_eq_some_iff.mp hx;refine (Hx h (x+1)).same ⟨hl,fun k y hk hy=>?_,fun k y hk hy=>h.lt hk hx hy⟩
 by_cases e:k=i
 ·subst e;rw [hx] at hy;cases hy;exact Nat.lt_succ_self _
 ·exact Nat.lt_succ_of_lt (h.lt (by omega) hy hx)
theorem Lk {xs:Array Nat}(h:Jt xs) {j:Nat}(hn:xs[SetTable.below xs j]?≠some j):Jt (SetTable.insertAt xs (SetTable.below xs j) j):=by
 have B:=Hx h j;generalize SetTable.below xs j=p at B hn;unfold Jt;rw [SetTable.toList_insertAt,List.pairwise_append];have hp:∀ (l:List Nat) (i:Nat) (x:Nat),l[i]?=some x->x∈l:=fun l i x q=>List.mem_of_getElem? q
 have get:∀ x,x∈xs.toList.take p->x < j:=fun x hx=>by
  obtain ⟨i,hi,rfl⟩:=List.getElem_of_mem hx;rw [List.length_take] at hi;have:xs[i]?=some (xs.toList.take p)[i]:=by
   rw [← Array.getElem?_toList,List.getElem_take,List.getElem?_eq_getElem]
  exact B.lo i _ (by omega) this
 have get2:∀ x,x∈xs.toList.drop p->j < x:=fun x hx=>by
  obtain ⟨i,hi,rfl⟩:=List.getElem_of_mem hx;rw [List.length_drop] at hi;have e:xs[p+i]?=some (xs.toList.drop p)[i]:=by
   rw [← Array.getElem?_toList,List.getElem_drop,List.getElem?_eq_getElem]
  have le:=B.hi (p+i) _ (by omega) e
  by_cases q:(xs.toList.drop p)[i]=j
  ·exfalso;rw [q] at e
   by_cases hi0:i=0
   ·subst hi0;exact hn e
   ·have hps:p < xs.size:=by
     rw [Array.length_toList] at hi;omega
    have:=B.hi p _ (Nat.le_refl _) (Array.getElem?_eq_getElem hps);have:=h.lt (i:=p) (j:=p+i) (by omega) (Array.getElem?_eq_getElem hps) e;omega
  ·omega
 refine ⟨h.sublist (List.take_sublist _ _),List.pairwise_cons.mpr ⟨get2,h.sublist (List.drop_sublist _ _)⟩,fun x hx y hy=>?_⟩;rcases List.mem_cons.mp hy with rfl|hy
 ·exact get x hx
 ·exact Nat.lt_trans (get x hx) (get2 y hy)
theorem Ql {t:SetTable}{j:Nat}(h:t.slot j=.empty\/t.slot j=.dummy):t.place[SetTable.below t.place j]?≠some j:=by
 intro e;unfold SetTable.slot at h;rw [if_pos (by rw [e];exact beq_self_eq_true _)] at h;rcases h with h | h <;> cases h
theorem Jj (t:SetTable) (p:SetTable.Probe):(t.advance p).dummy=p.dummy:=by
 unfold SetTable.advance;split <;> rfl
theorem Ju {t:SetTable}{ha:Nat->Int}{h:Int}:∀ (fuel:Nat) (p:SetTable.Probe) (j:Nat) (d:Option Nat),(∀ x,p.dummy=some x->t.slot x=.dummy)->SetTable.probe.go t ha h fuel p=some (.empty j d) ->
  t.slot j=.empty/\∀ x,d=some x->t.slot x=.dummy
 | 0,p,j,d,_,e=>by cases e
 | fuel+1,p,j,d,hd,e=>by
  unfold SetTable.probe.go at e;cases hs:t.slot p.j with
  | empty =>
   simp only [hs] at e;cases e;exact ⟨hs,hd⟩
  | dummy =>
   simp only [hs] at e;refine Ju fuel _ j d (fun x hx=>?_) e;rw [Jj] at hx;cases hx;exact hs
  | live i =>
   simp only [hs] at e;split at e
   ·cases e
   ·exact Ju fuel _ j d (fun x hx=>hd x (by rw [Jj] at hx;exact hx)) e
structure Good (b:Bool) (t:SetTable):Prop where
 led:t.led=b
 rise:t.plain=true->Jt t.place
theorem Good.off {b:Bool}{t:SetTable}(h:Good b t):Good b { t with plain:=false }:=⟨h.led,fun z=>by cases z⟩
theorem Good.stand {b:Bool}{t:SetTable}(h:Good b t) (n:Nat):Good b (t.standIn n):=⟨h.led,fun z=>by cases z⟩
theorem Good.orStand {b:Bool}{t:SetTable}(h:Good b t) (n:Nat):Good b (t.orStandIn n):=by
 unfold SetTable.orStandIn;split
 ·exact h
 ·exact h.stand n
theorem gF {b:Bool}{t:SetTable}(g:Good b t) (es:Array (Int×Value)) (h:Int) (x:Value):Good b (layNew t es h x).2.1:=by
 unfold layNew;cases hf:t.freeSlot h with
 | none=>exact g.stand _
 | some q =>
  obtain ⟨slot,wd⟩:=q;show Good b ((t.put slot).1.orStandIn (SetTable.insertAt es (t.put slot).2 (h,x)).size);refine Good.orStand (t:=(t.put slot).1) ⟨g.led,fun hp=>Lk (j:=slot) (g.rise hp) (Ql ?_)⟩ _;unfold SetTable.freeSlot at hf;unfold SetTable.probe at hf;split at hf
  ·rename_i j d e;cases hf;obtain ⟨h1,h2⟩:=Ju _ _ _ _ (fun x hx=>by cases hx) e;cases d with
   | none=>exact .inl h1
   | some y=>exact .inr (h2 y rfl)
  ·cases hf
theorem aM (n:Nat) (f:Nat->Option Nat):(((List.range n).filterMap fun j=>(f j).map (j,·)).map (·.1)).Pairwise (· < ·):=by
 have e:((List.range n).filterMap fun j=>(f j).map (j,·)).map (·.1)=(List.range n).filter fun j=>(f j).isSome:=by
  rw [List.map_filterMap]
  induction List.range n with
  | nil=>rfl
  | cons a r ih =>
   rw [List.filterMap_cons,List.filter_cons,ih];cases f a <;> rfl
 rw [e];exact List.pairwise_lt_range.filter _
theorem Xe {b:Bool}{t:SetTable}(g:Good b t) (es:Array (Int×Value)) (n:Nat):Good b (relayAll t es n).2.1:=by
 unfold relayAll;cases hr:t.relaid (es.map (·.1)) n with
 | none=>exact g.stand _
 | some q =>
  obtain ⟨t',order⟩:=q;dsimp only;split
  ·unfold SetTable.relaid SetTable.laid at hr;cases ho:SetTable.layClean (SetTable.sizeAbove n - 1) (es.map (·.1)) with
   | none=>rw [ho] at hr;cases hr
   | some owner =>
    rw [ho] at hr;cases hr;exact ⟨g.led,fun _=>aM _ _⟩
  ·exact g.stand _
theorem Nq (b:Bool):Good b (.fresh 0 0 b):=⟨rfl,fun _=>List.Pairwise.nil⟩
section
variable {P:Program}{w:World}
structure SetD (P:Program) (w:World) (o:Obj) (es:Array (Int×Value)) (ep:Nat) (t:SetTable) (S:Int->Bool) (n:Nat):Prop where
 ex:o.ExactSet
 dt:o.data=.set es ep t
 el:ElemsOf (intKind P w) es.toList
 mem:∀ k,S k=true ↔ ∃ e∈es.toList,(intKind P w).is k e.2=true
 few:es.size < scanBound
 fit:t.fits es.size=true
 sz:es.size=n
 good:Good (!w.params.followText "set-order") t
structure SetB (w:World) (o:Obj) (es:Array (Int×Value)) (ep:Nat) (t:SetTable):Prop where
 ex:o.ExactSet
 dt:o.data=.set es ep t
 few:es.size < scanBound
 fit:t.fits es.size=true
 good:Good (!w.params.followText "set-order") t
theorem SetD.b {o:Obj}{es:Array (Int×Value)}{ep:Nat}{t:SetTable}{S:Int->Bool}{n:Nat}(d:SetD P w o es ep t S n):SetB w o es ep t:=⟨d.ex,d.dt,d.few,d.fit,d.good⟩
noncomputable def G8 (P:Program) (w:World) (h:Heap) (a:Addr) (S:Int->Bool) (n:Nat):Prop:=∃ o es ep t,h.get? a=some o/\SetD P w o es ep t S n
theorem G8.stay {h h':Heap}{a:Addr}{S:Int->Bool}{n:Nat}(g:G8 P w h a S n) (k:∀ o,h.get? a=some o->h'.get? a=some o):G8 P w h' a S n:=by
 obtain ⟨o,es,ep,t,e,d⟩:=g;exact ⟨o,es,ep,t,k o e,d⟩
theorem G8.congr {h:Heap}{a:Addr}{S S':Int->Bool}{n n':Nat}(g:G8 P w h a S n) (e:∀ k,S k=S' k) (en:n=n'):G8 P w h a S' n':=by
 have:S=S':=funext e;subst this;subst en;exact g
variable {A:Around}{E:Value->Shared->Prop}{s:Shared}
theorem Um {h:Heap}{a:Addr}{o:Obj}{es:Array (Int×Value)}{ep:Nat}{t:SetTable}{S:Int->Bool}{n:Nat}{es':Array (Int×Value)}{t':SetTable}{S':Int->Bool}(e:h.get? a=some o) (d:SetD P w o es ep t S n)
  (h1:ElemsOf (intKind P w) es'.toList) (h2:∀ k,S' k=true ↔ ∃ e∈es'.toList,(intKind P w).is k e.2=true) (h3:es'.size < scanBound) (h4:t'.fits es'.size=true) (h5:Good (!w.params.followText "set-order") t') :
  ∃ o',(h.update a (Obj.putSet es' t')).get? a=some o'/\SetD P w o' es' (ep+1) t' S' es'.size:=by
 refine ⟨{ o with data:=.set es' (ep+1) t' },?_,d.ex,rfl,h1,h2,h3,h4,rfl,h5⟩;have z:=Heap.get?_update_self (Obj.putSet es' t') e (by rw [putSet_of es' t' d.dt];rfl)
 rwa [putSet_of es' t' d.dt] at z
theorem Qm {g:Bool->Sem Unit}(hg:∀ (b:Bool) (s₁:Shared) (Q':Unit->Shared->Prop),Q' () s₁->wpAny (model P w) A (g b) Q' E s₁) {a:Addr}{o:Obj}{es es1:Array (Int×Value)}{ep:Nat}{t t2:SetTable}{S S':Int->Bool}{n:Nat}{wd:Bool}
  (e:s.heap.get? a=some o) (d:SetD P w o es ep t S n) (h1:ElemsOf (intKind P w) es1.toList) (h2:∀ k,S' k=true ↔ ∃ e∈es1.toList,(intKind P w).is k e.2=true) (h3:es1.size < scanBound) (h4:t2.fits es1.size=true) (h5:Good (!w.params.followText "set-order") t2)
  {R:Option Bool->Shared->Prop} (hR:∀ h',Heap.SameBut a s.heap h'->G8 P w h' a S' es1.size->R (some true) { s with heap:=h' }) :
  wpAny (model P w) A (storeSet a es1 t2 >>= fun _=>if (!wd&&t2.tooFull)=true then (g (relayAll t2 es1 (SetTable.grown es1.size)).2.2 >>= fun _=>storeSet a (relayAll t2 es1 (SetTable.grown es1.size)).1 (relayAll t2 es1 (SetTable.grown es1.size)).2.1 >>= fun _=>pure (some true)) else pure (some true)) R E s:=by
 obtain ⟨o1,e1,d1⟩:=Um e d h1 h2 h3 h4 h5;refine wpAny_bind (wpAny_storeSet_of e d.dt ?_ (fits_of_scanBound h3))
 by_cases hc:(!wd&&t2.tooFull)=true
 ·rw [if_pos hc];have rp:=relayAll_perm t2 es1 (SetTable.grown es1.size);have rf:=relayAll_fits t2 es1 (SetTable.grown es1.size);have rg:=Xe h5 es1 (SetTable.grown es1.size);generalize relayAll t2 es1 (SetTable.grown es1.size)=z at rp rf rg;obtain ⟨es2,t3,gv⟩:=z;have sz:es2.size=es1.size:=by rw [← Array.length_toList,← Array.length_toList];exact rp.length_eq
  refine wpAny_bind (hg _ _ _ (wpAny_bind (wpAny_storeSet_of e1 d1.dt ?_ (fits_of_scanBound (by rw [sz];exact h3)))));obtain ⟨o2,e2,d2⟩:=Um e1 d1 (h1.perm rp) (fun k=>(h2 k).trans ⟨fun ⟨x,hx,q⟩=>⟨x,rp.mem_iff.mpr hx,q⟩,fun ⟨x,hx,q⟩=>⟨x,rp.mem_iff.mp hx,q⟩⟩) (by rw [sz];exact h3) rf rg;refine wpAny_pure (hR _ ((Heap.SameBut.update s.heap a _).trans (Heap.SameBut.update _ a _)) ⟨o2,es2,ep+1+1,t3,e2,?_⟩);rw [← sz];exact d2
 ·rw [if_neg hc];exact wpAny_pure (hR _ (Heap.SameBut.update s.heap a _) ⟨o1,es1,_,t2,e1,d1⟩)
theorem gG {a:Addr}{S:Int->Bool}{n:Nat}{k:Int}{x:Value}{Q:Bool->Shared->Prop}(hk:(intKind P w).is k x=true) (hx:x.scannable=true) (g:G8 P w s.heap a S n) (hr:n+1 < scanBound)
  (h:∀ h',Heap.SameBut a s.heap h'->G8 P w h' a (fun j=>S j || decide (j=k)) (if S k then n else n+1)->Q (!S k) { s with heap:=h' }):wpAny (model P w) A (setAddHashed a x ((intKind P w).hash k)) Q E s:=by
 obtain ⟨o,es,ep,t,e,d⟩:=g;have few1:es.size+1 < scanBound:=by rw [d.sz];exact hr
 unfold setAddHashed setAddHashedIn;refine wpAny_holding (wpAny_bind (wpAny_setState_of e d.dt d.fit ?_));dsimp only;rw [if_pos (byScan_of hx d.few d.el)];unfold setAddByScan;refine wpAny_bind (wpAny_bind (wpAny_rule (wpAny_bind (wpAny_setScan_of hk e d.dt d.fit d.el ?_))));cases hf:es.toList.findIdx? fun e=>(intKind P w).is k e.2 with
 | some j =>
  obtain ⟨hj,hpj,_⟩:=List.findIdx?_eq_some_iff_getElem.mp hf;have hS:S k=true:=(d.mem k).mpr ⟨_,List.getElem_mem hj,hpj⟩
  have z:=h s.heap (Heap.SameBut.refl a s.heap) ⟨o,es,ep,t,e,d.ex,d.dt,d.el,fun j=>by
   rw [Bool.or_eq_true,decide_eq_true_eq,← d.mem j]
   exact ⟨fun q=>q.elim id fun e=>by rw [e];exact hS,.inl⟩,d.few,d.fit,by rw [if_pos hS];exact d.sz,d.good⟩
  rw [hS] at z;exact wpAny_pure (wpAny_pure z)
 | none =>
  have hS:S k=false:=by
   cases q:S k with
   | false=>rfl
   | true =>
    obtain ⟨y,hy,hp⟩:=(d.mem k).mp q;have:=List.findIdx?_eq_none_iff.mp hf y hy;rw [hp] at this;cases this
  have way:∀ (b:Bool) (s₁:Shared) (Q':Unit->Shared->Prop),Q' () s₁->wpAny (model P w) A (match b with | true=>rule "set.scan.the-table-gave-way" | false=>pure ()) Q' E s₁:=fun b s₁ Q' hq=>by
   cases b with
   | true=>exact wpAny_rule hq
   | false=>exact wpAny_pure hq
  dsimp only;have lp:=layNew_perm t es ((intKind P w).hash k) x;have lf:=layNew_fits t es ((intKind P w).hash k) x;have lg:=gF d.good es ((intKind P w).hash k) x;generalize layNew t es ((intKind P w).hash k) x=z at lp lf lg;obtain ⟨es1,t1,wd,gv⟩:=z;rw [Array.toList_push] at lp;have sz:es1.size=n+1:=by rw [← Array.length_toList,lp.length_eq,List.length_append,Array.length_toList,d.sz];rfl
  have el1:ElemsOf (intKind P w) es1.toList:=(d.el.push hk hx).perm lp;have mem1:=mem_push_iff hk d.mem lp;have few:es1.size < scanBound:=by rw [sz];exact hr
  have fin:∀ h',Heap.SameBut a s.heap h'->G8 P w h' a (fun j=>S j || decide (j=k)) es1.size->Q true { s with heap:=h' }:=fun h' sb g'=>by
   have q:=h h' sb;rw [hS,if_neg Bool.false_ne_true] at q;rw [sz] at g';exact q g'
  refine wpAny_bind (way _ _ _ ?_)
  by_cases hp:t1.plain=true
  ·simp only [hp,if_true];rw [hashByValue_scannable 8 hx];refine wpAny_bind (wpAny_pure ?_);refine Qm way e d el1 mem1 few ?_ ?_ fun h' sb g'=>wpAny_pure (fin h' sb g')
   ·split
    ·exact lf
    ·exact SetTable.fits_plain_off lf
   ·split
    ·exact lg
    ·exact lg.off
  ·simp only [hp,if_false];refine wpAny_bind (wpAny_pure ?_);exact Qm way e d el1 mem1 few lf lg fun h' sb g'=>wpAny_pure (fin h' sb g')
end
noncomputable abbrev Xf (val:Nat->Int) (i:Nat):List Int:=firstMet val i
section
variable {P:Program}{w:World}{A:Around}{R:Result->Shared->Prop}{I:Addr}{fp wr:List Addr}{G:Array GenState->Array GenState->Prop}{n:Nat}{V:Nat->Value->Prop}{T:Nat->Shared->Prop}
theorem aN (W:WalksS P w A.in1 I fp wr G n V T) (a:Addr) (ha:a ∉ fp) (val:Nat->Int) (hv:∀ i v,V i v->∃ t,v=.int (val i) t) (hb:n+1 < scanBound) :
  ∀ (k i:Nat) (s:Shared),n - i=k->i<=n->T i s->G8 P w s.heap a (fun j=>(Xf val i).any (·==j)) (Xf val i).length ->
   (∀ s',Moved (a::wr) G s s'->G8 P w s'.heap a (fun j=>(Xf val n).any (·==j)) (Xf val n).length->R (.ok (.ret .none)) s') ->
   codeAny (model P w) A (.builtin "set.update.loop" ⟨[.ref a,.ref I],[]⟩) R s:=by
 have aw:a ∉ wr:=fun z=>ha (W.sub _ z)
 have sub:∀ b∈wr,b∈a::wr:=fun b hb=>.tail _ hb
 intro k
 induction k with
 | zero =>
  intro i s hk hi st g hR;have e:i=n:=by omega
  subst e;refine codeAny_builtin F.entry_set_update_loop ?_;rw [Around.under_plainId F.plain_set_update_loop _];refine wpAny_bind (m:=pyNext (.ref I)) (W.done s _ _ st fun s' mv=>?_);exact wpAny_pure (hR s' (mv.mono sub) (g.stay fun o q=>mv.heap a o aw q))
 | succ k ih =>
  intro i s hk hi st g hR;have lt:i < n:=by omega
  refine codeAny_builtin F.entry_set_update_loop ?_;rw [Around.under_plainId F.plain_set_update_loop _];refine wpAny_bind (m:=pyNext (.ref I)) (W.item i s _ _ lt st fun v s' hV st' mv=>?_);obtain ⟨t,rfl⟩:=hv i v hV;have g':=g.stay (h':=s'.heap) fun o q=>mv.heap a o aw q
  refine wpAny_bind (m:=holding [Value.int (val i) t] (setAdd a (.int (val i) t))) (wpAny_holding ?_);unfold setAdd;refine wpAny_holding (wpAny_bind ((intKind P w).pyHash (k:=val i) (intKind_is _ _ _ _) ?_));have room:(Xf val i).length+1 < scanBound:=by
   have:=firstMet_length_le val i;show (firstMet val i).length+1 < scanBound;omega
  refine gG (s:={ s' with toks:=s'.toks+1 }) (intKind_is _ _ _ _) rfl g' room fun h' sb g2=>?_
  have g3:G8 P w h' a (fun j=>(Xf val (i+1)).any (·==j)) (Xf val (i+1)).length:=g2.congr (fun j=>by show _=(firstMet val (i+1)).any _;rw [firstMet_succ,step_any]) (by show _=(firstMet val (i+1)).length;rw [firstMet_succ,step_length]);refine wpAny_pure ⟨plainId_quiet F.plain_set_update_loop _,ih (i+1) _ (by omega) lt (W.frame _ s' _ _ st' (Nat.le_succ _) fun b hb o q=>?_) g3 fun s2 mv2 gl=>?_⟩
  ·rw [sb.2 b fun z:b=a=>ha (by rw [← z];exact hb)];exact q
  ·refine hR s2 (Moved.trans W.gtrans ((mv.mono sub).then_heap (Nat.le_succ _) fun b o hb q=>?_) mv2) gl;rw [sb.2 b fun z:b=a=>hb (by rw [z];exact .head _)];exact q
end
section
variable {P:Program}{w:World}{A:Around}{E:Value->Shared->Prop}{s:Shared}
theorem Uo (u:Value) {Q:Value->Shared->Prop}
  (h:Q (.ref s.heap.objs.size) { s with heap:=s.heap.push { cls:=.type "set",dict:=none,data:=.set #[] 0 (.fresh 0 0 (!w.params.followText "set-order")) } }) :
  codeAny (model P w) A (.call (.builtin "set.__new__") ⟨[.type "set",u],[]⟩) (wants Q E) s:=by
 refine codeAny_of_tree ?_
 show wpAny _ A.in1 (checkBuiltinCall "set.__new__" ⟨[.type "set",u],[]⟩ >>= fun _=>again (.builtin "set.__new__" ⟨[.type "set",u],[]⟩)) _ _ s;refine wpAny_bind (wpAny_of_eq (F.newCall_set_1 u) (wpAny_pure ⟨plainId_quiet F.plain_set_new _,codeAny_builtin F.entry_set_new ?_⟩));rw [Around.under_plainId F.plain_set_new _];unfold Builtin.«set.__new__» Builtin.Frozenset.newClass;have sub:=sub_set_self;obtain ⟨hp,g,d,tk,os⟩:=s;dsimp only at h ⊢;wp_walk;refine wpAny_askSetting (wpAny_pure ?_);dsimp only;simp only [newObj];exact wpAny_bind (wpAny_alloc (wpAny_pure (wpAny_pure h)))
end
section
variable {P:Program}{w:World}{A:Around}{E:Value->Shared->Prop}{s:Shared}
noncomputable abbrev set0 (b:Bool):Obj:={ cls:=.type "set",dict:=none,data:=.set #[] 0 (.fresh 0 0 b) }
theorem Xg {h:Heap}{a:Addr}(e:h.get? a=some (set0 (!w.params.followText "set-order"))):G8 P w h a (fun _=>false) 0 :=
 ⟨_,#[],0,_,e,⟨rfl,rfl,rfl⟩,rfl,fun e he=>by simp at he,fun k=>by simp,by decide,by rfl,rfl,Nq _⟩
noncomputable def Dh (ns:List Int):List Int:=firstMet (fun i=>ns.getD i 0) ns.length
theorem aO {l:Addr}{its:Array Value}{ns:List Int}{Q:Value->Shared->Prop}(hh:A.handled=none) (hl:s.heap.IsList l its) (hi:IntsAre its.toList ns) (hb:its.size+1 < scanBound)
  (h:∀ (h':Heap) (tk:Nat),G8 P w h' s.heap.objs.size (fun j=>(Dh ns).any (·==j)) (Dh ns).length->(∀ b o,b < s.heap.objs.size->s.heap.get? b=some o->h'.get? b=some o)->s.toks<=tk->Q (.ref s.heap.objs.size) { s with heap:=h',toks:=tk }) :
  wpAny (model P w) A (call (.type "set") [.ref l]) Q E s:=by
 have hn:its.size=ns.length:=by rw [← Array.length_toList];exact hi.length
 have em:Dh ns=firstMet (fun i=>ns.getD i 0) its.size:=by unfold Dh;rw [hn]
 rw [em] at h;obtain ⟨c,tl,hmro⟩:=F.called_set.mro;have hmade:=F.called_set.made;have hsub:=F.called_set.sub;have hnt:=F.called_set.notType;have hcc:=F.called_set.canCreate;have hct:=F.typeCall_set_1 (.ref l)
 refine wpAny_call (codeAny_of_tree (show wpAny _ _ (callAny (.type "set") _) _ _ _ from wpAny_pure ⟨Code.quiet_builtin _ (by decide +kernel),codeAny_builtin F.entry_type_call ?_⟩))
 rw [Around.under_plain (weight_type_call_type "set" [.ref l] []) rfl];repeat (any_goals (first | assumption | wp_step))
 refine codeAny_mono (Uo (.ref l) (E:=E) (Q:=fun v s₁=>v=.ref s.heap.objs.size/\s₁={ s with heap:=s.heap.push (set0 (!w.params.followText "set-order")) }) ⟨rfl,rfl⟩) fun r s₁ hr=>?_
 cases r with
 | error z=>exact hr
 | ok fl =>
 cases fl with
 | next=>exact hr.elim
 | brk=>exact hr.elim
 | cont=>exact hr.elim
 | ret v =>
  obtain ⟨rfl,rfl⟩:=hr
  have e0:(s.heap.push (set0 (!w.params.followText "set-order"))).get? s.heap.objs.size=some (set0 (!w.params.followText "set-order")):=Heap.get?_push_size _ rfl
  have hT:Shared.TypeIs { s with heap:=s.heap.push (set0 (!w.params.followText "set-order")) } (.ref s.heap.objs.size) "set":=⟨_,e0,rfl⟩
  have hli:=F.called_set.init.lookup;have hbi:=F.called_set.init.bind (.ref s.heap.objs.size);repeat (any_goals (first | assumption | wp_step))
  refine codeAny_mono (codeAny_call_builtin (R:=wants (fun r s₂=>r=.none/\∃ h' tk,s₂={ s with heap:=h',toks:=tk }/\s.toks<=tk /\
    G8 P w h' s.heap.objs.size (fun j=>(firstMet (fun i=>ns.getD i 0) its.size).any (·==j)) (firstMet (fun i=>ns.getD i 0) its.size).length /\
    (∀ b o,b < s.heap.objs.size->s.heap.get? b=some o->h'.get? b=some o)) E) F.called_set.init.plain F.entry_set_init (check_set_init_1 hT ?_)) fun r₂ s₂ hr₂=>?_
  ·obtain ⟨ol,hol,hcl,nl,hdl⟩:=hl;obtain ⟨ocls,odict,odata,oslots⟩:=ol;simp only at hcl hdl;subst hcl;subst hdl
   have hol':(s.heap.push (set0 (!w.params.followText "set-order"))).get? l=some { cls:=.type "list",dict:=odict,data:=.seq its nl,slots:=oslots }:=Heap.get?_push_of_some _ hol
   have hl1:(s.heap.push (set0 (!w.params.followText "set-order"))).IsList l its:=⟨_,hol',rfl,nl,rfl⟩;have q1:=F.sub_list_set;have q2:=F.sub_list_frozenset
   have q3:(Value.type "list"==Value.type "dict")=false:=by decide
   unfold Builtin.«set.__init__» noKeywords Builtin.Frozenset.updateFrom;generalize hPI:pyIter=PI;wp_walk;subst hPI;have lt:l < s.heap.objs.size:=Heap.lt_size hol
   have sz:(s.heap.push (set0 (!w.params.followText "set-order"))).objs.size=s.heap.objs.size+1:=Heap.size_push ..;refine wpAny_pyIter_list hl1 (wpAny_bind (wpAny_runValue ?_));refine aN (V:=fun i v=>its[i]?=some v) ((Walks.list (by simp [hh]) _ l (by rw [sz];exact Nat.ne_of_lt (Nat.lt_succ_of_lt lt)) its).toS) s.heap.objs.size ?_ (fun i=>ns.getD i 0) (fun i v hv=>IntsAre.int_at hi i v (by rw [Array.getElem?_toList];exact hv)) hb (its.size - 0) 0 _ (by omega) (Nat.zero_le _) ⟨⟨_,Heap.get?_push_size _ rfl,rfl,rfl⟩,hl1.push _⟩ ?_ fun s' mv g=>?_
   ·rw [sz];simp only [List.mem_cons,List.not_mem_nil,or_false,not_or];exact ⟨Nat.ne_of_lt (Nat.lt_succ_self _),Nat.ne_of_gt lt⟩
   ·exact (Xg (Heap.get?_push_of_some _ e0)).congr (fun _=>rfl) rfl
   ·obtain ⟨h',g',d',tk',os'⟩:=s';have e1:g'=s.gens:=mv.gens;have e2:d'=s.drawn:=mv.drawn;have e3:os'=s.os:=mv.os;have e4:s.toks<=tk':=mv.toks;subst e1;subst e2;subst e3;refine wpAny_pure (wpAny_pure ⟨rfl,h',tk',rfl,e4,g,fun b o hb q=>mv.heap b o ?_ (Heap.get?_push_of_some _ (Heap.get?_push_of_some _ q))⟩);rw [sz];simp only [List.mem_cons,List.not_mem_nil,or_false,not_or];exact ⟨Nat.ne_of_lt hb,Nat.ne_of_lt (Nat.lt_succ_of_lt hb)⟩
  ·cases r₂ with
   | error z=>exact hr₂
   | ok fl₂ =>
    cases fl₂ with
    | ret r =>
     obtain ⟨rfl,h',tk,rfl,ht,g,kp⟩:=hr₂;repeat (any_goals (first | assumption | wp_step))
     exact h _ _ g kp ht
    | _=>exact hr₂.elim
end
section
variable {P:Program}{w:World}{A:Around}{E:Value->Shared->Prop}{s:Shared}
end
theorem Jv {α:Type}:∀ {l:List α}{i:Nat}(h:i < l.length),List.Perm (l[i]::l.eraseIdx i) l
 | a::r,0,_=>.refl _
 | a::r,i+1,h=>by
  have hi:i < r.length:=by simpa using h
  have:=Jv (l:=r) (i:=i) hi;show List.Perm (r[i]::a::r.eraseIdx i) (a::r);exact (List.Perm.swap _ _ _).trans (this.cons a)
theorem Yx {α:Type}(nx:Nat->Nat):∀ (fuel k:Nat) (left:List α) (out:Array α),left.length=fuel->List.Perm (pickOrder.go nx fuel k left out).toList (out.toList++left)
 | 0,k,left,out,h=>by
  have:left=[]:=List.length_eq_zero_iff.mp h;subst this;unfold pickOrder.go;rw [List.append_nil]
 | fuel+1,k,left,out,h=>by
  unfold pickOrder.go;have hl:nx k % left.length < left.length:=Nat.mod_lt _ (by omega);rw [List.getElem?_eq_getElem hl];dsimp only;refine (Yx nx fuel _ _ _ (by rw [List.length_eraseIdx,if_pos hl];omega)).trans ?_;rw [Array.toList_push,List.append_assoc]
  exact List.Perm.append_left _ (by
   show List.Perm (left[nx k % left.length]::left.eraseIdx (nx k % left.length)) left
   exact Jv hl)
theorem aP {α:Type}(nx:Nat->Nat) (xs:Array α):List.Perm (pickOrder nx xs).toList xs.toList:=by
 unfold pickOrder
 simpa using Yx nx xs.size 0 xs.toList #[] (by simp)
section
variable {P:Program}{w:World}{A:Around}{E:Value->Shared->Prop}
theorem wp_choose {src:Source}{n:Nat}{s:Shared}{Q:Nat->Shared->Prop}(hn:n≠0) (h:∀ i dr,i < n->Q i { s with drawn:=dr }):wpAny (model P w) A (choose src n) Q E s:=fun Γ p hΓ =>
 ⟨hn,h _ _ (Nat.mod_lt _ (Nat.pos_of_ne_zero hn))⟩
theorem Yy {α:Type}:∀ (n:Nat) (xs:List α) (s:Shared) (Q:List α->Shared->Prop),xs.length=n->(∀ ys dr,ys.Perm xs->Q ys { s with drawn:=dr })->wpAny (model P w) A (drawOrder n xs) Q E s
 | 0,xs,s,Q,hl,h=>by
  have:xs=[]:=List.length_eq_zero_iff.mp hl;subst this;exact wpAny_pure (h [] s.drawn .nil)
 | n+1,[],s,Q,hl,h=>by cases hl
 | n+1,x::r,s,Q,hl,h=>by
  unfold drawOrder;refine wpAny_bind (wp_choose (by simp) fun i dr hi=>?_);rw [List.getElem?_eq_getElem hi];dsimp only;refine wpAny_bind (Yy n _ _ _ (by rw [List.length_eraseIdx,if_pos hi];simp at hl ⊢;omega) fun ys dr' hp=>wpAny_pure (h _ dr' ?_));exact (hp.cons _).trans (Jv hi)
end
inductive Mode where
 | txt | slt | drw (tp:Addr) (pl:List Nat)
noncomputable def Mode.first (t:SetTable):Mode->Nat->Value
 | .txt,_=>.int 0 0
 | .slt,0=>.int 0 0
 | .slt,i+1=>.int ((t.place.getD i 0+1:Nat):Int) 0
 | .drw tp _,_=>.ref tp
noncomputable def Mode.ord (w:World) (a:Addr) (es:Array (Int×Value)) (ep:Nat):Mode->List Value
 | .txt=>(pickOrder (w.params.setOrder a ep) es).toList.map (·.2)
 | .slt=>es.toList.map (·.2)
 | .drw _ pl=>pl.filterMap fun p=>(es[p]?).map (·.2)
noncomputable def Mode.ok (w:World) (es:Array (Int×Value)) (t:SetTable):Mode->Heap->Prop
 | .txt,_=>w.params.followText "set-order"=true
 | .slt,_=>w.params.followText "set-order"=false/\(t.plain=true\/es.size<=1)
 | .drw tp pl,h=>w.params.followText "set-order"=false/\pl.Perm (List.range es.size)/\∃ n,h.get? tp=some { cls:=.type "tuple",data:=.seq (pl.map fun (p:Nat)=>rawInt (p:Int)).toArray n }
theorem Mode.perm {w:World}{a:Addr}{es:Array (Int×Value)}{ep:Nat}{t:SetTable}{m:Mode}{h:Heap}(k:m.ok w es t h):List.Perm (m.ord w a es ep) (es.toList.map (·.2)):=by
 cases m with
 | txt=>exact (aP _ _).map _
 | slt=>exact .refl _
 | drw tp pl =>
  obtain ⟨_,hp,_⟩:=k;refine (hp.filterMap _).trans ?_;have:=congrArg (List.map (fun x:Int×Value=>x.2)) (filterMap_getElem?_range es);rw [List.map_filterMap] at this;rw [← this]
noncomputable abbrev vH (f:Value) (i:Nat) (a:Addr) (n ep:Nat):Obj:={ cls:=.type "set_iterator",data:=.fields #[f,.int i 0,.ref a,.int n 0,.int ep 0] }
namespace SI
theorem slot_next:Slot "set_iterator" "__next__" "set_iterator.__next__":=.of (owner := "set_iterator") (n := "__next__") (by rw [typeLookup_type,builtinLookup_eq_fast];kernel_rfl) (by decide +kernel) (by decide +kernel) (by decide +kernel) (by first | exact .inl (by decide +kernel) | exact .inr (by decide +kernel)) (by rw [isSubtype_type];kernel_rfl)
theorem slot_iter:Slot "set_iterator" "__iter__" "set_iterator.__iter__":=.of (owner := "set_iterator") (n := "__iter__") (by rw [typeLookup_type,builtinLookup_eq_fast];kernel_rfl) (by decide +kernel) (by decide +kernel) (by decide +kernel) (by first | exact .inl (by decide +kernel) | exact .inr (by decide +kernel)) (by rw [isSubtype_type];kernel_rfl)
theorem entry_next:entryFor table "set_iterator.__next__"=some Builtin.«set_iterator.__next__»:=entryFor_of_tree (by kernel_rfl)
theorem entry_iter:entryFor table "set_iterator.__iter__"=some Builtin.«dict_keyiterator.__iter__»:=entryFor_alias (id' := "dict_keyiterator.__iter__") (by kernel_rfl) rfl (by decide +kernel) (by kernel_rfl)
theorem entry_siter:entryFor table "set.__iter__"=some Builtin.«frozenset.__iter__»:=entryFor_alias (id' := "frozenset.__iter__") (by kernel_rfl) rfl (by decide +kernel) (by kernel_rfl)
theorem args_next (a:Value):argsOk "set_iterator.__next__" ⟨[a],[]⟩:=by unfold argsOk;kernel_rfl
theorem args_iter (a:Value):argsOk "set_iterator.__iter__" ⟨[a],[]⟩:=by unfold argsOk;kernel_rfl
end SI
section
variable {P:Program}{w:World}{A:Around}{E:Value->Shared->Prop}{s:Shared}{a I:Addr}{o:Obj}{es:Array (Int×Value)}{ep n:Nat}{t:SetTable}{S:Int->Bool}
structure SetSt (w:World) (o:Obj) (es:Array (Int×Value)) (ep:Nat) (t:SetTable) (a I:Addr) (m:Mode) (i:Nat) (h:Heap):Prop where
 it:h.get? I=some (vH (m.first t i) i a es.size ep)
 st:h.get? a=some o
 ok:m.ok w es t h
theorem gH (d:SetB w o es ep t) (h:t.plain=true\/es.size<=1):Jt t.place:=by
 rcases h with h|h
 ·exact d.good.rise h
 ·have e:t.place.size=es.size:=by
   have:=d.fit;simp only [SetTable.fits,Bool.and_eq_true,beq_iff_eq] at this;exact this.1
  unfold Jt
  match q:t.place.toList with
  | []=>exact .nil
  | [x]=>exact List.pairwise_singleton _ _
  | x::y::r =>
   have:=congrArg List.length q;rw [Array.length_toList] at this;simp at this;omega
theorem Uq (d:SetB w o es ep t) {i:Nat}(hi:i < es.size):∃ x,t.place[i]?=some x/\t.place.getD i 0=x:=by
 have e:t.place.size=es.size:=by
  have:=d.fit;simp only [SetTable.fits,Bool.and_eq_true,beq_iff_eq] at this;exact this.1
 have hi':i < t.place.size:=by rw [e];exact hi
 exact ⟨t.place[i],Array.getElem?_eq_getElem hi',by simp [Array.getD,hi']⟩
theorem Qn (d:SetB w o es ep t) (h:t.plain=true\/es.size<=1) {i:Nat}(hi:i<=es.size):∃ v:Nat,Mode.first t .slt i=.int (v:Int) 0/\SetTable.below t.place v=i:=by
 have R:=gH d h;cases i with
 | zero=>exact ⟨0,rfl,Xc R⟩
 | succ i =>
  obtain ⟨x,h1,h2⟩:=Uq d hi;exact ⟨x+1,by show Value.int ((t.place.getD i 0+1:Nat):Int) 0=_;rw [h2],Xd R h1⟩
theorem Ur {Q:Option (Value×Nat)->Shared->Prop}{sl i:Nat}(d:SetB w o es ep t) (e:s.heap.get? a=some o) (hb:w.params.followText "set-order"=true) (h:Q ((Mode.ord w a es ep .txt)[i]?.map fun v=>(v,sl)) s) :
  wpAny (model P w) A (setNext a sl i ep) Q E s:=by
 unfold setNext;refine wpAny_bind (wpAny_setState_of e d.dt d.fit ?_);dsimp only;refine wpAny_bind (m:=setsByText) (wpAny_bind (wpAny_askSetting (wpAny_pure ?_)))
 have hb:(model P w).w.params.followText "set-order"=true:=hb
 simp only [hb,if_true,bne_self_eq_false,Bool.false_eq_true,if_false];refine wpAny_bind (m:=setWalk a) ?_;unfold setWalk;refine wpAny_bind (wpAny_setState_of e d.dt d.fit ?_);dsimp only;refine wpAny_bind (m:=setsByText) (wpAny_bind (wpAny_askSetting (wpAny_pure ?_)));simp only [hb,if_true];refine wpAny_bind (wpAny_askSetting (wpAny_pure (wpAny_pure ?_)));have q:((pickOrder (w.params.setOrder a ep) es)[i]?).map (fun e=>(e.2,sl))=(Mode.ord w a es ep .txt)[i]?.map fun v=>(v,sl):=by
  unfold Mode.ord;rw [List.getElem?_map,Array.getElem?_toList];cases (pickOrder (w.params.setOrder a ep) es)[i]? <;> rfl
 rw [← q] at h;exact h
theorem Us {Q:Option (Value×Nat)->Shared->Prop}{v g i:Nat}(d:SetB w o es ep t) (e:s.heap.get? a=some o) (hb:w.params.followText "set-order"=false) (hp:t.plain=true\/es.size<=1) (hv:SetTable.below t.place v=i)
  (h:Q (match es[i]?,t.place[i]? with | some (_,x),some j=>some (x,j+1) | _,_=>none) s):wpAny (model P w) A (setNext a v g ep) Q E s:=by
 unfold setNext;refine wpAny_bind (wpAny_setState_of e d.dt d.fit ?_);dsimp only;refine wpAny_bind (m:=setsByText) (wpAny_bind (wpAny_askSetting (wpAny_pure ?_)))
 have hb':(model P w).w.params.followText "set-order"=false:=hb
 simp only [hb',Bool.false_eq_true,if_false];split
 ·rename_i hd;exfalso;have hd:(!t.plain&&decide (es.size > 1))=true:=hd;rw [Bool.and_eq_true,decide_eq_true_iff] at hd;rcases hp with hp|hp
  ·rw [hp] at hd;exact absurd hd.1 (by decide)
  ·omega
 ·have hl:t.led=true:=by rw [d.good.led,hb];rfl
  refine wpAny_bind (m:=if (!t.led&&!es.isEmpty)=true then (unsupported "set:maker-not-led":Sem Unit) else pure ()) ?_;rw [hl];refine wpAny_pure ?_;rw [hv];exact wpAny_pure h
theorem zW {α β:Type}(l:List α) (f:α->Option β) (g:α->β) (h:∀ x∈l,f x=some (g x)):l.filterMap f=l.map g:=by
 induction l with
 | nil=>rfl
 | cons x r ih=>rw [List.filterMap_cons_some (h x (.head _)),List.map_cons,ih fun y hy=>h y (.tail _ hy)]
theorem rR {m:Mode}{i:Nat}{x:Value}{Q:Option Value->Shared->Prop}(d:SetB w o es ep t) (T:SetSt w o es ep t a I m i s.heap) (hx:(m.ord w a es ep)[i]?=some x) (hi:i < es.size) (hne:I≠a) (hT:∀ tp pl,m=.drw tp pl->I≠tp)
  (h:∀ h',SetSt w o es ep t a I m (i+1) h'->Heap.SameBut I s.heap h'->Q (some x) { s with heap:=h' }):wpAny (model P w) A (pyNext (.ref I)) Q E s:=by
 have tp:s.TypeIs (.ref I) "set_iterator":=⟨_,T.it,rfl⟩
 unfold pyNext
 refine wpAny_bind (wpAny_attempt (wpAny_callSpecial?_slot (name:=Str.ofString "__next__") tp SI.slot_next (wpAny_call_entry SI.slot_next tp SI.entry_next ?_ (SI.args_next _))));show wpAny _ _ (fieldsOf (.ref I) >>= _) _ _ s;refine wpAny_bind (wpAny_fieldsOf T.it rfl ?_);show wpAny _ _ (setEntries a >>= _) _ _ s;refine wpAny_bind (wpAny_setEntries_of T.st d.dt d.fit ?_);rw [if_neg (by simp)];have fin:∀ (f:Value) (h':Heap),h'.get? I=some (vH f (i+1) a es.size ep)->f=m.first t (i+1)->Heap.SameBut I s.heap h'->Q (some x) { s with heap:=h' }:=fun f h' e1 e2 sb=>by
  subst e2;refine h h' ⟨e1,by rw [sb.2 a (Ne.symm hne)];exact T.st,?_⟩ sb;have k:=T.ok;cases m with
  | txt=>exact k
  | slt=>exact k
  | drw tp pl =>
   obtain ⟨k1,k2,k3,k4⟩:=k;exact ⟨k1,k2,k3,by rw [sb.2 tp (Ne.symm (hT tp pl rfl))];exact k4⟩
 cases m with
 | txt =>
  show wpAny _ _ (setNext a 0 (Int.toNat i) (Int.toNat ep) >>= _) _ _ s;refine wpAny_bind ?_;rw [Int.toNat_natCast,Int.toNat_natCast];refine Ur d T.st T.ok ?_;rw [hx];show wpAny _ _ (setField (.ref I) 0 (rawInt 0) >>= _) _ _ s;refine wpAny_bind (wpAny_setField_rec T.it (by simp) fun h1 e1 sb1=>?_);refine wpAny_bind (m:=setField (.ref I) 1 (rawInt (i+1))) (wpAny_setField_rec e1 (by simp) fun h2 e2 sb2=>?_);exact wpAny_pure ⟨x,rfl,wpAny_pure (fin _ h2 e2 rfl (sb1.trans sb2))⟩
 | slt =>
  obtain ⟨v,hv,hw⟩:=Qn d T.ok.2 (Nat.le_of_lt hi);rw [hv];show wpAny _ _ (setNext a (Int.toNat v) (Int.toNat i) (Int.toNat ep) >>= _) _ _ s;refine wpAny_bind ?_;rw [Int.toNat_natCast,Int.toNat_natCast,Int.toNat_natCast];refine Us d T.st T.ok.1 T.ok.2 hw ?_;obtain ⟨y,hy,hy'⟩:=Uq d hi;have hx':(es.toList.map (·.2))[i]?=some x:=hx;rw [List.getElem?_map,Array.getElem?_toList,Array.getElem?_eq_getElem hi] at hx';cases hx';rw [Array.getElem?_eq_getElem hi,hy];have T':=T.it;rw [hv] at T';show wpAny _ _ (setField (.ref I) 0 (rawInt ((y+1:Nat):Int)) >>= _) _ _ s;refine wpAny_bind (wpAny_setField_rec T' (by simp) fun h1 e1 sb1=>?_);refine wpAny_bind (m:=setField (.ref I) 1 (rawInt (i+1))) (wpAny_setField_rec e1 (by simp) fun h2 e2 sb2=>?_);refine wpAny_pure ⟨_,rfl,wpAny_pure (fin _ h2 e2 ?_ (sb1.trans sb2))⟩;show rawInt _=Value.int _ 0;rw [hy'];rfl
 | drw tp pl =>
  obtain ⟨k1,k2,k3,k4⟩:=T.ok;show wpAny _ _ (seqItems? (.ref tp) >>= _) _ _ s;refine wpAny_bind (wpAny_seqItems k4 rfl ?_);dsimp only;rw [Int.toNat_natCast];have hl:pl.length=es.size:=by rw [k2.length_eq,List.length_range]
  have hil:i < pl.length:=by rw [hl];exact hi
  have hp:pl[i] < es.size:=List.mem_range.mp (k2.mem_iff.mp (List.getElem_mem hil));have hmap:(pl.map fun (p:Nat)=>rawInt (p:Int)).toArray[i]?=some (rawInt ((pl[i]:Nat):Int)):=by
   rw [List.getElem?_toArray,List.getElem?_map,List.getElem?_eq_getElem hil];rfl
  rw [hmap];show wpAny _ _ (setNextDrawn a (Int.toNat ((pl[i]:Nat):Int)) (Int.toNat ep) >>= _) _ _ s;refine wpAny_bind ?_;rw [Int.toNat_natCast,Int.toNat_natCast];unfold setNextDrawn;refine wpAny_bind (wpAny_setState_of T.st d.dt d.fit ?_);simp only [bne_self_eq_false,Bool.false_eq_true,if_false];rw [Array.getElem?_eq_getElem hp];refine wpAny_pure ?_;have all:∀ p∈pl,((es[p]?).map fun e:Int×Value=>e.2)=some ((es[p]?.map (·.2)).getD .none):=fun p hp=>by
   have:p < es.size:=List.mem_range.mp (k2.mem_iff.mp hp);rw [Array.getElem?_eq_getElem this];rfl
  have ho:Mode.ord w a es ep (.drw tp pl)=pl.map fun p=>(es[p]?.map (·.2)).getD .none:=by
   exact zW pl _ _ all
  rw [ho,List.getElem?_map,List.getElem?_eq_getElem hil] at hx;simp only [Option.map_some,Array.getElem?_eq_getElem hp,Option.getD_some,Option.some.injEq] at hx;subst hx;refine wpAny_bind (m:=setField (.ref I) 1 (rawInt (i+1))) (wpAny_setField_rec T.it (by simp) fun h1 e1 sb1=>?_);exact wpAny_pure ⟨_,rfl,wpAny_pure (fin _ h1 e1 rfl sb1)⟩
theorem Ry {h:Heap}{Q:Option Value->Shared->Prop}(hh:A.handled=none) (hs:∀ h',Heap.ExtBut I s.heap h'->Q none { s with heap:=h' }) (e:Heap.ExtBut I s.heap h) :
  wpAny (model P w) A.in1 (newExc (.type "StopIteration") [] >>= fun x=>(raiseNew x:Sem Fin)) (fun _ _=>False) (fun e s'=>wpAny (model P w) A (isInstance e (.type "StopIteration") >>= fun b=>if b=true then pure none else throw e) Q E s') { s with heap:=h }:=by
 refine wpAny_bind ?_;simp only [newExc,newTuple];refine wpAny_bind (wpAny_newObj_type ?_ (by size_fits));refine wpAny_bind (m:=firstArgMember _ _) (wpAny_of_eq (a:=Value.none) (by first | rfl | (simp only [firstArgMember];rfl)) (wpAny_newObj_type ?_ (by size_fits)));simp only [raiseNew];refine wpAny_bind (wpAny_handled ?_);rw [show A.in1.handled=none from hh];refine wpAny_bind (wpAny_pure (wpAny_throw ?_))
 refine wpAny_bind (wpAny_isInstance (T := "StopIteration") (b:=true) ⟨_,Heap.get?_push_size _ rfl,rfl⟩ isSubtype_stop (wpAny_pure ?_));exact hs _ ((e.push _).push _)
theorem rT {m:Mode}{Q:Option Value->Shared->Prop}(hh:A.handled=none) (d:SetB w o es ep t) (T:SetSt w o es ep t a I m es.size s.heap)
  (h:∀ h',Heap.ExtBut I s.heap h'->Q none { s with heap:=h' }):wpAny (model P w) A (pyNext (.ref I)) Q E s:=by
 have tp:s.TypeIs (.ref I) "set_iterator":=⟨_,T.it,rfl⟩
 unfold pyNext
 refine wpAny_bind (wpAny_attempt (wpAny_callSpecial?_slot (name:=Str.ofString "__next__") tp SI.slot_next (wpAny_call_entry SI.slot_next tp SI.entry_next ?_ (SI.args_next _))));show wpAny _ _ (fieldsOf (.ref I) >>= _) _ _ s;refine wpAny_bind (wpAny_fieldsOf T.it rfl ?_);show wpAny _ _ (setEntries a >>= _) _ _ s;refine wpAny_bind (wpAny_setEntries_of T.st d.dt d.fit ?_);rw [if_neg (by simp)];have len:(m.ord w a es ep)[es.size]?=none:=by
  rw [List.getElem?_eq_none_iff];have:=(Mode.perm (a:=a) (ep:=ep) T.ok).length_eq;rw [this];simp
 cases m with
 | txt =>
  show wpAny _ _ (setNext a 0 (Int.toNat es.size) (Int.toNat ep) >>= _) _ _ s;refine wpAny_bind ?_;rw [Int.toNat_natCast,Int.toNat_natCast];refine Ur d T.st T.ok ?_;rw [len];show wpAny _ _ (setField (.ref I) 2 .none >>= _) _ _ s;refine wpAny_bind (wpAny_setField_rec T.it (by simp) fun h1 e1 sb1=>?_);exact wpAny_mono (Ry (s:=s) hh h sb1.extBut) (fun _ _ z=>z.elim) fun _ _ z=>z
 | slt =>
  obtain ⟨v,hv,hw⟩:=Qn d T.ok.2 (Nat.le_refl _);rw [hv];show wpAny _ _ (setNext a (Int.toNat v) (Int.toNat es.size) (Int.toNat ep) >>= _) _ _ s;refine wpAny_bind ?_;rw [Int.toNat_natCast,Int.toNat_natCast,Int.toNat_natCast];refine Us d T.st T.ok.1 T.ok.2 hw ?_;rw [Array.getElem?_eq_none (Nat.le_refl _)];show wpAny _ _ (setField (.ref I) 2 .none >>= _) _ _ s;refine wpAny_bind (wpAny_setField_rec T.it (by simp) fun h1 e1 sb1=>?_);exact wpAny_mono (Ry (s:=s) hh h sb1.extBut) (fun _ _ z=>z.elim) fun _ _ z=>z
 | drw tp pl =>
  obtain ⟨k1,k2,k3,k4⟩:=T.ok;show wpAny _ _ (seqItems? (.ref tp) >>= _) _ _ s;refine wpAny_bind (wpAny_seqItems k4 rfl ?_);dsimp only;rw [Int.toNat_natCast];have hl:pl.length=es.size:=by rw [k2.length_eq,List.length_range]
  rw [Array.getElem?_eq_none (by simp [hl])];show wpAny _ _ (setField (.ref I) 0 (rawInt 0) >>= _) _ _ s;refine wpAny_bind (wpAny_setField_rec T.it (by simp) fun h1 e1 sb1=>?_);refine wpAny_bind (m:=setField (.ref I) 2 .none) (wpAny_setField_rec e1 (by simp) fun h2 e2 sb2=>?_);exact wpAny_mono (Ry (s:=s) hh h (sb1.trans sb2).extBut) (fun _ _ z=>z.elim) fun _ _ z=>z
end
section
variable {P:Program}{w:World}{A:Around}{E:Value->Shared->Prop}{s:Shared}{a I:Addr}{o:Obj}{es:Array (Int×Value)}{ep n:Nat}{t:SetTable}{S:Int->Bool}
noncomputable def Mode.fp:Mode->List Addr
 | .drw tp _=>[tp]
 | _=>[]
theorem aQ (hh:A.handled=none) (d:SetB w o es ep t) (m:Mode) (hne:I≠a) (hT:∀ tp pl,m=.drw tp pl->I≠tp):Walks P w A I (I::a::m.fp) [I] es.size (fun i v=>(m.ord w a es ep)[i]?=some v) (fun i h=>SetSt w o es ep t a I m i h) where
 sub:=fun b hb=>by
  rw [List.mem_singleton] at hb;subst hb;exact .head _
 frame:=fun i h h' T k=>⟨k I (.head _) _ T.it,k a (.tail _ (.head _)) _ T.st,by
  have q:=T.ok;cases m with
  | txt=>exact q
  | slt=>exact q
  | drw tp pl =>
   obtain ⟨k1,k2,k3,k4⟩:=q
   exact ⟨k1,k2,k3,k tp (.tail _ (.tail _ (.head _))) _ k4⟩⟩
 item:=fun i s Q E hi T hQ=>by
  have hl:(m.ord w a es ep).length=es.size:=by rw [(Mode.perm T.ok).length_eq];simp
  have hx:(m.ord w a es ep)[i]?=some (m.ord w a es ep)[i]:=List.getElem?_eq_getElem (by rw [hl];exact hi);exact rR d T hx hi hne hT fun h' T' sb=>hQ _ h' s.toks hx T' fun b ob hb q=>by
   rw [sb.2 b (by simpa using hb)];exact q
 done:=fun s Q E T hQ=>rT hh d T fun h' x=>hQ h' s.toks fun b ob hb q=>x b ob (by simpa using hb) q
 self:=fun i s Q E T hQ=>by
  have tp:s.TypeIs (.ref I) "set_iterator":=⟨_,T.it,rfl⟩
  refine wpAny_pyIter_slot tp SI.slot_iter (wpAny_call_entry SI.slot_iter tp SI.entry_iter ?_ (SI.args_iter _));show wpAny _ _ (ret (.ref I)) _ _ s
  exact wpAny_pure ⟨_,rfl, "set_iterator",_,tp,SI.slot_next.lookup,hQ⟩
theorem gJ {Q:Value->Shared->Prop}(d:SetB w o es ep t) (e:s.heap.get? a=some o) (hlt:a < s.heap.objs.size)
  (h:∀ I m h' dr,SetSt w o es ep t a I m 0 h'->I≠a->(∀ tp pl,m=.drw tp pl->I≠tp)->(∀ b ob,s.heap.get? b=some ob->h'.get? b=some ob)->s.heap.objs.size<=I->(∀ b∈I::a::m.fp,b < h'.objs.size)->(∀ b∈m.fp,s.heap.objs.size<=b)->Q (.ref I) { s with heap:=h',drawn:=dr }) :
  wpAny (model P w) A (pyIter (.ref a)) Q E s:=by
 have tp:s.TypeIs (.ref a) "set":=⟨o,e,d.ex.1⟩
 refine wpAny_pyIter_slot tp F.slot_set_iter (wpAny_call_entry F.slot_set_iter tp SI.entry_siter ?_ (F.args_set_iter_1 _));unfold Builtin.«frozenset.__iter__»
 refine wpAny_bind (m:=Builtin.Frozenset.slot0 "__iter__" _) (wpAny_of_eq (a:=a) (by rfl) ?_);refine wpAny_bind (m:=Builtin.Frozenset.sizeOf a) (wpAny_bind (wpAny_setEntries_of e d.dt d.fit (wpAny_pure ?_)));refine wpAny_bind (m:=setDrawn a) (wpAny_bind (wpAny_setState_of e d.dt d.fit ?_));dsimp only;refine wpAny_bind (m:=setsByText) (wpAny_bind (wpAny_askSetting (wpAny_pure (wpAny_pure ?_))));have last:∀ (f:Value) (m:Mode) (h1:Heap) (dr:_),h1.get? a=some o->f=m.first t 0->(∀ hx,(∀ b ob,h1.get? b=some ob->hx.get? b=some ob)->m.ok w es t hx)->(∀ b ob,s.heap.get? b=some ob->h1.get? b=some ob)->(∀ b∈m.fp,b < h1.objs.size/\s.heap.objs.size<=b)->s.heap.objs.size<=h1.objs.size->a < h1.objs.size ->
   wpAny (model P w) A.in1 (setEpoch a >>= fun k=>newFields "set_iterator" [f,rawInt 0,.ref a,rawInt es.size,rawInt k] >>= fun v=>ret v) (fun f s'=>∃ v,f=.done (.ret v)/\∃ T' r,s'.TypeIs v T'/\typeLookup (.type T') "__next__"=pure (some r)/\Q v s') (fun e s'=>E e s') { s with heap:=h1,drawn:=dr }:=fun f m h1 dr e1 ef ok keep hf hsz ha=>by
  refine wpAny_bind (wpAny_setEpoch_of (s:={ s with heap:=h1,drawn:=dr }) e1 d.dt d.fit ?_)
  refine wpAny_bind (wpAny_newObj_type (wpAny_pure ⟨_,rfl, "set_iterator",_,⟨_,Heap.get?_push_size _ rfl,rfl⟩,SI.slot_next.lookup,?_⟩));subst ef;refine h _ m _ dr ⟨Heap.get?_push_size _ rfl,Heap.get?_push_of_some _ e1,ok _ fun b ob q=>Heap.get?_push_of_some _ q⟩ (Nat.ne_of_gt ha) (fun tp pl em=>?_) (fun b ob q=>Heap.get?_push_of_some _ (keep b ob q)) hsz (fun b hb=>?_) fun b hb=>(hf b hb).2
  ·subst em;exact Nat.ne_of_gt (hf tp (.head _)).1
  ·show b < (h1.push _).objs.size;rw [Heap.size_push];rcases List.mem_cons.mp hb with rfl|hb
   ·exact Nat.lt_succ_self _
   ·rcases List.mem_cons.mp hb with rfl|hb
    ·exact Nat.lt_succ_of_lt ha
    ·exact Nat.lt_succ_of_lt (hf b hb).1
 have self:{ s with heap:=s.heap,drawn:=s.drawn }=s:=rfl
 cases hb:w.params.followText "set-order" with
 | true =>
  have hb':(model P w).w.params.followText "set-order"=true:=hb
  rw [hb'];split
  ·rename_i hd;have hd:(!true&&(!t.plain&&decide (es.size > 1)))=true:=hd;cases hd
  ·refine wpAny_bind (wpAny_pure ?_);exact last _ .txt s.heap s.drawn e rfl (fun _ _=>hb) (fun _ _ q=>q) (fun b hb=>by cases hb) (Nat.le_refl _) hlt
 | false =>
  have hb':(model P w).w.params.followText "set-order"=false:=hb
  rw [hb'];split
  ·rename_i hd;have hd:(!false&&(!t.plain&&decide (es.size > 1)))=true:=hd;refine wpAny_bind (Yy es.size _ _ _ List.length_range fun ys dr hp=>?_)
   refine wpAny_bind (m:=newTuple _) (wpAny_newObj_type ?_ (by
    show (ys.map _).toArray.size<=sizeLine;have:=fits_of_scanBound d.few
    simp [hp.length_eq];exact this))
   refine last _ (.drw s.heap.objs.size ys) _ dr (Heap.get?_push_of_some _ e) rfl (fun hx k=>⟨hb,hp,0,k _ _ (Heap.get?_push_size _ rfl)⟩) (fun b ob q=>Heap.get?_push_of_some _ q) (fun b hb=>?_) ?_ ?_
   ·have hb:b∈[s.heap.objs.size]:=hb;rw [List.mem_singleton] at hb;subst hb;rw [Heap.size_push];exact ⟨Nat.lt_succ_self _,Nat.le_refl _⟩
   ·rw [Heap.size_push];exact Nat.le_succ _
   ·rw [Heap.size_push];exact Nat.lt_succ_of_lt hlt
  ·rename_i hd;have hd:¬ (!false&&(!t.plain&&decide (es.size > 1)))=true:=hd;refine wpAny_bind (wpAny_pure ?_);refine last _ .slt s.heap s.drawn e rfl (fun _ _=>⟨hb,?_⟩) (fun _ _ q=>q) (fun b hb=>by cases hb) (Nat.le_refl _) hlt;cases hp:t.plain with
   | true=>exact .inl rfl
   | false =>
    right;rw [hp] at hd
    simpa using hd
theorem Ln {Q:List Value->Shared->Prop}(hh:A.handled=none) (d:SetB w o es ep t) (e:s.heap.get? a=some o)
  (hQ:∀ h' dr tk vs,vs.Perm (es.toList.map (·.2))->(∀ b ob,s.heap.get? b=some ob->h'.get? b=some ob)->s.heap.objs.size<=h'.objs.size->s.toks<=tk->Q vs { s with heap:=h',drawn:=dr,toks:=tk }):wpAny (model P w) A (collect (.ref a)) Q E s:=by
 have la:a < s.heap.objs.size:=Heap.lt_size e;have na:s.heap.objs.size≠a:=Nat.ne_of_gt la;unfold collect;refine wpAny_bind (wpAny_runValue (codeAny_builtin F.entry_proto_collect ?_));rw [Around.under_plainId F.plain_proto_collect _];refine wpAny_bind (m:=newList []) (wpAny_newObj_type (wpAny_pure ⟨plainId_quiet F.plain_list_iadd _,codeAny_builtin F.entry_list_iadd ?_⟩));rw [Around.under_plainId F.plain_list_iadd _];show wpAny _ A.in1 (Builtin.List.listExtendWith (.ref s.heap.objs.size) (.ref a) (.ref s.heap.objs.size)) _ _ _;unfold Builtin.List.listExtendWith
 have e1:(s.heap.push { cls:=.type "list",data:=.seq ([]:List Value).toArray }).get? a=some o:=Heap.get?_push_of_some _ e
 have tp:Shared.TypeIs { s with heap:=s.heap.push { cls:=.type "list",data:=.seq ([]:List Value).toArray } } (.ref a) "set":=⟨o,e1,d.ex.1⟩
 refine wpAny_bind (wpAny_typeOf tp ?_);have h1:Builtin.List.listSameRef (.ref s.heap.objs.size) (.ref a)=false:=by simp [Builtin.List.listSameRef,na]
 have h2:(Value.type "set"==Value.type "list")=false:=by decide
 have h3:(Value.type "set"==Value.type "tuple")=false:=by decide
 simp only [h1,h2,h3,Bool.or_false,Bool.false_eq_true,if_false];refine wpAny_bind (gJ d e1 (by show a < (s.heap.push _).objs.size;rw [Heap.size_push];exact Nat.lt_succ_of_lt la) fun I m h' dr T ne neT keep hI hfp hfn=>?_)
 have tp':Shared.TypeIs { s with heap:=h',drawn:=dr } (.ref a) "set":=⟨o,T.st,d.ex.1⟩
 refine wpAny_bind (wpAny_holding ?_);unfold Builtin.List.listLengthHint;refine wpAny_bind (wpAny_specialOf tp' F.slot_set_len.lookup ?_)
 have hsp:splitId "set.__len__"=some ("set", "__len__"):=by decide +kernel
 generalize hid:("set.__len__":String)=id0 at hsp ⊢;dsimp only;rw [hsp];subst hid;dsimp only;refine wpAny_bind (wpAny_isInstance (b:=true) tp' sub_set_self ?_);rw [if_neg (by decide)];rw [if_pos (by decide +kernel)];refine wpAny_bind (wpAny_typeOf tp' ?_);refine wpAny_pure ?_;rw [if_pos (by decide +kernel)];refine wpAny_bind (wpAny_rule ?_)
 have hS:h'.get? s.heap.objs.size=some { cls:=.type "list",data:=.seq ([]:List Value).toArray }:=keep _ _ (Heap.get?_push_size _ rfl);refine wpAny_bind (m:=updateSeq s.heap.objs.size (·.push .none) >>= fun _=>updateSeq s.heap.objs.size (·.pop)) (wpAny_bind (wpAny_updateSeq hS rfl ?_));have hS2:=Heap.get?_update_self (Obj.mapSeq (·.push Value.none)) hS rfl;refine wpAny_updateSeq hS2 rfl ?_;have hS3:=Heap.get?_update_self (Obj.mapSeq (·.pop)) hS2 rfl;have oth:∀ b ob,b≠s.heap.objs.size->h'.get? b=some ob->((h'.update s.heap.objs.size (Obj.mapSeq (·.push Value.none))).update s.heap.objs.size (Obj.mapSeq (·.pop))).get? b=some ob:=fun b ob nb q=>(Heap.get?_update_other _ _ (Ne.symm nb)).trans ((Heap.get?_update_other _ _ (Ne.symm nb)).trans q)
 have W:=aQ (P:=P) (A:=A.in1) (I:=I) (by simp [hh]) d m ne neT
 have sz1:(s.heap.push { cls:=.type "list",data:=.seq ([]:List Value).toArray }).objs.size=s.heap.objs.size+1:=Heap.size_push ..;have nf:s.heap.objs.size ∉ I::a::m.fp:=fun z=>by
  rcases List.mem_cons.mp z with z|z
  ·have hI:s.heap.objs.size+1<=I:=by rw [← sz1];exact hI
   rw [← z] at hI;exact Nat.not_succ_le_self _ hI
  ·rcases List.mem_cons.mp z with z|z
   ·exact na z
   ·have:=hfn _ z;have:s.heap.objs.size+1<=s.heap.objs.size:=by rw [← sz1];exact this
    exact Nat.not_succ_le_self _ this
 obtain ⟨c0,hS4⟩:∃ c,((h'.update s.heap.objs.size (Obj.mapSeq (·.push Value.none))).update s.heap.objs.size (Obj.mapSeq (·.pop))).get? s.heap.objs.size=some { cls:=.type "list",dict:=none,data:=.seq #[] c,slots:=#[] }:=⟨_,hS3⟩;have T3:SetSt w o es ep t a I m 0 ((h'.update s.heap.objs.size (Obj.mapSeq (·.push Value.none))).update s.heap.objs.size (Obj.mapSeq (·.pop))):=W.frame 0 _ _ T fun b hb ob q=>oth b ob (fun z=>nf (by rw [← z];exact hb)) q
 refine wpAny_pure ⟨plainId_quiet F.plain_extend_loop _,codeAny_extend_loopS W.toS (fits_of_scanBound d.few) _ nf _ es.size 0 _ _ _ rfl (Nat.zero_le _) T3 hS4 (ItemsOf.nil _) fun s' acc c mv hA hI'=>?_⟩;refine wpAny_bind (m:=load s.heap.objs.size) (wpAny_load hA ?_);obtain ⟨h2,g2,d2,tk2,os2⟩:=s';have q1:g2=s.gens:=mv.gens;have q2:d2=dr:=mv.drawn;have q3:os2=s.os:=mv.os;have q4:s.toks<=tk2:=mv.toks;subst q1;subst q2;subst q3;have hl:(m.ord w a es ep).length=es.size:=by rw [(Mode.perm T.ok).length_eq];simp
 have same:acc.toList=m.ord w a es ep:=by
  refine List.ext_getElem? fun i=>?_
  rw [Array.getElem?_toList]
  by_cases hi:i < es.size
  ·have:i < acc.size:=by rw [hI'.1];exact hi
   rw [Array.getElem?_eq_getElem this];exact (hI'.2 i _ (Array.getElem?_eq_getElem this)).symm
  ·rw [Array.getElem?_eq_none (by rw [hI'.1];omega),List.getElem?_eq_none (by rw [hl];omega)]
 refine wpAny_pure (hQ h2 d2 tk2 acc.toList (by rw [same];exact Mode.perm T.ok) (fun b ob q=>?_) (Nat.le_of_lt (Heap.lt_size hA)) q4);have lb:b < s.heap.objs.size:=Heap.lt_size q;refine mv.heap b ob ?_ (oth b ob (Nat.ne_of_lt lb) (keep b ob (Heap.get?_push_of_some _ q)));intro z;rcases List.mem_cons.mp z with z|z
 ·exact absurd z (Nat.ne_of_lt lb)
 ·rw [List.mem_singleton] at z;have hI:s.heap.objs.size+1<=I:=by rw [← sz1];exact hI
  rw [← z] at hI;exact absurd (Nat.lt_of_lt_of_le lb (Nat.le_of_succ_le hI)) (Nat.lt_irrefl _)
end
theorem Lp:∀ {l l':List Int},l.Nodup->(∀ x∈l,x∈l')->l'.length<=l.length->l.Perm l'
 | [],l',_,_,h=>by
  have:l'=[]:=List.length_eq_zero_iff.mp (Nat.le_zero.mp h);rw [this]
 | a::r,l',nd,sub,h=>by
  obtain ⟨na,nr⟩:=List.nodup_cons.mp nd;have ha:=sub a (.head _);refine .trans (.cons a ?_) (List.perm_cons_erase ha).symm;refine Lp nr (fun x hx=>(List.mem_erase_of_ne (fun e=>na (by rw [← e];exact hx))).mpr (sub x (.tail _ hx))) ?_;have:=List.length_erase_of_mem ha;simp at h;omega
theorem rW (val:Nat->Int) (i:Nat) (k:Int):k∈firstMet val i ↔ k∈(List.range i).map val:=by
 have h:=firstMet_any val i k;have q:∀ l:List Int,l.any (·==k)=true ↔ k∈l:=fun l=>by simp
 rw [← q,← q,h]
theorem K5 (val:Nat->Int):∀ i,(firstMet val i).Nodup
 | 0=>.nil
 | i+1=>by
  rw [firstMet_succ];unfold step_dedup;split
  ·exact K5 val i
  ·rename_i h;rw [List.nodup_append];refine ⟨K5 val i,List.pairwise_singleton _ _,fun a ha b hb e=>h ?_⟩;rw [List.mem_singleton] at hb;subst hb;subst e;simp [ha]
theorem aR {ns:List Int}{k:Int}:k∈Dh ns ↔ k∈ns:=by
 unfold Dh;rw [rW];constructor
 ·intro h;obtain ⟨i,hi,rfl⟩:=List.mem_map.mp h;rw [List.mem_range] at hi;rw [List.getD_eq_getElem?_getD,List.getElem?_eq_getElem hi];exact List.getElem_mem hi
 ·intro h;obtain ⟨i,hi,rfl⟩:=List.getElem_of_mem h;refine List.mem_map.mpr ⟨i,List.mem_range.mpr hi,?_⟩;rw [List.getD_eq_getElem?_getD,List.getElem?_eq_getElem hi];rfl
theorem Ut (ns:List Int):(Dh ns).Nodup:=K5 _ _
noncomputable def Hr (ns:List Int):List Int:=(Dh ns).mergeSort fun a b=>decide (a<=b)
theorem Fo (ns:List Int):(Hr ns).Perm (Dh ns):=List.mergeSort_perm _ _
theorem gK (ns:List Int):(Hr ns).Pairwise (·<=·):=by
 have:=List.pairwise_mergeSort (le:=fun a b:Int=>decide (a<=b)) (fun a b c h1 h2=>by simp at *;omega) (fun a b=>by simp;omega) (Dh ns);exact this.imp fun h=>of_decide_eq_true h
theorem Uu {l l':List Int}(p:l.Perm l') (h:l.Pairwise (·<=·)) (h':l'.Pairwise (·<=·)):l=l':=p.eq_of_pairwise (le:=(·<=·)) (fun a b _ _ x y=>Int.le_antisymm x y) h h'
theorem gM {ns l:List Int}(p:l.Perm (Dh ns)) (h:l.Pairwise (·<=·)):l=Hr ns:=Uu (p.trans (Fo ns).symm) h (gK ns)
theorem ints_map {P:Program}{w:World}:∀ {l:List (Int×Value)},ElemsOf (intKind P w) l->∃ ks,IntsAre (l.map (·.2)) ks
 | [],_=>⟨[],.nil⟩
 | e::r,h=>by
  obtain ⟨ks,hk⟩:=ints_map h.tail;obtain ⟨⟨k,h1,_⟩,_⟩:=h.head;obtain ⟨t,h2⟩:=Value.isInt_shape h1;exact ⟨k::ks,by rw [List.map_cons,h2];exact .cons k t hk⟩
theorem Uv:∀ {vs:List Value}{ks:List Int},IntsAre vs ks->∀ k,k∈ks ↔ ∃ v∈vs,Value.isInt k v=true
 | _,_,.nil,k=>by simp
 | _,_,.cons n t h,k=>by
  rw [List.mem_cons,Uv h k];constructor
  ·rintro (rfl | ⟨v,hv,q⟩)
   ·exact ⟨_,.head _,by simp [Value.isInt]⟩
   ·exact ⟨v,.tail _ hv,q⟩
  ·rintro ⟨v,hv,q⟩;rcases List.mem_cons.mp hv with rfl|hv
   ·left;simp [Value.isInt] at q;first | exact q | exact q.symm
   ·right;exact ⟨v,hv,q⟩
theorem aU {vs us:List Value}(p:vs.Perm us):∀ {ks:List Int},IntsAre us ks->∃ ks',IntsAre vs ks'/\ks'.Perm ks:=by
 induction p with
 | nil=>exact fun h=>⟨_,h,.refl _⟩
 | cons x p ih =>
  intro ks h;cases h with
  | cons n t h=>obtain ⟨ks',h1,h2⟩:=ih h;exact ⟨n::ks',.cons n t h1,h2.cons n⟩
 | swap x y l =>
  intro ks h;cases h with
  | cons n t h =>
   cases h with
   | cons m u h=>exact ⟨m::n::_,.cons m u (.cons n t h),.swap _ _ _⟩
 | trans p q ih1 ih2 =>
  intro ks h;obtain ⟨k1,a1,a2⟩:=ih2 h;obtain ⟨k2,b1,b2⟩:=ih1 a1;exact ⟨k2,b1,b2.trans a2⟩
theorem Ez:∀ {us:List Value}{ns:List Int},IntsAre us ns->Vals (ns.map V.int) us
 | _,_,.nil=>.nil
 | _,_,.cons n t h=>.cons ⟨t,rfl⟩ (Ez h)
noncomputable abbrev gO (ns:List Int):Int->Bool:=fun j=>(Dh ns).any (·==j)
theorem gQ {P:Program}{w:World}{o:Obj}{es:Array (Int×Value)}{ep:Nat}{t:SetTable}{ns:List Int}(d:SetD P w o es ep t (gO ns) (Dh ns).length):∃ ks,IntsAre (es.toList.map (·.2)) ks/\ks.Perm (Dh ns):=by
 obtain ⟨ks,hk⟩:=ints_map d.el;refine ⟨ks,hk,(Lp (Ut ns) (fun k hk'=>?_) ?_).symm⟩
 ·obtain ⟨e,he,q⟩:=(d.mem k).mp (by simp [gO,hk']);exact (Uv hk k).mpr ⟨e.2,List.mem_map.mpr ⟨e,he,rfl⟩,q⟩
 ·have:=hk.length;rw [List.length_map,Array.length_toList,d.sz] at this;omega
section
variable {X:Cx}
theorem Qo {pins:List (Addr×Obj)}{σ:L2.St}{H:Hp}{s:Shared}(I:Inv X pins σ H s) (d:_):Inv X pins σ H { s with drawn:=d }:=⟨I.ok,I.os,I.bare,I.base,I.loc,I.cell,I.free,I.freeC,I.pin,I.hok,I.len⟩
noncomputable def rY (P:Program) (w:World) (a:Addr) (ns:List Int):HO:=.ext fun h=>G8 P w h a (gO ns) (Dh ns).length
theorem rZ {P:Program}{w:World}{H:Hp}{h:Heap}{a:Addr}{ns:List Int}(g:G8 P w h a (gO ns) (Dh ns).length):Cw P w H h a (rY P w a ns) :=
 ⟨g,let ⟨o,_,_,_,e,_⟩:=g;⟨o,e⟩,fun h1 h2 g k=>g.stay k⟩
theorem sE {P:Program}{w:World}{H:Hp}{h:Heap}{a:Addr}{ns:List Int}(k:HOk P w H h) (e:H a=some (rY P w a ns)):G8 P w h a (gO ns) (Dh ns).length:=(k a _ e).1
theorem aV (hc:X.calm=true):Bg X (.type "set") (fun xs H Q=>∃ p ns,xs=[.ref p]/\SqL X.K H p (ns.map V.int)/\ns.length+1 < scanBound/\∀ a,H a=none->Q (.ref a) (upd H a (rY X.prog X.w a ns))):=by
 rintro pins s σ H xs us Q I r ⟨p,ns,e,sq,hb,q⟩;subst e;obtain ⟨u,rfl,rx⟩:=vals1 r;cases rx;obtain ⟨its,rv,pl,hz⟩:=I.list sq;have hi:=intsAre_of rv;refine aO (I.ok.hd hc) pl.isList (by simpa using hi) (by rw [List.size_toArray,hi.length];exact hb) fun h' tk g kp ht=>?_
 exact ⟨.ref s.heap.objs.size,_,I.laid (t':=tk) (fun b o e=>kp b o (Heap.lt_size e) e) (Nat.le_refl _) (rZ g),rfl,q _ (I.hok.fresh (Nat.le_refl _))⟩
theorem Nr (hc:X.calm=true):Bg X (.builtin "sorted") (fun xs H Q=>∃ a ns,xs=[.ref a]/\H a=some (rY X.prog X.w a ns)/\(Dh ns).length < 64/\∀ l,H l=none->Q (.ref l) (upd H l (.lst ((Hr ns).map V.int)))):=by
 rintro pins s σ H xs us Q I r ⟨a,ns,e,hH,h64,q⟩;subst e;obtain ⟨u,rfl,rx⟩:=vals1 r;cases rx;obtain ⟨o,es,ep,t,e,d⟩:=sE I.hok hH;obtain ⟨ks,hk,pk⟩:=gQ d;refine Calls.call_function_entry kind_sorted plain_sorted entry_sorted (args_sorted1 _) ?_;unfold Builtin.«sorted»
 refine wpAny_bind (m:=checkCount "sorted" 1 1 _) (wpAny_pure (wpAny_bind (Ln (by simp [I.ok.hd hc]) d.b e fun h' dr tk vs pv kp len ht=>?_)));obtain ⟨k2,hk2,pk2⟩:=aU pv hk;have lv:vs.length < 64:=by rw [hk2.length,pk2.length_eq,pk.length_eq];exact h64
 refine wpAny_bind (wpAny_newList ?_);refine wpAny_bind (wpAny_holding (wpAny_call_entry slot_list_sort ⟨_,Heap.get?_push_size _ rfl,rfl⟩ entry_list_sort (list_sort_tree (vs:=vs) (ns:=k2) (n:=0) (Heap.get?_push_size _ rfl) hk2 lv fun out ns' a1 a2 a3=>⟨_,rfl,?_⟩) (args_list_sort _)));have es':ns'=Hr ns:=gM ((a2.trans pk2).trans pk) a3;subst es'
 obtain ⟨c,at'⟩:=sortedHeap_at (h:=h'.push (seqObj "list" vs.toArray 0)) (a:=h'.objs.size) (vs:=vs) (n:=0) (out:=out) (Heap.get?_push_size _ rfl);have I2:=Qo I dr;refine wpAny_pure ⟨_,rfl,.ref h'.objs.size,_,I2.laid (t':=tk) (a:=h'.objs.size) (o:=.lst ((Hr ns).map V.int)) (fun b ob q=>?_) len ⟨?_,out.toList,c,?_,?_⟩,rfl,q _ (I.hok.fresh len)⟩
 ·have lb:b < h'.objs.size:=Heap.lt_size (kp b ob q);rw [sortedHeap_old (Nat.ne_of_lt lb) (by rw [size_push'];exact Nat.lt_succ_of_lt lb)];exact Heap.get?_push_of_some _ (kp b ob q)
 ·rw [List.length_map,(Fo ns).length_eq,sizeLine_eq];omega
 ·exact Ez a1
 ·rw [at']
end
section
variable {P:Program}{w:World}{A:Around}{E:Value->Shared->Prop}{s:Shared}{a b:Addr}{o o':Obj}{es es':Array (Int×Value)}{ep n ep' n':Nat}{t t':SetTable}{S S':Int->Bool}
end
noncomputable def Ado (ns ms:List Int):Bool:=ns.all (fun k=>ms.contains k)&&ms.all fun k=>ns.contains k
noncomputable def pth (t:SetTable) (h:Int):Nat->SetTable.Probe
 | 0=>t.probeStart h
 | n+1=>t.advance (pth t h n)
theorem Ek {t:SetTable}(hm:t.mask=7) (h:Int):∀ n,(pth t h n).more=0/\(pth t h n).j=(pth t h n).i/\(pth t h n).i < 8/\(pth t h n).perturb=SetTable.bits h / 32 ^ n/\(pth t h n).dummy=none
 | 0=>by
  have e:∀ i,SetTable.runEnd 7 i=i:=fun i=>by unfold SetTable.runEnd;rw [if_neg (by omega)]
  simp only [pth,SetTable.probeStart,hm,e];exact ⟨Nat.sub_self _,trivial,Nat.mod_lt _ (by decide),by simp,trivial⟩
 | n+1=>by
  have e:∀ i,SetTable.runEnd 7 i=i:=fun i=>by unfold SetTable.runEnd;rw [if_neg (by omega)]
  obtain ⟨a,b,c,d,f⟩:=Ek hm h n;have hz:¬ (pth t h n).more > 0:=by omega
  simp only [pth,SetTable.advance,if_neg hz,SetTable.leap,hm,e];exact ⟨Nat.sub_self _,trivial,Nat.mod_lt _ (by decide),by rw [d,Nat.div_div_eq_div_mul,Nat.pow_succ],f⟩
theorem gU {t:SetTable}(hm:t.mask=7) (h:Int) (n:Nat):(pth t h (n+1)).i=((pth t h n).i * 5+1+(pth t h n).perturb / 32) % 8:=by
 obtain ⟨a,b,c,d,f⟩:=Ek hm h n;have hz:¬ (pth t h n).more > 0:=by omega
 simp only [pth,SetTable.advance,if_neg hz,SetTable.leap,hm]
theorem sG (h:Int):SetTable.bits h < 2 ^ 64:=by
 unfold SetTable.bits;have:=Int.emod_lt_of_pos h (show (0:Int) < 2 ^ 64 by decide);have:=Int.emod_nonneg h (show (2 ^ 64:Int)≠0 by decide);omega
theorem gW {t:SetTable}(hm:t.mask=7) (h:Int) (k:Nat):(pth t h (13+k)).perturb=0:=by
 rw [(Ek hm h _).2.2.2.1];refine Nat.div_eq_of_lt (Nat.lt_of_lt_of_le (sG h) ?_);exact Nat.le_trans (show 2 ^ 64<=32 ^ 13 by decide) (Nat.pow_le_pow_right (by decide) (by omega))
theorem sH {t:SetTable}(hm:t.mask=7) (h:Int) (n0 j:Nat) (hj:j < 8):∃ n,n0<=n/\n < n0+21/\(pth t h n).j=j:=by
 have st:∀ k,(pth t h (13+(n0+(k+1)))).i=((pth t h (13+(n0+k))).i * 5+1) % 8:=fun k=>by
  have e:=gU hm h (13+(n0+k));rw [gW hm h (n0+k)] at e;exact e
 have c:=(Ek hm h (13+n0)).2.2.1;have go:∀ i,i < 8->∀ j,j < 8->∃ k,k < 8/\(Nat.repeat (fun i=>(i * 5+1) % 8) k i)=j:=by decide
 obtain ⟨k,hk,ek⟩:=go _ c j hj;refine ⟨13+(n0+k),by omega,by omega,?_⟩;rw [(Ek hm h _).2.1,← ek]
 clear ek hk
 induction k with
 | zero=>rfl
 | succ k ih=>rw [st k,ih];rfl
noncomputable def Uw (h:Int):Nat->Nat×Nat
 | 0=>(SetTable.bits h % 8,SetTable.bits h)
 | n+1=>(((Uw h n).1 * 5+1+(Uw h n).2 / 32) % 8,(Uw h n).2 / 32)
theorem vI {t:SetTable}(hm:t.mask=7) (h:Int):∀ n,(pth t h n).i=(Uw h n).1/\(pth t h n).perturb=(Uw h n).2
 | 0=>by simp only [pth,Uw,SetTable.probeStart,hm];exact ⟨trivial,trivial⟩
 | n+1=>by
  obtain ⟨a,b⟩:=vI hm h n;have hz:¬ (pth t h n).more > 0:=by have:=(Ek hm h n).1;omega
  simp only [pth,SetTable.advance,if_neg hz,SetTable.leap,hm,Uw,a,b];exact ⟨trivial,trivial⟩
noncomputable def pj (h:Int) (n:Nat):Nat:=(Uw h n).1
theorem Yz {t:SetTable}(hm:t.mask=7) (h:Int) (n:Nat):(pth t h n).j=pj h n:=by rw [(Ek hm h n).2.1];exact (vI hm h n).1
theorem gY (h:Int) (n0 j:Nat) (hj:j < 8):∃ n,n0<=n/\n < n0+21/\pj h n=j:=by
 obtain ⟨n,a,b,c⟩:=sH (t:=SetTable.fresh 0 0 true) rfl h n0 j hj;exact ⟨n,a,b,by rw [← c];exact (Yz rfl h n).symm⟩
theorem Y0 {t:SetTable}(hm:t.mask=7) {ha:Nat->Int}{h:Int}:∀ (d f n:Nat),d < f->(∀ k,n<=k->k < n+d->∃ i,t.slot (pj h k)=.live i/\ha i≠h)->SetTable.probe.go t ha h f (pth t h n)=SetTable.probe.go t ha h (f - d) (pth t h (n+d))
 | 0,f,n,_,_=>rfl
 | d+1,0,n,hf,_=>by omega
 | d+1,f+1,n,hf,hp=>by
  obtain ⟨i,e1,e2⟩:=hp n (Nat.le_refl _) (by omega);have e3:SetTable.probe.go t ha h (f+1) (pth t h n)=SetTable.probe.go t ha h f (pth t h (n+1)):=by
   rw [SetTable.probe.go,Yz hm,e1];dsimp only;rw [if_neg (by simpa using e2)];rfl
  rw [e3,Y0 hm d f (n+1) (by omega) fun k h1 h2=>hp k (by omega) (by omega)];rw [show f+1 - (d+1)=f - d by omega,show n+1+d=n+(d+1) by omega]
theorem gZ {t:SetTable}(hm:t.mask=7) {ha:Nat->Int}{h:Int}{f n:Nat}(hf:0 < f) (e:t.slot (pj h n)=.empty):SetTable.probe.go t ha h f (pth t h n)=some (.empty (pj h n) none):=by
 obtain ⟨f,rfl⟩:∃ g,f=g+1:=⟨f - 1,by omega⟩;rw [SetTable.probe.go,Yz hm,e];dsimp only;rw [(Ek hm h n).2.2.2.2]
theorem sI {t:SetTable}(hm:t.mask=7) {ha:Nat->Int}{h:Int}{f n i:Nat}(hf:0 < f) (e:t.slot (pj h n)=.live i) (eh:ha i=h):SetTable.probe.go t ha h f (pth t h n)=some (.candidate (pj h n) i (pth t h (n+1))):=by
 obtain ⟨f,rfl⟩:∃ g,f=g+1:=⟨f - 1,by omega⟩;rw [SetTable.probe.go,Yz hm,e];dsimp only;rw [if_pos (by simpa using eh)];rfl
theorem G9 {t:SetTable}(hd:t.dummies=#[]) (j:Nat):t.slot j=.empty\/∃ i,t.slot j=.live i/\t.place[i]?=some j:=by
 unfold SetTable.slot;dsimp only;split
 ·rename_i e;exact .inr ⟨_,rfl,by simpa using e⟩
 ·rw [hd];exact .inl (by rfl)
theorem Ux {t:SetTable}(hm:t.mask=7) (hd:t.dummies=#[]) {j0:Nat}(hj:j0 < 8) (he:t.slot j0=.empty) (ha:Nat->Int) (h:Int) (n:Nat) :
    ∃ m,n<=m/\m < n+21/\(∀ k,n<=k->k < m->∃ i,t.slot (pj h k)=.live i/\ha i≠h) /\
      ((t.slot (pj h m)=.empty/\t.probe ha h (pth t h n)=some (.empty (pj h m) none)) \/
       ∃ i,t.slot (pj h m)=.live i/\t.place[i]?=some (pj h m)/\ha i=h/\t.probe ha h (pth t h n)=some (.candidate (pj h m) i (pth t h (m+1)))):=by
  obtain ⟨n1,a1,a2,a3⟩:=gY h n j0 hj;have first:∀ d,n+d<=n1->(∀ k,n<=k->k < n+d->∃ i,t.slot (pj h k)=.live i/\ha i≠h)\/∃ m,n<=m/\m < n+d/\(∀ k,n<=k->k < m->∃ i,t.slot (pj h k)=.live i/\ha i≠h)/\(t.slot (pj h m)=.empty\/∃ i,t.slot (pj h m)=.live i/\t.place[i]?=some (pj h m)/\ha i=h):=by
    intro d
    induction d with
    | zero=>exact fun _=>.inl fun k h1 h2=>by omega
    | succ d ih =>
      intro hn;rcases ih (by omega) with ih|⟨m,b1,b2,b3,b4⟩
      · rcases G9 hd (pj h (n+d)) with e|⟨i,e,ep⟩
        · exact .inr ⟨n+d,by omega,by omega,ih,.inl e⟩
        · by_cases eh:ha i=h
          · exact .inr ⟨n+d,by omega,by omega,ih,.inr ⟨i,e,ep,eh⟩⟩
          · refine .inl fun k h1 h2=>?_
            by_cases hk:k=n+d
            · subst hk;exact ⟨i,e,eh⟩
            · exact ih k h1 (by omega)
      · exact .inr ⟨m,b1,by omega,b3,b4⟩
  have fin:∃ m,n<=m/\m < n+21/\(∀ k,n<=k->k < m->∃ i,t.slot (pj h k)=.live i/\ha i≠h)/\(t.slot (pj h m)=.empty\/∃ i,t.slot (pj h m)=.live i/\t.place[i]?=some (pj h m)/\ha i=h):=by
    rcases first (n1 - n) (by omega) with p|⟨m,b1,b2,b3,b4⟩
    · exact ⟨n1,a1,a2,fun k h1 h2=>p k h1 (by omega),.inl (by rw [a3];exact he)⟩
    · exact ⟨m,b1,by omega,b3,b4⟩
  obtain ⟨m,b1,b2,b3,b4⟩:=fin;refine ⟨m,b1,b2,b3,?_⟩;have eg:t.probe ha h (pth t h n)=SetTable.probe.go t ha h (220 - (m - n)) (pth t h m):=by
    have e0:t.probe ha h (pth t h n)=SetTable.probe.go t ha h 220 (pth t h n):=by
      unfold SetTable.probe;rw [hm];rfl
    have:=Y0 hm (ha:=ha) (h:=h) (m - n) 220 n (by omega) fun k h1 h2=>b3 k h1 (by omega)
    rw [show n+(m - n)=m by omega] at this;rw [e0,this]
  rcases b4 with e|⟨i,e,ep,eh⟩
  · exact .inl ⟨e,by rw [eg];exact gZ hm (by omega) e⟩
  · exact .inr ⟨i,e,ep,eh,by rw [eg];exact sI hm (by omega) e eh⟩
structure Tb7 (t:SetTable) (es:Array (Int×Value)):Prop where
 mask:t.mask=7
 nod:t.dummies=#[]
 rise:Jt t.place
 size:t.place.size=es.size
 room:es.size<=4
 way:∀ j e,(j,e)∈t.place.toList.zip es.toList->∃ n,j=pj e.1 n/\∀ k,k < n->pj e.1 k∈t.place.toList
theorem Lq:∀ {l l':List Nat},l.Nodup->(∀ x∈l,x∈l')->l.length<=l'.length
 | [],l',_,_=>Nat.zero_le _
 | a::r,l',nd,sub=>by
  obtain ⟨na,nr⟩:=List.nodup_cons.mp nd;have ha:=sub a (.head _);have:=Lq (l':=l'.erase a) nr fun x hx=>(List.mem_erase_of_ne (fun e=>na (by rw [← e];exact hx))).mpr (sub x (.tail _ hx))
  have h2:=List.length_erase_of_mem ha;have h3:=List.length_pos_of_mem ha;rw [List.length_cons];omega
theorem Ir {t:SetTable}(r:Jt t.place) {i j:Nat}(e:t.place[i]?=some j):t.slot j=.live i:=by
 have B:Below t.place j i:=⟨by obtain ⟨h,_⟩:=Array.getElem?_eq_some_iff.mp e;omega,fun k x hk hx=>r.lt hk hx e,fun k x hk hx=>by
  rcases Nat.lt_or_eq_of_le hk with hk|rfl
  ·exact Nat.le_of_lt (r.lt hk e hx)
  ·rw [e] at hx;cases hx;exact Nat.le_refl _⟩
 have eb:SetTable.below t.place j=i:=(Hx r j).same B;unfold SetTable.slot;dsimp only;rw [eb,if_pos (by rw [e];exact beq_self_eq_true _)]
theorem Nt {t:SetTable}(hd:t.dummies=#[]) {j:Nat}(h:j ∉ t.place.toList):t.slot j=.empty:=by
 rcases G9 hd j with e|⟨i,e,ep⟩
 ·exact e
 ·exact (h (List.mem_of_getElem? (i:=i) (by rw [Array.getElem?_toList];exact ep))).elim
theorem Jw {t:SetTable}(r:Jt t.place) {j:Nat}(h:t.slot j=.empty):j ∉ t.place.toList:=fun hm=>by
 obtain ⟨i,hi,e⟩:=List.getElem_of_mem hm;rw [Ir r (i:=i) (j:=j) (by rw [← Array.getElem?_toList,List.getElem?_eq_getElem hi,e])] at h;cases h
theorem Tb7.free {t:SetTable}{es:Array (Int×Value)}(h:Tb7 t es):∃ j,j < 8/\t.slot j=.empty:=by
 by_cases q:∀ x∈List.range 8,x∈t.place.toList
 ·have:=Lq List.nodup_range q;rw [List.length_range,Array.length_toList,h.size] at this;have:=h.room;omega
 ·rw [Classical.not_forall] at q;obtain ⟨j,hj⟩:=q;rw [Classical.not_imp] at hj;exact ⟨j,List.mem_range.mp hj.1,Nt h.nod hj.2⟩
theorem Tb7.pair {t:SetTable}{es:Array (Int×Value)}(h:Tb7 t es) {i j:Nat}(ep:t.place[i]?=some j):∃ e,es[i]?=some e/\(j,e)∈t.place.toList.zip es.toList:=by
 obtain ⟨hi,ej⟩:=Array.getElem?_eq_some_iff.mp ep;have hi2:i < es.size:=by rw [← h.size];exact hi
 refine ⟨es[i],Array.getElem?_eq_getElem hi2,List.mem_of_getElem? (i:=i) ?_⟩;rw [List.getElem?_zip_eq_some];exact ⟨by rw [Array.getElem?_toList];exact ep,by rw [Array.getElem?_toList];exact Array.getElem?_eq_getElem hi2⟩
theorem Tb7.elem {t:SetTable}{es:Array (Int×Value)}(h:Tb7 t es) {i:Nat}{e:Int×Value}(ee:es[i]?=some e):∃ j,t.place[i]?=some j/\(j,e)∈t.place.toList.zip es.toList:=by
 obtain ⟨hi,ej⟩:=Array.getElem?_eq_some_iff.mp ee;have hi2:i < t.place.size:=by rw [h.size];exact hi
 refine ⟨t.place[i],Array.getElem?_eq_getElem hi2,List.mem_of_getElem? (i:=i) ?_⟩;rw [List.getElem?_zip_eq_some];exact ⟨by rw [Array.getElem?_toList];exact Array.getElem?_eq_getElem hi2,by rw [Array.getElem?_toList];exact ee⟩
structure Way (t:SetTable) (es:Array (Int×Value)) (h:Int) (S:Value->Prop) (n:Nat):Prop where
 full:∀ k,k < n->pj h k∈t.place.toList
 seen:∀ (k i:Nat) (e:Int×Value),k < n->t.place[i]?=some (pj h k)->es[i]?=some e->e.1=h->S e.2
theorem Way.zero {t:SetTable}{es:Array (Int×Value)}{h:Int}{S:Value->Prop}:Way t es h S 0:=⟨fun k hk=>absurd hk (Nat.not_lt_zero _),fun k i e hk=>absurd hk (Nat.not_lt_zero _)⟩
theorem Tb7.step {t:SetTable}{es:Array (Int×Value)}(T:Tb7 t es) {h:Int}{S:Value->Prop}{n:Nat}(W:Way t es h S n) (ha:Nat->Int) (hh:∀ (i:Nat) (e:Int×Value),es[i]?=some e->ha i=e.1) :
  (∃ m,t.probe ha h (pth t h n)=some (.empty (pj h m) none)/\pj h m ∉ t.place.toList/\(∀ k,k < m->pj h k∈t.place.toList)/\∀ (i:Nat) (e:Int×Value),es[i]?=some e->e.1=h->S e.2) \/
  ∃ (m i:Nat) (e:Int×Value),n<=m/\t.probe ha h (pth t h n)=some (.candidate (pj h m) i (pth t h (m+1)))/\t.slot (pj h m)=.live i/\es[i]?=some e/\e.1=h/\∀ S':Value->Prop,(∀ v,S v->S' v)->S' e.2->Way t es h S' (m+1):=by
 obtain ⟨j0,hj,he⟩:=T.free;obtain ⟨m,a1,a2,a3,a4⟩:=Ux T.mask T.nod hj he ha h n;have past:∀ k,n<=k->k < m->∃ (i:Nat) (e:Int×Value),t.place[i]?=some (pj h k)/\es[i]?=some e/\e.1≠h:=fun k h1 h2=>by
  obtain ⟨i,e1,e2⟩:=a3 k h1 h2;rcases G9 T.nod (pj h k) with z|⟨i',z,zp⟩
  ·rw [z] at e1;cases e1
  ·rw [z] at e1;cases e1;obtain ⟨e,ee,_⟩:=T.pair zp;exact ⟨_,e,zp,ee,by rw [← hh _ _ ee];exact e2⟩
 have inj:∀ {i i' j:Nat},t.place[i]?=some j->t.place[i']?=some j->i=i':=fun {i i' j} x y=>by
  have:=Ir T.rise x;rw [Ir T.rise y] at this;cases this;rfl
 have full:∀ k,k < m->pj h k∈t.place.toList:=fun k hk=>by
  by_cases hn:k < n
  ·exact W.full k hn
  ·obtain ⟨i,e,z,_⟩:=past k (by omega) hk;exact List.mem_of_getElem? (i:=i) (by rw [Array.getElem?_toList];exact z)
 have seen:∀ (k i:Nat) (e:Int×Value),k < m->t.place[i]?=some (pj h k)->es[i]?=some e->e.1=h->S e.2:=fun k i e hk z ze zh=>by
  by_cases hn:k < n
  ·exact W.seen k i e hn z ze zh
  ·obtain ⟨i',e',z',ze',zh'⟩:=past k (by omega) hk;cases inj z z';rw [ze] at ze';cases ze';exact (zh' zh).elim
 rcases a4 with ⟨e1,e2⟩|⟨i,e1,e2,e3,e4⟩
 ·refine .inl ⟨m,e2,Jw T.rise e1,full,fun i e ee eh=>?_⟩;obtain ⟨j,ej,hm⟩:=T.elem ee;obtain ⟨q,rfl,hq⟩:=T.way _ _ hm;rw [eh] at ej hq;refine seen q i e ?_ ej ee eh;rcases Nat.lt_trichotomy q m with z|rfl|z
  ·exact z
  ·rw [Ir T.rise ej] at e1;cases e1
  ·exact (Jw T.rise e1 (hq m z)).elim
 ·obtain ⟨e,ee,_⟩:=T.pair e2;refine .inr ⟨m,i,e,a1,e4,e1,ee,by rw [← hh _ _ ee];exact e3,fun S' hS hx=>⟨fun k hk=>?_,fun k i' e' hk z ze zh=>?_⟩⟩
  ·by_cases hn:k < m
   ·exact full k hn
   ·have:k=m:=by omega
    subst this;exact List.mem_of_getElem? (i:=i) (by rw [Array.getElem?_toList];exact e2)
  ·by_cases hn:k < m
   ·exact hS _ (seen k i' e' hn z ze zh)
   ·have:k=m:=by omega
    subst this;cases inj z e2;rw [ee] at ze;cases ze;exact hx
theorem sJ {α β:Type}{a:List α}{b:List β}{p:Nat}{x:α}{y:β}(h:a.length=b.length) (q:α×β) (m:q∈(a.take p++x::a.drop p).zip (b.take p++y::b.drop p)):q=(x,y)\/q∈a.zip b:=by
 rw [List.zip_append (by simp [h]),List.mem_append] at m;rcases m with m|m
 ·exact .inr (by
   obtain ⟨i,hi⟩:=List.mem_iff_getElem?.mp m;rw [List.getElem?_zip_eq_some,List.getElem?_take,List.getElem?_take] at hi;refine List.mem_of_getElem? (i:=i) (List.getElem?_zip_eq_some.mpr ?_)
   by_cases z:i < p
   ·rw [if_pos z,if_pos z] at hi;exact hi
   ·rw [if_neg z] at hi;cases hi.1)
 ·rw [List.zip_cons_cons] at m;rcases List.mem_cons.mp m with m|m
  ·exact .inl m
  ·exact .inr (by
    obtain ⟨i,hi⟩:=List.mem_iff_getElem?.mp m;rw [List.getElem?_zip_eq_some,List.getElem?_drop,List.getElem?_drop] at hi
    exact List.mem_of_getElem? (i:=p+i) (List.getElem?_zip_eq_some.mpr hi))
theorem Tb7.put {t:SetTable}{es:Array (Int×Value)}(T:Tb7 t es) {h:Int}{x:Value}{m:Nat}(hf:pj h m ∉ t.place.toList) (full:∀ k,k < m->pj h k∈t.place.toList) (hr:es.size<=3) :
  Tb7 (t.put (pj h m)).1 (SetTable.insertAt es (t.put (pj h m)).2 (h,x)):=by
 have hn:t.place[SetTable.below t.place (pj h m)]?≠some (pj h m):=Ql (.inl (Nt T.nod hf));have le:SetTable.below t.place (pj h m)<=t.place.size:=(Hx T.rise _).le;have old:∀ {k:Nat},k∈t.place.toList->k∈(SetTable.insertAt t.place (SetTable.below t.place (pj h m)) (pj h m)).toList:=fun {k} z=>by
  rw [SetTable.toList_insertAt,List.mem_append,List.mem_cons];rw [← List.take_append_drop (SetTable.below t.place (pj h m)) t.place.toList,List.mem_append] at z;rcases z with z|z
  ·exact .inl z
  ·exact .inr (.inr z)
 have sz:∀ {α:Type} (xs:Array α) (p:Nat) (y:α),p<=xs.size->(SetTable.insertAt xs p y).size=xs.size+1:=fun xs p y hp=>by
  rw [← Array.length_toList,SetTable.toList_insertAt,List.length_append,List.length_cons,List.length_take,List.length_drop,Array.length_toList];omega
 refine ⟨T.mask,?_,Lk T.rise hn,?_,?_,?_⟩
 ·show (if SetTable.has t.dummies _ then _ else t.dummies)=#[];rw [T.nod];exact if_neg (by intro z;cases z)
 ·show (SetTable.insertAt t.place _ _).size=(SetTable.insertAt es _ _).size;rw [sz _ _ _ le,sz _ _ _ (by rw [← T.size];exact le),T.size]
 ·show (SetTable.insertAt es _ _).size<=4;rw [sz _ _ _ (by rw [← T.size];exact le)];omega
 ·intro j e me;have me:(j,e)∈(SetTable.insertAt t.place (SetTable.below t.place (pj h m)) (pj h m)).toList.zip (SetTable.insertAt es (SetTable.below t.place (pj h m)) (h,x)).toList:=me;rw [SetTable.toList_insertAt,SetTable.toList_insertAt] at me;rcases sJ (by rw [Array.length_toList,Array.length_toList,T.size]) _ me with z|z
  ·cases z;exact ⟨m,rfl,fun k hk=>old (full k hk)⟩
  ·obtain ⟨n,e1,e2⟩:=T.way _ _ z;exact ⟨n,e1,fun k hk=>old (e2 k hk)⟩
theorem Tb7.fresh (b:Bool):Tb7 (.fresh 0 0 b) #[]:=⟨rfl,rfl,List.Pairwise.nil,rfl,Nat.zero_le _,fun j e m=>by cases m⟩
theorem Tb7.roomy {t:SetTable}{es:Array (Int×Value)}(T:Tb7 t es):t.tooFull=false:=by
 unfold SetTable.tooFull SetTable.fill;rw [T.nod,T.mask,T.size];have:=T.room;exact decide_eq_false (by simp;omega)
section
variable {P:Program}{w:World}{K:Type} [DecidableEq K] {knd:KeyKind P w K}{A:Around}{E:Value->Shared->Prop}{s:Shared}
theorem Pn (n:Nat) {v:Value}(h:carriedByValue v=true):ofAClassStatement n v=pure false:=by
 cases v <;> first | rfl | (cases n <;> rfl) | cases h
theorem Lr {ks:List K}{b:Addr}{Q:Bool->Shared->Prop}(hk:IsTupleKey knd s.heap ks b) (h:Q false s):wpAny (model P w) A (ofAClassStatement 8 (.ref b)) Q E s:=by
 have hT:=hk.typeIs;obtain ⟨o,items,n,ho,_,hd,hi⟩:=hk;unfold ofAClassStatement;refine wpAny_bind (wpAny_typeOf hT ?_);dsimp only;rw [if_pos (by rfl)];refine wpAny_bind (wpAny_pure ?_);simp only [Bool.not_true,Bool.false_eq_true,if_false];refine wpAny_bind (wpAny_seqItems ho hd ?_);refine wpAny_bind ?_;show wpAny _ _ (forIn items _ _) _ _ s;rw [← Array.forIn_toList];have bv:=hi.byValue;generalize items.toList=l at bv
 induction l with
 | nil=>exact wpAny_pure (wpAny_pure h)
 | cons v l ih =>
  rw [List.forIn_cons];refine wpAny_bind ?_;rw [Pn _ (bv v (.head _))];refine wpAny_bind (wpAny_pure ?_);simp only [Bool.false_eq_true,if_false];exact wpAny_pure (ih fun x hx=>bv x (.tail _ hx))
theorem zX {k:List K}{b:Addr}{Q:Bool->Shared->Prop}(hk:IsTupleKey knd s.heap k b) (h:Q false s):∀ (l:List Value),(∀ v∈l,∃ k' c,v=.ref c/\IsTupleKey knd s.heap k' c)->wpAny (model P w) A (searchCouldBeSeen (.ref b) l) Q E s:=by
 intro l hl;unfold searchCouldBeSeen;refine wpAny_bind ?_;show wpAny _ _ (forIn l _ _) _ _ s
 induction l with
 | nil=>exact wpAny_pure (wpAny_pure h)
 | cons v l ih =>
  obtain ⟨k',c,rfl,hk'⟩:=hl v (.head _);have ih:=ih fun x hx=>hl x (.tail _ hx)
  rw [List.forIn_cons];refine wpAny_bind ?_;dsimp only;split
  ·exact wpAny_pure ih
  ·refine wpAny_bind (wpAny_eqIsQuiet_tuple hk ?_);simp only [Bool.not_true,Bool.false_eq_true,if_false];refine wpAny_bind (wpAny_eqIsQuiet_tuple hk' ?_);simp only [Bool.not_true,Bool.false_eq_true,if_false];refine wpAny_bind (Lr hk ?_);simp only [Bool.false_eq_true,if_false];refine wpAny_bind (Lr hk' ?_);simp only [Bool.false_eq_true,if_false];exact wpAny_pure ih
theorem Way.few {t:SetTable}{es:Array (Int×Value)}(T:Tb7 t es) {h:Int}{S:Value->Prop}{n:Nat}(W:Way t es h S n):n < 21:=by
 obtain ⟨j,hj,e⟩:=T.free;obtain ⟨m,_,hm,em⟩:=gY h 0 j hj
 by_cases hn:n<=m
 ·omega
 ·have:=W.full m (by omega);rw [em] at this;exact (Jw T.rise e this).elim
theorem Tb7.fits {t:SetTable}{es:Array (Int×Value)}(T:Tb7 t es):t.fits es.size=true:=by
 have h:=T.room;simp only [SetTable.fits,Bool.and_eq_true,beq_iff_eq,decide_eq_true_eq];refine ⟨T.size,?_⟩;unfold SetTable.fill;rw [T.nod,T.mask,T.size];simp;omega
noncomputable def vJ (knd:KeyKind P w K) (h:Heap) (e:Int×Value):Prop:=∃ k c,e.2=.ref c/\IsTupleKey knd h k c/\e.1=tupleKeyHash knd k
noncomputable def Adp (knd:KeyKind P w K) (h:Heap) (k:List K) (v:Value):Prop:=∃ k' c,v=.ref c/\IsTupleKey knd h k' c/\k'≠k
theorem Nu {a b:Addr}{o:Obj}{es:Array (Int×Value)}{ep:Nat}{t:SetTable}{k:List K}{Q:SetFound->Shared->Prop}{adding:Bool}(hu:A.units < cLine) (ho:s.heap.get? a=some o) (hd:o.data=.set es ep t) (T:Tb7 t es) (el:∀ e∈es.toList,vJ knd s.heap e) (hk:IsTupleKey knd s.heap k b)
  (there:∀ i,(∃ e c,e∈es.toList/\e.2=.ref c/\IsTupleKey knd s.heap k c)->Q (.there i) s)
  (free:∀ m,pj (tupleKeyHash knd k) m ∉ t.place.toList->(∀ i,i < m->pj (tupleKeyHash knd k) i∈t.place.toList)->(∀ e∈es.toList,Adp knd s.heap k e.2)->Q (.free (pj (tupleKeyHash knd k) m) false) s) :
  ∀ (fuel n:Nat) (stand:Option SetTable.Probe),21<=fuel+n->Way t es (tupleKeyHash knd k) (Adp knd s.heap k) n->stand.getD (t.probeStart (tupleKeyHash knd k))=pth t (tupleKeyHash knd k) n ->
   wpAny (model P w) A (setSearchFrom a (.ref b) (tupleKeyHash knd k) adding fuel stand) Q E s
 | 0,n,stand,hf,W,_=>by have:=W.few T;omega
 | fuel+1,n,stand,hf,W,es0=>by
  unfold setSearchFrom;refine wpAny_bind (wpAny_setState_of ho hd T.fits ?_);dsimp only;rw [show t.gaveWay=false by unfold SetTable.gaveWay;rw [T.mask];rfl];simp only [Bool.false_eq_true,if_false];rw [es0];have hh:∀ (i:Nat) (e:Int×Value),es[i]?=some e->(es[i]?.map (·.1)).getD 0=e.1:=fun i e z=>by rw [z];rfl
  rcases T.step W (fun i=>(es[i]?.map (·.1)).getD 0) hh with ⟨m,e1,e2,e3,e4⟩|⟨m,i,e,e0,e1,e2,e3,e4,e5⟩
  ·generalize hp:t.probe _ (tupleKeyHash knd k) (pth t (tupleKeyHash knd k) n)=r;rw [show r=_ from hp.symm.trans e1];dsimp only;refine wpAny_pure (free m e2 e3 fun e me=>?_);obtain ⟨k',c,ec,hk',eh⟩:=el e me;refine ⟨k',c,ec,hk',fun z=>?_⟩;subst z;obtain ⟨i,hi,ei⟩:=List.getElem_of_mem me;obtain ⟨k2,c2,ec2,hk2,ne⟩:=e4 i e (by rw [← Array.getElem?_toList,List.getElem?_eq_getElem hi,ei]) eh;rw [ec] at ec2;cases ec2;exact ne (hk2.inj hk')
  ·generalize hp:t.probe _ (tupleKeyHash knd k) (pth t (tupleKeyHash knd k) n)=r;rw [show r=_ from hp.symm.trans e1];dsimp only;have me:e∈es.toList:=List.mem_of_getElem? (i:=i) (by rw [Array.getElem?_toList];exact e3);obtain ⟨k',c,ec,hk',eh⟩:=el e me;obtain ⟨h0,y⟩:=e;cases ec;have sm:t.sameMemory t.moves t.mask=some true:=by unfold SetTable.sameMemory;rw [if_pos (beq_self_eq_true _)]
   have all:∀ v∈(es.filter (·.1==tupleKeyHash knd k)).toList.map (·.2),∃ k' c,v=.ref c/\IsTupleKey knd s.heap k' c:=fun v hv=>by
    obtain ⟨e,he,rfl⟩:=List.mem_map.mp hv;rw [Array.toList_filter] at he;obtain ⟨k',c,z1,z2,_⟩:=el e (List.mem_filter.mp he).1;exact ⟨k',c,z1,z2⟩
   split
   ·refine wpAny_bind (zX hk ?_ _ all);rw [if_neg (by decide)];rw [e3];dsimp only;refine wpAny_bind (wpAny_holding (wpAny_eqBool_tuple hu hk' hk ?_));refine wpAny_bind (wpAny_setState_of ho hd T.fits ?_);dsimp only;cases hq:decide (k'=k) with
    | true =>
     have ek:=of_decide_eq_true hq;have th:∀ i,Q (.there i) s:=fun i=>there i ⟨_,c,me,rfl,ek ▸ hk'⟩
     cases adding with
     | true=>exact wpAny_pure (th none)
     | false =>
      rw [if_neg (by decide),sm];dsimp only;rw [if_pos rfl,e2];dsimp only;rw [e3];dsimp only;refine wpAny_bind (wpAny_isSame_ref_self ?_);refine wpAny_bind (wpAny_pure ?_);rw [if_pos rfl];dsimp only;rw [if_pos rfl];exact wpAny_pure (th _)
    | false =>
     rw [if_neg (by simp),sm];dsimp only;rw [if_pos rfl,e2];dsimp only;rw [e3];dsimp only;refine wpAny_bind (wpAny_isSame_ref_self ?_);refine wpAny_bind (wpAny_pure ?_);rw [if_pos rfl];dsimp only;rw [if_neg (by decide)];exact Nu hu ho hd T el hk there free fuel (m+1) _ (by omega) (e5 _ (fun _ z=>z) ⟨k',c,rfl,hk',of_decide_eq_false hq⟩) rfl
   ·skip
    rw [e3];dsimp only;refine wpAny_bind (wpAny_holding (wpAny_eqBool_tuple hu hk' hk ?_));refine wpAny_bind (wpAny_setState_of ho hd T.fits ?_);dsimp only;cases hq:decide (k'=k) with
    | true =>
     have ek:=of_decide_eq_true hq;have th:∀ i,Q (.there i) s:=fun i=>there i ⟨_,c,me,rfl,ek ▸ hk'⟩
     cases adding with
     | true=>exact wpAny_pure (th none)
     | false =>
      rw [if_neg (by decide),sm];dsimp only;rw [if_pos rfl,e2];dsimp only;rw [e3];dsimp only;refine wpAny_bind (wpAny_isSame_ref_self ?_);refine wpAny_bind (wpAny_pure ?_);rw [if_pos rfl];dsimp only;rw [if_pos rfl];exact wpAny_pure (th _)
    | false =>
     rw [if_neg (by simp),sm];dsimp only;rw [if_pos rfl,e2];dsimp only;rw [e3];dsimp only;refine wpAny_bind (wpAny_isSame_ref_self ?_);refine wpAny_bind (wpAny_pure ?_);rw [if_pos rfl];dsimp only;rw [if_neg (by decide)];exact Nu hu ho hd T el hk there free fuel (m+1) _ (by omega) (e5 _ (fun _ z=>z) ⟨k',c,rfl,hk',of_decide_eq_false hq⟩) rfl
end
section
variable {P:Program}{w:World}{K:Type} [DecidableEq K] {knd:KeyKind P w K}{A:Around}{E:Value->Shared->Prop}{s:Shared}
theorem aW (n:Nat) {v:Value}(h:carriedByValue v=true):∃ b,hashByValue n v=pure b:=by
 cases v <;> first | exact ⟨_,rfl⟩ | (cases n <;> exact ⟨_,rfl⟩) | exact nomatch h
theorem aX {ks:List K}{b:Addr}{Q:Bool->Shared->Prop}(hk:IsTupleKey knd s.heap ks b) (h:∀ x,Q x s):wpAny (model P w) A (hashByValue 8 (.ref b)) Q E s:=by
 have hT:=hk.typeIs;obtain ⟨o,items,n,ho,_,hd,hi⟩:=hk;unfold hashByValue;refine wpAny_bind (wpAny_specialOf hT PySem.F.slot_tuple_hash.lookup ?_);dsimp only;refine wpAny_bind (wpAny_seqItems ho hd ?_);refine wpAny_bind ?_;show wpAny _ _ (forIn items _ _) _ _ s;rw [← Array.forIn_toList];have bv:=hi.byValue;generalize items.toList=l at bv
 induction l with
 | nil=>exact wpAny_pure (wpAny_pure (h _))
 | cons v l ih =>
  rw [List.forIn_cons];refine wpAny_bind ?_;obtain ⟨x,ex⟩:=aW 7 (bv v (.head _));rw [ex];refine wpAny_bind (wpAny_pure ?_);cases x with
  | true=>exact wpAny_pure (ih fun x hx=>bv x (.tail _ hx))
  | false=>exact wpAny_pure (wpAny_pure (wpAny_pure (h _)))
theorem Xh {h h':Heap}{ks:List K}{a d:Addr}{o:Obj}{es:Array (Int×Value)}{ep:Nat}{t:SetTable}(x:IsTupleKey knd h ks a) (ho:h.get? d=some o) (hd:o.data=.set es ep t) (hs:Heap.SameBut d h h'):IsTupleKey knd h' ks a:=by
 obtain ⟨o',items,n,ho',hc,hd',hi⟩:=x;have hne:a≠d:=by
  rintro rfl;obtain rfl:o'=o:=Option.some.inj (ho'.symm.trans ho);rw [hd] at hd';exact nomatch hd'
 exact ⟨o',items,n,(hs.2 a hne).trans ho',hc,hd',hi⟩
structure SetTD (knd:KeyKind P w K) (Z:Addr->Prop) (h:Heap) (o:Obj) (es:Array (Int×Value)) (ep:Nat) (t:SetTable) (ks:List (List K)):Prop where
 ex:o.ExactSet
 dt:o.data=.set es ep t
 tb:Tb7 t es
 el:∀ e∈es.toList,vJ knd h e
 mem:∀ k,k∈ks ↔ ∃ e c,e∈es.toList/\e.2=.ref c/\IsTupleKey knd h k c
 sz:es.size=ks.length
 nd:ks.Nodup
 good:Good (!w.params.followText "set-order") t
 off:∀ e∈es.toList,∀ c,e.2=.ref c->Z c
noncomputable def Hy (knd:KeyKind P w K) (Z:Addr->Prop) (h:Heap) (a:Addr) (ks:List (List K)):Prop:=∃ o es ep t,h.get? a=some o/\SetTD knd Z h o es ep t ks
theorem Afl {Z:Addr->Prop}{a b:Addr}{ks:List (List K)}{k:List K}{Q:Bool->Shared->Prop}(hu:A.units < cLine) (g:Hy knd Z s.heap a ks) (hk:IsTupleKey knd s.heap k b) (hz:Z b) (hr:ks.length<=3)
  (h:∀ h' r,Heap.SameBut a s.heap h'->Hy knd Z h' a (if k∈ks then ks else ks++[k])->Q r { s with heap:=h' }):wpAny (model P w) A (setAddHashed a (.ref b) (tupleKeyHash knd k)) Q E s:=by
 obtain ⟨o,es,ep,t,e,d⟩:=g;unfold setAddHashed setAddHashedIn;refine wpAny_holding (wpAny_bind (wpAny_setState_of e d.dt d.tb.fits ?_));dsimp only;rw [if_neg (show ¬ byScan (.ref b) es=true from fun z=>by unfold byScan at z;rw [Bool.and_eq_true,Bool.and_eq_true] at z;cases z.1.1)];unfold setSearch;refine wpAny_bind (Nu hu e d.dt d.tb d.el hk (fun i hi=>?_) (fun m e1 e2 e3=>?_) 100000 0 none (by decide) Way.zero rfl)
 ·have km:k∈ks:=(d.mem k).mpr hi;have z:=h s.heap false (Heap.SameBut.refl a s.heap) (by rw [if_pos km];exact ⟨o,es,ep,t,e,d⟩);exact wpAny_pure z
 ·have km:k ∉ ks:=fun z=>by
   obtain ⟨e',c,me,ec,hc⟩:=(d.mem k).mp z;obtain ⟨k2,c2,ec2,hk2,ne⟩:=e3 e' me;rw [ec] at ec2;cases ec2;exact ne (hk2.inj hc)
  dsimp only;refine wpAny_bind (wpAny_setState_of e d.dt d.tb.fits ?_);dsimp only;have T':=d.tb.put (x:=.ref b) e1 e2 (by rw [d.sz];exact hr)
  have gd:Good (!w.params.followText "set-order") (t.put (pj (tupleKeyHash knd k) m)).1:=⟨d.good.led,fun _=>T'.rise⟩
  have fin:∀ t':SetTable,Tb7 t' (SetTable.insertAt es (t.put (pj (tupleKeyHash knd k) m)).2 (tupleKeyHash knd k,.ref b))->Good (!w.params.followText "set-order") t' ->
    wpAny (model P w) A (storeSet a (SetTable.insertAt es (t.put (pj (tupleKeyHash knd k) m)).2 (tupleKeyHash knd k,.ref b)) t' >>= fun _=>if (!false&&t'.tooFull)=true then (setRelay a (SetTable.grown (es.size+1)) >>= fun _=>pure true) else pure true) Q E s:=fun t' T1 g1=>by
   refine wpAny_bind (wpAny_storeSet_of e d.dt ?_ (Nat.le_trans T1.room (by decide)));rw [if_neg (by rw [T1.roomy];decide)];have sb:=Heap.SameBut.update s.heap a (Obj.putSet (SetTable.insertAt es (t.put (pj (tupleKeyHash knd k) m)).2 (tupleKeyHash knd k,.ref b)) t');refine wpAny_pure (h _ true sb ?_);rw [if_neg km];have z:=Heap.get?_update_self (Obj.putSet (SetTable.insertAt es (t.put (pj (tupleKeyHash knd k) m)).2 (tupleKeyHash knd k,.ref b)) t') e (by rw [putSet_of _ t' d.dt];rfl);rw [putSet_of _ t' d.dt] at z;have pm:=SetTable.insertAt_perm es (t.put (pj (tupleKeyHash knd k) m)).2 (tupleKeyHash knd k,Value.ref b);have mm:∀ x,x∈(SetTable.insertAt es (t.put (pj (tupleKeyHash knd k) m)).2 (tupleKeyHash knd k,Value.ref b)).toList ↔ x∈es.toList\/x=(tupleKeyHash knd k,Value.ref b):=fun x=>by
    rw [pm.mem_iff,Array.toList_push,List.mem_append,List.mem_singleton]
   have keep:∀ {k' c},IsTupleKey knd s.heap k' c->IsTupleKey knd (s.heap.update a (Obj.putSet (SetTable.insertAt es (t.put (pj (tupleKeyHash knd k) m)).2 (tupleKeyHash knd k,.ref b)) t')) k' c:=fun x=>Xh x e d.dt sb
   refine ⟨_,_,_,t',z,d.ex,rfl,T1,fun x hx=>?_,fun k'=>?_,?_,?_,g1,fun x hx c ec=>?_⟩
   ·rcases (mm x).mp hx with hx|rfl
    ·obtain ⟨k',c,z1,z2,z3⟩:=d.el x hx;exact ⟨k',c,z1,keep z2,z3⟩
    ·exact ⟨k,b,rfl,keep hk,rfl⟩
   ·rw [List.mem_append,List.mem_singleton];constructor
    ·rintro (q | rfl)
     ·obtain ⟨x,c,z1,z2,z3⟩:=(d.mem k').mp q;exact ⟨x,c,(mm x).mpr (.inl z1),z2,keep z3⟩
     ·exact ⟨_,b,(mm _).mpr (.inr rfl),rfl,keep hk⟩
    ·rintro ⟨x,c,z1,z2,z3⟩;rcases (mm x).mp z1 with z1|rfl
     ·obtain ⟨k2,c2,y1,y2,y3⟩:=d.el x z1;rw [z2] at y1;cases y1;cases (keep y2).inj z3;exact .inl ((d.mem _).mpr ⟨x,c,z1,z2,y2⟩)
     ·cases z2;exact .inr (z3.inj (keep hk))
   ·have:=pm.length_eq;rw [Array.length_toList,Array.length_toList,Array.size_push] at this;rw [this,d.sz,List.length_append];rfl
   ·exact List.nodup_append.mpr ⟨d.nd,by simp,fun x hx y hy=>by rw [List.mem_singleton.mp hy];exact fun z=>km (z ▸ hx)⟩
   ·rcases (mm x).mp hx with hx|rfl
    ·exact d.off x hx c ec
    ·cases ec;exact hz
  have T2:Tb7 { (t.put (pj (tupleKeyHash knd k) m)).1 with plain:=false } (SetTable.insertAt es (t.put (pj (tupleKeyHash knd k) m)).2 (tupleKeyHash knd k,.ref b)):=⟨T'.mask,T'.nod,T'.rise,T'.size,T'.room,T'.way⟩;split
  ·refine wpAny_bind (aX hk fun x=>?_);cases x with
   | true=>exact fin _ T' gd
   | false=>exact fin _ T2 gd.off
  ·refine wpAny_bind (wpAny_pure ?_);exact fin _ T' gd
end
section
variable {P:Program}{w:World}{K:Type} [DecidableEq K] {knd:KeyKind P w K}
noncomputable def Gw (val:Nat->List K):Nat->List (List K)
 | 0=>[]
 | i+1=>if val i∈Gw val i then Gw val i else Gw val i++[val i]
theorem Uy (val:Nat->List K):∀ i,(Gw val i).length<=i
 | 0=>Nat.le_refl _
 | i+1=>by
  have:=Uy val i;unfold Gw;split
  ·omega
  ·rw [List.length_append];exact Nat.succ_le_succ this
theorem Nv (val:Nat->List K):∀ i,(Gw val i).Nodup
 | 0=>List.Pairwise.nil
 | i+1=>by
  have ih:=Nv val i;unfold Gw;split
  ·exact ih
  ·rename_i km;exact List.nodup_append.mpr ⟨ih,by simp,fun x hx y hy=>by rw [List.mem_singleton.mp hy];exact fun z=>km (z ▸ hx)⟩
theorem Nx (val:Nat->List K) (k:List K):∀ i,k∈Gw val i ↔ ∃ j,j < i/\val j=k
 | 0=>⟨(fun h=>nomatch h),(fun ⟨j,h,_⟩=>absurd h (Nat.not_lt_zero _))⟩
 | i+1=>by
  have ih:=Nx val k i;unfold Gw;constructor
  ·intro h;split at h
   ·obtain ⟨j,a,b⟩:=ih.mp h;exact ⟨j,by omega,b⟩
   ·rcases List.mem_append.mp h with h|h
    ·obtain ⟨j,a,b⟩:=ih.mp h;exact ⟨j,by omega,b⟩
    ·exact ⟨i,by omega,(List.mem_singleton.mp h).symm⟩
  ·rintro ⟨j,a,b⟩
   by_cases hj:j < i
   ·have:=ih.mpr ⟨j,hj,b⟩;split
    ·exact this
    ·exact List.mem_append.mpr (.inl this)
   ·have:j=i:=by omega
    subst this;subst b;split
    ·assumption
    ·exact List.mem_append.mpr (.inr (List.mem_singleton.mpr rfl))
theorem Hy.stay {Z:Addr->Prop}{h h':Heap}{a:Addr}{ks:List (List K)}(g:Hy knd Z h a ks) (kp:∀ b o,b=a\/Z b->h.get? b=some o->h'.get? b=some o):Hy knd Z h' a ks:=by
 obtain ⟨o,es,ep,t,e,d⟩:=g;have keep:∀ {k c},Z c->IsTupleKey knd h k c->IsTupleKey knd h' k c:=fun z ⟨o',its,n,a1,a2⟩=>⟨o',its,n,kp _ _ (.inr z) a1,a2⟩
 refine ⟨o,es,ep,t,kp _ _ (.inl rfl) e,d.ex,d.dt,d.tb,fun x hx=>?_,fun k=>(d.mem k).trans ?_,d.sz,d.nd,d.good,d.off⟩
 ·obtain ⟨k',c,z1,z2,z3⟩:=d.el x hx;exact ⟨k',c,z1,keep (d.off x hx c z1) z2,z3⟩
 ·constructor
  ·rintro ⟨x,c,z1,z2,z3⟩;exact ⟨x,c,z1,z2,keep (d.off x z1 c z2) z3⟩
  ·rintro ⟨x,c,z1,z2,z3⟩;obtain ⟨k2,c2,y1,y2,y3⟩:=d.el x z1;rw [z2] at y1;cases y1;cases (keep (d.off x z1 c z2) y2).inj z3;exact ⟨x,c,z1,z2,y2⟩
end
section
variable {P:Program}{w:World}{K:Type} [DecidableEq K] {knd:KeyKind P w K}{A:Around}{R:Result->Shared->Prop}{I:Addr}{fp wr:List Addr}{G:Array GenState->Array GenState->Prop}{n:Nat}{V:Nat->Value->Prop}{T:Nat->Shared->Prop}
theorem aY {Z:Addr->Prop}(hu:A.in1.units < cLine) (W:WalksS P w A.in1 I fp wr G n V T) (a:Addr) (ha:a ∉ fp) (hZ:∀ c,Z c->c ∉ wr/\c≠a) (val:Nat->List K) (hb:n<=4) :
  ∀ (k i:Nat) (s:Shared),n - i=k->i<=n->T i s->(∀ i v,V i v->∃ c,v=.ref c/\Z c/\IsTupleKey knd s.heap (val i) c)->Hy knd Z s.heap a (Gw val i) ->
   (∀ s',Moved (a::wr) G s s'->Hy knd Z s'.heap a (Gw val n)->R (.ok (.ret .none)) s') ->
   codeAny (model P w) A (.builtin "set.update.loop" ⟨[.ref a,.ref I],[]⟩) R s:=by
 have aw:a ∉ wr:=fun z=>ha (W.sub _ z)
 have sub:∀ b∈wr,b∈a::wr:=fun b hb=>.tail _ hb
 intro k
 induction k with
 | zero =>
  intro i s hk hi st hv g hR;have e:i=n:=by omega
  subst e;refine codeAny_builtin F.entry_set_update_loop ?_;rw [Around.under_plainId F.plain_set_update_loop _];refine wpAny_bind (m:=pyNext (.ref I)) (W.done s _ _ st fun s' mv=>?_);exact wpAny_pure (hR s' (mv.mono sub) (g.stay fun b o hb q=>mv.heap b o (hb.elim (fun z=>by rw [z];exact aw) fun z=>(hZ b z).1) q))
 | succ k ih =>
  intro i s hk hi st hv g hR;have lt:i < n:=by omega
  refine codeAny_builtin F.entry_set_update_loop ?_;rw [Around.under_plainId F.plain_set_update_loop _];refine wpAny_bind (m:=pyNext (.ref I)) (W.item i s _ _ lt st fun v s' hV st' mv=>?_);have kp:∀ {k c},Z c->IsTupleKey knd s.heap k c->IsTupleKey knd s'.heap k c:=fun z ⟨o',its,n,a1,a2⟩=>⟨o',its,n,mv.heap _ _ (hZ _ z).1 a1,a2⟩
  obtain ⟨c,rfl,zc,hk0⟩:=hv i v hV;have hk1:=kp zc hk0;have g':=g.stay (h':=s'.heap) fun b o hb q=>mv.heap b o (hb.elim (fun z=>by rw [z];exact aw) fun z=>(hZ b z).1) q
  refine wpAny_bind (m:=holding [Value.ref c] (setAdd a (.ref c))) (wpAny_holding ?_);unfold setAdd;refine wpAny_holding (wpAny_bind (wpAny_pyHash_tuple hu hk1 ?_));have room:(Gw val i).length<=3:=by
   have:=Uy val i;omega
  refine Afl (s:={ s' with toks:=s'.toks+((val i).length+1) }) hu g' hk1 zc room fun h' r sb g2=>?_
  have g3:Hy knd Z h' a (Gw val (i+1)):=g2;refine wpAny_pure ⟨plainId_quiet F.plain_set_update_loop _,ih (i+1) _ (by omega) lt (W.frame _ s' _ _ st' (Nat.le_add_right _ _) fun b hb o q=>?_) (fun i v hV=>?_) g3 fun s2 mv2 gl=>?_⟩
  ·rw [sb.2 b fun z:b=a=>ha (by rw [← z];exact hb)];exact q
  ·obtain ⟨c',rfl,zc',hk'⟩:=hv i v hV;obtain ⟨o',its,n,a1,a2⟩:=kp zc' hk';exact ⟨c',rfl,zc',o',its,n,(sb.2 c' (hZ c' zc').2).trans a1,a2⟩
  ·refine hR s2 (Moved.trans W.gtrans ((mv.mono sub).then_heap (Nat.le_add_right _ _) fun b o hb q=>?_) mv2) gl;rw [sb.2 b fun z:b=a=>hb (by rw [z];exact .head _)];exact q
end
section
variable {P:Program}{w:World}{K:Type} [DecidableEq K] {knd:KeyKind P w K}{A:Around}{E:Value->Shared->Prop}{s:Shared}
theorem Xi {Z:Addr->Prop}{h:Heap}{a:Addr}{val:Nat->List K}(e:h.get? a=some (set0 (!w.params.followText "set-order"))):Hy knd Z h a (Gw val 0) :=
 ⟨_,#[],0,_,e,⟨rfl,rfl,rfl⟩,rfl,Tb7.fresh _,(fun e he=>nomatch he),fun k=>⟨(fun h=>nomatch h),(fun ⟨_,_,z,_⟩=>nomatch z)⟩,rfl,List.Pairwise.nil,Nq _,(fun e he=>nomatch he)⟩
theorem aZ {Z:Addr->Prop}{l:Addr}{its:Array Value}{val:Nat->List K}{Q:Value->Shared->Prop}(hu:A.units+8 < cLine) (hh:A.handled=none) (hZ:∀ c,Z c->c < s.heap.objs.size) (hl:s.heap.IsList l its) (hi:∀ i v,its[i]?=some v->∃ c,v=.ref c/\Z c/\IsTupleKey knd s.heap (val i) c) (hb:its.size<=4)
  (h:∀ (h':Heap) (tk:Nat),Hy knd Z h' s.heap.objs.size (Gw val its.size)->(∀ b o,b < s.heap.objs.size->s.heap.get? b=some o->h'.get? b=some o)->s.toks<=tk->Q (.ref s.heap.objs.size) { s with heap:=h',toks:=tk }) :
  wpAny (model P w) A (call (.type "set") [.ref l]) Q E s:=by
 obtain ⟨c,tl,hmro⟩:=F.called_set.mro;have hmade:=F.called_set.made;have hsub:=F.called_set.sub;have hnt:=F.called_set.notType;have hcc:=F.called_set.canCreate;have hct:=F.typeCall_set_1 (.ref l)
 refine wpAny_call (codeAny_of_tree (show wpAny _ _ (callAny (.type "set") _) _ _ _ from wpAny_pure ⟨Code.quiet_builtin _ (by decide +kernel),codeAny_builtin F.entry_type_call ?_⟩))
 rw [Around.under_plain (weight_type_call_type "set" [.ref l] []) rfl];repeat (any_goals (first | assumption | wp_step))
 refine codeAny_mono (Uo (.ref l) (E:=E) (Q:=fun v s₁=>v=.ref s.heap.objs.size/\s₁={ s with heap:=s.heap.push (set0 (!w.params.followText "set-order")) }) ⟨rfl,rfl⟩) fun r s₁ hr=>?_
 cases r with
 | error z=>exact hr
 | ok fl =>
 cases fl with
 | next=>exact hr.elim
 | brk=>exact hr.elim
 | cont=>exact hr.elim
 | ret v =>
  obtain ⟨rfl,rfl⟩:=hr
  have e0:(s.heap.push (set0 (!w.params.followText "set-order"))).get? s.heap.objs.size=some (set0 (!w.params.followText "set-order")):=Heap.get?_push_size _ rfl
  have hT:Shared.TypeIs { s with heap:=s.heap.push (set0 (!w.params.followText "set-order")) } (.ref s.heap.objs.size) "set":=⟨_,e0,rfl⟩
  have hli:=F.called_set.init.lookup;have hbi:=F.called_set.init.bind (.ref s.heap.objs.size);repeat (any_goals (first | assumption | wp_step))
  refine codeAny_mono (codeAny_call_builtin (R:=wants (fun r s₂=>r=.none/\∃ h' tk,s₂={ s with heap:=h',toks:=tk }/\s.toks<=tk /\
    Hy knd Z h' s.heap.objs.size (Gw val its.size) /\
    (∀ b o,b < s.heap.objs.size->s.heap.get? b=some o->h'.get? b=some o)) E) F.called_set.init.plain F.entry_set_init (check_set_init_1 hT ?_)) fun r₂ s₂ hr₂=>?_
  ·obtain ⟨ol,hol,hcl,nl,hdl⟩:=hl;obtain ⟨ocls,odict,odata,oslots⟩:=ol;simp only at hcl hdl;subst hcl;subst hdl
   have hol':(s.heap.push (set0 (!w.params.followText "set-order"))).get? l=some { cls:=.type "list",dict:=odict,data:=.seq its nl,slots:=oslots }:=Heap.get?_push_of_some _ hol
   have hl1:(s.heap.push (set0 (!w.params.followText "set-order"))).IsList l its:=⟨_,hol',rfl,nl,rfl⟩;have q1:=F.sub_list_set;have q2:=F.sub_list_frozenset
   have q3:(Value.type "list"==Value.type "dict")=false:=by decide
   unfold Builtin.«set.__init__» noKeywords Builtin.Frozenset.updateFrom;generalize hPI:pyIter=PI;wp_walk;subst hPI;have lt:l < s.heap.objs.size:=Heap.lt_size hol
   have sz:(s.heap.push (set0 (!w.params.followText "set-order"))).objs.size=s.heap.objs.size+1:=Heap.size_push ..;refine wpAny_pyIter_list hl1 (wpAny_bind (wpAny_runValue ?_))
   have ext:∀ {ob:Obj} {k c},IsTupleKey knd s.heap k c->IsTupleKey knd ((s.heap.push (set0 (!w.params.followText "set-order"))).push ob) k c:=fun ⟨o',its,n,a1,a2⟩=>⟨o',its,n,Heap.get?_push_of_some _ (Heap.get?_push_of_some _ a1),a2⟩
   refine aY (knd:=knd) (Z:=Z) (V:=fun i v=>its[i]?=some v) ?_ ((Walks.list (by simp [hh]) _ l (by rw [sz];exact Nat.ne_of_lt (Nat.lt_succ_of_lt lt)) its).toS) s.heap.objs.size ?_ ?_ val hb (its.size - 0) 0 _ (by omega) (Nat.zero_le _) ⟨⟨_,Heap.get?_push_size _ rfl,rfl,rfl⟩,hl1.push _⟩ ?_ ?_ fun s' mv g=>?_
   ·show A.in1.in1.in1.units < cLine;first | exact (by omega) | (simp only [Around.in1];omega)
   ·rw [sz];simp only [List.mem_cons,List.not_mem_nil,or_false,not_or];exact ⟨Nat.ne_of_lt (Nat.lt_succ_self _),Nat.ne_of_gt lt⟩
   ·intro c hc;have hc:=hZ c hc;rw [sz];simp only [List.mem_cons,List.not_mem_nil,or_false];exact ⟨Nat.ne_of_lt (Nat.lt_succ_of_lt hc),Nat.ne_of_lt hc⟩
   ·intro i v hv;obtain ⟨c,e,hz,hk⟩:=hi i v hv;exact ⟨c,e,hz,ext hk⟩
   ·exact Xi (Heap.get?_push_of_some _ e0)
   ·obtain ⟨h',g',d',tk',os'⟩:=s';have e1:g'=s.gens:=mv.gens;have e2:d'=s.drawn:=mv.drawn;have e3:os'=s.os:=mv.os;have e4:s.toks<=tk':=mv.toks;subst e1;subst e2;subst e3;refine wpAny_pure (wpAny_pure ⟨rfl,h',tk',rfl,e4,g,fun b o hb q=>mv.heap b o ?_ (Heap.get?_push_of_some _ (Heap.get?_push_of_some _ q))⟩);rw [sz];simp only [List.mem_cons,List.not_mem_nil,or_false,not_or];exact ⟨Nat.ne_of_lt hb,Nat.ne_of_lt (Nat.lt_succ_of_lt hb)⟩
  ·cases r₂ with
   | error z=>exact hr₂
   | ok fl₂ =>
    cases fl₂ with
    | ret r =>
     obtain ⟨rfl,h',tk,rfl,ht,g,kp⟩:=hr₂;repeat (any_goals (first | assumption | wp_step))
     exact h _ _ g kp ht
    | _=>exact hr₂.elim
end
noncomputable def iB (w:World) (a:Addr) (es:Array (Int×Value)):HO:=.ext fun h=>∃ o ep t,h.get? a=some o/\o.ExactSet/\o.data=.set es ep t/\Tb7 t es/\Good (!w.params.followText "set-order") t
theorem iC {P:Program}{w:World}{H:Hp}{h:Heap}{a:Addr}{es:Array (Int×Value)}(g:∃ o ep t,h.get? a=some o/\o.ExactSet/\o.data=.set es ep t/\Tb7 t es/\Good (!w.params.followText "set-order") t):Cw P w H h a (iB w a es) :=
 ⟨g,let ⟨o,_,_,e,_⟩:=g;⟨o,e⟩,fun h1 h2 ⟨o,ep,t,e,r⟩ k=>⟨o,ep,t,k o e,r⟩⟩
section
variable {X:Cx}
structure InT (X:Cx) (cs:List Addr) (val:Nat->List Key) (es:Array (Int×Value)):Prop where
 el:∀ e∈es.toList,∃ j c,cs[j]?=some c/\e.2=.ref c/\e.1=tupleKeyHash (Bm X.prog X.w) (val j)
 mem:∀ k,k∈Gw val cs.length ↔ ∃ (e:Int×Value) (j:Nat) (c:Addr),e∈es.toList/\e.2=.ref c/\cs[j]?=some c/\val j=k
 sz:es.size=(Gw val cs.length).length
theorem Qp:∀ {cs:List Addr}{us:List Value},Vals (cs.map V.ref) us->us=cs.map Value.ref
 | [],_,.nil=>rfl
 | _::_,_,.cons e h=>by cases e;rw [Qp h];rfl
theorem Xj (hc:X.calm=true) (hu:X.A.units+64 < cLine):Bg X (.type "set") (fun xs H Q=>∃ p cs val,xs=[.ref p]/\SqL X.K H p (cs.map V.ref)/\(∀ i c,cs[i]?=some c->SqT X.K H c ((val i).map kV))/\cs.length<=4/\∀ a es,H a=none->InT X cs val es->Q (.ref a) (upd H a (iB X.w a es))):=by
 rintro pins s σ H xs us Q I r ⟨p,cs,val,e,sq,ht,hb,q⟩;subst e;obtain ⟨u,rfl,rx⟩:=vals1 r;cases rx;obtain ⟨its,rv,pl,hz⟩:=I.list sq;have hi:=Qp rv;subst hi;have tk0:∀ i c,cs[i]?=some c->IsTupleKey (Bm X.prog X.w) s.heap (val i) c:=fun i c z=>by
  obtain ⟨its,r1,⟨o,e1,e2,n,e3⟩,_⟩:=I.tuple (ht i c z);exact ⟨o,_,n,e1,e2,e3,Io (by simpa using r1)⟩
 refine aZ (knd:=Bm X.prog X.w) (val:=val) (Z:=fun c=>c∈cs) (by omega) (I.ok.hd hc) (fun c hm=>?_) pl.isList (fun i v hv=>?_) (by simpa using hb) fun h' tk g kp ht'=>?_
 ·obtain ⟨i,hi,e⟩:=List.getElem_of_mem hm;obtain ⟨o,_,_,e1,_⟩:=tk0 i c (by rw [List.getElem?_eq_getElem hi,e]);exact Heap.lt_size e1
 ·have hv:cs[i]?.map Value.ref=some v:=by simpa using hv
  cases hc':cs[i]? with
  | none=>rw [hc'] at hv;cases hv
  | some c =>
   rw [hc'] at hv;cases hv;exact ⟨c,rfl,List.mem_of_getElem? hc',tk0 i c hc'⟩
 ·obtain ⟨o,es,ep,t,e1,d⟩:=g;have tk1:∀ i c,cs[i]?=some c->IsTupleKey (Bm X.prog X.w) h' (val i) c:=fun i c z=>by
   obtain ⟨o',its,n,a1,a2⟩:=tk0 i c z;exact ⟨o',its,n,kp c o' (Heap.lt_size a1) a1,a2⟩
  have len:(cs.map Value.ref).toArray.size=cs.length:=by simp
  have fi:InT X cs val es:=by
   refine ⟨fun x hx=>?_,fun k=>?_,?_⟩
   ·obtain ⟨k,c,z1,z2,z3⟩:=d.el x hx;obtain ⟨j,hj,ej⟩:=List.getElem_of_mem (d.off x hx c z1);have ej:cs[j]?=some c:=by rw [List.getElem?_eq_getElem hj,ej]
    cases (tk1 j c ej).inj z2;exact ⟨j,c,ej,z1,z3⟩
   ·have m:=d.mem k;rw [len] at m;refine m.trans ⟨?_,?_⟩
    ·rintro ⟨x,c,z1,z2,z3⟩;obtain ⟨j,hj,ej⟩:=List.getElem_of_mem (d.off x z1 c z2);have ej:cs[j]?=some c:=by rw [List.getElem?_eq_getElem hj,ej]
     exact ⟨x,j,c,z1,z2,ej,(tk1 j c ej).inj z3⟩
    ·rintro ⟨x,j,c,z1,z2,z3,rfl⟩;exact ⟨x,c,z1,z2,tk1 j c z3⟩
   ·have:=d.sz;rw [len] at this;exact this
  exact ⟨.ref s.heap.objs.size,_,I.laid (t':=tk) (fun b o e=>kp b o (Heap.lt_size e) e) (Nat.le_refl _) (iC ⟨o,ep,t,e1,d.ex,d.dt,d.tb,d.good⟩),rfl,q _ es (I.hok.fresh (Nat.le_refl _)) fi⟩
end
noncomputable def intsOf:List D->Option (List Int)
 | []=>some []
 | .int i::r=>match intsOf r with
  | some l=>some (i::l)
  | none=>none
 | _=>none
noncomputable def vK:D->MH->Option (List Int)
 | .ref n,mh=>match mh[n]? with
  | some (.lst o)=>intsOf o
  | _=>none
 | .rol ds,_=>intsOf ds
 | .tup ds,_=>intsOf ds
 | _,_=>none
theorem Fp:∀ (ns:List Int),intsOf (ns.map D.int)=some ns
 | []=>rfl
 | n::r=>by
  show (match intsOf (r.map D.int) with | some l=>some (n::l) | none=>none)=_;rw [Fp r]
theorem Dm:∀ {ds:List D}{ns:List Int},intsOf ds=some ns->ds=ns.map D.int
 | [],ns,h=>by cases h;rfl
 | d::r,ns,h=>by
  cases d with
  | int i =>
   have h:(match intsOf r with | some l=>some (i::l) | none=>none)=some ns:=h;split at h
   ·rename_i l e;cases h;rw [Dm e];rfl
   ·cases h
  | _=>cases h
section
variable {K:PySem.W.Frag}{H:Hp}{ρ:List Addr}{mh:MH}
theorem Hz {ns:List Int}{vs:List V}(h:RDs K H ρ (ns.map D.int) vs):vs=ns.map V.int:=by
 induction ns generalizing vs with
 | nil=>cases h;rfl
 | cons n r ih =>
  cases h with
  | cons a t=>cases a;rw [ih t];rfl
end
noncomputable def zY (x y:D) (mh:MH):Option (D×MH):=match vK x mh,vK y mh with
 | some ns,some ms=>if ns.length < 4000/\ms.length < 4000 then some (.bl (Ado ns ms),mh) else none
 | _,_=>none
section
variable {X:Cx}{a:Expr}{ma:DM D}{p p2 pos pos2:Pos}
theorem boot_set:bootBuiltins "set"=some (.type "set"):=by decide +kernel
noncomputable def iD (mx my:DM D):DM D:=mx.bnd fun x=>my.bnd fun y=>Zl (zY x y)
end
section
variable {X:Cx}{pins:List (Addr×Obj)}{σ:L2.St}{H:Hp}{s:Shared}
theorem iH (I:Inv X pins σ H s) {A:Around}(hh:A.handled=none) {p:Addr}{ys:List V}(hq:SqL X.K H p ys\/SqT X.K H p ys) {Q:Value->Shared->Prop}{E:Value->Shared->Prop}
  (h:∀ (its:List Value) (St:Nat->Heap->Prop) (h2:Heap),Vals ys its->Walks X.prog X.w A s.heap.objs.size [s.heap.objs.size,p] [s.heap.objs.size] its.length (fun i v=>its[i]?=some v) St->St 0 h2 ->
   (∀ b∈[s.heap.objs.size,p],b < h2.objs.size)->(∀ b o,s.heap.get? b=some o->h2.get? b=some o)->Q (.ref s.heap.objs.size) { s with heap:=h2 }) :
  wpAny (model X.prog X.w) A (pyIter (.ref p)) Q E s:=by
 rcases hq with hq|hq
 ·obtain ⟨its,rv,pl,hz⟩:=I.list hq;have hlt:p < s.heap.objs.size:=by obtain ⟨_,_,e,_⟩:=pl;exact Heap.lt_size e
  refine wpAny_pyIter_list pl.isList ?_;have W:=Walks.list (prog:=X.prog) (w:=X.w) hh s.heap.objs.size p (Nat.ne_of_lt hlt) its.toArray;refine h its (fun i h=>h.IsListIter s.heap.objs.size p i/\h.IsList p its.toArray) _ rv (by simpa using W) ⟨⟨_,Heap.get?_push_size _ rfl,rfl,rfl⟩,pl.isList.push _⟩ (fun b hb=>?_) fun b o e=>Heap.get?_push_of_some _ e
  rw [Heap.size_push];simp at hb;rcases hb with e|e
  ·rw [e];exact Nat.lt_succ_self _
  ·rw [e];exact Nat.lt_succ_of_lt hlt
 ·obtain ⟨its,rv,pl,hz⟩:=I.tuple hq;have pl:s.heap.IsTuple p its.toArray:=pl;have hlt:p < s.heap.objs.size:=by obtain ⟨_,e,_⟩:=id pl;exact Heap.lt_size e
  refine wpAny_pyIter_tuple pl ?_;have W:=Walks.tuple (prog:=X.prog) (w:=X.w) hh s.heap.objs.size p (Nat.ne_of_lt hlt) its.toArray;refine h its (fun i h=>h.IsTupleIter s.heap.objs.size p i/\h.IsTuple p its.toArray) _ rv (by simpa using W) ⟨⟨_,Heap.get?_push_size _ rfl,rfl,rfl⟩,pl.push _⟩ (fun b hb=>?_) fun b o e=>Heap.get?_push_of_some _ e
  rw [Heap.size_push];simp at hb;rcases hb with e|e
  ·rw [e];exact Nat.lt_succ_self _
  ·rw [e];exact Nat.lt_succ_of_lt hlt
theorem iJ {h2 h':Heap}(hk:∀ b o,b ∉ [s.heap.objs.size]->h2.get? b=some o->h'.get? b=some o) (h1:∀ b o,s.heap.get? b=some o->h2.get? b=some o):∀ b o,s.heap.get? b=some o->h'.get? b=some o :=
 fun b o e=>hk b o (fun hm=>by rw [List.mem_singleton.mp hm] at e;exact Nat.lt_irrefl _ (Heap.lt_size e)) (h1 b o e)
end
theorem Ka:∀ {ns:List Int}{its:List Value}{i:Nat}{v:Value},Vals (ns.map V.int) its->its[i]?=some v->∃ n t,ns[i]?=some n/\v=.int n t
 | [],_,_,_,.nil,e=>by simp at e
 | n::r,_,0,_,.cons h t,e=>by
  obtain ⟨k,rfl⟩:=h;cases e;exact ⟨n,k,rfl,rfl⟩
 | n::r,_,i+1,_,.cons h t,e=>by
  obtain ⟨m,k,h1,h2⟩:=Ka (i:=i) t (by simpa using e);exact ⟨m,k,by simpa using h1,h2⟩
section
variable {X:Cx}
end
noncomputable def Hu:Int->List Int->Int
 | m,[]=>m
 | m,x::r=>Hu (if m < x then x else m) r
noncomputable def Hf:Int->List Int->Int
 | m,[]=>m
 | m,x::r=>Hf (if x < m then x else m) r
theorem Kc (bt:Nat->Nat->Bool) (f:Int->List Int->Int) (ns:List Int) (b:Int->Int->Bool) (hb:∀ i j x y,ns[i]?=some x->ns[j]?=some y->bt i j=b x y) (f0:∀ m,f m []=m) (f1:∀ m l x,f m (l++[x])=if b x (f m l)=true then x else f m l) :
  ∀ (k:Nat) (h:k < ns.length),∀ m r,ns=m::r->ns[argBest bt k]?=some (f m (r.take k))
 | 0,h,m,r,e=>by
  subst e;simp [argBest,f0]
 | k+1,h,m,r,e=>by
  have ih:=Kc bt f ns b hb f0 f1 k (by omega) m r e;have hk:k < r.length:=by rw [e,List.length_cons] at h;omega
  have e1:ns[k+1]?=some r[k]:=by rw [e,List.getElem?_cons_succ,List.getElem?_eq_getElem hk]
  have e2:r.take (k+1)=r.take k++[r[k]]:=by rw [List.take_add_one,List.getElem?_eq_getElem hk];rfl
  have e3:=hb (k+1) (argBest bt k) _ _ e1 ih;rw [e2,f1];unfold argBest;rw [e3];split
  ·exact e1
  ·exact ih
theorem Qq:∀ (l:List Int) (m x:Int),Hu m (l++[x])=if decide (Hu m l < x)=true then x else Hu m l
 | [],m,x=>by by_cases h:m < x <;> simp [Hu,h]
 | y::l,m,x=>by
  show Hu _ (l++[x])=_;rw [Qq l];rfl
theorem Qs:∀ (l:List Int) (m x:Int),Hf m (l++[x])=if decide (x < Hf m l)=true then x else Hf m l
 | [],m,x=>by by_cases h:x < m <;> simp [Hf,h]
 | y::l,m,x=>by
  show Hf _ (l++[x])=_;rw [Qs l];rfl
noncomputable def Rz (f:Int->List Int->Int):List D->MH->Option (D×MH)
 | [x],mh=>match Eu x mh with
  | some ds=>match intsOf ds with
   | some (n::r)=>some (.int (f n r),mh)
   | _=>none
  | none=>none
 | _,_=>none
theorem Uz {f:Int->List Int->Int}{ds:List D}{mh mh':MH}{d:D}(h:Rz f ds mh=some (d,mh')):∃ x n r,ds=[x]/\Eu x mh=some ((n::r).map D.int)/\d=.int (f n r)/\mh'=mh:=by
 match ds,h with
 | [x],h =>
  have h:(match Eu x mh with | some ds=>(match intsOf ds with | some (n::r)=>some (D.int (f n r),mh) | _=>none) | none=>none)=some (d,mh'):=h;split at h
  ·rename_i es e;split at h
   ·rename_i n r eb;cases h;rw [Dm eb] at e;exact ⟨x,n,r,rfl,e,rfl,rfl⟩
   ·cases h
  ·cases h
 | [],h=>cases h
 | _::_::_,h=>cases h
noncomputable def maxD:List D->MH->Option (D×MH):=Rz Hu
noncomputable def minD:List D->MH->Option (D×MH):=Rz Hf
section
variable {X:Cx}
theorem Y4 (hc:X.calm=true) {id:String}{f:Int->List Int->Int}{op:CmpOp}{b:Int->Int->Bool}(f0:∀ m,f m []=m) (f1:∀ m l x,f m (l++[x])=if b x (f m l)=true then x else f m l)
  (cmp:∀ {A:Around} {x y:Int} {t u:Tok} {Q:Value->Shared->Prop} {E:Value->Shared->Prop} {s:Shared},Q (.bool (b x y)) s->wpAny (model X.prog X.w) A (richCompare op (.int x t) (.int y u)) Q E s)
  (call_w:∀ {A:Around} {x:Value} {Q:Value->Shared->Prop} {E:Value->Shared->Prop} {s:Shared},wpAny (model X.prog X.w) A.in1 (pyIter x) (fun it s₂=>∃ I fp wr n P St bt,it=.ref I/\Walks X.prog X.w A.in1 I fp wr n P St/\St 0 s₂.heap/\(∀ b∈fp,b < s₂.heap.objs.size)/\0 < n/\CmpOf X.prog X.w A.in1 op P bt /\
   ∀ v h' tk,P (argBest bt (n - 1)) v->(∀ b o,b ∉ wr->s₂.heap.get? b=some o->h'.get? b=some o)->Q v { s₂ with heap:=h',toks:=tk }) E s->wpAny (model X.prog X.w) A (call (.builtin id) [x]) Q E s) :
  Bg X (.builtin id) (rDs X.K (Rz f)):=by
 rintro pins s σ H xs us Q I r ⟨ρ,mh,ds,d,mh',q,rs,rd,co⟩;obtain ⟨x,n,l,rfl,e,rfl,rfl⟩:=Uz q;obtain ⟨v,rfl,rx⟩:=K4 rd;obtain ⟨u,rfl,ru⟩:=vals1 r;obtain ⟨p,ys,rfl,hq,ry⟩:=J5 rs rx e;cases ru;rw [Hz ry] at hq;refine call_w (iH I (A:=X.A.in1) (I.ok.hd hc) hq fun its St h2 rv W st hfp hk=>?_);have hlen:(n::l).length=its.length:=by have:=rv.length;simpa using this
 refine ⟨_,_,_,its.length,_,St,fun i j=>(match (n::l)[i]?,(n::l)[j]? with | some x,some y=>b x y | _,_=>false),rfl,W,st,hfp,by rw [← hlen];simp,fun i j vi vj s' Q' E' hi hj hQ=>?_,fun v h' tk hP hk'=>?_⟩
 ·obtain ⟨a,t,e1,rfl⟩:=Ka rv hi;obtain ⟨a',t',e2,rfl⟩:=Ka rv hj;simp only [e1,e2] at hQ;exact cmp hQ
 ·have ar:=Kc (fun i j=>(match (n::l)[i]?,(n::l)[j]? with | some x,some y=>b x y | _,_=>false)) f (n::l) b (fun i j x y e1 e2=>by simp only [e1,e2]) f0 f1 (its.length - 1) (by rw [hlen];simp at hlen;omega) n l rfl;obtain ⟨a,t,e1,rfl⟩:=Ka rv hP;rw [ar] at e1;have e3:l.take (its.length - 1)=l:=List.take_of_length_le (by rw [← hlen];simp);rw [e3] at e1;cases e1;exact ⟨.int _,H,I.kept (t':=tk) (iJ hk' hk),⟨t,rfl⟩,co H ρ _ Ev.refl rs (.int _)⟩
end
theorem iK (l b:Addr) (n n2:Nat) (sl:Array (Option Value)) {items more:Array Value}(h0:¬(!items.isEmpty&&Builtin.List.listTooLong (items.size+more.size))=true) (h1:items.size+more.size<=sizeLine) :
  PySem.Meets (Builtin.«list.extend» ⟨[.ref l,.ref b],[]⟩) (fun _ R s=>s.heap.get? l=some ⟨.type "list",none,.seq items n,#[]⟩/\s.heap.get? b=some ⟨.type "tuple",none,.seq more n2,sl⟩/\R (.ok (.ret .none)) { s with heap:=s.heap.update l (Obj.mapSeq fun x=>x++more),toks:=s.toks }):=by
 refine .of_wp fun prog w A R st hh=>?_
 have hj:(items++more).size<=sizeLine+1:=by rw [Array.size_append];omega
 have hi:items.size<=sizeLine:=by omega
 cases st;rcases hh with ⟨e1,e2,e3⟩
 have q1:=PySem.AutoSeq1.sub_list_tuple;have q2:=PySem.AutoSeq1.sub_tuple_list;have q3:=PySem.AutoSeq1.sub_list_list;have q4:=PySem.AutoSeq1.sub_tuple_tuple;wp_walk using (wpAny_updateSeq e1 rfl (hz:=hi) (_hz':=hj)),PySem.AutoSeq1.wpAny_loadPart' e1,PySem.AutoSeq1.wpAny_loadPart' e2
 exact ⟨_,rfl,e3⟩
section
variable {X:Cx}
theorem bB (hc:X.calm=true):Bg X (.builtin "max") (rDs X.K maxD):=Y4 (op:=.Gt) (b:=fun x m=>decide (m < x)) hc (fun _=>rfl) (fun m l x=>Qq l m x) (fun h=>PyProof.Rows.gt_int h) fun h=>call_max_walk h
theorem bC (hc:X.calm=true):Bg X (.builtin "min") (rDs X.K minD):=Y4 (op:=.Lt) (b:=fun x m=>decide (x < m)) hc (fun _=>rfl) (fun m l x=>Qs l m x) (fun h=>PyProof.Rows.lt_int h) fun h=>call_min_walk h
noncomputable def H9:D->List D->MH->Option (D×MH)
 | .ref n,[.int i],mh=>match mh[n]? with
  | some (.lst ds)=>if -(2 ^ 63)<=i/\i < 2 ^ 63 then (match ixN ds.length i with
   | some k=>(match ds[k]? with | some y=>some (y,mh.set n (.lst (ds.eraseIdx k))) | none=>none)
   | none=>none) else none
  | _=>none
 | _,_,_=>none
theorem RDs.eraseIdx {K:PySem.W.Frag}{H:Hp}{ρ:List Addr}:∀ {ds:List D}{vs:List V}(n:Nat),RDs K H ρ ds vs->RDs K H ρ (ds.eraseIdx n) (vs.eraseIdx n)
 | _,_,_,.nil=>.nil
 | _,_,0,.cons _ t=>t
 | _,_,n+1,.cons r t=>.cons r (RDs.eraseIdx n t)
theorem RDs.dropLast {K:PySem.W.Frag}{H:Hp}{ρ:List Addr}:∀ {ds:List D}{vs:List V},RDs K H ρ ds vs->RDs K H ρ ds.dropLast vs.dropLast
 | _,_,.nil=>.nil
 | _,_,.cons _ .nil=>.nil
 | _,_,.cons r (.cons r2 t)=>.cons r (RDs.dropLast (.cons r2 t))
theorem U0 {dx d:D}{ds:List D}{mh mh':MH}(q:H9 dx ds mh=some (d,mh')):∃ n xs i k,dx=.ref n/\ds=[.int i]/\mh[n]?=some (.lst xs)/\(-(2 ^ 63)<=i/\i < 2 ^ 63)/\ixN xs.length i=some k/\xs[k]?=some d/\mh'=mh.set n (.lst (xs.eraseIdx k)):=by
 cases dx with
 | ref n =>
  match ds,q with
  | [.int i],q =>
   have q:(match mh[n]? with | some (.lst ds)=>if -(2 ^ 63)<=i/\i < 2 ^ 63 then (match ixN ds.length i with | some k=>(match ds[k]? with | some y=>some (y,mh.set n (.lst (ds.eraseIdx k))) | none=>none) | none=>none) else none | _=>none)=some (d,mh'):=q;split at q
   ·rename_i xs em;split at q
    ·rename_i hb;split at q
     ·rename_i k ek;split at q
      ·rename_i y ey;cases q;exact ⟨n,xs,i,k,rfl,rfl,em,hb,ek,ey,rfl⟩
      ·cases q
     ·cases q
    ·cases q
   ·cases q
  | [],q=>cases q
  | .non::_,q=>cases q
  | .bl _::_,q=>cases q
  | .str _::_,q=>cases q
  | .tup _::_,q=>cases q
  | .ref _::_,q=>cases q
  | .rol _::_,q=>cases q
  | .obj ..::_,q=>cases q
  | .fn _::_,q=>cases q
  | .lam::_,q=>cases q
  | .int _::_::_,q=>cases q
 | _=>cases q
theorem bD:MtR X "list.pop" (rDM X.K H9):=by
 refine Mv dZ ?_;rintro x xs H Q ⟨ρ,mh,dx,ds,d,mh',q,rs,rx,r,co⟩;obtain ⟨n,es,i,k,rfl,rfl,em,hb,ek,ey,rfl⟩:=U0 q;obtain ⟨v,rfl,rv⟩:=K4 r;cases rv;cases rx with
 | @ref _ a hn =>
 obtain ⟨a',ha,us,hu,ru⟩:=rs.at em;rw [hn] at ha;cases ha;obtain ⟨w',hw,rw'⟩:=ru.get ey;refine ⟨a,us,i,k,w',rfl,rfl,hu,hb.1,hb.2,?_,hw,?_⟩
 ·rw [← ru.length];exact (Rg ek).1
 ·exact co _ ρ _ (Ev.lst hu) (rs.setL hn hu (ru.eraseIdx k)) (rw'.mono (Ev.lst hu))
noncomputable def bF:D->List D->MH->Option (D×MH)
 | .ref n,[],mh=>match mh[n]? with
  | some (.lst ds)=>(match ds[ds.length - 1]? with | some y=>some (y,mh.set n (.lst ds.dropLast)) | none=>none)
  | _=>none
 | _,_,_=>none
theorem sO:MtR X "list.pop" (rDM X.K bF):=by
 refine Mv yM ?_;rintro x xs H Q ⟨ρ,mh,dx,ds,d,mh',q,rs,rx,r,co⟩
 match ds,q with
 | [],q =>
  cases r;cases rx with
  | @ref n a hn =>
   simp only [bF] at q;split at q
   ·rename_i ds em;split at q
    ·rename_i y ey;cases q;obtain ⟨a',ha,us,hu,ru⟩:=rs.at em;rw [hn] at ha;cases ha;obtain ⟨w',hw,rw'⟩:=ru.get ey;refine ⟨a,us,w',rfl,rfl,hu,by rw [← ru.length];exact hw,?_⟩;exact co _ ρ _ (Ev.lst hu) (rs.setL hn hu ru.dropLast) (rw'.mono (Ev.lst hu))
    ·cases q
   ·cases q
  | _=>cases q
 | _::_,q=>cases dx <;> simp [bF] at q
noncomputable def Iu:D->List D->MH->Option (D×MH)
 | .ref n,[.ref m],mh=>match mh[n]?,mh[m]? with
  | some (.lst xs),some (.lst ys)=>if xs.length+ys.length<=sizeLine then some (.non,mh.set n (.lst (xs++ys))) else none
  | _,_=>none
 | .ref n,[.tup ys],mh=>match mh[n]? with
  | some (.lst xs)=>if xs.length+ys.length<=sizeLine then some (.non,mh.set n (.lst (xs++ys))) else none
  | _=>none
 | _,_,_=>none
theorem MtR.or {id:String}{r r':V->List V->Hp->VK->Prop}(h:MtR X id r) (h':MtR X id r'):MtR X id (fun x xs H Q=>r x xs H Q\/r' x xs H Q):=fun pins s σ H x xs v us Q I rx rs q =>
 q.elim (h pins s σ H x xs v us Q I rx rs) (h' pins s σ H x xs v us Q I rx rs)
theorem Xk:MtR X "list.extend" (fun x vs H Q=>∃ l b xs zs,x=.ref l/\vs=[.ref b]/\H l=some (.lst xs)/\SqT X.K H b zs/\xs.length+zs.length<=sizeLine/\Q .non (upd H l (.lst (xs++zs)))):=by
 rintro pins s σ H x vs v us Q I rx rv ⟨l,b,xs,zs,rfl,rfl,hH,hB,hz,q⟩;cases rx;obtain ⟨u,rfl,ru⟩:=rv.one;cases ru;obtain ⟨z,ia,n,r,hl,e⟩:=I.lstM hH;obtain ⟨ib,r2,⟨⟨oc,od,dt,sl⟩,e2,c2,d2,n2,t2⟩,z2⟩:=I.tupleP hB;cases c2;cases d2;cases t2;have h2:=r2.length;refine call_meets F.slot_list_extend ⟨_,e,rfl⟩ F.entry_list_extend (F.args_list_extend_2 _ _) (iK l b n n2 sl (items:=ia.toArray) (more:=ib.toArray) ?_ ?_) ⟨e,e2,?_⟩
 ·rw [T8 (by rw [List.size_toArray,List.size_toArray];omega),Bool.and_false];exact Bool.false_ne_true
 ·rw [List.size_toArray,List.size_toArray];omega
 ·refine ⟨.non,_,I.lset (its':=ia++ib) hH e (by simp) (r.append r2) ?_,rfl,q⟩;rw [List.length_append];omega
theorem R3 {dx d:D}{ds:List D}{mh mh':MH}(q:Iu dx ds mh=some (d,mh')):∃ n xs ys,dx=.ref n/\mh[n]?=some (.lst xs)/\((∃ m,ds=[.ref m]/\mh[m]?=some (.lst ys))\/ds=[.tup ys])/\xs.length+ys.length<=sizeLine/\d=.non/\mh'=mh.set n (.lst (xs++ys)):=by
 cases dx with
 | ref n =>
  match ds,q with
  | [.ref m],q =>
   have q:(match mh[n]?,mh[m]? with | some (.lst xs),some (.lst ys)=>if xs.length+ys.length<=sizeLine then some (D.non,mh.set n (.lst (xs++ys))) else none | _,_=>none)=some (d,mh'):=q;split at q
   ·rename_i xs ys e1 e2;split at q
    ·rename_i hz;cases q;exact ⟨n,xs,ys,rfl,e1,.inl ⟨m,rfl,e2⟩,hz,rfl,rfl⟩
    ·cases q
   ·cases q
  | [.tup ys],q =>
   have q:(match mh[n]? with | some (.lst xs)=>if xs.length+ys.length<=sizeLine then some (D.non,mh.set n (.lst (xs++ys))) else none | _=>none)=some (d,mh'):=q;split at q
   ·rename_i xs e1;split at q
    ·rename_i hz;cases q;exact ⟨n,xs,ys,rfl,e1,.inr rfl,hz,rfl,rfl⟩
    ·cases q
   ·cases q
  | [],q=>cases q
  | .non::_,q=>cases q
  | .bl _::_,q=>cases q
  | .str _::_,q=>cases q
  | .int _::_,q=>cases q
  | .rol _::_,q=>cases q
  | .obj ..::_,q=>cases q
  | .fn _::_,q=>cases q
  | .lam::_,q=>cases q
  | .tup _::_::_,q=>cases q
  | .ref _::_::_,q=>cases q
 | _=>cases q
theorem Xl:MtR X "list.extend" (rDM X.K Iu):=by
 refine Mv (MtR.or aA Xk) ?_;rintro x xs H Q ⟨ρ,mh,dx,ds,d,mh',q,rs,rx,r,co⟩;obtain ⟨n,es,fs,rfl,e1,hy,hz,rfl,rfl⟩:=R3 q;cases rx with
 | @ref _ a hn =>
 obtain ⟨a',ha,us,hu,ru⟩:=rs.at e1;rw [hn] at ha;cases ha;rcases hy with ⟨m,rfl,e2⟩|rfl
 ·obtain ⟨v,rfl,rv⟩:=K4 r;cases rv with
  | @ref _ b hb =>
   obtain ⟨b',hb',ws,hw,rw'⟩:=rs.at e2;rw [hb] at hb';cases hb';exact .inl ⟨a,b,us,ws,rfl,rfl,hu,hw,by rw [← ru.length,← rw'.length];exact hz,co _ ρ _ (Ev.lst hu) (rs.setL hn hu (ru.append rw')) .non⟩
 ·obtain ⟨v,rfl,rv⟩:=K4 r;cases rv with
  | @tup _ b zs hb rz=>exact .inr ⟨a,b,us,zs,rfl,rfl,hu,hb,by rw [← ru.length,← rz.length];exact hz,co _ ρ _ (Ev.lst hu) (rs.setL hn hu (ru.append rz)) .non⟩
end
section
variable {X:Cx}{pins:List (Addr×Obj)}{σ:L2.St}{H:Hp}{s:Shared}{fp:List Addr}{h':Heap}
theorem bG {t':Nat}(I:Inv X pins σ H s) (k:∀ b o,b ∉ fp->s.heap.get? b=some o->h'.get? b=some o) (hf:∀ b∈fp,J3 X pins H b):Inv X pins σ H { s with heap:=h',toks:=t' }:=by
 have nf:∀ b u,H b=some u->b ∉ fp:=fun b u e z=>by rw [(hf b z).1] at e;cases e
 refine I.step (g':=s.gens) (d':=s.drawn) (ch:=fp) (fun b hb=>⟨(hf b hb).2.2.2.1,(hf b hb).2.1,(hf b hb).2.2.2.2.1,(hf b hb).2.2.2.2.2⟩) (fun b o _ _ hc e _=>k b o hc e) (fun b o _ _ hc e _=>⟨o.slots,k b o hc e⟩) (fun _ _ _ _ n=>n)
  (fun b o hc e=>⟨o,k b o hc e⟩) (fun _ _ e=>e) (fun _ _ _ e=>e) (fun b ps e=>⟨#[],by rw [e];simp⟩) (fun m hm=>?_) (fun b u e=>?_) I.bare
 ·obtain ⟨o,es,ep,ho,r⟩:=hm;exact ⟨o,es,ep,k _ o (fun z=>(hf _ z).2.1 rfl) ho,r⟩
 ·refine (I.hok b u e).stay (fun c v hc q=>k c v ?_ q) (fun _ q=>q) fun _ _ q=>q
  rcases hc with z|z
  ·rw [z];exact nf b u e
  ·exact nf c _ z
theorem Pq {t':Nat}{a:Addr}{o:HO}(I:Inv X pins σ H s) (k:∀ b o,b ∉ fp->s.heap.get? b=some o->h'.get? b=some o) (hf:∀ b∈fp,J3 X pins H b) (hp:s.heap.objs.size<=a) (new:Cw X.prog X.w (upd H a o) h' a o) :
  Inv X pins σ (upd H a o) { s with heap:=h',toks:=t' }:=by
 have hn:H a=none:=I.hok.fresh hp;have nb:∀ b u,H b=some u->upd H a o b=some u:=fun b u e=>by rw [Aq (Av e hn)];exact e
 have nf:∀ b u,H b=some u->b ∉ fp:=fun b u e z=>by rw [(hf b z).1] at e;cases e
 refine I.step (g':=s.gens) (d':=s.drawn) (ch:=fp) (fun b hb=>⟨(hf b hb).2.2.2.1,(hf b hb).2.1,(hf b hb).2.2.2.2.1,(hf b hb).2.2.2.2.2⟩) (fun b o _ _ hc e _=>k b o hc e) (fun b o _ _ hc e _=>⟨o.slots,k b o hc e⟩) (fun b o' hc e n=>?_)
  (fun b o hc e=>⟨o,k b o hc e⟩) (fun b xs e=>nb _ _ e) (fun b o u e=>nb _ _ e) (fun b ps e=>⟨#[],by rw [nb _ _ e];simp⟩) (fun m hm=>?_) (fun b u e=>?_) I.bare
 ·rw [Aq (Nat.ne_of_lt (Nat.lt_of_lt_of_le (Heap.lt_size e) hp))];exact n
 ·obtain ⟨o,es,ep,ho,r⟩:=hm;exact ⟨o,es,ep,k _ o (fun z=>(hf _ z).2.1 rfl) ho,r⟩
 ·by_cases hb:b=a
  ·subst hb;rw [Cm] at e;cases e;exact new
  ·rw [Aq hb] at e;refine (I.hok b u e).stay (fun c v hc q=>k c v ?_ q) (fun c q=>nb _ _ q) fun c xs q=>nb _ _ q
   rcases hc with z|z
   ·rw [z];exact nf b u e
   ·exact nf c _ z
end
section
variable {prog:Program}{w:World}{A:Around}{E:Value->Shared->Prop}{s:Shared}
theorem U3 {it l:Addr}{i:Nat}{items:Array Value}{x:Value}{Q:Value->Shared->Prop}(hit:s.heap.IsTupleIter it l i) (hl:s.heap.IsTuple l items) (hx:items[i]?=some x)
  (hQ:∀ h',h'.IsTupleIter it l (i+1)->Heap.SameBut it s.heap h'->Q x { s with heap:=h' }):wpAny (model prog w) A (Builtin.SmallTypes.nextOf (.ref it)) Q E s:=by
 obtain ⟨o,ho,hc,hd⟩:=id hit;obtain ⟨ol,hol,_,nl,hdl⟩:=hl;unfold Builtin.SmallTypes.nextOf
 refine wpAny_bind (wpAny_callSpecial?_slot (name:=Str.ofString "__next__") hit.typeIs F.slot_tuple_iterator_next (wpAny_call_entry F.slot_tuple_iterator_next hit.typeIs F.entry_tuple_iterator_next ?_ (F.args_tuple_iterator_next_1 _)));show wpAny _ _ (field (.ref it) 0 >>= _) _ _ s;refine wpAny_bind (wpAny_field ho hd (x:=.ref l) rfl ?_);show wpAny _ _ (if (Value.ref l==Value.none)=true then _ else _) _ _ s;rw [if_neg (show ¬ ((Value.ref l==Value.none)=true) from Bool.false_ne_true)];show wpAny _ _ (field (.ref it) 1 >>= _) _ _ s;refine wpAny_bind (wpAny_field ho hd (x:=.int i 0) rfl ?_);show wpAny _ _ (seqItems? (.ref l) >>= _) _ _ s;refine wpAny_bind (wpAny_seqItems hol hdl ?_);simp only [Int.toNat_natCast,hx];refine wpAny_bind (wpAny_setField ho hd (by simp) (wpAny_pure ⟨x,rfl,wpAny_pure (hQ _ ⟨_,Heap.get?_update_self _ ho (Obj.isFreed_of_fields (Obj.data_mapFields hd _)),(Obj.cls_mapFields ..).trans hc,?_⟩ (Heap.SameBut.update ..))⟩));rw [Obj.data_mapFields hd];simp [rawInt]
theorem U4 {it l:Addr}{i:Nat}{items:Array Value}{Q:Value->Shared->Prop}(hh:A.handled=none) (hit:s.heap.IsTupleIter it l i) (hl:s.heap.IsTuple l items) (hx:items[i]?=none)
  (hE:∀ h' e,Heap.ExtBut it s.heap h'->(∃ o,h'.get? e=some o/\o.cls=.type "StopIteration")->E (.ref e) { s with heap:=h' }):wpAny (model prog w) A (Builtin.SmallTypes.nextOf (.ref it)) Q E s:=by
 obtain ⟨o,ho,hc,hd⟩:=id hit;obtain ⟨ol,hol,_,nl,hdl⟩:=hl;unfold Builtin.SmallTypes.nextOf
 refine wpAny_bind (wpAny_callSpecial?_slot (name:=Str.ofString "__next__") hit.typeIs F.slot_tuple_iterator_next (wpAny_call_entry F.slot_tuple_iterator_next hit.typeIs F.entry_tuple_iterator_next ?_ (F.args_tuple_iterator_next_1 _)));show wpAny _ _ (field (.ref it) 0 >>= _) _ _ s;refine wpAny_bind (wpAny_field ho hd (x:=.ref l) rfl ?_);show wpAny _ _ (if (Value.ref l==Value.none)=true then _ else _) _ _ s;rw [if_neg (show ¬ ((Value.ref l==Value.none)=true) from Bool.false_ne_true)];show wpAny _ _ (field (.ref it) 1 >>= _) _ _ s;refine wpAny_bind (wpAny_field ho hd (x:=.int i 0) rfl ?_);show wpAny _ _ (seqItems? (.ref l) >>= _) _ _ s;refine wpAny_bind (wpAny_seqItems hol hdl ?_);simp only [Int.toNat_natCast,hx]
 refine wpAny_bind (wpAny_rule (wpAny_bind (wpAny_setField ho hd (by simp) ?_)));show wpAny _ _ (newExc (.type "StopIteration") [] >>= _) _ _ _;refine wpAny_bind ?_;simp only [newExc,newTuple];refine wpAny_bind (wpAny_newObj_type ?_ (by size_fits));refine wpAny_bind (m:=firstArgMember _ _) (wpAny_of_eq (a:=Value.none) (by first | rfl | (simp only [firstArgMember];rfl)) ?_);refine wpAny_newObj_type ?_ (by size_fits);simp only [raiseNew];refine wpAny_bind (wpAny_handled ?_);first | rw [show A.in1.handled=none from hh] | rw [hh]
 refine wpAny_bind (wpAny_pure (wpAny_throw (hE _ _ (((Heap.SameBut.update ..).extBut.push _).push _) ⟨_,Heap.get?_push_size _ rfl,rfl⟩)))
theorem bH (hh:A.handled=none) (it l:Addr) (hne:l≠it) (items:Array Value):Draws prog w A it [it,l] items.size (fun i v=>items[i]?=some v) (fun i h=>h.IsTupleIter it l i/\h.IsTuple l items) where
 live:=fun _ _ st=>let ⟨o,ho,_⟩:=st.1;⟨o,ho⟩
 frame:=fun _ _ _ st hk=>⟨let ⟨o,ho,r⟩:=st.1;⟨o,hk it (by simp) o ho,r⟩,let ⟨o,ho,r⟩:=st.2;⟨o,hk l (by simp) o ho,r⟩⟩
 item:=fun i s Q E hi st hQ=>U3 st.1 st.2 (x:=items[i]) (by simp [hi]) fun h' hit' hs'=>hQ _ h' s.toks (by simp [hi]) ⟨hit',st.2.extBut hs'.extBut hne⟩ hs'
 done:=fun s Q E st hE=>U4 hh st.1 st.2 (by simp) hE
end
theorem k_ne {X:Cx}{pins:List (Addr×Obj)}{σ:L2.St}{H:Hp}{s:Shared}{a b:Addr}{o:Obj}(I:Inv X pins σ H s) (e:X.K.lookup a=some o) (f:J3 X pins H b):a≠b:=fun z=>by
 have hb:=I.ok.mod.kin a o e;rcases f.2.2.2.1 with q|q
 ·exact I.ok.noex a o hb (z ▸ q)
 ·have h1:a < X.base.objs.size:=Heap.lt_size hb;have h2:=I.ok.bsz;have h3:X.s₀.heap.objs.size<=a:=z ▸ q;exact absurd (Nat.lt_of_lt_of_le h1 h2) (Nat.not_lt.mpr h3)
theorem vL {H:Hp}{a b:Addr}{u:HO}(h:Rd H a u) (f:H b=none):a≠b:=fun z=>by
 rcases h with h | ⟨o,h⟩ <;> (rw [z,f] at h;cases h)
structure SeqK where
 sq:PySem.W.Frag->Hp->Addr->List V->Prop
 isIt:Heap->Addr->Addr->Nat->Prop
 isSeq:Heap->Addr->Array Value->Prop
 cls:String
 get:∀ {X:Cx} {pins:List (Addr×Obj)} {σ:L2.St} {H:Hp} {s:Shared} {a:Addr} {xs:List V},Inv X pins σ H s->sq X.K H a xs->∃ its:List Value,Vals xs its/\isSeq s.heap a its.toArray/\xs.length<=sizeLine
 inj:∀ {X:Cx} {pins:List (Addr×Obj)} {σ:L2.St} {H:Hp} {s:Shared} {a:Addr} {xs ys:List V},Inv X pins σ H s->sq X.K H a xs->sq X.K H a ys->xs=ys
 itO:∀ {h:Heap} {it l:Addr} {i:Nat},isIt h it l i->∃ o,h.get? it=some o/\o.cls=.type cls/\∃ vs,o.data=.fields vs
 itK:∀ {h h':Heap} {it l:Addr} {i:Nat},isIt h it l i->(∀ o,h.get? it=some o->h'.get? it=some o)->isIt h' it l i
 seqO:∀ {h:Heap} {l:Addr} {items:Array Value},isSeq h l items->∃ o,h.get? l=some o/\∃ n,o.data=.seq items n
 U5:∀ {h h':Heap} {l:Addr} {items:Array Value},isSeq h l items->(∀ o,h.get? l=some o->h'.get? l=some o)->isSeq h' l items
 draws:∀ {prog:Program} {w:World} {A:Around},A.handled=none->∀ (it l:Addr),l≠it->∀ (items:Array Value),Draws prog w A it [it,l] items.size (fun i v=>items[i]?=some v) (fun i h=>isIt h it l i/\isSeq h l items)
 iter:∀ {prog:Program} {w:World} {A:Around} {E:Value->Shared->Prop} {s:Shared} {l:Addr} {items:Array Value} {Q:Value->Shared->Prop},isSeq s.heap l items ->
  Q (.ref s.heap.objs.size) { s with heap:=s.heap.push { cls:=.type cls,data:=.fields #[.ref l,.int 0 0] } }->wpAny (model prog w) A (pyIter (.ref l)) Q E s
 stop:∀ {prog:Program} {w:World} {A:Around} {E:Value->Shared->Prop} {s:Shared} {it l:Addr} {i:Nat} {items:Array Value} {Q:Value->Shared->Prop},A.handled=none->isIt s.heap it l i->isSeq s.heap l items->items[i]?=none ->
  (∀ h' e,Heap.ExtBut it s.heap h'->(∃ o,h'.get? e=some o/\o.cls=.type "StopIteration")->E (.ref e) { s with heap:=h' })->wpAny (model prog w) A (Builtin.SmallTypes.nextOf (.ref it)) Q E s
 next:∀ {prog:Program} {w:World} {A:Around} {E:Value->Shared->Prop} {s:Shared} {it l:Addr} {i:Nat} {items:Array Value} {x:Value} {Q:Value->Shared->Prop},isIt s.heap it l i->isSeq s.heap l items->items[i]?=some x ->
  (∀ h',isIt h' it l (i+1)->Heap.SameBut it s.heap h'->Q x { s with heap:=h' })->wpAny (model prog w) A (Builtin.SmallTypes.nextOf (.ref it)) Q E s
 ne:∀ {X:Cx} {pins:List (Addr×Obj)} {σ:L2.St} {H:Hp} {s:Shared} {a b:Addr} {xs:List V},Inv X pins σ H s->sq X.K H a xs->J3 X pins H b->a≠b
 new:∀ (h:Heap) (l:Addr),isIt (h.push { cls:=.type cls,data:=.fields #[.ref l,.int 0 0] }) h.objs.size l 0
noncomputable def sS:SeqK where
 sq:=SqL
 isIt:=fun h it l i=>h.IsListIter it l i
 isSeq:=fun h l its=>h.IsList l its
 cls := "list_iterator"
 get:=fun I h=>let ⟨its,r,p,z⟩:=I.list h;⟨its,r,p.isList,z⟩
 inj:=fun I h h'=>I.list_inj h h'
 itO:=fun ⟨o,e,c,d⟩=>⟨o,e,c,_,d⟩
 itK:=fun st k=>st.at k
 seqO:=fun ⟨o,e,_,n,d⟩=>⟨o,e,n,d⟩
 U5:=fun ⟨o,e,r⟩ k=>⟨o,k o e,r⟩
 draws:=fun hh it l hne items=>Draws.list hh it l hne items
 iter:=fun hs q=>wpAny_pyIter_list hs q
 stop:=fun hh a b c d=>wpAny_nextOf_list_end hh a b c d
 next:=fun a b c d=>wpAny_nextOf_list_item a b c d
 ne:=fun I h f=>by
  rcases h with h|⟨o,its,n,hk,_⟩
  ·exact vL h f.1
  ·exact k_ne I hk f
 new:=fun h l=>⟨_,Heap.get?_push_size _ rfl,rfl,rfl⟩
noncomputable def Adq:SeqK where
 sq:=SqT
 isIt:=fun h it l i=>h.IsTupleIter it l i
 isSeq:=fun h l its=>h.IsTuple l its
 cls := "tuple_iterator"
 get:=fun I h=>let ⟨its,r,p,z⟩:=I.tuple h;⟨its,r,p,z⟩
 inj:=fun I h h'=>I.tuple_inj h h'
 itO:=fun ⟨o,e,c,d⟩=>⟨o,e,c,_,d⟩
 itK:=fun ⟨o,e,r⟩ k=>⟨o,k o e,r⟩
 seqO:=fun ⟨o,e,_,n,d⟩=>⟨o,e,n,d⟩
 U5:=fun ⟨o,e,r⟩ k=>⟨o,k o e,r⟩
 draws:=fun hh it l hne items=>bH hh it l hne items
 iter:=fun hs q=>wpAny_pyIter_tuple hs q
 stop:=fun hh a b c d=>U4 hh a b c d
 next:=fun a b c d=>U3 a b c d
 ne:=fun I h f=>by
  rcases h with h|⟨o,its,n,hk,_⟩
  ·exact vL h f.1
  ·exact k_ne I hk f
 new:=fun h l=>⟨_,Heap.get?_push_size _ rfl,rfl,rfl⟩
noncomputable def Ite (k:SeqK) (K:PySem.W.Frag) (a:Addr):It :=
 ⟨fun i H=>∃ xs x,k.sq K H a xs/\xs[i]?=some x,fun i H y H'=>∃ T x,H T=none/\y=.ref T/\(∀ xs,k.sq K H a xs->xs[i]?=some x)/\H'=upd H T (.tup [.int i,x]),fun i H=>∃ xs,k.sq K H a xs/\xs.length<=i⟩
theorem zZ {k:SeqK}{h:Heap}{it l:Addr}{i:Nat}{items:Array Value}(a:k.isIt h it l i) (b:k.isSeq h l items):l≠it:=fun z=>by
 obtain ⟨o,e,c,vs,d⟩:=k.itO a;obtain ⟨o',e',n,d'⟩:=k.seqO b;rw [z,e] at e';cases e';rw [d] at d';cases d'
theorem bI {P:Program}{w:World}{K:PySem.W.Frag}(k:SeqK) {elts:List Expr}{kk:Nat}{tp:Pos}(a e it:Addr) (hne:e≠it):Turn P w K (.Tuple elts kk tp) (Ite k K a) [e,it] e (fun i h=>(∃ old,IsEnum h e it i old)/\k.isIt h it a i) where
 mem:=by simp
 obj:=fun i h st b hb=>by
  have hb:b=e\/b=it:=by simpa using hb
  rcases hb with rfl|rfl
  ·obtain ⟨old,q⟩:=st.1
   exact ⟨_,q,fun v z=>by
    have z':Data.fields _=Data.cell v:=z
    cases z'⟩
  ·obtain ⟨o,q,c,vs,d⟩:=k.itO st.2;exact ⟨o,q,fun v z=>by rw [d] at z;cases z⟩
 keep:=fun i h h' st kp=>⟨let ⟨old,q⟩:=st.1;⟨old,kp e (by simp) _ q⟩,k.itK st.2 fun o q=>kp it (by simp) o q⟩
 item:=by
  intro X hP hw hK hc i pins s σ H E I hf st hg;subst hP hw hK;obtain ⟨xs,x,hq,hx⟩:=hg;obtain ⟨its,rv,p,hz⟩:=k.get I hq;obtain ⟨u,hu,ru⟩:=rv.get hx;obtain ⟨⟨old,he⟩,hit⟩:=st;have hae:a≠e:=fun z=>by
   obtain ⟨o',e',n,d'⟩:=k.seqO p;rw [z,he] at e';cases e';cases d'
  have hai:=zZ hit p;have D:=k.draws (prog:=X.prog) (w:=X.w) (A:=X.A.in1) (I.ok.hd hc) it a hai its.toArray;have hi:i < its.toArray.size:=by rw [List.size_toArray];exact (List.getElem?_eq_some_iff.mp hu).1
  refine wpAny_pyNext_enum_itemD D he ⟨hit,p⟩ hi hne (by simp [hne,hae.symm]) fun y h1 tk hy ho st1 hT _ hk=>?_
  have ey:y=u:=by
   have hy':its[i]?=some y:=by simpa using hy
   rw [hu] at hy';cases hy';rfl
  subst ey;refine ⟨_,rfl,wpAny_letOwnedTupleGo_enum ho fun h2 he2 hs2=>?_⟩;have elt:e < s.heap.objs.size:=Heap.lt_size he;have ilt:it < s.heap.objs.size:=by
   obtain ⟨o,q,_⟩:=k.itO hit;exact Heap.lt_size q
  have hT2:Pb h2 s.heap.objs.size #[.int i tk,y]:=⟨_,hs2.extBut _ _ (Nat.ne_of_gt elt) hT,rfl,rfl,_,rfl⟩;have nb:∀ b,b ∉ [e,it]->b≠e/\b≠it:=fun b hb=>by simpa using hb
  have I2:Inv X pins σ (upd H s.heap.objs.size (.tup [.int i,x])) { s with heap:=h2,toks:=tk+1 }:=Pq (fp:=[e,it]) I (fun b o hb q=>hs2.extBut b o (nb b hb).1 (hk b o (nb b hb).1 (nb b hb).2 q)) hf (Nat.le_refl _) ⟨by simp [sizeLine_eq],[.int i tk,y],.cons ⟨tk,rfl⟩ (.cons ru .nil),hT2⟩;refine ⟨.ref s.heap.objs.size,_,I2,rfl,⟨s.heap.objs.size,x,I.hok.fresh (Nat.le_refl _),rfl,fun ys hy=>by rw [k.inj I hy hq];exact hx,rfl⟩,⟨⟨_,by simpa using he2⟩,k.itK st1.1 fun o q=>hs2.extBut _ _ hne.symm q⟩,fun b hb=>?_⟩;rw [Aq ?_]
  ·exact (hf b hb).1
  ·intro z;have hb:b=e\/b=it:=by simpa using hb
   rcases hb with q|q
   ·rw [q] at z;exact absurd z (Nat.ne_of_lt elt)
   ·rw [q] at z;exact absurd z (Nat.ne_of_lt ilt)
 done:=by
  intro X hP hw hK hc i pins s σ H E I hf st hg;subst hP hw hK;obtain ⟨xs,hq,hx⟩:=hg;obtain ⟨its,rv,p,hz⟩:=k.get I hq;obtain ⟨⟨old,he⟩,hit⟩:=st;have hl:=rv.length
  have hT:s.TypeIs (.ref e) "enumerate":=⟨_,he,rfl⟩
  unfold pyNext
  refine wpAny_bind (wpAny_attempt (wpAny_callSpecial?_slot (name:=Str.ofString "__next__") hT F.slot_enumerate_next (wpAny_call_entry F.slot_enumerate_next hT F.entry_enumerate_next ?_ (F.args_enumerate_next_1 _))));show wpAny _ _ (field (.ref e) 2 >>= _) _ _ _;refine wpAny_bind (wpAny_field he rfl (x:=.ref it) rfl ?_);refine wpAny_bind (k.stop (A:=X.A.in1) (I.ok.hd hc) hit p (by simp;omega) fun h' x he' hx'=>?_);obtain ⟨o,ho,hcl⟩:=hx'
  refine wpAny_bind (wpAny_isInstance (T := "StopIteration") (b:=true) ⟨o,ho,hcl⟩ isSubtype_stop (wpAny_pure ⟨rfl,?_⟩));exact bG (t':=s.toks) (fp:=[e,it]) I (fun b o hb q=>he' b o (fun z=>hb (by simp [z])) q) hf
 self:=fun _ i s Q E st h=>by
  obtain ⟨⟨old,he⟩,_⟩:=st;exact wpAny_pyIter_enum he h
set_option maxHeartbeats 8000000 in
theorem U6 (l:Addr) (items:Array Value) (n:Nat) (dct:Option Addr) (sl:Array (Option Value)) :
    Meets (Builtin.«enumerate.__new__» ⟨[.type "enumerate",.ref l],[]⟩) (fun _ R s=>s.heap.get? l=some { cls:=.type "tuple",dict:=dct,data:=.seq items n,slots:=sl } /\
      R (.ok (.ret (.ref (s.heap.push { cls:=.type "tuple_iterator",data:=.fields #[.ref l,.int 0 0] }).objs.size)))
        { s with heap:=(s.heap.push { cls:=.type "tuple_iterator",data:=.fields #[.ref l,.int 0 0] }).push { cls:=.type "enumerate",data:=.fields #[.none,.bool false,.ref s.heap.objs.size,rawInt 0,.none,.none] } }) :=
  .of_wp fun prog w A R s h=>by
    obtain ⟨hp,g,d,tk,os⟩:=s;obtain ⟨hl,h⟩:=h;have hsub:=sub_enumerate;have hL:Heap.IsTuple (Shared.heap ⟨hp,g,d,tk,os⟩) l items:=⟨_,hl,rfl,n,rfl⟩;wp_walk using AutoSeq1.wpAny_loadPart' hl
    refine wpAny_stack_any fun st=>wpAny_pure ?_;split
    · rename_i c _ _ _ _ _
      cases (c==Value.type "enumerate") <;> (wp_walk using AutoSeq1.wpAny_loadPart' hl,wpAny_pyIter_tuple hL;exact ⟨_,rfl,h⟩)
    · (wp_walk using AutoSeq1.wpAny_loadPart' hl,wpAny_pyIter_tuple hL;exact ⟨_,rfl,h⟩)
section
variable {prog:Program}{w:World}{A:Around}{E:Value->Shared->Prop}{s:Shared}
theorem bJ {l:Addr}{items:Array Value}{Q:Value->Shared->Prop}(hL:s.heap.IsTuple l items)
  (h:∀ h',IsEnum h' (s.heap.objs.size+1) s.heap.objs.size 0 .none->h'.IsTupleIter s.heap.objs.size l 0->h'.objs.size=s.heap.objs.size+2->(∀ b o,s.heap.get? b=some o->h'.get? b=some o)->Q (.ref (s.heap.objs.size+1)) { s with heap:=h' }) :
  wpAny (model prog w) A (call (.type "enumerate") [.ref l]) Q E s:=by
 obtain ⟨⟨c,dct,dt,sl⟩,hl,hc,n,hd⟩:=hL
 replace hc:c=.type "tuple":=hc
 replace hd:dt=.seq items n:=hd
 subst hc hd;refine callType_new F.called_enumerate (by decide) (F.typeCall_enumerate_1 _) (F.newCall_enumerate_1 _) (fun obj=>F.args_object_init_2 obj _) F.entry_enumerate_new (U6 l items n dct sl) ⟨hl,?_⟩
 have hz:(s.heap.push { cls:=.type "tuple_iterator",data:=.fields #[.ref l,.int 0 0] }).objs.size=s.heap.objs.size+1:=Heap.size_push ..;show _/\_;rw [hz]
 have he:IsEnum ((s.heap.push { cls:=.type "tuple_iterator",data:=.fields #[.ref l,.int 0 0] }).push { cls:=.type "enumerate",data:=.fields #[.none,.bool false,.ref s.heap.objs.size,rawInt 0,.none,.none] }) (s.heap.objs.size+1) s.heap.objs.size 0 .none:=by
  have:=Heap.get?_push_size (s.heap.push { cls:=.type "tuple_iterator",data:=.fields #[.ref l,.int 0 0] }) (o:={ cls:=.type "enumerate",data:=.fields #[.none,.bool false,.ref s.heap.objs.size,rawInt 0,.none,.none] }) rfl;rw [hz] at this;exact this
 refine ⟨⟨_,he,rfl⟩,h _ he ⟨_,Heap.get?_push_of_some _ (Heap.get?_push_size _ rfl),rfl,rfl⟩ (by rw [Heap.size_push,hz]) fun b o x=>Heap.get?_push_of_some _ (Heap.get?_push_of_some _ x)⟩
end
structure SR (k:SeqK) (K:PySem.W.Frag) (H0:Hp) (ρ0:List Addr) (src:Src) (a:Addr):Prop where
 rd:∀ H ρ mh,Ev K H0 ρ0 H ρ->RS K H ρ mh->src.ok mh=true->∃ xs,k.sq K H a xs/\RDs K H ρ (src.items mh) xs
 ok:∀ (mh:MH) (i:Nat) (d:D),(src.items mh)[i]?=some d->src.ok mh=true
theorem SR.tup {K:PySem.W.Frag}{H0:Hp}{ρ0:List Addr}{ds:List D}{a:Addr}{xs:List V}(s:SqT K H0 a xs) (r:RDs K H0 ρ0 ds xs):SR Adq K H0 ρ0 (.seq ds) a :=
 ⟨fun H ρ mh e rs _=>⟨xs,e.tup _ _ s,r.mono e⟩,fun _ _ _ _=>rfl⟩
theorem SR.rol {K:PySem.W.Frag}{H0:Hp}{ρ0:List Addr}{ds:List D}{a:Addr}{xs:List V}(s:Hq K H0 a xs) (r:RDs K H0 ρ0 ds xs):SR sS K H0 ρ0 (.seq ds) a :=
 ⟨fun H ρ mh e rs _=>⟨xs,(e.perm _ _ s).sq,r.mono e⟩,fun _ _ _ _=>rfl⟩
theorem SR.lst {K:PySem.W.Frag}{H0:Hp}{ρ0:List Addr}{n:Nat}{a:Addr}(h:ρ0[n]?=some a):SR sS K H0 ρ0 (.lref n) a:=by
 refine ⟨fun H ρ mh e rs ok=>?_,fun mh i d q=>?_⟩
 ·have ok:(match mh[n]? with | some (.lst _)=>true | _=>false)=true:=ok;obtain ⟨o,eo⟩:∃ o,mh[n]?=some (.lst o):=by
   split at ok
   ·exact ⟨_,‹_›⟩
   ·cases ok
  obtain ⟨a',ha,ro⟩:=rs.at eo;rw [e.at h] at ha;cases ha;obtain ⟨xs,sq,r⟩:=ro.read;refine ⟨xs,sq,?_⟩;show RDs K H ρ (match mh[n]? with | some (.lst o)=>o | _=>[]) xs;rw [eo];exact r
 ·have q:(match mh[n]? with | some (.lst o)=>o | _=>[])[i]?=some d:=q;show (match mh[n]? with | some (.lst _)=>true | _=>false)=true;split at q
  ·rfl
  ·simp at q
theorem Qt:∀ (l:List D) (j i:Nat),(Ei j l)[i]?=(l[i]?).map fun d=>D.tup [.int ((j+i:Nat):Int),d]
 | [],_,_=>by simp [Ei]
 | d::r,j,0=>by simp [Ei]
 | d::r,j,i+1=>by
  show (Ei (j+1) r)[i]?=_;rw [Qt r (j+1) i,List.getElem?_cons_succ];have e:j+1+i=j+(i+1):=by omega
  rw [e]
theorem Dy:∀ (l:List D) (j:Nat),(Ei j l).length=l.length
 | [],_=>rfl
 | _::r,j=>by show (Ei (j+1) r).length+1=r.length+1;rw [Dy r]
theorem JR.enum {k:SeqK}{K:PySem.W.Frag}{H0:Hp}{ρ0:List Addr}{src:Src}{a:Addr}(S:SR k K H0 ρ0 src a):JR K H0 ρ0 (.enum src) (Ite k K a) where
 go:=fun H ρ mh i d e rs q=>by
  have q:(Ei 0 (src.items mh))[i]?=some d:=q;rw [Qt] at q;cases e1:(src.items mh)[i]? with
  | none=>rw [e1] at q;cases q
  | some d' =>
   rw [e1] at q;cases q;obtain ⟨xs,sq,r⟩:=S.rd H ρ mh e rs (S.ok mh i d' e1);obtain ⟨v,ev,rv⟩:=r.get e1;refine ⟨⟨xs,v,sq,ev⟩,?_⟩;rintro x H' ⟨T,x',hT,h1,h2,h3⟩;subst h1;subst h3;have:=h2 xs sq;rw [ev] at this;cases this;refine ⟨Ev.new hT,rs.new hT,.tup (.inl (.inl Cm)) (.cons ?_ (.cons (rv.mono (Ev.new hT)) .nil))⟩;rw [Nat.zero_add];exact .int _
 stop:=fun H ρ mh i e rs q=>by
  have q:(src.ok mh&&decide ((Ei 0 (src.items mh)).length<=i))=true:=q;rw [Bool.and_eq_true,Dy] at q;obtain ⟨xs,sq,r⟩:=S.rd H ρ mh e rs q.1;exact ⟨xs,sq,by rw [← r.length];exact of_decide_eq_true q.2⟩
noncomputable def Kd (ma:DM D):DM Src:=ma.bnd fun x=>fun _ mh=>match srcOf x mh with | some s=>some (.enum s,mh) | none=>none
section
variable {X:Cx}
theorem bK:bootBuiltins "enumerate"=some (.type "enumerate"):=by decide +kernel
theorem Ny (k:SeqK) {pins:List (Addr×Obj)}{σ:L2.St}{H:Hp}{s:Shared}{R:It->Hp->Prop}{E:Value->Shared->Prop}{elts:List Expr}{kk:Nat}{tp:Pos}{a:Addr}{xs:List V}(I:Inv X pins σ H s) (hq:k.sq X.K H a xs) (hR:R (Ite k X.K a) H)
  (hnew:∀ {items:Array Value} {Q:Value->Shared->Prop},k.isSeq s.heap a items->(∀ h',IsEnum h' (s.heap.objs.size+1) s.heap.objs.size 0 .none->k.isIt h' s.heap.objs.size a 0->h'.objs.size=s.heap.objs.size+2->(∀ b o,s.heap.get? b=some o->h'.get? b=some o)->Q (.ref (s.heap.objs.size+1)) { s with heap:=h' }) ->
   wpAny (model X.prog X.w) X.A (call (.type "enumerate") [.ref a]) Q E s) :
  wpAny (model X.prog X.w) X.A (call (.type "enumerate") [.ref a]) (fun v s1=>wpAny (model X.prog X.w) X.A (pyIter v) (PIE X pins σ (.Tuple elts kk tp) R) E s1) E s:=by
 obtain ⟨its,rv,p,hz⟩:=k.get I hq;refine hnew p fun h' he hit hsz hk=>wpAny_pyIter_enum he ?_
 have I1:Inv X pins σ H { s with heap:=h' }:=I.kept (t':=s.toks) hk;refine ⟨s.heap.objs.size+1,[s.heap.objs.size+1,s.heap.objs.size],_,Ite k X.K a,H,rfl,I1,bI k a _ _ (Nat.succ_ne_self _),⟨⟨_,he⟩,hit⟩,fun b hb=>?_,hR⟩;have hb:b=s.heap.objs.size+1\/b=s.heap.objs.size:=by simpa using hb
 rcases hb with rfl|rfl
 ·exact I.fpOk (Nat.le_succ _) (I.hok.fresh (Nat.le_succ _))
 ·exact I.fpOk (Nat.le_refl _) (I.hok.fresh (Nat.le_refl _))
theorem sU {a:Expr}{ma:DM D}{elts:List Expr}{kk:Nat}{tp p pos:Pos}(hc:X.calm=true) (hg:Gl X "enumerate") (hm:X.mg "enumerate"=none) (ha:DE X a ma) (hs:starEach [a] X.env=(false,eval a X.env)::starEach [] X.env) :
  DI X (.Tuple elts kk tp) (.Call (.Name "enumerate" p) [a] [] pos) (Kd ma):=fun loc mh=>by
 cases ea:ma loc mh with
 | none =>
  have:Kd ma loc mh=none:=by unfold Kd DM.bnd;rw [ea]
  rw [this];exact Ef
 | some pr =>
  obtain ⟨x,m1⟩:=pr;have eq:Kd ma loc mh=(match srcOf x m1 with | some s=>some (.enum s,m1) | none=>none):=by unfold Kd DM.bnd;rw [ea]
  rw [eq];rintro pins s σ H R I ⟨ρ,src,mh',q,rl,rs,co⟩;refine Call_ (Kv I hg hm bK (PyProof.Rows.callWith_type1 (thn (Im (ha loc mh) M7 hs pos pins s σ H (fun vs H1=>∃ v ρ1,vs=[v]/\Ev X.K H ρ H1 ρ1/\RS X.K H1 ρ1 m1/\RD X.K H1 ρ1 x v) I ⟨ρ,x,m1,ea,rl,rs,fun H1 ρ1 v e1 rs1 r1=>⟨v,ρ1,rfl,e1,rs1,r1⟩⟩) ?_) hs rfl));rintro us s1 ⟨vs,H1,I1,r1,q1⟩;obtain ⟨v,ρ1,rfl,e1,rs1,rx⟩:=q1;obtain ⟨u,rfl,ru⟩:=vals1 r1;cases x with
  | tup ds =>
   cases q;cases rx with
   | tup sq r =>
    cases ru;exact Ny Adq I1 sq (co H1 ρ1 _ e1 rs1 (JR.enum (SR.tup sq r))) fun hL h=>bJ hL h
  | ref n =>
   cases eo:m1[n]? with
   | none=>simp only [srcOf,eo] at q;cases q
   | some ob =>
    cases ob with
    | dct kvs=>simp only [srcOf,eo] at q;cases q
    | plc=>simp only [srcOf,eo] at q;cases q
    | lst o =>
    simp only [srcOf,eo] at q;cases q;cases rx with
    | @ref _ a' h =>
     cases ru;obtain ⟨a2,ha2,ro⟩:=rs1.at eo;rw [h] at ha2;cases ha2;obtain ⟨xs,sq,r⟩:=ro.read;exact Ny sS I1 sq (co H1 ρ1 _ e1 rs1 (JR.enum (SR.lst h))) fun hL h=>call_enumerate_list hL h
  | rol ds =>
   cases q;cases rx with
   | rol sq r =>
    cases ru;exact Ny sS I1 sq.sq (co H1 ρ1 _ e1 rs1 (JR.enum (SR.rol sq r))) fun hL h=>call_enumerate_list hL h
  | non=>cases q
  | bl b=>cases q
  | int i=>cases q
  | str z=>cases q
  | obj c ks ds=>cases q
  | fn x=>cases q
  | lam=>cases q
end
section
variable {X:Cx}
noncomputable def iM (x:D) (mh:MH):Option (D×MH):=match x with
 | .int j=>if -(2 ^ 62)<=j/\j<=1000000 then some (.ref mh.length,mh++[.lst (Br 0 j.toNat)]) else none
 | _=>none
noncomputable def sV (x:D) (mh:MH):Option (D×MH):=match x with
 | .int j=>if -(2 ^ 62)<=j/\j<=1000000 then some (.tup (Br 0 j.toNat),mh) else none
 | _=>none
variable {a:Expr}{ma:DM D}{p p2 pos pos2:Pos}
end
end DL
namespace DL
open PySem PySem.Spec PyProof.Rows L2 PySem.W
noncomputable def sortI (ns:List Int):List Int:=ns.mergeSort fun a b=>decide (a<=b)
theorem sortI_perm (ns:List Int):(sortI ns).Perm ns:=List.mergeSort_perm _ _
theorem iQ (ns:List Int):(sortI ns).Pairwise (·<=·):=by
 have h:=List.pairwise_mergeSort (le:=fun a b:Int=>decide (a<=b)) (fun a b c h1 h2=>by simp at *;omega) (fun a b=>by simp;omega) ns;exact h.imp fun h=>by simpa using h
theorem iR {ns l:List Int}(p:l.Perm ns) (h:l.Pairwise (·<=·)):l=sortI ns:=Uu (p.trans (sortI_perm ns).symm) h (iQ ns)
noncomputable def Hg:List Int->List Int->Bool
 | [],[]=>false
 | [],_::_=>true
 | _::_,[]=>false
 | x::xs,y::ys=>if (x==y)=true then Hg xs ys else decide (x < y)
section
variable {prog:Program}{w:World}{A:Around}{E:Value->Shared->Prop}{κ:SortKind}{it:Array Keyed}{s:Shared}
end
theorem Qu:∀ {ns:List Int}{us:List Value},Vals (ns.map V.int) us->IntsAre us ns
 | [],_,.nil=>.nil
 | _::_,_,.cons ⟨t,e⟩ h=>by subst e;exact .cons _ _ (Qu h)
section
variable {prog:Program}{w:World}{A:Around}{E:Value->Shared->Prop}{s:Shared}
theorem U7 {fin:Bool}{Q:Bool->Shared->Prop}:∀ {xs ys:List Value}{ns ms:List Int},IntsAre xs ns->IntsAre ys ms->∀ i,fin=decide (xs.length < ys.length)->Q (Hg ns ms) s->KatLex prog w A true fin Q (xs.zip ys) i s
 | _,_,_,_,.nil,.nil,i,e,h=>by subst e;exact h
 | _,_,_,_,.nil,.cons m u r,i,e,h=>by subst e;exact kat_nil (by simpa [Hg] using h)
 | _,_,_,_,.cons n t r,.nil,i,e,h=>by subst e;exact kat_nil (by simpa [Hg] using h)
 | _,_,_,_,.cons (vs:=vs) n t r,.cons (vs:=us) m u q,i,e,h=>by
  have h:Q (if (n==m)=true then Hg _ _ else decide (n < m)) s:=h;refine kat_cons (wpAny_eqBool_int (kat_go (fun e1=>kat_yes ?_) fun e1=>kat_no ?_))
  ·rw [if_pos e1] at h;exact U7 r q (i+1) (by rw [e];simp) h
  ·rw [if_neg (by rw [e1];simp)] at h;cases hb:(true&&i==0) with
   | true=>exact oneLt_int h
   | false=>exact kat_one _ _ (lt_int h)
end
noncomputable def Ew:List D->MH->Option (D×MH)
 | [.ref n],mh=>match mh[n]? with
  | some (.lst ds)=>match intsOf ds with
   | some ns=>if ns.length < 64 then some (.ref mh.length,mh++[.lst ((sortI ns).map .int)]) else none
   | none=>none
  | _=>none
 | _,_=>none
theorem R4 {ds:List D}{mh mh':MH}{d:D}(q:Ew ds mh=some (d,mh')):∃ n,ds=[.ref n]:=by
 unfold Ew at q;split at q
 ·exact ⟨_,rfl⟩
 ·cases q
theorem R5 (h:Heap) (vs:List Value) (out:Array Value):∃ c,(∀ b o,h.get? b=some o->(sortedAll h vs out).get? b=some o)/\(sortedAll h vs out).get? (h.objs.size+1)=some (seqObj "list" out c):=by
 have hsz:((h.push (seqObj "list" #[] 0)).update h.objs.size (Obj.mapSeq (·++vs.toArray))).objs.size=h.objs.size+1:=by
  rw [Heap.size_update,size_push']
 have hoL:(((h.push (seqObj "list" #[] 0)).update h.objs.size (Obj.mapSeq (·++vs.toArray))).push (seqObj "list" vs.toArray 0)).get? (h.objs.size+1)=some (seqObj "list" vs.toArray 0):=by
  rw [← hsz];exact Heap.get?_push_size _ rfl
 have keep:∀ b o,h.get? b=some o->(((h.push (seqObj "list" #[] 0)).update h.objs.size (Obj.mapSeq (·++vs.toArray))).push (seqObj "list" vs.toArray 0)).get? b=some o:=fun b o q=>by
  have hlt:b < h.objs.size:=Heap.lt_size q;rw [Heap.get?_push_ne _ _ _ (by rw [hsz];exact Nat.ne_of_lt (Nat.lt_succ_of_lt hlt)),Heap.get?_update_ne _ _ _ _ (Nat.ne_of_lt hlt),Heap.get?_push_ne _ _ _ (Nat.ne_of_lt hlt)];exact q
 obtain ⟨c,at'⟩:=sortedHeap_at (a:=h.objs.size+1) (vs:=vs) (n:=0) (out:=out) hoL;refine ⟨c,fun b o q=>?_,at'⟩;unfold sortedAll;rw [sortedHeap_old (Nat.ne_of_lt (Nat.lt_succ_of_lt (Heap.lt_size q))) (Heap.lt_size (keep b o q))];exact keep b o q
theorem Nz {K:PySem.W.Frag}{H:Hp}{ρ:List Addr}:∀ (ns:List Int),RDs K H ρ (ns.map D.int) (ns.map V.int)
 | []=>.nil
 | _::r=>.cons (.int _) (Nz r)
section
variable {X:Cx}
theorem R6:Bg X (.builtin "sorted") (rDs X.K Ew):=by
 rintro pins s σ H xs us Q I r ⟨ρ,mh,ds,d,mh',q,rs,rd,co⟩;obtain ⟨n,rfl⟩:=R4 q
 ·obtain ⟨v,rfl,rx⟩:=K4 rd;obtain ⟨u,rfl,ru⟩:=vals1 r
  have q:(match mh[n]? with
   | some (.lst ds)=>(match intsOf ds with
    | some ns=>if ns.length < 64 then some (D.ref mh.length,mh++[.lst ((sortI ns).map .int)]) else none
    | none=>none)
   | _=>none)=some (d,mh'):=q
  split at q
  ·rename_i es en;obtain ⟨p,ys,rfl,hq,ry⟩:∃ p ys,v=.ref p/\SqL X.K H p ys/\RDs X.K H ρ es ys:=by
    cases rx with
    | ref h =>
     obtain ⟨a',ha,ro⟩:=rs.at en;rw [h] at ha;cases ha;obtain ⟨xs,q,r⟩:=ro.read;exact ⟨_,xs,rfl,q,r⟩
   cases ru;obtain ⟨its,rv,pl,hz⟩:=I.list hq;split at q
   ·rename_i ns ei;split at q
    ·rename_i h64;cases q;rw [Dm ei] at ry;rw [Hz ry] at hq rv;have hlen:=rv.length;refine sorted_ints pl.isList (Qu rv) (by simp at hlen;omega) fun out ns' a1 a2 a3=>?_
     have es':ns'=sortI ns:=iR a2 a3;subst es';obtain ⟨c,kp,at'⟩:=R5 s.heap its out;refine ⟨.ref (s.heap.objs.size+1),_,I.laid (t':=s.toks) (a:=s.heap.objs.size+1) (o:=.lst ((sortI ns).map V.int)) kp (Nat.le_succ _) ⟨?_,out.toList,c,Ez a1,?_⟩,rfl,Co.newL rs (Nz (sortI ns)) co _ (I.hok.fresh (Nat.le_succ _))⟩
     ·rw [List.length_map,(sortI_perm ns).length_eq,sizeLine_eq];omega
     ·rw [at']
    ·cases q
   ·cases q
  ·cases q
end
noncomputable abbrev TX:=Str×List Int
noncomputable def Ep (a b:TX):Bool:=if a.1=b.1 then Hg a.2 b.2 else decide (a.1.cps.toList < b.1.cps.toList)
theorem U8:∀ {a b:List Int},a≠b->Hg b a=!Hg a b
 | [],[],h=>absurd rfl h
 | [],_::_,_=>rfl
 | _::_,[],_=>rfl
 | x::xs,y::ys,h=>by
  show (if (y==x)=true then Hg ys xs else decide (y < x))=!(if (x==y)=true then Hg xs ys else decide (x < y))
  by_cases e:x=y
  ·subst e;rw [if_pos (by simp),if_pos (by simp)];exact U8 fun q=>h (by rw [q])
  ·rw [if_neg (by simpa using fun q=>e q.symm),if_neg (by simpa using e)]
   by_cases l:x < y
   ·rw [decide_eq_true l,decide_eq_false (by omega)];rfl
   ·rw [decide_eq_false l,decide_eq_true (by omega)];rfl
theorem N5:∀ {a b c:List Int},Hg a b=true->Hg b c=true->Hg a c=true
 | [],[],_,h,_=>by cases h
 | [],_::_,[],_,h=>by cases h
 | [],_::_,_::_,_,_=>rfl
 | _::_,[],_,h,_=>by cases h
 | _::_,_::_,[],_,h=>by cases h
 | x::xs,y::ys,z::zs,h1,h2=>by
  have g1:(if (x==y)=true then Hg xs ys else decide (x < y))=true:=h1;have g2:(if (y==z)=true then Hg ys zs else decide (y < z))=true:=h2;show (if (x==z)=true then Hg xs zs else decide (x < z))=true
  by_cases e1:x=y
  ·subst e1;rw [if_pos (by simp)] at g1
   by_cases e2:x=z
   ·subst e2;rw [if_pos (by simp)] at g2;rw [if_pos (by simp)];exact N5 g1 g2
   ·rw [if_neg (by simpa using e2)] at g2;rw [if_neg (by simpa using e2)];exact g2
  ·rw [if_neg (by simpa using e1)] at g1;have l1:=of_decide_eq_true g1
   by_cases e2:y=z
   ·subst e2;rw [if_neg (by simpa using e1)];exact g1
   ·rw [if_neg (by simpa using e2)] at g2;have l2:=of_decide_eq_true g2;rw [if_neg (by simp;omega)];exact decide_eq_true (by omega)
theorem sW {a b:Str}(h:a.cps.toList=b.cps.toList):a=b:=by
 cases a;cases b;congr;exact Array.toList_inj.mp h
theorem Fq {a b:TX}(h:a≠b):Ep b a=!Ep a b:=by
 unfold Ep
 by_cases e:a.1=b.1
 ·rw [if_pos e,if_pos e.symm];exact U8 fun q=>h (Prod.ext e q)
 ·rw [if_neg e,if_neg fun q=>e q.symm]
  by_cases l:a.1.cps.toList < b.1.cps.toList
  ·rw [decide_eq_true l,decide_eq_false (List.lt_asymm l)];rfl
  ·rw [decide_eq_false l,decide_eq_true]
   ·rfl
   ·refine Classical.byContradiction fun q=>e (sW ?_)
    exact List.le_antisymm (by simpa using q) (by simpa using l)
theorem N6 {a b c:TX}(h1:Ep a b=true) (h2:Ep b c=true):Ep a c=true:=by
 unfold Ep at *;split at h1
 ·rename_i e1;rw [e1];split at h2
  ·rename_i e2;rw [if_pos e2];exact N5 h1 h2
  ·rename_i e2;rw [if_neg e2];exact h2
 ·rename_i e1;have l1:=of_decide_eq_true h1;split at h2
  ·rename_i e2;rw [← e2,if_neg e1];exact h1
  ·have l2:=of_decide_eq_true h2;have l3:=List.lt_trans l1 l2;rw [if_neg (fun q=>List.lt_irrefl _ (show c.1.cps.toList < c.1.cps.toList by rw [q] at l3;exact l3))];exact decide_eq_true l3
noncomputable def Gx {α:Type}(n:Nat) (lt:Nat->Nat->Bool):KasT α->Option α
 | .ret a=>some a
 | .ask i j k=>if i < n/\j < n/\i≠j then Gx n lt (k (lt i j)) else none
theorem Ls {α:Type}{n:Nat}{lt lt':Nat->Nat->Bool}(h:∀ i j,i < n->j < n->i≠j->lt i j=lt' i j):∀ t:KasT α,Gx n lt t=Gx n lt' t
 | .ret a=>rfl
 | .ask i j k=>by
  show (if i < n/\j < n/\i≠j then Gx n lt (k (lt i j)) else none)=if i < n/\j < n/\i≠j then Gx n lt' (k (lt' i j)) else none
  split
  ·rename_i q;rw [h i j q.1 q.2.1 q.2.2];exact Ls h _
  ·rfl
theorem U9 {α:Type}{n:Nat}{lt:Nat->Nat->Bool}{cmp:Nat->Nat->(Bool->Shared->Prop)->Shared->Prop}{Q:α->Shared->Prop}{s:Shared}{a:α}
  (h:∀ i j C,i < n->j < n->i≠j->C (lt i j) s->cmp i j C s) (q:Q a s):∀ t:KasT α,Gx n lt t=some a->t.kasWp cmp Q s
 | .ret b,e=>by cases e;exact q
 | .ask i j k,e=>by
  have e:(if i < n/\j < n/\i≠j then Gx n lt (k (lt i j)) else none)=some a:=e;split at e
  ·rename_i c;exact h i j _ c.1 c.2.1 c.2.2 (U9 h q _ e)
  ·cases e
noncomputable def tb3 (x y z:Bool) (i j:Nat):Bool:=if i=0 then (if j=1 then x else y) else if i=1 then (if j=0 then !x else z) else if j=0 then !y else !z
noncomputable def good3 (n:Nat) (lt:Nat->Nat->Bool):Option (Array Nat)->Bool
 | some p=>decide (p.toList.length=n)&&p.toList.all (fun i=>decide (i < n))&&(decide p.toList.Nodup&&decide (p.toList.Pairwise fun i j=>lt i j=true))
 | none=>false
theorem Adr:∀ x,good3 2 (tb3 x x x) (Gx 2 (tb3 x x x) (kas_sort 2))=true:=by decide +kernel
theorem Ads:∀ x y z,(x=true->z=true->y=true)->(y=true->x=true\/z=true)->good3 3 (tb3 x y z) (Gx 3 (tb3 x y z) (kas_sort 3))=true:=by decide +kernel
theorem Xm {α:Type} [DecidableEq α]:∀ {l l':List α},l.Nodup->(∀ x∈l,x∈l')->l'.length<=l.length->l.Perm l'
 | [],l',_,_,h=>by
  have:l'=[]:=List.length_eq_zero_iff.mp (Nat.le_zero.mp h);rw [this]
 | a::r,l',nd,sub,h=>by
  obtain ⟨na,nr⟩:=List.nodup_cons.mp nd;have ha:=sub a (.head _);refine .trans (.cons a ?_) (List.perm_cons_erase ha).symm;refine Xm nr (fun x hx=>(List.mem_erase_of_ne (fun e=>na (by rw [← e];exact hx))).mpr (sub x (.tail _ hx))) ?_;have:=List.length_erase_of_mem ha;simp at h;omega
theorem Y5 {n:Nat}{lt lt':Nat->Nat->Bool}(hl:∀ i j,i < n->j < n->i≠j->lt i j=lt' i j) (hg:good3 n lt' (Gx n lt' (kas_sort n))=true) :
  ∃ p:Array Nat,Gx n lt (kas_sort n)=some p/\p.toList.length=n/\(∀ i∈p.toList,i < n)/\p.toList.Nodup/\p.toList.Pairwise fun i j=>lt i j=true:=by
 rw [Ls hl];cases e:Gx n lt' (kas_sort n) with
 | none=>rw [e] at hg;cases hg
 | some p =>
  rw [e] at hg;have hg:(decide (p.toList.length=n)&&p.toList.all (fun i=>decide (i < n))&&(decide p.toList.Nodup&&decide (p.toList.Pairwise fun i j=>lt' i j=true)))=true:=hg;rw [Bool.and_eq_true,Bool.and_eq_true,Bool.and_eq_true] at hg;obtain ⟨⟨g1,g2⟩,g4,g3⟩:=hg;have g2:∀ i∈p.toList,i < n:=fun i hi=>of_decide_eq_true (List.all_eq_true.mp g2 i hi)
  have g4:=of_decide_eq_true g4;refine ⟨p,rfl,of_decide_eq_true g1,g2,g4,?_⟩;refine List.Pairwise.imp_of_mem (R:=fun i j=>i≠j/\lt' i j=true) ?_ (List.pairwise_and_iff.mpr ⟨g4,of_decide_eq_true g3⟩);intro i j hi hj q;rw [hl i j (g2 i hi) (g2 j hj) q.1];exact q.2
theorem Xn {n:Nat}{lt:Nat->Nat->Bool}(h2:2<=n) (h3:n<=3) (tri:∀ i j,i < n->j < n->i≠j->lt j i=!lt i j) (tr:∀ i j k,i < n->j < n->k < n->lt i j=true->lt j k=true->lt i k=true) :
  ∃ p:Array Nat,Gx n lt (kas_sort n)=some p/\p.toList.length=n/\(∀ i∈p.toList,i < n)/\p.toList.Nodup/\p.toList.Pairwise fun i j=>lt i j=true:=by
 rcases (show n=2\/n=3 by omega) with rfl|rfl
 ·refine Y5 (lt':=tb3 (lt 0 1) (lt 0 1) (lt 0 1)) (fun i j hi hj ne=>?_) (Adr _);rcases (show i=0\/i=1 by omega) with rfl | rfl <;> rcases (show j=0\/j=1 by omega) with rfl | rfl <;> first | exact absurd rfl ne | rfl | exact tri 0 1 (by omega) (by omega) (by omega)
 ·refine Y5 (lt':=tb3 (lt 0 1) (lt 0 2) (lt 1 2)) (fun i j hi hj ne=>?_) (Ads _ _ _ (fun a b=>tr 0 1 2 (by omega) (by omega) (by omega) a b) (fun a=>?_))
  ·rcases (show i=0\/i=1\/i=2 by omega) with rfl | rfl | rfl <;> rcases (show j=0\/j=1\/j=2 by omega) with rfl | rfl | rfl <;> first | exact absurd rfl ne | rfl | exact tri 0 1 (by omega) (by omega) (by omega) | exact tri 0 2 (by omega) (by omega) (by omega) | exact tri 1 2 (by omega) (by omega) (by omega)
  ·cases e:lt 0 1 with
   | true=>exact .inl rfl
   | false =>
    right;have q:lt 1 0=true:=by rw [tri 0 1 (by omega) (by omega) (by omega),e];rfl
    exact tr 1 0 2 (by omega) (by omega) (by omega) q a
noncomputable def Gh (ks:List TX):List TX:=ks.mergeSort fun a b=>!Ep b a
theorem Dk (ks:List TX):(Gh ks).Perm ks:=List.mergeSort_perm _ _
theorem Va (a:TX):Ep a a=false:=by
 unfold Ep;rw [if_pos rfl];have:∀ l:List Int,Hg l l=false:=fun l=>by
  induction l with
  | nil=>rfl
  | cons x r ih=>show (if (x==x)=true then Hg r r else decide (x < x))=false;rw [if_pos (by simp),ih]
 exact this _
theorem N7 {ks:List TX}(nd:ks.Nodup):(Gh ks).Pairwise fun a b=>Ep a b=true:=by
 have nd2:(Gh ks).Nodup:=(Dk ks).nodup_iff.mpr nd;have h:=List.pairwise_mergeSort (le:=fun a b:TX=>!Ep b a) (fun a b c h1 h2=>?_) (fun a b=>?_) ks
 ·refine List.Pairwise.imp_of_mem (R:=fun a b=>a≠b/\(!Ep b a)=true) ?_ (List.pairwise_and_iff.mpr ⟨nd2,h⟩);intro a b _ _ q;rw [← Bool.not_not (Ep a b),← Fq q.1];exact q.2
 ·by_cases e1:a=b
  ·subst e1;exact h2
  by_cases e2:b=c
  ·subst e2;exact h1
  by_cases e3:a=c
  ·subst e3;simp [Va]
  have q1:Ep a b=true:=by rw [← Bool.not_not (Ep a b),← Fq e1];exact h1
  have q2:Ep b c=true:=by rw [← Bool.not_not (Ep b c),← Fq e2];exact h2
  show (!Ep c a)=true;rw [Fq e3,Bool.not_not];exact N6 q1 q2
 ·by_cases e:a=b
  ·subst e;simp [Va]
  ·rw [Fq e,Bool.not_not];cases Ep a b <;> rfl
theorem N8 {ks l:List TX}(nd:ks.Nodup) (p:l.Perm ks) (h:l.Pairwise fun a b=>Ep a b=true):l=Gh ks :=
 (p.trans (Dk ks).symm).eq_of_pairwise (le:=fun a b=>Ep a b=true) (fun a b _ _ x y=>by
  by_cases e:a=b
  ·exact e
  ·rw [Fq e,x] at y;cases y) h (N7 nd)
noncomputable def TXv (h:Heap) (v:Value) (k:TX):Prop:=∃ (a:Addr) (o:Obj) (t:Tok) (its:List Value) (n:Nat),v=.ref a/\h.get? a=some o/\o.cls=.type "tuple"/\o.data=.seq (Value.str k.1 t::its).toArray n/\IntsAre its k.2
theorem TXv.grow {h h':Heap}(kp:∀ b o,o.cls=.type "tuple"->h.get? b=some o->h'.get? b=some o) {v:Value}{k:TX}(q:TXv h v k):TXv h' v k :=
 let ⟨a,o,t,its,n,e1,e2,e3,e4⟩:=q;⟨a,o,t,its,n,e1,kp a o e3 e2,e3,e4⟩
section
variable {prog:Program}{w:World}{A:Around}{E:Value->Shared->Prop}{s:Shared}
theorem Adt {v u:Value}{k l:TX}{Q:Bool->Shared->Prop}(h1:TXv s.heap v k) (h2:TXv s.heap u l) (h:Q (Ep k l) s):wpAny (model prog w) A (keyLt' (tuples' true) v u) Q E s:=by
 obtain ⟨a,o,t,its,n,rfl,e1,_,e3,e4⟩:=h1;obtain ⟨a',o',t',its',n',rfl,e1',_,e3',e4'⟩:=h2;have h:Q (if k.1=l.1 then Hg k.2 l.2 else decide (k.1.cps.toList < l.1.cps.toList)) s:=h;refine kat_lt e1 e3 e1' e3' ?_;show KatLex prog w A true _ Q ((Value.str k.1 t,Value.str l.1 t')::its.zip its') 0 s;refine kat_cons (wpAny_eqBool_str (kat_go (fun q=>kat_yes ?_) fun q=>kat_no ?_))
 ·rw [if_pos (of_decide_eq_true q)] at h;exact U7 e4 e4' 1 (by simp) h
 ·rw [if_neg (of_decide_eq_false q)] at h;exact oneLt_str h
theorem Oa {h:Heap}:∀ {vs:List Value}{ks:List TX},vs.length=ks.length->(∀ (i:Nat) (v:Value) (k:TX),vs[i]?=some v->ks[i]?=some k->TXv h v k)->∃ fs,KatTups h vs fs/\fs.length=vs.length/\∀ v∈fs,∃ x t,v=Value.str x t
 | [],[],_,_=>⟨[],KatTups.nil,rfl,fun v hv=>by cases hv⟩
 | [],_::_,e,_=>by cases e
 | _::_,[],e,_=>by cases e
 | v::vs,k::ks,e,hv=>by
  obtain ⟨fs,a1,a2,a3⟩:=Oa (vs:=vs) (ks:=ks) (by simpa using e) (fun i v' k' p q=>hv (i+1) v' k' (by simpa using p) (by simpa using q));obtain ⟨a,o,t,its,n,rfl,e2,e3,e4,_⟩:=hv 0 v k rfl rfl
  exact ⟨_::fs,KatTups.cons e2 e3 e4 rfl a1,by simp [a2],fun v hv=>by
   rcases List.mem_cons.mp hv with rfl|hv
   ·exact ⟨_,_,rfl⟩
   ·exact a3 v hv⟩
theorem getD_some {α:Type}{l:List α}{i:Nat}{d x:α}(h:l[i]?=some x):l.getD i d=x:=by rw [List.getD_eq_getElem?_getD,h];rfl
theorem range_getD {α:Type}{d:α}(l:List α):(List.range l.length).map (fun i=>l.getD i d)=l:=by
 refine List.ext_getElem? fun i=>?_
 rw [List.getElem?_map]
 by_cases h:i < l.length
 ·rw [List.getElem?_range h,Option.map_some,List.getD_eq_getElem?_getD,List.getElem?_eq_getElem h];rfl
 ·rw [List.getElem?_eq_none (by simpa using h),List.getElem?_eq_none (by simpa using h)];rfl
theorem R7 {a:Addr}{vs:List Value}{ks:List TX}{n:Nat}{P:PySem.Fin->Shared->Prop}(ho:s.heap.get? a=some (seqObj "list" vs.toArray n)) (h3:vs.length<=3) (hl:vs.length=ks.length) (nd:ks.Nodup)
  (hv:∀ (i:Nat) (v:Value) (k:TX),vs[i]?=some v->ks[i]?=some k->TXv s.heap v k)
  (h:∀ out:List Value,out.length=vs.length->(∀ (i:Nat) (v:Value),out[i]?=some v->∃ (j:Nat) (k:TX),vs[j]?=some v/\ks[j]?=some k/\(Gh ks)[i]?=some k)->P (.done (.ret .none)) { s with heap:=sortedHeap s.heap a vs out.toArray }) :
  wpAny (model prog w) A (Builtin.«list.sort» ⟨[.ref a],[]⟩) P E s:=by
 rw [list_sort_plain];have ha:a < s.heap.objs.size:=Heap.lt_size ho;have hz:vs.length<=sizeLine:=by rw [sizeLine_eq];omega
 refine wpAny_bind (listItems_at ho rfl ?_);refine wpAny_bind (listUpdate_at ho rfl ?_ (by rw [List.size_toArray];exact hz) (Nat.zero_le _))
 obtain ⟨e1,ho1⟩:∃ e1,(s.heap.update a (Obj.mapSeq fun _=>#[])).get? a=some (seqObj "list" #[] e1):=⟨_,get?_update_seq ho (fun _=>#[])⟩;refine wpAny_bind (seqEpoch_at ho1 rfl ?_);refine wpAny_bind (wpAny_newTuple ?_ (by show vs.length<=_;exact hz));refine wpAny_bind (wpAny_newList ?_ (Nat.zero_le _));refine wpAny_holding ?_
 have ho6:(((s.heap.update a (Obj.mapSeq fun _=>#[])).push (seqObj "tuple" vs.toArray 0)).push (seqObj "list" #[] 0)).get? a=some (seqObj "list" #[] e1):=by
  rw [Heap.get?_push_ne _ _ _ (by rw [size_push',Heap.size_update];exact Nat.ne_of_lt (Nat.lt_succ_of_lt ha)),Heap.get?_push_ne _ _ _ (by rw [Heap.size_update];exact Nat.ne_of_lt ha)];exact ho1
 have kp:∀ b o,o.cls=.type "tuple"->s.heap.get? b=some o->(((s.heap.update a (Obj.mapSeq fun _=>(#[]:Array Value))).push (seqObj "tuple" vs.toArray 0)).push (seqObj "list" #[] 0)).get? b=some o:=fun b o hc q=>by
  have ne:b≠a:=fun z=>by
   subst z;rw [ho] at q;cases q
   exact absurd hc (show ¬ (Value.type "list"=Value.type "tuple") by decide +kernel)
  refine Heap.get?_push_of_some _ (Heap.get?_push_of_some _ ?_);rw [Heap.get?_update_ne _ _ _ _ ne];exact q
 show wpAny (model prog w) A _ P E { s with heap:=((s.heap.update a (Obj.mapSeq fun _=>#[])).push (seqObj "tuple" vs.toArray 0)).push (seqObj "list" #[] 0) };dsimp only;have hsz:vs.toArray.size=vs.length:=by simp
 by_cases hn2:vs.toArray.size < 2
 ·have e:Gh ks=ks:=by
   refine (N8 nd (.refl _) ?_).symm
   match ks,hl with
   | [],_=>exact .nil
   | [_],_=>exact List.pairwise_singleton _ _
   | _::_::_,hl=>simp at hl hn2;omega
  have hout:(pairsOf vs).map (·.2)=vs.toArray:=by
   apply Array.toList_inj.mp;rw [Array.toList_map,pairsOf_toList];simp only [List.map_snd_zip (Nat.le_refl _)]
  rw [if_pos hn2,if_pos hn2];refine wpAny_bind (wpAny_pure ?_);rw [StateT.run_pure];refine wpAny_bind (wpAny_pure ?_);dsimp only;refine wpAny_bind (seqEpoch_at ho6 rfl ?_);refine wpAny_bind (listUpdate_at ho6 rfl ?_ (Nat.zero_le _) (hsz2:=by rw [Array.size_map];show (pairsOf vs).size<=_;rw [pairsOf_size];omega));simp only [bne_self_eq_false,Bool.false_eq_true,if_false];refine wpAny_pure ?_;show P (.done (.ret .none)) { s with heap:=sortedHeap s.heap a vs ((pairsOf vs).map (·.2)) };rw [hout];refine h vs rfl fun i v hi=>?_
  rw [e];obtain ⟨hh,_⟩:=List.getElem?_eq_some_iff.mp hi;exact ⟨i,ks[i],hi,List.getElem?_eq_getElem (by omega),List.getElem?_eq_getElem (by omega)⟩
 have h2:2<=vs.length:=by rw [List.size_toArray] at hn2;omega
 rw [if_neg hn2,if_neg hn2]
 have hv2:∀ (i:Nat) (v:Value) (k:TX),vs[i]?=some v->ks[i]?=some k->TXv (((s.heap.update a (Obj.mapSeq fun _=>(#[]:Array Value))).push (seqObj "tuple" vs.toArray 0)).push (seqObj "list" #[] 0)) v k:=fun i v k p q=>(hv i v k p q).grow kp
 obtain ⟨fs,kt,lf,hf⟩:=Oa hl hv2
 refine wpAny_bind (kat_kind (T:=.type "str") kt (by omega) (fun v hv=>?_) (by decide +kernel) ?_)
 ·obtain ⟨n,tk,rfl⟩:=hf v hv;exact Looks.now
 rw [show (Value.type "str" != Value.type "tuple")=true by decide +kernel];have at1:∀ i,i < vs.length->∃ v k,vs[i]?=some v/\ks[i]?=some k:=fun i hi=>⟨_,_,List.getElem?_eq_getElem hi,List.getElem?_eq_getElem (by omega)⟩
 obtain ⟨p,e0,p1,p2,p3,p4⟩:=Xn (n:=vs.length) (lt:=fun i j=>Ep (ks.getD i default) (ks.getD j default)) h2 h3 (fun i j hi hj ne=>by
   obtain ⟨_,k1,_,q1⟩:=at1 i hi;obtain ⟨_,k2,_,q2⟩:=at1 j hj;rw [getD_some q1,getD_some q2];refine Fq fun z=>ne ?_
   subst z
   exact (List.getElem?_inj (show i < ks.length by omega) nd).mp (q1.trans q2.symm)) (fun i j k _ _ _ a b=>N6 a b)
 have run:=kat_run (E:=E) (s:={ s with heap:=((s.heap.update a (Obj.mapSeq fun _=>(#[]:Array Value))).push (seqObj "tuple" vs.toArray 0)).push (seqObj "list" #[] 0) }) (κ:=tuples' true) (prog:=prog) (w:=w) (A:=A) (ks:=vs) (vs:=vs)
  (Q:=fun st' s'=>s'={ s with heap:=((s.heap.update a (Obj.mapSeq fun _=>(#[]:Array Value))).push (seqObj "tuple" vs.toArray 0)).push (seqObj "list" #[] 0) }/\arrOf st'=p.map (kas_item (vs.toArray.zip vs.toArray))/\failedOf st'=none)
  (G:=fun p' s'=>p'=p/\s'={ s with heap:=((s.heap.update a (Obj.mapSeq fun _=>(#[]:Array Value))).push (seqObj "tuple" vs.toArray 0)).push (seqObj "list" #[] 0) })
  rfl h2 (by omega) (fun p' st' s' _ a2 a3 a4=>by
   obtain ⟨rfl,rfl⟩:=a4
   exact ⟨rfl,a2,a3⟩) (U9 (n:=vs.length) (lt:=fun i j=>Ep (ks.getD i default) (ks.getD j default)) (fun i j C hi hj ne hC=>by
    obtain ⟨v1,k1,r1,q1⟩:=at1 i hi;obtain ⟨v2,k2,r2,q2⟩:=at1 j hj;unfold kas_ask;rw [getD_some r1,getD_some r2];rw [getD_some q1,getD_some q2] at hC
    exact Adt (hv2 i _ _ r1 q1) (hv2 j _ _ r2 q2) hC) ⟨rfl,rfl⟩ _ e0)
 refine wpAny_bind (wpAny_mono run ?_ fun _ _ e=>e);rintro ⟨⟨⟩,st'⟩ s' ⟨rfl,har,hf⟩;dsimp only;rw [kat_snds rfl har];have hso:(List.toArray (p.toList.map fun i=>vs.getD i Value.none)).size=vs.length:=by rw [List.size_toArray,List.length_map,p1]
 refine wpAny_bind (seqEpoch_at ho6 rfl ?_);refine wpAny_bind (listUpdate_at ho6 rfl ?_ (Nat.zero_le _) (hsz2:=by rw [hso];exact Nat.le_succ_of_le hz));rw [hf];simp only [bne_self_eq_false,Bool.false_eq_true,if_false];refine wpAny_pure (h (p.toList.map fun i=>vs.getD i Value.none) (by rw [List.length_map,p1]) fun i v hi=>?_);have pr:p.toList.Perm (List.range ks.length):=Xm p3 (fun x hx=>List.mem_range.mpr (by rw [← hl];exact p2 x hx)) (by rw [List.length_range,p1,hl];exact Nat.le_refl _);have so:p.toList.map (fun i=>ks.getD i default)=Gh ks:=by
  refine N8 nd ?_ ?_
  ·have:=pr.map (fun i=>ks.getD i default);rw [range_getD] at this;exact this
  ·rw [List.pairwise_map];exact p4
 rw [← so];rw [List.getElem?_map] at hi ⊢;cases hj:p.toList[i]? with
 | none=>rw [hj] at hi;cases hi
 | some j =>
  rw [hj] at hi;have lj:=p2 j (List.mem_of_getElem? hj);obtain ⟨v1,k1,r1,q1⟩:=at1 j lj;have hi:some (vs.getD j Value.none)=some v:=hi;rw [getD_some r1] at hi;cases hi;exact ⟨j,k1,r1,q1,by rw [Option.map_some,getD_some q1]⟩
end
noncomputable def txK (k:TX):List Key:=.inr k.1::k.2.map .inl
noncomputable def txD (k:TX):D:=.tup (.str k.1::k.2.map D.int)
theorem sX {a b:TX}(h:txK a=txK b):a=b:=by
 obtain ⟨h1,h2⟩:=List.cons.inj h;refine Prod.ext (Sum.inr.inj h1) ?_;have:∀ {l m:List Int},l.map (Sum.inl (β:=Str))=m.map Sum.inl->l=m:=fun {l m} q=>by
  induction l generalizing m with
  | nil=>cases m with
   | nil=>rfl
   | cons=>cases q
  | cons x r ih=>cases m with
   | nil=>cases q
   | cons y t =>
    obtain ⟨q1,q2⟩:=List.cons.inj q;rw [Sum.inl.inj q1,ih q2]
 exact this h2
noncomputable def Ia:List TX->List TX
 | []=>[]
 | x::r=>if x∈r then Ia r else x::Ia r
theorem Gy {k:TX}:∀ {l:List TX},k∈Ia l ↔ k∈l
 | []=>Iff.rfl
 | x::r=>by
  unfold Ia;split
  ·rename_i h;rw [Gy,List.mem_cons];exact ⟨.inr,fun q=>q.elim (fun e=>e ▸ h) id⟩
  ·rw [List.mem_cons,List.mem_cons,Gy]
theorem Ft:∀ {l:List TX},(Ia l).Nodup
 | []=>.nil
 | x::r=>by
  unfold Ia;split
  ·exact Ft
  ·rename_i h;exact List.nodup_cons.mpr ⟨fun q=>h (Gy.mp q),Ft⟩
theorem Ke:∀ {l:List TX},(Ia l).length<=l.length
 | []=>Nat.le_refl _
 | x::r=>by
  unfold Ia;split
  ·exact Nat.le_succ_of_le Ke
  ·exact Nat.succ_le_succ Ke
theorem vM {α:Type} [DecidableEq α]:∀ {l l':List α},l.Nodup->(∀ x∈l,x∈l')->l.length<=l'.length
 | [],l',_,_=>Nat.zero_le _
 | a::r,l',nd,sub=>by
  obtain ⟨na,nr⟩:=List.nodup_cons.mp nd;have ha:=sub a (.head _);have:=vM (l':=l'.erase a) nr fun x hx=>(List.mem_erase_of_ne (fun e=>na (by rw [← e];exact hx))).mpr (sub x (.tail _ hx))
  have h2:=List.length_erase_of_mem ha;have h3:=List.length_pos_of_mem ha;rw [List.length_cons];omega
theorem K6 {α β:Type}{R:α->β->Prop}:∀ {l:List α},(∀ v∈l,∃ k,R v k)->∃ ks:List β,l.length=ks.length/\∀ (i:Nat) (v:α) (k:β),l[i]?=some v->ks[i]?=some k->R v k
 | [],_=>⟨[],rfl,fun i v k h=>by simp at h⟩
 | a::r,h=>by
  obtain ⟨k,hk⟩:=h a (.head _);obtain ⟨ks,h1,h2⟩:=K6 fun v hv=>h v (.tail _ hv)
  refine ⟨k::ks,by simp [h1],fun i v k' e1 e2=>?_⟩;cases i with
  | zero=>cases e1;cases e2;exact hk
  | succ i=>exact h2 i v k' (by simpa using e1) (by simpa using e2)
theorem Ob:∀ {ns:List Int}{us:List Value},Vals ((ns.map (Sum.inl (β:=Str))).map kV) us->IntsAre us ns
 | [],_,.nil=>.nil
 | _::_,_,.cons ⟨t,e⟩ h=>by subst e;exact .cons _ _ (Ob h)
section
variable {X:Cx}
theorem Mr (hc:X.calm=true):Bg X (.builtin "sorted") (fun xs H Q=>∃ (a:Addr) (es:Array (Int×Value)) (cs:List Addr) (ks:List TX),xs=[.ref a]/\H a=some (iB X.w a es)/\cs.length=ks.length/\InT X cs (fun i=>txK (ks.getD i default)) es/\(∀ (i:Nat) (c:Addr),cs[i]?=some c->SqT X.K H c ((txK (ks.getD i default)).map kV))/\ks.length<=3 /\
  ∀ (l:Addr) (outs:List Addr),H l=none->outs.length=(Gh (Ia ks)).length->(∀ (i:Nat) (c:Addr) (k:TX),outs[i]?=some c->(Gh (Ia ks))[i]?=some k->SqT X.K H c ((txK k).map kV))->Q (.ref l) (upd H l (.lst (outs.map V.ref)))):=by
 rintro pins s σ H xs us Q I r ⟨a,es,cs,ks,e,hH,hlen,it,sqs,h3,q⟩;subst e;obtain ⟨u,rfl,rx⟩:=vals1 r;cases rx
 obtain ⟨o,ep,t,e,d1,d2,d3,d4⟩:=(show ∃ o ep t,s.heap.get? a=some o/\o.ExactSet/\o.data=.set es ep t/\Tb7 t es/\Good (!X.w.params.followText "set-order") t from (I.hok a _ hH).1);have dB:SetB X.w o es ep t:=⟨d1,d2,by have:=d3.room;unfold scanBound;omega,d3.fits,d4⟩;have tk0:∀ (i:Nat) (c:Addr),cs[i]?=some c->IsTupleKey (Bm X.prog X.w) s.heap (txK (ks.getD i default)) c:=fun i c z=>by
  obtain ⟨its,r1,⟨o,e1,e2,n,e3⟩,_⟩:=I.tuple (sqs i c z);exact ⟨o,_,n,e1,e2,e3,Io (by simpa using r1)⟩
 have tx0:∀ (i:Nat) (c:Addr),cs[i]?=some c->TXv s.heap (.ref c) (ks.getD i default):=fun i c z=>by
  obtain ⟨its,r1,⟨o,e1,e2,n,e3⟩,_⟩:=I.tuple (sqs i c z);cases r1 with
  | cons rr rt =>
   obtain ⟨t,et⟩:=rr;subst et;exact ⟨c,o,t,_,n,rfl,e1,e2,e3,Ob rt⟩
 refine Calls.call_function_entry kind_sorted plain_sorted entry_sorted (args_sorted1 _) ?_;unfold Builtin.«sorted»
 refine wpAny_bind (m:=checkCount "sorted" 1 1 _) (wpAny_pure (wpAny_bind (Ln (by simp [I.ok.hd hc]) dB e fun h' dr tk vs pv kp len ht=>?_)))
 obtain ⟨ts,lt,ht2⟩:=K6 (l:=vs) (R:=fun v k=>∃ (j:Nat) (c:Addr),cs[j]?=some c/\v=.ref c/\k=ks.getD j default) (fun v hv=>by
  obtain ⟨x,hx,rfl⟩:=List.mem_map.mp (pv.mem_iff.mp hv);obtain ⟨j,c,z1,z2,_⟩:=it.el x hx
  exact ⟨_,j,c,z1,z2,rfl⟩)
 have lenv:vs.length=(Gw (fun i=>txK (ks.getD i default)) cs.length).length:=by rw [pv.length_eq,List.length_map,Array.length_toList,it.sz]
 have sub:∀ k∈Ia ks,k∈ts:=fun k hk=>by
  obtain ⟨j,hj,ej⟩:=List.getElem_of_mem (Gy.mp hk);have ej:ks[j]?=some k:=by rw [List.getElem?_eq_getElem hj,ej]
  have m1:=(it.mem (txK k)).mp ((Nx _ _ _).mpr ⟨j,by omega,by show txK (ks.getD j default)=txK k;rw [getD_some ej]⟩);obtain ⟨x,j',c,hx,e2,cj,ev⟩:=m1;have ev:txK (ks.getD j' default)=txK k:=ev;have hm:Value.ref c∈vs:=pv.mem_iff.mpr (List.mem_map.mpr ⟨x,hx,e2⟩);obtain ⟨i,hi,ei⟩:=List.getElem_of_mem hm;have ei:vs[i]?=some (.ref c):=by rw [List.getElem?_eq_getElem hi,ei]
  have hit:i < ts.length:=by omega
  obtain ⟨j2,c2,z1,z2,z3⟩:=ht2 i _ ts[i] ei (List.getElem?_eq_getElem hit);cases z2;have:=(tk0 j2 c z1).inj (tk0 j' c cj);rw [ev] at this;rw [← sX this,← z3];exact List.getElem_mem hit
 have pts:(Ia ks).Perm ts:=Xm Ft sub (by
  rw [← lt,lenv];have:(Gw (fun i=>txK (ks.getD i default)) cs.length).length<=((Ia ks).map txK).length:=vM (Nv _ _) fun k hk=>by
   obtain ⟨j,hj,ej⟩:=(Nx _ _ _).mp hk;refine List.mem_map.mpr ⟨ks.getD j default,Gy.mpr ?_,ej⟩;rw [List.getD_eq_getElem?_getD,List.getElem?_eq_getElem (by omega)];exact List.getElem_mem _
  rwa [List.length_map] at this)
 have ndt:ts.Nodup:=pts.nodup_iff.mp Ft;have lv:vs.length<=3:=by
  have:=Ke (l:=ks);rw [lt,← pts.length_eq];omega
 have esr:Gh ts=Gh (Ia ks):=N8 Ft ((Dk ts).trans pts.symm) (N7 ndt);refine wpAny_bind (wpAny_newList ?_ (by rw [sizeLine_eq];omega));refine wpAny_bind (wpAny_holding (wpAny_call_entry slot_list_sort ⟨_,Heap.get?_push_size _ rfl,rfl⟩ entry_list_sort (R7 (vs:=vs) (ks:=ts) (n:=0) (Heap.get?_push_size _ rfl) lv lt ndt (fun i v k a1 a2=>?_) fun out lo ho=>⟨_,rfl,?_⟩) (args_list_sort _)))
 ·obtain ⟨j,c,z1,rfl,rfl⟩:=ht2 i v k a1 a2;exact (tx0 j c z1).grow fun b ob _ q=>Heap.get?_push_of_some _ (kp b ob q)
 obtain ⟨outs,lo2,ho2⟩:=K6 (l:=out) (R:=fun v c=>v=Value.ref c) (fun v hv=>by
  obtain ⟨i,hi,ei⟩:=List.getElem_of_mem hv;obtain ⟨j,k,z1,z2,_⟩:=ho i v (by rw [List.getElem?_eq_getElem hi,ei]);obtain ⟨_,c,_,z3,_⟩:=ht2 j v k z1 z2
  exact ⟨c,z3⟩)
 have eout:out=outs.map Value.ref:=List.ext_getElem? fun i=>by
  rw [List.getElem?_map]
  by_cases hi:i < out.length
  ·rw [List.getElem?_eq_getElem hi,List.getElem?_eq_getElem (show i < outs.length by omega)];exact congrArg some (ho2 i _ _ (List.getElem?_eq_getElem hi) (List.getElem?_eq_getElem (show i < outs.length by omega)))
  ·rw [List.getElem?_eq_none (by omega),List.getElem?_eq_none (by omega)];rfl
 have rvo:∀ l:List Addr,Vals (l.map V.ref) (l.map Value.ref):=fun l=>by
  induction l with
  | nil=>exact .nil
  | cons a r ih=>exact .cons rfl ih
 obtain ⟨c,at'⟩:=sortedHeap_at (h:=h'.push (seqObj "list" vs.toArray 0)) (a:=h'.objs.size) (vs:=vs) (n:=0) (out:=out.toArray) (Heap.get?_push_size _ rfl);have I2:=Qo I dr;refine wpAny_pure ⟨_,rfl,.ref h'.objs.size,_,I2.laid (t':=tk) (a:=h'.objs.size) (o:=.lst (outs.map V.ref)) (fun b ob q=>?_) len ⟨?_,out,c,?_,?_⟩,rfl,q _ _ (I.hok.fresh len) ?_ fun i cc k a1 a2=>?_⟩
 ·have lb:b < h'.objs.size:=Heap.lt_size (kp b ob q);rw [sortedHeap_old (Nat.ne_of_lt lb) (by rw [size_push'];exact Nat.lt_succ_of_lt lb)];exact Heap.get?_push_of_some _ (kp b ob q)
 ·rw [List.length_map,← lo2,lo,sizeLine_eq];omega
 ·rw [eout];exact rvo outs
 ·rw [at']
 ·rw [← lo2,lo,(Dk _).length_eq,pts.length_eq,lt]
 ·have hio:out[i]?=some (.ref cc):=by rw [eout,List.getElem?_map,a1];rfl
  obtain ⟨j,k',z1,z2,z3⟩:=ho i _ hio;rw [esr,a2] at z3;cases z3;obtain ⟨j2,c2,y1,y2,y3⟩:=ht2 j _ k z1 z2;cases y2;rw [y3];exact sqs j2 cc y1
end
noncomputable def Qv:List D->Option (List TX)
 | []=>some []
 | .tup (.str x::r)::t=>match intsOf r with
  | some ns=>match Qv t with
   | some l=>some ((x,ns)::l)
   | none=>none
  | none=>none
 | _=>none
theorem Qw:∀ (ks:List TX),Qv (ks.map txD)=some ks
 | []=>rfl
 | k::r=>by
  show (match intsOf (k.2.map D.int) with | some ns=>(match Qv (r.map txD) with | some l=>some ((k.1,ns)::l) | none=>none) | none=>none)=_;rw [Fp,Qw r]
theorem Oc:∀ {ds:List D}{ks:List TX},Qv ds=some ks->ds=ks.map txD
 | [],ks,h=>by cases h;rfl
 | d::t,ks,h=>by
  cases d with
  | tup l =>
   cases l with
   | nil=>cases h
   | cons y r =>
    cases y with
    | str x =>
     have h:(match intsOf r with | some ns=>(match Qv t with | some l=>some ((x,ns)::l) | none=>none) | none=>none)=some ks:=h;split at h
     ·rename_i ns e;split at h
      ·rename_i l e2;cases h;rw [Oc e2,Dm e];rfl
      ·cases h
     ·cases h
    | _=>cases h
  | _=>cases h
noncomputable def Od (ds:List D) (mh:MH):Option (D×MH):=match Qv ds with
 | some ks=>if ks.length<=3 then some (.ref mh.length,mh++[.lst ((Gh (Ia ks)).map txD)]) else none
 | none=>none
noncomputable def Cq (x:D) (mh:MH):Option (D×MH):=match x with
 | .ref n=>match mh[n]? with
  | some (.lst o)=>match intsOf o with
   | some ns=>if ns.length < 4000 then (if (Dh ns).length < 64 then some (.ref mh.length,mh++[.lst ((Hr ns).map D.int)]) else none) else none
   | none=>Od o mh
  | _=>none
 | _=>none
section
variable {K:PySem.W.Frag}{H:Hp}{ρ:List Addr}
theorem Y6:∀ {ks:List TX}{vs:List V},RDs K H ρ (ks.map txD) vs->∃ cs:List Addr,vs=cs.map V.ref/\cs.length=ks.length/\∀ (i:Nat) (c:Addr),cs[i]?=some c->SqT K H c ((txK (ks.getD i default)).map kV)
 | [],_,.nil=>⟨[],rfl,rfl,fun i c h=>by simp at h⟩
 | k::ks,_,.cons a t=>by
  obtain ⟨cs,e1,e2,e3⟩:=Y6 t;cases a with
  | @tup _ c xs sq rr =>
   cases rr with
   | cons y z =>
    cases y;have:=Hz z;subst this;refine ⟨c::cs,by rw [e1];rfl,by simp [e2],fun i c' h=>?_⟩;cases i with
    | zero =>
     cases h;have e:(txK k).map kV=.str k.1::k.2.map V.int:=by
      show kV (.inr k.1)::(k.2.map (Sum.inl (β:=Str))).map kV=_;rw [List.map_map];rfl
     show SqT K H c ((txK k).map kV);rw [e];exact sq
    | succ i=>exact e3 i c' (by simpa using h)
theorem Y7:∀ {ks:List TX}{cs:List Addr},cs.length=ks.length->(∀ (i:Nat) (c:Addr) (k:TX),cs[i]?=some c->ks[i]?=some k->SqT K H c ((txK k).map kV))->RDs K H ρ (ks.map txD) (cs.map V.ref)
 | [],[],_,_=>.nil
 | [],_::_,e,_=>by cases e
 | _::_,[],e,_=>by cases e
 | k::ks,c::cs,e,h=>by
  refine .cons (.tup (h 0 c k rfl rfl) ?_) (Y7 (by simpa using e) fun i c' k' a b=>h (i+1) c' k' (by simpa using a) (by simpa using b));have e:(txK k).map kV=.str k.1::k.2.map V.int:=by
   show kV (.inr k.1)::(k.2.map (Sum.inl (β:=Str))).map kV=_;rw [List.map_map];rfl
  rw [e];exact .cons (.str _) (RDs.ints _)
end
section
variable {X:Cx}{a:Expr}{ma:DM D}{p p2 pos pos2:Pos}
theorem Vb (hc:X.calm=true) (hu:X.A.units+64 < cLine) (hg:Gl X "sorted") (hm:X.mg "sorted"=none) (hg2:Gl X "set") (hm2:X.mg "set"=none) (ha:DE X a ma) (hs:starEach [a] X.env=(false,eval a X.env)::starEach [] X.env) :
  DE X (.Call (.Name "sorted" p) [.Call (.Name "set" p2) [a] [] pos2] [] pos) (ma.bnd fun x=>Zl (Cq x)):=fun loc mh =>
 Bk (M8 ((Nr hc).or (Mr hc)) hg hm boot_sorted (Im (Qd ((aV hc).or (Xj hc hu)) hg2 hm2 boot_set (Im (ha loc mh) M7 hs) (by decide) (by decide) hs) M7)) fun σ H Q ⟨ρ,d,mh',q,rl,rs,co⟩=>by
  obtain ⟨x,m1,ea,q⟩:=Al q;refine ⟨ρ,x,m1,ea,rl,rs,fun H1 ρ1 v e1 rs1 r1=>?_⟩;have q:Cq x m1=some (d,mh'):=q;unfold Cq at q;split at q
  ·rename_i n;cases r1 with
   | @ref _ pp hp =>
   split at q
   ·rename_i o eo;obtain ⟨a',ha',ro⟩:=rs1.at eo;rw [hp] at ha';cases ha';obtain ⟨xs,sq,rr⟩:=ro.read;split at q
    ·rename_i ns en;split at q
     ·rename_i hl;split at q
      ·rename_i h64;cases q;rw [Dm en] at rr;rw [Hz rr] at sq;refine .inl ⟨pp,ns,rfl,sq,by unfold scanBound;omega,fun b hb=>.inl ⟨b,ns,rfl,Cm,h64,?_⟩⟩;exact Co.newL (rs1.new hb) (RDs.ints _) (co.ev (e1.trans (Ev.new hb)))
      ·cases q
     ·cases q
    ·unfold Od at q;split at q
     ·rename_i ks ek;split at q
      ·rename_i h3;cases q;rw [Oc ek] at rr;obtain ⟨cs,rfl,lc,sqs⟩:=Y6 rr;refine .inr ⟨pp,cs,fun i=>txK (ks.getD i default),rfl,sq,sqs,by omega,fun b es hb it=>.inr ⟨b,es,cs,ks,rfl,Cm,lc,it,fun i c hi=>Ru hb (sqs i c hi),h3,fun l outs hl lo so=>?_⟩⟩;exact Co.newL (rs1.new hb) (Y7 lo so) (co.ev (e1.trans (Ev.new hb))) l hl
      ·cases q
     ·cases q
   ·cases q
  ·cases q
end
end DL
namespace DL
open PySem PySem.Spec PyProof.Rows L2
section
variable {prog:Program}{w:World}{A:Around}{E:Value->Shared->Prop}{s:Shared}
end
section
variable {prog:Program}{w:World}{A:Around}{E:Value->Shared->Prop}{s:Shared}
end
section
variable {X:Cx}
end
section
variable {prog:Program}{w:World}{A:Around}{E:Value->Shared->Prop}{s:Shared}
end
section
variable {prog:Program}{w:World}{A:Around}{E:Value->Shared->Prop}{s:Shared}{k1 k2:SeqK}{S z TI TO i1 i2 l1 l2:Addr}{i:Nat}
end
noncomputable def Afm (a b:D):D:=.tup [a,b]
noncomputable def iU:List D->MH->Option (D×MH)
 | [x,y],mh=>match Eu x mh,Eu y mh with
  | some as,some bs=>some (.ref mh.length,mh++[.lst (List.zipWith Afm as bs)])
  | _,_=>none
 | _,_=>none
section
variable {X:Cx}
end
theorem cnt_ints (k:Int):∀ {its:List Value}{ns:List Int},IntsAre its ns->its.countP (isInt k)=ns.countP (·==k)
 | _,_,.nil=>rfl
 | _,_,.cons n t h=>by
  rw [List.countP_cons,List.countP_cons,cnt_ints k h];rfl
noncomputable def iV:D->List D->MH->Option (D×MH)
 | .ref n,[.int k],mh=>match mh[n]? with
  | some (.lst ds)=>(match intsOf ds with
   | some ns=>some (.int (ns.countP (·==k):Nat),mh)
   | none=>none)
  | _=>none
 | _,_,_=>none
section
variable {X:Cx}
theorem sY:MtR X "list.count" (rDM X.K iV):=by
 rintro pins s σ H x xs v us Q I rx rv ⟨ρ,mh,dx,ds,d,mh',q,rs,r1,r2,co⟩
 match dx,ds,q with
 | .ref nn,[.int k],q =>
  simp only [iV] at q;split at q
  ·rename_i es em;split at q
   ·rename_i ns en;cases q;obtain ⟨y,rfl,ry⟩:=K4 r2;cases ry;obtain ⟨u,rfl,ru⟩:=rv.one;obtain ⟨t,rfl⟩:=ru;cases r1 with
    | @ref _ a h =>
     cases rx;obtain ⟨a',ha,ro⟩:=rs.at em;rw [h] at ha;cases ha;obtain ⟨ws,sq,rr⟩:=ro.read;have rr:RDs X.K H ρ es ws:=rr;rw [Dm en] at rr;rw [Hz rr] at sq;obtain ⟨its,rvv,pl,hz⟩:=I.list sq;have hi:IntsAre its ns:=intsAre_of rvv;obtain ⟨⟨cls,dd,data,sl⟩,n,ho,hc,hdd,hd⟩:=id pl;simp only at hc hd;subst hc hd;refine call_meets PySem.F.slot_list_count ⟨_,ho,rfl⟩ PySem.F.entry_list_count (PySem.F.args_list_count_2 _ _) (PySem.SeqAt.list_countAt a its.toArray n dd sl (.int k t) (isInt k)) ⟨ho,fun y hy=>(eq_isInt k t hi y (by simpa using hy)).at _ _,?_⟩;rw [show its.toArray.toList=its from rfl,cnt_ints k hi];exact ⟨.int _,H,I.tok _,⟨_,rfl⟩,co H ρ _ Ev.refl rs (.int _)⟩
   ·cases q
  ·cases q
end
noncomputable def Jk (T1:String) (f1:D->List D->MH->Option (D×MH)) (T2:String) (f2:D->List D->MH->Option (D×MH)) (mo:DM D) (mr:DM (List D)):DM D:=fun loc mh=>match mo loc mh with
 | some (x,m1)=>if Rx T1 x m1 then Bv T1 f1 mo mr loc mh else Bv T2 f2 mo mr loc mh
 | none=>none
theorem Vc {X:Cx}{e:Expr}{T1 T2:String}{f1 f2:D->List D->MH->Option (D×MH)}{mo:DM D}{mr:DM (List D)}(h1:DE X e (Bv T1 f1 mo mr)) (h2:DE X e (Bv T2 f2 mo mr)):DE X e (Jk T1 f1 T2 f2 mo mr):=fun loc mh=>by
 unfold Jk;split
 ·split
  ·exact h1 loc mh
  ·exact h2 loc mh
 ·exact Et
section
variable {prog:Program}{w:World}{A:Around}{E:Value->Shared->Prop}{s:Shared}
end
inductive DEnts (w:World) (K:PySem.W.Frag):List DictEntry->List (Str×D)->Prop
 | nil:DEnts w K [] []
 | cons {k:Str} {t:Tok} {u:Value} {v:V} {d:D} {es:List DictEntry} {kvs:List (Str×D)}:RelV v u->(∀ H ρ,RD K H ρ d v)->DEnts w K es kvs->DEnts w K ({ hash:=hashStr w k,key:=.str k t,val:=u }::es) ((k,d)::kvs)
structure DicOk (w:World) (K:PySem.W.Frag) (a:Addr) (kvs:List (Str×D)):Prop where
 ns:(a==sysModules)=false
 ob:∃ o es ep,K.lookup a=some o/\o.ExactDict/\o.data=.dict es ep/\DEnts w K es.toList kvs
noncomputable def Ey (es:List DictEntry) (k:Str):Option Value:=match es with
 | []=>none
 | e::r=>if Value.isStrOf k e.key then some e.val else Ey r k
theorem Vd (es:Array DictEntry) (k:Str):findBy Value.isStrOf es k=Ey es.toList k:=by
 obtain ⟨l⟩:=es;simp only [findBy,List.find?_toArray]
 induction l with
 | nil=>rfl
 | cons e r ih =>
  rw [List.find?_cons];show _=(if Value.isStrOf k e.key=true then some e.val else Ey r k);cases h:Value.isStrOf k e.key with
  | true=>rfl
  | false=>exact ih
theorem Oe {w:World}{K:PySem.W.Frag}:∀ {es:List DictEntry}{kvs:List (Str×D)},DEnts w K es kvs->∀ k:Str,(∃ d u v,kvs.lookup k=some d/\Ey es k=some u/\RelV v u/\∀ H ρ,RD K H ρ d v)\/(kvs.lookup k=none/\Ey es k=none)
 | _,_,.nil,k=>.inr ⟨rfl,rfl⟩
 | _,_,@DEnts.cons _ _ k0 t u v d es kvs rv rd h,k=>by
  by_cases e:k=k0
  ·subst e;left;refine ⟨d,u,v,by simp [List.lookup],?_,rv,rd⟩;simp [Ey,Value.isStrOf]
  ·have e1:(k==k0)=false:=by simpa using e
   have e2:Value.isStrOf k (.str k0 t)=false:=by
    simp [Value.isStrOf];exact fun z=>e z.symm
   rcases Oe h k with ⟨d',u',v',h1,h2,h3,h4⟩|⟨h1,h2⟩
   ·left;refine ⟨d',u',v',by rw [List.lookup_cons,e1];exact h1,?_,h3,h4⟩;show (if Value.isStrOf k (.str k0 t)=true then some u else Ey es k)=some u';rw [e2];exact h2
   ·right;refine ⟨by rw [List.lookup_cons,e1];exact h1,?_⟩;show (if Value.isStrOf k (.str k0 t)=true then some u else Ey es k)=none;rw [e2];exact h2
theorem Xo {P:Program}{w:World}{K:PySem.W.Frag}{es:List DictEntry}{kvs:List (Str×D)}(h:DEnts w K es kvs):∀ e∈es,∃ k,(PySem.strKind P w).is k e.key=true/\e.hash=(PySem.strKind P w).hash k:=by
 induction h with
 | nil=>intro e he;cases he
 | cons rv rd h ih =>
  intro e he;rcases List.mem_cons.mp he with rfl|he
  ·exact ⟨_,by simp [PySem.strKind,Value.isStrOf],rfl⟩
  ·exact ih e he
section
variable {X:Cx}{a:Addr}{kvs:List (Str×D)}
theorem DicOk.map {pins:List (Addr×Obj)}{σ:L2.St}{H:Hp}{s:Shared}(D:DicOk X.w X.K a kvs) (I:Inv X pins σ H s):∃ f,s.heap.MapOf (PySem.strKind X.prog X.w) a f/\∀ k,(∃ d u v,kvs.lookup k=some d/\f k=some u/\RelV v u/\∀ H ρ,RD X.K H ρ d v)\/(kvs.lookup k=none/\f k=none):=by
 obtain ⟨o,es,ep,h1,h2,h3,h4⟩:=D.ob;refine ⟨Ey es.toList,⟨o,es,ep,I.kIn a o h1,h2,h3,fun e he=>Xo h4 e (by simpa using he),fun k=>Vd es k⟩,Oe h4⟩
theorem Ve (D:DicOk X.w X.K a kvs):OpR X (compareOp .In) (fun y x H Q=>∃ k,y=.str k/\x=.ref a/\Q (.bl (kvs.lookup k).isSome) H):=by
 rintro pins s σ H x y v u Q I rx ry ⟨k,ex,ey,q⟩;subst ex;subst ey;obtain ⟨t,rfl⟩:=rx;cases ry;obtain ⟨f,m,hf⟩:=D.map I;refine wpAny_in_of (knd:=PySem.strKind X.prog X.w) (strKind_is _ _ k t) D.ns m ?_;have e:(f k).isSome=(kvs.lookup k).isSome:=by
  rcases hf k with ⟨d,u,v,h1,h2,_⟩|⟨h1,h2⟩
  ·rw [h1,h2];rfl
  ·rw [h1,h2];rfl
 rw [e];exact ⟨.bl _,H,I.tok _,rfl,q⟩
theorem Lx (D:DicOk X.w X.K a kvs):OpR X (compareOp .NotIn) (fun y x H Q=>∃ k,y=.str k/\x=.ref a/\Q (.bl (!(kvs.lookup k).isSome)) H):=by
 rintro pins s σ H x y v u Q I rx ry ⟨k,ex,ey,q⟩;subst ex;subst ey;obtain ⟨t,rfl⟩:=rx;cases ry;obtain ⟨f,m,hf⟩:=D.map I;refine wpAny_notIn_of (knd:=PySem.strKind X.prog X.w) (strKind_is _ _ k t) D.ns m ?_;have e:(f k).isSome=(kvs.lookup k).isSome:=by
  rcases hf k with ⟨d,u,v,h1,h2,_⟩|⟨h1,h2⟩
  ·rw [h1,h2];rfl
  ·rw [h1,h2];rfl
 rw [e];exact ⟨.bl _,H,I.tok _,rfl,q⟩
theorem Aaa (D:DicOk X.w X.K a kvs):IxR X (fun x y H Q=>∃ k d,x=.ref a/\y=.str k/\kvs.lookup k=some d/\∀ v,(∀ H ρ,RD X.K H ρ d v)->Q v H):=by
 rintro value slice pins s σ H x y v u Q I rx ry ⟨k,d,ex,ey,hl,q⟩ hs;subst ex;subst ey;cases rx;obtain ⟨t,rfl⟩:=ry;obtain ⟨f,m,hf⟩:=D.map I;rcases hf k with ⟨d',u',v',h1,h2,h3,h4⟩|⟨h1,h2⟩
 ·rw [hl] at h1;cases h1;exact subscriptTail_builtinR (x:=u') m.typeIs PySem.F.slot_dict_getitem.lookup (wpAny_getItem_of (knd:=PySem.strKind X.prog X.w) (strKind_is _ _ k t) m h2 ⟨rfl,⟨v',H,I.tok _,h3,q v' h4⟩⟩) hs
 ·rw [hl] at h1;cases h1
variable {e:Expr}{me:DM D}{x:Str}{p pos:Pos}
noncomputable def Ly (neg:Bool) (kvs:List (Str×D)) (m:DM D):DM D:=m.bnd fun y=>match y with
 | .str k=>Zr (.bl (if neg then !(kvs.lookup k).isSome else (kvs.lookup k).isSome))
 | _=>Zb
noncomputable def iW (kvs:List (Str×D)) (m:DM D):DM D:=m.bnd fun y=>match y with
 | .str k=>(match kvs.lookup k with | some d=>Zr d | none=>Zb)
 | _=>Zb
theorem iY (D:DicOk X.w X.K a kvs) (hg:Gl X x) (hm:X.mg x=some (.ref a)) (hd:(x==("__debug__":Str))=false) (he:DE X e me):DE X (.Compare e [.In] [.Name x p] pos) (Ly false kvs me):=fun loc mh =>
 Bk (Rc (Ve D) (he loc mh) (Il (v:=.ref a) hg hm rfl hd) rfl) fun σ H Q ⟨ρ,d,mh',q,rl,rs,co⟩=>by
  obtain ⟨y,m1,ea,q⟩:=Al q;cases y with
  | str k=>cases q;exact ⟨ρ,_,_,ea,rl,rs,fun H1 ρ1 v e1 rs1 r1=>by cases r1;exact ⟨k,rfl,rfl,co H1 ρ1 _ e1 rs1 (.bl _)⟩⟩
  | _=>cases q
theorem Vf (D:DicOk X.w X.K a kvs) (hg:Gl X x) (hm:X.mg x=some (.ref a)) (hd:(x==("__debug__":Str))=false) (he:DE X e me):DE X (.Compare e [.NotIn] [.Name x p] pos) (Ly true kvs me):=fun loc mh =>
 Bk (Rc (Lx D) (he loc mh) (Il (v:=.ref a) hg hm rfl hd) rfl) fun σ H Q ⟨ρ,d,mh',q,rl,rs,co⟩=>by
  obtain ⟨y,m1,ea,q⟩:=Al q;cases y with
  | str k=>cases q;exact ⟨ρ,_,_,ea,rl,rs,fun H1 ρ1 v e1 rs1 r1=>by cases r1;exact ⟨k,rfl,rfl,co H1 ρ1 _ e1 rs1 (.bl _)⟩⟩
  | _=>cases q
theorem iZ (D:DicOk X.w X.K a kvs) (hg:Gl X x) (hm:X.mg x=some (.ref a)) (hd:(x==("__debug__":Str))=false) (he:DE X e me):DT X (.Compare e [.In] [.Name x p] pos) (Ah (Ly false kvs me)):=fun loc mh =>
 Kz (Rf (Ve D) (he loc mh) (Il (v:=.ref a) hg hm rfl hd) rfl) fun σ H Q ⟨ρ,b,mh',q,rl,rs,co⟩=>by
  have q:=Dj q;obtain ⟨y,m1,ea,q⟩:=Al q;cases y with
  | str k=>cases q;exact ⟨ρ,_,_,ea,rl,rs,fun H1 ρ1 v e1 rs1 r1=>by cases r1;exact ⟨k,rfl,rfl,_,rfl,co H1 ρ1 e1 rs1⟩⟩
  | _=>cases q
theorem Vg (D:DicOk X.w X.K a kvs) (hg:Gl X x) (hm:X.mg x=some (.ref a)) (hd:(x==("__debug__":Str))=false) (he:DE X e me):DT X (.Compare e [.NotIn] [.Name x p] pos) (Ah (Ly true kvs me)):=fun loc mh =>
 Kz (Rf (Lx D) (he loc mh) (Il (v:=.ref a) hg hm rfl hd) rfl) fun σ H Q ⟨ρ,b,mh',q,rl,rs,co⟩=>by
  have q:=Dj q;obtain ⟨y,m1,ea,q⟩:=Al q;cases y with
  | str k=>cases q;exact ⟨ρ,_,_,ea,rl,rs,fun H1 ρ1 v e1 rs1 r1=>by cases r1;exact ⟨k,rfl,rfl,_,rfl,co H1 ρ1 e1 rs1⟩⟩
  | _=>cases q
theorem jA (D:DicOk X.w X.K a kvs) (hg:Gl X x) (hm:X.mg x=some (.ref a)) (hd:(x==("__debug__":Str))=false) (he:DE X e me) (hs:Ms e):DE X (.Subscript (.Name x p) e pos) (iW kvs me):=fun loc mh =>
 Bk (vA (Aaa D) (Il (v:=.ref a) hg hm rfl hd) (he loc mh) hs) fun σ H Q ⟨ρ,d,mh',q,rl,rs,co⟩=>by
  obtain ⟨y,m1,ea,q⟩:=Al q;cases y with
  | str k =>
   cases hl:kvs.lookup k with
   | some d' =>
    simp only [hl] at q;cases q;exact ⟨ρ,_,_,ea,rl,rs,fun H1 ρ1 v e1 rs1 r1=>by cases r1;exact ⟨k,d,rfl,rfl,hl,fun v' hv=>co H1 ρ1 _ e1 rs1 (hv H1 ρ1)⟩⟩
   | none =>
    simp only [hl] at q;cases q
  | _=>cases q
end
mutual
noncomputable def rdV (K:PySem.W.Frag):Nat->Value->Option D
 | _,.none=>some .non
 | _,.bool b=>some (.bl b)
 | _,.int i _=>some (.int i)
 | _,.str x _=>some (.str x)
 | n+1,.ref a=>match K.lookup a with
  | some ⟨.type c,none,.seq its _,_⟩=>if c == "tuple"&&decide (its.size<=1000) then (match bL K n its.toList with | some ds=>some (.tup ds) | none=>none) else none
  | _=>none
 | _,_=>none
noncomputable def bL (K:PySem.W.Frag):Nat->List Value->Option (List D)
 | _,[]=>some []
 | 0,_::_=>none
 | n+1,u::r=>match rdV K n u with
  | some d=>(match bL K n r with | some ds=>some (d::ds) | none=>none)
  | none=>none
end
mutual
theorem Xp {K:PySem.W.Frag}:∀ (n:Nat) {u:Value}{d:D},rdV K n u=some d->∃ v,RelV v u/\∀ H ρ,RD K H ρ d v
 | n,.none,d,h=>by cases n <;> (simp only [rdV] at h;cases h;exact ⟨.non,rfl,fun _ _=>.non⟩)
 | n,.bool b,d,h=>by cases n <;> (simp only [rdV] at h;cases h;exact ⟨.bl b,rfl,fun _ _=>.bl b⟩)
 | n,.int i t,d,h=>by cases n <;> (simp only [rdV] at h;cases h;exact ⟨.int i,⟨t,rfl⟩,fun _ _=>.int i⟩)
 | n,.str x t,d,h=>by cases n <;> (simp only [rdV] at h;cases h;exact ⟨.str x,⟨t,rfl⟩,fun _ _=>.str x⟩)
 | 0,.ref a,d,h=>by simp only [rdV] at h;cases h
 | n+1,.ref a,d,h=>by
  simp only [rdV] at h;split at h
  ·rename_i c its ep sl hk;split at h
   ·rename_i hc;rw [Bool.and_eq_true,decide_eq_true_iff] at hc;split at h
    ·rename_i ds hd;cases h;obtain ⟨vs,h1,h2⟩:=Y8 n hd;refine ⟨.ref a,rfl,fun H ρ=>.tup (.inr ⟨_,its,ep,hk,by rw [eq_of_beq hc.1],rfl,rfl,?_,h1⟩) (h2 H ρ)⟩;rw [sizeLine_eq];omega
    ·cases h
   ·cases h
  ·cases h
 | n,.float _ _,d,h=>by cases n <;> (simp only [rdV] at h;cases h)
 | n,.bytes _ _,d,h=>by cases n <;> (simp only [rdV] at h;cases h)
 | n,.ellipsis,d,h=>by cases n <;> (simp only [rdV] at h;cases h)
 | n,.notImplemented,d,h=>by cases n <;> (simp only [rdV] at h;cases h)
 | n,.type _,d,h=>by cases n <;> (simp only [rdV] at h;cases h)
 | n,.builtin _,d,h=>by cases n <;> (simp only [rdV] at h;cases h)
theorem Y8 {K:PySem.W.Frag}:∀ (n:Nat) {us:List Value}{ds:List D},bL K n us=some ds->∃ vs,Vals vs us/\∀ H ρ,RDs K H ρ ds vs
 | n,[],ds,h=>by cases n <;> (simp only [bL] at h;cases h;exact ⟨[],.nil,fun _ _=>.nil⟩)
 | 0,_::_,ds,h=>by simp only [bL] at h;cases h
 | n+1,u::r,ds,h=>by
  simp only [bL] at h;split at h
  ·rename_i d hd;split at h
   ·rename_i ds' hr;cases h;obtain ⟨v,a1,a2⟩:=Xp n hd;obtain ⟨vs,b1,b2⟩:=Y8 n hr;exact ⟨v::vs,.cons a1 b1,fun H ρ=>.cons (a2 H ρ) (b2 H ρ)⟩
   ·cases h
  ·cases h
end
noncomputable def rdE (K:PySem.W.Frag) (n:Nat):List DictEntry->Option (List (Str×D))
 | []=>some []
 | e::r=>match e.key with
  | .str k _=>(match rdV K n e.val with
   | some d=>(match rdE K n r with | some l=>some ((k,d)::l) | none=>none)
   | none=>none)
  | _=>none
noncomputable def Xq (w:World) (e:DictEntry):DictEntry:=match e.key with
 | .str k t=>{ hash:=hashStr w k,key:=.str k t,val:=e.val }
 | _=>e
theorem jB {w:World}{K:PySem.W.Frag}{n:Nat}:∀ {es:List DictEntry}{kvs:List (Str×D)},rdE K n es=some kvs->DEnts w K (es.map (Xq w)) kvs
 | [],_,h=>by cases h;exact .nil
 | e::r,kvs,h=>by
  obtain ⟨hs,key,val⟩:=e;cases key with
  | str k t =>
   simp only [rdE] at h;split at h
   ·rename_i d hd;split at h
    ·rename_i l hl;cases h;obtain ⟨v,a1,a2⟩:=Xp n hd;exact .cons a1 a2 (jB hl)
    ·cases h
   ·cases h
  | _=>simp only [rdE] at h;cases h
theorem Aab {w:World}{K:PySem.W.Frag}{a:Addr}{es:Array DictEntry}{ep n:Nat}{kvs:List (Str×D)}(hn:(a==sysModules)=false) (hl:K.lookup a=some ⟨.type "dict",none,.dict es ep,#[]⟩) (hh:es.toList.map (Xq w)=es.toList) (hd:rdE K n es.toList=some kvs):DicOk w K a kvs :=
 ⟨hn,_,es,ep,hl,⟨rfl,rfl,rfl⟩,rfl,by rw [← hh];exact jB hd⟩
section
variable {X:Cx}{o:Expr}{mo:DM D}{c f:Str}{C:Addr}{pos apos:Pos}
variable {CX:CXT}{k:Nat}{fa:Addr}{fd:FuncData}{ps:List Str}{m:Str}{g:List D->MH->Option (D×MH)}{e:Expr}{es:List Expr}{mr:DM (List D)}{E:XK}
noncomputable def spI (C:Addr) (f:Str):Sp:=fun vs H Q _=>∃ x dx v,vs=[.ref x,v]/\H x=some (.ins C dx [])/\Q .non (upd H x (.ins C dx [(f,v)]))
end
noncomputable abbrev Fn:=List D->MH->Option (D×MH)
section
variable {X:Cx}{o:Expr}{mo:DM D}{f m:Str}{pos apos:Pos}
end
section
variable {X:Cx}
noncomputable def Aac:List D->Option (Int×Int)
 | [.int i,.int j]=>some (i,j)
 | _=>none
theorem bO {ds:List D}{z:Int×Int}(h:Aac ds=some z):ds=[.int z.1,.int z.2]:=by
 match ds,h with
 | [d,e],h =>
  cases d with
  | int i =>
   cases e with
   | int j=>cases h;rfl
   | _=>cases h
  | _=>cases h
 | [],h=>cases h
 | [d],h=>cases d <;> cases h
 | d::e::_::_,h=>cases d <;> first | cases h | (cases e <;> cases h)
noncomputable def Y9 (f:Int->List Int->Int) (g:Fn):Fn:=fun ds mh=>match Aac ds with
 | some z=>some (.int (f z.1 [z.2]),mh)
 | none=>g ds mh
theorem Og {v:Value}{f:Int->List Int->Int}{g:Fn}(h2:Bg X v (fun xs H Q=>∃ i j,xs=[.int i,.int j]/\Q (.int (f i [j])) H)) (hg:Bg X v (rDs X.K g)):Bg X v (rDs X.K (Y9 f g)):=by
 rintro pins s σ H xs us Q I r ⟨ρ,mh,ds,d,mh',q,rs,rd,co⟩;unfold Y9 at q;cases e:Aac ds with
 | none=>rw [e] at q;exact hg pins s σ H xs us Q I r ⟨ρ,mh,ds,d,mh',q,rs,rd,co⟩
 | some z =>
  rw [e] at q;cases q;rw [bO e] at rd;obtain ⟨v1,v2,rfl,r1,r2⟩:=Adm rd;cases r1;cases r2;exact h2 pins s σ H _ us Q I r ⟨_,_,rfl,co H ρ _ Ev.refl rs (.int _)⟩
noncomputable def jC:Fn:=Y9 Hu maxD
noncomputable def jD:Fn:=Y9 Hf minD
theorem Xr (hc:X.calm=true):Bg X (.builtin "max") (rDs X.K jC):=Og (Z5 hc) (bB hc)
theorem Xu (hc:X.calm=true):Bg X (.builtin "min") (rDs X.K jD):=Og (Z6 hc) (bC hc)
end
noncomputable def Adu (lo c:Int) (n:Nat):It:=⟨fun i _=>i < n,fun i H x H'=>H'=H/\x=.int (lo+i * c),fun i _=>n<=i⟩
theorem Vh {P:Program}{w:World}{K:PySem.W.Frag}{tg:Expr}(it:Addr) (lo c:Int) (n:Nat):Turn P w K tg (Adu lo c n) [it] it (fun i h=>IsRangeIter h it (lo+(i:Nat) * c) ((n:Int) - (i:Nat)) c) where
 mem:=by simp
 obj:=fun i h st b hb=>by
  have e:b=it:=by simpa using hb
  subst e
  exact ⟨_,st,fun v z=>by
   have z':Data.fields _=Data.cell v:=z
   cases z'⟩
 keep:=fun i h h' st k=>k it (by simp) _ st
 item:=by
  intro X hP hw hK hc i pins s σ H E I hf st hg;subst hP hw hK;obtain ⟨f0,f1,f2,f3,f4,f5⟩:=hf it (by simp);have W:=Walks.range (prog:=X.prog) (w:=X.w) (I.ok.hd hc) it lo c n;refine W.item i s _ _ hg st fun v h' tk hv st' kk=>?_
  obtain ⟨t,rfl⟩:=hv;have I1:Inv X pins σ H { s with heap:=h',toks:=tk }:=I.turned (fun b o hb e=>kk b o (by simpa using hb) e) f0 f1 f3 f4 f5
  exact ⟨_,rfl,Yl (s:={ s with heap:=h',toks:=tk }) (n := "range_iterator") st' rfl rfl (by decide) ⟨.int (lo+i * c),H,I1,⟨t,rfl⟩,⟨rfl,rfl⟩,st',fun b hb=>(hf b hb).1⟩⟩
 done:=by
  intro X hP hw hK hc i pins s σ H E I hf st hg;subst hP hw hK;obtain ⟨f0,f1,f2,f3,f4,f5⟩:=hf it (by simp);exact wpAny_pyNext_range_end (I.ok.hd hc) st (by have:n<=i:=hg;omega) fun h' eb=>⟨rfl,I.turned (t':=s.toks) (fun b o hb e=>eb b o hb e) f0 f1 f3 f4 f5⟩
 self:=fun _ _ _ _ _ st h=>wpAny_pyIter_rangeiter st h
noncomputable def Fv (lo c:Int) (n:Nat):List D:=(List.range n).map fun (k:Nat)=>D.int (lo+(k:Int) * c)
theorem JR.rngS {K:PySem.W.Frag}{H0:Hp}{ρ0:List Addr}{lo c:Int}{n:Nat}:JR K H0 ρ0 (.seq (Fv lo c n)) (Adu lo c n) where
 go:=fun H ρ mh i d e rs q=>by
  have q:(Fv lo c n)[i]?=some d:=q;unfold Fv at q;rw [List.getElem?_map] at q
  by_cases hi:i < n
  ·rw [List.getElem?_range hi] at q;cases q;refine ⟨hi,?_⟩;rintro x H' ⟨h1,h2⟩;subst h1;subst h2;exact ⟨Ev.refl,rs,.int _⟩
  ·rw [List.getElem?_eq_none (by simp;omega)] at q;cases q
 stop:=fun H ρ mh i e rs q=>by
  show n<=i;have q:(true&&decide ((Fv lo c n).length<=i))=true:=q;rw [Bool.true_and] at q;have:=of_decide_eq_true q;unfold Fv at this
  simpa using this
noncomputable def Oh (a b c:Int):Nat:=(Builtin.Range.rangeSize a b c).toNat
theorem Za {a b c:Int}(hc:0 < c):((Oh a b c:Nat):Int)=Builtin.Range.rangeSize a b c:=by
 unfold Oh Builtin.Range.rangeSize;rw [if_pos hc];split
 ·have:0<=(b - a - 1) / c:=Int.ediv_nonneg (by omega) (by omega);omega
 ·rfl
theorem bQ {a b c:Int}(h1:0 < c/\c < 1000) (ha:-1000000<=a/\a<=1000000) (hb:-1000000<=b/\b<=1000000):Builtin.Range.small a b c=true:=by
 have h2:Builtin.Range.rangeSize a b c<=2000001:=by
  unfold Builtin.Range.rangeSize;rw [if_pos h1.1];split
  ·have:(b - a - 1) / c<=b - a - 1:=Int.ediv_le_self _ (by omega);omega
  ·omega
 have h3:0<=Builtin.Range.rangeSize a b c:=by rw [← Za h1.1];omega
 unfold Builtin.Range.small;simp only [Builtin.Range.rangeFitsLong,Bool.and_eq_true,Bool.or_eq_true,decide_eq_true_eq,beq_iff_eq,if_pos (show c > 0 from h1.1)];omega
section
variable {X:Cx}{tg:Expr}
noncomputable def bR (ds:List D):Option Src:=match ds with
 | [.int i,.int j,.int c]=>if (0 < c/\c < 1000)/\(-1000000<=i/\i<=1000000)/\(-1000000<=j/\j<=1000000) then some (.seq (Fv i c (Oh i j c))) else none
 | _=>none
theorem bT {ds:List D}{s:Src}(h:bR ds=some s):∃ i j c,ds=[.int i,.int j,.int c]/\((0 < c/\c < 1000)/\(-1000000<=i/\i<=1000000)/\(-1000000<=j/\j<=1000000))/\s=.seq (Fv i c (Oh i j c)):=by
 unfold bR at h;split at h
 ·rename_i i j c;split at h
  ·rename_i hj;cases h;exact ⟨i,j,c,rfl,hj,rfl⟩
  ·cases h
 ·cases h
theorem bU {a b c:Expr}{mr:DM (List D)}{p pos:Pos}(hg:Gl X "range") (hm:X.mg "range"=none) (ha:DA X [a,b,c] mr) (he:starEach [a,b,c] X.env=(false,eval a X.env)::starEach [b,c] X.env) (hpl:(backTo pos (starEach [b,c] X.env)).any (·.1)=false) :
  DI X tg (.Call (.Name "range" p) [a,b,c] [] pos) (Ht bR mr):=fun loc mh=>by
 rintro pins s σ H R I ⟨ρ,src,mh',q,rl,rs,co⟩;obtain ⟨ds,ea,q⟩:=Qi q;obtain ⟨i,j,k,rfl,⟨hc,hi,hj⟩,e⟩:=bT q;have e:src=.seq (Fv i k (Oh i j k)):=e;subst e;refine Call_ (Kv I hg hm boot_range (PyProof.Rows.callWith_type1 (thn (ha loc mh pos pins s σ H (fun vs H1=>∃ ρ1,Ev X.K H ρ H1 ρ1/\RS X.K H1 ρ1 mh'/\RDs X.K H1 ρ1 [.int i,.int j,.int k] vs) I ⟨ρ,_,mh',ea,rl,rs,fun H1 ρ1 vs e1 rs1 r1=>⟨ρ1,e1,rs1,r1⟩⟩) ?_) he hpl));rintro us s1 ⟨vs,H1,I1,r,ρ1,e1,rs1,rd⟩;cases rd with
 | cons d1 rd =>
  obtain ⟨v2,v3,rfl,d2,d3⟩:=Adm rd;cases d1;cases d2;cases d3;cases r with
  | cons r1 rr =>
   obtain ⟨u2,u3,rfl,⟨t2,rfl⟩,⟨t3,rfl⟩⟩:=vals2 rr;obtain ⟨t1,rfl⟩:=r1
   refine call_range_3 (by omega) ?_ (.inl (PyProof.noPylong_of_log2 (by
    have h0:k.natAbs≠0:=by omega
    have:k.natAbs.log2 < 10:=(Nat.log2_lt h0).mpr (by omega)
    omega)))
   refine wpAny_pyIter_range (IsRange.new ..) (bQ hc hi hj) ?_
   have I2:Inv X pins σ H1 { s1 with heap:=s1.heap.push { cls:=.type "range",data:=.fields #[.int i t1,.int j t2,.int k t3] },toks:=s1.toks }:=I1.kept fun b o e=>Heap.get?_push_of_some _ e
   refine ⟨(s1.heap.push { cls:=.type "range",data:=.fields #[.int i t1,.int j t2,.int k t3] }).objs.size,[(s1.heap.push { cls:=.type "range",data:=.fields #[.int i t1,.int j t2,.int k t3] }).objs.size],_,_,H1,rfl,
    I2.kept (t':=s1.toks) fun b o e=>Heap.get?_push_of_some _ e,Vh _ i k (Oh i j k),?_,fun b hb=>?_,co H1 ρ1 _ e1 rs1 JR.rngS⟩
   ·have e3:i+((0:Nat):Int) * k=i:=by simp
    have e2:((Oh i j k:Nat):Int) - ((0:Nat):Int)=Builtin.Range.rangeSize i j k:=by rw [Za hc.1];simp
    show IsRangeIter _ _ (i+((0:Nat):Int) * k) (((Oh i j k:Nat):Int) - ((0:Nat):Int)) k;rw [e3,e2];exact Heap.get?_push_size _ rfl
   ·have e:b=(s1.heap.push { cls:=.type "range",data:=.fields #[.int i t1,.int j t2,.int k t3] }).objs.size:=by simpa using hb
    subst e;exact I2.fpOk (Nat.le_refl _) (I2.hok.fresh (Nat.le_refl _))
end
section
variable {X:Cx}
end
section
variable {X:Cx}
noncomputable def Adv (k:Bool):Value->Bool
 | .bool b=>b==k
 | _=>false
noncomputable def obV:Option Bool->V
 | none=>.non
 | some b=>.bl b
noncomputable def Qx:Option Bool->Value
 | none=>.none
 | some b=>.bool b
noncomputable def obD:Option Bool->D
 | none=>.non
 | some b=>.bl b
noncomputable def K7:List D->Option (List (Option Bool))
 | []=>some []
 | .bl b::r=>(K7 r).map (some b::·)
 | .non::r=>(K7 r).map (none::·)
 | _::_=>none
theorem Oi:∀ bs:List (Option Bool),K7 (bs.map obD)=some bs
 | []=>rfl
 | none::r=>by show (K7 (r.map obD)).map _=_;rw [Oi r];rfl
 | some b::r=>by show (K7 (r.map obD)).map _=_;rw [Oi r];rfl
theorem K8:∀ {ds:List D}{bs:List (Option Bool)},K7 ds=some bs->ds=bs.map obD
 | [],bs,h=>by cases h;rfl
 | d::r,bs,h=>by
  cases d with
  | bl b =>
   have h:(K7 r).map (some b::·)=some bs:=h;cases q:K7 r with
   | none=>rw [q] at h;cases h
   | some l=>rw [q] at h;cases h;rw [K8 q];rfl
  | non =>
   have h:(K7 r).map (none::·)=some bs:=h;cases q:K7 r with
   | none=>rw [q] at h;cases h
   | some l=>rw [q] at h;cases h;rw [K8 q];rfl
  | _=>cases h
theorem R8 {K:PySem.W.Frag}{H:Hp}{ρ:List Addr}:∀ {bs:List (Option Bool)}{xs:List V},RDs K H ρ (bs.map obD) xs->xs=bs.map obV
 | [],_,.nil=>rfl
 | none::r,_,.cons h t=>by
  cases h;rw [R8 t];rfl
 | some b::r,_,.cons h t=>by
  cases h;rw [R8 t];rfl
theorem Oj:∀ {bs:List (Option Bool)}{its:List Value},Vals (bs.map obV) its->its=bs.map Qx
 | [],_,.nil=>rfl
 | none::r,_,.cons h t=>by
  cases h;rw [Oj t];rfl
 | some b::r,_,.cons h t=>by
  cases h;rw [Oj t];rfl
theorem R9 (k:Bool):∀ bs:List (Option Bool),(bs.map Qx).countP (Adv k)=bs.countP (·==some k)
 | []=>rfl
 | none::r=>by
  rw [List.map_cons,List.countP_cons,List.countP_cons,R9 k r];rfl
 | some b::r=>by
  rw [List.map_cons,List.countP_cons,List.countP_cons,R9 k r];rfl
noncomputable def Aad:List D->Option Bool
 | [.bl k]=>some k
 | _=>none
theorem bV {ds:List D}{k:Bool}(h:Aad ds=some k):ds=[.bl k]:=by
 match ds,h with
 | [d],h =>
  cases d with
  | bl b=>cases h;rfl
  | _=>cases h
 | [],h=>cases h
 | d::_::_,h=>cases d <;> cases h
noncomputable def jE:D->MH->Option (List D)
 | .ref n,mh=>match mh[n]? with | some (.lst ds)=>some ds | _=>none
 | _,_=>none
theorem Xv {x:D}{mh:MH}{ds:List D}(h:jE x mh=some ds):∃ n,x=.ref n/\mh[n]?=some (.lst ds):=by
 cases x with
 | ref n =>
  have h:(match mh[n]? with | some (.lst ds)=>some ds | _=>none)=some ds:=h;cases e:mh[n]? with
  | none=>rw [e] at h;cases h
  | some o =>
   cases o with
   | lst es=>rw [e] at h;cases h;exact ⟨n,rfl,e⟩
   | dct kvs=>rw [e] at h;cases h
   | plc=>rw [e] at h;cases h
 | _=>cases h
noncomputable def Lz (x:D) (as:List D) (mh:MH):Option (D×MH):=match Aad as with
 | none=>iV x as mh
 | some k=>match jE x mh with
  | none=>none
  | some ds=>match K7 ds with
   | some bs=>some (.int (bs.countP (·==some k):Nat),mh)
   | none=>none
theorem jF {n:Nat}{bs:List (Option Bool)}{k:Bool}{mh:MH}(e:mh[n]?=some (.lst (bs.map obD))):Lz (.ref n) [.bl k] mh=some (.int (bs.countP (·==some k):Nat),mh):=by
 show (match (match mh[n]? with | some (.lst ds)=>some ds | _=>none) with | none=>none | some ds=>match K7 ds with | some bs=>some (D.int (bs.countP (·==some k):Nat),mh) | none=>none)=_;rw [e];dsimp only;rw [Oi]
theorem Vi {n:Nat}{bs:List Bool}{k:Bool}{mh:MH}(e:mh[n]?=some (.lst (bs.map D.bl))):Lz (.ref n) [.bl k] mh=some (.int (bs.countP (·==k):Nat),mh):=by
 have e':mh[n]?=some (.lst ((bs.map some).map obD)):=by rw [e,List.map_map];rfl
 rw [jF e',List.countP_map];rfl
theorem jG:MtR X "list.count" (rDM X.K Lz):=by
 rintro pins s σ H x xs v us Q I rx rv ⟨ρ,mh,dx,ds,d,mh',q,rs,r1,r2,co⟩;unfold Lz at q;cases e1:Aad ds with
 | none=>rw [e1] at q;exact sY pins s σ H x xs v us Q I rx rv ⟨ρ,mh,dx,ds,d,mh',q,rs,r1,r2,co⟩
 | some k =>
  rw [e1] at q;have e1:=bV e1;subst e1;cases e2:jE dx mh with
  | none=>rw [e2] at q;cases q
  | some es =>
   rw [e2] at q;dsimp only at q;cases e3:K7 es with
   | none=>rw [e3] at q;cases q
   | some bs =>
    rw [e3] at q;cases q;obtain ⟨nn,rfl,em⟩:=Xv e2;obtain ⟨y,rfl,ry⟩:=K4 r2;cases ry;obtain ⟨u,rfl,ru⟩:=rv.one;cases ru;cases r1 with
    | @ref _ a h =>
     cases rx;obtain ⟨a',ha,ro⟩:=rs.at em;rw [h] at ha;cases ha;obtain ⟨ws,sq,rr⟩:=ro.read;have rr:RDs X.K H ρ es ws:=rr;rw [K8 e3] at rr;rw [R8 rr] at sq;obtain ⟨its,rvv,pl,hz⟩:=I.list sq;have hi:=Oj rvv;subst hi;obtain ⟨⟨cls,dd,data,sl⟩,n,ho,hc,hdd,hd⟩:=id pl;simp only at hc hd;subst hc hd;refine call_meets PySem.F.slot_list_count ⟨_,ho,rfl⟩ PySem.F.entry_list_count (PySem.F.args_list_count_2 _ _) (PySem.SeqAt.list_countAt a (bs.map Qx).toArray n dd sl (.bool k) (Adv k)) ⟨ho,fun y hy=>?_,?_⟩
     ·have hy:y∈bs.map Qx:=by simpa using hy
      obtain ⟨b,_,rfl⟩:=List.mem_map.mp hy;cases b with
      | none=>exact PySem.SeqAt.EqAt.none_bool k
      | some b=>exact PySem.SeqAt.EqAt.bool_bool b k
     ·rw [show (bs.map Qx).toArray.toList=bs.map Qx from rfl,R9 k bs];exact ⟨.int _,H,I.tok _,⟨_,rfl⟩,co H ρ _ Ev.refl rs (.int _)⟩
noncomputable def intD:Fn:=fun ds mh=>match ds with
 | [x]=>(match x with
  | .int i=>some (.int i,mh)
  | .bl b=>some (.int (if b then 1 else 0),mh)
  | _=>none)
 | _=>none
theorem bW:Bg X (.type "int") (rDs X.K intD):=by
 rintro pins s σ H xs us Q I r ⟨ρ,mh,ds,d,mh',q,rs,rd,co⟩
 match ds,q with
 | [x],q =>
  obtain ⟨v,rfl,rx⟩:=K4 rd;cases x with
  | int i=>cases q;cases rx;exact Py pins s σ H _ us Q I r (.inl ⟨i,rfl,co H ρ _ Ev.refl rs (.int _)⟩)
  | bl b=>cases q;cases rx;exact Py pins s σ H _ us Q I r (.inr ⟨b,rfl,co H ρ _ Ev.refl rs (.int _)⟩)
  | _=>cases q
 | [],q=>cases q
 | _::_::_,q=>cases q
end
noncomputable def jH:D->Option Key
 | .int i=>some (.inl i)
 | .str x=>some (.inr x)
 | _=>none
noncomputable def keyB:Key->Key->Bool
 | .inl i,.inl j=>i==j
 | .inr x,.inr y=>x==y
 | _,_=>false
theorem Mw (a b:Key):keyB a b=decide (a=b):=by
 cases a with
 | inl i =>
  cases b with
  | inl j=>show (i==j)=_;by_cases h:i=j <;> simp [h]
  | inr y=>rfl
 | inr x =>
  cases b with
  | inl j=>rfl
  | inr y =>
   show (x==y)=_
   by_cases h:x=y
   ·subst h;simp
   ·rw [decide_eq_false (fun z=>h (by cases z;rfl))];exact beq_eq_false_iff_ne.mpr h
noncomputable def Kf:List (Key×D)->Key->Option D
 | [],_=>none
 | p::r,k=>if keyB p.1 k=true then some p.2 else Kf r k
noncomputable def putD (kvs:List (Key×D)) (k:Key) (d:D):List (Key×D) :=
 if (kvs.any fun kv=>keyB kv.1 k)=true then kvs.map (fun kv=>if keyB kv.1 k=true then (kv.1,d) else kv) else kvs++[(k,d)]
noncomputable def Gs (kvs more:List (Key×D)):List (Key×D):=more.foldl (fun acc kv=>putD acc kv.1 kv.2) kvs
section
variable {K:PySem.W.Frag}{H H':Hp}{ρ ρ':List Addr}
noncomputable def RK (K:PySem.W.Frag) (H:Hp) (ρ:List Addr) (kvs:List (Key×D)) (xs:List (Key×V)):Prop:=xs.map (·.1)=kvs.map (·.1)/\RDs K H ρ (kvs.map (·.2)) (xs.map (·.2))
theorem RK.nil:RK K H ρ [] []:=⟨rfl,.nil⟩
theorem RK.cons {k:Key}{d:D}{v:V}{kvs:List (Key×D)}{xs:List (Key×V)}(r:RD K H ρ d v) (h:RK K H ρ kvs xs):RK K H ρ ((k,d)::kvs) ((k,v)::xs) :=
 ⟨by rw [List.map_cons,List.map_cons,h.1],.cons r h.2⟩
theorem RK.inv {k:Key}{d:D}{kvs:List (Key×D)}{xs:List (Key×V)}(h:RK K H ρ ((k,d)::kvs) xs):∃ v r,xs=(k,v)::r/\RD K H ρ d v/\RK K H ρ kvs r:=by
 obtain ⟨h1,h2⟩:=h;cases xs with
 | nil=>cases h1
 | cons p r =>
  obtain ⟨k',v⟩:=p;rw [List.map_cons,List.map_cons] at h1;injection h1 with e1 e2
  have e1:k'=k:=e1;subst e1;cases h2 with
  | cons a b=>exact ⟨v,r,rfl,a,e2,b⟩
theorem RK.inv0 {xs:List (Key×V)}(h:RK K H ρ [] xs):xs=[]:=by
 cases xs with
 | nil=>rfl
 | cons p r=>cases h.1
theorem RK.val (k:Key):∀ {kvs:List (Key×D)}{xs:List (Key×V)},RK K H ρ kvs xs->(∃ d v,Kf kvs k=some d/\Ky xs k=some v/\RD K H ρ d v)\/(Kf kvs k=none/\Ky xs k=none)
 | [],xs,h=>by rw [h.inv0];exact .inr ⟨rfl,rfl⟩
 | (k',d)::kvs,xs,h=>by
  obtain ⟨v,r,rfl,a,b⟩:=h.inv
  by_cases e:k'=k
  ·exact .inl ⟨d,v,by unfold Kf;rw [Mw,decide_eq_true e,if_pos rfl],Nb e,a⟩
  ·have e1:Kf ((k',d)::kvs) k=Kf kvs k:=by
    show (if keyB k' k=true then _ else _)=_;rw [Mw,decide_eq_false e,if_neg Bool.false_ne_true]
   rw [e1,Nf e];exact RK.val k b
theorem RK.some_eq (k:Key) {kvs:List (Key×D)}{xs:List (Key×V)}(h:RK K H ρ kvs xs):(Ky xs k).isSome=(Kf kvs k).isSome:=by
 rcases h.val k with ⟨d,v,e1,e2,_⟩ | ⟨e1,e2⟩ <;> rw [e1,e2] <;> rfl
theorem RK.any (k:Key):∀ {kvs:List (Key×D)}{xs:List (Key×V)},RK K H ρ kvs xs->(xs.any fun kv=>decide (kv.1=k))=(kvs.any fun kv=>keyB kv.1 k)
 | [],xs,h=>by rw [h.inv0];rfl
 | (k',d)::kvs,xs,h=>by
  obtain ⟨v,r,rfl,a,b⟩:=h.inv;rw [List.any_cons,List.any_cons,RK.any k b,Mw]
theorem RK.repl {d:D}{v:V}(k:Key) (rv:RD K H ρ d v):∀ {kvs:List (Key×D)}{xs:List (Key×V)},RK K H ρ kvs xs->RK K H ρ (kvs.map fun kv=>if keyB kv.1 k=true then (kv.1,d) else kv) (xs.map fun kv=>if kv.1=k then (kv.1,v) else kv)
 | [],xs,h=>by rw [h.inv0];exact .nil
 | (k',d')::kvs,xs,h=>by
  obtain ⟨v',r,rfl,a,b⟩:=h.inv;rw [List.map_cons,List.map_cons];dsimp only;rw [Mw]
  by_cases e:k'=k
  ·rw [decide_eq_true e,if_pos rfl,if_pos e];exact (RK.repl k rv b).cons rv
  ·rw [decide_eq_false e,if_neg Bool.false_ne_true,if_neg e];exact (RK.repl k rv b).cons a
theorem RK.put {d:D}{v:V}(k:Key) (rv:RD K H ρ d v) {kvs:List (Key×D)}{xs:List (Key×V)}(h:RK K H ρ kvs xs):RK K H ρ (putD kvs k d) (putK xs k v):=by
 unfold putD putK;rw [h.any k]
 by_cases e:(kvs.any fun kv=>keyB kv.1 k)=true
 ·rw [if_pos e,if_pos e];exact h.repl k rv
 ·rw [if_neg e,if_neg e];refine ⟨by rw [List.map_append,List.map_append,h.1];rfl,?_⟩;rw [List.map_append,List.map_append];exact h.2.append (.cons rv .nil)
theorem RK.merge:∀ {more:List (Key×D)}{ys:List (Key×V)}{kvs:List (Key×D)}{xs:List (Key×V)},RK K H ρ more ys->RK K H ρ kvs xs->RK K H ρ (Gs kvs more) (Jq xs ys)
 | [],ys,_,_,h,g=>by rw [h.inv0];exact g
 | (k,d)::more,ys,kvs,xs,h,g=>by
  obtain ⟨v,r,rfl,a,b⟩:=h.inv;exact (show RK K H ρ (Gs (putD kvs k d) more) (Jq (putK xs k v) r) from RK.merge b (g.put k a))
theorem RK.length {kvs:List (Key×D)}{xs:List (Key×V)}(h:RK K H ρ kvs xs):xs.length=kvs.length:=by
 have:=congrArg List.length h.1
 simpa using this
theorem Ev.dk {p:Addr}{ys zs:List (Key×V)}(hp:H p=some (.dK ys)):Ev K H ρ (upd H p (.dK zs)) ρ:=by
 refine ⟨fun a xs h=>?_,List.prefix_refl _,fun a xs h=>?_,fun a C dx fs h=>?_,fun a o u h=>by rw [Aq (Jf h hp (by intro z;cases z))];exact h⟩
 ·rcases h with (h|⟨ob,h⟩)|h
  ·exact .inl (.inl (by rw [Aq (Jf h hp (by intro z;cases z))];exact h))
  ·exact .inl (.inr ⟨ob,by rw [Aq (Jf h hp (by intro z;cases z))];exact h⟩)
  ·exact .inr h
 ·rcases h with ⟨ob,h⟩|h
  ·exact .inl ⟨ob,by rw [Aq (Jf h hp (by intro z;cases z))];exact h⟩
  ·exact .inr h
 ·rw [Aq (Jf h hp (by intro z;cases z))];exact h
theorem RS.newD {mh:MH}{p:Addr}{xs:List (Key×V)}{kvs:List (Key×D)}(h:RS K H ρ mh) (hp:H p=none) (r:RK K H ρ kvs xs):RS K (upd H p (.dK xs)) (ρ++[p]) (mh++[.dct kvs]):=by
 have hnp:p ∉ ρ:=fun z=>by
  obtain ⟨o,q⟩:=h.tracked z;rw [hp] at q;cases q
 refine ⟨by rw [List.length_append,List.length_append,h.len];rfl,?_,fun n a ob e1 e2=>?_⟩
 ·rw [List.nodup_append]
  exact ⟨h.nd,List.pairwise_singleton _ _,fun a ha b hb z=>by
   rw [List.mem_singleton.mp hb] at z;rw [z] at ha;exact hnp ha⟩
 ·by_cases hn:n < ρ.length
  ·rw [List.getElem?_append_left hn] at e1;rw [List.getElem?_append_left (by rw [← h.len];exact hn)] at e2;refine (h.obj n a ob e1 e2).mono (Ev.newL hp) ?_;obtain ⟨oo,q⟩:=h.tracked (List.mem_of_getElem? e1);rw [Aq (Av q hp)]
  ·rw [List.getElem?_append_right (by omega)] at e1;rw [List.getElem?_append_right (by rw [← h.len];omega)] at e2;have n0:n - ρ.length=0:=by
    have:=(List.getElem?_eq_some_iff.mp e1).1;simp at this;omega
   rw [n0] at e1;rw [← h.len,n0] at e2;cases e1;cases e2;exact ⟨xs,Cm,r.1,r.2.mono (Ev.newL hp)⟩
theorem RS.setD {mh:MH}{n:Nat}{p:Addr}{ys xs:List (Key×V)}{kvs:List (Key×D)}(h:RS K H ρ mh) (hn:ρ[n]?=some p) (hp:H p=some (.dK ys)) (r:RK K H ρ kvs xs):RS K (upd H p (.dK xs)) ρ (mh.set n (.dct kvs)):=by
 refine ⟨by rw [List.length_set];exact h.len,h.nd,fun m a ob e1 e2=>?_⟩
 by_cases hm:n=m
 ·subst hm;rw [hn] at e1;cases e1;rw [List.getElem?_set] at e2;simp only [if_true] at e2;split at e2
  ·cases e2;exact ⟨xs,Cm,r.1,r.2.mono (Ev.dk hp)⟩
  ·cases e2
 ·rw [List.getElem?_set_ne hm] at e2;refine (h.obj m a ob e1 e2).mono (Ev.dk hp) ?_;rw [Aq];intro z;subst z;exact hm ((List.getElem?_inj (List.getElem?_eq_some_iff.mp hn).1 h.nd).mp (hn.trans e1.symm))
end
noncomputable def Jl (x:D) (mh:MH):Option (List (Key×D)):=match x with
 | .ref n=>(match mh[n]? with | some (.dct kvs)=>some kvs | _=>none)
 | _=>none
theorem Ol {x:D}{mh:MH}{kvs:List (Key×D)}(h:Jl x mh=some kvs):∃ n,x=.ref n/\mh[n]?=some (.dct kvs):=by
 cases x with
 | ref n =>
  have h:(match mh[n]? with | some (.dct kvs)=>some kvs | _=>none)=some kvs:=h;split at h
  ·rename_i e;cases h;exact ⟨n,rfl,e⟩
  ·cases h
 | _=>cases h
theorem Qy {n:Nat}{mh:MH}{ds:List D}(h:mh[n]?=some (.lst ds)):Jl (.ref n) mh=none:=by
 show (match mh[n]? with | some (.dct kvs)=>some kvs | _=>none)=none;rw [h]
theorem Qz {n:Nat}{mh:MH}{kvs:List (Key×D)}(h:mh[n]?=some (.dct kvs)):Jl (.ref n) mh=some kvs:=by
 show (match mh[n]? with | some (.dct kvs)=>some kvs | _=>none)=some kvs;rw [h]
theorem Vj {K:PySem.W.Frag}{H:Hp}{ρ:List Addr}{mh:MH}{x:D}{v:V}{kvs:List (Key×D)}(rs:RS K H ρ mh) (r:RD K H ρ x v) (h:Jl x mh=some kvs):∃ a xs,v=.ref a/\H a=some (.dK xs)/\RK K H ρ kvs xs:=by
 obtain ⟨n,rfl,e⟩:=Ol h;cases r with
 | @ref _ a ha =>
  obtain ⟨a',ha',ro⟩:=rs.at e;rw [ha] at ha';cases ha';obtain ⟨xs,q,k,r⟩:=ro;exact ⟨a,xs,rfl,q,k,r⟩
theorem Zc {K:PySem.W.Frag}{H:Hp}{ρ:List Addr}{x:D}{v:V}{k:Key}(r:RD K H ρ x v) (h:jH x=some k):v=kV k:=by
 cases r with
 | int i=>cases h;rfl
 | str x=>cases h;rfl
 | _=>cases h
noncomputable def inD (neg:Bool) (x c:D) (mh:MH):Option (D×MH):=match Jl c mh with
 | none=>qX neg x c mh
 | some kvs=>match jH x with
  | some k=>some (.bl (if neg then !(Kf kvs k).isSome else (Kf kvs k).isSome),mh)
  | none=>none
noncomputable def ixD (x y:D) (mh:MH):Option (D×MH):=match Jl x mh with
 | none=>aF x y mh
 | some kvs=>match jH y with
  | some k=>(match Kf kvs k with | some d=>some (d,mh) | none=>none)
  | none=>none
section
variable {X:Cx}
theorem jJ (hu:X.A.units+64 < cLine):X.A.units+1 < cLine:=by omega
theorem Aae (hu:X.A.units+64 < cLine):OpR X (compareOp .In) (rD X.K (inD false)):=by
 rintro pins s σ H x y v u Q I rx ry ⟨ρ,mh,dx,dy,d,mh',q,rs,r1,r2,co⟩;unfold inD at q;split at q
 ·exact qY hu pins s σ H x y v u Q I rx ry ⟨ρ,mh,dx,dy,d,mh',q,rs,r1,r2,co⟩
 ·rename_i kvs ek;obtain ⟨a,xs,rfl,hd,rk⟩:=Vj rs r2 ek;split at q
  ·rename_i k e;cases q;cases Zc r1 e;cases ry;exact Afg (jJ hu) I (qH.k hd) rx fun s' I'=>⟨.bl _,H,I',rfl,by rw [rk.some_eq];exact co H ρ _ Ev.refl rs (.bl _)⟩
  ·cases q
theorem Afn:IxR X (rD X.K ixD):=by
 rintro value slice pins s σ H x y v u Q I rx ry ⟨ρ,mh,dx,dy,d,mh',q,rs,r1,r2,co⟩ hs;unfold ixD at q;split at q
 ·exact Adk value slice pins s σ H x y v u Q I rx ry ⟨ρ,mh,dx,dy,d,mh',q,rs,r1,r2,co⟩ hs
 ·rename_i kvs ek;obtain ⟨a,xs,rfl,hd,rk⟩:=Vj rs r1 ek;split at q
  ·rename_i k e;split at q
   ·rename_i d' e2;cases q;cases Zc r2 e;cases rx;rcases rk.val k with ⟨d2,v2,g1,g2,g3⟩|⟨g1,g2⟩
    ·rw [e2] at g1;cases g1;obtain ⟨z,hn,vs,rel,dd⟩:=vG I.hok hd;obtain ⟨w',hw,rw'⟩:=Q9.some_of (v:=v2) (o:=valueAt vs k) (by rw [← g2];exact rel.val k);exact subscriptTail_builtinR (x:=w') dd.typeIs PySem.F.slot_dict_getitem.lookup (wpAny_getItem_of (Yo ry) dd.mapOf hw ⟨rfl,⟨v2,H,I.tok _,rw',co H ρ _ Ev.refl rs g3⟩⟩) hs
    ·rw [e2] at g1;cases g1
   ·cases q
  ·cases q
noncomputable def Adw:Const->Option Str
 | .str x=>some x
 | _=>none
noncomputable def Adx:Expr->Option Str
 | .Constant c _ _=>Adw c
 | _=>none
noncomputable def jK:Option Expr->Option Str
 | some e=>Adx e
 | none=>none
noncomputable def K9 (E:Expr->DM D):List (Option Expr)->List Expr->DM (List (Key×D))
 | [],[]=>Zr []
 | k::ks,v::vs=>match jK k with
  | some x=>(E v).bnd fun d=>(K9 E ks vs).bnd fun r=>Zr ((.inr x,d)::r)
  | none=>Zb
 | _,_=>Zb
noncomputable def Ma:List (Option Expr)->List Expr->Bool
 | [],[]=>true
 | k::ks,_::vs=>(jK k).isSome&&Ma ks vs
 | _,_=>false
theorem bY {c:Const}{x:Str}(h:Adw c=some x):c=.str x:=by
 cases c <;> first | (cases h;rfl) | cases h
theorem bZ {e:Expr}{x:Str}(h:Adx e=some x):∃ k p,e=.Constant (.str x) k p:=by
 cases e <;> first | (rw [bY h];exact ⟨_,_,rfl⟩) | cases h
theorem Q0 {o:Option Expr}{x:Str}(h:jK o=some x):∃ k p,o=some (.Constant (.str x) k p):=by
 cases o with
 | none=>cases h
 | some e =>
  obtain ⟨k,p,rfl⟩:=bZ h;exact ⟨k,p,rfl⟩
noncomputable def Om (ps:DM (List (Key×D))):DM D:=fun loc mh=>match ps loc (mh++[.dct []]) with
 | none=>none
 | some (kds,m2)=>match m2[mh.length]? with
  | some (.dct [])=>if kds.length<=15 then some (.ref mh.length,m2.set mh.length (.dct (Gs [] kds))) else none
  | _=>none
noncomputable def tDP (K:PySem.W.Frag) (loc:Loc) (mh:MH) (r:Option (List (Key×D)×MH)) (σ:St) (H:Hp) (Q:List (V×V)->Hp->Prop):Prop:=∃ ρ kds mh',r=some (kds,mh')/\RL K H ρ loc σ/\RS K H ρ mh/\∀ H' ρ' xs,Ev K H ρ H' ρ'->RS K H' ρ' mh'->RK K H' ρ' kds xs->Q (xs.map fun kv=>(kV kv.1,kv.2)) H'
theorem Oo {k:Option Expr}{ks:List (Option Expr)}{v:Expr}{vs:List Expr}(h:Ma (k::ks) (v::vs)=true):∃ x,jK k=some x/\Ma ks vs=true:=by
 have h:((jK k).isSome&&Ma ks vs)=true:=h;rw [Bool.and_eq_true] at h;exact ⟨_,(Option.some_get h.1).symm,h.2⟩
theorem Vk (ks:List (Option Expr)):∀ {vs:List Expr},Ma ks vs=true->ks.all (·.isSome)=true/\ks.length=vs.length:=by
 induction ks with
 | nil =>
  intro vs h;cases vs with
  | nil=>exact ⟨rfl,rfl⟩
  | cons _ _=>cases h
 | cons k ks ih =>
  intro vs h;cases vs with
  | nil=>cases h
  | cons v vs =>
   obtain ⟨x,e,h9⟩:=Oo h;obtain ⟨_,_,rfl⟩:=Q0 e;obtain ⟨h1,h2⟩:=ih h9;exact ⟨by rw [List.all_cons,h1];rfl,by rw [List.length_cons,List.length_cons,h2]⟩
theorem jL {E:Expr->DM D}{pos:Pos}(ks:List (Option Expr)):∀ (vs:List Expr),Ma ks vs=true->(∀ v∈vs,DE X v (E v))->∀ loc mh,∃ trs,PPs X pos ks vs trs/\∀ σ H Q,tDP X.K loc mh (K9 E ks vs loc mh) σ H Q->Rq trs σ H Q:=by
 induction ks with
 | nil =>
  intro vs h hE loc mh;cases vs with
  | cons _ _=>cases h
  | nil =>
   refine ⟨[],qJ,?_⟩;rintro σ H Q ⟨ρ,kds,mh',q,rl,rs,co⟩;cases q;exact co H ρ [] Ev.refl rs .nil
 | cons k ks ih =>
  intro vs h hE loc mh;cases vs with
  | nil=>cases h
  | cons v vs =>
  obtain ⟨x,e,h9⟩:=Oo h;obtain ⟨_,_,rfl⟩:=Q0 e;cases ev:E v loc mh with
  | none =>
   obtain ⟨trs,h1,_⟩:=ih vs h9 (fun y hy=>hE y (List.mem_cons_of_mem _ hy)) loc mh;refine ⟨_,Ua Wq (hE v List.mem_cons_self loc mh) h1,?_⟩;rintro σ H Q ⟨ρ,kds,mh',q,_⟩;have q:((E v).bnd fun d=>(K9 E ks vs).bnd fun r=>Zr ((.inr x,d)::r)) loc mh=some (kds,mh'):=q;unfold DM.bnd at q;rw [ev] at q;cases q
  | some r =>
   obtain ⟨d,m1⟩:=r;obtain ⟨trs,h1,h2⟩:=ih vs h9 (fun y hy=>hE y (List.mem_cons_of_mem _ hy)) loc m1;refine ⟨_,Ua Wq (hE v List.mem_cons_self loc mh) h1,?_⟩;rintro σ H Q ⟨ρ,kds,mh',q,rl,rs,co⟩;have q:((E v).bnd fun d=>(K9 E ks vs).bnd fun r=>Zr ((.inr x,d)::r)) loc mh=some (kds,mh'):=q;obtain ⟨d',m1',ev',q⟩:=Al q;rw [ev] at ev';cases ev';obtain ⟨r,m2,er,q⟩:=Al q;cases q;refine ⟨ρ,d,m1,ev,rl,rs,fun H1 ρ1 v1 e1 rs1 r1=>h2 σ H1 _ ⟨ρ1,r,mh',er,rl.mono e1,rs1,fun H2 ρ2 xs e2 rs2 r2=>?_⟩⟩;exact co H2 ρ2 ((.inr x,v1)::xs) (e1.trans e2) rs2 (r2.cons (r1.mono e2))
theorem sZ {E:Expr->DM D}{pos:Pos}{ks:List (Option Expr)}{vs:List Expr}(h:Ma ks vs=true) (h0:ks≠[]) (h15:ks.length<=15) (hE:∀ v∈vs,DE X v (E v)):DE X (.Dict ks vs pos) (Om (K9 E ks vs)):=fun loc mh=>by
 obtain ⟨trs,h1,h2⟩:=jL (X:=X) (E:=E) (pos:=pos) ks vs h hE loc (mh++[.dct []]);refine Bk (qK h1 (Vk _ h).1 (Vk _ h).2 h0 h15) ?_;rintro σ H Q ⟨ρ,d,mh',q,rl,rs,co⟩ p hp;unfold Om at q;split at q
 ·cases q
 ·rename_i kds m2 ep;split at q
  ·rename_i eo;split at q
   ·rename_i hk;cases q;have rs1:=rs.newD (p:=p) hp (RK.nil (K:=X.K) (H:=H) (ρ:=ρ));refine h2 σ _ _ ⟨ρ++[p],kds,m2,ep,rl.mono (Ev.newL hp),rs1,fun H' ρ' xs e' rs' rk=>?_⟩;have at':ρ'[mh.length]?=some p:=e'.at (rs.last p);obtain ⟨a,ha,xs0,hd,k0,_⟩:=rs'.at eo;rw [at'] at ha;cases ha;have x0:xs0=[]:=by cases xs0 with | nil=>rfl | cons _ _=>cases k0
    subst x0;refine ⟨hd,xs,rfl,by rw [rk.length];exact hk,co _ ρ' _ (((Ev.newL hp).trans e').trans (Ev.dk hd)) (rs'.setD at' hd (rk.merge .nil)) (.ref at')⟩
   ·cases q
  ·cases q
end
section
variable {X:Cx}{a:Addr}{kvs:List (Str×D)}
variable {e:Expr}{es:List Expr}{x:Str}{p apos cpos:Pos}
end
section
variable {X:Cx}{pos pos':Pos}
end
section
variable {X:Cx}
end
section
variable {X:Cx}
end
theorem jM {X:Cx}:OpR X (binaryOp .FloorDiv) (rI (fun _ j=>j≠0/\j.natAbs < 10889035741470030830827987437816582766592) fun i j=>.int (i.fdiv j)):=opI fun _ j _ _ _ _ _ hc q=>floordiv_int hc.1 q (.inl (PyProof.noPylong_of_log2 (by
 have h:j.natAbs < 2 ^ 133:=hc.2
 by_cases h0:j.natAbs=0
 ·rw [h0];decide +kernel
 ·have h60:j.natAbs.log2 < 133:=(Nat.log2_lt h0).mpr h
  omega)))
structure SC where
 N:List Str
 scope:Scope
 own:Str->Bool
structure Gb where
 cal:Str->Option (List Str×Fn)
 con:Str->Option D
 dic:Str->Option (List (Str×D))
 fld:Str->Str->Bool
 met:Str->Str->Option (List Str×Fn)
 mkr:Str->Option Str
noncomputable def slot (N:List Str) (x:Str):Option Nat:=N.findIdx? (fun y=>y==x)
noncomputable def jN (sc:Scope) (x:Str):Bool:=match sc.names.lookup x with
 | some .local=>true
 | some .cell=>true
 | some .free=>true
 | _=>false
noncomputable def cA (sc:Scope) (x:Str):Bool:=match sc.names.lookup x with
 | some .local=>true
 | some .cell=>true
 | _=>false
noncomputable def glB (sc:Scope) (x:Str):Bool:=match sc.names.lookup x with
 | some .globalImplicit=>true
 | _=>false
noncomputable def Vl (i j:Int):Bool:=decide (-(2 ^ 64) < i/\i < 2 ^ 64) || decide (-(2 ^ 64) < j/\j < 2 ^ 64)
theorem Ady {X:Cx}{f:Value->Value->Sem Value}:OpR X f (rD X.K fun _ _ _=>none):=by
 rintro _ _ _ _ _ _ _ _ _ _ _ _ ⟨_,_,_,_,_,_,e,_⟩;cases e
noncomputable def Adz:Operator->Option (D->D->MH->Option (D×MH))
 | .Add=>some Ay
 | .Sub=>some (iop (fun _ _=>true) fun i j=>i - j)
 | .Mult=>some (iop Vl fun i j=>i * j)
 | .FloorDiv=>some (iop (fun _ j=>decide (j≠0)&&decide (j.natAbs < 10889035741470030830827987437816582766592)) fun i j=>i.fdiv j)
 | .Mod=>some (iop (fun _ j=>decide (j≠0)) fun i j=>i.fmod j)
 | .Pow=>some (iop (fun i j=>decide (0<=j)&&(decide (j<=1000000)&&decide (i.natAbs < 2 ^ 64))) fun i j=>i ^ j.toNat)
 | .LShift=>some (iop (fun i j=>decide (0<=j)&&(decide (j<=1000000)&&decide (i.natAbs < 2 ^ 64))) fun i j=>i * 2 ^ j.toNat)
 | .RShift=>some (iop (fun _ j=>decide (0<=j)) fun i j=>i / 2 ^ j.toNat)
 | .BitAnd=>some (iop (fun _ _=>true) Builtin.bitAnd)
 | _=>none
noncomputable def Oq:CmpOp->(D->D->MH->Option (D×MH))
 | .Eq=>eqD
 | .NotEq=>neD
 | .Lt=>Pj fun i j=>decide (i < j)
 | .LtE=>Pj fun i j=>decide (i<=j)
 | .Gt=>Pj fun i j=>decide (j < i)
 | .GtE=>Pj fun i j=>decide (j<=i)
 | .Is=>isD false
 | .IsNot=>isD true
 | .In=>inD false
 | .NotIn=>fun _ _ _=>none
theorem tB {X:Cx}{op:Operator}{f:D->D->MH->Option (D×MH)}(h:Adz op=some f):OpR X (binaryOp op) (rD X.K f):=by
 cases op <;> (try cases h)
 ·exact qZ
 ·exact Yv xT
 ·refine Js xU fun i j h=>?_
  unfold Vl at h;rw [Bool.or_eq_true,decide_eq_true_iff,decide_eq_true_iff] at h;exact h
 ·exact Js pQ fun i j h=>of_decide_eq_true h
 ·refine Js xV fun i j h=>?_
  rw [Bool.and_eq_true,Bool.and_eq_true,decide_eq_true_iff,decide_eq_true_iff,decide_eq_true_iff] at h;exact ⟨h.1,h.2.1,h.2.2⟩
 ·refine Js xW fun i j h=>?_
  rw [Bool.and_eq_true,Bool.and_eq_true,decide_eq_true_iff,decide_eq_true_iff,decide_eq_true_iff] at h;exact ⟨h.1,h.2.1,h.2.2⟩
 ·exact Js xX fun i j h=>of_decide_eq_true h
 ·exact Yv xY
 ·refine Js jM fun i j h=>?_
  rw [Bool.and_eq_true,decide_eq_true_iff,decide_eq_true_iff] at h;exact ⟨h.1,h.2⟩
theorem Gz {X:Cx}(hu:X.A.units+64 < cLine) (op:CmpOp):OpR X (compareOp op) (rD X.K (Oq op)):=by
 cases op
 ·exact zH hu
 ·exact zJ hu
 ·exact Mu Acv
 ·exact Mu Acw
 ·exact Mu Acx
 ·exact Mu Acy
 ·exact zK
 ·exact aD
 ·exact Aae hu
 ·exact Ady
noncomputable def isStar:Expr->Bool
 | .Starred ..=>true
 | _=>false
noncomputable def isSet:Expr->Bool
 | .Set ..=>true
 | _=>false
noncomputable def Iv:Expr->Bool
 | .ListComp ..=>true
 | .SetComp ..=>true
 | .DictComp ..=>true
 | _=>false
noncomputable def isSlice:Expr->Bool
 | .Slice ..=>true
 | _=>false
noncomputable def Zd:Expr->Bool
 | .Slice none none (some (.UnaryOp .USub (.Constant (.int i) _ _) _)) _=>i==1
 | _=>false
theorem Xw {b:Expr}(h:Zd b=true):∃ k p1 p2 p3,b=.Slice none none (some (.UnaryOp .USub (.Constant (.int 1) k p1) p2)) p3:=by
 unfold Zd at h;split at h
 ·rw [eq_of_beq h];exact ⟨_,_,_,_,rfl⟩
 ·cases h
noncomputable def baseOk:Expr->Bool
 | .Call (.Name ..) [] [] _=>false
 | _=>true
noncomputable def tyOf (c:Str):Option String :=
 if c == "int" then some "int" else if c == "bool" then some "bool" else if c == "str" then some "str" else if c == "tuple" then some "tuple" else if c == "list" then some "list" else if c == "dict" then some "dict" else none
noncomputable def tE:Fn:=fun _ _=>none
noncomputable def Vm (_:D) (_:List D) (_:MH):Option (D×MH):=none
theorem Sd {X:Cx}{f:Value}:Bg X f (rDs X.K tE):=by
 rintro _ _ _ _ _ _ _ _ _ ⟨_,_,_,_,_,e,_⟩;cases e
theorem Ze {X:Cx}{id:String}:MtR X id (rDM X.K Vm):=by
 rintro _ _ _ _ _ _ _ _ _ _ _ _ ⟨_,_,_,_,_,_,e,_⟩;cases e
noncomputable def jO (x:Str):Option Fn:=if x=="len" then some G5 else if x=="list" then some Ji else if x=="tuple" then some Bt else if x=="all" then some tE else if x=="any" then some tE else if x=="max" then some jC else if x=="min" then some jD else if x=="int" then some intD else if x=="sorted" then some Ew else if x=="sum" then some tE else none
noncomputable def La (m:Str) (n:Nat):Option (String×(D->List D->MH->Option (D×MH))) :=
 if m == "append"&&n==1 then some ("list",Cg) else if m == "bit_length"&&n==0 then some ("int",gC) else if m == "pop"&&n==1 then some ("list",H9) else if m == "pop"&&n==0 then some ("list",bF) else if m == "extend"&&n==1 then some ("list",Iu) else if m == "index"&&n==1 then some ("tuple",Vm) else none
noncomputable def Er:Expr->Bool
 | .Tuple ..=>true
 | _=>false
noncomputable def setArg:Expr->List Expr->Option Expr
 | .Call (.Name g _) [b] [] _,[]=>if g == "set"&&!isStar b then some b else none
 | _,_=>none
noncomputable def Aaf (_:Expr) (_:List Expr):Option Expr:=none
noncomputable def Aag (_:Expr) (_:List Expr):Option (Expr×Expr):=none
noncomputable def Zf (_:SC) (_:Expr) (_:CmpOp) (_:Expr):Option (Nat×Nat):=none
noncomputable def Dn (scope:Scope):List Str:=(scope.names.filter fun p=>(match p.2 with | .local=>true | .cell=>true | .free=>true | _=>false)).map (·.1)
noncomputable def Ot (N:List Str) (scope:Scope):List (Option Nat):=(Dn scope).map fun x=>match scope.names.lookup x with
 | some .free=>slot N x
 | _=>none
noncomputable def Kg (scope outer:Scope):Scope:={ scope with names:=scope.names.map fun (n,k)=>if (k==.free&&outer.kind==.function&&outer.names.lookup n==some .cell) then (n,.cell) else (n,k) }
noncomputable def Sg (scope:Scope) (sc:SC):SC:={ N:=Dn scope,scope:=Kg scope sc.scope,own:=fun x=>cA scope x }
noncomputable def Mx (scope:Scope) (sc:SC):Bool :=
 (match scope.kind with | .function=>true | _=>false)&&(decide ((scope.names.map (·.1)).Nodup) &&
  scope.names.all fun p=>(match p.2 with | .free=>(match sc.scope.names.lookup p.1 with | some .cell=>true | some .free=>true | _=>false) | _=>true))
noncomputable def Mf (G:Gb) (sc:SC):Expr->Option (List (Str×D))
 | .Name x _=>if glB sc.scope x&&!(x == "__debug__") then G.dic x else none
 | _=>none
noncomputable def Lb (G:Gb) (sc:SC) (op:CmpOp) (b:Expr):Option (Bool×List (Str×D)):=match op with
 | .In=>(match Mf G sc b with | some kvs=>some (false,kvs) | none=>none)
 | .NotIn=>(match Mf G sc b with | some kvs=>some (true,kvs) | none=>none)
 | _=>none
noncomputable def Ad0 (G:Gb) (f:Str):List Expr->Option Str
 | []=>G.mkr f
 | _=>none
noncomputable def iGn (sc:SC) (x:Str):Option Nat:=if cA sc.scope x&&sc.own x then slot sc.N x else none
noncomputable def iGs (sc:SC):List Expr->Option (List Nat)
 | []=>some []
 | .Name x _::r=>match iGn sc x with
  | some i=>match iGs sc r with
   | some is=>some (i::is)
   | none=>none
  | none=>none
 | _=>none
noncomputable def iG (sc:SC):Expr->Option (List Nat×GM)
 | .Name x _=>match iGn sc x with | some i=>some ([i],Ae i) | none=>none
 | .Tuple es _ _=>match iGs sc es with | some is=>some (is,J8 is) | none=>none
 | _=>none
noncomputable def Aah:Option Str->Bool
 | some n=>n == "default"
 | none=>false
noncomputable def tH:Expr->Bool
 | .Constant .none _ _=>true
 | _=>false
noncomputable def Xx (k:Keyword):Bool:=Aah k.arg&&tH k.value
theorem Vn {k:Keyword}(h:Xx k=true):∃ j cp kp,k=⟨some "default",.Constant .none j cp,kp⟩:=by
 obtain ⟨n,v,p⟩:=k;unfold Xx at h;rw [Bool.and_eq_true] at h;obtain ⟨h1,h2⟩:=h;cases n with
 | none=>cases h1
 | some n =>
  have e:n = "default":=eq_of_beq h1
  subst e;cases v with
  | Constant c j cp =>
   cases c with
   | none=>exact ⟨_,_,_,rfl⟩
   | _=>cases h2
  | _=>cases h2
noncomputable def iEb (E:SC->Expr->DM D) (T:SC->Expr->DM Bool) (A:SC->List Expr->DM (List D)) (F:SC->List Expr->DM Bool) (I:SC->Expr->Expr->DM Src) (G:Gb) (sc:SC) (e:Expr):DM D:=match e with
 | .Constant (.int i) _ _=>Zr (.int i)
 | .Constant (.bool b) _ _=>Zr (.bl b)
 | .Constant .none _ _=>Zr .non
 | .Constant (.str x) _ _=>Zr (.str x)
 | .Name x _=>if jN sc.scope x&&!(x == "__debug__")&&!(x == "__classdict__") then (match slot sc.N x with
   | some i=>fun loc mh=>match loc[i]? with | some (some d)=>some (d,mh) | _=>none
   | none=>Zb) else if glB sc.scope x&&!(x == "__debug__") then (match G.con x with | some d=>Zr d | none=>Zb) else Zb
 | .BinOp a op b _=>(match Adz op with | some f=>dop f (E sc a) (E sc b) | none=>Zb)
 | .UnaryOp .USub a _=>(E sc a).bnd fun x=>Zl (zV x)
 | .UnaryOp .Not a _=>(Ah (E sc a)).bnd fun c=>Zr (.bl (!c))
 | .BoolOp op [a] _=>E sc a
 | .BoolOp .And (a::b::r) p=>J4 (E sc a) (E sc (.BoolOp .And (b::r) p))
 | .BoolOp .Or (a::b::r) p=>fD (E sc a) (E sc (.BoolOp .Or (b::r) p))
 | .Compare a [op] [b] _=>(match Zf sc a op b with
  | some (i,j)=>iD (fun loc mh=>match loc[i]? with | some (some d)=>some (d,mh) | _=>none) (fun loc mh=>match loc[j]? with | some (some d)=>some (d,mh) | _=>none)
  | none=>match Lb G sc op b with
   | some (neg,kvs)=>Ly neg kvs (E sc a)
   | none=>if isSet b then Zb else dop (Oq op) (E sc a) (E sc b))
 | .Compare a [op,op'] [b,c] _=>if isSet c then Zb else Nm (Oq op) (Oq op') (E sc a) (E sc b) (E sc c)
 | .IfExp c a b _=>dIf (T sc c) (E sc a) (E sc b)
 | .Tuple es _ _=>(A sc es).bnd fun ds=>Zl (Qg ds)
 | .List es _=>(A sc es).bnd fun ds=>Zl (Qh ds)
 | .Dict ks vs _=>if Ma ks vs&&!ks.isEmpty&&decide (ks.length<=15) then Om (K9 (E sc) ks vs) else Zb
 | .Subscript a (.Slice lo hi none _) _=>dSl (E sc a) (match lo with | some e=>some (E sc e) | none=>none) (match hi with | some e=>some (E sc e) | none=>none)
 | .Subscript a b _=>if isSlice b then (if Zd b then (E sc a).bnd fun x=>Zl (aH x) else Zb) else (match Mf G sc a with | some kvs=>iW kvs (E sc b) | none=>dop ixD (E sc a) (E sc b))
 | .Attribute o f _=>if baseOk o then Zb else Zb
 | .Call (.Name f _) [] [] _=>if glB sc.scope f&&!(f == "__debug__") then (match G.cal f with | some ([],g)=>Zl (g []) | _=>Zb) else Zb
 | .Call (.Name f _) (a::es) [] _=>if jN sc.scope f&&!(f == "__debug__")&&!(f == "__classdict__")&&!(isStar a)&&es.all (fun e=>!isStar e) then Zb else if glB sc.scope f&&!(f == "__debug__")&&!(f == "__name__")&&!(isStar a)&&es.all (fun e=>!isStar e) then
   (match G.cal f with
   | some (_,g)=>(A sc (a::es)).bnd fun ds=>Zl (g ds)
   | none=>match Ad0 G f es with
    | some fl=>Zb
    | none=>match setArg a es with
    | some b=>if glB sc.scope "set" then (if f == "sorted" then (E sc b).bnd (fun x=>Zl (Cq x)) else Zb) else Zb
    | none=>match Aag a es with
    | some (b,c)=>if glB sc.scope "zip"&&f == "list" then (A sc [b,c]).bnd (fun ds=>Zl (iU ds)) else Zb
    | none=>match Aaf a es with
    | some b=>if glB sc.scope "range" then (if f == "list" then (E sc b).bnd (fun x=>Zl (iM x)) else if f == "tuple" then (E sc b).bnd (fun x=>Zl (sV x)) else Zb) else Zb
    | none=>if f == "isinstance" then (match es with
    | [.Name c _]=>if glB sc.scope c&&!(c == "__debug__")&&!(c == "__name__") then (match tyOf c with | some ty=>(E sc a).bnd fun x=>Zl (Ul ty x) | none=>Zb) else Zb
    | _=>Zb) else match jO f with
     | some g=>(A sc (a::es)).bnd fun ds=>Zl (g ds)
     | none=>Zb) else Zb
 | .Call (.Name f _) [a] (kw::ks) _=>if glB sc.scope f&&!(isStar a)&&Xx kw&&ks.isEmpty then (if f == "max" then Zb else if f == "min" then Zb else Zb) else Zb
 | .Call (.Attribute o m ap) [] [] p=>if baseOk o&&(ap.endLine==p.line) then (match La m 0 with | some (ty,f)=>Bv ty f (E sc o) (Zr []) | none=>Zb) else Zb
 | .Call (.Attribute o m ap) (a::es) [] p=>if baseOk o&&(ap.endLine==p.line)&&!(isStar a)&&es.all (fun e=>!isStar e)&&decide ((a::es).length < 20) then (if m == "get" then (match Mf G sc o with | some kvs=>Zb | none=>Zb) else if m == "count"&&es.isEmpty then Jk "tuple" Vm "list" Lz (E sc o) (A sc (a::es)) else if m == "index"&&es.isEmpty then Jk "tuple" Vm "list" Vm (E sc o) (A sc (a::es)) else (match La m (a::es).length with | some (ty,f)=>Bv ty f (E sc o) (A sc (a::es)) | none=>Zb)) else Zb
 | .ListComp elt [⟨tg,iter,ifs,k⟩] scope _=>if k==0&&Mx scope sc&&!(isSet iter) then (match iG (Sg scope sc) tg with
   | some (ws,g)=>if ws.all (fun i=>match (Ot sc.N scope)[i]? with | some (some _)=>false | _=>true) then Bo (I sc tg iter) (Ot sc.N scope) g (F (Sg scope sc) ifs) (E (Sg scope sc) elt) else Zb
   | none=>Zb) else Zb
 | _=>Zb
noncomputable def iTb (E:SC->Expr->DM D) (T:SC->Expr->DM Bool) (A:SC->List Expr->DM (List D)) (F:SC->List Expr->DM Bool) (I:SC->Expr->Expr->DM Src) (G:Gb) (sc:SC) (e:Expr):DM Bool:=match e with
 | .UnaryOp .Not a _=>Yt (T sc a)
 | .BoolOp op [a] _=>T sc a
 | .BoolOp .And (a::b::r) p=>Gg (T sc a) (T sc (.BoolOp .And (b::r) p))
 | .BoolOp .Or (a::b::r) p=>W5 (T sc a) (T sc (.BoolOp .Or (b::r) p))
 | .BoolOp _ [] _=>Zb
 | .IfExp ..=>Zb
 | .Compare a [op] [b] _=>(match Lb G sc op b with
  | some (neg,kvs)=>Ah (Ly neg kvs (E sc a))
  | none=>if isSet b then Zb else Ah (dop (Oq op) (E sc a) (E sc b)))
 | .Compare a [op,op'] [b,c] _=>if isSet c then Zb else Ah (Nm (Oq op) (Oq op') (E sc a) (E sc b) (E sc c))
 | .Compare ..=>Zb
 | e=>Mp (E sc e)
noncomputable def iIb (E:SC->Expr->DM D) (T:SC->Expr->DM Bool) (A:SC->List Expr->DM (List D)) (F:SC->List Expr->DM Bool) (I:SC->Expr->Expr->DM Src) (G:Gb) (sc:SC) (tg e:Expr):DM Src:=match e with
 | .Call (.Name f p) [a] [] p'=>if f == "range"&&glB sc.scope f then (if isStar a then Zb else Ht Je (A sc [a])) else if f == "enumerate"&&glB sc.scope f then (if isStar a || !(Er tg) then Zb else Kd (E sc a)) else Dc (E sc (.Call (.Name f p) [a] [] p'))
 | .Call (.Name f p) [a,b] [] p'=>if f == "range"&&glB sc.scope f then (if isStar a || isStar b then Zb else Zb) else if f == "zip"&&glB sc.scope f then (if isStar a || isStar b || !(Er tg) then Zb else Zb) else Dc (E sc (.Call (.Name f p) [a,b] [] p'))
 | .Call (.Name f p) [a,b,c] [] p'=>if f == "range"&&glB sc.scope f then (if isStar a || isStar b || isStar c then Zb else Ht bR (A sc [a,b,c])) else Dc (E sc (.Call (.Name f p) [a,b,c] [] p'))
 | e=>Dc (E sc e)
mutual
noncomputable def iE (G:Gb):Nat->SC->Expr->DM D
 | 0,_,_=>Zb
 | n+1,sc,e=>iEb (iE G n) (iT G n) (iA G n) (iF G n) (iI G n) G sc e
termination_by structural n=>n
noncomputable def iT (G:Gb):Nat->SC->Expr->DM Bool
 | 0,_,_=>Zb
 | n+1,sc,e=>iTb (iE G n) (iT G n) (iA G n) (iF G n) (iI G n) G sc e
termination_by structural n=>n
noncomputable def iA (G:Gb):Nat->SC->List Expr->DM (List D)
 | 0,_,_=>Zb
 | n+1,sc,es=>match es with
  | []=>Zr []
  | a::r=>if isStar a then Zb else Aa (iE G n sc a) (iA G n sc r)
termination_by structural n=>n
noncomputable def iF (G:Gb):Nat->SC->List Expr->DM Bool
 | 0,_,_=>Zb
 | n+1,sc,es=>match es with
  | []=>Zr true
  | [c]=>iT G n sc c
  | _=>Zb
termination_by structural n=>n
noncomputable def iI (G:Gb):Nat->SC->Expr->Expr->DM Src
 | 0,_,_,_=>Zb
 | n+1,sc,tg,e=>iIb (iE G n) (iT G n) (iA G n) (iF G n) (iI G n) G sc tg e
termination_by structural n=>n
end
noncomputable def Ad1 (sc:SC) (x:Str) (px:Pos) (y:Str) (py:Pos) (a b:Expr):Bool :=
 ((if sc.scope.kind.isAnnotationScope then ScopeKind.function else sc.scope.kind)==.function)&&(sc.scope.names.lookup x==some .local)&&(sc.scope.names.lookup y==some .local)&&(py.line==px.line)&&!(x==y)&&!isStar a&&!isStar b&&!([a,b].all (foldedForSure 8))&&!([a,b].all (constantsAlone 8))
noncomputable def Aai (mr:DM (List D)) (i j:Nat):SM:=fun loc mh=>match mr loc mh with
 | some ([d,e],h)=>some (.nx,(loc.set i (some d)).set j (some e),h)
 | _=>none
noncomputable def iGt (G:Gb) (n:Nat) (sc:SC) (tg:Expr):Option GM:=match tg with
 | .Subscript o i _=>if isSlice i then none else some (Hw (iE G n sc o) (iE G n sc i))
 | tg=>match iG sc tg with | some (_,g)=>some g | none=>none
noncomputable def Aaj (n:Nat) (G:Gb) (sc:SC) (tg v:Expr):SM:=match tg,v with
 | .Name y py,.ListComp elt gens scope vp=>(match iG sc (.Name y py) with | some (_,g)=>Ag (iE G n sc (.ListComp elt gens scope vp)) g | none=>SM.bad)
 | .Tuple [.Name x px,.Name y py] _ _,.Tuple [a,b] _ _=>if Ad1 sc x px y py a b then (match slot sc.N x,slot sc.N y with | some i,some j=>Aai (iA G n sc [a,b]) i j | _,_=>SM.bad) else SM.bad
 | tg,v=>if Iv v || (Er tg&&Er v) then SM.bad else (match iGt G n sc tg with | some g=>Ag (iE G n sc v) g | none=>SM.bad)
noncomputable def iSb (n:Nat) (B:SC->List Stmt->SM) (G:Gb) (sc:SC) (s:Stmt):SM:=match s with
 | .Expr e _=>if Iv e then SM.bad else Ej (iE G n sc e)
 | .Pass _=>Zn
 | .Break _=>fun loc mh=>some (.bk,loc,mh)
 | .Continue _=>fun loc mh=>some (.ct,loc,mh)
 | .Return (some e) _=>retS (iE G n sc e)
 | .Return none _=>fun loc mh=>some (.rt .non,loc,mh)
 | .Assign [tg] v _=>Aaj n G sc tg v
 | .If c a b _=>ifS (iT G n sc c) (B sc a) (B sc b)
 | .While c body [] _=>Rw (iT G n sc c) (B sc body)
 | .For tg it body [] _=>if isSet it then SM.bad else (match iG sc tg with | some (_,g)=>Gr (iI G n sc tg it) g (B sc body) | none=>SM.bad)
 | _=>SM.bad
mutual
noncomputable def iS (G:Gb):Nat->SC->Stmt->SM
 | 0,_,_=>SM.bad
 | n+1,sc,s=>iSb n (iSs G n) G sc s
termination_by structural n=>n
noncomputable def iSs (G:Gb):Nat->SC->List Stmt->SM
 | 0,_,_=>SM.bad
 | n+1,sc,ss=>match ss with
  | []=>Zn
  | s::r=>Ab (iS G n sc s) (iSs G n sc r)
termination_by structural n=>n
end
structure FnI where
 ps:List Str
 N:List Str
 scope:Scope
 body:List Stmt
noncomputable def Af (G:Gb) (n:Nat) (f:FnI):Fn:=fun ds mh=>if ds.length=f.ps.length then (match iSs G n { N:=f.N,scope:=f.scope,own:=fun _=>true } f.body (ds.map some++List.replicate (f.N.length - ds.length) none) mh with
 | some (.rt d,_,mh')=>some (d,mh')
 | some (.nx,_,mh')=>some (.non,mh')
 | _=>none) else none
noncomputable def fuel:Nat:=60
structure Tb where
 tb:Str->Option FnI
 con:Str->Option D
 dic:Str->Option (List (Str×D))
 fld:Str->Str->Bool
 tbm:Str->Str->Option FnI
 mkr:Str->Option Str
noncomputable def GkN (T:Tb):Nat->Gb
 | 0=>{ cal:=fun _=>none,con:=T.con,dic:=T.dic,fld:=T.fld,met:=fun _ _=>none,mkr:=T.mkr }
 | k+1=>{ cal:=fun x=>(match T.tb x with | some I=>some (I.ps,Af (GkN T k) fuel I) | none=>none),con:=T.con,dic:=T.dic,fld:=T.fld,met:=fun c m=>(match T.tbm c m with | some I=>some (I.ps,Af (GkN T k) fuel I) | none=>none),mkr:=T.mkr }
noncomputable def Kh:List Str:=["len", "list", "tuple", "range", "isinstance", "int", "bool", "str", "dict", "set", "sorted", "all", "any", "max", "min", "enumerate", "zip", "sum"]
structure GOk (P:Program) (w:World) (K:PySem.W.Frag) (mg:Str->Option Value) (base:Heap) (k:Nat) (G:Gb):Prop where
 fn:∀ x ps f,G.cal x=some (ps,f)->∃ fa fd,mg x=some (.ref fa)/\PySem.W.keepIn K (.ref fa)=true/\Binds K fd ps []/\FnOk P w K mg base CX0 (k+2) fa fd ps (spD K ps.length f)/\∀ ds mh r,f ds mh=some r->ds.length=ps.length
 con:∀ x d,G.con x=some d->∃ u v,mg x=some u/\RelV v u/\∀ H ρ,RD K H ρ d v
 blt:∀ b∈Kh,mg b=none
 dic:∀ x kvs,G.dic x=some kvs->∃ a,mg x=some (.ref a)/\DicOk w K a kvs
 fld:∀ c f,G.fld c f=true->∃ C,PySem.W.nsIn K mainGlobals c=some (some (.ref C))/\Cls K C/\dN K C f
 met:∀ c m ps g,G.met c m=some (ps,g)->∃ C fa fd,PySem.W.nsIn K mainGlobals c=some (some (.ref C))/\Cls K C/\Meth K C m fa/\Binds K fd ps []/\FnOk P w K mg base CX0 (k+2) fa fd ps (spD K ps.length g)/\∀ ds mh r,g ds mh=some r->ds.length=ps.length
 mkr:∀ c f,G.mkr c=some f->∃ C fa fd ps,PySem.W.nsIn K mainGlobals c=some (some (.ref C))/\Mk K C fa/\mg c=some (.ref C)/\Binds K fd ps []/\FnOk P w K mg base CX0 1 fa fd ps (spI C f)
structure XOk (X:Cx) (k:Nat) (G:Gb) (sc:SC):Prop where
 N:X.N=sc.N
 nd:sc.N.Nodup
 sco:X.env.scope=sc.scope
 own:∀ x,sc.own x=true->L2.Loc sc.scope x->X.fn x=true\/sc.scope.names.lookup x=some .local
 calm:X.calm=true
 xe:X.xe=fun _ _=>False
 room:Room (k+2) X.A
 g:GOk X.prog X.w X.K X.mg X.base k G
theorem Fb {N:List Str}{x:Str}{i:Nat}(h:slot N x=some i):N[i]?=some x:=by
 unfold slot at h;obtain ⟨hl,hp,_⟩:=List.findIdx?_eq_some_iff_getElem.mp h;rw [List.getElem?_eq_getElem hl];exact congrArg some (eq_of_beq hp)
theorem tK {sc:Scope}{x:Str}(h:jN sc x=true):Vis sc x:=by
 unfold jN at h;split at h
 ·exact .inl (by assumption)
 ·exact .inr (.inl (by assumption))
 ·exact .inr (.inr (by assumption))
 ·cases h
theorem Sh {sc:Scope}{x:Str}(h:cA sc x=true):L2.Loc sc x:=by
 unfold cA at h;split at h
 ·exact .inl (by assumption)
 ·exact .inr (by assumption)
 ·cases h
theorem Aak {sc:Scope}{x:Str}(h:glB sc x=true):sc.names.lookup x=some .globalImplicit:=by
 unfold glB at h;split at h
 ·assumption
 ·cases h
section
variable {X:Cx}{k:Nat}{G:Gb}{sc:SC}
theorem XOk.gl (O:XOk X k G sc) {x:Str}(h:glB sc.scope x=true):Gl X x:=by
 show X.env.scope.names.lookup x=_;rw [O.sco];exact Aak h
theorem XOk.vis (O:XOk X k G sc) {x:Str}(h:jN sc.scope x=true):Vis X.env.scope x:=by rw [O.sco];exact tK h
theorem XOk.units (O:XOk X k G sc):X.A.units+64 < cLine:=O.room.units
theorem Cj {a:Expr}{es:List Expr}{env:Env}(h:isStar a=false):starEach (a::es) env=(false,eval a env)::starEach es env:=by
 cases a <;> first | rfl | cases h
theorem Bj {pos:Pos}{env:Env}:∀ {es:List Expr},(es.all fun e=>!isStar e)=true->(backTo pos (starEach es env)).any (·.1)=false
 | [],_=>rfl
 | a::r,h=>by
  rw [List.all_cons,Bool.and_eq_true] at h;have h1:isStar a=false:=by simpa using h.1
  rw [Cj h1];show (false || (backTo pos (starEach r env)).any (·.1))=false;rw [Bj h.2];rfl
theorem Sq {pos:Pos}{env:Env}:∀ {es:List Expr},(es.all fun e=>!isStar e)=true->(backTo pos (starEach es env)).all (fun x=>!x.1)=true
 | [],_=>rfl
 | a::r,h=>by
  rw [List.all_cons,Bool.and_eq_true] at h;have h1:isStar a=false:=by simpa using h.1
  rw [Cj h1];show (true&&(backTo pos (starEach r env)).all (fun x=>!x.1))=true;rw [Sq h.2];rfl
theorem Eg {o:Expr}{name:Str}{env:Env}{w:Sem Value}(h:baseOk o=true):attributeBase o name env w=w:=by
 cases o <;> try rfl
 rename_i f as kw p;cases f <;> try rfl
 cases as <;> try rfl
 cases kw <;> try rfl
 cases h
theorem Xy {e:Expr}{env:Env}(h:isSet e=false):∀ x,foldedSetIterable e env x=pure x:=by
 intro x;cases e <;> first | rfl | cases h
theorem Kl {op:CmpOp}{e:Expr}(h:isSet e=false):behindInMarks op e=false:=by
 cases e <;> first | rfl | cases h
theorem vN {b:Expr}(h:isSlice b=false):Ms b:=by
 intro o i;cases b <;> first | rfl | cases h
theorem Ou (O:XOk X k G sc) (scope:Scope):relabel scope X.env=Kg scope sc.scope:=by
 unfold relabel Kg Env.kindOf;rw [O.sco]
theorem Ld (O:XOk X k G sc) {scope:Scope}(h:Mx scope sc=true):CompOk X scope:=by
 unfold Mx at h;rw [Bool.and_eq_true,Bool.and_eq_true] at h;obtain ⟨h1,h2,h3⟩:=h;refine ⟨?_,of_decide_eq_true h2,fun p hp e=>?_⟩
 ·split at h1
  ·assumption
  ·cases h1
 ·have:=List.all_eq_true.mp h3 p hp;rw [e] at this;show X.env.scope.names.lookup p.1=_\/X.env.scope.names.lookup p.1=_;rw [O.sco];dsimp only at this;split at this
  ·exact .inl (by assumption)
  ·exact .inr (by assumption)
  ·cases this
theorem Ss {scope:Scope}(h:(scope.names.map (·.1)).Nodup):(Dn scope).Nodup:=by
 unfold Dn;exact h.sublist ((List.filter_sublist).map _)
theorem Vo (O:XOk X k G sc) (scope:Scope):CapOk X (Dn scope) scope (Ot sc.N scope):=by
 refine ⟨by unfold Ot;rw [List.length_map],fun i x j e1 e2=>?_⟩;unfold Ot at e2;rw [List.getElem?_map,e1] at e2;simp only [Option.map_some,Option.some.injEq] at e2;split at e2
 ·rename_i hl;exact ⟨hl,by rw [O.N];exact Fb e2⟩
 ·cases e2
theorem XOk.comp (O:XOk X k G sc) {scope:Scope}(h:Mx scope sc=true) (pins:List (Addr×Obj)) (C:Addr) (cells:List (Str×Addr)) (s₀:Shared) (H₀:Hp) (fp:List Addr) :
  XOk (Ci X pins (Dn scope) scope C cells s₀ H₀ fp) k G (Sg scope sc):=by
 have S:=Ld O h;refine ⟨rfl,Ss S.nd,Ou O scope,fun x hx hl=>?_,O.calm,rfl,O.room,O.g⟩;have hx:cA scope x=true:=hx;rcases Sh hx with q|q
 ·right;show (Kg scope sc.scope).names.lookup x=_;rw [← Ou O scope,Fg,q];rfl
 ·left;exact decide_eq_true (PySem.mem_of_lookup q)
theorem Vp {x:Str}{i:Nat}(h:iGn sc x=some i):cA sc.scope x=true/\sc.own x=true/\slot sc.N x=some i:=by
 unfold iGn at h;split at h
 ·rename_i hc;rw [Bool.and_eq_true] at hc;exact ⟨hc.1,hc.2,h⟩
 ·cases h
theorem XOk.name (O:XOk X k G sc) {x:Str}{i:Nat}{pos:Pos}(h:iGn sc x=some i):PG X (.Name x pos) (cZ i):=by
 obtain ⟨h1,h2,h3⟩:=Vp h;have hl:=Sh h1;refine Yk (by rw [O.N];exact O.nd) (by rw [O.N];exact Fb h3) (by rw [O.sco];exact hl) ?_;rw [O.sco];exact O.own x h2 hl
theorem XOk.names (O:XOk X k G sc) {es:List Expr}{is:List Nat}(h:iGs sc es=some is):PGs X es (gNs is)/\(assignEach es X.env).length=is.length/\(assignEach es X.env).findIdx? (·.1)=none:=by
 induction es generalizing is with
 | nil=>cases h;exact ⟨pO,rfl,rfl⟩
 | cons e r ih =>
  cases e with
  | Name x p =>
   simp only [iGs] at h;split at h
   ·rename_i i ei;split at h
    ·rename_i js ej;cases h;obtain ⟨h1,h2,h3⟩:=ih ej;refine ⟨dD (O.name ei) h1 rfl,?_,?_⟩
     ·show (assignEach r X.env).length+1=js.length+1;rw [h2]
     ·show List.findIdx? (fun x=>x.1) ((false,assign (.Name x p) X.env)::assignEach r X.env)=none;rw [List.findIdx?_cons];simp only [Bool.false_eq_true,if_false,h3];rfl
    ·cases h
   ·cases h
  | _=>cases h
theorem XOk.target (O:XOk X k G sc) {tg:Expr}{ws:List Nat}{g:GM}(h:iG sc tg=some (ws,g)):DG X tg ws g:=by
 cases tg with
 | Name x p =>
  simp only [iG] at h;split at h
  ·rename_i i ei;cases h;obtain ⟨h1,h2,h3⟩:=Vp ei;have hl:=Sh h1;refine rJ (by rw [O.N];exact O.nd) (by rw [O.N];exact Fb h3) (by rw [O.sco];exact hl) ?_;rw [O.sco];exact O.own x h2 hl
  ·cases h
 | Tuple es kk p =>
  simp only [iG] at h;split at h
  ·rename_i is ei;cases h;obtain ⟨h1,h2,h3⟩:=O.names ei;exact zP O.calm h1 h2 h3
  ·cases h
 | _=>cases h
end
structure SndE (G:Gb) (n:Nat):Prop where
 e:∀ {X:Cx} {k:Nat} {sc:SC},XOk X k G sc->∀ e,DE X e (iE G n sc e)
 t:∀ {X:Cx} {k:Nat} {sc:SC},XOk X k G sc->∀ e,DT X e (iT G n sc e)
 a:∀ {X:Cx} {k:Nat} {sc:SC},XOk X k G sc->∀ es,DA X es (iA G n sc es)
 f:∀ {X:Cx} {k:Nat} {sc:SC},XOk X k G sc->∀ es,DIf X es (iF G n sc es)
 i:∀ {X:Cx} {k:Nat} {sc:SC},XOk X k G sc->∀ tg e,DI X tg e (iI G n sc tg e)
theorem Zg {X:Cx}{es:List Expr}:DIf X es Zb:=fun pins s σ H Q I ⟨loc,mh,ρ,b,mh',q,_⟩=>by cases q
theorem Ib {X:Cx}{tg e:Expr}:DI X tg e Zb:=fun loc mh=>Ef
theorem tL {c:Str}{T:String}(h:tyOf c=some T):T∈["bool", "int", "str", "tuple", "list", "dict"]/\bootBuiltins c=some (.type T)/\c∈Kh:=by
 unfold tyOf at h;split at h
 ·rename_i e;cases h;rw [eq_of_beq e];exact ⟨by decide,boot_int,by decide +kernel⟩
 ·split at h
  ·rename_i e;cases h;rw [eq_of_beq e];exact ⟨by decide,boot_bool,by decide +kernel⟩
  ·split at h
   ·rename_i e;cases h;rw [eq_of_beq e];exact ⟨by decide,boot_str,by decide +kernel⟩
   ·split at h
    ·rename_i e;cases h;rw [eq_of_beq e];exact ⟨by decide,by decide +kernel,by decide +kernel⟩
    ·split at h
     ·rename_i e;cases h;rw [eq_of_beq e];exact ⟨by decide,by decide +kernel,by decide +kernel⟩
     ·split at h
      ·rename_i e;cases h;rw [eq_of_beq e];exact ⟨by decide,by decide +kernel,by decide +kernel⟩
      ·cases h
theorem Jx {X:Cx}{k:Nat}{G:Gb}{sc:SC}(O:XOk X k G sc) {e:Expr}{kvs:List (Str×D)}(h:Mf G sc e=some kvs):∃ x p a,e=.Name x p/\Gl X x/\(x==("__debug__":Str))=false/\X.mg x=some (.ref a)/\DicOk X.w X.K a kvs:=by
 cases e with
 | Name x p =>
  simp only [Mf] at h;split at h
  ·rename_i hc;rw [Bool.and_eq_true] at hc;obtain ⟨a,h1,h2⟩:=O.g.dic _ _ h;exact ⟨x,p,a,rfl,O.gl hc.1,by simpa using hc.2,h1,h2⟩
  ·cases h
 | _=>cases h
theorem Mg {G:Gb}{sc:SC}{op:CmpOp}{b:Expr}{neg:Bool}{kvs:List (Str×D)}(h:Lb G sc op b=some (neg,kvs)):Mf G sc b=some kvs/\((op=.In/\neg=false)\/(op=.NotIn/\neg=true)):=by
 cases op <;> first | cases h;done | skip
 all_goals
  simp only [Lb] at h;split at h
  ·rename_i q;cases h;exact ⟨q,by simp⟩
  ·cases h
theorem jP {X:Cx}{k:Nat}{G:Gb}{sc:SC}(O:XOk X k G sc) {op:CmpOp}{a b:Expr}{neg:Bool}{kvs:List (Str×D)}{ma:DM D}{p:Pos}(h:Lb G sc op b=some (neg,kvs)) (ha:DE X a ma):DE X (.Compare a [op] [b] p) (Ly neg kvs ma):=by
 obtain ⟨h0,h1⟩:=Mg h;obtain ⟨x,p',ad,rfl,g1,g2,g3,g4⟩:=Jx O h0;rcases h1 with ⟨rfl,rfl⟩|⟨rfl,rfl⟩
 ·exact iY g4 g1 g3 g2 ha
 ·exact Vf g4 g1 g3 g2 ha
theorem jQ {X:Cx}{k:Nat}{G:Gb}{sc:SC}(O:XOk X k G sc) {op:CmpOp}{a b:Expr}{neg:Bool}{kvs:List (Str×D)}{ma:DM D}{p:Pos}(h:Lb G sc op b=some (neg,kvs)) (ha:DE X a ma):DT X (.Compare a [op] [b] p) (Ah (Ly neg kvs ma)):=by
 obtain ⟨h0,h1⟩:=Mg h;obtain ⟨x,p',ad,rfl,g1,g2,g3,g4⟩:=Jx O h0;rcases h1 with ⟨rfl,rfl⟩|⟨rfl,rfl⟩
 ·exact iZ g4 g1 g3 g2 ha
 ·exact Vg g4 g1 g3 g2 ha
theorem Sv {X:Cx}{a:Expr}{es:List Expr}{p:Pos}(hs:isStar a=false) (hr:(es.all fun e=>!isStar e)=true) (hk:(a::es).length < 20):((backTo p (starEach (a::es) X.env)).all (fun x=>!x.1)&&(backToKw p (keywordEach [] X.env)).all (fun x=>x.1.isSome)&&decide ((a::es).length+([]:List Keyword).length+(if ([]:List Keyword).isEmpty then 0 else 1) < 30))=true:=by
 rw [Sq (by rw [List.all_cons,hs,hr];rfl)];have:decide ((a::es).length+([]:List Keyword).length+(if ([]:List Keyword).isEmpty then 0 else 1) < 30)=true:=decide_eq_true (by simp;simp at hk;omega);rw [this];rfl
theorem jR {X:Cx}{k:Nat}{G:Gb}{sc:SC}(O:XOk X k G sc) {f:Str}{g:Fn}{p pos:Pos}{a:Expr}{es:List Expr}{mr:DM (List D)}(h:jO f=some g) (hg:glB sc.scope f=true) (ha:DA X (a::es) mr) (hn:f ≠ "__name__") (hd:(f==("__debug__":Str))=false) (hs:isStar a=false) (hr:(es.all fun e=>!isStar e)=true) :
  DE X (.Call (.Name f p) (a::es) [] pos) (mr.bnd fun ds=>Zl (g ds)):=by
 unfold jO at h;split at h
 ·rename_i e;cases h;rw [eq_of_beq e] at hg hn hd ⊢;exact Fi aJ (O.gl hg) (O.g.blt _ (by decide +kernel)) PySem.boot_len ha hn hd (Cj hs) (Bj hr)
 ·split at h
  ·rename_i e;cases h;rw [eq_of_beq e] at hg hn hd ⊢;exact K1 W6 (O.gl hg) (O.g.blt _ (by decide +kernel)) (by decide +kernel) ha hn hd (Cj hs) (Bj hr)
  ·split at h
   ·rename_i e;cases h;rw [eq_of_beq e] at hg hn hd ⊢;exact K1 Ug (O.gl hg) (O.g.blt _ (by decide +kernel)) (by decide +kernel) ha hn hd (Cj hs) (Bj hr)
   ·split at h
    ·rename_i e;cases h;rw [eq_of_beq e] at hg hn hd ⊢;exact Fi (Sd (f:=.builtin "all")) (O.gl hg) (O.g.blt _ (by decide +kernel)) (by decide +kernel) ha hn hd (Cj hs) (Bj hr)
    ·split at h
     ·rename_i e;cases h;rw [eq_of_beq e] at hg hn hd ⊢;exact Fi (Sd (f:=.builtin "any")) (O.gl hg) (O.g.blt _ (by decide +kernel)) (by decide +kernel) ha hn hd (Cj hs) (Bj hr)
     ·split at h
      ·rename_i e;cases h;rw [eq_of_beq e] at hg hn hd ⊢;exact Fi (Xr O.calm) (O.gl hg) (O.g.blt _ (by decide +kernel)) (by decide +kernel) ha hn hd (Cj hs) (Bj hr)
      ·split at h
       ·rename_i e;cases h;rw [eq_of_beq e] at hg hn hd ⊢;exact Fi (Xu O.calm) (O.gl hg) (O.g.blt _ (by decide +kernel)) (by decide +kernel) ha hn hd (Cj hs) (Bj hr)
       ·split at h
        ·rename_i e;cases h;rw [eq_of_beq e] at hg hn hd ⊢;exact K1 bW (O.gl hg) (O.g.blt _ (by decide +kernel)) (by decide +kernel) ha hn hd (Cj hs) (Bj hr)
        ·split at h
         ·rename_i e;cases h;rw [eq_of_beq e] at hg hn hd ⊢;exact Fi R6 (O.gl hg) (O.g.blt _ (by decide +kernel)) (by decide +kernel) ha hn hd (Cj hs) (Bj hr)
         ·split at h
          ·rename_i e;cases h;rw [eq_of_beq e] at hg hn hd ⊢;exact Fi (Sd (f:=.builtin "sum")) (O.gl hg) (O.g.blt _ (by decide +kernel)) (by decide +kernel) ha hn hd (Cj hs) (Bj hr)
          ·cases h
theorem Xz {X:Cx}{m:Str}{T:String}{f:D->List D->MH->Option (D×MH)}{o:Expr}{mo:DM D}{ap p:Pos}(h:La m 0=some (T,f)) (ho:DE X o mo) (hb:baseOk o=true) (hl:(ap.endLine==p.line)=true):DE X (.Call (.Attribute o m ap) [] [] p) (Bv T f mo (Zr [])):=by
 unfold La at h;split at h
 ·rename_i e;rw [Bool.and_eq_true] at e;exact absurd e.2 (by decide)
 ·split at h
  ·rename_i e;rw [Bool.and_eq_true] at e;cases h;rw [eq_of_beq e.1];exact gB PySem.F.plainAttrs_int PySem.F.slot_int_bit_length PySem.F.type_int_bit_length gD ho (Eg hb) hl
  ·split at h
   ·rename_i e;rw [Bool.and_eq_true] at e;exact absurd e.2 (by decide)
   ·split at h
    ·rename_i e;rw [Bool.and_eq_true] at e;cases h;rw [eq_of_beq e.1];exact gB PySem.F.plainAttrs_list PySem.F.slot_list_pop PySem.F.type_list_pop sO ho (Eg hb) hl
    ·split at h
     ·rename_i e;rw [Bool.and_eq_true] at e;exact absurd e.2 (by decide)
     ·split at h
      ·rename_i e;rw [Bool.and_eq_true] at e;exact absurd e.2 (by decide)
      ·cases h
theorem cB {X:Cx}{m:Str}{T:String}{f:D->List D->MH->Option (D×MH)}{o a:Expr}{es:List Expr}{mo:DM D}{mr:DM (List D)}{ap p:Pos}(h:La m (a::es).length=some (T,f)) (ho:DE X o mo) (ha:DA X (a::es) mr) (hb:baseOk o=true) (hl:(ap.endLine==p.line)=true) (hs:isStar a=false) (hr:(es.all fun e=>!isStar e)=true) (hk:(a::es).length < 20) :
  DE X (.Call (.Attribute o m ap) (a::es) [] p) (Bv T f mo mr):=by
 have few:((backTo p (starEach (a::es) X.env)).all (fun x=>!x.1)&&(backToKw p (keywordEach [] X.env)).all (fun x=>x.1.isSome)&&decide ((a::es).length+([]:List Keyword).length+(if ([]:List Keyword).isEmpty then 0 else 1) < 30))=true:=by
  rw [Sq (by rw [List.all_cons,hs,hr];rfl)];have:decide ((a::es).length+([]:List Keyword).length+(if ([]:List Keyword).isEmpty then 0 else 1) < 30)=true:=decide_eq_true (by simp;simp at hk;omega);rw [this];rfl
 unfold La at h;split at h
 ·rename_i e;rw [Bool.and_eq_true] at e;cases h;rw [eq_of_beq e.1];exact Lj PySem.F.plainAttrs_list PySem.F.slot_list_append PySem.F.type_list_append Xb ho ha (Eg hb) few hl (Cj hs) (Bj hr)
 ·split at h
  ·rename_i e;rw [Bool.and_eq_true] at e;exact absurd (eq_of_beq e.2) (by simp)
  ·split at h
   ·rename_i e;rw [Bool.and_eq_true] at e;cases h;rw [eq_of_beq e.1];exact Lj PySem.F.plainAttrs_list PySem.F.slot_list_pop PySem.F.type_list_pop bD ho ha (Eg hb) few hl (Cj hs) (Bj hr)
   ·split at h
    ·rename_i e;rw [Bool.and_eq_true] at e;exact absurd (eq_of_beq e.2) (by simp)
    ·split at h
     ·rename_i e;rw [Bool.and_eq_true] at e;cases h;rw [eq_of_beq e.1];exact Lj PySem.F.plainAttrs_list PySem.F.slot_list_extend PySem.F.type_list_extend Xl ho ha (Eg hb) few hl (Cj hs) (Bj hr)
     ·split at h
      ·rename_i e;rw [Bool.and_eq_true] at e;cases h;rw [eq_of_beq e.1];exact Lj PySem.F.plainAttrs_tuple PySem.F.slot_tuple_index PySem.F.type_tuple_index Ze ho ha (Eg hb) few hl (Cj hs) (Bj hr)
      ·cases h
theorem Vq {a:Expr}{es:List Expr}{b:Expr}(h:setArg a es=some b):es=[]/\isStar b=false/\∃ p q,a=.Call (.Name "set" p) [b] [] q:=by
 unfold setArg at h;split at h
 ·rename_i g p b' q;split at h
  ·rename_i hc;rw [Bool.and_eq_true] at hc;cases h;exact ⟨rfl,by simpa using hc.2,p,q,by rw [eq_of_beq hc.1]⟩
  ·cases h
 ·cases h
theorem X3 {X:Cx}{k:Nat}{G:Gb}{sc:SC}(O:XOk X k G sc) {a b:Expr}{op:CmpOp}{i j:Nat}{pos:Pos}(h:Zf sc a op b=some (i,j)) :
  DE X (.Compare a [op] [b] pos) (iD (fun loc mh=>match loc[i]? with | some (some d)=>some (d,mh) | _=>none) (fun loc mh=>match loc[j]? with | some (some d)=>some (d,mh) | _=>none)):=by cases h
theorem jT (G:Gb):SndE G 0:=⟨fun _ _=>Am,fun _ _=>En,fun _ _=>eZ,fun _ _=>Zg,fun _ _ _=>Ib⟩
theorem Ad2 {G:Gb}{n:Nat}(S:SndE G n) {X:Cx}{k:Nat}{sc:SC}(O:XOk X k G sc) (es:List Expr):DA X es (iA G (n+1) sc es):=by
 cases es with
 | nil=>exact zE
 | cons a r =>
  show DA X (a::r) (if isStar a then Zb else Aa (iE G n sc a) (iA G n sc r));split
  ·exact eZ
  ·rename_i h;exact qW (S.e O a) (S.a O r) (Cj (by simpa using h))
theorem Ad3 {G:Gb}{n:Nat}(S:SndE G n) {X:Cx}{k:Nat}{sc:SC}(O:XOk X k G sc) (es:List Expr):DIf X es (iF G (n+1) sc es):=by
 cases es with
 | nil=>exact rM
 | cons a r =>
  cases r with
  | nil=>exact rN (S.t O a)
  | cons b r=>exact Zg
theorem Ad4 {G:Gb}{n:Nat}(S:SndE G n) {X:Cx}{k:Nat}{sc:SC}(O:XOk X k G sc) (tg e:Expr):DI X tg e (iIb (iE G n) (iT G n) (iA G n) (iF G n) (iI G n) G sc tg e):=by
 cases e with
 | Call ff args kws p' =>
  cases ff with
  | Name f p =>
   cases args with
   | nil=>exact Gq (S.e O _)
   | cons a r =>
    cases r with
    | nil =>
     cases kws with
     | nil =>
      delta iIb
      dsimp only;split
      ·rename_i h;rw [Bool.and_eq_true] at h;split
       ·exact Ib
       ·rename_i hs;have hs:isStar a=false:=by simpa using hs
        have e:=eq_of_beq h.1;subst e;exact aL (O.gl h.2) (O.g.blt _ (by decide +kernel)) (S.a O [a]) (Cj hs)
      ·split
       ·rename_i h;rw [Bool.and_eq_true] at h;split
        ·exact Ib
        ·rename_i hs;have hs:isStar a=false/\Er tg=true:=by simpa using hs
         have e:=eq_of_beq h.1;subst e;cases tg with
         | Tuple es kk tp=>exact sU O.calm (O.gl h.2) (O.g.blt _ (by decide +kernel)) (S.e O a) (Cj hs.1)
         | _=>cases hs.2
       ·exact Gq (S.e O _)
     | cons _ _=>exact Gq (S.e O _)
    | cons b r =>
     cases r with
     | nil =>
      cases kws with
      | nil =>
       delta iIb
       dsimp only;split
       ·rename_i h;rw [Bool.and_eq_true] at h;split
        ·exact Ib
        ·rename_i hs;have hs:isStar a=false/\isStar b=false:=by simpa using hs
         have e:=eq_of_beq h.1;subst e;exact Ib
       ·split
        ·rename_i h;rw [Bool.and_eq_true] at h;split
         ·exact Ib
         ·rename_i hs;have hs:(isStar a=false/\isStar b=false)/\Er tg=true:=by simpa using hs
          have e:=eq_of_beq h.1;subst e;cases tg with
          | Tuple elts kk tp=>exact Ib
          | _=>cases hs.2
        ·exact Gq (S.e O _)
      | cons _ _=>exact Gq (S.e O _)
     | cons c r =>
      cases r with
      | cons _ _=>exact Gq (S.e O _)
      | nil =>
       cases kws with
       | cons _ _=>exact Gq (S.e O _)
       | nil =>
        delta iIb
        dsimp only;split
        ·rename_i h;rw [Bool.and_eq_true] at h;split
         ·exact Ib
         ·rename_i hs;have hs:(isStar a=false/\isStar b=false)/\isStar c=false:=by simpa using hs
          have e:=eq_of_beq h.1;subst e;exact bU (O.gl h.2) (O.g.blt _ (by decide +kernel)) (S.a O [a,b,c]) (Cj hs.1.1) (Bj (by simp [hs.1.2,hs.2]))
        ·exact Gq (S.e O _)
  | _=>exact Gq (S.e O _)
 | _=>exact Gq (S.e O _)
theorem vO {X:Cx}{op:BoolOp}{vs:List Expr}{p:Pos}{m:DM Bool}(h:DT X (.BoolOp op vs p) m):DW X (.BoolOp op vs p) m:=fun loc mh wh pins s σ H Q I q=>h loc mh pins s σ H Q I q
theorem Ad5 {G:Gb}{n:Nat}(S:SndE G n) {X:Cx}{k:Nat}{sc:SC}(O:XOk X k G sc) (e:Expr):DT X e (iTb (iE G n) (iT G n) (iA G n) (iF G n) (iI G n) G sc e):=by
 cases e with
 | UnaryOp op a p =>
  cases op with
  | Not=>exact yX (S.t O _)
  | _=>exact Ud (S.e O _) fun _=>rfl
 | BoolOp op vs p =>
  cases vs with
  | nil=>cases op <;> exact En
  | cons a r =>
   cases r with
   | nil =>
    cases op
    ·exact (qT (S.t O a)).dt
    ·exact (yV (S.t O a)).dt
   | cons b r =>
    cases op
    ·exact (yW (S.t O _) (vO (S.t O _))).dt
    ·exact (Adh (S.t O _) (vO (S.t O _))).dt
 | IfExp c a b p=>exact En
 | Compare a ops cs p =>
  cases ops with
  | nil=>exact En
  | cons op ops =>
   cases ops with
   | nil =>
    cases cs with
    | nil=>exact En
    | cons b cs =>
     cases cs with
     | cons _ _=>exact En
     | nil =>
      delta iTb
      dsimp only;split
      ·rename_i neg kvs hd;exact jQ O hd (S.e O _)
      ·split
       ·exact En
       ·rename_i h;exact yU (Gz O.units _) (Kl (by simpa using h)) (S.e O _) (S.e O _)
   | cons op' ops =>
    cases ops with
    | cons _ _=>exact En
    | nil =>
     cases cs with
     | nil=>exact En
     | cons b cs =>
      cases cs with
      | nil=>exact En
      | cons c cs =>
       cases cs with
       | cons _ _=>exact En
       | nil =>
        delta iTb
        dsimp only;split
        ·exact En
        ·rename_i h;exact fZ (Gz O.units _) (Gz O.units _) (by show behindInMarks _ _=false;exact Kl (by simpa using h)) (S.e O _) (S.e O _) (S.e O _)
 | _=>exact Ud (S.e O _) fun _=>rfl
theorem Ad6 {G:Gb}{n:Nat}(S:SndE G n) {X:Cx}{k:Nat}{sc:SC}(O:XOk X k G sc) (e:Expr):DE X e (iEb (iE G n) (iT G n) (iA G n) (iF G n) (iI G n) G sc e):=by
 cases e with
 | Constant c _ _ =>
  cases c with
  | int i=>exact qQ wJ fun _ _ _=>.int _
  | bool b=>exact qQ Ace fun _ _ _=>.bl _
  | none=>exact qQ wK fun _ _ _=>.non
  | str x=>exact qQ Wq fun _ _ _=>.str _
  | _=>exact Am
 | Name x p =>
  delta iEb
  dsimp only;split
  ·rename_i h;rw [Bool.and_eq_true,Bool.and_eq_true] at h;obtain ⟨⟨h1,h2⟩,h3⟩:=h;split
   ·rename_i i ei;exact yR (by rw [O.N];exact Fb ei) (O.vis h1) (by simpa using h2) (by simpa using h3)
   ·exact Am
  ·split
   ·rename_i h;rw [Bool.and_eq_true] at h;split
    ·rename_i d ed;obtain ⟨u,v,h1,h2,h3⟩:=O.g.con _ _ ed;exact fun loc mh=>Bk (Il (O.gl h.1) h1 h2 (by simpa using h.2)) fun σ H Q ⟨ρ,d',mh',q,rl,rs,co⟩=>by
      cases q;exact co H ρ v Ev.refl rs (h3 H ρ)
    ·exact Am
   ·exact Am
 | BinOp a op b _ =>
  delta iEb
  dsimp only;split
  ·rename_i f ef;exact Ade (tB ef) (S.e O _) (S.e O _)
  ·exact Am
 | UnaryOp op a _ =>
  cases op with
  | USub=>exact Adg rQ (S.e O _)
  | Not=>exact zB (S.e O _)
  | _=>exact Am
 | BoolOp op vs _ =>
  cases vs with
  | nil=>cases op <;> exact Am
  | cons a r =>
   cases r with
   | nil=>cases op <;> exact yZ (S.e O _)
   | cons b r =>
    cases op
    ·exact zA (S.e O _) (S.e O _)
    ·exact Adj (S.e O _) (S.e O _)
 | Compare a ops cs _ =>
  cases ops with
  | nil=>exact Am
  | cons op ops =>
   cases ops with
   | nil =>
    cases cs with
    | nil=>exact Am
    | cons b cs =>
     cases cs with
     | cons _ _=>exact Am
     | nil =>
      delta iEb
      dsimp only;split
      ·rename_i i j hp;exact X3 O hp
      ·split
       ·rename_i neg kvs hd;exact jP O hd (S.e O _)
       ·split
        ·exact Am
        ·rename_i h;exact yS (Gz O.units _) (Kl (by simpa using h)) (S.e O _) (S.e O _)
   | cons op' ops =>
    cases ops with
    | cons _ _=>exact Am
    | nil =>
     cases cs with
     | nil=>exact Am
     | cons b cs =>
      cases cs with
      | nil=>exact Am
      | cons c cs =>
       cases cs with
       | cons _ _=>exact Am
       | nil =>
        delta iEb
        dsimp only;split
        ·exact Am
        ·rename_i h;exact fY (Gz O.units _) (Gz O.units _) (by show behindInMarks _ _=false;exact Kl (by simpa using h)) (S.e O _) (S.e O _) (S.e O _)
 | IfExp c a b _=>exact Adi (S.t O _) (S.e O _) (S.e O _)
 | Tuple es _ _=>exact zF (S.a O _)
 | List es _=>exact zG (S.a O _)
 | Dict ks vs p =>
  delta iEb
  dsimp only;split
  ·rename_i h;rw [Bool.and_eq_true,Bool.and_eq_true] at h;exact sZ h.1.1 (fun z=>by rw [z] at h;exact absurd h.1.2 (by decide)) (of_decide_eq_true h.2) fun v _=>S.e O v
  ·exact Am
 | Subscript a b _ =>
  have gen:DE X (.Subscript a b ‹_›) (if isSlice b then (if Zd b then (iE G n sc a).bnd fun x=>Zl (aH x) else Zb) else (match Mf G sc a with | some kvs=>iW kvs (iE G n sc b) | none=>dop ixD (iE G n sc a) (iE G n sc b))):=by
   split
   ·split
    ·rename_i h;obtain ⟨k,p1,p2,p3,rfl⟩:=Xw h;exact zL (S.e O _)
    ·exact Am
   ·rename_i h;split
    ·rename_i kvs hd;obtain ⟨x,p,a,rfl,h1,h2,h3,h4⟩:=Jx O hd;exact jA h4 h1 h3 h2 (S.e O _) (vN (by simpa using h))
    ·exact Adf Afn (vN (by simpa using h)) (S.e O _) (S.e O _)
  cases b with
  | Slice lo hi st _ =>
   cases st with
   | none =>
    refine fL (S.e O _) ?_ ?_
    ·cases lo with
     | none=>trivial
     | some e=>exact S.e O e
    ·cases hi with
     | none=>trivial
     | some e=>exact S.e O e
   | some s=>exact gen
  | _=>exact gen
 | Attribute o f _ =>
  delta iEb
  dsimp only;split
  ·rename_i h;exact Am
  ·exact Am
 | Call ff args kws p' =>
  cases ff with
  | Name f p =>
   cases kws with
   | cons kw ks =>
    cases args with
    | nil=>exact Am
    | cons a es =>
     cases es with
     | cons _ _=>exact Am
     | nil =>
      delta iEb
      dsimp only;split
      ·rename_i h;simp only [Bool.and_eq_true] at h;obtain ⟨⟨⟨h1,h4⟩,h5⟩,h6⟩:=h;have h4:isStar a=false:=by simpa using h4
       have h6:ks=[]:=by simpa using h6
       subst h6;obtain ⟨j,cp,kp,rfl⟩:=Vn h5;split
       ·rename_i hf;have e:=eq_of_beq hf;subst e;exact Am
       ·split
        ·rename_i hf;have e:=eq_of_beq hf;subst e;exact Am
        ·exact Am
      ·exact Am
   | nil =>
    cases args with
    | nil =>
     delta iEb
     dsimp only;split
     ·rename_i h;rw [Bool.and_eq_true] at h;split
      ·rename_i g eg;obtain ⟨fa,fd,h1,h2,h3,h4,h5⟩:=O.g.fn _ _ _ eg;exact fW (E:=E0) h4 O.room (O.gl h.1) h1 h2 h3 vB (by simpa using h.2)
      ·exact Am
     ·exact Am
    | cons a es =>
     delta iEb
     dsimp only;split
     ·rename_i h;simp only [Bool.and_eq_true] at h;obtain ⟨⟨⟨⟨h1,h2⟩,h3⟩,h4⟩,h5⟩:=h;have h4:isStar a=false:=by simpa using h4
      exact Am
     split
     ·rename_i h;simp only [Bool.and_eq_true] at h;obtain ⟨⟨⟨⟨h1,h2⟩,h3⟩,h4⟩,h5⟩:=h
      have h2:(f==("__debug__":Str))=false:=by simpa using h2
      have h3:f ≠ "__name__":=by simpa using h3
      have h4:isStar a=false:=by simpa using h4
      split
      ·rename_i ps g eg;obtain ⟨fa,fd,g1,g2,g3,g4,g5⟩:=O.g.fn _ _ _ eg;exact rP (E:=E0) g4 O.room (O.gl h1) g1 g2 g3 vB (S.a O _) g5 h2 (Cj h4) (Bj h5)
      ·split
       ·rename_i fl hb;exact Am
       split
       ·rename_i b hb;obtain ⟨rfl,hsb,p2,q2,rfl⟩:=Vq hb;split
        ·rename_i hs;split
         ·rename_i hf;have e:=eq_of_beq hf;subst e;exact Vb O.calm O.units (O.gl h1) (O.g.blt _ (by decide +kernel)) (O.gl hs) (O.g.blt _ (by decide +kernel)) (S.e O b) (Cj hsb)
         ·exact Am
        ·exact Am
       ·split
        ·rename_i b c hb;cases hb
        ·split
         ·rename_i b hb;cases hb
         ·split
          ·rename_i hf;split
           ·rename_i c pc;split
            ·rename_i hc;simp only [Bool.and_eq_true] at hc;obtain ⟨⟨c1,c2⟩,c3⟩:=hc;split
             ·rename_i T eT;obtain ⟨t1,t2,t3⟩:=tL eT;have e:=eq_of_beq hf;subst e;exact zU t1 (O.gl h1) (O.g.blt _ (by decide +kernel)) (O.gl c1) (O.g.blt _ t3) t2 (by simpa using c3) (by simpa using c2) (S.e O a) (Cj h4)
             ·exact Am
            ·exact Am
           ·exact Am
          ·split
           ·rename_i g eg;exact jR O eg h1 (S.a O _) h3 h2 h4 h5
           ·exact Am
     ·exact Am
  | Attribute o m ap =>
   cases kws with
   | cons _ _=>cases args <;> exact Am
   | nil =>
    cases args with
    | nil =>
     delta iEb
     dsimp only;split
     ·rename_i h;rw [Bool.and_eq_true] at h;split
      ·rename_i T f eT;exact Xz eT (S.e O _) h.1 h.2
      ·exact Am
     ·exact Am
    | cons a es =>
     delta iEb
     dsimp only;split
     ·rename_i h;simp only [Bool.and_eq_true] at h;obtain ⟨⟨⟨⟨h1,h2⟩,h3⟩,h4⟩,h5⟩:=h;split
      ·rename_i hm;have em:=eq_of_beq hm;subst em;rw [Bool.not_eq_true'] at h3;split
       ·rename_i kvs hd;exact Am
       ·exact Am
      split
      ·rename_i hm;rw [Bool.and_eq_true] at hm;have em:=eq_of_beq hm.1;subst em;rw [Bool.not_eq_true'] at h3;exact Vc (Lj PySem.F.plainAttrs_tuple PySem.F.slot_tuple_count PySem.F.type_tuple_count Ze (S.e O _) (S.a O _) (Eg h1) (Sv h3 h4 (of_decide_eq_true h5)) h2 (Cj h3) (Bj h4))
        (Lj PySem.F.plainAttrs_list PySem.F.slot_list_count PySem.F.type_list_count jG (S.e O _) (S.a O _) (Eg h1) (Sv h3 h4 (of_decide_eq_true h5)) h2 (Cj h3) (Bj h4))
      split
      ·rename_i hm;rw [Bool.and_eq_true] at hm;have em:=eq_of_beq hm.1;subst em;rw [Bool.not_eq_true'] at h3;exact Vc (Lj PySem.F.plainAttrs_tuple PySem.F.slot_tuple_index PySem.F.type_tuple_index Ze (S.e O _) (S.a O _) (Eg h1) (Sv h3 h4 (of_decide_eq_true h5)) h2 (Cj h3) (Bj h4))
        (Lj PySem.F.plainAttrs_list PySem.F.slot_list_index PySem.F.type_list_index Ze (S.e O _) (S.a O _) (Eg h1) (Sv h3 h4 (of_decide_eq_true h5)) h2 (Cj h3) (Bj h4))
      split
      ·rename_i T f eT;exact cB eT (S.e O _) (S.a O _) h1 h2 (by simpa using h3) h4 (of_decide_eq_true h5)
      ·rw [Bool.not_eq_true'] at h3;exact Am
     ·exact Am
  | _=>cases args <;> exact Am
 | ListComp elt gens scope p =>
  cases gens with
  | nil=>exact Am
  | cons g gens =>
   obtain ⟨tg,iter,ifs,kk⟩:=g;cases gens with
   | cons _ _=>exact Am
   | nil =>
    delta iEb
    dsimp only;split
    ·rename_i h;simp only [Bool.and_eq_true] at h;obtain ⟨⟨h1,h2⟩,h3⟩:=h;have e:=eq_of_beq h1;subst e;split
     ·rename_i ws g eg;split
      ·rename_i hw;refine rO (N':=Dn scope) O.calm (Ld O h2) (Vo O scope) (fun i hi j q=>?_) (S.i O tg iter) (fun p C c s h f=>(O.comp h2 p C c s h f).target eg) (fun p C c s h f=>S.f (O.comp h2 p C c s h f) ifs) (fun p C c s h f=>S.e (O.comp h2 p C c s h f) elt) (Xy (by simpa using h3));have z:=List.all_eq_true.mp hw i hi;rw [q] at z;cases z
      ·exact Am
     ·exact Am
    ·exact Am
 | _=>exact Am
theorem snd (G:Gb):∀ n,SndE G n
 | 0=>jT G
 | n+1=>⟨fun O=>Ad6 (snd G n) O,fun O=>Ad5 (snd G n) O,fun O=>Ad2 (snd G n) O,fun O=>Ad3 (snd G n) O,fun O=>Ad4 (snd G n) O⟩
section
variable {K:PySem.W.Frag}{H:Hp}{ρ:List Addr}
end
section
variable {P:Program}{w:World}{H:Hp}{h h2:Heap}{pl c a:Addr}{tb more:Array Value}{oc ob:Obj}{fs:List Addr}
end
section
variable {X:Cx}
end
theorem Vr {K:PySem.W.Frag}{H:Hp}{ρ:List Addr}{N:List Str}{ds:List D}{vs:List V}(r:RDs K H ρ ds vs):RL K H ρ (ds.map some++List.replicate (N.length - ds.length) none) (L2.start N vs):=by
 have hl:=r.length;unfold L2.start;refine ⟨by simp [hl],fun i d e=>?_⟩
 by_cases hi:i < ds.length
 ·rw [List.getElem?_append_left (by simpa using hi),List.getElem?_map] at e;cases q:ds[i]? with
  | none=>rw [q] at e;cases e
  | some d' =>
   rw [q] at e;cases e;obtain ⟨v,e1,r1⟩:=r.get q;exact ⟨v,by rw [List.getElem?_append_left (by simp;omega),List.getElem?_map,e1];rfl,r1⟩
 ·rw [List.getElem?_append_right (by simpa using hi),List.getElem?_replicate] at e;split at e <;> cases e
theorem Iw {X:Cx}{st:Stmt}{g:GM}:DS X st (Ag Zb g):=fun _ _ _ _ _ _ h=>by obtain ⟨_,_,_,_,_,_,e,_⟩:=h;cases e
theorem X4 {G:Gb}{X:Cx}{k:Nat}{sc:SC}(O:XOk X k G sc) (n:Nat) {y:Str}{py vp spos:Pos}{elt:Expr}{gens:List Comprehension}{scope:Scope}{ws:List Nat}{gy:GM}(hgy:iG sc (.Name y py)=some (ws,gy)) :
  DS X (.Assign [.Name y py] (.ListComp elt gens scope vp) spos) (Ag (iE G n sc (.ListComp elt gens scope vp)) gy):=by
 have hg:=O.target hgy;have sw:swapsWith (.ListComp elt gens scope vp) (some (.Name y py)) spos.line X.env=pure (X.env.blockKind==.function&&X.env.kindOf y==some .local&&py.line==vp.line&&!(scope.names.any fun (n,k)=>n==y&&(k==.local || k==.cell))):=rfl;cases hb:(X.env.blockKind==.function&&X.env.kindOf y==some .local&&py.line==vp.line&&!(scope.names.any fun (n,k)=>n==y&&(k==.local || k==.cell))) with
 | false =>
  rw [hb] at sw;exact W9 ((snd G n).e O _) hg sw rfl rfl
 | true =>
  rw [hb] at sw;cases n with
  | zero=>exact Iw
  | succ n =>
   show DS X _ (Ag (iEb (iE G n) (iT G n) (iA G n) (iF G n) (iI G n) G sc _) gy)
   match gens with
   | []=>exact Iw
   | ⟨_,_,_,_⟩::_::_=>exact Iw
   | [⟨tg,iter,ifs,kk⟩] =>
    delta iEb
    dsimp only;split
    ·rename_i h;simp only [Bool.and_eq_true] at h;obtain ⟨⟨h1,h2⟩,h3⟩:=h;have e:=eq_of_beq h1;subst e;split
     ·rename_i ws g eg;split
      ·rename_i hw;refine Xa (N':=Dn scope) O.calm (Ld O h2) (Vo O scope) (fun i hi j q=>?_) ((snd G n).i O tg iter) (fun p C c s h f=>(O.comp h2 p C c s h f).target eg) (fun p C c s h f=>(snd G n).f (O.comp h2 p C c s h f) ifs) (fun p C c s h f=>(snd G n).e (O.comp h2 p C c s h f) elt) hg sw (Xy (by simpa using h3));have z:=List.all_eq_true.mp hw i hi;rw [q] at z;cases z
      ·exact Iw
     ·exact Iw
    ·exact Iw
theorem Vs {v tg:Expr}{line:Nat}{env:Env}(h:Iv v=false):swapsWithSole [tg] v line env=pure false:=by
 show swapsWith v (some tg) line env=pure false;cases v <;> first | rfl | cases h
theorem cC {v:Expr}{line:Nat}{env:Env}(h:Iv v=false):swapsWith v none line env=pure false:=by
 cases v <;> first | rfl | cases h
theorem Mh {v tg:Expr}{env:Env}(h:(Er tg&&Er v)=false) (hl:∀ es p,tg≠.List es p):swappedStores [tg] v env=pure none:=by
 cases tg with
 | Tuple ts kk p =>
  cases v with
  | Tuple vs k2 p2=>cases h
  | _=>rfl
 | List es p=>exact (hl es p rfl).elim
 | _=>first | rfl | (cases v <;> rfl)
theorem Aal {x y:Str}{a b:Expr}{px py pt pt2:Pos}{kt k2:Nat}{env:Env}(hb:(env.blockKind==.function)=true) (hx:(env.kindOf x==some .local)=true) (hy:(env.kindOf y==some .local)=true) (hl:(py.line==px.line)=true) (hne:(x==y)=false) (sa:isStar a=false) (sb:isStar b=false)
  (hf:[a,b].all (foldedForSure 8)=false) (hc:[a,b].all (constantsAlone 8)=false):swappedStores [.Tuple [.Name x px,.Name y py] kt pt] (.Tuple [a,b] k2 pt2) env=pure (some [x,y]):=by
 have he:([x,y].eraseDups.length != [x,y].length)=false:=by
  have:(y==x)=false:=by
   cases q:(y==x) with
   | false=>rfl
   | true=>rw [eq_of_beq q] at hne;simp at hne
  simp [List.eraseDups_cons,this,hne]
 have hbk:(env.blockKind != .function)=false:=by rw [bne,hb];rfl
 have e1:(Option.map (fun e:Expr=>e.pos.line) [Expr.Name x px,Expr.Name y py].head?).getD 0=px.line:=rfl;unfold swappedStores;dsimp only;refine (if_neg ?_).trans ?_
 ·simp [hbk]
 refine (if_neg ?_).trans ?_
 ·simp only [List.any_cons,List.any_nil,Bool.or_false];rw [Bool.not_eq_true,Bool.or_eq_false_iff];constructor
  ·cases a <;> first | rfl | cases sa
  ·cases b <;> first | rfl | cases sb
 simp only [e1,List.filterMap_cons,List.filterMap_nil,hx,hy,hl,beq_self_eq_true,Bool.and_self,if_true];refine (if_neg ?_).trans ?_
 ·rw [he];simp
 rw [if_neg (by rw [hf];simp),if_neg (by rw [hc];simp)]
theorem Aam {X:Cx}{i j:Nat}{x y:Str}{a b:Expr}{mr:DM (List D)}{px py pt pt2 pos:Pos}{kt k2:Nat}(hc:X.calm=true) (hN:X.N.Nodup) (hi:X.N[i]?=some x) (hj:X.N[j]?=some y) (hij:i≠j) (hx:X.env.scope.names.lookup x=some .local) (hy:X.env.scope.names.lookup y=some .local) (ha:DA X [a,b] mr)
  (hw:swappedStores [.Tuple [.Name x px,.Name y py] kt pt] (.Tuple [a,b] k2 pt2) X.env=pure (some [x,y])):DS X (.Assign [.Tuple [.Name x px,.Name y py] kt pt] (.Tuple [a,b] k2 pt2) pos) (Aai mr i j):=by
 rintro pins s σ H N I ⟨loc,mh,ρ,f,loc',mh',e,rl,rs,co⟩;refine xJ hc hN hi hj hij hx hy (ha loc mh) hw rfl pins s σ H N I ?_;unfold Aai at e;split at e
 ·rename_i d1 d2 h1 er;cases e;refine ⟨ρ,[d1,d2],mh',er,rl,rs,fun H' ρ' vs e' rs' r'=>?_⟩;cases r' with
  | cons r1 r' =>
   cases r' with
   | cons r2 r' =>
    cases r';exact ⟨_,_,rfl,co H' ρ' _ e' rs' (((rl.mono e').set r1).set r2)⟩
 ·cases e
theorem Ad7 (G:Gb) (n:Nat) (ihss:∀ {X:Cx}{k:Nat}{sc:SC},XOk X k G sc->∀ ss,DSs X ss (iSs G n sc ss)) {X:Cx}{k:Nat}{sc:SC}(O:XOk X k G sc) (s:Stmt):DS X s (iSb n (iSs G n) G sc s):=by
 have S:=snd G n;cases s with
 | Expr e p =>
  delta iSb
  dsimp only;split
  ·exact Dp
  ·rename_i h;exact rH (S.e O _) (cC (by simpa using h))
 | Pass _=>exact rF
 | Break _=>exact fQ
 | Continue _=>exact Uh
 | Return e _ =>
  cases e with
  | some e=>exact zO (S.e O _)
  | none=>exact rG
 | Assign ts v p =>
  cases ts with
  | nil=>exact Dp
  | cons tg r =>
   cases r with
   | cons _ _=>exact Dp
   | nil =>
    have gen:DS X (.Assign [tg] v p) (if Iv v || (Er tg&&Er v) then SM.bad else (match iGt G n sc tg with | some g=>Ag (iE G n sc v) g | none=>SM.bad)):=by
     split
     ·exact Dp
     ·rename_i h;have h:Iv v=false/\(Er tg&&Er v)=false:=by
       rw [Bool.not_eq_true,Bool.or_eq_false_iff] at h;exact h
      split
      ·rename_i g eg;have gen:(match iG sc tg with | some (_,g)=>some g | none=>none)=some g->DS X (.Assign [tg] v p) (Ag (iE G n sc v) g):=fun eg=>by
        split at eg
        ·rename_i ws g' eg';cases eg;refine W9 (S.e O _) (O.target eg') (Vs h.1) (Mh h.2 (fun es p z=>by subst z;simp [iG] at eg')) ?_;cases tg <;> first | rfl | (simp [iG] at eg')
        ·cases eg
       cases tg with
       | Subscript o i p' =>
        simp only [iGt] at eg;split at eg
        ·cases eg
        ·rename_i hs;cases eg;have hs:isSlice i=false:=by simpa using hs
         refine W9 (S.e O _) (zQ (S.e O _) (S.e O _) ?_) (Vs h.1) (Mh h.2 (fun _ _ z=>by cases z)) rfl;intro v';cases i <;> first | rfl | cases hs
       | _=>exact gen eg
      ·exact Dp
    cases tg with
    | Name y py =>
     cases v with
     | ListComp elt gens scope vp =>
      delta iSb
      dsimp only
      delta Aaj
      dsimp only;split
      ·rename_i ws g eg;exact X4 O n eg
      ·exact Dp
     | _=>exact gen
    | Tuple tl kt pt =>
     cases tl with
     | nil=>exact gen
     | cons t1 tl =>
      cases t1 with
      | Name x px =>
       cases tl with
       | nil=>exact gen
       | cons t2 tl =>
        cases t2 with
        | Name y py =>
         cases tl with
         | cons _ _=>exact gen
         | nil =>
          cases v with
          | Tuple vl k2 pt2 =>
           cases vl with
           | nil=>exact gen
           | cons a vl =>
            cases vl with
            | nil=>exact gen
            | cons b vl =>
             cases vl with
             | cons _ _=>exact gen
             | nil =>
              delta iSb
              dsimp only
              delta Aaj
              dsimp only;split
              ·rename_i h;unfold Ad1 at h;simp only [Bool.and_eq_true,Bool.not_eq_true'] at h;obtain ⟨⟨⟨⟨⟨⟨⟨⟨h1,h2⟩,h3⟩,h4⟩,h5⟩,h6⟩,h7⟩,h8⟩,h9⟩:=h;split
               ·rename_i i j ei ej;have hi:=Fb ei;have hj:=Fb ej;refine Aam O.calm (by rw [O.N];exact O.nd) (by rw [O.N];exact hi) (by rw [O.N];exact hj) (fun z=>?_) (by rw [O.sco];exact eq_of_beq h2) (by rw [O.sco];exact eq_of_beq h3) (S.a O _) (Aal ?_ ?_ ?_ h4 h5 h6 h7 h8 h9)
                ·subst z;rw [hi] at hj;cases hj;simp at h5
                ·unfold Env.blockKind;rw [O.sco];exact h1
                ·unfold Env.kindOf;rw [O.sco];exact h2
                ·unfold Env.kindOf;rw [O.sco];exact h3
               ·exact Dp
              ·exact Dp
          | _=>exact gen
        | _=>exact gen
      | _=>exact gen
    | _=>exact gen
 | If c a b _=>exact Adn (S.t O _) (ihss O _) (ihss O _)
 | While c body els _ =>
  cases els with
  | cons _ _=>exact Dp
  | nil =>
   refine fV ?_ (S.t O _) (ihss O _);rw [O.xe];exact PassesOwn.never
 | For tg it body els _ =>
  cases els with
  | cons _ _=>exact Dp
  | nil =>
   delta iSb
   dsimp only;split
   ·exact Dp
   ·rename_i h;split
    ·rename_i ws g eg;refine zR ?_ O.calm (S.i O _ _) (O.target eg) (ihss O _) (Xy (by simpa using h));rw [O.xe];exact PassesOwn.never
    ·exact Dp
 | _=>exact Dp
theorem Afo (G:Gb) (n:Nat):(∀ {X:Cx}{k:Nat}{sc:SC},XOk X k G sc->∀ s,DS X s (iS G n sc s))/\(∀ {X:Cx}{k:Nat}{sc:SC},XOk X k G sc->∀ ss,DSs X ss (iSs G n sc ss)):=by
 induction n with
 | zero=>exact ⟨fun _ _=>Dp,fun _ _ _ _ _ _ _ _ h=>by obtain ⟨_,_,_,_,_,_,e,_⟩:=h;cases e⟩
 | succ n ih =>
  refine ⟨fun {X k sc} O s=>Ad7 G n (fun O ss=>ih.2 O ss) O s,fun {X k sc} O ss=>?_⟩;cases ss with
  | nil=>exact rE
  | cons s r=>exact fP (ih.1 O s) (ih.2 O r)
theorem jU {P:Program}{w:World}{K:PySem.W.Frag}{mg:Str->Option Value}{base:Heap}{k:Nat}{G:Gb}{x qual:Str}{st:Stmt}{f:Addr}{fd:FuncData}{I:FnI}(g:GOk P w K mg base k G) (F:Fun K x qual st f fd) (S:FnScope I.N I.ps (Ba st))
  (hs:I.scope=Ba st) (hb:I.body=Cz st) (n:Nat):FnOk P w K mg base CX0 (k+3) f fd I.ps (spD K I.ps.length (Af G n I)):=by
 refine F.ok S (fun vs H Q E h=>h.1) fun cdv A outer s H vs Q E hr h=>?_
 obtain ⟨hl,ρ,mh,ds,d,mh',q,rs,r,co⟩:=h;refine ⟨_,(Afo G n).2 (sc:={ N:=I.N,scope:=I.scope,own:=fun _=>true }) ⟨rfl,S.nd,hs.symm,fun _ _ _=>.inl rfl,rfl,rfl,hr,g⟩ (Cz st),?_⟩;unfold Af at q;split at q
 ·split at q
  ·rename_i d' loc' m' e;cases q;exact ⟨_,mh,ρ,.rt d,loc',mh',by rw [← hb];exact e,Vr r,rs,co⟩
  ·rename_i loc' m' e;cases q;exact ⟨_,mh,ρ,.nx,loc',mh',by rw [← hb];exact e,Vr r,rs,fun H' ρ' σ' e' rs' _=>co H' ρ' _ e' rs' .non⟩
  ·cases q
 ·cases q
theorem Vt {G:Gb}{n:Nat}{I:FnI}{ds:List D}{mh:MH}{r:D×MH}(h:Af G n I ds mh=some r):ds.length=I.ps.length:=by
 unfold Af at h;split at h
 ·assumption
 ·cases h
noncomputable def Ad8 (K:PySem.W.Frag) (mg:Str->Option Value) (x:Str) (I:FnI):Prop:=∃ (qual:Str) (st:Stmt) (f:Addr) (fd:FuncData),mg x=some (.ref f)/\Fun K x qual st f fd/\FnScope I.N I.ps (Ba st)/\I.scope=Ba st/\I.body=Cz st/\∀ us:List Value,us.length=I.ps.length->bindArgs fd ⟨us,[]⟩=pure (I.ps.zip us)
noncomputable def jV (K:PySem.W.Frag) (mg:Str->Option Value) (x:Str) (d:D):Prop:=∃ u v,mg x=some u/\RelV v u/\∀ H ρ,RD K H ρ d v
structure TbOk (w:World) (K:PySem.W.Frag) (mg:Str->Option Value) (T:Tb):Prop where
 fn:∀ x I,T.tb x=some I->∃ (qual:Str) (st:Stmt) (f:Addr) (fd:FuncData),mg x=some (.ref f)/\Fun K x qual st f fd/\FnScope I.N I.ps (Ba st)/\I.scope=Ba st/\I.body=Cz st/\∀ us:List Value,us.length=I.ps.length->bindArgs fd ⟨us,[]⟩=pure (I.ps.zip us)
 con:∀ x d,T.con x=some d->∃ u v,mg x=some u/\RelV v u/\∀ H ρ,RD K H ρ d v
 blt:∀ b∈Kh,mg b=none
 dic:∀ x kvs,T.dic x=some kvs->∃ a,mg x=some (.ref a)/\DicOk w K a kvs
 fld:∀ c f,T.fld c f=true->∃ C,PySem.W.nsIn K mainGlobals c=some (some (.ref C))/\Cls K C/\dN K C f
 met:∀ c m I,T.tbm c m=some I->∃ (qual:Str) (st:Stmt) (C f:Addr) (fd:FuncData),PySem.W.nsIn K mainGlobals c=some (some (.ref C))/\Cls K C/\Meth K C m f/\Fun K m qual st f fd/\FnScope I.N I.ps (Ba st)/\I.scope=Ba st/\I.body=Cz st/\∀ us:List Value,us.length=I.ps.length->bindArgs fd ⟨us,[]⟩=pure (I.ps.zip us)
 mkr:∀ c f,T.mkr c=some f->∃ C fa fd ps,PySem.W.nsIn K mainGlobals c=some (some (.ref C))/\Mk K C fa/\mg c=some (.ref C)/\Binds K fd ps []/\∀ (P:Program) (w:World) (base:Heap),FnOk P w K mg base CX0 1 fa fd ps (spI C f)
theorem gok {P:Program}{w:World}{K:PySem.W.Frag}{mg:Str->Option Value}{base:Heap}{T:Tb}(O:TbOk w K mg T) (k:Nat):GOk P w K mg base k (GkN T k):=by
 induction k with
 | zero=>exact ⟨fun x ps f h=>(by cases h),O.con,O.blt,O.dic,O.fld,fun c m ps g h=>(by cases h),fun c f h=>by
   obtain ⟨C,fa,fd,ps,h1,h2,h3,h4,h5⟩:=O.mkr c f h
   exact ⟨C,fa,fd,ps,h1,h2,h3,h4,h5 _ _ _⟩⟩
 | succ k ih =>
  refine ⟨fun x ps f h=>?_,O.con,O.blt,O.dic,O.fld,fun c m ps g h=>?_,fun c f h=>by
   obtain ⟨C,fa,fd,ps,h1,h2,h3,h4,h5⟩:=O.mkr c f h
   exact ⟨C,fa,fd,ps,h1,h2,h3,h4,h5 _ _ _⟩⟩
  ·simp only [GkN] at h;split at h
   ·rename_i I eI;cases h;obtain ⟨qual,st,fa,fd,h1,h2,h3,h4,h5,h6⟩:=O.fn x I eI;exact ⟨fa,fd,h1,h2.kp,.all h6,jU ih h2 h3 h4 h5 fuel,fun ds mh r hr=>Vt hr⟩
   ·cases h
  ·simp only [GkN] at h;split at h
   ·rename_i I eI;cases h;obtain ⟨qual,st,C,fa,fd,g1,g2,g3,h2,h3,h4,h5,h6⟩:=O.met c m I eI;exact ⟨C,fa,fd,g1,g2,g3,.all h6,jU ih h2 h3 h4 h5 fuel,fun ds mh r hr=>Vt hr⟩
   ·cases h
noncomputable def Bs (st:Stmt):FnI :=
  { ps:=(Es st).args.map (·.arg),
    N:=(Es st).args.map (·.arg)++(((Ba st).names.filter fun p=>(match p.2 with | .local=>true | .cell=>true | _=>false)).map (·.1)).filter (fun x=>!((Es st).args.map (·.arg)).contains x),
    scope:=Ba st,body:=Cz st }
theorem walk {l:PySem.W.OpenLaw}{q:Program}{loose:List Str}{XP:(Str->Option Value)->Heap->Prop}{YP:World->Heap->Prop}{d:DefRec}{K:Params->PySem.W.Frag}{Tt:Tb}{I:FnI}{x:Str}(k:Nat)
  (hn:l.most=some 63) (hdf:d.params.defaults=[]) (hY:∀ (w:World) (h:Heap),YP w h->(K w.params).In h) (hr:Room (k+3) callerA)
  (hI:Tt.tb d.name=some I) (hps:I.ps=[x])
  (T:∀ (w:World) (mg:Str->Option Value) (h:Heap),(K w.params).In h->h.Ns mainGlobals mg->TbOk w (K w.params) mg Tt)
  (main:∀ ns:List Int,ns.length<=63->∃ mh',Af (GkN Tt k) fuel I [.rol (ns.map D.int)] []=some (.bl true,mh')) :
  PySem.W.WalkO q loose XP YP l.row.toRowW d [] (fun f vs=>PySem.call f vs):=by
 refine L2.qG (n:=63) (k:=k+3) (x:=x) (CX:=fun _=>CX0) (sp:=fun w=>spD (K w.params) 1 (Af (GkN Tt k) fuel I)) hn (by decide) hdf hr hY (fun w mg fa h hK hN hm=>?_) (fun w H a ns hl hO hS=>?_) fun _ _ _ _ _ z=>z
 ·obtain ⟨qual,st,f,fd,h1,h2,h3,h4,h5,h6⟩:=(T w mg h hK hN).fn _ _ hI;rw [hm] at h1;cases h1;refine ⟨fd,fun s u=>.of_eq ?_,fun base hKb hNb=>?_⟩
  ·have:=h6 [u] (by rw [hps];rfl);rw [hps] at this;exact this
  ·have:=jU (P:=l.prog) (w:=w) (base:=base) (gok (T w mg h hK hN) k) h2 h3 h4 h5 fuel;rw [hps] at this;exact this
 ·obtain ⟨mh',e⟩:=main ns hl;have P:Hq (K w.params) H a (ns.map V.int):=by
   rcases hS with (h|h)|h
   ·rcases hO a with z|⟨o,xs,z⟩
    ·rw [z] at h;cases h
    ·rw [z] at h;cases h
   ·exact .inl h
   ·exact .inr h
  refine ⟨rfl,[],[],[.rol (ns.map D.int)],.bl true,mh',e,⟨rfl,List.nodup_nil,fun n a o e=>by simp at e⟩,.cons (.rol P (RDs.ints ns)) .nil,fun H' ρ' v _ _ r=>by cases r;rfl⟩
end DL
namespace DL
open PySem L2
noncomputable def vr (i:Nat):DM D:=fun loc mh=>match loc[i]? with | some (some d)=>some (d,mh) | _=>none
noncomputable abbrev Ge:=iop (fun _ _=>true) fun i j=>i - j
noncomputable abbrev Jy:=iop Vl fun i j=>i * j
noncomputable abbrev Ao:=iop (fun _ j=>decide (j≠0)&&decide (j.natAbs < 10889035741470030830827987437816582766592)) fun i j=>i.fdiv j
noncomputable abbrev Ar:=iop (fun _ j=>decide (j≠0)) fun i j=>i.fmod j
noncomputable abbrev Vu:=iop (fun i j=>decide (0<=j)&&(decide (j<=1000000)&&decide (i.natAbs < 2 ^ 64))) fun i j=>i ^ j.toNat
noncomputable abbrev Aan:=iop (fun i j=>decide (0<=j)&&(decide (j<=1000000)&&decide (i.natAbs < 2 ^ 64))) fun i j=>i * 2 ^ j.toNat
noncomputable abbrev Ad9:=iop (fun _ j=>decide (0<=j)) fun i j=>i / 2 ^ j.toNat
noncomputable abbrev vP:=iop (fun _ _=>true) Builtin.bitAnd
noncomputable abbrev ltD:=Pj fun i j=>decide (i < j)
noncomputable abbrev leD:=Pj fun i j=>decide (i<=j)
noncomputable abbrev gtD:=Pj fun i j=>decide (j < i)
noncomputable abbrev geD:=Pj fun i j=>decide (j<=i)
noncomputable def cD (m:DM D):DM D:=m.bnd fun x=>Zl (zV x)
noncomputable def tM (m:DM D):DM D:=(Ah m).bnd fun c=>Zr (.bl (!c))
noncomputable def Aw (mr:DM (List D)):DM D:=mr.bnd fun ds=>Zl (Qg ds)
noncomputable def lstM (mr:DM (List D)):DM D:=mr.bnd fun ds=>Zl (Qh ds)
noncomputable def Aea (m:DM D):DM D:=m.bnd fun x=>Zl (aH x)
noncomputable def Ak (f:Fn) (mr:DM (List D)):DM D:=mr.bnd fun ds=>Zl (f ds)
noncomputable def Aao (T:String) (m:DM D):DM D:=m.bnd fun x=>Zl (Ul T x)
noncomputable def Ov (m:DM D):DM D:=m.bnd fun x=>Zl (Cq x)
theorem ln0 {f:List Value->Prop}(h:f []) (us:List Value) (e:us.length=0):f us:=by
 cases us with
 | nil=>exact h
 | cons _ _=>cases e
theorem ln1 {f:List Value->Prop}(h:∀ a,f [a]) (us:List Value) (e:us.length=1):f us:=by
 cases us with
 | nil=>cases e
 | cons a r=>exact ln0 (f:=fun r=>f (a::r)) (h a) r (Nat.succ.inj e)
theorem ln2 {f:List Value->Prop}(h:∀ a b,f [a,b]) (us:List Value) (e:us.length=2):f us:=by
 cases us with
 | nil=>cases e
 | cons a r=>exact ln1 (f:=fun r=>f (a::r)) (h a) r (Nat.succ.inj e)
theorem ln3 {f:List Value->Prop}(h:∀ a b c,f [a,b,c]) (us:List Value) (e:us.length=3):f us:=by
 cases us with
 | nil=>cases e
 | cons a r=>exact ln2 (f:=fun r=>f (a::r)) (h a) r (Nat.succ.inj e)
theorem ln4 {f:List Value->Prop}(h:∀ a b c d,f [a,b,c,d]) (us:List Value) (e:us.length=4):f us:=by
 cases us with
 | nil=>cases e
 | cons a r=>exact ln3 (f:=fun r=>f (a::r)) (h a) r (Nat.succ.inj e)
theorem ln5 {f:List Value->Prop}(h:∀ a b c d e,f [a,b,c,d,e]) (us:List Value) (e:us.length=5):f us:=by
 cases us with
 | nil=>cases e
 | cons a r=>exact ln4 (f:=fun r=>f (a::r)) (h a) r (Nat.succ.inj e)
theorem ln6 {f:List Value->Prop}(h:∀ a b c d e g,f [a,b,c,d,e,g]) (us:List Value) (e:us.length=6):f us:=by
 cases us with
 | nil=>cases e
 | cons a r=>exact ln5 (f:=fun r=>f (a::r)) (h a) r (Nat.succ.inj e)
theorem jW {q:Program}{loose:List Str}{XP:(Str->Option Value)->Heap->Prop}{K:Params->PySem.W.Frag}{as:List Addr}{n t:Nat}{r:PySem.W.RowW}{d:DefRec}{kwd:List (Str×Expr)}{run:Value->List Value->Sem Value}
  (e:∀ P,as=(K P).map (·.1)) (h:PySem.W.WalkO q loose XP (fun w h=>(K w.params).In h) r d kwd run):PySem.W.WalkX q loose XP (PySem.W.X.obsZ as) (PySem.W.X.valZ K n t) r d kwd run :=
 fun w s₀ s₁ mg mb G y a o pm cd doc dV kV h1 h2 h3 h4 h5 h6 args vals as' L hpre hlay hrd hwl hlo =>
  h w s₀ s₁ mg mb G (PySem.W.InK.keeps w s₀.heap s₁.heap (PySem.W.X.z_facts e y).2.1 L.keeps) a o pm cd doc dV kV h1 h2 h3 h4 h5 h6 args vals as' hpre hlay hrd hwl hlo
noncomputable def Vv (K:PySem.W.Frag):List (Str×Stmt)->Prop
 | []=>True
 | r::L=>(∃ (f:Addr) (fd:FuncData),PySem.W.nsIn K mainGlobals r.1=some (some (.ref f))/\Fun K r.1 r.1 r.2 f fd)/\Vv K L
theorem jX {K:PySem.W.Frag}{x:Str}{st:Stmt}{L:List (Str×Stmt)}{f:Addr}{oc:Value}{od an:Option Addr}{osl:Array (Option Value)}{kV doc pm cdv ct:Value}(a:PySem.W.nsIn K mainGlobals x=some (some (.ref f)))
  (l:K.lookup f=some ⟨oc,od,.func (PySem.W.fnOf x x (Es st) (Cz st) (Ba st) .none kV doc pm an cdv ct),osl⟩)
  (c:PySem.W.codeIn K cdv x=true) (k:PySem.W.keepIn K (.ref f)=true) (q:Vv K L):Vv K ((x,st)::L):=⟨⟨f,_,a,yP l c k⟩,q⟩
noncomputable def Aeb (x:Str) (st:Stmt):Prop:=FnScope (Bs st).N (Bs st).ps (Ba st)/\∀ (kV doc pm:Value) (an:Option Addr) (cdv ct:Value) (us:List Value),us.length=(Bs st).ps.length->bindArgs (PySem.W.fnOf x x (Es st) (Cz st) (Ba st) .none kV doc pm an cdv ct) ⟨us,[]⟩=pure ((Bs st).ps.zip us)
theorem Bc {x:Str}{st:Stmt}(s:FnScope (Bs st).N (Bs st).ps (Ba st)) (b:∀ (kV doc pm:Value) (an:Option Addr) (cdv ct:Value) (us:List Value),us.length=(Bs st).ps.length->bindArgs (PySem.W.fnOf x x (Es st) (Cz st) (Ba st) .none kV doc pm an cdv ct) ⟨us,[]⟩=pure ((Bs st).ps.zip us)):Aeb x st:=⟨s,b⟩
noncomputable def jY:List (Str×Stmt)->Prop
 | []=>True
 | r::L=>Aeb r.1 r.2/\jY L
theorem Zh {K:PySem.W.Frag}{h:Heap}{mg:Str->Option Value}(X:K.In h) (G:h.Ns mainGlobals mg) {x:Str}{I:FnI}:∀ {L:List (Str×Stmt)},Vv K L->jY L->(L.lookup x).map Bs=some I->Ad8 K mg x I
 | [],_,_,e=>by cases e
 | (y,st)::L,⟨⟨f,fd,a,F⟩,q⟩,⟨s,t⟩,e=>by
  simp only [List.lookup] at e;split at e
  ·rename_i hy;rw [eq_of_beq hy];cases e;refine ⟨y,st,f,fd,PySem.W.mg_of X G a,F,s.1,rfl,rfl,fun us hu=>?_⟩;obtain ⟨oc,od,kV,doc,pm,an,cdv,ct,osl,rfl,_⟩:=F.ex;exact s.2 kV doc pm an cdv ct us hu
  ·exact Zh X G q t e
noncomputable def Vw (K:PySem.W.Frag):List (Str×D)->Prop
 | []=>True
 | r::L=>(∃ u,PySem.W.nsIn K mainGlobals r.1=some (some u)/\rdV K 60 u=some r.2)/\Vw K L
theorem jZ {K:PySem.W.Frag}{x:Str}{d:D}{L:List (Str×D)}{u:Value}(a:PySem.W.nsIn K mainGlobals x=some (some u)) (b:rdV K 60 u=some d) (q:Vw K L):Vw K ((x,d)::L):=⟨⟨u,a,b⟩,q⟩
theorem Vx {K:PySem.W.Frag}{h:Heap}{mg:Str->Option Value}(X:K.In h) (G:h.Ns mainGlobals mg) {x:Str}{d:D}:∀ {L:List (Str×D)},Vw K L->L.lookup x=some d->jV K mg x d
 | [],_,e=>by cases e
 | (y,d')::L,⟨⟨u,a,b⟩,q⟩,e=>by
  simp only [List.lookup] at e;split at e
  ·rename_i hy;rw [eq_of_beq hy];cases e;obtain ⟨v,r1,r2⟩:=Xp 60 b;exact ⟨u,v,PySem.W.mg_of X G a,r1,r2⟩
  ·exact Vx X G q e
noncomputable def Vy (K:PySem.W.Frag):List Str->Prop
 | []=>True
 | b::L=>PySem.W.nsIn K mainGlobals b=some none/\Vy K L
theorem kE {K:PySem.W.Frag}{b:Str}{L:List Str}(a:PySem.W.nsIn K mainGlobals b=some none) (q:Vy K L):Vy K (b::L):=⟨a,q⟩
theorem Vz {K:PySem.W.Frag}{h:Heap}{mg:Str->Option Value}(X:K.In h) (G:h.Ns mainGlobals mg):∀ {L:List Str},Vy K L->∀ b∈L,mg b=none
 | _::_,⟨a,_⟩,_,.head _=>PySem.W.mg_none_of X G a
 | _::_,⟨_,q⟩,b,.tail _ m=>Vz X G q b m
section
variable {loc:DL.Loc}{mh:MH}{ma mb:DM D}{mr:DM (List D)}{t u:DM Bool}{m1 m2:SM}
theorem Aec (i:Nat):vr i loc mh=(match loc[i]? with | some (some d)=>some (d,mh) | _=>none):=by kernel_rfl
theorem Aap (f:D->D->MH->Option (D×MH)):dop f ma mb loc mh=(match ma loc mh with | none=>none | some (x,h)=>(match mb loc h with | none=>none | some (y,h2)=>f x y h2)):=by kernel_rfl
theorem tO:Mp ma loc mh=(match ma loc mh with | none=>none | some (x,h)=>(match fG x h with | some k=>some (k,h) | none=>none)):=by kernel_rfl
theorem kI (T:String) (f:D->List D->MH->Option (D×MH)):Bv T f ma mr loc mh=(match ma loc mh with | none=>none | some (x,h)=>if Rx T x h=true then (match mr loc h with | none=>none | some (ds,h2)=>f x ds h2) else none):=by kernel_rfl
theorem tQ (g:GM):Ag ma g loc mh=(match ma loc mh with | some (d,h)=>(match g d loc h with | some (l,h')=>some (.nx,l,h') | none=>none) | none=>none):=by kernel_rfl
theorem kJ:ifS t m1 m2 loc mh=(match t loc mh with | some (k,h)=>if k=true then m1 loc h else m2 loc h | none=>none):=by kernel_rfl
theorem tR:retS ma loc mh=(match ma loc mh with | some (d,h)=>some (.rt d,loc,h) | none=>none):=by kernel_rfl
theorem kO:Ej ma loc mh=(match ma loc mh with | some (_,h)=>some (.nx,loc,h) | none=>none):=by kernel_rfl
theorem Zi:Ab m1 m2 loc mh=(match m1 loc mh with | some (.nx,l,h)=>m2 l h | r=>r):=by kernel_rfl
theorem tU:Dc ma loc mh=(match ma loc mh with | none=>none | some (x,h)=>(match srcOf x h with | some s=>some (s,h) | none=>none)):=by kernel_rfl
theorem tV (f:List D->Option Src):Ht f mr loc mh=(match mr loc mh with | none=>none | some (ds,h)=>(match f ds with | some s=>some (s,h) | none=>none)):=by
 unfold Ht DM.bnd;cases mr loc mh with
 | none=>rfl
 | some p =>
  obtain ⟨ds,h⟩:=p;dsimp only;cases f ds <;> rfl
theorem kW:J6 (some ma) loc mh=(match ma loc mh with | some (.int i,h)=>some (some i,h) | _=>none):=by
 show (ma.bnd _) loc mh=_;unfold DM.bnd;cases ma loc mh with
 | none=>rfl
 | some p =>
  obtain ⟨x,h⟩:=p;cases x <;> rfl
theorem kY:Kd ma loc mh=(match ma loc mh with | none=>none | some (x,h)=>(match srcOf x h with | some s=>some (.enum s,h) | none=>none)):=by kernel_rfl
end
theorem kZ (C:Int->Int->Bool) (g:Int->Int->Int) (i j:Int) (mh:MH):iop C g (.int i) (.int j) mh=if C i j=true then some (.int (g i j),mh) else none:=by kernel_rfl
theorem lA {j:Int}(h0:0<=j) (h:j<=1000000):Je [.int j]=some (.seq (Br 0 j.toNat)):=by
 have e2:-(2 ^ 62)<=j/\j < 2 ^ 62:=by omega
 unfold Je;dsimp only;rw [if_pos e2]
theorem Dr {B:Nat}(h:B<=1000000):Je [.int B]=some (.seq (Br 0 B)):=by rw [lA (by omega) (by omega),Int.toNat_natCast]
theorem Bd (lo:Int) (n:Nat):(Br lo n).length=n:=by unfold Br;rw [List.length_map,List.length_range]
theorem le_size {n:Nat}(h:n<=1000000):n<=sizeLine:=by rw [sizeLine_eq];omega
theorem lt_size {n:Nat}(h:n<=1000000):n < sizeLine:=by rw [sizeLine_eq];omega
theorem lB {ds:List D}{mh:MH}(h:ds.length<=1000000):Qg ds mh=some (.tup ds,mh):=by unfold Qg;rw [if_pos (le_size h)]
theorem lC {ds:List D}{mh:MH}(h:ds.length<=1000000):Qh ds mh=some (.ref mh.length,mh++[.lst ds]):=by unfold Qh;rw [if_pos (le_size h)]
theorem X5 {n:Nat}{ds:List D}{y:D}{mh:MH}(e:mh[n]?=some (.lst ds)) (h:ds.length<=1000000):Cg (.ref n) [y] mh=some (.non,mh.set n (.lst (ds++[y]))):=by
 simp only [Cg,e,if_pos (lt_size h)]
theorem lE {n m:Nat}{xs ys:List D}{mh:MH}(e1:mh[n]?=some (.lst xs)) (e2:mh[m]?=some (.lst ys)) (h:xs.length+ys.length<=1000000):Ay (.ref n) (.ref m) mh=some (.ref mh.length,mh++[.lst (xs++ys)]):=by
 simp only [Ay,e1,e2,if_pos (le_size h)]
theorem Jz {ds:List D}{g:GM}{tc:DM Bool}{me:DM D}{loc:DL.Loc}{mh:MH}{p:D->Bool}{f:D->D}(step:∀ d∈ds,∃ l1,g d loc mh=some (l1,mh)/\tc l1 mh=some (p d,mh)/\(p d=true->me l1 mh=some (f d,mh))) :
  ∀ (k i:Nat) (acc:List D),i+k=ds.length->acc.length+k<=sizeLine->Dq (.seq ds) g tc me loc k i acc mh=some (acc++((ds.drop i).filter p).map f,mh)
 | 0,i,acc,e,_=>by
  have e:i=ds.length:=by omega
  subst e;have:Src.stop (.seq ds) mh ds.length=true:=by simp [Src.stop,Src.ok,Src.items]
  simp only [Dq,this,if_true];simp
 | k+1,i,acc,e,hz=>by
  have hi:i < ds.length:=by omega
  obtain ⟨l1,e1,e2,e3⟩:=step ds[i] (List.getElem_mem hi);have eg:Src.get (.seq ds) mh i=some ds[i]:=List.getElem?_eq_getElem hi;have ed:ds.drop i=ds[i]::ds.drop (i+1):=List.drop_eq_getElem_cons hi;simp only [Dq,eg,e1,e2];cases hp:p ds[i] with
  | false =>
   simp only [Bool.false_eq_true,if_false];rw [Jz step k (i+1) acc (by omega) (by omega),ed,List.filter_cons_of_neg (by simp [hp])]
  | true =>
   simp only [if_true,e3 hp];rw [if_pos (by omega),Jz step k (i+1) (acc++[f ds[i]]) (by omega) (by rw [List.length_append,List.length_singleton];omega),ed,List.filter_cons_of_pos hp,List.map_cons,List.append_assoc];rfl
theorem X6 {mi:DM Src}{cs:List (Option Nat)}{ds:List D}{g:GM}{tc:DM Bool}{me:DM D}{loc:DL.Loc}{mh mh0:MH}{p:D->Bool}{f:D->D}(hm:mi loc mh=some (.seq ds,mh0)) (hz:ds.length<=sizeLine)
  (step:∀ d∈ds,∃ l1,g d (G7 cs loc) mh0=some (l1,mh0)/\tc l1 mh0=some (p d,mh0)/\(p d=true->me l1 mh0=some (f d,mh0))):Bo mi cs g tc me loc mh=some (.ref mh0.length,mh0++[.lst ((ds.filter p).map f)]):=by
 unfold Bo;rw [hm];have:=Jz step ds.length 0 [] (by omega) (by simpa using hz);have e:Dq (.seq ds) g tc me (G7 cs loc) (Src.items (.seq ds) mh0).length 0 [] mh0=some (((ds.filter p).map f),mh0):=by
  show Dq (.seq ds) g tc me (G7 cs loc) ds.length 0 [] mh0=_
  simpa using this
 simp only [e]
end DL
namespace DL
open PySem L2 PyProof.Rows
noncomputable abbrev Bx (n:Nat):D:=.int (n:Int)
noncomputable def Fw (g n:Nat):List Nat:=(List.range n).filter fun i=>g.testBit i
theorem V0 (g n:Nat):Fw g (n+1)=Fw g n++(if g.testBit n then [n] else []):=by
 unfold Fw;rw [List.range_succ,List.filter_append];cases h:g.testBit n <;> simp [h]
theorem Mi {g m:Nat}(h:g < 2 ^ m):∀ n,m<=n->Fw g n=Fw g m
  | 0, hm => by have : m = 0 := by omega
                subst this;rfl
  | n+1,hm=>by
    by_cases e:m=n+1
    · rw [e]
    · rw [V0,Mi h n (by omega),Nat.testBit_lt_two_pow (Nat.lt_of_lt_of_le h (Nat.pow_le_pow_right (by decide) (by omega)))];simp
theorem tW (g:Nat):g < 2 ^ Builtin.Int.intBits (g:Int):=by
 unfold Builtin.Int.intBits
 by_cases h:g=0
 ·subst h;decide
 ·have:¬ (((g:Int)==0)=true):=by simpa using h
  rw [if_neg this,Int.natAbs_natCast];exact Nat.lt_log2_self
theorem bits_le {g n:Nat}(h:g < 2 ^ n):Builtin.Int.intBits (g:Int)<=n:=by
 unfold Builtin.Int.intBits
 by_cases hg:g=0
 ·subst hg;simp
 ·have:¬ (((g:Int)==0)=true):=by simpa using hg
  rw [if_neg this,Int.natAbs_natCast];have:=(Nat.log2_lt hg).mpr h;omega
theorem V1 {g n:Nat}(h:g < 2 ^ n):Fw g (Builtin.Int.intBits (g:Int))=Fw g n:=(Mi (tW g) n (bits_le h)).symm
theorem tX (s h:Nat):(Builtin.bitAnd ((s:Int) / 2 ^ (h:Int).toNat) 1==1)=s.testBit h:=by
 rw [bitAnd_m1,Int.toNat_natCast];rw [Nat.testBit_eq_decide_div_mod_eq];have e:((s:Int) / 2 ^ h) % 2=((s / 2 ^ h % 2:Nat):Int):=by
  rw [Int.natCast_emod,Int.natCast_ediv,Int.natCast_pow];rfl
 rw [e,Bool.eq_iff_iff,decide_eq_true_iff,beq_iff_eq];omega
theorem Km {mh:MH}{n:Nat}{ns:List Int}(h:mh[n]?=some (.lst (ns.map D.int))) (l1:ns.length < 4000) (l2:(Dh ns).length < 64):Cq (.ref n) mh=some (.ref mh.length,mh++[.lst ((Hr ns).map D.int)]):=by
 simp only [Cq,h,Fp,if_pos l1,if_pos l2]
theorem Sw {mh:MH}{n:Nat}{ks:List TX}(h:mh[n]?=some (.lst (ks.map txD))) (l3:ks.length<=3):Cq (.ref n) mh=some (.ref mh.length,mh++[.lst ((Gh (Ia ks)).map txD)]):=by
 cases ks with
 | nil =>
  rw [Km (ns:=[]) h (by decide) (by decide),show Hr []=[] from (Fo []).eq_nil,show Gh (Ia [])=[] from (Dk []).eq_nil];rfl
 | cons k ks =>
  have e:intsOf ((k::ks).map txD)=none:=rfl;simp only [Cq,h,e,Od,Qw,if_pos l3]
theorem Q5 (ns:List Int):(Dh ns).length<=ns.length:=firstMet_length_le _ _
theorem Le {n:Nat}{ds:List D}{g:GM}{tc:DM Bool}{me:DM D}{loc:DL.Loc}{mh:MH}{p:D->Bool}{f:D->D}(hn:mh[n]?=some (.lst ds)) (step:∀ d∈ds,∃ l1,g d loc mh=some (l1,mh)/\tc l1 mh=some (p d,mh)/\(p d=true->me l1 mh=some (f d,mh))) :
  ∀ (k i:Nat) (acc:List D),i+k=ds.length->acc.length+k<=sizeLine->Dq (.lref n) g tc me loc k i acc mh=some (acc++((ds.drop i).filter p).map f,mh)
 | 0,i,acc,e,_=>by
  have e:i=ds.length:=by omega
  subst e;have:Src.stop (.lref n) mh ds.length=true:=by simp [Src.stop,Src.ok,Src.items,hn]
  simp only [Dq,this,if_true];simp
 | k+1,i,acc,e,hz=>by
  have hi:i < ds.length:=by omega
  obtain ⟨l1,e1,e2,e3⟩:=step ds[i] (List.getElem_mem hi);have eg:Src.get (.lref n) mh i=some ds[i]:=by simp [Src.get,Src.items,hn,hi]
  have ed:ds.drop i=ds[i]::ds.drop (i+1):=List.drop_eq_getElem_cons hi;simp only [Dq,eg,e1,e2];cases hp:p ds[i] with
  | false =>
   simp only [Bool.false_eq_true,if_false];rw [Le hn step k (i+1) acc (by omega) (by omega),ed,List.filter_cons_of_neg (by simp [hp])]
  | true =>
   simp only [if_true,e3 hp];rw [if_pos (by omega),Le hn step k (i+1) (acc++[f ds[i]]) (by omega) (by rw [List.length_append,List.length_singleton];omega),ed,List.filter_cons_of_pos hp,List.map_cons,List.append_assoc];rfl
theorem cF {mi:DM Src}{cs:List (Option Nat)}{n:Nat}{ds:List D}{g:GM}{tc:DM Bool}{me:DM D}{loc:DL.Loc}{mh mh0:MH}{p:D->Bool}{f:D->D}(hm:mi loc mh=some (.lref n,mh0)) (hn:mh0[n]?=some (.lst ds)) (hz:ds.length<=sizeLine)
  (step:∀ d∈ds,∃ l1,g d (G7 cs loc) mh0=some (l1,mh0)/\tc l1 mh0=some (p d,mh0)/\(p d=true->me l1 mh0=some (f d,mh0))):Bo mi cs g tc me loc mh=some (.ref mh0.length,mh0++[.lst ((ds.filter p).map f)]):=by
 unfold Bo;rw [hm];have e0:(Src.items (.lref n) mh0).length=ds.length:=by simp [Src.items,hn]
 have:=Le hn step ds.length 0 [] (by omega) (by simpa using hz);have e:Dq (.lref n) g tc me (G7 cs loc) (Src.items (.lref n) mh0).length 0 [] mh0=some (((ds.filter p).map f),mh0):=by
  rw [e0]
  simpa using this
 simp only [e]
end DL
namespace DL
open PySem L2
noncomputable def wD {α:Type}(m:DM α) (loc:DL.Loc) (mh:MH) (P:α->MH->Prop):Prop:=∃ a h,m loc mh=some (a,h)/\P a h
noncomputable def wV (r:Option (D×MH)) (P:D->MH->Prop):Prop:=∃ d h,r=some (d,h)/\P d h
noncomputable def wG (r:Option (DL.Loc×MH)) (P:DL.Loc->MH->Prop):Prop:=∃ l h,r=some (l,h)/\P l h
noncomputable def wS (m:SM) (loc:DL.Loc) (mh:MH) (P:Fl->DL.Loc->MH->Prop):Prop:=∃ f l h,m loc mh=some (f,l,h)/\P f l h
section
variable {loc:DL.Loc}{mh:MH}{ma mb mc:DM D}{mr:DM (List D)}{t u:DM Bool}{P:D->MH->Prop}{B:Bool->MH->Prop}
theorem Bb {α:Type}{m:DM α}{P Q:α->MH->Prop}(h:wD m loc mh P) (i:∀ a h,P a h->Q a h):wD m loc mh Q:=let ⟨a,h',e,p⟩:=h;⟨a,h',e,i a h' p⟩
theorem Ko {r:Option (D×MH)}{P Q:D->MH->Prop}(h:wV r P) (i:∀ a h,P a h->Q a h):wV r Q:=let ⟨a,h',e,p⟩:=h;⟨a,h',e,i a h' p⟩
theorem lF {i:Nat}{d:D}(e:loc[i]?=some (some d)) (h:P d mh):wD (vr i) loc mh P:=⟨d,mh,by rw [Aec,e],h⟩
theorem Fx {α:Type}{a:α}{P:α->MH->Prop}(h:P a mh):wD (Zr a) loc mh P:=⟨a,mh,rfl,h⟩
theorem Ca {α β:Type}{m:DM α}{f:α->DM β}{P:β->MH->Prop}(h:wD m loc mh fun a h1=>wD (f a) loc h1 P):wD (m.bnd f) loc mh P:=by
 obtain ⟨a,h1,e1,b,h2,e2,p⟩:=h;exact ⟨b,h2,by unfold DM.bnd;rw [e1];exact e2,p⟩
theorem lG {f:D->D->MH->Option (D×MH)}(h:wD ma loc mh fun x h1=>wD mb loc h1 fun y h2=>wV (f x y h2) P):wD (dop f ma mb) loc mh P:=Ca (Bb h fun _ _ q=>Ca (Bb q fun _ _ z=>z))
theorem Zj {P:List D->MH->Prop}(h:wD ma loc mh fun x h1=>wD mr loc h1 fun xs h2=>P (x::xs) h2):wD (Aa ma mr) loc mh P:=Ca (Bb h fun _ _ q=>Ca (Bb q fun _ _ z=>Fx z))
theorem lH {f:Fn}(h:wD mr loc mh fun ds h1=>wV (f ds h1) P):wD (Ak f mr) loc mh P:=Ca (Bb h fun _ _ q=>q)
theorem Aaq (h:wD mr loc mh fun ds h1=>ds.length<=1000000/\P (.tup ds) h1):wD (Aw mr) loc mh P:=Ca (Bb h fun _ _ q=>⟨_,_,lB q.1,q.2⟩)
theorem Aar (h:wD mr loc mh fun ds h1=>ds.length<=1000000/\P (.ref h1.length) (h1++[.lst ds])):wD (lstM mr) loc mh P:=Ca (Bb h fun _ _ q=>⟨_,_,lC q.1,q.2⟩)
theorem Aas (h:wD ma loc mh fun x h1=>∃ i,x=.int i/\P (.int (-i)) h1):wD (cD ma) loc mh P:=Ca (Bb h fun _ _ ⟨i,e,q⟩=>by subst e;exact ⟨_,_,rfl,q⟩)
theorem Aat {T:String}(h:wD ma loc mh fun x h1=>wV (Ul T x h1) P):wD (Aao T ma) loc mh P:=Ca (Bb h fun _ _ q=>q)
theorem Aau (h:wD ma loc mh fun x h1=>wV (aH x h1) P):wD (Aea ma) loc mh P:=Ca (Bb h fun _ _ q=>q)
theorem Ow (h:wD ma loc mh fun x h1=>wV (Cq x h1) P):wD (Ov ma) loc mh P:=Ca (Bb h fun _ _ q=>q)
theorem Kp (h:wD ma loc mh fun x h1=>∃ k,x=.bl k/\B k h1):wD (Ah ma) loc mh B:=Ca (Bb h fun _ _ ⟨k,e,q⟩=>by subst e;exact Fx q)
theorem Aav (h:wD ma loc mh fun x h1=>∃ k,fG x h1=some k/\B k h1):wD (Mp ma) loc mh B:=by
 obtain ⟨x,h1,e,k,ek,q⟩:=h;exact ⟨k,h1,by rw [tO,e];dsimp only;rw [ek],q⟩
theorem tY (h:wD ma loc mh fun x h1=>∃ k,x=.bl k/\P (.bl (!k)) h1):wD (tM ma) loc mh P:=Ca (Kp (Bb h fun _ _ ⟨k,e,q⟩=>⟨k,e,Fx q⟩))
theorem tZ (h:wD t loc mh fun k h1=>B (!k) h1):wD (Yt t) loc mh B:=Ca (Bb h fun _ _ q=>Fx q)
theorem Sx (h:wD t loc mh fun k h1=>(k=true->wD u loc h1 B)/\(k=false->B false h1)):wD (Gg t u) loc mh B:=Ca (Bb h fun k _ q=>by
 cases k with
 | true=>exact q.1 rfl
 | false=>exact Fx (q.2 rfl))
theorem Aaw (h:wD t loc mh fun k h1=>(k=true->B true h1)/\(k=false->wD u loc h1 B)):wD (W5 t u) loc mh B:=Ca (Bb h fun k _ q=>by
 cases k with
 | true=>exact Fx (q.1 rfl)
 | false=>exact q.2 rfl)
theorem uD (h:wD ma loc mh fun x h1=>∃ k,x=.bl k/\(k=true->wD mb loc h1 P)/\(k=false->P (.bl false) h1)):wD (J4 ma mb) loc mh P:=Ca (Kp (Bb h fun _ _ ⟨k,e,q⟩=>⟨k,e,by
 cases k with
 | true=>exact q.1 rfl
 | false=>exact Fx (q.2 rfl)⟩))
theorem Aed (h:wD t loc mh fun k h1=>(k=true->wD ma loc h1 P)/\(k=false->wD mb loc h1 P)):wD (dIf t ma mb) loc mh P:=Ca (Bb h fun k _ q=>by
 cases k with
 | true=>exact q.1 rfl
 | false=>exact q.2 rfl)
theorem Sy {T:String}{f:D->List D->MH->Option (D×MH)}(h:wD ma loc mh fun x h1=>Rx T x h1=true/\wD mr loc h1 fun ds h2=>wV (f x ds h2) P):wD (Bv T f ma mr) loc mh P:=by
 obtain ⟨x,h1,e1,ht,ds,h2,e2,d,h3,e3,p⟩:=h;exact ⟨d,h3,by rw [kI,e1];dsimp only;rw [if_pos ht,e2];exact e3,p⟩
theorem lJ {O:Option Int->MH->Prop}(h:O none mh):wD (J6 none) loc mh O:=⟨none,mh,rfl,h⟩
theorem lK {O:Option Int->MH->Prop}(h:wD ma loc mh fun x h1=>∃ i,x=.int i/\O (some i) h1):wD (J6 (some ma)) loc mh O:=by
 obtain ⟨x,h1,e,i,rfl,q⟩:=h;exact ⟨some i,h1,by rw [kW,e],q⟩
theorem Aee {ml mu:Option (DM D)}(h:wD ma loc mh fun x h1=>wD (J6 ml) loc h1 fun l h2=>wD (J6 mu) loc h2 fun r h3=>wV (slD x l r h3) P):wD (dSl ma ml mu) loc mh P :=
 Ca (Bb h fun _ _ q=>Ca (Bb q fun _ _ z=>Ca (Bb z fun _ _ w=>w)))
theorem Aax {R:Src->MH->Prop}(h:wD ma loc mh fun x h1=>∃ s,srcOf x h1=some s/\R s h1):wD (Dc ma) loc mh R:=by
 obtain ⟨x,h1,e,s,es,q⟩:=h;exact ⟨s,h1,by rw [tU,e];dsimp only;rw [es],q⟩
theorem uE {R:Src->MH->Prop}(h:wD ma loc mh fun x h1=>∃ s,srcOf x h1=some s/\R (.enum s) h1):wD (Kd ma) loc mh R:=by
 obtain ⟨x,h1,e,s,es,q⟩:=h;exact ⟨.enum s,h1,by rw [kY,e];dsimp only;rw [es],q⟩
theorem Aay {R:Src->MH->Prop}{f:List D->Option Src}(h:wD mr loc mh fun ds h1=>∃ s,f ds=some s/\R s h1):wD (Ht f mr) loc mh R:=by
 obtain ⟨x,h1,e,s,es,q⟩:=h;exact ⟨s,h1,by rw [tV,e];dsimp only;rw [es],q⟩
end
noncomputable def U5 (m2:SM) (P:Fl->DL.Loc->MH->Prop) (f:Fl) (l:DL.Loc) (h:MH):Prop:=match f with
 | .nx=>wS m2 l h P
 | f=>P f l h
section
variable {loc l:DL.Loc}{mh h1:MH}{me:DM D}{m1 m2:SM}{g:GM}{t:DM Bool}{P:Fl->DL.Loc->MH->Prop}
theorem Zk {m:SM}{P Q:Fl->DL.Loc->MH->Prop}(h:wS m loc mh P) (i:∀ f l h,P f l h->Q f l h):wS m loc mh Q:=let ⟨f,l,h',e,p⟩:=h;⟨f,l,h',e,i f l h' p⟩
theorem Ie (h:wS m1 loc mh (U5 m2 P)):wS (Ab m1 m2) loc mh P:=by
 obtain ⟨f,l,h1,e,q⟩:=h;cases f with
 | nx =>
  obtain ⟨f',l',h',e',p⟩:=q;exact ⟨f',l',h',by rw [Zi,e];exact e',p⟩
 | _=>exact ⟨_,l,h1,by rw [Zi,e],q⟩
theorem Bp (h:wS m2 l h1 P):U5 m2 P .nx l h1:=h
theorem uF {d:D}(h:P (.rt d) l h1):U5 m2 P (.rt d) l h1:=h
theorem Dz (h:P .nx loc mh):wS Zn loc mh P:=⟨_,_,_,rfl,h⟩
theorem lM (h:wD me loc mh fun d h1=>wG (g d loc h1) fun l h2=>P .nx l h2):wS (Ag me g) loc mh P:=by
 obtain ⟨d,h1,e1,l,h2,e2,p⟩:=h;exact ⟨.nx,l,h2,by rw [tQ,e1];dsimp only;rw [e2],p⟩
theorem lN (h:wD me loc mh fun d h1=>P (.rt d) loc h1):wS (retS me) loc mh P:=by
 obtain ⟨d,h1,e1,p⟩:=h;exact ⟨.rt d,loc,h1,by rw [tR,e1],p⟩
theorem uG (h:wD me loc mh fun _ h1=>P .nx loc h1):wS (Ej me) loc mh P:=by
 obtain ⟨d,h1,e1,p⟩:=h;exact ⟨.nx,loc,h1,by rw [kO,e1],p⟩
theorem V2 (h:wD t loc mh fun k h1=>(k=true->wS m1 loc h1 P)/\(k=false->wS m2 loc h1 P)):wS (ifS t m1 m2) loc mh P:=by
 obtain ⟨k,h1,e1,a,b⟩:=h;cases k with
 | true =>
  obtain ⟨f,l,h',e,p⟩:=a rfl;exact ⟨f,l,h',by rw [kJ,e1];exact e,p⟩
 | false =>
  obtain ⟨f,l,h',e,p⟩:=b rfl;exact ⟨f,l,h',by rw [kJ,e1];exact e,p⟩
theorem Ig {i:Nat}{d:D}{R:DL.Loc->MH->Prop}(h:R (loc.set i (some d)) mh):wG (Ae i d loc mh) R:=⟨_,_,rfl,h⟩
theorem S5 {is:List Nat}{ds:List D}{R:DL.Loc->MH->Prop}(hl:ds.length=is.length) (h:R (Nk is ds loc) mh):wG (J8 is (.tup ds) loc mh) R:=⟨_,_,if_pos hl,h⟩
theorem Aaz {mo mi:DM D}{v:D}{R:DL.Loc->MH->Prop}(h:wD mo loc mh fun o h1=>wD mi loc h1 fun i h2=>∃ h3,Ui o i v h2=some h3/\R loc h3):wG (Hw mo mi v loc mh) R:=by
 obtain ⟨o,h1,e1,i,h2,e2,h3,e3,p⟩:=h;refine ⟨loc,h3,?_,p⟩;unfold Hw;rw [e1];dsimp only;rw [e2];dsimp only;rw [e3]
theorem G3 {n:Nat}{ds:List D}{k:Nat}{v:D}{h:MH}(e:h[n]?=some (.lst ds)) (hk:k < ds.length):Ui (.ref n) (.int k) v h=some (h.set n (.lst (ds.set k v))):=by
 have e2:ixN ds.length (k:Int)=some k:=by unfold ixN;rw [if_pos (by omega),if_pos (by omega)];simp
 simp only [Ui,e,e2]
noncomputable def Aa0 (J:DL.Loc->MH->Prop) (P:Fl->DL.Loc->MH->Prop) (f:Fl) (l:DL.Loc) (h:MH):Prop:=match f with
 | .nx=>J l h
 | .ct=>J l h
 | .bk=>P .nx l h
 | .rt d=>P (.rt d) l h
theorem X7 {src:Src}{ds:List D}{body:SM}(J:Nat->DL.Loc->MH->Prop) (keep:∀ i l h,J i l h->src.ok h=true/\src.items h=ds)
  (step:∀ i d l h,ds[i]?=some d->J i l h->wG (g d l h) fun l1 h1=>wS body l1 h1 (Aa0 (J (i+1)) P)) (fin:∀ l h,J ds.length l h->P .nx l h) :
  ∀ (k i:Nat) (l:DL.Loc) (h:MH),i+k=ds.length->J i l h->wS (Mq src g body k i) l h P
 | 0,i,l,h,e,j=>by
  have e:i=ds.length:=by omega
  subst e;have s:src.stop h ds.length=true:=by
   unfold Src.stop;rw [(keep _ _ _ j).1,(keep _ _ _ j).2,Bool.true_and];exact decide_eq_true (Nat.le_refl _)
  exact ⟨.nx,l,h,by simp only [Mq,s,if_true],fin _ _ j⟩
 | k+1,i,l,h,e,j=>by
  have hi:i < ds.length:=by omega
  have eg:src.get h i=some ds[i]:=by
   unfold Src.get;rw [(keep _ _ _ j).2,List.getElem?_eq_getElem hi]
  obtain ⟨l1,h1,e1,f,l2,h2,e2,q⟩:=step i ds[i] l h (List.getElem?_eq_getElem hi) j;cases f with
  | nx =>
   obtain ⟨f',l',h',e',p⟩:=X7 J keep step fin k (i+1) l2 h2 (by omega) q;exact ⟨f',l',h',by simp only [Mq,eg,e1,e2];exact e',p⟩
  | ct =>
   obtain ⟨f',l',h',e',p⟩:=X7 J keep step fin k (i+1) l2 h2 (by omega) q;exact ⟨f',l',h',by simp only [Mq,eg,e1,e2];exact e',p⟩
  | bk=>exact ⟨.nx,l2,h2,by simp only [Mq,eg,e1,e2],q⟩
  | rt d=>exact ⟨.rt d,l2,h2,by simp only [Mq,eg,e1,e2],q⟩
theorem Cu {mi:DM Src}{body:SM}(h:wD mi loc mh fun src h0=>∃ ds,∃ J:Nat->DL.Loc->MH->Prop,J 0 loc h0/\(∀ i l h,J i l h->src.ok h=true/\src.items h=ds) /\
  (∀ i d l h,ds[i]?=some d->J i l h->wG (g d l h) fun l1 h1=>wS body l1 h1 (Aa0 (J (i+1)) P))/\∀ l h,J ds.length l h->P .nx l h):wS (Gr mi g body) loc mh P:=by
 obtain ⟨src,h0,e,ds,J,j0,keep,step,fin⟩:=h;have el:(src.items h0).length=ds.length:=by rw [(keep _ _ _ j0).2]
 obtain ⟨f,l,h',e',p⟩:=X7 J keep step fin ds.length 0 loc h0 (by omega) j0;refine ⟨f,l,h',?_,p⟩;unfold Gr;rw [e];dsimp only;rw [el];exact e'
theorem S6 {src:Src}{ds:List D}{tc:DM Bool}{e:DM D}{R:List D->MH->Prop}(J:Nat->List D->MH->Prop) (keep:∀ i acc h,J i acc h->src.ok h=true/\src.items h=ds) (hz:ds.length<=1000000) (small:∀ i acc h,J i acc h->acc.length<=i)
  (step:∀ i d acc h,ds[i]?=some d->J i acc h->wG (g d loc h) fun l1 h1=>wD tc l1 h1 fun c h2=>(c=true->wD e l1 h2 fun y h3=>J (i+1) (acc++[y]) h3)/\(c=false->J (i+1) acc h2)) (fin:∀ acc h,J ds.length acc h->R acc h) :
  ∀ (k i:Nat) (acc:List D) (h:MH),i+k=ds.length->J i acc h->∃ acc' h',Dq src g tc e loc k i acc h=some (acc',h')/\R acc' h'
 | 0,i,acc,h,q,j=>by
  have q:i=ds.length:=by omega
  subst q;have s:src.stop h ds.length=true:=by
   unfold Src.stop;rw [(keep _ _ _ j).1,(keep _ _ _ j).2,Bool.true_and];exact decide_eq_true (Nat.le_refl _)
  exact ⟨acc,h,by simp only [Dq,s,if_true],fin _ _ j⟩
 | k+1,i,acc,h,q,j=>by
  have hi:i < ds.length:=by omega
  have eg:src.get h i=some ds[i]:=by
   unfold Src.get;rw [(keep _ _ _ j).2,List.getElem?_eq_getElem hi]
  obtain ⟨l1,h1,e1,c,h2,e2,a,b⟩:=step i ds[i] acc h (List.getElem?_eq_getElem hi) j;cases c with
  | true =>
   obtain ⟨y,h3,e3,j3⟩:=a rfl;obtain ⟨acc',h',e',p⟩:=S6 J keep hz small step fin k (i+1) _ h3 (by omega) j3;have hl:acc.length < sizeLine:=lt_size (by have:=small _ _ _ j;omega);exact ⟨acc',h',by simp only [Dq,eg,e1,e2,if_true,e3,if_pos hl];exact e',p⟩
  | false =>
   obtain ⟨acc',h',e',p⟩:=S6 J keep hz small step fin k (i+1) _ h2 (by omega) (b rfl);exact ⟨acc',h',by simp only [Dq,eg,e1,e2,Bool.false_eq_true,if_false];exact e',p⟩
theorem Iz {mi:DM Src}{cs:List (Option Nat)}{tc:DM Bool}{e:DM D}{Q:D->MH->Prop}(h:wD mi loc mh fun src h0=>∃ ds,∃ J:Nat->List D->MH->Prop,ds.length<=1000000/\J 0 [] h0/\(∀ i acc h,J i acc h->src.ok h=true/\src.items h=ds)/\(∀ i acc h,J i acc h->acc.length<=i) /\
  (∀ i d acc h,ds[i]?=some d->J i acc h->wG (g d (G7 cs loc) h) fun l1 h1=>wD tc l1 h1 fun c h2=>(c=true->wD e l1 h2 fun y h3=>J (i+1) (acc++[y]) h3)/\(c=false->J (i+1) acc h2)) /\
  ∀ acc h,J ds.length acc h->Q (.ref h.length) (h++[.lst acc])):wD (Bo mi cs g tc e) loc mh Q:=by
 obtain ⟨src,h0,e0,ds,J,hz,j0,keep,small,step,fin⟩:=h;have el:(src.items h0).length=ds.length:=by rw [(keep _ _ _ j0).2]
 obtain ⟨acc,h',e',p⟩:=S6 J keep hz small step fin ds.length 0 [] h0 (by omega) j0;refine ⟨.ref h'.length,h'++[.lst acc],?_,p⟩;unfold Bo;rw [e0];dsimp only;rw [el,e']
end
noncomputable def whK (J:Nat->DL.Loc->MH->Prop) (n:Nat) (P:Fl->DL.Loc->MH->Prop) (f:Fl) (l:DL.Loc) (h:MH):Prop:=match f with
 | .nx=>∃ m,m < n/\J m l h
 | .ct=>∃ m,m < n/\J m l h
 | .bk=>P .nx l h
 | .rt d=>P (.rt d) l h
theorem Ox {t:DM Bool}{body:SM}{P:Fl->DL.Loc->MH->Prop}{J:Nat->DL.Loc->MH->Prop}(step:∀ n l h,J n l h->wD t l h fun b h1=>(b=true->wS body l h1 (whK J n P))/\(b=false->P .nx l h1)):∀ (K n:Nat) (loc:DL.Loc) (mh:MH),n < K->J n loc mh->wS (Eo t body K) loc mh P
 | 0,_,_,_,h,_=>absurd h (Nat.not_lt_zero _)
 | K+1,n,loc,mh,hn,j=>by
  obtain ⟨b,h1,et,q⟩:=step n loc mh j;cases b with
  | false=>exact ⟨.nx,loc,h1,by simp only [Eo,et],q.2 rfl⟩
  | true =>
   obtain ⟨f,l,h2,eb,p⟩:=q.1 rfl;cases f with
   | nx =>
    obtain ⟨m,hm,jm⟩:=p;obtain ⟨f3,l3,h3,e3,p3⟩:=Ox step K m l h2 (by omega) jm;exact ⟨f3,l3,h3,by simp only [Eo,et,eb];exact e3,p3⟩
   | ct =>
    obtain ⟨m,hm,jm⟩:=p;obtain ⟨f3,l3,h3,e3,p3⟩:=Ox step K m l h2 (by omega) jm;exact ⟨f3,l3,h3,by simp only [Eo,et,eb];exact e3,p3⟩
   | bk=>exact ⟨.nx,l,h2,by simp only [Eo,et,eb],p⟩
   | rt d=>exact ⟨.rt d,l,h2,by simp only [Eo,et,eb],p⟩
theorem lO {t:DM Bool}{body:SM}{loc:DL.Loc}{mh:MH}{P:Fl->DL.Loc->MH->Prop}(J:Nat->DL.Loc->MH->Prop) (n:Nat) (hn:n < 1000000) (j0:J n loc mh) (step:∀ n l h,J n l h->wD t l h fun b h1=>(b=true->wS body l h1 (whK J n P))/\(b=false->P .nx l h1)):wS (Rw t body) loc mh P :=
 Ox step _ n loc mh hn j0
noncomputable def lQ (P:D->MH->Prop) (f:Fl) (_:DL.Loc) (h:MH):Prop:=match f with
 | .rt d=>P d h
 | .nx=>P .non h
 | _=>False
theorem Ai {G:Gb}{n:Nat}{I:FnI}{b:SM}{ds:List D}{mh:MH}{np m:Nat}{P:D->MH->Prop}(hb:iSs G n { N:=I.N,scope:=I.scope,own:=fun _=>true } I.body=b) (hp:I.ps.length=np) (hN:I.N.length=m) (hl:ds.length=np)
  (h:wS b (ds.map some++List.replicate (m - np) none) mh (lQ P)):wV (Af G n I ds mh) P:=by
 obtain ⟨f,l,h',e,p⟩:=h;cases f with
 | rt d=>exact ⟨d,h',by unfold Af;rw [if_pos (by rw [hp];exact hl),hb,hN,hl,e],p⟩
 | nx=>exact ⟨.non,h',by unfold Af;rw [if_pos (by rw [hp];exact hl),hb,hN,hl,e],p⟩
 | bk=>exact p.elim
 | ct=>exact p.elim
section
variable {mh:MH}{P:D->MH->Prop}
theorem Bh {r:Option (D×MH)}{d:D}{h:MH}(e:r=some (d,h)) (p:P d h):wV r P:=⟨d,h,e,p⟩
theorem Ih {C:Int->Int->Bool}{g:Int->Int->Int}{i j:Int}(hC:C i j=true) (h:P (.int (g i j)) mh):wV (iop C g (.int i) (.int j) mh) P:=⟨_,_,by rw [kZ,if_pos hC],h⟩
theorem Aa1 {i j:Int}(h:P (.int (i - j)) mh):wV (Ge (.int i) (.int j) mh) P:=Ih rfl h
theorem Ea {i j:Int}(hj:j≠0) (h:P (.int (i.fmod j)) mh):wV (Ar (.int i) (.int j) mh) P:=Ih (decide_eq_true hj) h
theorem Kq {i j:Int}(hj:j≠0) (hb:j.natAbs < 10889035741470030830827987437816582766592) (h:P (.int (i.fdiv j)) mh):wV (Ao (.int i) (.int j) mh) P:=Ih (by rw [decide_eq_true hj,decide_eq_true hb];rfl) h
theorem Eb {i j:Int}(hb:(-(2 ^ 64) < i/\i < 2 ^ 64)\/(-(2 ^ 64) < j/\j < 2 ^ 64)) (h:P (.int (i * j)) mh):wV (Jy (.int i) (.int j) mh) P:=show wV (iop Vl (fun i j=>i * j) (.int i) (.int j) mh) P from Ih (by unfold Vl;rw [Bool.or_eq_true,decide_eq_true_iff,decide_eq_true_iff];exact hb) h
theorem S7 {g:Int->Int->Bool}{i j:Int}(h:P (.bl (g i j)) mh):wV (Pj g (.int i) (.int j) mh) P:=⟨_,_,rfl,h⟩
theorem Aa2 {i j:Int}(h:P (.int (i+j)) mh):wV (Ay (.int i) (.int j) mh) P:=⟨_,_,rfl,h⟩
theorem Aa3 {i j:Int}(h:P (.bl (i==j)) mh):wV (eqD (.int i) (.int j) mh) P:=⟨_,_,rfl,h⟩
theorem Aa4 {i j:Int}(h:P (.bl (!(i==j))) mh):wV (neD (.int i) (.int j) mh) P:=⟨_,_,rfl,h⟩
theorem lU {x y:D}{k:Bool}(e:eqB mh x y=some k) (h:P (.bl k) mh):wV (eqD x y mh) P:=⟨_,_,by unfold eqD;rw [e],h⟩
theorem uH {x y:D}{k:Bool}(e:inB mh x y=some k):Jl y mh=none:=by
 cases q:Jl y mh with
 | none=>rfl
 | some kvs =>
  obtain ⟨n,rfl,en⟩:=Ol q;have p:py mh 60 (.ref n)=none:=by
   show (match mh[n]? with | some (.lst o)=>(match Cr (py mh 59) o with | some xs=>some (PyData.list xs) | none=>none) | _=>none)=_;rw [en]
  unfold inB at e;rw [p] at e;split at e
  ·rename_i z;cases z
  ·rename_i z;cases z
  ·cases e
theorem Dv {neg:Bool}{x y:D}{k:Bool}(e:inB mh x y=some k) (h:P (.bl (if neg then !k else k)) mh):wV (inD neg x y mh) P:=⟨_,_,by unfold inD;rw [uH e];dsimp only;unfold qX;rw [e],h⟩
theorem Ja {n m:Nat}{xs ys:List D}(e1:mh[n]?=some (.lst xs)) (e2:mh[m]?=some (.lst ys)) (hz:xs.length+ys.length<=1000000) (h:P (.ref mh.length) (mh++[.lst (xs++ys)])):wV (Ay (.ref n) (.ref m) mh) P:=⟨_,_,lE e1 e2 hz,h⟩
theorem My {xs ys:List D}(hz:xs.length+ys.length<=1000000) (h:P (.tup (xs++ys)) mh):wV (Ay (.tup xs) (.tup ys) mh) P:=⟨_,_,by simp only [Ay,if_pos (le_size hz)],h⟩
theorem Ac {ds:List D}{j:Nat}{d:D}(e:ds[j]?=some d) (h:P d mh):wV (ixD (.tup ds) (.int j) mh) P:=⟨d,mh,by simp only [ixD,Jl,aF,Eu,Ri e],h⟩
theorem Aa5 {ds:List D}{j:Nat}{d:D}(e:ds[j]?=some d) (h:P d mh):wV (ixD (.rol ds) (.int j) mh) P:=⟨d,mh,by simp only [ixD,Jl,aF,Eu,Ri e],h⟩
theorem Bl {n:Nat}{ds:List D}{j:Nat}{d:D}(e1:mh[n]?=some (.lst ds)) (e:ds[j]?=some d) (h:P d mh):wV (ixD (.ref n) (.int j) mh) P:=⟨d,mh,by simp only [ixD,Qy e1,aF,Eu,e1,Ri e],h⟩
theorem Dd {n:Nat}{ds:List D}{y:D}(e:mh[n]?=some (.lst ds)) (hz:ds.length<=1000000) (h:P .non (mh.set n (.lst (ds++[y])))):wV (Cg (.ref n) [y] mh) P:=⟨_,_,X5 e hz,h⟩
theorem lV {n k:Nat}{ds:List D}{y:D}(e:mh[n]?=some (.lst ds)) (hy:ds[k]?=some y) (hz:ds.length<=1000000) (h:P y (mh.set n (.lst (ds.eraseIdx k)))):wV (H9 (.ref n) [.int k] mh) P:=by
 have hk:k < ds.length:=(List.getElem?_eq_some_iff.mp hy).1;have e2:ixN ds.length (k:Int)=some k:=by unfold ixN;rw [if_pos (by omega),if_pos (by omega)];simp
 have hb:-(2 ^ 63)<=(k:Int)/\(k:Int) < 2 ^ 63:=by omega
 exact ⟨_,_,by simp only [H9,e,if_pos hb,e2,hy],h⟩
theorem Fy {x:D}{ds:List D}(hx:∀ z,x≠.str z) (e:Eu x mh=some ds) (h:P (.int ds.length) mh):wV (G5 [x] mh) P:=by
 refine ⟨_,_,?_,h⟩;cases x with
 | str z=>exact (hx z rfl).elim
 | _=>simp only [G5,e]
theorem Fd {x:D}{ds:List D}(e:Eu x mh=some ds) (h:P (.ref mh.length) (mh++[.lst ds])):wV (Ji [x] mh) P:=⟨_,_,by simp only [Ji,e],h⟩
theorem Be {x:D}{ds:List D}(e:Eu x mh=some ds) (h:P (.tup ds) mh):wV (Bt [x] mh) P:=⟨_,_,by simp only [Bt,e],h⟩
end
structure Ext (W:List Nat) (a b:MH):Prop where
 len:a.length<=b.length
 old:∀ i o,i ∉ W->a[i]?=some o->b[i]?=some o
theorem Ext.refl {W:List Nat}{a:MH}:Ext W a a:=⟨Nat.le_refl _,fun _ _ _ e=>e⟩
theorem Ext.trans {W:List Nat}{a b c:MH}(x:Ext W a b) (y:Ext W b c):Ext W a c:=⟨Nat.le_trans x.len y.len,fun i o h e=>y.old i o h (x.old i o h e)⟩
theorem Ext.weak {W:List Nat}{a b:MH}(x:Ext [] a b):Ext W a b:=⟨x.len,fun i o _ e=>x.old i o (by simp) e⟩
theorem Ext.more {W:List Nat}{a g:MH}:Ext W a (a++g):=⟨by rw [List.length_append];omega,fun i o _ e=>by rw [List.getElem?_append_left (List.getElem?_eq_some_iff.mp e).1];exact e⟩
theorem Ext.set {n:Nat}{a:MH}{o:MO}:Ext [n] a (a.set n o):=⟨by rw [List.length_set];exact Nat.le_refl _,fun i o' h e=>by rw [List.getElem?_set_ne (fun z=>h (by simp [z]))];exact e⟩
theorem Ext.setNew {W:List Nat}{n:Nat}{a b:MH}{o:MO}(x:Ext W a b) (h:a.length<=n):Ext W a (b.set n o):=⟨by rw [List.length_set];exact x.len,fun i o' hi e=>by
 have:i < a.length:=(List.getElem?_eq_some_iff.mp e).1
 rw [List.getElem?_set_ne (by omega)];exact x.old i o' hi e⟩
theorem Ad {a:MH}{o:MO}:(a++[o])[a.length]?=some o:=by rw [List.getElem?_append_right (Nat.le_refl _),Nat.sub_self];rfl
theorem Hh {a:MH}{n:Nat}{o o':MO}(h:a[n]?=some o'):(a.set n o)[n]?=some o:=by
 rw [List.getElem?_set];simp [(List.getElem?_eq_some_iff.mp h).1]
theorem lW {a b:Str}{k:Bool}(ha:PyData.strOk a=true) (hb:PyData.strOk b=true) (e:(a==b)=k) (mh:MH):eqB mh (.str a) (.str b)=some k:=by
 unfold eqB;simp only [py,if_pos ha,if_pos hb,PyData.eqv,e]
theorem Zm (mh:MH) (n:Nat):∀ {ws:List Str},(ws.all PyData.strOk)=true->Cr (py mh n) (ws.map D.str)=some (ws.map PyData.str)
 | [],_=>rfl
 | w::r,h=>by
  rw [List.all_cons,Bool.and_eq_true] at h;have e:py mh n (.str w)=some (.str w):=by cases n <;> (show (if PyData.strOk w=true then some (PyData.str w) else none)=_;rw [if_pos h.1])
  simp only [List.map_cons,Cr,e,Zm mh n h.2]
theorem V3 (w:Str):∀ (ws:List Str),((ws.map PyData.str).any fun y=>PyData.eqv y (.str w))=ws.any (·==w)
 | []=>rfl
 | a::r=>by
  rw [List.map_cons,List.any_cons,List.any_cons,V3 w r];rfl
theorem Df {w:Str}{ws:List Str}(hw:PyData.strOk w=true) (h:(ws.all PyData.strOk)=true) (mh:MH):inB mh (.str w) (.tup (ws.map D.str))=some (ws.any (·==w)):=by
 have e1:py mh 60 (.str w)=some (.str w):=by show (if PyData.strOk w=true then some (PyData.str w) else none)=_;rw [if_pos hw]
 have e2:py mh 60 (.tup (ws.map D.str))=some (.tuple (ws.map PyData.str)):=by
  show (match Cr (py mh 59) (ws.map D.str) with | some xs=>some (PyData.tuple xs) | none=>none)=_;rw [Zm mh 59 h]
 unfold inB;rw [e1,e2];dsimp only;rw [V3]
section
variable {loc:DL.Loc}{mh:MH}{ma:DM D}{mr:DM (List D)}{P:D->MH->Prop}
theorem X8 {T1 T2:String}{f1 f2:D->List D->MH->Option (D×MH)}(h:wD ma loc mh fun x h1=>(Rx T1 x h1=true/\wD mr loc h1 fun ds h2=>wV (f1 x ds h2) P)\/(Rx T1 x h1=false/\Rx T2 x h1=true/\wD mr loc h1 fun ds h2=>wV (f2 x ds h2) P)):wD (Jk T1 f1 T2 f2 ma mr) loc mh P:=by
 obtain ⟨x,h1,e,q⟩:=h;rcases q with ⟨t,q⟩|⟨t,t2,q⟩
 ·obtain ⟨a,h',e',p⟩:=Sy (T:=T1) (f:=f1) (ma:=ma) (mr:=mr) (loc:=loc) (mh:=mh) (P:=P) ⟨x,h1,e,t,q⟩;exact ⟨a,h',by unfold Jk;rw [e];dsimp only;rw [if_pos t];exact e',p⟩
 ·obtain ⟨a,h',e',p⟩:=Sy (T:=T2) (f:=f2) (ma:=ma) (mr:=mr) (loc:=loc) (mh:=mh) (P:=P) ⟨x,h1,e,t2,q⟩;exact ⟨a,h',by unfold Jk;rw [e];dsimp only;rw [if_neg (by rw [t];simp)];exact e',p⟩
theorem J0 {i j:Int}(h1:0<=j) (h2:j<=1000000) (h3:i.natAbs < 2 ^ 64) (h:P (.int (i ^ j.toNat)) mh):wV (Vu (.int i) (.int j) mh) P:=Ih (by rw [decide_eq_true h1,decide_eq_true h2,decide_eq_true h3];rfl) h
end
noncomputable def lX (x:Str) (me:DM D) (mr:DM (List (Key×D))):DM (List (Key×D)):=me.bnd fun d=>mr.bnd fun r=>Zr ((.inr x,d)::r)
section
variable {loc:DL.Loc}{mh:MH}{ma:DM D}{mr:DM (List D)}{P:D->MH->Prop}
theorem uI {ps:DM (List (Key×D))}(h:wD ps loc (mh++[.dct []]) fun kds m2=>m2[mh.length]?=some (.dct [])/\kds.length<=15/\P (.ref mh.length) (m2.set mh.length (.dct (Gs [] kds)))):wD (Om ps) loc mh P:=by
 obtain ⟨kds,m2,e,e1,e2,p⟩:=h;exact ⟨_,_,by unfold Om;rw [e];dsimp only;rw [e1];dsimp only;rw [if_pos e2],p⟩
theorem Oz {ps:DM (List (Key×D))}{kds:List (Key×D)}(e:∀ h,ps loc h=some (kds,h)) (hk:kds.length<=15) (h:P (.ref mh.length) (mh++[.dct (Gs [] kds)])):wD (Om ps) loc mh P :=
 uI ⟨kds,_,e _,Ad,hk,by
  have:(mh++[MO.dct []]).set mh.length (.dct (Gs [] kds))=mh++[.dct (Gs [] kds)]:=by
   rw [List.set_append_right _ _ (Nat.le_refl _),Nat.sub_self];rfl
  rw [this];exact h⟩
theorem Yb {neg:Bool}{x:D}{k:Key}{n:Nat}{kvs:List (Key×D)}(e:mh[n]?=some (.dct kvs)) (ek:jH x=some k) (h:P (.bl (if neg then !(Kf kvs k).isSome else (Kf kvs k).isSome)) mh):wV (inD neg x (.ref n) mh) P :=
 ⟨_,_,by unfold inD;rw [Qz e];dsimp only;rw [ek],h⟩
theorem Aa6 {y:D}{k:Key}{n:Nat}{kvs:List (Key×D)}{d:D}(e:mh[n]?=some (.dct kvs)) (ek:jH y=some k) (ed:Kf kvs k=some d) (h:P d mh):wV (ixD (.ref n) y mh) P :=
 ⟨_,_,by unfold ixD;rw [Qz e];dsimp only;rw [ek];dsimp only;rw [ed],h⟩
end
theorem lY {k:Bool}{B:Bool->Prop}(h:B k):∃ j,D.bl k=.bl j/\B j:=⟨k,rfl,h⟩
theorem Aa7 {i:Int}{B:Int->Prop}(h:B i):∃ j,D.int i=.int j/\B j:=⟨i,rfl,h⟩
theorem Aa8 {p q:Prop}(h:p):((true=true)->p)/\((true=false)->q):=⟨fun _=>h,fun z=>by cases z⟩
theorem J1 {p q:Prop}(h:q):((false=true)->p)/\((false=false)->q):=⟨fun z=>(by cases z),fun _=>h⟩
theorem Gi {k:Bool}{p q:Prop}(e:k=true) (h:p):(k=true->p)/\(k=false->q):=⟨fun _=>h,fun z=>by rw [e] at z;cases z⟩
theorem Ds {k:Bool}{p q:Prop}(e:k=false) (h:q):(k=true->p)/\(k=false->q):=⟨fun z=>(by rw [e] at z;cases z),fun _=>h⟩
theorem Ax {k:Bool}{p q:Prop}(h1:k=true->p) (h2:k=false->q):(k=true->p)/\(k=false->q):=⟨h1,h2⟩
theorem Aa9 {k:Bool}{h:MH}{B:Bool->Prop}(q:B k):∃ j,fG (.bl k) h=some j/\B j:=⟨k,rfl,q⟩
theorem Aba {T t:String}{x:D}{b:Bool}{mh:MH}{P:D->MH->Prop}(e1:fO x mh=some t) (e2:zM t T=some b) (h:P (.bl b) mh):wV (Ul T x mh) P:=⟨_,_,by unfold Ul;rw [e1];dsimp only;rw [e2],h⟩
mutual
noncomputable def dat:Nat->D->Bool
 | _,.int _=>true
 | _,.bl _=>true
 | _,.non=>true
 | _,.str x=>PyData.strOk x
 | n+1,.tup ds=>cG n ds
 | _,_=>false
noncomputable def cG:Nat->List D->Bool
 | _,[]=>true
 | n,d::r=>dat n d&&cG n r
end
mutual
theorem lZ (mh:MH):∀ (n:Nat) (d:D),dat n d=true->∃ a,py mh n d=some a/\a.canLay0=true
 | n,.int i,_=>⟨.int i,by cases n <;> rfl,rfl⟩
 | n,.bl i,_=>⟨.bool i,by cases n <;> rfl,rfl⟩
 | n,.non,_=>⟨.none,by cases n <;> rfl,rfl⟩
 | n,.str x,h=>by
  have h2:PyData.strOk x=true:=by cases n <;> exact h
  exact ⟨.str x,by cases n <;> (show (if PyData.strOk x=true then some (PyData.str x) else none)=_;rw [if_pos h2]),h2⟩
 | 0,.tup ds,h=>by simp [dat] at h
 | n+1,.tup ds,h=>by
  have h:cG n ds=true:=h;obtain ⟨as,e,l⟩:=Zo mh n ds h;exact ⟨.tuple as,by simp only [py,e],by simpa [PyData.canLay0] using l⟩
 | 0,.ref _,h=>by simp [dat] at h
 | _+1,.ref _,h=>by simp [dat] at h
 | 0,.rol _,h=>by simp [dat] at h
 | _+1,.rol _,h=>by simp [dat] at h
 | 0,.obj ..,h=>by simp [dat] at h
 | _+1,.obj ..,h=>by simp [dat] at h
 | 0,.fn _,h=>by simp [dat] at h
 | _+1,.fn _,h=>by simp [dat] at h
theorem Zo (mh:MH):∀ (n:Nat) (ds:List D),cG n ds=true->∃ as,Cr (py mh n) ds=some as/\PyData.canLayAll0 as=true
 | n,[],_=>⟨[],rfl,rfl⟩
 | n,d::r,h=>by
  have h:(dat n d&&cG n r)=true:=by simpa [cG] using h
  rw [Bool.and_eq_true] at h;obtain ⟨a,e1,l1⟩:=lZ mh n d h.1;obtain ⟨as,e2,l2⟩:=Zo mh n r h.2;exact ⟨a::as,by simp only [Cr,e1,e2],by simp only [PyData.canLayAll0,l1,l2,Bool.and_self]⟩
end
theorem mC {x:D}(h:dat 60 x=true) (mh:MH):eqB mh x x=some true:=by
 obtain ⟨a,e,l⟩:=lZ mh 60 x h;unfold eqB;rw [e];dsimp only;rw [SeqAt.eqv_refl a l]
theorem eq_refl {x y:D}{mh:MH}{P:D->MH->Prop}(e:x=y) (hx:dat 60 x=true) (h:P (.bl true) mh):wV (eqD x y mh) P:=by
 subst e;exact lU (mC hx mh) h
theorem V4 {n:Nat}{ns:List Int}{mh:MH}{P:D->MH->Prop}(e:mh[n]?=some (.lst (ns.map D.int))) (hz:ns.length < 64) (h:P (.ref mh.length) (mh++[.lst ((sortI ns).map D.int)])):wV (Ew [.ref n] mh) P :=
 ⟨_,_,by show Ew [.ref n] mh=_;simp only [Ew,e,Fp,if_pos hz],h⟩
theorem Yc (ns:List Nat):∃ hs:List Nat,(sortI (ns.map fun n:Nat=>(n:Int))).map D.int=hs.map Bx/\hs.length=ns.length/\∀ x∈hs,x∈ns:=by
 refine ⟨(sortI (ns.map fun n:Nat=>(n:Int))).map Int.toNat,?_,?_,?_⟩
 ·rw [List.map_map];apply List.map_congr_left;intro x hx;have:=(sortI_perm _).mem_iff.mp hx;obtain ⟨n,_,rfl⟩:=List.mem_map.mp this;simp [Bx]
 ·rw [List.length_map,(sortI_perm _).length_eq,List.length_map]
 ·intro x hx;obtain ⟨y,hy,rfl⟩:=List.mem_map.mp hx;have:=(sortI_perm _).mem_iff.mp hy;obtain ⟨n,hn,rfl⟩:=List.mem_map.mp this
  simpa using hn
theorem ty_list {a:Nat}{ds:List D}{mh:MH}(e:mh[a]?=some (.lst ds)):Rx "list" (.ref a) mh=true:=by
 show (true&&(match mh[a]? with | some (.lst _)=>true | _=>false))=true;rw [e];rfl
theorem src_list {a:Nat}{ds:List D}{mh:MH}(e:mh[a]?=some (.lst ds)):srcOf (.ref a) mh=some (.lref a):=by
 show (match mh[a]? with | some (.lst _)=>some (Src.lref a) | _=>none)=_;rw [e]
theorem Jb {a:Nat}{ds:List D}{mh:MH}(e:mh[a]?=some (.lst ds)):(Src.lref a).ok mh=true/\(Src.lref a).items mh=ds:=by
 refine ⟨?_,?_⟩
 ·show (match mh[a]? with | some (.lst _)=>true | _=>false)=true;rw [e]
 ·show (match mh[a]? with | some (.lst o)=>o | _=>[])=_;rw [e]
end DL
namespace Lw
open PySem L2 DL
noncomputable def top (i:Nat):Stmt:=PySem.Challenge.pw_letterall_k47_blind_claims.main.body.getD i (.Pass ⟨0,0,0,0⟩)
noncomputable def f1:FnI:=Bs (top 1)
noncomputable def f2:FnI:=Bs (top 2)
noncomputable def f3:FnI:=Bs (top 3)
noncomputable def f5:FnI:=Bs (top 5)
noncomputable def f6:FnI:=Bs (top 6)
noncomputable def f7:FnI:=Bs (top 7)
noncomputable def f18:FnI:=Bs (top 18)
noncomputable def f21:FnI:=Bs (top 21)
noncomputable def f25:FnI:=Bs (top 25)
noncomputable def f27:FnI:=Bs (top 27)
noncomputable def f28:FnI:=Bs (top 28)
noncomputable def f29:FnI:=Bs (top 29)
noncomputable def f30:FnI:=Bs (top 30)
noncomputable def f31:FnI:=Bs (top 31)
noncomputable def f32:FnI:=Bs (top 32)
noncomputable def f35:FnI:=Bs (top 35)
noncomputable def f36:FnI:=Bs (top 36)
noncomputable def f37:FnI:=Bs (top 37)
noncomputable def f38:FnI:=Bs (top 38)
noncomputable def f40:FnI:=Bs (top 40)
noncomputable def f41:FnI:=Bs (top 41)
noncomputable def f42:FnI:=Bs (top 42)
noncomputable def f43:FnI:=Bs (top 43)
noncomputable def f44:FnI:=Bs (top 44)
noncomputable def f45:FnI:=Bs (top 45)
noncomputable def f46:FnI:=Bs (top 46)
noncomputable def f47:FnI:=Bs (top 47)
noncomputable def f48:FnI:=Bs (top 48)
noncomputable def f49:FnI:=Bs (top 49)
noncomputable def f50:FnI:=Bs (top 50)
noncomputable def f51:FnI:=Bs (top 51)
noncomputable def f52:FnI:=Bs (top 52)
noncomputable def f53:FnI:=Bs (top 53)
noncomputable def f54:FnI:=Bs (top 54)
noncomputable def f55:FnI:=Bs (top 55)
noncomputable def f56:FnI:=Bs (top 56)
noncomputable def f57:FnI:=Bs (top 57)
noncomputable def f58:FnI:=Bs (top 58)
noncomputable def f59:FnI:=Bs (top 59)
noncomputable def mD:List (Str×Stmt):=("has",top 1)::("members",top 2)::("many",top 3)::("is_void",top 5)::("pair_of",top 6)::("cut",top 7)::("higher",top 8)::("lower",top 9)::("has_fallen",top 18)::("hands_of",top 21)::("part",top 25)::("holds",top 27)::("perhaps",top 28)::("letters_of",top 29)::("passes",top 30)::("told_between",top 31)::("put_together",top 32)::("blind",top 35)::("hand_tests",top 36)::("all_within",top 37)::("mark_of",top 38)::("_law_cell_at",top 40)::("_law_mixed",top 41)::("_law_draws",top 42)::("_law_number_step",top 43)::("_law_name_step",top 44)::("_law_step",top 45)::("_law_lead",top 46)::("_law_program",top 47)::("_law_number",top 48)::("_law_letters",top 49)::("_law_world",top 50)::("_law_bounds",top 51)::("_law_hand_test",top 52)::("_law_test",top 53)::("_law_sees",top 54)::("_law_looks",top 55)::("_law_marks",top 56)::("_law_other",top 57)::("_law_pair_of_worlds",top 58)::("law",top 59)::[]
noncomputable def tb (x:Str):Option FnI:=(mD.lookup x).map Bs
theorem mF:jY mD:=⟨Bc ⟨rfl,rfl,rfl,by decide +kernel,by decide +kernel,by decide +kernel,by decide +kernel⟩ fun _ _ _ _ _ _=>ln2 fun _ _=>rfl,Bc ⟨rfl,rfl,rfl,by decide +kernel,by decide +kernel,by decide +kernel,by decide +kernel⟩ fun _ _ _ _ _ _=>ln1 fun _=>rfl,Bc ⟨rfl,rfl,rfl,by decide +kernel,by decide +kernel,by decide +kernel,by decide +kernel⟩ fun _ _ _ _ _ _=>ln1 fun _=>rfl,Bc ⟨rfl,rfl,rfl,by decide +kernel,by decide +kernel,by decide +kernel,by decide +kernel⟩ fun _ _ _ _ _ _=>ln1 fun _=>rfl,Bc ⟨rfl,rfl,rfl,by decide +kernel,by decide +kernel,by decide +kernel,by decide +kernel⟩ fun _ _ _ _ _ _=>ln1 fun _=>rfl,Bc ⟨rfl,rfl,rfl,by decide +kernel,by decide +kernel,by decide +kernel,by decide +kernel⟩ fun _ _ _ _ _ _=>ln2 fun _ _=>rfl,Bc ⟨rfl,rfl,rfl,by decide +kernel,by decide +kernel,by decide +kernel,by decide +kernel⟩ fun _ _ _ _ _ _=>ln2 fun _ _=>rfl,Bc ⟨rfl,rfl,rfl,by decide +kernel,by decide +kernel,by decide +kernel,by decide +kernel⟩ fun _ _ _ _ _ _=>ln2 fun _ _=>rfl,Bc ⟨rfl,rfl,rfl,by decide +kernel,by decide +kernel,by decide +kernel,by decide +kernel⟩ fun _ _ _ _ _ _=>ln1 fun _=>rfl,Bc ⟨rfl,rfl,rfl,by decide +kernel,by decide +kernel,by decide +kernel,by decide +kernel⟩ fun _ _ _ _ _ _=>ln2 fun _ _=>rfl,Bc ⟨rfl,rfl,rfl,by decide +kernel,by decide +kernel,by decide +kernel,by decide +kernel⟩ fun _ _ _ _ _ _=>ln2 fun _ _=>rfl,Bc ⟨rfl,rfl,rfl,by decide +kernel,by decide +kernel,by decide +kernel,by decide +kernel⟩ fun _ _ _ _ _ _=>ln3 fun _ _ _=>rfl,Bc ⟨rfl,rfl,rfl,by decide +kernel,by decide +kernel,by decide +kernel,by decide +kernel⟩ fun _ _ _ _ _ _=>ln3 fun _ _ _=>rfl,Bc ⟨rfl,rfl,rfl,by decide +kernel,by decide +kernel,by decide +kernel,by decide +kernel⟩ fun _ _ _ _ _ _=>ln2 fun _ _=>rfl,Bc ⟨rfl,rfl,rfl,by decide +kernel,by decide +kernel,by decide +kernel,by decide +kernel⟩ fun _ _ _ _ _ _=>ln2 fun _ _=>rfl,Bc ⟨rfl,rfl,rfl,by decide +kernel,by decide +kernel,by decide +kernel,by decide +kernel⟩ fun _ _ _ _ _ _=>ln3 fun _ _ _=>rfl,Bc ⟨rfl,rfl,rfl,by decide +kernel,by decide +kernel,by decide +kernel,by decide +kernel⟩ fun _ _ _ _ _ _=>ln2 fun _ _=>rfl,Bc ⟨rfl,rfl,rfl,by decide +kernel,by decide +kernel,by decide +kernel,by decide +kernel⟩ fun _ _ _ _ _ _=>ln4 fun _ _ _ _=>rfl,Bc ⟨rfl,rfl,rfl,by decide +kernel,by decide +kernel,by decide +kernel,by decide +kernel⟩ fun _ _ _ _ _ _=>ln2 fun _ _=>rfl,Bc ⟨rfl,rfl,rfl,by decide +kernel,by decide +kernel,by decide +kernel,by decide +kernel⟩ fun _ _ _ _ _ _=>ln1 fun _=>rfl,Bc ⟨rfl,rfl,rfl,by decide +kernel,by decide +kernel,by decide +kernel,by decide +kernel⟩ fun _ _ _ _ _ _=>ln1 fun _=>rfl,Bc ⟨rfl,rfl,rfl,by decide +kernel,by decide +kernel,by decide +kernel,by decide +kernel⟩ fun _ _ _ _ _ _=>ln2 fun _ _=>rfl,Bc ⟨rfl,rfl,rfl,by decide +kernel,by decide +kernel,by decide +kernel,by decide +kernel⟩ fun _ _ _ _ _ _=>ln2 fun _ _=>rfl,Bc ⟨rfl,rfl,rfl,by decide +kernel,by decide +kernel,by decide +kernel,by decide +kernel⟩ fun _ _ _ _ _ _=>ln3 fun _ _ _=>rfl,Bc ⟨rfl,rfl,rfl,by decide +kernel,by decide +kernel,by decide +kernel,by decide +kernel⟩ fun _ _ _ _ _ _=>ln3 fun _ _ _=>rfl,Bc ⟨rfl,rfl,rfl,by decide +kernel,by decide +kernel,by decide +kernel,by decide +kernel⟩ fun _ _ _ _ _ _=>ln4 fun _ _ _ _=>rfl,Bc ⟨rfl,rfl,rfl,by decide +kernel,by decide +kernel,by decide +kernel,by decide +kernel⟩ fun _ _ _ _ _ _=>ln3 fun _ _ _=>rfl,Bc ⟨rfl,rfl,rfl,by decide +kernel,by decide +kernel,by decide +kernel,by decide +kernel⟩ fun _ _ _ _ _ _=>ln3 fun _ _ _=>rfl,Bc ⟨rfl,rfl,rfl,by decide +kernel,by decide +kernel,by decide +kernel,by decide +kernel⟩ fun _ _ _ _ _ _=>ln4 fun _ _ _ _=>rfl,Bc ⟨rfl,rfl,rfl,by decide +kernel,by decide +kernel,by decide +kernel,by decide +kernel⟩ fun _ _ _ _ _ _=>ln1 fun _=>rfl,Bc ⟨rfl,rfl,rfl,by decide +kernel,by decide +kernel,by decide +kernel,by decide +kernel⟩ fun _ _ _ _ _ _=>ln3 fun _ _ _=>rfl,Bc ⟨rfl,rfl,rfl,by decide +kernel,by decide +kernel,by decide +kernel,by decide +kernel⟩ fun _ _ _ _ _ _=>ln2 fun _ _=>rfl,Bc ⟨rfl,rfl,rfl,by decide +kernel,by decide +kernel,by decide +kernel,by decide +kernel⟩ fun _ _ _ _ _ _=>ln3 fun _ _ _=>rfl,Bc ⟨rfl,rfl,rfl,by decide +kernel,by decide +kernel,by decide +kernel,by decide +kernel⟩ fun _ _ _ _ _ _=>ln2 fun _ _=>rfl,Bc ⟨rfl,rfl,rfl,by decide +kernel,by decide +kernel,by decide +kernel,by decide +kernel⟩ fun _ _ _ _ _ _=>ln3 fun _ _ _=>rfl,Bc ⟨rfl,rfl,rfl,by decide +kernel,by decide +kernel,by decide +kernel,by decide +kernel⟩ fun _ _ _ _ _ _=>ln3 fun _ _ _=>rfl,Bc ⟨rfl,rfl,rfl,by decide +kernel,by decide +kernel,by decide +kernel,by decide +kernel⟩ fun _ _ _ _ _ _=>ln4 fun _ _ _ _=>rfl,Bc ⟨rfl,rfl,rfl,by decide +kernel,by decide +kernel,by decide +kernel,by decide +kernel⟩ fun _ _ _ _ _ _=>ln1 fun _=>rfl,Bc ⟨rfl,rfl,rfl,by decide +kernel,by decide +kernel,by decide +kernel,by decide +kernel⟩ fun _ _ _ _ _ _=>ln4 fun _ _ _ _=>rfl,Bc ⟨rfl,rfl,rfl,by decide +kernel,by decide +kernel,by decide +kernel,by decide +kernel⟩ fun _ _ _ _ _ _=>ln6 fun _ _ _ _ _ _=>rfl,Bc ⟨rfl,rfl,rfl,by decide +kernel,by decide +kernel,by decide +kernel,by decide +kernel⟩ fun _ _ _ _ _ _=>ln1 fun _=>rfl,trivial⟩
noncomputable def vQ:List (Str×D):=[("PLACE",(.int (0))),("NUMBERS",(.int (1))),("NAMES",(.int (2))),("SETS",(.int (3))),("BELL",(.int (4))),("NOBODY",(.int (-1))),("FALLEN",(.int (-1))),("HANDS",(.int (3))),("PARTS",(.int (0))),("ROWS",(.int (1)))]
noncomputable def con (x:Str):Option D:=vQ.lookup x
noncomputable def Zq:List (Str×D):=[("number",(.str "number")),("has",(.str "name")),("many",(.str "set"))]
noncomputable def dic (x:Str):Option (List (Str×D)):=if x=="MARKED" then some Zq else none
noncomputable def fld (_ _:Str):Bool:=false
noncomputable def tbm (_ _:Str):Option FnI:=none
noncomputable def mkr (_:Str):Option Str:=none
noncomputable def Tt:Tb:={ tb:=tb,con:=con,dic:=dic,fld:=fld,tbm:=tbm,mkr:=mkr }
theorem vR:f1.ps.length=2/\f1.N.length=2:=by decide +kernel
theorem vU:f2.ps.length=1/\f2.N.length=1:=by decide +kernel
theorem vV:f3.ps.length=1/\f3.N.length=1:=by decide +kernel
theorem mG:f21.ps.length=2/\f21.N.length=2:=by decide +kernel
theorem mH:f25.ps.length=2/\f25.N.length=2:=by decide +kernel
theorem mJ:f27.ps.length=3/\f27.N.length=3:=by decide +kernel
theorem Gu:f28.ps.length=3/\f28.N.length=5:=by decide +kernel
theorem mK:f29.ps.length=2/\f29.N.length=5:=by decide +kernel
theorem Cv:f30.ps.length=2/\f30.N.length=5:=by decide +kernel
theorem mL:f31.ps.length=3/\f31.N.length=4:=by decide +kernel
theorem Lf:f32.ps.length=2/\f32.N.length=3:=by decide +kernel
theorem mO:f35.ps.length=4/\f35.N.length=5:=by decide +kernel
theorem mQ:f36.ps.length=2/\f36.N.length=3:=by decide +kernel
theorem mR:f37.ps.length=1/\f37.N.length=4:=by decide +kernel
theorem mU:f40.ps.length=2/\f40.N.length=2:=by decide +kernel
theorem mV:f41.ps.length=2/\f41.N.length=3:=by decide +kernel
theorem mW:f42.ps.length=3/\f42.N.length=7:=by decide +kernel
theorem mX:f43.ps.length=3/\f43.N.length=8:=by decide +kernel
theorem mY:f44.ps.length=4/\f44.N.length=9:=by decide +kernel
theorem mZ:f45.ps.length=3/\f45.N.length=8:=by decide +kernel
theorem nA:f46.ps.length=3/\f46.N.length=5:=by decide +kernel
theorem nD:f47.ps.length=4/\f47.N.length=14:=by decide +kernel
theorem nF:f48.ps.length=1/\f48.N.length=1:=by decide +kernel
theorem nG:f49.ps.length=3/\f49.N.length=5:=by decide +kernel
theorem nH:f50.ps.length=2/\f50.N.length=18:=by decide +kernel
theorem nJ:f51.ps.length=3/\f51.N.length=4:=by decide +kernel
theorem S8:f52.ps.length=2/\f52.N.length=7:=by decide +kernel
theorem S9:f53.ps.length=3/\f53.N.length=7:=by decide +kernel
theorem Dt:f54.ps.length=3/\f54.N.length=4:=by decide +kernel
theorem Gv:f55.ps.length=4/\f55.N.length=5:=by decide +kernel
theorem nM:f56.ps.length=1/\f56.N.length=2:=by decide +kernel
theorem nO:f57.ps.length=4/\f57.N.length=9:=by decide +kernel
theorem nP:f58.ps.length=6/\f58.N.length=12:=by decide +kernel
theorem nQ:f59.ps.length=1/\f59.N.length=19:=by decide +kernel
theorem Afp {w:World}{K:W.Frag}{h:Heap}{mg:Str->Option Value}(X:K.In h) (G:h.Ns mainGlobals mg){da0:Addr} {es0:Array DictEntry} {ep0:Nat}(rf:Vv K mD)(rb:Vy K Kh)(rc:Vw K vQ)(d0:W.nsIn K mainGlobals "MARKED"=some (some (.ref da0)))(e0:K.lookup da0=some ⟨.type "dict",none,.dict es0 ep0,#[]⟩)(g0:(da0==sysModules)=false)(h0:es0.toList.map (Xq w)=es0.toList)(r0:rdE K 60 es0.toList=some Zq):TbOk w K mg Tt:=by
 refine ⟨fun x I hx=>?_,fun x d hx=>?_,fun b hb=>?_,fun x kvs hx=>?_,fun c f hx=>?_,fun c m I hx=>?_,fun c f hx=>?_⟩
 ·exact Zh X G rf mF hx
 ·show jV K mg x d;change con x=some d at hx;unfold con at hx;exact Vx X G rc hx
 ·exact Vz X G rb b hb
 ·change dic x=some kvs at hx;unfold dic at hx;split at hx
  ·rename_i e;rw [eq_of_beq e];cases hx;exact ⟨_,W.mg_of X G d0,Aab g0 e0 h0 r0⟩
  ·cases hx
 ·cases hx
 ·cases hx
 ·cases hx
noncomputable def Gk (k:Nat):Gb:=GkN Tt k
noncomputable abbrev Bq (I:FnI) (k:Nat):SM:=iSs (Gk (k+1)) fuel {N:=I.N,scope:=I.scope,own:=fun _=>true} I.body
noncomputable def b1 (k:Nat):SM :=
 (Ab (retS (dop eqD (dop vP (dop Ad9 (vr 0) (vr 1)) (Zr (.int 1))) (Zr (.int 1))))
 Zn)
theorem Aef (k:Nat):Bq f1 k=b1 k:=by kernel_rfl
noncomputable def b2 (k:Nat):SM :=
 (Ab (retS (Ak Bt (Aa (Bo (Ht Je (Aa (Bv "int" gC (vr 0) (Zr [])) (Zr []))) [none,none,some 0] (Ae 1) (Mp (Ak (Af (Gk k) fuel f1) (Aa (vr 2) (Aa (vr 1) (Zr []))))) (vr 1)) (Zr []))))
 Zn)
theorem Aeg (k:Nat):Bq f2 k=b2 k:=by kernel_rfl
noncomputable def b3 (k:Nat):SM :=
 (Ab (retS (Ak G5 (Aa (Ak (Af (Gk k) fuel f2) (Aa (vr 0) (Zr []))) (Zr []))))
 Zn)
theorem Aeh (k:Nat):Bq f3 k=b3 k:=by kernel_rfl
noncomputable def b21 (k:Nat):SM :=
 (Ab (retS (Ak Bt (Aa (Bo (Kd (dop ixD (vr 0) (Zr (.int (3))))) [none,none,none,some 1] (J8 [1,2]) (Ah (dop eqD (vr 2) (vr 3))) (vr 1)) (Zr []))))
 Zn)
theorem Abb (k:Nat):Bq f21 k=b21 k:=by kernel_rfl
noncomputable def b25 (k:Nat):SM :=
 (Ab (retS (dop ixD (dop ixD (vr 0) (Zr (.int (0)))) (vr 1)))
 Zn)
theorem Abd (k:Nat):Bq f25 k=b25 k:=by kernel_rfl
noncomputable def b27 (k:Nat):SM :=
 (Ab (retS (Ak (Af (Gk k) fuel f28) (Aa (vr 0) (Aa (vr 1) (Aa (vr 2) (Zr []))))))
 Zn)
theorem Abe (k:Nat):Bq f27 k=b27 k:=by kernel_rfl
noncomputable def b28 (k:Nat):SM :=
 (Ab (Ag (dop ixD (vr 2) (Zr (.int 0))) (Ae 3))
 (Ab (ifS (Ah (dop eqD (vr 3) (Zr (.str "count"))))
 (Ab (Ag (Bo (Dc (Ak (Af (Gk k) fuel f21) (Aa (vr 0) (Aa (dop ixD (vr 2) (Zr (.int 1))) (Zr []))))) [none,none,some 1,some 2] (Ae 1) (Zr true) (Ak (Af (Gk k) fuel f30) (Aa (Ak (Af (Gk k) fuel f25) (Aa (vr 2) (Aa (vr 1) (Zr [])))) (Aa (dop ixD (vr 3) (Zr (.int 2))) (Zr []))))) (Ae 4))
  (Ab (retS (Ak (Af (Gk k) fuel f31) (Aa (Aw (Aa (Jk "tuple" Vm "list" Lz (vr 4) (Aa (Zr (.bl true)) (Zr []))) (Aa (dop Ge (Ak G5 (Aa (vr 4) (Zr []))) (Jk "tuple" Vm "list" Lz (vr 4) (Aa (Zr (.bl false)) (Zr [])))) (Zr [])))) (Aa (dop ixD (vr 2) (Zr (.int 3))) (Aa (dop ixD (vr 2) (Zr (.int 4))) (Zr []))))))
  Zn))
 Zn)
 (Ab (ifS (Ah (dop eqD (vr 3) (Zr (.str "letters"))))
 (Ab (retS (Ak (Af (Gk k) fuel f31) (Aa (Ak (Af (Gk k) fuel f6) (Aa (Ak (Af (Gk k) fuel f29) (Aa (vr 1) (Aa (dop ixD (vr 2) (Zr (.int 1))) (Zr [])))) (Zr []))) (Aa (dop ixD (vr 2) (Zr (.int 2))) (Aa (dop ixD (vr 2) (Zr (.int 3))) (Zr []))))))
  Zn)
 Zn)
 (Ab (retS (Ak (Af (Gk k) fuel f32) (Aa (vr 3) (Aa (Bo (Dc (dSl (vr 2) (some (Zr (.int 1))) none)) [none,none,some 1,some 0] (Ae 1) (Zr true) (Ak (Af (Gk k) fuel f28) (Aa (vr 3) (Aa (vr 2) (Aa (vr 1) (Zr [])))))) (Zr [])))))
 Zn))))
theorem O1 (k:Nat):Bq f28 k=b28 k:=by kernel_rfl
noncomputable def b29 (k:Nat):SM :=
 (Ab (Ag (Zr (.int 0)) (Ae 2))
 (Ab (Gr (Dc (dop ixD (vr 0) (Zr (.int (1))))) (Ae 3)
 (Ab (Gr (Dc (vr 3)) (Ae 4)
  (Ab (Ag (dop Ay (vr 2) (Ak G5 (Aa (Bo (Dc (vr 4)) [none,none,some 1] (Ae 1) (Ah (dop eqD (dop ixD (vr 1) (Zr (.int 0))) (vr 2))) (vr 1)) (Zr [])))) (Ae 2))
   Zn))
  Zn))
 (Ab (retS (vr 2))
 Zn)))
theorem Abf (k:Nat):Bq f29 k=b29 k:=by kernel_rfl
noncomputable def b30 (k:Nat):SM :=
 (Ab (Ag (dop ixD (vr 1) (Zr (.int 0))) (Ae 2))
 (Ab (ifS (Ah (dop eqD (vr 2) (Zr (.str "at"))))
 (Ab (retS (dop eqD (dop ixD (vr 0) (Zr (.int (0)))) (dop ixD (vr 1) (Zr (.int 1)))))
  Zn)
 Zn)
 (Ab (ifS (Ah (dop eqD (vr 2) (Zr (.str "number"))))
 (Ab (Ag (dop ixD (dop ixD (vr 0) (Zr (.int (1)))) (dop ixD (vr 1) (Zr (.int 1)))) (Ae 3))
  (Ab (Ag (dIf (Mp (Aao "tuple" (vr 3))) (vr 3) (Ak (Af (Gk k) fuel f6) (Aa (vr 3) (Zr [])))) (Ae 4))
  (Ab (retS (Ak (Af (Gk k) fuel f31) (Aa (vr 4) (Aa (dop ixD (vr 1) (Zr (.int 2))) (Aa (dop ixD (vr 1) (Zr (.int 3))) (Zr []))))))
  Zn)))
 Zn)
 (Ab (ifS (Ah (dop eqD (vr 2) (Zr (.str "has"))))
 (Ab (retS (dop neD (dop ixD (dop ixD (vr 0) (Zr (.int (2)))) (dop ixD (vr 1) (Zr (.int 1)))) (Zr (.int (-1)))))
  Zn)
 Zn)
 (Ab (ifS (Ah (dop eqD (vr 2) (Zr (.str "many"))))
 (Ab (retS (dop geD (Ak (Af (Gk k) fuel f3) (Aa (dop ixD (dop ixD (vr 0) (Zr (.int (3)))) (dop ixD (vr 1) (Zr (.int 1)))) (Zr []))) (dop ixD (vr 1) (Zr (.int 2)))))
  Zn)
 Zn)
 (Ab (ifS (Ah (dop eqD (vr 2) (Zr (.str "bell"))))
 (Ab (retS (dop ixD (vr 0) (Zr (.int (4)))))
  Zn)
 Zn)
 (Ab (ifS (Ah (dop eqD (vr 2) (Zr (.str "fallen"))))
 (Ab (retS (Ak (Af (Gk k) fuel f18) (Aa (vr 0) (Zr []))))
  Zn)
 Zn)
 (Ab (retS (Ak (Af (Gk k) fuel f32) (Aa (vr 2) (Aa (Bo (Dc (dSl (vr 1) (some (Zr (.int 1))) none)) [none,none,some 0] (Ae 1) (Zr true) (Ak (Af (Gk k) fuel f30) (Aa (vr 2) (Aa (vr 1) (Zr []))))) (Zr [])))))
 Zn))))))))
theorem Hi (k:Nat):Bq f30 k=b30 k:=by kernel_rfl
noncomputable def b31 (k:Nat):SM :=
 (Ab (Ag (Ak (Af (Gk k) fuel f7) (Aa (vr 0) (Aa (Aw (Aa (vr 1) (Aa (vr 2) (Zr [])))) (Zr [])))) (Ae 3))
 (Ab (ifS (Mp (Ak (Af (Gk k) fuel f5) (Aa (vr 3) (Zr []))))
 (Ab (retS (Zr (.bl false)))
  Zn)
 Zn)
 (Ab (retS (dIf (Ah (dop eqD (vr 3) (vr 0))) (Zr (.bl true)) (Zr .non)))
 Zn)))
theorem Abg (k:Nat):Bq f31 k=b31 k:=by kernel_rfl
noncomputable def b32 (k:Nat):SM :=
 (Ab (ifS (Ah (dop eqD (vr 0) (Zr (.str "not"))))
 (Ab (retS (dIf (Ah (dop (isD false) (dop ixD (vr 1) (Zr (.int 0))) (Zr .non))) (Zr .non) (tM (dop ixD (vr 1) (Zr (.int 0))))))
  Zn)
 Zn)
 (Ab (Ag (dop eqD (vr 0) (Zr (.str "either"))) (Ae 2))
 (Ab (ifS (Ah (dop (inD false) (vr 2) (vr 1)))
 (Ab (retS (vr 2))
  Zn)
 Zn)
 (Ab (retS (dIf (Ah (dop (inD false) (Zr .non) (vr 1))) (Zr .non) (tM (vr 2))))
 Zn))))
theorem Yd (k:Nat):Bq f32 k=b32 k:=by kernel_rfl
noncomputable def b35 (k:Nat):SM :=
 (Ab (Gr (Dc (Ak (Af (Gk k) fuel f36) (Aa (vr 0) (Aa (vr 1) (Zr []))))) (Ae 4)
 (Ab (ifS (Gg (Ah (dop eqD (dop ixD (vr 4) (Zr (.int 0))) (Zr (.str "at")))) (Ah (dop (inD false) (dop ixD (vr 4) (Zr (.int 1))) (vr 2))))
  (Ab (retS (Zr (.bl false)))
   Zn)
  Zn)
  (Ab (ifS (Ah (dop (inD false) (Ak (Af (Gk k) fuel f38) (Aa (vr 4) (Zr []))) (vr 3)))
  (Ab (retS (Zr (.bl false)))
   Zn)
  Zn)
  Zn)))
 (Ab (retS (Zr (.bl true)))
 Zn))
theorem Abh (k:Nat):Bq f35 k=b35 k:=by kernel_rfl
noncomputable def b36 (k:Nat):SM :=
 (Ab (Ag (Bo (Dc (Ak (Af (Gk k) fuel f37) (Aa (dSl (vr 0) (some (Zr (.int 1))) none) (Zr [])))) [none,none] (Ae 1) (Ah (dop eqD (dop ixD (vr 1) (Zr (.int 0))) (Zr (.str "count")))) (vr 1)) (Ae 2))
 (Ab (retS (Ak (Af (Gk k) fuel f37) (Aa (Bo (Dc (vr 2)) [none,none,some 1] (Ae 1) (Ah (dop eqD (dop ixD (vr 1) (Zr (.int 1))) (vr 2))) (dop ixD (vr 1) (Zr (.int 2)))) (Zr []))))
 Zn))
theorem Abi (k:Nat):Bq f36 k=b36 k:=by kernel_rfl
noncomputable def b37 (k:Nat):SM :=
 (Ab (Ag (lstM (Zr [])) (Ae 1))
 (Ab (Ag (Ak Ji (Aa (vr 0) (Zr []))) (Ae 2))
 (Ab (Rw (Ah (dop gtD (Ak G5 (Aa (vr 2) (Zr []))) (Zr (.int 0))))
 (Ab (Ag (Bv "list" bF (vr 2) (Zr [])) (Ae 3))
  (Ab (Ej (Bv "list" Cg (vr 1) (Aa (vr 3) (Zr []))))
  (Ab (ifS (Ah (dop (inD false) (dop ixD (vr 3) (Zr (.int 0))) (Aw (Aa (Zr (.str "not")) (Aa (Zr (.str "both")) (Aa (Zr (.str "either")) (Zr [])))))))
  (Ab (Ej (Bv "list" Iu (vr 2) (Aa (dSl (vr 3) (some (Zr (.int 1))) none) (Zr []))))
   Zn)
  Zn)
  Zn))))
 (Ab (retS (vr 1))
 Zn))))
theorem Abj (k:Nat):Bq f37 k=b37 k:=by kernel_rfl
noncomputable def b40 (k:Nat):SM :=
 (Ab (ifS (Ah (dop ltD (vr 1) (Ak G5 (Aa (vr 0) (Zr [])))))
 (Ab (retS (dop ixD (vr 0) (vr 1)))
  Zn)
 Zn)
 (Ab (retS (Zr (.int 0)))
 Zn))
theorem Abk (k:Nat):Bq f40 k=b40 k:=by kernel_rfl
noncomputable def b41 (k:Nat):SM :=
 (Ab (Ag (dop Ar (dop Jy (dop Ay (dop Ay (dop Ar (vr 0) (Zr (.int 2147483647))) (dop Jy (Zr (.int 7919)) (vr 1))) (Zr (.int 1))) (Zr (.int 48271))) (Zr (.int 2147483647))) (Ae 2))
 (Ab (retS (dop Ar (dop Jy (vr 2) (dop Ay (dop Ao (vr 2) (Zr (.int 1009))) (Zr (.int 69621)))) (Zr (.int 2147483647))))
 Zn))
theorem Abl (k:Nat):Bq f41 k=b41 k:=by kernel_rfl
noncomputable def b42 (k:Nat):SM :=
 (Ab (Ag (lstM (Zr [])) (Ae 3))
 (Ab (Ag (dop Ao (vr 0) (Zr (.int 2))) (Ae 4))
 (Ab (Gr (Ht Je (Aa (vr 1) (Zr []))) (Ae 5)
 (Ab (ifS (Gg (Ah (dop eqD (dop Ar (vr 0) (Zr (.int 2))) (Zr (.int 0)))) (Ah (dop gtD (vr 4) (Zr (.int 0)))))
  (Ab (Ej (Bv "list" Cg (vr 3) (Aa (dop Ar (vr 4) (vr 2)) (Zr []))))
   (Ab (Ag (dop Ao (vr 4) (vr 2)) (Ae 4))
   Zn))
  (Ab (Ag (Ak (Af (Gk k) fuel f41) (Aa (vr 0) (Aa (vr 5) (Zr [])))) (Ae 6))
   (Ab (Ej (Bv "list" Cg (vr 3) (Aa (dop Ar (dop Jy (vr 6) (dop Ay (dop Ao (vr 6) (Zr (.int 613))) (Zr (.int 40692)))) (Zr (.int 2147483399))) (Zr []))))
   Zn)))
  Zn))
 (Ab (retS (vr 3))
 Zn))))
theorem Abm (k:Nat):Bq f42 k=b42 k:=by kernel_rfl
noncomputable def b43 (k:Nat):SM :=
 (Ab (Ag (dop Ar (dop Ao (vr 1) (Zr (.int 22))) (Zr (.int 3))) (Ae 3))
 (Ab (Ag (dop Ar (dop Ao (vr 1) (Zr (.int 66))) (Zr (.int 3))) (Ae 4))
 (Ab (Ag (dop Ar (dop Ao (vr 1) (Zr (.int 198))) (dop Ay (vr 2) (Zr (.int 1)))) (Ae 5))
 (Ab (Ag (dop Ge (dop Ar (dop Ao (vr 1) (Zr (.int 198))) (Zr (.int 9))) (Zr (.int 4))) (Ae 6))
 (Ab (Ag (lstM (Aa (Aw (Aa (Zr (.str "put")) (Aa (vr 3) (Aa (vr 6) (Zr []))))) (Aa (Aw (Aa (Zr (.str "copy")) (Aa (vr 3) (Aa (vr 4) (Zr []))))) (Aa (Aw (Aa (Zr (.str "raise")) (Aa (vr 3) (Aa (vr 6) (Zr []))))) (Aa (Aw (Aa (Zr (.str "sum")) (Aa (vr 3) (Aa (vr 4) (Zr []))))) (Zr [])))))) (Ae 7))
 (Ab (Ag (dop Ay (vr 7) (lstM (Aa (Aw (Aa (Zr (.str "choose")) (Aa (vr 3) (Aa (dop Ay (Zr (.int 1)) (dop Ar (dop Ao (vr 1) (Zr (.int 198))) (Zr (.int 3)))) (Zr []))))) (Aa (Aw (Aa (Zr (.str "less")) (Aa (vr 3) (Aa (vr 6) (Aa (dop Ar (dop Ao (vr 1) (Zr (.int 1782))) (dop Ay (vr 2) (Zr (.int 1)))) (Zr [])))))) (Zr []))))) (Ae 7))
 (Ab (retS (dop ixD (dop Ay (vr 7) (lstM (Aa (Aw (Aa (Zr (.str "before")) (Aa (vr 3) (Aa (vr 4) (Aa (vr 5) (Zr [])))))) (Aa (Aw (Aa (Zr (.str "go")) (Aa (vr 5) (Zr [])))) (Zr []))))) (vr 0)))
 Zn)))))))
theorem Abn (k:Nat):Bq f43 k=b43 k:=by kernel_rfl
noncomputable def b44 (k:Nat):SM :=
 (Ab (Ag (dop Ar (dop Ao (vr 1) (Zr (.int 22))) (Zr (.int 3))) (Ae 4))
 (Ab (Ag (dop Ar (dop Ao (vr 1) (Zr (.int 66))) (Zr (.int 2))) (Ae 5))
 (Ab (Ag (dop Ar (dop Ao (vr 1) (Zr (.int 198))) (dop Ay (vr 2) (Zr (.int 1)))) (Ae 6))
 (Ab (Ag (dop Ar (dop Ao (vr 1) (Zr (.int 12078))) (Ak G5 (Aa (vr 3) (Zr [])))) (Ae 7))
 (Ab (Ag (lstM (Aa (Aw (Aa (Zr (.str "me")) (Aa (vr 4) (Zr [])))) (Aa (Aw (Aa (Zr (.str "pick")) (Aa (vr 4) (Aa (vr 7) (Zr []))))) (Aa (Aw (Aa (Zr (.str "alike")) (Aa (vr 4) (Aa (dop Ar (dop Ao (vr 1) (Zr (.int 66))) (Zr (.int 3))) (Aa (vr 6) (Zr [])))))) (Aa (Aw (Aa (Zr (.str "all")) (Aa (vr 5) (Aa (vr 7) (Zr []))))) (Zr [])))))) (Ae 8))
 (Ab (Ag (dop Ay (vr 8) (lstM (Aa (Aw (Aa (Zr (.str "empty")) (Aa (vr 5) (Zr [])))) (Aa (Aw (Aa (Zr (.str "join")) (Aa (vr 5) (Aa (vr 4) (Zr []))))) (Aa (Aw (Aa (Zr (.str "out")) (Aa (vr 4) (Aa (vr 5) (Aa (vr 6) (Zr [])))))) (Aa (Aw (Aa (Zr (.str "many")) (Aa (vr 5) (Aa (dop Ay (Zr (.int 1)) (vr 4)) (Aa (vr 6) (Zr [])))))) (Zr []))))))) (Ae 8))
 (Ab (ifS (Gg (Ah (dop eqD (vr 0) (Zr (.int 0)))) (Ah (dop eqD (dop ixD (vr 3) (vr 7)) (Zr (.int 1)))))
 (Ab (retS (Aw (Aa (Zr (.str "only")) (Aa (vr 4) (Aa (vr 7) (Zr []))))))
  Zn)
 Zn)
 (Ab (retS (dop ixD (vr 8) (vr 0)))
 Zn))))))))
theorem Abo (k:Nat):Bq f44 k=b44 k:=by kernel_rfl
noncomputable def b45 (k:Nat):SM :=
 (Ab (Ag (dop Ar (vr 0) (Zr (.int 22))) (Ae 3))
 (Ab (ifS (Ah (dop ltD (vr 3) (Zr (.int 8))))
 (Ab (retS (Ak (Af (Gk k) fuel f43) (Aa (vr 3) (Aa (vr 0) (Aa (vr 1) (Zr []))))))
  Zn)
 Zn)
 (Ab (ifS (Ah (dop ltD (vr 3) (Zr (.int 16))))
 (Ab (retS (Ak (Af (Gk k) fuel f44) (Aa (dop Ge (vr 3) (Zr (.int 8))) (Aa (vr 0) (Aa (vr 1) (Aa (vr 2) (Zr [])))))))
  Zn)
 Zn)
 (Ab (Ag (dop Ar (dop Ao (vr 0) (Zr (.int 66))) (Zr (.int 3))) (Ae 4))
 (Ab (ifS (Ah (dop ltD (vr 3) (Zr (.int 19))))
 (Ab (retS (Aw (Aa (Zr (.str "send")) (Aa (Zr (.int 0)) (Aa (dop Ay (Zr (.int 1)) (dop Ar (dop Ao (vr 0) (Zr (.int 198))) (Zr (.int 3)))) (Aa (vr 4) (Aa (dop Ar (dop Ao (vr 0) (Zr (.int 594))) (Zr (.int 3))) (Zr []))))))))
  Zn)
 Zn)
 (Ab (ifS (Ah (dop eqD (vr 3) (Zr (.int 19))))
 (Ab (retS (Aw (Aa (Zr (.str "bell")) (Zr []))))
  Zn)
 Zn)
 (Ab (Ag (dop Ar (dop Ao (vr 0) (Zr (.int 22))) (Zr (.int 3))) (Ae 5))
 (Ab (Ag (dop Ar (dop Ao (vr 0) (Zr (.int 396))) (dop Ay (vr 1) (Zr (.int 1)))) (Ae 6))
 (Ab (Ag (Aw (Aa (Aw (Aa (dop Ay (Zr (.int 1)) (dop Ar (dop Ao (vr 0) (Zr (.int 198))) (Zr (.int 2)))) (Aa (vr 5) (Aa (vr 4) (Aa (dop Ar (dop Ay (vr 4) (Zr (.int 1))) (Zr (.int 3))) (Aa (vr 6) (Zr []))))))) (Zr []))) (Ae 7))
 (Ab (ifS (Ah (dop eqD (dop Ar (dop Ao (vr 0) (Zr (.int 12078))) (Zr (.int 2))) (Zr (.int 0))))
 (Ab (Ag (dop Ar (dop Ao (vr 0) (Zr (.int 24156))) (dop Ay (vr 1) (Zr (.int 1)))) (Ae 6))
  (Ab (Ag (dop Ay (vr 7) (Aw (Aa (Aw (Aa (Zr (.int 3)) (Aa (vr 4) (Aa (vr 5) (Aa (dop Ar (dop Ay (vr 5) (Zr (.int 2))) (Zr (.int 3))) (Aa (vr 6) (Zr []))))))) (Aa (Aw (Aa (Zr (.int 0)) (Aa (Zr (.int 0)) (Aa (Zr (.int 0)) (Aa (Zr (.int 1)) (Aa (vr 1) (Zr []))))))) (Zr []))))) (Ae 7))
  Zn))
 Zn)
 (Ab (retS (Aw (Aa (Zr (.str "take")) (Aa (dop ixD (lstM (Aa (cD (Zr (.int 1))) (Aa (cD (Zr (.int 1))) (Aa (vr 5) (Zr []))))) (dop Ar (dop Ao (vr 0) (Zr (.int 198))) (Zr (.int 3)))) (Aa (vr 7) (Zr []))))))
 Zn)))))))))))
theorem Abp (k:Nat):Bq f45 k=b45 k:=by kernel_rfl
noncomputable def b46 (k:Nat):SM :=
 (Ab (Ag (lstM (Zr [])) (Ae 3))
 (Ab (Gr (Ht Je (Aa (Ak G5 (Aa (vr 2) (Zr []))) (Zr []))) (Ae 4)
 (Ab (ifS (Ah (dop gtD (dop ixD (vr 2) (vr 4)) (Ak intD (Aa (dop eqD (vr 4) (vr 1)) (Zr [])))))
  (Ab (Ej (Bv "list" Cg (vr 3) (Aa (vr 4) (Zr []))))
   Zn)
  Zn)
  Zn))
 (Ab (ifS (Ah (dop eqD (vr 3) (lstM (Zr []))))
 (Ab (retS (Aw (Aa (Zr (.str "me")) (Aa (Zr (.int 0)) (Zr [])))))
  Zn)
 Zn)
 (Ab (retS (Aw (Aa (Zr (.str "pick")) (Aa (Zr (.int 0)) (Aa (dop ixD (vr 3) (dop Ar (vr 0) (Ak G5 (Aa (vr 3) (Zr []))))) (Zr []))))))
 Zn))))
theorem Abq (k:Nat):Bq f46 k=b46 k:=by kernel_rfl
noncomputable def b47 (k:Nat):SM :=
 (Ab (Ag (Ak (Af (Gk k) fuel f42) (Aa (vr 0) (Aa (dop Ay (dop Ay (Zr (.int 3)) (vr 1)) (dop Jy (vr 2) (dop Ay (vr 3) (Zr (.int 1))))) (Aa (dop Vu (Zr (.int 10)) (Zr (.int 6))) (Zr []))))) (Ae 4))
 (Ab (Ag (Ak Ew (Aa (Bo (Dc (dSl (vr 4) (some (Zr (.int 3))) (some (dop Ay (Zr (.int 3)) (vr 1))))) [none,none,some 2] (Ae 1) (Zr true) (dop Ar (vr 1) (vr 2))) (Zr []))) (Ae 5))
 (Ab (Ag (Bo (Ht Je (Aa (vr 2) (Zr []))) [none,none,some 5] (Ae 1) (Zr true) (Jk "tuple" Vm "list" Lz (vr 2) (Aa (vr 1) (Zr [])))) (Ae 7))
 (Ab (Ag (lstM (Zr [])) (Ae 8))
 (Ab (Gr (Ht Je (Aa (vr 2) (Zr []))) (Ae 6)
 (Ab (Ag (dop Ay (dop Ay (Zr (.int 3)) (vr 1)) (dop Jy (vr 6) (dop Ay (vr 3) (Zr (.int 1))))) (Ae 9))
  (Ab (Ag (dSl (vr 4) (some (vr 9)) (some (dop Ay (dop Ay (vr 9) (vr 3)) (Zr (.int 1))))) (Ae 10))
  (Ab (Ag (dop Ar (dop ixD (vr 10) (vr 3)) (dop Ay (vr 3) (Zr (.int 1)))) (Ae 11))
  (Ab (Ag (Bo (Dc (dSl (vr 10) none (some (vr 11)))) [none,none,some 7,some 11] (Ae 1) (Zr true) (Ak (Af (Gk k) fuel f45) (Aa (vr 1) (Aa (vr 3) (Aa (vr 2) (Zr [])))))) (Ae 12))
  (Ab (ifS (Gg (Ah (dop gtD (vr 11) (Zr (.int 0)))) (Ah (dop eqD (dop Ar (dop Ao (dop ixD (vr 10) (vr 3)) (Zr (.int 60))) (Zr (.int 2))) (Zr (.int 0)))))
  (Ab (Ag (Ak (Af (Gk k) fuel f46) (Aa (dop ixD (vr 10) (Zr (.int 0))) (Aa (vr 6) (Aa (vr 7) (Zr []))))) (Hw (vr 12) (Zr (.int 0))))
   Zn)
  Zn)
  (Ab (Ej (Bv "list" Cg (vr 8) (Aa (Ak Bt (Aa (vr 12) (Zr []))) (Zr []))))
  Zn)))))))
 (Ab (Ag (Aw (Aa (dop Ao (dop Ar (dop ixD (vr 4) (Zr (.int 1))) (Zr (.int 3))) (Zr (.int 2))) (Aa (dop Ao (dop Ar (dop ixD (vr 4) (Zr (.int 2))) (Zr (.int 4))) (Zr (.int 3))) (Zr [])))) (Ae 13))
 (Ab (retS (Aw (Aa (dop Ay (Zr (.int 1)) (dop Ar (dop ixD (vr 4) (Zr (.int 0))) (Zr (.int 2)))) (Aa (vr 13) (Aa (Ak Bt (Aa (vr 8) (Zr []))) (Aa (Ak Bt (Aa (vr 5) (Zr []))) (Zr [])))))))
 Zn)))))))
theorem Abr (k:Nat):Bq f47 k=b47 k:=by kernel_rfl
noncomputable def b48 (k:Nat):SM :=
 (Ab (retS (dop ixD (lstM (Aa (dop Ge (dop Ar (vr 0) (Zr (.int 7))) (Zr (.int 3))) (Aa (dop Ge (dop Ar (vr 0) (Zr (.int 7))) (Zr (.int 3))) (Aa (dop Ge (vr 0) (dop Jy (Zr (.int 5)) (dop Vu (Zr (.int 10)) (Zr (.int 5))))) (Aa (dop Ge (dop Vu (vr 0) (Zr (.int 3))) (dop Vu (Zr (.int 10)) (Zr (.int 17)))) (Zr [])))))) (dop Ar (dop Ao (vr 0) (Zr (.int 7))) (Zr (.int 4)))))
 Zn)
theorem Abs (k:Nat):Bq f48 k=b48 k:=by kernel_rfl
noncomputable def b49 (k:Nat):SM :=
 (Ab (Ag (lstM (Zr [])) (Ae 3))
 (Ab (Gr (Dc (dSl (vr 0) none (some (dop Ar (dop Ao (dop ixD (vr 0) (Zr (.int 0))) (Zr (.int 4096))) (dop Ay (vr 1) (Zr (.int 1))))))) (Ae 4)
 (Ab (Ej (Bv "list" Cg (vr 3) (Aa (Aw (Aa (dop Ay (Zr (.int 1)) (dop Ar (vr 4) (Zr (.int 3)))) (Aa (Ak (Af (Gk k) fuel f48) (Aa (dop Ao (vr 4) (Zr (.int 3))) (Zr []))) (Aa (dop Ge (dop Ar (dop Ao (vr 4) (Zr (.int 90))) (dop Ay (vr 2) (Zr (.int 1)))) (Zr (.int 1))) (Zr []))))) (Zr []))))
  Zn))
 (Ab (retS (Ak Bt (Aa (vr 3) (Zr []))))
 Zn)))
theorem Abt (k:Nat):Bq f49 k=b49 k:=by kernel_rfl
noncomputable def b50 (k:Nat):SM :=
 (Ab (Ag (vr 0) (J8 [2,3,4,5]))
 (Ab (Ag (Ak G5 (Aa (vr 5) (Zr []))) (Ae 6))
 (Ab (Ag (Ak (Af (Gk k) fuel f42) (Aa (vr 1) (Aa (dop Ay (dop Jy (Zr (.int 11)) (vr 6)) (dop Jy (dop Jy (vr 6) (vr 6)) (vr 2))) (Aa (dop Vu (Zr (.int 10)) (Zr (.int 6))) (Zr []))))) (Ae 7))
 (Ab (Ag (lstM (Zr [])) (Ae 8))
 (Ab (Gr (Ht Je (Aa (vr 6) (Zr []))) (Ae 9)
 (Ab (Ag (dSl (vr 7) (some (dop Jy (Zr (.int 11)) (vr 9))) (some (dop Ay (dop Jy (Zr (.int 11)) (vr 9)) (Zr (.int 11))))) (Ae 10))
  (Ab (Ag (dop Ge (dop Ar (dop ixD (vr 10) (Zr (.int 0))) (dop Ay (Ak G5 (Aa (dop ixD (vr 4) (dop ixD (vr 5) (vr 9))) (Zr []))) (Zr (.int 2)))) (Zr (.int 1))) (Ae 11))
  (Ab (Ag (Ak Bt (Aa (Bo (Dc (dSl (vr 10) (some (Zr (.int 1))) (some (Zr (.int 4))))) [none,none] (Ae 1) (Zr true) (Ak (Af (Gk k) fuel f48) (Aa (vr 1) (Zr [])))) (Zr []))) (Ae 12))
  (Ab (Ag (Ak Bt (Aa (Bo (Dc (dSl (vr 10) (some (Zr (.int 4))) (some (Zr (.int 7))))) [none,none,some 6] (Ae 1) (Zr true) (dop Ge (dop Ar (vr 1) (dop Ay (vr 2) (Zr (.int 1)))) (Zr (.int 1)))) (Zr []))) (Ae 13))
  (Ab (Ej (Bv "list" Cg (vr 8) (Aa (Aw (Aa (vr 11) (Aa (vr 12) (Aa (vr 13) (Aa (Aw (Aa (dop Ar (dop ixD (vr 10) (Zr (.int 7))) (dop Aan (Zr (.int 1)) (vr 6))) (Aa (dop Ar (dop ixD (vr 10) (Zr (.int 8))) (dop Aan (Zr (.int 1)) (vr 6))) (Zr [])))) (Aa (dop eqD (dop Ar (dop ixD (vr 10) (Zr (.int 9))) (Zr (.int 2))) (Zr (.int 1))) (Zr []))))))) (Zr []))))
  Zn))))))
 (Ab (Ag (lstM (Zr [])) (Ae 14))
 (Ab (Ag (dop Jy (Zr (.int 11)) (vr 6)) (Ae 15))
 (Ab (Gr (Ht Je (Aa (vr 6) (Zr []))) (Ae 9)
 (Ab (Ag (lstM (Zr [])) (Ae 16))
  (Ab (Gr (Ht Je (Aa (vr 6) (Zr []))) (Ae 17)
  (Ab (Ej (Bv "list" Cg (vr 16) (Aa (Ak (Af (Gk k) fuel f49) (Aa (dSl (vr 7) (some (vr 15)) (some (dop Ay (vr 15) (vr 2)))) (Aa (vr 2) (Aa (vr 6) (Zr []))))) (Zr []))))
   (Ab (Ag (dop Ay (vr 15) (vr 2)) (Ae 15))
   Zn)))
  (Ab (Ej (Bv "list" Cg (vr 14) (Aa (Ak Bt (Aa (vr 16) (Zr []))) (Zr []))))
  Zn))))
 (Ab (retS (Aw (Aa (Ak Bt (Aa (vr 8) (Zr []))) (Aa (Ak Bt (Aa (vr 14) (Zr []))) (Aa (Aw (Aa (dop Ar (dop ixD (vr 7) (Zr (.int 10))) (dop Ay (dop ixD (vr 3) (Zr (.int 0))) (Zr (.int 1)))) (Aa (dop Ar (dop Ao (dop ixD (vr 7) (Zr (.int 10))) (Zr (.int 7))) (dop Ay (dop ixD (vr 3) (Zr (.int 1))) (Zr (.int 1)))) (Zr [])))) (Zr []))))))
 Zn)))))))))
theorem Abu (k:Nat):Bq f50 k=b50 k:=by kernel_rfl
noncomputable def b51 (k:Nat):SM :=
 (Ab (Ag (Ak Ew (Aa (lstM (Aa (dop Ay (vr 1) (dop Ar (dop Ao (vr 0) (Zr (.int 4))) (dop Ay (dop Ge (vr 2) (vr 1)) (Zr (.int 1))))) (Aa (dop Ay (vr 1) (dop Ar (dop Ao (vr 0) (Zr (.int 64))) (dop Ay (dop Ge (vr 2) (vr 1)) (Zr (.int 1))))) (Zr [])))) (Zr []))) (Ae 3))
 (Ab (ifS (Ah (dop eqD (dop Ar (vr 0) (Zr (.int 16))) (Zr (.int 15))))
 (Ab (Ag (Aea (vr 3)) (Ae 3))
  Zn)
 Zn)
 (Ab (retS (dop ixD (lstM (Aa (Aw (Aa (dop ixD (vr 3) (Zr (.int 0))) (Aa (dop ixD (vr 3) (Zr (.int 1))) (Zr [])))) (Aa (Aw (Aa (dop ixD (vr 3) (Zr (.int 0))) (Aa (Zr .non) (Zr [])))) (Aa (Aw (Aa (Zr .non) (Aa (dop ixD (vr 3) (Zr (.int 1))) (Zr [])))) (Aa (Aw (Aa (dop ixD (vr 3) (Zr (.int 0))) (Aa (dop Ay (dop ixD (vr 3) (Zr (.int 1))) (Zr (.int 1))) (Zr [])))) (Zr [])))))) (dop Ar (vr 0) (Zr (.int 4)))))
 Zn)))
theorem Abv (k:Nat):Bq f51 k=b51 k:=by kernel_rfl
noncomputable def b52 (k:Nat):SM :=
 (Ab (Ag (Bv "list" H9 (vr 0) (Aa (Zr (.int 0)) (Zr []))) (Ae 2))
 (Ab (ifS (Gg (Ah (dop gtD (vr 1) (Zr (.int 0)))) (Ah (dop eqD (dop Ar (vr 2) (Zr (.int 3))) (Zr (.int 0)))))
 (Ab (Ag (dop ixD (lstM (Aa (Zr (.str "not")) (Aa (Zr (.str "both")) (Aa (Zr (.str "either")) (Aa (Zr (.str "both")) (Zr [])))))) (dop Ar (dop Ao (vr 2) (Zr (.int 3))) (Zr (.int 4)))) (Ae 3))
  (Ab (ifS (Ah (dop eqD (vr 3) (Zr (.str "not"))))
  (Ab (retS (Aw (Aa (vr 3) (Aa (Ak (Af (Gk k) fuel f52) (Aa (vr 0) (Aa (dop Ge (vr 1) (Zr (.int 1))) (Zr [])))) (Zr [])))))
   Zn)
  Zn)
  (Ab (retS (Aw (Aa (vr 3) (Aa (Ak (Af (Gk k) fuel f52) (Aa (vr 0) (Aa (dop Ge (vr 1) (Zr (.int 1))) (Zr [])))) (Aa (Ak (Af (Gk k) fuel f52) (Aa (vr 0) (Aa (dop Ge (vr 1) (Zr (.int 1))) (Zr [])))) (Zr []))))))
  Zn)))
 Zn)
 (Ab (Ag (Ak (Af (Gk k) fuel f51) (Aa (dop Ao (vr 2) (Zr (.int 18))) (Aa (cD (Zr (.int 4))) (Aa (Zr (.int 4)) (Zr []))))) (J8 [4,5]))
 (Ab (Ag (lstM (Aa (Aw (Aa (Zr (.str "at")) (Aa (dop Ar (dop Ao (vr 2) (Zr (.int 18))) (dop ixD (lstM (Aa (Zr (.int 7)) (Aa (Zr (.int 61)) (Zr [])))) (dop Ar (dop Ao (vr 2) (Zr (.int 108))) (Zr (.int 2))))) (Zr [])))) (Aa (Aw (Aa (Zr (.str "number")) (Aa (dop Ar (dop Ao (vr 2) (Zr (.int 18))) (Zr (.int 3))) (Aa (vr 4) (Aa (vr 5) (Zr [])))))) (Zr [])))) (Ae 6))
 (Ab (Ag (dop Ay (vr 6) (lstM (Aa (Aw (Aa (Zr (.str "has")) (Aa (dop Ar (dop Ao (vr 2) (Zr (.int 18))) (Zr (.int 3))) (Zr [])))) (Aa (Aw (Aa (Zr (.str "fallen")) (Zr []))) (Zr []))))) (Ae 6))
 (Ab (retS (dop ixD (dop Ay (vr 6) (lstM (Aa (Aw (Aa (Zr (.str "many")) (Aa (dop Ar (dop Ao (vr 2) (Zr (.int 18))) (Zr (.int 2))) (Aa (dop Ar (dop Ao (vr 2) (Zr (.int 36))) (Zr (.int 4))) (Zr []))))) (Aa (Aw (Aa (Zr (.str "bell")) (Zr []))) (Zr []))))) (dop Ar (dop Ao (vr 2) (Zr (.int 3))) (Zr (.int 6)))))
 Zn))))))
theorem nR (k:Nat):Bq f52 k=b52 k:=by kernel_rfl
noncomputable def b53 (k:Nat):SM :=
 (Ab (Ag (Bv "list" H9 (vr 0) (Aa (Zr (.int 0)) (Zr []))) (Ae 3))
 (Ab (ifS (Gg (Ah (dop gtD (vr 2) (Zr (.int 0)))) (Ah (dop eqD (dop Ar (vr 3) (Zr (.int 3))) (Zr (.int 0)))))
 (Ab (Ag (dop ixD (lstM (Aa (Zr (.str "not")) (Aa (Zr (.str "both")) (Aa (Zr (.str "either")) (Aa (Zr (.str "either")) (Zr [])))))) (dop Ar (dop Ao (vr 3) (Zr (.int 3))) (Zr (.int 4)))) (Ae 4))
  (Ab (ifS (Ah (dop eqD (vr 4) (Zr (.str "not"))))
  (Ab (retS (Aw (Aa (vr 4) (Aa (Ak (Af (Gk k) fuel f53) (Aa (vr 0) (Aa (vr 1) (Aa (dop Ge (vr 2) (Zr (.int 1))) (Zr []))))) (Zr [])))))
   Zn)
  Zn)
  (Ab (retS (Aw (Aa (vr 4) (Aa (Ak (Af (Gk k) fuel f53) (Aa (vr 0) (Aa (vr 1) (Aa (dop Ge (vr 2) (Zr (.int 1))) (Zr []))))) (Aa (Ak (Af (Gk k) fuel f53) (Aa (vr 0) (Aa (vr 1) (Aa (dop Ge (vr 2) (Zr (.int 1))) (Zr []))))) (Zr []))))))
  Zn)))
 Zn)
 (Ab (Ag (Ak (Af (Gk k) fuel f51) (Aa (dop Ao (vr 3) (Zr (.int 30))) (Aa (Zr (.int 0)) (Aa (Zr (.int 3)) (Zr []))))) (J8 [5,6]))
 (Ab (ifS (Ah (dop eqD (dop Ar (dop Ao (vr 3) (Zr (.int 3))) (Zr (.int 3))) (Zr (.int 0))))
 (Ab (retS (Aw (Aa (Zr (.str "letters")) (Aa (dop Ay (Zr (.int 1)) (dop Ar (dop Ao (vr 3) (Zr (.int 9))) (Zr (.int 3)))) (Aa (vr 5) (Aa (vr 6) (Zr [])))))))
  Zn)
 Zn)
 (Ab (retS (Aw (Aa (Zr (.str "count")) (Aa (dop Ar (dop Ao (vr 3) (Zr (.int 9))) (vr 1)) (Aa (Ak (Af (Gk k) fuel f52) (Aa (vr 0) (Aa (Zr (.int 2)) (Zr [])))) (Aa (vr 5) (Aa (vr 6) (Zr []))))))))
 Zn)))))
theorem nT (k:Nat):Bq f53 k=b53 k:=by kernel_rfl
noncomputable def b54 (k:Nat):SM :=
 (Ab (ifS (Ah (dop (inD false) (dop ixD (vr 0) (Zr (.int 0))) (Aw (Aa (Zr (.str "not")) (Aa (Zr (.str "both")) (Aa (Zr (.str "either")) (Zr [])))))))
 (Ab (retS (dop neD (Bo (Dc (dSl (vr 0) (some (Zr (.int 1))) none)) [none,none,some 2,some 1] (Ae 1) (Mp (Ak (Af (Gk k) fuel f54) (Aa (vr 1) (Aa (vr 3) (Aa (vr 2) (Zr [])))))) (vr 1)) (lstM (Zr []))))
  Zn)
 Zn)
 (Ab (ifS (Ah (dop eqD (dop ixD (vr 0) (Zr (.int 0))) (Zr (.str "at"))))
 (Ab (retS (dop (inD false) (dop ixD (vr 0) (Zr (.int 1))) (vr 1)))
  Zn)
 Zn)
 (Ab (Ag (Om (lX "number" (Zr (.str "number")) (lX "has" (Zr (.str "name")) (lX "many" (Zr (.str "set")) (Zr []))))) (Ae 3))
 (Ab (ifS (Ah (dop (inD false) (dop ixD (vr 0) (Zr (.int 0))) (vr 3)))
 (Ab (retS (dop (inD false) (Aw (Aa (dop ixD (vr 3) (dop ixD (vr 0) (Zr (.int 0)))) (Aa (dop ixD (vr 0) (Zr (.int 1))) (Zr [])))) (vr 2)))
  Zn)
 Zn)
 (Ab (retS (J4 (dop eqD (dop ixD (vr 0) (Zr (.int 0))) (Zr (.str "bell"))) (dop (inD false) (Aw (Aa (Zr (.str "bell")) (Zr []))) (vr 2))))
 Zn)))))
theorem J2 (k:Nat):Bq f54 k=b54 k:=by kernel_rfl
noncomputable def b55 (k:Nat):SM :=
 (Ab (ifS (Ah (dop (inD false) (dop ixD (vr 0) (Zr (.int 0))) (Aw (Aa (Zr (.str "not")) (Aa (Zr (.str "both")) (Aa (Zr (.str "either")) (Zr [])))))))
 (Ab (Gr (Dc (dSl (vr 0) (some (Zr (.int 1))) none)) (Ae 4)
  (Ab (ifS (Mp (Ak (Af (Gk k) fuel f55) (Aa (vr 4) (Aa (vr 1) (Aa (vr 2) (Aa (vr 3) (Zr [])))))))
   (Ab (retS (Zr (.bl true)))
    Zn)
   Zn)
   Zn))
  (Ab (retS (Zr (.bl false)))
  Zn))
 Zn)
 (Ab (retS (J4 (dop eqD (dop ixD (vr 0) (Zr (.int 0))) (Zr (.str "count"))) (J4 (dop eqD (dop ixD (vr 0) (Zr (.int 1))) (vr 1)) (Ak (Af (Gk k) fuel f54) (Aa (dop ixD (vr 0) (Zr (.int 2))) (Aa (vr 2) (Aa (vr 3) (Zr []))))))))
 Zn))
theorem O2 (k:Nat):Bq f55 k=b55 k:=by kernel_rfl
noncomputable def b56 (k:Nat):SM :=
 (Ab (Ag (lstM (Aa (Aw (Aa (Zr (.str "number")) (Aa (Zr (.int 0)) (Zr [])))) (Aa (Aw (Aa (Zr (.str "number")) (Aa (Zr (.int 1)) (Zr [])))) (Aa (Aw (Aa (Zr (.str "number")) (Aa (Zr (.int 2)) (Zr [])))) (Aa (Aw (Aa (Zr (.str "name")) (Aa (Zr (.int 0)) (Zr [])))) (Aa (Aw (Aa (Zr (.str "name")) (Aa (Zr (.int 1)) (Zr [])))) (Aa (Aw (Aa (Zr (.str "name")) (Aa (Zr (.int 2)) (Zr [])))) (Aa (Aw (Aa (Zr (.str "set")) (Aa (Zr (.int 0)) (Zr [])))) (Aa (Aw (Aa (Zr (.str "set")) (Aa (Zr (.int 1)) (Zr [])))) (Zr [])))))))))) (Ae 1))
 (Ab (Ag (dop Ay (vr 1) (lstM (Aa (Aw (Aa (Zr (.str "bell")) (Zr []))) (Zr [])))) (Ae 1))
 (Ab (retS (Ak Bt (Aa (Ov (Bo (Dc (dSl (vr 0) none (some (dop Ar (dop ixD (vr 0) (Zr (.int 3))) (Zr (.int 4)))))) [none,none,some 1] (Ae 1) (Zr true) (dop ixD (vr 2) (dop Ar (vr 1) (Zr (.int 9)))))) (Zr []))))
 Zn)))
theorem Abw (k:Nat):Bq f56 k=b56 k:=by kernel_rfl
noncomputable def b57 (k:Nat):SM :=
 (Ab (Ag (Ak Ji (Aa (dop ixD (vr 0) (Zr (.int 1))) (Zr []))) (Ae 4))
 (Ab (Ag (Ak Ji (Aa (dop ixD (vr 0) (Zr (.int 2))) (Zr []))) (Ae 5))
 (Ab (Ag (Ak Ji (Aa (dop ixD (vr 0) (Zr (.int 3))) (Zr []))) (Ae 6))
 (Ab (Ag (dop ixD (vr 0) (Zr (.int 4))) (Ae 7))
 (Ab (Gr (Dc (vr 2)) (Ae 8)
 (Ab (ifS (Ah (dop eqD (dop ixD (vr 8) (Zr (.int 0))) (Zr (.str "number"))))
  (Ab (Ag (dop Ge (dop Ar (vr 3) (Zr (.int 11))) (Zr (.int 5))) (Hw (vr 4) (dop ixD (vr 8) (Zr (.int 1)))))
   Zn)
  Zn)
  (Ab (ifS (Ah (dop eqD (dop ixD (vr 8) (Zr (.int 0))) (Zr (.str "name"))))
  (Ab (Ag (dop Ge (dop Ar (vr 3) (Zr (.int 2))) (Zr (.int 1))) (Hw (vr 5) (dop ixD (vr 8) (Zr (.int 1)))))
   Zn)
  Zn)
  (Ab (ifS (Ah (dop eqD (dop ixD (vr 8) (Zr (.int 0))) (Zr (.str "set"))))
  (Ab (Ag (dop Ar (vr 3) (Zr (.int 2))) (Hw (vr 6) (dop ixD (vr 8) (Zr (.int 1)))))
   Zn)
  Zn)
  (Ab (ifS (Ah (dop eqD (dop ixD (vr 8) (Zr (.int 0))) (Zr (.str "bell"))))
  (Ab (Ag (tM (vr 7)) (Ae 7))
   Zn)
  Zn)
  Zn)))))
 (Ab (retS (Aw (Aa (vr 1) (Aa (Ak Bt (Aa (vr 4) (Zr []))) (Aa (Ak Bt (Aa (vr 5) (Zr []))) (Aa (Ak Bt (Aa (vr 6) (Zr []))) (Aa (vr 7) (Zr []))))))))
 Zn))))))
theorem Abx (k:Nat):Bq f57 k=b57 k:=by kernel_rfl
noncomputable def b58 (k:Nat):SM :=
 (Ab (Ag (Ak Ji (Aa (dop ixD (vr 1) (Zr (.int 0))) (Zr []))) (Ae 6))
 (Ab (Ag (Ak Ji (Aa (dop ixD (vr 1) (Zr (.int 0))) (Zr []))) (Ae 7))
 (Ab (Ag (Ak G5 (Aa (dop ixD (dop ixD (vr 0) (Zr (.int 2))) (vr 2)) (Zr []))) (Ae 8))
 (Ab (Ag (Bo (Dc (vr 3)) [none,none,some 8] (Ae 1) (Ah (dop leD (vr 1) (vr 2))) (vr 1)) (Ae 9))
 (Ab (Gr (Ht Je (Aa (Ak G5 (Aa (vr 6) (Zr []))) (Zr []))) (Ae 10)
 (Ab (ifS (Gg (Ah (dop eqD (dop ixD (dop ixD (vr 0) (Zr (.int 3))) (vr 10)) (vr 2))) (Ah (dop neD (vr 9) (lstM (Zr [])))))
  (Ab (Ag (dop ixD (vr 6) (vr 10)) (Ae 11))
   (Ab (Ag (dop Ay (Aw (Aa (dop ixD (vr 9) (Zr (.int 0))) (Zr []))) (dSl (vr 11) (some (Zr (.int 1))) none)) (Hw (vr 6) (vr 10)))
   (Ab (Ag (Ak (Af (Gk k) fuel f57) (Aa (dop ixD (vr 6) (vr 10)) (Aa (dop ixD (vr 9) (cD (Zr (.int 1)))) (Aa (vr 4) (Aa (dop Ao (vr 5) (dop Ay (vr 10) (Zr (.int 1)))) (Zr [])))))) (Hw (vr 7) (vr 10)))
   Zn)))
  Zn)
  Zn))
 (Ab (retS (Aw (Aa (dop Ay (Aw (Aa (Ak Bt (Aa (vr 6) (Zr []))) (Zr []))) (dSl (vr 1) (some (Zr (.int 1))) none)) (Aa (dop Ay (Aw (Aa (Ak Bt (Aa (vr 7) (Zr []))) (Zr []))) (dSl (vr 1) (some (Zr (.int 1))) none)) (Zr [])))))
 Zn))))))
theorem Aby (k:Nat):Bq f58 k=b58 k:=by kernel_rfl
noncomputable def b59 (k:Nat):SM :=
 (Ab (Ag (dop Ay (Zr (.int 1)) (dop Ar (Ak (Af (Gk k) fuel f40) (Aa (vr 0) (Aa (Zr (.int 0)) (Zr [])))) (Zr (.int 4)))) (Ae 1))
 (Ab (Ag (dop Ay (Zr (.int 1)) (dop Ar (dop Ao (Ak (Af (Gk k) fuel f40) (Aa (vr 0) (Aa (Zr (.int 0)) (Zr [])))) (Zr (.int 4))) (Zr (.int 3)))) (Ae 2))
 (Ab (Ag (Ak (Af (Gk k) fuel f47) (Aa (Ak (Af (Gk k) fuel f40) (Aa (vr 0) (Aa (Zr (.int 1)) (Zr [])))) (Aa (vr 1) (Aa (vr 2) (Aa (Zr (.int 6)) (Zr [])))))) (Ae 3))
 (Ab (Gr (Ht bR (Aa (Zr (.int 2)) (Aa (Ak jC (Aa (Zr (.int 5)) (Aa (Ak jD (Aa (Zr (.int 62)) (Aa (Ak G5 (Aa (vr 0) (Zr []))) (Zr [])))) (Zr [])))) (Aa (Zr (.int 3)) (Zr []))))) (Ae 4)
 (Ab (Ag (Ak (Af (Gk k) fuel f50) (Aa (vr 3) (Aa (Ak (Af (Gk k) fuel f40) (Aa (vr 0) (Aa (vr 4) (Zr [])))) (Zr [])))) (Ae 5))
  (Ab (Ag (Ak (Af (Gk k) fuel f42) (Aa (Ak (Af (Gk k) fuel f40) (Aa (vr 0) (Aa (dop Ay (vr 4) (Zr (.int 1))) (Zr [])))) (Aa (Zr (.int 60)) (Aa (dop Vu (Zr (.int 10)) (Zr (.int 6))) (Zr []))))) (Ae 6))
  (Ab (Ag (Ak (Af (Gk k) fuel f53) (Aa (vr 6) (Aa (vr 2) (Aa (Zr (.int 1)) (Zr []))))) (Ae 7))
  (Ab (Ag (Ak (Af (Gk k) fuel f53) (Aa (vr 6) (Aa (vr 2) (Aa (Zr (.int 1)) (Zr []))))) (Ae 8))
  (Ab (Ag (dop ixD (lstM (Aa (Aw (Aa (Zr (.str "never")) (Aa (vr 7) (Zr [])))) (Aa (Aw (Aa (Zr (.str "behind")) (Aa (vr 7) (Aa (vr 8) (Zr []))))) (Aa (Aw (Aa (Zr (.str "comes")) (Aa (vr 7) (Aa (vr 8) (Zr []))))) (Zr []))))) (dop Ar (Ak (Af (Gk k) fuel f40) (Aa (vr 0) (Aa (dop Ay (vr 4) (Zr (.int 2))) (Zr [])))) (Zr (.int 3)))) (Ae 9))
  (Ab (Ag (Ak (Af (Gk k) fuel f42) (Aa (dop Ao (Ak (Af (Gk k) fuel f40) (Aa (vr 0) (Aa (dop Ay (vr 4) (Zr (.int 2))) (Zr [])))) (Zr (.int 3))) (Aa (Zr (.int 9)) (Aa (dop Vu (Zr (.int 10)) (Zr (.int 6))) (Zr []))))) (Ae 10))
  (Ab (Ag (Ak Bt (Aa (Ov (Bo (Dc (dSl (vr 10) none (some (dop Ay (Zr (.int 1)) (dop Ar (dop ixD (vr 10) (Zr (.int 8))) (Zr (.int 3))))))) [none,none] (Ae 1) (Zr true) (dop Ar (vr 1) (dop ixD (lstM (Aa (Zr (.int 7)) (Aa (Zr (.int 61)) (Zr [])))) (dop Ar (dop Ao (vr 1) (Zr (.int 64))) (Zr (.int 2))))))) (Zr []))) (Ae 11))
  (Ab (Ag (Ak (Af (Gk k) fuel f56) (Aa (dSl (vr 10) (some (Zr (.int 3))) (some (Zr (.int 8)))) (Zr []))) (Ae 12))
  (Ab (Ag (dop Ar (dop Ao (dop ixD (vr 10) (Zr (.int 8))) (Zr (.int 3))) (vr 2)) (Ae 13))
  (Ab (Ag (Zr (.bl true)) (Ae 14))
  (Ab (Gr (Dc (dSl (vr 9) (some (Zr (.int 1))) none)) (Ae 15)
  (Ab (ifS (Mp (Ak (Af (Gk k) fuel f55) (Aa (vr 15) (Aa (vr 13) (Aa (vr 11) (Aa (vr 12) (Zr [])))))))
   (Ab (Ag (Zr (.bl false)) (Ae 14))
    Zn)
   Zn)
   Zn))
  (Ab (Ag (Ak (Af (Gk k) fuel f35) (Aa (vr 9) (Aa (vr 13) (Aa (vr 11) (Aa (vr 12) (Zr [])))))) (Ae 16))
  (Ab (ifS (W5 (Yt (Mp (Aao "bool" (vr 16)))) (Ah (dop neD (vr 16) (vr 14))))
  (Ab (retS (Zr (.bl false)))
   Zn)
  Zn)
  (Ab (Ag (Ak (Af (Gk k) fuel f58) (Aa (vr 3) (Aa (vr 5) (Aa (vr 13) (Aa (vr 11) (Aa (vr 12) (Aa (dop ixD (vr 10) (Zr (.int 7))) (Zr [])))))))) (Ae 17))
  (Ab (Gr (Dc (dSl (vr 9) (some (Zr (.int 1))) none)) (Ae 15)
  (Ab (Ag (Bo (Dc (vr 17)) [none,none,some 3,some 15] (Ae 1) (Zr true) (Ak (Af (Gk k) fuel f27) (Aa (vr 2) (Aa (vr 1) (Aa (vr 3) (Zr [])))))) (Ae 18))
   (Ab (ifS (Gg (Mp (vr 14)) (Ah (dop neD (dop ixD (vr 18) (Zr (.int 0))) (dop ixD (vr 18) (Zr (.int 1))))))
   (Ab (retS (Zr (.bl false)))
    Zn)
   Zn)
   Zn)))
  Zn))))))))))))))))
 (Ab (retS (Zr (.bl true)))
 Zn)))))
theorem Abz (k:Nat):Bq f59 k=b59 k:=by kernel_rfl
local macro_rules | `(tactic| walk_at "s") => `(tactic| with_reducible first | refine Ie ?_ | refine lM ?_ | refine lN ?_ | refine uG ?_ | refine V2 ?_ | refine Dz ?_ | refine Bp ?_ | refine uF ?_ | refine lF (by with_unfolding_all rfl) ?_ | refine Fx ?_ | refine lG ?_ | refine Zj ?_ | refine lH ?_ | refine Aaq ?_ | refine Aar ?_ | refine Aas ?_ | refine Aat ?_ | refine Ow ?_ | refine Kp ?_ | refine Aav ?_ | refine tY ?_ | refine tZ ?_ | refine Sx ?_ | refine Aaw ?_ | refine uD ?_ | refine Aed ?_ | refine Sy ?_ | refine Aee ?_ | refine lJ ?_ | refine lK ?_ | refine Aax ?_ | refine uE ?_ | refine Aay ?_ | refine Ig ?_ | refine Aaz ?_ | refine lY ?_ | refine Aa7 ?_ | refine Aa8 ?_ | refine J1 ?_ | refine Gi (by with_unfolding_all rfl) ?_ | refine Ds (by with_unfolding_all rfl) ?_ | refine Aa9 ?_ | refine Aa2 ?_ | refine Aa1 ?_ | refine S7 ?_ | refine Aa3 ?_ | refine Aa4 ?_ | refine Aba (by with_unfolding_all rfl) (by with_unfolding_all rfl) ?_)
local macro_rules | `(tactic| walk_at "r") => `(tactic| repeat walk_at "s")
theorem Tc {K:Fl->DL.Loc->MH->Prop}{A:DL.Loc->MH->Prop}{x:Option (DL.Loc×MH)}{b:SM}(h2:∀ l h,A l h->K .nx l h) (h1:∀ Q:Fl->DL.Loc->MH->Prop,(∀ l h,A l h->Q .nx l h)->wG x fun l1 m1=>wS b l1 m1 Q):wG x fun l1 m1=>wS b l1 m1 K:=h1 K h2
theorem Zt {ds:List D}{q:Prop}(h:ds.length<=1000000) (hq:q):ds.length<=1000000/\q:=⟨h,hq⟩
theorem O3 {h:MH}{j:Nat}{o:MO}(e:h[j]?=some o):j < h.length:=(List.getElem?_eq_some_iff.mp e).1
theorem Dw (i:Int) {j:Int}(h:0 < j):0<=i.fmod j:=Int.fmod_nonneg_of_pos i h
theorem Ii (i:Int) {j:Int}(h:0 < j):i.fmod j < j:=Int.fmod_lt_of_pos i h
theorem Bu (i:Int) (n:Nat) (h:0 < n):∃ r:Nat,r < n/\i.fmod (n:Int)=(r:Int):=by
 have l1:=Dw i (j:=(n:Int)) (by omega);have l2:=Ii i (j:=(n:Int)) (by omega);exact ⟨(i.fmod n).toNat,by omega,by omega⟩
theorem Gj (h:MH) (ds:List D):Eu (.ref h.length) (h++[.lst ds])=some ds:=by
 show (match (h++[MO.lst ds])[h.length]? with | some (.lst o)=>some o | _=>none)=_;rw [Ad]
theorem Cy {h:MH}{j:Nat}{ds:List D}(e:h[j]?=some (.lst ds)):Eu (.ref j) h=some ds:=by
 show (match h[j]? with | some (.lst o)=>some o | _=>none)=_;rw [e]
theorem Cd (n:Nat):Br 0 n=(List.range n).map Bx:=List.map_congr_left fun x _=>by show D.int (0+(x:Int))=D.int (x:Int);rw [Int.zero_add]
theorem Di {n:Nat}{ds:List D}{j:Nat}{mh:MH}{P:D->MH->Prop}(e1:mh[n]?=some (.lst ds)) (hj:j < ds.length) (h:∀ d∈ds,P d mh):wV (ixD (.ref n) (.int j) mh) P:=Bl e1 (List.getElem?_eq_getElem hj) (h _ (List.getElem_mem hj))
theorem Fz (k:Nat) (ns:List Int) (i:Nat) (mh:MH) {P:D->MH->Prop}(h:∀ v:Int,P (.int v) mh):wV (Af (Gk (k+1)) fuel f40 [.rol (ns.map D.int),.int i] mh) P:=by
 refine Ai (Abk k) mU.1 mU.2 rfl ?_;show wS (b40 k) [some (.rol (ns.map D.int)),some (.int i)] mh _;unfold b40;walk_at "r"
 refine Fy (by intro z;simp) rfl ?_;walk_at "r"
 refine Ax (fun hk=>?_) fun hk=>?_
 ·walk_at "r"
  rw [decide_eq_true_iff,List.length_map] at hk;have hi:i < ns.length:=by omega
  refine Aa5 (d:=.int ns[i]) (by rw [List.getElem?_map,List.getElem?_eq_getElem hi];rfl) ?_;exact h _
 ·walk_at "r"
  exact h _
local macro_rules | `(tactic| walk_at "x0") => `(tactic| repeat (first | walk_at "s" | with_reducible refine Zt (by simp) ?_ | with_reducible refine Kq (by decide) (by decide) ?_ | with_reducible refine Ea (by first | decide | omega) ?_))
theorem cH (k j:Nat) (hj:j < 8) (v:Int) (l:Nat) (mh:MH) {P:D->MH->Prop}(h:∀ d h',Ext [] mh h'->P d h'):wV (Af (Gk (k+1)) fuel f43 [.int j,.int v,.int l] mh) P:=by
 refine Ai (Abn k) mX.1 mX.2 rfl ?_;show wS (b43 k) [some (.int j),some (.int v),some (.int l),none,none,none,none,none] mh _;unfold b43
 walk_at "x0"
 refine Ja ((Ext.more (W:=[])).old _ _ (by simp) Ad) Ad (by simp) ?_
 walk_at "x0"
 refine Ja ((Ext.more (W:=[])).old _ _ (by simp) Ad) Ad (by simp) ?_
 walk_at "x0"
 exact Di Ad (by simpa using hj) fun d _=>h d _ ((((Ext.more.trans Ext.more).trans Ext.more).trans Ext.more).trans Ext.more)
noncomputable def IsI (h:MH) (j:Nat) (ns:List Int):Prop:=h[j]?=some (.lst (ns.map D.int))
theorem IsI.ext {h h':MH}{j:Nat}{ns:List Int}(g:IsI h j ns) (x:Ext [] h h'):IsI h' j ns:=x.old _ _ (by simp) g
theorem Ck {n:Nat}{ns:List Int}{j:Nat}{mh:MH}{P:D->MH->Prop}(g:IsI mh n ns) (hj:j < ns.length) (h:P (.int ns[j]) mh):wV (ixD (.ref n) (.int j) mh) P:=Bl g (by rw [List.getElem?_map,List.getElem?_eq_getElem hj];rfl) h
theorem Td {n:Nat}{ns:List Int}{mh:MH}{P:D->MH->Prop}(g:IsI mh n ns) (h:P (.int ns.length) mh):wV (G5 [.ref n] mh) P:=Fy (by intro z z';cases z') (Cy g) (by rw [List.length_map];exact h)
theorem cI (k j:Nat) (hj:j < 8) (v:Int) (l c:Nat) (cs:List Int) (mh:MH) (gc:IsI mh c cs) (hc:0 < cs.length) {P:D->MH->Prop}(h:∀ d h',Ext [] mh h'->P d h'):wV (Af (Gk (k+1)) fuel f44 [.int j,.int v,.int l,.ref c] mh) P:=by
 refine Ai (Abo k) mY.1 mY.2 rfl ?_;show wS (b44 k) [some (.int j),some (.int v),some (.int l),some (.ref c),none,none,none,none,none] mh _;unfold b44
 walk_at "x0"
 refine Td gc ?_;obtain ⟨r,hr,er⟩:=Bu (v.fdiv 12078) cs.length hc;refine Ea (by omega) ?_;rw [er]
 walk_at "x0"
 refine Ja ((Ext.more (W:=[])).old _ _ (by simp) Ad) Ad (by simp) ?_
 walk_at "x0"
 have fin:∀ {a b c:MO},Ext [] mh (mh++[a]++[b]++[c]):=fun {a b c}=>(Ext.more.trans Ext.more).trans Ext.more
 refine Ax (fun e=>?_) fun e=>?_
 ·walk_at "x0"
  refine Ck (gc.ext fin) hr ?_
  walk_at "x0"
  refine Ax (fun e=>?_) fun e=>?_
  ·walk_at "x0"
   exact h _ _ fin
  ·walk_at "x0"
   exact Di Ad (by simpa using hj) fun d _=>h d _ fin
 ·walk_at "x0"
  exact Di Ad (by simpa using hj) fun d _=>h d _ fin
theorem nU (k:Nat) (v:Int) (l c:Nat) (cs:List Int) (mh:MH) (gc:IsI mh c cs) (hc:0 < cs.length) {P:D->MH->Prop}(h:∀ d h',Ext [] mh h'->P d h'):wV (Af (Gk (k+2)) fuel f45 [.int v,.int l,.ref c] mh) P:=by
 obtain ⟨r,hr,er⟩:=Bu v 22 (by decide);have er:v.fmod 22=(r:Int):=er;refine Ai (Abp (k+1)) mZ.1 mZ.2 rfl ?_;show wS (b45 (k+1)) [some (.int v),some (.int l),some (.ref c),none,none,none,none,none] mh _;unfold b45
 walk_at "x0"
 rw [er]
 walk_at "x0"
 refine Ax (fun e=>?_) fun e=>?_
 ·walk_at "x0"
  rw [decide_eq_true_iff] at e;exact cH k r (by omega) v l mh h
 ·walk_at "x0"
  rw [decide_eq_false_iff_not] at e;refine Ax (fun e2=>?_) fun e2=>?_
  ·walk_at "x0"
   rw [decide_eq_true_iff] at e2;have e8:(r:Int) - 8=((r - 8:Nat):Int):=by omega
   rw [e8];exact cI k (r - 8) (by omega) v l c cs mh gc hc h
  ·walk_at "x0"
   refine Ax (fun e3=>?_) fun e3=>?_
   ·walk_at "x0"
    exact h _ _ Ext.refl
   ·walk_at "x0"
    refine Ax (fun e4=>?_) fun e4=>?_
    ·walk_at "x0"
     exact h _ _ Ext.refl
    ·walk_at "x0"
     obtain ⟨q,hq,eq⟩:=Bu (v.fdiv 198) 3 (by decide);have eq:(v.fdiv 198).fmod 3=(q:Int):=eq;refine Ax (fun e5=>?_) fun e5=>?_
     ·walk_at "x0"
      refine My (by simp) ?_
      walk_at "x0"
      rw [eq];refine Di Ad (by simpa using hq) fun d _=>?_
      walk_at "x0"
      exact h _ _ Ext.more
     ·walk_at "x0"
      rw [eq];refine Di Ad (by simpa using hq) fun d _=>?_
      walk_at "x0"
      exact h _ _ Ext.more
theorem eq_nil {a b:Nat}{ds:List D}{mh:MH}{P:D->MH->Prop}(e1:mh[a]?=some (.lst (ds))) (e2:mh[b]?=some (.lst [])) (hd:∃ ns:List Int,ds=ns.map D.int) (h:P (.bl ds.isEmpty) mh):wV (eqD (.ref a) (.ref b) mh) P:=by
 obtain ⟨ns,rfl⟩:=hd;have hp:∀ ns:List Int,Cr (py mh 59) (ns.map D.int)=some (ns.map PyData.int):=fun ns=>by
  induction ns with
  | nil=>rfl
  | cons n r ih=>simp only [List.map_cons,Cr,ih];rfl
 have p1:py mh 60 (.ref a)=some (.list (ns.map PyData.int)):=by
  show (match mh[a]? with | some (.lst o)=>(match Cr (py mh 59) o with | some xs=>some (PyData.list xs) | none=>none) | _=>none)=_;rw [e1];dsimp only;rw [hp]
 have p2:py mh 60 (.ref b)=some (.list []):=by
  show (match mh[b]? with | some (.lst o)=>(match Cr (py mh 59) o with | some xs=>some (PyData.list xs) | none=>none) | _=>none)=_;rw [e2];rfl
 refine lU (k:=(ns.map D.int).isEmpty) ?_ h;unfold eqB;rw [p1,p2];cases ns <;> rfl
theorem nW (k:Nat) (v:Int) (r c:Nat) (cs:List Int) (mh:MH) (gc:IsI mh c cs) (hl:cs.length<=1000) {P:D->MH->Prop}(h:∀ d h',Ext [] mh h'->P d h'):wV (Af (Gk (k+1)) fuel f46 [.int v,.int r,.ref c] mh) P:=by
 refine Ai (Abq k) nA.1 nA.2 rfl ?_;show wS (b46 k) [some (.int v),some (.int r),some (.ref c),none,none] mh _;unfold b46
 walk_at "x0"
 refine Cu ?_
 walk_at "x0"
 refine Td (gc.ext Ext.more) ?_
 walk_at "x0"
 refine ⟨_,Dr (by omega),Br 0 cs.length,fun i l h=>∃ (x:Option D) (ns:List Int),l=[some (.int v),some (.int r),some (.ref c),some (.ref mh.length),x]/\ns.length<=i/\h[mh.length]?=some (.lst (ns.map D.int))/\Ext [] mh h,⟨none,[],rfl,Nat.le_refl _,Ad,Ext.more⟩,fun _ _ _ _=>⟨rfl,rfl⟩,?_,?_⟩
 ·rintro i d l h' ed ⟨x,ns,rfl,hn,g,y⟩;have li:=(List.getElem?_eq_some_iff.mp ed).1;rw [Bd] at li;rw [Cd] at ed;obtain ⟨i',hi',rfl⟩:=List.mem_map.mp (List.mem_of_getElem? ed)
  walk_at "x0"
  refine Ck (gc.ext y) (List.mem_range.mp hi') ?_
  walk_at "x0"
  refine Bh (d:=.int (if (((i':Int))==(r:Int)) then 1 else 0)) (h:=h') rfl ?_
  walk_at "x0"
  refine Ax (fun e=>?_) fun e=>?_
  ·walk_at "x0"
   refine ⟨ty_list g,?_⟩
   walk_at "x0"
   refine Dd g (by rw [List.length_map];omega) ?_
   walk_at "x0"
   exact ⟨_,ns++[(i':Int)],rfl,by rw [List.length_append,List.length_singleton];omega,by rw [Hh g,List.map_append];rfl,y.setNew (Nat.le_refl _)⟩
  ·walk_at "x0"
   exact ⟨_,ns,rfl,by omega,g,y⟩
 ·rintro l h' ⟨x,ns,rfl,hn,g,y⟩
  walk_at "x0"
  refine eq_nil ((Ext.more (W:=[])).old _ _ (by simp) g) Ad ⟨ns,rfl⟩ ?_
  walk_at "x0"
  refine Ax (fun e=>?_) fun e=>?_
  ·walk_at "x0"
   exact h _ _ (y.trans Ext.more)
  ·walk_at "x0"
   have hp:0 < ns.length:=by
    cases ns with
    | nil=>cases e
    | cons a r=>simp
   have g2:IsI (h'++[.lst []]) mh.length ns:=(Ext.more (W:=[])).old _ _ (by simp) g;refine Td g2 ?_;obtain ⟨q,hq,eq⟩:=Bu v ns.length hp;refine Ea (by omega) ?_;rw [eq];refine Ck g2 hq ?_
   walk_at "x0"
   exact h _ _ (y.trans Ext.more)
theorem cJ (k:Nat) (c i:Int) (mh:MH) {P:D->MH->Prop}(h:∀ v:Int,0<=v->v < 2147483647->P (.int v) mh):wV (Af (Gk (k+1)) fuel f41 [.int c,.int i] mh) P:=by
 refine Ai (Abl k) mV.1 mV.2 rfl ?_;show wS (b41 k) [some (.int c),some (.int i),none] mh _;unfold b41;walk_at "r"
 refine Ea (by decide) ?_;walk_at "r"
 refine Eb (.inl ⟨by decide,by decide⟩) ?_;walk_at "r"
 refine Eb (.inr ⟨by decide,by decide⟩) ?_;walk_at "r"
 refine Ea (by decide) ?_;generalize ((c.fmod 2147483647+7919 * i+1) * 48271)=y;have l1:=Dw y (j:=2147483647) (by decide);have l2:=Ii y (j:=2147483647) (by decide);generalize y.fmod 2147483647=z at l1 l2;walk_at "r"
 refine Kq (by decide) (by decide) ?_;walk_at "r"
 refine Eb (.inl ⟨by omega,by omega⟩) ?_;walk_at "r"
 refine Ea (by decide) ?_;exact h _ (Dw _ (by decide)) (Ii _ (by decide))
theorem Jc (k:Nat) (c:Int) (n:Nat) (hn:n<=1000) (B:Int) (hB:0 < B) (hB2:B<=1000000) (mh:MH) {P:D->MH->Prop}(h:∀ (vs:List Int) (j:Nat) (h':MH),vs.length=n->(∀ v∈vs,0<=v/\v < 2147483647)->Ext [] mh h'->h'[j]?=some (.lst (vs.map D.int))->mh.length<=j->P (.ref j) h') :
  wV (Af (Gk (k+2)) fuel f42 [.int c,.int n,.int B] mh) P:=by
 refine Ai (Abm (k+1)) mW.1 mW.2 rfl ?_;show wS (b42 (k+1)) [some (.int c),some (.int n),some (.int B),none,none,none,none] mh _;unfold b42
 walk_at "x0"
 refine Cu ?_;walk_at "r"
 refine ⟨_,Dr (by omega),Br 0 n,fun i l h=>∃ (r:Int) (x5 x6:Option D) (vs:List Int),l=[some (.int c),some (.int n),some (.int B),some (.ref mh.length),some (.int r),x5,x6]/\vs.length=i/\(∀ v∈vs,0<=v/\v < 2147483647)/\h[mh.length]?=some (.lst (vs.map D.int))/\Ext [] mh h,
  ⟨_,none,none,[],rfl,rfl,fun _ z=>absurd z (by simp),Ad,Ext.more⟩,fun _ _ _ _=>⟨rfl,rfl⟩,?_,?_⟩
 ·rintro i d l h ed ⟨r,x5,x6,vs,rfl,hl,hv,g,x⟩;have li:=(List.getElem?_eq_some_iff.mp ed).1;rw [Bd] at li;rw [Cd] at ed;obtain ⟨i',_,rfl⟩:=List.mem_map.mp (List.mem_of_getElem? ed);have add:∀ (v r:Int) (x5 x6:Option D),0<=v/\v < 2147483647->∃ (r':Int) (x5' x6':Option D) (vs':List Int),[some (D.int c),some (D.int n),some (D.int B),some (D.ref mh.length),some (D.int r),x5,x6]=[some (D.int c),some (D.int n),some (D.int B),some (D.ref mh.length),some (D.int r'),x5',x6']/\vs'.length=i+1/\(∀ v∈vs',0<=v/\v < 2147483647)/\(h.set mh.length (.lst (vs.map D.int++[.int v])))[mh.length]?=some (.lst (vs'.map D.int))/\Ext [] mh (h.set mh.length (.lst (vs.map D.int++[.int v]))):=fun v r x5 x6 h0=>by
   refine ⟨r,x5,x6,vs++[v],rfl,by rw [List.length_append,hl];rfl,fun w hw=>?_,?_,x.setNew (Nat.le_refl _)⟩
   ·rcases List.mem_append.mp hw with z|z
    ·exact hv w z
    ·rw [List.mem_singleton.mp z];exact h0
   ·rw [Hh g,List.map_append];rfl
  have mixed:wS (Ab (Ag (Ak (Af (Gk (k+1)) fuel f41) (Aa (vr 0) (Aa (vr 5) (Zr [])))) (Ae 6))
   (Ab (Ej (Bv "list" Cg (vr 3) (Aa (dop Ar (dop Jy (vr 6) (dop Ay (dop Ao (vr 6) (Zr (.int 613))) (Zr (.int 40692)))) (Zr (.int 2147483399))) (Zr []))))
   Zn)) [some (.int c),some (.int n),some (.int B),some (.ref mh.length),some (.int r),some (Bx i'),x6] h fun f l h'=>f=.nx/\∃ (r:Int) (x5 x6:Option D) (vs:List Int),l=[some (.int c),some (.int n),some (.int B),some (.ref mh.length),some (.int r),x5,x6]/\vs.length=i+1/\(∀ v∈vs,0<=v/\v < 2147483647)/\h'[mh.length]?=some (.lst (vs.map D.int))/\Ext [] mh h':=by
   walk_at "r"
   refine cJ k _ _ _ fun w w1 w2=>?_
   walk_at "r"
   refine ⟨ty_list g,?_⟩;walk_at "r"
   refine Kq (by decide) (by decide) ?_;walk_at "r"
   refine Eb (.inl ⟨by omega,by omega⟩) ?_;walk_at "r"
   refine Ea (by decide) ?_;walk_at "r"
   refine Dd g (by rw [List.length_map];omega) ?_;walk_at "r"
   exact ⟨rfl,add _ _ _ _ ⟨Dw _ (by decide),Int.lt_trans (Ii _ (by decide)) (by decide)⟩⟩
  have mixed':=Zk mixed (Q:=U5 Zn (Aa0 (fun l h=>∃ (r:Int) (x5 x6:Option D) (vs:List Int),l=[some (D.int c),some (D.int n),some (D.int B),some (D.ref mh.length),some (D.int r),x5,x6]/\vs.length=i+1/\(∀ v∈vs,0<=v/\v < 2147483647)/\h[mh.length]?=some (.lst (vs.map D.int))/\Ext [] mh h) (U5 (Ab (retS (vr 3)) Zn) (lQ P)))) (by
   rintro f l h' ⟨rfl,q⟩
   exact Bp (Dz q))
  walk_at "r"
  refine Ea (by decide) ?_;walk_at "r"
  refine Ax (fun e1=>?_) fun e1=>?_
  ·walk_at "r"
   refine Ax (fun e2=>?_) fun e2=>?_
   ·walk_at "r"
    refine ⟨ty_list g,?_⟩;walk_at "r"
    refine Ea (by omega) ?_;walk_at "r"
    refine Dd g (by rw [List.length_map];omega) ?_;walk_at "r"
    refine Kq (by omega) (by omega) ?_;walk_at "r"
    exact add _ _ _ _ ⟨Dw _ hB,by have:=Ii r hB;omega⟩
   ·exact mixed'
  ·exact J1 mixed'
 ·rintro l h2 ⟨r,x5,x6,vs,rfl,hl,hv,g,x⟩;rw [Bd] at hl;walk_at "r"
  exact h vs _ _ hl hv x g (Nat.le_refl _)
theorem uJ {lo hi:Option Int}(ns:List Int):DL.cutD (ns.map D.int) lo hi=(DL.cutD ns lo hi).map D.int:=by
 unfold DL.cutD;rw [List.length_map,← List.map_drop,← List.map_take]
theorem Mz {lo hi:Option Int}{ns:List Int}{v:Int}(h:v∈DL.cutD ns lo hi):v∈ns:=List.mem_of_mem_drop (List.mem_of_mem_take h)
theorem Hj {a b:Nat}{ns:List Int}(h1:a<=b) (h2:b<=ns.length):(DL.cutD ns (some (a:Int)) (some (b:Int))).length=b - a:=by
 unfold DL.cutD;rw [HT.sIx_nat,HT.sIx_nat,List.length_take,List.length_drop,Nat.min_eq_left h2,Nat.min_eq_left (Nat.le_trans h1 h2),Nat.min_eq_left (Nat.sub_le_sub_right h2 a)]
theorem nY {b:Nat}{ns:List Int}(h2:b<=ns.length):(DL.cutD ns none (some (b:Int))).length=b:=by
 unfold DL.cutD;rw [HT.sIx_nat,HT.sIx_none,List.length_take,List.length_drop,Nat.min_eq_left h2,Nat.sub_zero,Nat.sub_zero,Nat.min_eq_left h2]
theorem Ga {n:Nat}{ns:List Int}{lo hi:Option Int}{mh:MH}{P:D->MH->Prop}(g:IsI mh n ns) (h:P (.ref mh.length) (mh++[.lst ((DL.cutD ns lo hi).map D.int)])):wV (slD (.ref n) lo hi mh) P:=by
 refine ⟨_,_,?_,h⟩;show (match mh[n]? with | some (.lst o)=>some (D.ref mh.length,mh++[MO.lst (DL.cutD o lo hi)]) | _=>none)=_;rw [g];dsimp only;rw [uJ]
theorem Te:(10:Int) ^ (6:Int).toNat=1000000:=by decide +kernel
theorem V5 {mi:DM Src}{cs:List (Option Nat)}{g:GM}{tc:DM Bool}{me:DM D}{loc:DL.Loc}{mh:MH}{Q:D->MH->Prop}(h:wD mi loc mh fun src h0=>∃ n ds,∃ (p:D->Bool) (f:D->D),src=.lref n/\h0[n]?=some (.lst ds)/\ds.length<=1000000 /\
  (∀ d∈ds,∃ l1,g d (G7 cs loc) h0=some (l1,h0)/\tc l1 h0=some (p d,h0)/\(p d=true->me l1 h0=some (f d,h0)))/\Q (.ref h0.length) (h0++[.lst ((ds.filter p).map f)])):wD (Bo mi cs g tc me) loc mh Q:=by
 obtain ⟨src,h0,e,n,ds,p,f,rfl,hn,hz,step,q⟩:=h;exact ⟨_,_,cF e hn (le_size hz) step,q⟩
theorem filter_all {l:List D}:l.filter (fun _=>true)=l:=List.filter_eq_self.mpr fun _ _=>rfl
noncomputable def Hs (room c0 c1:Int) (parts:List (List D)) (plays:List Nat):D:=.tup [.int room,.tup [.int c0,.int c1],.tup (parts.map D.tup),.tup (plays.map Bx)]
noncomputable def nats (ns:List Nat):List Int:=ns.map fun n:Nat=>(n:Int)
theorem nZ (ns:List Nat):(nats ns).map D.int=ns.map Bx:=by unfold nats;rw [List.map_map];rfl
theorem V6 (k:Nat) (cell:Int) {H R L:Nat}(h1:1<=H) (h6:H<=6) (r1:1<=R) (r3:R<=3) (l60:L<=60) (mh:MH) {P:D->MH->Prop}
  (h:∀ (room c0 c1:Int) (parts:List (List D)) (plays:List Nat) (h':MH),1<=room->room<=2->0<=c0->0<=c1->parts.length=R->plays.length=H->(∀ p∈plays,p < R)->Ext [] mh h'->P (Hs room c0 c1 parts plays) h') :
  wV (Af (Gk (k+3)) fuel f47 [.int cell,.int H,.int R,.int L] mh) P:=by
 refine Ai (Abr (k+2)) nD.1 nD.2 rfl ?_;show wS (b47 (k+2)) [some (.int cell),some (.int H),some (.int R),some (.int L),none,none,none,none,none,none,none,none,none,none] mh _;unfold b47
 walk_at "x0"
 refine Eb (.inl ⟨by omega,by omega⟩) ?_
 walk_at "x0"
 refine J0 (by decide) (by decide) (by decide) ?_;rw [Te]
 walk_at "x0"
 have eN:(3:Int)+(H:Int)+(R:Int) * ((L:Int)+1)=((3+H+R * (L+1):Nat):Int):=by push_cast;rfl
 rw [eN];have bN:R * (L+1)<=3 * 61:=Nat.mul_le_mul r3 (by omega);refine Jc (k) cell (3+H+R * (L+1)) (by omega) 1000000 (by decide) (by decide) mh fun vs jd m1 lv pv x1 g1 _=>?_
 have g1:IsI m1 jd vs:=g1
 walk_at "x0"
 refine V5 ?_
 walk_at "x0"
 refine Ga g1 ?_;have eH:(3:Int)+(H:Int)=((3+H:Nat):Int):=by push_cast;rfl
 rw [eH];have lc:(DL.cutD vs (some ((3:Nat):Int)) (some ((3+H:Nat):Int))).length=H:=by rw [Hj (by omega) (by omega)];omega
 generalize hq:(DL.cutD vs (some (3:Int)) (some ((3+H:Nat):Int)))=cv;have lc:cv.length=H:=by rw [← hq];exact lc
 refine ⟨_,src_list Ad,_,_,fun _=>true,fun d=>match d with | .int v=>.int (v.fmod R) | _=>.non,rfl,Ad,by rw [List.length_map];omega,fun d hd=>?_,?_⟩
 ·obtain ⟨v,_,rfl⟩:=List.mem_map.mp hd;refine ⟨_,rfl,rfl,fun _=>?_⟩;show dop Ar (vr 1) (vr 2) _ _=_;rw [Aap];show iop _ _ (.int v) (.int R) _=_;rw [kZ,if_pos (decide_eq_true (by omega))]
 rw [filter_all,List.map_map];have eq1:cv.map ((fun d=>match d with | .int v=>D.int (v.fmod R) | _=>.non) ∘ D.int)=(nats (cv.map fun v=>(v.fmod R).toNat)).map D.int:=by
  unfold nats;rw [List.map_map,List.map_map];refine List.map_congr_left fun v _=>?_
  show D.int (v.fmod R)=D.int (((v.fmod R).toNat:Nat):Int);have:=Dw v (j:=(R:Int)) (by omega);rw [Int.toNat_of_nonneg this]
 rw [eq1]
 walk_at "x0"
 refine V4 (ns:=nats (cv.map fun v=>(v.fmod R).toNat)) Ad (by unfold nats;rw [List.length_map,List.length_map];omega) ?_;obtain ⟨pl,e1,e2,e3⟩:=Yc (cv.map fun v=>(v.fmod R).toNat);have e1:(sortI (nats (cv.map fun v=>(v.fmod R).toNat))).map D.int=(nats pl).map D.int:=by rw [nZ];exact e1
 rw [e1];have lp:pl.length=H:=by rw [e2,List.length_map];exact lc
 have hp:∀ p∈pl,p < R:=fun p hpm=>by
  obtain ⟨v,_,rfl⟩:=List.mem_map.mp (e3 p hpm);have a:=Dw v (j:=(R:Int)) (by omega);have b:=Ii v (j:=(R:Int)) (by omega);omega
 generalize hm2:m1++[MO.lst (cv.map D.int)]++[MO.lst ((nats (cv.map fun v=>(v.fmod R).toNat)).map D.int)]++[MO.lst ((nats pl).map D.int)]=m2;have x2:Ext [] m1 m2:=by rw [← hm2];exact (Ext.more.trans Ext.more).trans Ext.more
 have gp:IsI m2 (m1++[MO.lst (cv.map D.int)]++[MO.lst ((nats (cv.map fun v=>(v.fmod R).toNat)).map D.int)]).length (nats pl):=by rw [← hm2];exact Ad
 generalize hjp:(m1++[MO.lst (cv.map D.int)]++[MO.lst ((nats (cv.map fun v=>(v.fmod R).toNat)).map D.int)]).length=jp at gp
 walk_at "x0"
 refine Iz ?_
 walk_at "x0"
 refine ⟨_,Dr (by omega),Br 0 R,fun i acc h=>∃ cs:List Int,acc=cs.map D.int/\cs.length=i/\h=m2,by rw [Bd];omega,⟨[],rfl,rfl,rfl⟩,fun _ _ _ _=>⟨rfl,rfl⟩,?_,?_,?_⟩
 ·rintro i acc h ⟨cs,rfl,hl,_⟩;rw [List.length_map,hl];exact Nat.le_refl _
 ·rintro i d acc h ed ⟨cs,rfl,hl,rfl⟩;rw [Cd] at ed;obtain ⟨i',hi',rfl⟩:=List.mem_map.mp (List.mem_of_getElem? ed)
  walk_at "x0"
  refine X8 ?_
  walk_at "x0"
  refine .inr ⟨rfl,ty_list gp,?_⟩
  walk_at "x0"
  refine Bh (d:=.int ((nats pl).countP (·==(i':Int)):Nat)) (h:=h) ?_ ?_
  ·have gp':h[jp]?=some (.lst ((nats pl).map D.int)):=gp;show iV (.ref jp) [.int i'] h=_;simp only [iV,gp',Fp]
  ·exact ⟨cs++[_],by rw [List.map_append];rfl,by rw [List.length_append,hl];rfl,rfl⟩
 rintro acc h0 ⟨cs,rfl,lcs,rfl⟩;rw [Bd] at lcs
 walk_at "x0"
 generalize hm3:h0++[MO.lst (cs.map D.int)]=m3;have x3:Ext [] h0 m3:=by rw [← hm3];exact Ext.more
 have gc:IsI m3 h0.length cs:=by rw [← hm3];exact Ad
 refine Cu ?_
 walk_at "x0"
 refine ⟨_,Dr (by omega),Br 0 R,fun i l h=>∃ (x6 x9 x10 x11 x12 x13:Option D) (ps:List (List D)),l=[some (.int cell),some (.int H),some (.int R),some (.int L),some (.ref jd),some (.ref jp),x6,some (.ref h0.length),some (.ref m3.length),x9,x10,x11,x12,x13]/\ps.length=i/\h[m3.length]?=some (.lst (ps.map D.tup))/\Ext [] m3 h,
  ⟨none,none,none,none,none,none,[],rfl,rfl,Ad,Ext.more⟩,fun _ _ _ _=>⟨rfl,rfl⟩,?_,?_⟩
 ·rintro i d l h4 ed ⟨x6,x9,x10,x11,x12,x13,ps,rfl,lps,g4,x4⟩;refine Tc (fun _ _ a=>a) fun Q nxt=>?_
  have li:=(List.getElem?_eq_some_iff.mp ed).1;rw [Bd] at li;rw [Cd] at ed;obtain ⟨i',hi',rfl⟩:=List.mem_map.mp (List.mem_of_getElem? ed);have hi':=List.mem_range.mp hi';have gd4:IsI h4 jd vs:=((g1.ext x2).ext x3).ext x4;have gc4:IsI h4 h0.length cs:=gc.ext x4
  walk_at "x0"
  refine Eb (.inl ⟨by omega,by omega⟩) ?_
  walk_at "x0"
  have eA:(3:Int)+(H:Int)+(i':Int) * ((L:Int)+1)=((3+H+i' * (L+1):Nat):Int):=by push_cast;rfl
  rw [eA];have bA:i' * (L+1)+(L+1)<=R * (L+1):=by
   have:(i'+1) * (L+1)<=R * (L+1):=Nat.mul_le_mul_right _ hi';rw [Nat.add_mul] at this;omega
  generalize hA:3+H+i' * (L+1)=A at *;have eA2:(A:Int)+(L:Int)+1=((A+L+1:Nat):Int):=by push_cast;rfl
  rw [eA2];refine Ga gd4 ?_;have lo:(DL.cutD vs (some (A:Int)) (some ((A+L+1:Nat):Int))).length=L+1:=by rw [Hj (by omega) (by omega)];omega
  generalize hov:DL.cutD vs (some (A:Int)) (some ((A+L+1:Nat):Int))=ov at lo
  walk_at "x0"
  refine Ck (ns:=ov) (j:=L) Ad (by omega) ?_;obtain ⟨n,hn,en⟩:=Bu (ov[L]'(by omega)) (L+1) (by omega);have en:(ov[L]'(by omega)).fmod ((L:Int)+1)=(n:Int):=by rw [← en];push_cast;rfl
  walk_at "x0"
  rw [en]
  walk_at "x0"
  generalize hm5:h4++[MO.lst (ov.map D.int)]=m5;have x5:Ext [] h4 m5:=by rw [← hm5];exact Ext.more
  have go:IsI m5 h4.length ov:=by rw [← hm5];exact Ad
  refine Iz ?_
  walk_at "x0"
  refine Ga go ?_;have ls:(DL.cutD ov none (some (n:Int))).length=n:=nY (by omega);generalize hsv:DL.cutD ov none (some (n:Int))=sv at ls;refine ⟨_,src_list Ad,sv.map D.int,fun i acc h=>acc.length=i/\Ext [] (m5++[MO.lst (sv.map D.int)]) h,by rw [List.length_map];omega,⟨rfl,Ext.refl⟩,?_,?_,?_,?_⟩
  ·rintro j acc h ⟨_,y⟩;exact Jb (y.old _ _ (by simp) Ad)
  ·rintro j acc h ⟨hl,_⟩;omega
  ·rintro j d acc h ed ⟨hl,y⟩;obtain ⟨v,_,rfl⟩:=List.mem_map.mp (List.mem_of_getElem? ed)
   walk_at "x0"
   refine nU k v n h0.length cs h (((gc4.ext x5).ext Ext.more).ext y) (by omega) fun d h' y'=>?_
   exact ⟨by rw [List.length_append,hl];rfl,y.trans y'⟩
  rintro acc h6 ⟨lacc,x6'⟩;rw [List.length_map,ls] at lacc
  walk_at "x0"
  have xx:Ext [] h4 h6:=(x5.trans Ext.more).trans x6';have fin:∀ (st:List D) (h7:MH) (y7:Ext [h6.length] (h6++[MO.lst acc]) h7) (g7:h7[h6.length]?=some (.lst st)) (x6 x9 x10 x11 x13:Option D),st.length<=1000000 ->
   wS (Ab (Ej (Bv "list" Cg (vr 8) (Aa (Ak Bt (Aa (vr 12) (Zr []))) (Zr [])))) Zn) [some (.int cell),some (.int H),some (.int R),some (.int L),some (.ref jd),some (.ref jp),x6,some (.ref h0.length),some (.ref m3.length),x9,x10,x11,some (.ref h6.length),x13] h7
    fun f l h=>f=.nx/\∃ (x6 x9 x10 x11 x12 x13:Option D) (ps:List (List D)),l=[some (.int cell),some (.int H),some (.int R),some (.int L),some (.ref jd),some (.ref jp),x6,some (.ref h0.length),some (.ref m3.length),x9,x10,x11,x12,x13]/\ps.length=i+1/\h[m3.length]?=some (.lst (ps.map D.tup))/\Ext [] m3 h:=fun st h7 y7 g7 x6 x9 x10 x11 x13 hst=>by
   have nm:m3.length ∉ [h6.length]:=by
    have:=O3 g4;have:=xx.len;simp;omega
   have g8:h7[m3.length]?=some (.lst (ps.map D.tup)):=y7.old _ _ nm ((xx.trans Ext.more).old _ _ (by simp) g4)
   have x8:Ext [] m3 h7:=⟨Nat.le_trans ((x4.trans xx).trans Ext.more).len y7.len,fun i o _ e=>y7.old i o (by
    have a:=O3 e;have b:=(x4.trans xx).len
    simp;omega) (((x4.trans xx).trans Ext.more).old i o (by simp) e)⟩
   walk_at "x0"
   refine ⟨ty_list g8,?_⟩
   walk_at "x0"
   refine Be (Cy g7) ?_
   walk_at "x0"
   refine Dd g8 (by rw [List.length_map];omega) ?_
   walk_at "x0"
   exact ⟨rfl,_,_,_,_,_,_,ps++[st],rfl,by rw [List.length_append,lps];rfl,by rw [Hh g8,List.map_append];rfl,x8.setNew (Nat.le_refl _)⟩
  have fin':∀ (st:List D) (h7:MH) (y7:Ext [h6.length] (h6++[MO.lst acc]) h7) (g7:h7[h6.length]?=some (.lst st)) (x6 x9 x10 x11 x13:Option D) (hst:st.length<=1000000) {Q:Fl->DL.Loc->MH->Prop},_->_:=fun st h7 y7 g7 x6 x9 x10 x11 x13 hst {Q} (q:∀ l h,(∃ (x6 x9 x10 x11 x12 x13:Option D) (ps:List (List D)),l=[some (D.int cell),some (.int H),some (.int R),some (.int L),some (.ref jd),some (.ref jp),x6,some (.ref h0.length),some (.ref m3.length),x9,x10,x11,x12,x13]/\ps.length=i+1/\h[m3.length]?=some (MO.lst (ps.map D.tup))/\Ext [] m3 h)->Q .nx l h)=>Zk (Q:=Q) (fin st h7 y7 g7 x6 x9 x10 x11 x13 hst) (by
   rintro f l h ⟨rfl,z⟩
   exact q l h z)
  refine Ax (fun e=>?_) fun e=>?_
  ·walk_at "x0"
   refine Ck (ns:=ov) (j:=L) ((go.ext (Ext.more.trans x6')).ext Ext.more) (by omega) ?_
   walk_at "x0"
   refine Ax (fun e2=>?_) fun e2=>?_
   ·walk_at "x0"
    have hpos:0 < n:=by rw [decide_eq_true_iff] at e;omega
    refine Ck (ns:=ov) (j:=0) ((go.ext (Ext.more.trans x6')).ext Ext.more) (by omega) ?_
    walk_at "x0"
    refine nW (k+1) _ i' h0.length cs _ ((gc4.ext xx).ext Ext.more) (by omega) fun d h7 y7=>?_
    walk_at "x0"
    have g7:=y7.old _ _ (by simp) (Ad (a:=h6) (o:=.lst acc));refine ⟨_,G3 (k:=0) g7 (by omega),?_⟩;refine Bp (Dz (Bp (fin' (acc.set 0 d) _ ⟨by rw [List.length_set];exact y7.len,fun i o hi e=>?_⟩ (Hh g7) _ _ _ _ _ (by rw [List.length_set];omega) fun l h z=>nxt l h z)));rw [List.getElem?_set_ne (fun z=>hi (by simp [z]))];exact y7.old i o (by simp) e
   ·exact Dz (Bp (fin' acc _ Ext.refl Ad _ _ _ _ _ (by omega) fun l h z=>nxt l h z))
  ·exact J1 (Dz (Bp (fin' acc _ Ext.refl Ad _ _ _ _ _ (by omega) fun l h z=>nxt l h z)))
 ·rintro l h4 ⟨x6,x9,x10,x11,x12,x13,ps,rfl,lps,g4,x4⟩;rw [Bd] at lps;have gd4:IsI h4 jd vs:=((g1.ext x2).ext x3).ext x4;have gp4:IsI h4 jp (nats pl):=(gp.ext x3).ext x4
  walk_at "x0"
  refine Ck gd4 (j:=1) (by omega) ?_
  walk_at "x0"
  refine Ck gd4 (j:=2) (by omega) ?_
  walk_at "x0"
  refine Ck gd4 (j:=0) (by omega) ?_
  walk_at "x0"
  refine Be (Cy g4) ?_
  walk_at "x0"
  refine Be (Cy gp4) ?_
  walk_at "x0"
  rw [nZ];refine h _ _ _ ps pl h4 ?_ ?_ ?_ ?_ lps lp hp (((x1.trans x2).trans x3).trans x4)
  ·have:=Dw (vs[0]'(by omega)) (j:=2) (by decide);omega
  ·have:=Ii (vs[0]'(by omega)) (j:=2) (by decide);omega
  ·exact Int.fdiv_nonneg (Dw _ (by decide)) (by decide)
  ·exact Int.fdiv_nonneg (Dw _ (by decide)) (by decide)
theorem O4 (k:Nat) (v:Int) (h0:0<=v) (h1:v < 2147483647) (mh:MH) {P:D->MH->Prop}(h:∀ w h',Ext [] mh h'->P (.int w) h'):wV (Af (Gk (k+1)) fuel f48 [.int v] mh) P:=by
 refine Ai (Abs k) nF.1 nF.2 rfl ?_;show wS (b48 k) [some (.int v)] mh _;unfold b48
 walk_at "x0"
 refine J0 (by decide) (by decide) (by decide) ?_;refine Eb (.inl ⟨by decide,by decide⟩) ?_
 walk_at "x0"
 refine J0 (by decide) (by decide) (by omega) ?_
 walk_at "x0"
 refine J0 (by decide) (by decide) (by decide) ?_
 walk_at "x0"
 obtain ⟨r,hr,er⟩:=Bu (v.fdiv 7) 4 (by decide);have er:(v.fdiv 7).fmod 4=(r:Int):=er;rw [er];refine Di Ad (by simpa using hr) fun d hd=>?_
 simp only [List.mem_cons,List.mem_nil_iff,or_false] at hd;rcases hd with rfl | rfl | rfl | rfl <;> exact h _ _ Ext.more
noncomputable def V7 (z:Int×Int×Int):D:=.tup [.int z.1,.int z.2.1,.int z.2.2]
theorem V8 (k jd:Nat) (vs:List Int) (room H:Int) (hr:1<=room) (hH:1<=H) (mh:MH) (g:IsI mh jd vs) (l0:0 < vs.length) (l1:vs.length<=1000) (pv:∀ v∈vs,0<=v/\v < 2147483647) {P:D->MH->Prop}(h:∀ (ls:List (Int×Int×Int)) h',ls.length<=1000->Ext [] mh h'->P (.tup (ls.map V7)) h') :
  wV (Af (Gk (k+2)) fuel f49 [.ref jd,.int room,.int H] mh) P:=by
 refine Ai (Abt (k+1)) nG.1 nG.2 rfl ?_;show wS (b49 (k+1)) [some (.ref jd),some (.int room),some (.int H),none,none] mh _;unfold b49
 walk_at "x0"
 refine Cu ?_
 walk_at "x0"
 refine Ck (g.ext Ext.more) (j:=0) l0 ?_
 walk_at "x0"
 refine Ga (g.ext Ext.more) ?_;generalize hc:DL.cutD vs none (some (((vs[0]'l0).fdiv 4096).fmod (room+1)))=cv;have pc:∀ v∈cv,0<=v/\v < 2147483647:=fun v hv=>pv v (Mz (by rw [hc];exact hv))
 have lc:cv.length<=1000:=by
  rw [← hc];unfold DL.cutD;rw [List.length_take,List.length_drop];omega
 have ne:mh.length≠(mh++[MO.lst []]).length:=by rw [List.length_append];simp
 refine ⟨_,src_list Ad,cv.map D.int,fun i l h=>∃ (x:Option D) (ls:List (Int×Int×Int)),l=[some (.ref jd),some (.int room),some (.int H),some (.ref mh.length),x]/\ls.length=i/\h[mh.length]?=some (.lst (ls.map V7))/\h[(mh++[MO.lst []]).length]?=some (.lst (cv.map D.int))/\Ext [] mh h,
  ⟨none,[],rfl,rfl,(Ext.more (W:=[])).old _ _ (by simp) Ad,Ad,Ext.more.trans Ext.more⟩,?_,?_,?_⟩
 ·rintro i l h ⟨x,ls,rfl,_,_,g,_⟩;exact Jb g
 ·rintro i d l h4 ed ⟨x,ls,rfl,hl,g1,g2,y⟩;have li:=(List.getElem?_eq_some_iff.mp ed).1;rw [List.length_map] at li;obtain ⟨v,hv,rfl⟩:=List.mem_map.mp (List.mem_of_getElem? ed);have bv:=pc v hv
  walk_at "x0"
  refine ⟨ty_list g1,?_⟩
  walk_at "x0"
  have q0:0<=v.fdiv 3:=Int.fdiv_nonneg bv.1 (by decide);have q1:v.fdiv 3 < 2147483647:=by rw [Int.fdiv_eq_ediv_of_nonneg _ (by decide)];omega
  refine O4 k _ q0 q1 h4 fun w h5 y5=>?_
  walk_at "x0"
  refine Dd (y5.old _ _ (by simp) g1) (by rw [List.length_map];omega) ?_
  walk_at "x0"
  refine ⟨_,ls++[(_,_,_)],rfl,by rw [List.length_append,hl];rfl,by rw [Hh (y5.old _ _ (by simp) g1),List.map_append];rfl,?_,(y.trans y5).setNew (Nat.le_refl _)⟩;rw [List.getElem?_set_ne ne];exact y5.old _ _ (by simp) g2
 ·rintro l h4 ⟨x,ls,rfl,hl,g1,g2,y⟩
  walk_at "x0"
  rw [List.length_map] at hl;exact Be (Cy g1) (h ls _ (by omega) y)
structure Pt where
 pl:Int
 ns:List Int
 ms:List Int
 s0:Nat
 s1:Nat
 bell:Bool
noncomputable def ptD (p:Pt):D:=.tup [.int p.pl,.tup (p.ns.map D.int),.tup (p.ms.map D.int),.tup [Bx p.s0,Bx p.s1],.bl p.bell]
noncomputable def Kr (p:Pt):Prop:=p.ns.length=3/\p.ms.length=3/\(∀ m∈p.ms,-1<=m)/\p.s0 < 64/\p.s1 < 64
noncomputable abbrev Rows:=List (List (List (Int×Int×Int)))
noncomputable def Tf (rs:Rows):Prop:=∀ w∈rs,∀ ls∈w,ls.length<=1000
noncomputable def V9 (w:List (List (Int×Int×Int))):D:=.tup (w.map fun ls=>.tup (ls.map V7))
noncomputable def O5 (ps:List Pt) (rs:Rows) (x y:Int):D:=.tup [.tup (ps.map ptD),.tup (rs.map V9),.tup [.int x,.int y]]
theorem oA {H:Nat}{mh:MH}{P:D->MH->Prop}(hH:H<=6) (h:P (.int ((2 ^ H:Nat):Int)) mh):wV (Aan (.int 1) (.int H) mh) P:=Ih (by
 rw [Bool.and_eq_true,Bool.and_eq_true,decide_eq_true_iff,decide_eq_true_iff,decide_eq_true_iff]
 exact ⟨by omega,by omega,by decide⟩) (by
  show P (.int (1 * 2 ^ (H:Int).toNat)) mh;rw [Int.one_mul,Int.toNat_natCast];have e:((2 ^ H:Nat):Int)=2 ^ H:=by push_cast;rfl
  rw [← e];exact h)
theorem p2 {H:Nat}(h:H<=6):0 < 2 ^ H/\2 ^ H<=64:=⟨Nat.pow_pos (by decide),Nat.le_trans (Nat.pow_le_pow_right (by decide) h) (by decide)⟩
theorem Ye {a b H r:Nat}(ha:a < H) (hb:b < H):(a * H+b) * r+r<=H * H * r:=by
 have h1:a * H+b+1<=H * H:=by
  have:(a+1) * H<=H * H:=Nat.mul_le_mul_right _ ha;rw [Nat.add_mul] at this;omega
 have h2:(a * H+b+1) * r<=H * H * r:=Nat.mul_le_mul_right _ h1;rw [Nat.add_mul (a * H+b) 1 r] at h2;omega
theorem cL (k:Nat) (cell:Int) {H R:Nat}(h1:1<=H) (hh6:H<=6) (room:Nat) (r1:1<=room) (r2:room<=2) (c0 c1:Int) (hc0:0<=c0) (hc1:0<=c1) (parts:List (List D)) (plays:List Nat) (lp:parts.length=R) (ll:plays.length=H) (hp:∀ p∈plays,p < R) (mh:MH) {P:D->MH->Prop}
  (h:∀ (ps:List Pt) (rs:Rows) (x y:Int) (h':MH),ps.length=H->(∀ p∈ps,Kr p)->Tf rs->Ext [] mh h'->P (O5 ps rs x y) h'):wV (Af (Gk (k+3)) fuel f50 [Hs room c0 c1 parts plays,.int cell] mh) P:=by
 refine Ai (Abu (k+2)) nH.1 nH.2 rfl ?_;show wS (b50 (k+2)) [some (Hs room c0 c1 parts plays),some (.int cell),none,none,none,none,none,none,none,none,none,none,none,none,none,none,none,none] mh _;unfold b50;walk_at "r"
 refine S5 rfl ?_;show wS _ [some (Hs room c0 c1 parts plays),some (.int cell),some (.int room),some (.tup [.int c0,.int c1]),some (.tup (parts.map D.tup)),some (.tup (plays.map Bx)),none,none,none,none,none,none,none,none,none,none,none,none] mh _
 walk_at "x0"
 refine Fy (by intro z z';cases z') rfl ?_;rw [List.length_map,ll]
 walk_at "x0"
 refine Eb (.inl ⟨by decide,by decide⟩) ?_
 walk_at "x0"
 refine Eb (.inl ⟨by omega,by omega⟩) ?_
 walk_at "x0"
 refine Eb (.inr ⟨by omega,by omega⟩) ?_
 walk_at "x0"
 refine J0 (by decide) (by decide) (by decide) ?_;rw [Te]
 walk_at "x0"
 have eN:(11:Int) * (H:Int)+(H:Int) * (H:Int) * (room:Int)=((11 * H+H * H * room:Nat):Int):=by push_cast;rfl
 rw [eN];have bN:H * H * room<=6 * 6 * 2:=Nat.mul_le_mul (Nat.mul_le_mul hh6 hh6) r2;refine Jc k cell (11 * H+H * H * room) (by omega) 1000000 (by decide) (by decide) mh fun vs jd m1 lv pv x1 g1 _=>?_
 have g1:IsI m1 jd vs:=g1
 walk_at "x0"
 refine Cu ?_
 walk_at "x0"
 refine ⟨_,Dr (by omega),Br 0 H,fun i l h=>∃ (x9 x10 x11 x12 x13:Option D) (ps:List Pt),l=[some (Hs room c0 c1 parts plays),some (.int cell),some (.int room),some (.tup [.int c0,.int c1]),some (.tup (parts.map D.tup)),some (.tup (plays.map Bx)),some (.int H),some (.ref jd),some (.ref m1.length),x9,x10,x11,x12,x13,none,none,none,none]/\ps.length=i/\(∀ p∈ps,Kr p)/\h[m1.length]?=some (.lst (ps.map ptD))/\Ext [] m1 h,
  ⟨none,none,none,none,none,[],rfl,rfl,fun _ z=>absurd z (by simp),Ad,Ext.more⟩,fun _ _ _ _=>⟨rfl,rfl⟩,?_,?_⟩
 ·rintro i d l h4 ed ⟨x9,x10,x11,x12,x13,ps,rfl,lps,ops,g4,x4⟩;refine Tc (fun _ _ a=>a) fun Q nxt=>?_
  have li:=(List.getElem?_eq_some_iff.mp ed).1;rw [Bd] at li;rw [Cd] at ed;obtain ⟨i',hi',rfl⟩:=List.mem_map.mp (List.mem_of_getElem? ed);have hi':=List.mem_range.mp hi'
  walk_at "x0"
  refine Eb (.inl ⟨by decide,by decide⟩) ?_
  walk_at "x0"
  refine Eb (.inl ⟨by decide,by decide⟩) ?_
  walk_at "x0"
  have e11:(11:Int) * (i':Int)=((11 * i':Nat):Int):=by push_cast;rfl
  have e22:((11 * i':Nat):Int)+11=((11 * i'+11:Nat):Int):=by push_cast;rfl
  rw [e11,e22];refine Ga (g1.ext x4) ?_;have lo:(DL.cutD vs (some ((11 * i':Nat):Int)) (some ((11 * i'+11:Nat):Int))).length=11:=by rw [Hj (by omega) (by omega)];omega
  generalize hov:DL.cutD vs (some ((11 * i':Nat):Int)) (some ((11 * i'+11:Nat):Int))=ov at lo;have po:∀ v∈ov,0<=v/\v < 2147483647:=fun v hv=>pv v (Mz (by rw [hov];exact hv))
  generalize hm5:h4++[MO.lst (ov.map D.int)]=m5;have x5:Ext [] h4 m5:=by rw [← hm5];exact Ext.more
  have go:IsI m5 h4.length ov:=by rw [← hm5];exact Ad
  walk_at "x0"
  refine Ck go (j:=0) (by omega) ?_
  walk_at "x0"
  refine Ac (j := i') (d := Bx (plays[i']'(by omega))) (by rw [List.getElem?_map, List.getElem?_eq_getElem (by omega)];rfl) ?_;have hpl : plays[i']'(by omega) < parts.length := by rw [lp];exact hp _ (List.getElem_mem _)
  refine Ac (j := plays[i']'(by omega)) (d := .tup (parts[plays[i']'(by omega)]'hpl)) (by rw [List.getElem?_map, List.getElem?_eq_getElem hpl];rfl) ?_
  walk_at "x0"
  refine Fy (by intro z z';cases z') rfl ?_
  walk_at "x0"
  refine Iz ?_
  walk_at "x0"
  refine Ga go ?_;have l3:(DL.cutD ov (some ((1:Nat):Int)) (some ((4:Nat):Int))).length=3:=by rw [Hj (by omega) (by omega)]
  have p3:∀ v∈DL.cutD ov (some ((1:Nat):Int)) (some ((4:Nat):Int)),0<=v/\v < 2147483647:=fun v hv=>po v (Mz hv)
  generalize hc3:DL.cutD ov (some ((1:Nat):Int)) (some ((4:Nat):Int))=cv at l3 p3;refine ⟨_,src_list Ad,cv.map D.int,fun i acc h=>∃ ws:List Int,acc=ws.map D.int/\ws.length=i/\Ext [] (m5++[MO.lst (cv.map D.int)]) h,by rw [List.length_map];omega,⟨[],rfl,rfl,Ext.refl⟩,?_,?_,?_,?_⟩
  ·rintro j acc h ⟨_,_,_,y⟩;exact Jb (y.old _ _ (by simp) Ad)
  ·rintro j acc h ⟨ws,rfl,hl,_⟩;rw [List.length_map];omega
  ·rintro j d acc h ed ⟨ws,rfl,hl,y⟩;obtain ⟨v,hv,rfl⟩:=List.mem_map.mp (List.mem_of_getElem? ed)
   walk_at "x0"
   refine O4 (k+1) v (p3 v hv).1 (p3 v hv).2 h fun w h' y'=>?_
   exact ⟨ws++[w],by rw [List.map_append];rfl,by rw [List.length_append,hl];rfl,y.trans y'⟩
  rintro acc h6 ⟨ws,rfl,lw,x6⟩;rw [List.length_map,l3] at lw
  walk_at "x0"
  refine Be (Gj _ _) ?_;generalize hm7:h6++[MO.lst (ws.map D.int)]=m7;have x7:Ext [] m5 m7:=by rw [← hm7];exact (Ext.more.trans x6).trans Ext.more
  walk_at "x0"
  refine V5 ?_
  walk_at "x0"
  refine Ga (go.ext x7) ?_;have l4:(DL.cutD ov (some ((4:Nat):Int)) (some ((7:Nat):Int))).length=3:=by rw [Hj (by omega) (by omega)]
  generalize hc4:DL.cutD ov (some ((4:Nat):Int)) (some ((7:Nat):Int))=cn at l4;refine ⟨_,src_list Ad,_,_,fun _=>true,fun d=>match d with | .int v=>.int (v.fmod (H+1) - 1) | _=>.non,rfl,Ad,by rw [List.length_map];omega,fun d hd=>?_,?_⟩
  ·obtain ⟨v, _, rfl⟩ := List.mem_map.mp hd;refine ⟨_, rfl, rfl, fun _ => ?_⟩;obtain ⟨d, h', e, rfl, rfl⟩ : wD (dop Ge (dop Ar (vr 1) (dop Ay (vr 2) (Zr (.int 1)))) (Zr (.int 1))) ((G7 [none, none, some 6] [some (Hs room c0 c1 parts plays), some (.int cell), some (.int room), some (.tup [.int c0, .int c1]), some (.tup (parts.map D.tup)), some (.tup (plays.map Bx)), some (.int H), some (.ref jd), some (.ref m1.length), some (Bx i'), some (.ref h4.length), some (.int ((ov[0]'(by omega)).fmod (((parts[plays[i']'(by omega)]'hpl).length : Int) + 2) - 1)), some (.tup (ws.map D.int)), x13, none, none, none, none]).set 1 (some (.int v))) (m7 ++ [MO.lst (cn.map D.int)]) (fun d h' => d = .int (v.fmod (H + 1) - 1) /\ h' = m7 ++ [MO.lst (cn.map D.int)]) := by
    walk_at "x0"
    exact ⟨rfl,rfl⟩
   exact e
  rw [filter_all,List.map_map];have em:cn.map ((fun d=>match d with | .int v=>D.int (v.fmod (H+1) - 1) | _=>.non) ∘ D.int)=(cn.map fun v=>v.fmod (H+1) - 1).map D.int:=by rw [List.map_map];rfl
  rw [em]
  walk_at "x0"
  refine Be (Gj _ _) ?_;generalize hm8:m7++[MO.lst (cn.map D.int)]++[MO.lst ((cn.map fun v=>v.fmod (H+1) - 1).map D.int)]=m8;have x8:Ext [] m5 m8:=by rw [← hm8];exact (x7.trans Ext.more).trans Ext.more
  have g8:m8[m1.length]?=some (.lst (ps.map ptD)):=(x5.trans x8).old _ _ (by simp) g4;have go8:IsI m8 h4.length ov:=go.ext x8
  walk_at "x0"
  refine ⟨ty_list g8,?_⟩
  walk_at "x0"
  refine Ck go8 (j:=7) (by omega) ?_
  walk_at "x0"
  refine oA hh6 ?_;obtain ⟨s0,hs0,es0⟩:=Bu (ov[7]'(by omega)) (2 ^ H) (p2 hh6).1;obtain ⟨s1,hs1,es1⟩:=Bu (ov[8]'(by omega)) (2 ^ H) (p2 hh6).1;refine Ea (by have:=(p2 hh6).1;omega) ?_;rw [es0]
  walk_at "x0"
  refine Ck go8 (j:=8) (by omega) ?_
  walk_at "x0"
  refine oA hh6 ?_;refine Ea (by have:=(p2 hh6).1;omega) ?_;rw [es1]
  walk_at "x0"
  refine Ck go8 (j:=9) (by omega) ?_
  walk_at "x0"
  refine Dd g8 (by rw [List.length_map];omega) ?_
  walk_at "x0"
  refine nxt _ _ ⟨_,_,_,_,_,ps++[⟨_,ws,cn.map fun v=>v.fmod (H+1) - 1,s0,s1,_⟩],rfl,by rw [List.length_append,lps];rfl,fun p hpm=>?_,by rw [Hh g8,List.map_append];rfl,((x4.trans x5).trans x8).setNew (Nat.le_refl _)⟩;rcases List.mem_append.mp hpm with z|z
  ·exact ops p z
  ·rw [List.mem_singleton.mp z];have:=(p2 hh6).2;refine ⟨lw,by rw [List.length_map];exact l4,fun m hm=>?_,by show s0 < 64;omega,by show s1 < 64;omega⟩;obtain ⟨v,_,rfl⟩:=List.mem_map.mp hm;have:=Dw v (j:=(H:Int)+1) (by omega);omega
 ·rintro l h4 ⟨x9,x10,x11,x12,x13,ps,rfl,lps,ops,g4,x4⟩;rw [Bd] at lps
  walk_at "x0"
  refine Eb (.inl ⟨by decide,by decide⟩) ?_
  walk_at "x0"
  have e11:(11:Int) * (H:Int)=((11 * H:Nat):Int):=by push_cast;rfl
  rw [e11];generalize hm5:h4++[MO.lst []]=m5;have x5:Ext [] m1 m5:=by rw [← hm5];exact x4.trans Ext.more
  have gP:m5[m1.length]?=some (.lst (ps.map ptD)):=by rw [← hm5];exact (Ext.more (W:=[])).old _ _ (by simp) g4
  have gR:m5[h4.length]?=some (.lst (([]:Rows).map V9)):=by rw [← hm5];exact Ad
  have hRl:h4.length < m5.length:=by rw [← hm5];simp
  have hPl:m1.length < h4.length:=O3 g4;refine Cu ?_
  walk_at "x0"
  refine ⟨_,Dr (by omega),Br 0 H,fun i l h=>∃ (y9 y16 y17:Option D) (rs:Rows),l=[some (Hs room c0 c1 parts plays),some (.int cell),some (.int room),some (.tup [.int c0,.int c1]),some (.tup (parts.map D.tup)),some (.tup (plays.map Bx)),some (.int H),some (.ref jd),some (.ref m1.length),y9,x10,x11,x12,x13,some (.ref h4.length),some (.int ((11 * H+i * H * room:Nat):Int)),y16,y17]/\rs.length=i/\Tf rs/\h[m1.length]?=some (.lst (ps.map ptD))/\h[h4.length]?=some (.lst (rs.map V9))/\Ext [] m1 h,
   ⟨x9,none,none,[],by rw [Nat.zero_mul,Nat.zero_mul,Nat.add_zero];rfl,rfl,fun _ z=>absurd z (by simp),gP,gR,x5⟩,fun _ _ _ _=>⟨rfl,rfl⟩,?_,?_⟩
  ·rintro i d l h5 ed ⟨y9,y16,y17,rs,rfl,lrs,ok5,gP5,gR5,y5⟩;refine Tc (fun _ _ a=>a) fun Q2 nxt2=>?_
   have li:=(List.getElem?_eq_some_iff.mp ed).1;rw [Bd] at li;rw [Cd] at ed;obtain ⟨i',hi',rfl⟩:=List.mem_map.mp (List.mem_of_getElem? ed);have lR5:=O3 gR5
   walk_at "x0"
   refine Cu ?_
   walk_at "x0"
   refine ⟨_,Dr (by omega),Br 0 H,fun j l h=>∃ (y17:Option D) (ws:List (List (Int×Int×Int))),l=[some (Hs room c0 c1 parts plays),some (.int cell),some (.int room),some (.tup [.int c0,.int c1]),some (.tup (parts.map D.tup)),some (.tup (plays.map Bx)),some (.int H),some (.ref jd),some (.ref m1.length),some (Bx i'),x10,x11,x12,x13,some (.ref h4.length),some (.int ((11 * H+(i * H+j) * room:Nat):Int)),some (.ref h5.length),y17]/\ws.length=j/\(∀ ls∈ws,ls.length<=1000)/\h[m1.length]?=some (.lst (ps.map ptD))/\h[h4.length]?=some (.lst (rs.map V9))/\h[h5.length]?=some (.lst (ws.map fun ls=>D.tup (ls.map V7)))/\Ext [] m1 h,
    ⟨y17,[],by rw [Nat.add_zero];rfl,rfl,fun _ z=>absurd z (by simp),(Ext.more (W:=[])).old _ _ (by simp) gP5,(Ext.more (W:=[])).old _ _ (by simp) gR5,Ad,y5.trans Ext.more⟩,fun _ _ _ _=>⟨rfl,rfl⟩,?_,?_⟩
   ·rintro j d l h7 ed2 ⟨y17,ws,rfl,lws,ok7,gP7,gR7,gW7,y7⟩;refine Tc (fun _ _ a=>a) fun Q3 nxt3=>?_
    have lj:=(List.getElem?_eq_some_iff.mp ed2).1;rw [Bd] at lj;rw [Cd] at ed2;obtain ⟨j',hj',rfl⟩:=List.mem_map.mp (List.mem_of_getElem? ed2);have bb:=Ye (r:=room) li lj
    walk_at "x0"
    refine ⟨ty_list gW7,?_⟩
    walk_at "x0"
    have eA:((11 * H+(i * H+j) * room:Nat):Int)+(room:Int)=((11 * H+(i * H+(j+1)) * room:Nat):Int):=by
     have:11 * H+(i * H+(j+1)) * room=11 * H+(i * H+j) * room+room:=by rw [← Nat.add_assoc (i * H) j 1,Nat.add_mul (i * H+j) 1 room];omega
     rw [this];push_cast;rfl
    rw [eA];refine Ga (g1.ext y7) ?_;have eB:11 * H+(i * H+(j+1)) * room=11 * H+(i * H+j) * room+room:=by rw [← Nat.add_assoc (i * H) j 1,Nat.add_mul (i * H+j) 1 room];omega
    have lo:(DL.cutD vs (some ((11 * H+(i * H+j) * room:Nat):Int)) (some ((11 * H+(i * H+(j+1)) * room:Nat):Int))).length=room:=by rw [Hj (by omega) (by omega)];omega
    have po:∀ v∈DL.cutD vs (some ((11 * H+(i * H+j) * room:Nat):Int)) (some ((11 * H+(i * H+(j+1)) * room:Nat):Int)),0<=v/\v < 2147483647:=fun v hv=>pv v (Mz hv)
    generalize hov:DL.cutD vs (some ((11 * H+(i * H+j) * room:Nat):Int)) (some ((11 * H+(i * H+(j+1)) * room:Nat):Int))=ov at lo po
    walk_at "x0"
    refine V8 k h7.length ov room H (by omega) (by omega) _ Ad (by omega) (by omega) po fun ls h8 ll8 y8=>?_
    have z8:=(Ext.more (W:=[])).trans y8
    walk_at "x0"
    refine Dd (z8.old _ _ (by simp) gW7) (by rw [List.length_map];omega) ?_
    walk_at "x0"
    rw [eA];refine nxt3 _ _ ⟨_,ws++[ls],rfl,by rw [List.length_append,lws];rfl,fun z hz=>?_,?_,?_,by rw [Hh (z8.old _ _ (by simp) gW7),List.map_append];rfl,(y7.trans z8).setNew ?_⟩
    ·rcases List.mem_append.mp hz with z'|z'
     ·exact ok7 z z'
     ·rw [List.mem_singleton.mp z'];exact ll8
    ·rw [List.getElem?_set_ne (by omega)];exact z8.old _ _ (by simp) gP7
    ·rw [List.getElem?_set_ne (by omega)];exact z8.old _ _ (by simp) gR7
    ·exact y5.len
   ·rintro l h7 ⟨y17,ws,rfl,lws,ok7,gP7,gR7,gW7,y7⟩;rw [Bd] at lws
    walk_at "x0"
    refine ⟨ty_list gR7,?_⟩
    walk_at "x0"
    refine Be (Cy gW7) ?_
    walk_at "x0"
    refine Dd gR7 (by rw [List.length_map];omega) ?_
    walk_at "x0"
    refine nxt2 _ _ ⟨some (Bx i'),some (.ref h5.length),y17,rs++[ws],?_,by rw [List.length_append,lrs];rfl,fun z hz=>?_,?_,by rw [Hh gR7,List.map_append];rfl,y7.setNew (by omega)⟩
    ·rw [Bd];have e:11 * H+(i * H+H) * room=11 * H+(i+1) * H * room:=by rw [Nat.add_mul i 1 H,Nat.one_mul]
     rw [e]
    ·rcases List.mem_append.mp hz with z'|z'
     ·exact ok5 z z'
     ·rw [List.mem_singleton.mp z'];exact ok7
    ·rw [List.getElem?_set_ne (by omega)];exact gP7
  ·rintro l h5 ⟨y9,y16,y17,rs,rfl,lrs,ok5,gP5,gR5,y5⟩
   walk_at "x0"
   refine Be (Cy gP5) ?_
   walk_at "x0"
   refine Be (Cy gR5) ?_
   walk_at "x0"
   refine Ck (g1.ext y5) (j:=10) (by omega) ?_
   walk_at "x0"
   refine Ac (j:=0) (d:=.int c0) rfl ?_
   walk_at "x0"
   refine Ck (g1.ext y5) (j:=10) (by omega) ?_
   walk_at "x0"
   refine Ac (j:=1) (d:=.int c1) rfl ?_
   walk_at "x0"
   exact h ps rs _ _ h5 lps ops ok5 (x1.trans y5)
noncomputable def ob:Option Int->D
 | none=>.non
 | some i=>.int i
theorem Ab0 {l:List Int}(h:l.length=2):∃ a b,l=[a,b]:=by
 match l,h with
 | [a,b],_=>exact ⟨a,b,rfl⟩
theorem Ab1 {n:Nat}{ds:List D}{mh:MH}{P:D->MH->Prop}(g:mh[n]?=some (.lst ds)) (h:P (.ref mh.length) (mh++[.lst ds.reverse])):wV (aH (.ref n) mh) P:=by
 refine ⟨_,_,?_,h⟩;show (match mh[n]? with | some (.lst o)=>some (D.ref mh.length,mh++[MO.lst o.reverse]) | _=>none)=_;rw [g]
theorem O6 (k:Nat) (v lo hi:Int) (hl:lo<=hi) (mh:MH) {P:D->MH->Prop}(h:∀ (x y:Option Int) h',Ext [] mh h'->P (.tup [ob x,ob y]) h'):wV (Af (Gk (k+1)) fuel f51 [.int v,.int lo,.int hi] mh) P:=by
 refine Ai (Abv k) nJ.1 nJ.2 rfl ?_;show wS (b51 k) [some (.int v),some (.int lo),some (.int hi),none] mh _;unfold b51
 walk_at "x0"
 refine V4 (ns:=[lo+(v.fdiv 4).fmod (hi - lo+1),lo+(v.fdiv 64).fmod (hi - lo+1)]) Ad (by simp) ?_;obtain ⟨a,b,eab⟩:=Ab0 (l:=sortI [lo+(v.fdiv 4).fmod (hi - lo+1),lo+(v.fdiv 64).fmod (hi - lo+1)]) (by rw [(sortI_perm _).length_eq];rfl);rw [eab]
 have rest:∀ (j:Nat) (a b:Int) (m2:MH),Ext [] mh m2->m2[j]?=some (.lst ([a,b].map D.int))->wS (Ab (retS (dop ixD (lstM (Aa (Aw (Aa (dop ixD (vr 3) (Zr (.int 0))) (Aa (dop ixD (vr 3) (Zr (.int 1))) (Zr [])))) (Aa (Aw (Aa (dop ixD (vr 3) (Zr (.int 0))) (Aa (Zr .non) (Zr [])))) (Aa (Aw (Aa (Zr .non) (Aa (dop ixD (vr 3) (Zr (.int 1))) (Zr [])))) (Aa (Aw (Aa (dop ixD (vr 3) (Zr (.int 0))) (Aa (dop Ay (dop ixD (vr 3) (Zr (.int 1))) (Zr (.int 1))) (Zr [])))) (Zr [])))))) (dop Ar (vr 0) (Zr (.int 4)))))
  Zn) [some (.int v),some (.int lo),some (.int hi),some (.ref j)] m2 (lQ P):=fun j a b m2 x2 g2=>by
  walk_at "x0"
  refine Bl (j:=0) g2 rfl ?_
  walk_at "x0"
  refine Bl (j:=1) g2 rfl ?_
  walk_at "x0"
  refine Bl (j:=0) g2 rfl ?_
  walk_at "x0"
  refine Bl (j:=1) g2 rfl ?_
  walk_at "x0"
  refine Bl (j:=0) g2 rfl ?_
  walk_at "x0"
  refine Bl (j:=1) g2 rfl ?_
  walk_at "x0"
  obtain ⟨r,hr,er⟩:=Bu v 4 (by decide);have er:v.fmod 4=(r:Int):=er;rw [er];refine Di Ad (by simpa using hr) fun d hd=>?_
  simp only [List.mem_cons,List.mem_nil_iff,or_false] at hd;rcases hd with rfl|rfl|rfl|rfl
  ·exact h (some a) (some b) _ (x2.trans Ext.more)
  ·exact h (some a) none _ (x2.trans Ext.more)
  ·exact h none (some b) _ (x2.trans Ext.more)
  ·exact h (some a) (some (b+1)) _ (x2.trans Ext.more)
 walk_at "x0"
 refine Ax (fun e=>?_) fun e=>?_
 ·refine Ie (lM (Aau ?_))
  walk_at "x0"
  refine Ab1 Ad ?_;exact Ig (Bp (Dz (Bp (rest _ b a _ ((Ext.more.trans Ext.more).trans Ext.more) Ad))))
 ·exact Dz (Bp (rest _ a b _ (Ext.more.trans Ext.more) Ad))
inductive HT where
 | no (a:HT) | both (a b:HT) | either (a b:HT) | at (n:Int) | num (b:Nat) (lo hi:Option Int) | has (b:Nat) | fallen | many (b n:Nat) | bell
noncomputable def htD:HT->D
 | .no a=>.tup [.str "not",htD a]
 | .both a b=>.tup [.str "both",htD a,htD b]
 | .either a b=>.tup [.str "either",htD a,htD b]
 | .at n=>.tup [.str "at",.int n]
 | .num b lo hi=>.tup [.str "number",.int b,ob lo,ob hi]
 | .has b=>.tup [.str "has",.int b]
 | .fallen=>.tup [.str "fallen"]
 | .many b n=>.tup [.str "many",.int b,.int n]
 | .bell=>.tup [.str "bell"]
noncomputable def HT.ok:HT->Prop
 | .no a=>a.ok
 | .both a b=>a.ok/\b.ok
 | .either a b=>a.ok/\b.ok
 | .num b _ _=>b < 3
 | .has b=>b < 3
 | .many b _=>b < 2
 | _=>True
noncomputable def HT.dep:HT->Nat
 | .no a=>a.dep+1
 | .both a b=>max a.dep b.dep+1
 | .either a b=>max a.dep b.dep+1
 | _=>0
noncomputable def nd:Nat->Nat
 | 0=>1
 | d+1=>1+2 * nd d
theorem Ab2 (d:Nat):1<=nd d:=by
 cases d with
 | zero=>exact Nat.le_refl _
 | succ d=>show 1<=1+2 * nd d;omega
theorem Tg {n:Nat}{ns:List Int}{mh:MH}{P:D->MH->Prop}(g:IsI mh n ns) (hl:0 < ns.length) (hz:ns.length<=1000000) (h:∀ h',Ext [n] mh h'->h'.length=mh.length->IsI h' n ns.tail->P (.int ns[0]) h'):wV (H9 (.ref n) [.int 0] mh) P:=by
 refine lV (k:=0) (y:=.int ns[0]) g (by rw [List.getElem?_map,List.getElem?_eq_getElem hl];rfl) (by rw [List.length_map];exact hz) ?_;refine h _ Ext.set (by rw [List.length_set]) ?_;have:(ns.map D.int).eraseIdx 0=ns.tail.map D.int:=by cases ns <;> rfl
 rw [this];exact Hh g
theorem Afq {a b:Str}{mh:MH}{P:D->MH->Prop}(ha:PyData.strOk a=true) (hb:PyData.strOk b=true) (h:P (.bl (a==b)) mh):wV (eqD (.str a) (.str b) mh) P:=lU (lW ha hb rfl mh) h
theorem Wa (k jd:Nat) (d v:Int) (m:MH) {P:D->MH->Prop}(h:∀ t h',HT.ok t->t.dep=0->Ext [] m h'->P (htD t) h'):wS (Ab (Ag (Ak (Af (Gk (k+1)) fuel f51) (Aa (dop Ao (vr 2) (Zr (.int 18))) (Aa (cD (Zr (.int 4))) (Aa (Zr (.int 4)) (Zr []))))) (J8 [4,5]))
 (Ab (Ag (lstM (Aa (Aw (Aa (Zr (.str "at")) (Aa (dop Ar (dop Ao (vr 2) (Zr (.int 18))) (dop ixD (lstM (Aa (Zr (.int 7)) (Aa (Zr (.int 61)) (Zr [])))) (dop Ar (dop Ao (vr 2) (Zr (.int 108))) (Zr (.int 2))))) (Zr [])))) (Aa (Aw (Aa (Zr (.str "number")) (Aa (dop Ar (dop Ao (vr 2) (Zr (.int 18))) (Zr (.int 3))) (Aa (vr 4) (Aa (vr 5) (Zr [])))))) (Zr [])))) (Ae 6))
 (Ab (Ag (dop Ay (vr 6) (lstM (Aa (Aw (Aa (Zr (.str "has")) (Aa (dop Ar (dop Ao (vr 2) (Zr (.int 18))) (Zr (.int 3))) (Zr [])))) (Aa (Aw (Aa (Zr (.str "fallen")) (Zr []))) (Zr []))))) (Ae 6))
 (Ab (retS (dop ixD (dop Ay (vr 6) (lstM (Aa (Aw (Aa (Zr (.str "many")) (Aa (dop Ar (dop Ao (vr 2) (Zr (.int 18))) (Zr (.int 2))) (Aa (dop Ar (dop Ao (vr 2) (Zr (.int 36))) (Zr (.int 4))) (Zr []))))) (Aa (Aw (Aa (Zr (.str "bell")) (Zr []))) (Zr []))))) (dop Ar (dop Ao (vr 2) (Zr (.int 3))) (Zr (.int 6)))))
 Zn)))) [some (.ref jd),some (.int d),some (.int v),none,none,none,none] m (lQ P):=by
  walk_at "x0"
  refine O6 k _ (-4) 4 (by decide) m fun lo hi h1 x1=>?_
  refine S5 rfl ?_;show wS _ [some (.ref jd),some (.int d),some (.int v),none,some (ob lo),some (ob hi),none] h1 _
  walk_at "x0"
  obtain ⟨b3,hb3,e3⟩:=Bu (v.fdiv 18) 3 (by decide);obtain ⟨b2,hb2,e2⟩:=Bu (v.fdiv 18) 2 (by decide);obtain ⟨n7,hn7,e7⟩:=Bu (v.fdiv 36) 4 (by decide);obtain ⟨r,hr,er⟩:=Bu (v.fdiv 3) 6 (by decide);obtain ⟨f2,hf2,ef⟩:=Bu (v.fdiv 108) 2 (by decide);have e3:(v.fdiv 18).fmod 3=(b3:Int):=e3;have e2:(v.fdiv 18).fmod 2=(b2:Int):=e2;have e7:(v.fdiv 36).fmod 4=(n7:Int):=e7;have er:(v.fdiv 3).fmod 6=(r:Int):=er;have ef:(v.fdiv 108).fmod 2=(f2:Int):=ef;rw [ef];refine Di Ad (by simpa using hf2) fun d hd=>?_
  obtain ⟨q,rfl,hq⟩:∃ q:Int,d=.int q/\q≠0:=by
    simp only [List.mem_cons,List.mem_nil_iff,or_false] at hd;rcases hd with rfl|rfl
    · exact ⟨7,rfl,by decide⟩
    · exact ⟨61,rfl,by decide⟩
  refine Ea hq ?_
  walk_at "x0"
  rw [e3]
  walk_at "x0"
  refine Ja ((Ext.more (W:=[])).old _ _ (by simp) Ad) Ad (by simp) ?_
  walk_at "x0"
  rw [e2,e7];refine Ja ((Ext.more (W:=[])).old _ _ (by simp) Ad) Ad (by simp) ?_
  walk_at "x0"
  rw [er];have fin:∀ {a b c e f g:MO},Ext [] m (h1++[a]++[b]++[c]++[e]++[f]++[g]):=fun {a b c e f g}=>x1.trans (((((Ext.more.trans Ext.more).trans Ext.more).trans Ext.more).trans Ext.more).trans Ext.more)
  refine Di Ad (by simpa using hr) fun d hd=>?_
  simp only [List.mem_cons,List.mem_nil_iff,or_false,List.cons_append,List.nil_append] at hd;rcases hd with rfl|rfl|rfl|rfl|rfl|rfl
  · exact h (.at _) _ trivial rfl fin
  · exact h (.num b3 lo hi) _ hb3 rfl fin
  · exact h (.has b3) _ hb3 rfl fin
  · exact h .fallen _ trivial rfl fin
  · exact h (.many b2 n7) _ hb2 rfl fin
  · exact h .bell _ trivial rfl fin
theorem lt4 {a:Nat}(h:a < 4):a=0\/a=1\/a=2\/a=3:=by omega
theorem Aj {x y:D}{mh:MH}{P:D->MH->Prop}(e:∀ mh,eqD x y mh=some (.bl false,mh)) (h:P (.bl false) mh):wV (eqD x y mh) P:=⟨_,_,e mh,h⟩
theorem Ce {x y:D}{mh:MH}{P:D->MH->Prop}(e:∀ mh,eqD x y mh=some (.bl true,mh)) (h:P (.bl true) mh):wV (eqD x y mh) P:=⟨_,_,e mh,h⟩
theorem Jm {n:Nat}{a b c:MH}(x:Ext [n] a b) (y:Ext [] b c):Ext [n] a c:=x.trans y.weak
theorem oE (d:Nat):∀ (k jd:Nat) (vs:List Int) (mh:MH) (g:IsI mh jd vs) (hn:nd d<=vs.length) (hz:vs.length<=1000) {P:D->MH->Prop}(h:∀ (t:HT) (ws:List Int) h',t.ok->t.dep<=d->vs.length<=ws.length+nd d->ws.length<=1000->Ext [jd] mh h'->IsI h' jd ws->P (htD t) h'),
  wV (Af (Gk (k+d+2)) fuel f52 [.ref jd,.int d] mh) P:=by
 induction d with
 | zero =>
  intro k jd vs mh g hn hz P h;refine Ai (nR (k+1)) S8.1 S8.2 rfl ?_;show wS (b52 (k+1)) [some (.ref jd),some (.int ((0:Nat):Int)),none,none,none,none,none] mh _;unfold b52
  walk_at "x0"
  refine ⟨ty_list g,?_⟩
  walk_at "x0"
  have hn:1<=vs.length:=hn;refine Tg g (by omega) (by omega) fun m1 y1 l1 g1=>?_
  refine Ig (Bp ?_);refine Ie (V2 ?_);repeat (with_reducible first | refine Sx ?_ | refine Kp ?_ | refine lG ?_ | refine lF (by with_unfolding_all rfl) ?_ | refine Fx ?_ | refine S7 ?_ | refine lY ?_)
  refine Ds (by decide) (J1 (Dz (Bp (Wa k jd _ _ m1 fun t h' ok dp x=>?_))));exact h t _ h' ok (by omega) (by rw [List.length_tail];show vs.length<=vs.length - 1+1;omega) (by rw [List.length_tail];omega) (Jm y1 x) (g1.ext x)
 | succ d ih =>
  intro k jd vs mh g hn hz P h;have np:=Ab2 d;have hn:1+2 * nd d<=vs.length:=hn;have hnd:nd (d+1)=1+2 * nd d:=rfl;refine Ai (nR (k+d+2)) S8.1 S8.2 rfl ?_;show wS (b52 (k+d+2)) [some (.ref jd),some (.int ((d+1:Nat):Int)),none,none,none,none,none] mh _;unfold b52
  walk_at "x0"
  refine ⟨ty_list g,?_⟩
  walk_at "x0"
  refine Tg g (by omega) (by omega) fun m1 y1 l1 g1=>?_
  generalize vs[0]'(by omega)=v;refine Ig (Bp ?_);have leaf:=Wa (k+d+1) jd ((d+1:Nat):Int) v m1 (P:=P) fun t h' ok dp x=>h t _ h' ok (by omega) (by rw [List.length_tail];omega) (by rw [List.length_tail];omega) (Jm y1 x) (g1.ext x)
  have lt:vs.tail.length=vs.length - 1:=List.length_tail;refine Ie (V2 ?_)
  walk_at "x0"
  refine Ax (fun e=>?_) fun e=>?_
  ·walk_at "x0"
   refine Ax (fun e2=>?_) fun e2=>?_
   ·walk_at "x0"
    obtain ⟨r,hr,er⟩:=Bu (v.fdiv 3) 4 (by decide);have er:(v.fdiv 3).fmod 4=(r:Int):=er;rw [er];have ed:((d+1:Nat):Int) - 1=(d:Int):=by push_cast;omega
    rcases lt4 hr with rfl|rfl|rfl|rfl
    ·refine Bl (j:=0) Ad rfl ?_
     walk_at "x0"
     refine Ce (fun _=>by kernel_rfl) ?_
     walk_at "x0"
     rw [ed];refine ih k jd vs.tail _ (g1.ext Ext.more) (by omega) (by omega) fun t ws h' ok dp hl hw x gw=>?_
     walk_at "x0"
     exact h (.no t) ws h' ok (by show t.dep+1<=d+1;omega) (by omega) hw ((Jm y1 Ext.more).trans x) gw
    ·refine Bl (j:=1) Ad rfl ?_
     walk_at "x0"
     refine Aj (fun _=>by kernel_rfl) ?_
     walk_at "x0"
     rw [ed];refine ih k jd vs.tail _ (g1.ext Ext.more) (by omega) (by omega) fun t ws h' ok dp hl hw x gw=>?_
     walk_at "x0"
     rw [ed];refine ih k jd ws _ gw (by omega) (by omega) fun t2 ws2 h2 ok2 dp2 hl2 hw2 x2 gw2=>?_
     walk_at "x0"
     exact h (.both t t2) ws2 h2 ⟨ok,ok2⟩ (by show max t.dep t2.dep+1<=d+1;omega) (by omega) hw2 (((Jm y1 Ext.more).trans x).trans x2) gw2
    ·refine Bl (j:=2) Ad rfl ?_
     walk_at "x0"
     refine Aj (fun _=>by kernel_rfl) ?_
     walk_at "x0"
     rw [ed];refine ih k jd vs.tail _ (g1.ext Ext.more) (by omega) (by omega) fun t ws h' ok dp hl hw x gw=>?_
     walk_at "x0"
     rw [ed];refine ih k jd ws _ gw (by omega) (by omega) fun t2 ws2 h2 ok2 dp2 hl2 hw2 x2 gw2=>?_
     walk_at "x0"
     exact h (.either t t2) ws2 h2 ⟨ok,ok2⟩ (by show max t.dep t2.dep+1<=d+1;omega) (by omega) hw2 (((Jm y1 Ext.more).trans x).trans x2) gw2
    ·refine Bl (j:=3) Ad rfl ?_
     walk_at "x0"
     refine Aj (fun _=>by kernel_rfl) ?_
     walk_at "x0"
     rw [ed];refine ih k jd vs.tail _ (g1.ext Ext.more) (by omega) (by omega) fun t ws h' ok dp hl hw x gw=>?_
     walk_at "x0"
     rw [ed];refine ih k jd ws _ gw (by omega) (by omega) fun t2 ws2 h2 ok2 dp2 hl2 hw2 x2 gw2=>?_
     walk_at "x0"
     exact h (.both t t2) ws2 h2 ⟨ok,ok2⟩ (by show max t.dep t2.dep+1<=d+1;omega) (by omega) hw2 (((Jm y1 Ext.more).trans x).trans x2) gw2
   ·exact Dz (Bp leaf)
  ·exact J1 (Dz (Bp leaf))
inductive TT where
 | no (a:TT) | both (a b:TT) | either (a b:TT) | letters (kd:Int) (lo hi:Option Int) | count (r:Nat) (t:HT) (lo hi:Option Int)
noncomputable def ttD:TT->D
 | .no a=>.tup [.str "not",ttD a]
 | .both a b=>.tup [.str "both",ttD a,ttD b]
 | .either a b=>.tup [.str "either",ttD a,ttD b]
 | .letters kd lo hi=>.tup [.str "letters",.int kd,ob lo,ob hi]
 | .count r t lo hi=>.tup [.str "count",.int r,htD t,ob lo,ob hi]
noncomputable def TT.ok:TT->Prop
 | .no a=>a.ok
 | .both a b=>a.ok/\b.ok
 | .either a b=>a.ok/\b.ok
 | .letters _ _ _=>True
 | .count _ t _ _=>t.ok/\t.dep<=2
noncomputable def TT.dep:TT->Nat
 | .no a=>a.dep+1
 | .both a b=>max a.dep b.dep+1
 | .either a b=>max a.dep b.dep+1
 | _=>0
noncomputable def nt:Nat->Nat
 | 0=>8
 | d+1=>1+2 * nt d
theorem Ab3 (d:Nat):8<=nt d:=by
 induction d with
 | zero=>exact Nat.le_refl _
 | succ d ih=>show 8<=1+2 * nt d;omega
theorem Q6 (k jd:Nat) (d v:Int) (R:Nat) (hR:1<=R) (vs:List Int) (m:MH) (g:IsI m jd vs) (hn:7<=vs.length) (hz:vs.length<=1000) {P:D->MH->Prop}(h:∀ (t:TT) (ws:List Int) h',t.ok->t.dep=0->vs.length<=ws.length+7->ws.length<=1000->Ext [jd] m h'->IsI h' jd ws->P (ttD t) h'):wS (Ab (Ag (Ak (Af (Gk (k+4)) fuel f51) (Aa (dop Ao (vr 3) (Zr (.int 30))) (Aa (Zr (.int 0)) (Aa (Zr (.int 3)) (Zr []))))) (J8 [5,6]))
 (Ab (ifS (Ah (dop eqD (dop Ar (dop Ao (vr 3) (Zr (.int 3))) (Zr (.int 3))) (Zr (.int 0))))
 (Ab (retS (Aw (Aa (Zr (.str "letters")) (Aa (dop Ay (Zr (.int 1)) (dop Ar (dop Ao (vr 3) (Zr (.int 9))) (Zr (.int 3)))) (Aa (vr 5) (Aa (vr 6) (Zr [])))))))
  Zn)
 Zn)
 (Ab (retS (Aw (Aa (Zr (.str "count")) (Aa (dop Ar (dop Ao (vr 3) (Zr (.int 9))) (vr 1)) (Aa (Ak (Af (Gk (k+4)) fuel f52) (Aa (vr 0) (Aa (Zr (.int 2)) (Zr [])))) (Aa (vr 5) (Aa (vr 6) (Zr []))))))))
 Zn))) [some (.ref jd),some (.int R),some (.int d),some (.int v),none,none,none] m (lQ P):=by
  walk_at "x0"
  refine O6 (k+3) _ 0 3 (by decide) _ fun lo hi h1 x0=>?_
  refine S5 rfl ?_;show wS _ [some (.ref jd),some (.int R),some (.int d),some (.int v),none,some (ob lo),some (ob hi)] h1 _
  walk_at "x0"
  refine Ax (fun e=>?_) fun e=>?_
  · walk_at "x0"
    exact h (.letters _ lo hi) vs h1 trivial rfl (by omega) hz x0.weak (g.ext x0)
  · walk_at "x0"
    obtain ⟨r,hr,er⟩:=Bu (v.fdiv 9) R hR;rw [er]
    walk_at "x0"
    refine oE 2 k jd vs h1 (g.ext x0) hn hz fun t ws h' ok dp hl hw x gw=>?_
    walk_at "x0"
    exact h (.count r t lo hi) ws h' ⟨ok,dp⟩ rfl hl hw (x0.weak.trans x) gw
theorem Wb (d:Nat):∀ (k jd R:Nat) (hR:1<=R) (vs:List Int) (mh:MH) (g:IsI mh jd vs) (hn:nt d<=vs.length) (hz:vs.length<=1000) {P:D->MH->Prop}(h:∀ (t:TT) (ws:List Int) h',t.ok->t.dep<=d->vs.length<=ws.length+nt d->ws.length<=1000->Ext [jd] mh h'->IsI h' jd ws->P (ttD t) h'),
  wV (Af (Gk (k+d+5)) fuel f53 [.ref jd,.int R,.int d] mh) P:=by
 induction d with
 | zero =>
  intro k jd R hR vs mh g hn hz P h;refine Ai (nT (k+4)) S9.1 S9.2 rfl ?_;show wS (b53 (k+4)) [some (.ref jd),some (.int R),some (.int ((0:Nat):Int)),none,none,none,none] mh _;unfold b53
  walk_at "x0"
  refine ⟨ty_list g,?_⟩
  walk_at "x0"
  have hn:8<=vs.length:=hn;refine Tg g (by omega) (by omega) fun m1 y1 l1 g1=>?_
  have lt:vs.tail.length=vs.length - 1:=List.length_tail;refine Ig (Bp ?_);refine Ie (V2 ?_);repeat (with_reducible first | refine Sx ?_ | refine Kp ?_ | refine lG ?_ | refine lF (by with_unfolding_all rfl) ?_ | refine Fx ?_ | refine S7 ?_ | refine lY ?_)
  refine Ds (by decide) (J1 (Dz (Bp (Q6 k jd _ _ R hR vs.tail m1 g1 (by omega) (by omega) fun t ws h' ok dp hl hw x gw=>?_))));exact h t ws h' ok (by omega) (by show vs.length<=ws.length+8;omega) hw (y1.trans x) gw
 | succ d ih =>
  intro k jd R hR vs mh g hn hz P h;have np:=Ab3 d;have hn:1+2 * nt d<=vs.length:=hn;have hnd:nt (d+1)=1+2 * nt d:=rfl;refine Ai (nT (k+d+5)) S9.1 S9.2 rfl ?_;show wS (b53 (k+d+5)) [some (.ref jd),some (.int R),some (.int ((d+1:Nat):Int)),none,none,none,none] mh _;unfold b53
  walk_at "x0"
  refine ⟨ty_list g,?_⟩
  walk_at "x0"
  refine Tg g (by omega) (by omega) fun m1 y1 l1 g1=>?_
  generalize vs[0]'(by omega)=v;have lt:vs.tail.length=vs.length - 1:=List.length_tail;refine Ig (Bp ?_);have leaf:=Q6 (k+d+1) jd ((d+1:Nat):Int) v R hR vs.tail m1 g1 (by omega) (by omega) (P:=P) fun t ws h' ok dp hl hw x gw=>h t ws h' ok (by omega) (by omega) hw (y1.trans x) gw
  refine Ie (V2 ?_)
  walk_at "x0"
  refine Ax (fun e=>?_) fun e=>?_
  ·walk_at "x0"
   refine Ax (fun e2=>?_) fun e2=>?_
   ·walk_at "x0"
    obtain ⟨r,hr,er⟩:=Bu (v.fdiv 3) 4 (by decide);have er:(v.fdiv 3).fmod 4=(r:Int):=er;rw [er];have ed:((d+1:Nat):Int) - 1=(d:Int):=by push_cast;omega
    rcases lt4 hr with rfl|rfl|rfl|rfl
    ·refine Bl (j:=0) Ad rfl ?_
     walk_at "x0"
     refine Ce (fun _=>by kernel_rfl) ?_
     walk_at "x0"
     rw [ed];refine ih k jd R hR vs.tail _ (g1.ext Ext.more) (by omega) (by omega) fun t ws h' ok dp hl hw x gw=>?_
     walk_at "x0"
     exact h (.no t) ws h' ok (by show t.dep+1<=d+1;omega) (by omega) hw ((Jm y1 Ext.more).trans x) gw
    ·refine Bl (j:=1) Ad rfl ?_
     walk_at "x0"
     refine Aj (fun _=>by kernel_rfl) ?_
     walk_at "x0"
     rw [ed];refine ih k jd R hR vs.tail _ (g1.ext Ext.more) (by omega) (by omega) fun t ws h' ok dp hl hw x gw=>?_
     walk_at "x0"
     rw [ed];refine ih k jd R hR ws _ gw (by omega) (by omega) fun t2 ws2 h2 ok2 dp2 hl2 hw2 x2 gw2=>?_
     walk_at "x0"
     exact h (.both t t2) ws2 h2 ⟨ok,ok2⟩ (by show max t.dep t2.dep+1<=d+1;omega) (by omega) hw2 (((Jm y1 Ext.more).trans x).trans x2) gw2
    ·refine Bl (j:=2) Ad rfl ?_
     walk_at "x0"
     refine Aj (fun _=>by kernel_rfl) ?_
     walk_at "x0"
     rw [ed];refine ih k jd R hR vs.tail _ (g1.ext Ext.more) (by omega) (by omega) fun t ws h' ok dp hl hw x gw=>?_
     walk_at "x0"
     rw [ed];refine ih k jd R hR ws _ gw (by omega) (by omega) fun t2 ws2 h2 ok2 dp2 hl2 hw2 x2 gw2=>?_
     walk_at "x0"
     exact h (.either t t2) ws2 h2 ⟨ok,ok2⟩ (by show max t.dep t2.dep+1<=d+1;omega) (by omega) hw2 (((Jm y1 Ext.more).trans x).trans x2) gw2
    ·refine Bl (j:=3) Ad rfl ?_
     walk_at "x0"
     refine Aj (fun _=>by kernel_rfl) ?_
     walk_at "x0"
     rw [ed];refine ih k jd R hR vs.tail _ (g1.ext Ext.more) (by omega) (by omega) fun t ws h' ok dp hl hw x gw=>?_
     walk_at "x0"
     rw [ed];refine ih k jd R hR ws _ gw (by omega) (by omega) fun t2 ws2 h2 ok2 dp2 hl2 hw2 x2 gw2=>?_
     walk_at "x0"
     exact h (.either t t2) ws2 h2 ⟨ok,ok2⟩ (by show max t.dep t2.dep+1<=d+1;omega) (by omega) hw2 (((Jm y1 Ext.more).trans x).trans x2) gw2
   ·exact Dz (Bp leaf)
  ·exact J1 (Dz (Bp leaf))
theorem vW {α:Type}{m:DM α}{loc:DL.Loc}{mh h:MH}{x:α}(w:wD m loc mh fun a h'=>a=x/\h'=h):m loc mh=some (x,h):=by
 obtain ⟨a,h',e,rfl,rfl⟩:=w;exact e
theorem Ab4 {r:Option (D×MH)}{h:MH}{x:D}(w:wV r fun a h'=>a=x/\h'=h):r=some (x,h):=by
 obtain ⟨a,h',e,rfl,rfl⟩:=w;exact e
theorem Wc {mi:DM Src}{cs:List (Option Nat)}{g:GM}{tc:DM Bool}{me:DM D}{loc:DL.Loc}{mh:MH}{Q:D->MH->Prop}(h:wD mi loc mh fun src h0=>∃ ds,∃ (p:D->Bool) (f:D->D),src=.seq ds/\ds.length<=1000000 /\
  (∀ d∈ds,∃ l1,g d (G7 cs loc) h0=some (l1,h0)/\tc l1 h0=some (p d,h0)/\(p d=true->me l1 h0=some (f d,h0)))/\Q (.ref h0.length) (h0++[.lst ((ds.filter p).map f)])):wD (Bo mi cs g tc me) loc mh Q:=by
 obtain ⟨src,h0,e,ds,p,f,rfl,hz,step,q⟩:=h;exact ⟨_,_,X6 e (le_size hz) step,q⟩
theorem Ab5 {s h:Nat}{mh:MH}{P:D->MH->Prop}(q:P (.int ((s:Int) / 2 ^ (h:Int).toNat)) mh):wV (Ad9 (.int s) (.int h) mh) P:=Ih (decide_eq_true (by omega)) q
theorem uK {i j:Int}{mh:MH}{P:D->MH->Prop}(q:P (.int (Builtin.bitAnd i j)) mh):wV (vP (.int i) (.int j) mh) P:=Ih rfl q
theorem Aei (k s h:Nat) (mh:MH):Af (Gk (k+1)) fuel f1 [.int s,.int h] mh=some (.bl (s.testBit h),mh):=by
 refine Ab4 ?_;refine Ai (Aef k) vR.1 vR.2 rfl ?_;show wS (b1 k) [some (.int s),some (.int h)] mh _;unfold b1
 walk_at "x0"
 refine Ab5 ?_
 walk_at "x0"
 refine uK ?_
 walk_at "x0"
 refine ⟨?_,rfl⟩;rw [tX]
noncomputable def tbD (s:Nat):D->Bool
 | .int i=>s.testBit i.toNat
 | _=>false
theorem oF (s n:Nat):(((List.range n).map Bx).filter (tbD s)).map (fun d=>d)=(Fw s n).map Bx:=by
 unfold Fw;rw [List.map_id',List.filter_map];rfl
theorem Wf (k s:Nat) (hs:s < 64) (mh:MH) {P:D->MH->Prop}(h:∀ h',Ext [] mh h'->P (.tup ((Fw s 6).map Bx)) h'):wV (Af (Gk (k+2)) fuel f2 [.int s] mh) P:=by
 have hb:=bits_le (g:=s) (n:=6) hs;refine Ai (Aeg (k+1)) vU.1 vU.2 rfl ?_;show wS (b2 (k+1)) [some (.int s)] mh _;unfold b2
 walk_at "x0"
 refine Wc ?_
 walk_at "x0"
 refine ⟨rfl,?_⟩
 walk_at "x0"
 refine Bh (d:=.int (Builtin.Int.intBits (s:Int):Nat)) (h:=mh) rfl ?_
 walk_at "x0"
 refine ⟨_,Dr (by omega),Br 0 (Builtin.Int.intBits (s:Int)),tbD s,fun d=>d,rfl,by rw [Bd];omega,fun d hd=>?_,?_⟩
 ·rw [Cd] at hd;obtain ⟨i,_,rfl⟩:=List.mem_map.mp hd;refine ⟨_,rfl,?_,fun _=>rfl⟩;refine vW ?_
  walk_at "x0"
  refine Bh (Aei k s i mh) ?_
  walk_at "x0"
  exact ⟨rfl,rfl⟩
 rw [Cd,oF,V1 (g:=s) (n:=6) hs]
 walk_at "x0"
 exact Be (Gj _ _) (h _ Ext.more)
noncomputable def uL (s:Nat):Nat:=(Fw s 6).length
theorem oG (k s:Nat) (hs:s < 64) (mh:MH) {P:D->MH->Prop}(h:∀ h',Ext [] mh h'->P (.int (uL s)) h'):wV (Af (Gk (k+3)) fuel f3 [.int s] mh) P:=by
 refine Ai (Aeh (k+2)) vV.1 vV.2 rfl ?_;show wS (b3 (k+2)) [some (.int s)] mh _;unfold b3
 walk_at "x0"
 refine Wf k s hs mh fun h' x=>?_
 walk_at "x0"
 refine Fy (by intro z z';cases z') rfl ?_;rw [List.length_map];exact h h' x
noncomputable def inR (x:Int) (lo hi:Option Int):Bool:=(match lo with | none=>true | some l=>decide (l<=x))&&(match hi with | none=>true | some h=>decide (x<=h))
noncomputable abbrev Pr:=Option Int×Option Int
noncomputable def prD (p:Pr):D:=.tup [ob p.1,ob p.2]
noncomputable def hi2:Option Int->Option Int->Option Int
 | none,y=>y
 | some a,none=>some a
 | some a,some b=>some (Hu a [b])
noncomputable def lo2:Option Int->Option Int->Option Int
 | none,y=>y
 | some a,none=>some a
 | some a,some b=>some (Hf a [b])
noncomputable def uM (p q:Pr):Pr:=(hi2 p.1 q.1,lo2 p.2 q.2)
noncomputable def vd:Pr->Bool
 | (some a,some b)=>decide (b < a)
 | _=>false
theorem Aej (k:Nat) (p q:Pr) (mh:MH):Af (Gk (k+2)) fuel f7 [prD p,prD q] mh=some (prD (uM p q),mh):=by
 obtain ⟨a,b⟩:=p;obtain ⟨c,d⟩:=q;cases a <;> cases b <;> cases c <;> cases d <;> kernel_rfl
theorem oH (k:Nat) (p:Pr) (mh:MH):Af (Gk (k+1)) fuel f5 [prD p] mh=some (.bl (vd p),mh):=by
 obtain ⟨a,b⟩:=p;cases a <;> cases b <;> kernel_rfl
theorem oJ (a b:Int):Hu a [b]=if a < b then b else a:=rfl
theorem oK (a b:Int):Hf a [b]=if b < a then b else a:=rfl
theorem Ab6 (x:Int) (lo hi:Option Int):(vd (uM (some x,some x) (lo,hi))=true/\inR x lo hi=false)\/(vd (uM (some x,some x) (lo,hi))=false/\inR x lo hi=true/\uM (some x,some x) (lo,hi)=(some x,some x)):=by
 cases lo with
 | none =>
  cases hi with
  | none =>
   refine .inr ⟨?_,rfl,rfl⟩;show decide (x < x)=false;exact decide_eq_false (by omega)
  | some b =>
   show (decide (Hf x [b] < x)=true/\(true&&decide (x<=b))=false)\/(decide (Hf x [b] < x)=false/\(true&&decide (x<=b))=true/\((some x,some (Hf x [b])):Pr)=(some x,some x));rw [oK,Bool.true_and]
   by_cases h:b < x
   ·rw [if_pos h];exact .inl ⟨decide_eq_true h,decide_eq_false (by omega)⟩
   ·rw [if_neg h];exact .inr ⟨decide_eq_false (by omega),decide_eq_true (by omega),rfl⟩
 | some a =>
  cases hi with
  | none =>
   show (decide (x < Hu x [a])=true/\(decide (a<=x)&&true)=false)\/(decide (x < Hu x [a])=false/\(decide (a<=x)&&true)=true/\((some (Hu x [a]),some x):Pr)=(some x,some x));rw [oJ,Bool.and_true]
   by_cases h:x < a
   ·rw [if_pos h];exact .inl ⟨decide_eq_true h,decide_eq_false (by omega)⟩
   ·rw [if_neg h];exact .inr ⟨decide_eq_false (by omega),decide_eq_true (by omega),rfl⟩
  | some b =>
   show (decide (Hf x [b] < Hu x [a])=true/\(decide (a<=x)&&decide (x<=b))=false)\/(decide (Hf x [b] < Hu x [a])=false/\(decide (a<=x)&&decide (x<=b))=true/\((some (Hu x [a]),some (Hf x [b])):Pr)=(some x,some x));rw [oJ,oK]
   by_cases h:x < a
   ·rw [if_pos h,decide_eq_false (show ¬ a<=x by omega)];refine .inl ⟨decide_eq_true ?_,rfl⟩;split <;> omega
   ·rw [if_neg h,decide_eq_true (show a<=x by omega)]
    by_cases h2:b < x
    ·rw [if_pos h2];exact .inl ⟨decide_eq_true h2,by rw [decide_eq_false (by omega)];rfl⟩
    ·rw [if_neg h2];exact .inr ⟨decide_eq_false (by omega),by rw [decide_eq_true (by omega)];rfl,rfl⟩
theorem Ij (k:Nat) (x:Int) (lo hi:Option Int) (mh:MH) {P:D->MH->Prop}(h:P (.bl (inR x lo hi)) mh):wV (Af (Gk (k+3)) fuel f31 [.tup [.int x,.int x],ob lo,ob hi] mh) P:=by
 refine Ai (Abg (k+2)) mL.1 mL.2 rfl ?_;show wS (b31 (k+2)) [some (prD (some x,some x)),some (ob lo),some (ob hi),none] mh _;unfold b31
 walk_at "x0"
 refine Bh (Aej k (some x,some x) (lo,hi) mh) ?_
 walk_at "x0"
 rcases Ab6 x lo hi with ⟨e1,e2⟩|⟨e1,e2,e3⟩
 ·refine Bh (d:=.bl true) (h:=mh) (by rw [oH,e1]) ?_
  walk_at "x0"
  rw [← e2];exact h
 ·refine Bh (d:=.bl false) (h:=mh) (by rw [oH,e1]) ?_
  walk_at "x0"
  rw [e3];refine eq_refl rfl rfl ?_
  walk_at "x0"
  rw [← e2];exact h
theorem oM (k:Nat) (i:Int) (mh:MH):Af (Gk (k+1)) fuel f6 [.int i] mh=some (.tup [.int i,.int i],mh):=by kernel_rfl
noncomputable def Wg (p:Pt) (b:Nat):Nat:=if b=0 then p.s0 else p.s1
noncomputable def hev (p:Pt):HT->Bool
 | .no a=>!hev p a
 | .both a b=>hev p a&&hev p b
 | .either a b=>hev p a || hev p b
 | .at n=>p.pl==n
 | .num b lo hi=>inR (p.ns.getD b 0) lo hi
 | .has b=>decide (0<=p.ms.getD b 0)
 | .fallen=>p.pl==-1
 | .many b n=>decide ((n:Int)<=(uL (Wg p b):Int))
 | .bell=>p.bell
theorem oN {l:List Int}{b:Nat}(h:b < l.length):(l.map D.int)[b]?=some (.int (l.getD b 0)):=by
 rw [List.getElem?_map,List.getD_eq_getElem?_getD,List.getElem?_eq_getElem h];rfl
theorem Ab7 {p:Pt}{b:Nat}(h:b < 2):([Bx p.s0,Bx p.s1]:List D)[b]?=some (.int (Wg p b)):=by
 have:b=0\/b=1:=by omega
 rcases this with rfl | rfl <;> rfl
theorem Aek {p:Pt}(ok:Kr p) (b:Nat):Wg p b < 64:=by
 unfold Wg;split
 ·exact ok.2.2.2.1
 ·exact ok.2.2.2.2
theorem oO (mh:MH) (bs:List Bool):Cr (py mh 59) (bs.map D.bl)=some (bs.map PyData.bool):=by
 induction bs with
 | nil=>rfl
 | cons b r ih=>simp only [List.map_cons,Cr,ih];rfl
theorem oR {n:Nat}{bs:List Bool}{b:Bool}{mh:MH}{P:D->MH->Prop}(g:mh[n]?=some (.lst (bs.map D.bl))) (h:P (.bl (bs.any (·==b))) mh):wV (inD false (.bl b) (.ref n) mh) P:=by
 refine Dv (k:=bs.any (·==b)) ?_ h;have e2:py mh 60 (.ref n)=some (.list (bs.map PyData.bool)):=by
  show (match mh[n]? with | some (.lst o)=>(match Cr (py mh 59) o with | some xs=>some (PyData.list xs) | none=>none) | _=>none)=_;rw [g];dsimp only;rw [oO]
 have e1:py mh 60 (.bl b)=some (.bool b):=rfl;unfold inB;rw [e1,e2];dsimp only;rw [List.any_map];rfl
theorem Zu {n:Nat}{bs:List Bool}{mh:MH}{P:D->MH->Prop}(g:mh[n]?=some (.lst (bs.map D.bl))) (h:P (.bl false) mh):wV (inD false .non (.ref n) mh) P:=by
 refine Dv (k:=false) ?_ h;have e2:py mh 60 (.ref n)=some (.list (bs.map PyData.bool)):=by
  show (match mh[n]? with | some (.lst o)=>(match Cr (py mh 59) o with | some xs=>some (PyData.list xs) | none=>none) | _=>none)=_;rw [g];dsimp only;rw [oO]
 have e1:py mh 60 .non=some .none:=rfl;unfold inB;rw [e1,e2];dsimp only;rw [List.any_map];have:(bs.any ((fun y=>PyData.eqv y .none) ∘ PyData.bool))=false:=by
  rw [List.any_eq_false];intro b _;cases b <;> simp [PyData.eqv]
 rw [this]
theorem Wh (k j:Nat) (b:Bool) (mh:MH) (g:mh[j]?=some (.lst [.bl b])) {P:D->MH->Prop}(h:P (.bl (!b)) mh):wV (Af (Gk (k+1)) fuel f32 [.str "not",.ref j] mh) P:=by
 refine Ai (Yd k) Lf.1 Lf.2 rfl ?_
 show wS (b32 k) [some (.str "not"),some (.ref j),none] mh _;unfold b32;walk_at "r"
 refine Ce (fun _=>by kernel_rfl) ?_;walk_at "r"
 refine Bl (j:=0) g rfl ?_;walk_at "r"
 refine Bh (d:=.bl false) (h:=mh) rfl ?_;walk_at "r"
 refine Bl (j:=0) g rfl ?_;walk_at "r"
 exact h
theorem Wi (k j:Nat) (bs:List Bool) (mh:MH) (g:mh[j]?=some (.lst (bs.map D.bl))) {P:D->MH->Prop}(h:P (.bl (bs.any id)) mh):wV (Af (Gk (k+1)) fuel f32 [.str "either",.ref j] mh) P:=by
 have e0:(bs.any (·==true))=bs.any id:=List.any_congr rfl fun b=>by cases b <;> rfl
 have hb:(bs.any (·==true))=true->bs.any id=true:=fun e=>by rw [← e0];exact e
 have hc:(bs.any (·==true))=false->bs.any id=false:=fun e=>by rw [← e0];exact e
 refine Ai (Yd k) Lf.1 Lf.2 rfl ?_
 show wS (b32 k) [some (.str "either"),some (.ref j),none] mh _;unfold b32;walk_at "r"
 refine Aj (fun _=>by kernel_rfl) ?_;walk_at "r"
 refine Ce (fun _=>by kernel_rfl) ?_;walk_at "r"
 refine oR g ?_;walk_at "r"
 refine Ax (fun e=>?_) fun e=>?_
 ·walk_at "r"
  rw [hb e] at h;exact h
 ·walk_at "r"
  refine Zu g ?_;walk_at "r"
  rw [hc e] at h;exact h
theorem Wj (k j:Nat) (bs:List Bool) (mh:MH) (g:mh[j]?=some (.lst (bs.map D.bl))) {P:D->MH->Prop}(h:P (.bl (bs.all id)) mh):wV (Af (Gk (k+1)) fuel f32 [.str "both",.ref j] mh) P:=by
 have hb:(bs.any (·==false))=true->bs.all id=false:=fun e=>by
  rw [List.any_eq_true] at e;obtain ⟨b,hm,hb⟩:=e;rw [List.all_eq_false];exact ⟨b,hm,by rw [eq_of_beq hb];simp⟩
 have hc:(bs.any (·==false))=false->bs.all id=true:=fun e=>by
  rw [List.any_eq_false] at e;rw [List.all_eq_true];intro b hm;have:=e b hm;cases b
  ·exact absurd rfl this
  ·rfl
 refine Ai (Yd k) Lf.1 Lf.2 rfl ?_
 show wS (b32 k) [some (.str "both"),some (.ref j),none] mh _;unfold b32;walk_at "r"
 refine Aj (fun _=>by kernel_rfl) ?_;walk_at "r"
 refine Aj (fun _=>by kernel_rfl) ?_;walk_at "r"
 refine oR g ?_;walk_at "r"
 refine Ax (fun e=>?_) fun e=>?_
 ·walk_at "r"
  rw [hb e] at h;exact h
 ·walk_at "r"
  refine Zu g ?_;walk_at "r"
  rw [hc e] at h;exact h
theorem uN {bs:List Bool}{i:Nat}{b:Bool}(e:bs[i]?=some b):(bs.take (i+1)).map D.bl=(bs.take i).map D.bl++[.bl b]:=by
 rw [List.take_add_one,e];simp
theorem Gd {mi:DM Src}{cs:List (Option Nat)}{j:Nat}{e:DM D}{loc:DL.Loc}{mh:MH}{Q:D->MH->Prop}{ds:List D}(bs:List Bool) (hl:ds.length=bs.length) (hz:ds.length<=1000000) (hm:wD mi loc mh fun src h0=>src=.seq ds/\Ext [] mh h0)
  (step:∀ (i:Nat) (d:D) (b:Bool) (h:MH) {R:D->MH->Prop},ds[i]?=some d->bs[i]?=some b->Ext [] mh h->(∀ h',Ext [] mh h'->R (.bl b) h')->wD e ((G7 cs loc).set j (some d)) h R) (fin:∀ h,Ext [] mh h->Q (.ref h.length) (h++[.lst (bs.map D.bl)])) :
  wD (Bo mi cs (Ae j) (Zr true) e) loc mh Q:=by
 refine Iz (Bb hm ?_);rintro src h0 ⟨rfl,x0⟩;refine ⟨ds,fun i acc h=>acc=(bs.take i).map D.bl/\Ext [] mh h,hz,⟨rfl,x0⟩,fun _ _ _ _=>⟨rfl,rfl⟩,?_,?_,?_⟩
 ·rintro i acc h ⟨rfl,_⟩;rw [List.length_map,List.length_take];omega
 ·rintro i d acc h ed ⟨rfl,x⟩;have li:i < bs.length:=by rw [← hl];exact (List.getElem?_eq_some_iff.mp ed).1
  have eb:bs[i]?=some bs[i]:=List.getElem?_eq_getElem li;refine Ig (Fx ⟨fun _=>?_,fun z=>by cases z⟩);refine step i d _ h ed eb x fun h' x'=>?_
  exact ⟨(uN eb).symm,x'⟩
 ·rintro acc h ⟨rfl,x⟩;rw [hl,List.take_length];exact fin h x
theorem Yg (p:Pt) (pk:Kr p):∀ (t:HT) (n:Nat) (mh:MH) {P:D->MH->Prop}(hn:t.dep<=n) (ok:t.ok) (h:∀ h',Ext [] mh h'->P (.bl (hev p t)) h'),wV (Af (Gk (n+4)) fuel f30 [ptD p,htD t] mh) P:=by
 intro t
 induction t with
 | no a ih =>
  intro n mh P hn ok h;refine Ai (Hi (n+3)) Cv.1 Cv.2 rfl ?_
  show wS (b30 (n+3)) [some (ptD p),some (.tup [.str "not",htD a]),none,none,none] mh _;unfold b30;walk_at "r"
  refine Ac (j:=0) (d:=.str "not") rfl ?_;walk_at "r"
  refine Aj (fun _=>by kernel_rfl) ?_;walk_at "r"
  refine Aj (fun _=>by kernel_rfl) ?_;walk_at "r"
  refine Aj (fun _=>by kernel_rfl) ?_;walk_at "r"
  refine Aj (fun _=>by kernel_rfl) ?_;walk_at "r"
  refine Aj (fun _=>by kernel_rfl) ?_;walk_at "r"
  refine Aj (fun _=>by kernel_rfl) ?_;walk_at "r"
  have hn:a.dep+1<=n:=hn;obtain ⟨m,rfl⟩:∃ m,n=m+1:=⟨n - 1,by omega⟩;refine Gd (ds:=[htD a]) [hev p a] rfl (by simp) ?_ ?_ fun h' x=>?_
  ·walk_at "r"
   refine Bh (d:=.tup [htD a]) (h:=mh) (by kernel_rfl) ?_;exact ⟨_,rfl,rfl,Ext.refl⟩
  ·intro i d q h' R e1 e2 x k;walk_at "r"
   match i,e1,e2 with
   | 0,e1,e2=>cases e1;cases e2;exact ih m h' (by omega) ok fun h2 x2=>k h2 (x.trans x2)
   | i+1,e1,e2=>cases e1
  ·walk_at "r"
   exact Wh (m+3) _ _ _ Ad (h _ (x.trans Ext.more))
 | both a b iha ihb =>
  intro n mh P hn ok h;refine Ai (Hi (n+3)) Cv.1 Cv.2 rfl ?_
  show wS (b30 (n+3)) [some (ptD p),some (.tup [.str "both",htD a,htD b]),none,none,none] mh _;unfold b30;walk_at "r"
  refine Ac (j:=0) (d:=.str "both") rfl ?_;walk_at "r"
  refine Aj (fun _=>by kernel_rfl) ?_;walk_at "r"
  refine Aj (fun _=>by kernel_rfl) ?_;walk_at "r"
  refine Aj (fun _=>by kernel_rfl) ?_;walk_at "r"
  refine Aj (fun _=>by kernel_rfl) ?_;walk_at "r"
  refine Aj (fun _=>by kernel_rfl) ?_;walk_at "r"
  refine Aj (fun _=>by kernel_rfl) ?_;walk_at "r"
  have hn:max a.dep b.dep+1<=n:=hn;obtain ⟨m,rfl⟩:∃ m,n=m+1:=⟨n - 1,by omega⟩;refine Gd (ds:=[htD a,htD b]) [hev p a,hev p b] rfl (by simp) ?_ ?_ fun h' x=>?_
  ·walk_at "r"
   refine Bh (d:=.tup [htD a,htD b]) (h:=mh) (by kernel_rfl) ?_;exact ⟨_,rfl,rfl,Ext.refl⟩
  ·intro i d q h' R e1 e2 x k;walk_at "r"
   match i,e1,e2 with
   | 0,e1,e2=>cases e1;cases e2;exact iha m h' (by omega) ok.1 fun h2 x2=>k h2 (x.trans x2)
   | 1,e1,e2=>cases e1;cases e2;exact ihb m h' (by omega) ok.2 fun h2 x2=>k h2 (x.trans x2)
   | i+2,e1,e2=>cases e1
  ·walk_at "r"
   refine Wj (m+3) _ _ _ Ad ?_;have e:([hev p a,hev p b].all id)=hev p (.both a b):=by show (hev p a&&(hev p b&&true))=_;rw [Bool.and_true];rfl
   rw [e];exact h _ (x.trans Ext.more)
 | either a b iha ihb =>
  intro n mh P hn ok h;refine Ai (Hi (n+3)) Cv.1 Cv.2 rfl ?_
  show wS (b30 (n+3)) [some (ptD p),some (.tup [.str "either",htD a,htD b]),none,none,none] mh _;unfold b30;walk_at "r"
  refine Ac (j:=0) (d:=.str "either") rfl ?_;walk_at "r"
  refine Aj (fun _=>by kernel_rfl) ?_;walk_at "r"
  refine Aj (fun _=>by kernel_rfl) ?_;walk_at "r"
  refine Aj (fun _=>by kernel_rfl) ?_;walk_at "r"
  refine Aj (fun _=>by kernel_rfl) ?_;walk_at "r"
  refine Aj (fun _=>by kernel_rfl) ?_;walk_at "r"
  refine Aj (fun _=>by kernel_rfl) ?_;walk_at "r"
  have hn:max a.dep b.dep+1<=n:=hn;obtain ⟨m,rfl⟩:∃ m,n=m+1:=⟨n - 1,by omega⟩;refine Gd (ds:=[htD a,htD b]) [hev p a,hev p b] rfl (by simp) ?_ ?_ fun h' x=>?_
  ·walk_at "r"
   refine Bh (d:=.tup [htD a,htD b]) (h:=mh) (by kernel_rfl) ?_;exact ⟨_,rfl,rfl,Ext.refl⟩
  ·intro i d q h' R e1 e2 x k;walk_at "r"
   match i,e1,e2 with
   | 0,e1,e2=>cases e1;cases e2;exact iha m h' (by omega) ok.1 fun h2 x2=>k h2 (x.trans x2)
   | 1,e1,e2=>cases e1;cases e2;exact ihb m h' (by omega) ok.2 fun h2 x2=>k h2 (x.trans x2)
   | i+2,e1,e2=>cases e1
  ·walk_at "r"
   refine Wi (m+3) _ _ _ Ad ?_;have e:([hev p a,hev p b].any id)=hev p (.either a b):=by show (hev p a || (hev p b || false))=_;rw [Bool.or_false];rfl
   rw [e];exact h _ (x.trans Ext.more)
 | «at» q =>
  intro n mh P hn ok h;refine Ai (Hi (n+3)) Cv.1 Cv.2 rfl ?_
  show wS (b30 (n+3)) [some (ptD p),some (.tup [.str "at",.int q]),none,none,none] mh _;unfold b30;walk_at "r"
  refine Ac (j:=0) (d:=.str "at") rfl ?_;walk_at "r"
  refine Ce (fun _=>by kernel_rfl) ?_;walk_at "r"
  refine Ac (j:=0) (d:=.int p.pl) rfl ?_;walk_at "r"
  refine Ac (j:=1) (d:=.int q) rfl ?_;walk_at "r"
  exact h mh Ext.refl
 | num b lo hi =>
  intro n mh P hn ok h;refine Ai (Hi (n+3)) Cv.1 Cv.2 rfl ?_
  show wS (b30 (n+3)) [some (ptD p),some (.tup [.str "number",.int b,ob lo,ob hi]),none,none,none] mh _;unfold b30;walk_at "r"
  refine Ac (j:=0) (d:=.str "number") rfl ?_;walk_at "r"
  refine Aj (fun _=>by kernel_rfl) ?_;walk_at "r"
  refine Ce (fun _=>by kernel_rfl) ?_;walk_at "r"
  refine Ac (j:=1) (d:=.tup (p.ns.map D.int)) rfl ?_;walk_at "r"
  refine Ac (j:=1) (d:=.int b) rfl ?_;refine Ac (j:=b) (oN (by rw [pk.1];exact ok)) ?_;walk_at "r"
  refine Bh (oM (n+2) _ mh) ?_;walk_at "r"
  refine Ac (j:=2) (d:=ob lo) rfl ?_;walk_at "r"
  refine Ac (j:=3) (d:=ob hi) rfl ?_;walk_at "r"
  exact Ij n _ lo hi mh (h mh Ext.refl)
 | has b =>
  intro n mh P hn ok h;refine Ai (Hi (n+3)) Cv.1 Cv.2 rfl ?_
  show wS (b30 (n+3)) [some (ptD p),some (.tup [.str "has",.int b]),none,none,none] mh _;unfold b30;walk_at "r"
  refine Ac (j:=0) (d:=.str "has") rfl ?_;walk_at "r"
  refine Aj (fun _=>by kernel_rfl) ?_;walk_at "r"
  refine Aj (fun _=>by kernel_rfl) ?_;walk_at "r"
  refine Ce (fun _=>by kernel_rfl) ?_;walk_at "r"
  refine Ac (j:=2) (d:=.tup (p.ms.map D.int)) rfl ?_;walk_at "r"
  refine Ac (j:=1) (d:=.int b) rfl ?_;have hb:b < p.ms.length:=by rw [pk.2.1];exact ok
  refine Ac (j:=b) (oN hb) ?_;walk_at "r"
  have hm:-1<=p.ms.getD b 0:=by
   rw [List.getD_eq_getElem?_getD,List.getElem?_eq_getElem hb];exact pk.2.2.1 _ (List.getElem_mem _)
  have e:(!(p.ms.getD b 0==-1))=hev p (.has b):=by
   show _=decide (0<=p.ms.getD b 0)
   by_cases c:p.ms.getD b 0=-1
   ·rw [c];rfl
   ·rw [beq_eq_false_iff_ne.mpr c,decide_eq_true (by omega)];rfl
  have h0:=h mh Ext.refl;rw [← e] at h0;exact h0
 | many b q =>
  intro n mh P hn ok h;refine Ai (Hi (n+3)) Cv.1 Cv.2 rfl ?_
  show wS (b30 (n+3)) [some (ptD p),some (.tup [.str "many",.int b,.int q]),none,none,none] mh _;unfold b30;walk_at "r"
  refine Ac (j:=0) (d:=.str "many") rfl ?_;walk_at "r"
  refine Aj (fun _=>by kernel_rfl) ?_;walk_at "r"
  refine Aj (fun _=>by kernel_rfl) ?_;walk_at "r"
  refine Aj (fun _=>by kernel_rfl) ?_;walk_at "r"
  refine Ce (fun _=>by kernel_rfl) ?_;walk_at "r"
  refine Ac (j:=3) (d:=.tup [Bx p.s0,Bx p.s1]) rfl ?_;walk_at "r"
  refine Ac (j:=1) (d:=.int b) rfl ?_;refine Ac (j:=b) (Ab7 ok) ?_;walk_at "r"
  refine oG n _ (Aek pk b) mh fun h' x=>?_
  walk_at "r"
  refine Ac (j:=2) (d:=.int q) rfl ?_;walk_at "r"
  exact h _ x
 | bell =>
  intro n mh P hn ok h;refine Ai (Hi (n+3)) Cv.1 Cv.2 rfl ?_
  show wS (b30 (n+3)) [some (ptD p),some (.tup [.str "bell"]),none,none,none] mh _;unfold b30;walk_at "r"
  refine Ac (j:=0) (d:=.str "bell") rfl ?_;walk_at "r"
  refine Aj (fun _=>by kernel_rfl) ?_;walk_at "r"
  refine Aj (fun _=>by kernel_rfl) ?_;walk_at "r"
  refine Aj (fun _=>by kernel_rfl) ?_;walk_at "r"
  refine Aj (fun _=>by kernel_rfl) ?_;walk_at "r"
  refine Ce (fun _=>by kernel_rfl) ?_;walk_at "r"
  refine Ac (j:=4) (d:=.bl p.bell) rfl ?_;exact h mh Ext.refl
 | fallen =>
  intro n mh P hn ok h;refine Ai (Hi (n+3)) Cv.1 Cv.2 rfl ?_
  show wS (b30 (n+3)) [some (ptD p),some (.tup [.str "fallen"]),none,none,none] mh _;unfold b30;walk_at "r"
  refine Ac (j:=0) (d:=.str "fallen") rfl ?_;walk_at "r"
  refine Aj (fun _=>by kernel_rfl) ?_;walk_at "r"
  refine Aj (fun _=>by kernel_rfl) ?_;walk_at "r"
  refine Aj (fun _=>by kernel_rfl) ?_;walk_at "r"
  refine Aj (fun _=>by kernel_rfl) ?_;walk_at "r"
  refine Aj (fun _=>by kernel_rfl) ?_;walk_at "r"
  refine Ce (fun _=>by kernel_rfl) ?_;walk_at "r"
  exact Bh (d:=.bl (p.pl==-1)) (h:=mh) (by kernel_rfl) (h mh Ext.refl)
noncomputable def lc (kd:Int) (ls:List (Int×Int×Int)):Nat:=(ls.filter fun z=>z.1==kd).length
noncomputable def wc (kd:Int) (w:List (List (Int×Int×Int))):Nat:=(w.map (lc kd)).sum
noncomputable def rc (kd:Int) (rs:Rows):Nat:=(rs.map (wc kd)).sum
theorem Wk {α:Type}{f:α->Nat}{l:List α}{i:Nat}{a:α}(e:l[i]?=some a):((l.take (i+1)).map f).sum=((l.take i).map f).sum+f a:=by
 rw [List.take_add_one,e];simp
noncomputable def kdB (kd:Int):D->Bool
 | .tup (.int k::_)=>k==kd
 | _=>false
theorem uO (kd:Int) (ls:List (Int×Int×Int)):(((ls.map V7).filter (kdB kd)).map fun d=>d).length=lc kd ls:=by
 rw [List.length_map,List.filter_map,List.length_map];rfl
theorem Yh {α:Type}{f:α->D}{l:List α}{i:Nat}{d:D}(e:(l.map f)[i]?=some d):∃ a,l[i]?=some a/\d=f a:=by
 rw [List.getElem?_map] at e;cases q:l[i]? with
 | none=>rw [q] at e;cases e
 | some a=>rw [q] at e;cases e;exact ⟨a,rfl,rfl⟩
theorem uP (k:Nat) (ps:List Pt) (rs:Rows) (rk:Tf rs) (x y kd:Int) (mh:MH) {P:D->MH->Prop}(h:∀ h',Ext [] mh h'->P (.int (rc kd rs)) h'):wV (Af (Gk (k+1)) fuel f29 [O5 ps rs x y,.int kd] mh) P:=by
 refine Ai (Abf k) mK.1 mK.2 rfl ?_;show wS (b29 k) [some (O5 ps rs x y),some (.int kd),none,none,none] mh _;unfold b29;walk_at "r"
 refine Cu ?_;walk_at "r"
 refine Ac (j:=1) (d:=.tup (rs.map V9)) rfl ?_;refine ⟨_,rfl,rs.map V9,fun i l h=>∃ x3 x4,l=[some (O5 ps rs x y),some (.int kd),some (.int (((rs.take i).map (wc kd)).sum:Nat)),x3,x4]/\Ext [] mh h,⟨none,none,rfl,Ext.refl⟩,fun _ _ _ _=>⟨rfl,rfl⟩,?_,?_⟩
 ·rintro i d l h4 ed ⟨x3,x4,rfl,y4⟩;obtain ⟨w,ew,rfl⟩:=Yh ed;walk_at "r"
  refine Cu ?_;walk_at "r"
  refine ⟨_,rfl,w.map fun ls=>.tup (ls.map V7),fun j l h=>∃ x4,l=[some (O5 ps rs x y),some (.int kd),some (.int ((((rs.take i).map (wc kd)).sum+((w.take j).map (lc kd)).sum:Nat):Int)),some (V9 w),x4]/\Ext [] mh h,⟨x4,rfl,y4⟩,fun _ _ _ _=>⟨rfl,rfl⟩,?_,?_⟩
  ·rintro j d l h5 ed2 ⟨x4,rfl,y5⟩;obtain ⟨ls,els,rfl⟩:=Yh ed2;walk_at "r"
   refine Wc ?_;walk_at "r"
   refine ⟨_,rfl,ls.map V7,kdB kd,fun d=>d,rfl,?_,fun d hd=>?_,?_⟩
   ·rw [List.length_map];exact Nat.le_trans (rk w (List.mem_of_getElem? ew) ls (List.mem_of_getElem? els)) (by decide)
   ·obtain ⟨z,_,rfl⟩:=List.mem_map.mp hd;refine ⟨_,rfl,vW ?_,fun _=>rfl⟩;walk_at "r"
    refine Ac (j:=0) (d:=.int z.1) rfl ?_;walk_at "r"
    exact ⟨rfl,rfl⟩
   walk_at "r"
   refine Fy (by intro z z';cases z') (Gj _ _) ?_;rw [uO];walk_at "r"
   refine ⟨some (.tup (ls.map V7)),?_,y5.trans Ext.more⟩;rw [Wk els];have e:((((rs.take i).map (wc kd)).sum+((w.take j).map (lc kd)).sum:Nat):Int)+(lc kd ls:Int)=((((rs.take i).map (wc kd)).sum+(((w.take j).map (lc kd)).sum+lc kd ls):Nat):Int):=by push_cast;omega
   rw [e];rfl
  ·rintro l h5 ⟨x4,rfl,y5⟩;walk_at "r"
   refine ⟨some (V9 w),x4,?_,y5⟩;rw [Wk ew,List.length_map,List.take_length];rfl
 ·rintro l h4 ⟨x3,x4,rfl,y4⟩;rw [List.length_map,List.take_length];walk_at "r"
  exact h h4 y4
noncomputable def dp:Pt:=⟨0,[],[],0,0,false⟩
noncomputable def ptA (ps:List Pt) (h:Nat):Pt:=(ps[h]?).getD dp
theorem oU {ps:List Pt}{h:Nat}(hl:h < ps.length):(ps.map ptD)[h]?=some (ptD (ptA ps h)):=by
 unfold ptA;rw [List.getElem?_map,List.getElem?_eq_getElem hl];rfl
theorem vX {ps:List Pt}{h:Nat}(hl:h < ps.length) (ok:∀ p∈ps,Kr p):Kr (ptA ps h):=by
 unfold ptA;rw [List.getElem?_eq_getElem hl];exact ok _ (List.getElem_mem _)
noncomputable def plA (plays:List Nat) (h:Nat):Nat:=(plays[h]?).getD 0
theorem vY {plays:List Nat}{h:Nat}(hl:h < plays.length):(plays.map Bx)[h]?=some (.int (plA plays h)):=by
 unfold plA;rw [List.getElem?_map,List.getElem?_eq_getElem hl];rfl
noncomputable def Ael (plays:List Nat) (ps:List Pt) (r:Nat) (t:HT) (h:Nat):Bool:=((plA plays h:Int)==(r:Int))&&hev (ptA ps h) t
noncomputable def nC (plays:List Nat) (ps:List Pt) (r:Nat) (t:HT):Nat:=(List.range plays.length).countP (Ael plays ps r t)
noncomputable def tev (plays:List Nat) (ps:List Pt) (rs:Rows):TT->Bool
 | .no a=>!tev plays ps rs a
 | .both a b=>tev plays ps rs a&&tev plays ps rs b
 | .either a b=>tev plays ps rs a || tev plays ps rs b
 | .letters kd lo hi=>inR (rc kd rs) lo hi
 | .count r t lo hi=>inR (nC plays ps r t) lo hi
structure Wd where
 room:Int
 c0:Int
 c1:Int
 parts:List (List D)
 plays:List Nat
 ps:List Pt
 rs:Rows
 x:Int
 y:Int
noncomputable def Wd.ok (w:Wd):Prop:=w.ps.length=w.plays.length/\w.plays.length<=6/\(∀ p∈w.ps,Kr p)/\Tf w.rs
noncomputable abbrev Wd.pg (w:Wd):D:=Hs w.room w.c0 w.c1 w.parts w.plays
noncomputable abbrev Wd.wd (w:Wd):D:=O5 w.ps w.rs w.x w.y
noncomputable abbrev Wd.ev (w:Wd) (t:TT):Bool:=tev w.plays w.ps w.rs t
theorem Wl:∀ (ds:List D) (j i:Nat),(Ei j ds)[i]?=(ds[i]?).map fun d=>D.tup [.int ((j+i:Nat):Int),d]
 | [],j,i=>by simp [Ei]
 | d::r,j,0=>by simp [Ei]
 | d::r,j,i+1=>by
  show (Ei (j+1) r)[i]?=_;rw [Wl r (j+1) i,List.getElem?_cons_succ];have:j+1+i=j+(i+1):=by omega
  rw [this]
theorem Dy:∀ (ds:List D) (j:Nat),(Ei j ds).length=ds.length
 | [],_=>rfl
 | d::r,j=>by
  show (Ei (j+1) r).length+1=_;rw [Dy r (j+1)];rfl
noncomputable def hvB (plays:List Nat) (r h:Nat):Bool:=(plA plays h:Int)==(r:Int)
noncomputable def hvL (plays:List Nat) (r:Nat):List Nat:=(List.range plays.length).filter (hvB plays r)
theorem Zv (f:Nat->Bool) (i:Nat):(List.range (i+1)).filter f=(List.range i).filter f++(if f i then [i] else []):=by
 rw [List.range_succ,List.filter_append];cases e:f i <;> simp [e]
theorem cM (k:Nat) (w:Wd) (wk:w.ok) (r:Nat) (mh:MH) {P:D->MH->Prop}(h:∀ h',Ext [] mh h'->P (.tup ((hvL w.plays r).map Bx)) h'):wV (Af (Gk (k+1)) fuel f21 [w.pg,.int r] mh) P:=by
 have l6:=wk.2.1;refine Ai (Abb k) mG.1 mG.2 rfl ?_;show wS (b21 k) [some w.pg,some (.int r)] mh _;unfold b21;walk_at "r"
 refine Iz ?_;walk_at "r"
 refine Ac (j:=3) (d:=.tup (w.plays.map Bx)) rfl ?_;refine ⟨_,rfl,Ei 0 (w.plays.map Bx),fun i acc h=>acc=((List.range i).filter (hvB w.plays r)).map Bx/\h=mh,by rw [Dy,List.length_map];omega,⟨rfl,rfl⟩,fun _ _ _ _=>⟨rfl,rfl⟩,?_,?_,?_⟩
 ·rintro i acc h ⟨rfl,_⟩;rw [List.length_map];exact Nat.le_trans (List.length_filter_le _ _) (by rw [List.length_range];exact Nat.le_refl _)
 ·rintro i d acc h ed ⟨rfl,rfl⟩;have li:=(List.getElem?_eq_some_iff.mp ed).1;rw [Dy,List.length_map] at li;rw [Wl,vY li] at ed;cases ed;have e0:((0+i:Nat):Int)=(i:Int):=by omega
  refine S5 rfl ?_;walk_at "r"
  have eb:hvB w.plays r i=((plA w.plays i:Int)==(r:Int)):=rfl;refine ⟨fun e=>?_,fun e=>?_⟩
  ·walk_at "r"
   refine ⟨?_,rfl⟩;rw [Zv,eb,e,e0,List.map_append];rfl
  ·refine ⟨?_,rfl⟩;rw [Zv,eb,e];simp
 ·rintro acc h' ⟨rfl,rfl⟩;rw [Dy,List.length_map];walk_at "r"
  exact Be (Gj _ _) (h _ Ext.more)
theorem Aem (plays:List Nat) (ps:List Pt) (r:Nat) (t:HT):((hvL plays r).map fun h=>hev (ptA ps h) t).countP (·==true)=nC plays ps r t:=by
 unfold hvL nC;rw [List.countP_map,List.countP_filter];refine List.countP_congr fun h _=>?_
 show (((hev (ptA ps h) t==true)&&hvB plays r h)=true) ↔ (hvB plays r h&&hev (ptA ps h) t)=true;cases hev (ptA ps h) t <;> cases hvB plays r h <;> simp
theorem Ab8 (bs:List Bool):bs.length=bs.countP (·==true)+bs.countP (·==false):=by
 induction bs with
 | nil=>rfl
 | cons b r ih=>cases b <;> simp [List.countP_cons,ih] <;> omega
theorem Ab9 {plays:List Nat}{r h:Nat}(hm:h∈hvL plays r):h < plays.length:=List.mem_range.mp (List.mem_filter.mp hm).1
theorem oV (k:Nat) (w:Wd) (h:Nat) (hl:h < w.ps.length) (mh:MH) {P:D->MH->Prop}(q:P (ptD (ptA w.ps h)) mh):wV (Af (Gk (k+1)) fuel f25 [w.wd,.int h] mh) P:=by
 refine Ai (Abd k) mH.1 mH.2 rfl ?_;show wS (b25 k) [some w.wd,some (.int h)] mh _;unfold b25;walk_at "r"
 refine Ac (j:=0) (d:=.tup (w.ps.map ptD)) rfl ?_;walk_at "r"
 exact Ac (j:=h) (oU hl) q
theorem Wm (w:Wd) (wk:w.ok):∀ (t:TT) (n:Nat) (mh:MH) {P:D->MH->Prop}(hn:t.dep<=n) (ok:t.ok) (h:∀ h',Ext [] mh h'->P (.bl (w.ev t)) h'),wV (Af (Gk (n+7)) fuel f28 [w.pg,w.wd,ttD t] mh) P:=by
 intro t
 induction t with
 | no a ih =>
  intro n mh P hn ok h;refine Ai (O1 (n+6)) Gu.1 Gu.2 rfl ?_
  show wS (b28 (n+6)) [some w.pg,some w.wd,some (.tup [.str "not",ttD a]),none,none] mh _;unfold b28;walk_at "r"
  refine Ac (j:=0) (d:=.str "not") rfl ?_;walk_at "r"
  refine Aj (fun _=>by kernel_rfl) ?_;walk_at "r"
  refine Aj (fun _=>by kernel_rfl) ?_;walk_at "r"
  have hn:a.dep+1<=n:=hn;obtain ⟨m,rfl⟩:∃ m,n=m+1:=⟨n - 1,by omega⟩;refine Gd (ds:=[ttD a]) [w.ev a] rfl (by simp) ?_ ?_ fun h' x=>?_
  ·walk_at "r"
   refine Bh (d:=.tup [ttD a]) (h:=mh) (by kernel_rfl) ?_;exact ⟨_,rfl,rfl,Ext.refl⟩
  ·intro i d q h' R e1 e2 x k;walk_at "r"
   match i,e1,e2 with
   | 0,e1,e2=>cases e1;cases e2;exact ih m h' (by omega) ok fun h2 x2=>k h2 (x.trans x2)
   | i+1,e1,e2=>cases e1
  ·walk_at "r"
   exact Wh (m+6) _ _ _ Ad (h _ (x.trans Ext.more))
 | both a b iha ihb =>
  intro n mh P hn ok h;refine Ai (O1 (n+6)) Gu.1 Gu.2 rfl ?_
  show wS (b28 (n+6)) [some w.pg,some w.wd,some (.tup [.str "both",ttD a,ttD b]),none,none] mh _;unfold b28;walk_at "r"
  refine Ac (j:=0) (d:=.str "both") rfl ?_;walk_at "r"
  refine Aj (fun _=>by kernel_rfl) ?_;walk_at "r"
  refine Aj (fun _=>by kernel_rfl) ?_;walk_at "r"
  have hn:max a.dep b.dep+1<=n:=hn;obtain ⟨m,rfl⟩:∃ m,n=m+1:=⟨n - 1,by omega⟩;refine Gd (ds:=[ttD a,ttD b]) [w.ev a,w.ev b] rfl (by simp) ?_ ?_ fun h' x=>?_
  ·walk_at "r"
   refine Bh (d:=.tup [ttD a,ttD b]) (h:=mh) (by kernel_rfl) ?_;exact ⟨_,rfl,rfl,Ext.refl⟩
  ·intro i d q h' R e1 e2 x k;walk_at "r"
   match i,e1,e2 with
   | 0,e1,e2=>cases e1;cases e2;exact iha m h' (by omega) ok.1 fun h2 x2=>k h2 (x.trans x2)
   | 1,e1,e2=>cases e1;cases e2;exact ihb m h' (by omega) ok.2 fun h2 x2=>k h2 (x.trans x2)
   | i+2,e1,e2=>cases e1
  ·walk_at "r"
   refine Wj (m+6) _ _ _ Ad ?_;have e:([w.ev a,w.ev b].all id)=w.ev (.both a b):=by show (w.ev a&&(w.ev b&&true))=_;rw [Bool.and_true];rfl
   rw [e];exact h _ (x.trans Ext.more)
 | either a b iha ihb =>
  intro n mh P hn ok h;refine Ai (O1 (n+6)) Gu.1 Gu.2 rfl ?_
  show wS (b28 (n+6)) [some w.pg,some w.wd,some (.tup [.str "either",ttD a,ttD b]),none,none] mh _;unfold b28;walk_at "r"
  refine Ac (j:=0) (d:=.str "either") rfl ?_;walk_at "r"
  refine Aj (fun _=>by kernel_rfl) ?_;walk_at "r"
  refine Aj (fun _=>by kernel_rfl) ?_;walk_at "r"
  have hn:max a.dep b.dep+1<=n:=hn;obtain ⟨m,rfl⟩:∃ m,n=m+1:=⟨n - 1,by omega⟩;refine Gd (ds:=[ttD a,ttD b]) [w.ev a,w.ev b] rfl (by simp) ?_ ?_ fun h' x=>?_
  ·walk_at "r"
   refine Bh (d:=.tup [ttD a,ttD b]) (h:=mh) (by kernel_rfl) ?_;exact ⟨_,rfl,rfl,Ext.refl⟩
  ·intro i d q h' R e1 e2 x k;walk_at "r"
   match i,e1,e2 with
   | 0,e1,e2=>cases e1;cases e2;exact iha m h' (by omega) ok.1 fun h2 x2=>k h2 (x.trans x2)
   | 1,e1,e2=>cases e1;cases e2;exact ihb m h' (by omega) ok.2 fun h2 x2=>k h2 (x.trans x2)
   | i+2,e1,e2=>cases e1
  ·walk_at "r"
   refine Wi (m+6) _ _ _ Ad ?_;have e:([w.ev a,w.ev b].any id)=w.ev (.either a b):=by show (w.ev a || (w.ev b || false))=_;rw [Bool.or_false];rfl
   rw [e];exact h _ (x.trans Ext.more)
 | letters kd lo hi =>
  intro n mh P hn ok h;refine Ai (O1 (n+6)) Gu.1 Gu.2 rfl ?_
  show wS (b28 (n+6)) [some w.pg,some w.wd,some (.tup [.str "letters",.int kd,ob lo,ob hi]),none,none] mh _;unfold b28;walk_at "r"
  refine Ac (j:=0) (d:=.str "letters") rfl ?_;walk_at "r"
  refine Aj (fun _=>by kernel_rfl) ?_;walk_at "r"
  refine Ce (fun _=>by kernel_rfl) ?_;walk_at "r"
  refine Ac (j:=1) (d:=.int kd) rfl ?_;walk_at "r"
  refine uP (n+5) w.ps w.rs wk.2.2.2 w.x w.y kd mh fun h' x=>?_
  walk_at "r"
  refine Bh (oM (n+5) _ _) ?_;walk_at "r"
  refine Ac (j:=2) (d:=ob lo) rfl ?_;walk_at "r"
  refine Ac (j:=3) (d:=ob hi) rfl ?_;walk_at "r"
  exact Ij (n+3) _ lo hi _ (h _ x)
 | count r t lo hi =>
  intro n mh P hn ok h;refine Ai (O1 (n+6)) Gu.1 Gu.2 rfl ?_
  show wS (b28 (n+6)) [some w.pg,some w.wd,some (.tup [.str "count",.int r,htD t,ob lo,ob hi]),none,none] mh _;unfold b28;walk_at "r"
  refine Ac (j:=0) (d:=.str "count") rfl ?_;walk_at "r"
  refine Ce (fun _=>by kernel_rfl) ?_;walk_at "r"
  have l6:=wk.2.1;have lh:(hvL w.plays r).length<=6:=Nat.le_trans (List.length_filter_le _ _) (by rw [List.length_range];exact l6);refine Gd (ds:=(hvL w.plays r).map Bx) ((hvL w.plays r).map fun h=>hev (ptA w.ps h) t) (by rw [List.length_map,List.length_map]) (by rw [List.length_map];omega) ?_ ?_ fun h' x=>?_
  ·walk_at "r"
   refine Ac (j:=1) (d:=.int r) rfl ?_;walk_at "r"
   refine cM (n+5) w wk r mh fun h' x=>?_
   exact ⟨_,rfl,rfl,x⟩
  ·intro i d q h' R e1 e2 x k;obtain ⟨z,ez,rfl⟩:=Yh e1;rw [List.getElem?_map,ez] at e2;cases e2;have lz:z < w.ps.length:=by rw [wk.1];exact Ab9 (List.mem_of_getElem? ez)
   walk_at "r"
   refine oV (n+5) w z lz h' ?_;walk_at "r"
   refine Ac (j:=2) (d:=htD t) rfl ?_;walk_at "r"
   exact Yg (ptA w.ps z) (vX lz wk.2.2.1) t (n+2) h' (by have:=ok.2;omega) ok.1 fun h2 x2=>k h2 (x.trans x2)
  ·walk_at "r"
   refine X8 ?_;walk_at "r"
   refine .inr ⟨rfl,ty_list Ad,?_⟩;walk_at "r"
   refine Bh (Vi Ad) ?_;walk_at "r"
   refine Fy (by intro z z';cases z') (Gj _ _) ?_;walk_at "r"
   refine X8 ?_;walk_at "r"
   refine .inr ⟨rfl,ty_list Ad,?_⟩;walk_at "r"
   refine Bh (Vi Ad) ?_;walk_at "r"
   refine Zt (by simp) ?_;walk_at "r"
   refine Ac (j:=3) (d:=ob lo) rfl ?_;walk_at "r"
   refine Ac (j:=4) (d:=ob hi) rfl ?_;walk_at "r"
   have e1:=Aem w.plays w.ps r t;have e2:=Ab8 ((hvL w.plays r).map fun h=>hev (ptA w.ps h) t);rw [List.length_map];have e3:((((hvL w.plays r).map fun h=>hev (ptA w.ps h) t).length:Nat):Int) - ((((hvL w.plays r).map fun h=>hev (ptA w.ps h) t).countP (·==false):Nat):Int)=((nC w.plays w.ps r t:Nat):Int):=by omega
   rw [e3,e1];exact Ij (n+3) _ lo hi _ (h _ (x.trans Ext.more))
theorem cN (w:Wd) (wk:w.ok) (t:TT) (n:Nat) (mh:MH) {P:D->MH->Prop}(hn:t.dep<=n) (ok:t.ok) (h:∀ h',Ext [] mh h'->P (.bl (w.ev t)) h'):wV (Af (Gk (n+8)) fuel f27 [w.pg,w.wd,ttD t] mh) P:=by
 refine Ai (Abe (n+7)) mJ.1 mJ.2 rfl ?_;show wS (b27 (n+7)) [some w.pg,some w.wd,some (ttD t)] mh _;unfold b27;walk_at "r"
 exact Wm w wk t n mh hn ok h
theorem oW {a b:Bool}{mh:MH}{P:D->MH->Prop}(h:P (.bl (a != b)) mh):wV (neD (.bl a) (.bl b) mh) P:=Bh (d:=.bl (a != b)) (h:=mh) (by cases a <;> cases b <;> rfl) h
theorem Dg {d:D}{ds:List D}{mh:MH}{P:D->MH->Prop}(h:P (.tup ds) mh):wV (slD (.tup (d::ds)) (some 1) none mh) P:=by
 refine ⟨_,_,?_,h⟩;have e1:HT.sIx (d::ds).length 0 (some 1)=1:=by
  have:=HT.sIx_nat (d::ds).length 0 1;rw [List.length_cons] at this ⊢;exact this.trans (by omega)
 show (if HT.sIx (d::ds).length 0 (some 1)=0/\HT.sIx (d::ds).length (d::ds).length none=(d::ds).length then some (D.tup (d::ds),mh) else some (D.tup (DL.cutD (d::ds) (some 1) none),mh))=_;rw [if_neg (by rw [e1];simp)];unfold DL.cutD;rw [e1,HT.sIx_none];simp
theorem uQ {n:Nat}{xs:List D}{x:D}{mh:MH}{P:D->MH->Prop}(e:mh[n]?=some (.lst (xs++[x]))) (h:P x (mh.set n (.lst xs))):wV (bF (.ref n) [] mh) P:=by
 refine ⟨_,_,?_,h⟩;have e2:(xs++[x])[(xs++[x]).length - 1]?=some x:=by simp
 show (match mh[n]? with | some (.lst ds)=>(match ds[ds.length - 1]? with | some y=>some (y,mh.set n (.lst ds.dropLast)) | none=>none) | _=>none)=_;rw [e];dsimp only;rw [e2,List.dropLast_concat]
theorem uR {n:Nat}{xs ys:List D}{mh:MH}{P:D->MH->Prop}(e1:mh[n]?=some (.lst xs)) (hz:xs.length+ys.length<=1000000) (h:P .non (mh.set n (.lst (xs++ys)))):wV (Iu (.ref n) [.tup ys] mh) P :=
 ⟨_,_,by simp only [Iu,e1,if_pos (le_size hz)],h⟩
structure Tre (α:Type) where
 e:α->D
 kids:α->List α
 inn:α->Bool
 sz:α->Nat
 any:(α->Bool)->α->Bool
 any_eq:∀ p a,any p a=(p a || (kids a).any (any p))
 sz_eq:∀ a,((kids a).map sz).sum < sz a
 hw:∀ a,∃ w rest,e a=.tup (.str w::rest)/\PyData.strOk w=true/\(([("not":Str), "both", "either"]:List Str).any (·==w))=inn a/\(inn a=true->rest=(kids a).map e)
 leaf:∀ a,inn a=false->kids a=[]
theorem Dl {mh:MH}{i j:Nat}{o x:MO}(e:mh[i]?=some x) (h:j≠i):(mh.set j o)[i]?=some x:=by rw [List.getElem?_set_ne h];exact e
theorem Hl {mh:MH}{i:Nat}{o x:MO}(e:mh[i]?=some x):(mh.set i o)[i]?=some o:=by
 obtain ⟨h,_⟩:=List.getElem?_eq_some_iff.mp e;rw [List.getElem?_set_self h]
theorem O7 {α:Type}(T:Tre α) (k:Nat) (x:D) (ts:List α) (mh:MH) (hx:Eu x mh=some (ts.map T.e)) (hs:(ts.map T.sz).sum<=1000) {P:D->MH->Prop}(h:∀ (fs:List α) (j:Nat) h',fs.length<=(ts.map T.sz).sum->(∀ p,fs.any p=ts.any (T.any p))->(∀ f:α->Prop,(∀ t∈ts,f t)->(∀ t,f t->∀ u∈T.kids t,f u)->∀ t∈fs,f t)->Ext [] mh h'->h'[j]?=some (.lst (fs.map T.e))->P (.ref j) h') :
  wV (Af (Gk (k+1)) fuel f37 [x] mh) P:=by
 refine Ai (Abj k) mR.1 mR.2 rfl ?_;show wS (b37 k) [some x,none,none,none] mh _;unfold b37
 walk_at "x0"
 refine Fd (ds:=ts.map T.e) ?_ ?_
 ·cases x with
  | ref n =>
   have hx:(match mh[n]? with | some (.lst o)=>some o | _=>none)=some (ts.map T.e):=hx;split at hx
   ·rename_i o eo;cases hx;exact Cy (Ext.more.old (W:=[]) _ _ (by simp) eo)
   ·cases hx
  | rol ds=>exact hx
  | tup ds=>exact hx
  | _=>cases hx
 walk_at "r"
 refine lO (fun n l h'=>∃ (fs ds:List α) (y3:Option D),l=[some x,some (.ref mh.length),some (.ref (mh.length+1)),y3]/\n=(ds.map T.sz).sum/\fs.length+(ds.map T.sz).sum<=(ts.map T.sz).sum/\ds.length<=(ds.map T.sz).sum/\(∀ p,(fs.any p || ds.any (T.any p))=ts.any (T.any p))/\(∀ f:α->Prop,(∀ t∈ts,f t)->(∀ t,f t->∀ u∈T.kids t,f u)->(∀ t∈fs,f t)/\∀ t∈ds,f t)/\Ext [] mh h'/\h'[mh.length]?=some (.lst (fs.map T.e))/\h'[mh.length+1]?=some (.lst (ds.map T.e))) (ts.map T.sz).sum (by omega) ?_ ?_
 ·have lsz:∀ l:List α,l.length<=(l.map T.sz).sum:=fun l=>by
   induction l with
   | nil=>exact Nat.le_refl _
   | cons a r ih =>
    have:=T.sz_eq a;simp only [List.map_cons,List.sum_cons,List.length_cons];omega
  refine ⟨[],ts,none,?_,rfl,by simp,lsz ts,fun p=>by simp,fun f a b=>⟨(by simp),a⟩,Ext.more.trans Ext.more,Ext.more.old (W:=[]) _ _ (by simp) Ad,?_⟩
  ·rw [List.length_append];rfl
  ·have:=Ad (a:=mh++[.lst []]) (o:=.lst (ts.map T.e));rw [List.length_append] at this;exact this
 ·rintro n l h1 ⟨fs,ds,y3,rfl,rfl,b1,b2,ia,im,x1,g1,g2⟩
  walk_at "x0"
  refine Fy (by intro z z';cases z') (Cy g2) ?_
  walk_at "x0"
  rw [List.length_map];refine ⟨fun hd=>?_,fun hd=>?_⟩
  ·have hd:0 < ds.length:=by have:=of_decide_eq_true hd;omega
   obtain ⟨ds',t,rfl⟩:∃ ds' t,ds=ds'++[t]:=by
    rcases List.eq_nil_or_concat ds with rfl|⟨l,a,rfl⟩
    ·simp at hd
    ·exact ⟨l,a,by simp⟩
   rw [List.map_append] at g2
   walk_at "x0"
   refine ⟨ty_list g2,?_⟩
   walk_at "x0"
   refine uQ g2 ?_;have hne:mh.length+1≠mh.length:=by omega
   have g1':=Dl (o:=.lst (ds'.map T.e)) g1 hne;have g2':=Hl (o:=.lst (ds'.map T.e)) g2;have x1':Ext [] mh (h1.set (mh.length+1) (.lst (ds'.map T.e))):=x1.setNew (by omega);generalize h1.set (mh.length+1) (.lst (ds'.map T.e))=h2 at g1' g2' x1'
   walk_at "x0"
   refine ⟨ty_list g1',?_⟩
   walk_at "x0"
   refine Dd g1' (by rw [List.length_map];omega) ?_;have g3:=Hl (o:=.lst (fs.map T.e++[T.e t])) g1';have g4:=Dl (o:=.lst (fs.map T.e++[T.e t])) g2' hne.symm;have x3:Ext [] mh (h2.set mh.length (.lst (fs.map T.e++[T.e t]))):=x1'.setNew (Nat.le_refl _);generalize h2.set mh.length (.lst (fs.map T.e++[T.e t]))=h3 at g3 g4 x3;obtain ⟨w,rest,ew,hw1,hw2,hw3⟩:=T.hw t;rw [ew] at g3 ⊢;simp only [List.map_append,List.sum_append,List.map_cons,List.map_nil,List.sum_cons,List.sum_nil,List.length_append,List.length_cons,List.length_nil] at b1 b2;have sz:=T.sz_eq t;have ia':∀ p,((fs++[t]).any p || ((ds'++T.kids t).any (T.any p)))=ts.any (T.any p):=fun p=>by
    rw [← ia p,List.any_append,List.any_append,List.any_append,List.any_cons,List.any_nil,List.any_cons,List.any_nil,T.any_eq p t];cases fs.any p <;> cases p t <;> cases ds'.any (T.any p) <;> simp
   have im':∀ f:α->Prop,(∀ t∈ts,f t)->(∀ t,f t->∀ u∈T.kids t,f u)->(∀ u∈fs++[t],f u)/\∀ u∈ds'++T.kids t,f u:=fun f f1 f2=>by
    obtain ⟨q1,q2⟩:=im f f1 f2;have ft:f t:=q2 t (by simp);refine ⟨fun u hu=>?_,fun u hu=>?_⟩
    ·rcases List.mem_append.mp hu with hu|hu
     ·exact q1 u hu
     ·rw [List.mem_singleton.mp hu];exact ft
    ·rcases List.mem_append.mp hu with hu|hu
     ·exact q2 u (List.mem_append.mpr (.inl hu))
     ·exact f2 t ft u hu
   have lsz:∀ l:List α,l.length<=(l.map T.sz).sum:=fun l=>by
    induction l with
    | nil=>exact Nat.le_refl _
    | cons a r ih =>
     have:=T.sz_eq a;simp only [List.map_cons,List.sum_cons,List.length_cons];omega
   walk_at "x0"
   refine Ac (j:=0) rfl ?_
   walk_at "x0"
   refine Dv (Df (ws:=["not", "both", "either"]) hw1 (by decide +kernel) _) ?_
   rw [show (([("not":Str), "both", "either"]:List Str).any (·==w))=T.inn t from hw2]
   walk_at "x0"
   refine Ax (fun q=>?_) fun q=>?_
   ·have q:T.inn t=true:=q
    walk_at "x0"
    refine ⟨ty_list g4,?_⟩
    walk_at "x0"
    refine Dg ?_;rw [hw3 q]
    walk_at "x0"
    have l1:=lsz ds';have l2:=lsz (T.kids t);refine uR g4 (by rw [List.length_map,List.length_map];omega) ?_;have g5:=Hl (o:=.lst (ds'.map T.e++(T.kids t).map T.e)) g4;have g6:=Dl (o:=.lst (ds'.map T.e++(T.kids t).map T.e)) g3 hne;have x5:Ext [] mh (h3.set (mh.length+1) (.lst (ds'.map T.e++(T.kids t).map T.e))):=x3.setNew (by omega);generalize h3.set (mh.length+1) (.lst (ds'.map T.e++(T.kids t).map T.e))=h4 at g5 g6 x5
    walk_at "x0"
    refine ⟨_,?_,fs++[t],ds'++T.kids t,_,rfl,rfl,?_,lsz _,ia',im',x5,?_,?_⟩
    ·simp only [List.map_append,List.sum_append,List.map_cons,List.map_nil,List.sum_cons,List.sum_nil];omega
    ·simp only [List.map_append,List.sum_append,List.length_append,List.length_cons,List.length_nil];omega
    ·rw [g6,List.map_append,List.map_cons,List.map_nil,ew,hw3 q]
    ·rw [g5,List.map_append]
   ·have q:T.inn t=false:=q;have hk:=T.leaf t q
    walk_at "x0"
    refine ⟨_,?_,fs++[t],ds',_,rfl,rfl,?_,lsz _,fun p=>?_,fun f f1 f2=>?_,x3,?_,g4⟩
    ·simp only [List.map_append,List.sum_append,List.map_cons,List.map_nil,List.sum_cons,List.sum_nil];omega
    ·simp only [List.length_append,List.length_cons,List.length_nil];omega
    ·have:=ia' p;rwa [hk,List.append_nil] at this
    ·have:=im' f f1 f2;rwa [hk,List.append_nil] at this
    ·rw [g3,List.map_append,List.map_cons,List.map_nil,ew]
  ·have hd:ds=[]:=by
    have:=of_decide_eq_false hd;exact List.length_eq_zero_iff.mp (by omega)
   subst hd
   walk_at "x0"
   exact h fs mh.length h1 (by simp at b1;exact b1) (fun p=>by have:=ia p;simpa using this) (fun f f1 f2=>(im f f1 f2).1) x1 g1
noncomputable def HT.any (p:HT->Bool):HT->Bool
 | .no a=>p (.no a) || a.any p
 | .both a b=>p (.both a b) || (a.any p || b.any p)
 | .either a b=>p (.either a b) || (a.any p || b.any p)
 | .at n=>p (.at n)
 | .num b x y=>p (.num b x y)
 | .has b=>p (.has b)
 | .fallen=>p .fallen
 | .many b n=>p (.many b n)
 | .bell=>p .bell
noncomputable def HT.kids:HT->List HT
 | .no a=>[a]
 | .both a b=>[a,b]
 | .either a b=>[a,b]
 | _=>[]
noncomputable def HT.inn:HT->Bool
 | .no _=>true
 | .both _ _=>true
 | .either _ _=>true
 | _=>false
noncomputable def HT.sz:HT->Nat
 | .no a=>a.sz+1
 | .both a b=>a.sz+b.sz+1
 | .either a b=>a.sz+b.sz+1
 | _=>1
noncomputable def Afr:Tre HT where
 e:=htD
 kids:=HT.kids
 inn:=HT.inn
 sz:=HT.sz
 any:=HT.any
 any_eq:=fun p a=>by cases a <;> simp [HT.any,HT.kids]
 sz_eq:=fun a=>by cases a <;> simp [HT.kids,HT.sz] <;> omega
 hw:=fun a=>by cases a <;> exact ⟨_,_,rfl,by kernel_rfl,by kernel_rfl,fun h=>by first | rfl | cases h⟩
 leaf:=fun a h=>by cases a <;> first | rfl | cases h
noncomputable def TT.any (p:TT->Bool):TT->Bool
 | .no a=>p (.no a) || a.any p
 | .both a b=>p (.both a b) || (a.any p || b.any p)
 | .either a b=>p (.either a b) || (a.any p || b.any p)
 | .letters k x y=>p (.letters k x y)
 | .count r t x y=>p (.count r t x y)
noncomputable def TT.kids:TT->List TT
 | .no a=>[a]
 | .both a b=>[a,b]
 | .either a b=>[a,b]
 | _=>[]
noncomputable def TT.inn:TT->Bool
 | .no _=>true
 | .both _ _=>true
 | .either _ _=>true
 | _=>false
noncomputable def TT.sz:TT->Nat
 | .no a=>a.sz+1
 | .both a b=>a.sz+b.sz+1
 | .either a b=>a.sz+b.sz+1
 | _=>1
noncomputable def Aen:Tre TT where
 e:=ttD
 kids:=TT.kids
 inn:=TT.inn
 sz:=TT.sz
 any:=TT.any
 any_eq:=fun p a=>by cases a <;> simp [TT.any,TT.kids]
 sz_eq:=fun a=>by cases a <;> simp [TT.kids,TT.sz] <;> omega
 hw:=fun a=>by cases a <;> exact ⟨_,_,rfl,by kernel_rfl,by kernel_rfl,fun h=>by first | rfl | cases h⟩
 leaf:=fun a h=>by cases a <;> first | rfl | cases h
noncomputable def txP (k:TX):PyData:=.tuple (.str k.1::k.2.map PyData.int)
theorem Ti (mh:MH) (n:Nat):∀ l:List Int,Cr (py mh n) (l.map D.int)=some (l.map PyData.int)
 | []=>rfl
 | a::r=>by
  have e:py mh n (.int a)=some (.int a):=by cases n <;> rfl
  simp only [List.map_cons,Cr,e,Ti mh n r]
theorem vZ {mh:MH}{n:Nat}{k:TX}(h:PyData.strOk k.1=true):py mh (n+1) (txD k)=some (txP k):=by
 show (match Cr (py mh n) (.str k.1::k.2.map D.int) with | some xs=>some (PyData.tuple xs) | none=>none)=_;have e:py mh n (.str k.1)=some (.str k.1):=by cases n <;> (show (if PyData.strOk k.1=true then some (PyData.str k.1) else none)=_;rw [if_pos h])
 simp only [Cr,e,Ti];rfl
theorem Yi {mh:MH}{n:Nat}:∀ {ms:List TX},(∀ m∈ms,PyData.strOk m.1=true)->Cr (py mh (n+1)) (ms.map txD)=some (ms.map txP)
 | [],_=>rfl
 | m::r,h=>by
  simp only [List.map_cons,Cr,vZ (h m (.head _)),Yi (n:=n) fun x hx=>h x (.tail _ hx)]
theorem Wn:∀ a b:List Int,PyData.eqvAll (a.map PyData.int) (b.map PyData.int)=decide (a=b)
 | [],[]=>rfl
 | [],_::_=>by simp [PyData.eqvAll]
 | _::_,[]=>by simp [PyData.eqvAll]
 | x::xs,y::ys=>by
  show ((x==y)&&PyData.eqvAll (xs.map PyData.int) (ys.map PyData.int))=_;rw [Wn xs ys]
  by_cases e:x=y <;> by_cases e2:xs=ys <;> simp [e,e2]
theorem Aca (a b:TX):PyData.eqv (txP a) (txP b)=decide (a=b):=by
 show ((a.1==b.1)&&PyData.eqvAll (a.2.map PyData.int) (b.2.map PyData.int))=_;rw [Wn]
 by_cases e:a.1=b.1 <;> by_cases e2:a.2=b.2 <;> simp [e,e2,Prod.ext_iff]
theorem Tj {α:Type} [DecidableEq α] (k:α):∀ l:List α,(l.any fun m=>decide (m=k))=decide (k∈l)
 | []=>rfl
 | m::r=>by
  rw [List.any_cons,Tj k r]
  by_cases e:m=k <;> by_cases e2:k∈r <;> simp [e,e2,eq_comm]
  exact fun z=>e z.symm
noncomputable def Tn (ms:List TX):Prop:=∀ m∈ms,PyData.strOk m.1=true
theorem oX {k:TX}{ms:List TX}(hk:PyData.strOk k.1=true) (hm:Tn ms) {mh:MH}{P:D->MH->Prop}(h:P (.bl (decide (k∈ms))) mh):wV (inD false (txD k) (.tup (ms.map txD)) mh) P:=by
 refine Dv (k:=decide (k∈ms)) ?_ h;have e2:py mh 60 (.tup (ms.map txD))=some (.tuple (ms.map txP)):=by
  show (match Cr (py mh 59) (ms.map txD) with | some xs=>some (PyData.tuple xs) | none=>none)=_;rw [Yi hm]
 unfold inB;rw [vZ hk,e2];dsimp only;rw [List.any_map];refine congrArg some (Eq.trans (congrArg ms.any (funext fun m=>Aca m k)) ((Tj k ms).trans ?_));exact decide_eq_decide.mpr Iff.rfl
theorem oY {ms:List TX}(hm:Tn ms) {mh:MH}{P:D->MH->Prop}(h:P (.bl false) mh):wV (inD false .non (.tup (ms.map txD)) mh) P:=by
 refine Dv (k:=false) ?_ h;have e2:py mh 60 (.tup (ms.map txD))=some (.tuple (ms.map txP)):=by
  show (match Cr (py mh 59) (ms.map txD) with | some xs=>some (PyData.tuple xs) | none=>none)=_;rw [Yi hm]
 have e1:py mh 60 .non=some .none:=rfl;unfold inB;rw [e1,e2];dsimp only;rw [List.any_map];have:(ms.any ((fun y=>PyData.eqv y .none) ∘ txP))=false:=by
  rw [List.any_eq_false];intro b _;simp [txP,PyData.eqv]
 rw [this]
theorem Zw {n:Int}{ps:List Int}{mh:MH}{P:D->MH->Prop}(h:P (.bl (decide (n∈ps))) mh):wV (inD false (.int n) (.tup (ps.map D.int)) mh) P:=by
 refine Dv (k:=decide (n∈ps)) ?_ h;have e2:py mh 60 (.tup (ps.map D.int))=some (.tuple (ps.map PyData.int)):=by
  show (match Cr (py mh 59) (ps.map D.int) with | some xs=>some (PyData.tuple xs) | none=>none)=_;rw [Ti]
 have e1:py mh 60 (.int n)=some (.int n):=rfl;unfold inB;rw [e1,e2];dsimp only;rw [List.any_map];refine congrArg some (Eq.trans (congrArg ps.any (funext fun m=>?_)) ((Tj n ps).trans ?_))
 ·show (m==n)=_
  by_cases e:m=n <;> simp [e]
 ·exact decide_eq_decide.mpr Iff.rfl
noncomputable def HT.mark:HT->Option TX
 | .num b _ _=>some ("number",[(b:Int)])
 | .has b=>some ("name",[(b:Int)])
 | .many b _=>some ("set",[(b:Int)])
 | .bell=>some ("bell",[])
 | _=>none
noncomputable def moD:Option TX->D
 | none=>.non
 | some k=>txD k
theorem Gm {t:HT}{k:TX}(h:t.mark=some k):PyData.strOk k.1=true:=by cases t <;> cases h <;> kernel_rfl
theorem Ho (k:Nat) (t:HT) (mh:MH):Af (Gk (k+1)) fuel f38 [htD t] mh=some (moD t.mark,mh):=by cases t <;> kernel_rfl
noncomputable def Du (ps:List Int) (ms:List TX):HT->Bool
 | .at n=>decide (n∈ps)
 | t=>match t.mark with
  | some k=>decide (k∈ms)
  | none=>false
theorem El {α:Type}{mi:DM Src}{cs:List (Option Nat)}{g:GM}{tc:DM Bool}{e:DM D}{loc:DL.Loc}{mh:MH}{Q:D->MH->Prop}(xs:List α) (F:α->D) (pr:α->Bool) (f:α->D) (hz:xs.length<=1000000)
  (hm:wD mi loc mh fun src h0=>Ext [] mh h0/\∀ h,Ext [] h0 h->src.ok h=true/\src.items h=xs.map F)
  (step:∀ x h,x∈xs->Ext [] mh h->wG (g (F x) (G7 cs loc) h) fun l1 h1=>h1=h/\wD tc l1 h fun c h2=>c=pr x/\Ext [] h h2/\(pr x=true->wD e l1 h2 fun z h3=>z=f x/\Ext [] h2 h3))
  (fin:∀ h,Ext [] mh h->Q (.ref h.length) (h++[.lst ((xs.filter pr).map f)])):wD (Bo mi cs g tc e) loc mh Q:=by
 refine Iz (Bb hm ?_);rintro src h0 ⟨x0,keep⟩;refine ⟨xs.map F,fun i acc h=>acc=((xs.take i).filter pr).map f/\i<=xs.length/\Ext [] h0 h,by rw [List.length_map];exact hz,⟨rfl,Nat.zero_le _,Ext.refl⟩,fun i acc h q=>keep h q.2.2,?_,?_,?_⟩
 ·rintro i acc h ⟨rfl,hi,_⟩;rw [List.length_map];refine Nat.le_trans (List.length_filter_le _ _) ?_;rw [List.length_take];omega
 ·rintro i d acc h ed ⟨rfl,hi,x⟩;rw [List.getElem?_map] at ed;cases ex:xs[i]? with
  | none=>rw [ex] at ed;cases ed
  | some y =>
   rw [ex] at ed;cases ed;have hl:=(List.getElem?_eq_some_iff.mp ex).1;have et:xs.take (i+1)=xs.take i++[y]:=by rw [List.take_add_one,ex];rfl
   obtain ⟨l1,h1,e1,rfl,c,h2,e2,rfl,x2,q⟩:=step y h (List.mem_of_getElem? ex) (x0.trans x);refine ⟨l1,_,e1,_,_,e2,fun hp=>?_,fun hp=>⟨?_,hl,x.trans x2⟩⟩
   ·refine Bb (q hp) ?_;rintro z h3 ⟨rfl,x3⟩;refine ⟨?_,hl,(x.trans x2).trans x3⟩;rw [et,List.filter_append,List.map_append];simp [hp]
   ·rw [et,List.filter_append,List.map_append];simp [hp]
 ·rintro acc h ⟨rfl,hi,x⟩;rw [List.length_map,List.take_length];exact fin h (x0.trans x)
theorem Ks {ds:List D}{α:Type}{xs:List α}{F:α->D}{mh:MH}(e:ds=xs.map F):Ext [] mh mh/\∀ h,Ext [] mh h->(Src.seq ds).ok h=true/\(Src.seq ds).items h=xs.map F:=⟨Ext.refl,fun _ _=>⟨rfl,e⟩⟩
theorem Ku {n:Nat}{α:Type}{xs:List α}{F:α->D}{mh:MH}(e:mh[n]?=some (.lst (xs.map F))):∀ h,Ext [] mh h->(Src.lref n).ok h=true/\(Src.lref n).items h=xs.map F:=fun h x=>Jb (x.old _ _ (by simp) e)
theorem O8 {f:D->Option PyData}:∀ {ds:List D},(∀ d∈ds,∃ y,f d=some y)->∃ ys,Cr f ds=some ys/\ys.length=ds.length
 | [],_=>⟨[],rfl,rfl⟩
 | d::r,h=>by
  obtain ⟨y,e⟩:=h d (.head _);obtain ⟨ys,e2,e3⟩:=O8 fun x hx=>h x (.tail _ hx)
  exact ⟨y::ys,by simp only [Cr,e,e2],by simp [e3]⟩
theorem M4 {a b:Nat}{ds:List D}{mh:MH}{P:D->MH->Prop}(e1:mh[a]?=some (.lst ds)) (e2:mh[b]?=some (.lst [])) (hd:∀ d∈ds,∃ y,py mh 59 d=some y) (h:P (.bl (!ds.isEmpty)) mh):wV (neD (.ref a) (.ref b) mh) P:=by
 obtain ⟨ys,ey,el⟩:=O8 hd;have q1:py mh 60 (.ref a)=some (.list ys):=by
  show (match mh[a]? with | some (.lst o)=>(match Cr (py mh 59) o with | some xs=>some (PyData.list xs) | none=>none) | _=>none)=_;rw [e1];dsimp only;rw [ey]
 have q2:py mh 60 (.ref b)=some (.list []):=by
  show (match mh[b]? with | some (.lst o)=>(match Cr (py mh 59) o with | some xs=>some (PyData.list xs) | none=>none) | _=>none)=_;rw [e2];rfl
 refine Bh (d:=.bl (!ds.isEmpty)) (h:=mh) ?_ h;unfold neD eqB;rw [q1,q2];dsimp only;cases ds with
 | nil=>cases ys with
  | nil=>rfl
  | cons=>cases el
 | cons d r=>cases ys with
  | nil=>cases el
  | cons=>rfl
theorem Aeo {mh:MH}{n:Nat}{w:Str}(h:PyData.strOk w=true):py mh n (.str w)=some (.str w):=by cases n <;> (show (if PyData.strOk w=true then some (PyData.str w) else none)=_;rw [if_pos h])
theorem Aep {mh:MH}{n:Nat}{i:Int}:py mh n (.int i)=some (.int i):=by cases n <;> rfl
theorem Aeq {mh:MH}{n:Nat}{ds:List D}(h:∀ d∈ds,∃ y,py mh n d=some y):∃ y,py mh (n+1) (.tup ds)=some y:=by
 obtain ⟨ys,ey,_⟩:=O8 h;exact ⟨.tuple ys,by show (match Cr (py mh n) ds with | some xs=>some (PyData.tuple xs) | none=>none)=_;rw [ey]⟩
noncomputable def sm:D->Bool
 | .int _=>true
 | .str w=>PyData.strOk w
 | .non=>true
 | _=>false
theorem wA {mh:MH}{n:Nat}{ds:List D}(h:ds.all sm=true):∃ y,py mh (n+1) (.tup ds)=some y:=Aeq fun d hd=>by
 have:=List.all_eq_true.mp h d hd;cases d with
 | int i=>exact ⟨_,Aep⟩
 | str w=>exact ⟨_,Aeo this⟩
 | non=>exact ⟨.none,by cases n <;> rfl⟩
 | _=>cases this
theorem Q7 (mh:MH) (t:HT):∀ (n:Nat),t.dep+1<=n->∃ y,py mh n (htD t)=some y:=by
 have w1:∀ (m:Nat) (w:Str) (l:List D),PyData.strOk w=true->(∀ d∈l,∃ y,py mh m d=some y)->∃ y,py mh (m+1) (.tup (.str w::l))=some y:=fun m w l hw hl=>Aeq fun d hd=>by
  rcases List.mem_cons.mp hd with rfl|hd
  ·exact ⟨_,Aeo hw⟩
  ·exact hl d hd
 induction t with
 | no a ih =>
  intro n hn;have hn:a.dep+1+1<=n:=hn;obtain ⟨m,rfl⟩:∃ m,n=m+1:=⟨n - 1,by omega⟩;exact w1 m _ _ (by kernel_rfl) fun d hd=>by rw [List.mem_singleton.mp hd];exact ih m (by omega)
 | both a b iha ihb =>
  intro n hn;have hn:max a.dep b.dep+1+1<=n:=hn;obtain ⟨m,rfl⟩:∃ m,n=m+1:=⟨n - 1,by omega⟩;refine w1 m _ _ (by kernel_rfl) fun d hd=>?_
  simp only [List.mem_cons,List.mem_nil_iff,or_false] at hd;rcases hd with rfl|rfl
  ·exact iha m (by omega)
  ·exact ihb m (by omega)
 | either a b iha ihb =>
  intro n hn;have hn:max a.dep b.dep+1+1<=n:=hn;obtain ⟨m,rfl⟩:∃ m,n=m+1:=⟨n - 1,by omega⟩;refine w1 m _ _ (by kernel_rfl) fun d hd=>?_
  simp only [List.mem_cons,List.mem_nil_iff,or_false] at hd;rcases hd with rfl|rfl
  ·exact iha m (by omega)
  ·exact ihb m (by omega)
 | num b x y =>
  intro n hn;obtain ⟨m,rfl⟩:∃ m,n=m+1:=⟨n - 1,by omega⟩;exact wA (by cases x <;> cases y <;> kernel_rfl)
 | _ =>
  intro n hn;obtain ⟨m,rfl⟩:∃ m,n=m+1:=⟨n - 1,by omega⟩;exact wA (by kernel_rfl)
theorem uT (p:HT->Bool) (a:HT):(!((([a].filter p).map htD)).isEmpty)=p a:=by cases e:p a <;> simp [e]
theorem Zx (p:HT->Bool) (a b:HT):(!((([a,b].filter p).map htD)).isEmpty)=(p a || p b):=by cases e:p a <;> cases e2:p b <;> simp [e,e2]
noncomputable def kvW:List (Key×D):=[(.inr "number",.str "number"),(.inr "has",.str "name"),(.inr "many",.str "set")]
theorem Tp (ps:List Int) (ms:List TX) (hm:Tn ms) (n:Nat) (mh:MH) {P:D->MH->Prop}(w nm:Str) (b:Int) (l:List D) (w1:PyData.strOk w=true) (w2:(([("not":Str), "both", "either"]:List Str).any (·==w))=false) (w3:(w==("at":Str))=false) (w4:Kf kvW (.inr w)=some (.str nm)) (w5:PyData.strOk nm=true)
  (h:∀ h',Ext [] mh h'->P (.bl (decide (((nm,[b]):TX)∈ms))) h'):wV (Af (Gk (n+1)) fuel f54 [.tup (.str w::.int b::l),.tup (ps.map D.int),.tup (ms.map txD)] mh) P:=by
 refine Ai (J2 n) Dt.1 Dt.2 rfl ?_;show wS (b54 n) [some (.tup (.str w::.int b::l)),some (.tup (ps.map D.int)),some (.tup (ms.map txD)),none] mh _;unfold b54
 walk_at "x0"
 refine Ac (j:=0) rfl ?_
 walk_at "x0"
 refine Dv (Df (ws:=["not", "both", "either"]) w1 (by decide +kernel) _) ?_;refine ⟨_,rfl,?_⟩;refine Ds w2 ?_
 walk_at "x0"
 refine Ac (j:=0) rfl ?_
 walk_at "x0"
 refine Afq w1 (by decide +kernel) ?_;rw [w3];walk_at "r"
 refine Oz (kds:=kvW) (fun h=>by kernel_rfl) (by decide) ?_;rw [show Gs [] kvW=kvW by kernel_rfl];walk_at "r"
 refine Ac (j:=0) rfl ?_;walk_at "r"
 refine Yb Ad rfl ?_;refine ⟨_,rfl,?_⟩;refine Gi (by rw [w4];rfl) ?_;walk_at "r"
 refine Ac (j:=0) rfl ?_;walk_at "r"
 refine Aa6 Ad rfl (d:=.str nm) w4 ?_;walk_at "r"
 refine Ac (j:=1) rfl ?_
 walk_at "x0"
 exact oX (k:=(nm,[b])) w5 hm (h _ Ext.more)
theorem oZ (ps:List Int) (ms:List TX) (hm:Tn ms):∀ (t:HT) (n:Nat) (mh:MH) {P:D->MH->Prop}(hn:t.dep<=n) (h50:t.dep<=50) (h:∀ h',Ext [] mh h'->P (.bl (t.any (Du ps ms))) h'),wV (Af (Gk (n+1)) fuel f54 [htD t,.tup (ps.map D.int),.tup (ms.map txD)] mh) P:=by
 intro t
 induction t with
 | no a ih =>
  intro n mh P hn h50 h;have hn:a.dep+1<=n:=hn;have h50:a.dep+1<=50:=h50;refine Ai (J2 n) Dt.1 Dt.2 rfl ?_
  show wS (b54 n) [some (.tup [.str "not",htD a]),some (.tup (ps.map D.int)),some (.tup (ms.map txD)),none] mh _;unfold b54
  walk_at "x0"
  refine Ac (j:=0) rfl ?_
  walk_at "x0"
  refine Dv (Df (ws:=["not", "both", "either"]) (by decide +kernel) (by decide +kernel) _) ?_;refine ⟨_,rfl,?_⟩;refine Gi (by kernel_rfl) ?_;walk_at "r"
  obtain ⟨m,rfl⟩:∃ m,n=m+1:=⟨n - 1,by omega⟩;refine El [a] htD (fun t=>t.any (Du ps ms)) htD (by simp) ?_ (fun t h' ht x'=>?_) fun h' x'=>?_
  ·walk_at "r"
   refine Dg ?_;exact ⟨_,rfl,Ks rfl⟩
  ·rw [List.mem_singleton] at ht;subst ht;walk_at "r"
   refine ⟨rfl,?_⟩;walk_at "r"
   refine ih m h' (by omega) (by omega) fun h2 x2=>?_
   refine ⟨_,rfl,rfl,x2,fun _=>?_⟩;walk_at "r"
   exact ⟨rfl,Ext.refl⟩
  ·walk_at "x0"
   refine M4 (Ext.more.old (W:=[]) _ _ (by simp) Ad) Ad (fun d hd=>?_) ?_
   ·obtain ⟨u,hu,rfl⟩:=List.mem_map.mp hd;have hu:=(List.mem_filter.mp hu).1;simp only [List.mem_cons,List.mem_nil_iff,or_false] at hu
    first
     | (subst hu;exact Q7 _ _ 59 (by omega))
     | (rcases hu with rfl | rfl <;> exact Q7 _ _ 59 (by omega))
   rw [uT];exact h _ ((x'.trans Ext.more).trans Ext.more)
 | both a b iha ihb =>
  intro n mh P hn h50 h;have hn:max a.dep b.dep+1<=n:=hn;have h50:max a.dep b.dep+1<=50:=h50;refine Ai (J2 n) Dt.1 Dt.2 rfl ?_
  show wS (b54 n) [some (.tup [.str "both",htD a,htD b]),some (.tup (ps.map D.int)),some (.tup (ms.map txD)),none] mh _;unfold b54
  walk_at "x0"
  refine Ac (j:=0) rfl ?_
  walk_at "x0"
  refine Dv (Df (ws:=["not", "both", "either"]) (by decide +kernel) (by decide +kernel) _) ?_;refine ⟨_,rfl,?_⟩;refine Gi (by kernel_rfl) ?_;walk_at "r"
  obtain ⟨m,rfl⟩:∃ m,n=m+1:=⟨n - 1,by omega⟩;refine El [a,b] htD (fun t=>t.any (Du ps ms)) htD (by simp) ?_ (fun t h' ht x'=>?_) fun h' x'=>?_
  ·walk_at "r"
   refine Dg ?_;exact ⟨_,rfl,Ks rfl⟩
  ·have iht:∀ (n:Nat) (mh:MH) {P:D->MH->Prop},t.dep<=n->t.dep<=50->(∀ h',Ext [] mh h'->P (.bl (t.any (Du ps ms))) h')->wV (Af (Gk (n+1)) fuel f54 [htD t,.tup (ps.map D.int),.tup (ms.map txD)] mh) P:=by
    simp only [List.mem_cons,List.mem_nil_iff,or_false] at ht;rcases ht with rfl|rfl
    ·exact iha
    ·exact ihb
   have hd:t.dep<=m/\t.dep<=50:=by
    simp only [List.mem_cons,List.mem_nil_iff,or_false] at ht;rcases ht with rfl | rfl <;> omega
   walk_at "r"
   refine ⟨rfl,?_⟩;walk_at "r"
   refine iht m h' hd.1 hd.2 fun h2 x2=>?_
   refine ⟨_,rfl,rfl,x2,fun _=>?_⟩;walk_at "r"
   exact ⟨rfl,Ext.refl⟩
  ·walk_at "x0"
   refine M4 (Ext.more.old (W:=[]) _ _ (by simp) Ad) Ad (fun d hd=>?_) ?_
   ·obtain ⟨u,hu,rfl⟩:=List.mem_map.mp hd;have hu:=(List.mem_filter.mp hu).1;simp only [List.mem_cons,List.mem_nil_iff,or_false] at hu
    first
     | (subst hu;exact Q7 _ _ 59 (by omega))
     | (rcases hu with rfl | rfl <;> exact Q7 _ _ 59 (by omega))
   rw [Zx];exact h _ ((x'.trans Ext.more).trans Ext.more)
 | either a b iha ihb =>
  intro n mh P hn h50 h;have hn:max a.dep b.dep+1<=n:=hn;have h50:max a.dep b.dep+1<=50:=h50;refine Ai (J2 n) Dt.1 Dt.2 rfl ?_
  show wS (b54 n) [some (.tup [.str "either",htD a,htD b]),some (.tup (ps.map D.int)),some (.tup (ms.map txD)),none] mh _;unfold b54
  walk_at "x0"
  refine Ac (j:=0) rfl ?_
  walk_at "x0"
  refine Dv (Df (ws:=["not", "both", "either"]) (by decide +kernel) (by decide +kernel) _) ?_;refine ⟨_,rfl,?_⟩;refine Gi (by kernel_rfl) ?_;walk_at "r"
  obtain ⟨m,rfl⟩:∃ m,n=m+1:=⟨n - 1,by omega⟩;refine El [a,b] htD (fun t=>t.any (Du ps ms)) htD (by simp) ?_ (fun t h' ht x'=>?_) fun h' x'=>?_
  ·walk_at "r"
   refine Dg ?_;exact ⟨_,rfl,Ks rfl⟩
  ·have iht:∀ (n:Nat) (mh:MH) {P:D->MH->Prop},t.dep<=n->t.dep<=50->(∀ h',Ext [] mh h'->P (.bl (t.any (Du ps ms))) h')->wV (Af (Gk (n+1)) fuel f54 [htD t,.tup (ps.map D.int),.tup (ms.map txD)] mh) P:=by
    simp only [List.mem_cons,List.mem_nil_iff,or_false] at ht;rcases ht with rfl|rfl
    ·exact iha
    ·exact ihb
   have hd:t.dep<=m/\t.dep<=50:=by
    simp only [List.mem_cons,List.mem_nil_iff,or_false] at ht;rcases ht with rfl | rfl <;> omega
   walk_at "r"
   refine ⟨rfl,?_⟩;walk_at "r"
   refine iht m h' hd.1 hd.2 fun h2 x2=>?_
   refine ⟨_,rfl,rfl,x2,fun _=>?_⟩;walk_at "r"
   exact ⟨rfl,Ext.refl⟩
  ·walk_at "x0"
   refine M4 (Ext.more.old (W:=[]) _ _ (by simp) Ad) Ad (fun d hd=>?_) ?_
   ·obtain ⟨u,hu,rfl⟩:=List.mem_map.mp hd;have hu:=(List.mem_filter.mp hu).1;simp only [List.mem_cons,List.mem_nil_iff,or_false] at hu
    first
     | (subst hu;exact Q7 _ _ 59 (by omega))
     | (rcases hu with rfl | rfl <;> exact Q7 _ _ 59 (by omega))
   rw [Zx];exact h _ ((x'.trans Ext.more).trans Ext.more)
 | «at» i =>
  intro n mh P hn h50 h;refine Ai (J2 n) Dt.1 Dt.2 rfl ?_
  show wS (b54 n) [some (.tup [.str "at",.int i]),some (.tup (ps.map D.int)),some (.tup (ms.map txD)),none] mh _;unfold b54
  walk_at "x0"
  refine Ac (j:=0) rfl ?_
  walk_at "x0"
  refine Dv (Df (ws:=["not", "both", "either"]) (by decide +kernel) (by decide +kernel) _) ?_;refine ⟨_,rfl,?_⟩;refine Ds (by kernel_rfl) ?_
  walk_at "x0"
  refine Ac (j:=0) rfl ?_
  walk_at "x0"
  refine Ce (fun _=>by kernel_rfl) ?_;walk_at "r"
  refine Ac (j:=1) rfl ?_;walk_at "r"
  exact Zw (h _ Ext.refl)
 | num b x y =>
  intro n mh P hn h50 h
  exact Tp ps ms hm n mh _ "number" b _ (by decide +kernel) (by decide +kernel) (by decide +kernel) (by kernel_rfl) (by decide +kernel) h
 | has b =>
  intro n mh P hn h50 h
  exact Tp ps ms hm n mh _ "name" b _ (by decide +kernel) (by decide +kernel) (by decide +kernel) (by kernel_rfl) (by decide +kernel) h
 | many b i =>
  intro n mh P hn h50 h
  exact Tp ps ms hm n mh _ "set" b _ (by decide +kernel) (by decide +kernel) (by decide +kernel) (by kernel_rfl) (by decide +kernel) h
 | fallen =>
  intro n mh P hn h50 h;refine Ai (J2 n) Dt.1 Dt.2 rfl ?_
  show wS (b54 n) [some (.tup [.str "fallen"]),some (.tup (ps.map D.int)),some (.tup (ms.map txD)),none] mh _;unfold b54
  walk_at "x0"
  refine Ac (j:=0) rfl ?_
  walk_at "x0"
  refine Dv (Df (ws:=["not", "both", "either"]) (by decide +kernel) (by decide +kernel) _) ?_;refine ⟨_,rfl,?_⟩;refine Ds (by kernel_rfl) ?_
  walk_at "x0"
  refine Ac (j:=0) rfl ?_
  walk_at "x0"
  refine Aj (fun _=>by kernel_rfl) ?_;walk_at "r"
  refine Oz (kds:=kvW) (fun h=>by kernel_rfl) (by decide) ?_;rw [show Gs [] kvW=kvW by kernel_rfl];walk_at "r"
  refine Ac (j:=0) rfl ?_;walk_at "r"
  refine Yb Ad rfl ?_;refine ⟨_,rfl,?_⟩;refine Ds (by kernel_rfl) ?_;walk_at "r"
  refine Ac (j:=0) rfl ?_;walk_at "r"
  refine Aj (fun _=>by kernel_rfl) ?_;walk_at "r"
  exact h _ Ext.more
 | bell =>
  intro n mh P hn h50 h;refine Ai (J2 n) Dt.1 Dt.2 rfl ?_
  show wS (b54 n) [some (.tup [.str "bell"]),some (.tup (ps.map D.int)),some (.tup (ms.map txD)),none] mh _;unfold b54
  walk_at "x0"
  refine Ac (j:=0) rfl ?_
  walk_at "x0"
  refine Dv (Df (ws:=["not", "both", "either"]) (by decide +kernel) (by decide +kernel) _) ?_;refine ⟨_,rfl,?_⟩;refine Ds (by kernel_rfl) ?_
  walk_at "x0"
  refine Ac (j:=0) rfl ?_
  walk_at "x0"
  refine Aj (fun _=>by kernel_rfl) ?_;walk_at "r"
  refine Oz (kds:=kvW) (fun h=>by kernel_rfl) (by decide) ?_;rw [show Gs [] kvW=kvW by kernel_rfl];walk_at "r"
  refine Ac (j:=0) rfl ?_;walk_at "r"
  refine Yb Ad rfl ?_;refine ⟨_,rfl,?_⟩;refine Ds (by kernel_rfl) ?_;walk_at "r"
  refine Ac (j:=0) rfl ?_;walk_at "r"
  refine Ce (fun _=>by kernel_rfl) ?_
  walk_at "x0"
  exact oX (k:=("bell",[])) (by decide +kernel) hm (h _ Ext.more)
noncomputable def Bf (r:Nat) (ps:List Int) (ms:List TX):TT->Bool
 | .count q t _ _=>((q:Int)==(r:Int))&&t.any (Du ps ms)
 | _=>false
theorem Cp {α:Type}{p:α->Bool}{l:List α}{i:Nat}{a:α}(e:l[i]?=some a) (h:(l.take i).any p=false) (ha:p a=false):(l.take (i+1)).any p=false:=by
 rw [List.take_add_one,e];simp [h,ha]
theorem Ik {α:Type}{p:α->Bool}{l:List α}{i:Nat}{a:α}(e:l[i]?=some a) (ha:p a=true):l.any p=true:=List.any_eq_true.mpr ⟨a,List.mem_of_getElem? e,ha⟩
theorem cO (r:Nat) (ps:List Int) (ms:List TX) (hm:Tn ms):∀ (t:TT) (n:Nat) (mh:MH) {P:D->MH->Prop}(hn:t.dep<=n) (ok:t.ok) (h:∀ h',Ext [] mh h'->P (.bl (t.any (Bf r ps ms))) h'),wV (Af (Gk (n+4)) fuel f55 [ttD t,.int r,.tup (ps.map D.int),.tup (ms.map txD)] mh) P:=by
 intro t
 induction t with
 | no a ih =>
  intro n mh P hn ok h;have hn:a.dep+1<=n:=hn;have ok:a.ok:=ok;have ihs:∀ u∈[a],∀ (n:Nat) (mh:MH) {P:D->MH->Prop},u.dep<=n->u.ok->(∀ h',Ext [] mh h'->P (.bl (u.any (Bf r ps ms))) h')->wV (Af (Gk (n+4)) fuel f55 [ttD u,.int r,.tup (ps.map D.int),.tup (ms.map txD)] mh) P:=fun u hu=>by
   rw [List.mem_singleton] at hu;subst hu;exact ih
  refine Ai (O2 (n+3)) Gv.1 Gv.2 rfl ?_
  show wS (b55 (n+3)) [some (.tup [.str "not",ttD a]),some (.int r),some (.tup (ps.map D.int)),some (.tup (ms.map txD)),none] mh _;unfold b55
  walk_at "x0"
  refine Ac (j:=0) rfl ?_
  walk_at "x0"
  refine Dv (Df (ws:=["not", "both", "either"]) (by decide +kernel) (by decide +kernel) _) ?_;refine ⟨_,rfl,?_⟩;have ea:([a].any fun u=>u.any (Bf r ps ms))=TT.any (Bf r ps ms) (.no a):=by simp [TT.any,Bf]
  refine Gi (by kernel_rfl) ?_;obtain ⟨m,rfl⟩:∃ m,n=m+1:=⟨n - 1,by omega⟩;walk_at "r"
  refine Cu ?_;walk_at "r"
  refine Dg ?_
  refine ⟨_,rfl,[a].map ttD,fun i l h'=>∃ y4,l=[some (.tup [.str "not",ttD a]),some (.int r),some (.tup (ps.map D.int)),some (.tup (ms.map txD)),y4]/\Ext [] mh h'/\([a].take i).any (fun u=>u.any (Bf r ps ms))=false,⟨_,rfl,Ext.refl,rfl⟩,fun _ _ _ _=>⟨rfl,rfl⟩,?_,?_⟩
  ·rintro i d l h1 ed ⟨y4,rfl,x1,q⟩;rw [List.getElem?_map] at ed;cases eu:([a])[i]? with
   | none=>rw [eu] at ed;cases ed
   | some u =>
    rw [eu] at ed;cases ed;walk_at "r"
    refine ihs u (List.mem_of_getElem? eu) m h1 ?_ ?_ fun h2 x2=>?_
    ·have:=List.mem_of_getElem? eu;simp only [List.mem_cons,List.mem_nil_iff,or_false] at this
     first
      | (subst this;omega)
      | (rcases this with rfl | rfl <;> omega)
    ·have:=List.mem_of_getElem? eu;simp only [List.mem_cons,List.mem_nil_iff,or_false] at this
     first
      | (subst this;exact ok)
      | (rcases this with rfl|rfl;exact ok.1;exact ok.2)
    refine ⟨_,rfl,?_⟩;refine Ax (fun e=>?_) fun e=>?_
    ·walk_at "r"
     have e2:=Ik (p:=fun u=>u.any (Bf r ps ms)) eu e;rw [ea] at e2;have:=h h2 (x1.trans x2);rw [e2] at this;exact this
    ·walk_at "r"
     exact ⟨_,rfl,x1.trans x2,Cp eu q e⟩
  ·rintro l h1 ⟨y4,rfl,x1,q⟩;walk_at "r"
   rw [List.length_map,List.take_length,ea] at q;have:=h h1 x1;rw [q] at this;exact this
 | both a b iha ihb =>
  intro n mh P hn ok h;have hn:max a.dep b.dep+1<=n:=hn;have ok:a.ok/\b.ok:=ok;have ihs:∀ u∈[a,b],∀ (n:Nat) (mh:MH) {P:D->MH->Prop},u.dep<=n->u.ok->(∀ h',Ext [] mh h'->P (.bl (u.any (Bf r ps ms))) h')->wV (Af (Gk (n+4)) fuel f55 [ttD u,.int r,.tup (ps.map D.int),.tup (ms.map txD)] mh) P:=fun u hu=>by
   simp only [List.mem_cons,List.mem_nil_iff,or_false] at hu;rcases hu with rfl|rfl
   ·exact iha
   ·exact ihb
  refine Ai (O2 (n+3)) Gv.1 Gv.2 rfl ?_
  show wS (b55 (n+3)) [some (.tup [.str "both",ttD a,ttD b]),some (.int r),some (.tup (ps.map D.int)),some (.tup (ms.map txD)),none] mh _;unfold b55
  walk_at "x0"
  refine Ac (j:=0) rfl ?_
  walk_at "x0"
  refine Dv (Df (ws:=["not", "both", "either"]) (by decide +kernel) (by decide +kernel) _) ?_;refine ⟨_,rfl,?_⟩;have ea:([a,b].any fun u=>u.any (Bf r ps ms))=TT.any (Bf r ps ms) (.both a b):=by simp [TT.any,Bf]
  refine Gi (by kernel_rfl) ?_;obtain ⟨m,rfl⟩:∃ m,n=m+1:=⟨n - 1,by omega⟩;walk_at "r"
  refine Cu ?_;walk_at "r"
  refine Dg ?_
  refine ⟨_,rfl,[a,b].map ttD,fun i l h'=>∃ y4,l=[some (.tup [.str "both",ttD a,ttD b]),some (.int r),some (.tup (ps.map D.int)),some (.tup (ms.map txD)),y4]/\Ext [] mh h'/\([a,b].take i).any (fun u=>u.any (Bf r ps ms))=false,⟨_,rfl,Ext.refl,rfl⟩,fun _ _ _ _=>⟨rfl,rfl⟩,?_,?_⟩
  ·rintro i d l h1 ed ⟨y4,rfl,x1,q⟩;rw [List.getElem?_map] at ed;cases eu:([a,b])[i]? with
   | none=>rw [eu] at ed;cases ed
   | some u =>
    rw [eu] at ed;cases ed;walk_at "r"
    refine ihs u (List.mem_of_getElem? eu) m h1 ?_ ?_ fun h2 x2=>?_
    ·have:=List.mem_of_getElem? eu;simp only [List.mem_cons,List.mem_nil_iff,or_false] at this
     first
      | (subst this;omega)
      | (rcases this with rfl | rfl <;> omega)
    ·have:=List.mem_of_getElem? eu;simp only [List.mem_cons,List.mem_nil_iff,or_false] at this
     first
      | (subst this;exact ok)
      | (rcases this with rfl|rfl;exact ok.1;exact ok.2)
    refine ⟨_,rfl,?_⟩;refine Ax (fun e=>?_) fun e=>?_
    ·walk_at "r"
     have e2:=Ik (p:=fun u=>u.any (Bf r ps ms)) eu e;rw [ea] at e2;have:=h h2 (x1.trans x2);rw [e2] at this;exact this
    ·walk_at "r"
     exact ⟨_,rfl,x1.trans x2,Cp eu q e⟩
  ·rintro l h1 ⟨y4,rfl,x1,q⟩;walk_at "r"
   rw [List.length_map,List.take_length,ea] at q;have:=h h1 x1;rw [q] at this;exact this
 | either a b iha ihb =>
  intro n mh P hn ok h;have hn:max a.dep b.dep+1<=n:=hn;have ok:a.ok/\b.ok:=ok;have ihs:∀ u∈[a,b],∀ (n:Nat) (mh:MH) {P:D->MH->Prop},u.dep<=n->u.ok->(∀ h',Ext [] mh h'->P (.bl (u.any (Bf r ps ms))) h')->wV (Af (Gk (n+4)) fuel f55 [ttD u,.int r,.tup (ps.map D.int),.tup (ms.map txD)] mh) P:=fun u hu=>by
   simp only [List.mem_cons,List.mem_nil_iff,or_false] at hu;rcases hu with rfl|rfl
   ·exact iha
   ·exact ihb
  refine Ai (O2 (n+3)) Gv.1 Gv.2 rfl ?_
  show wS (b55 (n+3)) [some (.tup [.str "either",ttD a,ttD b]),some (.int r),some (.tup (ps.map D.int)),some (.tup (ms.map txD)),none] mh _;unfold b55
  walk_at "x0"
  refine Ac (j:=0) rfl ?_
  walk_at "x0"
  refine Dv (Df (ws:=["not", "both", "either"]) (by decide +kernel) (by decide +kernel) _) ?_;refine ⟨_,rfl,?_⟩;have ea:([a,b].any fun u=>u.any (Bf r ps ms))=TT.any (Bf r ps ms) (.either a b):=by simp [TT.any,Bf]
  refine Gi (by kernel_rfl) ?_;obtain ⟨m,rfl⟩:∃ m,n=m+1:=⟨n - 1,by omega⟩;walk_at "r"
  refine Cu ?_;walk_at "r"
  refine Dg ?_
  refine ⟨_,rfl,[a,b].map ttD,fun i l h'=>∃ y4,l=[some (.tup [.str "either",ttD a,ttD b]),some (.int r),some (.tup (ps.map D.int)),some (.tup (ms.map txD)),y4]/\Ext [] mh h'/\([a,b].take i).any (fun u=>u.any (Bf r ps ms))=false,⟨_,rfl,Ext.refl,rfl⟩,fun _ _ _ _=>⟨rfl,rfl⟩,?_,?_⟩
  ·rintro i d l h1 ed ⟨y4,rfl,x1,q⟩;rw [List.getElem?_map] at ed;cases eu:([a,b])[i]? with
   | none=>rw [eu] at ed;cases ed
   | some u =>
    rw [eu] at ed;cases ed;walk_at "r"
    refine ihs u (List.mem_of_getElem? eu) m h1 ?_ ?_ fun h2 x2=>?_
    ·have:=List.mem_of_getElem? eu;simp only [List.mem_cons,List.mem_nil_iff,or_false] at this
     first
      | (subst this;omega)
      | (rcases this with rfl | rfl <;> omega)
    ·have:=List.mem_of_getElem? eu;simp only [List.mem_cons,List.mem_nil_iff,or_false] at this
     first
      | (subst this;exact ok)
      | (rcases this with rfl|rfl;exact ok.1;exact ok.2)
    refine ⟨_,rfl,?_⟩;refine Ax (fun e=>?_) fun e=>?_
    ·walk_at "r"
     have e2:=Ik (p:=fun u=>u.any (Bf r ps ms)) eu e;rw [ea] at e2;have:=h h2 (x1.trans x2);rw [e2] at this;exact this
    ·walk_at "r"
     exact ⟨_,rfl,x1.trans x2,Cp eu q e⟩
  ·rintro l h1 ⟨y4,rfl,x1,q⟩;walk_at "r"
   rw [List.length_map,List.take_length,ea] at q;have:=h h1 x1;rw [q] at this;exact this
 | letters kd x y =>
  intro n mh P hn ok h;refine Ai (O2 (n+3)) Gv.1 Gv.2 rfl ?_
  show wS (b55 (n+3)) [some (.tup [.str "letters",.int kd,ob x,ob y]),some (.int r),some (.tup (ps.map D.int)),some (.tup (ms.map txD)),none] mh _;unfold b55
  walk_at "x0"
  refine Ac (j:=0) rfl ?_
  walk_at "x0"
  refine Dv (Df (ws:=["not", "both", "either"]) (by decide +kernel) (by decide +kernel) _) ?_;refine ⟨_,rfl,?_⟩;refine Ds (by kernel_rfl) ?_
  walk_at "x0"
  refine Ac (j:=0) rfl ?_
  walk_at "x0"
  refine Aj (fun _=>by kernel_rfl) ?_;walk_at "r"
  exact h _ Ext.refl
 | count q t x y =>
  intro n mh P hn ok h;refine Ai (O2 (n+3)) Gv.1 Gv.2 rfl ?_
  show wS (b55 (n+3)) [some (.tup [.str "count",.int q,htD t,ob x,ob y]),some (.int r),some (.tup (ps.map D.int)),some (.tup (ms.map txD)),none] mh _;unfold b55
  walk_at "x0"
  refine Ac (j:=0) rfl ?_
  walk_at "x0"
  refine Dv (Df (ws:=["not", "both", "either"]) (by decide +kernel) (by decide +kernel) _) ?_;refine ⟨_,rfl,?_⟩;refine Ds (by kernel_rfl) ?_
  walk_at "x0"
  refine Ac (j:=0) rfl ?_
  walk_at "x0"
  refine Ce (fun _=>by kernel_rfl) ?_;walk_at "r"
  refine Ac (j:=1) rfl ?_;walk_at "r"
  have h:∀ h',Ext [] mh h'->P (.bl (((q:Int)==(r:Int))&&t.any (Du ps ms))) h':=h;refine ⟨fun e=>?_,fun e=>?_⟩
  ·walk_at "r"
   refine Ac (j:=2) rfl ?_;walk_at "r"
   refine oZ ps ms hm t (n+2) mh (by have:=ok.2;omega) (by have:=ok.2;omega) fun h' x'=>?_
   have:=h _ x';rw [e] at this;exact this
  ·have:=h _ Ext.refl;rw [e] at this;exact this
noncomputable def O9 (r:Nat):TT->Bool
 | .count q _ _ _=>(q:Int)==(r:Int)
 | _=>false
noncomputable def Em:TT->Bool
 | .count _ _ _ _=>true
 | _=>false
noncomputable def Pa:TT->HT
 | .count _ t _ _=>t
 | _=>.fallen
theorem pA (t:TT) (mh:MH) {P:D->MH->Prop}(h:P (.bl (Em t)) mh):wV (ixD (ttD t) (.int 0) mh) fun d h'=>wV (eqD d (.str "count") h') P:=by
 cases t
 ·exact Ac (j:=0) rfl (Aj (fun _=>by kernel_rfl) h)
 ·exact Ac (j:=0) rfl (Aj (fun _=>by kernel_rfl) h)
 ·exact Ac (j:=0) rfl (Aj (fun _=>by kernel_rfl) h)
 ·exact Ac (j:=0) rfl (Aj (fun _=>by kernel_rfl) h)
 ·exact Ac (j:=0) rfl (Ce (fun _=>by kernel_rfl) h)
theorem Tq {x y a b:Nat}(h1:x<=2 ^ (a+1) - 1) (h2:y<=2 ^ (b+1) - 1):x+y+1<=2 ^ (max a b+1+1) - 1:=by
 have e:2 ^ (max a b+1+1)=2 * 2 ^ (max a b+1):=by rw [Nat.pow_succ];omega
 have p1:2 ^ (a+1)<=2 ^ (max a b+1):=Nat.pow_le_pow_right (by decide) (by omega);have p2:2 ^ (b+1)<=2 ^ (max a b+1):=Nat.pow_le_pow_right (by decide) (by omega);have:=Nat.pow_pos (n:=a+1) (show 0 < 2 by decide);have:=Nat.pow_pos (n:=b+1) (show 0 < 2 by decide);omega
theorem pB:∀ t:HT,t.sz<=2 ^ (t.dep+1) - 1:=by
 intro t
 induction t with
 | no a ih =>
  show a.sz+1<=2 ^ (a.dep+1+1) - 1;have:2 ^ (a.dep+1+1)=2 * 2 ^ (a.dep+1):=by rw [Nat.pow_succ];omega
  have:=Nat.pow_pos (n:=a.dep+1) (show 0 < 2 by decide);omega
 | both a b iha ihb=>exact Tq iha ihb
 | either a b iha ihb=>exact Tq iha ihb
 | _=>show 1<=2 ^ (0+1) - 1;decide
theorem Mj {o:Option TX}{ms:List TX}(ho:∀ k,o=some k->PyData.strOk k.1=true) (hm:Tn ms) {mh:MH}{P:D->MH->Prop}(h:P (.bl (match o with | some k=>decide (k∈ms) | none=>false)) mh):wV (inD false (moD o) (.tup (ms.map txD)) mh) P:=by
 cases o with
 | none=>exact oY hm h
 | some k=>exact oX (ho k rfl) hm h
theorem Tr {α:Type}{f:α->Nat}{c:Nat}:∀ {l:List α},(∀ a∈l,f a<=c)->(l.map f).sum<=l.length * c
 | [],_=>by simp
 | a::r,h=>by
  have:=Tr (l:=r) fun x hx=>h x (.tail _ hx)
  have h2:=h a (.head _);simp only [List.map_cons,List.sum_cons,List.length_cons,Nat.add_mul];omega
theorem uU:∀ t:TT,t.sz<=2 ^ (t.dep+1) - 1:=by
 intro t
 induction t with
 | no a ih =>
  show a.sz+1<=2 ^ (a.dep+1+1) - 1;have:2 ^ (a.dep+1+1)=2 * 2 ^ (a.dep+1):=by rw [Nat.pow_succ];omega
  have:=Nat.pow_pos (n:=a.dep+1) (show 0 < 2 by decide);omega
 | both a b iha ihb=>exact Tq iha ihb
 | either a b iha ihb=>exact Tq iha ihb
 | _=>show 1<=2 ^ (0+1) - 1;decide
theorem pC:∀ t:TT,t.ok->∀ u∈t.kids,u.ok:=by
 intro t h u hu;cases t with
 | no a=>rw [List.mem_singleton.mp hu];exact h
 | both a b =>
  simp only [TT.kids,List.mem_cons,List.mem_nil_iff,or_false] at hu;rcases hu with rfl|rfl
  ·exact h.1
  ·exact h.2
 | either a b =>
  simp only [TT.kids,List.mem_cons,List.mem_nil_iff,or_false] at hu;rcases hu with rfl|rfl
  ·exact h.1
  ·exact h.2
 | _=>cases hu
theorem pD (t:TT) (r:Nat) (hc:Em t=true) (mh:MH) {P:D->MH->Prop}(h:P (.bl (O9 r t)) mh):wV (ixD (ttD t) (.int 1) mh) fun d h'=>wV (eqD d (.int r) h') P:=by
 cases t with
 | count q t x y=>exact Ac (j:=1) rfl (Bh rfl h)
 | _=>cases hc
theorem pF (t:TT) (hc:Em t=true) (mh:MH) {P:D->MH->Prop}(h:P (htD (Pa t)) mh):wV (ixD (ttD t) (.int 2) mh) P:=by
 cases t with
 | count q t x y=>exact Ac (j:=2) rfl h
 | _=>cases hc
theorem Zy {α:Type}{mi:DM Src}{cs:List (Option Nat)}{g:GM}{tc:DM Bool}{e:DM D}{loc:DL.Loc}{mh:MH}{Q:D->MH->Prop}(F:α->D) (pr:α->Bool) (f:α->D)
  (hm:wD mi loc mh fun src h0=>∃ xs:List α,xs.length<=1000000/\Ext [] mh h0/\(∀ h,Ext [] h0 h->src.ok h=true/\src.items h=xs.map F) /\
   (∀ x h,x∈xs->wG (g (F x) (G7 cs loc) h) fun l1 h1=>h1=h/\wD tc l1 h fun c h2=>c=pr x/\h2=h/\(pr x=true->wD e l1 h fun z h3=>z=f x/\h3=h)) /\
   ∀ h,Ext [] mh h->Q (.ref h.length) (h++[.lst ((xs.filter pr).map f)])):wD (Bo mi cs g tc e) loc mh Q:=by
 obtain ⟨src,h0,em,xs,hz,x0,keep,step,fin⟩:=hm;refine El xs F pr f hz ⟨src,h0,em,x0,keep⟩ (fun x h hx _=>?_) fin;obtain ⟨l1,h1,e1,rfl,c,h2,e2,rfl,rfl,q⟩:=step x h hx;refine ⟨l1,_,e1,rfl,_,_,e2,rfl,Ext.refl,fun hp=>Bb (q hp) ?_⟩;rintro z h3 ⟨rfl,rfl⟩;exact ⟨rfl,Ext.refl⟩
theorem uV (r:Nat) (ps:List Int) (ms:List TX) (fs:List TT):(((fs.filter Em).filter (O9 r)).map Pa).any (HT.any (Du ps ms))=fs.any (Bf r ps ms):=by
 induction fs with
 | nil=>rfl
 | cons t fs ih =>
  cases t with
  | count q t x y =>
   show ((List.filter (O9 r) (TT.count q t x y::fs.filter Em)).map Pa).any _=_;rw [List.any_cons,← ih];cases e:((q:Int)==(r:Int)) with
   | true =>
    rw [List.filter_cons_of_pos (show O9 r (.count q t x y)=true from e)];show (t.any (Du ps ms) || _)=((((q:Int)==(r:Int))&&t.any (Du ps ms)) || _);rw [e];rfl
   | false =>
    rw [List.filter_cons_of_neg (show ¬ O9 r (.count q t x y)=true from by show ¬ ((q:Int)==(r:Int))=true;rw [e];simp)];show _=((((q:Int)==(r:Int))&&t.any (Du ps ms)) || _);rw [e];rfl
  | _ =>
   rw [List.any_cons,← ih];rfl
theorem Yj (k:Nat) (w:D) (ts:List TT) (r:Nat) (h2:ts.length<=2) (hd:∀ t∈ts,t.dep<=1/\t.ok) (mh:MH) {P:D->MH->Prop}(h:∀ (gs:List HT) (j:Nat) h',(∀ ps ms,gs.any (Du ps ms)=ts.any (TT.any (Bf r ps ms)))->gs.length<=1000->Ext [] mh h'->h'[j]?=some (.lst (gs.map htD))->P (.ref j) h') :
  wV (Af (Gk (k+2)) fuel f36 [.tup (w::ts.map ttD),.int r] mh) P:=by
 refine Ai (Abi (k+1)) mQ.1 mQ.2 rfl ?_;show wS (b36 (k+1)) [some (.tup (w::ts.map ttD)),some (.int r),none] mh _;unfold b36;walk_at "r"
 have s1:(ts.map Aen.sz).sum<=6:=by
  have:=Tr (f:=TT.sz) (c:=3) (l:=ts) fun t ht=>by
   have e1:=uU t;have e2:=(hd t ht).1;have e3:2 ^ (t.dep+1)<=2 ^ 2:=Nat.pow_le_pow_right (by decide) (by omega);omega
  show (ts.map TT.sz).sum<=6;omega
 refine Zy ttD Em ttD ?_;walk_at "r"
 refine Dg ?_;walk_at "r"
 refine O7 Aen k (.tup (ts.map ttD)) ts mh rfl (by omega) fun fs j h1 lf af mf x1 g1=>?_
 have okf:∀ t∈fs,t.ok:=mf TT.ok (fun t ht=>(hd t ht).2) pC;have lf:fs.length<=6:=Nat.le_trans lf s1;refine ⟨_,src_list g1,fs,by omega,x1,Ku g1,fun t h' ht=>?_,fun h' x'=>?_⟩
 ·walk_at "r"
  refine ⟨rfl,?_⟩;walk_at "r"
  refine Ko (pA t h' (P:=fun d hh=>d=.bl (Em t)/\hh=h') ⟨rfl,rfl⟩) ?_;intro d hh q;walk_at "r"
  refine Ko q ?_;rintro d2 h2 ⟨rfl,rfl⟩;refine ⟨_,rfl,rfl,rfl,fun _=>?_⟩;walk_at "r"
  exact ⟨rfl,rfl⟩
 have g2:(h'++[.lst ((fs.filter Em).map ttD)])[h'.length]?=some (.lst ((fs.filter Em).map ttD)):=Ad;have x2:Ext [] mh (h'++[.lst ((fs.filter Em).map ttD)]):=x'.trans Ext.more;generalize h'++[.lst ((fs.filter Em).map ttD)]=h2 at g2 x2;walk_at "r"
 refine Zy ttD (O9 r) (fun t=>htD (Pa t)) ?_;walk_at "r"
 have l3:=List.length_filter_le Em fs;refine ⟨_,src_list g2,fs.filter Em,by omega,Ext.refl,Ku g2,fun t h3 ht=>?_,fun h3 x3=>?_⟩
 ·have hc:=(List.mem_filter.mp ht).2;walk_at "r"
  refine ⟨rfl,?_⟩;walk_at "r"
  refine Ko (pD t r hc h3 (P:=fun d hh=>d=.bl (O9 r t)/\hh=h3) ⟨rfl,rfl⟩) ?_;intro d hh q;walk_at "r"
  refine Ko q ?_;rintro d2 h4 ⟨rfl,rfl⟩;refine ⟨_,rfl,rfl,rfl,fun _=>?_⟩;walk_at "r"
  exact pF t hc _ ⟨rfl,rfl⟩
 walk_at "r"
 have l4:=List.length_filter_le (O9 r) (fs.filter Em);refine O7 Afr k (.ref h3.length) (((fs.filter Em).filter (O9 r)).map Pa) _ (by rw [Gj,List.map_map];rfl) ?_ fun gs j2 h5 lg ag _ x5 g5=>?_
 ·refine Nat.le_trans (Tr (c:=7) fun t ht=>?_) (by rw [List.length_map];omega);obtain ⟨u,hu,rfl⟩:=List.mem_map.mp ht;have hu1:=(List.mem_filter.mp hu).1;have hu2:=(List.mem_filter.mp hu1).2;have hu3:=okf u (List.mem_filter.mp hu1).1;cases u with
  | count q t x y =>
   have hu3:t.dep<=2:=hu3.2;have e1:=pB t;have e3:2 ^ (t.dep+1)<=2 ^ 3:=Nat.pow_le_pow_right (by decide) (by omega);show t.sz<=7;omega
  | _=>cases hu2
 refine h gs j2 h5 (fun ps ms=>?_) ?_ ((x2.trans (x3.trans Ext.more)).trans x5) g5
 ·rw [ag];have e:=af (Bf r ps ms);show (((fs.filter Em).filter (O9 r)).map Pa).any (HT.any (Du ps ms))=ts.any (TT.any (Bf r ps ms));exact (uV r ps ms fs).trans e
 ·refine Nat.le_trans lg (Nat.le_trans (Tr (c:=7) fun t ht=>?_) (show (((fs.filter Em).filter (O9 r)).map Pa).length * 7<=1000 by rw [List.length_map];omega));obtain ⟨u,hu,rfl⟩:=List.mem_map.mp ht;have hu1:=(List.mem_filter.mp hu).1;have hu2:=(List.mem_filter.mp hu1).2;have hu3:=okf u (List.mem_filter.mp hu1).1;cases u with
  | count q t x y =>
   have hu3:t.dep<=2:=hu3.2;have e1:=pB t;have e3:2 ^ (t.dep+1)<=2 ^ 3:=Nat.pow_le_pow_right (by decide) (by omega);show t.sz<=7;omega
  | _=>cases hu2
theorem cP (k:Nat) (w:D) (ts:List TT) (r:Nat) (h2:ts.length<=2) (hd:∀ t∈ts,t.dep<=1/\t.ok) (ps:List Int) (ms:List TX) (hm:Tn ms) (mh:MH) {P:D->MH->Prop}(h:∀ h',Ext [] mh h'->P (.bl (!ts.any (TT.any (Bf r ps ms)))) h') :
  wV (Af (Gk (k+3)) fuel f35 [.tup (w::ts.map ttD),.int r,.tup (ps.map D.int),.tup (ms.map txD)] mh) P:=by
 refine Ai (Abh (k+2)) mO.1 mO.2 rfl ?_;show wS (b35 (k+2)) [some (.tup (w::ts.map ttD)),some (.int r),some (.tup (ps.map D.int)),some (.tup (ms.map txD)),none] mh _;unfold b35;refine Ie (Cu ?_);walk_at "r"
 refine Yj k w ts r h2 hd mh fun gs j h0 ag lg x0 g0=>?_
 have ag:=ag ps ms;have tell:∀ {h'},gs.any (Du ps ms)=true->Ext [] mh h'->P (.bl false) h':=fun {h'} e x=>by
  have:=h h' x;rw [← ag,e] at this;exact this
 refine ⟨_,src_list g0,gs.map htD,fun i l h'=>∃ y4,l=[some (.tup (w::ts.map ttD)),some (.int r),some (.tup (ps.map D.int)),some (.tup (ms.map txD)),y4]/\Ext [] h0 h'/\(gs.take i).any (Du ps ms)=false,⟨_,rfl,Ext.refl,rfl⟩,fun _ _ h' ⟨_,_,x,_⟩=>Ku g0 h' x,?_,?_⟩
 ·rintro i d l h1 ed ⟨y4,rfl,x1,q⟩;rw [List.getElem?_map] at ed;cases et:gs[i]? with
  | none=>rw [et] at ed;cases ed
  | some t =>
   rw [et] at ed;cases ed;walk_at "r"
   cases t with
   | «at» n =>
    refine Ac (j:=0) rfl ?_;walk_at "r"
    refine Ce (fun _=>by kernel_rfl) ?_;walk_at "r"
    refine Ac (j:=1) rfl ?_;walk_at "r"
    refine Zw ?_;walk_at "r"
    refine Ax (fun e=>?_) fun e=>?_
    ·walk_at "r"
     exact tell (Ik (p:=Du ps ms) et e) (x0.trans x1)
    ·walk_at "r"
     refine Bh (Ho (k+1) (.at n) h1) ?_;walk_at "r"
     refine oY hm ?_;walk_at "r"
     exact ⟨_,rfl,x1,Cp et q e⟩
   | no a =>
    refine Ac (j:=0) rfl ?_;walk_at "r"
    refine Aj (fun _=>by kernel_rfl) ?_;walk_at "r"
    refine Bh (Ho (k+1) _ h1) ?_;walk_at "r"
    refine Mj (fun k e=>Gm e) hm ?_;walk_at "r"
    exact ⟨_,rfl,x1,Cp et q rfl⟩
   | both a b =>
    refine Ac (j:=0) rfl ?_;walk_at "r"
    refine Aj (fun _=>by kernel_rfl) ?_;walk_at "r"
    refine Bh (Ho (k+1) _ h1) ?_;walk_at "r"
    refine Mj (fun k e=>Gm e) hm ?_;walk_at "r"
    exact ⟨_,rfl,x1,Cp et q rfl⟩
   | either a b =>
    refine Ac (j:=0) rfl ?_;walk_at "r"
    refine Aj (fun _=>by kernel_rfl) ?_;walk_at "r"
    refine Bh (Ho (k+1) _ h1) ?_;walk_at "r"
    refine Mj (fun k e=>Gm e) hm ?_;walk_at "r"
    exact ⟨_,rfl,x1,Cp et q rfl⟩
   | num b x y =>
    refine Ac (j:=0) rfl ?_;walk_at "r"
    refine Aj (fun _=>by kernel_rfl) ?_;walk_at "r"
    refine Bh (Ho (k+1) _ h1) ?_;walk_at "r"
    refine Mj (fun k e=>Gm e) hm ?_;walk_at "r"
    refine Ax (fun e=>?_) fun e=>?_
    ·walk_at "r"
     exact tell (Ik (p:=Du ps ms) et e) (x0.trans x1)
    ·walk_at "r"
     exact ⟨_,rfl,x1,Cp et q e⟩
   | has b =>
    refine Ac (j:=0) rfl ?_;walk_at "r"
    refine Aj (fun _=>by kernel_rfl) ?_;walk_at "r"
    refine Bh (Ho (k+1) _ h1) ?_;walk_at "r"
    refine Mj (fun k e=>Gm e) hm ?_;walk_at "r"
    refine Ax (fun e=>?_) fun e=>?_
    ·walk_at "r"
     exact tell (Ik (p:=Du ps ms) et e) (x0.trans x1)
    ·walk_at "r"
     exact ⟨_,rfl,x1,Cp et q e⟩
   | fallen =>
    refine Ac (j:=0) rfl ?_;walk_at "r"
    refine Aj (fun _=>by kernel_rfl) ?_;walk_at "r"
    refine Bh (Ho (k+1) _ h1) ?_;walk_at "r"
    refine Mj (fun k e=>Gm e) hm ?_;walk_at "r"
    exact ⟨_,rfl,x1,Cp et q rfl⟩
   | many b n =>
    refine Ac (j:=0) rfl ?_;walk_at "r"
    refine Aj (fun _=>by kernel_rfl) ?_;walk_at "r"
    refine Bh (Ho (k+1) _ h1) ?_;walk_at "r"
    refine Mj (fun k e=>Gm e) hm ?_;walk_at "r"
    refine Ax (fun e=>?_) fun e=>?_
    ·walk_at "r"
     exact tell (Ik (p:=Du ps ms) et e) (x0.trans x1)
    ·walk_at "r"
     exact ⟨_,rfl,x1,Cp et q e⟩
   | bell =>
    refine Ac (j:=0) rfl ?_;walk_at "r"
    refine Aj (fun _=>by kernel_rfl) ?_;walk_at "r"
    refine Bh (Ho (k+1) _ h1) ?_;walk_at "r"
    refine Mj (fun k e=>Gm e) hm ?_;walk_at "r"
    refine Ax (fun e=>?_) fun e=>?_
    ·walk_at "r"
     exact tell (Ik (p:=Du ps ms) et e) (x0.trans x1)
    ·walk_at "r"
     exact ⟨_,rfl,x1,Cp et q e⟩
 ·rintro l h1 ⟨y4,rfl,x1,q⟩;walk_at "r"
  rw [List.length_map,List.take_length,ag] at q;have:=h h1 (x0.trans x1);rw [q] at this;exact this
noncomputable def nine:List TX:=[("number",[0]),("number",[1]),("number",[2]),("name",[0]),("name",[1]),("name",[2]),("set",[0]),("set",[1]),("bell",[])]
theorem uW:Tn nine:=by
 intro m hm;simp only [nine,List.mem_cons,List.mem_nil_iff,or_false] at hm;rcases hm with rfl | rfl | rfl | rfl | rfl | rfl | rfl | rfl | rfl <;> decide +kernel
theorem Q8 {b:Int}{ns:List Int}(h0:0<=b) (h3:b<=3):(DL.cutD ns none (some b)).length<=3:=by
 obtain ⟨n,rfl⟩:∃ n:Nat,b=(n:Int):=⟨b.toNat,by omega⟩;unfold DL.cutD;rw [HT.sIx_none,HT.sIx_nat,List.length_take];omega
theorem cQ (k jd:Nat) (vs:List Int) (mh:MH) (g:IsI mh jd vs) (l4:4<=vs.length) (lz:vs.length<=1000) {P:D->MH->Prop}(h:∀ (ms:List TX) h',(∀ m∈ms,m∈nine)->ms.length<=3->Ext [] mh h'->P (.tup (ms.map txD)) h') :
  wV (Af (Gk (k+1)) fuel f56 [.ref jd] mh) P:=by
 refine Ai (Abw k) nM.1 nM.2 rfl ?_;show wS (b56 k) [some (.ref jd),none] mh _;unfold b56
 walk_at "x0"
 refine Ja ((Ext.more (W:=[])).old _ _ (by simp) Ad) Ad (by simp) ?_
 have x1:Ext [] mh (mh++[MO.lst [D.tup [D.str "number",D.int 0],D.tup [D.str "number",D.int 1],D.tup [D.str "number",D.int 2],D.tup [D.str "name",D.int 0],D.tup [D.str "name",D.int 1],D.tup [D.str "name",D.int 2],D.tup [D.str "set",D.int 0],D.tup [D.str "set",D.int 1]]]++[MO.lst [D.tup [D.str "bell"]]]):=Ext.more.trans Ext.more
 generalize mh++[MO.lst [D.tup [D.str "number",D.int 0],D.tup [D.str "number",D.int 1],D.tup [D.str "number",D.int 2],D.tup [D.str "name",D.int 0],D.tup [D.str "name",D.int 1],D.tup [D.str "name",D.int 2],D.tup [D.str "set",D.int 0],D.tup [D.str "set",D.int 1]]]++[MO.lst [D.tup [D.str "bell"]]]=m1 at x1;have g2:(m1++[MO.lst (nine.map txD)])[m1.length]?=some (.lst (nine.map txD)):=Ad;refine Ig (Bp ?_)
 have e8:(m1++[MO.lst ([D.tup [D.str "number",D.int 0],D.tup [D.str "number",D.int 1],D.tup [D.str "number",D.int 2],D.tup [D.str "name",D.int 0],D.tup [D.str "name",D.int 1],D.tup [D.str "name",D.int 2],D.tup [D.str "set",D.int 0],D.tup [D.str "set",D.int 1]]++[D.tup [D.str "bell"]])])=m1++[MO.lst (nine.map txD)]:=rfl;rw [e8];have x2:Ext [] mh (m1++[MO.lst (nine.map txD)]):=x1.trans Ext.more;generalize m1++[MO.lst (nine.map txD)]=m2 at g2 x2;have ga:=g.ext x2;refine Ie (lN (lH (Zj (Ow ?_))));have f4:0<=(vs[3]).fmod 4/\(vs[3]).fmod 4<=3:=by
  have a1:=Dw vs[3] (j:=4) (by decide);have a2:=Ii vs[3] (j:=4) (by decide);omega
 have lc:=Q8 (ns:=vs) f4.1 f4.2;refine El (DL.cutD vs none (some ((vs[3]).fmod 4))) D.int (fun _=>true) (fun v=>txD (nine.getD (v.fmod 9).toNat default)) (by omega) ?_ (fun v h1 hv x1=>?_) fun h1 x1=>?_
 ·walk_at "r"
  refine Ck (j:=3) ga (by omega) ?_
  walk_at "x0"
  refine Ga ga ?_;refine ⟨_,src_list Ad,Ext.more,Ku Ad⟩
 ·have r1:=Dw v (j:=9) (by decide);have r2:=Ii v (j:=9) (by decide);have hn:(v.fmod 9).toNat < nine.length:=by show _ < 9;omega
  walk_at "r"
  refine ⟨rfl,?_⟩;walk_at "r"
  refine ⟨rfl,Ext.refl,fun _=>?_⟩
  walk_at "x0"
  have en:v.fmod 9=(((v.fmod 9).toNat:Nat):Int):=by omega
  rw [en];refine Bl (x1.old _ _ (by simp) g2) (j:=(v.fmod 9).toNat) (d:=txD (nine.getD (v.fmod 9).toNat default)) ?_ ⟨rfl,Ext.refl⟩;rw [List.getElem?_map,List.getD_eq_getElem?_getD,List.getElem?_eq_getElem hn];rfl
 ·rw [List.filter_eq_self.mpr (fun _ _=>rfl),show (DL.cutD vs none (some ((vs[3]).fmod 4))).map (fun v=>txD (nine.getD (v.fmod 9).toNat default))=((DL.cutD vs none (some ((vs[3]).fmod 4))).map (fun v=>nine.getD (v.fmod 9).toNat default)).map txD by rw [List.map_map];rfl];refine Bh (Sw Ad (by rw [List.length_map];exact lc)) ?_;walk_at "r"
  refine Be (Gj _ _) ?_;refine h _ _ (fun m hm=>?_) ?_ (x2.trans ((x1.trans Ext.more).trans Ext.more))
  ·have hm:=Gy.mp ((Dk _).mem_iff.mp hm);obtain ⟨v,_,rfl⟩:=List.mem_map.mp hm;have r1:=Dw v (j:=9) (by decide);have r2:=Ii v (j:=9) (by decide);have hn:(v.fmod 9).toNat < nine.length:=by show _ < 9;omega
   rw [List.getD_eq_getElem?_getD,List.getElem?_eq_getElem hn];exact List.getElem_mem hn
  ·rw [(Dk _).length_eq];exact Nat.le_trans Ke (by rw [List.length_map];exact lc)
structure Rel (p q:Pt) (ms:List TX):Prop where
 ok:Kr q
 num:∀ b:Nat,(("number",[(b:Int)]):TX) ∉ ms->q.ns.getD b 0=p.ns.getD b 0
 nam:∀ b:Nat,(("name",[(b:Int)]):TX) ∉ ms->q.ms.getD b 0=p.ms.getD b 0
 grp:∀ b:Nat,b < 2->(("set",[(b:Int)]):TX) ∉ ms->Wg q b=Wg p b
 bel:(("bell",[]):TX) ∉ ms->q.bell=p.bell
theorem Wo {l:List Int}{b i:Nat}{x:Int}(h:i≠b):(l.set b x).getD i 0=l.getD i 0:=by
 rw [List.getD_eq_getElem?_getD,List.getD_eq_getElem?_getD,List.getElem?_set_ne h.symm]
theorem Rel.more {p q:Pt}{ms ms':List TX}(r:Rel p q ms) (h:∀ m∈ms,m∈ms'):Rel p q ms':=⟨r.ok,fun b n=>r.num b fun z=>n (h _ z),fun b n=>r.nam b fun z=>n (h _ z),fun b hb n=>r.grp b hb fun z=>n (h _ z),fun n=>r.bel fun z=>n (h _ z)⟩
theorem Rel.setN {p q:Pt}{ms:List TX}(r:Rel p q ms) (b:Nat) (x:Int) (hm:(("number",[(b:Int)]):TX)∈ms):Rel p { q with ns:=q.ns.set b x } ms:=⟨⟨by show (q.ns.set b x).length=3;rw [List.length_set];exact r.ok.1,r.ok.2⟩,fun i n=>by
 show (q.ns.set b x).getD i 0=_;rw [Wo (b:=b) (i:=i) (fun z=>n (by rw [z];exact hm))]
 exact r.num i n,r.nam,r.grp,r.bel⟩
theorem Rel.setM {p q:Pt}{ms:List TX}(r:Rel p q ms) (b:Nat) (x:Int) (hx:-1<=x) (hm:(("name",[(b:Int)]):TX)∈ms):Rel p { q with ms:=q.ms.set b x } ms:=⟨⟨r.ok.1,by show (q.ms.set b x).length=3;rw [List.length_set];exact r.ok.2.1,fun m hm=>by
 rcases List.mem_or_eq_of_mem_set hm with hm|rfl
 ·exact r.ok.2.2.1 m hm
 ·exact hx,r.ok.2.2.2⟩,r.num,fun i n=>by
 show (q.ms.set b x).getD i 0=_;rw [Wo (b:=b) (i:=i) (fun z=>n (by rw [z];exact hm))]
 exact r.nam i n,r.grp,r.bel⟩
theorem Rel.set0 {p q:Pt}{ms:List TX}(r:Rel p q ms) (x:Nat) (hx:x < 64) (hm:(("set",[((0:Nat):Int)]):TX)∈ms):Rel p { q with s0:=x } ms:=⟨⟨r.ok.1,r.ok.2.1,r.ok.2.2.1,hx,r.ok.2.2.2.2⟩,r.num,r.nam,fun i hi n=>by
 have:i=0\/i=1:=by omega
 rcases this with rfl|rfl
 ·exact (n hm).elim
 ·exact r.grp 1 hi n,r.bel⟩
theorem Rel.set1 {p q:Pt}{ms:List TX}(r:Rel p q ms) (x:Nat) (hx:x < 64) (hm:(("set",[((1:Nat):Int)]):TX)∈ms):Rel p { q with s1:=x } ms:=⟨⟨r.ok.1,r.ok.2.1,r.ok.2.2.1,r.ok.2.2.2.1,hx⟩,r.num,r.nam,fun i hi n=>by
 have:i=0\/i=1:=by omega
 rcases this with rfl|rfl
 ·exact r.grp 0 hi n
 ·exact (n hm).elim,r.bel⟩
theorem Rel.setB {p q:Pt}{ms:List TX}(r:Rel p q ms) (x:Bool) (hm:(("bell",[]):TX)∈ms):Rel p { q with bell:=x } ms:=⟨r.ok,r.num,r.nam,r.grp,fun n=>(n hm).elim⟩
structure Lists (h:MH) (a:Nat) (q:Pt):Prop where
 l0:h[a]?=some (.lst (q.ns.map D.int))
 l1:h[a+1]?=some (.lst (q.ms.map D.int))
 l2:h[a+2]?=some (.lst [Bx q.s0,Bx q.s1])
theorem map_set {l:List Int}{b:Nat}{x:Int}:(l.map D.int).set b (.int x)=(l.set b x).map D.int:=(List.map_set).symm
theorem Lists.setN {h:MH}{a:Nat}{q:Pt}(L:Lists h a q) (b:Nat) (x:Int):Lists (h.set a (.lst ((q.ns.map D.int).set b (.int x)))) a { q with ns:=q.ns.set b x }:=⟨by rw [map_set];exact Hl L.l0,Dl L.l1 (by omega),Dl L.l2 (by omega)⟩
theorem Lists.setM {h:MH}{a:Nat}{q:Pt}(L:Lists h a q) (b:Nat) (x:Int):Lists (h.set (a+1) (.lst ((q.ms.map D.int).set b (.int x)))) a { q with ms:=q.ms.set b x }:=⟨Dl L.l0 (by omega),by rw [map_set];exact Hl L.l1,Dl L.l2 (by omega)⟩
theorem Lists.set0 {h:MH}{a:Nat}{q:Pt}(L:Lists h a q) (x:Nat):Lists (h.set (a+2) (.lst [Bx x,Bx q.s1])) a { q with s0:=x }:=⟨Dl L.l0 (by omega),Dl L.l1 (by omega),Hl L.l2⟩
theorem Lists.set1 {h:MH}{a:Nat}{q:Pt}(L:Lists h a q) (x:Nat):Lists (h.set (a+2) (.lst [Bx q.s0,Bx x])) a { q with s1:=x }:=⟨Dl L.l0 (by omega),Dl L.l1 (by omega),Hl L.l2⟩
theorem Acb {m:TX}(h:m∈nine):(∃ b:Nat,b < 3/\m=(("number",[(b:Int)]):TX))\/(∃ b:Nat,b < 3/\m=(("name",[(b:Int)]):TX))\/(∃ b:Nat,b < 2/\m=(("set",[(b:Int)]):TX))\/m=(("bell",[]):TX):=by
 simp only [nine,List.mem_cons,List.mem_nil_iff,or_false] at h;rcases h with rfl|rfl|rfl|rfl|rfl|rfl|rfl|rfl|rfl
 ·exact .inl ⟨0,by decide,rfl⟩
 ·exact .inl ⟨1,by decide,rfl⟩
 ·exact .inl ⟨2,by decide,rfl⟩
 ·exact .inr (.inl ⟨0,by decide,rfl⟩)
 ·exact .inr (.inl ⟨1,by decide,rfl⟩)
 ·exact .inr (.inl ⟨2,by decide,rfl⟩)
 ·exact .inr (.inr (.inl ⟨0,by decide,rfl⟩))
 ·exact .inr (.inr (.inl ⟨1,by decide,rfl⟩))
 ·exact .inr (.inr (.inr rfl))
theorem take_succ {α:Type}{l:List α}{i:Nat}{a:α}(e:l[i]?=some a):l.take (i+1)=l.take i++[a]:=by rw [List.take_add_one,e];rfl
theorem cR (k:Nat) (p:Pt) (pk:Kr p) (pl:Int) (ms:List TX) (hm:∀ m∈ms,m∈nine) (v:Int) (mh:MH) {P:D->MH->Prop}(h:∀ (q:Pt) h',q.pl=pl->Rel p q ms->Ext [] mh h'->P (ptD q) h') :
  wV (Af (Gk (k+1)) fuel f57 [ptD p,.int pl,.tup (ms.map txD),.int v] mh) P:=by
 refine Ai (Abx k) nO.1 nO.2 rfl ?_;show wS (b57 k) [some (ptD p),some (.int pl),some (.tup (ms.map txD)),some (.int v),none,none,none,none,none] mh _;unfold b57;walk_at "r"
 refine Ac (j:=1) rfl ?_;walk_at "r"
 refine Fd rfl ?_;walk_at "r"
 refine Ac (j:=2) rfl ?_;walk_at "r"
 refine Fd rfl ?_;walk_at "r"
 refine Ac (j:=3) rfl ?_;walk_at "r"
 refine Fd rfl ?_;walk_at "r"
 refine Ac (j:=4) rfl ?_;walk_at "r"
 have x1:Ext [] mh (mh++[.lst (p.ns.map D.int)]++[.lst (p.ms.map D.int)]++[.lst [Bx p.s0,Bx p.s1]]):=(Ext.more.trans Ext.more).trans Ext.more;have L0:Lists (mh++[.lst (p.ns.map D.int)]++[.lst (p.ms.map D.int)]++[.lst [Bx p.s0,Bx p.s1]]) mh.length p:=⟨by simp,by simp,by simp⟩;have e1:(mh++[MO.lst (p.ns.map D.int)]).length=mh.length+1:=by simp
 have e2:(mh++[MO.lst (p.ns.map D.int)]++[MO.lst (p.ms.map D.int)]).length=mh.length+2:=by simp
 rw [e1,e2];generalize mh++[.lst (p.ns.map D.int)]++[.lst (p.ms.map D.int)]++[.lst [Bx p.s0,Bx p.s1]]=m1 at x1 L0;refine Cu ?_;walk_at "r"
 refine ⟨_,rfl,ms.map txD,fun i l h'=>∃ (q:Pt) (y8:Option D),l=[some (ptD p),some (.int pl),some (.tup (ms.map txD)),some (.int v),some (.ref mh.length),some (.ref (mh.length+1)),some (.ref (mh.length+2)),some (.bl q.bell),y8]/\Ext [] mh h'/\Lists h' mh.length q/\Rel p q (ms.take i),⟨p,none,rfl,x1,L0,⟨pk,fun _ _=>rfl,fun _ _=>rfl,fun _ _ _=>rfl,fun _=>rfl⟩⟩,fun _ _ _ _=>⟨rfl,rfl⟩,?_,?_⟩
 ·rintro i d l h1 ed ⟨q,y8,rfl,x1,L,r⟩;refine Tc (fun _ _ a=>a) fun Q nxt=>?_
  rw [List.getElem?_map] at ed;cases em:ms[i]? with
  | none=>rw [em] at ed;cases ed
  | some m =>
   rw [em] at ed;cases ed;have hmm:m∈ms.take (i+1):=by rw [take_succ em];exact List.mem_append.mpr (.inr (.head _))
   have r:=r.more (ms':=ms.take (i+1)) (fun m hm=>by rw [take_succ em];exact List.mem_append.mpr (.inl hm));walk_at "r"
   rcases Acb (hm m (List.mem_of_getElem? em)) with ⟨b,hb,rfl⟩|⟨b,hb,rfl⟩|⟨b,hb,rfl⟩|rfl
   ·refine Ac (j:=0) rfl ?_;walk_at "r"
    refine Ce (fun _=>by kernel_rfl) ?_
    walk_at "x0"
    refine Ac (j:=1) (d:=.int (b:Int)) rfl ?_;refine ⟨_,G3 L.l0 (by rw [List.length_map,r.ok.1];exact hb),?_⟩;walk_at "r"
    refine Ac (j:=0) rfl ?_;walk_at "r"
    refine Aj (fun _=>by kernel_rfl) ?_;walk_at "r"
    refine Ac (j:=0) rfl ?_;walk_at "r"
    refine Aj (fun _=>by kernel_rfl) ?_;walk_at "r"
    refine Ac (j:=0) rfl ?_;walk_at "r"
    refine Aj (fun _=>by kernel_rfl) ?_;walk_at "r"
    exact nxt _ _ ⟨{ q with ns:=q.ns.set b _ },_,rfl,x1.setNew (by omega),L.setN _ _,r.setN _ _ hmm⟩
   ·refine Ac (j:=0) rfl ?_;walk_at "r"
    refine Aj (fun _=>by kernel_rfl) ?_;walk_at "r"
    refine Ac (j:=0) rfl ?_;walk_at "r"
    refine Ce (fun _=>by kernel_rfl) ?_
    walk_at "x0"
    refine Ac (j:=1) (d:=.int (b:Int)) rfl ?_;refine ⟨_,G3 L.l1 (by rw [List.length_map,r.ok.2.1];exact hb),?_⟩;walk_at "r"
    refine Ac (j:=0) rfl ?_;walk_at "r"
    refine Aj (fun _=>by kernel_rfl) ?_;walk_at "r"
    refine Ac (j:=0) rfl ?_;walk_at "r"
    refine Aj (fun _=>by kernel_rfl) ?_;walk_at "r"
    exact nxt _ _ ⟨{ q with ms:=q.ms.set b _ },_,rfl,x1.setNew (by omega),L.setM _ _,r.setM _ _ (by have:=Dw v (j:=2) (by decide);omega) hmm⟩
   ·refine Ac (j:=0) rfl ?_;walk_at "r"
    refine Aj (fun _=>by kernel_rfl) ?_;walk_at "r"
    refine Ac (j:=0) rfl ?_;walk_at "r"
    refine Aj (fun _=>by kernel_rfl) ?_;walk_at "r"
    refine Ac (j:=0) rfl ?_;walk_at "r"
    refine Ce (fun _=>by kernel_rfl) ?_
    walk_at "x0"
    refine Ac (j:=1) (d:=.int (b:Int)) rfl ?_;refine ⟨_,G3 L.l2 hb,?_⟩;walk_at "r"
    refine Ac (j:=0) rfl ?_;walk_at "r"
    refine Aj (fun _=>by kernel_rfl) ?_;walk_at "r"
    obtain ⟨s,hs,es⟩:=Bu v 2 (by decide);have es:v.fmod 2=(s:Int):=es;rw [es];have:b=0\/b=1:=by omega
    rcases this with rfl|rfl
    ·exact nxt _ _ ⟨{ q with s0:=s },_,rfl,x1.setNew (by omega),L.set0 _,r.set0 _ (by omega) hmm⟩
    ·exact nxt _ _ ⟨{ q with s1:=s },_,rfl,x1.setNew (by omega),L.set1 _,r.set1 _ (by omega) hmm⟩
   ·refine Ac (j:=0) rfl ?_;walk_at "r"
    refine Aj (fun _=>by kernel_rfl) ?_;walk_at "r"
    refine Ac (j:=0) rfl ?_;walk_at "r"
    refine Aj (fun _=>by kernel_rfl) ?_;walk_at "r"
    refine Ac (j:=0) rfl ?_;walk_at "r"
    refine Aj (fun _=>by kernel_rfl) ?_;walk_at "r"
    refine Ac (j:=0) rfl ?_;walk_at "r"
    refine Ce (fun _=>by kernel_rfl) ?_
    walk_at "x0"
    exact nxt _ _ ⟨{ q with bell:=!q.bell },_,rfl,x1,⟨L.l0,L.l1,L.l2⟩,r.setB _ hmm⟩
 ·rintro l h1 ⟨q,y8,rfl,x1,L,r⟩;rw [List.length_map,List.take_length] at r;walk_at "r"
  refine Be (Cy L.l0) ?_;walk_at "r"
  refine Be (Cy L.l1) ?_;walk_at "r"
  refine Be (Cy L.l2) ?_
  walk_at "x0"
  exact h { q with pl:=pl } h1 rfl ⟨r.ok,r.num,r.nam,r.grp,r.bel⟩ x1
noncomputable def Alike (pls:List Int) (ms:List TX) (p q:Pt):Prop:=p.pl∈pls/\q.pl∈pls/\Rel p q ms
theorem cT {pls:List Int}{ms:List TX}{p q:Pt}(h0:∀ x∈pls,0<=x) (r:Alike pls ms p q):∀ t:HT,t.ok->t.any (Du pls ms)=false->hev q t=hev p t:=by
 intro t
 induction t with
 | no a ih =>
  intro ok h;have h:(false || a.any (Du pls ms))=false:=h;show (!hev q a)=!hev p a;rw [ih ok h]
 | both a b iha ihb =>
  intro ok h;have h:(false || (a.any (Du pls ms) || b.any (Du pls ms)))=false:=h;rw [Bool.false_or,Bool.or_eq_false_iff] at h;show (hev q a&&hev q b)=(hev p a&&hev p b);rw [iha ok.1 h.1,ihb ok.2 h.2]
 | either a b iha ihb =>
  intro ok h;have h:(false || (a.any (Du pls ms) || b.any (Du pls ms)))=false:=h;rw [Bool.false_or,Bool.or_eq_false_iff] at h;show (hev q a || hev q b)=(hev p a || hev p b);rw [iha ok.1 h.1,ihb ok.2 h.2]
 | «at» n =>
  intro _ h;have h:decide (n∈pls)=false:=h;have h:=of_decide_eq_false h;show (q.pl==n)=(p.pl==n);have e1:¬ q.pl=n:=fun z=>h (z ▸ r.2.1)
  have e2:¬ p.pl=n:=fun z=>h (z ▸ r.1)
  rw [beq_eq_false_iff_ne.mpr e1,beq_eq_false_iff_ne.mpr e2]
 | num b x y =>
  intro _ h;have h:=of_decide_eq_false (show decide (_∈ms)=false from h);show inR (q.ns.getD b 0) x y=inR (p.ns.getD b 0) x y;rw [r.2.2.num b h]
 | has b =>
  intro _ h;have h:=of_decide_eq_false (show decide (_∈ms)=false from h);show decide (0<=q.ms.getD b 0)=decide (0<=p.ms.getD b 0);rw [r.2.2.nam b h]
 | fallen =>
  intro _ _;have a1:=h0 _ r.1;have a2:=h0 _ r.2.1;show (q.pl==-1)=(p.pl==-1);have e1:¬ q.pl=-1:=by omega
  have e2:¬ p.pl=-1:=by omega
  rw [beq_eq_false_iff_ne.mpr e1,beq_eq_false_iff_ne.mpr e2]
 | many b n =>
  intro ok h;have h:=of_decide_eq_false (show decide (_∈ms)=false from h);show decide ((n:Int)<=(uL (Wg q b):Int))=decide ((n:Int)<=(uL (Wg p b):Int));rw [r.2.2.grp b ok h]
 | bell =>
  intro _ h;have h:=of_decide_eq_false (show decide (_∈ms)=false from h);exact r.2.2.bel h
noncomputable def Both (plays:List Nat) (r:Nat) (pls:List Int) (ms:List TX) (ps qs:List Pt):Prop:=∀ h,h < plays.length->ptA qs h=ptA ps h\/(plA plays h=r/\Alike pls ms (ptA ps h) (ptA qs h))
theorem cU {plays:List Nat}{r:Nat}{pls:List Int}{ms:List TX}{ps qs:List Pt}{rs:Rows}(h0:∀ x∈pls,0<=x) (B:Both plays r pls ms ps qs):∀ t:TT,t.ok->t.any (Bf r pls ms)=false->tev plays qs rs t=tev plays ps rs t:=by
 intro t
 induction t with
 | no a ih =>
  intro ok h;have h:(false || a.any (Bf r pls ms))=false:=h;show (!tev plays qs rs a)=!tev plays ps rs a;rw [ih ok h]
 | both a b iha ihb =>
  intro ok h;have h:(false || (a.any (Bf r pls ms) || b.any (Bf r pls ms)))=false:=h;rw [Bool.false_or,Bool.or_eq_false_iff] at h;show (tev plays qs rs a&&tev plays qs rs b)=(tev plays ps rs a&&tev plays ps rs b);rw [iha ok.1 h.1,ihb ok.2 h.2]
 | either a b iha ihb =>
  intro ok h;have h:(false || (a.any (Bf r pls ms) || b.any (Bf r pls ms)))=false:=h;rw [Bool.false_or,Bool.or_eq_false_iff] at h;show (tev plays qs rs a || tev plays qs rs b)=(tev plays ps rs a || tev plays ps rs b);rw [iha ok.1 h.1,ihb ok.2 h.2]
 | letters kd x y=>intro _ _;rfl
 | count c t x y =>
  intro ok h;have h:(((c:Int)==(r:Int))&&t.any (Du pls ms))=false:=h;have e:nC plays qs c t=nC plays ps c t:=by
   unfold nC;refine List.countP_congr fun i hi=>?_
   have hi:=List.mem_range.mp hi;unfold Ael;rcases B i hi with e|⟨e1,e2⟩
   ·rw [e]
   ·by_cases hc:c=r
    ·subst hc;have h:t.any (Du pls ms)=false:=by simpa using h
     rw [cT h0 e2 t ok.1 h]
    ·have:((plA plays i:Int)==(c:Int))=false:=by rw [e1];simp;omega
     rw [this];simp
  show inR (nC plays qs c t) x y=inR (nC plays ps c t) x y;rw [e]
theorem Tv {ps:List Pt}{i j:Nat}{p:Pt}(hi:i < ps.length):ptA (ps.set i p) j=if i=j then p else ptA ps j:=by
 unfold ptA
 by_cases e:i=j
 ·subst e;rw [List.getElem?_set_self hi,if_pos rfl];rfl
 ·rw [List.getElem?_set_ne e,if_neg e]
theorem pG (k:Nat) (w:Wd) (wk:w.ok) (R r:Nat) (hr:r < R) (lR:w.parts.length=R) (pls:List Int) (lp:pls.length<=1000) (ms:List TX) (hm:∀ m∈ms,m∈nine) (v:Int) (mh:MH) {P:D->MH->Prop}
  (h:∀ (ps qs:List Pt) h',ps.length=w.ps.length->qs.length=w.ps.length->(∀ p∈ps,Kr p)->(∀ p∈qs,Kr p)->Both w.plays r pls ms ps qs->Ext [] mh h'->P (.tup [O5 ps w.rs w.x w.y,O5 qs w.rs w.x w.y]) h') :
  wV (Af (Gk (k+2)) fuel f58 [w.pg,w.wd,.int r,.tup (pls.map D.int),.tup (ms.map txD),.int v] mh) P:=by
 refine Ai (Aby (k+1)) nP.1 nP.2 rfl ?_;show wS (b58 (k+1)) [some w.pg,some w.wd,some (.int r),some (.tup (pls.map D.int)),some (.tup (ms.map txD)),some (.int v),none,none,none,none,none,none] mh _;unfold b58;walk_at "r"
 refine Ac (j:=0) rfl ?_;walk_at "r"
 refine Fd rfl ?_;walk_at "r"
 refine Ac (j:=0) rfl ?_;walk_at "r"
 refine Fd rfl ?_;walk_at "r"
 refine Ac (j:=2) rfl ?_;walk_at "r"
 have hrr:r < w.parts.length:=by omega
 refine Ac (j:=r) (d:=.tup w.parts[r]) (by rw [List.getElem?_map,List.getElem?_eq_getElem hrr];rfl) ?_;walk_at "r"
 refine Fy (by intro z z';cases z') rfl ?_;walk_at "r"
 generalize hL:((w.parts[r].length:Nat):Int)=LL;have g1:(mh++[.lst (w.ps.map ptD)]++[.lst (w.ps.map ptD)])[mh.length]?=some (.lst (w.ps.map ptD)):=by simp
 have g2:(mh++[.lst (w.ps.map ptD)]++[.lst (w.ps.map ptD)])[mh.length+1]?=some (.lst (w.ps.map ptD)):=by simp
 have x1:Ext [] mh (mh++[.lst (w.ps.map ptD)]++[.lst (w.ps.map ptD)]):=Ext.more.trans Ext.more;have el:(mh++[MO.lst (w.ps.map ptD)]).length=mh.length+1:=by simp
 rw [el];generalize mh++[.lst (w.ps.map ptD)]++[.lst (w.ps.map ptD)]=m1 at g1 g2 x1;refine El pls D.int (fun x=>decide (x<=LL)) D.int (by omega) ?_ (fun x h' hx x'=>?_) fun h' x'=>?_
 ·walk_at "r"
  exact ⟨_,rfl,Ks rfl⟩
 ·walk_at "r"
  refine ⟨rfl,?_⟩;walk_at "r"
  refine ⟨rfl,Ext.refl,fun _=>?_⟩;walk_at "r"
  exact ⟨rfl,Ext.refl⟩
 have g3:(h'++[.lst ((pls.filter fun x=>decide (x<=LL)).map D.int)])[h'.length]?=some (.lst ((pls.filter fun x=>decide (x<=LL)).map D.int)):=Ad;have a0:=O3 g2;have g1:=x'.old _ _ (by simp) g1;have g2:=x'.old _ _ (by simp) g2;have g1:=(Ext.more (W:=[]) (g:=[.lst ((pls.filter fun x=>decide (x<=LL)).map D.int)])).old _ _ (by simp) g1;have g2:=(Ext.more (W:=[]) (g:=[.lst ((pls.filter fun x=>decide (x<=LL)).map D.int)])).old _ _ (by simp) g2;have x2:Ext [] mh (h'++[.lst ((pls.filter fun x=>decide (x<=LL)).map D.int)]):=(x1.trans x').trans Ext.more;have gb:mh.length+2<=h'.length:=by have:=x'.len;omega
 generalize h'.length=gg at g3 gb;generalize h'++[.lst ((pls.filter fun x=>decide (x<=LL)).map D.int)]=m2 at g1 g2 g3 x2;have hg:∀ x∈pls.filter (fun x=>decide (x<=LL)),x∈pls:=fun x hx=>(List.mem_filter.mp hx).1
 generalize pls.filter (fun x=>decide (x<=LL))=good at g3 hg;have hH:w.ps.length<=6:=by have:=wk.1;have:=wk.2.1;omega
 walk_at "r"
 refine Cu ?_;walk_at "r"
 refine Fy (by intro z z';cases z') (Cy g1) ?_;walk_at "r"
 rw [List.length_map]
 refine ⟨_,Dr (by omega),Br 0 w.ps.length,fun i l h=>∃ (ps qs:List Pt) (y10 y11:Option D),l=[some w.pg,some w.wd,some (.int r),some (.tup (pls.map D.int)),some (.tup (ms.map txD)),some (.int v),some (.ref mh.length),some (.ref (mh.length+1)),some (.int LL),some (.ref gg),y10,y11]/\ps.length=w.ps.length/\qs.length=w.ps.length/\(∀ p∈ps,Kr p)/\(∀ p∈qs,Kr p)/\Both w.plays r pls ms ps qs/\h[mh.length]?=some (.lst (ps.map ptD))/\h[mh.length+1]?=some (.lst (qs.map ptD))/\h[gg]?=some (.lst (good.map D.int))/\Ext [] mh h,
  ⟨w.ps,w.ps,_,_,rfl,rfl,rfl,wk.2.2.1,wk.2.2.1,fun _ _=>.inl rfl,g1,g2,g3,x2⟩,fun _ _ _ _=>⟨rfl,rfl⟩,?_,?_⟩
 ·rintro i d l h1 ed ⟨ps,qs,y10,y11,rfl,lp1,lq1,okp,okq,B,g1,g2,g3,x3⟩;refine Tc (fun _ _ a=>a) fun Q nxt=>?_
  rw [Cd,List.getElem?_map] at ed;cases ei:(List.range w.ps.length)[i]? with
  | none=>rw [ei] at ed;cases ed
  | some i' =>
   rw [ei] at ed;cases ed;obtain ⟨hi,e⟩:=List.getElem?_eq_some_iff.mp ei;rw [List.getElem_range] at e;subst e;rw [List.length_range] at hi;have hpl:i < w.plays.length:=by have:=wk.1;omega
   walk_at "r"
   refine Ac (j:=3) rfl ?_;walk_at "r"
   refine Ac (j:=i) (vY hpl) ?_;walk_at "r"
   refine ⟨fun er=>?_,fun er=>?_⟩
   ·have er0:((plA w.plays i:Nat):Int)=(r:Int):=by simpa using er
    have er:plA w.plays i=r:=Int.ofNat.inj er0
    walk_at "x0"
    refine M4 (Ext.more.old (W:=[]) _ _ (by simp) g3) Ad (fun d hd=>?_) ?_
    ·obtain ⟨z,_,rfl⟩:=List.mem_map.mp hd;exact ⟨_,Aep⟩
    have g1:=(Ext.more (W:=[]) (g:=[.lst []])).old _ _ (by simp) g1;have g2:=(Ext.more (W:=[]) (g:=[.lst []])).old _ _ (by simp) g2;have g3:=(Ext.more (W:=[]) (g:=[.lst []])).old _ _ (by simp) g3;have x3:Ext [] mh (h1++[.lst []]):=x3.trans Ext.more;generalize h1++[.lst []]=h2 at g1 g2 g3 x3;walk_at "r"
    refine Ax (fun e=>?_) fun e=>?_
    ·obtain ⟨g0,gr,rfl⟩:∃ g0 gr,good=g0::gr:=by
      cases good with
      | nil=>cases e
      | cons a b=>exact ⟨a,b,rfl⟩
     obtain ⟨gi,gl,egl⟩:∃ gi gl,g0::gr=gi++[gl]:=by
      rcases List.eq_nil_or_concat (g0::gr) with q|⟨l,a,q⟩
      ·cases q
      ·exact ⟨l,a,by rw [q];simp⟩
     have pko:=vX (h:=i) (by omega) okp;walk_at "r"
     refine Bl (j:=i) g1 (oU (by omega)) ?_;walk_at "r"
     refine Bl (j:=0) g3 rfl ?_
     walk_at "x0"
     refine Dg (d:=.int (ptA ps i).pl) ?_;walk_at "r"
     refine My (by simp) ?_;walk_at "r"
     refine ⟨_,G3 g1 (by rw [List.length_map];omega),?_⟩;have ep:(ps.map ptD).set i (.tup ([D.int g0]++[.tup ((ptA ps i).ns.map D.int),.tup ((ptA ps i).ms.map D.int),.tup [Bx (ptA ps i).s0,Bx (ptA ps i).s1],.bl (ptA ps i).bell]))=(ps.set i { ptA ps i with pl:=g0 }).map ptD:=(List.map_set (f:=ptD) (l:=ps) (i:=i) (a:={ ptA ps i with pl:=g0 })).symm;rw [ep];have g1':=Hl (o:=.lst ((ps.set i { ptA ps i with pl:=g0 }).map ptD)) g1;have g2':=Dl (o:=.lst ((ps.set i { ptA ps i with pl:=g0 }).map ptD)) g2 (show mh.length≠mh.length+1 by omega);have g3':=Dl (o:=.lst ((ps.set i { ptA ps i with pl:=g0 }).map ptD)) g3 (show mh.length≠gg by omega);have x3':Ext [] mh (h2.set mh.length (.lst ((ps.set i { ptA ps i with pl:=g0 }).map ptD))):=x3.setNew (Nat.le_refl _);generalize h2.set mh.length (.lst ((ps.set i { ptA ps i with pl:=g0 }).map ptD))=h3 at g1' g2' g3' x3';have lps:(ps.set i { ptA ps i with pl:=g0 }).length=w.ps.length:=by rw [List.length_set];exact lp1
     have eA:ptA (ps.set i { ptA ps i with pl:=g0 }) i={ ptA ps i with pl:=g0 }:=by rw [Tv (by omega),if_pos rfl]
     have pko2:Kr { ptA ps i with pl:=g0 }:=pko;walk_at "r"
     refine Bl (j:=i) g1' (oU (by omega)) ?_;rw [eA];walk_at "r"
     refine Bh (d:=.int gl) (h:=h3) (by
      rw [egl] at g3';simp only [ixD,Qy g3',aF,Eu,g3',List.map_append,List.map_cons,List.map_nil]
      rw [show (-1:Int)=-1 from rfl,dX]) ?_
     walk_at "r"
     refine Kq (by omega) (by omega) ?_;walk_at "r"
     refine cR k _ pko2 gl ms hm _ h3 fun q h4 eq rel x4=>?_
     have g1'':=x4.old _ _ (by simp) g1';have g2'':=x4.old _ _ (by simp) g2';have g3'':=x4.old _ _ (by simp) g3';walk_at "r"
     refine ⟨_,G3 g2'' (by rw [List.length_map];omega),?_⟩;walk_at "r"
     refine nxt _ _ ⟨ps.set i { ptA ps i with pl:=g0 },qs.set i q,_,_,rfl,lps,by rw [List.length_set];exact lq1,fun p hp=>?_,fun p hp=>?_,fun j hj=>?_,Dl g1'' (by omega),?_,Dl g3'' (by omega),(x3'.trans x4).setNew (by omega)⟩
     ·rcases List.mem_or_eq_of_mem_set hp with hp|rfl
      ·exact okp p hp
      ·exact pko2
     ·rcases List.mem_or_eq_of_mem_set hp with hp|rfl
      ·exact okq p hp
      ·exact rel.ok
     ·rw [Tv (by omega),Tv (by omega)]
      by_cases ij:i=j
      ·subst ij;rw [if_pos rfl,if_pos rfl];refine .inr ⟨er,hg g0 (.head _),?_,rel⟩;rw [eq];exact hg gl (by rw [egl];simp)
      ·rw [if_neg ij,if_neg ij];exact B j hj
     ·rw [Hl g2'',List.map_set]
    ·walk_at "r"
     exact nxt _ _ ⟨ps,qs,_,_,rfl,lp1,lq1,okp,okq,B,g1,g2,g3,x3⟩
   ·walk_at "r"
    exact nxt _ _ ⟨ps,qs,_,_,rfl,lp1,lq1,okp,okq,B,g1,g2,g3,x3⟩
 ·rintro l h1 ⟨ps,qs,y10,y11,rfl,lp1,lq1,okp,okq,B,g1,g2,g3,x3⟩;walk_at "r"
  refine Be (Cy g1) ?_
  walk_at "x0"
  refine Dg ?_;walk_at "r"
  refine My (by simp) ?_;walk_at "r"
  refine Be (Cy g2) ?_
  walk_at "x0"
  refine Dg ?_;walk_at "r"
  refine My (by simp) ?_
  walk_at "x0"
  exact h ps qs h1 lp1 lq1 okp okq B x3
noncomputable def pm (v:Int):Int:=v.fmod (if (v.fdiv 64).fmod 2=0 then 7 else 61)
theorem Aer (v:Int):0<=pm v:=by
 unfold pm;split
 ·exact Dw v (by decide)
 ·exact Dw v (by decide)
theorem Aes {v:Int}{mh:MH}{P:D->MH->Prop}(h:P (.int (if (v.fdiv 64).fmod 2=0 then 7 else 61)) (mh++[.lst [.int 7,.int 61]])):wV (ixD (.ref mh.length) (.int ((v.fdiv 64).fmod 2)) (mh++[.lst [.int 7,.int 61]])) P:=by
 obtain ⟨f2,hf2,ef⟩:=Bu (v.fdiv 64) 2 (by decide);have ef:(v.fdiv 64).fmod 2=(f2:Int):=ef;rw [ef] at h ⊢;have:f2=0\/f2=1:=by omega
 rcases this with rfl|rfl
 ·exact Bl (j:=0) Ad rfl h
 ·exact Bl (j:=1) Ad rfl h
theorem Acd (ns:List Int) (hns:ns.length<=63):wV (Af (Gk (39+1)) fuel f59 [.rol (ns.map D.int)] []) fun d _=>d=.bl true:=by
 refine Ai (Abz 39) nQ.1 nQ.2 rfl ?_;show wS (b59 39) [some (.rol (ns.map D.int)),none,none,none,none,none,none,none,none,none,none,none,none,none,none,none,none,none,none] [] _;unfold b59;walk_at "r"
 refine Fz 38 ns 0 [] fun v0=>?_
 obtain ⟨H0,hH0,eH0⟩:=Bu v0 4 (by decide);have eH0:v0.fmod 4=(H0:Int):=eH0
 walk_at "x0"
 rw [eH0];have eH:(1:Int)+(H0:Int)=((H0+1:Nat):Int):=by omega
 rw [eH];refine Fz 38 ns 0 [] fun v1=>?_
 obtain ⟨R0,hR0,eR0⟩:=Bu (v1.fdiv 4) 3 (by decide);have eR0:(v1.fdiv 4).fmod 3=(R0:Int):=eR0
 walk_at "x0"
 rw [eR0];have eR:(1:Int)+(R0:Int)=((R0+1:Nat):Int):=by omega
 rw [eR];refine Fz 38 ns 1 _ fun c1=>?_
 walk_at "x0"
 refine V6 36 c1 (H:=H0+1) (R:=R0+1) (L:=6) (by omega) (by omega) (by omega) (by omega) (by omega) [] fun room c0 c1' parts plays m1 r1 r2 hc0 hc1 lp ll hp x1=>?_
 obtain ⟨rm,rfl⟩:∃ rm:Nat,room=(rm:Int):=⟨room.toNat,by omega⟩
 walk_at "x0"
 refine Cu ?_;walk_at "r"
 refine Fy (by intro z z';cases z') rfl ?_;walk_at "r"
 rw [List.length_map];refine Bh (d:=.int (Hf 62 [(ns.length:Int)])) (h:=m1) rfl ?_;walk_at "r"
 refine Bh (d:=.int (Hu 5 [Hf 62 [(ns.length:Int)]])) (h:=m1) rfl ?_;walk_at "r"
 generalize hM:Hu 5 [Hf 62 [(ns.length:Int)]]=M;have bM:5<=M/\M<=62:=by
  rw [oK,oJ] at hM;subst hM;split <;> split <;> omega
 have eRg:bR [.int 2,.int M,.int 3]=some (.seq (Fv 2 3 (Oh 2 M 3))):=by
  show (if (0 < (3:Int)/\(3:Int) < 1000)/\(-1000000<=(2:Int)/\(2:Int)<=1000000)/\(-1000000<=M/\M<=1000000) then some (Src.seq (Fv 2 3 (Oh 2 M 3))) else none)=_;rw [if_pos ⟨⟨by decide,by decide⟩,⟨by decide,by decide⟩,by omega,by omega⟩]
 refine ⟨_,eRg,Fv 2 3 (Oh 2 M 3),fun _ l _=>∃ x4 x5 x6 x7 x8 x9 x10 x11 x12 x13 x14 x15 x16 x17 x18,l=[some (.rol (ns.map D.int)),some (.int ((H0+1:Nat):Int)),some (.int ((R0+1:Nat):Int)),some (Hs rm c0 c1' parts plays),x4,x5,x6,x7,x8,x9,x10,x11,x12,x13,x14,x15,x16,x17,x18],⟨_,_,_,_,_,_,_,_,_,_,_,_,_,_,_,rfl⟩,fun _ _ _ _=>⟨rfl,rfl⟩,?_,?_⟩
 ·rintro i d l m2 ed ⟨x4,x5,x6,x7,x8,x9,x10,x11,x12,x13,x14,x15,x16,x17,x18,rfl⟩;refine Tc (fun _ _ a=>a) fun Q nxt=>?_
  obtain ⟨i',_,rfl⟩:=List.mem_map.mp (List.mem_of_getElem? ed);have ei:(2:Int)+(i':Int) * 3=((2+i' * 3:Nat):Int):=by omega
  have ei1:((2+i' * 3:Nat):Int)+1=((2+i' * 3+1:Nat):Int):=by omega
  have ei2:((2+i' * 3:Nat):Int)+2=((2+i' * 3+2:Nat):Int):=by omega
  rw [ei];walk_at "r"
  refine Fz 38 ns _ m2 fun c2=>?_
  walk_at "r"
  refine cL 36 c2 (H:=H0+1) (R:=R0+1) (by omega) (by omega) rm (by omega) (by omega) c0 c1' hc0 hc1 parts plays lp ll hp m2 fun ps rs x y m3 lps ops rk y3=>?_
  have wk:Wd.ok ⟨rm,c0,c1',parts,plays,ps,rs,x,y⟩:=⟨by show ps.length=plays.length;omega,by show plays.length<=6;omega,ops,rk⟩;have wpl:(⟨rm,c0,c1',parts,plays,ps,rs,x,y⟩:Wd).parts.length=R0+1:=lp;generalize hw:(⟨rm,c0,c1',parts,plays,ps,rs,x,y⟩:Wd)=w at wk wpl;have epg:Hs rm c0 c1' parts plays=w.pg:=by rw [← hw]
  have ewd:O5 ps rs x y=w.wd:=by rw [← hw]
  rw [ewd];walk_at "r"
  rw [ei1];refine Fz 38 ns _ m3 fun c3=>?_
  walk_at "r"
  refine J0 (by decide) (by decide) (by decide) ?_;rw [Te];walk_at "r"
  refine Jc 37 c3 60 (by decide) 1000000 (by decide) (by decide) m3 fun vs jd m4 lv pv y4 g4 _=>?_
  walk_at "r"
  refine Wb 1 33 jd (R0+1) (by omega) vs m4 g4 (by rw [lv];decide) (by omega) fun t1 ws m5 ok1 dp1 lw1 lw2 y5 g5=>?_
  walk_at "r"
  have n17:nt 1=17:=rfl;refine Wb 1 33 jd (R0+1) (by omega) ws m5 g5 (by omega) (by omega) fun t2 ws2 m6 ok2 dp2 _ _ y6 g6=>?_
  walk_at "r"
  walk_at "x0"
  rw [ei2];refine Fz 38 ns _ _ fun c4=>?_
  obtain ⟨r3,hr3,er3⟩:=Bu c4 3 (by decide);have er3:c4.fmod 3=(r3:Int):=er3
  walk_at "x0"
  rw [er3]
  refine Ko (P:=fun d h'=>h'=m6++[.lst [.tup [.str "never",ttD t1],.tup [.str "behind",ttD t1,ttD t2],.tup [.str "comes",ttD t1,ttD t2]]]/\∃ (wd:D) (ts:List TT),d=.tup (wd::ts.map ttD)/\ts.length<=2/\∀ t∈ts,t.dep<=1/\t.ok) ?_ ?_
  ·refine Di Ad (by simpa using hr3) fun d hd=>⟨rfl,?_⟩
   simp only [List.mem_cons,List.mem_nil_iff,or_false] at hd;rcases hd with rfl|rfl|rfl
   ·refine ⟨_,[t1],rfl,by simp,fun t ht=>?_⟩;rw [List.mem_singleton.mp ht];exact ⟨dp1,ok1⟩
   ·refine ⟨_,[t1,t2],rfl,by simp,fun t ht=>?_⟩;simp only [List.mem_cons,List.mem_nil_iff,or_false] at ht;rcases ht with rfl|rfl
    ·exact ⟨dp1,ok1⟩
    ·exact ⟨dp2,ok2⟩
   ·refine ⟨_,[t1,t2],rfl,by simp,fun t ht=>?_⟩;simp only [List.mem_cons,List.mem_nil_iff,or_false] at ht;rcases ht with rfl|rfl
    ·exact ⟨dp1,ok1⟩
    ·exact ⟨dp2,ok2⟩
  rintro cl h7 ⟨rfl,wd,ts,rfl,lts,hts⟩
  generalize m6++[.lst [.tup [.str "never",ttD t1],.tup [.str "behind",ttD t1,ttD t2],.tup [.str "comes",ttD t1,ttD t2]]]=m7;walk_at "r"
  rw [ei2];refine Fz 38 ns _ m7 fun c5=>?_
  walk_at "x0"
  refine J0 (by decide) (by decide) (by decide) ?_;rw [Te];walk_at "r"
  refine Jc 37 _ 9 (by decide) 1000000 (by decide) (by decide) m7 fun us js m8 lu pu y8 g8 _=>?_
  walk_at "r"
  have f3:0<=1+(us[8]).fmod 3/\1+(us[8]).fmod 3<=3:=by
   have a1:=Dw us[8] (j:=3) (by decide);have a2:=Ii us[8] (j:=3) (by decide);omega
  have lc:=Q8 (ns:=us) f3.1 f3.2;have g8:IsI m8 js us:=g8;refine El (DL.cutD us none (some (1+(us[8]).fmod 3))) D.int (fun _=>true) (fun v=>.int (pm v)) (by omega) ?_ (fun v h1 hv x1=>?_) fun h1 x1=>?_
  ·walk_at "r"
   refine Ck (j:=8) g8 (by omega) ?_
   walk_at "x0"
   refine Ga g8 ?_;refine ⟨_,src_list Ad,Ext.more,Ku Ad⟩
  ·walk_at "r"
   refine ⟨rfl,?_⟩;walk_at "r"
   refine ⟨rfl,Ext.refl,fun _=>?_⟩
   walk_at "x0"
   refine Aes ?_;refine Ea (by split <;> decide) ?_;exact ⟨rfl,Ext.more⟩
  rw [List.filter_eq_self.mpr (fun _ _=>rfl),show (DL.cutD us none (some (1+(us[8]).fmod 3))).map (fun v=>D.int (pm v))=((DL.cutD us none (some (1+(us[8]).fmod 3))).map pm).map D.int by rw [List.map_map];rfl];refine Bh (Km Ad (by rw [List.length_map];omega) (by have:=Q5 ((DL.cutD us none (some (1+(us[8]).fmod 3))).map pm);rw [List.length_map] at this;omega)) ?_;have pl0:∀ x∈Hr ((DL.cutD us none (some (1+(us[8]).fmod 3))).map pm),0<=x:=fun x hx=>by
   have hx:=aR.mp ((Fo _).mem_iff.mp hx);obtain ⟨v,_,rfl⟩:=List.mem_map.mp hx;exact Aer v
  have pll:(Hr ((DL.cutD us none (some (1+(us[8]).fmod 3))).map pm)).length<=1000:=by
   rw [(Fo _).length_eq];have:=Q5 ((DL.cutD us none (some (1+(us[8]).fmod 3))).map pm);rw [List.length_map] at this;omega
  generalize Hr ((DL.cutD us none (some (1+(us[8]).fmod 3))).map pm)=pls at pl0 pll;have x9:Ext [] m8 (h1++[MO.lst (((DL.cutD us none (some (1+(us[8]).fmod 3))).map pm).map D.int)]++[.lst (pls.map D.int)]):=(x1.trans Ext.more).trans Ext.more;have g9:(h1++[MO.lst (((DL.cutD us none (some (1+(us[8]).fmod 3))).map pm).map D.int)]++[MO.lst (pls.map D.int)])[(h1++[MO.lst (((DL.cutD us none (some (1+(us[8]).fmod 3))).map pm).map D.int)]).length]?=some (.lst (pls.map D.int)):=Ad;generalize (h1++[MO.lst (((DL.cutD us none (some (1+(us[8]).fmod 3))).map pm).map D.int)]).length=n9 at g9;generalize h1++[MO.lst (((DL.cutD us none (some (1+(us[8]).fmod 3))).map pm).map D.int)]++[.lst (pls.map D.int)]=m9 at x9 g9;have g8:=g8.ext x9;walk_at "r"
  refine Be (Cy g9) ?_;walk_at "r"
  refine Ga g8 ?_;walk_at "r"
  have lcut:(DL.cutD us (some (3:Nat)) (some (8:Nat))).length=5:=by rw [Hj (by decide) (by omega)]
  refine cQ 38 _ _ _ Ad (by show 4<=(DL.cutD us (some ((3:Nat):Int)) (some ((8:Nat):Int))).length;omega) (by show (DL.cutD us (some ((3:Nat):Int)) (some ((8:Nat):Int))).length<=1000;omega) fun ms m10 hm lm y10=>?_
  have hmo:Tn ms:=fun m h=>uW m (hm m h)
  have x10:Ext [] m8 m10:=x9.trans (Ext.more.trans y10);have g10:IsI m10 js us:=g8.ext (Ext.more.trans y10)
  clear y10 x10 g9 g8
  walk_at "r"
  refine Ck (j:=8) g10 (by omega) ?_;obtain ⟨r,hr,er⟩:=Bu ((us[8]).fdiv 3) (R0+1) (by omega)
  walk_at "x0"
  rw [er];walk_at "r"
  refine Cu ?_;walk_at "r"
  refine Dg ?_;refine ⟨_,rfl,ts.map ttD,fun i l h=>∃ y15,l=[some (.rol (ns.map D.int)),some (.int ((H0+1:Nat):Int)),some (.int ((R0+1:Nat):Int)),some (Hs rm c0 c1' parts plays),some (.int ((2+i' * 3:Nat):Int)),some w.wd,some (.ref jd),some (ttD t1),some (ttD t2),some (.tup (wd::ts.map ttD)),some (.ref js),some (.tup (pls.map D.int)),some (.tup (ms.map txD)),some (.int r),some (.bl (!(ts.take i).any (TT.any (Bf r pls ms)))),y15,x16,x17,x18]/\Ext [] m10 h,⟨_,rfl,Ext.refl⟩,fun _ _ _ _=>⟨rfl,rfl⟩,?_,?_⟩
  ·rintro q d l h1 ed ⟨y15,rfl,z1⟩;refine Tc (fun _ _ a=>a) fun Q2 nxt2=>?_
   rw [List.getElem?_map] at ed;cases et:ts[q]? with
   | none=>rw [et] at ed;cases ed
   | some t =>
    rw [et] at ed;cases ed;have ht:=hts t (List.mem_of_getElem? et);walk_at "r"
    refine cO r pls ms hmo t 35 h1 (by omega) ht.2 fun h2 z2=>?_
    refine ⟨_,rfl,?_⟩;refine Ax (fun e=>?_) fun e=>?_
    ·walk_at "r"
     have e':(!(ts.take (q+1)).any (TT.any (Bf r pls ms)))=false:=by rw [take_succ et];simp [e]
     refine nxt2 _ _ ⟨some (ttD t),?_,z1.trans z2⟩;rw [e'];rfl
    ·walk_at "r"
     have e':(!(ts.take (q+1)).any (TT.any (Bf r pls ms)))=!(ts.take q).any (TT.any (Bf r pls ms)):=by rw [take_succ et];simp [e]
     refine nxt2 _ _ ⟨some (ttD t),?_,z1.trans z2⟩;rw [e'];rfl
  rintro l m11 ⟨y15,rfl,z11⟩;rw [List.length_map,List.take_length];have g11:=g10.ext z11;walk_at "r"
  refine cP 36 wd ts r lts hts pls ms hmo m11 fun m12 z12=>?_
  have g12:=g11.ext z12;generalize hdue:(!ts.any (TT.any (Bf r pls ms)))=due;walk_at "r"
  refine oW ?_;rw [show (due != due)=false by cases due <;> rfl];walk_at "r"
  refine Ck (j:=7) g12 (by omega) ?_;walk_at "r"
  rw [epg];refine pG 37 w wk (R0+1) r hr wpl pls pll ms hm _ m12 fun ps1 ps2 m13 lp1 lp2 op1 op2 B z13=>?_
  have wk1:Wd.ok { w with ps:=ps1 }:=⟨lp1.trans wk.1,wk.2.1,op1,wk.2.2.2⟩;have wk2:Wd.ok { w with ps:=ps2 }:=⟨lp2.trans wk.1,wk.2.1,op2,wk.2.2.2⟩;have ev12:∀ t∈ts,due=true->({ w with ps:=ps2 }:Wd).ev t=({ w with ps:=ps1 }:Wd).ev t:=fun t ht hd=>by
   refine cU pl0 B t (hts t ht).2 ?_;have:ts.any (TT.any (Bf r pls ms))=false:=by
    rw [← hdue] at hd;cases e:ts.any (TT.any (Bf r pls ms)) with
    | false=>rfl
    | true=>rw [e] at hd;cases hd
   rw [List.any_eq_false] at this;have:=this t ht
   simpa using this
  walk_at "r"
  refine Cu ?_;walk_at "r"
  refine Dg ?_;refine ⟨_,rfl,ts.map ttD,fun i l h=>∃ y15 y18,l=[some (.rol (ns.map D.int)),some (.int ((H0+1:Nat):Int)),some (.int ((R0+1:Nat):Int)),some w.pg,some (.int ((2+i' * 3:Nat):Int)),some w.wd,some (.ref jd),some (ttD t1),some (ttD t2),some (.tup (wd::ts.map ttD)),some (.ref js),some (.tup (pls.map D.int)),some (.tup (ms.map txD)),some (.int r),some (.bl due),y15,some (.bl due),some (.tup [O5 ps1 w.rs w.x w.y,O5 ps2 w.rs w.x w.y]),y18],⟨_,_,rfl⟩,fun _ _ _ _=>⟨rfl,rfl⟩,?_,?_⟩
  ·rintro q d l h1 ed ⟨y15,y18,rfl⟩;refine Tc (fun _ _ a=>a) fun Q3 nxt3=>?_
   rw [List.getElem?_map] at ed;cases et:ts[q]? with
   | none=>rw [et] at ed;cases ed
   | some t =>
    rw [et] at ed;cases ed;have ht:=hts t (List.mem_of_getElem? et);walk_at "r"
    refine El [({ w with ps:=ps1 }:Wd),{ w with ps:=ps2 }] Wd.wd (fun _=>true) (fun w'=>.bl (w'.ev t)) (by simp) ?_ (fun w' h2 hw' z2=>?_) fun h2 z2=>?_
    ·walk_at "r"
     exact ⟨_,rfl,Ks rfl⟩
    ·have hok:w'.ok/\w'.pg=w.pg:=by
      simp only [List.mem_cons,List.mem_nil_iff,or_false] at hw';rcases hw' with rfl|rfl
      ·exact ⟨wk1,rfl⟩
      ·exact ⟨wk2,rfl⟩
     walk_at "r"
     refine ⟨rfl,?_⟩;walk_at "r"
     refine ⟨rfl,Ext.refl,fun _=>?_⟩;walk_at "r"
     rw [← hok.2];exact cN w' hok.1 t 31 h2 (by omega) ht.2 fun h3 z3=>⟨rfl,z3⟩
    rw [List.filter_eq_self.mpr (fun _ _=>rfl)];walk_at "r"
    refine ⟨fun hd=>?_,fun hd=>?_⟩
    ·walk_at "r"
     refine Bl (j:=0) Ad rfl ?_;walk_at "r"
     refine Bl (j:=1) Ad rfl ?_;walk_at "r"
     refine oW ?_;have e:=ev12 t (List.mem_of_getElem? et) hd;rw [show ((({ w with ps:=ps1 }:Wd).ev t) != (({ w with ps:=ps2 }:Wd).ev t))=false by rw [e];exact bne_self_eq_false _];walk_at "r"
     exact nxt3 _ _ ⟨_,_,rfl⟩
    ·walk_at "r"
     exact nxt3 _ _ ⟨_,_,rfl⟩
  rintro l h ⟨y15,y18,rfl⟩;walk_at "r"
  rw [← epg];exact nxt _ _ ⟨_,_,_,_,_,_,_,_,_,_,_,_,_,_,_,rfl⟩
 ·rintro l h ⟨x4,x5,x6,x7,x8,x9,x10,x11,x12,x13,x14,x15,x16,x17,x18,rfl⟩;walk_at "r"
  exact rfl
noncomputable def depth:Nat:=40
theorem main (ns:List Int) (h:ns.length<=63):∃ mh',Af (GkN Tt depth) fuel f59 [.rol (ns.map D.int)] []=some (.bl true,mh'):=by
 obtain ⟨d,h',e,rfl⟩:=Acd ns h;exact ⟨h',e⟩
end Lw
open PySem PySem.W PyProof.Rows
namespace PySem.W.Fast
def tw13010342057180006528:Unit:=()
def tw17557017626693091183:Unit:=()
def tw9566627304561157932:Unit:=()
def tw1424425263352766703:Unit:=()
def tw14591538326079928686:Unit:=()
def tw5864022629312301305:Unit:=()
def tw723568823061125040:Unit:=()
def tw4766560368794124993:Unit:=()
def tw1230413934546384497:Unit:=()
def tw10587194442411439725:Unit:=()
def tw11445867622871695101:Unit:=()
def tw9341042293023441899:Unit:=()
def tw2807288089134567031:Unit:=()
def tw2255751641574382324:Unit:=()
def tw1989064790299253707:Unit:=()
def tw6327718673905371029:Unit:=()
def tw14661887744878268815:Unit:=()
def tw6395783669941369154:Unit:=()
def tw12321657027833636700:Unit:=()
def tw13127623703951666437:Unit:=()
def tw15988750550053644008:Unit:=()
def tw17353319918260846763:Unit:=()
def tw1887145807436809382:Unit:=()
def tw1039501801549107074:Unit:=()
def tw14671145463124246879:Unit:=()
def tw16616027129256288600:Unit:=()
def tw7868044904312748436:Unit:=()
def tw3925914380965156221:Unit:=()
def tw6541935228845226827:Unit:=()
def tw7555405247778379304:Unit:=()
def tw14601532517625495591:Unit:=()
def tw6754879554283842277:Unit:=()
def tw12114782503791783109:Unit:=()
def tw11105444521251312695:Unit:=()
def tw10852509632211163766:Unit:=()
def tw7921060449876338359:Unit:=()
def tw1509221529269907310:Unit:=()
def tw16494840958826232778:Unit:=()
def tw16149376492219934954:Unit:=()
def tw15252769593394538320:Unit:=()
def tw17475866966206629197:Unit:=()
def tw4820642824487708021:Unit:=()
def tw5304996139541894289:Unit:=()
def tw17152770943912795620:Unit:=()
def tw8892999284405520864:Unit:=()
def tw15598897402339455309:Unit:=()
def tw12663003148319106930:Unit:=()
def tw7719393191011763757:Unit:=()
def tw15790851104652800936:Unit:=()
def tw8161774713151492440:Unit:=()
def tw5051186644973682757:Unit:=()
def tw5432930459431461295:Unit:=()
def tw14257001895464554349:Unit:=()
def tw2745767508010395917:Unit:=()
def tw14829944868164267904:Unit:=()
def tw13209355502179778815:Unit:=()
def tw1351779760160212411:Unit:=()
def tw1117350072067570518:Unit:=()
def tw6862830474582738095:Unit:=()
def tw2119385573897650360:Unit:=()
def tw8050549296075118798:Unit:=()
def tw12382455729539599168:Unit:=()
def tw6364207602335053404:Unit:=()
def tw6031172129933662585:Unit:=()
def tw3374515214829088033:Unit:=()
def tw7843699801164641556:Unit:=()
def tw16683822310109003870:Unit:=()
def tw13978839428788274547:Unit:=()
def tw5230648854670577279:Unit:=()
def tw17835164139762382073:Unit:=()
def tw13464505902294461749:Unit:=()
def tw547793161669065589:Unit:=()
def tw10686121076601759353:Unit:=()
def tw9257422768812819659:Unit:=()
def tw6376961890926118197:Unit:=()
def tw2007770907404479897:Unit:=()
def tw5408373617919301467:Unit:=()
def tw5336463410590457661:Unit:=()
def tw9073461898777761648:Unit:=()
def tw267944082856517019:Unit:=()
def tw12137672058575519673:Unit:=()
def tw3054894215994840948:Unit:=()
def tw5418420228256682477:Unit:=()
def tw16125516702637484444:Unit:=()
def tw9658899599765413421:Unit:=()
def tw17599236796210822512:Unit:=()
def tw2522282557744092780:Unit:=()
def tw303260040606038024:Unit:=()
def tw7689143063802516932:Unit:=()
def tw6328876426717013368:Unit:=()
def tw17809825456025159305:Unit:=()
def tw4712185029103814623:Unit:=()
def tw69861886252796257:Unit:=()
def tw17983627853184909547:Unit:=()
def tw2655407311745997579:Unit:=()
def tw2616779468721335824:Unit:=()
def tw5063267228063999026:Unit:=()
def tw17597439995667956583:Unit:=()
def tw13601649244083241779:Unit:=()
def tw4250102024456483330:Unit:=()
def tw2154752886436355189:Unit:=()
def tw18080599808482860284:Unit:=()
def tw17093270034842141619:Unit:=()
def tw11895202747154877723:Unit:=()
def tw9259675281159059186:Unit:=()
def tw17315710717113822698:Unit:=()
def tw8296224755906399579:Unit:=()
def tw1631532418676520659:Unit:=()
def tw10340893097683902656:Unit:=()
def tw13175131415792213018:Unit:=()
def tw3917032033448226763:Unit:=()
def tw8241351381836145919:Unit:=()
def tw18144128892157353202:Unit:=()
def tw963594592381827560:Unit:=()
def tw5356352883315545850:Unit:=()
def tw9281614536461973371:Unit:=()
def tw9502340554842335258:Unit:=()
def tw4645339354183036102:Unit:=()
def tw18444402882791694262:Unit:=()
def tw16596713245859339804:Unit:=()
def tw574043894672313421:Unit:=()
def tw3669941952077954304:Unit:=()
def tw5397566269955840999:Unit:=()
def tw96169712160101728:Unit:=()
def tw16783592148870098406:Unit:=()
def tw5555876950433887639:Unit:=()
def tw4553279568662368517:Unit:=()
def tw9349194909997488068:Unit:=()
def tw8920853018221358871:Unit:=()
def tw5867491966182118817:Unit:=()
def tw3905978696365064765:Unit:=()
def tw2269155926725344351:Unit:=()
def tw18268075119935271092:Unit:=()
def tw17693605294481143343:Unit:=()
def tw17687747402297454888:Unit:=()
def tw17332053965785918493:Unit:=()
def tw17083353597335895291:Unit:=()
def tw16334389800436518906:Unit:=()
def tw13010435318294132113:Unit:=()
def tw12264242040844196668:Unit:=()
def tw10847066968274934953:Unit:=()
def tw9530695606102805956:Unit:=()
def tw8523396516190238948:Unit:=()
def tw8509168720865152900:Unit:=()
def tw8478976760399405512:Unit:=()
def tw7792693517878880331:Unit:=()
def tw4292402837293984067:Unit:=()
def tw3519109236794500634:Unit:=()
def tw3126520005497562321:Unit:=()
def tw2965576009009916742:Unit:=()
def tw2770001714464100577:Unit:=()
def tw2663939266738039083:Unit:=()
def tw17368270173765586132:Unit:=()
def tw17217585179833388392:Unit:=()
def tw16638779837233715233:Unit:=()
def tw13276416034132773538:Unit:=()
def tw13034356499428163110:Unit:=()
def tw12138945322683001120:Unit:=()
def tw10955596039370642100:Unit:=()
def tw10728604032879715794:Unit:=()
def tw6271472272998615472:Unit:=()
def tw7322047144753991084:Unit:=()
def tw1561778413927252079:Unit:=()
def tw16979101014906569757:Unit:=()
def tw14345206503353222161:Unit:=()
def tw12819279471292192519:Unit:=()
def tw12211886613541026119:Unit:=()
def tw7682272022762053249:Unit:=()
def tw9788875196779036070:Unit:=()
def tw13602915104983516342:Unit:=()
def tw12966340506943165483:Unit:=()
def tw12592359372055314195:Unit:=()
def tw10690472690678740329:Unit:=()
def tw10450157029574560230:Unit:=()
def tw16653587047974749803:Unit:=()
def tw9475832725030698404:Unit:=()
def tw8291215266715729105:Unit:=()
def tw7914623773735794415:Unit:=()
def tw6639587894286297206:Unit:=()
def tw6033983200713489845:Unit:=()
def tw455278114490393132:Unit:=()
def tw3433451178774984961:Unit:=()
def tw2509285269397916734:Unit:=()
def tw17825421098763229098:Unit:=()
def tw17518169795990312756:Unit:=()
def tw16761849795873535533:Unit:=()
def tw1606593341883208515:Unit:=()
def tw1549271848735805378:Unit:=()
def tw9980099045398977302:Unit:=()
def tw9588492563711056790:Unit:=()
def tw8788154751085398806:Unit:=()
def tw8708177964875286944:Unit:=()
def tw8462422946746215777:Unit:=()
def tw7818102691374643375:Unit:=()
def tw7655444145207180806:Unit:=()
def tw6976127973920813308:Unit:=()
def tw6231490011925302114:Unit:=()
def tw569368348734567337:Unit:=()
def tw483213570336500248:Unit:=()
def tw4625255885253120514:Unit:=()
def tw446582777123366753:Unit:=()
def tw4293117489579355567:Unit:=()
def tw4014205238926232860:Unit:=()
def tw3724986842350790902:Unit:=()
def tw348277608140998147:Unit:=()
def tw2878792807144343489:Unit:=()
def tw2597229646710579326:Unit:=()
def tw2544409169879978971:Unit:=()
def tw18368068869246806277:Unit:=()
def tw18030013818391669151:Unit:=()
def tw18019012172402723846:Unit:=()
def tw17862285183226750003:Unit:=()
def tw17611506653114868476:Unit:=()
def tw17559618671232991679:Unit:=()
def tw17069549164696789172:Unit:=()
def tw16854908918710383471:Unit:=()
def tw16846761234634500865:Unit:=()
def tw16701140301368575694:Unit:=()
def tw16671792291836134322:Unit:=()
def tw16644549908606119200:Unit:=()
def tw16519415019674192631:Unit:=()
def tw1614800458073690869:Unit:=()
def tw15499088373384029993:Unit:=()
def tw15477621413723222527:Unit:=()
def tw15123590356290056703:Unit:=()
def tw14285511783295901105:Unit:=()
def tw14162696181598578692:Unit:=()
def tw14115354038572886815:Unit:=()
def tw140283906631467563:Unit:=()
def tw13584505403487722212:Unit:=()
def tw13231845664207126938:Unit:=()
def tw12480377246652563121:Unit:=()
def tw11862622402863127058:Unit:=()
def tw11663538633202357667:Unit:=()
def tw11406077868935252101:Unit:=()
def tw11360182711539252287:Unit:=()
def tw11306455528326305146:Unit:=()
def tw11022528122860019926:Unit:=()
def tw10993121155643846182:Unit:=()
def tw10954310132098636428:Unit:=()
def tw10675955976114255810:Unit:=()
def tw1047998547515270725:Unit:=()
def tw10338819690031591729:Unit:=()
def tw10282756387759464650:Unit:=()
def tw10164452972822057089:Unit:=()
end PySem.W.Fast
set_option maxRecDepth 100000 in
set_option maxHeartbeats 0 in
theorem PySem.Challenge.cw_letterall_k47_blind_claims_holds : PySem.Challenge.rw_letterall_k47_blind_claims.Holds := by
 w_on; o_law; z_head; (case hw => w_witness2)
 k_fill
 refine DL.jW (fun _ => by kernel_rfl) (DL.walk (l := PySem.Challenge.rw_letterall_k47_blind_claims) (Tt := Lw.Tt) (I := Lw.f59) (x := "_law_script") Lw.depth rfl rfl (fun w h Y => Y) ⟨rfl, by decide, by decide⟩ (by kernel_rfl) (by decide +kernel) ?T Lw.main)
 case T =>
  intro w mg h KX G;refine' Lw.Afp KX G ?rf ?rb ?rc ?qd0 ?qe0 ?qg0 ?qh0 ?qr0
  (case rf => (repeat (apply DL.jX; (focus k_is); (focus k_is); (focus k_is); (focus k_is))); exact trivial)
  (case rb => (repeat (apply DL.kE; (focus k_is))); exact trivial)
  (case rc => (repeat (apply DL.jZ; (focus k_is); (focus kernel_rfl))); exact trivial)
  (case qd0 | qe0 => k_is)
  (case qg0 => kernel_rfl)
  (case qh0 => kernel_rfl)
  (case qr0 => kernel_rfl)
#print axioms PySem.Challenge.cw_letterall_k47_blind_claims_holds
