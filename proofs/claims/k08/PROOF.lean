import PyProof.Rows.All
import Wide.All
import OpenK.AllK
import Wide.FinOn
import Lean
import PyProof.EqAt
import PyProof.EqKinds
import PyProof.TupleCall
import KE.BitLaws
import PySem.Challenge.RW_letterall_k08_what_a_step_may_change
set_option Elab.async false
set_option linter.all false
set_option maxRecDepth 100000
set_option maxHeartbeats 8000000
namespace L2
open PySem PySem.Spec PyProof.Rows
noncomputable abbrev Key:=Sum Int Str
noncomputable def Om:Key->Value->Bool
 | .inl k,v=>Value.isInt k v
 | .inr x,v=>Value.isStrOf x v
noncomputable def Aby (w:World):Key->Int
 | .inl k=>hashInt k
 | .inr x=>hashStr w x
theorem Bl:∀ {k:Key}{v:Value},Om k v=true->(∃ i t,k=Sum.inl i/\v=Value.int i t)\/(∃ x t,k=Sum.inr x/\v=Value.str x t)
 | .inl i,v,h=>by
  obtain ⟨t,e⟩:=Value.isInt_shape (k:=i) (v:=v) h;exact .inl ⟨i,t,rfl,e⟩
 | .inr x,v,h=>by
  obtain ⟨t,e⟩:=Value.isStrOf_shape (x:=x) (v:=v) h;exact .inr ⟨x,t,rfl,e⟩
theorem Yh (i:Int) (t:Tok):Om (.inl i) (.int i t)=true:=by simp [Om,Value.isInt]
theorem Yi (x:Str) (t:Tok):Om (.inr x) (.str x t)=true:=by simp [Om,Value.isStrOf]
theorem rH (a b:Int):decide ((Sum.inl a:Key)=Sum.inl b)=(a==b):=by
 by_cases e:a=b
 ·subst e;simp
 ·have h:¬ (Sum.inl a:Key)=Sum.inl b:=fun q=>e (Sum.inl.inj q)
  rw [decide_eq_false h];exact (beq_eq_false_iff_ne.mpr e).symm
theorem rJ (a b:Str):decide ((Sum.inr a:Key)=Sum.inr b)=decide (a=b):=by
 by_cases e:a=b
 ·subst e;simp
 ·have h:¬ (Sum.inr a:Key)=Sum.inr b:=fun q=>e (Sum.inr.inj q)
  rw [decide_eq_false h,decide_eq_false e]
theorem rK (a:Int) (b:Str):decide ((Sum.inl a:Key)=Sum.inr b)=false:=decide_eq_false (fun q=>nomatch q)
theorem rM (a:Str) (b:Int):decide ((Sum.inr a:Key)=Sum.inl b)=false:=decide_eq_false (fun q=>nomatch q)
noncomputable def Cm (prog:Program) (w:World):PySem.KeyKind prog w Key where
 is:=Om
 hash:=Aby w
 inj:=fun v a b ha hb=>by
  rcases Bl ha with ⟨i,t,rfl,rfl⟩|⟨x,t,rfl,rfl⟩
  ·rcases Bl hb with ⟨j,u,rfl,e⟩|⟨y,u,rfl,e⟩
   ·injection e with e1 _;rw [e1]
   ·exact nomatch e
  ·rcases Bl hb with ⟨j,u,rfl,e⟩|⟨y,u,rfl,e⟩
   ·exact nomatch e
   ·injection e with e1 _;rw [e1]
 byValue:=fun k v h=>by
  rcases Bl h with ⟨i,t,rfl,rfl⟩ | ⟨x,t,rfl,rfl⟩ <;> rfl
 pyHash:=fun hv h=>by
  rcases Bl hv with ⟨i,t,rfl,rfl⟩|⟨x,t,rfl,rfl⟩
  ·exact wpAny_pyHash_int h
  ·exact wpAny_pyHash_str h
 eqBool:=fun hu hv h=>by
  rcases Bl hu with ⟨i,t,rfl,rfl⟩|⟨x,t,rfl,rfl⟩
  ·rcases Bl hv with ⟨j,u,rfl,rfl⟩|⟨y,u,rfl,rfl⟩
   ·rw [rH] at h;exact wpAny_eqBool_int h
   ·rw [rK] at h;exact SeqAt.EqAt.int_str i t y u _ _ _ _ h
  ·rcases Bl hv with ⟨j,u,rfl,rfl⟩|⟨y,u,rfl,rfl⟩
   ·rw [rM] at h;exact SeqAt.EqAt.str_int x t j u _ _ _ _ h
   ·rw [rJ] at h;exact wpAny_eqBool_str h
 «strs»:=fun k x t v h=>by
  rcases Bl h with ⟨i,u,rfl,e⟩|⟨y,u,rfl,e⟩
  ·exact nomatch e
  ·injection e with e1 _
   subst e1;cases v <;> rfl
theorem Rn (prog:Program) (w:World) (i:Int) (t:Tok):(Cm prog w).is (.inl i) (.int i t)=true:=Yh i t
theorem Ro (prog:Program) (w:World) (x:Str) (t:Tok):(Cm prog w).is (.inr x) (.str x t)=true:=Yi x t
inductive V where
 | non | bl (b:Bool) | int (i:Int) | str (x:Str) | byt (b:Array UInt8) | flt (b:UInt64) | ref (a:Addr) | ty (n:String)
 deriving DecidableEq
noncomputable def RelV:V->Value->Prop
 | .non,u=>u=Value.none
 | .bl b,u=>u=Value.bool b
 | .int i,u=>∃ t,u=Value.int i t
 | .str x,u=>∃ t,u=Value.str x t
 | .byt b,u=>∃ t,u=Value.bytes b t
 | .flt b,u=>∃ t,u=Value.float b t
 | .ref a,u=>u=Value.ref a
 | .ty n,u=>u=Value.type n
noncomputable abbrev Vals:List V->List Value->Prop:=Paired RelV
theorem Vals.length {xs:List V}{us:List Value}(r:Vals xs us):xs.length=us.length:=Paired.length r
theorem Vals.get:∀ {xs:List V}{us:List Value}{i:Nat}{x:V},Vals xs us->xs[i]?=some x->∃ u,us[i]?=some u/\RelV x u
 | _,_,_,_,.nil,e=>by simp at e
 | _,_,0,_,.cons r _,e=>by simp at e;subst e;exact ⟨_,rfl,r⟩
 | _,_,i+1,x,.cons _ t,e=>by
  obtain ⟨u,h1,h2⟩:=Vals.get (i:=i) (x:=x) t (by simpa using e);exact ⟨u,by simpa using h1,h2⟩
theorem Vals.set {x:V}{u:Value}(r:RelV x u):∀ {xs:List V}{us:List Value}(i:Nat),Vals xs us->Vals (xs.set i x) (us.set i u)
 | _,_,_,.nil=>.nil
 | _,_,0,.cons _ t=>.cons r t
 | _,_,i+1,.cons q t=>.cons q (Vals.set r i t)
theorem Vals.append:∀ {xs ys:List V}{us ws:List Value},Vals xs us->Vals ys ws->Vals (xs++ys) (us++ws)
 | _,_,_,_,.nil,s=>s
 | _,_,_,_,.cons r t,s=>.cons r (Vals.append t s)
theorem Vals.take:∀ {xs:List V}{us:List Value}(n:Nat),Vals xs us->Vals (xs.take n) (us.take n)
 | _,_,0,_=>.nil
 | _,_,_+1,.nil=>.nil
 | _,_,n+1,.cons r t=>.cons r (Vals.take n t)
theorem Vals.drop:∀ {xs:List V}{us:List Value}(n:Nat),Vals xs us->Vals (xs.drop n) (us.drop n)
 | _,_,0,r=>r
 | _,_,_+1,.nil=>.nil
 | _,_,n+1,.cons _ t=>Vals.drop n t
noncomputable def Ob:Option V->Option Value->Prop
 | some v,some u=>RelV v u
 | none,none=>True
 | _,_=>False
noncomputable def KV {κ:Type}:List (κ×V)->List (κ×Value)->Prop:=Paired fun (p:κ×V) (q:κ×Value)=>p.1=q.1/\RelV p.2 q.2
noncomputable def kV:Key->V
 | .inl i=>.int i
 | .inr x=>.str x
inductive HO where
 | lst (xs:List V)
 | tup (xs:List V)
 | dK (kvs:List (Key×V)) | dT (kvs:List (List Key×V))
 | set (S:Int->Bool) (n:Nat)
 | ins (C dx:Addr) (fs:List (Str×V))
 | own (x:Addr)
 | xd (fs:List (Str×V))
 | met (f x:Addr)
 | rng (lo hi:Int)
 | frz (o:Obj) (u:HO)
 | tbl (ps:Array Value)
 | ext (φ:Heap->Prop)
noncomputable abbrev Hp:=Addr->Option HO
noncomputable def upd (H:Hp) (a:Addr) (o:HO):Hp:=fun b=>if b=a then some o else H b
theorem Ay {H:Hp}{a:Addr}{o:HO}:upd H a o a=some o:=by unfold upd;rw [if_pos rfl]
theorem Aj {H:Hp}{a b:Addr}{o:HO}(h:b≠a):upd H a o b=H b:=by unfold upd;rw [if_neg h]
theorem kY {H:Hp}{a:Addr}{o u:HO}:upd (upd H a o) a u=upd H a u:=by
 funext b;unfold upd;split <;> rfl
theorem Rp {H:Hp}{a b:Addr}{o u:HO}(h:H a=some o) (h':H b=some u) (d:o≠u):a≠b:=by
 intro e;subst e;rw [h] at h';exact d (Option.some.inj h')
theorem Ao {H:Hp}{a b:Addr}{o:HO}(h:H a=some o) (h':H b=none):a≠b:=by
 intro e;subst e;rw [h] at h';cases h'
section
variable (P:Program) (w:World)
noncomputable def Le (h:Heap) (a:Addr) (its:Array Value):Prop:=∃ o,h.get? a=some o/\o.cls=.type "tuple"/\o.dict=none/\∃ n,o.data=.seq its n
theorem Le.to {h:Heap}{a:Addr}{its:Array Value}(x:Le h a its):IsTup h a its:=let ⟨o,e,c,_,n,d⟩:=x;⟨o,e,c,n,d⟩
theorem Le.new (h:Heap) (its:Array Value):Le (h.push { cls:=.type "tuple",data:=.seq its }) h.objs.size its:=⟨_,Heap.get?_push_size _ rfl,rfl,rfl,_,rfl⟩
noncomputable def Dh (H:Hp) (h:Heap) (a:Addr):HO->Prop
 | .lst xs=>xs.length<=sizeLine/\∃ (its:List Value) (n:Nat),Vals xs its/\h.get? a=some { cls:=.type "list",data:=.seq its.toArray n }
 | .tup xs=>xs.length<=sizeLine/\∃ its:List Value,Vals xs its/\Le h a its.toArray
 | .dK kvs=>kvs.length<=sizeLine/\(a==sysModules)=false/\∃ vs,KV kvs vs/\h.DictOf (Cm P w) a vs
 | .dT kvs=>kvs.length<=sizeLine/\(a==sysModules)=false/\∃ xs:List (List Key×Addr×Value),
   Paired (fun (p:List Key×V) (q:List Key×Addr×Value)=>p.1=q.1/\H q.2.1=some (.tup (p.1.map kV))/\RelV p.2 q.2.2) kvs xs /\
   ∃ o es ep,h.get? a=some o/\o.ExactDict/\o.data=.dict es ep/\es.toList=xs.map (entryOfKey (tupleKind (Cm P w)))/\(xs.map (·.1)).Nodup
 | .set S n=>h.SetOf (intKind P w) a S n
 | .ins C dx fs=>H dx=some (.own a)/\fs.length<=1000/\dx≠a/\h.get? a=some (PySem.W.instObj C dx) /\
   ∃ mA,h.Ns1 dx mA/\(∀ f,Ob (fs.lookup f) (mA f))/\PySem.Within mA (fs.map (·.1))
 | .own _=>∃ o,h.get? a=some o
 | .xd fs=>∃ mA,h.Ns1 a mA/\∀ f,Ob (fs.lookup f) (mA f)
 | .rng lo hi=>∃ t u v,h.get? a=some { cls:=.type "range",data:=.fields #[.int lo t,.int hi u,.int 1 v] }
 | .frz o u=>h.get? a=some o/\Dh H h a u
 | .tbl ps=>h.get? a=some { cls:=.none,data:=.fields ps }
 | .met f x=>h.get? a=some (PySem.W.methodObj (.ref f) (.ref x))
 | .ext φ=>φ h/\(∃ o,h.get? a=some o)/\∀ h1 h2:Heap,φ h1->(∀ o,h1.get? a=some o->h2.get? a=some o)->φ h2
noncomputable def HOk (H:Hp) (h:Heap):Prop:=∀ a o,H a=some o->Dh P w H h a o
end
section
variable {P:Program}{w:World}{H H':Hp}{h h':Heap}{a:Addr}{o:HO}
theorem Dh.lt (x:Dh P w H h a o):a < h.objs.size:=by
 cases o with
 | lst xs=>obtain ⟨_,_,_,_,e⟩:=x;exact Heap.lt_size e
 | tup xs=>obtain ⟨_,_,_,p⟩:=x;exact p.to.lt
 | dK kvs=>obtain ⟨_,_,_,_,o,_,_,e,_⟩:=x;exact Heap.lt_size e
 | dT kvs=>obtain ⟨_,_,_,_,o,_,_,e,_⟩:=x;exact Heap.lt_size e
 | set S n=>obtain ⟨o,_,_,_,e,_⟩:=x;exact Heap.lt_size e
 | ins C dx fs=>obtain ⟨_,_,_,e,_⟩:=x;exact Heap.lt_size e
 | own y=>obtain ⟨_,e⟩:=x;exact Heap.lt_size e
 | xd fs=>obtain ⟨_,⟨_,_,_,e,_⟩,_⟩:=x;exact Heap.lt_size e
 | rng lo hi=>obtain ⟨_,_,_,e⟩:=x;exact Heap.lt_size e
 | frz ob u=>obtain ⟨e,_⟩:=x;exact Heap.lt_size e
 | tbl ps=>exact Heap.lt_size (show h.get? a=some _ from x)
 | met f y=>exact Heap.lt_size (show h.get? a=some _ from x)
 | ext φ=>obtain ⟨_,⟨_,e⟩,_⟩:=x;exact Heap.lt_size e
theorem Paired.mapP {α β:Type}{F G:α->β->Prop}:∀ {l₁:List α}{l₂:List β},Paired F l₁ l₂->(∀ a b,F a b->G a b)->Paired G l₁ l₂
 | _,_,.nil,_=>.nil
 | _,_,.cons r t,f=>.cons (f _ _ r) (Paired.mapP t f)
theorem Dh.stay (x:Dh P w H h a o) (k:∀ b u,(b=a\/H b=some (.own a))->h.get? b=some u->h'.get? b=some u)
  (ho:∀ b,H b=some (.own a)->H' b=some (.own a)) (ht:∀ b xs,H b=some (.tup xs)->H' b=some (.tup xs)):Dh P w H' h' a o:=by
 induction o with
 | lst xs=>obtain ⟨z,its,n,r,e⟩:=x;exact ⟨z,its,n,r,k _ _ (.inl rfl) e⟩
 | tup xs=>obtain ⟨z,its,r,ob,e,c⟩:=x;exact ⟨z,its,r,ob,k _ _ (.inl rfl) e,c⟩
 | dK kvs=>obtain ⟨z,y,vs,r,ob,es,ep,e,c⟩:=x;exact ⟨z,y,vs,r,ob,es,ep,k _ _ (.inl rfl) e,c⟩
 | dT kvs =>
  obtain ⟨z,y,xs,r,ob,es,ep,e,c⟩:=x;exact ⟨z,y,xs,Paired.mapP r fun p q z=>⟨z.1,ht _ _ z.2.1,z.2.2⟩,ob,es,ep,k _ _ (.inl rfl) e,c⟩
 | set S n=>obtain ⟨ob,es,ep,t,e,c⟩:=x;exact ⟨ob,es,ep,t,k _ _ (.inl rfl) e,c⟩
 | ins C dx fs =>
  obtain ⟨d,z,ne,e,mA,⟨od,es,ep,e2,c⟩,r⟩:=x;exact ⟨ho _ d,z,ne,k _ _ (.inl rfl) e,mA,⟨od,es,ep,k _ _ (.inr d) e2,c⟩,r⟩
 | own y=>obtain ⟨ob,e⟩:=x;exact ⟨ob,k _ _ (.inl rfl) e⟩
 | xd fs=>obtain ⟨mA,⟨od,es,ep,e,c⟩,r⟩:=x;exact ⟨mA,⟨od,es,ep,k _ _ (.inl rfl) e,c⟩,r⟩
 | rng lo hi=>obtain ⟨t,u,v,e⟩:=x;exact ⟨t,u,v,k _ _ (.inl rfl) e⟩
 | frz ob u ih=>obtain ⟨e,q⟩:=x;exact ⟨k _ _ (.inl rfl) e,ih q⟩
 | tbl ps =>
  have e:h.get? a=some { cls:=.none,data:=.fields ps }:=x;show h'.get? a=some { cls:=.none,data:=.fields ps };exact k a _ (.inl rfl) e
 | met f y =>
  have e:h.get? a=some (PySem.W.methodObj (.ref f) (.ref y)):=x;show h'.get? a=some (PySem.W.methodObj (.ref f) (.ref y));exact k a _ (.inl rfl) e
 | ext φ=>obtain ⟨p,⟨o,e⟩,st⟩:=x;exact ⟨st _ _ p fun o q=>k _ _ (.inl rfl) q,⟨o,k _ _ (.inl rfl) e⟩,st⟩
theorem HOk.lt (x:HOk P w H h) (e:H a=some o):a < h.objs.size:=(x a o e).lt
theorem HOk.fresh (x:HOk P w H h) (e:h.objs.size<=a):H a=none:=by
 cases q:H a with
 | none=>rfl
 | some u=>exact absurd (Nat.lt_of_lt_of_le (x.lt q) e) (Nat.lt_irrefl _)
theorem HOk.kept (x:HOk P w H h) (k:∀ b u,h.get? b=some u->h'.get? b=some u):HOk P w H h':=fun a o e =>
 (x a o e).stay (fun b u _ q=>k b u q) (fun _ q=>q) fun _ _ q=>q
theorem HOk.laid (x:HOk P w H h) (k:∀ b u,h.get? b=some u->h'.get? b=some u) (hp:h.objs.size<=a) (new:Dh P w (upd H a o) h' a o):HOk P w (upd H a o) h':=fun b u e=>by
 have hn:=x.fresh hp
 by_cases hb:b=a
 ·subst hb;rw [Ay] at e;cases e;exact new
 ·rw [Aj hb] at e;exact (x b u e).stay (fun c v _ q=>k c v q) (fun c q=>by rw [Aj (Ao q hn)];exact q) fun c xs q=>by rw [Aj (Ao q hn)];exact q
end
noncomputable def Rd (H:Hp) (a:Addr) (u:HO):Prop:=H a=some u\/∃ o,H a=some (.frz o u)
theorem Rd.ok {P:Program}{w:World}{H:Hp}{h:Heap}{a:Addr}{u:HO}(r:Rd H a u) (x:HOk P w H h):Dh P w H h a u:=by
 rcases r with r|⟨o,r⟩
 ·exact x a u r
 ·obtain ⟨_,q⟩:=x a _ r;exact q
noncomputable def Mut:Option HO->Prop
 | some (.lst _)=>True
 | some (.dK _)=>True
 | some (.dT _)=>True
 | some (.set _ _)=>True
 | some (.ins _ _ _)=>True
 | some (.ext _)=>True
 | _=>False
section
variable {P:Program}{w:World}{H:Hp}{h h':Heap}{x e:Addr}{o':HO}
theorem HOk.write (ok:HOk P w H h) (mu:Mut (H x)) (he:e=x\/H e=some (.own x)) (k:∀ b u,b≠e->h.get? b=some u->h'.get? b=some u) (heo:∃ u,h'.get? e=some u)
  (new:Dh P w (upd H x o') h' x o'):HOk P w (upd H x o') h':=fun b u q=>by
 have nown:∀ c y,H c=some (.own y)->c≠x:=fun c y r z=>by subst z;rw [r] at mu;exact mu
 have ntup:∀ c xs,H c=some (.tup xs)->c≠x:=fun c xs r z=>by subst z;rw [r] at mu;exact mu
 by_cases hb:b=x
 ·subst hb;rw [Ay] at q;cases q;exact new
 ·rw [Aj hb] at q
  by_cases hbe:b=e
  ·have q':H b=some (.own x):=by
    rcases he with z|z
    ·exact absurd (hbe.trans z) hb
    ·rw [hbe];exact z
   rw [q] at q';cases q';obtain ⟨v,hv⟩:=heo;exact ⟨v,by rw [hbe];exact hv⟩
  ·refine (ok b u q).stay (fun c v hc r=>k c v ?_ r) (fun c r=>by rw [Aj (nown c b r)];exact r) fun c xs r=>by rw [Aj (ntup c xs r)];exact r
   rcases hc with rfl|hc
   ·exact hbe
   ·rintro rfl;rcases he with z|z
    ·exact nown c b hc z
    ·rw [hc] at z;cases z;exact hb rfl
end
structure Un (fs ex:List Addr) (H H':Hp) (h h':Heap):Prop where
 keep:∀ b o,h.get? b=some o->H b=none->b ∉ fs->b ∉ ex->h'.get? b=some o
 slot:∀ b o,h.get? b=some o->H b=none->b∈fs->b ∉ ex->∃ sl,h'.get? b=some { o with slots:=sl }
 free:∀ b o,h.get? b=some o->H b=none->b ∉ ex->H' b=none
 there:∀ b o,h.get? b=some o->b ∉ ex->∃ o',h'.get? b=some o'
 tups:∀ b xs,H b=some (.tup xs)->H' b=some (.tup xs)
 frzs:∀ b o u,H b=some (.frz o u)->H' b=some (.frz o u)
 tbls:∀ b ps,H b=some (.tbl ps)->∃ more,H' b=some (.tbl (ps++more))
section
variable {fs fs' ex ex':List Addr}{H H1 H2:Hp}{h h1 h2 h':Heap}{a x e:Addr}{o:HO}
theorem Un.any (u:Un fs ex H H1 h h1) {b:Addr}{ob:Obj}(q:h.get? b=some ob) (n:H b=none) (hx:b ∉ ex):∃ sl,h1.get? b=some { ob with slots:=sl }:=by
 by_cases hb:b∈fs
 ·exact u.slot b ob q n hb hx
 ·exact ⟨ob.slots,u.keep b ob q n hb hx⟩
theorem Un.kept (k:∀ b u,h.get? b=some u->h'.get? b=some u):Un fs ex H H h h' :=
 ⟨fun b ob q _ _ _=>k b ob q,fun b ob q _ _ _=>⟨ob.slots,k b ob q⟩,fun _ _ _ n _=>n,fun b ob q _=>⟨ob,k b ob q⟩,fun _ _ q=>q,fun _ _ _ q=>q,fun _ ps q=>⟨#[],by rw [q];simp⟩⟩
theorem Un.refl:Un fs ex H H h h:=Un.kept fun _ _ q=>q
theorem Un.laid (k:∀ b u,h.get? b=some u->h'.get? b=some u) (hp:h.objs.size<=a) (hn:H a=none):Un fs ex H (upd H a o) h h' where
 keep:=fun b u q _ _ _=>k b u q
 slot:=fun b u q _ _ _=>⟨u.slots,k b u q⟩
 free:=fun b u q n _=>by rw [Aj (Nat.ne_of_lt (Nat.lt_of_lt_of_le (Heap.lt_size q) hp))];exact n
 there:=fun b u q _=>⟨u,k b u q⟩
 tups:=fun b xs q=>by rw [Aj (Ao q hn)];exact q
 frzs:=fun b u xs q=>by rw [Aj (Ao q hn)];exact q
 tbls:=fun b ps q=>⟨#[],by rw [Aj (Ao q hn),q];simp⟩
theorem Un.write (mu:Mut (H x)) (he:e=x\/H e=some (.own x)) (k:∀ b u,b≠e->h.get? b=some u->h'.get? b=some u) (heo:∃ u,h'.get? e=some u):Un fs ex H (upd H x o) h h':=by
 have hx:∀ b,H b=none->b≠x:=fun b n z=>by subst z;rw [n] at mu;exact mu
 have hb:∀ b,H b=none->b≠e:=fun b n z=>by
  subst z;rcases he with r|r
  ·exact hx b n r
  ·rw [n] at r;cases r
 have hm:∀ b u,H b=some u->¬ Mut (some u)->b≠x:=fun b u q nm z=>by subst z;rw [q] at mu;exact nm mu
 refine ⟨fun b u q n _ _=>k b u (hb b n) q,fun b u q n _ _=>⟨u.slots,k b u (hb b n) q⟩,fun b u q n _=>by rw [Aj (hx b n)];exact n,fun b u q _=>?_,
  fun b xs q=>by rw [Aj (hm b _ q fun z=>z)];exact q,fun b u xs q=>by rw [Aj (hm b _ q fun z=>z)];exact q,fun b ps q=>⟨#[],by rw [Aj (hm b _ q fun z=>z),q];simp⟩⟩
 by_cases hbe:b=e
 ·subst hbe;exact heo
 ·exact ⟨u,k b u hbe q⟩
end
noncomputable def trk (h:Heap) (H:Hp):List Addr:=(List.range h.objs.size).filter fun a=>(H a).isSome
noncomputable def Qe (h:Heap) (H:Hp):Heap:=PySem.W.hideAll h (trk h H)
theorem Yj (h:Heap) (H:Hp):(Qe h H).objs.size=h.objs.size:=PySem.W.hideAll_size _ _
theorem aN {h:Heap}{H:Hp}{b:Addr}{o:Obj}(e:h.get? b=some o) (n:H b=none):(Qe h H).get? b=some o :=
 PySem.W.hideAll_get _ e fun hm=>by
  have q:(H b).isSome=true:=(List.mem_filter.mp hm).2;rw [n] at q;simp at q
theorem kZ {h:Heap}{H:Hp}{b:Addr}{o:Obj}(e:(Qe h H).get? b=some o):h.get? b=some o/\H b=none:=by
 have e':h.get? b=some o:=PySem.W.of_hideAll (trk h H) e;refine ⟨e',?_⟩;cases q:H b with
 | none=>rfl
 | some x =>
  have hm:b∈trk h H:=List.mem_filter.mpr ⟨List.mem_range.mpr (Heap.lt_size e'),by simp [q]⟩;have z:(Qe h H).get? b=none:=PySem.W.hideAll_none (trk h H) hm;rw [z] at e;cases e
structure Mod (K:PySem.W.Frag) (mg:Str->Option Value) (base:Heap):Prop where
 kin:K.In base
 glob:base.Ns mainGlobals mg
 blt:∃ mb,base.Ns builtinsNs mb/\∀ x:Str,x ≠ "__name__"->mb x=bootBuiltins x
 nolimit:base.NoLimit
structure Cx where
 prog:Program
 w:World
 K:PySem.W.Frag
 mg:Str->Option Value
 base:Heap
 A:Around
 N:List Str
 s₀:Shared
 H₀:Hp
 env:Env
 outer:List Env
 stack:List Env
 ex:List Addr
 fn:Str->Bool
 calm:Bool
 pn:List (Addr×Obj)
 xe:Value->Shared->Prop
noncomputable def frs (l:List Env):List Addr:=l.filterMap (·.frame)
noncomputable abbrev Cx.fs (X:Cx):List Addr:=frs X.outer
noncomputable def Vis (sc:Scope) (x:Str):Prop:=sc.names.lookup x=some .local\/sc.names.lookup x=some .cell\/sc.names.lookup x=some .free
noncomputable def Loc (sc:Scope) (x:Str):Prop:=sc.names.lookup x=some .local\/sc.names.lookup x=some .cell
noncomputable def Look (env:Env) (h:Heap) (m:Str->Option Value) (x:Str) (u:Value):Prop :=
 (env.kindOf x=some .local/\m x=some u)\/((env.kindOf x=some .cell\/env.kindOf x=some .free)/\∃ c,env.cells.lookup x=some c/\h.IsCell c (some u))
structure Cx.Ok (X:Cx):Prop where
 mod:Mod X.K X.mg X.base
 kind:X.env.scope.kind=.function
 glob:X.env.globals=mainGlobals
 blt:X.env.builtins=builtinsNs
 above:X.s₀.heap.objs.size<=X.env.locals
 inj:∀ x y c,X.env.cells.lookup x=some c->X.env.cells.lookup y=some c->x=y
 has:∀ x,(X.env.kindOf x=some .cell\/X.env.kindOf x=some .free)->∃ c,X.env.cells.lookup x=some c
 cab:∀ x c,X.fn x=true->X.env.cells.lookup x=some c->X.s₀.heap.objs.size<=c
 hd:X.calm=true->X.A.handled=none
 frames:X.A.frames=some X.stack
 stk:X.stack=X.outer\/(X.stack=X.env::X.outer/\X.env.frame=some X.env.locals)
 exf:∀ b∈X.ex,b≠X.env.locals/\∀ x c,X.env.cells.lookup x=some c->c≠b
 bs:∀ b o,X.base.get? b=some o->X.s₀.heap.get? b=some o/\X.H₀ b=none
 bsz:X.base.objs.size<=X.s₀.heap.objs.size
 noex:∀ b o,X.base.get? b=some o->b ∉ X.ex
 exfs:∀ b∈X.ex,b ∉ X.fs
 funs:X.s₀.heap.FunFrames X.base X.outer
 frf:∀ b∈X.fs,X.H₀ b=none
structure Inv (X:Cx) (pins:List (Addr×Obj)) (σ:List (Option V)) (H:Hp) (s:Shared):Prop where
 ok:X.Ok
 os:s.os=X.s₀.os
 bare:AllBare s.gens
 base:Un X.fs X.ex X.H₀ H X.s₀.heap s.heap
 loc:∃ m,s.heap.Ns X.env.locals m/\∀ (i:Nat) (x:Str) (v:V),X.N[i]?=some x->σ[i]?=some (some v)->Vis X.env.scope x->∃ u,RelV v u/\Look X.env s.heap m x u
 cell:∀ x c,X.env.cells.lookup x=some c->∃ v,s.heap.IsCell c v
 free:H X.env.locals=none
 freeC:∀ x c,X.env.cells.lookup x=some c->H c=none
 pin:∀ p∈X.pn++pins,s.heap.get? p.1=some p.2/\H p.1=none/\p.1≠X.env.locals/\p.1 ∉ X.fs/\∀ v,p.2.data≠.cell v
 hok:HOk X.prog X.w H s.heap
 len:σ.length=X.N.length
section
variable {X:Cx}{pins:List (Addr×Obj)}{σ:List (Option V)}{H H':Hp}{s:Shared}{h':Heap}
theorem Cx.Ok.nofr (ok:X.Ok) {b:Addr}{o:Obj}(e:X.base.get? b=some o):b ∉ X.fs:=fun hb=>by
 have:=(ok.funs.mem hb).1;rw [e] at this;cases this
theorem Inv.bs (I:Inv X pins σ H s):∀ b o,X.base.get? b=some o->s.heap.get? b=some o/\H b=none:=fun b o e =>
 ⟨I.base.keep b o (I.ok.bs b o e).1 (I.ok.bs b o e).2 (I.ok.nofr e) (I.ok.noex b o e),I.base.free b o (I.ok.bs b o e).1 (I.ok.bs b o e).2 (I.ok.noex b o e)⟩
theorem Inv.bk (I:Inv X pins σ H s):∀ b o,X.base.get? b=some o->s.heap.get? b=some o:=fun b o e=>(I.bs b o e).1
theorem Inv.mod (I:Inv X pins σ H s):Mod X.K X.mg X.base:=I.ok.mod
theorem Inv.kIn (I:Inv X pins σ H s):X.K.In s.heap:=I.ok.mod.kin.keeps I.bk
theorem Inv.lt (I:Inv X pins σ H s):X.env.locals < s.heap.objs.size:=let ⟨_,hn,_⟩:=I.loc;hn.lt
theorem Inv.sz (I:Inv X pins σ H s):X.s₀.heap.objs.size<=s.heap.objs.size:=Nat.le_trans I.ok.above (Nat.le_of_lt I.lt)
theorem Inv.nofs (I:Inv X pins σ H s) {a:Addr}(h:s.heap.objs.size<=a):a ∉ X.fs:=fun hb=>by
 obtain ⟨_,o,ho,_⟩:=I.ok.funs.mem hb;exact absurd (Nat.lt_of_lt_of_le (Heap.lt_size ho) (Nat.le_trans I.sz h)) (Nat.lt_irrefl _)
theorem Inv.cne (I:Inv X pins σ H s):∀ x c,X.env.cells.lookup x=some c->c≠X.env.locals:=fun x c e z=>by
 obtain ⟨v,o,ho,hd⟩:=I.cell x c e;obtain ⟨m,⟨o',es,ep,ho',hd',_⟩,_⟩:=I.loc;rw [z,ho'] at ho;cases ho;rw [hd'] at hd;cases hd
theorem Inv.funs (I:Inv X pins σ H s):s.heap.FunFrames X.base X.outer:=by
 have all:∀ (l:List Env),(∀ b∈frs l,b∈X.fs)->X.s₀.heap.FunFrames X.base l->s.heap.FunFrames X.base l:=by
  intro l
  induction l with
  | nil=>intro _ _;trivial
  | cons env r ih =>
   intro hs hl;obtain ⟨hk,⟨L,o,hf,hn,ho,hd⟩,hr⟩:=hl;have hL:L∈X.fs:=hs L (by unfold frs;rw [List.filterMap_cons,hf];exact List.mem_cons_self);obtain ⟨sl,e⟩:=I.base.slot L o ho (I.ok.frf L hL) hL fun z=>I.ok.exfs L z hL
   exact ⟨hk,⟨L,_,hf,hn,e,hd⟩,ih (fun b hb=>hs b (by unfold frs;rw [List.filterMap_cons,hf];exact List.mem_cons_of_mem _ hb)) hr⟩
 exact all X.outer (fun _ hb=>hb) I.ok.funs
theorem Inv.stack (I:Inv X pins σ H s):s.heap.FunFrames X.base X.stack:=by
 rcases I.ok.stk with e|⟨e,hf⟩
 ·rw [e];exact I.funs
 ·rw [e];obtain ⟨m,hn,_⟩:=I.loc;refine .cons (by rw [I.ok.kind];decide) hf hn ?_ I.funs;exact Heap.get?_none_of_le (Nat.le_trans I.ok.bsz I.ok.above)
theorem Inv.stkSub (I:Inv X pins σ H s):∀ b∈frs X.stack,b∈X.env.locals::X.fs:=fun b hb=>by
 rcases I.ok.stk with e|⟨e,hf⟩
 ·rw [e] at hb;exact List.mem_cons_of_mem _ hb
 ·rw [e] at hb;unfold frs at hb;rw [List.filterMap_cons,hf] at hb;exact hb
theorem Inv.stkFree (I:Inv X pins σ H s):∀ b∈frs X.stack,H b=none:=fun b hb=>by
 rcases List.mem_cons.mp (I.stkSub b hb) with e|hb
 ·rw [e];exact I.free
 ·obtain ⟨_,o,ho,_⟩:=I.ok.funs.mem hb;exact I.base.free b o ho (I.ok.frf b hb) fun z=>I.ok.exfs b z hb
theorem Inv.step {g':Array GenState}{t':Nat}{d':Drawn}{ch:List Addr}(I:Inv X pins σ H s)
  (hch:∀ b∈ch,(b∈X.ex\/X.s₀.heap.objs.size<=b)/\b≠X.env.locals/\(∀ x c,X.env.cells.lookup x=some c->c≠b)/\∀ p∈X.pn++pins,p.1≠b)
  (keep:∀ b o,b≠X.env.locals->b ∉ X.fs->b ∉ ch->s.heap.get? b=some o->H b=none->h'.get? b=some o)
  (slot:∀ b o,b≠X.env.locals->b∈X.fs->b ∉ ch->s.heap.get? b=some o->H b=none->∃ sl,h'.get? b=some { o with slots:=sl }) (free:∀ b o,b ∉ ch->s.heap.get? b=some o->H b=none->H' b=none)
  (there:∀ b o,b ∉ ch->s.heap.get? b=some o->∃ o',h'.get? b=some o')
  (tups:∀ b xs,H b=some (.tup xs)->H' b=some (.tup xs)) (frzs:∀ b o u,H b=some (.frz o u)->H' b=some (.frz o u)) (tbls:∀ b ps,H b=some (.tbl ps)->∃ more,H' b=some (.tbl (ps++more)))
  (ns:∀ m,s.heap.Ns X.env.locals m->h'.Ns X.env.locals m) (hok:HOk X.prog X.w H' h') (hg:AllBare g') :
  Inv X pins σ H' { s with heap:=h',gens:=g',drawn:=d',toks:=t' }:=by
 have neL:∀ b o,X.s₀.heap.get? b=some o->b≠X.env.locals:=fun b o e=>Nat.ne_of_lt (Nat.lt_of_lt_of_le (Heap.lt_size e) I.ok.above)
 have neC:∀ b o,X.s₀.heap.get? b=some o->b ∉ X.ex->b ∉ ch:=fun b o e hx hb=>by
  rcases (hch b hb).1 with z|z
  ·exact hx z
  ·exact absurd (Nat.lt_of_lt_of_le (Heap.lt_size e) z) (Nat.lt_irrefl _)
 have cellK:∀ x c,X.env.cells.lookup x=some c->∀ v,s.heap.IsCell c v->h'.IsCell c v:=by
  rintro x c e v ⟨o,ho,hd⟩;have nch:c ∉ ch:=fun z=>(hch c z).2.2.1 x c e rfl
  by_cases hc:c∈X.fs
  ·obtain ⟨sl,q⟩:=slot c o (I.cne x c e) hc nch ho (I.freeC x c e);exact ⟨_,q,hd⟩
  ·exact ⟨o,keep c o (I.cne x c e) hc nch ho (I.freeC x c e),hd⟩
 refine ⟨I.ok,I.os,hg,⟨fun b o e n hb hx=>?_,fun b o e n hb hx=>?_,fun b o e n hx=>?_,fun b o e hx=>?_,fun b xs e=>tups b xs (I.base.tups b xs e),fun b o xs e=>frzs b o xs (I.base.frzs b o xs e),fun b ps e=>?_⟩,?_,fun x c e=>?_,?_,fun x c e=>?_,fun p hp=>?_,hok,I.len⟩
 ·exact keep b o (neL b o e) hb (neC b o e hx) (I.base.keep b o e n hb hx) (I.base.free b o e n hx)
 ·obtain ⟨sl,e1⟩:=I.base.slot b o e n hb hx;obtain ⟨sl',e2⟩:=slot b _ (neL b o e) hb (neC b o e hx) e1 (I.base.free b o e n hx);exact ⟨sl',e2⟩
 ·obtain ⟨o',e1⟩:=I.base.there b o e hx;exact free b o' (neC b o e hx) e1 (I.base.free b o e n hx)
 ·obtain ⟨o',e1⟩:=I.base.there b o e hx;exact there b o' (neC b o e hx) e1
 ·obtain ⟨m1,e1⟩:=I.base.tbls b ps e;obtain ⟨m2,e2⟩:=tbls b _ e1;exact ⟨m1++m2,by rw [e2,Array.append_assoc]⟩
 ·obtain ⟨m,hn,hl⟩:=I.loc;refine ⟨m,ns m hn,fun i x v e1 e2 e3=>?_⟩;obtain ⟨u,r,l⟩:=hl i x v e1 e2 e3;refine ⟨u,r,?_⟩;rcases l with l|⟨k,c,e,z⟩
  ·exact .inl l
  ·exact .inr ⟨k,c,e,cellK x c e _ z⟩
 ·obtain ⟨v,z⟩:=I.cell x c e;exact ⟨v,cellK x c e v z⟩
 ·obtain ⟨m,⟨o,_,_,ho,_⟩,_⟩:=I.loc;exact free _ o (fun z=>(hch _ z).2.1 rfl) ho I.free
 ·obtain ⟨v,o,ho,hd⟩:=I.cell x c e;exact free c o (fun z=>(hch c z).2.2.1 x c e rfl) ho (I.freeC x c e)
 ·obtain ⟨e,n,ne,nf,d⟩:=I.pin p hp;have nch:p.1 ∉ ch:=fun z=>(hch p.1 z).2.2.2 p hp rfl
  exact ⟨keep p.1 p.2 ne nf nch e n,free p.1 p.2 nch e n,ne,nf,d⟩
theorem Inv.un {t':Nat}(I:Inv X pins σ H s) (u:Un X.fs [] H H' s.heap h') (hok:HOk X.prog X.w H' h'):Inv X pins σ H' { s with heap:=h',toks:=t' }:=by
 obtain ⟨m,⟨o,es,ep,ho,r⟩,_⟩:=id I.loc;obtain ⟨sl,hL⟩:=u.any ho I.free (by simp)
 exact I.step (g':=s.gens) (d':=s.drawn) (ch:=[]) (fun _ z=>nomatch z) (fun b o _ hb _ e n=>u.keep b o e n hb (by simp)) (fun b o _ hb _ e n=>u.slot b o e n hb (by simp)) (fun b o _ e n=>u.free b o e n (by simp)) (fun b o _ e=>u.there b o e (by simp)) u.tups u.frzs u.tbls (fun m' hm=>by
  obtain ⟨o',es',ep',ho',r'⟩:=hm;rw [ho] at ho';cases ho'
  exact ⟨_,es',ep',hL,r'⟩) hok I.bare
theorem Inv.call {g':Array GenState}{t':Nat}{d':Drawn}{ch:List Addr}(I:Inv X pins σ H s) (u:Un (frs X.stack) ch H H' s.heap h') (hok:HOk X.prog X.w H' h') (hg:AllBare g')
  (hch:∀ b∈ch,(b∈X.ex\/X.s₀.heap.objs.size<=b)/\b≠X.env.locals/\(∀ x c,X.env.cells.lookup x=some c->c≠b)/\∀ p∈X.pn++pins,p.1≠b) :
  Inv X pins σ H' { s with heap:=h',gens:=g',drawn:=d',toks:=t' }:=by
 obtain ⟨m,⟨o,es,ep,ho,r⟩,_⟩:=id I.loc;obtain ⟨sl,hL⟩:=u.any ho I.free fun z=>(hch _ z).2.1 rfl
 exact I.step (ch:=ch) hch (fun b o hL hb hc e n=>u.keep b o e n (fun z=>(List.mem_cons.mp (I.stkSub b z)).elim hL hb) hc) (fun b o _ _ hc e n=>u.any e n hc) (fun b o hc e n=>u.free b o e n hc) (fun b o hc e=>u.there b o e hc) u.tups u.frzs u.tbls (fun m' hm=>by
  obtain ⟨o',es',ep',ho',r'⟩:=hm;rw [ho] at ho';cases ho'
  exact ⟨_,es',ep',hL,r'⟩) hok hg
theorem Inv.turned {t':Nat}{it:Addr}(I:Inv X pins σ H s) (k:∀ b o,b≠it->s.heap.get? b=some o->h'.get? b=some o) (hn:H it=none) (hL:it≠X.env.locals)
  (h1:it∈X.ex\/X.s₀.heap.objs.size<=it) (h2:∀ x c,X.env.cells.lookup x=some c->c≠it) (h3:∀ p∈X.pn++pins,p.1≠it):Inv X pins σ H { s with heap:=h',toks:=t' }:=by
 have nit:∀ b u,H b=some u->b≠it:=fun b u e z=>by rw [z,hn] at e;cases e
 refine I.step (g':=s.gens) (d':=s.drawn) (ch:=[it]) (fun b hb=>?_) (fun b o _ _ hc e _=>k b o (fun z=>hc (by simp [z])) e) (fun b o _ _ hc e _=>⟨o.slots,k b o (fun z=>hc (by simp [z])) e⟩) (fun _ _ _ _ n=>n)
  (fun b o hc e=>⟨o,k b o (fun z=>hc (by simp [z])) e⟩) (fun _ _ e=>e) (fun _ _ _ e=>e) (fun b ps e=>⟨#[],by rw [e];simp⟩) (fun m hm=>?_) (fun b u e=>?_) I.bare
 ·have e:b=it:=by simpa using hb
  subst e;exact ⟨h1,hL,h2,h3⟩
 ·obtain ⟨o,es,ep,ho,r⟩:=hm;exact ⟨o,es,ep,k _ o (Ne.symm hL) ho,r⟩
 ·refine (I.hok b u e).stay (fun c v hc q=>k c v ?_ q) (fun _ q=>q) fun _ _ q=>q
  rcases hc with z|z
  ·rw [z];exact nit b u e
  ·exact nit c _ z
theorem Inv.tok (I:Inv X pins σ H s) (t:Nat):Inv X pins σ H { s with toks:=t }:=I.un (h':=s.heap) (t':=t) Un.refl I.hok
theorem Inv.kept {t':Nat}(I:Inv X pins σ H s) (k:∀ b u,s.heap.get? b=some u->h'.get? b=some u):Inv X pins σ H { s with heap:=h',toks:=t' }:=I.un (Un.kept k) (I.hok.kept k)
theorem Inv.laid {a:Addr}{o:HO}{t':Nat}(I:Inv X pins σ H s) (k:∀ b u,s.heap.get? b=some u->h'.get? b=some u) (hp:s.heap.objs.size<=a) (new:Dh X.prog X.w (upd H a o) h' a o) :
  Inv X pins σ (upd H a o) { s with heap:=h',toks:=t' }:=I.un (Un.laid k hp (I.hok.fresh hp)) (I.hok.laid k hp new)
theorem Inv.write {x e:Addr}{o:HO}{t':Nat}(I:Inv X pins σ H s) (mu:Mut (H x)) (he:e=x\/H e=some (.own x)) (k:∀ b u,b≠e->s.heap.get? b=some u->h'.get? b=some u) (heo:∃ u,h'.get? e=some u)
  (new:Dh X.prog X.w (upd H x o) h' x o):Inv X pins σ (upd H x o) { s with heap:=h',toks:=t' }:=I.un (Un.write mu he k heo) (I.hok.write mu he k heo new)
theorem Inv.weak {σ':List (Option V)}(I:Inv X pins σ H s) (hl:σ'.length=σ.length) (w:∀ (i:Nat) v,σ'[i]?=some (some v)->σ[i]?=some (some v)):Inv X pins σ' H s :=
 ⟨I.ok,I.os,I.bare,I.base,let ⟨m,hn,hl'⟩:=I.loc;⟨m,hn,fun i x v e1 e2 e3=>hl' i x v e1 (w i v e2) e3⟩,I.cell,I.free,I.freeC,I.pin,I.hok,hl.trans I.len⟩
theorem Inv.pins_of {pins':List (Addr×Obj)}(I:Inv X pins σ H s) (h:∀ p∈pins',s.heap.get? p.1=some p.2/\H p.1=none/\p.1≠X.env.locals/\p.1 ∉ X.fs/\∀ v,p.2.data≠.cell v):Inv X pins' σ H s :=
 ⟨I.ok,I.os,I.bare,I.base,I.loc,I.cell,I.free,I.freeC,fun p hp=>(List.mem_append.mp hp).elim (fun z=>I.pin p (List.mem_append_left _ z)) (h p),I.hok,I.len⟩
theorem Rq {N:List Str}(hN:N.Nodup) {i j:Nat}{x:Str}(a:N[i]?=some x) (b:N[j]?=some x):i=j:=by
 obtain ⟨h1,e1⟩:=List.getElem?_eq_some_iff.mp a;obtain ⟨h2,e2⟩:=List.getElem?_eq_some_iff.mp b;exact (List.getElem_inj hN).mp (e1.trans e2.symm)
theorem Yk {M:Model}{A:Around}{E:Value->Shared->Prop}{i:Nat}{x:Str}{v:V}{u:Value}{Q:Unit->Shared->Prop}(I:Inv X pins σ H s) (hN:X.N.Nodup) (hi:X.N[i]?=some x) (hx:Loc X.env.scope x) (r:RelV v u)
  (h:∀ s',Inv X pins (σ.set i (some v)) H s'->(∃ a,Heap.SameBut a s.heap s'.heap/\(a=X.env.locals\/X.env.cells.lookup x=some a))->Q () s') (hf:X.fn x=true\/X.env.scope.names.lookup x=some .local:=by first | exact .inl rfl | exact .inr rfl | assumption):wpAny M A (storeName X.env x u) Q E s:=by
 obtain ⟨m,hn,hl⟩:=id I.loc;have hcls:(X.env.scope.kind==.class || (X.env.scope.kind==.module&&X.env.locals != X.env.globals))=false:=by rw [I.ok.kind];rfl
 have hiσ:i < σ.length:=by rw [I.len];exact (List.getElem?_eq_some_iff.mp hi).1
 have cne:=I.cne;have tracked:∀ {a:Addr} {h':Heap},(∃ o,s.heap.get? a=some o/\H a=none)->Heap.SameBut a s.heap h'->HOk X.prog X.w H h':=fun {a h'} ha hs b ob e=>by
  obtain ⟨_,_,hfree⟩:=ha;refine (I.hok b ob e).stay (fun c w' hc q=>(hs.2 c ?_).trans q) (fun _ q=>q) fun _ _ q=>q
  rintro rfl;rcases hc with rfl|hc
  ·rw [hfree] at e;cases e
  ·rw [hfree] at hc;cases hc
 rcases hx with hk|hk
 ·refine wpAny_storeName_local hk hn (fun h' hn' hs=>?_) hcls;obtain ⟨oL,_,_,hoL,_⟩:=id hn;refine h _ ⟨I.ok,I.os,I.bare,⟨fun b o e n hb hx=>?_,fun b o e n hb hx=>?_,I.base.free,fun b o e hx=>?_,I.base.tups,I.base.frzs,I.base.tbls⟩,⟨_,hn',fun j y v' e1 e2 e3=>?_⟩,fun y c e=>?_,I.free,I.freeC,fun p hp=>?_,tracked ⟨oL,hoL,I.free⟩ hs,by simpa using I.len⟩ ⟨_,hs,.inl rfl⟩
  ·exact (hs.2 b (Nat.ne_of_lt (Nat.lt_of_lt_of_le (Heap.lt_size e) I.ok.above))).trans (I.base.keep b o e n hb hx)
  ·obtain ⟨sl,e1⟩:=I.base.slot b o e n hb hx;exact ⟨sl,(hs.2 b (Nat.ne_of_lt (Nat.lt_of_lt_of_le (Heap.lt_size e) I.ok.above))).trans e1⟩
  ·obtain ⟨o',e1⟩:=I.base.there b o e hx;exact ⟨o',(hs.2 b (Nat.ne_of_lt (Nat.lt_of_lt_of_le (Heap.lt_size e) I.ok.above))).trans e1⟩
  ·by_cases hj:j=i
   ·subst hj;rw [hi] at e1;cases e1;rw [List.getElem?_set_self hiσ] at e2;cases e2;exact ⟨u,r,.inl ⟨hk,by simp⟩⟩
   ·rw [List.getElem?_set_ne (Ne.symm hj)] at e2;obtain ⟨u',r',q⟩:=hl j y v' e1 e2 e3;refine ⟨u',r',?_⟩;rcases q with ⟨k,e⟩|⟨k,c,e,z⟩
    ·refine .inl ⟨k,?_⟩;have:y≠x:=fun e=>hj (Rq hN e1 (e ▸ hi))
     simp [this,e]
    ·exact .inr ⟨k,c,e,z.sameBut hs (cne y c e)⟩
  ·obtain ⟨w',z⟩:=I.cell y c e;exact ⟨w',z.sameBut hs (cne y c e)⟩
  ·obtain ⟨e,n,ne,nf,d⟩:=I.pin p hp;exact ⟨(hs.2 p.1 ne).trans e,n,ne,nf,d⟩
 ·have hfn:X.fn x=true:=by
   rcases hf with z|z
   ·exact z
   ·rw [z] at hk;cases hk
  obtain ⟨c,hc⟩:=I.ok.has x (.inl hk);obtain ⟨w',z⟩:=I.cell x c hc;refine wpAny_storeName_cell I.ok.kind hk hc z (fun h' hc' hs=>?_);obtain ⟨oc,hoc,hocd⟩:=id z;refine h { s with heap:=h' } ⟨I.ok,I.os,I.bare,⟨fun b o e n hb hx=>?_,fun b o e n hb hx=>?_,I.base.free,fun b o e hx=>?_,I.base.tups,I.base.frzs,I.base.tbls⟩,⟨m,hn.sameBut hs (Ne.symm (cne x c hc)),fun j y v' e1 e2 e3=>?_⟩,fun y c' e=>?_,I.free,I.freeC,fun p hp=>?_,tracked ⟨oc,hoc,I.freeC x c hc⟩ hs,by simpa using I.len⟩ ⟨c,hs,.inr hc⟩
  ·exact (hs.2 b (Nat.ne_of_lt (Nat.lt_of_lt_of_le (Heap.lt_size e) (I.ok.cab x c hfn hc)))).trans (I.base.keep b o e n hb hx)
  ·obtain ⟨sl,e1⟩:=I.base.slot b o e n hb hx;exact ⟨sl,(hs.2 b (Nat.ne_of_lt (Nat.lt_of_lt_of_le (Heap.lt_size e) (I.ok.cab x c hfn hc)))).trans e1⟩
  ·obtain ⟨o',e1⟩:=I.base.there b o e hx;exact ⟨o',(hs.2 b (Nat.ne_of_lt (Nat.lt_of_lt_of_le (Heap.lt_size e) (I.ok.cab x c hfn hc)))).trans e1⟩
  ·by_cases hj:j=i
   ·subst hj;rw [hi] at e1;cases e1;rw [List.getElem?_set_self hiσ] at e2;cases e2;exact ⟨u,r,.inr ⟨.inl hk,c,hc,hc'⟩⟩
   ·rw [List.getElem?_set_ne (Ne.symm hj)] at e2;obtain ⟨u',r',q⟩:=hl j y v' e1 e2 e3;refine ⟨u',r',?_⟩;rcases q with q|⟨k,c',e,z'⟩
    ·exact .inl q
    ·refine .inr ⟨k,c',e,z'.sameBut hs ?_⟩;rintro rfl;exact hj (Rq hN e1 (I.ok.inj _ _ _ e hc ▸ hi))
  ·by_cases hcc:c'=c
   ·subst hcc;exact ⟨_,hc'⟩
   ·obtain ⟨w2,z2⟩:=I.cell y c' e;exact ⟨w2,z2.sameBut hs hcc⟩
  ·obtain ⟨e,n,ne,nf,d⟩:=I.pin p hp;refine ⟨(hs.2 p.1 ?_).trans e,n,ne,nf,d⟩;intro q;rw [q,hoc] at e;have q':oc=p.2:=Option.some.inj e;exact d w' (by rw [← q'];exact hocd)
theorem Lf {M:Model}{A:Around}{E:Value->Shared->Prop}{i:Nat}{x:Str}{v:V}{u:Value}{Q:Unit->Shared->Prop}(I:Inv X pins σ H s) (hN:X.N.Nodup) (hi:X.N[i]?=some x) (hx:Loc X.env.scope x) (r:RelV v u)
  (h:∀ s',Inv X pins (σ.set i (some v)) H s'->Q () s') (hf:X.fn x=true\/X.env.scope.names.lookup x=some .local:=by first | exact .inl rfl | exact .inr rfl | assumption):wpAny M A (storeName X.env x u) Q E s :=
 Yk I hN hi hx r (fun s' I' _=>h s' I') hf
theorem Inv.call' {s':Shared}{ch:List Addr}(I:Inv X pins σ H s) (ho:s'.os=s.os) (u:Un (frs X.stack) ch H H' s.heap s'.heap) (hok:HOk X.prog X.w H' s'.heap) (hg:AllBare s'.gens)
  (hch:∀ b∈ch,(b∈X.ex\/X.s₀.heap.objs.size<=b)/\b≠X.env.locals/\(∀ x c,X.env.cells.lookup x=some c->c≠b)/\∀ p∈X.pn++pins,p.1≠b):Inv X pins σ H' s':=by
 obtain ⟨h',g',d',t',o'⟩:=s';have e:o'=s.os:=ho;subst e;exact I.call (g':=g') (t':=t') (d':=d') u hok hg hch
end
noncomputable abbrev XK:=Value->Option Addr->Hp->Prop
noncomputable abbrev St:=List (Option V)
noncomputable abbrev VK:=V->Hp->Prop
noncomputable abbrev TE:=St->Hp->VK->Prop
noncomputable abbrev TT:=St->Hp->(Bool->Hp->Prop)->Prop
noncomputable abbrev TA:=St->Hp->(List V->Hp->Prop)->Prop
structure Ends where
 nx:St->Hp->Prop
 rt:VK
 bk:St->Hp->Prop:=fun _ _=>False
 ct:St->Hp->Prop:=fun _ _=>False
noncomputable abbrev TS:=Ends->St->Hp->Prop
noncomputable def EP (X:Cx) (pins:List (Addr×Obj)) (σ:St) (Q:VK) (u:Value) (s':Shared):Prop:=∃ v H',Inv X pins σ H' s'/\RelV v u/\Q v H'
noncomputable def TP (X:Cx) (pins:List (Addr×Obj)) (σ:St) (Q:Bool->Hp->Prop) (b:Bool) (s':Shared):Prop:=∃ H',Inv X pins σ H' s'/\Q b H'
noncomputable def AP (X:Cx) (pins:List (Addr×Obj)) (σ:St) (Q:List V->Hp->Prop) (us:List Value) (s':Shared):Prop:=∃ vs H',Inv X pins σ H' s'/\Vals vs us/\Q vs H'
noncomputable def SP (X:Cx) (pins:List (Addr×Obj)) (D:Ends) (f:Flow) (s':Shared):Prop :=
 match f with
 | .next=>∃ σ' H',Inv X pins σ' H' s'/\D.nx σ' H'
 | .brk=>∃ σ' H',Inv X pins σ' H' s'/\D.bk σ' H'
 | .cont=>∃ σ' H',Inv X pins σ' H' s'/\D.ct σ' H'
 | .ret u=>∃ v σ' H',Inv X pins σ' H' s'/\RelV v u/\D.rt v H'
noncomputable def PE (X:Cx) (e:Expr) (t:TE):Prop :=
 ∀ (pins:List (Addr×Obj)) (s:Shared) (σ:St) (H:Hp) (Q:VK),Inv X pins σ H s->t σ H Q->wpAny (model X.prog X.w) X.A (eval e X.env) (EP X pins σ Q) X.xe s
noncomputable def PT (X:Cx) (e:Expr) (t:TT):Prop :=
 ∀ (pins:List (Addr×Obj)) (s:Shared) (σ:St) (H:Hp) (Q:Bool->Hp->Prop),Inv X pins σ H s->t σ H Q->wpAny (model X.prog X.w) X.A (isTrue e X.env (eval e X.env)) (TP X pins σ Q) X.xe s
noncomputable def PW (X:Cx) (e:Expr) (t:TT):Prop :=
 ∀ (whole:Sem Value) (pins:List (Addr×Obj)) (s:Shared) (σ:St) (H:Hp) (Q:Bool->Hp->Prop),Inv X pins σ H s->t σ H Q->wpAny (model X.prog X.w) X.A (isTrue e X.env whole) (TP X pins σ Q) X.xe s
theorem PW.pt {X:Cx}{e:Expr}{t:TT}(h:PW X e t):PT X e t:=h _
noncomputable def PA (X:Cx) (es:List Expr) (t:TA):Prop :=
 ∀ (pos:Pos) (pins:List (Addr×Obj)) (s:Shared) (σ:St) (H:Hp) (Q:List V->Hp->Prop),Inv X pins σ H s->t σ H Q->wpAny (model X.prog X.w) X.A (spliced (backTo pos (starEach es X.env))) (AP X pins σ Q) X.xe s
noncomputable def PS (X:Cx) (st:Stmt) (t:TS):Prop :=
 ∀ (pins:List (Addr×Obj)) (s:Shared) (σ:St) (H:Hp) (D:Ends),Inv X pins σ H s->t D σ H->wpAny (model X.prog X.w) X.A (exec st X.env) (SP X pins D) X.xe s
noncomputable def PSs (X:Cx) (st:List Stmt) (t:TS):Prop :=
 ∀ (pins:List (Addr×Obj)) (s:Shared) (σ:St) (H:Hp) (D:Ends),Inv X pins σ H s->t D σ H->wpAny (model X.prog X.w) X.A (execs st X.env) (SP X pins D) X.xe s
theorem thn {α:Type}{t:Sem α}{Q Q':α->Shared->Prop}{M:Model}{A:Around}{E:Value->Shared->Prop}{s:Shared}(h:wpAny M A t Q E s) (hQ:∀ a s,Q a s->Q' a s):wpAny M A t Q' E s:=wpAny_mono h hQ fun _ _ x=>x
section
variable {X:Cx}
noncomputable def Abz (i:Nat):TE:=fun σ H Q=>∃ v,σ[i]?=some (some v)/\Q v H
noncomputable def tC (v:V):TE:=fun _ H Q=>Q v H
theorem Ux {i:Nat}{x:Str}{pos:Pos}(hN:X.N[i]?=some x) (hv:Vis X.env.scope x) (hd:(x==("__debug__":Str))=false:=by decide) (hcd:(x==("__classdict__":Str))=false:=by decide):PE X (.Name x pos) (Abz i):=by
 intro pins s σ H Q I h;obtain ⟨v,e,h⟩:=h;obtain ⟨m,hn,hl⟩:=I.loc;obtain ⟨u,r,l⟩:=hl i x v hN e hv;have fin:EP X pins σ Q u s:=⟨v,H,I,r,h⟩;rcases l with ⟨hk,hm⟩|⟨hk,c,hc,hcell⟩
 ·exact wpAny_Name (wpAny_loadName_local I.ok.kind hk hn hm fin) hd
 ·rcases hk with hk|hk
  ·exact wpAny_Name (wpAny_loadName_cell I.ok.kind hk hc hcell fin) hd
  ·exact wpAny_Name (wpAny_loadName_free I.ok.kind hk hc hcell fin hcd) hd
theorem rN {i j pos}:PE X (.Constant (.int i) j pos) (tC (.int i)):=fun _ _ _ H _ I h=>wpAny_Constant_int ⟨.int i,H,I.tok _,⟨_,rfl⟩,h⟩
theorem zG {b j pos}:PE X (.Constant (.bool b) j pos) (tC (.bl b)):=fun _ _ _ H _ I h=>Constant_bool ⟨.bl b,H,I,rfl,h⟩
theorem rO {j pos}:PE X (.Constant .none j pos) (tC .non):=fun _ _ _ H _ I h=>Constant_none ⟨.non,H,I,rfl,h⟩
theorem rP {x j pos}:PE X (.Constant (.str x) j pos) (tC (.str x)):=fun _ _ _ H _ I h=>Calls.Constant_str ⟨.str x,H,I.tok _,⟨_,rfl⟩,h⟩
noncomputable def Gl (X:Cx) (x:Str):Prop:=X.env.kindOf x=some .globalImplicit
theorem K4 {E:Value->Shared->Prop}{pins:List (Addr×Obj)}{s:Shared}{σ:St}{H:Hp}{x:Str}{u:Value}{pos:Pos}{Q:Value->Shared->Prop}(I:Inv X pins σ H s) (hg:Gl X x) (hm:X.mg x=some u) (h:Q u s)
  (hd:(x==("__debug__":Str))=false:=by decide):wpAny (model X.prog X.w) X.A (eval (.Name x pos) X.env) Q E s :=
 Calls.Name_function_global I.ok.kind hg (Calls.loadGlobal_global (by rw [I.ok.glob];exact I.mod.glob.keeps I.bk) hm h) hd
theorem Hu {E:Value->Shared->Prop}{pins:List (Addr×Obj)}{s:Shared}{σ:St}{H:Hp}{x:Str}{u:Value}{pos:Pos}{Q:Value->Shared->Prop}(I:Inv X pins σ H s) (hg:Gl X x) (hm:X.mg x=none) (hv:bootBuiltins x=some u) (h:Q u s)
  (hn:x ≠ "__name__":=by decide) (hd:(x==("__debug__":Str))=false:=by decide):wpAny (model X.prog X.w) X.A (eval (.Name x pos) X.env) Q E s:=by
 obtain ⟨mb,h1,h2⟩:=I.mod.blt;exact Calls.Name_function_global I.ok.kind hg (Calls.loadGlobal_builtin (by rw [I.ok.glob];exact I.mod.glob.keeps I.bk) hm (by rw [I.ok.blt];exact h1.keeps I.bk) ((h2 x hn).trans hv) h) hd
theorem Fo {x:Str}{v:V}{u:Value}{pos:Pos}(hg:Gl X x) (hm:X.mg x=some u) (r:RelV v u) (hd:(x==("__debug__":Str))=false:=by decide):PE X (.Name x pos) (tC v) :=
 fun _ _ _ H _ I h=>K4 I hg hm ⟨v,H,I,r,h⟩ hd
theorem lA {x:Str}{v:V}{u:Value}{pos:Pos}(hg:Gl X x) (hm:X.mg x=none) (hv:bootBuiltins x=some u) (r:RelV v u) (hn:x ≠ "__name__":=by decide) (hd:(x==("__debug__":Str))=false:=by decide):PE X (.Name x pos) (tC v) :=
 fun _ _ _ H _ I h=>Hu I hg hm hv ⟨v,H,I,r,h⟩ hn hd
variable {a b:Expr}{ta tb:TE}{pos:Pos}
theorem RelV.none_iff {x:V}{v:Value}(r:RelV x v):(v==Value.none)=decide (x=.non):=by
 cases x with
 | non=>cases r;rfl
 | bl _=>cases r;rfl
 | int _=>obtain ⟨t,rfl⟩:=r;rfl
 | str _=>obtain ⟨t,rfl⟩:=r;rfl
 | byt _=>obtain ⟨t,rfl⟩:=r;rfl
 | flt _=>obtain ⟨t,rfl⟩:=r;rfl
 | ref _=>cases r;rfl
 | ty _=>cases r;rfl
variable {tA tB':TT}{rest:List Expr}
noncomputable def Ab0 (t u:TT):TT:=fun σ H Q=>t σ H fun c H1=>if c=true then u σ H1 Q else Q false H1
noncomputable def tOr (t u:TT):TT:=fun σ H Q=>t σ H fun c H1=>if c=true then Q true H1 else u σ H1 Q
noncomputable def Ab1 (t:TT):TT:=fun σ H Q=>t σ H fun c H1=>Q (!c) H1
theorem lB (ha:PT X a tA):PW X (.BoolOp .And [a] pos) tA:=by
 intro wh pins s σ H Q I h;refine isTrue_and (thn (ha pins s σ H Q I h) fun c s1 e=>?_);cases c with
 | true=>exact isTrue_and_nil e
 | false=>exact e
theorem rQ (ha:PT X a tA):PW X (.BoolOp .Or [a] pos) tA:=by
 intro wh pins s σ H Q I h;refine isTrue_or (thn (ha pins s σ H Q I h) fun c s1 e=>?_);cases c with
 | false=>exact isTrue_or_nil e
 | true=>exact e
theorem rR (ha:PT X a tA) (hb:PW X (.BoolOp .And (b::rest) pos) tB'):PW X (.BoolOp .And (a::b::rest) pos) (Ab0 tA tB'):=by
 intro wh pins s σ H Q I h;refine isTrue_and (thn (ha pins s σ H _ I h) ?_);rintro c s1 ⟨H1,I1,q1⟩;cases c with
 | true=>exact hb wh pins s1 σ H1 Q I1 q1
 | false=>exact ⟨H1,I1,q1⟩
theorem zH (ha:PT X a tA) (hb:PW X (.BoolOp .Or (b::rest) pos) tB'):PW X (.BoolOp .Or (a::b::rest) pos) (tOr tA tB'):=by
 intro wh pins s σ H Q I h;refine isTrue_or (thn (ha pins s σ H _ I h) ?_);rintro c s1 ⟨H1,I1,q1⟩;cases c with
 | true=>exact ⟨H1,I1,q1⟩
 | false=>exact hb wh pins s1 σ H1 Q I1 q1
theorem rT (ha:PT X a tA):PT X (.UnaryOp .Not a pos) (Ab1 tA):=by
 intro pins s σ H Q I h;exact isTrue_not (ha pins s σ H (fun c H1=>Q (!c) H1) I h)
noncomputable def zJ (ta tb:TE):TE:=fun σ H Q=>ta σ H fun x H1=>∃ c,x=.bl c/\if c=true then tb σ H1 Q else Q (.bl false) H1
noncomputable def Ab2 (ta tb:TE):TE:=fun σ H Q=>ta σ H fun x H1=>∃ c,x=.bl c/\if c=true then Q (.bl true) H1 else tb σ H1 Q
noncomputable def zK (ta:TE):TE:=fun σ H Q=>ta σ H fun x H1=>∃ c,x=.bl c/\Q (.bl (!c)) H1
theorem rW {op}{t:TE}(h:PE X a t):PE X (.BoolOp op [a] pos) t:=fun pins s σ H Q I hw=>BoolOp_one (h pins s σ H Q I hw)
theorem rY (ha:PE X a ta) (hb:PE X (.BoolOp .And (b::rest) pos) tb):PE X (.BoolOp .And (a::b::rest) pos) (zJ ta tb):=by
 intro pins s σ H Q I h;refine BoolOp_and (thn (ha pins s σ H _ I h) ?_);rintro v s1 ⟨x,H1,I1,r1,q1⟩;obtain ⟨c,rfl,q1⟩:=q1;cases r1;refine wpAny_truthy_bool ?_;cases c with
 | true=>exact hb pins s1 σ H1 Q I1 q1
 | false=>exact ⟨.bl false,H1,I1,rfl,q1⟩
theorem zL (ha:PE X a ta) (hb:PE X (.BoolOp .Or (b::rest) pos) tb):PE X (.BoolOp .Or (a::b::rest) pos) (Ab2 ta tb):=by
 intro pins s σ H Q I h;refine BoolOp_or (thn (ha pins s σ H _ I h) ?_);rintro v s1 ⟨x,H1,I1,r1,q1⟩;obtain ⟨c,rfl,q1⟩:=q1;cases r1;refine wpAny_truthy_bool ?_;cases c with
 | false=>exact hb pins s1 σ H1 Q I1 q1
 | true=>exact ⟨.bl true,H1,I1,rfl,q1⟩
theorem rZ (ha:PE X a ta):PE X (.UnaryOp .Not a pos) (zK ta):=by
 intro pins s σ H Q I h;refine UnaryOp_ (thn (ha pins s σ H _ I h) ?_);rintro v s1 ⟨x,H1,I1,r1,q1⟩;obtain ⟨c,rfl,q1⟩:=q1;cases r1;exact not_of (wpAny_truthy_bool ⟨.bl (!c),H1,I1,rfl,q1⟩)
noncomputable def tIf (t:TT) (ta tb:TE):TE:=fun σ H Q=>t σ H fun c H1=>if c=true then ta σ H1 Q else tb σ H1 Q
theorem aO {c:Expr}(hc:PT X c tA) (ha:PE X a ta) (hb:PE X b tb):PE X (.IfExp c a b pos) (tIf tA ta tb):=by
 intro pins s σ H Q I h;refine wpAny_IfExp (thn (hc pins s σ H _ I h) ?_);rintro d s1 ⟨H1,I1,q1⟩;cases d with
 | true=>exact ha pins s1 σ H1 Q I1 q1
 | false=>exact hb pins s1 σ H1 Q I1 q1
end
noncomputable def SqL (K:PySem.W.Frag) (H:Hp) (a:Addr) (xs:List V):Prop :=
 Rd H a (.lst xs) \/
  ∃ (o:Obj) (its:Array Value) (n:Nat),K.lookup a=some o/\o.cls=.type "list"/\o.dict=none/\o.data=.seq its n/\its.size<=sizeLine/\Vals xs its.toList
noncomputable def SqT (K:PySem.W.Frag) (H:Hp) (a:Addr) (xs:List V):Prop :=
 Rd H a (.tup xs) \/
  ∃ (o:Obj) (its:Array Value) (n:Nat),K.lookup a=some o/\o.cls=.type "tuple"/\o.dict=none/\o.data=.seq its n/\its.size<=sizeLine/\Vals xs its.toList
noncomputable def Ab3:Value->Option V
 | .none=>some .non
 | .bool b=>some (.bl b)
 | .int i _=>some (.int i)
 | .str x _=>some (.str x)
 | .bytes b _=>some (.byt b)
 | .float b _=>some (.flt b)
 | .ref a=>some (.ref a)
 | .type n=>some (.ty n)
 | _=>none
theorem RelV.abs {x:V}{u:Value}(r:RelV x u):Ab3 u=some x:=by
 cases x with
 | non=>cases r;rfl
 | bl _=>cases r;rfl
 | int _=>obtain ⟨t,rfl⟩:=r;rfl
 | str _=>obtain ⟨t,rfl⟩:=r;rfl
 | byt _=>obtain ⟨t,rfl⟩:=r;rfl
 | flt _=>obtain ⟨t,rfl⟩:=r;rfl
 | ref _=>cases r;rfl
 | ty _=>cases r;rfl
theorem RelV.inj {x y:V}{u:Value}(r:RelV x u) (q:RelV y u):x=y:=Option.some.inj (r.abs.symm.trans q.abs)
theorem Vals.inj {xs ys:List V}{us:List Value}(a:Vals xs us) (b:Vals ys us):xs=ys:=by
 induction a generalizing ys with
 | nil=>cases b;rfl
 | cons r t ih =>
  cases b with
  | cons r' t'=>rw [r.inj r',ih t']
section
variable {X:Cx}{pins:List (Addr×Obj)}{σ:St}{H:Hp}{s:Shared}{a:Addr}{xs ys:List V}
theorem Inv.list (I:Inv X pins σ H s) (h:SqL X.K H a xs):∃ its:List Value,Vals xs its/\PlainL s.heap a its.toArray/\xs.length<=sizeLine:=by
 rcases h with h|⟨o,its,n,hk,hc,hd,hs,hz,r⟩
 ·obtain ⟨z,its,n,r,e⟩:=h.ok I.hok;exact ⟨its,r,⟨_,n,e,rfl,rfl,rfl⟩,z⟩
 ·refine ⟨its.toList,r,⟨o,n,I.kIn a o hk,hc,hd,by simpa using hs⟩,?_⟩;have e:=r.length;simp only [Array.length_toList] at e;omega
theorem Inv.tuple (I:Inv X pins σ H s) (h:SqT X.K H a xs):∃ its:List Value,Vals xs its/\IsTup s.heap a its.toArray/\xs.length<=sizeLine:=by
 rcases h with h|⟨o,its,n,hk,hc,hd,hs,hz,r⟩
 ·obtain ⟨z,its,r,p⟩:=h.ok I.hok;exact ⟨its,r,p.to,z⟩
 ·refine ⟨its.toList,r,⟨o,I.kIn a o hk,hc,n,by simpa using hs⟩,?_⟩;have e:=r.length;simp only [Array.length_toList] at e;omega
theorem Inv.tupleP (I:Inv X pins σ H s) (h:SqT X.K H a xs):∃ its:List Value,Vals xs its/\Le s.heap a its.toArray/\xs.length<=sizeLine:=by
 rcases h with h|⟨o,its,n,hk,hc,hd,hs,hz,r⟩
 ·obtain ⟨z,its,r,p⟩:=h.ok I.hok;exact ⟨its,r,p,z⟩
 ·refine ⟨its.toList,r,⟨o,I.kIn a o hk,hc,hd,n,by simpa using hs⟩,?_⟩;have e:=r.length;simp only [Array.length_toList] at e;omega
theorem Inv.list_inj (I:Inv X pins σ H s) (h:SqL X.K H a xs) (h':SqL X.K H a ys):xs=ys:=by
 obtain ⟨its,r,⟨o,n,e,_,_,d⟩,_⟩:=I.list h;obtain ⟨its',r',⟨o',n',e',_,_,d'⟩,_⟩:=I.list h';rw [e] at e';cases e';rw [d] at d';injection d' with d1 _
 have:its=its':=by simpa using congrArg Array.toList d1
 subst this;exact r.inj r'
theorem Inv.tuple_inj (I:Inv X pins σ H s) (h:SqT X.K H a xs) (h':SqT X.K H a ys):xs=ys:=by
 obtain ⟨its,r,⟨o,e,_,n,d⟩,_⟩:=I.tuple h;obtain ⟨its',r',⟨o',e',_,n',d'⟩,_⟩:=I.tuple h';rw [e] at e';cases e';rw [d] at d';injection d' with d1 _
 have:its=its':=by simpa using congrArg Array.toList d1
 subst this;exact r.inj r'
end
noncomputable abbrev Cx.wish (X:Cx) (E:Value->Shared->Prop):Cx:={ X with xe:=E }
noncomputable abbrev Cx.nox (X:Cx):Cx:=X.wish fun _ _=>False
theorem Cx.Ok.wish {X:Cx}(ok:X.Ok) (E:Value->Shared->Prop):(X.wish E).Ok :=
 ⟨ok.mod,ok.kind,ok.glob,ok.blt,ok.above,ok.inj,ok.has,ok.cab,ok.hd,ok.frames,ok.stk,ok.exf,ok.bs,ok.bsz,ok.noex,ok.exfs,ok.funs,ok.frf⟩
theorem Cx.Ok.unwish {X:Cx}{E:Value->Shared->Prop}(ok:(X.wish E).Ok):X.Ok :=
 ⟨ok.mod,ok.kind,ok.glob,ok.blt,ok.above,ok.inj,ok.has,ok.cab,ok.hd,ok.frames,ok.stk,ok.exf,ok.bs,ok.bsz,ok.noex,ok.exfs,ok.funs,ok.frf⟩
section
variable {X:Cx}{pins:List (Addr×Obj)}{σ:St}{H:Hp}{s:Shared}{E:Value->Shared->Prop}
theorem Inv.wish (I:Inv X pins σ H s) (E:Value->Shared->Prop):Inv (X.wish E) pins σ H s:=⟨I.ok.wish E,I.os,I.bare,I.base,I.loc,I.cell,I.free,I.freeC,I.pin,I.hok,I.len⟩
theorem Inv.unwish (I:Inv (X.wish E) pins σ H s):Inv X pins σ H s:=⟨I.ok.unwish,I.os,I.bare,I.base,I.loc,I.cell,I.free,I.freeC,I.pin,I.hok,I.len⟩
theorem SP.unwish {D:Ends}{f:Flow}{s':Shared}(h:SP (X.wish E) pins D f s'):SP X pins D f s':=by
 cases f with
 | next=>obtain ⟨σ',H',I,q⟩:=h;exact ⟨σ',H',I.unwish,q⟩
 | brk=>obtain ⟨σ',H',I,q⟩:=h;exact ⟨σ',H',I.unwish,q⟩
 | cont=>obtain ⟨σ',H',I,q⟩:=h;exact ⟨σ',H',I.unwish,q⟩
 | ret u=>obtain ⟨v,σ',H',I,r,q⟩:=h;exact ⟨v,σ',H',I.unwish,r,q⟩
theorem PSs.nox {st:List Stmt}{t:TS}(h:PSs X.nox st t):PSs X st t:=fun pins s σ H D I hw =>
 wpAny_mono (h pins s σ H D (I.wish _) hw) (fun _ _ q=>q.unwish) fun _ _ z=>False.elim z
end
section
variable {X:Cx}{st:Stmt}{rest:List Stmt}{t u:TS}{e:Expr}{te:TE}{pos:Pos}
noncomputable def qM:TS:=fun D σ H=>D.nx σ H
noncomputable def Ab4 (t u:TS):TS:=fun D σ H=>t { D with nx:=u D } σ H
theorem lC:PSs X [] qM:=fun _ _ σ H _ I h=>wpAny_execs_nil ⟨σ,H,I,h⟩
theorem aP (h1:PS X st t) (h2:PSs X rest u):PSs X (st::rest) (Ab4 t u):=by
 intro pins s σ H D I h;refine wpAny_execs_cons (thn (h1 pins s σ H { D with nx:=u D } I h) fun f s1 q=>?_);cases f with
 | next =>
  obtain ⟨σ',H',I',q⟩:=q;exact h2 pins s1 σ' H' D I' q
 | ret v=>exact q
 | brk=>exact q
 | cont=>exact q
theorem lE (h1:PS X st t):PSs X [st] t:=by
 intro pins s σ H D I h;refine wpAny_execs_cons (thn (h1 pins s σ H D I h) fun f s1 q=>?_);cases f with
 | next=>exact wpAny_execs_nil q
 | ret v=>exact q
 | brk=>exact q
 | cont=>exact q
noncomputable def sE:TS:=fun D σ H=>D.bk σ H
noncomputable def zM:TS:=fun D σ H=>D.ct σ H
theorem lF:PS X (.Pass pos) qM:=fun _ _ σ H _ I h=>wpAny_Pass ⟨σ,H,I,h⟩
theorem aQ:PS X (.Break pos) sE:=fun _ _ σ H _ I h=>wpAny_Break ⟨σ,H,I,h⟩
theorem Rr:PS X (.Continue pos) zM:=fun _ _ σ H _ I h=>wpAny_Continue ⟨σ,H,I,h⟩
theorem Inv.quiet {pins:List (Addr×Obj)}{σ:St}{H:Hp}{s:Shared}(I:Inv X pins σ H s):interactive X.env=false:=by simp [interactive,I.ok.kind]
noncomputable def zN (te:TE):TS:=fun D σ H=>te σ H fun _ H1=>D.nx σ H1
theorem lG (he:PE X e te) (hs:swapsWith e none pos.line X.env=pure false:=by rfl):PS X (.Expr e pos) (zN te):=by
 intro pins s σ H D I h;exact wpAny_Expr_any (thn (he pins s σ H _ I h) fun v s1 ⟨x,H1,I1,r1,q1⟩=>⟨σ,H1,I1,q1⟩) I.quiet hs
noncomputable def Ab5 (te:TE):TS:=fun D σ H=>te σ H D.rt
theorem sG (he:PE X e te):PS X (.Return (some e) pos) (Ab5 te):=by
 intro pins s σ H D I h;refine wpAny_Return_some (thn (he pins s σ H _ I h) ?_);rintro v s1 ⟨x,H1,I1,r1,q1⟩;exact ⟨x,σ,H1,I1,r1,q1⟩
noncomputable def zO:TS:=fun D _ H=>D.rt .non H
theorem lH:PS X (.Return none pos) zO:=fun _ _ σ H _ I h=>wpAny_Return_none ⟨.non,σ,H,I,rfl,h⟩
noncomputable def Ab6 (c:TT) (t u:TS):TS:=fun D σ H=>c σ H fun b H1=>if b=true then t D σ H1 else u D σ H1
theorem zP {c:Expr}{a b:List Stmt}{tc:TT}(hc:PT X c tc) (ha:PSs X a t) (hb:PSs X b u):PS X (.If c a b pos) (Ab6 tc t u):=by
 intro pins s σ H D I h;refine wpAny_If (thn (hc pins s σ H _ I h) ?_);rintro d s1 ⟨H1,I1,q1⟩;cases d with
 | true=>exact ha pins s1 σ H1 D I1 q1
 | false=>exact hb pins s1 σ H1 D I1 q1
end
noncomputable abbrev TG:=V->St->Hp->(St->Hp->Prop)->Prop
noncomputable abbrev TGs:=List V->St->Hp->(St->Hp->Prop)->Prop
noncomputable def PG (X:Cx) (target:Expr) (t:TG):Prop :=
 ∀ (pins:List (Addr×Obj)) (s:Shared) (σ:St) (H:Hp) (v:V) (u:Value) (Q:St->Hp->Prop),Inv X pins σ H s->RelV v u->t v σ H Q ->
  wpAny (model X.prog X.w) X.A (assign target X.env u) (fun _ s'=>∃ σ' H',Inv X pins σ' H' s'/\Q σ' H') X.xe s
noncomputable def PGs (X:Cx) (ts:List Expr) (t:TGs):Prop :=
 ∀ (pins:List (Addr×Obj)) (s:Shared) (σ:St) (H:Hp) (vs:List V) (us:List Value) (Q:St->Hp->Prop),Inv X pins σ H s->Vals vs us->t vs σ H Q ->
  wpAny (model X.prog X.w) X.A (assignInOrder ((assignEach ts X.env).map (·.2)) us) (fun _ s'=>∃ σ' H',Inv X pins σ' H' s'/\Q σ' H') X.xe s
noncomputable abbrev sH:=V->V->V->Hp->(Hp->Prop)->Prop
noncomputable def zQ (X:Cx) (t:sH):Prop :=
 ∀ (pins:List (Addr×Obj)) (s:Shared) (σ:St) (H:Hp) (o i v:V) (ov iv u:Value) (Q:Hp->Prop),Inv X pins σ H s->RelV o ov->RelV i iv->RelV v u->t o i v H Q ->
  wpAny (model X.prog X.w) X.A (setItem ov iv u) (fun _ s'=>∃ H',Inv X pins σ H' s'/\Q H') X.xe s
section
variable {X:Cx}{pos:Pos}
noncomputable def aR (i:Nat):TG:=fun v σ H Q=>Q (σ.set i (some v)) H
theorem Wz {i:Nat}{x:Str}(hN:X.N.Nodup) (hi:X.N[i]?=some x) (hx:Loc X.env.scope x) (hf:X.fn x=true\/X.env.scope.names.lookup x=some .local:=by first | exact .inl rfl | exact .inr rfl | assumption):PG X (.Name x pos) (aR i):=by
 intro pins s σ H v u Q I r h;exact wpAny_assign_Name (Lf I hN hi hx r (fun s' I'=>⟨_,H,I',h⟩) hf)
noncomputable def zR:TGs:=fun vs σ H Q=>vs=[]/\Q σ H
noncomputable def qN (t:TG) (u:TGs):TGs:=fun vs σ H Q=>∃ v r,vs=v::r/\t v σ H fun σ' H'=>u r σ' H' Q
theorem lJ:PGs X [] zR:=by
 intro pins s σ H vs us Q I r h;obtain ⟨e,h⟩:=h;subst e;cases r;exact assignInOrder_nil ⟨σ,H,I,h⟩
theorem aU {e:Expr}{es:List Expr}{t:TG}{u:TGs}(h1:PG X e t) (h2:PGs X es u)
  (hs:(assignEach (e::es) X.env).map (·.2)=assign e X.env::(assignEach es X.env).map (·.2):=by rfl):PGs X (e::es) (qN t u):=by
 intro pins s σ H vs us Q I r h;obtain ⟨v,vr,e1,h⟩:=h;subst e1;cases r with
 | cons r rr =>
  rw [hs];refine assignInOrder_cons (thn (h1 pins s σ H _ _ _ I r h) ?_);rintro _ s1 ⟨σ1,H1,I1,q1⟩;exact h2 pins s1 σ1 H1 _ _ Q I1 rr q1
noncomputable def Ab7 (K:PySem.W.Frag) (n:Nat) (t:TGs):TG:=fun v σ H Q=>∃ a xs,v=.ref a/\SqT K H a xs/\xs.length=n/\t xs σ H Q
theorem sI {es:List Expr}{k:Nat}{t:TGs}{n:Nat}(hc:X.calm=true) (h:PGs X es t)
  (hn:(assignEach es X.env).length=n:=by rfl) (hst:(assignEach es X.env).findIdx? (·.1)=none:=by rfl):PG X (.Tuple es k pos) (Ab7 X.K n t):=by
 intro pins s σ H v u Q I r hw;obtain ⟨a,xs,e1,hq,hl,hw⟩:=hw;subst e1;cases r;obtain ⟨its,rv,ht,hz⟩:=I.tuple hq;refine assign_Tuple_tuple (I.ok.hd hc) ht (by simp [hn,← hl,rv.length]) hst fun h' hx=>?_
 have I1:Inv X pins σ H { s with heap:=h' }:=I.kept (t':=s.toks) fun b o e=>hx b o (Nat.ne_of_lt (Heap.lt_size e)) e
 exact h pins _ σ H xs _ Q I1 (by simpa using rv) hw
noncomputable def Ab8 (to ti:TE) (t:sH):TG:=fun v σ H Q=>to σ H fun o H1=>ti σ H1 fun i H2=>t o i v H2 fun H3=>Q σ H3
theorem sJ {o i:Expr}{to ti:TE}{t:sH}(ho:PE X o to) (hi:PE X i ti) (hs:zQ X t)
  (ha:∀ v,assign (.Subscript o i pos) X.env v=(do
   let ov ← holding [v] (eval o X.env)
   let iv ← holding [v,ov] (eval i X.env)
   standAt pos
   holding [v,ov,iv] (setItem ov iv v)
   release [v,ov,iv] []):=by intro _;rfl):PG X (.Subscript o i pos) (Ab8 to ti t):=by
 intro pins s σ H v u Q I r h;rw [ha];refine wpAny_bind (wpAny_holding (thn (ho pins s σ H _ I h) ?_));rintro ov s1 ⟨x,H1,I1,r1,q1⟩;refine wpAny_bind (wpAny_holding (thn (hi pins s1 σ H1 _ I1 q1) ?_));rintro iv s2 ⟨y,H2,I2,r2,q2⟩;refine wpAny_bind (wpAny_standAt (wpAny_bind (wpAny_holding (thn (hs pins s2 σ H2 x y v ov iv u _ I2 r1 r2 r q2) ?_))));rintro _ s3 ⟨H3,I3,q3⟩;exact wpAny_release ⟨σ,H3,I3,q3⟩
noncomputable def sO (te:TE) (g:TG):TS:=fun D σ H=>te σ H fun x H1=>g x σ H1 D.nx
theorem sS {tg e:Expr}{te:TE}{g:TG}(he:PE X e te) (hg:PG X tg g) (hs:swapsWithSole [tg] e pos.line X.env=pure false:=by rfl) (hw:swappedStores [tg] e X.env=pure none:=by rfl)
  (h1:(assignEach [tg] X.env).map (·.2)=[assign tg X.env]:=by rfl):PS X (.Assign [tg] e pos) (sO te g):=by
 intro pins s σ H D I h;refine wpAny_Assign_stores (thn (he pins s σ H _ I h) ?_) hs hw;rintro v s1 ⟨x,H1,I1,r1,q1⟩;rw [h1];exact thn (hg pins s1 σ H1 x v _ I1 r1 q1) fun _ s2 q=>q
noncomputable def Ab9 (i j:Nat) (ta:TA):TS:=fun D σ H=>ta σ H fun vs H1=>∃ v w,vs=[v,w]/\D.nx ((σ.set i (some v)).set j (some w)) H1
theorem sU {i j:Nat}{x y:Str}{a b:Expr}{ta:TA}{px py pt:Pos}{kt k2 pt2}(hc:X.calm=true) (hN:X.N.Nodup) (hi:X.N[i]?=some x) (hj:X.N[j]?=some y) (hij:i≠j)
  (hx:X.env.scope.names.lookup x=some .local) (hy:X.env.scope.names.lookup y=some .local) (ha:PA X [a,b] ta)
  (hw:swappedStores [.Tuple [.Name x px,.Name y py] kt pt] (.Tuple [a,b] k2 pt2) X.env=pure (some [x,y]))
  (hs:swapsWithSole [.Tuple [.Name x px,.Name y py] kt pt] (.Tuple [a,b] k2 pt2) pos.line X.env=pure false:=by rfl) :
  PS X (.Assign [.Tuple [.Name x px,.Name y py] kt pt] (.Tuple [a,b] k2 pt2) pos) (Ab9 i j ta):=by
 intro pins s σ H D I h;rw [exec_Assign_arm];refine wpAny_bind (wpAny_standAt ?_);rw [hs];refine wpAny_bind (wpAny_pure ?_);rw [if_neg (by decide)];refine wpAny_bind (Tuple_ (thn (ha _ pins s σ H _ I h) ?_));rintro us s1 ⟨vs,H1,I1,r1,q1⟩;obtain ⟨v,w,e1,q1⟩:=q1;subst e1;obtain ⟨u1,u2,rfl,rv,rw'⟩:∃ u1 u2,us=[u1,u2]/\RelV v u1/\RelV w u2:=by
  cases r1 with
  | cons p q =>
   cases q with
   | cons p' q' =>
    cases q';exact ⟨_,_,rfl,p,p'⟩
 refine wpAny_newObj_type ?_ (by show 2<=sizeLine;decide)
 have I2:Inv X pins σ H1 { s1 with heap:=s1.heap.push { cls:=.type "tuple",data:=.seq [u1,u2].toArray } }:=I1.kept (t':=s1.toks) fun b o e=>Heap.get?_push_of_some _ e
 rw [hw];refine wpAny_bind (wpAny_pure ?_)
 show wpAny (model X.prog X.w) X.A (do rule "assign.swapped-stores";let items ← unpackItems (.ref s1.heap.objs.size) 2 none;assignInOrder [fun v=>bindName X.env y v,fun v=>bindName X.env x v] items.reverse;pure Flow.next) _ _ _;refine wpAny_bind (wpAny_rule (wpAny_bind (unpackItems_tuple (items:=#[u1,u2]) (I.ok.hd hc) (IsTup.new s1.heap _) fun h' hx'=>?_)));have I3:=I2.kept (h':=h') (t':=s1.toks) fun b o e=>hx' b o (Nat.ne_of_lt (Heap.lt_size e)) e
 show wpAny _ _ (assignInOrder [fun v=>bindName X.env y v,fun v=>bindName X.env x v] [u2,u1] >>= fun _=>pure Flow.next) _ _ _;refine wpAny_bind (assignInOrder_cons (wpAny_bindName (Lf I3 hN hj (.inl hy) rw' (fun s2 I4=>?_) (.inr hy))));refine assignInOrder_cons (wpAny_bindName (Lf I4 hN hi (.inl hx) rv (fun s3 I5=>assignInOrder_nil (wpAny_pure ?_)) (.inr hx)));rw [List.set_comm _ _ (Ne.symm hij)] at I5;exact ⟨_,H1,I5,q1⟩
end
section
variable {X:Cx}{pos:Pos}
end
structure It where
 go:Nat->Hp->Prop
 yld:Nat->Hp->V->Hp->Prop
 stop:Nat->Hp->Prop
noncomputable def Gn (X:Cx) (pins:List (Addr×Obj)) (H:Hp) (b:Addr):Prop :=
 H b=none/\b≠X.env.locals/\b ∉ X.fs/\(b∈X.ex\/X.s₀.heap.objs.size<=b)/\(∀ x c,X.env.cells.lookup x=some c->c≠b)/\∀ p∈X.pn++pins,p.1≠b
theorem Inv.fpOk {X:Cx}{pins:List (Addr×Obj)}{σ:St}{H H':Hp}{s:Shared}{b:Addr}(I:Inv X pins σ H s) (hb:s.heap.objs.size<=b) (hn:H' b=none):Gn X pins H' b:=by
 refine ⟨hn,Nat.ne_of_gt (Nat.lt_of_lt_of_le I.lt hb),I.nofs hb,.inr (Nat.le_trans I.sz hb),fun x c e z=>?_,fun p hp z=>?_⟩
 ·obtain ⟨v,q⟩:=I.cell x c e;exact absurd (Nat.lt_of_lt_of_le q.lt (by rw [z];exact hb)) (Nat.lt_irrefl _)
 ·exact absurd (Nat.lt_of_lt_of_le (Heap.lt_size (I.pin p hp).1) (by rw [z];exact hb)) (Nat.lt_irrefl _)
structure Turn (P:Program) (w:World) (K:PySem.W.Frag) (tg:Expr) (J:It) (fp:List Addr) (it:Addr) (tn:Nat->Heap->Prop):Prop where
 mem:it∈fp
 obj:∀ i h,tn i h->∀ b∈fp,∃ o,h.get? b=some o/\∀ v,o.data≠.cell v
 keep:∀ i h h',tn i h->(∀ b∈fp,∀ o,h.get? b=some o->h'.get? b=some o)->tn i h'
 item:∀ (X:Cx),X.prog=P->X.w=w->X.K=K->X.calm=true->∀ (i:Nat) (pins:List (Addr×Obj)) (s:Shared) (σ:St) (H:Hp) (E:Value->Shared->Prop),Inv X pins σ H s->(∀ b∈fp,Gn X pins H b)->tn i s.heap->J.go i H ->
  wpAny (model P w) X.A (pyNext (.ref it)) (fun r s1=>∃ u,r=some u /\
   wpAny (model P w) X.A (letOwnedTupleGo tg (.ref it) u) (fun _ s2=>∃ x H',Inv X pins σ H' s2/\RelV x u/\J.yld i H x H'/\tn (i+1) s2.heap/\∀ b∈fp,H' b=none) E s1) E s
 done:∀ (X:Cx),X.prog=P->X.w=w->X.K=K->X.calm=true->∀ (i:Nat) (pins:List (Addr×Obj)) (s:Shared) (σ:St) (H:Hp) (E:Value->Shared->Prop),Inv X pins σ H s->(∀ b∈fp,Gn X pins H b)->tn i s.heap->J.stop i H ->
  wpAny (model P w) X.A (pyNext (.ref it)) (fun r s1=>r=none/\Inv X pins σ H s1) E s
 self:∀ (A:Around) (i:Nat) (s:Shared) (Q:Value->Shared->Prop) (E:Value->Shared->Prop),tn i s.heap->Q (.ref it) s->wpAny (model P w) A (pyIter (.ref it)) Q E s
noncomputable abbrev TI:=St->Hp->(It->Hp->Prop)->Prop
noncomputable def PIE (X:Cx) (pins:List (Addr×Obj)) (σ:St) (tg:Expr) (R:It->Hp->Prop) (itv:Value) (s2:Shared):Prop :=
 ∃ (it:Addr) (fp:List Addr) (tn:Nat->Heap->Prop) (J:It) (H':Hp),itv=.ref it/\Inv X pins σ H' s2/\Turn X.prog X.w X.K tg J fp it tn/\tn 0 s2.heap/\(∀ b∈fp,Gn X pins H' b)/\R J H'
noncomputable def PI (X:Cx) (tg iter:Expr) (wi:TI):Prop :=
 ∀ (pins:List (Addr×Obj)) (s:Shared) (σ:St) (H:Hp) (R:It->Hp->Prop),Inv X pins σ H s->wi σ H R ->
  wpAny (model X.prog X.w) X.A (eval iter X.env) (fun v s1=>wpAny (model X.prog X.w) X.A (pyIter v) (PIE X pins σ tg R) X.xe s1) X.xe s
theorem aV {M:Model}{A:Around}{E:Value->Shared->Prop}{s:Shared}{tg:Expr}{it:Addr}{u:Value}{o:Obj}{n:String}{vs:Array Value}{Q:Unit->Shared->Prop}(ho:s.heap.get? it=some o) (hc:o.cls=.type n) (hd:o.data=.fields vs)
    (hn:["enumerate", "zip", "dict_itemiterator", "dict_reverseitemiterator", "odict_iterator", "itertools.zip_longest", "itertools.pairwise"].contains n=false) (hQ:Q () s):wpAny M A (letOwnedTupleGo tg (.ref it) u) Q E s:=by
  unfold letOwnedTupleGo;cases tg <;> first
    | exact wpAny_pure hQ
    | (cases u <;> first
        | exact wpAny_pure hQ
        | (refine wpAny_bind (wpAny_load ho ?_)
           rw [hc,hd]
           show wpAny M A (if (["enumerate", "zip", "dict_itemiterator", "dict_reverseitemiterator", "odict_iterator", "itertools.zip_longest", "itertools.pairwise"].contains n&&vs[0]?==some (rawInt _))=true then _ else _) Q E s;rw [if_neg (by intro h;rw [hn,Bool.false_and] at h;cases h)]
           exact wpAny_pure hQ))
noncomputable def Itl (K:PySem.W.Frag) (a:Addr):It :=
 ⟨fun i H=>∃ xs x,SqL K H a xs/\xs[i]?=some x,fun i H x H'=>H'=H/\∀ xs,SqL K H a xs->xs[i]?=some x,fun i H=>∃ xs,SqL K H a xs/\xs.length<=i⟩
noncomputable def Itt (K:PySem.W.Frag) (a:Addr):It :=
 ⟨fun i H=>∃ xs x,SqT K H a xs/\xs[i]?=some x,fun i H x H'=>H'=H/\∀ xs,SqT K H a xs->xs[i]?=some x,fun i H=>∃ xs,SqT K H a xs/\xs.length<=i⟩
noncomputable def Itr (lo:Int) (n:Nat):It:=⟨fun i _=>i < n,fun i H x H'=>H'=H/\x=.int (lo+i),fun i _=>n<=i⟩
theorem Yl {P:Program}{w:World}{K:PySem.W.Frag}{tg:Expr}(a it:Addr):Turn P w K tg (Itl K a) [it] it (fun i h=>h.IsListIter it a i) where
 mem:=by simp
 obj:=fun i h st b hb=>by
  have e:b=it:=by simpa using hb
  subst e;obtain ⟨o,e,c,d⟩:=st;exact ⟨o,e,fun v z=>by rw [d] at z;cases z⟩
 keep:=fun i h h' st k=>st.at fun o e=>k it (by simp) o e
 item:=by
  intro X hP hw hK hc i pins s σ H E I hf st hg;subst hP hw hK;obtain ⟨xs,x,hq,hx⟩:=hg;obtain ⟨its,rv,p,hz⟩:=I.list hq;obtain ⟨u,hu,ru⟩:=rv.get hx;obtain ⟨f0,f1,f2,f3,f4,f5⟩:=hf it (by simp);refine wpAny_pyNext_list_item st p.isList (x:=u) (by simpa using hu) fun h' st' sb=>?_
  have I1:Inv X pins σ H { s with heap:=h' }:=I.turned (t':=s.toks) (fun b o hb e=>(sb.2 b hb).trans e) f0 f1 f3 f4 f5;obtain ⟨o,e,c,d⟩:=id st';exact ⟨u,rfl,aV (s:={ s with heap:=h' }) e c d (by decide) ⟨x,H,I1,ru,⟨rfl,fun ys hy=>by rw [I.list_inj hy hq];exact hx⟩,st',fun b hb=>(hf b hb).1⟩⟩
 done:=by
  intro X hP hw hK hc i pins s σ H E I hf st hg;subst hP hw hK;obtain ⟨xs,hq,hx⟩:=hg;obtain ⟨its,rv,p,hz⟩:=I.list hq;obtain ⟨f0,f1,f2,f3,f4,f5⟩:=hf it (by simp);have hl:=rv.length;exact wpAny_pyNext_list_end (I.ok.hd hc) st p.isList (by simp;omega) fun h' eb=>⟨rfl,I.turned (t':=s.toks) (fun b o hb e=>eb b o hb e) f0 f1 f3 f4 f5⟩
 self:=fun _ _ _ _ _ st h=>wpAny_pyIter_listiter st h
theorem Uy {P:Program}{w:World}{K:PySem.W.Frag}{tg:Expr}(a it:Addr):Turn P w K tg (Itt K a) [it] it (fun i h=>h.IsTupleIter it a i) where
 mem:=by simp
 obj:=fun i h st b hb=>by
  have e:b=it:=by simpa using hb
  subst e;obtain ⟨o,e,c,d⟩:=st;exact ⟨o,e,fun v z=>by rw [d] at z;cases z⟩
 keep:=fun i h h' st k=>st.at fun o e=>k it (by simp) o e
 item:=by
  intro X hP hw hK hc i pins s σ H E I hf st hg;subst hP hw hK;obtain ⟨xs,x,hq,hx⟩:=hg;obtain ⟨its,rv,p,hz⟩:=I.tuple hq;obtain ⟨u,hu,ru⟩:=rv.get hx;obtain ⟨f0,f1,f2,f3,f4,f5⟩:=hf it (by simp);refine wpAny_pyNext_tuple_item st (show s.heap.IsTuple a its.toArray from p) (x:=u) (by simpa using hu) fun h' st' sb=>?_
  have I1:Inv X pins σ H { s with heap:=h' }:=I.turned (t':=s.toks) (fun b o hb e=>(sb.2 b hb).trans e) f0 f1 f3 f4 f5;obtain ⟨o,e,c,d⟩:=id st';exact ⟨u,rfl,aV (s:={ s with heap:=h' }) e c d (by decide) ⟨x,H,I1,ru,⟨rfl,fun ys hy=>by rw [I.tuple_inj hy hq];exact hx⟩,st',fun b hb=>(hf b hb).1⟩⟩
 done:=by
  intro X hP hw hK hc i pins s σ H E I hf st hg;subst hP hw hK;obtain ⟨xs,hq,hx⟩:=hg;obtain ⟨its,rv,p,hz⟩:=I.tuple hq;obtain ⟨f0,f1,f2,f3,f4,f5⟩:=hf it (by simp);have hl:=rv.length;exact wpAny_pyNext_tuple_end (I.ok.hd hc) st (show s.heap.IsTuple a its.toArray from p) (by simp;omega) fun h' eb=>⟨rfl,I.turned (t':=s.toks) (fun b o hb e=>eb b o hb e) f0 f1 f3 f4 f5⟩
 self:=fun _ _ _ _ _ st h=>wpAny_pyIter_tupleiter st h
theorem Uz {P:Program}{w:World}{K:PySem.W.Frag}{tg:Expr}(it:Addr) (lo:Int) (n:Nat):Turn P w K tg (Itr lo n) [it] it (fun i h=>IsRangeIter h it (lo+(i:Nat) * 1) ((n:Int) - (i:Nat)) 1) where
 mem:=by simp
 obj:=fun i h st b hb=>by
  have e:b=it:=by simpa using hb
  subst e
  exact ⟨_,st,fun v z=>by
   have z':Data.fields _=Data.cell v:=z
   cases z'⟩
 keep:=fun i h h' st k=>k it (by simp) _ st
 item:=by
  intro X hP hw hK hc i pins s σ H E I hf st hg;subst hP hw hK;obtain ⟨f0,f1,f2,f3,f4,f5⟩:=hf it (by simp);have W:=Walks.range (prog:=X.prog) (w:=X.w) (I.ok.hd hc) it lo 1 n;refine W.item i s _ _ hg st fun v h' tk hv st' kk=>?_
  obtain ⟨t,rfl⟩:=hv;have I1:Inv X pins σ H { s with heap:=h',toks:=tk }:=I.turned (fun b o hb e=>kk b o (by simpa using hb) e) f0 f1 f3 f4 f5
  refine ⟨_,rfl,aV (s:={ s with heap:=h',toks:=tk }) (n := "range_iterator") st' rfl rfl (by decide) ⟨.int (lo+i),H,I1,⟨t,?_⟩,⟨rfl,rfl⟩,st',fun b hb=>(hf b hb).1⟩⟩;rw [Int.mul_one]
 done:=by
  intro X hP hw hK hc i pins s σ H E I hf st hg;subst hP hw hK;obtain ⟨f0,f1,f2,f3,f4,f5⟩:=hf it (by simp);exact wpAny_pyNext_range_end (I.ok.hd hc) st (by have:n<=i:=hg;omega) fun h' eb=>⟨rfl,I.turned (t':=s.toks) (fun b o hb e=>eb b o hb e) f0 f1 f3 f4 f5⟩
 self:=fun _ _ _ _ _ st h=>wpAny_pyIter_rangeiter st h
section
variable {X:Cx}{tg:Expr}
noncomputable def zT (K:PySem.W.Frag) (tl:TE):TI:=fun σ H R=>tl σ H fun x H1=>∃ a,x=.ref a/\(∃ xs,SqL K H1 a xs)/\R (Itl K a) H1
noncomputable def Aca (K:PySem.W.Frag) (tl:TE):TI:=fun σ H R=>tl σ H fun x H1=>∃ a,x=.ref a/\(∃ xs,SqT K H1 a xs)/\R (Itt K a) H1
theorem W0 {l:Expr}{tl:TE}(hl:PE X l tl):PI X tg l (zT X.K tl):=by
 intro pins s σ H R I h;refine thn (hl pins s σ H _ I h) ?_;rintro v s1 ⟨x,H1,I1,r1,q1⟩;obtain ⟨a,e,⟨xs,hq⟩,q⟩:=q1;subst e;cases r1;obtain ⟨its,rv,p,hz⟩:=I1.list hq;refine wpAny_pyIter_list p.isList ?_;refine ⟨s1.heap.objs.size,[s1.heap.objs.size],_,_,H1,rfl,I1.kept (t':=s1.toks) fun b o e=>Heap.get?_push_of_some _ e,Yl a _,⟨_,Heap.get?_push_size _ rfl,rfl,rfl⟩,fun b hb=>?_,q⟩;have e:b=s1.heap.objs.size:=by simpa using hb
 subst e;exact I1.fpOk (Nat.le_refl _) (I1.hok.fresh (Nat.le_refl _))
theorem sV {l:Expr}{tl:TE}(hl:PE X l tl):PI X tg l (Aca X.K tl):=by
 intro pins s σ H R I h;refine thn (hl pins s σ H _ I h) ?_;rintro v s1 ⟨x,H1,I1,r1,q1⟩;obtain ⟨a,e,⟨xs,hq⟩,q⟩:=q1;subst e;cases r1;obtain ⟨its,rv,p,hz⟩:=I1.tuple hq;refine wpAny_pyIter_tuple (show s1.heap.IsTuple a its.toArray from p) ?_;refine ⟨s1.heap.objs.size,[s1.heap.objs.size],_,_,H1,rfl,I1.kept (t':=s1.toks) fun b o e=>Heap.get?_push_of_some _ e,Uy a _,⟨_,Heap.get?_push_size _ rfl,rfl,rfl⟩,fun b hb=>?_,q⟩;have e:b=s1.heap.objs.size:=by simpa using hb
 subst e;exact I1.fpOk (Nat.le_refl _) (I1.hok.fresh (Nat.le_refl _))
theorem aW {pins:List (Addr×Obj)}{σ:St}{H:Hp}{s:Shared}{R:It->Hp->Prop}{E:Value->Shared->Prop}{lo hi:Int}{t u v:Tok}{tk:Nat}(I:Inv X pins σ H s) (h1:-(2 ^ 62)<=lo) (h2:lo < 2 ^ 62) (h3:-(2 ^ 62)<=hi) (h4:hi < 2 ^ 62)
  (q:R (Itr lo (hi - lo).toNat) H):wpAny (model X.prog X.w) X.A (pyIter (.ref s.heap.objs.size)) (PIE X pins σ tg R) E { s with heap:=s.heap.push { cls:=.type "range",data:=.fields #[.int lo t,.int hi u,.int 1 v] },toks:=tk }:=by
 refine wpAny_pyIter_range (IsRange.new ..) (small_one h1 h2 h3 h4) ?_
 have I1:Inv X pins σ H { s with heap:=s.heap.push { cls:=.type "range",data:=.fields #[.int lo t,.int hi u,.int 1 v] },toks:=tk }:=I.kept fun b o e=>Heap.get?_push_of_some _ e
 refine ⟨(s.heap.push { cls:=.type "range",data:=.fields #[.int lo t,.int hi u,.int 1 v] }).objs.size,[(s.heap.push { cls:=.type "range",data:=.fields #[.int lo t,.int hi u,.int 1 v] }).objs.size],_,_,H,rfl,
  I1.kept (t':=tk) fun b o e=>Heap.get?_push_of_some _ e,Uz _ lo (hi - lo).toNat,?_,fun b hb=>?_,q⟩
 ·have e1:lo+((0:Nat):Int) * 1=lo:=by simp
  have e2:(((hi - lo).toNat:Nat):Int) - ((0:Nat):Int)=Builtin.Range.rangeSize lo hi 1:=by rw [rangeSize_one];split <;> omega
  show IsRangeIter _ _ (lo+((0:Nat):Int) * 1) ((((hi - lo).toNat:Nat):Int) - ((0:Nat):Int)) 1;rw [e1,e2];exact Heap.get?_push_size _ rfl
 ·have e:b=(s.heap.push { cls:=.type "range",data:=.fields #[.int lo t,.int hi u,.int 1 v] }).objs.size:=by simpa using hb
  subst e;exact I1.fpOk (Nat.le_refl _) (I1.hok.fresh (Nat.le_refl _))
noncomputable def zU (ta:TA):TI:=fun σ H R=>ta σ H fun vs H1=>∃ j:Int,vs=[.int j]/\-(2 ^ 62)<=j/\j < 2 ^ 62/\R (Itr 0 j.toNat) H1
theorem Ym {a:Expr}{ta:TA}{p pos:Pos}(hg:Gl X "range") (hm:X.mg "range"=none) (ha:PA X [a] ta) (hs:starEach [a] X.env=[(false,eval a X.env)]:=by rfl):PI X tg (.Call (.Name "range" p) [a] [] pos) (zU ta):=by
 intro pins s σ H R I h;refine Call_ (Hu I hg hm boot_range (PyProof.Rows.callWith_type1 (thn (ha pos pins s σ H _ I h) ?_) hs rfl));rintro us s1 ⟨vs,H1,I1,r1,q1⟩;obtain ⟨j,e,q1,q2,q⟩:=q1;subst e;cases r1 with
 | cons r rr =>
  cases rr;obtain ⟨t,rfl⟩:=r;exact call_range_1 (aW I1 (by omega) (by omega) q1 q2 (by simpa using q))
noncomputable def Acb (wi:TI) (g:TG) (tb:TS):TS:=fun D σ H=>wi σ H fun J H1=>∃ W:Nat->Nat->St->Hp->Prop,(∃ m,W 0 m σ H1)/\∀ i m σ H,W i m σ H ->
 (J.stop i H/\D.nx σ H)\/(J.go i H/\∃ N:St->Hp->Prop,(∀ σ' H',N σ' H'->∃ m',m' < m/\W (i+1) m' σ' H')/\∀ x H',J.yld i H x H'->g x σ H' fun σ2 H2=>tb { D with nx:=N,ct:=N,bk:=D.nx } σ2 H2)
noncomputable def Hv (fp:List Addr) (h:Heap):List (Addr×Obj):=fp.filterMap fun b=>(h.get? b).map fun o=>(b,o)
theorem Fp {fp:List Addr}{h:Heap}{b:Addr}{o:Obj}(hb:b∈fp) (e:h.get? b=some o):(b,o)∈Hv fp h:=List.mem_filterMap.mpr ⟨b,hb,by rw [e];rfl⟩
theorem Oo {fp:List Addr}{h:Heap}{p:Addr×Obj}(hp:p∈Hv fp h):p.1∈fp/\h.get? p.1=some p.2:=by
 obtain ⟨b,hb,e⟩:=List.mem_filterMap.mp hp;cases q:h.get? b with
 | none=>rw [q] at e;cases e
 | some o =>
  rw [q] at e;have e':(b,o)=p:=Option.some.inj e;subst e';exact ⟨hb,q⟩
theorem Inv.pinned {pins:List (Addr×Obj)}{σ:St}{H:Hp}{s:Shared}{fp:List Addr}(I:Inv X pins σ H s) (hf:∀ b∈fp,Gn X pins H b) (ho:∀ b∈fp,∃ o,s.heap.get? b=some o/\∀ v,o.data≠.cell v):Inv X (pins++Hv fp s.heap) σ H s :=
 I.pins_of fun p hp=>(List.mem_append.mp hp).elim (fun z=>I.pin p (List.mem_append_right _ z)) fun z=>by
  obtain ⟨hb,e⟩:=Oo z;obtain ⟨f0,f1,f2,_⟩:=hf p.1 hb;obtain ⟨o,e',d⟩:=ho p.1 hb;rw [e] at e';cases e';exact ⟨e,f0,f1,f2,d⟩
theorem Inv.unpinned {pins pl:List (Addr×Obj)}{σ:St}{H:Hp}{s:Shared}(I:Inv X (pins++pl) σ H s):Inv X pins σ H s:=I.pins_of fun p hp=>I.pin p (List.mem_append_right _ (List.mem_append_left _ hp))
theorem sW {iter:Expr}{body:List Stmt}{wi:TI}{g:TG}{tb:TS}{pos:Pos}(hp:PassesOwn (model X.prog X.w) X.A X.env X.xe) (hc:X.calm=true) (hi:PI X tg iter wi) (hg:PG X tg g) (hb:PSs X body tb)
  (hs:∀ x,foldedSetIterable iter X.env x=pure x:=by intro _;rfl):PS X (.For tg iter body [] pos) (Acb wi g tb):=by
 intro pins s σ H D I h;refine wpAny_For (thn (hi pins s σ H _ I h) fun v s1 h1=>thn h1 fun itv s2 h2=>?_) hs;obtain ⟨it,fp,tn,J,H2,e,I2,T,st2,f2,W,⟨m0,w0⟩,turn⟩:=h2;subst e
 -- what stays true of the iterator's objects through the loop
 have stat:∀ {H':Hp},(∀ b∈fp,H' b=none)->∀ b∈fp,Gn X pins H' b:=fun hn b hb=>⟨hn b hb,(f2 b hb).2⟩
 refine codeAny_forLoop_any (fun n s'=>∃ i σ' H',Inv X pins σ' H' s'/\tn i s'.heap/\(∀ b∈fp,H' b=none)/\W i n σ' H') ?_ m0 ⟨0,σ,H2,I2,st2,fun b hb=>(f2 b hb).1,w0⟩;rintro n s3 ⟨i,σ3,H3,I3,st3,fr3,w3⟩;rcases turn i n σ3 H3 w3 with ⟨stop,qn⟩|⟨go,N,hN,step⟩
 ·refine wpAny_passesOwn hp (thn (T.done X rfl rfl rfl hc i pins s3 σ3 H3 X.xe I3 (stat fr3) st3 stop) ?_);rintro r s4 ⟨hr,I4⟩;subst hr;exact wpAny_execs_nil ⟨σ3,H3,I4,qn⟩
 ·refine wpAny_passesOwn hp (thn (T.item X rfl rfl rfl hc i pins s3 σ3 H3 X.xe I3 (stat fr3) st3 go) ?_);rintro r s4 ⟨u,hr,h4⟩;subst hr;refine wpAny_passesOwn hp (thn h4 ?_);rintro _ s5 ⟨x,H5,I5,r5,y5,st5,fr5⟩;have I5':=I5.pinned (stat fr5) (T.obj _ _ st5);refine wpAny_passesOwn hp (thn (hg _ s5 σ3 H5 x u _ I5' r5 (step x H5 y5)) ?_);rintro _ s6 ⟨σ6,H6,I6,q6⟩;refine wpAny_passesOwn hp (thn (hb _ s6 σ6 H6 _ I6 q6) fun f s7 q7=>?_);have again:∀ {σ7:St} {H7:Hp},Inv X (pins++Hv fp s5.heap) σ7 H7 s7->N σ7 H7->∃ m,m < n/\∃ i σ' H',Inv X pins σ' H' s7/\tn i s7.heap/\(∀ b∈fp,H' b=none)/\W i m σ' H':=fun {σ7 H7} I7 n7=>by
   obtain ⟨m',hm,w7⟩:=hN σ7 H7 n7;refine ⟨m',hm,i+1,σ7,H7,I7.unpinned,T.keep _ _ _ st5 fun b hb o e=>(I7.pin (b,o) (List.mem_append_right _ (List.mem_append_right _ (Fp hb e)))).1,fun b hb=>?_,w7⟩;obtain ⟨o,e,d⟩:=T.obj _ _ st5 b hb;exact (I7.pin (b,o) (List.mem_append_right _ (List.mem_append_right _ (Fp hb e)))).2.1
  cases f with
  | next=>obtain ⟨σ7,H7,I7,n7⟩:=q7;exact again I7 n7
  | cont=>obtain ⟨σ7,H7,I7,n7⟩:=q7;exact again I7 n7
  | brk=>obtain ⟨σ7,H7,I7,q7⟩:=q7;exact ⟨σ7,H7,I7.unpinned,q7⟩
  | ret v=>obtain ⟨x7,σ7,H7,I7,r7,q7⟩:=q7;exact ⟨x7,σ7,H7,I7.unpinned,r7,q7⟩
end
noncomputable abbrev R2:=V->V->Hp->VK->Prop
noncomputable def OpR (X:Cx) (f:Value->Value->Sem Value) (r:R2):Prop :=
 ∀ (pins:List (Addr×Obj)) (s:Shared) (σ:St) (H:Hp) (x y:V) (v u:Value) (Q:VK),Inv X pins σ H s->RelV x v->RelV y u->r x y H Q ->
  wpAny (model X.prog X.w) X.A (f v u) (EP X pins σ Q) X.xe s
noncomputable def UnR (X:Cx) (f:Value->Sem Value) (r:V->Hp->VK->Prop):Prop :=
 ∀ (pins:List (Addr×Obj)) (s:Shared) (σ:St) (H:Hp) (x:V) (v:Value) (Q:VK),Inv X pins σ H s->RelV x v->r x H Q ->
  wpAny (model X.prog X.w) X.A (f v) (EP X pins σ Q) X.xe s
noncomputable def Az (X:Cx) (f:Value) (r:List V->Hp->VK->Prop):Prop :=
 ∀ (pins:List (Addr×Obj)) (s:Shared) (σ:St) (H:Hp) (xs:List V) (us:List Value) (Q:VK),Inv X pins σ H s->Vals xs us->r xs H Q ->
  wpAny (model X.prog X.w) X.A (call f us) (EP X pins σ Q) X.xe s
noncomputable def Acd (X:Cx) (r:V->Hp->(Bool->Hp->Prop)->Prop):Prop :=
 ∀ (pins:List (Addr×Obj)) (s:Shared) (σ:St) (H:Hp) (x:V) (v:Value) (Q:Bool->Hp->Prop),Inv X pins σ H s->RelV x v->r x H Q ->
  wpAny (model X.prog X.w) X.A (truthy v) (TP X pins σ Q) X.xe s
noncomputable def tOp (r:R2) (ta tb:TE):TE:=fun σ H Q=>ta σ H fun x H1=>tb σ H1 fun y H2=>r x y H2 Q
noncomputable def tUn (r:V->Hp->VK->Prop) (ta:TE):TE:=fun σ H Q=>ta σ H fun x H1=>r x H1 Q
noncomputable def rI (C:Int->Int->Prop) (g:Int->Int->V):R2:=fun x y H Q=>∃ i j,x=.int i/\y=.int j/\C i j/\Q (g i j) H
noncomputable def rI0 (g:Int->Int->V):R2:=fun x y H Q=>∃ i j,x=.int i/\y=.int j/\Q (g i j) H
noncomputable def rU (g:Int->V):V->Hp->VK->Prop:=fun x H Q=>∃ i,x=.int i/\Q (g i) H
section
variable {X:Cx}{a b c:Expr}{ta tb tc:TE}{pos:Pos}
theorem sX (ha:PE X a ta) (hb:PE X b tb) {pins:List (Addr×Obj)}{s:Shared}{σ:St}{H:Hp}{R:V->V->Hp->Prop}(I:Inv X pins σ H s)
  (h:ta σ H fun x H1=>tb σ H1 fun y H2=>R x y H2) {Q:Value->Shared->Prop} {f:Value->Value->Sem Value}
  (hf:∀ v u s2 x y H2,Inv X pins σ H2 s2->RelV x v->RelV y u->R x y H2->wpAny (model X.prog X.w) X.A (f v u) Q X.xe s2) :
  wpAny (model X.prog X.w) X.A (eval a X.env) (fun v s₁=>wpAny (model X.prog X.w) X.A (eval b X.env) (fun u s₂=>wpAny (model X.prog X.w) X.A (f v u) Q X.xe s₂) X.xe s₁) X.xe s:=by
 refine thn (ha pins s σ H _ I h) ?_;rintro v s1 ⟨x,H1,I1,r1,q1⟩;refine thn (hb pins s1 σ H1 _ I1 q1) ?_;rintro u s2 ⟨y,H2,I2,r2,q2⟩;exact hf v u s2 x y H2 I2 r1 r2 q2
theorem zV {op:Operator}{r:R2}(ho:OpR X (binaryOp op) r) (ha:PE X a ta) (hb:PE X b tb):PE X (.BinOp a op b pos) (tOp r ta tb):=by
 intro pins s σ H Q I h;exact wpAny_BinOp (sX ha hb I h fun v u s2 x y H2 I2 rx ry q=>ho pins s2 σ H2 x y v u Q I2 rx ry q)
theorem zW {op:UnaryOp}{r:V->Hp->VK->Prop}(ho:UnR X (unaryOp op) r) (ha:PE X a ta):PE X (.UnaryOp op a pos) (tUn r ta):=by
 intro pins s σ H Q I h;refine UnaryOp_ (thn (ha pins s σ H _ I h) ?_);rintro v s1 ⟨x,H1,I1,r1,q1⟩;exact ho pins s1 σ H1 x v Q I1 r1 q1
theorem opI {f:Value->Value->Sem Value}{C:Int->Int->Prop}{g:Int->Int->Int}
  (rule:∀ (i j:Int) (t u:Tok) (s:Shared) (Q:Value->Shared->Prop) (E:Value->Shared->Prop),C i j->Q (.int (g i j) s.toks) { s with toks:=s.toks+1 }->wpAny (model X.prog X.w) X.A (f (.int i t) (.int j u)) Q E s) :
  OpR X f (rI C fun i j=>.int (g i j)):=by
 intro pins s σ H x y v u Q I rx ry h;obtain ⟨i,j,rfl,rfl,hc,q⟩:=h;obtain ⟨t,rfl⟩:=rx;obtain ⟨t',rfl⟩:=ry;exact rule i j t t' s _ _ hc ⟨.int (g i j),H,I.tok _,⟨_,rfl⟩,q⟩
theorem zX {f:Value->Value->Sem Value}{g:Int->Int->Int}
  (rule:∀ (i j:Int) (t u:Tok) (s:Shared) (Q:Value->Shared->Prop) (E:Value->Shared->Prop),Q (.int (g i j) s.toks) { s with toks:=s.toks+1 }->wpAny (model X.prog X.w) X.A (f (.int i t) (.int j u)) Q E s) :
  OpR X f (rI0 fun i j=>.int (g i j)):=by
 intro pins s σ H x y v u Q I rx ry h;obtain ⟨i,j,rfl,rfl,q⟩:=h;obtain ⟨t,rfl⟩:=rx;obtain ⟨t',rfl⟩:=ry;exact rule i j t t' s _ _ ⟨.int (g i j),H,I.tok _,⟨_,rfl⟩,q⟩
theorem lK {f:Value->Value->Sem Value}{g:Int->Int->Bool}
  (rule:∀ (i j:Int) (t u:Tok) (s:Shared) (Q:Value->Shared->Prop) (E:Value->Shared->Prop),Q (.bool (g i j)) s->wpAny (model X.prog X.w) X.A (f (.int i t) (.int j u)) Q E s) :
  OpR X f (rI0 fun i j=>.bl (g i j)):=by
 intro pins s σ H x y v u Q I rx ry h;obtain ⟨i,j,rfl,rfl,q⟩:=h;obtain ⟨t,rfl⟩:=rx;obtain ⟨t',rfl⟩:=ry;exact rule i j t t' s _ _ ⟨.bl (g i j),H,I,rfl,q⟩
noncomputable def Ace (i j:Int):Prop:=0<=j/\j<=1000000/\i.natAbs < 2 ^ 64
noncomputable def sY (i j:Int):Prop:=(-(2 ^ 64) < i/\i < 2 ^ 64)\/(-(2 ^ 64) < j/\j < 2 ^ 64)
theorem sY.ok {i j:Int}(h:sY i j):IntMulOk i j:=by
 rcases h with ⟨h1,h2⟩|⟨h1,h2⟩
 ·exact .of_left (intBits_le_64 h1 h2)
 ·exact .of_right (intBits_le_64 h1 h2)
theorem sZ:OpR X (binaryOp .Add) (rI0 fun i j=>.int (i+j)):=zX fun _ _ _ _ _ _ _ q=>add_int q
theorem tB:OpR X (binaryOp .Sub) (rI0 fun i j=>.int (i - j)):=zX fun _ _ _ _ _ _ _ q=>sub_int q
theorem tE:OpR X (binaryOp .Mult) (rI sY fun i j=>.int (i * j)):=opI fun _ _ _ _ _ _ _ hc q=>mul_int q hc.ok
theorem lN:OpR X (binaryOp .Mod) (rI (fun _ j=>j≠0) fun i j=>.int (i.fmod j)):=opI fun _ _ _ _ _ _ _ hc q=>mod_int' hc q
theorem tH:OpR X (binaryOp .Pow) (rI Ace fun i j=>.int (i ^ j.toNat)):=opI fun _ _ _ _ _ _ _ hc q=>pow_int_small hc.1 hc.2.1 hc.2.2 q
theorem unI {f:Value->Sem Value}{g:Int->Int}
  (rule:∀ (i:Int) (t:Tok) (s:Shared) (Q:Value->Shared->Prop) (E:Value->Shared->Prop),Q (.int (g i) s.toks) { s with toks:=s.toks+1 }->wpAny (model X.prog X.w) X.A (f (.int i t)) Q E s) :
  UnR X f (rU fun i=>.int (g i)):=by
 intro pins s σ H x v Q I rx h;obtain ⟨i,rfl,q⟩:=h;obtain ⟨t,rfl⟩:=rx;exact rule i t s _ _ ⟨.int (g i),H,I.tok _,⟨_,rfl⟩,q⟩
theorem tK:UnR X (unaryOp .USub) (rU fun i=>.int (-i)):=unI fun _ _ _ _ _ q=>neg_int q
end
section
variable {X:Cx}{a b c:Expr}{ta tb tc:TE}{pos:Pos}
theorem zY:OpR X (compareOp .Lt) (rI0 fun i j=>.bl (decide (i < j))):=lK fun _ _ _ _ _ _ _ q=>lt_int q
theorem zZ:OpR X (compareOp .LtE) (rI0 fun i j=>.bl (decide (i<=j))):=lK fun _ _ _ _ _ _ _ q=>le_int q
theorem Aaa:OpR X (compareOp .Gt) (rI0 fun i j=>.bl (decide (j < i))):=lK fun _ _ _ _ _ _ _ q=>gt_int q
theorem Aab:OpR X (compareOp .GtE) (rI0 fun i j=>.bl (decide (j<=i))):=lK fun _ _ _ _ _ _ _ q=>ge_int q
theorem OpR.or {f:Value->Value->Sem Value}{r r':R2}(h:OpR X f r) (h':OpR X f r'):OpR X f (fun x y H Q=>r x y H Q\/r' x y H Q):=by
 intro pins s σ H x y v u Q I rx ry q;rcases q with q|q
 ·exact h pins s σ H x y v u Q I rx ry q
 ·exact h' pins s σ H x y v u Q I rx ry q
theorem Qf {op:CmpOp}{r:R2}(ho:OpR X (compareOp op) r) (ha:PE X a ta) (hb:PE X b tb) (hm:behindInMarks op b=false):PE X (.Compare a [op] [b] pos) (tOp r ta tb):=by
 intro pins s σ H Q I h;exact wpAny_Compare1 (sX ha hb I h fun v u s2 x y H2 I2 rx ry q=>ho pins s2 σ H2 x y v u Q I2 rx ry q) hm
noncomputable def aX (t:TE):TT:=fun σ H Q=>t σ H fun x H'=>∃ k,x=.bl k/\Q k H'
theorem Qg {op:CmpOp}{r:R2}(ho:OpR X (compareOp op) r) (ha:PE X a ta) (hb:PE X b tb) (hm:behindInMarks op b=false):PT X (.Compare a [op] [b] pos) (aX (tOp r ta tb)):=by
 intro pins s σ H Q I h
 refine wpAny_isTrue_Compare1 (thn (ha pins s σ H _ I h) fun v s1 ⟨x,H1,I1,r1,q1⟩=>thn (hb pins s1 σ H1 _ I1 q1) fun u s2 ⟨y,H2,I2,r2,q2⟩ =>
  thn (ho pins s2 σ H2 x y v u _ I2 r1 r2 q2) fun c s3 ⟨z,H3,I3,r3,k,e,q3⟩=>?_) hm
 subst e;cases r3;exact wpAny_truthy_bool ⟨H3,I3,q3⟩
noncomputable def U0 (r r':R2) (ta tb tc:TE):TE:=fun σ H Q=>ta σ H fun x H1=>tb σ H1 fun y H2=>r x y H2 fun z H3=>∃ k,z=.bl k /\
 (if k=true then tc σ H3 fun w' H4=>r' y w' H4 Q else Q (.bl false) H3)
theorem aY {op op':CmpOp}{r r':R2}(ho:OpR X (compareOp op) r) (ho':OpR X (compareOp op') r') (ha:PE X a ta) (hb:PE X b tb) (hc:PE X c tc)
  (hm:lastMarks [op,op'] [b,c]=false:=by with_unfolding_all rfl):PE X (.Compare a [op,op'] [b,c] pos) (U0 r r' ta tb tc):=by
 intro pins s σ H Q I h
 refine Compare_chain (thn (ha pins s σ H _ I h) fun v s1 ⟨x,H1,I1,r1,q1⟩=>chain_link (thn (hb pins s1 σ H1 _ I1 q1) fun u s2 ⟨y,H2,I2,r2,q2⟩ =>
  thn (ho pins s2 σ H2 x y v u _ I2 r1 r2 q2) fun d s3 ⟨z,H3,I3,r3,k,e,q3⟩=>?_)) hm
 subst e;cases r3;refine wpAny_truthy_bool ?_;cases k with
 | false=>exact ite_ff ⟨.bl false,H3,I3,rfl,q3⟩
 | true=>exact ite_tt (chain_last (thn (hc pins s3 σ H3 _ I3 q3) fun w' s4 ⟨z',H4,I4,r4,q4⟩=>ho' pins s4 σ H4 y z' u w' Q I4 r2 r4 q4))
theorem aZ {op op':CmpOp}{r r':R2}(ho:OpR X (compareOp op) r) (ho':OpR X (compareOp op') r') (ha:PE X a ta) (hb:PE X b tb) (hc:PE X c tc)
  (hm:lastMarks [op,op'] [b,c]=false:=by with_unfolding_all rfl):PT X (.Compare a [op,op'] [b,c] pos) (aX (U0 r r' ta tb tc)):=by
 intro pins s σ H Q I h
 refine isTrue_chain (thn (ha pins s σ H _ I h) fun v s1 ⟨x,H1,I1,r1,q1⟩=>test_link (thn (hb pins s1 σ H1 _ I1 q1) fun u s2 ⟨y,H2,I2,r2,q2⟩ =>
  thn (ho pins s2 σ H2 x y v u _ I2 r1 r2 q2) fun d s3 ⟨z,H3,I3,r3,k,e,q3⟩=>?_)) hm
 subst e;cases r3;refine wpAny_truthy_bool ?_;cases k with
 | false =>
  obtain ⟨k',e',q'⟩:=q3;cases e';exact ite_ff ⟨H3,I3,q'⟩
 | true =>
  refine ite_tt (test_last (thn (hc pins s3 σ H3 _ I3 q3) ?_));rintro w' s4 ⟨z',H4,I4,r4,q4⟩;refine thn (ho' pins s4 σ H4 y z' u w' _ I4 r2 r4 q4) ?_;rintro d' s5 ⟨z2,H5,I5,r5,k2,e2,q5⟩;subst e2;cases r5;exact wpAny_truthy_bool ⟨H5,I5,q5⟩
noncomputable def tL (K:PySem.W.Frag) (x:V) (H:Hp) (k:Bool):Prop :=
 match x with
 | .non=>k=false
 | .bl b=>k=b
 | .int i=>k=(i != 0)
 | .str y=>y.length<=sizeLine/\k=((y.length:Int) != 0)
 | .byt y=>y.size<=sizeLine/\k=((y.size:Int) != 0)
 | .ref p=>(∃ xs,SqL K H p xs/\k=!xs.isEmpty)\/(∃ xs,SqT K H p xs/\k=!xs.isEmpty)\/∃ kvs,H p=some (.dK kvs)/\k=!kvs.isEmpty
 | _=>False
theorem U3 {κ:Type}{kvs:List (κ×V)}{vs:List (κ×Value)}(r:KV kvs vs):(!vs.isEmpty)=!kvs.isEmpty:=by
 cases r <;> rfl
theorem Lg {xs:List V}{its:List Value}(r:Vals xs its):(!its.toArray.isEmpty)=!xs.isEmpty:=by
 cases r <;> simp
theorem Hw:(sizeLine:Nat) < 2 ^ 63:=by rw [sizeLine_eq];decide
theorem tM:Acd X (fun x H Q=>∃ k,tL X.K x H k/\Q k H):=by
 intro pins s σ H x v Q I rx h;obtain ⟨k,e,q⟩:=h;have hl:=Hw;have hs:sizeLine=16777216:=sizeLine_eq;cases x with
 | non =>
  cases rx;have e':k=false:=e;subst e';exact truthy_none ⟨H,I,q⟩
 | bl b =>
  cases rx;have e':k=b:=e;subst e';exact wpAny_truthy_bool ⟨H,I,q⟩
 | int i =>
  obtain ⟨t,rfl⟩:=rx;have e':k=(i != 0):=e;subst e';exact PySem.P.truthy_int ⟨H,I,q⟩
 | str y =>
  obtain ⟨t,rfl⟩:=rx;obtain ⟨hy,e'⟩:y.length<=sizeLine/\k=((y.length:Int) != 0):=e;subst e';exact PySem.P.truthy_str (by omega) ⟨H,I.tok _,q⟩
 | byt y =>
  obtain ⟨t,rfl⟩:=rx;obtain ⟨hy,e'⟩:y.size<=sizeLine/\k=((y.size:Int) != 0):=e;subst e';exact PySem.W.truthy_bytes (by omega) ⟨H,I.tok _,q⟩
 | ref p =>
  cases rx;have e':(∃ xs,SqL X.K H p xs/\k=!xs.isEmpty)\/(∃ xs,SqT X.K H p xs/\k=!xs.isEmpty)\/∃ kvs,H p=some (.dK kvs)/\k=!kvs.isEmpty:=e;rcases e' with ⟨xs,hx,e'⟩|⟨xs,hx,e'⟩|⟨kvs,hx,e'⟩
  ·subst e';obtain ⟨its,r,pl,hz⟩:=I.list hx;have hlen:=r.length;exact wpAny_truthy_list pl.isList (by simp only [List.size_toArray];omega) ⟨H,I.tok _,by rw [Lg r];exact q⟩
  ·subst e';obtain ⟨its,r,pl,hz⟩:=I.tuple hx;have hlen:=r.length;exact truthy_tuple pl (by simp only [List.size_toArray];omega) ⟨H,I.tok _,by rw [Lg r];exact q⟩
  ·subst e';obtain ⟨hz,hS,vs,r,m⟩:kvs.length<=sizeLine/\(p==sysModules)=false/\∃ vs,KV kvs vs/\s.heap.DictOf (Cm X.prog X.w) p vs:=I.hok p _ hx;have hlen:kvs.length=vs.length:=Paired.length r;exact wpAny_truthy_dict hS m (by omega) ⟨H,I.tok _,by rw [U3 r];exact q⟩
 | _=>exact (show False from e).elim
theorem bA (ha:PE X a ta) (he:∀ whole,isTrue a X.env whole=(do let v ← whole;standAt a.pos;holding [v] (truthy v))) :
  PT X a (fun σ H Q=>ta σ H fun x H'=>∃ k,tL X.K x H' k/\Q k H'):=by
 intro pins s σ H Q I h;exact isTrue_plain (thn (ha pins s σ H _ I h) fun v s1 ⟨x,H1,I1,r1,q1⟩=>tM pins s1 σ H1 x v Q I1 r1 q1) (he _)
theorem U4:OpR X (binaryOp .Add) (fun x y H Q=>∃ i j,x=.str i/\y=.str j/\i.length+j.length<=sizeLine/\Q (.str (i++j)) H):=by
 intro pins s σ H x y v u Q I rx ry h;obtain ⟨i,j,rfl,rfl,hz,q⟩:=h;obtain ⟨t,rfl⟩:=rx;obtain ⟨t',rfl⟩:=ry;exact add_str (fun t' tk=>⟨.str (i++j),H,I.tok _,⟨_,rfl⟩,q⟩) hz
theorem vals1 {x:V}{us:List Value}(r:Vals [x] us):∃ u,us=[u]/\RelV x u:=by
 cases r with
 | cons r1 r2=>cases r2;exact ⟨_,rfl,r1⟩
theorem vals2 {x y:V}{us:List Value}(r:Vals [x,y] us):∃ u w',us=[u,w']/\RelV x u/\RelV y w':=by
 cases r with
 | cons r1 r2 =>
  cases r2 with
  | cons r3 r4=>cases r4;exact ⟨_,_,rfl,r1,r3⟩
theorem Yn (hc:X.calm=true):Az X (.builtin "min") (fun xs H Q=>∃ i j,xs=[.int i,.int j]/\Q (.int (if j < i then j else i)) H):=by
 intro pins s σ H xs us Q I r h;obtain ⟨i,j,rfl,q⟩:=h;obtain ⟨u,w',rfl,⟨t,rfl⟩,⟨t',rfl⟩⟩:=vals2 r;refine min_two_ints (I.ok.hd hc) fun h' tk k=>⟨_,H,I.kept k,?_,q⟩
 by_cases hj:j < i
 ·rw [if_pos hj,if_pos hj];exact ⟨_,rfl⟩
 ·rw [if_neg hj,if_neg hj];exact ⟨_,rfl⟩
end
structure ObjM (h:Heap) (x dx C:Addr) (mA:Str->Option Value):Prop where
 obj:h.get? x=some (PySem.W.instObj C dx)
 ns:h.Ns1 dx mA
 ne:dx≠x
theorem Yo {h:Heap}{dx:Addr}{mA:Str->Option Value}(n:h.Ns1 dx mA):∃ od,h.get? dx=some od/\∀ name,PySem.W.lookIn name od=some (mA name):=by
 obtain ⟨o,es,ep,ho,hd,hk,_,hm⟩:=n;refine ⟨o,ho,fun name=>?_⟩;have e:=hm name;unfold nsFind findBy at e;rw [← Array.find?_toList] at e;unfold PySem.W.lookIn;rw [hd];dsimp only;split
 ·rename_i y q;rw [q] at e;exact congrArg some e
 ·rename_i q;rw [q] at e;have a:es.toList.any (·.refKey)=false:=by
   rw [List.any_eq_false];intro y hy;obtain ⟨z,t,hkey⟩:=hk y (Array.mem_toList_iff.mp hy);simp [DictEntry.refKey,hkey]
  have a':¬ es.toList.any (·.refKey)=true:=by rw [a];exact Bool.false_ne_true
  rw [if_neg a'];exact congrArg some e
theorem ObjM.look {h:Heap}{x dx C:Addr}{mA:Str->Option Value}(I:ObjM h x dx C mA):∃ od,PySem.W.InstAt h x (PySem.W.instObj C dx) C (some od)/\∀ name,PySem.W.lookIn name od=some (mA name) :=
 let ⟨od,ho,hl⟩:=Yo I.ns
 ⟨od,⟨I.obj,rfl,rfl,ho⟩,hl⟩
section
variable {prog:Program}{w:World}{A:Around}{E:Value->Shared->Prop}{s:Shared}{K:PySem.W.Frag}{x dx C f:Addr}{mA:Str->Option Value}{name:Str}{v:Value}
theorem get_map {expr:Bool}{Q:Value->Shared->Prop}(X:K.In s.heap) (I:ObjM s.heap x dx C mA) (hg:PySem.W.plainGet K C name=true) (hh:PySem.W.hasDictIn K C=true)
  (ha:PySem.W.findIn K (.ref C) name=some none) (hv:mA name=some v) (hv':PySem.W.handedIn v=true) (h:Q v { s with toks:=s.toks+1 }) :
  wpAny (model prog w) A (getAttr (.ref x) name expr) Q E s:=by
 obtain ⟨od,J,hl⟩:=I.look;exact PySem.W.get_value X J (PySem.W.plainGet_of hg).1 (PySem.W.findObj_own hh ha rfl (by rw [hl,hv])) hv' h
theorem bB {pl:Sem Bool}{Q:Value×List Value->Shared->Prop}(X:K.In s.heap) (I:ObjM s.heap x dx C mA) (hg:PySem.W.plainGet K C name=true)
  (hf:PySem.W.findIn K (.ref C) name=some (some (.ref f))) (ht:PySem.W.isFn K (.ref f)=true) (hv:mA name=none) (h:Q (.ref f,[.ref x]) s) :
  wpAny (model prog w) A (getMethod (.ref x) name pl) Q E s:=by
 obtain ⟨od,J,hl⟩:=I.look;exact PySem.W.method_fn X J (PySem.W.plainGet_of hg).1 (PySem.W.plainGet_of hg).2 hf (beq_iff_eq.mp ht) (by show (PySem.W.lookIn name od).map (·.isSome)=some false;rw [hl,hv];rfl) h
theorem lO {ns:List Str}{Q:Unit->Shared->Prop}(X:K.In s.heap) (I:ObjM s.heap x dx C mA)
  (hs:PySem.W.findIn K (.ref C) "__setattr__"=some (some (.builtin "object.__setattr__"))) (hp:PySem.W.plainOver K C=true) (ht:PySem.W.takerIn K C name=some none) (hh:PySem.W.hasDictIn K C=true)
  (hw:PySem.Within mA ns) (hsz:ns.length<=sizeLine)
  (h:∀ h',ObjM h' x dx C (fun y=>if y=name then some v else mA y)->Heap.SameBut dx s.heap h'->Q () { s with heap:=h',toks:=s.toks+2 }) :
  wpAny (model prog w) A (setAttr (.ref x) name v) Q E s:=by
 obtain ⟨od,J,hl⟩:=I.look;refine PySem.W.set_plain X J hs (PySem.W.osa_open (s:={ s with toks:=s.toks+1 }) (r:=none) X J hp ht fun b=>?_);obtain ⟨cd,hc,hd'⟩:=PySem.W.any_some hh;have hx:s.heap.get? x=some ⟨.ref C,some dx,.plain,#[]⟩:=I.obj;refine wpAny_bind (wpAny_pure (wpAny_bind (wpAny_bind (wpAny_loadPart hx (wpAny_bind (PySem.W.Looks.here (s:={ s with toks:=s.toks+1 }) (PySem.W.looks_clsIn X hc) ?_))))));rw [hd'];refine wpAny_pure (a:=some dx) (wpAny_bind (wpAny_pure (wpAny_bind ?_)));refine wpAny_nsSet1 (s:={ s with toks:=s.toks+1 }) I.ns fun h' hn2 hs2=>?_
 obtain ⟨oD,esD,epD,hoD,hdD,hcD⟩:=hn2.count (PySem.Within.cons name v hw);refine wpAny_bind (wpAny_lookBehind hoD (by rw [hdD];exact pastItsLine_dict (Nat.le_trans hcD (by rw [List.length_cons];omega))) ?_);exact wpAny_pure (h _ ⟨(hs2.2 _ (Ne.symm I.ne)).trans I.obj,hn2,I.ne⟩ hs2)
theorem bC {R:Result->Shared->Prop}{vs:List Value}{kw:List (Str×Value)}(X:K.In s.heap) (hm:PySem.W.makesIn K C=true)
    (hi:PySem.W.findIn K (.ref C) "__init__"=some (some (.ref f))) (hf:PySem.W.typeIn K (.ref f)=some (.type "function"))
    (h:codeAny (model prog w) (A.under (.builtin "type.__call__" ⟨.ref C::vs,kw⟩)) (.call (.ref f) ⟨.ref (s.heap.objs.size+1)::vs,kw⟩) (PySem.W.InitBack (s.heap.objs.size+1) R)
      { s with heap:=(s.heap.push PySem.W.emptyDict).push (PySem.W.instObj C s.heap.objs.size) }) :
    codeAny (model prog w) A (.call (.ref C) ⟨vs,kw⟩) R s:=by
  obtain ⟨hh,g,d,t,os⟩:=s;exact PySem.W.make_core (PySem.W.makes_of X hm) (PySem.W.looks_findIn X hi) (fun self=>PySem.W.bind_fn X self hf) (.inl rfl) h
end
noncomputable def Hi (f:Str) (v:V):List (Str×V)->List (Str×V)
 | []=>[(f,v)]
 | (g,x)::r=>if g=f then (g,v)::r else (g,x)::Hi f v r
theorem J5 (f g:Str) (v:V):∀ fs:List (Str×V),(Hi f v fs).lookup g=if g=f then some v else fs.lookup g
 | []=>by
  show List.lookup g [(f,v)]=_
  by_cases h:g=f
  ·have hb:(g==f)=true:=beq_iff_eq.mpr h;simp only [List.lookup,hb,if_pos h]
  ·have hb:(g==f)=false:=beq_eq_false_iff_ne.mpr h;simp only [List.lookup,hb,if_neg h]
 | (k,x)::r=>by
  have ih:=J5 f g v r;rw [show Hi f v ((k,x)::r)=(if k=f then (k,v)::r else (k,x)::Hi f v r) from rfl]
  by_cases hk:k=f
  ·rw [if_pos hk]
   by_cases h:g=k
   ·have hb:(g==k)=true:=beq_iff_eq.mpr h;simp only [List.lookup,hb,if_pos (h.trans hk)]
   ·have hb:(g==k)=false:=beq_eq_false_iff_ne.mpr h;simp only [List.lookup,hb,if_neg (fun e:g=f=>h (e.trans hk.symm))]
  ·rw [if_neg hk]
   by_cases h:g=k
   ·have hb:(g==k)=true:=beq_iff_eq.mpr h;simp only [List.lookup,hb,if_neg (fun e:g=f=>hk (h.symm.trans e))]
   ·have hb:(g==k)=false:=beq_eq_false_iff_ne.mpr h;simp only [List.lookup,hb];exact ih
theorem Jo (f:Str) (v:V):∀ fs:List (Str×V),f∈(Hi f v fs).map (·.1)/\∀ g,g∈fs.map (·.1)->g∈(Hi f v fs).map (·.1)
 | []=>⟨by simp [Hi],fun g h=>by simp at h⟩
 | (k,x)::r=>by
  obtain ⟨i1,i2⟩:=Jo f v r;rw [show Hi f v ((k,x)::r)=(if k=f then (k,v)::r else (k,x)::Hi f v r) from rfl]
  by_cases hk:k=f
  ·rw [if_pos hk];subst hk;exact ⟨by simp,fun g h=>by simpa using h⟩
  ·rw [if_neg hk];refine ⟨?_,fun g h=>?_⟩
   ·rw [List.map_cons];exact List.mem_cons_of_mem _ i1
   ·rw [List.map_cons] at h ⊢;rcases List.mem_cons.mp h with e|e
    ·exact List.mem_cons.mpr (.inl e)
    ·exact List.mem_cons_of_mem _ (i2 g e)
theorem J6 (f:Str) (v:V):∀ fs:List (Str×V),(Hi f v fs).length<=fs.length+1
 | []=>by simp [Hi]
 | (k,x)::r=>by
  have ih:=J6 f v r;rw [show Hi f v ((k,x)::r)=(if k=f then (k,v)::r else (k,x)::Hi f v r) from rfl]
  by_cases hk:k=f
  ·rw [if_pos hk,List.length_cons,List.length_cons];omega
  ·rw [if_neg hk,List.length_cons,List.length_cons];omega
theorem Ob.some_of {v:V}{o:Option Value}(r:Ob (some v) o):∃ u,o=some u/\RelV v u:=by
 cases o with
 | none=>exact (show False from r).elim
 | some u=>exact ⟨u,rfl,r⟩
theorem Ob.none_of {o:Option Value}(r:Ob none o):o=none:=by
 cases o with
 | none=>rfl
 | some u=>exact (show False from r).elim
theorem Yp {v:V}{u:Value}(r:RelV v u):PySem.W.handedIn u=true:=by
 cases v with
 | non=>cases (show u=Value.none from r);rfl
 | bl b=>cases (show u=Value.bool b from r);rfl
 | int i=>obtain ⟨t,e⟩:=(show ∃ t,u=Value.int i t from r);cases e;rfl
 | str x=>obtain ⟨t,e⟩:=(show ∃ t,u=Value.str x t from r);cases e;rfl
 | byt b=>obtain ⟨t,e⟩:=(show ∃ t,u=Value.bytes b t from r);cases e;rfl
 | flt b=>obtain ⟨t,e⟩:=(show ∃ t,u=Value.float b t from r);cases e;rfl
 | ref a=>cases (show u=Value.ref a from r);rfl
 | ty n=>cases (show u=Value.type n from r);rfl
section
variable {P:Program}{w:World}{H H':Hp}{h h':Heap}{a C dx:Addr}{fs fs':List (Str×V)}
theorem Qh (hok:HOk P w H h) (e:H a=some (.ins C dx fs)):∃ mA,ObjM h a dx C mA/\(∀ f,Ob (fs.lookup f) (mA f))/\PySem.Within mA (fs.map (·.1))/\fs.length<=1000/\H dx=some (.own a):=by
 obtain ⟨d,z,ne,ob,mA,n,r,q⟩:=(show Dh P w H h a (.ins C dx fs) from hok a _ e);exact ⟨mA,⟨ob,n,ne⟩,r,q,z,d⟩
end
structure Cls (K:PySem.W.Frag) (C:Addr):Prop where
 pg:PySem.W.plainGet K C Str.empty=true
 hd:PySem.W.hasDictIn K C=true
 po:PySem.W.plainOver K C=true
 sa:PySem.W.findIn K (.ref C) "__setattr__"=some (some (.builtin "object.__setattr__"))
theorem Cls.get {K:PySem.W.Frag}{C:Addr}(c:Cls K C) (f:Str):PySem.W.plainGet K C f=true:=c.pg
noncomputable def Ed (K:PySem.W.Frag) (C:Addr) (f:Str):Prop:=PySem.W.findIn K (.ref C) f=some none
theorem Ed.taker {K:PySem.W.Frag}{C:Addr}{f:Str}(n:Ed K C f):PySem.W.takerIn K C f=some none:=by
 unfold PySem.W.takerIn;rw [show PySem.W.findIn K (.ref C) f=some none from n];rfl
structure Meth (K:PySem.W.Frag) (C:Addr) (m:Str) (f:Addr):Prop where
 at_:PySem.W.findIn K (.ref C) m=some (some (.ref f))
 fn:PySem.W.isFn K (.ref f)=true
 kp:PySem.W.keepIn K (.ref f)=true
section
variable {X:Cx}{pins:List (Addr×Obj)}{σ:St}{H:Hp}{s:Shared}{a C dx:Addr}{fs:List (Str×V)}{f:Str}{v:V}{A:Around}{E:Value->Shared->Prop}
theorem U5 {b:Bool}{Q:Value->Shared->Prop}(I:Inv X pins σ H s) (e:H a=some (.ins C dx fs)) (c:Cls X.K C) (n:Ed X.K C f) (l:fs.lookup f=some v)
  (h:∀ u s',Inv X pins σ H s'->RelV v u->Q u s'):wpAny (model X.prog X.w) A (getAttr (.ref a) f b) Q E s:=by
 obtain ⟨mA,O,r,_,_,_⟩:=Qh I.hok e;obtain ⟨u,hu,ru⟩:=Ob.some_of (v:=v) (o:=mA f) (by rw [← l];exact r f);exact get_map I.kIn O (c.get f) c.hd n hu (Yp ru) (h u _ (I.tok _) ru)
theorem Lh {m:Str}{g:Addr}{pl:Sem Bool}{Q:Value×List Value->Shared->Prop}(I:Inv X pins σ H s) (e:H a=some (.ins C dx fs)) (c:Cls X.K C) (k:Meth X.K C m g) (l:fs.lookup m=none)
  (h:Q (.ref g,[.ref a]) s):wpAny (model X.prog X.w) A (getMethod (.ref a) m pl) Q E s:=by
 obtain ⟨mA,O,r,_,_,_⟩:=Qh I.hok e;have hn:mA m=none:=Ob.none_of (by rw [← l];exact r m);exact bB I.kIn O (c.get m) k.at_ k.fn hn h
theorem U6 {y:V}{u:Value}{Q:Unit->Shared->Prop}(I:Inv X pins σ H s) (e:H a=some (.ins C dx fs)) (c:Cls X.K C) (n:Ed X.K C f) (hl:fs.length < 1000) (ry:RelV y u)
  (h:∀ s',Inv X pins σ (upd H a (.ins C dx (Hi f y fs))) s'->Q () s'):wpAny (model X.prog X.w) A (setAttr (.ref a) f u) Q E s:=by
 obtain ⟨mA,O,r,wi,_,ho⟩:=Qh I.hok e;have hz:(fs.map (·.1)).length<=sizeLine:=by rw [List.length_map,sizeLine_eq];omega
 refine lO I.kIn O c.sa c.po n.taker c.hd wi hz fun h' O' sb=>h _ ?_
 have hd:∃ o,h'.get? dx=some o:=let ⟨o,_,_,e',_⟩:=O'.ns;⟨o,e'⟩;refine I.write (x:=a) (e:=dx) (by rw [e];exact True.intro) (.inr ho) (fun b q hb z=>(sb.2 b hb).trans z) hd ?_;refine ⟨by rw [Aj O.ne];exact ho,?_,O.ne,O'.obj,_,O'.ns,fun g=>?_,fun g hg=>?_⟩
 ·have:=J6 f y fs;omega
 ·show Ob ((Hi f y fs).lookup g) (if g=f then some u else mA g);rw [J5]
  by_cases q:g=f
  ·rw [if_pos q,if_pos q];exact ry
  ·rw [if_neg q,if_neg q];exact r g
 ·by_cases q:g=f
  ·rw [q];exact (Jo f y fs).1
  ·refine (Jo f y fs).2 g (wi g fun z=>hg ?_);show (if g=f then some u else mA g)=none;rw [if_neg q];exact z
theorem Inv.made (I:Inv X pins σ H s):Inv X pins σ (upd (upd H s.heap.objs.size (.own (s.heap.objs.size+1))) (s.heap.objs.size+1) (.ins C s.heap.objs.size []))
    { s with heap:=(s.heap.push PySem.W.emptyDict).push (PySem.W.instObj C s.heap.objs.size) }:=by
  have e1:(s.heap.push PySem.W.emptyDict).get? s.heap.objs.size=some PySem.W.emptyDict:=Heap.get?_push_size s.heap rfl;have e2:((s.heap.push PySem.W.emptyDict).push (PySem.W.instObj C s.heap.objs.size)).get? (s.heap.objs.size+1)=some (PySem.W.instObj C s.heap.objs.size):=by
    have:=Heap.get?_push_size (s.heap.push PySem.W.emptyDict) (o:=PySem.W.instObj C s.heap.objs.size) rfl
    rwa [Heap.size_push] at this
  have e3:(s.heap.push PySem.W.emptyDict).Ns s.heap.objs.size (fun _=>none):=⟨PySem.W.emptyDict,#[],_,e1,rfl,(fun e he=>absurd he (by simp)),fun _=>rfl⟩;have I1:=I.laid (a:=s.heap.objs.size) (o:=.own (s.heap.objs.size+1)) (h':=s.heap.push PySem.W.emptyDict) (t':=s.toks) (fun b u q=>Heap.get?_push_of_some _ q) (Nat.le_refl _) ⟨_,e1⟩;refine I1.laid (a:=s.heap.objs.size+1) (o:=.ins C s.heap.objs.size []) (t':=s.toks) (fun b u q=>Heap.get?_push_of_some _ q) (Nat.le_of_eq (Heap.size_push _ _)) ?_;have ne:s.heap.objs.size≠s.heap.objs.size+1:=Nat.ne_of_lt (Nat.lt_succ_self _);refine ⟨by rw [Aj ne,Ay],Nat.zero_le _,ne,e2,fun _=>none,(Heap.Ns1.of_empty e3).at fun o q=>Heap.get?_push_of_some _ q,fun _=>True.intro,fun y hy=>absurd rfl hy⟩
theorem lQ {prog:Program}{w:World}{env:Env}{e:Expr}{f:Str}{pos:Pos}{s:Shared}{Q:Value->Shared->Prop}(hb:attributeBase e f env (eval e env)=eval e env)
  (h:wpAny (model prog w) A (eval e env) (fun o s₁=>wpAny (model prog w) A (getAttr o f true) Q E s₁) E s):wpAny (model prog w) A (eval (.Attribute e f pos) env) Q E s :=
 Attribute_any_ h (by rw [arm_eval_Attribute,hb])
end
noncomputable def Acf (K:PySem.W.Frag) (ta:TE) (f:Str):TE:=fun σ H Q=>ta σ H fun x H1=>∃ a C dx fs v,x=.ref a/\H1 a=some (.ins C dx fs)/\Cls K C/\Ed K C f/\fs.lookup f=some v/\Q v H1
noncomputable def Acg (K:PySem.W.Frag) (ta tv:TE) (f:Str):TS:=fun D σ H=>tv σ H fun y H1=>ta σ H1 fun x H2=>∃ a C dx fs,x=.ref a/\H2 a=some (.ins C dx fs)/\Cls K C/\Ed K C f/\fs.length < 1000 /\
 D.nx σ (upd H2 a (.ins C dx (Hi f y fs)))
section
variable {X:Cx}{o e value:Expr}{f:Str}{pos pos' tpos:Pos}{ta tv:TE}
theorem tO (he:PE X e ta) (hb:attributeBase e f X.env (eval e X.env)=eval e X.env):PE X (.Attribute e f pos) (Acf X.K ta f):=by
 intro pins s σ H Q I h;refine lQ hb (thn (he pins s σ H _ I h) ?_);rintro u s1 ⟨x,H1,I1,rx,a,C,dx,fs,v,ex,ea,c,n,l,q⟩;subst ex;obtain rfl:u=Value.ref a:=rx;exact U5 I1 ea c n l fun u' s2 I2 ru=>⟨v,H1,I2,ru,q⟩
theorem tQ (ha:PE X o ta) (hv:PE X value tv) (hs:swapsWith value (some (.Attribute o f pos')) pos.line X.env=pure false):PS X (.Assign [.Attribute o f pos'] value pos) (Acg X.K ta tv f):=by
 intro pins s σ H D I h;refine plainObj_wpAny_Assign_Attribute (thn (hv pins s σ H _ I h) fun u s1 ⟨y,H1,I1,ry,q⟩=>thn (ha pins s1 σ H1 _ I1 q) ?_) hs;rintro ov s2 ⟨x,H2,I2,rx,a,C,dx,fs,ex,ea,c,n,l,q2⟩;subst ex;obtain rfl:ov=Value.ref a:=rx;exact U6 I2 ea c n l ry fun s3 I3=>⟨σ,_,I3,q2⟩
end
section
variable {X:Cx}{pins:List (Addr×Obj)}{σ:St}{H:Hp}{s:Shared}{A:Around}{E:Value->Shared->Prop}{Q:Value->Shared->Prop}{c:Value}{b:Bool}
end
structure Room (k:Nat) (A:Around):Prop where
 hd:A.handled=none
 dp:A.depth+3 * k+5 < recursionLimit
 un:A.units+16 * k+200 < cLine
theorem Room.mono {j k:Nat}{A:Around}(r:Room k A) (h:j<=k):Room j A:=⟨r.hd,by have:=r.dp;omega,by have:=r.un;omega⟩
theorem Room.deeper {k:Nat}{A:Around}(r:Room (k+1) A) (env:Env):Room k (A.deeper env) :=
 ⟨r.hd,by have:=r.dp;show A.depth+1+3 * k+5 < _;omega,by have:=r.un;show A.units+3+16 * k+200 < _;omega⟩
theorem U7 {A:Around}{C:Addr}{us:List Value}{kw:List (Str×Value)}:(A.under (.builtin "type.__call__" ⟨.ref C::us,kw⟩)).depth=A.depth+1:=by
 first | rfl | simp [Around.under,Code.weight,Code.isCreation,Code.isGuard,Code.isCaller,Code.frames,Code.isFrame,guardIds]
theorem U8 {A:Around}{C:Addr}{us:List Value}{kw:List (Str×Value)}:(A.under (.builtin "type.__call__" ⟨.ref C::us,kw⟩)).units=A.units+1:=by
 first | rfl | simp [Around.under,Code.cUnits,Code.frames,Code.isFrame]
theorem Room.make {k:Nat}{A:Around}(r:Room (k+1) A) (C:Addr) (us:List Value) (kw:List (Str×Value)):Room k (A.under (.builtin "type.__call__" ⟨.ref C::us,kw⟩)) :=
 ⟨r.hd,by have:=r.dp;rw [U7];omega,by have:=r.un;rw [U8];omega⟩
theorem Room.depth {k:Nat}{A:Around}(r:Room k A):A.depth < recursionLimit:=by have:=r.dp;omega
theorem Room.units {k:Nat}{A:Around}(r:Room k A):A.units+64 < cLine:=by have:=r.un;omega
noncomputable def tR:TA:=fun _ H Q=>Q [] H
noncomputable def Aac (ta:TE) (tr:TA):TA:=fun σ H Q=>ta σ H fun x H1=>tr σ H1 fun xs H2=>Q (x::xs) H2
section
variable {X:Cx}{e:Expr}{es:List Expr}{te:TE}{t:TA}{pos:Pos}
theorem Ef:PA X [] tR:=fun _ _ _ _ H Q I h=>Calls.spliced_nil ⟨[],H,I,.nil,h⟩
theorem Cp (ha:PE X e te) (hr:PA X es t) (hs:starEach (e::es) X.env=(false,eval e X.env)::starEach es X.env:=by rfl):PA X (e::es) (Aac te t):=by
 intro pos pins s σ H Q I h;rw [hs];show wpAny _ _ (spliced ((false,eval e X.env)::backTo pos (starEach es X.env))) _ _ s;refine Calls.spliced_cons (thn (ha pins s σ H _ I h) ?_);rintro u s1 ⟨x,H1,I1,r1,q1⟩;refine thn (hr pos pins s1 σ H1 _ I1 q1) ?_;rintro us s2 ⟨xs,H2,I2,r2,q2⟩;exact ⟨x::xs,H2,I2,.cons r1 r2,q2⟩
noncomputable def Ach (t:TA):TE:=fun σ H Q=>t σ H fun xs H1=>xs.length<=sizeLine/\∀ p,H1 p=none->Q (.ref p) (upd H1 p (.tup xs))
noncomputable def Aci (t:TA):TE:=fun σ H Q=>t σ H fun xs H1=>xs.length<=sizeLine/\∀ p,H1 p=none->Q (.ref p) (upd H1 p (.lst xs))
theorem tU {x1}(h:PA X es t):PE X (.Tuple es x1 pos) (Ach t):=by
 intro pins s σ H Q I hq;refine wpAny_Tuple_spliced (thn (h pos pins s σ H _ I hq) ?_);rintro us s1 ⟨xs,H1,I1,r,z,q⟩;refine ⟨by rw [← r.length];exact z,?_⟩;have hf:H1 s1.heap.objs.size=none:=I1.hok.fresh (Nat.le_refl _);refine ⟨.ref s1.heap.objs.size,upd H1 s1.heap.objs.size (.tup xs),I1.laid (t':=s1.toks) (fun b u e=>Heap.get?_push_of_some _ e) (Nat.le_refl _) ?_,rfl,q _ hf⟩;exact ⟨z,us,r,⟨_,Heap.get?_push_size _ rfl,rfl,rfl,_,rfl⟩⟩
theorem tV (h:PA X es t):PE X (.List es pos) (Aci t):=by
 intro pins s σ H Q I hq;refine wpAny_List_spliced (thn (h pos pins s σ H _ I hq) ?_);rintro us s1 ⟨xs,H1,I1,r,z,q⟩;refine ⟨by rw [← r.length];exact z,?_⟩;have hf:H1 s1.heap.objs.size=none:=I1.hok.fresh (Nat.le_refl _);refine ⟨.ref s1.heap.objs.size,upd H1 s1.heap.objs.size (.lst xs),I1.laid (t':=s1.toks) (fun b u e=>Heap.get?_push_of_some _ e) (Nat.le_refl _) ?_,rfl,q _ hf⟩;exact ⟨z,us,0,r,Heap.get?_push_size _ rfl⟩
end
noncomputable abbrev Sp:=List V->Hp->VK->XK->Prop
noncomputable abbrev CXT:=List Env->Hp->Shared->XK->Value->Shared->Prop
structure Env0 (P:Program) (w:World) (K:PySem.W.Frag) (mg:Str->Option Value) (base:Heap) (A:Around) (outer:List Env) (s:Shared) (H:Hp):Prop where
 frames:A.frames=some outer
 mod:Mod K mg base
 bs:∀ b o,base.get? b=some o->s.heap.get? b=some o/\H b=none
 bsz:base.objs.size<=s.heap.objs.size
 funs:s.heap.FunFrames base outer
 frf:∀ b∈frs outer,H b=none
 hok:HOk P w H s.heap
 bare:AllBare s.gens
noncomputable def CE (outer:List Env) (P:Program) (w:World) (H:Hp) (s:Shared) (Q:VK) (u:Value) (s':Shared):Prop :=
 ∃ v H',s'.os=s.os/\AllBare s'.gens/\Un (frs outer) [] H H' s.heap s'.heap/\HOk P w H' s'.heap/\RelV v u/\Q v H'
noncomputable def CR (CX:CXT) (outer:List Env) (P:Program) (w:World) (H:Hp) (s:Shared) (Q:VK) (E:XK) (r:Result) (s':Shared):Prop :=
 match r with
 | .ok (.ret u)=>CE outer P w H s Q u s'
 | .ok _=>False
 | .error e=>CX outer H s E e s'
structure FnOk (P:Program) (w:World) (K:PySem.W.Frag) (mg:Str->Option Value) (base:Heap) (CX:CXT) (k:Nat) (f:Addr) (fd:FuncData) (ps:List Str) (sp:Sp):Prop where
 len:∀ vs H Q E,sp vs H Q E->vs.length=ps.length
 run:∀ (A:Around) (outer:List Env) (s:Shared) (H:Hp) (args:Args) (us:List Value) (vs:List V) (Q:VK) (E:XK),Room k A->Env0 P w K mg base A outer s H->BindsTo s fd args (ps.zip us)->Vals vs us->sp vs H Q E ->
  codeAny (model P w) A (.call (.ref f) args) (CR CX outer P w H s Q E) s
theorem Env0.make {P:Program}{w:World}{K:PySem.W.Frag}{mg:Str->Option Value}{base:Heap}{A:Around}{outer:List Env}{s:Shared}{H:Hp}(e:Env0 P w K mg base A outer s H) (C:Addr) (us:List Value) (kw:List (Str×Value)) :
  Env0 P w K mg base (A.under (.builtin "type.__call__" ⟨.ref C::us,kw⟩)) outer s H:=⟨by first | exact e.frames | (simpa [Around.under,Code.envs,Code.isFrame,pushEnvs] using e.frames),e.mod,e.bs,e.bsz,e.funs,e.frf,e.hok,e.bare⟩
section
variable {X:Cx}{pins:List (Addr×Obj)}{σ:St}{H:Hp}{s s':Shared}
theorem Inv.env0 (I:Inv X pins σ H s):Env0 X.prog X.w X.K X.mg X.base X.A X.stack s H :=
 ⟨I.ok.frames,I.ok.mod,I.bs,Nat.le_trans I.ok.bsz I.sz,I.stack,I.stkFree,I.hok,I.bare⟩
theorem Inv.after {Q:VK}{u:Value}(I:Inv X pins σ H s) (h:CE X.stack X.prog X.w H s Q u s'):EP X pins σ Q u s':=by
 obtain ⟨v,H',os,bare,un,hok,r,q⟩:=h;obtain ⟨hh,g,d,t,os'⟩:=s';obtain rfl:os'=s.os:=os;exact ⟨v,H',I.call (h':=hh) (g':=g) (d':=d) (t':=t) (ch:=[]) un hok bare (fun b z=>absurd z (by simp)),r,q⟩
end
noncomputable def qO (sp:Sp) (dvs:List V) (E:XK) (t:TA):TE:=fun σ H Q=>t σ H fun vs H1=>sp (vs++dvs) H1 Q E
noncomputable def qP (C:Addr) (m:Str) (sp:Sp) (dvs:List V) (E:XK) (ta:TE) (t:TA):TE:=fun σ H Q=>ta σ H fun x H1=>∃ a dx fs,x=.ref a/\H1 a=some (.ins C dx fs)/\fs.lookup m=none /\
 t σ H1 fun vs H2=>sp (x::(vs++dvs)) H2 Q E
noncomputable def Aad (C:Addr) (sp:Sp) (dvs:List V) (E:XK) (t:TA):TE:=fun σ H Q=>t σ H fun vs H1=>∀ x dx,H1 x=none->H1 dx=none->dx≠x ->
 sp (.ref x::(vs++dvs)) (upd (upd H1 dx (.own x)) x (.ins C dx [])) (fun v H2=>v=.non/\Q (.ref x) H2) E
noncomputable def Binds (K:PySem.W.Frag) (fd:FuncData) (ps:List Str) (ds:List Value):Prop :=
 ∀ (s:Shared) (us:List Value),K.In s.heap->(us++ds).length=ps.length->BindsTo s fd ⟨us,[]⟩ (ps.zip (us++ds))
theorem Binds.all {K:PySem.W.Frag}{fd:FuncData}{ps:List Str}(h:∀ us:List Value,us.length=ps.length->bindArgs fd ⟨us,[]⟩=pure (ps.zip us)):Binds K fd ps []:=fun s us _ hl=>by
 rw [List.append_nil] at hl ⊢;exact .of_eq (h us hl)
noncomputable def Cq (CX:CXT) (X:Cx) (E:XK):Prop:=∀ (pins:List (Addr×Obj)) (σ:St) (H:Hp) (s:Shared) (e:Value) (s':Shared),Inv X pins σ H s->CX X.stack H s E e s'->X.xe e s'
section
variable {X:Cx}{CX:CXT}{k:Nat}{f C:Addr}{fd:FuncData}{ps:List Str}{sp:Sp}{dvs:List V}{ds:List Value}{E:XK}{x m:Str}{p pos apos:Pos}{e o:Expr}{es:List Expr}{ta:TE}{t:TA}
theorem Qi {pins:List (Addr×Obj)}{σ:St}{H:Hp}{s:Shared}{Q:VK}{us:List Value}{vs:List V}(F:FnOk X.prog X.w X.K X.mg X.base CX k f fd ps sp) (hr:Room k X.A) (hb:Binds X.K fd ps ds) (hd:Vals dvs ds) (hx:Cq CX X E)
  (I:Inv X pins σ H s) (r:Vals vs us) (h:sp (vs++dvs) H Q E):wpAny (model X.prog X.w) X.A (call (.ref f) us) (EP X pins σ Q) X.xe s:=by
 have r2:Vals (vs++dvs) (us++ds):=r.append hd;have hl:(us++ds).length=ps.length:=by rw [← r2.length];exact F.len _ _ _ _ h
 refine wpAny_call (codeAny_mono (F.run X.A X.stack s H ⟨us,[]⟩ (us++ds) (vs++dvs) Q E hr I.env0 (hb s us I.kIn hl) r2 h) fun r s' hq=>?_);cases r with
 | error e=>exact hx pins σ H s e s' I hq
 | ok fl =>
  cases fl with
  | ret u=>exact I.after hq
  | next=>exact False.elim hq
  | brk=>exact False.elim hq
  | cont=>exact False.elim hq
theorem lR (F:FnOk X.prog X.w X.K X.mg X.base CX k f fd ps sp) (hr:Room k X.A) (hg:Gl X x) (hm:X.mg x=some (.ref f)) (hk:PySem.W.keepIn X.K (.ref f)=true) (hb:Binds X.K fd ps ds) (hd:Vals dvs ds) (hx:Cq CX X E)
  (ha:PA X (e::es) t) (hdb:(x==("__debug__":Str))=false:=by decide) (he:starEach (e::es) X.env=(false,eval e X.env)::starEach es X.env:=by rfl) (hpl:(backTo pos (starEach es X.env)).any (·.1)=false:=by rfl) :
  PE X (.Call (.Name x p) (e::es) [] pos) (qO sp dvs E t):=by
 intro pins s σ H Q I h;refine wpAny_Call_Name_kw (K4 I hg hm ?_ hdb);refine PySem.W.callWith_K (h₀:=X.base) I.ok.mod.kin hk (thn (ha pos pins s σ H _ I h) fun us s1 ⟨vs,H1,I1,r,q⟩=>⟨I1.kIn,?_⟩) he hpl;exact Qi F hr hb hd hx I1 r q
theorem bD (F:FnOk X.prog X.w X.K X.mg X.base CX k f fd ps sp) (hr:Room k X.A) (hg:Gl X x) (hm:X.mg x=some (.ref f)) (hk:PySem.W.keepIn X.K (.ref f)=true) (hb:Binds X.K fd ps ds) (hd:Vals dvs ds) (hx:Cq CX X E)
  (hdb:(x==("__debug__":Str))=false:=by decide):PE X (.Call (.Name x p) [] [] pos) (qO sp dvs E tR):=by
 intro pins s σ H Q I h;refine wpAny_Call_Name_kw (K4 I hg hm ?_ hdb);exact PySem.W.callWith_K0 I.kIn hk (Qi (us:=[]) F hr hb hd hx I .nil h)
theorem lU {pl:Sem Bool}(he:PE X o ta) (c:Cls X.K C) (hm:Meth X.K C m f) (F:FnOk X.prog X.w X.K X.mg X.base CX k f fd ps sp) (hr:Room k X.A) (hb:Binds X.K fd ps ds) (hd:Vals dvs ds) (hx:Cq CX X E) (ha:PA X (e::es) t)
  (hst:starEach (e::es) X.env=(false,eval e X.env)::starEach es X.env:=by rfl) (hpl:(backTo pos (starEach es X.env)).any (·.1)=false:=by rfl)
  (ht:eval (.Call (.Attribute o m apos) (e::es) [] pos) X.env=(do
   let ov ← eval o X.env
   standAt apos.atName
   let (f,first) ← holding [ov] (getMethod ov m pl)
   callWith pos f first (backTo pos (starEach (e::es) X.env)) (backToKw pos (keywordEach [] X.env))):=by rfl) :
  PE X (.Call (.Attribute o m apos) (e::es) [] pos) (qP C m sp dvs E ta t):=by
 intro pins s σ H Q I h;refine PySem.W.methodCall_KW (pl:=pl) (thn (he pins s σ H _ I h) ?_) ht;rintro u s1 ⟨x,H1,I1,rx,a,dx,fs,ex,ea,l,q⟩;subst ex;obtain rfl:u=Value.ref a:=rx;refine Lh I1 ea c hm l ?_;refine PySem.W.callWith_K (first:=[.ref a]) (h₀:=X.base) I.ok.mod.kin hm.kp (thn (ha pos pins s1 σ H1 _ I1 q) fun us s2 ⟨vs,H2,I2,r,q2⟩=>⟨I2.kIn,?_⟩) hst hpl;exact Qi (us:=.ref a::us) (vs:=.ref a::vs) F hr hb hd hx I2 (.cons rfl r) q2
theorem bF {pl:Sem Bool}(he:PE X o ta) (c:Cls X.K C) (hm:Meth X.K C m f) (F:FnOk X.prog X.w X.K X.mg X.base CX k f fd ps sp) (hr:Room k X.A) (hb:Binds X.K fd ps ds) (hd:Vals dvs ds) (hx:Cq CX X E)
  (ht:eval (.Call (.Attribute o m apos) [] [] pos) X.env=(do
   let ov ← eval o X.env
   standAt apos.atName
   let (f,first) ← holding [ov] (getMethod ov m pl)
   callWith pos f first (backTo pos (starEach [] X.env)) (backToKw pos (keywordEach [] X.env))):=by rfl) :
  PE X (.Call (.Attribute o m apos) [] [] pos) (qP C m sp dvs E ta tR):=by
 intro pins s σ H Q I h;refine PySem.W.methodCall_KW (pl:=pl) (thn (he pins s σ H _ I h) ?_) ht;rintro u s1 ⟨x,H1,I1,rx,a,dx,fs,ex,ea,l,q⟩;subst ex;obtain rfl:u=Value.ref a:=rx;refine Lh I1 ea c hm l ?_;exact PySem.W.callWith_K0 (first:=[.ref a]) I1.kIn hm.kp (Qi (us:=[.ref a]) (vs:=[.ref a]) F hr hb hd hx I1 (.cons rfl .nil) q)
structure Mk (K:PySem.W.Frag) (C f:Addr):Prop where
 makes:PySem.W.makesIn K C=true
 init:PySem.W.findIn K (.ref C) "__init__"=some (some (.ref f))
 fn:PySem.W.isFn K (.ref f)=true
 kp:PySem.W.keepIn K (.ref C)=true
theorem bG {pins:List (Addr×Obj)}{σ:St}{H:Hp}{s:Shared}{Q:VK}{us:List Value}{vs:List V}(M:Mk X.K C f) (F:FnOk X.prog X.w X.K X.mg X.base CX k f fd ps sp) (hr:Room (k+1) X.A) (hb:Binds X.K fd ps ds) (hd:Vals dvs ds)
  (hx:Cq CX X E) (I:Inv X pins σ H s) (r:Vals vs us)
  (h:∀ x dx,H x=none->H dx=none->dx≠x->sp (.ref x::(vs++dvs)) (upd (upd H dx (.own x)) x (.ins C dx [])) (fun v H2=>v=.non/\Q (.ref x) H2) E) :
  wpAny (model X.prog X.w) X.A (call (.ref C) us) (EP X pins σ Q) X.xe s:=by
 have hq:=h (s.heap.objs.size+1) s.heap.objs.size (I.hok.fresh (Nat.le_succ _)) (I.hok.fresh (Nat.le_refl _)) (Nat.ne_of_lt (Nat.lt_succ_self _));have I2:=Inv.made (C:=C) I;have r2:Vals (V.ref (s.heap.objs.size+1)::(vs++dvs)) (Value.ref (s.heap.objs.size+1)::(us++ds)):=.cons rfl (r.append hd);have hl:(Value.ref (s.heap.objs.size+1)::us++ds).length=ps.length:=by
  have e:=r2.length;rw [F.len _ _ _ _ hq] at e;exact e.symm
 refine wpAny_call (bC (f:=f) I.kIn M.makes M.init (beq_iff_eq.mp M.fn) (codeAny_mono (F.run _ X.stack _ _ ⟨Value.ref (s.heap.objs.size+1)::us,[]⟩ (Value.ref (s.heap.objs.size+1)::(us++ds)) _ _ E (hr.make C us [])
  (I2.env0.make C us []) (hb _ (Value.ref (s.heap.objs.size+1)::us) I2.kIn hl) r2 hq) fun r s' hq'=>?_))
 cases r with
 | error e=>exact hx pins σ _ _ e s' I2 hq'
 | ok fl =>
  cases fl with
  | ret u =>
   obtain ⟨v,H',I3,rv,ev,q3⟩:=I2.after hq';subst ev;exact ⟨rv,⟨V.ref (s.heap.objs.size+1),H',I3,rfl,q3⟩⟩
  | next=>exact False.elim hq'
  | brk=>exact False.elim hq'
  | cont=>exact False.elim hq'
theorem lV (M:Mk X.K C f) (F:FnOk X.prog X.w X.K X.mg X.base CX k f fd ps sp) (hr:Room (k+1) X.A) (hg:Gl X x) (hm:X.mg x=some (.ref C)) (hb:Binds X.K fd ps ds) (hd:Vals dvs ds) (hx:Cq CX X E)
  (ha:PA X (e::es) t) (hdb:(x==("__debug__":Str))=false:=by decide) (he:starEach (e::es) X.env=(false,eval e X.env)::starEach es X.env:=by rfl) (hpl:(backTo pos (starEach es X.env)).any (·.1)=false:=by rfl) :
  PE X (.Call (.Name x p) (e::es) [] pos) (Aad C sp dvs E t):=by
 intro pins s σ H Q I h;refine wpAny_Call_Name_kw (K4 I hg hm ?_ hdb);refine PySem.W.callWith_K (h₀:=X.base) I.ok.mod.kin M.kp (thn (ha pos pins s σ H _ I h) fun us s1 ⟨vs,H1,I1,r,q⟩=>⟨I1.kIn,?_⟩) he hpl;exact bG M F hr hb hd hx I1 r q
end
section
variable {X:Cx}{CX:CXT}{k:Nat}{f C:Addr}{fd:FuncData}{ps ks:List Str}{sp:Sp}{E:XK}{x m:Str}{p pos apos kpos:Pos}{e o:Expr}{es:List Expr}{kws:List Keyword}{te ta:TE}{t tk:TA}{nm:Option Str}
variable {g:List Value->List Value->List Value}{gV:List V->List V->List V}
end
structure FnScope (N P:List Str) (sc:Scope):Prop where
 kind:sc.kind=.function
 co:sc.isCoroutine=false
 gen:sc.isGenerator=false
 nd:N.Nodup
 pre:N.take P.length=P
 par:∀ x∈P,sc.names.lookup x=some .local\/sc.names.lookup x=some .cell
 nofree:∀ y∈sc.names,y.2≠.free
theorem Oq {kindOf:Str->Option NameKind}{x:Str}:∀ {binds:List (Str×Value)}{m:Str->Option Value},(∀ v,(x,v) ∉ binds)->bindL kindOf binds m x=m x
 | [],_,_=>rfl
 | (n,v)::r,m,h=>by
  unfold bindL;rw [Oq fun w hw=>h w (List.mem_cons_of_mem _ hw)];split
  ·have:x≠n:=by rintro rfl;exact h v List.mem_cons_self
   simp [this]
  ·rfl
theorem Ot {kindOf:Str->Option NameKind}{x:Str}:∀ {binds:List (Str×Value)}{m:Str->Option Value},(∀ v,(x,v) ∉ binds)->bindC kindOf binds m x=m x
 | [],_,_=>rfl
 | (n,v)::r,m,h=>by
  unfold bindC;rw [Ot fun w hw=>h w (List.mem_cons_of_mem _ hw)];split
  ·rfl
  ·have:x≠n:=by rintro rfl;exact h v List.mem_cons_self
   simp [this]
theorem Ou {kindOf:Str->Option NameKind}{x:Str}{v:Value}:∀ {P:List Str}{vs:List Value}{i:Nat}{m:Str->Option Value},P.Nodup->P[i]?=some x->vs[i]?=some v->kindOf x=some .local ->
  bindL kindOf (P.zip vs) m x=some v
 | [],_,_,_,_,h,_,_=>by simp at h
 | _::_,[],_,_,_,_,h,_=>by simp at h
 | p::P,w::vs,0,m,nd,h1,h2,hk=>by
  simp at h1 h2;subst h1;subst h2;show bindL kindOf ((p,w)::P.zip vs) m p=_;unfold bindL;rw [Oq fun v hv=>(List.nodup_cons.mp nd).1 (List.of_mem_zip hv).1,if_pos hk];simp
 | p::P,w::vs,i+1,m,nd,h1,h2,hk=>by
  show bindL kindOf ((p,w)::P.zip vs) m x=_;unfold bindL;exact Ou (i:=i) (List.nodup_cons.mp nd).2 (by simpa using h1) (by simpa using h2) hk
theorem Ov {kindOf:Str->Option NameKind}{x:Str}{v:Value}:∀ {P:List Str}{vs:List Value}{i:Nat}{m:Str->Option Value},P.Nodup->P[i]?=some x->vs[i]?=some v->kindOf x≠some .local ->
  bindC kindOf (P.zip vs) m x=some v
 | [],_,_,_,_,h,_,_=>by simp at h
 | _::_,[],_,_,_,_,h,_=>by simp at h
 | p::P,w::vs,0,m,nd,h1,h2,hk=>by
  simp at h1 h2;subst h1;subst h2;show bindC kindOf ((p,w)::P.zip vs) m p=_;unfold bindC;rw [Ot fun v hv=>(List.nodup_cons.mp nd).1 (List.of_mem_zip hv).1,if_neg hk];simp
 | p::P,w::vs,i+1,m,nd,h1,h2,hk=>by
  show bindC kindOf ((p,w)::P.zip vs) m x=_;unfold bindC;exact Ov (i:=i) (List.nodup_cons.mp nd).2 (by simpa using h1) (by simpa using h2) hk
noncomputable def start (N:List Str) (vs:List V):St:=vs.map some++List.replicate (N.length - vs.length) none
noncomputable def Yq (CX:CXT) (P:Program) (w:World) (K:PySem.W.Frag) (mg:Str->Option Value) (base:Heap) (N:List Str) (qual:Str) (scope:Scope) (f:Addr) (cd:Value) (A:Around) (outer:List Env) (s:Shared) (H:Hp) (E:XK):Cx where
 prog:=P
 w:=w
 K:=K
 mg:=mg
 base:=base
 A:=A.deeper (envOfC qual scope s.heap.objs.size f cd)
 N:=N
 s₀:=s
 H₀:=H
 env:=envOfC qual scope s.heap.objs.size f cd
 outer:=outer
 stack:=envOfC qual scope s.heap.objs.size f cd::outer
 ex:=[]
 calm:=true
 fn:=fun _=>true
 pn:=[]
 xe:=fun e s'=>wpAny (model P w) (A.deeper (envOfC qual scope s.heap.objs.size f cd)) (leaving (envOfC qual scope s.heap.objs.size f cd) e) (fun _ s''=>CX outer H s E e s'') (fun e' s''=>CX outer H s E e' s'') s'
theorem Rt {sc:Scope}{n:Nat}{x:Str}(h:sc.names.lookup x=some .cell):∃ c,(cellsFrom n sc.names []).lookup x=some c:=by
 have q:=PySem.W.cellsFrom_some sc.names n [] (.inl h);exact Option.isSome_iff_exists.mp q
theorem Yr {CX:CXT}{P:Program}{w:World}{K:PySem.W.Frag}{mg:Str->Option Value}{base:Heap}{N ps:List Str}{qual:Str}{scope:Scope}{f:Addr}{cd:Value}{A:Around}{outer:List Env}{s s1:Shared}{H:Hp}{E:XK}{us:List Value}{vs:List V}
  (S:FnScope N ps scope) (hd:A.handled=none) (e0:Env0 P w K mg base A outer s H) (hl:vs.length=ps.length) (r:Vals vs us)
  (x:InCallC s s.heap.objs.size (bindL (envOfC qual scope s.heap.objs.size f cd).kindOf (ps.zip us) fun _=>none) (cellsFrom (s.heap.objs.size+1) scope.names []) (bindC (envOfC qual scope s.heap.objs.size f cd).kindOf (ps.zip us) fun _=>none) s1) :
  Inv (Yq CX P w K mg base N qual scope f cd A outer s H E) [] (start N vs) H s1:=by
 have hpl:ps.length<=N.length:=by have:=congrArg List.length S.pre;rw [List.length_take] at this;omega
 obtain ⟨h1,tk,rfl,hk⟩:=x.done;have noA:∀ b:Addr,b ∉ (Yq CX P w K mg base N qual scope f cd A outer s H E).ex:=fun b z=>absurd (show b∈([]:List Addr) from z) (by simp)
 refine ⟨⟨e0.mod,S.kind,rfl,rfl,Nat.le_refl _,fun y z c h1 h2=>?_,fun y hy=>?_,fun y c _ h=>?_,fun _=>hd,Around.frames_deeper e0.frames,.inr ⟨rfl,rfl⟩,fun b z=>absurd z (noA b),e0.bs,e0.bsz,fun b _ _=>noA b,fun b z=>absurd z (noA b),e0.funs,e0.frf⟩,
  rfl,e0.bare,Un.kept hk,⟨_,x.toInCall.ns,fun i y v h1 h2 h3=>?_⟩,fun y c h=>⟨_,x.cell y c h⟩,e0.hok.fresh (Nat.le_refl _),fun y c h=>?_,fun p hp=>absurd (show p∈([]:List (Addr×Obj)) from hp) (by simp),e0.hok.kept hk,?_⟩
 ·exact name_of_addr x.apart (PySem.mem_of_lookup h1) (PySem.mem_of_lookup h2)
 ·have hy:scope.names.lookup y=some .cell\/scope.names.lookup y=some .free:=hy;rcases hy with hy|hy
  ·exact Rt hy
  ·exact absurd rfl (S.nofree _ (PySem.mem_of_lookup hy))
 ·exact Nat.le_of_lt (x.above y c (PySem.mem_of_lookup h))
 ·have hi:i < vs.length:=by
   unfold start at h2
   by_cases hi:i < vs.length
   ·exact hi
   ·rw [List.getElem?_append_right (by simpa using hi)] at h2;rw [List.getElem?_replicate] at h2;split at h2 <;> cases h2
  have ha:vs[i]?=some v:=by
   unfold start at h2;rw [List.getElem?_append_left (by simpa using hi),List.getElem?_map] at h2;cases e:vs[i]? with
   | none=>rw [e] at h2;cases h2
   | some a=>rw [e] at h2;cases h2;rfl
  obtain ⟨u,hu,rv⟩:=r.get ha;have hp:ps[i]?=some y:=by
   rw [← S.pre,List.getElem?_take_of_lt (by omega)];exact h1
  have ndP:ps.Nodup:=by rw [← S.pre];exact S.nd.sublist (List.take_sublist _ _)
  refine ⟨u,rv,?_⟩;rcases S.par y (List.mem_of_getElem? hp) with k|k
  ·exact .inl ⟨k,Ou ndP hp hu k⟩
  ·obtain ⟨c,e⟩:=Rt (n:=s.heap.objs.size+1) k;refine .inr ⟨.inl k,c,e,?_⟩;have q:=x.cell y c e;rw [Ov ndP hp hu (by show scope.names.lookup y≠_;rw [k];decide)] at q;exact q
 ·exact e0.hok.fresh (Nat.le_of_lt (x.above y c (PySem.mem_of_lookup h)))
 ·unfold start;show _=N.length;rw [List.length_append,List.length_map,List.length_replicate];omega
theorem Aae {CX:CXT}{P:Program}{w:World}{K:PySem.W.Frag}{mg:Str->Option Value}{base:Heap}{k:Nat}{f:Addr}{name qual:Str}{params:Arguments}{body:List Stmt}{scope:Scope}{dV kV doc pm cdv ct oc:Value}{an od:Option Addr}
  {osl:Array (Option Value)} {N ps:List Str} {sp:Sp} (lk:K.lookup f=some ⟨oc,od,.func (PySem.W.fnOf name qual params body scope dV kV doc pm an cdv ct),osl⟩) (hcd:PySem.W.codeIn K cdv qual=true) (S:FnScope N ps scope)
  (len:∀ vs H Q E,sp vs H Q E->vs.length=ps.length)
  (hbody:∀ (A:Around) (outer:List Env) (s:Shared) (H:Hp) (vs:List V) (Q:VK) (E:XK),Room k (A.deeper (envOfC qual scope s.heap.objs.size f cdv))->sp vs H Q E ->
   ∃ t,PSs (Yq CX P w K mg base N qual scope f cdv A outer s H E) body t/\t { nx:=fun _ H'=>Q .non H',rt:=Q } (start N vs) H) :
  FnOk P w K mg base CX (k+1) f (PySem.W.fnOf name qual params body scope dV kV doc pm an cdv ct) ps sp:=by
 refine ⟨len,fun A outer s H args us vs Q E hr e0 hb r hsp=>?_⟩;have hl:=len _ _ _ _ hsp;have KX:K.In s.heap:=e0.mod.kin.keeps fun b o e=>(e0.bs b o e).1
 have lim:s.heap.NoLimit:=e0.mod.nolimit.keeps fun b o e=>(e0.bs b o e).1
 have hkind:∀ y∈ps.zip us,scope.names.lookup y.1=some .local\/(scope.names.lookup y.1=some .cell/\((cellsFrom (s.heap.objs.size+1) scope.names []).lookup y.1).isSome=true):=by
  rintro ⟨n,v⟩ hy;rcases S.par n (List.of_mem_zip hy).1 with q|q
  ·exact .inl q
  ·exact .inr ⟨q,PySem.W.cellsFrom_some _ _ _ (.inl q)⟩
 refine codeAny_call_function hr.depth (KX _ _ lk) rfl S.co S.gen rfl (PySem.W.codeRec_of KX hcd) (hb _ _ _ _ ?_);refine wpAny_newFunctionEnv_cells S.kind hkind fun env he s1 x=>?_
 subst he;refine ⟨lim.keeps x.toInCall.keep,codeAny_func ?_⟩;obtain ⟨t,ht,hq⟩:=hbody A outer s H vs Q E (hr.deeper _) hsp;have I:Inv (Yq CX P w K mg base N qual scope f cdv A outer s H E) [] (start N vs) H s1:=Yr S hr.hd e0 hl r x;refine wpAny_mono (ht [] s1 (start N vs) H _ I hq) (fun fl s' hs=>?_) fun e s' hs=>hs
 have fin:∀ {σ':St} {H':Hp} {v:V} {u:Value},Inv (Yq CX P w K mg base N qual scope f cdv A outer s H E) [] σ' H' s'->RelV v u->Q v H'->CE outer P w H s Q u s' :=
  fun {σ' H' v u} J rv q=>⟨v,H',J.os,J.bare,J.base,J.hok,rv,q⟩
 cases fl with
 | ret u =>
  obtain ⟨v,σ',H',J,rv,q⟩:=hs;exact fin J rv q
 | next =>
  obtain ⟨σ',H',J,q⟩:=hs;exact fin (v:=V.non) (u:=Value.none) J rfl q
 | brk =>
  obtain ⟨_,_,_,q⟩:=hs;exact False.elim q
 | cont =>
  obtain ⟨_,_,_,q⟩:=hs;exact False.elim q
section
variable {X:Cx}{x:Str}{p pos:Pos}{e:Expr}{es:List Expr}{t:TA}{id T:String}{r:List V->Hp->VK->Prop}
noncomputable def tCB (r:List V->Hp->VK->Prop) (t:TA):TE:=fun σ H Q=>t σ H fun vs H1=>r vs H1 Q
theorem Io (hc:Az X (.builtin id) r) (hg:Gl X x) (hm:X.mg x=none) (hv:bootBuiltins x=some (.builtin id)) (ha:PA X (e::es) t) (hn:x ≠ "__name__":=by decide) (hdb:(x==("__debug__":Str))=false:=by decide)
  (he:starEach (e::es) X.env=(false,eval e X.env)::starEach es X.env:=by rfl) (hpl:(backTo pos (starEach es X.env)).any (·.1)=false:=by rfl):PE X (.Call (.Name x p) (e::es) [] pos) (tCB r t):=by
 intro pins s σ H Q I h;refine wpAny_Call_Name_kw (Hu I hg hm hv ?_ hn hdb);exact PyProof.Rows.callWith_builtin1 (thn (ha pos pins s σ H _ I h) fun us s1 ⟨vs,H1,I1,r1,q1⟩=>hc pins s1 σ H1 vs us Q I1 r1 q1) he hpl
theorem Di (hc:Az X (.type T) r) (hg:Gl X x) (hm:X.mg x=none) (hv:bootBuiltins x=some (.type T)) (ha:PA X (e::es) t) (hn:x ≠ "__name__":=by decide) (hdb:(x==("__debug__":Str))=false:=by decide)
  (he:starEach (e::es) X.env=(false,eval e X.env)::starEach es X.env:=by rfl) (hpl:(backTo pos (starEach es X.env)).any (·.1)=false:=by rfl):PE X (.Call (.Name x p) (e::es) [] pos) (tCB r t):=by
 intro pins s σ H Q I h;refine wpAny_Call_Name_kw (Hu I hg hm hv ?_ hn hdb);exact PyProof.Rows.callWith_type1 (thn (ha pos pins s σ H _ I h) fun us s1 ⟨vs,H1,I1,r1,q1⟩=>hc pins s1 σ H1 vs us Q I1 r1 q1) he hpl
end
end L2
namespace HT
open PySem PyProof.Rows
section
open PySem.SeqAt
open PySem.AutoSeq1 (wpAny_loadPart')
open PySem.MeetsSeq PySem.MeetsSeq2 PySem.MeetsSeq3
end
section
variable {prog:Program}{w:World}{A:Around}{E:Value->Shared->Prop}{s:Shared}
theorem cat_tup {t b:Addr}{vs ws:List Value}{Q:Value->Shared->Prop}(ht:IsTup s.heap t vs.toArray) (hb:IsTup s.heap b ws.toArray) (hv:vs≠[])
  (h1:ws=[]->Q (.ref t) s) (h2:ws≠[]->Q (.ref s.heap.objs.size) { s with heap:=s.heap.push { cls:=.type "tuple",data:=.seq (vs++ws).toArray } })
  (hsz:vs.length+ws.length<=sizeLine):wpAny (model prog w) A (binaryOp .Add (.ref t) (.ref b)) Q E s:=by
 obtain ⟨⟨cls,dd,data,sl⟩,ho,hc,n,hd⟩:=id ht;obtain ⟨⟨cls2,dd2,data2,sl2⟩,ho2,hc2,n2,hd2⟩:=id hb;simp only at hc hd hc2 hd2;subst hc hd hc2 hd2;have e:vs.toArray++ws.toArray=(vs++ws).toArray:=by simp
 by_cases hw:ws=[]
 ·exact concat_meets ⟨_,ho,rfl⟩ ⟨_,ho2,rfl⟩ noFill_tuple_add seq_tuple_add PySem.F.slot_tuple_add PySem.F.entry_tuple_add (PySem.F.args_tuple_add_2 _ _)
   (tuple_addW1 t b vs.toArray ws.toArray n n2 dd dd2 sl sl2 (by simpa using hv) (by simp [hw])) ⟨ho,ho2,h1 hw⟩
 ·refine concat_meets ⟨_,ho,rfl⟩ ⟨_,ho2,rfl⟩ noFill_tuple_add seq_tuple_add PySem.F.slot_tuple_add PySem.F.entry_tuple_add (PySem.F.args_tuple_add_2 _ _)
   (tuple_addW2 t b vs.toArray ws.toArray n n2 dd dd2 sl sl2 (by simpa using hv) (by simpa using hw) (by rw [List.size_toArray,List.size_toArray];exact hsz)) ⟨ho,ho2,?_⟩
  rw [e];exact h2 hw
noncomputable def sIx (n d:Nat):Option Int->Nat
 | none=>d
 | some v=>if v < 0 then (v+(n:Int)).toNat else min v.toNat n
theorem tW (n d:Nat) (hd:d<=n) (o:Option Int):sIx n d o<=n:=by
 cases o with
 | none=>exact hd
 | some v =>
  show (if v < 0 then (v+(n:Int)).toNat else min v.toNat n)<=n
  by_cases hv:v < 0
  ·rw [if_pos hv];omega
  ·rw [if_neg hv];exact Nat.min_le_right _ _
theorem W2 (v:Int) (n d:Nat):(if v < 0 then max (v+(n:Int)) 0 else min v (n:Int))=((sIx n d (some v):Nat):Int):=by
 show (if v < 0 then max (v+(n:Int)) 0 else min v (n:Int))=(((if v < 0 then (v+(n:Int)).toNat else min v.toNat n):Nat):Int)
 by_cases hv:v < 0
 ·simp only [if_pos hv];omega
 ·simp only [if_neg hv];omega
theorem U9 (lo hi:Option Int) (n:Nat):Builtin.Slice.sliceAdjust lo hi 1 (n:Int)=(((sIx n 0 lo:Nat):Int),((sIx n n hi:Nat):Int)):=by
 have h1:¬ ((1:Int) < 0):=by omega
 unfold Builtin.Slice.sliceAdjust;simp only [h1,if_false];refine Prod.ext ?_ ?_
 ·cases lo with
  | none=>rfl
  | some v=>exact W2 v n 0
 ·cases hi with
  | none=>rfl
  | some v=>exact W2 v n n
theorem Va (i j:Nat):Builtin.Slice.slicePlaces (i:Int) (j:Int) 1=j - i:=by
 unfold Builtin.Slice.slicePlaces;have h1:(1:Int) > 0:=by omega
 simp only [h1,if_true,Int.ediv_one];split <;> omega
theorem Li {v:Value}{o:Option Int}{Q:Option Int->Shared->Prop}(p:IsPart v o) (h:Q o s):wpAny (model prog w) A (Builtin.Slice.slicePartIndex v) Q E s:=by
 cases p with
 | none=>exact slicePart_none h
 | int i t=>exact slicePart_int h
theorem sliceApplied_gen {sl:Addr}{vl vu:Value}{lo hi:Option Int}{n:Nat}{Q:Int×Int×Nat->Shared->Prop}(hs:s.heap.IsSliceOf sl vl vu .none) (pl:IsPart vl lo) (pu:IsPart vu hi)
  (h:Q (((sIx n 0 lo:Nat):Int),1,sIx n n hi - sIx n 0 lo) s):wpAny (model prog w) A (Builtin.Slice.sliceApplied (.ref sl) (pure (n:Int))) Q E s:=by
 obtain ⟨os,hos,hcs,hds⟩:=id hs;unfold Builtin.Slice.sliceApplied Builtin.Slice.sliceFields;refine wpAny_bind (wpAny_bind (wpAny_field hos hds (x:=vl) rfl (wpAny_bind (wpAny_field hos hds (x:=vu) rfl (wpAny_bind (wpAny_field hos hds (x:=.none) rfl (wpAny_pure ?_)))))));refine wpAny_bind (slicePart_none ?_);show wpAny _ _ (if ((1:Int)==0)=true then _ else _) _ _ s;rw [if_neg (by decide)];refine wpAny_bind (Li pl (wpAny_bind (Li pu (wpAny_bind (wpAny_pure ?_)))));show wpAny _ _ (match Builtin.Slice.sliceAdjust lo hi 1 (n:Int) with | (lo,hi)=>pure (lo,(1:Int),Builtin.Slice.slicePlaces lo hi 1)) _ _ s;rw [U9 lo hi n];show wpAny _ _ (pure (((sIx n 0 lo:Nat):Int),(1:Int),Builtin.Slice.slicePlaces ((sIx n 0 lo:Nat):Int) ((sIx n n hi:Nat):Int) 1)) _ _ s;rw [Va];exact wpAny_pure h
theorem bH (xs:Array Value) (i k:Nat):((List.range k).filterMap fun (m:Nat)=>xs[((i:Int)+(m:Int) * 1).toNat]?).toArray=((xs.toList.drop i).take k).toArray:=by
 have e:(fun (m:Nat)=>xs[((i:Int)+(m:Int) * 1).toNat]?)=fun m=>xs[i+m]?:=by
  funext m;have:((i:Int)+(m:Int) * 1).toNat=i+m:=by omega
  rw [this]
 rw [e];have:=pick_run xs i k;rw [List.filterMap_map] at this;have e2:((fun x=>xs[x]?) ∘ fun x=>i+x)=fun m=>xs[i+m]?:=rfl
 rw [e2] at this;rw [this]
theorem getItem_tuple_cut {t sl:Addr}{items:Array Value}{vl vu:Value}{lo hi:Option Int}{Q:Value->Shared->Prop}(ht:IsTup s.heap t items) (hs:s.heap.IsSliceOf sl vl vu .none) (pl:IsPart vl lo) (pu:IsPart vu hi)
  (hw:¬ (sIx items.size 0 lo=0/\sIx items.size items.size hi=items.size))
  (h:Q (.ref s.heap.objs.size) { s with heap:=s.heap.push { cls:=.type "tuple",data:=.seq ((items.toList.drop (sIx items.size 0 lo)).take (sIx items.size items.size hi - sIx items.size 0 lo)).toArray } })
  (hsz:items.size<=sizeLine):wpAny (model prog w) A (getItem (.ref t) (.ref sl)) Q E s:=by
 have htake:sizeOk (.seq ((items.toList.drop (sIx items.size 0 lo)).take (sIx items.size items.size hi - sIx items.size 0 lo)).toArray):=by
  show ((items.toList.drop (sIx items.size 0 lo)).take (sIx items.size items.size hi - sIx items.size 0 lo)).toArray.size<=sizeLine;rw [List.size_toArray,List.length_take,List.length_drop,Array.length_toList];omega
 have hj:sIx items.size items.size hi<=items.size:=tW _ _ (Nat.le_refl _) hi;obtain ⟨os,hos,hcs,hds⟩:=id hs
 have hTs:s.TypeIs (.ref sl) "slice":=⟨os,hos,hcs⟩
 unfold getItem
 try with_reducible refine wpAny_holding ?_
 first | refine wpAny_bind (wpAny_pure ?_) | skip
 refine wpAny_bind (wpAny_sequenceKey ht.typeIs (by decide) ?_)
 refine wpAny_bind (wpAny_callSpecial?_slot (name:=Str.ofString "__getitem__") ht.typeIs PyProof.Rows.slot_tuple_getitem
  (wpAny_call_entry PyProof.Rows.slot_tuple_getitem ht.typeIs entry_tuple_getitem ?_ (args_tuple_getitem _ _)))
 show wpAny _ _ (Builtin.Tuple.tupleItemsOf (.ref t) >>= _) _ _ s;refine wpAny_bind (tupleItemsOf_ ht ?_);refine wpAny_bind (wpAny_typeOf hTs ?_);rw [if_pos (by decide)];refine wpAny_bind (sliceApplied_gen hs pl pu ?_);have hno:¬ ((((sIx items.size 0 lo:Nat):Int)==0&&(1:Int)==1&&(sIx items.size items.size hi - sIx items.size 0 lo)==items.size)=true):=by
  intro q;rw [Bool.and_eq_true,Bool.and_eq_true] at q;have q1:((sIx items.size 0 lo:Nat):Int)=0:=eq_of_beq q.1.1;have q2:sIx items.size items.size hi - sIx items.size 0 lo=items.size:=eq_of_beq q.2;exact hw ⟨by omega,by omega⟩
 show wpAny _ _ (if (((sIx items.size 0 lo:Nat):Int)==0&&(1:Int)==1&&(sIx items.size items.size hi - sIx items.size 0 lo)==items.size)=true then _ else _) _ _ s;rw [if_neg hno,bH]
 first
  | exact wpAny_bind (m:=Builtin.Tuple.tupleExact _) (wpAny_newObj_type (wpAny_pure ⟨_,rfl,wpAny_pure h⟩) htake)
  | exact wpAny_bind (m:=Builtin.Tuple.tupleExact _) (wpAny_newObj_type (wpAny_bind (wpAny_pure (wpAny_pure ⟨_,rfl,wpAny_pure h⟩))) htake)
  | exact wpAny_bind (wpAny_bind (m:=Builtin.Tuple.tupleExact _) (wpAny_newObj_type (wpAny_pure (wpAny_pure ⟨_,rfl,wpAny_pure h⟩)) htake))
  | exact wpAny_bind (wpAny_bind (m:=Builtin.Tuple.tupleExact _) (wpAny_newObj_type (wpAny_pure ⟨_,rfl,wpAny_pure h⟩) htake))
end
end HT
namespace L2
open PySem PySem.Spec PyProof.Rows
noncomputable abbrev TO:=St->Hp->(Option Int->Hp->Prop)->Prop
noncomputable def PO (X:Cx) (e:Option Expr) (t:TO):Prop :=
 ∀ (pins:List (Addr×Obj)) (s:Shared) (σ:St) (H:Hp) (Q:Option Int->Hp->Prop),Inv X pins σ H s->t σ H Q ->
  wpAny (model X.prog X.w) X.A (evalPart e X.env) (fun u s'=>∃ o H',Inv X pins σ H' s'/\IsPart u o/\Q o H') X.xe s
noncomputable def lW:TO:=fun _ H Q=>Q none H
noncomputable def Aaf (t:TE):TO:=fun σ H Q=>t σ H fun x H1=>∃ i,x=.int i/\Q (some i) H1
theorem intsAre_of {ns:List Int}:∀ {us:List Value},Vals (ns.map V.int) us->IntsAre us ns:=by
 induction ns with
 | nil=>intro us r;rw [List.map_nil] at r;cases r;exact .nil
 | cons n ns ih =>
  intro us r;rw [List.map_cons] at r;cases r with
  | cons r1 r2 =>
   obtain ⟨t,e⟩:=r1;subst e;exact .cons n t (ih r2)
section
variable {X:Cx}{e:Expr}{te:TE}{lo hi:Option Expr}{tl th:TO}{pos p2:Pos}
theorem lX:PO X none lW:=by
 intro pins s σ H Q I h;rw [evalPart_none];exact wpAny_pure ⟨none,H,I,.none,h⟩
theorem lY (h:PE X e te):PO X (some e) (Aaf te):=by
 intro pins s σ H Q I hw;rw [evalPart_some];refine thn (h pins s σ H _ I hw) ?_;rintro u s1 ⟨x,H1,I1,r1,q1⟩;obtain ⟨i,rfl,q⟩:=q1;obtain ⟨t,rfl⟩:=r1;exact ⟨some i,H1,I1,.int i t,q⟩
noncomputable def SlR (X:Cx) (r:V->Option Int->Option Int->Hp->VK->Prop):Prop :=
 ∀ (pins:List (Addr×Obj)) (s:Shared) (σ:St) (H:Hp) (x:V) (v vl vu:Value) (lo hi:Option Int) (sl:Addr) (Q:VK),Inv X pins σ H s->RelV x v->s.heap.IsSliceOf sl vl vu .none->IsPart vl lo->IsPart vu hi->r x lo hi H Q ->
  ∃ T id,typeLookup (.type T) "__getitem__"=pure (some (.builtin id))/\s.TypeIs v T/\wpAny (model X.prog X.w) X.A (getItem v (.ref sl)) (EP X pins σ Q) X.xe s
theorem SlR.or {r r':V->Option Int->Option Int->Hp->VK->Prop}(h:SlR X r) (h':SlR X r'):SlR X (fun x lo hi H Q=>r x lo hi H Q\/r' x lo hi H Q):=by
 intro pins s σ H x v vl vu lo hi sl Q I rx hs pl pu q;rcases q with q|q
 ·exact h pins s σ H x v vl vu lo hi sl Q I rx hs pl pu q
 ·exact h' pins s σ H x v vl vu lo hi sl Q I rx hs pl pu q
noncomputable def tSl (r:V->Option Int->Option Int->Hp->VK->Prop) (te:TE) (tl th:TO):TE:=fun σ H Q=>te σ H fun x H1=>tl σ H1 fun l H2=>th σ H2 fun u H3=>r x l u H3 Q
theorem bI {r:V->Option Int->Option Int->Hp->VK->Prop}(hr:SlR X r) (he:PE X e te) (hl:PO X lo tl) (hu:PO X hi th):PE X (.Subscript e (.Slice lo hi none p2) pos) (tSl r te tl th):=by
 intro pins s σ H Q I h;refine Subscript_ (thn (he pins s σ H _ I h) ?_);rintro v s1 ⟨x,H1,I1,r1,q1⟩;refine wpAny_Slice (thn (hl pins s1 σ H1 _ I1 q1) ?_);rintro vl s2 ⟨l,H2,I2,pl,q2⟩;refine thn (hu pins s2 σ H2 _ I2 q2) ?_;rintro vu s3 ⟨u,H3,I3,pu,q3⟩;rw [evalPart_none];refine wpAny_pure ?_
 have I4:Inv X pins σ H3 { s3 with heap:=s3.heap.push { cls:=.type "slice",data:=.fields #[vl,vu,.none] } }:=I3.kept (t':=s3.toks) fun b ob q=>Heap.get?_push_of_some _ q
 obtain ⟨T,id,hT,ht,hg⟩:=hr pins { s3 with heap:=s3.heap.push { cls:=.type "slice",data:=.fields #[vl,vu,.none] } } σ H3 x v vl vu l u s3.heap.objs.size Q I4 r1 (Heap.IsSliceOf.new ..) pl pu q3
 show wpAny (model X.prog X.w) X.A (subscriptTail e (.Slice lo hi none p2) v (.ref s3.heap.objs.size)) (EP X pins σ Q) X.xe { s3 with heap:=s3.heap.push { cls:=.type "slice",data:=.fields #[vl,vu,.none] } };exact tail_any (ops:=[.ref s3.heap.objs.size,v]) ht hT hg (by with_unfolding_all rfl)
noncomputable def Ru (xs:List V) (lo hi:Option Int):List V:=(xs.drop (HT.sIx xs.length 0 lo)).take (HT.sIx xs.length xs.length hi - HT.sIx xs.length 0 lo)
theorem J7 (xs:List V) (lo hi:Option Int):(Ru xs lo hi).length<=xs.length:=by
 unfold Ru;rw [List.length_take,List.length_drop];omega
noncomputable def Acj (K:PySem.W.Frag):V->Option Int->Option Int->Hp->VK->Prop:=fun x lo hi H Q=>∃ a xs,x=.ref a/\SqT K H a xs /\
 ¬ (HT.sIx xs.length 0 lo=0/\HT.sIx xs.length xs.length hi=xs.length)/\∀ p,H p=none->Q (.ref p) (upd H p (.tup (Ru xs lo hi)))
theorem tX:SlR X (Acj X.K):=by
 intro pins s σ H x v vl vu lo hi sl Q I rx hs pl pu h;obtain ⟨a,xs,rfl,hx,hw,q⟩:=h;cases rx;obtain ⟨its,r,ht,hz⟩:=I.tuple hx;have hlen:its.toArray.size=xs.length:=by rw [List.size_toArray];exact r.length.symm
 refine ⟨"tuple",_,PyProof.Rows.slot_tuple_getitem.lookup,ht.typeIs,?_⟩;refine HT.getItem_tuple_cut ht hs pl pu (by rw [hlen];exact hw) ?_ (by rw [hlen];exact hz);rw [hlen];refine ⟨.ref s.heap.objs.size,_,I.laid (t':=s.toks) (o:=.tup (Ru xs lo hi)) (fun b ob q=>Heap.get?_push_of_some _ q) (Nat.le_refl _) ?_,rfl,q _ (I.hok.fresh (Nat.le_refl _))⟩;exact ⟨Nat.le_trans (J7 xs lo hi) hz,_,(r.drop (HT.sIx xs.length 0 lo)).take (HT.sIx xs.length xs.length hi - HT.sIx xs.length 0 lo),Le.new _ _⟩
noncomputable def Aag (K:PySem.W.Frag):R2:=fun x y H Q=>∃ a b xs ys,x=.ref a/\y=.ref b/\SqT K H a xs/\SqT K H b ys/\xs≠[]/\xs.length+ys.length<=sizeLine /\
 (ys=[]->Q (.ref a) H)/\(ys≠[]->∀ p,H p=none->Q (.ref p) (upd H p (.tup (xs++ys))))
theorem Vals.nil_iff {xs:List V}{us:List Value}(r:Vals xs us):us=[] ↔ xs=[]:=by
 cases r with
 | nil=>simp
 | cons _ _=>simp
theorem lZ:OpR X (binaryOp .Add) (Aag X.K):=by
 intro pins s σ H x y v u Q I rx ry h;obtain ⟨a,b,xs,ys,rfl,rfl,ha,hb,hx,hz,q1,q2⟩:=h;cases rx;cases ry;obtain ⟨its,r1,p1,_⟩:=I.tuple ha;obtain ⟨its2,r2,p2,_⟩:=I.tuple hb;refine HT.cat_tup p1 p2 (fun z=>hx (r1.nil_iff.mp z)) (fun z=>⟨.ref a,H,I,rfl,q1 (r2.nil_iff.mp z)⟩) (fun z=>?_) (by rw [← r1.length,← r2.length];exact hz);refine ⟨.ref s.heap.objs.size,_,I.laid (t':=s.toks) (o:=.tup (xs++ys)) (fun b ob q=>Heap.get?_push_of_some _ q) (Nat.le_refl _) ?_,rfl,q2 (fun w=>z (r2.nil_iff.mpr w)) _ (I.hok.fresh (Nat.le_refl _))⟩;exact ⟨by rw [List.length_append];exact hz,_,r1.append r2,Le.new _ _⟩
end
noncomputable def ixN (n:Nat) (i:Int):Option Nat:=if 0<=i then (if i < n then some i.toNat else none) else if -(n:Int)<=i then some (i+n).toNat else none
noncomputable def atI {α:Type}(xs:List α) (i:Int):Option α:=(ixN xs.length i).bind fun j=>xs[j]?
theorem Qj {n:Nat}{i:Int}{j:Nat}(h:ixN n i=some j):seqIndex? i n=some j/\j < n/\-(n:Int)<=i/\i < n:=by
 unfold ixN at h
 by_cases h0:0<=i
 ·rw [if_pos h0] at h
  by_cases h1:i < n
  ·rw [if_pos h1] at h;have e:i.toNat=j:=Option.some.inj h;exact ⟨by rw [seqIndex_of h0 h1,e],by omega,by omega,h1⟩
  ·rw [if_neg h1] at h;cases h
 ·rw [if_neg h0] at h
  by_cases h1:-(n:Int)<=i
  ·rw [if_pos h1] at h;have e:(i+n).toNat=j:=Option.some.inj h;exact ⟨by rw [seqIndex_neg (by omega) h1,e],by omega,h1,by omega⟩
  ·rw [if_neg h1] at h;cases h
theorem Qk {α:Type}{xs:List α}{i:Int}{v:α}(h:atI xs i=some v):∃ j,seqIndex? i xs.length=some j/\xs[j]?=some v/\j < xs.length/\-(xs.length:Int)<=i/\i < xs.length:=by
 unfold atI at h;cases e:ixN xs.length i with
 | none=>rw [e] at h;cases h
 | some j =>
  rw [e] at h;obtain ⟨h1,h2,h3,h4⟩:=Qj e;exact ⟨j,h1,h,h2,h3,h4⟩
theorem Ql {α:Type}{xs:List α}{j:Nat}{v:α}(h:xs[j]?=some v):atI xs (j:Int)=some v:=by
 have hj:j < xs.length:=(List.getElem?_eq_some_iff.mp h).1;have e:ixN xs.length (j:Int)=some j:=by
  unfold ixN;rw [if_pos (by omega),if_pos (by omega)];simp
 unfold atI;rw [e];exact h
noncomputable def K5 (b:Expr):Prop:=∀ o i,subscripted b false o i=operate [o,i] (getItem o i)
noncomputable def IxR (X:Cx) (r:R2):Prop :=
 ∀ (value slice:Expr) (pins:List (Addr×Obj)) (s:Shared) (σ:St) (H:Hp) (x y:V) (v u:Value) (Q:VK),Inv X pins σ H s->RelV x v->RelV y u->r x y H Q ->
  subscripted slice false v u=operate [v,u] (getItem v u)->wpAny (model X.prog X.w) X.A (subscriptTail value slice v u) (EP X pins σ Q) X.xe s
noncomputable def MtR (X:Cx) (id:String) (r:V->List V->Hp->VK->Prop):Prop :=
 ∀ (pins:List (Addr×Obj)) (s:Shared) (σ:St) (H:Hp) (x:V) (xs:List V) (v:Value) (us:List Value) (Q:VK),Inv X pins σ H s->RelV x v->Vals xs us->r x xs H Q ->
  wpAny (model X.prog X.w) X.A (call (.builtin id) (v::us)) (EP X pins σ Q) X.xe s
section
variable {X:Cx}{a b:Expr}{ta tb:TE}{pos:Pos}
theorem IxR.or {r r':R2}(h:IxR X r) (h':IxR X r'):IxR X (fun x y H Q=>r x y H Q\/r' x y H Q):=by
 intro value slice pins s σ H x y v u Q I rx ry q hs;rcases q with q|q
 ·exact h value slice pins s σ H x y v u Q I rx ry q hs
 ·exact h' value slice pins s σ H x y v u Q I rx ry q hs
theorem qQ {r:R2}(hr:IxR X r) (ha:PE X a ta) (hb:PE X b tb) (hs:K5 b):PE X (.Subscript a b pos) (tOp r ta tb):=by
 intro pins s σ H Q I h;exact Subscript_ (sX ha hb I h fun v u s2 x y H2 I2 rx ry q=>hr a b pins s2 σ H2 x y v u Q I2 rx ry q (hs _ _))
noncomputable def Aah (K:PySem.W.Frag):R2:=fun x y H Q=>∃ p xs i v,x=.ref p/\y=.int i/\SqL K H p xs/\atI xs i=some v/\Q v H
noncomputable def Aai (K:PySem.W.Frag):R2:=fun x y H Q=>∃ p xs i v,x=.ref p/\y=.int i/\SqT K H p xs/\atI xs i=some v/\Q v H
noncomputable def Aaj:R2:=fun x y H Q=>∃ z i c,x=.str z/\y=.int i/\z.length<=sizeLine/\atI z.cps.toList i=some c/\Q (.str ⟨#[c]⟩) H
theorem mC:IxR X (Aah X.K):=by
 intro value slice pins s σ H x y v u Q I rx ry h hs;obtain ⟨p,xs,i,z,rfl,rfl,hq,he,q⟩:=h;cases rx;obtain ⟨t,rfl⟩:=ry;obtain ⟨its,r,pl,hz⟩:=I.list hq;obtain ⟨j,h1,h2,h3,h4,h5⟩:=Qk he;obtain ⟨w,ew,rw'⟩:=r.get h2;have hl:=r.length;have hn:=Hw;have fin:EP X pins σ Q w s:=⟨z,H,I,rw',q⟩
 by_cases h0:0<=i
 ·have hj:i.toNat=j:=by
   rw [seqIndex_of h0 h5] at h1;exact Option.some.inj h1
  exact item_listR pl.isList h0 (by omega) (by rw [hj];simpa using ew) fin hs
 ·have hj:(i+(its.toArray.size:Int)).toNat=j:=by
   rw [seqIndex_neg (by omega) h4] at h1;rw [List.size_toArray,← hl];exact Option.some.inj h1
  exact subscriptTail_builtinR (x:=w) pl.isList.typeIs slot_list_getitem.lookup
   (wpAny_getItem_list_neg (Q:=fun r s'=>r=w/\EP X pins σ Q r s') pl.isList (by omega) (by rw [List.size_toArray] <;> omega) (by omega) (by rw [hj];simpa using ew) ⟨rfl,fin⟩) hs
theorem tY:IxR X (Aai X.K):=by
 intro value slice pins s σ H x y v u Q I rx ry h hs;obtain ⟨p,xs,i,z,rfl,rfl,hq,he,q⟩:=h;cases rx;obtain ⟨t,rfl⟩:=ry;obtain ⟨its,r,pl,hz⟩:=I.tuple hq;obtain ⟨j,h1,h2,h3,h4,h5⟩:=Qk he;obtain ⟨w,ew,rw'⟩:=r.get h2;have hl:=r.length;have hn:=Hw;have fin:EP X pins σ Q w s:=⟨z,H,I,rw',q⟩;exact subscriptTail_builtinR (x:=w) pl.typeIs slot_tuple_getitem.lookup
  (getItem_tuple (j:=j) (Q:=fun r s'=>r=w/\EP X pins σ Q r s') pl (by omega) (by omega) (by rw [List.size_toArray,← hl];exact h1) (by simpa using ew) ⟨rfl,fin⟩) hs
theorem tZ:IxR X Aaj:=by
 intro value slice pins s σ H x y v u Q I rx ry h hs;obtain ⟨z,i,c,rfl,rfl,hz,he,q⟩:=h;obtain ⟨t,rfl⟩:=rx;obtain ⟨t',rfl⟩:=ry;obtain ⟨j,h1,h2,h3,h4,h5⟩:=Qk he;have hl:z.cps.toList.length=z.length:=by simp [Str.length]
 rw [hl] at h1 h4 h5;have hn:=Hw
 exact tail_any (typeIs_str s z t) slot_str_getitem.lookup (getItem_str (c:=c) (by
  have e1:decide (i < -(2 ^ 63:Int))=false:=decide_eq_false (by omega);have e2:decide (i ≥ 2 ^ 63)=false:=decide_eq_false (by omega)
  rw [e1,e2,Bool.or_false]) (by rw [h1];simpa using h2) ⟨.str ⟨#[c]⟩,H,I.tok _,⟨_,rfl⟩,q⟩) hs
noncomputable def rIx (K:PySem.W.Frag):R2:=fun x y H Q=>Aah K x y H Q\/Aai K x y H Q\/Aaj x y H Q
theorem uD:IxR X (rIx X.K):=mC.or (tY.or tZ)
theorem Vb (its:List Value) (n j:Nat) (u:Value):Obj.mapSeq (·.setIfInBounds j u) { cls:=.type "list",data:=.seq its.toArray n }={ cls:=.type "list",data:=.seq (its.set j u).toArray n }:=by
 simp [Obj.mapSeq]
theorem Inv.lst {pins:List (Addr×Obj)}{σ:St}{H:Hp}{s:Shared}{p:Addr}{xs:List V}(I:Inv X pins σ H s) (h:H p=some (.lst xs)) :
  ∃ (its:List Value) (n:Nat),Vals xs its/\s.heap.get? p=some { cls:=.type "list",data:=.seq its.toArray n }/\xs.length<=sizeLine:=by
 obtain ⟨z,its,n,r,e⟩:=I.hok p _ h;exact ⟨its,n,r,e,z⟩
theorem Inv.lstUpd {pins:List (Addr×Obj)}{σ:St}{H:Hp}{s:Shared}{p:Addr}{xs ys:List V}{its its':List Value}{n n':Nat}{f:Obj->Obj}(I:Inv X pins σ H s) (h:H p=some (.lst xs))
  (ho:s.heap.get? p=some { cls:=.type "list",data:=.seq its.toArray n }) (hf:f { cls:=.type "list",data:=.seq its.toArray n }={ cls:=.type "list",data:=.seq its'.toArray n' }) (r:Vals ys its') (hz:ys.length<=sizeLine) (t:Nat) :
  Inv X pins σ (upd H p (.lst ys)) { s with heap:=s.heap.update p f,toks:=t }:=by
 have e:(s.heap.update p f).get? p=some { cls:=.type "list",data:=.seq its'.toArray n' }:=by
  rw [Heap.get?_update_self f ho (by rw [hf] <;> rfl),hf]
 refine I.write (x:=p) (e:=p) (by rw [h];trivial) (.inl rfl) (fun b u hb q=>(Heap.get?_update_other _ _ (Ne.symm hb)).trans q) ⟨_,e⟩ ?_;exact ⟨hz,its',n',r,e⟩
noncomputable def Aak:V->V->V->Hp->(Hp->Prop)->Prop:=fun o i v H Q=>∃ p xs k j,o=.ref p/\i=.int k/\H p=some (.lst xs)/\ixN xs.length k=some j/\Q (upd H p (.lst (xs.set j v)))
theorem set_list:zQ X Aak:=by
 intro pins s σ H o i v ov iv u Q I ro ri rv h;obtain ⟨p,xs,k,j,rfl,rfl,hp,hj,q⟩:=h;cases ro;obtain ⟨t,rfl⟩:=ri;obtain ⟨its,n,r,ho,hz⟩:=I.lst hp;obtain ⟨h1,h2,h3,h4⟩:=Qj hj;have hl:=r.length;have hn:=Hw;have I':Inv X pins σ (upd H p (.lst (xs.set j v))) { s with heap:=s.heap.update p (Obj.mapSeq (·.setIfInBounds j u)) } :=
  I.lstUpd hp ho (Vb its n j u) (r.set rv j) (by rw [List.length_set];exact hz) s.toks
 by_cases h0:0<=k
 ·have hk:k.toNat=j:=by
   rw [seqIndex_of h0 h4] at h1;exact Option.some.inj h1
  exact PySem.W.ki_setAt ho h0 (by omega) (by rw [List.size_toArray,← hl];exact h4) (by rw [hk];exact ⟨_,I',q⟩)
 ·have hk:(k+(its.toArray.size:Int)).toNat=j:=by
   rw [seqIndex_neg (by omega) h3] at h1;rw [List.size_toArray,← hl];exact Option.some.inj h1
  exact PySem.W.ki_setBack ho (by omega) (by rw [List.size_toArray,← hl];exact h3) (by omega) (by rw [hk];exact ⟨_,I',q⟩)
theorem Qm (lo hi:Option Int) (n:Nat):(sliceBounds lo hi none n).1=((HT.sIx n 0 lo:Nat):Int)/\(sliceBounds lo hi none n).2.1=((HT.sIx n n hi:Nat):Int)/\(sliceBounds lo hi none n).2.2=1:=by
 refine ⟨?_,?_,rfl⟩
 ·cases lo with
  | none=>simp [sliceBounds,HT.sIx]
  | some i =>
   simp only [sliceBounds,HT.sIx,Option.getD_none,show (1:Int) > 0 by decide,if_true]
   by_cases h:i < 0
   ·simp only [h,if_true] <;> omega
   ·simp only [h,if_false] <;> omega
 ·cases hi with
  | none=>simp [sliceBounds,HT.sIx]
  | some i =>
   simp only [sliceBounds,HT.sIx,Option.getD_none,show (1:Int) > 0 by decide,if_true]
   by_cases h:i < 0
   ·simp only [h,if_true] <;> omega
   ·simp only [h,if_false] <;> omega
theorem Oc (its:List Value) (lo hi:Option Int):slicePick its.toArray lo hi none=((its.drop (HT.sIx its.length 0 lo)).take (HT.sIx its.length its.length hi - HT.sIx its.length 0 lo)).toArray:=by
 obtain ⟨h1,h2,h3⟩:=Qm lo hi its.toArray.size;unfold slicePick;rw [h1,h2,h3];simp only [sliceRange_one,pick_run,List.size_toArray] <;> rfl
noncomputable def Ack (K:PySem.W.Frag):V->Option Int->Option Int->Hp->VK->Prop:=fun x lo hi H Q=>∃ a xs,x=.ref a/\SqL K H a xs/\∀ p,H p=none->Q (.ref p) (upd H p (.lst (Ru xs lo hi)))
theorem Bx:SlR X (Ack X.K):=by
 intro pins s σ H x v vl vu lo hi sl Q I rx hs pl pu h;obtain ⟨a,xs,rfl,hx,q⟩:=h;cases rx;obtain ⟨its,r,ht,hz⟩:=I.list hx;have hlen:=r.length
 refine ⟨"list",_,slot_list_getitem.lookup,ht.isList.typeIs,?_⟩;refine wpAny_getItem_list_slice ht.isList hs pl pu .none (by simp) ?_ (by rw [List.size_toArray] <;> omega);rw [Oc,← hlen];refine ⟨.ref s.heap.objs.size,_,I.laid (t':=s.toks) (o:=.lst (Ru xs lo hi)) (fun b ob q=>Heap.get?_push_of_some _ q) (Nat.le_refl _) ?_,rfl,q _ (I.hok.fresh (Nat.le_refl _))⟩;exact ⟨Nat.le_trans (J7 xs lo hi) hz,_,0,(r.drop (HT.sIx xs.length 0 lo)).take (HT.sIx xs.length xs.length hi - HT.sIx xs.length 0 lo),Heap.get?_push_size _ rfl⟩
theorem Qn:Az X (.builtin "len") (fun xs H Q=>∃ p ys,xs=[.ref p]/\(SqL X.K H p ys\/SqT X.K H p ys)/\Q (.int ys.length) H):=by
 intro pins s σ H xs us Q I r h;obtain ⟨p,ys,rfl,hq,q⟩:=h;obtain ⟨u,rfl,rx⟩:=vals1 r;cases rx;have hn:=Hw;rcases hq with hq|hq
 ·obtain ⟨its,r',pl,hz⟩:=I.list hq;have hlen:=r'.length;exact Calls.call_len_list pl.isList (by simp only [List.size_toArray] <;> omega) ⟨.int ys.length,H,I.tok _,⟨s.toks+1,by rw [List.size_toArray,hlen]⟩,q⟩
 ·obtain ⟨its,r',pl,hz⟩:=I.tuple hq;have hlen:=r'.length;exact len_tuple pl (by simp only [List.size_toArray] <;> omega) ⟨.int ys.length,H,I.tok _,⟨s.toks+1,by rw [List.size_toArray,hlen]⟩,q⟩
theorem Qo:Az X (.builtin "len") (fun xs H Q=>∃ z,xs=[.str z]/\z.length<=sizeLine/\Q (.int z.length) H):=by
 intro pins s σ H xs us Q I r h;obtain ⟨z,rfl,hz,q⟩:=h;obtain ⟨u,rfl,t,rfl⟩:=vals1 r;have hn:=Hw;exact len_str (by omega) ⟨.int z.length,H,I.tok _,⟨_,rfl⟩,q⟩
theorem Az.or {f:Value}{r r':List V->Hp->VK->Prop}(h:Az X f r) (h':Az X f r'):Az X f (fun xs H Q=>r xs H Q\/r' xs H Q):=by
 intro pins s σ H xs us Q I rs q;rcases q with q|q
 ·exact h pins s σ H xs us Q I rs q
 ·exact h' pins s σ H xs us Q I rs q
theorem Od:Az X (.type "tuple") (fun xs H Q=>∃ p ys,xs=[.ref p]/\((SqL X.K H p ys/\∀ l,H l=none->Q (.ref l) (upd H l (.tup ys)))\/(SqT X.K H p ys/\Q (.ref p) H))):=by
 intro pins s σ H xs us Q I r h;obtain ⟨p,ys,rfl,h⟩:=h;obtain ⟨u,rfl,rx⟩:=vals1 r;cases rx;rcases h with ⟨hq,q⟩|⟨hq,q⟩
 ·obtain ⟨its,r',pl,hz⟩:=I.list hq;have hlen:=r'.length;refine call_tuple_list pl.isList (fun h' kp=>?_) (by simp only [List.size_toArray] <;> omega);have I1:Inv X pins σ H { s with heap:=h' }:=I.kept (t':=s.toks) kp
  have I2:Inv X pins σ (upd H h'.objs.size (.tup ys)) { s with heap:=h'.push { cls:=.type "tuple",data:=.seq its.toArray } } :=
   I1.laid (t':=s.toks) (fun b o e=>Heap.get?_push_of_some _ e) (Nat.le_refl _) (show Dh X.prog X.w _ _ _ (.tup ys) from ⟨hz,its,r',Le.new _ _⟩)
  exact ⟨.ref h'.objs.size,_,I2,rfl,q _ (I1.hok.fresh (Nat.le_refl _))⟩
 ·obtain ⟨its,r',pl,hz⟩:=I.tuple hq;exact call_tuple_same pl ⟨.ref p,H,I,rfl,q⟩
noncomputable def tyV (K:PySem.W.Frag) (T:String) (x:V) (H:Hp):Prop:=match x with
 | .str _=>T = "str"
 | .int _=>T = "int"
 | .ref p=>(T = "list"/\∃ xs,SqL K H p xs)\/(T = "tuple"/\∃ xs,SqT K H p xs) \/
   (T = "dict"/\((∃ kvs,H p=some (.dK kvs))\/∃ kvs,H p=some (.dT kvs)))\/(T = "set"/\∃ S n,H p=some (.set S n))
 | _=>False
theorem bJ {pins:List (Addr×Obj)}{σ:St}{H:Hp}{s:Shared}{T:String}{x:V}{v:Value}(I:Inv X pins σ H s) (r:RelV x v) (ty:tyV X.K T x H) :
  s.TypeIs v T/\∀ a,v=.ref a->∃ ob,s.heap.get? a=some ob/\ob.dict=none:=by
 cases x with
 | str z =>
  obtain ⟨t,rfl⟩:=r
  cases (show T = "str" from ty);exact ⟨typeIs_str s z t,fun _ e=>nomatch e⟩
 | int i =>
  obtain ⟨t,rfl⟩:=r
  cases (show T = "int" from ty);exact ⟨typeIs_int s i t,fun _ e=>nomatch e⟩
 | ref p =>
  cases r;rcases ty with ⟨rfl,xs,hq⟩|⟨rfl,xs,hq⟩|⟨rfl,hk⟩|⟨rfl,S,n,hk⟩
  ·obtain ⟨its,_,pl,_⟩:=I.list hq;refine ⟨pl.isList.typeIs,fun a e=>?_⟩;cases e;obtain ⟨o,n,e,c,hd,_⟩:=pl;exact ⟨o,e,hd⟩
  ·obtain ⟨its,_,⟨o,e,c,d,n,dd⟩,_⟩:=I.tupleP hq;refine ⟨⟨o,e,c⟩,fun a e2=>?_⟩;cases e2;exact ⟨o,e,d⟩
  ·have z:∃ o,s.heap.get? p=some o/\o.ExactDict:=by
    rcases hk with ⟨kvs,hk⟩|⟨kvs,hk⟩
    ·obtain ⟨_,_,_,_,o,_,_,e,ex,_⟩:=I.hok p _ hk;exact ⟨o,e,ex⟩
    ·obtain ⟨_,_,_,_,o,_,_,e,ex,_⟩:=I.hok p _ hk;exact ⟨o,e,ex⟩
   obtain ⟨o,e,ex⟩:=z;refine ⟨⟨o,e,ex.1⟩,fun a e2=>?_⟩;cases e2;exact ⟨o,e,ex.2.1⟩
  ·obtain ⟨o,_,_,_,e,ex,_⟩:=I.hok p _ hk;refine ⟨⟨o,e,ex.1⟩,fun a e2=>?_⟩;cases e2;exact ⟨o,e,ex.2.1⟩
 | _=>exact False.elim ty
noncomputable def Acl (K:PySem.W.Frag) (T:String) (r:V->List V->Hp->VK->Prop) (to:TE):TE:=fun σ H Q=>to σ H fun x H1=>tyV K T x H1/\r x [] H1 Q
noncomputable def tBM (K:PySem.W.Frag) (T:String) (r:V->List V->Hp->VK->Prop) (to:TE) (t:TA):TE:=fun σ H Q=>to σ H fun x H1=>tyV K T x H1/\t σ H1 fun xs H2=>r x xs H2 Q
variable {o e:Expr}{es:List Expr}{to:TE}{t:TA}{name:Str}{apos cpos:Pos}{T id:String}{r:V->List V->Hp->VK->Prop}
theorem uE (pa:PlainAttrs T) (slot:Slot T name id) (hty:typeOf (.builtin id)=pure (.type "method_descriptor")) (hm:MtR X id r) (ho:PE X o to)
  (hbase:attributeBase o name X.env (eval o X.env)=eval o X.env:=by rfl) (hline:(apos.endLine==cpos.line)=true:=by rfl):PE X (.Call (.Attribute o name apos) [] [] cpos) (Acl X.K T r to):=by
 intro pins s σ H Q I h;refine wpAny_Call_method0_late hbase hline (thn (ho pins s σ H _ I h) ?_);rintro v s1 ⟨x,H1,I1,r1,ty,q1⟩;obtain ⟨h1,h2⟩:=bJ I1 r1 ty;exact ⟨T,id,pa,slot,hty,h1,h2,Calls.callWith_builtin rfl (PySem.evalArgs_none (hm pins s1 σ H1 x [] v [] Q I1 r1 .nil q1))⟩
theorem Aal (pa:PlainAttrs T) (slot:Slot T name id) (hty:typeOf (.builtin id)=pure (.type "method_descriptor")) (hm:MtR X id r) (ho:PE X o to) (ha:PA X (e::es) t)
  (hbase:attributeBase o name X.env (eval o X.env)=eval o X.env:=by rfl)
  (hfew:((backTo cpos (starEach (e::es) X.env)).all (fun x=>!x.1)&&(backToKw cpos (keywordEach [] X.env)).all (fun x=>x.1.isSome)
   && decide ((e::es).length+([]:List Keyword).length+(if ([]:List Keyword).isEmpty then 0 else 1) < 30))=true:=by rfl)
  (hline:(apos.endLine==cpos.line)=true:=by rfl) (hs:starEach (e::es) X.env=(false,eval e X.env)::starEach es X.env:=by rfl) (hplain:(backTo cpos (starEach es X.env)).any (·.1)=false:=by rfl) :
  PE X (.Call (.Attribute o name apos) (e::es) [] cpos) (tBM X.K T r to t):=by
 intro pins s σ H Q I h;refine wpAny_Call_method_late hbase hfew hline rfl (thn (ho pins s σ H _ I h) ?_);rintro v s1 ⟨x,H1,I1,r1,ty,q1⟩;obtain ⟨h1,h2⟩:=bJ I1 r1 ty;refine ⟨T,id,pa,slot,hty,h1,h2,?_⟩;have hA:=ha cpos pins s1 σ H1 _ I1 q1;rw [hs] at hA ⊢;refine Calls.callWith_builtin (by show (false || (backTo cpos (starEach es X.env)).any (·.1))=false;rw [hplain] <;> rfl) (Calls.evalArgs_plain ?_);refine thn hA ?_;rintro us s2 ⟨vs,H2,I2,r2,q2⟩;exact hm pins s2 σ H2 x vs v us Q I2 r1 r2 q2
end
noncomputable def MtM (X:Cx) (id:String) (r:V->List V->Hp->VK->Prop):Prop :=
 ∀ (pins:List (Addr×Obj)) (s:Shared) (σ:St) (H:Hp) (x:V) (xs:List V) (v:Value) (us:List Value) (Q:VK),Inv X pins σ H s->RelV x v->Vals xs us->r x xs H Q ->
  wpAny (model X.prog X.w) X.A (call (.builtin id) (v::us)) (EP X pins σ Q) X.xe s
theorem Vals.one {x:V}{us:List Value}(h:Vals [x] us):∃ u,us=[u]/\RelV x u:=by
 cases h with
 | cons r t=>cases t;exact ⟨_,rfl,r⟩
theorem Vals.two {x y:V}{us:List Value}(h:Vals [x,y] us):∃ u v,us=[u,v]/\RelV x u/\RelV y v:=by
 cases h with
 | cons r t =>
  obtain ⟨v,e,q⟩:=Vals.one t;subst e;exact ⟨_,_,rfl,r,q⟩
theorem Vals.eraseIdx:∀ {xs:List V}{us:List Value}(i:Nat),Vals xs us->Vals (xs.eraseIdx i) (us.eraseIdx i)
 | _,_,_,.nil=>.nil
 | _,_,0,.cons _ t=>t
 | _,_,i+1,.cons r t=>.cons r (Vals.eraseIdx i t)
theorem Ow {α:Type}:∀ (l:List α) (i:Nat),(l.eraseIdx i).length<=l.length
 | [],_=>Nat.le_refl _
 | _::_,0=>Nat.le_succ _
 | _::r,i+1=>Nat.succ_le_succ (Ow r i)
section
variable {X:Cx}{pins:List (Addr×Obj)}{σ:St}{H:Hp}{s:Shared}{l b:Addr}{xs ys zs:List V}
theorem Inv.lset {its its':List Value}{n:Nat}{f:Array Value->Array Value}{t':Nat}(I:Inv X pins σ H s) (hH:H l=some (.lst xs))
  (e:s.heap.get? l=some { cls:=.type "list",data:=.seq its.toArray n }) (hf:f its.toArray=its'.toArray) (hv:Vals ys its') (hz:ys.length<=sizeLine) :
  Inv X pins σ (upd H l (.lst ys)) { s with heap:=s.heap.update l (Obj.mapSeq f),toks:=t' }:=by
 have q:=PySem.IsL.update e f;rw [hf] at q;refine I.write (x:=l) (e:=l) (by rw [hH];exact trivial) (.inl rfl) (fun b' u hb hu=>(Heap.get?_update_other s.heap (Obj.mapSeq f) (Ne.symm hb)).trans hu) ⟨_,q⟩ ?_;exact ⟨hz,its',_,hv,q⟩
theorem Inv.lnew {its:List Value}{t':Nat}(I:Inv X pins σ H s) (hv:Vals ys its) (hz:ys.length<=sizeLine) :
  Inv X pins σ (upd H s.heap.objs.size (.lst ys)) { s with heap:=s.heap.push { cls:=.type "list",data:=.seq its.toArray },toks:=t' } :=
 I.laid (fun _ _ q=>Heap.get?_push_of_some _ q) (Nat.le_refl _) ⟨hz,its,0,hv,Heap.get?_push_size _ rfl⟩
theorem Inv.fresh (I:Inv X pins σ H s):H s.heap.objs.size=none:=I.hok.fresh (Nat.le_refl _)
theorem Inv.lstM (I:Inv X pins σ H s) (hH:H l=some (.lst xs)):xs.length<=sizeLine/\∃ (its:List Value) (n:Nat),Vals xs its/\xs.length=its.length/\s.heap.get? l=some { cls:=.type "list",data:=.seq its.toArray n }:=by
 obtain ⟨z,its,n,r,e⟩:=I.hok l _ hH;exact ⟨z,its,n,r,r.length,e⟩
theorem Rv {n:Nat}(h:n<=sizeLine):Builtin.List.listTooLong n=false:=by
 unfold Builtin.List.listTooLong;exact decide_eq_false (by omega)
end
section
variable {X:Cx}
noncomputable def mD:V->List V->Hp->VK->Prop:=fun x vs H Q=>∃ l xs y,x=.ref l/\vs=[y]/\H l=some (.lst xs)/\xs.length < sizeLine/\Q .non (upd H l (.lst (xs++[y])))
theorem Ys:MtM X "list.append" mD:=by
 intro pins s σ H x vs v us Q I rx rv h;obtain ⟨l,xs,y,rfl,rfl,hH,hz,q⟩:=h;cases rx;obtain ⟨u,rfl,ru⟩:=rv.one;obtain ⟨z,its,n,r,hl,e⟩:=I.lstM hH;refine call_meets F.slot_list_append ⟨_,e,rfl⟩ F.entry_list_append (F.args_list_append_2 _ _) (PySem.list_append l its.toArray n u (by rw [List.size_toArray];omega)) ⟨e,?_⟩;refine ⟨.non,_,I.lset (its':=its++[u]) hH e (by simp) (r.append (.cons ru .nil)) ?_,rfl,q⟩;rw [List.length_append,List.length_singleton];omega
noncomputable def mF:V->List V->Hp->VK->Prop:=fun x vs H Q=>∃ l b xs zs,x=.ref l/\vs=[.ref b]/\H l=some (.lst xs)/\H b=some (.lst zs)/\xs.length+zs.length<=sizeLine/\Q .non (upd H l (.lst (xs++zs)))
theorem Yt:MtM X "list.extend" mF:=by
 intro pins s σ H x vs v us Q I rx rv h;obtain ⟨l,b,xs,zs,rfl,rfl,hH,hB,hz,q⟩:=h;cases rx;obtain ⟨u,rfl,ru⟩:=rv.one;cases ru;obtain ⟨z,its,n,r,hl,e⟩:=I.lstM hH;obtain ⟨z2,its2,n2,r2,hl2,e2⟩:=I.lstM hB;have hsz:its.toArray.size+its2.toArray.size<=sizeLine:=by rw [List.size_toArray,List.size_toArray];omega
 have hlong:¬ (!its.toArray.isEmpty&&Builtin.List.listTooLong (its.toArray.size+its2.toArray.size))=true:=by
  rw [Rv hsz,Bool.and_false];exact Bool.false_ne_true
 refine call_meets F.slot_list_extend ⟨_,e,rfl⟩ F.entry_list_extend (F.args_list_extend_2 _ _)
  (AutoSeq1.list_extend_list_list_0 l its.toArray n b its2.toArray n2 hlong (by rw [List.size_toArray];omega) (by omega)) ⟨e,e2,?_⟩
 refine ⟨.non,_,I.lset (its':=its++its2) hH e (by simp) (r.append r2) ?_,rfl,q⟩;rw [List.length_append];omega
noncomputable def uF:V->List V->Hp->VK->Prop:=fun x vs H Q=>∃ l xs i k y,x=.ref l/\vs=[.int i]/\H l=some (.lst xs)/\-(2 ^ 63)<=i/\i < 2 ^ 63/\seqIndex? i xs.length=some k/\xs[k]?=some y/\Q y (upd H l (.lst (xs.eraseIdx k)))
theorem bK:MtM X "list.pop" uF:=by
 intro pins s σ H x vs v us Q I rx rv h;obtain ⟨l,xs,i,k,y,rfl,rfl,hH,h1,h2,hk,hy,q⟩:=h;cases rx;obtain ⟨u,rfl,ru⟩:=rv.one;obtain ⟨t,rfl⟩:=ru;obtain ⟨z,its,n,r,hl,e⟩:=I.lstM hH;obtain ⟨w,hw,rw'⟩:=r.get hy;refine call_meets F.slot_list_pop ⟨_,e,rfl⟩ F.entry_list_pop (F.args_list_pop_2 _ _)
  (MeetsSeq.list_pop_at l its.toArray n i t k w (fitsIndex_both h1 h2) (by rw [List.size_toArray,← hl];exact hk) (by rw [← Array.getElem?_toList];exact hw) (by rw [List.size_toArray];omega)) ⟨e,?_⟩
 refine ⟨y,_,I.lset (its':=its.eraseIdx k) hH e ?_ (r.eraseIdx k) ?_,rw',q⟩
 ·show its.toArray.eraseIdxIfInBounds k=(its.eraseIdx k).toArray;rw [List.eraseIdxIfInBounds_toArray]
 ·have:=Ow xs k;omega
noncomputable def Acm:R2:=fun x y H Q=>∃ l b xs zs,x=.ref l/\y=.ref b/\H l=some (.lst xs)/\H b=some (.lst zs)/\xs.length+zs.length<=sizeLine/\∀ p,H p=none->Q (.ref p) (upd H p (.lst (xs++zs)))
theorem uG:OpR X (binaryOp .Add) Acm:=by
 intro pins s σ H x y v u Q I rx ry h;obtain ⟨l,b,xs,zs,rfl,rfl,hH,hB,hz,q⟩:=h;cases rx;cases ry;obtain ⟨z,its,n,r,hl,e⟩:=I.lstM hH;obtain ⟨z2,its2,n2,r2,hl2,e2⟩:=I.lstM hB;refine PySem.P.add_list e e2 ?_ (by rw [List.size_toArray,List.size_toArray];omega);have ea:its.toArray++its2.toArray=(its++its2).toArray:=by simp
 rw [ea];exact ⟨.ref _,_,I.lnew (t':=s.toks) (r.append r2) (by rw [List.length_append];omega),rfl,q _ I.fresh⟩
end
section
variable {prog:Program}{w:World}{A:Around}{E:Value->Shared->Prop}{s:Shared}
end
section
variable {X:Cx}
end
end L2
namespace Att
open PySem PySem.W PySem.Calls PyProof.Rows
theorem Kv {P:Params}{h:Heap}:∀ (ns:List Int) (vs:List Value),WellAll P h vs (ns.map WData.int)->IntsAre vs ns:=by
 intro ns
 induction ns with
 | nil =>
  intro vs w;rw [List.map_nil] at w;cases w;exact .nil
 | cons n ns ih =>
  intro vs w;rw [List.map_cons] at w;cases w with
  | cons a b =>
   cases a;exact .cons _ _ (ih _ b)
theorem Yu {l:OpenLaw}{n:Nat}(hn:l.most=some n) {P:Params}{h:Heap}{args:List WData}{vals:List Value}
  (hpre:l.row.toRowW.claim.pre args=true) (hwl:WellAll P h vals args) :
  ∃ a vs ns,vals=[Value.ref a]/\args=[WData.list (ns.map WData.int)]/\h.get? a=some { cls:=.type "list",data:=.seq vs.toArray }/\IntsAre vs ns/\ns.length<=n:=by
 have hsh:WShape.hasAll [] args [.list .int]=true:=(pre_splitW hpre).1;have hc:l.pre.holds [] { args:=args }=true:=(pre_splitW hpre).2;obtain ⟨d,r,rfl,h1,h2⟩:=hasAllW_cons hsh;obtain rfl:=hasAllW_nil h2;obtain ⟨xs,rfl,h3⟩:=hasW_list h1;obtain ⟨ns,rfl⟩:=items_int h3;have hlen:ns.length<=n:=by
  unfold OpenLaw.pre at hc;have h4:(WTm.not (.lt (.lit (.int (n:Int))) (.len (.arg 0)))).holds [] { args:=[.list (ns.map .int)] }=true:=by
   have h4:=(holds_andW hc).1;rw [hn] at h4;exact h4
  have h5:=condW_of h4 (w_not (w_lt w_lit (w_len_list (w_arg rfl))));rw [List.length_map] at h5;refine Nat.le_of_not_lt fun q=>?_
  have q':(n:Int) < ((ns.length:Nat):Int):=by omega
  first
   | (rw [decide_eq_true q'] at h5;exact absurd h5 (by decide))
   | (simp at h5;omega)
 cases hwl with
 | cons w1 w2 =>
  cases w2;cases w1 with
  | list ho hall=>exact ⟨_,_,ns,rfl,rfl,ho,Kv ns _ hall,hlen⟩
theorem Yv (l:OpenLaw) (args:List WData):l.row.toRowW.claim.post args (.bool true) args=true :=
 postW_of (r:=l.row.toRowW) (X:=(true==true))
  (show WShape.has [] (.bool true) .bool=true by first | rfl | decide | simp [WShape.has,WShape.arms,WShape.armsAll])
  (show (WTm.eq .res (.lit (.bool true))).value [] { args:=args,res:=some (.bool true),after:=args }=some (.bool (true==true)) from w_eq_bool (w_res rfl) w_lit) rfl
theorem attach_call {l:OpenLaw}{n:Nat}{q:Program}{loose:List Str}{XP:(Str->Option Value)->Heap->Prop}{YP:World->Heap->Prop}{d:DefRec}
  (hn:l.most=some n) (hdf:d.params.defaults=[])
  (call:∀ (w:World) (s₀ s₁:Shared) (mg mb:Str->Option Value) (fa:Addr) (o:Obj) (pm cd doc:Value) (a:Addr) (vs:List Value) (ns:List Int),
   Ground q loose [] XP w s₀ mg mb s₁.heap->YP w s₁.heap ->
   s₁.heap.get? fa=some o->o.data=.func (docDef d.name d.params d.body d.scope pm cd doc)->s₁.heap.CodeRec cd d.name->mg d.name=some (.ref fa) ->
   s₁.heap.get? a=some { cls:=.type "list",data:=.seq vs.toArray }->IntsAre vs ns->ns.length<=n->s₁.gens=#[] ->
   codeAny (model l.prog w) callerA (.call (.ref fa) ⟨[.ref a],[]⟩) (fun r s'=>r=.ok (.ret (.bool true))/\OldK s₁.heap s'.heap/\s'.os=s₁.os/\AllBare s'.gens) s₁) :
  WalkO q loose XP YP l.row.toRowW d [] (fun f vs=>PySem.call f vs):=by
 intro w s₀ s₁ mg mb G Y fa o pm cd doc dV kV ho hd hcd hD hmg hg args vals as hpre hlay hrd hwl hlo;obtain rfl:dV=.none:=Dflts.none hD hdf;obtain rfl:kV=.none:=Dflts.noKw hD;obtain ⟨a,vs,ns,rfl,rfl,hobj,hints,hlen⟩:=Yu hn hpre hwl;refine enter_call (codeAny_mono (call w s₀ s₁ mg mb fa o pm cd doc a vs ns G Y ho (fd_plain hd) hcd hmg hobj hints hlen hg) fun r s' hq=>?_);obtain ⟨rfl,h2,h3,h4⟩:=hq;exact ⟨.inl ⟨.bool true,.bool true,[],rfl,fun _=>rfl,.bool true,Yv l _,fun _=>⟨List.Pairwise.nil,fun _ hm=>(nomatch hm)⟩⟩,h2,h3,h4⟩
section
variable {prog:Program}{w:World}{A:Around}{E:Value->Shared->Prop}{s:Shared}{K:Frag}
end
end Att
namespace L2
open PySem PySem.Spec PyProof.Rows
theorem Ez:∀ {vs:List Value}{ns:List Int},IntsAre vs ns->Vals (ns.map V.int) vs
 | _,_,.nil=>.nil
 | _,_,.cons n t h=>.cons ⟨t,rfl⟩ (Ez h)
noncomputable def Only (H:Hp):Prop:=∀ b,H b=none\/∃ o xs,H b=some (.frz o (.lst xs))
theorem bL {P:Program}{w:World}{K:PySem.W.Frag}{mg mb:Str->Option Value}{CX:CXT}{k:Nat}{fa a:Addr}{fd:FuncData}{x:Str}{sp:Sp}{s₁:Shared}{vs:List Value}{ns:List Int}
  (KX:K.In s₁.heap) (hns:s₁.heap.Ns mainGlobals mg) (hb:s₁.heap.Ns builtinsNs mb) (hbb:∀ x:Str,x ≠ "__name__"->mb x=bootBuiltins x) (hlim:s₁.heap.NoLimit) (hg:s₁.gens=#[])
  (ha:s₁.heap.get? a=some { cls:=.type "list",data:=.seq vs.toArray }) (hi:IntsAre vs ns) (hl:ns.length<=sizeLine) (hr:Room k callerA)
  (F:∀ base:Heap,K.In base->base.Ns mainGlobals mg->FnOk P w K mg base CX k fa fd [x] sp) (hbind:∀ (s:Shared) (u:Value),BindsTo s fd ⟨[u],[]⟩ [(x,u)])
  (hsp:∀ H:Hp,Only H->SqL K H a (ns.map V.int)->sp [.ref a] H (fun v _=>v=.bl true) fun _ _ _=>False)
  (hCX:∀ H e s',CX [] H s₁ (fun _ _ _=>False) e s'->False) :
  codeAny (model P w) callerA (.call (.ref fa) ⟨[.ref a],[]⟩) (fun r s'=>r=.ok (.ret (.bool true))/\OldK s₁.heap s'.heap/\s'.os=s₁.os/\AllBare s'.gens) s₁:=by
 have rv:=Ez hi;have lenV:=hi.length
 -- from an abstract heap in which nothing but the script may be tracked
 have core:∀ H:Hp,Only H->SqL K H a (ns.map V.int)->HOk P w H s₁.heap->(∀ b,H b≠none->b=a)->(H a≠none->K.lookup a=none) ->
   codeAny (model P w) callerA (.call (.ref fa) ⟨[.ref a],[]⟩) (fun r s'=>r=.ok (.ret (.bool true))/\OldK s₁.heap s'.heap/\s'.os=s₁.os/\AllBare s'.gens) s₁:=by
  intro H hO hS hok hA hK;have base_of:∀ {b:Addr} {o:Obj},s₁.heap.get? b=some o->H b=none->(Qe s₁.heap H).get? b=some o:=fun e n=>aN e n
  have noA:∀ {b:Addr} {o:Obj} {es:Array DictEntry} {ep:Nat},s₁.heap.get? b=some o->o.data=.dict es ep->H b=none:=fun {b o es ep} e d=>by
   cases q:H b with
   | none=>rfl
   | some u =>
    have e':b=a:=hA b (by rw [q];simp);subst e';rw [ha] at e;cases e;have d':Data.seq vs.toArray _=Data.dict es ep:=d;cases d'
  have nsK:∀ {b:Addr} {m:Str->Option Value},s₁.heap.Ns b m->(Qe s₁.heap H).Ns b m:=fun {b m} ⟨o,es,ep,e,d,r⟩=>⟨o,es,ep,base_of e (noA e d),d,r⟩
  have hKb:K.In (Qe s₁.heap H):=fun b o e=>base_of (KX b o e) (by
   cases q:H b with
   | none=>rfl
   | some u =>
    have e':b=a:=hA b (by rw [q];simp);subst e'
    rw [hK (by rw [q];simp)] at e;cases e)
  have hM:Mod K mg (Qe s₁.heap H):=⟨hKb,nsK hns,⟨mb,nsK hb,hbb⟩,let ⟨mc,h1,h2⟩:=hlim;⟨mc,nsK h1,h2⟩⟩;have e0:Env0 P w K mg (Qe s₁.heap H) callerA [] s₁ H:=⟨rfl,hM,fun b o e=>kZ e,Nat.le_of_eq (Yj _ _),trivial,fun b hb=>absurd (show b∈([]:List Addr) from hb) (by simp),hok,.of_eq hg⟩;refine codeAny_mono ((F _ hKb (nsK hns)).run callerA [] s₁ H ⟨[.ref a],[]⟩ [.ref a] [.ref a] _ _ hr e0 (hbind s₁ (.ref a)) (.cons rfl .nil) (hsp H hO hS)) fun r s' h=>?_
  cases r with
  | error e=>exact (hCX H e s' h).elim
  | ok fl =>
   cases fl with
   | next=>exact False.elim h
   | brk=>exact False.elim h
   | cont=>exact False.elim h
   | ret u =>
    obtain ⟨v,H',os,bare,un,hok',r',q⟩:=h;have q':v=.bl true:=q;subst q';obtain rfl:u=Value.bool true:=r';refine ⟨rfl,OldK.of_keep fun b o e=>?_,os,bare⟩;cases q:H b with
    | none=>exact un.keep b o e q (by intro z;exact absurd (show b∈([]:List Addr) from z) (by simp)) (by simp)
    | some u =>
     rcases hO b with z|⟨ob,xs,z⟩
     ·rw [q] at z;cases z
     ·have z2:=un.frzs b ob _ z;obtain ⟨e1,_⟩:=hok b _ z;obtain ⟨e2,_⟩:=hok' b _ z2;rw [e] at e1;cases e1;exact e2
 cases hk:K.lookup a with
 | some o =>
  -- the script is one of the module's own objects
  have e:=KX a o hk;rw [ha] at e;cases e;refine core (fun _=>none) (fun _=>.inl rfl) (.inr ⟨_,vs.toArray,_,hk,rfl,rfl,rfl,by rw [List.size_toArray,lenV];exact hl,by simpa using rv⟩) (fun b u z=>by have z':(none:Option HO)=some u:=z;cases z') (fun b z=>absurd rfl z) fun z=>absurd rfl z
 | none =>
  refine core (fun b=>if b=a then some (.frz { cls:=.type "list",data:=.seq vs.toArray } (.lst (ns.map V.int))) else none) (fun b=>?_) (.inl (.inr ⟨{ cls:=.type "list",data:=.seq vs.toArray },if_pos rfl⟩)) (fun b u z=>?_) (fun b z=>?_) fun _=>hk
  ·by_cases hb:b=a
   ·exact .inr ⟨_,_,if_pos hb⟩
   ·exact .inl (if_neg hb)
  ·by_cases hb:b=a
   ·have z':=(if_pos hb).symm.trans z;cases z';subst hb;exact ⟨ha,by rw [List.length_map];exact hl,vs,_,rv,ha⟩
   ·have z':=(if_neg hb).symm.trans z;cases z'
  ·by_cases hb:b=a
   ·exact hb
   ·exact absurd (if_neg hb) z
theorem mG {l:PySem.W.OpenLaw}{n k:Nat}{q:Program}{loose:List Str}{XP:(Str->Option Value)->Heap->Prop}{YP:World->Heap->Prop}{d:DefRec}{K:Params->PySem.W.Frag}{CX:World->CXT}{sp:World->Sp}{x:Str}
  (hn:l.most=some n) (hn2:n<=sizeLine) (hdf:d.params.defaults=[]) (hr:Room k callerA)
  (hY:∀ (w:World) (h:Heap),YP w h->(K w.params).In h)
  (F:∀ (w:World) (mg:Str->Option Value) (fa:Addr) (h:Heap),(K w.params).In h->h.Ns mainGlobals mg->mg d.name=some (.ref fa) ->
   ∃ fd:FuncData,(∀ (s:Shared) (u:Value),BindsTo s fd ⟨[u],[]⟩ [(x,u)]) /\
    ∀ base:Heap,(K w.params).In base->base.Ns mainGlobals mg->FnOk l.prog w (K w.params) mg base (CX w) k fa fd [x] (sp w))
  (hsp:∀ (w:World) (H:Hp) (a:Addr) (ns:List Int),ns.length<=n->Only H->SqL (K w.params) H a (ns.map V.int)->sp w [.ref a] H (fun v _=>v=.bl true) fun _ _ _=>False)
  (hCX:∀ (w:World) (H:Hp) (s:Shared) (e:Value) (s':Shared),CX w [] H s (fun _ _ _=>False) e s'->False) :
  PySem.W.WalkO q loose XP YP l.row.toRowW d [] (fun f vs=>PySem.call f vs):=by
 refine Att.attach_call hn hdf fun w s₀ s₁ mg mb fa o pm cd doc a vs ns G Y ho hd hcd hmg hobj hints hlen hg=>?_
 have KX:=hY w _ Y;obtain ⟨fd,hb,hF⟩:=F w mg fa _ KX G.T.g hmg;exact bL KX G.T.g G.T.b G.T.builtins G.T.nolimit hg hobj hints (Nat.le_trans hlen hn2) hr hF hb (fun H hO hS=>hsp w H a ns hlen hO hS) fun H e s'=>hCX w H s₁ e s'
noncomputable def Bt (s:Stmt):Arguments:=match s with
 | .FunctionDef _ a _ _ _ _ _ _ _ _=>a
 | _=>{ posonlyargs:=[],args:=[],vararg:=none,kwonlyargs:=[],kw_defaults:=[],kwarg:=none,defaults:=[] }
noncomputable def Bb (s:Stmt):List Stmt:=match s with
 | .FunctionDef _ _ b _ _ _ _ _ _ _=>b
 | _=>[]
noncomputable def Af (s:Stmt):Scope:=match s with
 | .FunctionDef _ _ _ _ _ _ sc _ _ _=>sc
 | _=>{ kind:=.function,names:=[],isGenerator:=false,isCoroutine:=false }
noncomputable abbrev CX0:CXT:=fun _ _ _ _ _ _=>False
noncomputable abbrev E0:XK:=fun _ _ _=>False
theorem Rw {X:Cx}:Cq CX0 X E0:=fun _ _ _ _ _ _ _ h=>h.elim
structure Fun (K:PySem.W.Frag) (x qual:Str) (st:Stmt) (f:Addr) (fd:FuncData):Prop where
 ex:∃ (oc:Value) (od:Option Addr) (kV doc pm:Value) (an:Option Addr) (cdv ct:Value) (osl:Array (Option Value)),
  fd=PySem.W.fnOf x qual (Bt st) (Bb st) (Af st) .none kV doc pm an cdv ct/\K.lookup f=some ⟨oc,od,.func fd,osl⟩/\PySem.W.codeIn K cdv qual=true
 kp:PySem.W.keepIn K (.ref f)=true
section
variable {P:Program}{w:World}{K:PySem.W.Frag}{mg:Str->Option Value}{base:Heap}
theorem Fun.ok {x qual:Str}{st:Stmt}{f:Addr}{fd:FuncData}{N ps:List Str}{k:Nat}{sp:Sp}(F:Fun K x qual st f fd) (S:FnScope N ps (Af st)) (len:∀ vs H Q E,sp vs H Q E->vs.length=ps.length)
  (hbody:∀ (cdv:Value) (A:Around) (outer:List Env) (s:Shared) (H:Hp) (vs:List V) (Q:VK) (E:XK),Room k (A.deeper (envOfC qual (Af st) s.heap.objs.size f cdv))->sp vs H Q E ->
   ∃ t,PSs (Yq CX0 P w K mg base N qual (Af st) f cdv A outer s H E).nox (Bb st) t/\t { nx:=fun _ H'=>Q .non H',rt:=Q } (start N vs) H):FnOk P w K mg base CX0 (k+1) f fd ps sp:=by
 obtain ⟨oc,od,kV,doc,pm,an,cdv,ct,osl,rfl,lk,hcd⟩:=F.ex;refine Aae lk hcd S len fun A outer s H vs Q E hr hsp=>?_
 obtain ⟨t,h,q⟩:=hbody cdv A outer s H vs Q E hr hsp;exact ⟨t,h.nox,q⟩
theorem Hx {x qual:Str}{st:Stmt}{f:Addr}{oc:Value}{od an:Option Addr}{osl:Array (Option Value)}{kV doc pm cdv ct:Value}(l:K.lookup f=some ⟨oc,od,.func (PySem.W.fnOf x qual (Bt st) (Bb st) (Af st) .none kV doc pm an cdv ct),osl⟩)
  (c:PySem.W.codeIn K cdv qual=true) (k:PySem.W.keepIn K (.ref f)=true):Fun K x qual st f (PySem.W.fnOf x qual (Bt st) (Bb st) (Af st) .none kV doc pm an cdv ct):=⟨⟨oc,od,kV,doc,pm,an,cdv,ct,osl,rfl,l,c⟩,k⟩
end
section
variable {X:Cx}
end
theorem Rx {A B:Prop}(h:B):if false=true then A else B:=by
 rw [if_neg Bool.false_ne_true];exact h
theorem Ry {A B:Prop}(h:A):if true=true then A else B:=by
 rw [if_pos rfl];exact h
section
variable {κ:Type} [DecidableEq κ]
end
theorem Aam {P:Program}{w:World}{k:Key}{u:Value}(r:RelV (kV k) u):(Cm P w).is k u=true:=by
 cases k with
 | inl i=>obtain ⟨t,e⟩:=(show ∃ t,u=Value.int i t from r);subst e;exact Rn P w i t
 | inr x=>obtain ⟨t,e⟩:=(show ∃ t,u=Value.str x t from r);subst e;exact Ro P w x t
theorem Jp {P:Program}{w:World}:∀ {ks:List Key}{us:List Value},Vals (ks.map kV) us->ItemsAre (Cm P w) ks us
 | [],_,r=>by rw [List.map_nil] at r;cases r;exact .nil
 | k::ks,_,r=>by
  rw [List.map_cons] at r;cases r with
  | cons h t=>exact .cons (Aam h) (Jp t)
section
variable {P:Program}{w:World}{H:Hp}{h:Heap}{a:Addr}
end
section
variable {X:Cx}{pins:List (Addr×Obj)}{σ:St}{H:Hp}{s:Shared}{a:Addr}{y v:V}{u r:Value}{o:Option V}{A:Around}{E:Value->Shared->Prop}
end
section
variable {X:Cx}{pins:List (Addr×Obj)}{σ:St}{H:Hp}{s:Shared}{a:Addr}{kvs:List (Key×V)}{k:Key}{u:Value}{A:Around}{E:Value->Shared->Prop}
end
section
variable {X:Cx}{o i e value:Expr}{pos pos' tpos:Pos}{td ty tv:TE}
end
section
variable {X:Cx}{pos:Pos}
end
section
variable {X:Cx}{pins:List (Addr×Obj)}{σ:St}{H:Hp}{s:Shared}{a:Addr}{y d:V}{u r:Value}{o:Option V}{A:Around}{E:Value->Shared->Prop}
end
section
variable {X:Cx}{o e f:Expr}{apos cpos:Pos}{td ty tx:TE}
end
section
variable {X:Cx}{pins:List (Addr×Obj)}{σ:St}{H:Hp}{s:Shared}{a:Addr}{kvs:List (Key×V)}{A:Around}{E:Value->Shared->Prop}
end
section
variable {X:Cx}{pins:List (Addr×Obj)}{σ:St}{H:Hp}{s:Shared}{a:Addr}{y:V}{u:Value}{A:Around}{E:Value->Shared->Prop}
end
theorem Lj {α β:Type}(g:α->β->β):∀ (l:List α) (f:α->β->Sem (ForInStep β)) (c:β),(∀ x∈l,∀ c,f x c=pure (.yield (g x c)))->forIn l c f=pure (l.foldl (fun c x=>g x c) c)
 | [],f,c,_=>by rw [List.forIn_nil];rfl
 | x::r,f,c,h=>by
  rw [List.forIn_cons,h x List.mem_cons_self];show (forIn r (g x c) f)=_;rw [Lj g r f (g x c) fun y hy=>h y (List.mem_cons_of_mem _ hy)];rfl
noncomputable def J8 (env:Env) (x:Str×NameKind) (cs:List (Str×Addr)):List (Str×Addr):=if x.2==.free then (x.1,(env.cells.lookup x.1).getD 0)::cs else cs
noncomputable def Em (env:Env) (names:List (Str×NameKind)):List (Str×Addr):=names.foldl (fun c x=>J8 env x c) []
theorem Hl {scope:Scope}{env:Env}(h:∀ x∈scope.names,x.2=.free->∃ c,env.cells.lookup x.1=some c):closureFor scope env=pure (Em env scope.names):=by
 unfold closureFor Em;dsimp only;rw [Lj (J8 env)]
 ·rfl
 ·intro x hx c;obtain ⟨n,k⟩:=x;dsimp only;unfold J8
  by_cases e:(k==NameKind.free)=true
  ·obtain ⟨a,ha⟩:=h _ hx (beq_iff_eq.mp e);have ha':List.lookup n env.cells=some a:=ha;dsimp only;rw [if_pos e,if_pos e];unfold cellOf;rw [ha'];rfl
  ·dsimp only;rw [if_neg e,if_neg e]
theorem Hy {env:Env}:∀ (names:List (Str×NameKind)) (acc:List (Str×Addr)) (x:Str) (c:Addr),(x,c)∈names.foldl (fun c x=>J8 env x c) acc->(x,c)∈acc\/((x,NameKind.free)∈names/\c=(env.cells.lookup x).getD 0)
 | [],acc,x,c,h=>.inl h
 | (n,k)::r,acc,x,c,h=>by
  rcases Hy r _ x c h with q|⟨q1,q2⟩
  ·unfold J8 at q;dsimp only at q;split at q
   ·rename_i e;have e:=beq_iff_eq.mp e;rcases List.mem_cons.mp q with q|q
    ·cases q;exact .inr ⟨by rw [e];exact List.mem_cons_self,rfl⟩
    ·exact .inl q
   ·exact .inl q
  ·exact .inr ⟨List.mem_cons_of_mem _ q1,q2⟩
theorem Lk {env:Env}:∀ (names:List (Str×NameKind)) (acc:List (Str×Addr)) (x:Str),(acc.lookup x).isSome=true\/(x,NameKind.free)∈names->((names.foldl (fun c x=>J8 env x c) acc).lookup x).isSome=true
 | [],acc,x,h=>by
  rcases h with h|h
  ·exact h
  ·exact absurd h (by simp)
 | (n,k)::r,acc,x,h=>by
  refine Lk r _ x ?_;unfold J8;rcases h with h|h
  ·left;dsimp only;split
   ·rw [List.lookup_cons];split
    ·rfl
    ·exact h
   ·exact h
  ·rcases List.mem_cons.mp h with h|h
   ·cases h;left;dsimp only;rw [if_pos (by rfl),List.lookup_cons];simp
   ·exact .inr h
theorem Qp {env:Env}{names:List (Str×NameKind)}{x:Str}{c:Addr}(h:(Em env names).lookup x=some c):(x,NameKind.free)∈names/\c=(env.cells.lookup x).getD 0:=by
 rcases Hy names [] x c (PySem.mem_of_lookup h) with q|q
 ·exact absurd q (by simp)
 ·exact q
theorem Ox {env:Env}{names:List (Str×NameKind)}{x:Str}(h:(x,NameKind.free)∈names):(Em env names).lookup x=some ((env.cells.lookup x).getD 0):=by
 obtain ⟨c,e⟩:=Option.isSome_iff_exists.mp (Lk (env:=env) names [] x (.inr h));rw [show Em env names=names.foldl (fun c x=>J8 env x c) [] from rfl,e,(Qp e).2]
theorem Dm:∀ (names:List (Str×NameKind)) (n:Nat) (acc:List (Str×Addr)) (x:Str) (c:Addr),(x,c)∈cellsFrom n names acc->(x,c)∈acc\/(n<=c/\(x,NameKind.cell)∈names)
 | [],_,_,_,_,h=>.inl h
 | (y,k)::r,n,acc,x,c,h=>by
  unfold cellsFrom at h;split at h
  ·rename_i e;have e:=beq_iff_eq.mp e;rcases Dm r (n+1) _ x c h with q|⟨q1,q2⟩
   ·rcases List.mem_cons.mp q with q|q
    ·cases q;exact .inr ⟨Nat.le_refl _,by rw [e];exact List.mem_cons_self⟩
    ·exact .inl q
   ·exact .inr ⟨by omega,List.mem_cons_of_mem _ q2⟩
  ·rcases Dm r n acc x c h with q|⟨q1,q2⟩
   ·exact .inl q
   ·exact .inr ⟨q1,List.mem_cons_of_mem _ q2⟩
theorem Ep:∀ (names:List (Str×NameKind)) (n lo:Nat) (acc:List (Str×Addr)) (x:Str) (c:Addr),lo<=n->((x,NameKind.cell)∈names\/∀ c',acc.lookup x=some c'->lo<=c')->(cellsFrom n names acc).lookup x=some c->lo<=c
 | [],_,_,acc,x,c,_,h,e=>by
  rcases h with h|h
  ·exact absurd h (by simp)
  ·exact h c e
 | (y,k)::r,n,lo,acc,x,c,hl,h,e=>by
  unfold cellsFrom at e;split at e
  ·rename_i ek;refine Ep r (n+1) lo _ x c (by omega) ?_ e;rcases h with h|h
   ·rcases List.mem_cons.mp h with h|h
    ·cases h;right;intro c' hc;rw [List.lookup_cons] at hc;rw [beq_self_eq_true] at hc;cases hc;exact hl
    ·exact .inl h
   ·right;intro c' hc;rw [List.lookup_cons] at hc;split at hc
    ·cases hc;omega
    ·exact h c' hc
  ·rename_i ek;refine Ep r n lo acc x c hl ?_ e;rcases h with h|h
   ·rcases List.mem_cons.mp h with h|h
    ·cases h;exact absurd rfl ek
    ·exact .inl h
   ·exact .inr h
theorem Er:∀ (names:List (Str×NameKind)) (n:Nat) (acc:List (Str×Addr)),(∀ x y c,(x,c)∈acc->(y,c)∈acc->x=y)->(∀ x c,(x,c)∈acc->c < n) ->
  ∀ x y c,(x,c)∈cellsFrom n names acc->(y,c)∈cellsFrom n names acc->x=y
 | [],_,_,h,_=>h
 | (z,k)::r,n,acc,h,hb=>by
  unfold cellsFrom;split
  ·refine Er r (n+1) _ (fun x y c hx hy=>?_) fun x c hx=>?_
   ·rcases List.mem_cons.mp hx with hx | hx <;> rcases List.mem_cons.mp hy with hy|hy
    ·cases hx;cases hy;rfl
    ·cases hx;exact absurd (hb _ _ hy) (Nat.lt_irrefl _)
    ·cases hy;exact absurd (hb _ _ hx) (Nat.lt_irrefl _)
    ·exact h x y c hx hy
   ·rcases List.mem_cons.mp hx with hx|hx
    ·cases hx;exact Nat.lt_succ_self _
    ·exact Nat.lt_succ_of_lt (hb x c hx)
  ·exact Er r n acc h hb
theorem Eg:∀ (names:List (Str×NameKind)) (h:Heap) (acc:List (Str×Addr)) (x:Str) (c:Addr),(∀ x c,(x,c)∈acc->∃ v,h.IsCell c v)->(x,c)∈cellsFrom h.objs.size names acc->∃ v,(pushCells h names).IsCell c v
 | [],h,acc,x,c,hb,e=>hb x c e
 | (y,k)::r,h,acc,x,c,hb,e=>by
  unfold cellsFrom at e;unfold pushCells;split at e
  ·rename_i ek;rw [if_pos ek];refine Eg r _ ((y,h.objs.size)::acc) x c (fun x c hx=>?_) (by rw [Heap.size_push];exact e);rcases List.mem_cons.mp hx with hx|hx
   ·cases hx;exact ⟨none,_,Heap.get?_push_size _ rfl,rfl⟩
   ·obtain ⟨v,q⟩:=hb x c hx;exact ⟨v,q.keeps fun b o e=>Heap.get?_push_of_some _ e⟩
  ·rename_i ek;rw [if_neg ek];exact Eg r h acc x c hb e
theorem Eh:∀ (names:List (Str×NameKind)) (h:Heap),h.objs.size<=(pushCells h names).objs.size
 | [],h=>Nat.le_refl _
 | (y,k)::r,h=>by
  unfold pushCells;split
  ·refine Nat.le_trans ?_ (Eh r _);rw [Heap.size_push];omega
  ·exact Eh r h
theorem Rz {M:Model}{A:Around}{E:Value->Shared->Prop}{s:Shared}{scope:Scope}{globals:Addr}{cl:List (Str×Addr)}{qual:Str}{env:Env}{Q:Env->Shared->Prop}
  (hQ:Q (newEnv scope s.heap.objs.size globals (cellsFrom (s.heap.objs.size+1) scope.names cl) qual none .none (some env) builtinsNs) { s with heap:=pushCells (s.heap.push { cls:=.type "dict",data:=.dict #[] }) scope.names }) :
  wpAny M A (newFunctionEnv scope globals cl [] qual none .none (some env)) Q E s:=by
 simp only [newFunctionEnv,Option.isSome_some,if_true];refine wpAny_bind (wpAny_alloc ?_);refine wpAny_bind (wpAny_layCells _ (fun name kind cells=>by cases hkc:kind==NameKind.cell <;> simp [hkc]) _ _ _ _ ?_)
 rw [show ({ s with heap:=s.heap.push { cls:=.type "dict",data:=.dict #[] } }:Shared).heap.objs.size=s.heap.objs.size+1 from Heap.size_push ..];rw [List.forIn_nil];exact wpAny_bind (wpAny_pure (wpAny_pure hQ))
theorem Dp {α:Type}:∀ {l:List (Str×α)}{n:Str}{c:α},(l.map (·.1)).Nodup->(n,c)∈l->l.lookup n=some c
 | [],_,_,_,h=>absurd h (by simp)
 | (k,v)::r,n,c,nd,h=>by
  rw [List.map_cons,List.nodup_cons] at nd;rw [List.lookup_cons];rcases List.mem_cons.mp h with q|q
  ·cases q;rw [beq_self_eq_true]
  ·have:(n==k)=false:=by
    rw [beq_eq_false_iff_ne];intro e;subst e;exact nd.1 (List.mem_map.mpr ⟨(n,c),q,rfl⟩)
   rw [this];exact Dp nd.2 q
theorem Ei {env:Env}(scope:Scope) (x:Str):(relabel scope env).names.lookup x=(scope.names.lookup x).map fun k=>if (k==.free&&env.scope.kind==.function&&env.kindOf x==some .cell) then .cell else k:=by
 show (scope.names.map _).lookup x=_
 induction scope.names with
 | nil=>rfl
 | cons a r ih =>
  obtain ⟨n,k⟩:=a;rw [List.map_cons];dsimp only;rw [List.lookup_cons (b:=k)]
  by_cases e:(x==n)=true
  ·rw [e];have e':=beq_iff_eq.mp e;subst e';dsimp only;split
   ·rename_i hc;rw [List.lookup_cons,e];simp only [Option.map_some,hc,if_true]
   ·rename_i hc;rw [List.lookup_cons,e];rw [Option.map_some,if_neg hc]
  ·have e2:(x==n)=false:=by simpa using e
   rw [e2];dsimp only;split
   ·rw [List.lookup_cons,e2];exact ih
   ·rw [List.lookup_cons,e2];exact ih
structure CompOk (X:Cx) (scope:Scope):Prop where
 kind:scope.kind=.function
 nd:(scope.names.map (·.1)).Nodup
 fr:∀ x∈scope.names,x.2=.free->X.env.kindOf x.1=some .cell\/X.env.kindOf x.1=some .free
noncomputable def Br (X:Cx) (pins:List (Addr×Obj)) (N':List Str) (scope:Scope) (C:Addr) (cells:List (Str×Addr)) (s₀:Shared) (H₀:Hp) (fp:List Addr):Cx where
 prog:=X.prog
 w:=X.w
 K:=X.K
 mg:=X.mg
 base:=X.base
 A:=X.A
 N:=N'
 s₀:=s₀
 H₀:=H₀
 env:={ scope:=relabel scope X.env,locals:=C,globals:=X.env.globals,cells:=cells,qual:=X.env.qual,func:=none,code:=X.env.code,frame:=X.env.frame,builtins:=X.env.builtins }
 outer:=X.stack
 stack:=X.stack
 ex:=fp
 fn:=fun x=>decide ((x,NameKind.cell)∈scope.names)
 calm:=X.calm
 pn:=X.pn++pins
 xe:=fun _ _=>False
noncomputable def Cap (X:Cx) (N':List Str) (scope:Scope) (σ σ0:St):Prop:=σ0.length=N'.length/\∀ (i:Nat) (x:Str) (v:V),N'[i]?=some x->σ0[i]?=some (some v) ->
 scope.names.lookup x=some .free/\∃ j:Nat,X.N[j]?=some x/\σ[j]?=some (some v)
noncomputable abbrev Aq (its:List Value) (n:Nat):Obj:={ cls:=.type "list",data:=.seq its.toArray n }
section
variable {X:Cx}{pins:List (Addr×Obj)}{σ:St}{H:Hp}{s:Shared}
theorem Vc {N':List Str}{scope:Scope}{fp:List Addr}{σ0:St}(I:Inv X pins σ H s) (S:CompOk X scope) (hf:∀ b∈fp,Gn X pins H b) (hb:∀ b∈fp,∃ o,s.heap.get? b=some o) (hσ:Cap X N' scope σ σ0) :
    Inv (Br X pins N' scope (s.heap.objs.size+1) (cellsFrom (s.heap.objs.size+1+1) scope.names (Em X.env scope.names)) s H fp) [(s.heap.objs.size,Aq [] 0)] σ0 H
      { s with heap:=pushCells ((s.heap.push (Aq [] 0)).push { cls:=.type "dict",data:=.dict #[] }) scope.names }:=by
  have sz1:(s.heap.push (Aq [] 0)).objs.size=s.heap.objs.size+1:=Heap.size_push ..
  have sz2:((s.heap.push (Aq [] 0)).push { cls:=.type "dict",data:=.dict #[] }).objs.size=s.heap.objs.size+1+1:=by rw [Heap.size_push,sz1]
  have keep:∀ b o,s.heap.get? b=some o->(pushCells ((s.heap.push (Aq [] 0)).push { cls:=.type "dict",data:=.dict #[] }) scope.names).get? b=some o:=fun b o e=>pushCells_keeps _ _ b o (Heap.get?_push_of_some _ (Heap.get?_push_of_some _ e))
  have capt:∀ x c,(x,c)∈Em X.env scope.names->X.env.cells.lookup x=some c:=fun x c h=>by
    rcases Hy scope.names [] x c h with q|⟨q1,q2⟩
    · exact absurd q (by simp)
    · obtain ⟨c',e⟩:=I.ok.has x (S.fr _ q1 rfl);rw [e] at q2;rw [e,q2];rfl
  have cells:∀ x c,(cellsFrom (s.heap.objs.size+1+1) scope.names (Em X.env scope.names)).lookup x=some c->X.env.cells.lookup x=some c\/s.heap.objs.size+1+1<=c:=fun x c h=>by
    rcases Dm _ _ _ x c (PySem.mem_of_lookup h) with q|⟨q,_⟩
    · exact .inl (capt x c q)
    · exact .inr q
  have stk:∀ b∈frs X.stack,b < s.heap.objs.size:=fun b hb=>by
    rcases Nat.lt_or_ge b s.heap.objs.size with z|z
    · exact z
    · rcases List.mem_cons.mp (I.stkSub b hb) with q|q
      · rw [q];exact I.lt
      · exact absurd q (I.nofs z)
  have fpb:∀ b∈fp,b < s.heap.objs.size:=fun b h=>let ⟨o,e⟩:=hb b h;Heap.lt_size e
  refine ⟨⟨I.ok.mod,S.kind,I.ok.glob,I.ok.blt,Nat.le_succ _,fun x y c h1 h2=>?_,fun x hx=>?_,fun x c hx h=>?_,I.ok.hd,I.ok.frames,.inl rfl,fun b hb=>⟨?_,fun x c h=>?_⟩,I.bs,Nat.le_trans I.ok.bsz I.sz,fun b o h z=>?_,fun b hb z=>?_,I.stack,I.stkFree⟩,
    rfl,I.bare,Un.kept keep,⟨fun _=>none,?_,fun i x v h1 h2 h3=>?_⟩,fun x c h=>?_,I.hok.fresh (Nat.le_succ _),fun x c h=>?_,fun p hp=>?_,I.hok.kept keep,hσ.1⟩
  · refine Er scope.names (s.heap.objs.size+1+1) (Em X.env scope.names) (fun x y c h1 h2=>I.ok.inj x y c (capt x c h1) (capt y c h2)) (fun x c h=>?_) x y c (PySem.mem_of_lookup h1) (PySem.mem_of_lookup h2);obtain ⟨v,q⟩:=I.cell x c (capt x c h);exact Nat.lt_succ_of_lt (Nat.lt_succ_of_lt q.lt)
  · have hx:(relabel scope X.env).names.lookup x=some .cell\/(relabel scope X.env).names.lookup x=some .free:=hx;rw [Ei] at hx;refine Option.isSome_iff_exists.mp (PySem.W.cellsFrom_some scope.names _ _ ?_);cases e:scope.names.lookup x with
    | none=>rw [e] at hx;rcases hx with h | h <;> cases h
    | some k =>
      cases k with
      | cell=>exact .inl rfl
      | free=>right;rw [Ox (PySem.mem_of_lookup e)];rfl
      | «local»=>rw [e] at hx;rcases hx with h | h <;> cases h
      | globalExplicit=>rw [e] at hx;rcases hx with h | h <;> cases h
      | globalImplicit=>rw [e] at hx;rcases hx with h | h <;> cases h
  · exact Nat.le_trans (Nat.le_succ_of_le (Nat.le_succ _)) (Ep scope.names _ (s.heap.objs.size+1+1) _ x c (Nat.le_refl _) (.inl (of_decide_eq_true hx)) h)
  · exact Nat.ne_of_lt (Nat.lt_succ_of_lt (fpb b hb))
  · rcases cells x c h with q|q
    · exact (hf b hb).2.2.2.2.1 x c q
    · exact Nat.ne_of_gt (Nat.lt_of_lt_of_le (fpb b hb) (by omega))
  · rcases (hf b z).2.2.2.1 with q|q
    · exact I.ok.noex b o h q
    · exact absurd (Nat.lt_of_lt_of_le (Heap.lt_size h) (Nat.le_trans I.ok.bsz q)) (Nat.lt_irrefl _)
  · rcases List.mem_cons.mp (I.stkSub b z) with q|q
    · exact (hf b hb).2.1 q
    · exact (hf b hb).2.2.1 q
  · show (pushCells _ _).Ns (s.heap.objs.size+1) _
    have n:=(Heap.Ns.new (s.heap.push (Aq [] 0)) (.type "dict")).keeps (pushCells_keeps scope.names _);rw [sz1] at n;exact n
  · obtain ⟨e1,j,e2,e3⟩:=hσ.2 i x v h1 h2;obtain ⟨m,hn,hl⟩:=I.loc;have fr:=S.fr _ (PySem.mem_of_lookup e1) rfl;have vis:Vis X.env.scope x:=by
      rcases fr with q|q
      · exact .inr (.inl q)
      · exact .inr (.inr q)
    obtain ⟨u,r,l⟩:=hl j x v e2 e3 vis;refine ⟨u,r,.inr ⟨?_,?_⟩⟩
    · show (relabel scope X.env).names.lookup x=some .cell\/(relabel scope X.env).names.lookup x=some .free;rw [Ei,e1];simp only [Option.map_some];split
      · exact .inl rfl
      · exact .inr rfl
    · rcases l with ⟨k,_⟩|⟨_,c,ec,hc⟩
      · rcases fr with q | q <;> · rw [k] at q;cases q
      · refine ⟨c,?_,hc.keeps keep⟩;obtain ⟨c2,e⟩:=Option.isSome_iff_exists.mp (PySem.W.cellsFrom_some (x:=x) scope.names (s.heap.objs.size+1+1) (Em X.env scope.names) (.inr (by rw [Ox (PySem.mem_of_lookup e1)];rfl)));show (cellsFrom _ _ _).lookup x=some c;rw [e];rcases Dm _ _ _ x c2 (PySem.mem_of_lookup e) with q|⟨_,q⟩
        · rw [capt x c2 q] at ec;exact ec
        · rw [Dp S.nd q] at e1;cases e1
  · refine Eg scope.names ((s.heap.push (Aq [] 0)).push { cls:=.type "dict",data:=.dict #[] }) (Em X.env scope.names) x c (fun x c h=>?_) ?_
    · obtain ⟨v,q⟩:=I.cell x c (capt x c h);exact ⟨v,q.keeps fun b o e=>Heap.get?_push_of_some _ (Heap.get?_push_of_some _ e)⟩
    · rw [sz2];exact PySem.mem_of_lookup h
  · rcases cells x c h with q|q
    · exact I.freeC x c q
    · exact I.hok.fresh (by omega)
  · rcases List.mem_append.mp hp with hp|hp
    · obtain ⟨q1,q2,q3,q4,q5⟩:=I.pin p hp;have lt:=Heap.lt_size q1;refine ⟨keep _ _ q1,q2,Nat.ne_of_lt (Nat.lt_succ_of_lt lt),fun z=>?_,q5⟩;rcases List.mem_cons.mp (I.stkSub p.1 z) with r|r
      · exact q3 r
      · exact q4 r
    · have e:p=(s.heap.objs.size,Aq [] 0):=by simpa using hp
      subst e;refine ⟨pushCells_keeps _ _ _ _ (Heap.get?_push_of_some _ (Heap.get?_push_size _ rfl)),I.hok.fresh (Nat.le_refl _),Nat.ne_of_lt (Nat.lt_succ_self _),fun z=>?_,fun v=>by intro z;cases z⟩;exact Nat.lt_irrefl _ (stk _ z)
theorem bM {N':List Str}{scope:Scope}{fp:List Addr}{σ':St}{C:Addr}{cells:List (Str×Addr)}{H':Hp}{s':Shared}{its:List Value}{n:Nat}{ys:List V}{pl:List (Addr×Obj)}(I:Inv X pins σ H s) (hf:∀ b∈fp,Gn X pins H b)
  (J:Inv (Br X pins N' scope C cells s H fp) ((s.heap.objs.size,Aq its n)::pl) σ' H' s') (r:Vals ys its) (hz:ys.length<=sizeLine) :
  Inv X pins σ (upd H' s.heap.objs.size (.lst ys)) s':=by
 obtain ⟨p1,p2,p3,p4,p5⟩:=J.pin (s.heap.objs.size,Aq its n) (List.mem_append_right _ List.mem_cons_self);have hD:H' s.heap.objs.size=none:=p2;have ne:∀ b o,s.heap.get? b=some o->b≠s.heap.objs.size:=fun b o e=>Nat.ne_of_lt (Heap.lt_size e)
 have U:=J.base;refine I.call' (ch:=fp) J.os ⟨fun b o e h1 h2 h3=>U.keep b o e h1 h2 h3,fun b o e h1 h2 h3=>U.slot b o e h1 h2 h3,fun b o e h1 h2=>?_,U.there,fun b xs e=>?_,fun b o u e=>?_,fun b ps e=>?_⟩ ?_ J.bare fun b hb=>?_
 ·rw [Aj (ne b o e)];exact U.free b o e h1 h2
 ·have q:=U.tups b xs e;rw [Aj (Ao q hD)];exact q
 ·have q:=U.frzs b o u e;rw [Aj (Ao q hD)];exact q
 ·obtain ⟨m,q⟩:=U.tbls b ps e;exact ⟨m,by rw [Aj (Ao q hD)];exact q⟩
 ·intro b u e
  by_cases hb:b=s.heap.objs.size
  ·subst hb;rw [Ay] at e;cases e;exact ⟨hz,its,n,r,p1⟩
  ·rw [Aj hb] at e;exact (J.hok b u e).stay (fun _ _ _ q=>q) (fun c q=>by rw [Aj (Ao q hD)];exact q) fun c xs q=>by rw [Aj (Ao q hD)];exact q
 ·obtain ⟨q0,q1,q2,q3,q4,q5⟩:=hf b hb;exact ⟨q3,q1,q4,q5⟩
end
section
variable {prog:Program}{w:World}{A:Around}{E:Value->Shared->Prop}{R:Result->Shared->Prop}{s:Shared}
noncomputable abbrev W3 (ifs:List Expr) (env:Env):Sem Bool:=forIn ifs true fun c r=>if r=true then do let ok ← isTrue c env (eval c env);pure (ForInStep.yield ok) else pure (ForInStep.yield r)
theorem Qq {elt target iter:Expr}{ifs:List Expr}{scope:Scope}{pos:Pos}{it acc:Value}{env:Env}(I:Nat->Shared->Prop)
  (turn:∀ n s,I n s->wpAny (model prog w) A (pyNext it) (fun r s₁=>match r with
   | none=>R (.ok .next) s₁
   | some v=>wpAny (model prog w) A (letOwnedTupleGo target it v) (fun _ s'=>wpAny (model prog w) A (assign target env v) (fun _ s₂ =>
     wpAny (model prog w) A (W3 ifs env) (fun ok s₃ =>
      if ok=true then wpAny (model prog w) A (eval elt env) (fun x s₄ =>
       wpAny (model prog w) A (call (.builtin "list.append") [acc,x]) (fun _ s₅=>∃ m,m < n/\I m s₅) (fun _ _=>False) s₄) (fun _ _=>False) s₃
      else ∃ m,m < n/\I m s₃) (fun _ _=>False) s₂) (fun _ _=>False) s') (fun _ _=>False) s₁) (fun _ _=>False) s)
  (n:Nat) (h:I n s) :
  codeAny (model prog w) A (.compLoop (.ListComp elt [⟨target,iter,ifs,0⟩] scope pos) 0 it acc env) R s:=by
 refine codeAny_loop rfl I (fun n s hI=>?_) n h;show wpAny _ A ((compTurn (.ListComp elt [⟨target,iter,ifs,0⟩] scope pos) 0 it acc env).onRaise (fun x=>do noteFrame x env;theTreesLotGoes x)) _ _ s;refine wpAny_noted ?_;rw [compTurn_list];refine wpAny_bind (wpAny_standAt (wpAny_bind (wpAny_mono (turn n s hI) (fun r s₁ h₁=>?_) fun _ _ h'=>h'.elim)));cases r with
 | none=>exact wpAny_pure h₁
 | some v =>
  refine wpAny_bind (wpAny_mono h₁ (fun _ s' h'=>?_) fun _ _ h'=>h'.elim);refine wpAny_bind (wpAny_mono h' (fun _ s₂ h₂=>wpAny_bind (wpAny_mono h₂ (fun ok s₃ h₃=>?_) fun _ _ h'=>h'.elim)) fun _ _ h'=>h'.elim);cases ok with
  | false=>exact wpAny_pure ⟨rfl,h₃⟩
  | true =>
   exact wpAny_bind (wpAny_bind (wpAny_mono h₃ (fun x s₄ h₄=>wpAny_bind (wpAny_mono h₄ (fun _ s₅ h₅=>wpAny_pure (wpAny_pure ⟨rfl,h₅⟩)) fun _ _ h'=>h'.elim)) fun _ _ h'=>h'.elim))
end
noncomputable def PIf (X:Cx) (ifs:List Expr) (t:TT):Prop :=
 ∀ (pins:List (Addr×Obj)) (s:Shared) (σ:St) (H:Hp) (Q:Bool->Hp->Prop),Inv X pins σ H s->t σ H Q->wpAny (model X.prog X.w) X.A (W3 ifs X.env) (TP X pins σ Q) X.xe s
theorem mH {X:Cx}:PIf X [] (fun _ H Q=>Q true H):=fun pins s σ H Q I h=>wpAny_tests_nil ⟨H,I,h⟩
theorem mJ {X:Cx}{c:Expr}{t:TT}(h:PT X c t):PIf X [c] t:=fun pins s σ H Q I q=>wpAny_tests_one (h pins s σ H Q I q)
noncomputable def Kept (σ0 σ2:St):Prop:=σ2.length=σ0.length/\∀ (i:Nat) v,σ0[i]?=some (some v)->σ2[i]?=some (some v)
noncomputable def bN (X:Cx) (N':List Str) (scope:Scope) (wi:TI) (g:TG) (tc:TT) (te:TE):TE:=fun σ H Q=>wi σ H fun J H1=>∃ σ0,Cap X N' scope σ σ0/\∃ W:Nat->Nat->List V->Hp->Prop,(∃ m,W 0 m [] H1)/\∀ i m acc H,W i m acc H ->
 (J.stop i H/\∀ p,H p=none->Q (.ref p) (upd H p (.lst acc))) \/
 (J.go i H/\∃ N:List V->Hp->Prop,(∀ acc' H',N acc' H'->∃ m',m' < m/\W (i+1) m' acc' H')/\∀ x H',J.yld i H x H'->g x σ0 H' fun σ2 H2=>Kept σ0 σ2/\tc σ2 H2 fun b H3=>if b=true then acc.length < sizeLine/\te σ2 H3 fun y H4=>N (acc++[y]) H4 else N acc H3)
section
variable {X:Cx}{N':List Str}{scope:Scope}{wi:TI}{g:TG}{tc:TT}{te:TE}{elt target iter:Expr}{ifs:List Expr}{pos:Pos}
theorem Lp {pins:List (Addr×Obj)}{s:Shared}{σ σ0:St}{H:Hp}{it:Addr}{fp:List Addr}{tn:Nat->Heap->Prop}{J:It}{QQ:List V->Hp->Prop}{E:Value->Shared->Prop}{RR:Value->Addr->Result->Shared->Prop}(hc:X.calm=true) (S:CompOk X scope)
  (hg:∀ pins C cells s₀ H₀ fp,PG (Br X pins N' scope C cells s₀ H₀ fp) target g)
  (hi:∀ pins C cells s₀ H₀ fp,PIf (Br X pins N' scope C cells s₀ H₀ fp) ifs tc)
  (he:∀ pins C cells s₀ H₀ fp,PE (Br X pins N' scope C cells s₀ H₀ fp) elt te)
  (I:Inv X pins σ H s) (T:Turn X.prog X.w X.K target J fp it tn) (st:tn 0 s.heap) (hf:∀ b∈fp,Gn X pins H b) (hσ:Cap X N' scope σ σ0)
  (W:Nat->Nat->List V->Hp->Prop) (w0:∃ m,W 0 m [] H)
  (turn:∀ i m acc H,W i m acc H->(J.stop i H/\QQ acc H) \/
   (J.go i H/\∃ N:List V->Hp->Prop,(∀ acc' H',N acc' H'->∃ m',m' < m/\W (i+1) m' acc' H')/\∀ x H',J.yld i H x H'->g x σ0 H' fun σ2 H2=>Kept σ0 σ2/\tc σ2 H2 fun b H3=>if b=true then acc.length < sizeLine/\te σ2 H3 fun y H4=>N (acc++[y]) H4 else N acc H3))
  (hRR:∀ (C:Addr) (acc:List V) (H':Hp) (s':Shared) (m:Str->Option Value),QQ acc H'->Inv X pins σ (upd H' s.heap.objs.size (.lst acc)) s'->H' s.heap.objs.size=none->s'.heap.Ns C m->H' C=none->C≠s.heap.objs.size->s.heap.objs.size<=C->RR (.ref s.heap.objs.size) C (.ok .next) s') :
  wpAny (model X.prog X.w) X.A (newList []) (fun acc s₃=>wpAny (model X.prog X.w) X.A (newFunctionEnv scope X.env.globals (Em X.env scope.names) [] X.env.qual none .none (some X.env)) (fun cenv s₄ =>
   codeAny (model X.prog X.w) X.A (.compStart (.ListComp elt [⟨target,iter,ifs,0⟩] scope pos) 0 (.ref it) acc { cenv with scope:=relabel scope X.env }) (RR acc cenv.locals) s₄) E s₃) E s:=by
 refine wpAny_newObj_type (Rz ?_);have sz1:(s.heap.push (Aq [] 0)).objs.size=s.heap.objs.size+1:=Heap.size_push ..;have I0:=Vc (N':=N') (σ0:=σ0) I S hf (fun b hb=>let ⟨o,e,_⟩:=T.obj 0 _ st b hb;⟨o,e⟩) hσ
 show codeAny (model X.prog X.w) X.A (.compStart (.ListComp elt [⟨target,iter,ifs,0⟩] scope pos) 0 (.ref it) (.ref s.heap.objs.size) _) (RR (.ref s.heap.objs.size) (s.heap.push (Aq [] 0)).objs.size) { s with heap:=pushCells ((s.heap.push (Aq [] 0)).push { cls:=.type "dict",data:=.dict #[] }) scope.names };rw [sz1];show codeAny (model X.prog X.w) X.A (.compStart (.ListComp elt [⟨target,iter,ifs,0⟩] scope pos) 0 (.ref it) (.ref s.heap.objs.size) (Br X pins N' scope (s.heap.objs.size+1) (cellsFrom (s.heap.objs.size+1+1) scope.names (Em X.env scope.names)) s H fp).env) _ _;generalize hX':Br X pins N' scope (s.heap.objs.size+1) (cellsFrom (s.heap.objs.size+1+1) scope.names (Em X.env scope.names)) s H fp=X' at I0 ⊢
 have keep0:∀ b o,s.heap.get? b=some o->(pushCells ((s.heap.push (Aq [] 0)).push { cls:=.type "dict",data:=.dict #[] }) scope.names).get? b=some o:=fun b o e=>pushCells_keeps _ _ b o (Heap.get?_push_of_some _ (Heap.get?_push_of_some _ e))
 have st0:tn 0 (pushCells ((s.heap.push (Aq [] 0)).push { cls:=.type "dict",data:=.dict #[] }) scope.names):=T.keep _ _ _ st fun b _ o e=>keep0 b o e
 have hA:X'.A=X.A:=by rw [← hX'];rfl
 have hP:X'.prog=X.prog:=by rw [← hX'];rfl
 have hw:X'.w=X.w:=by rw [← hX'];rfl
 have hK:X'.K=X.K:=by rw [← hX'];rfl
 have hC:X'.calm=true:=by rw [← hX'];exact hc
 have hL:X'.env.locals=s.heap.objs.size+1:=by rw [← hX'];rfl
 have hS0:X'.s₀=s:=by rw [← hX'];rfl
 have hxe:X'.xe=fun _ _=>False:=by rw [← hX'];rfl
 have hex:X'.ex=fp:=by rw [← hX'];rfl
 have hpn:X'.pn=X.pn++pins:=by rw [← hX'];rfl
 have hgX:PG X' target g:=by rw [← hX'];exact hg _ _ _ _ _ _
 have hiX:PIf X' ifs tc:=by rw [← hX'];exact hi _ _ _ _ _ _
 have heX:PE X' elt te:=by rw [← hX'];exact he _ _ _ _ _ _
 -- the iterator's own objects,in the block
 have fpo:∀ {pl:List (Addr×Obj)} {H':Hp} {its:List Value} {n:Nat},(∀ b∈fp,H' b=none)->∀ b∈fp,Gn X' [(s.heap.objs.size,Aq its n)] H' b:=fun {pl H' its n} hn b hb=>by
  obtain ⟨q0,q1,q2,q3,q4,q5⟩:=hf b hb;obtain ⟨e1,e2⟩:=I0.ok.exf b (by rw [hex];exact hb);have lt:b < s.heap.objs.size:=let ⟨o,e,_⟩:=T.obj 0 _ st b hb;Heap.lt_size e;refine ⟨hn b hb,e1,I0.ok.exfs b (by rw [hex];exact hb),.inl (by rw [hex];exact hb),e2,fun p hp=>?_⟩;rw [hpn] at hp;rcases List.mem_append.mp hp with hp|hp
  ·exact q5 p hp
  ·have e:p=(s.heap.objs.size,Aq its n):=by simpa using hp
   subst e;exact Nat.ne_of_gt lt
 obtain ⟨m0,w0⟩:=w0
 have loop:codeAny (model X.prog X.w) X.A (.compLoop (.ListComp elt [⟨target,iter,ifs,0⟩] scope pos) 0 (.ref it) (.ref s.heap.objs.size) X'.env) (RR (.ref s.heap.objs.size) (s.heap.objs.size+1)) { s with heap:=pushCells ((s.heap.push (Aq [] 0)).push { cls:=.type "dict",data:=.dict #[] }) scope.names }:=by
  refine Qq (fun k s'=>∃ i H' acc its n,Inv X' [(s.heap.objs.size,Aq its n)] σ0 H' s'/\tn i s'.heap/\(∀ b∈fp,H' b=none)/\Vals acc its/\acc.length<=sizeLine/\W i k acc H') ?_ m0
   ⟨0,H,[],[],0,I0,st0,fun b hb=>(hf b hb).1,.nil,Nat.zero_le _,w0⟩
  rintro k s3 ⟨i,H3,acc,its,n,I3,st3,fr3,rv,hz,w3⟩;rcases turn i k acc H3 w3 with ⟨stop,qn⟩|⟨go,N,hN,step⟩
  ·have z:=T.done X' hP hw hK hC i _ s3 σ0 H3 (fun _ _=>False) I3 (fpo (pl:=[]) fr3) st3 stop;rw [hA] at z;refine thn z ?_;rintro r s4 ⟨hr,I4⟩;subst hr;obtain ⟨m,hn,_⟩:=I4.loc;rw [hL] at hn;have fC:=I4.free;rw [hL] at fC;have e:=I4;rw [← hX'] at e;exact hRR _ acc H3 s4 m qn (bM I hf e rv hz) (I4.pin (s.heap.objs.size,Aq its n) (List.mem_append_right _ List.mem_cons_self)).2.1 hn fC (Nat.succ_ne_self _) (Nat.le_succ _)
  ·have z:=T.item X' hP hw hK hC i _ s3 σ0 H3 (fun _ _=>False) I3 (fpo (pl:=[]) fr3) st3 go;rw [hA] at z;refine thn z ?_;rintro r s4 ⟨u,hr,h4⟩;subst hr;refine thn h4 ?_;rintro _ s5 ⟨x,H5,I5,r5,y5,st5,fr5⟩;have I5':=I5.pinned (fpo (pl:=[]) fr5) (T.obj _ _ st5);have zg:=hgX _ s5 σ0 H5 x u _ I5' r5 (step x H5 y5);rw [hP,hw,hA,hxe] at zg;refine thn zg ?_;rintro _ s6 ⟨σ6,H6,I6,kp,q6⟩;have zi:=hiX _ s6 σ6 H6 _ I6 q6;rw [hP,hw,hA,hxe] at zi;refine thn zi ?_;rintro b s7 ⟨H7,I7,q7⟩
   -- back to the loop's head
   have back:∀ {H8:Hp} {s8:Shared} {acc':List V} {its':List Value} {n':Nat},Inv X' ([(s.heap.objs.size,Aq its' n')]++Hv fp s5.heap) σ6 H8 s8->Vals acc' its'->acc'.length<=sizeLine->N acc' H8 ->
     ∃ m,m < k/\∃ i H' acc its n,Inv X' [(s.heap.objs.size,Aq its n)] σ0 H' s8/\tn i s8.heap/\(∀ b∈fp,H' b=none)/\Vals acc its/\acc.length<=sizeLine/\W i m acc H':=fun {H8 s8 acc' its' n'} I8 rv' hz' n8=>by
    obtain ⟨m',hm,w8⟩:=hN acc' H8 n8;refine ⟨m',hm,i+1,H8,acc',its',n',(I8.unpinned).weak kp.1.symm kp.2,T.keep _ _ _ st5 fun b hb o e=>(I8.pin (b,o) (List.mem_append_right _ (List.mem_append_right _ (Fp hb e)))).1,fun b hb=>?_,rv',hz',w8⟩;obtain ⟨o,e,d⟩:=T.obj _ _ st5 b hb;exact (I8.pin (b,o) (List.mem_append_right _ (List.mem_append_right _ (Fp hb e)))).2.1
   cases b with
   | false =>
    rw [if_neg Bool.false_ne_true] at q7;rw [if_neg Bool.false_ne_true];exact back I7 rv hz q7
   | true =>
    rw [if_pos rfl] at q7;rw [if_pos rfl];obtain ⟨hlt,q7⟩:=q7;have ze:=heX _ s7 σ6 H7 _ I7 q7;rw [hP,hw,hA,hxe] at ze;refine thn ze ?_;rintro y s8 ⟨yv,H8,I8,r8,q8⟩;obtain ⟨p1,p2,p3,p4,p5⟩:=I8.pin (s.heap.objs.size,Aq its n) (List.mem_append_right _ (List.mem_append_left _ List.mem_cons_self));have len:its.toArray.size<=sizeLine:=by
     have:=rv.length;simp only [List.size_toArray];omega
    refine wpAny_list_append_plain (hsz:=len) ⟨n,p1⟩ ?_;rintro h' ⟨n',pl⟩ sb;have pl':h'.get? s.heap.objs.size=some (Aq (its++[y]) n'):=by rw [pl];simp [Aq]
    have lD:s.heap.objs.size < (pushCells ((s.heap.push (Aq [] 0)).push { cls:=.type "dict",data:=.dict #[] }) scope.names).objs.size:=by
     refine Nat.lt_of_lt_of_le ?_ (Eh _ _);rw [Heap.size_push,Heap.size_push];omega
    have cne:∀ z c,X'.env.cells.lookup z=some c->c≠s.heap.objs.size:=fun z c e q=>by
     obtain ⟨v,hv⟩:=I8.cell z c e;obtain ⟨o,ho,hd⟩:=hv;rw [q] at ho;rw [show s8.heap.get? s.heap.objs.size=some (Aq its n) from p1] at ho;cases ho;cases hd
    have J9:Inv X' (Hv fp s5.heap) σ6 H8 { s8 with heap:=h' }:=by
     refine Inv.turned (t':=s8.toks) (it:=s.heap.objs.size) (I8.pins_of fun p hp=>I8.pin p (List.mem_append_right _ (List.mem_append_right _ hp))) (fun b o hb e=>sb.extBut b o hb e) p2 (by rw [hL];exact Nat.ne_of_lt (Nat.lt_succ_self _)) (.inr (by rw [hS0];exact Nat.le_refl _)) cne fun p hp=>?_
     rw [hpn] at hp;rcases List.mem_append.mp hp with hp|hp
     ·have:p.1 < s.heap.objs.size:=Heap.lt_size (I.pin p hp).1;exact Nat.ne_of_lt this
     ·obtain ⟨hb,_⟩:=Oo hp;have:p.1 < s.heap.objs.size:=let ⟨o,e,_⟩:=T.obj 0 _ st p.1 hb;Heap.lt_size e;exact Nat.ne_of_lt this
    have I9:Inv X' ([(s.heap.objs.size,Aq (its++[y]) n')]++Hv fp s5.heap) σ6 H8 { s8 with heap:=h' }:=by
     refine J9.pins_of fun p hp=>?_
     rcases List.mem_append.mp hp with hp|hp
     ·have e:p=(s.heap.objs.size,Aq (its++[y]) n'):=by simpa using hp
      subst e;exact ⟨pl',p2,p3,p4,fun v=>by intro z;cases z⟩
     ·exact J9.pin p (List.mem_append_right _ hp)
    exact back I9 (rv.append (.cons r8 .nil)) (by rw [List.length_append,List.length_singleton];omega) q8
 exact codeAny_compStart_list loop (T.self X.A 0 _ _ _ st0 loop)
theorem mK (hc:X.calm=true) (S:CompOk X scope) (hit:PI X target iter wi)
  (hg:∀ pins C cells s₀ H₀ fp,PG (Br X pins N' scope C cells s₀ H₀ fp) target g)
  (hi:∀ pins C cells s₀ H₀ fp,PIf (Br X pins N' scope C cells s₀ H₀ fp) ifs tc)
  (he:∀ pins C cells s₀ H₀ fp,PE (Br X pins N' scope C cells s₀ H₀ fp) elt te)
  (hs:∀ x,foldedSetIterable iter X.env x=pure x:=by intro _;rfl) :
  PE X (.ListComp elt [⟨target,iter,ifs,0⟩] scope pos) (bN X N' scope wi g tc te):=by
 intro pins s σ H Q I h;rw [eval_ListComp];have hfree:∀ x∈scope.names,x.2=.free->∃ c,X.env.cells.lookup x.1=some c:=fun x hx e=>I.ok.has x.1 (S.fr x hx e)
 refine wpAny_comprehension_free (use:=none) rfl hs (Hl hfree) S.kind (fun x hx e=>Dp S.nd (by rw [← e];exact hx)) (thn (hit pins s σ H _ I h) fun v s1 h1=>thn h1 fun itv s2 h2=>?_);obtain ⟨it,fp,tn,J,H2,e,I2,T,st2,f2,σ0,hσ,W,w0,turn⟩:=h2;subst e;refine Lp (QQ:=fun acc H=>∀ p,H p=none->Q (.ref p) (upd H p (.lst acc))) (RR:=fun acc C=>compPost (model X.prog X.w) X.A X.xe none (EP X pins σ Q) acc C) hc S hg hi he I2 T st2 f2 hσ W w0 turn ?_;intro C acc H' s' m q I' hD hn hC hne hle;refine ⟨m,hn,fun h' sb=>?_⟩;obtain ⟨oC,_,_,hoC,_⟩:=id hn;have uC:upd H' s2.heap.objs.size (.lst acc) C=none:=by rw [Aj hne];exact hC
 have hCL:C≠X.env.locals:=Nat.ne_of_gt (Nat.lt_of_lt_of_le I2.lt hle);refine ⟨.ref s2.heap.objs.size,_,I'.turned (t':=s'.toks) (it:=C) (fun b o hb e=>sb.extBut b o hb e) uC hCL (.inr (Nat.le_trans I2.sz hle)) (fun x c e z=>?_) fun p hp z=>?_,rfl,q _ hD⟩
 ·obtain ⟨v,hv⟩:=I2.cell x c e;have:=hv.lt;rw [z] at this;exact Nat.lt_irrefl _ (Nat.lt_of_lt_of_le this hle)
 ·have:=Heap.lt_size (I2.pin p hp).1;rw [z] at this;exact Nat.lt_irrefl _ (Nat.lt_of_lt_of_le this hle)
theorem Vd {y:Str}{py spos:Pos}{gy:TG}(hc:X.calm=true) (S:CompOk X scope) (hit:PI X target iter wi)
  (hg:∀ pins C cells s₀ H₀ fp,PG (Br X pins N' scope C cells s₀ H₀ fp) target g)
  (hi:∀ pins C cells s₀ H₀ fp,PIf (Br X pins N' scope C cells s₀ H₀ fp) ifs tc)
  (he:∀ pins C cells s₀ H₀ fp,PE (Br X pins N' scope C cells s₀ H₀ fp) elt te)
  (hgy:PG X (.Name y py) gy)
  (hsw:swapsWith (.ListComp elt [⟨target,iter,ifs,0⟩] scope pos) (some (.Name y py)) spos.line X.env=pure true)
  (hs:∀ x,foldedSetIterable iter X.env x=pure x:=by intro _;rfl) :
  PS X (.Assign [.Name y py] (.ListComp elt [⟨target,iter,ifs,0⟩] scope pos) spos) (sO (bN X N' scope wi g tc te) gy):=by
 intro pins s σ H D I h;rw [exec_Assign_Name_used _ _ _ _ hsw];refine wpAny_bind (wpAny_standAt (wpAny_bind ?_));show wpAny _ X.A (do let _ ← comprehension (.ListComp elt [⟨target,iter,ifs,0⟩] scope pos) scope X.env _ (newList []) false (eval iter X.env) (some (assign (.Name y py) X.env))) _ _ s;have hfree:∀ x∈scope.names,x.2=.free->∃ c,X.env.cells.lookup x.1=some c:=fun x hx e=>I.ok.has x.1 (S.fr x hx e)
 refine wpAny_bind (wpAny_mono (wpAny_comprehension_free (use:=some (assign (.Name y py) X.env)) (Q:=fun _ s'=>SP X pins D .next s') rfl hs (Hl hfree) S.kind (fun x hx e=>Dp S.nd (by rw [← e];exact hx)) (thn (hit pins s σ H _ I h) fun v s1 h1=>thn h1 fun itv s2 h2=>?_))
  (fun _ s' hq=>wpAny_pure (wpAny_pure hq)) fun _ _ e=>e)
 obtain ⟨it,fp,tn,J,H2,e,I2,T,st2,f2,σ0,hσ,W,w0,turn⟩:=h2;subst e;refine Lp (QQ:=fun acc H=>∀ p,H p=none->gy (.ref p) σ (upd H p (.lst acc)) D.nx) (RR:=fun acc C=>compPost (model X.prog X.w) X.A X.xe (some (assign (.Name y py) X.env)) (fun _ s'=>SP X pins D .next s') acc C) hc S hg hi he I2 T st2 f2 hσ W w0 turn ?_;intro C acc H' s' m q I' hD hn hC hne hle;obtain ⟨oC,esC,epC,hoC,hdC⟩:=id hn;have uC:upd H' s2.heap.objs.size (.lst acc) C=none:=by rw [Aj hne];exact hC
 have hCL:C≠X.env.locals:=Nat.ne_of_gt (Nat.lt_of_lt_of_le I2.lt hle);have hCfs:C ∉ X.fs:=I2.nofs hle;have pinC:Inv X (pins++[(C,oC)]) σ (upd H' s2.heap.objs.size (.lst acc)) s':=by
  refine I'.pins_of fun p hp=>?_
  rcases List.mem_append.mp hp with hp|hp
  ·exact I'.pin p (List.mem_append_right _ hp)
  ·have e:p=(C,oC):=by simpa using hp
   subst e;refine ⟨hoC,uC,hCL,hCfs,fun v z=>?_⟩;rw [hdC.1] at z;cases z
 refine thn (hgy _ s' σ _ (.ref s2.heap.objs.size) _ _ pinC rfl (q _ hD)) ?_;rintro _ s'' ⟨σ2,H3,I3,q3⟩;obtain ⟨p1,p2,p3,p4,p5⟩:=I3.pin (C,oC) (List.mem_append_right _ (List.mem_append_right _ List.mem_cons_self));refine ⟨m,⟨oC,esC,epC,p1,hdC⟩,fun h' sb=>?_⟩;refine ⟨σ2,H3,(Inv.unpinned I3).turned (t':=s''.toks) (it:=C) (fun b o hb e=>sb.extBut b o hb e) p2 hCL (.inr (Nat.le_trans I2.sz hle)) (fun x c e z=>?_) fun p hp z=>?_,q3⟩
 ·obtain ⟨v,hv⟩:=I2.cell x c e;have:=hv.lt;rw [z] at this;exact Nat.lt_irrefl _ (Nat.lt_of_lt_of_le this hle)
 ·have:=Heap.lt_size (I2.pin p hp).1;rw [z] at this;exact Nat.lt_irrefl _ (Nat.lt_of_lt_of_le this hle)
end
end L2
namespace DL
open PySem PySem.Spec PyProof.Rows L2
noncomputable abbrev St:=L2.St
inductive D where
 | non | bl (b:Bool) | int (i:Int) | str (x:Str) | tup (ds:List D) | ref (n:Nat) | rol (ds:List D) | obj (c:Str) (ks:List Str) (ds:List D) | fn (x:Str) | lam
 deriving Inhabited
inductive MO where
 | lst (ds:List D)
 | dct (kvs:List (Key×D))
 | plc
noncomputable abbrev MH:=List MO
noncomputable abbrev Loc:=List (Option D)
noncomputable def Gh (K:PySem.W.Frag) (H:Hp) (a:Addr) (xs:List V):Prop:=(∃ o,H a=some (.frz o (.lst xs))) \/
  ∃ (o:Obj) (its:Array Value) (n:Nat),K.lookup a=some o/\o.cls=.type "list"/\o.dict=none/\o.data=.seq its n/\its.size<=sizeLine/\Vals xs its.toList
theorem Gh.sq {K:PySem.W.Frag}{H:Hp}{a:Addr}{xs:List V}(h:Gh K H a xs):SqL K H a xs:=by
 rcases h with ⟨o,h⟩|h
 ·exact .inl (.inr ⟨o,h⟩)
 ·exact .inr h
noncomputable def Aan (fd:FuncData):Prop:=∃ (name qual:Str) (ps:Arguments) (x y:Str) (p q pt:Pos) (k:Nat) (sc:Scope) (pm cdv ct:Value),fd=PySem.W.kla_fn name qual ps (.Tuple [.Name x p,.Name y q] k pt) sc [] pm cdv ct /\
  FnScope [x,y] [x,y] sc/\(x==("__debug__":Str))=false/\(x==("__classdict__":Str))=false/\(y==("__debug__":Str))=false/\(y==("__classdict__":Str))=false/\∀ u v,bindArgs fd ⟨[u,v],[]⟩=pure [(x,u),(y,v)]
noncomputable def bO (H:Hp) (v:Value) (q:Str):Prop:=∃ c oc u vs tq,v=.ref c/\H c=some (.frz oc u)/\oc.data=.fields vs/\vs[1]?=some (.str q tq)
noncomputable def W4 (H:Hp) (a:Addr):Prop:=∃ o u fd,H a=some (.frz o u)/\o.data=.func fd/\Aan fd/\bO H fd.code fd.qualname
mutual
inductive RD (K:PySem.W.Frag) (H:Hp) (ρ:List Addr):D->V->Prop
 | non:RD K H ρ .non .non
 | bl (b:Bool):RD K H ρ (.bl b) (.bl b)
 | int (i:Int):RD K H ρ (.int i) (.int i)
 | str (x:Str):RD K H ρ (.str x) (.str x)
 | tup {ds:List D} {a:Addr} {xs:List V}:SqT K H a xs->RDs K H ρ ds xs->RD K H ρ (.tup ds) (.ref a)
 | ref {n:Nat} {a:Addr}:ρ[n]?=some a->RD K H ρ (.ref n) (.ref a)
 | rol {ds:List D} {a:Addr} {xs:List V}:Gh K H a xs->RDs K H ρ ds xs->RD K H ρ (.rol ds) (.ref a)
 | obj {c:Str} {ks:List Str} {ds:List D} {a C dx:Addr} {xs:List V}:PySem.W.nsIn K mainGlobals c=some (some (.ref C))->H a=some (.ins C dx (ks.zip xs))->ks.length=xs.length->RDs K H ρ ds xs->RD K H ρ (.obj c ks ds) (.ref a)
 | fn {x:Str} {a:Addr}:PySem.W.nsIn K mainGlobals x=some (some (.ref a))->RD K H ρ (.fn x) (.ref a)
 | lam {a:Addr}:W4 H a->RD K H ρ .lam (.ref a)
inductive RDs (K:PySem.W.Frag) (H:Hp) (ρ:List Addr):List D->List V->Prop
 | nil:RDs K H ρ [] []
 | cons {d:D} {v:V} {ds:List D} {vs:List V}:RD K H ρ d v->RDs K H ρ ds vs->RDs K H ρ (d::ds) (v::vs)
end
structure Ev (K:PySem.W.Frag) (H:Hp) (ρ:List Addr) (H':Hp) (ρ':List Addr):Prop where
 tup:∀ a xs,SqT K H a xs->SqT K H' a xs
 pre:ρ <+: ρ'
 perm:∀ a xs,Gh K H a xs->Gh K H' a xs
 ins:∀ a C dx fs,H a=some (.ins C dx fs)->H' a=some (.ins C dx fs)
 frz:∀ a o u,H a=some (.frz o u)->H' a=some (.frz o u)
theorem Ev.refl {K:PySem.W.Frag}{H:Hp}{ρ:List Addr}:Ev K H ρ H ρ:=⟨fun _ _ h=>h,List.prefix_refl _,fun _ _ h=>h,fun _ _ _ _ h=>h,fun _ _ _ h=>h⟩
theorem Ev.trans {K:PySem.W.Frag}{H H1 H2:Hp}{ρ ρ1 ρ2:List Addr}(a:Ev K H ρ H1 ρ1) (b:Ev K H1 ρ1 H2 ρ2):Ev K H ρ H2 ρ2:=⟨fun x xs h=>b.tup x xs (a.tup x xs h),a.pre.trans b.pre,fun x xs h=>b.perm x xs (a.perm x xs h),fun x C dx fs h=>b.ins x C dx fs (a.ins x C dx fs h),fun x o u h=>b.frz x o u (a.frz x o u h)⟩
theorem Ev.at {K:PySem.W.Frag}{H H':Hp}{ρ ρ':List Addr}(e:Ev K H ρ H' ρ') {n:Nat}{a:Addr}(h:ρ[n]?=some a):ρ'[n]?=some a:=by
 obtain ⟨t,rfl⟩:=e.pre;obtain ⟨hl,_⟩:=List.getElem?_eq_some_iff.mp h;rw [List.getElem?_append_left hl];exact h
theorem bO.mono {H H':Hp}(e:∀ a o u,H a=some (.frz o u)->H' a=some (.frz o u)) {v:Value}{q:Str}(h:bO H v q):bO H' v q :=
 let ⟨c,oc,u,vs,tq,h1,h2,h3⟩:=h;⟨c,oc,u,vs,tq,h1,e _ _ _ h2,h3⟩
theorem W4.mono {H H':Hp}(e:∀ a o u,H a=some (.frz o u)->H' a=some (.frz o u)) {a:Addr}(h:W4 H a):W4 H' a :=
 let ⟨o,u,fd,h1,h2,h3,h4⟩:=h;⟨o,u,fd,e _ _ _ h1,h2,h3,h4.mono e⟩
mutual
theorem RD.mono {K:PySem.W.Frag}{H H':Hp}{ρ ρ':List Addr}(e:Ev K H ρ H' ρ'):∀ {d:D}{v:V},RD K H ρ d v->RD K H' ρ' d v
 | _,_,.non=>.non
 | _,_,.bl b=>.bl b
 | _,_,.int i=>.int i
 | _,_,.str x=>.str x
 | _,_,.tup s r=>.tup (e.tup _ _ s) (RDs.mono e r)
 | _,_,.ref h=>.ref (e.at h)
 | _,_,.rol s r=>.rol (e.perm _ _ s) (RDs.mono e r)
 | _,_,.obj n s l r=>.obj n (e.ins _ _ _ _ s) l (RDs.mono e r)
 | _,_,.fn h=>.fn h
 | _,_,.lam h=>.lam (h.mono e.frz)
theorem RDs.mono {K:PySem.W.Frag}{H H':Hp}{ρ ρ':List Addr}(e:Ev K H ρ H' ρ'):∀ {ds:List D}{vs:List V},RDs K H ρ ds vs->RDs K H' ρ' ds vs
 | _,_,.nil=>.nil
 | _,_,.cons r t=>.cons (RD.mono e r) (RDs.mono e t)
end
section
variable {K:PySem.W.Frag}{H H':Hp}{ρ ρ':List Addr}
theorem RDs.length:∀ {ds:List D}{vs:List V},RDs K H ρ ds vs->ds.length=vs.length
 | _,_,.nil=>rfl
 | _,_,.cons _ t=>by rw [List.length_cons,List.length_cons,RDs.length t]
theorem RDs.get:∀ {ds:List D}{vs:List V}{i:Nat}{d:D},RDs K H ρ ds vs->ds[i]?=some d->∃ v,vs[i]?=some v/\RD K H ρ d v
 | _,_,_,_,.nil,e=>by simp at e
 | _,_,0,_,.cons r _,e=>by simp at e;subst e;exact ⟨_,by simp,r⟩
 | _,_,i+1,d,.cons _ t,e=>by
  obtain ⟨v,h1,h2⟩:=RDs.get (i:=i) (d:=d) t (by simpa using e);exact ⟨v,by simpa using h1,h2⟩
theorem RDs.append:∀ {ds es:List D}{vs us:List V},RDs K H ρ ds vs->RDs K H ρ es us->RDs K H ρ (ds++es) (vs++us)
 | _,_,_,_,.nil,s=>s
 | _,_,_,_,.cons r t,s=>.cons r (RDs.append t s)
theorem RDs.take:∀ {ds:List D}{vs:List V}(n:Nat),RDs K H ρ ds vs->RDs K H ρ (ds.take n) (vs.take n)
 | _,_,0,_=>.nil
 | _,_,_+1,.nil=>.nil
 | _,_,n+1,.cons r t=>.cons r (RDs.take n t)
theorem RDs.drop:∀ {ds:List D}{vs:List V}(n:Nat),RDs K H ρ ds vs->RDs K H ρ (ds.drop n) (vs.drop n)
 | _,_,0,r=>r
 | _,_,_+1,.nil=>.nil
 | _,_,n+1,.cons _ t=>RDs.drop n t
theorem RDs.set {d:D}{v:V}(r:RD K H ρ d v):∀ {ds:List D}{vs:List V}(n:Nat),RDs K H ρ ds vs->RDs K H ρ (ds.set n d) (vs.set n v)
 | _,_,_,.nil=>.nil
 | _,_,0,.cons _ t=>.cons r t
 | _,_,n+1,.cons q t=>.cons q (RDs.set r n t)
theorem RDs.ints:∀ (ns:List Int),RDs K H ρ (ns.map D.int) (ns.map V.int)
 | []=>.nil
 | n::r=>.cons (.int n) (RDs.ints r)
noncomputable def Acn (K:PySem.W.Frag) (a:Addr):Prop:=∃ (f:Addr) (o:Obj) (fd:FuncData) (c bm:Addr) (ob:Obj),PySem.W.nsIn K mainGlobals "pattern_of"=some (some (.ref f))/\K.lookup f=some o/\o.data=.func fd/\fd.code=.ref c/\PySem.W.codeHdIn K c a=true /\
  PySem.W.nsIn K mainGlobals "__builtins__"=some (some (.ref bm))/\K.lookup bm=some ob/\ob.cls=.type "module"/\ob.dict=some builtinsNs/\ob.data=.plain/\bm≠builtinsNs/\bm≠mainGlobals
noncomputable abbrev Aco:Str:=("pattern_of":Str) ++ ".<locals>." ++ "<lambda>"
noncomputable def Aao (K:PySem.W.Frag) (H:Hp) (a:Addr):Prop:=∃ ps,H a=some (.tbl ps)/\TriplesOk ps.toList/\(∀ pos v,codeAmong pos ps.toList=some v->bO H v Aco)/\Acn K a
noncomputable def RO (K:PySem.W.Frag) (H:Hp) (ρ:List Addr) (a:Addr):MO->Prop
 | .lst ds=>∃ xs,H a=some (.lst xs)/\RDs K H ρ ds xs
 | .plc=>Aao K H a
 | .dct kvs=>∃ xs:List (Key×V),H a=some (.dK xs)/\xs.map (·.1)=kvs.map (·.1)/\RDs K H ρ (kvs.map (·.2)) (xs.map (·.2))
structure RS (K:PySem.W.Frag) (H:Hp) (ρ:List Addr) (mh:MH):Prop where
 len:ρ.length=mh.length
 nd:ρ.Nodup
 obj:∀ (n:Nat) (a:Addr) (o:MO),ρ[n]?=some a->mh[n]?=some o->RO K H ρ a o
noncomputable def RL (K:PySem.W.Frag) (H:Hp) (ρ:List Addr) (loc:Loc) (σ:St):Prop:=loc.length=σ.length/\∀ (i:Nat) (d:D),loc[i]?=some (some d)->∃ v,σ[i]?=some (some v)/\RD K H ρ d v
theorem RL.mono {loc:Loc}{σ:St}(e:Ev K H ρ H' ρ') (h:RL K H ρ loc σ):RL K H' ρ' loc σ:=⟨h.1,fun i d q=>let ⟨v,e1,r⟩:=h.2 i d q;⟨v,e1,r.mono e⟩⟩
theorem RL.set {loc:Loc}{σ:St}{d:D}{v:V}{i:Nat}(h:RL K H ρ loc σ) (r:RD K H ρ d v):RL K H ρ (loc.set i (some d)) (σ.set i (some v)):=by
 refine ⟨by rw [List.length_set,List.length_set];exact h.1,fun j d' q=>?_⟩
 by_cases e:i=j
 ·subst e;rw [List.getElem?_set] at q;simp only [if_true] at q;split at q
  ·rename_i hl;cases q;refine ⟨v,?_,r⟩;rw [List.getElem?_set];simp only [if_true];rw [if_pos (by rw [← h.1];exact hl)]
  ·cases q
 ·rw [List.getElem?_set_ne e] at q;rw [List.getElem?_set_ne e];exact h.2 j d' q
theorem RS.at {mh:MH}(h:RS K H ρ mh) {n:Nat}{o:MO}(e:mh[n]?=some o):∃ a,ρ[n]?=some a/\RO K H ρ a o:=by
 obtain ⟨hl,_⟩:=List.getElem?_eq_some_iff.mp e;have hl':n < ρ.length:=by rw [h.len];exact hl
 exact ⟨ρ[n],List.getElem?_eq_getElem hl',h.obj n _ o (List.getElem?_eq_getElem hl') e⟩
theorem RS.tracked {mh:MH}(h:RS K H ρ mh) {a:Addr}(ha:a∈ρ):∃ o,H a=some o:=by
 obtain ⟨n,hn,rfl⟩:=List.getElem_of_mem ha;have hl:n < mh.length:=by rw [← h.len];exact hn
 have q:=h.obj n _ _ (List.getElem?_eq_getElem hn) (List.getElem?_eq_getElem hl);cases e:mh[n] with
 | lst ds=>rw [e] at q;obtain ⟨xs,q,_⟩:=q;exact ⟨_,q⟩
 | dct kvs=>rw [e] at q;obtain ⟨xs,q,_⟩:=q;exact ⟨_,q⟩
 | plc=>rw [e] at q;obtain ⟨xs,q,_⟩:=q;exact ⟨_,q⟩
theorem RO.read {a:Addr}{ds:List D}(h:RO K H ρ a (.lst ds)):∃ xs,SqL K H a xs/\RDs K H ρ ds xs:=by
 obtain ⟨xs,q,r⟩:=h;exact ⟨xs,.inl (.inl q),r⟩
theorem Qs {a p:Addr}{o:HO}{xs:List V}(hp:H p=none) (h:SqT K H a xs):SqT K (upd H p o) a xs:=by
 rcases h with (h|⟨ob,h⟩)|h
 ·exact .inl (.inl (by rw [Aj (Ao h hp)];exact h))
 ·exact .inl (.inr ⟨ob,by rw [Aj (Ao h hp)];exact h⟩)
 ·exact .inr h
theorem mL {a p:Addr}{ys zs xs:List V}(hp:H p=some (.lst ys)) (h:SqT K H a xs):SqT K (upd H p (.lst zs)) a xs:=by
 rcases h with (h|⟨ob,h⟩)|h
 ·exact .inl (.inl (by rw [Aj (Rp h hp (by intro z;cases z))];exact h))
 ·exact .inl (.inr ⟨ob,by rw [Aj (Rp h hp (by intro z;cases z))];exact h⟩)
 ·exact .inr h
theorem R0 {a p:Addr}{o:HO}{xs:List V}(hp:H p=none) (h:Gh K H a xs):Gh K (upd H p o) a xs:=by
 rcases h with ⟨ob,h⟩|h
 ·exact .inl ⟨ob,by rw [Aj (Ao h hp)];exact h⟩
 ·exact .inr h
theorem bQ {a p:Addr}{ys zs xs:List V}(hp:H p=some (.lst ys)) (h:Gh K H a xs):Gh K (upd H p (.lst zs)) a xs:=by
 rcases h with ⟨ob,h⟩|h
 ·exact .inl ⟨ob,by rw [Aj (Rp h hp (by intro z;cases z))];exact h⟩
 ·exact .inr h
theorem Ev.new {p:Addr}{o:HO}(hp:H p=none):Ev K H ρ (upd H p o) ρ:=⟨fun _ _ h=>Qs hp h,List.prefix_refl _,fun _ _ h=>R0 hp h,fun a _ _ _ h=>by rw [Aj (Ao h hp)];exact h,fun a _ _ h=>by rw [Aj (Ao h hp)];exact h⟩
theorem Ev.newL {p:Addr}{o:HO}(hp:H p=none):Ev K H ρ (upd H p o) (ρ++[p]):=⟨fun _ _ h=>Qs hp h,List.prefix_append _ _,fun _ _ h=>R0 hp h,fun a _ _ _ h=>by rw [Aj (Ao h hp)];exact h,fun a _ _ h=>by rw [Aj (Ao h hp)];exact h⟩
theorem Ev.lst {p:Addr}{ys zs:List V}(hp:H p=some (.lst ys)):Ev K H ρ (upd H p (.lst zs)) ρ:=⟨fun _ _ h=>mL hp h,List.prefix_refl _,fun _ _ h=>bQ hp h,fun a _ _ _ h=>by rw [Aj (Rp h hp (by intro z;cases z))];exact h,fun a _ _ h=>by rw [Aj (Rp h hp (by intro z;cases z))];exact h⟩
theorem RO.mono {a:Addr}{o:MO}(e:Ev K H ρ H' ρ') (s:H' a=H a) (h:RO K H ρ a o):RO K H' ρ' a o:=by
 cases o with
 | lst ds=>obtain ⟨xs,q,r⟩:=h;exact ⟨xs,by rw [s];exact q,r.mono e⟩
 | dct kvs=>obtain ⟨xs,q,k,r⟩:=h;exact ⟨xs,by rw [s];exact q,k,r.mono e⟩
 | plc=>obtain ⟨ps,q,t,c,k⟩:=h;exact ⟨ps,by rw [s];exact q,t,fun pos v z=>(c pos v z).mono e.frz,k⟩
theorem RS.new {mh:MH}{p:Addr}{o:HO}(h:RS K H ρ mh) (hp:H p=none):RS K (upd H p o) ρ mh :=
 ⟨h.len,h.nd,fun n a ob e1 e2=>(h.obj n a ob e1 e2).mono (Ev.new hp) (by
  obtain ⟨oo,q⟩:=h.tracked (List.mem_of_getElem? e1)
  rw [Aj (Ao q hp)])⟩
theorem RS.newL {mh:MH}{p:Addr}{xs:List V}{ds:List D}(h:RS K H ρ mh) (hp:H p=none) (r:RDs K H ρ ds xs):RS K (upd H p (.lst xs)) (ρ++[p]) (mh++[.lst ds]):=by
 have hnp:p ∉ ρ:=fun z=>by
  obtain ⟨o,q⟩:=h.tracked z;rw [hp] at q;cases q
 refine ⟨by rw [List.length_append,List.length_append,h.len];rfl,?_,fun n a ob e1 e2=>?_⟩
 ·rw [List.nodup_append]
  exact ⟨h.nd,List.pairwise_singleton _ _,fun a ha b hb z=>by
   rw [List.mem_singleton.mp hb] at z;rw [z] at ha;exact hnp ha⟩
 ·by_cases hn:n < ρ.length
  ·rw [List.getElem?_append_left hn] at e1;rw [List.getElem?_append_left (by rw [← h.len];exact hn)] at e2;refine (h.obj n a ob e1 e2).mono (Ev.newL hp) ?_;obtain ⟨oo,q⟩:=h.tracked (List.mem_of_getElem? e1);rw [Aj (Ao q hp)]
  ·rw [List.getElem?_append_right (by omega)] at e1;rw [List.getElem?_append_right (by rw [← h.len];omega)] at e2;have n0:n - ρ.length=0:=by
    have:=(List.getElem?_eq_some_iff.mp e1).1;simp at this;omega
   rw [n0] at e1;rw [← h.len,n0] at e2;cases e1;cases e2;exact ⟨xs,Ay,r.mono (Ev.newL hp)⟩
theorem RS.setL {mh:MH}{n:Nat}{p:Addr}{ys xs:List V}{ds:List D}(h:RS K H ρ mh) (hn:ρ[n]?=some p) (hp:H p=some (.lst ys)) (r:RDs K H ρ ds xs):RS K (upd H p (.lst xs)) ρ (mh.set n (.lst ds)):=by
 refine ⟨by rw [List.length_set];exact h.len,h.nd,fun m a ob e1 e2=>?_⟩
 by_cases hm:n=m
 ·subst hm;rw [hn] at e1;cases e1;rw [List.getElem?_set] at e2;simp only [if_true] at e2;split at e2
  ·cases e2;exact ⟨xs,Ay,r.mono (Ev.lst hp)⟩
  ·cases e2
 ·rw [List.getElem?_set_ne hm] at e2;refine (h.obj m a ob e1 e2).mono (Ev.lst hp) ?_;rw [Aj];intro z;subst z;exact hm ((List.getElem?_inj (List.getElem?_eq_some_iff.mp hn).1 h.nd).mp (hn.trans e1.symm))
end
noncomputable abbrev DM (α:Type):=Loc->MH->Option (α×MH)
noncomputable def DM.bnd {α β:Type}(m:DM α) (f:α->DM β):DM β:=fun loc mh=>match m loc mh with
 | none=>none
 | some (a,mh')=>f a loc mh'
theorem Ac {α β:Type}{m:DM α}{f:α->DM β}{loc:Loc}{mh:MH}{r:β×MH}(h:m.bnd f loc mh=some r):∃ a m1,m loc mh=some (a,m1)/\f a loc m1=some r:=by
 unfold DM.bnd at h;split at h
 ·cases h
 ·rename_i a m1 e;exact ⟨a,m1,e,h⟩
noncomputable def Zr {α:Type}(a:α):DM α:=fun _ mh=>some (a,mh)
noncomputable def Zl {α:Type}(f:MH->Option (α×MH)):DM α:=fun _ mh=>f mh
noncomputable def Zb {α:Type}:DM α:=fun _ _=>none
noncomputable def Co (K:PySem.W.Frag) (H:Hp) (ρ:List Addr) (mh':MH) (d:D) (Q:VK):Prop:=∀ H' ρ' v,Ev K H ρ H' ρ'->RS K H' ρ' mh'->RD K H' ρ' d v->Q v H'
noncomputable def tD (K:PySem.W.Frag) (loc:Loc) (mh:MH) (r:Option (D×MH)):TE:=fun σ H Q=>∃ ρ d mh',r=some (d,mh')/\RL K H ρ loc σ/\RS K H ρ mh/\Co K H ρ mh' d Q
noncomputable def tDT (K:PySem.W.Frag) (loc:Loc) (mh:MH) (r:Option (Bool×MH)):TT:=fun σ H Q=>∃ ρ b mh',r=some (b,mh')/\RL K H ρ loc σ/\RS K H ρ mh/\∀ H' ρ',Ev K H ρ H' ρ'->RS K H' ρ' mh'->Q b H'
noncomputable def tDA (K:PySem.W.Frag) (loc:Loc) (mh:MH) (r:Option (List D×MH)):TA:=fun σ H Q=>∃ ρ ds mh',r=some (ds,mh')/\RL K H ρ loc σ/\RS K H ρ mh/\∀ H' ρ' vs,Ev K H ρ H' ρ'->RS K H' ρ' mh'->RDs K H' ρ' ds vs->Q vs H'
noncomputable def DE (X:Cx) (e:Expr) (m:DM D):Prop:=∀ loc mh,PE X e (tD X.K loc mh (m loc mh))
noncomputable def DT (X:Cx) (e:Expr) (m:DM Bool):Prop:=∀ loc mh,PT X e (tDT X.K loc mh (m loc mh))
noncomputable def DA (X:Cx) (es:List Expr) (m:DM (List D)):Prop:=∀ loc mh,PA X es (tDA X.K loc mh (m loc mh))
theorem Ar {X:Cx}{e:Expr}{t t':TE}(h:PE X e t) (i:∀ σ H Q,t' σ H Q->t σ H Q):PE X e t':=fun pins s σ H Q I q=>h pins s σ H Q I (i σ H Q q)
theorem Jq {X:Cx}{e:Expr}{t t':TT}(h:PT X e t) (i:∀ σ H Q,t' σ H Q->t σ H Q):PT X e t':=fun pins s σ H Q I q=>h pins s σ H Q I (i σ H Q q)
theorem bR {X:Cx}{es:List Expr}{t t':TA}(h:PA X es t) (i:∀ σ H Q,t' σ H Q->t σ H Q):PA X es t':=fun pos pins s σ H Q I q=>h pos pins s σ H Q I (i σ H Q q)
theorem mO {K:PySem.W.Frag}{loc:Loc}{mh:MH}{σ:St}{H:Hp}{Q:VK}(h:tD K loc mh none σ H Q):False:=by obtain ⟨_,_,_,e,_⟩:=h;cases e
theorem Bc {X:Cx}{e:Expr}{loc:Loc}{mh:MH}:PE X e (tD X.K loc mh none):=fun _ _ _ _ _ _ h=>(mO h).elim
theorem W5 {X:Cx}{e:Expr}{loc:Loc}{mh:MH}:PT X e (tDT X.K loc mh none):=fun _ _ _ _ _ _ h=>by obtain ⟨_,_,_,e,_⟩:=h;cases e
theorem W6 {X:Cx}{es:List Expr}{loc:Loc}{mh:MH}:PA X es (tDA X.K loc mh none):=fun _ _ _ _ _ _ _ h=>by obtain ⟨_,_,_,e,_⟩:=h;cases e
theorem Ah {X:Cx}{e:Expr}:DE X e Zb:=fun _ _=>Bc
theorem Du {X:Cx}{e:Expr}:DT X e Zb:=fun _ _=>W5
theorem bT {X:Cx}{es:List Expr}:DA X es Zb:=fun _ _=>W6
section
variable {X:Cx}{a b c e:Expr}{ma mb mc:DM D}{pos:Pos}
theorem mQ {d:D}{v:V}(h:PE X e (tC v)) (r:∀ K H ρ,RD K H ρ d v):DE X e (Zr d):=by
 refine fun loc mh=>Ar h ?_
 rintro σ H Q ⟨ρ,d',mh',q,rl,rs,co⟩;cases q;exact co H ρ v Ev.refl rs (r _ _ _)
theorem uH {i:Nat}{x:Str}(hN:X.N[i]?=some x) (hv:Vis X.env.scope x) (hd:(x==("__debug__":Str))=false) (hcd:(x==("__classdict__":Str))=false) :
  DE X (.Name x pos) (fun loc mh=>match loc[i]? with | some (some d)=>some (d,mh) | _=>none):=by
 refine fun loc mh=>Ar (Ux hN hv hd hcd) ?_
 rintro σ H Q ⟨ρ,d',mh',q,rl,rs,co⟩;dsimp only at q;split at q
 ·rename_i d e;cases q;obtain ⟨v,h1,h2⟩:=rl.2 i d' e;exact ⟨v,h1,co H ρ v Ev.refl rs h2⟩
 ·cases q
noncomputable def rD (K:PySem.W.Frag) (f:D->D->MH->Option (D×MH)):R2:=fun x y H Q=>∃ ρ mh dx dy d mh',f dx dy mh=some (d,mh')/\RS K H ρ mh/\RD K H ρ dx x/\RD K H ρ dy y/\Co K H ρ mh' d Q
noncomputable def rD1 (K:PySem.W.Frag) (f:D->MH->Option (D×MH)):V->Hp->VK->Prop:=fun x H Q=>∃ ρ mh dx d mh',f dx mh=some (d,mh')/\RS K H ρ mh/\RD K H ρ dx x/\Co K H ρ mh' d Q
noncomputable def rDs (K:PySem.W.Frag) (f:List D->MH->Option (D×MH)):List V->Hp->VK->Prop:=fun xs H Q=>∃ ρ mh ds d mh',f ds mh=some (d,mh')/\RS K H ρ mh/\RDs K H ρ ds xs/\Co K H ρ mh' d Q
theorem Co.ev {K:PySem.W.Frag}{H H1:Hp}{ρ ρ1:List Addr}{mh':MH}{d:D}{Q:VK}(e:Ev K H ρ H1 ρ1) (c:Co K H ρ mh' d Q):Co K H1 ρ1 mh' d Q:=fun H' ρ' v e' rs r=>c H' ρ' v (e.trans e') rs r
noncomputable def dop (f:D->D->MH->Option (D×MH)) (ma mb:DM D):DM D:=ma.bnd fun x=>mb.bnd fun y=>Zl (f x y)
theorem two {K:PySem.W.Frag}{f:D->D->MH->Option (D×MH)}{loc:Loc}{mh:MH}{σ:St}{H:Hp}{Q:VK}(h:tD K loc mh (dop f ma mb loc mh) σ H Q) :
  ∃ x m1,ma loc mh=some (x,m1)/\tOp (rD K f) (tD K loc mh (ma loc mh)) (tD K loc m1 (mb loc m1)) σ H Q:=by
 obtain ⟨ρ,d,mh',q,rl,rs,co⟩:=h;obtain ⟨x,m1,ea,q⟩:=Ac q;obtain ⟨y,m2,eb,q⟩:=Ac q;refine ⟨x,m1,ea,ρ,x,m1,ea,rl,rs,fun H1 ρ1 v1 e1 rs1 r1=>⟨ρ1,y,m2,eb,rl.mono e1,rs1,fun H2 ρ2 v2 e2 rs2 r2=>?_⟩⟩;exact ⟨ρ2,m2,x,y,d,mh',q,rs2,r1.mono e2,r2,co.ev (e1.trans e2)⟩
theorem Ve {f:D->D->MH->Option (D×MH)}(h:∀ ta tb,PE X a ta->PE X b tb->PE X e (tOp (rD X.K f) ta tb)) (ha:DE X a ma) (hb:DE X b mb):DE X e (dop f ma mb):=fun loc mh=>by
 cases ea:ma loc mh with
 | none =>
  have:dop f ma mb loc mh=none:=by unfold dop DM.bnd;rw [ea]
  rw [this];exact Bc
 | some p =>
  refine Ar (h _ _ (ha loc mh) (hb loc p.2)) fun σ H Q q=>?_
  obtain ⟨x,m1,e1,q⟩:=two q;rw [ea] at e1;cases e1;exact q
theorem Aap {op:Operator}{f:D->D->MH->Option (D×MH)}(ho:OpR X (binaryOp op) (rD X.K f)) (ha:DE X a ma) (hb:DE X b mb):DE X (.BinOp a op b pos) (dop f ma mb):=Ve (fun _ _ p q=>zV ho p q) ha hb
theorem uI {op:CmpOp}{f:D->D->MH->Option (D×MH)}(ho:OpR X (compareOp op) (rD X.K f)) (hm:behindInMarks op b=false) (ha:DE X a ma) (hb:DE X b mb):DE X (.Compare a [op] [b] pos) (dop f ma mb):=Ve (fun _ _ p q=>Qf ho p q hm) ha hb
theorem Aaq {f:D->D->MH->Option (D×MH)}(ho:IxR X (rD X.K f)) (hs:K5 b) (ha:DE X a ma) (hb:DE X b mb):DE X (.Subscript a b pos) (dop f ma mb):=Ve (fun _ _ p q=>qQ ho p q hs) ha hb
theorem Aar {op:UnaryOp}{f:D->MH->Option (D×MH)}(ho:UnR X (unaryOp op) (rD1 X.K f)) (ha:DE X a ma):DE X (.UnaryOp op a pos) (ma.bnd fun x=>Zl (f x)):=fun loc mh =>
 Ar (zW ho (ha loc mh)) fun σ H Q ⟨ρ,d,mh',q,rl,rs,co⟩=>by
 obtain ⟨x,m1,ea,q⟩:=Ac q
 ·exact ⟨ρ,x,m1,ea,rl,rs,fun H1 ρ1 v1 e1 rs1 r1=>⟨ρ1,m1,x,d,mh',q,rs1,r1,co.ev e1⟩⟩
noncomputable def asB:D->Option Bool
 | .bl b=>some b
 | _=>none
noncomputable def Ag (ma:DM D):DM Bool:=ma.bnd fun x=>match asB x with | some b=>Zr b | none=>Zb
theorem mR {f:D->D->MH->Option (D×MH)}(h:∀ ta tb,PE X a ta->PE X b tb->PT X e (aX (tOp (rD X.K f) ta tb))) (ha:DE X a ma) (hb:DE X b mb):DT X e (Ag (dop f ma mb)):=fun loc mh=>by
 cases ea:ma loc mh with
 | none =>
  have:Ag (dop f ma mb) loc mh=none:=by unfold Ag dop DM.bnd;rw [ea]
  rw [this];exact W5
 | some p =>
  refine Jq (h _ _ (ha loc mh) (hb loc p.2)) ?_;rintro σ H Q ⟨ρ,k,mh',q,rl,rs,co⟩;unfold Ag at q;cases ed:dop f ma mb loc mh with
  | none=>unfold DM.bnd at q;rw [ed] at q;cases q
  | some z =>
   obtain ⟨d,m2⟩:=z;unfold DM.bnd at q;rw [ed] at q;cases d with
   | bl k' =>
    cases q;have t:tD X.K loc mh (dop f ma mb loc mh) σ H (fun x H'=>∃ k,x=.bl k/\Q k H'):=⟨ρ,.bl k,mh',ed,rl,rs,fun H' ρ' v e' rs' r'=>by cases r';exact ⟨k,rfl,co H' ρ' e' rs'⟩⟩;obtain ⟨x,m1,e1,q⟩:=two t;rw [ea] at e1;cases e1;exact q
   | non=>cases q
   | int i=>cases q
   | str s=>cases q
   | tup ds=>cases q
   | ref n=>cases q
   | rol ds=>cases q
   | obj c ks ds=>cases q
   | fn x=>cases q
   | lam=>cases q
theorem uJ {op:CmpOp}{f:D->D->MH->Option (D×MH)}(ho:OpR X (compareOp op) (rD X.K f)) (hm:behindInMarks op b=false) (ha:DE X a ma) (hb:DE X b mb):DT X (.Compare a [op] [b] pos) (Ag (dop f ma mb)):=mR (fun _ _ p q=>Qg ho p q hm) ha hb
noncomputable def Lq (t u:DM Bool):DM Bool:=t.bnd fun c=>if c=true then u else Zr false
noncomputable def Ip (t u:DM Bool):DM Bool:=t.bnd fun c=>if c=true then Zr true else u
noncomputable def Fb (t:DM Bool):DM Bool:=t.bnd fun c=>Zr (!c)
noncomputable def DW (X:Cx) (e:Expr) (m:DM Bool):Prop:=∀ loc mh,PW X e (tDT X.K loc mh (m loc mh))
theorem W7 {loc:Loc}{mh:MH}:PW X e (tDT X.K loc mh none):=fun _ _ _ _ _ _ _ h=>by obtain ⟨_,_,_,e,_⟩:=h;cases e
theorem bU {t t':TT}(h:PW X e t) (i:∀ σ H Q,t' σ H Q->t σ H Q):PW X e t':=fun wh pins s σ H Q I q=>h wh pins s σ H Q I (i σ H Q q)
theorem DW.dt {m:DM Bool}(h:DW X e m):DT X e m:=fun loc mh=>(h loc mh).pt
variable {t u:DM Bool}{rest:List Expr}
theorem mU (ha:DT X a t):DW X (.BoolOp .And [a] pos) t:=fun loc mh=>lB (ha loc mh)
theorem uK (ha:DT X a t):DW X (.BoolOp .Or [a] pos) t:=fun loc mh=>rQ (ha loc mh)
theorem uL (ha:DT X a t) (hb:DW X (.BoolOp .And (b::rest) pos) u):DW X (.BoolOp .And (a::b::rest) pos) (Lq t u):=fun loc mh=>by
 cases ea:t loc mh with
 | none =>
  have:Lq t u loc mh=none:=by unfold Lq DM.bnd;rw [ea]
  rw [this];exact W7
 | some p =>
  obtain ⟨k,m1⟩:=p;refine bU (rR (ha loc mh) (hb loc m1)) ?_;rintro σ H Q ⟨ρ,k',mh',q,rl,rs,co⟩;have q':(if k=true then u else Zr false) loc m1=some (k',mh'):=by unfold Lq DM.bnd at q;rw [ea] at q;exact q
  refine ⟨ρ,k,m1,ea,rl,rs,fun H1 ρ1 e1 rs1=>?_⟩;cases k with
  | true=>exact Ry ⟨ρ1,k',mh',q',rl.mono e1,rs1,fun H2 ρ2 e2 rs2=>co H2 ρ2 (e1.trans e2) rs2⟩
  | false=>cases q';exact Rx (co H1 ρ1 e1 rs1)
theorem Aas (ha:DT X a t) (hb:DW X (.BoolOp .Or (b::rest) pos) u):DW X (.BoolOp .Or (a::b::rest) pos) (Ip t u):=fun loc mh=>by
 cases ea:t loc mh with
 | none =>
  have:Ip t u loc mh=none:=by unfold Ip DM.bnd;rw [ea]
  rw [this];exact W7
 | some p =>
  obtain ⟨k,m1⟩:=p;refine bU (zH (ha loc mh) (hb loc m1)) ?_;rintro σ H Q ⟨ρ,k',mh',q,rl,rs,co⟩;have q':(if k=true then Zr true else u) loc m1=some (k',mh'):=by unfold Ip DM.bnd at q;rw [ea] at q;exact q
  refine ⟨ρ,k,m1,ea,rl,rs,fun H1 ρ1 e1 rs1=>?_⟩;cases k with
  | true=>cases q';exact Ry (co H1 ρ1 e1 rs1)
  | false=>exact Rx ⟨ρ1,k',mh',q',rl.mono e1,rs1,fun H2 ρ2 e2 rs2=>co H2 ρ2 (e1.trans e2) rs2⟩
theorem uM (ha:DT X a t):DT X (.UnaryOp .Not a pos) (Fb t):=fun loc mh=>by
 refine Jq (rT (ha loc mh)) ?_;rintro σ H Q ⟨ρ,k',mh',q,rl,rs,co⟩;obtain ⟨k,m1,ea,q⟩:=Ac q
 ·cases q;exact ⟨ρ,k,mh',ea,rl,rs,fun H1 ρ1 e1 rs1=>co H1 ρ1 e1 rs1⟩
noncomputable def dIf (t:DM Bool) (ma mb:DM D):DM D:=t.bnd fun c=>if c=true then ma else mb
theorem Aat (hc:DT X c t) (ha:DE X a ma) (hb:DE X b mb):DE X (.IfExp c a b pos) (dIf t ma mb):=fun loc mh=>by
 cases ea:t loc mh with
 | none =>
  have:dIf t ma mb loc mh=none:=by unfold dIf DM.bnd;rw [ea]
  rw [this];exact Bc
 | some p =>
  obtain ⟨k,m1⟩:=p;refine Ar (aO (hc loc mh) (ha loc m1) (hb loc m1)) ?_;rintro σ H Q ⟨ρ,d,mh',q,rl,rs,co⟩;have q':(if k=true then ma else mb) loc m1=some (d,mh'):=by unfold dIf DM.bnd at q;rw [ea] at q;exact q
  refine ⟨ρ,k,m1,ea,rl,rs,fun H1 ρ1 e1 rs1=>?_⟩;cases k with
  | true=>exact Ry ⟨ρ1,d,mh',q',rl.mono e1,rs1,co.ev e1⟩
  | false=>exact Rx ⟨ρ1,d,mh',q',rl.mono e1,rs1,co.ev e1⟩
noncomputable def Gp (ma mb:DM D):DM D:=(Ag ma).bnd fun c=>if c=true then mb else Zr (.bl false)
noncomputable def bV (ma mb:DM D):DM D:=(Ag ma).bnd fun c=>if c=true then Zr (.bl true) else mb
theorem Cr {loc:Loc}{mh:MH}{k:Bool}{m1:MH}(h:Ag ma loc mh=some (k,m1)):ma loc mh=some (.bl k,m1):=by
 obtain ⟨x,m2,ea,h⟩:=Ac h
 ·cases x with
  | bl b=>cases h;exact ea
  | non=>cases h
  | int i=>cases h
  | str s=>cases h
  | tup ds=>cases h
  | ref n=>cases h
  | rol ds=>cases h
  | obj c ks ds=>cases h
  | fn x=>cases h
  | lam=>cases h
theorem uN {op}(ha:DE X a ma):DE X (.BoolOp op [a] pos) ma:=fun loc mh=>rW (ha loc mh)
theorem uO (ha:DE X a ma) (hb:DE X (.BoolOp .And (b::rest) pos) mb):DE X (.BoolOp .And (a::b::rest) pos) (Gp ma mb):=fun loc mh=>by
 cases ea:Ag ma loc mh with
 | none =>
  have:Gp ma mb loc mh=none:=by unfold Gp DM.bnd;rw [ea]
  rw [this];exact Bc
 | some p =>
  obtain ⟨k,m1⟩:=p;refine Ar (rY (ha loc mh) (hb loc m1)) ?_;rintro σ H Q ⟨ρ,d,mh',q,rl,rs,co⟩;have q':(if k=true then mb else Zr (.bl false)) loc m1=some (d,mh'):=by unfold Gp DM.bnd at q;rw [ea] at q;exact q
  refine ⟨ρ,.bl k,m1,Cr ea,rl,rs,fun H1 ρ1 v e1 rs1 r1=>?_⟩;cases r1;refine ⟨k,rfl,?_⟩;cases k with
  | true=>exact Ry ⟨ρ1,d,mh',q',rl.mono e1,rs1,co.ev e1⟩
  | false=>cases q';exact Rx (co H1 ρ1 _ e1 rs1 (.bl false))
theorem Aau (ha:DE X a ma) (hb:DE X (.BoolOp .Or (b::rest) pos) mb):DE X (.BoolOp .Or (a::b::rest) pos) (bV ma mb):=fun loc mh=>by
 cases ea:Ag ma loc mh with
 | none =>
  have:bV ma mb loc mh=none:=by unfold bV DM.bnd;rw [ea]
  rw [this];exact Bc
 | some p =>
  obtain ⟨k,m1⟩:=p;refine Ar (zL (ha loc mh) (hb loc m1)) ?_;rintro σ H Q ⟨ρ,d,mh',q,rl,rs,co⟩;have q':(if k=true then Zr (.bl true) else mb) loc m1=some (d,mh'):=by unfold bV DM.bnd at q;rw [ea] at q;exact q
  refine ⟨ρ,.bl k,m1,Cr ea,rl,rs,fun H1 ρ1 v e1 rs1 r1=>?_⟩;cases r1;refine ⟨k,rfl,?_⟩;cases k with
  | true=>cases q';exact Ry (co H1 ρ1 _ e1 rs1 (.bl true))
  | false=>exact Rx ⟨ρ1,d,mh',q',rl.mono e1,rs1,co.ev e1⟩
theorem uP (ha:DE X a ma):DE X (.UnaryOp .Not a pos) ((Ag ma).bnd fun c=>Zr (.bl (!c))):=fun loc mh=>by
 refine Ar (rZ (ha loc mh)) ?_;rintro σ H Q ⟨ρ,d,mh',q,rl,rs,co⟩;cases ea:Ag ma loc mh with
 | none=>unfold DM.bnd at q;rw [ea] at q;cases q
 | some p =>
  obtain ⟨k,m1⟩:=p;unfold DM.bnd at q;rw [ea] at q;cases q;refine ⟨ρ,.bl k,mh',Cr ea,rl,rs,fun H1 ρ1 v e1 rs1 r1=>?_⟩;cases r1;exact ⟨k,rfl,co H1 ρ1 _ e1 rs1 (.bl _)⟩
noncomputable def bW:D->MH->Option Bool
 | .non,_=>some false
 | .bl b,_=>some b
 | .int i,_=>some (i != 0)
 | .str y,_=>if y.length<=sizeLine then some ((y.length:Int) != 0) else none
 | .tup ds,_=>some (!ds.isEmpty)
 | .ref n,mh=>match mh[n]? with | some (.lst o)=>some (!o.isEmpty) | _=>none
 | .rol ds,_=>some (!ds.isEmpty)
 | .obj ..,_=>none
 | .fn _,_=>none
 | .lam,_=>none
theorem Gq {K:PySem.W.Frag}{H:Hp}{ρ:List Addr}{ds:List D}{xs:List V}(r:RDs K H ρ ds xs):ds.isEmpty=xs.isEmpty:=by cases r <;> rfl
theorem mV {K:PySem.W.Frag}{H:Hp}{ρ:List Addr}{mh:MH}{d:D}{v:V}{k:Bool}(rs:RS K H ρ mh) (r:RD K H ρ d v) (e:bW d mh=some k):tL K v H k:=by
 cases r with
 | non=>cases e;rfl
 | bl b=>cases e;rfl
 | int i=>cases e;rfl
 | str x =>
  have e:(if x.length<=sizeLine then some ((x.length:Int) != 0) else none)=some k:=e;split at e
  ·rename_i hz;cases e;exact ⟨hz,rfl⟩
  ·cases e
 | tup s r=>cases e;exact .inr (.inl ⟨_,s,by rw [Gq r]⟩)
 | rol s r=>cases e;exact .inl ⟨_,s.sq,by rw [Gq r]⟩
 | obj n s l r=>cases e
 | fn h=>cases e
 | lam h=>cases e
 | @ref n a h =>
  have e:(match mh[n]? with | some (.lst o)=>some (!o.isEmpty) | _=>none)=some k:=e;split at e
  ·rename_i o eo;cases e;obtain ⟨a',ha,ro⟩:=rs.at eo;rw [h] at ha;cases ha;obtain ⟨xs,q,r⟩:=ro.read;exact .inl ⟨xs,q,by rw [Gq r]⟩
  ·cases e
noncomputable def Jr (ma:DM D):DM Bool:=ma.bnd fun x=>fun _ mh=>match bW x mh with | some k=>some (k,mh) | none=>none
theorem R3 (ha:DE X a ma) (he:∀ whole,isTrue a X.env whole=(do let v ← whole;standAt a.pos;holding [v] (truthy v))):DT X a (Jr ma):=fun loc mh=>by
 refine Jq (bA (ha loc mh) he) ?_;rintro σ H Q ⟨ρ,k,mh',q,rl,rs,co⟩;obtain ⟨x,m1,ea,q⟩:=Ac q
 ·split at q
  ·rename_i k' ek;cases q;exact ⟨ρ,x,mh',ea,rl,rs,fun H1 ρ1 v e1 rs1 r1=>⟨k,mV rs1 r1 ek,co H1 ρ1 e1 rs1⟩⟩
  ·cases q
noncomputable def Aa (ma:DM D) (mr:DM (List D)):DM (List D):=ma.bnd fun x=>mr.bnd fun xs=>Zr (x::xs)
theorem uQ:DA X [] (Zr []):=by
 refine fun loc mh=>bR Ef ?_
 rintro σ H Q ⟨ρ,ds,mh',q,rl,rs,co⟩;cases q;exact co H ρ [] Ev.refl rs .nil
theorem mW {es:List Expr}{mr:DM (List D)}(ha:DE X a ma) (hr:DA X es mr) (hs:starEach (a::es) X.env=(false,eval a X.env)::starEach es X.env):DA X (a::es) (Aa ma mr):=fun loc mh=>by
 cases ea:ma loc mh with
 | none =>
  have:Aa ma mr loc mh=none:=by unfold Aa DM.bnd;rw [ea]
  rw [this];exact W6
 | some p =>
  obtain ⟨x,m1⟩:=p;refine bR (Cp (ha loc mh) (hr loc m1) hs) ?_;rintro σ H Q ⟨ρ,ds,mh',q,rl,rs,co⟩;obtain ⟨x2,m2,ea2,q⟩:=Ac q;rw [ea] at ea2;cases ea2;obtain ⟨xs,m2,er,q'⟩:=Ac q
  ·cases q';exact ⟨ρ,x,m1,ea,rl,rs,fun H1 ρ1 v e1 rs1 r1=>⟨ρ1,xs,mh',er,rl.mono e1,rs1,fun H2 ρ2 vs e2 rs2 r2=>co H2 ρ2 _ (e1.trans e2) rs2 (.cons (r1.mono e2) r2)⟩⟩
noncomputable def Oz (ds:List D) (mh:MH):Option (D×MH):=if ds.length<=sizeLine then some (.tup ds,mh) else none
noncomputable def O1 (ds:List D) (mh:MH):Option (D×MH):=if ds.length<=sizeLine then some (.ref mh.length,mh++[.lst ds]) else none
theorem RS.last {K:PySem.W.Frag}{H:Hp}{ρ:List Addr}{mh:MH}(h:RS K H ρ mh) (p:Addr):(ρ++[p])[mh.length]?=some p:=by rw [← h.len];simp
theorem Co.newT {K:PySem.W.Frag}{H:Hp}{ρ:List Addr}{mh:MH}{ds:List D}{vs:List V}{Q:VK}(rs:RS K H ρ mh) (r:RDs K H ρ ds vs) (co:Co K H ρ mh (.tup ds) Q):∀ p,H p=none->Q (.ref p) (upd H p (.tup vs)):=fun p hp =>
 co _ ρ _ (Ev.new hp) (rs.new hp) (.tup (.inl (.inl Ay)) (r.mono (Ev.new hp)))
theorem Co.newL {K:PySem.W.Frag}{H:Hp}{ρ:List Addr}{mh:MH}{ds:List D}{vs:List V}{Q:VK}(rs:RS K H ρ mh) (r:RDs K H ρ ds vs) (co:Co K H ρ (mh++[.lst ds]) (.ref mh.length) Q):∀ p,H p=none->Q (.ref p) (upd H p (.lst vs)):=fun p hp =>
 co _ (ρ++[p]) _ (Ev.newL hp) (rs.newL hp r) (.ref (rs.last p))
theorem uR {es:List Expr}{mr:DM (List D)}{x1}(h:DA X es mr):DE X (.Tuple es x1 pos) (mr.bnd fun ds=>Zl (Oz ds)):=fun loc mh=>by
 refine Ar (tU (h loc mh)) ?_;rintro σ H Q ⟨ρ,d,mh',q,rl,rs,co⟩;obtain ⟨ds,m1,ea,q⟩:=Ac q
 ·unfold Zl Oz at q;split at q
  ·rename_i hz;cases q;exact ⟨ρ,ds,mh',ea,rl,rs,fun H1 ρ1 vs e1 rs1 r1=>⟨by rw [← r1.length];exact hz,Co.newT rs1 r1 (co.ev e1)⟩⟩
  ·cases q
theorem uT {es:List Expr}{mr:DM (List D)}(h:DA X es mr):DE X (.List es pos) (mr.bnd fun ds=>Zl (O1 ds)):=fun loc mh=>by
 refine Ar (tV (h loc mh)) ?_;rintro σ H Q ⟨ρ,d,mh',q,rl,rs,co⟩;obtain ⟨ds,m1,ea,q⟩:=Ac q
 ·unfold Zl O1 at q;split at q
  ·rename_i hz;cases q;exact ⟨ρ,ds,m1,ea,rl,rs,fun H1 ρ1 vs e1 rs1 r1=>⟨by rw [← r1.length];exact hz,Co.newL rs1 r1 (co.ev e1)⟩⟩
  ·cases q
theorem Ej {f:List D->MH->Option (D×MH)}{es:List Expr}{mr:DM (List D)}{x:Str}{p:Pos}{id:String}(hc:Az X (.builtin id) (rDs X.K f)) (hg:Gl X x) (hm:X.mg x=none) (hv:bootBuiltins x=some (.builtin id)) (ha:DA X (a::es) mr)
  (hn:x ≠ "__name__") (hdb:(x==("__debug__":Str))=false) (he:starEach (a::es) X.env=(false,eval a X.env)::starEach es X.env) (hpl:(backTo pos (starEach es X.env)).any (·.1)=false) :
  DE X (.Call (.Name x p) (a::es) [] pos) (mr.bnd fun ds=>Zl (f ds)):=fun loc mh=>by
 refine Ar (Io hc hg hm hv (ha loc mh) hn hdb he hpl) ?_;rintro σ H Q ⟨ρ,d,mh',q,rl,rs,co⟩;obtain ⟨ds,m1,ea,q⟩:=Ac q
 ·exact ⟨ρ,ds,m1,ea,rl,rs,fun H1 ρ1 vs e1 rs1 r1=>⟨ρ1,m1,ds,d,mh',q,rs1,r1,co.ev e1⟩⟩
theorem Js {f:List D->MH->Option (D×MH)}{es:List Expr}{mr:DM (List D)}{x:Str}{p:Pos}{T:String}(hc:Az X (.type T) (rDs X.K f)) (hg:Gl X x) (hm:X.mg x=none) (hv:bootBuiltins x=some (.type T)) (ha:DA X (a::es) mr)
  (hn:x ≠ "__name__") (hdb:(x==("__debug__":Str))=false) (he:starEach (a::es) X.env=(false,eval a X.env)::starEach es X.env) (hpl:(backTo pos (starEach es X.env)).any (·.1)=false) :
  DE X (.Call (.Name x p) (a::es) [] pos) (mr.bnd fun ds=>Zl (f ds)):=fun loc mh=>by
 refine Ar (Di hc hg hm hv (ha loc mh) hn hdb he hpl) ?_;rintro σ H Q ⟨ρ,d,mh',q,rl,rs,co⟩;obtain ⟨ds,m1,ea,q⟩:=Ac q
 ·exact ⟨ρ,ds,m1,ea,rl,rs,fun H1 ρ1 vs e1 rs1 r1=>⟨ρ1,m1,ds,d,mh',q,rs1,r1,co.ev e1⟩⟩
end
section
variable {X:Cx}
theorem K6 {f:Value->Value->Sem Value}{r r':R2}(h:OpR X f r) (i:∀ x y H Q,r' x y H Q->r x y H Q):OpR X f r':=fun pins s σ H x y v u Q I rx ry q=>h pins s σ H x y v u Q I rx ry (i x y H Q q)
noncomputable def iop (C:Int->Int->Bool) (g:Int->Int->Int):D->D->MH->Option (D×MH)
 | .int i,.int j,mh=>if C i j=true then some (.int (g i j),mh) else none
 | _,_,_=>none
theorem Lr {f:Value->Value->Sem Value}{C:Int->Int->Prop}{Cb:Int->Int->Bool}{g:Int->Int->Int}(h:OpR X f (rI C fun i j=>.int (g i j))) (hC:∀ i j,Cb i j=true->C i j):OpR X f (rD X.K (iop Cb g)):=by
 refine K6 h ?_;rintro x y H Q ⟨ρ,mh,dx,dy,d,mh',q,rs,rx,ry,co⟩;cases rx with
 | int i =>
  cases ry with
  | int j =>
   have q:(if Cb i j=true then some (D.int (g i j),mh) else none)=some (d,mh'):=q;split at q
   ·rename_i hc;cases q;exact ⟨i,j,rfl,rfl,hC i j hc,co H ρ _ Ev.refl rs (.int _)⟩
   ·cases q
  | _=>cases q
 | _=>cases q
theorem mX {f:Value->Value->Sem Value}{g:Int->Int->Int}(h:OpR X f (rI0 fun i j=>.int (g i j))):OpR X f (rD X.K (iop (fun _ _=>true) g)) :=
 Lr (C:=fun _ _=>True) (K6 h fun x y H Q ⟨i,j,e1,e2,_,q⟩=>⟨i,j,e1,e2,q⟩) fun _ _ _=>trivial
noncomputable def Qt (g:Int->Int->Bool):D->D->MH->Option (D×MH)
 | .int i,.int j,mh=>some (.bl (g i j),mh)
 | _,_,_=>none
theorem K7 {f:Value->Value->Sem Value}{g:Int->Int->Bool}(h:OpR X f (rI0 fun i j=>.bl (g i j))):OpR X f (rD X.K (Qt g)):=by
 refine K6 h ?_;rintro x y H Q ⟨ρ,mh,dx,dy,d,mh',q,rs,rx,ry,co⟩;cases rx with
 | int i =>
  cases ry with
  | int j =>
   cases q;exact ⟨i,j,rfl,rfl,co H ρ _ Ev.refl rs (.bl _)⟩
  | _=>cases q
 | _=>cases q
noncomputable def Cz:D->D->MH->Option (D×MH)
 | .int i,.int j,mh=>some (.int (i+j),mh)
 | .str i,.str j,mh=>if i.length+j.length<=sizeLine then some (.str (i++j),mh) else none
 | .tup xs,.tup ys,mh=>if xs.length+ys.length<=sizeLine then some (.tup (xs++ys),mh) else none
 | .ref n,.ref m,mh=>match mh[n]?,mh[m]? with
  | some (.lst xs),some (.lst ys)=>if xs.length+ys.length<=sizeLine then some (.ref mh.length,mh++[.lst (xs++ys)]) else none
  | _,_=>none
 | _,_,_=>none
end
noncomputable def mapO {α β:Type}(f:α->Option β):List α->Option (List β)
 | []=>some []
 | x::xs=>match f x with
  | some y=>match mapO f xs with
   | some ys=>some (y::ys)
   | none=>none
  | none=>none
noncomputable def py (mh:MH):Nat->D->Option PyData
 | _,.non=>some .none
 | _,.bl b=>some (.bool b)
 | _,.int i=>some (.int i)
 | _,.str x=>if PyData.strOk x=true then some (.str x) else none
 | 0,.tup _=>none
 | 0,.ref _=>none
 | 0,.rol _=>none
 | 0,.obj ..=>none
 | _+1,.obj ..=>none
 | 0,.fn _=>none
 | 0,.lam=>none
 | _+1,.fn _=>none
 | _+1,.lam=>none
 | n+1,.tup ds=>match mapO (py mh n) ds with | some xs=>some (.tuple xs) | none=>none
 | n+1,.rol ds=>match mapO (py mh n) ds with | some xs=>some (.list xs) | none=>none
 | n+1,.ref k=>match mh[k]? with
  | some (.lst o)=>match mapO (py mh n) o with | some xs=>some (.list xs) | none=>none
  | _=>none
section
variable {X:Cx}{pins:List (Addr×Obj)}{σ:St}{H:Hp}{s:Shared}{ρ:List Addr}{mh:MH}
theorem Bv (I:Inv X pins σ H s) (rs:RS X.K H ρ mh):∀ (n:Nat) (d:D) (v:V) (u:Value) (a:PyData),py mh n d=some a->RD X.K H ρ d v->RelV v u->(∃ as,Reads s.heap u a as)/\a.canLay0=true/\a.depth<=n:=by
 intro n
 induction n with
 | zero =>
  intro d v u a e r rv;cases r with
  | non=>cases e;cases rv;exact ⟨⟨_,.none⟩,rfl,Nat.le_refl _⟩
  | bl b=>cases e;cases rv;exact ⟨⟨_,.bool b⟩,rfl,Nat.le_refl _⟩
  | int i=>cases e;obtain ⟨t,rfl⟩:=rv;exact ⟨⟨_,.int i t⟩,rfl,Nat.le_refl _⟩
  | str x =>
   have e:(if PyData.strOk x=true then some (PyData.str x) else none)=some a:=e;split at e
   ·cases e;obtain ⟨t,rfl⟩:=rv;exact ⟨⟨_,.str x t⟩,by assumption,Nat.le_refl _⟩
   ·cases e
  | tup s r=>cases e
  | ref h=>cases e
  | rol s r=>cases e
  | obj n s l r=>cases e
  | fn h=>cases e
  | lam h=>cases e
 | succ n ih =>
  have all:∀ (ds:List D) (vs:List V) (us:List Value) (as:List PyData),mapO (py mh n) ds=some as->RDs X.K H ρ ds vs->Vals vs us->(∃ bs,ReadsAll s.heap us as bs)/\PyData.canLayAll0 as=true/\PyData.depthAll as<=n:=by
   intro ds
   induction ds with
   | nil=>intro vs us as e r rv;cases e;cases r;cases rv;exact ⟨⟨_,.nil⟩,rfl,Nat.zero_le _⟩
   | cons d ds ihd =>
    intro vs us as e r rv;cases r with
    | cons r1 r2 =>
     cases rv with
     | cons v1 v2 =>
      simp only [mapO] at e;split at e
      ·rename_i y ey;split at e
       ·rename_i ys eys;cases e;obtain ⟨⟨a1,h1⟩,h2,h3⟩:=ih _ _ _ _ ey r1 v1;obtain ⟨⟨b1,g1⟩,g2,g3⟩:=ihd _ _ _ eys r2 v2;refine ⟨⟨_,.cons h1 g1⟩,?_,?_⟩
        ·simp only [PyData.canLayAll0,h2,g2,Bool.and_self]
        ·simp only [PyData.depthAll];omega
       ·cases e
      ·cases e
  intro d v u a e r rv;cases r with
  | non=>cases e;cases rv;exact ⟨⟨_,.none⟩,rfl,Nat.zero_le _⟩
  | bl b=>cases e;cases rv;exact ⟨⟨_,.bool b⟩,rfl,Nat.zero_le _⟩
  | int i=>cases e;obtain ⟨t,rfl⟩:=rv;exact ⟨⟨_,.int i t⟩,rfl,Nat.zero_le _⟩
  | str x =>
   have e:(if PyData.strOk x=true then some (PyData.str x) else none)=some a:=e;split at e
   ·cases e;obtain ⟨t,rfl⟩:=rv;exact ⟨⟨_,.str x t⟩,by assumption,Nat.zero_le _⟩
   ·cases e
  | @tup ds a' xs sq r =>
   cases rv;have e:(match mapO (py mh n) ds with | some xs=>some (PyData.tuple xs) | none=>none)=some a:=e;split at e
   ·rename_i ys ey;cases e;obtain ⟨its,rv,⟨o,h1,h2,n',h3⟩,_⟩:=I.tuple sq;obtain ⟨⟨bs,g1⟩,g2,g3⟩:=all ds xs its ys ey r rv;refine ⟨⟨_,.tuple h1 h2 h3 (by simpa using g1)⟩,by simpa [PyData.canLay0] using g2,?_⟩;simp only [PyData.depth];omega
   ·cases e
  | obj n s l r=>cases e
  | fn h=>cases e
  | lam h=>cases e
  | @rol ds a' xs sq r =>
   cases rv;have e:(match mapO (py mh n) ds with | some xs=>some (PyData.list xs) | none=>none)=some a:=e;split at e
   ·rename_i ys ey;cases e;obtain ⟨its,rv,⟨ob,n',h1,h2,h2',h3⟩,_⟩:=I.list sq.sq;obtain ⟨⟨bs,g1⟩,g2,g3⟩:=all _ xs its ys ey r rv;refine ⟨⟨_,.list h1 h2 h3 (by simpa using g1)⟩,by simpa [PyData.canLay0] using g2,?_⟩;simp only [PyData.depth];omega
   ·cases e
  | @ref k a' h =>
   cases rv;have e:(match mh[k]? with | some (.lst o)=>(match mapO (py mh n) o with | some xs=>some (PyData.list xs) | none=>none) | _=>none)=some a:=e;split at e
   ·rename_i o eo;split at e
    ·rename_i ys ey;cases e;obtain ⟨a2,ha,ro⟩:=rs.at eo;rw [h] at ha;cases ha;obtain ⟨xs,sq,r⟩:=ro.read;obtain ⟨its,rv,⟨ob,n',h1,h2,h2',h3⟩,_⟩:=I.list sq;obtain ⟨⟨bs,g1⟩,g2,g3⟩:=all _ xs its ys ey r rv;refine ⟨⟨_,.list h1 h2 h3 (by simpa using g1)⟩,by simpa [PyData.canLay0] using g2,?_⟩;simp only [PyData.depth];omega
    ·cases e
   ·cases e
noncomputable def eqB (mh:MH) (x y:D):Option Bool:=match py mh 60 x,py mh 60 y with
 | some a,some b=>some (PyData.eqv a b)
 | _,_=>none
noncomputable def eqD (x y:D) (mh:MH):Option (D×MH):=match eqB mh x y with | some k=>some (.bl k,mh) | none=>none
noncomputable def neD (x y:D) (mh:MH):Option (D×MH):=match eqB mh x y with | some k=>some (.bl (!k),mh) | none=>none
theorem bY {A:Around}{a b:PyData}(hu:A.units+64 < cLine) (h:a.depth<=60):A.units+min a.depth b.depth < cLine:=by omega
theorem R4 {x y:D}{k:Bool}(h:eqB mh x y=some k):∃ a b,py mh 60 x=some a/\py mh 60 y=some b/\k=PyData.eqv a b:=by
 unfold eqB at h;split at h
 ·rename_i a b ea eb;cases h;exact ⟨a,b,ea,eb,rfl⟩
 ·cases h
theorem uU (hu:X.A.units+64 < cLine):OpR X (compareOp .Eq) (rD X.K eqD):=by
 rintro pins s σ H x y v u Q I rx ry ⟨ρ,mh,dx,dy,d,mh',q,rs,r1,r2,co⟩;unfold eqD at q;split at q
 ·rename_i k ek;cases q;obtain ⟨a,b,ea,eb,rfl⟩:=R4 ek;obtain ⟨⟨as,h1⟩,h2,h3⟩:=Bv I rs 60 dx x v a ea r1 rx;obtain ⟨⟨bs,g1⟩,g2,g3⟩:=Bv I rs 60 dy y u b eb r2 ry;exact SeqAt.compareEq_reads h1 g1 h2 g2 (bY hu h3) ⟨.bl _,H,I,rfl,co H ρ _ Ev.refl rs (.bl _)⟩
 ·cases q
theorem uV (hu:X.A.units+64 < cLine):OpR X (compareOp .NotEq) (rD X.K neD):=by
 rintro pins s σ H x y v u Q I rx ry ⟨ρ,mh,dx,dy,d,mh',q,rs,r1,r2,co⟩;unfold neD at q;split at q
 ·rename_i k ek;cases q;obtain ⟨a,b,ea,eb,rfl⟩:=R4 ek;obtain ⟨⟨as,h1⟩,h2,h3⟩:=Bv I rs 60 dx x v a ea r1 rx;obtain ⟨⟨bs,g1⟩,g2,g3⟩:=Bv I rs 60 dy y u b eb r2 ry;exact SeqAt.compareNe_reads h1 g1 h2 g2 (bY hu h3) ⟨.bl _,H,I,rfl,co H ρ _ Ev.refl rs (.bl _)⟩
 ·cases q
noncomputable def inB (mh:MH) (x c:D):Option Bool:=match py mh 60 x,py mh 60 c with
 | some a,some (.list xs)=>some (xs.any fun y=>PyData.eqv y a)
 | some a,some (.tuple xs)=>some (xs.any fun y=>PyData.eqv y a)
 | _,_=>none
noncomputable def Yw (neg:Bool) (x c:D) (mh:MH):Option (D×MH):=match inB mh x c with | some k=>some (.bl (if neg then !k else k),mh) | none=>none
theorem mY (hu:X.A.units+64 < cLine):OpR X (compareOp .In) (rD X.K (Yw false)):=by
 rintro pins s σ H x y v u Q I rx ry ⟨ρ,mh,dx,dy,d,mh',q,rs,r1,r2,co⟩;unfold Yw at q;split at q
 ·rename_i k ek;cases q;unfold inB at ek;split at ek
  ·rename_i a xs ea eb;cases ek;obtain ⟨⟨as,h1⟩,h2,h3⟩:=Bv I rs 60 dx x v a ea r1 rx;obtain ⟨⟨bs,g1⟩,g2,g3⟩:=Bv I rs 60 dy y u _ eb r2 ry;exact SeqAt.in_list_reads g1 h1 (by simpa [PyData.canLay0] using g2) h2 (by simp only [PyData.depth] at g3;omega) ⟨.bl _,H,I,rfl,co H ρ _ Ev.refl rs (.bl _)⟩
  ·rename_i a xs ea eb;cases ek;obtain ⟨⟨as,h1⟩,h2,h3⟩:=Bv I rs 60 dx x v a ea r1 rx;obtain ⟨⟨bs,g1⟩,g2,g3⟩:=Bv I rs 60 dy y u _ eb r2 ry;exact SeqAt.in_tuple_reads g1 h1 (by simpa [PyData.canLay0] using g2) h2 (by simp only [PyData.depth] at g3;omega) ⟨.bl _,H,I,rfl,co H ρ _ Ev.refl rs (.bl _)⟩
  ·cases ek
 ·cases q
theorem Vf (hu:X.A.units+64 < cLine):OpR X (compareOp .NotIn) (rD X.K (Yw true)):=by
 rintro pins s σ H x y v u Q I rx ry ⟨ρ,mh,dx,dy,d,mh',q,rs,r1,r2,co⟩;unfold Yw at q;split at q
 ·rename_i k ek;cases q;unfold inB at ek;split at ek
  ·rename_i a xs ea eb;cases ek;obtain ⟨⟨as,h1⟩,h2,h3⟩:=Bv I rs 60 dx x v a ea r1 rx;obtain ⟨⟨bs,g1⟩,g2,g3⟩:=Bv I rs 60 dy y u _ eb r2 ry;exact SeqAt.notIn_list_reads g1 h1 (by simpa [PyData.canLay0] using g2) h2 (by simp only [PyData.depth] at g3;omega) ⟨.bl _,H,I,rfl,co H ρ _ Ev.refl rs (.bl _)⟩
  ·rename_i a xs ea eb;cases ek;obtain ⟨⟨as,h1⟩,h2,h3⟩:=Bv I rs 60 dx x v a ea r1 rx;obtain ⟨⟨bs,g1⟩,g2,g3⟩:=Bv I rs 60 dy y u _ eb r2 ry;exact SeqAt.notIn_tuple_reads g1 h1 (by simpa [PyData.canLay0] using g2) h2 (by simp only [PyData.depth] at g3;omega) ⟨.bl _,H,I,rfl,co H ρ _ Ev.refl rs (.bl _)⟩
  ·cases ek
 ·cases q
end
section
variable {X:Cx}
noncomputable def isD (neg:Bool) (x y:D) (mh:MH):Option (D×MH):=match y with
 | .non=>some (.bl (if neg then !(match x with | .non=>true | _=>false) else match x with | .non=>true | _=>false),mh)
 | .bl b=>(match x with
  | .bl a=>some (.bl (if neg then a != b else a==b),mh)
  | .non=>some (.bl neg,mh)
  | _=>none)
 | _=>none
theorem Yx:OpR X (compareOp .IsNot) (rD X.K (isD true)):=by
 rintro pins s σ H x y v u Q I rx ry ⟨ρ,mh,dx,dy,d,mh',q,rs,r1,r2,co⟩;cases r2 with
 | non =>
  cases q;cases ry;refine isnot_none_gen ⟨.bl _,H,I,?_,co H ρ _ Ev.refl rs (.bl _)⟩;rw [rx.none_iff];cases r1 <;> rfl
 | bl b =>
  cases r1 with
  | bl a=>cases q;cases rx;cases ry;exact isnot_bool ⟨.bl _,H,I,rfl,co H ρ _ Ev.refl rs (.bl _)⟩
  | non=>cases q;cases rx;cases ry;exact wpAny_pure (a:=Value.bool true) ⟨.bl _,H,I,rfl,co H ρ _ Ev.refl rs (.bl _)⟩
  | _=>cases q
 | _=>cases q
theorem bZ:OpR X (binaryOp .Add) (fun x y H Q=>∃ a b ys,x=.ref a/\y=.ref b/\SqT X.K H a []/\SqT X.K H b ys/\Q (.ref b) H):=by
 rintro pins s σ H x y v u Q I rx ry ⟨a,b,ys,e1,e2,ha,hb,q⟩;subst e1;subst e2;cases rx;cases ry;obtain ⟨its,r1,p1,_⟩:=I.tuple ha;obtain ⟨its2,r2,p2,_⟩:=I.tuple hb;cases r1;obtain ⟨⟨cls,dd,data,sl⟩,ho,hc,n,hd⟩:=id p1;obtain ⟨⟨cls2,dd2,data2,sl2⟩,ho2,hc2,n2,hd2⟩:=id p2;simp only at hc hd hc2 hd2;subst hc hd hc2 hd2;exact concat_meets ⟨_,ho,rfl⟩ ⟨_,ho2,rfl⟩ noFill_tuple_add seq_tuple_add PySem.F.slot_tuple_add PySem.F.entry_tuple_add (PySem.F.args_tuple_add_2 _ _) (tuple_addW0 a b _ _ n n2 dd dd2 sl sl2 (by simp)) ⟨ho,ho2,⟨.ref b,H,I,rfl,q⟩⟩
theorem mZ:OpR X (binaryOp .Add) (rD X.K Cz):=by
 refine K6 (sZ.or (U4.or (lZ.or (uG.or bZ)))) ?_;rintro x y H Q ⟨ρ,mh,dx,dy,d,mh',q,rs,rx,ry,co⟩;cases rx with
 | int i =>
  cases ry with
  | int j=>cases q;exact .inl ⟨i,j,rfl,rfl,co H ρ _ Ev.refl rs (.int _)⟩
  | _=>cases q
 | str i =>
  cases ry with
  | str j =>
   have q:(if i.length+j.length<=sizeLine then some (D.str (i++j),mh) else none)=some (d,mh'):=q;split at q
   ·rename_i hz;cases q;exact .inr (.inl ⟨i,j,rfl,rfl,hz,co H ρ _ Ev.refl rs (.str _)⟩)
   ·cases q
  | _=>cases q
 | @tup xs a us s1 r1 =>
  cases ry with
  | @tup ys b ws s2 r2 =>
   have q:(if xs.length+ys.length<=sizeLine then some (D.tup (xs++ys),mh) else none)=some (d,mh'):=q;split at q
   ·rename_i hz;cases q
    by_cases hne:xs=[]
    ·subst hne;cases r1;exact .inr (.inr (.inr (.inr ⟨a,b,ws,rfl,rfl,s1,s2,co H ρ _ Ev.refl rs (.tup s2 r2)⟩)))
    ·refine .inr (.inr (.inl ⟨a,b,us,ws,rfl,rfl,s1,s2,fun z=>hne ?_,by rw [← r1.length,← r2.length];exact hz,?_⟩))
     ·rw [z] at r1;cases r1;rfl
     ·refine ⟨fun z=>?_,fun z=>Co.newT rs (r1.append r2) co⟩;subst z;cases r2;exact co H ρ _ Ev.refl rs (.tup s1 (by rw [List.append_nil];exact r1))
   ·cases q
  | _=>cases q
 | @ref n a ha =>
  cases ry with
  | @ref m b hb =>
   have q:(match mh[n]?,mh[m]? with
    | some (.lst xs),some (.lst ys)=>if xs.length+ys.length<=sizeLine then some (D.ref mh.length,mh++[.lst (xs++ys)]) else none
    | _,_=>none)=some (d,mh'):=q
   split at q
   ·rename_i xs ys e1 e2;split at q
    ·rename_i hz;cases q;obtain ⟨a2,h1,us,g1,r1⟩:=rs.at e1;obtain ⟨b2,h2,ws,g2,r2⟩:=rs.at e2;rw [ha] at h1;rw [hb] at h2;cases h1;cases h2;exact .inr (.inr (.inr (.inl ⟨a,b,us,ws,rfl,rfl,g1,g2,by rw [← r1.length,← r2.length];exact hz,Co.newL rs (r1.append r2) co⟩)))
    ·cases q
   ·cases q
  | _=>cases q
 | _=>cases q
end
section
variable {X:Cx}
theorem O2 {f:Value}{r r':List V->Hp->VK->Prop}(h:Az X f r) (i:∀ xs H Q,r' xs H Q->r xs H Q):Az X f r':=fun pins s σ H xs us Q I rx q=>h pins s σ H xs us Q I rx (i xs H Q q)
theorem nA {r r':R2}(h:IxR X r) (i:∀ x y H Q,r' x y H Q->r x y H Q):IxR X r':=fun a b pins s σ H x y v u Q I rx ry q hs=>h a b pins s σ H x y v u Q I rx ry (i x y H Q q) hs
theorem nC {r r':V->Option Int->Option Int->Hp->VK->Prop}(h:SlR X r) (i:∀ x lo hi H Q,r' x lo hi H Q->r x lo hi H Q):SlR X r':=fun pins s σ H x v vl vu lo hi sl Q I rx hs pl pu q=>h pins s σ H x v vl vu lo hi sl Q I rx hs pl pu (i x lo hi H Q q)
noncomputable def Dc:D->MH->Option (List D)
 | .tup ds,_=>some ds
 | .ref n,mh=>match mh[n]? with | some (.lst o)=>some o | _=>none
 | .rol ds,_=>some ds
 | _,_=>none
theorem Fq {K:PySem.W.Frag}{H:Hp}{ρ:List Addr}{mh:MH}{d:D}{v:V}{ds:List D}(rs:RS K H ρ mh) (r:RD K H ρ d v) (e:Dc d mh=some ds):∃ p xs,v=.ref p/\(SqL K H p xs\/SqT K H p xs)/\RDs K H ρ ds xs:=by
 cases r with
 | tup s r=>cases e;exact ⟨_,_,rfl,.inr s,r⟩
 | rol s r=>cases e;exact ⟨_,_,rfl,.inl s.sq,r⟩
 | @ref n a h =>
  have e:(match mh[n]? with | some (.lst o)=>some o | _=>none)=some ds:=e;split at e
  ·rename_i o eo;cases e;obtain ⟨a',ha,ro⟩:=rs.at eo;rw [h] at ha;cases ha;obtain ⟨xs,q,r⟩:=ro.read;exact ⟨_,xs,rfl,.inl q,r⟩
  ·cases e
 | _=>cases e
theorem nD {K:PySem.W.Frag}{H:Hp}{ρ:List Addr}{ds:List D}{xs:List V}{i:Int}{d:D}(r:RDs K H ρ ds xs) (e:atI ds i=some d):∃ v,atI xs i=some v/\RD K H ρ d v:=by
 unfold atI at e ⊢;rw [← r.length];cases q:ixN ds.length i with
 | none=>rw [q] at e;cases e
 | some j =>
  rw [q] at e;exact r.get e
noncomputable def cA (x y:D) (mh:MH):Option (D×MH):=match y with
 | .int i=>(match x with
  | .str z=>if z.length<=sizeLine then (match atI z.cps.toList i with | some c=>some (.str ⟨#[c]⟩,mh) | none=>none) else none
  | _=>match Dc x mh with
   | some ds=>(match atI ds i with | some d=>some (d,mh) | none=>none)
   | none=>none)
 | _=>none
theorem Aav:IxR X (rD X.K cA):=by
 refine nA (uD (X:=X)) ?_;rintro x y H Q ⟨ρ,mh,dx,dy,d,mh',q,rs,rx,ry,co⟩;have seq:∀ i:Int,y=.int i->(match Dc dx mh with | some ds=>(match atI ds i with | some d=>some (d,mh) | none=>none) | none=>none)=some (d,mh')->rIx X.K x y H Q:=fun i ey q=>by
  split at q
  ·rename_i ds e1;split at q
   ·rename_i d' e2;cases q;obtain ⟨p,xs,rfl,hq,r⟩:=Fq rs rx e1;obtain ⟨v,e3,r3⟩:=nD r e2;rcases hq with hq|hq
    ·exact .inl ⟨p,xs,i,v,rfl,ey,hq,e3,co H ρ v Ev.refl rs r3⟩
    ·exact .inr (.inl ⟨p,xs,i,v,rfl,ey,hq,e3,co H ρ v Ev.refl rs r3⟩)
   ·cases q
  ·cases q
 cases ry with
 | int i =>
  cases rx with
  | str z =>
   have q:(if z.length<=sizeLine then (match atI z.cps.toList i with | some c=>some (D.str ⟨#[c]⟩,mh) | none=>none) else none)=some (d,mh'):=q;split at q
   ·rename_i hz;split at q
    ·rename_i c ec;cases q;exact .inr (.inr ⟨z,i,c,rfl,rfl,hz,ec,co H ρ _ Ev.refl rs (.str _)⟩)
    ·cases q
   ·cases q
  | non=>exact seq i rfl q
  | bl b=>exact seq i rfl q
  | int j=>exact seq i rfl q
  | tup s r=>exact seq i rfl q
  | ref h=>exact seq i rfl q
  | rol s r=>exact seq i rfl q
  | obj n s l r=>exact seq i rfl q
  | fn h=>exact seq i rfl q
  | lam h=>exact seq i rfl q
 | _=>cases q
noncomputable def cutD {α:Type}(xs:List α) (lo hi:Option Int):List α:=(xs.drop (HT.sIx xs.length 0 lo)).take (HT.sIx xs.length xs.length hi - HT.sIx xs.length 0 lo)
theorem Qu {K:PySem.W.Frag}{H:Hp}{ρ:List Addr}{ds:List D}{xs:List V}{lo hi:Option Int}(r:RDs K H ρ ds xs):RDs K H ρ (cutD ds lo hi) (Ru xs lo hi):=by
 unfold cutD Ru;rw [r.length];exact (r.drop _).take _
theorem Hj {prog:Program}{w:World}{A:Around}{E:Value->Shared->Prop}{s:Shared}{t sl:Addr}{items:Array Value}{vl vu:Value}{lo hi:Option Int}{Q:Value->Shared->Prop}(ht:IsTup s.heap t items) (hs:s.heap.IsSliceOf sl vl vu .none) (pl:IsPart vl lo) (pu:IsPart vu hi)
  (h0:HT.sIx items.size 0 lo=0) (h1:HT.sIx items.size items.size hi=items.size) (h:Q (.ref t) s):wpAny (model prog w) A (getItem (.ref t) (.ref sl)) Q E s:=by
 obtain ⟨os,hos,hcs,hds⟩:=id hs
 have hTs:s.TypeIs (.ref sl) "slice":=⟨os,hos,hcs⟩
 unfold getItem
 try with_reducible refine wpAny_holding ?_
 first | refine wpAny_bind (wpAny_pure ?_) | skip
 refine wpAny_bind (wpAny_sequenceKey ht.typeIs (by decide) ?_)
 refine wpAny_bind (wpAny_callSpecial?_slot (name:=Str.ofString "__getitem__") ht.typeIs PyProof.Rows.slot_tuple_getitem
  (wpAny_call_entry PyProof.Rows.slot_tuple_getitem ht.typeIs entry_tuple_getitem ?_ (args_tuple_getitem _ _)))
 show wpAny _ _ (Builtin.Tuple.tupleItemsOf (.ref t) >>= _) _ _ s;refine wpAny_bind (tupleItemsOf_ ht ?_);refine wpAny_bind (wpAny_typeOf hTs ?_);rw [if_pos (by decide)];refine wpAny_bind (HT.sliceApplied_gen hs pl pu ?_);rw [h0,h1];have hyes:((((0:Nat):Int)==0&&(1:Int)==1&&(items.size - 0)==items.size)=true):=by simp
 show wpAny _ _ (if (((0:Nat):Int)==0&&(1:Int)==1&&(items.size - 0)==items.size)=true then _ else _) _ _ s;rw [if_pos hyes];unfold Builtin.Tuple.tupleIsExact;refine wpAny_bind (wpAny_bind (wpAny_typeOf ht.typeIs (wpAny_pure ?_)));rw [if_pos (by decide)];exact wpAny_bind (wpAny_rule (wpAny_pure ⟨_,rfl,wpAny_pure h⟩))
theorem Yy:SlR X (fun x lo hi H Q=>∃ a xs,x=.ref a/\SqT X.K H a xs/\HT.sIx xs.length 0 lo=0/\HT.sIx xs.length xs.length hi=xs.length/\Q (.ref a) H):=by
 intro pins s σ H x v vl vu lo hi sl Q I rx hs pl pu h;obtain ⟨a,xs,rfl,hx,h0,h1,q⟩:=h;cases rx;obtain ⟨its,r,ht,hz⟩:=I.tuple hx;have hlen:its.toArray.size=xs.length:=by rw [List.size_toArray];exact r.length.symm
 refine ⟨"tuple",_,PyProof.Rows.slot_tuple_getitem.lookup,ht.typeIs,?_⟩;exact Hj ht hs pl pu (by rw [hlen];exact h0) (by rw [hlen];exact h1) ⟨.ref a,H,I,rfl,q⟩
noncomputable def slD (x:D) (lo hi:Option Int) (mh:MH):Option (D×MH):=match x with
 | .tup ds=>if HT.sIx ds.length 0 lo=0/\HT.sIx ds.length ds.length hi=ds.length then some (.tup ds,mh) else some (.tup (cutD ds lo hi),mh)
 | .ref n=>match mh[n]? with
  | some (.lst o)=>some (.ref mh.length,mh++[.lst (cutD o lo hi)])
  | _=>none
 | .rol ds=>some (.ref mh.length,mh++[.lst (cutD ds lo hi)])
 | _=>none
noncomputable def Acp (K:PySem.W.Frag):V->Option Int->Option Int->Hp->VK->Prop:=fun x lo hi H Q=>∃ ρ mh dx d mh',slD dx lo hi mh=some (d,mh')/\RS K H ρ mh/\RD K H ρ dx x/\Co K H ρ mh' d Q
theorem Acq:SlR X (Acp X.K):=by
 refine nC (Yy.or (tX.or Bx)) ?_;rintro x lo hi H Q ⟨ρ,mh,dx,d,mh',q,rs,rx,co⟩;cases rx with
 | @tup ds a xs s r =>
  have q:(if HT.sIx ds.length 0 lo=0/\HT.sIx ds.length ds.length hi=ds.length then some (D.tup ds,mh) else some (D.tup (cutD ds lo hi),mh))=some (d,mh'):=q;have hl:=r.length;split at q
  ·rename_i hw;cases q;exact .inl ⟨a,xs,rfl,s,by rw [← hl];exact hw.1,by rw [← hl];exact hw.2,co H ρ _ Ev.refl rs (.tup s r)⟩
  ·rename_i hw;cases q;exact .inr (.inl ⟨a,xs,rfl,s,by rw [← hl];exact hw,Co.newT rs (Qu r) co⟩)
 | @ref n a h =>
  have q:(match mh[n]? with | some (.lst o)=>some (D.ref mh.length,mh++[.lst (cutD o lo hi)]) | _=>none)=some (d,mh'):=q;split at q
  ·rename_i o eo;cases q;obtain ⟨a',ha,ro⟩:=rs.at eo;rw [h] at ha;cases ha;obtain ⟨xs,sq,r⟩:=ro.read;exact .inr (.inr ⟨a,xs,rfl,sq,Co.newL rs (Qu r) co⟩)
  ·cases q
 | @rol ds a xs s r =>
  cases q;exact .inr (.inr ⟨a,xs,rfl,s.sq,Co.newL rs (Qu r) co⟩)
 | _=>cases q
noncomputable def Ir (m:Option (DM D)):DM (Option Int):=match m with
 | none=>Zr none
 | some m=>m.bnd fun x=>match x with | .int i=>Zr (some i) | _=>Zb
noncomputable def cB (X:Cx) (e:Option Expr) (m:Option (DM D)):Prop:=match e,m with
 | none,none=>True
 | some e,some m=>DE X e m
 | _,_=>False
noncomputable def tDO (K:PySem.W.Frag) (loc:Loc) (mh:MH) (r:Option (Option Int×MH)):TO:=fun σ H Q=>∃ ρ o mh',r=some (o,mh')/\RL K H ρ loc σ/\RS K H ρ mh/\∀ H' ρ',Ev K H ρ H' ρ'->RS K H' ρ' mh'->Q o H'
theorem Aaw {e:Option Expr}{m:Option (DM D)}(h:cB X e m) (loc:Loc) (mh:MH):PO X e (tDO X.K loc mh (Ir m loc mh)):=by
 rintro pins s σ H Q I ⟨ρ,o,mh',q,rl,rs,co⟩;cases e with
 | none =>
  cases m with
  | none =>
   cases q;exact lX pins s σ H Q I (co H ρ Ev.refl rs)
  | some m=>exact h.elim
 | some e =>
  cases m with
  | none=>exact h.elim
  | some m =>
   obtain ⟨x,m1,ea,q⟩:=Ac q;cases x with
   | int i =>
    cases q;refine lY (h loc mh) pins s σ H Q I ⟨ρ,.int i,mh',ea,rl,rs,fun H' ρ' v e' rs' r'=>?_⟩;cases r';exact ⟨i,rfl,co H' ρ' e' rs'⟩
   | non=>cases q
   | bl b=>cases q
   | str z=>cases q
   | tup ds=>cases q
   | ref n=>cases q
   | rol ds=>cases q
   | obj c ks ds=>cases q
   | fn x=>cases q
   | lam=>cases q
noncomputable def dSl (ma:DM D) (ml mu:Option (DM D)):DM D:=ma.bnd fun x=>(Ir ml).bnd fun l=>(Ir mu).bnd fun u=>Zl (slD x l u)
theorem cC {a:Expr}{ma:DM D}{lo hi:Option Expr}{ml mu:Option (DM D)}{p2 pos:Pos}(ha:DE X a ma) (hl:cB X lo ml) (hu:cB X hi mu):DE X (.Subscript a (.Slice lo hi none p2) pos) (dSl ma ml mu):=fun loc mh=>by
 cases ea:ma loc mh with
 | none =>
  have:dSl ma ml mu loc mh=none:=by unfold dSl DM.bnd;rw [ea]
  rw [this];exact Bc
 | some p =>
  obtain ⟨x,m1⟩:=p;cases el:Ir ml loc m1 with
  | none =>
   have:dSl ma ml mu loc mh=none:=by unfold dSl;unfold DM.bnd;rw [ea];dsimp only;rw [el]
   rw [this];exact Bc
  | some p2 =>
   obtain ⟨l,m2⟩:=p2;refine Ar (bI Acq (ha loc mh) (Aaw hl loc m1) (Aaw hu loc m2)) ?_;rintro σ H Q ⟨ρ,d,mh',q,rl,rs,co⟩;obtain ⟨x',m1',ea',q⟩:=Ac q;rw [ea] at ea';cases ea';obtain ⟨l',m2',el',q⟩:=Ac q;rw [el] at el';cases el';obtain ⟨u,m3,eu,q⟩:=Ac q
   exact ⟨ρ,x,m1,ea,rl,rs,fun H1 ρ1 v e1 rs1 r1=>⟨ρ1,l,m2,el,rl.mono e1,rs1,fun H2 ρ2 e2 rs2=>⟨ρ2,u,m3,eu,(rl.mono e1).mono e2,rs2,fun H3 ρ3 e3 rs3 =>
    ⟨ρ3,m3,x,d,mh',q,rs3,(r1.mono e2).mono e3,co.ev (e1.trans (e2.trans e3))⟩⟩⟩⟩
end
end DL
namespace HT
open PySem PySem.Spec PyProof.Rows
section
variable {prog:Program}{w:World}{A:Around}{E:Value->Shared->Prop}{s:Shared}
end
end HT
namespace DL
open PySem PySem.Spec PyProof.Rows L2
section
variable {X:Cx}
noncomputable def Es:List D->MH->Option (D×MH)
 | [.str z],mh=>if z.length<=sizeLine then some (.int z.length,mh) else none
 | [x],mh=>match Dc x mh with | some ds=>some (.int ds.length,mh) | none=>none
 | _,_=>none
theorem Kw {K:PySem.W.Frag}{H:Hp}{ρ:List Addr}{d:D}{xs:List V}(h:RDs K H ρ [d] xs):∃ v,xs=[v]/\RD K H ρ d v:=by
 cases h with
 | cons r t=>cases t;exact ⟨_,rfl,r⟩
theorem Yz:Az X (.builtin "len") (rDs X.K Es):=by
 refine O2 (Qn.or Qo) ?_;rintro xs H Q ⟨ρ,mh,ds,d,mh',q,rs,r,co⟩
 match ds,q with
 | [x],q =>
  obtain ⟨v,rfl,rx⟩:=Kw r;have seq:(match Dc x mh with | some ds=>some (D.int ds.length,mh) | none=>none)=some (d,mh')->∃ p ys,[v]=[.ref p]/\(SqL X.K H p ys\/SqT X.K H p ys)/\Q (.int ys.length) H:=fun q=>by
   split at q
   ·rename_i ds e1;cases q;obtain ⟨p,ys,rfl,hq,r⟩:=Fq rs rx e1;exact ⟨p,ys,rfl,hq,by rw [← r.length];exact co H ρ _ Ev.refl rs (.int _)⟩
   ·cases q
  cases rx with
  | str z =>
   have q:(if z.length<=sizeLine then some (D.int z.length,mh) else none)=some (d,mh'):=q;split at q
   ·rename_i hz;cases q;exact .inr ⟨z,rfl,hz,co H ρ _ Ev.refl rs (.int _)⟩
   ·cases q
  | non=>exact .inl (seq q)
  | bl b=>exact .inl (seq q)
  | int i=>exact .inl (seq q)
  | tup s r=>exact .inl (seq q)
  | ref h=>exact .inl (seq q)
  | rol s r=>exact .inl (seq q)
  | obj n s l r=>exact .inl (seq q)
  | fn h=>exact .inl (seq q)
  | lam h=>exact .inl (seq q)
 | [],q=>cases q
 | _::_::_,q=>simp [Es] at q
noncomputable def Ft:List D->MH->Option (D×MH)
 | [x],mh=>match Dc x mh with | some ds=>some (.tup ds,mh) | none=>none
 | _,_=>none
theorem R5:Az X (.type "tuple") (rDs X.K Ft):=by
 refine O2 Od ?_;rintro xs H Q ⟨ρ,mh,ds,d,mh',q,rs,r,co⟩
 match ds,q with
 | [x],q =>
  obtain ⟨v,rfl,rx⟩:=Kw r;have q:(match Dc x mh with | some ds=>some (D.tup ds,mh) | none=>none)=some (d,mh'):=q;split at q
  ·rename_i ds e1;cases q;obtain ⟨p,ys,rfl,hq,r⟩:=Fq rs rx e1;rcases hq with hq|hq
   ·exact ⟨p,ys,rfl,.inl ⟨hq,Co.newT rs r co⟩⟩
   ·exact ⟨p,ys,rfl,.inr ⟨hq,co H ρ _ Ev.refl rs (.tup hq r)⟩⟩
  ·cases q
 | [],q=>cases q
 | _::_::_,q=>cases q
noncomputable def cD:D->MH->Option String
 | .non,_=>some "NoneType"
 | .bl _,_=>some "bool"
 | .int _,_=>some "int"
 | .str _,_=>some "str"
 | .tup _,_=>some "tuple"
 | .ref n,mh=>match mh[n]? with | some (.lst _)=>some "list" | _=>none
 | .rol _,_=>some "list"
 | .obj ..,_=>none
 | .fn _,_=>none
 | .lam,_=>none
noncomputable def uW (t c:String):Option Bool :=
 if t==c then some true else
 if ["NoneType", "bool", "int", "str", "tuple", "list"].contains t&&["bool", "int", "str", "tuple", "list", "dict"].contains c then some (t == "bool"&&c == "int") else none
theorem Fv {K:PySem.W.Frag}{t c:String}{b:Bool}(ht:t∈["NoneType", "bool", "int", "str", "tuple", "list"]) (hc:c∈["bool", "int", "str", "tuple", "list", "dict"]) (h:uW t c=some b):PySem.W.kitOne K (.type t) (.type c)=some b:=by
 simp only [List.mem_cons,List.mem_nil_iff,or_false] at ht hc;rcases ht with rfl | rfl | rfl | rfl | rfl | rfl <;> rcases hc with rfl | rfl | rfl | rfl | rfl | rfl <;> (first | (have e:b=true:=by (have h':=h;revert h';decide +revert));subst e;kernel_rfl | (have e:b=false:=by (have h':=h;revert h';decide +revert));subst e;kernel_rfl)
end
inductive Src where
 | seq (ds:List D) | lref (n:Nat) | enum (s:Src) | zip (s t:Src)
noncomputable def qR:Nat->List D->List D
 | _,[]=>[]
 | i,d::r=>.tup [.int i,d]::qR (i+1) r
noncomputable def Src.items:Src->MH->List D
 | .seq ds,_=>ds
 | .lref n,mh=>match mh[n]? with | some (.lst o)=>o | _=>[]
 | .enum s,mh=>qR 0 (s.items mh)
 | .zip s t,mh=>List.zipWith (fun a b=>.tup [a,b]) (s.items mh) (t.items mh)
noncomputable def Src.ok:Src->MH->Bool
 | .seq _,_=>true
 | .lref n,mh=>match mh[n]? with | some (.lst _)=>true | _=>false
 | .enum s,mh=>s.ok mh
 | .zip s t,mh=>s.ok mh&&t.ok mh
noncomputable def Src.get (s:Src) (mh:MH) (i:Nat):Option D:=(s.items mh)[i]?
noncomputable def Src.stop (s:Src) (mh:MH) (i:Nat):Bool:=s.ok mh&&decide ((s.items mh).length<=i)
structure JR (K:PySem.W.Frag) (H0:Hp) (ρ0:List Addr) (src:Src) (J:It):Prop where
 go:∀ H ρ mh i d,Ev K H0 ρ0 H ρ->RS K H ρ mh->src.get mh i=some d->J.go i H/\∀ x H',J.yld i H x H'->Ev K H ρ H' ρ/\RS K H' ρ mh/\RD K H' ρ d x
 stop:∀ H ρ mh i,Ev K H0 ρ0 H ρ->RS K H ρ mh->src.stop mh i=true->J.stop i H
noncomputable def tDI (K:PySem.W.Frag) (loc:Loc) (mh:MH) (r:Option (Src×MH)):TI:=fun σ H R=>∃ ρ src mh',r=some (src,mh')/\RL K H ρ loc σ/\RS K H ρ mh/\∀ H' ρ' J,Ev K H ρ H' ρ'->RS K H' ρ' mh'->JR K H' ρ' src J->R J H'
noncomputable def DI (X:Cx) (tg iter:Expr) (m:DM Src):Prop:=∀ loc mh,PI X tg iter (tDI X.K loc mh (m loc mh))
theorem uX {X:Cx}{tg e:Expr}{t t':TI}(h:PI X tg e t) (i:∀ σ H R,t' σ H R->t σ H R):PI X tg e t':=fun pins s σ H R I q=>h pins s σ H R I (i σ H R q)
theorem Dq {X:Cx}{tg e:Expr}{loc:Loc}{mh:MH}:PI X tg e (tDI X.K loc mh none):=fun _ _ _ _ _ _ h=>by obtain ⟨_,_,_,e,_⟩:=h;cases e
section
variable {X:Cx}{tg:Expr}
theorem JR.tup {K:PySem.W.Frag}{H0:Hp}{ρ0:List Addr}{ds:List D}{a:Addr}{xs:List V}(s:SqT K H0 a xs) (r:RDs K H0 ρ0 ds xs):JR K H0 ρ0 (.seq ds) (Itt K a) where
 go:=fun H ρ mh i d e rs q=>by
  obtain ⟨v,e1,r1⟩:=(r.mono e).get q;refine ⟨⟨xs,v,e.tup _ _ s,e1⟩,?_⟩;rintro x H' ⟨h1,h2⟩;subst h1;have:=h2 xs (e.tup _ _ s);rw [e1] at this;cases this;exact ⟨Ev.refl,rs,r1⟩
 stop:=fun H ρ mh i e rs q=>by
  refine ⟨xs,e.tup _ _ s,?_⟩;rw [← r.length];have q:(true&&decide (ds.length<=i))=true:=q;rw [Bool.true_and] at q;exact of_decide_eq_true q
theorem JR.lst {K:PySem.W.Frag}{H0:Hp}{ρ0:List Addr}{n:Nat}{a:Addr}(h:ρ0[n]?=some a):JR K H0 ρ0 (.lref n) (Itl K a) where
 go:=fun H ρ mh i d e rs q=>by
  unfold Src.get Src.items at q;cases eo:mh[n]? with
  | none=>simp only [eo] at q;simp at q
  | some ob =>
   cases ob with
   | dct kvs=>simp only [eo] at q;simp at q
   | plc=>simp only [eo] at q;simp at q
   | lst o =>
   simp only [eo] at q;obtain ⟨a',ha,ro⟩:=rs.at eo;rw [e.at h] at ha;cases ha;obtain ⟨xs,sq,r⟩:=ro.read;obtain ⟨v,e1,r1⟩:=r.get q;refine ⟨⟨xs,v,sq,e1⟩,?_⟩;rintro x H' ⟨h1,h2⟩;subst h1;have:=h2 xs sq;rw [e1] at this;cases this;exact ⟨Ev.refl,rs,r1⟩
 stop:=fun H ρ mh i e rs q=>by
  unfold Src.stop Src.ok Src.items at q;cases eo:mh[n]? with
  | none=>simp only [eo] at q;simp at q
  | some ob =>
   cases ob with
   | dct kvs=>simp only [eo] at q;simp at q
   | plc=>simp only [eo] at q;simp at q
   | lst o =>
   simp only [eo] at q;obtain ⟨a',ha,ro⟩:=rs.at eo;rw [e.at h] at ha;cases ha;obtain ⟨xs,sq,r⟩:=ro.read;exact ⟨xs,sq,by rw [← r.length];simpa using q⟩
theorem JR.rol {K:PySem.W.Frag}{H0:Hp}{ρ0:List Addr}{ds:List D}{a:Addr}{xs:List V}(s:Gh K H0 a xs) (r:RDs K H0 ρ0 ds xs):JR K H0 ρ0 (.seq ds) (Itl K a) where
 go:=fun H ρ mh i d e rs q=>by
  obtain ⟨v,e1,r1⟩:=(r.mono e).get q;have sq:=(e.perm _ _ s).sq;refine ⟨⟨xs,v,sq,e1⟩,?_⟩;rintro x H' ⟨h1,h2⟩;subst h1;have:=h2 xs sq;rw [e1] at this;cases this;exact ⟨Ev.refl,rs,r1⟩
 stop:=fun H ρ mh i e rs q=>by
  refine ⟨xs,(e.perm _ _ s).sq,?_⟩;rw [← r.length];have q:(true&&decide (ds.length<=i))=true:=q;rw [Bool.true_and] at q;exact of_decide_eq_true q
noncomputable def Be (lo:Int) (n:Nat):List D:=(List.range n).map fun (k:Nat)=>D.int (lo+(k:Int))
theorem JR.rng {K:PySem.W.Frag}{H0:Hp}{ρ0:List Addr}{lo:Int}{n:Nat}:JR K H0 ρ0 (.seq (Be lo n)) (Itr lo n) where
 go:=fun H ρ mh i d e rs q=>by
  have q:(Be lo n)[i]?=some d:=q;unfold Be at q;rw [List.getElem?_map] at q
  by_cases hi:i < n
  ·rw [List.getElem?_range hi] at q;cases q;refine ⟨hi,?_⟩;rintro x H' ⟨h1,h2⟩;subst h1;subst h2;exact ⟨Ev.refl,rs,.int _⟩
  ·rw [List.getElem?_eq_none (by simp;omega)] at q;cases q
 stop:=fun H ρ mh i e rs q=>by
  show n<=i;have q:(true&&decide ((Be lo n).length<=i))=true:=q;rw [Bool.true_and] at q;have:=of_decide_eq_true q;unfold Be at this
  simpa using this
noncomputable def srcOf:D->MH->Option Src
 | .tup ds,_=>some (.seq ds)
 | .ref n,mh=>match mh[n]? with | some (.lst _)=>some (.lref n) | _=>none
 | .rol ds,_=>some (.seq ds)
 | _,_=>none
noncomputable def Gj (ma:DM D):DM Src:=ma.bnd fun x=>fun _ mh=>match srcOf x mh with | some s=>some (s,mh) | none=>none
theorem Et {a:Expr}{ma:DM D}(ha:DE X a ma):DI X tg a (Gj ma):=fun loc mh=>by
 cases ea:ma loc mh with
 | none =>
  have:Gj ma loc mh=none:=by unfold Gj DM.bnd;rw [ea]
  rw [this];exact Dq
 | some p =>
  obtain ⟨x,m1⟩:=p;have eq:Gj ma loc mh=(match srcOf x m1 with | some s=>some (s,m1) | none=>none):=by unfold Gj DM.bnd;rw [ea]
  rw [eq];cases x with
  | tup ds =>
   rintro pins s σ H R I ⟨ρ,src,mh',q,rl,rs,co⟩;cases q;refine sV (ha loc mh) pins s σ H R I ⟨ρ,_,_,ea,rl,rs,fun H1 ρ1 v e1 rs1 r1=>?_⟩;cases r1 with
   | tup s r=>exact ⟨_,rfl,⟨_,s⟩,co H1 ρ1 _ e1 rs1 (JR.tup s r)⟩
  | ref n =>
   rintro pins s σ H R I ⟨ρ,src,mh',q,rl,rs,co⟩;cases eo:m1[n]? with
   | none=>simp only [srcOf,eo] at q;cases q
   | some ob =>
    cases ob with
    | dct kvs=>simp only [srcOf,eo] at q;cases q
    | plc=>simp only [srcOf,eo] at q;cases q
    | lst o =>
    simp only [srcOf,eo] at q;cases q;refine W0 (ha loc mh) pins s σ H R I ⟨ρ,_,_,ea,rl,rs,fun H1 ρ1 v e1 rs1 r1=>?_⟩;cases r1 with
    | @ref _ a' h =>
     obtain ⟨a2,ha2,ro⟩:=rs1.at eo;rw [h] at ha2;cases ha2;obtain ⟨xs,sq,r⟩:=ro.read;exact ⟨_,rfl,⟨xs,sq⟩,co H1 ρ1 _ e1 rs1 (JR.lst h)⟩
  | rol ds =>
   rintro pins s σ H R I ⟨ρ,src,mh',q,rl,rs,co⟩;cases q;refine W0 (ha loc mh) pins s σ H R I ⟨ρ,_,_,ea,rl,rs,fun H1 ρ1 v e1 rs1 r1=>?_⟩;cases r1 with
   | rol s r=>exact ⟨_,rfl,⟨_,s.sq⟩,co H1 ρ1 _ e1 rs1 (JR.rol s r)⟩
  | non=>exact Dq
  | bl b=>exact Dq
  | int i=>exact Dq
  | str z=>exact Dq
  | obj c ks ds=>exact Dq
  | fn x=>exact Dq
  | lam=>exact Dq
noncomputable def Ky (ds:List D):Option Src:=match ds with
 | [.int j]=>if -(2 ^ 62)<=j/\j < 2 ^ 62 then some (.seq (Be 0 j.toNat)) else none
 | _=>none
theorem Y0 {ds:List D}{s:Src}(h:Ky ds=some s):∃ j,ds=[.int j]/\-(2 ^ 62)<=j/\j < 2 ^ 62/\s=.seq (Be 0 j.toNat):=by
 unfold Ky at h;split at h
 ·rename_i j;split at h
  ·rename_i hj;cases h;exact ⟨j,rfl,hj.1,hj.2,rfl⟩
  ·cases h
 ·cases h
noncomputable def Oe (f:List D->Option Src) (mr:DM (List D)):DM Src:=mr.bnd fun ds=>match f ds with | some s=>Zr s | none=>Zb
theorem Y4 {f:List D->Option Src}{mr:DM (List D)}{loc:Loc}{mh:MH}{r:Src×MH}(h:Oe f mr loc mh=some r):∃ ds,mr loc mh=some (ds,r.2)/\f ds=some r.1:=by
 obtain ⟨ds,m1,ea,q⟩:=Ac h;cases e:f ds with
 | none=>rw [e] at q;cases q
 | some s=>rw [e] at q;cases q;exact ⟨ds,ea,e⟩
theorem Acr {K:PySem.W.Frag}{H:Hp}{ρ:List Addr}{d e:D}{xs:List V}(h:RDs K H ρ [d,e] xs):∃ v u,xs=[v,u]/\RD K H ρ d v/\RD K H ρ e u:=by
 cases h with
 | cons r t =>
  cases t with
  | cons r2 t=>cases t;exact ⟨_,_,rfl,r,r2⟩
theorem Y5 {a:Expr}{mr:DM (List D)}{p pos:Pos}(hg:Gl X "range") (hm:X.mg "range"=none) (ha:DA X [a] mr) (hs:starEach [a] X.env=[(false,eval a X.env)]):DI X tg (.Call (.Name "range" p) [a] [] pos) (Oe Ky mr):=fun loc mh=>by
 refine uX (Ym hg hm (ha loc mh) hs) ?_;rintro σ H R ⟨ρ,src,mh',q,rl,rs,co⟩;obtain ⟨ds,ea,q⟩:=Y4 q;refine ⟨ρ,ds,mh',ea,rl,rs,fun H1 ρ1 vs e1 rs1 r1=>?_⟩;obtain ⟨j,rfl,h1,h2,e⟩:=Y0 q;obtain ⟨v,rfl,rv⟩:=Kw r1;cases rv;have e:src=.seq (Be 0 j.toNat):=e;subst e;exact ⟨j,rfl,h1,h2,co H1 ρ1 _ e1 rs1 JR.rng⟩
end
inductive Fl where
 | nx | bk | ct | rt (d:D)
noncomputable abbrev SM:=Loc->MH->Option (Fl×Loc×MH)
noncomputable def CoS (K:PySem.W.Frag) (H:Hp) (ρ:List Addr) (f:Fl) (loc':Loc) (mh':MH) (N:Ends):Prop:=match f with
 | .nx=>∀ H' ρ' σ',Ev K H ρ H' ρ'->RS K H' ρ' mh'->RL K H' ρ' loc' σ'->N.nx σ' H'
 | .bk=>∀ H' ρ' σ',Ev K H ρ H' ρ'->RS K H' ρ' mh'->RL K H' ρ' loc' σ'->N.bk σ' H'
 | .ct=>∀ H' ρ' σ',Ev K H ρ H' ρ'->RS K H' ρ' mh'->RL K H' ρ' loc' σ'->N.ct σ' H'
 | .rt d=>∀ H' ρ' v,Ev K H ρ H' ρ'->RS K H' ρ' mh'->RD K H' ρ' d v->N.rt v H'
theorem CoS.ev {K:PySem.W.Frag}{H H1:Hp}{ρ ρ1:List Addr}{f:Fl}{loc':Loc}{mh':MH}{N:Ends}(e:Ev K H ρ H1 ρ1) (c:CoS K H ρ f loc' mh' N):CoS K H1 ρ1 f loc' mh' N:=by
 cases f with
 | nx=>exact fun H' ρ' σ' e' rs r=>c H' ρ' σ' (e.trans e') rs r
 | bk=>exact fun H' ρ' σ' e' rs r=>c H' ρ' σ' (e.trans e') rs r
 | ct=>exact fun H' ρ' σ' e' rs r=>c H' ρ' σ' (e.trans e') rs r
 | rt d=>exact fun H' ρ' σ' e' rs r=>c H' ρ' σ' (e.trans e') rs r
noncomputable def tS (K:PySem.W.Frag) (m:SM):TS:=fun N σ H=>∃ loc mh ρ f loc' mh',m loc mh=some (f,loc',mh')/\RL K H ρ loc σ/\RS K H ρ mh/\CoS K H ρ f loc' mh' N
noncomputable def DS (X:Cx) (st:Stmt) (m:SM):Prop:=PS X st (tS X.K m)
noncomputable def DSs (X:Cx) (sts:List Stmt) (m:SM):Prop:=PSs X sts (tS X.K m)
theorem Eu {X:Cx}{st:Stmt}{t t':TS}(h:PS X st t) (i:∀ N σ H,t' N σ H->t N σ H):PS X st t':=fun pins s σ H N I q=>h pins s σ H N I (i N σ H q)
theorem W8 {X:Cx}{st:List Stmt}{t t':TS}(h:PSs X st t) (i:∀ N σ H,t' N σ H->t N σ H):PSs X st t':=fun pins s σ H N I q=>h pins s σ H N I (i N σ H q)
noncomputable def SM.bad:SM:=fun _ _=>none
theorem Dj {X:Cx}{st:Stmt}:DS X st SM.bad:=fun _ _ _ _ _ _ h=>by obtain ⟨_,_,_,_,_,_,e,_⟩:=h;cases e
noncomputable def tDx (K:PySem.W.Frag) (m:DM D):TE:=fun σ H Q=>∃ loc mh,tD K loc mh (m loc mh) σ H Q
noncomputable def tTx (K:PySem.W.Frag) (m:DM Bool):TT:=fun σ H Q=>∃ loc mh,tDT K loc mh (m loc mh) σ H Q
noncomputable def tIx (K:PySem.W.Frag) (m:DM Src):TI:=fun σ H R=>∃ loc mh,tDI K loc mh (m loc mh) σ H R
theorem DE.x {X:Cx}{e:Expr}{m:DM D}(h:DE X e m):PE X e (tDx X.K m):=fun pins s σ H Q I ⟨loc,mh,q⟩=>h loc mh pins s σ H Q I q
theorem DT.x {X:Cx}{e:Expr}{m:DM Bool}(h:DT X e m):PT X e (tTx X.K m):=fun pins s σ H Q I ⟨loc,mh,q⟩=>h loc mh pins s σ H Q I q
theorem DI.x {X:Cx}{tg e:Expr}{m:DM Src}(h:DI X tg e m):PI X tg e (tIx X.K m):=fun pins s σ H Q I ⟨loc,mh,q⟩=>h loc mh pins s σ H Q I q
section
variable {X:Cx}{st:Stmt}{sts:List Stmt}{m m1 m2:SM}{e:Expr}{me:DM D}{pos:Pos}
noncomputable def Zn:SM:=fun loc mh=>some (.nx,loc,mh)
noncomputable def Ab (m1 m2:SM):SM:=fun loc mh=>match m1 loc mh with
 | some (.nx,l,h)=>m2 l h
 | r=>r
theorem nF:DSs X [] Zn:=by
 refine W8 lC ?_;rintro N σ H ⟨loc,mh,ρ,f,loc',mh',q,rl,rs,co⟩;cases q;exact co H ρ σ Ev.refl rs rl
theorem cF (h1:DS X st m1) (h2:DSs X sts m2):DSs X (st::sts) (Ab m1 m2):=by
 refine W8 (aP h1 h2) ?_;rintro N σ H ⟨loc,mh,ρ,f,loc',mh',q,rl,rs,co⟩;unfold Ab at q;split at q
 ·rename_i l h e1;exact ⟨loc,mh,ρ,.nx,l,h,e1,rl,rs,fun H1 ρ1 σ1 ev1 rs1 rl1=>⟨l,h,ρ1,f,loc',mh',q,rl1,rs1,co.ev ev1⟩⟩
 ·rename_i r hne;refine ⟨loc,mh,ρ,f,loc',mh',q,rl,rs,?_⟩;cases f with
  | nx=>exact absurd q (hne _ _)
  | bk=>exact co
  | ct=>exact co
  | rt d=>exact co
theorem nG:DS X (.Pass pos) Zn:=by
 refine Eu lF ?_;rintro N σ H ⟨loc,mh,ρ,f,loc',mh',q,rl,rs,co⟩;cases q;exact co H ρ σ Ev.refl rs rl
theorem cG:DS X (.Break pos) (fun loc mh=>some (.bk,loc,mh)):=by
 refine Eu aQ ?_;rintro N σ H ⟨loc,mh,ρ,f,loc',mh',q,rl,rs,co⟩;cases q;exact co H ρ σ Ev.refl rs rl
theorem R6:DS X (.Continue pos) (fun loc mh=>some (.ct,loc,mh)):=by
 refine Eu Rr ?_;rintro N σ H ⟨loc,mh,ρ,f,loc',mh',q,rl,rs,co⟩;cases q;exact co H ρ σ Ev.refl rs rl
noncomputable def retS (me:DM D):SM:=fun loc mh=>match me loc mh with | some (d,mh')=>some (.rt d,loc,mh') | none=>none
theorem uY (he:DE X e me):DS X (.Return (some e) pos) (retS me):=by
 refine Eu (sG he.x) ?_;rintro N σ H ⟨loc,mh,ρ,f,loc',mh',q,rl,rs,co⟩;unfold retS at q;split at q
 ·rename_i d h1 ee;cases q;exact ⟨loc,mh,ρ,d,_,ee,rl,rs,co⟩
 ·cases q
theorem nH:DS X (.Return none pos) (fun loc mh=>some (.rt .non,loc,mh)):=by
 refine Eu lH ?_;rintro N σ H ⟨loc,mh,ρ,f,loc',mh',q,rl,rs,co⟩;cases q;exact co H ρ _ Ev.refl rs .non
noncomputable def Ho (me:DM D):SM:=fun loc mh=>match me loc mh with | some (_,mh')=>some (.nx,loc,mh') | none=>none
theorem nJ (he:DE X e me) (hs:swapsWith e none pos.line X.env=pure false):DS X (.Expr e pos) (Ho me):=by
 refine Eu (lG he.x hs) ?_;rintro N σ H ⟨loc,mh,ρ,f,loc',mh',q,rl,rs,co⟩;unfold Ho at q;split at q
 ·rename_i d h1 ee;cases q;exact ⟨loc,mh,ρ,d,_,ee,rl,rs,fun H' ρ' v e' rs' r'=>co H' ρ' σ e' rs' (rl.mono e')⟩
 ·cases q
noncomputable def ifS (t:DM Bool) (m1 m2:SM):SM:=fun loc mh=>match t loc mh with
 | some (k,h)=>if k=true then m1 loc h else m2 loc h
 | none=>none
theorem Aax {c:Expr}{a b:List Stmt}{t:DM Bool}(hc:DT X c t) (ha:DSs X a m1) (hb:DSs X b m2):DS X (.If c a b pos) (ifS t m1 m2):=by
 refine Eu (zP hc.x ha hb) ?_;rintro N σ H ⟨loc,mh,ρ,f,loc',mh',q,rl,rs,co⟩;unfold ifS at q;split at q
 ·rename_i k h ek;refine ⟨loc,mh,ρ,k,h,ek,rl,rs,fun H1 ρ1 e1 rs1=>?_⟩;cases k with
  | true=>exact Ry ⟨loc,h,ρ1,f,loc',mh',by rw [if_pos rfl] at q;exact q,rl.mono e1,rs1,co.ev e1⟩
  | false=>exact Rx ⟨loc,h,ρ1,f,loc',mh',by rw [if_neg Bool.false_ne_true] at q;exact q,rl.mono e1,rs1,co.ev e1⟩
 ·cases q
noncomputable abbrev GM:=D->Loc->MH->Option (Loc×MH)
noncomputable def G4 (ws:List Nat) (σ σ':St):Prop:=σ'.length=σ.length/\∀ i,i ∉ ws->σ'[i]?=σ[i]?
noncomputable def tG (K:PySem.W.Frag) (ws:List Nat) (g:GM):TG:=fun v σ H Q=>∃ d loc mh ρ loc' mh',g d loc mh=some (loc',mh')/\RL K H ρ loc σ/\RS K H ρ mh/\RD K H ρ d v /\
 ∀ H' ρ' σ',Ev K H ρ H' ρ'->RS K H' ρ' mh'->RL K H' ρ' loc' σ'->G4 ws σ σ'->Q σ' H'
noncomputable def DG (X:Cx) (tg:Expr) (ws:List Nat) (g:GM):Prop:=PG X tg (tG X.K ws g)
theorem Vg {tg:Expr}{t t':TG}(h:PG X tg t) (i:∀ v σ H Q,t' v σ H Q->t v σ H Q):PG X tg t':=fun pins s σ H v u Q I r q=>h pins s σ H v u Q I r (i v σ H Q q)
noncomputable def Bp (i:Nat):GM:=fun d loc mh=>some (loc.set i (some d),mh)
theorem G4.set {σ:St}{i:Nat}{o:Option V}:G4 [i] σ (σ.set i o):=⟨List.length_set,fun j hj=>List.getElem?_set_ne (fun e=>hj (by simp [e]))⟩
theorem nM {i:Nat}{x:Str}(hN:X.N.Nodup) (hi:X.N[i]?=some x) (hx:L2.Loc X.env.scope x) (hf:X.fn x=true\/X.env.scope.names.lookup x=some .local):DG X (.Name x pos) [i] (Bp i):=by
 refine Vg (Wz hN hi hx hf) ?_;rintro v σ H Q ⟨d,loc,mh,ρ,loc',mh',q,rl,rs,r,co⟩;cases q;exact co H ρ _ Ev.refl rs (rl.set r) G4.set
noncomputable def Ls:List Nat->List D->Loc->Loc
 | i::is,d::ds,loc=>Ls is ds (loc.set i (some d))
 | _,_,loc=>loc
noncomputable def Iu:List Nat->List V->St->St
 | i::is,d::ds,loc=>Iu is ds (loc.set i (some d))
 | _,_,loc=>loc
noncomputable def gNs:List Nat->TGs
 | []=>zR
 | i::is=>qN (aR i) (gNs is)
theorem cH:∀ (is:List Nat) (vs:List V) (σ:St) (H:Hp) (Q:St->Hp->Prop),vs.length=is.length->Q (Iu is vs σ) H->gNs is vs σ H Q
 | [],[],_,_,_,_,q=>⟨rfl,q⟩
 | [],_::_,_,_,_,h,_=>by simp at h
 | _::_,[],_,_,_,h,_=>by simp at h
 | i::is,v::vs,σ,H,Q,h,q=>⟨v,vs,rfl,cH is vs _ H Q (by simpa using h) q⟩
theorem O3 {K:PySem.W.Frag}{H:Hp}{ρ:List Addr}:∀ (is:List Nat) {ds:List D}{vs:List V}{loc:Loc}{σ:St},RDs K H ρ ds vs->RL K H ρ loc σ->RL K H ρ (Ls is ds loc) (Iu is vs σ)
 | [],_,_,_,_,.nil,rl=>rl
 | [],_,_,_,_,.cons _ _,rl=>rl
 | _::_,_,_,_,_,.nil,rl=>rl
 | i::is,_,_,_,_,.cons r t,rl=>O3 is t (rl.set r)
theorem Ka:∀ (is:List Nat) (vs:List V) (σ:St),G4 is σ (Iu is vs σ)
 | [],[],_=>⟨rfl,fun _ _=>rfl⟩
 | [],_::_,_=>⟨rfl,fun _ _=>rfl⟩
 | _::_,[],_=>⟨rfl,fun _ _=>rfl⟩
 | i::is,v::vs,σ=>by
  obtain ⟨h1,h2⟩:=Ka is vs (σ.set i (some v));refine ⟨h1.trans List.length_set,fun j hj=>?_⟩;have hj':¬ (j=i)/\j ∉ is:=by simpa using hj
  show (Iu is vs (σ.set i (some v)))[j]?=σ[j]?;rw [h2 j hj'.2,List.getElem?_set_ne (fun e=>hj'.1 e.symm)]
noncomputable def R7 (is:List Nat):GM:=fun d loc mh=>match d with
 | .tup ds=>if ds.length=is.length then some (Ls is ds loc,mh) else none
 | _=>none
theorem uZ {es:List Expr}{k:Nat}{is:List Nat}(hc:X.calm=true) (h:PGs X es (gNs is)) (hn:(assignEach es X.env).length=is.length) (hst:(assignEach es X.env).findIdx? (·.1)=none):DG X (.Tuple es k pos) is (R7 is):=by
 refine Vg (sI hc h hn hst) ?_;rintro v σ H Q ⟨d,loc,mh,ρ,loc',mh',q,rl,rs,r,co⟩;cases r with
 | @tup ds a xs s r =>
  have q:(if ds.length=is.length then some (Ls is ds loc,mh) else none)=some (loc',mh'):=q;split at q
  ·rename_i hl;cases q;exact ⟨a,xs,rfl,s,by rw [← r.length];exact hl,cH is xs σ H Q (by rw [← r.length];exact hl) (co H ρ _ Ev.refl rs (O3 is r rl) (Ka is xs σ))⟩
  ·cases q
 | _=>cases q
noncomputable def W9 (o i v:D) (mh:MH):Option MH:=match o,i with
 | .ref n,.int k=>match mh[n]? with
  | some (.lst ds)=>match ixN ds.length k with
   | some j=>some (mh.set n (.lst (ds.set j v)))
   | none=>none
  | _=>none
 | _,_=>none
noncomputable def Lx (mo mi:DM D):GM:=fun v loc mh=>match mo loc mh with
 | some (o,m1)=>match mi loc m1 with
  | some (i,m2)=>match W9 o i v m2 with
   | some m3=>some (loc,m3)
   | none=>none
  | none=>none
 | none=>none
theorem vA {o i:Expr}{mo mi:DM D}(ho:DE X o mo) (hi:DE X i mi) (ha:∀ v,assign (.Subscript o i pos) X.env v=(do
      let ov ← holding [v] (eval o X.env)
      let iv ← holding [v,ov] (eval i X.env)
      standAt pos
      holding [v,ov,iv] (setItem ov iv v)
      release [v,ov,iv] [])):DG X (.Subscript o i pos) [] (Lx mo mi):=by
  refine Vg (sJ ho.x hi.x set_list ha) ?_;rintro v σ H Q ⟨d,loc,mh,ρ,loc',mh',q,rl,rs,r,co⟩;unfold Lx at q;split at q
  · rename_i od m1 eo;split at q
    · rename_i idx m2 ei;split at q
      · rename_i m3 es;cases q;refine ⟨loc,mh,ρ,od,m1,eo,rl,rs,fun H1 ρ1 v1 e1 rs1 r1=>⟨loc,m1,ρ1,idx,m2,ei,rl.mono e1,rs1,fun H2 ρ2 v2 e2 rs2 r2=>?_⟩⟩;have r1':=r1.mono e2;have r':=(r.mono e1).mono e2;cases r1' with
        | @ref n a hn =>
          cases r2 with
          | int k =>
            have es:(match m2[n]? with | some (.lst ds)=>(match ixN ds.length k with | some j=>some (m2.set n (.lst (ds.set j d))) | none=>none) | _=>none)=some mh':=es;split at es
            · rename_i ds em;split at es
              · rename_i j ej;cases es;obtain ⟨a',ha',xs,hx,rx⟩:=rs2.at em;rw [hn] at ha';cases ha';refine ⟨a,xs,k,j,rfl,rfl,hx,by rw [← rx.length];exact ej,?_⟩;exact co _ ρ2 σ ((e1.trans e2).trans (Ev.lst hx)) (rs2.setL hn hx (rx.set r' j)) (((rl.mono e1).mono e2).mono (Ev.lst hx)) ⟨rfl,fun _ _=>rfl⟩
              · cases es
            · cases es
          | _=>cases es
        | _=>cases r2 <;> cases es
      · cases q
    · cases q
  · cases q
noncomputable def Bm (me:DM D) (g:GM):SM:=fun loc mh=>match me loc mh with
 | some (d,h)=>match g d loc h with
  | some (l,h')=>some (.nx,l,h')
  | none=>none
 | none=>none
theorem R8 {ws:List Nat}{g:GM}{N:Ends}{σ:St}{H:Hp}(h:tS X.K (Bm me g) N σ H):sO (tDx X.K me) (tG X.K ws g) N σ H:=by
 obtain ⟨loc,mh,ρ,f,loc',mh',q,rl,rs,co⟩:=h;unfold Bm at q;split at q
 ·rename_i d h1 ee;split at q
  ·rename_i l h2 eg;cases q;exact ⟨loc,mh,ρ,d,h1,ee,rl,rs,fun H1 ρ1 v e1 rs1 r1=>⟨d,loc,h1,ρ1,_,_,eg,rl.mono e1,rs1,r1,fun H2 ρ2 σ2 e2 rs2 rl2 _=>co H2 ρ2 σ2 (e1.trans e2) rs2 rl2⟩⟩
  ·cases q
 ·cases q
theorem Vh {tg:Expr}{ws:List Nat}{g:GM}(he:DE X e me) (hg:DG X tg ws g) (hs:swapsWithSole [tg] e pos.line X.env=pure false) (hw:swappedStores [tg] e X.env=pure none) (h1:(assignEach [tg] X.env).map (·.2)=[assign tg X.env]):DS X (.Assign [tg] e pos) (Bm me g) :=
 Eu (sS he.x hg hs hw h1) fun N σ H h=>R8 h
noncomputable def Kz (src:Src) (g:GM) (body:SM):Nat->Nat->SM
 | 0,i,loc,mh=>if src.stop mh i=true then some (.nx,loc,mh) else none
 | k+1,i,loc,mh=>match src.get mh i with
  | none=>if src.stop mh i=true then some (.nx,loc,mh) else none
  | some d=>match g d loc mh with
   | none=>none
   | some (l1,h1)=>match body l1 h1 with
    | some (.nx,l,h)=>Kz src g body k (i+1) l h
    | some (.ct,l,h)=>Kz src g body k (i+1) l h
    | some (.bk,l,h)=>some (.nx,l,h)
    | some (.rt d,l,h)=>some (.rt d,l,h)
    | none=>none
noncomputable def Qv (mi:DM Src) (g:GM) (body:SM):SM:=fun loc mh=>match mi loc mh with
 | some (src,h)=>Kz src g body (src.items h).length 0 loc h
 | none=>none
theorem vB {tg iter:Expr}{body:List Stmt}{mi:DM Src}{ws:List Nat}{g:GM}{mb:SM}(hp:PassesOwn (model X.prog X.w) X.A X.env X.xe) (hc:X.calm=true) (hi:DI X tg iter mi) (hg:DG X tg ws g) (hb:DSs X body mb)
  (hs:∀ x,foldedSetIterable iter X.env x=pure x):DS X (.For tg iter body [] pos) (Qv mi g mb):=by
 refine Eu (sW hp hc hi.x hg hb hs) ?_;rintro N σ H ⟨loc,mh,ρ,f,loc',mh',q,rl,rs,co⟩;unfold Qv at q;split at q
 ·rename_i src h0 ei;refine ⟨loc,mh,ρ,src,h0,ei,rl,rs,fun H1 ρ1 J e1 rs1 jr=>?_⟩
  refine ⟨fun i k σ H=>∃ ρ loc mh f loc' mh',Ev X.K H1 ρ1 H ρ/\RL X.K H ρ loc σ/\RS X.K H ρ mh/\Kz src g mb k i loc mh=some (f,loc',mh')/\CoS X.K H ρ f loc' mh' N,
   ⟨_,ρ1,loc,h0,f,loc',mh',Ev.refl,rl.mono e1,rs1,q,co.ev e1⟩,?_⟩
  rintro i k σ H ⟨ρ,loc,mh,f,loc',mh',ev,rl,rs,q,co⟩;have stop:(if src.stop mh i=true then some (Fl.nx,loc,mh) else none)=some (f,loc',mh')->J.stop i H/\N.nx σ H:=fun q=>by
   split at q
   ·rename_i hst;cases q;exact ⟨jr.stop H ρ mh i ev rs hst,co H ρ σ Ev.refl rs rl⟩
   ·cases q
  cases k with
  | zero=>exact .inl (stop q)
  | succ k =>
   simp only [Kz] at q;split at q
   ·exact .inl (stop q)
   ·rename_i d ed;obtain ⟨hgo,hyld⟩:=jr.go H ρ mh i d ev rs ed;split at q
    ·cases q
    ·rename_i l1 h1 eg
     refine .inr ⟨hgo,fun σ' H'=>∃ ρ' loc mh f loc' mh',Ev X.K H1 ρ1 H' ρ'/\RL X.K H' ρ' loc σ'/\RS X.K H' ρ' mh/\Kz src g mb k (i+1) loc mh=some (f,loc',mh')/\CoS X.K H' ρ' f loc' mh' N,
      fun σ' H' h=>⟨k,Nat.lt_succ_self _,h⟩,fun x H' hy=>?_⟩
     obtain ⟨ev2,rs2,rd2⟩:=hyld x H' hy;refine ⟨d,loc,mh,ρ,l1,h1,eg,rl.mono ev2,rs2,rd2,fun H3 ρ3 σ3 ev3 rs3 rl3 _=>?_⟩;split at q
     ·rename_i l h eb;exact ⟨l1,h1,ρ3,.nx,l,h,eb,rl3,rs3,fun H4 ρ4 σ4 ev4 rs4 rl4=>⟨ρ4,l,h,f,loc',mh',ev.trans (ev2.trans (ev3.trans ev4)),rl4,rs4,q,co.ev (ev2.trans (ev3.trans ev4))⟩⟩
     ·rename_i l h eb;exact ⟨l1,h1,ρ3,.ct,l,h,eb,rl3,rs3,fun H4 ρ4 σ4 ev4 rs4 rl4=>⟨ρ4,l,h,f,loc',mh',ev.trans (ev2.trans (ev3.trans ev4)),rl4,rs4,q,co.ev (ev2.trans (ev3.trans ev4))⟩⟩
     ·rename_i l h eb;cases q;exact ⟨l1,h1,ρ3,.bk,_,_,eb,rl3,rs3,fun H4 ρ4 σ4 ev4 rs4 rl4=>co H4 ρ4 σ4 (ev2.trans (ev3.trans ev4)) rs4 rl4⟩
     ·rename_i d' l h eb;cases q;exact ⟨l1,h1,ρ3,.rt d',_,_,eb,rl3,rs3,fun H4 ρ4 v4 ev4 rs4 r4=>co H4 ρ4 v4 (ev2.trans (ev3.trans ev4)) rs4 r4⟩
     ·cases q
 ·cases q
end
section
variable {X:Cx}{pos:Pos}
end
noncomputable def Qw (cs:List (Option Nat)) (loc:Loc):Loc:=cs.map fun o=>match o with | some j=>(match loc[j]? with | some d=>d | none=>none) | none=>none
noncomputable def Og (cs:List (Option Nat)) (σ:St):St:=cs.map fun o=>match o with | some j=>(match σ[j]? with | some d=>d | none=>none) | none=>none
theorem vC {K:PySem.W.Frag}{H:Hp}{ρ:List Addr}{loc:Loc}{σ:St}(cs:List (Option Nat)) (h:RL K H ρ loc σ):RL K H ρ (Qw cs loc) (Og cs σ):=by
 refine ⟨by unfold Qw Og;rw [List.length_map,List.length_map],fun i d e=>?_⟩;unfold Qw at e;unfold Og;rw [List.getElem?_map] at e ⊢;cases q:cs[i]? with
 | none=>rw [q] at e;cases e
 | some o =>
  rw [q] at e;cases o with
  | none=>simp at e
  | some j =>
   simp only [Option.map_some,Option.some.injEq] at e;cases ej:loc[j]? with
   | none=>rw [ej] at e;cases e
   | some d' =>
    rw [ej] at e;have e:d'=some d:=e;subst e;obtain ⟨v,e1,r⟩:=h.2 j d ej;exact ⟨v,by simp only [Option.map_some,e1],r⟩
structure CapOk (X:Cx) (N':List Str) (scope:Scope) (cs:List (Option Nat)):Prop where
 len:N'.length=cs.length
 cap:∀ (i:Nat) (x:Str) (j:Nat),N'[i]?=some x->cs[i]?=some (some j)->scope.names.lookup x=some .free/\X.N[j]?=some x
theorem CapOk.to {X:Cx}{N':List Str}{scope:Scope}{cs:List (Option Nat)}(h:CapOk X N' scope cs) (σ:St):Cap X N' scope σ (Og cs σ):=by
 refine ⟨by unfold Og;rw [List.length_map];exact h.len.symm,fun i x v e1 e2=>?_⟩;unfold Og at e2;rw [List.getElem?_map] at e2;cases q:cs[i]? with
 | none=>rw [q] at e2;cases e2
 | some o =>
  rw [q] at e2;cases o with
  | none=>simp at e2
  | some j =>
   obtain ⟨h1,h2⟩:=h.cap i x j e1 q;refine ⟨h1,j,h2,?_⟩;simp only [Option.map_some,Option.some.injEq] at e2;cases ej:σ[j]? with
   | none=>rw [ej] at e2;cases e2
   | some d'=>rw [ej] at e2;have e2:d'=some v:=e2;rw [e2]
theorem nO {cs:List (Option Nat)}{ws:List Nat}{σ σ2:St}(hw:∀ i∈ws,∀ j,cs[i]?≠some (some j)) (h:G4 ws (Og cs σ) σ2):Kept (Og cs σ) σ2:=by
 refine ⟨h.1,fun i v e=>?_⟩;rw [h.2 i fun hi=>?_]
 ·exact e
 ·unfold Og at e;rw [List.getElem?_map] at e;cases q:cs[i]? with
  | none=>rw [q] at e;cases e
  | some o =>
   cases o with
   | none=>rw [q] at e;simp at e
   | some j=>exact hw i hi j q
noncomputable def Hq (src:Src) (g:GM) (tc:DM Bool) (me:DM D) (loc:Loc):Nat->Nat->List D->MH->Option (List D×MH)
 | 0,i,acc,mh=>if src.stop mh i=true then some (acc,mh) else none
 | k+1,i,acc,mh=>match src.get mh i with
  | none=>if src.stop mh i=true then some (acc,mh) else none
  | some d=>match g d loc mh with
   | none=>none
   | some (l1,h1)=>match tc l1 h1 with
    | none=>none
    | some (c,h2)=>if c=true then (match me l1 h2 with
      | some (y,h3)=>if acc.length < sizeLine then Hq src g tc me loc k (i+1) (acc++[y]) h3 else none
      | none=>none) else Hq src g tc me loc k (i+1) acc h2
noncomputable def Dz (mi:DM Src) (cs:List (Option Nat)) (g:GM) (tc:DM Bool) (me:DM D):DM D:=fun loc mh=>match mi loc mh with
 | some (src,h)=>match Hq src g tc me (Qw cs loc) (src.items h).length 0 [] h with
  | some (ds,h')=>some (.ref h'.length,h'++[.lst ds])
  | none=>none
 | none=>none
section
variable {X:Cx}{N':List Str}{scope:Scope}{cs:List (Option Nat)}{ws:List Nat}{mi:DM Src}{g:GM}{tc:DM Bool}{me:DM D}{elt target iter:Expr}{ifs:List Expr}{pos:Pos}
theorem R9 (hcap:CapOk X N' scope cs) (hw:∀ i∈ws,∀ j,cs[i]?≠some (some j)) {σ:St}{H:Hp}{Q:VK}(h:tDx X.K (Dz mi cs g tc me) σ H Q) :
  bN X N' scope (tIx X.K mi) (tG X.K ws g) (tTx X.K tc) (tDx X.K me) σ H Q:=by
 obtain ⟨loc,mh,ρ,d,mh',q,rl,rs,co⟩:=h;unfold Dz at q;split at q
 ·rename_i src h0 ei;split at q
  ·rename_i ds h1 ec;cases q;refine ⟨loc,mh,ρ,src,h0,ei,rl,rs,fun H1 ρ1 J e1 rs1 jr=>?_⟩;refine ⟨Og cs σ,hcap.to σ,fun i k acc H=>∃ ρ accD mh,Ev X.K H1 ρ1 H ρ/\RS X.K H ρ mh/\RDs X.K H ρ accD acc/\Hq src g tc me (Qw cs loc) k i accD mh=some (ds,h1),⟨_,ρ1,[],h0,Ev.refl,rs1,.nil,ec⟩,?_⟩;have co1:=co.ev e1;have rl1:=vC cs (rl.mono e1);rintro i k acc H ⟨ρ,accD,mh,ev,rs,ra,q⟩;have stop:(if src.stop mh i=true then some (accD,mh) else none)=some (ds,h1)->J.stop i H/\∀ p,H p=none->Q (.ref p) (upd H p (.lst acc)):=fun q=>by
    split at q
    ·rename_i hst;cases q;exact ⟨jr.stop H ρ _ i ev rs hst,Co.newL rs ra (co1.ev ev)⟩
    ·cases q
   cases k with
   | zero=>exact .inl (stop q)
   | succ k =>
    simp only [Hq] at q;split at q
    ·exact .inl (stop q)
    ·rename_i d ed;obtain ⟨hgo,hyld⟩:=jr.go H ρ mh i d ev rs ed;split at q
     ·cases q
     ·rename_i l1 h2 eg;refine .inr ⟨hgo,fun acc' H'=>∃ ρ accD mh,Ev X.K H1 ρ1 H' ρ/\RS X.K H' ρ mh/\RDs X.K H' ρ accD acc'/\Hq src g tc me (Qw cs loc) k (i+1) accD mh=some (ds,h1),fun acc' H' h=>⟨k,Nat.lt_succ_self _,h⟩,fun x H' hy=>?_⟩;obtain ⟨ev2,rs2,rd2⟩:=hyld x H' hy;refine ⟨d,Qw cs loc,mh,ρ,l1,h2,eg,rl1.mono (ev.trans ev2),rs2,rd2,fun H3 ρ3 σ3 ev3 rs3 rl3 kb=>⟨nO hw kb,?_⟩⟩;split at q
      ·cases q
      ·rename_i c h3 et;refine ⟨l1,h2,ρ3,c,h3,et,rl3,rs3,fun H4 ρ4 ev4 rs4=>?_⟩;have evA:=ev2.trans (ev3.trans ev4);cases c with
       | false =>
        rw [if_neg Bool.false_ne_true] at q;exact Rx ⟨ρ4,accD,h3,ev.trans evA,rs4,ra.mono evA,q⟩
       | true =>
        rw [if_pos rfl] at q;split at q
        ·rename_i y h4 ey;split at q
         ·rename_i hz;refine Ry ⟨by rw [← ra.length];exact hz,l1,h3,ρ4,y,h4,ey,rl3.mono ev4,rs4,fun H5 ρ5 v ev5 rs5 r5=>⟨ρ5,accD++[y],h4,ev.trans (evA.trans ev5),rs5,(ra.mono (evA.trans ev5)).append (.cons r5 .nil),q⟩⟩
         ·cases q
        ·cases q
  ·cases q
 ·cases q
noncomputable def DIf (X:Cx) (ifs:List Expr) (m:DM Bool):Prop:=PIf X ifs (tTx X.K m)
theorem nP:DIf X [] (Zr true):=by
 rintro pins s σ H Q I ⟨loc,mh,ρ,b,mh',q,rl,rs,co⟩;cases q;exact mH pins s σ H Q I (co H ρ Ev.refl rs)
theorem nQ {c:Expr}{m:DM Bool}(h:DT X c m):DIf X [c] m:=mJ h.x
theorem nR (hc:X.calm=true) (S:CompOk X scope) (hcap:CapOk X N' scope cs) (hw:∀ i∈ws,∀ j,cs[i]?≠some (some j)) (hit:DI X target iter mi)
  (hg:∀ pins C cells s₀ H₀ fp,DG (Br X pins N' scope C cells s₀ H₀ fp) target ws g)
  (hi:∀ pins C cells s₀ H₀ fp,DIf (Br X pins N' scope C cells s₀ H₀ fp) ifs tc)
  (he:∀ pins C cells s₀ H₀ fp,DE (Br X pins N' scope C cells s₀ H₀ fp) elt me)
  (hs:∀ x,foldedSetIterable iter X.env x=pure x):DE X (.ListComp elt [⟨target,iter,ifs,0⟩] scope pos) (Dz mi cs g tc me):=fun loc mh =>
 Ar (mK (N':=N') (g:=tG X.K ws g) (tc:=tTx X.K tc) (te:=tDx X.K me) hc S hit.x (fun p C c s h f=>hg p C c s h f) (fun p C c s h f=>hi p C c s h f) (fun p C c s h f=>(he p C c s h f).x) hs) fun σ H Q h=>R9 hcap hw ⟨loc,mh,h⟩
theorem Vi {y:Str}{py spos:Pos}{wy:List Nat}{gy:GM}(hc:X.calm=true) (S:CompOk X scope) (hcap:CapOk X N' scope cs) (hw:∀ i∈ws,∀ j,cs[i]?≠some (some j)) (hit:DI X target iter mi)
  (hg:∀ pins C cells s₀ H₀ fp,DG (Br X pins N' scope C cells s₀ H₀ fp) target ws g)
  (hi:∀ pins C cells s₀ H₀ fp,DIf (Br X pins N' scope C cells s₀ H₀ fp) ifs tc)
  (he:∀ pins C cells s₀ H₀ fp,DE (Br X pins N' scope C cells s₀ H₀ fp) elt me) (hgy:DG X (.Name y py) wy gy)
  (hsw:swapsWith (.ListComp elt [⟨target,iter,ifs,0⟩] scope pos) (some (.Name y py)) spos.line X.env=pure true)
  (hs:∀ x,foldedSetIterable iter X.env x=pure x):DS X (.Assign [.Name y py] (.ListComp elt [⟨target,iter,ifs,0⟩] scope pos) spos) (Bm (Dz mi cs g tc me) gy) :=
 Eu (Vd (N':=N') (g:=tG X.K ws g) (tc:=tTx X.K tc) (te:=tDx X.K me) hc S hit.x (fun p C c s h f=>hg p C c s h f) (fun p C c s h f=>hi p C c s h f) (fun p C c s h f=>(he p C c s h f).x) hgy hsw hs) fun N σ H h=>R9 hcap hw (R8 h)
end
noncomputable def spD (K:PySem.W.Frag) (n:Nat) (f:List D->MH->Option (D×MH)):Sp:=fun vs H Q _=>vs.length=n/\rDs K f vs H Q
section
variable {X:Cx}
theorem nT {CX:CXT}{k:Nat}{fa:Addr}{fd:FuncData}{ps:List Str}{f:List D->MH->Option (D×MH)}{x:Str}{p pos:Pos}{a:Expr}{es:List Expr}{mr:DM (List D)}{E:XK}
  (F:FnOk X.prog X.w X.K X.mg X.base CX k fa fd ps (spD X.K ps.length f)) (hr:Room k X.A) (hg:Gl X x) (hm:X.mg x=some (.ref fa)) (hk:PySem.W.keepIn X.K (.ref fa)=true) (hb:Binds X.K fd ps []) (hx:Cq CX X E)
  (ha:DA X (a::es) mr) (hf:∀ ds mh r,f ds mh=some r->ds.length=ps.length) (hdb:(x==("__debug__":Str))=false) (he:starEach (a::es) X.env=(false,eval a X.env)::starEach es X.env) (hpl:(backTo pos (starEach es X.env)).any (·.1)=false) :
  DE X (.Call (.Name x p) (a::es) [] pos) (mr.bnd fun ds=>Zl (f ds)):=fun loc mh=>by
 refine Ar (lR F hr hg hm hk hb .nil hx (ha loc mh) hdb he hpl) ?_;rintro σ H Q ⟨ρ,d,mh',q,rl,rs,co⟩;obtain ⟨ds,m1,ea,q⟩:=Ac q;refine ⟨ρ,ds,m1,ea,rl,rs,fun H1 ρ1 vs e1 rs1 r1=>?_⟩;show spD X.K ps.length f (vs++[]) H1 Q E;rw [List.append_nil];exact ⟨by rw [← r1.length];exact hf _ _ _ q,ρ1,m1,ds,d,mh',q,rs1,r1,co.ev e1⟩
theorem cI {CX:CXT}{k:Nat}{fa:Addr}{fd:FuncData}{f:List D->MH->Option (D×MH)}{x:Str}{p pos:Pos}{E:XK}
  (F:FnOk X.prog X.w X.K X.mg X.base CX k fa fd [] (spD X.K 0 f)) (hr:Room k X.A) (hg:Gl X x) (hm:X.mg x=some (.ref fa)) (hk:PySem.W.keepIn X.K (.ref fa)=true) (hb:Binds X.K fd [] []) (hx:Cq CX X E) (hdb:(x==("__debug__":Str))=false) :
  DE X (.Call (.Name x p) [] [] pos) (Zl (f [])):=fun loc mh=>by
 refine Ar (bD F hr hg hm hk hb .nil hx hdb) ?_;rintro σ H Q ⟨ρ,d,mh',q,rl,rs,co⟩;exact ⟨rfl,ρ,mh,[],d,mh',q,rs,.nil,co⟩
noncomputable def Sd (c:String) (x:D) (mh:MH):Option (D×MH):=match cD x mh with
 | some t=>match uW t c with
  | some b=>some (.bl b,mh)
  | none=>none
 | none=>none
theorem cJ {c:String}(hc:c∈["bool", "int", "str", "tuple", "list", "dict"]):Az X (.builtin "isinstance") (fun xs H Q=>∃ v,xs=[v,.ty c]/\rD1 X.K (Sd c) v H Q):=by
 rintro pins s σ H xs us Q I r ⟨v,e,ρ,mh,dx,d,mh',q,rs,rd,co⟩;subst e;obtain ⟨u,w',rfl,r1,r2⟩:=Vals.two r;cases (show w'=Value.type c from r2);unfold Sd at q;split at q
 ·rename_i t et;split at q
  ·rename_i b eb;cases q;have fin:∀ tk,EP X pins σ Q (.bool b) { s with toks:=tk }:=fun tk=>⟨.bl b,H,I.tok tk,rfl,co H ρ _ Ev.refl rs (.bl b)⟩
   cases rd with
   | non=>cases et;cases (show u=Value.none from r1);exact PySem.W.kia_one PySem.W.kitx_none I.kIn True.intro (Fv (by decide) hc eb) (fun z=>nomatch z) fin
   | bl y=>cases et;cases (show u=Value.bool y from r1);exact PySem.W.kia_one PySem.W.kitx_bool I.kIn True.intro (Fv (by decide) hc eb) (fun z=>nomatch z) fin
   | int i=>cases et;obtain ⟨t,q⟩:=(show ∃ t,u=Value.int i t from r1);cases q;exact PySem.W.kia_one PySem.W.kitx_int I.kIn True.intro (Fv (by decide) hc eb) (fun z=>nomatch z) fin
   | str y=>cases et;obtain ⟨t,q⟩:=(show ∃ t,u=Value.str y t from r1);cases q;exact PySem.W.kia_one PySem.W.kitx_str I.kIn True.intro (Fv (by decide) hc eb) (fun z=>nomatch z) fin
   | @tup ds a xs sq r =>
    cases et;cases (show u=Value.ref a from r1);obtain ⟨its,_,⟨o,h1,h2,_⟩,_⟩:=I.tuple sq;exact PySem.W.kia_one PySem.W.kitx_tuple I.kIn ⟨o,h1,h2⟩ (Fv (by decide) hc eb) (fun z=>nomatch z) fin
   | obj n s l r=>cases et
   | fn h=>cases et
   | lam h=>cases et
   | @rol ds a xs sq r =>
    cases et;cases (show u=Value.ref a from r1);obtain ⟨its,_,⟨ob,n',h1,h2,_⟩,_⟩:=I.list sq.sq;exact PySem.W.kia_one PySem.W.kitx_list I.kIn ⟨ob,h1,h2⟩ (Fv (by decide) hc eb) (fun z=>nomatch z) fin
   | @ref n a h =>
    have et:(match mh[n]? with | some (.lst _)=>some "list" | _=>none)=some t:=et;split at et
    ·rename_i o eo;cases et;cases (show u=Value.ref a from r1);obtain ⟨a',ha,ro⟩:=rs.at eo;rw [h] at ha;cases ha;obtain ⟨xs,sq,_⟩:=ro.read;obtain ⟨its,_,⟨ob,n',h1,h2,_⟩,_⟩:=I.list sq;exact PySem.W.kia_one PySem.W.kitx_list I.kIn ⟨ob,h1,h2⟩ (Fv (by decide) hc eb) (fun z=>nomatch z) fin
    ·cases et
  ·cases q
 ·cases q
theorem vD {c:Str}{T:String}{p p2 pos:Pos}{a:Expr}{ma:DM D}(hT:T∈["bool", "int", "str", "tuple", "list", "dict"]) (hg:Gl X "isinstance") (hm:X.mg "isinstance"=none) (hg2:Gl X c) (hm2:X.mg c=none) (hv2:bootBuiltins c=some (.type T)) (hn2:c ≠ "__name__") (hd2:(c==("__debug__":Str))=false) (ha:DE X a ma)
  (he:starEach (a::[.Name c p2]) X.env=(false,eval a X.env)::starEach [.Name c p2] X.env):DE X (.Call (.Name "isinstance" p) [a,.Name c p2] [] pos) (ma.bnd fun x=>Zl (Sd T x)):=fun loc mh=>by
 refine Ar (Io (cJ hT) hg hm boot_isinstance (Cp (ha loc mh) (Cp (lA hg2 hm2 hv2 (v:=.ty T) rfl hn2 hd2) Ef) he) (by decide) (by decide) he) ?_;rintro σ H Q ⟨ρ,d,mh',q,rl,rs,co⟩;obtain ⟨x,m1,ea,q⟩:=Ac q;exact ⟨ρ,x,m1,ea,rl,rs,fun H1 ρ1 v e1 rs1 r1=>⟨v,rfl,ρ1,m1,x,d,mh',q,rs1,r1,co.ev e1⟩⟩
end
section
variable {X:Cx}{a b c e o:Expr}{ma mb mc mo:DM D}{pos:Pos}
noncomputable def Gr (f f':D->D->MH->Option (D×MH)) (ma mb mc:DM D):DM D:=ma.bnd fun x=>mb.bnd fun y=>(Ag (Zl (f x y))).bnd fun k=>if k=true then mc.bnd fun z=>Zl (f' y z) else Zr (.bl false)
theorem O4 {f f':D->D->MH->Option (D×MH)}{σ:St}{H:Hp}{Q:VK}(h:tDx X.K (Gr f f' ma mb mc) σ H Q):U0 (rD X.K f) (rD X.K f') (tDx X.K ma) (tDx X.K mb) (tDx X.K mc) σ H Q:=by
 obtain ⟨loc,mh,ρ,d,mh',q,rl,rs,co⟩:=h;obtain ⟨x,m1,ea,q⟩:=Ac q;obtain ⟨y,m2,eb,q⟩:=Ac q;obtain ⟨k,m3,ek,q⟩:=Ac q;have ek:=Cr ek;refine ⟨loc,mh,ρ,x,m1,ea,rl,rs,fun H1 ρ1 v1 e1 rs1 r1=>⟨loc,m1,ρ1,y,m2,eb,rl.mono e1,rs1,fun H2 ρ2 v2 e2 rs2 r2=>⟨ρ2,m2,x,y,.bl k,m3,ek,rs2,r1.mono e2,r2,fun H3 ρ3 v3 e3 rs3 r3=>?_⟩⟩⟩;cases r3;refine ⟨k,rfl,?_⟩;cases k with
 | true =>
  rw [if_pos rfl] at q;obtain ⟨z,m4,ec,q⟩:=Ac q;exact Ry ⟨loc,m3,ρ3,z,m4,ec,((rl.mono e1).mono e2).mono e3,rs3,fun H4 ρ4 v4 e4 rs4 r4=>⟨ρ4,m4,y,z,d,mh',q,rs4,(r2.mono e3).mono e4,r4,co.ev (e1.trans (e2.trans (e3.trans e4)))⟩⟩
 | false =>
  rw [if_neg Bool.false_ne_true] at q;cases q;exact Rx (co H3 ρ3 _ (e1.trans (e2.trans e3)) rs3 (.bl false))
theorem cL {op op':CmpOp}{f f':D->D->MH->Option (D×MH)}(ho:OpR X (compareOp op) (rD X.K f)) (ho':OpR X (compareOp op') (rD X.K f')) (hm:lastMarks [op,op'] [b,c]=false) (ha:DE X a ma) (hb:DE X b mb) (hc:DE X c mc) :
  DE X (.Compare a [op,op'] [b,c] pos) (Gr f f' ma mb mc):=fun loc mh=>Ar (aY ho ho' ha.x hb.x hc.x hm) fun σ H Q h=>O4 ⟨loc,mh,h⟩
theorem cM {op op':CmpOp}{f f':D->D->MH->Option (D×MH)}(ho:OpR X (compareOp op) (rD X.K f)) (ho':OpR X (compareOp op') (rD X.K f')) (hm:lastMarks [op,op'] [b,c]=false) (ha:DE X a ma) (hb:DE X b mb) (hc:DE X c mc) :
  DT X (.Compare a [op,op'] [b,c] pos) (Ag (Gr f f' ma mb mc)):=by
 refine fun loc mh=>Jq (aZ ho ho' ha.x hb.x hc.x hm) ?_
 rintro σ H Q ⟨ρ,k,mh',q,rl,rs,co⟩;have q:=Cr q;exact O4 ⟨loc,mh,ρ,_,_,q,rl,rs,fun H' ρ' v e' rs' r'=>by cases r';exact ⟨k,rfl,co H' ρ' e' rs'⟩⟩
noncomputable def rDM (K:PySem.W.Frag) (f:D->List D->MH->Option (D×MH)):V->List V->Hp->VK->Prop:=fun x xs H Q=>∃ ρ mh dx ds d mh',f dx ds mh=some (d,mh')/\RS K H ρ mh/\RD K H ρ dx x/\RDs K H ρ ds xs/\Co K H ρ mh' d Q
noncomputable def Y6 (T:String) (x:D) (mh:MH):Bool:=match x with
 | .str _=>T == "str"
 | .int _=>T == "int"
 | .ref n=>T == "list"&&(match mh[n]? with | some (.lst _)=>true | _=>false)
 | .tup _=>T == "tuple"
 | _=>false
theorem cN {K:PySem.W.Frag}{H:Hp}{ρ:List Addr}{mh:MH}{T:String}{x:D}{v:V}(rs:RS K H ρ mh) (r:RD K H ρ x v) (h:Y6 T x mh=true):tyV K T v H:=by
 cases r with
 | str z=>exact eq_of_beq h
 | int i=>exact eq_of_beq h
 | @ref n a hn =>
  have h:(T == "list"&&(match mh[n]? with | some (.lst _)=>true | _=>false))=true:=h;rw [Bool.and_eq_true] at h;obtain ⟨o,eo⟩:∃ o,mh[n]?=some (.lst o):=by
   have h:=h.2;split at h
   ·exact ⟨_,‹_›⟩
   ·cases h
  obtain ⟨a',ha,ro⟩:=rs.at eo;rw [hn] at ha;cases ha;obtain ⟨xs,sq,_⟩:=ro.read;exact .inl ⟨eq_of_beq h.1,xs,sq⟩
 | tup s r=>exact .inr (.inl ⟨eq_of_beq h,_,s⟩)
 | _=>cases h
noncomputable def Cu (T:String) (f:D->List D->MH->Option (D×MH)) (mo:DM D) (mr:DM (List D)):DM D:=mo.bnd fun x=>fun loc mh=>if Y6 T x mh=true then (mr.bnd fun ds=>Zl (f x ds)) loc mh else none
theorem Kc {T id:String}{name:Str}{apos:Pos}{es:List Expr}{mr:DM (List D)}{f:D->List D->MH->Option (D×MH)}(pa:PlainAttrs T) (slot:Slot T name id) (hty:typeOf (.builtin id)=pure (.type "method_descriptor")) (hm:MtR X id (rDM X.K f)) (ho:DE X o mo) (ha:DA X (a::es) mr)
  (hbase:attributeBase o name X.env (eval o X.env)=eval o X.env)
  (hfew:((backTo pos (starEach (a::es) X.env)).all (fun x=>!x.1)&&(backToKw pos (keywordEach [] X.env)).all (fun x=>x.1.isSome)
   && decide ((a::es).length+([]:List Keyword).length+(if ([]:List Keyword).isEmpty then 0 else 1) < 30))=true)
  (hline:(apos.endLine==pos.line)=true) (hs:starEach (a::es) X.env=(false,eval a X.env)::starEach es X.env) (hplain:(backTo pos (starEach es X.env)).any (·.1)=false) :
  DE X (.Call (.Attribute o name apos) (a::es) [] pos) (Cu T f mo mr):=fun loc mh=>by
 cases eo:mo loc mh with
 | none =>
  have:Cu T f mo mr loc mh=none:=by unfold Cu DM.bnd;rw [eo]
  rw [this];exact Bc
 | some p =>
  obtain ⟨x,m1⟩:=p;refine Ar (Aal pa slot hty hm (ho loc mh) (ha loc m1) hbase hfew hline hs hplain) ?_;rintro σ H Q ⟨ρ,d,mh',q,rl,rs,co⟩;obtain ⟨x',m1',eo',q⟩:=Ac q;rw [eo] at eo';cases eo';split at q
  ·rename_i ht;obtain ⟨ds,m2,er,q⟩:=Ac q;exact ⟨ρ,x,m1,eo,rl,rs,fun H1 ρ1 v e1 rs1 r1=>⟨cN rs1 r1 ht,ρ1,ds,m2,er,rl.mono e1,rs1,fun H2 ρ2 vs e2 rs2 r2=>⟨ρ2,m2,x,ds,d,mh',q,rs2,r1.mono e2,r2,co.ev (e1.trans e2)⟩⟩⟩
  ·cases q
theorem cO {T id:String}{name:Str}{apos:Pos}{f:D->List D->MH->Option (D×MH)}(pa:PlainAttrs T) (slot:Slot T name id) (hty:typeOf (.builtin id)=pure (.type "method_descriptor")) (hm:MtR X id (rDM X.K f)) (ho:DE X o mo)
  (hbase:attributeBase o name X.env (eval o X.env)=eval o X.env) (hline:(apos.endLine==pos.line)=true):DE X (.Call (.Attribute o name apos) [] [] pos) (Cu T f mo (Zr [])):=fun loc mh=>by
 refine Ar (uE pa slot hty hm (ho loc mh) hbase hline) ?_;rintro σ H Q ⟨ρ,d,mh',q,rl,rs,co⟩;obtain ⟨x,m1,eo,q⟩:=Ac q;split at q
 ·rename_i ht;exact ⟨ρ,x,m1,eo,rl,rs,fun H1 ρ1 v e1 rs1 r1=>⟨cN rs1 r1 ht,ρ1,m1,x,[],d,mh',q,rs1,r1,.nil,co.ev e1⟩⟩
 ·cases q
theorem Qx {id:String}{r r':V->List V->Hp->VK->Prop}(h:MtR X id r) (i:∀ x xs H Q,r' x xs H Q->r x xs H Q):MtR X id r':=fun pins s σ H x xs v us Q I rx rs q=>h pins s σ H x xs v us Q I rx rs (i x xs H Q q)
noncomputable def En:D->List D->MH->Option (D×MH)
 | .ref n,[y],mh=>match mh[n]? with
  | some (.lst ds)=>if ds.length < sizeLine then some (.non,mh.set n (.lst (ds++[y]))) else none
  | _=>none
 | _,_,_=>none
theorem Vj:MtR X "list.append" (rDM X.K En):=by
 refine Qx Ys ?_;rintro x xs H Q ⟨ρ,mh,dx,ds,d,mh',q,rs,rx,r,co⟩
 match ds,q with
 | [y],q =>
  obtain ⟨v,rfl,rv⟩:=Kw r;cases rx with
  | @ref n a hn =>
   have q:(match mh[n]? with | some (.lst ds)=>if ds.length < sizeLine then some (D.non,mh.set n (.lst (ds++[y]))) else none | _=>none)=some (d,mh'):=q;split at q
   ·rename_i ds em;split at q
    ·rename_i hz;cases q;obtain ⟨a',ha,us,hu,ru⟩:=rs.at em;rw [hn] at ha;cases ha;exact ⟨a,us,v,rfl,rfl,hu,by rw [← ru.length];exact hz,co _ ρ _ (Ev.lst hu) (rs.setL hn hu (ru.append (.cons rv .nil))) .non⟩
    ·cases q
   ·cases q
  | _=>cases q
 | [],q=>cases dx <;> cases q
 | _::_::_,q=>cases dx <;> cases q
noncomputable def Aay:D->MH->Option (D×MH)
 | .int i,mh=>some (.int (-i),mh)
 | _,_=>none
theorem nU:UnR X (unaryOp .USub) (rD1 X.K Aay):=by
 rintro pins s σ H x v Q I rx ⟨ρ,mh,dx,d,mh',q,rs,r1,co⟩;cases r1 with
 | int i=>cases q;exact tK pins s σ H _ v Q I rx ⟨i,rfl,co H ρ _ Ev.refl rs (.int _)⟩
 | _=>cases q
end
noncomputable def Hz (xs:Array Nat):Prop:=xs.toList.Pairwise (· < ·)
theorem Hz.lt {xs:Array Nat}(h:Hz xs) {i j:Nat}{x y:Nat}(hij:i < j) (hx:xs[i]?=some x) (hy:xs[j]?=some y):x < y:=by
 obtain ⟨h1,rfl⟩:=Array.getElem?_eq_some_iff.mp hx;obtain ⟨h2,rfl⟩:=Array.getElem?_eq_some_iff.mp hy;have:=List.pairwise_iff_getElem.mp h i j (by simpa using h1) (by simpa using h2) hij
 simpa using this
structure Below (xs:Array Nat) (j p:Nat):Prop where
 le:p<=xs.size
 lo:∀ i x,i < p->xs[i]?=some x->x < j
 hi:∀ i x,p<=i->xs[i]?=some x->j<=x
theorem Ly {xs:Array Nat}(h:Hz xs) {j:Nat}:∀ (fuel lo hi:Nat),lo<=hi->hi<=xs.size->hi<=lo+fuel->(∀ i x,i < lo->xs[i]?=some x->x < j)->(∀ i x,hi<=i->xs[i]?=some x->j<=x)->Below xs j (SetTable.below.go xs j fuel lo hi)
 | 0,lo,hi,h1,h2,h3,a,b=>by
  have e:lo=hi:=by omega
  subst e;exact ⟨h2,a,b⟩
 | fuel+1,lo,hi,h1,h2,h3,a,b=>by
  unfold SetTable.below.go
  by_cases hl:lo < hi
  ·rw [if_pos hl];have hm:(lo+hi) / 2 < xs.size:=by omega
   have hg:xs.getD ((lo+hi) / 2) j=xs[(lo+hi) / 2]:=by simp [Array.getD,hm]
   dsimp only;rw [hg]
   by_cases hc:xs[(lo+hi) / 2] < j
   ·rw [if_pos hc];refine Ly h fuel _ _ (by omega) h2 (by omega) (fun i x hi' hx=>?_) b
    by_cases e:i=(lo+hi) / 2
    ·subst e;obtain ⟨_,rfl⟩:=Array.getElem?_eq_some_iff.mp hx;exact hc
    ·exact Nat.lt_trans (h.lt (by omega) hx (Array.getElem?_eq_getElem hm)) hc
   ·rw [if_neg hc];refine Ly h fuel _ _ (by omega) (by omega) (by omega) a fun i x hi' hx=>?_
    by_cases e:i=(lo+hi) / 2
    ·subst e;obtain ⟨_,rfl⟩:=Array.getElem?_eq_some_iff.mp hx;exact Nat.le_of_not_lt hc
    ·exact Nat.le_trans (Nat.le_of_not_lt hc) (Nat.le_of_lt (h.lt (by omega) (Array.getElem?_eq_getElem hm) hx))
  ·rw [if_neg hl];have e:lo=hi:=by omega
   subst e;exact ⟨h2,a,b⟩
theorem Gs {xs:Array Nat}(h:Hz xs) (j:Nat):Below xs j (SetTable.below xs j):=by
 unfold SetTable.below;exact Ly h _ _ _ (Nat.zero_le _) (Nat.le_refl _) (by omega) (fun i x hi=>absurd hi (Nat.not_lt_zero _)) fun i x hi hx=>by
  obtain ⟨h1,_⟩:=Array.getElem?_eq_some_iff.mp hx;omega
theorem Below.same {xs:Array Nat}{j p q:Nat}(a:Below xs j p) (b:Below xs j q):p=q:=by
 rcases Nat.lt_trichotomy p q with h|h|h
 ·have:=b.le;have hp:p < xs.size:=by omega
  have:=b.lo p _ h (Array.getElem?_eq_getElem hp);have:=a.hi p _ (Nat.le_refl _) (Array.getElem?_eq_getElem hp);omega
 ·exact h
 ·have:=a.le;have hq:q < xs.size:=by omega
  have:=a.lo q _ h (Array.getElem?_eq_getElem hq);have:=b.hi q _ (Nat.le_refl _) (Array.getElem?_eq_getElem hq);omega
theorem Vk {xs:Array Nat}(h:Hz xs):SetTable.below xs 0=0 :=
 (Gs h 0).same ⟨Nat.zero_le _,fun i x hi=>absurd hi (Nat.not_lt_zero _),fun _ _ _ _=>Nat.zero_le _⟩
theorem Vl {xs:Array Nat}(h:Hz xs) {i x:Nat}(hx:xs[i]?=some x):SetTable.below xs (x+1)=i+1:=by
 obtain ⟨hl,_⟩:=Array.getElem?_eq_some_iff.mp hx;refine (Gs h (x+1)).same ⟨hl,fun k y hk hy=>?_,fun k y hk hy=>h.lt hk hx hy⟩
 by_cases e:k=i
 ·subst e;rw [hx] at hy;cases hy;exact Nat.lt_succ_self _
 ·exact Nat.lt_succ_of_lt (h.lt (by omega) hy hx)
theorem Kd {xs:Array Nat}(h:Hz xs) {j:Nat}(hn:xs[SetTable.below xs j]?≠some j):Hz (SetTable.insertAt xs (SetTable.below xs j) j):=by
 have B:=Gs h j;generalize SetTable.below xs j=p at B hn;unfold Hz;rw [SetTable.toList_insertAt,List.pairwise_append];have hp:∀ (l:List Nat) (i:Nat) (x:Nat),l[i]?=some x->x∈l:=fun l i x q=>List.mem_of_getElem? q
 have get:∀ x,x∈xs.toList.take p->x < j:=fun x hx=>by
  obtain ⟨i,hi,rfl⟩:=List.getElem_of_mem hx;rw [List.length_take] at hi;have:xs[i]?=some (xs.toList.take p)[i]:=by
   rw [← Array.getElem?_toList,List.getElem_take,List.getElem?_eq_getElem]
  exact B.lo i _ (by omega) this
 have get2:∀ x,x∈xs.toList.drop p->j < x:=fun x hx=>by
  obtain ⟨i,hi,rfl⟩:=List.getElem_of_mem hx;rw [List.length_drop] at hi;have e:xs[p+i]?=some (xs.toList.drop p)[i]:=by
   rw [← Array.getElem?_toList,List.getElem_drop,List.getElem?_eq_getElem]
  have le:=B.hi (p+i) _ (by omega) e
  by_cases q:(xs.toList.drop p)[i]=j
  ·exfalso;rw [q] at e
   by_cases hi0:i=0
   ·subst hi0;exact hn e
   ·have hps:p < xs.size:=by
     rw [Array.length_toList] at hi;omega
    have:=B.hi p _ (Nat.le_refl _) (Array.getElem?_eq_getElem hps);have:=h.lt (i:=p) (j:=p+i) (by omega) (Array.getElem?_eq_getElem hps) e;omega
  ·omega
 refine ⟨h.sublist (List.take_sublist _ _),List.pairwise_cons.mpr ⟨get2,h.sublist (List.drop_sublist _ _)⟩,fun x hx y hy=>?_⟩;rcases List.mem_cons.mp hy with rfl|hy
 ·exact get x hx
 ·exact Nat.lt_trans (get x hx) (get2 y hy)
theorem O5 {t:SetTable}{j:Nat}(h:t.slot j=.empty\/t.slot j=.dummy):t.place[SetTable.below t.place j]?≠some j:=by
 intro e;unfold SetTable.slot at h;rw [if_pos (by rw [e];exact beq_self_eq_true _)] at h;rcases h with h | h <;> cases h
theorem Hr (t:SetTable) (p:SetTable.Probe):(t.advance p).dummy=p.dummy:=by
 unfold SetTable.advance;split <;> rfl
theorem H9 {t:SetTable}{ha:Nat->Int}{h:Int}:∀ (fuel:Nat) (p:SetTable.Probe) (j:Nat) (d:Option Nat),(∀ x,p.dummy=some x->t.slot x=.dummy)->SetTable.probe.go t ha h fuel p=some (.empty j d) ->
  t.slot j=.empty/\∀ x,d=some x->t.slot x=.dummy
 | 0,p,j,d,_,e=>by cases e
 | fuel+1,p,j,d,hd,e=>by
  unfold SetTable.probe.go at e;cases hs:t.slot p.j with
  | empty =>
   simp only [hs] at e;cases e;exact ⟨hs,hd⟩
  | dummy =>
   simp only [hs] at e;refine H9 fuel _ j d (fun x hx=>?_) e;rw [Hr] at hx;cases hx;exact hs
  | live i =>
   simp only [hs] at e;split at e
   ·cases e
   ·exact H9 fuel _ j d (fun x hx=>hd x (by rw [Hr] at hx;exact hx)) e
structure Good (b:Bool) (t:SetTable):Prop where
 led:t.led=b
 rise:t.plain=true->Hz t.place
theorem Good.off {b:Bool}{t:SetTable}(h:Good b t):Good b { t with plain:=false }:=⟨h.led,fun z=>by cases z⟩
theorem Good.stand {b:Bool}{t:SetTable}(h:Good b t) (n:Nat):Good b (t.standIn n):=⟨h.led,fun z=>by cases z⟩
theorem Good.orStand {b:Bool}{t:SetTable}(h:Good b t) (n:Nat):Good b (t.orStandIn n):=by
 unfold SetTable.orStandIn;split
 ·exact h
 ·exact h.stand n
theorem cP {b:Bool}{t:SetTable}(g:Good b t) (es:Array (Int×Value)) (h:Int) (x:Value):Good b (layNew t es h x).2.1:=by
 unfold layNew;cases hf:t.freeSlot h with
 | none=>exact g.stand _
 | some q =>
  obtain ⟨slot,wd⟩:=q;show Good b ((t.put slot).1.orStandIn (SetTable.insertAt es (t.put slot).2 (h,x)).size);refine Good.orStand (t:=(t.put slot).1) ⟨g.led,fun hp=>Kd (j:=slot) (g.rise hp) (O5 ?_)⟩ _;unfold SetTable.freeSlot at hf;unfold SetTable.probe at hf;split at hf
  ·rename_i j d e;cases hf;obtain ⟨h1,h2⟩:=H9 _ _ _ _ (fun x hx=>by cases hx) e;cases d with
   | none=>exact .inl h1
   | some y=>exact .inr (h2 y rfl)
  ·cases hf
theorem Y7 (n:Nat) (f:Nat->Option Nat):(((List.range n).filterMap fun j=>(f j).map (j,·)).map (·.1)).Pairwise (· < ·):=by
 have e:((List.range n).filterMap fun j=>(f j).map (j,·)).map (·.1)=(List.range n).filter fun j=>(f j).isSome:=by
  rw [List.map_filterMap]
  induction List.range n with
  | nil=>rfl
  | cons a r ih =>
   rw [List.filterMap_cons,List.filter_cons,ih];cases f a <;> rfl
 rw [e];exact List.pairwise_lt_range.filter _
theorem Vm {b:Bool}{t:SetTable}(g:Good b t) (es:Array (Int×Value)) (n:Nat):Good b (relayAll t es n).2.1:=by
 unfold relayAll;cases hr:t.relaid (es.map (·.1)) n with
 | none=>exact g.stand _
 | some q =>
  obtain ⟨t',order⟩:=q;dsimp only;split
  ·unfold SetTable.relaid SetTable.laid at hr;cases ho:SetTable.layClean (SetTable.sizeAbove n - 1) (es.map (·.1)) with
   | none=>rw [ho] at hr;cases hr
   | some owner =>
    rw [ho] at hr;cases hr;exact ⟨g.led,fun _=>Y7 _ _⟩
  ·exact g.stand _
theorem Lz (b:Bool):Good b (.fresh 0 0 b):=⟨rfl,fun _=>List.Pairwise.nil⟩
section
variable {P:Program}{w:World}
structure SetD (P:Program) (w:World) (o:Obj) (es:Array (Int×Value)) (ep:Nat) (t:SetTable) (S:Int->Bool) (n:Nat):Prop where
 ex:o.ExactSet
 dt:o.data=.set es ep t
 el:ElemsOf (intKind P w) es.toList
 mem:∀ k,S k=true ↔ ∃ e∈es.toList,(intKind P w).is k e.2=true
 few:es.size < scanBound
 fit:t.fits es.size=true
 sz:es.size=n
 good:Good (!w.params.followText "set-order") t
structure SetB (w:World) (o:Obj) (es:Array (Int×Value)) (ep:Nat) (t:SetTable):Prop where
 ex:o.ExactSet
 dt:o.data=.set es ep t
 few:es.size < scanBound
 fit:t.fits es.size=true
 good:Good (!w.params.followText "set-order") t
theorem SetD.b {o:Obj}{es:Array (Int×Value)}{ep:Nat}{t:SetTable}{S:Int->Bool}{n:Nat}(d:SetD P w o es ep t S n):SetB w o es ep t:=⟨d.ex,d.dt,d.few,d.fit,d.good⟩
noncomputable def Ew (P:Program) (w:World) (h:Heap) (a:Addr) (S:Int->Bool) (n:Nat):Prop:=∃ o es ep t,h.get? a=some o/\SetD P w o es ep t S n
theorem Ew.stay {h h':Heap}{a:Addr}{S:Int->Bool}{n:Nat}(g:Ew P w h a S n) (k:∀ o,h.get? a=some o->h'.get? a=some o):Ew P w h' a S n:=by
 obtain ⟨o,es,ep,t,e,d⟩:=g;exact ⟨o,es,ep,t,k o e,d⟩
theorem Ew.congr {h:Heap}{a:Addr}{S S':Int->Bool}{n n':Nat}(g:Ew P w h a S n) (e:∀ k,S k=S' k) (en:n=n'):Ew P w h a S' n':=by
 have:S=S':=funext e;subst this;subst en;exact g
variable {A:Around}{E:Value->Shared->Prop}{s:Shared}
theorem Sg {h:Heap}{a:Addr}{o:Obj}{es:Array (Int×Value)}{ep:Nat}{t:SetTable}{S:Int->Bool}{n:Nat}{es':Array (Int×Value)}{t':SetTable}{S':Int->Bool}(e:h.get? a=some o) (d:SetD P w o es ep t S n)
  (h1:ElemsOf (intKind P w) es'.toList) (h2:∀ k,S' k=true ↔ ∃ e∈es'.toList,(intKind P w).is k e.2=true) (h3:es'.size < scanBound) (h4:t'.fits es'.size=true) (h5:Good (!w.params.followText "set-order") t') :
  ∃ o',(h.update a (Obj.putSet es' t')).get? a=some o'/\SetD P w o' es' (ep+1) t' S' es'.size:=by
 refine ⟨{ o with data:=.set es' (ep+1) t' },?_,d.ex,rfl,h1,h2,h3,h4,rfl,h5⟩;have z:=Heap.get?_update_self (Obj.putSet es' t') e (by rw [putSet_of es' t' d.dt];rfl)
 rwa [putSet_of es' t' d.dt] at z
theorem O6 {g:Bool->Sem Unit}(hg:∀ (b:Bool) (s₁:Shared) (Q':Unit->Shared->Prop),Q' () s₁->wpAny (model P w) A (g b) Q' E s₁) {a:Addr}{o:Obj}{es es1:Array (Int×Value)}{ep:Nat}{t t2:SetTable}{S S':Int->Bool}{n:Nat}{wd:Bool}
  (e:s.heap.get? a=some o) (d:SetD P w o es ep t S n) (h1:ElemsOf (intKind P w) es1.toList) (h2:∀ k,S' k=true ↔ ∃ e∈es1.toList,(intKind P w).is k e.2=true) (h3:es1.size < scanBound) (h4:t2.fits es1.size=true) (h5:Good (!w.params.followText "set-order") t2)
  {R:Option Bool->Shared->Prop} (hR:∀ h',Heap.SameBut a s.heap h'->Ew P w h' a S' es1.size->R (some true) { s with heap:=h' }) :
  wpAny (model P w) A (storeSet a es1 t2 >>= fun _=>if (!wd&&t2.tooFull)=true then (g (relayAll t2 es1 (SetTable.grown es1.size)).2.2 >>= fun _=>storeSet a (relayAll t2 es1 (SetTable.grown es1.size)).1 (relayAll t2 es1 (SetTable.grown es1.size)).2.1 >>= fun _=>pure (some true)) else pure (some true)) R E s:=by
 obtain ⟨o1,e1,d1⟩:=Sg e d h1 h2 h3 h4 h5;refine wpAny_bind (wpAny_storeSet_of e d.dt ?_ (fits_of_scanBound h3))
 by_cases hc:(!wd&&t2.tooFull)=true
 ·rw [if_pos hc];have rp:=relayAll_perm t2 es1 (SetTable.grown es1.size);have rf:=relayAll_fits t2 es1 (SetTable.grown es1.size);have rg:=Vm h5 es1 (SetTable.grown es1.size);generalize relayAll t2 es1 (SetTable.grown es1.size)=z at rp rf rg;obtain ⟨es2,t3,gv⟩:=z;have sz:es2.size=es1.size:=by rw [← Array.length_toList,← Array.length_toList];exact rp.length_eq
  refine wpAny_bind (hg _ _ _ (wpAny_bind (wpAny_storeSet_of e1 d1.dt ?_ (fits_of_scanBound (by rw [sz];exact h3)))));obtain ⟨o2,e2,d2⟩:=Sg e1 d1 (h1.perm rp) (fun k=>(h2 k).trans ⟨fun ⟨x,hx,q⟩=>⟨x,rp.mem_iff.mpr hx,q⟩,fun ⟨x,hx,q⟩=>⟨x,rp.mem_iff.mp hx,q⟩⟩) (by rw [sz];exact h3) rf rg;refine wpAny_pure (hR _ ((Heap.SameBut.update s.heap a _).trans (Heap.SameBut.update _ a _)) ⟨o2,es2,ep+1+1,t3,e2,?_⟩);rw [← sz];exact d2
 ·rw [if_neg hc];exact wpAny_pure (hR _ (Heap.SameBut.update s.heap a _) ⟨o1,es1,_,t2,e1,d1⟩)
theorem cQ {a:Addr}{S:Int->Bool}{n:Nat}{k:Int}{x:Value}{Q:Bool->Shared->Prop}(hk:(intKind P w).is k x=true) (hx:x.scannable=true) (g:Ew P w s.heap a S n) (hr:n+1 < scanBound)
  (h:∀ h',Heap.SameBut a s.heap h'->Ew P w h' a (fun j=>S j || decide (j=k)) (if S k then n else n+1)->Q (!S k) { s with heap:=h' }):wpAny (model P w) A (setAddHashed a x ((intKind P w).hash k)) Q E s:=by
 obtain ⟨o,es,ep,t,e,d⟩:=g;have few1:es.size+1 < scanBound:=by rw [d.sz];exact hr
 unfold setAddHashed setAddHashedIn;refine wpAny_holding (wpAny_bind (wpAny_setState_of e d.dt d.fit ?_));dsimp only;rw [if_pos (byScan_of hx d.few d.el)];unfold setAddByScan;refine wpAny_bind (wpAny_bind (wpAny_rule (wpAny_bind (wpAny_setScan_of hk e d.dt d.fit d.el ?_))));cases hf:es.toList.findIdx? fun e=>(intKind P w).is k e.2 with
 | some j =>
  obtain ⟨hj,hpj,_⟩:=List.findIdx?_eq_some_iff_getElem.mp hf;have hS:S k=true:=(d.mem k).mpr ⟨_,List.getElem_mem hj,hpj⟩
  have z:=h s.heap (Heap.SameBut.refl a s.heap) ⟨o,es,ep,t,e,d.ex,d.dt,d.el,fun j=>by
   rw [Bool.or_eq_true,decide_eq_true_eq,← d.mem j]
   exact ⟨fun q=>q.elim id fun e=>by rw [e];exact hS,.inl⟩,d.few,d.fit,by rw [if_pos hS];exact d.sz,d.good⟩
  rw [hS] at z;exact wpAny_pure (wpAny_pure z)
 | none =>
  have hS:S k=false:=by
   cases q:S k with
   | false=>rfl
   | true =>
    obtain ⟨y,hy,hp⟩:=(d.mem k).mp q;have:=List.findIdx?_eq_none_iff.mp hf y hy;rw [hp] at this;cases this
  have way:∀ (b:Bool) (s₁:Shared) (Q':Unit->Shared->Prop),Q' () s₁->wpAny (model P w) A (match b with | true=>rule "set.scan.the-table-gave-way" | false=>pure ()) Q' E s₁:=fun b s₁ Q' hq=>by
   cases b with
   | true=>exact wpAny_rule hq
   | false=>exact wpAny_pure hq
  dsimp only;have lp:=layNew_perm t es ((intKind P w).hash k) x;have lf:=layNew_fits t es ((intKind P w).hash k) x;have lg:=cP d.good es ((intKind P w).hash k) x;generalize layNew t es ((intKind P w).hash k) x=z at lp lf lg;obtain ⟨es1,t1,wd,gv⟩:=z;rw [Array.toList_push] at lp;have sz:es1.size=n+1:=by rw [← Array.length_toList,lp.length_eq,List.length_append,Array.length_toList,d.sz];rfl
  have el1:ElemsOf (intKind P w) es1.toList:=(d.el.push hk hx).perm lp;have mem1:=mem_push_iff hk d.mem lp;have few:es1.size < scanBound:=by rw [sz];exact hr
  have fin:∀ h',Heap.SameBut a s.heap h'->Ew P w h' a (fun j=>S j || decide (j=k)) es1.size->Q true { s with heap:=h' }:=fun h' sb g'=>by
   have q:=h h' sb;rw [hS,if_neg Bool.false_ne_true] at q;rw [sz] at g';exact q g'
  refine wpAny_bind (way _ _ _ ?_)
  by_cases hp:t1.plain=true
  ·simp only [hp,if_true];rw [hashByValue_scannable 8 hx];refine wpAny_bind (wpAny_pure ?_);refine O6 way e d el1 mem1 few ?_ ?_ fun h' sb g'=>wpAny_pure (fin h' sb g')
   ·split
    ·exact lf
    ·exact SetTable.fits_plain_off lf
   ·split
    ·exact lg
    ·exact lg.off
  ·simp only [hp,if_false];refine wpAny_bind (wpAny_pure ?_);exact O6 way e d el1 mem1 few lf lg fun h' sb g'=>wpAny_pure (fin h' sb g')
end
noncomputable abbrev Vn (val:Nat->Int) (i:Nat):List Int:=firstMet val i
section
variable {P:Program}{w:World}{A:Around}{R:Result->Shared->Prop}{I:Addr}{fp wr:List Addr}{G:Array GenState->Array GenState->Prop}{n:Nat}{V:Nat->Value->Prop}{T:Nat->Shared->Prop}
theorem O7 (W:WalksS P w A.in1 I fp wr G n V T) (a:Addr) (ha:a ∉ fp) (val:Nat->Int) (hv:∀ i v,V i v->∃ t,v=.int (val i) t) (hb:n+1 < scanBound) :
  ∀ (k i:Nat) (s:Shared),n - i=k->i<=n->T i s->Ew P w s.heap a (fun j=>(Vn val i).any (·==j)) (Vn val i).length ->
   (∀ s',Moved (a::wr) G s s'->Ew P w s'.heap a (fun j=>(Vn val n).any (·==j)) (Vn val n).length->R (.ok (.ret .none)) s') ->
   codeAny (model P w) A (.builtin "set.update.loop" ⟨[.ref a,.ref I],[]⟩) R s:=by
 have aw:a ∉ wr:=fun z=>ha (W.sub _ z)
 have sub:∀ b∈wr,b∈a::wr:=fun b hb=>.tail _ hb
 intro k
 induction k with
 | zero =>
  intro i s hk hi st g hR;have e:i=n:=by omega
  subst e;refine codeAny_builtin F.entry_set_update_loop ?_;rw [Around.under_plainId F.plain_set_update_loop _];refine wpAny_bind (m:=pyNext (.ref I)) (W.done s _ _ st fun s' mv=>?_);exact wpAny_pure (hR s' (mv.mono sub) (g.stay fun o q=>mv.heap a o aw q))
 | succ k ih =>
  intro i s hk hi st g hR;have lt:i < n:=by omega
  refine codeAny_builtin F.entry_set_update_loop ?_;rw [Around.under_plainId F.plain_set_update_loop _];refine wpAny_bind (m:=pyNext (.ref I)) (W.item i s _ _ lt st fun v s' hV st' mv=>?_);obtain ⟨t,rfl⟩:=hv i v hV;have g':=g.stay (h':=s'.heap) fun o q=>mv.heap a o aw q
  refine wpAny_bind (m:=holding [Value.int (val i) t] (setAdd a (.int (val i) t))) (wpAny_holding ?_);unfold setAdd;refine wpAny_holding (wpAny_bind ((intKind P w).pyHash (k:=val i) (intKind_is _ _ _ _) ?_));have room:(Vn val i).length+1 < scanBound:=by
   have:=firstMet_length_le val i;show (firstMet val i).length+1 < scanBound;omega
  refine cQ (s:={ s' with toks:=s'.toks+1 }) (intKind_is _ _ _ _) rfl g' room fun h' sb g2=>?_
  have g3:Ew P w h' a (fun j=>(Vn val (i+1)).any (·==j)) (Vn val (i+1)).length:=g2.congr (fun j=>by show _=(firstMet val (i+1)).any _;rw [firstMet_succ,step_any]) (by show _=(firstMet val (i+1)).length;rw [firstMet_succ,step_length]);refine wpAny_pure ⟨plainId_quiet F.plain_set_update_loop _,ih (i+1) _ (by omega) lt (W.frame _ s' _ _ st' (Nat.le_succ _) fun b hb o q=>?_) g3 fun s2 mv2 gl=>?_⟩
  ·rw [sb.2 b fun z:b=a=>ha (by rw [← z];exact hb)];exact q
  ·refine hR s2 (Moved.trans W.gtrans ((mv.mono sub).then_heap (Nat.le_succ _) fun b o hb q=>?_) mv2) gl;rw [sb.2 b fun z:b=a=>hb (by rw [z];exact .head _)];exact q
end
section
variable {P:Program}{w:World}{A:Around}{E:Value->Shared->Prop}{s:Shared}
theorem Ma (u:Value) {Q:Value->Shared->Prop}
  (h:Q (.ref s.heap.objs.size) { s with heap:=s.heap.push { cls:=.type "set",dict:=none,data:=.set #[] 0 (.fresh 0 0 (!w.params.followText "set-order")) } }) :
  codeAny (model P w) A (.call (.builtin "set.__new__") ⟨[.type "set",u],[]⟩) (wants Q E) s:=by
 refine codeAny_of_tree ?_
 show wpAny _ A.in1 (checkBuiltinCall "set.__new__" ⟨[.type "set",u],[]⟩ >>= fun _=>again (.builtin "set.__new__" ⟨[.type "set",u],[]⟩)) _ _ s;refine wpAny_bind (wpAny_of_eq (F.newCall_set_1 u) (wpAny_pure ⟨plainId_quiet F.plain_set_new _,codeAny_builtin F.entry_set_new ?_⟩));rw [Around.under_plainId F.plain_set_new _];unfold Builtin.«set.__new__» Builtin.Frozenset.newClass;have sub:=sub_set_self;obtain ⟨hp,g,d,tk,os⟩:=s;dsimp only at h ⊢;wp_walk;refine wpAny_askSetting (wpAny_pure ?_);dsimp only;simp only [newObj];exact wpAny_bind (wpAny_alloc (wpAny_pure (wpAny_pure h)))
end
section
variable {P:Program}{w:World}{A:Around}{E:Value->Shared->Prop}{s:Shared}
noncomputable abbrev Ea (b:Bool):Obj:={ cls:=.type "set",dict:=none,data:=.set #[] 0 (.fresh 0 0 b) }
theorem Mf {h:Heap}{a:Addr}(e:h.get? a=some (Ea (!w.params.followText "set-order"))):Ew P w h a (fun _=>false) 0 :=
 ⟨_,#[],0,_,e,⟨rfl,rfl,rfl⟩,rfl,fun e he=>by simp at he,fun k=>by simp,by decide,by rfl,rfl,Lz _⟩
noncomputable def Bo (ns:List Int):List Int:=firstMet (fun i=>ns.getD i 0) ns.length
theorem Y8 {l:Addr}{its:Array Value}{ns:List Int}{Q:Value->Shared->Prop}(hh:A.handled=none) (hl:s.heap.IsList l its) (hi:IntsAre its.toList ns) (hb:its.size+1 < scanBound)
  (h:∀ (h':Heap) (tk:Nat),Ew P w h' s.heap.objs.size (fun j=>(Bo ns).any (·==j)) (Bo ns).length->(∀ b o,b < s.heap.objs.size->s.heap.get? b=some o->h'.get? b=some o)->s.toks<=tk->Q (.ref s.heap.objs.size) { s with heap:=h',toks:=tk }) :
  wpAny (model P w) A (call (.type "set") [.ref l]) Q E s:=by
 have hn:its.size=ns.length:=by rw [← Array.length_toList];exact hi.length
 have em:Bo ns=firstMet (fun i=>ns.getD i 0) its.size:=by unfold Bo;rw [hn]
 rw [em] at h;obtain ⟨c,tl,hmro⟩:=F.called_set.mro;have hmade:=F.called_set.made;have hsub:=F.called_set.sub;have hnt:=F.called_set.notType;have hcc:=F.called_set.canCreate;have hct:=F.typeCall_set_1 (.ref l)
 refine wpAny_call (codeAny_of_tree (show wpAny _ _ (callAny (.type "set") _) _ _ _ from wpAny_pure ⟨Code.quiet_builtin _ (by decide +kernel),codeAny_builtin F.entry_type_call ?_⟩))
 rw [Around.under_plain (weight_type_call_type "set" [.ref l] []) rfl];repeat (any_goals (first | assumption | wp_step))
 refine codeAny_mono (Ma (.ref l) (E:=E) (Q:=fun v s₁=>v=.ref s.heap.objs.size/\s₁={ s with heap:=s.heap.push (Ea (!w.params.followText "set-order")) }) ⟨rfl,rfl⟩) fun r s₁ hr=>?_
 cases r with
 | error z=>exact hr
 | ok fl =>
 cases fl with
 | next=>exact hr.elim
 | brk=>exact hr.elim
 | cont=>exact hr.elim
 | ret v =>
  obtain ⟨rfl,rfl⟩:=hr
  have e0:(s.heap.push (Ea (!w.params.followText "set-order"))).get? s.heap.objs.size=some (Ea (!w.params.followText "set-order")):=Heap.get?_push_size _ rfl
  have hT:Shared.TypeIs { s with heap:=s.heap.push (Ea (!w.params.followText "set-order")) } (.ref s.heap.objs.size) "set":=⟨_,e0,rfl⟩
  have hli:=F.called_set.init.lookup;have hbi:=F.called_set.init.bind (.ref s.heap.objs.size);repeat (any_goals (first | assumption | wp_step))
  refine codeAny_mono (codeAny_call_builtin (R:=wants (fun r s₂=>r=.none/\∃ h' tk,s₂={ s with heap:=h',toks:=tk }/\s.toks<=tk /\
    Ew P w h' s.heap.objs.size (fun j=>(firstMet (fun i=>ns.getD i 0) its.size).any (·==j)) (firstMet (fun i=>ns.getD i 0) its.size).length /\
    (∀ b o,b < s.heap.objs.size->s.heap.get? b=some o->h'.get? b=some o)) E) F.called_set.init.plain F.entry_set_init (check_set_init_1 hT ?_)) fun r₂ s₂ hr₂=>?_
  ·obtain ⟨ol,hol,hcl,nl,hdl⟩:=hl;obtain ⟨ocls,odict,odata,oslots⟩:=ol;simp only at hcl hdl;subst hcl;subst hdl
   have hol':(s.heap.push (Ea (!w.params.followText "set-order"))).get? l=some { cls:=.type "list",dict:=odict,data:=.seq its nl,slots:=oslots }:=Heap.get?_push_of_some _ hol
   have hl1:(s.heap.push (Ea (!w.params.followText "set-order"))).IsList l its:=⟨_,hol',rfl,nl,rfl⟩;have q1:=F.sub_list_set;have q2:=F.sub_list_frozenset
   have q3:(Value.type "list"==Value.type "dict")=false:=by decide
   unfold Builtin.«set.__init__» noKeywords Builtin.Frozenset.updateFrom;generalize hPI:pyIter=PI;wp_walk;subst hPI;have lt:l < s.heap.objs.size:=Heap.lt_size hol
   have sz:(s.heap.push (Ea (!w.params.followText "set-order"))).objs.size=s.heap.objs.size+1:=Heap.size_push ..;refine wpAny_pyIter_list hl1 (wpAny_bind (wpAny_runValue ?_));refine O7 (V:=fun i v=>its[i]?=some v) ((Walks.list (by simp [hh]) _ l (by rw [sz];exact Nat.ne_of_lt (Nat.lt_succ_of_lt lt)) its).toS) s.heap.objs.size ?_ (fun i=>ns.getD i 0) (fun i v hv=>IntsAre.int_at hi i v (by rw [Array.getElem?_toList];exact hv)) hb (its.size - 0) 0 _ (by omega) (Nat.zero_le _) ⟨⟨_,Heap.get?_push_size _ rfl,rfl,rfl⟩,hl1.push _⟩ ?_ fun s' mv g=>?_
   ·rw [sz];simp only [List.mem_cons,List.not_mem_nil,or_false,not_or];exact ⟨Nat.ne_of_lt (Nat.lt_succ_self _),Nat.ne_of_gt lt⟩
   ·exact (Mf (Heap.get?_push_of_some _ e0)).congr (fun _=>rfl) rfl
   ·obtain ⟨h',g',d',tk',os'⟩:=s';have e1:g'=s.gens:=mv.gens;have e2:d'=s.drawn:=mv.drawn;have e3:os'=s.os:=mv.os;have e4:s.toks<=tk':=mv.toks;subst e1;subst e2;subst e3;refine wpAny_pure (wpAny_pure ⟨rfl,h',tk',rfl,e4,g,fun b o hb q=>mv.heap b o ?_ (Heap.get?_push_of_some _ (Heap.get?_push_of_some _ q))⟩);rw [sz];simp only [List.mem_cons,List.not_mem_nil,or_false,not_or];exact ⟨Nat.ne_of_lt hb,Nat.ne_of_lt (Nat.lt_succ_of_lt hb)⟩
  ·cases r₂ with
   | error z=>exact hr₂
   | ok fl₂ =>
    cases fl₂ with
    | ret r =>
     obtain ⟨rfl,h',tk,rfl,ht,g,kp⟩:=hr₂;repeat (any_goals (first | assumption | wp_step))
     exact h _ _ g kp ht
    | _=>exact hr₂.elim
end
theorem Mg:isSubtype (.type "tuple") (.type "set")=pure false:=by rw [isSubtype_type];kernel_rfl
theorem Mh:isSubtype (.type "tuple") (.type "frozenset")=pure false:=by rw [isSubtype_type];kernel_rfl
section
variable {P:Program}{w:World}{A:Around}{E:Value->Shared->Prop}{s:Shared}
theorem Vo {l:Addr}{its:Array Value}{ns:List Int}{Q:Value->Shared->Prop}(hh:A.handled=none) (hl:s.heap.IsTuple l its) (hi:IntsAre its.toList ns) (hb:its.size+1 < scanBound)
  (h:∀ (h':Heap) (tk:Nat),Ew P w h' s.heap.objs.size (fun j=>(Bo ns).any (·==j)) (Bo ns).length->(∀ b o,b < s.heap.objs.size->s.heap.get? b=some o->h'.get? b=some o)->s.toks<=tk->Q (.ref s.heap.objs.size) { s with heap:=h',toks:=tk }) :
  wpAny (model P w) A (call (.type "set") [.ref l]) Q E s:=by
 have hn:its.size=ns.length:=by rw [← Array.length_toList];exact hi.length
 have em:Bo ns=firstMet (fun i=>ns.getD i 0) its.size:=by unfold Bo;rw [hn]
 rw [em] at h;obtain ⟨c,tl,hmro⟩:=F.called_set.mro;have hmade:=F.called_set.made;have hsub:=F.called_set.sub;have hnt:=F.called_set.notType;have hcc:=F.called_set.canCreate;have hct:=F.typeCall_set_1 (.ref l)
 refine wpAny_call (codeAny_of_tree (show wpAny _ _ (callAny (.type "set") _) _ _ _ from wpAny_pure ⟨Code.quiet_builtin _ (by decide +kernel),codeAny_builtin F.entry_type_call ?_⟩))
 rw [Around.under_plain (weight_type_call_type "set" [.ref l] []) rfl];repeat (any_goals (first | assumption | wp_step))
 refine codeAny_mono (Ma (.ref l) (E:=E) (Q:=fun v s₁=>v=.ref s.heap.objs.size/\s₁={ s with heap:=s.heap.push (Ea (!w.params.followText "set-order")) }) ⟨rfl,rfl⟩) fun r s₁ hr=>?_
 cases r with
 | error z=>exact hr
 | ok fl =>
 cases fl with
 | next=>exact hr.elim
 | brk=>exact hr.elim
 | cont=>exact hr.elim
 | ret v =>
  obtain ⟨rfl,rfl⟩:=hr
  have e0:(s.heap.push (Ea (!w.params.followText "set-order"))).get? s.heap.objs.size=some (Ea (!w.params.followText "set-order")):=Heap.get?_push_size _ rfl
  have hT:Shared.TypeIs { s with heap:=s.heap.push (Ea (!w.params.followText "set-order")) } (.ref s.heap.objs.size) "set":=⟨_,e0,rfl⟩
  have hli:=F.called_set.init.lookup;have hbi:=F.called_set.init.bind (.ref s.heap.objs.size);repeat (any_goals (first | assumption | wp_step))
  refine codeAny_mono (codeAny_call_builtin (R:=wants (fun r s₂=>r=.none/\∃ h' tk,s₂={ s with heap:=h',toks:=tk }/\s.toks<=tk /\
    Ew P w h' s.heap.objs.size (fun j=>(firstMet (fun i=>ns.getD i 0) its.size).any (·==j)) (firstMet (fun i=>ns.getD i 0) its.size).length /\
    (∀ b o,b < s.heap.objs.size->s.heap.get? b=some o->h'.get? b=some o)) E) F.called_set.init.plain F.entry_set_init (check_set_init_1 hT ?_)) fun r₂ s₂ hr₂=>?_
  ·obtain ⟨ol,hol,hcl,nl,hdl⟩:=hl;obtain ⟨ocls,odict,odata,oslots⟩:=ol;simp only at hcl hdl;subst hcl;subst hdl
   have hol':(s.heap.push (Ea (!w.params.followText "set-order"))).get? l=some { cls:=.type "tuple",dict:=odict,data:=.seq its nl,slots:=oslots }:=Heap.get?_push_of_some _ hol
   have hl1:(s.heap.push (Ea (!w.params.followText "set-order"))).IsTuple l its:=⟨_,hol',rfl,nl,rfl⟩;have q1:=Mg;have q2:=Mh
   have q3:(Value.type "tuple"==Value.type "dict")=false:=by decide
   unfold Builtin.«set.__init__» noKeywords Builtin.Frozenset.updateFrom;generalize hPI:pyIter=PI;wp_walk;subst hPI;have lt:l < s.heap.objs.size:=Heap.lt_size hol
   have sz:(s.heap.push (Ea (!w.params.followText "set-order"))).objs.size=s.heap.objs.size+1:=Heap.size_push ..;refine wpAny_pyIter_tuple hl1 (wpAny_bind (wpAny_runValue ?_));refine O7 (V:=fun i v=>its[i]?=some v) ((Walks.tuple (by simp [hh]) _ l (by rw [sz];exact Nat.ne_of_lt (Nat.lt_succ_of_lt lt)) its).toS) s.heap.objs.size ?_ (fun i=>ns.getD i 0) (fun i v hv=>IntsAre.int_at hi i v (by rw [Array.getElem?_toList];exact hv)) hb (its.size - 0) 0 _ (by omega) (Nat.zero_le _) ⟨⟨_,Heap.get?_push_size _ rfl,rfl,rfl⟩,hl1.push _⟩ ?_ fun s' mv g=>?_
   ·rw [sz];simp only [List.mem_cons,List.not_mem_nil,or_false,not_or];exact ⟨Nat.ne_of_lt (Nat.lt_succ_self _),Nat.ne_of_gt lt⟩
   ·exact (Mf (Heap.get?_push_of_some _ e0)).congr (fun _=>rfl) rfl
   ·obtain ⟨h',g',d',tk',os'⟩:=s';have e1:g'=s.gens:=mv.gens;have e2:d'=s.drawn:=mv.drawn;have e3:os'=s.os:=mv.os;have e4:s.toks<=tk':=mv.toks;subst e1;subst e2;subst e3;refine wpAny_pure (wpAny_pure ⟨rfl,h',tk',rfl,e4,g,fun b o hb q=>mv.heap b o ?_ (Heap.get?_push_of_some _ (Heap.get?_push_of_some _ q))⟩);rw [sz];simp only [List.mem_cons,List.not_mem_nil,or_false,not_or];exact ⟨Nat.ne_of_lt hb,Nat.ne_of_lt (Nat.lt_succ_of_lt hb)⟩
  ·cases r₂ with
   | error z=>exact hr₂
   | ok fl₂ =>
    cases fl₂ with
    | ret r =>
     obtain ⟨rfl,h',tk,rfl,ht,g,kp⟩:=hr₂;repeat (any_goals (first | assumption | wp_step))
     exact h _ _ g kp ht
    | _=>exact hr₂.elim
end
theorem Fw {α:Type}:∀ {l:List α}{i:Nat}(h:i < l.length),List.Perm (l[i]::l.eraseIdx i) l
 | a::r,0,_=>.refl _
 | a::r,i+1,h=>by
  have hi:i < r.length:=by simpa using h
  have:=Fw (l:=r) (i:=i) hi;show List.Perm (r[i]::a::r.eraseIdx i) (a::r);exact (List.Perm.swap _ _ _).trans (this.cons a)
theorem Xa {α:Type}(nx:Nat->Nat):∀ (fuel k:Nat) (left:List α) (out:Array α),left.length=fuel->List.Perm (pickOrder.go nx fuel k left out).toList (out.toList++left)
 | 0,k,left,out,h=>by
  have:left=[]:=List.length_eq_zero_iff.mp h;subst this;unfold pickOrder.go;rw [List.append_nil]
 | fuel+1,k,left,out,h=>by
  unfold pickOrder.go;have hl:nx k % left.length < left.length:=Nat.mod_lt _ (by omega);rw [List.getElem?_eq_getElem hl];dsimp only;refine (Xa nx fuel _ _ _ (by rw [List.length_eraseIdx,if_pos hl];omega)).trans ?_;rw [Array.toList_push,List.append_assoc]
  exact List.Perm.append_left _ (by
   show List.Perm (left[nx k % left.length]::left.eraseIdx (nx k % left.length)) left
   exact Fw hl)
theorem Y9 {α:Type}(nx:Nat->Nat) (xs:Array α):List.Perm (pickOrder nx xs).toList xs.toList:=by
 unfold pickOrder
 simpa using Xa nx xs.size 0 xs.toList #[] (by simp)
section
variable {P:Program}{w:World}{A:Around}{E:Value->Shared->Prop}
theorem wp_choose {src:Source}{n:Nat}{s:Shared}{Q:Nat->Shared->Prop}(hn:n≠0) (h:∀ i dr,i < n->Q i { s with drawn:=dr }):wpAny (model P w) A (choose src n) Q E s:=fun Γ p hΓ =>
 ⟨hn,h _ _ (Nat.mod_lt _ (Nat.pos_of_ne_zero hn))⟩
theorem Xb {α:Type}:∀ (n:Nat) (xs:List α) (s:Shared) (Q:List α->Shared->Prop),xs.length=n->(∀ ys dr,ys.Perm xs->Q ys { s with drawn:=dr })->wpAny (model P w) A (drawOrder n xs) Q E s
 | 0,xs,s,Q,hl,h=>by
  have:xs=[]:=List.length_eq_zero_iff.mp hl;subst this;exact wpAny_pure (h [] s.drawn .nil)
 | n+1,[],s,Q,hl,h=>by cases hl
 | n+1,x::r,s,Q,hl,h=>by
  unfold drawOrder;refine wpAny_bind (wp_choose (by simp) fun i dr hi=>?_);rw [List.getElem?_eq_getElem hi];dsimp only;refine wpAny_bind (Xb n _ _ _ (by rw [List.length_eraseIdx,if_pos hi];simp at hl ⊢;omega) fun ys dr' hp=>wpAny_pure (h _ dr' ?_));exact (hp.cons _).trans (Fw hi)
end
inductive Mode where
 | txt | slt | drw (tp:Addr) (pl:List Nat)
noncomputable def Mode.first (t:SetTable):Mode->Nat->Value
 | .txt,_=>.int 0 0
 | .slt,0=>.int 0 0
 | .slt,i+1=>.int ((t.place.getD i 0+1:Nat):Int) 0
 | .drw tp _,_=>.ref tp
noncomputable def Mode.ord (w:World) (a:Addr) (es:Array (Int×Value)) (ep:Nat):Mode->List Value
 | .txt=>(pickOrder (w.params.setOrder a ep) es).toList.map (·.2)
 | .slt=>es.toList.map (·.2)
 | .drw _ pl=>pl.filterMap fun p=>(es[p]?).map (·.2)
noncomputable def Mode.ok (w:World) (es:Array (Int×Value)) (t:SetTable):Mode->Heap->Prop
 | .txt,_=>w.params.followText "set-order"=true
 | .slt,_=>w.params.followText "set-order"=false/\(t.plain=true\/es.size<=1)
 | .drw tp pl,h=>w.params.followText "set-order"=false/\pl.Perm (List.range es.size)/\∃ n,h.get? tp=some { cls:=.type "tuple",data:=.seq (pl.map fun (p:Nat)=>rawInt (p:Int)).toArray n }
theorem Mode.perm {w:World}{a:Addr}{es:Array (Int×Value)}{ep:Nat}{t:SetTable}{m:Mode}{h:Heap}(k:m.ok w es t h):List.Perm (m.ord w a es ep) (es.toList.map (·.2)):=by
 cases m with
 | txt=>exact (Y9 _ _).map _
 | slt=>exact .refl _
 | drw tp pl =>
  obtain ⟨_,hp,_⟩:=k;refine (hp.filterMap _).trans ?_;have:=congrArg (List.map (fun x:Int×Value=>x.2)) (filterMap_getElem?_range es);rw [List.map_filterMap] at this;rw [← this]
noncomputable abbrev qT (f:Value) (i:Nat) (a:Addr) (n ep:Nat):Obj:={ cls:=.type "set_iterator",data:=.fields #[f,.int i 0,.ref a,.int n 0,.int ep 0] }
namespace SI
theorem slot_next:Slot "set_iterator" "__next__" "set_iterator.__next__":=.of (owner := "set_iterator") (n := "__next__") (by rw [typeLookup_type,builtinLookup_eq_fast];kernel_rfl) (by decide +kernel) (by decide +kernel) (by decide +kernel) (by first | exact .inl (by decide +kernel) | exact .inr (by decide +kernel)) (by rw [isSubtype_type];kernel_rfl)
theorem slot_iter:Slot "set_iterator" "__iter__" "set_iterator.__iter__":=.of (owner := "set_iterator") (n := "__iter__") (by rw [typeLookup_type,builtinLookup_eq_fast];kernel_rfl) (by decide +kernel) (by decide +kernel) (by decide +kernel) (by first | exact .inl (by decide +kernel) | exact .inr (by decide +kernel)) (by rw [isSubtype_type];kernel_rfl)
theorem entry_next:entryFor table "set_iterator.__next__"=some Builtin.«set_iterator.__next__»:=entryFor_of_tree (by kernel_rfl)
theorem entry_iter:entryFor table "set_iterator.__iter__"=some Builtin.«dict_keyiterator.__iter__»:=entryFor_alias (id' := "dict_keyiterator.__iter__") (by kernel_rfl) rfl (by decide +kernel) (by kernel_rfl)
theorem entry_siter:entryFor table "set.__iter__"=some Builtin.«frozenset.__iter__»:=entryFor_alias (id' := "frozenset.__iter__") (by kernel_rfl) rfl (by decide +kernel) (by kernel_rfl)
theorem args_next (a:Value):argsOk "set_iterator.__next__" ⟨[a],[]⟩:=by unfold argsOk;kernel_rfl
theorem args_iter (a:Value):argsOk "set_iterator.__iter__" ⟨[a],[]⟩:=by unfold argsOk;kernel_rfl
end SI
section
variable {P:Program}{w:World}{A:Around}{E:Value->Shared->Prop}{s:Shared}{a I:Addr}{o:Obj}{es:Array (Int×Value)}{ep n:Nat}{t:SetTable}{S:Int->Bool}
structure SetSt (w:World) (o:Obj) (es:Array (Int×Value)) (ep:Nat) (t:SetTable) (a I:Addr) (m:Mode) (i:Nat) (h:Heap):Prop where
 it:h.get? I=some (qT (m.first t i) i a es.size ep)
 st:h.get? a=some o
 ok:m.ok w es t h
theorem cR (d:SetB w o es ep t) (h:t.plain=true\/es.size<=1):Hz t.place:=by
 rcases h with h|h
 ·exact d.good.rise h
 ·have e:t.place.size=es.size:=by
   have:=d.fit;simp only [SetTable.fits,Bool.and_eq_true,beq_iff_eq] at this;exact this.1
  unfold Hz
  match q:t.place.toList with
  | []=>exact .nil
  | [x]=>exact List.pairwise_singleton _ _
  | x::y::r =>
   have:=congrArg List.length q;rw [Array.length_toList] at this;simp at this;omega
theorem Sh (d:SetB w o es ep t) {i:Nat}(hi:i < es.size):∃ x,t.place[i]?=some x/\t.place.getD i 0=x:=by
 have e:t.place.size=es.size:=by
  have:=d.fit;simp only [SetTable.fits,Bool.and_eq_true,beq_iff_eq] at this;exact this.1
 have hi':i < t.place.size:=by rw [e];exact hi
 exact ⟨t.place[i],Array.getElem?_eq_getElem hi',by simp [Array.getD,hi']⟩
theorem O8 (d:SetB w o es ep t) (h:t.plain=true\/es.size<=1) {i:Nat}(hi:i<=es.size):∃ v:Nat,Mode.first t .slt i=.int (v:Int) 0/\SetTable.below t.place v=i:=by
 have R:=cR d h;cases i with
 | zero=>exact ⟨0,rfl,Vk R⟩
 | succ i =>
  obtain ⟨x,h1,h2⟩:=Sh d hi;exact ⟨x+1,by show Value.int ((t.place.getD i 0+1:Nat):Int) 0=_;rw [h2],Vl R h1⟩
theorem Sq {Q:Option (Value×Nat)->Shared->Prop}{sl i:Nat}(d:SetB w o es ep t) (e:s.heap.get? a=some o) (hb:w.params.followText "set-order"=true) (h:Q ((Mode.ord w a es ep .txt)[i]?.map fun v=>(v,sl)) s) :
  wpAny (model P w) A (setNext a sl i ep) Q E s:=by
 unfold setNext;refine wpAny_bind (wpAny_setState_of e d.dt d.fit ?_);dsimp only;refine wpAny_bind (m:=setsByText) (wpAny_bind (wpAny_askSetting (wpAny_pure ?_)))
 have hb:(model P w).w.params.followText "set-order"=true:=hb
 simp only [hb,if_true,bne_self_eq_false,Bool.false_eq_true,if_false];refine wpAny_bind (m:=setWalk a) ?_;unfold setWalk;refine wpAny_bind (wpAny_setState_of e d.dt d.fit ?_);dsimp only;refine wpAny_bind (m:=setsByText) (wpAny_bind (wpAny_askSetting (wpAny_pure ?_)));simp only [hb,if_true];refine wpAny_bind (wpAny_askSetting (wpAny_pure (wpAny_pure ?_)));have q:((pickOrder (w.params.setOrder a ep) es)[i]?).map (fun e=>(e.2,sl))=(Mode.ord w a es ep .txt)[i]?.map fun v=>(v,sl):=by
  unfold Mode.ord;rw [List.getElem?_map,Array.getElem?_toList];cases (pickOrder (w.params.setOrder a ep) es)[i]? <;> rfl
 rw [← q] at h;exact h
theorem Ss {Q:Option (Value×Nat)->Shared->Prop}{v g i:Nat}(d:SetB w o es ep t) (e:s.heap.get? a=some o) (hb:w.params.followText "set-order"=false) (hp:t.plain=true\/es.size<=1) (hv:SetTable.below t.place v=i)
  (h:Q (match es[i]?,t.place[i]? with | some (_,x),some j=>some (x,j+1) | _,_=>none) s):wpAny (model P w) A (setNext a v g ep) Q E s:=by
 unfold setNext;refine wpAny_bind (wpAny_setState_of e d.dt d.fit ?_);dsimp only;refine wpAny_bind (m:=setsByText) (wpAny_bind (wpAny_askSetting (wpAny_pure ?_)))
 have hb':(model P w).w.params.followText "set-order"=false:=hb
 simp only [hb',Bool.false_eq_true,if_false];split
 ·rename_i hd;exfalso;have hd:(!t.plain&&decide (es.size > 1))=true:=hd;rw [Bool.and_eq_true,decide_eq_true_iff] at hd;rcases hp with hp|hp
  ·rw [hp] at hd;exact absurd hd.1 (by decide)
  ·omega
 ·have hl:t.led=true:=by rw [d.good.led,hb];rfl
  refine wpAny_bind (m:=if (!t.led&&!es.isEmpty)=true then (unsupported "set:maker-not-led":Sem Unit) else pure ()) ?_;rw [hl];refine wpAny_pure ?_;rw [hv];exact wpAny_pure h
theorem vG {α β:Type}(l:List α) (f:α->Option β) (g:α->β) (h:∀ x∈l,f x=some (g x)):l.filterMap f=l.map g:=by
 induction l with
 | nil=>rfl
 | cons x r ih=>rw [List.filterMap_cons_some (h x (.head _)),List.map_cons,ih fun y hy=>h y (.tail _ hy)]
theorem nW {m:Mode}{i:Nat}{x:Value}{Q:Option Value->Shared->Prop}(d:SetB w o es ep t) (T:SetSt w o es ep t a I m i s.heap) (hx:(m.ord w a es ep)[i]?=some x) (hi:i < es.size) (hne:I≠a) (hT:∀ tp pl,m=.drw tp pl->I≠tp)
  (h:∀ h',SetSt w o es ep t a I m (i+1) h'->Heap.SameBut I s.heap h'->Q (some x) { s with heap:=h' }):wpAny (model P w) A (pyNext (.ref I)) Q E s:=by
 have tp:s.TypeIs (.ref I) "set_iterator":=⟨_,T.it,rfl⟩
 unfold pyNext
 refine wpAny_bind (wpAny_attempt (wpAny_callSpecial?_slot (name:=Str.ofString "__next__") tp SI.slot_next (wpAny_call_entry SI.slot_next tp SI.entry_next ?_ (SI.args_next _))));show wpAny _ _ (fieldsOf (.ref I) >>= _) _ _ s;refine wpAny_bind (wpAny_fieldsOf T.it rfl ?_);show wpAny _ _ (setEntries a >>= _) _ _ s;refine wpAny_bind (wpAny_setEntries_of T.st d.dt d.fit ?_);rw [if_neg (by simp)];have fin:∀ (f:Value) (h':Heap),h'.get? I=some (qT f (i+1) a es.size ep)->f=m.first t (i+1)->Heap.SameBut I s.heap h'->Q (some x) { s with heap:=h' }:=fun f h' e1 e2 sb=>by
  subst e2;refine h h' ⟨e1,by rw [sb.2 a (Ne.symm hne)];exact T.st,?_⟩ sb;have k:=T.ok;cases m with
  | txt=>exact k
  | slt=>exact k
  | drw tp pl =>
   obtain ⟨k1,k2,k3,k4⟩:=k;exact ⟨k1,k2,k3,by rw [sb.2 tp (Ne.symm (hT tp pl rfl))];exact k4⟩
 cases m with
 | txt =>
  show wpAny _ _ (setNext a 0 (Int.toNat i) (Int.toNat ep) >>= _) _ _ s;refine wpAny_bind ?_;rw [Int.toNat_natCast,Int.toNat_natCast];refine Sq d T.st T.ok ?_;rw [hx];show wpAny _ _ (setField (.ref I) 0 (rawInt 0) >>= _) _ _ s;refine wpAny_bind (wpAny_setField_rec T.it (by simp) fun h1 e1 sb1=>?_);refine wpAny_bind (m:=setField (.ref I) 1 (rawInt (i+1))) (wpAny_setField_rec e1 (by simp) fun h2 e2 sb2=>?_);exact wpAny_pure ⟨x,rfl,wpAny_pure (fin _ h2 e2 rfl (sb1.trans sb2))⟩
 | slt =>
  obtain ⟨v,hv,hw⟩:=O8 d T.ok.2 (Nat.le_of_lt hi);rw [hv];show wpAny _ _ (setNext a (Int.toNat v) (Int.toNat i) (Int.toNat ep) >>= _) _ _ s;refine wpAny_bind ?_;rw [Int.toNat_natCast,Int.toNat_natCast,Int.toNat_natCast];refine Ss d T.st T.ok.1 T.ok.2 hw ?_;obtain ⟨y,hy,hy'⟩:=Sh d hi;have hx':(es.toList.map (·.2))[i]?=some x:=hx;rw [List.getElem?_map,Array.getElem?_toList,Array.getElem?_eq_getElem hi] at hx';cases hx';rw [Array.getElem?_eq_getElem hi,hy];have T':=T.it;rw [hv] at T';show wpAny _ _ (setField (.ref I) 0 (rawInt ((y+1:Nat):Int)) >>= _) _ _ s;refine wpAny_bind (wpAny_setField_rec T' (by simp) fun h1 e1 sb1=>?_);refine wpAny_bind (m:=setField (.ref I) 1 (rawInt (i+1))) (wpAny_setField_rec e1 (by simp) fun h2 e2 sb2=>?_);refine wpAny_pure ⟨_,rfl,wpAny_pure (fin _ h2 e2 ?_ (sb1.trans sb2))⟩;show rawInt _=Value.int _ 0;rw [hy'];rfl
 | drw tp pl =>
  obtain ⟨k1,k2,k3,k4⟩:=T.ok;show wpAny _ _ (seqItems? (.ref tp) >>= _) _ _ s;refine wpAny_bind (wpAny_seqItems k4 rfl ?_);dsimp only;rw [Int.toNat_natCast];have hl:pl.length=es.size:=by rw [k2.length_eq,List.length_range]
  have hil:i < pl.length:=by rw [hl];exact hi
  have hp:pl[i] < es.size:=List.mem_range.mp (k2.mem_iff.mp (List.getElem_mem hil));have hmap:(pl.map fun (p:Nat)=>rawInt (p:Int)).toArray[i]?=some (rawInt ((pl[i]:Nat):Int)):=by
   rw [List.getElem?_toArray,List.getElem?_map,List.getElem?_eq_getElem hil];rfl
  rw [hmap];show wpAny _ _ (setNextDrawn a (Int.toNat ((pl[i]:Nat):Int)) (Int.toNat ep) >>= _) _ _ s;refine wpAny_bind ?_;rw [Int.toNat_natCast,Int.toNat_natCast];unfold setNextDrawn;refine wpAny_bind (wpAny_setState_of T.st d.dt d.fit ?_);simp only [bne_self_eq_false,Bool.false_eq_true,if_false];rw [Array.getElem?_eq_getElem hp];refine wpAny_pure ?_;have all:∀ p∈pl,((es[p]?).map fun e:Int×Value=>e.2)=some ((es[p]?.map (·.2)).getD .none):=fun p hp=>by
   have:p < es.size:=List.mem_range.mp (k2.mem_iff.mp hp);rw [Array.getElem?_eq_getElem this];rfl
  have ho:Mode.ord w a es ep (.drw tp pl)=pl.map fun p=>(es[p]?.map (·.2)).getD .none:=by
   exact vG pl _ _ all
  rw [ho,List.getElem?_map,List.getElem?_eq_getElem hil] at hx;simp only [Option.map_some,Array.getElem?_eq_getElem hp,Option.getD_some,Option.some.injEq] at hx;subst hx;refine wpAny_bind (m:=setField (.ref I) 1 (rawInt (i+1))) (wpAny_setField_rec T.it (by simp) fun h1 e1 sb1=>?_);exact wpAny_pure ⟨_,rfl,wpAny_pure (fin _ h1 e1 rfl sb1)⟩
theorem Qy {h:Heap}{Q:Option Value->Shared->Prop}(hh:A.handled=none) (hs:∀ h',Heap.ExtBut I s.heap h'->Q none { s with heap:=h' }) (e:Heap.ExtBut I s.heap h) :
  wpAny (model P w) A.in1 (newExc (.type "StopIteration") [] >>= fun x=>(raiseNew x:Sem Fin)) (fun _ _=>False) (fun e s'=>wpAny (model P w) A (isInstance e (.type "StopIteration") >>= fun b=>if b=true then pure none else throw e) Q E s') { s with heap:=h }:=by
 refine wpAny_bind ?_;simp only [newExc,newTuple];refine wpAny_bind (wpAny_newObj_type ?_ (by size_fits));refine wpAny_bind (m:=firstArgMember _ _) (wpAny_of_eq (a:=Value.none) (by first | rfl | (simp only [firstArgMember];rfl)) (wpAny_newObj_type ?_ (by size_fits)));simp only [raiseNew];refine wpAny_bind (wpAny_handled ?_);rw [show A.in1.handled=none from hh];refine wpAny_bind (wpAny_pure (wpAny_throw ?_))
 refine wpAny_bind (wpAny_isInstance (T := "StopIteration") (b:=true) ⟨_,Heap.get?_push_size _ rfl,rfl⟩ isSubtype_stop (wpAny_pure ?_));exact hs _ ((e.push _).push _)
theorem nY {m:Mode}{Q:Option Value->Shared->Prop}(hh:A.handled=none) (d:SetB w o es ep t) (T:SetSt w o es ep t a I m es.size s.heap)
  (h:∀ h',Heap.ExtBut I s.heap h'->Q none { s with heap:=h' }):wpAny (model P w) A (pyNext (.ref I)) Q E s:=by
 have tp:s.TypeIs (.ref I) "set_iterator":=⟨_,T.it,rfl⟩
 unfold pyNext
 refine wpAny_bind (wpAny_attempt (wpAny_callSpecial?_slot (name:=Str.ofString "__next__") tp SI.slot_next (wpAny_call_entry SI.slot_next tp SI.entry_next ?_ (SI.args_next _))));show wpAny _ _ (fieldsOf (.ref I) >>= _) _ _ s;refine wpAny_bind (wpAny_fieldsOf T.it rfl ?_);show wpAny _ _ (setEntries a >>= _) _ _ s;refine wpAny_bind (wpAny_setEntries_of T.st d.dt d.fit ?_);rw [if_neg (by simp)];have len:(m.ord w a es ep)[es.size]?=none:=by
  rw [List.getElem?_eq_none_iff];have:=(Mode.perm (a:=a) (ep:=ep) T.ok).length_eq;rw [this];simp
 cases m with
 | txt =>
  show wpAny _ _ (setNext a 0 (Int.toNat es.size) (Int.toNat ep) >>= _) _ _ s;refine wpAny_bind ?_;rw [Int.toNat_natCast,Int.toNat_natCast];refine Sq d T.st T.ok ?_;rw [len];show wpAny _ _ (setField (.ref I) 2 .none >>= _) _ _ s;refine wpAny_bind (wpAny_setField_rec T.it (by simp) fun h1 e1 sb1=>?_);exact wpAny_mono (Qy (s:=s) hh h sb1.extBut) (fun _ _ z=>z.elim) fun _ _ z=>z
 | slt =>
  obtain ⟨v,hv,hw⟩:=O8 d T.ok.2 (Nat.le_refl _);rw [hv];show wpAny _ _ (setNext a (Int.toNat v) (Int.toNat es.size) (Int.toNat ep) >>= _) _ _ s;refine wpAny_bind ?_;rw [Int.toNat_natCast,Int.toNat_natCast,Int.toNat_natCast];refine Ss d T.st T.ok.1 T.ok.2 hw ?_;rw [Array.getElem?_eq_none (Nat.le_refl _)];show wpAny _ _ (setField (.ref I) 2 .none >>= _) _ _ s;refine wpAny_bind (wpAny_setField_rec T.it (by simp) fun h1 e1 sb1=>?_);exact wpAny_mono (Qy (s:=s) hh h sb1.extBut) (fun _ _ z=>z.elim) fun _ _ z=>z
 | drw tp pl =>
  obtain ⟨k1,k2,k3,k4⟩:=T.ok;show wpAny _ _ (seqItems? (.ref tp) >>= _) _ _ s;refine wpAny_bind (wpAny_seqItems k4 rfl ?_);dsimp only;rw [Int.toNat_natCast];have hl:pl.length=es.size:=by rw [k2.length_eq,List.length_range]
  rw [Array.getElem?_eq_none (by simp [hl])];show wpAny _ _ (setField (.ref I) 0 (rawInt 0) >>= _) _ _ s;refine wpAny_bind (wpAny_setField_rec T.it (by simp) fun h1 e1 sb1=>?_);refine wpAny_bind (m:=setField (.ref I) 2 .none) (wpAny_setField_rec e1 (by simp) fun h2 e2 sb2=>?_);exact wpAny_mono (Qy (s:=s) hh h (sb1.trans sb2).extBut) (fun _ _ z=>z.elim) fun _ _ z=>z
end
section
variable {P:Program}{w:World}{A:Around}{E:Value->Shared->Prop}{s:Shared}{a I:Addr}{o:Obj}{es:Array (Int×Value)}{ep n:Nat}{t:SetTable}{S:Int->Bool}
noncomputable def Mode.fp:Mode->List Addr
 | .drw tp _=>[tp]
 | _=>[]
theorem Za (hh:A.handled=none) (d:SetB w o es ep t) (m:Mode) (hne:I≠a) (hT:∀ tp pl,m=.drw tp pl->I≠tp):Walks P w A I (I::a::m.fp) [I] es.size (fun i v=>(m.ord w a es ep)[i]?=some v) (fun i h=>SetSt w o es ep t a I m i h) where
 sub:=fun b hb=>by
  rw [List.mem_singleton] at hb;subst hb;exact .head _
 frame:=fun i h h' T k=>⟨k I (.head _) _ T.it,k a (.tail _ (.head _)) _ T.st,by
  have q:=T.ok;cases m with
  | txt=>exact q
  | slt=>exact q
  | drw tp pl =>
   obtain ⟨k1,k2,k3,k4⟩:=q
   exact ⟨k1,k2,k3,k tp (.tail _ (.tail _ (.head _))) _ k4⟩⟩
 item:=fun i s Q E hi T hQ=>by
  have hl:(m.ord w a es ep).length=es.size:=by rw [(Mode.perm T.ok).length_eq];simp
  have hx:(m.ord w a es ep)[i]?=some (m.ord w a es ep)[i]:=List.getElem?_eq_getElem (by rw [hl];exact hi);exact nW d T hx hi hne hT fun h' T' sb=>hQ _ h' s.toks hx T' fun b ob hb q=>by
   rw [sb.2 b (by simpa using hb)];exact q
 done:=fun s Q E T hQ=>nY hh d T fun h' x=>hQ h' s.toks fun b ob hb q=>x b ob (by simpa using hb) q
 self:=fun i s Q E T hQ=>by
  have tp:s.TypeIs (.ref I) "set_iterator":=⟨_,T.it,rfl⟩
  refine wpAny_pyIter_slot tp SI.slot_iter (wpAny_call_entry SI.slot_iter tp SI.entry_iter ?_ (SI.args_iter _));show wpAny _ _ (ret (.ref I)) _ _ s
  exact wpAny_pure ⟨_,rfl, "set_iterator",_,tp,SI.slot_next.lookup,hQ⟩
theorem cT {Q:Value->Shared->Prop}(d:SetB w o es ep t) (e:s.heap.get? a=some o) (hlt:a < s.heap.objs.size)
  (h:∀ I m h' dr,SetSt w o es ep t a I m 0 h'->I≠a->(∀ tp pl,m=.drw tp pl->I≠tp)->(∀ b ob,s.heap.get? b=some ob->h'.get? b=some ob)->s.heap.objs.size<=I->(∀ b∈I::a::m.fp,b < h'.objs.size)->(∀ b∈m.fp,s.heap.objs.size<=b)->Q (.ref I) { s with heap:=h',drawn:=dr }) :
  wpAny (model P w) A (pyIter (.ref a)) Q E s:=by
 have tp:s.TypeIs (.ref a) "set":=⟨o,e,d.ex.1⟩
 refine wpAny_pyIter_slot tp F.slot_set_iter (wpAny_call_entry F.slot_set_iter tp SI.entry_siter ?_ (F.args_set_iter_1 _));unfold Builtin.«frozenset.__iter__»
 refine wpAny_bind (m:=Builtin.Frozenset.slot0 "__iter__" _) (wpAny_of_eq (a:=a) (by rfl) ?_);refine wpAny_bind (m:=Builtin.Frozenset.sizeOf a) (wpAny_bind (wpAny_setEntries_of e d.dt d.fit (wpAny_pure ?_)));refine wpAny_bind (m:=setDrawn a) (wpAny_bind (wpAny_setState_of e d.dt d.fit ?_));dsimp only;refine wpAny_bind (m:=setsByText) (wpAny_bind (wpAny_askSetting (wpAny_pure (wpAny_pure ?_))));have last:∀ (f:Value) (m:Mode) (h1:Heap) (dr:_),h1.get? a=some o->f=m.first t 0->(∀ hx,(∀ b ob,h1.get? b=some ob->hx.get? b=some ob)->m.ok w es t hx)->(∀ b ob,s.heap.get? b=some ob->h1.get? b=some ob)->(∀ b∈m.fp,b < h1.objs.size/\s.heap.objs.size<=b)->s.heap.objs.size<=h1.objs.size->a < h1.objs.size ->
   wpAny (model P w) A.in1 (setEpoch a >>= fun k=>newFields "set_iterator" [f,rawInt 0,.ref a,rawInt es.size,rawInt k] >>= fun v=>ret v) (fun f s'=>∃ v,f=.done (.ret v)/\∃ T' r,s'.TypeIs v T'/\typeLookup (.type T') "__next__"=pure (some r)/\Q v s') (fun e s'=>E e s') { s with heap:=h1,drawn:=dr }:=fun f m h1 dr e1 ef ok keep hf hsz ha=>by
  refine wpAny_bind (wpAny_setEpoch_of (s:={ s with heap:=h1,drawn:=dr }) e1 d.dt d.fit ?_)
  refine wpAny_bind (wpAny_newObj_type (wpAny_pure ⟨_,rfl, "set_iterator",_,⟨_,Heap.get?_push_size _ rfl,rfl⟩,SI.slot_next.lookup,?_⟩));subst ef;refine h _ m _ dr ⟨Heap.get?_push_size _ rfl,Heap.get?_push_of_some _ e1,ok _ fun b ob q=>Heap.get?_push_of_some _ q⟩ (Nat.ne_of_gt ha) (fun tp pl em=>?_) (fun b ob q=>Heap.get?_push_of_some _ (keep b ob q)) hsz (fun b hb=>?_) fun b hb=>(hf b hb).2
  ·subst em;exact Nat.ne_of_gt (hf tp (.head _)).1
  ·show b < (h1.push _).objs.size;rw [Heap.size_push];rcases List.mem_cons.mp hb with rfl|hb
   ·exact Nat.lt_succ_self _
   ·rcases List.mem_cons.mp hb with rfl|hb
    ·exact Nat.lt_succ_of_lt ha
    ·exact Nat.lt_succ_of_lt (hf b hb).1
 have self:{ s with heap:=s.heap,drawn:=s.drawn }=s:=rfl
 cases hb:w.params.followText "set-order" with
 | true =>
  have hb':(model P w).w.params.followText "set-order"=true:=hb
  rw [hb'];split
  ·rename_i hd;have hd:(!true&&(!t.plain&&decide (es.size > 1)))=true:=hd;cases hd
  ·refine wpAny_bind (wpAny_pure ?_);exact last _ .txt s.heap s.drawn e rfl (fun _ _=>hb) (fun _ _ q=>q) (fun b hb=>by cases hb) (Nat.le_refl _) hlt
 | false =>
  have hb':(model P w).w.params.followText "set-order"=false:=hb
  rw [hb'];split
  ·rename_i hd;have hd:(!false&&(!t.plain&&decide (es.size > 1)))=true:=hd;refine wpAny_bind (Xb es.size _ _ _ List.length_range fun ys dr hp=>?_)
   refine wpAny_bind (m:=newTuple _) (wpAny_newObj_type ?_ (by
    show (ys.map _).toArray.size<=sizeLine;have:=fits_of_scanBound d.few
    simp [hp.length_eq];exact this))
   refine last _ (.drw s.heap.objs.size ys) _ dr (Heap.get?_push_of_some _ e) rfl (fun hx k=>⟨hb,hp,0,k _ _ (Heap.get?_push_size _ rfl)⟩) (fun b ob q=>Heap.get?_push_of_some _ q) (fun b hb=>?_) ?_ ?_
   ·have hb:b∈[s.heap.objs.size]:=hb;rw [List.mem_singleton] at hb;subst hb;rw [Heap.size_push];exact ⟨Nat.lt_succ_self _,Nat.le_refl _⟩
   ·rw [Heap.size_push];exact Nat.le_succ _
   ·rw [Heap.size_push];exact Nat.lt_succ_of_lt hlt
  ·rename_i hd;have hd:¬ (!false&&(!t.plain&&decide (es.size > 1)))=true:=hd;refine wpAny_bind (wpAny_pure ?_);refine last _ .slt s.heap s.drawn e rfl (fun _ _=>⟨hb,?_⟩) (fun _ _ q=>q) (fun b hb=>by cases hb) (Nat.le_refl _) hlt;cases hp:t.plain with
   | true=>exact .inl rfl
   | false =>
    right;rw [hp] at hd
    simpa using hd
theorem Ke {Q:List Value->Shared->Prop}(hh:A.handled=none) (d:SetB w o es ep t) (e:s.heap.get? a=some o)
  (hQ:∀ h' dr tk vs,vs.Perm (es.toList.map (·.2))->(∀ b ob,s.heap.get? b=some ob->h'.get? b=some ob)->s.heap.objs.size<=h'.objs.size->s.toks<=tk->Q vs { s with heap:=h',drawn:=dr,toks:=tk }):wpAny (model P w) A (collect (.ref a)) Q E s:=by
 have la:a < s.heap.objs.size:=Heap.lt_size e;have na:s.heap.objs.size≠a:=Nat.ne_of_gt la;unfold collect;refine wpAny_bind (wpAny_runValue (codeAny_builtin F.entry_proto_collect ?_));rw [Around.under_plainId F.plain_proto_collect _];refine wpAny_bind (m:=newList []) (wpAny_newObj_type (wpAny_pure ⟨plainId_quiet F.plain_list_iadd _,codeAny_builtin F.entry_list_iadd ?_⟩));rw [Around.under_plainId F.plain_list_iadd _];show wpAny _ A.in1 (Builtin.List.listExtendWith (.ref s.heap.objs.size) (.ref a) (.ref s.heap.objs.size)) _ _ _;unfold Builtin.List.listExtendWith
 have e1:(s.heap.push { cls:=.type "list",data:=.seq ([]:List Value).toArray }).get? a=some o:=Heap.get?_push_of_some _ e
 have tp:Shared.TypeIs { s with heap:=s.heap.push { cls:=.type "list",data:=.seq ([]:List Value).toArray } } (.ref a) "set":=⟨o,e1,d.ex.1⟩
 refine wpAny_bind (wpAny_typeOf tp ?_);have h1:Builtin.List.listSameRef (.ref s.heap.objs.size) (.ref a)=false:=by simp [Builtin.List.listSameRef,na]
 have h2:(Value.type "set"==Value.type "list")=false:=by decide
 have h3:(Value.type "set"==Value.type "tuple")=false:=by decide
 simp only [h1,h2,h3,Bool.or_false,Bool.false_eq_true,if_false];refine wpAny_bind (cT d e1 (by show a < (s.heap.push _).objs.size;rw [Heap.size_push];exact Nat.lt_succ_of_lt la) fun I m h' dr T ne neT keep hI hfp hfn=>?_)
 have tp':Shared.TypeIs { s with heap:=h',drawn:=dr } (.ref a) "set":=⟨o,T.st,d.ex.1⟩
 refine wpAny_bind (wpAny_holding ?_);unfold Builtin.List.listLengthHint;refine wpAny_bind (wpAny_specialOf tp' F.slot_set_len.lookup ?_)
 have hsp:splitId "set.__len__"=some ("set", "__len__"):=by decide +kernel
 generalize hid:("set.__len__":String)=id0 at hsp ⊢;dsimp only;rw [hsp];subst hid;dsimp only;refine wpAny_bind (wpAny_isInstance (b:=true) tp' sub_set_self ?_);rw [if_neg (by decide)];rw [if_pos (by decide +kernel)];refine wpAny_bind (wpAny_typeOf tp' ?_);refine wpAny_pure ?_;rw [if_pos (by decide +kernel)];refine wpAny_bind (wpAny_rule ?_)
 have hS:h'.get? s.heap.objs.size=some { cls:=.type "list",data:=.seq ([]:List Value).toArray }:=keep _ _ (Heap.get?_push_size _ rfl);refine wpAny_bind (m:=updateSeq s.heap.objs.size (·.push .none) >>= fun _=>updateSeq s.heap.objs.size (·.pop)) (wpAny_bind (wpAny_updateSeq hS rfl ?_));have hS2:=Heap.get?_update_self (Obj.mapSeq (·.push Value.none)) hS rfl;refine wpAny_updateSeq hS2 rfl ?_;have hS3:=Heap.get?_update_self (Obj.mapSeq (·.pop)) hS2 rfl;have oth:∀ b ob,b≠s.heap.objs.size->h'.get? b=some ob->((h'.update s.heap.objs.size (Obj.mapSeq (·.push Value.none))).update s.heap.objs.size (Obj.mapSeq (·.pop))).get? b=some ob:=fun b ob nb q=>(Heap.get?_update_other _ _ (Ne.symm nb)).trans ((Heap.get?_update_other _ _ (Ne.symm nb)).trans q)
 have W:=Za (P:=P) (A:=A.in1) (I:=I) (by simp [hh]) d m ne neT
 have sz1:(s.heap.push { cls:=.type "list",data:=.seq ([]:List Value).toArray }).objs.size=s.heap.objs.size+1:=Heap.size_push ..;have nf:s.heap.objs.size ∉ I::a::m.fp:=fun z=>by
  rcases List.mem_cons.mp z with z|z
  ·have hI:s.heap.objs.size+1<=I:=by rw [← sz1];exact hI
   rw [← z] at hI;exact Nat.not_succ_le_self _ hI
  ·rcases List.mem_cons.mp z with z|z
   ·exact na z
   ·have:=hfn _ z;have:s.heap.objs.size+1<=s.heap.objs.size:=by rw [← sz1];exact this
    exact Nat.not_succ_le_self _ this
 obtain ⟨c0,hS4⟩:∃ c,((h'.update s.heap.objs.size (Obj.mapSeq (·.push Value.none))).update s.heap.objs.size (Obj.mapSeq (·.pop))).get? s.heap.objs.size=some { cls:=.type "list",dict:=none,data:=.seq #[] c,slots:=#[] }:=⟨_,hS3⟩;have T3:SetSt w o es ep t a I m 0 ((h'.update s.heap.objs.size (Obj.mapSeq (·.push Value.none))).update s.heap.objs.size (Obj.mapSeq (·.pop))):=W.frame 0 _ _ T fun b hb ob q=>oth b ob (fun z=>nf (by rw [← z];exact hb)) q
 refine wpAny_pure ⟨plainId_quiet F.plain_extend_loop _,codeAny_extend_loopS W.toS (fits_of_scanBound d.few) _ nf _ es.size 0 _ _ _ rfl (Nat.zero_le _) T3 hS4 (ItemsOf.nil _) fun s' acc c mv hA hI'=>?_⟩;refine wpAny_bind (m:=load s.heap.objs.size) (wpAny_load hA ?_);obtain ⟨h2,g2,d2,tk2,os2⟩:=s';have q1:g2=s.gens:=mv.gens;have q2:d2=dr:=mv.drawn;have q3:os2=s.os:=mv.os;have q4:s.toks<=tk2:=mv.toks;subst q1;subst q2;subst q3;have hl:(m.ord w a es ep).length=es.size:=by rw [(Mode.perm T.ok).length_eq];simp
 have same:acc.toList=m.ord w a es ep:=by
  refine List.ext_getElem? fun i=>?_
  rw [Array.getElem?_toList]
  by_cases hi:i < es.size
  ·have:i < acc.size:=by rw [hI'.1];exact hi
   rw [Array.getElem?_eq_getElem this];exact (hI'.2 i _ (Array.getElem?_eq_getElem this)).symm
  ·rw [Array.getElem?_eq_none (by rw [hI'.1];omega),List.getElem?_eq_none (by rw [hl];omega)]
 refine wpAny_pure (hQ h2 d2 tk2 acc.toList (by rw [same];exact Mode.perm T.ok) (fun b ob q=>?_) (Nat.le_of_lt (Heap.lt_size hA)) q4);have lb:b < s.heap.objs.size:=Heap.lt_size q;refine mv.heap b ob ?_ (oth b ob (Nat.ne_of_lt lb) (keep b ob (Heap.get?_push_of_some _ q)));intro z;rcases List.mem_cons.mp z with z|z
 ·exact absurd z (Nat.ne_of_lt lb)
 ·rw [List.mem_singleton] at z;have hI:s.heap.objs.size+1<=I:=by rw [← sz1];exact hI
  rw [← z] at hI;exact absurd (Nat.lt_of_lt_of_le lb (Nat.le_of_succ_le hI)) (Nat.lt_irrefl _)
end
theorem Gu:∀ {l l':List Int},l.Nodup->(∀ x∈l,x∈l')->l'.length<=l.length->l.Perm l'
 | [],l',_,_,h=>by
  have:l'=[]:=List.length_eq_zero_iff.mp (Nat.le_zero.mp h);rw [this]
 | a::r,l',nd,sub,h=>by
  obtain ⟨na,nr⟩:=List.nodup_cons.mp nd;have ha:=sub a (.head _);refine .trans (.cons a ?_) (List.perm_cons_erase ha).symm;refine Gu nr (fun x hx=>(List.mem_erase_of_ne (fun e=>na (by rw [← e];exact hx))).mpr (sub x (.tail _ hx))) ?_;have:=List.length_erase_of_mem ha;simp at h;omega
theorem Mi:∀ {l l':List Int},l.Nodup->(∀ x∈l,x∈l')->l.length<=l'.length
 | [],l',_,_=>Nat.zero_le _
 | a::r,l',nd,sub=>by
  obtain ⟨na,nr⟩:=List.nodup_cons.mp nd;have ha:=sub a (.head _);have:=Mi (l':=l'.erase a) nr fun x hx=>(List.mem_erase_of_ne (fun e=>na (by rw [← e];exact hx))).mpr (sub x (.tail _ hx))
  have h2:=List.length_erase_of_mem ha;have h3:=List.length_pos_of_mem ha;rw [List.length_cons];omega
theorem nZ (val:Nat->Int) (i:Nat) (k:Int):k∈firstMet val i ↔ k∈(List.range i).map val:=by
 have h:=firstMet_any val i k;have q:∀ l:List Int,l.any (·==k)=true ↔ k∈l:=fun l=>by simp
 rw [← q,← q,h]
theorem Jt (val:Nat->Int):∀ i,(firstMet val i).Nodup
 | 0=>.nil
 | i+1=>by
  rw [firstMet_succ];unfold step_dedup;split
  ·exact Jt val i
  ·rename_i h;rw [List.nodup_append];refine ⟨Jt val i,List.pairwise_singleton _ _,fun a ha b hb e=>h ?_⟩;rw [List.mem_singleton] at hb;subst hb;subst e;simp [ha]
theorem O9 {ns:List Int}{k:Int}:k∈Bo ns ↔ k∈ns:=by
 unfold Bo;rw [nZ];constructor
 ·intro h;obtain ⟨i,hi,rfl⟩:=List.mem_map.mp h;rw [List.mem_range] at hi;rw [List.getD_eq_getElem?_getD,List.getElem?_eq_getElem hi];exact List.getElem_mem hi
 ·intro h;obtain ⟨i,hi,rfl⟩:=List.getElem_of_mem h;refine List.mem_map.mpr ⟨i,List.mem_range.mpr hi,?_⟩;rw [List.getD_eq_getElem?_getD,List.getElem?_eq_getElem hi];rfl
theorem Kf (ns:List Int):(Bo ns).Nodup:=Jt _ _
noncomputable def Iv (ns:List Int):List Int:=(Bo ns).mergeSort fun a b=>decide (a<=b)
theorem Ia (ns:List Int):(Iv ns).Perm (Bo ns):=List.mergeSort_perm _ _
theorem cU (ns:List Int):(Iv ns).Pairwise (·<=·):=by
 have:=List.pairwise_mergeSort (le:=fun a b:Int=>decide (a<=b)) (fun a b c h1 h2=>by simp at *;omega) (fun a b=>by simp;omega) (Bo ns);exact this.imp fun h=>of_decide_eq_true h
theorem cV {l l':List Int}(p:l.Perm l') (h:l.Pairwise (·<=·)) (h':l'.Pairwise (·<=·)):l=l':=p.eq_of_pairwise (le:=(·<=·)) (fun a b _ _ x y=>Int.le_antisymm x y) h h'
theorem cW {ns l:List Int}(p:l.Perm (Bo ns)) (h:l.Pairwise (·<=·)):l=Iv ns:=cV (p.trans (Ia ns).symm) h (cU ns)
theorem ints_map {P:Program}{w:World}:∀ {l:List (Int×Value)},ElemsOf (intKind P w) l->∃ ks,IntsAre (l.map (·.2)) ks
 | [],_=>⟨[],.nil⟩
 | e::r,h=>by
  obtain ⟨ks,hk⟩:=ints_map h.tail;obtain ⟨⟨k,h1,_⟩,_⟩:=h.head;obtain ⟨t,h2⟩:=Value.isInt_shape h1;exact ⟨k::ks,by rw [List.map_cons,h2];exact .cons k t hk⟩
theorem Sv:∀ {vs:List Value}{ks:List Int},IntsAre vs ks->∀ k,k∈ks ↔ ∃ v∈vs,Value.isInt k v=true
 | _,_,.nil,k=>by simp
 | _,_,.cons n t h,k=>by
  rw [List.mem_cons,Sv h k];constructor
  ·rintro (rfl | ⟨v,hv,q⟩)
   ·exact ⟨_,.head _,by simp [Value.isInt]⟩
   ·exact ⟨v,.tail _ hv,q⟩
  ·rintro ⟨v,hv,q⟩;rcases List.mem_cons.mp hv with rfl|hv
   ·left;simp [Value.isInt] at q;first | exact q | exact q.symm
   ·right;exact ⟨v,hv,q⟩
theorem Zc {vs us:List Value}(p:vs.Perm us):∀ {ks:List Int},IntsAre us ks->∃ ks',IntsAre vs ks'/\ks'.Perm ks:=by
 induction p with
 | nil=>exact fun h=>⟨_,h,.refl _⟩
 | cons x p ih =>
  intro ks h;cases h with
  | cons n t h=>obtain ⟨ks',h1,h2⟩:=ih h;exact ⟨n::ks',.cons n t h1,h2.cons n⟩
 | swap x y l =>
  intro ks h;cases h with
  | cons n t h =>
   cases h with
   | cons m u h=>exact ⟨m::n::_,.cons m u (.cons n t h),.swap _ _ _⟩
 | trans p q ih1 ih2 =>
  intro ks h;obtain ⟨k1,a1,a2⟩:=ih2 h;obtain ⟨k2,b1,b2⟩:=ih1 a1;exact ⟨k2,b1,b2.trans a2⟩
theorem Ez:∀ {us:List Value}{ns:List Int},IntsAre us ns->Vals (ns.map V.int) us
 | _,_,.nil=>.nil
 | _,_,.cons n t h=>.cons ⟨t,rfl⟩ (Ez h)
noncomputable abbrev cX (ns:List Int):Int->Bool:=fun j=>(Bo ns).any (·==j)
theorem cY {P:Program}{w:World}{o:Obj}{es:Array (Int×Value)}{ep:Nat}{t:SetTable}{ns:List Int}(d:SetD P w o es ep t (cX ns) (Bo ns).length):∃ ks,IntsAre (es.toList.map (·.2)) ks/\ks.Perm (Bo ns):=by
 obtain ⟨ks,hk⟩:=ints_map d.el;refine ⟨ks,hk,(Gu (Kf ns) (fun k hk'=>?_) ?_).symm⟩
 ·obtain ⟨e,he,q⟩:=(d.mem k).mp (by simp [cX,hk']);exact (Sv hk k).mpr ⟨e.2,List.mem_map.mpr ⟨e,he,rfl⟩,q⟩
 ·have:=hk.length;rw [List.length_map,Array.length_toList,d.sz] at this;omega
section
variable {X:Cx}
theorem Pa {pins:List (Addr×Obj)}{σ:L2.St}{H:Hp}{s:Shared}(I:Inv X pins σ H s) (d:_):Inv X pins σ H { s with drawn:=d }:=⟨I.ok,I.os,I.bare,I.base,I.loc,I.cell,I.free,I.freeC,I.pin,I.hok,I.len⟩
noncomputable def Vp (P:Program) (w:World) (a:Addr) (ns:List Int):HO:=.ext fun h=>Ew P w h a (cX ns) (Bo ns).length
theorem Xc {P:Program}{w:World}{H:Hp}{h:Heap}{a:Addr}{ns:List Int}(g:Ew P w h a (cX ns) (Bo ns).length):Dh P w H h a (Vp P w a ns) :=
 ⟨g,let ⟨o,_,_,_,e,_⟩:=g;⟨o,e⟩,fun h1 h2 g k=>g.stay k⟩
theorem Xd {P:Program}{w:World}{H:Hp}{h:Heap}{a:Addr}{ns:List Int}(k:HOk P w H h) (e:H a=some (Vp P w a ns)):Ew P w h a (cX ns) (Bo ns).length:=(k a _ e).1
theorem Zd (hc:X.calm=true):Az X (.type "set") (fun xs H Q=>∃ p ns,xs=[.ref p]/\SqL X.K H p (ns.map V.int)/\ns.length+1 < scanBound/\∀ a,H a=none->Q (.ref a) (upd H a (Vp X.prog X.w a ns))):=by
 rintro pins s σ H xs us Q I r ⟨p,ns,e,sq,hb,q⟩;subst e;obtain ⟨u,rfl,rx⟩:=vals1 r;cases rx;obtain ⟨its,rv,pl,hz⟩:=I.list sq;have hi:=intsAre_of rv;refine Y8 (I.ok.hd hc) pl.isList (by simpa using hi) (by rw [List.size_toArray,hi.length];exact hb) fun h' tk g kp ht=>?_
 exact ⟨.ref s.heap.objs.size,_,I.laid (t':=tk) (fun b o e=>kp b o (Heap.lt_size e) e) (Nat.le_refl _) (Xc g),rfl,q _ (I.hok.fresh (Nat.le_refl _))⟩
theorem Ze (hc:X.calm=true):Az X (.type "set") (fun xs H Q=>∃ p ns,xs=[.ref p]/\SqT X.K H p (ns.map V.int)/\ns.length+1 < scanBound/\∀ a,H a=none->Q (.ref a) (upd H a (Vp X.prog X.w a ns))):=by
 rintro pins s σ H xs us Q I r ⟨p,ns,e,sq,hb,q⟩;subst e;obtain ⟨u,rfl,rx⟩:=vals1 r;cases rx;obtain ⟨its,rv,pl,hz⟩:=I.tuple sq;have hi:=intsAre_of rv;refine Vo (I.ok.hd hc) pl (by simpa using hi) (by rw [List.size_toArray,hi.length];exact hb) fun h' tk g kp ht=>?_
 exact ⟨.ref s.heap.objs.size,_,I.laid (t':=tk) (fun b o e=>kp b o (Heap.lt_size e) e) (Nat.le_refl _) (Xc g),rfl,q _ (I.hok.fresh (Nat.le_refl _))⟩
theorem Pb (hc:X.calm=true):Az X (.type "set") (fun xs H Q=>∃ p ns,xs=[.ref p]/\(SqL X.K H p (ns.map V.int)\/SqT X.K H p (ns.map V.int))/\ns.length+1 < scanBound/\∀ a,H a=none->Q (.ref a) (upd H a (Vp X.prog X.w a ns))):=by
 rintro pins s σ H xs us Q I r ⟨p,ns,e,sq,hb,q⟩;rcases sq with sq|sq
 ·exact Zd hc pins s σ H xs us Q I r ⟨p,ns,e,sq,hb,q⟩
 ·exact Ze hc pins s σ H xs us Q I r ⟨p,ns,e,sq,hb,q⟩
theorem Sw:Az X (.builtin "len") (fun xs H Q=>∃ a ns,xs=[.ref a]/\H a=some (Vp X.prog X.w a ns)/\Q (.int (Bo ns).length) H):=by
 rintro pins s σ H xs us Q I r ⟨a,ns,e,hH,q⟩;subst e;obtain ⟨u,rfl,rx⟩:=vals1 r;cases rx;obtain ⟨o,es,ep,t,e,d⟩:=Xd I.hok hH;have lt:(es.size:Int) < 2 ^ 63:=by
  have:=d.few;unfold scanBound at this;omega
 refine PySem.call_len_set e d.ex d.dt d.fit lt ⟨.int (Bo ns).length,H,I.tok _,⟨_,by rw [d.sz]⟩,q⟩
theorem Mj (hc:X.calm=true):Az X (.builtin "sorted") (fun xs H Q=>∃ a ns,xs=[.ref a]/\H a=some (Vp X.prog X.w a ns)/\(Bo ns).length < 64/\∀ l,H l=none->Q (.ref l) (upd H l (.lst ((Iv ns).map V.int)))):=by
 rintro pins s σ H xs us Q I r ⟨a,ns,e,hH,h64,q⟩;subst e;obtain ⟨u,rfl,rx⟩:=vals1 r;cases rx;obtain ⟨o,es,ep,t,e,d⟩:=Xd I.hok hH;obtain ⟨ks,hk,pk⟩:=cY d;refine Calls.call_function_entry kind_sorted plain_sorted entry_sorted (args_sorted1 _) ?_;unfold Builtin.«sorted»
 refine wpAny_bind (m:=checkCount "sorted" 1 1 _) (wpAny_pure (wpAny_bind (Ke (by simp [I.ok.hd hc]) d.b e fun h' dr tk vs pv kp len ht=>?_)));obtain ⟨k2,hk2,pk2⟩:=Zc pv hk;have lv:vs.length < 64:=by rw [hk2.length,pk2.length_eq,pk.length_eq];exact h64
 refine wpAny_bind (wpAny_newList ?_);refine wpAny_bind (wpAny_holding (wpAny_call_entry slot_list_sort ⟨_,Heap.get?_push_size _ rfl,rfl⟩ entry_list_sort (list_sort_tree (vs:=vs) (ns:=k2) (n:=0) (Heap.get?_push_size _ rfl) hk2 lv fun out ns' a1 a2 a3=>⟨_,rfl,?_⟩) (args_list_sort _)));have es':ns'=Iv ns:=cW ((a2.trans pk2).trans pk) a3;subst es'
 obtain ⟨c,at'⟩:=sortedHeap_at (h:=h'.push (seqObj "list" vs.toArray 0)) (a:=h'.objs.size) (vs:=vs) (n:=0) (out:=out) (Heap.get?_push_size _ rfl);have I2:=Pa I dr;refine wpAny_pure ⟨_,rfl,.ref h'.objs.size,_,I2.laid (t':=tk) (a:=h'.objs.size) (o:=.lst ((Iv ns).map V.int)) (fun b ob q=>?_) len ⟨?_,out.toList,c,?_,?_⟩,rfl,q _ (I.hok.fresh len)⟩
 ·have lb:b < h'.objs.size:=Heap.lt_size (kp b ob q);rw [sortedHeap_old (Nat.ne_of_lt lb) (by rw [size_push'];exact Nat.lt_succ_of_lt lb)];exact Heap.get?_push_of_some _ (kp b ob q)
 ·rw [List.length_map,(Ia ns).length_eq,sizeLine_eq];omega
 ·exact Ez a1
 ·rw [at']
end
section
variable {P:Program}{w:World}{A:Around}{E:Value->Shared->Prop}{s:Shared}{a b:Addr}{o o':Obj}{es es':Array (Int×Value)}{ep n ep' n':Nat}{t t':SetTable}{S S':Int->Bool}
end
noncomputable def Aaz (ns ms:List Int):Bool:=ns.all (fun k=>ms.contains k)&&ms.all fun k=>ns.contains k
noncomputable def pth (t:SetTable) (h:Int):Nat->SetTable.Probe
 | 0=>t.probeStart h
 | n+1=>t.advance (pth t h n)
theorem Sx {t t':SetTable}(hm:t.mask=t'.mask) (h:Int):∀ n,pth t h n=pth t' h n
 | 0=>by simp only [pth,SetTable.probeStart,hm]
 | n+1=>by
  simp only [pth,Sx hm h n,SetTable.advance,hm]
noncomputable def lp (M:Nat) (h:Int):Nat->Nat×Nat
 | 0=>(SetTable.bits h % (M+1),SetTable.bits h)
 | k+1=>SetTable.leap M (lp M h k).1 (lp M h k).2
noncomputable def st (M:Nat) (h:Int):Nat->Nat
 | 0=>0
 | k+1=>st M h k+(SetTable.runEnd M (lp M h k).1 - (lp M h k).1)+1
theorem Vq (M i:Nat):i<=SetTable.runEnd M i/\SetTable.runEnd M i<=i+9:=by
 unfold SetTable.runEnd;split <;> omega
theorem Qz (t:SetTable) (h:Int):∀ (k d:Nat),d<=SetTable.runEnd t.mask (lp t.mask h k).1 - (lp t.mask h k).1 ->
  pth t h (st t.mask h k+d)=⟨(lp t.mask h k).1+d,SetTable.runEnd t.mask (lp t.mask h k).1 - (lp t.mask h k).1 - d,(lp t.mask h k).1,(lp t.mask h k).2,none⟩
 | 0,0,_=>rfl
 | k+1,0,_=>by
  have e:=Qz t h k (SetTable.runEnd t.mask (lp t.mask h k).1 - (lp t.mask h k).1) (Nat.le_refl _);show t.advance (pth t h (st t.mask h k+(SetTable.runEnd t.mask (lp t.mask h k).1 - (lp t.mask h k).1)))=_;rw [e];unfold SetTable.advance;dsimp only;rw [if_neg (by omega)];rfl
 | k,d+1,hd=>by
  have e:=Qz t h k d (by omega);show t.advance (pth t h (st t.mask h k+d))=_;rw [e];unfold SetTable.advance;dsimp only;rw [if_pos (by omega)];rfl
theorem oA (h:Int):SetTable.bits h < 2 ^ 64:=by
 unfold SetTable.bits;have:=Int.emod_lt_of_pos h (show (0:Int) < 2 ^ 64 by decide);have:=Int.emod_nonneg h (show (2 ^ 64:Int)≠0 by decide);omega
theorem Xe (M:Nat) (h:Int):∀ k,(lp M h k).2=SetTable.bits h / 32 ^ k
 | 0=>by show _=_ / 1;rw [Nat.div_one];rfl
 | k+1=>by
  show (lp M h k).2 / 32=_;rw [Xe M h k,Nat.div_div_eq_div_mul,Nat.pow_succ]
theorem oE (M:Nat) (h:Int) (k:Nat):(lp M h (13+k)).2=0:=by
 rw [Xe];refine Nat.div_eq_of_lt (Nat.lt_of_lt_of_le (oA h) ?_);exact Nat.le_trans (show 2 ^ 64<=32 ^ 13 by decide) (Nat.pow_le_pow_right (by decide) (by omega))
theorem cZ (M:Nat) (h:Int) (k:Nat):(lp M h k).1 < M+1:=by
 cases k with
 | zero=>exact Nat.mod_lt _ (by omega)
 | succ k=>exact Nat.mod_lt _ (by omega)
theorem Xf (M:Nat) (h:Int) (k:Nat):st M h k < st M h (k+1)/\st M h (k+1)<=st M h k+10:=by
 have:=Vq M (lp M h k).1;show _ < st M h k+_+1/\st M h k+_+1<=_;omega
theorem vH (M:Nat) (h:Int) (k q:Nat):st M h k<=st M h (k+q)/\st M h (k+q)<=st M h k+10 * q:=by
 induction q with
 | zero=>exact ⟨Nat.le_refl _,Nat.le_refl _⟩
 | succ q ih =>
  have:=Xf M h (k+q);show _<=st M h (k+q+1)/\st M h (k+q+1)<=_;omega
theorem Xg (M:Nat) (h:Int):∀ n,∃ k,n<=st M h k/\st M h k<=n+9
 | 0=>⟨0,Nat.le_refl _,Nat.zero_le _⟩
 | n+1=>by
  obtain ⟨k,a,b⟩:=Xg M h n
  by_cases e:st M h k=n
  ·have:=Xf M h k;exact ⟨k+1,by omega,by omega⟩
  ·exact ⟨k,by omega,by omega⟩
noncomputable def Mk2 (M:Nat):Prop:=M=7\/M=31
theorem go8:∀ i,i < 8->∀ j,j < 8->∃ k,k < 8/\(Nat.repeat (fun i=>(i * 5+1) % 8) k i)=j:=by decide
theorem Acs:∀ i,i < 32->∀ j,j < 32->∃ k,k < 32/\(Nat.repeat (fun i=>(i * 5+1) % 32) k i)=j:=by decide +kernel
theorem dD {M:Nat}(hM:Mk2 M) (h:Int) (n j:Nat) (hj:j < M+1):∃ q,q < M+1/\(lp M h (13+(n+q))).1=j:=by
 have stp:∀ k,(lp M h (13+(n+(k+1)))).1=((lp M h (13+(n+k))).1 * 5+1) % (M+1):=fun k=>by
  have e:=oE M h (n+k);show ((lp M h (13+(n+k))).1 * 5+1+(lp M h (13+(n+k))).2 / 32) % (M+1)=_;rw [e]
 have rp:∀ k,(lp M h (13+(n+k))).1=Nat.repeat (fun i=>(i * 5+1) % (M+1)) k (lp M h (13+n)).1:=fun k=>by
  induction k with
  | zero=>rfl
  | succ k ih=>rw [stp k,ih];rfl
 have c:=cZ M h (13+n);rcases hM with rfl|rfl
 ·obtain ⟨k,hk,ek⟩:=go8 _ c j hj;exact ⟨k,hk,by rw [rp];exact ek⟩
 ·obtain ⟨k,hk,ek⟩:=Acs _ c j hj;exact ⟨k,hk,by rw [rp];exact ek⟩
noncomputable def tab (M:Nat):SetTable:={ SetTable.fresh 0 0 true with mask:=M }
noncomputable def pj (M:Nat) (h:Int) (n:Nat):Nat:=(pth (tab M) h n).j
theorem dF {t:SetTable}{M:Nat}(hm:t.mask=M) (h:Int) (n:Nat):(pth t h n).j=pj M h n:=by rw [Sx (t':=tab M) hm];rfl
theorem Pg (M:Nat) (h:Int) {k d:Nat}(hd:d<=SetTable.runEnd M (lp M h k).1 - (lp M h k).1):pj M h (st M h k+d)=(lp M h k).1+d:=by
 exact congrArg SetTable.Probe.j (Qz (tab M) h k d hd)
theorem dG (M:Nat) (h:Int):∀ n,∃ k d,d<=SetTable.runEnd M (lp M h k).1 - (lp M h k).1/\n=st M h k+d
 | 0=>⟨0,0,Nat.zero_le _,rfl⟩
 | n+1=>by
  obtain ⟨k,d,hd,e⟩:=dG M h n
  by_cases q:d < SetTable.runEnd M (lp M h k).1 - (lp M h k).1
  ·exact ⟨k,d+1,q,by rw [e];rfl⟩
  ·refine ⟨k+1,0,Nat.zero_le _,?_⟩;show n+1=st M h k+(SetTable.runEnd M (lp M h k).1 - (lp M h k).1)+1;omega
theorem dH {M i:Nat}(h:i < M+1):SetTable.runEnd M i < M+1:=by
 unfold SetTable.runEnd;split <;> omega
theorem Aa0 (M:Nat) (h:Int) (n:Nat):pj M h n < M+1:=by
 obtain ⟨k,d,hd,rfl⟩:=dG M h n;rw [Pg M h hd];have:=dH (cZ M h k);have:=Vq M (lp M h k).1;omega
theorem Zf (t:SetTable) (h:Int) (n:Nat):(pth t h n).dummy=none:=by
 obtain ⟨k,d,hd,rfl⟩:=dG t.mask h n;rw [Qz t h k d hd]
theorem dI {M:Nat}(hM:Mk2 M) (h:Int) (n0 j:Nat) (hj:j < M+1):∃ n,n0<=n/\n < n0+10 * (M+15)/\pj M h n=j:=by
 obtain ⟨k,a,b⟩:=Xg M h n0;obtain ⟨q,hq,e⟩:=dD hM h k j hj;have f:=vH M h k (13+q);rw [show k+(13+q)=13+(k+q) by omega] at f;refine ⟨st M h (13+(k+q)),by omega,by omega,?_⟩;have:=Pg M h (k:=13+(k+q)) (d:=0) (Nat.zero_le _);rw [Nat.add_zero,Nat.add_zero] at this;rw [this,e]
theorem Xh {t:SetTable}{M:Nat}(hm:t.mask=M) {ha:Nat->Int}{h:Int}:∀ (d f n:Nat),d < f->(∀ k,n<=k->k < n+d->∃ i,t.slot (pj M h k)=.live i/\ha i≠h)->SetTable.probe.go t ha h f (pth t h n)=SetTable.probe.go t ha h (f - d) (pth t h (n+d))
 | 0,f,n,_,_=>rfl
 | d+1,0,n,hf,_=>by omega
 | d+1,f+1,n,hf,hp=>by
  obtain ⟨i,e1,e2⟩:=hp n (Nat.le_refl _) (by omega);have e3:SetTable.probe.go t ha h (f+1) (pth t h n)=SetTable.probe.go t ha h f (pth t h (n+1)):=by
   rw [SetTable.probe.go,dF hm,e1];dsimp only;rw [if_neg (by simpa using e2)];rfl
  rw [e3,Xh hm d f (n+1) (by omega) fun k h1 h2=>hp k (by omega) (by omega)];rw [show f+1 - (d+1)=f - d by omega,show n+1+d=n+(d+1) by omega]
theorem dJ {t:SetTable}{M:Nat}(hm:t.mask=M) {ha:Nat->Int}{h:Int}{f n:Nat}(hf:0 < f) (e:t.slot (pj M h n)=.empty):SetTable.probe.go t ha h f (pth t h n)=some (.empty (pj M h n) none):=by
 obtain ⟨f,rfl⟩:∃ g,f=g+1:=⟨f - 1,by omega⟩;rw [SetTable.probe.go,dF hm,e];dsimp only;rw [Zf t h n]
theorem oF {t:SetTable}{M:Nat}(hm:t.mask=M) {ha:Nat->Int}{h:Int}{f n i:Nat}(hf:0 < f) (e:t.slot (pj M h n)=.live i) (eh:ha i=h):SetTable.probe.go t ha h f (pth t h n)=some (.candidate (pj M h n) i (pth t h (n+1))):=by
 obtain ⟨f,rfl⟩:∃ g,f=g+1:=⟨f - 1,by omega⟩;rw [SetTable.probe.go,dF hm,e];dsimp only;rw [if_pos (by simpa using eh)];rfl
theorem Fx {t:SetTable}(hd:t.dummies=#[]) (j:Nat):t.slot j=.empty\/∃ i,t.slot j=.live i/\t.place[i]?=some j:=by
 unfold SetTable.slot;dsimp only;split
 ·rename_i e;exact .inr ⟨_,rfl,by simpa using e⟩
 ·rw [hd];exact .inl (by rfl)
theorem Sy {t:SetTable}{M:Nat}(hm:t.mask=M) (hd:t.dummies=#[]) {j0:Nat}(hM:Mk2 M) (hj:j0 < M+1) (he:t.slot j0=.empty) (ha:Nat->Int) (h:Int) (n:Nat) :
    ∃ m,n<=m/\m < n+10 * (M+15)/\(∀ k,n<=k->k < m->∃ i,t.slot (pj M h k)=.live i/\ha i≠h) /\
      ((t.slot (pj M h m)=.empty/\t.probe ha h (pth t h n)=some (.empty (pj M h m) none)) \/
       ∃ i,t.slot (pj M h m)=.live i/\t.place[i]?=some (pj M h m)/\ha i=h/\t.probe ha h (pth t h n)=some (.candidate (pj M h m) i (pth t h (m+1)))):=by
  obtain ⟨n1,a1,a2,a3⟩:=dI hM h n j0 hj;have first:∀ d,n+d<=n1->(∀ k,n<=k->k < n+d->∃ i,t.slot (pj M h k)=.live i/\ha i≠h)\/∃ m,n<=m/\m < n+d/\(∀ k,n<=k->k < m->∃ i,t.slot (pj M h k)=.live i/\ha i≠h)/\(t.slot (pj M h m)=.empty\/∃ i,t.slot (pj M h m)=.live i/\t.place[i]?=some (pj M h m)/\ha i=h):=by
    intro d
    induction d with
    | zero=>exact fun _=>.inl fun k h1 h2=>by omega
    | succ d ih =>
      intro hn;rcases ih (by omega) with ih|⟨m,b1,b2,b3,b4⟩
      · rcases Fx hd (pj M h (n+d)) with e|⟨i,e,ep⟩
        · exact .inr ⟨n+d,by omega,by omega,ih,.inl e⟩
        · by_cases eh:ha i=h
          · exact .inr ⟨n+d,by omega,by omega,ih,.inr ⟨i,e,ep,eh⟩⟩
          · refine .inl fun k h1 h2=>?_
            by_cases hk:k=n+d
            · subst hk;exact ⟨i,e,eh⟩
            · exact ih k h1 (by omega)
      · exact .inr ⟨m,b1,by omega,b3,b4⟩
  have fin:∃ m,n<=m/\m < n+10 * (M+15)/\(∀ k,n<=k->k < m->∃ i,t.slot (pj M h k)=.live i/\ha i≠h)/\(t.slot (pj M h m)=.empty\/∃ i,t.slot (pj M h m)=.live i/\t.place[i]?=some (pj M h m)/\ha i=h):=by
    rcases first (n1 - n) (by omega) with p|⟨m,b1,b2,b3,b4⟩
    · exact ⟨n1,a1,a2,fun k h1 h2=>p k h1 (by omega),.inl (by rw [a3];exact he)⟩
    · exact ⟨m,b1,by omega,b3,b4⟩
  obtain ⟨m,b1,b2,b3,b4⟩:=fin;refine ⟨m,b1,b2,b3,?_⟩;have eg:t.probe ha h (pth t h n)=SetTable.probe.go t ha h ((10 * (M+15)) - (m - n)) (pth t h m):=by
    have e0:t.probe ha h (pth t h n)=SetTable.probe.go t ha h (10 * (M+15)) (pth t h n):=by
      unfold SetTable.probe;rw [hm];rfl
    have:=Xh hm (ha:=ha) (h:=h) (m - n) (10 * (M+15)) n (by omega) fun k h1 h2=>b3 k h1 (by omega)
    rw [show n+(m - n)=m by omega] at this;rw [e0,this]
  rcases b4 with e|⟨i,e,ep,eh⟩
  · exact .inl ⟨e,by rw [eg];exact dJ hm (by omega) e⟩
  · exact .inr ⟨i,e,ep,eh,by rw [eg];exact oF hm (by omega) e eh⟩
structure Tb7 (t:SetTable) (es:Array (Int×Value)):Prop where
 mask:Mk2 t.mask
 nod:t.dummies=#[]
 rise:Hz t.place
 size:t.place.size=es.size
 room:es.size<=t.mask
 way:∀ j e,(j,e)∈t.place.toList.zip es.toList->∃ n,j=pj t.mask e.1 n/\∀ k,k < n->pj t.mask e.1 k∈t.place.toList
theorem Gv:∀ {l l':List Nat},l.Nodup->(∀ x∈l,x∈l')->l.length<=l'.length
 | [],l',_,_=>Nat.zero_le _
 | a::r,l',nd,sub=>by
  obtain ⟨na,nr⟩:=List.nodup_cons.mp nd;have ha:=sub a (.head _);have:=Gv (l':=l'.erase a) nr fun x hx=>(List.mem_erase_of_ne (fun e=>na (by rw [← e];exact hx))).mpr (sub x (.tail _ hx))
  have h2:=List.length_erase_of_mem ha;have h3:=List.length_pos_of_mem ha;rw [List.length_cons];omega
theorem G5 {t:SetTable}(r:Hz t.place) {i j:Nat}(e:t.place[i]?=some j):t.slot j=.live i:=by
 have B:Below t.place j i:=⟨by obtain ⟨h,_⟩:=Array.getElem?_eq_some_iff.mp e;omega,fun k x hk hx=>r.lt hk hx e,fun k x hk hx=>by
  rcases Nat.lt_or_eq_of_le hk with hk|rfl
  ·exact Nat.le_of_lt (r.lt hk e hx)
  ·rw [e] at hx;cases hx;exact Nat.le_refl _⟩
 have eb:SetTable.below t.place j=i:=(Gs r j).same B;unfold SetTable.slot;dsimp only;rw [eb,if_pos (by rw [e];exact beq_self_eq_true _)]
theorem Ml {t:SetTable}(hd:t.dummies=#[]) {j:Nat}(h:j ∉ t.place.toList):t.slot j=.empty:=by
 rcases Fx hd j with e|⟨i,e,ep⟩
 ·exact e
 ·exact (h (List.mem_of_getElem? (i:=i) (by rw [Array.getElem?_toList];exact ep))).elim
theorem Ib {t:SetTable}(r:Hz t.place) {j:Nat}(h:t.slot j=.empty):j ∉ t.place.toList:=fun hm=>by
 obtain ⟨i,hi,e⟩:=List.getElem_of_mem hm;rw [G5 r (i:=i) (j:=j) (by rw [← Array.getElem?_toList,List.getElem?_eq_getElem hi,e])] at h;cases h
theorem Tb7.free {t:SetTable}{es:Array (Int×Value)}(h:Tb7 t es):∃ j,j < t.mask+1/\t.slot j=.empty:=by
 by_cases q:∀ x∈List.range (t.mask+1),x∈t.place.toList
 ·have:=Gv List.nodup_range q;rw [List.length_range,Array.length_toList,h.size] at this;have:=h.room;omega
 ·rw [Classical.not_forall] at q;obtain ⟨j,hj⟩:=q;rw [Classical.not_imp] at hj;exact ⟨j,List.mem_range.mp hj.1,Ml h.nod hj.2⟩
theorem Tb7.pair {t:SetTable}{es:Array (Int×Value)}(h:Tb7 t es) {i j:Nat}(ep:t.place[i]?=some j):∃ e,es[i]?=some e/\(j,e)∈t.place.toList.zip es.toList:=by
 obtain ⟨hi,ej⟩:=Array.getElem?_eq_some_iff.mp ep;have hi2:i < es.size:=by rw [← h.size];exact hi
 refine ⟨es[i],Array.getElem?_eq_getElem hi2,List.mem_of_getElem? (i:=i) ?_⟩;rw [List.getElem?_zip_eq_some];exact ⟨by rw [Array.getElem?_toList];exact ep,by rw [Array.getElem?_toList];exact Array.getElem?_eq_getElem hi2⟩
theorem Tb7.elem {t:SetTable}{es:Array (Int×Value)}(h:Tb7 t es) {i:Nat}{e:Int×Value}(ee:es[i]?=some e):∃ j,t.place[i]?=some j/\(j,e)∈t.place.toList.zip es.toList:=by
 obtain ⟨hi,ej⟩:=Array.getElem?_eq_some_iff.mp ee;have hi2:i < t.place.size:=by rw [h.size];exact hi
 refine ⟨t.place[i],Array.getElem?_eq_getElem hi2,List.mem_of_getElem? (i:=i) ?_⟩;rw [List.getElem?_zip_eq_some];exact ⟨by rw [Array.getElem?_toList];exact Array.getElem?_eq_getElem hi2,by rw [Array.getElem?_toList];exact ee⟩
structure Way (t:SetTable) (es:Array (Int×Value)) (h:Int) (S:Value->Prop) (n:Nat):Prop where
 full:∀ k,k < n->pj t.mask h k∈t.place.toList
 seen:∀ (k i:Nat) (e:Int×Value),k < n->t.place[i]?=some (pj t.mask h k)->es[i]?=some e->e.1=h->S e.2
theorem Way.zero {t:SetTable}{es:Array (Int×Value)}{h:Int}{S:Value->Prop}:Way t es h S 0:=⟨fun k hk=>absurd hk (Nat.not_lt_zero _),fun k i e hk=>absurd hk (Nat.not_lt_zero _)⟩
theorem Tb7.step {t:SetTable}{es:Array (Int×Value)}(T:Tb7 t es) {h:Int}{S:Value->Prop}{n:Nat}(W:Way t es h S n) (ha:Nat->Int) (hh:∀ (i:Nat) (e:Int×Value),es[i]?=some e->ha i=e.1) :
  (∃ m,t.probe ha h (pth t h n)=some (.empty (pj t.mask h m) none)/\pj t.mask h m ∉ t.place.toList/\(∀ k,k < m->pj t.mask h k∈t.place.toList)/\∀ (i:Nat) (e:Int×Value),es[i]?=some e->e.1=h->S e.2) \/
  ∃ (m i:Nat) (e:Int×Value),n<=m/\t.probe ha h (pth t h n)=some (.candidate (pj t.mask h m) i (pth t h (m+1)))/\t.slot (pj t.mask h m)=.live i/\es[i]?=some e/\e.1=h/\∀ S':Value->Prop,(∀ v,S v->S' v)->S' e.2->Way t es h S' (m+1):=by
 obtain ⟨j0,hj,he⟩:=T.free;obtain ⟨m,a1,a2,a3,a4⟩:=Sy rfl T.nod T.mask hj he ha h n;have past:∀ k,n<=k->k < m->∃ (i:Nat) (e:Int×Value),t.place[i]?=some (pj t.mask h k)/\es[i]?=some e/\e.1≠h:=fun k h1 h2=>by
  obtain ⟨i,e1,e2⟩:=a3 k h1 h2;rcases Fx T.nod (pj t.mask h k) with z|⟨i',z,zp⟩
  ·rw [z] at e1;cases e1
  ·rw [z] at e1;cases e1;obtain ⟨e,ee,_⟩:=T.pair zp;exact ⟨_,e,zp,ee,by rw [← hh _ _ ee];exact e2⟩
 have inj:∀ {i i' j:Nat},t.place[i]?=some j->t.place[i']?=some j->i=i':=fun {i i' j} x y=>by
  have:=G5 T.rise x;rw [G5 T.rise y] at this;cases this;rfl
 have full:∀ k,k < m->pj t.mask h k∈t.place.toList:=fun k hk=>by
  by_cases hn:k < n
  ·exact W.full k hn
  ·obtain ⟨i,e,z,_⟩:=past k (by omega) hk;exact List.mem_of_getElem? (i:=i) (by rw [Array.getElem?_toList];exact z)
 have seen:∀ (k i:Nat) (e:Int×Value),k < m->t.place[i]?=some (pj t.mask h k)->es[i]?=some e->e.1=h->S e.2:=fun k i e hk z ze zh=>by
  by_cases hn:k < n
  ·exact W.seen k i e hn z ze zh
  ·obtain ⟨i',e',z',ze',zh'⟩:=past k (by omega) hk;cases inj z z';rw [ze] at ze';cases ze';exact (zh' zh).elim
 rcases a4 with ⟨e1,e2⟩|⟨i,e1,e2,e3,e4⟩
 ·refine .inl ⟨m,e2,Ib T.rise e1,full,fun i e ee eh=>?_⟩;obtain ⟨j,ej,hm⟩:=T.elem ee;obtain ⟨q,rfl,hq⟩:=T.way _ _ hm;rw [eh] at ej hq;refine seen q i e ?_ ej ee eh;rcases Nat.lt_trichotomy q m with z|rfl|z
  ·exact z
  ·rw [G5 T.rise ej] at e1;cases e1
  ·exact (Ib T.rise e1 (hq m z)).elim
 ·obtain ⟨e,ee,_⟩:=T.pair e2;refine .inr ⟨m,i,e,a1,e4,e1,ee,by rw [← hh _ _ ee];exact e3,fun S' hS hx=>⟨fun k hk=>?_,fun k i' e' hk z ze zh=>?_⟩⟩
  ·by_cases hn:k < m
   ·exact full k hn
   ·have:k=m:=by omega
    subst this;exact List.mem_of_getElem? (i:=i) (by rw [Array.getElem?_toList];exact e2)
  ·by_cases hn:k < m
   ·exact hS _ (seen k i' e' hn z ze zh)
   ·have:k=m:=by omega
    subst this;cases inj z e2;rw [ee] at ze;cases ze;exact hx
theorem oG {α β:Type}{a:List α}{b:List β}{p:Nat}{x:α}{y:β}(h:a.length=b.length) (q:α×β) (m:q∈(a.take p++x::a.drop p).zip (b.take p++y::b.drop p)):q=(x,y)\/q∈a.zip b:=by
 rw [List.zip_append (by simp [h]),List.mem_append] at m;rcases m with m|m
 ·exact .inr (by
   obtain ⟨i,hi⟩:=List.mem_iff_getElem?.mp m;rw [List.getElem?_zip_eq_some,List.getElem?_take,List.getElem?_take] at hi;refine List.mem_of_getElem? (i:=i) (List.getElem?_zip_eq_some.mpr ?_)
   by_cases z:i < p
   ·rw [if_pos z,if_pos z] at hi;exact hi
   ·rw [if_neg z] at hi;cases hi.1)
 ·rw [List.zip_cons_cons] at m;rcases List.mem_cons.mp m with m|m
  ·exact .inl m
  ·exact .inr (by
    obtain ⟨i,hi⟩:=List.mem_iff_getElem?.mp m;rw [List.getElem?_zip_eq_some,List.getElem?_drop,List.getElem?_drop] at hi
    exact List.mem_of_getElem? (i:=p+i) (List.getElem?_zip_eq_some.mpr hi))
theorem Tb7.put {t:SetTable}{es:Array (Int×Value)}(T:Tb7 t es) {h:Int}{x:Value}{m:Nat}(hf:pj t.mask h m ∉ t.place.toList) (full:∀ k,k < m->pj t.mask h k∈t.place.toList) (hr:es.size < t.mask) :
  Tb7 (t.put (pj t.mask h m)).1 (SetTable.insertAt es (t.put (pj t.mask h m)).2 (h,x)):=by
 have hn:t.place[SetTable.below t.place (pj t.mask h m)]?≠some (pj t.mask h m):=O5 (.inl (Ml T.nod hf));have le:SetTable.below t.place (pj t.mask h m)<=t.place.size:=(Gs T.rise _).le;have old:∀ {k:Nat},k∈t.place.toList->k∈(SetTable.insertAt t.place (SetTable.below t.place (pj t.mask h m)) (pj t.mask h m)).toList:=fun {k} z=>by
  rw [SetTable.toList_insertAt,List.mem_append,List.mem_cons];rw [← List.take_append_drop (SetTable.below t.place (pj t.mask h m)) t.place.toList,List.mem_append] at z;rcases z with z|z
  ·exact .inl z
  ·exact .inr (.inr z)
 have sz:∀ {α:Type} (xs:Array α) (p:Nat) (y:α),p<=xs.size->(SetTable.insertAt xs p y).size=xs.size+1:=fun xs p y hp=>by
  rw [← Array.length_toList,SetTable.toList_insertAt,List.length_append,List.length_cons,List.length_take,List.length_drop,Array.length_toList];omega
 refine ⟨T.mask,?_,Kd T.rise hn,?_,?_,?_⟩
 ·show (if SetTable.has t.dummies _ then _ else t.dummies)=#[];rw [T.nod];exact if_neg (by intro z;cases z)
 ·show (SetTable.insertAt t.place _ _).size=(SetTable.insertAt es _ _).size;rw [sz _ _ _ le,sz _ _ _ (by rw [← T.size];exact le),T.size]
 ·show (SetTable.insertAt es _ _).size<=t.mask;rw [sz _ _ _ (by rw [← T.size];exact le)];omega
 ·intro j e me;have me:(j,e)∈(SetTable.insertAt t.place (SetTable.below t.place (pj t.mask h m)) (pj t.mask h m)).toList.zip (SetTable.insertAt es (SetTable.below t.place (pj t.mask h m)) (h,x)).toList:=me;rw [SetTable.toList_insertAt,SetTable.toList_insertAt] at me;rcases oG (by rw [Array.length_toList,Array.length_toList,T.size]) _ me with z|z
  ·cases z;exact ⟨m,rfl,fun k hk=>old (full k hk)⟩
  ·obtain ⟨n,e1,e2⟩:=T.way _ _ z;exact ⟨n,e1,fun k hk=>old (e2 k hk)⟩
theorem Tb7.fresh (b:Bool):Tb7 (.fresh 0 0 b) #[]:=⟨.inl rfl,rfl,List.Pairwise.nil,rfl,Nat.zero_le _,fun j e m=>by cases m⟩
theorem Tb7.roomy {t:SetTable}{es:Array (Int×Value)}(T:Tb7 t es) (h:es.size * 5 < t.mask * 3):t.tooFull=false:=by
 unfold SetTable.tooFull SetTable.fill;rw [T.nod,T.size];exact decide_eq_false (by simp;omega)
theorem Tb7.full {t:SetTable}{es:Array (Int×Value)}(T:Tb7 t es) (h:¬ es.size * 5 < t.mask * 3):t.tooFull=true:=by
 unfold SetTable.tooFull SetTable.fill;rw [T.nod,T.size];exact decide_eq_true (by simp;omega)
section
variable {P:Program}{w:World}{K:Type} [DecidableEq K] {knd:KeyKind P w K}{A:Around}{E:Value->Shared->Prop}{s:Shared}
theorem Oh (n:Nat) {v:Value}(h:carriedByValue v=true):ofAClassStatement n v=pure false:=by
 cases v <;> first | rfl | (cases n <;> rfl) | cases h
theorem Kg {ks:List K}{b:Addr}{Q:Bool->Shared->Prop}(hk:IsTupleKey knd s.heap ks b) (h:Q false s):wpAny (model P w) A (ofAClassStatement 8 (.ref b)) Q E s:=by
 have hT:=hk.typeIs;obtain ⟨o,items,n,ho,_,hd,hi⟩:=hk;unfold ofAClassStatement;refine wpAny_bind (wpAny_typeOf hT ?_);dsimp only;rw [if_pos (by rfl)];refine wpAny_bind (wpAny_pure ?_);simp only [Bool.not_true,Bool.false_eq_true,if_false];refine wpAny_bind (wpAny_seqItems ho hd ?_);refine wpAny_bind ?_;show wpAny _ _ (forIn items _ _) _ _ s;rw [← Array.forIn_toList];have bv:=hi.byValue;generalize items.toList=l at bv
 induction l with
 | nil=>exact wpAny_pure (wpAny_pure h)
 | cons v l ih =>
  rw [List.forIn_cons];refine wpAny_bind ?_;rw [Oh _ (bv v (.head _))];refine wpAny_bind (wpAny_pure ?_);simp only [Bool.false_eq_true,if_false];exact wpAny_pure (ih fun x hx=>bv x (.tail _ hx))
theorem vI {k:List K}{b:Addr}{Q:Bool->Shared->Prop}(hk:IsTupleKey knd s.heap k b) (h:Q false s):∀ (l:List Value),(∀ v∈l,∃ k' c,v=.ref c/\IsTupleKey knd s.heap k' c)->wpAny (model P w) A (searchCouldBeSeen (.ref b) l) Q E s:=by
 intro l hl;unfold searchCouldBeSeen;refine wpAny_bind ?_;show wpAny _ _ (forIn l _ _) _ _ s
 induction l with
 | nil=>exact wpAny_pure (wpAny_pure h)
 | cons v l ih =>
  obtain ⟨k',c,rfl,hk'⟩:=hl v (.head _);have ih:=ih fun x hx=>hl x (.tail _ hx)
  rw [List.forIn_cons];refine wpAny_bind ?_;dsimp only;split
  ·exact wpAny_pure ih
  ·refine wpAny_bind (wpAny_eqIsQuiet_tuple hk ?_);simp only [Bool.not_true,Bool.false_eq_true,if_false];refine wpAny_bind (wpAny_eqIsQuiet_tuple hk' ?_);simp only [Bool.not_true,Bool.false_eq_true,if_false];refine wpAny_bind (Kg hk ?_);simp only [Bool.false_eq_true,if_false];refine wpAny_bind (Kg hk' ?_);simp only [Bool.false_eq_true,if_false];exact wpAny_pure ih
theorem Way.few {t:SetTable}{es:Array (Int×Value)}(T:Tb7 t es) {h:Int}{S:Value->Prop}{n:Nat}(W:Way t es h S n):n < 10 * (t.mask+15):=by
 obtain ⟨j,hj,e⟩:=T.free;obtain ⟨m,_,hm,em⟩:=dI T.mask h 0 j hj
 by_cases hn:n<=m
 ·omega
 ·have:=W.full m (by omega);rw [em] at this;exact (Ib T.rise e this).elim
theorem Tb7.fits {t:SetTable}{es:Array (Int×Value)}(T:Tb7 t es):t.fits es.size=true:=by
 have h:=T.room;simp only [SetTable.fits,Bool.and_eq_true,beq_iff_eq,decide_eq_true_eq];refine ⟨T.size,?_⟩;unfold SetTable.fill;rw [T.nod,T.size];simp;omega
noncomputable def qU (knd:KeyKind P w K) (h:Heap) (e:Int×Value):Prop:=∃ k c,e.2=.ref c/\IsTupleKey knd h k c/\e.1=tupleKeyHash knd k
noncomputable def Aa1 (knd:KeyKind P w K) (h:Heap) (k:List K) (v:Value):Prop:=∃ k' c,v=.ref c/\IsTupleKey knd h k' c/\k'≠k
theorem Mp {a b:Addr}{o:Obj}{es:Array (Int×Value)}{ep:Nat}{t:SetTable}{k:List K}{Q:SetFound->Shared->Prop}{adding:Bool}(hu:A.units < cLine) (ho:s.heap.get? a=some o) (hd:o.data=.set es ep t) (T:Tb7 t es) (el:∀ e∈es.toList,qU knd s.heap e) (hk:IsTupleKey knd s.heap k b)
  (there:∀ i,(∃ e c,e∈es.toList/\e.2=.ref c/\IsTupleKey knd s.heap k c)->Q (.there i) s)
  (free:∀ m,pj t.mask (tupleKeyHash knd k) m ∉ t.place.toList->(∀ i,i < m->pj t.mask (tupleKeyHash knd k) i∈t.place.toList)->(∀ e∈es.toList,Aa1 knd s.heap k e.2)->Q (.free (pj t.mask (tupleKeyHash knd k) m) false) s) :
  ∀ (fuel n:Nat) (stand:Option SetTable.Probe),10 * (t.mask+15)<=fuel+n->Way t es (tupleKeyHash knd k) (Aa1 knd s.heap k) n->stand.getD (t.probeStart (tupleKeyHash knd k))=pth t (tupleKeyHash knd k) n ->
   wpAny (model P w) A (setSearchFrom a (.ref b) (tupleKeyHash knd k) adding fuel stand) Q E s
 | 0,n,stand,hf,W,_=>by have:=W.few T;omega
 | fuel+1,n,stand,hf,W,es0=>by
  unfold setSearchFrom;refine wpAny_bind (wpAny_setState_of ho hd T.fits ?_);dsimp only;rw [show t.gaveWay=false by unfold SetTable.gaveWay;rcases T.mask with z | z <;> rw [z] <;> rfl];simp only [Bool.false_eq_true,if_false];rw [es0];have hh:∀ (i:Nat) (e:Int×Value),es[i]?=some e->(es[i]?.map (·.1)).getD 0=e.1:=fun i e z=>by rw [z];rfl
  rcases T.step W (fun i=>(es[i]?.map (·.1)).getD 0) hh with ⟨m,e1,e2,e3,e4⟩|⟨m,i,e,e0,e1,e2,e3,e4,e5⟩
  ·generalize hp:t.probe _ (tupleKeyHash knd k) (pth t (tupleKeyHash knd k) n)=r;rw [show r=_ from hp.symm.trans e1];dsimp only;refine wpAny_pure (free m e2 e3 fun e me=>?_);obtain ⟨k',c,ec,hk',eh⟩:=el e me;refine ⟨k',c,ec,hk',fun z=>?_⟩;subst z;obtain ⟨i,hi,ei⟩:=List.getElem_of_mem me;obtain ⟨k2,c2,ec2,hk2,ne⟩:=e4 i e (by rw [← Array.getElem?_toList,List.getElem?_eq_getElem hi,ei]) eh;rw [ec] at ec2;cases ec2;exact ne (hk2.inj hk')
  ·generalize hp:t.probe _ (tupleKeyHash knd k) (pth t (tupleKeyHash knd k) n)=r;rw [show r=_ from hp.symm.trans e1];dsimp only;have me:e∈es.toList:=List.mem_of_getElem? (i:=i) (by rw [Array.getElem?_toList];exact e3);obtain ⟨k',c,ec,hk',eh⟩:=el e me;obtain ⟨h0,y⟩:=e;cases ec;have sm:t.sameMemory t.moves t.mask=some true:=by unfold SetTable.sameMemory;rw [if_pos (beq_self_eq_true _)]
   have all:∀ v∈(es.filter (·.1==tupleKeyHash knd k)).toList.map (·.2),∃ k' c,v=.ref c/\IsTupleKey knd s.heap k' c:=fun v hv=>by
    obtain ⟨e,he,rfl⟩:=List.mem_map.mp hv;rw [Array.toList_filter] at he;obtain ⟨k',c,z1,z2,_⟩:=el e (List.mem_filter.mp he).1;exact ⟨k',c,z1,z2⟩
   split
   ·refine wpAny_bind (vI hk ?_ _ all);rw [if_neg (by decide)];rw [e3];dsimp only;refine wpAny_bind (wpAny_holding (wpAny_eqBool_tuple hu hk' hk ?_));refine wpAny_bind (wpAny_setState_of ho hd T.fits ?_);dsimp only;cases hq:decide (k'=k) with
    | true =>
     have ek:=of_decide_eq_true hq;have th:∀ i,Q (.there i) s:=fun i=>there i ⟨_,c,me,rfl,ek ▸ hk'⟩
     cases adding with
     | true=>exact wpAny_pure (th none)
     | false =>
      rw [if_neg (by decide),sm];dsimp only;rw [if_pos rfl,e2];dsimp only;rw [e3];dsimp only;refine wpAny_bind (wpAny_isSame_ref_self ?_);refine wpAny_bind (wpAny_pure ?_);rw [if_pos rfl];dsimp only;rw [if_pos rfl];exact wpAny_pure (th _)
    | false =>
     rw [if_neg (by simp),sm];dsimp only;rw [if_pos rfl,e2];dsimp only;rw [e3];dsimp only;refine wpAny_bind (wpAny_isSame_ref_self ?_);refine wpAny_bind (wpAny_pure ?_);rw [if_pos rfl];dsimp only;rw [if_neg (by decide)];exact Mp hu ho hd T el hk there free fuel (m+1) _ (by omega) (e5 _ (fun _ z=>z) ⟨k',c,rfl,hk',of_decide_eq_false hq⟩) rfl
   ·skip
    rw [e3];dsimp only;refine wpAny_bind (wpAny_holding (wpAny_eqBool_tuple hu hk' hk ?_));refine wpAny_bind (wpAny_setState_of ho hd T.fits ?_);dsimp only;cases hq:decide (k'=k) with
    | true =>
     have ek:=of_decide_eq_true hq;have th:∀ i,Q (.there i) s:=fun i=>there i ⟨_,c,me,rfl,ek ▸ hk'⟩
     cases adding with
     | true=>exact wpAny_pure (th none)
     | false =>
      rw [if_neg (by decide),sm];dsimp only;rw [if_pos rfl,e2];dsimp only;rw [e3];dsimp only;refine wpAny_bind (wpAny_isSame_ref_self ?_);refine wpAny_bind (wpAny_pure ?_);rw [if_pos rfl];dsimp only;rw [if_pos rfl];exact wpAny_pure (th _)
    | false =>
     rw [if_neg (by simp),sm];dsimp only;rw [if_pos rfl,e2];dsimp only;rw [e3];dsimp only;refine wpAny_bind (wpAny_isSame_ref_self ?_);refine wpAny_bind (wpAny_pure ?_);rw [if_pos rfl];dsimp only;rw [if_neg (by decide)];exact Mp hu ho hd T el hk there free fuel (m+1) _ (by omega) (e5 _ (fun _ z=>z) ⟨k',c,rfl,hk',of_decide_eq_false hq⟩) rfl
end
noncomputable def Occ (ow:Array (Option Nat)) (j:Nat):Prop:=∃ k,ow[j]?=some (some k)
theorem Q0 {ow:Array (Option Nat)}{j:Nat}(hj:j < ow.size):(ow.getD j (some 0)).isNone=true ↔ ¬ Occ ow j:=by
 have e:ow.getD j (some 0)=ow[j]:=by simp [Array.getD,hj]
 rw [e];constructor
 ·rintro h ⟨k,hk⟩;rw [Array.getElem?_eq_getElem hj] at hk;rw [Option.some.inj hk] at h;cases h
 ·intro h;cases ek:ow[j] with
  | none=>rfl
  | some k=>exact (h ⟨k,by rw [Array.getElem?_eq_getElem hj,ek]⟩).elim
theorem Mq {p:Nat->Bool}:∀ {n:Nat},(∃ d,(List.range n).find? p=some d/\d < n/\p d=true/\∀ i,i < d->p i=false)\/((List.range n).find? p=none/\∀ i,i < n->p i=false)
 | 0=>.inr ⟨rfl,fun i h=>absurd h (Nat.not_lt_zero _)⟩
 | n+1=>by
  rw [List.range_succ,List.find?_append];rcases Mq (p:=p) (n:=n) with ⟨d,e,a,b,c⟩|⟨e,c⟩
  ·exact .inl ⟨d,by rw [e];rfl,by omega,b,c⟩
  ·rw [e];cases h:p n with
   | true=>exact .inl ⟨n,by simp [h],by omega,h,c⟩
   | false=>exact .inr ⟨by simp [h],fun i hi=>by
     by_cases q:i=n
     ·rw [q];exact h
     ·exact c i (by omega)⟩
theorem Xi {M:Nat}{ow:Array (Option Nat)}(hz:ow.size=M+1) (h:Int):∀ (f k:Nat),(∀ n,n < st M h k->Occ ow (pj M h n))->(∃ q,k<=q/\q < k+f/\¬ Occ ow (lp M h q).1) ->
  ∃ n,SetTable.layClean.free M ow f (lp M h k).1 (lp M h k).2=some (pj M h n)/\¬ Occ ow (pj M h n)/\∀ i,i < n->Occ ow (pj M h i)
 | 0,k,_,⟨q,a,b,_⟩=>by omega
 | f+1,k,full,⟨q,a,b,c⟩=>by
  have rl:=Vq M (lp M h k).1;have rt:=dH (cZ M h k);unfold SetTable.layClean.free;rcases Mq (p:=fun d=>(ow.getD ((lp M h k).1+d) (some 0)).isNone) (n:=SetTable.runEnd M (lp M h k).1+1 - (lp M h k).1) with ⟨d,e,h1,h2,h3⟩|⟨e,h3⟩
  ·rw [e];have hd:d<=SetTable.runEnd M (lp M h k).1 - (lp M h k).1:=by omega
   refine ⟨st M h k+d,by rw [Pg M h hd],?_,fun i hi=>?_⟩
   ·rw [Pg M h hd];exact (Q0 (by omega)).mp h2
   ·by_cases hk:i < st M h k
    ·exact full i hk
    ·obtain ⟨x,rfl⟩:∃ x,i=st M h k+x:=⟨i - st M h k,by omega⟩;rw [Pg M h (by omega)];refine Classical.byContradiction fun z=>?_
     have:=(Q0 (by omega)).mpr z;rw [h3 x (by omega)] at this;cases this
  ·rw [e];have occ:∀ x,x<=SetTable.runEnd M (lp M h k).1 - (lp M h k).1->Occ ow ((lp M h k).1+x):=fun x hx=>Classical.byContradiction fun z=>by
    have:=(Q0 (ow:=ow) (j:=(lp M h k).1+x) (by omega)).mpr z;rw [h3 x (by omega)] at this;cases this
   refine Xi hz h f (k+1) (fun n hn=>?_) ⟨q,?_,by omega,c⟩
   ·by_cases hk:n < st M h k
    ·exact full n hk
    ·obtain ⟨x,rfl⟩:∃ x,n=st M h k+x:=⟨n - st M h k,by omega⟩;have hn:st M h k+x < st M h k+(SetTable.runEnd M (lp M h k).1 - (lp M h k).1)+1:=hn;rw [Pg M h (by omega)];exact occ x (by omega)
   ·by_cases z:q=k
    ·subst z;have:=occ 0 (Nat.zero_le _);exact (c this).elim
    ·omega
structure Laid (M:Nat) (ow:Array (Option Nat)) (hs:List Int):Prop where
 sz:ow.size=M+1
 lt:∀ j k:Nat,ow[j]?=some (some k)->k < hs.length
 ex:∀ k:Nat,k < hs.length->∃ j:Nat,ow[j]?=some (some k)
 un:∀ j j' k:Nat,ow[j]?=some (some k)->ow[j']?=some (some k)->j=j'
 way:∀ (j k:Nat) (h:Int),ow[j]?=some (some k)->hs[k]?=some h->∃ n,j=pj M h n/\∀ i,i < n->Occ ow (pj M h i)
theorem Laid.empty {M:Nat}{ow:Array (Option Nat)}{hs:List Int}(L:Laid M ow hs) (h:hs.length < M+1):∃ j,j < M+1/\¬ Occ ow j:=by
 refine Classical.byContradiction fun q=>?_
 have all:∀ j,j < M+1->Occ ow j:=fun j hj=>Classical.byContradiction fun z=>q ⟨j,hj,z⟩
 have sub:∀ x∈List.range (M+1),x∈(List.range hs.length).map fun k=>if hk:k < hs.length then Classical.choose (L.ex k hk) else 0:=fun x hx=>by
  obtain ⟨k,hk⟩:=all x (List.mem_range.mp hx);have hl:=L.lt x k hk;refine List.mem_map.mpr ⟨k,List.mem_range.mpr hl,?_⟩;rw [dif_pos hl];exact L.un _ _ k (Classical.choose_spec (L.ex k hl)) hk
 have:=Gv List.nodup_range sub;rw [List.length_range,List.length_map,List.length_range] at this;omega
theorem Laid.step {M:Nat}(hM:Mk2 M) {ow:Array (Option Nat)}{hs:List Int}(L:Laid M ow hs) (h:hs.length < M+1) (x:Int):∃ j,SetTable.layClean.free M ow (SetTable.turns M) (SetTable.bits x % (M+1)) (SetTable.bits x)=some j/\Laid M (ow.setIfInBounds j (some hs.length)) (hs++[x]):=by
 obtain ⟨j0,hj0,e0⟩:=L.empty h;obtain ⟨q,hq,eq⟩:=dD hM x 0 j0 hj0;obtain ⟨n,a,b,c⟩:=Xi L.sz x (SetTable.turns M) 0 (fun n hn=>absurd hn (Nat.not_lt_zero _)) ⟨13+(0+q),Nat.zero_le _,by unfold SetTable.turns;omega,by rw [eq];exact e0⟩;refine ⟨_,a,?_⟩;have hn:pj M x n < ow.size:=by rw [L.sz];exact Aa0 M x n
 have at':∀ i,(ow.setIfInBounds (pj M x n) (some hs.length))[i]?=if pj M x n=i then some (some hs.length) else ow[i]?:=fun i=>by
  rw [Array.getElem?_setIfInBounds];split
  ·first | rfl | rw [if_pos hn]
  ·rfl
 have keep:∀ i,Occ ow i->Occ (ow.setIfInBounds (pj M x n) (some hs.length)) i:=by
  rintro i ⟨k,hk⟩;unfold Occ;rw [at' i];split
  ·exact ⟨_,rfl⟩
  ·exact ⟨k,hk⟩
 refine ⟨by rw [Array.size_setIfInBounds];exact L.sz,fun j k hk=>?_,fun k hk=>?_,fun j j' k h1 h2=>?_,fun j k y h1 h2=>?_⟩
 ·rw [at' j] at hk;rw [List.length_append,List.length_singleton];split at hk
  ·cases hk;omega
  ·have:=L.lt j k hk;omega
 ·rw [List.length_append,List.length_singleton] at hk
  by_cases z:k=hs.length
  ·exact ⟨pj M x n,by rw [at',if_pos rfl,z]⟩
  ·obtain ⟨j,hj⟩:=L.ex k (by omega);refine ⟨j,?_⟩;rw [at',if_neg (fun z=>b ⟨k,by rw [z];exact hj⟩)];exact hj
 ·rw [at' j] at h1;rw [at' j'] at h2;split at h1
  ·rename_i z1;split at h2
   ·rename_i z2;rw [← z1,← z2]
   ·cases h1;have:=L.lt j' _ h2;omega
  ·split at h2
   ·cases h2;have:=L.lt j _ h1;omega
   ·exact L.un _ _ k h1 h2
 ·rw [at' j] at h1;split at h1
  ·rename_i z1;cases h1;rw [List.getElem?_append_right (Nat.le_refl _),Nat.sub_self] at h2;cases h2;exact ⟨n,z1.symm,fun i hi=>keep _ (c i hi)⟩
  ·have hl:=L.lt j k h1;rw [List.getElem?_append_left hl] at h2;obtain ⟨m,e,f⟩:=L.way j k y h1 h2;exact ⟨m,e,fun i hi=>keep _ (f i hi)⟩
theorem dM {M:Nat}(hM:Mk2 M):∀ (xs:List Int) {ow:Array (Option Nat)}{hs:List Int},Laid M ow hs->hs.length+xs.length < M+2->∃ ow',xs.foldl (fun acc h=>do
  let (owner,k) ← acc
  let j ← SetTable.layClean.free M owner (SetTable.turns M) (SetTable.bits h % (M+1)) (SetTable.bits h)
  pure (owner.setIfInBounds j (some k),k+1)) (some (ow,hs.length))=some (ow',hs.length+xs.length)/\Laid M ow' (hs++xs)
 | [],ow,hs,L,_=>⟨ow,rfl,by rw [List.append_nil];exact L⟩
 | x::r,ow,hs,L,hl=>by
  rw [List.length_cons] at hl;obtain ⟨j,e,L2⟩:=L.step hM (by omega) x;obtain ⟨ow',e2,L3⟩:=dM hM r L2 (by rw [List.length_append,List.length_singleton];omega);refine ⟨ow',?_,by rw [List.append_assoc] at L3;exact L3⟩;rw [List.length_append,List.length_singleton] at e2;rw [List.foldl_cons,List.length_cons,show hs.length+(r.length+1)=hs.length+1+r.length by omega,← e2];congr 1;show (SetTable.layClean.free M ow (SetTable.turns M) (SetTable.bits x % (M+1)) (SetTable.bits x) >>= fun j=>pure (ow.setIfInBounds j (some hs.length),hs.length+1))=_;rw [e];rfl
theorem dN {M:Nat}(hM:Mk2 M) (hs:Array Int) (hl:hs.size < M+2):∃ ow,SetTable.layClean M hs=some ow/\Laid M ow hs.toList:=by
 have nn:∀ j k:Nat,(Array.replicate (M+1) (none:Option Nat))[j]?=some (some k)->False:=fun j k h=>by
  rw [Array.getElem?_replicate] at h;split at h <;> cases h
 have L0:Laid M (Array.replicate (M+1) none) []:=⟨by simp,fun j k h=>(nn j k h).elim,fun k h=>absurd h (Nat.not_lt_zero _),fun j j' k h=>(nn j k h).elim,fun j k y h=>(nn j k h).elim⟩;obtain ⟨ow,e,L⟩:=dM hM hs.toList L0 (by rw [Array.length_toList];simpa using hl);refine ⟨ow,?_,by simpa using L⟩;unfold SetTable.layClean;rw [← Array.foldl_toList];have e:hs.toList.foldl _ (some (Array.replicate (M+1) none,0))=some (ow,[].length+hs.toList.length):=e;rw [e];rfl
theorem oH {M fi mo:Nat}(hM:Mk2 M) {led plain:Bool}(es:Array (Int×Value)) (hl:es.size<=M):∃ t order,SetTable.laid M fi mo led plain (es.map (·.1))=some (t,order)/\Tb7 t (order.filterMap (es[·]?))/\t.mask=M/\(order.filterMap (es[·]?)).toList.Perm es.toList/\t.led=led/\t.plain=plain:=by
 obtain ⟨ow,e,L⟩:=dN hM (es.map (·.1)) (by rw [Array.size_map];omega);have hlen:(es.map (·.1)).toList.length=es.size:=by rw [Array.length_toList,Array.size_map]
 have elt:∀ j k:Nat,ow[j]?=some (some k)->k < es.size:=fun j k h=>by have:=L.lt j k h;rw [hlen] at this;exact this
 let live:List (Nat×Nat):=(List.range (M+1)).filterMap fun j=>(ow.getD j none).map (j,·)
 have lmem:∀ j k,(j,k)∈live ↔ ow[j]?=some (some k):=fun j k=>by
  show (j,k)∈(List.range (M+1)).filterMap _ ↔ _;rw [List.mem_filterMap];constructor
  ·rintro ⟨x,hx,hq⟩;have hx:=List.mem_range.mp hx;have e:ow.getD x none=ow[x]'(by rw [L.sz];exact hx):=by simp [Array.getD,L.sz,hx]
   rw [e] at hq;cases z:ow[x]'(by rw [L.sz];exact hx) with
   | none=>rw [z] at hq;cases hq
   | some y =>
    rw [z] at hq;cases hq;rw [Array.getElem?_eq_getElem (by rw [L.sz];exact hx),z]
  ·intro h;obtain ⟨hj,ej⟩:=Array.getElem?_eq_some_iff.mp h;refine ⟨j,List.mem_range.mpr (by rw [← L.sz];exact hj),?_⟩;have e:ow.getD j none=ow[j]:=by simp [Array.getD,hj]
   rw [e,ej];rfl
 have lrise:(live.map (·.1)).Pairwise (· < ·):=by
  rw [List.pairwise_map];show ((List.range (M+1)).filterMap _).Pairwise _;rw [List.pairwise_filterMap];refine List.pairwise_lt_range.imp ?_;intro a b hab x hx y hy;cases za:ow.getD a none with
  | none=>rw [za] at hx;cases hx
  | some u =>
   cases zb:ow.getD b none with
   | none=>rw [zb] at hy;cases hy
   | some v =>
    rw [za] at hx;rw [zb] at hy;cases hx;cases hy;exact hab
 have esl:∀ l:List (Nat×Nat),(∀ q∈l,q.2 < es.size)->((l.map (·.2)).toArray.filterMap (es[·]?)).toList=l.map fun q=>es.getD q.2 (0,.none):=fun l hq=>by
  rw [Array.toList_filterMap];show (l.map (·.2)).filterMap _=_
  induction l with
  | nil=>rfl
  | cons q r ih =>
   have h0:=hq q (.head _);rw [List.map_cons,List.filterMap_cons,Array.getElem?_eq_getElem h0,List.map_cons,ih fun x hx=>hq x (.tail _ hx)];dsimp only;congr 1;simp [Array.getD,h0]
 have lq:∀ q∈live,q.2 < es.size:=fun q hq=>elt q.1 q.2 ((lmem q.1 q.2).mp hq)
 have eL:=esl live lq;have nd2:(live.map (·.2)).Nodup:=by
  rw [List.nodup_iff_pairwise_ne,List.pairwise_map];have nd1:live.Pairwise fun a b=>a.1 < b.1:=by rw [List.pairwise_map] at lrise;exact lrise
  refine List.Pairwise.imp_of_mem ?_ nd1;intro a b ha hb hab z;have h1:=(lmem a.1 a.2).mp ha;have h2:=(lmem b.1 b.2).mp hb;rw [← z] at h2;have:=L.un _ _ _ h1 h2;omega
 have pk:(live.map (·.2)).Perm (List.range es.size):=by
  refine (List.perm_ext_iff_of_nodup nd2 List.nodup_range).mpr fun k=>?_
  rw [List.mem_map,List.mem_range];constructor
  ·rintro ⟨q,hq,rfl⟩;exact lq q hq
  ·intro hk;obtain ⟨j,hj⟩:=L.ex k (by rw [hlen];exact hk);exact ⟨(j,k),(lmem j k).mpr hj,rfl⟩
 refine ⟨{ mask:=M,place:=(live.map (·.1)).toArray,dummies:=#[],finger:=fi,led,moves:=mo,plain },(live.map (·.2)).toArray,?_,⟨hM,rfl,lrise,?_,?_,fun j x hx=>?_⟩,rfl,?_,rfl,rfl⟩
 ·unfold SetTable.laid;rw [e];rfl
 ·rw [← Array.length_toList,← Array.length_toList,eL];simp
 ·rw [← Array.length_toList,eL,List.length_map];have:=pk.length_eq;rw [List.length_map,List.length_range] at this;show live.length<=M;omega
 ·rw [eL] at hx;have hx:(j,x)∈(live.map (·.1)).zip (live.map fun q=>es.getD q.2 (0,Value.none)):=hx;rw [List.zip_map'] at hx;obtain ⟨⟨j',k⟩,hq,z⟩:=List.mem_map.mp hx;cases z;have ho:=(lmem j' k).mp hq;have hk:=elt j' k ho;have eg:es.getD k (0,Value.none)=es[k]:=by simp [Array.getD,hk]
  obtain ⟨n,a1,a2⟩:=L.way j' k (es[k].1) ho (by rw [Array.getElem?_toList,Array.getElem?_map,Array.getElem?_eq_getElem hk];rfl);refine ⟨n,?_,fun i hi=>?_⟩
  ·show j'=pj M (es.getD k (0,Value.none)).1 n;rw [eg];exact a1
  ·show pj M (es.getD k (0,Value.none)).1 i∈live.map (·.1);rw [eg];obtain ⟨k2,hk2⟩:=a2 i hi;exact List.mem_map.mpr ⟨_,(lmem _ k2).mpr hk2,rfl⟩
 ·rw [eL];have h1:=pk.map fun k=>es.getD k (0,Value.none)
  rw [List.map_map] at h1;refine h1.trans (List.Perm.of_eq ?_);refine List.ext_getElem? fun i=>?_
  rw [List.getElem?_map]
  by_cases hi:i < es.size
  ·rw [List.getElem?_range hi,Array.getElem?_toList,Array.getElem?_eq_getElem hi];simp [Array.getD,hi]
  ·rw [List.getElem?_eq_none (by simpa using hi),List.getElem?_eq_none (by simpa using hi)];rfl
section
variable {P:Program}{w:World}{K:Type} [DecidableEq K] {knd:KeyKind P w K}{A:Around}{E:Value->Shared->Prop}{s:Shared}
theorem Zg (n:Nat) {v:Value}(h:carriedByValue v=true):∃ b,hashByValue n v=pure b:=by
 cases v <;> first | exact ⟨_,rfl⟩ | (cases n <;> exact ⟨_,rfl⟩) | exact nomatch h
theorem Zh {ks:List K}{b:Addr}{Q:Bool->Shared->Prop}(hk:IsTupleKey knd s.heap ks b) (h:∀ x,Q x s):wpAny (model P w) A (hashByValue 8 (.ref b)) Q E s:=by
 have hT:=hk.typeIs;obtain ⟨o,items,n,ho,_,hd,hi⟩:=hk;unfold hashByValue;refine wpAny_bind (wpAny_specialOf hT PySem.F.slot_tuple_hash.lookup ?_);dsimp only;refine wpAny_bind (wpAny_seqItems ho hd ?_);refine wpAny_bind ?_;show wpAny _ _ (forIn items _ _) _ _ s;rw [← Array.forIn_toList];have bv:=hi.byValue;generalize items.toList=l at bv
 induction l with
 | nil=>exact wpAny_pure (wpAny_pure (h _))
 | cons v l ih =>
  rw [List.forIn_cons];refine wpAny_bind ?_;obtain ⟨x,ex⟩:=Zg 7 (bv v (.head _));rw [ex];refine wpAny_bind (wpAny_pure ?_);cases x with
  | true=>exact wpAny_pure (ih fun x hx=>bv x (.tail _ hx))
  | false=>exact wpAny_pure (wpAny_pure (wpAny_pure (h _)))
theorem Vr {h h':Heap}{ks:List K}{a d:Addr}{o:Obj}{es:Array (Int×Value)}{ep:Nat}{t:SetTable}(x:IsTupleKey knd h ks a) (ho:h.get? d=some o) (hd:o.data=.set es ep t) (hs:Heap.SameBut d h h'):IsTupleKey knd h' ks a:=by
 obtain ⟨o',items,n,ho',hc,hd',hi⟩:=x;have hne:a≠d:=by
  rintro rfl;obtain rfl:o'=o:=Option.some.inj (ho'.symm.trans ho);rw [hd] at hd';exact nomatch hd'
 exact ⟨o',items,n,(hs.2 a hne).trans ho',hc,hd',hi⟩
structure SetTD (knd:KeyKind P w K) (Z:Addr->Prop) (h:Heap) (o:Obj) (es:Array (Int×Value)) (ep:Nat) (t:SetTable) (ks:List (List K)):Prop where
 ex:o.ExactSet
 dt:o.data=.set es ep t
 tb:Tb7 t es
 few:es.size * 5 < t.mask * 3
 el:∀ e∈es.toList,qU knd h e
 mem:∀ k,k∈ks ↔ ∃ e c,e∈es.toList/\e.2=.ref c/\IsTupleKey knd h k c
 sz:es.size=ks.length
 nd:ks.Nodup
 good:Good (!w.params.followText "set-order") t
 off:∀ e∈es.toList,∀ c,e.2=.ref c->Z c
noncomputable def Gi (knd:KeyKind P w K) (Z:Addr->Prop) (h:Heap) (a:Addr) (ks:List (List K)):Prop:=∃ o es ep t,h.get? a=some o/\SetTD knd Z h o es ep t ks
theorem Acu {Z:Addr->Prop}{a b:Addr}{ks:List (List K)}{k:List K}{Q:Bool->Shared->Prop}(hu:A.units < cLine) (g:Gi knd Z s.heap a ks) (hk:IsTupleKey knd s.heap k b) (hz:Z b) (hr:ks.length<=17)
  (h:∀ h' r,Heap.SameBut a s.heap h'->Gi knd Z h' a (if k∈ks then ks else ks++[k])->Q r { s with heap:=h' }):wpAny (model P w) A (setAddHashed a (.ref b) (tupleKeyHash knd k)) Q E s:=by
 obtain ⟨o,es,ep,t,e,d⟩:=g;unfold setAddHashed setAddHashedIn;refine wpAny_holding (wpAny_bind (wpAny_setState_of e d.dt d.tb.fits ?_));dsimp only;rw [if_neg (show ¬ byScan (.ref b) es=true from fun z=>by unfold byScan at z;rw [Bool.and_eq_true,Bool.and_eq_true] at z;cases z.1.1)];unfold setSearch;refine wpAny_bind (Mp hu e d.dt d.tb d.el hk (fun i hi=>?_) (fun m e1 e2 e3=>?_) 100000 0 none (by rcases d.tb.mask with z | z <;> rw [z] <;> decide) Way.zero rfl)
 ·have km:k∈ks:=(d.mem k).mpr hi;have z:=h s.heap false (Heap.SameBut.refl a s.heap) (by rw [if_pos km];exact ⟨o,es,ep,t,e,d⟩);exact wpAny_pure z
 ·have km:k ∉ ks:=fun z=>by
   obtain ⟨e',c,me,ec,hc⟩:=(d.mem k).mp z;obtain ⟨k2,c2,ec2,hk2,ne⟩:=e3 e' me;rw [ec] at ec2;cases ec2;exact ne (hk2.inj hc)
  dsimp only;refine wpAny_bind (wpAny_setState_of e d.dt d.tb.fits ?_);dsimp only;have T':=d.tb.put (x:=.ref b) e1 e2 (by have:=d.few;omega);have esz:(SetTable.insertAt es (t.put (pj t.mask (tupleKeyHash knd k) m)).2 (tupleKeyHash knd k,Value.ref b)).size=es.size+1:=by
   have:=(SetTable.insertAt_perm es (t.put (pj t.mask (tupleKeyHash knd k) m)).2 (tupleKeyHash knd k,Value.ref b)).length_eq;rw [Array.length_toList,Array.length_toList,Array.size_push] at this;exact this
  have gd:Good (!w.params.followText "set-order") (t.put (pj t.mask (tupleKeyHash knd k) m)).1:=⟨d.good.led,fun _=>T'.rise⟩;have pm:=SetTable.insertAt_perm es (t.put (pj t.mask (tupleKeyHash knd k) m)).2 (tupleKeyHash knd k,Value.ref b);generalize SetTable.insertAt es (t.put (pj t.mask (tupleKeyHash knd k) m)).2 (tupleKeyHash knd k,Value.ref b)=es1 at T' esz pm;generalize hpt:(t.put (pj t.mask (tupleKeyHash knd k) m)).1=tp at T' gd;have hpm:tp.mask=t.mask:=by rw [← hpt];rfl
  have last:∀ (es2:Array (Int×Value)) (t2:SetTable) (h':Heap) (ep2:Nat) (o2:Obj),es2.toList.Perm es1.toList->Tb7 t2 es2->es2.size * 5 < t2.mask * 3->Good (!w.params.followText "set-order") t2->Heap.SameBut a s.heap h'->h'.get? a=some o2->o2.ExactSet->o2.data=.set es2 ep2 t2->Gi knd Z h' a (ks++[k]):=fun es2 t2 h' ep2 o2 pe T1 f1 g1 sb z ex dt=>by
   have mm:∀ x,x∈es2.toList ↔ x∈es.toList\/x=(tupleKeyHash knd k,Value.ref b):=fun x=>by
    rw [pe.mem_iff,pm.mem_iff,Array.toList_push,List.mem_append,List.mem_singleton]
   have keep:∀ {k' c},IsTupleKey knd s.heap k' c->IsTupleKey knd h' k' c:=fun x=>Vr x e d.dt sb
   refine ⟨_,_,_,t2,z,ex,dt,T1,f1,fun x hx=>?_,fun k'=>?_,?_,?_,g1,fun x hx c ec=>?_⟩
   ·rcases (mm x).mp hx with hx|rfl
    ·obtain ⟨k',c,z1,z2,z3⟩:=d.el x hx;exact ⟨k',c,z1,keep z2,z3⟩
    ·exact ⟨k,b,rfl,keep hk,rfl⟩
   ·rw [List.mem_append,List.mem_singleton];constructor
    ·rintro (q | rfl)
     ·obtain ⟨x,c,z1,z2,z3⟩:=(d.mem k').mp q;exact ⟨x,c,(mm x).mpr (.inl z1),z2,keep z3⟩
     ·exact ⟨_,b,(mm _).mpr (.inr rfl),rfl,keep hk⟩
    ·rintro ⟨x,c,z1,z2,z3⟩;rcases (mm x).mp z1 with z1|rfl
     ·obtain ⟨k2,c2,y1,y2,y3⟩:=d.el x z1;rw [z2] at y1;cases y1;cases (keep y2).inj z3;exact .inl ((d.mem _).mpr ⟨x,c,z1,z2,y2⟩)
     ·cases z2;exact .inr (z3.inj (keep hk))
   ·have:=pe.length_eq;rw [Array.length_toList,Array.length_toList] at this;rw [this,esz,d.sz,List.length_append];rfl
   ·exact List.nodup_append.mpr ⟨d.nd,by simp,fun x hx y hy=>by rw [List.mem_singleton.mp hy];exact fun z=>km (z ▸ hx)⟩
   ·rcases (mm x).mp hx with hx|rfl
    ·exact d.off x hx c ec
    ·cases ec;exact hz
  have fin:∀ t':SetTable,Tb7 t' es1->t'.mask=t.mask->Good (!w.params.followText "set-order") t' ->
    wpAny (model P w) A (storeSet a es1 t' >>= fun _=>if (!false&&t'.tooFull)=true then (setRelay a (SetTable.grown (es.size+1)) >>= fun _=>pure true) else pure true) Q E s:=fun t' T1 hm1 g1=>by
   have m32:t'.mask<=31:=by rcases T1.mask with z | z <;> omega
   refine wpAny_bind (wpAny_storeSet_of e d.dt ?_ (Nat.le_trans T1.room (Nat.le_trans m32 (by decide))));have sb:=Heap.SameBut.update s.heap a (Obj.putSet es1 t');have z:=Heap.get?_update_self (Obj.putSet es1 t') e (by rw [putSet_of _ t' d.dt];rfl);rw [putSet_of _ t' d.dt] at z
   by_cases rm:es1.size * 5 < t'.mask * 3
   ·rw [if_neg (by rw [T1.roomy rm];decide)];refine wpAny_pure (h _ true sb ?_);rw [if_neg km];exact last es1 t' _ _ _ (.refl _) T1 rm g1 sb z d.ex rfl
   ·rw [if_pos (by rw [T1.full rm];decide)];have f0:=d.few;have e4:es.size=4:=by
     rcases d.tb.mask with q|q
     ·omega
     ·have:=d.sz;omega
    refine wpAny_bind ?_;unfold setRelay;refine wpAny_bind (wpAny_setState_of z rfl T1.fits ?_);dsimp only;rw [e4];have e32:SetTable.sizeAbove (SetTable.grown (4+1))=32:=by decide +kernel
    rw [if_neg (by rw [e32,sizeLine_eq];decide)];obtain ⟨t2,order,q1,q2,q3,q4,q5,q6⟩:=oH (M:=31) (fi:=t'.finger) (mo:=t'.movedTo 31) (.inr rfl) (led:=t'.led) (plain:=t'.plain) es1 (by omega);have q0:t'.relaid (es1.map (·.1)) (SetTable.grown (4+1))=some (t2,order):=by unfold SetTable.relaid;rw [e32];exact q1
    have sz2:(order.filterMap (es1[·]?)).size=es1.size:=by
     have:=q4.length_eq;rw [Array.length_toList,Array.length_toList] at this;exact this
    rw [q0];refine wpAny_bind ?_
    show wpAny (model P w) A (if ((order.filterMap (es1[·]?)).size != es1.size)=true then (unsupported "internal:set-table-lost-an-element" >>= fun _:PUnit=>pure (order.filterMap (es1[·]?),t2)) else pure (order.filterMap (es1[·]?),t2)) _ E _;rw [if_neg (by rw [sz2];simp)];refine wpAny_pure ?_;refine wpAny_storeSet_of z rfl ?_ (Nat.le_trans q2.room (by rw [q3];decide));have sb2:=Heap.SameBut.update (s.heap.update a (Obj.putSet es1 t')) a (Obj.putSet (order.filterMap (es1[·]?)) t2);have z2:=Heap.get?_update_self (Obj.putSet (order.filterMap (es1[·]?)) t2) z (by rw [putSet_of _ t2 rfl];rfl);rw [putSet_of _ t2 rfl] at z2;refine wpAny_pure (h _ true (sb.trans sb2) ?_);rw [if_neg km];exact last _ t2 _ _ _ q4 q2 (by rw [sz2,q3];omega) ⟨q5.trans g1.led,fun _=>q2.rise⟩ (sb.trans sb2) z2 d.ex rfl
  have T2:Tb7 { tp with plain:=false } es1:=⟨T'.mask,T'.nod,T'.rise,T'.size,T'.room,T'.way⟩;split
  ·refine wpAny_bind (Zh hk fun x=>?_);cases x with
   | true=>exact fin _ T' hpm gd
   | false=>exact fin _ T2 hpm gd.off
  ·refine wpAny_bind (wpAny_pure ?_);exact fin _ T' hpm gd
end
section
variable {P:Program}{w:World}{K:Type} [DecidableEq K] {knd:KeyKind P w K}
noncomputable def Df (val:Nat->List K):Nat->List (List K)
 | 0=>[]
 | i+1=>if val i∈Df val i then Df val i else Df val i++[val i]
theorem Zi (val:Nat->List K) {i j:Nat}(h:i<=j):(Df val i).length<=(Df val j).length:=by
 induction h with
 | refl=>exact Nat.le_refl _
 | step h ih =>
  refine Nat.le_trans ih ?_;rename_i m;show _<=(if val m∈Df val m then Df val m else Df val m++[val m]).length;split
  ·exact Nat.le_refl _
  ·rw [List.length_append];omega
theorem Ie (val:Nat->List K):∀ i,(Df val i).Nodup
 | 0=>List.Pairwise.nil
 | i+1=>by
  have ih:=Ie val i;unfold Df;split
  ·exact ih
  ·rename_i km;exact List.nodup_append.mpr ⟨ih,by simp,fun x hx y hy=>by rw [List.mem_singleton.mp hy];exact fun z=>km (z ▸ hx)⟩
theorem Iw (val:Nat->List K) (k:List K):∀ i,k∈Df val i ↔ ∃ j,j < i/\val j=k
 | 0=>⟨(fun h=>nomatch h),(fun ⟨j,h,_⟩=>absurd h (Nat.not_lt_zero _))⟩
 | i+1=>by
  have ih:=Iw val k i;unfold Df;constructor
  ·intro h;split at h
   ·obtain ⟨j,a,b⟩:=ih.mp h;exact ⟨j,by omega,b⟩
   ·rcases List.mem_append.mp h with h|h
    ·obtain ⟨j,a,b⟩:=ih.mp h;exact ⟨j,by omega,b⟩
    ·exact ⟨i,by omega,(List.mem_singleton.mp h).symm⟩
  ·rintro ⟨j,a,b⟩
   by_cases hj:j < i
   ·have:=ih.mpr ⟨j,hj,b⟩;split
    ·exact this
    ·exact List.mem_append.mpr (.inl this)
   ·have:j=i:=by omega
    subst this;subst b;split
    ·assumption
    ·exact List.mem_append.mpr (.inr (List.mem_singleton.mpr rfl))
theorem Gi.stay {Z:Addr->Prop}{h h':Heap}{a:Addr}{ks:List (List K)}(g:Gi knd Z h a ks) (kp:∀ b o,b=a\/Z b->h.get? b=some o->h'.get? b=some o):Gi knd Z h' a ks:=by
 obtain ⟨o,es,ep,t,e,d⟩:=g;have keep:∀ {k c},Z c->IsTupleKey knd h k c->IsTupleKey knd h' k c:=fun z ⟨o',its,n,a1,a2⟩=>⟨o',its,n,kp _ _ (.inr z) a1,a2⟩
 refine ⟨o,es,ep,t,kp _ _ (.inl rfl) e,d.ex,d.dt,d.tb,d.few,fun x hx=>?_,fun k=>(d.mem k).trans ?_,d.sz,d.nd,d.good,d.off⟩
 ·obtain ⟨k',c,z1,z2,z3⟩:=d.el x hx;exact ⟨k',c,z1,keep (d.off x hx c z1) z2,z3⟩
 ·constructor
  ·rintro ⟨x,c,z1,z2,z3⟩;exact ⟨x,c,z1,z2,keep (d.off x z1 c z2) z3⟩
  ·rintro ⟨x,c,z1,z2,z3⟩;obtain ⟨k2,c2,y1,y2,y3⟩:=d.el x z1;rw [z2] at y1;cases y1;cases (keep (d.off x z1 c z2) y2).inj z3;exact ⟨x,c,z1,z2,y2⟩
end
section
variable {P:Program}{w:World}{K:Type} [DecidableEq K] {knd:KeyKind P w K}{A:Around}{R:Result->Shared->Prop}{I:Addr}{fp wr:List Addr}{G:Array GenState->Array GenState->Prop}{n:Nat}{V:Nat->Value->Prop}{T:Nat->Shared->Prop}
theorem Zj {Z:Addr->Prop}(hu:A.in1.units < cLine) (W:WalksS P w A.in1 I fp wr G n V T) (a:Addr) (ha:a ∉ fp) (hZ:∀ c,Z c->c ∉ wr/\c≠a) (val:Nat->List K) (hb:(Df val n).length<=17) :
  ∀ (k i:Nat) (s:Shared),n - i=k->i<=n->T i s->(∀ i v,V i v->∃ c,v=.ref c/\Z c/\IsTupleKey knd s.heap (val i) c)->Gi knd Z s.heap a (Df val i) ->
   (∀ s',Moved (a::wr) G s s'->Gi knd Z s'.heap a (Df val n)->R (.ok (.ret .none)) s') ->
   codeAny (model P w) A (.builtin "set.update.loop" ⟨[.ref a,.ref I],[]⟩) R s:=by
 have aw:a ∉ wr:=fun z=>ha (W.sub _ z)
 have sub:∀ b∈wr,b∈a::wr:=fun b hb=>.tail _ hb
 intro k
 induction k with
 | zero =>
  intro i s hk hi st hv g hR;have e:i=n:=by omega
  subst e;refine codeAny_builtin F.entry_set_update_loop ?_;rw [Around.under_plainId F.plain_set_update_loop _];refine wpAny_bind (m:=pyNext (.ref I)) (W.done s _ _ st fun s' mv=>?_);exact wpAny_pure (hR s' (mv.mono sub) (g.stay fun b o hb q=>mv.heap b o (hb.elim (fun z=>by rw [z];exact aw) fun z=>(hZ b z).1) q))
 | succ k ih =>
  intro i s hk hi st hv g hR;have lt:i < n:=by omega
  refine codeAny_builtin F.entry_set_update_loop ?_;rw [Around.under_plainId F.plain_set_update_loop _];refine wpAny_bind (m:=pyNext (.ref I)) (W.item i s _ _ lt st fun v s' hV st' mv=>?_);have kp:∀ {k c},Z c->IsTupleKey knd s.heap k c->IsTupleKey knd s'.heap k c:=fun z ⟨o',its,n,a1,a2⟩=>⟨o',its,n,mv.heap _ _ (hZ _ z).1 a1,a2⟩
  obtain ⟨c,rfl,zc,hk0⟩:=hv i v hV;have hk1:=kp zc hk0;have g':=g.stay (h':=s'.heap) fun b o hb q=>mv.heap b o (hb.elim (fun z=>by rw [z];exact aw) fun z=>(hZ b z).1) q
  refine wpAny_bind (m:=holding [Value.ref c] (setAdd a (.ref c))) (wpAny_holding ?_);unfold setAdd;refine wpAny_holding (wpAny_bind (wpAny_pyHash_tuple hu hk1 ?_));have room:(Df val i).length<=17:=Nat.le_trans (Zi val (Nat.le_of_lt lt)) hb;refine Acu (s:={ s' with toks:=s'.toks+((val i).length+1) }) hu g' hk1 zc room fun h' r sb g2=>?_
  have g3:Gi knd Z h' a (Df val (i+1)):=g2;refine wpAny_pure ⟨plainId_quiet F.plain_set_update_loop _,ih (i+1) _ (by omega) lt (W.frame _ s' _ _ st' (Nat.le_add_right _ _) fun b hb o q=>?_) (fun i v hV=>?_) g3 fun s2 mv2 gl=>?_⟩
  ·rw [sb.2 b fun z:b=a=>ha (by rw [← z];exact hb)];exact q
  ·obtain ⟨c',rfl,zc',hk'⟩:=hv i v hV;obtain ⟨o',its,n,a1,a2⟩:=kp zc' hk';exact ⟨c',rfl,zc',o',its,n,(sb.2 c' (hZ c' zc').2).trans a1,a2⟩
  ·refine hR s2 (Moved.trans W.gtrans ((mv.mono sub).then_heap (Nat.le_add_right _ _) fun b o hb q=>?_) mv2) gl;rw [sb.2 b fun z:b=a=>hb (by rw [z];exact .head _)];exact q
end
section
variable {P:Program}{w:World}{K:Type} [DecidableEq K] {knd:KeyKind P w K}{A:Around}{E:Value->Shared->Prop}{s:Shared}
theorem Vs {Z:Addr->Prop}{h:Heap}{a:Addr}{val:Nat->List K}(e:h.get? a=some (Ea (!w.params.followText "set-order"))):Gi knd Z h a (Df val 0) :=
 ⟨_,#[],0,_,e,⟨rfl,rfl,rfl⟩,rfl,Tb7.fresh _,(show 0 * 5 < 7 * 3 by decide),(fun e he=>nomatch he),fun k=>⟨(fun h=>nomatch h),(fun ⟨_,_,z,_⟩=>nomatch z)⟩,rfl,List.Pairwise.nil,Lz _,(fun e he=>nomatch he)⟩
theorem Zk {Z:Addr->Prop}{l:Addr}{its:Array Value}{val:Nat->List K}{Q:Value->Shared->Prop}(hu:A.units+8 < cLine) (hh:A.handled=none) (hZ:∀ c,Z c->c < s.heap.objs.size) (hl:s.heap.IsList l its) (hi:∀ i v,its[i]?=some v->∃ c,v=.ref c/\Z c/\IsTupleKey knd s.heap (val i) c) (hb:(Df val its.size).length<=17)
  (h:∀ (h':Heap) (tk:Nat),Gi knd Z h' s.heap.objs.size (Df val its.size)->(∀ b o,b < s.heap.objs.size->s.heap.get? b=some o->h'.get? b=some o)->s.toks<=tk->Q (.ref s.heap.objs.size) { s with heap:=h',toks:=tk }) :
  wpAny (model P w) A (call (.type "set") [.ref l]) Q E s:=by
 obtain ⟨c,tl,hmro⟩:=F.called_set.mro;have hmade:=F.called_set.made;have hsub:=F.called_set.sub;have hnt:=F.called_set.notType;have hcc:=F.called_set.canCreate;have hct:=F.typeCall_set_1 (.ref l)
 refine wpAny_call (codeAny_of_tree (show wpAny _ _ (callAny (.type "set") _) _ _ _ from wpAny_pure ⟨Code.quiet_builtin _ (by decide +kernel),codeAny_builtin F.entry_type_call ?_⟩))
 rw [Around.under_plain (weight_type_call_type "set" [.ref l] []) rfl];repeat (any_goals (first | assumption | wp_step))
 refine codeAny_mono (Ma (.ref l) (E:=E) (Q:=fun v s₁=>v=.ref s.heap.objs.size/\s₁={ s with heap:=s.heap.push (Ea (!w.params.followText "set-order")) }) ⟨rfl,rfl⟩) fun r s₁ hr=>?_
 cases r with
 | error z=>exact hr
 | ok fl =>
 cases fl with
 | next=>exact hr.elim
 | brk=>exact hr.elim
 | cont=>exact hr.elim
 | ret v =>
  obtain ⟨rfl,rfl⟩:=hr
  have e0:(s.heap.push (Ea (!w.params.followText "set-order"))).get? s.heap.objs.size=some (Ea (!w.params.followText "set-order")):=Heap.get?_push_size _ rfl
  have hT:Shared.TypeIs { s with heap:=s.heap.push (Ea (!w.params.followText "set-order")) } (.ref s.heap.objs.size) "set":=⟨_,e0,rfl⟩
  have hli:=F.called_set.init.lookup;have hbi:=F.called_set.init.bind (.ref s.heap.objs.size);repeat (any_goals (first | assumption | wp_step))
  refine codeAny_mono (codeAny_call_builtin (R:=wants (fun r s₂=>r=.none/\∃ h' tk,s₂={ s with heap:=h',toks:=tk }/\s.toks<=tk /\
    Gi knd Z h' s.heap.objs.size (Df val its.size) /\
    (∀ b o,b < s.heap.objs.size->s.heap.get? b=some o->h'.get? b=some o)) E) F.called_set.init.plain F.entry_set_init (check_set_init_1 hT ?_)) fun r₂ s₂ hr₂=>?_
  ·obtain ⟨ol,hol,hcl,nl,hdl⟩:=hl;obtain ⟨ocls,odict,odata,oslots⟩:=ol;simp only at hcl hdl;subst hcl;subst hdl
   have hol':(s.heap.push (Ea (!w.params.followText "set-order"))).get? l=some { cls:=.type "list",dict:=odict,data:=.seq its nl,slots:=oslots }:=Heap.get?_push_of_some _ hol
   have hl1:(s.heap.push (Ea (!w.params.followText "set-order"))).IsList l its:=⟨_,hol',rfl,nl,rfl⟩;have q1:=F.sub_list_set;have q2:=F.sub_list_frozenset
   have q3:(Value.type "list"==Value.type "dict")=false:=by decide
   unfold Builtin.«set.__init__» noKeywords Builtin.Frozenset.updateFrom;generalize hPI:pyIter=PI;wp_walk;subst hPI;have lt:l < s.heap.objs.size:=Heap.lt_size hol
   have sz:(s.heap.push (Ea (!w.params.followText "set-order"))).objs.size=s.heap.objs.size+1:=Heap.size_push ..;refine wpAny_pyIter_list hl1 (wpAny_bind (wpAny_runValue ?_))
   have ext:∀ {ob:Obj} {k c},IsTupleKey knd s.heap k c->IsTupleKey knd ((s.heap.push (Ea (!w.params.followText "set-order"))).push ob) k c:=fun ⟨o',its,n,a1,a2⟩=>⟨o',its,n,Heap.get?_push_of_some _ (Heap.get?_push_of_some _ a1),a2⟩
   refine Zj (knd:=knd) (Z:=Z) (V:=fun i v=>its[i]?=some v) ?_ ((Walks.list (by simp [hh]) _ l (by rw [sz];exact Nat.ne_of_lt (Nat.lt_succ_of_lt lt)) its).toS) s.heap.objs.size ?_ ?_ val hb (its.size - 0) 0 _ (by omega) (Nat.zero_le _) ⟨⟨_,Heap.get?_push_size _ rfl,rfl,rfl⟩,hl1.push _⟩ ?_ ?_ fun s' mv g=>?_
   ·show A.in1.in1.in1.units < cLine;first | exact (by omega) | (simp only [Around.in1];omega)
   ·rw [sz];simp only [List.mem_cons,List.not_mem_nil,or_false,not_or];exact ⟨Nat.ne_of_lt (Nat.lt_succ_self _),Nat.ne_of_gt lt⟩
   ·intro c hc;have hc:=hZ c hc;rw [sz];simp only [List.mem_cons,List.not_mem_nil,or_false];exact ⟨Nat.ne_of_lt (Nat.lt_succ_of_lt hc),Nat.ne_of_lt hc⟩
   ·intro i v hv;obtain ⟨c,e,hz,hk⟩:=hi i v hv;exact ⟨c,e,hz,ext hk⟩
   ·exact Vs (Heap.get?_push_of_some _ e0)
   ·obtain ⟨h',g',d',tk',os'⟩:=s';have e1:g'=s.gens:=mv.gens;have e2:d'=s.drawn:=mv.drawn;have e3:os'=s.os:=mv.os;have e4:s.toks<=tk':=mv.toks;subst e1;subst e2;subst e3;refine wpAny_pure (wpAny_pure ⟨rfl,h',tk',rfl,e4,g,fun b o hb q=>mv.heap b o ?_ (Heap.get?_push_of_some _ (Heap.get?_push_of_some _ q))⟩);rw [sz];simp only [List.mem_cons,List.not_mem_nil,or_false,not_or];exact ⟨Nat.ne_of_lt hb,Nat.ne_of_lt (Nat.lt_succ_of_lt hb)⟩
  ·cases r₂ with
   | error z=>exact hr₂
   | ok fl₂ =>
    cases fl₂ with
    | ret r =>
     obtain ⟨rfl,h',tk,rfl,ht,g,kp⟩:=hr₂;repeat (any_goals (first | assumption | wp_step))
     exact h _ _ g kp ht
    | _=>exact hr₂.elim
end
noncomputable def dO (w:World) (a:Addr) (es:Array (Int×Value)):HO:=.ext fun h=>∃ o ep t,h.get? a=some o/\o.ExactSet/\o.data=.set es ep t/\Tb7 t es/\Good (!w.params.followText "set-order") t
theorem dR {P:Program}{w:World}{H:Hp}{h:Heap}{a:Addr}{es:Array (Int×Value)}(g:∃ o ep t,h.get? a=some o/\o.ExactSet/\o.data=.set es ep t/\Tb7 t es/\Good (!w.params.followText "set-order") t):Dh P w H h a (dO w a es) :=
 ⟨g,let ⟨o,_,_,e,_⟩:=g;⟨o,e⟩,fun h1 h2 ⟨o,ep,t,e,r⟩ k=>⟨o,ep,t,k o e,r⟩⟩
section
variable {X:Cx}
structure InT (X:Cx) (cs:List Addr) (val:Nat->List Key) (es:Array (Int×Value)):Prop where
 el:∀ e∈es.toList,∃ j c,cs[j]?=some c/\e.2=.ref c/\e.1=tupleKeyHash (Cm X.prog X.w) (val j)
 mem:∀ k,k∈Df val cs.length ↔ ∃ (e:Int×Value) (j:Nat) (c:Addr),e∈es.toList/\e.2=.ref c/\cs[j]?=some c/\val j=k
 sz:es.size=(Df val cs.length).length
theorem Ju:∀ {cs:List Addr}{us:List Value},Vals (cs.map V.ref) us->us=cs.map Value.ref
 | [],_,.nil=>rfl
 | _::_,_,.cons e h=>by cases e;rw [Ju h];rfl
theorem Vt (hc:X.calm=true) (hu:X.A.units+64 < cLine):Az X (.type "set") (fun xs H Q=>∃ p cs val,xs=[.ref p]/\SqL X.K H p (cs.map V.ref)/\(∀ i c,cs[i]?=some c->SqT X.K H c ((val i).map kV))/\(Df val cs.length).length<=17/\∀ a es,H a=none->InT X cs val es->Q (.ref a) (upd H a (dO X.w a es))):=by
 rintro pins s σ H xs us Q I r ⟨p,cs,val,e,sq,ht,hb,q⟩;subst e;obtain ⟨u,rfl,rx⟩:=vals1 r;cases rx;obtain ⟨its,rv,pl,hz⟩:=I.list sq;have hi:=Ju rv;subst hi;have tk0:∀ i c,cs[i]?=some c->IsTupleKey (Cm X.prog X.w) s.heap (val i) c:=fun i c z=>by
  obtain ⟨its,r1,⟨o,e1,e2,n,e3⟩,_⟩:=I.tuple (ht i c z);exact ⟨o,_,n,e1,e2,e3,Jp (by simpa using r1)⟩
 refine Zk (knd:=Cm X.prog X.w) (val:=val) (Z:=fun c=>c∈cs) (by omega) (I.ok.hd hc) (fun c hm=>?_) pl.isList (fun i v hv=>?_) (by simpa using hb) fun h' tk g kp ht'=>?_
 ·obtain ⟨i,hi,e⟩:=List.getElem_of_mem hm;obtain ⟨o,_,_,e1,_⟩:=tk0 i c (by rw [List.getElem?_eq_getElem hi,e]);exact Heap.lt_size e1
 ·have hv:cs[i]?.map Value.ref=some v:=by simpa using hv
  cases hc':cs[i]? with
  | none=>rw [hc'] at hv;cases hv
  | some c =>
   rw [hc'] at hv;cases hv;exact ⟨c,rfl,List.mem_of_getElem? hc',tk0 i c hc'⟩
 ·obtain ⟨o,es,ep,t,e1,d⟩:=g;have tk1:∀ i c,cs[i]?=some c->IsTupleKey (Cm X.prog X.w) h' (val i) c:=fun i c z=>by
   obtain ⟨o',its,n,a1,a2⟩:=tk0 i c z;exact ⟨o',its,n,kp c o' (Heap.lt_size a1) a1,a2⟩
  have len:(cs.map Value.ref).toArray.size=cs.length:=by simp
  have fi:InT X cs val es:=by
   refine ⟨fun x hx=>?_,fun k=>?_,?_⟩
   ·obtain ⟨k,c,z1,z2,z3⟩:=d.el x hx;obtain ⟨j,hj,ej⟩:=List.getElem_of_mem (d.off x hx c z1);have ej:cs[j]?=some c:=by rw [List.getElem?_eq_getElem hj,ej]
    cases (tk1 j c ej).inj z2;exact ⟨j,c,ej,z1,z3⟩
   ·have m:=d.mem k;rw [len] at m;refine m.trans ⟨?_,?_⟩
    ·rintro ⟨x,c,z1,z2,z3⟩;obtain ⟨j,hj,ej⟩:=List.getElem_of_mem (d.off x z1 c z2);have ej:cs[j]?=some c:=by rw [List.getElem?_eq_getElem hj,ej]
     exact ⟨x,j,c,z1,z2,ej,(tk1 j c ej).inj z3⟩
    ·rintro ⟨x,j,c,z1,z2,z3,rfl⟩;exact ⟨x,c,z1,z2,tk1 j c z3⟩
   ·have:=d.sz;rw [len] at this;exact this
  exact ⟨.ref s.heap.objs.size,_,I.laid (t':=tk) (fun b o e=>kp b o (Heap.lt_size e) e) (Nat.le_refl _) (dR ⟨o,ep,t,e1,d.ex,d.dt,d.tb,d.good⟩),rfl,q _ es (I.hok.fresh (Nat.le_refl _)) fi⟩
end
noncomputable def intsOf:List D->Option (List Int)
 | []=>some []
 | .int i::r=>match intsOf r with
  | some l=>some (i::l)
  | none=>none
 | _=>none
noncomputable def Gw:D->MH->Option (List Int)
 | .ref n,mh=>match mh[n]? with
  | some (.lst o)=>intsOf o
  | _=>none
 | .rol ds,_=>intsOf ds
 | .tup ds,_=>intsOf ds
 | _,_=>none
theorem Fy:∀ (ns:List Int),intsOf (ns.map D.int)=some ns
 | []=>rfl
 | n::r=>by
  show (match intsOf (r.map D.int) with | some l=>some (n::l) | none=>none)=_;rw [Fy r]
theorem Cv:∀ {ds:List D}{ns:List Int},intsOf ds=some ns->ds=ns.map D.int
 | [],ns,h=>by cases h;rfl
 | d::r,ns,h=>by
  cases d with
  | int i =>
   have h:(match intsOf r with | some l=>some (i::l) | none=>none)=some ns:=h;split at h
   ·rename_i l e;cases h;rw [Cv e];rfl
   ·cases h
  | _=>cases h
section
variable {K:PySem.W.Frag}{H:Hp}{ρ:List Addr}{mh:MH}
theorem Gx {ns:List Int}{vs:List V}(h:RDs K H ρ (ns.map D.int) vs):vs=ns.map V.int:=by
 induction ns generalizing vs with
 | nil=>cases h;rfl
 | cons n r ih =>
  cases h with
  | cons a t=>cases a;rw [ih t];rfl
theorem S5 {x:D}{v:V}{ns:List Int}(rs:RS K H ρ mh) (r:RD K H ρ x v) (h:Gw x mh=some ns):∃ p,v=.ref p/\(SqL K H p (ns.map V.int)\/SqT K H p (ns.map V.int)):=by
 cases r with
 | @ref n a ha =>
  have h:(match mh[n]? with | some (.lst o)=>intsOf o | _=>none)=some ns:=h;split at h
  ·rename_i o eo;obtain ⟨a',ha',ro⟩:=rs.at eo;rw [ha] at ha';cases ha';obtain ⟨xs,sq,rr⟩:=ro.read;rw [Cv h] at rr;rw [Gx rr] at sq;exact ⟨a,rfl,.inl sq⟩
  ·cases h
 | @rol ds a xs pm rr =>
  have h:intsOf ds=some ns:=h;rw [Cv h] at rr;rw [Gx rr] at pm;exact ⟨a,rfl,.inl pm.sq⟩
 | @tup ds a xs pm rr =>
  have h:intsOf ds=some ns:=h;rw [Cv h] at rr;rw [Gx rr] at pm;exact ⟨a,rfl,.inr pm⟩
 | _=>cases h
end
noncomputable def Fz (x:D) (mh:MH):Option (D×MH):=match Gw x mh with
 | some ns=>if ns.length < 4000 then some (.int (Bo ns).length,mh) else none
 | none=>none
noncomputable def vJ (x y:D) (mh:MH):Option (D×MH):=match Gw x mh,Gw y mh with
 | some ns,some ms=>if ns.length < 4000/\ms.length < 4000 then some (.bl (Aaz ns ms),mh) else none
 | _,_=>none
section
variable {X:Cx}{a:Expr}{ma:DM D}{p p2 pos pos2:Pos}
theorem boot_set:bootBuiltins "set"=some (.type "set"):=by decide +kernel
theorem Zm (hc:X.calm=true) (hg:Gl X "len") (hm:X.mg "len"=none) (hg2:Gl X "set") (hm2:X.mg "set"=none) (ha:DE X a ma) (hs:starEach [a] X.env=(false,eval a X.env)::starEach [] X.env) :
  DE X (.Call (.Name "len" p) [.Call (.Name "set" p2) [a] [] pos2] [] pos) (ma.bnd fun x=>Zl (Fz x)):=fun loc mh =>
 Ar (Io Sw hg hm PySem.boot_len (Cp (Di (Pb hc) hg2 hm2 boot_set (Cp (ha loc mh) Ef hs) (by decide) (by decide) hs) Ef)) fun σ H Q ⟨ρ,d,mh',q,rl,rs,co⟩=>by
  obtain ⟨x,m1,ea,q⟩:=Ac q;refine ⟨ρ,x,m1,ea,rl,rs,fun H1 ρ1 v e1 rs1 r1=>?_⟩;have q:Fz x m1=some (d,mh'):=q;unfold Fz at q;split at q
  ·rename_i ns en;split at q
   ·rename_i hl;cases q;obtain ⟨pp,rfl,sq⟩:=S5 rs1 r1 en;refine ⟨pp,ns,rfl,sq,by unfold scanBound;omega,fun b hb=>⟨b,ns,rfl,Ay,?_⟩⟩;exact co _ ρ1 _ (e1.trans (Ev.new hb)) (rs1.new hb) (.int _)
   ·cases q
  ·cases q
noncomputable def dU (mx my:DM D):DM D:=mx.bnd fun x=>my.bnd fun y=>Zl (vJ x y)
end
section
variable {X:Cx}{pins:List (Addr×Obj)}{σ:L2.St}{H:Hp}{s:Shared}
theorem S6 (I:Inv X pins σ H s) {A:Around}(hh:A.handled=none) {p:Addr}{ys:List V}(hq:SqL X.K H p ys\/SqT X.K H p ys) {Q:Value->Shared->Prop}{E:Value->Shared->Prop}
  (h:∀ (its:List Value) (St:Nat->Heap->Prop) (h2:Heap),Vals ys its->Walks X.prog X.w A s.heap.objs.size [s.heap.objs.size,p] [s.heap.objs.size] its.length (fun i v=>its[i]?=some v) St->St 0 h2 ->
   (∀ b∈[s.heap.objs.size,p],b < h2.objs.size)->(∀ b o,s.heap.get? b=some o->h2.get? b=some o)->Q (.ref s.heap.objs.size) { s with heap:=h2 }) :
  wpAny (model X.prog X.w) A (pyIter (.ref p)) Q E s:=by
 rcases hq with hq|hq
 ·obtain ⟨its,rv,pl,hz⟩:=I.list hq;have hlt:p < s.heap.objs.size:=by obtain ⟨_,_,e,_⟩:=pl;exact Heap.lt_size e
  refine wpAny_pyIter_list pl.isList ?_;have W:=Walks.list (prog:=X.prog) (w:=X.w) hh s.heap.objs.size p (Nat.ne_of_lt hlt) its.toArray;refine h its (fun i h=>h.IsListIter s.heap.objs.size p i/\h.IsList p its.toArray) _ rv (by simpa using W) ⟨⟨_,Heap.get?_push_size _ rfl,rfl,rfl⟩,pl.isList.push _⟩ (fun b hb=>?_) fun b o e=>Heap.get?_push_of_some _ e
  rw [Heap.size_push];simp at hb;rcases hb with e|e
  ·rw [e];exact Nat.lt_succ_self _
  ·rw [e];exact Nat.lt_succ_of_lt hlt
 ·obtain ⟨its,rv,pl,hz⟩:=I.tuple hq;have pl:s.heap.IsTuple p its.toArray:=pl;have hlt:p < s.heap.objs.size:=by obtain ⟨_,e,_⟩:=id pl;exact Heap.lt_size e
  refine wpAny_pyIter_tuple pl ?_;have W:=Walks.tuple (prog:=X.prog) (w:=X.w) hh s.heap.objs.size p (Nat.ne_of_lt hlt) its.toArray;refine h its (fun i h=>h.IsTupleIter s.heap.objs.size p i/\h.IsTuple p its.toArray) _ rv (by simpa using W) ⟨⟨_,Heap.get?_push_size _ rfl,rfl,rfl⟩,pl.push _⟩ (fun b hb=>?_) fun b o e=>Heap.get?_push_of_some _ e
  rw [Heap.size_push];simp at hb;rcases hb with e|e
  ·rw [e];exact Nat.lt_succ_self _
  ·rw [e];exact Nat.lt_succ_of_lt hlt
theorem S7 {h2 h':Heap}(hk:∀ b o,b ∉ [s.heap.objs.size]->h2.get? b=some o->h'.get? b=some o) (h1:∀ b o,s.heap.get? b=some o->h2.get? b=some o):∀ b o,s.heap.get? b=some o->h'.get? b=some o :=
 fun b o e=>hk b o (fun hm=>by rw [List.mem_singleton.mp hm] at e;exact Nat.lt_irrefl _ (Heap.lt_size e)) (h1 b o e)
end
noncomputable def boolsOf:List D->Option (List Bool)
 | []=>some []
 | .bl i::r=>match boolsOf r with
  | some l=>some (i::l)
  | none=>none
 | _=>none
theorem Kh:∀ (ns:List Bool),boolsOf (ns.map D.bl)=some ns
 | []=>rfl
 | n::r=>by
  show (match boolsOf (r.map D.bl) with | some l=>some (n::l) | none=>none)=_;rw [Kh r]
theorem Iz:∀ {ds:List D}{ns:List Bool},boolsOf ds=some ns->ds=ns.map D.bl
 | [],ns,h=>by cases h;rfl
 | d::r,ns,h=>by
  cases d with
  | bl i =>
   have h:(match boolsOf r with | some l=>some (i::l) | none=>none)=some ns:=h;split at h
   ·rename_i l e;cases h;rw [Iz e];rfl
   ·cases h
  | _=>cases h
theorem Zo {K:PySem.W.Frag}{H:Hp}{ρ:List Addr}{ns:List Bool}{vs:List V}(h:RDs K H ρ (ns.map D.bl) vs):vs=ns.map V.bl:=by
 induction ns generalizing vs with
 | nil=>cases h;rfl
 | cons n r ih =>
  cases h with
  | cons a t=>cases a;rw [ih t];rfl
theorem Xj:∀ {bs:List Bool}{its:List Value},Vals (bs.map V.bl) its->its=bs.map Value.bool
 | [],_,.nil=>rfl
 | b::r,_,.cons h t=>by
  have h:_=Value.bool b:=h;rw [h,Xj t];rfl
theorem Ja:∀ {ns:List Int}{its:List Value}{i:Nat}{v:Value},Vals (ns.map V.int) its->its[i]?=some v->∃ n t,ns[i]?=some n/\v=.int n t
 | [],_,_,_,.nil,e=>by simp at e
 | n::r,_,0,_,.cons h t,e=>by
  obtain ⟨k,rfl⟩:=h;cases e;exact ⟨n,k,rfl,rfl⟩
 | n::r,_,i+1,_,.cons h t,e=>by
  obtain ⟨m,k,h1,h2⟩:=Ja (i:=i) t (by simpa using e);exact ⟨m,k,by simpa using h1,h2⟩
noncomputable def Jb (f:List Bool->Bool):List D->MH->Option (D×MH)
 | [x],mh=>match Dc x mh with
  | some ds=>match boolsOf ds with
   | some bs=>some (.bl (f bs),mh)
   | none=>none
  | none=>none
 | _,_=>none
theorem Q5 {f:List Bool->Bool}{ds:List D}{mh mh':MH}{d:D}(h:Jb f ds mh=some (d,mh')):∃ x bs,ds=[x]/\Dc x mh=some (bs.map D.bl)/\d=.bl (f bs)/\mh'=mh:=by
 match ds,h with
 | [x],h =>
  have h:(match Dc x mh with | some ds=>(match boolsOf ds with | some bs=>some (D.bl (f bs),mh) | none=>none) | none=>none)=some (d,mh'):=h;split at h
  ·rename_i es e;split at h
   ·rename_i bs eb;cases h;rw [Iz eb] at e;exact ⟨x,bs,rfl,e,rfl,rfl⟩
   ·cases h
  ·cases h
 | [],h=>cases h
 | _::_::_,h=>cases h
noncomputable def dW:List D->MH->Option (D×MH):=Jb fun bs=>bs.all id
section
variable {X:Cx}
theorem dX (hc:X.calm=true) {id:String}{f:List Bool->Bool}{dflt:Bool}{g:List Nat->(Nat->Bool)->Bool}(hg:∀ bs:List Bool,g (List.range bs.length) (fun i=>(bs[i]?).getD dflt)=f bs)
  (call_w:∀ {A:Around} {x:Value} {Q:Value->Shared->Prop} {E:Value->Shared->Prop} {s:Shared},wpAny (model X.prog X.w) A.in1 (pyIter x) (fun it s₂=>∃ I fp wr n P St tr,it=.ref I/\Walks X.prog X.w A.in1 I fp wr n P St/\St 0 s₂.heap/\TruthOf X.prog X.w A.in1 P tr /\
   ∀ h' tk,(∀ b o,b ∉ wr->s₂.heap.get? b=some o->h'.get? b=some o)->Q (.bool (g (List.range n) tr)) { s₂ with heap:=h',toks:=tk }) E s->wpAny (model X.prog X.w) A (call (.builtin id) [x]) Q E s) :
  Az X (.builtin id) (rDs X.K (Jb f)):=by
 rintro pins s σ H xs us Q I r ⟨ρ,mh,ds,d,mh',q,rs,rd,co⟩;obtain ⟨x,bs,rfl,e,rfl,rfl⟩:=Q5 q;obtain ⟨v,rfl,rx⟩:=Kw rd;obtain ⟨u,rfl,ru⟩:=vals1 r;obtain ⟨p,ys,rfl,hq,ry⟩:=Fq rs rx e;cases ru;rw [Zo ry] at hq;refine call_w (S6 I (A:=X.A.in1) (I.ok.hd hc) hq fun its St h2 rv W st _ hk=>?_);have ei:=Xj rv;refine ⟨_,_,_,its.length,_,St,fun i=>(bs[i]?).getD dflt,rfl,W,st,fun i v s' Q' E' hP hQ=>?_,fun h' tk hk'=>?_⟩
 ·rw [ei,List.getElem?_map] at hP;cases eb:bs[i]? with
  | none=>rw [eb] at hP;cases hP
  | some b =>
   rw [eb] at hP;cases hP;simp only [eb,Option.getD_some] at hQ;exact wpAny_truthy_bool hQ
 ·have e2:its.length=bs.length:=by rw [ei,List.length_map]
  rw [e2,hg bs];exact ⟨.bl _,H,I.kept (t':=tk) (S7 hk' hk),rfl,co H ρ _ Ev.refl rs (.bl _)⟩
theorem Zq (hc:X.calm=true):Az X (.builtin "all") (rDs X.K dW):=dX (dflt:=true) hc (g:=fun l f=>l.all f) (fun bs=>LSm.range_all bs) fun h=>call_all_walk h
end
noncomputable def S8:Int->List Int->Int
 | m,[]=>m
 | m,x::r=>S8 (if x < m then x else m) r
theorem Jc (bt:Nat->Nat->Bool) (f:Int->List Int->Int) (ns:List Int) (b:Int->Int->Bool) (hb:∀ i j x y,ns[i]?=some x->ns[j]?=some y->bt i j=b x y) (f0:∀ m,f m []=m) (f1:∀ m l x,f m (l++[x])=if b x (f m l)=true then x else f m l) :
  ∀ (k:Nat) (h:k < ns.length),∀ m r,ns=m::r->ns[argBest bt k]?=some (f m (r.take k))
 | 0,h,m,r,e=>by
  subst e;simp [argBest,f0]
 | k+1,h,m,r,e=>by
  have ih:=Jc bt f ns b hb f0 f1 k (by omega) m r e;have hk:k < r.length:=by rw [e,List.length_cons] at h;omega
  have e1:ns[k+1]?=some r[k]:=by rw [e,List.getElem?_cons_succ,List.getElem?_eq_getElem hk]
  have e2:r.take (k+1)=r.take k++[r[k]]:=by rw [List.take_add_one,List.getElem?_eq_getElem hk];rfl
  have e3:=hb (k+1) (argBest bt k) _ _ e1 ih;rw [e2,f1];unfold argBest;rw [e3];split
  ·exact e1
  ·exact ih
theorem Ph:∀ (l:List Int) (m x:Int),S8 m (l++[x])=if decide (x < S8 m l)=true then x else S8 m l
 | [],m,x=>by by_cases h:x < m <;> simp [S8,h]
 | y::l,m,x=>by
  show S8 _ (l++[x])=_;rw [Ph l];rfl
noncomputable def Vu (f:Int->List Int->Int):List D->MH->Option (D×MH)
 | [x],mh=>match Dc x mh with
  | some ds=>match intsOf ds with
   | some (n::r)=>some (.int (f n r),mh)
   | _=>none
  | none=>none
 | _,_=>none
theorem S9 {f:Int->List Int->Int}{ds:List D}{mh mh':MH}{d:D}(h:Vu f ds mh=some (d,mh')):∃ x n r,ds=[x]/\Dc x mh=some ((n::r).map D.int)/\d=.int (f n r)/\mh'=mh:=by
 match ds,h with
 | [x],h =>
  have h:(match Dc x mh with | some ds=>(match intsOf ds with | some (n::r)=>some (D.int (f n r),mh) | _=>none) | none=>none)=some (d,mh'):=h;split at h
  ·rename_i es e;split at h
   ·rename_i n r eb;cases h;rw [Cv eb] at e;exact ⟨x,n,r,rfl,e,rfl,rfl⟩
   ·cases h
  ·cases h
 | [],h=>cases h
 | _::_::_,h=>cases h
noncomputable def minD:List D->MH->Option (D×MH):=Vu S8
section
variable {X:Cx}
theorem oJ (hc:X.calm=true) {id:String}{f:Int->List Int->Int}{op:CmpOp}{b:Int->Int->Bool}(f0:∀ m,f m []=m) (f1:∀ m l x,f m (l++[x])=if b x (f m l)=true then x else f m l)
  (cmp:∀ {A:Around} {x y:Int} {t u:Tok} {Q:Value->Shared->Prop} {E:Value->Shared->Prop} {s:Shared},Q (.bool (b x y)) s->wpAny (model X.prog X.w) A (richCompare op (.int x t) (.int y u)) Q E s)
  (call_w:∀ {A:Around} {x:Value} {Q:Value->Shared->Prop} {E:Value->Shared->Prop} {s:Shared},wpAny (model X.prog X.w) A.in1 (pyIter x) (fun it s₂=>∃ I fp wr n P St bt,it=.ref I/\Walks X.prog X.w A.in1 I fp wr n P St/\St 0 s₂.heap/\(∀ b∈fp,b < s₂.heap.objs.size)/\0 < n/\CmpOf X.prog X.w A.in1 op P bt /\
   ∀ v h' tk,P (argBest bt (n - 1)) v->(∀ b o,b ∉ wr->s₂.heap.get? b=some o->h'.get? b=some o)->Q v { s₂ with heap:=h',toks:=tk }) E s->wpAny (model X.prog X.w) A (call (.builtin id) [x]) Q E s) :
  Az X (.builtin id) (rDs X.K (Vu f)):=by
 rintro pins s σ H xs us Q I r ⟨ρ,mh,ds,d,mh',q,rs,rd,co⟩;obtain ⟨x,n,l,rfl,e,rfl,rfl⟩:=S9 q;obtain ⟨v,rfl,rx⟩:=Kw rd;obtain ⟨u,rfl,ru⟩:=vals1 r;obtain ⟨p,ys,rfl,hq,ry⟩:=Fq rs rx e;cases ru;rw [Gx ry] at hq;refine call_w (S6 I (A:=X.A.in1) (I.ok.hd hc) hq fun its St h2 rv W st hfp hk=>?_);have hlen:(n::l).length=its.length:=by have:=rv.length;simpa using this
 refine ⟨_,_,_,its.length,_,St,fun i j=>(match (n::l)[i]?,(n::l)[j]? with | some x,some y=>b x y | _,_=>false),rfl,W,st,hfp,by rw [← hlen];simp,fun i j vi vj s' Q' E' hi hj hQ=>?_,fun v h' tk hP hk'=>?_⟩
 ·obtain ⟨a,t,e1,rfl⟩:=Ja rv hi;obtain ⟨a',t',e2,rfl⟩:=Ja rv hj;simp only [e1,e2] at hQ;exact cmp hQ
 ·have ar:=Jc (fun i j=>(match (n::l)[i]?,(n::l)[j]? with | some x,some y=>b x y | _,_=>false)) f (n::l) b (fun i j x y e1 e2=>by simp only [e1,e2]) f0 f1 (its.length - 1) (by rw [hlen];simp at hlen;omega) n l rfl;obtain ⟨a,t,e1,rfl⟩:=Ja rv hP;rw [ar] at e1;have e3:l.take (its.length - 1)=l:=List.take_of_length_le (by rw [← hlen];simp);rw [e3] at e1;cases e1;exact ⟨.int _,H,I.kept (t':=tk) (S7 hk' hk),⟨t,rfl⟩,co H ρ _ Ev.refl rs (.int _)⟩
end
theorem dY (l b:Addr) (n n2:Nat) (sl:Array (Option Value)) {items more:Array Value}(h0:¬(!items.isEmpty&&Builtin.List.listTooLong (items.size+more.size))=true) (h1:items.size+more.size<=sizeLine) :
  PySem.Meets (Builtin.«list.extend» ⟨[.ref l,.ref b],[]⟩) (fun _ R s=>s.heap.get? l=some ⟨.type "list",none,.seq items n,#[]⟩/\s.heap.get? b=some ⟨.type "tuple",none,.seq more n2,sl⟩/\R (.ok (.ret .none)) { s with heap:=s.heap.update l (Obj.mapSeq fun x=>x++more),toks:=s.toks }):=by
 refine .of_wp fun prog w A R st hh=>?_
 have hj:(items++more).size<=sizeLine+1:=by rw [Array.size_append];omega
 have hi:items.size<=sizeLine:=by omega
 cases st;rcases hh with ⟨e1,e2,e3⟩
 have q1:=PySem.AutoSeq1.sub_list_tuple;have q2:=PySem.AutoSeq1.sub_tuple_list;have q3:=PySem.AutoSeq1.sub_list_list;have q4:=PySem.AutoSeq1.sub_tuple_tuple;wp_walk using (wpAny_updateSeq e1 rfl (hz:=hi) (_hz':=hj)),PySem.AutoSeq1.wpAny_loadPart' e1,PySem.AutoSeq1.wpAny_loadPart' e2
 exact ⟨_,rfl,e3⟩
section
variable {X:Cx}
theorem Zt (hc:X.calm=true):Az X (.builtin "min") (rDs X.K minD):=oJ (op:=.Lt) (b:=fun x m=>decide (x < m)) hc (fun _=>rfl) (fun m l x=>Ph l m x) (fun h=>PyProof.Rows.lt_int h) fun h=>call_min_walk h
noncomputable def Cj:D->List D->MH->Option (D×MH)
 | .ref n,[.int i],mh=>match mh[n]? with
  | some (.lst ds)=>if -(2 ^ 63)<=i/\i < 2 ^ 63 then (match ixN ds.length i with
   | some k=>(match ds[k]? with | some y=>some (y,mh.set n (.lst (ds.eraseIdx k))) | none=>none)
   | none=>none) else none
  | _=>none
 | _,_,_=>none
theorem RDs.eraseIdx {K:PySem.W.Frag}{H:Hp}{ρ:List Addr}:∀ {ds:List D}{vs:List V}(n:Nat),RDs K H ρ ds vs->RDs K H ρ (ds.eraseIdx n) (vs.eraseIdx n)
 | _,_,_,.nil=>.nil
 | _,_,0,.cons _ t=>t
 | _,_,n+1,.cons r t=>.cons r (RDs.eraseIdx n t)
theorem Zu:MtR X "list.pop" (rDM X.K Cj):=by
 refine Qx bK ?_;rintro x xs H Q ⟨ρ,mh,dx,ds,d,mh',q,rs,rx,r,co⟩
 match ds,q with
 | [.int i],q =>
  obtain ⟨v,rfl,rv⟩:=Kw r;cases rv;cases rx with
  | @ref n a hn =>
   simp only [Cj] at q;split at q
   ·rename_i ds em;split at q
    ·rename_i hb;split at q
     ·rename_i k ek;split at q
      ·rename_i y ey;cases q;obtain ⟨a',ha,us,hu,ru⟩:=rs.at em;rw [hn] at ha;cases ha;obtain ⟨w',hw,rw'⟩:=ru.get ey;refine ⟨a,us,i,k,w',rfl,rfl,hu,hb.1,hb.2,?_,hw,?_⟩
       ·rw [← ru.length];exact (Qj ek).1
       ·exact co _ ρ _ (Ev.lst hu) (rs.setL hn hu (ru.eraseIdx k)) (rw'.mono (Ev.lst hu))
      ·cases q
     ·cases q
    ·cases q
   ·cases q
  | _=>cases q
 | [],q=>cases dx <;> cases q
 | .non::_,q=>cases dx <;> simp [Cj] at q
 | .bl _::_,q=>cases dx <;> simp [Cj] at q
 | .str _::_,q=>cases dx <;> simp [Cj] at q
 | .tup _::_,q=>cases dx <;> simp [Cj] at q
 | .ref _::_,q=>cases dx <;> simp [Cj] at q
 | .rol _::_,q=>cases dx <;> simp [Cj] at q
 | .obj ..::_,q=>cases dx <;> simp [Cj] at q
 | .fn _::_,q=>cases dx <;> simp [Cj] at q
 | .lam::_,q=>cases dx <;> simp [Cj] at q
 | .int _::_::_,q=>cases dx <;> simp [Cj] at q
noncomputable def Bj:D->List D->MH->Option (D×MH)
 | .ref n,[.ref m],mh=>match mh[n]?,mh[m]? with
  | some (.lst xs),some (.lst ys)=>if xs.length+ys.length<=sizeLine then some (.non,mh.set n (.lst (xs++ys))) else none
  | _,_=>none
 | .ref n,[.tup ys],mh=>match mh[n]? with
  | some (.lst xs)=>if xs.length+ys.length<=sizeLine then some (.non,mh.set n (.lst (xs++ys))) else none
  | _=>none
 | _,_,_=>none
theorem MtR.or {id:String}{r r':V->List V->Hp->VK->Prop}(h:MtR X id r) (h':MtR X id r'):MtR X id (fun x xs H Q=>r x xs H Q\/r' x xs H Q):=fun pins s σ H x xs v us Q I rx rs q =>
 q.elim (h pins s σ H x xs v us Q I rx rs) (h' pins s σ H x xs v us Q I rx rs)
theorem Vv:MtR X "list.extend" (fun x vs H Q=>∃ l b xs zs,x=.ref l/\vs=[.ref b]/\H l=some (.lst xs)/\SqT X.K H b zs/\xs.length+zs.length<=sizeLine/\Q .non (upd H l (.lst (xs++zs)))):=by
 rintro pins s σ H x vs v us Q I rx rv ⟨l,b,xs,zs,rfl,rfl,hH,hB,hz,q⟩;cases rx;obtain ⟨u,rfl,ru⟩:=rv.one;cases ru;obtain ⟨z,ia,n,r,hl,e⟩:=I.lstM hH;obtain ⟨ib,r2,⟨⟨oc,od,dt,sl⟩,e2,c2,d2,n2,t2⟩,z2⟩:=I.tupleP hB;cases c2;cases d2;cases t2;have h2:=r2.length;refine call_meets F.slot_list_extend ⟨_,e,rfl⟩ F.entry_list_extend (F.args_list_extend_2 _ _) (dY l b n n2 sl (items:=ia.toArray) (more:=ib.toArray) ?_ ?_) ⟨e,e2,?_⟩
 ·rw [Rv (by rw [List.size_toArray,List.size_toArray];omega),Bool.and_false];exact Bool.false_ne_true
 ·rw [List.size_toArray,List.size_toArray];omega
 ·refine ⟨.non,_,I.lset (its':=ia++ib) hH e (by simp) (r.append r2) ?_,rfl,q⟩;rw [List.length_append];omega
theorem Vw:MtR X "list.extend" (rDM X.K Bj):=by
 refine Qx (MtR.or Yt Vv) ?_;rintro x xs H Q ⟨ρ,mh,dx,ds,d,mh',q,rs,rx,r,co⟩
 match ds,q with
 | [.ref m],q =>
  obtain ⟨v,rfl,rv⟩:=Kw r;cases rv with
  | @ref _ b hb =>
   cases rx with
   | @ref n a hn =>
    simp only [Bj] at q;split at q
    ·rename_i es fs e1 e2;split at q
     ·rename_i hz;cases q;obtain ⟨a',ha,us,hu,ru⟩:=rs.at e1;obtain ⟨b',hb',ws,hw,rw'⟩:=rs.at e2;rw [hn] at ha;cases ha;rw [hb] at hb';cases hb';exact .inl ⟨a,b,us,ws,rfl,rfl,hu,hw,by rw [← ru.length,← rw'.length];exact hz,co _ ρ _ (Ev.lst hu) (rs.setL hn hu (ru.append rw')) .non⟩
     ·cases q
    ·cases q
   | _=>cases q
 | [],q=>cases dx <;> cases q
 | .non::_,q=>cases dx <;> simp [Bj] at q
 | .bl _::_,q=>cases dx <;> simp [Bj] at q
 | .str _::_,q=>cases dx <;> simp [Bj] at q
 | [.tup ys],q =>
  obtain ⟨v,rfl,rv⟩:=Kw r;cases rv with
  | @tup _ b zs hb rz =>
   cases rx with
   | @ref n a hn =>
    simp only [Bj] at q;split at q
    ·rename_i es e1;split at q
     ·rename_i hz;cases q;obtain ⟨a',ha,us,hu,ru⟩:=rs.at e1;rw [hn] at ha;cases ha;exact .inr ⟨a,b,us,zs,rfl,rfl,hu,hb,by rw [← ru.length,← rz.length];exact hz,co _ ρ _ (Ev.lst hu) (rs.setL hn hu (ru.append rz)) .non⟩
     ·cases q
    ·cases q
   | _=>cases q
 | .tup _::_::_,q=>cases dx <;> simp [Bj] at q
 | .int _::_,q=>cases dx <;> simp [Bj] at q
 | .rol _::_,q=>cases dx <;> simp [Bj] at q
 | .obj ..::_,q=>cases dx <;> simp [Bj] at q
 | .fn _::_,q=>cases dx <;> simp [Bj] at q
 | .lam::_,q=>cases dx <;> simp [Bj] at q
 | .ref _::_::_,q=>cases dx <;> simp [Bj] at q
end
section
variable {X:Cx}{pins:List (Addr×Obj)}{σ:L2.St}{H:Hp}{s:Shared}{fp:List Addr}{h':Heap}
theorem Jv {t':Nat}(I:Inv X pins σ H s) (k:∀ b o,b ∉ fp->s.heap.get? b=some o->h'.get? b=some o) (hf:∀ b∈fp,Gn X pins H b):Inv X pins σ H { s with heap:=h',toks:=t' }:=by
 have nf:∀ b u,H b=some u->b ∉ fp:=fun b u e z=>by rw [(hf b z).1] at e;cases e
 refine I.step (g':=s.gens) (d':=s.drawn) (ch:=fp) (fun b hb=>⟨(hf b hb).2.2.2.1,(hf b hb).2.1,(hf b hb).2.2.2.2.1,(hf b hb).2.2.2.2.2⟩) (fun b o _ _ hc e _=>k b o hc e) (fun b o _ _ hc e _=>⟨o.slots,k b o hc e⟩) (fun _ _ _ _ n=>n)
  (fun b o hc e=>⟨o,k b o hc e⟩) (fun _ _ e=>e) (fun _ _ _ e=>e) (fun b ps e=>⟨#[],by rw [e];simp⟩) (fun m hm=>?_) (fun b u e=>?_) I.bare
 ·obtain ⟨o,es,ep,ho,r⟩:=hm;exact ⟨o,es,ep,k _ o (fun z=>(hf _ z).2.1 rfl) ho,r⟩
 ·refine (I.hok b u e).stay (fun c v hc q=>k c v ?_ q) (fun _ q=>q) fun _ _ q=>q
  rcases hc with z|z
  ·rw [z];exact nf b u e
  ·exact nf c _ z
theorem Hs {t':Nat}{a:Addr}{o:HO}(I:Inv X pins σ H s) (k:∀ b o,b ∉ fp->s.heap.get? b=some o->h'.get? b=some o) (hf:∀ b∈fp,Gn X pins H b) (hp:s.heap.objs.size<=a) (new:Dh X.prog X.w (upd H a o) h' a o) :
  Inv X pins σ (upd H a o) { s with heap:=h',toks:=t' }:=by
 have hn:H a=none:=I.hok.fresh hp;have nb:∀ b u,H b=some u->upd H a o b=some u:=fun b u e=>by rw [Aj (Ao e hn)];exact e
 have nf:∀ b u,H b=some u->b ∉ fp:=fun b u e z=>by rw [(hf b z).1] at e;cases e
 refine I.step (g':=s.gens) (d':=s.drawn) (ch:=fp) (fun b hb=>⟨(hf b hb).2.2.2.1,(hf b hb).2.1,(hf b hb).2.2.2.2.1,(hf b hb).2.2.2.2.2⟩) (fun b o _ _ hc e _=>k b o hc e) (fun b o _ _ hc e _=>⟨o.slots,k b o hc e⟩) (fun b o' hc e n=>?_)
  (fun b o hc e=>⟨o,k b o hc e⟩) (fun b xs e=>nb _ _ e) (fun b o u e=>nb _ _ e) (fun b ps e=>⟨#[],by rw [nb _ _ e];simp⟩) (fun m hm=>?_) (fun b u e=>?_) I.bare
 ·rw [Aj (Nat.ne_of_lt (Nat.lt_of_lt_of_le (Heap.lt_size e) hp))];exact n
 ·obtain ⟨o,es,ep,ho,r⟩:=hm;exact ⟨o,es,ep,k _ o (fun z=>(hf _ z).2.1 rfl) ho,r⟩
 ·by_cases hb:b=a
  ·subst hb;rw [Ay] at e;cases e;exact new
  ·rw [Aj hb] at e;refine (I.hok b u e).stay (fun c v hc q=>k c v ?_ q) (fun c q=>nb _ _ q) fun c xs q=>nb _ _ q
   rcases hc with z|z
   ·rw [z];exact nf b u e
   ·exact nf c _ z
end
section
variable {prog:Program}{w:World}{A:Around}{E:Value->Shared->Prop}{s:Shared}
theorem Tc {it l:Addr}{i:Nat}{items:Array Value}{x:Value}{Q:Value->Shared->Prop}(hit:s.heap.IsTupleIter it l i) (hl:s.heap.IsTuple l items) (hx:items[i]?=some x)
  (hQ:∀ h',h'.IsTupleIter it l (i+1)->Heap.SameBut it s.heap h'->Q x { s with heap:=h' }):wpAny (model prog w) A (Builtin.SmallTypes.nextOf (.ref it)) Q E s:=by
 obtain ⟨o,ho,hc,hd⟩:=id hit;obtain ⟨ol,hol,_,nl,hdl⟩:=hl;unfold Builtin.SmallTypes.nextOf
 refine wpAny_bind (wpAny_callSpecial?_slot (name:=Str.ofString "__next__") hit.typeIs F.slot_tuple_iterator_next (wpAny_call_entry F.slot_tuple_iterator_next hit.typeIs F.entry_tuple_iterator_next ?_ (F.args_tuple_iterator_next_1 _)));show wpAny _ _ (field (.ref it) 0 >>= _) _ _ s;refine wpAny_bind (wpAny_field ho hd (x:=.ref l) rfl ?_);show wpAny _ _ (if (Value.ref l==Value.none)=true then _ else _) _ _ s;rw [if_neg (show ¬ ((Value.ref l==Value.none)=true) from Bool.false_ne_true)];show wpAny _ _ (field (.ref it) 1 >>= _) _ _ s;refine wpAny_bind (wpAny_field ho hd (x:=.int i 0) rfl ?_);show wpAny _ _ (seqItems? (.ref l) >>= _) _ _ s;refine wpAny_bind (wpAny_seqItems hol hdl ?_);simp only [Int.toNat_natCast,hx];refine wpAny_bind (wpAny_setField ho hd (by simp) (wpAny_pure ⟨x,rfl,wpAny_pure (hQ _ ⟨_,Heap.get?_update_self _ ho (Obj.isFreed_of_fields (Obj.data_mapFields hd _)),(Obj.cls_mapFields ..).trans hc,?_⟩ (Heap.SameBut.update ..))⟩));rw [Obj.data_mapFields hd];simp [rawInt]
theorem Td {it l:Addr}{i:Nat}{items:Array Value}{Q:Value->Shared->Prop}(hh:A.handled=none) (hit:s.heap.IsTupleIter it l i) (hl:s.heap.IsTuple l items) (hx:items[i]?=none)
  (hE:∀ h' e,Heap.ExtBut it s.heap h'->(∃ o,h'.get? e=some o/\o.cls=.type "StopIteration")->E (.ref e) { s with heap:=h' }):wpAny (model prog w) A (Builtin.SmallTypes.nextOf (.ref it)) Q E s:=by
 obtain ⟨o,ho,hc,hd⟩:=id hit;obtain ⟨ol,hol,_,nl,hdl⟩:=hl;unfold Builtin.SmallTypes.nextOf
 refine wpAny_bind (wpAny_callSpecial?_slot (name:=Str.ofString "__next__") hit.typeIs F.slot_tuple_iterator_next (wpAny_call_entry F.slot_tuple_iterator_next hit.typeIs F.entry_tuple_iterator_next ?_ (F.args_tuple_iterator_next_1 _)));show wpAny _ _ (field (.ref it) 0 >>= _) _ _ s;refine wpAny_bind (wpAny_field ho hd (x:=.ref l) rfl ?_);show wpAny _ _ (if (Value.ref l==Value.none)=true then _ else _) _ _ s;rw [if_neg (show ¬ ((Value.ref l==Value.none)=true) from Bool.false_ne_true)];show wpAny _ _ (field (.ref it) 1 >>= _) _ _ s;refine wpAny_bind (wpAny_field ho hd (x:=.int i 0) rfl ?_);show wpAny _ _ (seqItems? (.ref l) >>= _) _ _ s;refine wpAny_bind (wpAny_seqItems hol hdl ?_);simp only [Int.toNat_natCast,hx]
 refine wpAny_bind (wpAny_rule (wpAny_bind (wpAny_setField ho hd (by simp) ?_)));show wpAny _ _ (newExc (.type "StopIteration") [] >>= _) _ _ _;refine wpAny_bind ?_;simp only [newExc,newTuple];refine wpAny_bind (wpAny_newObj_type ?_ (by size_fits));refine wpAny_bind (m:=firstArgMember _ _) (wpAny_of_eq (a:=Value.none) (by first | rfl | (simp only [firstArgMember];rfl)) ?_);refine wpAny_newObj_type ?_ (by size_fits);simp only [raiseNew];refine wpAny_bind (wpAny_handled ?_);first | rw [show A.in1.handled=none from hh] | rw [hh]
 refine wpAny_bind (wpAny_pure (wpAny_throw (hE _ _ (((Heap.SameBut.update ..).extBut.push _).push _) ⟨_,Heap.get?_push_size _ rfl,rfl⟩)))
theorem Zv (hh:A.handled=none) (it l:Addr) (hne:l≠it) (items:Array Value):Draws prog w A it [it,l] items.size (fun i v=>items[i]?=some v) (fun i h=>h.IsTupleIter it l i/\h.IsTuple l items) where
 live:=fun _ _ st=>let ⟨o,ho,_⟩:=st.1;⟨o,ho⟩
 frame:=fun _ _ _ st hk=>⟨let ⟨o,ho,r⟩:=st.1;⟨o,hk it (by simp) o ho,r⟩,let ⟨o,ho,r⟩:=st.2;⟨o,hk l (by simp) o ho,r⟩⟩
 item:=fun i s Q E hi st hQ=>Tc st.1 st.2 (x:=items[i]) (by simp [hi]) fun h' hit' hs'=>hQ _ h' s.toks (by simp [hi]) ⟨hit',st.2.extBut hs'.extBut hne⟩ hs'
 done:=fun s Q E st hE=>Td hh st.1 st.2 (by simp) hE
end
theorem k_ne {X:Cx}{pins:List (Addr×Obj)}{σ:L2.St}{H:Hp}{s:Shared}{a b:Addr}{o:Obj}(I:Inv X pins σ H s) (e:X.K.lookup a=some o) (f:Gn X pins H b):a≠b:=fun z=>by
 have hb:=I.ok.mod.kin a o e;rcases f.2.2.2.1 with q|q
 ·exact I.ok.noex a o hb (z ▸ q)
 ·have h1:a < X.base.objs.size:=Heap.lt_size hb;have h2:=I.ok.bsz;have h3:X.s₀.heap.objs.size<=a:=z ▸ q;exact absurd (Nat.lt_of_lt_of_le h1 h2) (Nat.not_lt.mpr h3)
theorem qW {H:Hp}{a b:Addr}{u:HO}(h:Rd H a u) (f:H b=none):a≠b:=fun z=>by
 rcases h with h | ⟨o,h⟩ <;> (rw [z,f] at h;cases h)
structure SeqK where
 sq:PySem.W.Frag->Hp->Addr->List V->Prop
 isIt:Heap->Addr->Addr->Nat->Prop
 isSeq:Heap->Addr->Array Value->Prop
 cls:String
 get:∀ {X:Cx} {pins:List (Addr×Obj)} {σ:L2.St} {H:Hp} {s:Shared} {a:Addr} {xs:List V},Inv X pins σ H s->sq X.K H a xs->∃ its:List Value,Vals xs its/\isSeq s.heap a its.toArray/\xs.length<=sizeLine
 inj:∀ {X:Cx} {pins:List (Addr×Obj)} {σ:L2.St} {H:Hp} {s:Shared} {a:Addr} {xs ys:List V},Inv X pins σ H s->sq X.K H a xs->sq X.K H a ys->xs=ys
 itO:∀ {h:Heap} {it l:Addr} {i:Nat},isIt h it l i->∃ o,h.get? it=some o/\o.cls=.type cls/\∃ vs,o.data=.fields vs
 itK:∀ {h h':Heap} {it l:Addr} {i:Nat},isIt h it l i->(∀ o,h.get? it=some o->h'.get? it=some o)->isIt h' it l i
 seqO:∀ {h:Heap} {l:Addr} {items:Array Value},isSeq h l items->∃ o,h.get? l=some o/\∃ n,o.data=.seq items n
 seqK:∀ {h h':Heap} {l:Addr} {items:Array Value},isSeq h l items->(∀ o,h.get? l=some o->h'.get? l=some o)->isSeq h' l items
 draws:∀ {prog:Program} {w:World} {A:Around},A.handled=none->∀ (it l:Addr),l≠it->∀ (items:Array Value),Draws prog w A it [it,l] items.size (fun i v=>items[i]?=some v) (fun i h=>isIt h it l i/\isSeq h l items)
 iter:∀ {prog:Program} {w:World} {A:Around} {E:Value->Shared->Prop} {s:Shared} {l:Addr} {items:Array Value} {Q:Value->Shared->Prop},isSeq s.heap l items ->
  Q (.ref s.heap.objs.size) { s with heap:=s.heap.push { cls:=.type cls,data:=.fields #[.ref l,.int 0 0] } }->wpAny (model prog w) A (pyIter (.ref l)) Q E s
 stop:∀ {prog:Program} {w:World} {A:Around} {E:Value->Shared->Prop} {s:Shared} {it l:Addr} {i:Nat} {items:Array Value} {Q:Value->Shared->Prop},A.handled=none->isIt s.heap it l i->isSeq s.heap l items->items[i]?=none ->
  (∀ h' e,Heap.ExtBut it s.heap h'->(∃ o,h'.get? e=some o/\o.cls=.type "StopIteration")->E (.ref e) { s with heap:=h' })->wpAny (model prog w) A (Builtin.SmallTypes.nextOf (.ref it)) Q E s
 next:∀ {prog:Program} {w:World} {A:Around} {E:Value->Shared->Prop} {s:Shared} {it l:Addr} {i:Nat} {items:Array Value} {x:Value} {Q:Value->Shared->Prop},isIt s.heap it l i->isSeq s.heap l items->items[i]?=some x ->
  (∀ h',isIt h' it l (i+1)->Heap.SameBut it s.heap h'->Q x { s with heap:=h' })->wpAny (model prog w) A (Builtin.SmallTypes.nextOf (.ref it)) Q E s
 ne:∀ {X:Cx} {pins:List (Addr×Obj)} {σ:L2.St} {H:Hp} {s:Shared} {a b:Addr} {xs:List V},Inv X pins σ H s->sq X.K H a xs->Gn X pins H b->a≠b
 new:∀ (h:Heap) (l:Addr),isIt (h.push { cls:=.type cls,data:=.fields #[.ref l,.int 0 0] }) h.objs.size l 0
noncomputable def dZ:SeqK where
 sq:=SqL
 isIt:=fun h it l i=>h.IsListIter it l i
 isSeq:=fun h l its=>h.IsList l its
 cls := "list_iterator"
 get:=fun I h=>let ⟨its,r,p,z⟩:=I.list h;⟨its,r,p.isList,z⟩
 inj:=fun I h h'=>I.list_inj h h'
 itO:=fun ⟨o,e,c,d⟩=>⟨o,e,c,_,d⟩
 itK:=fun st k=>st.at k
 seqO:=fun ⟨o,e,_,n,d⟩=>⟨o,e,n,d⟩
 seqK:=fun ⟨o,e,r⟩ k=>⟨o,k o e,r⟩
 draws:=fun hh it l hne items=>Draws.list hh it l hne items
 iter:=fun hs q=>wpAny_pyIter_list hs q
 stop:=fun hh a b c d=>wpAny_nextOf_list_end hh a b c d
 next:=fun a b c d=>wpAny_nextOf_list_item a b c d
 ne:=fun I h f=>by
  rcases h with h|⟨o,its,n,hk,_⟩
  ·exact qW h f.1
  ·exact k_ne I hk f
 new:=fun h l=>⟨_,Heap.get?_push_size _ rfl,rfl,rfl⟩
noncomputable def vK:SeqK where
 sq:=SqT
 isIt:=fun h it l i=>h.IsTupleIter it l i
 isSeq:=fun h l its=>h.IsTuple l its
 cls := "tuple_iterator"
 get:=fun I h=>let ⟨its,r,p,z⟩:=I.tuple h;⟨its,r,p,z⟩
 inj:=fun I h h'=>I.tuple_inj h h'
 itO:=fun ⟨o,e,c,d⟩=>⟨o,e,c,_,d⟩
 itK:=fun ⟨o,e,r⟩ k=>⟨o,k o e,r⟩
 seqO:=fun ⟨o,e,_,n,d⟩=>⟨o,e,n,d⟩
 seqK:=fun ⟨o,e,r⟩ k=>⟨o,k o e,r⟩
 draws:=fun hh it l hne items=>Zv hh it l hne items
 iter:=fun hs q=>wpAny_pyIter_tuple hs q
 stop:=fun hh a b c d=>Td hh a b c d
 next:=fun a b c d=>Tc a b c d
 ne:=fun I h f=>by
  rcases h with h|⟨o,its,n,hk,_⟩
  ·exact qW h f.1
  ·exact k_ne I hk f
 new:=fun h l=>⟨_,Heap.get?_push_size _ rfl,rfl,rfl⟩
section
variable {prog:Program}{w:World}{A:Around}{E:Value->Shared->Prop}{s:Shared}
end
structure SR (k:SeqK) (K:PySem.W.Frag) (H0:Hp) (ρ0:List Addr) (src:Src) (a:Addr):Prop where
 rd:∀ H ρ mh,Ev K H0 ρ0 H ρ->RS K H ρ mh->src.ok mh=true->∃ xs,k.sq K H a xs/\RDs K H ρ (src.items mh) xs
 ok:∀ (mh:MH) (i:Nat) (d:D),(src.items mh)[i]?=some d->src.ok mh=true
theorem SR.tup {K:PySem.W.Frag}{H0:Hp}{ρ0:List Addr}{ds:List D}{a:Addr}{xs:List V}(s:SqT K H0 a xs) (r:RDs K H0 ρ0 ds xs):SR vK K H0 ρ0 (.seq ds) a :=
 ⟨fun H ρ mh e rs _=>⟨xs,e.tup _ _ s,r.mono e⟩,fun _ _ _ _=>rfl⟩
theorem SR.rol {K:PySem.W.Frag}{H0:Hp}{ρ0:List Addr}{ds:List D}{a:Addr}{xs:List V}(s:Gh K H0 a xs) (r:RDs K H0 ρ0 ds xs):SR dZ K H0 ρ0 (.seq ds) a :=
 ⟨fun H ρ mh e rs _=>⟨xs,(e.perm _ _ s).sq,r.mono e⟩,fun _ _ _ _=>rfl⟩
theorem SR.lst {K:PySem.W.Frag}{H0:Hp}{ρ0:List Addr}{n:Nat}{a:Addr}(h:ρ0[n]?=some a):SR dZ K H0 ρ0 (.lref n) a:=by
 refine ⟨fun H ρ mh e rs ok=>?_,fun mh i d q=>?_⟩
 ·have ok:(match mh[n]? with | some (.lst _)=>true | _=>false)=true:=ok;obtain ⟨o,eo⟩:∃ o,mh[n]?=some (.lst o):=by
   split at ok
   ·exact ⟨_,‹_›⟩
   ·cases ok
  obtain ⟨a',ha,ro⟩:=rs.at eo;rw [e.at h] at ha;cases ha;obtain ⟨xs,sq,r⟩:=ro.read;refine ⟨xs,sq,?_⟩;show RDs K H ρ (match mh[n]? with | some (.lst o)=>o | _=>[]) xs;rw [eo];exact r
 ·have q:(match mh[n]? with | some (.lst o)=>o | _=>[])[i]?=some d:=q;show (match mh[n]? with | some (.lst _)=>true | _=>false)=true;split at q
  ·rfl
  ·simp at q
section
variable {X:Cx}
end
section
variable {X:Cx}
theorem Oi {prog:Program}{w:World}{A:Around}{E:Value->Shared->Prop}{s:Shared}{r:Addr}{a b c:Int}{t u v:Tok}{n:Nat}{Q:List Value->Shared->Prop}(hh:A.handled=none) (hr:IsRange s.heap r a b c t u v) (hsmall:Builtin.Range.small a b c=true)
  (hn:Builtin.Range.rangeSize a b c=n) (hlen:n<=2 ^ 24)
  (hQ:∀ h' tk acc,(∀ b o,s.heap.get? b=some o->h'.get? b=some o)->ItemsOf (fun i v=>∃ t,v=.int (a+i * c) t) acc n->Q acc.toList { s with heap:=h',toks:=tk }):wpAny (model prog w) A (collect (.ref r)) Q E s:=by
 have key:∀ R:Result->Shared->Prop,(∀ h' tk acc' c',(∀ b o,b≠s.heap.objs.size->(s.heap.push { cls:=.type "list",data:=.seq ([]:List Value).toArray }).get? b=some o->h'.get? b=some o)->h'.get? s.heap.objs.size=some { cls:=.type "list",dict:=none,data:=.seq acc' c',slots:=#[] } ->
   ItemsOf (fun i v=>∃ t,v=.int (a+i * c) t) acc' n->R (.ok (.ret (.ref s.heap.objs.size))) { s with heap:=h',toks:=tk })->codeAny (model prog w) A (.builtin "proto.collect" ⟨[.ref r],[]⟩) R s:=fun R hR=>by
  refine codeAny_builtin F.entry_proto_collect ?_;rw [Around.under_plainId F.plain_proto_collect _]
  show wpAny _ A.in1 (newList [] >>= fun l=>again (.builtin "list.__iadd__" ⟨[l,.ref r],[]⟩)) _ _ s;refine wpAny_bind (wpAny_newObj_type ?_);refine wpAny_pure ⟨plainId_quiet F.plain_list_iadd _,codeAny_builtin F.entry_list_iadd ?_⟩;rw [Around.under_plainId F.plain_list_iadd _]
  have hS:(s.heap.push { cls:=.type "list",data:=.seq ([]:List Value).toArray }).get? s.heap.objs.size=some { cls:=.type "list",data:=.seq #[] 0 }:=Heap.get?_push_size _ rfl;show wpAny _ A.in1 (Builtin.List.listExtendWith (.ref s.heap.objs.size) (.ref r) (.ref s.heap.objs.size)) _ _ _
  exact wpAny_extend_range (A:=A) (R:=R) (s:={ s with heap:=s.heap.push { cls:=.type "list",data:=.seq ([]:List Value).toArray } }) hh (Heap.get?_push_of_some _ hr) hsmall hn hlen s.heap.objs.size _ 0 hS hR
 unfold collect;refine wpAny_bind (wpAny_runValue (key _ fun h' tk acc' c' hk hS' hacc=>?_));show wpAny _ A (load s.heap.objs.size >>= _) _ _ _;refine wpAny_bind (wpAny_load hS' ?_);exact wpAny_pure (hQ h' tk acc' (fun b o e=>hk b o (Nat.ne_of_lt (Heap.lt_size e)) (Heap.get?_push_of_some _ e)) hacc)
theorem Mr (r:Addr) (a b c:Int) (t u v:Tok) (n:Nat) (hsmall:Builtin.Range.small a b c=true) (hn:Builtin.Range.rangeSize a b c=n) (hlen:n<=2 ^ 24) :
  Meets (Builtin.«tuple.__new__» ⟨[.type "tuple",.ref r],[]⟩) (fun A R s=>A.handled=none/\IsRange s.heap r a b c t u v/\∀ (h':Heap) (tk:Nat) (acc:Array Value),(∀ b o,s.heap.get? b=some o->h'.get? b=some o)->ItemsOf (fun i v=>∃ t,v=.int (a+i * c) t) acc n ->
    R (.ok (.ret (.ref h'.objs.size))) { s with heap:=h'.push { cls:=.type "tuple",data:=.seq acc },toks:=tk }) :=
 .of_wp fun prog w A R s h=>by
  obtain ⟨hh,hr,h⟩:=h;have hsub:=sub_tuple_self;have hinit:=init_tuple_lookup;have hmh:=madeHere_tuple
  have hT:s.TypeIs (.ref r) "range":=⟨_,hr,rfl⟩
  have hh1:A.in1.handled=none:=hh;wp_walk using wpAny_typeOf hT,Oi hh1 hr hsmall hn hlen
  intro h' tk acc hk hacc;show wpAny _ _ (Builtin.Tuple.tupleExact acc.toList.toArray >>= fun v=>ret v) _ _ _;unfold Builtin.Tuple.tupleExact;refine wpAny_bind (wpAny_newObj_type (wpAny_pure ⟨_,rfl,?_⟩) (show acc.toList.toArray.size<=sizeLine by simp only [Array.toArray_toList];rw [hacc.1,sizeLine_eq];omega));have e:acc.toList.toArray=acc:=by simp
  rw [e];exact h h' tk acc hk hacc
theorem Oj {prog:Program}{w:World}{A:Around}{E:Value->Shared->Prop}{s:Shared}{r:Addr}{a b c:Int}{t u v:Tok}{n:Nat}{Q:Value->Shared->Prop}(hh:A.handled=none) (hr:IsRange s.heap r a b c t u v) (hsmall:Builtin.Range.small a b c=true)
  (hn:Builtin.Range.rangeSize a b c=n) (hlen:n<=2 ^ 24)
  (h:∀ (h':Heap) (tk:Nat) (acc:Array Value),(∀ b o,s.heap.get? b=some o->h'.get? b=some o)->ItemsOf (fun i v=>∃ t,v=.int (a+i * c) t) acc n->Q (.ref h'.objs.size) { s with heap:=h'.push { cls:=.type "tuple",data:=.seq acc },toks:=tk }) :
  wpAny (model prog w) A (call (.type "tuple") [.ref r]) Q E s:=by
 refine callType_new F.called_tuple (by decide) (F.typeCall_tuple_1 _) (F.newCall_tuple_1 _) (fun obj=>F.args_object_init_2 obj _) F.entry_tuple_new
  (Mr r a b c t u v n hsmall hn hlen) ⟨hh,hr,fun h' tk acc hk hacc=>⟨⟨_,Heap.get?_push_size _ rfl,rfl⟩,h h' tk acc hk hacc⟩⟩
theorem Ms {a:Int}{n:Nat}{acc:Array Value}(h:ItemsOf (fun i v=>∃ t,v=.int (a+i * 1) t) acc n):Vals ((List.range n).map fun (i:Nat)=>V.int (a+(i:Int))) acc.toList:=by
 have key:∀ (m:Nat) (l:List Value) (j:Nat),l.length=m->(∀ (i:Nat) (v:Value),l[i]?=some v->∃ t,v=Value.int (a+((j+i:Nat):Int)) t)->Vals ((List.range' j m).map fun (i:Nat)=>V.int (a+(i:Int))) l:=by
  intro m
  induction m with
  | zero=>intro l j hl _;rw [List.length_eq_zero_iff.mp hl];exact .nil
  | succ m ih =>
   intro l j hl hv
   match l,hl with
   | x::r,hl =>
    rw [List.range'_succ,List.map_cons];refine .cons ?_ (ih r (j+1) (by simpa using hl) fun i v e=>?_)
    ·obtain ⟨t,e⟩:=hv 0 x rfl;exact ⟨t,e⟩
    ·obtain ⟨t,q⟩:=hv (i+1) v (by simpa using e);have e2:j+(i+1)=j+1+i:=by omega
     rw [e2] at q;exact ⟨t,q⟩
 rw [List.range_eq_range'];refine key n acc.toList 0 (by rw [Array.length_toList];exact h.1) fun i v e=>?_
 obtain ⟨t,q⟩:=h.2 i v (by simpa using e);rw [Int.mul_one] at q;rw [Nat.zero_add];exact ⟨t,q⟩
theorem Pj:Az X (.type "range") (fun xs H Q=>∃ j:Int,xs=[.int j]/\-(2 ^ 62)<=j/\j < 2 ^ 62/\∀ p,H p=none->Q (.ref p) (upd H p (.rng 0 j))):=by
 rintro pins s σ H xs us Q I r ⟨j,e,h1,h2,q⟩;subst e;obtain ⟨u,rfl,ru⟩:=vals1 r;obtain ⟨t,rfl⟩:=ru;exact call_range_1 ⟨.ref s.heap.objs.size,_,I.laid (o:=.rng 0 j) (fun b o e=>Heap.get?_push_of_some _ e) (Nat.le_refl _) ⟨_,_,_,Heap.get?_push_size _ rfl⟩,rfl,q _ (I.hok.fresh (Nat.le_refl _))⟩
theorem Pk {j:Int}(h1:-(2 ^ 62)<=j) (h2:j < 2 ^ 62):Builtin.Range.small 0 j 1=true/\Builtin.Range.rangeSize 0 j 1=(j.toNat:Int):=by
 refine ⟨small_one (by omega) (by omega) h1 h2,?_⟩;rw [rangeSize_one];split <;> omega
theorem Q6 (hc:X.calm=true):Az X (.type "list") (fun xs H Q=>∃ a j,xs=[.ref a]/\H a=some (.rng 0 j)/\-(2 ^ 62)<=j/\j<=1000000/\∀ p,H p=none->Q (.ref p) (upd H p (.lst ((List.range j.toNat).map fun (i:Nat)=>V.int (0+(i:Int)))))):=by
 rintro pins s σ H xs us Q I r ⟨a,j,e,hH,h1,h2,q⟩;subst e;obtain ⟨u,rfl,ru⟩:=vals1 r;cases ru;obtain ⟨t,u,v,hr⟩:=I.hok a _ hH;obtain ⟨f1,f2⟩:=Pk h1 (show j < 2 ^ 62 by omega);refine call_list_range (I.ok.hd hc) hr f1 f2 (by omega) fun h' tk acc c hk hS hacc=>?_
 exact ⟨.ref s.heap.objs.size,_,I.laid (t':=tk) (o:=.lst ((List.range j.toNat).map fun (i:Nat)=>V.int (0+(i:Int)))) hk (Nat.le_refl _) ⟨by simp [sizeLine_eq];omega,acc.toList,c,Ms hacc,by simpa using hS⟩,rfl,q _ (I.hok.fresh (Nat.le_refl _))⟩
theorem Ol (hc:X.calm=true):Az X (.type "tuple") (fun xs H Q=>∃ a j,xs=[.ref a]/\H a=some (.rng 0 j)/\-(2 ^ 62)<=j/\j<=1000000/\∀ p,H p=none->Q (.ref p) (upd H p (.tup ((List.range j.toNat).map fun (i:Nat)=>V.int (0+(i:Int)))))):=by
 rintro pins s σ H xs us Q I r ⟨a,j,e,hH,h1,h2,q⟩;subst e;obtain ⟨u,rfl,ru⟩:=vals1 r;cases ru;obtain ⟨t,u,v,hr⟩:=I.hok a _ hH;obtain ⟨f1,f2⟩:=Pk h1 (show j < 2 ^ 62 by omega);refine Oj (I.ok.hd hc) hr f1 f2 (by omega) fun h' tk acc hk hacc=>?_
 have I1:Inv X pins σ H { s with heap:=h',toks:=tk }:=I.kept (t':=tk) hk;exact ⟨.ref h'.objs.size,_,I1.laid (t':=tk) (o:=.tup ((List.range j.toNat).map fun (i:Nat)=>V.int (0+(i:Int)))) (fun b o e=>Heap.get?_push_of_some _ e) (Nat.le_refl _) ⟨by simp [sizeLine_eq];omega,acc.toList,Ms hacc,by simpa using Le.new h' acc⟩,rfl,q _ (I1.hok.fresh (Nat.le_refl _))⟩
noncomputable def Ds (x:D) (mh:MH):Option (D×MH):=match x with
 | .int j=>if -(2 ^ 62)<=j/\j<=1000000 then some (.ref mh.length,mh++[.lst (Be 0 j.toNat)]) else none
 | _=>none
noncomputable def K8 (x:D) (mh:MH):Option (D×MH):=match x with
 | .int j=>if -(2 ^ 62)<=j/\j<=1000000 then some (.tup (Be 0 j.toNat),mh) else none
 | _=>none
theorem Pn {K:PySem.W.Frag}{H:Hp}{ρ:List Addr}(n:Nat):RDs K H ρ (Be 0 n) ((List.range n).map fun (i:Nat)=>V.int (0+(i:Int))):=by
 unfold Be;generalize List.range n=l
 induction l with
 | nil=>exact .nil
 | cons i r ih=>exact .cons (.int _) ih
variable {a:Expr}{ma:DM D}{p p2 pos pos2:Pos}
theorem Vx (hc:X.calm=true) (hg:Gl X "list") (hm:X.mg "list"=none) (hg2:Gl X "range") (hm2:X.mg "range"=none) (ha:DE X a ma) (hs:starEach [a] X.env=(false,eval a X.env)::starEach [] X.env) :
  DE X (.Call (.Name "list" p) [.Call (.Name "range" p2) [a] [] pos2] [] pos) (ma.bnd fun x=>Zl (Ds x)):=fun loc mh =>
 Ar (Di (Q6 hc) hg hm (by decide +kernel) (Cp (Di Pj hg2 hm2 boot_range (Cp (ha loc mh) Ef hs) (by decide) (by decide) hs) Ef)) fun σ H Q ⟨ρ,d,mh',q,rl,rs,co⟩=>by
  obtain ⟨x,m1,ea,q⟩:=Ac q;refine ⟨ρ,x,m1,ea,rl,rs,fun H1 ρ1 v e1 rs1 r1=>?_⟩;have q:Ds x m1=some (d,mh'):=q;cases r1 with
  | int j =>
   simp only [Ds] at q;split at q
   ·rename_i hl;cases q;exact ⟨j,rfl,hl.1,by omega,fun b hb=>⟨b,j,rfl,Ay,hl.1,hl.2,Co.newL (rs1.new hb) (Pn _) (co.ev (e1.trans (Ev.new hb)))⟩⟩
   ·cases q
  | _=>cases q
theorem Zw (hc:X.calm=true) (hg:Gl X "tuple") (hm:X.mg "tuple"=none) (hg2:Gl X "range") (hm2:X.mg "range"=none) (ha:DE X a ma) (hs:starEach [a] X.env=(false,eval a X.env)::starEach [] X.env) :
  DE X (.Call (.Name "tuple" p) [.Call (.Name "range" p2) [a] [] pos2] [] pos) (ma.bnd fun x=>Zl (K8 x)):=fun loc mh =>
 Ar (Di (Ol hc) hg hm (by decide +kernel) (Cp (Di Pj hg2 hm2 boot_range (Cp (ha loc mh) Ef hs) (by decide) (by decide) hs) Ef)) fun σ H Q ⟨ρ,d,mh',q,rl,rs,co⟩=>by
  obtain ⟨x,m1,ea,q⟩:=Ac q;refine ⟨ρ,x,m1,ea,rl,rs,fun H1 ρ1 v e1 rs1 r1=>?_⟩;have q:K8 x m1=some (d,mh'):=q;cases r1 with
  | int j =>
   simp only [K8] at q;split at q
   ·rename_i hl;cases q;exact ⟨j,rfl,hl.1,by omega,fun b hb=>⟨b,j,rfl,Ay,hl.1,hl.2,Co.newT (rs1.new hb) (Pn _) (co.ev (e1.trans (Ev.new hb)))⟩⟩
   ·cases q
  | _=>cases q
end
end DL
namespace DL
open PySem PySem.Spec PyProof.Rows L2 PySem.W
noncomputable def Ga:List Int->List Int->Bool
 | [],[]=>false
 | [],_::_=>true
 | _::_,[]=>false
 | x::xs,y::ys=>if (x==y)=true then Ga xs ys else decide (x < y)
section
variable {prog:Program}{w:World}{A:Around}{E:Value->Shared->Prop}{κ:SortKind}{it:Array Keyed}{s:Shared}
end
section
variable {prog:Program}{w:World}{A:Around}{E:Value->Shared->Prop}{s:Shared}
theorem Te {fin:Bool}{Q:Bool->Shared->Prop}:∀ {xs ys:List Value}{ns ms:List Int},IntsAre xs ns->IntsAre ys ms->∀ i,fin=decide (xs.length < ys.length)->Q (Ga ns ms) s->KatLex prog w A true fin Q (xs.zip ys) i s
 | _,_,_,_,.nil,.nil,i,e,h=>by subst e;exact h
 | _,_,_,_,.nil,.cons m u r,i,e,h=>by subst e;exact kat_nil (by simpa [Ga] using h)
 | _,_,_,_,.cons n t r,.nil,i,e,h=>by subst e;exact kat_nil (by simpa [Ga] using h)
 | _,_,_,_,.cons (vs:=vs) n t r,.cons (vs:=us) m u q,i,e,h=>by
  have h:Q (if (n==m)=true then Ga _ _ else decide (n < m)) s:=h;refine kat_cons (wpAny_eqBool_int (kat_go (fun e1=>kat_yes ?_) fun e1=>kat_no ?_))
  ·rw [if_pos e1] at h;exact Te r q (i+1) (by rw [e];simp) h
  ·rw [if_neg (by rw [e1];simp)] at h;cases hb:(true&&i==0) with
   | true=>exact oneLt_int h
   | false=>exact kat_one _ _ (lt_int h)
end
section
variable {X:Cx}
end
noncomputable abbrev TX:=Str×List Int
noncomputable def Dg (a b:TX):Bool:=if a.1=b.1 then Ga a.2 b.2 else decide (a.1.cps.toList < b.1.cps.toList)
theorem Tf:∀ {a b:List Int},a≠b->Ga b a=!Ga a b
 | [],[],h=>absurd rfl h
 | [],_::_,_=>rfl
 | _::_,[],_=>rfl
 | x::xs,y::ys,h=>by
  show (if (y==x)=true then Ga ys xs else decide (y < x))=!(if (x==y)=true then Ga xs ys else decide (x < y))
  by_cases e:x=y
  ·subst e;rw [if_pos (by simp),if_pos (by simp)];exact Tf fun q=>h (by rw [q])
  ·rw [if_neg (by simpa using fun q=>e q.symm),if_neg (by simpa using e)]
   by_cases l:x < y
   ·rw [decide_eq_true l,decide_eq_false (by omega)];rfl
   ·rw [decide_eq_false l,decide_eq_true (by omega)];rfl
theorem Mt:∀ {a b c:List Int},Ga a b=true->Ga b c=true->Ga a c=true
 | [],[],_,h,_=>by cases h
 | [],_::_,[],_,h=>by cases h
 | [],_::_,_::_,_,_=>rfl
 | _::_,[],_,h,_=>by cases h
 | _::_,_::_,[],_,h=>by cases h
 | x::xs,y::ys,z::zs,h1,h2=>by
  have g1:(if (x==y)=true then Ga xs ys else decide (x < y))=true:=h1;have g2:(if (y==z)=true then Ga ys zs else decide (y < z))=true:=h2;show (if (x==z)=true then Ga xs zs else decide (x < z))=true
  by_cases e1:x=y
  ·subst e1;rw [if_pos (by simp)] at g1
   by_cases e2:x=z
   ·subst e2;rw [if_pos (by simp)] at g2;rw [if_pos (by simp)];exact Mt g1 g2
   ·rw [if_neg (by simpa using e2)] at g2;rw [if_neg (by simpa using e2)];exact g2
  ·rw [if_neg (by simpa using e1)] at g1;have l1:=of_decide_eq_true g1
   by_cases e2:y=z
   ·subst e2;rw [if_neg (by simpa using e1)];exact g1
   ·rw [if_neg (by simpa using e2)] at g2;have l2:=of_decide_eq_true g2;rw [if_neg (by simp;omega)];exact decide_eq_true (by omega)
theorem oK {a b:Str}(h:a.cps.toList=b.cps.toList):a=b:=by
 cases a;cases b;congr;exact Array.toList_inj.mp h
theorem Ek {a b:TX}(h:a≠b):Dg b a=!Dg a b:=by
 unfold Dg
 by_cases e:a.1=b.1
 ·rw [if_pos e,if_pos e.symm];exact Tf fun q=>h (Prod.ext e q)
 ·rw [if_neg e,if_neg fun q=>e q.symm]
  by_cases l:a.1.cps.toList < b.1.cps.toList
  ·rw [decide_eq_true l,decide_eq_false (List.lt_asymm l)];rfl
  ·rw [decide_eq_false l,decide_eq_true]
   ·rfl
   ·refine Classical.byContradiction fun q=>e (oK ?_)
    exact List.le_antisymm (by simpa using q) (by simpa using l)
theorem Mu {a b c:TX}(h1:Dg a b=true) (h2:Dg b c=true):Dg a c=true:=by
 unfold Dg at *;split at h1
 ·rename_i e1;rw [e1];split at h2
  ·rename_i e2;rw [if_pos e2];exact Mt h1 h2
  ·rename_i e2;rw [if_neg e2];exact h2
 ·rename_i e1;have l1:=of_decide_eq_true h1;split at h2
  ·rename_i e2;rw [← e2,if_neg e1];exact h1
  ·have l2:=of_decide_eq_true h2;have l3:=List.lt_trans l1 l2;rw [if_neg (fun q=>List.lt_irrefl _ (show c.1.cps.toList < c.1.cps.toList by rw [q] at l3;exact l3))];exact decide_eq_true l3
noncomputable def Ba {α:Type}(n:Nat) (lt:Nat->Nat->Bool):KasT α->Option α
 | .ret a=>some a
 | .ask i j k=>if i < n/\j < n/\i≠j then Ba n lt (k (lt i j)) else none
theorem Tg {α:Type}{n:Nat}{lt:Nat->Nat->Bool}{cmp:Nat->Nat->(Bool->Shared->Prop)->Shared->Prop}{Q:α->Shared->Prop}{s:Shared}{a:α}
  (h:∀ i j C,i < n->j < n->i≠j->C (lt i j) s->cmp i j C s) (q:Q a s):∀ t:KasT α,Ba n lt t=some a->t.kasWp cmp Q s
 | .ret b,e=>by cases e;exact q
 | .ask i j k,e=>by
  have e:(if i < n/\j < n/\i≠j then Ba n lt (k (lt i j)) else none)=some a:=e;split at e
  ·rename_i c;exact h i j _ c.1 c.2.1 c.2.2 (Tg h q _ e)
  ·cases e
theorem Vy {α:Type} [DecidableEq α]:∀ {l l':List α},l.Nodup->(∀ x∈l,x∈l')->l'.length<=l.length->l.Perm l'
 | [],l',_,_,h=>by
  have:l'=[]:=List.length_eq_zero_iff.mp (Nat.le_zero.mp h);rw [this]
 | a::r,l',nd,sub,h=>by
  obtain ⟨na,nr⟩:=List.nodup_cons.mp nd;have ha:=sub a (.head _);refine .trans (.cons a ?_) (List.perm_cons_erase ha).symm;refine Vy nr (fun x hx=>(List.mem_erase_of_ne (fun e=>na (by rw [← e];exact hx))).mpr (sub x (.tail _ hx))) ?_;have:=List.length_erase_of_mem ha;simp at h;omega
noncomputable def Bs (ks:List TX):List TX:=ks.mergeSort fun a b=>!Dg b a
theorem Cd (ks:List TX):(Bs ks).Perm ks:=List.mergeSort_perm _ _
theorem Jd (a:TX):Dg a a=false:=by
 unfold Dg;rw [if_pos rfl];have:∀ l:List Int,Ga l l=false:=fun l=>by
  induction l with
  | nil=>rfl
  | cons x r ih=>show (if (x==x)=true then Ga r r else decide (x < x))=false;rw [if_pos (by simp),ih]
 exact this _
theorem Mv {ks:List TX}(nd:ks.Nodup):(Bs ks).Pairwise fun a b=>Dg a b=true:=by
 have nd2:(Bs ks).Nodup:=(Cd ks).nodup_iff.mpr nd;have h:=List.pairwise_mergeSort (le:=fun a b:TX=>!Dg b a) (fun a b c h1 h2=>?_) (fun a b=>?_) ks
 ·refine List.Pairwise.imp_of_mem (R:=fun a b=>a≠b/\(!Dg b a)=true) ?_ (List.pairwise_and_iff.mpr ⟨nd2,h⟩);intro a b _ _ q;rw [← Bool.not_not (Dg a b),← Ek q.1];exact q.2
 ·by_cases e1:a=b
  ·subst e1;exact h2
  by_cases e2:b=c
  ·subst e2;exact h1
  by_cases e3:a=c
  ·subst e3;simp [Jd]
  have q1:Dg a b=true:=by rw [← Bool.not_not (Dg a b),← Ek e1];exact h1
  have q2:Dg b c=true:=by rw [← Bool.not_not (Dg b c),← Ek e2];exact h2
  show (!Dg c a)=true;rw [Ek e3,Bool.not_not];exact Mu q1 q2
 ·by_cases e:a=b
  ·subst e;simp [Jd]
  ·rw [Ek e,Bool.not_not];cases Dg a b <;> rfl
theorem Gy {ks l:List TX}(nd:ks.Nodup) (p:l.Perm ks) (h:l.Pairwise fun a b=>Dg a b=true):l=Bs ks :=
 (p.trans (Cd ks).symm).eq_of_pairwise (le:=fun a b=>Dg a b=true) (fun a b _ _ x y=>by
  by_cases e:a=b
  ·exact e
  ·rw [Ek e,x] at y;cases y) h (Mv nd)
theorem Dk {α β:Type}{n:Nat}{lt:Nat->Nat->Bool}{f:α->KasT β}{a:α}:∀ t:KasT α,Ba n lt t=some a->Ba n lt (t.bind f)=Ba n lt (f a)
 | .ret b,e=>by cases e;rfl
 | .ask i j k,e=>by
  have e:(if i < n/\j < n/\i≠j then Ba n lt (k (lt i j)) else none)=some a:=e;show (if i < n/\j < n/\i≠j then Ba n lt ((k (lt i j)).bind f) else none)=_;split at e
  ·rename_i c;rw [if_pos c];exact Dk _ e
  ·cases e
theorem Fe {α:Type}{n i j:Nat}{lt:Nat->Nat->Bool}{k:Bool->KasT α}(hi:i < n) (hj:j < n) (ne:i≠j):Ba n lt (.ask i j k)=Ba n lt (k (lt i j)):=by
 show (if i < n/\j < n/\i≠j then Ba n lt (k (lt i j)) else none)=_;rw [if_pos ⟨hi,hj,ne⟩]
section
variable {n:Nat}{lt:Nat->Nat->Bool}
structure Tot (n:Nat) (lt:Nat->Nat->Bool):Prop where
 tri:∀ i j,i < n->j < n->i≠j->lt j i=!lt i j
 tr:∀ i j k,i < n->j < n->k < n->lt i j=true->lt j k=true->lt i k=true
structure Gd (n:Nat) (p:Array Nat):Prop where
 sz:p.size=n
 pm:p.toList.Perm (List.range n)
theorem Gd.bel {p:Array Nat}(g:Gd n p) {i:Nat}(hi:i < n):p.getD i 0 < n:=by
 have h:i < p.toList.length:=by rw [Array.length_toList,g.sz];exact hi
 have:p.getD i 0=p.toList[i]:=by simp [Array.getD,g.sz,hi]
 rw [this];exact List.mem_range.mp (g.pm.mem_iff.mp (List.getElem_mem h))
theorem Gd.ne {p:Array Nat}(g:Gd n p) {i j:Nat}(hi:i < n) (hj:j < n) (ne:i≠j):p.getD i 0≠p.getD j 0:=by
 have h1:i < p.toList.length:=by rw [Array.length_toList,g.sz];exact hi
 have h2:j < p.toList.length:=by rw [Array.length_toList,g.sz];exact hj
 have e1:p.getD i 0=p.toList[i]:=by simp [Array.getD,g.sz,hi]
 have e2:p.getD j 0=p.toList[j]:=by simp [Array.getD,g.sz,hj]
 rw [e1,e2];intro e;have nd:p.toList.Nodup:=g.pm.nodup_iff.mpr List.nodup_range;exact ne ((List.getElem_inj nd).mp e)
noncomputable def Up (lt:Nat->Nat->Bool) (p:Array Nat) (m:Nat):Prop:=∀ i j,i < j->j < m->lt (p.getD i 0) (p.getD j 0)=true
noncomputable def Dn (lt:Nat->Nat->Bool) (p:Array Nat) (m:Nat):Prop:=∀ i j,i < j->j < m->lt (p.getD j 0) (p.getD i 0)=true
theorem Vz (T:Tot n lt) {p:Array Nat}(g:Gd n p):∀ (f k:Nat),1<=k->k+f<=n->Up lt p k->∃ m,Ba n lt (kas_asc p f k)=some m/\k<=m/\m<=k+f/\Up lt p m/\(m < k+f->lt (p.getD m 0) (p.getD (m - 1) 0)=true)
 | 0,k,h1,h2,u=>⟨k,rfl,Nat.le_refl _,Nat.le_refl _,u,fun h=>absurd h (Nat.lt_irrefl _)⟩
 | f+1,k,h1,h2,u=>by
  have ne:=g.ne (show k < n by omega) (show k - 1 < n by omega) (by omega);have e:Ba n lt (kas_asc p (f+1) k)=Ba n lt (if lt (p.getD k 0) (p.getD (k - 1) 0)=true then .ret k else kas_asc p f (k+1)):=Fe (g.bel (by omega)) (g.bel (by omega)) ne;rw [e];cases c:lt (p.getD k 0) (p.getD (k - 1) 0) with
  | true=>exact ⟨k,by rw [if_pos rfl];rfl,Nat.le_refl _,by omega,u,fun _=>c⟩
  | false =>
   rw [if_neg (by simp)];have c2:lt (p.getD (k - 1) 0) (p.getD k 0)=true:=by rw [T.tri _ _ (g.bel (by omega)) (g.bel (by omega)) ne,c];rfl
   have u2:Up lt p (k+1):=fun i j hij hj=>by
    by_cases hjk:j < k
    ·exact u i j hij hjk
    ·have:j=k:=by omega
     subst this
     by_cases hi:i=j - 1
     ·rw [hi];exact c2
     ·exact T.tr _ _ _ (g.bel (by omega)) (g.bel (by omega)) (g.bel (by omega)) (u i (j - 1) (by omega) (by omega)) c2
   obtain ⟨m,a1,a2,a3,a4,a5⟩:=Vz T g f (k+1) (by omega) (by omega) u2;exact ⟨m,a1,by omega,by omega,a4,fun h=>a5 (by omega)⟩
theorem Xk (T:Tot n lt) {p:Array Nat}(g:Gd n p):∀ (f k:Nat),1<=k->k+f<=n->Dn lt p k->∃ m,Ba n lt (kas_desc f p k 0)=some (p,m,0)/\k<=m/\m<=k+f/\Dn lt p m
 | 0,k,h1,h2,u=>⟨k,rfl,Nat.le_refl _,Nat.le_refl _,u⟩
 | f+1,k,h1,h2,u=>by
  have ne:=g.ne (show k < n by omega) (show k - 1 < n by omega) (by omega)
  have e:Ba n lt (kas_desc (f+1) p k 0)=Ba n lt (if lt (p.getD k 0) (p.getD (k - 1) 0)=true then (if 0 > 0 then kas_desc f (kas_rev p (k - (0+1)) k) (k+1) 0 else kas_desc f p (k+1) 0)
   else .ask (p.getD (k - 1) 0) (p.getD k 0) fun d=>if d=true then .ret (p,k,0) else kas_desc f p (k+1) (0+1)):=Fe (g.bel (by omega)) (g.bel (by omega)) ne
  rw [e];cases c:lt (p.getD k 0) (p.getD (k - 1) 0) with
  | true =>
   rw [if_pos rfl,if_neg (Nat.lt_irrefl _)];have u2:Dn lt p (k+1):=fun i j hij hj=>by
    by_cases hjk:j < k
    ·exact u i j hij hjk
    ·have:j=k:=by omega
     subst this
     by_cases hi:i=j - 1
     ·rw [hi];exact c
     ·exact T.tr _ _ _ (g.bel (by omega)) (g.bel (by omega)) (g.bel (by omega)) c (u i (j - 1) (by omega) (by omega))
   obtain ⟨m,a1,a2,a3,a4⟩:=Xk T g f (k+1) (by omega) (by omega) u2;exact ⟨m,a1,by omega,by omega,a4⟩
  | false =>
   rw [if_neg (by simp),Fe (g.bel (by omega)) (g.bel (by omega)) ne.symm];have c2:lt (p.getD (k - 1) 0) (p.getD k 0)=true:=by rw [T.tri _ _ (g.bel (by omega)) (g.bel (by omega)) ne,c];rfl
   rw [c2,if_pos rfl];exact ⟨k,rfl,Nat.le_refl _,by omega,u⟩
theorem K9 {p q:Array Nat}{i j:Nat}(h:p[i]?=q[j]?):p.getD i 0=q.getD j 0:=by
 rw [Array.getD_eq_getD_getElem?,Array.getD_eq_getD_getElem?,h]
theorem eE {p:Array Nat}(g:Gd n p) (i j:Nat):Gd n (kas_rev p i j):=⟨by rw [kas_rev_size];exact g.sz,(Array.perm_iff_toList_perm.mp (mirror_perm p i j _)).trans g.pm⟩
theorem vL {p:Array Nat}(g:Gd n p) {m:Nat}(hm:m<=n) (d:Dn lt p m):Up lt (kas_rev p 0 m) m:=fun i j hij hj=>by
 have at':∀ k,k < m->(kas_rev p 0 m).getD k 0=p.getD (m - 1 - k) 0:=fun k hk=>by
  refine K9 ?_;have:=getElem?_mirror_all (xs:=p) (i:=0) (j:=m) (by rw [g.sz];exact hm) k;rw [if_pos ⟨Nat.zero_le _,hk⟩,Nat.zero_add] at this;exact this
 rw [at' i (by omega),at' j hj];exact d _ _ (by omega) (by omega)
theorem eF (T:Tot n lt) (h1:1<=n) {p:Array Nat}(g:Gd n p):∃ m p',Ba n lt (kas_count n p)=some (m,p')/\Gd n p'/\1<=m/\m<=n/\Up lt p' m:=by
 obtain ⟨m,a1,a2,a3,a4,a5⟩:=Vz T g (n - 1) 1 (Nat.le_refl _) (by omega) (fun i j h1 h2=>by omega);have e:Ba n lt (kas_count n p)=Ba n lt (if (m==n)=true then .ret (m,p) else if m > 1 then .ask (p.getD 0 0) (p.getD (m - 1) 0) fun c=>if c=true then .ret (m,p) else kas_descPart m n (kas_rev p 0 m) else kas_descPart m n p):=Dk _ a1;rw [e]
 by_cases hm:m=n
 ·rw [if_pos (by simpa using hm)];exact ⟨m,p,rfl,g,a2,by omega,a4⟩
 ·rw [if_neg (by simpa using hm)]
  by_cases h:m > 1
  ·rw [if_pos h,Fe (g.bel (by omega)) (g.bel (by omega)) (g.ne (by omega) (by omega) (by omega)),a4 0 (m - 1) (by omega) (by omega),if_pos rfl];exact ⟨m,p,rfl,g,a2,by omega,a4⟩
  ·have:m=1:=by omega
   subst this;rw [if_neg h];have c:=a5 (by omega)
   obtain ⟨d,b1,b2,b3,b4⟩:=Xk T g (n - 2) 2 (by decide) (by omega) (fun i j h1 h2=>by
    have e1:i=0:=by omega
    have e2:j=1:=by omega
    subst e1 e2
    exact c)
   have e2:Ba n lt (kas_descPart 1 n p)=Ba n lt (if (0:Nat) > 0 then kas_tail3 d n (kas_rev p (d - (0+1)) d) else kas_tail3 d n p):=Dk _ b1;rw [e2,if_neg (Nat.lt_irrefl _)];obtain ⟨q,c1,c2,c3,c4,_⟩:=Vz T (eE g 0 d) (n - d) d (by omega) (by omega) (vL g (by omega) b4);have e3:Ba n lt (kas_tail3 d n p)=Ba n lt (.ret (q,kas_rev p 0 d)):=Dk _ c1;exact ⟨q,kas_rev p 0 d,e3,eE g 0 d,by omega,by omega,c4⟩
theorem Mw (T:Tot n lt) {p:Array Nat}(g:Gd n p) {k:Nat}(hk:k < n) (u:Up lt p k):∀ (f l r:Nat),l<=r->r<=k->r - l<=f->(∀ i,i < l->lt (p.getD i 0) (p.getD k 0)=true)->(∀ i,r<=i->i < k->lt (p.getD k 0) (p.getD i 0)=true) ->
  ∃ l',Ba n lt (kas_place p k f l r)=some l'/\l'<=k/\(∀ i,i < l'->lt (p.getD i 0) (p.getD k 0)=true)/\∀ i,l'<=i->i < k->lt (p.getD k 0) (p.getD i 0)=true
 | 0,l,r,h1,h2,h3,a,b=>⟨l,rfl,by omega,a,fun i hi hk=>b i (by omega) hk⟩
 | f+1,l,r,h1,h2,h3,a,b=>by
  by_cases hlr:l ≥ r
  ·refine ⟨l,?_,by omega,a,fun i hi hk=>b i (by omega) hk⟩;show Ba n lt (if l ≥ r then .ret l else _)=_;rw [if_pos hlr];rfl
  ·have ne:=g.ne (show k < n from hk) (show (l+r) / 2 < n by omega) (by omega);have e:Ba n lt (kas_place p k (f+1) l r)=Ba n lt (if lt (p.getD k 0) (p.getD ((l+r) / 2) 0)=true then kas_place p k f l ((l+r) / 2) else kas_place p k f ((l+r) / 2+1) r):=by
    show Ba n lt (if l ≥ r then .ret l else .ask (p.getD k 0) (p.getD ((l+r) / 2) 0) fun c=>if c=true then kas_place p k f l ((l+r) / 2) else kas_place p k f ((l+r) / 2+1) r)=_;rw [if_neg hlr];exact Fe (g.bel hk) (g.bel (by omega)) ne
   rw [e];cases c:lt (p.getD k 0) (p.getD ((l+r) / 2) 0) with
   | true =>
    rw [if_pos rfl];refine Mw T g hk u f l ((l+r) / 2) (by omega) (by omega) (by omega) a fun i hi hik=>?_
    by_cases e:i=(l+r) / 2
    ·rw [e];exact c
    ·exact T.tr _ _ _ (g.bel hk) (g.bel (by omega)) (g.bel (by omega)) c (u _ _ (by omega) hik)
   | false =>
    rw [if_neg (by simp)];have c2:lt (p.getD ((l+r) / 2) 0) (p.getD k 0)=true:=by rw [T.tri _ _ (g.bel hk) (g.bel (by omega)) ne,c];rfl
    refine Mw T g hk u f ((l+r) / 2+1) r (by omega) h2 (by omega) (fun i hi=>?_) b
    by_cases e:i=(l+r) / 2
    ·rw [e];exact c2
    ·exact T.tr _ _ _ (g.bel (by omega)) (g.bel (by omega)) (g.bel hk) (u _ _ (by omega) (by omega)) c2
theorem eG (T:Tot n lt):∀ (f k:Nat) (p:Array Nat),Gd n p->k+f=n->Up lt p k->∃ p',Ba n lt (kas_bin f p k)=some p'/\Gd n p'/\Up lt p' n
 | 0,k,p,g,e,u=>⟨p,rfl,g,by have:k=n:=e;subst this;exact u⟩
 | f+1,k,p,g,e,u=>by
  have hk:k < n:=by omega
  obtain ⟨l,a1,a2,a3,a4⟩:=Mw T g hk u k 0 k (Nat.zero_le _) (Nat.le_refl _) (by omega) (fun i h=>by omega) (fun i h1 h2=>by omega);have e2:Ba n lt (kas_bin (f+1) p k)=Ba n lt (kas_bin f (bubble p k (k - l)) (k+1)):=Dk _ a1;rw [e2];have at':∀ i,(bubble p k (k - l)).getD i 0=if i=l then p.getD k 0 else if l < i/\i<=k then p.getD (i - 1) 0 else p.getD i 0:=fun i=>by
   have:=getElem?_bubble (xs:=p) (src:=k) (by rw [g.sz];exact hk) (k - l) (by omega) i;rw [show k - (k - l)=l by omega] at this;split at this
   ·rename_i h;rw [if_pos h];exact K9 this
   ·rename_i h;rw [if_neg h];split at this
    ·rename_i h2;rw [if_pos h2];exact K9 this
    ·rename_i h2;rw [if_neg h2];exact K9 this
  refine eG T f (k+1) _ ⟨by rw [bubble_size];exact g.sz,(Array.perm_iff_toList_perm.mp (bubble_perm p k _)).trans g.pm⟩ (by omega) fun i j hij hj=>?_
  rw [at' i,at' j];repeat' split
  all_goals first
   | (exfalso;omega)
   | exact a3 _ (by omega)
   | exact a4 _ (by omega) (by omega)
   | exact u _ _ (by omega) (by omega)
theorem eH (h2:2<=n) (T:Tot n lt):∃ p:Array Nat,Ba n lt (kas_sort n)=some p/\p.toList.length=n/\(∀ i∈p.toList,i < n)/\p.toList.Nodup/\p.toList.Pairwise fun i j=>lt i j=true:=by
 have g0:Gd n (List.toArray (List.range n)):=⟨by simp,by simp⟩;obtain ⟨m,q,a1,a2,a3,a4,a5⟩:=eF T (by omega) g0;have e:Ba n lt (kas_sort n)=Ba n lt (if m < n then kas_bin (n - max m 1) q (max m 1) else .ret q):=Dk _ a1;have fin:∃ p,Ba n lt (kas_sort n)=some p/\Gd n p/\Up lt p n:=by
  rw [e]
  by_cases h:m < n
  ·rw [if_pos h,show max m 1=m by omega];exact eG T (n - m) m q a2 (by omega) a5
  ·rw [if_neg h];have:m=n:=by omega
   subst this;exact ⟨q,rfl,a2,a5⟩
 obtain ⟨p,b1,b2,b3⟩:=fin;refine ⟨p,b1,by rw [Array.length_toList];exact b2.sz,fun i hi=>List.mem_range.mp (b2.pm.mem_iff.mp hi),b2.pm.nodup_iff.mpr List.nodup_range,?_⟩;rw [List.pairwise_iff_getElem];intro i j hi hj hij;rw [Array.length_toList,b2.sz] at hi hj;have:=b3 i j hij hj;have e1:p.getD i 0=p.toList[i]:=by simp [Array.getD,b2.sz,hi]
 have e2:p.getD j 0=p.toList[j]:=by simp [Array.getD,b2.sz,hj]
 rw [e1,e2] at this;exact this
end
noncomputable def TXv (h:Heap) (v:Value) (k:TX):Prop:=∃ (a:Addr) (o:Obj) (t:Tok) (its:List Value) (n:Nat),v=.ref a/\h.get? a=some o/\o.cls=.type "tuple"/\o.data=.seq (Value.str k.1 t::its).toArray n/\IntsAre its k.2
theorem TXv.grow {h h':Heap}(kp:∀ b o,o.cls=.type "tuple"->h.get? b=some o->h'.get? b=some o) {v:Value}{k:TX}(q:TXv h v k):TXv h' v k :=
 let ⟨a,o,t,its,n,e1,e2,e3,e4⟩:=q;⟨a,o,t,its,n,e1,kp a o e3 e2,e3,e4⟩
section
variable {prog:Program}{w:World}{A:Around}{E:Value->Shared->Prop}{s:Shared}
theorem Aa2 {v u:Value}{k l:TX}{Q:Bool->Shared->Prop}(h1:TXv s.heap v k) (h2:TXv s.heap u l) (h:Q (Dg k l) s):wpAny (model prog w) A (keyLt' (tuples' true) v u) Q E s:=by
 obtain ⟨a,o,t,its,n,rfl,e1,_,e3,e4⟩:=h1;obtain ⟨a',o',t',its',n',rfl,e1',_,e3',e4'⟩:=h2;have h:Q (if k.1=l.1 then Ga k.2 l.2 else decide (k.1.cps.toList < l.1.cps.toList)) s:=h;refine kat_lt e1 e3 e1' e3' ?_;show KatLex prog w A true _ Q ((Value.str k.1 t,Value.str l.1 t')::its.zip its') 0 s;refine kat_cons (wpAny_eqBool_str (kat_go (fun q=>kat_yes ?_) fun q=>kat_no ?_))
 ·rw [if_pos (of_decide_eq_true q)] at h;exact Te e4 e4' 1 (by simp) h
 ·rw [if_neg (of_decide_eq_false q)] at h;exact oneLt_str h
theorem Mx {h:Heap}:∀ {vs:List Value}{ks:List TX},vs.length=ks.length->(∀ (i:Nat) (v:Value) (k:TX),vs[i]?=some v->ks[i]?=some k->TXv h v k)->∃ fs,KatTups h vs fs/\fs.length=vs.length/\∀ v∈fs,∃ x t,v=Value.str x t
 | [],[],_,_=>⟨[],KatTups.nil,rfl,fun v hv=>by cases hv⟩
 | [],_::_,e,_=>by cases e
 | _::_,[],e,_=>by cases e
 | v::vs,k::ks,e,hv=>by
  obtain ⟨fs,a1,a2,a3⟩:=Mx (vs:=vs) (ks:=ks) (by simpa using e) (fun i v' k' p q=>hv (i+1) v' k' (by simpa using p) (by simpa using q));obtain ⟨a,o,t,its,n,rfl,e2,e3,e4,_⟩:=hv 0 v k rfl rfl
  exact ⟨_::fs,KatTups.cons e2 e3 e4 rfl a1,by simp [a2],fun v hv=>by
   rcases List.mem_cons.mp hv with rfl|hv
   ·exact ⟨_,_,rfl⟩
   ·exact a3 v hv⟩
theorem getD_some {α:Type}{l:List α}{i:Nat}{d x:α}(h:l[i]?=some x):l.getD i d=x:=by rw [List.getD_eq_getElem?_getD,h];rfl
theorem range_getD {α:Type}{d:α}(l:List α):(List.range l.length).map (fun i=>l.getD i d)=l:=by
 refine List.ext_getElem? fun i=>?_
 rw [List.getElem?_map]
 by_cases h:i < l.length
 ·rw [List.getElem?_range h,Option.map_some,List.getD_eq_getElem?_getD,List.getElem?_eq_getElem h];rfl
 ·rw [List.getElem?_eq_none (by simpa using h),List.getElem?_eq_none (by simpa using h)];rfl
theorem Je {a:Addr}{vs:List Value}{ks:List TX}{n:Nat}{P:PySem.Fin->Shared->Prop}(ho:s.heap.get? a=some (seqObj "list" vs.toArray n)) (h3:vs.length < 64) (hl:vs.length=ks.length) (nd:ks.Nodup)
  (hv:∀ (i:Nat) (v:Value) (k:TX),vs[i]?=some v->ks[i]?=some k->TXv s.heap v k)
  (h:∀ out:List Value,out.length=vs.length->(∀ (i:Nat) (v:Value),out[i]?=some v->∃ (j:Nat) (k:TX),vs[j]?=some v/\ks[j]?=some k/\(Bs ks)[i]?=some k)->P (.done (.ret .none)) { s with heap:=sortedHeap s.heap a vs out.toArray }) :
  wpAny (model prog w) A (Builtin.«list.sort» ⟨[.ref a],[]⟩) P E s:=by
 rw [list_sort_plain];have ha:a < s.heap.objs.size:=Heap.lt_size ho;have hz:vs.length<=sizeLine:=by rw [sizeLine_eq];omega
 refine wpAny_bind (listItems_at ho rfl ?_);refine wpAny_bind (listUpdate_at ho rfl ?_ (by rw [List.size_toArray];exact hz) (Nat.zero_le _))
 obtain ⟨e1,ho1⟩:∃ e1,(s.heap.update a (Obj.mapSeq fun _=>#[])).get? a=some (seqObj "list" #[] e1):=⟨_,get?_update_seq ho (fun _=>#[])⟩;refine wpAny_bind (seqEpoch_at ho1 rfl ?_);refine wpAny_bind (wpAny_newTuple ?_ (by show vs.length<=_;exact hz));refine wpAny_bind (wpAny_newList ?_ (Nat.zero_le _));refine wpAny_holding ?_
 have ho6:(((s.heap.update a (Obj.mapSeq fun _=>#[])).push (seqObj "tuple" vs.toArray 0)).push (seqObj "list" #[] 0)).get? a=some (seqObj "list" #[] e1):=by
  rw [Heap.get?_push_ne _ _ _ (by rw [size_push',Heap.size_update];exact Nat.ne_of_lt (Nat.lt_succ_of_lt ha)),Heap.get?_push_ne _ _ _ (by rw [Heap.size_update];exact Nat.ne_of_lt ha)];exact ho1
 have kp:∀ b o,o.cls=.type "tuple"->s.heap.get? b=some o->(((s.heap.update a (Obj.mapSeq fun _=>(#[]:Array Value))).push (seqObj "tuple" vs.toArray 0)).push (seqObj "list" #[] 0)).get? b=some o:=fun b o hc q=>by
  have ne:b≠a:=fun z=>by
   subst z;rw [ho] at q;cases q
   exact absurd hc (show ¬ (Value.type "list"=Value.type "tuple") by decide +kernel)
  refine Heap.get?_push_of_some _ (Heap.get?_push_of_some _ ?_);rw [Heap.get?_update_ne _ _ _ _ ne];exact q
 show wpAny (model prog w) A _ P E { s with heap:=((s.heap.update a (Obj.mapSeq fun _=>#[])).push (seqObj "tuple" vs.toArray 0)).push (seqObj "list" #[] 0) };dsimp only;have hsz:vs.toArray.size=vs.length:=by simp
 by_cases hn2:vs.toArray.size < 2
 ·have e:Bs ks=ks:=by
   refine (Gy nd (.refl _) ?_).symm
   match ks,hl with
   | [],_=>exact .nil
   | [_],_=>exact List.pairwise_singleton _ _
   | _::_::_,hl=>simp at hl hn2;omega
  have hout:(pairsOf vs).map (·.2)=vs.toArray:=by
   apply Array.toList_inj.mp;rw [Array.toList_map,pairsOf_toList];simp only [List.map_snd_zip (Nat.le_refl _)]
  rw [if_pos hn2,if_pos hn2];refine wpAny_bind (wpAny_pure ?_);rw [StateT.run_pure];refine wpAny_bind (wpAny_pure ?_);dsimp only;refine wpAny_bind (seqEpoch_at ho6 rfl ?_);refine wpAny_bind (listUpdate_at ho6 rfl ?_ (Nat.zero_le _) (hsz2:=by rw [Array.size_map];show (pairsOf vs).size<=_;rw [pairsOf_size];omega));simp only [bne_self_eq_false,Bool.false_eq_true,if_false];refine wpAny_pure ?_;show P (.done (.ret .none)) { s with heap:=sortedHeap s.heap a vs ((pairsOf vs).map (·.2)) };rw [hout];refine h vs rfl fun i v hi=>?_
  rw [e];obtain ⟨hh,_⟩:=List.getElem?_eq_some_iff.mp hi;exact ⟨i,ks[i],hi,List.getElem?_eq_getElem (by omega),List.getElem?_eq_getElem (by omega)⟩
 have h2:2<=vs.length:=by rw [List.size_toArray] at hn2;omega
 rw [if_neg hn2,if_neg hn2]
 have hv2:∀ (i:Nat) (v:Value) (k:TX),vs[i]?=some v->ks[i]?=some k->TXv (((s.heap.update a (Obj.mapSeq fun _=>(#[]:Array Value))).push (seqObj "tuple" vs.toArray 0)).push (seqObj "list" #[] 0)) v k:=fun i v k p q=>(hv i v k p q).grow kp
 obtain ⟨fs,kt,lf,hf⟩:=Mx hl hv2
 refine wpAny_bind (kat_kind (T:=.type "str") kt (by omega) (fun v hv=>?_) (by decide +kernel) ?_)
 ·obtain ⟨n,tk,rfl⟩:=hf v hv;exact Looks.now
 rw [show (Value.type "str" != Value.type "tuple")=true by decide +kernel];have at1:∀ i,i < vs.length->∃ v k,vs[i]?=some v/\ks[i]?=some k:=fun i hi=>⟨_,_,List.getElem?_eq_getElem hi,List.getElem?_eq_getElem (by omega)⟩
 obtain ⟨p,e0,p1,p2,p3,p4⟩:=eH (n:=vs.length) (lt:=fun i j=>Dg (ks.getD i default) (ks.getD j default)) h2 ⟨fun i j hi hj ne=>(by
   obtain ⟨_,k1,_,q1⟩:=at1 i hi;obtain ⟨_,k2,_,q2⟩:=at1 j hj;rw [getD_some q1,getD_some q2];refine Ek fun z=>ne ?_
   subst z
   exact (List.getElem?_inj (show i < ks.length by omega) nd).mp (q1.trans q2.symm)) ,fun i j k _ _ _ a b=>Mu a b⟩
 have run:=kat_run (E:=E) (s:={ s with heap:=((s.heap.update a (Obj.mapSeq fun _=>(#[]:Array Value))).push (seqObj "tuple" vs.toArray 0)).push (seqObj "list" #[] 0) }) (κ:=tuples' true) (prog:=prog) (w:=w) (A:=A) (ks:=vs) (vs:=vs)
  (Q:=fun st' s'=>s'={ s with heap:=((s.heap.update a (Obj.mapSeq fun _=>(#[]:Array Value))).push (seqObj "tuple" vs.toArray 0)).push (seqObj "list" #[] 0) }/\arrOf st'=p.map (kas_item (vs.toArray.zip vs.toArray))/\failedOf st'=none)
  (G:=fun p' s'=>p'=p/\s'={ s with heap:=((s.heap.update a (Obj.mapSeq fun _=>(#[]:Array Value))).push (seqObj "tuple" vs.toArray 0)).push (seqObj "list" #[] 0) })
  rfl h2 (by omega) (fun p' st' s' _ a2 a3 a4=>by
   obtain ⟨rfl,rfl⟩:=a4
   exact ⟨rfl,a2,a3⟩) (Tg (n:=vs.length) (lt:=fun i j=>Dg (ks.getD i default) (ks.getD j default)) (fun i j C hi hj ne hC=>by
    obtain ⟨v1,k1,r1,q1⟩:=at1 i hi;obtain ⟨v2,k2,r2,q2⟩:=at1 j hj;unfold kas_ask;rw [getD_some r1,getD_some r2];rw [getD_some q1,getD_some q2] at hC
    exact Aa2 (hv2 i _ _ r1 q1) (hv2 j _ _ r2 q2) hC) ⟨rfl,rfl⟩ _ e0)
 refine wpAny_bind (wpAny_mono run ?_ fun _ _ e=>e);rintro ⟨⟨⟩,st'⟩ s' ⟨rfl,har,hf⟩;dsimp only;rw [kat_snds rfl har];have hso:(List.toArray (p.toList.map fun i=>vs.getD i Value.none)).size=vs.length:=by rw [List.size_toArray,List.length_map,p1]
 refine wpAny_bind (seqEpoch_at ho6 rfl ?_);refine wpAny_bind (listUpdate_at ho6 rfl ?_ (Nat.zero_le _) (hsz2:=by rw [hso];exact Nat.le_succ_of_le hz));rw [hf];simp only [bne_self_eq_false,Bool.false_eq_true,if_false];refine wpAny_pure (h (p.toList.map fun i=>vs.getD i Value.none) (by rw [List.length_map,p1]) fun i v hi=>?_);have pr:p.toList.Perm (List.range ks.length):=Vy p3 (fun x hx=>List.mem_range.mpr (by rw [← hl];exact p2 x hx)) (by rw [List.length_range,p1,hl];exact Nat.le_refl _);have so:p.toList.map (fun i=>ks.getD i default)=Bs ks:=by
  refine Gy nd ?_ ?_
  ·have:=pr.map (fun i=>ks.getD i default);rw [range_getD] at this;exact this
  ·rw [List.pairwise_map];exact p4
 rw [← so];rw [List.getElem?_map] at hi ⊢;cases hj:p.toList[i]? with
 | none=>rw [hj] at hi;cases hi
 | some j =>
  rw [hj] at hi;have lj:=p2 j (List.mem_of_getElem? hj);obtain ⟨v1,k1,r1,q1⟩:=at1 j lj;have hi:some (vs.getD j Value.none)=some v:=hi;rw [getD_some r1] at hi;cases hi;exact ⟨j,k1,r1,q1,by rw [Option.map_some,getD_some q1]⟩
end
noncomputable def txK (k:TX):List Key:=.inr k.1::k.2.map .inl
noncomputable def txD (k:TX):D:=.tup (.str k.1::k.2.map D.int)
theorem oM {a b:TX}(h:txK a=txK b):a=b:=by
 obtain ⟨h1,h2⟩:=List.cons.inj h;refine Prod.ext (Sum.inr.inj h1) ?_;have:∀ {l m:List Int},l.map (Sum.inl (β:=Str))=m.map Sum.inl->l=m:=fun {l m} q=>by
  induction l generalizing m with
  | nil=>cases m with
   | nil=>rfl
   | cons=>cases q
  | cons x r ih=>cases m with
   | nil=>cases q
   | cons y t =>
    obtain ⟨q1,q2⟩:=List.cons.inj q;rw [Sum.inl.inj q1,ih q2]
 exact this h2
noncomputable def Dv:List TX->List TX
 | []=>[]
 | x::r=>if x∈r then Dv r else x::Dv r
theorem Dt {k:TX}:∀ {l:List TX},k∈Dv l ↔ k∈l
 | []=>Iff.rfl
 | x::r=>by
  unfold Dv;split
  ·rename_i h;rw [Dt,List.mem_cons];exact ⟨.inr,fun q=>q.elim (fun e=>e ▸ h) id⟩
  ·rw [List.mem_cons,List.mem_cons,Dt]
theorem Dl:∀ {l:List TX},(Dv l).Nodup
 | []=>.nil
 | x::r=>by
  unfold Dv;split
  ·exact Dl
  ·rename_i h;exact List.nodup_cons.mpr ⟨fun q=>h (Dt.mp q),Dl⟩
theorem Xl {α:Type} [DecidableEq α]:∀ {l l':List α},l.Nodup->(∀ x∈l,x∈l')->l.length<=l'.length
 | [],l',_,_=>Nat.zero_le _
 | a::r,l',nd,sub=>by
  obtain ⟨na,nr⟩:=List.nodup_cons.mp nd;have ha:=sub a (.head _);have:=Xl (l':=l'.erase a) nr fun x hx=>(List.mem_erase_of_ne (fun e=>na (by rw [← e];exact hx))).mpr (sub x (.tail _ hx))
  have h2:=List.length_erase_of_mem ha;have h3:=List.length_pos_of_mem ha;rw [List.length_cons];omega
theorem G6 {α β:Type}{R:α->β->Prop}:∀ {l:List α},(∀ v∈l,∃ k,R v k)->∃ ks:List β,l.length=ks.length/\∀ (i:Nat) (v:α) (k:β),l[i]?=some v->ks[i]?=some k->R v k
 | [],_=>⟨[],rfl,fun i v k h=>by simp at h⟩
 | a::r,h=>by
  obtain ⟨k,hk⟩:=h a (.head _);obtain ⟨ks,h1,h2⟩:=G6 fun v hv=>h v (.tail _ hv)
  refine ⟨k::ks,by simp [h1],fun i v k' e1 e2=>?_⟩;cases i with
  | zero=>cases e1;cases e2;exact hk
  | succ i=>exact h2 i v k' (by simpa using e1) (by simpa using e2)
theorem vM (ks:List TX) (h:(Dv ks).length<=17):(Df (fun i=>txK (ks.getD i default)) ks.length).length<=17:=by
 have:(Df (fun i=>txK (ks.getD i default)) ks.length).length<=((Dv ks).map txK).length:=Xl (Ie _ _) fun k hk=>by
  obtain ⟨j,hj,ej⟩:=(Iw _ _ _).mp hk;refine List.mem_map.mpr ⟨ks.getD j default,Dt.mpr ?_,ej⟩;rw [List.getD_eq_getElem?_getD,List.getElem?_eq_getElem (by omega)];exact List.getElem_mem _
 rw [List.length_map] at this;omega
theorem Ig:∀ {ns:List Int}{us:List Value},Vals ((ns.map (Sum.inl (β:=Str))).map kV) us->IntsAre us ns
 | [],_,.nil=>.nil
 | _::_,_,.cons ⟨t,e⟩ h=>by subst e;exact .cons _ _ (Ig h)
section
variable {X:Cx}
theorem K1 (hc:X.calm=true):Az X (.builtin "sorted") (fun xs H Q=>∃ (a:Addr) (es:Array (Int×Value)) (cs:List Addr) (ks:List TX),xs=[.ref a]/\H a=some (dO X.w a es)/\cs.length=ks.length/\InT X cs (fun i=>txK (ks.getD i default)) es/\(∀ (i:Nat) (c:Addr),cs[i]?=some c->SqT X.K H c ((txK (ks.getD i default)).map kV))/\(Dv ks).length<=17 /\
  ∀ (l:Addr) (outs:List Addr),H l=none->outs.length=(Bs (Dv ks)).length->(∀ (i:Nat) (c:Addr) (k:TX),outs[i]?=some c->(Bs (Dv ks))[i]?=some k->SqT X.K H c ((txK k).map kV))->Q (.ref l) (upd H l (.lst (outs.map V.ref)))):=by
 rintro pins s σ H xs us Q I r ⟨a,es,cs,ks,e,hH,hlen,it,sqs,h3,q⟩;subst e;obtain ⟨u,rfl,rx⟩:=vals1 r;cases rx
 obtain ⟨o,ep,t,e,d1,d2,d3,d4⟩:=(show ∃ o ep t,s.heap.get? a=some o/\o.ExactSet/\o.data=.set es ep t/\Tb7 t es/\Good (!X.w.params.followText "set-order") t from (I.hok a _ hH).1);have dB:SetB X.w o es ep t:=⟨d1,d2,by have:=d3.room;unfold scanBound;rcases d3.mask with z | z <;> omega,d3.fits,d4⟩;have tk0:∀ (i:Nat) (c:Addr),cs[i]?=some c->IsTupleKey (Cm X.prog X.w) s.heap (txK (ks.getD i default)) c:=fun i c z=>by
  obtain ⟨its,r1,⟨o,e1,e2,n,e3⟩,_⟩:=I.tuple (sqs i c z);exact ⟨o,_,n,e1,e2,e3,Jp (by simpa using r1)⟩
 have tx0:∀ (i:Nat) (c:Addr),cs[i]?=some c->TXv s.heap (.ref c) (ks.getD i default):=fun i c z=>by
  obtain ⟨its,r1,⟨o,e1,e2,n,e3⟩,_⟩:=I.tuple (sqs i c z);cases r1 with
  | cons rr rt =>
   obtain ⟨t,et⟩:=rr;subst et;exact ⟨c,o,t,_,n,rfl,e1,e2,e3,Ig rt⟩
 refine Calls.call_function_entry kind_sorted plain_sorted entry_sorted (args_sorted1 _) ?_;unfold Builtin.«sorted»
 refine wpAny_bind (m:=checkCount "sorted" 1 1 _) (wpAny_pure (wpAny_bind (Ke (by simp [I.ok.hd hc]) dB e fun h' dr tk vs pv kp len ht=>?_)))
 obtain ⟨ts,lt,ht2⟩:=G6 (l:=vs) (R:=fun v k=>∃ (j:Nat) (c:Addr),cs[j]?=some c/\v=.ref c/\k=ks.getD j default) (fun v hv=>by
  obtain ⟨x,hx,rfl⟩:=List.mem_map.mp (pv.mem_iff.mp hv);obtain ⟨j,c,z1,z2,_⟩:=it.el x hx
  exact ⟨_,j,c,z1,z2,rfl⟩)
 have lenv:vs.length=(Df (fun i=>txK (ks.getD i default)) cs.length).length:=by rw [pv.length_eq,List.length_map,Array.length_toList,it.sz]
 have sub:∀ k∈Dv ks,k∈ts:=fun k hk=>by
  obtain ⟨j,hj,ej⟩:=List.getElem_of_mem (Dt.mp hk);have ej:ks[j]?=some k:=by rw [List.getElem?_eq_getElem hj,ej]
  have m1:=(it.mem (txK k)).mp ((Iw _ _ _).mpr ⟨j,by omega,by show txK (ks.getD j default)=txK k;rw [getD_some ej]⟩);obtain ⟨x,j',c,hx,e2,cj,ev⟩:=m1;have ev:txK (ks.getD j' default)=txK k:=ev;have hm:Value.ref c∈vs:=pv.mem_iff.mpr (List.mem_map.mpr ⟨x,hx,e2⟩);obtain ⟨i,hi,ei⟩:=List.getElem_of_mem hm;have ei:vs[i]?=some (.ref c):=by rw [List.getElem?_eq_getElem hi,ei]
  have hit:i < ts.length:=by omega
  obtain ⟨j2,c2,z1,z2,z3⟩:=ht2 i _ ts[i] ei (List.getElem?_eq_getElem hit);cases z2;have:=(tk0 j2 c z1).inj (tk0 j' c cj);rw [ev] at this;rw [← oM this,← z3];exact List.getElem_mem hit
 have pts:(Dv ks).Perm ts:=Vy Dl sub (by
  rw [← lt,lenv];have:(Df (fun i=>txK (ks.getD i default)) cs.length).length<=((Dv ks).map txK).length:=Xl (Ie _ _) fun k hk=>by
   obtain ⟨j,hj,ej⟩:=(Iw _ _ _).mp hk;refine List.mem_map.mpr ⟨ks.getD j default,Dt.mpr ?_,ej⟩;rw [List.getD_eq_getElem?_getD,List.getElem?_eq_getElem (by omega)];exact List.getElem_mem _
  rwa [List.length_map] at this)
 have ndt:ts.Nodup:=pts.nodup_iff.mp Dl;have lv:vs.length < 64:=by
  rw [lt,← pts.length_eq];omega
 have esr:Bs ts=Bs (Dv ks):=Gy Dl ((Cd ts).trans pts.symm) (Mv ndt);refine wpAny_bind (wpAny_newList ?_ (by rw [sizeLine_eq];omega));refine wpAny_bind (wpAny_holding (wpAny_call_entry slot_list_sort ⟨_,Heap.get?_push_size _ rfl,rfl⟩ entry_list_sort (Je (vs:=vs) (ks:=ts) (n:=0) (Heap.get?_push_size _ rfl) lv lt ndt (fun i v k a1 a2=>?_) fun out lo ho=>⟨_,rfl,?_⟩) (args_list_sort _)))
 ·obtain ⟨j,c,z1,rfl,rfl⟩:=ht2 i v k a1 a2;exact (tx0 j c z1).grow fun b ob _ q=>Heap.get?_push_of_some _ (kp b ob q)
 obtain ⟨outs,lo2,ho2⟩:=G6 (l:=out) (R:=fun v c=>v=Value.ref c) (fun v hv=>by
  obtain ⟨i,hi,ei⟩:=List.getElem_of_mem hv;obtain ⟨j,k,z1,z2,_⟩:=ho i v (by rw [List.getElem?_eq_getElem hi,ei]);obtain ⟨_,c,_,z3,_⟩:=ht2 j v k z1 z2
  exact ⟨c,z3⟩)
 have eout:out=outs.map Value.ref:=List.ext_getElem? fun i=>by
  rw [List.getElem?_map]
  by_cases hi:i < out.length
  ·rw [List.getElem?_eq_getElem hi,List.getElem?_eq_getElem (show i < outs.length by omega)];exact congrArg some (ho2 i _ _ (List.getElem?_eq_getElem hi) (List.getElem?_eq_getElem (show i < outs.length by omega)))
  ·rw [List.getElem?_eq_none (by omega),List.getElem?_eq_none (by omega)];rfl
 have rvo:∀ l:List Addr,Vals (l.map V.ref) (l.map Value.ref):=fun l=>by
  induction l with
  | nil=>exact .nil
  | cons a r ih=>exact .cons rfl ih
 obtain ⟨c,at'⟩:=sortedHeap_at (h:=h'.push (seqObj "list" vs.toArray 0)) (a:=h'.objs.size) (vs:=vs) (n:=0) (out:=out.toArray) (Heap.get?_push_size _ rfl);have I2:=Pa I dr;refine wpAny_pure ⟨_,rfl,.ref h'.objs.size,_,I2.laid (t':=tk) (a:=h'.objs.size) (o:=.lst (outs.map V.ref)) (fun b ob q=>?_) len ⟨?_,out,c,?_,?_⟩,rfl,q _ _ (I.hok.fresh len) ?_ fun i cc k a1 a2=>?_⟩
 ·have lb:b < h'.objs.size:=Heap.lt_size (kp b ob q);rw [sortedHeap_old (Nat.ne_of_lt lb) (by rw [size_push'];exact Nat.lt_succ_of_lt lb)];exact Heap.get?_push_of_some _ (kp b ob q)
 ·rw [List.length_map,← lo2,lo,sizeLine_eq];omega
 ·rw [eout];exact rvo outs
 ·rw [at']
 ·rw [← lo2,lo,(Cd _).length_eq,pts.length_eq,lt]
 ·have hio:out[i]?=some (.ref cc):=by rw [eout,List.getElem?_map,a1];rfl
  obtain ⟨j,k',z1,z2,z3⟩:=ho i _ hio;rw [esr,a2] at z3;cases z3;obtain ⟨j2,c2,y1,y2,y3⟩:=ht2 j _ k z1 z2;cases y2;rw [y3];exact sqs j2 cc y1
end
noncomputable def Jf:List D->Option (List TX)
 | []=>some []
 | .tup (.str x::r)::t=>match intsOf r with
  | some ns=>match Jf t with
   | some l=>some ((x,ns)::l)
   | none=>none
  | none=>none
 | _=>none
theorem Jw:∀ (ks:List TX),Jf (ks.map txD)=some ks
 | []=>rfl
 | k::r=>by
  show (match intsOf (k.2.map D.int) with | some ns=>(match Jf (r.map txD) with | some l=>some ((k.1,ns)::l) | none=>none) | none=>none)=_;rw [Fy,Jw r]
theorem Ih:∀ {ds:List D}{ks:List TX},Jf ds=some ks->ds=ks.map txD
 | [],ks,h=>by cases h;rfl
 | d::t,ks,h=>by
  cases d with
  | tup l =>
   cases l with
   | nil=>cases h
   | cons y r =>
    cases y with
    | str x =>
     have h:(match intsOf r with | some ns=>(match Jf t with | some l=>some ((x,ns)::l) | none=>none) | none=>none)=some ks:=h;split at h
     ·rename_i ns e;split at h
      ·rename_i l e2;cases h;rw [Ih e2,Cv e];rfl
      ·cases h
     ·cases h
    | _=>cases h
  | _=>cases h
noncomputable def My (ds:List D) (mh:MH):Option (D×MH):=match Jf ds with
 | some ks=>if (Dv ks).length<=17 then some (.ref mh.length,mh++[.lst ((Bs (Dv ks)).map txD)]) else none
 | none=>none
noncomputable def Bw (x:D) (mh:MH):Option (D×MH):=match Gw x mh with
 | some ns=>if ns.length < 4000 then (if (Bo ns).length < 64 then some (.ref mh.length,mh++[.lst ((Iv ns).map D.int)]) else none) else none
 | none=>match x with
  | .ref n=>match mh[n]? with
   | some (.lst o)=>My o mh
   | _=>none
  | _=>none
section
variable {K:PySem.W.Frag}{H:Hp}{ρ:List Addr}
theorem Q7:∀ {ks:List TX}{vs:List V},RDs K H ρ (ks.map txD) vs->∃ cs:List Addr,vs=cs.map V.ref/\cs.length=ks.length/\∀ (i:Nat) (c:Addr),cs[i]?=some c->SqT K H c ((txK (ks.getD i default)).map kV)
 | [],_,.nil=>⟨[],rfl,rfl,fun i c h=>by simp at h⟩
 | k::ks,_,.cons a t=>by
  obtain ⟨cs,e1,e2,e3⟩:=Q7 t;cases a with
  | @tup _ c xs sq rr =>
   cases rr with
   | cons y z =>
    cases y;have:=Gx z;subst this;refine ⟨c::cs,by rw [e1];rfl,by simp [e2],fun i c' h=>?_⟩;cases i with
    | zero =>
     cases h;have e:(txK k).map kV=.str k.1::k.2.map V.int:=by
      show kV (.inr k.1)::(k.2.map (Sum.inl (β:=Str))).map kV=_;rw [List.map_map];rfl
     show SqT K H c ((txK k).map kV);rw [e];exact sq
    | succ i=>exact e3 i c' (by simpa using h)
theorem Q8:∀ {ks:List TX}{cs:List Addr},cs.length=ks.length->(∀ (i:Nat) (c:Addr) (k:TX),cs[i]?=some c->ks[i]?=some k->SqT K H c ((txK k).map kV))->RDs K H ρ (ks.map txD) (cs.map V.ref)
 | [],[],_,_=>.nil
 | [],_::_,e,_=>by cases e
 | _::_,[],e,_=>by cases e
 | k::ks,c::cs,e,h=>by
  refine .cons (.tup (h 0 c k rfl rfl) ?_) (Q8 (by simpa using e) fun i c' k' a b=>h (i+1) c' k' (by simpa using a) (by simpa using b));have e:(txK k).map kV=.str k.1::k.2.map V.int:=by
   show kV (.inr k.1)::(k.2.map (Sum.inl (β:=Str))).map kV=_;rw [List.map_map];rfl
  rw [e];exact .cons (.str _) (RDs.ints _)
end
section
variable {X:Cx}{a:Expr}{ma:DM D}{p p2 pos pos2:Pos}
theorem Ti (hc:X.calm=true) (hu:X.A.units+64 < cLine) (hg:Gl X "sorted") (hm:X.mg "sorted"=none) (hg2:Gl X "set") (hm2:X.mg "set"=none) (ha:DE X a ma) (hs:starEach [a] X.env=(false,eval a X.env)::starEach [] X.env) :
  DE X (.Call (.Name "sorted" p) [.Call (.Name "set" p2) [a] [] pos2] [] pos) (ma.bnd fun x=>Zl (Bw x)):=fun loc mh =>
 Ar (Io ((Mj hc).or (K1 hc)) hg hm boot_sorted (Cp (Di ((Pb hc).or (Vt hc hu)) hg2 hm2 boot_set (Cp (ha loc mh) Ef hs) (by decide) (by decide) hs) Ef)) fun σ H Q ⟨ρ,d,mh',q,rl,rs,co⟩=>by
  obtain ⟨x,m1,ea,q⟩:=Ac q;refine ⟨ρ,x,m1,ea,rl,rs,fun H1 ρ1 v e1 rs1 r1=>?_⟩;have q:Bw x m1=some (d,mh'):=q;unfold Bw at q;split at q
  ·rename_i ns en;split at q
   ·rename_i hl;split at q
    ·rename_i h64;cases q;obtain ⟨pp,rfl,sq⟩:=S5 rs1 r1 en;refine .inl ⟨pp,ns,rfl,sq,by unfold scanBound;omega,fun b hb=>.inl ⟨b,ns,rfl,Ay,h64,?_⟩⟩;exact Co.newL (rs1.new hb) (RDs.ints _) (co.ev (e1.trans (Ev.new hb)))
    ·cases q
   ·cases q
  ·split at q
   ·split at q
    ·rename_i n _ o eo;unfold My at q;split at q
     ·rename_i ks ek;split at q
      ·rename_i h3;cases q;cases r1 with
       | @ref _ pp hp =>
        obtain ⟨a',ha',ro⟩:=rs1.at eo;rw [hp] at ha';cases ha';obtain ⟨xs,sq,rr⟩:=ro.read;rw [Ih ek] at rr;obtain ⟨cs,rfl,lc,sqs⟩:=Q7 rr;refine .inr ⟨pp,cs,fun i=>txK (ks.getD i default),rfl,sq,sqs,by rw [lc];exact vM ks h3,fun b es hb it=>.inr ⟨b,es,cs,ks,rfl,Ay,lc,it,fun i c hi=>Qs hb (sqs i c hi),h3,fun l outs hl lo so=>?_⟩⟩;exact Co.newL (rs1.new hb) (Q8 lo so) (co.ev (e1.trans (Ev.new hb))) l hl
      ·cases q
     ·cases q
    ·cases q
   ·cases q
end
end DL
namespace DL
open PySem PySem.Spec PyProof.Rows L2
structure ZNe (z TI TO i1 i2:Addr):Prop where
 TIz:TI≠z
 TOz:TO≠z
 i1z:i1≠z
 i2z:i2≠z
 TITO:TI≠TO
 TIi1:TI≠i1
 TIi2:TI≠i2
 TOi1:TO≠i1
 TOi2:TO≠i2
 i12:i1≠i2
section
variable {prog:Program}{w:World}{A:Around}{E:Value->Shared->Prop}{s:Shared}
theorem Pq (k1 k2:SeqK) {z TI TO i1 i2 l1 l2:Addr}{i:Nat}{xs ys:Array Value}{x y a b:Value}{Q:Value->Shared->Prop}(D:ZNe z TI TO i1 i2) (l1z:l1≠z) (l1TO:l1≠TO) (l1i1:l1≠i1) (l2z:l2≠z) (l2TO:l2≠TO) (l2i1:l2≠i1)
  (hz:IsZip s.heap z TI TO .none) (hTI:IsPair s.heap TI (.ref i1) (.ref i2)) (hTO:IsPair s.heap TO a b) (h1:k1.isIt s.heap i1 l1 i) (h2:k2.isIt s.heap i2 l2 i) (hl1:k1.isSeq s.heap l1 xs) (hl2:k2.isSeq s.heap l2 ys) (hx:xs[i]?=some x) (hy:ys[i]?=some y)
  (hQ:∀ h',IsZip h' z TI TO (rawInt s.heap.objs.size)->IsPair h' TO x y->k1.isIt h' i1 l1 (i+1)->k2.isIt h' i2 l2 (i+1)->IsPair h' s.heap.objs.size x y->h'.objs.size=s.heap.objs.size+1 ->
   (∀ c o,c≠z->c≠TO->c≠i1->c≠i2->s.heap.get? c=some o->h'.get? c=some o)->Q (.ref s.heap.objs.size) { s with heap:=h' }) :
  wpAny (model prog w) A (Builtin.«zip.__next__» ⟨[.ref z],[]⟩) (fun fin s'=>∃ v,fin=.done (.ret v)/\Q v s') E s:=by
 show wpAny _ _ (field (.ref z) 2 >>= _) _ _ _;refine wpAny_bind (wpAny_field hz rfl (x:=.bool false) rfl ?_);show wpAny _ _ (field (.ref z) 3 >>= _) _ _ _;refine wpAny_bind (wpAny_field hz rfl (x:=.ref TI) rfl ?_);refine wpAny_bind (wpAny_seqItems hTI rfl ?_);show wpAny _ _ (Builtin.SmallTypes.ownedTupleIsFree (.ref z) >>= _) _ _ _;refine wpAny_bind ?_;unfold Builtin.SmallTypes.ownedTupleIsFree;refine wpAny_bind (wpAny_field hz rfl (x:=.none) rfl (wpAny_pure ?_));simp only [if_true];refine wpAny_bind (wpAny_rule ?_);refine wpAny_bind (wpAny_field hz rfl (x:=.ref TO) rfl ?_);refine wpAny_bind (wpAny_setField_rec hz (by simp) fun h₁ hz₁ hs₁=>?_);replace hz₁:IsZip h₁ z TI TO .ellipsis:=hz₁;refine wpAny_bind ?_;simp only [List.zipIdx_cons,List.zipIdx_nil,List.forIn_cons,List.forIn_nil];refine wpAny_bind (wpAny_bind (wpAny_onRaise ?_));show wpAny _ _ (Builtin.SmallTypes.nextOf (.ref i1) >>= _) _ _ _;refine wpAny_bind (k1.next (k1.itK h1 fun o e=>hs₁.extBut _ _ D.i1z e) (k1.seqK hl1 fun o e=>hs₁.extBut _ _ l1z e) hx fun h₂ h1₂ hs₂=>wpAny_pure ?_);have hTO₂:IsPair h₂ TO a b:=hs₂.extBut _ _ D.TOi1 (hs₁.extBut _ _ D.TOz hTO);refine wpAny_bind (wpAny_seqItems hTO₂ rfl ?_);refine wpAny_bind (wpAny_updateSeq_pair hTO₂ fun h₃ hTO₃ hs₃=>?_)
 replace hTO₃:IsPair h₃ TO x b:=hTO₃
 refine wpAny_bind (wpAny_letGo (wpAny_pure ?_));refine wpAny_bind (wpAny_bind (wpAny_onRaise ?_));show wpAny _ _ (Builtin.SmallTypes.nextOf (.ref i2) >>= _) _ _ _;refine wpAny_bind (k2.next (k2.itK h2 fun o e=>hs₃.extBut _ _ D.TOi2.symm (hs₂.extBut _ _ D.i12.symm (hs₁.extBut _ _ D.i2z e))) (k2.seqK hl2 fun o e=>hs₃.extBut _ _ l2TO (hs₂.extBut _ _ l2i1 (hs₁.extBut _ _ l2z e))) hy fun h₄ h2₄ hs₄=>wpAny_pure ?_);have hTO₄:IsPair h₄ TO x b:=hs₄.extBut _ _ D.TOi2 hTO₃;refine wpAny_bind (wpAny_seqItems hTO₄ rfl ?_);refine wpAny_bind (wpAny_updateSeq_pair hTO₄ fun h₅ hTO₅ hs₅=>?_)
 replace hTO₅:IsPair h₅ TO x y:=hTO₅
 refine wpAny_bind (wpAny_letGo (wpAny_pure (wpAny_pure ?_)));refine wpAny_bind (wpAny_seqItems hTO₅ rfl ?_);refine wpAny_bind (wpAny_newTuple ?_);have hsz:h₅.objs.size=s.heap.objs.size:=by rw [hs₅.1,hs₄.1,hs₃.1,hs₂.1,hs₁.1]
 have hz₅:IsZip h₅ z TI TO .ellipsis:=hs₅.extBut _ _ D.TOz.symm (hs₄.extBut _ _ D.i2z.symm (hs₃.extBut _ _ D.TOz.symm (hs₂.extBut _ _ D.i1z.symm hz₁)));have hk₅:∀ c o,c≠z->c≠TO->c≠i1->c≠i2->s.heap.get? c=some o->h₅.get? c=some o:=fun c o c1 c2 c3 c4 e=>hs₅.extBut _ _ c2 (hs₄.extBut _ _ c4 (hs₃.extBut _ _ c2 (hs₂.extBut _ _ c3 (hs₁.extBut _ _ c1 e))))
 have h1₅:k1.isIt h₅ i1 l1 (i+1):=k1.itK h1₂ fun o e=>hs₅.extBut _ _ D.TOi1.symm (hs₄.extBut _ _ D.i12 (hs₃.extBut _ _ D.TOi1.symm e))
 have h2₅:k2.isIt h₅ i2 l2 (i+1):=k2.itK h2₄ fun o e=>hs₅.extBut _ _ D.TOi2.symm e
 have hzlt:z < h₅.objs.size:=Heap.lt_size hz₅;show wpAny _ _ (Builtin.SmallTypes.ownedTupleHandOut (.ref z) (.ref h₅.objs.size) >>= _) _ _ _;refine wpAny_bind ?_;unfold Builtin.SmallTypes.ownedTupleHandOut
 have hz₆:IsZip (h₅.push { cls:=.type "tuple",data:=.seq #[x,y] }) z TI TO .ellipsis:=Heap.get?_push_of_some _ hz₅;refine wpAny_bind (wpAny_setField_rec hz₆ (by simp) fun h₇ hz₇ hs₇=>?_);replace hz₇:IsZip h₇ z TI TO (rawInt h₅.objs.size):=hz₇;refine wpAny_setField_rec hz₇ (by simp) fun h₈ hz₈ hs₈=>?_;replace hz₈:IsZip h₈ z TI TO (rawInt h₅.objs.size):=hz₈
 have up:∀ c o,c≠z->h₅.get? c=some o->h₈.get? c=some o:=fun c o c1 e=>hs₈.extBut _ _ c1 (hs₇.extBut _ _ c1 (Heap.get?_push_of_some _ e))
 have hT₈:IsPair h₈ h₅.objs.size x y:=hs₈.extBut _ _ (Nat.ne_of_gt hzlt) (hs₇.extBut _ _ (Nat.ne_of_gt hzlt) (Heap.get?_push_size _ rfl));have hz8:h₈.objs.size=h₅.objs.size+1:=by rw [hs₈.1,hs₇.1,Heap.size_push]
 rw [hsz] at hz₈ hT₈ hz8;refine wpAny_pure ⟨_,rfl,?_⟩;show Q (.ref h₅.objs.size) _;rw [hsz];exact hQ h₈ hz₈ (up _ _ D.TOz hTO₅) (k1.itK h1₅ fun o e=>up _ o D.i1z e) (k2.itK h2₅ fun o e=>up _ o D.i2z e) hT₈ hz8 fun c o c1 c2 c3 c4 e=>up c o c1 (hk₅ c o c1 c2 c3 c4 e)
theorem Pr (k1 k2:SeqK) {z TI TO i1 i2 l1 l2:Addr}{i:Nat}{xs ys:Array Value}{a b:Value}{Q:Fin->Shared->Prop}(hh:A.handled=none) (D:ZNe z TI TO i1 i2) (l1z:l1≠z) (l2z:l2≠z) (l2TO:l2≠TO) (l2i1:l2≠i1)
  (hz:IsZip s.heap z TI TO .none) (hTI:IsPair s.heap TI (.ref i1) (.ref i2)) (hTO:IsPair s.heap TO a b) (h1:k1.isIt s.heap i1 l1 i) (h2:k2.isIt s.heap i2 l2 i) (hl1:k1.isSeq s.heap l1 xs) (hl2:k2.isSeq s.heap l2 ys) (hend:xs[i]?=none\/ys[i]?=none)
  (hE:∀ h' e,(∀ c o,c≠z->c≠TO->c≠i1->c≠i2->s.heap.get? c=some o->h'.get? c=some o)->(∃ o,h'.get? e=some o/\o.cls=.type "StopIteration")->E (.ref e) { s with heap:=h' }) :
  wpAny (model prog w) A (Builtin.«zip.__next__» ⟨[.ref z],[]⟩) Q E s:=by
 show wpAny _ _ (field (.ref z) 2 >>= _) _ _ _;refine wpAny_bind (wpAny_field hz rfl (x:=.bool false) rfl ?_);show wpAny _ _ (field (.ref z) 3 >>= _) _ _ _;refine wpAny_bind (wpAny_field hz rfl (x:=.ref TI) rfl ?_);refine wpAny_bind (wpAny_seqItems hTI rfl ?_);show wpAny _ _ (Builtin.SmallTypes.ownedTupleIsFree (.ref z) >>= _) _ _ _;refine wpAny_bind ?_;unfold Builtin.SmallTypes.ownedTupleIsFree;refine wpAny_bind (wpAny_field hz rfl (x:=.none) rfl (wpAny_pure ?_));simp only [if_true];refine wpAny_bind (wpAny_rule ?_);refine wpAny_bind (wpAny_field hz rfl (x:=.ref TO) rfl ?_);refine wpAny_bind (wpAny_setField_rec hz (by simp) fun h₁ hz₁ hs₁=>?_);replace hz₁:IsZip h₁ z TI TO .ellipsis:=hz₁;refine wpAny_bind ?_;simp only [List.zipIdx_cons,List.zipIdx_nil,List.forIn_cons,List.forIn_nil];refine wpAny_bind (wpAny_bind (wpAny_onRaise ?_));show wpAny _ _ (Builtin.SmallTypes.nextOf (.ref i1) >>= _) _ _ _;cases hx:xs[i]? with
 | none =>
  refine wpAny_bind (k1.stop hh (k1.itK h1 fun o e=>hs₁.extBut _ _ D.i1z e) (k1.seqK hl1 fun o e=>hs₁.extBut _ _ l1z e) hx fun h₂ e hs₂ he=>?_);obtain ⟨oe,hoe,hce⟩:=he;have hz₂:IsZip h₂ z TI TO .ellipsis:=hs₂ _ _ D.i1z.symm hz₁;have hez:e≠z:=fun x=>by subst x;rw [hz₂] at hoe;cases hoe;simp at hce
  exact wpAny_setField_rec hz₂ (by simp) fun h₃ _ hs₃=>hE h₃ e (fun c o c1 _ c3 _ x=>hs₃.extBut _ _ c1 (hs₂ _ _ c3 (hs₁.extBut _ _ c1 x))) ⟨oe,hs₃.extBut _ _ hez hoe,hce⟩
 | some x =>
  have hy:ys[i]?=none:=by rcases hend with h|h;rw [hx] at h;cases h;exact h
  refine wpAny_bind (k1.next (k1.itK h1 fun o e=>hs₁.extBut _ _ D.i1z e) (k1.seqK hl1 fun o e=>hs₁.extBut _ _ l1z e) hx fun h₂ h1₂ hs₂=>wpAny_pure ?_);have hTO₂:IsPair h₂ TO a b:=hs₂.extBut _ _ D.TOi1 (hs₁.extBut _ _ D.TOz hTO);refine wpAny_bind (wpAny_seqItems hTO₂ rfl ?_);refine wpAny_bind (wpAny_updateSeq_pair hTO₂ fun h₃ hTO₃ hs₃=>?_);refine wpAny_bind (wpAny_letGo (wpAny_pure ?_));refine wpAny_bind (wpAny_bind (wpAny_onRaise ?_));show wpAny _ _ (Builtin.SmallTypes.nextOf (.ref i2) >>= _) _ _ _;refine wpAny_bind (k2.stop hh (k2.itK h2 fun o e=>hs₃.extBut _ _ D.TOi2.symm (hs₂.extBut _ _ D.i12.symm (hs₁.extBut _ _ D.i2z e))) (k2.seqK hl2 fun o e=>hs₃.extBut _ _ l2TO (hs₂.extBut _ _ l2i1 (hs₁.extBut _ _ l2z e))) hy fun h₄ e hs₄ he=>?_);obtain ⟨oe,hoe,hce⟩:=he;have hz₄:IsZip h₄ z TI TO .ellipsis:=hs₄ _ _ D.i2z.symm (hs₃.extBut _ _ D.TOz.symm (hs₂.extBut _ _ D.i1z.symm hz₁));have hez:e≠z:=fun x=>by subst x;rw [hz₄] at hoe;cases hoe;simp at hce
  exact wpAny_setField_rec hz₄ (by simp) fun h₅ _ hs₅=>hE h₅ e (fun c o c1 c2 c3 c4 x=>hs₅.extBut _ _ c1 (hs₄ _ _ c4 (hs₃.extBut _ _ c2 (hs₂.extBut _ _ c3 (hs₁.extBut _ _ c1 x))))) ⟨oe,hs₅.extBut _ _ hez hoe,hce⟩
end
noncomputable def Itz (k1 k2:SeqK) (K:PySem.W.Frag) (l1 l2:Addr):It :=
  ⟨fun i H=>∃ xs ys x y,k1.sq K H l1 xs/\k2.sq K H l2 ys/\xs[i]?=some x/\ys[i]?=some y,
   fun i H v H'=>∃ T x y,H T=none/\v=.ref T/\(∀ xs,k1.sq K H l1 xs->xs[i]?=some x)/\(∀ ys,k2.sq K H l2 ys->ys[i]?=some y)/\H'=upd H T (.tup [x,y]),
   fun i H=>∃ xs ys,k1.sq K H l1 xs/\k2.sq K H l2 ys/\(xs.length<=i\/ys.length<=i)⟩
theorem eN {P:Program}{w:World}{K:PySem.W.Frag}(k1 k2:SeqK) {elts:List Expr}{kk:Nat}{tp:Pos}(l1 l2 z TI TO i1 i2:Addr) (D:ZNe z TI TO i1 i2) :
  Turn P w K (.Tuple elts kk tp) (Itz k1 k2 K l1 l2) [z,TI,TO,i1,i2] z (fun i h=>IsZip h z TI TO .none/\IsPair h TI (.ref i1) (.ref i2)/\(∃ a b,IsPair h TO a b)/\k1.isIt h i1 l1 i/\k2.isIt h i2 l2 i) where
 mem:=by simp
 obj:=fun i h st b hb=>by
  obtain ⟨hz,hTI,⟨a,c,hTO⟩,h1,h2⟩:=st;have hb:b=z\/b=TI\/b=TO\/b=i1\/b=i2:=by simpa using hb
  rcases hb with rfl|rfl|rfl|rfl|rfl
  ·exact ⟨_,hz,fun v q=>by have q':Data.fields _=Data.cell v:=q;cases q'⟩
  ·exact ⟨_,hTI,fun v q=>by have q':Data.seq _ _=Data.cell v:=q;cases q'⟩
  ·exact ⟨_,hTO,fun v q=>by have q':Data.seq _ _=Data.cell v:=q;cases q'⟩
  ·obtain ⟨o,q,c,vs,d⟩:=k1.itO h1;exact ⟨o,q,fun v z=>by rw [d] at z;cases z⟩
  ·obtain ⟨o,q,c,vs,d⟩:=k2.itO h2;exact ⟨o,q,fun v z=>by rw [d] at z;cases z⟩
 keep:=fun i h h' st kp=>by
  obtain ⟨hz,hTI,⟨a,c,hTO⟩,h1,h2⟩:=st;exact ⟨kp z (by simp) _ hz,kp TI (by simp) _ hTI,⟨a,c,kp TO (by simp) _ hTO⟩,k1.itK h1 fun o q=>kp i1 (by simp) o q,k2.itK h2 fun o q=>kp i2 (by simp) o q⟩
 item:=by
  intro X hP hw hK hc i pins s σ H E I hf st hg;subst hP hw hK;obtain ⟨xs,ys,x,y,hq1,hq2,hx,hy⟩:=hg;obtain ⟨its1,rv1,p1,hz1⟩:=k1.get I hq1;obtain ⟨its2,rv2,p2,hz2⟩:=k2.get I hq2;obtain ⟨u1,hu1,ru1⟩:=rv1.get hx;obtain ⟨u2,hu2,ru2⟩:=rv2.get hy;obtain ⟨hz,hTI,⟨a,c,hTO⟩,h1,h2⟩:=st;have fz:=hf z (by simp);have fTO:=hf TO (by simp);have f1:=hf i1 (by simp)
  have hT:s.TypeIs (.ref z) "zip":=⟨_,hz,rfl⟩
  unfold pyNext
  refine wpAny_bind (wpAny_attempt (wpAny_callSpecial?_slot (name:=Str.ofString "__next__") hT F.slot_zip_next (wpAny_call_entry F.slot_zip_next hT F.entry_zip_next
   (Pq k1 k2 (i:=i) D (k1.ne I hq1 fz) (k1.ne I hq1 fTO) (k1.ne I hq1 f1) (k2.ne I hq2 fz) (k2.ne I hq2 fTO) (k2.ne I hq2 f1) hz hTI hTO h1 h2 p1 p2 (x:=u1) (y:=u2) (by simpa using hu1) (by simpa using hu2) fun h' a1 a2 a3 a4 a5 a6 hk=>wpAny_pure ?_) (F.args_zip_next_1 _))))
  refine ⟨_,rfl,wpAny_letOwnedTupleGo_zip a1 fun h2' hz' hs'=>?_⟩;have zlt:z < s.heap.objs.size:=Heap.lt_size hz;have hT2:Le h2' s.heap.objs.size #[u1,u2]:=⟨_,hs'.extBut _ _ (Nat.ne_of_gt zlt) a5,rfl,rfl,_,rfl⟩;have nb:∀ b,b ∉ [z,TI,TO,i1,i2]->b≠z/\b≠TO/\b≠i1/\b≠i2:=fun b hb=>by simp at hb;exact ⟨hb.1,hb.2.2.1,hb.2.2.2.1,hb.2.2.2.2⟩
  have I2:Inv X pins σ (upd H s.heap.objs.size (.tup [x,y])) { s with heap:=h2' }:=Hs (t':=s.toks) (fp:=[z,TI,TO,i1,i2]) I (fun b o hb q=>hs'.extBut b o (nb b hb).1 (hk b o (nb b hb).1 (nb b hb).2.1 (nb b hb).2.2.1 (nb b hb).2.2.2 q)) hf (Nat.le_refl _) ⟨by simp [sizeLine_eq],[u1,u2],.cons ru1 (.cons ru2 .nil),hT2⟩;refine ⟨.ref s.heap.objs.size,_,I2,rfl,⟨s.heap.objs.size,x,y,I.hok.fresh (Nat.le_refl _),rfl,fun zs q=>by rw [k1.inj I q hq1];exact hx,fun zs q=>by rw [k2.inj I q hq2];exact hy,rfl⟩,⟨hz',hs'.extBut _ _ D.TIz (hk _ _ D.TIz D.TITO D.TIi1 D.TIi2 hTI),⟨_,_,hs'.extBut _ _ D.TOz a2⟩,k1.itK a3 fun o q=>hs'.extBut _ _ D.i1z q,k2.itK a4 fun o q=>hs'.extBut _ _ D.i2z q⟩,fun b hb=>?_⟩;rw [Aj ?_]
  ·exact (hf b hb).1
  ·intro q;have hb:b=z\/b=TI\/b=TO\/b=i1\/b=i2:=by simpa using hb
   have lt:b < s.heap.objs.size:=by
    rcases hb with e|e|e|e|e
    ·rw [e];exact zlt
    ·rw [e];exact Heap.lt_size hTI
    ·rw [e];exact Heap.lt_size hTO
    ·obtain ⟨o,q,_⟩:=k1.itO h1;rw [e];exact Heap.lt_size q
    ·obtain ⟨o,q,_⟩:=k2.itO h2;rw [e];exact Heap.lt_size q
   exact absurd q (Nat.ne_of_lt lt)
 done:=by
  intro X hP hw hK hc i pins s σ H E I hf st hg;subst hP hw hK;obtain ⟨xs,ys,hq1,hq2,hx⟩:=hg;obtain ⟨its1,rv1,p1,hz1⟩:=k1.get I hq1;obtain ⟨its2,rv2,p2,hz2⟩:=k2.get I hq2;obtain ⟨hz,hTI,⟨a,c,hTO⟩,h1,h2⟩:=st;have fz:=hf z (by simp);have fTO:=hf TO (by simp);have f1:=hf i1 (by simp)
  have hT:s.TypeIs (.ref z) "zip":=⟨_,hz,rfl⟩
  have e1:=rv1.length;have e2:=rv2.length;unfold pyNext
  refine wpAny_bind (wpAny_attempt (wpAny_callSpecial?_slot (name:=Str.ofString "__next__") hT F.slot_zip_next (wpAny_call_entry F.slot_zip_next hT F.entry_zip_next
   (Pr k1 k2 (i:=i) (A:=X.A.in1) (I.ok.hd hc) D (k1.ne I hq1 fz) (k2.ne I hq2 fz) (k2.ne I hq2 fTO) (k2.ne I hq2 f1) hz hTI hTO h1 h2 p1 p2 ?_ fun h' e hk he=>?_) (F.args_zip_next_1 _))))
  ·rcases hx with q|q
   ·exact .inl (by simp;omega)
   ·exact .inr (by simp;omega)
  ·obtain ⟨o,ho,hcl⟩:=he
   refine wpAny_bind (wpAny_isInstance (T := "StopIteration") (b:=true) ⟨o,ho,hcl⟩ isSubtype_stop (wpAny_pure ⟨rfl,?_⟩))
   exact Jv (t':=s.toks) (fp:=[z,TI,TO,i1,i2]) I (fun b o hb q=>by
    simp at hb
    exact hk b o hb.1 hb.2.2.1 hb.2.2.2.1 hb.2.2.2.2 q) hf
 self:=fun _ i s Q E st h=>wpAny_pyIter_zip st.1 h
noncomputable abbrev zK1 (k1:SeqK) (h:Heap) (l1:Addr):Heap:=h.push { cls:=.type k1.cls,data:=.fields #[.ref l1,.int 0 0] }
noncomputable abbrev zK2 (k1 k2:SeqK) (h:Heap) (l1 l2:Addr):Heap:=(zK1 k1 h l1).push { cls:=.type k2.cls,data:=.fields #[.ref l2,.int 0 0] }
noncomputable abbrev zK3 (k1 k2:SeqK) (h:Heap) (l1 l2:Addr):Heap:=(zK2 k1 k2 h l1 l2).push { cls:=.type "tuple",data:=.seq #[.ref h.objs.size,.ref (zK1 k1 h l1).objs.size] }
noncomputable abbrev zK4 (k1 k2:SeqK) (h:Heap) (l1 l2:Addr):Heap:=(zK3 k1 k2 h l1 l2).push { cls:=.type "tuple",data:=.seq #[.none,.none] }
noncomputable abbrev zK5 (k1 k2:SeqK) (h:Heap) (l1 l2:Addr):Heap:=(zK4 k1 k2 h l1 l2).push { cls:=.type "zip",data:=.fields #[.none,.bool false,.bool false,.ref (zK2 k1 k2 h l1 l2).objs.size,.ref (zK3 k1 k2 h l1 l2).objs.size] }
theorem V0 (k1 k2:SeqK) (l1 l2:Addr) (xs ys:Array Value) :
  Meets (Builtin.«zip.__new__» ⟨[.type "zip",.ref l1,.ref l2],[]⟩) (fun _ R s=>k1.isSeq s.heap l1 xs/\k2.isSeq s.heap l2 ys /\
   R (.ok (.ret (.ref (zK4 k1 k2 s.heap l1 l2).objs.size))) { s with heap:=zK5 k1 k2 s.heap l1 l2 }) :=
 .of_wp fun prog w A R s h=>by
  obtain ⟨hp,g,d,tk,os⟩:=s;obtain ⟨hl1,hl2,h⟩:=h;have hsub:=sub_zip;have hL1:k1.isSeq (Shared.heap ⟨hp,g,d,tk,os⟩) l1 xs:=hl1;have hL2:k2.isSeq (Shared.heap ⟨hp.push { cls:=.type k1.cls,data:=.fields #[.ref l1,.int 0 0] },g,d,tk,os⟩) l2 ys:=k2.seqK hl2 fun o e=>Heap.get?_push_of_some _ e
  wp_walk using k1.iter hL1,k2.iter hL2
  exact ⟨_,rfl,h⟩
section
variable {prog:Program}{w:World}{A:Around}{E:Value->Shared->Prop}{s:Shared}
theorem Pu (k1 k2:SeqK) {l1 l2:Addr}{xs ys:Array Value}{Q:Value->Shared->Prop}(hl1:k1.isSeq s.heap l1 xs) (hl2:k2.isSeq s.heap l2 ys)
  (h:∀ h',IsZip h' (s.heap.objs.size+4) (s.heap.objs.size+2) (s.heap.objs.size+3) .none->IsPair h' (s.heap.objs.size+2) (.ref s.heap.objs.size) (.ref (s.heap.objs.size+1)) ->
   IsPair h' (s.heap.objs.size+3) .none .none->k1.isIt h' s.heap.objs.size l1 0->k2.isIt h' (s.heap.objs.size+1) l2 0->h'.objs.size=s.heap.objs.size+5 ->
   (∀ c o,s.heap.get? c=some o->h'.get? c=some o)->Q (.ref (s.heap.objs.size+4)) { s with heap:=h' }) :
  wpAny (model prog w) A (call (.type "zip") [.ref l1,.ref l2]) Q E s:=by
 refine callType_new F.called_zip (by decide) (F.typeCall_zip_2 _ _) (F.newCall_zip_2 _ _) (fun obj=>F.args_object_init_3 obj _ _) F.entry_zip_new
  (V0 k1 k2 l1 l2 xs ys) ⟨hl1,hl2,?_⟩
 have z1:(zK1 k1 s.heap l1).objs.size=s.heap.objs.size+1:=Heap.size_push ..;have z2:(zK2 k1 k2 s.heap l1 l2).objs.size=s.heap.objs.size+2:=by rw [Heap.size_push,z1]
 have z3:(zK3 k1 k2 s.heap l1 l2).objs.size=s.heap.objs.size+3:=by rw [Heap.size_push,z2]
 have z4:(zK4 k1 k2 s.heap l1 l2).objs.size=s.heap.objs.size+4:=by rw [Heap.size_push,z3]
 have z5:(zK5 k1 k2 s.heap l1 l2).objs.size=s.heap.objs.size+5:=by rw [Heap.size_push,z4]
 have g5:(zK5 k1 k2 s.heap l1 l2).get? (zK4 k1 k2 s.heap l1 l2).objs.size=some _:=Heap.get?_push_size _ rfl;have g4:(zK5 k1 k2 s.heap l1 l2).get? (zK3 k1 k2 s.heap l1 l2).objs.size=some _:=Heap.get?_push_of_some _ (Heap.get?_push_size _ rfl);have g3:(zK5 k1 k2 s.heap l1 l2).get? (zK2 k1 k2 s.heap l1 l2).objs.size=some _:=Heap.get?_push_of_some _ (Heap.get?_push_of_some _ (Heap.get?_push_size _ rfl));have g2:(zK5 k1 k2 s.heap l1 l2).get? (zK1 k1 s.heap l1).objs.size=some _:=Heap.get?_push_of_some _ (Heap.get?_push_of_some _ (Heap.get?_push_of_some _ (Heap.get?_push_size _ rfl)));have g1:(zK5 k1 k2 s.heap l1 l2).get? s.heap.objs.size=some _:=Heap.get?_push_of_some _ (Heap.get?_push_of_some _ (Heap.get?_push_of_some _ (Heap.get?_push_of_some _ (Heap.get?_push_size _ rfl))));show _/\_;rw [z2,z3,z4] at g5;rw [z1,z2] at g3;rw [z3] at g4;rw [z1] at g2;rw [z4]
 exact ⟨⟨_,g5,rfl⟩,h _ g5 g3 g4 (k1.itK (k1.new s.heap l1) fun o e=>Heap.get?_push_of_some _ (Heap.get?_push_of_some _ (Heap.get?_push_of_some _ (Heap.get?_push_of_some _ e)))) (by
  have:=k2.itK (h':=zK5 k1 k2 s.heap l1 l2) (k2.new (zK1 k1 s.heap l1) l2) fun o e=>Heap.get?_push_of_some _ (Heap.get?_push_of_some _ (Heap.get?_push_of_some _ e))
  rw [z1] at this
  exact this) z5 fun c o x =>
  Heap.get?_push_of_some _ (Heap.get?_push_of_some _ (Heap.get?_push_of_some _ (Heap.get?_push_of_some _ (Heap.get?_push_of_some _ x))))⟩
end
noncomputable def oN:List D->MH->Option (Src×MH)
 | [x,y],mh=>match srcOf x mh,srcOf y mh with
  | some s,some t=>some (.zip s t,mh)
  | _,_=>none
 | _,_=>none
noncomputable def Tj (mr:DM (List D)):DM Src:=mr.bnd fun ds=>fun _ mh=>oN ds mh
theorem eO {K:PySem.W.Frag}{H:Hp}{ρ:List Addr}{mh:MH}{x:D}{v:V}{s:Src}(rs:RS K H ρ mh) (r:RD K H ρ x v) (e:srcOf x mh=some s):∃ (k:SeqK) (a:Addr) (xs:List V),v=.ref a/\SR k K H ρ s a/\k.sq K H a xs:=by
 cases x with
 | tup ds =>
  cases e;cases r with
  | tup sq r=>exact ⟨vK,_,_,rfl,SR.tup sq r,sq⟩
 | ref n =>
  cases eo:mh[n]? with
  | none=>simp only [srcOf,eo] at e;cases e
  | some ob =>
   cases ob with
   | dct kvs=>simp only [srcOf,eo] at e;cases e
   | plc=>simp only [srcOf,eo] at e;cases e
   | lst o =>
   simp only [srcOf,eo] at e;cases e;cases r with
   | @ref _ a' h =>
    obtain ⟨a2,ha2,ro⟩:=rs.at eo;rw [h] at ha2;cases ha2;obtain ⟨xs,sq,r⟩:=ro.read;exact ⟨dZ,_,xs,rfl,SR.lst h,sq⟩
 | rol ds =>
  cases e;cases r with
  | rol sq r=>exact ⟨dZ,_,_,rfl,SR.rol sq r,sq.sq⟩
 | non=>cases e
 | bl b=>cases e
 | int i=>cases e
 | str z=>cases e
 | obj c ks ds=>cases e
 | fn x=>cases e
 | lam=>cases e
theorem JR.zip {k1 k2:SeqK}{K:PySem.W.Frag}{H0:Hp}{ρ0:List Addr}{s1 s2:Src}{a1 a2:Addr}(S1:SR k1 K H0 ρ0 s1 a1) (S2:SR k2 K H0 ρ0 s2 a2):JR K H0 ρ0 (.zip s1 s2) (Itz k1 k2 K a1 a2) where
 go:=fun H ρ mh i d e rs q=>by
  have q:(List.zipWith (fun a b=>D.tup [a,b]) (s1.items mh) (s2.items mh))[i]?=some d:=q;rw [List.getElem?_zipWith] at q;cases e1:(s1.items mh)[i]? with
  | none=>rw [e1] at q;simp at q
  | some d1 =>
   cases e2:(s2.items mh)[i]? with
   | none=>rw [e1,e2] at q;simp at q
   | some d2 =>
    rw [e1,e2] at q;cases q;obtain ⟨xs,sq,r⟩:=S1.rd H ρ mh e rs (S1.ok mh i d1 e1);obtain ⟨ys,sq2,r2⟩:=S2.rd H ρ mh e rs (S2.ok mh i d2 e2);obtain ⟨v,ev,rv⟩:=r.get e1;obtain ⟨u,eu,ru⟩:=r2.get e2;refine ⟨⟨xs,ys,v,u,sq,sq2,ev,eu⟩,?_⟩;rintro x H' ⟨T,x',y',hT,h1,h2,h3,h4⟩;subst h1;subst h4;have t1:=h2 xs sq;rw [ev] at t1;cases t1;have t2:=h3 ys sq2;rw [eu] at t2;cases t2;exact ⟨Ev.new hT,rs.new hT,.tup (.inl (.inl Ay)) (.cons (rv.mono (Ev.new hT)) (.cons (ru.mono (Ev.new hT)) .nil))⟩
 stop:=fun H ρ mh i e rs q=>by
  have q:((s1.ok mh&&s2.ok mh)&&decide ((List.zipWith (fun a b=>D.tup [a,b]) (s1.items mh) (s2.items mh)).length<=i))=true:=q;rw [Bool.and_eq_true,Bool.and_eq_true,List.length_zipWith] at q;obtain ⟨xs,sq,r⟩:=S1.rd H ρ mh e rs q.1.1;obtain ⟨ys,sq2,r2⟩:=S2.rd H ρ mh e rs q.1.2;have:=of_decide_eq_true q.2;refine ⟨xs,ys,sq,sq2,?_⟩;rw [← r.length,← r2.length];omega
section
variable {X:Cx}
theorem boot_zip:bootBuiltins "zip"=some (.type "zip"):=by decide +kernel
theorem oO (k1 k2:SeqK) {pins:List (Addr×Obj)}{σ:L2.St}{H:Hp}{s:Shared}{R:It->Hp->Prop}{E:Value->Shared->Prop}{elts:List Expr}{kk:Nat}{tp:Pos}{a b:Addr}{xs ys:List V}(I:Inv X pins σ H s) (hq:k1.sq X.K H a xs) (hq2:k2.sq X.K H b ys) (hR:R (Itz k1 k2 X.K a b) H) :
  wpAny (model X.prog X.w) X.A (call (.type "zip") [.ref a,.ref b]) (fun v s1=>wpAny (model X.prog X.w) X.A (pyIter v) (PIE X pins σ (.Tuple elts kk tp) R) E s1) E s:=by
 obtain ⟨its,rv,p,hz⟩:=k1.get I hq;obtain ⟨its2,rv2,p2,hz2⟩:=k2.get I hq2;refine Pu k1 k2 p p2 fun h' g1 g2 g3 g4 g5 hsz hk=>wpAny_pyIter_zip g1 ?_
 have I1:Inv X pins σ H { s with heap:=h' }:=I.kept (t':=s.toks) hk;refine ⟨s.heap.objs.size+4,[s.heap.objs.size+4,s.heap.objs.size+2,s.heap.objs.size+3,s.heap.objs.size,s.heap.objs.size+1],_,Itz k1 k2 X.K a b,H,rfl,I1,eN k1 k2 a b _ _ _ _ _ ?_,⟨g1,g2,⟨_,_,g3⟩,g4,g5⟩,fun c hc=>?_,hR⟩
 ·generalize s.heap.objs.size=N;exact ⟨Nat.ne_of_lt (Nat.lt_succ_of_lt (Nat.lt_succ_self _)),Nat.ne_of_lt (Nat.lt_succ_self _),Nat.ne_of_lt (Nat.lt_add_of_pos_right (by decide)),Nat.ne_of_lt (Nat.add_lt_add_left (by decide) N),Nat.ne_of_lt (Nat.lt_succ_self _),Nat.ne_of_gt (Nat.lt_add_of_pos_right (by decide)),Nat.ne_of_gt (Nat.lt_succ_self _),Nat.ne_of_gt (Nat.lt_add_of_pos_right (by decide)),Nat.ne_of_gt (Nat.add_lt_add_left (by decide) N),Nat.ne_of_lt (Nat.lt_succ_self _)⟩
 ·have hc:c=s.heap.objs.size+4\/c=s.heap.objs.size+2\/c=s.heap.objs.size+3\/c=s.heap.objs.size\/c=s.heap.objs.size+1:=by simpa using hc
  have:s.heap.objs.size<=c:=by
   rcases hc with e | e | e | e | e <;> rw [e]
   ·exact Nat.le_add_right _ _
   ·exact Nat.le_add_right _ _
   ·exact Nat.le_add_right _ _
   ·exact Nat.le_refl _
   ·exact Nat.le_add_right _ _
  exact I.fpOk this (I.hok.fresh this)
theorem vN {a b:Expr}{mr:DM (List D)}{elts:List Expr}{kk:Nat}{tp p pos:Pos}(hg:Gl X "zip") (hm:X.mg "zip"=none) (ha:DA X [a,b] mr) (hs:starEach [a,b] X.env=(false,eval a X.env)::starEach [b] X.env) (hpl:(backTo pos (starEach [b] X.env)).any (·.1)=false) :
  DI X (.Tuple elts kk tp) (.Call (.Name "zip" p) [a,b] [] pos) (Tj mr):=fun loc mh=>by
 cases ea:mr loc mh with
 | none =>
  have:Tj mr loc mh=none:=by unfold Tj DM.bnd;rw [ea]
  rw [this];exact Dq
 | some pr =>
  obtain ⟨ds,m1⟩:=pr;have eq:Tj mr loc mh=oN ds m1:=by unfold Tj DM.bnd;rw [ea]
  rw [eq];rintro pins s σ H R I ⟨ρ,src,mh',q,rl,rs,co⟩;refine Call_ (Hu I hg hm boot_zip (PyProof.Rows.callWith_type1 (thn (ha loc mh pos pins s σ H (fun vs H1=>∃ ρ1,Ev X.K H ρ H1 ρ1/\RS X.K H1 ρ1 m1/\RDs X.K H1 ρ1 ds vs) I ⟨ρ,ds,m1,ea,rl,rs,fun H1 ρ1 v e1 rs1 r1=>⟨ρ1,e1,rs1,r1⟩⟩) ?_) hs hpl));rintro us s1 ⟨vs,H1,I1,r1,q1⟩;obtain ⟨ρ1,e1,rs1,rx⟩:=q1;unfold oN at q;split at q
  ·rename_i x y;cases rx with
   | cons rx ry =>
    cases ry with
    | cons ry rz =>
     cases rz;split at q
     ·rename_i s1' t1' es et;cases q;obtain ⟨k1,a1,xs,rfl,S1,sq1⟩:=eO rs1 rx es;obtain ⟨k2,a2,ys,rfl,S2,sq2⟩:=eO rs1 ry et;cases r1 with
      | cons u1 r1 =>
       cases r1 with
       | cons u2 r1 =>
        cases r1;cases u1;cases u2;exact oO k1 k2 I1 sq1 sq2 (co H1 ρ1 _ e1 rs1 (JR.zip S1 S2))
     ·cases q
  ·cases q
end
noncomputable abbrev Zx (h:Heap) (z TI TO a:Addr) (f:Bool):Prop:=h.get? z=some { cls:=.type "zip",dict:=none,data:=.fields #[rawInt a,.bool f,.bool false,.ref TI,.ref TO],slots:=#[] }
section
variable {prog:Program}{w:World}{A:Around}{E:Value->Shared->Prop}{s:Shared}
theorem Tn {z TI TO a:Addr}{f:Bool}{oa:Obj}{Q:Bool->Shared->Prop}(hz:Zx s.heap z TI TO a f) (ha:s.heap.get? a=some oa)
  (hQ:∀ h',Zx h' z TI TO a true->Heap.SameBut z s.heap h'->Q false { s with heap:=h' }):wpAny (model prog w) A (Builtin.SmallTypes.ownedTupleIsFree (.ref z)) Q E s:=by
 unfold Builtin.SmallTypes.ownedTupleIsFree;refine wpAny_bind (wpAny_field hz rfl (x:=rawInt a) rfl ?_);show wpAny _ _ (loadIfAlive ((a:Int).toNat) >>= _) _ _ _;rw [Int.toNat_natCast];refine wpAny_bind (PySem.W.kdx_alive ha ?_);simp only [Option.isNone_some,Bool.false_eq_true,if_false];refine wpAny_bind (wpAny_field hz rfl (x:=.bool f) rfl ?_);cases f with
 | true =>
  rw [if_neg (by decide)];exact wpAny_pure (hQ _ hz (Heap.SameBut.refl _ _))
 | false =>
  rw [if_pos (by decide)];exact wpAny_bind (wpAny_setField_rec hz (by simp) fun h₁ hz₁ hs₁=>wpAny_pure (hQ h₁ hz₁ hs₁))
theorem Zy (k1 k2:SeqK) {z TI TO i1 i2 l1 l2 a:Addr}{f:Bool}{oa:Obj}{i:Nat}{xs ys:Array Value}{x y:Value}{Q:Value->Shared->Prop}(D:ZNe z TI TO i1 i2) (l1z:l1≠z) (l2z:l2≠z) (l2i1:l2≠i1)
  (hz:Zx s.heap z TI TO a f) (ha:s.heap.get? a=some oa) (hTI:IsPair s.heap TI (.ref i1) (.ref i2)) (h1:k1.isIt s.heap i1 l1 i) (h2:k2.isIt s.heap i2 l2 i) (hl1:k1.isSeq s.heap l1 xs) (hl2:k2.isSeq s.heap l2 ys) (hx:xs[i]?=some x) (hy:ys[i]?=some y)
  (hQ:∀ h',Zx h' z TI TO a true->k1.isIt h' i1 l1 (i+1)->k2.isIt h' i2 l2 (i+1)->IsPair h' s.heap.objs.size x y->h'.objs.size=s.heap.objs.size+1 ->
   (∀ c o,c≠z->c≠i1->c≠i2->s.heap.get? c=some o->h'.get? c=some o)->Q (.ref s.heap.objs.size) { s with heap:=h' }) :
  wpAny (model prog w) A (Builtin.«zip.__next__» ⟨[.ref z],[]⟩) (fun fin s'=>∃ v,fin=.done (.ret v)/\Q v s') E s:=by
 show wpAny _ _ (field (.ref z) 2 >>= _) _ _ _;refine wpAny_bind (wpAny_field hz rfl (x:=.bool false) rfl ?_);show wpAny _ _ (field (.ref z) 3 >>= _) _ _ _;refine wpAny_bind (wpAny_field hz rfl (x:=.ref TI) rfl ?_);refine wpAny_bind (wpAny_seqItems hTI rfl ?_);show wpAny _ _ (Builtin.SmallTypes.ownedTupleIsFree (.ref z) >>= _) _ _ _;refine wpAny_bind (Tn hz ha fun h₁ hz₁ hs₁=>?_);simp only [Bool.false_eq_true,if_false];refine wpAny_bind ?_;simp only [← Array.forIn_toList,List.forIn_cons,List.forIn_nil];refine wpAny_bind (wpAny_bind (wpAny_holding ?_));show wpAny _ _ (Builtin.SmallTypes.nextOf (.ref i1) >>= _) _ _ _;refine wpAny_bind (k1.next (k1.itK h1 fun o e=>hs₁.extBut _ _ D.i1z e) (k1.seqK hl1 fun o e=>hs₁.extBut _ _ l1z e) hx fun h₂ h1₂ hs₂=>wpAny_pure (wpAny_pure ?_));refine wpAny_bind (wpAny_bind (wpAny_holding ?_));show wpAny _ _ (Builtin.SmallTypes.nextOf (.ref i2) >>= _) _ _ _;refine wpAny_bind (k2.next (k2.itK h2 fun o e=>hs₂.extBut _ _ D.i12.symm (hs₁.extBut _ _ D.i2z e)) (k2.seqK hl2 fun o e=>hs₂.extBut _ _ l2i1 (hs₁.extBut _ _ l2z e)) hy fun h₃ h2₃ hs₃=>wpAny_pure (wpAny_pure (wpAny_pure ?_)));have hsz:h₃.objs.size=s.heap.objs.size:=by rw [hs₃.1,hs₂.1,hs₁.1]
 refine wpAny_bind (wpAny_newTuple (hsz:=by show 2<=sizeLine;decide) (wpAny_pure ⟨_,rfl,?_⟩));show Q (.ref h₃.objs.size) _;rw [hsz]
 have up:∀ c o,h₃.get? c=some o->(h₃.push { cls:=.type "tuple",data:=.seq #[x,y] }).get? c=some o:=fun c o e=>Heap.get?_push_of_some _ e
 refine hQ _ (up _ _ (hs₃.extBut _ _ D.i2z.symm (hs₂.extBut _ _ D.i1z.symm hz₁))) (k1.itK h1₂ fun o e=>up _ o (hs₃.extBut _ _ D.i12 e)) (k2.itK h2₃ fun o e=>up _ o e) ?_ (by rw [Heap.size_push,hsz]) fun c o c1 c3 c4 e=>up c o (hs₃.extBut _ _ c4 (hs₂.extBut _ _ c3 (hs₁.extBut _ _ c1 e)))
 rw [← hsz];exact Heap.get?_push_size _ rfl
theorem Zz (k1 k2:SeqK) {z TI TO i1 i2 l1 l2 a:Addr}{f:Bool}{oa:Obj}{i:Nat}{xs ys:Array Value}{Q:Fin->Shared->Prop}(hh:A.handled=none) (D:ZNe z TI TO i1 i2) (l1z:l1≠z) (l2z:l2≠z) (l2i1:l2≠i1)
  (hz:Zx s.heap z TI TO a f) (ha:s.heap.get? a=some oa) (hTI:IsPair s.heap TI (.ref i1) (.ref i2)) (h1:k1.isIt s.heap i1 l1 i) (h2:k2.isIt s.heap i2 l2 i) (hl1:k1.isSeq s.heap l1 xs) (hl2:k2.isSeq s.heap l2 ys) (hend:xs[i]?=none\/ys[i]?=none)
  (hE:∀ h' e,(∀ c o,c≠z->c≠i1->c≠i2->s.heap.get? c=some o->h'.get? c=some o)->(∃ o,h'.get? e=some o/\o.cls=.type "StopIteration")->E (.ref e) { s with heap:=h' }) :
  wpAny (model prog w) A (Builtin.«zip.__next__» ⟨[.ref z],[]⟩) Q E s:=by
 show wpAny _ _ (field (.ref z) 2 >>= _) _ _ _;refine wpAny_bind (wpAny_field hz rfl (x:=.bool false) rfl ?_);show wpAny _ _ (field (.ref z) 3 >>= _) _ _ _;refine wpAny_bind (wpAny_field hz rfl (x:=.ref TI) rfl ?_);refine wpAny_bind (wpAny_seqItems hTI rfl ?_);show wpAny _ _ (Builtin.SmallTypes.ownedTupleIsFree (.ref z) >>= _) _ _ _;refine wpAny_bind (Tn hz ha fun h₁ hz₁ hs₁=>?_);simp only [Bool.false_eq_true,if_false];refine wpAny_bind ?_;simp only [← Array.forIn_toList,List.forIn_cons,List.forIn_nil];refine wpAny_bind (wpAny_bind (wpAny_holding ?_));show wpAny _ _ (Builtin.SmallTypes.nextOf (.ref i1) >>= _) _ _ _;cases hx:xs[i]? with
 | none =>
  exact wpAny_bind (k1.stop hh (k1.itK h1 fun o e=>hs₁.extBut _ _ D.i1z e) (k1.seqK hl1 fun o e=>hs₁.extBut _ _ l1z e) hx fun h₂ e hs₂ he=>hE h₂ e (fun c o c1 c3 _ x=>hs₂ _ _ c3 (hs₁.extBut _ _ c1 x)) he)
 | some x =>
  have hy:ys[i]?=none:=by rcases hend with h|h;rw [hx] at h;cases h;exact h
  refine wpAny_bind (k1.next (k1.itK h1 fun o e=>hs₁.extBut _ _ D.i1z e) (k1.seqK hl1 fun o e=>hs₁.extBut _ _ l1z e) hx fun h₂ h1₂ hs₂=>wpAny_pure (wpAny_pure ?_));refine wpAny_bind (wpAny_bind (wpAny_holding ?_));show wpAny _ _ (Builtin.SmallTypes.nextOf (.ref i2) >>= _) _ _ _;exact wpAny_bind (k2.stop hh (k2.itK h2 fun o e=>hs₂.extBut _ _ D.i12.symm (hs₁.extBut _ _ D.i2z e)) (k2.seqK hl2 fun o e=>hs₂.extBut _ _ l2i1 (hs₁.extBut _ _ l2z e)) hy fun h₃ e hs₃ he=>hE h₃ e (fun c o c1 c3 c4 x=>hs₃ _ _ c4 (hs₂.extBut _ _ c3 (hs₁.extBut _ _ c1 x))) he)
end
structure ZSt (k1 k2:SeqK) (S z TI TO i1 i2 l1 l2:Addr) (i:Nat) (h:Heap):Prop where
 zip:(IsZip h z TI TO .none/\∃ a b,IsPair h TO a b)\/∃ a f oa,Zx h z TI TO a f/\h.get? a=some oa/\a≠z/\a≠i1/\a≠i2/\a≠S
 ti:IsPair h TI (.ref i1) (.ref i2)
 it1:k1.isIt h i1 l1 i
 it2:k2.isIt h i2 l2 i
structure ZAp (S z TI TO i1 i2 l1 l2:Addr):Prop where
 D:ZNe z TI TO i1 i2
 l1z:l1≠z
 l1TI:l1≠TI
 l1TO:l1≠TO
 l1i1:l1≠i1
 l1i2:l1≠i2
 l2z:l2≠z
 l2TI:l2≠TI
 l2TO:l2≠TO
 l2i1:l2≠i1
 l2i2:l2≠i2
 Sz:S≠z
 STI:S≠TI
 STO:S≠TO
 Si1:S≠i1
 Si2:S≠i2
 Sl1:S≠l1
 Sl2:S≠l2
section
variable {prog:Program}{w:World}{A:Around}{E:Value->Shared->Prop}{s:Shared}{k1 k2:SeqK}{S z TI TO i1 i2 l1 l2:Addr}{i:Nat}
theorem ZSt.keep {h h':Heap}(Z:ZAp S z TI TO i1 i2 l1 l2) (st:ZSt k1 k2 S z TI TO i1 i2 l1 l2 i h) (k:∀ b o,b≠S->h.get? b=some o->h'.get? b=some o):ZSt k1 k2 S z TI TO i1 i2 l1 l2 i h' where
 zip:=by
  rcases st.zip with ⟨q,a,b,t⟩|⟨a,f,oa,q,t,n1,n2,n3,n4⟩
  ·exact .inl ⟨k _ _ Z.Sz.symm q,a,b,k _ _ Z.STO.symm t⟩
  ·exact .inr ⟨a,f,oa,k _ _ Z.Sz.symm q,k _ _ n4 t,n1,n2,n3,n4⟩
 ti:=k _ _ Z.STI.symm st.ti
 it1:=k1.itK st.it1 fun o e=>k _ o Z.Si1.symm e
 it2:=k2.itK st.it2 fun o e=>k _ o Z.Si2.symm e
theorem ZSt.lt {h:Heap}(st:ZSt k1 k2 S z TI TO i1 i2 l1 l2 i h):z < h.objs.size/\i1 < h.objs.size/\i2 < h.objs.size:=by
 refine ⟨?_,?_,?_⟩
 ·rcases st.zip with ⟨q,_⟩ | ⟨_,_,_,q,_⟩ <;> exact Heap.lt_size q
 ·obtain ⟨o,q,_⟩:=k1.itO st.it1;exact Heap.lt_size q
 ·obtain ⟨o,q,_⟩:=k2.itO st.it2;exact Heap.lt_size q
theorem ZSt.ty (st:ZSt k1 k2 S z TI TO i1 i2 l1 l2 i s.heap):s.TypeIs (.ref z) "zip":=by
 rcases st.zip with ⟨q,_⟩ | ⟨_,_,_,q,_⟩ <;> exact ⟨_,q,rfl⟩
theorem V1 (Z:ZAp S z TI TO i1 i2 l1 l2) (st:ZSt k1 k2 S z TI TO i1 i2 l1 l2 i s.heap) (hS:S < s.heap.objs.size) {xs ys:Array Value}{x y:Value}{Q:Option Value->Shared->Prop}(hl1:k1.isSeq s.heap l1 xs) (hl2:k2.isSeq s.heap l2 ys) (hx:xs[i]?=some x) (hy:ys[i]?=some y)
  (hQ:∀ h',ZSt k1 k2 S z TI TO i1 i2 l1 l2 (i+1) h'->IsPair h' s.heap.objs.size x y->h'.objs.size=s.heap.objs.size+1->(∀ c o,c ∉ [z,TI,TO,i1,i2]->s.heap.get? c=some o->h'.get? c=some o)->Q (some (.ref s.heap.objs.size)) { s with heap:=h' }) :
  wpAny (model prog w) A (pyNext (.ref z)) Q E s:=by
 obtain ⟨n1,n2,n3⟩:=st.lt;have hT:=st.ty;unfold pyNext;rcases st.zip with ⟨q,a,b,t⟩|⟨a,f,oa,q,t,m1,m2,m3,m4⟩
 ·refine wpAny_bind (wpAny_attempt (wpAny_callSpecial?_slot (name:=Str.ofString "__next__") hT F.slot_zip_next (wpAny_call_entry F.slot_zip_next hT F.entry_zip_next
   (Pq k1 k2 (i:=i) Z.D Z.l1z Z.l1TO Z.l1i1 Z.l2z Z.l2TO Z.l2i1 q st.ti t st.it1 st.it2 hl1 hl2 hx hy fun h' a1 a2 a3 a4 a5 a6 hk=>wpAny_pure ?_) (F.args_zip_next_1 _))))
  exact hQ h' ⟨.inr ⟨_,_,_,a1,a5,Nat.ne_of_gt n1,Nat.ne_of_gt n2,Nat.ne_of_gt n3,Nat.ne_of_gt hS⟩,hk _ _ Z.D.TIz Z.D.TITO Z.D.TIi1 Z.D.TIi2 st.ti,a3,a4⟩ a5 a6 fun c o hc e=>by
   simp at hc;exact hk c o hc.1 hc.2.2.1 hc.2.2.2.1 hc.2.2.2.2 e
 ·refine wpAny_bind (wpAny_attempt (wpAny_callSpecial?_slot (name:=Str.ofString "__next__") hT F.slot_zip_next (wpAny_call_entry F.slot_zip_next hT F.entry_zip_next
   (Zy k1 k2 (i:=i) Z.D Z.l1z Z.l2z Z.l2i1 q t st.ti st.it1 st.it2 hl1 hl2 hx hy fun h' a1 a3 a4 a5 a6 hk=>wpAny_pure ?_) (F.args_zip_next_1 _))))
  exact hQ h' ⟨.inr ⟨a,_,_,a1,hk _ _ m1 m2 m3 t,m1,m2,m3,m4⟩,hk _ _ Z.D.TIz Z.D.TIi1 Z.D.TIi2 st.ti,a3,a4⟩ a5 a6 fun c o hc e=>by
   simp at hc;exact hk c o hc.1 hc.2.2.2.1 hc.2.2.2.2 e
theorem Mz (hh:A.handled=none) (Z:ZAp S z TI TO i1 i2 l1 l2) (st:ZSt k1 k2 S z TI TO i1 i2 l1 l2 i s.heap) {xs ys:Array Value}{Q:Option Value->Shared->Prop}(hl1:k1.isSeq s.heap l1 xs) (hl2:k2.isSeq s.heap l2 ys) (hend:xs[i]?=none\/ys[i]?=none)
  (hQ:∀ h',(∀ c o,c ∉ [z,TI,TO,i1,i2]->s.heap.get? c=some o->h'.get? c=some o)->Q none { s with heap:=h' }) :
  wpAny (model prog w) A (pyNext (.ref z)) Q E s:=by
 have hT:=st.ty;unfold pyNext;rcases st.zip with ⟨q,a,b,t⟩|⟨a,f,oa,q,t,m1,m2,m3,m4⟩
 ·refine wpAny_bind (wpAny_attempt (wpAny_callSpecial?_slot (name:=Str.ofString "__next__") hT F.slot_zip_next (wpAny_call_entry F.slot_zip_next hT F.entry_zip_next
   (Pr k1 k2 (i:=i) (A:=A.in1) hh Z.D Z.l1z Z.l2z Z.l2TO Z.l2i1 q st.ti t st.it1 st.it2 hl1 hl2 hend fun h' e hk he=>?_) (F.args_zip_next_1 _))))
  obtain ⟨o,ho,hcl⟩:=he
  refine wpAny_bind (wpAny_isInstance (T := "StopIteration") (b:=true) ⟨o,ho,hcl⟩ isSubtype_stop (wpAny_pure ?_));exact hQ h' fun c o hc e=>by
   simp at hc;exact hk c o hc.1 hc.2.2.1 hc.2.2.2.1 hc.2.2.2.2 e
 ·refine wpAny_bind (wpAny_attempt (wpAny_callSpecial?_slot (name:=Str.ofString "__next__") hT F.slot_zip_next (wpAny_call_entry F.slot_zip_next hT F.entry_zip_next
   (Zz k1 k2 (i:=i) (A:=A.in1) hh Z.D Z.l1z Z.l2z Z.l2i1 q t st.ti st.it1 st.it2 hl1 hl2 hend fun h' e hk he=>?_) (F.args_zip_next_1 _))))
  obtain ⟨o,ho,hcl⟩:=he
  refine wpAny_bind (wpAny_isInstance (T := "StopIteration") (b:=true) ⟨o,ho,hcl⟩ isSubtype_stop (wpAny_pure ?_));exact hQ h' fun c o hc e=>by
   simp at hc;exact hk c o hc.1 hc.2.2.2.1 hc.2.2.2.2 e
end
theorem Xm {α:Type}{t:List α}{i:Nat}{a:α}{r:List α}(h:t.drop i=a::r):t[i]?=some a/\t.drop (i+1)=r:=by
 refine ⟨?_,?_⟩
 ·have:=congrArg (fun l=>l[0]?) h
  simpa using this
 ·rw [← List.drop_drop,h];rfl
theorem Tp {α:Type}{t:List α}{i:Nat}(h:t.drop i=[]):t[i]?=none:=by
 have:=congrArg (fun l=>l[0]?) h
 simpa using this
noncomputable def Gm (a b:D):D:=.tup [a,b]
theorem Aa3 {X:Cx}{pins:List (Addr×Obj)}{σ:L2.St}{A:Around}{R:Result->Shared->Prop}{k1 k2:SeqK}{S z TI TO i1 i2 l1 l2:Addr}{res:Value}{H0:Hp}{ρ0 ρ:List Addr}{mh:MH}{t1 t2:List Value}(hh:A.handled=none) (Z:ZAp S z TI TO i1 i2 l1 l2) (hρ:ρ[mh.length]?=some S) :
  ∀ (as bs:List D) (xs ys:List V) (v1 v2:List Value) (i:Nat) (dn:List D) (us:List V) (H:Hp) (s:Shared),RDs X.K H ρ as xs->RDs X.K H ρ bs ys->Vals xs v1->Vals ys v2->t1.drop i=v1->t2.drop i=v2->k1.isSeq s.heap l1 t1.toArray->k2.isSeq s.heap l2 t2.toArray ->
   Inv X pins σ H s->(∀ b∈[z,TI,TO,i1,i2],Gn X pins H b)->ZSt k1 k2 S z TI TO i1 i2 l1 l2 i s.heap->H S=some (.lst us)->RDs X.K H ρ dn us->us.length+xs.length<=sizeLine->TO < s.heap.objs.size->RS X.K H ρ (mh++[.lst dn])->Ev X.K H0 ρ0 H ρ ->
   (∀ s' H',Inv X pins σ H' s'->Ev X.K H0 ρ0 H' ρ->RS X.K H' ρ (mh++[.lst (dn++List.zipWith Gm as bs)])->R (.ok (.ret res)) s') ->
   codeAny (model X.prog X.w) A (.builtin "list.extend.loop" ⟨[.ref S,.ref z,res],[]⟩) R s:=by
 intro as
 induction as with
 | nil =>
  intro bs xs ys v1 v2 i dn us H s ra rb w1 w2 d1 d2 p1 p2 I hf st hS rd hz ltO rs ev hR;cases ra;cases w1;refine codeAny_builtin F.entry_extend_loop ?_;rw [Around.under_plainId F.plain_extend_loop _];show wpAny _ A.in1 (pyNext (.ref z) >>= _) _ _ s;refine wpAny_bind (Mz (A:=A.in1) hh Z st p1 p2 (.inl (by simpa using Tp d1)) fun h' hk=>?_);refine wpAny_pure (hR _ H (Jv (t':=s.toks) (fp:=[z,TI,TO,i1,i2]) I hk hf) ev ?_);rw [List.zipWith_nil_left,List.append_nil];exact rs
 | cons a as ih =>
  intro bs xs ys v1 v2 i dn us H s ra rb w1 w2 d1 d2 p1 p2 I hf st hS rd hz ltO rs ev hR;refine codeAny_builtin F.entry_extend_loop ?_;rw [Around.under_plainId F.plain_extend_loop _];show wpAny _ A.in1 (pyNext (.ref z) >>= _) _ _ s;cases rb with
  | nil =>
   cases w2;refine wpAny_bind (Mz (A:=A.in1) hh Z st p1 p2 (.inr (by simpa using Tp d2)) fun h' hk=>?_);refine wpAny_pure (hR _ H (Jv (t':=s.toks) (fp:=[z,TI,TO,i1,i2]) I hk hf) ev ?_);rw [List.zipWith_nil_right,List.append_nil];exact rs
  | @cons b y bs ys rb rbs =>
   cases ra with
   | @cons _ x _ xs ra ras =>
   cases w1 with
   | @cons _ u1 _ v1 ru1 w1 =>
   cases w2 with
   | @cons _ u2 _ v2 ru2 w2 =>
   obtain ⟨e1,f1⟩:=Xm d1;obtain ⟨e2,f2⟩:=Xm d2;have ltS:S < s.heap.objs.size:=by
    obtain ⟨_,its,n,_,_,e⟩:=I.lstM hS;exact Heap.lt_size e
   refine wpAny_bind (V1 Z st ltS p1 p2 (x:=u1) (y:=u2) (by simpa using e1) (by simpa using e2) fun h' st' a5 a6 hk=>?_);have lts:∀ b∈[z,TI,TO,i1,i2],b < s.heap.objs.size:=fun b hb=>by
    obtain ⟨n1,n2,n3⟩:=st.lt;have hb:b=z\/b=TI\/b=TO\/b=i1\/b=i2:=by simpa using hb
    rcases hb with q | q | q | q | q <;> rw [q]
    ·exact n1
    ·exact Heap.lt_size st.ti
    ·exact ltO
    ·exact n2
    ·exact n3
   have hT:H s.heap.objs.size=none:=I.hok.fresh (Nat.le_refl _);have nS:S≠s.heap.objs.size:=Nat.ne_of_lt ltS;have I2:Inv X pins σ (upd H s.heap.objs.size (.tup [x,y])) { s with heap:=h' }:=Hs (t':=s.toks) (fp:=[z,TI,TO,i1,i2]) I hk hf (Nat.le_refl _) ⟨by simp [sizeLine_eq],[u1,u2],.cons ru1 (.cons ru2 .nil),⟨_,a5,rfl,rfl,_,rfl⟩⟩;have ev2:Ev X.K H ρ (upd H s.heap.objs.size (.tup [x,y])) ρ:=Ev.new hT;have hS2:upd H s.heap.objs.size (.tup [x,y]) S=some (.lst us):=by rw [Aj nS];exact hS
   have rt:RD X.K (upd H s.heap.objs.size (.tup [x,y])) ρ (Gm a b) (.ref s.heap.objs.size):=(.tup (.inl (.inl Ay)) (.cons (ra.mono ev2) (.cons (rb.mono ev2) .nil)));have rs2:=rs.new (o:=.tup [x,y]) hT;have hfn:∀ b∈[z,TI,TO,i1,i2],upd H s.heap.objs.size (.tup [x,y]) b=none:=fun b hb=>by
    rw [Aj (Nat.ne_of_lt (lts b hb))];exact (hf b hb).1
   generalize upd H s.heap.objs.size (.tup [x,y])=H2 at I2 ev2 hS2 rt rs2 hfn;have hf2:∀ b∈[z,TI,TO,i1,i2],Gn X pins H2 b:=fun b hb=>⟨hfn b hb,(hf b hb).2⟩
   obtain ⟨z1,its,n,r,hl,e⟩:=I2.lstM hS2;have hzz:us.length+1+xs.length<=sizeLine:=by have:us.length+(xs.length+1)<=sizeLine:=hz;omega
   have oth:∀ b o,b≠S->h'.get? b=some o->(h'.update S (Obj.mapSeq (·.push (.ref s.heap.objs.size)))).get? b=some o:=fun b o hb q=>(Heap.get?_update_other _ _ (Ne.symm hb)).trans q
   show wpAny _ A.in1 (updateSeq S (·.push (.ref s.heap.objs.size)) >>= _) _ _ _;refine wpAny_bind (wpAny_updateSeq e rfl (hz:=by rw [List.size_toArray];omega) (_hz':=by rw [Array.size_push,List.size_toArray];omega) (wpAny_pure ⟨plainId_quiet F.plain_extend_loop _,?_⟩));have I3:=I2.lset (t':=s.toks) (f:=fun a=>a.push (.ref s.heap.objs.size)) (its':=its++[.ref s.heap.objs.size]) hS2 e (by simp) (r.append (ys:=[.ref s.heap.objs.size]) (ws:=[Value.ref s.heap.objs.size]) (.cons rfl .nil)) (by rw [List.length_append];show us.length+1<=sizeLine;omega);have ev3:Ev X.K H2 ρ (upd H2 S (.lst (us++[.ref s.heap.objs.size]))) ρ:=Ev.lst hS2;have rd3:=(rd.mono ev2).append (.cons rt .nil);have rs3:=rs2.setL hρ hS2 rd3;rw [List.set_append_right _ _ (Nat.le_refl _),Nat.sub_self] at rs3;refine ih bs xs ys v1 v2 (i+1) (dn++[Gm a b]) (us++[.ref s.heap.objs.size]) _ _ ((ras.mono ev2).mono ev3) ((rbs.mono ev2).mono ev3) w1 w2 f1 f2 ?_ ?_ I3 (fun b hb=>⟨?_,(hf b hb).2⟩) (st'.keep Z oth) Ay (rd3.mono ev3) (by rw [List.length_append];exact hzz) (by show TO < (h'.update S _).objs.size;rw [Heap.size_after_update,a6];exact Nat.lt_succ_of_lt ltO) rs3 (ev.trans (ev2.trans ev3)) fun s' H' I' e' r'=>hR s' H' I' e' (by rw [List.append_assoc] at r';exact r')
   ·exact k1.seqK p1 fun o q=>oth _ o Z.Sl1.symm (hk _ o (by simp;exact ⟨Z.l1z,Z.l1TI,Z.l1TO,Z.l1i1,Z.l1i2⟩) q)
   ·exact k2.seqK p2 fun o q=>oth _ o Z.Sl2.symm (hk _ o (by simp;exact ⟨Z.l2z,Z.l2TI,Z.l2TO,Z.l2i1,Z.l2i2⟩) q)
   ·have bS:b≠S:=by
     have hb:b=z\/b=TI\/b=TO\/b=i1\/b=i2:=by simpa using hb
     rcases hb with q | q | q | q | q <;> rw [q]
     ·exact Z.Sz.symm
     ·exact Z.STI.symm
     ·exact Z.STO.symm
     ·exact Z.Si1.symm
     ·exact Z.Si2.symm
    rw [Aj bS];exact hfn b hb
theorem Z0:typeLookup (.type "zip") "__len__"=pure none:=by rw [typeLookup_type,builtinLookup_eq_fast];kernel_rfl
theorem V2:typeLookup (.type "zip") "__length_hint__"=pure none:=by rw [typeLookup_type,builtinLookup_eq_fast];kernel_rfl
theorem Xn {K:PySem.W.Frag}{H:Hp}{p:Addr}{ys:List V}(h:SqL K H p ys\/SqT K H p ys):∃ k:SeqK,k.sq K H p ys:=by
 rcases h with h|h
 ·exact ⟨dZ,h⟩
 ·exact ⟨vK,h⟩
theorem vO {l1 l2 N S:Nat}(n1:l1 < N) (n2:l2 < N) (hS:N+5<=S):ZAp S (N+4) (N+2) (N+3) N (N+1) l1 l2 where
 D:={ TIz:=by show N+2≠N+4;omega,TOz:=by show N+3≠N+4;omega,i1z:=by show N≠N+4;omega,i2z:=by show N+1≠N+4;omega,TITO:=by show N+2≠N+3;omega,TIi1:=by show N+2≠N;omega,TIi2:=by show N+2≠N+1;omega,TOi1:=by show N+3≠N;omega,TOi2:=by show N+3≠N+1;omega,i12:=by show N≠N+1;omega }
 l1z:=by show l1≠N+4;omega
 l1TI:=by show l1≠N+2;omega
 l1TO:=by show l1≠N+3;omega
 l1i1:=by show l1≠N;omega
 l1i2:=by show l1≠N+1;omega
 l2z:=by show l2≠N+4;omega
 l2TI:=by show l2≠N+2;omega
 l2TO:=by show l2≠N+3;omega
 l2i1:=by show l2≠N;omega
 l2i2:=by show l2≠N+1;omega
 Sz:=by show S≠N+4;omega
 STI:=by show S≠N+2;omega
 STO:=by show S≠N+3;omega
 Si1:=by show S≠N;omega
 Si2:=by show S≠N+1;omega
 Sl1:=by show S≠l1;omega
 Sl2:=by show S≠l2;omega
section
variable {X:Cx}
end
end DL
namespace DL
open PySem PySem.Spec PyProof.Rows L2 PySem.W
theorem Tq {X:Cx}{pins:List (Addr×Obj)}{σ:L2.St}{H:Hp}{s:Shared}{A:Around}{E:Value->Shared->Prop}{Q:List Value->Shared->Prop}(hh:A.handled=none) (I:Inv X pins σ H s) {k1 k2:SeqK}{z TI TO i1 i2 l1 l2:Addr}{t1 t2:List Value}{as bs:List D}{xs ys:List V}{ρ:List Addr}{mh:MH}
  (rs:RS X.K H ρ mh) (ra:RDs X.K H ρ as xs) (rb:RDs X.K H ρ bs ys) (w1:Vals xs t1) (w2:Vals ys t2) (p1:k1.isSeq s.heap l1 t1.toArray) (p2:k2.isSeq s.heap l2 t2.toArray) (zl:xs.length<=sizeLine) (hf:∀ b∈[z,TI,TO,i1,i2],Gn X pins H b)
  (Z:∀ S,s.heap.objs.size<=S->ZAp S z TI TO i1 i2 l1 l2) (hz:IsZip s.heap z TI TO .none) (hTI:IsPair s.heap TI (.ref i1) (.ref i2)) (hTO:∃ a b,IsPair s.heap TO a b) (h1:k1.isIt s.heap i1 l1 0) (h2:k2.isIt s.heap i2 l2 0)
  (hQ:∀ s' H' vs us,Inv X pins σ H' s'->Ev X.K H ρ H' (ρ++[s.heap.objs.size])->RS X.K H' (ρ++[s.heap.objs.size]) (mh++[.lst (List.zipWith Gm as bs)])->RDs X.K H' (ρ++[s.heap.objs.size]) (List.zipWith Gm as bs) us->Vals us vs->Q vs s') :
  wpAny (model X.prog X.w) A (collect (.ref z)) Q E s:=by
 have ZS:=Z _ (Nat.le_refl _);unfold collect;refine wpAny_bind (wpAny_runValue (codeAny_builtin F.entry_proto_collect ?_));rw [Around.under_plainId F.plain_proto_collect _];refine wpAny_bind (m:=newList []) (wpAny_newObj_type (wpAny_pure ⟨plainId_quiet F.plain_list_iadd _,codeAny_builtin F.entry_list_iadd ?_⟩));rw [Around.under_plainId F.plain_list_iadd _];generalize hN:s.heap.objs.size=S at *;show wpAny _ A.in1 (Builtin.List.listExtendWith (.ref S) (.ref z) (.ref S)) _ _ _
 have hS1:(s.heap.push { cls:=.type "list",data:=.seq ([]:List Value).toArray }).get? S=some { cls:=.type "list",data:=.seq #[] }:=by rw [← hN];exact Heap.get?_push_size _ rfl
 have up1:∀ b o,b≠S->s.heap.get? b=some o->(s.heap.push { cls:=.type "list",data:=.seq ([]:List Value).toArray }).get? b=some o:=fun b o _ e=>Heap.get?_push_of_some _ e
 generalize s.heap.push { cls:=.type "list",data:=.seq ([]:List Value).toArray }=ha at hS1 up1;unfold Builtin.List.listExtendWith;have hz1:IsZip ha z TI TO .none:=up1 _ _ ZS.Sz.symm hz
 have hT1:Shared.TypeIs { s with heap:=ha } (.ref z) "zip":=⟨_,hz1,rfl⟩
 refine wpAny_bind (wpAny_typeOf hT1 ?_);have q1:Builtin.List.listSameRef (.ref S) (.ref z)=false:=by simp [Builtin.List.listSameRef,ZS.Sz]
 have q2:(Value.type "zip"==Value.type "list")=false:=by decide
 have q3:(Value.type "zip"==Value.type "tuple")=false:=by decide
 simp only [q1,q2,q3,Bool.or_false,Bool.false_eq_true,if_false];refine wpAny_bind (wpAny_pyIter_zip hz1 ?_);refine wpAny_bind (wpAny_holding ?_);unfold Builtin.List.listLengthHint;refine wpAny_bind (wpAny_specialOf hT1 Z0 ?_)
 show wpAny _ _ (specialOf (Value.ref z) (Str.ofString "__length_hint__") >>= _) _ _ _;refine wpAny_bind (wpAny_specialOf hT1 V2 ?_);refine wpAny_pure ?_
 show wpAny _ _ (rule "list.extend.makes-room" >>= fun _=>Builtin.List.listTouch (.ref S) >>= fun _=>again (.builtin "list.extend.loop" ⟨[.ref S,.ref z,.ref S],[]⟩)) _ _ _;refine wpAny_bind (wpAny_rule (wpAny_bind ?_));show wpAny _ _ (updateSeq S (·.push .none) >>= fun _=>updateSeq S (·.pop)) _ _ _;refine wpAny_bind (wpAny_updateSeq hS1 rfl ?_);have hS2:=Heap.get?_update_self (Obj.mapSeq (·.push Value.none)) hS1 rfl;refine wpAny_updateSeq (hz:=by seq_fits) hS2 rfl ?_;have hS3:=Heap.get?_update_self (Obj.mapSeq (·.pop)) hS2 rfl;have up3:∀ b o,b≠S->s.heap.get? b=some o->((ha.update S (Obj.mapSeq (·.push Value.none))).update S (Obj.mapSeq (·.pop))).get? b=some o:=fun b o hb e=>(Heap.get?_update_other _ _ (Ne.symm hb)).trans ((Heap.get?_update_other _ _ (Ne.symm hb)).trans (up1 b o hb e))
 generalize (ha.update S (Obj.mapSeq (·.push Value.none))).update S (Obj.mapSeq (·.pop))=hb at hS3 up3;have kp:∀ b o,s.heap.get? b=some o->hb.get? b=some o:=fun b o e=>up3 b o (Nat.ne_of_lt (by rw [← hN];exact Heap.lt_size e)) e
 have hn:H S=none:=I.hok.fresh (by rw [hN];exact Nat.le_refl _);have I2:Inv X pins σ (upd H S (.lst [])) { s with heap:=hb }:=I.laid (t':=s.toks) kp (by rw [hN];exact Nat.le_refl _) (show Dh X.prog X.w _ hb _ (.lst []) from ⟨Nat.zero_le _,[],_,.nil,hS3⟩);have ev:Ev X.K H ρ (upd H S (.lst [])) (ρ++[S]):=Ev.newL hn;obtain ⟨a,b,hTO⟩:=hTO;refine wpAny_pure ⟨plainId_quiet F.plain_extend_loop _,Aa3 (A:=A) hh ZS (rs.last S) as bs xs ys t1 t2 0 [] [] (upd H S (.lst [])) _ (ra.mono ev) (rb.mono ev) w1 w2 rfl rfl (k1.seqK p1 fun o e=>kp _ o e) (k2.seqK p2 fun o e=>kp _ o e) I2 (fun b hb=>⟨?_,(hf b hb).2⟩) ⟨.inl ⟨kp _ _ hz,a,b,kp _ _ hTO⟩,kp _ _ hTI,k1.itK h1 fun o e=>kp _ o e,k2.itK h2 fun o e=>kp _ o e⟩ Ay .nil (by rw [List.length_nil,Nat.zero_add];exact zl) (Heap.lt_size (kp _ _ hTO)) (rs.newL hn .nil) ev fun s' H' I' e' r'=>?_⟩
 ·have bS:b≠S:=by
   have hb:b=z\/b=TI\/b=TO\/b=i1\/b=i2:=by simpa using hb
   rcases hb with q | q | q | q | q <;> rw [q]
   ·exact ZS.Sz.symm
   ·exact ZS.STI.symm
   ·exact ZS.STO.symm
   ·exact ZS.Si1.symm
   ·exact ZS.Si2.symm
  rw [Aj bS];exact (hf b hb).1
 ·obtain ⟨S',hS',ro⟩:=r'.at (n:=mh.length) (o:=.lst (List.zipWith Gm as bs)) (by simp);rw [rs.last S] at hS';cases hS';obtain ⟨us,sq,rr⟩:=ro.read;obtain ⟨its,rv,pl,_⟩:=I'.list sq;obtain ⟨o,ho,_,n,hd⟩:=pl.isList;refine wpAny_bind (m:=load S) (wpAny_load ho ?_);rw [hd];exact wpAny_pure (hQ s' H' its us I' e' r' rr rv)
noncomputable def Ff:List D->MH->Option (D×MH)
 | [x,y],mh=>match Dc x mh,Dc y mh with
  | some as,some bs=>match Jf (List.zipWith Gm as bs) with
   | some ks=>if ks.Nodup/\ks.length < 64 then some (.ref (mh.length+1),mh++[.lst (List.zipWith Gm as bs)]++[.lst ((Bs ks).map txD)]) else none
   | none=>none
  | _,_=>none
 | _,_=>none
section
variable {X:Cx}
theorem vP {pins:List (Addr×Obj)}{σ:L2.St}{H:Hp}{s:Shared}{Q:VK}{l1 l2:Addr}{xs ys:List V}{as bs:List D}{ρ:List Addr}{mh:MH}{ks:List TX}(hc:X.calm=true) (I:Inv X pins σ H s) (q1:SqL X.K H l1 xs\/SqT X.K H l1 xs) (q2:SqL X.K H l2 ys\/SqT X.K H l2 ys) (rs:RS X.K H ρ mh) (ra:RDs X.K H ρ as xs) (rb:RDs X.K H ρ bs ys)
  (ek:Jf (List.zipWith Gm as bs)=some ks) (nd:ks.Nodup) (h64:ks.length < 64)
  (co:Co X.K H ρ (mh++[.lst (List.zipWith Gm as bs)]++[.lst ((Bs ks).map txD)]) (.ref (mh.length+1)) Q):wpAny (model X.prog X.w) X.A (call (.type "zip") [.ref l1,.ref l2]) (fun u s1=>wpAny (model X.prog X.w) X.A (call (.builtin "sorted") [u]) (EP X pins σ Q) X.xe s1) X.xe s:=by
 obtain ⟨k1,q1⟩:=Xn q1;obtain ⟨k2,q2⟩:=Xn q2;obtain ⟨t1,w1,p1,z1⟩:=k1.get I q1;obtain ⟨t2,w2,p2,z2⟩:=k2.get I q2;refine Pu k1 k2 p1 p2 fun h' g1 g2 g3 g4 g5 hsz hk=>?_
 have I1:Inv X pins σ H { s with heap:=h' }:=I.kept (t':=s.toks) hk;have n1:l1 < s.heap.objs.size:=by obtain ⟨o,e,_⟩:=k1.seqO p1;exact Heap.lt_size e
 have n2:l2 < s.heap.objs.size:=by obtain ⟨o,e,_⟩:=k2.seqO p2;exact Heap.lt_size e
 refine Calls.call_function_entry kind_sorted plain_sorted entry_sorted (args_sorted1 _) ?_;unfold Builtin.«sorted»
 refine wpAny_bind (m:=checkCount "sorted" 1 1 _) (wpAny_pure (wpAny_bind (Tq (k1:=k1) (k2:=k2) (z:=s.heap.objs.size+4) (TI:=s.heap.objs.size+2) (TO:=s.heap.objs.size+3) (i1:=s.heap.objs.size) (i2:=s.heap.objs.size+1) (by simp [I.ok.hd hc]) I1 rs ra rb w1 w2 (k1.seqK p1 fun o e=>hk _ o e) (k2.seqK p2 fun o e=>hk _ o e) z1 (fun c hc=>?_) (fun S hS=>?_) g1 g2 ⟨_,_,g3⟩ g4 g5 fun s' H' vs us I' e' r' rr rv=>?_)))
 ·have hc:c=s.heap.objs.size+4\/c=s.heap.objs.size+2\/c=s.heap.objs.size+3\/c=s.heap.objs.size\/c=s.heap.objs.size+1:=by simpa using hc
  have:s.heap.objs.size<=c:=by
   rcases hc with e | e | e | e | e <;> rw [e]
   ·exact Nat.le_add_right _ _
   ·exact Nat.le_add_right _ _
   ·exact Nat.le_add_right _ _
   ·exact Nat.le_refl _
   ·exact Nat.le_add_right _ _
  exact I.fpOk this (I.hok.fresh this)
 ·have hS:h'.objs.size<=S:=hS;rw [hsz] at hS;generalize s.heap.objs.size=N at *;exact vO n1 n2 hS
 ·rw [Ih ek] at rr;obtain ⟨cs,rfl,lc,sqs⟩:=Q7 rr;have ev:=Ju rv;subst ev;have tx0:∀ (i:Nat) (c:Addr),cs[i]?=some c->TXv s'.heap (.ref c) (ks.getD i default):=fun i c z=>by
   obtain ⟨its,r1,⟨o,e1,e2,n,e3⟩,_⟩:=I'.tuple (sqs i c z);cases r1 with
   | cons rr rt =>
    obtain ⟨t,et⟩:=rr;subst et;exact ⟨c,o,t,_,n,rfl,e1,e2,e3,Ig rt⟩
  have lv:(cs.map Value.ref).length=ks.length:=by rw [List.length_map,lc]
  refine wpAny_bind (wpAny_newList ?_ (by rw [sizeLine_eq];omega));refine wpAny_bind (wpAny_holding (wpAny_call_entry slot_list_sort ⟨_,Heap.get?_push_size _ rfl,rfl⟩ entry_list_sort (Je (vs:=cs.map Value.ref) (ks:=ks) (n:=0) (Heap.get?_push_size _ rfl) (by omega) lv nd (fun i v k a1 a2=>?_) fun out lo ho=>⟨_,rfl,?_⟩) (args_list_sort _)))
  ·rw [List.getElem?_map] at a1;cases ec:cs[i]? with
   | none=>rw [ec] at a1;cases a1
   | some c =>
    rw [ec] at a1;cases a1;have:=tx0 i c ec;rw [getD_some a2] at this;exact this.grow fun b ob _ q=>Heap.get?_push_of_some _ q
  obtain ⟨outs,lo2,ho2⟩:=G6 (l:=out) (R:=fun v c=>v=Value.ref c) (fun v hv=>by
   obtain ⟨i,hi,ei⟩:=List.getElem_of_mem hv;obtain ⟨j,k,z1,z2,_⟩:=ho i v (by rw [List.getElem?_eq_getElem hi,ei]);rw [List.getElem?_map] at z1;cases ec:cs[j]? with
   | none=>rw [ec] at z1;cases z1
   | some c=>rw [ec] at z1;exact ⟨c,(Option.some.inj z1).symm⟩)
  have eout:out=outs.map Value.ref:=List.ext_getElem? fun i=>by
   rw [List.getElem?_map]
   by_cases hi:i < out.length
   ·rw [List.getElem?_eq_getElem hi,List.getElem?_eq_getElem (show i < outs.length by omega)];exact congrArg some (ho2 i _ _ (List.getElem?_eq_getElem hi) (List.getElem?_eq_getElem (show i < outs.length by omega)))
   ·rw [List.getElem?_eq_none (by omega),List.getElem?_eq_none (by omega)];rfl
  have rvo:∀ l:List Addr,Vals (l.map V.ref) (l.map Value.ref):=fun l=>by
   induction l with
   | nil=>exact .nil
   | cons a r ih=>exact .cons rfl ih
  obtain ⟨c,at'⟩:=sortedHeap_at (h:=s'.heap.push (seqObj "list" (cs.map Value.ref).toArray 0)) (a:=s'.heap.objs.size) (vs:=cs.map Value.ref) (n:=0) (out:=out.toArray) (Heap.get?_push_size _ rfl);have hfr:H' s'.heap.objs.size=none:=I'.hok.fresh (Nat.le_refl _);have rso:RDs X.K H' (ρ++[h'.objs.size]) ((Bs ks).map txD) (outs.map V.ref):=Q8 (by rw [← lo2,lo,(Cd _).length_eq,lv]) fun i cc k a1 a2=>by
   have hio:out[i]?=some (.ref cc):=by rw [eout,List.getElem?_map,a1];rfl
   obtain ⟨j,k',z1,z2,z3⟩:=ho i _ hio;rw [a2] at z3;cases z3;rw [List.getElem?_map] at z1;cases ec:cs[j]? with
   | none=>rw [ec] at z1;cases z1
   | some c2 =>
    rw [ec] at z1;cases z1;have:=sqs j cc ec;rw [getD_some z2] at this;exact this
  refine wpAny_pure ⟨_,rfl,.ref s'.heap.objs.size,_,I'.laid (t':=s'.toks) (a:=s'.heap.objs.size) (o:=.lst (outs.map V.ref)) (fun b ob q=>?_) (Nat.le_refl _) ⟨?_,out,c,?_,?_⟩,rfl,?_⟩
  ·have lb:b < s'.heap.objs.size:=Heap.lt_size q;rw [sortedHeap_old (Nat.ne_of_lt lb) (by rw [size_push'];exact Nat.lt_succ_of_lt lb)];exact Heap.get?_push_of_some _ q
  ·rw [List.length_map,← lo2,lo,lv,sizeLine_eq];omega
  ·rw [eout];exact rvo outs
  ·rw [at']
  ·have:=Co.newL r' rso (Q:=Q) (by
    have c2:=co.ev e';rw [show (mh++[MO.lst (List.zipWith Gm as bs)]).length=mh.length+1 by simp]
    exact c2)
   exact this _ hfr
theorem V3 {a b:Expr}{mr:DM (List D)}{p p2 pos pos2:Pos}(hc:X.calm=true) (hg:Gl X "sorted") (hm:X.mg "sorted"=none) (hg2:Gl X "zip") (hm2:X.mg "zip"=none) (ha:DA X [a,b] mr) (hs:starEach [a,b] X.env=(false,eval a X.env)::starEach [b] X.env) (hpl:(backTo pos2 (starEach [b] X.env)).any (·.1)=false) :
  DE X (.Call (.Name "sorted" p) [.Call (.Name "zip" p2) [a,b] [] pos2] [] pos) (mr.bnd fun ds=>Zl (Ff ds)):=by
 rintro loc mh pins s σ H Q I ⟨ρ,d,mh',q,rl,rs,co⟩;obtain ⟨ds,m1,ea,q⟩:=Ac q;have q:Ff ds m1=some (d,mh'):=q
 refine Call_ (Hu I hg hm boot_sorted (PyProof.Rows.callWith_builtin1 (e:=.Call (.Name "zip" p2) [a,b] [] pos2) (rest:=[]) ?_ rfl rfl))
 show wpAny _ _ (spliced ((false,eval (.Call (.Name "zip" p2) [a,b] [] pos2) X.env)::backTo pos (starEach [] X.env))) _ _ s;refine Calls.spliced_cons (Call_ (Hu I hg2 hm2 boot_zip (PyProof.Rows.callWith_type1 (thn (ha loc mh pos2 pins s σ H (fun vs H1=>∃ ρ1,Ev X.K H ρ H1 ρ1/\RS X.K H1 ρ1 m1/\RDs X.K H1 ρ1 ds vs) I ⟨ρ,ds,m1,ea,rl,rs,fun H1 ρ1 v e1 rs1 r1=>⟨ρ1,e1,rs1,r1⟩⟩) ?_) hs hpl)));rintro us s1 ⟨vs,H1,I1,r1,ρ1,e1,rs1,rx⟩;unfold Ff at q;split at q
 ·rename_i x y;split at q
  ·rename_i as bs ex ey;split at q
   ·rename_i ks ek;split at q
    ·rename_i hk;cases q;cases rx with
     | cons rx ry =>
      cases ry with
      | cons ry rz =>
       cases rz;obtain ⟨l1,xs,rfl,q1,ra⟩:=Fq rs1 rx ex;obtain ⟨l2,ys,rfl,q2,rb⟩:=Fq rs1 ry ey;cases r1 with
       | cons u1 r1 =>
        cases r1 with
        | cons u2 r1 =>
         cases r1;cases u1;cases u2;exact thn (vP hc I1 q1 q2 rs1 ra rb ek hk.1 hk.2 (co.ev e1)) fun u s2 h=>Calls.spliced_nil h
    ·cases q
   ·cases q
  ·cases q
 ·cases q
end
end DL
namespace DL
open PySem PySem.Spec PyProof.Rows L2
section
variable {X:Cx}
end
noncomputable def Xo (T1:String) (f1:D->List D->MH->Option (D×MH)) (T2:String) (f2:D->List D->MH->Option (D×MH)) (mo:DM D) (mr:DM (List D)):DM D:=fun loc mh=>match mo loc mh with
 | some (x,m1)=>if Y6 T1 x m1 then Cu T1 f1 mo mr loc mh else Cu T2 f2 mo mr loc mh
 | none=>none
theorem Tr {X:Cx}{e:Expr}{T1 T2:String}{f1 f2:D->List D->MH->Option (D×MH)}{mo:DM D}{mr:DM (List D)}(h1:DE X e (Cu T1 f1 mo mr)) (h2:DE X e (Cu T2 f2 mo mr)):DE X e (Xo T1 f1 T2 f2 mo mr):=fun loc mh=>by
 unfold Xo;split
 ·split
  ·exact h1 loc mh
  ·exact h2 loc mh
 ·exact Bc
section
variable {prog:Program}{w:World}{A:Around}{E:Value->Shared->Prop}{s:Shared}
end
inductive DEnts (w:World) (K:PySem.W.Frag):List DictEntry->List (Str×D)->Prop
 | nil:DEnts w K [] []
 | cons {k:Str} {t:Tok} {u:Value} {v:V} {d:D} {es:List DictEntry} {kvs:List (Str×D)}:RelV v u->(∀ H ρ,RD K H ρ d v)->DEnts w K es kvs->DEnts w K ({ hash:=hashStr w k,key:=.str k t,val:=u }::es) ((k,d)::kvs)
structure DicOk (w:World) (K:PySem.W.Frag) (a:Addr) (kvs:List (Str×D)):Prop where
 ns:(a==sysModules)=false
 ob:∃ o es ep,K.lookup a=some o/\o.ExactDict/\o.data=.dict es ep/\DEnts w K es.toList kvs
noncomputable def Dr (es:List DictEntry) (k:Str):Option Value:=match es with
 | []=>none
 | e::r=>if Value.isStrOf k e.key then some e.val else Dr r k
theorem Kl (es:Array DictEntry) (k:Str):findBy Value.isStrOf es k=Dr es.toList k:=by
 obtain ⟨l⟩:=es;simp only [findBy,List.find?_toArray]
 induction l with
 | nil=>rfl
 | cons e r ih =>
  rw [List.find?_cons];show _=(if Value.isStrOf k e.key=true then some e.val else Dr r k);cases h:Value.isStrOf k e.key with
  | true=>rfl
  | false=>exact ih
theorem Ii {w:World}{K:PySem.W.Frag}:∀ {es:List DictEntry}{kvs:List (Str×D)},DEnts w K es kvs->∀ k:Str,(∃ d u v,kvs.lookup k=some d/\Dr es k=some u/\RelV v u/\∀ H ρ,RD K H ρ d v)\/(kvs.lookup k=none/\Dr es k=none)
 | _,_,.nil,k=>.inr ⟨rfl,rfl⟩
 | _,_,@DEnts.cons _ _ k0 t u v d es kvs rv rd h,k=>by
  by_cases e:k=k0
  ·subst e;left;refine ⟨d,u,v,by simp [List.lookup],?_,rv,rd⟩;simp [Dr,Value.isStrOf]
  ·have e1:(k==k0)=false:=by simpa using e
   have e2:Value.isStrOf k (.str k0 t)=false:=by
    simp [Value.isStrOf];exact fun z=>e z.symm
   rcases Ii h k with ⟨d',u',v',h1,h2,h3,h4⟩|⟨h1,h2⟩
   ·left;refine ⟨d',u',v',by rw [List.lookup_cons,e1];exact h1,?_,h3,h4⟩;show (if Value.isStrOf k (.str k0 t)=true then some u else Dr es k)=some u';rw [e2];exact h2
   ·right;refine ⟨by rw [List.lookup_cons,e1];exact h1,?_⟩;show (if Value.isStrOf k (.str k0 t)=true then some u else Dr es k)=none;rw [e2];exact h2
theorem M4 {P:Program}{w:World}{K:PySem.W.Frag}{es:List DictEntry}{kvs:List (Str×D)}(h:DEnts w K es kvs):∀ e∈es,∃ k,(PySem.strKind P w).is k e.key=true/\e.hash=(PySem.strKind P w).hash k:=by
 induction h with
 | nil=>intro e he;cases he
 | cons rv rd h ih =>
  intro e he;rcases List.mem_cons.mp he with rfl|he
  ·exact ⟨_,by simp [PySem.strKind,Value.isStrOf],rfl⟩
  ·exact ih e he
section
variable {X:Cx}{a:Addr}{kvs:List (Str×D)}
theorem DicOk.map {pins:List (Addr×Obj)}{σ:L2.St}{H:Hp}{s:Shared}(D:DicOk X.w X.K a kvs) (I:Inv X pins σ H s):∃ f,s.heap.MapOf (PySem.strKind X.prog X.w) a f/\∀ k,(∃ d u v,kvs.lookup k=some d/\f k=some u/\RelV v u/\∀ H ρ,RD X.K H ρ d v)\/(kvs.lookup k=none/\f k=none):=by
 obtain ⟨o,es,ep,h1,h2,h3,h4⟩:=D.ob;refine ⟨Dr es.toList,⟨o,es,ep,I.kIn a o h1,h2,h3,fun e he=>M4 h4 e (by simpa using he),fun k=>Kl es k⟩,Ii h4⟩
theorem Tv (D:DicOk X.w X.K a kvs):OpR X (compareOp .In) (fun y x H Q=>∃ k,y=.str k/\x=.ref a/\Q (.bl (kvs.lookup k).isSome) H):=by
 rintro pins s σ H x y v u Q I rx ry ⟨k,ex,ey,q⟩;subst ex;subst ey;obtain ⟨t,rfl⟩:=rx;cases ry;obtain ⟨f,m,hf⟩:=D.map I;refine wpAny_in_of (knd:=PySem.strKind X.prog X.w) (strKind_is _ _ k t) D.ns m ?_;have e:(f k).isSome=(kvs.lookup k).isSome:=by
  rcases hf k with ⟨d,u,v,h1,h2,_⟩|⟨h1,h2⟩
  ·rw [h1,h2];rfl
  ·rw [h1,h2];rfl
 rw [e];exact ⟨.bl _,H,I.tok _,rfl,q⟩
theorem Km (D:DicOk X.w X.K a kvs):OpR X (compareOp .NotIn) (fun y x H Q=>∃ k,y=.str k/\x=.ref a/\Q (.bl (!(kvs.lookup k).isSome)) H):=by
 rintro pins s σ H x y v u Q I rx ry ⟨k,ex,ey,q⟩;subst ex;subst ey;obtain ⟨t,rfl⟩:=rx;cases ry;obtain ⟨f,m,hf⟩:=D.map I;refine wpAny_notIn_of (knd:=PySem.strKind X.prog X.w) (strKind_is _ _ k t) D.ns m ?_;have e:(f k).isSome=(kvs.lookup k).isSome:=by
  rcases hf k with ⟨d,u,v,h1,h2,_⟩|⟨h1,h2⟩
  ·rw [h1,h2];rfl
  ·rw [h1,h2];rfl
 rw [e];exact ⟨.bl _,H,I.tok _,rfl,q⟩
theorem vQ (D:DicOk X.w X.K a kvs):IxR X (fun x y H Q=>∃ k d,x=.ref a/\y=.str k/\kvs.lookup k=some d/\∀ v,(∀ H ρ,RD X.K H ρ d v)->Q v H):=by
 rintro value slice pins s σ H x y v u Q I rx ry ⟨k,d,ex,ey,hl,q⟩ hs;subst ex;subst ey;cases rx;obtain ⟨t,rfl⟩:=ry;obtain ⟨f,m,hf⟩:=D.map I;rcases hf k with ⟨d',u',v',h1,h2,h3,h4⟩|⟨h1,h2⟩
 ·rw [hl] at h1;cases h1;exact subscriptTail_builtinR (x:=u') m.typeIs PySem.F.slot_dict_getitem.lookup (wpAny_getItem_of (knd:=PySem.strKind X.prog X.w) (strKind_is _ _ k t) m h2 ⟨rfl,⟨v',H,I.tok _,h3,q v' h4⟩⟩) hs
 ·rw [hl] at h1;cases h1
variable {e:Expr}{me:DM D}{x:Str}{p pos:Pos}
noncomputable def Ht (neg:Bool) (kvs:List (Str×D)) (m:DM D):DM D:=m.bnd fun y=>match y with
 | .str k=>Zr (.bl (if neg then !(kvs.lookup k).isSome else (kvs.lookup k).isSome))
 | _=>Zb
noncomputable def Px (kvs:List (Str×D)) (m:DM D):DM D:=m.bnd fun y=>match y with
 | .str k=>(match kvs.lookup k with | some d=>Zr d | none=>Zb)
 | _=>Zb
theorem eU (D:DicOk X.w X.K a kvs) (hg:Gl X x) (hm:X.mg x=some (.ref a)) (hd:(x==("__debug__":Str))=false) (he:DE X e me):DE X (.Compare e [.In] [.Name x p] pos) (Ht false kvs me):=fun loc mh =>
 Ar (Qf (Tv D) (he loc mh) (Fo (v:=.ref a) hg hm rfl hd) rfl) fun σ H Q ⟨ρ,d,mh',q,rl,rs,co⟩=>by
  obtain ⟨y,m1,ea,q⟩:=Ac q;cases y with
  | str k=>cases q;exact ⟨ρ,_,_,ea,rl,rs,fun H1 ρ1 v e1 rs1 r1=>by cases r1;exact ⟨k,rfl,rfl,co H1 ρ1 _ e1 rs1 (.bl _)⟩⟩
  | _=>cases q
theorem Tw (D:DicOk X.w X.K a kvs) (hg:Gl X x) (hm:X.mg x=some (.ref a)) (hd:(x==("__debug__":Str))=false) (he:DE X e me):DE X (.Compare e [.NotIn] [.Name x p] pos) (Ht true kvs me):=fun loc mh =>
 Ar (Qf (Km D) (he loc mh) (Fo (v:=.ref a) hg hm rfl hd) rfl) fun σ H Q ⟨ρ,d,mh',q,rl,rs,co⟩=>by
  obtain ⟨y,m1,ea,q⟩:=Ac q;cases y with
  | str k=>cases q;exact ⟨ρ,_,_,ea,rl,rs,fun H1 ρ1 v e1 rs1 r1=>by cases r1;exact ⟨k,rfl,rfl,co H1 ρ1 _ e1 rs1 (.bl _)⟩⟩
  | _=>cases q
theorem eV (D:DicOk X.w X.K a kvs) (hg:Gl X x) (hm:X.mg x=some (.ref a)) (hd:(x==("__debug__":Str))=false) (he:DE X e me):DT X (.Compare e [.In] [.Name x p] pos) (Ag (Ht false kvs me)):=fun loc mh =>
 Jq (Qg (Tv D) (he loc mh) (Fo (v:=.ref a) hg hm rfl hd) rfl) fun σ H Q ⟨ρ,b,mh',q,rl,rs,co⟩=>by
  have q:=Cr q;obtain ⟨y,m1,ea,q⟩:=Ac q;cases y with
  | str k=>cases q;exact ⟨ρ,_,_,ea,rl,rs,fun H1 ρ1 v e1 rs1 r1=>by cases r1;exact ⟨k,rfl,rfl,_,rfl,co H1 ρ1 e1 rs1⟩⟩
  | _=>cases q
theorem Tz (D:DicOk X.w X.K a kvs) (hg:Gl X x) (hm:X.mg x=some (.ref a)) (hd:(x==("__debug__":Str))=false) (he:DE X e me):DT X (.Compare e [.NotIn] [.Name x p] pos) (Ag (Ht true kvs me)):=fun loc mh =>
 Jq (Qg (Km D) (he loc mh) (Fo (v:=.ref a) hg hm rfl hd) rfl) fun σ H Q ⟨ρ,b,mh',q,rl,rs,co⟩=>by
  have q:=Cr q;obtain ⟨y,m1,ea,q⟩:=Ac q;cases y with
  | str k=>cases q;exact ⟨ρ,_,_,ea,rl,rs,fun H1 ρ1 v e1 rs1 r1=>by cases r1;exact ⟨k,rfl,rfl,_,rfl,co H1 ρ1 e1 rs1⟩⟩
  | _=>cases q
theorem eX (D:DicOk X.w X.K a kvs) (hg:Gl X x) (hm:X.mg x=some (.ref a)) (hd:(x==("__debug__":Str))=false) (he:DE X e me) (hs:K5 e):DE X (.Subscript (.Name x p) e pos) (Px kvs me):=fun loc mh =>
 Ar (qQ (vQ D) (Fo (v:=.ref a) hg hm rfl hd) (he loc mh) hs) fun σ H Q ⟨ρ,d,mh',q,rl,rs,co⟩=>by
  obtain ⟨y,m1,ea,q⟩:=Ac q;cases y with
  | str k =>
   cases hl:kvs.lookup k with
   | some d' =>
    simp only [hl] at q;cases q;exact ⟨ρ,_,_,ea,rl,rs,fun H1 ρ1 v e1 rs1 r1=>by cases r1;exact ⟨k,d,rfl,rfl,hl,fun v' hv=>co H1 ρ1 _ e1 rs1 (hv H1 ρ1)⟩⟩
   | none =>
    simp only [hl] at q;cases q
  | _=>cases q
end
mutual
noncomputable def rdV (K:PySem.W.Frag):Nat->Value->Option D
 | _,.none=>some .non
 | _,.bool b=>some (.bl b)
 | _,.int i _=>some (.int i)
 | _,.str x _=>some (.str x)
 | n+1,.ref a=>match K.lookup a with
  | some ⟨.type c,none,.seq its _,_⟩=>if c == "tuple"&&decide (its.size<=1000) then (match Z1 K n its.toList with | some ds=>some (.tup ds) | none=>none) else none
  | _=>none
 | _,_=>none
noncomputable def Z1 (K:PySem.W.Frag):Nat->List Value->Option (List D)
 | _,[]=>some []
 | 0,_::_=>none
 | n+1,u::r=>match rdV K n u with
  | some d=>(match Z1 K n r with | some ds=>some (d::ds) | none=>none)
  | none=>none
end
mutual
theorem eY {K:PySem.W.Frag}:∀ (n:Nat) {u:Value}{d:D},rdV K n u=some d->∃ v,RelV v u/\∀ H ρ,RD K H ρ d v
 | n,.none,d,h=>by cases n <;> (simp only [rdV] at h;cases h;exact ⟨.non,rfl,fun _ _=>.non⟩)
 | n,.bool b,d,h=>by cases n <;> (simp only [rdV] at h;cases h;exact ⟨.bl b,rfl,fun _ _=>.bl b⟩)
 | n,.int i t,d,h=>by cases n <;> (simp only [rdV] at h;cases h;exact ⟨.int i,⟨t,rfl⟩,fun _ _=>.int i⟩)
 | n,.str x t,d,h=>by cases n <;> (simp only [rdV] at h;cases h;exact ⟨.str x,⟨t,rfl⟩,fun _ _=>.str x⟩)
 | 0,.ref a,d,h=>by simp only [rdV] at h;cases h
 | n+1,.ref a,d,h=>by
  simp only [rdV] at h;split at h
  ·rename_i c its ep sl hk;split at h
   ·rename_i hc;rw [Bool.and_eq_true,decide_eq_true_iff] at hc;split at h
    ·rename_i ds hd;cases h;obtain ⟨vs,h1,h2⟩:=Xp n hd;refine ⟨.ref a,rfl,fun H ρ=>.tup (.inr ⟨_,its,ep,hk,by rw [eq_of_beq hc.1],rfl,rfl,?_,h1⟩) (h2 H ρ)⟩;rw [sizeLine_eq];omega
    ·cases h
   ·cases h
  ·cases h
 | n,.float _ _,d,h=>by cases n <;> (simp only [rdV] at h;cases h)
 | n,.bytes _ _,d,h=>by cases n <;> (simp only [rdV] at h;cases h)
 | n,.ellipsis,d,h=>by cases n <;> (simp only [rdV] at h;cases h)
 | n,.notImplemented,d,h=>by cases n <;> (simp only [rdV] at h;cases h)
 | n,.type _,d,h=>by cases n <;> (simp only [rdV] at h;cases h)
 | n,.builtin _,d,h=>by cases n <;> (simp only [rdV] at h;cases h)
theorem Xp {K:PySem.W.Frag}:∀ (n:Nat) {us:List Value}{ds:List D},Z1 K n us=some ds->∃ vs,Vals vs us/\∀ H ρ,RDs K H ρ ds vs
 | n,[],ds,h=>by cases n <;> (simp only [Z1] at h;cases h;exact ⟨[],.nil,fun _ _=>.nil⟩)
 | 0,_::_,ds,h=>by simp only [Z1] at h;cases h
 | n+1,u::r,ds,h=>by
  simp only [Z1] at h;split at h
  ·rename_i d hd;split at h
   ·rename_i ds' hr;cases h;obtain ⟨v,a1,a2⟩:=eY n hd;obtain ⟨vs,b1,b2⟩:=Xp n hr;exact ⟨v::vs,.cons a1 b1,fun H ρ=>.cons (a2 H ρ) (b2 H ρ)⟩
   ·cases h
  ·cases h
end
noncomputable def rdE (K:PySem.W.Frag) (n:Nat):List DictEntry->Option (List (Str×D))
 | []=>some []
 | e::r=>match e.key with
  | .str k _=>(match rdV K n e.val with
   | some d=>(match rdE K n r with | some l=>some ((k,d)::l) | none=>none)
   | none=>none)
  | _=>none
noncomputable def M5 (w:World) (e:DictEntry):DictEntry:=match e.key with
 | .str k t=>{ hash:=hashStr w k,key:=.str k t,val:=e.val }
 | _=>e
theorem eZ {w:World}{K:PySem.W.Frag}{n:Nat}:∀ {es:List DictEntry}{kvs:List (Str×D)},rdE K n es=some kvs->DEnts w K (es.map (M5 w)) kvs
 | [],_,h=>by cases h;exact .nil
 | e::r,kvs,h=>by
  obtain ⟨hs,key,val⟩:=e;cases key with
  | str k t =>
   simp only [rdE] at h;split at h
   ·rename_i d hd;split at h
    ·rename_i l hl;cases h;obtain ⟨v,a1,a2⟩:=eY n hd;exact .cons a1 a2 (eZ hl)
    ·cases h
   ·cases h
  | _=>simp only [rdE] at h;cases h
theorem V4 {w:World}{K:PySem.W.Frag}{a:Addr}{es:Array DictEntry}{ep n:Nat}{kvs:List (Str×D)}(hn:(a==sysModules)=false) (hl:K.lookup a=some ⟨.type "dict",none,.dict es ep,#[]⟩) (hh:es.toList.map (M5 w)=es.toList) (hd:rdE K n es.toList=some kvs):DicOk w K a kvs :=
 ⟨hn,_,es,ep,hl,⟨rfl,rfl,rfl⟩,rfl,by rw [← hh];exact eZ hd⟩
theorem M6 {K:PySem.W.Frag}{H:Hp}{ρ:List Addr}{f:Str}{d:D}:∀ {ks:List Str}{ds:List D}{xs:List V},RDs K H ρ ds xs->(ks.zip ds).lookup f=some d->∃ v,(ks.zip xs).lookup f=some v/\RD K H ρ d v
 | [],_,_,_,h=>by simp at h
 | k::ks,_,_,.nil,h=>by simp at h
 | k::ks,_,_,.cons r t,h=>by
  rw [List.zip_cons_cons,List.lookup_cons] at h ⊢;cases e:f==k with
  | true=>rw [e] at h;cases h;exact ⟨_,rfl,r⟩
  | false=>rw [e] at h;exact M6 t h
theorem M7 {f:Str}:∀ {ks:List Str}{xs:List V},ks.contains f=false->(ks.zip xs).lookup f=none
 | [],_,_=>by simp
 | k::ks,[],_=>by simp
 | k::ks,x::xs,h=>by
  rw [List.contains_cons,Bool.or_eq_false_iff] at h;rw [List.zip_cons_cons,List.lookup_cons,h.1];exact M7 h.2
noncomputable def T4 (c f:Str) (x:D) (mh:MH):Option (D×MH):=match x with
 | .obj c' ks ds=>if c'==c then (match (ks.zip ds).lookup f with | some d=>some (d,mh) | none=>none) else none
 | _=>none
section
variable {X:Cx}{o:Expr}{mo:DM D}{c f:Str}{C:Addr}{pos apos:Pos}
theorem vR (hn:PySem.W.nsIn X.K mainGlobals c=some (some (.ref C))) (hc:Cls X.K C) (ha:Ed X.K C f) (ho:DE X o mo) (hb:attributeBase o f X.env (eval o X.env)=eval o X.env):DE X (.Attribute o f pos) (mo.bnd fun x=>Zl (T4 c f x)):=fun loc mh =>
 Ar (tO (ho loc mh) hb) fun σ H Q ⟨ρ,d,mh',q,rl,rs,co⟩=>by
  obtain ⟨x,m1,ea,q2⟩:=Ac q
  clear q
  refine ⟨ρ,x,m1,ea,rl,rs,fun H1 ρ1 v e1 rs1 r1=>?_⟩;change T4 c f x m1=some (d,mh') at q2;cases r1 with
  | @obj c' ks ds a C' dx xs h1 h2 h3 h4 =>
   simp only [T4] at q2;split at q2
   ·rename_i hcc;have e:=eq_of_beq hcc;subst e;rw [hn] at h1;cases h1;split at q2
    ·rename_i d' hl;cases q2;obtain ⟨v',l1,l2⟩:=M6 h4 hl;exact ⟨a,C,dx,_,v',rfl,h2,hc,ha,l1,co H1 ρ1 _ e1 rs1 l2⟩
    ·cases q2
   ·cases q2
  | _=>cases q2
noncomputable def M8 (c m:Str) (f:List D->MH->Option (D×MH)) (mo:DM D) (mr:DM (List D)):DM D:=mo.bnd fun x=>match x with
 | .obj c' ks ds=>if c'==c&&!(ks.contains m) then mr.bnd fun as=>Zl (f (.obj c' ks ds::as)) else Zb
 | _=>Zb
theorem Py {env:Env}{o:Expr}{m:Str}{args:List Expr}(hbase:attributeBase o m env (eval o env)=eval o env)
  (hfew:((backTo pos (starEach args env)).all (fun x=>!x.1)&&(backToKw pos (keywordEach [] env)).all (fun x=>x.1.isSome)&&decide (args.length+([]:List Keyword).length+(if ([]:List Keyword).isEmpty then 0 else 1) < 30))=true)
  (hline:(apos.endLine==pos.line)=true) :
  eval (.Call (.Attribute o m apos) args [] pos) env=(do
   let ov ← eval o env
   standAt apos.atName
   let (f,first) ← holding [ov] (getMethod ov m (do return (← importBound o env).getD true))
   callWith pos f first (backTo pos (starEach args env)) (backToKw pos (keywordEach [] env))):=by
 rw [arm_eval_Call,hbase];have hform:methodCallForm (args.length+([]:List Keyword).length) (backTo pos (starEach args env)) (backToKw pos (keywordEach [] env))=true:=hfew;have hpos:methodCallPos true o env apos pos=pure pos:=by unfold methodCallPos;simp [hline]
 unfold methodCall;rw [hform,hpos];rfl
variable {CX:CXT}{k:Nat}{fa:Addr}{fd:FuncData}{ps:List Str}{m:Str}{g:List D->MH->Option (D×MH)}{e:Expr}{es:List Expr}{mr:DM (List D)}{E:XK}
theorem M9 {loc:Loc}{mh:MH}{r:D×MH}(h:M8 c m g mo mr loc mh=some r):∃ ks ds m1,mo loc mh=some (.obj c ks ds,m1)/\ks.contains m=false/\∃ as m2,mr loc m1=some (as,m2)/\g (.obj c ks ds::as) m2=some r:=by
 obtain ⟨x,m1,ea,h2⟩:=Ac h
 clear h
 cases x with
 | obj c' ks ds =>
  simp only at h2;split at h2
  ·rename_i hc;rw [Bool.and_eq_true] at hc;have ec:=eq_of_beq hc.1;subst ec;obtain ⟨as,m2,eb,h3⟩:=Ac h2;exact ⟨ks,ds,m1,ea,by simpa using hc.2,as,m2,eb,h3⟩
  ·cases h2
 | _=>cases h2
theorem oR (hn:PySem.W.nsIn X.K mainGlobals c=some (some (.ref C))) (hc:Cls X.K C) (hm:Meth X.K C m fa) (F:FnOk X.prog X.w X.K X.mg X.base CX k fa fd ps (spD X.K ps.length g)) (hr:Room k X.A) (hb:Binds X.K fd ps []) (hx:Cq CX X E) (ho:DE X o mo) (ha:DA X (e::es) mr)
  (hl:∀ ds mh r,g ds mh=some r->ds.length=ps.length) (hbase:attributeBase o m X.env (eval o X.env)=eval o X.env)
  (hfew:((backTo pos (starEach (e::es) X.env)).all (fun x=>!x.1)&&(backToKw pos (keywordEach [] X.env)).all (fun x=>x.1.isSome)&&decide ((e::es).length+([]:List Keyword).length+(if ([]:List Keyword).isEmpty then 0 else 1) < 30))=true)
  (hline:(apos.endLine==pos.line)=true) (hst:starEach (e::es) X.env=(false,eval e X.env)::starEach es X.env) (hpl:(backTo pos (starEach es X.env)).any (·.1)=false) :
  DE X (.Call (.Attribute o m apos) (e::es) [] pos) (M8 c m g mo mr):=fun loc mh=>by
 cases eq:M8 c m g mo mr loc mh with
 | none=>exact Bc
 | some r =>
  obtain ⟨ks,ds,m1,ea,hk,as,m2,eb,hg⟩:=M9 eq;refine Ar (lU (ho loc mh) hc hm F hr hb .nil hx (ha loc m1) hst hpl (Py hbase hfew hline)) ?_;rintro σ H Q ⟨ρ,d,mh',q,rl,rs,co⟩;cases q;refine ⟨ρ,_,m1,ea,rl,rs,fun H1 ρ1 v e1 rs1 r1=>?_⟩;cases r1 with
  | @obj _ _ _ a C' dx xs h1 h2 h3 h4 =>
   rw [hn] at h1;cases h1;refine ⟨a,dx,_,rfl,h2,M7 hk,ρ1,as,m2,eb,rl.mono e1,rs1,fun H2 ρ2 vs e2 rs2 r2=>?_⟩;show spD X.K ps.length g (.ref a::(vs++[])) H2 Q E;rw [List.append_nil];have rr:RDs X.K H2 ρ2 (.obj c ks ds::as) (.ref a::vs):=.cons (.obj hn (e2.ins _ _ _ _ h2) h3 (h4.mono e2)) r2;exact ⟨by rw [← rr.length];exact hl _ _ _ hg,ρ2,m2,_,d,mh',hg,rs2,rr,co.ev (e1.trans e2)⟩
theorem fB (hn:PySem.W.nsIn X.K mainGlobals c=some (some (.ref C))) (hc:Cls X.K C) (hm:Meth X.K C m fa) (F:FnOk X.prog X.w X.K X.mg X.base CX k fa fd ps (spD X.K ps.length g)) (hr:Room k X.A) (hb:Binds X.K fd ps []) (hx:Cq CX X E) (ho:DE X o mo)
  (hl:∀ ds mh r,g ds mh=some r->ds.length=ps.length) (hbase:attributeBase o m X.env (eval o X.env)=eval o X.env) (hline:(apos.endLine==pos.line)=true) :
  DE X (.Call (.Attribute o m apos) [] [] pos) (M8 c m g mo (Zr [])):=fun loc mh=>by
 cases eq:M8 c m g mo (Zr []) loc mh with
 | none=>exact Bc
 | some r =>
  obtain ⟨ks,ds,m1,ea,hk,as,m2,eb,hg⟩:=M9 eq;cases eb;refine Ar (bF (ho loc mh) hc hm F hr hb .nil hx (Py hbase rfl hline)) ?_;rintro σ H Q ⟨ρ,d,mh',q,rl,rs,co⟩;cases q;refine ⟨ρ,_,m1,ea,rl,rs,fun H1 ρ1 v e1 rs1 r1=>?_⟩;cases r1 with
  | @obj _ _ _ a C' dx xs h1 h2 h3 h4 =>
   rw [hn] at h1;cases h1;refine ⟨a,dx,_,rfl,h2,M7 hk,?_⟩;have rr:RDs X.K H1 ρ1 [.obj c ks ds] [.ref a]:=.cons (.obj hn h2 h3 h4) .nil;have hl1:[V.ref a].length=ps.length:=by rw [← rr.length];exact hl _ _ _ hg
   exact ⟨hl1,ρ1,m1,_,d,mh',hg,rs1,rr,co.ev e1⟩
noncomputable def spI (C:Addr) (f:Str):Sp:=fun vs H Q _=>∃ x dx v,vs=[.ref x,v]/\H x=some (.ins C dx [])/\Q .non (upd H x (.ins C dx [(f,v)]))
theorem oU {x:Str}{p:Pos}{ma:DM D}{a:Expr}(hn:PySem.W.nsIn X.K mainGlobals x=some (some (.ref C))) (M:Mk X.K C fa) (F:FnOk X.prog X.w X.K X.mg X.base CX k fa fd ps (spI C f)) (hr:Room (k+1) X.A) (hg:Gl X x) (hm:X.mg x=some (.ref C)) (hb:Binds X.K fd ps []) (hx:Cq CX X E)
  (ha:DE X a ma) (hdb:(x==("__debug__":Str))=false) (hs:starEach [a] X.env=(false,eval a X.env)::starEach [] X.env) :
  DE X (.Call (.Name x p) [a] [] pos) (ma.bnd fun d=>Zr (.obj x [f] [d])):=fun loc mh =>
 Ar (lV M F hr hg hm hb .nil hx (Cp (ha loc mh) Ef hs) hdb hs) fun σ H Q ⟨ρ,d,mh',q,rl,rs,co⟩=>by
  obtain ⟨y,m1,ea,q⟩:=Ac q;cases q;refine ⟨ρ,y,_,ea,rl,rs,fun H1 ρ1 v e1 rs1 r1=>fun z dx hz hdx hne=>?_⟩;refine ⟨z,dx,v,rfl,Ay,rfl,?_⟩;have e2:Ev X.K H1 ρ1 (upd (upd H1 dx (.own z)) z (.ins C dx [])) ρ1:=(Ev.new hdx).trans (Ev.new (by rw [Aj (Ne.symm hne)];exact hz));have rs2:RS X.K (upd (upd H1 dx (.own z)) z (.ins C dx [])) ρ1 mh':=(rs1.new hdx).new (by rw [Aj (Ne.symm hne)];exact hz);rw [kY];have hz':upd H1 dx (HO.own z) z=none:=by rw [Aj (Ne.symm hne)];exact hz
  refine co _ ρ1 _ (e1.trans ((Ev.new hdx).trans (Ev.new hz'))) ((rs1.new hdx).new hz') ?_;exact .obj (xs:=[v]) hn Ay rfl (.cons (r1.mono ((Ev.new hdx).trans (Ev.new hz'))) .nil)
end
theorem oV {P:Program}{w:World}{K:PySem.W.Frag}{mg:Str->Option Value}{base:Heap}{qual:Str}{st:Stmt}{fa C:Addr}{fd:FuncData}{s q f:Str}{p1 p2 p3 p4:Pos}(F:Fun K "__init__" qual st fa fd) (S:FnScope [s,q] [s,q] (Af st)) (hb:Bb st=[.Assign [.Attribute (.Name s p1) f p2] (.Name q p3) p4])
  (hs1:Vis (Af st) s) (hq1:Vis (Af st) q) (hc:Cls K C) (ha:Ed K C f) (d1:(s==("__debug__":Str))=false/\(s==("__classdict__":Str))=false) (d2:(q==("__debug__":Str))=false/\(q==("__classdict__":Str))=false):FnOk P w K mg base CX0 1 fa fd [s,q] (spI C f):=by
 refine F.ok S (fun vs H Q E h=>?_) fun cdv A outer sh H vs Q E hr h=>?_
 ·obtain ⟨x,dx,v,rfl,_⟩:=h;rfl
 ·obtain ⟨x,dx,v,rfl,hx,hQ⟩:=h;rw [hb];refine ⟨_,lE (tQ (Ux (i:=0) rfl ?_ d1.1 d1.2) (Ux (i:=1) rfl ?_ d2.1 d2.2) rfl),?_⟩
  ·exact hs1
  ·exact hq1
  ·exact ⟨v,rfl,.ref x,rfl,x,C,dx,[],rfl,hx,hc,ha,by show 0 < 1000;decide,hQ⟩
noncomputable abbrev Fn:=List D->MH->Option (D×MH)
noncomputable def El (ok:Str->Str->Bool) (f:Str) (mo:DM D):DM D:=mo.bnd fun x=>match x with
 | .obj c ks ds=>if ok c f then Zl (T4 c f (.obj c ks ds)) else Zb
 | _=>Zb
noncomputable def Ey (met:Str->Str->Option (List Str×Fn)) (m:Str) (mo:DM D) (mr:DM (List D)):DM D:=mo.bnd fun x=>match x with
 | .obj c ks ds=>(match met c m with
  | some (_,g)=>if ks.contains m then Zb else mr.bnd fun as=>Zl (g (.obj c ks ds::as))
  | none=>Zb)
 | _=>Zb
section
variable {X:Cx}{o:Expr}{mo:DM D}{f m:Str}{pos apos:Pos}
theorem oW {ok:Str->Str->Bool}(hok:∀ c,ok c f=true->∃ C,PySem.W.nsIn X.K mainGlobals c=some (some (.ref C))/\Cls X.K C/\Ed X.K C f) (ho:DE X o mo) (hb:attributeBase o f X.env (eval o X.env)=eval o X.env):DE X (.Attribute o f pos) (El ok f mo):=fun loc mh=>by
 cases ea:mo loc mh with
 | none =>
  have:El ok f mo loc mh=none:=by unfold El DM.bnd;rw [ea]
  rw [this];exact Bc
 | some pr =>
  obtain ⟨x,m1⟩:=pr;cases x with
  | obj c ks ds =>
   by_cases h:ok c f=true
   ·obtain ⟨C,h1,h2,h3⟩:=hok c h;have e:El ok f mo loc mh=(mo.bnd fun x=>Zl (T4 c f x)) loc mh:=by unfold El DM.bnd;rw [ea];dsimp only;rw [if_pos h]
    rw [e];exact vR h1 h2 h3 ho hb loc mh
   ·have:El ok f mo loc mh=none:=by unfold El DM.bnd;rw [ea];dsimp only;rw [if_neg h];rfl
    rw [this];exact Bc
  | _ =>
   have:El ok f mo loc mh=none:=by unfold El DM.bnd;rw [ea];rfl
   rw [this];exact Bc
theorem Xq {met:Str->Str->Option (List Str×Fn)}{mr:DM (List D)}{loc:Loc}{mh m1:MH}{c:Str}{ks:List Str}{ds:List D}{ps:List Str}{g:Fn}(ea:mo loc mh=some (.obj c ks ds,m1)) (hm:met c m=some (ps,g)):Ey met m mo mr loc mh=M8 c m g mo mr loc mh:=by
 unfold Ey M8 DM.bnd;rw [ea];dsimp only;rw [hm];dsimp only;cases hk:ks.contains m with
 | true=>rw [if_pos rfl,if_neg (by simp)]
 | false=>rw [if_neg (by simp),if_pos (by simp)]
theorem oX {k:Nat}{E:XK}{e:Expr}{es:List Expr}{mr:DM (List D)}{met:Str->Str->Option (List Str×Fn)}
  (hm:∀ c ps g,met c m=some (ps,g)->∃ C fa fd,PySem.W.nsIn X.K mainGlobals c=some (some (.ref C))/\Cls X.K C/\Meth X.K C m fa/\Binds X.K fd ps []/\FnOk X.prog X.w X.K X.mg X.base CX0 k fa fd ps (spD X.K ps.length g)/\∀ ds mh r,g ds mh=some r->ds.length=ps.length)
  (hr:Room k X.A) (hx:Cq CX0 X E) (ho:DE X o mo) (ha:DA X (e::es) mr) (hbase:attributeBase o m X.env (eval o X.env)=eval o X.env)
  (hfew:((backTo pos (starEach (e::es) X.env)).all (fun x=>!x.1)&&(backToKw pos (keywordEach [] X.env)).all (fun x=>x.1.isSome)&&decide ((e::es).length+([]:List Keyword).length+(if ([]:List Keyword).isEmpty then 0 else 1) < 30))=true)
  (hline:(apos.endLine==pos.line)=true) (hst:starEach (e::es) X.env=(false,eval e X.env)::starEach es X.env) (hpl:(backTo pos (starEach es X.env)).any (·.1)=false) :
  DE X (.Call (.Attribute o m apos) (e::es) [] pos) (Ey met m mo mr):=fun loc mh=>by
 cases ea:mo loc mh with
 | none =>
  have:Ey met m mo mr loc mh=none:=by unfold Ey DM.bnd;rw [ea]
  rw [this];exact Bc
 | some pr =>
  obtain ⟨x,m1⟩:=pr;cases x with
  | obj c ks ds =>
   cases em:met c m with
   | none =>
    have:Ey met m mo mr loc mh=none:=by unfold Ey DM.bnd;rw [ea];dsimp only;rw [em];rfl
    rw [this];exact Bc
   | some pg =>
    obtain ⟨ps,g⟩:=pg;obtain ⟨C,fa,fd,h1,h2,h3,h4,h5,h6⟩:=hm c ps g em;rw [Xq ea em];exact oR (E:=E) h1 h2 h3 h5 hr h4 hx ho ha h6 hbase hfew hline hst hpl loc mh
  | _ =>
   have:Ey met m mo mr loc mh=none:=by unfold Ey DM.bnd;rw [ea];rfl
   rw [this];exact Bc
theorem fD {k:Nat}{E:XK}{met:Str->Str->Option (List Str×Fn)}
  (hm:∀ c ps g,met c m=some (ps,g)->∃ C fa fd,PySem.W.nsIn X.K mainGlobals c=some (some (.ref C))/\Cls X.K C/\Meth X.K C m fa/\Binds X.K fd ps []/\FnOk X.prog X.w X.K X.mg X.base CX0 k fa fd ps (spD X.K ps.length g)/\∀ ds mh r,g ds mh=some r->ds.length=ps.length)
  (hr:Room k X.A) (hx:Cq CX0 X E) (ho:DE X o mo) (hbase:attributeBase o m X.env (eval o X.env)=eval o X.env) (hline:(apos.endLine==pos.line)=true) :
  DE X (.Call (.Attribute o m apos) [] [] pos) (Ey met m mo (Zr [])):=fun loc mh=>by
 cases ea:mo loc mh with
 | none =>
  have:Ey met m mo (Zr []) loc mh=none:=by unfold Ey DM.bnd;rw [ea]
  rw [this];exact Bc
 | some pr =>
  obtain ⟨x,m1⟩:=pr;cases x with
  | obj c ks ds =>
   cases em:met c m with
   | none =>
    have:Ey met m mo (Zr []) loc mh=none:=by unfold Ey DM.bnd;rw [ea];dsimp only;rw [em];rfl
    rw [this];exact Bc
   | some pg =>
    obtain ⟨ps,g⟩:=pg;obtain ⟨C,fa,fd,h1,h2,h3,h4,h5,h6⟩:=hm c ps g em;rw [Xq ea em];exact fB (E:=E) h1 h2 h3 h5 hr h4 hx ho h6 hbase hline loc mh
  | _ =>
   have:Ey met m mo (Zr []) loc mh=none:=by unfold Ey DM.bnd;rw [ea];rfl
   rw [this];exact Bc
end
section
variable {X:Cx}
noncomputable def vU:List D->Option (Int×Int)
 | [.int i,.int j]=>some (i,j)
 | _=>none
theorem Z2 {ds:List D}{z:Int×Int}(h:vU ds=some z):ds=[.int z.1,.int z.2]:=by
 match ds,h with
 | [d,e],h =>
  cases d with
  | int i =>
   cases e with
   | int j=>cases h;rfl
   | _=>cases h
  | _=>cases h
 | [],h=>cases h
 | [d],h=>cases d <;> cases h
 | d::e::_::_,h=>cases d <;> first | cases h | (cases e <;> cases h)
noncomputable def fG (f:Int->List Int->Int) (g:Fn):Fn:=fun ds mh=>match vU ds with
 | some z=>some (.int (f z.1 [z.2]),mh)
 | none=>g ds mh
theorem V5 {v:Value}{f:Int->List Int->Int}{g:Fn}(h2:Az X v (fun xs H Q=>∃ i j,xs=[.int i,.int j]/\Q (.int (f i [j])) H)) (hg:Az X v (rDs X.K g)):Az X v (rDs X.K (fG f g)):=by
 rintro pins s σ H xs us Q I r ⟨ρ,mh,ds,d,mh',q,rs,rd,co⟩;unfold fG at q;cases e:vU ds with
 | none=>rw [e] at q;exact hg pins s σ H xs us Q I r ⟨ρ,mh,ds,d,mh',q,rs,rd,co⟩
 | some z =>
  rw [e] at q;cases q;rw [Z2 e] at rd;obtain ⟨v1,v2,rfl,r1,r2⟩:=Acr rd;cases r1;cases r2;exact h2 pins s σ H _ us Q I r ⟨_,_,rfl,co H ρ _ Ev.refl rs (.int _)⟩
noncomputable def qX:Fn:=fG S8 minD
theorem V6 (hc:X.calm=true):Az X (.builtin "min") (rDs X.K qX):=V5 (Yn hc) (Zt hc)
end
section
variable {X:Cx}{tg:Expr}
end
section
variable {X:Cx}
end
section
variable {X:Cx}
end
section
variable {K:PySem.W.Frag}{H H':Hp}{ρ ρ':List Addr}
end
noncomputable def Ko (x:D) (mh:MH):Option (List (Key×D)):=match x with
 | .ref n=>(match mh[n]? with | some (.dct kvs)=>some kvs | _=>none)
 | _=>none
theorem V7 {x:D}{mh:MH}{kvs:List (Key×D)}(h:Ko x mh=some kvs):∃ n,x=.ref n/\mh[n]?=some (.dct kvs):=by
 cases x with
 | ref n =>
  have h:(match mh[n]? with | some (.dct kvs)=>some kvs | _=>none)=some kvs:=h;split at h
  ·rename_i e;cases h;exact ⟨n,rfl,e⟩
  ·cases h
 | _=>cases h
theorem Z3 {n:Nat}{mh:MH}{ds:List D}(h:mh[n]?=some (.lst ds)):Ko (.ref n) mh=none:=by
 show (match mh[n]? with | some (.dct kvs)=>some kvs | _=>none)=none;rw [h]
noncomputable def inD (neg:Bool) (x c:D) (mh:MH):Option (D×MH):=match Ko c mh with
 | none=>Yw neg x c mh
 | some _=>none
noncomputable def ixD (x y:D) (mh:MH):Option (D×MH):=match Ko x mh with
 | none=>cA x y mh
 | some _=>none
section
variable {X:Cx}
theorem vV (hu:X.A.units+64 < cLine):OpR X (compareOp .In) (rD X.K (inD false)):=by
 rintro pins s σ H x y v u Q I rx ry ⟨ρ,mh,dx,dy,d,mh',q,rs,r1,r2,co⟩;unfold inD at q;split at q
 ·exact mY hu pins s σ H x y v u Q I rx ry ⟨ρ,mh,dx,dy,d,mh',q,rs,r1,r2,co⟩
 ·cases q
theorem Z4 (hu:X.A.units+64 < cLine):OpR X (compareOp .NotIn) (rD X.K (inD true)):=by
 rintro pins s σ H x y v u Q I rx ry ⟨ρ,mh,dx,dy,d,mh',q,rs,r1,r2,co⟩;unfold inD at q;split at q
 ·exact Vf hu pins s σ H x y v u Q I rx ry ⟨ρ,mh,dx,dy,d,mh',q,rs,r1,r2,co⟩
 ·cases q
theorem Acv:IxR X (rD X.K ixD):=by
 rintro value slice pins s σ H x y v u Q I rx ry ⟨ρ,mh,dx,dy,d,mh',q,rs,r1,r2,co⟩ hs;unfold ixD at q;split at q
 ·exact Aav value slice pins s σ H x y v u Q I rx ry ⟨ρ,mh,dx,dy,d,mh',q,rs,r1,r2,co⟩ hs
 ·cases q
noncomputable def Acw:Const->Option Str
 | .str x=>some x
 | _=>none
noncomputable def Acx:Expr->Option Str
 | .Constant c _ _=>Acw c
 | _=>none
noncomputable def Acy:Option Expr->Option Str
 | some e=>Acx e
 | none=>none
noncomputable def qY:List (Option Expr)->List Expr->Bool
 | [],[]=>true
 | k::ks,_::vs=>(Acy k).isSome&&qY ks vs
 | _,_=>false
end
noncomputable def Z5:Option Str->Value->Bool
 | none,.none=>true
 | none,_=>false
 | some x,v=>Value.isStrOf x v
theorem Bu {k:Option Str}{v:Value}(h:Z5 k v=true):(k=none/\v=.none)\/∃ x t,k=some x/\v=.str x t:=by
 cases k with
 | none=>cases v <;> first | exact .inl ⟨rfl,rfl⟩ | cases h
 | some x=>obtain ⟨t,e⟩:=Value.isStrOf_shape (show Value.isStrOf x v=true from h);exact .inr ⟨x,t,rfl,e⟩
noncomputable def vW (w:World):Option Str->Int
 | none=>0xFCA86420
 | some x=>hashStr w x
theorem Z6 {P:Program}{w:World}{A:Around}{E:Value->Shared->Prop}{s:Shared}{Q:Int->Shared->Prop}(h:Q 0xFCA86420 { s with toks:=s.toks+1 }):wpAny (model P w) A (pyHash .none) Q E s:=by
 have hT:s.TypeIs Value.none "NoneType":=rfl
 unfold pyHash pyHashByItsType;have hv:[Value.none].any Value.onHeap=false:=rfl;refine wpAny_bind ?_;rw [cRoomFor,if_neg (by rw [hv];exact Bool.false_ne_true)];refine wpAny_pure ?_;refine wpAny_bind (wpAny_specialOf hT F.slot_NoneType_hash.lookup ?_)
 show wpAny _ _ (if (some (Value.builtin "NoneType.__hash__")==some Value.none)=true then _ else _) Q E s;rw [if_neg (by rw [beq_builtin_none];exact Bool.false_ne_true)];refine wpAny_bind (wpAny_specialOf hT F.slot_NoneType_hash.lookup ?_)
 show wpAny _ _ (callSpecialIfBoundUnlessNone? .none "__hash__" _ >>= _) Q E s
 refine wpAny_bind (wpAny_callSpecialIfBoundUnlessNone?_slot hT F.slot_NoneType_hash
  (wpAny_call_entry F.slot_NoneType_hash hT F.entry_NoneType_hash
   (show wpAny _ _ (do ret (← mkInt 0xFCA86420)) _ _ s from wpAny_ret_mkInt ?_) (F.args_NoneType_hash_1 _)))
 exact wpAny_pure h
theorem oY {P:Program}{w:World}{A:Around}{E:Value->Shared->Prop}{s:Shared}{Q:Bool->Shared->Prop}(h:Q true s):wpAny (model P w) A (eqBool .none .none) Q E s:=by
 unfold eqBool;refine wpAny_holding ?_;rw [if_pos (by rfl)];exact wpAny_bind (wpAny_rule (wpAny_pure h))
noncomputable def Jx (prog:Program) (w:World):PySem.KeyKind prog w (Option Str) where
 is:=Z5
 hash:=vW w
 inj:=fun v a b ha hb=>by
  rcases Bu ha with ⟨rfl,rfl⟩|⟨x,t,rfl,rfl⟩
  ·rcases Bu hb with ⟨rfl,e⟩|⟨y,u,rfl,e⟩
   ·rfl
   ·exact nomatch e
  ·rcases Bu hb with ⟨rfl,e⟩|⟨y,u,rfl,e⟩
   ·exact nomatch e
   ·injection e with e1 _;rw [e1]
 byValue:=fun k v h=>by
  rcases Bu h with ⟨rfl,rfl⟩ | ⟨x,t,rfl,rfl⟩ <;> rfl
 pyHash:=fun hv h=>by
  rcases Bu hv with ⟨rfl,rfl⟩|⟨x,t,rfl,rfl⟩
  ·exact Z6 h
  ·exact wpAny_pyHash_str h
 eqBool:=fun hu hv h=>by
  rcases Bu hu with ⟨rfl,rfl⟩|⟨x,t,rfl,rfl⟩
  ·rcases Bu hv with ⟨rfl,rfl⟩|⟨y,u,rfl,rfl⟩
   ·exact oY (by simpa using h)
   ·exact SeqAt.EqAt.none_str y u _ _ _ _ (by simpa using h)
  ·rcases Bu hv with ⟨rfl,rfl⟩|⟨y,u,rfl,rfl⟩
   ·exact SeqAt.EqAt.str_none x t _ _ _ _ (by simpa using h)
   ·exact wpAny_eqBool_str (by simpa using h)
 «strs»:=fun k x t v h=>by
  rcases Bu h with ⟨rfl,e⟩|⟨y,u,rfl,e⟩
  ·exact nomatch e
  ·injection e with e1 _
   subst e1;cases v <;> rfl
theorem Xr:∀ {w:World}{K:PySem.W.Frag}{es:List DictEntry}{kvs:List (Str×D)},DEnts w K es kvs->es.find? (fun e=>Z5 none e.key)=none
 | _,_,_,_,.nil=>rfl
 | _,_,_,_,.cons rv rd h=>by rw [List.find?_cons];exact Xr h
section
variable {X:Cx}{a:Addr}{kvs:List (Str×D)}
theorem DicOk.mapO {pins:List (Addr×Obj)}{σ:L2.St}{H:Hp}{s:Shared}(D:DicOk X.w X.K a kvs) (I:Inv X pins σ H s):∃ f,s.heap.MapOf (Jx X.prog X.w) a f/\f none=none/\(∃ o,s.heap.get? a=some o/\o.dict=none)/\∀ k,(∃ d u v,kvs.lookup k=some d/\f (some k)=some u/\RelV v u/\∀ H ρ,RD X.K H ρ d v)\/(kvs.lookup k=none/\f (some k)=none):=by
 obtain ⟨o,es,ep,h1,h2,h3,h4⟩:=D.ob;refine ⟨fun k=>match k with | none=>none | some k=>Dr es.toList k,⟨o,es,ep,I.kIn a o h1,h2,h3,fun e he=>?_,fun k=>?_⟩,rfl,⟨o,I.kIn a o h1,h2.2.1⟩,Ii h4⟩
 ·obtain ⟨k,e1,e2⟩:=M4 (P:=X.prog) h4 e (by simpa using he);exact ⟨some k,e1,e2⟩
 ·cases k with
  | none =>
   show (es.find? fun e=>Z5 none e.key).map (·.val)=none;rw [← Array.find?_toList,Xr h4];rfl
  | some k=>exact Kl es k
noncomputable def Aa4 (K:PySem.W.Frag) (a:Addr) (kvs:List (Str×D)):V->List V->Hp->VK->Prop:=fun x xs H Q=>x=.ref a /\
  ((∃ k,xs=[.str k]/\∀ v,(∃ d,kvs.lookup k=some d/\∀ H ρ,RD K H ρ d v)\/(kvs.lookup k=none/\v=.non)->Q v H)\/(xs=[.non]/\Q .non H) \/
   ∃ k z,xs=[.str k,z]/\∀ v,(∃ d,kvs.lookup k=some d/\∀ H ρ,RD K H ρ d v)\/(kvs.lookup k=none/\v=z)->Q v H)
theorem vX (D:DicOk X.w X.K a kvs):MtR X "dict.get" (Aa4 X.K a kvs):=by
 rintro pins s σ H x xs v us Q I rx rv ⟨rfl,q⟩;cases rx;obtain ⟨f,m,hn,_,hf⟩:=D.mapO I;rcases q with ⟨k,rfl,q⟩|⟨rfl,q⟩|⟨k,z,rfl,q⟩
 ·obtain ⟨u,rfl,ru⟩:=rv.one;obtain ⟨t,rfl⟩:=ru;refine call_meetsIn PySem.F.slot_dict_get m.typeIs PySem.F.entry_dict_get (PySem.F.args_dict_get_2 _ _) (meets_dict_get (Jx X.prog X.w) a (k:=some k) (by simp [Jx,Z5,Value.isStrOf]) D.ns) ⟨_,m,?_⟩;rcases hf k with ⟨d,u,v,h1,h2,h3,h4⟩|⟨h1,h2⟩
  ·rw [h2];exact ⟨v,H,I.tok _,h3,q v (.inl ⟨d,h1,h4⟩)⟩
  ·rw [h2];exact ⟨.non,H,I.tok _,rfl,q _ (.inr ⟨h1,rfl⟩)⟩
 ·obtain ⟨u,rfl,ru⟩:=rv.one;cases ru;refine call_meetsIn PySem.F.slot_dict_get m.typeIs PySem.F.entry_dict_get (PySem.F.args_dict_get_2 _ _) (meets_dict_get (Jx X.prog X.w) a (k:=none) rfl D.ns) ⟨_,m,?_⟩;rw [hn];exact ⟨.non,H,I.tok _,rfl,q⟩
 ·obtain ⟨u,w,rfl,ru,rz⟩:=rv.two;obtain ⟨t,rfl⟩:=ru;refine call_meetsIn PySem.F.slot_dict_get m.typeIs PySem.F.entry_dict_get (PySem.F.args_dict_get_3 _ _ _) (meets_dict_get_default (Jx X.prog X.w) a (k:=some k) (by simp [Jx,Z5,Value.isStrOf]) D.ns w) ⟨_,m,?_⟩;rcases hf k with ⟨d,u,v,h1,h2,h3,h4⟩|⟨h1,h2⟩
  ·rw [h2];exact ⟨v,H,I.tok _,h3,q v (.inl ⟨d,h1,h4⟩)⟩
  ·rw [h2];exact ⟨z,H,I.tok _,rz,q _ (.inr ⟨h1,rfl⟩)⟩
variable {e:Expr}{es:List Expr}{x:Str}{p apos cpos:Pos}
theorem oZ {id:String}{name:Str}{t:TA}{r:V->List V->Hp->VK->Prop}(D:DicOk X.w X.K a kvs) (hg:Gl X x) (hm:X.mg x=some (.ref a)) (hd:(x==("__debug__":Str))=false) (slot:Slot "dict" name id) (hty:typeOf (.builtin id)=pure (.type "method_descriptor")) (hr:MtR X id r) (ha:PA X (e::es) t)
  (hbase:attributeBase (.Name x p) name X.env (eval (.Name x p) X.env)=eval (.Name x p) X.env)
  (hfew:((backTo cpos (starEach (e::es) X.env)).all (fun x=>!x.1)&&(backToKw cpos (keywordEach [] X.env)).all (fun x=>x.1.isSome)
   && decide ((e::es).length+([]:List Keyword).length+(if ([]:List Keyword).isEmpty then 0 else 1) < 30))=true)
  (hline:(apos.endLine==cpos.line)=true) (hs:starEach (e::es) X.env=(false,eval e X.env)::starEach es X.env) (hplain:(backTo cpos (starEach es X.env)).any (·.1)=false) :
  PE X (.Call (.Attribute (.Name x p) name apos) (e::es) [] cpos) (fun σ H Q=>t σ H fun xs H2=>r (.ref a) xs H2 Q):=by
 intro pins s σ H Q I h;refine wpAny_Call_method_late hbase hfew hline rfl (thn (Fo (v:=.ref a) hg hm rfl hd pins s σ H (fun y H1=>y=.ref a/\t σ H1 fun xs H2=>r (.ref a) xs H2 Q) I ⟨rfl,h⟩) ?_);rintro v s1 ⟨x,H1,I1,r1,rfl,q1⟩;cases (show v=Value.ref a from r1);obtain ⟨f,m,hn,⟨o,ho1,ho2⟩,hf⟩:=D.mapO I1
 refine ⟨"dict",id,PySem.F.plainAttrs_dict,slot,hty,m.typeIs,fun b e=>by cases e;exact ⟨o,ho1,ho2⟩,?_⟩;have hA:=ha cpos pins s1 σ H1 _ I1 q1;rw [hs] at hA ⊢;refine Calls.callWith_builtin (by show (false || (backTo cpos (starEach es X.env)).any (·.1))=false;rw [hplain] <;> rfl) (Calls.evalArgs_plain ?_);refine thn hA ?_;rintro us s2 ⟨vs,H2,I2,r2,q2⟩;exact hr pins s2 σ H2 (.ref a) vs _ us Q I2 (show RelV (.ref a) (Value.ref a) from rfl) r2 q2
noncomputable def getOf (kvs:List (Str×D)):List D->Option D
 | [.str k]=>some ((kvs.lookup k).getD .non)
 | [.non]=>some .non
 | [.str k,z]=>some ((kvs.lookup k).getD z)
 | _=>none
noncomputable def Q9 (kvs:List (Str×D)) (mr:DM (List D)):DM D:=mr.bnd fun ds=>match getOf kvs ds with
 | some d=>Zr d
 | none=>Zb
theorem pA {H:Hp}{ρ:List Addr}{Q:VK}{ds:List D}{vs:List V}{d:D}(h:getOf kvs ds=some d) (r:RDs X.K H ρ ds vs) (q:∀ v,RD X.K H ρ d v->Q v H):Aa4 X.K a kvs (.ref a) vs H Q:=by
 refine ⟨rfl,?_⟩;unfold getOf at h;split at h
 ·rename_i k;cases h;obtain ⟨v,rfl,rv⟩:=Kw r;cases rv
  exact .inl ⟨k,rfl,fun v hv=>q v (by
   rcases hv with ⟨d,h1,h2⟩|⟨h1,rfl⟩
   ·rw [h1];exact h2 H ρ
   ·rw [h1];exact .non)⟩
 ·cases h;obtain ⟨v,rfl,rv⟩:=Kw r;cases rv;exact .inr (.inl ⟨rfl,q _ .non⟩)
 ·rename_i k z;cases h;cases r with
  | cons rv r2 =>
   cases rv;obtain ⟨w,rfl,rw⟩:=Kw r2
   exact .inr (.inr ⟨k,w,rfl,fun v hv=>q v (by
    rcases hv with ⟨d,h1,h2⟩|⟨h1,rfl⟩
    ·rw [h1];exact h2 H ρ
    ·rw [h1];exact rw)⟩)
 ·cases h
theorem Z7 {mr:DM (List D)}(D:DicOk X.w X.K a kvs) (hg:Gl X x) (hm:X.mg x=some (.ref a)) (hd:(x==("__debug__":Str))=false) (ha:DA X (e::es) mr)
  (hbase:attributeBase (.Name x p) "get" X.env (eval (.Name x p) X.env)=eval (.Name x p) X.env)
  (hfew:((backTo cpos (starEach (e::es) X.env)).all (fun x=>!x.1)&&(backToKw cpos (keywordEach [] X.env)).all (fun x=>x.1.isSome)
   && decide ((e::es).length+([]:List Keyword).length+(if ([]:List Keyword).isEmpty then 0 else 1) < 30))=true)
  (hline:(apos.endLine==cpos.line)=true) (hs:starEach (e::es) X.env=(false,eval e X.env)::starEach es X.env) (hplain:(backTo cpos (starEach es X.env)).any (·.1)=false) :
  DE X (.Call (.Attribute (.Name x p) "get" apos) (e::es) [] cpos) (Q9 kvs mr):=fun loc mh =>
 Ar (oZ D hg hm hd PySem.F.slot_dict_get PySem.F.type_dict_get (vX D) (ha loc mh) hbase hfew hline hs hplain) fun σ H Q ⟨ρ,d,mh',q,rl,rs,co⟩=>by
  obtain ⟨ds,m1,ea,q⟩:=Ac q;refine ⟨ρ,ds,m1,ea,rl,rs,fun H1 ρ1 vs e1 rs1 r1=>?_⟩;have q:(match getOf kvs ds with | some d=>Zr d | none=>Zb:DM DL.D) loc m1=some (d,mh'):=q;cases eg:getOf kvs ds with
  | some d' =>
   rw [eg] at q;cases q;exact pA eg r1 fun v rv=>co H1 ρ1 v e1 rs1 rv
  | none=>rw [eg] at q;cases q
end
section
variable {X:Cx}{pos pos':Pos}
end
section
variable {X:Cx}
end
section
variable {X:Cx}
end
theorem fH {X:Cx}:OpR X (binaryOp .FloorDiv) (rI (fun _ j=>j≠0/\j.natAbs < 10889035741470030830827987437816582766592) fun i j=>.int (i.fdiv j)):=opI fun _ j _ _ _ _ _ hc q=>floordiv_int hc.1 q (.inl (PyProof.noPylong_of_log2 (by
 have h:j.natAbs < 2 ^ 133:=hc.2
 by_cases h0:j.natAbs=0
 ·rw [h0];decide +kernel
 ·have h60:j.natAbs.log2 < 133:=(Nat.log2_lt h0).mpr h
  omega)))
structure SC where
 N:List Str
 scope:Scope
 own:Str->Bool
structure Gb where
 cal:Str->Option (List Str×Fn)
 con:Str->Option D
 dic:Str->Option (List (Str×D))
 fld:Str->Str->Bool
 met:Str->Str->Option (List Str×Fn)
 mkr:Str->Option Str
noncomputable def slot (N:List Str) (x:Str):Option Nat:=N.findIdx? (fun y=>y==x)
noncomputable def fJ (sc:Scope) (x:Str):Bool:=match sc.names.lookup x with
 | some .local=>true
 | some .cell=>true
 | some .free=>true
 | _=>false
noncomputable def Z8 (sc:Scope) (x:Str):Bool:=match sc.names.lookup x with
 | some .local=>true
 | some .cell=>true
 | _=>false
noncomputable def glB (sc:Scope) (x:Str):Bool:=match sc.names.lookup x with
 | some .globalImplicit=>true
 | _=>false
noncomputable def T5 (i j:Int):Bool:=decide (-(2 ^ 64) < i/\i < 2 ^ 64) || decide (-(2 ^ 64) < j/\j < 2 ^ 64)
theorem Aa5 {X:Cx}{f:Value->Value->Sem Value}:OpR X f (rD X.K fun _ _ _=>none):=by
 rintro _ _ _ _ _ _ _ _ _ _ _ _ ⟨_,_,_,_,_,_,e,_⟩;cases e
noncomputable def Aa6:Operator->Option (D->D->MH->Option (D×MH))
 | .Add=>some Cz
 | .Sub=>some (iop (fun _ _=>true) fun i j=>i - j)
 | .Mult=>some (iop T5 fun i j=>i * j)
 | .FloorDiv=>some (iop (fun _ j=>decide (j≠0)&&decide (j.natAbs < 10889035741470030830827987437816582766592)) fun i j=>i.fdiv j)
 | .Mod=>some (iop (fun _ j=>decide (j≠0)) fun i j=>i.fmod j)
 | .Pow=>some (iop (fun i j=>decide (0<=j)&&(decide (j<=1000000)&&decide (i.natAbs < 2 ^ 64))) fun i j=>i ^ j.toNat)
 | _=>none
noncomputable def Nb:CmpOp->(D->D->MH->Option (D×MH))
 | .Eq=>eqD
 | .NotEq=>neD
 | .Lt=>Qt fun i j=>decide (i < j)
 | .LtE=>Qt fun i j=>decide (i<=j)
 | .Gt=>Qt fun i j=>decide (j < i)
 | .GtE=>Qt fun i j=>decide (j<=i)
 | .Is=>fun _ _ _=>none
 | .IsNot=>isD true
 | .In=>inD false
 | .NotIn=>inD true
theorem pB {X:Cx}{op:Operator}{f:D->D->MH->Option (D×MH)}(h:Aa6 op=some f):OpR X (binaryOp op) (rD X.K f):=by
 cases op <;> (try cases h)
 ·exact mZ
 ·exact mX tB
 ·refine Lr tE fun i j h=>?_
  unfold T5 at h;rw [Bool.or_eq_true,decide_eq_true_iff,decide_eq_true_iff] at h;exact h
 ·exact Lr lN fun i j h=>of_decide_eq_true h
 ·refine Lr tH fun i j h=>?_
  rw [Bool.and_eq_true,Bool.and_eq_true,decide_eq_true_iff,decide_eq_true_iff,decide_eq_true_iff] at h;exact ⟨h.1,h.2.1,h.2.2⟩
 ·refine Lr fH fun i j h=>?_
  rw [Bool.and_eq_true,decide_eq_true_iff,decide_eq_true_iff] at h;exact ⟨h.1,h.2⟩
theorem Fg {X:Cx}(hu:X.A.units+64 < cLine) (op:CmpOp):OpR X (compareOp op) (rD X.K (Nb op)):=by
 cases op
 ·exact uU hu
 ·exact uV hu
 ·exact K7 zY
 ·exact K7 zZ
 ·exact K7 Aaa
 ·exact K7 Aab
 ·exact Aa5
 ·exact Yx
 ·exact vV hu
 ·exact Z4 hu
noncomputable def isStar:Expr->Bool
 | .Starred ..=>true
 | _=>false
noncomputable def isSet:Expr->Bool
 | .Set ..=>true
 | _=>false
noncomputable def G7:Expr->Bool
 | .ListComp ..=>true
 | .SetComp ..=>true
 | .DictComp ..=>true
 | _=>false
noncomputable def isSlice:Expr->Bool
 | .Slice ..=>true
 | _=>false
noncomputable def baseOk:Expr->Bool
 | .Call (.Name ..) [] [] _=>false
 | _=>true
noncomputable def tyOf (c:Str):Option String :=
 if c == "int" then some "int" else if c == "bool" then some "bool" else if c == "str" then some "str" else if c == "tuple" then some "tuple" else if c == "list" then some "list" else if c == "dict" then some "dict" else none
noncomputable def V8:Fn:=fun _ _=>none
noncomputable def T6 (_:D) (_:List D) (_:MH):Option (D×MH):=none
theorem G8 {X:Cx}{f:Value}:Az X f (rDs X.K V8):=by
 rintro _ _ _ _ _ _ _ _ _ ⟨_,_,_,_,_,e,_⟩;cases e
theorem Nf {X:Cx}{id:String}:MtR X id (rDM X.K T6):=by
 rintro _ _ _ _ _ _ _ _ _ _ _ _ ⟨_,_,_,_,_,_,e,_⟩;cases e
noncomputable def fK (x:Str):Option Fn:=if x=="len" then some Es else if x=="list" then some V8 else if x=="tuple" then some Ft else if x=="all" then some dW else if x=="any" then some V8 else if x=="max" then some V8 else if x=="min" then some qX else if x=="int" then some V8 else if x=="sorted" then some V8 else if x=="sum" then some V8 else none
noncomputable def Jy (m:Str) (n:Nat):Option (String×(D->List D->MH->Option (D×MH))) :=
 if m == "append"&&n==1 then some ("list",En) else if m == "bit_length"&&n==0 then some ("int",T6) else if m == "pop"&&n==1 then some ("list",Cj) else if m == "pop"&&n==0 then some ("list",T6) else if m == "extend"&&n==1 then some ("list",Bj) else if m == "index"&&n==1 then some ("tuple",T6) else none
noncomputable def Dw:Expr->Bool
 | .Tuple ..=>true
 | _=>false
noncomputable def setArg:Expr->List Expr->Option Expr
 | .Call (.Name g _) [b] [] _,[]=>if g == "set"&&!isStar b then some b else none
 | _,_=>none
noncomputable def V9:Expr->List Expr->Option Expr
 | .Call (.Name g _) [b] [] _,[]=>if g == "range"&&!isStar b then some b else none
 | _,_=>none
noncomputable def Wa:Expr->List Expr->Option (Expr×Expr)
 | .Call (.Name g _) [b,c] [] _,[]=>if g == "zip"&&!isStar b&&!isStar c then some (b,c) else none
 | _,_=>none
noncomputable def Xu (_:SC) (_:Expr) (_:CmpOp) (_:Expr):Option (Nat×Nat):=none
noncomputable def Cw (scope:Scope):List Str:=(scope.names.filter fun p=>(match p.2 with | .local=>true | .cell=>true | .free=>true | _=>false)).map (·.1)
noncomputable def Ng (N:List Str) (scope:Scope):List (Option Nat):=(Cw scope).map fun x=>match scope.names.lookup x with
 | some .free=>slot N x
 | _=>none
noncomputable def Jg (scope outer:Scope):Scope:={ scope with names:=scope.names.map fun (n,k)=>if (k==.free&&outer.kind==.function&&outer.names.lookup n==some .cell) then (n,.cell) else (n,k) }
noncomputable def Ra (scope:Scope) (sc:SC):SC:={ N:=Cw scope,scope:=Jg scope sc.scope,own:=fun x=>Z8 scope x }
noncomputable def La (scope:Scope) (sc:SC):Bool :=
 (match scope.kind with | .function=>true | _=>false)&&(decide ((scope.names.map (·.1)).Nodup) &&
  scope.names.all fun p=>(match p.2 with | .free=>(match sc.scope.names.lookup p.1 with | some .cell=>true | some .free=>true | _=>false) | _=>true))
noncomputable def Kp (G:Gb) (sc:SC):Expr->Option (List (Str×D))
 | .Name x _=>if glB sc.scope x&&!(x == "__debug__") then G.dic x else none
 | _=>none
noncomputable def Jz (G:Gb) (sc:SC) (op:CmpOp) (b:Expr):Option (Bool×List (Str×D)):=match op with
 | .In=>(match Kp G sc b with | some kvs=>some (false,kvs) | none=>none)
 | .NotIn=>(match Kp G sc b with | some kvs=>some (true,kvs) | none=>none)
 | _=>none
noncomputable def qZ (G:Gb) (f:Str):List Expr->Option Str
 | []=>G.mkr f
 | _=>none
noncomputable def iGn (sc:SC) (x:Str):Option Nat:=if Z8 sc.scope x&&sc.own x then slot sc.N x else none
noncomputable def iGs (sc:SC):List Expr->Option (List Nat)
 | []=>some []
 | .Name x _::r=>match iGn sc x with
  | some i=>match iGs sc r with
   | some is=>some (i::is)
   | none=>none
  | none=>none
 | _=>none
noncomputable def iG (sc:SC):Expr->Option (List Nat×GM)
 | .Name x _=>match iGn sc x with | some i=>some ([i],Bp i) | none=>none
 | .Tuple es _ _=>match iGs sc es with | some is=>some (is,R7 is) | none=>none
 | _=>none
noncomputable def vY:Option Str->Bool
 | some n=>n == "default"
 | none=>false
noncomputable def pC:Expr->Bool
 | .Constant .none _ _=>true
 | _=>false
noncomputable def Wb (k:Keyword):Bool:=vY k.arg&&pC k.value
theorem T7 {k:Keyword}(h:Wb k=true):∃ j cp kp,k=⟨some "default",.Constant .none j cp,kp⟩:=by
 obtain ⟨n,v,p⟩:=k;unfold Wb at h;rw [Bool.and_eq_true] at h;obtain ⟨h1,h2⟩:=h;cases n with
 | none=>cases h1
 | some n =>
  have e:n = "default":=eq_of_beq h1
  subst e;cases v with
  | Constant c j cp =>
   cases c with
   | none=>exact ⟨_,_,_,rfl⟩
   | _=>cases h2
  | _=>cases h2
noncomputable def iEb (E:SC->Expr->DM D) (T:SC->Expr->DM Bool) (A:SC->List Expr->DM (List D)) (F:SC->List Expr->DM Bool) (I:SC->Expr->Expr->DM Src) (G:Gb) (sc:SC) (e:Expr):DM D:=match e with
 | .Constant (.int i) _ _=>Zr (.int i)
 | .Constant (.bool b) _ _=>Zr (.bl b)
 | .Constant .none _ _=>Zr .non
 | .Constant (.str x) _ _=>Zr (.str x)
 | .Name x _=>if fJ sc.scope x&&!(x == "__debug__")&&!(x == "__classdict__") then (match slot sc.N x with
   | some i=>fun loc mh=>match loc[i]? with | some (some d)=>some (d,mh) | _=>none
   | none=>Zb) else if glB sc.scope x&&!(x == "__debug__") then (match G.con x with | some d=>Zr d | none=>Zb) else Zb
 | .BinOp a op b _=>(match Aa6 op with | some f=>dop f (E sc a) (E sc b) | none=>Zb)
 | .UnaryOp .USub a _=>(E sc a).bnd fun x=>Zl (Aay x)
 | .UnaryOp .Not a _=>(Ag (E sc a)).bnd fun c=>Zr (.bl (!c))
 | .BoolOp op [a] _=>E sc a
 | .BoolOp .And (a::b::r) p=>Gp (E sc a) (E sc (.BoolOp .And (b::r) p))
 | .BoolOp .Or (a::b::r) p=>bV (E sc a) (E sc (.BoolOp .Or (b::r) p))
 | .Compare a [op] [b] _=>(match Xu sc a op b with
  | some (i,j)=>dU (fun loc mh=>match loc[i]? with | some (some d)=>some (d,mh) | _=>none) (fun loc mh=>match loc[j]? with | some (some d)=>some (d,mh) | _=>none)
  | none=>match Jz G sc op b with
   | some (neg,kvs)=>Ht neg kvs (E sc a)
   | none=>if isSet b then Zb else dop (Nb op) (E sc a) (E sc b))
 | .Compare a [op,op'] [b,c] _=>if isSet c then Zb else Gr (Nb op) (Nb op') (E sc a) (E sc b) (E sc c)
 | .IfExp c a b _=>dIf (T sc c) (E sc a) (E sc b)
 | .Tuple es _ _=>(A sc es).bnd fun ds=>Zl (Oz ds)
 | .List es _=>(A sc es).bnd fun ds=>Zl (O1 ds)
 | .Dict ks vs _=>if qY ks vs&&!ks.isEmpty&&decide (ks.length<=15) then Zb else Zb
 | .Subscript a (.Slice lo hi none _) _=>dSl (E sc a) (match lo with | some e=>some (E sc e) | none=>none) (match hi with | some e=>some (E sc e) | none=>none)
 | .Subscript a b _=>if isSlice b then Zb else (match Kp G sc a with | some kvs=>Px kvs (E sc b) | none=>dop ixD (E sc a) (E sc b))
 | .Attribute o f _=>if baseOk o then El G.fld f (E sc o) else Zb
 | .Call (.Name f _) [] [] _=>if glB sc.scope f&&!(f == "__debug__") then (match G.cal f with | some ([],g)=>Zl (g []) | _=>Zb) else Zb
 | .Call (.Name f _) (a::es) [] _=>if fJ sc.scope f&&!(f == "__debug__")&&!(f == "__classdict__")&&!(isStar a)&&es.all (fun e=>!isStar e) then Zb else if glB sc.scope f&&!(f == "__debug__")&&!(f == "__name__")&&!(isStar a)&&es.all (fun e=>!isStar e) then
   (match G.cal f with
   | some (_,g)=>(A sc (a::es)).bnd fun ds=>Zl (g ds)
   | none=>match qZ G f es with
    | some fl=>(E sc a).bnd fun d=>Zr (.obj f [fl] [d])
    | none=>match setArg a es with
    | some b=>if glB sc.scope "set" then (if f == "len" then (E sc b).bnd (fun x=>Zl (Fz x)) else if f == "sorted" then (E sc b).bnd (fun x=>Zl (Bw x)) else Zb) else Zb
    | none=>match Wa a es with
    | some (b,c)=>if glB sc.scope "zip"&&f == "list" then Zb else if glB sc.scope "zip"&&f == "sorted" then (A sc [b,c]).bnd (fun ds=>Zl (Ff ds)) else Zb
    | none=>match V9 a es with
    | some b=>if glB sc.scope "range" then (if f == "list" then (E sc b).bnd (fun x=>Zl (Ds x)) else if f == "tuple" then (E sc b).bnd (fun x=>Zl (K8 x)) else Zb) else Zb
    | none=>if f == "isinstance" then (match es with
    | [.Name c _]=>if glB sc.scope c&&!(c == "__debug__")&&!(c == "__name__") then (match tyOf c with | some ty=>(E sc a).bnd fun x=>Zl (Sd ty x) | none=>Zb) else Zb
    | _=>Zb) else match fK f with
     | some g=>(A sc (a::es)).bnd fun ds=>Zl (g ds)
     | none=>Zb) else Zb
 | .Call (.Name f _) [a] (kw::ks) _=>if glB sc.scope f&&!(isStar a)&&Wb kw&&ks.isEmpty then (if f == "max" then Zb else if f == "min" then Zb else Zb) else Zb
 | .Call (.Attribute o m ap) [] [] p=>if baseOk o&&(ap.endLine==p.line) then (match Jy m 0 with | some (ty,f)=>Cu ty f (E sc o) (Zr []) | none=>Ey G.met m (E sc o) (Zr [])) else Zb
 | .Call (.Attribute o m ap) (a::es) [] p=>if baseOk o&&(ap.endLine==p.line)&&!(isStar a)&&es.all (fun e=>!isStar e)&&decide ((a::es).length < 20) then (if m == "get" then (match Kp G sc o with | some kvs=>Q9 kvs (A sc (a::es)) | none=>Zb) else if m == "count"&&es.isEmpty then Xo "tuple" T6 "list" T6 (E sc o) (A sc (a::es)) else if m == "index"&&es.isEmpty then Xo "tuple" T6 "list" T6 (E sc o) (A sc (a::es)) else (match Jy m (a::es).length with | some (ty,f)=>Cu ty f (E sc o) (A sc (a::es)) | none=>Ey G.met m (E sc o) (A sc (a::es)))) else Zb
 | .ListComp elt [⟨tg,iter,ifs,k⟩] scope _=>if k==0&&La scope sc&&!(isSet iter) then (match iG (Ra scope sc) tg with
   | some (ws,g)=>if ws.all (fun i=>match (Ng sc.N scope)[i]? with | some (some _)=>false | _=>true) then Dz (I sc tg iter) (Ng sc.N scope) g (F (Ra scope sc) ifs) (E (Ra scope sc) elt) else Zb
   | none=>Zb) else Zb
 | _=>Zb
noncomputable def iTb (E:SC->Expr->DM D) (T:SC->Expr->DM Bool) (A:SC->List Expr->DM (List D)) (F:SC->List Expr->DM Bool) (I:SC->Expr->Expr->DM Src) (G:Gb) (sc:SC) (e:Expr):DM Bool:=match e with
 | .UnaryOp .Not a _=>Fb (T sc a)
 | .BoolOp op [a] _=>T sc a
 | .BoolOp .And (a::b::r) p=>Lq (T sc a) (T sc (.BoolOp .And (b::r) p))
 | .BoolOp .Or (a::b::r) p=>Ip (T sc a) (T sc (.BoolOp .Or (b::r) p))
 | .BoolOp _ [] _=>Zb
 | .IfExp ..=>Zb
 | .Compare a [op] [b] _=>(match Jz G sc op b with
  | some (neg,kvs)=>Ag (Ht neg kvs (E sc a))
  | none=>if isSet b then Zb else Ag (dop (Nb op) (E sc a) (E sc b)))
 | .Compare a [op,op'] [b,c] _=>if isSet c then Zb else Ag (Gr (Nb op) (Nb op') (E sc a) (E sc b) (E sc c))
 | .Compare ..=>Zb
 | e=>Jr (E sc e)
noncomputable def iIb (E:SC->Expr->DM D) (T:SC->Expr->DM Bool) (A:SC->List Expr->DM (List D)) (F:SC->List Expr->DM Bool) (I:SC->Expr->Expr->DM Src) (G:Gb) (sc:SC) (tg e:Expr):DM Src:=match e with
 | .Call (.Name f p) [a] [] p'=>if f == "range"&&glB sc.scope f then (if isStar a then Zb else Oe Ky (A sc [a])) else if f == "enumerate"&&glB sc.scope f then (if isStar a || !(Dw tg) then Zb else Zb) else Gj (E sc (.Call (.Name f p) [a] [] p'))
 | .Call (.Name f p) [a,b] [] p'=>if f == "range"&&glB sc.scope f then (if isStar a || isStar b then Zb else Zb) else if f == "zip"&&glB sc.scope f then (if isStar a || isStar b || !(Dw tg) then Zb else Tj (A sc [a,b])) else Gj (E sc (.Call (.Name f p) [a,b] [] p'))
 | .Call (.Name f p) [a,b,c] [] p'=>if f == "range"&&glB sc.scope f then (if isStar a || isStar b || isStar c then Zb else Zb) else Gj (E sc (.Call (.Name f p) [a,b,c] [] p'))
 | e=>Gj (E sc e)
mutual
noncomputable def iE (G:Gb):Nat->SC->Expr->DM D
 | 0,_,_=>Zb
 | n+1,sc,e=>iEb (iE G n) (iT G n) (iA G n) (iF G n) (iI G n) G sc e
termination_by structural n=>n
noncomputable def iT (G:Gb):Nat->SC->Expr->DM Bool
 | 0,_,_=>Zb
 | n+1,sc,e=>iTb (iE G n) (iT G n) (iA G n) (iF G n) (iI G n) G sc e
termination_by structural n=>n
noncomputable def iA (G:Gb):Nat->SC->List Expr->DM (List D)
 | 0,_,_=>Zb
 | n+1,sc,es=>match es with
  | []=>Zr []
  | a::r=>if isStar a then Zb else Aa (iE G n sc a) (iA G n sc r)
termination_by structural n=>n
noncomputable def iF (G:Gb):Nat->SC->List Expr->DM Bool
 | 0,_,_=>Zb
 | n+1,sc,es=>match es with
  | []=>Zr true
  | [c]=>iT G n sc c
  | _=>Zb
termination_by structural n=>n
noncomputable def iI (G:Gb):Nat->SC->Expr->Expr->DM Src
 | 0,_,_,_=>Zb
 | n+1,sc,tg,e=>iIb (iE G n) (iT G n) (iA G n) (iF G n) (iI G n) G sc tg e
termination_by structural n=>n
end
noncomputable def Aa7 (sc:SC) (x:Str) (px:Pos) (y:Str) (py:Pos) (a b:Expr):Bool :=
 ((if sc.scope.kind.isAnnotationScope then ScopeKind.function else sc.scope.kind)==.function)&&(sc.scope.names.lookup x==some .local)&&(sc.scope.names.lookup y==some .local)&&(py.line==px.line)&&!(x==y)&&!isStar a&&!isStar b&&!([a,b].all (foldedForSure 8))&&!([a,b].all (constantsAlone 8))
noncomputable def Z9 (mr:DM (List D)) (i j:Nat):SM:=fun loc mh=>match mr loc mh with
 | some ([d,e],h)=>some (.nx,(loc.set i (some d)).set j (some e),h)
 | _=>none
noncomputable def iGt (G:Gb) (n:Nat) (sc:SC) (tg:Expr):Option GM:=match tg with
 | .Subscript o i _=>if isSlice i then none else some (Lx (iE G n sc o) (iE G n sc i))
 | tg=>match iG sc tg with | some (_,g)=>some g | none=>none
noncomputable def vZ (n:Nat) (G:Gb) (sc:SC) (tg v:Expr):SM:=match tg,v with
 | .Name y py,.ListComp elt gens scope vp=>(match iG sc (.Name y py) with | some (_,g)=>Bm (iE G n sc (.ListComp elt gens scope vp)) g | none=>SM.bad)
 | .Tuple [.Name x px,.Name y py] _ _,.Tuple [a,b] _ _=>if Aa7 sc x px y py a b then (match slot sc.N x,slot sc.N y with | some i,some j=>Z9 (iA G n sc [a,b]) i j | _,_=>SM.bad) else SM.bad
 | tg,v=>if G7 v || (Dw tg&&Dw v) then SM.bad else (match iGt G n sc tg with | some g=>Bm (iE G n sc v) g | none=>SM.bad)
noncomputable def iSb (n:Nat) (B:SC->List Stmt->SM) (G:Gb) (sc:SC) (s:Stmt):SM:=match s with
 | .Expr e _=>if G7 e then SM.bad else Ho (iE G n sc e)
 | .Pass _=>Zn
 | .Break _=>fun loc mh=>some (.bk,loc,mh)
 | .Continue _=>fun loc mh=>some (.ct,loc,mh)
 | .Return (some e) _=>retS (iE G n sc e)
 | .Return none _=>fun loc mh=>some (.rt .non,loc,mh)
 | .Assign [tg] v _=>vZ n G sc tg v
 | .If c a b _=>ifS (iT G n sc c) (B sc a) (B sc b)
 | .For tg it body [] _=>if isSet it then SM.bad else (match iG sc tg with | some (_,g)=>Qv (iI G n sc tg it) g (B sc body) | none=>SM.bad)
 | _=>SM.bad
mutual
noncomputable def iS (G:Gb):Nat->SC->Stmt->SM
 | 0,_,_=>SM.bad
 | n+1,sc,s=>iSb n (iSs G n) G sc s
termination_by structural n=>n
noncomputable def iSs (G:Gb):Nat->SC->List Stmt->SM
 | 0,_,_=>SM.bad
 | n+1,sc,ss=>match ss with
  | []=>Zn
  | s::r=>Ab (iS G n sc s) (iSs G n sc r)
termination_by structural n=>n
end
structure FnI where
 ps:List Str
 N:List Str
 scope:Scope
 body:List Stmt
noncomputable def Ak (G:Gb) (n:Nat) (f:FnI):Fn:=fun ds mh=>if ds.length=f.ps.length then (match iSs G n { N:=f.N,scope:=f.scope,own:=fun _=>true } f.body (ds.map some++List.replicate (f.N.length - ds.length) none) mh with
 | some (.rt d,_,mh')=>some (d,mh')
 | some (.nx,_,mh')=>some (.non,mh')
 | _=>none) else none
noncomputable def fuel:Nat:=60
structure Tb where
 tb:Str->Option FnI
 con:Str->Option D
 dic:Str->Option (List (Str×D))
 fld:Str->Str->Bool
 tbm:Str->Str->Option FnI
 mkr:Str->Option Str
noncomputable def GkN (T:Tb):Nat->Gb
 | 0=>{ cal:=fun _=>none,con:=T.con,dic:=T.dic,fld:=T.fld,met:=fun _ _=>none,mkr:=T.mkr }
 | k+1=>{ cal:=fun x=>(match T.tb x with | some I=>some (I.ps,Ak (GkN T k) fuel I) | none=>none),con:=T.con,dic:=T.dic,fld:=T.fld,met:=fun c m=>(match T.tbm c m with | some I=>some (I.ps,Ak (GkN T k) fuel I) | none=>none),mkr:=T.mkr }
noncomputable def Jh:List Str:=["len", "list", "tuple", "range", "isinstance", "int", "bool", "str", "dict", "set", "sorted", "all", "any", "max", "min", "enumerate", "zip", "sum"]
structure GOk (P:Program) (w:World) (K:PySem.W.Frag) (mg:Str->Option Value) (base:Heap) (k:Nat) (G:Gb):Prop where
 fn:∀ x ps f,G.cal x=some (ps,f)->∃ fa fd,mg x=some (.ref fa)/\PySem.W.keepIn K (.ref fa)=true/\Binds K fd ps []/\FnOk P w K mg base CX0 (k+2) fa fd ps (spD K ps.length f)/\∀ ds mh r,f ds mh=some r->ds.length=ps.length
 con:∀ x d,G.con x=some d->∃ u v,mg x=some u/\RelV v u/\∀ H ρ,RD K H ρ d v
 blt:∀ b∈Jh,mg b=none
 dic:∀ x kvs,G.dic x=some kvs->∃ a,mg x=some (.ref a)/\DicOk w K a kvs
 fld:∀ c f,G.fld c f=true->∃ C,PySem.W.nsIn K mainGlobals c=some (some (.ref C))/\Cls K C/\Ed K C f
 met:∀ c m ps g,G.met c m=some (ps,g)->∃ C fa fd,PySem.W.nsIn K mainGlobals c=some (some (.ref C))/\Cls K C/\Meth K C m fa/\Binds K fd ps []/\FnOk P w K mg base CX0 (k+2) fa fd ps (spD K ps.length g)/\∀ ds mh r,g ds mh=some r->ds.length=ps.length
 mkr:∀ c f,G.mkr c=some f->∃ C fa fd ps,PySem.W.nsIn K mainGlobals c=some (some (.ref C))/\Mk K C fa/\mg c=some (.ref C)/\Binds K fd ps []/\FnOk P w K mg base CX0 1 fa fd ps (spI C f)
structure XOk (X:Cx) (k:Nat) (G:Gb) (sc:SC):Prop where
 N:X.N=sc.N
 nd:sc.N.Nodup
 sco:X.env.scope=sc.scope
 own:∀ x,sc.own x=true->L2.Loc sc.scope x->X.fn x=true\/sc.scope.names.lookup x=some .local
 calm:X.calm=true
 xe:X.xe=fun _ _=>False
 room:Room (k+2) X.A
 g:GOk X.prog X.w X.K X.mg X.base k G
theorem Ec {N:List Str}{x:Str}{i:Nat}(h:slot N x=some i):N[i]?=some x:=by
 unfold slot at h;obtain ⟨hl,hp,_⟩:=List.findIdx?_eq_some_iff_getElem.mp h;rw [List.getElem?_eq_getElem hl];exact congrArg some (eq_of_beq hp)
theorem pD {sc:Scope}{x:Str}(h:fJ sc x=true):Vis sc x:=by
 unfold fJ at h;split at h
 ·exact .inl (by assumption)
 ·exact .inr (.inl (by assumption))
 ·exact .inr (.inr (by assumption))
 ·cases h
theorem Rb {sc:Scope}{x:Str}(h:Z8 sc x=true):L2.Loc sc x:=by
 unfold Z8 at h;split at h
 ·exact .inl (by assumption)
 ·exact .inr (by assumption)
 ·cases h
theorem wA {sc:Scope}{x:Str}(h:glB sc x=true):sc.names.lookup x=some .globalImplicit:=by
 unfold glB at h;split at h
 ·assumption
 ·cases h
section
variable {X:Cx}{k:Nat}{G:Gb}{sc:SC}
theorem XOk.gl (O:XOk X k G sc) {x:Str}(h:glB sc.scope x=true):Gl X x:=by
 show X.env.scope.names.lookup x=_;rw [O.sco];exact wA h
theorem XOk.vis (O:XOk X k G sc) {x:Str}(h:fJ sc.scope x=true):Vis X.env.scope x:=by rw [O.sco];exact pD h
theorem XOk.units (O:XOk X k G sc):X.A.units+64 < cLine:=O.room.units
theorem Bf {a:Expr}{es:List Expr}{env:Env}(h:isStar a=false):starEach (a::es) env=(false,eval a env)::starEach es env:=by
 cases a <;> first | rfl | cases h
theorem Ax {pos:Pos}{env:Env}:∀ {es:List Expr},(es.all fun e=>!isStar e)=true->(backTo pos (starEach es env)).any (·.1)=false
 | [],_=>rfl
 | a::r,h=>by
  rw [List.all_cons,Bool.and_eq_true] at h;have h1:isStar a=false:=by simpa using h.1
  rw [Bf h1];show (false || (backTo pos (starEach r env)).any (·.1))=false;rw [Ax h.2];rfl
theorem Rc {pos:Pos}{env:Env}:∀ {es:List Expr},(es.all fun e=>!isStar e)=true->(backTo pos (starEach es env)).all (fun x=>!x.1)=true
 | [],_=>rfl
 | a::r,h=>by
  rw [List.all_cons,Bool.and_eq_true] at h;have h1:isStar a=false:=by simpa using h.1
  rw [Bf h1];show (true&&(backTo pos (starEach r env)).all (fun x=>!x.1))=true;rw [Rc h.2];rfl
theorem Ca {o:Expr}{name:Str}{env:Env}{w:Sem Value}(h:baseOk o=true):attributeBase o name env w=w:=by
 cases o <;> try rfl
 rename_i f as kw p;cases f <;> try rfl
 cases as <;> try rfl
 cases kw <;> try rfl
 cases h
theorem Wc {e:Expr}{env:Env}(h:isSet e=false):∀ x,foldedSetIterable e env x=pure x:=by
 intro x;cases e <;> first | rfl | cases h
theorem Ji {op:CmpOp}{e:Expr}(h:isSet e=false):behindInMarks op e=false:=by
 cases e <;> first | rfl | cases h
theorem rA {b:Expr}(h:isSlice b=false):K5 b:=by
 intro o i;cases b <;> first | rfl | cases h
theorem Nh (O:XOk X k G sc) (scope:Scope):relabel scope X.env=Jg scope sc.scope:=by
 unfold relabel Jg Env.kindOf;rw [O.sco]
theorem J0 (O:XOk X k G sc) {scope:Scope}(h:La scope sc=true):CompOk X scope:=by
 unfold La at h;rw [Bool.and_eq_true,Bool.and_eq_true] at h;obtain ⟨h1,h2,h3⟩:=h;refine ⟨?_,of_decide_eq_true h2,fun p hp e=>?_⟩
 ·split at h1
  ·assumption
  ·cases h1
 ·have:=List.all_eq_true.mp h3 p hp;rw [e] at this;show X.env.scope.names.lookup p.1=_\/X.env.scope.names.lookup p.1=_;rw [O.sco];dsimp only at this;split at this
  ·exact .inl (by assumption)
  ·exact .inr (by assumption)
  ·cases this
theorem Rf {scope:Scope}(h:(scope.names.map (·.1)).Nodup):(Cw scope).Nodup:=by
 unfold Cw;exact h.sublist ((List.filter_sublist).map _)
theorem T8 (O:XOk X k G sc) (scope:Scope):CapOk X (Cw scope) scope (Ng sc.N scope):=by
 refine ⟨by unfold Ng;rw [List.length_map],fun i x j e1 e2=>?_⟩;unfold Ng at e2;rw [List.getElem?_map,e1] at e2;simp only [Option.map_some,Option.some.injEq] at e2;split at e2
 ·rename_i hl;exact ⟨hl,by rw [O.N];exact Ec e2⟩
 ·cases e2
theorem XOk.comp (O:XOk X k G sc) {scope:Scope}(h:La scope sc=true) (pins:List (Addr×Obj)) (C:Addr) (cells:List (Str×Addr)) (s₀:Shared) (H₀:Hp) (fp:List Addr) :
  XOk (Br X pins (Cw scope) scope C cells s₀ H₀ fp) k G (Ra scope sc):=by
 have S:=J0 O h;refine ⟨rfl,Rf S.nd,Nh O scope,fun x hx hl=>?_,O.calm,rfl,O.room,O.g⟩;have hx:Z8 scope x=true:=hx;rcases Rb hx with q|q
 ·right;show (Jg scope sc.scope).names.lookup x=_;rw [← Nh O scope,Ei,q];rfl
 ·left;exact decide_eq_true (PySem.mem_of_lookup q)
theorem T9 {x:Str}{i:Nat}(h:iGn sc x=some i):Z8 sc.scope x=true/\sc.own x=true/\slot sc.N x=some i:=by
 unfold iGn at h;split at h
 ·rename_i hc;rw [Bool.and_eq_true] at hc;exact ⟨hc.1,hc.2,h⟩
 ·cases h
theorem XOk.name (O:XOk X k G sc) {x:Str}{i:Nat}{pos:Pos}(h:iGn sc x=some i):PG X (.Name x pos) (aR i):=by
 obtain ⟨h1,h2,h3⟩:=T9 h;have hl:=Rb h1;refine Wz (by rw [O.N];exact O.nd) (by rw [O.N];exact Ec h3) (by rw [O.sco];exact hl) ?_;rw [O.sco];exact O.own x h2 hl
theorem XOk.names (O:XOk X k G sc) {es:List Expr}{is:List Nat}(h:iGs sc es=some is):PGs X es (gNs is)/\(assignEach es X.env).length=is.length/\(assignEach es X.env).findIdx? (·.1)=none:=by
 induction es generalizing is with
 | nil=>cases h;exact ⟨lJ,rfl,rfl⟩
 | cons e r ih =>
  cases e with
  | Name x p =>
   simp only [iGs] at h;split at h
   ·rename_i i ei;split at h
    ·rename_i js ej;cases h;obtain ⟨h1,h2,h3⟩:=ih ej;refine ⟨aU (O.name ei) h1 rfl,?_,?_⟩
     ·show (assignEach r X.env).length+1=js.length+1;rw [h2]
     ·show List.findIdx? (fun x=>x.1) ((false,assign (.Name x p) X.env)::assignEach r X.env)=none;rw [List.findIdx?_cons];simp only [Bool.false_eq_true,if_false,h3];rfl
    ·cases h
   ·cases h
  | _=>cases h
theorem XOk.target (O:XOk X k G sc) {tg:Expr}{ws:List Nat}{g:GM}(h:iG sc tg=some (ws,g)):DG X tg ws g:=by
 cases tg with
 | Name x p =>
  simp only [iG] at h;split at h
  ·rename_i i ei;cases h;obtain ⟨h1,h2,h3⟩:=T9 ei;have hl:=Rb h1;refine nM (by rw [O.N];exact O.nd) (by rw [O.N];exact Ec h3) (by rw [O.sco];exact hl) ?_;rw [O.sco];exact O.own x h2 hl
  ·cases h
 | Tuple es kk p =>
  simp only [iG] at h;split at h
  ·rename_i is ei;cases h;obtain ⟨h1,h2,h3⟩:=O.names ei;exact uZ O.calm h1 h2 h3
  ·cases h
 | _=>cases h
end
structure SndE (G:Gb) (n:Nat):Prop where
 e:∀ {X:Cx} {k:Nat} {sc:SC},XOk X k G sc->∀ e,DE X e (iE G n sc e)
 t:∀ {X:Cx} {k:Nat} {sc:SC},XOk X k G sc->∀ e,DT X e (iT G n sc e)
 a:∀ {X:Cx} {k:Nat} {sc:SC},XOk X k G sc->∀ es,DA X es (iA G n sc es)
 f:∀ {X:Cx} {k:Nat} {sc:SC},XOk X k G sc->∀ es,DIf X es (iF G n sc es)
 i:∀ {X:Cx} {k:Nat} {sc:SC},XOk X k G sc->∀ tg e,DI X tg e (iI G n sc tg e)
theorem Xv {X:Cx}{es:List Expr}:DIf X es Zb:=fun pins s σ H Q I ⟨loc,mh,ρ,b,mh',q,_⟩=>by cases q
theorem Ge {X:Cx}{tg e:Expr}:DI X tg e Zb:=fun loc mh=>Dq
theorem pF {c:Str}{T:String}(h:tyOf c=some T):T∈["bool", "int", "str", "tuple", "list", "dict"]/\bootBuiltins c=some (.type T)/\c∈Jh:=by
 unfold tyOf at h;split at h
 ·rename_i e;cases h;rw [eq_of_beq e];exact ⟨by decide,boot_int,by decide +kernel⟩
 ·split at h
  ·rename_i e;cases h;rw [eq_of_beq e];exact ⟨by decide,boot_bool,by decide +kernel⟩
  ·split at h
   ·rename_i e;cases h;rw [eq_of_beq e];exact ⟨by decide,boot_str,by decide +kernel⟩
   ·split at h
    ·rename_i e;cases h;rw [eq_of_beq e];exact ⟨by decide,by decide +kernel,by decide +kernel⟩
    ·split at h
     ·rename_i e;cases h;rw [eq_of_beq e];exact ⟨by decide,by decide +kernel,by decide +kernel⟩
     ·split at h
      ·rename_i e;cases h;rw [eq_of_beq e];exact ⟨by decide,by decide +kernel,by decide +kernel⟩
      ·cases h
theorem Gf {X:Cx}{k:Nat}{G:Gb}{sc:SC}(O:XOk X k G sc) {e:Expr}{kvs:List (Str×D)}(h:Kp G sc e=some kvs):∃ x p a,e=.Name x p/\Gl X x/\(x==("__debug__":Str))=false/\X.mg x=some (.ref a)/\DicOk X.w X.K a kvs:=by
 cases e with
 | Name x p =>
  simp only [Kp] at h;split at h
  ·rename_i hc;rw [Bool.and_eq_true] at hc;obtain ⟨a,h1,h2⟩:=O.g.dic _ _ h;exact ⟨x,p,a,rfl,O.gl hc.1,by simpa using hc.2,h1,h2⟩
  ·cases h
 | _=>cases h
theorem Kq {G:Gb}{sc:SC}{op:CmpOp}{b:Expr}{neg:Bool}{kvs:List (Str×D)}(h:Jz G sc op b=some (neg,kvs)):Kp G sc b=some kvs/\((op=.In/\neg=false)\/(op=.NotIn/\neg=true)):=by
 cases op <;> first | cases h;done | skip
 all_goals
  simp only [Jz] at h;split at h
  ·rename_i q;cases h;exact ⟨q,by simp⟩
  ·cases h
theorem fL {X:Cx}{k:Nat}{G:Gb}{sc:SC}(O:XOk X k G sc) {op:CmpOp}{a b:Expr}{neg:Bool}{kvs:List (Str×D)}{ma:DM D}{p:Pos}(h:Jz G sc op b=some (neg,kvs)) (ha:DE X a ma):DE X (.Compare a [op] [b] p) (Ht neg kvs ma):=by
 obtain ⟨h0,h1⟩:=Kq h;obtain ⟨x,p',ad,rfl,g1,g2,g3,g4⟩:=Gf O h0;rcases h1 with ⟨rfl,rfl⟩|⟨rfl,rfl⟩
 ·exact eU g4 g1 g3 g2 ha
 ·exact Tw g4 g1 g3 g2 ha
theorem fM {X:Cx}{k:Nat}{G:Gb}{sc:SC}(O:XOk X k G sc) {op:CmpOp}{a b:Expr}{neg:Bool}{kvs:List (Str×D)}{ma:DM D}{p:Pos}(h:Jz G sc op b=some (neg,kvs)) (ha:DE X a ma):DT X (.Compare a [op] [b] p) (Ag (Ht neg kvs ma)):=by
 obtain ⟨h0,h1⟩:=Kq h;obtain ⟨x,p',ad,rfl,g1,g2,g3,g4⟩:=Gf O h0;rcases h1 with ⟨rfl,rfl⟩|⟨rfl,rfl⟩
 ·exact eV g4 g1 g3 g2 ha
 ·exact Tz g4 g1 g3 g2 ha
theorem Wd {G:Gb}{f fl:Str}{es:List Expr}(h:qZ G f es=some fl):es=[]/\G.mkr f=some fl:=by
 cases es with
 | nil=>exact ⟨rfl,h⟩
 | cons a r=>cases h
theorem J1 {X:Cx}{a:Expr}{es:List Expr}{p:Pos}(hs:isStar a=false) (hr:(es.all fun e=>!isStar e)=true) (hk:(a::es).length < 20):((backTo p (starEach (a::es) X.env)).all (fun x=>!x.1)&&(backToKw p (keywordEach [] X.env)).all (fun x=>x.1.isSome)&&decide ((a::es).length+([]:List Keyword).length+(if ([]:List Keyword).isEmpty then 0 else 1) < 30))=true:=by
 rw [Rc (by rw [List.all_cons,hs,hr];rfl)];have:decide ((a::es).length+([]:List Keyword).length+(if ([]:List Keyword).isEmpty then 0 else 1) < 30)=true:=decide_eq_true (by simp;simp at hk;omega);rw [this];rfl
theorem fO {X:Cx}{k:Nat}{G:Gb}{sc:SC}(O:XOk X k G sc) {f:Str}{g:Fn}{p pos:Pos}{a:Expr}{es:List Expr}{mr:DM (List D)}(h:fK f=some g) (hg:glB sc.scope f=true) (ha:DA X (a::es) mr) (hn:f ≠ "__name__") (hd:(f==("__debug__":Str))=false) (hs:isStar a=false) (hr:(es.all fun e=>!isStar e)=true) :
  DE X (.Call (.Name f p) (a::es) [] pos) (mr.bnd fun ds=>Zl (g ds)):=by
 unfold fK at h;split at h
 ·rename_i e;cases h;rw [eq_of_beq e] at hg hn hd ⊢;exact Ej Yz (O.gl hg) (O.g.blt _ (by decide +kernel)) PySem.boot_len ha hn hd (Bf hs) (Ax hr)
 ·split at h
  ·rename_i e;cases h;rw [eq_of_beq e] at hg hn hd ⊢;exact Js (G8 (f:=.type "list")) (O.gl hg) (O.g.blt _ (by decide +kernel)) (by decide +kernel) ha hn hd (Bf hs) (Ax hr)
  ·split at h
   ·rename_i e;cases h;rw [eq_of_beq e] at hg hn hd ⊢;exact Js R5 (O.gl hg) (O.g.blt _ (by decide +kernel)) (by decide +kernel) ha hn hd (Bf hs) (Ax hr)
   ·split at h
    ·rename_i e;cases h;rw [eq_of_beq e] at hg hn hd ⊢;exact Ej (Zq O.calm) (O.gl hg) (O.g.blt _ (by decide +kernel)) (by decide +kernel) ha hn hd (Bf hs) (Ax hr)
    ·split at h
     ·rename_i e;cases h;rw [eq_of_beq e] at hg hn hd ⊢;exact Ej (G8 (f:=.builtin "any")) (O.gl hg) (O.g.blt _ (by decide +kernel)) (by decide +kernel) ha hn hd (Bf hs) (Ax hr)
     ·split at h
      ·rename_i e;cases h;rw [eq_of_beq e] at hg hn hd ⊢;exact Ej (G8 (f:=.builtin "max")) (O.gl hg) (O.g.blt _ (by decide +kernel)) (by decide +kernel) ha hn hd (Bf hs) (Ax hr)
      ·split at h
       ·rename_i e;cases h;rw [eq_of_beq e] at hg hn hd ⊢;exact Ej (V6 O.calm) (O.gl hg) (O.g.blt _ (by decide +kernel)) (by decide +kernel) ha hn hd (Bf hs) (Ax hr)
       ·split at h
        ·rename_i e;cases h;rw [eq_of_beq e] at hg hn hd ⊢;exact Js (G8 (f:=.type "int")) (O.gl hg) (O.g.blt _ (by decide +kernel)) (by decide +kernel) ha hn hd (Bf hs) (Ax hr)
        ·split at h
         ·rename_i e;cases h;rw [eq_of_beq e] at hg hn hd ⊢;exact Ej (G8 (f:=.builtin "sorted")) (O.gl hg) (O.g.blt _ (by decide +kernel)) (by decide +kernel) ha hn hd (Bf hs) (Ax hr)
         ·split at h
          ·rename_i e;cases h;rw [eq_of_beq e] at hg hn hd ⊢;exact Ej (G8 (f:=.builtin "sum")) (O.gl hg) (O.g.blt _ (by decide +kernel)) (by decide +kernel) ha hn hd (Bf hs) (Ax hr)
          ·cases h
theorem Wf {X:Cx}{m:Str}{T:String}{f:D->List D->MH->Option (D×MH)}{o:Expr}{mo:DM D}{ap p:Pos}(h:Jy m 0=some (T,f)) (ho:DE X o mo) (hb:baseOk o=true) (hl:(ap.endLine==p.line)=true):DE X (.Call (.Attribute o m ap) [] [] p) (Cu T f mo (Zr [])):=by
 unfold Jy at h;split at h
 ·rename_i e;rw [Bool.and_eq_true] at e;exact absurd e.2 (by decide)
 ·split at h
  ·rename_i e;rw [Bool.and_eq_true] at e;cases h;rw [eq_of_beq e.1];exact cO PySem.F.plainAttrs_int PySem.F.slot_int_bit_length PySem.F.type_int_bit_length Nf ho (Ca hb) hl
  ·split at h
   ·rename_i e;rw [Bool.and_eq_true] at e;exact absurd e.2 (by decide)
   ·split at h
    ·rename_i e;rw [Bool.and_eq_true] at e;cases h;rw [eq_of_beq e.1];exact cO PySem.F.plainAttrs_list PySem.F.slot_list_pop PySem.F.type_list_pop Nf ho (Ca hb) hl
    ·split at h
     ·rename_i e;rw [Bool.and_eq_true] at e;exact absurd e.2 (by decide)
     ·split at h
      ·rename_i e;rw [Bool.and_eq_true] at e;exact absurd e.2 (by decide)
      ·cases h
theorem aA {X:Cx}{m:Str}{T:String}{f:D->List D->MH->Option (D×MH)}{o a:Expr}{es:List Expr}{mo:DM D}{mr:DM (List D)}{ap p:Pos}(h:Jy m (a::es).length=some (T,f)) (ho:DE X o mo) (ha:DA X (a::es) mr) (hb:baseOk o=true) (hl:(ap.endLine==p.line)=true) (hs:isStar a=false) (hr:(es.all fun e=>!isStar e)=true) (hk:(a::es).length < 20) :
  DE X (.Call (.Attribute o m ap) (a::es) [] p) (Cu T f mo mr):=by
 have few:((backTo p (starEach (a::es) X.env)).all (fun x=>!x.1)&&(backToKw p (keywordEach [] X.env)).all (fun x=>x.1.isSome)&&decide ((a::es).length+([]:List Keyword).length+(if ([]:List Keyword).isEmpty then 0 else 1) < 30))=true:=by
  rw [Rc (by rw [List.all_cons,hs,hr];rfl)];have:decide ((a::es).length+([]:List Keyword).length+(if ([]:List Keyword).isEmpty then 0 else 1) < 30)=true:=decide_eq_true (by simp;simp at hk;omega);rw [this];rfl
 unfold Jy at h;split at h
 ·rename_i e;rw [Bool.and_eq_true] at e;cases h;rw [eq_of_beq e.1];exact Kc PySem.F.plainAttrs_list PySem.F.slot_list_append PySem.F.type_list_append Vj ho ha (Ca hb) few hl (Bf hs) (Ax hr)
 ·split at h
  ·rename_i e;rw [Bool.and_eq_true] at e;exact absurd (eq_of_beq e.2) (by simp)
  ·split at h
   ·rename_i e;rw [Bool.and_eq_true] at e;cases h;rw [eq_of_beq e.1];exact Kc PySem.F.plainAttrs_list PySem.F.slot_list_pop PySem.F.type_list_pop Zu ho ha (Ca hb) few hl (Bf hs) (Ax hr)
   ·split at h
    ·rename_i e;rw [Bool.and_eq_true] at e;exact absurd (eq_of_beq e.2) (by simp)
    ·split at h
     ·rename_i e;rw [Bool.and_eq_true] at e;cases h;rw [eq_of_beq e.1];exact Kc PySem.F.plainAttrs_list PySem.F.slot_list_extend PySem.F.type_list_extend Vw ho ha (Ca hb) few hl (Bf hs) (Ax hr)
     ·split at h
      ·rename_i e;rw [Bool.and_eq_true] at e;cases h;rw [eq_of_beq e.1];exact Kc PySem.F.plainAttrs_tuple PySem.F.slot_tuple_index PySem.F.type_tuple_index Nf ho ha (Ca hb) few hl (Bf hs) (Ax hr)
      ·cases h
theorem Ua {a:Expr}{es:List Expr}{b:Expr}(h:V9 a es=some b):es=[]/\isStar b=false/\∃ p q,a=.Call (.Name "range" p) [b] [] q:=by
 unfold V9 at h;split at h
 ·rename_i g p b' q;split at h
  ·rename_i hc;rw [Bool.and_eq_true] at hc;cases h;exact ⟨rfl,by simpa using hc.2,p,q,by rw [eq_of_beq hc.1]⟩
  ·cases h
 ·cases h
theorem Ub {a:Expr}{es:List Expr}{b c:Expr}(h:Wa a es=some (b,c)):es=[]/\isStar b=false/\isStar c=false/\∃ p q,a=.Call (.Name "zip" p) [b,c] [] q:=by
 unfold Wa at h;split at h
 ·rename_i g p b' c' q;split at h
  ·rename_i hc;simp only [Bool.and_eq_true] at hc;cases h;exact ⟨rfl,by simpa using hc.1.2,by simpa using hc.2,p,q,by rw [eq_of_beq hc.1.1]⟩
  ·cases h
 ·cases h
theorem Uc {a:Expr}{es:List Expr}{b:Expr}(h:setArg a es=some b):es=[]/\isStar b=false/\∃ p q,a=.Call (.Name "set" p) [b] [] q:=by
 unfold setArg at h;split at h
 ·rename_i g p b' q;split at h
  ·rename_i hc;rw [Bool.and_eq_true] at hc;cases h;exact ⟨rfl,by simpa using hc.2,p,q,by rw [eq_of_beq hc.1]⟩
  ·cases h
 ·cases h
theorem Wg {X:Cx}{k:Nat}{G:Gb}{sc:SC}(O:XOk X k G sc) {a b:Expr}{op:CmpOp}{i j:Nat}{pos:Pos}(h:Xu sc a op b=some (i,j)) :
  DE X (.Compare a [op] [b] pos) (dU (fun loc mh=>match loc[i]? with | some (some d)=>some (d,mh) | _=>none) (fun loc mh=>match loc[j]? with | some (some d)=>some (d,mh) | _=>none)):=by cases h
theorem fP (G:Gb):SndE G 0:=⟨fun _ _=>Ah,fun _ _=>Du,fun _ _=>bT,fun _ _=>Xv,fun _ _ _=>Ge⟩
theorem Aa8 {G:Gb}{n:Nat}(S:SndE G n) {X:Cx}{k:Nat}{sc:SC}(O:XOk X k G sc) (es:List Expr):DA X es (iA G (n+1) sc es):=by
 cases es with
 | nil=>exact uQ
 | cons a r =>
  show DA X (a::r) (if isStar a then Zb else Aa (iE G n sc a) (iA G n sc r));split
  ·exact bT
  ·rename_i h;exact mW (S.e O a) (S.a O r) (Bf (by simpa using h))
theorem Aa9 {G:Gb}{n:Nat}(S:SndE G n) {X:Cx}{k:Nat}{sc:SC}(O:XOk X k G sc) (es:List Expr):DIf X es (iF G (n+1) sc es):=by
 cases es with
 | nil=>exact nP
 | cons a r =>
  cases r with
  | nil=>exact nQ (S.t O a)
  | cons b r=>exact Xv
theorem Aba {G:Gb}{n:Nat}(S:SndE G n) {X:Cx}{k:Nat}{sc:SC}(O:XOk X k G sc) (tg e:Expr):DI X tg e (iIb (iE G n) (iT G n) (iA G n) (iF G n) (iI G n) G sc tg e):=by
 cases e with
 | Call ff args kws p' =>
  cases ff with
  | Name f p =>
   cases args with
   | nil=>exact Et (S.e O _)
   | cons a r =>
    cases r with
    | nil =>
     cases kws with
     | nil =>
      delta iIb
      dsimp only;split
      ·rename_i h;rw [Bool.and_eq_true] at h;split
       ·exact Ge
       ·rename_i hs;have hs:isStar a=false:=by simpa using hs
        have e:=eq_of_beq h.1;subst e;exact Y5 (O.gl h.2) (O.g.blt _ (by decide +kernel)) (S.a O [a]) (Bf hs)
      ·split
       ·rename_i h;rw [Bool.and_eq_true] at h;split
        ·exact Ge
        ·rename_i hs;have hs:isStar a=false/\Dw tg=true:=by simpa using hs
         have e:=eq_of_beq h.1;subst e;cases tg with
         | Tuple es kk tp=>exact Ge
         | _=>cases hs.2
       ·exact Et (S.e O _)
     | cons _ _=>exact Et (S.e O _)
    | cons b r =>
     cases r with
     | nil =>
      cases kws with
      | nil =>
       delta iIb
       dsimp only;split
       ·rename_i h;rw [Bool.and_eq_true] at h;split
        ·exact Ge
        ·rename_i hs;have hs:isStar a=false/\isStar b=false:=by simpa using hs
         have e:=eq_of_beq h.1;subst e;exact Ge
       ·split
        ·rename_i h;rw [Bool.and_eq_true] at h;split
         ·exact Ge
         ·rename_i hs;have hs:(isStar a=false/\isStar b=false)/\Dw tg=true:=by simpa using hs
          have e:=eq_of_beq h.1;subst e;cases tg with
          | Tuple elts kk tp=>exact vN (O.gl h.2) (O.g.blt _ (by decide +kernel)) (S.a O [a,b]) (Bf hs.1.1) (Ax (by simp [hs.1.2]))
          | _=>cases hs.2
        ·exact Et (S.e O _)
      | cons _ _=>exact Et (S.e O _)
     | cons c r =>
      cases r with
      | cons _ _=>exact Et (S.e O _)
      | nil =>
       cases kws with
       | cons _ _=>exact Et (S.e O _)
       | nil =>
        delta iIb
        dsimp only;split
        ·rename_i h;rw [Bool.and_eq_true] at h;split
         ·exact Ge
         ·rename_i hs;have hs:(isStar a=false/\isStar b=false)/\isStar c=false:=by simpa using hs
          have e:=eq_of_beq h.1;subst e;exact Ge
        ·exact Et (S.e O _)
  | _=>exact Et (S.e O _)
 | _=>exact Et (S.e O _)
theorem rB {X:Cx}{op:BoolOp}{vs:List Expr}{p:Pos}{m:DM Bool}(h:DT X (.BoolOp op vs p) m):DW X (.BoolOp op vs p) m:=fun loc mh wh pins s σ H Q I q=>h loc mh pins s σ H Q I q
theorem Abb {G:Gb}{n:Nat}(S:SndE G n) {X:Cx}{k:Nat}{sc:SC}(O:XOk X k G sc) (e:Expr):DT X e (iTb (iE G n) (iT G n) (iA G n) (iF G n) (iI G n) G sc e):=by
 cases e with
 | UnaryOp op a p =>
  cases op with
  | Not=>exact uM (S.t O _)
  | _=>exact R3 (S.e O _) fun _=>rfl
 | BoolOp op vs p =>
  cases vs with
  | nil=>cases op <;> exact Du
  | cons a r =>
   cases r with
   | nil =>
    cases op
    ·exact (mU (S.t O a)).dt
    ·exact (uK (S.t O a)).dt
   | cons b r =>
    cases op
    ·exact (uL (S.t O _) (rB (S.t O _))).dt
    ·exact (Aas (S.t O _) (rB (S.t O _))).dt
 | IfExp c a b p=>exact Du
 | Compare a ops cs p =>
  cases ops with
  | nil=>exact Du
  | cons op ops =>
   cases ops with
   | nil =>
    cases cs with
    | nil=>exact Du
    | cons b cs =>
     cases cs with
     | cons _ _=>exact Du
     | nil =>
      delta iTb
      dsimp only;split
      ·rename_i neg kvs hd;exact fM O hd (S.e O _)
      ·split
       ·exact Du
       ·rename_i h;exact uJ (Fg O.units _) (Ji (by simpa using h)) (S.e O _) (S.e O _)
   | cons op' ops =>
    cases ops with
    | cons _ _=>exact Du
    | nil =>
     cases cs with
     | nil=>exact Du
     | cons b cs =>
      cases cs with
      | nil=>exact Du
      | cons c cs =>
       cases cs with
       | cons _ _=>exact Du
       | nil =>
        delta iTb
        dsimp only;split
        ·exact Du
        ·rename_i h;exact cM (Fg O.units _) (Fg O.units _) (by show behindInMarks _ _=false;exact Ji (by simpa using h)) (S.e O _) (S.e O _) (S.e O _)
 | _=>exact R3 (S.e O _) fun _=>rfl
theorem Abd {G:Gb}{n:Nat}(S:SndE G n) {X:Cx}{k:Nat}{sc:SC}(O:XOk X k G sc) (e:Expr):DE X e (iEb (iE G n) (iT G n) (iA G n) (iF G n) (iI G n) G sc e):=by
 cases e with
 | Constant c _ _ =>
  cases c with
  | int i=>exact mQ rN fun _ _ _=>.int _
  | bool b=>exact mQ zG fun _ _ _=>.bl _
  | none=>exact mQ rO fun _ _ _=>.non
  | str x=>exact mQ rP fun _ _ _=>.str _
  | _=>exact Ah
 | Name x p =>
  delta iEb
  dsimp only;split
  ·rename_i h;rw [Bool.and_eq_true,Bool.and_eq_true] at h;obtain ⟨⟨h1,h2⟩,h3⟩:=h;split
   ·rename_i i ei;exact uH (by rw [O.N];exact Ec ei) (O.vis h1) (by simpa using h2) (by simpa using h3)
   ·exact Ah
  ·split
   ·rename_i h;rw [Bool.and_eq_true] at h;split
    ·rename_i d ed;obtain ⟨u,v,h1,h2,h3⟩:=O.g.con _ _ ed;exact fun loc mh=>Ar (Fo (O.gl h.1) h1 h2 (by simpa using h.2)) fun σ H Q ⟨ρ,d',mh',q,rl,rs,co⟩=>by
      cases q;exact co H ρ v Ev.refl rs (h3 H ρ)
    ·exact Ah
   ·exact Ah
 | BinOp a op b _ =>
  delta iEb
  dsimp only;split
  ·rename_i f ef;exact Aap (pB ef) (S.e O _) (S.e O _)
  ·exact Ah
 | UnaryOp op a _ =>
  cases op with
  | USub=>exact Aar nU (S.e O _)
  | Not=>exact uP (S.e O _)
  | _=>exact Ah
 | BoolOp op vs _ =>
  cases vs with
  | nil=>cases op <;> exact Ah
  | cons a r =>
   cases r with
   | nil=>cases op <;> exact uN (S.e O _)
   | cons b r =>
    cases op
    ·exact uO (S.e O _) (S.e O _)
    ·exact Aau (S.e O _) (S.e O _)
 | Compare a ops cs _ =>
  cases ops with
  | nil=>exact Ah
  | cons op ops =>
   cases ops with
   | nil =>
    cases cs with
    | nil=>exact Ah
    | cons b cs =>
     cases cs with
     | cons _ _=>exact Ah
     | nil =>
      delta iEb
      dsimp only;split
      ·rename_i i j hp;exact Wg O hp
      ·split
       ·rename_i neg kvs hd;exact fL O hd (S.e O _)
       ·split
        ·exact Ah
        ·rename_i h;exact uI (Fg O.units _) (Ji (by simpa using h)) (S.e O _) (S.e O _)
   | cons op' ops =>
    cases ops with
    | cons _ _=>exact Ah
    | nil =>
     cases cs with
     | nil=>exact Ah
     | cons b cs =>
      cases cs with
      | nil=>exact Ah
      | cons c cs =>
       cases cs with
       | cons _ _=>exact Ah
       | nil =>
        delta iEb
        dsimp only;split
        ·exact Ah
        ·rename_i h;exact cL (Fg O.units _) (Fg O.units _) (by show behindInMarks _ _=false;exact Ji (by simpa using h)) (S.e O _) (S.e O _) (S.e O _)
 | IfExp c a b _=>exact Aat (S.t O _) (S.e O _) (S.e O _)
 | Tuple es _ _=>exact uR (S.a O _)
 | List es _=>exact uT (S.a O _)
 | Dict ks vs p =>
  delta iEb
  dsimp only;split
  ·rename_i h;rw [Bool.and_eq_true,Bool.and_eq_true] at h;exact Ah
  ·exact Ah
 | Subscript a b _ =>
  have gen:DE X (.Subscript a b ‹_›) (if isSlice b then Zb else (match Kp G sc a with | some kvs=>Px kvs (iE G n sc b) | none=>dop ixD (iE G n sc a) (iE G n sc b))):=by
   split
   ·exact Ah
   ·rename_i h;split
    ·rename_i kvs hd;obtain ⟨x,p,a,rfl,h1,h2,h3,h4⟩:=Gf O hd;exact eX h4 h1 h3 h2 (S.e O _) (rA (by simpa using h))
    ·exact Aaq Acv (rA (by simpa using h)) (S.e O _) (S.e O _)
  cases b with
  | Slice lo hi st _ =>
   cases st with
   | none =>
    refine cC (S.e O _) ?_ ?_
    ·cases lo with
     | none=>trivial
     | some e=>exact S.e O e
    ·cases hi with
     | none=>trivial
     | some e=>exact S.e O e
   | some s=>exact gen
  | _=>exact gen
 | Attribute o f _ =>
  delta iEb
  dsimp only;split
  ·rename_i h;exact oW (fun c hc=>O.g.fld c _ hc) (S.e O _) (Ca h)
  ·exact Ah
 | Call ff args kws p' =>
  cases ff with
  | Name f p =>
   cases kws with
   | cons kw ks =>
    cases args with
    | nil=>exact Ah
    | cons a es =>
     cases es with
     | cons _ _=>exact Ah
     | nil =>
      delta iEb
      dsimp only;split
      ·rename_i h;simp only [Bool.and_eq_true] at h;obtain ⟨⟨⟨h1,h4⟩,h5⟩,h6⟩:=h;have h4:isStar a=false:=by simpa using h4
       have h6:ks=[]:=by simpa using h6
       subst h6;obtain ⟨j,cp,kp,rfl⟩:=T7 h5;split
       ·rename_i hf;have e:=eq_of_beq hf;subst e;exact Ah
       ·split
        ·rename_i hf;have e:=eq_of_beq hf;subst e;exact Ah
        ·exact Ah
      ·exact Ah
   | nil =>
    cases args with
    | nil =>
     delta iEb
     dsimp only;split
     ·rename_i h;rw [Bool.and_eq_true] at h;split
      ·rename_i g eg;obtain ⟨fa,fd,h1,h2,h3,h4,h5⟩:=O.g.fn _ _ _ eg;exact cI (E:=E0) h4 O.room (O.gl h.1) h1 h2 h3 Rw (by simpa using h.2)
      ·exact Ah
     ·exact Ah
    | cons a es =>
     delta iEb
     dsimp only;split
     ·rename_i h;simp only [Bool.and_eq_true] at h;obtain ⟨⟨⟨⟨h1,h2⟩,h3⟩,h4⟩,h5⟩:=h;have h4:isStar a=false:=by simpa using h4
      exact Ah
     split
     ·rename_i h;simp only [Bool.and_eq_true] at h;obtain ⟨⟨⟨⟨h1,h2⟩,h3⟩,h4⟩,h5⟩:=h
      have h2:(f==("__debug__":Str))=false:=by simpa using h2
      have h3:f ≠ "__name__":=by simpa using h3
      have h4:isStar a=false:=by simpa using h4
      split
      ·rename_i ps g eg;obtain ⟨fa,fd,g1,g2,g3,g4,g5⟩:=O.g.fn _ _ _ eg;exact nT (E:=E0) g4 O.room (O.gl h1) g1 g2 g3 Rw (S.a O _) g5 h2 (Bf h4) (Ax h5)
      ·split
       ·rename_i fl hb;obtain ⟨rfl,hb⟩:=Wd hb;obtain ⟨C,fa,fd,ps,g1,g2,g3,g4,g5⟩:=O.g.mkr _ _ hb;exact oU (E:=E0) g1 g2 g5 (O.room.mono (by omega)) (O.gl h1) g3 g4 Rw (S.e O a) h2 (Bf h4)
       split
       ·rename_i b hb;obtain ⟨rfl,hsb,p2,q2,rfl⟩:=Uc hb;split
        ·rename_i hs;split
         ·rename_i hf;have e:=eq_of_beq hf;subst e;exact Zm O.calm (O.gl h1) (O.g.blt _ (by decide +kernel)) (O.gl hs) (O.g.blt _ (by decide +kernel)) (S.e O b) (Bf hsb)
         ·split
          ·rename_i hf;have e:=eq_of_beq hf;subst e;exact Ti O.calm O.units (O.gl h1) (O.g.blt _ (by decide +kernel)) (O.gl hs) (O.g.blt _ (by decide +kernel)) (S.e O b) (Bf hsb)
          ·exact Ah
        ·exact Ah
       ·split
        ·rename_i b c hb;obtain ⟨rfl,hsb,hsc,p2,q2,rfl⟩:=Ub hb;split
         ·rename_i hs;rw [Bool.and_eq_true] at hs;have e:=eq_of_beq hs.2;subst e;exact Ah
         ·split
          ·rename_i hs;rw [Bool.and_eq_true] at hs;have e:=eq_of_beq hs.2;subst e;exact V3 O.calm (O.gl h1) (O.g.blt _ (by decide +kernel)) (O.gl hs.1) (O.g.blt _ (by decide +kernel)) (S.a O [b,c]) (Bf hsb) (Ax (by simp [hsc]))
          ·exact Ah
        ·split
         ·rename_i b hb;obtain ⟨rfl,hsb,p2,q2,rfl⟩:=Ua hb;split
          ·rename_i hs;split
           ·rename_i hf;have e:=eq_of_beq hf;subst e;exact Vx O.calm (O.gl h1) (O.g.blt _ (by decide +kernel)) (O.gl hs) (O.g.blt _ (by decide +kernel)) (S.e O b) (Bf hsb)
           ·split
            ·rename_i hf;have e:=eq_of_beq hf;subst e;exact Zw O.calm (O.gl h1) (O.g.blt _ (by decide +kernel)) (O.gl hs) (O.g.blt _ (by decide +kernel)) (S.e O b) (Bf hsb)
            ·exact Ah
          ·exact Ah
         ·split
          ·rename_i hf;split
           ·rename_i c pc;split
            ·rename_i hc;simp only [Bool.and_eq_true] at hc;obtain ⟨⟨c1,c2⟩,c3⟩:=hc;split
             ·rename_i T eT;obtain ⟨t1,t2,t3⟩:=pF eT;have e:=eq_of_beq hf;subst e;exact vD t1 (O.gl h1) (O.g.blt _ (by decide +kernel)) (O.gl c1) (O.g.blt _ t3) t2 (by simpa using c3) (by simpa using c2) (S.e O a) (Bf h4)
             ·exact Ah
            ·exact Ah
           ·exact Ah
          ·split
           ·rename_i g eg;exact fO O eg h1 (S.a O _) h3 h2 h4 h5
           ·exact Ah
     ·exact Ah
  | Attribute o m ap =>
   cases kws with
   | cons _ _=>cases args <;> exact Ah
   | nil =>
    cases args with
    | nil =>
     delta iEb
     dsimp only;split
     ·rename_i h;rw [Bool.and_eq_true] at h;split
      ·rename_i T f eT;exact Wf eT (S.e O _) h.1 h.2
      ·exact fD (E:=E0) (fun c ps g hg=>O.g.met c _ ps g hg) O.room Rw (S.e O _) (Ca h.1) h.2
     ·exact Ah
    | cons a es =>
     delta iEb
     dsimp only;split
     ·rename_i h;simp only [Bool.and_eq_true] at h;obtain ⟨⟨⟨⟨h1,h2⟩,h3⟩,h4⟩,h5⟩:=h;split
      ·rename_i hm;have em:=eq_of_beq hm;subst em;rw [Bool.not_eq_true'] at h3;split
       ·rename_i kvs hd;obtain ⟨x,p',ad,rfl,g1,g2,g3,g4⟩:=Gf O hd;exact Z7 g4 g1 g3 g2 (S.a O _) (Ca h1) (J1 h3 h4 (of_decide_eq_true h5)) h2 (Bf h3) (Ax h4)
       ·exact Ah
      split
      ·rename_i hm;rw [Bool.and_eq_true] at hm;have em:=eq_of_beq hm.1;subst em;rw [Bool.not_eq_true'] at h3;exact Tr (Kc PySem.F.plainAttrs_tuple PySem.F.slot_tuple_count PySem.F.type_tuple_count Nf (S.e O _) (S.a O _) (Ca h1) (J1 h3 h4 (of_decide_eq_true h5)) h2 (Bf h3) (Ax h4))
        (Kc PySem.F.plainAttrs_list PySem.F.slot_list_count PySem.F.type_list_count Nf (S.e O _) (S.a O _) (Ca h1) (J1 h3 h4 (of_decide_eq_true h5)) h2 (Bf h3) (Ax h4))
      split
      ·rename_i hm;rw [Bool.and_eq_true] at hm;have em:=eq_of_beq hm.1;subst em;rw [Bool.not_eq_true'] at h3;exact Tr (Kc PySem.F.plainAttrs_tuple PySem.F.slot_tuple_index PySem.F.type_tuple_index Nf (S.e O _) (S.a O _) (Ca h1) (J1 h3 h4 (of_decide_eq_true h5)) h2 (Bf h3) (Ax h4))
        (Kc PySem.F.plainAttrs_list PySem.F.slot_list_index PySem.F.type_list_index Nf (S.e O _) (S.a O _) (Ca h1) (J1 h3 h4 (of_decide_eq_true h5)) h2 (Bf h3) (Ax h4))
      split
      ·rename_i T f eT;exact aA eT (S.e O _) (S.a O _) h1 h2 (by simpa using h3) h4 (of_decide_eq_true h5)
      ·rw [Bool.not_eq_true'] at h3;exact oX (E:=E0) (fun c ps g hg=>O.g.met c _ ps g hg) O.room Rw (S.e O _) (S.a O _) (Ca h1) (J1 h3 h4 (of_decide_eq_true h5)) h2 (Bf h3) (Ax h4)
     ·exact Ah
  | _=>cases args <;> exact Ah
 | ListComp elt gens scope p =>
  cases gens with
  | nil=>exact Ah
  | cons g gens =>
   obtain ⟨tg,iter,ifs,kk⟩:=g;cases gens with
   | cons _ _=>exact Ah
   | nil =>
    delta iEb
    dsimp only;split
    ·rename_i h;simp only [Bool.and_eq_true] at h;obtain ⟨⟨h1,h2⟩,h3⟩:=h;have e:=eq_of_beq h1;subst e;split
     ·rename_i ws g eg;split
      ·rename_i hw;refine nR (N':=Cw scope) O.calm (J0 O h2) (T8 O scope) (fun i hi j q=>?_) (S.i O tg iter) (fun p C c s h f=>(O.comp h2 p C c s h f).target eg) (fun p C c s h f=>S.f (O.comp h2 p C c s h f) ifs) (fun p C c s h f=>S.e (O.comp h2 p C c s h f) elt) (Wc (by simpa using h3));have z:=List.all_eq_true.mp hw i hi;rw [q] at z;cases z
      ·exact Ah
     ·exact Ah
    ·exact Ah
 | _=>exact Ah
theorem snd (G:Gb):∀ n,SndE G n
 | 0=>fP G
 | n+1=>⟨fun O=>Abd (snd G n) O,fun O=>Abb (snd G n) O,fun O=>Aa8 (snd G n) O,fun O=>Aa9 (snd G n) O,fun O=>Aba (snd G n) O⟩
section
variable {K:PySem.W.Frag}{H:Hp}{ρ:List Addr}
end
section
variable {P:Program}{w:World}{H:Hp}{h h2:Heap}{pl c a:Addr}{tb more:Array Value}{oc ob:Obj}{fs:List Addr}
end
section
variable {X:Cx}
end
theorem Ud {K:PySem.W.Frag}{H:Hp}{ρ:List Addr}{N:List Str}{ds:List D}{vs:List V}(r:RDs K H ρ ds vs):RL K H ρ (ds.map some++List.replicate (N.length - ds.length) none) (L2.start N vs):=by
 have hl:=r.length;unfold L2.start;refine ⟨by simp [hl],fun i d e=>?_⟩
 by_cases hi:i < ds.length
 ·rw [List.getElem?_append_left (by simpa using hi),List.getElem?_map] at e;cases q:ds[i]? with
  | none=>rw [q] at e;cases e
  | some d' =>
   rw [q] at e;cases e;obtain ⟨v,e1,r1⟩:=r.get q;exact ⟨v,by rw [List.getElem?_append_left (by simp;omega),List.getElem?_map,e1];rfl,r1⟩
 ·rw [List.getElem?_append_right (by simpa using hi),List.getElem?_replicate] at e;split at e <;> cases e
theorem G9 {X:Cx}{st:Stmt}{g:GM}:DS X st (Bm Zb g):=fun _ _ _ _ _ _ h=>by obtain ⟨_,_,_,_,_,_,e,_⟩:=h;cases e
theorem Wh {G:Gb}{X:Cx}{k:Nat}{sc:SC}(O:XOk X k G sc) (n:Nat) {y:Str}{py vp spos:Pos}{elt:Expr}{gens:List Comprehension}{scope:Scope}{ws:List Nat}{gy:GM}(hgy:iG sc (.Name y py)=some (ws,gy)) :
  DS X (.Assign [.Name y py] (.ListComp elt gens scope vp) spos) (Bm (iE G n sc (.ListComp elt gens scope vp)) gy):=by
 have hg:=O.target hgy;have sw:swapsWith (.ListComp elt gens scope vp) (some (.Name y py)) spos.line X.env=pure (X.env.blockKind==.function&&X.env.kindOf y==some .local&&py.line==vp.line&&!(scope.names.any fun (n,k)=>n==y&&(k==.local || k==.cell))):=rfl;cases hb:(X.env.blockKind==.function&&X.env.kindOf y==some .local&&py.line==vp.line&&!(scope.names.any fun (n,k)=>n==y&&(k==.local || k==.cell))) with
 | false =>
  rw [hb] at sw;exact Vh ((snd G n).e O _) hg sw rfl rfl
 | true =>
  rw [hb] at sw;cases n with
  | zero=>exact G9
  | succ n =>
   show DS X _ (Bm (iEb (iE G n) (iT G n) (iA G n) (iF G n) (iI G n) G sc _) gy)
   match gens with
   | []=>exact G9
   | ⟨_,_,_,_⟩::_::_=>exact G9
   | [⟨tg,iter,ifs,kk⟩] =>
    delta iEb
    dsimp only;split
    ·rename_i h;simp only [Bool.and_eq_true] at h;obtain ⟨⟨h1,h2⟩,h3⟩:=h;have e:=eq_of_beq h1;subst e;split
     ·rename_i ws g eg;split
      ·rename_i hw;refine Vi (N':=Cw scope) O.calm (J0 O h2) (T8 O scope) (fun i hi j q=>?_) ((snd G n).i O tg iter) (fun p C c s h f=>(O.comp h2 p C c s h f).target eg) (fun p C c s h f=>(snd G n).f (O.comp h2 p C c s h f) ifs) (fun p C c s h f=>(snd G n).e (O.comp h2 p C c s h f) elt) hg sw (Wc (by simpa using h3));have z:=List.all_eq_true.mp hw i hi;rw [q] at z;cases z
      ·exact G9
     ·exact G9
    ·exact G9
theorem Ue {v tg:Expr}{line:Nat}{env:Env}(h:G7 v=false):swapsWithSole [tg] v line env=pure false:=by
 show swapsWith v (some tg) line env=pure false;cases v <;> first | rfl | cases h
theorem aB {v:Expr}{line:Nat}{env:Env}(h:G7 v=false):swapsWith v none line env=pure false:=by
 cases v <;> first | rfl | cases h
theorem Kr {v tg:Expr}{env:Env}(h:(Dw tg&&Dw v)=false) (hl:∀ es p,tg≠.List es p):swappedStores [tg] v env=pure none:=by
 cases tg with
 | Tuple ts kk p =>
  cases v with
  | Tuple vs k2 p2=>cases h
  | _=>rfl
 | List es p=>exact (hl es p rfl).elim
 | _=>first | rfl | (cases v <;> rfl)
theorem wB {x y:Str}{a b:Expr}{px py pt pt2:Pos}{kt k2:Nat}{env:Env}(hb:(env.blockKind==.function)=true) (hx:(env.kindOf x==some .local)=true) (hy:(env.kindOf y==some .local)=true) (hl:(py.line==px.line)=true) (hne:(x==y)=false) (sa:isStar a=false) (sb:isStar b=false)
  (hf:[a,b].all (foldedForSure 8)=false) (hc:[a,b].all (constantsAlone 8)=false):swappedStores [.Tuple [.Name x px,.Name y py] kt pt] (.Tuple [a,b] k2 pt2) env=pure (some [x,y]):=by
 have he:([x,y].eraseDups.length != [x,y].length)=false:=by
  have:(y==x)=false:=by
   cases q:(y==x) with
   | false=>rfl
   | true=>rw [eq_of_beq q] at hne;simp at hne
  simp [List.eraseDups_cons,this,hne]
 have hbk:(env.blockKind != .function)=false:=by rw [bne,hb];rfl
 have e1:(Option.map (fun e:Expr=>e.pos.line) [Expr.Name x px,Expr.Name y py].head?).getD 0=px.line:=rfl;unfold swappedStores;dsimp only;refine (if_neg ?_).trans ?_
 ·simp [hbk]
 refine (if_neg ?_).trans ?_
 ·simp only [List.any_cons,List.any_nil,Bool.or_false];rw [Bool.not_eq_true,Bool.or_eq_false_iff];constructor
  ·cases a <;> first | rfl | cases sa
  ·cases b <;> first | rfl | cases sb
 simp only [e1,List.filterMap_cons,List.filterMap_nil,hx,hy,hl,beq_self_eq_true,Bool.and_self,if_true];refine (if_neg ?_).trans ?_
 ·rw [he];simp
 rw [if_neg (by rw [hf];simp),if_neg (by rw [hc];simp)]
theorem wC {X:Cx}{i j:Nat}{x y:Str}{a b:Expr}{mr:DM (List D)}{px py pt pt2 pos:Pos}{kt k2:Nat}(hc:X.calm=true) (hN:X.N.Nodup) (hi:X.N[i]?=some x) (hj:X.N[j]?=some y) (hij:i≠j) (hx:X.env.scope.names.lookup x=some .local) (hy:X.env.scope.names.lookup y=some .local) (ha:DA X [a,b] mr)
  (hw:swappedStores [.Tuple [.Name x px,.Name y py] kt pt] (.Tuple [a,b] k2 pt2) X.env=pure (some [x,y])):DS X (.Assign [.Tuple [.Name x px,.Name y py] kt pt] (.Tuple [a,b] k2 pt2) pos) (Z9 mr i j):=by
 rintro pins s σ H N I ⟨loc,mh,ρ,f,loc',mh',e,rl,rs,co⟩;refine sU hc hN hi hj hij hx hy (ha loc mh) hw rfl pins s σ H N I ?_;unfold Z9 at e;split at e
 ·rename_i d1 d2 h1 er;cases e;refine ⟨ρ,[d1,d2],mh',er,rl,rs,fun H' ρ' vs e' rs' r'=>?_⟩;cases r' with
  | cons r1 r' =>
   cases r' with
   | cons r2 r' =>
    cases r';exact ⟨_,_,rfl,co H' ρ' _ e' rs' (((rl.mono e').set r1).set r2)⟩
 ·cases e
theorem Abe (G:Gb) (n:Nat) (ihss:∀ {X:Cx}{k:Nat}{sc:SC},XOk X k G sc->∀ ss,DSs X ss (iSs G n sc ss)) {X:Cx}{k:Nat}{sc:SC}(O:XOk X k G sc) (s:Stmt):DS X s (iSb n (iSs G n) G sc s):=by
 have S:=snd G n;cases s with
 | Expr e p =>
  delta iSb
  dsimp only;split
  ·exact Dj
  ·rename_i h;exact nJ (S.e O _) (aB (by simpa using h))
 | Pass _=>exact nG
 | Break _=>exact cG
 | Continue _=>exact R6
 | Return e _ =>
  cases e with
  | some e=>exact uY (S.e O _)
  | none=>exact nH
 | Assign ts v p =>
  cases ts with
  | nil=>exact Dj
  | cons tg r =>
   cases r with
   | cons _ _=>exact Dj
   | nil =>
    have gen:DS X (.Assign [tg] v p) (if G7 v || (Dw tg&&Dw v) then SM.bad else (match iGt G n sc tg with | some g=>Bm (iE G n sc v) g | none=>SM.bad)):=by
     split
     ·exact Dj
     ·rename_i h;have h:G7 v=false/\(Dw tg&&Dw v)=false:=by
       rw [Bool.not_eq_true,Bool.or_eq_false_iff] at h;exact h
      split
      ·rename_i g eg;have gen:(match iG sc tg with | some (_,g)=>some g | none=>none)=some g->DS X (.Assign [tg] v p) (Bm (iE G n sc v) g):=fun eg=>by
        split at eg
        ·rename_i ws g' eg';cases eg;refine Vh (S.e O _) (O.target eg') (Ue h.1) (Kr h.2 (fun es p z=>by subst z;simp [iG] at eg')) ?_;cases tg <;> first | rfl | (simp [iG] at eg')
        ·cases eg
       cases tg with
       | Subscript o i p' =>
        simp only [iGt] at eg;split at eg
        ·cases eg
        ·rename_i hs;cases eg;have hs:isSlice i=false:=by simpa using hs
         refine Vh (S.e O _) (vA (S.e O _) (S.e O _) ?_) (Ue h.1) (Kr h.2 (fun _ _ z=>by cases z)) rfl;intro v';cases i <;> first | rfl | cases hs
       | _=>exact gen eg
      ·exact Dj
    cases tg with
    | Name y py =>
     cases v with
     | ListComp elt gens scope vp =>
      delta iSb
      dsimp only
      delta vZ
      dsimp only;split
      ·rename_i ws g eg;exact Wh O n eg
      ·exact Dj
     | _=>exact gen
    | Tuple tl kt pt =>
     cases tl with
     | nil=>exact gen
     | cons t1 tl =>
      cases t1 with
      | Name x px =>
       cases tl with
       | nil=>exact gen
       | cons t2 tl =>
        cases t2 with
        | Name y py =>
         cases tl with
         | cons _ _=>exact gen
         | nil =>
          cases v with
          | Tuple vl k2 pt2 =>
           cases vl with
           | nil=>exact gen
           | cons a vl =>
            cases vl with
            | nil=>exact gen
            | cons b vl =>
             cases vl with
             | cons _ _=>exact gen
             | nil =>
              delta iSb
              dsimp only
              delta vZ
              dsimp only;split
              ·rename_i h;unfold Aa7 at h;simp only [Bool.and_eq_true,Bool.not_eq_true'] at h;obtain ⟨⟨⟨⟨⟨⟨⟨⟨h1,h2⟩,h3⟩,h4⟩,h5⟩,h6⟩,h7⟩,h8⟩,h9⟩:=h;split
               ·rename_i i j ei ej;have hi:=Ec ei;have hj:=Ec ej;refine wC O.calm (by rw [O.N];exact O.nd) (by rw [O.N];exact hi) (by rw [O.N];exact hj) (fun z=>?_) (by rw [O.sco];exact eq_of_beq h2) (by rw [O.sco];exact eq_of_beq h3) (S.a O _) (wB ?_ ?_ ?_ h4 h5 h6 h7 h8 h9)
                ·subst z;rw [hi] at hj;cases hj;simp at h5
                ·unfold Env.blockKind;rw [O.sco];exact h1
                ·unfold Env.kindOf;rw [O.sco];exact h2
                ·unfold Env.kindOf;rw [O.sco];exact h3
               ·exact Dj
              ·exact Dj
          | _=>exact gen
        | _=>exact gen
      | _=>exact gen
    | _=>exact gen
 | If c a b _=>exact Aax (S.t O _) (ihss O _) (ihss O _)
 | For tg it body els _ =>
  cases els with
  | cons _ _=>exact Dj
  | nil =>
   delta iSb
   dsimp only;split
   ·exact Dj
   ·rename_i h;split
    ·rename_i ws g eg;refine vB ?_ O.calm (S.i O _ _) (O.target eg) (ihss O _) (Wc (by simpa using h));rw [O.xe];exact PassesOwn.never
    ·exact Dj
 | _=>exact Dj
theorem Acz (G:Gb) (n:Nat):(∀ {X:Cx}{k:Nat}{sc:SC},XOk X k G sc->∀ s,DS X s (iS G n sc s))/\(∀ {X:Cx}{k:Nat}{sc:SC},XOk X k G sc->∀ ss,DSs X ss (iSs G n sc ss)):=by
 induction n with
 | zero=>exact ⟨fun _ _=>Dj,fun _ _ _ _ _ _ _ _ h=>by obtain ⟨_,_,_,_,_,_,e,_⟩:=h;cases e⟩
 | succ n ih =>
  refine ⟨fun {X k sc} O s=>Abe G n (fun O ss=>ih.2 O ss) O s,fun {X k sc} O ss=>?_⟩;cases ss with
  | nil=>exact nF
  | cons s r=>exact cF (ih.1 O s) (ih.2 O r)
theorem fQ {P:Program}{w:World}{K:PySem.W.Frag}{mg:Str->Option Value}{base:Heap}{k:Nat}{G:Gb}{x qual:Str}{st:Stmt}{f:Addr}{fd:FuncData}{I:FnI}(g:GOk P w K mg base k G) (F:Fun K x qual st f fd) (S:FnScope I.N I.ps (Af st))
  (hs:I.scope=Af st) (hb:I.body=Bb st) (n:Nat):FnOk P w K mg base CX0 (k+3) f fd I.ps (spD K I.ps.length (Ak G n I)):=by
 refine F.ok S (fun vs H Q E h=>h.1) fun cdv A outer s H vs Q E hr h=>?_
 obtain ⟨hl,ρ,mh,ds,d,mh',q,rs,r,co⟩:=h;refine ⟨_,(Acz G n).2 (sc:={ N:=I.N,scope:=I.scope,own:=fun _=>true }) ⟨rfl,S.nd,hs.symm,fun _ _ _=>.inl rfl,rfl,rfl,hr,g⟩ (Bb st),?_⟩;unfold Ak at q;split at q
 ·split at q
  ·rename_i d' loc' m' e;cases q;exact ⟨_,mh,ρ,.rt d,loc',mh',by rw [← hb];exact e,Ud r,rs,co⟩
  ·rename_i loc' m' e;cases q;exact ⟨_,mh,ρ,.nx,loc',mh',by rw [← hb];exact e,Ud r,rs,fun H' ρ' σ' e' rs' _=>co H' ρ' _ e' rs' .non⟩
  ·cases q
 ·cases q
theorem Ug {G:Gb}{n:Nat}{I:FnI}{ds:List D}{mh:MH}{r:D×MH}(h:Ak G n I ds mh=some r):ds.length=I.ps.length:=by
 unfold Ak at h;split at h
 ·assumption
 ·cases h
noncomputable def Abf (K:PySem.W.Frag) (mg:Str->Option Value) (x:Str) (I:FnI):Prop:=∃ (qual:Str) (st:Stmt) (f:Addr) (fd:FuncData),mg x=some (.ref f)/\Fun K x qual st f fd/\FnScope I.N I.ps (Af st)/\I.scope=Af st/\I.body=Bb st/\∀ us:List Value,us.length=I.ps.length->bindArgs fd ⟨us,[]⟩=pure (I.ps.zip us)
structure TbOk (w:World) (K:PySem.W.Frag) (mg:Str->Option Value) (T:Tb):Prop where
 fn:∀ x I,T.tb x=some I->∃ (qual:Str) (st:Stmt) (f:Addr) (fd:FuncData),mg x=some (.ref f)/\Fun K x qual st f fd/\FnScope I.N I.ps (Af st)/\I.scope=Af st/\I.body=Bb st/\∀ us:List Value,us.length=I.ps.length->bindArgs fd ⟨us,[]⟩=pure (I.ps.zip us)
 con:∀ x d,T.con x=some d->∃ u v,mg x=some u/\RelV v u/\∀ H ρ,RD K H ρ d v
 blt:∀ b∈Jh,mg b=none
 dic:∀ x kvs,T.dic x=some kvs->∃ a,mg x=some (.ref a)/\DicOk w K a kvs
 fld:∀ c f,T.fld c f=true->∃ C,PySem.W.nsIn K mainGlobals c=some (some (.ref C))/\Cls K C/\Ed K C f
 met:∀ c m I,T.tbm c m=some I->∃ (qual:Str) (st:Stmt) (C f:Addr) (fd:FuncData),PySem.W.nsIn K mainGlobals c=some (some (.ref C))/\Cls K C/\Meth K C m f/\Fun K m qual st f fd/\FnScope I.N I.ps (Af st)/\I.scope=Af st/\I.body=Bb st/\∀ us:List Value,us.length=I.ps.length->bindArgs fd ⟨us,[]⟩=pure (I.ps.zip us)
 mkr:∀ c f,T.mkr c=some f->∃ C fa fd ps,PySem.W.nsIn K mainGlobals c=some (some (.ref C))/\Mk K C fa/\mg c=some (.ref C)/\Binds K fd ps []/\∀ (P:Program) (w:World) (base:Heap),FnOk P w K mg base CX0 1 fa fd ps (spI C f)
theorem gok {P:Program}{w:World}{K:PySem.W.Frag}{mg:Str->Option Value}{base:Heap}{T:Tb}(O:TbOk w K mg T) (k:Nat):GOk P w K mg base k (GkN T k):=by
 induction k with
 | zero=>exact ⟨fun x ps f h=>(by cases h),O.con,O.blt,O.dic,O.fld,fun c m ps g h=>(by cases h),fun c f h=>by
   obtain ⟨C,fa,fd,ps,h1,h2,h3,h4,h5⟩:=O.mkr c f h
   exact ⟨C,fa,fd,ps,h1,h2,h3,h4,h5 _ _ _⟩⟩
 | succ k ih =>
  refine ⟨fun x ps f h=>?_,O.con,O.blt,O.dic,O.fld,fun c m ps g h=>?_,fun c f h=>by
   obtain ⟨C,fa,fd,ps,h1,h2,h3,h4,h5⟩:=O.mkr c f h
   exact ⟨C,fa,fd,ps,h1,h2,h3,h4,h5 _ _ _⟩⟩
  ·simp only [GkN] at h;split at h
   ·rename_i I eI;cases h;obtain ⟨qual,st,fa,fd,h1,h2,h3,h4,h5,h6⟩:=O.fn x I eI;exact ⟨fa,fd,h1,h2.kp,.all h6,fQ ih h2 h3 h4 h5 fuel,fun ds mh r hr=>Ug hr⟩
   ·cases h
  ·simp only [GkN] at h;split at h
   ·rename_i I eI;cases h;obtain ⟨qual,st,C,fa,fd,g1,g2,g3,h2,h3,h4,h5,h6⟩:=O.met c m I eI;exact ⟨C,fa,fd,g1,g2,g3,.all h6,fQ ih h2 h3 h4 h5 fuel,fun ds mh r hr=>Ug hr⟩
   ·cases h
noncomputable def Ci (st:Stmt):FnI :=
  { ps:=(Bt st).args.map (·.arg),
    N:=(Bt st).args.map (·.arg)++(((Af st).names.filter fun p=>(match p.2 with | .local=>true | .cell=>true | _=>false)).map (·.1)).filter (fun x=>!((Bt st).args.map (·.arg)).contains x),
    scope:=Af st,body:=Bb st }
theorem walk {l:PySem.W.OpenLaw}{q:Program}{loose:List Str}{XP:(Str->Option Value)->Heap->Prop}{YP:World->Heap->Prop}{d:DefRec}{K:Params->PySem.W.Frag}{Tt:Tb}{I:FnI}{x:Str}(k:Nat)
  (hn:l.most=some 63) (hdf:d.params.defaults=[]) (hY:∀ (w:World) (h:Heap),YP w h->(K w.params).In h) (hr:Room (k+3) callerA)
  (hI:Tt.tb d.name=some I) (hps:I.ps=[x])
  (T:∀ (w:World) (mg:Str->Option Value) (h:Heap),(K w.params).In h->h.Ns mainGlobals mg->TbOk w (K w.params) mg Tt)
  (main:∀ ns:List Int,ns.length<=63->∃ mh',Ak (GkN Tt k) fuel I [.rol (ns.map D.int)] []=some (.bl true,mh')) :
  PySem.W.WalkO q loose XP YP l.row.toRowW d [] (fun f vs=>PySem.call f vs):=by
 refine L2.mG (n:=63) (k:=k+3) (x:=x) (CX:=fun _=>CX0) (sp:=fun w=>spD (K w.params) 1 (Ak (GkN Tt k) fuel I)) hn (by decide) hdf hr hY (fun w mg fa h hK hN hm=>?_) (fun w H a ns hl hO hS=>?_) fun _ _ _ _ _ z=>z
 ·obtain ⟨qual,st,f,fd,h1,h2,h3,h4,h5,h6⟩:=(T w mg h hK hN).fn _ _ hI;rw [hm] at h1;cases h1;refine ⟨fd,fun s u=>.of_eq ?_,fun base hKb hNb=>?_⟩
  ·have:=h6 [u] (by rw [hps];rfl);rw [hps] at this;exact this
  ·have:=fQ (P:=l.prog) (w:=w) (base:=base) (gok (T w mg h hK hN) k) h2 h3 h4 h5 fuel;rw [hps] at this;exact this
 ·obtain ⟨mh',e⟩:=main ns hl;have P:Gh (K w.params) H a (ns.map V.int):=by
   rcases hS with (h|h)|h
   ·rcases hO a with z|⟨o,xs,z⟩
    ·rw [z] at h;cases h
    ·rw [z] at h;cases h
   ·exact .inl h
   ·exact .inr h
  refine ⟨rfl,[],[],[.rol (ns.map D.int)],.bl true,mh',e,⟨rfl,List.nodup_nil,fun n a o e=>by simp at e⟩,.cons (.rol P (RDs.ints ns)) .nil,fun H' ρ' v _ _ r=>by cases r;rfl⟩
end DL
namespace DL
open PySem L2
noncomputable def vr (i:Nat):DM D:=fun loc mh=>match loc[i]? with | some (some d)=>some (d,mh) | _=>none
noncomputable abbrev fU:=iop (fun _ _=>true) fun i j=>i - j
noncomputable abbrev Wi:=iop T5 fun i j=>i * j
noncomputable abbrev Xw:=iop (fun _ j=>decide (j≠0)&&decide (j.natAbs < 10889035741470030830827987437816582766592)) fun i j=>i.fdiv j
noncomputable abbrev Uh:=iop (fun _ j=>decide (j≠0)) fun i j=>i.fmod j
noncomputable abbrev wF:=iop (fun i j=>decide (0<=j)&&(decide (j<=1000000)&&decide (i.natAbs < 2 ^ 64))) fun i j=>i ^ j.toNat
noncomputable abbrev ltD:=Qt fun i j=>decide (i < j)
noncomputable abbrev leD:=Qt fun i j=>decide (i<=j)
noncomputable abbrev gtD:=Qt fun i j=>decide (j < i)
noncomputable def Abg (m:DM D):DM D:=(Ag m).bnd fun c=>Zr (.bl (!c))
noncomputable def Bk (mr:DM (List D)):DM D:=mr.bnd fun ds=>Zl (Oz ds)
noncomputable def lstM (mr:DM (List D)):DM D:=mr.bnd fun ds=>Zl (O1 ds)
noncomputable def Al (f:Fn) (mr:DM (List D)):DM D:=mr.bnd fun ds=>Zl (f ds)
noncomputable def Ui (T:String) (m:DM D):DM D:=m.bnd fun x=>Zl (Sd T x)
noncomputable def Xx (m:DM D):DM D:=m.bnd fun x=>Zl (Fz x)
noncomputable def Ni (m:DM D):DM D:=m.bnd fun x=>Zl (Bw x)
noncomputable def Uj (m:DM D):DM D:=m.bnd fun x=>Zl (Ds x)
theorem ln0 {f:List Value->Prop}(h:f []) (us:List Value) (e:us.length=0):f us:=by
 cases us with
 | nil=>exact h
 | cons _ _=>cases e
theorem ln1 {f:List Value->Prop}(h:∀ a,f [a]) (us:List Value) (e:us.length=1):f us:=by
 cases us with
 | nil=>cases e
 | cons a r=>exact ln0 (f:=fun r=>f (a::r)) (h a) r (Nat.succ.inj e)
theorem ln2 {f:List Value->Prop}(h:∀ a b,f [a,b]) (us:List Value) (e:us.length=2):f us:=by
 cases us with
 | nil=>cases e
 | cons a r=>exact ln1 (f:=fun r=>f (a::r)) (h a) r (Nat.succ.inj e)
theorem ln3 {f:List Value->Prop}(h:∀ a b c,f [a,b,c]) (us:List Value) (e:us.length=3):f us:=by
 cases us with
 | nil=>cases e
 | cons a r=>exact ln2 (f:=fun r=>f (a::r)) (h a) r (Nat.succ.inj e)
theorem ln4 {f:List Value->Prop}(h:∀ a b c d,f [a,b,c,d]) (us:List Value) (e:us.length=4):f us:=by
 cases us with
 | nil=>cases e
 | cons a r=>exact ln3 (f:=fun r=>f (a::r)) (h a) r (Nat.succ.inj e)
theorem fV {q:Program}{loose:List Str}{XP:(Str->Option Value)->Heap->Prop}{K:Params->PySem.W.Frag}{as:List Addr}{n t:Nat}{r:PySem.W.RowW}{d:DefRec}{kwd:List (Str×Expr)}{run:Value->List Value->Sem Value}
  (e:∀ P,as=(K P).map (·.1)) (h:PySem.W.WalkO q loose XP (fun w h=>(K w.params).In h) r d kwd run):PySem.W.WalkX q loose XP (PySem.W.X.obsZ as) (PySem.W.X.valZ K n t) r d kwd run :=
 fun w s₀ s₁ mg mb G y a o pm cd doc dV kV h1 h2 h3 h4 h5 h6 args vals as' L hpre hlay hrd hwl hlo =>
  h w s₀ s₁ mg mb G (PySem.W.InK.keeps w s₀.heap s₁.heap (PySem.W.X.z_facts e y).2.1 L.keeps) a o pm cd doc dV kV h1 h2 h3 h4 h5 h6 args vals as' hpre hlay hrd hwl hlo
noncomputable def Uk (K:PySem.W.Frag):List (Str×Stmt)->Prop
 | []=>True
 | r::L=>(∃ (f:Addr) (fd:FuncData),PySem.W.nsIn K mainGlobals r.1=some (some (.ref f))/\Fun K r.1 r.1 r.2 f fd)/\Uk K L
theorem fW {K:PySem.W.Frag}{x:Str}{st:Stmt}{L:List (Str×Stmt)}{f:Addr}{oc:Value}{od an:Option Addr}{osl:Array (Option Value)}{kV doc pm cdv ct:Value}(a:PySem.W.nsIn K mainGlobals x=some (some (.ref f)))
  (l:K.lookup f=some ⟨oc,od,.func (PySem.W.fnOf x x (Bt st) (Bb st) (Af st) .none kV doc pm an cdv ct),osl⟩)
  (c:PySem.W.codeIn K cdv x=true) (k:PySem.W.keepIn K (.ref f)=true) (q:Uk K L):Uk K ((x,st)::L):=⟨⟨f,_,a,Hx l c k⟩,q⟩
noncomputable def Abh (x:Str) (st:Stmt):Prop:=FnScope (Ci st).N (Ci st).ps (Af st)/\∀ (kV doc pm:Value) (an:Option Addr) (cdv ct:Value) (us:List Value),us.length=(Ci st).ps.length->bindArgs (PySem.W.fnOf x x (Bt st) (Bb st) (Af st) .none kV doc pm an cdv ct) ⟨us,[]⟩=pure ((Ci st).ps.zip us)
theorem Cy {x:Str}{st:Stmt}(s:FnScope (Ci st).N (Ci st).ps (Af st)) (b:∀ (kV doc pm:Value) (an:Option Addr) (cdv ct:Value) (us:List Value),us.length=(Ci st).ps.length->bindArgs (PySem.W.fnOf x x (Bt st) (Bb st) (Af st) .none kV doc pm an cdv ct) ⟨us,[]⟩=pure ((Ci st).ps.zip us)):Abh x st:=⟨s,b⟩
noncomputable def fX:List (Str×Stmt)->Prop
 | []=>True
 | r::L=>Abh r.1 r.2/\fX L
theorem Xy {K:PySem.W.Frag}{h:Heap}{mg:Str->Option Value}(X:K.In h) (G:h.Ns mainGlobals mg) {x:Str}{I:FnI}:∀ {L:List (Str×Stmt)},Uk K L->fX L->(L.lookup x).map Ci=some I->Abf K mg x I
 | [],_,_,e=>by cases e
 | (y,st)::L,⟨⟨f,fd,a,F⟩,q⟩,⟨s,t⟩,e=>by
  simp only [List.lookup] at e;split at e
  ·rename_i hy;rw [eq_of_beq hy];cases e;refine ⟨y,st,f,fd,PySem.W.mg_of X G a,F,s.1,rfl,rfl,fun us hu=>?_⟩;obtain ⟨oc,od,kV,doc,pm,an,cdv,ct,osl,rfl,_⟩:=F.ex;exact s.2 kV doc pm an cdv ct us hu
  ·exact Xy X G q t e
noncomputable def Ul (K:PySem.W.Frag):List Str->Prop
 | []=>True
 | b::L=>PySem.W.nsIn K mainGlobals b=some none/\Ul K L
theorem fY {K:PySem.W.Frag}{b:Str}{L:List Str}(a:PySem.W.nsIn K mainGlobals b=some none) (q:Ul K L):Ul K (b::L):=⟨a,q⟩
theorem Um {K:PySem.W.Frag}{h:Heap}{mg:Str->Option Value}(X:K.In h) (G:h.Ns mainGlobals mg):∀ {L:List Str},Ul K L->∀ b∈L,mg b=none
 | _::_,⟨a,_⟩,_,.head _=>PySem.W.mg_none_of X G a
 | _::_,⟨_,q⟩,b,.tail _ m=>Um X G q b m
section
variable {loc:DL.Loc}{mh:MH}{ma mb:DM D}{mr:DM (List D)}{t u:DM Bool}{m1 m2:SM}
theorem Abi (i:Nat):vr i loc mh=(match loc[i]? with | some (some d)=>some (d,mh) | _=>none):=by kernel_rfl
theorem pG:Jr ma loc mh=(match ma loc mh with | none=>none | some (x,h)=>(match bW x h with | some k=>some (k,h) | none=>none)):=by kernel_rfl
theorem fZ (T:String) (f:D->List D->MH->Option (D×MH)):Cu T f ma mr loc mh=(match ma loc mh with | none=>none | some (x,h)=>if Y6 T x h=true then (match mr loc h with | none=>none | some (ds,h2)=>f x ds h2) else none):=by kernel_rfl
theorem pH (g:GM):Bm ma g loc mh=(match ma loc mh with | some (d,h)=>(match g d loc h with | some (l,h')=>some (.nx,l,h') | none=>none) | none=>none):=by kernel_rfl
theorem gB:ifS t m1 m2 loc mh=(match t loc mh with | some (k,h)=>if k=true then m1 loc h else m2 loc h | none=>none):=by kernel_rfl
theorem pI:retS ma loc mh=(match ma loc mh with | some (d,h)=>some (.rt d,loc,h) | none=>none):=by kernel_rfl
theorem gC:Ho ma loc mh=(match ma loc mh with | some (_,h)=>some (.nx,loc,h) | none=>none):=by kernel_rfl
theorem Xz:Ab m1 m2 loc mh=(match m1 loc mh with | some (.nx,l,h)=>m2 l h | r=>r):=by kernel_rfl
theorem pJ:Gj ma loc mh=(match ma loc mh with | none=>none | some (x,h)=>(match srcOf x h with | some s=>some (s,h) | none=>none)):=by kernel_rfl
theorem pK (f:List D->Option Src):Oe f mr loc mh=(match mr loc mh with | none=>none | some (ds,h)=>(match f ds with | some s=>some (s,h) | none=>none)):=by
 unfold Oe DM.bnd;cases mr loc mh with
 | none=>rfl
 | some p =>
  obtain ⟨ds,h⟩:=p;dsimp only;cases f ds <;> rfl
theorem gD:Ir (some ma) loc mh=(match ma loc mh with | some (.int i,h)=>some (some i,h) | _=>none):=by
 show (ma.bnd _) loc mh=_;unfold DM.bnd;cases ma loc mh with
 | none=>rfl
 | some p =>
  obtain ⟨x,h⟩:=p;cases x <;> rfl
end
theorem wH (C:Int->Int->Bool) (g:Int->Int->Int) (i j:Int) (mh:MH):iop C g (.int i) (.int j) mh=if C i j=true then some (.int (g i j),mh) else none:=by kernel_rfl
theorem gF {j:Int}(h0:0<=j) (h:j<=1000000):Ky [.int j]=some (.seq (Be 0 j.toNat)):=by
 have e2:-(2 ^ 62)<=j/\j < 2 ^ 62:=by omega
 unfold Ky;dsimp only;rw [if_pos e2]
theorem Jj {B:Nat}(h:B<=1000000):Ky [.int B]=some (.seq (Be 0 B)):=by rw [gF (by omega) (by omega),Int.toNat_natCast]
theorem Ce (lo:Int) (n:Nat):(Be lo n).length=n:=by unfold Be;rw [List.length_map,List.length_range]
theorem le_size {n:Nat}(h:n<=1000000):n<=sizeLine:=by rw [sizeLine_eq];omega
theorem lt_size {n:Nat}(h:n<=1000000):n < sizeLine:=by rw [sizeLine_eq];omega
theorem gG {ds:List D}{mh:MH}(h:ds.length<=1000000):Oz ds mh=some (.tup ds,mh):=by unfold Oz;rw [if_pos (le_size h)]
theorem gH {ds:List D}{mh:MH}(h:ds.length<=1000000):O1 ds mh=some (.ref mh.length,mh++[.lst ds]):=by unfold O1;rw [if_pos (le_size h)]
theorem Wj {n:Nat}{ds:List D}{y:D}{mh:MH}(e:mh[n]?=some (.lst ds)) (h:ds.length<=1000000):En (.ref n) [y] mh=some (.non,mh.set n (.lst (ds++[y]))):=by
 simp only [En,e,if_pos (lt_size h)]
theorem gJ {n m:Nat}{xs ys:List D}{mh:MH}(e1:mh[n]?=some (.lst xs)) (e2:mh[m]?=some (.lst ys)) (h:xs.length+ys.length<=1000000):Cz (.ref n) (.ref m) mh=some (.ref mh.length,mh++[.lst (xs++ys)]):=by
 simp only [Cz,e1,e2,if_pos (le_size h)]
theorem Pz (mh:MH) (n:Nat):∀ ns:List Int,mapO (py mh n) (ns.map D.int)=some (ns.map PyData.int)
 | []=>rfl
 | a::r=>by
  have e:py mh n (.int a)=some (.int a):=by cases n <;> rfl
  simp only [List.map_cons,mapO,e,Pz mh n r]
theorem X3 {mh:MH}{n k:Nat}{ns:List Int}(h:mh[k]?=some (.lst (ns.map D.int))):py mh (n+1) (.ref k)=some (.list (ns.map PyData.int)):=by
 simp only [py,h,Pz]
theorem Ks:∀ xs ys:List Int,PyData.eqvAll (xs.map PyData.int) (ys.map PyData.int)=(xs==ys)
 | [],[]=>by simp [PyData.eqvAll]
 | [],_::_=>by simp [PyData.eqvAll]
 | _::_,[]=>by simp [PyData.eqvAll]
 | a::r,b::t=>by simp only [List.map_cons,PyData.eqvAll,PyData.eqv,Ks r t];rfl
end DL
namespace DL
open PySem L2 PyProof.Rows
noncomputable abbrev Aw (n:Nat):D:=.int (n:Int)
theorem aC {mh:MH}{n:Nat}{ns:List Int}(h:mh[n]?=some (.lst (ns.map D.int))):Gw (.ref n) mh=some ns:=by
 simp only [Gw,h,Fy]
theorem Rg {mh:MH}{n:Nat}{ns:List Int}(h:mh[n]?=some (.lst (ns.map D.int))) (l1:ns.length < 4000) (l2:(Bo ns).length < 64):Bw (.ref n) mh=some (.ref mh.length,mh++[.lst ((Iv ns).map D.int)]):=by
 simp only [Bw,aC h,if_pos l1,if_pos l2]
theorem gK {mh:MH}{n:Nat}{k:TX}{ks:List TX}(h:mh[n]?=some (.lst ((k::ks).map txD))):Gw (.ref n) mh=none:=by
 simp only [Gw,h];rfl
theorem Jk {mh:MH}{n:Nat}{ks:List TX}(h:mh[n]?=some (.lst (ks.map txD))) (l3:(Dv ks).length<=17):Bw (.ref n) mh=some (.ref mh.length,mh++[.lst ((Bs (Dv ks)).map txD)]):=by
 cases ks with
 | nil =>
  rw [Rg (ns:=[]) h (by decide) (by decide),show Iv []=[] from (Ia []).eq_nil,show Bs (Dv [])=[] from (Cd []).eq_nil];rfl
 | cons k ks=>simp only [Bw,gK h,h,My,Jw,if_pos l3]
end DL
namespace DL
open PySem L2
noncomputable def wD {α:Type}(m:DM α) (loc:DL.Loc) (mh:MH) (P:α->MH->Prop):Prop:=∃ a h,m loc mh=some (a,h)/\P a h
noncomputable def wV (r:Option (D×MH)) (P:D->MH->Prop):Prop:=∃ d h,r=some (d,h)/\P d h
noncomputable def wG (r:Option (DL.Loc×MH)) (P:DL.Loc->MH->Prop):Prop:=∃ l h,r=some (l,h)/\P l h
noncomputable def wS (m:SM) (loc:DL.Loc) (mh:MH) (P:Fl->DL.Loc->MH->Prop):Prop:=∃ f l h,m loc mh=some (f,l,h)/\P f l h
section
variable {loc:DL.Loc}{mh:MH}{ma mb mc:DM D}{mr:DM (List D)}{t u:DM Bool}{P:D->MH->Prop}{B:Bool->MH->Prop}
theorem Am {α:Type}{m:DM α}{P Q:α->MH->Prop}(h:wD m loc mh P) (i:∀ a h,P a h->Q a h):wD m loc mh Q:=let ⟨a,h',e,p⟩:=h;⟨a,h',e,i a h' p⟩
theorem X4 {r:Option (D×MH)}{P Q:D->MH->Prop}(h:wV r P) (i:∀ a h,P a h->Q a h):wV r Q:=let ⟨a,h',e,p⟩:=h;⟨a,h',e,i a h' p⟩
theorem Abj {i:Nat}{d:D}(e:loc[i]?=some (some d)) (h:P d mh):wD (vr i) loc mh P:=⟨d,mh,by rw [Abi,e],h⟩
theorem Dd {α:Type}{a:α}{P:α->MH->Prop}(h:P a mh):wD (Zr a) loc mh P:=⟨a,mh,rfl,h⟩
theorem pL {f:MH->Option (D×MH)}(h:wV (f mh) P):wD (Zl f) loc mh P:=h
theorem Av {α β:Type}{m:DM α}{f:α->DM β}{P:β->MH->Prop}(h:wD m loc mh fun a h1=>wD (f a) loc h1 P):wD (m.bnd f) loc mh P:=by
 obtain ⟨a,h1,e1,b,h2,e2,p⟩:=h;exact ⟨b,h2,by unfold DM.bnd;rw [e1];exact e2,p⟩
theorem Abk {f:D->D->MH->Option (D×MH)}(h:wD ma loc mh fun x h1=>wD mb loc h1 fun y h2=>wV (f x y h2) P):wD (dop f ma mb) loc mh P:=Av (Am h fun _ _ q=>Av (Am q fun _ _ z=>z))
theorem pM {P:List D->MH->Prop}(h:wD ma loc mh fun x h1=>wD mr loc h1 fun xs h2=>P (x::xs) h2):wD (Aa ma mr) loc mh P:=Av (Am h fun _ _ q=>Av (Am q fun _ _ z=>Dd z))
theorem wI {f:Fn}(h:wD mr loc mh fun ds h1=>wV (f ds h1) P):wD (Al f mr) loc mh P:=Av (Am h fun _ _ q=>q)
theorem wJ (h:wD mr loc mh fun ds h1=>ds.length<=1000000/\P (.tup ds) h1):wD (Bk mr) loc mh P:=Av (Am h fun _ _ q=>⟨_,_,gG q.1,q.2⟩)
theorem wK (h:wD mr loc mh fun ds h1=>ds.length<=1000000/\P (.ref h1.length) (h1++[.lst ds])):wD (lstM mr) loc mh P:=Av (Am h fun _ _ q=>⟨_,_,gH q.1,q.2⟩)
theorem wL {T:String}(h:wD ma loc mh fun x h1=>wV (Sd T x h1) P):wD (Ui T ma) loc mh P:=Av (Am h fun _ _ q=>q)
theorem Wk (h:wD ma loc mh fun x h1=>wV (Ds x h1) P):wD (Uj ma) loc mh P:=Av (Am h fun _ _ q=>q)
theorem aD (h:wD ma loc mh fun x h1=>wV (Fz x h1) P):wD (Xx ma) loc mh P:=Av (Am h fun _ _ q=>q)
theorem Wl (h:wD ma loc mh fun x h1=>wV (Bw x h1) P):wD (Ni ma) loc mh P:=Av (Am h fun _ _ q=>q)
theorem Lb (h:wD ma loc mh fun x h1=>∃ k,x=.bl k/\B k h1):wD (Ag ma) loc mh B:=Av (Am h fun _ _ ⟨k,e,q⟩=>by subst e;exact Dd q)
theorem wM (h:wD ma loc mh fun x h1=>∃ k,bW x h1=some k/\B k h1):wD (Jr ma) loc mh B:=by
 obtain ⟨x,h1,e,k,ek,q⟩:=h;exact ⟨k,h1,by rw [pG,e];dsimp only;rw [ek],q⟩
theorem pN (h:wD ma loc mh fun x h1=>∃ k,x=.bl k/\P (.bl (!k)) h1):wD (Abg ma) loc mh P:=Av (Lb (Am h fun _ _ ⟨k,e,q⟩=>⟨k,e,Dd q⟩))
theorem pO (h:wD t loc mh fun k h1=>B (!k) h1):wD (Fb t) loc mh B:=Av (Am h fun _ _ q=>Dd q)
theorem pP (h:wD t loc mh fun k h1=>(k=true->wD u loc h1 B)/\(k=false->B false h1)):wD (Lq t u) loc mh B:=Av (Am h fun k _ q=>by
 cases k with
 | true=>exact q.1 rfl
 | false=>exact Dd (q.2 rfl))
theorem wN (h:wD t loc mh fun k h1=>(k=true->B true h1)/\(k=false->wD u loc h1 B)):wD (Ip t u) loc mh B:=Av (Am h fun k _ q=>by
 cases k with
 | true=>exact Dd (q.1 rfl)
 | false=>exact q.2 rfl)
theorem pQ (h:wD ma loc mh fun x h1=>∃ k,x=.bl k/\(k=true->wD mb loc h1 P)/\(k=false->P (.bl false) h1)):wD (Gp ma mb) loc mh P:=Av (Lb (Am h fun _ _ ⟨k,e,q⟩=>⟨k,e,by
 cases k with
 | true=>exact q.1 rfl
 | false=>exact Dd (q.2 rfl)⟩))
theorem gO {f f':D->D->MH->Option (D×MH)}(h:wD ma loc mh fun x h1=>wD mb loc h1 fun y h2=>wV (f x y h2) fun z h3=>∃ k,z=.bl k/\(k=true->wD mc loc h3 fun w h4=>wV (f' y w h4) P)/\(k=false->P (.bl false) h3)):wD (Gr f f' ma mb mc) loc mh P :=
 Av (Am h fun _ _ q=>Av (Am q fun _ _ z=>Av (Lb (Am (pL z) fun _ _ ⟨k,e,q⟩=>⟨k,e,by
  cases k with
  | true=>exact Av (Am (q.1 rfl) fun _ _ w=>w)
  | false=>exact Dd (q.2 rfl)⟩))))
theorem pR {T:String}{f:D->List D->MH->Option (D×MH)}(h:wD ma loc mh fun x h1=>Y6 T x h1=true/\wD mr loc h1 fun ds h2=>wV (f x ds h2) P):wD (Cu T f ma mr) loc mh P:=by
 obtain ⟨x,h1,e1,ht,ds,h2,e2,d,h3,e3,p⟩:=h;exact ⟨d,h3,by rw [fZ,e1];dsimp only;rw [if_pos ht,e2];exact e3,p⟩
theorem gP {O:Option Int->MH->Prop}(h:O none mh):wD (Ir none) loc mh O:=⟨none,mh,rfl,h⟩
theorem gQ {O:Option Int->MH->Prop}(h:wD ma loc mh fun x h1=>∃ i,x=.int i/\O (some i) h1):wD (Ir (some ma)) loc mh O:=by
 obtain ⟨x,h1,e,i,rfl,q⟩:=h;exact ⟨some i,h1,by rw [gD,e],q⟩
theorem Abl {ml mu:Option (DM D)}(h:wD ma loc mh fun x h1=>wD (Ir ml) loc h1 fun l h2=>wD (Ir mu) loc h2 fun r h3=>wV (slD x l r h3) P):wD (dSl ma ml mu) loc mh P :=
 Av (Am h fun _ _ q=>Av (Am q fun _ _ z=>Av (Am z fun _ _ w=>w)))
theorem wO {R:Src->MH->Prop}(h:wD ma loc mh fun x h1=>∃ s,srcOf x h1=some s/\R s h1):wD (Gj ma) loc mh R:=by
 obtain ⟨x,h1,e,s,es,q⟩:=h;exact ⟨s,h1,by rw [pJ,e];dsimp only;rw [es],q⟩
theorem wQ {R:Src->MH->Prop}{f:List D->Option Src}(h:wD mr loc mh fun ds h1=>∃ s,f ds=some s/\R s h1):wD (Oe f mr) loc mh R:=by
 obtain ⟨x,h1,e,s,es,q⟩:=h;exact ⟨s,h1,by rw [pK,e];dsimp only;rw [es],q⟩
end
noncomputable def seqK (m2:SM) (P:Fl->DL.Loc->MH->Prop) (f:Fl) (l:DL.Loc) (h:MH):Prop:=match f with
 | .nx=>wS m2 l h P
 | f=>P f l h
section
variable {loc l:DL.Loc}{mh h1:MH}{me:DM D}{m1 m2:SM}{g:GM}{t:DM Bool}{P:Fl->DL.Loc->MH->Prop}
theorem pU {m:SM}{P Q:Fl->DL.Loc->MH->Prop}(h:wS m loc mh P) (i:∀ f l h,P f l h->Q f l h):wS m loc mh Q:=let ⟨f,l,h',e,p⟩:=h;⟨f,l,h',e,i f l h' p⟩
theorem gR (h:wS m1 loc mh (seqK m2 P)):wS (Ab m1 m2) loc mh P:=by
 obtain ⟨f,l,h1,e,q⟩:=h;cases f with
 | nx =>
  obtain ⟨f',l',h',e',p⟩:=q;exact ⟨f',l',h',by rw [Xz,e];exact e',p⟩
 | _=>exact ⟨_,l,h1,by rw [Xz,e],q⟩
theorem pW (h:wS m2 l h1 P):seqK m2 P .nx l h1:=h
theorem pX {d:D}(h:P (.rt d) l h1):seqK m2 P (.rt d) l h1:=h
theorem wR (h:P .nx loc mh):wS Zn loc mh P:=⟨_,_,_,rfl,h⟩
theorem wU (h:wD me loc mh fun d h1=>wG (g d loc h1) fun l h2=>P .nx l h2):wS (Bm me g) loc mh P:=by
 obtain ⟨d,h1,e1,l,h2,e2,p⟩:=h;exact ⟨.nx,l,h2,by rw [pH,e1];dsimp only;rw [e2],p⟩
theorem wW (h:wD me loc mh fun d h1=>P (.rt d) loc h1):wS (retS me) loc mh P:=by
 obtain ⟨d,h1,e1,p⟩:=h;exact ⟨.rt d,loc,h1,by rw [pI,e1],p⟩
theorem pY (h:wD me loc mh fun _ h1=>P .nx loc h1):wS (Ho me) loc mh P:=by
 obtain ⟨d,h1,e1,p⟩:=h;exact ⟨.nx,loc,h1,by rw [gC,e1],p⟩
theorem Abm (h:wD t loc mh fun k h1=>(k=true->wS m1 loc h1 P)/\(k=false->wS m2 loc h1 P)):wS (ifS t m1 m2) loc mh P:=by
 obtain ⟨k,h1,e1,a,b⟩:=h;cases k with
 | true =>
  obtain ⟨f,l,h',e,p⟩:=a rfl;exact ⟨f,l,h',by rw [gB,e1];exact e,p⟩
 | false =>
  obtain ⟨f,l,h',e,p⟩:=b rfl;exact ⟨f,l,h',by rw [gB,e1];exact e,p⟩
theorem gU {i:Nat}{d:D}{R:DL.Loc->MH->Prop}(h:R (loc.set i (some d)) mh):wG (Bp i d loc mh) R:=⟨_,_,rfl,h⟩
theorem gW {is:List Nat}{ds:List D}{R:DL.Loc->MH->Prop}(hl:ds.length=is.length) (h:R (Ls is ds loc) mh):wG (R7 is (.tup ds) loc mh) R:=⟨_,_,if_pos hl,h⟩
theorem wX {mo mi:DM D}{v:D}{R:DL.Loc->MH->Prop}(h:wD mo loc mh fun o h1=>wD mi loc h1 fun i h2=>∃ h3,W9 o i v h2=some h3/\R loc h3):wG (Lx mo mi v loc mh) R:=by
 obtain ⟨o,h1,e1,i,h2,e2,h3,e3,p⟩:=h;refine ⟨loc,h3,?_,p⟩;unfold Lx;rw [e1];dsimp only;rw [e2];dsimp only;rw [e3]
theorem Uo {n:Nat}{ds:List D}{k:Nat}{v:D}{h:MH}(e:h[n]?=some (.lst ds)) (hk:k < ds.length):W9 (.ref n) (.int k) v h=some (h.set n (.lst (ds.set k v))):=by
 have e2:ixN ds.length (k:Int)=some k:=by unfold ixN;rw [if_pos (by omega),if_pos (by omega)];simp
 simp only [W9,e,e2]
noncomputable def Abn (J:DL.Loc->MH->Prop) (P:Fl->DL.Loc->MH->Prop) (f:Fl) (l:DL.Loc) (h:MH):Prop:=match f with
 | .nx=>J l h
 | .ct=>J l h
 | .bk=>P .nx l h
 | .rt d=>P (.rt d) l h
theorem Wm {src:Src}{ds:List D}{body:SM}(J:Nat->DL.Loc->MH->Prop) (keep:∀ i l h,J i l h->src.ok h=true/\src.items h=ds)
  (step:∀ i d l h,ds[i]?=some d->J i l h->wG (g d l h) fun l1 h1=>wS body l1 h1 (Abn (J (i+1)) P)) (fin:∀ l h,J ds.length l h->P .nx l h) :
  ∀ (k i:Nat) (l:DL.Loc) (h:MH),i+k=ds.length->J i l h->wS (Kz src g body k i) l h P
 | 0,i,l,h,e,j=>by
  have e:i=ds.length:=by omega
  subst e;have s:src.stop h ds.length=true:=by
   unfold Src.stop;rw [(keep _ _ _ j).1,(keep _ _ _ j).2,Bool.true_and];exact decide_eq_true (Nat.le_refl _)
  exact ⟨.nx,l,h,by simp only [Kz,s,if_true],fin _ _ j⟩
 | k+1,i,l,h,e,j=>by
  have hi:i < ds.length:=by omega
  have eg:src.get h i=some ds[i]:=by
   unfold Src.get;rw [(keep _ _ _ j).2,List.getElem?_eq_getElem hi]
  obtain ⟨l1,h1,e1,f,l2,h2,e2,q⟩:=step i ds[i] l h (List.getElem?_eq_getElem hi) j;cases f with
  | nx =>
   obtain ⟨f',l',h',e',p⟩:=Wm J keep step fin k (i+1) l2 h2 (by omega) q;exact ⟨f',l',h',by simp only [Kz,eg,e1,e2];exact e',p⟩
  | ct =>
   obtain ⟨f',l',h',e',p⟩:=Wm J keep step fin k (i+1) l2 h2 (by omega) q;exact ⟨f',l',h',by simp only [Kz,eg,e1,e2];exact e',p⟩
  | bk=>exact ⟨.nx,l2,h2,by simp only [Kz,eg,e1,e2],q⟩
  | rt d=>exact ⟨.rt d,l2,h2,by simp only [Kz,eg,e1,e2],q⟩
theorem Rh {mi:DM Src}{body:SM}(h:wD mi loc mh fun src h0=>∃ ds,∃ J:Nat->DL.Loc->MH->Prop,J 0 loc h0/\(∀ i l h,J i l h->src.ok h=true/\src.items h=ds) /\
  (∀ i d l h,ds[i]?=some d->J i l h->wG (g d l h) fun l1 h1=>wS body l1 h1 (Abn (J (i+1)) P))/\∀ l h,J ds.length l h->P .nx l h):wS (Qv mi g body) loc mh P:=by
 obtain ⟨src,h0,e,ds,J,j0,keep,step,fin⟩:=h;have el:(src.items h0).length=ds.length:=by rw [(keep _ _ _ j0).2]
 obtain ⟨f,l,h',e',p⟩:=Wm J keep step fin ds.length 0 loc h0 (by omega) j0;refine ⟨f,l,h',?_,p⟩;unfold Qv;rw [e];dsimp only;rw [el];exact e'
theorem Ri {src:Src}{ds:List D}{tc:DM Bool}{e:DM D}{R:List D->MH->Prop}(J:Nat->List D->MH->Prop) (keep:∀ i acc h,J i acc h->src.ok h=true/\src.items h=ds) (hz:ds.length<=1000000) (small:∀ i acc h,J i acc h->acc.length<=i)
  (step:∀ i d acc h,ds[i]?=some d->J i acc h->wG (g d loc h) fun l1 h1=>wD tc l1 h1 fun c h2=>(c=true->wD e l1 h2 fun y h3=>J (i+1) (acc++[y]) h3)/\(c=false->J (i+1) acc h2)) (fin:∀ acc h,J ds.length acc h->R acc h) :
  ∀ (k i:Nat) (acc:List D) (h:MH),i+k=ds.length->J i acc h->∃ acc' h',Hq src g tc e loc k i acc h=some (acc',h')/\R acc' h'
 | 0,i,acc,h,q,j=>by
  have q:i=ds.length:=by omega
  subst q;have s:src.stop h ds.length=true:=by
   unfold Src.stop;rw [(keep _ _ _ j).1,(keep _ _ _ j).2,Bool.true_and];exact decide_eq_true (Nat.le_refl _)
  exact ⟨acc,h,by simp only [Hq,s,if_true],fin _ _ j⟩
 | k+1,i,acc,h,q,j=>by
  have hi:i < ds.length:=by omega
  have eg:src.get h i=some ds[i]:=by
   unfold Src.get;rw [(keep _ _ _ j).2,List.getElem?_eq_getElem hi]
  obtain ⟨l1,h1,e1,c,h2,e2,a,b⟩:=step i ds[i] acc h (List.getElem?_eq_getElem hi) j;cases c with
  | true =>
   obtain ⟨y,h3,e3,j3⟩:=a rfl;obtain ⟨acc',h',e',p⟩:=Ri J keep hz small step fin k (i+1) _ h3 (by omega) j3;have hl:acc.length < sizeLine:=lt_size (by have:=small _ _ _ j;omega);exact ⟨acc',h',by simp only [Hq,eg,e1,e2,if_true,e3,if_pos hl];exact e',p⟩
  | false =>
   obtain ⟨acc',h',e',p⟩:=Ri J keep hz small step fin k (i+1) _ h2 (by omega) (b rfl);exact ⟨acc',h',by simp only [Hq,eg,e1,e2,Bool.false_eq_true,if_false];exact e',p⟩
theorem Hf {mi:DM Src}{cs:List (Option Nat)}{tc:DM Bool}{e:DM D}{Q:D->MH->Prop}(h:wD mi loc mh fun src h0=>∃ ds,∃ J:Nat->List D->MH->Prop,ds.length<=1000000/\J 0 [] h0/\(∀ i acc h,J i acc h->src.ok h=true/\src.items h=ds)/\(∀ i acc h,J i acc h->acc.length<=i) /\
  (∀ i d acc h,ds[i]?=some d->J i acc h->wG (g d (Qw cs loc) h) fun l1 h1=>wD tc l1 h1 fun c h2=>(c=true->wD e l1 h2 fun y h3=>J (i+1) (acc++[y]) h3)/\(c=false->J (i+1) acc h2)) /\
  ∀ acc h,J ds.length acc h->Q (.ref h.length) (h++[.lst acc])):wD (Dz mi cs g tc e) loc mh Q:=by
 obtain ⟨src,h0,e0,ds,J,hz,j0,keep,small,step,fin⟩:=h;have el:(src.items h0).length=ds.length:=by rw [(keep _ _ _ j0).2]
 obtain ⟨acc,h',e',p⟩:=Ri J keep hz small step fin ds.length 0 [] h0 (by omega) j0;refine ⟨.ref h'.length,h'++[.lst acc],?_,p⟩;unfold Dz;rw [e0];dsimp only;rw [el,e']
end
noncomputable def Ac0 (P:D->MH->Prop) (f:Fl) (_:DL.Loc) (h:MH):Prop:=match f with
 | .rt d=>P d h
 | .nx=>P .non h
 | _=>False
theorem Bg {G:Gb}{n:Nat}{I:FnI}{b:SM}{ds:List D}{mh:MH}{np m:Nat}{P:D->MH->Prop}(hb:iSs G n { N:=I.N,scope:=I.scope,own:=fun _=>true } I.body=b) (hp:I.ps.length=np) (hN:I.N.length=m) (hl:ds.length=np)
  (h:wS b (ds.map some++List.replicate (m - np) none) mh (Ac0 P)):wV (Ak G n I ds mh) P:=by
 obtain ⟨f,l,h',e,p⟩:=h;cases f with
 | rt d=>exact ⟨d,h',by unfold Ak;rw [if_pos (by rw [hp];exact hl),hb,hN,hl,e],p⟩
 | nx=>exact ⟨.non,h',by unfold Ak;rw [if_pos (by rw [hp];exact hl),hb,hN,hl,e],p⟩
 | bk=>exact p.elim
 | ct=>exact p.elim
section
variable {mh:MH}{P:D->MH->Prop}
theorem Nj {r:Option (D×MH)}{d:D}{h:MH}(e:r=some (d,h)) (p:P d h):wV r P:=⟨d,h,e,p⟩
theorem Nk {C:Int->Int->Bool}{g:Int->Int->Int}{i j:Int}(hC:C i j=true) (h:P (.int (g i j)) mh):wV (iop C g (.int i) (.int j) mh) P:=⟨_,_,by rw [wH,if_pos hC],h⟩
theorem wY {i j:Int}(h:P (.int (i - j)) mh):wV (fU (.int i) (.int j) mh) P:=Nk rfl h
theorem Ij {i j:Int}(hj:j≠0) (h:P (.int (i.fmod j)) mh):wV (Uh (.int i) (.int j) mh) P:=Nk (decide_eq_true hj) h
theorem Rj {i j:Int}(hj:j≠0) (hb:j.natAbs < 10889035741470030830827987437816582766592) (h:P (.int (i.fdiv j)) mh):wV (Xw (.int i) (.int j) mh) P:=Nk (by rw [decide_eq_true hj,decide_eq_true hb];rfl) h
theorem J2 {i j:Int}(hb:(-(2 ^ 64) < i/\i < 2 ^ 64)\/(-(2 ^ 64) < j/\j < 2 ^ 64)) (h:P (.int (i * j)) mh):wV (Wi (.int i) (.int j) mh) P:=show wV (iop T5 (fun i j=>i * j) (.int i) (.int j) mh) P from Nk (by unfold T5;rw [Bool.or_eq_true,decide_eq_true_iff,decide_eq_true_iff];exact hb) h
theorem pZ {g:Int->Int->Bool}{i j:Int}(h:P (.bl (g i j)) mh):wV (Qt g (.int i) (.int j) mh) P:=⟨_,_,rfl,h⟩
theorem wZ {i j:Int}(h:P (.int (i+j)) mh):wV (Cz (.int i) (.int j) mh) P:=⟨_,_,rfl,h⟩
theorem xG {i j:Int}(h:P (.bl (i==j)) mh):wV (eqD (.int i) (.int j) mh) P:=⟨_,_,rfl,h⟩
theorem xH {i j:Int}(h:P (.bl (!(i==j))) mh):wV (neD (.int i) (.int j) mh) P:=⟨_,_,rfl,h⟩
theorem Uq {x y:D}{k:Bool}(e:eqB mh x y=some k) (h:P (.bl k) mh):wV (eqD x y mh) P:=⟨_,_,by unfold eqD;rw [e],h⟩
theorem qC {x y:D}{k:Bool}(e:inB mh x y=some k):Ko y mh=none:=by
 cases q:Ko y mh with
 | none=>rfl
 | some kvs =>
  obtain ⟨n,rfl,en⟩:=V7 q;have p:py mh 60 (.ref n)=none:=by
   show (match mh[n]? with | some (.lst o)=>(match mapO (py mh 59) o with | some xs=>some (PyData.list xs) | none=>none) | _=>none)=_;rw [en]
  unfold inB at e;rw [p] at e;split at e
  ·rename_i z;cases z
  ·rename_i z;cases z
  ·cases e
theorem Ck {neg:Bool}{x y:D}{k:Bool}(e:inB mh x y=some k) (h:P (.bl (if neg then !k else k)) mh):wV (inD neg x y mh) P:=⟨_,_,by unfold inD;rw [qC e];dsimp only;unfold Yw;rw [e],h⟩
theorem X5 {n m:Nat}{xs ys:List D}(e1:mh[n]?=some (.lst xs)) (e2:mh[m]?=some (.lst ys)) (hz:xs.length+ys.length<=1000000) (h:P (.ref mh.length) (mh++[.lst (xs++ys)])):wV (Cz (.ref n) (.ref m) mh) P:=⟨_,_,gJ e1 e2 hz,h⟩
theorem Ae {ds:List D}{j:Nat}{d:D}(e:ds[j]?=some d) (h:P d mh):wV (ixD (.tup ds) (.int j) mh) P:=⟨d,mh,by simp only [ixD,Ko,cA,Dc,Ql e],h⟩
theorem xJ {ds:List D}{j:Nat}{d:D}(e:ds[j]?=some d) (h:P d mh):wV (ixD (.rol ds) (.int j) mh) P:=⟨d,mh,by simp only [ixD,Ko,cA,Dc,Ql e],h⟩
theorem Bh {n:Nat}{ds:List D}{j:Nat}{d:D}(e1:mh[n]?=some (.lst ds)) (e:ds[j]?=some d) (h:P d mh):wV (ixD (.ref n) (.int j) mh) P:=⟨d,mh,by simp only [ixD,Z3 e1,cA,Dc,e1,Ql e],h⟩
theorem J3 {n:Nat}{ds:List D}{y:D}(e:mh[n]?=some (.lst ds)) (hz:ds.length<=1000000) (h:P .non (mh.set n (.lst (ds++[y])))):wV (En (.ref n) [y] mh) P:=⟨_,_,Wj e hz,h⟩
theorem gY {n k:Nat}{ds:List D}{y:D}(e:mh[n]?=some (.lst ds)) (hy:ds[k]?=some y) (hz:ds.length<=1000000) (h:P y (mh.set n (.lst (ds.eraseIdx k)))):wV (Cj (.ref n) [.int k] mh) P:=by
 have hk:k < ds.length:=(List.getElem?_eq_some_iff.mp hy).1;have e2:ixN ds.length (k:Int)=some k:=by unfold ixN;rw [if_pos (by omega),if_pos (by omega)];simp
 have hb:-(2 ^ 63)<=(k:Int)/\(k:Int) < 2 ^ 63:=by omega
 exact ⟨_,_,by simp only [Cj,e,if_pos hb,e2,hy],h⟩
theorem Cg {x:D}{ds:List D}(hx:∀ z,x≠.str z) (e:Dc x mh=some ds) (h:P (.int ds.length) mh):wV (Es [x] mh) P:=by
 refine ⟨_,_,?_,h⟩;cases x with
 | str z=>exact (hx z rfl).elim
 | _=>simp only [Es,e]
theorem Gz {x:D}{ds:List D}(e:Dc x mh=some ds) (h:P (.tup ds) mh):wV (Ft [x] mh) P:=⟨_,_,by simp only [Ft,e],h⟩
theorem Nm {f:List Bool->Bool}{x:D}{bs:List Bool}(e:Dc x mh=some (bs.map D.bl)) (h:P (.bl (f bs)) mh):wV (Jb f [x] mh) P:=⟨_,_,by simp only [Jb,e,Kh],h⟩
end
structure Ext (W:List Nat) (a b:MH):Prop where
 len:a.length<=b.length
 old:∀ i o,i ∉ W->a[i]?=some o->b[i]?=some o
theorem Ext.refl {W:List Nat}{a:MH}:Ext W a a:=⟨Nat.le_refl _,fun _ _ _ e=>e⟩
theorem Ext.trans {W:List Nat}{a b c:MH}(x:Ext W a b) (y:Ext W b c):Ext W a c:=⟨Nat.le_trans x.len y.len,fun i o h e=>y.old i o h (x.old i o h e)⟩
theorem Ext.weak {W:List Nat}{a b:MH}(x:Ext [] a b):Ext W a b:=⟨x.len,fun i o _ e=>x.old i o (by simp) e⟩
theorem Ext.more {W:List Nat}{a g:MH}:Ext W a (a++g):=⟨by rw [List.length_append];omega,fun i o _ e=>by rw [List.getElem?_append_left (List.getElem?_eq_some_iff.mp e).1];exact e⟩
theorem Ext.set {n:Nat}{a:MH}{o:MO}:Ext [n] a (a.set n o):=⟨by rw [List.length_set];exact Nat.le_refl _,fun i o' h e=>by rw [List.getElem?_set_ne (fun z=>h (by simp [z]))];exact e⟩
theorem Ext.setNew {W:List Nat}{n:Nat}{a b:MH}{o:MO}(x:Ext W a b) (h:a.length<=n):Ext W a (b.set n o):=⟨by rw [List.length_set];exact x.len,fun i o' hi e=>by
 have:i < a.length:=(List.getElem?_eq_some_iff.mp e).1
 rw [List.getElem?_set_ne (by omega)];exact x.old i o' hi e⟩
theorem Ai {a:MH}{o:MO}:(a++[o])[a.length]?=some o:=by rw [List.getElem?_append_right (Nat.le_refl _),Nat.sub_self];rfl
theorem Np {a:MH}{n:Nat}{o o':MO}(h:a[n]?=some o'):(a.set n o)[n]?=some o:=by
 rw [List.getElem?_set];simp [(List.getElem?_eq_some_iff.mp h).1]
noncomputable def mkM (c f:Str) (ma:DM D):DM D:=ma.bnd fun d=>Zr (.obj c [f] [d])
theorem Jl {a b:Str}{k:Bool}(ha:PyData.strOk a=true) (hb:PyData.strOk b=true) (e:(a==b)=k) (mh:MH):eqB mh (.str a) (.str b)=some k:=by
 unfold eqB;simp only [py,if_pos ha,if_pos hb,PyData.eqv,e]
theorem Rk (mh:MH) (n:Nat):∀ {ws:List Str},(ws.all PyData.strOk)=true->mapO (py mh n) (ws.map D.str)=some (ws.map PyData.str)
 | [],_=>rfl
 | w::r,h=>by
  rw [List.all_cons,Bool.and_eq_true] at h;have e:py mh n (.str w)=some (.str w):=by cases n <;> (show (if PyData.strOk w=true then some (PyData.str w) else none)=_;rw [if_pos h.1])
  simp only [List.map_cons,mapO,e,Rk mh n h.2]
theorem Nq (w:Str):∀ (ws:List Str),((ws.map PyData.str).any fun y=>PyData.eqv y (.str w))=ws.any (·==w)
 | []=>rfl
 | a::r=>by
  rw [List.map_cons,List.any_cons,List.any_cons,Nq w r];rfl
theorem qD {w:Str}{ws:List Str}(hw:PyData.strOk w=true) (h:(ws.all PyData.strOk)=true) (mh:MH):inB mh (.str w) (.tup (ws.map D.str))=some (ws.any (·==w)):=by
 have e1:py mh 60 (.str w)=some (.str w):=by show (if PyData.strOk w=true then some (PyData.str w) else none)=_;rw [if_pos hw]
 have e2:py mh 60 (.tup (ws.map D.str))=some (.tuple (ws.map PyData.str)):=by
  show (match mapO (py mh 59) (ws.map D.str) with | some xs=>some (PyData.tuple xs) | none=>none)=_;rw [Rk mh 59 h]
 unfold inB;rw [e1,e2];dsimp only;rw [Nq]
theorem Bd {w:Str}{ws:List Str}{n:Nat}{mh:MH}(hw:PyData.strOk w=true) (h:(ws.all PyData.strOk)=true) (e:mh[n]?=some (.lst (ws.map D.str))):inB mh (.str w) (.ref n)=some (ws.any (·==w)):=by
 have e1:py mh 60 (.str w)=some (.str w):=by show (if PyData.strOk w=true then some (PyData.str w) else none)=_;rw [if_pos hw]
 have e2:py mh 60 (.ref n)=some (.list (ws.map PyData.str)):=by
  show (match mh[n]? with | some (.lst o)=>(match mapO (py mh 59) o with | some xs=>some (PyData.list xs) | none=>none) | _=>none)=_;rw [e];dsimp only;rw [Rk mh 59 h]
 unfold inB;rw [e1,e2];dsimp only;rw [Nq]
section
variable {loc:DL.Loc}{mh:MH}{ma:DM D}{mr:DM (List D)}{P:D->MH->Prop}
theorem Abo {c f:Str}(h:wD ma loc mh fun d h1=>P (.obj c [f] [d]) h1):wD (mkM c f ma) loc mh P:=Av (Am h fun _ _ q=>Dd q)
theorem gZ {neg:Bool}{kvs:List (Str×D)}(h:wD ma loc mh fun x h1=>∃ k,x=.str k/\P (.bl (if neg then !(kvs.lookup k).isSome else (kvs.lookup k).isSome)) h1):wD (Ht neg kvs ma) loc mh P:=Av (Am h fun _ _ ⟨k,e,q⟩=>by subst e;exact Dd q)
theorem iB {kvs:List (Str×D)}(h:wD ma loc mh fun x h1=>∃ k d,x=.str k/\kvs.lookup k=some d/\P d h1):wD (Px kvs ma) loc mh P:=Av (Am h fun _ _ ⟨k,d,e,l,q⟩=>by
 subst e;show wD (match kvs.lookup k with | some d=>Zr d | none=>Zb) _ _ _
 rw [l];exact Dd q)
theorem qF {ok:Str->Str->Bool}{f:Str}(h:wD ma loc mh fun x h1=>∃ c ks ds d,x=.obj c ks ds/\ok c f=true/\(ks.zip ds).lookup f=some d/\P d h1):wD (El ok f ma) loc mh P:=Av (Am h fun _ h1 ⟨c,ks,ds,d,e,o,l,q⟩=>by
 subst e;refine ⟨d,h1,?_,q⟩;show (if ok c f then Zl (T4 c f (.obj c ks ds)) else Zb) loc h1=_;rw [if_pos o];show T4 c f (.obj c ks ds) h1=_
 simp only [T4,beq_self_eq_true,if_true,l])
theorem xK {met:Str->Str->Option (List Str×Fn)}{m:Str}(h:wD ma loc mh fun x h1=>∃ c ks ds ps g,x=.obj c ks ds/\met c m=some (ps,g)/\ks.contains m=false/\wD mr loc h1 fun as h2=>wV (g (.obj c ks ds::as) h2) P):wD (Ey met m ma mr) loc mh P:=Av (Am h fun _ h1 ⟨c,ks,ds,ps,g,e,em,hk,q⟩=>by
 subst e;show wD (match met c m with | some (_,g)=>if ks.contains m then Zb else mr.bnd fun as=>Zl (g (.obj c ks ds::as)) | none=>Zb) _ _ _;rw [em];dsimp only;rw [if_neg (by rw [hk];simp)]
 exact Av (Am q fun _ _ z=>z))
theorem xN {i j:Nat}{Q:Fl->DL.Loc->MH->Prop}(h:wD mr loc mh fun ds h1=>∃ d e,ds=[d,e]/\Q .nx ((loc.set i (some d)).set j (some e)) h1):wS (Z9 mr i j) loc mh Q:=by
 obtain ⟨ds,h1,e,d,d2,rfl,q⟩:=h;exact ⟨.nx,_,h1,by unfold Z9;rw [e],q⟩
theorem xO {R:Src->MH->Prop}(h:wD mr loc mh fun ds h1=>∃ x y s t,ds=[x,y]/\srcOf x h1=some s/\srcOf y h1=some t/\R (.zip s t) h1):wD (Tj mr) loc mh R:=Av (Am h fun _ h1 ⟨x,y,s,t,e,e1,e2,q⟩=>by
 subst e
 exact ⟨_,h1,by simp only [oN,e1,e2],q⟩)
theorem Hg {c f:Str}{t:D}{ok:Str->Str->Bool}{Q:D->Prop}(ho:ok c f=true) (h:Q t):∃ c' ks ds d,D.obj c [f] [t]=.obj c' ks ds/\ok c' f=true/\(ks.zip ds).lookup f=some d/\Q d:=⟨c,[f],[t],t,rfl,ho,by simp [List.lookup],h⟩
theorem iC {i j:Int}(h1:0<=j) (h2:j<=1000000) (h3:i.natAbs < 2 ^ 64) (h:P (.int (i ^ j.toNat)) mh):wV (wF (.int i) (.int j) mh) P:=Nk (by rw [decide_eq_true h1,decide_eq_true h2,decide_eq_true h3];rfl) h
theorem iD {a b:Str}(ha:PyData.strOk a=true) (hb:PyData.strOk b=true) (e:(a==b)=true) (h:P (.bl true) mh):wV (eqD (.str a) (.str b) mh) P:=Uq (Jl ha hb e mh) h
theorem Ik {a b:Str}(ha:PyData.strOk a=true) (hb:PyData.strOk b=true) (e:(a==b)=false) (h:P (.bl false) mh):wV (eqD (.str a) (.str b) mh) P:=Uq (Jl ha hb e mh) h
end
section
variable {loc:DL.Loc}{mh:MH}{ma:DM D}{mr:DM (List D)}{P:D->MH->Prop}
theorem xP {kvs:List (Str×D)}(h:wD mr loc mh fun ds h1=>∃ d,getOf kvs ds=some d/\P d h1):wD (Q9 kvs mr) loc mh P:=Av (Am h fun ds _ ⟨d,e,q⟩=>by
 show wD (match getOf kvs ds with | some d=>Zr d | none=>Zb) _ _ _
 rw [e];exact Dd q)
end
theorem Abp {k:Bool}{B:Bool->Prop}(h:B k):∃ j,D.bl k=.bl j/\B j:=⟨k,rfl,h⟩
theorem xQ {i:Int}{B:Int->Prop}(h:B i):∃ j,D.int i=.int j/\B j:=⟨i,rfl,h⟩
theorem iH {p q:Prop}(h:p):((true=true)->p)/\((true=false)->q):=⟨fun _=>h,fun z=>by cases z⟩
theorem xR {p q:Prop}(h:q):((false=true)->p)/\((false=false)->q):=⟨fun z=>(by cases z),fun _=>h⟩
theorem X6 {k:Bool}{p q:Prop}(e:k=true) (h:p):(k=true->p)/\(k=false->q):=⟨fun _=>h,fun z=>by rw [e] at z;cases z⟩
theorem Rm {k:Bool}{p q:Prop}(e:k=false) (h:q):(k=true->p)/\(k=false->q):=⟨fun z=>(by rw [e] at z;cases z),fun _=>h⟩
theorem Eo {k:Bool}{p q:Prop}(h1:k=true->p) (h2:k=false->q):(k=true->p)/\(k=false->q):=⟨h1,h2⟩
theorem xT {k:Bool}{h:MH}{B:Bool->Prop}(q:B k):∃ j,bW (.bl k) h=some j/\B j:=⟨k,rfl,q⟩
theorem xU {T t:String}{x:D}{b:Bool}{mh:MH}{P:D->MH->Prop}(e1:cD x mh=some t) (e2:uW t T=some b) (h:P (.bl b) mh):wV (Sd T x mh) P:=⟨_,_,by unfold Sd;rw [e1];dsimp only;rw [e2],h⟩
noncomputable def J4 (l:List Nat):D:=.tup (l.map Aw)
noncomputable def simple:D->Bool
 | .int _=>true
 | .bl _=>true
 | .non=>true
 | _=>false
theorem Ur (l:List Nat):l.map Aw=(l.map fun n:Nat=>(n:Int)).map D.int:=by rw [List.map_map];rfl
theorem aF {α β:Type}{f:α->β}{l:List α}(nd:l.Nodup) (inj:∀ a∈l,∀ b∈l,f a=f b->a=b):(l.map f).Nodup:=by
 induction l with
 | nil=>exact List.nodup_nil
 | cons a r ih =>
  obtain ⟨na,nr⟩:=List.nodup_cons.mp nd;rw [List.map_cons,List.nodup_cons];refine ⟨fun hm=>?_,ih nr fun x hx y hy=>inj x (.tail _ hx) y (.tail _ hy)⟩;obtain ⟨b,hb,e⟩:=List.mem_map.mp hm;have:=inj b (.tail _ hb) a (.head _) e;exact na (this ▸ hb)
mutual
noncomputable def dat:Nat->D->Bool
 | _,.int _=>true
 | _,.bl _=>true
 | _,.non=>true
 | _,.str x=>PyData.strOk x
 | n+1,.tup ds=>aG n ds
 | _,_=>false
noncomputable def aG:Nat->List D->Bool
 | _,[]=>true
 | n,d::r=>dat n d&&aG n r
end
mutual
theorem xV (mh:MH):∀ (n:Nat) (d:D),dat n d=true->∃ a,py mh n d=some a/\a.canLay0=true
 | n,.int i,_=>⟨.int i,by cases n <;> rfl,rfl⟩
 | n,.bl i,_=>⟨.bool i,by cases n <;> rfl,rfl⟩
 | n,.non,_=>⟨.none,by cases n <;> rfl,rfl⟩
 | n,.str x,h=>by
  have h2:PyData.strOk x=true:=by cases n <;> exact h
  exact ⟨.str x,by cases n <;> (show (if PyData.strOk x=true then some (PyData.str x) else none)=_;rw [if_pos h2]),h2⟩
 | 0,.tup ds,h=>by simp [dat] at h
 | n+1,.tup ds,h=>by
  have h:aG n ds=true:=h;obtain ⟨as,e,l⟩:=X7 mh n ds h;exact ⟨.tuple as,by simp only [py,e],by simpa [PyData.canLay0] using l⟩
 | 0,.ref _,h=>by simp [dat] at h
 | _+1,.ref _,h=>by simp [dat] at h
 | 0,.rol _,h=>by simp [dat] at h
 | _+1,.rol _,h=>by simp [dat] at h
 | 0,.obj ..,h=>by simp [dat] at h
 | _+1,.obj ..,h=>by simp [dat] at h
 | 0,.fn _,h=>by simp [dat] at h
 | _+1,.fn _,h=>by simp [dat] at h
theorem X7 (mh:MH):∀ (n:Nat) (ds:List D),aG n ds=true->∃ as,mapO (py mh n) ds=some as/\PyData.canLayAll0 as=true
 | n,[],_=>⟨[],rfl,rfl⟩
 | n,d::r,h=>by
  have h:(dat n d&&aG n r)=true:=by simpa [aG] using h
  rw [Bool.and_eq_true] at h;obtain ⟨a,e1,l1⟩:=xV mh n d h.1;obtain ⟨as,e2,l2⟩:=X7 mh n r h.2;exact ⟨a::as,by simp only [mapO,e1,e2],by simp only [PyData.canLayAll0,l1,l2,Bool.and_self]⟩
end
theorem P0 {n m:Nat}{xs ys:List D}{mh:MH}{P:D->MH->Prop}(e1:mh[n]?=some (.lst xs)) (e2:mh[m]?=some (.lst ys)) (hz:xs.length+ys.length<=1000000) (h:P .non (mh.set n (.lst (xs++ys)))):wV (Bj (.ref n) [.ref m] mh) P :=
 ⟨_,_,by simp only [Bj,e1,e2,if_pos (le_size hz)],h⟩
theorem ty_list {a:Nat}{ds:List D}{mh:MH}(e:mh[a]?=some (.lst ds)):Y6 "list" (.ref a) mh=true:=by
 show (true&&(match mh[a]? with | some (.lst _)=>true | _=>false))=true;rw [e];rfl
theorem src_list {a:Nat}{ds:List D}{mh:MH}(e:mh[a]?=some (.lst ds)):srcOf (.ref a) mh=some (.lref a):=by
 show (match mh[a]? with | some (.lst _)=>some (Src.lref a) | _=>none)=_;rw [e]
theorem Qa {a:Nat}{ds:List D}{mh:MH}(e:mh[a]?=some (.lst ds)):(Src.lref a).ok mh=true/\(Src.lref a).items mh=ds:=by
 refine ⟨?_,?_⟩
 ·show (match mh[a]? with | some (.lst _)=>true | _=>false)=true;rw [e]
 ·show (match mh[a]? with | some (.lst o)=>o | _=>[])=_;rw [e]
end DL
namespace Lw
open PySem L2 DL
noncomputable def top (i:Nat):Stmt:=PySem.Challenge.pw_letterall_k08_what_a_step_may_change.main.body.getD i (.Pass ⟨0,0,0,0⟩)
noncomputable def Jm (s:Stmt) (j:Nat):Stmt:=match s with
 | .ClassDef _ _ _ b _ _ _ _ _ _ _=>b.getD j (.Pass ⟨0,0,0,0⟩)
 | _=>.Pass ⟨0,0,0,0⟩
noncomputable def f5:FnI:=Ci (top 5)
noncomputable def f6:FnI:=Ci (top 6)
noncomputable def f7:FnI:=Ci (top 7)
noncomputable def f13:FnI:=Ci (top 13)
noncomputable def f14:FnI:=Ci (top 14)
noncomputable def f15:FnI:=Ci (top 15)
noncomputable def f16:FnI:=Ci (top 16)
noncomputable def f17:FnI:=Ci (top 17)
noncomputable def f18:FnI:=Ci (top 18)
noncomputable def f20:FnI:=Ci (top 20)
noncomputable def f21:FnI:=Ci (top 21)
noncomputable def f22:FnI:=Ci (top 22)
noncomputable def f23:FnI:=Ci (top 23)
noncomputable def f24:FnI:=Ci (top 24)
noncomputable def f25:FnI:=Ci (top 25)
noncomputable def f26:FnI:=Ci (top 26)
noncomputable def f27:FnI:=Ci (top 27)
noncomputable def f28:FnI:=Ci (top 28)
noncomputable def f29:FnI:=Ci (top 29)
noncomputable abbrev Nr:Stmt:=Jm (top 12) 1
noncomputable def iJ:FnI:=Ci Nr
noncomputable abbrev Nt:Stmt:=Jm (top 12) 2
noncomputable def iK:FnI:=Ci Nt
noncomputable abbrev Nu:Stmt:=Jm (top 12) 3
noncomputable def iM:FnI:=Ci Nu
noncomputable abbrev Nv:Stmt:=Jm (top 12) 4
noncomputable def Nx:FnI:=Ci Nv
noncomputable abbrev Ny:Stmt:=Jm (top 12) 5
noncomputable def Ku:FnI:=Ci Ny
noncomputable def iQ:List (Str×Stmt):=("_wall",top 0)::("is_whole",top 5)::("is_between",top 6)::("is_tuple_of",top 7)::("written_by_lines",top 13)::("step_of",top 14)::("is_step",top 15)::("fits",top 16)::("are_lines",top 17)::("is_line",top 18)::("_law_cell_at",top 20)::("_law_digit",top 21)::("_law_lines",top 22)::("_law_number",top 23)::("_law_on_names",top 24)::("_law_step",top 25)::("_law_counts",top 26)::("_law_of_take",top 27)::("_law_due",top 28)::("law",top 29)::[]
noncomputable def tb (x:Str):Option FnI:=(iQ.lookup x).map Ci
theorem iR:fX iQ:=⟨Cy ⟨rfl,rfl,rfl,by decide +kernel,by decide +kernel,by decide +kernel,by decide +kernel⟩ fun _ _ _ _ _ _=>ln1 fun _=>rfl,Cy ⟨rfl,rfl,rfl,by decide +kernel,by decide +kernel,by decide +kernel,by decide +kernel⟩ fun _ _ _ _ _ _=>ln1 fun _=>rfl,Cy ⟨rfl,rfl,rfl,by decide +kernel,by decide +kernel,by decide +kernel,by decide +kernel⟩ fun _ _ _ _ _ _=>ln3 fun _ _ _=>rfl,Cy ⟨rfl,rfl,rfl,by decide +kernel,by decide +kernel,by decide +kernel,by decide +kernel⟩ fun _ _ _ _ _ _=>ln2 fun _ _=>rfl,Cy ⟨rfl,rfl,rfl,by decide +kernel,by decide +kernel,by decide +kernel,by decide +kernel⟩ fun _ _ _ _ _ _=>ln1 fun _=>rfl,Cy ⟨rfl,rfl,rfl,by decide +kernel,by decide +kernel,by decide +kernel,by decide +kernel⟩ fun _ _ _ _ _ _=>ln3 fun _ _ _=>rfl,Cy ⟨rfl,rfl,rfl,by decide +kernel,by decide +kernel,by decide +kernel,by decide +kernel⟩ fun _ _ _ _ _ _=>ln3 fun _ _ _=>rfl,Cy ⟨rfl,rfl,rfl,by decide +kernel,by decide +kernel,by decide +kernel,by decide +kernel⟩ fun _ _ _ _ _ _=>ln4 fun _ _ _ _=>rfl,Cy ⟨rfl,rfl,rfl,by decide +kernel,by decide +kernel,by decide +kernel,by decide +kernel⟩ fun _ _ _ _ _ _=>ln2 fun _ _=>rfl,Cy ⟨rfl,rfl,rfl,by decide +kernel,by decide +kernel,by decide +kernel,by decide +kernel⟩ fun _ _ _ _ _ _=>ln2 fun _ _=>rfl,Cy ⟨rfl,rfl,rfl,by decide +kernel,by decide +kernel,by decide +kernel,by decide +kernel⟩ fun _ _ _ _ _ _=>ln2 fun _ _=>rfl,Cy ⟨rfl,rfl,rfl,by decide +kernel,by decide +kernel,by decide +kernel,by decide +kernel⟩ fun _ _ _ _ _ _=>ln2 fun _ _=>rfl,Cy ⟨rfl,rfl,rfl,by decide +kernel,by decide +kernel,by decide +kernel,by decide +kernel⟩ fun _ _ _ _ _ _=>ln2 fun _ _=>rfl,Cy ⟨rfl,rfl,rfl,by decide +kernel,by decide +kernel,by decide +kernel,by decide +kernel⟩ fun _ _ _ _ _ _=>ln1 fun _=>rfl,Cy ⟨rfl,rfl,rfl,by decide +kernel,by decide +kernel,by decide +kernel,by decide +kernel⟩ fun _ _ _ _ _ _=>ln4 fun _ _ _ _=>rfl,Cy ⟨rfl,rfl,rfl,by decide +kernel,by decide +kernel,by decide +kernel,by decide +kernel⟩ fun _ _ _ _ _ _=>ln3 fun _ _ _=>rfl,Cy ⟨rfl,rfl,rfl,by decide +kernel,by decide +kernel,by decide +kernel,by decide +kernel⟩ fun _ _ _ _ _ _=>ln1 fun _=>rfl,Cy ⟨rfl,rfl,rfl,by decide +kernel,by decide +kernel,by decide +kernel,by decide +kernel⟩ fun _ _ _ _ _ _=>ln1 fun _=>rfl,Cy ⟨rfl,rfl,rfl,by decide +kernel,by decide +kernel,by decide +kernel,by decide +kernel⟩ fun _ _ _ _ _ _=>ln1 fun _=>rfl,Cy ⟨rfl,rfl,rfl,by decide +kernel,by decide +kernel,by decide +kernel,by decide +kernel⟩ fun _ _ _ _ _ _=>ln1 fun _=>rfl,trivial⟩
noncomputable def con (_:Str):Option D:=none
noncomputable def Il:List (Str×D):=[("put",(.tup [(.str "number box"),(.str "number")])),("copy",(.tup [(.str "number box"),(.str "number box")])),("raise",(.tup [(.str "number box"),(.str "number")])),("sum",(.tup [(.str "number box"),(.str "number box")])),("choose",(.tup [(.str "number box"),(.str "choices")])),("less",(.tup [(.str "number box"),(.str "number"),(.str "place")])),("before",(.tup [(.str "number box"),(.str "number box"),(.str "place")])),("go",(.tup [(.str "place")])),("me",(.tup [(.str "name box")])),("only",(.tup [(.str "name box"),(.str "lone role")])),("pick",(.tup [(.str "name box"),(.str "role")])),("alike",(.tup [(.str "name box"),(.str "name box"),(.str "place")])),("all",(.tup [(.str "set box"),(.str "role")])),("empty",(.tup [(.str "set box")])),("join",(.tup [(.str "set box"),(.str "name box")])),("out",(.tup [(.str "name box"),(.str "set box"),(.str "place")])),("many",(.tup [(.str "set box"),(.str "amount"),(.str "place")])),("send",(.tup [(.str "name box"),(.str "kind"),(.str "number box"),(.str "name box")])),("take",(.tup [(.str "name box or -1"),(.str "lines")])),("bell",(.tup []))]
noncomputable def Ld:List (Str×D):=[("number box",(.tup [(.int (0)),(.int (2))])),("name box",(.tup [(.int (0)),(.int (2))])),("name box or -1",(.tup [(.int (-1)),(.int (2))])),("set box",(.tup [(.int (0)),(.int (1))])),("kind",(.tup [(.int (1)),(.int (12))])),("choices",(.tup [(.int (1)),(.int (20))])),("amount",(.tup [(.int (0)),(.int (6))]))]
noncomputable def Fi:List (Str×D):=[("put",(.tup [(.str "number")])),("copy",(.tup [(.str "number")])),("raise",(.tup [(.str "number")])),("sum",(.tup [(.str "number")])),("choose",(.tup [(.str "number")])),("me",(.tup [(.str "name")])),("only",(.tup [(.str "name")])),("pick",(.tup [(.str "name")])),("all",(.tup [(.str "set")])),("empty",(.tup [(.str "set")])),("join",(.tup [(.str "set")])),("out",(.tup [(.str "name"),(.str "set")]))]
noncomputable def dic (x:Str):Option (List (Str×D)):=if x=="FORMS" then some Il else if x=="BOUNDS" then some Ld else if x=="WRITTEN" then some Fi else none
noncomputable def fld (c f:Str):Bool:=(c == "Step"&&f == "form")
noncomputable def tbm (c m:Str):Option FnI:=if c == "Step"&&m == "told" then some iJ else if c == "Step"&&m == "nexts" then some iK else if c == "Step"&&m == "forward" then some iM else if c == "Step"&&m == "is_quiet_word" then some Nx else if c == "Step"&&m == "writes" then some Ku else none
noncomputable def mkr (c:Str):Option Str:=if c == "Step" then some "form" else none
noncomputable def Tt:Tb:={ tb:=tb,con:=con,dic:=dic,fld:=fld,tbm:=tbm,mkr:=mkr }
theorem scq {N P:List Str}{sc:Scope}(a:sc.kind=.function)(b:sc.isCoroutine=false)(c:sc.isGenerator=false)(h:N.Nodup/\N.take P.length=P/\(∀ x∈P,sc.names.lookup x=some .local\/sc.names.lookup x=some .cell)/\∀ y∈sc.names,y.2≠.free):FnScope N P sc:=⟨a,b,c,h.1,h.2.1,h.2.2.1,h.2.2.2⟩
theorem xW:FnScope iJ.N iJ.ps (Af Nr):=scq rfl rfl rfl (by decide +kernel)
theorem xX:FnScope iK.N iK.ps (Af Nt):=scq rfl rfl rfl (by decide +kernel)
theorem xY:FnScope iM.N iM.ps (Af Nu):=scq rfl rfl rfl (by decide +kernel)
theorem xZ:FnScope Nx.N Nx.ps (Af Nv):=scq rfl rfl rfl (by decide +kernel)
theorem yC:FnScope Ku.N Ku.ps (Af Ny):=scq rfl rfl rfl (by decide +kernel)
theorem rC:f5.ps.length=1/\f5.N.length=1:=by decide +kernel
theorem rE:f6.ps.length=3/\f6.N.length=3:=by decide +kernel
theorem rF:f7.ps.length=2/\f7.N.length=2:=by decide +kernel
theorem iU:f13.ps.length=1/\f13.N.length=3:=by decide +kernel
theorem iV:f14.ps.length=3/\f14.N.length=3:=by decide +kernel
theorem iW:f15.ps.length=3/\f15.N.length=4:=by decide +kernel
theorem iY:f16.ps.length=4/\f16.N.length=5:=by decide +kernel
theorem iZ:f17.ps.length=2/\f17.N.length=2:=by decide +kernel
theorem jA:f18.ps.length=2/\f18.N.length=2:=by decide +kernel
theorem jB:f20.ps.length=2/\f20.N.length=2:=by decide +kernel
theorem jC:f21.ps.length=2/\f21.N.length=4:=by decide +kernel
theorem jD:f22.ps.length=2/\f22.N.length=9:=by decide +kernel
theorem jE:f23.ps.length=1/\f23.N.length=1:=by decide +kernel
theorem jF:f24.ps.length=4/\f24.N.length=7:=by decide +kernel
theorem jG:f25.ps.length=3/\f25.N.length=6:=by decide +kernel
theorem jH:f26.ps.length=1/\f26.N.length=3:=by decide +kernel
theorem jJ:f27.ps.length=1/\f27.N.length=7:=by decide +kernel
theorem jK:f28.ps.length=1/\f28.N.length=1:=by decide +kernel
theorem jL:f29.ps.length=1/\f29.N.length=9:=by decide +kernel
theorem Us:Nx.ps.length=1/\Nx.N.length=1:=by decide +kernel
theorem Fj:Ku.ps.length=1/\Ku.N.length=2:=by decide +kernel
theorem Ac1 {w:World}{K:W.Frag}{h:Heap}{mg:Str->Option Value}(X:K.In h) (G:h.Ns mainGlobals mg){da0:Addr} {es0:Array DictEntry} {ep0:Nat}{da1:Addr} {es1:Array DictEntry} {ep1:Nat}{da2:Addr} {es2:Array DictEntry} {ep2:Nat}{C12:Addr}{f12_1':Addr} {od12_1 an12_1:Option Addr} {sl12_1:Array (Option Value)} {oc12_1 kV12_1 dc12_1 pm12_1 cd12_1 ct12_1:Value}{f12_2':Addr} {od12_2 an12_2:Option Addr} {sl12_2:Array (Option Value)} {oc12_2 kV12_2 dc12_2 pm12_2 cd12_2 ct12_2:Value}{f12_3':Addr} {od12_3 an12_3:Option Addr} {sl12_3:Array (Option Value)} {oc12_3 kV12_3 dc12_3 pm12_3 cd12_3 ct12_3:Value}{f12_4':Addr} {od12_4 an12_4:Option Addr} {sl12_4:Array (Option Value)} {oc12_4 kV12_4 dc12_4 pm12_4 cd12_4 ct12_4:Value}{f12_5':Addr} {od12_5 an12_5:Option Addr} {sl12_5:Array (Option Value)} {oc12_5 kV12_5 dc12_5 pm12_5 cd12_5 ct12_5:Value}{f12_0':Addr} {od12_0 an12_0:Option Addr} {sl12_0:Array (Option Value)} {oc12_0 kV12_0 dc12_0 pm12_0 cd12_0 ct12_0:Value}(rf:Uk K iQ)(rb:Ul K Jh)(d0:W.nsIn K mainGlobals "FORMS"=some (some (.ref da0)))(e0:K.lookup da0=some ⟨.type "dict",none,.dict es0 ep0,#[]⟩)(g0:(da0==sysModules)=false)(h0:es0.toList.map (M5 w)=es0.toList)(r0:rdE K 60 es0.toList=some Il)(d1:W.nsIn K mainGlobals "BOUNDS"=some (some (.ref da1)))(e1:K.lookup da1=some ⟨.type "dict",none,.dict es1 ep1,#[]⟩)(g1:(da1==sysModules)=false)(h1:es1.toList.map (M5 w)=es1.toList)(r1:rdE K 60 es1.toList=some Ld)(d2:W.nsIn K mainGlobals "WRITTEN"=some (some (.ref da2)))(e2:K.lookup da2=some ⟨.type "dict",none,.dict es2 ep2,#[]⟩)(g2:(da2==sysModules)=false)(h2:es2.toList.map (M5 w)=es2.toList)(r2:rdE K 60 es2.toList=some Fi)(C12a:W.nsIn K mainGlobals "Step"=some (some (.ref C12)))(C12b:W.plainGet K C12 Str.empty=true)(C12c:W.hasDictIn K C12=true)(C12d:W.plainOver K C12=true)(C12e:W.findIn K (.ref C12) "__setattr__"=some (some (.builtin "object.__setattr__")))(C12f:W.findIn K (.ref C12) "form"=some none)(a12_1:W.findIn K (.ref C12) "told"=some (some (.ref f12_1')))(b12_1:W.isFn K (.ref f12_1')=true)(l12_1:K.lookup f12_1'=some ⟨oc12_1,od12_1,.func (W.fnOf "told" "Step.told" (Bt Nr) (Bb Nr) (Af Nr) .none kV12_1 dc12_1 pm12_1 an12_1 cd12_1 ct12_1),sl12_1⟩)(c12_1:W.codeIn K cd12_1 "Step.told"=true)(k12_1:W.keepIn K (.ref f12_1')=true)(a12_2:W.findIn K (.ref C12) "nexts"=some (some (.ref f12_2')))(b12_2:W.isFn K (.ref f12_2')=true)(l12_2:K.lookup f12_2'=some ⟨oc12_2,od12_2,.func (W.fnOf "nexts" "Step.nexts" (Bt Nt) (Bb Nt) (Af Nt) .none kV12_2 dc12_2 pm12_2 an12_2 cd12_2 ct12_2),sl12_2⟩)(c12_2:W.codeIn K cd12_2 "Step.nexts"=true)(k12_2:W.keepIn K (.ref f12_2')=true)(a12_3:W.findIn K (.ref C12) "forward"=some (some (.ref f12_3')))(b12_3:W.isFn K (.ref f12_3')=true)(l12_3:K.lookup f12_3'=some ⟨oc12_3,od12_3,.func (W.fnOf "forward" "Step.forward" (Bt Nu) (Bb Nu) (Af Nu) .none kV12_3 dc12_3 pm12_3 an12_3 cd12_3 ct12_3),sl12_3⟩)(c12_3:W.codeIn K cd12_3 "Step.forward"=true)(k12_3:W.keepIn K (.ref f12_3')=true)(a12_4:W.findIn K (.ref C12) "is_quiet_word"=some (some (.ref f12_4')))(Nz:W.isFn K (.ref f12_4')=true)(l12_4:K.lookup f12_4'=some ⟨oc12_4,od12_4,.func (W.fnOf "is_quiet_word" "Step.is_quiet_word" (Bt Nv) (Bb Nv) (Af Nv) .none kV12_4 dc12_4 pm12_4 an12_4 cd12_4 ct12_4),sl12_4⟩)(c12_4:W.codeIn K cd12_4 "Step.is_quiet_word"=true)(k12_4:W.keepIn K (.ref f12_4')=true)(a12_5:W.findIn K (.ref C12) "writes"=some (some (.ref f12_5')))(G3:W.isFn K (.ref f12_5')=true)(l12_5:K.lookup f12_5'=some ⟨oc12_5,od12_5,.func (W.fnOf "writes" "Step.writes" (Bt Ny) (Bb Ny) (Af Ny) .none kV12_5 dc12_5 pm12_5 an12_5 cd12_5 ct12_5),sl12_5⟩)(c12_5:W.codeIn K cd12_5 "Step.writes"=true)(k12_5:W.keepIn K (.ref f12_5')=true)(a12_0:W.findIn K (.ref C12) "__init__"=some (some (.ref f12_0')))(b12_0:W.isFn K (.ref f12_0')=true)(l12_0:K.lookup f12_0'=some ⟨oc12_0,od12_0,.func (W.fnOf "__init__" "Step.__init__" (Bt (Jm (top 12) 0)) (Bb (Jm (top 12) 0)) (Af (Jm (top 12) 0)) .none kV12_0 dc12_0 pm12_0 an12_0 cd12_0 ct12_0),sl12_0⟩)(c12_0:W.codeIn K cd12_0 "Step.__init__"=true)(k12_0:W.keepIn K (.ref f12_0')=true)(C12m:W.makesIn K C12=true)(C12k:W.keepIn K (.ref C12)=true):TbOk w K mg Tt:=by
 refine ⟨fun x I hx=>?_,fun x d hx=>?_,fun b hb=>?_,fun x kvs hx=>?_,fun c f hx=>?_,fun c m I hx=>?_,fun c f hx=>?_⟩
 ·exact Xy X G rf iR hx
 ·cases hx
 ·exact Um X G rb b hb
 ·change dic x=some kvs at hx;unfold dic at hx;split at hx
  ·rename_i e;rw [eq_of_beq e];cases hx;exact ⟨_,W.mg_of X G d0,V4 g0 e0 h0 r0⟩
  ·
   split at hx
   ·rename_i e;rw [eq_of_beq e];cases hx;exact ⟨_,W.mg_of X G d1,V4 g1 e1 h1 r1⟩
   ·
    split at hx
    ·rename_i e;rw [eq_of_beq e];cases hx;exact ⟨_,W.mg_of X G d2,V4 g2 e2 h2 r2⟩
    ·cases hx
 ·change fld c f=true at hx;unfold fld at hx;simp only [Bool.or_eq_true,Bool.and_eq_true,beq_iff_eq] at hx;rcases hx with ⟨rfl,rfl⟩
  ·exact ⟨_,C12a,⟨C12b,C12c,C12d,C12e⟩,C12f⟩
 ·change tbm c m=some I at hx;unfold tbm at hx;split at hx
  ·rename_i e;rw [Bool.and_eq_true] at e;rw [eq_of_beq e.1,eq_of_beq e.2];cases hx;exact ⟨_,Nr,_,_,_,C12a,⟨C12b,C12c,C12d,C12e⟩,⟨a12_1,b12_1,k12_1⟩,Hx (st:=Nr) l12_1 c12_1 k12_1,xW,rfl,rfl,ln1 fun _=>rfl⟩
  ·
   split at hx
   ·rename_i e;rw [Bool.and_eq_true] at e;rw [eq_of_beq e.1,eq_of_beq e.2];cases hx;exact ⟨_,Nt,_,_,_,C12a,⟨C12b,C12c,C12d,C12e⟩,⟨a12_2,b12_2,k12_2⟩,Hx (st:=Nt) l12_2 c12_2 k12_2,xX,rfl,rfl,ln2 fun _ _=>rfl⟩
   ·
    split at hx
    ·rename_i e;rw [Bool.and_eq_true] at e;rw [eq_of_beq e.1,eq_of_beq e.2];cases hx;exact ⟨_,Nu,_,_,_,C12a,⟨C12b,C12c,C12d,C12e⟩,⟨a12_3,b12_3,k12_3⟩,Hx (st:=Nu) l12_3 c12_3 k12_3,xY,rfl,rfl,ln2 fun _ _=>rfl⟩
    ·
     split at hx
     ·rename_i e;rw [Bool.and_eq_true] at e;rw [eq_of_beq e.1,eq_of_beq e.2];cases hx;exact ⟨_,Nv,_,_,_,C12a,⟨C12b,C12c,C12d,C12e⟩,⟨a12_4,Nz,k12_4⟩,Hx (st:=Nv) l12_4 c12_4 k12_4,xZ,rfl,rfl,ln1 fun _=>rfl⟩
     ·
      split at hx
      ·rename_i e;rw [Bool.and_eq_true] at e;rw [eq_of_beq e.1,eq_of_beq e.2];cases hx;exact ⟨_,Ny,_,_,_,C12a,⟨C12b,C12c,C12d,C12e⟩,⟨a12_5,G3,k12_5⟩,Hx (st:=Ny) l12_5 c12_5 k12_5,yC,rfl,rfl,ln1 fun _=>rfl⟩
      ·cases hx
 ·change mkr c=some f at hx;unfold mkr at hx;split at hx
  ·rename_i e;rw [eq_of_beq e];cases hx;exact ⟨_,_,_,["self", "form"],C12a,⟨C12m,a12_0,b12_0,C12k⟩,W.mg_of X G C12a,.all (ln2 fun _ _=>rfl),fun P w base=>oV (Hx (st:=Jm (top 12) 0) l12_0 c12_0 k12_0) ⟨rfl,rfl,rfl,by decide +kernel,by decide +kernel,by decide +kernel,by decide +kernel⟩ rfl (.inl (by decide +kernel)) (.inl (by decide +kernel)) ⟨C12b,C12c,C12d,C12e⟩ C12f (by decide) (by decide)⟩
  ·cases hx
noncomputable def Gk (k:Nat):Gb:=GkN Tt k
noncomputable abbrev Bq (I:FnI) (k:Nat):SM:=iSs (Gk (k+1)) fuel {N:=I.N,scope:=I.scope,own:=fun _=>true} I.body
noncomputable def Abq (k:Nat):Str->Str->Option (List Str×Fn):=fun c m=>(match tbm c m with | some I=>some (I.ps,Ak (Gk k) fuel I) | none=>none)
noncomputable def b5 (k:Nat):SM :=
 (Ab (retS (Gp (Ui "int" (vr 0)) (Abg (Ui "bool" (vr 0)))))
 Zn)
theorem Abr (k:Nat):Bq f5 k=b5 k:=by kernel_rfl
noncomputable def b6 (k:Nat):SM :=
 (Ab (retS (Gp (Al (Ak (Gk k) fuel f5) (Aa (vr 0) (Zr []))) (Gr leD leD (vr 1) (vr 0) (vr 2))))
 Zn)
theorem Abs (k:Nat):Bq f6 k=b6 k:=by kernel_rfl
noncomputable def b7 (k:Nat):SM :=
 (Ab (retS (Gp (Ui "tuple" (vr 0)) (dop eqD (Al Es (Aa (vr 0) (Zr []))) (vr 1))))
 Zn)
theorem Abt (k:Nat):Bq f7 k=b7 k:=by kernel_rfl
noncomputable def b13 (k:Nat):SM :=
 (Ab (Bm (lstM (Zr [])) (Bp 1))
 (Ab (Qv (Gj (vr 0)) (Bp 2)
 (Ab (ifS (Ag (dop eqD (dop ixD (vr 2) (Zr (.int 0))) (Zr (.int 0))))
  (Ab (Ho (Cu "list" En (vr 1) (Aa (Bk (Aa (Zr (.str "bell")) (Zr []))) (Zr []))))
   Zn)
  (Ab (Ho (Cu "list" Bj (vr 1) (Aa (lstM (Aa (Bk (Aa (Zr (.str "number")) (Aa (dop ixD (vr 2) (Zr (.int 1))) (Zr [])))) (Aa (Bk (Aa (Zr (.str "name")) (Aa (dop ixD (vr 2) (Zr (.int 2))) (Zr [])))) (Aa (Bk (Aa (Zr (.str "name")) (Aa (dop ixD (vr 2) (Zr (.int 3))) (Zr [])))) (Zr []))))) (Zr []))))
   Zn))
  Zn))
 (Ab (retS (Al Ft (Aa (Ni (vr 1)) (Zr []))))
 Zn)))
theorem yD (k:Nat):Bq f13 k=b13 k:=by kernel_rfl
noncomputable def b14 (k:Nat):SM :=
 (Ab (ifS (Fb (Jr (Al (Ak (Gk k) fuel f15) (Aa (vr 0) (Aa (vr 1) (Aa (vr 2) (Zr [])))))))
 (Ab SM.bad
  Zn)
 Zn)
 (Ab (retS (mkM "Step" "form" (vr 0)))
 Zn))
theorem yE (k:Nat):Bq f14 k=b14 k:=by kernel_rfl
noncomputable def b15 (k:Nat):SM :=
 (Ab (ifS (Ip (Fb (Jr (Ui "tuple" (vr 0)))) (Ag (dop eqD (Al Es (Aa (vr 0) (Zr []))) (Zr (.int 0)))))
 (Ab (retS (Zr (.bl false)))
  Zn)
 Zn)
 (Ab (ifS (Ip (Fb (Jr (Ui "str" (dop ixD (vr 0) (Zr (.int 0)))))) (Ag (Ht true Il (dop ixD (vr 0) (Zr (.int 0))))))
 (Ab (retS (Zr (.bl false)))
  Zn)
 Zn)
 (Ab (Bm (Px Il (dop ixD (vr 0) (Zr (.int 0)))) (Bp 3))
 (Ab (ifS (Ag (dop neD (Al Es (Aa (vr 0) (Zr []))) (dop Cz (Zr (.int 1)) (Al Es (Aa (vr 3) (Zr []))))))
 (Ab (retS (Zr (.bl false)))
  Zn)
 Zn)
 (Ab (retS (Al dW (Aa (Dz (Tj (Aa (vr 3) (Aa (dSl (vr 0) (some (Zr (.int 1))) none) (Zr [])))) [none,none,none,some 2,some 1] (R7 [1,2]) (Zr true) (Al (Ak (Gk k) fuel f16) (Aa (vr 1) (Aa (vr 2) (Aa (vr 4) (Aa (vr 3) (Zr []))))))) (Zr []))))
 Zn)))))
theorem yF (k:Nat):Bq f15 k=b15 k:=by kernel_rfl
noncomputable def b16 (k:Nat):SM :=
 (Ab (ifS (Ag (dop eqD (vr 0) (Zr (.str "lines"))))
 (Ab (retS (Al (Ak (Gk k) fuel f17) (Aa (vr 1) (Aa (vr 2) (Zr [])))))
  Zn)
 Zn)
 (Ab (ifS (Ag (dop eqD (vr 0) (Zr (.str "number"))))
 (Ab (retS (Al (Ak (Gk k) fuel f5) (Aa (vr 1) (Zr []))))
  Zn)
 Zn)
 (Ab (ifS (Ag (dop eqD (vr 0) (Zr (.str "place"))))
 (Ab (retS (Al (Ak (Gk k) fuel f6) (Aa (vr 1) (Aa (Zr (.int 0)) (Aa (vr 2) (Zr []))))))
  Zn)
 Zn)
 (Ab (ifS (Ag (dop eqD (vr 0) (Zr (.str "role"))))
 (Ab (retS (Al (Ak (Gk k) fuel f6) (Aa (vr 1) (Aa (Zr (.int 0)) (Aa (dop fU (Al Es (Aa (vr 3) (Zr []))) (Zr (.int 1))) (Zr []))))))
  Zn)
 Zn)
 (Ab (ifS (Ag (dop eqD (vr 0) (Zr (.str "lone role"))))
 (Ab (retS (Gp (Al (Ak (Gk k) fuel f6) (Aa (vr 1) (Aa (Zr (.int 0)) (Aa (dop fU (Al Es (Aa (vr 3) (Zr []))) (Zr (.int 1))) (Zr []))))) (dop eqD (dop ixD (vr 3) (vr 1)) (Zr (.int 1)))))
  Zn)
 Zn)
 (Ab (Bm (Px Ld (vr 0)) (Bp 4))
 (Ab (retS (Al (Ak (Gk k) fuel f6) (Aa (vr 1) (Aa (dop ixD (vr 4) (Zr (.int 0))) (Aa (dop ixD (vr 4) (Zr (.int 1))) (Zr []))))))
 Zn)))))))
theorem yG (k:Nat):Bq f16 k=b16 k:=by kernel_rfl
noncomputable def b17 (k:Nat):SM :=
 (Ab (ifS (Ip (Fb (Jr (Ui "tuple" (vr 0)))) (Fb (Ag (Gr leD leD (Zr (.int 1)) (Al Es (Aa (vr 0) (Zr []))) (Zr (.int 13))))))
 (Ab (retS (Zr (.bl false)))
  Zn)
 Zn)
 (Ab (ifS (Fb (Jr (Al dW (Aa (Dz (Gj (vr 0)) [none,none,some 1] (Bp 1) (Zr true) (Al (Ak (Gk k) fuel f18) (Aa (vr 1) (Aa (vr 2) (Zr []))))) (Zr [])))))
 (Ab (retS (Zr (.bl false)))
  Zn)
 Zn)
 (Ab (retS (dop eqD (Xx (Dz (Gj (vr 0)) [none,none] (Bp 1) (Zr true) (dop ixD (vr 1) (Zr (.int 0))))) (Al Es (Aa (vr 0) (Zr [])))))
 Zn)))
theorem yH (k:Nat):Bq f17 k=b17 k:=by kernel_rfl
noncomputable def b18 (k:Nat):SM :=
 (Ab (ifS (Fb (Jr (Al (Ak (Gk k) fuel f7) (Aa (vr 0) (Aa (Zr (.int 5)) (Zr []))))))
 (Ab (retS (Zr (.bl false)))
  Zn)
 Zn)
 (Ab (ifS (Ip (Fb (Jr (Al (Ak (Gk k) fuel f6) (Aa (dop ixD (vr 0) (Zr (.int 0))) (Aa (Zr (.int 0)) (Aa (Zr (.int 12)) (Zr []))))))) (Fb (Jr (Al (Ak (Gk k) fuel f6) (Aa (dop ixD (vr 0) (Zr (.int 4))) (Aa (Zr (.int 0)) (Aa (vr 1) (Zr []))))))))
 (Ab (retS (Zr (.bl false)))
  Zn)
 Zn)
 (Ab (retS (Gp (Al dW (Aa (Dz (Gj (dSl (vr 0) (some (Zr (.int 1))) (some (Zr (.int 4))))) [none,none] (Bp 1) (Zr true) (Al (Ak (Gk k) fuel f6) (Aa (vr 1) (Aa (Zr (.int 0)) (Aa (Zr (.int 2)) (Zr [])))))) (Zr []))) (dop neD (dop ixD (vr 0) (Zr (.int 2))) (dop ixD (vr 0) (Zr (.int 3))))))
 Zn)))
theorem yI (k:Nat):Bq f18 k=b18 k:=by kernel_rfl
noncomputable def b20 (k:Nat):SM :=
 (Ab (ifS (Ag (dop ltD (vr 1) (Al Es (Aa (vr 0) (Zr [])))))
 (Ab (retS (dop ixD (vr 0) (vr 1)))
  Zn)
 Zn)
 (Ab (retS (Zr (.int 0)))
 Zn))
theorem yJ (k:Nat):Bq f20 k=b20 k:=by kernel_rfl
noncomputable def b21 (k:Nat):SM :=
 (Ab (ifS (Ag (dop eqD (Al Es (Aa (vr 0) (Zr []))) (Zr (.int 1))))
 (Ab (Ho (Cu "list" Bj (vr 0) (Aa (lstM (Aa (dop Uh (dop ixD (vr 0) (Zr (.int 0))) (Zr (.int 2147483647))) (Aa (Zr (.int 0)) (Zr [])))) (Zr []))))
  Zn)
 Zn)
 (Ab (ifS (Ag (dop gtD (dop ixD (vr 0) (Zr (.int 0))) (Zr (.int 0))))
 (Ab (Bm (dop Uh (dop ixD (vr 0) (Zr (.int 0))) (vr 1)) (Bp 2))
  (Ab (Bm (dop Xw (dop ixD (vr 0) (Zr (.int 0))) (vr 1)) (Lx (vr 0) (Zr (.int 0))))
  (Ab (retS (vr 2))
  Zn)))
 Zn)
 (Ab (Bm (dop Cz (dop ixD (vr 0) (Zr (.int 2))) (Zr (.int 1))) (Lx (vr 0) (Zr (.int 2))))
 (Ab (Bm (dop Uh (dop Wi (dop Cz (dop Cz (dop ixD (vr 0) (Zr (.int 1))) (dop Wi (Zr (.int 7919)) (dop ixD (vr 0) (Zr (.int 2))))) (Zr (.int 1))) (Zr (.int 48271))) (Zr (.int 2147483647))) (Bp 3))
 (Ab (Bm (dop Uh (dop Wi (vr 3) (dop Cz (dop Xw (vr 3) (Zr (.int 1009))) (Zr (.int 69621)))) (Zr (.int 2147483647))) (Bp 3))
 (Ab (retS (dop Uh (dop Uh (dop Wi (vr 3) (dop Cz (dop Xw (vr 3) (Zr (.int 2003))) (Zr (.int 40692)))) (Zr (.int 2147483399))) (vr 1)))
 Zn))))))
theorem yK (k:Nat):Bq f21 k=b21 k:=by kernel_rfl
noncomputable def b22 (k:Nat):SM :=
 (Ab (Bm (Uj (Zr (.int 13))) (Bp 2))
 (Ab (Bm (lstM (Zr [])) (Bp 3))
 (Ab (Qv (Oe Ky (Aa (dop Cz (Zr (.int 1)) (dop ixD (lstM (Aa (Al (Ak (Gk k) fuel f21) (Aa (vr 0) (Aa (Zr (.int 4)) (Zr [])))) (Aa (Al (Ak (Gk k) fuel f21) (Aa (vr 0) (Aa (Zr (.int 13)) (Zr [])))) (Zr [])))) (Al (Ak (Gk k) fuel f21) (Aa (vr 0) (Aa (Zr (.int 2)) (Zr [])))))) (Zr []))) (Bp 4)
 (Ab (Bm (Cu "list" Cj (vr 2) (Aa (Al (Ak (Gk k) fuel f21) (Aa (vr 0) (Aa (Al Es (Aa (vr 2) (Zr []))) (Zr [])))) (Zr []))) (Bp 5))
  (Ab (Z9 (Aa (Al (Ak (Gk k) fuel f21) (Aa (vr 0) (Aa (Zr (.int 3)) (Zr [])))) (Aa (Al (Ak (Gk k) fuel f21) (Aa (vr 0) (Aa (Zr (.int 3)) (Zr [])))) (Zr []))) 6 7)
  (Ab (Bm (dop Uh (dop Cz (dop Cz (vr 7) (Zr (.int 1))) (Al (Ak (Gk k) fuel f21) (Aa (vr 0) (Aa (Zr (.int 2)) (Zr []))))) (Zr (.int 3))) (Bp 8))
  (Ab (Ho (Cu "list" En (vr 3) (Aa (Bk (Aa (vr 5) (Aa (vr 6) (Aa (vr 7) (Aa (vr 8) (Aa (Al (Ak (Gk k) fuel f21) (Aa (vr 0) (Aa (dop Cz (vr 1) (Zr (.int 1))) (Zr [])))) (Zr []))))))) (Zr []))))
  Zn)))))
 (Ab (retS (Al Ft (Aa (vr 3) (Zr []))))
 Zn))))
theorem yL (k:Nat):Bq f22 k=b22 k:=by kernel_rfl
noncomputable def b23 (k:Nat):SM :=
 (Ab (retS (dop fU (Al (Ak (Gk k) fuel f21) (Aa (vr 0) (Aa (dop Wi (Zr (.int 2)) (dop wF (Zr (.int 10)) (Zr (.int 12)))) (Zr [])))) (dop ixD (lstM (Aa (Zr (.int 0)) (Aa (dop wF (Zr (.int 10)) (Zr (.int 12))) (Zr [])))) (Al (Ak (Gk k) fuel f21) (Aa (vr 0) (Aa (Zr (.int 2)) (Zr [])))))))
 Zn)
theorem yM (k:Nat):Bq f23 k=b23 k:=by kernel_rfl
noncomputable def b24 (k:Nat):SM :=
 (Ab (Bm (Al (Ak (Gk k) fuel f21) (Aa (vr 0) (Aa (Zr (.int 3)) (Zr [])))) (Bp 4))
 (Ab (ifS (Ag (dop eqD (vr 1) (Zr (.str "me"))))
 (Ab (retS (Bk (Aa (Zr (.str "me")) (Aa (vr 4) (Zr [])))))
  Zn)
 Zn)
 (Ab (ifS (Ag (dop eqD (vr 1) (Zr (.str "only"))))
 (Ab (Bm (Dz (Oe Ky (Aa (Al Es (Aa (vr 3) (Zr []))) (Zr []))) [none,none,some 3] (Bp 1) (Ag (dop eqD (dop ixD (vr 2) (vr 1)) (Zr (.int 1)))) (vr 1)) (Bp 5))
  (Ab (ifS (Ag (dop eqD (vr 5) (lstM (Zr []))))
  (Ab (retS (Bk (Aa (Zr (.str "me")) (Aa (vr 4) (Zr [])))))
   Zn)
  Zn)
  (Ab (retS (Bk (Aa (Zr (.str "only")) (Aa (vr 4) (Aa (dop ixD (vr 5) (Al (Ak (Gk k) fuel f21) (Aa (vr 0) (Aa (Al Es (Aa (vr 5) (Zr []))) (Zr []))))) (Zr []))))))
  Zn)))
 Zn)
 (Ab (ifS (Ag (dop eqD (vr 1) (Zr (.str "pick"))))
 (Ab (retS (Bk (Aa (Zr (.str "pick")) (Aa (vr 4) (Aa (Al (Ak (Gk k) fuel f21) (Aa (vr 0) (Aa (Al Es (Aa (vr 3) (Zr []))) (Zr [])))) (Zr []))))))
  Zn)
 Zn)
 (Ab (ifS (Ag (dop eqD (vr 1) (Zr (.str "alike"))))
 (Ab (retS (Bk (Aa (Zr (.str "alike")) (Aa (vr 4) (Aa (Al (Ak (Gk k) fuel f21) (Aa (vr 0) (Aa (Zr (.int 3)) (Zr [])))) (Aa (Al (Ak (Gk k) fuel f21) (Aa (vr 0) (Aa (dop Cz (vr 2) (Zr (.int 1))) (Zr [])))) (Zr [])))))))
  Zn)
 Zn)
 (Ab (Bm (Al (Ak (Gk k) fuel f21) (Aa (vr 0) (Aa (Zr (.int 2)) (Zr [])))) (Bp 6))
 (Ab (ifS (Ag (dop eqD (vr 1) (Zr (.str "all"))))
 (Ab (retS (Bk (Aa (Zr (.str "all")) (Aa (vr 6) (Aa (Al (Ak (Gk k) fuel f21) (Aa (vr 0) (Aa (Al Es (Aa (vr 3) (Zr []))) (Zr [])))) (Zr []))))))
  Zn)
 Zn)
 (Ab (ifS (Ag (dop eqD (vr 1) (Zr (.str "empty"))))
 (Ab (retS (Bk (Aa (Zr (.str "empty")) (Aa (vr 6) (Zr [])))))
  Zn)
 Zn)
 (Ab (ifS (Ag (dop eqD (vr 1) (Zr (.str "join"))))
 (Ab (retS (Bk (Aa (Zr (.str "join")) (Aa (vr 6) (Aa (vr 4) (Zr []))))))
  Zn)
 Zn)
 (Ab (ifS (Ag (dop eqD (vr 1) (Zr (.str "out"))))
 (Ab (retS (Bk (Aa (Zr (.str "out")) (Aa (vr 4) (Aa (vr 6) (Aa (Al (Ak (Gk k) fuel f21) (Aa (vr 0) (Aa (dop Cz (vr 2) (Zr (.int 1))) (Zr [])))) (Zr [])))))))
  Zn)
 Zn)
 (Ab (retS (Bk (Aa (Zr (.str "many")) (Aa (vr 6) (Aa (Al (Ak (Gk k) fuel f21) (Aa (vr 0) (Aa (Zr (.int 7)) (Zr [])))) (Aa (Al (Ak (Gk k) fuel f21) (Aa (vr 0) (Aa (dop Cz (vr 2) (Zr (.int 1))) (Zr [])))) (Zr [])))))))
 Zn)))))))))))
theorem yN (k:Nat):Bq f24 k=b24 k:=by kernel_rfl
noncomputable def b25 (k:Nat):SM :=
 (Ab (Bm (lstM (Aa (Zr (.str "put")) (Aa (Zr (.str "copy")) (Aa (Zr (.str "raise")) (Aa (Zr (.str "sum")) (Aa (Zr (.str "choose")) (Aa (Zr (.str "less")) (Aa (Zr (.str "before")) (Aa (Zr (.str "go")) (Aa (Zr (.str "bell")) (Aa (Zr (.str "send")) (Aa (Zr (.str "take")) (Zr []))))))))))))) (Bp 3))
 (Ab (Bm (dop Cz (vr 3) (lstM (Aa (Zr (.str "me")) (Aa (Zr (.str "only")) (Aa (Zr (.str "pick")) (Aa (Zr (.str "alike")) (Aa (Zr (.str "all")) (Aa (Zr (.str "empty")) (Aa (Zr (.str "join")) (Aa (Zr (.str "out")) (Aa (Zr (.str "many")) (Zr [])))))))))))) (Bp 3))
 (Ab (Bm (dop ixD (vr 3) (Al (Ak (Gk k) fuel f21) (Aa (vr 0) (Aa (Zr (.int 20)) (Zr []))))) (Bp 4))
 (Ab (ifS (Ag (dop (inD false) (vr 4) (dSl (vr 3) (some (Zr (.int 11))) none)))
 (Ab (retS (Al (Ak (Gk k) fuel f24) (Aa (vr 0) (Aa (vr 4) (Aa (vr 1) (Aa (vr 2) (Zr [])))))))
  Zn)
 Zn)
 (Ab (ifS (Ag (dop eqD (vr 4) (Zr (.str "bell"))))
 (Ab (retS (Bk (Aa (Zr (.str "bell")) (Zr []))))
  Zn)
 Zn)
 (Ab (ifS (Ag (dop eqD (vr 4) (Zr (.str "go"))))
 (Ab (retS (Bk (Aa (Zr (.str "go")) (Aa (Al (Ak (Gk k) fuel f21) (Aa (vr 0) (Aa (dop Cz (vr 1) (Zr (.int 1))) (Zr [])))) (Zr [])))))
  Zn)
 Zn)
 (Ab (Bm (Al (Ak (Gk k) fuel f21) (Aa (vr 0) (Aa (Zr (.int 3)) (Zr [])))) (Bp 5))
 (Ab (ifS (Ip (Ag (dop eqD (vr 4) (Zr (.str "put")))) (Ag (dop eqD (vr 4) (Zr (.str "raise")))))
 (Ab (retS (Bk (Aa (vr 4) (Aa (vr 5) (Aa (Al (Ak (Gk k) fuel f23) (Aa (vr 0) (Zr []))) (Zr []))))))
  Zn)
 Zn)
 (Ab (ifS (Ip (Ag (dop eqD (vr 4) (Zr (.str "copy")))) (Ag (dop eqD (vr 4) (Zr (.str "sum")))))
 (Ab (retS (Bk (Aa (vr 4) (Aa (vr 5) (Aa (Al (Ak (Gk k) fuel f21) (Aa (vr 0) (Aa (Zr (.int 3)) (Zr [])))) (Zr []))))))
  Zn)
 Zn)
 (Ab (ifS (Ag (dop eqD (vr 4) (Zr (.str "choose"))))
 (Ab (retS (Bk (Aa (Zr (.str "choose")) (Aa (vr 5) (Aa (dop Cz (Zr (.int 1)) (Al (Ak (Gk k) fuel f21) (Aa (vr 0) (Aa (Zr (.int 20)) (Zr []))))) (Zr []))))))
  Zn)
 Zn)
 (Ab (ifS (Ag (dop eqD (vr 4) (Zr (.str "less"))))
 (Ab (retS (Bk (Aa (Zr (.str "less")) (Aa (vr 5) (Aa (Al (Ak (Gk k) fuel f23) (Aa (vr 0) (Zr []))) (Aa (Al (Ak (Gk k) fuel f21) (Aa (vr 0) (Aa (dop Cz (vr 1) (Zr (.int 1))) (Zr [])))) (Zr [])))))))
  Zn)
 Zn)
 (Ab (ifS (Ag (dop eqD (vr 4) (Zr (.str "before"))))
 (Ab (retS (Bk (Aa (Zr (.str "before")) (Aa (vr 5) (Aa (Al (Ak (Gk k) fuel f21) (Aa (vr 0) (Aa (Zr (.int 3)) (Zr [])))) (Aa (Al (Ak (Gk k) fuel f21) (Aa (vr 0) (Aa (dop Cz (vr 1) (Zr (.int 1))) (Zr [])))) (Zr [])))))))
  Zn)
 Zn)
 (Ab (ifS (Ag (dop eqD (vr 4) (Zr (.str "send"))))
 (Ab (retS (Bk (Aa (Zr (.str "send")) (Aa (vr 5) (Aa (dop Cz (Zr (.int 1)) (Al (Ak (Gk k) fuel f21) (Aa (vr 0) (Aa (Zr (.int 12)) (Zr []))))) (Aa (Al (Ak (Gk k) fuel f21) (Aa (vr 0) (Aa (Zr (.int 3)) (Zr [])))) (Aa (Al (Ak (Gk k) fuel f21) (Aa (vr 0) (Aa (Zr (.int 3)) (Zr [])))) (Zr []))))))))
  Zn)
 Zn)
 (Ab (retS (Bk (Aa (Zr (.str "take")) (Aa (dop fU (vr 5) (dop Wi (Al (Ak (Gk k) fuel f21) (Aa (vr 0) (Aa (Zr (.int 2)) (Zr [])))) (dop Cz (vr 5) (Zr (.int 1))))) (Aa (Al (Ak (Gk k) fuel f22) (Aa (vr 0) (Aa (vr 1) (Zr [])))) (Zr []))))))
 Zn))))))))))))))
theorem yO (k:Nat):Bq f25 k=b25 k:=by kernel_rfl
noncomputable def b26 (k:Nat):SM :=
 (Ab (Bm (dop Cz (Zr (.int 1)) (Al (Ak (Gk k) fuel f21) (Aa (vr 0) (Aa (Zr (.int 6)) (Zr []))))) (Bp 1))
 (Ab (Bm (Dz (Oe Ky (Aa (dop Cz (Zr (.int 2)) (Al (Ak (Gk k) fuel f21) (Aa (vr 0) (Aa (Zr (.int 4)) (Zr []))))) (Zr []))) [none,none,some 1,some 0] (Bp 1) (Zr true) (Al (Ak (Gk k) fuel f21) (Aa (vr 3) (Aa (vr 2) (Zr []))))) (Bp 2))
 (Ab (retS (Al Ft (Aa (Dz (Oe Ky (Aa (vr 1) (Zr []))) [none,none,some 2] (Bp 1) (Zr true) (Al Es (Aa (Dz (Gj (vr 2)) [none,none,some 1] (Bp 1) (Ag (dop eqD (vr 1) (vr 2))) (vr 1)) (Zr [])))) (Zr []))))
 Zn)))
theorem yP (k:Nat):Bq f26 k=b26 k:=by kernel_rfl
noncomputable def b27 (k:Nat):SM :=
 (Ab (Bm (lstM (Zr [])) (Bp 1))
 (Ab (Qv (Gj (vr 0)) (R7 [2,3,4,5,6])
 (Ab (ifS (Ag (dop eqD (vr 2) (Zr (.int 0))))
  (Ab (Ho (Cu "list" En (vr 1) (Aa (Bk (Aa (Zr (.str "bell")) (Zr []))) (Zr []))))
   Zn)
  (Ab (Bm (dop Cz (vr 1) (lstM (Aa (Bk (Aa (Zr (.str "number")) (Aa (vr 3) (Zr [])))) (Aa (Bk (Aa (Zr (.str "name")) (Aa (vr 4) (Zr [])))) (Aa (Bk (Aa (Zr (.str "name")) (Aa (vr 5) (Zr [])))) (Zr [])))))) (Bp 1))
   Zn))
  Zn))
 (Ab (retS (Al Ft (Aa (Ni (vr 1)) (Zr []))))
 Zn)))
theorem yQ (k:Nat):Bq f27 k=b27 k:=by kernel_rfl
noncomputable def b28 (k:Nat):SM :=
 (Ab (ifS (Ag (dop (inD false) (dop ixD (vr 0) (Zr (.int 0))) (lstM (Aa (Zr (.str "put")) (Aa (Zr (.str "copy")) (Aa (Zr (.str "raise")) (Aa (Zr (.str "sum")) (Aa (Zr (.str "choose")) (Zr [])))))))))
 (Ab (retS (Bk (Aa (Bk (Aa (Zr (.str "number")) (Aa (dop ixD (vr 0) (Zr (.int 1))) (Zr [])))) (Zr []))))
  Zn)
 Zn)
 (Ab (ifS (Ag (dop (inD false) (dop ixD (vr 0) (Zr (.int 0))) (lstM (Aa (Zr (.str "me")) (Aa (Zr (.str "only")) (Aa (Zr (.str "pick")) (Zr [])))))))
 (Ab (retS (Bk (Aa (Bk (Aa (Zr (.str "name")) (Aa (dop ixD (vr 0) (Zr (.int 1))) (Zr [])))) (Zr []))))
  Zn)
 Zn)
 (Ab (ifS (Ag (dop (inD false) (dop ixD (vr 0) (Zr (.int 0))) (lstM (Aa (Zr (.str "all")) (Aa (Zr (.str "empty")) (Aa (Zr (.str "join")) (Zr [])))))))
 (Ab (retS (Bk (Aa (Bk (Aa (Zr (.str "set")) (Aa (dop ixD (vr 0) (Zr (.int 1))) (Zr [])))) (Zr []))))
  Zn)
 Zn)
 (Ab (ifS (Ag (dop eqD (dop ixD (vr 0) (Zr (.int 0))) (Zr (.str "out"))))
 (Ab (retS (Bk (Aa (Bk (Aa (Zr (.str "name")) (Aa (dop ixD (vr 0) (Zr (.int 1))) (Zr [])))) (Aa (Bk (Aa (Zr (.str "set")) (Aa (dop ixD (vr 0) (Zr (.int 2))) (Zr [])))) (Zr [])))))
  Zn)
 Zn)
 (Ab (ifS (Ag (dop eqD (dop ixD (vr 0) (Zr (.int 0))) (Zr (.str "bell"))))
 (Ab (retS (Bk (Aa (Bk (Aa (Zr (.str "bell")) (Zr []))) (Zr []))))
  Zn)
 Zn)
 (Ab (ifS (Ag (dop eqD (dop ixD (vr 0) (Zr (.int 0))) (Zr (.str "take"))))
 (Ab (retS (Al (Ak (Gk k) fuel f27) (Aa (dop ixD (vr 0) (Zr (.int 2))) (Zr []))))
  Zn)
 Zn)
 (Ab (retS (Bk (Zr [])))
 Zn)))))))
theorem yR (k:Nat):Bq f28 k=b28 k:=by kernel_rfl
noncomputable def b29 (k:Nat):SM :=
 (Ab (Bm (lstM (Aa (Al (Ak (Gk k) fuel f20) (Aa (vr 0) (Aa (Zr (.int 0)) (Zr [])))) (Zr []))) (Bp 1))
 (Ab (Bm (dop Cz (Zr (.int 1)) (Al (Ak (Gk k) fuel f21) (Aa (vr 1) (Aa (Zr (.int 60)) (Zr []))))) (Bp 2))
 (Ab (Bm (Al (Ak (Gk k) fuel f26) (Aa (vr 1) (Zr []))) (Bp 3))
 (Ab (Qv (Gj (dSl (vr 0) (some (Zr (.int 1))) (some (Zr (.int 41))))) (Bp 4)
 (Ab (Bm (Al (Ak (Gk k) fuel f25) (Aa (lstM (Aa (vr 4) (Zr []))) (Aa (vr 2) (Aa (vr 3) (Zr []))))) (Bp 5))
  (Ab (Bm (Al (Ak (Gk k) fuel f14) (Aa (vr 5) (Aa (vr 2) (Aa (vr 3) (Zr []))))) (Bp 6))
  (Ab (Bm (Ey (Abq k) "is_quiet_word" (vr 6) (Zr [])) (Bp 7))
  (Ab (ifS (Ip (Lq (Ag (dop (isD true) (vr 7) (Zr (.bl true)))) (Ag (dop (isD true) (vr 7) (Zr (.bl false))))) (Ag (dop neD (vr 7) (dop (inD true) (dop ixD (vr 5) (Zr (.int 0))) (lstM (Aa (Zr (.str "send")) (Aa (Zr (.str "take")) (Zr []))))))))
  (Ab (retS (Zr (.bl false)))
   Zn)
  Zn)
  (Ab (Bm (Ey (Abq k) "writes" (vr 6) (Zr [])) (Bp 8))
  (Ab (ifS (Ip (Fb (Jr (Ui "tuple" (vr 8)))) (Ag (dop neD (vr 8) (Al (Ak (Gk k) fuel f28) (Aa (vr 5) (Zr []))))))
  (Ab (retS (Zr (.bl false)))
   Zn)
  Zn)
  Zn)))))))
 (Ab (retS (Zr (.bl true)))
 Zn)))))
theorem yS (k:Nat):Bq f29 k=b29 k:=by kernel_rfl
noncomputable def Nz (k:Nat):SM :=
 (Ab (retS (dop (inD true) (dop ixD (El fld "form" (vr 0)) (Zr (.int 0))) (Bk (Aa (Zr (.str "send")) (Aa (Zr (.str "take")) (Zr []))))))
 Zn)
theorem jM (k:Nat):Bq Nx k=Nz k:=by kernel_rfl
noncomputable def G3 (k:Nat):SM :=
 (Ab (Bm (dop ixD (El fld "form" (vr 0)) (Zr (.int 0))) (Bp 1))
 (Ab (ifS (Ag (dop eqD (vr 1) (Zr (.str "bell"))))
 (Ab (retS (Bk (Aa (Bk (Aa (Zr (.str "bell")) (Zr []))) (Zr []))))
  Zn)
 Zn)
 (Ab (ifS (Ag (dop eqD (vr 1) (Zr (.str "take"))))
 (Ab (retS (Al (Ak (Gk k) fuel f13) (Aa (dop ixD (El fld "form" (vr 0)) (Zr (.int 2))) (Zr []))))
  Zn)
 Zn)
 (Ab (retS (Al Ft (Aa (Al Ff (Aa (Q9 Fi (Aa (vr 1) (Aa (Bk (Zr [])) (Zr [])))) (Aa (dSl (El fld "form" (vr 0)) (some (Zr (.int 1))) none) (Zr [])))) (Zr []))))
 Zn))))
theorem N5 (k:Nat):Bq Ku k=G3 k:=by kernel_rfl
local macro_rules | `(tactic| walk_at "s") => `(tactic| first
 | (with_reducible refine gR ?_) | (with_reducible refine wU ?_) | (with_reducible refine wW ?_) | (with_reducible refine pY ?_) | (with_reducible refine Abm ?_) | (with_reducible refine wR ?_) | (with_reducible refine pW ?_) | (with_reducible refine pX ?_)
 | (with_reducible refine Abj (by with_unfolding_all rfl) ?_) | (with_reducible refine Dd ?_) | (with_reducible refine Abk ?_) | (with_reducible refine pM ?_) | (with_reducible refine wI ?_) | (with_reducible refine wJ ?_) | (with_reducible refine wK ?_) | (with_reducible refine wD_neg ?_)
 | (with_reducible refine wL ?_) | (with_reducible refine Wk ?_) | (with_reducible refine wD_tupRng ?_) | (with_reducible refine aD ?_) | (with_reducible refine Wl ?_) | (with_reducible refine Abo ?_) | (with_reducible refine qF ?_) | (with_reducible refine xK ?_) | (with_reducible refine gZ ?_) | (with_reducible refine iB ?_) | (with_reducible refine xO ?_) | (with_reducible refine xN ?_) | (with_reducible refine Lb ?_) | (with_reducible refine wM ?_) | (with_reducible refine pN ?_) | (with_reducible refine pO ?_)
 | (with_reducible refine pP ?_) | (with_reducible refine wN ?_) | (with_reducible refine pQ ?_) | (with_reducible refine wD_orV ?_) | (with_reducible refine wD_if ?_) | (with_reducible refine gO ?_) | (with_reducible refine pR ?_) | (with_reducible refine Abl ?_) | (with_reducible refine gP ?_) | (with_reducible refine gQ ?_)
 | (with_reducible refine wO ?_) | (with_reducible refine wD_enum ?_) | (with_reducible refine wQ ?_) | (with_reducible refine gU ?_) | (with_reducible refine wX ?_) | (with_reducible refine Abp ?_) | (with_reducible refine xQ ?_) | (with_reducible refine iH ?_) | (with_reducible refine xR ?_) | (with_reducible refine X6 (by with_unfolding_all rfl) ?_) | (with_reducible refine Rm (by with_unfolding_all rfl) ?_) | (with_reducible refine xT ?_)
 | (with_reducible refine wZ ?_) | (with_reducible refine wY ?_) | (with_reducible refine pZ ?_) | (with_reducible refine xG ?_) | (with_reducible refine xH ?_) | (with_reducible refine xU (by with_unfolding_all rfl) (by with_unfolding_all rfl) ?_))
local macro_rules | `(tactic| walk_at "r") => `(tactic| repeat walk_at "s")
noncomputable def yU:D->Bool
 | .int _=>true
 | _=>false
noncomputable def okB (lo hi:Int):D->Bool
 | .int i=>decide (lo<=i)&&decide (i<=hi)
 | _=>false
theorem Qc (k:Nat) (x:D) (mh:MH) (hx:simple x=true) {P:D->MH->Prop}(h:P (.bl (yU x)) mh):wV (Ak (Gk (k+1)) fuel f5 [x] mh) P:=by
 refine Bg (Abr k) rC.1 rC.2 rfl ?_;show wS (b5 k) [some x] mh _;unfold b5;cases x with
 | int i =>
  walk_at "r"
  exact h
 | bl i =>
  walk_at "r"
  exact h
 | non =>
  walk_at "r"
  exact h
 | _=>cases hx
theorem Ut (k:Nat) (x:D) (lo hi:Int) (mh:MH) (hx:simple x=true) {P:D->MH->Prop}(h:P (.bl (okB lo hi x)) mh):wV (Ak (Gk (k+2)) fuel f6 [x,.int lo,.int hi] mh) P:=by
 refine Bg (Abs (k+1)) rE.1 rE.2 rfl ?_;show wS (b6 (k+1)) [some x,some (.int lo),some (.int hi)] mh _;unfold b6;walk_at "r"
 refine Qc k x mh hx ?_;cases x with
 | int i =>
  walk_at "r"
  refine Eo (fun q=>?_) fun q=>?_
  ·walk_at "r"
   have h:P (.bl (decide (lo<=i)&&decide (i<=hi))) mh:=h;rw [q,Bool.true_and] at h;exact h
  ·have h:P (.bl (decide (lo<=i)&&decide (i<=hi))) mh:=h;rw [q,Bool.false_and] at h;exact h
 | bl i =>
  walk_at "r"
  exact h
 | non =>
  walk_at "r"
  exact h
 | _=>cases hx
theorem Uu (k:Nat) (ds:List D) (c:Int) (mh:MH) {P:D->MH->Prop}(h:P (.bl (decide ((ds.length:Int)=c))) mh):wV (Ak (Gk (k+1)) fuel f7 [.tup ds,.int c] mh) P:=by
 refine Bg (Abt k) rF.1 rF.2 rfl ?_;show wS (b7 k) [some (.tup ds),some (.int c)] mh _;unfold b7;walk_at "r"
 refine Cg (by intro z z';cases z') rfl ?_;walk_at "r"
 have e:((ds.length:Int)==c)=decide ((ds.length:Int)=c):=by rw [Bool.eq_iff_iff,beq_iff_eq,decide_eq_true_iff]
 show P (.bl ((ds.length:Int)==c)) mh;rw [e];exact h
theorem comp_map {mi:DM Src}{cs:List (Option Nat)}{i:Nat}{e:DM D}{loc:DL.Loc}{mh:MH}{Q:D->MH->Prop}{ds:List D}(f:D->D) (hz:ds.length<=1000000) (hm:wD mi loc mh fun src h0=>src=.seq ds/\h0=mh)
  (step:∀ d h {R:D->MH->Prop},d∈ds->Ext [] mh h->(∀ h',Ext [] mh h'->R (f d) h')->wD e ((Qw cs loc).set i (some d)) h R) (fin:∀ h,Ext [] mh h->Q (.ref h.length) (h++[.lst (ds.map f)])) :
  wD (Dz mi cs (Bp i) (Zr true) e) loc mh Q:=by
 refine Hf (Am hm ?_);rintro src h0 ⟨e1,e2⟩;subst e1;subst e2;refine ⟨ds,fun j acc h=>acc=(ds.take j).map f/\j<=ds.length/\Ext [] h0 h,hz,⟨rfl,Nat.zero_le _,Ext.refl⟩,fun _ _ _ _=>⟨rfl,rfl⟩,fun j acc h q=>by rw [q.1,List.length_map,List.length_take];omega,fun j d acc h ed q=>?_,fun acc h q=>?_⟩
 ·refine gU (Dd (iH ?_));refine step d h (List.mem_of_getElem? ed) q.2.2 fun h' ex=>⟨?_,?_,ex⟩
  ·rw [q.1,List.take_add_one,ed,List.map_append];rfl
  ·have:=(List.getElem?_eq_some_iff.mp ed).1;omega
 ·rw [q.1,List.take_length];exact fin h q.2.2
theorem yV {ns:List Int}(nd:ns.Nodup):(Bo ns).length=ns.length:=((Gu nd (fun x hx=>O9.mpr hx) (Mi (Kf ns) fun x hx=>O9.mp hx)).length_eq).symm
theorem Wn {p:List Nat}(nd:p.Nodup):(p.map fun n:Nat=>(n:Int)).Nodup:=aF nd fun a _ b _ e=>by omega
theorem Gg (h:MH) (ds:List D):Dc (.ref h.length) (h++[.lst ds])=some ds:=by
 show (match (h++[MO.lst ds])[h.length]? with | some (.lst o)=>some o | _=>none)=_;rw [Ai]
theorem Eb (k:Nat) (i lo hi:Int) (mh:MH) {P:D->MH->Prop}(h1:lo<=i) (h2:i<=hi) (h:P (.bl true) mh):wV (Ak (Gk (k+2)) fuel f6 [.int i,.int lo,.int hi] mh) P:=by
 refine Ut k (.int i) lo hi mh rfl ?_;have:okB lo hi (.int i)=true:=by
  show (decide (lo<=i)&&decide (i<=hi))=true;rw [decide_eq_true h1,decide_eq_true h2];rfl
 rw [this];exact h
structure Ln where
 k:Nat
 n:Nat
 m:Nat
 s:Nat
 p:Nat
noncomputable def lnD (l:Ln):D:=.tup [Aw l.k,Aw l.n,Aw l.m,Aw l.s,Aw l.p]
noncomputable def qG (L:Nat) (l:Ln):Prop:=l.k<=12/\l.n<=2/\l.m<=2/\l.s<=2/\l.m≠l.s/\l.p<=L
noncomputable def N6 (L:Nat) (ls:List Ln):Prop:=1<=ls.length/\ls.length<=13/\(∀ l∈ls,qG L l)/\(ls.map (·.k)).Nodup
theorem all_true {α:Type}(l:List α):(l.map fun _=>true).all id=true:=by
 rw [List.all_map,List.all_eq_true];intro _ _;rfl
theorem jN (k L:Nat) (l:Ln) (hl:qG L l) (mh:MH) {P:D->MH->Prop}(h:∀ mh',Ext [] mh mh'->P (.bl true) mh'):wV (Ak (Gk (k+3)) fuel f18 [lnD l,.int L] mh) P:=by
 obtain ⟨h1,h2,h3,h4,h5,h6⟩:=hl;refine Bg (yI (k+2)) jA.1 jA.2 rfl ?_;show wS (b18 (k+2)) [some (lnD l),some (.int L)] mh _;unfold b18;walk_at "r"
 refine Uu (k+1) _ 5 mh ?_;walk_at "r"
 refine Ae (j:=0) (d:=Aw l.k) rfl ?_;walk_at "r"
 refine Eb k _ _ _ mh (by omega) (by omega) ?_;walk_at "r"
 refine Ae (j:=4) (d:=Aw l.p) rfl ?_;walk_at "r"
 refine Eb k _ _ _ mh (by omega) (by omega) ?_;walk_at "r"
 refine comp_map (ds:=[Aw l.n,Aw l.m,Aw l.s]) (fun _=>.bl true) (by simp) ?_ (fun d h' R hd ex hR=>?_) fun h' ex=>?_
 ·walk_at "r"
  refine Nj (d:=.tup [Aw l.n,Aw l.m,Aw l.s]) (h:=mh) rfl ?_;exact ⟨_,rfl,rfl,rfl⟩
 ·walk_at "r"
  simp only [List.mem_cons,List.mem_nil_iff,or_false] at hd;rcases hd with rfl|rfl|rfl
  ·exact Eb k _ _ _ h' (by omega) (by omega) (hR h' ex)
  ·exact Eb k _ _ _ h' (by omega) (by omega) (hR h' ex)
  ·exact Eb k _ _ _ h' (by omega) (by omega) (hR h' ex)
 ·walk_at "r"
  refine Nm (f:=fun bs=>bs.all id) (bs:=[true,true,true]) (Gg _ _) ?_;walk_at "r"
  refine Ae (j:=2) (d:=Aw l.m) rfl ?_;walk_at "r"
  refine Ae (j:=3) (d:=Aw l.s) rfl ?_;walk_at "r"
  have e:(!(((l.m:Nat):Int)==((l.s:Nat):Int)))=true:=by
   rw [Bool.not_eq_true',beq_eq_false_iff_ne];omega
  show P (.bl (!(((l.m:Nat):Int)==((l.s:Nat):Int)))) _;rw [e];exact h _ (ex.trans Ext.more)
noncomputable def Abu:D->D
 | .tup (x::_)=>x
 | _=>.non
theorem aH (k L:Nat) (ls:List Ln) (hl:N6 L ls) (mh:MH) {P:D->MH->Prop}(h:∀ mh',Ext [] mh mh'->P (.bl true) mh'):wV (Ak (Gk (k+4)) fuel f17 [.tup (ls.map lnD),.int L] mh) P:=by
 obtain ⟨h1,h2,h3,h4⟩:=hl;refine Bg (yH (k+3)) iZ.1 iZ.2 rfl ?_;show wS (b17 (k+3)) [some (.tup (ls.map lnD)),some (.int L)] mh _;unfold b17;walk_at "r"
 refine Cg (by intro z z';cases z') rfl ?_;rw [List.length_map];walk_at "r"
 refine X6 (decide_eq_true (by omega)) ?_;walk_at "r"
 refine Rm (by rw [decide_eq_true (by omega)];rfl) ?_;walk_at "r"
 refine comp_map (ds:=ls.map lnD) (fun _=>.bl true) (by rw [List.length_map];omega) ?_ (fun d h' R hd ex hR=>?_) fun h' ex=>?_
 ·walk_at "r"
  exact ⟨_,rfl,rfl,rfl⟩
 ·obtain ⟨l,hm,rfl⟩:=List.mem_map.mp hd;walk_at "r"
  exact jN k L l (h3 l hm) h' fun h2 ex2=>hR h2 (ex.trans ex2)
 ·walk_at "r"
  refine Nm (f:=fun bs=>bs.all id) (bs:=(ls.map lnD).map fun _=>true) (by rw [Gg];simp only [List.map_map];rfl) ?_;rw [all_true];walk_at "r"
  refine comp_map (ds:=ls.map lnD) Abu (by rw [List.length_map];omega) ?_ (fun d h2 R hd ex2 hR=>?_) fun h2 ex2=>?_
  ·walk_at "r"
   exact ⟨_,rfl,rfl,rfl⟩
  ·obtain ⟨l,hm,rfl⟩:=List.mem_map.mp hd;walk_at "r"
   exact Ae (j:=0) (d:=Aw l.k) rfl (hR h2 ex2)
  ·have e:(ls.map lnD).map Abu=((ls.map (·.k)).map fun n:Nat=>(n:Int)).map D.int:=by simp only [List.map_map];rfl
   rw [e];walk_at "r"
   have e1:Gw (.ref h2.length) (h2++[MO.lst (((ls.map (·.k)).map fun n:Nat=>(n:Int)).map D.int)])=some ((ls.map (·.k)).map fun n:Nat=>(n:Int)):=by
    simp only [Gw,Ai,Fy]
   have hs:((ls.map (·.k)).map fun n:Nat=>(n:Int)).length < 4000:=by rw [List.length_map,List.length_map];omega
   refine Nj (d:=.int (Bo ((ls.map (·.k)).map fun n:Nat=>(n:Int))).length) (h:=h2++[MO.lst (((ls.map (·.k)).map fun n:Nat=>(n:Int)).map D.int)]) (by simp only [Fz,e1,if_pos hs]) ?_;rw [yV (Wn h4),List.length_map,List.length_map];walk_at "r"
   refine Cg (by intro z z';cases z') rfl ?_;rw [List.length_map];walk_at "r"
   show P (.bl (((ls.length:Nat):Int)==((ls.length:Nat):Int))) _;rw [beq_self_eq_true];exact h _ ((ex.trans Ext.more).trans (ex2.trans Ext.more))
theorem X8 (n d k:Nat):HT.sIx n d (some (k:Int))=min k n:=by
 show (if (k:Int) < 0 then ((k:Int)+(n:Int)).toNat else min (k:Int).toNat n)=min k n;rw [if_neg (by omega),Int.toNat_natCast]
theorem Yb {ds:List D}{k:Nat}{mh:MH}{P:D->MH->Prop}(hk:k<=ds.length) (h:P (.tup (ds.drop k)) mh):wV (slD (.tup ds) (some (k:Int)) none mh) P:=by
 have e1:HT.sIx ds.length 0 (some (k:Int))=k:=by rw [X8];omega
 have e2:HT.sIx ds.length ds.length none=ds.length:=rfl;unfold slD;dsimp only;rw [e1,e2]
 by_cases hk0:k=0
 ·subst hk0;rw [if_pos ⟨rfl,rfl⟩];exact ⟨_,_,rfl,by simpa using h⟩
 ·rw [if_neg fun z=>hk0 z.1];refine ⟨_,_,rfl,?_⟩;unfold DL.cutD;rw [e1,e2,List.take_of_length_le (by rw [List.length_drop];omega)];exact h
noncomputable def jO:List Str:=["number box", "name box", "name box or -1", "set box", "kind", "choices", "amount"]
inductive Fit (L:Nat) (cs:List Nat):Str->D->Prop
 | num (i:Int):Fit L cs "number" (.int i)
 | place (p:Nat):p<=L->Fit L cs "place" (.int p)
 | role (r:Nat):r < cs.length->Fit L cs "role" (.int r)
 | lone (r:Nat):cs[r]?=some 1->Fit L cs "lone role" (.int r)
 | lines (ls:List Ln):N6 L ls->Fit L cs "lines" (.tup (ls.map lnD))
 | bound (sl:Str) (lo hi i:Int):jO.contains sl=true->Ld.lookup sl=some (.tup [.int lo,.int hi])->lo<=i->i<=hi->Fit L cs sl (.int i)
theorem aJ:∀ sl,jO.contains sl=true->PyData.strOk sl=true/\(sl == "lines")=false/\(sl == "number")=false/\(sl == "place")=false/\(sl == "role")=false/\(sl == "lone role")=false:=by
 have h:jO.all (fun sl=>PyData.strOk sl&&(!(sl == "lines")&&(!(sl == "number")&&(!(sl == "place")&&(!(sl == "role")&&!(sl == "lone role"))))))=true:=by decide +kernel
 intro sl hs;have:=List.all_eq_true.mp h sl (by simpa using hs)
 simpa only [Bool.and_eq_true,Bool.not_eq_true'] using this
theorem so (a:Str) (h:PyData.strOk a=true:=by decide +kernel):PyData.strOk a=true:=h
theorem jP (k L:Nat) (cs:List Nat) (sl:Str) (x:D) (hf:Fit L cs sl x) (mh:MH) {P:D->MH->Prop}(h:∀ mh',Ext [] mh mh'->P (.bl true) mh'):wV (Ak (Gk (k+5)) fuel f16 [.str sl,x,.int L,J4 cs] mh) P:=by
 refine Bg (yG (k+4)) iY.1 iY.2 rfl ?_;show wS (b16 (k+4)) [some (.str sl),some x,some (.int L),some (J4 cs),none] mh _;unfold b16;walk_at "r"
 cases hf with
 | lines ls hl =>
  refine iD (so _) (so _) (by decide +kernel) ?_;walk_at "r"
  exact aH k L ls hl mh h
 | num i =>
  refine Ik (so _) (so _) (by decide +kernel) ?_;walk_at "r"
  refine iD (so _) (so _) (by decide +kernel) ?_;walk_at "r"
  exact Qc (k+3) (.int i) mh rfl (h mh Ext.refl)
 | place p hp =>
  refine Ik (so _) (so _) (by decide +kernel) ?_;walk_at "r"
  refine Ik (so _) (so _) (by decide +kernel) ?_;walk_at "r"
  refine iD (so _) (so _) (by decide +kernel) ?_;walk_at "r"
  exact Eb (k+2) _ _ _ mh (by omega) (by omega) (h mh Ext.refl)
 | role r hr =>
  refine Ik (so _) (so _) (by decide +kernel) ?_;walk_at "r"
  refine Ik (so _) (so _) (by decide +kernel) ?_;walk_at "r"
  refine Ik (so _) (so _) (by decide +kernel) ?_;walk_at "r"
  refine iD (so _) (so _) (by decide +kernel) ?_;walk_at "r"
  refine Cg (by intro z z';cases z') (ds:=cs.map Aw) rfl ?_;rw [List.length_map];walk_at "r"
  exact Eb (k+2) _ _ _ mh (by omega) (by omega) (h mh Ext.refl)
 | lone r hr =>
  have hlt:r < cs.length:=(List.getElem?_eq_some_iff.mp hr).1;refine Ik (so _) (so _) (by decide +kernel) ?_;walk_at "r"
  refine Ik (so _) (so _) (by decide +kernel) ?_;walk_at "r"
  refine Ik (so _) (so _) (by decide +kernel) ?_;walk_at "r"
  refine Ik (so _) (so _) (by decide +kernel) ?_;walk_at "r"
  refine iD (so _) (so _) (by decide +kernel) ?_;walk_at "r"
  refine Cg (by intro z z';cases z') (ds:=cs.map Aw) rfl ?_;rw [List.length_map];walk_at "r"
  refine Eb (k+2) _ _ _ mh (by omega) (by omega) ?_;walk_at "r"
  refine Ae (d:=Aw 1) (by rw [List.getElem?_map,hr];rfl) ?_;walk_at "r"
  exact h mh Ext.refl
 | bound _ lo hi i hb hl h1 h2 =>
  obtain ⟨f0,f1,f2,f3,f4,f5⟩:=aJ sl hb;refine Ik f0 (so _) f1 ?_;walk_at "r"
  refine Ik f0 (so _) f2 ?_;walk_at "r"
  refine Ik f0 (so _) f3 ?_;walk_at "r"
  refine Ik f0 (so _) f4 ?_;walk_at "r"
  refine Ik f0 (so _) f5 ?_;walk_at "r"
  refine ⟨sl,_,rfl,hl,?_⟩;walk_at "r"
  refine Ae (j:=0) (d:=.int lo) rfl ?_;walk_at "r"
  refine Ae (j:=1) (d:=.int hi) rfl ?_;walk_at "r"
  exact Eb (k+2) _ _ _ mh h1 h2 (h mh Ext.refl)
inductive Fits (L:Nat) (cs:List Nat):List Str->List D->Prop
 | nil:Fits L cs [] []
 | cons {s:Str} {d:D} {ss:List Str} {ds:List D}:Fit L cs s d->Fits L cs ss ds->Fits L cs (s::ss) (d::ds)
theorem Fits.len {L:Nat}{cs:List Nat}:∀ {ss:List Str}{ds:List D},Fits L cs ss ds->ss.length=ds.length
 | _,_,.nil=>rfl
 | _,_,.cons _ t=>by rw [List.length_cons,List.length_cons,t.len]
theorem Fits.zip {L:Nat}{cs:List Nat}:∀ {ss:List Str}{ds:List D},Fits L cs ss ds->∀ (j:Nat) (d:D),(List.zipWith (fun a b=>D.tup [a,b]) (ss.map D.str) ds)[j]?=some d->∃ s x,d=.tup [.str s,x]/\Fit L cs s x
 | _,_,.nil,j,d,h=>by simp at h
 | _,_,.cons f t,0,d,h=>by simp at h;exact ⟨_,_,h.symm,f⟩
 | _,_,.cons f t,j+1,d,h=>t.zip j d (by simpa using h)
theorem Wo (k L:Nat) (cs:List Nat) (w:Str) (args:List D) (ss:List Str) (hw:Il.lookup w=some (.tup (ss.map D.str))) (hf:Fits L cs ss args) (hz:ss.length<=10) (mh:MH) {P:D->MH->Prop}(h:∀ mh',Ext [] mh mh'->P (.bl true) mh') :
  wV (Ak (Gk (k+6)) fuel f15 [.tup (.str w::args),.int L,J4 cs] mh) P:=by
 refine Bg (yF (k+5)) iW.1 iW.2 rfl ?_;show wS (b15 (k+5)) [some (.tup (.str w::args)),some (.int L),some (J4 cs),none] mh _;unfold b15;have hl:=hf.len;walk_at "r"
 refine Cg (by intro z z';cases z') rfl ?_;walk_at "r"
 refine Ae (j:=0) (d:=.str w) rfl ?_;walk_at "r"
 refine Ae (j:=0) (d:=.str w) rfl ?_;refine ⟨w,rfl,?_⟩;rw [hw];walk_at "r"
 refine Ae (j:=0) (d:=.str w) rfl ?_;refine ⟨w,_,rfl,hw,?_⟩;walk_at "r"
 refine Cg (by intro z z';cases z') rfl ?_;walk_at "r"
 refine Cg (by intro z z';cases z') rfl ?_;walk_at "r"
 refine Rm (by rw [Bool.not_eq_false',beq_iff_eq,List.length_cons,List.length_map];omega) ?_;walk_at "r"
 refine Hf ?_;walk_at "r"
 refine Yb (k:=1) (by simp) ?_;walk_at "r"
 refine ⟨.tup (ss.map D.str),.tup args,_,_,rfl,rfl,rfl,?_⟩;refine ⟨List.zipWith (fun a b=>D.tup [a,b]) (ss.map D.str) args,fun j acc h'=>acc=List.replicate j (.bl true)/\Ext [] mh h',by rw [List.length_zipWith,List.length_map];omega,⟨rfl,Ext.refl⟩,fun _ _ _ _=>⟨rfl,rfl⟩,fun j acc h' q=>?_,fun j d acc h' ed q=>?_,fun acc h' q=>?_⟩
 ·rw [q.1,List.length_replicate];exact Nat.le_refl _
 ·obtain ⟨rfl,ex⟩:=q;obtain ⟨s,x,rfl,f⟩:=hf.zip j d ed;refine gW rfl ?_;walk_at "r"
  refine jP k L cs s x f h' fun h2 ex2=>?_
  exact ⟨by rw [List.replicate_succ'],ex.trans ex2⟩
 ·obtain ⟨rfl,ex⟩:=q;walk_at "r"
  refine Nm (f:=fun bs=>bs.all id) (bs:=List.replicate (List.zipWith (fun a b=>D.tup [a,b]) (ss.map D.str) args).length true) (by rw [Gg,List.map_replicate]) ?_;have e:(List.replicate (List.zipWith (fun a b=>D.tup [a,b]) (ss.map D.str) args).length true).all id=true:=by rw [List.all_eq_true];intro b hb;rw [(List.mem_replicate.mp hb).2];rfl
  rw [e];exact h _ (ex.trans Ext.more)
noncomputable def stD (t:D):D:=.obj "Step" ["form"] [t]
theorem Wq (k L:Nat) (cs:List Nat) (w:Str) (args:List D) (ss:List Str) (hw:Il.lookup w=some (.tup (ss.map D.str))) (hf:Fits L cs ss args) (hz:ss.length<=10) (mh:MH) {P:D->MH->Prop}(h:∀ mh',Ext [] mh mh'->P (stD (.tup (.str w::args))) mh') :
  wV (Ak (Gk (k+7)) fuel f14 [.tup (.str w::args),.int L,J4 cs] mh) P:=by
 refine Bg (yE (k+6)) iV.1 iV.2 rfl ?_;show wS (b14 (k+6)) [some (.tup (.str w::args)),some (.int L),some (J4 cs)] mh _;unfold b14;walk_at "r"
 refine Wo k L cs w args ss hw hf hz mh fun h' ex=>?_
 walk_at "r"
 exact h h' ex
theorem jQ (k:Nat) (ns:List Int) (i:Nat) (mh:MH) {P:D->MH->Prop}(h:∀ v:Int,P (.int v) mh):wV (Ak (Gk (k+1)) fuel f20 [.rol (ns.map D.int),.int i] mh) P:=by
 refine Bg (yJ k) jB.1 jB.2 rfl ?_;show wS (b20 k) [some (.rol (ns.map D.int)),some (.int i)] mh _;unfold b20;walk_at "r"
 refine Cg (by intro z;simp) rfl ?_;walk_at "r"
 refine Eo (fun hk=>?_) fun hk=>?_
 ·walk_at "r"
  rw [decide_eq_true_iff,List.length_map] at hk;have hi:i < ns.length:=by omega
  refine xJ (d:=.int ns[i]) (by rw [List.getElem?_map,List.getElem?_eq_getElem hi];rfl) ?_;exact h _
 ·walk_at "r"
  exact h _
theorem jR (i:Int) {j:Int}(h:0 < j):0<=i.fmod j:=Int.fmod_nonneg_of_pos i h
theorem jT (i:Int) {j:Int}(h:0 < j):i.fmod j < j:=Int.fmod_lt_of_pos i h
noncomputable def S3 (mh:MH) (n:Nat):Prop:=∃ a b c:Int,mh[n]?=some (.lst [.int a,.int b,.int c])
noncomputable def StV (mh:MH) (n:Nat):Prop:=(∃ a:Int,mh[n]?=some (.lst [.int a]))\/S3 mh n
theorem StV.lt {mh:MH}{n:Nat}(h:StV mh n):n < mh.length:=by
 rcases h with ⟨a,e⟩ | ⟨a,b,c,e⟩ <;> exact (List.getElem?_eq_some_iff.mp e).1
theorem StV.ext {mh mh':MH}{n:Nat}{W:List Nat}(h:StV mh n) (e:Ext W mh mh') (hn:n ∉ W):StV mh' n:=by
 rcases h with ⟨a,q⟩|⟨a,b,c,q⟩
 ·exact .inl ⟨a,e.old _ _ hn q⟩
 ·exact .inr ⟨a,b,c,e.old _ _ hn q⟩
theorem Ad (k n:Nat) (b:Int) (mh:MH) (hs:StV mh n) (h0:0 < b) (h1:b < 1152921504606846976) {P:D->MH->Prop}(h:∀ (r:Nat) (mh':MH),(r:Int) < b->Ext [n] mh mh'->StV mh' n->P (.int r) mh') :
  wV (Ak (Gk (k+1)) fuel f21 [.ref n,.int b] mh) P:=by
 have nat:∀ (i:Int) (mh':MH),Ext [n] mh mh'->S3 mh' n->P (.int (i.fmod b)) mh':=fun i mh' e s=>by
  have l1:=jR i h0;have l2:=jT i h0;have e1:((i.fmod b).toNat:Int)=i.fmod b:=by omega
  have:=h (i.fmod b).toNat mh' (by omega) e (.inr s);rw [e1] at this;exact this
 have hlt:=hs.lt;refine Bg (yK k) jC.1 jC.2 rfl ?_;show wS (b21 k) [some (.ref n),some (.int b),none,none] mh _;unfold b21;refine gR (pU (P:=fun f l h'=>f=.nx/\l=[some (.ref n),some (.int b),none,none]/\Ext [n] mh h'/\S3 h' n) ?_ ?_)
 ·rcases hs with ⟨a,e⟩|⟨a,b',c,e⟩
  ·walk_at "r"
   refine Cg (by intro z z';cases z') (ds:=[.int a]) (by show (match mh[n]? with | some (.lst o)=>some o | _=>none)=_;rw [e]) ?_;walk_at "r"
   refine ⟨ty_list e,?_⟩;walk_at "r"
   refine Bh (j:=0) e rfl ?_;walk_at "r"
   refine Ij (by decide) ?_;walk_at "r"
   refine ⟨by simp,?_⟩;have e2:=(Ext.more (W:=[]) (g:=[MO.lst [D.int (a.fmod 2147483647),D.int 0]])).old _ _ (by simp) e;walk_at "r"
   refine P0 e2 Ai (by simp) ?_;walk_at "r"
   exact ⟨rfl,rfl,Ext.more.trans Ext.set,_,_,_,Np e2⟩
  ·walk_at "r"
   refine Cg (by intro z z';cases z') (ds:=[.int a,.int b',.int c]) (by show (match mh[n]? with | some (.lst o)=>some o | _=>none)=_;rw [e]) ?_;walk_at "r"
   exact ⟨rfl,rfl,Ext.refl,_,_,_,e⟩
 ·rintro f l mh1 ⟨rfl,rfl,ex1,s0,s1,s2,hm⟩;walk_at "r"
  refine Bh (j:=0) hm rfl ?_;walk_at "r"
  refine Eo (fun e2=>?_) fun e2=>?_
  ·walk_at "r"
   refine Bh (j:=0) hm rfl ?_;walk_at "r"
   refine Ij (by omega) ?_;walk_at "r"
   refine Bh (j:=0) hm rfl ?_;walk_at "r"
   refine Rj (by omega) (by omega) ?_;walk_at "r"
   refine ⟨_,Uo (k:=0) hm (by simp),?_⟩;walk_at "r"
   have hm2:=Np (o:=.lst [.int (s0.fdiv b),.int s1,.int s2]) hm;exact nat _ _ (ex1.trans Ext.set) ⟨_,_,_,hm2⟩
  ·walk_at "r"
   refine Bh (j:=2) hm rfl ?_;walk_at "r"
   refine ⟨_,Uo (k:=2) hm (by simp),?_⟩;have hm2:=Np (o:=.lst [.int s0,.int s1,.int (s2+1)]) hm;walk_at "r"
   refine Bh (j:=1) hm2 rfl ?_;walk_at "r"
   refine Bh (j:=2) hm2 rfl ?_;refine J2 (.inl ⟨by decide,by decide⟩) ?_;walk_at "r"
   refine J2 (.inr ⟨by decide,by decide⟩) ?_;walk_at "r"
   refine Ij (by decide) ?_;generalize (s1+7919 * (s2+1)+1) * 48271=y;have l1:=jR y (j:=2147483647) (by decide);have l2:=jT y (j:=2147483647) (by decide);generalize y.fmod 2147483647=z at l1 l2;walk_at "r"
   refine Rj (by decide) (by decide) ?_;walk_at "r"
   refine J2 (.inl ⟨by omega,by omega⟩) ?_;walk_at "r"
   refine Ij (by decide) ?_;generalize z * (z.fdiv 1009+69621)=y2;have m1:=jR y2 (j:=2147483647) (by decide);have m2:=jT y2 (j:=2147483647) (by decide);generalize y2.fmod 2147483647=z2 at m1 m2;walk_at "r"
   refine Rj (by decide) (by decide) ?_;walk_at "r"
   refine J2 (.inl ⟨by omega,by omega⟩) ?_;walk_at "r"
   refine Ij (by decide) ?_;walk_at "r"
   refine Ij (by omega) ?_;exact nat _ _ (ex1.trans Ext.set) ⟨_,_,_,hm2⟩
theorem Im (k n:Nat) (mh:MH) (hs:StV mh n) {P:D->MH->Prop}(h:∀ (v:Int) (mh':MH),Ext [n] mh mh'->StV mh' n->P (.int v) mh'):wV (Ak (Gk (k+2)) fuel f23 [.ref n] mh) P:=by
 refine Bg (yM (k+1)) jE.1 jE.2 rfl ?_;show wS (b23 (k+1)) [some (.ref n)] mh _;unfold b23;have hlt:=hs.lt;walk_at "r"
 refine iC (by decide) (by decide) (by decide) ?_;refine J2 (.inl ⟨by decide,by decide⟩) ?_;walk_at "r"
 refine Ad k n _ mh hs (by decide) (by decide) fun r mh1 hr ex1 st1=>?_
 walk_at "r"
 refine iC (by decide) (by decide) (by decide) ?_;walk_at "r"
 refine ⟨by simp,?_⟩;walk_at "r"
 have lt1:=st1.lt;refine Ad k n _ _ (st1.ext (Ext.more (W:=[])) (by simp)) (by decide) (by decide) fun q mh2 hq ex2 st2=>?_
 have g2:=ex2.old mh1.length _ (by simp;omega) Ai;have hq:q=0\/q=1:=by omega
 rcases hq with rfl|rfl
 ·refine Bh (j:=0) g2 rfl ?_;walk_at "r"
  exact h _ _ ((ex1.trans Ext.more).trans ex2) st2
 ·refine Bh (j:=1) g2 rfl ?_;walk_at "r"
  exact h _ _ ((ex1.trans Ext.more).trans ex2) st2
theorem Ws {c:Nat}{mh:MH}(hc:c<=1000000) {P:D->MH->Prop}(h:P (.ref mh.length) (mh++[.lst ((List.range c).map Aw)])):wV (Ds (.int c) mh) P:=by
 refine ⟨_,_,?_,h⟩;have hb:-(2 ^ 62)<=(c:Int)/\(c:Int)<=1000000:=by omega
 have e:Be 0 c=(List.range c).map Aw:=by
  unfold Be;apply List.map_congr_left;intro a _;simp [Aw]
 simp only [Ds,if_pos hb,Int.toNat_natCast,e]
theorem aK (l:List Nat) (j:Nat):(l.map Aw).eraseIdx j=(l.eraseIdx j).map Aw:=by
 rw [List.eraseIdx_eq_take_drop_succ,List.eraseIdx_eq_take_drop_succ,List.map_append,List.map_take,List.map_drop]
theorem qH (k n L:Nat) (mh:MH) (hs:StV mh n) (hL:L<=1000) {P:D->MH->Prop}(h:∀ (ls:List Ln) (mh':MH),N6 L ls->Ext [n] mh mh'->StV mh' n->P (.tup (ls.map lnD)) mh'):wV (Ak (Gk (k+2)) fuel f22 [.ref n,.int L] mh) P:=by
 refine Bg (yL (k+1)) jD.1 jD.2 rfl ?_;show wS (b22 (k+1)) [some (.ref n),some (.int L),none,none,none,none,none,none,none] mh _;unfold b22;have hn:=hs.lt;walk_at "r"
 refine Ws (c:=13) (by omega) ?_;walk_at "r"
 refine ⟨Nat.zero_le _,?_⟩;walk_at "r"
 refine Rh ?_;have el:(mh++[MO.lst ((List.range 13).map Aw)]).length=mh.length+1:=by simp
 have xx:Ext [] mh ((mh++[MO.lst ((List.range 13).map Aw)])++[MO.lst []]):=Ext.more.trans Ext.more;have s1:=hs.ext xx (by simp);walk_at "r"
 refine Ad k n _ _ s1 (by decide) (by decide) fun r1 h1 hr1 ex1 st1=>?_
 walk_at "r"
 refine Ad k n _ _ st1 (by decide) (by decide) fun r2 h2 hr2 ex2 st2=>?_
 walk_at "r"
 refine ⟨by simp,?_⟩;walk_at "r"
 have lt2:=st2.lt;refine Ad k n _ _ (st2.ext (Ext.more (W:=[])) (by simp)) (by decide) (by decide) fun r3 h3 hr3 ex3 st3=>?_
 have g3:=ex3.old h2.length _ (by simp;omega) Ai;obtain ⟨v,hv,ev⟩:∃ v,v < 13/\[Aw r1,Aw r2][r3]?=some (Aw v):=by
  have:r3=0\/r3=1:=by omega
  rcases this with rfl|rfl
  ·exact ⟨r1,by omega,rfl⟩
  ·exact ⟨r2,by omega,rfl⟩
 refine Bh (j:=r3) g3 ev ?_;walk_at "r"
 have hvI:(1:Int)+(v:Int)=((v+1:Nat):Int):=by omega
 show ∃ s,Ky [.int (1+(v:Int))]=some s/\_;rw [hvI];have exA:Ext [n] ((mh++[MO.lst ((List.range 13).map Aw)])++[MO.lst []]) h3:=((ex1.trans ex2).trans Ext.more).trans ex3
 refine ⟨_,Jj (by omega),Be 0 (v+1),fun i loc h'=>∃ (rest:List Nat) (ls:List Ln) (z4 z5 z6 z7 z8:Option D),loc=[some (.ref n),some (.int L),some (.ref mh.length),some (.ref (mh.length+1)),z4,z5,z6,z7,z8]/\Ext [n] mh h'/\StV h' n/\h'[mh.length]?=some (.lst (rest.map Aw)) /\
  h'[mh.length+1]?=some (.lst (ls.map lnD))/\ls.length=i/\(ls.map (·.k)++rest).Perm (List.range 13)/\∀ l∈ls,qG L l,?_,fun i l h _=>⟨rfl,rfl⟩,?_,?_⟩
 ·refine ⟨List.range 13,[],none,none,none,none,none,by rw [el];rfl,xx.weak.trans exA,st3,?_,?_,rfl,.refl _,fun l hl=>by cases hl⟩
  ·exact exA.old _ _ (by simp;omega) ((Ext.more (W:=[])).old _ _ (by simp) Ai)
  ·refine exA.old _ _ (by simp;omega) ?_;rw [← el];exact Ai
 ·rintro i d loc h' ed ⟨rest,ls,z4,z5,z6,z7,z8,rfl,ex,st,hr,hf,fl,pm,ok⟩;have hi:i < v+1:=by
   have:=(List.getElem?_eq_some_iff.mp ed).1;rw [Ce] at this;exact this
  have hrl:rest.length=13 - i:=by
   have:=pm.length_eq;rw [List.length_append,List.length_range,List.length_map,fl] at this;omega
  walk_at "r"
  refine ⟨ty_list hr,?_⟩;walk_at "r"
  refine Cg (by intro z z';cases z') (ds:=rest.map Aw) (by show (match h'[mh.length]? with | some (.lst o)=>some o | _=>none)=_;rw [hr]) ?_;walk_at "r"
  rw [List.length_map,hrl];refine Ad k n _ h' st (by omega) (by omega) fun j h4 hj ex4 st4=>?_
  have hj:j < rest.length:=by omega
  have hr4:=ex4.old _ _ (by simp;omega) hr;have hf4:=ex4.old _ _ (by simp;omega) hf;walk_at "r"
  refine gY (k:=j) (y:=Aw rest[j]) hr4 (by rw [List.getElem?_map,List.getElem?_eq_getElem hj];rfl) (by rw [List.length_map];omega) ?_;rw [aK];generalize hm5:h4.set mh.length (.lst ((rest.eraseIdx j).map Aw))=h5;have hr5:h5[mh.length]?=some (.lst ((rest.eraseIdx j).map Aw)):=by rw [← hm5];exact Np hr4
  have hf5:h5[mh.length+1]?=some (.lst (ls.map lnD)):=by rw [← hm5,List.getElem?_set_ne (by omega)];exact hf4
  have ex5:Ext [n] mh h5:=by rw [← hm5];exact (ex.trans ex4).setNew (Nat.le_refl _)
  have st5:StV h5 n:=by rw [← hm5];exact st4.ext (Ext.set (n:=mh.length)) (by simp;omega)
  walk_at "r"
  refine Ad k n _ h5 st5 (by decide) (by decide) fun a h6 ha ex6 st6=>?_
  walk_at "r"
  refine Ad k n _ h6 st6 (by decide) (by decide) fun b h7 hb ex7 st7=>?_
  walk_at "r"
  refine ⟨_,_,rfl,?_⟩;walk_at "r"
  refine Ad k n _ h7 st7 (by decide) (by decide) fun c h8 hc ex8 st8=>?_
  walk_at "r"
  refine Ij (by decide) ?_;have es:((b:Int)+1+(c:Int)).fmod 3=(((b+1+c) % 3:Nat):Int):=by
   rw [Int.fmod_eq_emod_of_nonneg _ (by decide)];omega
  rw [es];walk_at "r"
  have hf8:=((ex6.trans ex7).trans ex8).old _ _ (by simp;omega) hf5;refine ⟨ty_list hf8,?_⟩;walk_at "r"
  refine Ad k n _ h8 st8 (by omega) (by omega) fun p h9 hp ex9 st9=>?_
  walk_at "r"
  refine ⟨by simp,?_⟩;have hf9:=ex9.old _ _ (by simp;omega) hf8;have hr9:=(((ex6.trans ex7).trans ex8).trans ex9).old _ _ (by simp;omega) hr5;walk_at "r"
  refine J3 hf9 (by rw [List.length_map];omega) ?_;walk_at "r"
  have exB:Ext [n] h5 h9:=((ex6.trans ex7).trans ex8).trans ex9;refine ⟨rest.eraseIdx j,ls++[⟨rest[j],a,b,(b+1+c) % 3,p⟩],_,_,_,_,_,rfl,(ex5.trans exB).setNew (by omega),st9.ext (Ext.set (n:=mh.length+1)) (by simp;omega),?_,?_,by rw [List.length_append,fl];rfl,?_,?_⟩
  ·rw [List.getElem?_set_ne (by omega)];exact hr9
  ·rw [Np hf9,List.map_append];rfl
  ·refine List.Perm.trans ?_ pm;rw [List.map_append,List.append_assoc];exact List.Perm.append_left _ (Fw hj)
  ·intro l hl;rcases List.mem_append.mp hl with q|q
   ·exact ok l q
   ·rw [List.mem_singleton.mp q];have hk:rest[j] < 13:=List.mem_range.mp (pm.mem_iff.mp (List.mem_append_right _ (List.getElem_mem hj)));refine ⟨?_,?_,?_,?_,?_,?_⟩ <;> dsimp only <;> omega
 ·rintro l h' ⟨rest,ls,z4,z5,z6,z7,z8,rfl,ex,st,hr,hf,fl,pm,ok⟩;rw [Ce] at fl;walk_at "r"
  refine Gz (ds:=ls.map lnD) (by show (match h'[mh.length+1]? with | some (.lst o)=>some o | _=>none)=_;rw [hf]) ?_;refine h ls h' ⟨by omega,by omega,ok,?_⟩ ex st;exact (List.nodup_append.mp (pm.nodup_iff.mpr List.nodup_range)).1
theorem qI {a b:Str}{mh:MH}{P:D->MH->Prop}(h:∃ k,PyData.strOk a=true/\PyData.strOk b=true/\(a==b)=k/\P (.bl k) mh):wV (eqD (.str a) (.str b) mh) P:=let ⟨_,h1,h2,h3,h4⟩:=h;Uq (Jl h1 h2 h3 mh) h4
local macro_rules | `(tactic| walk_at "q") => `(tactic| ((with_reducible refine qI ?_); first | refine ⟨true, by decide +kernel, by decide +kernel, by decide +kernel, ?_⟩ | refine ⟨false, by decide +kernel, by decide +kernel, by decide +kernel, ?_⟩))
local macro_rules | `(tactic| walk_at "g") => `(tactic| repeat (first | walk_at "s" | walk_at "q"))
theorem qJ {ds:List D}{q:Prop}(h:ds.length<=1000000) (hq:q):ds.length<=1000000/\q:=⟨h,hq⟩
noncomputable def NU:List Str:=["put", "copy", "raise", "sum", "choose"]
noncomputable def NA:List Str:=["me", "only", "pick"]
noncomputable def GR:List Str:=["all", "empty", "join"]
noncomputable def OT:List Str:=["less", "before", "go", "alike", "many", "send"]
noncomputable def lnM (l:Ln):List TX:=if l.k=0 then [("bell",[])] else [("number",[(l.n:Int)]),("name",[(l.m:Int)]),("name",[(l.s:Int)])]
noncomputable def K3 (ls:List Ln):List TX:=ls.flatMap lnM
inductive Wr:Str->List D->List TX->Prop
 | num (w:Str) (b:Int) (r:List D):(NU.any (·==w))=true->Wr w (.int b::r) [("number",[b])]
 | nam (w:Str) (b:Int) (r:List D):(NA.any (·==w))=true->Wr w (.int b::r) [("name",[b])]
 | grp (w:Str) (b:Int) (r:List D):(GR.any (·==w))=true->Wr w (.int b::r) [("set",[b])]
 | out (a g:Int) (r:List D):Wr "out" (.int a::.int g::r) [("name",[a]),("set",[g])]
 | bell:Wr "bell" [] [("bell",[])]
 | take (x:D) (ls:List Ln) (L:Nat):N6 L ls->Wr "take" [x,.tup (ls.map lnD)] (Bs (Dv (K3 ls)))
 | oth (w:Str) (args:List D):(OT.any (·==w))=true->Wr w args []
theorem yW {l:List Str}{p:Str->Bool}(h:l.all p=true) {w:Str}(hw:(l.any (·==w))=true):p w=true:=by
 obtain ⟨x,hx,e⟩:=List.any_eq_true.mp hw;have e:=eq_of_beq e;subst e;exact List.all_eq_true.mp h x hx
structure Fc (w:Str) (a b c d:Bool) (o:Option D):Prop where
 ok:PyData.strOk w=true
 nu:(NU.any (·==w))=a
 na:(NA.any (·==w))=b
 gr:(GR.any (·==w))=c
 ou:(w == "out")=d
 be:(w == "bell")=false
 ta:(w == "take")=false
 wr:Fi.lookup w=o
theorem Yc {l:List Str}{w:Str}{a b c d:Bool}{o:Option D}(hw:(l.any (·==w))=true) (h:l.all (fun w=>PyData.strOk w&&((NU.any (·==w))==a&&((NA.any (·==w))==b&&((GR.any (·==w))==c&&((w == "out")==d&&(!(w == "bell")&&!(w == "take")))))))=true) (h2:∀ w∈l,Fi.lookup w=o):Fc w a b c d o:=by
 have:=yW h hw;simp only [Bool.and_eq_true,beq_iff_eq,Bool.not_eq_true'] at this;obtain ⟨a1,a2,a3,a4,a5,a6,a7⟩:=this;obtain ⟨x,hx,e⟩:=List.any_eq_true.mp hw;have e:=eq_of_beq e;subst e;exact ⟨a1,a2,a3,a4,a5,a6,a7,h2 x hx⟩
theorem jU {w:Str}(h:(NU.any (·==w))=true):Fc w true false false false (some (.tup [.str "number"])):=Yc h (by decide +kernel) (by
 intro w hw;simp only [NU,List.mem_cons,List.mem_nil_iff,or_false] at hw
 rcases hw with rfl | rfl | rfl | rfl | rfl <;> kernel_rfl)
theorem jV {w:Str}(h:(NA.any (·==w))=true):Fc w false true false false (some (.tup [.str "name"])):=Yc h (by decide +kernel) (by
 intro w hw;simp only [NA,List.mem_cons,List.mem_nil_iff,or_false] at hw
 rcases hw with rfl | rfl | rfl <;> kernel_rfl)
theorem jW {w:Str}(h:(GR.any (·==w))=true):Fc w false false true false (some (.tup [.str "set"])):=Yc h (by decide +kernel) (by
 intro w hw;simp only [GR,List.mem_cons,List.mem_nil_iff,or_false] at hw
 rcases hw with rfl | rfl | rfl <;> kernel_rfl)
theorem jX {w:Str}(h:(OT.any (·==w))=true):Fc w false false false false none:=Yc h (by decide +kernel) (by
 intro w hw;simp only [OT,List.mem_cons,List.mem_nil_iff,or_false] at hw
 rcases hw with rfl | rfl | rfl | rfl | rfl | rfl <;> kernel_rfl)
theorem jY:Fc "out" false false false true (some (.tup [.str "name",.str "set"])):=⟨by decide +kernel,by decide +kernel,by decide +kernel,by decide +kernel,by decide +kernel,by decide +kernel,by decide +kernel,by kernel_rfl⟩
theorem N7 {a b:Str}{k:Bool}{mh:MH}{P:D->MH->Prop}(h1:PyData.strOk a=true) (h2:PyData.strOk b=true) (h3:(a==b)=k) (h:P (.bl k) mh):wV (eqD (.str a) (.str b) mh) P:=Uq (Jl h1 h2 h3 mh) h
noncomputable def mk4:List TX:=[("bell",[]),("number",[0]),("number",[1]),("number",[2]),("name",[0]),("name",[1]),("name",[2])]
theorem Yd {L:Nat}{l:Ln}(h:qG L l):∀ m∈lnM l,m∈mk4:=by
 obtain ⟨_,h2,h3,h4,_,_⟩:=h;intro m hm;unfold lnM at hm
 have three:∀ {b:Nat},b<=2->((("number",[(b:Int)]):TX)∈mk4/\(("name",[(b:Int)]):TX)∈mk4):=fun {b} hb=>by
  have:b=0\/b=1\/b=2:=by omega
  rcases this with rfl | rfl | rfl <;> exact ⟨by decide +kernel,by decide +kernel⟩
 split at hm
 ·rw [List.mem_singleton.mp hm];decide +kernel
 ·simp only [List.mem_cons,List.mem_nil_iff,or_false] at hm;rcases hm with rfl|rfl|rfl
  ·exact (three h2).1
  ·exact (three h3).2
  ·exact (three h4).2
theorem Uv {L:Nat}{ls:List Ln}(h:N6 L ls):(Dv (K3 ls)).length<=17:=by
 have:(Dv (K3 ls)).length<=mk4.length:=Xl Dl fun m hm=>by
  obtain ⟨l,hl,hm⟩:=List.mem_flatMap.mp (Dt.mp hm);exact Yd (h.2.2.1 l hl) m hm
 exact Nat.le_trans this (by decide)
theorem qK (l:Ln):(lnM l).length<=3:=by unfold lnM;split <;> simp
theorem N8:∀ ls:List Ln,(K3 ls).length<=3 * ls.length
 | []=>Nat.le_refl _
 | l::r=>by
  have a:=qK l;have b:=N8 r;show ((lnM l)++K3 r).length<=_;rw [List.length_append,List.length_cons];omega
theorem Hh {ls:List Ln}{i:Nat}{l:Ln}(e:ls[i]?=some l):K3 (ls.take (i+1))=K3 (ls.take i)++lnM l:=by
 unfold K3;rw [List.take_add_one,e];simp
theorem yX {h:MH}{j:Nat}{ds:List D}(e:h[j]?=some (.lst ds)):Dc (.ref j) h=some ds:=by
 show (match h[j]? with | some (.lst o)=>some o | _=>none)=_;rw [e]
theorem Wt {mh:MH}{i:Nat}{o x:MO}(e:mh[i]?=some x):(mh.set i o)[i]?=some o:=by
 obtain ⟨h,_⟩:=List.getElem?_eq_some_iff.mp e;rw [List.getElem?_set_self h]
theorem Abv (i:Nat):((i:Int)==0)=decide (i=0):=by
 by_cases z:i=0
 ·subst z;rfl
 ·rw [decide_eq_false z];simp;omega
local macro_rules | `(tactic| walk_at "x0") => `(tactic| repeat (first | walk_at "s" | with_reducible refine qJ (by simp) ?_))
theorem Wu (k L:Nat) (ls:List Ln) (hl:N6 L ls) (mh:MH) {P:D->MH->Prop}(h:∀ mh',Ext [] mh mh'->P (.tup ((Bs (Dv (K3 ls))).map txD)) mh'):wV (Ak (Gk (k+1)) fuel f13 [.tup (ls.map lnD)] mh) P:=by
 have l13:=hl.2.1;refine Bg (yD k) iU.1 iU.2 rfl ?_;show wS (b13 k) [some (.tup (ls.map lnD)),none,none] mh _;unfold b13
 walk_at "x0"
 refine Rh ?_;walk_at "r"
 refine ⟨_,rfl,ls.map lnD,fun i l h'=>∃ y2,l=[some (.tup (ls.map lnD)),some (.ref mh.length),y2]/\h'[mh.length]?=some (.lst ((K3 (ls.take i)).map txD))/\Ext [] mh h',⟨_,rfl,Ai,Ext.more⟩,fun _ _ _ _=>⟨rfl,rfl⟩,?_,?_⟩
 ·rintro i d l h1 ed ⟨y2,rfl,g1,x1⟩;rw [List.getElem?_map] at ed;cases el:ls[i]? with
  | none=>rw [el] at ed;cases ed
  | some ln =>
   rw [el] at ed;cases ed;have lm:=N8 (ls.take i);have lt:(ls.take i).length<=13:=by rw [List.length_take];omega
   walk_at "x0"
   refine Ae (j:=0) (d:=.int (ln.k:Int)) rfl ?_
   walk_at "x0"
   rw [Abv ln.k];refine Eo (fun e=>?_) fun e=>?_
   ·have e:=of_decide_eq_true e
    walk_at "x0"
    refine ⟨ty_list g1,?_⟩
    walk_at "x0"
    refine J3 g1 (by rw [List.length_map];omega) ?_
    walk_at "x0"
    refine ⟨_,rfl,?_,x1.setNew (Nat.le_refl _)⟩;rw [Wt g1,Hh el];unfold lnM;rw [if_pos e,List.map_append];rfl
   ·have e:=of_decide_eq_false e
    walk_at "x0"
    refine ⟨ty_list g1,?_⟩
    walk_at "x0"
    refine Ae (j:=1) rfl ?_
    walk_at "x0"
    refine Ae (j:=2) rfl ?_
    walk_at "x0"
    refine Ae (j:=3) rfl ?_
    walk_at "x0"
    have g2:=(Ext.more (W:=[]) (g:=[MO.lst [D.tup [.str "number",Aw ln.n],.tup [.str "name",Aw ln.m],.tup [.str "name",Aw ln.s]]])).old _ _ (by simp) g1;refine P0 g2 Ai (by rw [List.length_map];simp;omega) ?_
    walk_at "x0"
    refine ⟨_,rfl,?_,(x1.trans Ext.more).setNew (Nat.le_refl _)⟩;rw [Wt g2,Hh el]
    rw [show lnM ln=([("number",[(ln.n:Int)]),("name",[(ln.m:Int)]),("name",[(ln.s:Int)])]:List TX) by unfold lnM;rw [if_neg e],List.map_append];rfl
 ·rintro l h1 ⟨y2,rfl,g1,x1⟩;rw [List.length_map,List.take_length] at g1;walk_at "r"
  refine Nj (Jk g1 (Uv hl)) ?_;walk_at "r"
  exact Gz (Gg _ _) (h _ (x1.trans Ext.more))
local macro_rules | `(tactic| walk_at "q") => `(tactic| ((with_reducible refine qI ?_); first | refine ⟨true, by decide +kernel, by decide +kernel, by decide +kernel, ?_⟩ | refine ⟨false, by decide +kernel, by decide +kernel, by decide +kernel, ?_⟩))
local macro_rules | `(tactic| walk_at "g") => `(tactic| repeat (first | walk_at "s" | walk_at "q"))
theorem Wv (k L:Nat) (ls:List Ln) (hl:N6 L ls) (mh:MH) {P:D->MH->Prop}(h:∀ mh',Ext [] mh mh'->P (.tup ((Bs (Dv (K3 ls))).map txD)) mh'):wV (Ak (Gk (k+1)) fuel f27 [.tup (ls.map lnD)] mh) P:=by
 have l13:=hl.2.1;refine Bg (yQ k) jJ.1 jJ.2 rfl ?_;show wS (b27 k) [some (.tup (ls.map lnD)),none,none,none,none,none,none] mh _;unfold b27
 walk_at "x0"
 refine Rh ?_;walk_at "r"
 refine ⟨_,rfl,ls.map lnD,fun i l h'=>∃ j y2 y3 y4 y5 y6,l=[some (.tup (ls.map lnD)),some (.ref j),y2,y3,y4,y5,y6]/\mh.length<=j/\h'[j]?=some (.lst ((K3 (ls.take i)).map txD))/\Ext [] mh h',⟨_,_,_,_,_,_,rfl,Nat.le_refl _,Ai,Ext.more⟩,fun _ _ _ _=>⟨rfl,rfl⟩,?_,?_⟩
 ·rintro i d l h1 ed ⟨j,y2,y3,y4,y5,y6,rfl,hj,g1,x1⟩;rw [List.getElem?_map] at ed;cases el:ls[i]? with
  | none=>rw [el] at ed;cases ed
  | some ln =>
   rw [el] at ed;cases ed;have lm:=N8 (ls.take i);have lt:(ls.take i).length<=13:=by rw [List.length_take];omega
   refine gW rfl ?_;show wS _ [some (.tup (ls.map lnD)),some (.ref j),some (Aw ln.k),some (Aw ln.n),some (Aw ln.m),some (Aw ln.s),some (Aw ln.p)] h1 _
   walk_at "x0"
   rw [Abv ln.k];refine Eo (fun e=>?_) fun e=>?_
   ·have e:=of_decide_eq_true e
    walk_at "x0"
    refine ⟨ty_list g1,?_⟩
    walk_at "x0"
    refine J3 g1 (by rw [List.length_map];omega) ?_
    walk_at "x0"
    refine ⟨_,_,_,_,_,_,rfl,hj,?_,x1.setNew hj⟩;rw [Wt g1,Hh el];unfold lnM;rw [if_pos e,List.map_append];rfl
   ·have e:=of_decide_eq_false e
    walk_at "x0"
    have g2:=(Ext.more (W:=[]) (g:=[MO.lst [D.tup [.str "number",Aw ln.n],.tup [.str "name",Aw ln.m],.tup [.str "name",Aw ln.s]]])).old _ _ (by simp) g1;refine X5 g2 Ai (by rw [List.length_map];simp;omega) ?_
    walk_at "x0"
    refine ⟨_,_,_,_,_,_,rfl,?_,?_,(x1.trans Ext.more).trans Ext.more⟩
    ·have:=x1.len;rw [List.length_append];omega
    ·rw [Ai,Hh el]
     rw [show lnM ln=([("number",[(ln.n:Int)]),("name",[(ln.m:Int)]),("name",[(ln.s:Int)])]:List TX) by unfold lnM;rw [if_neg e],List.map_append];rfl
 ·rintro l h1 ⟨j,y2,y3,y4,y5,y6,rfl,hj,g1,x1⟩;rw [List.length_map,List.take_length] at g1;walk_at "r"
  refine Nj (Jk g1 (Uv hl)) ?_;walk_at "r"
  exact Gz (Gg _ _) (h _ (x1.trans Ext.more))
theorem sl1 {d:D}{ds:List D}{mh:MH}{P:D->MH->Prop}(h:P (.tup ds) mh):wV (slD (.tup (d::ds)) (some 1) none mh) P:=Yb (k:=1) (by simp) h
theorem Ww (a:TX):Bs [a]=[a]:=(Gy (by simp) (.refl _) (List.pairwise_singleton _ _)).symm
theorem yZ:Bs []=[]:=(Cd []).eq_nil
theorem zA {a b:TX}(h:Dg a b=true):Bs [a,b]=[a,b]:=by
 have ne:a≠b:=fun z=>by subst z;rw [Jd] at h;cases h
 refine (Gy (by simp [ne]) (.refl _) ?_).symm;simp [h]
theorem rG (a g:Int):Dg (("name",[a]):TX) (("set",[g]):TX)=true:=by
 unfold Dg
 rw [if_neg (by show ¬ ("name":Str) = "set";decide +kernel)]
 show decide (("name":Str).cps.toList < ("set":Str).cps.toList)=true;decide +kernel
theorem Abw {x y:D}{as bs:List D}{ks:List TX}{mh:MH}{P:D->MH->Prop}(e1:Dc x mh=some as) (e2:Dc y mh=some bs) (ek:List.zipWith Gm as bs=ks.map txD) (nd:ks.Nodup) (l:ks.length < 64) (h:P (.ref (mh.length+1)) (mh++[.lst (List.zipWith Gm as bs)]++[.lst ((Bs ks).map txD)])):wV (Ff [x,y] mh) P:=by
 refine ⟨_,_,?_,h⟩;show (match Dc x mh,Dc y mh with | some as,some bs=>(match Jf (List.zipWith Gm as bs) with | some ks=>if ks.Nodup/\ks.length < 64 then some (D.ref (mh.length+1),mh++[MO.lst (List.zipWith Gm as bs)]++[MO.lst ((Bs ks).map txD)]) else none | none=>none) | _,_=>none)=_;rw [e1,e2];dsimp only;rw [ek,Jw];dsimp only;rw [if_pos ⟨nd,l⟩]
theorem Oa (k:Nat) (w:Str) (args:List D) (ms:List TX) (hw:Wr w args ms) (mh:MH) {P:D->MH->Prop}(h:∀ mh',Ext [] mh mh'->P (.tup (ms.map txD)) mh') :
  wV (Ak (Gk (k+2)) fuel Ku [stD (.tup (.str w::args))] mh) P:=by
 have gen:∀ (a b c d:Bool) (o:Option D) (as:List D),Fc w a b c d o->o.getD (.tup [])=.tup as->List.zipWith Gm as args=ms.map txD->ms.Nodup->ms.length < 64->Bs ms=ms->wV (Ak (Gk (k+2)) fuel Ku [stD (.tup (.str w::args))] mh) P:=fun a b c d o as F eo ez nd lz so'=>by
  refine Bg (N5 (k+1)) Fj.1 Fj.2 rfl ?_;show wS (G3 (k+1)) [some (stD (.tup (.str w::args))),none] mh _;unfold G3;walk_at "r"
  refine Hg (by decide +kernel) ?_;walk_at "r"
  refine Ae (j:=0) (d:=.str w) rfl ?_;walk_at "r"
  refine N7 F.ok (by decide +kernel) F.be ?_;walk_at "r"
  refine N7 F.ok (by decide +kernel) F.ta ?_;walk_at "r"
  refine xP ?_
  walk_at "x0"
  refine ⟨o.getD (.tup []),?_,?_⟩
  ·show some ((Fi.lookup w).getD (.tup []))=_;rw [F.wr]
  rw [eo];walk_at "r"
  refine Hg (by decide +kernel) ?_;walk_at "r"
  refine sl1 ?_;walk_at "r"
  refine Abw rfl rfl ez nd lz ?_;rw [so'];walk_at "r"
  have g1:(mh++[MO.lst (List.zipWith Gm as args)]++[MO.lst (ms.map txD)])[mh.length+1]?=some (.lst (ms.map txD)):=by
   have:=Ai (a:=mh++[MO.lst (List.zipWith Gm as args)]) (o:=.lst (ms.map txD));rw [List.length_append] at this;exact this
  exact Gz (yX g1) (h _ (Ext.more.trans Ext.more))
 cases hw with
 | num _ b r hn=>exact gen _ _ _ _ _ _ (jU hn) rfl rfl (by simp) (by simp) (Ww _)
 | nam _ b r hn=>exact gen _ _ _ _ _ _ (jV hn) rfl rfl (by simp) (by simp) (Ww _)
 | grp _ b r hn=>exact gen _ _ _ _ _ _ (jW hn) rfl rfl (by simp) (by simp) (Ww _)
 | out a g r=>exact gen _ _ _ _ _ _ jY rfl rfl (by
   have:(("name",[a]):TX)≠(("set",[g]):TX):=fun z=>by
    have:=rG a g;rw [z,Jd] at this;cases this
   simpa using this) (by simp) (zA (rG a g))
 | oth _ _ hn=>exact gen _ _ _ _ _ _ (jX hn) rfl rfl (by simp) (by simp) yZ
 | bell =>
  refine Bg (N5 (k+1)) Fj.1 Fj.2 rfl ?_
  show wS (G3 (k+1)) [some (stD (.tup [.str "bell"])),none] mh _;unfold G3;walk_at "r"
  refine Hg (by decide +kernel) ?_;walk_at "r"
  refine Ae (j:=0) (d:=.str "bell") rfl ?_
  walk_at "g"
  walk_at "x0"
  exact h _ Ext.refl
 | take x ls L hl =>
  refine Bg (N5 (k+1)) Fj.1 Fj.2 rfl ?_
  show wS (G3 (k+1)) [some (stD (.tup [.str "take",x,.tup (ls.map lnD)])),none] mh _;unfold G3;walk_at "r"
  refine Hg (by decide +kernel) ?_;walk_at "r"
  refine Ae (j:=0) (d:=.str "take") rfl ?_
  walk_at "g"
  refine Hg (by decide +kernel) ?_;walk_at "r"
  refine Ae (j:=2) (d:=.tup (ls.map lnD)) rfl ?_;walk_at "r"
  exact Wu k L ls hl mh h
structure Fd (w:Str) (d e f:Bool):Prop where
 ok:PyData.strOk w=true
 nu:(NU.any (·==w))=false
 na:(NA.any (·==w))=false
 gr:(GR.any (·==w))=false
 ou:(w == "out")=d
 be:(w == "bell")=e
 ta:(w == "take")=f
theorem Ac2:Fd "bell" false true false:=⟨by decide +kernel,by decide +kernel,by decide +kernel,by decide +kernel,by decide +kernel,by decide +kernel,by decide +kernel⟩
theorem Ac3:Fd "take" false false true:=⟨by decide +kernel,by decide +kernel,by decide +kernel,by decide +kernel,by decide +kernel,by decide +kernel,by decide +kernel⟩
theorem Ye (k:Nat) (w:Str) (args:List D) (ms:List TX) (hw:Wr w args ms) (mh:MH) {P:D->MH->Prop}(h:∀ mh',Ext [] mh mh'->P (.tup (ms.map txD)) mh') :
  wV (Ak (Gk (k+2)) fuel f28 [.tup (.str w::args)] mh) P:=by
 refine Bg (yR (k+1)) jK.1 jK.2 rfl ?_;show wS (b28 (k+1)) [some (.tup (.str w::args))] mh _;unfold b28
 walk_at "x0"
 cases hw with
 | num _ b r hn =>
  have F:=jU hn;refine Ae (j:=0) rfl ?_
  walk_at "x0"
  refine Ck ((Bd (ws:=NU) F.ok (by decide +kernel) (by exact Ai)).trans (congrArg some F.nu)) ?_
  walk_at "x0"
  refine Ae (j:=1) (d:=.int b) rfl ?_
  walk_at "x0"
  exact h _ Ext.more
 | nam _ b r hn =>
  have F:=jV hn;refine Ae (j:=0) rfl ?_
  walk_at "x0"
  refine Ck ((Bd (ws:=NU) F.ok (by decide +kernel) (by exact Ai)).trans (congrArg some F.nu)) ?_
  walk_at "x0"
  refine Ae (j:=0) rfl ?_
  walk_at "x0"
  refine Ck ((Bd (ws:=NA) F.ok (by decide +kernel) (by exact Ai)).trans (congrArg some F.na)) ?_
  walk_at "x0"
  refine Ae (j:=1) (d:=.int b) rfl ?_
  walk_at "x0"
  exact h _ (Ext.more.trans Ext.more)
 | grp _ b r hn =>
  have F:=jW hn;refine Ae (j:=0) rfl ?_
  walk_at "x0"
  refine Ck ((Bd (ws:=NU) F.ok (by decide +kernel) (by exact Ai)).trans (congrArg some F.nu)) ?_
  walk_at "x0"
  refine Ae (j:=0) rfl ?_
  walk_at "x0"
  refine Ck ((Bd (ws:=NA) F.ok (by decide +kernel) (by exact Ai)).trans (congrArg some F.na)) ?_
  walk_at "x0"
  refine Ae (j:=0) rfl ?_
  walk_at "x0"
  refine Ck ((Bd (ws:=GR) F.ok (by decide +kernel) (by exact Ai)).trans (congrArg some F.gr)) ?_
  walk_at "x0"
  refine Ae (j:=1) (d:=.int b) rfl ?_
  walk_at "x0"
  exact h _ ((Ext.more.trans Ext.more).trans Ext.more)
 | oth _ _ hn =>
  have F:=jX hn;refine Ae (j:=0) rfl ?_
  walk_at "x0"
  refine Ck ((Bd (ws:=NU) F.ok (by decide +kernel) (by exact Ai)).trans (congrArg some F.nu)) ?_
  walk_at "x0"
  refine Ae (j:=0) rfl ?_
  walk_at "x0"
  refine Ck ((Bd (ws:=NA) F.ok (by decide +kernel) (by exact Ai)).trans (congrArg some F.na)) ?_
  walk_at "x0"
  refine Ae (j:=0) rfl ?_
  walk_at "x0"
  refine Ck ((Bd (ws:=GR) F.ok (by decide +kernel) (by exact Ai)).trans (congrArg some F.gr)) ?_
  walk_at "x0"
  refine Ae (j:=0) rfl ?_
  walk_at "x0"
  refine N7 F.ok (by decide +kernel) F.ou ?_
  walk_at "x0"
  refine Ae (j:=0) rfl ?_
  walk_at "x0"
  refine N7 F.ok (by decide +kernel) F.be ?_
  walk_at "x0"
  refine Ae (j:=0) rfl ?_
  walk_at "x0"
  refine N7 F.ok (by decide +kernel) F.ta ?_
  walk_at "x0"
  exact h _ ((Ext.more.trans Ext.more).trans Ext.more)
 | out a g r =>
  have F:=jY;refine Ae (j:=0) rfl ?_
  walk_at "x0"
  refine Ck ((Bd (ws:=NU) F.ok (by decide +kernel) (by exact Ai)).trans (congrArg some F.nu)) ?_
  walk_at "x0"
  refine Ae (j:=0) rfl ?_
  walk_at "x0"
  refine Ck ((Bd (ws:=NA) F.ok (by decide +kernel) (by exact Ai)).trans (congrArg some F.na)) ?_
  walk_at "x0"
  refine Ae (j:=0) rfl ?_
  walk_at "x0"
  refine Ck ((Bd (ws:=GR) F.ok (by decide +kernel) (by exact Ai)).trans (congrArg some F.gr)) ?_
  walk_at "x0"
  refine Ae (j:=0) rfl ?_
  walk_at "x0"
  refine N7 F.ok (by decide +kernel) F.ou ?_
  walk_at "x0"
  refine Ae (j:=1) (d:=.int a) rfl ?_
  walk_at "x0"
  refine Ae (j:=2) (d:=.int g) rfl ?_
  walk_at "x0"
  exact h _ ((Ext.more.trans Ext.more).trans Ext.more)
 | bell =>
  have F:=Ac2;refine Ae (j:=0) rfl ?_
  walk_at "x0"
  refine Ck ((Bd (ws:=NU) F.ok (by decide +kernel) (by exact Ai)).trans (congrArg some F.nu)) ?_
  walk_at "x0"
  refine Ae (j:=0) rfl ?_
  walk_at "x0"
  refine Ck ((Bd (ws:=NA) F.ok (by decide +kernel) (by exact Ai)).trans (congrArg some F.na)) ?_
  walk_at "x0"
  refine Ae (j:=0) rfl ?_
  walk_at "x0"
  refine Ck ((Bd (ws:=GR) F.ok (by decide +kernel) (by exact Ai)).trans (congrArg some F.gr)) ?_
  walk_at "x0"
  refine Ae (j:=0) rfl ?_
  walk_at "x0"
  refine N7 F.ok (by decide +kernel) F.ou ?_
  walk_at "x0"
  refine Ae (j:=0) rfl ?_
  walk_at "x0"
  refine N7 F.ok (by decide +kernel) F.be ?_
  walk_at "x0"
  exact h _ ((Ext.more.trans Ext.more).trans Ext.more)
 | take x ls L hl =>
  have F:=Ac3;refine Ae (j:=0) rfl ?_
  walk_at "x0"
  refine Ck ((Bd (ws:=NU) F.ok (by decide +kernel) (by exact Ai)).trans (congrArg some F.nu)) ?_
  walk_at "x0"
  refine Ae (j:=0) rfl ?_
  walk_at "x0"
  refine Ck ((Bd (ws:=NA) F.ok (by decide +kernel) (by exact Ai)).trans (congrArg some F.na)) ?_
  walk_at "x0"
  refine Ae (j:=0) rfl ?_
  walk_at "x0"
  refine Ck ((Bd (ws:=GR) F.ok (by decide +kernel) (by exact Ai)).trans (congrArg some F.gr)) ?_
  walk_at "x0"
  refine Ae (j:=0) rfl ?_
  walk_at "x0"
  refine N7 F.ok (by decide +kernel) F.ou ?_
  walk_at "x0"
  refine Ae (j:=0) rfl ?_
  walk_at "x0"
  refine N7 F.ok (by decide +kernel) F.be ?_
  walk_at "x0"
  refine Ae (j:=0) rfl ?_
  walk_at "x0"
  refine N7 F.ok (by decide +kernel) F.ta ?_
  walk_at "x0"
  refine Ae (j:=2) (d:=.tup (ls.map lnD)) rfl ?_
  walk_at "x0"
  exact Wv k L ls hl _ fun m' x'=>h _ (((Ext.more.trans Ext.more).trans Ext.more).trans x')
noncomputable def QW:List Str:=["send", "take"]
theorem aL (k:Nat) (w:Str) (args:List D) (hw:PyData.strOk w=true) (mh:MH) {P:D->MH->Prop}(h:P (.bl (!(QW.any (·==w)))) mh):wV (Ak (Gk (k+1)) fuel Nx [stD (.tup (.str w::args))] mh) P:=by
 refine Bg (jM k) Us.1 Us.2 rfl ?_;show wS (Nz k) [some (stD (.tup (.str w::args)))] mh _;unfold Nz;walk_at "r"
 refine Hg (by decide +kernel) ?_;walk_at "r"
 refine Ae (j:=0) (d:=.str w) rfl ?_
 walk_at "x0"
 exact Ck (qD (ws:=QW) hw (by decide +kernel) _) h
theorem Wr.ok {w:Str}{args:List D}{ms:List TX}(h:Wr w args ms):PyData.strOk w=true:=by
 cases h with
 | num _ b r hn=>exact (jU hn).ok
 | nam _ b r hn=>exact (jV hn).ok
 | grp _ b r hn=>exact (jW hn).ok
 | oth _ _ hn=>exact (jX hn).ok
 | _=>decide +kernel
theorem Wr.strs {w:Str}{args:List D}{ms:List TX}(h:Wr w args ms):∀ m∈ms,PyData.strOk m.1=true:=by
 cases h with
 | take x ls L hl =>
  intro m hm;have hm:=Dt.mp ((Cd _).mem_iff.mp hm);obtain ⟨l,hl2,hm⟩:=List.mem_flatMap.mp hm;have:=Yd (hl.2.2.1 l hl2) m hm;have all:mk4.all (fun m=>PyData.strOk m.1)=true:=by decide +kernel
  exact List.all_eq_true.mp all m this
 | oth=>intro m hm;cases hm
 | out a g r =>
  intro m hm;simp only [List.mem_cons,List.mem_nil_iff,or_false] at hm;rcases hm with rfl | rfl <;> kernel_rfl
 | _ =>
  intro m hm;rw [List.mem_singleton.mp hm]
  kernel_rfl
local macro_rules | `(tactic| walk_at "q") => `(tactic| ((with_reducible refine qI ?_); first | refine ⟨true, by decide +kernel, by decide +kernel, by decide +kernel, ?_⟩ | refine ⟨false, by decide +kernel, by decide +kernel, by decide +kernel, ?_⟩))
local macro_rules | `(tactic| walk_at "g") => `(tactic| repeat (first | walk_at "s" | walk_at "q"))
section
variable {L:Nat}{cs:List Nat}
theorem fnb (r:Nat) (h:r<=2):Fit L cs "number box" (.int r):=.bound _ 0 2 r (by decide +kernel) (by kernel_rfl) (by omega) (by omega)
theorem fab (r:Nat) (h:r<=2):Fit L cs "name box" (.int r):=.bound _ 0 2 r (by decide +kernel) (by kernel_rfl) (by omega) (by omega)
theorem fam (i:Int) (h1:-1<=i) (h2:i<=2):Fit L cs "name box or -1" (.int i):=.bound _ (-1) 2 i (by decide +kernel) (by kernel_rfl) h1 h2
theorem fsb (r:Nat) (h:r<=1):Fit L cs "set box" (.int r):=.bound _ 0 1 r (by decide +kernel) (by kernel_rfl) (by omega) (by omega)
theorem fki (i:Int) (h1:1<=i) (h2:i<=12):Fit L cs "kind" (.int i):=.bound _ 1 12 i (by decide +kernel) (by kernel_rfl) h1 h2
theorem fch (i:Int) (h1:1<=i) (h2:i<=20):Fit L cs "choices" (.int i):=.bound _ 1 20 i (by decide +kernel) (by kernel_rfl) h1 h2
theorem fmt (r:Nat) (h:r<=6):Fit L cs "amount" (.int r):=.bound _ 0 6 r (by decide +kernel) (by kernel_rfl) (by omega) (by omega)
end
noncomputable def Told (L:Nat) (cs:List Nat) (t:D):Prop:=∃ (w:Str) (args:List D) (ss:List Str) (ms:List TX),t=.tup (.str w::args)/\Il.lookup w=some (.tup (ss.map D.str))/\Fits L cs ss args/\ss.length<=10/\Wr w args ms
theorem qL {a b:Nat}{xs ys:List Int}{mh:MH}{P:D->MH->Prop}(e1:mh[a]?=some (.lst (xs.map D.int))) (e2:mh[b]?=some (.lst (ys.map D.int))) (h:P (.bl (xs==ys)) mh):wV (eqD (.ref a) (.ref b) mh) P :=
 Uq (k:=(xs==ys)) (by simp only [eqB,X3 e1,X3 e2,PyData.eqv,Ks]) h
theorem Wx (c:Nat):Be 0 c=(List.range c).map Aw:=by
 unfold Be;apply List.map_congr_left;intro a _;simp [Aw]
theorem aM (k n L:Nat) (cs:List Nat) (w:Str) (hw:w = "me"\/w = "only"\/w = "pick"\/w = "alike"\/w = "all"\/w = "empty"\/w = "join"\/w = "out"\/w = "many") (mh:MH) (hs:StV mh n) (hL:L<=1000) (c1:1<=cs.length) (c2:cs.length<=1000) {P:D->MH->Prop}(h:∀ (t:D) (mh':MH),Told L cs t->Ext [n] mh mh'->StV mh' n->P t mh') :
  wV (Ak (Gk (k+2)) fuel f24 [.ref n,.str w,.int L,J4 cs] mh) P:=by
 refine Bg (yN (k+1)) jF.1 jF.2 rfl ?_;show wS (b24 (k+1)) [some (.ref n),some (.str w),some (.int L),some (J4 cs),none,none,none] mh _;unfold b24;walk_at "r"
 refine Ad k n _ mh hs (by decide) (by decide) fun a h1 ha ex1 st1=>?_
 walk_at "r"
 have lcs:∀ hh:MH,Dc (J4 cs) hh=some (cs.map Aw):=fun _=>rfl
 rcases hw with rfl|rfl|rfl|rfl|rfl|rfl|rfl|rfl|rfl
 ·walk_at "g"
  refine ⟨by simp,?_⟩
  exact h _ _ ⟨"me",_,["name box"],_,rfl,by kernel_rfl,.cons (fab a (by omega)) (.nil),by decide,.nam _ _ _ (by decide +kernel)⟩ ex1 st1
 ·walk_at "g"
  refine Hf ?_;walk_at "r"
  refine Cg (by intro z z';cases z') (lcs _) ?_;rw [List.length_map];walk_at "r"
  refine ⟨_,Jj (by omega),Be 0 cs.length,fun j acc h2=>(∃ ms:List Nat,acc=ms.map Aw/\ms.length<=j/\∀ m∈ms,cs[m]?=some 1)/\h2=h1,by rw [Ce];omega,⟨⟨[],rfl,Nat.le_refl _,fun m hm=>by cases hm⟩,rfl⟩,fun _ _ _ _=>⟨rfl,rfl⟩,?_,?_,?_⟩
  ·rintro j acc h2 ⟨⟨ms,rfl,hm,_⟩,_⟩;rw [List.length_map];exact hm
  ·rintro j d acc h2 ed ⟨⟨ms,rfl,hm,ok⟩,rfl⟩;rw [Wx,List.getElem?_map] at ed;have hj:j < cs.length:=by
    rcases Nat.lt_or_ge j cs.length with q|q
    ·exact q
    ·rw [List.getElem?_eq_none (by rw [List.length_range];exact q)] at ed;cases ed
   rw [List.getElem?_range hj] at ed;cases ed;have et:cs[j]?=some cs[j]:=List.getElem?_eq_getElem hj;generalize cs[j]=v at et;walk_at "r"
   refine Ae (d:=Aw v) (by rw [List.getElem?_map,et];rfl) ?_;walk_at "r"
   refine Eo (fun q=>?_) fun q=>?_
   ·walk_at "r"
    have q:((v:Int)==1)=true:=q;rw [beq_iff_eq] at q;have hv:v=1:=by omega
    subst hv;refine ⟨⟨ms++[j],by rw [List.map_append];rfl,by rw [List.length_append];exact Nat.add_le_add hm (Nat.le_refl _),fun m hmm=>?_⟩,rfl⟩;rcases List.mem_append.mp hmm with z|z
    ·exact ok m z
    ·rw [List.mem_singleton.mp z];exact et
   ·exact ⟨⟨ms,rfl,Nat.le_succ_of_le hm,ok⟩,rfl⟩
  rintro acc h2 ⟨⟨ms,rfl,hm,ok⟩,rfl⟩;rw [Ce] at hm;walk_at "r"
  refine ⟨Nat.zero_le _,?_⟩;have gA:((h2++[MO.lst (ms.map Aw)])++[MO.lst []])[h2.length]?=some (.lst ((ms.map fun n:Nat=>(n:Int)).map D.int)):=by
   rw [← Ur];exact (Ext.more (W:=[])).old _ _ (by simp) Ai
  refine qL (ys:=[]) gA Ai ?_;have xA:Ext [] h2 ((h2++[MO.lst (ms.map Aw)])++[MO.lst []]):=Ext.more.trans Ext.more;have sA:=st1.ext xA (by simp);walk_at "r"
  refine Eo (fun q=>?_) fun q=>?_
  ·walk_at "r"
   refine ⟨by simp,?_⟩
   exact h _ _ ⟨"me",_,["name box"],_,rfl,by kernel_rfl,.cons (fab a (by omega)) (.nil),by decide,.nam _ _ _ (by decide +kernel)⟩ (ex1.trans xA.weak) sA
  ·have hne:0 < ms.length:=by
    cases ms with
    | nil=>cases q
    | cons x r=>simp
   walk_at "r"
   refine Cg (by intro z z';cases z') (ds:=(ms.map fun n:Nat=>(n:Int)).map D.int) (by simp only [Dc,gA]) ?_;rw [List.length_map,List.length_map];walk_at "r"
   refine Ad k n _ _ sA (by omega) (by omega) fun j h3 hj ex3 st3=>?_
   have hj:j < ms.length:=by omega
   have lt1:=st1.lt;have g3:=ex3.old _ _ (by simp;omega) gA;refine Bh (j:=j) (d:=Aw ms[j]) g3 (by rw [← Ur,List.getElem?_map,List.getElem?_eq_getElem hj];rfl) ?_;walk_at "r"
   refine ⟨by simp,?_⟩
   exact h _ _ ⟨"only",_,["name box", "lone role"],_,rfl,by kernel_rfl,.cons (fab a (by omega)) (.cons (Fit.lone _ (ok _ (List.getElem_mem hj))) (.nil)),by decide,.nam _ _ _ (by decide +kernel)⟩ ((ex1.trans xA.weak).trans ex3) st3
 ·walk_at "g"
  refine Cg (by intro z z';cases z') (lcs _) ?_;rw [List.length_map];walk_at "r"
  refine Ad k n _ _ st1 (by omega) (by omega) fun r h2 hr ex2 st2=>?_
  walk_at "r"
  refine ⟨by simp,?_⟩
  exact h _ _ ⟨"pick",_,["name box", "role"],_,rfl,by kernel_rfl,.cons (fab a (by omega)) (.cons (Fit.role r (by omega)) (.nil)),by decide,.nam _ _ _ (by decide +kernel)⟩ (ex1.trans ex2) st2
 ·walk_at "g"
  refine Ad k n _ _ st1 (by decide) (by decide) fun r h2 hr ex2 st2=>?_
  walk_at "r"
  refine Ad k n _ _ st2 (by omega) (by omega) fun p h3 hp ex3 st3=>?_
  walk_at "r"
  refine ⟨by simp,?_⟩
  exact h _ _ ⟨"alike",_,["name box", "name box", "place"],_,rfl,by kernel_rfl,.cons (fab a (by omega)) (.cons (fab r (by omega)) (.cons (Fit.place p (by omega)) (.nil))),by decide,.oth _ _ (by decide +kernel)⟩ ((ex1.trans ex2).trans ex3) st3
 ·walk_at "g"
  refine Ad k n _ _ st1 (by decide) (by decide) fun g h2 hg ex2 st2=>?_
  walk_at "g"
  refine Cg (by intro z z';cases z') (lcs _) ?_;rw [List.length_map];walk_at "r"
  refine Ad k n _ _ st2 (by omega) (by omega) fun r h3 hr ex3 st3=>?_
  walk_at "r"
  refine ⟨by simp,?_⟩
  exact h _ _ ⟨"all",_,["set box", "role"],_,rfl,by kernel_rfl,.cons (fsb g (by omega)) (.cons (Fit.role r (by omega)) (.nil)),by decide,.grp _ _ _ (by decide +kernel)⟩ ((ex1.trans ex2).trans ex3) st3
 ·walk_at "g"
  refine Ad k n _ _ st1 (by decide) (by decide) fun g h2 hg ex2 st2=>?_
  walk_at "g"
  refine ⟨by simp,?_⟩
  exact h _ _ ⟨"empty",_,["set box"],_,rfl,by kernel_rfl,.cons (fsb g (by omega)) (.nil),by decide,.grp _ _ _ (by decide +kernel)⟩ (ex1.trans ex2) st2
 ·walk_at "g"
  refine Ad k n _ _ st1 (by decide) (by decide) fun g h2 hg ex2 st2=>?_
  walk_at "g"
  refine ⟨by simp,?_⟩
  exact h _ _ ⟨"join",_,["set box", "name box"],_,rfl,by kernel_rfl,.cons (fsb g (by omega)) (.cons (fab a (by omega)) (.nil)),by decide,.grp _ _ _ (by decide +kernel)⟩ (ex1.trans ex2) st2
 ·walk_at "g"
  refine Ad k n _ _ st1 (by decide) (by decide) fun g h2 hg ex2 st2=>?_
  walk_at "g"
  refine Ad k n _ _ st2 (by omega) (by omega) fun p h3 hp ex3 st3=>?_
  walk_at "r"
  refine ⟨by simp,?_⟩
  exact h _ _ ⟨"out",_,["name box", "set box", "place"],_,rfl,by kernel_rfl,.cons (fab a (by omega)) (.cons (fsb g (by omega)) (.cons (Fit.place p (by omega)) (.nil))),by decide,.out _ _ _⟩ ((ex1.trans ex2).trans ex3) st3
 ·walk_at "g"
  refine Ad k n _ _ st1 (by decide) (by decide) fun g h2 hg ex2 st2=>?_
  walk_at "g"
  refine Ad k n _ _ st2 (by decide) (by decide) fun r h3 hr ex3 st3=>?_
  walk_at "r"
  refine Ad k n _ _ st3 (by omega) (by omega) fun p h4 hp ex4 st4=>?_
  walk_at "r"
  refine ⟨by simp,?_⟩
  exact h _ _ ⟨"many",_,["set box", "amount", "place"],_,rfl,by kernel_rfl,.cons (fsb g (by omega)) (.cons (fmt r (by omega)) (.cons (Fit.place p (by omega)) (.nil))),by decide,.oth _ _ (by decide +kernel)⟩ (((ex1.trans ex2).trans ex3).trans ex4) st4
local macro_rules | `(tactic| walk_at "q") => `(tactic| ((with_reducible refine qI ?_); first | refine ⟨true, by decide +kernel, by decide +kernel, by decide +kernel, ?_⟩ | refine ⟨false, by decide +kernel, by decide +kernel, by decide +kernel, ?_⟩))
local macro_rules | `(tactic| walk_at "g") => `(tactic| repeat (first | walk_at "s" | walk_at "q"))
noncomputable def nm9:List Str:=["me", "only", "pick", "alike", "all", "empty", "join", "out", "many"]
noncomputable def zB:List Str:=["put", "copy", "raise", "sum", "choose", "less", "before", "go", "bell", "send", "take", "me", "only", "pick", "alike", "all", "empty", "join", "out", "many"]
theorem zE:(nm9.all PyData.strOk)=true:=by decide +kernel
theorem Dy {w:Str}{k:Bool}{n:Nat}{mh:MH}{P:D->MH->Prop}(hw:PyData.strOk w=true) (e:(nm9.any (·==w))=k) (g:mh[n]?=some (.lst (nm9.map D.str))) (h:P (.bl k) mh):wV (inD false (.str w) (.ref n) mh) P:=Ck (k:=k) (by rw [Bd hw zE g,e]) h
theorem Bx {m k:Nat}{ds:List D}{mh:MH}{P:D->MH->Prop}(e:mh[m]?=some (.lst ds)) (hk:k<=ds.length) (h:P (.ref mh.length) (mh++[.lst (ds.drop k)])):wV (slD (.ref m) (some (k:Int)) none mh) P:=by
 refine ⟨_,_,?_,h⟩;have e1:HT.sIx ds.length 0 (some (k:Int))=k:=by rw [X8];omega
 have e2:HT.sIx ds.length ds.length none=ds.length:=rfl;simp only [slD,e];unfold DL.cutD;rw [e1,e2,List.take_of_length_le (by rw [List.length_drop];omega)]
theorem jZ (r:Nat) (h1:11<=r) (h2:r < 20):∃ w:Str,(zB.map D.str)[r]?=some (.str w)/\PyData.strOk w=true/\(nm9.any (·==w))=true/\(w = "me"\/w = "only"\/w = "pick"\/w = "alike"\/w = "all"\/w = "empty"\/w = "join"\/w = "out"\/w = "many"):=by
 have h:r=11\/r=12\/r=13\/r=14\/r=15\/r=16\/r=17\/r=18\/r=19:=by omega
 rcases h with rfl|rfl|rfl|rfl|rfl|rfl|rfl|rfl|rfl
 ·exact ⟨_,rfl,by decide +kernel,by decide +kernel,.inl rfl⟩
 ·exact ⟨_,rfl,by decide +kernel,by decide +kernel,.inr (.inl rfl)⟩
 ·exact ⟨_,rfl,by decide +kernel,by decide +kernel,.inr (.inr (.inl rfl))⟩
 ·exact ⟨_,rfl,by decide +kernel,by decide +kernel,.inr (.inr (.inr (.inl rfl)))⟩
 ·exact ⟨_,rfl,by decide +kernel,by decide +kernel,.inr (.inr (.inr (.inr (.inl rfl))))⟩
 ·exact ⟨_,rfl,by decide +kernel,by decide +kernel,.inr (.inr (.inr (.inr (.inr (.inl rfl)))))⟩
 ·exact ⟨_,rfl,by decide +kernel,by decide +kernel,.inr (.inr (.inr (.inr (.inr (.inr (.inl rfl))))))⟩
 ·exact ⟨_,rfl,by decide +kernel,by decide +kernel,.inr (.inr (.inr (.inr (.inr (.inr (.inr (.inl rfl)))))))⟩
 ·exact ⟨_,rfl,by decide +kernel,by decide +kernel,.inr (.inr (.inr (.inr (.inr (.inr (.inr (.inr rfl)))))))⟩
theorem kE (k n L:Nat) (cs:List Nat) (mh:MH) (hs:StV mh n) (hL:L<=1000) (c1:1<=cs.length) (c2:cs.length<=1000) {P:D->MH->Prop}(h:∀ (t:D) (mh':MH),Told L cs t->Ext [n] mh mh'->StV mh' n->P t mh') :
  wV (Ak (Gk (k+3)) fuel f25 [.ref n,.int L,J4 cs] mh) P:=by
 refine Bg (yO (k+2)) jG.1 jG.2 rfl ?_;show wS (b25 (k+2)) [some (.ref n),some (.int L),some (J4 cs),none,none,none] mh _;unfold b25;have hn:=hs.lt;walk_at "r"
 refine ⟨by simp,?_⟩;walk_at "r"
 refine ⟨by simp,?_⟩;refine X5 ((Ext.more (W:=[])).old _ _ (by simp) Ai) Ai (by simp) ?_;generalize hM:mh++[MO.lst _]++[MO.lst _]=M1;have xM:Ext [] mh M1:=by rw [← hM];exact Ext.more.trans Ext.more
 walk_at "r"
 have lM:mh.length<=M1.length:=xM.len;have s1:StV (M1++[MO.lst (zB.map D.str)]) n:=(hs.ext xM (by simp)).ext (Ext.more (W:=[])) (by simp);refine Ad (k+1) n 20 _ s1 (by decide) (by decide) fun r h1 hr ex1 st1=>?_
 have g1:h1[M1.length]?=some (.lst (zB.map D.str)):=ex1.old _ _ (by simp;omega) Ai;have x1:Ext [n] mh h1:=(xM.weak.trans Ext.more).trans ex1;have x2:∀ g:MH,Ext [n] mh (h1++g):=fun g=>x1.trans Ext.more
 have s2:∀ g:MH,StV (h1++g) n:=fun g=>st1.ext (Ext.more (W:=[])) (by simp)
 have hr:r=0\/r=1\/r=2\/r=3\/r=4\/r=5\/r=6\/r=7\/r=8\/r=9\/r=10\/(11<=r/\r < 20):=(by decide:∀ r < 20,r=0\/r=1\/r=2\/r=3\/r=4\/r=5\/r=6\/r=7\/r=8\/r=9\/r=10\/(11<=r/\r < 20)) r (by omega);rcases hr with rfl|rfl|rfl|rfl|rfl|rfl|rfl|rfl|rfl|rfl|rfl|hr
 ·refine Bh (j:=0) (d:=.str "put") g1 rfl ?_;walk_at "r"
  refine Bx (k:=11) g1 (by decide) ?_;refine Dy (so _) (k:=false) (by decide +kernel) Ai ?_
  walk_at "g"
  refine Ad (k+1) n 3 _ (s2 _) (by decide) (by decide) fun a h2 ha exa sa=>?_
  walk_at "g"
  refine Im k n _ sa fun v h3 exv sv=>?_
  walk_at "r"
  refine ⟨by simp,?_⟩
  exact h _ _ ⟨"put",_,["number box", "number"],_,rfl,by kernel_rfl,.cons (fnb a (by omega)) (.cons (Fit.num v) (.nil)),by decide,.num _ _ _ (by decide +kernel)⟩ (((x2 _).trans exa).trans exv) sv
 ·refine Bh (j:=1) (d:=.str "copy") g1 rfl ?_;walk_at "r"
  refine Bx (k:=11) g1 (by decide) ?_;refine Dy (so _) (k:=false) (by decide +kernel) Ai ?_
  walk_at "g"
  refine Ad (k+1) n 3 _ (s2 _) (by decide) (by decide) fun a h2 ha exa sa=>?_
  walk_at "g"
  refine Ad (k+1) n _ _ sa (by decide) (by decide) fun b h3 hb exb sb=>?_
  walk_at "r"
  refine ⟨by simp,?_⟩
  exact h _ _ ⟨"copy",_,["number box", "number box"],_,rfl,by kernel_rfl,.cons (fnb a (by omega)) (.cons (fnb b (by omega)) (.nil)),by decide,.num _ _ _ (by decide +kernel)⟩ (((x2 _).trans exa).trans exb) sb
 ·refine Bh (j:=2) (d:=.str "raise") g1 rfl ?_;walk_at "r"
  refine Bx (k:=11) g1 (by decide) ?_;refine Dy (so _) (k:=false) (by decide +kernel) Ai ?_
  walk_at "g"
  refine Ad (k+1) n 3 _ (s2 _) (by decide) (by decide) fun a h2 ha exa sa=>?_
  walk_at "g"
  refine Im k n _ sa fun v h3 exv sv=>?_
  walk_at "r"
  refine ⟨by simp,?_⟩
  exact h _ _ ⟨"raise",_,["number box", "number"],_,rfl,by kernel_rfl,.cons (fnb a (by omega)) (.cons (Fit.num v) (.nil)),by decide,.num _ _ _ (by decide +kernel)⟩ (((x2 _).trans exa).trans exv) sv
 ·refine Bh (j:=3) (d:=.str "sum") g1 rfl ?_;walk_at "r"
  refine Bx (k:=11) g1 (by decide) ?_;refine Dy (so _) (k:=false) (by decide +kernel) Ai ?_
  walk_at "g"
  refine Ad (k+1) n 3 _ (s2 _) (by decide) (by decide) fun a h2 ha exa sa=>?_
  walk_at "g"
  refine Ad (k+1) n _ _ sa (by decide) (by decide) fun b h3 hb exb sb=>?_
  walk_at "r"
  refine ⟨by simp,?_⟩
  exact h _ _ ⟨"sum",_,["number box", "number box"],_,rfl,by kernel_rfl,.cons (fnb a (by omega)) (.cons (fnb b (by omega)) (.nil)),by decide,.num _ _ _ (by decide +kernel)⟩ (((x2 _).trans exa).trans exb) sb
 ·refine Bh (j:=4) (d:=.str "choose") g1 rfl ?_;walk_at "r"
  refine Bx (k:=11) g1 (by decide) ?_;refine Dy (so _) (k:=false) (by decide +kernel) Ai ?_
  walk_at "g"
  refine Ad (k+1) n 3 _ (s2 _) (by decide) (by decide) fun a h2 ha exa sa=>?_
  walk_at "g"
  refine Ad (k+1) n _ _ sa (by decide) (by decide) fun b h3 hb exb sb=>?_
  walk_at "r"
  refine ⟨by simp,?_⟩
  exact h _ _ ⟨"choose",_,["number box", "choices"],_,rfl,by kernel_rfl,.cons (fnb a (by omega)) (.cons (fch _ (by omega) (by omega)) (.nil)),by decide,.num _ _ _ (by decide +kernel)⟩ (((x2 _).trans exa).trans exb) sb
 ·refine Bh (j:=5) (d:=.str "less") g1 rfl ?_;walk_at "r"
  refine Bx (k:=11) g1 (by decide) ?_;refine Dy (so _) (k:=false) (by decide +kernel) Ai ?_
  walk_at "g"
  refine Ad (k+1) n 3 _ (s2 _) (by decide) (by decide) fun a h2 ha exa sa=>?_
  walk_at "g"
  refine Im k n _ sa fun v h3 exv sv=>?_
  walk_at "r"
  refine Ad (k+1) n _ _ sv (by omega) (by omega) fun p h4 hp exp sp=>?_
  walk_at "r"
  refine ⟨by simp,?_⟩
  exact h _ _ ⟨"less",_,["number box", "number", "place"],_,rfl,by kernel_rfl,.cons (fnb a (by omega)) (.cons (Fit.num v) (.cons (Fit.place p (by omega)) (.nil))),by decide,.oth _ _ (by decide +kernel)⟩ ((((x2 _).trans exa).trans exv).trans exp) sp
 ·refine Bh (j:=6) (d:=.str "before") g1 rfl ?_;walk_at "r"
  refine Bx (k:=11) g1 (by decide) ?_;refine Dy (so _) (k:=false) (by decide +kernel) Ai ?_
  walk_at "g"
  refine Ad (k+1) n 3 _ (s2 _) (by decide) (by decide) fun a h2 ha exa sa=>?_
  walk_at "g"
  refine Ad (k+1) n _ _ sa (by decide) (by decide) fun b h3 hb exb sb=>?_
  walk_at "r"
  refine Ad (k+1) n _ _ sb (by omega) (by omega) fun p h4 hp exp sp=>?_
  walk_at "r"
  refine ⟨by simp,?_⟩
  exact h _ _ ⟨"before",_,["number box", "number box", "place"],_,rfl,by kernel_rfl,.cons (fnb a (by omega)) (.cons (fnb b (by omega)) (.cons (Fit.place p (by omega)) (.nil))),by decide,.oth _ _ (by decide +kernel)⟩ ((((x2 _).trans exa).trans exb).trans exp) sp
 ·refine Bh (j:=7) (d:=.str "go") g1 rfl ?_;walk_at "r"
  refine Bx (k:=11) g1 (by decide) ?_;refine Dy (so _) (k:=false) (by decide +kernel) Ai ?_
  walk_at "g"
  refine Ad (k+1) n _ _ (s2 _) (by omega) (by omega) fun p h2 hp exp sp=>?_
  walk_at "r"
  refine ⟨by simp,?_⟩
  exact h _ _ ⟨"go",_,["place"],_,rfl,by kernel_rfl,.cons (Fit.place p (by omega)) (.nil),by decide,.oth _ _ (by decide +kernel)⟩ ((x2 _).trans exp) sp
 ·refine Bh (j:=8) (d:=.str "bell") g1 rfl ?_;walk_at "r"
  refine Bx (k:=11) g1 (by decide) ?_;refine Dy (so _) (k:=false) (by decide +kernel) Ai ?_
  walk_at "g"
  refine ⟨by simp,?_⟩
  exact h _ _ ⟨"bell",_,[],_,rfl,by kernel_rfl,.nil,by decide,.bell⟩ (x2 _) (s2 _)
 ·refine Bh (j:=9) (d:=.str "send") g1 rfl ?_;walk_at "r"
  refine Bx (k:=11) g1 (by decide) ?_;refine Dy (so _) (k:=false) (by decide +kernel) Ai ?_
  walk_at "g"
  refine Ad (k+1) n 3 _ (s2 _) (by decide) (by decide) fun a h2 ha exa sa=>?_
  walk_at "g"
  refine Ad (k+1) n _ _ sa (by decide) (by decide) fun b h3 hb exb sb=>?_
  walk_at "r"
  refine Ad (k+1) n _ _ sb (by decide) (by decide) fun c h4 hc exc sc=>?_
  walk_at "r"
  refine Ad (k+1) n _ _ sc (by decide) (by decide) fun d h5 hd exd sd=>?_
  walk_at "r"
  refine ⟨by simp,?_⟩
  exact h _ _ ⟨"send",_,["name box", "kind", "number box", "name box"],_,rfl,by kernel_rfl,.cons (fab a (by omega)) (.cons (fki _ (by omega) (by omega)) (.cons (fnb c (by omega)) (.cons (fab d (by omega)) (.nil)))),by decide,.oth _ _ (by decide +kernel)⟩ (((((x2 _).trans exa).trans exb).trans exc).trans exd) sd
 ·refine Bh (j:=10) (d:=.str "take") g1 rfl ?_;walk_at "r"
  refine Bx (k:=11) g1 (by decide) ?_;refine Dy (so _) (k:=false) (by decide +kernel) Ai ?_
  walk_at "g"
  refine Ad (k+1) n 3 _ (s2 _) (by decide) (by decide) fun a h2 ha exa sa=>?_
  walk_at "g"
  refine Ad (k+1) n _ _ sa (by decide) (by decide) fun b h3 hb exb sb=>?_
  walk_at "r"
  refine J2 (.inl ⟨by omega,by omega⟩) ?_;walk_at "r"
  refine qH k n L _ sb hL fun ls h4 ok exl sl=>?_
  walk_at "r"
  refine ⟨by simp,?_⟩;have hm:b=0\/b=1:=by omega
  exact h _ _ ⟨"take",_,["name box or -1", "lines"],_,rfl,by kernel_rfl,.cons (fam _ (by rcases hm with rfl | rfl <;> simp <;> omega) (by rcases hm with rfl | rfl <;> simp <;> omega)) (.cons (Fit.lines ls ok) (.nil)),by decide,.take _ ls L ok⟩ ((((x2 _).trans exa).trans exb).trans exl) sl
 ·obtain ⟨w,e0,w1,w2,w3⟩:=jZ r hr.1 hr.2;refine Bh (j:=r) (d:=.str w) g1 e0 ?_;walk_at "r"
  refine Bx (k:=11) g1 (by decide) ?_;refine Dy w1 (k:=true) w2 Ai ?_
  walk_at "g"
  exact aM k n L cs _ w3 _ (s2 _) hL c1 c2 fun t h2 ht e2 st2=>h t h2 ht ((x2 _).trans e2) st2
noncomputable def depth:Nat:=12
theorem Wy (k n:Nat) (mh:MH) (hs:StV mh n) {P:D->MH->Prop}(h:∀ (cs:List Nat) (mh':MH),1<=cs.length->cs.length<=6->Ext [n] mh mh'->StV mh' n->P (J4 cs) mh'):wV (Ak (Gk (k+2)) fuel f26 [.ref n] mh) P:=by
 refine Bg (yP (k+1)) jH.1 jH.2 rfl ?_;show wS (b26 (k+1)) [some (.ref n),none,none] mh _;unfold b26;have hn:=hs.lt;walk_at "r"
 refine Ad k n _ mh hs (by decide) (by decide) fun r0 h1 hr0 ex1 st1=>?_
 walk_at "r"
 generalize hrr:r0+1=r;have hrI:(1:Int)+(r0:Int)=(r:Int):=by omega
 rw [hrI];refine Hf ?_;walk_at "r"
 refine Ad k n _ h1 st1 (by decide) (by decide) fun c0 h2 hc0 ex2 st2=>?_
 walk_at "r"
 have hcI:(2:Int)+(c0:Int)=((c0+2:Nat):Int):=by omega
 rw [hcI];refine ⟨_,Jj (by omega),Be 0 (c0+2),fun j acc h'=>(∃ ms:List Nat,acc=ms.map Aw/\ms.length=j)/\Ext [n] mh h'/\StV h' n,by rw [Ce];omega,⟨⟨[],rfl,rfl⟩,ex1.trans ex2,st2⟩,fun _ _ _ _=>⟨rfl,rfl⟩,?_,?_,?_⟩
 ·rintro j acc h' ⟨⟨ms,rfl,rfl⟩,_⟩;rw [List.length_map];exact Nat.le_refl _
 ·rintro j d acc h' ed ⟨⟨ms,rfl,rfl⟩,ex,st⟩;walk_at "r"
  refine Ad k n _ h' st (by omega) (by omega) fun q h3 hq ex3 st3=>?_
  exact ⟨⟨ms++[q],by rw [List.map_append];rfl,by simp⟩,ex.trans ex3,st3⟩
 rintro acc h3 ⟨⟨ms,rfl,hml⟩,ex3,st3⟩;rw [Ce] at hml;walk_at "r"
 refine Hf ?_;walk_at "r"
 have g3:(h3++[MO.lst (ms.map Aw)])[h3.length]?=some (.lst (ms.map Aw)):=Ai;generalize hM:h3++[MO.lst (ms.map Aw)]=M at g3;have xM:Ext [] h3 M:=by rw [← hM];exact Ext.more
 refine ⟨_,Jj (by omega),Be 0 r,fun j acc h'=>(∃ cs:List Nat,acc=cs.map Aw/\cs.length=j)/\Ext [] M h',by rw [Ce];omega,⟨⟨[],rfl,rfl⟩,Ext.refl⟩,fun _ _ _ _=>⟨rfl,rfl⟩,?_,?_,?_⟩
 ·rintro j acc h' ⟨⟨ms,rfl,rfl⟩,_⟩;rw [List.length_map];exact Nat.le_refl _
 ·rintro j d acc h' ed ⟨⟨cs,rfl,rfl⟩,ex⟩;have g4:=ex.old _ _ (by simp) g3;unfold Be at ed;rw [List.getElem?_map] at ed;cases eq:(List.range r)[cs.length]? with
  | none=>rw [eq] at ed;cases ed
  | some v =>
   rw [eq] at ed;cases ed;walk_at "r"
   refine Hf ?_;walk_at "r"
   refine ⟨.lref h3.length,src_list g4,ms.map Aw,fun j acc h2=>acc.length<=j/\h2=h',by rw [List.length_map];omega,⟨Nat.zero_le _,rfl⟩,?_,fun _ _ _ q=>q.1,?_,?_⟩
   ·rintro j acc h2 ⟨_,rfl⟩;exact Qa g4
   ·rintro j d acc h2 ed2 ⟨hl,rfl⟩;rw [List.getElem?_map] at ed2;cases e2:ms[j]? with
    | none=>rw [e2] at ed2;cases ed2
    | some u =>
     rw [e2] at ed2;cases ed2;walk_at "r"
     refine Eo (fun q=>?_) fun q=>?_
     ·walk_at "r"
      refine ⟨?_,rfl⟩;rw [List.length_append];exact Nat.add_le_add hl (Nat.le_refl _)
     ·exact ⟨Nat.le_succ_of_le hl,rfl⟩
   ·rintro acc h2 ⟨hl,rfl⟩;walk_at "r"
    refine Cg (by intro z z';cases z') (Gg _ _) ?_;exact ⟨⟨cs++[acc.length],by rw [List.map_append];rfl,by simp⟩,ex.trans Ext.more⟩
 rintro acc h4 ⟨⟨cs,rfl,hcl⟩,ex4⟩;rw [Ce] at hcl;walk_at "r"
 refine Gz (Gg _ _) ?_;have xx:Ext [] h3 (h4++[MO.lst (cs.map Aw)]):=(xM.trans ex4).trans Ext.more;exact h cs _ (by omega) (by omega) (ex3.trans xx.weak) (st3.ext xx (by simp))
theorem isn (a b:Bool) (mh:MH) {P:D->MH->Prop}(h:P (.bl (a != b)) mh):wV (isD true (.bl a) (.bl b) mh) P:=⟨_,_,rfl,h⟩
theorem kI (ns:List Int) (lo hi:Option Int):∃ ms:List Int,DL.cutD (ns.map D.int) lo hi=ms.map D.int/\ms.length<=ns.length:=by
 unfold DL.cutD;refine ⟨(ns.drop (HT.sIx (ns.map D.int).length 0 lo)).take (HT.sIx (ns.map D.int).length (ns.map D.int).length hi - HT.sIx (ns.map D.int).length 0 lo),by rw [List.map_take,List.map_drop],?_⟩;rw [List.length_take,List.length_drop];omega
theorem Uw (mh:MH) (n:Nat):∀ l:List Int,mapO (py mh n) (l.map D.int)=some (l.map PyData.int)
 | []=>rfl
 | a::r=>by
  have e:py mh n (.int a)=some (.int a):=by cases n <;> rfl
  simp only [List.map_cons,mapO,e,Uw mh n r]
noncomputable def txP (k:TX):PyData:=.tuple (.str k.1::k.2.map PyData.int)
theorem Abx {mh:MH}{n:Nat}{k:TX}(h:PyData.strOk k.1=true):py mh (n+1) (txD k)=some (txP k):=by
 show (match mapO (py mh n) (.str k.1::k.2.map D.int) with | some xs=>some (PyData.tuple xs) | none=>none)=_;have e:py mh n (.str k.1)=some (.str k.1):=by cases n <;> (show (if PyData.strOk k.1=true then some (PyData.str k.1) else none)=_;rw [if_pos h])
 simp only [mapO,e,Uw];rfl
theorem kJ {mh:MH}{n:Nat}:∀ {ms:List TX},(∀ m∈ms,PyData.strOk m.1=true)->mapO (py mh (n+1)) (ms.map txD)=some (ms.map txP)
 | [],_=>rfl
 | m::r,h=>by
  simp only [List.map_cons,mapO,Abx (h m (.head _)),kJ (n:=n) fun x hx=>h x (.tail _ hx)]
theorem Qd:∀ a:List Int,PyData.eqvAll (a.map PyData.int) (a.map PyData.int)=true
 | []=>rfl
 | x::xs=>by
  show ((x==x)&&PyData.eqvAll (xs.map PyData.int) (xs.map PyData.int))=true;rw [Qd xs];simp
theorem Yg:∀ ms:List TX,PyData.eqvAll (ms.map txP) (ms.map txP)=true
 | []=>rfl
 | m::r=>by
  show (((m.1==m.1)&&PyData.eqvAll (m.2.map PyData.int) (m.2.map PyData.int))&&PyData.eqvAll (r.map txP) (r.map txP))=true;rw [Yg r,Qd];simp
theorem kO {ms:List TX}(h:∀ m∈ms,PyData.strOk m.1=true) {mh:MH}{P:D->MH->Prop}(q:P (.bl false) mh):wV (neD (.tup (ms.map txD)) (.tup (ms.map txD)) mh) P:=by
 have e2:py mh 60 (.tup (ms.map txD))=some (.tuple (ms.map txP)):=by
  show (match mapO (py mh 59) (ms.map txD) with | some xs=>some (PyData.tuple xs) | none=>none)=_;rw [kJ h]
 refine Nj (d:=.bl false) (h:=mh) ?_ q;unfold neD eqB;rw [e2];dsimp only;show some (D.bl (!PyData.eqvAll (ms.map txP) (ms.map txP)),mh)=_;rw [Yg];rfl
theorem kW {a b:Bool}{mh:MH}{P:D->MH->Prop}(h:P (.bl (a != b)) mh):wV (neD (.bl a) (.bl b) mh) P:=Nj (d:=.bl (a != b)) (h:=mh) (by cases a <;> cases b <;> rfl) h
theorem zF (ns:List Int):wV (Ak (Gk (11+1)) fuel f29 [.rol (ns.map D.int)] []) fun d _=>d=.bl true:=by
 refine Bg (yS 11) jL.1 jL.2 rfl ?_;show wS (b29 11) [some (.rol (ns.map D.int)),none,none,none,none,none,none,none,none] [] _;unfold b29;walk_at "r"
 refine jQ 10 ns 0 [] fun v1=>?_
 walk_at "r"
 refine ⟨by simp,?_⟩;walk_at "r"
 refine Ad 10 0 60 _ (.inl ⟨_,rfl⟩) (by decide) (by decide) fun l0 h1 hl0 ex1 st1=>?_
 walk_at "r"
 generalize hL:l0+1=L;have hLI:(1:Int)+(l0:Int)=(L:Int):=by omega
 rw [hLI];refine Wy 9 0 h1 st1 fun cs h2 c1 c2 ex2 st2=>?_
 walk_at "r"
 refine Rh ?_;walk_at "r"
 obtain ⟨ms,ems,lms⟩:=kI ns (some 1) (some 41);refine Nj (d:=.ref h2.length) (h:=h2++[MO.lst (ms.map D.int)]) (by show some (D.ref h2.length,h2++[MO.lst (DL.cutD (ns.map D.int) (some 1) (some 41))])=_;rw [ems]) ?_;have gM:(h2++[MO.lst (ms.map D.int)])[h2.length]?=some (.lst (ms.map D.int)):=Ai;generalize h2++[MO.lst (ms.map D.int)]=M at gM;refine ⟨.lref h2.length,src_list gM,ms.map D.int,fun i loc h'=>∃ z4 z5 z6 z7 z8,loc=[some (.rol (ns.map D.int)),some (.ref 0),some (.int L),some (J4 cs),z4,z5,z6,z7,z8]/\Ext [] M h',?_,?_,?_,?_⟩
 ·exact ⟨_,_,_,_,_,rfl,Ext.refl⟩
 ·rintro i l h' ⟨z4,z5,z6,z7,z8,rfl,ex⟩;exact Qa (ex.old _ _ (by simp) gM)
 ·rintro i d l h' ed ⟨z4,z5,z6,z7,z8,rfl,ex⟩;rw [List.getElem?_map] at ed;cases ec:ms[i]? with
  | none=>rw [ec] at ed;cases ed
  | some cell =>
   rw [ec] at ed;cases ed;walk_at "r"
   refine ⟨by simp,?_⟩;walk_at "r"
   have exN:Ext [] M (h'++[MO.lst [D.int cell]]):=ex.trans Ext.more;refine kE 8 h'.length L cs _ (.inl ⟨_,Ai⟩) (by omega) c1 (by omega) fun t h3 ht ex3 st3=>?_
   have exM3:Ext [] M h3:=⟨Nat.le_trans exN.len ex3.len,fun i o hi e=>ex3.old _ _ (by have:=(List.getElem?_eq_some_iff.mp e).1;have:=ex.len;simp;omega) (exN.old _ _ hi e)⟩;obtain ⟨w,args,ss,marks,rfl,e1,e2,e3,e4⟩:=ht;walk_at "r"
   refine Wq 4 L cs w args ss e1 e2 e3 h3 fun h4 ex4=>?_
   have exM4:=exM3.trans ex4;walk_at "r"
   refine ⟨_,_,_,_,_,rfl,rfl,by decide +kernel,?_⟩;walk_at "r"
   refine aL 10 w args e4.ok h4 ?_;generalize hq:(!(QW.any (·==w)))=qq;walk_at "r"
   have fin:∀ h5,Ext [] M h5->wV (inD true (.str w) (.ref h5.length) (h5++[.lst (QW.map D.str)])) fun d h6=>d=.bl qq/\h6=h5++[.lst (QW.map D.str)]:=fun h5 _=>by
    refine Ck (Bd (ws:=QW) e4.ok (by decide +kernel) Ai) ⟨?_,rfl⟩;rw [← hq];rfl
   refine isn _ _ _ ?_;cases qq with
   | true =>
    walk_at "r"
    refine Ae (j:=0) (d:=.str w) rfl ?_;walk_at "r"
    refine ⟨by simp,?_⟩;walk_at "r"
    refine X4 (fin h4 exM4) ?_;rintro _ _ ⟨rfl,rfl⟩;walk_at "r"
    refine kW ?_;walk_at "r"
    refine ⟨_,_,_,_,_,rfl,rfl,by decide +kernel,?_⟩;walk_at "r"
    refine Oa 9 w args marks e4 _ fun h6 x6=>?_
    walk_at "r"
    refine Ye 9 w args marks e4 h6 fun h7 x7=>?_
    walk_at "r"
    refine kO e4.strs ?_;walk_at "r"
    exact ⟨_,_,_,_,_,rfl,(exM4.trans Ext.more).trans (x6.trans x7)⟩
   | false =>
    walk_at "r"
    refine isn _ _ _ ?_;walk_at "r"
    refine Ae (j:=0) (d:=.str w) rfl ?_;walk_at "r"
    refine ⟨by simp,?_⟩;walk_at "r"
    refine X4 (fin h4 exM4) ?_;rintro _ _ ⟨rfl,rfl⟩;walk_at "r"
    refine kW ?_;walk_at "r"
    refine ⟨_,_,_,_,_,rfl,rfl,by decide +kernel,?_⟩;walk_at "r"
    refine Oa 9 w args marks e4 _ fun h6 x6=>?_
    walk_at "r"
    refine Ye 9 w args marks e4 h6 fun h7 x7=>?_
    walk_at "r"
    refine kO e4.strs ?_;walk_at "r"
    exact ⟨_,_,_,_,_,rfl,(exM4.trans Ext.more).trans (x6.trans x7)⟩
 ·rintro l h' ⟨z4,z5,z6,z7,z8,rfl,ex⟩;walk_at "r"
  rfl
theorem main:∀ ns:List Int,ns.length<=63->∃ mh',Ak (Gk depth) fuel f29 [.rol (ns.map D.int)] []=some (.bl true,mh'):=fun ns _=>by
 obtain ⟨d,h,e,rfl⟩:=zF ns;exact ⟨h,e⟩
end Lw
open PySem PySem.W PyProof.Rows
namespace PySem.W.Fast
def tw4127984971126292823:Unit:=()
def tw13294973444221294089:Unit:=()
def tw6947438592263891672:Unit:=()
def tw4736989542692858933:Unit:=()
def tw13821692894644879875:Unit:=()
def tw17083969288668685937:Unit:=()
def tw11906529360669160316:Unit:=()
def tw8584033427255439414:Unit:=()
def tw14360711587792472387:Unit:=()
def tw6396607575458417638:Unit:=()
def tw13707273316978123262:Unit:=()
def tw10021322527657495631:Unit:=()
def tw8586682807003226425:Unit:=()
def tw15602498113348663695:Unit:=()
def tw7861140088532550268:Unit:=()
def tw604908153516041672:Unit:=()
def tw2539582688244713979:Unit:=()
def tw8454084814808050118:Unit:=()
def tw8631220425155134566:Unit:=()
def tw9414341786026755046:Unit:=()
def tw6133334905227557606:Unit:=()
def tw15780992287891882895:Unit:=()
def tw345654144720617458:Unit:=()
def tw5357102498163192880:Unit:=()
def tw7954098002349129130:Unit:=()
def tw4066586727383421845:Unit:=()
def tw6633625273417176111:Unit:=()
def tw7536645785601096075:Unit:=()
def tw3167662943123095340:Unit:=()
def tw18316340299148164885:Unit:=()
def tw323221455035886027:Unit:=()
def tw5718549782027850254:Unit:=()
def tw17709995369390154022:Unit:=()
def tw1632270164465494475:Unit:=()
def tw1316085487726130888:Unit:=()
def tw3859806019035724022:Unit:=()
def tw3758724606794982343:Unit:=()
def tw7268148135674776928:Unit:=()
def tw10386894773321359558:Unit:=()
def tw4727164109610074505:Unit:=()
def tw17856437225830774563:Unit:=()
def tw8613304809978039593:Unit:=()
def tw2601571082966416754:Unit:=()
def tw9993596124809603442:Unit:=()
def tw1051260320364162909:Unit:=()
def tw10136432778952870892:Unit:=()
def tw5243792154677965143:Unit:=()
def tw5764534439374740754:Unit:=()
def tw16168425887671248189:Unit:=()
def tw16556375148510837221:Unit:=()
def tw9987855569127116714:Unit:=()
def tw5064569351553312759:Unit:=()
def tw4206227028317324653:Unit:=()
def tw16712700434835509508:Unit:=()
def tw2511447154474068203:Unit:=()
def tw7703260499868781517:Unit:=()
def tw15648682398632470890:Unit:=()
def tw11485288610053066941:Unit:=()
def tw16799283870357004102:Unit:=()
def tw15346715847845192448:Unit:=()
def tw5758239330337268858:Unit:=()
def tw3234502546439108934:Unit:=()
end PySem.W.Fast
set_option maxRecDepth 100000 in
set_option maxHeartbeats 0 in
theorem PySem.Challenge.cw_letterall_k08_what_a_step_may_change_holds : PySem.Challenge.rw_letterall_k08_what_a_step_may_change.Holds := by
 w_on; o_law; z_head; (case hw => w_witness2)
 k_fill
 refine DL.fV (fun _ => by kernel_rfl) (DL.walk (l := PySem.Challenge.rw_letterall_k08_what_a_step_may_change) (Tt := Lw.Tt) (I := Lw.f29) (x := "_law_script") Lw.depth rfl rfl (fun w h Y => Y) ⟨rfl, by decide, by decide⟩ (by kernel_rfl) (by decide +kernel) ?T Lw.main)
 case T =>
  intro w mg h KX G;refine' Lw.Ac1 KX G ?rf ?rb ?qd0 ?qe0 ?qg0 ?qh0 ?qr0 ?qd1 ?qe1 ?qg1 ?qh1 ?qr1 ?qd2 ?qe2 ?qg2 ?qh2 ?qr2 ?C12a ?C12b ?C12c ?C12d ?C12e ?C12f ?a12_1 ?b12_1 ?l12_1 ?c12_1 ?k12_1 ?a12_2 ?b12_2 ?l12_2 ?c12_2 ?k12_2 ?a12_3 ?b12_3 ?l12_3 ?c12_3 ?k12_3 ?a12_4 ?Nz ?l12_4 ?c12_4 ?k12_4 ?a12_5 ?G3 ?l12_5 ?c12_5 ?k12_5 ?a12_0 ?b12_0 ?l12_0 ?c12_0 ?k12_0 ?C12m ?C12k
  (case rf => (repeat (apply DL.fW; (focus k_is); (focus k_is); (focus k_is); (focus k_is))); exact trivial)
  (case rb => (repeat (apply DL.fY; (focus k_is))); exact trivial)
  (case qd0 | qe0 => k_is)
  (case qg0 => kernel_rfl)
  (case qh0 => kernel_rfl)
  (case qr0 => kernel_rfl)
  (case qd1 | qe1 => k_is)
  (case qg1 => kernel_rfl)
  (case qh1 => kernel_rfl)
  (case qr1 => kernel_rfl)
  (case qd2 | qe2 => k_is)
  (case qg2 => kernel_rfl)
  (case qh2 => kernel_rfl)
  (case qr2 => kernel_rfl)
  (case C12a | C12b | C12c | C12d | C12e | C12f | a12_1 | b12_1 | l12_1 | c12_1 | k12_1 | a12_2 | b12_2 | l12_2 | c12_2 | k12_2 | a12_3 | b12_3 | l12_3 | c12_3 | k12_3 | a12_4 | Nz | l12_4 | c12_4 | k12_4 | a12_5 | G3 | l12_5 | c12_5 | k12_5 | a12_0 | b12_0 | l12_0 | c12_0 | k12_0 | C12m | C12k => k_is)
#print axioms PySem.Challenge.cw_letterall_k08_what_a_step_may_change_holds
