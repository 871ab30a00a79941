import PyProof.Rows.All
import Wide.All
import OpenK.AllK
import Wide.FinOn
import Lean
import PyProof.EqAt
import PyProof.EqKinds
import PyProof.TupleCall
import KE.BitLaws
import PySem.Challenge.RW_letterall_k50_worlds_within_patterns
set_option Elab.async false
set_option linter.all false
set_option maxRecDepth 100000
set_option maxHeartbeats 8000000
namespace L2
open PySem PySem.Spec PyProof.Rows
noncomputable abbrev Key:=Sum Int Str
noncomputable def keyIs:Key->Value->Bool
 | .inl k,v=>Value.isInt k v
 | .inr x,v=>Value.isStrOf x v
noncomputable def keyH (w:World):Key->Int
 | .inl k=>hashInt k
 | .inr x=>hashStr w x
theorem keyIs_shape:∀ {k:Key}{v:Value},keyIs k v=true->(∃ i t,k=Sum.inl i/\v=Value.int i t)\/(∃ x t,k=Sum.inr x/\v=Value.str x t)
 | .inl i,v,h=>by
  obtain ⟨t,e⟩:=Value.isInt_shape (k:=i) (v:=v) h;exact .inl ⟨i,t,rfl,e⟩
 | .inr x,v,h=>by
  obtain ⟨t,e⟩:=Value.isStrOf_shape (x:=x) (v:=v) h;exact .inr ⟨x,t,rfl,e⟩
theorem key_ll (a b:Int):decide ((Sum.inl a:Key)=Sum.inl b)=(a==b):=by
 by_cases e:a=b
 ·subst e;simp
 ·have h:¬ (Sum.inl a:Key)=Sum.inl b:=fun q=>e (Sum.inl.inj q)
  rw [decide_eq_false h];exact (beq_eq_false_iff_ne.mpr e).symm
theorem key_rr (a b:Str):decide ((Sum.inr a:Key)=Sum.inr b)=decide (a=b):=by
 by_cases e:a=b
 ·subst e;simp
 ·have h:¬ (Sum.inr a:Key)=Sum.inr b:=fun q=>e (Sum.inr.inj q)
  rw [decide_eq_false h,decide_eq_false e]
theorem key_lr (a:Int) (b:Str):decide ((Sum.inl a:Key)=Sum.inr b)=false:=decide_eq_false (fun q=>nomatch q)
theorem key_rl (a:Str) (b:Int):decide ((Sum.inr a:Key)=Sum.inl b)=false:=decide_eq_false (fun q=>nomatch q)
noncomputable def mixKind (prog:Program) (w:World):PySem.KeyKind prog w Key where
 is:=keyIs
 hash:=keyH w
 inj:=fun v a b ha hb=>by
  rcases keyIs_shape ha with ⟨i,t,rfl,rfl⟩|⟨x,t,rfl,rfl⟩
  ·rcases keyIs_shape hb with ⟨j,u,rfl,e⟩|⟨y,u,rfl,e⟩
   ·injection e with e1 _;rw [e1]
   ·exact nomatch e
  ·rcases keyIs_shape hb with ⟨j,u,rfl,e⟩|⟨y,u,rfl,e⟩
   ·exact nomatch e
   ·injection e with e1 _;rw [e1]
 byValue:=fun k v h=>by
  rcases keyIs_shape h with ⟨i,t,rfl,rfl⟩ | ⟨x,t,rfl,rfl⟩ <;> rfl
 pyHash:=fun hv h=>by
  rcases keyIs_shape hv with ⟨i,t,rfl,rfl⟩|⟨x,t,rfl,rfl⟩
  ·exact wpAny_pyHash_int h
  ·exact wpAny_pyHash_str h
 eqBool:=fun hu hv h=>by
  rcases keyIs_shape hu with ⟨i,t,rfl,rfl⟩|⟨x,t,rfl,rfl⟩
  ·rcases keyIs_shape hv with ⟨j,u,rfl,rfl⟩|⟨y,u,rfl,rfl⟩
   ·rw [key_ll] at h;exact wpAny_eqBool_int h
   ·rw [key_lr] at h;exact SeqAt.EqAt.int_str i t y u _ _ _ _ h
  ·rcases keyIs_shape hv with ⟨j,u,rfl,rfl⟩|⟨y,u,rfl,rfl⟩
   ·rw [key_rl] at h;exact SeqAt.EqAt.str_int x t j u _ _ _ _ h
   ·rw [key_rr] at h;exact wpAny_eqBool_str h
 «strs»:=fun k x t v h=>by
  rcases keyIs_shape h with ⟨i,u,rfl,e⟩|⟨y,u,rfl,e⟩
  ·exact nomatch e
  ·injection e with e1 _
   subst e1;cases v <;> rfl
inductive V where
 | non | bl (b:Bool) | int (i:Int) | str (x:Str) | byt (b:Array UInt8) | flt (b:UInt64) | ref (a:Addr) | ty (n:String)
 deriving DecidableEq
noncomputable def RelV:V->Value->Prop
 | .non,u=>u=Value.none
 | .bl b,u=>u=Value.bool b
 | .int i,u=>∃ t,u=Value.int i t
 | .str x,u=>∃ t,u=Value.str x t
 | .byt b,u=>∃ t,u=Value.bytes b t
 | .flt b,u=>∃ t,u=Value.float b t
 | .ref a,u=>u=Value.ref a
 | .ty n,u=>u=Value.type n
noncomputable abbrev Vals:List V->List Value->Prop:=Paired RelV
theorem Vals.length {xs:List V}{us:List Value}(r:Vals xs us):xs.length=us.length:=Paired.length r
theorem Vals.get:∀ {xs:List V}{us:List Value}{i:Nat}{x:V},Vals xs us->xs[i]?=some x->∃ u,us[i]?=some u/\RelV x u
 | _,_,_,_,.nil,e=>by simp at e
 | _,_,0,_,.cons r _,e=>by simp at e;subst e;exact ⟨_,rfl,r⟩
 | _,_,i+1,x,.cons _ t,e=>by
  obtain ⟨u,h1,h2⟩:=Vals.get (i:=i) (x:=x) t (by simpa using e);exact ⟨u,by simpa using h1,h2⟩
theorem Vals.set {x:V}{u:Value}(r:RelV x u):∀ {xs:List V}{us:List Value}(i:Nat),Vals xs us->Vals (xs.set i x) (us.set i u)
 | _,_,_,.nil=>.nil
 | _,_,0,.cons _ t=>.cons r t
 | _,_,i+1,.cons q t=>.cons q (Vals.set r i t)
theorem Vals.append:∀ {xs ys:List V}{us ws:List Value},Vals xs us->Vals ys ws->Vals (xs++ys) (us++ws)
 | _,_,_,_,.nil,s=>s
 | _,_,_,_,.cons r t,s=>.cons r (Vals.append t s)
theorem Vals.take:∀ {xs:List V}{us:List Value}(n:Nat),Vals xs us->Vals (xs.take n) (us.take n)
 | _,_,0,_=>.nil
 | _,_,_+1,.nil=>.nil
 | _,_,n+1,.cons r t=>.cons r (Vals.take n t)
theorem Vals.drop:∀ {xs:List V}{us:List Value}(n:Nat),Vals xs us->Vals (xs.drop n) (us.drop n)
 | _,_,0,r=>r
 | _,_,_+1,.nil=>.nil
 | _,_,n+1,.cons _ t=>Vals.drop n t
noncomputable def RelO:Option V->Option Value->Prop
 | some v,some u=>RelV v u
 | none,none=>True
 | _,_=>False
noncomputable def KV {κ:Type}:List (κ×V)->List (κ×Value)->Prop:=Paired fun (p:κ×V) (q:κ×Value)=>p.1=q.1/\RelV p.2 q.2
noncomputable def kV:Key->V
 | .inl i=>.int i
 | .inr x=>.str x
inductive HO where
 | lst (xs:List V)
 | tup (xs:List V)
 | dK (kvs:List (Key×V)) | dT (kvs:List (List Key×V))
 | set (S:Int->Bool) (n:Nat)
 | ins (C dx:Addr) (fs:List (Str×V))
 | own (x:Addr)
 | xd (fs:List (Str×V))
 | met (f x:Addr)
 | rng (lo hi:Int)
 | frz (o:Obj) (u:HO)
 | tbl (ps:Array Value)
 | ext (φ:Heap->Prop)
noncomputable abbrev Hp:=Addr->Option HO
noncomputable def upd (H:Hp) (a:Addr) (o:HO):Hp:=fun b=>if b=a then some o else H b
theorem upd_same {H:Hp}{a:Addr}{o:HO}:upd H a o a=some o:=by unfold upd;rw [if_pos rfl]
theorem upd_ne {H:Hp}{a b:Addr}{o:HO}(h:b≠a):upd H a o b=H b:=by unfold upd;rw [if_neg h]
theorem ne_of {H:Hp}{a b:Addr}{o u:HO}(h:H a=some o) (h':H b=some u) (d:o≠u):a≠b:=by
 intro e;subst e;rw [h] at h';exact d (Option.some.inj h')
theorem ne_of_none {H:Hp}{a b:Addr}{o:HO}(h:H a=some o) (h':H b=none):a≠b:=by
 intro e;subst e;rw [h] at h';cases h'
section
variable (P:Program) (w:World)
noncomputable def TupP (h:Heap) (a:Addr) (its:Array Value):Prop:=∃ o,h.get? a=some o/\o.cls=.type "tuple"/\o.dict=none/\∃ n,o.data=.seq its n
theorem TupP.to {h:Heap}{a:Addr}{its:Array Value}(x:TupP h a its):IsTup h a its:=let ⟨o,e,c,_,n,d⟩:=x;⟨o,e,c,n,d⟩
theorem TupP.new (h:Heap) (its:Array Value):TupP (h.push { cls:=.type "tuple",data:=.seq its }) h.objs.size its:=⟨_,Heap.get?_push_size _ rfl,rfl,rfl,_,rfl⟩
noncomputable def ObjOk (H:Hp) (h:Heap) (a:Addr):HO->Prop
 | .lst xs=>xs.length<=sizeLine/\∃ (its:List Value) (n:Nat),Vals xs its/\h.get? a=some { cls:=.type "list",data:=.seq its.toArray n }
 | .tup xs=>xs.length<=sizeLine/\∃ its:List Value,Vals xs its/\TupP h a its.toArray
 | .dK kvs=>kvs.length<=sizeLine/\(a==sysModules)=false/\∃ vs,KV kvs vs/\h.DictOf (mixKind P w) a vs
 | .dT kvs=>kvs.length<=sizeLine/\(a==sysModules)=false/\∃ xs:List (List Key×Addr×Value),
   Paired (fun (p:List Key×V) (q:List Key×Addr×Value)=>p.1=q.1/\H q.2.1=some (.tup (p.1.map kV))/\RelV p.2 q.2.2) kvs xs /\
   ∃ o es ep,h.get? a=some o/\o.ExactDict/\o.data=.dict es ep/\es.toList=xs.map (entryOfKey (tupleKind (mixKind P w)))/\(xs.map (·.1)).Nodup
 | .set S n=>h.SetOf (intKind P w) a S n
 | .ins C dx fs=>H dx=some (.own a)/\fs.length<=1000/\dx≠a/\h.get? a=some (PySem.W.instObj C dx) /\
   ∃ mA,h.Ns1 dx mA/\(∀ f,RelO (fs.lookup f) (mA f))/\PySem.Within mA (fs.map (·.1))
 | .own _=>∃ o,h.get? a=some o
 | .xd fs=>∃ mA,h.Ns1 a mA/\∀ f,RelO (fs.lookup f) (mA f)
 | .rng lo hi=>∃ t u v,h.get? a=some { cls:=.type "range",data:=.fields #[.int lo t,.int hi u,.int 1 v] }
 | .frz o u=>h.get? a=some o/\ObjOk H h a u
 | .tbl ps=>h.get? a=some { cls:=.none,data:=.fields ps }
 | .met f x=>h.get? a=some (PySem.W.methodObj (.ref f) (.ref x))
 | .ext φ=>φ h/\(∃ o,h.get? a=some o)/\∀ h1 h2:Heap,φ h1->(∀ o,h1.get? a=some o->h2.get? a=some o)->φ h2
noncomputable def HOk (H:Hp) (h:Heap):Prop:=∀ a o,H a=some o->ObjOk P w H h a o
end
section
variable {P:Program}{w:World}{H H':Hp}{h h':Heap}{a:Addr}{o:HO}
theorem ObjOk.lt (x:ObjOk P w H h a o):a < h.objs.size:=by
 cases o with
 | lst xs=>obtain ⟨_,_,_,_,e⟩:=x;exact Heap.lt_size e
 | tup xs=>obtain ⟨_,_,_,p⟩:=x;exact p.to.lt
 | dK kvs=>obtain ⟨_,_,_,_,o,_,_,e,_⟩:=x;exact Heap.lt_size e
 | dT kvs=>obtain ⟨_,_,_,_,o,_,_,e,_⟩:=x;exact Heap.lt_size e
 | set S n=>obtain ⟨o,_,_,_,e,_⟩:=x;exact Heap.lt_size e
 | ins C dx fs=>obtain ⟨_,_,_,e,_⟩:=x;exact Heap.lt_size e
 | own y=>obtain ⟨_,e⟩:=x;exact Heap.lt_size e
 | xd fs=>obtain ⟨_,⟨_,_,_,e,_⟩,_⟩:=x;exact Heap.lt_size e
 | rng lo hi=>obtain ⟨_,_,_,e⟩:=x;exact Heap.lt_size e
 | frz ob u=>obtain ⟨e,_⟩:=x;exact Heap.lt_size e
 | tbl ps=>exact Heap.lt_size (show h.get? a=some _ from x)
 | met f y=>exact Heap.lt_size (show h.get? a=some _ from x)
 | ext φ=>obtain ⟨_,⟨_,e⟩,_⟩:=x;exact Heap.lt_size e
theorem Paired.mapP {α β:Type}{F G:α->β->Prop}:∀ {l₁:List α}{l₂:List β},Paired F l₁ l₂->(∀ a b,F a b->G a b)->Paired G l₁ l₂
 | _,_,.nil,_=>.nil
 | _,_,.cons r t,f=>.cons (f _ _ r) (Paired.mapP t f)
theorem ObjOk.stay (x:ObjOk P w H h a o) (k:∀ b u,(b=a\/H b=some (.own a))->h.get? b=some u->h'.get? b=some u)
  (ho:∀ b,H b=some (.own a)->H' b=some (.own a)) (ht:∀ b xs,H b=some (.tup xs)->H' b=some (.tup xs)):ObjOk P w H' h' a o:=by
 induction o with
 | lst xs=>obtain ⟨z,its,n,r,e⟩:=x;exact ⟨z,its,n,r,k _ _ (.inl rfl) e⟩
 | tup xs=>obtain ⟨z,its,r,ob,e,c⟩:=x;exact ⟨z,its,r,ob,k _ _ (.inl rfl) e,c⟩
 | dK kvs=>obtain ⟨z,y,vs,r,ob,es,ep,e,c⟩:=x;exact ⟨z,y,vs,r,ob,es,ep,k _ _ (.inl rfl) e,c⟩
 | dT kvs =>
  obtain ⟨z,y,xs,r,ob,es,ep,e,c⟩:=x;exact ⟨z,y,xs,Paired.mapP r fun p q z=>⟨z.1,ht _ _ z.2.1,z.2.2⟩,ob,es,ep,k _ _ (.inl rfl) e,c⟩
 | set S n=>obtain ⟨ob,es,ep,t,e,c⟩:=x;exact ⟨ob,es,ep,t,k _ _ (.inl rfl) e,c⟩
 | ins C dx fs =>
  obtain ⟨d,z,ne,e,mA,⟨od,es,ep,e2,c⟩,r⟩:=x;exact ⟨ho _ d,z,ne,k _ _ (.inl rfl) e,mA,⟨od,es,ep,k _ _ (.inr d) e2,c⟩,r⟩
 | own y=>obtain ⟨ob,e⟩:=x;exact ⟨ob,k _ _ (.inl rfl) e⟩
 | xd fs=>obtain ⟨mA,⟨od,es,ep,e,c⟩,r⟩:=x;exact ⟨mA,⟨od,es,ep,k _ _ (.inl rfl) e,c⟩,r⟩
 | rng lo hi=>obtain ⟨t,u,v,e⟩:=x;exact ⟨t,u,v,k _ _ (.inl rfl) e⟩
 | frz ob u ih=>obtain ⟨e,q⟩:=x;exact ⟨k _ _ (.inl rfl) e,ih q⟩
 | tbl ps =>
  have e:h.get? a=some { cls:=.none,data:=.fields ps }:=x;show h'.get? a=some { cls:=.none,data:=.fields ps };exact k a _ (.inl rfl) e
 | met f y =>
  have e:h.get? a=some (PySem.W.methodObj (.ref f) (.ref y)):=x;show h'.get? a=some (PySem.W.methodObj (.ref f) (.ref y));exact k a _ (.inl rfl) e
 | ext φ=>obtain ⟨p,⟨o,e⟩,st⟩:=x;exact ⟨st _ _ p fun o q=>k _ _ (.inl rfl) q,⟨o,k _ _ (.inl rfl) e⟩,st⟩
theorem HOk.lt (x:HOk P w H h) (e:H a=some o):a < h.objs.size:=(x a o e).lt
theorem HOk.fresh (x:HOk P w H h) (e:h.objs.size<=a):H a=none:=by
 cases q:H a with
 | none=>rfl
 | some u=>exact absurd (Nat.lt_of_lt_of_le (x.lt q) e) (Nat.lt_irrefl _)
theorem HOk.kept (x:HOk P w H h) (k:∀ b u,h.get? b=some u->h'.get? b=some u):HOk P w H h':=fun a o e =>
 (x a o e).stay (fun b u _ q=>k b u q) (fun _ q=>q) fun _ _ q=>q
theorem HOk.laid (x:HOk P w H h) (k:∀ b u,h.get? b=some u->h'.get? b=some u) (hp:h.objs.size<=a) (new:ObjOk P w (upd H a o) h' a o):HOk P w (upd H a o) h':=fun b u e=>by
 have hn:=x.fresh hp
 by_cases hb:b=a
 ·subst hb;rw [upd_same] at e;cases e;exact new
 ·rw [upd_ne hb] at e;exact (x b u e).stay (fun c v _ q=>k c v q) (fun c q=>by rw [upd_ne (ne_of_none q hn)];exact q) fun c xs q=>by rw [upd_ne (ne_of_none q hn)];exact q
end
noncomputable def Rd (H:Hp) (a:Addr) (u:HO):Prop:=H a=some u\/∃ o,H a=some (.frz o u)
theorem Rd.ok {P:Program}{w:World}{H:Hp}{h:Heap}{a:Addr}{u:HO}(r:Rd H a u) (x:HOk P w H h):ObjOk P w H h a u:=by
 rcases r with r|⟨o,r⟩
 ·exact x a u r
 ·obtain ⟨_,q⟩:=x a _ r;exact q
noncomputable def Mut:Option HO->Prop
 | some (.lst _)=>True
 | some (.dK _)=>True
 | some (.dT _)=>True
 | some (.set _ _)=>True
 | some (.ins _ _ _)=>True
 | some (.ext _)=>True
 | _=>False
section
variable {P:Program}{w:World}{H:Hp}{h h':Heap}{x e:Addr}{o':HO}
theorem HOk.write (ok:HOk P w H h) (mu:Mut (H x)) (he:e=x\/H e=some (.own x)) (k:∀ b u,b≠e->h.get? b=some u->h'.get? b=some u) (heo:∃ u,h'.get? e=some u)
  (new:ObjOk P w (upd H x o') h' x o'):HOk P w (upd H x o') h':=fun b u q=>by
 have nown:∀ c y,H c=some (.own y)->c≠x:=fun c y r z=>by subst z;rw [r] at mu;exact mu
 have ntup:∀ c xs,H c=some (.tup xs)->c≠x:=fun c xs r z=>by subst z;rw [r] at mu;exact mu
 by_cases hb:b=x
 ·subst hb;rw [upd_same] at q;cases q;exact new
 ·rw [upd_ne hb] at q
  by_cases hbe:b=e
  ·have q':H b=some (.own x):=by
    rcases he with z|z
    ·exact absurd (hbe.trans z) hb
    ·rw [hbe];exact z
   rw [q] at q';cases q';obtain ⟨v,hv⟩:=heo;exact ⟨v,by rw [hbe];exact hv⟩
  ·refine (ok b u q).stay (fun c v hc r=>k c v ?_ r) (fun c r=>by rw [upd_ne (nown c b r)];exact r) fun c xs r=>by rw [upd_ne (ntup c xs r)];exact r
   rcases hc with rfl|hc
   ·exact hbe
   ·rintro rfl;rcases he with z|z
    ·exact nown c b hc z
    ·rw [hc] at z;cases z;exact hb rfl
end
structure Un (fs ex:List Addr) (H H':Hp) (h h':Heap):Prop where
 keep:∀ b o,h.get? b=some o->H b=none->b ∉ fs->b ∉ ex->h'.get? b=some o
 slot:∀ b o,h.get? b=some o->H b=none->b∈fs->b ∉ ex->∃ sl,h'.get? b=some { o with slots:=sl }
 free:∀ b o,h.get? b=some o->H b=none->b ∉ ex->H' b=none
 there:∀ b o,h.get? b=some o->b ∉ ex->∃ o',h'.get? b=some o'
 tups:∀ b xs,H b=some (.tup xs)->H' b=some (.tup xs)
 frzs:∀ b o u,H b=some (.frz o u)->H' b=some (.frz o u)
 tbls:∀ b ps,H b=some (.tbl ps)->∃ more,H' b=some (.tbl (ps++more))
section
variable {fs fs' ex ex':List Addr}{H H1 H2:Hp}{h h1 h2 h':Heap}{a x e:Addr}{o:HO}
theorem Un.any (u:Un fs ex H H1 h h1) {b:Addr}{ob:Obj}(q:h.get? b=some ob) (n:H b=none) (hx:b ∉ ex):∃ sl,h1.get? b=some { ob with slots:=sl }:=by
 by_cases hb:b∈fs
 ·exact u.slot b ob q n hb hx
 ·exact ⟨ob.slots,u.keep b ob q n hb hx⟩
theorem Un.kept (k:∀ b u,h.get? b=some u->h'.get? b=some u):Un fs ex H H h h' :=
 ⟨fun b ob q _ _ _=>k b ob q,fun b ob q _ _ _=>⟨ob.slots,k b ob q⟩,fun _ _ _ n _=>n,fun b ob q _=>⟨ob,k b ob q⟩,fun _ _ q=>q,fun _ _ _ q=>q,fun _ ps q=>⟨#[],by rw [q];simp⟩⟩
theorem Un.refl:Un fs ex H H h h:=Un.kept fun _ _ q=>q
theorem Un.laid (k:∀ b u,h.get? b=some u->h'.get? b=some u) (hp:h.objs.size<=a) (hn:H a=none):Un fs ex H (upd H a o) h h' where
 keep:=fun b u q _ _ _=>k b u q
 slot:=fun b u q _ _ _=>⟨u.slots,k b u q⟩
 free:=fun b u q n _=>by rw [upd_ne (Nat.ne_of_lt (Nat.lt_of_lt_of_le (Heap.lt_size q) hp))];exact n
 there:=fun b u q _=>⟨u,k b u q⟩
 tups:=fun b xs q=>by rw [upd_ne (ne_of_none q hn)];exact q
 frzs:=fun b u xs q=>by rw [upd_ne (ne_of_none q hn)];exact q
 tbls:=fun b ps q=>⟨#[],by rw [upd_ne (ne_of_none q hn),q];simp⟩
theorem Un.write (mu:Mut (H x)) (he:e=x\/H e=some (.own x)) (k:∀ b u,b≠e->h.get? b=some u->h'.get? b=some u) (heo:∃ u,h'.get? e=some u):Un fs ex H (upd H x o) h h':=by
 have hx:∀ b,H b=none->b≠x:=fun b n z=>by subst z;rw [n] at mu;exact mu
 have hb:∀ b,H b=none->b≠e:=fun b n z=>by
  subst z;rcases he with r|r
  ·exact hx b n r
  ·rw [n] at r;cases r
 have hm:∀ b u,H b=some u->¬ Mut (some u)->b≠x:=fun b u q nm z=>by subst z;rw [q] at mu;exact nm mu
 refine ⟨fun b u q n _ _=>k b u (hb b n) q,fun b u q n _ _=>⟨u.slots,k b u (hb b n) q⟩,fun b u q n _=>by rw [upd_ne (hx b n)];exact n,fun b u q _=>?_,
  fun b xs q=>by rw [upd_ne (hm b _ q fun z=>z)];exact q,fun b u xs q=>by rw [upd_ne (hm b _ q fun z=>z)];exact q,fun b ps q=>⟨#[],by rw [upd_ne (hm b _ q fun z=>z),q];simp⟩⟩
 by_cases hbe:b=e
 ·subst hbe;exact heo
 ·exact ⟨u,k b u hbe q⟩
end
noncomputable def trk (h:Heap) (H:Hp):List Addr:=(List.range h.objs.size).filter fun a=>(H a).isSome
noncomputable def hidT (h:Heap) (H:Hp):Heap:=PySem.W.hideAll h (trk h H)
theorem hidT_size (h:Heap) (H:Hp):(hidT h H).objs.size=h.objs.size:=PySem.W.hideAll_size _ _
theorem hidT_get {h:Heap}{H:Hp}{b:Addr}{o:Obj}(e:h.get? b=some o) (n:H b=none):(hidT h H).get? b=some o :=
 PySem.W.hideAll_get _ e fun hm=>by
  have q:(H b).isSome=true:=(List.mem_filter.mp hm).2;rw [n] at q;simp at q
theorem of_hidT {h:Heap}{H:Hp}{b:Addr}{o:Obj}(e:(hidT h H).get? b=some o):h.get? b=some o/\H b=none:=by
 have e':h.get? b=some o:=PySem.W.of_hideAll (trk h H) e;refine ⟨e',?_⟩;cases q:H b with
 | none=>rfl
 | some x =>
  have hm:b∈trk h H:=List.mem_filter.mpr ⟨List.mem_range.mpr (Heap.lt_size e'),by simp [q]⟩;have z:(hidT h H).get? b=none:=PySem.W.hideAll_none (trk h H) hm;rw [z] at e;cases e
structure Mod (K:PySem.W.Frag) (mg:Str->Option Value) (base:Heap):Prop where
 kin:K.In base
 glob:base.Ns mainGlobals mg
 blt:∃ mb,base.Ns builtinsNs mb/\∀ x:Str,x ≠ "__name__"->mb x=bootBuiltins x
 nolimit:base.NoLimit
structure Cx where
 prog:Program
 w:World
 K:PySem.W.Frag
 mg:Str->Option Value
 base:Heap
 A:Around
 N:List Str
 s₀:Shared
 H₀:Hp
 env:Env
 outer:List Env
 stack:List Env
 ex:List Addr
 fn:Str->Bool
 calm:Bool
 pn:List (Addr×Obj)
 xe:Value->Shared->Prop
noncomputable def frs (l:List Env):List Addr:=l.filterMap (·.frame)
noncomputable abbrev Cx.fs (X:Cx):List Addr:=frs X.outer
noncomputable def Vis (sc:Scope) (x:Str):Prop:=sc.names.lookup x=some .local\/sc.names.lookup x=some .cell\/sc.names.lookup x=some .free
noncomputable def Loc (sc:Scope) (x:Str):Prop:=sc.names.lookup x=some .local\/sc.names.lookup x=some .cell
noncomputable def Look (env:Env) (h:Heap) (m:Str->Option Value) (x:Str) (u:Value):Prop :=
 (env.kindOf x=some .local/\m x=some u)\/((env.kindOf x=some .cell\/env.kindOf x=some .free)/\∃ c,env.cells.lookup x=some c/\h.IsCell c (some u))
structure Cx.Ok (X:Cx):Prop where
 mod:Mod X.K X.mg X.base
 kind:X.env.scope.kind=.function
 glob:X.env.globals=mainGlobals
 blt:X.env.builtins=builtinsNs
 above:X.s₀.heap.objs.size<=X.env.locals
 inj:∀ x y c,X.env.cells.lookup x=some c->X.env.cells.lookup y=some c->x=y
 has:∀ x,(X.env.kindOf x=some .cell\/X.env.kindOf x=some .free)->∃ c,X.env.cells.lookup x=some c
 cab:∀ x c,X.fn x=true->X.env.cells.lookup x=some c->X.s₀.heap.objs.size<=c
 hd:X.calm=true->X.A.handled=none
 frames:X.A.frames=some X.stack
 stk:X.stack=X.outer\/(X.stack=X.env::X.outer/\X.env.frame=some X.env.locals)
 exf:∀ b∈X.ex,b≠X.env.locals/\∀ x c,X.env.cells.lookup x=some c->c≠b
 bs:∀ b o,X.base.get? b=some o->X.s₀.heap.get? b=some o/\X.H₀ b=none
 bsz:X.base.objs.size<=X.s₀.heap.objs.size
 noex:∀ b o,X.base.get? b=some o->b ∉ X.ex
 exfs:∀ b∈X.ex,b ∉ X.fs
 funs:X.s₀.heap.FunFrames X.base X.outer
 frf:∀ b∈X.fs,X.H₀ b=none
structure Inv (X:Cx) (pins:List (Addr×Obj)) (σ:List (Option V)) (H:Hp) (s:Shared):Prop where
 ok:X.Ok
 os:s.os=X.s₀.os
 bare:AllBare s.gens
 base:Un X.fs X.ex X.H₀ H X.s₀.heap s.heap
 loc:∃ m,s.heap.Ns X.env.locals m/\∀ (i:Nat) (x:Str) (v:V),X.N[i]?=some x->σ[i]?=some (some v)->Vis X.env.scope x->∃ u,RelV v u/\Look X.env s.heap m x u
 cell:∀ x c,X.env.cells.lookup x=some c->∃ v,s.heap.IsCell c v
 free:H X.env.locals=none
 freeC:∀ x c,X.env.cells.lookup x=some c->H c=none
 pin:∀ p∈X.pn++pins,s.heap.get? p.1=some p.2/\H p.1=none/\p.1≠X.env.locals/\p.1 ∉ X.fs/\∀ v,p.2.data≠.cell v
 hok:HOk X.prog X.w H s.heap
 len:σ.length=X.N.length
section
variable {X:Cx}{pins:List (Addr×Obj)}{σ:List (Option V)}{H H':Hp}{s:Shared}{h':Heap}
theorem Cx.Ok.nofr (ok:X.Ok) {b:Addr}{o:Obj}(e:X.base.get? b=some o):b ∉ X.fs:=fun hb=>by
 have:=(ok.funs.mem hb).1;rw [e] at this;cases this
theorem Inv.bs (I:Inv X pins σ H s):∀ b o,X.base.get? b=some o->s.heap.get? b=some o/\H b=none:=fun b o e =>
 ⟨I.base.keep b o (I.ok.bs b o e).1 (I.ok.bs b o e).2 (I.ok.nofr e) (I.ok.noex b o e),I.base.free b o (I.ok.bs b o e).1 (I.ok.bs b o e).2 (I.ok.noex b o e)⟩
theorem Inv.bk (I:Inv X pins σ H s):∀ b o,X.base.get? b=some o->s.heap.get? b=some o:=fun b o e=>(I.bs b o e).1
theorem Inv.mod (I:Inv X pins σ H s):Mod X.K X.mg X.base:=I.ok.mod
theorem Inv.kIn (I:Inv X pins σ H s):X.K.In s.heap:=I.ok.mod.kin.keeps I.bk
theorem Inv.lt (I:Inv X pins σ H s):X.env.locals < s.heap.objs.size:=let ⟨_,hn,_⟩:=I.loc;hn.lt
theorem Inv.sz (I:Inv X pins σ H s):X.s₀.heap.objs.size<=s.heap.objs.size:=Nat.le_trans I.ok.above (Nat.le_of_lt I.lt)
theorem Inv.nofs (I:Inv X pins σ H s) {a:Addr}(h:s.heap.objs.size<=a):a ∉ X.fs:=fun hb=>by
 obtain ⟨_,o,ho,_⟩:=I.ok.funs.mem hb;exact absurd (Nat.lt_of_lt_of_le (Heap.lt_size ho) (Nat.le_trans I.sz h)) (Nat.lt_irrefl _)
theorem Inv.cne (I:Inv X pins σ H s):∀ x c,X.env.cells.lookup x=some c->c≠X.env.locals:=fun x c e z=>by
 obtain ⟨v,o,ho,hd⟩:=I.cell x c e;obtain ⟨m,⟨o',es,ep,ho',hd',_⟩,_⟩:=I.loc;rw [z,ho'] at ho;cases ho;rw [hd'] at hd;cases hd
theorem Inv.funs (I:Inv X pins σ H s):s.heap.FunFrames X.base X.outer:=by
 have all:∀ (l:List Env),(∀ b∈frs l,b∈X.fs)->X.s₀.heap.FunFrames X.base l->s.heap.FunFrames X.base l:=by
  intro l
  induction l with
  | nil=>intro _ _;trivial
  | cons env r ih =>
   intro hs hl;obtain ⟨hk,⟨L,o,hf,hn,ho,hd⟩,hr⟩:=hl;have hL:L∈X.fs:=hs L (by unfold frs;rw [List.filterMap_cons,hf];exact List.mem_cons_self);obtain ⟨sl,e⟩:=I.base.slot L o ho (I.ok.frf L hL) hL fun z=>I.ok.exfs L z hL
   exact ⟨hk,⟨L,_,hf,hn,e,hd⟩,ih (fun b hb=>hs b (by unfold frs;rw [List.filterMap_cons,hf];exact List.mem_cons_of_mem _ hb)) hr⟩
 exact all X.outer (fun _ hb=>hb) I.ok.funs
theorem Inv.stack (I:Inv X pins σ H s):s.heap.FunFrames X.base X.stack:=by
 rcases I.ok.stk with e|⟨e,hf⟩
 ·rw [e];exact I.funs
 ·rw [e];obtain ⟨m,hn,_⟩:=I.loc;refine .cons (by rw [I.ok.kind];decide) hf hn ?_ I.funs;exact Heap.get?_none_of_le (Nat.le_trans I.ok.bsz I.ok.above)
theorem Inv.stkSub (I:Inv X pins σ H s):∀ b∈frs X.stack,b∈X.env.locals::X.fs:=fun b hb=>by
 rcases I.ok.stk with e|⟨e,hf⟩
 ·rw [e] at hb;exact List.mem_cons_of_mem _ hb
 ·rw [e] at hb;unfold frs at hb;rw [List.filterMap_cons,hf] at hb;exact hb
theorem Inv.stkFree (I:Inv X pins σ H s):∀ b∈frs X.stack,H b=none:=fun b hb=>by
 rcases List.mem_cons.mp (I.stkSub b hb) with e|hb
 ·rw [e];exact I.free
 ·obtain ⟨_,o,ho,_⟩:=I.ok.funs.mem hb;exact I.base.free b o ho (I.ok.frf b hb) fun z=>I.ok.exfs b z hb
theorem Inv.step {g':Array GenState}{t':Nat}{d':Drawn}{ch:List Addr}(I:Inv X pins σ H s)
  (hch:∀ b∈ch,(b∈X.ex\/X.s₀.heap.objs.size<=b)/\b≠X.env.locals/\(∀ x c,X.env.cells.lookup x=some c->c≠b)/\∀ p∈X.pn++pins,p.1≠b)
  (keep:∀ b o,b≠X.env.locals->b ∉ X.fs->b ∉ ch->s.heap.get? b=some o->H b=none->h'.get? b=some o)
  (slot:∀ b o,b≠X.env.locals->b∈X.fs->b ∉ ch->s.heap.get? b=some o->H b=none->∃ sl,h'.get? b=some { o with slots:=sl }) (free:∀ b o,b ∉ ch->s.heap.get? b=some o->H b=none->H' b=none)
  (there:∀ b o,b ∉ ch->s.heap.get? b=some o->∃ o',h'.get? b=some o')
  (tups:∀ b xs,H b=some (.tup xs)->H' b=some (.tup xs)) (frzs:∀ b o u,H b=some (.frz o u)->H' b=some (.frz o u)) (tbls:∀ b ps,H b=some (.tbl ps)->∃ more,H' b=some (.tbl (ps++more)))
  (ns:∀ m,s.heap.Ns X.env.locals m->h'.Ns X.env.locals m) (hok:HOk X.prog X.w H' h') (hg:AllBare g') :
  Inv X pins σ H' { s with heap:=h',gens:=g',drawn:=d',toks:=t' }:=by
 have neL:∀ b o,X.s₀.heap.get? b=some o->b≠X.env.locals:=fun b o e=>Nat.ne_of_lt (Nat.lt_of_lt_of_le (Heap.lt_size e) I.ok.above)
 have neC:∀ b o,X.s₀.heap.get? b=some o->b ∉ X.ex->b ∉ ch:=fun b o e hx hb=>by
  rcases (hch b hb).1 with z|z
  ·exact hx z
  ·exact absurd (Nat.lt_of_lt_of_le (Heap.lt_size e) z) (Nat.lt_irrefl _)
 have cellK:∀ x c,X.env.cells.lookup x=some c->∀ v,s.heap.IsCell c v->h'.IsCell c v:=by
  rintro x c e v ⟨o,ho,hd⟩;have nch:c ∉ ch:=fun z=>(hch c z).2.2.1 x c e rfl
  by_cases hc:c∈X.fs
  ·obtain ⟨sl,q⟩:=slot c o (I.cne x c e) hc nch ho (I.freeC x c e);exact ⟨_,q,hd⟩
  ·exact ⟨o,keep c o (I.cne x c e) hc nch ho (I.freeC x c e),hd⟩
 refine ⟨I.ok,I.os,hg,⟨fun b o e n hb hx=>?_,fun b o e n hb hx=>?_,fun b o e n hx=>?_,fun b o e hx=>?_,fun b xs e=>tups b xs (I.base.tups b xs e),fun b o xs e=>frzs b o xs (I.base.frzs b o xs e),fun b ps e=>?_⟩,?_,fun x c e=>?_,?_,fun x c e=>?_,fun p hp=>?_,hok,I.len⟩
 ·exact keep b o (neL b o e) hb (neC b o e hx) (I.base.keep b o e n hb hx) (I.base.free b o e n hx)
 ·obtain ⟨sl,e1⟩:=I.base.slot b o e n hb hx;obtain ⟨sl',e2⟩:=slot b _ (neL b o e) hb (neC b o e hx) e1 (I.base.free b o e n hx);exact ⟨sl',e2⟩
 ·obtain ⟨o',e1⟩:=I.base.there b o e hx;exact free b o' (neC b o e hx) e1 (I.base.free b o e n hx)
 ·obtain ⟨o',e1⟩:=I.base.there b o e hx;exact there b o' (neC b o e hx) e1
 ·obtain ⟨m1,e1⟩:=I.base.tbls b ps e;obtain ⟨m2,e2⟩:=tbls b _ e1;exact ⟨m1++m2,by rw [e2,Array.append_assoc]⟩
 ·obtain ⟨m,hn,hl⟩:=I.loc;refine ⟨m,ns m hn,fun i x v e1 e2 e3=>?_⟩;obtain ⟨u,r,l⟩:=hl i x v e1 e2 e3;refine ⟨u,r,?_⟩;rcases l with l|⟨k,c,e,z⟩
  ·exact .inl l
  ·exact .inr ⟨k,c,e,cellK x c e _ z⟩
 ·obtain ⟨v,z⟩:=I.cell x c e;exact ⟨v,cellK x c e v z⟩
 ·obtain ⟨m,⟨o,_,_,ho,_⟩,_⟩:=I.loc;exact free _ o (fun z=>(hch _ z).2.1 rfl) ho I.free
 ·obtain ⟨v,o,ho,hd⟩:=I.cell x c e;exact free c o (fun z=>(hch c z).2.2.1 x c e rfl) ho (I.freeC x c e)
 ·obtain ⟨e,n,ne,nf,d⟩:=I.pin p hp;have nch:p.1 ∉ ch:=fun z=>(hch p.1 z).2.2.2 p hp rfl
  exact ⟨keep p.1 p.2 ne nf nch e n,free p.1 p.2 nch e n,ne,nf,d⟩
theorem Inv.un {t':Nat}(I:Inv X pins σ H s) (u:Un X.fs [] H H' s.heap h') (hok:HOk X.prog X.w H' h'):Inv X pins σ H' { s with heap:=h',toks:=t' }:=by
 obtain ⟨m,⟨o,es,ep,ho,r⟩,_⟩:=id I.loc;obtain ⟨sl,hL⟩:=u.any ho I.free (by simp)
 exact I.step (g':=s.gens) (d':=s.drawn) (ch:=[]) (fun _ z=>nomatch z) (fun b o _ hb _ e n=>u.keep b o e n hb (by simp)) (fun b o _ hb _ e n=>u.slot b o e n hb (by simp)) (fun b o _ e n=>u.free b o e n (by simp)) (fun b o _ e=>u.there b o e (by simp)) u.tups u.frzs u.tbls (fun m' hm=>by
  obtain ⟨o',es',ep',ho',r'⟩:=hm;rw [ho] at ho';cases ho'
  exact ⟨_,es',ep',hL,r'⟩) hok I.bare
theorem Inv.call {g':Array GenState}{t':Nat}{d':Drawn}{ch:List Addr}(I:Inv X pins σ H s) (u:Un (frs X.stack) ch H H' s.heap h') (hok:HOk X.prog X.w H' h') (hg:AllBare g')
  (hch:∀ b∈ch,(b∈X.ex\/X.s₀.heap.objs.size<=b)/\b≠X.env.locals/\(∀ x c,X.env.cells.lookup x=some c->c≠b)/\∀ p∈X.pn++pins,p.1≠b) :
  Inv X pins σ H' { s with heap:=h',gens:=g',drawn:=d',toks:=t' }:=by
 obtain ⟨m,⟨o,es,ep,ho,r⟩,_⟩:=id I.loc;obtain ⟨sl,hL⟩:=u.any ho I.free fun z=>(hch _ z).2.1 rfl
 exact I.step (ch:=ch) hch (fun b o hL hb hc e n=>u.keep b o e n (fun z=>(List.mem_cons.mp (I.stkSub b z)).elim hL hb) hc) (fun b o _ _ hc e n=>u.any e n hc) (fun b o hc e n=>u.free b o e n hc) (fun b o hc e=>u.there b o e hc) u.tups u.frzs u.tbls (fun m' hm=>by
  obtain ⟨o',es',ep',ho',r'⟩:=hm;rw [ho] at ho';cases ho'
  exact ⟨_,es',ep',hL,r'⟩) hok hg
theorem Inv.turned {t':Nat}{it:Addr}(I:Inv X pins σ H s) (k:∀ b o,b≠it->s.heap.get? b=some o->h'.get? b=some o) (hn:H it=none) (hL:it≠X.env.locals)
  (h1:it∈X.ex\/X.s₀.heap.objs.size<=it) (h2:∀ x c,X.env.cells.lookup x=some c->c≠it) (h3:∀ p∈X.pn++pins,p.1≠it):Inv X pins σ H { s with heap:=h',toks:=t' }:=by
 have nit:∀ b u,H b=some u->b≠it:=fun b u e z=>by rw [z,hn] at e;cases e
 refine I.step (g':=s.gens) (d':=s.drawn) (ch:=[it]) (fun b hb=>?_) (fun b o _ _ hc e _=>k b o (fun z=>hc (by simp [z])) e) (fun b o _ _ hc e _=>⟨o.slots,k b o (fun z=>hc (by simp [z])) e⟩) (fun _ _ _ _ n=>n)
  (fun b o hc e=>⟨o,k b o (fun z=>hc (by simp [z])) e⟩) (fun _ _ e=>e) (fun _ _ _ e=>e) (fun b ps e=>⟨#[],by rw [e];simp⟩) (fun m hm=>?_) (fun b u e=>?_) I.bare
 ·have e:b=it:=by simpa using hb
  subst e;exact ⟨h1,hL,h2,h3⟩
 ·obtain ⟨o,es,ep,ho,r⟩:=hm;exact ⟨o,es,ep,k _ o (Ne.symm hL) ho,r⟩
 ·refine (I.hok b u e).stay (fun c v hc q=>k c v ?_ q) (fun _ q=>q) fun _ _ q=>q
  rcases hc with z|z
  ·rw [z];exact nit b u e
  ·exact nit c _ z
theorem Inv.tok (I:Inv X pins σ H s) (t:Nat):Inv X pins σ H { s with toks:=t }:=I.un (h':=s.heap) (t':=t) Un.refl I.hok
theorem Inv.kept {t':Nat}(I:Inv X pins σ H s) (k:∀ b u,s.heap.get? b=some u->h'.get? b=some u):Inv X pins σ H { s with heap:=h',toks:=t' }:=I.un (Un.kept k) (I.hok.kept k)
theorem Inv.laid {a:Addr}{o:HO}{t':Nat}(I:Inv X pins σ H s) (k:∀ b u,s.heap.get? b=some u->h'.get? b=some u) (hp:s.heap.objs.size<=a) (new:ObjOk X.prog X.w (upd H a o) h' a o) :
  Inv X pins σ (upd H a o) { s with heap:=h',toks:=t' }:=I.un (Un.laid k hp (I.hok.fresh hp)) (I.hok.laid k hp new)
theorem Inv.write {x e:Addr}{o:HO}{t':Nat}(I:Inv X pins σ H s) (mu:Mut (H x)) (he:e=x\/H e=some (.own x)) (k:∀ b u,b≠e->s.heap.get? b=some u->h'.get? b=some u) (heo:∃ u,h'.get? e=some u)
  (new:ObjOk X.prog X.w (upd H x o) h' x o):Inv X pins σ (upd H x o) { s with heap:=h',toks:=t' }:=I.un (Un.write mu he k heo) (I.hok.write mu he k heo new)
theorem Inv.weak {σ':List (Option V)}(I:Inv X pins σ H s) (hl:σ'.length=σ.length) (w:∀ (i:Nat) v,σ'[i]?=some (some v)->σ[i]?=some (some v)):Inv X pins σ' H s :=
 ⟨I.ok,I.os,I.bare,I.base,let ⟨m,hn,hl'⟩:=I.loc;⟨m,hn,fun i x v e1 e2 e3=>hl' i x v e1 (w i v e2) e3⟩,I.cell,I.free,I.freeC,I.pin,I.hok,hl.trans I.len⟩
theorem Inv.pins_of {pins':List (Addr×Obj)}(I:Inv X pins σ H s) (h:∀ p∈pins',s.heap.get? p.1=some p.2/\H p.1=none/\p.1≠X.env.locals/\p.1 ∉ X.fs/\∀ v,p.2.data≠.cell v):Inv X pins' σ H s :=
 ⟨I.ok,I.os,I.bare,I.base,I.loc,I.cell,I.free,I.freeC,fun p hp=>(List.mem_append.mp hp).elim (fun z=>I.pin p (List.mem_append_left _ z)) (h p),I.hok,I.len⟩
theorem nodup_ix {N:List Str}(hN:N.Nodup) {i j:Nat}{x:Str}(a:N[i]?=some x) (b:N[j]?=some x):i=j:=by
 obtain ⟨h1,e1⟩:=List.getElem?_eq_some_iff.mp a;obtain ⟨h2,e2⟩:=List.getElem?_eq_some_iff.mp b;exact (List.getElem_inj hN).mp (e1.trans e2.symm)
theorem store_ok2 {M:Model}{A:Around}{E:Value->Shared->Prop}{i:Nat}{x:Str}{v:V}{u:Value}{Q:Unit->Shared->Prop}(I:Inv X pins σ H s) (hN:X.N.Nodup) (hi:X.N[i]?=some x) (hx:Loc X.env.scope x) (r:RelV v u)
  (h:∀ s',Inv X pins (σ.set i (some v)) H s'->(∃ a,Heap.SameBut a s.heap s'.heap/\(a=X.env.locals\/X.env.cells.lookup x=some a))->Q () s') (hf:X.fn x=true\/X.env.scope.names.lookup x=some .local:=by first | exact .inl rfl | exact .inr rfl | assumption):wpAny M A (storeName X.env x u) Q E s:=by
 obtain ⟨m,hn,hl⟩:=id I.loc;have hcls:(X.env.scope.kind==.class || (X.env.scope.kind==.module&&X.env.locals != X.env.globals))=false:=by rw [I.ok.kind];rfl
 have hiσ:i < σ.length:=by rw [I.len];exact (List.getElem?_eq_some_iff.mp hi).1
 have cne:=I.cne;have tracked:∀ {a:Addr} {h':Heap},(∃ o,s.heap.get? a=some o/\H a=none)->Heap.SameBut a s.heap h'->HOk X.prog X.w H h':=fun {a h'} ha hs b ob e=>by
  obtain ⟨_,_,hfree⟩:=ha;refine (I.hok b ob e).stay (fun c w' hc q=>(hs.2 c ?_).trans q) (fun _ q=>q) fun _ _ q=>q
  rintro rfl;rcases hc with rfl|hc
  ·rw [hfree] at e;cases e
  ·rw [hfree] at hc;cases hc
 rcases hx with hk|hk
 ·refine wpAny_storeName_local hk hn (fun h' hn' hs=>?_) hcls;obtain ⟨oL,_,_,hoL,_⟩:=id hn;refine h _ ⟨I.ok,I.os,I.bare,⟨fun b o e n hb hx=>?_,fun b o e n hb hx=>?_,I.base.free,fun b o e hx=>?_,I.base.tups,I.base.frzs,I.base.tbls⟩,⟨_,hn',fun j y v' e1 e2 e3=>?_⟩,fun y c e=>?_,I.free,I.freeC,fun p hp=>?_,tracked ⟨oL,hoL,I.free⟩ hs,by simpa using I.len⟩ ⟨_,hs,.inl rfl⟩
  ·exact (hs.2 b (Nat.ne_of_lt (Nat.lt_of_lt_of_le (Heap.lt_size e) I.ok.above))).trans (I.base.keep b o e n hb hx)
  ·obtain ⟨sl,e1⟩:=I.base.slot b o e n hb hx;exact ⟨sl,(hs.2 b (Nat.ne_of_lt (Nat.lt_of_lt_of_le (Heap.lt_size e) I.ok.above))).trans e1⟩
  ·obtain ⟨o',e1⟩:=I.base.there b o e hx;exact ⟨o',(hs.2 b (Nat.ne_of_lt (Nat.lt_of_lt_of_le (Heap.lt_size e) I.ok.above))).trans e1⟩
  ·by_cases hj:j=i
   ·subst hj;rw [hi] at e1;cases e1;rw [List.getElem?_set_self hiσ] at e2;cases e2;exact ⟨u,r,.inl ⟨hk,by simp⟩⟩
   ·rw [List.getElem?_set_ne (Ne.symm hj)] at e2;obtain ⟨u',r',q⟩:=hl j y v' e1 e2 e3;refine ⟨u',r',?_⟩;rcases q with ⟨k,e⟩|⟨k,c,e,z⟩
    ·refine .inl ⟨k,?_⟩;have:y≠x:=fun e=>hj (nodup_ix hN e1 (e ▸ hi))
     simp [this,e]
    ·exact .inr ⟨k,c,e,z.sameBut hs (cne y c e)⟩
  ·obtain ⟨w',z⟩:=I.cell y c e;exact ⟨w',z.sameBut hs (cne y c e)⟩
  ·obtain ⟨e,n,ne,nf,d⟩:=I.pin p hp;exact ⟨(hs.2 p.1 ne).trans e,n,ne,nf,d⟩
 ·have hfn:X.fn x=true:=by
   rcases hf with z|z
   ·exact z
   ·rw [z] at hk;cases hk
  obtain ⟨c,hc⟩:=I.ok.has x (.inl hk);obtain ⟨w',z⟩:=I.cell x c hc;refine wpAny_storeName_cell I.ok.kind hk hc z (fun h' hc' hs=>?_);obtain ⟨oc,hoc,hocd⟩:=id z;refine h { s with heap:=h' } ⟨I.ok,I.os,I.bare,⟨fun b o e n hb hx=>?_,fun b o e n hb hx=>?_,I.base.free,fun b o e hx=>?_,I.base.tups,I.base.frzs,I.base.tbls⟩,⟨m,hn.sameBut hs (Ne.symm (cne x c hc)),fun j y v' e1 e2 e3=>?_⟩,fun y c' e=>?_,I.free,I.freeC,fun p hp=>?_,tracked ⟨oc,hoc,I.freeC x c hc⟩ hs,by simpa using I.len⟩ ⟨c,hs,.inr hc⟩
  ·exact (hs.2 b (Nat.ne_of_lt (Nat.lt_of_lt_of_le (Heap.lt_size e) (I.ok.cab x c hfn hc)))).trans (I.base.keep b o e n hb hx)
  ·obtain ⟨sl,e1⟩:=I.base.slot b o e n hb hx;exact ⟨sl,(hs.2 b (Nat.ne_of_lt (Nat.lt_of_lt_of_le (Heap.lt_size e) (I.ok.cab x c hfn hc)))).trans e1⟩
  ·obtain ⟨o',e1⟩:=I.base.there b o e hx;exact ⟨o',(hs.2 b (Nat.ne_of_lt (Nat.lt_of_lt_of_le (Heap.lt_size e) (I.ok.cab x c hfn hc)))).trans e1⟩
  ·by_cases hj:j=i
   ·subst hj;rw [hi] at e1;cases e1;rw [List.getElem?_set_self hiσ] at e2;cases e2;exact ⟨u,r,.inr ⟨.inl hk,c,hc,hc'⟩⟩
   ·rw [List.getElem?_set_ne (Ne.symm hj)] at e2;obtain ⟨u',r',q⟩:=hl j y v' e1 e2 e3;refine ⟨u',r',?_⟩;rcases q with q|⟨k,c',e,z'⟩
    ·exact .inl q
    ·refine .inr ⟨k,c',e,z'.sameBut hs ?_⟩;rintro rfl;exact hj (nodup_ix hN e1 (I.ok.inj _ _ _ e hc ▸ hi))
  ·by_cases hcc:c'=c
   ·subst hcc;exact ⟨_,hc'⟩
   ·obtain ⟨w2,z2⟩:=I.cell y c' e;exact ⟨w2,z2.sameBut hs hcc⟩
  ·obtain ⟨e,n,ne,nf,d⟩:=I.pin p hp;refine ⟨(hs.2 p.1 ?_).trans e,n,ne,nf,d⟩;intro q;rw [q,hoc] at e;have q':oc=p.2:=Option.some.inj e;exact d w' (by rw [← q'];exact hocd)
theorem store_ok {M:Model}{A:Around}{E:Value->Shared->Prop}{i:Nat}{x:Str}{v:V}{u:Value}{Q:Unit->Shared->Prop}(I:Inv X pins σ H s) (hN:X.N.Nodup) (hi:X.N[i]?=some x) (hx:Loc X.env.scope x) (r:RelV v u)
  (h:∀ s',Inv X pins (σ.set i (some v)) H s'->Q () s') (hf:X.fn x=true\/X.env.scope.names.lookup x=some .local:=by first | exact .inl rfl | exact .inr rfl | assumption):wpAny M A (storeName X.env x u) Q E s :=
 store_ok2 I hN hi hx r (fun s' I' _=>h s' I') hf
theorem Inv.call' {s':Shared}{ch:List Addr}(I:Inv X pins σ H s) (ho:s'.os=s.os) (u:Un (frs X.stack) ch H H' s.heap s'.heap) (hok:HOk X.prog X.w H' s'.heap) (hg:AllBare s'.gens)
  (hch:∀ b∈ch,(b∈X.ex\/X.s₀.heap.objs.size<=b)/\b≠X.env.locals/\(∀ x c,X.env.cells.lookup x=some c->c≠b)/\∀ p∈X.pn++pins,p.1≠b):Inv X pins σ H' s':=by
 obtain ⟨h',g',d',t',o'⟩:=s';have e:o'=s.os:=ho;subst e;exact I.call (g':=g') (t':=t') (d':=d') u hok hg hch
end
noncomputable abbrev XK:=Value->Option Addr->Hp->Prop
noncomputable abbrev St:=List (Option V)
noncomputable abbrev VK:=V->Hp->Prop
noncomputable abbrev TE:=St->Hp->VK->Prop
noncomputable abbrev TT:=St->Hp->(Bool->Hp->Prop)->Prop
noncomputable abbrev TA:=St->Hp->(List V->Hp->Prop)->Prop
structure Ends where
 nx:St->Hp->Prop
 rt:VK
 bk:St->Hp->Prop:=fun _ _=>False
 ct:St->Hp->Prop:=fun _ _=>False
noncomputable abbrev TS:=Ends->St->Hp->Prop
noncomputable def EP (X:Cx) (pins:List (Addr×Obj)) (σ:St) (Q:VK) (u:Value) (s':Shared):Prop:=∃ v H',Inv X pins σ H' s'/\RelV v u/\Q v H'
noncomputable def TP (X:Cx) (pins:List (Addr×Obj)) (σ:St) (Q:Bool->Hp->Prop) (b:Bool) (s':Shared):Prop:=∃ H',Inv X pins σ H' s'/\Q b H'
noncomputable def AP (X:Cx) (pins:List (Addr×Obj)) (σ:St) (Q:List V->Hp->Prop) (us:List Value) (s':Shared):Prop:=∃ vs H',Inv X pins σ H' s'/\Vals vs us/\Q vs H'
noncomputable def SP (X:Cx) (pins:List (Addr×Obj)) (D:Ends) (f:Flow) (s':Shared):Prop :=
 match f with
 | .next=>∃ σ' H',Inv X pins σ' H' s'/\D.nx σ' H'
 | .brk=>∃ σ' H',Inv X pins σ' H' s'/\D.bk σ' H'
 | .cont=>∃ σ' H',Inv X pins σ' H' s'/\D.ct σ' H'
 | .ret u=>∃ v σ' H',Inv X pins σ' H' s'/\RelV v u/\D.rt v H'
noncomputable def PE (X:Cx) (e:Expr) (t:TE):Prop :=
 ∀ (pins:List (Addr×Obj)) (s:Shared) (σ:St) (H:Hp) (Q:VK),Inv X pins σ H s->t σ H Q->wpAny (model X.prog X.w) X.A (eval e X.env) (EP X pins σ Q) X.xe s
noncomputable def PT (X:Cx) (e:Expr) (t:TT):Prop :=
 ∀ (pins:List (Addr×Obj)) (s:Shared) (σ:St) (H:Hp) (Q:Bool->Hp->Prop),Inv X pins σ H s->t σ H Q->wpAny (model X.prog X.w) X.A (isTrue e X.env (eval e X.env)) (TP X pins σ Q) X.xe s
noncomputable def PW (X:Cx) (e:Expr) (t:TT):Prop :=
 ∀ (whole:Sem Value) (pins:List (Addr×Obj)) (s:Shared) (σ:St) (H:Hp) (Q:Bool->Hp->Prop),Inv X pins σ H s->t σ H Q->wpAny (model X.prog X.w) X.A (isTrue e X.env whole) (TP X pins σ Q) X.xe s
theorem PW.pt {X:Cx}{e:Expr}{t:TT}(h:PW X e t):PT X e t:=h _
noncomputable def PA (X:Cx) (es:List Expr) (t:TA):Prop :=
 ∀ (pos:Pos) (pins:List (Addr×Obj)) (s:Shared) (σ:St) (H:Hp) (Q:List V->Hp->Prop),Inv X pins σ H s->t σ H Q->wpAny (model X.prog X.w) X.A (spliced (backTo pos (starEach es X.env))) (AP X pins σ Q) X.xe s
noncomputable def PS (X:Cx) (st:Stmt) (t:TS):Prop :=
 ∀ (pins:List (Addr×Obj)) (s:Shared) (σ:St) (H:Hp) (D:Ends),Inv X pins σ H s->t D σ H->wpAny (model X.prog X.w) X.A (exec st X.env) (SP X pins D) X.xe s
noncomputable def PSs (X:Cx) (st:List Stmt) (t:TS):Prop :=
 ∀ (pins:List (Addr×Obj)) (s:Shared) (σ:St) (H:Hp) (D:Ends),Inv X pins σ H s->t D σ H->wpAny (model X.prog X.w) X.A (execs st X.env) (SP X pins D) X.xe s
theorem thn {α:Type}{t:Sem α}{Q Q':α->Shared->Prop}{M:Model}{A:Around}{E:Value->Shared->Prop}{s:Shared}(h:wpAny M A t Q E s) (hQ:∀ a s,Q a s->Q' a s):wpAny M A t Q' E s:=wpAny_mono h hQ fun _ _ x=>x
section
variable {X:Cx}
noncomputable def tVar (i:Nat):TE:=fun σ H Q=>∃ v,σ[i]?=some (some v)/\Q v H
noncomputable def tC (v:V):TE:=fun _ H Q=>Q v H
theorem pe_var {i:Nat}{x:Str}{pos:Pos}(hN:X.N[i]?=some x) (hv:Vis X.env.scope x) (hd:(x==("__debug__":Str))=false:=by decide) (hcd:(x==("__classdict__":Str))=false:=by decide):PE X (.Name x pos) (tVar i):=by
 intro pins s σ H Q I h;obtain ⟨v,e,h⟩:=h;obtain ⟨m,hn,hl⟩:=I.loc;obtain ⟨u,r,l⟩:=hl i x v hN e hv;have fin:EP X pins σ Q u s:=⟨v,H,I,r,h⟩;rcases l with ⟨hk,hm⟩|⟨hk,c,hc,hcell⟩
 ·exact wpAny_Name (wpAny_loadName_local I.ok.kind hk hn hm fin) hd
 ·rcases hk with hk|hk
  ·exact wpAny_Name (wpAny_loadName_cell I.ok.kind hk hc hcell fin) hd
  ·exact wpAny_Name (wpAny_loadName_free I.ok.kind hk hc hcell fin hcd) hd
theorem pe_int {i j pos}:PE X (.Constant (.int i) j pos) (tC (.int i)):=fun _ _ _ H _ I h=>wpAny_Constant_int ⟨.int i,H,I.tok _,⟨_,rfl⟩,h⟩
theorem pe_bl {b j pos}:PE X (.Constant (.bool b) j pos) (tC (.bl b)):=fun _ _ _ H _ I h=>Constant_bool ⟨.bl b,H,I,rfl,h⟩
theorem pe_non {j pos}:PE X (.Constant .none j pos) (tC .non):=fun _ _ _ H _ I h=>Constant_none ⟨.non,H,I,rfl,h⟩
theorem pe_str {x j pos}:PE X (.Constant (.str x) j pos) (tC (.str x)):=fun _ _ _ H _ I h=>Calls.Constant_str ⟨.str x,H,I.tok _,⟨_,rfl⟩,h⟩
noncomputable def Gl (X:Cx) (x:Str):Prop:=X.env.kindOf x=some .globalImplicit
theorem ld_glob {E:Value->Shared->Prop}{pins:List (Addr×Obj)}{s:Shared}{σ:St}{H:Hp}{x:Str}{u:Value}{pos:Pos}{Q:Value->Shared->Prop}(I:Inv X pins σ H s) (hg:Gl X x) (hm:X.mg x=some u) (h:Q u s)
  (hd:(x==("__debug__":Str))=false:=by decide):wpAny (model X.prog X.w) X.A (eval (.Name x pos) X.env) Q E s :=
 Calls.Name_function_global I.ok.kind hg (Calls.loadGlobal_global (by rw [I.ok.glob];exact I.mod.glob.keeps I.bk) hm h) hd
theorem ld_blt {E:Value->Shared->Prop}{pins:List (Addr×Obj)}{s:Shared}{σ:St}{H:Hp}{x:Str}{u:Value}{pos:Pos}{Q:Value->Shared->Prop}(I:Inv X pins σ H s) (hg:Gl X x) (hm:X.mg x=none) (hv:bootBuiltins x=some u) (h:Q u s)
  (hn:x ≠ "__name__":=by decide) (hd:(x==("__debug__":Str))=false:=by decide):wpAny (model X.prog X.w) X.A (eval (.Name x pos) X.env) Q E s:=by
 obtain ⟨mb,h1,h2⟩:=I.mod.blt;exact Calls.Name_function_global I.ok.kind hg (Calls.loadGlobal_builtin (by rw [I.ok.glob];exact I.mod.glob.keeps I.bk) hm (by rw [I.ok.blt];exact h1.keeps I.bk) ((h2 x hn).trans hv) h) hd
theorem pe_glob {x:Str}{v:V}{u:Value}{pos:Pos}(hg:Gl X x) (hm:X.mg x=some u) (r:RelV v u) (hd:(x==("__debug__":Str))=false:=by decide):PE X (.Name x pos) (tC v) :=
 fun _ _ _ H _ I h=>ld_glob I hg hm ⟨v,H,I,r,h⟩ hd
variable {a b:Expr}{ta tb:TE}{pos:Pos}
theorem RelV.none_iff {x:V}{v:Value}(r:RelV x v):(v==Value.none)=decide (x=.non):=by
 cases x with
 | non=>cases r;rfl
 | bl _=>cases r;rfl
 | int _=>obtain ⟨t,rfl⟩:=r;rfl
 | str _=>obtain ⟨t,rfl⟩:=r;rfl
 | byt _=>obtain ⟨t,rfl⟩:=r;rfl
 | flt _=>obtain ⟨t,rfl⟩:=r;rfl
 | ref _=>cases r;rfl
 | ty _=>cases r;rfl
variable {tA tB':TT}{rest:List Expr}
noncomputable def tAnd (t u:TT):TT:=fun σ H Q=>t σ H fun c H1=>if c=true then u σ H1 Q else Q false H1
noncomputable def tOr (t u:TT):TT:=fun σ H Q=>t σ H fun c H1=>if c=true then Q true H1 else u σ H1 Q
noncomputable def tNot (t:TT):TT:=fun σ H Q=>t σ H fun c H1=>Q (!c) H1
theorem pw_and1 (ha:PT X a tA):PW X (.BoolOp .And [a] pos) tA:=by
 intro wh pins s σ H Q I h;refine isTrue_and (thn (ha pins s σ H Q I h) fun c s1 e=>?_);cases c with
 | true=>exact isTrue_and_nil e
 | false=>exact e
theorem pw_or1 (ha:PT X a tA):PW X (.BoolOp .Or [a] pos) tA:=by
 intro wh pins s σ H Q I h;refine isTrue_or (thn (ha pins s σ H Q I h) fun c s1 e=>?_);cases c with
 | false=>exact isTrue_or_nil e
 | true=>exact e
theorem pw_and (ha:PT X a tA) (hb:PW X (.BoolOp .And (b::rest) pos) tB'):PW X (.BoolOp .And (a::b::rest) pos) (tAnd tA tB'):=by
 intro wh pins s σ H Q I h;refine isTrue_and (thn (ha pins s σ H _ I h) ?_);rintro c s1 ⟨H1,I1,q1⟩;cases c with
 | true=>exact hb wh pins s1 σ H1 Q I1 q1
 | false=>exact ⟨H1,I1,q1⟩
theorem pw_or (ha:PT X a tA) (hb:PW X (.BoolOp .Or (b::rest) pos) tB'):PW X (.BoolOp .Or (a::b::rest) pos) (tOr tA tB'):=by
 intro wh pins s σ H Q I h;refine isTrue_or (thn (ha pins s σ H _ I h) ?_);rintro c s1 ⟨H1,I1,q1⟩;cases c with
 | true=>exact ⟨H1,I1,q1⟩
 | false=>exact hb wh pins s1 σ H1 Q I1 q1
theorem pt_not (ha:PT X a tA):PT X (.UnaryOp .Not a pos) (tNot tA):=by
 intro pins s σ H Q I h;exact isTrue_not (ha pins s σ H (fun c H1=>Q (!c) H1) I h)
noncomputable def tAndV (ta tb:TE):TE:=fun σ H Q=>ta σ H fun x H1=>∃ c,x=.bl c/\if c=true then tb σ H1 Q else Q (.bl false) H1
noncomputable def tOrV (ta tb:TE):TE:=fun σ H Q=>ta σ H fun x H1=>∃ c,x=.bl c/\if c=true then Q (.bl true) H1 else tb σ H1 Q
noncomputable def tNotV (ta:TE):TE:=fun σ H Q=>ta σ H fun x H1=>∃ c,x=.bl c/\Q (.bl (!c)) H1
theorem pe_one {op}{t:TE}(h:PE X a t):PE X (.BoolOp op [a] pos) t:=fun pins s σ H Q I hw=>BoolOp_one (h pins s σ H Q I hw)
theorem pe_and (ha:PE X a ta) (hb:PE X (.BoolOp .And (b::rest) pos) tb):PE X (.BoolOp .And (a::b::rest) pos) (tAndV ta tb):=by
 intro pins s σ H Q I h;refine BoolOp_and (thn (ha pins s σ H _ I h) ?_);rintro v s1 ⟨x,H1,I1,r1,q1⟩;obtain ⟨c,rfl,q1⟩:=q1;cases r1;refine wpAny_truthy_bool ?_;cases c with
 | true=>exact hb pins s1 σ H1 Q I1 q1
 | false=>exact ⟨.bl false,H1,I1,rfl,q1⟩
theorem pe_or (ha:PE X a ta) (hb:PE X (.BoolOp .Or (b::rest) pos) tb):PE X (.BoolOp .Or (a::b::rest) pos) (tOrV ta tb):=by
 intro pins s σ H Q I h;refine BoolOp_or (thn (ha pins s σ H _ I h) ?_);rintro v s1 ⟨x,H1,I1,r1,q1⟩;obtain ⟨c,rfl,q1⟩:=q1;cases r1;refine wpAny_truthy_bool ?_;cases c with
 | false=>exact hb pins s1 σ H1 Q I1 q1
 | true=>exact ⟨.bl true,H1,I1,rfl,q1⟩
theorem pe_not (ha:PE X a ta):PE X (.UnaryOp .Not a pos) (tNotV ta):=by
 intro pins s σ H Q I h;refine UnaryOp_ (thn (ha pins s σ H _ I h) ?_);rintro v s1 ⟨x,H1,I1,r1,q1⟩;obtain ⟨c,rfl,q1⟩:=q1;cases r1;exact not_of (wpAny_truthy_bool ⟨.bl (!c),H1,I1,rfl,q1⟩)
noncomputable def tIf (t:TT) (ta tb:TE):TE:=fun σ H Q=>t σ H fun c H1=>if c=true then ta σ H1 Q else tb σ H1 Q
theorem pe_ifExp {c:Expr}(hc:PT X c tA) (ha:PE X a ta) (hb:PE X b tb):PE X (.IfExp c a b pos) (tIf tA ta tb):=by
 intro pins s σ H Q I h;refine wpAny_IfExp (thn (hc pins s σ H _ I h) ?_);rintro d s1 ⟨H1,I1,q1⟩;cases d with
 | true=>exact ha pins s1 σ H1 Q I1 q1
 | false=>exact hb pins s1 σ H1 Q I1 q1
end
noncomputable def SqL (K:PySem.W.Frag) (H:Hp) (a:Addr) (xs:List V):Prop :=
 Rd H a (.lst xs) \/
  ∃ (o:Obj) (its:Array Value) (n:Nat),K.lookup a=some o/\o.cls=.type "list"/\o.dict=none/\o.data=.seq its n/\its.size<=sizeLine/\Vals xs its.toList
noncomputable def SqT (K:PySem.W.Frag) (H:Hp) (a:Addr) (xs:List V):Prop :=
 Rd H a (.tup xs) \/
  ∃ (o:Obj) (its:Array Value) (n:Nat),K.lookup a=some o/\o.cls=.type "tuple"/\o.dict=none/\o.data=.seq its n/\its.size<=sizeLine/\Vals xs its.toList
noncomputable def absV:Value->Option V
 | .none=>some .non
 | .bool b=>some (.bl b)
 | .int i _=>some (.int i)
 | .str x _=>some (.str x)
 | .bytes b _=>some (.byt b)
 | .float b _=>some (.flt b)
 | .ref a=>some (.ref a)
 | .type n=>some (.ty n)
 | _=>none
theorem RelV.abs {x:V}{u:Value}(r:RelV x u):absV u=some x:=by
 cases x with
 | non=>cases r;rfl
 | bl _=>cases r;rfl
 | int _=>obtain ⟨t,rfl⟩:=r;rfl
 | str _=>obtain ⟨t,rfl⟩:=r;rfl
 | byt _=>obtain ⟨t,rfl⟩:=r;rfl
 | flt _=>obtain ⟨t,rfl⟩:=r;rfl
 | ref _=>cases r;rfl
 | ty _=>cases r;rfl
theorem RelV.inj {x y:V}{u:Value}(r:RelV x u) (q:RelV y u):x=y:=Option.some.inj (r.abs.symm.trans q.abs)
theorem Vals.inj {xs ys:List V}{us:List Value}(a:Vals xs us) (b:Vals ys us):xs=ys:=by
 induction a generalizing ys with
 | nil=>cases b;rfl
 | cons r t ih =>
  cases b with
  | cons r' t'=>rw [r.inj r',ih t']
section
variable {X:Cx}{pins:List (Addr×Obj)}{σ:St}{H:Hp}{s:Shared}{a:Addr}{xs ys:List V}
theorem Inv.list (I:Inv X pins σ H s) (h:SqL X.K H a xs):∃ its:List Value,Vals xs its/\PlainL s.heap a its.toArray/\xs.length<=sizeLine:=by
 rcases h with h|⟨o,its,n,hk,hc,hd,hs,hz,r⟩
 ·obtain ⟨z,its,n,r,e⟩:=h.ok I.hok;exact ⟨its,r,⟨_,n,e,rfl,rfl,rfl⟩,z⟩
 ·refine ⟨its.toList,r,⟨o,n,I.kIn a o hk,hc,hd,by simpa using hs⟩,?_⟩;have e:=r.length;simp only [Array.length_toList] at e;omega
theorem Inv.tuple (I:Inv X pins σ H s) (h:SqT X.K H a xs):∃ its:List Value,Vals xs its/\IsTup s.heap a its.toArray/\xs.length<=sizeLine:=by
 rcases h with h|⟨o,its,n,hk,hc,hd,hs,hz,r⟩
 ·obtain ⟨z,its,r,p⟩:=h.ok I.hok;exact ⟨its,r,p.to,z⟩
 ·refine ⟨its.toList,r,⟨o,I.kIn a o hk,hc,n,by simpa using hs⟩,?_⟩;have e:=r.length;simp only [Array.length_toList] at e;omega
theorem Inv.tupleP (I:Inv X pins σ H s) (h:SqT X.K H a xs):∃ its:List Value,Vals xs its/\TupP s.heap a its.toArray/\xs.length<=sizeLine:=by
 rcases h with h|⟨o,its,n,hk,hc,hd,hs,hz,r⟩
 ·obtain ⟨z,its,r,p⟩:=h.ok I.hok;exact ⟨its,r,p,z⟩
 ·refine ⟨its.toList,r,⟨o,I.kIn a o hk,hc,hd,n,by simpa using hs⟩,?_⟩;have e:=r.length;simp only [Array.length_toList] at e;omega
theorem Inv.list_inj (I:Inv X pins σ H s) (h:SqL X.K H a xs) (h':SqL X.K H a ys):xs=ys:=by
 obtain ⟨its,r,⟨o,n,e,_,_,d⟩,_⟩:=I.list h;obtain ⟨its',r',⟨o',n',e',_,_,d'⟩,_⟩:=I.list h';rw [e] at e';cases e';rw [d] at d';injection d' with d1 _
 have:its=its':=by simpa using congrArg Array.toList d1
 subst this;exact r.inj r'
theorem Inv.tuple_inj (I:Inv X pins σ H s) (h:SqT X.K H a xs) (h':SqT X.K H a ys):xs=ys:=by
 obtain ⟨its,r,⟨o,e,_,n,d⟩,_⟩:=I.tuple h;obtain ⟨its',r',⟨o',e',_,n',d'⟩,_⟩:=I.tuple h';rw [e] at e';cases e';rw [d] at d';injection d' with d1 _
 have:its=its':=by simpa using congrArg Array.toList d1
 subst this;exact r.inj r'
end
noncomputable abbrev Cx.wish (X:Cx) (E:Value->Shared->Prop):Cx:={ X with xe:=E }
noncomputable abbrev Cx.nox (X:Cx):Cx:=X.wish fun _ _=>False
theorem Cx.Ok.wish {X:Cx}(ok:X.Ok) (E:Value->Shared->Prop):(X.wish E).Ok :=
 ⟨ok.mod,ok.kind,ok.glob,ok.blt,ok.above,ok.inj,ok.has,ok.cab,ok.hd,ok.frames,ok.stk,ok.exf,ok.bs,ok.bsz,ok.noex,ok.exfs,ok.funs,ok.frf⟩
theorem Cx.Ok.unwish {X:Cx}{E:Value->Shared->Prop}(ok:(X.wish E).Ok):X.Ok :=
 ⟨ok.mod,ok.kind,ok.glob,ok.blt,ok.above,ok.inj,ok.has,ok.cab,ok.hd,ok.frames,ok.stk,ok.exf,ok.bs,ok.bsz,ok.noex,ok.exfs,ok.funs,ok.frf⟩
section
variable {X:Cx}{pins:List (Addr×Obj)}{σ:St}{H:Hp}{s:Shared}{E:Value->Shared->Prop}
theorem Inv.wish (I:Inv X pins σ H s) (E:Value->Shared->Prop):Inv (X.wish E) pins σ H s:=⟨I.ok.wish E,I.os,I.bare,I.base,I.loc,I.cell,I.free,I.freeC,I.pin,I.hok,I.len⟩
theorem Inv.unwish (I:Inv (X.wish E) pins σ H s):Inv X pins σ H s:=⟨I.ok.unwish,I.os,I.bare,I.base,I.loc,I.cell,I.free,I.freeC,I.pin,I.hok,I.len⟩
theorem SP.unwish {D:Ends}{f:Flow}{s':Shared}(h:SP (X.wish E) pins D f s'):SP X pins D f s':=by
 cases f with
 | next=>obtain ⟨σ',H',I,q⟩:=h;exact ⟨σ',H',I.unwish,q⟩
 | brk=>obtain ⟨σ',H',I,q⟩:=h;exact ⟨σ',H',I.unwish,q⟩
 | cont=>obtain ⟨σ',H',I,q⟩:=h;exact ⟨σ',H',I.unwish,q⟩
 | ret u=>obtain ⟨v,σ',H',I,r,q⟩:=h;exact ⟨v,σ',H',I.unwish,r,q⟩
theorem PSs.nox {st:List Stmt}{t:TS}(h:PSs X.nox st t):PSs X st t:=fun pins s σ H D I hw =>
 wpAny_mono (h pins s σ H D (I.wish _) hw) (fun _ _ q=>q.unwish) fun _ _ z=>False.elim z
end
section
variable {X:Cx}{st:Stmt}{rest:List Stmt}{t u:TS}{e:Expr}{te:TE}{pos:Pos}
noncomputable def tNext:TS:=fun D σ H=>D.nx σ H
noncomputable def tSeq (t u:TS):TS:=fun D σ H=>t { D with nx:=u D } σ H
theorem pss_nil:PSs X [] tNext:=fun _ _ σ H _ I h=>wpAny_execs_nil ⟨σ,H,I,h⟩
theorem pss_cons (h1:PS X st t) (h2:PSs X rest u):PSs X (st::rest) (tSeq t u):=by
 intro pins s σ H D I h;refine wpAny_execs_cons (thn (h1 pins s σ H { D with nx:=u D } I h) fun f s1 q=>?_);cases f with
 | next =>
  obtain ⟨σ',H',I',q⟩:=q;exact h2 pins s1 σ' H' D I' q
 | ret v=>exact q
 | brk=>exact q
 | cont=>exact q
noncomputable def tBreak:TS:=fun D σ H=>D.bk σ H
noncomputable def tCont:TS:=fun D σ H=>D.ct σ H
theorem ps_pass:PS X (.Pass pos) tNext:=fun _ _ σ H _ I h=>wpAny_Pass ⟨σ,H,I,h⟩
theorem ps_break:PS X (.Break pos) tBreak:=fun _ _ σ H _ I h=>wpAny_Break ⟨σ,H,I,h⟩
theorem ps_continue:PS X (.Continue pos) tCont:=fun _ _ σ H _ I h=>wpAny_Continue ⟨σ,H,I,h⟩
theorem Inv.quiet {pins:List (Addr×Obj)}{σ:St}{H:Hp}{s:Shared}(I:Inv X pins σ H s):interactive X.env=false:=by simp [interactive,I.ok.kind]
noncomputable def tDrop (te:TE):TS:=fun D σ H=>te σ H fun _ H1=>D.nx σ H1
theorem ps_expr (he:PE X e te) (hs:swapsWith e none pos.line X.env=pure false:=by rfl):PS X (.Expr e pos) (tDrop te):=by
 intro pins s σ H D I h;exact wpAny_Expr_any (thn (he pins s σ H _ I h) fun v s1 ⟨x,H1,I1,r1,q1⟩=>⟨σ,H1,I1,q1⟩) I.quiet hs
noncomputable def tRet (te:TE):TS:=fun D σ H=>te σ H D.rt
theorem ps_ret (he:PE X e te):PS X (.Return (some e) pos) (tRet te):=by
 intro pins s σ H D I h;refine wpAny_Return_some (thn (he pins s σ H _ I h) ?_);rintro v s1 ⟨x,H1,I1,r1,q1⟩;exact ⟨x,σ,H1,I1,r1,q1⟩
noncomputable def tRetN:TS:=fun D _ H=>D.rt .non H
theorem ps_retN:PS X (.Return none pos) tRetN:=fun _ _ σ H _ I h=>wpAny_Return_none ⟨.non,σ,H,I,rfl,h⟩
noncomputable def tIfS (c:TT) (t u:TS):TS:=fun D σ H=>c σ H fun b H1=>if b=true then t D σ H1 else u D σ H1
theorem ps_if {c:Expr}{a b:List Stmt}{tc:TT}(hc:PT X c tc) (ha:PSs X a t) (hb:PSs X b u):PS X (.If c a b pos) (tIfS tc t u):=by
 intro pins s σ H D I h;refine wpAny_If (thn (hc pins s σ H _ I h) ?_);rintro d s1 ⟨H1,I1,q1⟩;cases d with
 | true=>exact ha pins s1 σ H1 D I1 q1
 | false=>exact hb pins s1 σ H1 D I1 q1
end
noncomputable abbrev TG:=V->St->Hp->(St->Hp->Prop)->Prop
noncomputable abbrev TGs:=List V->St->Hp->(St->Hp->Prop)->Prop
noncomputable def PG (X:Cx) (target:Expr) (t:TG):Prop :=
 ∀ (pins:List (Addr×Obj)) (s:Shared) (σ:St) (H:Hp) (v:V) (u:Value) (Q:St->Hp->Prop),Inv X pins σ H s->RelV v u->t v σ H Q ->
  wpAny (model X.prog X.w) X.A (assign target X.env u) (fun _ s'=>∃ σ' H',Inv X pins σ' H' s'/\Q σ' H') X.xe s
noncomputable def PGs (X:Cx) (ts:List Expr) (t:TGs):Prop :=
 ∀ (pins:List (Addr×Obj)) (s:Shared) (σ:St) (H:Hp) (vs:List V) (us:List Value) (Q:St->Hp->Prop),Inv X pins σ H s->Vals vs us->t vs σ H Q ->
  wpAny (model X.prog X.w) X.A (assignInOrder ((assignEach ts X.env).map (·.2)) us) (fun _ s'=>∃ σ' H',Inv X pins σ' H' s'/\Q σ' H') X.xe s
noncomputable abbrev TSet:=V->V->V->Hp->(Hp->Prop)->Prop
noncomputable def PSet (X:Cx) (t:TSet):Prop :=
 ∀ (pins:List (Addr×Obj)) (s:Shared) (σ:St) (H:Hp) (o i v:V) (ov iv u:Value) (Q:Hp->Prop),Inv X pins σ H s->RelV o ov->RelV i iv->RelV v u->t o i v H Q ->
  wpAny (model X.prog X.w) X.A (setItem ov iv u) (fun _ s'=>∃ H',Inv X pins σ H' s'/\Q H') X.xe s
section
variable {X:Cx}{pos:Pos}
noncomputable def gName (i:Nat):TG:=fun v σ H Q=>Q (σ.set i (some v)) H
theorem pg_name {i:Nat}{x:Str}(hN:X.N.Nodup) (hi:X.N[i]?=some x) (hx:Loc X.env.scope x) (hf:X.fn x=true\/X.env.scope.names.lookup x=some .local:=by first | exact .inl rfl | exact .inr rfl | assumption):PG X (.Name x pos) (gName i):=by
 intro pins s σ H v u Q I r h;exact wpAny_assign_Name (store_ok I hN hi hx r (fun s' I'=>⟨_,H,I',h⟩) hf)
noncomputable def gNil:TGs:=fun vs σ H Q=>vs=[]/\Q σ H
noncomputable def gCons (t:TG) (u:TGs):TGs:=fun vs σ H Q=>∃ v r,vs=v::r/\t v σ H fun σ' H'=>u r σ' H' Q
theorem pgs_nil:PGs X [] gNil:=by
 intro pins s σ H vs us Q I r h;obtain ⟨e,h⟩:=h;subst e;cases r;exact assignInOrder_nil ⟨σ,H,I,h⟩
theorem pgs_cons {e:Expr}{es:List Expr}{t:TG}{u:TGs}(h1:PG X e t) (h2:PGs X es u)
  (hs:(assignEach (e::es) X.env).map (·.2)=assign e X.env::(assignEach es X.env).map (·.2):=by rfl):PGs X (e::es) (gCons t u):=by
 intro pins s σ H vs us Q I r h;obtain ⟨v,vr,e1,h⟩:=h;subst e1;cases r with
 | cons r rr =>
  rw [hs];refine assignInOrder_cons (thn (h1 pins s σ H _ _ _ I r h) ?_);rintro _ s1 ⟨σ1,H1,I1,q1⟩;exact h2 pins s1 σ1 H1 _ _ Q I1 rr q1
noncomputable def gTup (K:PySem.W.Frag) (n:Nat) (t:TGs):TG:=fun v σ H Q=>∃ a xs,v=.ref a/\SqT K H a xs/\xs.length=n/\t xs σ H Q
theorem pg_tup {es:List Expr}{k:Nat}{t:TGs}{n:Nat}(hc:X.calm=true) (h:PGs X es t)
  (hn:(assignEach es X.env).length=n:=by rfl) (hst:(assignEach es X.env).findIdx? (·.1)=none:=by rfl):PG X (.Tuple es k pos) (gTup X.K n t):=by
 intro pins s σ H v u Q I r hw;obtain ⟨a,xs,e1,hq,hl,hw⟩:=hw;subst e1;cases r;obtain ⟨its,rv,ht,hz⟩:=I.tuple hq;refine assign_Tuple_tuple (I.ok.hd hc) ht (by simp [hn,← hl,rv.length]) hst fun h' hx=>?_
 have I1:Inv X pins σ H { s with heap:=h' }:=I.kept (t':=s.toks) fun b o e=>hx b o (Nat.ne_of_lt (Heap.lt_size e)) e
 exact h pins _ σ H xs _ Q I1 (by simpa using rv) hw
noncomputable def gSub (to ti:TE) (t:TSet):TG:=fun v σ H Q=>to σ H fun o H1=>ti σ H1 fun i H2=>t o i v H2 fun H3=>Q σ H3
theorem pg_sub {o i:Expr}{to ti:TE}{t:TSet}(ho:PE X o to) (hi:PE X i ti) (hs:PSet X t)
  (ha:∀ v,assign (.Subscript o i pos) X.env v=(do
   let ov ← holding [v] (eval o X.env)
   let iv ← holding [v,ov] (eval i X.env)
   standAt pos
   holding [v,ov,iv] (setItem ov iv v)
   release [v,ov,iv] []):=by intro _;rfl):PG X (.Subscript o i pos) (gSub to ti t):=by
 intro pins s σ H v u Q I r h;rw [ha];refine wpAny_bind (wpAny_holding (thn (ho pins s σ H _ I h) ?_));rintro ov s1 ⟨x,H1,I1,r1,q1⟩;refine wpAny_bind (wpAny_holding (thn (hi pins s1 σ H1 _ I1 q1) ?_));rintro iv s2 ⟨y,H2,I2,r2,q2⟩;refine wpAny_bind (wpAny_standAt (wpAny_bind (wpAny_holding (thn (hs pins s2 σ H2 x y v ov iv u _ I2 r1 r2 r q2) ?_))));rintro _ s3 ⟨H3,I3,q3⟩;exact wpAny_release ⟨σ,H3,I3,q3⟩
noncomputable def tAsg (te:TE) (g:TG):TS:=fun D σ H=>te σ H fun x H1=>g x σ H1 D.nx
theorem ps_asg {tg e:Expr}{te:TE}{g:TG}(he:PE X e te) (hg:PG X tg g) (hs:swapsWithSole [tg] e pos.line X.env=pure false:=by rfl) (hw:swappedStores [tg] e X.env=pure none:=by rfl)
  (h1:(assignEach [tg] X.env).map (·.2)=[assign tg X.env]:=by rfl):PS X (.Assign [tg] e pos) (tAsg te g):=by
 intro pins s σ H D I h;refine wpAny_Assign_stores (thn (he pins s σ H _ I h) ?_) hs hw;rintro v s1 ⟨x,H1,I1,r1,q1⟩;rw [h1];exact thn (hg pins s1 σ H1 x v _ I1 r1 q1) fun _ s2 q=>q
noncomputable def tPar (i j:Nat) (ta:TA):TS:=fun D σ H=>ta σ H fun vs H1=>∃ v w,vs=[v,w]/\D.nx ((σ.set i (some v)).set j (some w)) H1
theorem ps_par {i j:Nat}{x y:Str}{a b:Expr}{ta:TA}{px py pt:Pos}{kt k2 pt2}(hc:X.calm=true) (hN:X.N.Nodup) (hi:X.N[i]?=some x) (hj:X.N[j]?=some y) (hij:i≠j)
  (hx:X.env.scope.names.lookup x=some .local) (hy:X.env.scope.names.lookup y=some .local) (ha:PA X [a,b] ta)
  (hw:swappedStores [.Tuple [.Name x px,.Name y py] kt pt] (.Tuple [a,b] k2 pt2) X.env=pure (some [x,y]))
  (hs:swapsWithSole [.Tuple [.Name x px,.Name y py] kt pt] (.Tuple [a,b] k2 pt2) pos.line X.env=pure false:=by rfl) :
  PS X (.Assign [.Tuple [.Name x px,.Name y py] kt pt] (.Tuple [a,b] k2 pt2) pos) (tPar i j ta):=by
 intro pins s σ H D I h;rw [exec_Assign_arm];refine wpAny_bind (wpAny_standAt ?_);rw [hs];refine wpAny_bind (wpAny_pure ?_);rw [if_neg (by decide)];refine wpAny_bind (Tuple_ (thn (ha _ pins s σ H _ I h) ?_));rintro us s1 ⟨vs,H1,I1,r1,q1⟩;obtain ⟨v,w,e1,q1⟩:=q1;subst e1;obtain ⟨u1,u2,rfl,rv,rw'⟩:∃ u1 u2,us=[u1,u2]/\RelV v u1/\RelV w u2:=by
  cases r1 with
  | cons p q =>
   cases q with
   | cons p' q' =>
    cases q';exact ⟨_,_,rfl,p,p'⟩
 refine wpAny_newObj_type ?_ (by show 2<=sizeLine;decide)
 have I2:Inv X pins σ H1 { s1 with heap:=s1.heap.push { cls:=.type "tuple",data:=.seq [u1,u2].toArray } }:=I1.kept (t':=s1.toks) fun b o e=>Heap.get?_push_of_some _ e
 rw [hw];refine wpAny_bind (wpAny_pure ?_)
 show wpAny (model X.prog X.w) X.A (do rule "assign.swapped-stores";let items ← unpackItems (.ref s1.heap.objs.size) 2 none;assignInOrder [fun v=>bindName X.env y v,fun v=>bindName X.env x v] items.reverse;pure Flow.next) _ _ _;refine wpAny_bind (wpAny_rule (wpAny_bind (unpackItems_tuple (items:=#[u1,u2]) (I.ok.hd hc) (IsTup.new s1.heap _) fun h' hx'=>?_)));have I3:=I2.kept (h':=h') (t':=s1.toks) fun b o e=>hx' b o (Nat.ne_of_lt (Heap.lt_size e)) e
 show wpAny _ _ (assignInOrder [fun v=>bindName X.env y v,fun v=>bindName X.env x v] [u2,u1] >>= fun _=>pure Flow.next) _ _ _;refine wpAny_bind (assignInOrder_cons (wpAny_bindName (store_ok I3 hN hj (.inl hy) rw' (fun s2 I4=>?_) (.inr hy))));refine assignInOrder_cons (wpAny_bindName (store_ok I4 hN hi (.inl hx) rv (fun s3 I5=>assignInOrder_nil (wpAny_pure ?_)) (.inr hx)));rw [List.set_comm _ _ (Ne.symm hij)] at I5;exact ⟨_,H1,I5,q1⟩
end
section
variable {X:Cx}{pos:Pos}
end
structure It where
 go:Nat->Hp->Prop
 yld:Nat->Hp->V->Hp->Prop
 stop:Nat->Hp->Prop
noncomputable def FpOk (X:Cx) (pins:List (Addr×Obj)) (H:Hp) (b:Addr):Prop :=
 H b=none/\b≠X.env.locals/\b ∉ X.fs/\(b∈X.ex\/X.s₀.heap.objs.size<=b)/\(∀ x c,X.env.cells.lookup x=some c->c≠b)/\∀ p∈X.pn++pins,p.1≠b
theorem Inv.fpOk {X:Cx}{pins:List (Addr×Obj)}{σ:St}{H H':Hp}{s:Shared}{b:Addr}(I:Inv X pins σ H s) (hb:s.heap.objs.size<=b) (hn:H' b=none):FpOk X pins H' b:=by
 refine ⟨hn,Nat.ne_of_gt (Nat.lt_of_lt_of_le I.lt hb),I.nofs hb,.inr (Nat.le_trans I.sz hb),fun x c e z=>?_,fun p hp z=>?_⟩
 ·obtain ⟨v,q⟩:=I.cell x c e;exact absurd (Nat.lt_of_lt_of_le q.lt (by rw [z];exact hb)) (Nat.lt_irrefl _)
 ·exact absurd (Nat.lt_of_lt_of_le (Heap.lt_size (I.pin p hp).1) (by rw [z];exact hb)) (Nat.lt_irrefl _)
structure Turn (P:Program) (w:World) (K:PySem.W.Frag) (tg:Expr) (J:It) (fp:List Addr) (it:Addr) (tn:Nat->Heap->Prop):Prop where
 mem:it∈fp
 obj:∀ i h,tn i h->∀ b∈fp,∃ o,h.get? b=some o/\∀ v,o.data≠.cell v
 keep:∀ i h h',tn i h->(∀ b∈fp,∀ o,h.get? b=some o->h'.get? b=some o)->tn i h'
 item:∀ (X:Cx),X.prog=P->X.w=w->X.K=K->X.calm=true->∀ (i:Nat) (pins:List (Addr×Obj)) (s:Shared) (σ:St) (H:Hp) (E:Value->Shared->Prop),Inv X pins σ H s->(∀ b∈fp,FpOk X pins H b)->tn i s.heap->J.go i H ->
  wpAny (model P w) X.A (pyNext (.ref it)) (fun r s1=>∃ u,r=some u /\
   wpAny (model P w) X.A (letOwnedTupleGo tg (.ref it) u) (fun _ s2=>∃ x H',Inv X pins σ H' s2/\RelV x u/\J.yld i H x H'/\tn (i+1) s2.heap/\∀ b∈fp,H' b=none) E s1) E s
 done:∀ (X:Cx),X.prog=P->X.w=w->X.K=K->X.calm=true->∀ (i:Nat) (pins:List (Addr×Obj)) (s:Shared) (σ:St) (H:Hp) (E:Value->Shared->Prop),Inv X pins σ H s->(∀ b∈fp,FpOk X pins H b)->tn i s.heap->J.stop i H ->
  wpAny (model P w) X.A (pyNext (.ref it)) (fun r s1=>r=none/\Inv X pins σ H s1) E s
 self:∀ (A:Around) (i:Nat) (s:Shared) (Q:Value->Shared->Prop) (E:Value->Shared->Prop),tn i s.heap->Q (.ref it) s->wpAny (model P w) A (pyIter (.ref it)) Q E s
noncomputable abbrev TI:=St->Hp->(It->Hp->Prop)->Prop
noncomputable def PIE (X:Cx) (pins:List (Addr×Obj)) (σ:St) (tg:Expr) (R:It->Hp->Prop) (itv:Value) (s2:Shared):Prop :=
 ∃ (it:Addr) (fp:List Addr) (tn:Nat->Heap->Prop) (J:It) (H':Hp),itv=.ref it/\Inv X pins σ H' s2/\Turn X.prog X.w X.K tg J fp it tn/\tn 0 s2.heap/\(∀ b∈fp,FpOk X pins H' b)/\R J H'
noncomputable def PI (X:Cx) (tg iter:Expr) (wi:TI):Prop :=
 ∀ (pins:List (Addr×Obj)) (s:Shared) (σ:St) (H:Hp) (R:It->Hp->Prop),Inv X pins σ H s->wi σ H R ->
  wpAny (model X.prog X.w) X.A (eval iter X.env) (fun v s1=>wpAny (model X.prog X.w) X.A (pyIter v) (PIE X pins σ tg R) X.xe s1) X.xe s
theorem go_of {M:Model}{A:Around}{E:Value->Shared->Prop}{s:Shared}{tg:Expr}{it:Addr}{u:Value}{o:Obj}{n:String}{vs:Array Value}{Q:Unit->Shared->Prop}(ho:s.heap.get? it=some o) (hc:o.cls=.type n) (hd:o.data=.fields vs)
    (hn:["enumerate", "zip", "dict_itemiterator", "dict_reverseitemiterator", "odict_iterator", "itertools.zip_longest", "itertools.pairwise"].contains n=false) (hQ:Q () s):wpAny M A (letOwnedTupleGo tg (.ref it) u) Q E s:=by
  unfold letOwnedTupleGo;cases tg <;> first
    | exact wpAny_pure hQ
    | (cases u <;> first
        | exact wpAny_pure hQ
        | (refine wpAny_bind (wpAny_load ho ?_)
           rw [hc,hd]
           show wpAny M A (if (["enumerate", "zip", "dict_itemiterator", "dict_reverseitemiterator", "odict_iterator", "itertools.zip_longest", "itertools.pairwise"].contains n&&vs[0]?==some (rawInt _))=true then _ else _) Q E s;rw [if_neg (by intro h;rw [hn,Bool.false_and] at h;cases h)]
           exact wpAny_pure hQ))
noncomputable def Itl (K:PySem.W.Frag) (a:Addr):It :=
 ⟨fun i H=>∃ xs x,SqL K H a xs/\xs[i]?=some x,fun i H x H'=>H'=H/\∀ xs,SqL K H a xs->xs[i]?=some x,fun i H=>∃ xs,SqL K H a xs/\xs.length<=i⟩
noncomputable def Itt (K:PySem.W.Frag) (a:Addr):It :=
 ⟨fun i H=>∃ xs x,SqT K H a xs/\xs[i]?=some x,fun i H x H'=>H'=H/\∀ xs,SqT K H a xs->xs[i]?=some x,fun i H=>∃ xs,SqT K H a xs/\xs.length<=i⟩
noncomputable def Itr (lo:Int) (n:Nat):It:=⟨fun i _=>i < n,fun i H x H'=>H'=H/\x=.int (lo+i),fun i _=>n<=i⟩
theorem turn_list {P:Program}{w:World}{K:PySem.W.Frag}{tg:Expr}(a it:Addr):Turn P w K tg (Itl K a) [it] it (fun i h=>h.IsListIter it a i) where
 mem:=by simp
 obj:=fun i h st b hb=>by
  have e:b=it:=by simpa using hb
  subst e;obtain ⟨o,e,c,d⟩:=st;exact ⟨o,e,fun v z=>by rw [d] at z;cases z⟩
 keep:=fun i h h' st k=>st.at fun o e=>k it (by simp) o e
 item:=by
  intro X hP hw hK hc i pins s σ H E I hf st hg;subst hP hw hK;obtain ⟨xs,x,hq,hx⟩:=hg;obtain ⟨its,rv,p,hz⟩:=I.list hq;obtain ⟨u,hu,ru⟩:=rv.get hx;obtain ⟨f0,f1,f2,f3,f4,f5⟩:=hf it (by simp);refine wpAny_pyNext_list_item st p.isList (x:=u) (by simpa using hu) fun h' st' sb=>?_
  have I1:Inv X pins σ H { s with heap:=h' }:=I.turned (t':=s.toks) (fun b o hb e=>(sb.2 b hb).trans e) f0 f1 f3 f4 f5;obtain ⟨o,e,c,d⟩:=id st';exact ⟨u,rfl,go_of (s:={ s with heap:=h' }) e c d (by decide) ⟨x,H,I1,ru,⟨rfl,fun ys hy=>by rw [I.list_inj hy hq];exact hx⟩,st',fun b hb=>(hf b hb).1⟩⟩
 done:=by
  intro X hP hw hK hc i pins s σ H E I hf st hg;subst hP hw hK;obtain ⟨xs,hq,hx⟩:=hg;obtain ⟨its,rv,p,hz⟩:=I.list hq;obtain ⟨f0,f1,f2,f3,f4,f5⟩:=hf it (by simp);have hl:=rv.length;exact wpAny_pyNext_list_end (I.ok.hd hc) st p.isList (by simp;omega) fun h' eb=>⟨rfl,I.turned (t':=s.toks) (fun b o hb e=>eb b o hb e) f0 f1 f3 f4 f5⟩
 self:=fun _ _ _ _ _ st h=>wpAny_pyIter_listiter st h
theorem turn_tuple {P:Program}{w:World}{K:PySem.W.Frag}{tg:Expr}(a it:Addr):Turn P w K tg (Itt K a) [it] it (fun i h=>h.IsTupleIter it a i) where
 mem:=by simp
 obj:=fun i h st b hb=>by
  have e:b=it:=by simpa using hb
  subst e;obtain ⟨o,e,c,d⟩:=st;exact ⟨o,e,fun v z=>by rw [d] at z;cases z⟩
 keep:=fun i h h' st k=>st.at fun o e=>k it (by simp) o e
 item:=by
  intro X hP hw hK hc i pins s σ H E I hf st hg;subst hP hw hK;obtain ⟨xs,x,hq,hx⟩:=hg;obtain ⟨its,rv,p,hz⟩:=I.tuple hq;obtain ⟨u,hu,ru⟩:=rv.get hx;obtain ⟨f0,f1,f2,f3,f4,f5⟩:=hf it (by simp);refine wpAny_pyNext_tuple_item st (show s.heap.IsTuple a its.toArray from p) (x:=u) (by simpa using hu) fun h' st' sb=>?_
  have I1:Inv X pins σ H { s with heap:=h' }:=I.turned (t':=s.toks) (fun b o hb e=>(sb.2 b hb).trans e) f0 f1 f3 f4 f5;obtain ⟨o,e,c,d⟩:=id st';exact ⟨u,rfl,go_of (s:={ s with heap:=h' }) e c d (by decide) ⟨x,H,I1,ru,⟨rfl,fun ys hy=>by rw [I.tuple_inj hy hq];exact hx⟩,st',fun b hb=>(hf b hb).1⟩⟩
 done:=by
  intro X hP hw hK hc i pins s σ H E I hf st hg;subst hP hw hK;obtain ⟨xs,hq,hx⟩:=hg;obtain ⟨its,rv,p,hz⟩:=I.tuple hq;obtain ⟨f0,f1,f2,f3,f4,f5⟩:=hf it (by simp);have hl:=rv.length;exact wpAny_pyNext_tuple_end (I.ok.hd hc) st (show s.heap.IsTuple a its.toArray from p) (by simp;omega) fun h' eb=>⟨rfl,I.turned (t':=s.toks) (fun b o hb e=>eb b o hb e) f0 f1 f3 f4 f5⟩
 self:=fun _ _ _ _ _ st h=>wpAny_pyIter_tupleiter st h
theorem turn_range {P:Program}{w:World}{K:PySem.W.Frag}{tg:Expr}(it:Addr) (lo:Int) (n:Nat):Turn P w K tg (Itr lo n) [it] it (fun i h=>IsRangeIter h it (lo+(i:Nat) * 1) ((n:Int) - (i:Nat)) 1) where
 mem:=by simp
 obj:=fun i h st b hb=>by
  have e:b=it:=by simpa using hb
  subst e
  exact ⟨_,st,fun v z=>by
   have z':Data.fields _=Data.cell v:=z
   cases z'⟩
 keep:=fun i h h' st k=>k it (by simp) _ st
 item:=by
  intro X hP hw hK hc i pins s σ H E I hf st hg;subst hP hw hK;obtain ⟨f0,f1,f2,f3,f4,f5⟩:=hf it (by simp);have W:=Walks.range (prog:=X.prog) (w:=X.w) (I.ok.hd hc) it lo 1 n;refine W.item i s _ _ hg st fun v h' tk hv st' kk=>?_
  obtain ⟨t,rfl⟩:=hv;have I1:Inv X pins σ H { s with heap:=h',toks:=tk }:=I.turned (fun b o hb e=>kk b o (by simpa using hb) e) f0 f1 f3 f4 f5
  refine ⟨_,rfl,go_of (s:={ s with heap:=h',toks:=tk }) (n := "range_iterator") st' rfl rfl (by decide) ⟨.int (lo+i),H,I1,⟨t,?_⟩,⟨rfl,rfl⟩,st',fun b hb=>(hf b hb).1⟩⟩;rw [Int.mul_one]
 done:=by
  intro X hP hw hK hc i pins s σ H E I hf st hg;subst hP hw hK;obtain ⟨f0,f1,f2,f3,f4,f5⟩:=hf it (by simp);exact wpAny_pyNext_range_end (I.ok.hd hc) st (by have:n<=i:=hg;omega) fun h' eb=>⟨rfl,I.turned (t':=s.toks) (fun b o hb e=>eb b o hb e) f0 f1 f3 f4 f5⟩
 self:=fun _ _ _ _ _ st h=>wpAny_pyIter_rangeiter st h
section
variable {X:Cx}{tg:Expr}
noncomputable def iList (K:PySem.W.Frag) (tl:TE):TI:=fun σ H R=>tl σ H fun x H1=>∃ a,x=.ref a/\(∃ xs,SqL K H1 a xs)/\R (Itl K a) H1
noncomputable def iTup (K:PySem.W.Frag) (tl:TE):TI:=fun σ H R=>tl σ H fun x H1=>∃ a,x=.ref a/\(∃ xs,SqT K H1 a xs)/\R (Itt K a) H1
theorem pi_list {l:Expr}{tl:TE}(hl:PE X l tl):PI X tg l (iList X.K tl):=by
 intro pins s σ H R I h;refine thn (hl pins s σ H _ I h) ?_;rintro v s1 ⟨x,H1,I1,r1,q1⟩;obtain ⟨a,e,⟨xs,hq⟩,q⟩:=q1;subst e;cases r1;obtain ⟨its,rv,p,hz⟩:=I1.list hq;refine wpAny_pyIter_list p.isList ?_;refine ⟨s1.heap.objs.size,[s1.heap.objs.size],_,_,H1,rfl,I1.kept (t':=s1.toks) fun b o e=>Heap.get?_push_of_some _ e,turn_list a _,⟨_,Heap.get?_push_size _ rfl,rfl,rfl⟩,fun b hb=>?_,q⟩;have e:b=s1.heap.objs.size:=by simpa using hb
 subst e;exact I1.fpOk (Nat.le_refl _) (I1.hok.fresh (Nat.le_refl _))
theorem pi_tup {l:Expr}{tl:TE}(hl:PE X l tl):PI X tg l (iTup X.K tl):=by
 intro pins s σ H R I h;refine thn (hl pins s σ H _ I h) ?_;rintro v s1 ⟨x,H1,I1,r1,q1⟩;obtain ⟨a,e,⟨xs,hq⟩,q⟩:=q1;subst e;cases r1;obtain ⟨its,rv,p,hz⟩:=I1.tuple hq;refine wpAny_pyIter_tuple (show s1.heap.IsTuple a its.toArray from p) ?_;refine ⟨s1.heap.objs.size,[s1.heap.objs.size],_,_,H1,rfl,I1.kept (t':=s1.toks) fun b o e=>Heap.get?_push_of_some _ e,turn_tuple a _,⟨_,Heap.get?_push_size _ rfl,rfl,rfl⟩,fun b hb=>?_,q⟩;have e:b=s1.heap.objs.size:=by simpa using hb
 subst e;exact I1.fpOk (Nat.le_refl _) (I1.hok.fresh (Nat.le_refl _))
theorem range_it {pins:List (Addr×Obj)}{σ:St}{H:Hp}{s:Shared}{R:It->Hp->Prop}{E:Value->Shared->Prop}{lo hi:Int}{t u v:Tok}{tk:Nat}(I:Inv X pins σ H s) (h1:-(2 ^ 62)<=lo) (h2:lo < 2 ^ 62) (h3:-(2 ^ 62)<=hi) (h4:hi < 2 ^ 62)
  (q:R (Itr lo (hi - lo).toNat) H):wpAny (model X.prog X.w) X.A (pyIter (.ref s.heap.objs.size)) (PIE X pins σ tg R) E { s with heap:=s.heap.push { cls:=.type "range",data:=.fields #[.int lo t,.int hi u,.int 1 v] },toks:=tk }:=by
 refine wpAny_pyIter_range (IsRange.new ..) (small_one h1 h2 h3 h4) ?_
 have I1:Inv X pins σ H { s with heap:=s.heap.push { cls:=.type "range",data:=.fields #[.int lo t,.int hi u,.int 1 v] },toks:=tk }:=I.kept fun b o e=>Heap.get?_push_of_some _ e
 refine ⟨(s.heap.push { cls:=.type "range",data:=.fields #[.int lo t,.int hi u,.int 1 v] }).objs.size,[(s.heap.push { cls:=.type "range",data:=.fields #[.int lo t,.int hi u,.int 1 v] }).objs.size],_,_,H,rfl,
  I1.kept (t':=tk) fun b o e=>Heap.get?_push_of_some _ e,turn_range _ lo (hi - lo).toNat,?_,fun b hb=>?_,q⟩
 ·have e1:lo+((0:Nat):Int) * 1=lo:=by simp
  have e2:(((hi - lo).toNat:Nat):Int) - ((0:Nat):Int)=Builtin.Range.rangeSize lo hi 1:=by rw [rangeSize_one];split <;> omega
  show IsRangeIter _ _ (lo+((0:Nat):Int) * 1) ((((hi - lo).toNat:Nat):Int) - ((0:Nat):Int)) 1;rw [e1,e2];exact Heap.get?_push_size _ rfl
 ·have e:b=(s.heap.push { cls:=.type "range",data:=.fields #[.int lo t,.int hi u,.int 1 v] }).objs.size:=by simpa using hb
  subst e;exact I1.fpOk (Nat.le_refl _) (I1.hok.fresh (Nat.le_refl _))
noncomputable def iRng1 (ta:TA):TI:=fun σ H R=>ta σ H fun vs H1=>∃ j:Int,vs=[.int j]/\-(2 ^ 62)<=j/\j < 2 ^ 62/\R (Itr 0 j.toNat) H1
theorem pi_range1 {a:Expr}{ta:TA}{p pos:Pos}(hg:Gl X "range") (hm:X.mg "range"=none) (ha:PA X [a] ta) (hs:starEach [a] X.env=[(false,eval a X.env)]:=by rfl):PI X tg (.Call (.Name "range" p) [a] [] pos) (iRng1 ta):=by
 intro pins s σ H R I h;refine Call_ (ld_blt I hg hm boot_range (PyProof.Rows.callWith_type1 (thn (ha pos pins s σ H _ I h) ?_) hs rfl));rintro us s1 ⟨vs,H1,I1,r1,q1⟩;obtain ⟨j,e,q1,q2,q⟩:=q1;subst e;cases r1 with
 | cons r rr =>
  cases rr;obtain ⟨t,rfl⟩:=r;exact call_range_1 (range_it I1 (by omega) (by omega) q1 q2 (by simpa using q))
noncomputable def tFor (wi:TI) (g:TG) (tb:TS):TS:=fun D σ H=>wi σ H fun J H1=>∃ W:Nat->Nat->St->Hp->Prop,(∃ m,W 0 m σ H1)/\∀ i m σ H,W i m σ H ->
 (J.stop i H/\D.nx σ H)\/(J.go i H/\∃ N:St->Hp->Prop,(∀ σ' H',N σ' H'->∃ m',m' < m/\W (i+1) m' σ' H')/\∀ x H',J.yld i H x H'->g x σ H' fun σ2 H2=>tb { D with nx:=N,ct:=N,bk:=D.nx } σ2 H2)
noncomputable def pinsAt (fp:List Addr) (h:Heap):List (Addr×Obj):=fp.filterMap fun b=>(h.get? b).map fun o=>(b,o)
theorem mem_pinsAt {fp:List Addr}{h:Heap}{b:Addr}{o:Obj}(hb:b∈fp) (e:h.get? b=some o):(b,o)∈pinsAt fp h:=List.mem_filterMap.mpr ⟨b,hb,by rw [e];rfl⟩
theorem of_pinsAt {fp:List Addr}{h:Heap}{p:Addr×Obj}(hp:p∈pinsAt fp h):p.1∈fp/\h.get? p.1=some p.2:=by
 obtain ⟨b,hb,e⟩:=List.mem_filterMap.mp hp;cases q:h.get? b with
 | none=>rw [q] at e;cases e
 | some o =>
  rw [q] at e;have e':(b,o)=p:=Option.some.inj e;subst e';exact ⟨hb,q⟩
theorem Inv.pinned {pins:List (Addr×Obj)}{σ:St}{H:Hp}{s:Shared}{fp:List Addr}(I:Inv X pins σ H s) (hf:∀ b∈fp,FpOk X pins H b) (ho:∀ b∈fp,∃ o,s.heap.get? b=some o/\∀ v,o.data≠.cell v):Inv X (pins++pinsAt fp s.heap) σ H s :=
 I.pins_of fun p hp=>(List.mem_append.mp hp).elim (fun z=>I.pin p (List.mem_append_right _ z)) fun z=>by
  obtain ⟨hb,e⟩:=of_pinsAt z;obtain ⟨f0,f1,f2,_⟩:=hf p.1 hb;obtain ⟨o,e',d⟩:=ho p.1 hb;rw [e] at e';cases e';exact ⟨e,f0,f1,f2,d⟩
theorem Inv.unpinned {pins pl:List (Addr×Obj)}{σ:St}{H:Hp}{s:Shared}(I:Inv X (pins++pl) σ H s):Inv X pins σ H s:=I.pins_of fun p hp=>I.pin p (List.mem_append_right _ (List.mem_append_left _ hp))
theorem ps_for {iter:Expr}{body:List Stmt}{wi:TI}{g:TG}{tb:TS}{pos:Pos}(hp:PassesOwn (model X.prog X.w) X.A X.env X.xe) (hc:X.calm=true) (hi:PI X tg iter wi) (hg:PG X tg g) (hb:PSs X body tb)
  (hs:∀ x,foldedSetIterable iter X.env x=pure x:=by intro _;rfl):PS X (.For tg iter body [] pos) (tFor wi g tb):=by
 intro pins s σ H D I h;refine wpAny_For (thn (hi pins s σ H _ I h) fun v s1 h1=>thn h1 fun itv s2 h2=>?_) hs;obtain ⟨it,fp,tn,J,H2,e,I2,T,st2,f2,W,⟨m0,w0⟩,turn⟩:=h2;subst e
 -- what stays true of the iterator's objects through the loop
 have stat:∀ {H':Hp},(∀ b∈fp,H' b=none)->∀ b∈fp,FpOk X pins H' b:=fun hn b hb=>⟨hn b hb,(f2 b hb).2⟩
 refine codeAny_forLoop_any (fun n s'=>∃ i σ' H',Inv X pins σ' H' s'/\tn i s'.heap/\(∀ b∈fp,H' b=none)/\W i n σ' H') ?_ m0 ⟨0,σ,H2,I2,st2,fun b hb=>(f2 b hb).1,w0⟩;rintro n s3 ⟨i,σ3,H3,I3,st3,fr3,w3⟩;rcases turn i n σ3 H3 w3 with ⟨stop,qn⟩|⟨go,N,hN,step⟩
 ·refine wpAny_passesOwn hp (thn (T.done X rfl rfl rfl hc i pins s3 σ3 H3 X.xe I3 (stat fr3) st3 stop) ?_);rintro r s4 ⟨hr,I4⟩;subst hr;exact wpAny_execs_nil ⟨σ3,H3,I4,qn⟩
 ·refine wpAny_passesOwn hp (thn (T.item X rfl rfl rfl hc i pins s3 σ3 H3 X.xe I3 (stat fr3) st3 go) ?_);rintro r s4 ⟨u,hr,h4⟩;subst hr;refine wpAny_passesOwn hp (thn h4 ?_);rintro _ s5 ⟨x,H5,I5,r5,y5,st5,fr5⟩;have I5':=I5.pinned (stat fr5) (T.obj _ _ st5);refine wpAny_passesOwn hp (thn (hg _ s5 σ3 H5 x u _ I5' r5 (step x H5 y5)) ?_);rintro _ s6 ⟨σ6,H6,I6,q6⟩;refine wpAny_passesOwn hp (thn (hb _ s6 σ6 H6 _ I6 q6) fun f s7 q7=>?_);have again:∀ {σ7:St} {H7:Hp},Inv X (pins++pinsAt fp s5.heap) σ7 H7 s7->N σ7 H7->∃ m,m < n/\∃ i σ' H',Inv X pins σ' H' s7/\tn i s7.heap/\(∀ b∈fp,H' b=none)/\W i m σ' H':=fun {σ7 H7} I7 n7=>by
   obtain ⟨m',hm,w7⟩:=hN σ7 H7 n7;refine ⟨m',hm,i+1,σ7,H7,I7.unpinned,T.keep _ _ _ st5 fun b hb o e=>(I7.pin (b,o) (List.mem_append_right _ (List.mem_append_right _ (mem_pinsAt hb e)))).1,fun b hb=>?_,w7⟩;obtain ⟨o,e,d⟩:=T.obj _ _ st5 b hb;exact (I7.pin (b,o) (List.mem_append_right _ (List.mem_append_right _ (mem_pinsAt hb e)))).2.1
  cases f with
  | next=>obtain ⟨σ7,H7,I7,n7⟩:=q7;exact again I7 n7
  | cont=>obtain ⟨σ7,H7,I7,n7⟩:=q7;exact again I7 n7
  | brk=>obtain ⟨σ7,H7,I7,q7⟩:=q7;exact ⟨σ7,H7,I7.unpinned,q7⟩
  | ret v=>obtain ⟨x7,σ7,H7,I7,r7,q7⟩:=q7;exact ⟨x7,σ7,H7,I7.unpinned,r7,q7⟩
end
noncomputable abbrev R2:=V->V->Hp->VK->Prop
noncomputable def OpR (X:Cx) (f:Value->Value->Sem Value) (r:R2):Prop :=
 ∀ (pins:List (Addr×Obj)) (s:Shared) (σ:St) (H:Hp) (x y:V) (v u:Value) (Q:VK),Inv X pins σ H s->RelV x v->RelV y u->r x y H Q ->
  wpAny (model X.prog X.w) X.A (f v u) (EP X pins σ Q) X.xe s
noncomputable def UnR (X:Cx) (f:Value->Sem Value) (r:V->Hp->VK->Prop):Prop :=
 ∀ (pins:List (Addr×Obj)) (s:Shared) (σ:St) (H:Hp) (x:V) (v:Value) (Q:VK),Inv X pins σ H s->RelV x v->r x H Q ->
  wpAny (model X.prog X.w) X.A (f v) (EP X pins σ Q) X.xe s
noncomputable def CallR (X:Cx) (f:Value) (r:List V->Hp->VK->Prop):Prop :=
 ∀ (pins:List (Addr×Obj)) (s:Shared) (σ:St) (H:Hp) (xs:List V) (us:List Value) (Q:VK),Inv X pins σ H s->Vals xs us->r xs H Q ->
  wpAny (model X.prog X.w) X.A (call f us) (EP X pins σ Q) X.xe s
noncomputable def TruR (X:Cx) (r:V->Hp->(Bool->Hp->Prop)->Prop):Prop :=
 ∀ (pins:List (Addr×Obj)) (s:Shared) (σ:St) (H:Hp) (x:V) (v:Value) (Q:Bool->Hp->Prop),Inv X pins σ H s->RelV x v->r x H Q ->
  wpAny (model X.prog X.w) X.A (truthy v) (TP X pins σ Q) X.xe s
noncomputable def tOp (r:R2) (ta tb:TE):TE:=fun σ H Q=>ta σ H fun x H1=>tb σ H1 fun y H2=>r x y H2 Q
noncomputable def tUn (r:V->Hp->VK->Prop) (ta:TE):TE:=fun σ H Q=>ta σ H fun x H1=>r x H1 Q
noncomputable def rI (C:Int->Int->Prop) (g:Int->Int->V):R2:=fun x y H Q=>∃ i j,x=.int i/\y=.int j/\C i j/\Q (g i j) H
noncomputable def rI0 (g:Int->Int->V):R2:=fun x y H Q=>∃ i j,x=.int i/\y=.int j/\Q (g i j) H
noncomputable def rU (g:Int->V):V->Hp->VK->Prop:=fun x H Q=>∃ i,x=.int i/\Q (g i) H
section
variable {X:Cx}{a b c:Expr}{ta tb tc:TE}{pos:Pos}
theorem binT (ha:PE X a ta) (hb:PE X b tb) {pins:List (Addr×Obj)}{s:Shared}{σ:St}{H:Hp}{R:V->V->Hp->Prop}(I:Inv X pins σ H s)
  (h:ta σ H fun x H1=>tb σ H1 fun y H2=>R x y H2) {Q:Value->Shared->Prop} {f:Value->Value->Sem Value}
  (hf:∀ v u s2 x y H2,Inv X pins σ H2 s2->RelV x v->RelV y u->R x y H2->wpAny (model X.prog X.w) X.A (f v u) Q X.xe s2) :
  wpAny (model X.prog X.w) X.A (eval a X.env) (fun v s₁=>wpAny (model X.prog X.w) X.A (eval b X.env) (fun u s₂=>wpAny (model X.prog X.w) X.A (f v u) Q X.xe s₂) X.xe s₁) X.xe s:=by
 refine thn (ha pins s σ H _ I h) ?_;rintro v s1 ⟨x,H1,I1,r1,q1⟩;refine thn (hb pins s1 σ H1 _ I1 q1) ?_;rintro u s2 ⟨y,H2,I2,r2,q2⟩;exact hf v u s2 x y H2 I2 r1 r2 q2
theorem pe_op {op:Operator}{r:R2}(ho:OpR X (binaryOp op) r) (ha:PE X a ta) (hb:PE X b tb):PE X (.BinOp a op b pos) (tOp r ta tb):=by
 intro pins s σ H Q I h;exact wpAny_BinOp (binT ha hb I h fun v u s2 x y H2 I2 rx ry q=>ho pins s2 σ H2 x y v u Q I2 rx ry q)
theorem pe_un {op:UnaryOp}{r:V->Hp->VK->Prop}(ho:UnR X (unaryOp op) r) (ha:PE X a ta):PE X (.UnaryOp op a pos) (tUn r ta):=by
 intro pins s σ H Q I h;refine UnaryOp_ (thn (ha pins s σ H _ I h) ?_);rintro v s1 ⟨x,H1,I1,r1,q1⟩;exact ho pins s1 σ H1 x v Q I1 r1 q1
theorem opI {f:Value->Value->Sem Value}{C:Int->Int->Prop}{g:Int->Int->Int}
  (rule:∀ (i j:Int) (t u:Tok) (s:Shared) (Q:Value->Shared->Prop) (E:Value->Shared->Prop),C i j->Q (.int (g i j) s.toks) { s with toks:=s.toks+1 }->wpAny (model X.prog X.w) X.A (f (.int i t) (.int j u)) Q E s) :
  OpR X f (rI C fun i j=>.int (g i j)):=by
 intro pins s σ H x y v u Q I rx ry h;obtain ⟨i,j,rfl,rfl,hc,q⟩:=h;obtain ⟨t,rfl⟩:=rx;obtain ⟨t',rfl⟩:=ry;exact rule i j t t' s _ _ hc ⟨.int (g i j),H,I.tok _,⟨_,rfl⟩,q⟩
theorem opI0 {f:Value->Value->Sem Value}{g:Int->Int->Int}
  (rule:∀ (i j:Int) (t u:Tok) (s:Shared) (Q:Value->Shared->Prop) (E:Value->Shared->Prop),Q (.int (g i j) s.toks) { s with toks:=s.toks+1 }->wpAny (model X.prog X.w) X.A (f (.int i t) (.int j u)) Q E s) :
  OpR X f (rI0 fun i j=>.int (g i j)):=by
 intro pins s σ H x y v u Q I rx ry h;obtain ⟨i,j,rfl,rfl,q⟩:=h;obtain ⟨t,rfl⟩:=rx;obtain ⟨t',rfl⟩:=ry;exact rule i j t t' s _ _ ⟨.int (g i j),H,I.tok _,⟨_,rfl⟩,q⟩
theorem opB0 {f:Value->Value->Sem Value}{g:Int->Int->Bool}
  (rule:∀ (i j:Int) (t u:Tok) (s:Shared) (Q:Value->Shared->Prop) (E:Value->Shared->Prop),Q (.bool (g i j)) s->wpAny (model X.prog X.w) X.A (f (.int i t) (.int j u)) Q E s) :
  OpR X f (rI0 fun i j=>.bl (g i j)):=by
 intro pins s σ H x y v u Q I rx ry h;obtain ⟨i,j,rfl,rfl,q⟩:=h;obtain ⟨t,rfl⟩:=rx;obtain ⟨t',rfl⟩:=ry;exact rule i j t t' s _ _ ⟨.bl (g i j),H,I,rfl,q⟩
noncomputable def CPow (i j:Int):Prop:=0<=j/\j<=1000000/\i.natAbs < 2 ^ 64
noncomputable def CMul (i j:Int):Prop:=(-(2 ^ 64) < i/\i < 2 ^ 64)\/(-(2 ^ 64) < j/\j < 2 ^ 64)
theorem CMul.ok {i j:Int}(h:CMul i j):IntMulOk i j:=by
 rcases h with ⟨h1,h2⟩|⟨h1,h2⟩
 ·exact .of_left (intBits_le_64 h1 h2)
 ·exact .of_right (intBits_le_64 h1 h2)
theorem op_add:OpR X (binaryOp .Add) (rI0 fun i j=>.int (i+j)):=opI0 fun _ _ _ _ _ _ _ q=>add_int q
theorem op_sub:OpR X (binaryOp .Sub) (rI0 fun i j=>.int (i - j)):=opI0 fun _ _ _ _ _ _ _ q=>sub_int q
theorem op_mul:OpR X (binaryOp .Mult) (rI CMul fun i j=>.int (i * j)):=opI fun _ _ _ _ _ _ _ hc q=>mul_int q hc.ok
theorem op_modN:OpR X (binaryOp .Mod) (rI (fun _ j=>j≠0) fun i j=>.int (i.fmod j)):=opI fun _ _ _ _ _ _ _ hc q=>mod_int' hc q
theorem op_pow:OpR X (binaryOp .Pow) (rI CPow fun i j=>.int (i ^ j.toNat)):=opI fun _ _ _ _ _ _ _ hc q=>pow_int_small hc.1 hc.2.1 hc.2.2 q
theorem op_shl:OpR X (binaryOp .LShift) (rI CPow fun i j=>.int (i * 2 ^ j.toNat)):=opI fun _ _ _ _ _ _ _ hc q=>lshift_int_small hc.1 hc.2.1 hc.2.2 q
theorem op_xor:OpR X (binaryOp .BitXor) (rI0 fun i j=>.int (Builtin.bitXor i j)):=opI0 fun _ _ _ _ _ _ _ q=>xor_int q
theorem unI {f:Value->Sem Value}{g:Int->Int}
  (rule:∀ (i:Int) (t:Tok) (s:Shared) (Q:Value->Shared->Prop) (E:Value->Shared->Prop),Q (.int (g i) s.toks) { s with toks:=s.toks+1 }->wpAny (model X.prog X.w) X.A (f (.int i t)) Q E s) :
  UnR X f (rU fun i=>.int (g i)):=by
 intro pins s σ H x v Q I rx h;obtain ⟨i,rfl,q⟩:=h;obtain ⟨t,rfl⟩:=rx;exact rule i t s _ _ ⟨.int (g i),H,I.tok _,⟨_,rfl⟩,q⟩
theorem un_neg:UnR X (unaryOp .USub) (rU fun i=>.int (-i)):=unI fun _ _ _ _ _ q=>neg_int q
end
section
variable {X:Cx}{a b c:Expr}{ta tb tc:TE}{pos:Pos}
theorem op_lt:OpR X (compareOp .Lt) (rI0 fun i j=>.bl (decide (i < j))):=opB0 fun _ _ _ _ _ _ _ q=>lt_int q
theorem op_le:OpR X (compareOp .LtE) (rI0 fun i j=>.bl (decide (i<=j))):=opB0 fun _ _ _ _ _ _ _ q=>le_int q
theorem op_gt:OpR X (compareOp .Gt) (rI0 fun i j=>.bl (decide (j < i))):=opB0 fun _ _ _ _ _ _ _ q=>gt_int q
theorem op_ge:OpR X (compareOp .GtE) (rI0 fun i j=>.bl (decide (j<=i))):=opB0 fun _ _ _ _ _ _ _ q=>ge_int q
theorem OpR.or {f:Value->Value->Sem Value}{r r':R2}(h:OpR X f r) (h':OpR X f r'):OpR X f (fun x y H Q=>r x y H Q\/r' x y H Q):=by
 intro pins s σ H x y v u Q I rx ry q;rcases q with q|q
 ·exact h pins s σ H x y v u Q I rx ry q
 ·exact h' pins s σ H x y v u Q I rx ry q
theorem pe_cmpR {op:CmpOp}{r:R2}(ho:OpR X (compareOp op) r) (ha:PE X a ta) (hb:PE X b tb) (hm:behindInMarks op b=false):PE X (.Compare a [op] [b] pos) (tOp r ta tb):=by
 intro pins s σ H Q I h;exact wpAny_Compare1 (binT ha hb I h fun v u s2 x y H2 I2 rx ry q=>ho pins s2 σ H2 x y v u Q I2 rx ry q) hm
noncomputable def tTest (t:TE):TT:=fun σ H Q=>t σ H fun x H'=>∃ k,x=.bl k/\Q k H'
theorem pt_cmpR {op:CmpOp}{r:R2}(ho:OpR X (compareOp op) r) (ha:PE X a ta) (hb:PE X b tb) (hm:behindInMarks op b=false):PT X (.Compare a [op] [b] pos) (tTest (tOp r ta tb)):=by
 intro pins s σ H Q I h
 refine wpAny_isTrue_Compare1 (thn (ha pins s σ H _ I h) fun v s1 ⟨x,H1,I1,r1,q1⟩=>thn (hb pins s1 σ H1 _ I1 q1) fun u s2 ⟨y,H2,I2,r2,q2⟩ =>
  thn (ho pins s2 σ H2 x y v u _ I2 r1 r2 q2) fun c s3 ⟨z,H3,I3,r3,k,e,q3⟩=>?_) hm
 subst e;cases r3;exact wpAny_truthy_bool ⟨H3,I3,q3⟩
noncomputable def tChain (r r':R2) (ta tb tc:TE):TE:=fun σ H Q=>ta σ H fun x H1=>tb σ H1 fun y H2=>r x y H2 fun z H3=>∃ k,z=.bl k /\
 (if k=true then tc σ H3 fun w' H4=>r' y w' H4 Q else Q (.bl false) H3)
theorem pe_chain {op op':CmpOp}{r r':R2}(ho:OpR X (compareOp op) r) (ho':OpR X (compareOp op') r') (ha:PE X a ta) (hb:PE X b tb) (hc:PE X c tc)
  (hm:lastMarks [op,op'] [b,c]=false:=by with_unfolding_all rfl):PE X (.Compare a [op,op'] [b,c] pos) (tChain r r' ta tb tc):=by
 intro pins s σ H Q I h
 refine Compare_chain (thn (ha pins s σ H _ I h) fun v s1 ⟨x,H1,I1,r1,q1⟩=>chain_link (thn (hb pins s1 σ H1 _ I1 q1) fun u s2 ⟨y,H2,I2,r2,q2⟩ =>
  thn (ho pins s2 σ H2 x y v u _ I2 r1 r2 q2) fun d s3 ⟨z,H3,I3,r3,k,e,q3⟩=>?_)) hm
 subst e;cases r3;refine wpAny_truthy_bool ?_;cases k with
 | false=>exact ite_ff ⟨.bl false,H3,I3,rfl,q3⟩
 | true=>exact ite_tt (chain_last (thn (hc pins s3 σ H3 _ I3 q3) fun w' s4 ⟨z',H4,I4,r4,q4⟩=>ho' pins s4 σ H4 y z' u w' Q I4 r2 r4 q4))
theorem pt_chain {op op':CmpOp}{r r':R2}(ho:OpR X (compareOp op) r) (ho':OpR X (compareOp op') r') (ha:PE X a ta) (hb:PE X b tb) (hc:PE X c tc)
  (hm:lastMarks [op,op'] [b,c]=false:=by with_unfolding_all rfl):PT X (.Compare a [op,op'] [b,c] pos) (tTest (tChain r r' ta tb tc)):=by
 intro pins s σ H Q I h
 refine isTrue_chain (thn (ha pins s σ H _ I h) fun v s1 ⟨x,H1,I1,r1,q1⟩=>test_link (thn (hb pins s1 σ H1 _ I1 q1) fun u s2 ⟨y,H2,I2,r2,q2⟩ =>
  thn (ho pins s2 σ H2 x y v u _ I2 r1 r2 q2) fun d s3 ⟨z,H3,I3,r3,k,e,q3⟩=>?_)) hm
 subst e;cases r3;refine wpAny_truthy_bool ?_;cases k with
 | false =>
  obtain ⟨k',e',q'⟩:=q3;cases e';exact ite_ff ⟨H3,I3,q'⟩
 | true =>
  refine ite_tt (test_last (thn (hc pins s3 σ H3 _ I3 q3) ?_));rintro w' s4 ⟨z',H4,I4,r4,q4⟩;refine thn (ho' pins s4 σ H4 y z' u w' _ I4 r2 r4 q4) ?_;rintro d' s5 ⟨z2,H5,I5,r5,k2,e2,q5⟩;subst e2;cases r5;exact wpAny_truthy_bool ⟨H5,I5,q5⟩
noncomputable def TruV (K:PySem.W.Frag) (x:V) (H:Hp) (k:Bool):Prop :=
 match x with
 | .non=>k=false
 | .bl b=>k=b
 | .int i=>k=(i != 0)
 | .str y=>y.length<=sizeLine/\k=((y.length:Int) != 0)
 | .byt y=>y.size<=sizeLine/\k=((y.size:Int) != 0)
 | .ref p=>(∃ xs,SqL K H p xs/\k=!xs.isEmpty)\/(∃ xs,SqT K H p xs/\k=!xs.isEmpty)\/∃ kvs,H p=some (.dK kvs)/\k=!kvs.isEmpty
 | _=>False
theorem isEmpty_kv {κ:Type}{kvs:List (κ×V)}{vs:List (κ×Value)}(r:KV kvs vs):(!vs.isEmpty)=!kvs.isEmpty:=by
 cases r <;> rfl
theorem isEmpty_of {xs:List V}{its:List Value}(r:Vals xs its):(!its.toArray.isEmpty)=!xs.isEmpty:=by
 cases r <;> simp
theorem line63:(sizeLine:Nat) < 2 ^ 63:=by rw [sizeLine_eq];decide
theorem tru_ok:TruR X (fun x H Q=>∃ k,TruV X.K x H k/\Q k H):=by
 intro pins s σ H x v Q I rx h;obtain ⟨k,e,q⟩:=h;have hl:=line63;have hs:sizeLine=16777216:=sizeLine_eq;cases x with
 | non =>
  cases rx;have e':k=false:=e;subst e';exact truthy_none ⟨H,I,q⟩
 | bl b =>
  cases rx;have e':k=b:=e;subst e';exact wpAny_truthy_bool ⟨H,I,q⟩
 | int i =>
  obtain ⟨t,rfl⟩:=rx;have e':k=(i != 0):=e;subst e';exact PySem.P.truthy_int ⟨H,I,q⟩
 | str y =>
  obtain ⟨t,rfl⟩:=rx;obtain ⟨hy,e'⟩:y.length<=sizeLine/\k=((y.length:Int) != 0):=e;subst e';exact PySem.P.truthy_str (by omega) ⟨H,I.tok _,q⟩
 | byt y =>
  obtain ⟨t,rfl⟩:=rx;obtain ⟨hy,e'⟩:y.size<=sizeLine/\k=((y.size:Int) != 0):=e;subst e';exact PySem.W.truthy_bytes (by omega) ⟨H,I.tok _,q⟩
 | ref p =>
  cases rx;have e':(∃ xs,SqL X.K H p xs/\k=!xs.isEmpty)\/(∃ xs,SqT X.K H p xs/\k=!xs.isEmpty)\/∃ kvs,H p=some (.dK kvs)/\k=!kvs.isEmpty:=e;rcases e' with ⟨xs,hx,e'⟩|⟨xs,hx,e'⟩|⟨kvs,hx,e'⟩
  ·subst e';obtain ⟨its,r,pl,hz⟩:=I.list hx;have hlen:=r.length;exact wpAny_truthy_list pl.isList (by simp only [List.size_toArray];omega) ⟨H,I.tok _,by rw [isEmpty_of r];exact q⟩
  ·subst e';obtain ⟨its,r,pl,hz⟩:=I.tuple hx;have hlen:=r.length;exact truthy_tuple pl (by simp only [List.size_toArray];omega) ⟨H,I.tok _,by rw [isEmpty_of r];exact q⟩
  ·subst e';obtain ⟨hz,hS,vs,r,m⟩:kvs.length<=sizeLine/\(p==sysModules)=false/\∃ vs,KV kvs vs/\s.heap.DictOf (mixKind X.prog X.w) p vs:=I.hok p _ hx;have hlen:kvs.length=vs.length:=Paired.length r;exact wpAny_truthy_dict hS m (by omega) ⟨H,I.tok _,by rw [isEmpty_kv r];exact q⟩
 | _=>exact (show False from e).elim
theorem pt_truth (ha:PE X a ta) (he:∀ whole,isTrue a X.env whole=(do let v ← whole;standAt a.pos;holding [v] (truthy v))) :
  PT X a (fun σ H Q=>ta σ H fun x H'=>∃ k,TruV X.K x H' k/\Q k H'):=by
 intro pins s σ H Q I h;exact isTrue_plain (thn (ha pins s σ H _ I h) fun v s1 ⟨x,H1,I1,r1,q1⟩=>tru_ok pins s1 σ H1 x v Q I1 r1 q1) (he _)
theorem op_add_str:OpR X (binaryOp .Add) (fun x y H Q=>∃ i j,x=.str i/\y=.str j/\i.length+j.length<=sizeLine/\Q (.str (i++j)) H):=by
 intro pins s σ H x y v u Q I rx ry h;obtain ⟨i,j,rfl,rfl,hz,q⟩:=h;obtain ⟨t,rfl⟩:=rx;obtain ⟨t',rfl⟩:=ry;exact add_str (fun t' tk=>⟨.str (i++j),H,I.tok _,⟨_,rfl⟩,q⟩) hz
theorem vals1 {x:V}{us:List Value}(r:Vals [x] us):∃ u,us=[u]/\RelV x u:=by
 cases r with
 | cons r1 r2=>cases r2;exact ⟨_,rfl,r1⟩
theorem vals2 {x y:V}{us:List Value}(r:Vals [x,y] us):∃ u w',us=[u,w']/\RelV x u/\RelV y w':=by
 cases r with
 | cons r1 r2 =>
  cases r2 with
  | cons r3 r4=>cases r4;exact ⟨_,_,rfl,r1,r3⟩
theorem call_max2 (hc:X.calm=true):CallR X (.builtin "max") (fun xs H Q=>∃ i j,xs=[.int i,.int j]/\Q (.int (if j > i then j else i)) H):=by
 intro pins s σ H xs us Q I r h;obtain ⟨i,j,rfl,q⟩:=h;obtain ⟨u,w',rfl,⟨t,rfl⟩,⟨t',rfl⟩⟩:=vals2 r;refine max_two_ints (I.ok.hd hc) fun h' tk k=>⟨_,H,I.kept k,?_,q⟩
 by_cases hj:j > i
 ·rw [if_pos hj,if_pos hj];exact ⟨_,rfl⟩
 ·rw [if_neg hj,if_neg hj];exact ⟨_,rfl⟩
theorem call_min2 (hc:X.calm=true):CallR X (.builtin "min") (fun xs H Q=>∃ i j,xs=[.int i,.int j]/\Q (.int (if j < i then j else i)) H):=by
 intro pins s σ H xs us Q I r h;obtain ⟨i,j,rfl,q⟩:=h;obtain ⟨u,w',rfl,⟨t,rfl⟩,⟨t',rfl⟩⟩:=vals2 r;refine min_two_ints (I.ok.hd hc) fun h' tk k=>⟨_,H,I.kept k,?_,q⟩
 by_cases hj:j < i
 ·rw [if_pos hj,if_pos hj];exact ⟨_,rfl⟩
 ·rw [if_neg hj,if_neg hj];exact ⟨_,rfl⟩
theorem call_int1:CallR X (.type "int") (fun xs H Q=>(∃ i,xs=[.int i]/\Q (.int i) H)\/∃ k,xs=[.bl k]/\Q (.int (if k then 1 else 0)) H):=by
 intro pins s σ H xs us Q I r h;rcases h with ⟨i,rfl,q⟩|⟨k,rfl,q⟩
 ·obtain ⟨u,rfl,t,rfl⟩:=vals1 r;exact call_int_int ⟨.int i,H,I,⟨_,rfl⟩,q⟩
 ·obtain ⟨u,rfl,r1⟩:=vals1 r;cases r1;exact call_int_bool ⟨.int (if k then 1 else 0),H,I.tok _,⟨_,rfl⟩,q⟩
end
structure ObjM (h:Heap) (x dx C:Addr) (mA:Str->Option Value):Prop where
 obj:h.get? x=some (PySem.W.instObj C dx)
 ns:h.Ns1 dx mA
 ne:dx≠x
section
variable {prog:Program}{w:World}{A:Around}{E:Value->Shared->Prop}{s:Shared}{K:PySem.W.Frag}{x dx C f:Addr}{mA:Str->Option Value}{name:Str}{v:Value}
end
section
variable {P:Program}{w:World}{H H':Hp}{h h':Heap}{a C dx:Addr}{fs fs':List (Str×V)}
end
structure Cls (K:PySem.W.Frag) (C:Addr):Prop where
 pg:PySem.W.plainGet K C Str.empty=true
 hd:PySem.W.hasDictIn K C=true
 po:PySem.W.plainOver K C=true
 sa:PySem.W.findIn K (.ref C) "__setattr__"=some (some (.builtin "object.__setattr__"))
theorem Cls.get {K:PySem.W.Frag}{C:Addr}(c:Cls K C) (f:Str):PySem.W.plainGet K C f=true:=c.pg
noncomputable def NoAttr (K:PySem.W.Frag) (C:Addr) (f:Str):Prop:=PySem.W.findIn K (.ref C) f=some none
structure Meth (K:PySem.W.Frag) (C:Addr) (m:Str) (f:Addr):Prop where
 at_:PySem.W.findIn K (.ref C) m=some (some (.ref f))
 fn:PySem.W.isFn K (.ref f)=true
 kp:PySem.W.keepIn K (.ref f)=true
section
variable {X:Cx}{pins:List (Addr×Obj)}{σ:St}{H:Hp}{s:Shared}{a C dx:Addr}{fs:List (Str×V)}{f:Str}{v:V}{A:Around}{E:Value->Shared->Prop}
theorem Inv.made (I:Inv X pins σ H s):Inv X pins σ (upd (upd H s.heap.objs.size (.own (s.heap.objs.size+1))) (s.heap.objs.size+1) (.ins C s.heap.objs.size []))
    { s with heap:=(s.heap.push PySem.W.emptyDict).push (PySem.W.instObj C s.heap.objs.size) }:=by
  have e1:(s.heap.push PySem.W.emptyDict).get? s.heap.objs.size=some PySem.W.emptyDict:=Heap.get?_push_size s.heap rfl;have e2:((s.heap.push PySem.W.emptyDict).push (PySem.W.instObj C s.heap.objs.size)).get? (s.heap.objs.size+1)=some (PySem.W.instObj C s.heap.objs.size):=by
    have:=Heap.get?_push_size (s.heap.push PySem.W.emptyDict) (o:=PySem.W.instObj C s.heap.objs.size) rfl
    rwa [Heap.size_push] at this
  have e3:(s.heap.push PySem.W.emptyDict).Ns s.heap.objs.size (fun _=>none):=⟨PySem.W.emptyDict,#[],_,e1,rfl,(fun e he=>absurd he (by simp)),fun _=>rfl⟩;have I1:=I.laid (a:=s.heap.objs.size) (o:=.own (s.heap.objs.size+1)) (h':=s.heap.push PySem.W.emptyDict) (t':=s.toks) (fun b u q=>Heap.get?_push_of_some _ q) (Nat.le_refl _) ⟨_,e1⟩;refine I1.laid (a:=s.heap.objs.size+1) (o:=.ins C s.heap.objs.size []) (t':=s.toks) (fun b u q=>Heap.get?_push_of_some _ q) (Nat.le_of_eq (Heap.size_push _ _)) ?_;have ne:s.heap.objs.size≠s.heap.objs.size+1:=Nat.ne_of_lt (Nat.lt_succ_self _);refine ⟨by rw [upd_ne ne,upd_same],Nat.zero_le _,ne,e2,fun _=>none,(Heap.Ns1.of_empty e3).at fun o q=>Heap.get?_push_of_some _ q,fun _=>True.intro,fun y hy=>absurd rfl hy⟩
end
section
variable {X:Cx}{o e value:Expr}{f:Str}{pos pos' tpos:Pos}{ta tv:TE}
end
section
variable {X:Cx}{pins:List (Addr×Obj)}{σ:St}{H:Hp}{s:Shared}{A:Around}{E:Value->Shared->Prop}{Q:Value->Shared->Prop}{c:Value}{b:Bool}
end
structure Room (k:Nat) (A:Around):Prop where
 hd:A.handled=none
 dp:A.depth+3 * k+5 < recursionLimit
 un:A.units+16 * k+200 < cLine
theorem Room.mono {j k:Nat}{A:Around}(r:Room k A) (h:j<=k):Room j A:=⟨r.hd,by have:=r.dp;omega,by have:=r.un;omega⟩
theorem Room.deeper {k:Nat}{A:Around}(r:Room (k+1) A) (env:Env):Room k (A.deeper env) :=
 ⟨r.hd,by have:=r.dp;show A.depth+1+3 * k+5 < _;omega,by have:=r.un;show A.units+3+16 * k+200 < _;omega⟩
theorem Room.depth {k:Nat}{A:Around}(r:Room k A):A.depth < recursionLimit:=by have:=r.dp;omega
theorem Room.units {k:Nat}{A:Around}(r:Room k A):A.units+64 < cLine:=by have:=r.un;omega
noncomputable def tNil:TA:=fun _ H Q=>Q [] H
noncomputable def tCons (ta:TE) (tr:TA):TA:=fun σ H Q=>ta σ H fun x H1=>tr σ H1 fun xs H2=>Q (x::xs) H2
section
variable {X:Cx}{e:Expr}{es:List Expr}{te:TE}{t:TA}{pos:Pos}
theorem pa_nil:PA X [] tNil:=fun _ _ _ _ H Q I h=>Calls.spliced_nil ⟨[],H,I,.nil,h⟩
theorem pa_cons (ha:PE X e te) (hr:PA X es t) (hs:starEach (e::es) X.env=(false,eval e X.env)::starEach es X.env:=by rfl):PA X (e::es) (tCons te t):=by
 intro pos pins s σ H Q I h;rw [hs];show wpAny _ _ (spliced ((false,eval e X.env)::backTo pos (starEach es X.env))) _ _ s;refine Calls.spliced_cons (thn (ha pins s σ H _ I h) ?_);rintro u s1 ⟨x,H1,I1,r1,q1⟩;refine thn (hr pos pins s1 σ H1 _ I1 q1) ?_;rintro us s2 ⟨xs,H2,I2,r2,q2⟩;exact ⟨x::xs,H2,I2,.cons r1 r2,q2⟩
noncomputable def tTup (t:TA):TE:=fun σ H Q=>t σ H fun xs H1=>xs.length<=sizeLine/\∀ p,H1 p=none->Q (.ref p) (upd H1 p (.tup xs))
noncomputable def tLst (t:TA):TE:=fun σ H Q=>t σ H fun xs H1=>xs.length<=sizeLine/\∀ p,H1 p=none->Q (.ref p) (upd H1 p (.lst xs))
theorem pe_tup {x1}(h:PA X es t):PE X (.Tuple es x1 pos) (tTup t):=by
 intro pins s σ H Q I hq;refine wpAny_Tuple_spliced (thn (h pos pins s σ H _ I hq) ?_);rintro us s1 ⟨xs,H1,I1,r,z,q⟩;refine ⟨by rw [← r.length];exact z,?_⟩;have hf:H1 s1.heap.objs.size=none:=I1.hok.fresh (Nat.le_refl _);refine ⟨.ref s1.heap.objs.size,upd H1 s1.heap.objs.size (.tup xs),I1.laid (t':=s1.toks) (fun b u e=>Heap.get?_push_of_some _ e) (Nat.le_refl _) ?_,rfl,q _ hf⟩;exact ⟨z,us,r,⟨_,Heap.get?_push_size _ rfl,rfl,rfl,_,rfl⟩⟩
theorem pe_lst (h:PA X es t):PE X (.List es pos) (tLst t):=by
 intro pins s σ H Q I hq;refine wpAny_List_spliced (thn (h pos pins s σ H _ I hq) ?_);rintro us s1 ⟨xs,H1,I1,r,z,q⟩;refine ⟨by rw [← r.length];exact z,?_⟩;have hf:H1 s1.heap.objs.size=none:=I1.hok.fresh (Nat.le_refl _);refine ⟨.ref s1.heap.objs.size,upd H1 s1.heap.objs.size (.lst xs),I1.laid (t':=s1.toks) (fun b u e=>Heap.get?_push_of_some _ e) (Nat.le_refl _) ?_,rfl,q _ hf⟩;exact ⟨z,us,0,r,Heap.get?_push_size _ rfl⟩
end
noncomputable abbrev Sp:=List V->Hp->VK->XK->Prop
noncomputable abbrev CXT:=List Env->Hp->Shared->XK->Value->Shared->Prop
structure Env0 (P:Program) (w:World) (K:PySem.W.Frag) (mg:Str->Option Value) (base:Heap) (A:Around) (outer:List Env) (s:Shared) (H:Hp):Prop where
 frames:A.frames=some outer
 mod:Mod K mg base
 bs:∀ b o,base.get? b=some o->s.heap.get? b=some o/\H b=none
 bsz:base.objs.size<=s.heap.objs.size
 funs:s.heap.FunFrames base outer
 frf:∀ b∈frs outer,H b=none
 hok:HOk P w H s.heap
 bare:AllBare s.gens
noncomputable def CE (outer:List Env) (P:Program) (w:World) (H:Hp) (s:Shared) (Q:VK) (u:Value) (s':Shared):Prop :=
 ∃ v H',s'.os=s.os/\AllBare s'.gens/\Un (frs outer) [] H H' s.heap s'.heap/\HOk P w H' s'.heap/\RelV v u/\Q v H'
noncomputable def CR (CX:CXT) (outer:List Env) (P:Program) (w:World) (H:Hp) (s:Shared) (Q:VK) (E:XK) (r:Result) (s':Shared):Prop :=
 match r with
 | .ok (.ret u)=>CE outer P w H s Q u s'
 | .ok _=>False
 | .error e=>CX outer H s E e s'
structure FnOk (P:Program) (w:World) (K:PySem.W.Frag) (mg:Str->Option Value) (base:Heap) (CX:CXT) (k:Nat) (f:Addr) (fd:FuncData) (ps:List Str) (sp:Sp):Prop where
 len:∀ vs H Q E,sp vs H Q E->vs.length=ps.length
 run:∀ (A:Around) (outer:List Env) (s:Shared) (H:Hp) (args:Args) (us:List Value) (vs:List V) (Q:VK) (E:XK),Room k A->Env0 P w K mg base A outer s H->BindsTo s fd args (ps.zip us)->Vals vs us->sp vs H Q E ->
  codeAny (model P w) A (.call (.ref f) args) (CR CX outer P w H s Q E) s
section
variable {X:Cx}{pins:List (Addr×Obj)}{σ:St}{H:Hp}{s s':Shared}
theorem Inv.env0 (I:Inv X pins σ H s):Env0 X.prog X.w X.K X.mg X.base X.A X.stack s H :=
 ⟨I.ok.frames,I.ok.mod,I.bs,Nat.le_trans I.ok.bsz I.sz,I.stack,I.stkFree,I.hok,I.bare⟩
theorem Inv.after {Q:VK}{u:Value}(I:Inv X pins σ H s) (h:CE X.stack X.prog X.w H s Q u s'):EP X pins σ Q u s':=by
 obtain ⟨v,H',os,bare,un,hok,r,q⟩:=h;obtain ⟨hh,g,d,t,os'⟩:=s';obtain rfl:os'=s.os:=os;exact ⟨v,H',I.call (h':=hh) (g':=g) (d':=d) (t':=t) (ch:=[]) un hok bare (fun b z=>absurd z (by simp)),r,q⟩
end
noncomputable def tCall (sp:Sp) (dvs:List V) (E:XK) (t:TA):TE:=fun σ H Q=>t σ H fun vs H1=>sp (vs++dvs) H1 Q E
noncomputable def Binds (K:PySem.W.Frag) (fd:FuncData) (ps:List Str) (ds:List Value):Prop :=
 ∀ (s:Shared) (us:List Value),K.In s.heap->(us++ds).length=ps.length->BindsTo s fd ⟨us,[]⟩ (ps.zip (us++ds))
theorem Binds.all {K:PySem.W.Frag}{fd:FuncData}{ps:List Str}(h:∀ us:List Value,us.length=ps.length->bindArgs fd ⟨us,[]⟩=pure (ps.zip us)):Binds K fd ps []:=fun s us _ hl=>by
 rw [List.append_nil] at hl ⊢;exact .of_eq (h us hl)
noncomputable def Passes (CX:CXT) (X:Cx) (E:XK):Prop:=∀ (pins:List (Addr×Obj)) (σ:St) (H:Hp) (s:Shared) (e:Value) (s':Shared),Inv X pins σ H s->CX X.stack H s E e s'->X.xe e s'
section
variable {X:Cx}{CX:CXT}{k:Nat}{f C:Addr}{fd:FuncData}{ps:List Str}{sp:Sp}{dvs:List V}{ds:List Value}{E:XK}{x m:Str}{p pos apos:Pos}{e o:Expr}{es:List Expr}{ta:TE}{t:TA}
theorem run_fn {pins:List (Addr×Obj)}{σ:St}{H:Hp}{s:Shared}{Q:VK}{us:List Value}{vs:List V}(F:FnOk X.prog X.w X.K X.mg X.base CX k f fd ps sp) (hr:Room k X.A) (hb:Binds X.K fd ps ds) (hd:Vals dvs ds) (hx:Passes CX X E)
  (I:Inv X pins σ H s) (r:Vals vs us) (h:sp (vs++dvs) H Q E):wpAny (model X.prog X.w) X.A (call (.ref f) us) (EP X pins σ Q) X.xe s:=by
 have r2:Vals (vs++dvs) (us++ds):=r.append hd;have hl:(us++ds).length=ps.length:=by rw [← r2.length];exact F.len _ _ _ _ h
 refine wpAny_call (codeAny_mono (F.run X.A X.stack s H ⟨us,[]⟩ (us++ds) (vs++dvs) Q E hr I.env0 (hb s us I.kIn hl) r2 h) fun r s' hq=>?_);cases r with
 | error e=>exact hx pins σ H s e s' I hq
 | ok fl =>
  cases fl with
  | ret u=>exact I.after hq
  | next=>exact False.elim hq
  | brk=>exact False.elim hq
  | cont=>exact False.elim hq
theorem pe_call (F:FnOk X.prog X.w X.K X.mg X.base CX k f fd ps sp) (hr:Room k X.A) (hg:Gl X x) (hm:X.mg x=some (.ref f)) (hk:PySem.W.keepIn X.K (.ref f)=true) (hb:Binds X.K fd ps ds) (hd:Vals dvs ds) (hx:Passes CX X E)
  (ha:PA X (e::es) t) (hdb:(x==("__debug__":Str))=false:=by decide) (he:starEach (e::es) X.env=(false,eval e X.env)::starEach es X.env:=by rfl) (hpl:(backTo pos (starEach es X.env)).any (·.1)=false:=by rfl) :
  PE X (.Call (.Name x p) (e::es) [] pos) (tCall sp dvs E t):=by
 intro pins s σ H Q I h;refine wpAny_Call_Name_kw (ld_glob I hg hm ?_ hdb);refine PySem.W.callWith_K (h₀:=X.base) I.ok.mod.kin hk (thn (ha pos pins s σ H _ I h) fun us s1 ⟨vs,H1,I1,r,q⟩=>⟨I1.kIn,?_⟩) he hpl;exact run_fn F hr hb hd hx I1 r q
theorem pe_call0 (F:FnOk X.prog X.w X.K X.mg X.base CX k f fd ps sp) (hr:Room k X.A) (hg:Gl X x) (hm:X.mg x=some (.ref f)) (hk:PySem.W.keepIn X.K (.ref f)=true) (hb:Binds X.K fd ps ds) (hd:Vals dvs ds) (hx:Passes CX X E)
  (hdb:(x==("__debug__":Str))=false:=by decide):PE X (.Call (.Name x p) [] [] pos) (tCall sp dvs E tNil):=by
 intro pins s σ H Q I h;refine wpAny_Call_Name_kw (ld_glob I hg hm ?_ hdb);exact PySem.W.callWith_K0 I.kIn hk (run_fn (us:=[]) F hr hb hd hx I .nil h)
structure Mk (K:PySem.W.Frag) (C f:Addr):Prop where
 makes:PySem.W.makesIn K C=true
 init:PySem.W.findIn K (.ref C) "__init__"=some (some (.ref f))
 fn:PySem.W.isFn K (.ref f)=true
 kp:PySem.W.keepIn K (.ref C)=true
end
section
variable {X:Cx}{CX:CXT}{k:Nat}{f C:Addr}{fd:FuncData}{ps ks:List Str}{sp:Sp}{E:XK}{x m:Str}{p pos apos kpos:Pos}{e o:Expr}{es:List Expr}{kws:List Keyword}{te ta:TE}{t tk:TA}{nm:Option Str}
variable {g:List Value->List Value->List Value}{gV:List V->List V->List V}
end
structure FnScope (N P:List Str) (sc:Scope):Prop where
 kind:sc.kind=.function
 co:sc.isCoroutine=false
 gen:sc.isGenerator=false
 nd:N.Nodup
 pre:N.take P.length=P
 par:∀ x∈P,sc.names.lookup x=some .local\/sc.names.lookup x=some .cell
 nofree:∀ y∈sc.names,y.2≠.free
theorem bindL_out {kindOf:Str->Option NameKind}{x:Str}:∀ {binds:List (Str×Value)}{m:Str->Option Value},(∀ v,(x,v) ∉ binds)->bindL kindOf binds m x=m x
 | [],_,_=>rfl
 | (n,v)::r,m,h=>by
  unfold bindL;rw [bindL_out fun w hw=>h w (List.mem_cons_of_mem _ hw)];split
  ·have:x≠n:=by rintro rfl;exact h v List.mem_cons_self
   simp [this]
  ·rfl
theorem bindC_out {kindOf:Str->Option NameKind}{x:Str}:∀ {binds:List (Str×Value)}{m:Str->Option Value},(∀ v,(x,v) ∉ binds)->bindC kindOf binds m x=m x
 | [],_,_=>rfl
 | (n,v)::r,m,h=>by
  unfold bindC;rw [bindC_out fun w hw=>h w (List.mem_cons_of_mem _ hw)];split
  ·rfl
  ·have:x≠n:=by rintro rfl;exact h v List.mem_cons_self
   simp [this]
theorem bindL_get {kindOf:Str->Option NameKind}{x:Str}{v:Value}:∀ {P:List Str}{vs:List Value}{i:Nat}{m:Str->Option Value},P.Nodup->P[i]?=some x->vs[i]?=some v->kindOf x=some .local ->
  bindL kindOf (P.zip vs) m x=some v
 | [],_,_,_,_,h,_,_=>by simp at h
 | _::_,[],_,_,_,_,h,_=>by simp at h
 | p::P,w::vs,0,m,nd,h1,h2,hk=>by
  simp at h1 h2;subst h1;subst h2;show bindL kindOf ((p,w)::P.zip vs) m p=_;unfold bindL;rw [bindL_out fun v hv=>(List.nodup_cons.mp nd).1 (List.of_mem_zip hv).1,if_pos hk];simp
 | p::P,w::vs,i+1,m,nd,h1,h2,hk=>by
  show bindL kindOf ((p,w)::P.zip vs) m x=_;unfold bindL;exact bindL_get (i:=i) (List.nodup_cons.mp nd).2 (by simpa using h1) (by simpa using h2) hk
theorem bindC_get {kindOf:Str->Option NameKind}{x:Str}{v:Value}:∀ {P:List Str}{vs:List Value}{i:Nat}{m:Str->Option Value},P.Nodup->P[i]?=some x->vs[i]?=some v->kindOf x≠some .local ->
  bindC kindOf (P.zip vs) m x=some v
 | [],_,_,_,_,h,_,_=>by simp at h
 | _::_,[],_,_,_,_,h,_=>by simp at h
 | p::P,w::vs,0,m,nd,h1,h2,hk=>by
  simp at h1 h2;subst h1;subst h2;show bindC kindOf ((p,w)::P.zip vs) m p=_;unfold bindC;rw [bindC_out fun v hv=>(List.nodup_cons.mp nd).1 (List.of_mem_zip hv).1,if_neg hk];simp
 | p::P,w::vs,i+1,m,nd,h1,h2,hk=>by
  show bindC kindOf ((p,w)::P.zip vs) m x=_;unfold bindC;exact bindC_get (i:=i) (List.nodup_cons.mp nd).2 (by simpa using h1) (by simpa using h2) hk
noncomputable def start (N:List Str) (vs:List V):St:=vs.map some++List.replicate (N.length - vs.length) none
noncomputable def cxOf (CX:CXT) (P:Program) (w:World) (K:PySem.W.Frag) (mg:Str->Option Value) (base:Heap) (N:List Str) (qual:Str) (scope:Scope) (f:Addr) (cd:Value) (A:Around) (outer:List Env) (s:Shared) (H:Hp) (E:XK):Cx where
 prog:=P
 w:=w
 K:=K
 mg:=mg
 base:=base
 A:=A.deeper (envOfC qual scope s.heap.objs.size f cd)
 N:=N
 s₀:=s
 H₀:=H
 env:=envOfC qual scope s.heap.objs.size f cd
 outer:=outer
 stack:=envOfC qual scope s.heap.objs.size f cd::outer
 ex:=[]
 calm:=true
 fn:=fun _=>true
 pn:=[]
 xe:=fun e s'=>wpAny (model P w) (A.deeper (envOfC qual scope s.heap.objs.size f cd)) (leaving (envOfC qual scope s.heap.objs.size f cd) e) (fun _ s''=>CX outer H s E e s'') (fun e' s''=>CX outer H s E e' s'') s'
theorem cell_has {sc:Scope}{n:Nat}{x:Str}(h:sc.names.lookup x=some .cell):∃ c,(cellsFrom n sc.names []).lookup x=some c:=by
 have q:=PySem.W.cellsFrom_some sc.names n [] (.inl h);exact Option.isSome_iff_exists.mp q
theorem inv_start {CX:CXT}{P:Program}{w:World}{K:PySem.W.Frag}{mg:Str->Option Value}{base:Heap}{N ps:List Str}{qual:Str}{scope:Scope}{f:Addr}{cd:Value}{A:Around}{outer:List Env}{s s1:Shared}{H:Hp}{E:XK}{us:List Value}{vs:List V}
  (S:FnScope N ps scope) (hd:A.handled=none) (e0:Env0 P w K mg base A outer s H) (hl:vs.length=ps.length) (r:Vals vs us)
  (x:InCallC s s.heap.objs.size (bindL (envOfC qual scope s.heap.objs.size f cd).kindOf (ps.zip us) fun _=>none) (cellsFrom (s.heap.objs.size+1) scope.names []) (bindC (envOfC qual scope s.heap.objs.size f cd).kindOf (ps.zip us) fun _=>none) s1) :
  Inv (cxOf CX P w K mg base N qual scope f cd A outer s H E) [] (start N vs) H s1:=by
 have hpl:ps.length<=N.length:=by have:=congrArg List.length S.pre;rw [List.length_take] at this;omega
 obtain ⟨h1,tk,rfl,hk⟩:=x.done;have noA:∀ b:Addr,b ∉ (cxOf CX P w K mg base N qual scope f cd A outer s H E).ex:=fun b z=>absurd (show b∈([]:List Addr) from z) (by simp)
 refine ⟨⟨e0.mod,S.kind,rfl,rfl,Nat.le_refl _,fun y z c h1 h2=>?_,fun y hy=>?_,fun y c _ h=>?_,fun _=>hd,Around.frames_deeper e0.frames,.inr ⟨rfl,rfl⟩,fun b z=>absurd z (noA b),e0.bs,e0.bsz,fun b _ _=>noA b,fun b z=>absurd z (noA b),e0.funs,e0.frf⟩,
  rfl,e0.bare,Un.kept hk,⟨_,x.toInCall.ns,fun i y v h1 h2 h3=>?_⟩,fun y c h=>⟨_,x.cell y c h⟩,e0.hok.fresh (Nat.le_refl _),fun y c h=>?_,fun p hp=>absurd (show p∈([]:List (Addr×Obj)) from hp) (by simp),e0.hok.kept hk,?_⟩
 ·exact name_of_addr x.apart (PySem.mem_of_lookup h1) (PySem.mem_of_lookup h2)
 ·have hy:scope.names.lookup y=some .cell\/scope.names.lookup y=some .free:=hy;rcases hy with hy|hy
  ·exact cell_has hy
  ·exact absurd rfl (S.nofree _ (PySem.mem_of_lookup hy))
 ·exact Nat.le_of_lt (x.above y c (PySem.mem_of_lookup h))
 ·have hi:i < vs.length:=by
   unfold start at h2
   by_cases hi:i < vs.length
   ·exact hi
   ·rw [List.getElem?_append_right (by simpa using hi)] at h2;rw [List.getElem?_replicate] at h2;split at h2 <;> cases h2
  have ha:vs[i]?=some v:=by
   unfold start at h2;rw [List.getElem?_append_left (by simpa using hi),List.getElem?_map] at h2;cases e:vs[i]? with
   | none=>rw [e] at h2;cases h2
   | some a=>rw [e] at h2;cases h2;rfl
  obtain ⟨u,hu,rv⟩:=r.get ha;have hp:ps[i]?=some y:=by
   rw [← S.pre,List.getElem?_take_of_lt (by omega)];exact h1
  have ndP:ps.Nodup:=by rw [← S.pre];exact S.nd.sublist (List.take_sublist _ _)
  refine ⟨u,rv,?_⟩;rcases S.par y (List.mem_of_getElem? hp) with k|k
  ·exact .inl ⟨k,bindL_get ndP hp hu k⟩
  ·obtain ⟨c,e⟩:=cell_has (n:=s.heap.objs.size+1) k;refine .inr ⟨.inl k,c,e,?_⟩;have q:=x.cell y c e;rw [bindC_get ndP hp hu (by show scope.names.lookup y≠_;rw [k];decide)] at q;exact q
 ·exact e0.hok.fresh (Nat.le_of_lt (x.above y c (PySem.mem_of_lookup h)))
 ·unfold start;show _=N.length;rw [List.length_append,List.length_map,List.length_replicate];omega
theorem fn_of {CX:CXT}{P:Program}{w:World}{K:PySem.W.Frag}{mg:Str->Option Value}{base:Heap}{k:Nat}{f:Addr}{name qual:Str}{params:Arguments}{body:List Stmt}{scope:Scope}{dV kV doc pm cdv ct oc:Value}{an od:Option Addr}
  {osl:Array (Option Value)} {N ps:List Str} {sp:Sp} (lk:K.lookup f=some ⟨oc,od,.func (PySem.W.fnOf name qual params body scope dV kV doc pm an cdv ct),osl⟩) (hcd:PySem.W.codeIn K cdv qual=true) (S:FnScope N ps scope)
  (len:∀ vs H Q E,sp vs H Q E->vs.length=ps.length)
  (hbody:∀ (A:Around) (outer:List Env) (s:Shared) (H:Hp) (vs:List V) (Q:VK) (E:XK),Room k (A.deeper (envOfC qual scope s.heap.objs.size f cdv))->sp vs H Q E ->
   ∃ t,PSs (cxOf CX P w K mg base N qual scope f cdv A outer s H E) body t/\t { nx:=fun _ H'=>Q .non H',rt:=Q } (start N vs) H) :
  FnOk P w K mg base CX (k+1) f (PySem.W.fnOf name qual params body scope dV kV doc pm an cdv ct) ps sp:=by
 refine ⟨len,fun A outer s H args us vs Q E hr e0 hb r hsp=>?_⟩;have hl:=len _ _ _ _ hsp;have KX:K.In s.heap:=e0.mod.kin.keeps fun b o e=>(e0.bs b o e).1
 have lim:s.heap.NoLimit:=e0.mod.nolimit.keeps fun b o e=>(e0.bs b o e).1
 have hkind:∀ y∈ps.zip us,scope.names.lookup y.1=some .local\/(scope.names.lookup y.1=some .cell/\((cellsFrom (s.heap.objs.size+1) scope.names []).lookup y.1).isSome=true):=by
  rintro ⟨n,v⟩ hy;rcases S.par n (List.of_mem_zip hy).1 with q|q
  ·exact .inl q
  ·exact .inr ⟨q,PySem.W.cellsFrom_some _ _ _ (.inl q)⟩
 refine codeAny_call_function hr.depth (KX _ _ lk) rfl S.co S.gen rfl (PySem.W.codeRec_of KX hcd) (hb _ _ _ _ ?_);refine wpAny_newFunctionEnv_cells S.kind hkind fun env he s1 x=>?_
 subst he;refine ⟨lim.keeps x.toInCall.keep,codeAny_func ?_⟩;obtain ⟨t,ht,hq⟩:=hbody A outer s H vs Q E (hr.deeper _) hsp;have I:Inv (cxOf CX P w K mg base N qual scope f cdv A outer s H E) [] (start N vs) H s1:=inv_start S hr.hd e0 hl r x;refine wpAny_mono (ht [] s1 (start N vs) H _ I hq) (fun fl s' hs=>?_) fun e s' hs=>hs
 have fin:∀ {σ':St} {H':Hp} {v:V} {u:Value},Inv (cxOf CX P w K mg base N qual scope f cdv A outer s H E) [] σ' H' s'->RelV v u->Q v H'->CE outer P w H s Q u s' :=
  fun {σ' H' v u} J rv q=>⟨v,H',J.os,J.bare,J.base,J.hok,rv,q⟩
 cases fl with
 | ret u =>
  obtain ⟨v,σ',H',J,rv,q⟩:=hs;exact fin J rv q
 | next =>
  obtain ⟨σ',H',J,q⟩:=hs;exact fin (v:=V.non) (u:=Value.none) J rfl q
 | brk =>
  obtain ⟨_,_,_,q⟩:=hs;exact False.elim q
 | cont =>
  obtain ⟨_,_,_,q⟩:=hs;exact False.elim q
section
variable {X:Cx}{x:Str}{p pos:Pos}{e:Expr}{es:List Expr}{t:TA}{id T:String}{r:List V->Hp->VK->Prop}
noncomputable def tCB (r:List V->Hp->VK->Prop) (t:TA):TE:=fun σ H Q=>t σ H fun vs H1=>r vs H1 Q
theorem pe_callB (hc:CallR X (.builtin id) r) (hg:Gl X x) (hm:X.mg x=none) (hv:bootBuiltins x=some (.builtin id)) (ha:PA X (e::es) t) (hn:x ≠ "__name__":=by decide) (hdb:(x==("__debug__":Str))=false:=by decide)
  (he:starEach (e::es) X.env=(false,eval e X.env)::starEach es X.env:=by rfl) (hpl:(backTo pos (starEach es X.env)).any (·.1)=false:=by rfl):PE X (.Call (.Name x p) (e::es) [] pos) (tCB r t):=by
 intro pins s σ H Q I h;refine wpAny_Call_Name_kw (ld_blt I hg hm hv ?_ hn hdb);exact PyProof.Rows.callWith_builtin1 (thn (ha pos pins s σ H _ I h) fun us s1 ⟨vs,H1,I1,r1,q1⟩=>hc pins s1 σ H1 vs us Q I1 r1 q1) he hpl
theorem pe_callTy (hc:CallR X (.type T) r) (hg:Gl X x) (hm:X.mg x=none) (hv:bootBuiltins x=some (.type T)) (ha:PA X (e::es) t) (hn:x ≠ "__name__":=by decide) (hdb:(x==("__debug__":Str))=false:=by decide)
  (he:starEach (e::es) X.env=(false,eval e X.env)::starEach es X.env:=by rfl) (hpl:(backTo pos (starEach es X.env)).any (·.1)=false:=by rfl):PE X (.Call (.Name x p) (e::es) [] pos) (tCB r t):=by
 intro pins s σ H Q I h;refine wpAny_Call_Name_kw (ld_blt I hg hm hv ?_ hn hdb);exact PyProof.Rows.callWith_type1 (thn (ha pos pins s σ H _ I h) fun us s1 ⟨vs,H1,I1,r1,q1⟩=>hc pins s1 σ H1 vs us Q I1 r1 q1) he hpl
end
end L2
namespace HT
open PySem PyProof.Rows
section
open PySem.SeqAt
open PySem.AutoSeq1 (wpAny_loadPart')
open PySem.MeetsSeq PySem.MeetsSeq2 PySem.MeetsSeq3
end
section
variable {prog:Program}{w:World}{A:Around}{E:Value->Shared->Prop}{s:Shared}
theorem cat_tup {t b:Addr}{vs ws:List Value}{Q:Value->Shared->Prop}(ht:IsTup s.heap t vs.toArray) (hb:IsTup s.heap b ws.toArray) (hv:vs≠[])
  (h1:ws=[]->Q (.ref t) s) (h2:ws≠[]->Q (.ref s.heap.objs.size) { s with heap:=s.heap.push { cls:=.type "tuple",data:=.seq (vs++ws).toArray } })
  (hsz:vs.length+ws.length<=sizeLine):wpAny (model prog w) A (binaryOp .Add (.ref t) (.ref b)) Q E s:=by
 obtain ⟨⟨cls,dd,data,sl⟩,ho,hc,n,hd⟩:=id ht;obtain ⟨⟨cls2,dd2,data2,sl2⟩,ho2,hc2,n2,hd2⟩:=id hb;simp only at hc hd hc2 hd2;subst hc hd hc2 hd2;have e:vs.toArray++ws.toArray=(vs++ws).toArray:=by simp
 by_cases hw:ws=[]
 ·exact concat_meets ⟨_,ho,rfl⟩ ⟨_,ho2,rfl⟩ noFill_tuple_add seq_tuple_add PySem.F.slot_tuple_add PySem.F.entry_tuple_add (PySem.F.args_tuple_add_2 _ _)
   (tuple_addW1 t b vs.toArray ws.toArray n n2 dd dd2 sl sl2 (by simpa using hv) (by simp [hw])) ⟨ho,ho2,h1 hw⟩
 ·refine concat_meets ⟨_,ho,rfl⟩ ⟨_,ho2,rfl⟩ noFill_tuple_add seq_tuple_add PySem.F.slot_tuple_add PySem.F.entry_tuple_add (PySem.F.args_tuple_add_2 _ _)
   (tuple_addW2 t b vs.toArray ws.toArray n n2 dd dd2 sl sl2 (by simpa using hv) (by simpa using hw) (by rw [List.size_toArray,List.size_toArray];exact hsz)) ⟨ho,ho2,?_⟩
  rw [e];exact h2 hw
noncomputable def sIx (n d:Nat):Option Int->Nat
 | none=>d
 | some v=>if v < 0 then (v+(n:Int)).toNat else min v.toNat n
theorem sIx_none (n d:Nat):sIx n d none=d:=rfl
theorem sIx_nat (n d k:Nat):sIx n d (some (k:Int))=min k n:=by
 show (if (k:Int) < 0 then ((k:Int)+(n:Int)).toNat else min (k:Int).toNat n)=min k n;rw [if_neg (by omega),Int.toNat_natCast]
theorem sIx_le (n d:Nat) (hd:d<=n) (o:Option Int):sIx n d o<=n:=by
 cases o with
 | none=>exact hd
 | some v =>
  show (if v < 0 then (v+(n:Int)).toNat else min v.toNat n)<=n
  by_cases hv:v < 0
  ·rw [if_pos hv];omega
  ·rw [if_neg hv];exact Nat.min_le_right _ _
theorem clip_eq (v:Int) (n d:Nat):(if v < 0 then max (v+(n:Int)) 0 else min v (n:Int))=((sIx n d (some v):Nat):Int):=by
 show (if v < 0 then max (v+(n:Int)) 0 else min v (n:Int))=(((if v < 0 then (v+(n:Int)).toNat else min v.toNat n):Nat):Int)
 by_cases hv:v < 0
 ·simp only [if_pos hv];omega
 ·simp only [if_neg hv];omega
theorem adjust_gen (lo hi:Option Int) (n:Nat):Builtin.Slice.sliceAdjust lo hi 1 (n:Int)=(((sIx n 0 lo:Nat):Int),((sIx n n hi:Nat):Int)):=by
 have h1:¬ ((1:Int) < 0):=by omega
 unfold Builtin.Slice.sliceAdjust;simp only [h1,if_false];refine Prod.ext ?_ ?_
 ·cases lo with
  | none=>rfl
  | some v=>exact clip_eq v n 0
 ·cases hi with
  | none=>rfl
  | some v=>exact clip_eq v n n
theorem places_gen (i j:Nat):Builtin.Slice.slicePlaces (i:Int) (j:Int) 1=j - i:=by
 unfold Builtin.Slice.slicePlaces;have h1:(1:Int) > 0:=by omega
 simp only [h1,if_true,Int.ediv_one];split <;> omega
theorem slicePart_ {v:Value}{o:Option Int}{Q:Option Int->Shared->Prop}(p:IsPart v o) (h:Q o s):wpAny (model prog w) A (Builtin.Slice.slicePartIndex v) Q E s:=by
 cases p with
 | none=>exact slicePart_none h
 | int i t=>exact slicePart_int h
theorem sliceApplied_gen {sl:Addr}{vl vu:Value}{lo hi:Option Int}{n:Nat}{Q:Int×Int×Nat->Shared->Prop}(hs:s.heap.IsSliceOf sl vl vu .none) (pl:IsPart vl lo) (pu:IsPart vu hi)
  (h:Q (((sIx n 0 lo:Nat):Int),1,sIx n n hi - sIx n 0 lo) s):wpAny (model prog w) A (Builtin.Slice.sliceApplied (.ref sl) (pure (n:Int))) Q E s:=by
 obtain ⟨os,hos,hcs,hds⟩:=id hs;unfold Builtin.Slice.sliceApplied Builtin.Slice.sliceFields;refine wpAny_bind (wpAny_bind (wpAny_field hos hds (x:=vl) rfl (wpAny_bind (wpAny_field hos hds (x:=vu) rfl (wpAny_bind (wpAny_field hos hds (x:=.none) rfl (wpAny_pure ?_)))))));refine wpAny_bind (slicePart_none ?_);show wpAny _ _ (if ((1:Int)==0)=true then _ else _) _ _ s;rw [if_neg (by decide)];refine wpAny_bind (slicePart_ pl (wpAny_bind (slicePart_ pu (wpAny_bind (wpAny_pure ?_)))));show wpAny _ _ (match Builtin.Slice.sliceAdjust lo hi 1 (n:Int) with | (lo,hi)=>pure (lo,(1:Int),Builtin.Slice.slicePlaces lo hi 1)) _ _ s;rw [adjust_gen lo hi n];show wpAny _ _ (pure (((sIx n 0 lo:Nat):Int),(1:Int),Builtin.Slice.slicePlaces ((sIx n 0 lo:Nat):Int) ((sIx n n hi:Nat):Int) 1)) _ _ s;rw [places_gen];exact wpAny_pure h
theorem pick_gen (xs:Array Value) (i k:Nat):((List.range k).filterMap fun (m:Nat)=>xs[((i:Int)+(m:Int) * 1).toNat]?).toArray=((xs.toList.drop i).take k).toArray:=by
 have e:(fun (m:Nat)=>xs[((i:Int)+(m:Int) * 1).toNat]?)=fun m=>xs[i+m]?:=by
  funext m;have:((i:Int)+(m:Int) * 1).toNat=i+m:=by omega
  rw [this]
 rw [e];have:=pick_run xs i k;rw [List.filterMap_map] at this;have e2:((fun x=>xs[x]?) ∘ fun x=>i+x)=fun m=>xs[i+m]?:=rfl
 rw [e2] at this;rw [this]
theorem getItem_tuple_cut {t sl:Addr}{items:Array Value}{vl vu:Value}{lo hi:Option Int}{Q:Value->Shared->Prop}(ht:IsTup s.heap t items) (hs:s.heap.IsSliceOf sl vl vu .none) (pl:IsPart vl lo) (pu:IsPart vu hi)
  (hw:¬ (sIx items.size 0 lo=0/\sIx items.size items.size hi=items.size))
  (h:Q (.ref s.heap.objs.size) { s with heap:=s.heap.push { cls:=.type "tuple",data:=.seq ((items.toList.drop (sIx items.size 0 lo)).take (sIx items.size items.size hi - sIx items.size 0 lo)).toArray } })
  (hsz:items.size<=sizeLine):wpAny (model prog w) A (getItem (.ref t) (.ref sl)) Q E s:=by
 have htake:sizeOk (.seq ((items.toList.drop (sIx items.size 0 lo)).take (sIx items.size items.size hi - sIx items.size 0 lo)).toArray):=by
  show ((items.toList.drop (sIx items.size 0 lo)).take (sIx items.size items.size hi - sIx items.size 0 lo)).toArray.size<=sizeLine;rw [List.size_toArray,List.length_take,List.length_drop,Array.length_toList];omega
 have hj:sIx items.size items.size hi<=items.size:=sIx_le _ _ (Nat.le_refl _) hi;obtain ⟨os,hos,hcs,hds⟩:=id hs
 have hTs:s.TypeIs (.ref sl) "slice":=⟨os,hos,hcs⟩
 unfold getItem
 try with_reducible refine wpAny_holding ?_
 first | refine wpAny_bind (wpAny_pure ?_) | skip
 refine wpAny_bind (wpAny_sequenceKey ht.typeIs (by decide) ?_)
 refine wpAny_bind (wpAny_callSpecial?_slot (name:=Str.ofString "__getitem__") ht.typeIs PyProof.Rows.slot_tuple_getitem
  (wpAny_call_entry PyProof.Rows.slot_tuple_getitem ht.typeIs entry_tuple_getitem ?_ (args_tuple_getitem _ _)))
 show wpAny _ _ (Builtin.Tuple.tupleItemsOf (.ref t) >>= _) _ _ s;refine wpAny_bind (tupleItemsOf_ ht ?_);refine wpAny_bind (wpAny_typeOf hTs ?_);rw [if_pos (by decide)];refine wpAny_bind (sliceApplied_gen hs pl pu ?_);have hno:¬ ((((sIx items.size 0 lo:Nat):Int)==0&&(1:Int)==1&&(sIx items.size items.size hi - sIx items.size 0 lo)==items.size)=true):=by
  intro q;rw [Bool.and_eq_true,Bool.and_eq_true] at q;have q1:((sIx items.size 0 lo:Nat):Int)=0:=eq_of_beq q.1.1;have q2:sIx items.size items.size hi - sIx items.size 0 lo=items.size:=eq_of_beq q.2;exact hw ⟨by omega,by omega⟩
 show wpAny _ _ (if (((sIx items.size 0 lo:Nat):Int)==0&&(1:Int)==1&&(sIx items.size items.size hi - sIx items.size 0 lo)==items.size)=true then _ else _) _ _ s;rw [if_neg hno,pick_gen]
 first
  | exact wpAny_bind (m:=Builtin.Tuple.tupleExact _) (wpAny_newObj_type (wpAny_pure ⟨_,rfl,wpAny_pure h⟩) htake)
  | exact wpAny_bind (m:=Builtin.Tuple.tupleExact _) (wpAny_newObj_type (wpAny_bind (wpAny_pure (wpAny_pure ⟨_,rfl,wpAny_pure h⟩))) htake)
  | exact wpAny_bind (wpAny_bind (m:=Builtin.Tuple.tupleExact _) (wpAny_newObj_type (wpAny_pure (wpAny_pure ⟨_,rfl,wpAny_pure h⟩)) htake))
  | exact wpAny_bind (wpAny_bind (m:=Builtin.Tuple.tupleExact _) (wpAny_newObj_type (wpAny_pure ⟨_,rfl,wpAny_pure h⟩) htake))
end
end HT
namespace L2
open PySem PySem.Spec PyProof.Rows
noncomputable abbrev TO:=St->Hp->(Option Int->Hp->Prop)->Prop
noncomputable def PO (X:Cx) (e:Option Expr) (t:TO):Prop :=
 ∀ (pins:List (Addr×Obj)) (s:Shared) (σ:St) (H:Hp) (Q:Option Int->Hp->Prop),Inv X pins σ H s->t σ H Q ->
  wpAny (model X.prog X.w) X.A (evalPart e X.env) (fun u s'=>∃ o H',Inv X pins σ H' s'/\IsPart u o/\Q o H') X.xe s
noncomputable def tNoPart:TO:=fun _ H Q=>Q none H
noncomputable def tPart (t:TE):TO:=fun σ H Q=>t σ H fun x H1=>∃ i,x=.int i/\Q (some i) H1
theorem intsAre_of {ns:List Int}:∀ {us:List Value},Vals (ns.map V.int) us->IntsAre us ns:=by
 induction ns with
 | nil=>intro us r;rw [List.map_nil] at r;cases r;exact .nil
 | cons n ns ih =>
  intro us r;rw [List.map_cons] at r;cases r with
  | cons r1 r2 =>
   obtain ⟨t,e⟩:=r1;subst e;exact .cons n t (ih r2)
section
variable {X:Cx}{e:Expr}{te:TE}{lo hi:Option Expr}{tl th:TO}{pos p2:Pos}
theorem po_none:PO X none tNoPart:=by
 intro pins s σ H Q I h;rw [evalPart_none];exact wpAny_pure ⟨none,H,I,.none,h⟩
theorem po_some (h:PE X e te):PO X (some e) (tPart te):=by
 intro pins s σ H Q I hw;rw [evalPart_some];refine thn (h pins s σ H _ I hw) ?_;rintro u s1 ⟨x,H1,I1,r1,q1⟩;obtain ⟨i,rfl,q⟩:=q1;obtain ⟨t,rfl⟩:=r1;exact ⟨some i,H1,I1,.int i t,q⟩
noncomputable def SlR (X:Cx) (r:V->Option Int->Option Int->Hp->VK->Prop):Prop :=
 ∀ (pins:List (Addr×Obj)) (s:Shared) (σ:St) (H:Hp) (x:V) (v vl vu:Value) (lo hi:Option Int) (sl:Addr) (Q:VK),Inv X pins σ H s->RelV x v->s.heap.IsSliceOf sl vl vu .none->IsPart vl lo->IsPart vu hi->r x lo hi H Q ->
  ∃ T id,typeLookup (.type T) "__getitem__"=pure (some (.builtin id))/\s.TypeIs v T/\wpAny (model X.prog X.w) X.A (getItem v (.ref sl)) (EP X pins σ Q) X.xe s
theorem SlR.or {r r':V->Option Int->Option Int->Hp->VK->Prop}(h:SlR X r) (h':SlR X r'):SlR X (fun x lo hi H Q=>r x lo hi H Q\/r' x lo hi H Q):=by
 intro pins s σ H x v vl vu lo hi sl Q I rx hs pl pu q;rcases q with q|q
 ·exact h pins s σ H x v vl vu lo hi sl Q I rx hs pl pu q
 ·exact h' pins s σ H x v vl vu lo hi sl Q I rx hs pl pu q
noncomputable def tSl (r:V->Option Int->Option Int->Hp->VK->Prop) (te:TE) (tl th:TO):TE:=fun σ H Q=>te σ H fun x H1=>tl σ H1 fun l H2=>th σ H2 fun u H3=>r x l u H3 Q
theorem pe_slice {r:V->Option Int->Option Int->Hp->VK->Prop}(hr:SlR X r) (he:PE X e te) (hl:PO X lo tl) (hu:PO X hi th):PE X (.Subscript e (.Slice lo hi none p2) pos) (tSl r te tl th):=by
 intro pins s σ H Q I h;refine Subscript_ (thn (he pins s σ H _ I h) ?_);rintro v s1 ⟨x,H1,I1,r1,q1⟩;refine wpAny_Slice (thn (hl pins s1 σ H1 _ I1 q1) ?_);rintro vl s2 ⟨l,H2,I2,pl,q2⟩;refine thn (hu pins s2 σ H2 _ I2 q2) ?_;rintro vu s3 ⟨u,H3,I3,pu,q3⟩;rw [evalPart_none];refine wpAny_pure ?_
 have I4:Inv X pins σ H3 { s3 with heap:=s3.heap.push { cls:=.type "slice",data:=.fields #[vl,vu,.none] } }:=I3.kept (t':=s3.toks) fun b ob q=>Heap.get?_push_of_some _ q
 obtain ⟨T,id,hT,ht,hg⟩:=hr pins { s3 with heap:=s3.heap.push { cls:=.type "slice",data:=.fields #[vl,vu,.none] } } σ H3 x v vl vu l u s3.heap.objs.size Q I4 r1 (Heap.IsSliceOf.new ..) pl pu q3
 show wpAny (model X.prog X.w) X.A (subscriptTail e (.Slice lo hi none p2) v (.ref s3.heap.objs.size)) (EP X pins σ Q) X.xe { s3 with heap:=s3.heap.push { cls:=.type "slice",data:=.fields #[vl,vu,.none] } };exact tail_any (ops:=[.ref s3.heap.objs.size,v]) ht hT hg (by with_unfolding_all rfl)
noncomputable def cutV (xs:List V) (lo hi:Option Int):List V:=(xs.drop (HT.sIx xs.length 0 lo)).take (HT.sIx xs.length xs.length hi - HT.sIx xs.length 0 lo)
theorem cutV_length (xs:List V) (lo hi:Option Int):(cutV xs lo hi).length<=xs.length:=by
 unfold cutV;rw [List.length_take,List.length_drop];omega
noncomputable def rSlT (K:PySem.W.Frag):V->Option Int->Option Int->Hp->VK->Prop:=fun x lo hi H Q=>∃ a xs,x=.ref a/\SqT K H a xs /\
 ¬ (HT.sIx xs.length 0 lo=0/\HT.sIx xs.length xs.length hi=xs.length)/\∀ p,H p=none->Q (.ref p) (upd H p (.tup (cutV xs lo hi)))
theorem sl_tup:SlR X (rSlT X.K):=by
 intro pins s σ H x v vl vu lo hi sl Q I rx hs pl pu h;obtain ⟨a,xs,rfl,hx,hw,q⟩:=h;cases rx;obtain ⟨its,r,ht,hz⟩:=I.tuple hx;have hlen:its.toArray.size=xs.length:=by rw [List.size_toArray];exact r.length.symm
 refine ⟨"tuple",_,PyProof.Rows.slot_tuple_getitem.lookup,ht.typeIs,?_⟩;refine HT.getItem_tuple_cut ht hs pl pu (by rw [hlen];exact hw) ?_ (by rw [hlen];exact hz);rw [hlen];refine ⟨.ref s.heap.objs.size,_,I.laid (t':=s.toks) (o:=.tup (cutV xs lo hi)) (fun b ob q=>Heap.get?_push_of_some _ q) (Nat.le_refl _) ?_,rfl,q _ (I.hok.fresh (Nat.le_refl _))⟩;exact ⟨Nat.le_trans (cutV_length xs lo hi) hz,_,(r.drop (HT.sIx xs.length 0 lo)).take (HT.sIx xs.length xs.length hi - HT.sIx xs.length 0 lo),TupP.new _ _⟩
noncomputable def rCatT (K:PySem.W.Frag):R2:=fun x y H Q=>∃ a b xs ys,x=.ref a/\y=.ref b/\SqT K H a xs/\SqT K H b ys/\xs≠[]/\xs.length+ys.length<=sizeLine /\
 (ys=[]->Q (.ref a) H)/\(ys≠[]->∀ p,H p=none->Q (.ref p) (upd H p (.tup (xs++ys))))
theorem Vals.nil_iff {xs:List V}{us:List Value}(r:Vals xs us):us=[] ↔ xs=[]:=by
 cases r with
 | nil=>simp
 | cons _ _=>simp
theorem op_catT:OpR X (binaryOp .Add) (rCatT X.K):=by
 intro pins s σ H x y v u Q I rx ry h;obtain ⟨a,b,xs,ys,rfl,rfl,ha,hb,hx,hz,q1,q2⟩:=h;cases rx;cases ry;obtain ⟨its,r1,p1,_⟩:=I.tuple ha;obtain ⟨its2,r2,p2,_⟩:=I.tuple hb;refine HT.cat_tup p1 p2 (fun z=>hx (r1.nil_iff.mp z)) (fun z=>⟨.ref a,H,I,rfl,q1 (r2.nil_iff.mp z)⟩) (fun z=>?_) (by rw [← r1.length,← r2.length];exact hz);refine ⟨.ref s.heap.objs.size,_,I.laid (t':=s.toks) (o:=.tup (xs++ys)) (fun b ob q=>Heap.get?_push_of_some _ q) (Nat.le_refl _) ?_,rfl,q2 (fun w=>z (r2.nil_iff.mpr w)) _ (I.hok.fresh (Nat.le_refl _))⟩;exact ⟨by rw [List.length_append];exact hz,_,r1.append r2,TupP.new _ _⟩
end
noncomputable def ixN (n:Nat) (i:Int):Option Nat:=if 0<=i then (if i < n then some i.toNat else none) else if -(n:Int)<=i then some (i+n).toNat else none
noncomputable def atI {α:Type}(xs:List α) (i:Int):Option α:=(ixN xs.length i).bind fun j=>xs[j]?
theorem ixN_seq {n:Nat}{i:Int}{j:Nat}(h:ixN n i=some j):seqIndex? i n=some j/\j < n/\-(n:Int)<=i/\i < n:=by
 unfold ixN at h
 by_cases h0:0<=i
 ·rw [if_pos h0] at h
  by_cases h1:i < n
  ·rw [if_pos h1] at h;have e:i.toNat=j:=Option.some.inj h;exact ⟨by rw [seqIndex_of h0 h1,e],by omega,by omega,h1⟩
  ·rw [if_neg h1] at h;cases h
 ·rw [if_neg h0] at h
  by_cases h1:-(n:Int)<=i
  ·rw [if_pos h1] at h;have e:(i+n).toNat=j:=Option.some.inj h;exact ⟨by rw [seqIndex_neg (by omega) h1,e],by omega,h1,by omega⟩
  ·rw [if_neg h1] at h;cases h
theorem atI_get {α:Type}{xs:List α}{i:Int}{v:α}(h:atI xs i=some v):∃ j,seqIndex? i xs.length=some j/\xs[j]?=some v/\j < xs.length/\-(xs.length:Int)<=i/\i < xs.length:=by
 unfold atI at h;cases e:ixN xs.length i with
 | none=>rw [e] at h;cases h
 | some j =>
  rw [e] at h;obtain ⟨h1,h2,h3,h4⟩:=ixN_seq e;exact ⟨j,h1,h,h2,h3,h4⟩
theorem atI_nat {α:Type}{xs:List α}{j:Nat}{v:α}(h:xs[j]?=some v):atI xs (j:Int)=some v:=by
 have hj:j < xs.length:=(List.getElem?_eq_some_iff.mp h).1;have e:ixN xs.length (j:Int)=some j:=by
  unfold ixN;rw [if_pos (by omega),if_pos (by omega)];simp
 unfold atI;rw [e];exact h
noncomputable def PlainIx (b:Expr):Prop:=∀ o i,subscripted b false o i=operate [o,i] (getItem o i)
noncomputable def IxR (X:Cx) (r:R2):Prop :=
 ∀ (value slice:Expr) (pins:List (Addr×Obj)) (s:Shared) (σ:St) (H:Hp) (x y:V) (v u:Value) (Q:VK),Inv X pins σ H s->RelV x v->RelV y u->r x y H Q ->
  subscripted slice false v u=operate [v,u] (getItem v u)->wpAny (model X.prog X.w) X.A (subscriptTail value slice v u) (EP X pins σ Q) X.xe s
noncomputable def MtR (X:Cx) (id:String) (r:V->List V->Hp->VK->Prop):Prop :=
 ∀ (pins:List (Addr×Obj)) (s:Shared) (σ:St) (H:Hp) (x:V) (xs:List V) (v:Value) (us:List Value) (Q:VK),Inv X pins σ H s->RelV x v->Vals xs us->r x xs H Q ->
  wpAny (model X.prog X.w) X.A (call (.builtin id) (v::us)) (EP X pins σ Q) X.xe s
section
variable {X:Cx}{a b:Expr}{ta tb:TE}{pos:Pos}
theorem IxR.or {r r':R2}(h:IxR X r) (h':IxR X r'):IxR X (fun x y H Q=>r x y H Q\/r' x y H Q):=by
 intro value slice pins s σ H x y v u Q I rx ry q hs;rcases q with q|q
 ·exact h value slice pins s σ H x y v u Q I rx ry q hs
 ·exact h' value slice pins s σ H x y v u Q I rx ry q hs
theorem pe_ix {r:R2}(hr:IxR X r) (ha:PE X a ta) (hb:PE X b tb) (hs:PlainIx b):PE X (.Subscript a b pos) (tOp r ta tb):=by
 intro pins s σ H Q I h;exact Subscript_ (binT ha hb I h fun v u s2 x y H2 I2 rx ry q=>hr a b pins s2 σ H2 x y v u Q I2 rx ry q (hs _ _))
noncomputable def rIxL (K:PySem.W.Frag):R2:=fun x y H Q=>∃ p xs i v,x=.ref p/\y=.int i/\SqL K H p xs/\atI xs i=some v/\Q v H
noncomputable def rIxT (K:PySem.W.Frag):R2:=fun x y H Q=>∃ p xs i v,x=.ref p/\y=.int i/\SqT K H p xs/\atI xs i=some v/\Q v H
noncomputable def rIxS:R2:=fun x y H Q=>∃ z i c,x=.str z/\y=.int i/\z.length<=sizeLine/\atI z.cps.toList i=some c/\Q (.str ⟨#[c]⟩) H
theorem ix_list:IxR X (rIxL X.K):=by
 intro value slice pins s σ H x y v u Q I rx ry h hs;obtain ⟨p,xs,i,z,rfl,rfl,hq,he,q⟩:=h;cases rx;obtain ⟨t,rfl⟩:=ry;obtain ⟨its,r,pl,hz⟩:=I.list hq;obtain ⟨j,h1,h2,h3,h4,h5⟩:=atI_get he;obtain ⟨w,ew,rw'⟩:=r.get h2;have hl:=r.length;have hn:=line63;have fin:EP X pins σ Q w s:=⟨z,H,I,rw',q⟩
 by_cases h0:0<=i
 ·have hj:i.toNat=j:=by
   rw [seqIndex_of h0 h5] at h1;exact Option.some.inj h1
  exact item_listR pl.isList h0 (by omega) (by rw [hj];simpa using ew) fin hs
 ·have hj:(i+(its.toArray.size:Int)).toNat=j:=by
   rw [seqIndex_neg (by omega) h4] at h1;rw [List.size_toArray,← hl];exact Option.some.inj h1
  exact subscriptTail_builtinR (x:=w) pl.isList.typeIs slot_list_getitem.lookup
   (wpAny_getItem_list_neg (Q:=fun r s'=>r=w/\EP X pins σ Q r s') pl.isList (by omega) (by rw [List.size_toArray] <;> omega) (by omega) (by rw [hj];simpa using ew) ⟨rfl,fin⟩) hs
theorem ix_tup:IxR X (rIxT X.K):=by
 intro value slice pins s σ H x y v u Q I rx ry h hs;obtain ⟨p,xs,i,z,rfl,rfl,hq,he,q⟩:=h;cases rx;obtain ⟨t,rfl⟩:=ry;obtain ⟨its,r,pl,hz⟩:=I.tuple hq;obtain ⟨j,h1,h2,h3,h4,h5⟩:=atI_get he;obtain ⟨w,ew,rw'⟩:=r.get h2;have hl:=r.length;have hn:=line63;have fin:EP X pins σ Q w s:=⟨z,H,I,rw',q⟩;exact subscriptTail_builtinR (x:=w) pl.typeIs slot_tuple_getitem.lookup
  (getItem_tuple (j:=j) (Q:=fun r s'=>r=w/\EP X pins σ Q r s') pl (by omega) (by omega) (by rw [List.size_toArray,← hl];exact h1) (by simpa using ew) ⟨rfl,fin⟩) hs
theorem ix_str:IxR X rIxS:=by
 intro value slice pins s σ H x y v u Q I rx ry h hs;obtain ⟨z,i,c,rfl,rfl,hz,he,q⟩:=h;obtain ⟨t,rfl⟩:=rx;obtain ⟨t',rfl⟩:=ry;obtain ⟨j,h1,h2,h3,h4,h5⟩:=atI_get he;have hl:z.cps.toList.length=z.length:=by simp [Str.length]
 rw [hl] at h1 h4 h5;have hn:=line63
 exact tail_any (typeIs_str s z t) slot_str_getitem.lookup (getItem_str (c:=c) (by
  have e1:decide (i < -(2 ^ 63:Int))=false:=decide_eq_false (by omega);have e2:decide (i ≥ 2 ^ 63)=false:=decide_eq_false (by omega)
  rw [e1,e2,Bool.or_false]) (by rw [h1];simpa using h2) ⟨.str ⟨#[c]⟩,H,I.tok _,⟨_,rfl⟩,q⟩) hs
noncomputable def rIx (K:PySem.W.Frag):R2:=fun x y H Q=>rIxL K x y H Q\/rIxT K x y H Q\/rIxS x y H Q
theorem ix_seq:IxR X (rIx X.K):=ix_list.or (ix_tup.or ix_str)
theorem mapSeq_set (its:List Value) (n j:Nat) (u:Value):Obj.mapSeq (·.setIfInBounds j u) { cls:=.type "list",data:=.seq its.toArray n }={ cls:=.type "list",data:=.seq (its.set j u).toArray n }:=by
 simp [Obj.mapSeq]
theorem Inv.lst {pins:List (Addr×Obj)}{σ:St}{H:Hp}{s:Shared}{p:Addr}{xs:List V}(I:Inv X pins σ H s) (h:H p=some (.lst xs)) :
  ∃ (its:List Value) (n:Nat),Vals xs its/\s.heap.get? p=some { cls:=.type "list",data:=.seq its.toArray n }/\xs.length<=sizeLine:=by
 obtain ⟨z,its,n,r,e⟩:=I.hok p _ h;exact ⟨its,n,r,e,z⟩
theorem Inv.lstUpd {pins:List (Addr×Obj)}{σ:St}{H:Hp}{s:Shared}{p:Addr}{xs ys:List V}{its its':List Value}{n n':Nat}{f:Obj->Obj}(I:Inv X pins σ H s) (h:H p=some (.lst xs))
  (ho:s.heap.get? p=some { cls:=.type "list",data:=.seq its.toArray n }) (hf:f { cls:=.type "list",data:=.seq its.toArray n }={ cls:=.type "list",data:=.seq its'.toArray n' }) (r:Vals ys its') (hz:ys.length<=sizeLine) (t:Nat) :
  Inv X pins σ (upd H p (.lst ys)) { s with heap:=s.heap.update p f,toks:=t }:=by
 have e:(s.heap.update p f).get? p=some { cls:=.type "list",data:=.seq its'.toArray n' }:=by
  rw [Heap.get?_update_self f ho (by rw [hf] <;> rfl),hf]
 refine I.write (x:=p) (e:=p) (by rw [h];trivial) (.inl rfl) (fun b u hb q=>(Heap.get?_update_other _ _ (Ne.symm hb)).trans q) ⟨_,e⟩ ?_;exact ⟨hz,its',n',r,e⟩
noncomputable def rSetL:V->V->V->Hp->(Hp->Prop)->Prop:=fun o i v H Q=>∃ p xs k j,o=.ref p/\i=.int k/\H p=some (.lst xs)/\ixN xs.length k=some j/\Q (upd H p (.lst (xs.set j v)))
theorem set_list:PSet X rSetL:=by
 intro pins s σ H o i v ov iv u Q I ro ri rv h;obtain ⟨p,xs,k,j,rfl,rfl,hp,hj,q⟩:=h;cases ro;obtain ⟨t,rfl⟩:=ri;obtain ⟨its,n,r,ho,hz⟩:=I.lst hp;obtain ⟨h1,h2,h3,h4⟩:=ixN_seq hj;have hl:=r.length;have hn:=line63;have I':Inv X pins σ (upd H p (.lst (xs.set j v))) { s with heap:=s.heap.update p (Obj.mapSeq (·.setIfInBounds j u)) } :=
  I.lstUpd hp ho (mapSeq_set its n j u) (r.set rv j) (by rw [List.length_set];exact hz) s.toks
 by_cases h0:0<=k
 ·have hk:k.toNat=j:=by
   rw [seqIndex_of h0 h4] at h1;exact Option.some.inj h1
  exact PySem.W.ki_setAt ho h0 (by omega) (by rw [List.size_toArray,← hl];exact h4) (by rw [hk];exact ⟨_,I',q⟩)
 ·have hk:(k+(its.toArray.size:Int)).toNat=j:=by
   rw [seqIndex_neg (by omega) h3] at h1;rw [List.size_toArray,← hl];exact Option.some.inj h1
  exact PySem.W.ki_setBack ho (by omega) (by rw [List.size_toArray,← hl];exact h3) (by omega) (by rw [hk];exact ⟨_,I',q⟩)
theorem slice_bounds (lo hi:Option Int) (n:Nat):(sliceBounds lo hi none n).1=((HT.sIx n 0 lo:Nat):Int)/\(sliceBounds lo hi none n).2.1=((HT.sIx n n hi:Nat):Int)/\(sliceBounds lo hi none n).2.2=1:=by
 refine ⟨?_,?_,rfl⟩
 ·cases lo with
  | none=>simp [sliceBounds,HT.sIx]
  | some i =>
   simp only [sliceBounds,HT.sIx,Option.getD_none,show (1:Int) > 0 by decide,if_true]
   by_cases h:i < 0
   ·simp only [h,if_true] <;> omega
   ·simp only [h,if_false] <;> omega
 ·cases hi with
  | none=>simp [sliceBounds,HT.sIx]
  | some i =>
   simp only [sliceBounds,HT.sIx,Option.getD_none,show (1:Int) > 0 by decide,if_true]
   by_cases h:i < 0
   ·simp only [h,if_true] <;> omega
   ·simp only [h,if_false] <;> omega
theorem slicePick_cut (its:List Value) (lo hi:Option Int):slicePick its.toArray lo hi none=((its.drop (HT.sIx its.length 0 lo)).take (HT.sIx its.length its.length hi - HT.sIx its.length 0 lo)).toArray:=by
 obtain ⟨h1,h2,h3⟩:=slice_bounds lo hi its.toArray.size;unfold slicePick;rw [h1,h2,h3];simp only [sliceRange_one,pick_run,List.size_toArray] <;> rfl
noncomputable def rSlL (K:PySem.W.Frag):V->Option Int->Option Int->Hp->VK->Prop:=fun x lo hi H Q=>∃ a xs,x=.ref a/\SqL K H a xs/\∀ p,H p=none->Q (.ref p) (upd H p (.lst (cutV xs lo hi)))
theorem sl_list:SlR X (rSlL X.K):=by
 intro pins s σ H x v vl vu lo hi sl Q I rx hs pl pu h;obtain ⟨a,xs,rfl,hx,q⟩:=h;cases rx;obtain ⟨its,r,ht,hz⟩:=I.list hx;have hlen:=r.length
 refine ⟨"list",_,slot_list_getitem.lookup,ht.isList.typeIs,?_⟩;refine wpAny_getItem_list_slice ht.isList hs pl pu .none (by simp) ?_ (by rw [List.size_toArray] <;> omega);rw [slicePick_cut,← hlen];refine ⟨.ref s.heap.objs.size,_,I.laid (t':=s.toks) (o:=.lst (cutV xs lo hi)) (fun b ob q=>Heap.get?_push_of_some _ q) (Nat.le_refl _) ?_,rfl,q _ (I.hok.fresh (Nat.le_refl _))⟩;exact ⟨Nat.le_trans (cutV_length xs lo hi) hz,_,0,(r.drop (HT.sIx xs.length 0 lo)).take (HT.sIx xs.length xs.length hi - HT.sIx xs.length 0 lo),Heap.get?_push_size _ rfl⟩
theorem call_len_seq:CallR X (.builtin "len") (fun xs H Q=>∃ p ys,xs=[.ref p]/\(SqL X.K H p ys\/SqT X.K H p ys)/\Q (.int ys.length) H):=by
 intro pins s σ H xs us Q I r h;obtain ⟨p,ys,rfl,hq,q⟩:=h;obtain ⟨u,rfl,rx⟩:=vals1 r;cases rx;have hn:=line63;rcases hq with hq|hq
 ·obtain ⟨its,r',pl,hz⟩:=I.list hq;have hlen:=r'.length;exact Calls.call_len_list pl.isList (by simp only [List.size_toArray] <;> omega) ⟨.int ys.length,H,I.tok _,⟨s.toks+1,by rw [List.size_toArray,hlen]⟩,q⟩
 ·obtain ⟨its,r',pl,hz⟩:=I.tuple hq;have hlen:=r'.length;exact len_tuple pl (by simp only [List.size_toArray] <;> omega) ⟨.int ys.length,H,I.tok _,⟨s.toks+1,by rw [List.size_toArray,hlen]⟩,q⟩
theorem call_len_str:CallR X (.builtin "len") (fun xs H Q=>∃ z,xs=[.str z]/\z.length<=sizeLine/\Q (.int z.length) H):=by
 intro pins s σ H xs us Q I r h;obtain ⟨z,rfl,hz,q⟩:=h;obtain ⟨u,rfl,t,rfl⟩:=vals1 r;have hn:=line63;exact len_str (by omega) ⟨.int z.length,H,I.tok _,⟨_,rfl⟩,q⟩
theorem CallR.or {f:Value}{r r':List V->Hp->VK->Prop}(h:CallR X f r) (h':CallR X f r'):CallR X f (fun xs H Q=>r xs H Q\/r' xs H Q):=by
 intro pins s σ H xs us Q I rs q;rcases q with q|q
 ·exact h pins s σ H xs us Q I rs q
 ·exact h' pins s σ H xs us Q I rs q
theorem call_list_of:CallR X (.type "list") (fun xs H Q=>∃ p ys,xs=[.ref p]/\(SqL X.K H p ys\/SqT X.K H p ys)/\∀ l,H l=none->Q (.ref l) (upd H l (.lst ys))):=by
 intro pins s σ H xs us Q I r h;obtain ⟨p,ys,rfl,hq,q⟩:=h;obtain ⟨u,rfl,rx⟩:=vals1 r;cases rx;have fin:∀ (its:List Value),Vals ys its->ys.length<=sizeLine->∀ (h':Heap) (c':Nat),(∀ b o',s.heap.get? b=some o'->h'.get? b=some o') ->
   h'.get? s.heap.objs.size=some { cls:=.type "list",dict:=none,data:=.seq its.toArray c',slots:=#[] }->EP X pins σ Q (.ref s.heap.objs.size) { s with heap:=h' }:=fun its r' hz h' c' kp e =>
  ⟨.ref s.heap.objs.size,_,I.laid (t':=s.toks) kp (Nat.le_refl _) (show ObjOk X.prog X.w _ h' _ (.lst ys) from ⟨hz,its,c',r',e⟩),rfl,q _ (I.hok.fresh (Nat.le_refl _))⟩
 rcases hq with hq|hq
 ·obtain ⟨its,r',pl,hz⟩:=I.list hq;have hlen:=r'.length;obtain ⟨o,ho,hc,n,hd⟩:=pl.isList;exact call_list_seq p (.inl rfl) ho hc hd (fun h' c' kp e=>fin its r' hz h' c' kp e) (by simp only [List.size_toArray] <;> omega)
 ·obtain ⟨its,r',pl,hz⟩:=I.tuple hq;have hlen:=r'.length;obtain ⟨o,ho,hc,n,hd⟩:=pl;exact call_list_seq p (.inr rfl) ho hc hd (fun h' c' kp e=>fin its r' hz h' c' kp e) (by simp only [List.size_toArray] <;> omega)
theorem call_tuple_of:CallR X (.type "tuple") (fun xs H Q=>∃ p ys,xs=[.ref p]/\((SqL X.K H p ys/\∀ l,H l=none->Q (.ref l) (upd H l (.tup ys)))\/(SqT X.K H p ys/\Q (.ref p) H))):=by
 intro pins s σ H xs us Q I r h;obtain ⟨p,ys,rfl,h⟩:=h;obtain ⟨u,rfl,rx⟩:=vals1 r;cases rx;rcases h with ⟨hq,q⟩|⟨hq,q⟩
 ·obtain ⟨its,r',pl,hz⟩:=I.list hq;have hlen:=r'.length;refine call_tuple_list pl.isList (fun h' kp=>?_) (by simp only [List.size_toArray] <;> omega);have I1:Inv X pins σ H { s with heap:=h' }:=I.kept (t':=s.toks) kp
  have I2:Inv X pins σ (upd H h'.objs.size (.tup ys)) { s with heap:=h'.push { cls:=.type "tuple",data:=.seq its.toArray } } :=
   I1.laid (t':=s.toks) (fun b o e=>Heap.get?_push_of_some _ e) (Nat.le_refl _) (show ObjOk X.prog X.w _ _ _ (.tup ys) from ⟨hz,its,r',TupP.new _ _⟩)
  exact ⟨.ref h'.objs.size,_,I2,rfl,q _ (I1.hok.fresh (Nat.le_refl _))⟩
 ·obtain ⟨its,r',pl,hz⟩:=I.tuple hq;exact call_tuple_same pl ⟨.ref p,H,I,rfl,q⟩
noncomputable def tyV (K:PySem.W.Frag) (T:String) (x:V) (H:Hp):Prop:=match x with
 | .str _=>T = "str"
 | .int _=>T = "int"
 | .ref p=>(T = "list"/\∃ xs,SqL K H p xs)\/(T = "tuple"/\∃ xs,SqT K H p xs) \/
   (T = "dict"/\((∃ kvs,H p=some (.dK kvs))\/∃ kvs,H p=some (.dT kvs)))\/(T = "set"/\∃ S n,H p=some (.set S n))
 | _=>False
theorem tyV_is {pins:List (Addr×Obj)}{σ:St}{H:Hp}{s:Shared}{T:String}{x:V}{v:Value}(I:Inv X pins σ H s) (r:RelV x v) (ty:tyV X.K T x H) :
  s.TypeIs v T/\∀ a,v=.ref a->∃ ob,s.heap.get? a=some ob/\ob.dict=none:=by
 cases x with
 | str z =>
  obtain ⟨t,rfl⟩:=r
  cases (show T = "str" from ty);exact ⟨typeIs_str s z t,fun _ e=>nomatch e⟩
 | int i =>
  obtain ⟨t,rfl⟩:=r
  cases (show T = "int" from ty);exact ⟨typeIs_int s i t,fun _ e=>nomatch e⟩
 | ref p =>
  cases r;rcases ty with ⟨rfl,xs,hq⟩|⟨rfl,xs,hq⟩|⟨rfl,hk⟩|⟨rfl,S,n,hk⟩
  ·obtain ⟨its,_,pl,_⟩:=I.list hq;refine ⟨pl.isList.typeIs,fun a e=>?_⟩;cases e;obtain ⟨o,n,e,c,hd,_⟩:=pl;exact ⟨o,e,hd⟩
  ·obtain ⟨its,_,⟨o,e,c,d,n,dd⟩,_⟩:=I.tupleP hq;refine ⟨⟨o,e,c⟩,fun a e2=>?_⟩;cases e2;exact ⟨o,e,d⟩
  ·have z:∃ o,s.heap.get? p=some o/\o.ExactDict:=by
    rcases hk with ⟨kvs,hk⟩|⟨kvs,hk⟩
    ·obtain ⟨_,_,_,_,o,_,_,e,ex,_⟩:=I.hok p _ hk;exact ⟨o,e,ex⟩
    ·obtain ⟨_,_,_,_,o,_,_,e,ex,_⟩:=I.hok p _ hk;exact ⟨o,e,ex⟩
   obtain ⟨o,e,ex⟩:=z;refine ⟨⟨o,e,ex.1⟩,fun a e2=>?_⟩;cases e2;exact ⟨o,e,ex.2.1⟩
  ·obtain ⟨o,_,_,_,e,ex,_⟩:=I.hok p _ hk;refine ⟨⟨o,e,ex.1⟩,fun a e2=>?_⟩;cases e2;exact ⟨o,e,ex.2.1⟩
 | _=>exact False.elim ty
noncomputable def tBM0 (K:PySem.W.Frag) (T:String) (r:V->List V->Hp->VK->Prop) (to:TE):TE:=fun σ H Q=>to σ H fun x H1=>tyV K T x H1/\r x [] H1 Q
noncomputable def tBM (K:PySem.W.Frag) (T:String) (r:V->List V->Hp->VK->Prop) (to:TE) (t:TA):TE:=fun σ H Q=>to σ H fun x H1=>tyV K T x H1/\t σ H1 fun xs H2=>r x xs H2 Q
variable {o e:Expr}{es:List Expr}{to:TE}{t:TA}{name:Str}{apos cpos:Pos}{T id:String}{r:V->List V->Hp->VK->Prop}
theorem pe_bm0 (pa:PlainAttrs T) (slot:Slot T name id) (hty:typeOf (.builtin id)=pure (.type "method_descriptor")) (hm:MtR X id r) (ho:PE X o to)
  (hbase:attributeBase o name X.env (eval o X.env)=eval o X.env:=by rfl) (hline:(apos.endLine==cpos.line)=true:=by rfl):PE X (.Call (.Attribute o name apos) [] [] cpos) (tBM0 X.K T r to):=by
 intro pins s σ H Q I h;refine wpAny_Call_method0_late hbase hline (thn (ho pins s σ H _ I h) ?_);rintro v s1 ⟨x,H1,I1,r1,ty,q1⟩;obtain ⟨h1,h2⟩:=tyV_is I1 r1 ty;exact ⟨T,id,pa,slot,hty,h1,h2,Calls.callWith_builtin rfl (PySem.evalArgs_none (hm pins s1 σ H1 x [] v [] Q I1 r1 .nil q1))⟩
theorem pe_bm (pa:PlainAttrs T) (slot:Slot T name id) (hty:typeOf (.builtin id)=pure (.type "method_descriptor")) (hm:MtR X id r) (ho:PE X o to) (ha:PA X (e::es) t)
  (hbase:attributeBase o name X.env (eval o X.env)=eval o X.env:=by rfl)
  (hfew:((backTo cpos (starEach (e::es) X.env)).all (fun x=>!x.1)&&(backToKw cpos (keywordEach [] X.env)).all (fun x=>x.1.isSome)
   && decide ((e::es).length+([]:List Keyword).length+(if ([]:List Keyword).isEmpty then 0 else 1) < 30))=true:=by rfl)
  (hline:(apos.endLine==cpos.line)=true:=by rfl) (hs:starEach (e::es) X.env=(false,eval e X.env)::starEach es X.env:=by rfl) (hplain:(backTo cpos (starEach es X.env)).any (·.1)=false:=by rfl) :
  PE X (.Call (.Attribute o name apos) (e::es) [] cpos) (tBM X.K T r to t):=by
 intro pins s σ H Q I h;refine wpAny_Call_method_late hbase hfew hline rfl (thn (ho pins s σ H _ I h) ?_);rintro v s1 ⟨x,H1,I1,r1,ty,q1⟩;obtain ⟨h1,h2⟩:=tyV_is I1 r1 ty;refine ⟨T,id,pa,slot,hty,h1,h2,?_⟩;have hA:=ha cpos pins s1 σ H1 _ I1 q1;rw [hs] at hA ⊢;refine Calls.callWith_builtin (by show (false || (backTo cpos (starEach es X.env)).any (·.1))=false;rw [hplain] <;> rfl) (Calls.evalArgs_plain ?_);refine thn hA ?_;rintro us s2 ⟨vs,H2,I2,r2,q2⟩;exact hm pins s2 σ H2 x vs v us Q I2 r1 r2 q2
end
noncomputable def MtM (X:Cx) (id:String) (r:V->List V->Hp->VK->Prop):Prop :=
 ∀ (pins:List (Addr×Obj)) (s:Shared) (σ:St) (H:Hp) (x:V) (xs:List V) (v:Value) (us:List Value) (Q:VK),Inv X pins σ H s->RelV x v->Vals xs us->r x xs H Q ->
  wpAny (model X.prog X.w) X.A (call (.builtin id) (v::us)) (EP X pins σ Q) X.xe s
theorem Vals.one {x:V}{us:List Value}(h:Vals [x] us):∃ u,us=[u]/\RelV x u:=by
 cases h with
 | cons r t=>cases t;exact ⟨_,rfl,r⟩
theorem Vals.two {x y:V}{us:List Value}(h:Vals [x,y] us):∃ u v,us=[u,v]/\RelV x u/\RelV y v:=by
 cases h with
 | cons r t =>
  obtain ⟨v,e,q⟩:=Vals.one t;subst e;exact ⟨_,_,rfl,r,q⟩
theorem Vals.zero:∀ {us:List Value},Vals [] us->us=[]
 | _,.nil=>rfl
theorem Vals.eraseIdx:∀ {xs:List V}{us:List Value}(i:Nat),Vals xs us->Vals (xs.eraseIdx i) (us.eraseIdx i)
 | _,_,_,.nil=>.nil
 | _,_,0,.cons _ t=>t
 | _,_,i+1,.cons r t=>.cons r (Vals.eraseIdx i t)
theorem Vals.reverse {xs:List V}{us:List Value}(h:Vals xs us):Vals xs.reverse us.reverse:=by
 induction h with
 | nil=>exact .nil
 | cons r t ih=>rw [List.reverse_cons,List.reverse_cons];exact Vals.append ih (.cons r .nil)
theorem Vals.rep {xs:List V}{us:List Value}(h:Vals xs us):∀ k:Nat,Vals (List.replicate k xs).flatten (List.replicate k us).flatten
 | 0=>.nil
 | k+1=>by
  rw [List.replicate_succ,List.replicate_succ,List.flatten_cons,List.flatten_cons];exact Vals.append h (Vals.rep h k)
theorem len_erase {α:Type}:∀ (l:List α) (i:Nat),(l.eraseIdx i).length<=l.length
 | [],_=>Nat.le_refl _
 | _::_,0=>Nat.le_succ _
 | _::r,i+1=>Nat.succ_le_succ (len_erase r i)
theorem foldl_rep (its:List Value):∀ (k:Nat) (acc:List Value),
  List.foldl (fun x1 x2=>x1++x2) acc.toArray (List.replicate k its.toArray)=(acc++(List.replicate k its).flatten).toArray
 | 0,acc=>by simp
 | k+1,acc=>by
  have e:acc.toArray++its.toArray=(acc++its).toArray:=by simp
  have e2:(acc++its)++(List.replicate k its).flatten=acc++(List.replicate (k+1) its).flatten:=by
   rw [List.replicate_succ,List.flatten_cons,List.append_assoc]
  rw [← e2,← foldl_rep its k (acc++its),← e,List.replicate_succ,List.foldl_cons]
section
variable {X:Cx}{pins:List (Addr×Obj)}{σ:St}{H:Hp}{s:Shared}{l b:Addr}{xs ys zs:List V}
theorem Inv.lset {its its':List Value}{n:Nat}{f:Array Value->Array Value}{t':Nat}(I:Inv X pins σ H s) (hH:H l=some (.lst xs))
  (e:s.heap.get? l=some { cls:=.type "list",data:=.seq its.toArray n }) (hf:f its.toArray=its'.toArray) (hv:Vals ys its') (hz:ys.length<=sizeLine) :
  Inv X pins σ (upd H l (.lst ys)) { s with heap:=s.heap.update l (Obj.mapSeq f),toks:=t' }:=by
 have q:=PySem.IsL.update e f;rw [hf] at q;refine I.write (x:=l) (e:=l) (by rw [hH];exact trivial) (.inl rfl) (fun b' u hb hu=>(Heap.get?_update_other s.heap (Obj.mapSeq f) (Ne.symm hb)).trans hu) ⟨_,q⟩ ?_;exact ⟨hz,its',_,hv,q⟩
theorem Inv.lnew {its:List Value}{t':Nat}(I:Inv X pins σ H s) (hv:Vals ys its) (hz:ys.length<=sizeLine) :
  Inv X pins σ (upd H s.heap.objs.size (.lst ys)) { s with heap:=s.heap.push { cls:=.type "list",data:=.seq its.toArray },toks:=t' } :=
 I.laid (fun _ _ q=>Heap.get?_push_of_some _ q) (Nat.le_refl _) ⟨hz,its,0,hv,Heap.get?_push_size _ rfl⟩
theorem Inv.fresh (I:Inv X pins σ H s):H s.heap.objs.size=none:=I.hok.fresh (Nat.le_refl _)
theorem Inv.lstM (I:Inv X pins σ H s) (hH:H l=some (.lst xs)):xs.length<=sizeLine/\∃ (its:List Value) (n:Nat),Vals xs its/\xs.length=its.length/\s.heap.get? l=some { cls:=.type "list",data:=.seq its.toArray n }:=by
 obtain ⟨z,its,n,r,e⟩:=I.hok l _ hH;exact ⟨z,its,n,r,r.length,e⟩
theorem notLongL {n:Nat}(h:n<=sizeLine):Builtin.List.listTooLong n=false:=by
 unfold Builtin.List.listTooLong;exact decide_eq_false (by omega)
end
section
variable {X:Cx}
noncomputable def rAppend:V->List V->Hp->VK->Prop:=fun x vs H Q=>∃ l xs y,x=.ref l/\vs=[y]/\H l=some (.lst xs)/\xs.length < sizeLine/\Q .non (upd H l (.lst (xs++[y])))
theorem mt_append:MtM X "list.append" rAppend:=by
 intro pins s σ H x vs v us Q I rx rv h;obtain ⟨l,xs,y,rfl,rfl,hH,hz,q⟩:=h;cases rx;obtain ⟨u,rfl,ru⟩:=rv.one;obtain ⟨z,its,n,r,hl,e⟩:=I.lstM hH;refine call_meets F.slot_list_append ⟨_,e,rfl⟩ F.entry_list_append (F.args_list_append_2 _ _) (PySem.list_append l its.toArray n u (by rw [List.size_toArray];omega)) ⟨e,?_⟩;refine ⟨.non,_,I.lset (its':=its++[u]) hH e (by simp) (r.append (.cons ru .nil)) ?_,rfl,q⟩;rw [List.length_append,List.length_singleton];omega
noncomputable def rExtend:V->List V->Hp->VK->Prop:=fun x vs H Q=>∃ l b xs zs,x=.ref l/\vs=[.ref b]/\H l=some (.lst xs)/\H b=some (.lst zs)/\xs.length+zs.length<=sizeLine/\Q .non (upd H l (.lst (xs++zs)))
theorem mt_extend:MtM X "list.extend" rExtend:=by
 intro pins s σ H x vs v us Q I rx rv h;obtain ⟨l,b,xs,zs,rfl,rfl,hH,hB,hz,q⟩:=h;cases rx;obtain ⟨u,rfl,ru⟩:=rv.one;cases ru;obtain ⟨z,its,n,r,hl,e⟩:=I.lstM hH;obtain ⟨z2,its2,n2,r2,hl2,e2⟩:=I.lstM hB;have hsz:its.toArray.size+its2.toArray.size<=sizeLine:=by rw [List.size_toArray,List.size_toArray];omega
 have hlong:¬ (!its.toArray.isEmpty&&Builtin.List.listTooLong (its.toArray.size+its2.toArray.size))=true:=by
  rw [notLongL hsz,Bool.and_false];exact Bool.false_ne_true
 refine call_meets F.slot_list_extend ⟨_,e,rfl⟩ F.entry_list_extend (F.args_list_extend_2 _ _)
  (AutoSeq1.list_extend_list_list_0 l its.toArray n b its2.toArray n2 hlong (by rw [List.size_toArray];omega) (by omega)) ⟨e,e2,?_⟩
 refine ⟨.non,_,I.lset (its':=its++its2) hH e (by simp) (r.append r2) ?_,rfl,q⟩;rw [List.length_append];omega
noncomputable def rPopAt:V->List V->Hp->VK->Prop:=fun x vs H Q=>∃ l xs i k y,x=.ref l/\vs=[.int i]/\H l=some (.lst xs)/\-(2 ^ 63)<=i/\i < 2 ^ 63/\seqIndex? i xs.length=some k/\xs[k]?=some y/\Q y (upd H l (.lst (xs.eraseIdx k)))
theorem mt_popAt:MtM X "list.pop" rPopAt:=by
 intro pins s σ H x vs v us Q I rx rv h;obtain ⟨l,xs,i,k,y,rfl,rfl,hH,h1,h2,hk,hy,q⟩:=h;cases rx;obtain ⟨u,rfl,ru⟩:=rv.one;obtain ⟨t,rfl⟩:=ru;obtain ⟨z,its,n,r,hl,e⟩:=I.lstM hH;obtain ⟨w,hw,rw'⟩:=r.get hy;refine call_meets F.slot_list_pop ⟨_,e,rfl⟩ F.entry_list_pop (F.args_list_pop_2 _ _)
  (MeetsSeq.list_pop_at l its.toArray n i t k w (fitsIndex_both h1 h2) (by rw [List.size_toArray,← hl];exact hk) (by rw [← Array.getElem?_toList];exact hw) (by rw [List.size_toArray];omega)) ⟨e,?_⟩
 refine ⟨y,_,I.lset (its':=its.eraseIdx k) hH e ?_ (r.eraseIdx k) ?_,rw',q⟩
 ·show its.toArray.eraseIdxIfInBounds k=(its.eraseIdx k).toArray;rw [List.eraseIdxIfInBounds_toArray]
 ·have:=len_erase xs k;omega
noncomputable def rCat:R2:=fun x y H Q=>∃ l b xs zs,x=.ref l/\y=.ref b/\H l=some (.lst xs)/\H b=some (.lst zs)/\xs.length+zs.length<=sizeLine/\∀ p,H p=none->Q (.ref p) (upd H p (.lst (xs++zs)))
theorem op_cat:OpR X (binaryOp .Add) rCat:=by
 intro pins s σ H x y v u Q I rx ry h;obtain ⟨l,b,xs,zs,rfl,rfl,hH,hB,hz,q⟩:=h;cases rx;cases ry;obtain ⟨z,its,n,r,hl,e⟩:=I.lstM hH;obtain ⟨z2,its2,n2,r2,hl2,e2⟩:=I.lstM hB;refine PySem.P.add_list e e2 ?_ (by rw [List.size_toArray,List.size_toArray];omega);have ea:its.toArray++its2.toArray=(its++its2).toArray:=by simp
 rw [ea];exact ⟨.ref _,_,I.lnew (t':=s.toks) (r.append r2) (by rw [List.length_append];omega),rfl,q _ I.fresh⟩
noncomputable def rRep:R2:=fun x y H Q=>∃ l k xs,x=.ref l/\y=.int k/\H l=some (.lst xs)/\-(2 ^ 63)<=k/\k < 2 ^ 63/\xs.length * k.toNat<=sizeLine /\
 ∀ p,H p=none->Q (.ref p) (upd H p (.lst (List.replicate k.toNat xs).flatten))
theorem len_rep {α:Type}(xs:List α) (k:Nat):(List.replicate k xs).flatten.length=k * xs.length:=by
 induction k with
 | zero=>simp
 | succ k ih=>rw [List.replicate_succ,List.flatten_cons,List.length_append,ih,Nat.succ_mul,Nat.add_comm]
theorem op_rep:OpR X (binaryOp .Mult) rRep:=by
 intro pins s σ H x y v u Q I rx ry h;obtain ⟨l,k,xs,rfl,rfl,hH,h1,h2,hz,q⟩:=h;cases rx;obtain ⟨t,rfl⟩:=ry;obtain ⟨z,its,n,r,hl,e⟩:=I.lstM hH;have hlen:its.toArray.size * k.toNat<=sizeLine:=by rw [List.size_toArray,← hl];exact hz
 have hcap:¬ its.toArray.size * k.toNat > (2 ^ 63 - 1) / 8:=by
  have:(sizeLine:Nat)<=(2 ^ 63 - 1) / 8:=by decide
  omega
 have hfit:¬ (!Builtin.List.listFitsIndex k)=true:=by
  rw [fitsIndex_both h1 h2];exact Bool.false_ne_true
 have hlong:¬ Builtin.List.listTooLong (its.toArray.size * k.toNat)=true:=by
  rw [notLongL hlen];exact Bool.false_ne_true
 have hnew:List.foldl (fun x1 x2=>x1++x2) #[] (List.replicate (if its.toArray.isEmpty=true then 0 else k.toNat) its.toArray)=(List.replicate k.toNat its).flatten.toArray:=by
  have f0:∀ m:Nat,List.foldl (fun x1 x2=>x1++x2) #[] (List.replicate m its.toArray)=(List.replicate m its).flatten.toArray:=fun m=>by
   have:=foldl_rep its m [];rw [List.nil_append] at this;exact this
  rw [f0];cases its with
  | nil=>simp
  | cons a r'=>rw [if_neg (by simp)]
 refine wpAny_binaryOp_repeat_ref (T := "list") (U := "int") (by decide) ⟨_,e,rfl⟩ (fun s'=>typeIs_int s' k t) noFill_list_mul F.fills_int_mul F.slot_int_rmul repeat_list F.slot_int_index.lookup
  (call_meets F.slot_int_rmul (typeIs_int s k t) F.entry_int_rmul (F.args_int_rmul_2 _ _) (int___rmul___int_list k t l its.toArray n)
   ⟨e,rfl,⟨_,e,rfl⟩,call_meets F.slot_list_mul ⟨_,e,rfl⟩ F.entry_list_mul (F.args_list_mul_2 _ _) (AutoListH.list___mul___list_int_3 l its.toArray n k t hfit hcap hlong) ⟨e,?_⟩⟩)
 rw [hnew];exact ⟨.ref _,_,I.lnew (t':=s.toks) (r.rep k.toNat) (by rw [len_rep,Nat.mul_comm];exact hz),rfl,q _ I.fresh⟩
end
section
variable {prog:Program}{w:World}{A:Around}{E:Value->Shared->Prop}{s:Shared}
end
section
variable {X:Cx}
end
end L2
namespace Att
open PySem PySem.W PySem.Calls PyProof.Rows
theorem ints_of_wellAll {P:Params}{h:Heap}:∀ (ns:List Int) (vs:List Value),WellAll P h vs (ns.map WData.int)->IntsAre vs ns:=by
 intro ns
 induction ns with
 | nil =>
  intro vs w;rw [List.map_nil] at w;cases w;exact .nil
 | cons n ns ih =>
  intro vs w;rw [List.map_cons] at w;cases w with
  | cons a b =>
   cases a;exact .cons _ _ (ih _ b)
theorem script_of {l:OpenLaw}{n:Nat}(hn:l.most=some n) {P:Params}{h:Heap}{args:List WData}{vals:List Value}
  (hpre:l.row.toRowW.claim.pre args=true) (hwl:WellAll P h vals args) :
  ∃ a vs ns,vals=[Value.ref a]/\args=[WData.list (ns.map WData.int)]/\h.get? a=some { cls:=.type "list",data:=.seq vs.toArray }/\IntsAre vs ns/\ns.length<=n:=by
 have hsh:WShape.hasAll [] args [.list .int]=true:=(pre_splitW hpre).1;have hc:l.pre.holds [] { args:=args }=true:=(pre_splitW hpre).2;obtain ⟨d,r,rfl,h1,h2⟩:=hasAllW_cons hsh;obtain rfl:=hasAllW_nil h2;obtain ⟨xs,rfl,h3⟩:=hasW_list h1;obtain ⟨ns,rfl⟩:=items_int h3;have hlen:ns.length<=n:=by
  unfold OpenLaw.pre at hc;have h4:(WTm.not (.lt (.lit (.int (n:Int))) (.len (.arg 0)))).holds [] { args:=[.list (ns.map .int)] }=true:=by
   have h4:=(holds_andW hc).1;rw [hn] at h4;exact h4
  have h5:=condW_of h4 (w_not (w_lt w_lit (w_len_list (w_arg rfl))));rw [List.length_map] at h5;refine Nat.le_of_not_lt fun q=>?_
  have q':(n:Int) < ((ns.length:Nat):Int):=by omega
  first
   | (rw [decide_eq_true q'] at h5;exact absurd h5 (by decide))
   | (simp at h5;omega)
 cases hwl with
 | cons w1 w2 =>
  cases w2;cases w1 with
  | list ho hall=>exact ⟨_,_,ns,rfl,rfl,ho,ints_of_wellAll ns _ hall,hlen⟩
theorem post_true (l:OpenLaw) (args:List WData):l.row.toRowW.claim.post args (.bool true) args=true :=
 postW_of (r:=l.row.toRowW) (X:=(true==true))
  (show WShape.has [] (.bool true) .bool=true by first | rfl | decide | simp [WShape.has,WShape.arms,WShape.armsAll])
  (show (WTm.eq .res (.lit (.bool true))).value [] { args:=args,res:=some (.bool true),after:=args }=some (.bool (true==true)) from w_eq_bool (w_res rfl) w_lit) rfl
theorem attach_call {l:OpenLaw}{n:Nat}{q:Program}{loose:List Str}{XP:(Str->Option Value)->Heap->Prop}{YP:World->Heap->Prop}{d:DefRec}
  (hn:l.most=some n) (hdf:d.params.defaults=[])
  (call:∀ (w:World) (s₀ s₁:Shared) (mg mb:Str->Option Value) (fa:Addr) (o:Obj) (pm cd doc:Value) (a:Addr) (vs:List Value) (ns:List Int),
   Ground q loose [] XP w s₀ mg mb s₁.heap->YP w s₁.heap ->
   s₁.heap.get? fa=some o->o.data=.func (docDef d.name d.params d.body d.scope pm cd doc)->s₁.heap.CodeRec cd d.name->mg d.name=some (.ref fa) ->
   s₁.heap.get? a=some { cls:=.type "list",data:=.seq vs.toArray }->IntsAre vs ns->ns.length<=n->s₁.gens=#[] ->
   codeAny (model l.prog w) callerA (.call (.ref fa) ⟨[.ref a],[]⟩) (fun r s'=>r=.ok (.ret (.bool true))/\OldK s₁.heap s'.heap/\s'.os=s₁.os/\AllBare s'.gens) s₁) :
  WalkO q loose XP YP l.row.toRowW d [] (fun f vs=>PySem.call f vs):=by
 intro w s₀ s₁ mg mb G Y fa o pm cd doc dV kV ho hd hcd hD hmg hg args vals as hpre hlay hrd hwl hlo;obtain rfl:dV=.none:=Dflts.none hD hdf;obtain rfl:kV=.none:=Dflts.noKw hD;obtain ⟨a,vs,ns,rfl,rfl,hobj,hints,hlen⟩:=script_of hn hpre hwl;refine enter_call (codeAny_mono (call w s₀ s₁ mg mb fa o pm cd doc a vs ns G Y ho (fd_plain hd) hcd hmg hobj hints hlen hg) fun r s' hq=>?_);obtain ⟨rfl,h2,h3,h4⟩:=hq;exact ⟨.inl ⟨.bool true,.bool true,[],rfl,fun _=>rfl,.bool true,post_true l _,fun _=>⟨List.Pairwise.nil,fun _ hm=>(nomatch hm)⟩⟩,h2,h3,h4⟩
section
variable {prog:Program}{w:World}{A:Around}{E:Value->Shared->Prop}{s:Shared}{K:Frag}
end
end Att
namespace L2
open PySem PySem.Spec PyProof.Rows
theorem vals_ints:∀ {vs:List Value}{ns:List Int},IntsAre vs ns->Vals (ns.map V.int) vs
 | _,_,.nil=>.nil
 | _,_,.cons n t h=>.cons ⟨t,rfl⟩ (vals_ints h)
noncomputable def defArgs (s:Stmt):Arguments:=match s with
 | .FunctionDef _ a _ _ _ _ _ _ _ _=>a
 | _=>{ posonlyargs:=[],args:=[],vararg:=none,kwonlyargs:=[],kw_defaults:=[],kwarg:=none,defaults:=[] }
noncomputable def defBody (s:Stmt):List Stmt:=match s with
 | .FunctionDef _ _ b _ _ _ _ _ _ _=>b
 | _=>[]
noncomputable def defScope (s:Stmt):Scope:=match s with
 | .FunctionDef _ _ _ _ _ _ sc _ _ _=>sc
 | _=>{ kind:=.function,names:=[],isGenerator:=false,isCoroutine:=false }
noncomputable abbrev CX0:CXT:=fun _ _ _ _ _ _=>False
noncomputable abbrev E0:XK:=fun _ _ _=>False
theorem pass0 {X:Cx}:Passes CX0 X E0:=fun _ _ _ _ _ _ _ h=>h.elim
structure Fun (K:PySem.W.Frag) (x qual:Str) (st:Stmt) (f:Addr) (fd:FuncData):Prop where
 ex:∃ (oc:Value) (od:Option Addr) (kV doc pm:Value) (an:Option Addr) (cdv ct:Value) (osl:Array (Option Value)),
  fd=PySem.W.fnOf x qual (defArgs st) (defBody st) (defScope st) .none kV doc pm an cdv ct/\K.lookup f=some ⟨oc,od,.func fd,osl⟩/\PySem.W.codeIn K cdv qual=true
 kp:PySem.W.keepIn K (.ref f)=true
section
variable {P:Program}{w:World}{K:PySem.W.Frag}{mg:Str->Option Value}{base:Heap}
theorem Fun.ok {x qual:Str}{st:Stmt}{f:Addr}{fd:FuncData}{N ps:List Str}{k:Nat}{sp:Sp}(F:Fun K x qual st f fd) (S:FnScope N ps (defScope st)) (len:∀ vs H Q E,sp vs H Q E->vs.length=ps.length)
  (hbody:∀ (cdv:Value) (A:Around) (outer:List Env) (s:Shared) (H:Hp) (vs:List V) (Q:VK) (E:XK),Room k (A.deeper (envOfC qual (defScope st) s.heap.objs.size f cdv))->sp vs H Q E ->
   ∃ t,PSs (cxOf CX0 P w K mg base N qual (defScope st) f cdv A outer s H E).nox (defBody st) t/\t { nx:=fun _ H'=>Q .non H',rt:=Q } (start N vs) H):FnOk P w K mg base CX0 (k+1) f fd ps sp:=by
 obtain ⟨oc,od,kV,doc,pm,an,cdv,ct,osl,rfl,lk,hcd⟩:=F.ex;refine fn_of lk hcd S len fun A outer s H vs Q E hr hsp=>?_
 obtain ⟨t,h,q⟩:=hbody cdv A outer s H vs Q E hr hsp;exact ⟨t,h.nox,q⟩
theorem fun_mk {x qual:Str}{st:Stmt}{f:Addr}{oc:Value}{od an:Option Addr}{osl:Array (Option Value)}{kV doc pm cdv ct:Value}(l:K.lookup f=some ⟨oc,od,.func (PySem.W.fnOf x qual (defArgs st) (defBody st) (defScope st) .none kV doc pm an cdv ct),osl⟩)
  (c:PySem.W.codeIn K cdv qual=true) (k:PySem.W.keepIn K (.ref f)=true):Fun K x qual st f (PySem.W.fnOf x qual (defArgs st) (defBody st) (defScope st) .none kV doc pm an cdv ct):=⟨⟨oc,od,kV,doc,pm,an,cdv,ct,osl,rfl,l,c⟩,k⟩
end
section
variable {X:Cx}
end
theorem iteF {A B:Prop}(h:B):if false=true then A else B:=by
 rw [if_neg Bool.false_ne_true];exact h
theorem iteT {A B:Prop}(h:A):if true=true then A else B:=by
 rw [if_pos rfl];exact h
section
variable {κ:Type} [DecidableEq κ]
noncomputable def valV (kvs:List (κ×V)) (k:κ):Option V:=(kvs.find? fun kv=>decide (kv.1=k)).map (·.2)
noncomputable def putK (kvs:List (κ×V)) (k:κ) (v:V):List (κ×V) :=
 if (kvs.any fun kv=>decide (kv.1=k))=true then kvs.map (fun kv=>if kv.1=k then (kv.1,v) else kv) else kvs++[(k,v)]
theorem valV_pos {p:κ×V}{r:List (κ×V)}{k:κ}(e:p.1=k):valV (p::r) k=some p.2:=by simp [valV,List.find?_cons,e]
theorem valV_neg {p:κ×V}{r:List (κ×V)}{k:κ}(e:¬ p.1=k):valV (p::r) k=valV r k:=by simp [valV,List.find?_cons,e]
theorem RelO.isSome_eq {o:Option V}{u:Option Value}(r:RelO o u):o.isSome=u.isSome:=by
 cases o with
 | none=>cases u with
  | none=>rfl
  | some _=>exact (show False from r).elim
 | some _=>cases u with
  | none=>exact (show False from r).elim
  | some _=>rfl
theorem KV.val {kvs:List (κ×V)}{vs:List (κ×Value)}(r:KV kvs vs) (k:κ):RelO (valV kvs k) (valueAt vs k):=by
 unfold KV at r
 induction r with
 | nil=>exact True.intro
 | @cons p q ps qs h t ih =>
  obtain ⟨h1,h2⟩:=h
  by_cases e:p.1=k
  ·have e':q.1=k:=h1.symm.trans e;have b:valueAt (q::qs) k=some q.2:=by simp [valueAt,List.find?_cons,e']
   rw [valV_pos e,b];exact h2
  ·have e':¬ q.1=k:=fun z=>e (h1.trans z)
   have b:valueAt (q::qs) k=valueAt qs k:=by simp [valueAt,List.find?_cons,e']
   rw [valV_neg e,b];exact ih
theorem KV.any {kvs:List (κ×V)}{vs:List (κ×Value)}(r:KV kvs vs) (k:κ):(kvs.any fun kv=>decide (kv.1=k))=vs.any fun kv=>decide (kv.1=k):=by
 unfold KV at r
 induction r with
 | nil=>rfl
 | cons h t ih=>rw [List.any_cons,List.any_cons,ih,h.1]
theorem KV.repl {kvs:List (κ×V)}{vs:List (κ×Value)}(r:KV kvs vs) (k:κ) {y:V}{u:Value}(ry:RelV y u) :
  KV (kvs.map fun kv=>if kv.1=k then (kv.1,y) else kv) (vs.map fun kv=>if kv.1=k then (kv.1,u) else kv):=by
 unfold KV at r ⊢
 induction r with
 | nil=>exact .nil
 | @cons p q ps qs h t ih =>
  rw [List.map_cons,List.map_cons];refine .cons ?_ ih;obtain ⟨h1,h2⟩:=h
  by_cases e:p.1=k
  ·rw [if_pos e,if_pos (h1.symm.trans e)];exact ⟨h1,ry⟩
  ·rw [if_neg e,if_neg (fun z=>e (h1.trans z))];exact ⟨h1,h2⟩
theorem KV.put {kvs:List (κ×V)}{vs:List (κ×Value)}(r:KV kvs vs) (k:κ) {y:V}{u:Value}(ry:RelV y u):KV (putK kvs k y) (stored vs k u):=by
 unfold putK stored;rw [r.any k]
 by_cases e:(vs.any fun kv=>decide (kv.1=k))=true
 ·rw [if_pos e,if_pos e];exact r.repl k ry
 ·rw [if_neg e,if_neg e];exact Paired.snoc r ⟨rfl,ry⟩
end
noncomputable abbrev KT (H:Hp):List (List Key×V)->List (List Key×Addr×Value)->Prop:=Paired fun p q=>p.1=q.1/\H q.2.1=some (.tup (p.1.map kV))/\RelV p.2 q.2.2
theorem KT.val {H:Hp}{kvs:List (List Key×V)}{xs:List (List Key×Addr×Value)}(r:KT H kvs xs) (k:List Key):RelO (valV kvs k) ((atKey xs k).map (·.2)):=by
 induction r with
 | nil=>exact True.intro
 | @cons p q ps qs h t ih =>
  obtain ⟨h1,_,h2⟩:=h
  by_cases e:p.1=k
  ·have e':q.1=k:=h1.symm.trans e;have b:atKey (q::qs) k=some q.2:=by simp [atKey,List.find?_cons,e']
   rw [valV_pos e,b];exact h2
  ·have e':¬ q.1=k:=fun z=>e (h1.trans z)
   have b:atKey (q::qs) k=atKey qs k:=by simp [atKey,List.find?_cons,e']
   rw [valV_neg e,b];exact ih
section
variable {P:Program}{w:World}{H:Hp}{h:Heap}{a:Addr}
end
noncomputable def DGet (H:Hp) (a:Addr) (y:V) (r:Option V):Prop :=
 (∃ kvs k,Rd H a (.dK kvs)/\y=kV k/\r=valV kvs k)\/∃ kvs k b,Rd H a (.dT kvs)/\y=.ref b/\H b=some (.tup (k.map kV))/\r=valV kvs k
theorem DGet.k {H:Hp}{a:Addr}{kvs:List (Key×V)}{k:Key}(e:H a=some (.dK kvs)):DGet H a (kV k) (valV kvs k):=.inl ⟨kvs,k,.inl e,rfl,rfl⟩
section
variable {X:Cx}{pins:List (Addr×Obj)}{σ:St}{H:Hp}{s:Shared}{a:Addr}{y v:V}{u r:Value}{o:Option V}{A:Around}{E:Value->Shared->Prop}
end
section
variable {X:Cx}{pins:List (Addr×Obj)}{σ:St}{H:Hp}{s:Shared}{a:Addr}{kvs:List (Key×V)}{k:Key}{u:Value}{A:Around}{E:Value->Shared->Prop}
end
section
variable {X:Cx}{o i e value:Expr}{pos pos' tpos:Pos}{td ty tv:TE}
end
section
variable {X:Cx}{pos:Pos}
end
section
variable {X:Cx}{pins:List (Addr×Obj)}{σ:St}{H:Hp}{s:Shared}{a:Addr}{y d:V}{u r:Value}{o:Option V}{A:Around}{E:Value->Shared->Prop}
end
section
variable {X:Cx}{o e f:Expr}{apos cpos:Pos}{td ty tx:TE}
end
section
variable {X:Cx}{pins:List (Addr×Obj)}{σ:St}{H:Hp}{s:Shared}{a:Addr}{kvs:List (Key×V)}{A:Around}{E:Value->Shared->Prop}
end
section
variable {X:Cx}{pins:List (Addr×Obj)}{σ:St}{H:Hp}{s:Shared}{a:Addr}{y:V}{u:Value}{A:Around}{E:Value->Shared->Prop}
end
theorem forIn_pure {α β:Type}(g:α->β->β):∀ (l:List α) (f:α->β->Sem (ForInStep β)) (c:β),(∀ x∈l,∀ c,f x c=pure (.yield (g x c)))->forIn l c f=pure (l.foldl (fun c x=>g x c) c)
 | [],f,c,_=>by rw [List.forIn_nil];rfl
 | x::r,f,c,h=>by
  rw [List.forIn_cons,h x List.mem_cons_self];show (forIn r (g x c) f)=_;rw [forIn_pure g r f (g x c) fun y hy=>h y (List.mem_cons_of_mem _ hy)];rfl
noncomputable def closG (env:Env) (x:Str×NameKind) (cs:List (Str×Addr)):List (Str×Addr):=if x.2==.free then (x.1,(env.cells.lookup x.1).getD 0)::cs else cs
noncomputable def closL (env:Env) (names:List (Str×NameKind)):List (Str×Addr):=names.foldl (fun c x=>closG env x c) []
theorem closureFor_ok {scope:Scope}{env:Env}(h:∀ x∈scope.names,x.2=.free->∃ c,env.cells.lookup x.1=some c):closureFor scope env=pure (closL env scope.names):=by
 unfold closureFor closL;dsimp only;rw [forIn_pure (closG env)]
 ·rfl
 ·intro x hx c;obtain ⟨n,k⟩:=x;dsimp only;unfold closG
  by_cases e:(k==NameKind.free)=true
  ·obtain ⟨a,ha⟩:=h _ hx (beq_iff_eq.mp e);have ha':List.lookup n env.cells=some a:=ha;dsimp only;rw [if_pos e,if_pos e];unfold cellOf;rw [ha'];rfl
  ·dsimp only;rw [if_neg e,if_neg e]
theorem closL_mem' {env:Env}:∀ (names:List (Str×NameKind)) (acc:List (Str×Addr)) (x:Str) (c:Addr),(x,c)∈names.foldl (fun c x=>closG env x c) acc->(x,c)∈acc\/((x,NameKind.free)∈names/\c=(env.cells.lookup x).getD 0)
 | [],acc,x,c,h=>.inl h
 | (n,k)::r,acc,x,c,h=>by
  rcases closL_mem' r _ x c h with q|⟨q1,q2⟩
  ·unfold closG at q;dsimp only at q;split at q
   ·rename_i e;have e:=beq_iff_eq.mp e;rcases List.mem_cons.mp q with q|q
    ·cases q;exact .inr ⟨by rw [e];exact List.mem_cons_self,rfl⟩
    ·exact .inl q
   ·exact .inl q
  ·exact .inr ⟨List.mem_cons_of_mem _ q1,q2⟩
theorem closL_has' {env:Env}:∀ (names:List (Str×NameKind)) (acc:List (Str×Addr)) (x:Str),(acc.lookup x).isSome=true\/(x,NameKind.free)∈names->((names.foldl (fun c x=>closG env x c) acc).lookup x).isSome=true
 | [],acc,x,h=>by
  rcases h with h|h
  ·exact h
  ·exact absurd h (by simp)
 | (n,k)::r,acc,x,h=>by
  refine closL_has' r _ x ?_;unfold closG;rcases h with h|h
  ·left;dsimp only;split
   ·rw [List.lookup_cons];split
    ·rfl
    ·exact h
   ·exact h
  ·rcases List.mem_cons.mp h with h|h
   ·cases h;left;dsimp only;rw [if_pos (by rfl),List.lookup_cons];simp
   ·exact .inr h
theorem closL_lookup {env:Env}{names:List (Str×NameKind)}{x:Str}{c:Addr}(h:(closL env names).lookup x=some c):(x,NameKind.free)∈names/\c=(env.cells.lookup x).getD 0:=by
 rcases closL_mem' names [] x c (PySem.mem_of_lookup h) with q|q
 ·exact absurd q (by simp)
 ·exact q
theorem closL_has {env:Env}{names:List (Str×NameKind)}{x:Str}(h:(x,NameKind.free)∈names):(closL env names).lookup x=some ((env.cells.lookup x).getD 0):=by
 obtain ⟨c,e⟩:=Option.isSome_iff_exists.mp (closL_has' (env:=env) names [] x (.inr h));rw [show closL env names=names.foldl (fun c x=>closG env x c) [] from rfl,e,(closL_lookup e).2]
theorem cellsFrom_mem:∀ (names:List (Str×NameKind)) (n:Nat) (acc:List (Str×Addr)) (x:Str) (c:Addr),(x,c)∈cellsFrom n names acc->(x,c)∈acc\/(n<=c/\(x,NameKind.cell)∈names)
 | [],_,_,_,_,h=>.inl h
 | (y,k)::r,n,acc,x,c,h=>by
  unfold cellsFrom at h;split at h
  ·rename_i e;have e:=beq_iff_eq.mp e;rcases cellsFrom_mem r (n+1) _ x c h with q|⟨q1,q2⟩
   ·rcases List.mem_cons.mp q with q|q
    ·cases q;exact .inr ⟨Nat.le_refl _,by rw [e];exact List.mem_cons_self⟩
    ·exact .inl q
   ·exact .inr ⟨by omega,List.mem_cons_of_mem _ q2⟩
  ·rcases cellsFrom_mem r n acc x c h with q|⟨q1,q2⟩
   ·exact .inl q
   ·exact .inr ⟨q1,List.mem_cons_of_mem _ q2⟩
theorem cellsFrom_own:∀ (names:List (Str×NameKind)) (n lo:Nat) (acc:List (Str×Addr)) (x:Str) (c:Addr),lo<=n->((x,NameKind.cell)∈names\/∀ c',acc.lookup x=some c'->lo<=c')->(cellsFrom n names acc).lookup x=some c->lo<=c
 | [],_,_,acc,x,c,_,h,e=>by
  rcases h with h|h
  ·exact absurd h (by simp)
  ·exact h c e
 | (y,k)::r,n,lo,acc,x,c,hl,h,e=>by
  unfold cellsFrom at e;split at e
  ·rename_i ek;refine cellsFrom_own r (n+1) lo _ x c (by omega) ?_ e;rcases h with h|h
   ·rcases List.mem_cons.mp h with h|h
    ·cases h;right;intro c' hc;rw [List.lookup_cons] at hc;rw [beq_self_eq_true] at hc;cases hc;exact hl
    ·exact .inl h
   ·right;intro c' hc;rw [List.lookup_cons] at hc;split at hc
    ·cases hc;omega
    ·exact h c' hc
  ·rename_i ek;refine cellsFrom_own r n lo acc x c hl ?_ e;rcases h with h|h
   ·rcases List.mem_cons.mp h with h|h
    ·cases h;exact absurd rfl ek
    ·exact .inl h
   ·exact .inr h
theorem cellsFrom_inj:∀ (names:List (Str×NameKind)) (n:Nat) (acc:List (Str×Addr)),(∀ x y c,(x,c)∈acc->(y,c)∈acc->x=y)->(∀ x c,(x,c)∈acc->c < n) ->
  ∀ x y c,(x,c)∈cellsFrom n names acc->(y,c)∈cellsFrom n names acc->x=y
 | [],_,_,h,_=>h
 | (z,k)::r,n,acc,h,hb=>by
  unfold cellsFrom;split
  ·refine cellsFrom_inj r (n+1) _ (fun x y c hx hy=>?_) fun x c hx=>?_
   ·rcases List.mem_cons.mp hx with hx | hx <;> rcases List.mem_cons.mp hy with hy|hy
    ·cases hx;cases hy;rfl
    ·cases hx;exact absurd (hb _ _ hy) (Nat.lt_irrefl _)
    ·cases hy;exact absurd (hb _ _ hx) (Nat.lt_irrefl _)
    ·exact h x y c hx hy
   ·rcases List.mem_cons.mp hx with hx|hx
    ·cases hx;exact Nat.lt_succ_self _
    ·exact Nat.lt_succ_of_lt (hb x c hx)
  ·exact cellsFrom_inj r n acc h hb
theorem pushCells_cell:∀ (names:List (Str×NameKind)) (h:Heap) (acc:List (Str×Addr)) (x:Str) (c:Addr),(∀ x c,(x,c)∈acc->∃ v,h.IsCell c v)->(x,c)∈cellsFrom h.objs.size names acc->∃ v,(pushCells h names).IsCell c v
 | [],h,acc,x,c,hb,e=>hb x c e
 | (y,k)::r,h,acc,x,c,hb,e=>by
  unfold cellsFrom at e;unfold pushCells;split at e
  ·rename_i ek;rw [if_pos ek];refine pushCells_cell r _ ((y,h.objs.size)::acc) x c (fun x c hx=>?_) (by rw [Heap.size_push];exact e);rcases List.mem_cons.mp hx with hx|hx
   ·cases hx;exact ⟨none,_,Heap.get?_push_size _ rfl,rfl⟩
   ·obtain ⟨v,q⟩:=hb x c hx;exact ⟨v,q.keeps fun b o e=>Heap.get?_push_of_some _ e⟩
  ·rename_i ek;rw [if_neg ek];exact pushCells_cell r h acc x c hb e
theorem pushCells_size:∀ (names:List (Str×NameKind)) (h:Heap),h.objs.size<=(pushCells h names).objs.size
 | [],h=>Nat.le_refl _
 | (y,k)::r,h=>by
  unfold pushCells;split
  ·refine Nat.le_trans ?_ (pushCells_size r _);rw [Heap.size_push];omega
  ·exact pushCells_size r h
theorem newEnv_comp {M:Model}{A:Around}{E:Value->Shared->Prop}{s:Shared}{scope:Scope}{globals:Addr}{cl:List (Str×Addr)}{qual:Str}{env:Env}{Q:Env->Shared->Prop}
  (hQ:Q (newEnv scope s.heap.objs.size globals (cellsFrom (s.heap.objs.size+1) scope.names cl) qual none .none (some env) builtinsNs) { s with heap:=pushCells (s.heap.push { cls:=.type "dict",data:=.dict #[] }) scope.names }) :
  wpAny M A (newFunctionEnv scope globals cl [] qual none .none (some env)) Q E s:=by
 simp only [newFunctionEnv,Option.isSome_some,if_true];refine wpAny_bind (wpAny_alloc ?_);refine wpAny_bind (wpAny_layCells _ (fun name kind cells=>by cases hkc:kind==NameKind.cell <;> simp [hkc]) _ _ _ _ ?_)
 rw [show ({ s with heap:=s.heap.push { cls:=.type "dict",data:=.dict #[] } }:Shared).heap.objs.size=s.heap.objs.size+1 from Heap.size_push ..];rw [List.forIn_nil];exact wpAny_bind (wpAny_pure (wpAny_pure hQ))
theorem lookup_of_mem {α:Type}:∀ {l:List (Str×α)}{n:Str}{c:α},(l.map (·.1)).Nodup->(n,c)∈l->l.lookup n=some c
 | [],_,_,_,h=>absurd h (by simp)
 | (k,v)::r,n,c,nd,h=>by
  rw [List.map_cons,List.nodup_cons] at nd;rw [List.lookup_cons];rcases List.mem_cons.mp h with q|q
  ·cases q;rw [beq_self_eq_true]
  ·have:(n==k)=false:=by
    rw [beq_eq_false_iff_ne];intro e;subst e;exact nd.1 (List.mem_map.mpr ⟨(n,c),q,rfl⟩)
   rw [this];exact lookup_of_mem nd.2 q
theorem relabel_lookup {env:Env}(scope:Scope) (x:Str):(relabel scope env).names.lookup x=(scope.names.lookup x).map fun k=>if (k==.free&&env.scope.kind==.function&&env.kindOf x==some .cell) then .cell else k:=by
 show (scope.names.map _).lookup x=_
 induction scope.names with
 | nil=>rfl
 | cons a r ih =>
  obtain ⟨n,k⟩:=a;rw [List.map_cons];dsimp only;rw [List.lookup_cons (b:=k)]
  by_cases e:(x==n)=true
  ·rw [e];have e':=beq_iff_eq.mp e;subst e';dsimp only;split
   ·rename_i hc;rw [List.lookup_cons,e];simp only [Option.map_some,hc,if_true]
   ·rename_i hc;rw [List.lookup_cons,e];rw [Option.map_some,if_neg hc]
  ·have e2:(x==n)=false:=by simpa using e
   rw [e2];dsimp only;split
   ·rw [List.lookup_cons,e2];exact ih
   ·rw [List.lookup_cons,e2];exact ih
structure CompOk (X:Cx) (scope:Scope):Prop where
 kind:scope.kind=.function
 nd:(scope.names.map (·.1)).Nodup
 fr:∀ x∈scope.names,x.2=.free->X.env.kindOf x.1=some .cell\/X.env.kindOf x.1=some .free
noncomputable def cxComp (X:Cx) (pins:List (Addr×Obj)) (N':List Str) (scope:Scope) (C:Addr) (cells:List (Str×Addr)) (s₀:Shared) (H₀:Hp) (fp:List Addr):Cx where
 prog:=X.prog
 w:=X.w
 K:=X.K
 mg:=X.mg
 base:=X.base
 A:=X.A
 N:=N'
 s₀:=s₀
 H₀:=H₀
 env:={ scope:=relabel scope X.env,locals:=C,globals:=X.env.globals,cells:=cells,qual:=X.env.qual,func:=none,code:=X.env.code,frame:=X.env.frame,builtins:=X.env.builtins }
 outer:=X.stack
 stack:=X.stack
 ex:=fp
 fn:=fun x=>decide ((x,NameKind.cell)∈scope.names)
 calm:=X.calm
 pn:=X.pn++pins
 xe:=fun _ _=>False
noncomputable def Cap (X:Cx) (N':List Str) (scope:Scope) (σ σ0:St):Prop:=σ0.length=N'.length/\∀ (i:Nat) (x:Str) (v:V),N'[i]?=some x->σ0[i]?=some (some v) ->
 scope.names.lookup x=some .free/\∃ j:Nat,X.N[j]?=some x/\σ[j]?=some (some v)
noncomputable abbrev listObj (its:List Value) (n:Nat):Obj:={ cls:=.type "list",data:=.seq its.toArray n }
section
variable {X:Cx}{pins:List (Addr×Obj)}{σ:St}{H:Hp}{s:Shared}
theorem comp_start {N':List Str}{scope:Scope}{fp:List Addr}{σ0:St}(I:Inv X pins σ H s) (S:CompOk X scope) (hf:∀ b∈fp,FpOk X pins H b) (hb:∀ b∈fp,∃ o,s.heap.get? b=some o) (hσ:Cap X N' scope σ σ0) :
    Inv (cxComp X pins N' scope (s.heap.objs.size+1) (cellsFrom (s.heap.objs.size+1+1) scope.names (closL X.env scope.names)) s H fp) [(s.heap.objs.size,listObj [] 0)] σ0 H
      { s with heap:=pushCells ((s.heap.push (listObj [] 0)).push { cls:=.type "dict",data:=.dict #[] }) scope.names }:=by
  have sz1:(s.heap.push (listObj [] 0)).objs.size=s.heap.objs.size+1:=Heap.size_push ..
  have sz2:((s.heap.push (listObj [] 0)).push { cls:=.type "dict",data:=.dict #[] }).objs.size=s.heap.objs.size+1+1:=by rw [Heap.size_push,sz1]
  have keep:∀ b o,s.heap.get? b=some o->(pushCells ((s.heap.push (listObj [] 0)).push { cls:=.type "dict",data:=.dict #[] }) scope.names).get? b=some o:=fun b o e=>pushCells_keeps _ _ b o (Heap.get?_push_of_some _ (Heap.get?_push_of_some _ e))
  have capt:∀ x c,(x,c)∈closL X.env scope.names->X.env.cells.lookup x=some c:=fun x c h=>by
    rcases closL_mem' scope.names [] x c h with q|⟨q1,q2⟩
    · exact absurd q (by simp)
    · obtain ⟨c',e⟩:=I.ok.has x (S.fr _ q1 rfl);rw [e] at q2;rw [e,q2];rfl
  have cells:∀ x c,(cellsFrom (s.heap.objs.size+1+1) scope.names (closL X.env scope.names)).lookup x=some c->X.env.cells.lookup x=some c\/s.heap.objs.size+1+1<=c:=fun x c h=>by
    rcases cellsFrom_mem _ _ _ x c (PySem.mem_of_lookup h) with q|⟨q,_⟩
    · exact .inl (capt x c q)
    · exact .inr q
  have stk:∀ b∈frs X.stack,b < s.heap.objs.size:=fun b hb=>by
    rcases Nat.lt_or_ge b s.heap.objs.size with z|z
    · exact z
    · rcases List.mem_cons.mp (I.stkSub b hb) with q|q
      · rw [q];exact I.lt
      · exact absurd q (I.nofs z)
  have fpb:∀ b∈fp,b < s.heap.objs.size:=fun b h=>let ⟨o,e⟩:=hb b h;Heap.lt_size e
  refine ⟨⟨I.ok.mod,S.kind,I.ok.glob,I.ok.blt,Nat.le_succ _,fun x y c h1 h2=>?_,fun x hx=>?_,fun x c hx h=>?_,I.ok.hd,I.ok.frames,.inl rfl,fun b hb=>⟨?_,fun x c h=>?_⟩,I.bs,Nat.le_trans I.ok.bsz I.sz,fun b o h z=>?_,fun b hb z=>?_,I.stack,I.stkFree⟩,
    rfl,I.bare,Un.kept keep,⟨fun _=>none,?_,fun i x v h1 h2 h3=>?_⟩,fun x c h=>?_,I.hok.fresh (Nat.le_succ _),fun x c h=>?_,fun p hp=>?_,I.hok.kept keep,hσ.1⟩
  · refine cellsFrom_inj scope.names (s.heap.objs.size+1+1) (closL X.env scope.names) (fun x y c h1 h2=>I.ok.inj x y c (capt x c h1) (capt y c h2)) (fun x c h=>?_) x y c (PySem.mem_of_lookup h1) (PySem.mem_of_lookup h2);obtain ⟨v,q⟩:=I.cell x c (capt x c h);exact Nat.lt_succ_of_lt (Nat.lt_succ_of_lt q.lt)
  · have hx:(relabel scope X.env).names.lookup x=some .cell\/(relabel scope X.env).names.lookup x=some .free:=hx;rw [relabel_lookup] at hx;refine Option.isSome_iff_exists.mp (PySem.W.cellsFrom_some scope.names _ _ ?_);cases e:scope.names.lookup x with
    | none=>rw [e] at hx;rcases hx with h | h <;> cases h
    | some k =>
      cases k with
      | cell=>exact .inl rfl
      | free=>right;rw [closL_has (PySem.mem_of_lookup e)];rfl
      | «local»=>rw [e] at hx;rcases hx with h | h <;> cases h
      | globalExplicit=>rw [e] at hx;rcases hx with h | h <;> cases h
      | globalImplicit=>rw [e] at hx;rcases hx with h | h <;> cases h
  · exact Nat.le_trans (Nat.le_succ_of_le (Nat.le_succ _)) (cellsFrom_own scope.names _ (s.heap.objs.size+1+1) _ x c (Nat.le_refl _) (.inl (of_decide_eq_true hx)) h)
  · exact Nat.ne_of_lt (Nat.lt_succ_of_lt (fpb b hb))
  · rcases cells x c h with q|q
    · exact (hf b hb).2.2.2.2.1 x c q
    · exact Nat.ne_of_gt (Nat.lt_of_lt_of_le (fpb b hb) (by omega))
  · rcases (hf b z).2.2.2.1 with q|q
    · exact I.ok.noex b o h q
    · exact absurd (Nat.lt_of_lt_of_le (Heap.lt_size h) (Nat.le_trans I.ok.bsz q)) (Nat.lt_irrefl _)
  · rcases List.mem_cons.mp (I.stkSub b z) with q|q
    · exact (hf b hb).2.1 q
    · exact (hf b hb).2.2.1 q
  · show (pushCells _ _).Ns (s.heap.objs.size+1) _
    have n:=(Heap.Ns.new (s.heap.push (listObj [] 0)) (.type "dict")).keeps (pushCells_keeps scope.names _);rw [sz1] at n;exact n
  · obtain ⟨e1,j,e2,e3⟩:=hσ.2 i x v h1 h2;obtain ⟨m,hn,hl⟩:=I.loc;have fr:=S.fr _ (PySem.mem_of_lookup e1) rfl;have vis:Vis X.env.scope x:=by
      rcases fr with q|q
      · exact .inr (.inl q)
      · exact .inr (.inr q)
    obtain ⟨u,r,l⟩:=hl j x v e2 e3 vis;refine ⟨u,r,.inr ⟨?_,?_⟩⟩
    · show (relabel scope X.env).names.lookup x=some .cell\/(relabel scope X.env).names.lookup x=some .free;rw [relabel_lookup,e1];simp only [Option.map_some];split
      · exact .inl rfl
      · exact .inr rfl
    · rcases l with ⟨k,_⟩|⟨_,c,ec,hc⟩
      · rcases fr with q | q <;> · rw [k] at q;cases q
      · refine ⟨c,?_,hc.keeps keep⟩;obtain ⟨c2,e⟩:=Option.isSome_iff_exists.mp (PySem.W.cellsFrom_some (x:=x) scope.names (s.heap.objs.size+1+1) (closL X.env scope.names) (.inr (by rw [closL_has (PySem.mem_of_lookup e1)];rfl)));show (cellsFrom _ _ _).lookup x=some c;rw [e];rcases cellsFrom_mem _ _ _ x c2 (PySem.mem_of_lookup e) with q|⟨_,q⟩
        · rw [capt x c2 q] at ec;exact ec
        · rw [lookup_of_mem S.nd q] at e1;cases e1
  · refine pushCells_cell scope.names ((s.heap.push (listObj [] 0)).push { cls:=.type "dict",data:=.dict #[] }) (closL X.env scope.names) x c (fun x c h=>?_) ?_
    · obtain ⟨v,q⟩:=I.cell x c (capt x c h);exact ⟨v,q.keeps fun b o e=>Heap.get?_push_of_some _ (Heap.get?_push_of_some _ e)⟩
    · rw [sz2];exact PySem.mem_of_lookup h
  · rcases cells x c h with q|q
    · exact I.freeC x c q
    · exact I.hok.fresh (by omega)
  · rcases List.mem_append.mp hp with hp|hp
    · obtain ⟨q1,q2,q3,q4,q5⟩:=I.pin p hp;have lt:=Heap.lt_size q1;refine ⟨keep _ _ q1,q2,Nat.ne_of_lt (Nat.lt_succ_of_lt lt),fun z=>?_,q5⟩;rcases List.mem_cons.mp (I.stkSub p.1 z) with r|r
      · exact q3 r
      · exact q4 r
    · have e:p=(s.heap.objs.size,listObj [] 0):=by simpa using hp
      subst e;refine ⟨pushCells_keeps _ _ _ _ (Heap.get?_push_of_some _ (Heap.get?_push_size _ rfl)),I.hok.fresh (Nat.le_refl _),Nat.ne_of_lt (Nat.lt_succ_self _),fun z=>?_,fun v=>by intro z;cases z⟩;exact Nat.lt_irrefl _ (stk _ z)
theorem comp_end {N':List Str}{scope:Scope}{fp:List Addr}{σ':St}{C:Addr}{cells:List (Str×Addr)}{H':Hp}{s':Shared}{its:List Value}{n:Nat}{ys:List V}{pl:List (Addr×Obj)}(I:Inv X pins σ H s) (hf:∀ b∈fp,FpOk X pins H b)
  (J:Inv (cxComp X pins N' scope C cells s H fp) ((s.heap.objs.size,listObj its n)::pl) σ' H' s') (r:Vals ys its) (hz:ys.length<=sizeLine) :
  Inv X pins σ (upd H' s.heap.objs.size (.lst ys)) s':=by
 obtain ⟨p1,p2,p3,p4,p5⟩:=J.pin (s.heap.objs.size,listObj its n) (List.mem_append_right _ List.mem_cons_self);have hD:H' s.heap.objs.size=none:=p2;have ne:∀ b o,s.heap.get? b=some o->b≠s.heap.objs.size:=fun b o e=>Nat.ne_of_lt (Heap.lt_size e)
 have U:=J.base;refine I.call' (ch:=fp) J.os ⟨fun b o e h1 h2 h3=>U.keep b o e h1 h2 h3,fun b o e h1 h2 h3=>U.slot b o e h1 h2 h3,fun b o e h1 h2=>?_,U.there,fun b xs e=>?_,fun b o u e=>?_,fun b ps e=>?_⟩ ?_ J.bare fun b hb=>?_
 ·rw [upd_ne (ne b o e)];exact U.free b o e h1 h2
 ·have q:=U.tups b xs e;rw [upd_ne (ne_of_none q hD)];exact q
 ·have q:=U.frzs b o u e;rw [upd_ne (ne_of_none q hD)];exact q
 ·obtain ⟨m,q⟩:=U.tbls b ps e;exact ⟨m,by rw [upd_ne (ne_of_none q hD)];exact q⟩
 ·intro b u e
  by_cases hb:b=s.heap.objs.size
  ·subst hb;rw [upd_same] at e;cases e;exact ⟨hz,its,n,r,p1⟩
  ·rw [upd_ne hb] at e;exact (J.hok b u e).stay (fun _ _ _ q=>q) (fun c q=>by rw [upd_ne (ne_of_none q hD)];exact q) fun c xs q=>by rw [upd_ne (ne_of_none q hD)];exact q
 ·obtain ⟨q0,q1,q2,q3,q4,q5⟩:=hf b hb;exact ⟨q3,q1,q4,q5⟩
end
section
variable {prog:Program}{w:World}{A:Around}{E:Value->Shared->Prop}{R:Result->Shared->Prop}{s:Shared}
noncomputable abbrev testsOf (ifs:List Expr) (env:Env):Sem Bool:=forIn ifs true fun c r=>if r=true then do let ok ← isTrue c env (eval c env);pure (ForInStep.yield ok) else pure (ForInStep.yield r)
theorem compLoop_gen {elt target iter:Expr}{ifs:List Expr}{scope:Scope}{pos:Pos}{it acc:Value}{env:Env}(I:Nat->Shared->Prop)
  (turn:∀ n s,I n s->wpAny (model prog w) A (pyNext it) (fun r s₁=>match r with
   | none=>R (.ok .next) s₁
   | some v=>wpAny (model prog w) A (letOwnedTupleGo target it v) (fun _ s'=>wpAny (model prog w) A (assign target env v) (fun _ s₂ =>
     wpAny (model prog w) A (testsOf ifs env) (fun ok s₃ =>
      if ok=true then wpAny (model prog w) A (eval elt env) (fun x s₄ =>
       wpAny (model prog w) A (call (.builtin "list.append") [acc,x]) (fun _ s₅=>∃ m,m < n/\I m s₅) (fun _ _=>False) s₄) (fun _ _=>False) s₃
      else ∃ m,m < n/\I m s₃) (fun _ _=>False) s₂) (fun _ _=>False) s') (fun _ _=>False) s₁) (fun _ _=>False) s)
  (n:Nat) (h:I n s) :
  codeAny (model prog w) A (.compLoop (.ListComp elt [⟨target,iter,ifs,0⟩] scope pos) 0 it acc env) R s:=by
 refine codeAny_loop rfl I (fun n s hI=>?_) n h;show wpAny _ A ((compTurn (.ListComp elt [⟨target,iter,ifs,0⟩] scope pos) 0 it acc env).onRaise (fun x=>do noteFrame x env;theTreesLotGoes x)) _ _ s;refine wpAny_noted ?_;rw [compTurn_list];refine wpAny_bind (wpAny_standAt (wpAny_bind (wpAny_mono (turn n s hI) (fun r s₁ h₁=>?_) fun _ _ h'=>h'.elim)));cases r with
 | none=>exact wpAny_pure h₁
 | some v =>
  refine wpAny_bind (wpAny_mono h₁ (fun _ s' h'=>?_) fun _ _ h'=>h'.elim);refine wpAny_bind (wpAny_mono h' (fun _ s₂ h₂=>wpAny_bind (wpAny_mono h₂ (fun ok s₃ h₃=>?_) fun _ _ h'=>h'.elim)) fun _ _ h'=>h'.elim);cases ok with
  | false=>exact wpAny_pure ⟨rfl,h₃⟩
  | true =>
   exact wpAny_bind (wpAny_bind (wpAny_mono h₃ (fun x s₄ h₄=>wpAny_bind (wpAny_mono h₄ (fun _ s₅ h₅=>wpAny_pure (wpAny_pure ⟨rfl,h₅⟩)) fun _ _ h'=>h'.elim)) fun _ _ h'=>h'.elim))
end
noncomputable def PIf (X:Cx) (ifs:List Expr) (t:TT):Prop :=
 ∀ (pins:List (Addr×Obj)) (s:Shared) (σ:St) (H:Hp) (Q:Bool->Hp->Prop),Inv X pins σ H s->t σ H Q->wpAny (model X.prog X.w) X.A (testsOf ifs X.env) (TP X pins σ Q) X.xe s
theorem pif_nil {X:Cx}:PIf X [] (fun _ H Q=>Q true H):=fun pins s σ H Q I h=>wpAny_tests_nil ⟨H,I,h⟩
theorem pif_one {X:Cx}{c:Expr}{t:TT}(h:PT X c t):PIf X [c] t:=fun pins s σ H Q I q=>wpAny_tests_one (h pins s σ H Q I q)
noncomputable def Kept (σ0 σ2:St):Prop:=σ2.length=σ0.length/\∀ (i:Nat) v,σ0[i]?=some (some v)->σ2[i]?=some (some v)
noncomputable def tComp (X:Cx) (N':List Str) (scope:Scope) (wi:TI) (g:TG) (tc:TT) (te:TE):TE:=fun σ H Q=>wi σ H fun J H1=>∃ σ0,Cap X N' scope σ σ0/\∃ W:Nat->Nat->List V->Hp->Prop,(∃ m,W 0 m [] H1)/\∀ i m acc H,W i m acc H ->
 (J.stop i H/\∀ p,H p=none->Q (.ref p) (upd H p (.lst acc))) \/
 (J.go i H/\∃ N:List V->Hp->Prop,(∀ acc' H',N acc' H'->∃ m',m' < m/\W (i+1) m' acc' H')/\∀ x H',J.yld i H x H'->g x σ0 H' fun σ2 H2=>Kept σ0 σ2/\tc σ2 H2 fun b H3=>if b=true then acc.length < sizeLine/\te σ2 H3 fun y H4=>N (acc++[y]) H4 else N acc H3)
section
variable {X:Cx}{N':List Str}{scope:Scope}{wi:TI}{g:TG}{tc:TT}{te:TE}{elt target iter:Expr}{ifs:List Expr}{pos:Pos}
theorem comp_block {pins:List (Addr×Obj)}{s:Shared}{σ σ0:St}{H:Hp}{it:Addr}{fp:List Addr}{tn:Nat->Heap->Prop}{J:It}{QQ:List V->Hp->Prop}{E:Value->Shared->Prop}{RR:Value->Addr->Result->Shared->Prop}(hc:X.calm=true) (S:CompOk X scope)
  (hg:∀ pins C cells s₀ H₀ fp,PG (cxComp X pins N' scope C cells s₀ H₀ fp) target g)
  (hi:∀ pins C cells s₀ H₀ fp,PIf (cxComp X pins N' scope C cells s₀ H₀ fp) ifs tc)
  (he:∀ pins C cells s₀ H₀ fp,PE (cxComp X pins N' scope C cells s₀ H₀ fp) elt te)
  (I:Inv X pins σ H s) (T:Turn X.prog X.w X.K target J fp it tn) (st:tn 0 s.heap) (hf:∀ b∈fp,FpOk X pins H b) (hσ:Cap X N' scope σ σ0)
  (W:Nat->Nat->List V->Hp->Prop) (w0:∃ m,W 0 m [] H)
  (turn:∀ i m acc H,W i m acc H->(J.stop i H/\QQ acc H) \/
   (J.go i H/\∃ N:List V->Hp->Prop,(∀ acc' H',N acc' H'->∃ m',m' < m/\W (i+1) m' acc' H')/\∀ x H',J.yld i H x H'->g x σ0 H' fun σ2 H2=>Kept σ0 σ2/\tc σ2 H2 fun b H3=>if b=true then acc.length < sizeLine/\te σ2 H3 fun y H4=>N (acc++[y]) H4 else N acc H3))
  (hRR:∀ (C:Addr) (acc:List V) (H':Hp) (s':Shared) (m:Str->Option Value),QQ acc H'->Inv X pins σ (upd H' s.heap.objs.size (.lst acc)) s'->H' s.heap.objs.size=none->s'.heap.Ns C m->H' C=none->C≠s.heap.objs.size->s.heap.objs.size<=C->RR (.ref s.heap.objs.size) C (.ok .next) s') :
  wpAny (model X.prog X.w) X.A (newList []) (fun acc s₃=>wpAny (model X.prog X.w) X.A (newFunctionEnv scope X.env.globals (closL X.env scope.names) [] X.env.qual none .none (some X.env)) (fun cenv s₄ =>
   codeAny (model X.prog X.w) X.A (.compStart (.ListComp elt [⟨target,iter,ifs,0⟩] scope pos) 0 (.ref it) acc { cenv with scope:=relabel scope X.env }) (RR acc cenv.locals) s₄) E s₃) E s:=by
 refine wpAny_newObj_type (newEnv_comp ?_);have sz1:(s.heap.push (listObj [] 0)).objs.size=s.heap.objs.size+1:=Heap.size_push ..;have I0:=comp_start (N':=N') (σ0:=σ0) I S hf (fun b hb=>let ⟨o,e,_⟩:=T.obj 0 _ st b hb;⟨o,e⟩) hσ
 show codeAny (model X.prog X.w) X.A (.compStart (.ListComp elt [⟨target,iter,ifs,0⟩] scope pos) 0 (.ref it) (.ref s.heap.objs.size) _) (RR (.ref s.heap.objs.size) (s.heap.push (listObj [] 0)).objs.size) { s with heap:=pushCells ((s.heap.push (listObj [] 0)).push { cls:=.type "dict",data:=.dict #[] }) scope.names };rw [sz1];show codeAny (model X.prog X.w) X.A (.compStart (.ListComp elt [⟨target,iter,ifs,0⟩] scope pos) 0 (.ref it) (.ref s.heap.objs.size) (cxComp X pins N' scope (s.heap.objs.size+1) (cellsFrom (s.heap.objs.size+1+1) scope.names (closL X.env scope.names)) s H fp).env) _ _;generalize hX':cxComp X pins N' scope (s.heap.objs.size+1) (cellsFrom (s.heap.objs.size+1+1) scope.names (closL X.env scope.names)) s H fp=X' at I0 ⊢
 have keep0:∀ b o,s.heap.get? b=some o->(pushCells ((s.heap.push (listObj [] 0)).push { cls:=.type "dict",data:=.dict #[] }) scope.names).get? b=some o:=fun b o e=>pushCells_keeps _ _ b o (Heap.get?_push_of_some _ (Heap.get?_push_of_some _ e))
 have st0:tn 0 (pushCells ((s.heap.push (listObj [] 0)).push { cls:=.type "dict",data:=.dict #[] }) scope.names):=T.keep _ _ _ st fun b _ o e=>keep0 b o e
 have hA:X'.A=X.A:=by rw [← hX'];rfl
 have hP:X'.prog=X.prog:=by rw [← hX'];rfl
 have hw:X'.w=X.w:=by rw [← hX'];rfl
 have hK:X'.K=X.K:=by rw [← hX'];rfl
 have hC:X'.calm=true:=by rw [← hX'];exact hc
 have hL:X'.env.locals=s.heap.objs.size+1:=by rw [← hX'];rfl
 have hS0:X'.s₀=s:=by rw [← hX'];rfl
 have hxe:X'.xe=fun _ _=>False:=by rw [← hX'];rfl
 have hex:X'.ex=fp:=by rw [← hX'];rfl
 have hpn:X'.pn=X.pn++pins:=by rw [← hX'];rfl
 have hgX:PG X' target g:=by rw [← hX'];exact hg _ _ _ _ _ _
 have hiX:PIf X' ifs tc:=by rw [← hX'];exact hi _ _ _ _ _ _
 have heX:PE X' elt te:=by rw [← hX'];exact he _ _ _ _ _ _
 -- the iterator's own objects,in the block
 have fpo:∀ {pl:List (Addr×Obj)} {H':Hp} {its:List Value} {n:Nat},(∀ b∈fp,H' b=none)->∀ b∈fp,FpOk X' [(s.heap.objs.size,listObj its n)] H' b:=fun {pl H' its n} hn b hb=>by
  obtain ⟨q0,q1,q2,q3,q4,q5⟩:=hf b hb;obtain ⟨e1,e2⟩:=I0.ok.exf b (by rw [hex];exact hb);have lt:b < s.heap.objs.size:=let ⟨o,e,_⟩:=T.obj 0 _ st b hb;Heap.lt_size e;refine ⟨hn b hb,e1,I0.ok.exfs b (by rw [hex];exact hb),.inl (by rw [hex];exact hb),e2,fun p hp=>?_⟩;rw [hpn] at hp;rcases List.mem_append.mp hp with hp|hp
  ·exact q5 p hp
  ·have e:p=(s.heap.objs.size,listObj its n):=by simpa using hp
   subst e;exact Nat.ne_of_gt lt
 obtain ⟨m0,w0⟩:=w0
 have loop:codeAny (model X.prog X.w) X.A (.compLoop (.ListComp elt [⟨target,iter,ifs,0⟩] scope pos) 0 (.ref it) (.ref s.heap.objs.size) X'.env) (RR (.ref s.heap.objs.size) (s.heap.objs.size+1)) { s with heap:=pushCells ((s.heap.push (listObj [] 0)).push { cls:=.type "dict",data:=.dict #[] }) scope.names }:=by
  refine compLoop_gen (fun k s'=>∃ i H' acc its n,Inv X' [(s.heap.objs.size,listObj its n)] σ0 H' s'/\tn i s'.heap/\(∀ b∈fp,H' b=none)/\Vals acc its/\acc.length<=sizeLine/\W i k acc H') ?_ m0
   ⟨0,H,[],[],0,I0,st0,fun b hb=>(hf b hb).1,.nil,Nat.zero_le _,w0⟩
  rintro k s3 ⟨i,H3,acc,its,n,I3,st3,fr3,rv,hz,w3⟩;rcases turn i k acc H3 w3 with ⟨stop,qn⟩|⟨go,N,hN,step⟩
  ·have z:=T.done X' hP hw hK hC i _ s3 σ0 H3 (fun _ _=>False) I3 (fpo (pl:=[]) fr3) st3 stop;rw [hA] at z;refine thn z ?_;rintro r s4 ⟨hr,I4⟩;subst hr;obtain ⟨m,hn,_⟩:=I4.loc;rw [hL] at hn;have fC:=I4.free;rw [hL] at fC;have e:=I4;rw [← hX'] at e;exact hRR _ acc H3 s4 m qn (comp_end I hf e rv hz) (I4.pin (s.heap.objs.size,listObj its n) (List.mem_append_right _ List.mem_cons_self)).2.1 hn fC (Nat.succ_ne_self _) (Nat.le_succ _)
  ·have z:=T.item X' hP hw hK hC i _ s3 σ0 H3 (fun _ _=>False) I3 (fpo (pl:=[]) fr3) st3 go;rw [hA] at z;refine thn z ?_;rintro r s4 ⟨u,hr,h4⟩;subst hr;refine thn h4 ?_;rintro _ s5 ⟨x,H5,I5,r5,y5,st5,fr5⟩;have I5':=I5.pinned (fpo (pl:=[]) fr5) (T.obj _ _ st5);have zg:=hgX _ s5 σ0 H5 x u _ I5' r5 (step x H5 y5);rw [hP,hw,hA,hxe] at zg;refine thn zg ?_;rintro _ s6 ⟨σ6,H6,I6,kp,q6⟩;have zi:=hiX _ s6 σ6 H6 _ I6 q6;rw [hP,hw,hA,hxe] at zi;refine thn zi ?_;rintro b s7 ⟨H7,I7,q7⟩
   -- back to the loop's head
   have back:∀ {H8:Hp} {s8:Shared} {acc':List V} {its':List Value} {n':Nat},Inv X' ([(s.heap.objs.size,listObj its' n')]++pinsAt fp s5.heap) σ6 H8 s8->Vals acc' its'->acc'.length<=sizeLine->N acc' H8 ->
     ∃ m,m < k/\∃ i H' acc its n,Inv X' [(s.heap.objs.size,listObj its n)] σ0 H' s8/\tn i s8.heap/\(∀ b∈fp,H' b=none)/\Vals acc its/\acc.length<=sizeLine/\W i m acc H':=fun {H8 s8 acc' its' n'} I8 rv' hz' n8=>by
    obtain ⟨m',hm,w8⟩:=hN acc' H8 n8;refine ⟨m',hm,i+1,H8,acc',its',n',(I8.unpinned).weak kp.1.symm kp.2,T.keep _ _ _ st5 fun b hb o e=>(I8.pin (b,o) (List.mem_append_right _ (List.mem_append_right _ (mem_pinsAt hb e)))).1,fun b hb=>?_,rv',hz',w8⟩;obtain ⟨o,e,d⟩:=T.obj _ _ st5 b hb;exact (I8.pin (b,o) (List.mem_append_right _ (List.mem_append_right _ (mem_pinsAt hb e)))).2.1
   cases b with
   | false =>
    rw [if_neg Bool.false_ne_true] at q7;rw [if_neg Bool.false_ne_true];exact back I7 rv hz q7
   | true =>
    rw [if_pos rfl] at q7;rw [if_pos rfl];obtain ⟨hlt,q7⟩:=q7;have ze:=heX _ s7 σ6 H7 _ I7 q7;rw [hP,hw,hA,hxe] at ze;refine thn ze ?_;rintro y s8 ⟨yv,H8,I8,r8,q8⟩;obtain ⟨p1,p2,p3,p4,p5⟩:=I8.pin (s.heap.objs.size,listObj its n) (List.mem_append_right _ (List.mem_append_left _ List.mem_cons_self));have len:its.toArray.size<=sizeLine:=by
     have:=rv.length;simp only [List.size_toArray];omega
    refine wpAny_list_append_plain (hsz:=len) ⟨n,p1⟩ ?_;rintro h' ⟨n',pl⟩ sb;have pl':h'.get? s.heap.objs.size=some (listObj (its++[y]) n'):=by rw [pl];simp [listObj]
    have lD:s.heap.objs.size < (pushCells ((s.heap.push (listObj [] 0)).push { cls:=.type "dict",data:=.dict #[] }) scope.names).objs.size:=by
     refine Nat.lt_of_lt_of_le ?_ (pushCells_size _ _);rw [Heap.size_push,Heap.size_push];omega
    have cne:∀ z c,X'.env.cells.lookup z=some c->c≠s.heap.objs.size:=fun z c e q=>by
     obtain ⟨v,hv⟩:=I8.cell z c e;obtain ⟨o,ho,hd⟩:=hv;rw [q] at ho;rw [show s8.heap.get? s.heap.objs.size=some (listObj its n) from p1] at ho;cases ho;cases hd
    have J9:Inv X' (pinsAt fp s5.heap) σ6 H8 { s8 with heap:=h' }:=by
     refine Inv.turned (t':=s8.toks) (it:=s.heap.objs.size) (I8.pins_of fun p hp=>I8.pin p (List.mem_append_right _ (List.mem_append_right _ hp))) (fun b o hb e=>sb.extBut b o hb e) p2 (by rw [hL];exact Nat.ne_of_lt (Nat.lt_succ_self _)) (.inr (by rw [hS0];exact Nat.le_refl _)) cne fun p hp=>?_
     rw [hpn] at hp;rcases List.mem_append.mp hp with hp|hp
     ·have:p.1 < s.heap.objs.size:=Heap.lt_size (I.pin p hp).1;exact Nat.ne_of_lt this
     ·obtain ⟨hb,_⟩:=of_pinsAt hp;have:p.1 < s.heap.objs.size:=let ⟨o,e,_⟩:=T.obj 0 _ st p.1 hb;Heap.lt_size e;exact Nat.ne_of_lt this
    have I9:Inv X' ([(s.heap.objs.size,listObj (its++[y]) n')]++pinsAt fp s5.heap) σ6 H8 { s8 with heap:=h' }:=by
     refine J9.pins_of fun p hp=>?_
     rcases List.mem_append.mp hp with hp|hp
     ·have e:p=(s.heap.objs.size,listObj (its++[y]) n'):=by simpa using hp
      subst e;exact ⟨pl',p2,p3,p4,fun v=>by intro z;cases z⟩
     ·exact J9.pin p (List.mem_append_right _ hp)
    exact back I9 (rv.append (.cons r8 .nil)) (by rw [List.length_append,List.length_singleton];omega) q8
 exact codeAny_compStart_list loop (T.self X.A 0 _ _ _ st0 loop)
theorem pe_comp (hc:X.calm=true) (S:CompOk X scope) (hit:PI X target iter wi)
  (hg:∀ pins C cells s₀ H₀ fp,PG (cxComp X pins N' scope C cells s₀ H₀ fp) target g)
  (hi:∀ pins C cells s₀ H₀ fp,PIf (cxComp X pins N' scope C cells s₀ H₀ fp) ifs tc)
  (he:∀ pins C cells s₀ H₀ fp,PE (cxComp X pins N' scope C cells s₀ H₀ fp) elt te)
  (hs:∀ x,foldedSetIterable iter X.env x=pure x:=by intro _;rfl) :
  PE X (.ListComp elt [⟨target,iter,ifs,0⟩] scope pos) (tComp X N' scope wi g tc te):=by
 intro pins s σ H Q I h;rw [eval_ListComp];have hfree:∀ x∈scope.names,x.2=.free->∃ c,X.env.cells.lookup x.1=some c:=fun x hx e=>I.ok.has x.1 (S.fr x hx e)
 refine wpAny_comprehension_free (use:=none) rfl hs (closureFor_ok hfree) S.kind (fun x hx e=>lookup_of_mem S.nd (by rw [← e];exact hx)) (thn (hit pins s σ H _ I h) fun v s1 h1=>thn h1 fun itv s2 h2=>?_);obtain ⟨it,fp,tn,J,H2,e,I2,T,st2,f2,σ0,hσ,W,w0,turn⟩:=h2;subst e;refine comp_block (QQ:=fun acc H=>∀ p,H p=none->Q (.ref p) (upd H p (.lst acc))) (RR:=fun acc C=>compPost (model X.prog X.w) X.A X.xe none (EP X pins σ Q) acc C) hc S hg hi he I2 T st2 f2 hσ W w0 turn ?_;intro C acc H' s' m q I' hD hn hC hne hle;refine ⟨m,hn,fun h' sb=>?_⟩;obtain ⟨oC,_,_,hoC,_⟩:=id hn;have uC:upd H' s2.heap.objs.size (.lst acc) C=none:=by rw [upd_ne hne];exact hC
 have hCL:C≠X.env.locals:=Nat.ne_of_gt (Nat.lt_of_lt_of_le I2.lt hle);refine ⟨.ref s2.heap.objs.size,_,I'.turned (t':=s'.toks) (it:=C) (fun b o hb e=>sb.extBut b o hb e) uC hCL (.inr (Nat.le_trans I2.sz hle)) (fun x c e z=>?_) fun p hp z=>?_,rfl,q _ hD⟩
 ·obtain ⟨v,hv⟩:=I2.cell x c e;have:=hv.lt;rw [z] at this;exact Nat.lt_irrefl _ (Nat.lt_of_lt_of_le this hle)
 ·have:=Heap.lt_size (I2.pin p hp).1;rw [z] at this;exact Nat.lt_irrefl _ (Nat.lt_of_lt_of_le this hle)
theorem ps_setComp {y:Str}{py spos:Pos}{gy:TG}(hc:X.calm=true) (S:CompOk X scope) (hit:PI X target iter wi)
  (hg:∀ pins C cells s₀ H₀ fp,PG (cxComp X pins N' scope C cells s₀ H₀ fp) target g)
  (hi:∀ pins C cells s₀ H₀ fp,PIf (cxComp X pins N' scope C cells s₀ H₀ fp) ifs tc)
  (he:∀ pins C cells s₀ H₀ fp,PE (cxComp X pins N' scope C cells s₀ H₀ fp) elt te)
  (hgy:PG X (.Name y py) gy)
  (hsw:swapsWith (.ListComp elt [⟨target,iter,ifs,0⟩] scope pos) (some (.Name y py)) spos.line X.env=pure true)
  (hs:∀ x,foldedSetIterable iter X.env x=pure x:=by intro _;rfl) :
  PS X (.Assign [.Name y py] (.ListComp elt [⟨target,iter,ifs,0⟩] scope pos) spos) (tAsg (tComp X N' scope wi g tc te) gy):=by
 intro pins s σ H D I h;rw [exec_Assign_Name_used _ _ _ _ hsw];refine wpAny_bind (wpAny_standAt (wpAny_bind ?_));show wpAny _ X.A (do let _ ← comprehension (.ListComp elt [⟨target,iter,ifs,0⟩] scope pos) scope X.env _ (newList []) false (eval iter X.env) (some (assign (.Name y py) X.env))) _ _ s;have hfree:∀ x∈scope.names,x.2=.free->∃ c,X.env.cells.lookup x.1=some c:=fun x hx e=>I.ok.has x.1 (S.fr x hx e)
 refine wpAny_bind (wpAny_mono (wpAny_comprehension_free (use:=some (assign (.Name y py) X.env)) (Q:=fun _ s'=>SP X pins D .next s') rfl hs (closureFor_ok hfree) S.kind (fun x hx e=>lookup_of_mem S.nd (by rw [← e];exact hx)) (thn (hit pins s σ H _ I h) fun v s1 h1=>thn h1 fun itv s2 h2=>?_))
  (fun _ s' hq=>wpAny_pure (wpAny_pure hq)) fun _ _ e=>e)
 obtain ⟨it,fp,tn,J,H2,e,I2,T,st2,f2,σ0,hσ,W,w0,turn⟩:=h2;subst e;refine comp_block (QQ:=fun acc H=>∀ p,H p=none->gy (.ref p) σ (upd H p (.lst acc)) D.nx) (RR:=fun acc C=>compPost (model X.prog X.w) X.A X.xe (some (assign (.Name y py) X.env)) (fun _ s'=>SP X pins D .next s') acc C) hc S hg hi he I2 T st2 f2 hσ W w0 turn ?_;intro C acc H' s' m q I' hD hn hC hne hle;obtain ⟨oC,esC,epC,hoC,hdC⟩:=id hn;have uC:upd H' s2.heap.objs.size (.lst acc) C=none:=by rw [upd_ne hne];exact hC
 have hCL:C≠X.env.locals:=Nat.ne_of_gt (Nat.lt_of_lt_of_le I2.lt hle);have hCfs:C ∉ X.fs:=I2.nofs hle;have pinC:Inv X (pins++[(C,oC)]) σ (upd H' s2.heap.objs.size (.lst acc)) s':=by
  refine I'.pins_of fun p hp=>?_
  rcases List.mem_append.mp hp with hp|hp
  ·exact I'.pin p (List.mem_append_right _ hp)
  ·have e:p=(C,oC):=by simpa using hp
   subst e;refine ⟨hoC,uC,hCL,hCfs,fun v z=>?_⟩;rw [hdC.1] at z;cases z
 refine thn (hgy _ s' σ _ (.ref s2.heap.objs.size) _ _ pinC rfl (q _ hD)) ?_;rintro _ s'' ⟨σ2,H3,I3,q3⟩;obtain ⟨p1,p2,p3,p4,p5⟩:=I3.pin (C,oC) (List.mem_append_right _ (List.mem_append_right _ List.mem_cons_self));refine ⟨m,⟨oC,esC,epC,p1,hdC⟩,fun h' sb=>?_⟩;refine ⟨σ2,H3,(Inv.unpinned I3).turned (t':=s''.toks) (it:=C) (fun b o hb e=>sb.extBut b o hb e) p2 hCL (.inr (Nat.le_trans I2.sz hle)) (fun x c e z=>?_) fun p hp z=>?_,q3⟩
 ·obtain ⟨v,hv⟩:=I2.cell x c e;have:=hv.lt;rw [z] at this;exact Nat.lt_irrefl _ (Nat.lt_of_lt_of_le this hle)
 ·have:=Heap.lt_size (I2.pin p hp).1;rw [z] at this;exact Nat.lt_irrefl _ (Nat.lt_of_lt_of_le this hle)
end
end L2
namespace DL
open PySem PySem.Spec PyProof.Rows L2
noncomputable abbrev St:=L2.St
inductive D where
 | non | bl (b:Bool) | int (i:Int) | str (x:Str) | tup (ds:List D) | ref (n:Nat) | rol (ds:List D) | obj (c:Str) (ks:List Str) (ds:List D) | fn (x:Str) | lam
 deriving Inhabited
inductive MO where
 | lst (ds:List D)
 | dct (kvs:List (Key×D))
 | plc
noncomputable abbrev MH:=List MO
noncomputable abbrev Loc:=List (Option D)
noncomputable def PermL (K:PySem.W.Frag) (H:Hp) (a:Addr) (xs:List V):Prop:=(∃ o,H a=some (.frz o (.lst xs))) \/
  ∃ (o:Obj) (its:Array Value) (n:Nat),K.lookup a=some o/\o.cls=.type "list"/\o.dict=none/\o.data=.seq its n/\its.size<=sizeLine/\Vals xs its.toList
theorem PermL.sq {K:PySem.W.Frag}{H:Hp}{a:Addr}{xs:List V}(h:PermL K H a xs):SqL K H a xs:=by
 rcases h with ⟨o,h⟩|h
 ·exact .inl (.inr ⟨o,h⟩)
 ·exact .inr h
noncomputable def LamFd (fd:FuncData):Prop:=∃ (name qual:Str) (ps:Arguments) (x y:Str) (p q pt:Pos) (k:Nat) (sc:Scope) (pm cdv ct:Value),fd=PySem.W.kla_fn name qual ps (.Tuple [.Name x p,.Name y q] k pt) sc [] pm cdv ct /\
  FnScope [x,y] [x,y] sc/\(x==("__debug__":Str))=false/\(x==("__classdict__":Str))=false/\(y==("__debug__":Str))=false/\(y==("__classdict__":Str))=false/\∀ u v,bindArgs fd ⟨[u,v],[]⟩=pure [(x,u),(y,v)]
noncomputable def CodF (H:Hp) (v:Value) (q:Str):Prop:=∃ c oc u vs tq,v=.ref c/\H c=some (.frz oc u)/\oc.data=.fields vs/\vs[1]?=some (.str q tq)
noncomputable def LamAt (H:Hp) (a:Addr):Prop:=∃ o u fd,H a=some (.frz o u)/\o.data=.func fd/\LamFd fd/\CodF H fd.code fd.qualname
mutual
inductive RD (K:PySem.W.Frag) (H:Hp) (ρ:List Addr):D->V->Prop
 | non:RD K H ρ .non .non
 | bl (b:Bool):RD K H ρ (.bl b) (.bl b)
 | int (i:Int):RD K H ρ (.int i) (.int i)
 | str (x:Str):RD K H ρ (.str x) (.str x)
 | tup {ds:List D} {a:Addr} {xs:List V}:SqT K H a xs->RDs K H ρ ds xs->RD K H ρ (.tup ds) (.ref a)
 | ref {n:Nat} {a:Addr}:ρ[n]?=some a->RD K H ρ (.ref n) (.ref a)
 | rol {ds:List D} {a:Addr} {xs:List V}:PermL K H a xs->RDs K H ρ ds xs->RD K H ρ (.rol ds) (.ref a)
 | obj {c:Str} {ks:List Str} {ds:List D} {a C dx:Addr} {xs:List V}:PySem.W.nsIn K mainGlobals c=some (some (.ref C))->H a=some (.ins C dx (ks.zip xs))->ks.length=xs.length->RDs K H ρ ds xs->RD K H ρ (.obj c ks ds) (.ref a)
 | fn {x:Str} {a:Addr}:PySem.W.nsIn K mainGlobals x=some (some (.ref a))->RD K H ρ (.fn x) (.ref a)
 | lam {a:Addr}:LamAt H a->RD K H ρ .lam (.ref a)
inductive RDs (K:PySem.W.Frag) (H:Hp) (ρ:List Addr):List D->List V->Prop
 | nil:RDs K H ρ [] []
 | cons {d:D} {v:V} {ds:List D} {vs:List V}:RD K H ρ d v->RDs K H ρ ds vs->RDs K H ρ (d::ds) (v::vs)
end
structure Ev (K:PySem.W.Frag) (H:Hp) (ρ:List Addr) (H':Hp) (ρ':List Addr):Prop where
 tup:∀ a xs,SqT K H a xs->SqT K H' a xs
 pre:ρ <+: ρ'
 perm:∀ a xs,PermL K H a xs->PermL K H' a xs
 ins:∀ a C dx fs,H a=some (.ins C dx fs)->H' a=some (.ins C dx fs)
 frz:∀ a o u,H a=some (.frz o u)->H' a=some (.frz o u)
theorem Ev.refl {K:PySem.W.Frag}{H:Hp}{ρ:List Addr}:Ev K H ρ H ρ:=⟨fun _ _ h=>h,List.prefix_refl _,fun _ _ h=>h,fun _ _ _ _ h=>h,fun _ _ _ h=>h⟩
theorem Ev.trans {K:PySem.W.Frag}{H H1 H2:Hp}{ρ ρ1 ρ2:List Addr}(a:Ev K H ρ H1 ρ1) (b:Ev K H1 ρ1 H2 ρ2):Ev K H ρ H2 ρ2:=⟨fun x xs h=>b.tup x xs (a.tup x xs h),a.pre.trans b.pre,fun x xs h=>b.perm x xs (a.perm x xs h),fun x C dx fs h=>b.ins x C dx fs (a.ins x C dx fs h),fun x o u h=>b.frz x o u (a.frz x o u h)⟩
theorem Ev.at {K:PySem.W.Frag}{H H':Hp}{ρ ρ':List Addr}(e:Ev K H ρ H' ρ') {n:Nat}{a:Addr}(h:ρ[n]?=some a):ρ'[n]?=some a:=by
 obtain ⟨t,rfl⟩:=e.pre;obtain ⟨hl,_⟩:=List.getElem?_eq_some_iff.mp h;rw [List.getElem?_append_left hl];exact h
theorem CodF.mono {H H':Hp}(e:∀ a o u,H a=some (.frz o u)->H' a=some (.frz o u)) {v:Value}{q:Str}(h:CodF H v q):CodF H' v q :=
 let ⟨c,oc,u,vs,tq,h1,h2,h3⟩:=h;⟨c,oc,u,vs,tq,h1,e _ _ _ h2,h3⟩
theorem LamAt.mono {H H':Hp}(e:∀ a o u,H a=some (.frz o u)->H' a=some (.frz o u)) {a:Addr}(h:LamAt H a):LamAt H' a :=
 let ⟨o,u,fd,h1,h2,h3,h4⟩:=h;⟨o,u,fd,e _ _ _ h1,h2,h3,h4.mono e⟩
mutual
theorem RD.mono {K:PySem.W.Frag}{H H':Hp}{ρ ρ':List Addr}(e:Ev K H ρ H' ρ'):∀ {d:D}{v:V},RD K H ρ d v->RD K H' ρ' d v
 | _,_,.non=>.non
 | _,_,.bl b=>.bl b
 | _,_,.int i=>.int i
 | _,_,.str x=>.str x
 | _,_,.tup s r=>.tup (e.tup _ _ s) (RDs.mono e r)
 | _,_,.ref h=>.ref (e.at h)
 | _,_,.rol s r=>.rol (e.perm _ _ s) (RDs.mono e r)
 | _,_,.obj n s l r=>.obj n (e.ins _ _ _ _ s) l (RDs.mono e r)
 | _,_,.fn h=>.fn h
 | _,_,.lam h=>.lam (h.mono e.frz)
theorem RDs.mono {K:PySem.W.Frag}{H H':Hp}{ρ ρ':List Addr}(e:Ev K H ρ H' ρ'):∀ {ds:List D}{vs:List V},RDs K H ρ ds vs->RDs K H' ρ' ds vs
 | _,_,.nil=>.nil
 | _,_,.cons r t=>.cons (RD.mono e r) (RDs.mono e t)
end
section
variable {K:PySem.W.Frag}{H H':Hp}{ρ ρ':List Addr}
theorem RDs.length:∀ {ds:List D}{vs:List V},RDs K H ρ ds vs->ds.length=vs.length
 | _,_,.nil=>rfl
 | _,_,.cons _ t=>by rw [List.length_cons,List.length_cons,RDs.length t]
theorem RDs.get:∀ {ds:List D}{vs:List V}{i:Nat}{d:D},RDs K H ρ ds vs->ds[i]?=some d->∃ v,vs[i]?=some v/\RD K H ρ d v
 | _,_,_,_,.nil,e=>by simp at e
 | _,_,0,_,.cons r _,e=>by simp at e;subst e;exact ⟨_,by simp,r⟩
 | _,_,i+1,d,.cons _ t,e=>by
  obtain ⟨v,h1,h2⟩:=RDs.get (i:=i) (d:=d) t (by simpa using e);exact ⟨v,by simpa using h1,h2⟩
theorem RDs.append:∀ {ds es:List D}{vs us:List V},RDs K H ρ ds vs->RDs K H ρ es us->RDs K H ρ (ds++es) (vs++us)
 | _,_,_,_,.nil,s=>s
 | _,_,_,_,.cons r t,s=>.cons r (RDs.append t s)
theorem RDs.take:∀ {ds:List D}{vs:List V}(n:Nat),RDs K H ρ ds vs->RDs K H ρ (ds.take n) (vs.take n)
 | _,_,0,_=>.nil
 | _,_,_+1,.nil=>.nil
 | _,_,n+1,.cons r t=>.cons r (RDs.take n t)
theorem RDs.drop:∀ {ds:List D}{vs:List V}(n:Nat),RDs K H ρ ds vs->RDs K H ρ (ds.drop n) (vs.drop n)
 | _,_,0,r=>r
 | _,_,_+1,.nil=>.nil
 | _,_,n+1,.cons _ t=>RDs.drop n t
theorem RDs.set {d:D}{v:V}(r:RD K H ρ d v):∀ {ds:List D}{vs:List V}(n:Nat),RDs K H ρ ds vs->RDs K H ρ (ds.set n d) (vs.set n v)
 | _,_,_,.nil=>.nil
 | _,_,0,.cons _ t=>.cons r t
 | _,_,n+1,.cons q t=>.cons q (RDs.set r n t)
theorem RDs.reverse {ds:List D}{vs:List V}(h:RDs K H ρ ds vs):RDs K H ρ ds.reverse vs.reverse:=by
 induction ds generalizing vs with
 | nil=>cases h;exact .nil
 | cons d ds ih =>
  cases h with
  | cons r t =>
   rw [List.reverse_cons,List.reverse_cons];exact (ih t).append (.cons r .nil)
theorem RDs.ints:∀ (ns:List Int),RDs K H ρ (ns.map D.int) (ns.map V.int)
 | []=>.nil
 | n::r=>.cons (.int n) (RDs.ints r)
noncomputable def PlcK (K:PySem.W.Frag) (a:Addr):Prop:=∃ (f:Addr) (o:Obj) (fd:FuncData) (c bm:Addr) (ob:Obj),PySem.W.nsIn K mainGlobals "pattern_of"=some (some (.ref f))/\K.lookup f=some o/\o.data=.func fd/\fd.code=.ref c/\PySem.W.codeHdIn K c a=true /\
  PySem.W.nsIn K mainGlobals "__builtins__"=some (some (.ref bm))/\K.lookup bm=some ob/\ob.cls=.type "module"/\ob.dict=some builtinsNs/\ob.data=.plain/\bm≠builtinsNs/\bm≠mainGlobals
noncomputable abbrev lamQ:Str:=("pattern_of":Str) ++ ".<locals>." ++ "<lambda>"
noncomputable def PlcAt (K:PySem.W.Frag) (H:Hp) (a:Addr):Prop:=∃ ps,H a=some (.tbl ps)/\TriplesOk ps.toList/\(∀ pos v,codeAmong pos ps.toList=some v->CodF H v lamQ)/\PlcK K a
noncomputable def RO (K:PySem.W.Frag) (H:Hp) (ρ:List Addr) (a:Addr):MO->Prop
 | .lst ds=>∃ xs,H a=some (.lst xs)/\RDs K H ρ ds xs
 | .plc=>PlcAt K H a
 | .dct kvs=>∃ xs:List (Key×V),H a=some (.dK xs)/\xs.map (·.1)=kvs.map (·.1)/\RDs K H ρ (kvs.map (·.2)) (xs.map (·.2))
structure RS (K:PySem.W.Frag) (H:Hp) (ρ:List Addr) (mh:MH):Prop where
 len:ρ.length=mh.length
 nd:ρ.Nodup
 obj:∀ (n:Nat) (a:Addr) (o:MO),ρ[n]?=some a->mh[n]?=some o->RO K H ρ a o
noncomputable def RL (K:PySem.W.Frag) (H:Hp) (ρ:List Addr) (loc:Loc) (σ:St):Prop:=loc.length=σ.length/\∀ (i:Nat) (d:D),loc[i]?=some (some d)->∃ v,σ[i]?=some (some v)/\RD K H ρ d v
theorem RL.mono {loc:Loc}{σ:St}(e:Ev K H ρ H' ρ') (h:RL K H ρ loc σ):RL K H' ρ' loc σ:=⟨h.1,fun i d q=>let ⟨v,e1,r⟩:=h.2 i d q;⟨v,e1,r.mono e⟩⟩
theorem RL.set {loc:Loc}{σ:St}{d:D}{v:V}{i:Nat}(h:RL K H ρ loc σ) (r:RD K H ρ d v):RL K H ρ (loc.set i (some d)) (σ.set i (some v)):=by
 refine ⟨by rw [List.length_set,List.length_set];exact h.1,fun j d' q=>?_⟩
 by_cases e:i=j
 ·subst e;rw [List.getElem?_set] at q;simp only [if_true] at q;split at q
  ·rename_i hl;cases q;refine ⟨v,?_,r⟩;rw [List.getElem?_set];simp only [if_true];rw [if_pos (by rw [← h.1];exact hl)]
  ·cases q
 ·rw [List.getElem?_set_ne e] at q;rw [List.getElem?_set_ne e];exact h.2 j d' q
theorem RS.at {mh:MH}(h:RS K H ρ mh) {n:Nat}{o:MO}(e:mh[n]?=some o):∃ a,ρ[n]?=some a/\RO K H ρ a o:=by
 obtain ⟨hl,_⟩:=List.getElem?_eq_some_iff.mp e;have hl':n < ρ.length:=by rw [h.len];exact hl
 exact ⟨ρ[n],List.getElem?_eq_getElem hl',h.obj n _ o (List.getElem?_eq_getElem hl') e⟩
theorem RS.tracked {mh:MH}(h:RS K H ρ mh) {a:Addr}(ha:a∈ρ):∃ o,H a=some o:=by
 obtain ⟨n,hn,rfl⟩:=List.getElem_of_mem ha;have hl:n < mh.length:=by rw [← h.len];exact hn
 have q:=h.obj n _ _ (List.getElem?_eq_getElem hn) (List.getElem?_eq_getElem hl);cases e:mh[n] with
 | lst ds=>rw [e] at q;obtain ⟨xs,q,_⟩:=q;exact ⟨_,q⟩
 | dct kvs=>rw [e] at q;obtain ⟨xs,q,_⟩:=q;exact ⟨_,q⟩
 | plc=>rw [e] at q;obtain ⟨xs,q,_⟩:=q;exact ⟨_,q⟩
theorem RO.read {a:Addr}{ds:List D}(h:RO K H ρ a (.lst ds)):∃ xs,SqL K H a xs/\RDs K H ρ ds xs:=by
 obtain ⟨xs,q,r⟩:=h;exact ⟨xs,.inl (.inl q),r⟩
theorem sqT_new {a p:Addr}{o:HO}{xs:List V}(hp:H p=none) (h:SqT K H a xs):SqT K (upd H p o) a xs:=by
 rcases h with (h|⟨ob,h⟩)|h
 ·exact .inl (.inl (by rw [upd_ne (ne_of_none h hp)];exact h))
 ·exact .inl (.inr ⟨ob,by rw [upd_ne (ne_of_none h hp)];exact h⟩)
 ·exact .inr h
theorem sqT_lst {a p:Addr}{ys zs xs:List V}(hp:H p=some (.lst ys)) (h:SqT K H a xs):SqT K (upd H p (.lst zs)) a xs:=by
 rcases h with (h|⟨ob,h⟩)|h
 ·exact .inl (.inl (by rw [upd_ne (ne_of h hp (by intro z;cases z))];exact h))
 ·exact .inl (.inr ⟨ob,by rw [upd_ne (ne_of h hp (by intro z;cases z))];exact h⟩)
 ·exact .inr h
theorem perm_new {a p:Addr}{o:HO}{xs:List V}(hp:H p=none) (h:PermL K H a xs):PermL K (upd H p o) a xs:=by
 rcases h with ⟨ob,h⟩|h
 ·exact .inl ⟨ob,by rw [upd_ne (ne_of_none h hp)];exact h⟩
 ·exact .inr h
theorem perm_lst {a p:Addr}{ys zs xs:List V}(hp:H p=some (.lst ys)) (h:PermL K H a xs):PermL K (upd H p (.lst zs)) a xs:=by
 rcases h with ⟨ob,h⟩|h
 ·exact .inl ⟨ob,by rw [upd_ne (ne_of h hp (by intro z;cases z))];exact h⟩
 ·exact .inr h
theorem Ev.new {p:Addr}{o:HO}(hp:H p=none):Ev K H ρ (upd H p o) ρ:=⟨fun _ _ h=>sqT_new hp h,List.prefix_refl _,fun _ _ h=>perm_new hp h,fun a _ _ _ h=>by rw [upd_ne (ne_of_none h hp)];exact h,fun a _ _ h=>by rw [upd_ne (ne_of_none h hp)];exact h⟩
theorem Ev.newL {p:Addr}{o:HO}(hp:H p=none):Ev K H ρ (upd H p o) (ρ++[p]):=⟨fun _ _ h=>sqT_new hp h,List.prefix_append _ _,fun _ _ h=>perm_new hp h,fun a _ _ _ h=>by rw [upd_ne (ne_of_none h hp)];exact h,fun a _ _ h=>by rw [upd_ne (ne_of_none h hp)];exact h⟩
theorem Ev.lst {p:Addr}{ys zs:List V}(hp:H p=some (.lst ys)):Ev K H ρ (upd H p (.lst zs)) ρ:=⟨fun _ _ h=>sqT_lst hp h,List.prefix_refl _,fun _ _ h=>perm_lst hp h,fun a _ _ _ h=>by rw [upd_ne (ne_of h hp (by intro z;cases z))];exact h,fun a _ _ h=>by rw [upd_ne (ne_of h hp (by intro z;cases z))];exact h⟩
theorem RO.mono {a:Addr}{o:MO}(e:Ev K H ρ H' ρ') (s:H' a=H a) (h:RO K H ρ a o):RO K H' ρ' a o:=by
 cases o with
 | lst ds=>obtain ⟨xs,q,r⟩:=h;exact ⟨xs,by rw [s];exact q,r.mono e⟩
 | dct kvs=>obtain ⟨xs,q,k,r⟩:=h;exact ⟨xs,by rw [s];exact q,k,r.mono e⟩
 | plc=>obtain ⟨ps,q,t,c,k⟩:=h;exact ⟨ps,by rw [s];exact q,t,fun pos v z=>(c pos v z).mono e.frz,k⟩
theorem RS.new {mh:MH}{p:Addr}{o:HO}(h:RS K H ρ mh) (hp:H p=none):RS K (upd H p o) ρ mh :=
 ⟨h.len,h.nd,fun n a ob e1 e2=>(h.obj n a ob e1 e2).mono (Ev.new hp) (by
  obtain ⟨oo,q⟩:=h.tracked (List.mem_of_getElem? e1)
  rw [upd_ne (ne_of_none q hp)])⟩
theorem RS.newL {mh:MH}{p:Addr}{xs:List V}{ds:List D}(h:RS K H ρ mh) (hp:H p=none) (r:RDs K H ρ ds xs):RS K (upd H p (.lst xs)) (ρ++[p]) (mh++[.lst ds]):=by
 have hnp:p ∉ ρ:=fun z=>by
  obtain ⟨o,q⟩:=h.tracked z;rw [hp] at q;cases q
 refine ⟨by rw [List.length_append,List.length_append,h.len];rfl,?_,fun n a ob e1 e2=>?_⟩
 ·rw [List.nodup_append]
  exact ⟨h.nd,List.pairwise_singleton _ _,fun a ha b hb z=>by
   rw [List.mem_singleton.mp hb] at z;rw [z] at ha;exact hnp ha⟩
 ·by_cases hn:n < ρ.length
  ·rw [List.getElem?_append_left hn] at e1;rw [List.getElem?_append_left (by rw [← h.len];exact hn)] at e2;refine (h.obj n a ob e1 e2).mono (Ev.newL hp) ?_;obtain ⟨oo,q⟩:=h.tracked (List.mem_of_getElem? e1);rw [upd_ne (ne_of_none q hp)]
  ·rw [List.getElem?_append_right (by omega)] at e1;rw [List.getElem?_append_right (by rw [← h.len];omega)] at e2;have n0:n - ρ.length=0:=by
    have:=(List.getElem?_eq_some_iff.mp e1).1;simp at this;omega
   rw [n0] at e1;rw [← h.len,n0] at e2;cases e1;cases e2;exact ⟨xs,upd_same,r.mono (Ev.newL hp)⟩
theorem RS.setL {mh:MH}{n:Nat}{p:Addr}{ys xs:List V}{ds:List D}(h:RS K H ρ mh) (hn:ρ[n]?=some p) (hp:H p=some (.lst ys)) (r:RDs K H ρ ds xs):RS K (upd H p (.lst xs)) ρ (mh.set n (.lst ds)):=by
 refine ⟨by rw [List.length_set];exact h.len,h.nd,fun m a ob e1 e2=>?_⟩
 by_cases hm:n=m
 ·subst hm;rw [hn] at e1;cases e1;rw [List.getElem?_set] at e2;simp only [if_true] at e2;split at e2
  ·cases e2;exact ⟨xs,upd_same,r.mono (Ev.lst hp)⟩
  ·cases e2
 ·rw [List.getElem?_set_ne hm] at e2;refine (h.obj m a ob e1 e2).mono (Ev.lst hp) ?_;rw [upd_ne];intro z;subst z;exact hm ((List.getElem?_inj (List.getElem?_eq_some_iff.mp hn).1 h.nd).mp (hn.trans e1.symm))
end
noncomputable abbrev DM (α:Type):=Loc->MH->Option (α×MH)
noncomputable def DM.bnd {α β:Type}(m:DM α) (f:α->DM β):DM β:=fun loc mh=>match m loc mh with
 | none=>none
 | some (a,mh')=>f a loc mh'
theorem bnd_some {α β:Type}{m:DM α}{f:α->DM β}{loc:Loc}{mh:MH}{r:β×MH}(h:m.bnd f loc mh=some r):∃ a m1,m loc mh=some (a,m1)/\f a loc m1=some r:=by
 unfold DM.bnd at h;split at h
 ·cases h
 ·rename_i a m1 e;exact ⟨a,m1,e,h⟩
noncomputable def Zr {α:Type}(a:α):DM α:=fun _ mh=>some (a,mh)
noncomputable def Zl {α:Type}(f:MH->Option (α×MH)):DM α:=fun _ mh=>f mh
noncomputable def Zb {α:Type}:DM α:=fun _ _=>none
noncomputable def Co (K:PySem.W.Frag) (H:Hp) (ρ:List Addr) (mh':MH) (d:D) (Q:VK):Prop:=∀ H' ρ' v,Ev K H ρ H' ρ'->RS K H' ρ' mh'->RD K H' ρ' d v->Q v H'
noncomputable def tD (K:PySem.W.Frag) (loc:Loc) (mh:MH) (r:Option (D×MH)):TE:=fun σ H Q=>∃ ρ d mh',r=some (d,mh')/\RL K H ρ loc σ/\RS K H ρ mh/\Co K H ρ mh' d Q
noncomputable def tDT (K:PySem.W.Frag) (loc:Loc) (mh:MH) (r:Option (Bool×MH)):TT:=fun σ H Q=>∃ ρ b mh',r=some (b,mh')/\RL K H ρ loc σ/\RS K H ρ mh/\∀ H' ρ',Ev K H ρ H' ρ'->RS K H' ρ' mh'->Q b H'
noncomputable def tDA (K:PySem.W.Frag) (loc:Loc) (mh:MH) (r:Option (List D×MH)):TA:=fun σ H Q=>∃ ρ ds mh',r=some (ds,mh')/\RL K H ρ loc σ/\RS K H ρ mh/\∀ H' ρ' vs,Ev K H ρ H' ρ'->RS K H' ρ' mh'->RDs K H' ρ' ds vs->Q vs H'
noncomputable def DE (X:Cx) (e:Expr) (m:DM D):Prop:=∀ loc mh,PE X e (tD X.K loc mh (m loc mh))
noncomputable def DT (X:Cx) (e:Expr) (m:DM Bool):Prop:=∀ loc mh,PT X e (tDT X.K loc mh (m loc mh))
noncomputable def DA (X:Cx) (es:List Expr) (m:DM (List D)):Prop:=∀ loc mh,PA X es (tDA X.K loc mh (m loc mh))
theorem PE_imp {X:Cx}{e:Expr}{t t':TE}(h:PE X e t) (i:∀ σ H Q,t' σ H Q->t σ H Q):PE X e t':=fun pins s σ H Q I q=>h pins s σ H Q I (i σ H Q q)
theorem PT_imp {X:Cx}{e:Expr}{t t':TT}(h:PT X e t) (i:∀ σ H Q,t' σ H Q->t σ H Q):PT X e t':=fun pins s σ H Q I q=>h pins s σ H Q I (i σ H Q q)
theorem PA_imp {X:Cx}{es:List Expr}{t t':TA}(h:PA X es t) (i:∀ σ H Q,t' σ H Q->t σ H Q):PA X es t':=fun pos pins s σ H Q I q=>h pos pins s σ H Q I (i σ H Q q)
theorem tD_none {K:PySem.W.Frag}{loc:Loc}{mh:MH}{σ:St}{H:Hp}{Q:VK}(h:tD K loc mh none σ H Q):False:=by obtain ⟨_,_,_,e,_⟩:=h;cases e
theorem PE_none {X:Cx}{e:Expr}{loc:Loc}{mh:MH}:PE X e (tD X.K loc mh none):=fun _ _ _ _ _ _ h=>(tD_none h).elim
theorem PT_none {X:Cx}{e:Expr}{loc:Loc}{mh:MH}:PT X e (tDT X.K loc mh none):=fun _ _ _ _ _ _ h=>by obtain ⟨_,_,_,e,_⟩:=h;cases e
theorem PA_none {X:Cx}{es:List Expr}{loc:Loc}{mh:MH}:PA X es (tDA X.K loc mh none):=fun _ _ _ _ _ _ _ h=>by obtain ⟨_,_,_,e,_⟩:=h;cases e
theorem de_bad {X:Cx}{e:Expr}:DE X e Zb:=fun _ _=>PE_none
theorem dt_bad {X:Cx}{e:Expr}:DT X e Zb:=fun _ _=>PT_none
theorem da_bad {X:Cx}{es:List Expr}:DA X es Zb:=fun _ _=>PA_none
section
variable {X:Cx}{a b c e:Expr}{ma mb mc:DM D}{pos:Pos}
theorem de_c {d:D}{v:V}(h:PE X e (tC v)) (r:∀ K H ρ,RD K H ρ d v):DE X e (Zr d):=by
 refine fun loc mh=>PE_imp h ?_
 rintro σ H Q ⟨ρ,d',mh',q,rl,rs,co⟩;cases q;exact co H ρ v Ev.refl rs (r _ _ _)
theorem de_var {i:Nat}{x:Str}(hN:X.N[i]?=some x) (hv:Vis X.env.scope x) (hd:(x==("__debug__":Str))=false) (hcd:(x==("__classdict__":Str))=false) :
  DE X (.Name x pos) (fun loc mh=>match loc[i]? with | some (some d)=>some (d,mh) | _=>none):=by
 refine fun loc mh=>PE_imp (pe_var hN hv hd hcd) ?_
 rintro σ H Q ⟨ρ,d',mh',q,rl,rs,co⟩;dsimp only at q;split at q
 ·rename_i d e;cases q;obtain ⟨v,h1,h2⟩:=rl.2 i d' e;exact ⟨v,h1,co H ρ v Ev.refl rs h2⟩
 ·cases q
noncomputable def rD (K:PySem.W.Frag) (f:D->D->MH->Option (D×MH)):R2:=fun x y H Q=>∃ ρ mh dx dy d mh',f dx dy mh=some (d,mh')/\RS K H ρ mh/\RD K H ρ dx x/\RD K H ρ dy y/\Co K H ρ mh' d Q
noncomputable def rD1 (K:PySem.W.Frag) (f:D->MH->Option (D×MH)):V->Hp->VK->Prop:=fun x H Q=>∃ ρ mh dx d mh',f dx mh=some (d,mh')/\RS K H ρ mh/\RD K H ρ dx x/\Co K H ρ mh' d Q
noncomputable def rDs (K:PySem.W.Frag) (f:List D->MH->Option (D×MH)):List V->Hp->VK->Prop:=fun xs H Q=>∃ ρ mh ds d mh',f ds mh=some (d,mh')/\RS K H ρ mh/\RDs K H ρ ds xs/\Co K H ρ mh' d Q
theorem Co.ev {K:PySem.W.Frag}{H H1:Hp}{ρ ρ1:List Addr}{mh':MH}{d:D}{Q:VK}(e:Ev K H ρ H1 ρ1) (c:Co K H ρ mh' d Q):Co K H1 ρ1 mh' d Q:=fun H' ρ' v e' rs r=>c H' ρ' v (e.trans e') rs r
noncomputable def dop (f:D->D->MH->Option (D×MH)) (ma mb:DM D):DM D:=ma.bnd fun x=>mb.bnd fun y=>Zl (f x y)
theorem two {K:PySem.W.Frag}{f:D->D->MH->Option (D×MH)}{loc:Loc}{mh:MH}{σ:St}{H:Hp}{Q:VK}(h:tD K loc mh (dop f ma mb loc mh) σ H Q) :
  ∃ x m1,ma loc mh=some (x,m1)/\tOp (rD K f) (tD K loc mh (ma loc mh)) (tD K loc m1 (mb loc m1)) σ H Q:=by
 obtain ⟨ρ,d,mh',q,rl,rs,co⟩:=h;obtain ⟨x,m1,ea,q⟩:=bnd_some q;obtain ⟨y,m2,eb,q⟩:=bnd_some q;refine ⟨x,m1,ea,ρ,x,m1,ea,rl,rs,fun H1 ρ1 v1 e1 rs1 r1=>⟨ρ1,y,m2,eb,rl.mono e1,rs1,fun H2 ρ2 v2 e2 rs2 r2=>?_⟩⟩;exact ⟨ρ2,m2,x,y,d,mh',q,rs2,r1.mono e2,r2,co.ev (e1.trans e2)⟩
theorem de_two {f:D->D->MH->Option (D×MH)}(h:∀ ta tb,PE X a ta->PE X b tb->PE X e (tOp (rD X.K f) ta tb)) (ha:DE X a ma) (hb:DE X b mb):DE X e (dop f ma mb):=fun loc mh=>by
 cases ea:ma loc mh with
 | none =>
  have:dop f ma mb loc mh=none:=by unfold dop DM.bnd;rw [ea]
  rw [this];exact PE_none
 | some p =>
  refine PE_imp (h _ _ (ha loc mh) (hb loc p.2)) fun σ H Q q=>?_
  obtain ⟨x,m1,e1,q⟩:=two q;rw [ea] at e1;cases e1;exact q
theorem de_op {op:Operator}{f:D->D->MH->Option (D×MH)}(ho:OpR X (binaryOp op) (rD X.K f)) (ha:DE X a ma) (hb:DE X b mb):DE X (.BinOp a op b pos) (dop f ma mb):=de_two (fun _ _ p q=>pe_op ho p q) ha hb
theorem de_cmp {op:CmpOp}{f:D->D->MH->Option (D×MH)}(ho:OpR X (compareOp op) (rD X.K f)) (hm:behindInMarks op b=false) (ha:DE X a ma) (hb:DE X b mb):DE X (.Compare a [op] [b] pos) (dop f ma mb):=de_two (fun _ _ p q=>pe_cmpR ho p q hm) ha hb
theorem de_ix {f:D->D->MH->Option (D×MH)}(ho:IxR X (rD X.K f)) (hs:PlainIx b) (ha:DE X a ma) (hb:DE X b mb):DE X (.Subscript a b pos) (dop f ma mb):=de_two (fun _ _ p q=>pe_ix ho p q hs) ha hb
theorem de_un {op:UnaryOp}{f:D->MH->Option (D×MH)}(ho:UnR X (unaryOp op) (rD1 X.K f)) (ha:DE X a ma):DE X (.UnaryOp op a pos) (ma.bnd fun x=>Zl (f x)):=fun loc mh =>
 PE_imp (pe_un ho (ha loc mh)) fun σ H Q ⟨ρ,d,mh',q,rl,rs,co⟩=>by
 obtain ⟨x,m1,ea,q⟩:=bnd_some q
 ·exact ⟨ρ,x,m1,ea,rl,rs,fun H1 ρ1 v1 e1 rs1 r1=>⟨ρ1,m1,x,d,mh',q,rs1,r1,co.ev e1⟩⟩
noncomputable def asB:D->Option Bool
 | .bl b=>some b
 | _=>none
noncomputable def boolD (ma:DM D):DM Bool:=ma.bnd fun x=>match asB x with | some b=>Zr b | none=>Zb
theorem dt_cmpd {f:D->D->MH->Option (D×MH)}(h:∀ ta tb,PE X a ta->PE X b tb->PT X e (tTest (tOp (rD X.K f) ta tb))) (ha:DE X a ma) (hb:DE X b mb):DT X e (boolD (dop f ma mb)):=fun loc mh=>by
 cases ea:ma loc mh with
 | none =>
  have:boolD (dop f ma mb) loc mh=none:=by unfold boolD dop DM.bnd;rw [ea]
  rw [this];exact PT_none
 | some p =>
  refine PT_imp (h _ _ (ha loc mh) (hb loc p.2)) ?_;rintro σ H Q ⟨ρ,k,mh',q,rl,rs,co⟩;unfold boolD at q;cases ed:dop f ma mb loc mh with
  | none=>unfold DM.bnd at q;rw [ed] at q;cases q
  | some z =>
   obtain ⟨d,m2⟩:=z;unfold DM.bnd at q;rw [ed] at q;cases d with
   | bl k' =>
    cases q;have t:tD X.K loc mh (dop f ma mb loc mh) σ H (fun x H'=>∃ k,x=.bl k/\Q k H'):=⟨ρ,.bl k,mh',ed,rl,rs,fun H' ρ' v e' rs' r'=>by cases r';exact ⟨k,rfl,co H' ρ' e' rs'⟩⟩;obtain ⟨x,m1,e1,q⟩:=two t;rw [ea] at e1;cases e1;exact q
   | non=>cases q
   | int i=>cases q
   | str s=>cases q
   | tup ds=>cases q
   | ref n=>cases q
   | rol ds=>cases q
   | obj c ks ds=>cases q
   | fn x=>cases q
   | lam=>cases q
theorem dt_cmp {op:CmpOp}{f:D->D->MH->Option (D×MH)}(ho:OpR X (compareOp op) (rD X.K f)) (hm:behindInMarks op b=false) (ha:DE X a ma) (hb:DE X b mb):DT X (.Compare a [op] [b] pos) (boolD (dop f ma mb)):=dt_cmpd (fun _ _ p q=>pt_cmpR ho p q hm) ha hb
noncomputable def dAndT (t u:DM Bool):DM Bool:=t.bnd fun c=>if c=true then u else Zr false
noncomputable def dOrT (t u:DM Bool):DM Bool:=t.bnd fun c=>if c=true then Zr true else u
noncomputable def dNotT (t:DM Bool):DM Bool:=t.bnd fun c=>Zr (!c)
noncomputable def DW (X:Cx) (e:Expr) (m:DM Bool):Prop:=∀ loc mh,PW X e (tDT X.K loc mh (m loc mh))
theorem PW_none {loc:Loc}{mh:MH}:PW X e (tDT X.K loc mh none):=fun _ _ _ _ _ _ _ h=>by obtain ⟨_,_,_,e,_⟩:=h;cases e
theorem PW_imp {t t':TT}(h:PW X e t) (i:∀ σ H Q,t' σ H Q->t σ H Q):PW X e t':=fun wh pins s σ H Q I q=>h wh pins s σ H Q I (i σ H Q q)
theorem DW.dt {m:DM Bool}(h:DW X e m):DT X e m:=fun loc mh=>(h loc mh).pt
variable {t u:DM Bool}{rest:List Expr}
theorem dw_and1 (ha:DT X a t):DW X (.BoolOp .And [a] pos) t:=fun loc mh=>pw_and1 (ha loc mh)
theorem dw_or1 (ha:DT X a t):DW X (.BoolOp .Or [a] pos) t:=fun loc mh=>pw_or1 (ha loc mh)
theorem dw_and (ha:DT X a t) (hb:DW X (.BoolOp .And (b::rest) pos) u):DW X (.BoolOp .And (a::b::rest) pos) (dAndT t u):=fun loc mh=>by
 cases ea:t loc mh with
 | none =>
  have:dAndT t u loc mh=none:=by unfold dAndT DM.bnd;rw [ea]
  rw [this];exact PW_none
 | some p =>
  obtain ⟨k,m1⟩:=p;refine PW_imp (pw_and (ha loc mh) (hb loc m1)) ?_;rintro σ H Q ⟨ρ,k',mh',q,rl,rs,co⟩;have q':(if k=true then u else Zr false) loc m1=some (k',mh'):=by unfold dAndT DM.bnd at q;rw [ea] at q;exact q
  refine ⟨ρ,k,m1,ea,rl,rs,fun H1 ρ1 e1 rs1=>?_⟩;cases k with
  | true=>exact iteT ⟨ρ1,k',mh',q',rl.mono e1,rs1,fun H2 ρ2 e2 rs2=>co H2 ρ2 (e1.trans e2) rs2⟩
  | false=>cases q';exact iteF (co H1 ρ1 e1 rs1)
theorem dw_or (ha:DT X a t) (hb:DW X (.BoolOp .Or (b::rest) pos) u):DW X (.BoolOp .Or (a::b::rest) pos) (dOrT t u):=fun loc mh=>by
 cases ea:t loc mh with
 | none =>
  have:dOrT t u loc mh=none:=by unfold dOrT DM.bnd;rw [ea]
  rw [this];exact PW_none
 | some p =>
  obtain ⟨k,m1⟩:=p;refine PW_imp (pw_or (ha loc mh) (hb loc m1)) ?_;rintro σ H Q ⟨ρ,k',mh',q,rl,rs,co⟩;have q':(if k=true then Zr true else u) loc m1=some (k',mh'):=by unfold dOrT DM.bnd at q;rw [ea] at q;exact q
  refine ⟨ρ,k,m1,ea,rl,rs,fun H1 ρ1 e1 rs1=>?_⟩;cases k with
  | true=>cases q';exact iteT (co H1 ρ1 e1 rs1)
  | false=>exact iteF ⟨ρ1,k',mh',q',rl.mono e1,rs1,fun H2 ρ2 e2 rs2=>co H2 ρ2 (e1.trans e2) rs2⟩
theorem dt_not (ha:DT X a t):DT X (.UnaryOp .Not a pos) (dNotT t):=fun loc mh=>by
 refine PT_imp (pt_not (ha loc mh)) ?_;rintro σ H Q ⟨ρ,k',mh',q,rl,rs,co⟩;obtain ⟨k,m1,ea,q⟩:=bnd_some q
 ·cases q;exact ⟨ρ,k,mh',ea,rl,rs,fun H1 ρ1 e1 rs1=>co H1 ρ1 e1 rs1⟩
noncomputable def dIf (t:DM Bool) (ma mb:DM D):DM D:=t.bnd fun c=>if c=true then ma else mb
theorem de_if (hc:DT X c t) (ha:DE X a ma) (hb:DE X b mb):DE X (.IfExp c a b pos) (dIf t ma mb):=fun loc mh=>by
 cases ea:t loc mh with
 | none =>
  have:dIf t ma mb loc mh=none:=by unfold dIf DM.bnd;rw [ea]
  rw [this];exact PE_none
 | some p =>
  obtain ⟨k,m1⟩:=p;refine PE_imp (pe_ifExp (hc loc mh) (ha loc m1) (hb loc m1)) ?_;rintro σ H Q ⟨ρ,d,mh',q,rl,rs,co⟩;have q':(if k=true then ma else mb) loc m1=some (d,mh'):=by unfold dIf DM.bnd at q;rw [ea] at q;exact q
  refine ⟨ρ,k,m1,ea,rl,rs,fun H1 ρ1 e1 rs1=>?_⟩;cases k with
  | true=>exact iteT ⟨ρ1,d,mh',q',rl.mono e1,rs1,co.ev e1⟩
  | false=>exact iteF ⟨ρ1,d,mh',q',rl.mono e1,rs1,co.ev e1⟩
noncomputable def dAndV (ma mb:DM D):DM D:=(boolD ma).bnd fun c=>if c=true then mb else Zr (.bl false)
noncomputable def dOrV (ma mb:DM D):DM D:=(boolD ma).bnd fun c=>if c=true then Zr (.bl true) else mb
theorem boolD_some {loc:Loc}{mh:MH}{k:Bool}{m1:MH}(h:boolD ma loc mh=some (k,m1)):ma loc mh=some (.bl k,m1):=by
 obtain ⟨x,m2,ea,h⟩:=bnd_some h
 ·cases x with
  | bl b=>cases h;exact ea
  | non=>cases h
  | int i=>cases h
  | str s=>cases h
  | tup ds=>cases h
  | ref n=>cases h
  | rol ds=>cases h
  | obj c ks ds=>cases h
  | fn x=>cases h
  | lam=>cases h
theorem de_one {op}(ha:DE X a ma):DE X (.BoolOp op [a] pos) ma:=fun loc mh=>pe_one (ha loc mh)
theorem de_and (ha:DE X a ma) (hb:DE X (.BoolOp .And (b::rest) pos) mb):DE X (.BoolOp .And (a::b::rest) pos) (dAndV ma mb):=fun loc mh=>by
 cases ea:boolD ma loc mh with
 | none =>
  have:dAndV ma mb loc mh=none:=by unfold dAndV DM.bnd;rw [ea]
  rw [this];exact PE_none
 | some p =>
  obtain ⟨k,m1⟩:=p;refine PE_imp (pe_and (ha loc mh) (hb loc m1)) ?_;rintro σ H Q ⟨ρ,d,mh',q,rl,rs,co⟩;have q':(if k=true then mb else Zr (.bl false)) loc m1=some (d,mh'):=by unfold dAndV DM.bnd at q;rw [ea] at q;exact q
  refine ⟨ρ,.bl k,m1,boolD_some ea,rl,rs,fun H1 ρ1 v e1 rs1 r1=>?_⟩;cases r1;refine ⟨k,rfl,?_⟩;cases k with
  | true=>exact iteT ⟨ρ1,d,mh',q',rl.mono e1,rs1,co.ev e1⟩
  | false=>cases q';exact iteF (co H1 ρ1 _ e1 rs1 (.bl false))
theorem de_or (ha:DE X a ma) (hb:DE X (.BoolOp .Or (b::rest) pos) mb):DE X (.BoolOp .Or (a::b::rest) pos) (dOrV ma mb):=fun loc mh=>by
 cases ea:boolD ma loc mh with
 | none =>
  have:dOrV ma mb loc mh=none:=by unfold dOrV DM.bnd;rw [ea]
  rw [this];exact PE_none
 | some p =>
  obtain ⟨k,m1⟩:=p;refine PE_imp (pe_or (ha loc mh) (hb loc m1)) ?_;rintro σ H Q ⟨ρ,d,mh',q,rl,rs,co⟩;have q':(if k=true then Zr (.bl true) else mb) loc m1=some (d,mh'):=by unfold dOrV DM.bnd at q;rw [ea] at q;exact q
  refine ⟨ρ,.bl k,m1,boolD_some ea,rl,rs,fun H1 ρ1 v e1 rs1 r1=>?_⟩;cases r1;refine ⟨k,rfl,?_⟩;cases k with
  | true=>cases q';exact iteT (co H1 ρ1 _ e1 rs1 (.bl true))
  | false=>exact iteF ⟨ρ1,d,mh',q',rl.mono e1,rs1,co.ev e1⟩
theorem de_not (ha:DE X a ma):DE X (.UnaryOp .Not a pos) ((boolD ma).bnd fun c=>Zr (.bl (!c))):=fun loc mh=>by
 refine PE_imp (pe_not (ha loc mh)) ?_;rintro σ H Q ⟨ρ,d,mh',q,rl,rs,co⟩;cases ea:boolD ma loc mh with
 | none=>unfold DM.bnd at q;rw [ea] at q;cases q
 | some p =>
  obtain ⟨k,m1⟩:=p;unfold DM.bnd at q;rw [ea] at q;cases q;refine ⟨ρ,.bl k,mh',boolD_some ea,rl,rs,fun H1 ρ1 v e1 rs1 r1=>?_⟩;cases r1;exact ⟨k,rfl,co H1 ρ1 _ e1 rs1 (.bl _)⟩
noncomputable def truD:D->MH->Option Bool
 | .non,_=>some false
 | .bl b,_=>some b
 | .int i,_=>some (i != 0)
 | .str y,_=>if y.length<=sizeLine then some ((y.length:Int) != 0) else none
 | .tup ds,_=>some (!ds.isEmpty)
 | .ref n,mh=>match mh[n]? with | some (.lst o)=>some (!o.isEmpty) | _=>none
 | .rol ds,_=>some (!ds.isEmpty)
 | .obj ..,_=>none
 | .fn _,_=>none
 | .lam,_=>none
theorem isEmpty_rds {K:PySem.W.Frag}{H:Hp}{ρ:List Addr}{ds:List D}{xs:List V}(r:RDs K H ρ ds xs):ds.isEmpty=xs.isEmpty:=by cases r <;> rfl
theorem truD_ok {K:PySem.W.Frag}{H:Hp}{ρ:List Addr}{mh:MH}{d:D}{v:V}{k:Bool}(rs:RS K H ρ mh) (r:RD K H ρ d v) (e:truD d mh=some k):TruV K v H k:=by
 cases r with
 | non=>cases e;rfl
 | bl b=>cases e;rfl
 | int i=>cases e;rfl
 | str x =>
  have e:(if x.length<=sizeLine then some ((x.length:Int) != 0) else none)=some k:=e;split at e
  ·rename_i hz;cases e;exact ⟨hz,rfl⟩
  ·cases e
 | tup s r=>cases e;exact .inr (.inl ⟨_,s,by rw [isEmpty_rds r]⟩)
 | rol s r=>cases e;exact .inl ⟨_,s.sq,by rw [isEmpty_rds r]⟩
 | obj n s l r=>cases e
 | fn h=>cases e
 | lam h=>cases e
 | @ref n a h =>
  have e:(match mh[n]? with | some (.lst o)=>some (!o.isEmpty) | _=>none)=some k:=e;split at e
  ·rename_i o eo;cases e;obtain ⟨a',ha,ro⟩:=rs.at eo;rw [h] at ha;cases ha;obtain ⟨xs,q,r⟩:=ro.read;exact .inl ⟨xs,q,by rw [isEmpty_rds r]⟩
  ·cases e
noncomputable def truM (ma:DM D):DM Bool:=ma.bnd fun x=>fun _ mh=>match truD x mh with | some k=>some (k,mh) | none=>none
theorem dt_truth (ha:DE X a ma) (he:∀ whole,isTrue a X.env whole=(do let v ← whole;standAt a.pos;holding [v] (truthy v))):DT X a (truM ma):=fun loc mh=>by
 refine PT_imp (pt_truth (ha loc mh) he) ?_;rintro σ H Q ⟨ρ,k,mh',q,rl,rs,co⟩;obtain ⟨x,m1,ea,q⟩:=bnd_some q
 ·split at q
  ·rename_i k' ek;cases q;exact ⟨ρ,x,mh',ea,rl,rs,fun H1 ρ1 v e1 rs1 r1=>⟨k,truD_ok rs1 r1 ek,co H1 ρ1 e1 rs1⟩⟩
  ·cases q
noncomputable def dCons (ma:DM D) (mr:DM (List D)):DM (List D):=ma.bnd fun x=>mr.bnd fun xs=>Zr (x::xs)
theorem da_nil:DA X [] (Zr []):=by
 refine fun loc mh=>PA_imp pa_nil ?_
 rintro σ H Q ⟨ρ,ds,mh',q,rl,rs,co⟩;cases q;exact co H ρ [] Ev.refl rs .nil
theorem da_cons {es:List Expr}{mr:DM (List D)}(ha:DE X a ma) (hr:DA X es mr) (hs:starEach (a::es) X.env=(false,eval a X.env)::starEach es X.env):DA X (a::es) (dCons ma mr):=fun loc mh=>by
 cases ea:ma loc mh with
 | none =>
  have:dCons ma mr loc mh=none:=by unfold dCons DM.bnd;rw [ea]
  rw [this];exact PA_none
 | some p =>
  obtain ⟨x,m1⟩:=p;refine PA_imp (pa_cons (ha loc mh) (hr loc m1) hs) ?_;rintro σ H Q ⟨ρ,ds,mh',q,rl,rs,co⟩;obtain ⟨x2,m2,ea2,q⟩:=bnd_some q;rw [ea] at ea2;cases ea2;obtain ⟨xs,m2,er,q'⟩:=bnd_some q
  ·cases q';exact ⟨ρ,x,m1,ea,rl,rs,fun H1 ρ1 v e1 rs1 r1=>⟨ρ1,xs,mh',er,rl.mono e1,rs1,fun H2 ρ2 vs e2 rs2 r2=>co H2 ρ2 _ (e1.trans e2) rs2 (.cons (r1.mono e2) r2)⟩⟩
noncomputable def mkTup (ds:List D) (mh:MH):Option (D×MH):=if ds.length<=sizeLine then some (.tup ds,mh) else none
noncomputable def mkLst (ds:List D) (mh:MH):Option (D×MH):=if ds.length<=sizeLine then some (.ref mh.length,mh++[.lst ds]) else none
theorem RS.last {K:PySem.W.Frag}{H:Hp}{ρ:List Addr}{mh:MH}(h:RS K H ρ mh) (p:Addr):(ρ++[p])[mh.length]?=some p:=by rw [← h.len];simp
theorem Co.newT {K:PySem.W.Frag}{H:Hp}{ρ:List Addr}{mh:MH}{ds:List D}{vs:List V}{Q:VK}(rs:RS K H ρ mh) (r:RDs K H ρ ds vs) (co:Co K H ρ mh (.tup ds) Q):∀ p,H p=none->Q (.ref p) (upd H p (.tup vs)):=fun p hp =>
 co _ ρ _ (Ev.new hp) (rs.new hp) (.tup (.inl (.inl upd_same)) (r.mono (Ev.new hp)))
theorem Co.newL {K:PySem.W.Frag}{H:Hp}{ρ:List Addr}{mh:MH}{ds:List D}{vs:List V}{Q:VK}(rs:RS K H ρ mh) (r:RDs K H ρ ds vs) (co:Co K H ρ (mh++[.lst ds]) (.ref mh.length) Q):∀ p,H p=none->Q (.ref p) (upd H p (.lst vs)):=fun p hp =>
 co _ (ρ++[p]) _ (Ev.newL hp) (rs.newL hp r) (.ref (rs.last p))
theorem de_tup {es:List Expr}{mr:DM (List D)}{x1}(h:DA X es mr):DE X (.Tuple es x1 pos) (mr.bnd fun ds=>Zl (mkTup ds)):=fun loc mh=>by
 refine PE_imp (pe_tup (h loc mh)) ?_;rintro σ H Q ⟨ρ,d,mh',q,rl,rs,co⟩;obtain ⟨ds,m1,ea,q⟩:=bnd_some q
 ·unfold Zl mkTup at q;split at q
  ·rename_i hz;cases q;exact ⟨ρ,ds,mh',ea,rl,rs,fun H1 ρ1 vs e1 rs1 r1=>⟨by rw [← r1.length];exact hz,Co.newT rs1 r1 (co.ev e1)⟩⟩
  ·cases q
theorem de_lst {es:List Expr}{mr:DM (List D)}(h:DA X es mr):DE X (.List es pos) (mr.bnd fun ds=>Zl (mkLst ds)):=fun loc mh=>by
 refine PE_imp (pe_lst (h loc mh)) ?_;rintro σ H Q ⟨ρ,d,mh',q,rl,rs,co⟩;obtain ⟨ds,m1,ea,q⟩:=bnd_some q
 ·unfold Zl mkLst at q;split at q
  ·rename_i hz;cases q;exact ⟨ρ,ds,m1,ea,rl,rs,fun H1 ρ1 vs e1 rs1 r1=>⟨by rw [← r1.length];exact hz,Co.newL rs1 r1 (co.ev e1)⟩⟩
  ·cases q
theorem de_callB {f:List D->MH->Option (D×MH)}{es:List Expr}{mr:DM (List D)}{x:Str}{p:Pos}{id:String}(hc:CallR X (.builtin id) (rDs X.K f)) (hg:Gl X x) (hm:X.mg x=none) (hv:bootBuiltins x=some (.builtin id)) (ha:DA X (a::es) mr)
  (hn:x ≠ "__name__") (hdb:(x==("__debug__":Str))=false) (he:starEach (a::es) X.env=(false,eval a X.env)::starEach es X.env) (hpl:(backTo pos (starEach es X.env)).any (·.1)=false) :
  DE X (.Call (.Name x p) (a::es) [] pos) (mr.bnd fun ds=>Zl (f ds)):=fun loc mh=>by
 refine PE_imp (pe_callB hc hg hm hv (ha loc mh) hn hdb he hpl) ?_;rintro σ H Q ⟨ρ,d,mh',q,rl,rs,co⟩;obtain ⟨ds,m1,ea,q⟩:=bnd_some q
 ·exact ⟨ρ,ds,m1,ea,rl,rs,fun H1 ρ1 vs e1 rs1 r1=>⟨ρ1,m1,ds,d,mh',q,rs1,r1,co.ev e1⟩⟩
theorem de_callTy {f:List D->MH->Option (D×MH)}{es:List Expr}{mr:DM (List D)}{x:Str}{p:Pos}{T:String}(hc:CallR X (.type T) (rDs X.K f)) (hg:Gl X x) (hm:X.mg x=none) (hv:bootBuiltins x=some (.type T)) (ha:DA X (a::es) mr)
  (hn:x ≠ "__name__") (hdb:(x==("__debug__":Str))=false) (he:starEach (a::es) X.env=(false,eval a X.env)::starEach es X.env) (hpl:(backTo pos (starEach es X.env)).any (·.1)=false) :
  DE X (.Call (.Name x p) (a::es) [] pos) (mr.bnd fun ds=>Zl (f ds)):=fun loc mh=>by
 refine PE_imp (pe_callTy hc hg hm hv (ha loc mh) hn hdb he hpl) ?_;rintro σ H Q ⟨ρ,d,mh',q,rl,rs,co⟩;obtain ⟨ds,m1,ea,q⟩:=bnd_some q
 ·exact ⟨ρ,ds,m1,ea,rl,rs,fun H1 ρ1 vs e1 rs1 r1=>⟨ρ1,m1,ds,d,mh',q,rs1,r1,co.ev e1⟩⟩
end
section
variable {X:Cx}
theorem OpR_imp {f:Value->Value->Sem Value}{r r':R2}(h:OpR X f r) (i:∀ x y H Q,r' x y H Q->r x y H Q):OpR X f r':=fun pins s σ H x y v u Q I rx ry q=>h pins s σ H x y v u Q I rx ry (i x y H Q q)
noncomputable def iop (C:Int->Int->Bool) (g:Int->Int->Int):D->D->MH->Option (D×MH)
 | .int i,.int j,mh=>if C i j=true then some (.int (g i j),mh) else none
 | _,_,_=>none
theorem iop_ok {f:Value->Value->Sem Value}{C:Int->Int->Prop}{Cb:Int->Int->Bool}{g:Int->Int->Int}(h:OpR X f (rI C fun i j=>.int (g i j))) (hC:∀ i j,Cb i j=true->C i j):OpR X f (rD X.K (iop Cb g)):=by
 refine OpR_imp h ?_;rintro x y H Q ⟨ρ,mh,dx,dy,d,mh',q,rs,rx,ry,co⟩;cases rx with
 | int i =>
  cases ry with
  | int j =>
   have q:(if Cb i j=true then some (D.int (g i j),mh) else none)=some (d,mh'):=q;split at q
   ·rename_i hc;cases q;exact ⟨i,j,rfl,rfl,hC i j hc,co H ρ _ Ev.refl rs (.int _)⟩
   ·cases q
  | _=>cases q
 | _=>cases q
theorem iop0_ok {f:Value->Value->Sem Value}{g:Int->Int->Int}(h:OpR X f (rI0 fun i j=>.int (g i j))):OpR X f (rD X.K (iop (fun _ _=>true) g)) :=
 iop_ok (C:=fun _ _=>True) (OpR_imp h fun x y H Q ⟨i,j,e1,e2,_,q⟩=>⟨i,j,e1,e2,q⟩) fun _ _ _=>trivial
noncomputable def icmp (g:Int->Int->Bool):D->D->MH->Option (D×MH)
 | .int i,.int j,mh=>some (.bl (g i j),mh)
 | _,_,_=>none
theorem icmp_ok {f:Value->Value->Sem Value}{g:Int->Int->Bool}(h:OpR X f (rI0 fun i j=>.bl (g i j))):OpR X f (rD X.K (icmp g)):=by
 refine OpR_imp h ?_;rintro x y H Q ⟨ρ,mh,dx,dy,d,mh',q,rs,rx,ry,co⟩;cases rx with
 | int i =>
  cases ry with
  | int j =>
   cases q;exact ⟨i,j,rfl,rfl,co H ρ _ Ev.refl rs (.bl _)⟩
  | _=>cases q
 | _=>cases q
noncomputable def addD:D->D->MH->Option (D×MH)
 | .int i,.int j,mh=>some (.int (i+j),mh)
 | .str i,.str j,mh=>if i.length+j.length<=sizeLine then some (.str (i++j),mh) else none
 | .tup xs,.tup ys,mh=>if xs.length+ys.length<=sizeLine then some (.tup (xs++ys),mh) else none
 | .ref n,.ref m,mh=>match mh[n]?,mh[m]? with
  | some (.lst xs),some (.lst ys)=>if xs.length+ys.length<=sizeLine then some (.ref mh.length,mh++[.lst (xs++ys)]) else none
  | _,_=>none
 | _,_,_=>none
end
noncomputable def mapO {α β:Type}(f:α->Option β):List α->Option (List β)
 | []=>some []
 | x::xs=>match f x with
  | some y=>match mapO f xs with
   | some ys=>some (y::ys)
   | none=>none
  | none=>none
noncomputable def py (mh:MH):Nat->D->Option PyData
 | _,.non=>some .none
 | _,.bl b=>some (.bool b)
 | _,.int i=>some (.int i)
 | _,.str x=>if PyData.strOk x=true then some (.str x) else none
 | 0,.tup _=>none
 | 0,.ref _=>none
 | 0,.rol _=>none
 | 0,.obj ..=>none
 | _+1,.obj ..=>none
 | 0,.fn _=>none
 | 0,.lam=>none
 | _+1,.fn _=>none
 | _+1,.lam=>none
 | n+1,.tup ds=>match mapO (py mh n) ds with | some xs=>some (.tuple xs) | none=>none
 | n+1,.rol ds=>match mapO (py mh n) ds with | some xs=>some (.list xs) | none=>none
 | n+1,.ref k=>match mh[k]? with
  | some (.lst o)=>match mapO (py mh n) o with | some xs=>some (.list xs) | none=>none
  | _=>none
section
variable {X:Cx}{pins:List (Addr×Obj)}{σ:St}{H:Hp}{s:Shared}{ρ:List Addr}{mh:MH}
theorem reads_of (I:Inv X pins σ H s) (rs:RS X.K H ρ mh):∀ (n:Nat) (d:D) (v:V) (u:Value) (a:PyData),py mh n d=some a->RD X.K H ρ d v->RelV v u->(∃ as,Reads s.heap u a as)/\a.canLay0=true/\a.depth<=n:=by
 intro n
 induction n with
 | zero =>
  intro d v u a e r rv;cases r with
  | non=>cases e;cases rv;exact ⟨⟨_,.none⟩,rfl,Nat.le_refl _⟩
  | bl b=>cases e;cases rv;exact ⟨⟨_,.bool b⟩,rfl,Nat.le_refl _⟩
  | int i=>cases e;obtain ⟨t,rfl⟩:=rv;exact ⟨⟨_,.int i t⟩,rfl,Nat.le_refl _⟩
  | str x =>
   have e:(if PyData.strOk x=true then some (PyData.str x) else none)=some a:=e;split at e
   ·cases e;obtain ⟨t,rfl⟩:=rv;exact ⟨⟨_,.str x t⟩,by assumption,Nat.le_refl _⟩
   ·cases e
  | tup s r=>cases e
  | ref h=>cases e
  | rol s r=>cases e
  | obj n s l r=>cases e
  | fn h=>cases e
  | lam h=>cases e
 | succ n ih =>
  have all:∀ (ds:List D) (vs:List V) (us:List Value) (as:List PyData),mapO (py mh n) ds=some as->RDs X.K H ρ ds vs->Vals vs us->(∃ bs,ReadsAll s.heap us as bs)/\PyData.canLayAll0 as=true/\PyData.depthAll as<=n:=by
   intro ds
   induction ds with
   | nil=>intro vs us as e r rv;cases e;cases r;cases rv;exact ⟨⟨_,.nil⟩,rfl,Nat.zero_le _⟩
   | cons d ds ihd =>
    intro vs us as e r rv;cases r with
    | cons r1 r2 =>
     cases rv with
     | cons v1 v2 =>
      simp only [mapO] at e;split at e
      ·rename_i y ey;split at e
       ·rename_i ys eys;cases e;obtain ⟨⟨a1,h1⟩,h2,h3⟩:=ih _ _ _ _ ey r1 v1;obtain ⟨⟨b1,g1⟩,g2,g3⟩:=ihd _ _ _ eys r2 v2;refine ⟨⟨_,.cons h1 g1⟩,?_,?_⟩
        ·simp only [PyData.canLayAll0,h2,g2,Bool.and_self]
        ·simp only [PyData.depthAll];omega
       ·cases e
      ·cases e
  intro d v u a e r rv;cases r with
  | non=>cases e;cases rv;exact ⟨⟨_,.none⟩,rfl,Nat.zero_le _⟩
  | bl b=>cases e;cases rv;exact ⟨⟨_,.bool b⟩,rfl,Nat.zero_le _⟩
  | int i=>cases e;obtain ⟨t,rfl⟩:=rv;exact ⟨⟨_,.int i t⟩,rfl,Nat.zero_le _⟩
  | str x =>
   have e:(if PyData.strOk x=true then some (PyData.str x) else none)=some a:=e;split at e
   ·cases e;obtain ⟨t,rfl⟩:=rv;exact ⟨⟨_,.str x t⟩,by assumption,Nat.zero_le _⟩
   ·cases e
  | @tup ds a' xs sq r =>
   cases rv;have e:(match mapO (py mh n) ds with | some xs=>some (PyData.tuple xs) | none=>none)=some a:=e;split at e
   ·rename_i ys ey;cases e;obtain ⟨its,rv,⟨o,h1,h2,n',h3⟩,_⟩:=I.tuple sq;obtain ⟨⟨bs,g1⟩,g2,g3⟩:=all ds xs its ys ey r rv;refine ⟨⟨_,.tuple h1 h2 h3 (by simpa using g1)⟩,by simpa [PyData.canLay0] using g2,?_⟩;simp only [PyData.depth];omega
   ·cases e
  | obj n s l r=>cases e
  | fn h=>cases e
  | lam h=>cases e
  | @rol ds a' xs sq r =>
   cases rv;have e:(match mapO (py mh n) ds with | some xs=>some (PyData.list xs) | none=>none)=some a:=e;split at e
   ·rename_i ys ey;cases e;obtain ⟨its,rv,⟨ob,n',h1,h2,h2',h3⟩,_⟩:=I.list sq.sq;obtain ⟨⟨bs,g1⟩,g2,g3⟩:=all _ xs its ys ey r rv;refine ⟨⟨_,.list h1 h2 h3 (by simpa using g1)⟩,by simpa [PyData.canLay0] using g2,?_⟩;simp only [PyData.depth];omega
   ·cases e
  | @ref k a' h =>
   cases rv;have e:(match mh[k]? with | some (.lst o)=>(match mapO (py mh n) o with | some xs=>some (PyData.list xs) | none=>none) | _=>none)=some a:=e;split at e
   ·rename_i o eo;split at e
    ·rename_i ys ey;cases e;obtain ⟨a2,ha,ro⟩:=rs.at eo;rw [h] at ha;cases ha;obtain ⟨xs,sq,r⟩:=ro.read;obtain ⟨its,rv,⟨ob,n',h1,h2,h2',h3⟩,_⟩:=I.list sq;obtain ⟨⟨bs,g1⟩,g2,g3⟩:=all _ xs its ys ey r rv;refine ⟨⟨_,.list h1 h2 h3 (by simpa using g1)⟩,by simpa [PyData.canLay0] using g2,?_⟩;simp only [PyData.depth];omega
    ·cases e
   ·cases e
noncomputable def eqB (mh:MH) (x y:D):Option Bool:=match py mh 60 x,py mh 60 y with
 | some a,some b=>some (PyData.eqv a b)
 | _,_=>none
noncomputable def eqD (x y:D) (mh:MH):Option (D×MH):=match eqB mh x y with | some k=>some (.bl k,mh) | none=>none
noncomputable def neD (x y:D) (mh:MH):Option (D×MH):=match eqB mh x y with | some k=>some (.bl (!k),mh) | none=>none
theorem room60 {A:Around}{a b:PyData}(hu:A.units+64 < cLine) (h:a.depth<=60):A.units+min a.depth b.depth < cLine:=by omega
theorem eqB_some {x y:D}{k:Bool}(h:eqB mh x y=some k):∃ a b,py mh 60 x=some a/\py mh 60 y=some b/\k=PyData.eqv a b:=by
 unfold eqB at h;split at h
 ·rename_i a b ea eb;cases h;exact ⟨a,b,ea,eb,rfl⟩
 ·cases h
theorem op_eqD (hu:X.A.units+64 < cLine):OpR X (compareOp .Eq) (rD X.K eqD):=by
 rintro pins s σ H x y v u Q I rx ry ⟨ρ,mh,dx,dy,d,mh',q,rs,r1,r2,co⟩;unfold eqD at q;split at q
 ·rename_i k ek;cases q;obtain ⟨a,b,ea,eb,rfl⟩:=eqB_some ek;obtain ⟨⟨as,h1⟩,h2,h3⟩:=reads_of I rs 60 dx x v a ea r1 rx;obtain ⟨⟨bs,g1⟩,g2,g3⟩:=reads_of I rs 60 dy y u b eb r2 ry;exact SeqAt.compareEq_reads h1 g1 h2 g2 (room60 hu h3) ⟨.bl _,H,I,rfl,co H ρ _ Ev.refl rs (.bl _)⟩
 ·cases q
theorem op_neD (hu:X.A.units+64 < cLine):OpR X (compareOp .NotEq) (rD X.K neD):=by
 rintro pins s σ H x y v u Q I rx ry ⟨ρ,mh,dx,dy,d,mh',q,rs,r1,r2,co⟩;unfold neD at q;split at q
 ·rename_i k ek;cases q;obtain ⟨a,b,ea,eb,rfl⟩:=eqB_some ek;obtain ⟨⟨as,h1⟩,h2,h3⟩:=reads_of I rs 60 dx x v a ea r1 rx;obtain ⟨⟨bs,g1⟩,g2,g3⟩:=reads_of I rs 60 dy y u b eb r2 ry;exact SeqAt.compareNe_reads h1 g1 h2 g2 (room60 hu h3) ⟨.bl _,H,I,rfl,co H ρ _ Ev.refl rs (.bl _)⟩
 ·cases q
end
section
variable {X:Cx}
noncomputable def isD (neg:Bool) (x y:D) (mh:MH):Option (D×MH):=match y with
 | .non=>some (.bl (if neg then !(match x with | .non=>true | _=>false) else match x with | .non=>true | _=>false),mh)
 | .bl b=>(match x with
  | .bl a=>some (.bl (if neg then a != b else a==b),mh)
  | .non=>some (.bl neg,mh)
  | _=>none)
 | _=>none
theorem op_isD:OpR X (compareOp .Is) (rD X.K (isD false)):=by
 rintro pins s σ H x y v u Q I rx ry ⟨ρ,mh,dx,dy,d,mh',q,rs,r1,r2,co⟩;cases r2 with
 | non =>
  cases q;cases ry;refine is_none_gen ⟨.bl _,H,I,?_,co H ρ _ Ev.refl rs (.bl _)⟩;rw [rx.none_iff];cases r1 <;> rfl
 | bl b =>
  cases r1 with
  | bl a=>cases q;cases rx;cases ry;exact is_bool ⟨.bl _,H,I,rfl,co H ρ _ Ev.refl rs (.bl _)⟩
  | non=>cases q;cases rx;cases ry;exact wpAny_pure (a:=Value.bool false) ⟨.bl _,H,I,rfl,co H ρ _ Ev.refl rs (.bl _)⟩
  | _=>cases q
 | _=>cases q
theorem op_isNotD:OpR X (compareOp .IsNot) (rD X.K (isD true)):=by
 rintro pins s σ H x y v u Q I rx ry ⟨ρ,mh,dx,dy,d,mh',q,rs,r1,r2,co⟩;cases r2 with
 | non =>
  cases q;cases ry;refine isnot_none_gen ⟨.bl _,H,I,?_,co H ρ _ Ev.refl rs (.bl _)⟩;rw [rx.none_iff];cases r1 <;> rfl
 | bl b =>
  cases r1 with
  | bl a=>cases q;cases rx;cases ry;exact isnot_bool ⟨.bl _,H,I,rfl,co H ρ _ Ev.refl rs (.bl _)⟩
  | non=>cases q;cases rx;cases ry;exact wpAny_pure (a:=Value.bool true) ⟨.bl _,H,I,rfl,co H ρ _ Ev.refl rs (.bl _)⟩
  | _=>cases q
 | _=>cases q
theorem op_catT0:OpR X (binaryOp .Add) (fun x y H Q=>∃ a b ys,x=.ref a/\y=.ref b/\SqT X.K H a []/\SqT X.K H b ys/\Q (.ref b) H):=by
 rintro pins s σ H x y v u Q I rx ry ⟨a,b,ys,e1,e2,ha,hb,q⟩;subst e1;subst e2;cases rx;cases ry;obtain ⟨its,r1,p1,_⟩:=I.tuple ha;obtain ⟨its2,r2,p2,_⟩:=I.tuple hb;cases r1;obtain ⟨⟨cls,dd,data,sl⟩,ho,hc,n,hd⟩:=id p1;obtain ⟨⟨cls2,dd2,data2,sl2⟩,ho2,hc2,n2,hd2⟩:=id p2;simp only at hc hd hc2 hd2;subst hc hd hc2 hd2;exact concat_meets ⟨_,ho,rfl⟩ ⟨_,ho2,rfl⟩ noFill_tuple_add seq_tuple_add PySem.F.slot_tuple_add PySem.F.entry_tuple_add (PySem.F.args_tuple_add_2 _ _) (tuple_addW0 a b _ _ n n2 dd dd2 sl sl2 (by simp)) ⟨ho,ho2,⟨.ref b,H,I,rfl,q⟩⟩
theorem op_addD:OpR X (binaryOp .Add) (rD X.K addD):=by
 refine OpR_imp (op_add.or (op_add_str.or (op_catT.or (op_cat.or op_catT0)))) ?_;rintro x y H Q ⟨ρ,mh,dx,dy,d,mh',q,rs,rx,ry,co⟩;cases rx with
 | int i =>
  cases ry with
  | int j=>cases q;exact .inl ⟨i,j,rfl,rfl,co H ρ _ Ev.refl rs (.int _)⟩
  | _=>cases q
 | str i =>
  cases ry with
  | str j =>
   have q:(if i.length+j.length<=sizeLine then some (D.str (i++j),mh) else none)=some (d,mh'):=q;split at q
   ·rename_i hz;cases q;exact .inr (.inl ⟨i,j,rfl,rfl,hz,co H ρ _ Ev.refl rs (.str _)⟩)
   ·cases q
  | _=>cases q
 | @tup xs a us s1 r1 =>
  cases ry with
  | @tup ys b ws s2 r2 =>
   have q:(if xs.length+ys.length<=sizeLine then some (D.tup (xs++ys),mh) else none)=some (d,mh'):=q;split at q
   ·rename_i hz;cases q
    by_cases hne:xs=[]
    ·subst hne;cases r1;exact .inr (.inr (.inr (.inr ⟨a,b,ws,rfl,rfl,s1,s2,co H ρ _ Ev.refl rs (.tup s2 r2)⟩)))
    ·refine .inr (.inr (.inl ⟨a,b,us,ws,rfl,rfl,s1,s2,fun z=>hne ?_,by rw [← r1.length,← r2.length];exact hz,?_⟩))
     ·rw [z] at r1;cases r1;rfl
     ·refine ⟨fun z=>?_,fun z=>Co.newT rs (r1.append r2) co⟩;subst z;cases r2;exact co H ρ _ Ev.refl rs (.tup s1 (by rw [List.append_nil];exact r1))
   ·cases q
  | _=>cases q
 | @ref n a ha =>
  cases ry with
  | @ref m b hb =>
   have q:(match mh[n]?,mh[m]? with
    | some (.lst xs),some (.lst ys)=>if xs.length+ys.length<=sizeLine then some (D.ref mh.length,mh++[.lst (xs++ys)]) else none
    | _,_=>none)=some (d,mh'):=q
   split at q
   ·rename_i xs ys e1 e2;split at q
    ·rename_i hz;cases q;obtain ⟨a2,h1,us,g1,r1⟩:=rs.at e1;obtain ⟨b2,h2,ws,g2,r2⟩:=rs.at e2;rw [ha] at h1;rw [hb] at h2;cases h1;cases h2;exact .inr (.inr (.inr (.inl ⟨a,b,us,ws,rfl,rfl,g1,g2,by rw [← r1.length,← r2.length];exact hz,Co.newL rs (r1.append r2) co⟩)))
    ·cases q
   ·cases q
  | _=>cases q
 | _=>cases q
end
section
variable {X:Cx}
theorem CallR_imp {f:Value}{r r':List V->Hp->VK->Prop}(h:CallR X f r) (i:∀ xs H Q,r' xs H Q->r xs H Q):CallR X f r':=fun pins s σ H xs us Q I rx q=>h pins s σ H xs us Q I rx (i xs H Q q)
theorem IxR_imp {r r':R2}(h:IxR X r) (i:∀ x y H Q,r' x y H Q->r x y H Q):IxR X r':=fun a b pins s σ H x y v u Q I rx ry q hs=>h a b pins s σ H x y v u Q I rx ry (i x y H Q q) hs
theorem SlR_imp {r r':V->Option Int->Option Int->Hp->VK->Prop}(h:SlR X r) (i:∀ x lo hi H Q,r' x lo hi H Q->r x lo hi H Q):SlR X r':=fun pins s σ H x v vl vu lo hi sl Q I rx hs pl pu q=>h pins s σ H x v vl vu lo hi sl Q I rx hs pl pu (i x lo hi H Q q)
noncomputable def seqD:D->MH->Option (List D)
 | .tup ds,_=>some ds
 | .ref n,mh=>match mh[n]? with | some (.lst o)=>some o | _=>none
 | .rol ds,_=>some ds
 | _,_=>none
theorem seqD_ok {K:PySem.W.Frag}{H:Hp}{ρ:List Addr}{mh:MH}{d:D}{v:V}{ds:List D}(rs:RS K H ρ mh) (r:RD K H ρ d v) (e:seqD d mh=some ds):∃ p xs,v=.ref p/\(SqL K H p xs\/SqT K H p xs)/\RDs K H ρ ds xs:=by
 cases r with
 | tup s r=>cases e;exact ⟨_,_,rfl,.inr s,r⟩
 | rol s r=>cases e;exact ⟨_,_,rfl,.inl s.sq,r⟩
 | @ref n a h =>
  have e:(match mh[n]? with | some (.lst o)=>some o | _=>none)=some ds:=e;split at e
  ·rename_i o eo;cases e;obtain ⟨a',ha,ro⟩:=rs.at eo;rw [h] at ha;cases ha;obtain ⟨xs,q,r⟩:=ro.read;exact ⟨_,xs,rfl,.inl q,r⟩
  ·cases e
 | _=>cases e
theorem atI_rds {K:PySem.W.Frag}{H:Hp}{ρ:List Addr}{ds:List D}{xs:List V}{i:Int}{d:D}(r:RDs K H ρ ds xs) (e:atI ds i=some d):∃ v,atI xs i=some v/\RD K H ρ d v:=by
 unfold atI at e ⊢;rw [← r.length];cases q:ixN ds.length i with
 | none=>rw [q] at e;cases e
 | some j =>
  rw [q] at e;exact r.get e
noncomputable def ixD0 (x y:D) (mh:MH):Option (D×MH):=match y with
 | .int i=>(match x with
  | .str z=>if z.length<=sizeLine then (match atI z.cps.toList i with | some c=>some (.str ⟨#[c]⟩,mh) | none=>none) else none
  | _=>match seqD x mh with
   | some ds=>(match atI ds i with | some d=>some (d,mh) | none=>none)
   | none=>none)
 | _=>none
theorem ix_D0:IxR X (rD X.K ixD0):=by
 refine IxR_imp (ix_seq (X:=X)) ?_;rintro x y H Q ⟨ρ,mh,dx,dy,d,mh',q,rs,rx,ry,co⟩;have seq:∀ i:Int,y=.int i->(match seqD dx mh with | some ds=>(match atI ds i with | some d=>some (d,mh) | none=>none) | none=>none)=some (d,mh')->rIx X.K x y H Q:=fun i ey q=>by
  split at q
  ·rename_i ds e1;split at q
   ·rename_i d' e2;cases q;obtain ⟨p,xs,rfl,hq,r⟩:=seqD_ok rs rx e1;obtain ⟨v,e3,r3⟩:=atI_rds r e2;rcases hq with hq|hq
    ·exact .inl ⟨p,xs,i,v,rfl,ey,hq,e3,co H ρ v Ev.refl rs r3⟩
    ·exact .inr (.inl ⟨p,xs,i,v,rfl,ey,hq,e3,co H ρ v Ev.refl rs r3⟩)
   ·cases q
  ·cases q
 cases ry with
 | int i =>
  cases rx with
  | str z =>
   have q:(if z.length<=sizeLine then (match atI z.cps.toList i with | some c=>some (D.str ⟨#[c]⟩,mh) | none=>none) else none)=some (d,mh'):=q;split at q
   ·rename_i hz;split at q
    ·rename_i c ec;cases q;exact .inr (.inr ⟨z,i,c,rfl,rfl,hz,ec,co H ρ _ Ev.refl rs (.str _)⟩)
    ·cases q
   ·cases q
  | non=>exact seq i rfl q
  | bl b=>exact seq i rfl q
  | int j=>exact seq i rfl q
  | tup s r=>exact seq i rfl q
  | ref h=>exact seq i rfl q
  | rol s r=>exact seq i rfl q
  | obj n s l r=>exact seq i rfl q
  | fn h=>exact seq i rfl q
  | lam h=>exact seq i rfl q
 | _=>cases q
noncomputable def cutD {α:Type}(xs:List α) (lo hi:Option Int):List α:=(xs.drop (HT.sIx xs.length 0 lo)).take (HT.sIx xs.length xs.length hi - HT.sIx xs.length 0 lo)
theorem cut_rds {K:PySem.W.Frag}{H:Hp}{ρ:List Addr}{ds:List D}{xs:List V}{lo hi:Option Int}(r:RDs K H ρ ds xs):RDs K H ρ (cutD ds lo hi) (cutV xs lo hi):=by
 unfold cutD cutV;rw [r.length];exact (r.drop _).take _
theorem getItem_tuple_whole {prog:Program}{w:World}{A:Around}{E:Value->Shared->Prop}{s:Shared}{t sl:Addr}{items:Array Value}{vl vu:Value}{lo hi:Option Int}{Q:Value->Shared->Prop}(ht:IsTup s.heap t items) (hs:s.heap.IsSliceOf sl vl vu .none) (pl:IsPart vl lo) (pu:IsPart vu hi)
  (h0:HT.sIx items.size 0 lo=0) (h1:HT.sIx items.size items.size hi=items.size) (h:Q (.ref t) s):wpAny (model prog w) A (getItem (.ref t) (.ref sl)) Q E s:=by
 obtain ⟨os,hos,hcs,hds⟩:=id hs
 have hTs:s.TypeIs (.ref sl) "slice":=⟨os,hos,hcs⟩
 unfold getItem
 try with_reducible refine wpAny_holding ?_
 first | refine wpAny_bind (wpAny_pure ?_) | skip
 refine wpAny_bind (wpAny_sequenceKey ht.typeIs (by decide) ?_)
 refine wpAny_bind (wpAny_callSpecial?_slot (name:=Str.ofString "__getitem__") ht.typeIs PyProof.Rows.slot_tuple_getitem
  (wpAny_call_entry PyProof.Rows.slot_tuple_getitem ht.typeIs entry_tuple_getitem ?_ (args_tuple_getitem _ _)))
 show wpAny _ _ (Builtin.Tuple.tupleItemsOf (.ref t) >>= _) _ _ s;refine wpAny_bind (tupleItemsOf_ ht ?_);refine wpAny_bind (wpAny_typeOf hTs ?_);rw [if_pos (by decide)];refine wpAny_bind (HT.sliceApplied_gen hs pl pu ?_);rw [h0,h1];have hyes:((((0:Nat):Int)==0&&(1:Int)==1&&(items.size - 0)==items.size)=true):=by simp
 show wpAny _ _ (if (((0:Nat):Int)==0&&(1:Int)==1&&(items.size - 0)==items.size)=true then _ else _) _ _ s;rw [if_pos hyes];unfold Builtin.Tuple.tupleIsExact;refine wpAny_bind (wpAny_bind (wpAny_typeOf ht.typeIs (wpAny_pure ?_)));rw [if_pos (by decide)];exact wpAny_bind (wpAny_rule (wpAny_pure ⟨_,rfl,wpAny_pure h⟩))
theorem sl_tupAll:SlR X (fun x lo hi H Q=>∃ a xs,x=.ref a/\SqT X.K H a xs/\HT.sIx xs.length 0 lo=0/\HT.sIx xs.length xs.length hi=xs.length/\Q (.ref a) H):=by
 intro pins s σ H x v vl vu lo hi sl Q I rx hs pl pu h;obtain ⟨a,xs,rfl,hx,h0,h1,q⟩:=h;cases rx;obtain ⟨its,r,ht,hz⟩:=I.tuple hx;have hlen:its.toArray.size=xs.length:=by rw [List.size_toArray];exact r.length.symm
 refine ⟨"tuple",_,PyProof.Rows.slot_tuple_getitem.lookup,ht.typeIs,?_⟩;exact getItem_tuple_whole ht hs pl pu (by rw [hlen];exact h0) (by rw [hlen];exact h1) ⟨.ref a,H,I,rfl,q⟩
noncomputable def slD (x:D) (lo hi:Option Int) (mh:MH):Option (D×MH):=match x with
 | .tup ds=>if HT.sIx ds.length 0 lo=0/\HT.sIx ds.length ds.length hi=ds.length then some (.tup ds,mh) else some (.tup (cutD ds lo hi),mh)
 | .ref n=>match mh[n]? with
  | some (.lst o)=>some (.ref mh.length,mh++[.lst (cutD o lo hi)])
  | _=>none
 | .rol ds=>some (.ref mh.length,mh++[.lst (cutD ds lo hi)])
 | _=>none
noncomputable def rDSl (K:PySem.W.Frag):V->Option Int->Option Int->Hp->VK->Prop:=fun x lo hi H Q=>∃ ρ mh dx d mh',slD dx lo hi mh=some (d,mh')/\RS K H ρ mh/\RD K H ρ dx x/\Co K H ρ mh' d Q
theorem sl_D:SlR X (rDSl X.K):=by
 refine SlR_imp (sl_tupAll.or (sl_tup.or sl_list)) ?_;rintro x lo hi H Q ⟨ρ,mh,dx,d,mh',q,rs,rx,co⟩;cases rx with
 | @tup ds a xs s r =>
  have q:(if HT.sIx ds.length 0 lo=0/\HT.sIx ds.length ds.length hi=ds.length then some (D.tup ds,mh) else some (D.tup (cutD ds lo hi),mh))=some (d,mh'):=q;have hl:=r.length;split at q
  ·rename_i hw;cases q;exact .inl ⟨a,xs,rfl,s,by rw [← hl];exact hw.1,by rw [← hl];exact hw.2,co H ρ _ Ev.refl rs (.tup s r)⟩
  ·rename_i hw;cases q;exact .inr (.inl ⟨a,xs,rfl,s,by rw [← hl];exact hw,Co.newT rs (cut_rds r) co⟩)
 | @ref n a h =>
  have q:(match mh[n]? with | some (.lst o)=>some (D.ref mh.length,mh++[.lst (cutD o lo hi)]) | _=>none)=some (d,mh'):=q;split at q
  ·rename_i o eo;cases q;obtain ⟨a',ha,ro⟩:=rs.at eo;rw [h] at ha;cases ha;obtain ⟨xs,sq,r⟩:=ro.read;exact .inr (.inr ⟨a,xs,rfl,sq,Co.newL rs (cut_rds r) co⟩)
  ·cases q
 | @rol ds a xs s r =>
  cases q;exact .inr (.inr ⟨a,xs,rfl,s.sq,Co.newL rs (cut_rds r) co⟩)
 | _=>cases q
noncomputable def partD (m:Option (DM D)):DM (Option Int):=match m with
 | none=>Zr none
 | some m=>m.bnd fun x=>match x with | .int i=>Zr (some i) | _=>Zb
noncomputable def DPart (X:Cx) (e:Option Expr) (m:Option (DM D)):Prop:=match e,m with
 | none,none=>True
 | some e,some m=>DE X e m
 | _,_=>False
noncomputable def tDO (K:PySem.W.Frag) (loc:Loc) (mh:MH) (r:Option (Option Int×MH)):TO:=fun σ H Q=>∃ ρ o mh',r=some (o,mh')/\RL K H ρ loc σ/\RS K H ρ mh/\∀ H' ρ',Ev K H ρ H' ρ'->RS K H' ρ' mh'->Q o H'
theorem po_D {e:Option Expr}{m:Option (DM D)}(h:DPart X e m) (loc:Loc) (mh:MH):PO X e (tDO X.K loc mh (partD m loc mh)):=by
 rintro pins s σ H Q I ⟨ρ,o,mh',q,rl,rs,co⟩;cases e with
 | none =>
  cases m with
  | none =>
   cases q;exact po_none pins s σ H Q I (co H ρ Ev.refl rs)
  | some m=>exact h.elim
 | some e =>
  cases m with
  | none=>exact h.elim
  | some m =>
   obtain ⟨x,m1,ea,q⟩:=bnd_some q;cases x with
   | int i =>
    cases q;refine po_some (h loc mh) pins s σ H Q I ⟨ρ,.int i,mh',ea,rl,rs,fun H' ρ' v e' rs' r'=>?_⟩;cases r';exact ⟨i,rfl,co H' ρ' e' rs'⟩
   | non=>cases q
   | bl b=>cases q
   | str z=>cases q
   | tup ds=>cases q
   | ref n=>cases q
   | rol ds=>cases q
   | obj c ks ds=>cases q
   | fn x=>cases q
   | lam=>cases q
noncomputable def dSl (ma:DM D) (ml mu:Option (DM D)):DM D:=ma.bnd fun x=>(partD ml).bnd fun l=>(partD mu).bnd fun u=>Zl (slD x l u)
theorem de_slice {a:Expr}{ma:DM D}{lo hi:Option Expr}{ml mu:Option (DM D)}{p2 pos:Pos}(ha:DE X a ma) (hl:DPart X lo ml) (hu:DPart X hi mu):DE X (.Subscript a (.Slice lo hi none p2) pos) (dSl ma ml mu):=fun loc mh=>by
 cases ea:ma loc mh with
 | none =>
  have:dSl ma ml mu loc mh=none:=by unfold dSl DM.bnd;rw [ea]
  rw [this];exact PE_none
 | some p =>
  obtain ⟨x,m1⟩:=p;cases el:partD ml loc m1 with
  | none =>
   have:dSl ma ml mu loc mh=none:=by unfold dSl;unfold DM.bnd;rw [ea];dsimp only;rw [el]
   rw [this];exact PE_none
  | some p2 =>
   obtain ⟨l,m2⟩:=p2;refine PE_imp (pe_slice sl_D (ha loc mh) (po_D hl loc m1) (po_D hu loc m2)) ?_;rintro σ H Q ⟨ρ,d,mh',q,rl,rs,co⟩;obtain ⟨x',m1',ea',q⟩:=bnd_some q;rw [ea] at ea';cases ea';obtain ⟨l',m2',el',q⟩:=bnd_some q;rw [el] at el';cases el';obtain ⟨u,m3,eu,q⟩:=bnd_some q
   exact ⟨ρ,x,m1,ea,rl,rs,fun H1 ρ1 v e1 rs1 r1=>⟨ρ1,l,m2,el,rl.mono e1,rs1,fun H2 ρ2 e2 rs2=>⟨ρ2,u,m3,eu,(rl.mono e1).mono e2,rs2,fun H3 ρ3 e3 rs3 =>
    ⟨ρ3,m3,x,d,mh',q,rs3,(r1.mono e2).mono e3,co.ev (e1.trans (e2.trans e3))⟩⟩⟩⟩
theorem pick_rev (its:List Value):slicePick its.toArray none none (some (-1))=its.reverse.toArray:=by
 unfold slicePick sliceBounds sliceRange;simp only [Option.getD_some];have h1:¬ ((-1:Int) > 0):=by decide
 simp only [h1,if_false,List.size_toArray];congr 1;have hc:(if ((its.length:Int) - 1 > -1) then ((its.length:Int) - 1 - -1 - -1 - 1) / (- -1) else 0).toNat=its.length:=by
  split
  ·have:((its.length:Int) - 1 - -1 - -1 - 1) / (- -1)=its.length:=by
    have e:(- -1:Int)=1:=by decide
    rw [e,Int.ediv_one];omega
   rw [this];omega
  ·omega
 rw [hc];have e:∀ k,k<=its.length->(List.map (fun (k:Nat)=>((its.length:Int) - 1+-1 * (k:Int)).toNat) (List.range k)).filterMap (fun x=>its.toArray[x]?)=its.reverse.take k:=by
  intro k
  induction k with
  | zero=>intro _;simp
  | succ k ih =>
   intro hk;rw [List.range_succ,List.map_append,List.filterMap_append,ih (by omega),List.take_add_one];congr 1;have e1:((its.length:Int) - 1+-1 * (k:Int)).toNat=its.length - 1 - k:=by omega
   have hlt:k < its.length:=by omega
   have hlt2:its.length - 1 - k < its.length:=by omega
   simp only [List.map_cons,List.map_nil,List.filterMap_cons,List.filterMap_nil,e1,List.getElem?_toArray,List.getElem?_reverse hlt,List.getElem?_eq_getElem hlt2,Option.toList_some]
 rw [e its.length (Nat.le_refl _),List.take_of_length_le (by simp)]
noncomputable def revD:D->MH->Option (D×MH)
 | .ref n,mh=>match mh[n]? with | some (.lst o)=>some (.ref mh.length,mh++[.lst o.reverse]) | _=>none
 | .tup ds,mh=>some (.tup ds.reverse,mh)
 | _,_=>none
end
end DL
namespace HT
open PySem PySem.Spec PyProof.Rows
section
variable {prog:Program}{w:World}{A:Around}{E:Value->Shared->Prop}{s:Shared}
theorem sliceApplied_rev {sl:Addr}{t n:Nat}{Q:Int×Int×Nat->Shared->Prop}(hs:s.heap.IsSliceOf sl .none .none (.int (-1) t)) (h:Q ((n:Int) - 1,-1,n) s):wpAny (model prog w) A (Builtin.Slice.sliceApplied (.ref sl) (pure (n:Int))) Q E s:=by
 obtain ⟨os,hos,hcs,hds⟩:=id hs;unfold Builtin.Slice.sliceApplied Builtin.Slice.sliceFields;refine wpAny_bind (wpAny_bind (wpAny_field hos hds (x:=.none) rfl (wpAny_bind (wpAny_field hos hds (x:=.none) rfl (wpAny_bind (wpAny_field hos hds (x:=.int (-1) t) rfl (wpAny_pure ?_)))))));refine wpAny_bind (slicePart_int ?_);show wpAny _ _ (if ((-1:Int)==0)=true then _ else _) _ _ s;rw [if_neg (by decide)];refine wpAny_bind (slicePart_none (wpAny_bind (slicePart_none (wpAny_bind (wpAny_pure ?_)))));show wpAny _ _ (pure ((n:Int) - 1,(-1:Int),Builtin.Slice.slicePlaces ((n:Int) - 1) (-1) (-1))) _ _ s;have e:Builtin.Slice.slicePlaces ((n:Int) - 1) (-1) (-1)=n:=by
  unfold Builtin.Slice.slicePlaces;rw [if_neg (by decide),show (- -1:Int)=1 from rfl,Int.ediv_one];split <;> omega
 rw [e];exact wpAny_pure h
theorem pick_revT (xs:Array Value):((List.range xs.size).filterMap fun (m:Nat)=>xs[((xs.size:Int) - 1+(m:Int) * -1).toNat]?).toArray=xs.toList.reverse.toArray:=by
 congr 1;have e:∀ k,k<=xs.size->((List.range k).filterMap fun (m:Nat)=>xs[((xs.size:Int) - 1+(m:Int) * -1).toNat]?)=xs.toList.reverse.take k:=by
  intro k
  induction k with
  | zero=>intro _;simp
  | succ k ih =>
   intro hk;rw [List.range_succ,List.filterMap_append,ih (by omega),List.take_add_one];congr 1;have e1:((xs.size:Int) - 1+(k:Int) * -1).toNat=xs.size - 1 - k:=by omega
   have hlt:k < xs.toList.length:=by rw [Array.length_toList];omega
   have hlt2:xs.size - 1 - k < xs.size:=by omega
   simp only [List.filterMap_cons,List.filterMap_nil,e1,List.getElem?_reverse hlt,Array.length_toList,Array.getElem?_toList,Array.getElem?_eq_getElem hlt2,Option.toList_some]
 rw [e _ (Nat.le_refl _),List.take_of_length_le (by simp)]
theorem getItem_tuple_rev {t sl:Addr}{n:Nat}{items:Array Value}{Q:Value->Shared->Prop}(ht:IsTup s.heap t items) (hs:s.heap.IsSliceOf sl .none .none (.int (-1) n))
  (h:Q (.ref s.heap.objs.size) { s with heap:=s.heap.push { cls:=.type "tuple",data:=.seq items.toList.reverse.toArray } })
  (hsz:items.size<=sizeLine):wpAny (model prog w) A (getItem (.ref t) (.ref sl)) Q E s:=by
 have htake:sizeOk (.seq items.toList.reverse.toArray):=by
  show items.toList.reverse.toArray.size<=sizeLine;rw [List.size_toArray,List.length_reverse,Array.length_toList];exact hsz
 obtain ⟨os,hos,hcs,hds⟩:=id hs
 have hTs:s.TypeIs (.ref sl) "slice":=⟨os,hos,hcs⟩
 unfold getItem
 try with_reducible refine wpAny_holding ?_
 first | refine wpAny_bind (wpAny_pure ?_) | skip
 refine wpAny_bind (wpAny_sequenceKey ht.typeIs (by decide) ?_)
 refine wpAny_bind (wpAny_callSpecial?_slot (name:=Str.ofString "__getitem__") ht.typeIs PyProof.Rows.slot_tuple_getitem
  (wpAny_call_entry PyProof.Rows.slot_tuple_getitem ht.typeIs entry_tuple_getitem ?_ (args_tuple_getitem _ _)))
 show wpAny _ _ (Builtin.Tuple.tupleItemsOf (.ref t) >>= _) _ _ s;refine wpAny_bind (tupleItemsOf_ ht ?_);refine wpAny_bind (wpAny_typeOf hTs ?_);rw [if_pos (by decide)];refine wpAny_bind (sliceApplied_rev hs ?_);have hno:¬ ((((items.size:Int) - 1)==0&&(-1:Int)==1&&items.size==items.size)=true):=by
  intro q;rw [Bool.and_eq_true,Bool.and_eq_true] at q;exact absurd q.1.2 (by decide)
 show wpAny _ _ (if (((items.size:Int) - 1)==0&&(-1:Int)==1&&items.size==items.size)=true then _ else _) _ _ s;rw [if_neg hno,pick_revT]
 first
  | exact wpAny_bind (m:=Builtin.Tuple.tupleExact _) (wpAny_newObj_type (wpAny_pure ⟨_,rfl,wpAny_pure h⟩) htake)
  | exact wpAny_bind (m:=Builtin.Tuple.tupleExact _) (wpAny_newObj_type (wpAny_bind (wpAny_pure (wpAny_pure ⟨_,rfl,wpAny_pure h⟩))) htake)
  | exact wpAny_bind (wpAny_bind (m:=Builtin.Tuple.tupleExact _) (wpAny_newObj_type (wpAny_pure (wpAny_pure ⟨_,rfl,wpAny_pure h⟩)) htake))
  | exact wpAny_bind (wpAny_bind (m:=Builtin.Tuple.tupleExact _) (wpAny_newObj_type (wpAny_pure ⟨_,rfl,wpAny_pure h⟩) htake))
end
end HT
namespace DL
open PySem PySem.Spec PyProof.Rows L2
section
variable {X:Cx}
theorem de_rev {a:Expr}{ma:DM D}{k:Nat}{p1 p2 p3 pos:Pos}(ha:DE X a ma):DE X (.Subscript a (.Slice none none (some (.UnaryOp .USub (.Constant (.int 1) k p1) p2)) p3) pos) (ma.bnd fun x=>Zl (revD x)):=fun loc mh=>by
 rintro pins s σ H Q I ⟨ρ,d,mh',q,rl,rs,co⟩;obtain ⟨x,m1,ea,q⟩:=bnd_some q;refine Subscript_ (thn (ha loc mh pins s σ H (fun v H1=>∃ ρ1,Ev X.K H ρ H1 ρ1/\RS X.K H1 ρ1 m1/\RD X.K H1 ρ1 x v) I ⟨ρ,x,m1,ea,rl,rs,fun H1 ρ1 v e1 rs1 r1=>⟨ρ1,e1,rs1,r1⟩⟩) ?_);rintro v s1 ⟨xv,H1,I1,r1,ρ1,e1,rs1,rd⟩;refine wpAny_Slice ?_;rw [evalPart_none,evalPart_some];refine wpAny_pure (wpAny_pure ?_);refine UnaryOp_ (wpAny_Constant_int (neg_int ?_));cases rd with
 | @ref n b hb =>
  have q:(match m1[n]? with | some (.lst o)=>some (D.ref m1.length,m1++[.lst o.reverse]) | _=>none)=some (d,mh'):=q;split at q
  ·rename_i o eo;cases q;obtain ⟨a',ha',ro⟩:=rs1.at eo;rw [hb] at ha';cases ha';obtain ⟨xs,sq,r⟩:=ro.read;cases r1;have I2:=(I1.tok (s1.toks+1)).tok (s1.toks+1+1)
   have I3:Inv X pins σ H1 { s1 with heap:=s1.heap.push { cls:=.type "slice",data:=.fields #[.none,.none,.int (-1) (s1.toks+1)] },toks:=s1.toks+1+1 }:=I2.kept (t':=s1.toks+1+1) fun b ob q=>Heap.get?_push_of_some _ q
   obtain ⟨its,rv,ht,hz⟩:=I3.list sq;have hlen:=rv.length;refine tail_any (ops:=[.ref b,.ref s1.heap.objs.size]) ht.isList.typeIs slot_list_getitem.lookup (wpAny_getItem_list_slice ht.isList (Heap.IsSliceOf.new ..) .none .none (.int (-1) _) (by decide) ?_ (by rw [List.size_toArray];omega)) (by with_unfolding_all rfl);rw [pick_rev];refine ⟨.ref _,_,I3.laid (t':=s1.toks+1+1) (o:=.lst xs.reverse) (fun b ob q=>Heap.get?_push_of_some _ q) (Nat.le_refl _) ⟨?_,_,0,rv.reverse,Heap.get?_push_size _ rfl⟩,rfl,Co.newL rs1 r.reverse (co.ev e1) _ (I3.hok.fresh (Nat.le_refl _))⟩;rw [List.length_reverse];exact hz
  ·cases q
 | @tup ds b xs sq r =>
  cases q;cases r1;have I2:=(I1.tok (s1.toks+1)).tok (s1.toks+1+1)
  have I3:Inv X pins σ H1 { s1 with heap:=s1.heap.push { cls:=.type "slice",data:=.fields #[.none,.none,.int (-1) (s1.toks+1)] },toks:=s1.toks+1+1 }:=I2.kept (t':=s1.toks+1+1) fun b ob q=>Heap.get?_push_of_some _ q
  obtain ⟨its,rv,ht,hz⟩:=I3.tuple sq;have hlen:=rv.length;refine tail_any (ops:=[.ref b,.ref s1.heap.objs.size]) ht.typeIs PyProof.Rows.slot_tuple_getitem.lookup (HT.getItem_tuple_rev ht (Heap.IsSliceOf.new ..) ?_ (by rw [List.size_toArray];omega)) (by with_unfolding_all rfl);refine ⟨.ref _,_,I3.laid (t':=s1.toks+1+1) (o:=.tup xs.reverse) (fun b ob q=>Heap.get?_push_of_some _ q) (Nat.le_refl _) ⟨?_,_,rv.reverse,TupP.new _ _⟩,rfl,Co.newT rs1 r.reverse (co.ev e1) _ (I3.hok.fresh (Nat.le_refl _))⟩;rw [List.length_reverse];exact hz
 | _=>cases q
noncomputable def lenD:List D->MH->Option (D×MH)
 | [.str z],mh=>if z.length<=sizeLine then some (.int z.length,mh) else none
 | [x],mh=>match seqD x mh with | some ds=>some (.int ds.length,mh) | none=>none
 | _,_=>none
theorem rds1 {K:PySem.W.Frag}{H:Hp}{ρ:List Addr}{d:D}{xs:List V}(h:RDs K H ρ [d] xs):∃ v,xs=[v]/\RD K H ρ d v:=by
 cases h with
 | cons r t=>cases t;exact ⟨_,rfl,r⟩
theorem call_lenD:CallR X (.builtin "len") (rDs X.K lenD):=by
 refine CallR_imp (call_len_seq.or call_len_str) ?_;rintro xs H Q ⟨ρ,mh,ds,d,mh',q,rs,r,co⟩
 match ds,q with
 | [x],q =>
  obtain ⟨v,rfl,rx⟩:=rds1 r;have seq:(match seqD x mh with | some ds=>some (D.int ds.length,mh) | none=>none)=some (d,mh')->∃ p ys,[v]=[.ref p]/\(SqL X.K H p ys\/SqT X.K H p ys)/\Q (.int ys.length) H:=fun q=>by
   split at q
   ·rename_i ds e1;cases q;obtain ⟨p,ys,rfl,hq,r⟩:=seqD_ok rs rx e1;exact ⟨p,ys,rfl,hq,by rw [← r.length];exact co H ρ _ Ev.refl rs (.int _)⟩
   ·cases q
  cases rx with
  | str z =>
   have q:(if z.length<=sizeLine then some (D.int z.length,mh) else none)=some (d,mh'):=q;split at q
   ·rename_i hz;cases q;exact .inr ⟨z,rfl,hz,co H ρ _ Ev.refl rs (.int _)⟩
   ·cases q
  | non=>exact .inl (seq q)
  | bl b=>exact .inl (seq q)
  | int i=>exact .inl (seq q)
  | tup s r=>exact .inl (seq q)
  | ref h=>exact .inl (seq q)
  | rol s r=>exact .inl (seq q)
  | obj n s l r=>exact .inl (seq q)
  | fn h=>exact .inl (seq q)
  | lam h=>exact .inl (seq q)
 | [],q=>cases q
 | _::_::_,q=>simp [lenD] at q
noncomputable def listD:List D->MH->Option (D×MH)
 | [x],mh=>match seqD x mh with | some ds=>some (.ref mh.length,mh++[.lst ds]) | none=>none
 | _,_=>none
theorem call_listD:CallR X (.type "list") (rDs X.K listD):=by
 refine CallR_imp call_list_of ?_;rintro xs H Q ⟨ρ,mh,ds,d,mh',q,rs,r,co⟩
 match ds,q with
 | [x],q =>
  obtain ⟨v,rfl,rx⟩:=rds1 r;have q:(match seqD x mh with | some ds=>some (D.ref mh.length,mh++[.lst ds]) | none=>none)=some (d,mh'):=q;split at q
  ·rename_i ds e1;cases q;obtain ⟨p,ys,rfl,hq,r⟩:=seqD_ok rs rx e1;exact ⟨p,ys,rfl,hq,Co.newL rs r co⟩
  ·cases q
 | [],q=>cases q
 | _::_::_,q=>cases q
noncomputable def tupleD:List D->MH->Option (D×MH)
 | [x],mh=>match seqD x mh with | some ds=>some (.tup ds,mh) | none=>none
 | _,_=>none
theorem call_tupleD:CallR X (.type "tuple") (rDs X.K tupleD):=by
 refine CallR_imp call_tuple_of ?_;rintro xs H Q ⟨ρ,mh,ds,d,mh',q,rs,r,co⟩
 match ds,q with
 | [x],q =>
  obtain ⟨v,rfl,rx⟩:=rds1 r;have q:(match seqD x mh with | some ds=>some (D.tup ds,mh) | none=>none)=some (d,mh'):=q;split at q
  ·rename_i ds e1;cases q;obtain ⟨p,ys,rfl,hq,r⟩:=seqD_ok rs rx e1;rcases hq with hq|hq
   ·exact ⟨p,ys,rfl,.inl ⟨hq,Co.newT rs r co⟩⟩
   ·exact ⟨p,ys,rfl,.inr ⟨hq,co H ρ _ Ev.refl rs (.tup hq r)⟩⟩
  ·cases q
 | [],q=>cases q
 | _::_::_,q=>cases q
noncomputable def tyName:D->MH->Option String
 | .non,_=>some "NoneType"
 | .bl _,_=>some "bool"
 | .int _,_=>some "int"
 | .str _,_=>some "str"
 | .tup _,_=>some "tuple"
 | .ref n,mh=>match mh[n]? with | some (.lst _)=>some "list" | _=>none
 | .rol _,_=>some "list"
 | .obj ..,_=>none
 | .fn _,_=>none
 | .lam,_=>none
noncomputable def isiB (t c:String):Option Bool :=
 if t==c then some true else
 if ["NoneType", "bool", "int", "str", "tuple", "list"].contains t&&["bool", "int", "str", "tuple", "list", "dict"].contains c then some (t == "bool"&&c == "int") else none
end
inductive Src where
 | seq (ds:List D) | lref (n:Nat) | enum (s:Src) | zip (s t:Src)
noncomputable def enumL:Nat->List D->List D
 | _,[]=>[]
 | i,d::r=>.tup [.int i,d]::enumL (i+1) r
noncomputable def Src.items:Src->MH->List D
 | .seq ds,_=>ds
 | .lref n,mh=>match mh[n]? with | some (.lst o)=>o | _=>[]
 | .enum s,mh=>enumL 0 (s.items mh)
 | .zip s t,mh=>List.zipWith (fun a b=>.tup [a,b]) (s.items mh) (t.items mh)
noncomputable def Src.ok:Src->MH->Bool
 | .seq _,_=>true
 | .lref n,mh=>match mh[n]? with | some (.lst _)=>true | _=>false
 | .enum s,mh=>s.ok mh
 | .zip s t,mh=>s.ok mh&&t.ok mh
noncomputable def Src.get (s:Src) (mh:MH) (i:Nat):Option D:=(s.items mh)[i]?
noncomputable def Src.stop (s:Src) (mh:MH) (i:Nat):Bool:=s.ok mh&&decide ((s.items mh).length<=i)
structure JR (K:PySem.W.Frag) (H0:Hp) (ρ0:List Addr) (src:Src) (J:It):Prop where
 go:∀ H ρ mh i d,Ev K H0 ρ0 H ρ->RS K H ρ mh->src.get mh i=some d->J.go i H/\∀ x H',J.yld i H x H'->Ev K H ρ H' ρ/\RS K H' ρ mh/\RD K H' ρ d x
 stop:∀ H ρ mh i,Ev K H0 ρ0 H ρ->RS K H ρ mh->src.stop mh i=true->J.stop i H
noncomputable def tDI (K:PySem.W.Frag) (loc:Loc) (mh:MH) (r:Option (Src×MH)):TI:=fun σ H R=>∃ ρ src mh',r=some (src,mh')/\RL K H ρ loc σ/\RS K H ρ mh/\∀ H' ρ' J,Ev K H ρ H' ρ'->RS K H' ρ' mh'->JR K H' ρ' src J->R J H'
noncomputable def DI (X:Cx) (tg iter:Expr) (m:DM Src):Prop:=∀ loc mh,PI X tg iter (tDI X.K loc mh (m loc mh))
theorem PI_imp {X:Cx}{tg e:Expr}{t t':TI}(h:PI X tg e t) (i:∀ σ H R,t' σ H R->t σ H R):PI X tg e t':=fun pins s σ H R I q=>h pins s σ H R I (i σ H R q)
theorem PI_none {X:Cx}{tg e:Expr}{loc:Loc}{mh:MH}:PI X tg e (tDI X.K loc mh none):=fun _ _ _ _ _ _ h=>by obtain ⟨_,_,_,e,_⟩:=h;cases e
section
variable {X:Cx}{tg:Expr}
theorem JR.tup {K:PySem.W.Frag}{H0:Hp}{ρ0:List Addr}{ds:List D}{a:Addr}{xs:List V}(s:SqT K H0 a xs) (r:RDs K H0 ρ0 ds xs):JR K H0 ρ0 (.seq ds) (Itt K a) where
 go:=fun H ρ mh i d e rs q=>by
  obtain ⟨v,e1,r1⟩:=(r.mono e).get q;refine ⟨⟨xs,v,e.tup _ _ s,e1⟩,?_⟩;rintro x H' ⟨h1,h2⟩;subst h1;have:=h2 xs (e.tup _ _ s);rw [e1] at this;cases this;exact ⟨Ev.refl,rs,r1⟩
 stop:=fun H ρ mh i e rs q=>by
  refine ⟨xs,e.tup _ _ s,?_⟩;rw [← r.length];have q:(true&&decide (ds.length<=i))=true:=q;rw [Bool.true_and] at q;exact of_decide_eq_true q
theorem JR.lst {K:PySem.W.Frag}{H0:Hp}{ρ0:List Addr}{n:Nat}{a:Addr}(h:ρ0[n]?=some a):JR K H0 ρ0 (.lref n) (Itl K a) where
 go:=fun H ρ mh i d e rs q=>by
  unfold Src.get Src.items at q;cases eo:mh[n]? with
  | none=>simp only [eo] at q;simp at q
  | some ob =>
   cases ob with
   | dct kvs=>simp only [eo] at q;simp at q
   | plc=>simp only [eo] at q;simp at q
   | lst o =>
   simp only [eo] at q;obtain ⟨a',ha,ro⟩:=rs.at eo;rw [e.at h] at ha;cases ha;obtain ⟨xs,sq,r⟩:=ro.read;obtain ⟨v,e1,r1⟩:=r.get q;refine ⟨⟨xs,v,sq,e1⟩,?_⟩;rintro x H' ⟨h1,h2⟩;subst h1;have:=h2 xs sq;rw [e1] at this;cases this;exact ⟨Ev.refl,rs,r1⟩
 stop:=fun H ρ mh i e rs q=>by
  unfold Src.stop Src.ok Src.items at q;cases eo:mh[n]? with
  | none=>simp only [eo] at q;simp at q
  | some ob =>
   cases ob with
   | dct kvs=>simp only [eo] at q;simp at q
   | plc=>simp only [eo] at q;simp at q
   | lst o =>
   simp only [eo] at q;obtain ⟨a',ha,ro⟩:=rs.at eo;rw [e.at h] at ha;cases ha;obtain ⟨xs,sq,r⟩:=ro.read;exact ⟨xs,sq,by rw [← r.length];simpa using q⟩
theorem JR.rol {K:PySem.W.Frag}{H0:Hp}{ρ0:List Addr}{ds:List D}{a:Addr}{xs:List V}(s:PermL K H0 a xs) (r:RDs K H0 ρ0 ds xs):JR K H0 ρ0 (.seq ds) (Itl K a) where
 go:=fun H ρ mh i d e rs q=>by
  obtain ⟨v,e1,r1⟩:=(r.mono e).get q;have sq:=(e.perm _ _ s).sq;refine ⟨⟨xs,v,sq,e1⟩,?_⟩;rintro x H' ⟨h1,h2⟩;subst h1;have:=h2 xs sq;rw [e1] at this;cases this;exact ⟨Ev.refl,rs,r1⟩
 stop:=fun H ρ mh i e rs q=>by
  refine ⟨xs,(e.perm _ _ s).sq,?_⟩;rw [← r.length];have q:(true&&decide (ds.length<=i))=true:=q;rw [Bool.true_and] at q;exact of_decide_eq_true q
noncomputable def rangeL (lo:Int) (n:Nat):List D:=(List.range n).map fun (k:Nat)=>D.int (lo+(k:Int))
theorem JR.rng {K:PySem.W.Frag}{H0:Hp}{ρ0:List Addr}{lo:Int}{n:Nat}:JR K H0 ρ0 (.seq (rangeL lo n)) (Itr lo n) where
 go:=fun H ρ mh i d e rs q=>by
  have q:(rangeL lo n)[i]?=some d:=q;unfold rangeL at q;rw [List.getElem?_map] at q
  by_cases hi:i < n
  ·rw [List.getElem?_range hi] at q;cases q;refine ⟨hi,?_⟩;rintro x H' ⟨h1,h2⟩;subst h1;subst h2;exact ⟨Ev.refl,rs,.int _⟩
  ·rw [List.getElem?_eq_none (by simp;omega)] at q;cases q
 stop:=fun H ρ mh i e rs q=>by
  show n<=i;have q:(true&&decide ((rangeL lo n).length<=i))=true:=q;rw [Bool.true_and] at q;have:=of_decide_eq_true q;unfold rangeL at this
  simpa using this
noncomputable def srcOf:D->MH->Option Src
 | .tup ds,_=>some (.seq ds)
 | .ref n,mh=>match mh[n]? with | some (.lst _)=>some (.lref n) | _=>none
 | .rol ds,_=>some (.seq ds)
 | _,_=>none
noncomputable def srcM (ma:DM D):DM Src:=ma.bnd fun x=>fun _ mh=>match srcOf x mh with | some s=>some (s,mh) | none=>none
theorem di_val {a:Expr}{ma:DM D}(ha:DE X a ma):DI X tg a (srcM ma):=fun loc mh=>by
 cases ea:ma loc mh with
 | none =>
  have:srcM ma loc mh=none:=by unfold srcM DM.bnd;rw [ea]
  rw [this];exact PI_none
 | some p =>
  obtain ⟨x,m1⟩:=p;have eq:srcM ma loc mh=(match srcOf x m1 with | some s=>some (s,m1) | none=>none):=by unfold srcM DM.bnd;rw [ea]
  rw [eq];cases x with
  | tup ds =>
   rintro pins s σ H R I ⟨ρ,src,mh',q,rl,rs,co⟩;cases q;refine pi_tup (ha loc mh) pins s σ H R I ⟨ρ,_,_,ea,rl,rs,fun H1 ρ1 v e1 rs1 r1=>?_⟩;cases r1 with
   | tup s r=>exact ⟨_,rfl,⟨_,s⟩,co H1 ρ1 _ e1 rs1 (JR.tup s r)⟩
  | ref n =>
   rintro pins s σ H R I ⟨ρ,src,mh',q,rl,rs,co⟩;cases eo:m1[n]? with
   | none=>simp only [srcOf,eo] at q;cases q
   | some ob =>
    cases ob with
    | dct kvs=>simp only [srcOf,eo] at q;cases q
    | plc=>simp only [srcOf,eo] at q;cases q
    | lst o =>
    simp only [srcOf,eo] at q;cases q;refine pi_list (ha loc mh) pins s σ H R I ⟨ρ,_,_,ea,rl,rs,fun H1 ρ1 v e1 rs1 r1=>?_⟩;cases r1 with
    | @ref _ a' h =>
     obtain ⟨a2,ha2,ro⟩:=rs1.at eo;rw [h] at ha2;cases ha2;obtain ⟨xs,sq,r⟩:=ro.read;exact ⟨_,rfl,⟨xs,sq⟩,co H1 ρ1 _ e1 rs1 (JR.lst h)⟩
  | rol ds =>
   rintro pins s σ H R I ⟨ρ,src,mh',q,rl,rs,co⟩;cases q;refine pi_list (ha loc mh) pins s σ H R I ⟨ρ,_,_,ea,rl,rs,fun H1 ρ1 v e1 rs1 r1=>?_⟩;cases r1 with
   | rol s r=>exact ⟨_,rfl,⟨_,s.sq⟩,co H1 ρ1 _ e1 rs1 (JR.rol s r)⟩
  | non=>exact PI_none
  | bl b=>exact PI_none
  | int i=>exact PI_none
  | str z=>exact PI_none
  | obj c ks ds=>exact PI_none
  | fn x=>exact PI_none
  | lam=>exact PI_none
noncomputable def rng1 (ds:List D):Option Src:=match ds with
 | [.int j]=>if -(2 ^ 62)<=j/\j < 2 ^ 62 then some (.seq (rangeL 0 j.toNat)) else none
 | _=>none
theorem rng1_some {ds:List D}{s:Src}(h:rng1 ds=some s):∃ j,ds=[.int j]/\-(2 ^ 62)<=j/\j < 2 ^ 62/\s=.seq (rangeL 0 j.toNat):=by
 unfold rng1 at h;split at h
 ·rename_i j;split at h
  ·rename_i hj;cases h;exact ⟨j,rfl,hj.1,hj.2,rfl⟩
  ·cases h
 ·cases h
noncomputable def rngM (f:List D->Option Src) (mr:DM (List D)):DM Src:=mr.bnd fun ds=>match f ds with | some s=>Zr s | none=>Zb
theorem rngM_some {f:List D->Option Src}{mr:DM (List D)}{loc:Loc}{mh:MH}{r:Src×MH}(h:rngM f mr loc mh=some r):∃ ds,mr loc mh=some (ds,r.2)/\f ds=some r.1:=by
 obtain ⟨ds,m1,ea,q⟩:=bnd_some h;cases e:f ds with
 | none=>rw [e] at q;cases q
 | some s=>rw [e] at q;cases q;exact ⟨ds,ea,e⟩
theorem rds2 {K:PySem.W.Frag}{H:Hp}{ρ:List Addr}{d e:D}{xs:List V}(h:RDs K H ρ [d,e] xs):∃ v u,xs=[v,u]/\RD K H ρ d v/\RD K H ρ e u:=by
 cases h with
 | cons r t =>
  cases t with
  | cons r2 t=>cases t;exact ⟨_,_,rfl,r,r2⟩
theorem di_range1 {a:Expr}{mr:DM (List D)}{p pos:Pos}(hg:Gl X "range") (hm:X.mg "range"=none) (ha:DA X [a] mr) (hs:starEach [a] X.env=[(false,eval a X.env)]):DI X tg (.Call (.Name "range" p) [a] [] pos) (rngM rng1 mr):=fun loc mh=>by
 refine PI_imp (pi_range1 hg hm (ha loc mh) hs) ?_;rintro σ H R ⟨ρ,src,mh',q,rl,rs,co⟩;obtain ⟨ds,ea,q⟩:=rngM_some q;refine ⟨ρ,ds,mh',ea,rl,rs,fun H1 ρ1 vs e1 rs1 r1=>?_⟩;obtain ⟨j,rfl,h1,h2,e⟩:=rng1_some q;obtain ⟨v,rfl,rv⟩:=rds1 r1;cases rv;have e:src=.seq (rangeL 0 j.toNat):=e;subst e;exact ⟨j,rfl,h1,h2,co H1 ρ1 _ e1 rs1 JR.rng⟩
end
inductive Fl where
 | nx | bk | ct | rt (d:D)
noncomputable abbrev SM:=Loc->MH->Option (Fl×Loc×MH)
noncomputable def CoS (K:PySem.W.Frag) (H:Hp) (ρ:List Addr) (f:Fl) (loc':Loc) (mh':MH) (N:Ends):Prop:=match f with
 | .nx=>∀ H' ρ' σ',Ev K H ρ H' ρ'->RS K H' ρ' mh'->RL K H' ρ' loc' σ'->N.nx σ' H'
 | .bk=>∀ H' ρ' σ',Ev K H ρ H' ρ'->RS K H' ρ' mh'->RL K H' ρ' loc' σ'->N.bk σ' H'
 | .ct=>∀ H' ρ' σ',Ev K H ρ H' ρ'->RS K H' ρ' mh'->RL K H' ρ' loc' σ'->N.ct σ' H'
 | .rt d=>∀ H' ρ' v,Ev K H ρ H' ρ'->RS K H' ρ' mh'->RD K H' ρ' d v->N.rt v H'
theorem CoS.ev {K:PySem.W.Frag}{H H1:Hp}{ρ ρ1:List Addr}{f:Fl}{loc':Loc}{mh':MH}{N:Ends}(e:Ev K H ρ H1 ρ1) (c:CoS K H ρ f loc' mh' N):CoS K H1 ρ1 f loc' mh' N:=by
 cases f with
 | nx=>exact fun H' ρ' σ' e' rs r=>c H' ρ' σ' (e.trans e') rs r
 | bk=>exact fun H' ρ' σ' e' rs r=>c H' ρ' σ' (e.trans e') rs r
 | ct=>exact fun H' ρ' σ' e' rs r=>c H' ρ' σ' (e.trans e') rs r
 | rt d=>exact fun H' ρ' σ' e' rs r=>c H' ρ' σ' (e.trans e') rs r
noncomputable def tS (K:PySem.W.Frag) (m:SM):TS:=fun N σ H=>∃ loc mh ρ f loc' mh',m loc mh=some (f,loc',mh')/\RL K H ρ loc σ/\RS K H ρ mh/\CoS K H ρ f loc' mh' N
noncomputable def DS (X:Cx) (st:Stmt) (m:SM):Prop:=PS X st (tS X.K m)
noncomputable def DSs (X:Cx) (sts:List Stmt) (m:SM):Prop:=PSs X sts (tS X.K m)
theorem PS_imp {X:Cx}{st:Stmt}{t t':TS}(h:PS X st t) (i:∀ N σ H,t' N σ H->t N σ H):PS X st t':=fun pins s σ H N I q=>h pins s σ H N I (i N σ H q)
theorem PSs_imp {X:Cx}{st:List Stmt}{t t':TS}(h:PSs X st t) (i:∀ N σ H,t' N σ H->t N σ H):PSs X st t':=fun pins s σ H N I q=>h pins s σ H N I (i N σ H q)
noncomputable def SM.bad:SM:=fun _ _=>none
theorem ds_bad {X:Cx}{st:Stmt}:DS X st SM.bad:=fun _ _ _ _ _ _ h=>by obtain ⟨_,_,_,_,_,_,e,_⟩:=h;cases e
noncomputable def tDx (K:PySem.W.Frag) (m:DM D):TE:=fun σ H Q=>∃ loc mh,tD K loc mh (m loc mh) σ H Q
noncomputable def tTx (K:PySem.W.Frag) (m:DM Bool):TT:=fun σ H Q=>∃ loc mh,tDT K loc mh (m loc mh) σ H Q
noncomputable def tIx (K:PySem.W.Frag) (m:DM Src):TI:=fun σ H R=>∃ loc mh,tDI K loc mh (m loc mh) σ H R
theorem DE.x {X:Cx}{e:Expr}{m:DM D}(h:DE X e m):PE X e (tDx X.K m):=fun pins s σ H Q I ⟨loc,mh,q⟩=>h loc mh pins s σ H Q I q
theorem DT.x {X:Cx}{e:Expr}{m:DM Bool}(h:DT X e m):PT X e (tTx X.K m):=fun pins s σ H Q I ⟨loc,mh,q⟩=>h loc mh pins s σ H Q I q
theorem DI.x {X:Cx}{tg e:Expr}{m:DM Src}(h:DI X tg e m):PI X tg e (tIx X.K m):=fun pins s σ H Q I ⟨loc,mh,q⟩=>h loc mh pins s σ H Q I q
section
variable {X:Cx}{st:Stmt}{sts:List Stmt}{m m1 m2:SM}{e:Expr}{me:DM D}{pos:Pos}
noncomputable def Zn:SM:=fun loc mh=>some (.nx,loc,mh)
noncomputable def seqS (m1 m2:SM):SM:=fun loc mh=>match m1 loc mh with
 | some (.nx,l,h)=>m2 l h
 | r=>r
theorem dss_nil:DSs X [] Zn:=by
 refine PSs_imp pss_nil ?_;rintro N σ H ⟨loc,mh,ρ,f,loc',mh',q,rl,rs,co⟩;cases q;exact co H ρ σ Ev.refl rs rl
theorem dss_cons (h1:DS X st m1) (h2:DSs X sts m2):DSs X (st::sts) (seqS m1 m2):=by
 refine PSs_imp (pss_cons h1 h2) ?_;rintro N σ H ⟨loc,mh,ρ,f,loc',mh',q,rl,rs,co⟩;unfold seqS at q;split at q
 ·rename_i l h e1;exact ⟨loc,mh,ρ,.nx,l,h,e1,rl,rs,fun H1 ρ1 σ1 ev1 rs1 rl1=>⟨l,h,ρ1,f,loc',mh',q,rl1,rs1,co.ev ev1⟩⟩
 ·rename_i r hne;refine ⟨loc,mh,ρ,f,loc',mh',q,rl,rs,?_⟩;cases f with
  | nx=>exact absurd q (hne _ _)
  | bk=>exact co
  | ct=>exact co
  | rt d=>exact co
theorem ds_pass:DS X (.Pass pos) Zn:=by
 refine PS_imp ps_pass ?_;rintro N σ H ⟨loc,mh,ρ,f,loc',mh',q,rl,rs,co⟩;cases q;exact co H ρ σ Ev.refl rs rl
theorem ds_break:DS X (.Break pos) (fun loc mh=>some (.bk,loc,mh)):=by
 refine PS_imp ps_break ?_;rintro N σ H ⟨loc,mh,ρ,f,loc',mh',q,rl,rs,co⟩;cases q;exact co H ρ σ Ev.refl rs rl
theorem ds_continue:DS X (.Continue pos) (fun loc mh=>some (.ct,loc,mh)):=by
 refine PS_imp ps_continue ?_;rintro N σ H ⟨loc,mh,ρ,f,loc',mh',q,rl,rs,co⟩;cases q;exact co H ρ σ Ev.refl rs rl
noncomputable def retS (me:DM D):SM:=fun loc mh=>match me loc mh with | some (d,mh')=>some (.rt d,loc,mh') | none=>none
theorem ds_ret (he:DE X e me):DS X (.Return (some e) pos) (retS me):=by
 refine PS_imp (ps_ret he.x) ?_;rintro N σ H ⟨loc,mh,ρ,f,loc',mh',q,rl,rs,co⟩;unfold retS at q;split at q
 ·rename_i d h1 ee;cases q;exact ⟨loc,mh,ρ,d,_,ee,rl,rs,co⟩
 ·cases q
theorem ds_retN:DS X (.Return none pos) (fun loc mh=>some (.rt .non,loc,mh)):=by
 refine PS_imp ps_retN ?_;rintro N σ H ⟨loc,mh,ρ,f,loc',mh',q,rl,rs,co⟩;cases q;exact co H ρ _ Ev.refl rs .non
noncomputable def dropS (me:DM D):SM:=fun loc mh=>match me loc mh with | some (_,mh')=>some (.nx,loc,mh') | none=>none
theorem ds_expr (he:DE X e me) (hs:swapsWith e none pos.line X.env=pure false):DS X (.Expr e pos) (dropS me):=by
 refine PS_imp (ps_expr he.x hs) ?_;rintro N σ H ⟨loc,mh,ρ,f,loc',mh',q,rl,rs,co⟩;unfold dropS at q;split at q
 ·rename_i d h1 ee;cases q;exact ⟨loc,mh,ρ,d,_,ee,rl,rs,fun H' ρ' v e' rs' r'=>co H' ρ' σ e' rs' (rl.mono e')⟩
 ·cases q
noncomputable def ifS (t:DM Bool) (m1 m2:SM):SM:=fun loc mh=>match t loc mh with
 | some (k,h)=>if k=true then m1 loc h else m2 loc h
 | none=>none
theorem ds_if {c:Expr}{a b:List Stmt}{t:DM Bool}(hc:DT X c t) (ha:DSs X a m1) (hb:DSs X b m2):DS X (.If c a b pos) (ifS t m1 m2):=by
 refine PS_imp (ps_if hc.x ha hb) ?_;rintro N σ H ⟨loc,mh,ρ,f,loc',mh',q,rl,rs,co⟩;unfold ifS at q;split at q
 ·rename_i k h ek;refine ⟨loc,mh,ρ,k,h,ek,rl,rs,fun H1 ρ1 e1 rs1=>?_⟩;cases k with
  | true=>exact iteT ⟨loc,h,ρ1,f,loc',mh',by rw [if_pos rfl] at q;exact q,rl.mono e1,rs1,co.ev e1⟩
  | false=>exact iteF ⟨loc,h,ρ1,f,loc',mh',by rw [if_neg Bool.false_ne_true] at q;exact q,rl.mono e1,rs1,co.ev e1⟩
 ·cases q
noncomputable abbrev GM:=D->Loc->MH->Option (Loc×MH)
noncomputable def KeptBut (ws:List Nat) (σ σ':St):Prop:=σ'.length=σ.length/\∀ i,i ∉ ws->σ'[i]?=σ[i]?
noncomputable def tG (K:PySem.W.Frag) (ws:List Nat) (g:GM):TG:=fun v σ H Q=>∃ d loc mh ρ loc' mh',g d loc mh=some (loc',mh')/\RL K H ρ loc σ/\RS K H ρ mh/\RD K H ρ d v /\
 ∀ H' ρ' σ',Ev K H ρ H' ρ'->RS K H' ρ' mh'->RL K H' ρ' loc' σ'->KeptBut ws σ σ'->Q σ' H'
noncomputable def DG (X:Cx) (tg:Expr) (ws:List Nat) (g:GM):Prop:=PG X tg (tG X.K ws g)
theorem PG_imp {tg:Expr}{t t':TG}(h:PG X tg t) (i:∀ v σ H Q,t' v σ H Q->t v σ H Q):PG X tg t':=fun pins s σ H v u Q I r q=>h pins s σ H v u Q I r (i v σ H Q q)
noncomputable def gSet (i:Nat):GM:=fun d loc mh=>some (loc.set i (some d),mh)
theorem KeptBut.set {σ:St}{i:Nat}{o:Option V}:KeptBut [i] σ (σ.set i o):=⟨List.length_set,fun j hj=>List.getElem?_set_ne (fun e=>hj (by simp [e]))⟩
theorem dg_name {i:Nat}{x:Str}(hN:X.N.Nodup) (hi:X.N[i]?=some x) (hx:L2.Loc X.env.scope x) (hf:X.fn x=true\/X.env.scope.names.lookup x=some .local):DG X (.Name x pos) [i] (gSet i):=by
 refine PG_imp (pg_name hN hi hx hf) ?_;rintro v σ H Q ⟨d,loc,mh,ρ,loc',mh',q,rl,rs,r,co⟩;cases q;exact co H ρ _ Ev.refl rs (rl.set r) KeptBut.set
noncomputable def setAll:List Nat->List D->Loc->Loc
 | i::is,d::ds,loc=>setAll is ds (loc.set i (some d))
 | _,_,loc=>loc
noncomputable def setAllV:List Nat->List V->St->St
 | i::is,d::ds,loc=>setAllV is ds (loc.set i (some d))
 | _,_,loc=>loc
noncomputable def gNs:List Nat->TGs
 | []=>gNil
 | i::is=>gCons (gName i) (gNs is)
theorem gNs_of:∀ (is:List Nat) (vs:List V) (σ:St) (H:Hp) (Q:St->Hp->Prop),vs.length=is.length->Q (setAllV is vs σ) H->gNs is vs σ H Q
 | [],[],_,_,_,_,q=>⟨rfl,q⟩
 | [],_::_,_,_,_,h,_=>by simp at h
 | _::_,[],_,_,_,h,_=>by simp at h
 | i::is,v::vs,σ,H,Q,h,q=>⟨v,vs,rfl,gNs_of is vs _ H Q (by simpa using h) q⟩
theorem setAll_rl {K:PySem.W.Frag}{H:Hp}{ρ:List Addr}:∀ (is:List Nat) {ds:List D}{vs:List V}{loc:Loc}{σ:St},RDs K H ρ ds vs->RL K H ρ loc σ->RL K H ρ (setAll is ds loc) (setAllV is vs σ)
 | [],_,_,_,_,.nil,rl=>rl
 | [],_,_,_,_,.cons _ _,rl=>rl
 | _::_,_,_,_,_,.nil,rl=>rl
 | i::is,_,_,_,_,.cons r t,rl=>setAll_rl is t (rl.set r)
theorem setAll_kept:∀ (is:List Nat) (vs:List V) (σ:St),KeptBut is σ (setAllV is vs σ)
 | [],[],_=>⟨rfl,fun _ _=>rfl⟩
 | [],_::_,_=>⟨rfl,fun _ _=>rfl⟩
 | _::_,[],_=>⟨rfl,fun _ _=>rfl⟩
 | i::is,v::vs,σ=>by
  obtain ⟨h1,h2⟩:=setAll_kept is vs (σ.set i (some v));refine ⟨h1.trans List.length_set,fun j hj=>?_⟩;have hj':¬ (j=i)/\j ∉ is:=by simpa using hj
  show (setAllV is vs (σ.set i (some v)))[j]?=σ[j]?;rw [h2 j hj'.2,List.getElem?_set_ne (fun e=>hj'.1 e.symm)]
noncomputable def gTupD (is:List Nat):GM:=fun d loc mh=>match d with
 | .tup ds=>if ds.length=is.length then some (setAll is ds loc,mh) else none
 | _=>none
theorem dg_tup {es:List Expr}{k:Nat}{is:List Nat}(hc:X.calm=true) (h:PGs X es (gNs is)) (hn:(assignEach es X.env).length=is.length) (hst:(assignEach es X.env).findIdx? (·.1)=none):DG X (.Tuple es k pos) is (gTupD is):=by
 refine PG_imp (pg_tup hc h hn hst) ?_;rintro v σ H Q ⟨d,loc,mh,ρ,loc',mh',q,rl,rs,r,co⟩;cases r with
 | @tup ds a xs s r =>
  have q:(if ds.length=is.length then some (setAll is ds loc,mh) else none)=some (loc',mh'):=q;split at q
  ·rename_i hl;cases q;exact ⟨a,xs,rfl,s,by rw [← r.length];exact hl,gNs_of is xs σ H Q (by rw [← r.length];exact hl) (co H ρ _ Ev.refl rs (setAll_rl is r rl) (setAll_kept is xs σ))⟩
  ·cases q
 | _=>cases q
noncomputable def setIx (o i v:D) (mh:MH):Option MH:=match o,i with
 | .ref n,.int k=>match mh[n]? with
  | some (.lst ds)=>match ixN ds.length k with
   | some j=>some (mh.set n (.lst (ds.set j v)))
   | none=>none
  | _=>none
 | _,_=>none
noncomputable def gSubD (mo mi:DM D):GM:=fun v loc mh=>match mo loc mh with
 | some (o,m1)=>match mi loc m1 with
  | some (i,m2)=>match setIx o i v m2 with
   | some m3=>some (loc,m3)
   | none=>none
  | none=>none
 | none=>none
theorem dg_sub {o i:Expr}{mo mi:DM D}(ho:DE X o mo) (hi:DE X i mi) (ha:∀ v,assign (.Subscript o i pos) X.env v=(do
      let ov ← holding [v] (eval o X.env)
      let iv ← holding [v,ov] (eval i X.env)
      standAt pos
      holding [v,ov,iv] (setItem ov iv v)
      release [v,ov,iv] [])):DG X (.Subscript o i pos) [] (gSubD mo mi):=by
  refine PG_imp (pg_sub ho.x hi.x set_list ha) ?_;rintro v σ H Q ⟨d,loc,mh,ρ,loc',mh',q,rl,rs,r,co⟩;unfold gSubD at q;split at q
  · rename_i od m1 eo;split at q
    · rename_i idx m2 ei;split at q
      · rename_i m3 es;cases q;refine ⟨loc,mh,ρ,od,m1,eo,rl,rs,fun H1 ρ1 v1 e1 rs1 r1=>⟨loc,m1,ρ1,idx,m2,ei,rl.mono e1,rs1,fun H2 ρ2 v2 e2 rs2 r2=>?_⟩⟩;have r1':=r1.mono e2;have r':=(r.mono e1).mono e2;cases r1' with
        | @ref n a hn =>
          cases r2 with
          | int k =>
            have es:(match m2[n]? with | some (.lst ds)=>(match ixN ds.length k with | some j=>some (m2.set n (.lst (ds.set j d))) | none=>none) | _=>none)=some mh':=es;split at es
            · rename_i ds em;split at es
              · rename_i j ej;cases es;obtain ⟨a',ha',xs,hx,rx⟩:=rs2.at em;rw [hn] at ha';cases ha';refine ⟨a,xs,k,j,rfl,rfl,hx,by rw [← rx.length];exact ej,?_⟩;exact co _ ρ2 σ ((e1.trans e2).trans (Ev.lst hx)) (rs2.setL hn hx (rx.set r' j)) (((rl.mono e1).mono e2).mono (Ev.lst hx)) ⟨rfl,fun _ _=>rfl⟩
              · cases es
            · cases es
          | _=>cases es
        | _=>cases r2 <;> cases es
      · cases q
    · cases q
  · cases q
noncomputable def asgS (me:DM D) (g:GM):SM:=fun loc mh=>match me loc mh with
 | some (d,h)=>match g d loc h with
  | some (l,h')=>some (.nx,l,h')
  | none=>none
 | none=>none
theorem asgS_imp {ws:List Nat}{g:GM}{N:Ends}{σ:St}{H:Hp}(h:tS X.K (asgS me g) N σ H):tAsg (tDx X.K me) (tG X.K ws g) N σ H:=by
 obtain ⟨loc,mh,ρ,f,loc',mh',q,rl,rs,co⟩:=h;unfold asgS at q;split at q
 ·rename_i d h1 ee;split at q
  ·rename_i l h2 eg;cases q;exact ⟨loc,mh,ρ,d,h1,ee,rl,rs,fun H1 ρ1 v e1 rs1 r1=>⟨d,loc,h1,ρ1,_,_,eg,rl.mono e1,rs1,r1,fun H2 ρ2 σ2 e2 rs2 rl2 _=>co H2 ρ2 σ2 (e1.trans e2) rs2 rl2⟩⟩
  ·cases q
 ·cases q
theorem ds_asg {tg:Expr}{ws:List Nat}{g:GM}(he:DE X e me) (hg:DG X tg ws g) (hs:swapsWithSole [tg] e pos.line X.env=pure false) (hw:swappedStores [tg] e X.env=pure none) (h1:(assignEach [tg] X.env).map (·.2)=[assign tg X.env]):DS X (.Assign [tg] e pos) (asgS me g) :=
 PS_imp (ps_asg he.x hg hs hw h1) fun N σ H h=>asgS_imp h
noncomputable def forD (src:Src) (g:GM) (body:SM):Nat->Nat->SM
 | 0,i,loc,mh=>if src.stop mh i=true then some (.nx,loc,mh) else none
 | k+1,i,loc,mh=>match src.get mh i with
  | none=>if src.stop mh i=true then some (.nx,loc,mh) else none
  | some d=>match g d loc mh with
   | none=>none
   | some (l1,h1)=>match body l1 h1 with
    | some (.nx,l,h)=>forD src g body k (i+1) l h
    | some (.ct,l,h)=>forD src g body k (i+1) l h
    | some (.bk,l,h)=>some (.nx,l,h)
    | some (.rt d,l,h)=>some (.rt d,l,h)
    | none=>none
noncomputable def forS (mi:DM Src) (g:GM) (body:SM):SM:=fun loc mh=>match mi loc mh with
 | some (src,h)=>forD src g body (src.items h).length 0 loc h
 | none=>none
theorem ds_for {tg iter:Expr}{body:List Stmt}{mi:DM Src}{ws:List Nat}{g:GM}{mb:SM}(hp:PassesOwn (model X.prog X.w) X.A X.env X.xe) (hc:X.calm=true) (hi:DI X tg iter mi) (hg:DG X tg ws g) (hb:DSs X body mb)
  (hs:∀ x,foldedSetIterable iter X.env x=pure x):DS X (.For tg iter body [] pos) (forS mi g mb):=by
 refine PS_imp (ps_for hp hc hi.x hg hb hs) ?_;rintro N σ H ⟨loc,mh,ρ,f,loc',mh',q,rl,rs,co⟩;unfold forS at q;split at q
 ·rename_i src h0 ei;refine ⟨loc,mh,ρ,src,h0,ei,rl,rs,fun H1 ρ1 J e1 rs1 jr=>?_⟩
  refine ⟨fun i k σ H=>∃ ρ loc mh f loc' mh',Ev X.K H1 ρ1 H ρ/\RL X.K H ρ loc σ/\RS X.K H ρ mh/\forD src g mb k i loc mh=some (f,loc',mh')/\CoS X.K H ρ f loc' mh' N,
   ⟨_,ρ1,loc,h0,f,loc',mh',Ev.refl,rl.mono e1,rs1,q,co.ev e1⟩,?_⟩
  rintro i k σ H ⟨ρ,loc,mh,f,loc',mh',ev,rl,rs,q,co⟩;have stop:(if src.stop mh i=true then some (Fl.nx,loc,mh) else none)=some (f,loc',mh')->J.stop i H/\N.nx σ H:=fun q=>by
   split at q
   ·rename_i hst;cases q;exact ⟨jr.stop H ρ mh i ev rs hst,co H ρ σ Ev.refl rs rl⟩
   ·cases q
  cases k with
  | zero=>exact .inl (stop q)
  | succ k =>
   simp only [forD] at q;split at q
   ·exact .inl (stop q)
   ·rename_i d ed;obtain ⟨hgo,hyld⟩:=jr.go H ρ mh i d ev rs ed;split at q
    ·cases q
    ·rename_i l1 h1 eg
     refine .inr ⟨hgo,fun σ' H'=>∃ ρ' loc mh f loc' mh',Ev X.K H1 ρ1 H' ρ'/\RL X.K H' ρ' loc σ'/\RS X.K H' ρ' mh/\forD src g mb k (i+1) loc mh=some (f,loc',mh')/\CoS X.K H' ρ' f loc' mh' N,
      fun σ' H' h=>⟨k,Nat.lt_succ_self _,h⟩,fun x H' hy=>?_⟩
     obtain ⟨ev2,rs2,rd2⟩:=hyld x H' hy;refine ⟨d,loc,mh,ρ,l1,h1,eg,rl.mono ev2,rs2,rd2,fun H3 ρ3 σ3 ev3 rs3 rl3 _=>?_⟩;split at q
     ·rename_i l h eb;exact ⟨l1,h1,ρ3,.nx,l,h,eb,rl3,rs3,fun H4 ρ4 σ4 ev4 rs4 rl4=>⟨ρ4,l,h,f,loc',mh',ev.trans (ev2.trans (ev3.trans ev4)),rl4,rs4,q,co.ev (ev2.trans (ev3.trans ev4))⟩⟩
     ·rename_i l h eb;exact ⟨l1,h1,ρ3,.ct,l,h,eb,rl3,rs3,fun H4 ρ4 σ4 ev4 rs4 rl4=>⟨ρ4,l,h,f,loc',mh',ev.trans (ev2.trans (ev3.trans ev4)),rl4,rs4,q,co.ev (ev2.trans (ev3.trans ev4))⟩⟩
     ·rename_i l h eb;cases q;exact ⟨l1,h1,ρ3,.bk,_,_,eb,rl3,rs3,fun H4 ρ4 σ4 ev4 rs4 rl4=>co H4 ρ4 σ4 (ev2.trans (ev3.trans ev4)) rs4 rl4⟩
     ·rename_i d' l h eb;cases q;exact ⟨l1,h1,ρ3,.rt d',_,_,eb,rl3,rs3,fun H4 ρ4 v4 ev4 rs4 r4=>co H4 ρ4 v4 (ev2.trans (ev3.trans ev4)) rs4 r4⟩
     ·cases q
 ·cases q
end
noncomputable def capD (cs:List (Option Nat)) (loc:Loc):Loc:=cs.map fun o=>match o with | some j=>(match loc[j]? with | some d=>d | none=>none) | none=>none
noncomputable def capV (cs:List (Option Nat)) (σ:St):St:=cs.map fun o=>match o with | some j=>(match σ[j]? with | some d=>d | none=>none) | none=>none
theorem cap_rl {K:PySem.W.Frag}{H:Hp}{ρ:List Addr}{loc:Loc}{σ:St}(cs:List (Option Nat)) (h:RL K H ρ loc σ):RL K H ρ (capD cs loc) (capV cs σ):=by
 refine ⟨by unfold capD capV;rw [List.length_map,List.length_map],fun i d e=>?_⟩;unfold capD at e;unfold capV;rw [List.getElem?_map] at e ⊢;cases q:cs[i]? with
 | none=>rw [q] at e;cases e
 | some o =>
  rw [q] at e;cases o with
  | none=>simp at e
  | some j =>
   simp only [Option.map_some,Option.some.injEq] at e;cases ej:loc[j]? with
   | none=>rw [ej] at e;cases e
   | some d' =>
    rw [ej] at e;have e:d'=some d:=e;subst e;obtain ⟨v,e1,r⟩:=h.2 j d ej;exact ⟨v,by simp only [Option.map_some,e1],r⟩
structure CapOk (X:Cx) (N':List Str) (scope:Scope) (cs:List (Option Nat)):Prop where
 len:N'.length=cs.length
 cap:∀ (i:Nat) (x:Str) (j:Nat),N'[i]?=some x->cs[i]?=some (some j)->scope.names.lookup x=some .free/\X.N[j]?=some x
theorem CapOk.to {X:Cx}{N':List Str}{scope:Scope}{cs:List (Option Nat)}(h:CapOk X N' scope cs) (σ:St):Cap X N' scope σ (capV cs σ):=by
 refine ⟨by unfold capV;rw [List.length_map];exact h.len.symm,fun i x v e1 e2=>?_⟩;unfold capV at e2;rw [List.getElem?_map] at e2;cases q:cs[i]? with
 | none=>rw [q] at e2;cases e2
 | some o =>
  rw [q] at e2;cases o with
  | none=>simp at e2
  | some j =>
   obtain ⟨h1,h2⟩:=h.cap i x j e1 q;refine ⟨h1,j,h2,?_⟩;simp only [Option.map_some,Option.some.injEq] at e2;cases ej:σ[j]? with
   | none=>rw [ej] at e2;cases e2
   | some d'=>rw [ej] at e2;have e2:d'=some v:=e2;rw [e2]
theorem kept_of {cs:List (Option Nat)}{ws:List Nat}{σ σ2:St}(hw:∀ i∈ws,∀ j,cs[i]?≠some (some j)) (h:KeptBut ws (capV cs σ) σ2):Kept (capV cs σ) σ2:=by
 refine ⟨h.1,fun i v e=>?_⟩;rw [h.2 i fun hi=>?_]
 ·exact e
 ·unfold capV at e;rw [List.getElem?_map] at e;cases q:cs[i]? with
  | none=>rw [q] at e;cases e
  | some o =>
   cases o with
   | none=>rw [q] at e;simp at e
   | some j=>exact hw i hi j q
noncomputable def compD (src:Src) (g:GM) (tc:DM Bool) (me:DM D) (loc:Loc):Nat->Nat->List D->MH->Option (List D×MH)
 | 0,i,acc,mh=>if src.stop mh i=true then some (acc,mh) else none
 | k+1,i,acc,mh=>match src.get mh i with
  | none=>if src.stop mh i=true then some (acc,mh) else none
  | some d=>match g d loc mh with
   | none=>none
   | some (l1,h1)=>match tc l1 h1 with
    | none=>none
    | some (c,h2)=>if c=true then (match me l1 h2 with
      | some (y,h3)=>if acc.length < sizeLine then compD src g tc me loc k (i+1) (acc++[y]) h3 else none
      | none=>none) else compD src g tc me loc k (i+1) acc h2
noncomputable def compM (mi:DM Src) (cs:List (Option Nat)) (g:GM) (tc:DM Bool) (me:DM D):DM D:=fun loc mh=>match mi loc mh with
 | some (src,h)=>match compD src g tc me (capD cs loc) (src.items h).length 0 [] h with
  | some (ds,h')=>some (.ref h'.length,h'++[.lst ds])
  | none=>none
 | none=>none
section
variable {X:Cx}{N':List Str}{scope:Scope}{cs:List (Option Nat)}{ws:List Nat}{mi:DM Src}{g:GM}{tc:DM Bool}{me:DM D}{elt target iter:Expr}{ifs:List Expr}{pos:Pos}
theorem comp_imp (hcap:CapOk X N' scope cs) (hw:∀ i∈ws,∀ j,cs[i]?≠some (some j)) {σ:St}{H:Hp}{Q:VK}(h:tDx X.K (compM mi cs g tc me) σ H Q) :
  tComp X N' scope (tIx X.K mi) (tG X.K ws g) (tTx X.K tc) (tDx X.K me) σ H Q:=by
 obtain ⟨loc,mh,ρ,d,mh',q,rl,rs,co⟩:=h;unfold compM at q;split at q
 ·rename_i src h0 ei;split at q
  ·rename_i ds h1 ec;cases q;refine ⟨loc,mh,ρ,src,h0,ei,rl,rs,fun H1 ρ1 J e1 rs1 jr=>?_⟩;refine ⟨capV cs σ,hcap.to σ,fun i k acc H=>∃ ρ accD mh,Ev X.K H1 ρ1 H ρ/\RS X.K H ρ mh/\RDs X.K H ρ accD acc/\compD src g tc me (capD cs loc) k i accD mh=some (ds,h1),⟨_,ρ1,[],h0,Ev.refl,rs1,.nil,ec⟩,?_⟩;have co1:=co.ev e1;have rl1:=cap_rl cs (rl.mono e1);rintro i k acc H ⟨ρ,accD,mh,ev,rs,ra,q⟩;have stop:(if src.stop mh i=true then some (accD,mh) else none)=some (ds,h1)->J.stop i H/\∀ p,H p=none->Q (.ref p) (upd H p (.lst acc)):=fun q=>by
    split at q
    ·rename_i hst;cases q;exact ⟨jr.stop H ρ _ i ev rs hst,Co.newL rs ra (co1.ev ev)⟩
    ·cases q
   cases k with
   | zero=>exact .inl (stop q)
   | succ k =>
    simp only [compD] at q;split at q
    ·exact .inl (stop q)
    ·rename_i d ed;obtain ⟨hgo,hyld⟩:=jr.go H ρ mh i d ev rs ed;split at q
     ·cases q
     ·rename_i l1 h2 eg;refine .inr ⟨hgo,fun acc' H'=>∃ ρ accD mh,Ev X.K H1 ρ1 H' ρ/\RS X.K H' ρ mh/\RDs X.K H' ρ accD acc'/\compD src g tc me (capD cs loc) k (i+1) accD mh=some (ds,h1),fun acc' H' h=>⟨k,Nat.lt_succ_self _,h⟩,fun x H' hy=>?_⟩;obtain ⟨ev2,rs2,rd2⟩:=hyld x H' hy;refine ⟨d,capD cs loc,mh,ρ,l1,h2,eg,rl1.mono (ev.trans ev2),rs2,rd2,fun H3 ρ3 σ3 ev3 rs3 rl3 kb=>⟨kept_of hw kb,?_⟩⟩;split at q
      ·cases q
      ·rename_i c h3 et;refine ⟨l1,h2,ρ3,c,h3,et,rl3,rs3,fun H4 ρ4 ev4 rs4=>?_⟩;have evA:=ev2.trans (ev3.trans ev4);cases c with
       | false =>
        rw [if_neg Bool.false_ne_true] at q;exact iteF ⟨ρ4,accD,h3,ev.trans evA,rs4,ra.mono evA,q⟩
       | true =>
        rw [if_pos rfl] at q;split at q
        ·rename_i y h4 ey;split at q
         ·rename_i hz;refine iteT ⟨by rw [← ra.length];exact hz,l1,h3,ρ4,y,h4,ey,rl3.mono ev4,rs4,fun H5 ρ5 v ev5 rs5 r5=>⟨ρ5,accD++[y],h4,ev.trans (evA.trans ev5),rs5,(ra.mono (evA.trans ev5)).append (.cons r5 .nil),q⟩⟩
         ·cases q
        ·cases q
  ·cases q
 ·cases q
noncomputable def DIf (X:Cx) (ifs:List Expr) (m:DM Bool):Prop:=PIf X ifs (tTx X.K m)
theorem dif_nil:DIf X [] (Zr true):=by
 rintro pins s σ H Q I ⟨loc,mh,ρ,b,mh',q,rl,rs,co⟩;cases q;exact pif_nil pins s σ H Q I (co H ρ Ev.refl rs)
theorem dif_one {c:Expr}{m:DM Bool}(h:DT X c m):DIf X [c] m:=pif_one h.x
theorem de_comp (hc:X.calm=true) (S:CompOk X scope) (hcap:CapOk X N' scope cs) (hw:∀ i∈ws,∀ j,cs[i]?≠some (some j)) (hit:DI X target iter mi)
  (hg:∀ pins C cells s₀ H₀ fp,DG (cxComp X pins N' scope C cells s₀ H₀ fp) target ws g)
  (hi:∀ pins C cells s₀ H₀ fp,DIf (cxComp X pins N' scope C cells s₀ H₀ fp) ifs tc)
  (he:∀ pins C cells s₀ H₀ fp,DE (cxComp X pins N' scope C cells s₀ H₀ fp) elt me)
  (hs:∀ x,foldedSetIterable iter X.env x=pure x):DE X (.ListComp elt [⟨target,iter,ifs,0⟩] scope pos) (compM mi cs g tc me):=fun loc mh =>
 PE_imp (pe_comp (N':=N') (g:=tG X.K ws g) (tc:=tTx X.K tc) (te:=tDx X.K me) hc S hit.x (fun p C c s h f=>hg p C c s h f) (fun p C c s h f=>hi p C c s h f) (fun p C c s h f=>(he p C c s h f).x) hs) fun σ H Q h=>comp_imp hcap hw ⟨loc,mh,h⟩
theorem ds_setComp {y:Str}{py spos:Pos}{wy:List Nat}{gy:GM}(hc:X.calm=true) (S:CompOk X scope) (hcap:CapOk X N' scope cs) (hw:∀ i∈ws,∀ j,cs[i]?≠some (some j)) (hit:DI X target iter mi)
  (hg:∀ pins C cells s₀ H₀ fp,DG (cxComp X pins N' scope C cells s₀ H₀ fp) target ws g)
  (hi:∀ pins C cells s₀ H₀ fp,DIf (cxComp X pins N' scope C cells s₀ H₀ fp) ifs tc)
  (he:∀ pins C cells s₀ H₀ fp,DE (cxComp X pins N' scope C cells s₀ H₀ fp) elt me) (hgy:DG X (.Name y py) wy gy)
  (hsw:swapsWith (.ListComp elt [⟨target,iter,ifs,0⟩] scope pos) (some (.Name y py)) spos.line X.env=pure true)
  (hs:∀ x,foldedSetIterable iter X.env x=pure x):DS X (.Assign [.Name y py] (.ListComp elt [⟨target,iter,ifs,0⟩] scope pos) spos) (asgS (compM mi cs g tc me) gy) :=
 PS_imp (ps_setComp (N':=N') (g:=tG X.K ws g) (tc:=tTx X.K tc) (te:=tDx X.K me) hc S hit.x (fun p C c s h f=>hg p C c s h f) (fun p C c s h f=>hi p C c s h f) (fun p C c s h f=>(he p C c s h f).x) hgy hsw hs) fun N σ H h=>comp_imp hcap hw (asgS_imp h)
end
noncomputable def spD (K:PySem.W.Frag) (n:Nat) (f:List D->MH->Option (D×MH)):Sp:=fun vs H Q _=>vs.length=n/\rDs K f vs H Q
section
variable {X:Cx}
theorem de_call {CX:CXT}{k:Nat}{fa:Addr}{fd:FuncData}{ps:List Str}{f:List D->MH->Option (D×MH)}{x:Str}{p pos:Pos}{a:Expr}{es:List Expr}{mr:DM (List D)}{E:XK}
  (F:FnOk X.prog X.w X.K X.mg X.base CX k fa fd ps (spD X.K ps.length f)) (hr:Room k X.A) (hg:Gl X x) (hm:X.mg x=some (.ref fa)) (hk:PySem.W.keepIn X.K (.ref fa)=true) (hb:Binds X.K fd ps []) (hx:Passes CX X E)
  (ha:DA X (a::es) mr) (hf:∀ ds mh r,f ds mh=some r->ds.length=ps.length) (hdb:(x==("__debug__":Str))=false) (he:starEach (a::es) X.env=(false,eval a X.env)::starEach es X.env) (hpl:(backTo pos (starEach es X.env)).any (·.1)=false) :
  DE X (.Call (.Name x p) (a::es) [] pos) (mr.bnd fun ds=>Zl (f ds)):=fun loc mh=>by
 refine PE_imp (pe_call F hr hg hm hk hb .nil hx (ha loc mh) hdb he hpl) ?_;rintro σ H Q ⟨ρ,d,mh',q,rl,rs,co⟩;obtain ⟨ds,m1,ea,q⟩:=bnd_some q;refine ⟨ρ,ds,m1,ea,rl,rs,fun H1 ρ1 vs e1 rs1 r1=>?_⟩;show spD X.K ps.length f (vs++[]) H1 Q E;rw [List.append_nil];exact ⟨by rw [← r1.length];exact hf _ _ _ q,ρ1,m1,ds,d,mh',q,rs1,r1,co.ev e1⟩
theorem de_call0 {CX:CXT}{k:Nat}{fa:Addr}{fd:FuncData}{f:List D->MH->Option (D×MH)}{x:Str}{p pos:Pos}{E:XK}
  (F:FnOk X.prog X.w X.K X.mg X.base CX k fa fd [] (spD X.K 0 f)) (hr:Room k X.A) (hg:Gl X x) (hm:X.mg x=some (.ref fa)) (hk:PySem.W.keepIn X.K (.ref fa)=true) (hb:Binds X.K fd [] []) (hx:Passes CX X E) (hdb:(x==("__debug__":Str))=false) :
  DE X (.Call (.Name x p) [] [] pos) (Zl (f [])):=fun loc mh=>by
 refine PE_imp (pe_call0 F hr hg hm hk hb .nil hx hdb) ?_;rintro σ H Q ⟨ρ,d,mh',q,rl,rs,co⟩;exact ⟨rfl,ρ,mh,[],d,mh',q,rs,.nil,co⟩
noncomputable def isiD (c:String) (x:D) (mh:MH):Option (D×MH):=match tyName x mh with
 | some t=>match isiB t c with
  | some b=>some (.bl b,mh)
  | none=>none
 | none=>none
end
section
variable {X:Cx}{a b c e o:Expr}{ma mb mc mo:DM D}{pos:Pos}
noncomputable def dchain (f f':D->D->MH->Option (D×MH)) (ma mb mc:DM D):DM D:=ma.bnd fun x=>mb.bnd fun y=>(boolD (Zl (f x y))).bnd fun k=>if k=true then mc.bnd fun z=>Zl (f' y z) else Zr (.bl false)
theorem chain_imp {f f':D->D->MH->Option (D×MH)}{σ:St}{H:Hp}{Q:VK}(h:tDx X.K (dchain f f' ma mb mc) σ H Q):tChain (rD X.K f) (rD X.K f') (tDx X.K ma) (tDx X.K mb) (tDx X.K mc) σ H Q:=by
 obtain ⟨loc,mh,ρ,d,mh',q,rl,rs,co⟩:=h;obtain ⟨x,m1,ea,q⟩:=bnd_some q;obtain ⟨y,m2,eb,q⟩:=bnd_some q;obtain ⟨k,m3,ek,q⟩:=bnd_some q;have ek:=boolD_some ek;refine ⟨loc,mh,ρ,x,m1,ea,rl,rs,fun H1 ρ1 v1 e1 rs1 r1=>⟨loc,m1,ρ1,y,m2,eb,rl.mono e1,rs1,fun H2 ρ2 v2 e2 rs2 r2=>⟨ρ2,m2,x,y,.bl k,m3,ek,rs2,r1.mono e2,r2,fun H3 ρ3 v3 e3 rs3 r3=>?_⟩⟩⟩;cases r3;refine ⟨k,rfl,?_⟩;cases k with
 | true =>
  rw [if_pos rfl] at q;obtain ⟨z,m4,ec,q⟩:=bnd_some q;exact iteT ⟨loc,m3,ρ3,z,m4,ec,((rl.mono e1).mono e2).mono e3,rs3,fun H4 ρ4 v4 e4 rs4 r4=>⟨ρ4,m4,y,z,d,mh',q,rs4,(r2.mono e3).mono e4,r4,co.ev (e1.trans (e2.trans (e3.trans e4)))⟩⟩
 | false =>
  rw [if_neg Bool.false_ne_true] at q;cases q;exact iteF (co H3 ρ3 _ (e1.trans (e2.trans e3)) rs3 (.bl false))
theorem de_chain {op op':CmpOp}{f f':D->D->MH->Option (D×MH)}(ho:OpR X (compareOp op) (rD X.K f)) (ho':OpR X (compareOp op') (rD X.K f')) (hm:lastMarks [op,op'] [b,c]=false) (ha:DE X a ma) (hb:DE X b mb) (hc:DE X c mc) :
  DE X (.Compare a [op,op'] [b,c] pos) (dchain f f' ma mb mc):=fun loc mh=>PE_imp (pe_chain ho ho' ha.x hb.x hc.x hm) fun σ H Q h=>chain_imp ⟨loc,mh,h⟩
theorem dt_chain {op op':CmpOp}{f f':D->D->MH->Option (D×MH)}(ho:OpR X (compareOp op) (rD X.K f)) (ho':OpR X (compareOp op') (rD X.K f')) (hm:lastMarks [op,op'] [b,c]=false) (ha:DE X a ma) (hb:DE X b mb) (hc:DE X c mc) :
  DT X (.Compare a [op,op'] [b,c] pos) (boolD (dchain f f' ma mb mc)):=by
 refine fun loc mh=>PT_imp (pt_chain ho ho' ha.x hb.x hc.x hm) ?_
 rintro σ H Q ⟨ρ,k,mh',q,rl,rs,co⟩;have q:=boolD_some q;exact chain_imp ⟨loc,mh,ρ,_,_,q,rl,rs,fun H' ρ' v e' rs' r'=>by cases r';exact ⟨k,rfl,co H' ρ' e' rs'⟩⟩
noncomputable def rDM (K:PySem.W.Frag) (f:D->List D->MH->Option (D×MH)):V->List V->Hp->VK->Prop:=fun x xs H Q=>∃ ρ mh dx ds d mh',f dx ds mh=some (d,mh')/\RS K H ρ mh/\RD K H ρ dx x/\RDs K H ρ ds xs/\Co K H ρ mh' d Q
noncomputable def tyOk (T:String) (x:D) (mh:MH):Bool:=match x with
 | .str _=>T == "str"
 | .int _=>T == "int"
 | .ref n=>T == "list"&&(match mh[n]? with | some (.lst _)=>true | _=>false)
 | .tup _=>T == "tuple"
 | _=>false
theorem tyOk_V {K:PySem.W.Frag}{H:Hp}{ρ:List Addr}{mh:MH}{T:String}{x:D}{v:V}(rs:RS K H ρ mh) (r:RD K H ρ x v) (h:tyOk T x mh=true):tyV K T v H:=by
 cases r with
 | str z=>exact eq_of_beq h
 | int i=>exact eq_of_beq h
 | @ref n a hn =>
  have h:(T == "list"&&(match mh[n]? with | some (.lst _)=>true | _=>false))=true:=h;rw [Bool.and_eq_true] at h;obtain ⟨o,eo⟩:∃ o,mh[n]?=some (.lst o):=by
   have h:=h.2;split at h
   ·exact ⟨_,‹_›⟩
   ·cases h
  obtain ⟨a',ha,ro⟩:=rs.at eo;rw [hn] at ha;cases ha;obtain ⟨xs,sq,_⟩:=ro.read;exact .inl ⟨eq_of_beq h.1,xs,sq⟩
 | tup s r=>exact .inr (.inl ⟨eq_of_beq h,_,s⟩)
 | _=>cases h
noncomputable def methM (T:String) (f:D->List D->MH->Option (D×MH)) (mo:DM D) (mr:DM (List D)):DM D:=mo.bnd fun x=>fun loc mh=>if tyOk T x mh=true then (mr.bnd fun ds=>Zl (f x ds)) loc mh else none
theorem de_bm {T id:String}{name:Str}{apos:Pos}{es:List Expr}{mr:DM (List D)}{f:D->List D->MH->Option (D×MH)}(pa:PlainAttrs T) (slot:Slot T name id) (hty:typeOf (.builtin id)=pure (.type "method_descriptor")) (hm:MtR X id (rDM X.K f)) (ho:DE X o mo) (ha:DA X (a::es) mr)
  (hbase:attributeBase o name X.env (eval o X.env)=eval o X.env)
  (hfew:((backTo pos (starEach (a::es) X.env)).all (fun x=>!x.1)&&(backToKw pos (keywordEach [] X.env)).all (fun x=>x.1.isSome)
   && decide ((a::es).length+([]:List Keyword).length+(if ([]:List Keyword).isEmpty then 0 else 1) < 30))=true)
  (hline:(apos.endLine==pos.line)=true) (hs:starEach (a::es) X.env=(false,eval a X.env)::starEach es X.env) (hplain:(backTo pos (starEach es X.env)).any (·.1)=false) :
  DE X (.Call (.Attribute o name apos) (a::es) [] pos) (methM T f mo mr):=fun loc mh=>by
 cases eo:mo loc mh with
 | none =>
  have:methM T f mo mr loc mh=none:=by unfold methM DM.bnd;rw [eo]
  rw [this];exact PE_none
 | some p =>
  obtain ⟨x,m1⟩:=p;refine PE_imp (pe_bm pa slot hty hm (ho loc mh) (ha loc m1) hbase hfew hline hs hplain) ?_;rintro σ H Q ⟨ρ,d,mh',q,rl,rs,co⟩;obtain ⟨x',m1',eo',q⟩:=bnd_some q;rw [eo] at eo';cases eo';split at q
  ·rename_i ht;obtain ⟨ds,m2,er,q⟩:=bnd_some q;exact ⟨ρ,x,m1,eo,rl,rs,fun H1 ρ1 v e1 rs1 r1=>⟨tyOk_V rs1 r1 ht,ρ1,ds,m2,er,rl.mono e1,rs1,fun H2 ρ2 vs e2 rs2 r2=>⟨ρ2,m2,x,ds,d,mh',q,rs2,r1.mono e2,r2,co.ev (e1.trans e2)⟩⟩⟩
  ·cases q
theorem de_bm0 {T id:String}{name:Str}{apos:Pos}{f:D->List D->MH->Option (D×MH)}(pa:PlainAttrs T) (slot:Slot T name id) (hty:typeOf (.builtin id)=pure (.type "method_descriptor")) (hm:MtR X id (rDM X.K f)) (ho:DE X o mo)
  (hbase:attributeBase o name X.env (eval o X.env)=eval o X.env) (hline:(apos.endLine==pos.line)=true):DE X (.Call (.Attribute o name apos) [] [] pos) (methM T f mo (Zr [])):=fun loc mh=>by
 refine PE_imp (pe_bm0 pa slot hty hm (ho loc mh) hbase hline) ?_;rintro σ H Q ⟨ρ,d,mh',q,rl,rs,co⟩;obtain ⟨x,m1,eo,q⟩:=bnd_some q;split at q
 ·rename_i ht;exact ⟨ρ,x,m1,eo,rl,rs,fun H1 ρ1 v e1 rs1 r1=>⟨tyOk_V rs1 r1 ht,ρ1,m1,x,[],d,mh',q,rs1,r1,.nil,co.ev e1⟩⟩
 ·cases q
theorem MtR_imp {id:String}{r r':V->List V->Hp->VK->Prop}(h:MtR X id r) (i:∀ x xs H Q,r' x xs H Q->r x xs H Q):MtR X id r':=fun pins s σ H x xs v us Q I rx rs q=>h pins s σ H x xs v us Q I rx rs (i x xs H Q q)
noncomputable def appendD:D->List D->MH->Option (D×MH)
 | .ref n,[y],mh=>match mh[n]? with
  | some (.lst ds)=>if ds.length < sizeLine then some (.non,mh.set n (.lst (ds++[y]))) else none
  | _=>none
 | _,_,_=>none
theorem mt_appendD:MtR X "list.append" (rDM X.K appendD):=by
 refine MtR_imp mt_append ?_;rintro x xs H Q ⟨ρ,mh,dx,ds,d,mh',q,rs,rx,r,co⟩
 match ds,q with
 | [y],q =>
  obtain ⟨v,rfl,rv⟩:=rds1 r;cases rx with
  | @ref n a hn =>
   have q:(match mh[n]? with | some (.lst ds)=>if ds.length < sizeLine then some (D.non,mh.set n (.lst (ds++[y]))) else none | _=>none)=some (d,mh'):=q;split at q
   ·rename_i ds em;split at q
    ·rename_i hz;cases q;obtain ⟨a',ha,us,hu,ru⟩:=rs.at em;rw [hn] at ha;cases ha;exact ⟨a,us,v,rfl,rfl,hu,by rw [← ru.length];exact hz,co _ ρ _ (Ev.lst hu) (rs.setL hn hu (ru.append (.cons rv .nil))) .non⟩
    ·cases q
   ·cases q
  | _=>cases q
 | [],q=>cases dx <;> cases q
 | _::_::_,q=>cases dx <;> cases q
noncomputable def negD:D->MH->Option (D×MH)
 | .int i,mh=>some (.int (-i),mh)
 | _,_=>none
theorem un_negD:UnR X (unaryOp .USub) (rD1 X.K negD):=by
 rintro pins s σ H x v Q I rx ⟨ρ,mh,dx,d,mh',q,rs,r1,co⟩;cases r1 with
 | int i=>cases q;exact un_neg pins s σ H _ v Q I rx ⟨i,rfl,co H ρ _ Ev.refl rs (.int _)⟩
 | _=>cases q
end
noncomputable def Rise (xs:Array Nat):Prop:=xs.toList.Pairwise (· < ·)
theorem Rise.lt {xs:Array Nat}(h:Rise xs) {i j:Nat}{x y:Nat}(hij:i < j) (hx:xs[i]?=some x) (hy:xs[j]?=some y):x < y:=by
 obtain ⟨h1,rfl⟩:=Array.getElem?_eq_some_iff.mp hx;obtain ⟨h2,rfl⟩:=Array.getElem?_eq_some_iff.mp hy;have:=List.pairwise_iff_getElem.mp h i j (by simpa using h1) (by simpa using h2) hij
 simpa using this
structure Below (xs:Array Nat) (j p:Nat):Prop where
 le:p<=xs.size
 lo:∀ i x,i < p->xs[i]?=some x->x < j
 hi:∀ i x,p<=i->xs[i]?=some x->j<=x
theorem Below.same {xs:Array Nat}{j p q:Nat}(a:Below xs j p) (b:Below xs j q):p=q:=by
 rcases Nat.lt_trichotomy p q with h|h|h
 ·have:=b.le;have hp:p < xs.size:=by omega
  have:=b.lo p _ h (Array.getElem?_eq_getElem hp);have:=a.hi p _ (Nat.le_refl _) (Array.getElem?_eq_getElem hp);omega
 ·exact h
 ·have:=a.le;have hq:q < xs.size:=by omega
  have:=a.lo q _ h (Array.getElem?_eq_getElem hq);have:=b.hi q _ (Nat.le_refl _) (Array.getElem?_eq_getElem hq);omega
structure Good (b:Bool) (t:SetTable):Prop where
 led:t.led=b
 rise:t.plain=true->Rise t.place
theorem Good.stand {b:Bool}{t:SetTable}(h:Good b t) (n:Nat):Good b (t.standIn n):=⟨h.led,fun z=>by cases z⟩
section
variable {P:Program}{w:World}
structure SetD (P:Program) (w:World) (o:Obj) (es:Array (Int×Value)) (ep:Nat) (t:SetTable) (S:Int->Bool) (n:Nat):Prop where
 ex:o.ExactSet
 dt:o.data=.set es ep t
 el:ElemsOf (intKind P w) es.toList
 mem:∀ k,S k=true ↔ ∃ e∈es.toList,(intKind P w).is k e.2=true
 few:es.size < scanBound
 fit:t.fits es.size=true
 sz:es.size=n
 good:Good (!w.params.followText "set-order") t
noncomputable def SetG (P:Program) (w:World) (h:Heap) (a:Addr) (S:Int->Bool) (n:Nat):Prop:=∃ o es ep t,h.get? a=some o/\SetD P w o es ep t S n
theorem SetG.of {h:Heap}{a:Addr}{S:Int->Bool}{n:Nat}(g:SetG P w h a S n):h.SetOf (intKind P w) a S n:=by
 obtain ⟨o,es,ep,t,e,d⟩:=g;exact ⟨o,es,ep,t,e,d.ex,d.dt,d.el,d.mem,d.few,d.fit,d.sz⟩
theorem SetG.stay {h h':Heap}{a:Addr}{S:Int->Bool}{n:Nat}(g:SetG P w h a S n) (k:∀ o,h.get? a=some o->h'.get? a=some o):SetG P w h' a S n:=by
 obtain ⟨o,es,ep,t,e,d⟩:=g;exact ⟨o,es,ep,t,k o e,d⟩
theorem SetG.congr {h:Heap}{a:Addr}{S S':Int->Bool}{n n':Nat}(g:SetG P w h a S n) (e:∀ k,S k=S' k) (en:n=n'):SetG P w h a S' n':=by
 have:S=S':=funext e;subst this;subst en;exact g
variable {A:Around}{E:Value->Shared->Prop}{s:Shared}
end
section
variable {P:Program}{w:World}{A:Around}{R:Result->Shared->Prop}{I:Addr}{fp wr:List Addr}{G:Array GenState->Array GenState->Prop}{n:Nat}{V:Nat->Value->Prop}{T:Nat->Shared->Prop}
end
section
variable {P:Program}{w:World}{A:Around}{E:Value->Shared->Prop}{s:Shared}
end
section
variable {P:Program}{w:World}{A:Around}{E:Value->Shared->Prop}{s:Shared}
noncomputable def metOf (ns:List Int):List Int:=firstMet (fun i=>ns.getD i 0) ns.length
end
section
variable {P:Program}{w:World}{A:Around}{E:Value->Shared->Prop}{s:Shared}
end
theorem perm_erase {α:Type}:∀ {l:List α}{i:Nat}(h:i < l.length),List.Perm (l[i]::l.eraseIdx i) l
 | a::r,0,_=>.refl _
 | a::r,i+1,h=>by
  have hi:i < r.length:=by simpa using h
  have:=perm_erase (l:=r) (i:=i) hi;show List.Perm (r[i]::a::r.eraseIdx i) (a::r);exact (List.Perm.swap _ _ _).trans (this.cons a)
theorem pick_go {α:Type}(nx:Nat->Nat):∀ (fuel k:Nat) (left:List α) (out:Array α),left.length=fuel->List.Perm (pickOrder.go nx fuel k left out).toList (out.toList++left)
 | 0,k,left,out,h=>by
  have:left=[]:=List.length_eq_zero_iff.mp h;subst this;unfold pickOrder.go;rw [List.append_nil]
 | fuel+1,k,left,out,h=>by
  unfold pickOrder.go;have hl:nx k % left.length < left.length:=Nat.mod_lt _ (by omega);rw [List.getElem?_eq_getElem hl];dsimp only;refine (pick_go nx fuel _ _ _ (by rw [List.length_eraseIdx,if_pos hl];omega)).trans ?_;rw [Array.toList_push,List.append_assoc]
  exact List.Perm.append_left _ (by
   show List.Perm (left[nx k % left.length]::left.eraseIdx (nx k % left.length)) left
   exact perm_erase hl)
theorem pick_perm {α:Type}(nx:Nat->Nat) (xs:Array α):List.Perm (pickOrder nx xs).toList xs.toList:=by
 unfold pickOrder
 simpa using pick_go nx xs.size 0 xs.toList #[] (by simp)
section
variable {P:Program}{w:World}{A:Around}{E:Value->Shared->Prop}
end
inductive Mode where
 | txt | slt | drw (tp:Addr) (pl:List Nat)
noncomputable def Mode.first (t:SetTable):Mode->Nat->Value
 | .txt,_=>.int 0 0
 | .slt,0=>.int 0 0
 | .slt,i+1=>.int ((t.place.getD i 0+1:Nat):Int) 0
 | .drw tp _,_=>.ref tp
noncomputable def Mode.ord (w:World) (a:Addr) (es:Array (Int×Value)) (ep:Nat):Mode->List Value
 | .txt=>(pickOrder (w.params.setOrder a ep) es).toList.map (·.2)
 | .slt=>es.toList.map (·.2)
 | .drw _ pl=>pl.filterMap fun p=>(es[p]?).map (·.2)
noncomputable def Mode.ok (w:World) (es:Array (Int×Value)) (t:SetTable):Mode->Heap->Prop
 | .txt,_=>w.params.followText "set-order"=true
 | .slt,_=>w.params.followText "set-order"=false/\(t.plain=true\/es.size<=1)
 | .drw tp pl,h=>w.params.followText "set-order"=false/\pl.Perm (List.range es.size)/\∃ n,h.get? tp=some { cls:=.type "tuple",data:=.seq (pl.map fun (p:Nat)=>rawInt (p:Int)).toArray n }
theorem Mode.perm {w:World}{a:Addr}{es:Array (Int×Value)}{ep:Nat}{t:SetTable}{m:Mode}{h:Heap}(k:m.ok w es t h):List.Perm (m.ord w a es ep) (es.toList.map (·.2)):=by
 cases m with
 | txt=>exact (pick_perm _ _).map _
 | slt=>exact .refl _
 | drw tp pl =>
  obtain ⟨_,hp,_⟩:=k;refine (hp.filterMap _).trans ?_;have:=congrArg (List.map (fun x:Int×Value=>x.2)) (filterMap_getElem?_range es);rw [List.map_filterMap] at this;rw [← this]
noncomputable abbrev itRec (f:Value) (i:Nat) (a:Addr) (n ep:Nat):Obj:={ cls:=.type "set_iterator",data:=.fields #[f,.int i 0,.ref a,.int n 0,.int ep 0] }
namespace SI
end SI
section
variable {P:Program}{w:World}{A:Around}{E:Value->Shared->Prop}{s:Shared}{a I:Addr}{o:Obj}{es:Array (Int×Value)}{ep n:Nat}{t:SetTable}{S:Int->Bool}
structure SetSt (w:World) (o:Obj) (es:Array (Int×Value)) (ep:Nat) (t:SetTable) (a I:Addr) (m:Mode) (i:Nat) (h:Heap):Prop where
 it:h.get? I=some (itRec (m.first t i) i a es.size ep)
 st:h.get? a=some o
 ok:m.ok w es t h
end
section
variable {P:Program}{w:World}{A:Around}{E:Value->Shared->Prop}{s:Shared}{a I:Addr}{o:Obj}{es:Array (Int×Value)}{ep n:Nat}{t:SetTable}{S:Int->Bool}
noncomputable def Mode.fp:Mode->List Addr
 | .drw tp _=>[tp]
 | _=>[]
end
noncomputable def sortU (ns:List Int):List Int:=(metOf ns).mergeSort fun a b=>decide (a<=b)
theorem sort_one {l l':List Int}(p:l.Perm l') (h:l.Pairwise (·<=·)) (h':l'.Pairwise (·<=·)):l=l':=p.eq_of_pairwise (le:=(·<=·)) (fun a b _ _ x y=>Int.le_antisymm x y) h h'
theorem vals_ints:∀ {us:List Value}{ns:List Int},IntsAre us ns->Vals (ns.map V.int) us
 | _,_,.nil=>.nil
 | _,_,.cons n t h=>.cons ⟨t,rfl⟩ (vals_ints h)
noncomputable abbrev memS (ns:List Int):Int->Bool:=fun j=>(metOf ns).any (·==j)
section
variable {X:Cx}
noncomputable def SetO (P:Program) (w:World) (a:Addr) (ns:List Int):HO:=.ext fun h=>SetG P w h a (memS ns) (metOf ns).length
end
section
variable {P:Program}{w:World}{A:Around}{E:Value->Shared->Prop}{s:Shared}{a b:Addr}{o o':Obj}{es es':Array (Int×Value)}{ep n ep' n':Nat}{t t':SetTable}{S S':Int->Bool}
end
noncomputable def setEq (ns ms:List Int):Bool:=ns.all (fun k=>ms.contains k)&&ms.all fun k=>ns.contains k
noncomputable def intsOf:List D->Option (List Int)
 | []=>some []
 | .int i::r=>match intsOf r with
  | some l=>some (i::l)
  | none=>none
 | _=>none
noncomputable def intsD:D->MH->Option (List Int)
 | .ref n,mh=>match mh[n]? with
  | some (.lst o)=>intsOf o
  | _=>none
 | .rol ds,_=>intsOf ds
 | .tup ds,_=>intsOf ds
 | _,_=>none
theorem intsOf_map:∀ (ns:List Int),intsOf (ns.map D.int)=some ns
 | []=>rfl
 | n::r=>by
  show (match intsOf (r.map D.int) with | some l=>some (n::l) | none=>none)=_;rw [intsOf_map r]
theorem intsOf_some:∀ {ds:List D}{ns:List Int},intsOf ds=some ns->ds=ns.map D.int
 | [],ns,h=>by cases h;rfl
 | d::r,ns,h=>by
  cases d with
  | int i =>
   have h:(match intsOf r with | some l=>some (i::l) | none=>none)=some ns:=h;split at h
   ·rename_i l e;cases h;rw [intsOf_some e];rfl
   ·cases h
  | _=>cases h
section
variable {K:PySem.W.Frag}{H:Hp}{ρ:List Addr}{mh:MH}
theorem rds_ints {ns:List Int}{vs:List V}(h:RDs K H ρ (ns.map D.int) vs):vs=ns.map V.int:=by
 induction ns generalizing vs with
 | nil=>cases h;rfl
 | cons n r ih =>
  cases h with
  | cons a t=>cases a;rw [ih t];rfl
end
noncomputable def lenSetD (x:D) (mh:MH):Option (D×MH):=match intsD x mh with
 | some ns=>if ns.length < 4000 then some (.int (metOf ns).length,mh) else none
 | none=>none
noncomputable def sortSetD (x:D) (mh:MH):Option (D×MH):=match intsD x mh with
 | some ns=>if ns.length < 4000 then (if (metOf ns).length < 64 then some (.ref mh.length,mh++[.lst ((sortU ns).map D.int)]) else none) else none
 | none=>none
noncomputable def setEqD (x y:D) (mh:MH):Option (D×MH):=match intsD x mh,intsD y mh with
 | some ns,some ms=>if ns.length < 4000/\ms.length < 4000 then some (.bl (setEq ns ms),mh) else none
 | _,_=>none
section
variable {X:Cx}{a:Expr}{ma:DM D}{p p2 pos pos2:Pos}
noncomputable def setEqM (mx my:DM D):DM D:=mx.bnd fun x=>my.bnd fun y=>Zl (setEqD x y)
end
section
variable {X:Cx}{pins:List (Addr×Obj)}{σ:L2.St}{H:Hp}{s:Shared}
theorem walk_seq (I:Inv X pins σ H s) {A:Around}(hh:A.handled=none) {p:Addr}{ys:List V}(hq:SqL X.K H p ys\/SqT X.K H p ys) {Q:Value->Shared->Prop}{E:Value->Shared->Prop}
  (h:∀ (its:List Value) (St:Nat->Heap->Prop) (h2:Heap),Vals ys its->Walks X.prog X.w A s.heap.objs.size [s.heap.objs.size,p] [s.heap.objs.size] its.length (fun i v=>its[i]?=some v) St->St 0 h2 ->
   (∀ b∈[s.heap.objs.size,p],b < h2.objs.size)->(∀ b o,s.heap.get? b=some o->h2.get? b=some o)->Q (.ref s.heap.objs.size) { s with heap:=h2 }) :
  wpAny (model X.prog X.w) A (pyIter (.ref p)) Q E s:=by
 rcases hq with hq|hq
 ·obtain ⟨its,rv,pl,hz⟩:=I.list hq;have hlt:p < s.heap.objs.size:=by obtain ⟨_,_,e,_⟩:=pl;exact Heap.lt_size e
  refine wpAny_pyIter_list pl.isList ?_;have W:=Walks.list (prog:=X.prog) (w:=X.w) hh s.heap.objs.size p (Nat.ne_of_lt hlt) its.toArray;refine h its (fun i h=>h.IsListIter s.heap.objs.size p i/\h.IsList p its.toArray) _ rv (by simpa using W) ⟨⟨_,Heap.get?_push_size _ rfl,rfl,rfl⟩,pl.isList.push _⟩ (fun b hb=>?_) fun b o e=>Heap.get?_push_of_some _ e
  rw [Heap.size_push];simp at hb;rcases hb with e|e
  ·rw [e];exact Nat.lt_succ_self _
  ·rw [e];exact Nat.lt_succ_of_lt hlt
 ·obtain ⟨its,rv,pl,hz⟩:=I.tuple hq;have pl:s.heap.IsTuple p its.toArray:=pl;have hlt:p < s.heap.objs.size:=by obtain ⟨_,e,_⟩:=id pl;exact Heap.lt_size e
  refine wpAny_pyIter_tuple pl ?_;have W:=Walks.tuple (prog:=X.prog) (w:=X.w) hh s.heap.objs.size p (Nat.ne_of_lt hlt) its.toArray;refine h its (fun i h=>h.IsTupleIter s.heap.objs.size p i/\h.IsTuple p its.toArray) _ rv (by simpa using W) ⟨⟨_,Heap.get?_push_size _ rfl,rfl,rfl⟩,pl.push _⟩ (fun b hb=>?_) fun b o e=>Heap.get?_push_of_some _ e
  rw [Heap.size_push];simp at hb;rcases hb with e|e
  ·rw [e];exact Nat.lt_succ_self _
  ·rw [e];exact Nat.lt_succ_of_lt hlt
theorem kept_new {h2 h':Heap}(hk:∀ b o,b ∉ [s.heap.objs.size]->h2.get? b=some o->h'.get? b=some o) (h1:∀ b o,s.heap.get? b=some o->h2.get? b=some o):∀ b o,s.heap.get? b=some o->h'.get? b=some o :=
 fun b o e=>hk b o (fun hm=>by rw [List.mem_singleton.mp hm] at e;exact Nat.lt_irrefl _ (Heap.lt_size e)) (h1 b o e)
end
noncomputable def boolsOf:List D->Option (List Bool)
 | []=>some []
 | .bl i::r=>match boolsOf r with
  | some l=>some (i::l)
  | none=>none
 | _=>none
theorem boolsOf_map:∀ (ns:List Bool),boolsOf (ns.map D.bl)=some ns
 | []=>rfl
 | n::r=>by
  show (match boolsOf (r.map D.bl) with | some l=>some (n::l) | none=>none)=_;rw [boolsOf_map r]
theorem boolsOf_some:∀ {ds:List D}{ns:List Bool},boolsOf ds=some ns->ds=ns.map D.bl
 | [],ns,h=>by cases h;rfl
 | d::r,ns,h=>by
  cases d with
  | bl i =>
   have h:(match boolsOf r with | some l=>some (i::l) | none=>none)=some ns:=h;split at h
   ·rename_i l e;cases h;rw [boolsOf_some e];rfl
   ·cases h
  | _=>cases h
theorem rds_bools {K:PySem.W.Frag}{H:Hp}{ρ:List Addr}{ns:List Bool}{vs:List V}(h:RDs K H ρ (ns.map D.bl) vs):vs=ns.map V.bl:=by
 induction ns generalizing vs with
 | nil=>cases h;rfl
 | cons n r ih =>
  cases h with
  | cons a t=>cases a;rw [ih t];rfl
theorem vals_bl:∀ {bs:List Bool}{its:List Value},Vals (bs.map V.bl) its->its=bs.map Value.bool
 | [],_,.nil=>rfl
 | b::r,_,.cons h t=>by
  have h:_=Value.bool b:=h;rw [h,vals_bl t];rfl
theorem vals_int:∀ {ns:List Int}{its:List Value}{i:Nat}{v:Value},Vals (ns.map V.int) its->its[i]?=some v->∃ n t,ns[i]?=some n/\v=.int n t
 | [],_,_,_,.nil,e=>by simp at e
 | n::r,_,0,_,.cons h t,e=>by
  obtain ⟨k,rfl⟩:=h;cases e;exact ⟨n,k,rfl,rfl⟩
 | n::r,_,i+1,_,.cons h t,e=>by
  obtain ⟨m,k,h1,h2⟩:=vals_int (i:=i) t (by simpa using e);exact ⟨m,k,by simpa using h1,h2⟩
noncomputable def boolsFn (f:List Bool->Bool):List D->MH->Option (D×MH)
 | [x],mh=>match seqD x mh with
  | some ds=>match boolsOf ds with
   | some bs=>some (.bl (f bs),mh)
   | none=>none
  | none=>none
 | _,_=>none
theorem boolsFn_some {f:List Bool->Bool}{ds:List D}{mh mh':MH}{d:D}(h:boolsFn f ds mh=some (d,mh')):∃ x bs,ds=[x]/\seqD x mh=some (bs.map D.bl)/\d=.bl (f bs)/\mh'=mh:=by
 match ds,h with
 | [x],h =>
  have h:(match seqD x mh with | some ds=>(match boolsOf ds with | some bs=>some (D.bl (f bs),mh) | none=>none) | none=>none)=some (d,mh'):=h;split at h
  ·rename_i es e;split at h
   ·rename_i bs eb;cases h;rw [boolsOf_some eb] at e;exact ⟨x,bs,rfl,e,rfl,rfl⟩
   ·cases h
  ·cases h
 | [],h=>cases h
 | _::_::_,h=>cases h
noncomputable def allD:List D->MH->Option (D×MH):=boolsFn fun bs=>bs.all id
section
variable {X:Cx}
theorem bools_at (hc:X.calm=true) {id:String}{f:List Bool->Bool}{dflt:Bool}{g:List Nat->(Nat->Bool)->Bool}(hg:∀ bs:List Bool,g (List.range bs.length) (fun i=>(bs[i]?).getD dflt)=f bs)
  (call_w:∀ {A:Around} {x:Value} {Q:Value->Shared->Prop} {E:Value->Shared->Prop} {s:Shared},wpAny (model X.prog X.w) A.in1 (pyIter x) (fun it s₂=>∃ I fp wr n P St tr,it=.ref I/\Walks X.prog X.w A.in1 I fp wr n P St/\St 0 s₂.heap/\TruthOf X.prog X.w A.in1 P tr /\
   ∀ h' tk,(∀ b o,b ∉ wr->s₂.heap.get? b=some o->h'.get? b=some o)->Q (.bool (g (List.range n) tr)) { s₂ with heap:=h',toks:=tk }) E s->wpAny (model X.prog X.w) A (call (.builtin id) [x]) Q E s) :
  CallR X (.builtin id) (rDs X.K (boolsFn f)):=by
 rintro pins s σ H xs us Q I r ⟨ρ,mh,ds,d,mh',q,rs,rd,co⟩;obtain ⟨x,bs,rfl,e,rfl,rfl⟩:=boolsFn_some q;obtain ⟨v,rfl,rx⟩:=rds1 rd;obtain ⟨u,rfl,ru⟩:=vals1 r;obtain ⟨p,ys,rfl,hq,ry⟩:=seqD_ok rs rx e;cases ru;rw [rds_bools ry] at hq;refine call_w (walk_seq I (A:=X.A.in1) (I.ok.hd hc) hq fun its St h2 rv W st _ hk=>?_);have ei:=vals_bl rv;refine ⟨_,_,_,its.length,_,St,fun i=>(bs[i]?).getD dflt,rfl,W,st,fun i v s' Q' E' hP hQ=>?_,fun h' tk hk'=>?_⟩
 ·rw [ei,List.getElem?_map] at hP;cases eb:bs[i]? with
  | none=>rw [eb] at hP;cases hP
  | some b =>
   rw [eb] at hP;cases hP;simp only [eb,Option.getD_some] at hQ;exact wpAny_truthy_bool hQ
 ·have e2:its.length=bs.length:=by rw [ei,List.length_map]
  rw [e2,hg bs];exact ⟨.bl _,H,I.kept (t':=tk) (kept_new hk' hk),rfl,co H ρ _ Ev.refl rs (.bl _)⟩
theorem call_allD (hc:X.calm=true):CallR X (.builtin "all") (rDs X.K allD):=bools_at (dflt:=true) hc (g:=fun l f=>l.all f) (fun bs=>LSm.range_all bs) fun h=>call_all_walk h
end
noncomputable def maxI:Int->List Int->Int
 | m,[]=>m
 | m,x::r=>maxI (if m < x then x else m) r
noncomputable def minI:Int->List Int->Int
 | m,[]=>m
 | m,x::r=>minI (if x < m then x else m) r
theorem argBest_fold (bt:Nat->Nat->Bool) (f:Int->List Int->Int) (ns:List Int) (b:Int->Int->Bool) (hb:∀ i j x y,ns[i]?=some x->ns[j]?=some y->bt i j=b x y) (f0:∀ m,f m []=m) (f1:∀ m l x,f m (l++[x])=if b x (f m l)=true then x else f m l) :
  ∀ (k:Nat) (h:k < ns.length),∀ m r,ns=m::r->ns[argBest bt k]?=some (f m (r.take k))
 | 0,h,m,r,e=>by
  subst e;simp [argBest,f0]
 | k+1,h,m,r,e=>by
  have ih:=argBest_fold bt f ns b hb f0 f1 k (by omega) m r e;have hk:k < r.length:=by rw [e,List.length_cons] at h;omega
  have e1:ns[k+1]?=some r[k]:=by rw [e,List.getElem?_cons_succ,List.getElem?_eq_getElem hk]
  have e2:r.take (k+1)=r.take k++[r[k]]:=by rw [List.take_add_one,List.getElem?_eq_getElem hk];rfl
  have e3:=hb (k+1) (argBest bt k) _ _ e1 ih;rw [e2,f1];unfold argBest;rw [e3];split
  ·exact e1
  ·exact ih
theorem maxI_snoc:∀ (l:List Int) (m x:Int),maxI m (l++[x])=if decide (maxI m l < x)=true then x else maxI m l
 | [],m,x=>by by_cases h:m < x <;> simp [maxI,h]
 | y::l,m,x=>by
  show maxI _ (l++[x])=_;rw [maxI_snoc l];rfl
theorem minI_snoc:∀ (l:List Int) (m x:Int),minI m (l++[x])=if decide (x < minI m l)=true then x else minI m l
 | [],m,x=>by by_cases h:x < m <;> simp [minI,h]
 | y::l,m,x=>by
  show minI _ (l++[x])=_;rw [minI_snoc l];rfl
noncomputable def bestFn (f:Int->List Int->Int):List D->MH->Option (D×MH)
 | [x],mh=>match seqD x mh with
  | some ds=>match intsOf ds with
   | some (n::r)=>some (.int (f n r),mh)
   | _=>none
  | none=>none
 | _,_=>none
theorem bestFn_some {f:Int->List Int->Int}{ds:List D}{mh mh':MH}{d:D}(h:bestFn f ds mh=some (d,mh')):∃ x n r,ds=[x]/\seqD x mh=some ((n::r).map D.int)/\d=.int (f n r)/\mh'=mh:=by
 match ds,h with
 | [x],h =>
  have h:(match seqD x mh with | some ds=>(match intsOf ds with | some (n::r)=>some (D.int (f n r),mh) | _=>none) | none=>none)=some (d,mh'):=h;split at h
  ·rename_i es e;split at h
   ·rename_i n r eb;cases h;rw [intsOf_some eb] at e;exact ⟨x,n,r,rfl,e,rfl,rfl⟩
   ·cases h
  ·cases h
 | [],h=>cases h
 | _::_::_,h=>cases h
noncomputable def maxD:List D->MH->Option (D×MH):=bestFn maxI
noncomputable def minD:List D->MH->Option (D×MH):=bestFn minI
section
variable {X:Cx}
theorem best_at (hc:X.calm=true) {id:String}{f:Int->List Int->Int}{op:CmpOp}{b:Int->Int->Bool}(f0:∀ m,f m []=m) (f1:∀ m l x,f m (l++[x])=if b x (f m l)=true then x else f m l)
  (cmp:∀ {A:Around} {x y:Int} {t u:Tok} {Q:Value->Shared->Prop} {E:Value->Shared->Prop} {s:Shared},Q (.bool (b x y)) s->wpAny (model X.prog X.w) A (richCompare op (.int x t) (.int y u)) Q E s)
  (call_w:∀ {A:Around} {x:Value} {Q:Value->Shared->Prop} {E:Value->Shared->Prop} {s:Shared},wpAny (model X.prog X.w) A.in1 (pyIter x) (fun it s₂=>∃ I fp wr n P St bt,it=.ref I/\Walks X.prog X.w A.in1 I fp wr n P St/\St 0 s₂.heap/\(∀ b∈fp,b < s₂.heap.objs.size)/\0 < n/\CmpOf X.prog X.w A.in1 op P bt /\
   ∀ v h' tk,P (argBest bt (n - 1)) v->(∀ b o,b ∉ wr->s₂.heap.get? b=some o->h'.get? b=some o)->Q v { s₂ with heap:=h',toks:=tk }) E s->wpAny (model X.prog X.w) A (call (.builtin id) [x]) Q E s) :
  CallR X (.builtin id) (rDs X.K (bestFn f)):=by
 rintro pins s σ H xs us Q I r ⟨ρ,mh,ds,d,mh',q,rs,rd,co⟩;obtain ⟨x,n,l,rfl,e,rfl,rfl⟩:=bestFn_some q;obtain ⟨v,rfl,rx⟩:=rds1 rd;obtain ⟨u,rfl,ru⟩:=vals1 r;obtain ⟨p,ys,rfl,hq,ry⟩:=seqD_ok rs rx e;cases ru;rw [rds_ints ry] at hq;refine call_w (walk_seq I (A:=X.A.in1) (I.ok.hd hc) hq fun its St h2 rv W st hfp hk=>?_);have hlen:(n::l).length=its.length:=by have:=rv.length;simpa using this
 refine ⟨_,_,_,its.length,_,St,fun i j=>(match (n::l)[i]?,(n::l)[j]? with | some x,some y=>b x y | _,_=>false),rfl,W,st,hfp,by rw [← hlen];simp,fun i j vi vj s' Q' E' hi hj hQ=>?_,fun v h' tk hP hk'=>?_⟩
 ·obtain ⟨a,t,e1,rfl⟩:=vals_int rv hi;obtain ⟨a',t',e2,rfl⟩:=vals_int rv hj;simp only [e1,e2] at hQ;exact cmp hQ
 ·have ar:=argBest_fold (fun i j=>(match (n::l)[i]?,(n::l)[j]? with | some x,some y=>b x y | _,_=>false)) f (n::l) b (fun i j x y e1 e2=>by simp only [e1,e2]) f0 f1 (its.length - 1) (by rw [hlen];simp at hlen;omega) n l rfl;obtain ⟨a,t,e1,rfl⟩:=vals_int rv hP;rw [ar] at e1;have e3:l.take (its.length - 1)=l:=List.take_of_length_le (by rw [← hlen];simp);rw [e3] at e1;cases e1;exact ⟨.int _,H,I.kept (t':=tk) (kept_new hk' hk),⟨t,rfl⟩,co H ρ _ Ev.refl rs (.int _)⟩
end
theorem ext_tupS (l b:Addr) (n n2:Nat) (sl:Array (Option Value)) {items more:Array Value}(h0:¬(!items.isEmpty&&Builtin.List.listTooLong (items.size+more.size))=true) (h1:items.size+more.size<=sizeLine) :
  PySem.Meets (Builtin.«list.extend» ⟨[.ref l,.ref b],[]⟩) (fun _ R s=>s.heap.get? l=some ⟨.type "list",none,.seq items n,#[]⟩/\s.heap.get? b=some ⟨.type "tuple",none,.seq more n2,sl⟩/\R (.ok (.ret .none)) { s with heap:=s.heap.update l (Obj.mapSeq fun x=>x++more),toks:=s.toks }):=by
 refine .of_wp fun prog w A R st hh=>?_
 have hj:(items++more).size<=sizeLine+1:=by rw [Array.size_append];omega
 have hi:items.size<=sizeLine:=by omega
 cases st;rcases hh with ⟨e1,e2,e3⟩
 have q1:=PySem.AutoSeq1.sub_list_tuple;have q2:=PySem.AutoSeq1.sub_tuple_list;have q3:=PySem.AutoSeq1.sub_list_list;have q4:=PySem.AutoSeq1.sub_tuple_tuple;wp_walk using (wpAny_updateSeq e1 rfl (hz:=hi) (_hz':=hj)),PySem.AutoSeq1.wpAny_loadPart' e1,PySem.AutoSeq1.wpAny_loadPart' e2
 exact ⟨_,rfl,e3⟩
section
variable {X:Cx}
theorem call_maxD (hc:X.calm=true):CallR X (.builtin "max") (rDs X.K maxD):=best_at (op:=.Gt) (b:=fun x m=>decide (m < x)) hc (fun _=>rfl) (fun m l x=>maxI_snoc l m x) (fun h=>PyProof.Rows.gt_int h) fun h=>call_max_walk h
theorem call_minD (hc:X.calm=true):CallR X (.builtin "min") (rDs X.K minD):=best_at (op:=.Lt) (b:=fun x m=>decide (x < m)) hc (fun _=>rfl) (fun m l x=>minI_snoc l m x) (fun h=>PyProof.Rows.lt_int h) fun h=>call_min_walk h
noncomputable def popAtD:D->List D->MH->Option (D×MH)
 | .ref n,[.int i],mh=>match mh[n]? with
  | some (.lst ds)=>if -(2 ^ 63)<=i/\i < 2 ^ 63 then (match ixN ds.length i with
   | some k=>(match ds[k]? with | some y=>some (y,mh.set n (.lst (ds.eraseIdx k))) | none=>none)
   | none=>none) else none
  | _=>none
 | _,_,_=>none
theorem RDs.eraseIdx {K:PySem.W.Frag}{H:Hp}{ρ:List Addr}:∀ {ds:List D}{vs:List V}(n:Nat),RDs K H ρ ds vs->RDs K H ρ (ds.eraseIdx n) (vs.eraseIdx n)
 | _,_,_,.nil=>.nil
 | _,_,0,.cons _ t=>t
 | _,_,n+1,.cons r t=>.cons r (RDs.eraseIdx n t)
theorem mt_popAtD:MtR X "list.pop" (rDM X.K popAtD):=by
 refine MtR_imp mt_popAt ?_;rintro x xs H Q ⟨ρ,mh,dx,ds,d,mh',q,rs,rx,r,co⟩
 match ds,q with
 | [.int i],q =>
  obtain ⟨v,rfl,rv⟩:=rds1 r;cases rv;cases rx with
  | @ref n a hn =>
   simp only [popAtD] at q;split at q
   ·rename_i ds em;split at q
    ·rename_i hb;split at q
     ·rename_i k ek;split at q
      ·rename_i y ey;cases q;obtain ⟨a',ha,us,hu,ru⟩:=rs.at em;rw [hn] at ha;cases ha;obtain ⟨w',hw,rw'⟩:=ru.get ey;refine ⟨a,us,i,k,w',rfl,rfl,hu,hb.1,hb.2,?_,hw,?_⟩
       ·rw [← ru.length];exact (ixN_seq ek).1
       ·exact co _ ρ _ (Ev.lst hu) (rs.setL hn hu (ru.eraseIdx k)) (rw'.mono (Ev.lst hu))
      ·cases q
     ·cases q
    ·cases q
   ·cases q
  | _=>cases q
 | [],q=>cases dx <;> cases q
 | .non::_,q=>cases dx <;> simp [popAtD] at q
 | .bl _::_,q=>cases dx <;> simp [popAtD] at q
 | .str _::_,q=>cases dx <;> simp [popAtD] at q
 | .tup _::_,q=>cases dx <;> simp [popAtD] at q
 | .ref _::_,q=>cases dx <;> simp [popAtD] at q
 | .rol _::_,q=>cases dx <;> simp [popAtD] at q
 | .obj ..::_,q=>cases dx <;> simp [popAtD] at q
 | .fn _::_,q=>cases dx <;> simp [popAtD] at q
 | .lam::_,q=>cases dx <;> simp [popAtD] at q
 | .int _::_::_,q=>cases dx <;> simp [popAtD] at q
noncomputable def extendD:D->List D->MH->Option (D×MH)
 | .ref n,[.ref m],mh=>match mh[n]?,mh[m]? with
  | some (.lst xs),some (.lst ys)=>if xs.length+ys.length<=sizeLine then some (.non,mh.set n (.lst (xs++ys))) else none
  | _,_=>none
 | .ref n,[.tup ys],mh=>match mh[n]? with
  | some (.lst xs)=>if xs.length+ys.length<=sizeLine then some (.non,mh.set n (.lst (xs++ys))) else none
  | _=>none
 | _,_,_=>none
theorem MtR.or {id:String}{r r':V->List V->Hp->VK->Prop}(h:MtR X id r) (h':MtR X id r'):MtR X id (fun x xs H Q=>r x xs H Q\/r' x xs H Q):=fun pins s σ H x xs v us Q I rx rs q =>
 q.elim (h pins s σ H x xs v us Q I rx rs) (h' pins s σ H x xs v us Q I rx rs)
theorem mt_extendT:MtR X "list.extend" (fun x vs H Q=>∃ l b xs zs,x=.ref l/\vs=[.ref b]/\H l=some (.lst xs)/\SqT X.K H b zs/\xs.length+zs.length<=sizeLine/\Q .non (upd H l (.lst (xs++zs)))):=by
 rintro pins s σ H x vs v us Q I rx rv ⟨l,b,xs,zs,rfl,rfl,hH,hB,hz,q⟩;cases rx;obtain ⟨u,rfl,ru⟩:=rv.one;cases ru;obtain ⟨z,ia,n,r,hl,e⟩:=I.lstM hH;obtain ⟨ib,r2,⟨⟨oc,od,dt,sl⟩,e2,c2,d2,n2,t2⟩,z2⟩:=I.tupleP hB;cases c2;cases d2;cases t2;have h2:=r2.length;refine call_meets F.slot_list_extend ⟨_,e,rfl⟩ F.entry_list_extend (F.args_list_extend_2 _ _) (ext_tupS l b n n2 sl (items:=ia.toArray) (more:=ib.toArray) ?_ ?_) ⟨e,e2,?_⟩
 ·rw [notLongL (by rw [List.size_toArray,List.size_toArray];omega),Bool.and_false];exact Bool.false_ne_true
 ·rw [List.size_toArray,List.size_toArray];omega
 ·refine ⟨.non,_,I.lset (its':=ia++ib) hH e (by simp) (r.append r2) ?_,rfl,q⟩;rw [List.length_append];omega
theorem mt_extendD:MtR X "list.extend" (rDM X.K extendD):=by
 refine MtR_imp (MtR.or mt_extend mt_extendT) ?_;rintro x xs H Q ⟨ρ,mh,dx,ds,d,mh',q,rs,rx,r,co⟩
 match ds,q with
 | [.ref m],q =>
  obtain ⟨v,rfl,rv⟩:=rds1 r;cases rv with
  | @ref _ b hb =>
   cases rx with
   | @ref n a hn =>
    simp only [extendD] at q;split at q
    ·rename_i es fs e1 e2;split at q
     ·rename_i hz;cases q;obtain ⟨a',ha,us,hu,ru⟩:=rs.at e1;obtain ⟨b',hb',ws,hw,rw'⟩:=rs.at e2;rw [hn] at ha;cases ha;rw [hb] at hb';cases hb';exact .inl ⟨a,b,us,ws,rfl,rfl,hu,hw,by rw [← ru.length,← rw'.length];exact hz,co _ ρ _ (Ev.lst hu) (rs.setL hn hu (ru.append rw')) .non⟩
     ·cases q
    ·cases q
   | _=>cases q
 | [],q=>cases dx <;> cases q
 | .non::_,q=>cases dx <;> simp [extendD] at q
 | .bl _::_,q=>cases dx <;> simp [extendD] at q
 | .str _::_,q=>cases dx <;> simp [extendD] at q
 | [.tup ys],q =>
  obtain ⟨v,rfl,rv⟩:=rds1 r;cases rv with
  | @tup _ b zs hb rz =>
   cases rx with
   | @ref n a hn =>
    simp only [extendD] at q;split at q
    ·rename_i es e1;split at q
     ·rename_i hz;cases q;obtain ⟨a',ha,us,hu,ru⟩:=rs.at e1;rw [hn] at ha;cases ha;exact .inr ⟨a,b,us,zs,rfl,rfl,hu,hb,by rw [← ru.length,← rz.length];exact hz,co _ ρ _ (Ev.lst hu) (rs.setL hn hu (ru.append rz)) .non⟩
     ·cases q
    ·cases q
   | _=>cases q
 | .tup _::_::_,q=>cases dx <;> simp [extendD] at q
 | .int _::_,q=>cases dx <;> simp [extendD] at q
 | .rol _::_,q=>cases dx <;> simp [extendD] at q
 | .obj ..::_,q=>cases dx <;> simp [extendD] at q
 | .fn _::_,q=>cases dx <;> simp [extendD] at q
 | .lam::_,q=>cases dx <;> simp [extendD] at q
 | .ref _::_::_,q=>cases dx <;> simp [extendD] at q
end
section
variable {X:Cx}{pins:List (Addr×Obj)}{σ:L2.St}{H:Hp}{s:Shared}{fp:List Addr}{h':Heap}
theorem inv_turns {t':Nat}(I:Inv X pins σ H s) (k:∀ b o,b ∉ fp->s.heap.get? b=some o->h'.get? b=some o) (hf:∀ b∈fp,FpOk X pins H b):Inv X pins σ H { s with heap:=h',toks:=t' }:=by
 have nf:∀ b u,H b=some u->b ∉ fp:=fun b u e z=>by rw [(hf b z).1] at e;cases e
 refine I.step (g':=s.gens) (d':=s.drawn) (ch:=fp) (fun b hb=>⟨(hf b hb).2.2.2.1,(hf b hb).2.1,(hf b hb).2.2.2.2.1,(hf b hb).2.2.2.2.2⟩) (fun b o _ _ hc e _=>k b o hc e) (fun b o _ _ hc e _=>⟨o.slots,k b o hc e⟩) (fun _ _ _ _ n=>n)
  (fun b o hc e=>⟨o,k b o hc e⟩) (fun _ _ e=>e) (fun _ _ _ e=>e) (fun b ps e=>⟨#[],by rw [e];simp⟩) (fun m hm=>?_) (fun b u e=>?_) I.bare
 ·obtain ⟨o,es,ep,ho,r⟩:=hm;exact ⟨o,es,ep,k _ o (fun z=>(hf _ z).2.1 rfl) ho,r⟩
 ·refine (I.hok b u e).stay (fun c v hc q=>k c v ?_ q) (fun _ q=>q) fun _ _ q=>q
  rcases hc with z|z
  ·rw [z];exact nf b u e
  ·exact nf c _ z
theorem inv_turns_new {t':Nat}{a:Addr}{o:HO}(I:Inv X pins σ H s) (k:∀ b o,b ∉ fp->s.heap.get? b=some o->h'.get? b=some o) (hf:∀ b∈fp,FpOk X pins H b) (hp:s.heap.objs.size<=a) (new:ObjOk X.prog X.w (upd H a o) h' a o) :
  Inv X pins σ (upd H a o) { s with heap:=h',toks:=t' }:=by
 have hn:H a=none:=I.hok.fresh hp;have nb:∀ b u,H b=some u->upd H a o b=some u:=fun b u e=>by rw [upd_ne (ne_of_none e hn)];exact e
 have nf:∀ b u,H b=some u->b ∉ fp:=fun b u e z=>by rw [(hf b z).1] at e;cases e
 refine I.step (g':=s.gens) (d':=s.drawn) (ch:=fp) (fun b hb=>⟨(hf b hb).2.2.2.1,(hf b hb).2.1,(hf b hb).2.2.2.2.1,(hf b hb).2.2.2.2.2⟩) (fun b o _ _ hc e _=>k b o hc e) (fun b o _ _ hc e _=>⟨o.slots,k b o hc e⟩) (fun b o' hc e n=>?_)
  (fun b o hc e=>⟨o,k b o hc e⟩) (fun b xs e=>nb _ _ e) (fun b o u e=>nb _ _ e) (fun b ps e=>⟨#[],by rw [nb _ _ e];simp⟩) (fun m hm=>?_) (fun b u e=>?_) I.bare
 ·rw [upd_ne (Nat.ne_of_lt (Nat.lt_of_lt_of_le (Heap.lt_size e) hp))];exact n
 ·obtain ⟨o,es,ep,ho,r⟩:=hm;exact ⟨o,es,ep,k _ o (fun z=>(hf _ z).2.1 rfl) ho,r⟩
 ·by_cases hb:b=a
  ·subst hb;rw [upd_same] at e;cases e;exact new
  ·rw [upd_ne hb] at e;refine (I.hok b u e).stay (fun c v hc q=>k c v ?_ q) (fun c q=>nb _ _ q) fun c xs q=>nb _ _ q
   rcases hc with z|z
   ·rw [z];exact nf b u e
   ·exact nf c _ z
end
section
variable {prog:Program}{w:World}{A:Around}{E:Value->Shared->Prop}{s:Shared}
theorem tup_next {it l:Addr}{i:Nat}{items:Array Value}{x:Value}{Q:Value->Shared->Prop}(hit:s.heap.IsTupleIter it l i) (hl:s.heap.IsTuple l items) (hx:items[i]?=some x)
  (hQ:∀ h',h'.IsTupleIter it l (i+1)->Heap.SameBut it s.heap h'->Q x { s with heap:=h' }):wpAny (model prog w) A (Builtin.SmallTypes.nextOf (.ref it)) Q E s:=by
 obtain ⟨o,ho,hc,hd⟩:=id hit;obtain ⟨ol,hol,_,nl,hdl⟩:=hl;unfold Builtin.SmallTypes.nextOf
 refine wpAny_bind (wpAny_callSpecial?_slot (name:=Str.ofString "__next__") hit.typeIs F.slot_tuple_iterator_next (wpAny_call_entry F.slot_tuple_iterator_next hit.typeIs F.entry_tuple_iterator_next ?_ (F.args_tuple_iterator_next_1 _)));show wpAny _ _ (field (.ref it) 0 >>= _) _ _ s;refine wpAny_bind (wpAny_field ho hd (x:=.ref l) rfl ?_);show wpAny _ _ (if (Value.ref l==Value.none)=true then _ else _) _ _ s;rw [if_neg (show ¬ ((Value.ref l==Value.none)=true) from Bool.false_ne_true)];show wpAny _ _ (field (.ref it) 1 >>= _) _ _ s;refine wpAny_bind (wpAny_field ho hd (x:=.int i 0) rfl ?_);show wpAny _ _ (seqItems? (.ref l) >>= _) _ _ s;refine wpAny_bind (wpAny_seqItems hol hdl ?_);simp only [Int.toNat_natCast,hx];refine wpAny_bind (wpAny_setField ho hd (by simp) (wpAny_pure ⟨x,rfl,wpAny_pure (hQ _ ⟨_,Heap.get?_update_self _ ho (Obj.isFreed_of_fields (Obj.data_mapFields hd _)),(Obj.cls_mapFields ..).trans hc,?_⟩ (Heap.SameBut.update ..))⟩));rw [Obj.data_mapFields hd];simp [rawInt]
theorem tup_stop {it l:Addr}{i:Nat}{items:Array Value}{Q:Value->Shared->Prop}(hh:A.handled=none) (hit:s.heap.IsTupleIter it l i) (hl:s.heap.IsTuple l items) (hx:items[i]?=none)
  (hE:∀ h' e,Heap.ExtBut it s.heap h'->(∃ o,h'.get? e=some o/\o.cls=.type "StopIteration")->E (.ref e) { s with heap:=h' }):wpAny (model prog w) A (Builtin.SmallTypes.nextOf (.ref it)) Q E s:=by
 obtain ⟨o,ho,hc,hd⟩:=id hit;obtain ⟨ol,hol,_,nl,hdl⟩:=hl;unfold Builtin.SmallTypes.nextOf
 refine wpAny_bind (wpAny_callSpecial?_slot (name:=Str.ofString "__next__") hit.typeIs F.slot_tuple_iterator_next (wpAny_call_entry F.slot_tuple_iterator_next hit.typeIs F.entry_tuple_iterator_next ?_ (F.args_tuple_iterator_next_1 _)));show wpAny _ _ (field (.ref it) 0 >>= _) _ _ s;refine wpAny_bind (wpAny_field ho hd (x:=.ref l) rfl ?_);show wpAny _ _ (if (Value.ref l==Value.none)=true then _ else _) _ _ s;rw [if_neg (show ¬ ((Value.ref l==Value.none)=true) from Bool.false_ne_true)];show wpAny _ _ (field (.ref it) 1 >>= _) _ _ s;refine wpAny_bind (wpAny_field ho hd (x:=.int i 0) rfl ?_);show wpAny _ _ (seqItems? (.ref l) >>= _) _ _ s;refine wpAny_bind (wpAny_seqItems hol hdl ?_);simp only [Int.toNat_natCast,hx]
 refine wpAny_bind (wpAny_rule (wpAny_bind (wpAny_setField ho hd (by simp) ?_)));show wpAny _ _ (newExc (.type "StopIteration") [] >>= _) _ _ _;refine wpAny_bind ?_;simp only [newExc,newTuple];refine wpAny_bind (wpAny_newObj_type ?_ (by size_fits));refine wpAny_bind (m:=firstArgMember _ _) (wpAny_of_eq (a:=Value.none) (by first | rfl | (simp only [firstArgMember];rfl)) ?_);refine wpAny_newObj_type ?_ (by size_fits);simp only [raiseNew];refine wpAny_bind (wpAny_handled ?_);first | rw [show A.in1.handled=none from hh] | rw [hh]
 refine wpAny_bind (wpAny_pure (wpAny_throw (hE _ _ (((Heap.SameBut.update ..).extBut.push _).push _) ⟨_,Heap.get?_push_size _ rfl,rfl⟩)))
theorem tup_draws (hh:A.handled=none) (it l:Addr) (hne:l≠it) (items:Array Value):Draws prog w A it [it,l] items.size (fun i v=>items[i]?=some v) (fun i h=>h.IsTupleIter it l i/\h.IsTuple l items) where
 live:=fun _ _ st=>let ⟨o,ho,_⟩:=st.1;⟨o,ho⟩
 frame:=fun _ _ _ st hk=>⟨let ⟨o,ho,r⟩:=st.1;⟨o,hk it (by simp) o ho,r⟩,let ⟨o,ho,r⟩:=st.2;⟨o,hk l (by simp) o ho,r⟩⟩
 item:=fun i s Q E hi st hQ=>tup_next st.1 st.2 (x:=items[i]) (by simp [hi]) fun h' hit' hs'=>hQ _ h' s.toks (by simp [hi]) ⟨hit',st.2.extBut hs'.extBut hne⟩ hs'
 done:=fun s Q E st hE=>tup_stop hh st.1 st.2 (by simp) hE
end
theorem k_ne {X:Cx}{pins:List (Addr×Obj)}{σ:L2.St}{H:Hp}{s:Shared}{a b:Addr}{o:Obj}(I:Inv X pins σ H s) (e:X.K.lookup a=some o) (f:FpOk X pins H b):a≠b:=fun z=>by
 have hb:=I.ok.mod.kin a o e;rcases f.2.2.2.1 with q|q
 ·exact I.ok.noex a o hb (z ▸ q)
 ·have h1:a < X.base.objs.size:=Heap.lt_size hb;have h2:=I.ok.bsz;have h3:X.s₀.heap.objs.size<=a:=z ▸ q;exact absurd (Nat.lt_of_lt_of_le h1 h2) (Nat.not_lt.mpr h3)
theorem rd_ne {H:Hp}{a b:Addr}{u:HO}(h:Rd H a u) (f:H b=none):a≠b:=fun z=>by
 rcases h with h | ⟨o,h⟩ <;> (rw [z,f] at h;cases h)
structure SeqK where
 sq:PySem.W.Frag->Hp->Addr->List V->Prop
 isIt:Heap->Addr->Addr->Nat->Prop
 isSeq:Heap->Addr->Array Value->Prop
 cls:String
 get:∀ {X:Cx} {pins:List (Addr×Obj)} {σ:L2.St} {H:Hp} {s:Shared} {a:Addr} {xs:List V},Inv X pins σ H s->sq X.K H a xs->∃ its:List Value,Vals xs its/\isSeq s.heap a its.toArray/\xs.length<=sizeLine
 inj:∀ {X:Cx} {pins:List (Addr×Obj)} {σ:L2.St} {H:Hp} {s:Shared} {a:Addr} {xs ys:List V},Inv X pins σ H s->sq X.K H a xs->sq X.K H a ys->xs=ys
 itO:∀ {h:Heap} {it l:Addr} {i:Nat},isIt h it l i->∃ o,h.get? it=some o/\o.cls=.type cls/\∃ vs,o.data=.fields vs
 itK:∀ {h h':Heap} {it l:Addr} {i:Nat},isIt h it l i->(∀ o,h.get? it=some o->h'.get? it=some o)->isIt h' it l i
 seqO:∀ {h:Heap} {l:Addr} {items:Array Value},isSeq h l items->∃ o,h.get? l=some o/\∃ n,o.data=.seq items n
 seqK:∀ {h h':Heap} {l:Addr} {items:Array Value},isSeq h l items->(∀ o,h.get? l=some o->h'.get? l=some o)->isSeq h' l items
 draws:∀ {prog:Program} {w:World} {A:Around},A.handled=none->∀ (it l:Addr),l≠it->∀ (items:Array Value),Draws prog w A it [it,l] items.size (fun i v=>items[i]?=some v) (fun i h=>isIt h it l i/\isSeq h l items)
 iter:∀ {prog:Program} {w:World} {A:Around} {E:Value->Shared->Prop} {s:Shared} {l:Addr} {items:Array Value} {Q:Value->Shared->Prop},isSeq s.heap l items ->
  Q (.ref s.heap.objs.size) { s with heap:=s.heap.push { cls:=.type cls,data:=.fields #[.ref l,.int 0 0] } }->wpAny (model prog w) A (pyIter (.ref l)) Q E s
 stop:∀ {prog:Program} {w:World} {A:Around} {E:Value->Shared->Prop} {s:Shared} {it l:Addr} {i:Nat} {items:Array Value} {Q:Value->Shared->Prop},A.handled=none->isIt s.heap it l i->isSeq s.heap l items->items[i]?=none ->
  (∀ h' e,Heap.ExtBut it s.heap h'->(∃ o,h'.get? e=some o/\o.cls=.type "StopIteration")->E (.ref e) { s with heap:=h' })->wpAny (model prog w) A (Builtin.SmallTypes.nextOf (.ref it)) Q E s
 next:∀ {prog:Program} {w:World} {A:Around} {E:Value->Shared->Prop} {s:Shared} {it l:Addr} {i:Nat} {items:Array Value} {x:Value} {Q:Value->Shared->Prop},isIt s.heap it l i->isSeq s.heap l items->items[i]?=some x ->
  (∀ h',isIt h' it l (i+1)->Heap.SameBut it s.heap h'->Q x { s with heap:=h' })->wpAny (model prog w) A (Builtin.SmallTypes.nextOf (.ref it)) Q E s
 ne:∀ {X:Cx} {pins:List (Addr×Obj)} {σ:L2.St} {H:Hp} {s:Shared} {a b:Addr} {xs:List V},Inv X pins σ H s->sq X.K H a xs->FpOk X pins H b->a≠b
 new:∀ (h:Heap) (l:Addr),isIt (h.push { cls:=.type cls,data:=.fields #[.ref l,.int 0 0] }) h.objs.size l 0
noncomputable def seqL:SeqK where
 sq:=SqL
 isIt:=fun h it l i=>h.IsListIter it l i
 isSeq:=fun h l its=>h.IsList l its
 cls := "list_iterator"
 get:=fun I h=>let ⟨its,r,p,z⟩:=I.list h;⟨its,r,p.isList,z⟩
 inj:=fun I h h'=>I.list_inj h h'
 itO:=fun ⟨o,e,c,d⟩=>⟨o,e,c,_,d⟩
 itK:=fun st k=>st.at k
 seqO:=fun ⟨o,e,_,n,d⟩=>⟨o,e,n,d⟩
 seqK:=fun ⟨o,e,r⟩ k=>⟨o,k o e,r⟩
 draws:=fun hh it l hne items=>Draws.list hh it l hne items
 iter:=fun hs q=>wpAny_pyIter_list hs q
 stop:=fun hh a b c d=>wpAny_nextOf_list_end hh a b c d
 next:=fun a b c d=>wpAny_nextOf_list_item a b c d
 ne:=fun I h f=>by
  rcases h with h|⟨o,its,n,hk,_⟩
  ·exact rd_ne h f.1
  ·exact k_ne I hk f
 new:=fun h l=>⟨_,Heap.get?_push_size _ rfl,rfl,rfl⟩
noncomputable def seqT:SeqK where
 sq:=SqT
 isIt:=fun h it l i=>h.IsTupleIter it l i
 isSeq:=fun h l its=>h.IsTuple l its
 cls := "tuple_iterator"
 get:=fun I h=>let ⟨its,r,p,z⟩:=I.tuple h;⟨its,r,p,z⟩
 inj:=fun I h h'=>I.tuple_inj h h'
 itO:=fun ⟨o,e,c,d⟩=>⟨o,e,c,_,d⟩
 itK:=fun ⟨o,e,r⟩ k=>⟨o,k o e,r⟩
 seqO:=fun ⟨o,e,_,n,d⟩=>⟨o,e,n,d⟩
 seqK:=fun ⟨o,e,r⟩ k=>⟨o,k o e,r⟩
 draws:=fun hh it l hne items=>tup_draws hh it l hne items
 iter:=fun hs q=>wpAny_pyIter_tuple hs q
 stop:=fun hh a b c d=>tup_stop hh a b c d
 next:=fun a b c d=>tup_next a b c d
 ne:=fun I h f=>by
  rcases h with h|⟨o,its,n,hk,_⟩
  ·exact rd_ne h f.1
  ·exact k_ne I hk f
 new:=fun h l=>⟨_,Heap.get?_push_size _ rfl,rfl,rfl⟩
noncomputable def Ite (k:SeqK) (K:PySem.W.Frag) (a:Addr):It :=
 ⟨fun i H=>∃ xs x,k.sq K H a xs/\xs[i]?=some x,fun i H y H'=>∃ T x,H T=none/\y=.ref T/\(∀ xs,k.sq K H a xs->xs[i]?=some x)/\H'=upd H T (.tup [.int i,x]),fun i H=>∃ xs,k.sq K H a xs/\xs.length<=i⟩
section
variable {prog:Program}{w:World}{A:Around}{E:Value->Shared->Prop}{s:Shared}
end
structure SR (k:SeqK) (K:PySem.W.Frag) (H0:Hp) (ρ0:List Addr) (src:Src) (a:Addr):Prop where
 rd:∀ H ρ mh,Ev K H0 ρ0 H ρ->RS K H ρ mh->src.ok mh=true->∃ xs,k.sq K H a xs/\RDs K H ρ (src.items mh) xs
 ok:∀ (mh:MH) (i:Nat) (d:D),(src.items mh)[i]?=some d->src.ok mh=true
theorem SR.tup {K:PySem.W.Frag}{H0:Hp}{ρ0:List Addr}{ds:List D}{a:Addr}{xs:List V}(s:SqT K H0 a xs) (r:RDs K H0 ρ0 ds xs):SR seqT K H0 ρ0 (.seq ds) a :=
 ⟨fun H ρ mh e rs _=>⟨xs,e.tup _ _ s,r.mono e⟩,fun _ _ _ _=>rfl⟩
theorem SR.rol {K:PySem.W.Frag}{H0:Hp}{ρ0:List Addr}{ds:List D}{a:Addr}{xs:List V}(s:PermL K H0 a xs) (r:RDs K H0 ρ0 ds xs):SR seqL K H0 ρ0 (.seq ds) a :=
 ⟨fun H ρ mh e rs _=>⟨xs,(e.perm _ _ s).sq,r.mono e⟩,fun _ _ _ _=>rfl⟩
theorem SR.lst {K:PySem.W.Frag}{H0:Hp}{ρ0:List Addr}{n:Nat}{a:Addr}(h:ρ0[n]?=some a):SR seqL K H0 ρ0 (.lref n) a:=by
 refine ⟨fun H ρ mh e rs ok=>?_,fun mh i d q=>?_⟩
 ·have ok:(match mh[n]? with | some (.lst _)=>true | _=>false)=true:=ok;obtain ⟨o,eo⟩:∃ o,mh[n]?=some (.lst o):=by
   split at ok
   ·exact ⟨_,‹_›⟩
   ·cases ok
  obtain ⟨a',ha,ro⟩:=rs.at eo;rw [e.at h] at ha;cases ha;obtain ⟨xs,sq,r⟩:=ro.read;refine ⟨xs,sq,?_⟩;show RDs K H ρ (match mh[n]? with | some (.lst o)=>o | _=>[]) xs;rw [eo];exact r
 ·have q:(match mh[n]? with | some (.lst o)=>o | _=>[])[i]?=some d:=q;show (match mh[n]? with | some (.lst _)=>true | _=>false)=true;split at q
  ·rfl
  ·simp at q
theorem enumL_get:∀ (l:List D) (j i:Nat),(enumL j l)[i]?=(l[i]?).map fun d=>D.tup [.int ((j+i:Nat):Int),d]
 | [],_,_=>by simp [enumL]
 | d::r,j,0=>by simp [enumL]
 | d::r,j,i+1=>by
  show (enumL (j+1) r)[i]?=_;rw [enumL_get r (j+1) i,List.getElem?_cons_succ];have e:j+1+i=j+(i+1):=by omega
  rw [e]
theorem enumL_len:∀ (l:List D) (j:Nat),(enumL j l).length=l.length
 | [],_=>rfl
 | _::r,j=>by show (enumL (j+1) r).length+1=r.length+1;rw [enumL_len r]
theorem JR.enum {k:SeqK}{K:PySem.W.Frag}{H0:Hp}{ρ0:List Addr}{src:Src}{a:Addr}(S:SR k K H0 ρ0 src a):JR K H0 ρ0 (.enum src) (Ite k K a) where
 go:=fun H ρ mh i d e rs q=>by
  have q:(enumL 0 (src.items mh))[i]?=some d:=q;rw [enumL_get] at q;cases e1:(src.items mh)[i]? with
  | none=>rw [e1] at q;cases q
  | some d' =>
   rw [e1] at q;cases q;obtain ⟨xs,sq,r⟩:=S.rd H ρ mh e rs (S.ok mh i d' e1);obtain ⟨v,ev,rv⟩:=r.get e1;refine ⟨⟨xs,v,sq,ev⟩,?_⟩;rintro x H' ⟨T,x',hT,h1,h2,h3⟩;subst h1;subst h3;have:=h2 xs sq;rw [ev] at this;cases this;refine ⟨Ev.new hT,rs.new hT,.tup (.inl (.inl upd_same)) (.cons ?_ (.cons (rv.mono (Ev.new hT)) .nil))⟩;rw [Nat.zero_add];exact .int _
 stop:=fun H ρ mh i e rs q=>by
  have q:(src.ok mh&&decide ((enumL 0 (src.items mh)).length<=i))=true:=q;rw [Bool.and_eq_true,enumL_len] at q;obtain ⟨xs,sq,r⟩:=S.rd H ρ mh e rs q.1;exact ⟨xs,sq,by rw [← r.length];exact of_decide_eq_true q.2⟩
noncomputable def enumM (ma:DM D):DM Src:=ma.bnd fun x=>fun _ mh=>match srcOf x mh with | some s=>some (.enum s,mh) | none=>none
section
variable {X:Cx}
end
section
variable {X:Cx}
noncomputable def listRngD (x:D) (mh:MH):Option (D×MH):=match x with
 | .int j=>if -(2 ^ 62)<=j/\j<=1000000 then some (.ref mh.length,mh++[.lst (rangeL 0 j.toNat)]) else none
 | _=>none
noncomputable def tupRngD (x:D) (mh:MH):Option (D×MH):=match x with
 | .int j=>if -(2 ^ 62)<=j/\j<=1000000 then some (.tup (rangeL 0 j.toNat),mh) else none
 | _=>none
variable {a:Expr}{ma:DM D}{p p2 pos pos2:Pos}
end
end DL
namespace DL
open PySem PySem.Spec PyProof.Rows L2 PySem.W
noncomputable def sortI (ns:List Int):List Int:=ns.mergeSort fun a b=>decide (a<=b)
theorem sortI_perm (ns:List Int):(sortI ns).Perm ns:=List.mergeSort_perm _ _
theorem sortI_le (ns:List Int):(sortI ns).Pairwise (·<=·):=by
 have h:=List.pairwise_mergeSort (le:=fun a b:Int=>decide (a<=b)) (fun a b c h1 h2=>by simp at *;omega) (fun a b=>by simp;omega) ns;exact h.imp fun h=>by simpa using h
theorem sortI_of {ns l:List Int}(p:l.Perm ns) (h:l.Pairwise (·<=·)):l=sortI ns:=sort_one (p.trans (sortI_perm ns).symm) h (sortI_le ns)
section
variable {prog:Program}{w:World}{A:Around}{E:Value->Shared->Prop}{κ:SortKind}{it:Array Keyed}{s:Shared}
end
theorem ints_vals:∀ {ns:List Int}{us:List Value},Vals (ns.map V.int) us->IntsAre us ns
 | [],_,.nil=>.nil
 | _::_,_,.cons ⟨t,e⟩ h=>by subst e;exact .cons _ _ (ints_vals h)
noncomputable def TI (h:Heap) (v:Value) (ns:List Int):Prop:=∃ (a:Addr) (o:Obj) (its:List Value) (n:Nat),v=.ref a/\h.get? a=some o/\o.cls=.type "tuple"/\o.data=.seq its.toArray n/\IntsAre its ns
section
variable {prog:Program}{w:World}{A:Around}{E:Value->Shared->Prop}{s:Shared}
end
noncomputable def sortedD:List D->MH->Option (D×MH)
 | [.ref n],mh=>match mh[n]? with
  | some (.lst ds)=>match intsOf ds with
   | some ns=>if ns.length < 64 then some (.ref mh.length,mh++[.lst ((sortI ns).map .int)]) else none
   | none=>none
  | _=>none
 | _,_=>none
theorem sortedD_some {ds:List D}{mh mh':MH}{d:D}(q:sortedD ds mh=some (d,mh')):∃ n,ds=[.ref n]:=by
 unfold sortedD at q;split at q
 ·exact ⟨_,rfl⟩
 ·cases q
theorem sortedAll_ok (h:Heap) (vs:List Value) (out:Array Value):∃ c,(∀ b o,h.get? b=some o->(sortedAll h vs out).get? b=some o)/\(sortedAll h vs out).get? (h.objs.size+1)=some (seqObj "list" out c):=by
 have hsz:((h.push (seqObj "list" #[] 0)).update h.objs.size (Obj.mapSeq (·++vs.toArray))).objs.size=h.objs.size+1:=by
  rw [Heap.size_update,size_push']
 have hoL:(((h.push (seqObj "list" #[] 0)).update h.objs.size (Obj.mapSeq (·++vs.toArray))).push (seqObj "list" vs.toArray 0)).get? (h.objs.size+1)=some (seqObj "list" vs.toArray 0):=by
  rw [← hsz];exact Heap.get?_push_size _ rfl
 have keep:∀ b o,h.get? b=some o->(((h.push (seqObj "list" #[] 0)).update h.objs.size (Obj.mapSeq (·++vs.toArray))).push (seqObj "list" vs.toArray 0)).get? b=some o:=fun b o q=>by
  have hlt:b < h.objs.size:=Heap.lt_size q;rw [Heap.get?_push_ne _ _ _ (by rw [hsz];exact Nat.ne_of_lt (Nat.lt_succ_of_lt hlt)),Heap.get?_update_ne _ _ _ _ (Nat.ne_of_lt hlt),Heap.get?_push_ne _ _ _ (Nat.ne_of_lt hlt)];exact q
 obtain ⟨c,at'⟩:=sortedHeap_at (a:=h.objs.size+1) (vs:=vs) (n:=0) (out:=out) hoL;refine ⟨c,fun b o q=>?_,at'⟩;unfold sortedAll;rw [sortedHeap_old (Nat.ne_of_lt (Nat.lt_succ_of_lt (Heap.lt_size q))) (Heap.lt_size (keep b o q))];exact keep b o q
theorem rds_intsOf {K:PySem.W.Frag}{H:Hp}{ρ:List Addr}:∀ (ns:List Int),RDs K H ρ (ns.map D.int) (ns.map V.int)
 | []=>.nil
 | _::r=>.cons (.int _) (rds_intsOf r)
section
variable {X:Cx}
theorem call_sortedD:CallR X (.builtin "sorted") (rDs X.K sortedD):=by
 rintro pins s σ H xs us Q I r ⟨ρ,mh,ds,d,mh',q,rs,rd,co⟩;obtain ⟨n,rfl⟩:=sortedD_some q
 ·obtain ⟨v,rfl,rx⟩:=rds1 rd;obtain ⟨u,rfl,ru⟩:=vals1 r
  have q:(match mh[n]? with
   | some (.lst ds)=>(match intsOf ds with
    | some ns=>if ns.length < 64 then some (D.ref mh.length,mh++[.lst ((sortI ns).map .int)]) else none
    | none=>none)
   | _=>none)=some (d,mh'):=q
  split at q
  ·rename_i es en;obtain ⟨p,ys,rfl,hq,ry⟩:∃ p ys,v=.ref p/\SqL X.K H p ys/\RDs X.K H ρ es ys:=by
    cases rx with
    | ref h =>
     obtain ⟨a',ha,ro⟩:=rs.at en;rw [h] at ha;cases ha;obtain ⟨xs,q,r⟩:=ro.read;exact ⟨_,xs,rfl,q,r⟩
   cases ru;obtain ⟨its,rv,pl,hz⟩:=I.list hq;split at q
   ·rename_i ns ei;split at q
    ·rename_i h64;cases q;rw [intsOf_some ei] at ry;rw [rds_ints ry] at hq rv;have hlen:=rv.length;refine sorted_ints pl.isList (ints_vals rv) (by simp at hlen;omega) fun out ns' a1 a2 a3=>?_
     have es':ns'=sortI ns:=sortI_of a2 a3;subst es';obtain ⟨c,kp,at'⟩:=sortedAll_ok s.heap its out;refine ⟨.ref (s.heap.objs.size+1),_,I.laid (t':=s.toks) (a:=s.heap.objs.size+1) (o:=.lst ((sortI ns).map V.int)) kp (Nat.le_succ _) ⟨?_,out.toList,c,vals_ints a1,?_⟩,rfl,Co.newL rs (rds_intsOf (sortI ns)) co _ (I.hok.fresh (Nat.le_succ _))⟩
     ·rw [List.length_map,(sortI_perm ns).length_eq,sizeLine_eq];omega
     ·rw [at']
    ·cases q
   ·cases q
  ·cases q
end
end DL
namespace DL
open PySem PySem.Spec PyProof.Rows L2
structure ZNe (z TI TO i1 i2:Addr):Prop where
 TIz:TI≠z
 TOz:TO≠z
 i1z:i1≠z
 i2z:i2≠z
 TITO:TI≠TO
 TIi1:TI≠i1
 TIi2:TI≠i2
 TOi1:TO≠i1
 TOi2:TO≠i2
 i12:i1≠i2
section
variable {prog:Program}{w:World}{A:Around}{E:Value->Shared->Prop}{s:Shared}
theorem zip_itemK (k1 k2:SeqK) {z TI TO i1 i2 l1 l2:Addr}{i:Nat}{xs ys:Array Value}{x y a b:Value}{Q:Value->Shared->Prop}(D:ZNe z TI TO i1 i2) (l1z:l1≠z) (l1TO:l1≠TO) (l1i1:l1≠i1) (l2z:l2≠z) (l2TO:l2≠TO) (l2i1:l2≠i1)
  (hz:IsZip s.heap z TI TO .none) (hTI:IsPair s.heap TI (.ref i1) (.ref i2)) (hTO:IsPair s.heap TO a b) (h1:k1.isIt s.heap i1 l1 i) (h2:k2.isIt s.heap i2 l2 i) (hl1:k1.isSeq s.heap l1 xs) (hl2:k2.isSeq s.heap l2 ys) (hx:xs[i]?=some x) (hy:ys[i]?=some y)
  (hQ:∀ h',IsZip h' z TI TO (rawInt s.heap.objs.size)->IsPair h' TO x y->k1.isIt h' i1 l1 (i+1)->k2.isIt h' i2 l2 (i+1)->IsPair h' s.heap.objs.size x y->h'.objs.size=s.heap.objs.size+1 ->
   (∀ c o,c≠z->c≠TO->c≠i1->c≠i2->s.heap.get? c=some o->h'.get? c=some o)->Q (.ref s.heap.objs.size) { s with heap:=h' }) :
  wpAny (model prog w) A (Builtin.«zip.__next__» ⟨[.ref z],[]⟩) (fun fin s'=>∃ v,fin=.done (.ret v)/\Q v s') E s:=by
 show wpAny _ _ (field (.ref z) 2 >>= _) _ _ _;refine wpAny_bind (wpAny_field hz rfl (x:=.bool false) rfl ?_);show wpAny _ _ (field (.ref z) 3 >>= _) _ _ _;refine wpAny_bind (wpAny_field hz rfl (x:=.ref TI) rfl ?_);refine wpAny_bind (wpAny_seqItems hTI rfl ?_);show wpAny _ _ (Builtin.SmallTypes.ownedTupleIsFree (.ref z) >>= _) _ _ _;refine wpAny_bind ?_;unfold Builtin.SmallTypes.ownedTupleIsFree;refine wpAny_bind (wpAny_field hz rfl (x:=.none) rfl (wpAny_pure ?_));simp only [if_true];refine wpAny_bind (wpAny_rule ?_);refine wpAny_bind (wpAny_field hz rfl (x:=.ref TO) rfl ?_);refine wpAny_bind (wpAny_setField_rec hz (by simp) fun h₁ hz₁ hs₁=>?_);replace hz₁:IsZip h₁ z TI TO .ellipsis:=hz₁;refine wpAny_bind ?_;simp only [List.zipIdx_cons,List.zipIdx_nil,List.forIn_cons,List.forIn_nil];refine wpAny_bind (wpAny_bind (wpAny_onRaise ?_));show wpAny _ _ (Builtin.SmallTypes.nextOf (.ref i1) >>= _) _ _ _;refine wpAny_bind (k1.next (k1.itK h1 fun o e=>hs₁.extBut _ _ D.i1z e) (k1.seqK hl1 fun o e=>hs₁.extBut _ _ l1z e) hx fun h₂ h1₂ hs₂=>wpAny_pure ?_);have hTO₂:IsPair h₂ TO a b:=hs₂.extBut _ _ D.TOi1 (hs₁.extBut _ _ D.TOz hTO);refine wpAny_bind (wpAny_seqItems hTO₂ rfl ?_);refine wpAny_bind (wpAny_updateSeq_pair hTO₂ fun h₃ hTO₃ hs₃=>?_)
 replace hTO₃:IsPair h₃ TO x b:=hTO₃
 refine wpAny_bind (wpAny_letGo (wpAny_pure ?_));refine wpAny_bind (wpAny_bind (wpAny_onRaise ?_));show wpAny _ _ (Builtin.SmallTypes.nextOf (.ref i2) >>= _) _ _ _;refine wpAny_bind (k2.next (k2.itK h2 fun o e=>hs₃.extBut _ _ D.TOi2.symm (hs₂.extBut _ _ D.i12.symm (hs₁.extBut _ _ D.i2z e))) (k2.seqK hl2 fun o e=>hs₃.extBut _ _ l2TO (hs₂.extBut _ _ l2i1 (hs₁.extBut _ _ l2z e))) hy fun h₄ h2₄ hs₄=>wpAny_pure ?_);have hTO₄:IsPair h₄ TO x b:=hs₄.extBut _ _ D.TOi2 hTO₃;refine wpAny_bind (wpAny_seqItems hTO₄ rfl ?_);refine wpAny_bind (wpAny_updateSeq_pair hTO₄ fun h₅ hTO₅ hs₅=>?_)
 replace hTO₅:IsPair h₅ TO x y:=hTO₅
 refine wpAny_bind (wpAny_letGo (wpAny_pure (wpAny_pure ?_)));refine wpAny_bind (wpAny_seqItems hTO₅ rfl ?_);refine wpAny_bind (wpAny_newTuple ?_);have hsz:h₅.objs.size=s.heap.objs.size:=by rw [hs₅.1,hs₄.1,hs₃.1,hs₂.1,hs₁.1]
 have hz₅:IsZip h₅ z TI TO .ellipsis:=hs₅.extBut _ _ D.TOz.symm (hs₄.extBut _ _ D.i2z.symm (hs₃.extBut _ _ D.TOz.symm (hs₂.extBut _ _ D.i1z.symm hz₁)));have hk₅:∀ c o,c≠z->c≠TO->c≠i1->c≠i2->s.heap.get? c=some o->h₅.get? c=some o:=fun c o c1 c2 c3 c4 e=>hs₅.extBut _ _ c2 (hs₄.extBut _ _ c4 (hs₃.extBut _ _ c2 (hs₂.extBut _ _ c3 (hs₁.extBut _ _ c1 e))))
 have h1₅:k1.isIt h₅ i1 l1 (i+1):=k1.itK h1₂ fun o e=>hs₅.extBut _ _ D.TOi1.symm (hs₄.extBut _ _ D.i12 (hs₃.extBut _ _ D.TOi1.symm e))
 have h2₅:k2.isIt h₅ i2 l2 (i+1):=k2.itK h2₄ fun o e=>hs₅.extBut _ _ D.TOi2.symm e
 have hzlt:z < h₅.objs.size:=Heap.lt_size hz₅;show wpAny _ _ (Builtin.SmallTypes.ownedTupleHandOut (.ref z) (.ref h₅.objs.size) >>= _) _ _ _;refine wpAny_bind ?_;unfold Builtin.SmallTypes.ownedTupleHandOut
 have hz₆:IsZip (h₅.push { cls:=.type "tuple",data:=.seq #[x,y] }) z TI TO .ellipsis:=Heap.get?_push_of_some _ hz₅;refine wpAny_bind (wpAny_setField_rec hz₆ (by simp) fun h₇ hz₇ hs₇=>?_);replace hz₇:IsZip h₇ z TI TO (rawInt h₅.objs.size):=hz₇;refine wpAny_setField_rec hz₇ (by simp) fun h₈ hz₈ hs₈=>?_;replace hz₈:IsZip h₈ z TI TO (rawInt h₅.objs.size):=hz₈
 have up:∀ c o,c≠z->h₅.get? c=some o->h₈.get? c=some o:=fun c o c1 e=>hs₈.extBut _ _ c1 (hs₇.extBut _ _ c1 (Heap.get?_push_of_some _ e))
 have hT₈:IsPair h₈ h₅.objs.size x y:=hs₈.extBut _ _ (Nat.ne_of_gt hzlt) (hs₇.extBut _ _ (Nat.ne_of_gt hzlt) (Heap.get?_push_size _ rfl));have hz8:h₈.objs.size=h₅.objs.size+1:=by rw [hs₈.1,hs₇.1,Heap.size_push]
 rw [hsz] at hz₈ hT₈ hz8;refine wpAny_pure ⟨_,rfl,?_⟩;show Q (.ref h₅.objs.size) _;rw [hsz];exact hQ h₈ hz₈ (up _ _ D.TOz hTO₅) (k1.itK h1₅ fun o e=>up _ o D.i1z e) (k2.itK h2₅ fun o e=>up _ o D.i2z e) hT₈ hz8 fun c o c1 c2 c3 c4 e=>up c o c1 (hk₅ c o c1 c2 c3 c4 e)
theorem zip_stopK (k1 k2:SeqK) {z TI TO i1 i2 l1 l2:Addr}{i:Nat}{xs ys:Array Value}{a b:Value}{Q:Fin->Shared->Prop}(hh:A.handled=none) (D:ZNe z TI TO i1 i2) (l1z:l1≠z) (l2z:l2≠z) (l2TO:l2≠TO) (l2i1:l2≠i1)
  (hz:IsZip s.heap z TI TO .none) (hTI:IsPair s.heap TI (.ref i1) (.ref i2)) (hTO:IsPair s.heap TO a b) (h1:k1.isIt s.heap i1 l1 i) (h2:k2.isIt s.heap i2 l2 i) (hl1:k1.isSeq s.heap l1 xs) (hl2:k2.isSeq s.heap l2 ys) (hend:xs[i]?=none\/ys[i]?=none)
  (hE:∀ h' e,(∀ c o,c≠z->c≠TO->c≠i1->c≠i2->s.heap.get? c=some o->h'.get? c=some o)->(∃ o,h'.get? e=some o/\o.cls=.type "StopIteration")->E (.ref e) { s with heap:=h' }) :
  wpAny (model prog w) A (Builtin.«zip.__next__» ⟨[.ref z],[]⟩) Q E s:=by
 show wpAny _ _ (field (.ref z) 2 >>= _) _ _ _;refine wpAny_bind (wpAny_field hz rfl (x:=.bool false) rfl ?_);show wpAny _ _ (field (.ref z) 3 >>= _) _ _ _;refine wpAny_bind (wpAny_field hz rfl (x:=.ref TI) rfl ?_);refine wpAny_bind (wpAny_seqItems hTI rfl ?_);show wpAny _ _ (Builtin.SmallTypes.ownedTupleIsFree (.ref z) >>= _) _ _ _;refine wpAny_bind ?_;unfold Builtin.SmallTypes.ownedTupleIsFree;refine wpAny_bind (wpAny_field hz rfl (x:=.none) rfl (wpAny_pure ?_));simp only [if_true];refine wpAny_bind (wpAny_rule ?_);refine wpAny_bind (wpAny_field hz rfl (x:=.ref TO) rfl ?_);refine wpAny_bind (wpAny_setField_rec hz (by simp) fun h₁ hz₁ hs₁=>?_);replace hz₁:IsZip h₁ z TI TO .ellipsis:=hz₁;refine wpAny_bind ?_;simp only [List.zipIdx_cons,List.zipIdx_nil,List.forIn_cons,List.forIn_nil];refine wpAny_bind (wpAny_bind (wpAny_onRaise ?_));show wpAny _ _ (Builtin.SmallTypes.nextOf (.ref i1) >>= _) _ _ _;cases hx:xs[i]? with
 | none =>
  refine wpAny_bind (k1.stop hh (k1.itK h1 fun o e=>hs₁.extBut _ _ D.i1z e) (k1.seqK hl1 fun o e=>hs₁.extBut _ _ l1z e) hx fun h₂ e hs₂ he=>?_);obtain ⟨oe,hoe,hce⟩:=he;have hz₂:IsZip h₂ z TI TO .ellipsis:=hs₂ _ _ D.i1z.symm hz₁;have hez:e≠z:=fun x=>by subst x;rw [hz₂] at hoe;cases hoe;simp at hce
  exact wpAny_setField_rec hz₂ (by simp) fun h₃ _ hs₃=>hE h₃ e (fun c o c1 _ c3 _ x=>hs₃.extBut _ _ c1 (hs₂ _ _ c3 (hs₁.extBut _ _ c1 x))) ⟨oe,hs₃.extBut _ _ hez hoe,hce⟩
 | some x =>
  have hy:ys[i]?=none:=by rcases hend with h|h;rw [hx] at h;cases h;exact h
  refine wpAny_bind (k1.next (k1.itK h1 fun o e=>hs₁.extBut _ _ D.i1z e) (k1.seqK hl1 fun o e=>hs₁.extBut _ _ l1z e) hx fun h₂ h1₂ hs₂=>wpAny_pure ?_);have hTO₂:IsPair h₂ TO a b:=hs₂.extBut _ _ D.TOi1 (hs₁.extBut _ _ D.TOz hTO);refine wpAny_bind (wpAny_seqItems hTO₂ rfl ?_);refine wpAny_bind (wpAny_updateSeq_pair hTO₂ fun h₃ hTO₃ hs₃=>?_);refine wpAny_bind (wpAny_letGo (wpAny_pure ?_));refine wpAny_bind (wpAny_bind (wpAny_onRaise ?_));show wpAny _ _ (Builtin.SmallTypes.nextOf (.ref i2) >>= _) _ _ _;refine wpAny_bind (k2.stop hh (k2.itK h2 fun o e=>hs₃.extBut _ _ D.TOi2.symm (hs₂.extBut _ _ D.i12.symm (hs₁.extBut _ _ D.i2z e))) (k2.seqK hl2 fun o e=>hs₃.extBut _ _ l2TO (hs₂.extBut _ _ l2i1 (hs₁.extBut _ _ l2z e))) hy fun h₄ e hs₄ he=>?_);obtain ⟨oe,hoe,hce⟩:=he;have hz₄:IsZip h₄ z TI TO .ellipsis:=hs₄ _ _ D.i2z.symm (hs₃.extBut _ _ D.TOz.symm (hs₂.extBut _ _ D.i1z.symm hz₁));have hez:e≠z:=fun x=>by subst x;rw [hz₄] at hoe;cases hoe;simp at hce
  exact wpAny_setField_rec hz₄ (by simp) fun h₅ _ hs₅=>hE h₅ e (fun c o c1 c2 c3 c4 x=>hs₅.extBut _ _ c1 (hs₄ _ _ c4 (hs₃.extBut _ _ c2 (hs₂.extBut _ _ c3 (hs₁.extBut _ _ c1 x))))) ⟨oe,hs₅.extBut _ _ hez hoe,hce⟩
end
noncomputable def Itz (k1 k2:SeqK) (K:PySem.W.Frag) (l1 l2:Addr):It :=
  ⟨fun i H=>∃ xs ys x y,k1.sq K H l1 xs/\k2.sq K H l2 ys/\xs[i]?=some x/\ys[i]?=some y,
   fun i H v H'=>∃ T x y,H T=none/\v=.ref T/\(∀ xs,k1.sq K H l1 xs->xs[i]?=some x)/\(∀ ys,k2.sq K H l2 ys->ys[i]?=some y)/\H'=upd H T (.tup [x,y]),
   fun i H=>∃ xs ys,k1.sq K H l1 xs/\k2.sq K H l2 ys/\(xs.length<=i\/ys.length<=i)⟩
theorem turn_zip {P:Program}{w:World}{K:PySem.W.Frag}(k1 k2:SeqK) {elts:List Expr}{kk:Nat}{tp:Pos}(l1 l2 z TI TO i1 i2:Addr) (D:ZNe z TI TO i1 i2) :
  Turn P w K (.Tuple elts kk tp) (Itz k1 k2 K l1 l2) [z,TI,TO,i1,i2] z (fun i h=>IsZip h z TI TO .none/\IsPair h TI (.ref i1) (.ref i2)/\(∃ a b,IsPair h TO a b)/\k1.isIt h i1 l1 i/\k2.isIt h i2 l2 i) where
 mem:=by simp
 obj:=fun i h st b hb=>by
  obtain ⟨hz,hTI,⟨a,c,hTO⟩,h1,h2⟩:=st;have hb:b=z\/b=TI\/b=TO\/b=i1\/b=i2:=by simpa using hb
  rcases hb with rfl|rfl|rfl|rfl|rfl
  ·exact ⟨_,hz,fun v q=>by have q':Data.fields _=Data.cell v:=q;cases q'⟩
  ·exact ⟨_,hTI,fun v q=>by have q':Data.seq _ _=Data.cell v:=q;cases q'⟩
  ·exact ⟨_,hTO,fun v q=>by have q':Data.seq _ _=Data.cell v:=q;cases q'⟩
  ·obtain ⟨o,q,c,vs,d⟩:=k1.itO h1;exact ⟨o,q,fun v z=>by rw [d] at z;cases z⟩
  ·obtain ⟨o,q,c,vs,d⟩:=k2.itO h2;exact ⟨o,q,fun v z=>by rw [d] at z;cases z⟩
 keep:=fun i h h' st kp=>by
  obtain ⟨hz,hTI,⟨a,c,hTO⟩,h1,h2⟩:=st;exact ⟨kp z (by simp) _ hz,kp TI (by simp) _ hTI,⟨a,c,kp TO (by simp) _ hTO⟩,k1.itK h1 fun o q=>kp i1 (by simp) o q,k2.itK h2 fun o q=>kp i2 (by simp) o q⟩
 item:=by
  intro X hP hw hK hc i pins s σ H E I hf st hg;subst hP hw hK;obtain ⟨xs,ys,x,y,hq1,hq2,hx,hy⟩:=hg;obtain ⟨its1,rv1,p1,hz1⟩:=k1.get I hq1;obtain ⟨its2,rv2,p2,hz2⟩:=k2.get I hq2;obtain ⟨u1,hu1,ru1⟩:=rv1.get hx;obtain ⟨u2,hu2,ru2⟩:=rv2.get hy;obtain ⟨hz,hTI,⟨a,c,hTO⟩,h1,h2⟩:=st;have fz:=hf z (by simp);have fTO:=hf TO (by simp);have f1:=hf i1 (by simp)
  have hT:s.TypeIs (.ref z) "zip":=⟨_,hz,rfl⟩
  unfold pyNext
  refine wpAny_bind (wpAny_attempt (wpAny_callSpecial?_slot (name:=Str.ofString "__next__") hT F.slot_zip_next (wpAny_call_entry F.slot_zip_next hT F.entry_zip_next
   (zip_itemK k1 k2 (i:=i) D (k1.ne I hq1 fz) (k1.ne I hq1 fTO) (k1.ne I hq1 f1) (k2.ne I hq2 fz) (k2.ne I hq2 fTO) (k2.ne I hq2 f1) hz hTI hTO h1 h2 p1 p2 (x:=u1) (y:=u2) (by simpa using hu1) (by simpa using hu2) fun h' a1 a2 a3 a4 a5 a6 hk=>wpAny_pure ?_) (F.args_zip_next_1 _))))
  refine ⟨_,rfl,wpAny_letOwnedTupleGo_zip a1 fun h2' hz' hs'=>?_⟩;have zlt:z < s.heap.objs.size:=Heap.lt_size hz;have hT2:TupP h2' s.heap.objs.size #[u1,u2]:=⟨_,hs'.extBut _ _ (Nat.ne_of_gt zlt) a5,rfl,rfl,_,rfl⟩;have nb:∀ b,b ∉ [z,TI,TO,i1,i2]->b≠z/\b≠TO/\b≠i1/\b≠i2:=fun b hb=>by simp at hb;exact ⟨hb.1,hb.2.2.1,hb.2.2.2.1,hb.2.2.2.2⟩
  have I2:Inv X pins σ (upd H s.heap.objs.size (.tup [x,y])) { s with heap:=h2' }:=inv_turns_new (t':=s.toks) (fp:=[z,TI,TO,i1,i2]) I (fun b o hb q=>hs'.extBut b o (nb b hb).1 (hk b o (nb b hb).1 (nb b hb).2.1 (nb b hb).2.2.1 (nb b hb).2.2.2 q)) hf (Nat.le_refl _) ⟨by simp [sizeLine_eq],[u1,u2],.cons ru1 (.cons ru2 .nil),hT2⟩;refine ⟨.ref s.heap.objs.size,_,I2,rfl,⟨s.heap.objs.size,x,y,I.hok.fresh (Nat.le_refl _),rfl,fun zs q=>by rw [k1.inj I q hq1];exact hx,fun zs q=>by rw [k2.inj I q hq2];exact hy,rfl⟩,⟨hz',hs'.extBut _ _ D.TIz (hk _ _ D.TIz D.TITO D.TIi1 D.TIi2 hTI),⟨_,_,hs'.extBut _ _ D.TOz a2⟩,k1.itK a3 fun o q=>hs'.extBut _ _ D.i1z q,k2.itK a4 fun o q=>hs'.extBut _ _ D.i2z q⟩,fun b hb=>?_⟩;rw [upd_ne ?_]
  ·exact (hf b hb).1
  ·intro q;have hb:b=z\/b=TI\/b=TO\/b=i1\/b=i2:=by simpa using hb
   have lt:b < s.heap.objs.size:=by
    rcases hb with e|e|e|e|e
    ·rw [e];exact zlt
    ·rw [e];exact Heap.lt_size hTI
    ·rw [e];exact Heap.lt_size hTO
    ·obtain ⟨o,q,_⟩:=k1.itO h1;rw [e];exact Heap.lt_size q
    ·obtain ⟨o,q,_⟩:=k2.itO h2;rw [e];exact Heap.lt_size q
   exact absurd q (Nat.ne_of_lt lt)
 done:=by
  intro X hP hw hK hc i pins s σ H E I hf st hg;subst hP hw hK;obtain ⟨xs,ys,hq1,hq2,hx⟩:=hg;obtain ⟨its1,rv1,p1,hz1⟩:=k1.get I hq1;obtain ⟨its2,rv2,p2,hz2⟩:=k2.get I hq2;obtain ⟨hz,hTI,⟨a,c,hTO⟩,h1,h2⟩:=st;have fz:=hf z (by simp);have fTO:=hf TO (by simp);have f1:=hf i1 (by simp)
  have hT:s.TypeIs (.ref z) "zip":=⟨_,hz,rfl⟩
  have e1:=rv1.length;have e2:=rv2.length;unfold pyNext
  refine wpAny_bind (wpAny_attempt (wpAny_callSpecial?_slot (name:=Str.ofString "__next__") hT F.slot_zip_next (wpAny_call_entry F.slot_zip_next hT F.entry_zip_next
   (zip_stopK k1 k2 (i:=i) (A:=X.A.in1) (I.ok.hd hc) D (k1.ne I hq1 fz) (k2.ne I hq2 fz) (k2.ne I hq2 fTO) (k2.ne I hq2 f1) hz hTI hTO h1 h2 p1 p2 ?_ fun h' e hk he=>?_) (F.args_zip_next_1 _))))
  ·rcases hx with q|q
   ·exact .inl (by simp;omega)
   ·exact .inr (by simp;omega)
  ·obtain ⟨o,ho,hcl⟩:=he
   refine wpAny_bind (wpAny_isInstance (T := "StopIteration") (b:=true) ⟨o,ho,hcl⟩ isSubtype_stop (wpAny_pure ⟨rfl,?_⟩))
   exact inv_turns (t':=s.toks) (fp:=[z,TI,TO,i1,i2]) I (fun b o hb q=>by
    simp at hb
    exact hk b o hb.1 hb.2.2.1 hb.2.2.2.1 hb.2.2.2.2 q) hf
 self:=fun _ i s Q E st h=>wpAny_pyIter_zip st.1 h
noncomputable abbrev zK1 (k1:SeqK) (h:Heap) (l1:Addr):Heap:=h.push { cls:=.type k1.cls,data:=.fields #[.ref l1,.int 0 0] }
noncomputable abbrev zK2 (k1 k2:SeqK) (h:Heap) (l1 l2:Addr):Heap:=(zK1 k1 h l1).push { cls:=.type k2.cls,data:=.fields #[.ref l2,.int 0 0] }
noncomputable abbrev zK3 (k1 k2:SeqK) (h:Heap) (l1 l2:Addr):Heap:=(zK2 k1 k2 h l1 l2).push { cls:=.type "tuple",data:=.seq #[.ref h.objs.size,.ref (zK1 k1 h l1).objs.size] }
noncomputable abbrev zK4 (k1 k2:SeqK) (h:Heap) (l1 l2:Addr):Heap:=(zK3 k1 k2 h l1 l2).push { cls:=.type "tuple",data:=.seq #[.none,.none] }
noncomputable abbrev zK5 (k1 k2:SeqK) (h:Heap) (l1 l2:Addr):Heap:=(zK4 k1 k2 h l1 l2).push { cls:=.type "zip",data:=.fields #[.none,.bool false,.bool false,.ref (zK2 k1 k2 h l1 l2).objs.size,.ref (zK3 k1 k2 h l1 l2).objs.size] }
theorem meets_zipK (k1 k2:SeqK) (l1 l2:Addr) (xs ys:Array Value) :
  Meets (Builtin.«zip.__new__» ⟨[.type "zip",.ref l1,.ref l2],[]⟩) (fun _ R s=>k1.isSeq s.heap l1 xs/\k2.isSeq s.heap l2 ys /\
   R (.ok (.ret (.ref (zK4 k1 k2 s.heap l1 l2).objs.size))) { s with heap:=zK5 k1 k2 s.heap l1 l2 }) :=
 .of_wp fun prog w A R s h=>by
  obtain ⟨hp,g,d,tk,os⟩:=s;obtain ⟨hl1,hl2,h⟩:=h;have hsub:=sub_zip;have hL1:k1.isSeq (Shared.heap ⟨hp,g,d,tk,os⟩) l1 xs:=hl1;have hL2:k2.isSeq (Shared.heap ⟨hp.push { cls:=.type k1.cls,data:=.fields #[.ref l1,.int 0 0] },g,d,tk,os⟩) l2 ys:=k2.seqK hl2 fun o e=>Heap.get?_push_of_some _ e
  wp_walk using k1.iter hL1,k2.iter hL2
  exact ⟨_,rfl,h⟩
section
variable {prog:Program}{w:World}{A:Around}{E:Value->Shared->Prop}{s:Shared}
theorem call_zipK (k1 k2:SeqK) {l1 l2:Addr}{xs ys:Array Value}{Q:Value->Shared->Prop}(hl1:k1.isSeq s.heap l1 xs) (hl2:k2.isSeq s.heap l2 ys)
  (h:∀ h',IsZip h' (s.heap.objs.size+4) (s.heap.objs.size+2) (s.heap.objs.size+3) .none->IsPair h' (s.heap.objs.size+2) (.ref s.heap.objs.size) (.ref (s.heap.objs.size+1)) ->
   IsPair h' (s.heap.objs.size+3) .none .none->k1.isIt h' s.heap.objs.size l1 0->k2.isIt h' (s.heap.objs.size+1) l2 0->h'.objs.size=s.heap.objs.size+5 ->
   (∀ c o,s.heap.get? c=some o->h'.get? c=some o)->Q (.ref (s.heap.objs.size+4)) { s with heap:=h' }) :
  wpAny (model prog w) A (call (.type "zip") [.ref l1,.ref l2]) Q E s:=by
 refine callType_new F.called_zip (by decide) (F.typeCall_zip_2 _ _) (F.newCall_zip_2 _ _) (fun obj=>F.args_object_init_3 obj _ _) F.entry_zip_new
  (meets_zipK k1 k2 l1 l2 xs ys) ⟨hl1,hl2,?_⟩
 have z1:(zK1 k1 s.heap l1).objs.size=s.heap.objs.size+1:=Heap.size_push ..;have z2:(zK2 k1 k2 s.heap l1 l2).objs.size=s.heap.objs.size+2:=by rw [Heap.size_push,z1]
 have z3:(zK3 k1 k2 s.heap l1 l2).objs.size=s.heap.objs.size+3:=by rw [Heap.size_push,z2]
 have z4:(zK4 k1 k2 s.heap l1 l2).objs.size=s.heap.objs.size+4:=by rw [Heap.size_push,z3]
 have z5:(zK5 k1 k2 s.heap l1 l2).objs.size=s.heap.objs.size+5:=by rw [Heap.size_push,z4]
 have g5:(zK5 k1 k2 s.heap l1 l2).get? (zK4 k1 k2 s.heap l1 l2).objs.size=some _:=Heap.get?_push_size _ rfl;have g4:(zK5 k1 k2 s.heap l1 l2).get? (zK3 k1 k2 s.heap l1 l2).objs.size=some _:=Heap.get?_push_of_some _ (Heap.get?_push_size _ rfl);have g3:(zK5 k1 k2 s.heap l1 l2).get? (zK2 k1 k2 s.heap l1 l2).objs.size=some _:=Heap.get?_push_of_some _ (Heap.get?_push_of_some _ (Heap.get?_push_size _ rfl));have g2:(zK5 k1 k2 s.heap l1 l2).get? (zK1 k1 s.heap l1).objs.size=some _:=Heap.get?_push_of_some _ (Heap.get?_push_of_some _ (Heap.get?_push_of_some _ (Heap.get?_push_size _ rfl)));have g1:(zK5 k1 k2 s.heap l1 l2).get? s.heap.objs.size=some _:=Heap.get?_push_of_some _ (Heap.get?_push_of_some _ (Heap.get?_push_of_some _ (Heap.get?_push_of_some _ (Heap.get?_push_size _ rfl))));show _/\_;rw [z2,z3,z4] at g5;rw [z1,z2] at g3;rw [z3] at g4;rw [z1] at g2;rw [z4]
 exact ⟨⟨_,g5,rfl⟩,h _ g5 g3 g4 (k1.itK (k1.new s.heap l1) fun o e=>Heap.get?_push_of_some _ (Heap.get?_push_of_some _ (Heap.get?_push_of_some _ (Heap.get?_push_of_some _ e)))) (by
  have:=k2.itK (h':=zK5 k1 k2 s.heap l1 l2) (k2.new (zK1 k1 s.heap l1) l2) fun o e=>Heap.get?_push_of_some _ (Heap.get?_push_of_some _ (Heap.get?_push_of_some _ e))
  rw [z1] at this
  exact this) z5 fun c o x =>
  Heap.get?_push_of_some _ (Heap.get?_push_of_some _ (Heap.get?_push_of_some _ (Heap.get?_push_of_some _ (Heap.get?_push_of_some _ x))))⟩
end
noncomputable def zipS:List D->MH->Option (Src×MH)
 | [x,y],mh=>match srcOf x mh,srcOf y mh with
  | some s,some t=>some (.zip s t,mh)
  | _,_=>none
 | _,_=>none
noncomputable def zipM (mr:DM (List D)):DM Src:=mr.bnd fun ds=>fun _ mh=>zipS ds mh
theorem src_sr {K:PySem.W.Frag}{H:Hp}{ρ:List Addr}{mh:MH}{x:D}{v:V}{s:Src}(rs:RS K H ρ mh) (r:RD K H ρ x v) (e:srcOf x mh=some s):∃ (k:SeqK) (a:Addr) (xs:List V),v=.ref a/\SR k K H ρ s a/\k.sq K H a xs:=by
 cases x with
 | tup ds =>
  cases e;cases r with
  | tup sq r=>exact ⟨seqT,_,_,rfl,SR.tup sq r,sq⟩
 | ref n =>
  cases eo:mh[n]? with
  | none=>simp only [srcOf,eo] at e;cases e
  | some ob =>
   cases ob with
   | dct kvs=>simp only [srcOf,eo] at e;cases e
   | plc=>simp only [srcOf,eo] at e;cases e
   | lst o =>
   simp only [srcOf,eo] at e;cases e;cases r with
   | @ref _ a' h =>
    obtain ⟨a2,ha2,ro⟩:=rs.at eo;rw [h] at ha2;cases ha2;obtain ⟨xs,sq,r⟩:=ro.read;exact ⟨seqL,_,xs,rfl,SR.lst h,sq⟩
 | rol ds =>
  cases e;cases r with
  | rol sq r=>exact ⟨seqL,_,_,rfl,SR.rol sq r,sq.sq⟩
 | non=>cases e
 | bl b=>cases e
 | int i=>cases e
 | str z=>cases e
 | obj c ks ds=>cases e
 | fn x=>cases e
 | lam=>cases e
theorem JR.zip {k1 k2:SeqK}{K:PySem.W.Frag}{H0:Hp}{ρ0:List Addr}{s1 s2:Src}{a1 a2:Addr}(S1:SR k1 K H0 ρ0 s1 a1) (S2:SR k2 K H0 ρ0 s2 a2):JR K H0 ρ0 (.zip s1 s2) (Itz k1 k2 K a1 a2) where
 go:=fun H ρ mh i d e rs q=>by
  have q:(List.zipWith (fun a b=>D.tup [a,b]) (s1.items mh) (s2.items mh))[i]?=some d:=q;rw [List.getElem?_zipWith] at q;cases e1:(s1.items mh)[i]? with
  | none=>rw [e1] at q;simp at q
  | some d1 =>
   cases e2:(s2.items mh)[i]? with
   | none=>rw [e1,e2] at q;simp at q
   | some d2 =>
    rw [e1,e2] at q;cases q;obtain ⟨xs,sq,r⟩:=S1.rd H ρ mh e rs (S1.ok mh i d1 e1);obtain ⟨ys,sq2,r2⟩:=S2.rd H ρ mh e rs (S2.ok mh i d2 e2);obtain ⟨v,ev,rv⟩:=r.get e1;obtain ⟨u,eu,ru⟩:=r2.get e2;refine ⟨⟨xs,ys,v,u,sq,sq2,ev,eu⟩,?_⟩;rintro x H' ⟨T,x',y',hT,h1,h2,h3,h4⟩;subst h1;subst h4;have t1:=h2 xs sq;rw [ev] at t1;cases t1;have t2:=h3 ys sq2;rw [eu] at t2;cases t2;exact ⟨Ev.new hT,rs.new hT,.tup (.inl (.inl upd_same)) (.cons (rv.mono (Ev.new hT)) (.cons (ru.mono (Ev.new hT)) .nil))⟩
 stop:=fun H ρ mh i e rs q=>by
  have q:((s1.ok mh&&s2.ok mh)&&decide ((List.zipWith (fun a b=>D.tup [a,b]) (s1.items mh) (s2.items mh)).length<=i))=true:=q;rw [Bool.and_eq_true,Bool.and_eq_true,List.length_zipWith] at q;obtain ⟨xs,sq,r⟩:=S1.rd H ρ mh e rs q.1.1;obtain ⟨ys,sq2,r2⟩:=S2.rd H ρ mh e rs q.1.2;have:=of_decide_eq_true q.2;refine ⟨xs,ys,sq,sq2,?_⟩;rw [← r.length,← r2.length];omega
section
variable {X:Cx}
theorem boot_zip:bootBuiltins "zip"=some (.type "zip"):=by decide +kernel
theorem zip_pie (k1 k2:SeqK) {pins:List (Addr×Obj)}{σ:L2.St}{H:Hp}{s:Shared}{R:It->Hp->Prop}{E:Value->Shared->Prop}{elts:List Expr}{kk:Nat}{tp:Pos}{a b:Addr}{xs ys:List V}(I:Inv X pins σ H s) (hq:k1.sq X.K H a xs) (hq2:k2.sq X.K H b ys) (hR:R (Itz k1 k2 X.K a b) H) :
  wpAny (model X.prog X.w) X.A (call (.type "zip") [.ref a,.ref b]) (fun v s1=>wpAny (model X.prog X.w) X.A (pyIter v) (PIE X pins σ (.Tuple elts kk tp) R) E s1) E s:=by
 obtain ⟨its,rv,p,hz⟩:=k1.get I hq;obtain ⟨its2,rv2,p2,hz2⟩:=k2.get I hq2;refine call_zipK k1 k2 p p2 fun h' g1 g2 g3 g4 g5 hsz hk=>wpAny_pyIter_zip g1 ?_
 have I1:Inv X pins σ H { s with heap:=h' }:=I.kept (t':=s.toks) hk;refine ⟨s.heap.objs.size+4,[s.heap.objs.size+4,s.heap.objs.size+2,s.heap.objs.size+3,s.heap.objs.size,s.heap.objs.size+1],_,Itz k1 k2 X.K a b,H,rfl,I1,turn_zip k1 k2 a b _ _ _ _ _ ?_,⟨g1,g2,⟨_,_,g3⟩,g4,g5⟩,fun c hc=>?_,hR⟩
 ·generalize s.heap.objs.size=N;exact ⟨Nat.ne_of_lt (Nat.lt_succ_of_lt (Nat.lt_succ_self _)),Nat.ne_of_lt (Nat.lt_succ_self _),Nat.ne_of_lt (Nat.lt_add_of_pos_right (by decide)),Nat.ne_of_lt (Nat.add_lt_add_left (by decide) N),Nat.ne_of_lt (Nat.lt_succ_self _),Nat.ne_of_gt (Nat.lt_add_of_pos_right (by decide)),Nat.ne_of_gt (Nat.lt_succ_self _),Nat.ne_of_gt (Nat.lt_add_of_pos_right (by decide)),Nat.ne_of_gt (Nat.add_lt_add_left (by decide) N),Nat.ne_of_lt (Nat.lt_succ_self _)⟩
 ·have hc:c=s.heap.objs.size+4\/c=s.heap.objs.size+2\/c=s.heap.objs.size+3\/c=s.heap.objs.size\/c=s.heap.objs.size+1:=by simpa using hc
  have:s.heap.objs.size<=c:=by
   rcases hc with e | e | e | e | e <;> rw [e]
   ·exact Nat.le_add_right _ _
   ·exact Nat.le_add_right _ _
   ·exact Nat.le_add_right _ _
   ·exact Nat.le_refl _
   ·exact Nat.le_add_right _ _
  exact I.fpOk this (I.hok.fresh this)
theorem di_zip {a b:Expr}{mr:DM (List D)}{elts:List Expr}{kk:Nat}{tp p pos:Pos}(hg:Gl X "zip") (hm:X.mg "zip"=none) (ha:DA X [a,b] mr) (hs:starEach [a,b] X.env=(false,eval a X.env)::starEach [b] X.env) (hpl:(backTo pos (starEach [b] X.env)).any (·.1)=false) :
  DI X (.Tuple elts kk tp) (.Call (.Name "zip" p) [a,b] [] pos) (zipM mr):=fun loc mh=>by
 cases ea:mr loc mh with
 | none =>
  have:zipM mr loc mh=none:=by unfold zipM DM.bnd;rw [ea]
  rw [this];exact PI_none
 | some pr =>
  obtain ⟨ds,m1⟩:=pr;have eq:zipM mr loc mh=zipS ds m1:=by unfold zipM DM.bnd;rw [ea]
  rw [eq];rintro pins s σ H R I ⟨ρ,src,mh',q,rl,rs,co⟩;refine Call_ (ld_blt I hg hm boot_zip (PyProof.Rows.callWith_type1 (thn (ha loc mh pos pins s σ H (fun vs H1=>∃ ρ1,Ev X.K H ρ H1 ρ1/\RS X.K H1 ρ1 m1/\RDs X.K H1 ρ1 ds vs) I ⟨ρ,ds,m1,ea,rl,rs,fun H1 ρ1 v e1 rs1 r1=>⟨ρ1,e1,rs1,r1⟩⟩) ?_) hs hpl));rintro us s1 ⟨vs,H1,I1,r1,q1⟩;obtain ⟨ρ1,e1,rs1,rx⟩:=q1;unfold zipS at q;split at q
  ·rename_i x y;cases rx with
   | cons rx ry =>
    cases ry with
    | cons ry rz =>
     cases rz;split at q
     ·rename_i s1' t1' es et;cases q;obtain ⟨k1,a1,xs,rfl,S1,sq1⟩:=src_sr rs1 rx es;obtain ⟨k2,a2,ys,rfl,S2,sq2⟩:=src_sr rs1 ry et;cases r1 with
      | cons u1 r1 =>
       cases r1 with
       | cons u2 r1 =>
        cases r1;cases u1;cases u2;exact zip_pie k1 k2 I1 sq1 sq2 (co H1 ρ1 _ e1 rs1 (JR.zip S1 S2))
     ·cases q
  ·cases q
end
noncomputable abbrev ZipO (h:Heap) (z TI TO a:Addr) (f:Bool):Prop:=h.get? z=some { cls:=.type "zip",dict:=none,data:=.fields #[rawInt a,.bool f,.bool false,.ref TI,.ref TO],slots:=#[] }
section
variable {prog:Program}{w:World}{A:Around}{E:Value->Shared->Prop}{s:Shared}
theorem zip_held {z TI TO a:Addr}{f:Bool}{oa:Obj}{Q:Bool->Shared->Prop}(hz:ZipO s.heap z TI TO a f) (ha:s.heap.get? a=some oa)
  (hQ:∀ h',ZipO h' z TI TO a true->Heap.SameBut z s.heap h'->Q false { s with heap:=h' }):wpAny (model prog w) A (Builtin.SmallTypes.ownedTupleIsFree (.ref z)) Q E s:=by
 unfold Builtin.SmallTypes.ownedTupleIsFree;refine wpAny_bind (wpAny_field hz rfl (x:=rawInt a) rfl ?_);show wpAny _ _ (loadIfAlive ((a:Int).toNat) >>= _) _ _ _;rw [Int.toNat_natCast];refine wpAny_bind (PySem.W.kdx_alive ha ?_);simp only [Option.isNone_some,Bool.false_eq_true,if_false];refine wpAny_bind (wpAny_field hz rfl (x:=.bool f) rfl ?_);cases f with
 | true =>
  rw [if_neg (by decide)];exact wpAny_pure (hQ _ hz (Heap.SameBut.refl _ _))
 | false =>
  rw [if_pos (by decide)];exact wpAny_bind (wpAny_setField_rec hz (by simp) fun h₁ hz₁ hs₁=>wpAny_pure (hQ h₁ hz₁ hs₁))
theorem zip_itemO (k1 k2:SeqK) {z TI TO i1 i2 l1 l2 a:Addr}{f:Bool}{oa:Obj}{i:Nat}{xs ys:Array Value}{x y:Value}{Q:Value->Shared->Prop}(D:ZNe z TI TO i1 i2) (l1z:l1≠z) (l2z:l2≠z) (l2i1:l2≠i1)
  (hz:ZipO s.heap z TI TO a f) (ha:s.heap.get? a=some oa) (hTI:IsPair s.heap TI (.ref i1) (.ref i2)) (h1:k1.isIt s.heap i1 l1 i) (h2:k2.isIt s.heap i2 l2 i) (hl1:k1.isSeq s.heap l1 xs) (hl2:k2.isSeq s.heap l2 ys) (hx:xs[i]?=some x) (hy:ys[i]?=some y)
  (hQ:∀ h',ZipO h' z TI TO a true->k1.isIt h' i1 l1 (i+1)->k2.isIt h' i2 l2 (i+1)->IsPair h' s.heap.objs.size x y->h'.objs.size=s.heap.objs.size+1 ->
   (∀ c o,c≠z->c≠i1->c≠i2->s.heap.get? c=some o->h'.get? c=some o)->Q (.ref s.heap.objs.size) { s with heap:=h' }) :
  wpAny (model prog w) A (Builtin.«zip.__next__» ⟨[.ref z],[]⟩) (fun fin s'=>∃ v,fin=.done (.ret v)/\Q v s') E s:=by
 show wpAny _ _ (field (.ref z) 2 >>= _) _ _ _;refine wpAny_bind (wpAny_field hz rfl (x:=.bool false) rfl ?_);show wpAny _ _ (field (.ref z) 3 >>= _) _ _ _;refine wpAny_bind (wpAny_field hz rfl (x:=.ref TI) rfl ?_);refine wpAny_bind (wpAny_seqItems hTI rfl ?_);show wpAny _ _ (Builtin.SmallTypes.ownedTupleIsFree (.ref z) >>= _) _ _ _;refine wpAny_bind (zip_held hz ha fun h₁ hz₁ hs₁=>?_);simp only [Bool.false_eq_true,if_false];refine wpAny_bind ?_;simp only [← Array.forIn_toList,List.forIn_cons,List.forIn_nil];refine wpAny_bind (wpAny_bind (wpAny_holding ?_));show wpAny _ _ (Builtin.SmallTypes.nextOf (.ref i1) >>= _) _ _ _;refine wpAny_bind (k1.next (k1.itK h1 fun o e=>hs₁.extBut _ _ D.i1z e) (k1.seqK hl1 fun o e=>hs₁.extBut _ _ l1z e) hx fun h₂ h1₂ hs₂=>wpAny_pure (wpAny_pure ?_));refine wpAny_bind (wpAny_bind (wpAny_holding ?_));show wpAny _ _ (Builtin.SmallTypes.nextOf (.ref i2) >>= _) _ _ _;refine wpAny_bind (k2.next (k2.itK h2 fun o e=>hs₂.extBut _ _ D.i12.symm (hs₁.extBut _ _ D.i2z e)) (k2.seqK hl2 fun o e=>hs₂.extBut _ _ l2i1 (hs₁.extBut _ _ l2z e)) hy fun h₃ h2₃ hs₃=>wpAny_pure (wpAny_pure (wpAny_pure ?_)));have hsz:h₃.objs.size=s.heap.objs.size:=by rw [hs₃.1,hs₂.1,hs₁.1]
 refine wpAny_bind (wpAny_newTuple (hsz:=by show 2<=sizeLine;decide) (wpAny_pure ⟨_,rfl,?_⟩));show Q (.ref h₃.objs.size) _;rw [hsz]
 have up:∀ c o,h₃.get? c=some o->(h₃.push { cls:=.type "tuple",data:=.seq #[x,y] }).get? c=some o:=fun c o e=>Heap.get?_push_of_some _ e
 refine hQ _ (up _ _ (hs₃.extBut _ _ D.i2z.symm (hs₂.extBut _ _ D.i1z.symm hz₁))) (k1.itK h1₂ fun o e=>up _ o (hs₃.extBut _ _ D.i12 e)) (k2.itK h2₃ fun o e=>up _ o e) ?_ (by rw [Heap.size_push,hsz]) fun c o c1 c3 c4 e=>up c o (hs₃.extBut _ _ c4 (hs₂.extBut _ _ c3 (hs₁.extBut _ _ c1 e)))
 rw [← hsz];exact Heap.get?_push_size _ rfl
theorem zip_stopO (k1 k2:SeqK) {z TI TO i1 i2 l1 l2 a:Addr}{f:Bool}{oa:Obj}{i:Nat}{xs ys:Array Value}{Q:Fin->Shared->Prop}(hh:A.handled=none) (D:ZNe z TI TO i1 i2) (l1z:l1≠z) (l2z:l2≠z) (l2i1:l2≠i1)
  (hz:ZipO s.heap z TI TO a f) (ha:s.heap.get? a=some oa) (hTI:IsPair s.heap TI (.ref i1) (.ref i2)) (h1:k1.isIt s.heap i1 l1 i) (h2:k2.isIt s.heap i2 l2 i) (hl1:k1.isSeq s.heap l1 xs) (hl2:k2.isSeq s.heap l2 ys) (hend:xs[i]?=none\/ys[i]?=none)
  (hE:∀ h' e,(∀ c o,c≠z->c≠i1->c≠i2->s.heap.get? c=some o->h'.get? c=some o)->(∃ o,h'.get? e=some o/\o.cls=.type "StopIteration")->E (.ref e) { s with heap:=h' }) :
  wpAny (model prog w) A (Builtin.«zip.__next__» ⟨[.ref z],[]⟩) Q E s:=by
 show wpAny _ _ (field (.ref z) 2 >>= _) _ _ _;refine wpAny_bind (wpAny_field hz rfl (x:=.bool false) rfl ?_);show wpAny _ _ (field (.ref z) 3 >>= _) _ _ _;refine wpAny_bind (wpAny_field hz rfl (x:=.ref TI) rfl ?_);refine wpAny_bind (wpAny_seqItems hTI rfl ?_);show wpAny _ _ (Builtin.SmallTypes.ownedTupleIsFree (.ref z) >>= _) _ _ _;refine wpAny_bind (zip_held hz ha fun h₁ hz₁ hs₁=>?_);simp only [Bool.false_eq_true,if_false];refine wpAny_bind ?_;simp only [← Array.forIn_toList,List.forIn_cons,List.forIn_nil];refine wpAny_bind (wpAny_bind (wpAny_holding ?_));show wpAny _ _ (Builtin.SmallTypes.nextOf (.ref i1) >>= _) _ _ _;cases hx:xs[i]? with
 | none =>
  exact wpAny_bind (k1.stop hh (k1.itK h1 fun o e=>hs₁.extBut _ _ D.i1z e) (k1.seqK hl1 fun o e=>hs₁.extBut _ _ l1z e) hx fun h₂ e hs₂ he=>hE h₂ e (fun c o c1 c3 _ x=>hs₂ _ _ c3 (hs₁.extBut _ _ c1 x)) he)
 | some x =>
  have hy:ys[i]?=none:=by rcases hend with h|h;rw [hx] at h;cases h;exact h
  refine wpAny_bind (k1.next (k1.itK h1 fun o e=>hs₁.extBut _ _ D.i1z e) (k1.seqK hl1 fun o e=>hs₁.extBut _ _ l1z e) hx fun h₂ h1₂ hs₂=>wpAny_pure (wpAny_pure ?_));refine wpAny_bind (wpAny_bind (wpAny_holding ?_));show wpAny _ _ (Builtin.SmallTypes.nextOf (.ref i2) >>= _) _ _ _;exact wpAny_bind (k2.stop hh (k2.itK h2 fun o e=>hs₂.extBut _ _ D.i12.symm (hs₁.extBut _ _ D.i2z e)) (k2.seqK hl2 fun o e=>hs₂.extBut _ _ l2i1 (hs₁.extBut _ _ l2z e)) hy fun h₃ e hs₃ he=>hE h₃ e (fun c o c1 c3 c4 x=>hs₃ _ _ c4 (hs₂.extBut _ _ c3 (hs₁.extBut _ _ c1 x))) he)
end
structure ZSt (k1 k2:SeqK) (S z TI TO i1 i2 l1 l2:Addr) (i:Nat) (h:Heap):Prop where
 zip:(IsZip h z TI TO .none/\∃ a b,IsPair h TO a b)\/∃ a f oa,ZipO h z TI TO a f/\h.get? a=some oa/\a≠z/\a≠i1/\a≠i2/\a≠S
 ti:IsPair h TI (.ref i1) (.ref i2)
 it1:k1.isIt h i1 l1 i
 it2:k2.isIt h i2 l2 i
structure ZAp (S z TI TO i1 i2 l1 l2:Addr):Prop where
 D:ZNe z TI TO i1 i2
 l1z:l1≠z
 l1TI:l1≠TI
 l1TO:l1≠TO
 l1i1:l1≠i1
 l1i2:l1≠i2
 l2z:l2≠z
 l2TI:l2≠TI
 l2TO:l2≠TO
 l2i1:l2≠i1
 l2i2:l2≠i2
 Sz:S≠z
 STI:S≠TI
 STO:S≠TO
 Si1:S≠i1
 Si2:S≠i2
 Sl1:S≠l1
 Sl2:S≠l2
section
variable {prog:Program}{w:World}{A:Around}{E:Value->Shared->Prop}{s:Shared}{k1 k2:SeqK}{S z TI TO i1 i2 l1 l2:Addr}{i:Nat}
theorem ZSt.keep {h h':Heap}(Z:ZAp S z TI TO i1 i2 l1 l2) (st:ZSt k1 k2 S z TI TO i1 i2 l1 l2 i h) (k:∀ b o,b≠S->h.get? b=some o->h'.get? b=some o):ZSt k1 k2 S z TI TO i1 i2 l1 l2 i h' where
 zip:=by
  rcases st.zip with ⟨q,a,b,t⟩|⟨a,f,oa,q,t,n1,n2,n3,n4⟩
  ·exact .inl ⟨k _ _ Z.Sz.symm q,a,b,k _ _ Z.STO.symm t⟩
  ·exact .inr ⟨a,f,oa,k _ _ Z.Sz.symm q,k _ _ n4 t,n1,n2,n3,n4⟩
 ti:=k _ _ Z.STI.symm st.ti
 it1:=k1.itK st.it1 fun o e=>k _ o Z.Si1.symm e
 it2:=k2.itK st.it2 fun o e=>k _ o Z.Si2.symm e
theorem ZSt.lt {h:Heap}(st:ZSt k1 k2 S z TI TO i1 i2 l1 l2 i h):z < h.objs.size/\i1 < h.objs.size/\i2 < h.objs.size:=by
 refine ⟨?_,?_,?_⟩
 ·rcases st.zip with ⟨q,_⟩ | ⟨_,_,_,q,_⟩ <;> exact Heap.lt_size q
 ·obtain ⟨o,q,_⟩:=k1.itO st.it1;exact Heap.lt_size q
 ·obtain ⟨o,q,_⟩:=k2.itO st.it2;exact Heap.lt_size q
theorem ZSt.ty (st:ZSt k1 k2 S z TI TO i1 i2 l1 l2 i s.heap):s.TypeIs (.ref z) "zip":=by
 rcases st.zip with ⟨q,_⟩ | ⟨_,_,_,q,_⟩ <;> exact ⟨_,q,rfl⟩
theorem znext_item (Z:ZAp S z TI TO i1 i2 l1 l2) (st:ZSt k1 k2 S z TI TO i1 i2 l1 l2 i s.heap) (hS:S < s.heap.objs.size) {xs ys:Array Value}{x y:Value}{Q:Option Value->Shared->Prop}(hl1:k1.isSeq s.heap l1 xs) (hl2:k2.isSeq s.heap l2 ys) (hx:xs[i]?=some x) (hy:ys[i]?=some y)
  (hQ:∀ h',ZSt k1 k2 S z TI TO i1 i2 l1 l2 (i+1) h'->IsPair h' s.heap.objs.size x y->h'.objs.size=s.heap.objs.size+1->(∀ c o,c ∉ [z,TI,TO,i1,i2]->s.heap.get? c=some o->h'.get? c=some o)->Q (some (.ref s.heap.objs.size)) { s with heap:=h' }) :
  wpAny (model prog w) A (pyNext (.ref z)) Q E s:=by
 obtain ⟨n1,n2,n3⟩:=st.lt;have hT:=st.ty;unfold pyNext;rcases st.zip with ⟨q,a,b,t⟩|⟨a,f,oa,q,t,m1,m2,m3,m4⟩
 ·refine wpAny_bind (wpAny_attempt (wpAny_callSpecial?_slot (name:=Str.ofString "__next__") hT F.slot_zip_next (wpAny_call_entry F.slot_zip_next hT F.entry_zip_next
   (zip_itemK k1 k2 (i:=i) Z.D Z.l1z Z.l1TO Z.l1i1 Z.l2z Z.l2TO Z.l2i1 q st.ti t st.it1 st.it2 hl1 hl2 hx hy fun h' a1 a2 a3 a4 a5 a6 hk=>wpAny_pure ?_) (F.args_zip_next_1 _))))
  exact hQ h' ⟨.inr ⟨_,_,_,a1,a5,Nat.ne_of_gt n1,Nat.ne_of_gt n2,Nat.ne_of_gt n3,Nat.ne_of_gt hS⟩,hk _ _ Z.D.TIz Z.D.TITO Z.D.TIi1 Z.D.TIi2 st.ti,a3,a4⟩ a5 a6 fun c o hc e=>by
   simp at hc;exact hk c o hc.1 hc.2.2.1 hc.2.2.2.1 hc.2.2.2.2 e
 ·refine wpAny_bind (wpAny_attempt (wpAny_callSpecial?_slot (name:=Str.ofString "__next__") hT F.slot_zip_next (wpAny_call_entry F.slot_zip_next hT F.entry_zip_next
   (zip_itemO k1 k2 (i:=i) Z.D Z.l1z Z.l2z Z.l2i1 q t st.ti st.it1 st.it2 hl1 hl2 hx hy fun h' a1 a3 a4 a5 a6 hk=>wpAny_pure ?_) (F.args_zip_next_1 _))))
  exact hQ h' ⟨.inr ⟨a,_,_,a1,hk _ _ m1 m2 m3 t,m1,m2,m3,m4⟩,hk _ _ Z.D.TIz Z.D.TIi1 Z.D.TIi2 st.ti,a3,a4⟩ a5 a6 fun c o hc e=>by
   simp at hc;exact hk c o hc.1 hc.2.2.2.1 hc.2.2.2.2 e
theorem znext_stop (hh:A.handled=none) (Z:ZAp S z TI TO i1 i2 l1 l2) (st:ZSt k1 k2 S z TI TO i1 i2 l1 l2 i s.heap) {xs ys:Array Value}{Q:Option Value->Shared->Prop}(hl1:k1.isSeq s.heap l1 xs) (hl2:k2.isSeq s.heap l2 ys) (hend:xs[i]?=none\/ys[i]?=none)
  (hQ:∀ h',(∀ c o,c ∉ [z,TI,TO,i1,i2]->s.heap.get? c=some o->h'.get? c=some o)->Q none { s with heap:=h' }) :
  wpAny (model prog w) A (pyNext (.ref z)) Q E s:=by
 have hT:=st.ty;unfold pyNext;rcases st.zip with ⟨q,a,b,t⟩|⟨a,f,oa,q,t,m1,m2,m3,m4⟩
 ·refine wpAny_bind (wpAny_attempt (wpAny_callSpecial?_slot (name:=Str.ofString "__next__") hT F.slot_zip_next (wpAny_call_entry F.slot_zip_next hT F.entry_zip_next
   (zip_stopK k1 k2 (i:=i) (A:=A.in1) hh Z.D Z.l1z Z.l2z Z.l2TO Z.l2i1 q st.ti t st.it1 st.it2 hl1 hl2 hend fun h' e hk he=>?_) (F.args_zip_next_1 _))))
  obtain ⟨o,ho,hcl⟩:=he
  refine wpAny_bind (wpAny_isInstance (T := "StopIteration") (b:=true) ⟨o,ho,hcl⟩ isSubtype_stop (wpAny_pure ?_));exact hQ h' fun c o hc e=>by
   simp at hc;exact hk c o hc.1 hc.2.2.1 hc.2.2.2.1 hc.2.2.2.2 e
 ·refine wpAny_bind (wpAny_attempt (wpAny_callSpecial?_slot (name:=Str.ofString "__next__") hT F.slot_zip_next (wpAny_call_entry F.slot_zip_next hT F.entry_zip_next
   (zip_stopO k1 k2 (i:=i) (A:=A.in1) hh Z.D Z.l1z Z.l2z Z.l2i1 q t st.ti st.it1 st.it2 hl1 hl2 hend fun h' e hk he=>?_) (F.args_zip_next_1 _))))
  obtain ⟨o,ho,hcl⟩:=he
  refine wpAny_bind (wpAny_isInstance (T := "StopIteration") (b:=true) ⟨o,ho,hcl⟩ isSubtype_stop (wpAny_pure ?_));exact hQ h' fun c o hc e=>by
   simp at hc;exact hk c o hc.1 hc.2.2.2.1 hc.2.2.2.2 e
end
theorem drop_at {α:Type}{t:List α}{i:Nat}{a:α}{r:List α}(h:t.drop i=a::r):t[i]?=some a/\t.drop (i+1)=r:=by
 refine ⟨?_,?_⟩
 ·have:=congrArg (fun l=>l[0]?) h
  simpa using this
 ·rw [← List.drop_drop,h];rfl
theorem drop_end {α:Type}{t:List α}{i:Nat}(h:t.drop i=[]):t[i]?=none:=by
 have:=congrArg (fun l=>l[0]?) h
 simpa using this
noncomputable def zipT (a b:D):D:=.tup [a,b]
theorem zloop {X:Cx}{pins:List (Addr×Obj)}{σ:L2.St}{A:Around}{R:Result->Shared->Prop}{k1 k2:SeqK}{S z TI TO i1 i2 l1 l2:Addr}{res:Value}{H0:Hp}{ρ0 ρ:List Addr}{mh:MH}{t1 t2:List Value}(hh:A.handled=none) (Z:ZAp S z TI TO i1 i2 l1 l2) (hρ:ρ[mh.length]?=some S) :
  ∀ (as bs:List D) (xs ys:List V) (v1 v2:List Value) (i:Nat) (dn:List D) (us:List V) (H:Hp) (s:Shared),RDs X.K H ρ as xs->RDs X.K H ρ bs ys->Vals xs v1->Vals ys v2->t1.drop i=v1->t2.drop i=v2->k1.isSeq s.heap l1 t1.toArray->k2.isSeq s.heap l2 t2.toArray ->
   Inv X pins σ H s->(∀ b∈[z,TI,TO,i1,i2],FpOk X pins H b)->ZSt k1 k2 S z TI TO i1 i2 l1 l2 i s.heap->H S=some (.lst us)->RDs X.K H ρ dn us->us.length+xs.length<=sizeLine->TO < s.heap.objs.size->RS X.K H ρ (mh++[.lst dn])->Ev X.K H0 ρ0 H ρ ->
   (∀ s' H',Inv X pins σ H' s'->Ev X.K H0 ρ0 H' ρ->RS X.K H' ρ (mh++[.lst (dn++List.zipWith zipT as bs)])->R (.ok (.ret res)) s') ->
   codeAny (model X.prog X.w) A (.builtin "list.extend.loop" ⟨[.ref S,.ref z,res],[]⟩) R s:=by
 intro as
 induction as with
 | nil =>
  intro bs xs ys v1 v2 i dn us H s ra rb w1 w2 d1 d2 p1 p2 I hf st hS rd hz ltO rs ev hR;cases ra;cases w1;refine codeAny_builtin F.entry_extend_loop ?_;rw [Around.under_plainId F.plain_extend_loop _];show wpAny _ A.in1 (pyNext (.ref z) >>= _) _ _ s;refine wpAny_bind (znext_stop (A:=A.in1) hh Z st p1 p2 (.inl (by simpa using drop_end d1)) fun h' hk=>?_);refine wpAny_pure (hR _ H (inv_turns (t':=s.toks) (fp:=[z,TI,TO,i1,i2]) I hk hf) ev ?_);rw [List.zipWith_nil_left,List.append_nil];exact rs
 | cons a as ih =>
  intro bs xs ys v1 v2 i dn us H s ra rb w1 w2 d1 d2 p1 p2 I hf st hS rd hz ltO rs ev hR;refine codeAny_builtin F.entry_extend_loop ?_;rw [Around.under_plainId F.plain_extend_loop _];show wpAny _ A.in1 (pyNext (.ref z) >>= _) _ _ s;cases rb with
  | nil =>
   cases w2;refine wpAny_bind (znext_stop (A:=A.in1) hh Z st p1 p2 (.inr (by simpa using drop_end d2)) fun h' hk=>?_);refine wpAny_pure (hR _ H (inv_turns (t':=s.toks) (fp:=[z,TI,TO,i1,i2]) I hk hf) ev ?_);rw [List.zipWith_nil_right,List.append_nil];exact rs
  | @cons b y bs ys rb rbs =>
   cases ra with
   | @cons _ x _ xs ra ras =>
   cases w1 with
   | @cons _ u1 _ v1 ru1 w1 =>
   cases w2 with
   | @cons _ u2 _ v2 ru2 w2 =>
   obtain ⟨e1,f1⟩:=drop_at d1;obtain ⟨e2,f2⟩:=drop_at d2;have ltS:S < s.heap.objs.size:=by
    obtain ⟨_,its,n,_,_,e⟩:=I.lstM hS;exact Heap.lt_size e
   refine wpAny_bind (znext_item Z st ltS p1 p2 (x:=u1) (y:=u2) (by simpa using e1) (by simpa using e2) fun h' st' a5 a6 hk=>?_);have lts:∀ b∈[z,TI,TO,i1,i2],b < s.heap.objs.size:=fun b hb=>by
    obtain ⟨n1,n2,n3⟩:=st.lt;have hb:b=z\/b=TI\/b=TO\/b=i1\/b=i2:=by simpa using hb
    rcases hb with q | q | q | q | q <;> rw [q]
    ·exact n1
    ·exact Heap.lt_size st.ti
    ·exact ltO
    ·exact n2
    ·exact n3
   have hT:H s.heap.objs.size=none:=I.hok.fresh (Nat.le_refl _);have nS:S≠s.heap.objs.size:=Nat.ne_of_lt ltS;have I2:Inv X pins σ (upd H s.heap.objs.size (.tup [x,y])) { s with heap:=h' }:=inv_turns_new (t':=s.toks) (fp:=[z,TI,TO,i1,i2]) I hk hf (Nat.le_refl _) ⟨by simp [sizeLine_eq],[u1,u2],.cons ru1 (.cons ru2 .nil),⟨_,a5,rfl,rfl,_,rfl⟩⟩;have ev2:Ev X.K H ρ (upd H s.heap.objs.size (.tup [x,y])) ρ:=Ev.new hT;have hS2:upd H s.heap.objs.size (.tup [x,y]) S=some (.lst us):=by rw [upd_ne nS];exact hS
   have rt:RD X.K (upd H s.heap.objs.size (.tup [x,y])) ρ (zipT a b) (.ref s.heap.objs.size):=(.tup (.inl (.inl upd_same)) (.cons (ra.mono ev2) (.cons (rb.mono ev2) .nil)));have rs2:=rs.new (o:=.tup [x,y]) hT;have hfn:∀ b∈[z,TI,TO,i1,i2],upd H s.heap.objs.size (.tup [x,y]) b=none:=fun b hb=>by
    rw [upd_ne (Nat.ne_of_lt (lts b hb))];exact (hf b hb).1
   generalize upd H s.heap.objs.size (.tup [x,y])=H2 at I2 ev2 hS2 rt rs2 hfn;have hf2:∀ b∈[z,TI,TO,i1,i2],FpOk X pins H2 b:=fun b hb=>⟨hfn b hb,(hf b hb).2⟩
   obtain ⟨z1,its,n,r,hl,e⟩:=I2.lstM hS2;have hzz:us.length+1+xs.length<=sizeLine:=by have:us.length+(xs.length+1)<=sizeLine:=hz;omega
   have oth:∀ b o,b≠S->h'.get? b=some o->(h'.update S (Obj.mapSeq (·.push (.ref s.heap.objs.size)))).get? b=some o:=fun b o hb q=>(Heap.get?_update_other _ _ (Ne.symm hb)).trans q
   show wpAny _ A.in1 (updateSeq S (·.push (.ref s.heap.objs.size)) >>= _) _ _ _;refine wpAny_bind (wpAny_updateSeq e rfl (hz:=by rw [List.size_toArray];omega) (_hz':=by rw [Array.size_push,List.size_toArray];omega) (wpAny_pure ⟨plainId_quiet F.plain_extend_loop _,?_⟩));have I3:=I2.lset (t':=s.toks) (f:=fun a=>a.push (.ref s.heap.objs.size)) (its':=its++[.ref s.heap.objs.size]) hS2 e (by simp) (r.append (ys:=[.ref s.heap.objs.size]) (ws:=[Value.ref s.heap.objs.size]) (.cons rfl .nil)) (by rw [List.length_append];show us.length+1<=sizeLine;omega);have ev3:Ev X.K H2 ρ (upd H2 S (.lst (us++[.ref s.heap.objs.size]))) ρ:=Ev.lst hS2;have rd3:=(rd.mono ev2).append (.cons rt .nil);have rs3:=rs2.setL hρ hS2 rd3;rw [List.set_append_right _ _ (Nat.le_refl _),Nat.sub_self] at rs3;refine ih bs xs ys v1 v2 (i+1) (dn++[zipT a b]) (us++[.ref s.heap.objs.size]) _ _ ((ras.mono ev2).mono ev3) ((rbs.mono ev2).mono ev3) w1 w2 f1 f2 ?_ ?_ I3 (fun b hb=>⟨?_,(hf b hb).2⟩) (st'.keep Z oth) upd_same (rd3.mono ev3) (by rw [List.length_append];exact hzz) (by show TO < (h'.update S _).objs.size;rw [Heap.size_after_update,a6];exact Nat.lt_succ_of_lt ltO) rs3 (ev.trans (ev2.trans ev3)) fun s' H' I' e' r'=>hR s' H' I' e' (by rw [List.append_assoc] at r';exact r')
   ·exact k1.seqK p1 fun o q=>oth _ o Z.Sl1.symm (hk _ o (by simp;exact ⟨Z.l1z,Z.l1TI,Z.l1TO,Z.l1i1,Z.l1i2⟩) q)
   ·exact k2.seqK p2 fun o q=>oth _ o Z.Sl2.symm (hk _ o (by simp;exact ⟨Z.l2z,Z.l2TI,Z.l2TO,Z.l2i1,Z.l2i2⟩) q)
   ·have bS:b≠S:=by
     have hb:b=z\/b=TI\/b=TO\/b=i1\/b=i2:=by simpa using hb
     rcases hb with q | q | q | q | q <;> rw [q]
     ·exact Z.Sz.symm
     ·exact Z.STI.symm
     ·exact Z.STO.symm
     ·exact Z.Si1.symm
     ·exact Z.Si2.symm
    rw [upd_ne bS];exact hfn b hb
theorem nolen_zip:typeLookup (.type "zip") "__len__"=pure none:=by rw [typeLookup_type,builtinLookup_eq_fast];kernel_rfl
theorem nohint_zip:typeLookup (.type "zip") "__length_hint__"=pure none:=by rw [typeLookup_type,builtinLookup_eq_fast];kernel_rfl
theorem call_listz {X:Cx}{pins:List (Addr×Obj)}{σ:L2.St}{H:Hp}{s:Shared}{E:Value->Shared->Prop}{Q:Value->Shared->Prop}(hc:X.calm=true) (I:Inv X pins σ H s) {k1 k2:SeqK}{z TI TO i1 i2 l1 l2:Addr}{t1 t2:List Value}{as bs:List D}{xs ys:List V}{ρ:List Addr}{mh:MH}
  (rs:RS X.K H ρ mh) (ra:RDs X.K H ρ as xs) (rb:RDs X.K H ρ bs ys) (w1:Vals xs t1) (w2:Vals ys t2) (p1:k1.isSeq s.heap l1 t1.toArray) (p2:k2.isSeq s.heap l2 t2.toArray) (zl:xs.length<=sizeLine) (hf:∀ b∈[z,TI,TO,i1,i2],FpOk X pins H b)
  (Z:∀ S,s.heap.objs.size<=S->ZAp S z TI TO i1 i2 l1 l2) (hz:IsZip s.heap z TI TO .none) (hTI:IsPair s.heap TI (.ref i1) (.ref i2)) (hTO:∃ a b,IsPair s.heap TO a b) (h1:k1.isIt s.heap i1 l1 0) (h2:k2.isIt s.heap i2 l2 0)
  (hQ:∀ s' H',Inv X pins σ H' s'->Ev X.K H ρ H' (ρ++[s.heap.objs.size])->RS X.K H' (ρ++[s.heap.objs.size]) (mh++[.lst (List.zipWith zipT as bs)])->Q (.ref s.heap.objs.size) s') :
  wpAny (model X.prog X.w) X.A (call (.type "list") [.ref z]) Q E s:=by
 refine callType_codes (Q₁:=fun obj s₁=>obj=.ref s.heap.objs.size/\s₁={ s with heap:=s.heap.push { cls:=.type "list",data:=.seq #[] } }) F.called_list (F.typeCall_list_1 _) F.entry_list_init (code_list_new _ ⟨rfl,rfl⟩) fun obj s₁ q=>?_
 obtain ⟨rfl,rfl⟩:=q;have ZS:=Z _ (Nat.le_refl _);generalize hN:s.heap.objs.size=S at *
 have hS:(s.heap.push { cls:=.type "list",data:=.seq #[] }).get? S=some { cls:=.type "list",data:=.seq #[] }:=by rw [← hN];exact Heap.get?_push_size _ rfl
 refine ⟨⟨_,hS,rfl⟩,F.args_list_init_2 _ _,?_⟩
 have up0:∀ b o,s.heap.get? b=some o->(s.heap.push { cls:=.type "list",data:=.seq #[] }).get? b=some o:=fun b o e=>Heap.get?_push_of_some _ e
 generalize s.heap.push { cls:=.type "list",data:=.seq #[] }=h0 at hS up0;show wpAny _ _ (Builtin.List.listItems (.ref S) >>= _) _ _ _;refine wpAny_bind ?_;unfold Builtin.List.listItems;refine wpAny_bind (wpAny_seqItems hS rfl (wpAny_pure ?_));show wpAny _ _ (updateSeq S (fun _=>#[]) >>= _) _ _ _;refine wpAny_bind (wpAny_updateSeq hS rfl ?_);have hS1:=Heap.get?_update_self (Obj.mapSeq (fun _=>(#[]:Array Value))) hS rfl;have up1:∀ b o,b≠S->s.heap.get? b=some o->(h0.update S (Obj.mapSeq (fun _=>(#[]:Array Value)))).get? b=some o:=fun b o hb e=>(Heap.get?_update_other _ _ (Ne.symm hb)).trans (up0 b o e)
 refine wpAny_bind (wpAny_letGo ?_);generalize h0.update S (Obj.mapSeq (fun _=>(#[]:Array Value)))=ha at hS1 up1;unfold Builtin.List.listExtendWith;have hz1:IsZip ha z TI TO .none:=up1 _ _ ZS.Sz.symm hz
 have hT1:Shared.TypeIs { s with heap:=ha } (.ref z) "zip":=⟨_,hz1,rfl⟩
 refine wpAny_bind (wpAny_typeOf hT1 ?_);have q1:Builtin.List.listSameRef (.ref S) (.ref z)=false:=by simp [Builtin.List.listSameRef,ZS.Sz]
 have q2:(Value.type "zip"==Value.type "list")=false:=by decide
 have q3:(Value.type "zip"==Value.type "tuple")=false:=by decide
 simp only [q1,q2,q3,Bool.or_false,Bool.false_eq_true,if_false];refine wpAny_bind (wpAny_pyIter_zip hz1 ?_);refine wpAny_bind (wpAny_holding ?_);unfold Builtin.List.listLengthHint;refine wpAny_bind (wpAny_specialOf hT1 nolen_zip ?_)
 show wpAny _ _ (specialOf (Value.ref z) (Str.ofString "__length_hint__") >>= _) _ _ _;refine wpAny_bind (wpAny_specialOf hT1 nohint_zip ?_);refine wpAny_pure ?_
 show wpAny _ _ (rule "list.extend.makes-room" >>= fun _=>Builtin.List.listTouch (.ref S) >>= fun _=>again (.builtin "list.extend.loop" ⟨[.ref S,.ref z,.none],[]⟩)) _ _ _;refine wpAny_bind (wpAny_rule (wpAny_bind ?_));show wpAny _ _ (updateSeq S (·.push .none) >>= fun _=>updateSeq S (·.pop)) _ _ _;refine wpAny_bind (wpAny_updateSeq hS1 rfl ?_);have hS2:=Heap.get?_update_self (Obj.mapSeq (·.push Value.none)) hS1 rfl;refine wpAny_updateSeq (hz:=by seq_fits) hS2 rfl ?_;have hS3:=Heap.get?_update_self (Obj.mapSeq (·.pop)) hS2 rfl;have up3:∀ b o,b≠S->s.heap.get? b=some o->((ha.update S (Obj.mapSeq (·.push Value.none))).update S (Obj.mapSeq (·.pop))).get? b=some o:=fun b o hb e=>(Heap.get?_update_other _ _ (Ne.symm hb)).trans ((Heap.get?_update_other _ _ (Ne.symm hb)).trans (up1 b o hb e))
 generalize (ha.update S (Obj.mapSeq (·.push Value.none))).update S (Obj.mapSeq (·.pop))=hb at hS3 up3;have kp:∀ b o,s.heap.get? b=some o->hb.get? b=some o:=fun b o e=>up3 b o (Nat.ne_of_lt (by rw [← hN];exact Heap.lt_size e)) e
 have hn:H S=none:=I.hok.fresh (by rw [hN];exact Nat.le_refl _);have I2:Inv X pins σ (upd H S (.lst [])) { s with heap:=hb }:=I.laid (t':=s.toks) kp (by rw [hN];exact Nat.le_refl _) (show ObjOk X.prog X.w _ hb _ (.lst []) from ⟨Nat.zero_le _,[],_,.nil,hS3⟩);have ev:Ev X.K H ρ (upd H S (.lst [])) (ρ++[S]):=Ev.newL hn;obtain ⟨a,b,hTO⟩:=hTO;refine wpAny_pure ⟨plainId_quiet F.plain_extend_loop _,zloop (A:=X.A.in1) (I.ok.hd hc) ZS (rs.last S) as bs xs ys t1 t2 0 [] [] (upd H S (.lst [])) _ (ra.mono ev) (rb.mono ev) w1 w2 rfl rfl (k1.seqK p1 fun o e=>kp _ o e) (k2.seqK p2 fun o e=>kp _ o e) I2 (fun b hb=>⟨?_,(hf b hb).2⟩) ⟨.inl ⟨kp _ _ hz,a,b,kp _ _ hTO⟩,kp _ _ hTI,k1.itK h1 fun o e=>kp _ o e,k2.itK h2 fun o e=>kp _ o e⟩ upd_same .nil (by rw [List.length_nil,Nat.zero_add];exact zl) (Heap.lt_size (kp _ _ hTO)) (rs.newL hn .nil) ev fun s' H' I' e' r'=>⟨rfl,hQ s' H' I' e' r'⟩⟩;have bS:b≠S:=by
  have hb:b=z\/b=TI\/b=TO\/b=i1\/b=i2:=by simpa using hb
  rcases hb with q | q | q | q | q <;> rw [q]
  ·exact ZS.Sz.symm
  ·exact ZS.STI.symm
  ·exact ZS.STO.symm
  ·exact ZS.Si1.symm
  ·exact ZS.Si2.symm
 rw [upd_ne bS];exact (hf b hb).1
noncomputable def listZipD:List D->MH->Option (D×MH)
 | [x,y],mh=>match seqD x mh,seqD y mh with
  | some as,some bs=>some (.ref mh.length,mh++[.lst (List.zipWith zipT as bs)])
  | _,_=>none
 | _,_=>none
theorem sq_kind {K:PySem.W.Frag}{H:Hp}{p:Addr}{ys:List V}(h:SqL K H p ys\/SqT K H p ys):∃ k:SeqK,k.sq K H p ys:=by
 rcases h with h|h
 ·exact ⟨seqL,h⟩
 ·exact ⟨seqT,h⟩
theorem zap_of {l1 l2 N S:Nat}(n1:l1 < N) (n2:l2 < N) (hS:N+5<=S):ZAp S (N+4) (N+2) (N+3) N (N+1) l1 l2 where
 D:={ TIz:=by show N+2≠N+4;omega,TOz:=by show N+3≠N+4;omega,i1z:=by show N≠N+4;omega,i2z:=by show N+1≠N+4;omega,TITO:=by show N+2≠N+3;omega,TIi1:=by show N+2≠N;omega,TIi2:=by show N+2≠N+1;omega,TOi1:=by show N+3≠N;omega,TOi2:=by show N+3≠N+1;omega,i12:=by show N≠N+1;omega }
 l1z:=by show l1≠N+4;omega
 l1TI:=by show l1≠N+2;omega
 l1TO:=by show l1≠N+3;omega
 l1i1:=by show l1≠N;omega
 l1i2:=by show l1≠N+1;omega
 l2z:=by show l2≠N+4;omega
 l2TI:=by show l2≠N+2;omega
 l2TO:=by show l2≠N+3;omega
 l2i1:=by show l2≠N;omega
 l2i2:=by show l2≠N+1;omega
 Sz:=by show S≠N+4;omega
 STI:=by show S≠N+2;omega
 STO:=by show S≠N+3;omega
 Si1:=by show S≠N;omega
 Si2:=by show S≠N+1;omega
 Sl1:=by show S≠l1;omega
 Sl2:=by show S≠l2;omega
section
variable {X:Cx}
theorem lz_run {pins:List (Addr×Obj)}{σ:L2.St}{H:Hp}{s:Shared}{Q:VK}{l1 l2:Addr}{xs ys:List V}{as bs:List D}{ρ:List Addr}{mh:MH}(hc:X.calm=true) (I:Inv X pins σ H s) (q1:SqL X.K H l1 xs\/SqT X.K H l1 xs) (q2:SqL X.K H l2 ys\/SqT X.K H l2 ys) (rs:RS X.K H ρ mh) (ra:RDs X.K H ρ as xs) (rb:RDs X.K H ρ bs ys)
  (co:Co X.K H ρ (mh++[.lst (List.zipWith zipT as bs)]) (.ref mh.length) Q):wpAny (model X.prog X.w) X.A (call (.type "zip") [.ref l1,.ref l2]) (fun u s1=>wpAny (model X.prog X.w) X.A (call (.type "list") [u]) (EP X pins σ Q) X.xe s1) X.xe s:=by
 obtain ⟨k1,q1⟩:=sq_kind q1;obtain ⟨k2,q2⟩:=sq_kind q2;obtain ⟨t1,w1,p1,z1⟩:=k1.get I q1;obtain ⟨t2,w2,p2,z2⟩:=k2.get I q2;refine call_zipK k1 k2 p1 p2 fun h' g1 g2 g3 g4 g5 hsz hk=>?_
 have I1:Inv X pins σ H { s with heap:=h' }:=I.kept (t':=s.toks) hk;have n1:l1 < s.heap.objs.size:=by obtain ⟨o,e,_⟩:=k1.seqO p1;exact Heap.lt_size e
 have n2:l2 < s.heap.objs.size:=by obtain ⟨o,e,_⟩:=k2.seqO p2;exact Heap.lt_size e
 refine call_listz (k1:=k1) (k2:=k2) (z:=s.heap.objs.size+4) (TI:=s.heap.objs.size+2) (TO:=s.heap.objs.size+3) (i1:=s.heap.objs.size) (i2:=s.heap.objs.size+1) hc I1 rs ra rb w1 w2 (k1.seqK p1 fun o e=>hk _ o e) (k2.seqK p2 fun o e=>hk _ o e) z1 (fun c hc=>?_) (fun S hS=>?_) g1 g2 ⟨_,_,g3⟩ g4 g5 fun s' H' I' e' r'=>⟨.ref h'.objs.size,H',I',rfl,co H' _ _ e' r' (.ref (rs.last _))⟩
 ·have hc:c=s.heap.objs.size+4\/c=s.heap.objs.size+2\/c=s.heap.objs.size+3\/c=s.heap.objs.size\/c=s.heap.objs.size+1:=by simpa using hc
  have:s.heap.objs.size<=c:=by
   rcases hc with e | e | e | e | e <;> rw [e]
   ·exact Nat.le_add_right _ _
   ·exact Nat.le_add_right _ _
   ·exact Nat.le_add_right _ _
   ·exact Nat.le_refl _
   ·exact Nat.le_add_right _ _
  exact I.fpOk this (I.hok.fresh this)
 ·have hS:h'.objs.size<=S:=hS;rw [hsz] at hS;generalize s.heap.objs.size=N at *;have ap:∀ {a b:Nat},a < b->a≠b:=fun h=>Nat.ne_of_lt h
  exact zap_of n1 n2 hS
theorem boot_list:bootBuiltins "list"=some (.type "list"):=by decide +kernel
theorem de_listZip {a b:Expr}{mr:DM (List D)}{p p2 pos pos2:Pos}(hc:X.calm=true) (hg:Gl X "list") (hm:X.mg "list"=none) (hg2:Gl X "zip") (hm2:X.mg "zip"=none) (ha:DA X [a,b] mr) (hs:starEach [a,b] X.env=(false,eval a X.env)::starEach [b] X.env) (hpl:(backTo pos2 (starEach [b] X.env)).any (·.1)=false) :
  DE X (.Call (.Name "list" p) [.Call (.Name "zip" p2) [a,b] [] pos2] [] pos) (mr.bnd fun ds=>Zl (listZipD ds)):=by
 rintro loc mh pins s σ H Q I ⟨ρ,d,mh',q,rl,rs,co⟩;obtain ⟨ds,m1,ea,q⟩:=bnd_some q;have q:listZipD ds m1=some (d,mh'):=q
 refine Call_ (ld_blt I hg hm boot_list (PyProof.Rows.callWith_type1 (e:=.Call (.Name "zip" p2) [a,b] [] pos2) (rest:=[]) ?_ rfl rfl))
 show wpAny _ _ (spliced ((false,eval (.Call (.Name "zip" p2) [a,b] [] pos2) X.env)::backTo pos (starEach [] X.env))) _ _ s;refine Calls.spliced_cons (Call_ (ld_blt I hg2 hm2 boot_zip (PyProof.Rows.callWith_type1 (thn (ha loc mh pos2 pins s σ H (fun vs H1=>∃ ρ1,Ev X.K H ρ H1 ρ1/\RS X.K H1 ρ1 m1/\RDs X.K H1 ρ1 ds vs) I ⟨ρ,ds,m1,ea,rl,rs,fun H1 ρ1 v e1 rs1 r1=>⟨ρ1,e1,rs1,r1⟩⟩) ?_) hs hpl)));rintro us s1 ⟨vs,H1,I1,r1,ρ1,e1,rs1,rx⟩;unfold listZipD at q;split at q
 ·rename_i x y;split at q
  ·rename_i as bs ex ey;cases q;cases rx with
   | cons rx ry =>
    cases ry with
    | cons ry rz =>
     cases rz;obtain ⟨l1,xs,rfl,q1,ra⟩:=seqD_ok rs1 rx ex;obtain ⟨l2,ys,rfl,q2,rb⟩:=seqD_ok rs1 ry ey;cases r1 with
     | cons u1 r1 =>
      cases r1 with
      | cons u2 r1 =>
       cases r1;cases u1;cases u2;exact thn (lz_run hc I1 q1 q2 rs1 ra rb (co.ev e1)) fun u s2 h=>Calls.spliced_nil h
  ·cases q
 ·cases q
end
theorem cnt_ints (k:Int):∀ {its:List Value}{ns:List Int},IntsAre its ns->its.countP (isInt k)=ns.countP (·==k)
 | _,_,.nil=>rfl
 | _,_,.cons n t h=>by
  rw [List.countP_cons,List.countP_cons,cnt_ints k h];rfl
noncomputable def cntT:D->List D->MH->Option (D×MH)
 | .tup ds,[.int k],mh=>match intsOf ds with
  | some ns=>some (.int (ns.countP (·==k):Nat),mh)
  | none=>none
 | _,_,_=>none
noncomputable def cntL:D->List D->MH->Option (D×MH)
 | .ref n,[.int k],mh=>match mh[n]? with
  | some (.lst ds)=>(match intsOf ds with
   | some ns=>some (.int (ns.countP (·==k):Nat),mh)
   | none=>none)
  | _=>none
 | _,_,_=>none
section
variable {X:Cx}
theorem mt_cntT:MtR X "tuple.count" (rDM X.K cntT):=by
 rintro pins s σ H x xs v us Q I rx rv ⟨ρ,mh,dx,ds,d,mh',q,rs,r1,r2,co⟩
 match dx,ds,q with
 | .tup es,[.int k],q =>
  simp only [cntT] at q;split at q
  ·rename_i ns en;cases q;obtain ⟨y,rfl,ry⟩:=rds1 r2;cases ry;obtain ⟨u,rfl,ru⟩:=rv.one;obtain ⟨t,rfl⟩:=ru;cases r1 with
   | @tup _ a ws sq rr =>
    cases rx;rw [intsOf_some en] at rr;rw [rds_ints rr] at sq;obtain ⟨its,rvv,pl,hz⟩:=I.tuple sq;have hi:IntsAre its ns:=intsAre_of rvv;obtain ⟨⟨cls,dd,data,sl⟩,ho,hc,n,hd⟩:=id pl;simp only at hc hd;subst hc hd;refine call_meets PySem.F.slot_tuple_count ⟨_,ho,rfl⟩ PySem.F.entry_tuple_count (PySem.F.args_tuple_count_2 _ _) (PySem.SeqAt.tuple_countAt a its.toArray n dd sl (.int k t) (isInt k)) ⟨ho,fun y hy=>(eq_isInt k t hi y (by simpa using hy)).at _ _,?_⟩;rw [show its.toArray.toList=its from rfl,cnt_ints k hi];exact ⟨.int _,H,I.tok _,⟨_,rfl⟩,co H ρ _ Ev.refl rs (.int _)⟩
  ·cases q
theorem mt_cntL:MtR X "list.count" (rDM X.K cntL):=by
 rintro pins s σ H x xs v us Q I rx rv ⟨ρ,mh,dx,ds,d,mh',q,rs,r1,r2,co⟩
 match dx,ds,q with
 | .ref nn,[.int k],q =>
  simp only [cntL] at q;split at q
  ·rename_i es em;split at q
   ·rename_i ns en;cases q;obtain ⟨y,rfl,ry⟩:=rds1 r2;cases ry;obtain ⟨u,rfl,ru⟩:=rv.one;obtain ⟨t,rfl⟩:=ru;cases r1 with
    | @ref _ a h =>
     cases rx;obtain ⟨a',ha,ro⟩:=rs.at em;rw [h] at ha;cases ha;obtain ⟨ws,sq,rr⟩:=ro.read;have rr:RDs X.K H ρ es ws:=rr;rw [intsOf_some en] at rr;rw [rds_ints rr] at sq;obtain ⟨its,rvv,pl,hz⟩:=I.list sq;have hi:IntsAre its ns:=intsAre_of rvv;obtain ⟨⟨cls,dd,data,sl⟩,n,ho,hc,hdd,hd⟩:=id pl;simp only at hc hd;subst hc hd;refine call_meets PySem.F.slot_list_count ⟨_,ho,rfl⟩ PySem.F.entry_list_count (PySem.F.args_list_count_2 _ _) (PySem.SeqAt.list_countAt a its.toArray n dd sl (.int k t) (isInt k)) ⟨ho,fun y hy=>(eq_isInt k t hi y (by simpa using hy)).at _ _,?_⟩;rw [show its.toArray.toList=its from rfl,cnt_ints k hi];exact ⟨.int _,H,I.tok _,⟨_,rfl⟩,co H ρ _ Ev.refl rs (.int _)⟩
   ·cases q
  ·cases q
end
noncomputable def methE (T1:String) (f1:D->List D->MH->Option (D×MH)) (T2:String) (f2:D->List D->MH->Option (D×MH)) (mo:DM D) (mr:DM (List D)):DM D:=fun loc mh=>match mo loc mh with
 | some (x,m1)=>if tyOk T1 x m1 then methM T1 f1 mo mr loc mh else methM T2 f2 mo mr loc mh
 | none=>none
theorem de_methE {X:Cx}{e:Expr}{T1 T2:String}{f1 f2:D->List D->MH->Option (D×MH)}{mo:DM D}{mr:DM (List D)}(h1:DE X e (methM T1 f1 mo mr)) (h2:DE X e (methM T2 f2 mo mr)):DE X e (methE T1 f1 T2 f2 mo mr):=fun loc mh=>by
 unfold methE;split
 ·split
  ·exact h1 loc mh
  ·exact h2 loc mh
 ·exact PE_none
section
variable {prog:Program}{w:World}{A:Around}{E:Value->Shared->Prop}{s:Shared}
theorem collect_tup {l:Addr}{vs:List Value}{Q:List Value->Shared->Prop}(hl:s.heap.IsTuple l vs.toArray)
  (h:Q vs { s with heap:=(s.heap.push (seqObj "list" #[] 0)).update s.heap.objs.size (Obj.mapSeq (·++vs.toArray)) }) (hsz:vs.length<=sizeLine) :
  wpAny (model prog w) A (collect (.ref l)) Q E s:=by
 obtain ⟨o,ho,hc,n,hd⟩:=id hl;unfold collect;refine wpAny_bind (wpAny_runValue (codeAny_builtin entry_proto_collect' ?_))
 show wpAny _ _ (do again (.builtin "list.__iadd__" ⟨[← newList [],.ref l],[]⟩)) _ _ s;refine wpAny_bind (wpAny_newList (wpAny_pure ⟨Code.quiet_builtin _ (by decide +kernel),codeAny_builtin entry_list_iadd' ?_⟩))
 show wpAny _ _ (Builtin.List.listExtendWith (.ref s.heap.objs.size) (.ref l) (.ref s.heap.objs.size)) _ _ { s with heap:=s.heap.push (seqObj "list" #[] 0) };unfold Builtin.List.listExtendWith
 have ho':(s.heap.push (seqObj "list" #[] 0)).get? l=some o:=Heap.get?_push_of_some _ ho
 refine wpAny_bind (wpAny_typeOf (T := "tuple") ⟨o,ho',hc⟩ ?_)
 have ht:(Value.type "tuple"==Value.type "tuple")=true:=by rfl
 rw [if_pos (by rw [ht];simp)];refine wpAny_bind (listItems_at ho' hd ?_);refine wpAny_bind (listItems_at (xs:=#[]) (n:=0) (Heap.get?_push_size _ rfl) rfl ?_);rw [if_neg (by simp)];refine wpAny_bind (listUpdate_at (xs:=#[]) (n:=0) (Heap.get?_push_size _ rfl) rfl ?_ (Nat.zero_le _) (by show (#[]++vs.toArray).size<=sizeLine+1;simp only [Array.size_append,List.size_toArray,List.length_nil];omega));refine wpAny_pure ?_
 show wpAny (model prog w) A (do
   let o ← load s.heap.objs.size
   match o.data with
   | .seq xs _=>pure xs.toList
   | _=>unsupported "internal:collect") Q E { s with heap:=(s.heap.push (seqObj "list" #[] 0)).update s.heap.objs.size (Obj.mapSeq (·++vs.toArray)) }
 refine wpAny_bind (wpAny_load (get?_update_seq (Heap.get?_push_size _ rfl) _) ?_);show wpAny _ _ (pure ((#[]:Array Value)++vs.toArray).toList) Q E _;rw [show ((#[]:Array Value)++vs.toArray).toList=vs by simp];exact wpAny_pure h
theorem sorted_intsT {l:Addr}{vs:List Value}{ns:List Int}{Q:Value->Shared->Prop}(hl:s.heap.IsTuple l vs.toArray) (hI:IntsAre vs ns) (h64:vs.length < 64)
  (h:∀ (out:Array Value) (ns':List Int),IntsAre out.toList ns'->ns'.Perm ns->ns'.Pairwise (·<=·)->Q (.ref (s.heap.objs.size+1)) { s with heap:=sortedAll s.heap vs out }) :
  wpAny (model prog w) A (call (.builtin "sorted") [.ref l]) Q E s:=by
 refine Calls.call_function_entry kind_sorted plain_sorted entry_sorted (args_sorted1 _) ?_;unfold Builtin.«sorted»
 refine wpAny_bind (m:=checkCount "sorted" 1 1 _) (wpAny_pure ?_);refine wpAny_bind (collect_tup hl ?_ (by rw [sizeLine_eq];omega));refine wpAny_bind (wpAny_newList ?_ (by rw [sizeLine_eq];omega))
 have hsz:((s.heap.push (seqObj "list" #[] 0)).update s.heap.objs.size (Obj.mapSeq (·++vs.toArray))).objs.size=s.heap.objs.size+1:=by
  rw [Heap.size_update,size_push']
 have hoL:(((s.heap.push (seqObj "list" #[] 0)).update s.heap.objs.size (Obj.mapSeq (·++vs.toArray))).push (seqObj "list" vs.toArray 0)).get? (s.heap.objs.size+1)=some (seqObj "list" vs.toArray 0):=by
  rw [← hsz];exact Heap.get?_push_size _ rfl
 show wpAny _ _ _ _ _ { s with heap:=((s.heap.push (seqObj "list" #[] 0)).update s.heap.objs.size (Obj.mapSeq (·++vs.toArray))).push (seqObj "list" vs.toArray 0) };rw [hsz];refine wpAny_bind (wpAny_holding (wpAny_call_entry slot_list_sort ⟨_,hoL,rfl⟩ entry_list_sort (list_sort_tree hoL hI h64 fun out ns' a1 a2 a3=>⟨_,rfl,?_⟩) (args_list_sort _)));exact wpAny_pure ⟨_,rfl,h out ns' a1 a2 a3⟩
end
noncomputable def sortedA:List D->MH->Option (D×MH)
 | [.tup ds],mh=>match intsOf ds with
  | some ns=>if ns.length < 64 then some (.ref mh.length,mh++[.lst ((sortI ns).map .int)]) else none
  | none=>none
 | ds,mh=>sortedD ds mh
theorem call_sortedA {X:Cx}:CallR X (.builtin "sorted") (rDs X.K sortedA):=by
 rintro pins s σ H xs us Q I r ⟨ρ,mh,ds,d,mh',q,rs,rd,co⟩;unfold sortedA at q;split at q
 ·rename_i es;split at q
  ·rename_i ns ei;split at q
   ·rename_i h64;cases q;obtain ⟨v,rfl,rx⟩:=rds1 rd;obtain ⟨u,rfl,ru⟩:=vals1 r;cases rx with
    | tup sq ry =>
     cases ru;rw [intsOf_some ei] at ry;rw [rds_ints ry] at sq;obtain ⟨its,rv,pl,hz⟩:=I.tuple sq;have hlen:=rv.length;refine sorted_intsT pl (ints_vals rv) (by simp at hlen;omega) fun out ns' a1 a2 a3=>?_
     have es':ns'=sortI ns:=sortI_of a2 a3;subst es';obtain ⟨c,kp,at'⟩:=sortedAll_ok s.heap its out;refine ⟨.ref (s.heap.objs.size+1),_,I.laid (t':=s.toks) (a:=s.heap.objs.size+1) (o:=.lst ((sortI ns).map V.int)) kp (Nat.le_succ _) ⟨?_,out.toList,c,vals_ints a1,?_⟩,rfl,Co.newL rs (rds_intsOf (sortI ns)) co _ (I.hok.fresh (Nat.le_succ _))⟩
     ·rw [List.length_map,(sortI_perm ns).length_eq,sizeLine_eq];omega
     ·rw [at']
   ·cases q
  ·cases q
 ·exact call_sortedD pins s σ H xs us Q I r ⟨ρ,mh,_,d,mh',q,rs,rd,co⟩
inductive DEnts (w:World) (K:PySem.W.Frag):List DictEntry->List (Str×D)->Prop
 | nil:DEnts w K [] []
 | cons {k:Str} {t:Tok} {u:Value} {v:V} {d:D} {es:List DictEntry} {kvs:List (Str×D)}:RelV v u->(∀ H ρ,RD K H ρ d v)->DEnts w K es kvs->DEnts w K ({ hash:=hashStr w k,key:=.str k t,val:=u }::es) ((k,d)::kvs)
structure DicOk (w:World) (K:PySem.W.Frag) (a:Addr) (kvs:List (Str×D)):Prop where
 ns:(a==sysModules)=false
 ob:∃ o es ep,K.lookup a=some o/\o.ExactDict/\o.data=.dict es ep/\DEnts w K es.toList kvs
noncomputable def foundAt (es:List DictEntry) (k:Str):Option Value:=match es with
 | []=>none
 | e::r=>if Value.isStrOf k e.key then some e.val else foundAt r k
theorem findBy_list (es:Array DictEntry) (k:Str):findBy Value.isStrOf es k=foundAt es.toList k:=by
 obtain ⟨l⟩:=es;simp only [findBy,List.find?_toArray]
 induction l with
 | nil=>rfl
 | cons e r ih =>
  rw [List.find?_cons];show _=(if Value.isStrOf k e.key=true then some e.val else foundAt r k);cases h:Value.isStrOf k e.key with
  | true=>rfl
  | false=>exact ih
theorem dents_find {w:World}{K:PySem.W.Frag}:∀ {es:List DictEntry}{kvs:List (Str×D)},DEnts w K es kvs->∀ k:Str,(∃ d u v,kvs.lookup k=some d/\foundAt es k=some u/\RelV v u/\∀ H ρ,RD K H ρ d v)\/(kvs.lookup k=none/\foundAt es k=none)
 | _,_,.nil,k=>.inr ⟨rfl,rfl⟩
 | _,_,@DEnts.cons _ _ k0 t u v d es kvs rv rd h,k=>by
  by_cases e:k=k0
  ·subst e;left;refine ⟨d,u,v,by simp [List.lookup],?_,rv,rd⟩;simp [foundAt,Value.isStrOf]
  ·have e1:(k==k0)=false:=by simpa using e
   have e2:Value.isStrOf k (.str k0 t)=false:=by
    simp [Value.isStrOf];exact fun z=>e z.symm
   rcases dents_find h k with ⟨d',u',v',h1,h2,h3,h4⟩|⟨h1,h2⟩
   ·left;refine ⟨d',u',v',by rw [List.lookup_cons,e1];exact h1,?_,h3,h4⟩;show (if Value.isStrOf k (.str k0 t)=true then some u else foundAt es k)=some u';rw [e2];exact h2
   ·right;refine ⟨by rw [List.lookup_cons,e1];exact h1,?_⟩;show (if Value.isStrOf k (.str k0 t)=true then some u else foundAt es k)=none;rw [e2];exact h2
theorem dents_keys {P:Program}{w:World}{K:PySem.W.Frag}{es:List DictEntry}{kvs:List (Str×D)}(h:DEnts w K es kvs):∀ e∈es,∃ k,(PySem.strKind P w).is k e.key=true/\e.hash=(PySem.strKind P w).hash k:=by
 induction h with
 | nil=>intro e he;cases he
 | cons rv rd h ih =>
  intro e he;rcases List.mem_cons.mp he with rfl|he
  ·exact ⟨_,by simp [PySem.strKind,Value.isStrOf],rfl⟩
  ·exact ih e he
section
variable {X:Cx}{a:Addr}{kvs:List (Str×D)}
theorem DicOk.map {pins:List (Addr×Obj)}{σ:L2.St}{H:Hp}{s:Shared}(D:DicOk X.w X.K a kvs) (I:Inv X pins σ H s):∃ f,s.heap.MapOf (PySem.strKind X.prog X.w) a f/\∀ k,(∃ d u v,kvs.lookup k=some d/\f k=some u/\RelV v u/\∀ H ρ,RD X.K H ρ d v)\/(kvs.lookup k=none/\f k=none):=by
 obtain ⟨o,es,ep,h1,h2,h3,h4⟩:=D.ob;refine ⟨foundAt es.toList,⟨o,es,ep,I.kIn a o h1,h2,h3,fun e he=>dents_keys h4 e (by simpa using he),fun k=>findBy_list es k⟩,dents_find h4⟩
variable {e:Expr}{me:DM D}{x:Str}{p pos:Pos}
noncomputable def dicIn (neg:Bool) (kvs:List (Str×D)) (m:DM D):DM D:=m.bnd fun y=>match y with
 | .str k=>Zr (.bl (if neg then !(kvs.lookup k).isSome else (kvs.lookup k).isSome))
 | _=>Zb
noncomputable def dicIx (kvs:List (Str×D)) (m:DM D):DM D:=m.bnd fun y=>match y with
 | .str k=>(match kvs.lookup k with | some d=>Zr d | none=>Zb)
 | _=>Zb
end
mutual
noncomputable def rdV (K:PySem.W.Frag):Nat->Value->Option D
 | _,.none=>some .non
 | _,.bool b=>some (.bl b)
 | _,.int i _=>some (.int i)
 | _,.str x _=>some (.str x)
 | n+1,.ref a=>match K.lookup a with
  | some ⟨.type c,none,.seq its _,_⟩=>if c == "tuple"&&decide (its.size<=1000) then (match rdVs K n its.toList with | some ds=>some (.tup ds) | none=>none) else none
  | _=>none
 | _,_=>none
noncomputable def rdVs (K:PySem.W.Frag):Nat->List Value->Option (List D)
 | _,[]=>some []
 | 0,_::_=>none
 | n+1,u::r=>match rdV K n u with
  | some d=>(match rdVs K n r with | some ds=>some (d::ds) | none=>none)
  | none=>none
end
mutual
theorem rdV_ok {K:PySem.W.Frag}:∀ (n:Nat) {u:Value}{d:D},rdV K n u=some d->∃ v,RelV v u/\∀ H ρ,RD K H ρ d v
 | n,.none,d,h=>by cases n <;> (simp only [rdV] at h;cases h;exact ⟨.non,rfl,fun _ _=>.non⟩)
 | n,.bool b,d,h=>by cases n <;> (simp only [rdV] at h;cases h;exact ⟨.bl b,rfl,fun _ _=>.bl b⟩)
 | n,.int i t,d,h=>by cases n <;> (simp only [rdV] at h;cases h;exact ⟨.int i,⟨t,rfl⟩,fun _ _=>.int i⟩)
 | n,.str x t,d,h=>by cases n <;> (simp only [rdV] at h;cases h;exact ⟨.str x,⟨t,rfl⟩,fun _ _=>.str x⟩)
 | 0,.ref a,d,h=>by simp only [rdV] at h;cases h
 | n+1,.ref a,d,h=>by
  simp only [rdV] at h;split at h
  ·rename_i c its ep sl hk;split at h
   ·rename_i hc;rw [Bool.and_eq_true,decide_eq_true_iff] at hc;split at h
    ·rename_i ds hd;cases h;obtain ⟨vs,h1,h2⟩:=rdVs_ok n hd;refine ⟨.ref a,rfl,fun H ρ=>.tup (.inr ⟨_,its,ep,hk,by rw [eq_of_beq hc.1],rfl,rfl,?_,h1⟩) (h2 H ρ)⟩;rw [sizeLine_eq];omega
    ·cases h
   ·cases h
  ·cases h
 | n,.float _ _,d,h=>by cases n <;> (simp only [rdV] at h;cases h)
 | n,.bytes _ _,d,h=>by cases n <;> (simp only [rdV] at h;cases h)
 | n,.ellipsis,d,h=>by cases n <;> (simp only [rdV] at h;cases h)
 | n,.notImplemented,d,h=>by cases n <;> (simp only [rdV] at h;cases h)
 | n,.type _,d,h=>by cases n <;> (simp only [rdV] at h;cases h)
 | n,.builtin _,d,h=>by cases n <;> (simp only [rdV] at h;cases h)
theorem rdVs_ok {K:PySem.W.Frag}:∀ (n:Nat) {us:List Value}{ds:List D},rdVs K n us=some ds->∃ vs,Vals vs us/\∀ H ρ,RDs K H ρ ds vs
 | n,[],ds,h=>by cases n <;> (simp only [rdVs] at h;cases h;exact ⟨[],.nil,fun _ _=>.nil⟩)
 | 0,_::_,ds,h=>by simp only [rdVs] at h;cases h
 | n+1,u::r,ds,h=>by
  simp only [rdVs] at h;split at h
  ·rename_i d hd;split at h
   ·rename_i ds' hr;cases h;obtain ⟨v,a1,a2⟩:=rdV_ok n hd;obtain ⟨vs,b1,b2⟩:=rdVs_ok n hr;exact ⟨v::vs,.cons a1 b1,fun H ρ=>.cons (a2 H ρ) (b2 H ρ)⟩
   ·cases h
  ·cases h
end
noncomputable def fldD (c f:Str) (x:D) (mh:MH):Option (D×MH):=match x with
 | .obj c' ks ds=>if c'==c then (match (ks.zip ds).lookup f with | some d=>some (d,mh) | none=>none) else none
 | _=>none
section
variable {X:Cx}{o:Expr}{mo:DM D}{c f:Str}{C:Addr}{pos apos:Pos}
variable {CX:CXT}{k:Nat}{fa:Addr}{fd:FuncData}{ps:List Str}{m:Str}{g:List D->MH->Option (D×MH)}{e:Expr}{es:List Expr}{mr:DM (List D)}{E:XK}
noncomputable def spI (C:Addr) (f:Str):Sp:=fun vs H Q _=>∃ x dx v,vs=[.ref x,v]/\H x=some (.ins C dx [])/\Q .non (upd H x (.ins C dx [(f,v)]))
end
noncomputable abbrev Fn:=List D->MH->Option (D×MH)
noncomputable def attrM (ok:Str->Str->Bool) (f:Str) (mo:DM D):DM D:=mo.bnd fun x=>match x with
 | .obj c ks ds=>if ok c f then Zl (fldD c f (.obj c ks ds)) else Zb
 | _=>Zb
noncomputable def objM (met:Str->Str->Option (List Str×Fn)) (m:Str) (mo:DM D) (mr:DM (List D)):DM D:=mo.bnd fun x=>match x with
 | .obj c ks ds=>(match met c m with
  | some (_,g)=>if ks.contains m then Zb else mr.bnd fun as=>Zl (g (.obj c ks ds::as))
  | none=>Zb)
 | _=>Zb
section
variable {X:Cx}{o:Expr}{mo:DM D}{f m:Str}{pos apos:Pos}
end
section
variable {X:Cx}
noncomputable def twoI:List D->Option (Int×Int)
 | [.int i,.int j]=>some (i,j)
 | _=>none
theorem twoI_some {ds:List D}{z:Int×Int}(h:twoI ds=some z):ds=[.int z.1,.int z.2]:=by
 match ds,h with
 | [d,e],h =>
  cases d with
  | int i =>
   cases e with
   | int j=>cases h;rfl
   | _=>cases h
  | _=>cases h
 | [],h=>cases h
 | [d],h=>cases d <;> cases h
 | d::e::_::_,h=>cases d <;> first | cases h | (cases e <;> cases h)
noncomputable def best2 (f:Int->List Int->Int) (g:Fn):Fn:=fun ds mh=>match twoI ds with
 | some z=>some (.int (f z.1 [z.2]),mh)
 | none=>g ds mh
theorem best2_call {v:Value}{f:Int->List Int->Int}{g:Fn}(h2:CallR X v (fun xs H Q=>∃ i j,xs=[.int i,.int j]/\Q (.int (f i [j])) H)) (hg:CallR X v (rDs X.K g)):CallR X v (rDs X.K (best2 f g)):=by
 rintro pins s σ H xs us Q I r ⟨ρ,mh,ds,d,mh',q,rs,rd,co⟩;unfold best2 at q;cases e:twoI ds with
 | none=>rw [e] at q;exact hg pins s σ H xs us Q I r ⟨ρ,mh,ds,d,mh',q,rs,rd,co⟩
 | some z =>
  rw [e] at q;cases q;rw [twoI_some e] at rd;obtain ⟨v1,v2,rfl,r1,r2⟩:=rds2 rd;cases r1;cases r2;exact h2 pins s σ H _ us Q I r ⟨_,_,rfl,co H ρ _ Ev.refl rs (.int _)⟩
noncomputable def maxD2:Fn:=best2 maxI maxD
noncomputable def minD2:Fn:=best2 minI minD
theorem call_maxD2 (hc:X.calm=true):CallR X (.builtin "max") (rDs X.K maxD2):=best2_call (call_max2 hc) (call_maxD hc)
theorem call_minD2 (hc:X.calm=true):CallR X (.builtin "min") (rDs X.K minD2):=best2_call (call_min2 hc) (call_minD hc)
end
noncomputable def ItrS (lo c:Int) (n:Nat):It:=⟨fun i _=>i < n,fun i H x H'=>H'=H/\x=.int (lo+i * c),fun i _=>n<=i⟩
theorem turn_rangeS {P:Program}{w:World}{K:PySem.W.Frag}{tg:Expr}(it:Addr) (lo c:Int) (n:Nat):Turn P w K tg (ItrS lo c n) [it] it (fun i h=>IsRangeIter h it (lo+(i:Nat) * c) ((n:Int) - (i:Nat)) c) where
 mem:=by simp
 obj:=fun i h st b hb=>by
  have e:b=it:=by simpa using hb
  subst e
  exact ⟨_,st,fun v z=>by
   have z':Data.fields _=Data.cell v:=z
   cases z'⟩
 keep:=fun i h h' st k=>k it (by simp) _ st
 item:=by
  intro X hP hw hK hc i pins s σ H E I hf st hg;subst hP hw hK;obtain ⟨f0,f1,f2,f3,f4,f5⟩:=hf it (by simp);have W:=Walks.range (prog:=X.prog) (w:=X.w) (I.ok.hd hc) it lo c n;refine W.item i s _ _ hg st fun v h' tk hv st' kk=>?_
  obtain ⟨t,rfl⟩:=hv;have I1:Inv X pins σ H { s with heap:=h',toks:=tk }:=I.turned (fun b o hb e=>kk b o (by simpa using hb) e) f0 f1 f3 f4 f5
  exact ⟨_,rfl,go_of (s:={ s with heap:=h',toks:=tk }) (n := "range_iterator") st' rfl rfl (by decide) ⟨.int (lo+i * c),H,I1,⟨t,rfl⟩,⟨rfl,rfl⟩,st',fun b hb=>(hf b hb).1⟩⟩
 done:=by
  intro X hP hw hK hc i pins s σ H E I hf st hg;subst hP hw hK;obtain ⟨f0,f1,f2,f3,f4,f5⟩:=hf it (by simp);exact wpAny_pyNext_range_end (I.ok.hd hc) st (by have:n<=i:=hg;omega) fun h' eb=>⟨rfl,I.turned (t':=s.toks) (fun b o hb e=>eb b o hb e) f0 f1 f3 f4 f5⟩
 self:=fun _ _ _ _ _ st h=>wpAny_pyIter_rangeiter st h
noncomputable def rangeS (lo c:Int) (n:Nat):List D:=(List.range n).map fun (k:Nat)=>D.int (lo+(k:Int) * c)
theorem JR.rngS {K:PySem.W.Frag}{H0:Hp}{ρ0:List Addr}{lo c:Int}{n:Nat}:JR K H0 ρ0 (.seq (rangeS lo c n)) (ItrS lo c n) where
 go:=fun H ρ mh i d e rs q=>by
  have q:(rangeS lo c n)[i]?=some d:=q;unfold rangeS at q;rw [List.getElem?_map] at q
  by_cases hi:i < n
  ·rw [List.getElem?_range hi] at q;cases q;refine ⟨hi,?_⟩;rintro x H' ⟨h1,h2⟩;subst h1;subst h2;exact ⟨Ev.refl,rs,.int _⟩
  ·rw [List.getElem?_eq_none (by simp;omega)] at q;cases q
 stop:=fun H ρ mh i e rs q=>by
  show n<=i;have q:(true&&decide ((rangeS lo c n).length<=i))=true:=q;rw [Bool.true_and] at q;have:=of_decide_eq_true q;unfold rangeS at this
  simpa using this
noncomputable def rngN (a b c:Int):Nat:=(Builtin.Range.rangeSize a b c).toNat
theorem rngN_eq {a b c:Int}(hc:0 < c):((rngN a b c:Nat):Int)=Builtin.Range.rangeSize a b c:=by
 unfold rngN Builtin.Range.rangeSize;rw [if_pos hc];split
 ·have:0<=(b - a - 1) / c:=Int.ediv_nonneg (by omega) (by omega);omega
 ·rfl
theorem rng_small {a b c:Int}(h1:0 < c/\c < 1000) (ha:-1000000<=a/\a<=1000000) (hb:-1000000<=b/\b<=1000000):Builtin.Range.small a b c=true:=by
 have h2:Builtin.Range.rangeSize a b c<=2000001:=by
  unfold Builtin.Range.rangeSize;rw [if_pos h1.1];split
  ·have:(b - a - 1) / c<=b - a - 1:=Int.ediv_le_self _ (by omega);omega
  ·omega
 have h3:0<=Builtin.Range.rangeSize a b c:=by rw [← rngN_eq h1.1];omega
 unfold Builtin.Range.small;simp only [Builtin.Range.rangeFitsLong,Bool.and_eq_true,Bool.or_eq_true,decide_eq_true_eq,beq_iff_eq,if_pos (show c > 0 from h1.1)];omega
section
variable {X:Cx}{tg:Expr}
noncomputable def rng3 (ds:List D):Option Src:=match ds with
 | [.int i,.int j,.int c]=>if (0 < c/\c < 1000)/\(-1000000<=i/\i<=1000000)/\(-1000000<=j/\j<=1000000) then some (.seq (rangeS i c (rngN i j c))) else none
 | _=>none
theorem rng3_some {ds:List D}{s:Src}(h:rng3 ds=some s):∃ i j c,ds=[.int i,.int j,.int c]/\((0 < c/\c < 1000)/\(-1000000<=i/\i<=1000000)/\(-1000000<=j/\j<=1000000))/\s=.seq (rangeS i c (rngN i j c)):=by
 unfold rng3 at h;split at h
 ·rename_i i j c;split at h
  ·rename_i hj;cases h;exact ⟨i,j,c,rfl,hj,rfl⟩
  ·cases h
 ·cases h
theorem di_range3 {a b c:Expr}{mr:DM (List D)}{p pos:Pos}(hg:Gl X "range") (hm:X.mg "range"=none) (ha:DA X [a,b,c] mr) (he:starEach [a,b,c] X.env=(false,eval a X.env)::starEach [b,c] X.env) (hpl:(backTo pos (starEach [b,c] X.env)).any (·.1)=false) :
  DI X tg (.Call (.Name "range" p) [a,b,c] [] pos) (rngM rng3 mr):=fun loc mh=>by
 rintro pins s σ H R I ⟨ρ,src,mh',q,rl,rs,co⟩;obtain ⟨ds,ea,q⟩:=rngM_some q;obtain ⟨i,j,k,rfl,⟨hc,hi,hj⟩,e⟩:=rng3_some q;have e:src=.seq (rangeS i k (rngN i j k)):=e;subst e;refine Call_ (ld_blt I hg hm boot_range (PyProof.Rows.callWith_type1 (thn (ha loc mh pos pins s σ H (fun vs H1=>∃ ρ1,Ev X.K H ρ H1 ρ1/\RS X.K H1 ρ1 mh'/\RDs X.K H1 ρ1 [.int i,.int j,.int k] vs) I ⟨ρ,_,mh',ea,rl,rs,fun H1 ρ1 vs e1 rs1 r1=>⟨ρ1,e1,rs1,r1⟩⟩) ?_) he hpl));rintro us s1 ⟨vs,H1,I1,r,ρ1,e1,rs1,rd⟩;cases rd with
 | cons d1 rd =>
  obtain ⟨v2,v3,rfl,d2,d3⟩:=rds2 rd;cases d1;cases d2;cases d3;cases r with
  | cons r1 rr =>
   obtain ⟨u2,u3,rfl,⟨t2,rfl⟩,⟨t3,rfl⟩⟩:=vals2 rr;obtain ⟨t1,rfl⟩:=r1
   refine call_range_3 (by omega) ?_ (.inl (PyProof.noPylong_of_log2 (by
    have h0:k.natAbs≠0:=by omega
    have:k.natAbs.log2 < 10:=(Nat.log2_lt h0).mpr (by omega)
    omega)))
   refine wpAny_pyIter_range (IsRange.new ..) (rng_small hc hi hj) ?_
   have I2:Inv X pins σ H1 { s1 with heap:=s1.heap.push { cls:=.type "range",data:=.fields #[.int i t1,.int j t2,.int k t3] },toks:=s1.toks }:=I1.kept fun b o e=>Heap.get?_push_of_some _ e
   refine ⟨(s1.heap.push { cls:=.type "range",data:=.fields #[.int i t1,.int j t2,.int k t3] }).objs.size,[(s1.heap.push { cls:=.type "range",data:=.fields #[.int i t1,.int j t2,.int k t3] }).objs.size],_,_,H1,rfl,
    I2.kept (t':=s1.toks) fun b o e=>Heap.get?_push_of_some _ e,turn_rangeS _ i k (rngN i j k),?_,fun b hb=>?_,co H1 ρ1 _ e1 rs1 JR.rngS⟩
   ·have e3:i+((0:Nat):Int) * k=i:=by simp
    have e2:((rngN i j k:Nat):Int) - ((0:Nat):Int)=Builtin.Range.rangeSize i j k:=by rw [rngN_eq hc.1];simp
    show IsRangeIter _ _ (i+((0:Nat):Int) * k) (((rngN i j k:Nat):Int) - ((0:Nat):Int)) k;rw [e3,e2];exact Heap.get?_push_size _ rfl
   ·have e:b=(s1.heap.push { cls:=.type "range",data:=.fields #[.int i t1,.int j t2,.int k t3] }).objs.size:=by simpa using hb
    subst e;exact I2.fpOk (Nat.le_refl _) (I2.hok.fresh (Nat.le_refl _))
end
theorem noFill_tupM:fillsNumberSlot (.type "tuple") "mul"=pure false:=PySem.fillsNumberSlot_seq (id := "tuple.__mul__") (r:=some (.builtin "tuple.__rmul__")) PySem.F.slot_tuple_mul.lookup (by decide +kernel) PySem.F.slot_tuple_rmul.lookup (by decide +kernel)
theorem repeat_tupM:seqRepeat? (.type "tuple")=pure (some (.builtin "tuple.__mul__")):=by
 unfold seqRepeat?
 rw [PySem.seqSlot_of (T := "tuple") (name := "__mul__") (id := "tuple.__mul__") PySem.F.slot_tuple_mul.lookup (by decide +kernel),PySem.seqSlot_of (T := "tuple") (name := "__rmul__") (id := "tuple.__rmul__") PySem.F.slot_tuple_rmul.lookup (by decide +kernel)];rfl
theorem rmul_tupM (a:Int) (t:Tok) (l:Addr) (items:Array Value) (n:Nat) (dd:Option Addr) (sl:Array (Option Value)) :
  Meets (Builtin.«int.__rmul__» ⟨[.int a t,.ref l],[]⟩) (fun _ R s=>s.heap.get? l=some { cls:=.type "tuple",dict:=dd,data:=.seq items n,slots:=sl }/\R (.ok (.ret Value.notImplemented)) s) :=
 .of_wp fun prog w A R s h=>by obtain ⟨hp,g,d,tk,os⟩:=s;obtain ⟨hl,h⟩:=h;wp_walk;exact ⟨_,rfl,h⟩
theorem mul_tupM (l:Addr) (items:Array Value) (n:Nat) (dd:Option Addr) (sl:Array (Option Value)) (x:Int) (u:Tok) (hc0:¬(decide (x < -(2 ^ 63)) || decide (x ≥ 2 ^ 63))=true) (hc1:¬(items.isEmpty || x==1)=true) (hc2:¬(decide (x<=0) || items.isEmpty)=true) (hc3:¬((items.size:Int) * x > (2 ^ 63 - 1) / 8)) (hc5:¬(List.foldl (fun x1 x2=>x1++x2) #[] (List.replicate x.toNat items)).size > sizeLine) (hc4:¬PySem.Builtin.Tuple.tupleTooMany ((items.size:Int) * x)=true) :
  Meets (Builtin.«tuple.__mul__» ⟨[.ref l,.int x u],[]⟩) (fun _ R s=>s.heap.get? l=some { cls:=.type "tuple",dict:=dd,data:=.seq items n,slots:=sl }/\R (.ok (.ret (Value.ref s.heap.objs.size))) { s with heap:=s.heap.push { cls:=Value.type "tuple",data:=Data.seq (List.foldl (fun x1 x2=>x1++x2) #[] (List.replicate x.toNat items)) },toks:=s.toks }) :=
 .of_wp fun prog w A R s h=>by
  obtain ⟨hp,g,d,tk,os⟩:=s;obtain ⟨hl,h⟩:=h;have f1:=AutoSeq1.idx_int;wp_walk using wpAny_loadPart' hl
  simp only [hc0,Bool.false_eq_true,if_false];wp_walk using wpAny_loadPart' hl
  simp only [hc3,if_false];wp_walk using wpAny_loadPart' hl
  exact ⟨_,rfl,h⟩
theorem mul_tup1 (l:Addr) (items:Array Value) (n:Nat) (dd:Option Addr) (sl:Array (Option Value)) (u:Tok) :
  Meets (Builtin.«tuple.__mul__» ⟨[.ref l,.int 1 u],[]⟩) (fun _ R s=>s.heap.get? l=some { cls:=.type "tuple",dict:=dd,data:=.seq items n,slots:=sl }/\R (.ok (.ret (Value.ref l))) s) :=
 .of_wp fun prog w A R s h=>by
  obtain ⟨hp,g,d,tk,os⟩:=s;obtain ⟨hl,h⟩:=h;have f1:=AutoSeq1.idx_int;have c1:(items.isEmpty || (1:Int)==1)=true:=by rw [Bool.or_eq_true];exact .inr rfl
  wp_walk using wpAny_loadPart' hl
  exact ⟨_,rfl,h⟩
section
variable {X:Cx}
theorem RDs.rep {K:PySem.W.Frag}{H:Hp}{ρ:List Addr}{ds:List D}{vs:List V}(h:RDs K H ρ ds vs):∀ k:Nat,RDs K H ρ (List.replicate k ds).flatten (List.replicate k vs).flatten
 | 0=>.nil
 | k+1=>by
  rw [List.replicate_succ,List.replicate_succ,List.flatten_cons,List.flatten_cons];exact h.append (RDs.rep h k)
theorem op_timesT:OpR X (binaryOp .Mult) (fun x y H Q=>∃ a k xs,x=.ref a/\y=.int k/\SqT X.K H a xs/\xs≠[]/\1 < k/\k<=1000/\xs.length<=1000/\∀ p,H p=none->Q (.ref p) (upd H p (.tup (List.replicate k.toNat xs).flatten))):=by
 rintro pins s σ H x y v u Q I rx ry ⟨a,k,xs,e1,e2,ha,hne,h1,h2,h3,q⟩;subst e1;subst e2;cases rx;obtain ⟨t,rfl⟩:=ry;obtain ⟨its,r1,p1,_⟩:=I.tuple ha;obtain ⟨⟨cls,dd,data,sl⟩,ho,hc,n,hd⟩:=id p1;simp only at hc hd;subst hc hd;have hl:its.length<=1000:=by rw [← r1.length];exact h3
 have hn:its.toArray.isEmpty=false:=by
  cases its with
  | nil=>exact absurd (r1.nil_iff.mp rfl) hne
  | cons b r=>rfl
 have hm:((its.toArray.size:Nat):Int) * k<=1000 * 1000:=by
  rw [List.size_toArray];exact Int.mul_le_mul (by omega) (by omega) (by omega) (by omega)
 have hf:List.foldl (fun x1 x2=>x1++x2) #[] (List.replicate k.toNat its.toArray)=(List.replicate k.toNat its).flatten.toArray:=by
  have:=foldl_rep its k.toNat [];rw [List.nil_append] at this;exact this
 have c0:¬(decide (k < -(2 ^ 63)) || decide (k ≥ 2 ^ 63))=true:=by
  rw [Bool.or_eq_true,decide_eq_true_iff,decide_eq_true_iff];omega
 have c1:¬(its.toArray.isEmpty || k==1)=true:=by
  rw [hn,Bool.false_or,beq_iff_eq];omega
 have c2:¬(decide (k<=0) || its.toArray.isEmpty)=true:=by
  rw [hn,Bool.or_false,decide_eq_true_iff];omega
 have c3:¬(((its.toArray.size:Nat):Int) * k > (2 ^ 63 - 1) / 8):=by omega
 have c4:¬PySem.Builtin.Tuple.tupleTooMany (((its.toArray.size:Nat):Int) * k)=true:=by
  have:(sizeLine:Nat)=16777216:=sizeLine_eq;unfold PySem.Builtin.Tuple.tupleTooMany;rw [decide_eq_true_iff];omega
 have c5:¬(List.foldl (fun x1 x2=>x1++x2) #[] (List.replicate k.toNat its.toArray)).size > sizeLine:=by
  rw [hf,List.size_toArray,len_rep,sizeLine_eq];have:k.toNat * its.length<=1000 * 1000:=Nat.mul_le_mul (by omega) hl;omega
 refine wpAny_binaryOp_repeat_ref (T := "tuple") (U := "int") (by decide) ⟨_,ho,rfl⟩ (fun s'=>PySem.typeIs_int s' k t) noFill_tupM PySem.F.fills_int_mul PySem.F.slot_int_rmul repeat_tupM PySem.F.slot_int_index.lookup
  (call_meets PySem.F.slot_int_rmul (PySem.typeIs_int s k t) PySem.F.entry_int_rmul (PySem.F.args_int_rmul_2 _ _) (rmul_tupM k t a its.toArray n dd sl)
   ⟨ho,rfl,⟨_,ho,rfl⟩,call_meets PySem.F.slot_tuple_mul ⟨_,ho,rfl⟩ PySem.F.entry_tuple_mul (PySem.F.args_tuple_mul_2 _ _) (mul_tupM a its.toArray n dd sl k t c0 c1 c2 c3 c5 c4) ⟨ho,?_⟩⟩)
 rw [hf];refine ⟨.ref s.heap.objs.size,_,I.laid (t':=s.toks) (o:=.tup (List.replicate k.toNat xs).flatten) (fun b ob q=>Heap.get?_push_of_some _ q) (Nat.le_refl _) ?_,rfl,q _ (I.hok.fresh (Nat.le_refl _))⟩;refine ⟨?_,_,r1.rep k.toNat,TupP.new _ _⟩;rw [len_rep,sizeLine_eq];have:k.toNat * xs.length<=1000 * 1000:=Nat.mul_le_mul (by omega) h3;omega
theorem op_timesO:OpR X (binaryOp .Mult) (fun x y H Q=>∃ a xs,x=.ref a/\y=.int 1/\SqT X.K H a xs/\Q (.ref a) H):=by
 rintro pins s σ H x y v u Q I rx ry ⟨a,xs,e1,e2,ha,q⟩;subst e1;subst e2;cases rx;obtain ⟨t,rfl⟩:=ry;obtain ⟨its,r1,p1,_⟩:=I.tuple ha;obtain ⟨⟨cls,dd,data,sl⟩,ho,hc,n,hd⟩:=id p1;simp only at hc hd;subst hc hd
 exact wpAny_binaryOp_repeat_ref (T := "tuple") (U := "int") (by decide) ⟨_,ho,rfl⟩ (fun s'=>PySem.typeIs_int s' 1 t) noFill_tupM PySem.F.fills_int_mul PySem.F.slot_int_rmul repeat_tupM PySem.F.slot_int_index.lookup
  (call_meets PySem.F.slot_int_rmul (PySem.typeIs_int s 1 t) PySem.F.entry_int_rmul (PySem.F.args_int_rmul_2 _ _) (rmul_tupM 1 t a its.toArray n dd sl)
   ⟨ho,rfl,⟨_,ho,rfl⟩,call_meets PySem.F.slot_tuple_mul ⟨_,ho,rfl⟩ PySem.F.entry_tuple_mul (PySem.F.args_tuple_mul_2 _ _) (mul_tup1 a its.toArray n dd sl t) ⟨ho,⟨.ref a,H,I,rfl,q⟩⟩⟩)
noncomputable def tmul:D->D->Option (List D×Int)
 | .tup ds,.int k=>some (ds,k)
 | _,_=>none
theorem tmul_some {x y:D}{z:List D×Int}(h:tmul x y=some z):x=.tup z.1/\y=.int z.2:=by
 cases x with
 | tup ds =>
  cases y with
  | int k=>cases h;exact ⟨rfl,rfl⟩
  | _=>cases h
 | _=>cases h
noncomputable def mulD2 (g:D->D->MH->Option (D×MH)):D->D->MH->Option (D×MH):=fun x y mh=>match tmul x y with
 | some z=>if z.2=1 then some (.tup z.1,mh) else if (z.1.isEmpty=false/\z.1.length<=1000)/\(1 < z.2/\z.2<=1000) then some (.tup (List.replicate z.2.toNat z.1).flatten,mh) else none
 | none=>g x y mh
theorem op_mulD2 {g:D->D->MH->Option (D×MH)}(h:OpR X (binaryOp .Mult) (rD X.K g)):OpR X (binaryOp .Mult) (rD X.K (mulD2 g)):=by
 rintro pins s σ H x y v u Q I rx ry ⟨ρ,mh,dx,dy,d,mh',q,rs,r1,r2,co⟩;unfold mulD2 at q;cases e:tmul dx dy with
 | none=>rw [e] at q;exact h pins s σ H x y v u Q I rx ry ⟨ρ,mh,dx,dy,d,mh',q,rs,r1,r2,co⟩
 | some z =>
  rw [e] at q;obtain ⟨ds,k⟩:=z;obtain ⟨rfl,rfl⟩:=tmul_some e;have q:(if k=1 then some (D.tup ds,mh) else if (ds.isEmpty=false/\ds.length<=1000)/\(1 < k/\k<=1000) then some (D.tup (List.replicate k.toNat ds).flatten,mh) else none)=some (d,mh'):=q
  by_cases h1:k=1
  ·subst h1;rw [if_pos rfl] at q;cases q;cases r2;cases r1 with
   | tup s1 rr=>exact op_timesO pins s σ H _ _ v u Q I rx ry ⟨_,_,rfl,rfl,s1,co H ρ _ Ev.refl rs (.tup s1 rr)⟩
  rw [if_neg h1] at q
  by_cases hz:(ds.isEmpty=false/\ds.length<=1000)/\(1 < k/\k<=1000)
  ·have q:(if (ds.isEmpty=false/\ds.length<=1000)/\(1 < k/\k<=1000) then some (D.tup (List.replicate k.toNat ds).flatten,mh) else none)=some (d,mh'):=q;rw [if_pos hz] at q;cases q;cases r2;cases r1 with
   | tup s1 rr=>exact op_timesT pins s σ H _ _ v u Q I rx ry ⟨_,_,_,rfl,rfl,s1,fun z=>by
     subst z;cases rr
     exact absurd hz.1.1 (by simp),hz.2.1,hz.2.2,by rw [← rr.length];exact hz.1.2,Co.newT rs (rr.rep _) co⟩
  ·have q:(if (ds.isEmpty=false/\ds.length<=1000)/\(1 < k/\k<=1000) then some (D.tup (List.replicate k.toNat ds).flatten,mh) else none)=some (d,mh'):=q;rw [if_neg hz] at q;cases q
end
section
variable {X:Cx}
noncomputable def isBv (k:Bool):Value->Bool
 | .bool b=>b==k
 | _=>false
noncomputable def obV:Option Bool->V
 | none=>.non
 | some b=>.bl b
noncomputable def obVal:Option Bool->Value
 | none=>.none
 | some b=>.bool b
noncomputable def obD:Option Bool->D
 | none=>.non
 | some b=>.bl b
noncomputable def o3Of:List D->Option (List (Option Bool))
 | []=>some []
 | .bl b::r=>(o3Of r).map (some b::·)
 | .non::r=>(o3Of r).map (none::·)
 | _::_=>none
theorem o3Of_some:∀ {ds:List D}{bs:List (Option Bool)},o3Of ds=some bs->ds=bs.map obD
 | [],bs,h=>by cases h;rfl
 | d::r,bs,h=>by
  cases d with
  | bl b =>
   have h:(o3Of r).map (some b::·)=some bs:=h;cases q:o3Of r with
   | none=>rw [q] at h;cases h
   | some l=>rw [q] at h;cases h;rw [o3Of_some q];rfl
  | non =>
   have h:(o3Of r).map (none::·)=some bs:=h;cases q:o3Of r with
   | none=>rw [q] at h;cases h
   | some l=>rw [q] at h;cases h;rw [o3Of_some q];rfl
  | _=>cases h
theorem rds_bls {K:PySem.W.Frag}{H:Hp}{ρ:List Addr}:∀ {bs:List (Option Bool)}{xs:List V},RDs K H ρ (bs.map obD) xs->xs=bs.map obV
 | [],_,.nil=>rfl
 | none::r,_,.cons h t=>by
  cases h;rw [rds_bls t];rfl
 | some b::r,_,.cons h t=>by
  cases h;rw [rds_bls t];rfl
theorem vals_bls:∀ {bs:List (Option Bool)}{its:List Value},Vals (bs.map obV) its->its=bs.map obVal
 | [],_,.nil=>rfl
 | none::r,_,.cons h t=>by
  cases h;rw [vals_bls t];rfl
 | some b::r,_,.cons h t=>by
  cases h;rw [vals_bls t];rfl
theorem cnt_bls (k:Bool):∀ bs:List (Option Bool),(bs.map obVal).countP (isBv k)=bs.countP (·==some k)
 | []=>rfl
 | none::r=>by
  rw [List.map_cons,List.countP_cons,List.countP_cons,cnt_bls k r];rfl
 | some b::r=>by
  rw [List.map_cons,List.countP_cons,List.countP_cons,cnt_bls k r];rfl
noncomputable def oneB:List D->Option Bool
 | [.bl k]=>some k
 | _=>none
theorem oneB_some {ds:List D}{k:Bool}(h:oneB ds=some k):ds=[.bl k]:=by
 match ds,h with
 | [d],h =>
  cases d with
  | bl b=>cases h;rfl
  | _=>cases h
 | [],h=>cases h
 | d::_::_,h=>cases d <;> cases h
noncomputable def lstOf:D->MH->Option (List D)
 | .ref n,mh=>match mh[n]? with | some (.lst ds)=>some ds | _=>none
 | _,_=>none
theorem lstOf_some {x:D}{mh:MH}{ds:List D}(h:lstOf x mh=some ds):∃ n,x=.ref n/\mh[n]?=some (.lst ds):=by
 cases x with
 | ref n =>
  have h:(match mh[n]? with | some (.lst ds)=>some ds | _=>none)=some ds:=h;cases e:mh[n]? with
  | none=>rw [e] at h;cases h
  | some o =>
   cases o with
   | lst es=>rw [e] at h;cases h;exact ⟨n,rfl,e⟩
   | dct kvs=>rw [e] at h;cases h
   | plc=>rw [e] at h;cases h
 | _=>cases h
noncomputable def cntL2 (x:D) (as:List D) (mh:MH):Option (D×MH):=match oneB as with
 | none=>cntL x as mh
 | some k=>match lstOf x mh with
  | none=>none
  | some ds=>match o3Of ds with
   | some bs=>some (.int (bs.countP (·==some k):Nat),mh)
   | none=>none
theorem mt_cntL2:MtR X "list.count" (rDM X.K cntL2):=by
 rintro pins s σ H x xs v us Q I rx rv ⟨ρ,mh,dx,ds,d,mh',q,rs,r1,r2,co⟩;unfold cntL2 at q;cases e1:oneB ds with
 | none=>rw [e1] at q;exact mt_cntL pins s σ H x xs v us Q I rx rv ⟨ρ,mh,dx,ds,d,mh',q,rs,r1,r2,co⟩
 | some k =>
  rw [e1] at q;have e1:=oneB_some e1;subst e1;cases e2:lstOf dx mh with
  | none=>rw [e2] at q;cases q
  | some es =>
   rw [e2] at q;dsimp only at q;cases e3:o3Of es with
   | none=>rw [e3] at q;cases q
   | some bs =>
    rw [e3] at q;cases q;obtain ⟨nn,rfl,em⟩:=lstOf_some e2;obtain ⟨y,rfl,ry⟩:=rds1 r2;cases ry;obtain ⟨u,rfl,ru⟩:=rv.one;cases ru;cases r1 with
    | @ref _ a h =>
     cases rx;obtain ⟨a',ha,ro⟩:=rs.at em;rw [h] at ha;cases ha;obtain ⟨ws,sq,rr⟩:=ro.read;have rr:RDs X.K H ρ es ws:=rr;rw [o3Of_some e3] at rr;rw [rds_bls rr] at sq;obtain ⟨its,rvv,pl,hz⟩:=I.list sq;have hi:=vals_bls rvv;subst hi;obtain ⟨⟨cls,dd,data,sl⟩,n,ho,hc,hdd,hd⟩:=id pl;simp only at hc hd;subst hc hd;refine call_meets PySem.F.slot_list_count ⟨_,ho,rfl⟩ PySem.F.entry_list_count (PySem.F.args_list_count_2 _ _) (PySem.SeqAt.list_countAt a (bs.map obVal).toArray n dd sl (.bool k) (isBv k)) ⟨ho,fun y hy=>?_,?_⟩
     ·have hy:y∈bs.map obVal:=by simpa using hy
      obtain ⟨b,_,rfl⟩:=List.mem_map.mp hy;cases b with
      | none=>exact PySem.SeqAt.EqAt.none_bool k
      | some b=>exact PySem.SeqAt.EqAt.bool_bool b k
     ·rw [show (bs.map obVal).toArray.toList=bs.map obVal from rfl,cnt_bls k bs];exact ⟨.int _,H,I.tok _,⟨_,rfl⟩,co H ρ _ Ev.refl rs (.int _)⟩
noncomputable def intD:Fn:=fun ds mh=>match ds with
 | [x]=>(match x with
  | .int i=>some (.int i,mh)
  | .bl b=>some (.int (if b then 1 else 0),mh)
  | _=>none)
 | _=>none
theorem call_intD:CallR X (.type "int") (rDs X.K intD):=by
 rintro pins s σ H xs us Q I r ⟨ρ,mh,ds,d,mh',q,rs,rd,co⟩
 match ds,q with
 | [x],q =>
  obtain ⟨v,rfl,rx⟩:=rds1 rd;cases x with
  | int i=>cases q;cases rx;exact call_int1 pins s σ H _ us Q I r (.inl ⟨i,rfl,co H ρ _ Ev.refl rs (.int _)⟩)
  | bl b=>cases q;cases rx;exact call_int1 pins s σ H _ us Q I r (.inr ⟨b,rfl,co H ρ _ Ev.refl rs (.int _)⟩)
  | _=>cases q
 | [],q=>cases q
 | _::_::_,q=>cases q
end
end DL
namespace DL
open PySem PySem.Spec PyProof.Rows L2
open MeetsSeq MeetsSeq2 MeetsSeq3 SeqRoads2
noncomputable def LtA (A:Around) (s:Shared) (y x:Value) (b:Bool):Prop :=
 ∀ (prog:Program) (w:World) (E:Value->Shared->Prop) (Q:Value->Shared->Prop),Q (.bool b) s->wpAny (model prog w) A (richCompare .Lt y x) Q E s
inductive LexA (A:Around) (s:Shared) (m n:Nat):List (Value×Value)->Bool->Prop
 | nil:LexA A s m n [] (decide (m < n))
 | eq {x y:Value} {r:List (Value×Value)} {b:Bool}:SeqAt.EqAt A s x y true->LexA A s m n r b->LexA A s m n ((x,y)::r) b
 | ne {x y:Value} {r:List (Value×Value)} {b:Bool}:SeqAt.EqAt A s x y false->LtA A s x y b->LexA A s m n ((x,y)::r) b
theorem tuple_ltA (l b:Addr) (xs ys:Array Value) (n n2:Nat) (dd dd2:Option Addr) (sl sl2:Array (Option Value)) (k:Bool) :
  Meets (Builtin.«tuple.__lt__» ⟨[.ref l,.ref b],[]⟩)
   (fun A R s=>s.heap.get? l=some { cls:=.type "tuple",dict:=dd,data:=.seq xs n,slots:=sl }/\s.heap.get? b=some { cls:=.type "tuple",dict:=dd2,data:=.seq ys n2,slots:=sl2 } /\
    LexA A.in1 s xs.size ys.size (xs.toList.zip ys.toList) k/\R (.ok (.ret (.bool k))) s) :=
 .of_wp fun prog w A R s h=>by
  obtain ⟨hp,g,d,tk,os⟩:=s;obtain ⟨h1,h2,lx,h⟩:=h;have f2:=AutoSeq1.sub_tuple_tuple;wp_walk using AutoSeq1.wpAny_loadPart' h1,AutoSeq1.wpAny_loadPart' h2,wpAny_forIn_list _ (fun rest c s'=>c.1=none/\s'=⟨hp,g,d,tk,os⟩/\LexA A.in1 ⟨hp,g,d,tk,os⟩ xs.size ys.size rest k) _
  case turn =>
   rintro ⟨y,x⟩ rest c s' ⟨hc,rfl,hx⟩;cases hx with
   | eq e lx=>exact wpAny_bind (e prog w _ _ (wpAny_pure ⟨rfl,rfl,lx⟩))
   | ne e lt =>
    refine wpAny_bind (e prog w _ _ (wpAny_bind (wpAny_rule (wpAny_bind (lt prog w _ _ ?_)))));wp_walk;exact ⟨_,rfl,h⟩
  case fin =>
   rintro ⟨c1,c2⟩ s' ⟨hc,rfl,hx⟩;cases hc;cases hx;wp_walk;refine ⟨_,rfl,?_⟩
   simpa [Builtin.Tuple.tupleCompareSizes] using h
  case h=>exact ⟨rfl,rfl,lx⟩
section
variable {A:Around}{s:Shared}
theorem LtA.tuples {l b:Addr}{xs ys:Array Value}{k:Bool}(hl:s.heap.IsTuple l xs) (hb:s.heap.IsTuple b ys) (hu:A.units < cLine) (lx:LexA A.in1 s xs.size ys.size (xs.toList.zip ys.toList) k):LtA A s (.ref l) (.ref b) k:=by
 intro prog w E Q h;obtain ⟨⟨c1,d1,t1,z1⟩,g1,e1,n1,f1⟩:=id hl;obtain ⟨⟨c2,d2,t2,z2⟩,g2,e2,n2,f2⟩:=id hb;cases e1;cases f1;cases e2;cases f2;exact richCompare_meets_room (op:=.Lt) ⟨_,g1,rfl⟩ ⟨_,g2,rfl⟩ F.slot_tuple_lt F.entry_tuple_lt (F.args_tuple_lt_2 _ _) (tuple_ltA l b xs ys n1 n2 d1 d2 z1 z2 k)
  ⟨g1,g2,lx,show Value.bool k≠Value.notImplemented/\Q (.bool k) s from ⟨(fun x=>nomatch x),h⟩⟩ hu
mutual
noncomputable def ltP:PyData->PyData->Option Bool
 | .int i,.int j=>some (decide (i < j))
 | .bool p,.bool q=>some (decide (b2i p < b2i q))
 | .tuple xs,.tuple ys=>ltPs xs ys
 | _,_=>none
noncomputable def ltPs:List PyData->List PyData->Option Bool
 | [],[]=>some false
 | [],_::_=>some true
 | _::_,[]=>some false
 | x::xs,y::ys=>if PyData.eqv x y=true then ltPs xs ys else ltP x y
end
mutual
theorem ltA_reads:∀ (da db:PyData) (k:Bool) (A:Around) (s:Shared) (a b:Value) (as bs:List Addr),ltP da db=some k->Reads s.heap a da as->Reads s.heap b db bs->da.canLay0=true->db.canLay0=true->A.units+min da.depth db.depth < cLine->LtA A s a b k
 | .int i,db,k,A,s,a,b,as,bs,e,ra,rb,ha,hb,hu=>by
  cases db with
  | int j =>
   simp only [ltP] at e;cases e;cases ra;cases rb;exact fun prog w E Q h=>lt_int h
  | _=>simp only [ltP] at e;cases e
 | .bool p,db,k,A,s,a,b,as,bs,e,ra,rb,ha,hb,hu=>by
  cases db with
  | bool j =>
   simp only [ltP] at e;cases e;cases ra;cases rb;exact fun prog w E Q h=>lt_bool h
  | _=>simp only [ltP] at e;cases e
 | .tuple xs,db,k,A,s,a,b,as,bs,e,ra,rb,ha,hb,hu=>by
  cases db with
  | tuple ys =>
   simp only [ltP] at e;cases ra with
   | @tuple l o vs n _ as₁ h1 h2 h3 h4 =>
    cases rb with
    | @tuple l' o' us n' _ bs₁ k1 k2 k3 k4 =>
     refine LtA.tuples ⟨_,h1,h2,_,h3⟩ ⟨_,k1,k2,_,k3⟩ (SeqAt.room_here hu) ?_;exact lexA_reads xs ys k A.in1 s vs.size us.size vs.toList us.toList _ _ e h4 k4 ha hb (SeqAt.room_in hu) 0 (by simp) (by simp)
  | _=>simp only [ltP] at e;cases e
 | .none,db,k,A,s,a,b,as,bs,e,ra,rb,ha,hb,hu=>by simp only [ltP] at e;cases e
 | .str _,db,k,A,s,a,b,as,bs,e,ra,rb,ha,hb,hu=>by simp only [ltP] at e;cases e
 | .list _,db,k,A,s,a,b,as,bs,e,ra,rb,ha,hb,hu=>by simp only [ltP] at e;cases e
 | .dict _,db,k,A,s,a,b,as,bs,e,ra,rb,ha,hb,hu=>by cases ha
theorem lexA_reads:∀ (xs ys:List PyData) (k:Bool) (A:Around) (s:Shared) (m n:Nat) (vs ws:List Value) (as bs:List Addr),ltPs xs ys=some k->ReadsAll s.heap vs xs as->ReadsAll s.heap ws ys bs->PyData.canLayAll0 xs=true->PyData.canLayAll0 ys=true ->
  A.units+min (PyData.depthAll xs) (PyData.depthAll ys) < cLine->∀ i:Nat,m=i+vs.length->n=i+ws.length->LexA A s m n (vs.zip ws) k
 | [],ys,k,A,s,m,n,vs,ws,as,bs,e,ra,rb,ha,hb,hu,i,e1,e2=>by
  cases ra;cases ys with
  | nil =>
   cases rb;simp only [ltPs] at e;cases e;have:decide (m < n)=false:=by simp at e1 e2 ⊢;omega
   rw [← this];exact .nil
  | cons y ys =>
   cases rb;simp only [ltPs] at e;cases e;have:decide (m < n)=true:=by simp at e1 e2 ⊢;omega
   rw [← this];exact .nil
 | x::xs,ys,k,A,s,m,n,vs,ws,as,bs,e,ra,rb,ha,hb,hu,i,e1,e2=>by
  cases ra with
  | cons r rs =>
   cases ys with
   | nil =>
    cases rb;simp only [ltPs] at e;cases e;have:decide (m < n)=false:=by simp at e1 e2 ⊢;omega
    rw [← this];exact .nil
   | cons y ys =>
    cases rb with
    | cons r' rs' =>
     have ha':x.canLay0=true/\PyData.canLayAll0 xs=true:=by simpa [PyData.canLayAll0] using ha
     have hb':y.canLay0=true/\PyData.canLayAll0 ys=true:=by simpa [PyData.canLayAll0] using hb
     have q:=SeqAt.eqAt_reads x y A s _ _ _ _ r r' ha'.1 hb'.1 (SeqAt.room_head hu);simp only [ltPs] at e;split at e
     ·rename_i z;rw [z] at q;exact .eq q (lexA_reads xs ys k A s m n _ _ _ _ e rs rs' ha'.2 hb'.2 (SeqAt.room_tail hu) (i+1) (by simp at e1;omega) (by simp at e2;omega))
     ·rename_i z;rw [Bool.not_eq_true] at z;rw [z] at q;exact .ne q (ltA_reads x y k A s _ _ _ _ e r r' ha'.1 hb'.1 (SeqAt.room_head hu))
end
end
end DL
namespace DL
open PySem PySem.Spec PyProof.Rows L2
section
variable {X:Cx}
end
noncomputable def sumD:Fn:=fun ds mh=>match ds with
 | [x]=>match seqD x mh with
  | some es=>match intsOf es with
   | some ns=>some (.int ns.sum,mh)
   | none=>none
  | none=>none
 | _=>none
theorem sumD_some {ds:List D}{mh mh':MH}{d:D}(h:sumD ds mh=some (d,mh')):∃ (x:D) (ns:List Int),ds=[x]/\seqD x mh=some (ns.map D.int)/\d=.int ns.sum/\mh'=mh:=by
 match ds,h with
 | [x],h =>
  have h:(match seqD x mh with | some es=>(match intsOf es with | some ns=>some (D.int ns.sum,mh) | none=>none) | none=>none)=some (d,mh'):=h;cases e1:seqD x mh with
  | none=>rw [e1] at h;cases h
  | some es =>
   rw [e1] at h;dsimp only at h;cases e2:intsOf es with
   | none=>rw [e2] at h;cases h
   | some ns=>rw [e2] at h;cases h;exact ⟨x,ns,rfl,by rw [intsOf_some e2] at e1;exact e1,rfl,rfl⟩
 | [],h=>cases h
 | _::_::_,h=>cases h
theorem preSum_take (ns:List Int):∀ k,k<=ns.length->preSum (fun i=>(ns[i]?).getD 0) k=(ns.take k).sum
 | 0,_=>by simp [preSum]
 | k+1,h=>by
  have e:ns[k]?=some ns[k]:=List.getElem?_eq_getElem (by omega);rw [preSum,preSum_take ns k (by omega),List.take_add_one,e,List.sum_append];simp
theorem call_sumD {X:Cx}(hc:X.calm=true):CallR X (.builtin "sum") (rDs X.K sumD):=by
 rintro pins s σ H xs us Q I r ⟨ρ,mh,ds,d,mh',q,rs,rd,co⟩;obtain ⟨x,ns,rfl,e,rfl,rfl⟩:=sumD_some q;obtain ⟨v,rfl,rx⟩:=rds1 rd;obtain ⟨u,rfl,ru⟩:=vals1 r;obtain ⟨p,ys,rfl,hq,ry⟩:=seqD_ok rs rx e;cases ru;rw [rds_ints ry] at hq;refine call_sum_walkG (walk_seq I (A:=X.A.in1) (I.ok.hd hc) hq fun its St h2 rv W st hfp hk=>?_);have hlen:ns.length=its.length:=by have:=rv.length;simpa using this
 refine ⟨_,_,_,its.length,_,St,fun i=>(ns[i]?).getD 0,rfl,W,st,hfp,fun i v hi=>?_,fun h' tk t' hk'=>?_⟩
 ·obtain ⟨a,t,e1,rfl⟩:=vals_int rv hi;exact ⟨t,by show _=Value.int ((ns[i]?).getD 0) t;rw [e1];rfl⟩
 ·rw [preSum_take ns _ (by omega),← hlen,List.take_length];exact ⟨.int _,H,I.kept (t':=tk) (kept_new hk' hk),⟨t',rfl⟩,co H ρ _ Ev.refl rs (.int _)⟩
noncomputable def keyB:Key->Key->Bool
 | .inl i,.inl j=>i==j
 | .inr x,.inr y=>x==y
 | _,_=>false
theorem keyB_eq (a b:Key):keyB a b=decide (a=b):=by
 cases a with
 | inl i =>
  cases b with
  | inl j=>show (i==j)=_;by_cases h:i=j <;> simp [h]
  | inr y=>rfl
 | inr x =>
  cases b with
  | inl j=>rfl
  | inr y =>
   show (x==y)=_
   by_cases h:x=y
   ·subst h;simp
   ·rw [decide_eq_false (fun z=>h (by cases z;rfl))];exact beq_eq_false_iff_ne.mpr h
noncomputable def valD:List (Key×D)->Key->Option D
 | [],_=>none
 | p::r,k=>if keyB p.1 k=true then some p.2 else valD r k
noncomputable def putD (kvs:List (Key×D)) (k:Key) (d:D):List (Key×D) :=
 if (kvs.any fun kv=>keyB kv.1 k)=true then kvs.map (fun kv=>if keyB kv.1 k=true then (kv.1,d) else kv) else kvs++[(k,d)]
section
variable {K:PySem.W.Frag}{H H':Hp}{ρ ρ':List Addr}
noncomputable def RK (K:PySem.W.Frag) (H:Hp) (ρ:List Addr) (kvs:List (Key×D)) (xs:List (Key×V)):Prop:=xs.map (·.1)=kvs.map (·.1)/\RDs K H ρ (kvs.map (·.2)) (xs.map (·.2))
theorem RK.nil:RK K H ρ [] []:=⟨rfl,.nil⟩
theorem RK.cons {k:Key}{d:D}{v:V}{kvs:List (Key×D)}{xs:List (Key×V)}(r:RD K H ρ d v) (h:RK K H ρ kvs xs):RK K H ρ ((k,d)::kvs) ((k,v)::xs) :=
 ⟨by rw [List.map_cons,List.map_cons,h.1],.cons r h.2⟩
theorem RK.inv {k:Key}{d:D}{kvs:List (Key×D)}{xs:List (Key×V)}(h:RK K H ρ ((k,d)::kvs) xs):∃ v r,xs=(k,v)::r/\RD K H ρ d v/\RK K H ρ kvs r:=by
 obtain ⟨h1,h2⟩:=h;cases xs with
 | nil=>cases h1
 | cons p r =>
  obtain ⟨k',v⟩:=p;rw [List.map_cons,List.map_cons] at h1;injection h1 with e1 e2
  have e1:k'=k:=e1;subst e1;cases h2 with
  | cons a b=>exact ⟨v,r,rfl,a,e2,b⟩
theorem RK.inv0 {xs:List (Key×V)}(h:RK K H ρ [] xs):xs=[]:=by
 cases xs with
 | nil=>rfl
 | cons p r=>cases h.1
theorem RK.val (k:Key):∀ {kvs:List (Key×D)}{xs:List (Key×V)},RK K H ρ kvs xs->(∃ d v,valD kvs k=some d/\valV xs k=some v/\RD K H ρ d v)\/(valD kvs k=none/\valV xs k=none)
 | [],xs,h=>by rw [h.inv0];exact .inr ⟨rfl,rfl⟩
 | (k',d)::kvs,xs,h=>by
  obtain ⟨v,r,rfl,a,b⟩:=h.inv
  by_cases e:k'=k
  ·exact .inl ⟨d,v,by unfold valD;rw [keyB_eq,decide_eq_true e,if_pos rfl],valV_pos e,a⟩
  ·have e1:valD ((k',d)::kvs) k=valD kvs k:=by
    show (if keyB k' k=true then _ else _)=_;rw [keyB_eq,decide_eq_false e,if_neg Bool.false_ne_true]
   rw [e1,valV_neg e];exact RK.val k b
theorem RK.any (k:Key):∀ {kvs:List (Key×D)}{xs:List (Key×V)},RK K H ρ kvs xs->(xs.any fun kv=>decide (kv.1=k))=(kvs.any fun kv=>keyB kv.1 k)
 | [],xs,h=>by rw [h.inv0];rfl
 | (k',d)::kvs,xs,h=>by
  obtain ⟨v,r,rfl,a,b⟩:=h.inv;rw [List.any_cons,List.any_cons,RK.any k b,keyB_eq]
theorem RK.repl {d:D}{v:V}(k:Key) (rv:RD K H ρ d v):∀ {kvs:List (Key×D)}{xs:List (Key×V)},RK K H ρ kvs xs->RK K H ρ (kvs.map fun kv=>if keyB kv.1 k=true then (kv.1,d) else kv) (xs.map fun kv=>if kv.1=k then (kv.1,v) else kv)
 | [],xs,h=>by rw [h.inv0];exact .nil
 | (k',d')::kvs,xs,h=>by
  obtain ⟨v',r,rfl,a,b⟩:=h.inv;rw [List.map_cons,List.map_cons];dsimp only;rw [keyB_eq]
  by_cases e:k'=k
  ·rw [decide_eq_true e,if_pos rfl,if_pos e];exact (RK.repl k rv b).cons rv
  ·rw [decide_eq_false e,if_neg Bool.false_ne_true,if_neg e];exact (RK.repl k rv b).cons a
theorem RK.put {d:D}{v:V}(k:Key) (rv:RD K H ρ d v) {kvs:List (Key×D)}{xs:List (Key×V)}(h:RK K H ρ kvs xs):RK K H ρ (putD kvs k d) (putK xs k v):=by
 unfold putD putK;rw [h.any k]
 by_cases e:(kvs.any fun kv=>keyB kv.1 k)=true
 ·rw [if_pos e,if_pos e];exact h.repl k rv
 ·rw [if_neg e,if_neg e];refine ⟨by rw [List.map_append,List.map_append,h.1];rfl,?_⟩;rw [List.map_append,List.map_append];exact h.2.append (.cons rv .nil)
theorem RK.length {kvs:List (Key×D)}{xs:List (Key×V)}(h:RK K H ρ kvs xs):xs.length=kvs.length:=by
 have:=congrArg List.length h.1
 simpa using this
end
noncomputable def dctOf (x:D) (mh:MH):Option (List (Key×D)):=match x with
 | .ref n=>(match mh[n]? with | some (.dct kvs)=>some kvs | _=>none)
 | _=>none
theorem dctOf_lst {n:Nat}{mh:MH}{ds:List D}(h:mh[n]?=some (.lst ds)):dctOf (.ref n) mh=none:=by
 show (match mh[n]? with | some (.dct kvs)=>some kvs | _=>none)=none;rw [h]
noncomputable def ixD (x y:D) (mh:MH):Option (D×MH):=match dctOf x mh with
 | none=>ixD0 x y mh
 | some _=>none
section
variable {X:Cx}
theorem ix_D:IxR X (rD X.K ixD):=by
 rintro value slice pins s σ H x y v u Q I rx ry ⟨ρ,mh,dx,dy,d,mh',q,rs,r1,r2,co⟩ hs;unfold ixD at q;split at q
 ·exact ix_D0 value slice pins s σ H x y v u Q I rx ry ⟨ρ,mh,dx,dy,d,mh',q,rs,r1,r2,co⟩ hs
 ·cases q
noncomputable def keyC:Const->Option Str
 | .str x=>some x
 | _=>none
noncomputable def keyE:Expr->Option Str
 | .Constant c _ _=>keyC c
 | _=>none
noncomputable def keyS:Option Expr->Option Str
 | some e=>keyE e
 | none=>none
noncomputable def keysB:List (Option Expr)->List Expr->Bool
 | [],[]=>true
 | k::ks,_::vs=>(keyS k).isSome&&keysB ks vs
 | _,_=>false
end
noncomputable def osIs:Option Str->Value->Bool
 | none,.none=>true
 | none,_=>false
 | some x,v=>Value.isStrOf x v
theorem osIs_shape {k:Option Str}{v:Value}(h:osIs k v=true):(k=none/\v=.none)\/∃ x t,k=some x/\v=.str x t:=by
 cases k with
 | none=>cases v <;> first | exact .inl ⟨rfl,rfl⟩ | cases h
 | some x=>obtain ⟨t,e⟩:=Value.isStrOf_shape (show Value.isStrOf x v=true from h);exact .inr ⟨x,t,rfl,e⟩
noncomputable def osHash (w:World):Option Str->Int
 | none=>0xFCA86420
 | some x=>hashStr w x
theorem hash_none {P:Program}{w:World}{A:Around}{E:Value->Shared->Prop}{s:Shared}{Q:Int->Shared->Prop}(h:Q 0xFCA86420 { s with toks:=s.toks+1 }):wpAny (model P w) A (pyHash .none) Q E s:=by
 have hT:s.TypeIs Value.none "NoneType":=rfl
 unfold pyHash pyHashByItsType;have hv:[Value.none].any Value.onHeap=false:=rfl;refine wpAny_bind ?_;rw [cRoomFor,if_neg (by rw [hv];exact Bool.false_ne_true)];refine wpAny_pure ?_;refine wpAny_bind (wpAny_specialOf hT F.slot_NoneType_hash.lookup ?_)
 show wpAny _ _ (if (some (Value.builtin "NoneType.__hash__")==some Value.none)=true then _ else _) Q E s;rw [if_neg (by rw [beq_builtin_none];exact Bool.false_ne_true)];refine wpAny_bind (wpAny_specialOf hT F.slot_NoneType_hash.lookup ?_)
 show wpAny _ _ (callSpecialIfBoundUnlessNone? .none "__hash__" _ >>= _) Q E s
 refine wpAny_bind (wpAny_callSpecialIfBoundUnlessNone?_slot hT F.slot_NoneType_hash
  (wpAny_call_entry F.slot_NoneType_hash hT F.entry_NoneType_hash
   (show wpAny _ _ (do ret (← mkInt 0xFCA86420)) _ _ s from wpAny_ret_mkInt ?_) (F.args_NoneType_hash_1 _)))
 exact wpAny_pure h
theorem eq_none {P:Program}{w:World}{A:Around}{E:Value->Shared->Prop}{s:Shared}{Q:Bool->Shared->Prop}(h:Q true s):wpAny (model P w) A (eqBool .none .none) Q E s:=by
 unfold eqBool;refine wpAny_holding ?_;rw [if_pos (by rfl)];exact wpAny_bind (wpAny_rule (wpAny_pure h))
noncomputable def osKind (prog:Program) (w:World):PySem.KeyKind prog w (Option Str) where
 is:=osIs
 hash:=osHash w
 inj:=fun v a b ha hb=>by
  rcases osIs_shape ha with ⟨rfl,rfl⟩|⟨x,t,rfl,rfl⟩
  ·rcases osIs_shape hb with ⟨rfl,e⟩|⟨y,u,rfl,e⟩
   ·rfl
   ·exact nomatch e
  ·rcases osIs_shape hb with ⟨rfl,e⟩|⟨y,u,rfl,e⟩
   ·exact nomatch e
   ·injection e with e1 _;rw [e1]
 byValue:=fun k v h=>by
  rcases osIs_shape h with ⟨rfl,rfl⟩ | ⟨x,t,rfl,rfl⟩ <;> rfl
 pyHash:=fun hv h=>by
  rcases osIs_shape hv with ⟨rfl,rfl⟩|⟨x,t,rfl,rfl⟩
  ·exact hash_none h
  ·exact wpAny_pyHash_str h
 eqBool:=fun hu hv h=>by
  rcases osIs_shape hu with ⟨rfl,rfl⟩|⟨x,t,rfl,rfl⟩
  ·rcases osIs_shape hv with ⟨rfl,rfl⟩|⟨y,u,rfl,rfl⟩
   ·exact eq_none (by simpa using h)
   ·exact SeqAt.EqAt.none_str y u _ _ _ _ (by simpa using h)
  ·rcases osIs_shape hv with ⟨rfl,rfl⟩|⟨y,u,rfl,rfl⟩
   ·exact SeqAt.EqAt.str_none x t _ _ _ _ (by simpa using h)
   ·exact wpAny_eqBool_str (by simpa using h)
 «strs»:=fun k x t v h=>by
  rcases osIs_shape h with ⟨rfl,e⟩|⟨y,u,rfl,e⟩
  ·exact nomatch e
  ·injection e with e1 _
   subst e1;cases v <;> rfl
theorem os_none:∀ {w:World}{K:PySem.W.Frag}{es:List DictEntry}{kvs:List (Str×D)},DEnts w K es kvs->es.find? (fun e=>osIs none e.key)=none
 | _,_,_,_,.nil=>rfl
 | _,_,_,_,.cons rv rd h=>by rw [List.find?_cons];exact os_none h
section
variable {X:Cx}{a:Addr}{kvs:List (Str×D)}
theorem DicOk.mapO {pins:List (Addr×Obj)}{σ:L2.St}{H:Hp}{s:Shared}(D:DicOk X.w X.K a kvs) (I:Inv X pins σ H s):∃ f,s.heap.MapOf (osKind X.prog X.w) a f/\f none=none/\(∃ o,s.heap.get? a=some o/\o.dict=none)/\∀ k,(∃ d u v,kvs.lookup k=some d/\f (some k)=some u/\RelV v u/\∀ H ρ,RD X.K H ρ d v)\/(kvs.lookup k=none/\f (some k)=none):=by
 obtain ⟨o,es,ep,h1,h2,h3,h4⟩:=D.ob;refine ⟨fun k=>match k with | none=>none | some k=>foundAt es.toList k,⟨o,es,ep,I.kIn a o h1,h2,h3,fun e he=>?_,fun k=>?_⟩,rfl,⟨o,I.kIn a o h1,h2.2.1⟩,dents_find h4⟩
 ·obtain ⟨k,e1,e2⟩:=dents_keys (P:=X.prog) h4 e (by simpa using he);exact ⟨some k,e1,e2⟩
 ·cases k with
  | none =>
   show (es.find? fun e=>osIs none e.key).map (·.val)=none;rw [← Array.find?_toList,os_none h4];rfl
  | some k=>exact findBy_list es k
variable {e:Expr}{es:List Expr}{x:Str}{p apos cpos:Pos}
end
noncomputable def spL (a:Addr) (fd:FuncData):Sp:=fun vs H Q _=>vs.length=2/\(∃ o u,H a=some (.frz o u)/\o.data=.func fd)/\CodF H fd.code fd.qualname/\∀ t,H t=none->Q (.ref t) (upd H t (.tup vs))
theorem lam_fn {P:Program}{w:World}{K:PySem.W.Frag}{mg:Str->Option Value}{base:Heap}{a:Addr}{fd:FuncData}(L:LamFd fd):∃ x y,FnOk P w K mg base CX0 1 a fd [x,y] (spL a fd)/\∀ u v,bindArgs fd ⟨[u,v],[]⟩=pure [(x,u),(y,v)]:=by
 obtain ⟨name,qual,ps,x,y,p,q,pt,k,sc,pm,cdv,ct,rfl,S,d1,d2,d3,d4,bind⟩:=L;refine ⟨x,y,⟨fun vs H Q E h=>h.1,fun A outer s H args us vs Q E hr e0 hb r hsp=>?_⟩,bind⟩;obtain ⟨hl,⟨o,u,ho,hd⟩,⟨c,oc,u2,fs,tq,e1,e2,e3,e4⟩,hQ⟩:=hsp;have lim:s.heap.NoLimit:=e0.mod.nolimit.keeps fun b o e=>(e0.bs b o e).1
 have hkind:∀ z∈[x,y].zip us,sc.names.lookup z.1=some .local\/(sc.names.lookup z.1=some .cell/\((cellsFrom (s.heap.objs.size+1) sc.names []).lookup z.1).isSome=true):=by
  rintro ⟨n,v⟩ hy;rcases S.par n (List.of_mem_zip hy).1 with q|q
  ·exact .inl q
  ·exact .inr ⟨q,PySem.W.cellsFrom_some _ _ _ (.inl q)⟩
 refine PySem.W.kla_callFunE hr.depth (e0.hok a _ ho).1 hd S.co S.gen rfl ⟨c,oc,fs,tq,e1,(e0.hok c _ e2).1,e3,e4⟩ (hb _ _ _ _ ?_);refine wpAny_newFunctionEnv_cells S.kind hkind fun env he s1 xx=>?_
 subst he;refine ⟨lim.keeps xx.toInCall.keep,PySem.W.kla_codeExpr ?_⟩;have I:Inv (cxOf CX0 P w K mg base [x,y] qual sc a cdv A outer s H E) [] (start [x,y] vs) H s1:=inv_start S hr.hd e0 hl r xx;have vis:∀ z∈[x,y],Vis sc z:=fun z hz=>(S.par z hz).elim .inl fun h=>.inr (.inl h)
 have pe:PE (cxOf CX0 P w K mg base [x,y] qual sc a cdv A outer s H E) (.Tuple [.Name x p,.Name y q] k pt) (tTup (tCons (tVar 0) (tCons (tVar 1) tNil))) :=
  pe_tup (pa_cons (pe_var rfl (vis x (by simp)) d1 d2) (pa_cons (pe_var rfl (vis y (by simp)) d3 d4) pa_nil))
 obtain ⟨v1,v2,rfl⟩:∃ v1 v2,vs=[v1,v2]:=by
  match vs,hl with
  | [v1,v2],_=>exact ⟨v1,v2,rfl⟩
 refine wpAny_mono (pe [] s1 _ H Q I ⟨v1,rfl,v2,rfl,by show 2<=sizeLine;decide,hQ⟩) (fun v s' h=>?_) fun e s' h=>h
 obtain ⟨v',H',J,rv,q'⟩:=h;exact ⟨v',H',J.os,J.bare,J.base,J.hok,rv,q'⟩
section
variable {X:Cx}
theorem in_one {a:Addr}{o:Obj}{h:Heap}(e:h.get? a=some o):PySem.W.Frag.In [(a,o)] h:=fun b ob q=>by
 by_cases hb:b=a
 ·subst hb;simp at q;subst q;exact e
 ·have:(b==a)=false:=by simpa using hb
  simp [List.lookup,this] at q
theorem pe_callLam {i:Nat}{x:Str}{p pos:Pos}{e:Expr}{es:List Expr}{t:TA}{E:XK}
  (hr:Room 1 X.A) (hN:X.N[i]?=some x) (hv:Vis X.env.scope x) (hx:Passes CX0 X E)
  (ha:PA X (e::es) t) (hdb:(x==("__debug__":Str))=false) (hcd:(x==("__classdict__":Str))=false) (he:starEach (e::es) X.env=(false,eval e X.env)::starEach es X.env) (hpl:(backTo pos (starEach es X.env)).any (·.1)=false) :
  PE X (.Call (.Name x p) (e::es) [] pos) (fun σ H Q=>∃ a o fd,σ[i]?=some (some (.ref a))/\LamFd fd/\o.data=.func fd/\(∃ u,H a=some (.frz o u))/\t σ H fun vs H1=>(∃ u,H1 a=some (.frz o u))/\spL a fd vs H1 Q E):=by
 intro pins s σ H Q I h;obtain ⟨a,o,fd,h3,L,ho,h5,h4⟩:=h;refine wpAny_Call_Name_kw (thn (pe_var hN hv hdb hcd pins s σ H (fun v H1=>v=.ref a/\(∃ u,H1 a=some (.frz o u))/\t σ H1 fun vs H1=>(∃ u,H1 a=some (.frz o u))/\spL a fd vs H1 Q E) I ⟨_,h3,rfl,h5,h4⟩) ?_);rintro u s1 ⟨v,H1,I1,rv,rfl,⟨u1,g1⟩,q⟩;cases (show u=Value.ref a from rv);obtain ⟨x1,y1,F,bind⟩:=lam_fn (P:=X.prog) (w:=X.w) (K:=X.K) (mg:=X.mg) (base:=X.base) (a:=a) L;have hk:PySem.W.keepIn [(a,o)] (.ref a)=true:=by
  obtain ⟨oc,od,dd,sl⟩:=o;cases ho;simp [PySem.W.keepIn]
 refine PySem.W.callWith_K (K:=[(a,o)]) (h₀:=s1.heap) (in_one (I1.hok a _ g1).1) hk (thn (ha pos pins s1 σ H1 _ I1 q) fun us s2 ⟨vs,H2,I2,r,⟨uf,hf⟩,q2⟩=>⟨in_one (I2.hok a _ hf).1,?_⟩) he hpl;refine run_fn (ds:=[]) (dvs:=[]) F hr ?_ .nil hx I2 r (by rw [List.append_nil];exact q2);intro s us hk hl;obtain ⟨u1,u2,rfl⟩:∃ u1 u2,us=[u1,u2]:=by
  match us,(show us.length=2 by simpa using hl) with
  | [u1,u2],_=>exact ⟨u1,u2,rfl⟩
 exact .of_eq (bind u1 u2)
noncomputable def lamP (ds:List D) (mh:MH):Option (D×MH):=match ds with
 | [a,b]=>some (.tup [a,b],mh)
 | _=>none
theorem de_callLam {i:Nat}{x:Str}{p pos:Pos}{a:Expr}{es:List Expr}{mr:DM (List D)}{loc:DL.Loc}{mh:MH}
  (hr:Room 1 X.A) (hN:X.N[i]?=some x) (hv:Vis X.env.scope x) (hx:Passes CX0 X E0) (ha:DA X (a::es) mr)
  (hdb:(x==("__debug__":Str))=false) (hcd:(x==("__classdict__":Str))=false) (he:starEach (a::es) X.env=(false,eval a X.env)::starEach es X.env) (hpl:(backTo pos (starEach es X.env)).any (·.1)=false) (el:loc[i]?=some (some .lam)) :
  PE X (.Call (.Name x p) (a::es) [] pos) (tD X.K loc mh ((mr.bnd fun ds=>Zl (lamP ds)) loc mh)):=by
 refine PE_imp (pe_callLam hr hN hv hx (ha loc mh) hdb hcd he hpl) ?_;rintro σ H Q ⟨ρ,d,mh',q,rl,rs,co⟩;obtain ⟨ds,m1,ea,q⟩:=bnd_some q;obtain ⟨v,e1,r⟩:=rl.2 i _ el;cases r with
 | @lam ad L =>
  obtain ⟨o,u,fd,h1,h2,h3,h4⟩:=L;refine ⟨ad,o,fd,e1,h3,h2,⟨u,h1⟩,ρ,ds,m1,ea,rl,rs,fun H1 ρ1 vs e1 rs1 r1=>⟨⟨u,e1.frz _ _ _ h1⟩,?_⟩⟩;unfold Zl lamP at q;split at q
  ·rename_i a b;cases q;exact ⟨by rw [← r1.length];rfl,⟨o,u,e1.frz _ _ _ h1,h2⟩,h4.mono e1.frz,Co.newT rs1 r1 (co.ev e1)⟩
  ·cases q
end
section
variable {X:Cx}
theorem pe_callL {CX:CXT}{k i:Nat}{fa:Addr}{fd:FuncData}{ps:List Str}{sp:Sp}{ds:List Value}{dvs:List V}{x:Str}{p pos:Pos}{e:Expr}{es:List Expr}{t:TA}{E:XK}
  (F:FnOk X.prog X.w X.K X.mg X.base CX k fa fd ps sp) (hr:Room k X.A) (hN:X.N[i]?=some x) (hv:Vis X.env.scope x) (hk:PySem.W.keepIn X.K (.ref fa)=true) (hb:Binds X.K fd ps ds) (hd:Vals dvs ds) (hx:Passes CX X E)
  (ha:PA X (e::es) t) (hdb:(x==("__debug__":Str))=false) (hcd:(x==("__classdict__":Str))=false) (he:starEach (e::es) X.env=(false,eval e X.env)::starEach es X.env) (hpl:(backTo pos (starEach es X.env)).any (·.1)=false) :
  PE X (.Call (.Name x p) (e::es) [] pos) (fun σ H Q=>∃ y a,PySem.W.nsIn X.K mainGlobals y=some (some (.ref a))/\X.mg y=some (.ref fa)/\σ[i]?=some (some (.ref a))/\tCall sp dvs E t σ H Q):=by
 intro pins s σ H Q I h;obtain ⟨y,a,h1,h2,h3,h4⟩:=h;have e1:=PySem.W.mg_of I.kIn (I.mod.glob.keeps I.bk) h1;rw [h2] at e1;cases e1;refine wpAny_Call_Name_kw (thn (pe_var hN hv hdb hcd pins s σ H (fun v H1=>v=.ref fa/\tCall sp dvs E t σ H1 Q) I ⟨_,h3,rfl,h4⟩) ?_);rintro u s1 ⟨v,H1,I1,rv,rfl,q⟩;cases (show u=Value.ref fa from rv);refine PySem.W.callWith_K (h₀:=X.base) I1.ok.mod.kin hk (thn (ha pos pins s1 σ H1 _ I1 q) fun us s2 ⟨vs,H2,I2,r,q2⟩=>⟨I2.kIn,?_⟩) he hpl;exact run_fn F hr hb hd hx I2 r q2
noncomputable def callL (cal:Str->Option (List Str×Fn)) (i:Nat) (mr:DM (List D)):DM D:=fun loc mh=>match loc[i]? with
 | some (some (.fn y))=>(match cal y with
  | some (_,g)=>(mr.bnd fun ds=>Zl (g ds)) loc mh
  | none=>none)
 | some (some .lam)=>(mr.bnd fun ds=>Zl (lamP ds)) loc mh
 | _=>none
theorem de_callL {cal:Str->Option (List Str×Fn)}{k i:Nat}{x:Str}{p pos:Pos}{a:Expr}{es:List Expr}{mr:DM (List D)}(k1:1<=k)
  (hc:∀ y ps f,cal y=some (ps,f)->∃ fa fd,X.mg y=some (.ref fa)/\PySem.W.keepIn X.K (.ref fa)=true/\Binds X.K fd ps []/\FnOk X.prog X.w X.K X.mg X.base CX0 k fa fd ps (spD X.K ps.length f)/\∀ ds mh r,f ds mh=some r->ds.length=ps.length)
  (hr:Room k X.A) (hN:X.N[i]?=some x) (hv:Vis X.env.scope x) (hx:Passes CX0 X E0) (ha:DA X (a::es) mr)
  (hdb:(x==("__debug__":Str))=false) (hcd:(x==("__classdict__":Str))=false) (he:starEach (a::es) X.env=(false,eval a X.env)::starEach es X.env) (hpl:(backTo pos (starEach es X.env)).any (·.1)=false) :
  DE X (.Call (.Name x p) (a::es) [] pos) (callL cal i mr):=fun loc mh=>by
 unfold callL;split
 ·rename_i y el;split
  ·rename_i ps f ec;obtain ⟨fa,fd,h1,h2,h3,h4,h5⟩:=hc y ps f ec;refine PE_imp (pe_callL h4 hr hN hv h2 h3 .nil hx (ha loc mh) hdb hcd he hpl) ?_;rintro σ H Q ⟨ρ,d,mh',q,rl,rs,co⟩;obtain ⟨ds,m1,ea,q⟩:=bnd_some q;obtain ⟨v,e1,r⟩:=rl.2 i _ el;cases r with
   | @fn _ ad hn =>
    refine ⟨y,ad,hn,h1,e1,ρ,ds,m1,ea,rl,rs,fun H1 ρ1 vs e1 rs1 r1=>?_⟩;show spD X.K ps.length f (vs++[]) H1 Q E0;rw [List.append_nil];exact ⟨by rw [← r1.length];exact h5 _ _ _ q,ρ1,m1,ds,d,mh',q,rs1,r1,co.ev e1⟩
  ·exact PE_none
 ·rename_i el;exact de_callLam (hr.mono k1) hN hv hx ha hdb hcd he hpl el
 ·exact PE_none
noncomputable def lmulD (g:D->D->MH->Option (D×MH)):D->D->MH->Option (D×MH):=fun x y mh=>match lstOf x mh with
 | some ds=>(match y with
  | .int k=>if (-(2 ^ 62)<=k/\k < 2 ^ 62)/\ds.length * k.toNat<=1000000 then some (.ref mh.length,mh++[.lst (List.replicate k.toNat ds).flatten]) else none
  | _=>none)
 | none=>g x y mh
theorem op_lmulD {g:D->D->MH->Option (D×MH)}(h:OpR X (binaryOp .Mult) (rD X.K g)):OpR X (binaryOp .Mult) (rD X.K (lmulD g)):=by
 rintro pins s σ H x y v u Q I rx ry ⟨ρ,mh,dx,dy,d,mh',q,rs,r1,r2,co⟩;unfold lmulD at q;split at q
 ·rename_i ds e;obtain ⟨n,rfl,en⟩:=lstOf_some e;split at q
  ·rename_i k;split at q
   ·rename_i hk;cases q;cases r2;cases r1 with
    | @ref _ a ha =>
     obtain ⟨a',ha',xs,hl,rr⟩:=rs.at en;rw [ha] at ha';cases ha';refine op_rep pins s σ H _ _ v u Q I rx ry ⟨a,k,xs,rfl,rfl,hl,by omega,by omega,by rw [← rr.length,sizeLine_eq];omega,Co.newL rs (rr.rep _) co⟩
   ·cases q
  ·cases q
 ·exact h pins s σ H x y v u Q I rx ry ⟨ρ,mh,dx,dy,d,mh',q,rs,r1,r2,co⟩
end
theorem op_fdivB {X:Cx}:OpR X (binaryOp .FloorDiv) (rI (fun _ j=>j≠0/\j.natAbs < 10889035741470030830827987437816582766592) fun i j=>.int (i.fdiv j)):=opI fun _ j _ _ _ _ _ hc q=>floordiv_int hc.1 q (.inl (PyProof.noPylong_of_log2 (by
 have h:j.natAbs < 2 ^ 133:=hc.2
 by_cases h0:j.natAbs=0
 ·rw [h0];decide +kernel
 ·have h60:j.natAbs.log2 < 133:=(Nat.log2_lt h0).mpr h
  omega)))
structure SC where
 N:List Str
 scope:Scope
 own:Str->Bool
structure Gb where
 cal:Str->Option (List Str×Fn)
 con:Str->Option D
 dic:Str->Option (List (Str×D))
 fld:Str->Str->Bool
 met:Str->Str->Option (List Str×Fn)
 mkr:Str->Option Str
noncomputable def slot (N:List Str) (x:Str):Option Nat:=N.findIdx? (fun y=>y==x)
noncomputable def visB (sc:Scope) (x:Str):Bool:=match sc.names.lookup x with
 | some .local=>true
 | some .cell=>true
 | some .free=>true
 | _=>false
noncomputable def locB (sc:Scope) (x:Str):Bool:=match sc.names.lookup x with
 | some .local=>true
 | some .cell=>true
 | _=>false
noncomputable def glB (sc:Scope) (x:Str):Bool:=match sc.names.lookup x with
 | some .globalImplicit=>true
 | _=>false
noncomputable def cmulB (i j:Int):Bool:=decide (-(2 ^ 64) < i/\i < 2 ^ 64) || decide (-(2 ^ 64) < j/\j < 2 ^ 64)
theorem op_no {X:Cx}{f:Value->Value->Sem Value}:OpR X f (rD X.K fun _ _ _=>none):=by
 rintro _ _ _ _ _ _ _ _ _ _ _ _ ⟨_,_,_,_,_,_,e,_⟩;cases e
noncomputable def opOf:Operator->Option (D->D->MH->Option (D×MH))
 | .Add=>some addD
 | .Sub=>some (iop (fun _ _=>true) fun i j=>i - j)
 | .Mult=>some (mulD2 (lmulD (iop cmulB fun i j=>i * j)))
 | .FloorDiv=>some (iop (fun _ j=>decide (j≠0)&&decide (j.natAbs < 10889035741470030830827987437816582766592)) fun i j=>i.fdiv j)
 | .Mod=>some (iop (fun _ j=>decide (j≠0)) fun i j=>i.fmod j)
 | .Pow=>some (iop (fun i j=>decide (0<=j)&&(decide (j<=1000000)&&decide (i.natAbs < 2 ^ 64))) fun i j=>i ^ j.toNat)
 | .LShift=>some (iop (fun i j=>decide (0<=j)&&(decide (j<=1000000)&&decide (i.natAbs < 2 ^ 64))) fun i j=>i * 2 ^ j.toNat)
 | .BitXor=>some (iop (fun _ _=>true) Builtin.bitXor)
 | _=>none
noncomputable def cmpOf:CmpOp->(D->D->MH->Option (D×MH))
 | .Eq=>eqD
 | .NotEq=>neD
 | .Lt=>icmp fun i j=>decide (i < j)
 | .LtE=>icmp fun i j=>decide (i<=j)
 | .Gt=>icmp fun i j=>decide (j < i)
 | .GtE=>icmp fun i j=>decide (j<=i)
 | .Is=>isD false
 | .IsNot=>isD true
 | .In=>fun _ _ _=>none
 | .NotIn=>fun _ _ _=>none
theorem opOf_ok {X:Cx}{op:Operator}{f:D->D->MH->Option (D×MH)}(h:opOf op=some f):OpR X (binaryOp op) (rD X.K f):=by
 cases op <;> (try cases h)
 ·exact op_addD
 ·exact iop0_ok op_sub
 ·refine op_mulD2 (op_lmulD (iop_ok op_mul fun i j h=>?_));unfold cmulB at h;rw [Bool.or_eq_true,decide_eq_true_iff,decide_eq_true_iff] at h;exact h
 ·exact iop_ok op_modN fun i j h=>of_decide_eq_true h
 ·refine iop_ok op_pow fun i j h=>?_
  rw [Bool.and_eq_true,Bool.and_eq_true,decide_eq_true_iff,decide_eq_true_iff,decide_eq_true_iff] at h;exact ⟨h.1,h.2.1,h.2.2⟩
 ·refine iop_ok op_shl fun i j h=>?_
  rw [Bool.and_eq_true,Bool.and_eq_true,decide_eq_true_iff,decide_eq_true_iff,decide_eq_true_iff] at h;exact ⟨h.1,h.2.1,h.2.2⟩
 ·exact iop0_ok op_xor
 ·refine iop_ok op_fdivB fun i j h=>?_
  rw [Bool.and_eq_true,decide_eq_true_iff,decide_eq_true_iff] at h;exact ⟨h.1,h.2⟩
theorem cmpOf_ok {X:Cx}(hu:X.A.units+64 < cLine) (op:CmpOp):OpR X (compareOp op) (rD X.K (cmpOf op)):=by
 cases op
 ·exact op_eqD hu
 ·exact op_neD hu
 ·exact icmp_ok op_lt
 ·exact icmp_ok op_le
 ·exact icmp_ok op_gt
 ·exact icmp_ok op_ge
 ·exact op_isD
 ·exact op_isNotD
 ·exact op_no
 ·exact op_no
noncomputable def isStar:Expr->Bool
 | .Starred ..=>true
 | _=>false
noncomputable def isSet:Expr->Bool
 | .Set ..=>true
 | _=>false
noncomputable def isCompE:Expr->Bool
 | .ListComp ..=>true
 | .SetComp ..=>true
 | .DictComp ..=>true
 | _=>false
noncomputable def isSlice:Expr->Bool
 | .Slice ..=>true
 | _=>false
noncomputable def isRev:Expr->Bool
 | .Slice none none (some (.UnaryOp .USub (.Constant (.int i) _ _) _)) _=>i==1
 | _=>false
theorem isRev_some {b:Expr}(h:isRev b=true):∃ k p1 p2 p3,b=.Slice none none (some (.UnaryOp .USub (.Constant (.int 1) k p1) p2)) p3:=by
 unfold isRev at h;split at h
 ·rw [eq_of_beq h];exact ⟨_,_,_,_,rfl⟩
 ·cases h
noncomputable def baseOk:Expr->Bool
 | .Call (.Name ..) [] [] _=>false
 | _=>true
noncomputable def tyOf (_:Str):Option String:=none
noncomputable def badF:Fn:=fun _ _=>none
noncomputable def badM (_:D) (_:List D) (_:MH):Option (D×MH):=none
theorem call_no {X:Cx}{f:Value}:CallR X f (rDs X.K badF):=by
 rintro _ _ _ _ _ _ _ _ _ ⟨_,_,_,_,_,e,_⟩;cases e
theorem mt_no {X:Cx}{id:String}:MtR X id (rDM X.K badM):=by
 rintro _ _ _ _ _ _ _ _ _ _ _ _ ⟨_,_,_,_,_,_,e,_⟩;cases e
noncomputable def bltOf (x:Str):Option Fn:=if x=="len" then some lenD else if x=="list" then some listD else if x=="tuple" then some tupleD else if x=="all" then some allD else if x=="any" then some badF else if x=="max" then some maxD2 else if x=="min" then some minD2 else if x=="int" then some intD else if x=="sorted" then some sortedA else if x=="sum" then some sumD else none
noncomputable def methOf (m:Str) (n:Nat):Option (String×(D->List D->MH->Option (D×MH))) :=
 if m == "append"&&n==1 then some ("list",appendD) else if m == "bit_length"&&n==0 then some ("int",badM) else if m == "pop"&&n==1 then some ("list",popAtD) else if m == "pop"&&n==0 then some ("list",badM) else if m == "extend"&&n==1 then some ("list",extendD) else if m == "index"&&n==1 then some ("tuple",badM) else none
noncomputable def isTupE:Expr->Bool
 | .Tuple ..=>true
 | _=>false
noncomputable def setArg (_:Expr) (_:List Expr):Option Expr:=none
noncomputable def rngArg (_:Expr) (_:List Expr):Option Expr:=none
noncomputable def zipArg:Expr->List Expr->Option (Expr×Expr)
 | .Call (.Name g _) [b,c] [] _,[]=>if g == "zip"&&!isStar b&&!isStar c then some (b,c) else none
 | _,_=>none
noncomputable def setPair (_:SC) (_:Expr) (_:CmpOp) (_:Expr):Option (Nat×Nat):=none
noncomputable def compNames (scope:Scope):List Str:=(scope.names.filter fun p=>(match p.2 with | .local=>true | .cell=>true | .free=>true | _=>false)).map (·.1)
noncomputable def capsOf (N:List Str) (scope:Scope):List (Option Nat):=(compNames scope).map fun x=>match scope.names.lookup x with
 | some .free=>slot N x
 | _=>none
noncomputable def relabelS (scope outer:Scope):Scope:={ scope with names:=scope.names.map fun (n,k)=>if (k==.free&&outer.kind==.function&&outer.names.lookup n==some .cell) then (n,.cell) else (n,k) }
noncomputable def compSC (scope:Scope) (sc:SC):SC:={ N:=compNames scope,scope:=relabelS scope sc.scope,own:=fun x=>locB scope x }
noncomputable def compOkB (scope:Scope) (sc:SC):Bool :=
 (match scope.kind with | .function=>true | _=>false)&&(decide ((scope.names.map (·.1)).Nodup) &&
  scope.names.all fun p=>(match p.2 with | .free=>(match sc.scope.names.lookup p.1 with | some .cell=>true | some .free=>true | _=>false) | _=>true))
noncomputable def dicOf (G:Gb) (sc:SC):Expr->Option (List (Str×D))
 | _=>none
noncomputable def dicArg (G:Gb) (sc:SC) (op:CmpOp) (b:Expr):Option (Bool×List (Str×D)):=match op with
 | .In=>(match dicOf G sc b with | some kvs=>some (false,kvs) | none=>none)
 | .NotIn=>(match dicOf G sc b with | some kvs=>some (true,kvs) | none=>none)
 | _=>none
noncomputable def mkArg (G:Gb) (f:Str):List Expr->Option Str
 | []=>G.mkr f
 | _=>none
noncomputable def iGn (sc:SC) (x:Str):Option Nat:=if locB sc.scope x&&sc.own x then slot sc.N x else none
noncomputable def iGs (sc:SC):List Expr->Option (List Nat)
 | []=>some []
 | .Name x _::r=>match iGn sc x with
  | some i=>match iGs sc r with
   | some is=>some (i::is)
   | none=>none
  | none=>none
 | _=>none
noncomputable def iG (sc:SC):Expr->Option (List Nat×GM)
 | .Name x _=>match iGn sc x with | some i=>some ([i],gSet i) | none=>none
 | .Tuple es _ _=>match iGs sc es with | some is=>some (is,gTupD is) | none=>none
 | _=>none
noncomputable def kwName:Option Str->Bool
 | some n=>n == "default"
 | none=>false
noncomputable def isNoneE:Expr->Bool
 | .Constant .none _ _=>true
 | _=>false
noncomputable def kwNone (k:Keyword):Bool:=kwName k.arg&&isNoneE k.value
theorem kwNone_some {k:Keyword}(h:kwNone k=true):∃ j cp kp,k=⟨some "default",.Constant .none j cp,kp⟩:=by
 obtain ⟨n,v,p⟩:=k;unfold kwNone at h;rw [Bool.and_eq_true] at h;obtain ⟨h1,h2⟩:=h;cases n with
 | none=>cases h1
 | some n =>
  have e:n = "default":=eq_of_beq h1
  subst e;cases v with
  | Constant c j cp =>
   cases c with
   | none=>exact ⟨_,_,_,rfl⟩
   | _=>cases h2
  | _=>cases h2
noncomputable def iEb (E:SC->Expr->DM D) (T:SC->Expr->DM Bool) (A:SC->List Expr->DM (List D)) (F:SC->List Expr->DM Bool) (I:SC->Expr->Expr->DM Src) (G:Gb) (sc:SC) (e:Expr):DM D:=match e with
 | .Constant (.int i) _ _=>Zr (.int i)
 | .Constant (.bool b) _ _=>Zr (.bl b)
 | .Constant .none _ _=>Zr .non
 | .Constant (.str x) _ _=>Zr (.str x)
 | .Name x _=>if visB sc.scope x&&!(x == "__debug__")&&!(x == "__classdict__") then (match slot sc.N x with
   | some i=>fun loc mh=>match loc[i]? with | some (some d)=>some (d,mh) | _=>none
   | none=>Zb) else if glB sc.scope x&&!(x == "__debug__") then (match G.con x with | some d=>Zr d | none=>Zb) else Zb
 | .BinOp a op b _=>(match opOf op with | some f=>dop f (E sc a) (E sc b) | none=>Zb)
 | .UnaryOp .USub a _=>(E sc a).bnd fun x=>Zl (negD x)
 | .UnaryOp .Not a _=>(boolD (E sc a)).bnd fun c=>Zr (.bl (!c))
 | .BoolOp op [a] _=>E sc a
 | .BoolOp .And (a::b::r) p=>dAndV (E sc a) (E sc (.BoolOp .And (b::r) p))
 | .BoolOp .Or (a::b::r) p=>dOrV (E sc a) (E sc (.BoolOp .Or (b::r) p))
 | .Compare a [op] [b] _=>(match setPair sc a op b with
  | some (i,j)=>setEqM (fun loc mh=>match loc[i]? with | some (some d)=>some (d,mh) | _=>none) (fun loc mh=>match loc[j]? with | some (some d)=>some (d,mh) | _=>none)
  | none=>match dicArg G sc op b with
   | some (neg,kvs)=>Zb
   | none=>if isSet b then Zb else dop (cmpOf op) (E sc a) (E sc b))
 | .Compare a [op,op'] [b,c] _=>if isSet c then Zb else dchain (cmpOf op) (cmpOf op') (E sc a) (E sc b) (E sc c)
 | .IfExp c a b _=>dIf (T sc c) (E sc a) (E sc b)
 | .Tuple es _ _=>(A sc es).bnd fun ds=>Zl (mkTup ds)
 | .List es _=>(A sc es).bnd fun ds=>Zl (mkLst ds)
 | .Dict ks vs _=>if keysB ks vs&&!ks.isEmpty&&decide (ks.length<=15) then Zb else Zb
 | .Subscript a (.Slice lo hi none _) _=>dSl (E sc a) (match lo with | some e=>some (E sc e) | none=>none) (match hi with | some e=>some (E sc e) | none=>none)
 | .Subscript a b _=>if isSlice b then (if isRev b then (E sc a).bnd fun x=>Zl (revD x) else Zb) else (match dicOf G sc a with | some kvs=>Zb | none=>dop ixD (E sc a) (E sc b))
 | .Attribute o f _=>if baseOk o then Zb else Zb
 | .Call (.Name f _) [] [] _=>if glB sc.scope f&&!(f == "__debug__") then (match G.cal f with | some ([],g)=>Zl (g []) | _=>Zb) else Zb
 | .Call (.Name f _) (a::es) [] _=>if visB sc.scope f&&!(f == "__debug__")&&!(f == "__classdict__")&&!(isStar a)&&es.all (fun e=>!isStar e) then (match slot sc.N f with | some i=>callL G.cal i (A sc (a::es)) | none=>Zb) else if glB sc.scope f&&!(f == "__debug__")&&!(f == "__name__")&&!(isStar a)&&es.all (fun e=>!isStar e) then
   (match G.cal f with
   | some (_,g)=>(A sc (a::es)).bnd fun ds=>Zl (g ds)
   | none=>match mkArg G f es with
    | some fl=>Zb
    | none=>match setArg a es with
    | some b=>if glB sc.scope "set" then (if f == "len" then (E sc b).bnd (fun x=>Zl (lenSetD x)) else if f == "sorted" then (E sc b).bnd (fun x=>Zl (sortSetD x)) else Zb) else Zb
    | none=>match zipArg a es with
    | some (b,c)=>if glB sc.scope "zip"&&f == "list" then (A sc [b,c]).bnd (fun ds=>Zl (listZipD ds)) else Zb
    | none=>match rngArg a es with
    | some b=>if glB sc.scope "range" then (if f == "list" then (E sc b).bnd (fun x=>Zl (listRngD x)) else if f == "tuple" then (E sc b).bnd (fun x=>Zl (tupRngD x)) else Zb) else Zb
    | none=>if f == "isinstance" then (match es with
    | [.Name c _]=>if glB sc.scope c&&!(c == "__debug__")&&!(c == "__name__") then (match tyOf c with | some ty=>(E sc a).bnd fun x=>Zl (isiD ty x) | none=>Zb) else Zb
    | _=>Zb) else match bltOf f with
     | some g=>(A sc (a::es)).bnd fun ds=>Zl (g ds)
     | none=>Zb) else Zb
 | .Call (.Name f _) [a] (kw::ks) _=>if glB sc.scope f&&!(isStar a)&&kwNone kw&&ks.isEmpty then (if f == "max" then Zb else if f == "min" then Zb else Zb) else Zb
 | .Call (.Attribute o m ap) [] [] p=>if baseOk o&&(ap.endLine==p.line) then (match methOf m 0 with | some (ty,f)=>methM ty f (E sc o) (Zr []) | none=>Zb) else Zb
 | .Call (.Attribute o m ap) (a::es) [] p=>if baseOk o&&(ap.endLine==p.line)&&!(isStar a)&&es.all (fun e=>!isStar e)&&decide ((a::es).length < 20) then (if m == "get" then (match dicOf G sc o with | some kvs=>Zb | none=>Zb) else if m == "count"&&es.isEmpty then methE "tuple" cntT "list" cntL2 (E sc o) (A sc (a::es)) else if m == "index"&&es.isEmpty then methE "tuple" badM "list" badM (E sc o) (A sc (a::es)) else (match methOf m (a::es).length with | some (ty,f)=>methM ty f (E sc o) (A sc (a::es)) | none=>Zb)) else Zb
 | .ListComp elt [⟨tg,iter,ifs,k⟩] scope _=>if k==0&&compOkB scope sc&&!(isSet iter) then (match iG (compSC scope sc) tg with
   | some (ws,g)=>if ws.all (fun i=>match (capsOf sc.N scope)[i]? with | some (some _)=>false | _=>true) then compM (I sc tg iter) (capsOf sc.N scope) g (F (compSC scope sc) ifs) (E (compSC scope sc) elt) else Zb
   | none=>Zb) else Zb
 | _=>Zb
noncomputable def iTb (E:SC->Expr->DM D) (T:SC->Expr->DM Bool) (A:SC->List Expr->DM (List D)) (F:SC->List Expr->DM Bool) (I:SC->Expr->Expr->DM Src) (G:Gb) (sc:SC) (e:Expr):DM Bool:=match e with
 | .UnaryOp .Not a _=>dNotT (T sc a)
 | .BoolOp op [a] _=>T sc a
 | .BoolOp .And (a::b::r) p=>dAndT (T sc a) (T sc (.BoolOp .And (b::r) p))
 | .BoolOp .Or (a::b::r) p=>dOrT (T sc a) (T sc (.BoolOp .Or (b::r) p))
 | .BoolOp _ [] _=>Zb
 | .IfExp ..=>Zb
 | .Compare a [op] [b] _=>(match dicArg G sc op b with
  | some (neg,kvs)=>Zb
  | none=>if isSet b then Zb else boolD (dop (cmpOf op) (E sc a) (E sc b)))
 | .Compare a [op,op'] [b,c] _=>if isSet c then Zb else boolD (dchain (cmpOf op) (cmpOf op') (E sc a) (E sc b) (E sc c))
 | .Compare ..=>Zb
 | e=>truM (E sc e)
noncomputable def iIb (E:SC->Expr->DM D) (T:SC->Expr->DM Bool) (A:SC->List Expr->DM (List D)) (F:SC->List Expr->DM Bool) (I:SC->Expr->Expr->DM Src) (G:Gb) (sc:SC) (tg e:Expr):DM Src:=match e with
 | .Call (.Name f p) [a] [] p'=>if f == "range"&&glB sc.scope f then (if isStar a then Zb else rngM rng1 (A sc [a])) else if f == "enumerate"&&glB sc.scope f then (if isStar a || !(isTupE tg) then Zb else Zb) else srcM (E sc (.Call (.Name f p) [a] [] p'))
 | .Call (.Name f p) [a,b] [] p'=>if f == "range"&&glB sc.scope f then (if isStar a || isStar b then Zb else Zb) else if f == "zip"&&glB sc.scope f then (if isStar a || isStar b || !(isTupE tg) then Zb else zipM (A sc [a,b])) else srcM (E sc (.Call (.Name f p) [a,b] [] p'))
 | .Call (.Name f p) [a,b,c] [] p'=>if f == "range"&&glB sc.scope f then (if isStar a || isStar b || isStar c then Zb else rngM rng3 (A sc [a,b,c])) else srcM (E sc (.Call (.Name f p) [a,b,c] [] p'))
 | e=>srcM (E sc e)
mutual
noncomputable def iE (G:Gb):Nat->SC->Expr->DM D
 | 0,_,_=>Zb
 | n+1,sc,e=>iEb (iE G n) (iT G n) (iA G n) (iF G n) (iI G n) G sc e
termination_by structural n=>n
noncomputable def iT (G:Gb):Nat->SC->Expr->DM Bool
 | 0,_,_=>Zb
 | n+1,sc,e=>iTb (iE G n) (iT G n) (iA G n) (iF G n) (iI G n) G sc e
termination_by structural n=>n
noncomputable def iA (G:Gb):Nat->SC->List Expr->DM (List D)
 | 0,_,_=>Zb
 | n+1,sc,es=>match es with
  | []=>Zr []
  | a::r=>if isStar a then Zb else dCons (iE G n sc a) (iA G n sc r)
termination_by structural n=>n
noncomputable def iF (G:Gb):Nat->SC->List Expr->DM Bool
 | 0,_,_=>Zb
 | n+1,sc,es=>match es with
  | []=>Zr true
  | [c]=>iT G n sc c
  | _=>Zb
termination_by structural n=>n
noncomputable def iI (G:Gb):Nat->SC->Expr->Expr->DM Src
 | 0,_,_,_=>Zb
 | n+1,sc,tg,e=>iIb (iE G n) (iT G n) (iA G n) (iF G n) (iI G n) G sc tg e
termination_by structural n=>n
end
noncomputable def parB (sc:SC) (x:Str) (px:Pos) (y:Str) (py:Pos) (a b:Expr):Bool :=
 ((if sc.scope.kind.isAnnotationScope then ScopeKind.function else sc.scope.kind)==.function)&&(sc.scope.names.lookup x==some .local)&&(sc.scope.names.lookup y==some .local)&&(py.line==px.line)&&!(x==y)&&!isStar a&&!isStar b&&!([a,b].all (foldedForSure 8))&&!([a,b].all (constantsAlone 8))
noncomputable def parS (mr:DM (List D)) (i j:Nat):SM:=fun loc mh=>match mr loc mh with
 | some ([d,e],h)=>some (.nx,(loc.set i (some d)).set j (some e),h)
 | _=>none
noncomputable def iGt (G:Gb) (n:Nat) (sc:SC) (tg:Expr):Option GM:=match tg with
 | .Subscript o i _=>if isSlice i then none else some (gSubD (iE G n sc o) (iE G n sc i))
 | tg=>match iG sc tg with | some (_,g)=>some g | none=>none
noncomputable def asgB (n:Nat) (G:Gb) (sc:SC) (tg v:Expr):SM:=match tg,v with
 | .Name y py,.ListComp elt gens scope vp=>(match iG sc (.Name y py) with | some (_,g)=>asgS (iE G n sc (.ListComp elt gens scope vp)) g | none=>SM.bad)
 | .Tuple [.Name x px,.Name y py] _ _,.Tuple [a,b] _ _=>if parB sc x px y py a b then (match slot sc.N x,slot sc.N y with | some i,some j=>parS (iA G n sc [a,b]) i j | _,_=>SM.bad) else SM.bad
 | tg,v=>if isCompE v || (isTupE tg&&isTupE v) then SM.bad else (match iGt G n sc tg with | some g=>asgS (iE G n sc v) g | none=>SM.bad)
noncomputable def iSb (n:Nat) (B:SC->List Stmt->SM) (G:Gb) (sc:SC) (s:Stmt):SM:=match s with
 | .Expr e _=>if isCompE e then SM.bad else dropS (iE G n sc e)
 | .Pass _=>Zn
 | .Break _=>fun loc mh=>some (.bk,loc,mh)
 | .Continue _=>fun loc mh=>some (.ct,loc,mh)
 | .Return (some e) _=>retS (iE G n sc e)
 | .Return none _=>fun loc mh=>some (.rt .non,loc,mh)
 | .Assign [tg] v _=>asgB n G sc tg v
 | .If c a b _=>ifS (iT G n sc c) (B sc a) (B sc b)
 | .For tg it body [] _=>if isSet it then SM.bad else (match iG sc tg with | some (_,g)=>forS (iI G n sc tg it) g (B sc body) | none=>SM.bad)
 | _=>SM.bad
mutual
noncomputable def iS (G:Gb):Nat->SC->Stmt->SM
 | 0,_,_=>SM.bad
 | n+1,sc,s=>iSb n (iSs G n) G sc s
termination_by structural n=>n
noncomputable def iSs (G:Gb):Nat->SC->List Stmt->SM
 | 0,_,_=>SM.bad
 | n+1,sc,ss=>match ss with
  | []=>Zn
  | s::r=>seqS (iS G n sc s) (iSs G n sc r)
termination_by structural n=>n
end
structure FnI where
 ps:List Str
 N:List Str
 scope:Scope
 body:List Stmt
noncomputable def runF (G:Gb) (n:Nat) (f:FnI):Fn:=fun ds mh=>if ds.length=f.ps.length then (match iSs G n { N:=f.N,scope:=f.scope,own:=fun _=>true } f.body (ds.map some++List.replicate (f.N.length - ds.length) none) mh with
 | some (.rt d,_,mh')=>some (d,mh')
 | some (.nx,_,mh')=>some (.non,mh')
 | _=>none) else none
noncomputable def fuel:Nat:=60
structure Tb where
 tb:Str->Option FnI
 con:Str->Option D
 dic:Str->Option (List (Str×D))
 fld:Str->Str->Bool
 tbm:Str->Str->Option FnI
 mkr:Str->Option Str
 lam:Str->Option Str:=fun _=>none
noncomputable def lamF (G:Gb) (y:Str):Fn:=fun ds mh=>match ds,mh[0]?,G.cal y with
 | [d],some MO.plc,some (_,g)=>g [d,d,D.lam] mh
 | _,_,_=>none
noncomputable def lamOr (T:Tb) (G:Gb) (x:Str) (g:Fn):Fn:=match T.lam x with
 | some y=>lamF G y
 | none=>g
noncomputable def GkN (T:Tb):Nat->Gb
 | 0=>{ cal:=fun _=>none,con:=T.con,dic:=T.dic,fld:=T.fld,met:=fun _ _=>none,mkr:=T.mkr }
 | k+1=>{ cal:=fun x=>(match T.tb x with | some I=>some (I.ps,lamOr T (GkN T k) x (runF (GkN T k) fuel I)) | none=>none),con:=T.con,dic:=T.dic,fld:=T.fld,met:=fun c m=>(match T.tbm c m with | some I=>some (I.ps,runF (GkN T k) fuel I) | none=>none),mkr:=T.mkr }
noncomputable def bltNames:List Str:=["len", "list", "tuple", "range", "isinstance", "int", "bool", "str", "dict", "set", "sorted", "all", "any", "max", "min", "enumerate", "zip", "sum"]
structure GOk (P:Program) (w:World) (K:PySem.W.Frag) (mg:Str->Option Value) (base:Heap) (k:Nat) (G:Gb):Prop where
 fn:∀ x ps f,G.cal x=some (ps,f)->∃ fa fd,mg x=some (.ref fa)/\PySem.W.keepIn K (.ref fa)=true/\Binds K fd ps []/\FnOk P w K mg base CX0 (k+2) fa fd ps (spD K ps.length f)/\∀ ds mh r,f ds mh=some r->ds.length=ps.length
 con:∀ x d,G.con x=some d->∃ u v,mg x=some u/\RelV v u/\∀ H ρ,RD K H ρ d v
 blt:∀ b∈bltNames,mg b=none
 dic:∀ x kvs,G.dic x=some kvs->∃ a,mg x=some (.ref a)/\DicOk w K a kvs
 fld:∀ c f,G.fld c f=true->∃ C,PySem.W.nsIn K mainGlobals c=some (some (.ref C))/\Cls K C/\NoAttr K C f
 met:∀ c m ps g,G.met c m=some (ps,g)->∃ C fa fd,PySem.W.nsIn K mainGlobals c=some (some (.ref C))/\Cls K C/\Meth K C m fa/\Binds K fd ps []/\FnOk P w K mg base CX0 (k+2) fa fd ps (spD K ps.length g)/\∀ ds mh r,g ds mh=some r->ds.length=ps.length
 mkr:∀ c f,G.mkr c=some f->∃ C fa fd ps,PySem.W.nsIn K mainGlobals c=some (some (.ref C))/\Mk K C fa/\mg c=some (.ref C)/\Binds K fd ps []/\FnOk P w K mg base CX0 1 fa fd ps (spI C f)
structure XOk (X:Cx) (k:Nat) (G:Gb) (sc:SC):Prop where
 N:X.N=sc.N
 nd:sc.N.Nodup
 sco:X.env.scope=sc.scope
 own:∀ x,sc.own x=true->L2.Loc sc.scope x->X.fn x=true\/sc.scope.names.lookup x=some .local
 calm:X.calm=true
 xe:X.xe=fun _ _=>False
 room:Room (k+2) X.A
 g:GOk X.prog X.w X.K X.mg X.base k G
theorem slot_some {N:List Str}{x:Str}{i:Nat}(h:slot N x=some i):N[i]?=some x:=by
 unfold slot at h;obtain ⟨hl,hp,_⟩:=List.findIdx?_eq_some_iff_getElem.mp h;rw [List.getElem?_eq_getElem hl];exact congrArg some (eq_of_beq hp)
theorem visB_ok {sc:Scope}{x:Str}(h:visB sc x=true):Vis sc x:=by
 unfold visB at h;split at h
 ·exact .inl (by assumption)
 ·exact .inr (.inl (by assumption))
 ·exact .inr (.inr (by assumption))
 ·cases h
theorem locB_ok {sc:Scope}{x:Str}(h:locB sc x=true):L2.Loc sc x:=by
 unfold locB at h;split at h
 ·exact .inl (by assumption)
 ·exact .inr (by assumption)
 ·cases h
theorem glB_ok {sc:Scope}{x:Str}(h:glB sc x=true):sc.names.lookup x=some .globalImplicit:=by
 unfold glB at h;split at h
 ·assumption
 ·cases h
section
variable {X:Cx}{k:Nat}{G:Gb}{sc:SC}
theorem XOk.gl (O:XOk X k G sc) {x:Str}(h:glB sc.scope x=true):Gl X x:=by
 show X.env.scope.names.lookup x=_;rw [O.sco];exact glB_ok h
theorem XOk.vis (O:XOk X k G sc) {x:Str}(h:visB sc.scope x=true):Vis X.env.scope x:=by rw [O.sco];exact visB_ok h
theorem XOk.units (O:XOk X k G sc):X.A.units+64 < cLine:=O.room.units
theorem star1 {a:Expr}{es:List Expr}{env:Env}(h:isStar a=false):starEach (a::es) env=(false,eval a env)::starEach es env:=by
 cases a <;> first | rfl | cases h
theorem starAny {pos:Pos}{env:Env}:∀ {es:List Expr},(es.all fun e=>!isStar e)=true->(backTo pos (starEach es env)).any (·.1)=false
 | [],_=>rfl
 | a::r,h=>by
  rw [List.all_cons,Bool.and_eq_true] at h;have h1:isStar a=false:=by simpa using h.1
  rw [star1 h1];show (false || (backTo pos (starEach r env)).any (·.1))=false;rw [starAny h.2];rfl
theorem starAll {pos:Pos}{env:Env}:∀ {es:List Expr},(es.all fun e=>!isStar e)=true->(backTo pos (starEach es env)).all (fun x=>!x.1)=true
 | [],_=>rfl
 | a::r,h=>by
  rw [List.all_cons,Bool.and_eq_true] at h;have h1:isStar a=false:=by simpa using h.1
  rw [star1 h1];show (true&&(backTo pos (starEach r env)).all (fun x=>!x.1))=true;rw [starAll h.2];rfl
theorem base_ok {o:Expr}{name:Str}{env:Env}{w:Sem Value}(h:baseOk o=true):attributeBase o name env w=w:=by
 cases o <;> try rfl
 rename_i f as kw p;cases f <;> try rfl
 cases as <;> try rfl
 cases kw <;> try rfl
 cases h
theorem set_ok {e:Expr}{env:Env}(h:isSet e=false):∀ x,foldedSetIterable e env x=pure x:=by
 intro x;cases e <;> first | rfl | cases h
theorem marks_ok {op:CmpOp}{e:Expr}(h:isSet e=false):behindInMarks op e=false:=by
 cases e <;> first | rfl | cases h
theorem ix_ok {b:Expr}(h:isSlice b=false):PlainIx b:=by
 intro o i;cases b <;> first | rfl | cases h
theorem relabel_eq (O:XOk X k G sc) (scope:Scope):relabel scope X.env=relabelS scope sc.scope:=by
 unfold relabel relabelS Env.kindOf;rw [O.sco]
theorem compOk_of (O:XOk X k G sc) {scope:Scope}(h:compOkB scope sc=true):CompOk X scope:=by
 unfold compOkB at h;rw [Bool.and_eq_true,Bool.and_eq_true] at h;obtain ⟨h1,h2,h3⟩:=h;refine ⟨?_,of_decide_eq_true h2,fun p hp e=>?_⟩
 ·split at h1
  ·assumption
  ·cases h1
 ·have:=List.all_eq_true.mp h3 p hp;rw [e] at this;show X.env.scope.names.lookup p.1=_\/X.env.scope.names.lookup p.1=_;rw [O.sco];dsimp only at this;split at this
  ·exact .inl (by assumption)
  ·exact .inr (by assumption)
  ·cases this
theorem compNames_nd {scope:Scope}(h:(scope.names.map (·.1)).Nodup):(compNames scope).Nodup:=by
 unfold compNames;exact h.sublist ((List.filter_sublist).map _)
theorem capOk_of (O:XOk X k G sc) (scope:Scope):CapOk X (compNames scope) scope (capsOf sc.N scope):=by
 refine ⟨by unfold capsOf;rw [List.length_map],fun i x j e1 e2=>?_⟩;unfold capsOf at e2;rw [List.getElem?_map,e1] at e2;simp only [Option.map_some,Option.some.injEq] at e2;split at e2
 ·rename_i hl;exact ⟨hl,by rw [O.N];exact slot_some e2⟩
 ·cases e2
theorem XOk.comp (O:XOk X k G sc) {scope:Scope}(h:compOkB scope sc=true) (pins:List (Addr×Obj)) (C:Addr) (cells:List (Str×Addr)) (s₀:Shared) (H₀:Hp) (fp:List Addr) :
  XOk (cxComp X pins (compNames scope) scope C cells s₀ H₀ fp) k G (compSC scope sc):=by
 have S:=compOk_of O h;refine ⟨rfl,compNames_nd S.nd,relabel_eq O scope,fun x hx hl=>?_,O.calm,rfl,O.room,O.g⟩;have hx:locB scope x=true:=hx;rcases locB_ok hx with q|q
 ·right;show (relabelS scope sc.scope).names.lookup x=_;rw [← relabel_eq O scope,relabel_lookup,q];rfl
 ·left;exact decide_eq_true (PySem.mem_of_lookup q)
theorem iGn_some {x:Str}{i:Nat}(h:iGn sc x=some i):locB sc.scope x=true/\sc.own x=true/\slot sc.N x=some i:=by
 unfold iGn at h;split at h
 ·rename_i hc;rw [Bool.and_eq_true] at hc;exact ⟨hc.1,hc.2,h⟩
 ·cases h
theorem XOk.name (O:XOk X k G sc) {x:Str}{i:Nat}{pos:Pos}(h:iGn sc x=some i):PG X (.Name x pos) (gName i):=by
 obtain ⟨h1,h2,h3⟩:=iGn_some h;have hl:=locB_ok h1;refine pg_name (by rw [O.N];exact O.nd) (by rw [O.N];exact slot_some h3) (by rw [O.sco];exact hl) ?_;rw [O.sco];exact O.own x h2 hl
theorem XOk.names (O:XOk X k G sc) {es:List Expr}{is:List Nat}(h:iGs sc es=some is):PGs X es (gNs is)/\(assignEach es X.env).length=is.length/\(assignEach es X.env).findIdx? (·.1)=none:=by
 induction es generalizing is with
 | nil=>cases h;exact ⟨pgs_nil,rfl,rfl⟩
 | cons e r ih =>
  cases e with
  | Name x p =>
   simp only [iGs] at h;split at h
   ·rename_i i ei;split at h
    ·rename_i js ej;cases h;obtain ⟨h1,h2,h3⟩:=ih ej;refine ⟨pgs_cons (O.name ei) h1 rfl,?_,?_⟩
     ·show (assignEach r X.env).length+1=js.length+1;rw [h2]
     ·show List.findIdx? (fun x=>x.1) ((false,assign (.Name x p) X.env)::assignEach r X.env)=none;rw [List.findIdx?_cons];simp only [Bool.false_eq_true,if_false,h3];rfl
    ·cases h
   ·cases h
  | _=>cases h
theorem XOk.target (O:XOk X k G sc) {tg:Expr}{ws:List Nat}{g:GM}(h:iG sc tg=some (ws,g)):DG X tg ws g:=by
 cases tg with
 | Name x p =>
  simp only [iG] at h;split at h
  ·rename_i i ei;cases h;obtain ⟨h1,h2,h3⟩:=iGn_some ei;have hl:=locB_ok h1;refine dg_name (by rw [O.N];exact O.nd) (by rw [O.N];exact slot_some h3) (by rw [O.sco];exact hl) ?_;rw [O.sco];exact O.own x h2 hl
  ·cases h
 | Tuple es kk p =>
  simp only [iG] at h;split at h
  ·rename_i is ei;cases h;obtain ⟨h1,h2,h3⟩:=O.names ei;exact dg_tup O.calm h1 h2 h3
  ·cases h
 | _=>cases h
end
structure SndE (G:Gb) (n:Nat):Prop where
 e:∀ {X:Cx} {k:Nat} {sc:SC},XOk X k G sc->∀ e,DE X e (iE G n sc e)
 t:∀ {X:Cx} {k:Nat} {sc:SC},XOk X k G sc->∀ e,DT X e (iT G n sc e)
 a:∀ {X:Cx} {k:Nat} {sc:SC},XOk X k G sc->∀ es,DA X es (iA G n sc es)
 f:∀ {X:Cx} {k:Nat} {sc:SC},XOk X k G sc->∀ es,DIf X es (iF G n sc es)
 i:∀ {X:Cx} {k:Nat} {sc:SC},XOk X k G sc->∀ tg e,DI X tg e (iI G n sc tg e)
theorem dif_bad {X:Cx}{es:List Expr}:DIf X es Zb:=fun pins s σ H Q I ⟨loc,mh,ρ,b,mh',q,_⟩=>by cases q
theorem di_bad {X:Cx}{tg e:Expr}:DI X tg e Zb:=fun loc mh=>PI_none
theorem few_of {X:Cx}{a:Expr}{es:List Expr}{p:Pos}(hs:isStar a=false) (hr:(es.all fun e=>!isStar e)=true) (hk:(a::es).length < 20):((backTo p (starEach (a::es) X.env)).all (fun x=>!x.1)&&(backToKw p (keywordEach [] X.env)).all (fun x=>x.1.isSome)&&decide ((a::es).length+([]:List Keyword).length+(if ([]:List Keyword).isEmpty then 0 else 1) < 30))=true:=by
 rw [starAll (by rw [List.all_cons,hs,hr];rfl)];have:decide ((a::es).length+([]:List Keyword).length+(if ([]:List Keyword).isEmpty then 0 else 1) < 30)=true:=decide_eq_true (by simp;simp at hk;omega);rw [this];rfl
theorem blt_call {X:Cx}{k:Nat}{G:Gb}{sc:SC}(O:XOk X k G sc) {f:Str}{g:Fn}{p pos:Pos}{a:Expr}{es:List Expr}{mr:DM (List D)}(h:bltOf f=some g) (hg:glB sc.scope f=true) (ha:DA X (a::es) mr) (hn:f ≠ "__name__") (hd:(f==("__debug__":Str))=false) (hs:isStar a=false) (hr:(es.all fun e=>!isStar e)=true) :
  DE X (.Call (.Name f p) (a::es) [] pos) (mr.bnd fun ds=>Zl (g ds)):=by
 unfold bltOf at h;split at h
 ·rename_i e;cases h;rw [eq_of_beq e] at hg hn hd ⊢;exact de_callB call_lenD (O.gl hg) (O.g.blt _ (by decide +kernel)) PySem.boot_len ha hn hd (star1 hs) (starAny hr)
 ·split at h
  ·rename_i e;cases h;rw [eq_of_beq e] at hg hn hd ⊢;exact de_callTy call_listD (O.gl hg) (O.g.blt _ (by decide +kernel)) (by decide +kernel) ha hn hd (star1 hs) (starAny hr)
  ·split at h
   ·rename_i e;cases h;rw [eq_of_beq e] at hg hn hd ⊢;exact de_callTy call_tupleD (O.gl hg) (O.g.blt _ (by decide +kernel)) (by decide +kernel) ha hn hd (star1 hs) (starAny hr)
   ·split at h
    ·rename_i e;cases h;rw [eq_of_beq e] at hg hn hd ⊢;exact de_callB (call_allD O.calm) (O.gl hg) (O.g.blt _ (by decide +kernel)) (by decide +kernel) ha hn hd (star1 hs) (starAny hr)
    ·split at h
     ·rename_i e;cases h;rw [eq_of_beq e] at hg hn hd ⊢;exact de_callB (call_no (f:=.builtin "any")) (O.gl hg) (O.g.blt _ (by decide +kernel)) (by decide +kernel) ha hn hd (star1 hs) (starAny hr)
     ·split at h
      ·rename_i e;cases h;rw [eq_of_beq e] at hg hn hd ⊢;exact de_callB (call_maxD2 O.calm) (O.gl hg) (O.g.blt _ (by decide +kernel)) (by decide +kernel) ha hn hd (star1 hs) (starAny hr)
      ·split at h
       ·rename_i e;cases h;rw [eq_of_beq e] at hg hn hd ⊢;exact de_callB (call_minD2 O.calm) (O.gl hg) (O.g.blt _ (by decide +kernel)) (by decide +kernel) ha hn hd (star1 hs) (starAny hr)
       ·split at h
        ·rename_i e;cases h;rw [eq_of_beq e] at hg hn hd ⊢;exact de_callTy call_intD (O.gl hg) (O.g.blt _ (by decide +kernel)) (by decide +kernel) ha hn hd (star1 hs) (starAny hr)
        ·split at h
         ·rename_i e;cases h;rw [eq_of_beq e] at hg hn hd ⊢;exact de_callB call_sortedA (O.gl hg) (O.g.blt _ (by decide +kernel)) (by decide +kernel) ha hn hd (star1 hs) (starAny hr)
         ·split at h
          ·rename_i e;cases h;rw [eq_of_beq e] at hg hn hd ⊢;exact de_callB (call_sumD O.calm) (O.gl hg) (O.g.blt _ (by decide +kernel)) (by decide +kernel) ha hn hd (star1 hs) (starAny hr)
          ·cases h
theorem meth_call0 {X:Cx}{m:Str}{T:String}{f:D->List D->MH->Option (D×MH)}{o:Expr}{mo:DM D}{ap p:Pos}(h:methOf m 0=some (T,f)) (ho:DE X o mo) (hb:baseOk o=true) (hl:(ap.endLine==p.line)=true):DE X (.Call (.Attribute o m ap) [] [] p) (methM T f mo (Zr [])):=by
 unfold methOf at h;split at h
 ·rename_i e;rw [Bool.and_eq_true] at e;exact absurd e.2 (by decide)
 ·split at h
  ·rename_i e;rw [Bool.and_eq_true] at e;cases h;rw [eq_of_beq e.1];exact de_bm0 PySem.F.plainAttrs_int PySem.F.slot_int_bit_length PySem.F.type_int_bit_length mt_no ho (base_ok hb) hl
  ·split at h
   ·rename_i e;rw [Bool.and_eq_true] at e;exact absurd e.2 (by decide)
   ·split at h
    ·rename_i e;rw [Bool.and_eq_true] at e;cases h;rw [eq_of_beq e.1];exact de_bm0 PySem.F.plainAttrs_list PySem.F.slot_list_pop PySem.F.type_list_pop mt_no ho (base_ok hb) hl
    ·split at h
     ·rename_i e;rw [Bool.and_eq_true] at e;exact absurd e.2 (by decide)
     ·split at h
      ·rename_i e;rw [Bool.and_eq_true] at e;exact absurd e.2 (by decide)
      ·cases h
theorem meth_call {X:Cx}{m:Str}{T:String}{f:D->List D->MH->Option (D×MH)}{o a:Expr}{es:List Expr}{mo:DM D}{mr:DM (List D)}{ap p:Pos}(h:methOf m (a::es).length=some (T,f)) (ho:DE X o mo) (ha:DA X (a::es) mr) (hb:baseOk o=true) (hl:(ap.endLine==p.line)=true) (hs:isStar a=false) (hr:(es.all fun e=>!isStar e)=true) (hk:(a::es).length < 20) :
  DE X (.Call (.Attribute o m ap) (a::es) [] p) (methM T f mo mr):=by
 have few:((backTo p (starEach (a::es) X.env)).all (fun x=>!x.1)&&(backToKw p (keywordEach [] X.env)).all (fun x=>x.1.isSome)&&decide ((a::es).length+([]:List Keyword).length+(if ([]:List Keyword).isEmpty then 0 else 1) < 30))=true:=by
  rw [starAll (by rw [List.all_cons,hs,hr];rfl)];have:decide ((a::es).length+([]:List Keyword).length+(if ([]:List Keyword).isEmpty then 0 else 1) < 30)=true:=decide_eq_true (by simp;simp at hk;omega);rw [this];rfl
 unfold methOf at h;split at h
 ·rename_i e;rw [Bool.and_eq_true] at e;cases h;rw [eq_of_beq e.1];exact de_bm PySem.F.plainAttrs_list PySem.F.slot_list_append PySem.F.type_list_append mt_appendD ho ha (base_ok hb) few hl (star1 hs) (starAny hr)
 ·split at h
  ·rename_i e;rw [Bool.and_eq_true] at e;exact absurd (eq_of_beq e.2) (by simp)
  ·split at h
   ·rename_i e;rw [Bool.and_eq_true] at e;cases h;rw [eq_of_beq e.1];exact de_bm PySem.F.plainAttrs_list PySem.F.slot_list_pop PySem.F.type_list_pop mt_popAtD ho ha (base_ok hb) few hl (star1 hs) (starAny hr)
   ·split at h
    ·rename_i e;rw [Bool.and_eq_true] at e;exact absurd (eq_of_beq e.2) (by simp)
    ·split at h
     ·rename_i e;rw [Bool.and_eq_true] at e;cases h;rw [eq_of_beq e.1];exact de_bm PySem.F.plainAttrs_list PySem.F.slot_list_extend PySem.F.type_list_extend mt_extendD ho ha (base_ok hb) few hl (star1 hs) (starAny hr)
     ·split at h
      ·rename_i e;rw [Bool.and_eq_true] at e;cases h;rw [eq_of_beq e.1];exact de_bm PySem.F.plainAttrs_tuple PySem.F.slot_tuple_index PySem.F.type_tuple_index mt_no ho ha (base_ok hb) few hl (star1 hs) (starAny hr)
      ·cases h
theorem zipArg_some {a:Expr}{es:List Expr}{b c:Expr}(h:zipArg a es=some (b,c)):es=[]/\isStar b=false/\isStar c=false/\∃ p q,a=.Call (.Name "zip" p) [b,c] [] q:=by
 unfold zipArg at h;split at h
 ·rename_i g p b' c' q;split at h
  ·rename_i hc;simp only [Bool.and_eq_true] at hc;cases h;exact ⟨rfl,by simpa using hc.1.2,by simpa using hc.2,p,q,by rw [eq_of_beq hc.1.1]⟩
  ·cases h
 ·cases h
theorem setPair_ok {X:Cx}{k:Nat}{G:Gb}{sc:SC}(O:XOk X k G sc) {a b:Expr}{op:CmpOp}{i j:Nat}{pos:Pos}(h:setPair sc a op b=some (i,j)) :
  DE X (.Compare a [op] [b] pos) (setEqM (fun loc mh=>match loc[i]? with | some (some d)=>some (d,mh) | _=>none) (fun loc mh=>match loc[j]? with | some (some d)=>some (d,mh) | _=>none)):=by cases h
theorem snd_zero (G:Gb):SndE G 0:=⟨fun _ _=>de_bad,fun _ _=>dt_bad,fun _ _=>da_bad,fun _ _=>dif_bad,fun _ _ _=>di_bad⟩
theorem snd_a {G:Gb}{n:Nat}(S:SndE G n) {X:Cx}{k:Nat}{sc:SC}(O:XOk X k G sc) (es:List Expr):DA X es (iA G (n+1) sc es):=by
 cases es with
 | nil=>exact da_nil
 | cons a r =>
  show DA X (a::r) (if isStar a then Zb else dCons (iE G n sc a) (iA G n sc r));split
  ·exact da_bad
  ·rename_i h;exact da_cons (S.e O a) (S.a O r) (star1 (by simpa using h))
theorem snd_f {G:Gb}{n:Nat}(S:SndE G n) {X:Cx}{k:Nat}{sc:SC}(O:XOk X k G sc) (es:List Expr):DIf X es (iF G (n+1) sc es):=by
 cases es with
 | nil=>exact dif_nil
 | cons a r =>
  cases r with
  | nil=>exact dif_one (S.t O a)
  | cons b r=>exact dif_bad
theorem snd_i {G:Gb}{n:Nat}(S:SndE G n) {X:Cx}{k:Nat}{sc:SC}(O:XOk X k G sc) (tg e:Expr):DI X tg e (iIb (iE G n) (iT G n) (iA G n) (iF G n) (iI G n) G sc tg e):=by
 cases e with
 | Call ff args kws p' =>
  cases ff with
  | Name f p =>
   cases args with
   | nil=>exact di_val (S.e O _)
   | cons a r =>
    cases r with
    | nil =>
     cases kws with
     | nil =>
      delta iIb
      dsimp only;split
      ·rename_i h;rw [Bool.and_eq_true] at h;split
       ·exact di_bad
       ·rename_i hs;have hs:isStar a=false:=by simpa using hs
        have e:=eq_of_beq h.1;subst e;exact di_range1 (O.gl h.2) (O.g.blt _ (by decide +kernel)) (S.a O [a]) (star1 hs)
      ·split
       ·rename_i h;rw [Bool.and_eq_true] at h;split
        ·exact di_bad
        ·rename_i hs;have hs:isStar a=false/\isTupE tg=true:=by simpa using hs
         have e:=eq_of_beq h.1;subst e;cases tg with
         | Tuple es kk tp=>exact di_bad
         | _=>cases hs.2
       ·exact di_val (S.e O _)
     | cons _ _=>exact di_val (S.e O _)
    | cons b r =>
     cases r with
     | nil =>
      cases kws with
      | nil =>
       delta iIb
       dsimp only;split
       ·rename_i h;rw [Bool.and_eq_true] at h;split
        ·exact di_bad
        ·rename_i hs;have hs:isStar a=false/\isStar b=false:=by simpa using hs
         have e:=eq_of_beq h.1;subst e;exact di_bad
       ·split
        ·rename_i h;rw [Bool.and_eq_true] at h;split
         ·exact di_bad
         ·rename_i hs;have hs:(isStar a=false/\isStar b=false)/\isTupE tg=true:=by simpa using hs
          have e:=eq_of_beq h.1;subst e;cases tg with
          | Tuple elts kk tp=>exact di_zip (O.gl h.2) (O.g.blt _ (by decide +kernel)) (S.a O [a,b]) (star1 hs.1.1) (starAny (by simp [hs.1.2]))
          | _=>cases hs.2
        ·exact di_val (S.e O _)
      | cons _ _=>exact di_val (S.e O _)
     | cons c r =>
      cases r with
      | cons _ _=>exact di_val (S.e O _)
      | nil =>
       cases kws with
       | cons _ _=>exact di_val (S.e O _)
       | nil =>
        delta iIb
        dsimp only;split
        ·rename_i h;rw [Bool.and_eq_true] at h;split
         ·exact di_bad
         ·rename_i hs;have hs:(isStar a=false/\isStar b=false)/\isStar c=false:=by simpa using hs
          have e:=eq_of_beq h.1;subst e;exact di_range3 (O.gl h.2) (O.g.blt _ (by decide +kernel)) (S.a O [a,b,c]) (star1 hs.1.1) (starAny (by simp [hs.1.2,hs.2]))
        ·exact di_val (S.e O _)
  | _=>exact di_val (S.e O _)
 | _=>exact di_val (S.e O _)
theorem dw_of {X:Cx}{op:BoolOp}{vs:List Expr}{p:Pos}{m:DM Bool}(h:DT X (.BoolOp op vs p) m):DW X (.BoolOp op vs p) m:=fun loc mh wh pins s σ H Q I q=>h loc mh pins s σ H Q I q
theorem snd_t {G:Gb}{n:Nat}(S:SndE G n) {X:Cx}{k:Nat}{sc:SC}(O:XOk X k G sc) (e:Expr):DT X e (iTb (iE G n) (iT G n) (iA G n) (iF G n) (iI G n) G sc e):=by
 cases e with
 | UnaryOp op a p =>
  cases op with
  | Not=>exact dt_not (S.t O _)
  | _=>exact dt_truth (S.e O _) fun _=>rfl
 | BoolOp op vs p =>
  cases vs with
  | nil=>cases op <;> exact dt_bad
  | cons a r =>
   cases r with
   | nil =>
    cases op
    ·exact (dw_and1 (S.t O a)).dt
    ·exact (dw_or1 (S.t O a)).dt
   | cons b r =>
    cases op
    ·exact (dw_and (S.t O _) (dw_of (S.t O _))).dt
    ·exact (dw_or (S.t O _) (dw_of (S.t O _))).dt
 | IfExp c a b p=>exact dt_bad
 | Compare a ops cs p =>
  cases ops with
  | nil=>exact dt_bad
  | cons op ops =>
   cases ops with
   | nil =>
    cases cs with
    | nil=>exact dt_bad
    | cons b cs =>
     cases cs with
     | cons _ _=>exact dt_bad
     | nil =>
      delta iTb
      dsimp only;split
      ·rename_i neg kvs hd;exact dt_bad
      ·split
       ·exact dt_bad
       ·rename_i h;exact dt_cmp (cmpOf_ok O.units _) (marks_ok (by simpa using h)) (S.e O _) (S.e O _)
   | cons op' ops =>
    cases ops with
    | cons _ _=>exact dt_bad
    | nil =>
     cases cs with
     | nil=>exact dt_bad
     | cons b cs =>
      cases cs with
      | nil=>exact dt_bad
      | cons c cs =>
       cases cs with
       | cons _ _=>exact dt_bad
       | nil =>
        delta iTb
        dsimp only;split
        ·exact dt_bad
        ·rename_i h;exact dt_chain (cmpOf_ok O.units _) (cmpOf_ok O.units _) (by show behindInMarks _ _=false;exact marks_ok (by simpa using h)) (S.e O _) (S.e O _) (S.e O _)
 | _=>exact dt_truth (S.e O _) fun _=>rfl
theorem snd_e {G:Gb}{n:Nat}(S:SndE G n) {X:Cx}{k:Nat}{sc:SC}(O:XOk X k G sc) (e:Expr):DE X e (iEb (iE G n) (iT G n) (iA G n) (iF G n) (iI G n) G sc e):=by
 cases e with
 | Constant c _ _ =>
  cases c with
  | int i=>exact de_c pe_int fun _ _ _=>.int _
  | bool b=>exact de_c pe_bl fun _ _ _=>.bl _
  | none=>exact de_c pe_non fun _ _ _=>.non
  | str x=>exact de_c pe_str fun _ _ _=>.str _
  | _=>exact de_bad
 | Name x p =>
  delta iEb
  dsimp only;split
  ·rename_i h;rw [Bool.and_eq_true,Bool.and_eq_true] at h;obtain ⟨⟨h1,h2⟩,h3⟩:=h;split
   ·rename_i i ei;exact de_var (by rw [O.N];exact slot_some ei) (O.vis h1) (by simpa using h2) (by simpa using h3)
   ·exact de_bad
  ·split
   ·rename_i h;rw [Bool.and_eq_true] at h;split
    ·rename_i d ed;obtain ⟨u,v,h1,h2,h3⟩:=O.g.con _ _ ed;exact fun loc mh=>PE_imp (pe_glob (O.gl h.1) h1 h2 (by simpa using h.2)) fun σ H Q ⟨ρ,d',mh',q,rl,rs,co⟩=>by
      cases q;exact co H ρ v Ev.refl rs (h3 H ρ)
    ·exact de_bad
   ·exact de_bad
 | BinOp a op b _ =>
  delta iEb
  dsimp only;split
  ·rename_i f ef;exact de_op (opOf_ok ef) (S.e O _) (S.e O _)
  ·exact de_bad
 | UnaryOp op a _ =>
  cases op with
  | USub=>exact de_un un_negD (S.e O _)
  | Not=>exact de_not (S.e O _)
  | _=>exact de_bad
 | BoolOp op vs _ =>
  cases vs with
  | nil=>cases op <;> exact de_bad
  | cons a r =>
   cases r with
   | nil=>cases op <;> exact de_one (S.e O _)
   | cons b r =>
    cases op
    ·exact de_and (S.e O _) (S.e O _)
    ·exact de_or (S.e O _) (S.e O _)
 | Compare a ops cs _ =>
  cases ops with
  | nil=>exact de_bad
  | cons op ops =>
   cases ops with
   | nil =>
    cases cs with
    | nil=>exact de_bad
    | cons b cs =>
     cases cs with
     | cons _ _=>exact de_bad
     | nil =>
      delta iEb
      dsimp only;split
      ·rename_i i j hp;exact setPair_ok O hp
      ·split
       ·rename_i neg kvs hd;exact de_bad
       ·split
        ·exact de_bad
        ·rename_i h;exact de_cmp (cmpOf_ok O.units _) (marks_ok (by simpa using h)) (S.e O _) (S.e O _)
   | cons op' ops =>
    cases ops with
    | cons _ _=>exact de_bad
    | nil =>
     cases cs with
     | nil=>exact de_bad
     | cons b cs =>
      cases cs with
      | nil=>exact de_bad
      | cons c cs =>
       cases cs with
       | cons _ _=>exact de_bad
       | nil =>
        delta iEb
        dsimp only;split
        ·exact de_bad
        ·rename_i h;exact de_chain (cmpOf_ok O.units _) (cmpOf_ok O.units _) (by show behindInMarks _ _=false;exact marks_ok (by simpa using h)) (S.e O _) (S.e O _) (S.e O _)
 | IfExp c a b _=>exact de_if (S.t O _) (S.e O _) (S.e O _)
 | Tuple es _ _=>exact de_tup (S.a O _)
 | List es _=>exact de_lst (S.a O _)
 | Dict ks vs p =>
  delta iEb
  dsimp only;split
  ·rename_i h;rw [Bool.and_eq_true,Bool.and_eq_true] at h;exact de_bad
  ·exact de_bad
 | Subscript a b _ =>
  have gen:DE X (.Subscript a b ‹_›) (if isSlice b then (if isRev b then (iE G n sc a).bnd fun x=>Zl (revD x) else Zb) else (match dicOf G sc a with | some kvs=>Zb | none=>dop ixD (iE G n sc a) (iE G n sc b))):=by
   split
   ·split
    ·rename_i h;obtain ⟨k,p1,p2,p3,rfl⟩:=isRev_some h;exact de_rev (S.e O _)
    ·exact de_bad
   ·rename_i h;split
    ·rename_i kvs hd;exact de_bad
    ·exact de_ix ix_D (ix_ok (by simpa using h)) (S.e O _) (S.e O _)
  cases b with
  | Slice lo hi st _ =>
   cases st with
   | none =>
    refine de_slice (S.e O _) ?_ ?_
    ·cases lo with
     | none=>trivial
     | some e=>exact S.e O e
    ·cases hi with
     | none=>trivial
     | some e=>exact S.e O e
   | some s=>exact gen
  | _=>exact gen
 | Attribute o f _ =>
  delta iEb
  dsimp only;split
  ·rename_i h;exact de_bad
  ·exact de_bad
 | Call ff args kws p' =>
  cases ff with
  | Name f p =>
   cases kws with
   | cons kw ks =>
    cases args with
    | nil=>exact de_bad
    | cons a es =>
     cases es with
     | cons _ _=>exact de_bad
     | nil =>
      delta iEb
      dsimp only;split
      ·rename_i h;simp only [Bool.and_eq_true] at h;obtain ⟨⟨⟨h1,h4⟩,h5⟩,h6⟩:=h;have h4:isStar a=false:=by simpa using h4
       have h6:ks=[]:=by simpa using h6
       subst h6;obtain ⟨j,cp,kp,rfl⟩:=kwNone_some h5;split
       ·rename_i hf;have e:=eq_of_beq hf;subst e;exact de_bad
       ·split
        ·rename_i hf;have e:=eq_of_beq hf;subst e;exact de_bad
        ·exact de_bad
      ·exact de_bad
   | nil =>
    cases args with
    | nil =>
     delta iEb
     dsimp only;split
     ·rename_i h;rw [Bool.and_eq_true] at h;split
      ·rename_i g eg;obtain ⟨fa,fd,h1,h2,h3,h4,h5⟩:=O.g.fn _ _ _ eg;exact de_call0 (E:=E0) h4 O.room (O.gl h.1) h1 h2 h3 pass0 (by simpa using h.2)
      ·exact de_bad
     ·exact de_bad
    | cons a es =>
     delta iEb
     dsimp only;split
     ·rename_i h;simp only [Bool.and_eq_true] at h;obtain ⟨⟨⟨⟨h1,h2⟩,h3⟩,h4⟩,h5⟩:=h;have h4:isStar a=false:=by simpa using h4
      split
      ·rename_i i ei;exact de_callL (by omega) (fun y ps f h=>O.g.fn y ps f h) O.room (by rw [O.N];exact slot_some ei) (O.vis h1) pass0 (S.a O _) (by simpa using h2) (by simpa using h3) (star1 h4) (starAny h5)
      ·exact de_bad
     split
     ·rename_i h;simp only [Bool.and_eq_true] at h;obtain ⟨⟨⟨⟨h1,h2⟩,h3⟩,h4⟩,h5⟩:=h
      have h2:(f==("__debug__":Str))=false:=by simpa using h2
      have h3:f ≠ "__name__":=by simpa using h3
      have h4:isStar a=false:=by simpa using h4
      split
      ·rename_i ps g eg;obtain ⟨fa,fd,g1,g2,g3,g4,g5⟩:=O.g.fn _ _ _ eg;exact de_call (E:=E0) g4 O.room (O.gl h1) g1 g2 g3 pass0 (S.a O _) g5 h2 (star1 h4) (starAny h5)
      ·split
       ·rename_i fl hb;exact de_bad
       split
       ·rename_i b hb;cases hb
       ·split
        ·rename_i b c hb;obtain ⟨rfl,hsb,hsc,p2,q2,rfl⟩:=zipArg_some hb;split
         ·rename_i hs;rw [Bool.and_eq_true] at hs;have e:=eq_of_beq hs.2;subst e;exact de_listZip O.calm (O.gl h1) (O.g.blt _ (by decide +kernel)) (O.gl hs.1) (O.g.blt _ (by decide +kernel)) (S.a O [b,c]) (star1 hsb) (starAny (by simp [hsc]))
         ·exact de_bad
        ·split
         ·rename_i b hb;cases hb
         ·split
          ·rename_i hf;split
           ·rename_i c pc;split
            ·rename_i hc;simp only [Bool.and_eq_true] at hc;obtain ⟨⟨c1,c2⟩,c3⟩:=hc;split
             ·rename_i T eT;cases eT
             ·exact de_bad
            ·exact de_bad
           ·exact de_bad
          ·split
           ·rename_i g eg;exact blt_call O eg h1 (S.a O _) h3 h2 h4 h5
           ·exact de_bad
     ·exact de_bad
  | Attribute o m ap =>
   cases kws with
   | cons _ _=>cases args <;> exact de_bad
   | nil =>
    cases args with
    | nil =>
     delta iEb
     dsimp only;split
     ·rename_i h;rw [Bool.and_eq_true] at h;split
      ·rename_i T f eT;exact meth_call0 eT (S.e O _) h.1 h.2
      ·exact de_bad
     ·exact de_bad
    | cons a es =>
     delta iEb
     dsimp only;split
     ·rename_i h;simp only [Bool.and_eq_true] at h;obtain ⟨⟨⟨⟨h1,h2⟩,h3⟩,h4⟩,h5⟩:=h;split
      ·rename_i hm;have em:=eq_of_beq hm;subst em;rw [Bool.not_eq_true'] at h3;split
       ·rename_i kvs hd;exact de_bad
       ·exact de_bad
      split
      ·rename_i hm;rw [Bool.and_eq_true] at hm;have em:=eq_of_beq hm.1;subst em;rw [Bool.not_eq_true'] at h3;exact de_methE (de_bm PySem.F.plainAttrs_tuple PySem.F.slot_tuple_count PySem.F.type_tuple_count mt_cntT (S.e O _) (S.a O _) (base_ok h1) (few_of h3 h4 (of_decide_eq_true h5)) h2 (star1 h3) (starAny h4))
        (de_bm PySem.F.plainAttrs_list PySem.F.slot_list_count PySem.F.type_list_count mt_cntL2 (S.e O _) (S.a O _) (base_ok h1) (few_of h3 h4 (of_decide_eq_true h5)) h2 (star1 h3) (starAny h4))
      split
      ·rename_i hm;rw [Bool.and_eq_true] at hm;have em:=eq_of_beq hm.1;subst em;rw [Bool.not_eq_true'] at h3;exact de_methE (de_bm PySem.F.plainAttrs_tuple PySem.F.slot_tuple_index PySem.F.type_tuple_index mt_no (S.e O _) (S.a O _) (base_ok h1) (few_of h3 h4 (of_decide_eq_true h5)) h2 (star1 h3) (starAny h4))
        (de_bm PySem.F.plainAttrs_list PySem.F.slot_list_index PySem.F.type_list_index mt_no (S.e O _) (S.a O _) (base_ok h1) (few_of h3 h4 (of_decide_eq_true h5)) h2 (star1 h3) (starAny h4))
      split
      ·rename_i T f eT;exact meth_call eT (S.e O _) (S.a O _) h1 h2 (by simpa using h3) h4 (of_decide_eq_true h5)
      ·rw [Bool.not_eq_true'] at h3;exact de_bad
     ·exact de_bad
  | _=>cases args <;> exact de_bad
 | ListComp elt gens scope p =>
  cases gens with
  | nil=>exact de_bad
  | cons g gens =>
   obtain ⟨tg,iter,ifs,kk⟩:=g;cases gens with
   | cons _ _=>exact de_bad
   | nil =>
    delta iEb
    dsimp only;split
    ·rename_i h;simp only [Bool.and_eq_true] at h;obtain ⟨⟨h1,h2⟩,h3⟩:=h;have e:=eq_of_beq h1;subst e;split
     ·rename_i ws g eg;split
      ·rename_i hw;refine de_comp (N':=compNames scope) O.calm (compOk_of O h2) (capOk_of O scope) (fun i hi j q=>?_) (S.i O tg iter) (fun p C c s h f=>(O.comp h2 p C c s h f).target eg) (fun p C c s h f=>S.f (O.comp h2 p C c s h f) ifs) (fun p C c s h f=>S.e (O.comp h2 p C c s h f) elt) (set_ok (by simpa using h3));have z:=List.all_eq_true.mp hw i hi;rw [q] at z;cases z
      ·exact de_bad
     ·exact de_bad
    ·exact de_bad
 | _=>exact de_bad
theorem snd (G:Gb):∀ n,SndE G n
 | 0=>snd_zero G
 | n+1=>⟨fun O=>snd_e (snd G n) O,fun O=>snd_t (snd G n) O,fun O=>snd_a (snd G n) O,fun O=>snd_f (snd G n) O,fun O=>snd_i (snd G n) O⟩
theorem among_app {pos:Pos}{i j:Int}{c v:Value}(l:List Value) (h:TriplesOk l) (e:codeAmong pos (l++[rawInt i,rawInt j,c])=some v):codeAmong pos l=some v\/v=c:=by
 fun_induction TriplesOk l with
 | case1 =>
  simp only [List.nil_append,codeAmong,rawInt] at e;split at e
  ·cases e;exact .inr rfl
  ·cases e
 | case2 a t b u x rest ih =>
  simp only [List.cons_append,codeAmong] at e ⊢;split at e
  ·rename_i hc;rw [if_pos hc];exact .inl e
  ·rename_i hc;rw [if_neg hc];exact ih h e
 | case3 l h1 h2=>exact h.elim
section
variable {K:PySem.W.Frag}{H:Hp}{ρ:List Addr}
theorem Ev.tab {p:Addr}{ys zs:Array Value}(hp:H p=some (.tbl ys)):Ev K H ρ (upd H p (.tbl zs)) ρ:=by
 have ne:∀ {a:Addr} {o:HO},H a=some o->(∀ ps,o≠.tbl ps)->upd H p (.tbl zs) a=some o:=fun {a o} h n=>by
  rw [upd_ne (ne_of h hp (n ys))];exact h
 refine ⟨fun a xs h=>?_,List.prefix_refl _,fun a xs h=>?_,fun a C dx fs h=>ne h (fun _ z=>by cases z),fun a o u h=>ne h (fun _ z=>by cases z)⟩
 ·rcases h with (h|⟨ob,h⟩)|h
  ·exact .inl (.inl (ne h (fun _ z=>by cases z)))
  ·exact .inl (.inr ⟨ob,ne h (fun _ z=>by cases z)⟩)
  ·exact .inr h
 ·rcases h with ⟨ob,h⟩|h
  ·exact .inl ⟨ob,ne h (fun _ z=>by cases z)⟩
  ·exact .inr h
theorem RS.tab {mh:MH}{n:Nat}{p:Addr}{ys zs:Array Value}(h:RS K H ρ mh) (hn:ρ[n]?=some p) (hm:mh[n]?=some .plc) (hp:H p=some (.tbl ys)) (new:PlcAt K (upd H p (.tbl zs)) p):RS K (upd H p (.tbl zs)) ρ mh :=
 ⟨h.len,h.nd,fun m a ob e1 e2=>by
  by_cases hm':n=m
  ·subst hm';rw [hn] at e1;cases e1;rw [hm] at e2;cases e2;exact new
  ·refine (h.obj m a ob e1 e2).mono (Ev.tab hp) ?_;rw [upd_ne];intro z;subst z
   exact hm' ((List.getElem?_inj (List.getElem?_eq_some_iff.mp hn).1 h.nd).mp (hn.trans e1.symm))⟩
end
noncomputable abbrev uT:HO:=.ext fun _=>True
section
variable {P:Program}{w:World}{H:Hp}{h h2:Heap}{pl c a:Addr}{tb more:Array Value}{oc ob:Obj}{fs:List Addr}
noncomputable abbrev H3 (H:Hp) (c:Addr) (oc:Obj) (pl:Addr) (tb:Array Value) (a:Addr) (ob:Obj):Hp:=upd (upd (upd H c (.frz oc uT)) pl (.tbl tb)) a (.frz ob uT)
theorem H3_at {b:Addr}{o:HO}(e:H b=some o) (n:∀ ps,o≠.tbl ps) (ht:H pl=some (.tbl tb)) (fc:H c=none) (fa:H a=none):H3 H c oc pl (tb++more) a ob b=some o:=by
 unfold H3;rw [upd_ne (ne_of_none e fa),upd_ne (ne_of e ht (n tb)),upd_ne (ne_of_none e fc)];exact e
theorem hok_lam (ok:HOk P w H h) (ht:H pl=some (.tbl tb)) (fc:H c=none) (fa:H a=none) (nca:c≠a) (k:∀ b o,b≠pl->h.get? b=some o->h2.get? b=some o)
  (hpl:h2.get? pl=some (PySem.W.tabObj (tb++more))) (hc:h2.get? c=some oc) (ha:h2.get? a=some ob):HOk P w (H3 H c oc pl (tb++more) a ob) h2:=fun b o e=>by
 by_cases b1:b=a
 ·subst b1;unfold H3 at e;rw [upd_same] at e;cases e;exact ⟨ha,trivial,⟨_,ha⟩,fun _ _ _ _=>trivial⟩
 ·by_cases b2:b=pl
  ·subst b2;unfold H3 at e;rw [upd_ne b1,upd_same] at e;cases e;exact hpl
  ·by_cases b3:b=c
   ·subst b3;unfold H3 at e;rw [upd_ne b1,upd_ne b2,upd_same] at e;cases e;exact ⟨hc,trivial,⟨_,hc⟩,fun _ _ _ _=>trivial⟩
   ·have e0:H b=some o:=by
     unfold H3 at e;rw [upd_ne b1,upd_ne b2,upd_ne b3] at e;exact e
    refine (ok b o e0).stay (fun x u hx q=>k x u (fun z=>?_) q) (fun x q=>H3_at q (fun _ z=>by cases z) ht fc fa) fun x xs q=>H3_at q (fun _ z=>by cases z) ht fc fa
    rcases hx with rfl|hx
    ·exact b2 z
    ·subst z;rw [ht] at hx;cases hx
theorem un_lam (ht:H pl=some (.tbl tb)) (fc:H c=none) (fa:H a=none) (sc:h.objs.size<=c) (sa:h.objs.size<=a) (k:∀ b o,b≠pl->h.get? b=some o->h2.get? b=some o)
  (hpl:h2.get? pl=some (PySem.W.tabObj (tb++more))):Un fs [] H (H3 H c oc pl (tb++more) a ob) h h2:=by
 have np:∀ b,H b=none->b≠pl:=fun b n z=>by subst z;rw [ht] at n;cases n
 refine ⟨fun b o e n _ _=>k b o (np b n) e,fun b o e n _ _=>⟨o.slots,k b o (np b n) e⟩,fun b o e n _=>?_,fun b o e _=>?_,fun b xs e=>H3_at e (fun _ z=>by cases z) ht fc fa,fun b o u e=>H3_at e (fun _ z=>by cases z) ht fc fa,fun b ps e=>?_⟩
 ·unfold H3;rw [upd_ne (Nat.ne_of_lt (Nat.lt_of_lt_of_le (Heap.lt_size e) sa)),upd_ne (np b n),upd_ne (Nat.ne_of_lt (Nat.lt_of_lt_of_le (Heap.lt_size e) sc))];exact n
 ·by_cases z:b=pl
  ·subst z;exact ⟨_,hpl⟩
  ·exact ⟨o,k b o z e⟩
 ·unfold H3;rw [upd_ne (ne_of_none e fa)]
  by_cases z:b=pl
  ·subst z;rw [ht] at e;cases e;exact ⟨more,by rw [upd_same]⟩
  ·exact ⟨#[],by rw [upd_ne z,upd_ne (ne_of_none e fc),e];simp⟩
end
structure LamT (lps:Arguments) (body:Expr) (lsc:Scope):Prop where
 d:∀ env,defaultsOf lps env=([],[])
 c:∀ env,closureFor lsc env=pure []
 f:∀ name qual pm cdv ct,LamFd (PySem.W.kla_fn name qual lps body lsc [] pm cdv ct)
section
variable {X:Cx}
theorem de_lam {lps:Arguments}{body:Expr}{lsc:Scope}{lpos:Pos}{loc:DL.Loc}{mh:MH}(L:LamT lps body lsc) (hq:X.env.qual ++ "<lambda>"=lamQ)
  (hX:∃ (f:Addr) (o:Obj) (fd:FuncData),PySem.W.nsIn X.K mainGlobals "pattern_of"=some (some (.ref f))/\X.K.lookup f=some o/\o.data=.func fd/\X.env.code=fd.code) (h0:mh[0]?=some .plc) :
  PE X (.Lambda lps body lsc lpos) (tD X.K loc mh (some (.lam,mh))):=by
 rintro pins s σ H Q I ⟨ρ,d,mh',q,rl,rs,co⟩;cases q;obtain ⟨pl,hpl,ro⟩:=rs.at h0;obtain ⟨tb,ht,tri,cod,pk⟩:=(show PlcAt X.K H pl from ro);obtain ⟨f,o,fd,c,bm,ob,n1,n2,n3,n4,n5,b1,b2,b3,b4,b5,b6,b7⟩:=id pk;obtain ⟨f',o',fd',m1,m2,m3,m4⟩:=hX;rw [n1] at m1;cases m1;rw [n2] at m2;cases m2;rw [n3] at m3;cases m3;rw [n4] at m4;have hP:s.heap.get? pl=some (PySem.W.tabObj tb):=I.hok pl _ ht;have C:=PySem.W.codeHd_of_K I.kIn n5;have hg:s.heap.Ns mainGlobals X.mg:=I.mod.glob.keeps I.bk;have hgP:mainGlobals≠pl:=fun z=>by
  obtain ⟨o,es,ep,e,hd,_⟩:=hg;rw [z,hP] at e;cases e;cases hd
 have hb:s.heap.BuiltinsAt X.mg pl:=⟨bm,ob,PySem.W.mg_of I.kIn hg b1,b6,b7,(fun z=>by
  have e:=I.kIn _ _ b2
  rw [z,hP] at e;cases e;cases b3),I.kIn _ _ b2,b3,b4,b5⟩
 refine PySem.W.kla_eval (L.d _) ?_;rw [hq];cases hm:codeAmong lpos tb.toList with
 | none =>
  refine PySem.W.kla_makeFunction (L.c _) I.ok.glob hg m4 C hP tri hm hgP hb fun c' ctv h' tk hx hge hlt hrec htb=>?_
  obtain ⟨c2,oc,vs,tq,e1,e2,e3,e4⟩:=hrec;cases e1;have fc:H c'=none:=I.hok.fresh hge;have sa:s.heap.objs.size<=h'.objs.size:=Nat.le_of_lt (Nat.lt_of_le_of_lt hge hlt);have fa:H h'.objs.size=none:=I.hok.fresh sa;have nca:c'≠h'.objs.size:=Nat.ne_of_lt hlt;have npa:h'.objs.size≠pl:=Nat.ne_of_gt (Heap.lt_size htb);have kk:∀ (ob:Obj) b o,b≠pl->s.heap.get? b=some o->(h'.push ob).get? b=some o:=fun ob b o n e=>Heap.get?_push_of_some _ (hx b o n e)
  have rs1:=(rs.new (o:=.frz oc uT) fc);have t1:upd H c' (.frz oc uT) pl=some (.tbl tb):=by rw [upd_ne (ne_of_none ht fc)];exact ht
  have fr:∀ a o u,H a=some (.frz o u)->upd (upd H c' (.frz oc uT)) pl (.tbl (tb++#[rawInt lpos.line,rawInt lpos.col,.ref c'])) a=some (.frz o u):=fun a o u e=>by
   rw [upd_ne (ne_of e ht (by intro z;cases z)),upd_ne (ne_of_none e fc)];exact e
  have ncp:c'≠pl:=fun z=>by subst z;rw [ht] at fc;cases fc
  have cd1:CodF (upd (upd H c' (.frz oc uT)) pl (.tbl (tb++#[rawInt lpos.line,rawInt lpos.col,.ref c']))) (.ref c') lamQ:=⟨c',oc,uT,vs,tq,rfl,by rw [upd_ne ncp,upd_same],e3,e4⟩
  have rs2:=rs1.tab (zs:=tb++#[rawInt lpos.line,rawInt lpos.col,.ref c']) hpl h0 t1 ⟨_,upd_same,by
    simpa using TriplesOk_snoc lpos.line lpos.col (.ref c') _ tri,fun pos v z=>by
    rcases among_app _ tri (by simpa using z) with z|z
    ·exact (cod pos v z).mono fr
    ·subst z;exact cd1,pk⟩
  have f2:upd (upd H c' (.frz oc uT)) pl (.tbl (tb++#[rawInt lpos.line,rawInt lpos.col,.ref c'])) h'.objs.size=none:=by rw [upd_ne npa,upd_ne (Ne.symm nca)];exact fa
  have ev:Ev X.K H ρ _ ρ:=((Ev.new (o:=.frz oc uT) fc).trans (Ev.tab (zs:=tb++#[rawInt lpos.line,rawInt lpos.col,.ref c']) t1)).trans (Ev.new (o:=.frz (PySem.W.kla_obj "<lambda>" lamQ lps body lsc [] ((X.mg "__name__").getD .none) c' ctv) uT) f2);refine ⟨.ref h'.objs.size,H3 H c' oc pl _ h'.objs.size _,I.un (un_lam ht fc fa hge sa (kk _) (Heap.get?_push_of_some _ htb)) (hok_lam I.hok ht fc fa nca (kk _) (Heap.get?_push_of_some _ htb) (Heap.get?_push_of_some _ e2) (Heap.get?_push_size _ rfl)),rfl,?_⟩;exact co _ ρ _ ev (rs2.new f2) (.lam ⟨_,uT,_,upd_same,rfl,L.f _ _ _ _ _,cd1.mono fun a o u e=>by unfold H3;rw [upd_ne (ne_of_none e f2)];exact e⟩)
 | some cv =>
  obtain ⟨c',oc,u,vs,tq,rfl,e2,e3,e4⟩:=cod lpos cv hm;refine PySem.W.kla_makeFunctionHit (L.c _) I.ok.glob hg m4 C hP tri hm hb fun ctv h' tk hk hsz=>?_
  have fa:H h'.objs.size=none:=I.hok.fresh hsz;refine ⟨.ref h'.objs.size,upd H h'.objs.size (.frz _ uT),I.laid (t':=tk) (fun b u e=>Heap.get?_push_of_some _ (hk b u e)) hsz ⟨Heap.get?_push_size _ rfl,trivial,⟨_,Heap.get?_push_size _ rfl⟩,fun _ _ _ _=>trivial⟩,rfl,?_⟩;exact co _ ρ _ (Ev.new fa) (rs.new fa) (.lam ⟨_,uT,_,upd_same,rfl,L.f _ _ _ _ _,c',oc,u,vs,tq,rfl,by rw [upd_ne (ne_of_none e2 fa)];exact e2,e3,e4⟩)
noncomputable def lamM:DM D:=fun _ mh=>match mh[0]? with
 | some MO.plc=>some (D.lam,mh)
 | _=>none
end
theorem start_rl {K:PySem.W.Frag}{H:Hp}{ρ:List Addr}{N:List Str}{ds:List D}{vs:List V}(r:RDs K H ρ ds vs):RL K H ρ (ds.map some++List.replicate (N.length - ds.length) none) (L2.start N vs):=by
 have hl:=r.length;unfold L2.start;refine ⟨by simp [hl],fun i d e=>?_⟩
 by_cases hi:i < ds.length
 ·rw [List.getElem?_append_left (by simpa using hi),List.getElem?_map] at e;cases q:ds[i]? with
  | none=>rw [q] at e;cases e
  | some d' =>
   rw [q] at e;cases e;obtain ⟨v,e1,r1⟩:=r.get q;exact ⟨v,by rw [List.getElem?_append_left (by simp;omega),List.getElem?_map,e1];rfl,r1⟩
 ·rw [List.getElem?_append_right (by simpa using hi),List.getElem?_replicate] at e;split at e <;> cases e
noncomputable def LamDef (st:Stmt) (a y:Str):Prop:=∃ p1 p2 p3 rpos cpos lps body lsc lpos,defBody st=[.Return (some (.Call (.Name y p1) [.Name a p2,.Name a p3,.Lambda lps body lsc lpos] [] cpos)) rpos]/\LamT lps body lsc /\
  glB (defScope st) y=true/\(y==("__debug__":Str))=false/\(a==("__debug__":Str))=false/\(a==("__classdict__":Str))=false
theorem lam_ok {P:Program}{w:World}{K:PySem.W.Frag}{mg:Str->Option Value}{base:Heap}{k:Nat}{G:Gb}{st:Stmt}{f:Addr}{fd:FuncData}{N:List Str}{a y:Str}(g:GOk P w K mg base k G) (F:Fun K "pattern_of" "pattern_of" st f fd)
  (hn:PySem.W.nsIn K mainGlobals "pattern_of"=some (some (.ref f))) (S:FnScope N [a] (defScope st)) (L:LamDef st a y):FnOk P w K mg base CX0 (k+3) f fd [a] (spD K 1 (lamF G y)):=by
 obtain ⟨⟨oc,od,kV,doc,pm,an,cdv,ct,osl,rfl,lk,hcd⟩,kp⟩:=F;obtain ⟨p1,p2,p3,rpos,cpos,lps,body,lsc,lpos,hb,LT,hy,hyd,ha1,ha2⟩:=L;refine fn_of lk hcd S (fun vs H Q E h=>h.1) fun A outer s H vs Q E hr h=>?_
 obtain ⟨hl,ρ,mh,ds,d,mh',q,rs,r,co⟩:=h;unfold lamF at q;split at q
 ·rename_i d0 ps gf h0 hg;obtain ⟨fa,fdz,g1,g2,g3,g4,g5⟩:=g.fn _ _ _ hg;have hN:N[0]?=some a:=by
   have:=S.pre
   match N,this with
   | n::r,z=>simp at z;rw [z];rfl
  have va:Vis (defScope st) a:=(S.par a (by simp)).elim .inl fun h=>.inr (.inl h)
  have dl:DE (cxOf CX0 P w K mg base N "pattern_of" (defScope st) f cdv A outer s H E) (.Lambda lps body lsc lpos) lamM:=fun loc mh=>by
   unfold lamM;split
   ·rename_i h0;exact de_lam LT rfl ⟨f,_,_,hn,lk,rfl,rfl⟩ h0
   ·exact PE_none
  have dv:∀ p,DE (cxOf CX0 P w K mg base N "pattern_of" (defScope st) f cdv A outer s H E) (.Name a p) _:=fun p=>de_var (i:=0) hN va ha1 ha2
  have dc:=de_call (p:=p1) (pos:=cpos) g4 hr (glB_ok hy) g1 g2 g3 pass0 (da_cons (dv p2) (da_cons (dv p3) (da_cons dl da_nil rfl) rfl) rfl) g5 hyd rfl rfl;refine ⟨_,by rw [hb];exact dss_cons (ds_ret (pos:=rpos) dc) dss_nil,?_⟩;refine ⟨_,mh,ρ,.rt d,[d0].map some++List.replicate (N.length - [d0].length) none,mh',?_,start_rl r,rs,co⟩;cases N with
  | nil=>cases hN
  | cons n r =>
   simp [seqS,retS,DM.bnd,dCons,Zr,Zl,lamM,h0,q]
 ·cases q
theorem asg_bad {X:Cx}{st:Stmt}{g:GM}:DS X st (asgS Zb g):=fun _ _ _ _ _ _ h=>by obtain ⟨_,_,_,_,_,_,e,_⟩:=h;cases e
theorem ds_compAsg {G:Gb}{X:Cx}{k:Nat}{sc:SC}(O:XOk X k G sc) (n:Nat) {y:Str}{py vp spos:Pos}{elt:Expr}{gens:List Comprehension}{scope:Scope}{ws:List Nat}{gy:GM}(hgy:iG sc (.Name y py)=some (ws,gy)) :
  DS X (.Assign [.Name y py] (.ListComp elt gens scope vp) spos) (asgS (iE G n sc (.ListComp elt gens scope vp)) gy):=by
 have hg:=O.target hgy;have sw:swapsWith (.ListComp elt gens scope vp) (some (.Name y py)) spos.line X.env=pure (X.env.blockKind==.function&&X.env.kindOf y==some .local&&py.line==vp.line&&!(scope.names.any fun (n,k)=>n==y&&(k==.local || k==.cell))):=rfl;cases hb:(X.env.blockKind==.function&&X.env.kindOf y==some .local&&py.line==vp.line&&!(scope.names.any fun (n,k)=>n==y&&(k==.local || k==.cell))) with
 | false =>
  rw [hb] at sw;exact ds_asg ((snd G n).e O _) hg sw rfl rfl
 | true =>
  rw [hb] at sw;cases n with
  | zero=>exact asg_bad
  | succ n =>
   show DS X _ (asgS (iEb (iE G n) (iT G n) (iA G n) (iF G n) (iI G n) G sc _) gy)
   match gens with
   | []=>exact asg_bad
   | ⟨_,_,_,_⟩::_::_=>exact asg_bad
   | [⟨tg,iter,ifs,kk⟩] =>
    delta iEb
    dsimp only;split
    ·rename_i h;simp only [Bool.and_eq_true] at h;obtain ⟨⟨h1,h2⟩,h3⟩:=h;have e:=eq_of_beq h1;subst e;split
     ·rename_i ws g eg;split
      ·rename_i hw;refine ds_setComp (N':=compNames scope) O.calm (compOk_of O h2) (capOk_of O scope) (fun i hi j q=>?_) ((snd G n).i O tg iter) (fun p C c s h f=>(O.comp h2 p C c s h f).target eg) (fun p C c s h f=>(snd G n).f (O.comp h2 p C c s h f) ifs) (fun p C c s h f=>(snd G n).e (O.comp h2 p C c s h f) elt) hg sw (set_ok (by simpa using h3));have z:=List.all_eq_true.mp hw i hi;rw [q] at z;cases z
      ·exact asg_bad
     ·exact asg_bad
    ·exact asg_bad
theorem not_swap {v tg:Expr}{line:Nat}{env:Env}(h:isCompE v=false):swapsWithSole [tg] v line env=pure false:=by
 show swapsWith v (some tg) line env=pure false;cases v <;> first | rfl | cases h
theorem not_swapN {v:Expr}{line:Nat}{env:Env}(h:isCompE v=false):swapsWith v none line env=pure false:=by
 cases v <;> first | rfl | cases h
theorem not_swapped {v tg:Expr}{env:Env}(h:(isTupE tg&&isTupE v)=false) (hl:∀ es p,tg≠.List es p):swappedStores [tg] v env=pure none:=by
 cases tg with
 | Tuple ts kk p =>
  cases v with
  | Tuple vs k2 p2=>cases h
  | _=>rfl
 | List es p=>exact (hl es p rfl).elim
 | _=>first | rfl | (cases v <;> rfl)
theorem par_ok {x y:Str}{a b:Expr}{px py pt pt2:Pos}{kt k2:Nat}{env:Env}(hb:(env.blockKind==.function)=true) (hx:(env.kindOf x==some .local)=true) (hy:(env.kindOf y==some .local)=true) (hl:(py.line==px.line)=true) (hne:(x==y)=false) (sa:isStar a=false) (sb:isStar b=false)
  (hf:[a,b].all (foldedForSure 8)=false) (hc:[a,b].all (constantsAlone 8)=false):swappedStores [.Tuple [.Name x px,.Name y py] kt pt] (.Tuple [a,b] k2 pt2) env=pure (some [x,y]):=by
 have he:([x,y].eraseDups.length != [x,y].length)=false:=by
  have:(y==x)=false:=by
   cases q:(y==x) with
   | false=>rfl
   | true=>rw [eq_of_beq q] at hne;simp at hne
  simp [List.eraseDups_cons,this,hne]
 have hbk:(env.blockKind != .function)=false:=by rw [bne,hb];rfl
 have e1:(Option.map (fun e:Expr=>e.pos.line) [Expr.Name x px,Expr.Name y py].head?).getD 0=px.line:=rfl;unfold swappedStores;dsimp only;refine (if_neg ?_).trans ?_
 ·simp [hbk]
 refine (if_neg ?_).trans ?_
 ·simp only [List.any_cons,List.any_nil,Bool.or_false];rw [Bool.not_eq_true,Bool.or_eq_false_iff];constructor
  ·cases a <;> first | rfl | cases sa
  ·cases b <;> first | rfl | cases sb
 simp only [e1,List.filterMap_cons,List.filterMap_nil,hx,hy,hl,beq_self_eq_true,Bool.and_self,if_true];refine (if_neg ?_).trans ?_
 ·rw [he];simp
 rw [if_neg (by rw [hf];simp),if_neg (by rw [hc];simp)]
theorem ds_par {X:Cx}{i j:Nat}{x y:Str}{a b:Expr}{mr:DM (List D)}{px py pt pt2 pos:Pos}{kt k2:Nat}(hc:X.calm=true) (hN:X.N.Nodup) (hi:X.N[i]?=some x) (hj:X.N[j]?=some y) (hij:i≠j) (hx:X.env.scope.names.lookup x=some .local) (hy:X.env.scope.names.lookup y=some .local) (ha:DA X [a,b] mr)
  (hw:swappedStores [.Tuple [.Name x px,.Name y py] kt pt] (.Tuple [a,b] k2 pt2) X.env=pure (some [x,y])):DS X (.Assign [.Tuple [.Name x px,.Name y py] kt pt] (.Tuple [a,b] k2 pt2) pos) (parS mr i j):=by
 rintro pins s σ H N I ⟨loc,mh,ρ,f,loc',mh',e,rl,rs,co⟩;refine ps_par hc hN hi hj hij hx hy (ha loc mh) hw rfl pins s σ H N I ?_;unfold parS at e;split at e
 ·rename_i d1 d2 h1 er;cases e;refine ⟨ρ,[d1,d2],mh',er,rl,rs,fun H' ρ' vs e' rs' r'=>?_⟩;cases r' with
  | cons r1 r' =>
   cases r' with
   | cons r2 r' =>
    cases r';exact ⟨_,_,rfl,co H' ρ' _ e' rs' (((rl.mono e').set r1).set r2)⟩
 ·cases e
theorem sndSb (G:Gb) (n:Nat) (ihss:∀ {X:Cx}{k:Nat}{sc:SC},XOk X k G sc->∀ ss,DSs X ss (iSs G n sc ss)) {X:Cx}{k:Nat}{sc:SC}(O:XOk X k G sc) (s:Stmt):DS X s (iSb n (iSs G n) G sc s):=by
 have S:=snd G n;cases s with
 | Expr e p =>
  delta iSb
  dsimp only;split
  ·exact ds_bad
  ·rename_i h;exact ds_expr (S.e O _) (not_swapN (by simpa using h))
 | Pass _=>exact ds_pass
 | Break _=>exact ds_break
 | Continue _=>exact ds_continue
 | Return e _ =>
  cases e with
  | some e=>exact ds_ret (S.e O _)
  | none=>exact ds_retN
 | Assign ts v p =>
  cases ts with
  | nil=>exact ds_bad
  | cons tg r =>
   cases r with
   | cons _ _=>exact ds_bad
   | nil =>
    have gen:DS X (.Assign [tg] v p) (if isCompE v || (isTupE tg&&isTupE v) then SM.bad else (match iGt G n sc tg with | some g=>asgS (iE G n sc v) g | none=>SM.bad)):=by
     split
     ·exact ds_bad
     ·rename_i h;have h:isCompE v=false/\(isTupE tg&&isTupE v)=false:=by
       rw [Bool.not_eq_true,Bool.or_eq_false_iff] at h;exact h
      split
      ·rename_i g eg;have gen:(match iG sc tg with | some (_,g)=>some g | none=>none)=some g->DS X (.Assign [tg] v p) (asgS (iE G n sc v) g):=fun eg=>by
        split at eg
        ·rename_i ws g' eg';cases eg;refine ds_asg (S.e O _) (O.target eg') (not_swap h.1) (not_swapped h.2 (fun es p z=>by subst z;simp [iG] at eg')) ?_;cases tg <;> first | rfl | (simp [iG] at eg')
        ·cases eg
       cases tg with
       | Subscript o i p' =>
        simp only [iGt] at eg;split at eg
        ·cases eg
        ·rename_i hs;cases eg;have hs:isSlice i=false:=by simpa using hs
         refine ds_asg (S.e O _) (dg_sub (S.e O _) (S.e O _) ?_) (not_swap h.1) (not_swapped h.2 (fun _ _ z=>by cases z)) rfl;intro v';cases i <;> first | rfl | cases hs
       | _=>exact gen eg
      ·exact ds_bad
    cases tg with
    | Name y py =>
     cases v with
     | ListComp elt gens scope vp =>
      delta iSb
      dsimp only
      delta asgB
      dsimp only;split
      ·rename_i ws g eg;exact ds_compAsg O n eg
      ·exact ds_bad
     | _=>exact gen
    | Tuple tl kt pt =>
     cases tl with
     | nil=>exact gen
     | cons t1 tl =>
      cases t1 with
      | Name x px =>
       cases tl with
       | nil=>exact gen
       | cons t2 tl =>
        cases t2 with
        | Name y py =>
         cases tl with
         | cons _ _=>exact gen
         | nil =>
          cases v with
          | Tuple vl k2 pt2 =>
           cases vl with
           | nil=>exact gen
           | cons a vl =>
            cases vl with
            | nil=>exact gen
            | cons b vl =>
             cases vl with
             | cons _ _=>exact gen
             | nil =>
              delta iSb
              dsimp only
              delta asgB
              dsimp only;split
              ·rename_i h;unfold parB at h;simp only [Bool.and_eq_true,Bool.not_eq_true'] at h;obtain ⟨⟨⟨⟨⟨⟨⟨⟨h1,h2⟩,h3⟩,h4⟩,h5⟩,h6⟩,h7⟩,h8⟩,h9⟩:=h;split
               ·rename_i i j ei ej;have hi:=slot_some ei;have hj:=slot_some ej;refine ds_par O.calm (by rw [O.N];exact O.nd) (by rw [O.N];exact hi) (by rw [O.N];exact hj) (fun z=>?_) (by rw [O.sco];exact eq_of_beq h2) (by rw [O.sco];exact eq_of_beq h3) (S.a O _) (par_ok ?_ ?_ ?_ h4 h5 h6 h7 h8 h9)
                ·subst z;rw [hi] at hj;cases hj;simp at h5
                ·unfold Env.blockKind;rw [O.sco];exact h1
                ·unfold Env.kindOf;rw [O.sco];exact h2
                ·unfold Env.kindOf;rw [O.sco];exact h3
               ·exact ds_bad
              ·exact ds_bad
          | _=>exact gen
        | _=>exact gen
      | _=>exact gen
    | _=>exact gen
 | If c a b _=>exact ds_if (S.t O _) (ihss O _) (ihss O _)
 | For tg it body els _ =>
  cases els with
  | cons _ _=>exact ds_bad
  | nil =>
   delta iSb
   dsimp only;split
   ·exact ds_bad
   ·rename_i h;split
    ·rename_i ws g eg;refine ds_for ?_ O.calm (S.i O _ _) (O.target eg) (ihss O _) (set_ok (by simpa using h));rw [O.xe];exact PassesOwn.never
    ·exact ds_bad
 | _=>exact ds_bad
theorem sndS (G:Gb) (n:Nat):(∀ {X:Cx}{k:Nat}{sc:SC},XOk X k G sc->∀ s,DS X s (iS G n sc s))/\(∀ {X:Cx}{k:Nat}{sc:SC},XOk X k G sc->∀ ss,DSs X ss (iSs G n sc ss)):=by
 induction n with
 | zero=>exact ⟨fun _ _=>ds_bad,fun _ _ _ _ _ _ _ _ h=>by obtain ⟨_,_,_,_,_,_,e,_⟩:=h;cases e⟩
 | succ n ih =>
  refine ⟨fun {X k sc} O s=>sndSb G n (fun O ss=>ih.2 O ss) O s,fun {X k sc} O ss=>?_⟩;cases ss with
  | nil=>exact dss_nil
  | cons s r=>exact dss_cons (ih.1 O s) (ih.2 O r)
theorem fn_ok {P:Program}{w:World}{K:PySem.W.Frag}{mg:Str->Option Value}{base:Heap}{k:Nat}{G:Gb}{x qual:Str}{st:Stmt}{f:Addr}{fd:FuncData}{I:FnI}(g:GOk P w K mg base k G) (F:Fun K x qual st f fd) (S:FnScope I.N I.ps (defScope st))
  (hs:I.scope=defScope st) (hb:I.body=defBody st) (n:Nat):FnOk P w K mg base CX0 (k+3) f fd I.ps (spD K I.ps.length (runF G n I)):=by
 refine F.ok S (fun vs H Q E h=>h.1) fun cdv A outer s H vs Q E hr h=>?_
 obtain ⟨hl,ρ,mh,ds,d,mh',q,rs,r,co⟩:=h;refine ⟨_,(sndS G n).2 (sc:={ N:=I.N,scope:=I.scope,own:=fun _=>true }) ⟨rfl,S.nd,hs.symm,fun _ _ _=>.inl rfl,rfl,rfl,hr,g⟩ (defBody st),?_⟩;unfold runF at q;split at q
 ·split at q
  ·rename_i d' loc' m' e;cases q;exact ⟨_,mh,ρ,.rt d,loc',mh',by rw [← hb];exact e,start_rl r,rs,co⟩
  ·rename_i loc' m' e;cases q;exact ⟨_,mh,ρ,.nx,loc',mh',by rw [← hb];exact e,start_rl r,rs,fun H' ρ' σ' e' rs' _=>co H' ρ' _ e' rs' .non⟩
  ·cases q
 ·cases q
theorem runF_len {G:Gb}{n:Nat}{I:FnI}{ds:List D}{mh:MH}{r:D×MH}(h:runF G n I ds mh=some r):ds.length=I.ps.length:=by
 unfold runF at h;split at h
 ·assumption
 ·cases h
noncomputable def FnRow (K:PySem.W.Frag) (mg:Str->Option Value) (x:Str) (I:FnI):Prop:=∃ (qual:Str) (st:Stmt) (f:Addr) (fd:FuncData),mg x=some (.ref f)/\Fun K x qual st f fd/\FnScope I.N I.ps (defScope st)/\I.scope=defScope st/\I.body=defBody st/\∀ us:List Value,us.length=I.ps.length->bindArgs fd ⟨us,[]⟩=pure (I.ps.zip us)
noncomputable def ConRow (K:PySem.W.Frag) (mg:Str->Option Value) (x:Str) (d:D):Prop:=∃ u v,mg x=some u/\RelV v u/\∀ H ρ,RD K H ρ d v
structure TbOk (w:World) (K:PySem.W.Frag) (mg:Str->Option Value) (T:Tb):Prop where
 fn:∀ x I,T.tb x=some I->∃ (qual:Str) (st:Stmt) (f:Addr) (fd:FuncData),mg x=some (.ref f)/\Fun K x qual st f fd/\FnScope I.N I.ps (defScope st)/\I.scope=defScope st/\I.body=defBody st/\∀ us:List Value,us.length=I.ps.length->bindArgs fd ⟨us,[]⟩=pure (I.ps.zip us)
 con:∀ x d,T.con x=some d->∃ u v,mg x=some u/\RelV v u/\∀ H ρ,RD K H ρ d v
 blt:∀ b∈bltNames,mg b=none
 dic:∀ x kvs,T.dic x=some kvs->∃ a,mg x=some (.ref a)/\DicOk w K a kvs
 fld:∀ c f,T.fld c f=true->∃ C,PySem.W.nsIn K mainGlobals c=some (some (.ref C))/\Cls K C/\NoAttr K C f
 met:∀ c m I,T.tbm c m=some I->∃ (qual:Str) (st:Stmt) (C f:Addr) (fd:FuncData),PySem.W.nsIn K mainGlobals c=some (some (.ref C))/\Cls K C/\Meth K C m f/\Fun K m qual st f fd/\FnScope I.N I.ps (defScope st)/\I.scope=defScope st/\I.body=defBody st/\∀ us:List Value,us.length=I.ps.length->bindArgs fd ⟨us,[]⟩=pure (I.ps.zip us)
 mkr:∀ c f,T.mkr c=some f->∃ C fa fd ps,PySem.W.nsIn K mainGlobals c=some (some (.ref C))/\Mk K C fa/\mg c=some (.ref C)/\Binds K fd ps []/\∀ (P:Program) (w:World) (base:Heap),FnOk P w K mg base CX0 1 fa fd ps (spI C f)
 lam:∀ x y,T.lam x=some y->x = "pattern_of"/\∀ I,T.tb x=some I->∃ (st:Stmt) (f:Addr) (fd:FuncData) (a:Str),mg x=some (.ref f)/\Fun K x x st f fd/\PySem.W.nsIn K mainGlobals x=some (some (.ref f))/\I.ps=[a]/\FnScope I.N [a] (defScope st)/\LamDef st a y/\∀ us:List Value,us.length=I.ps.length->bindArgs fd ⟨us,[]⟩=pure (I.ps.zip us)
theorem gok {P:Program}{w:World}{K:PySem.W.Frag}{mg:Str->Option Value}{base:Heap}{T:Tb}(O:TbOk w K mg T) (k:Nat):GOk P w K mg base k (GkN T k):=by
 induction k with
 | zero=>exact ⟨fun x ps f h=>(by cases h),O.con,O.blt,O.dic,O.fld,fun c m ps g h=>(by cases h),fun c f h=>by
   obtain ⟨C,fa,fd,ps,h1,h2,h3,h4,h5⟩:=O.mkr c f h
   exact ⟨C,fa,fd,ps,h1,h2,h3,h4,h5 _ _ _⟩⟩
 | succ k ih =>
  refine ⟨fun x ps f h=>?_,O.con,O.blt,O.dic,O.fld,fun c m ps g h=>?_,fun c f h=>by
   obtain ⟨C,fa,fd,ps,h1,h2,h3,h4,h5⟩:=O.mkr c f h
   exact ⟨C,fa,fd,ps,h1,h2,h3,h4,h5 _ _ _⟩⟩
  ·simp only [GkN] at h;split at h
   ·rename_i I eI;cases h;obtain ⟨qual,st,fa,fd,h1,h2,h3,h4,h5,h6⟩:=O.fn x I eI;cases ey:T.lam x with
    | some y =>
     have e:lamOr T (GkN T k) x (runF (GkN T k) fuel I)=lamF (GkN T k) y:=by unfold lamOr;rw [ey]
     rw [e];obtain ⟨rfl,z⟩:=O.lam x y ey;obtain ⟨st,f',fd',a,l1,l2,l3,l4,l5,l6,l7⟩:=z I eI;refine ⟨f',fd',l1,l2.kp,.all l7,?_,fun ds mh r hr=>?_⟩
     ·rw [l4];exact lam_ok ih l2 l3 l5 l6
     ·rw [l4];unfold lamF at hr;split at hr
      ·rfl
      ·cases hr
    | none =>
     have e:lamOr T (GkN T k) x (runF (GkN T k) fuel I)=runF (GkN T k) fuel I:=by unfold lamOr;rw [ey]
     rw [e];exact ⟨fa,fd,h1,h2.kp,.all h6,fn_ok ih h2 h3 h4 h5 fuel,fun ds mh r hr=>runF_len hr⟩
   ·cases h
  ·simp only [GkN] at h;split at h
   ·rename_i I eI;cases h;obtain ⟨qual,st,C,fa,fd,g1,g2,g3,h2,h3,h4,h5,h6⟩:=O.met c m I eI;exact ⟨C,fa,fd,g1,g2,g3,.all h6,fn_ok ih h2 h3 h4 h5 fuel,fun ds mh r hr=>runF_len hr⟩
   ·cases h
noncomputable def mkFn (st:Stmt):FnI :=
  { ps:=(defArgs st).args.map (·.arg),
    N:=(defArgs st).args.map (·.arg)++(((defScope st).names.filter fun p=>(match p.2 with | .local=>true | .cell=>true | _=>false)).map (·.1)).filter (fun x=>!((defArgs st).args.map (·.arg)).contains x),
    scope:=defScope st,body:=defBody st }
end DL
namespace DL
open PySem L2
noncomputable def vr (i:Nat):DM D:=fun loc mh=>match loc[i]? with | some (some d)=>some (d,mh) | _=>none
noncomputable abbrev subD:=iop (fun _ _=>true) fun i j=>i - j
noncomputable abbrev mulD:=mulD2 (lmulD (iop cmulB fun i j=>i * j))
noncomputable abbrev fdivD:=iop (fun _ j=>decide (j≠0)&&decide (j.natAbs < 10889035741470030830827987437816582766592)) fun i j=>i.fdiv j
noncomputable abbrev modD:=iop (fun _ j=>decide (j≠0)) fun i j=>i.fmod j
noncomputable abbrev powD:=iop (fun i j=>decide (0<=j)&&(decide (j<=1000000)&&decide (i.natAbs < 2 ^ 64))) fun i j=>i ^ j.toNat
noncomputable abbrev shlD:=iop (fun i j=>decide (0<=j)&&(decide (j<=1000000)&&decide (i.natAbs < 2 ^ 64))) fun i j=>i * 2 ^ j.toNat
noncomputable abbrev bxorD:=iop (fun _ _=>true) Builtin.bitXor
noncomputable abbrev ltD:=icmp fun i j=>decide (i < j)
noncomputable abbrev leD:=icmp fun i j=>decide (i<=j)
noncomputable abbrev gtD:=icmp fun i j=>decide (j < i)
noncomputable def negM (m:DM D):DM D:=m.bnd fun x=>Zl (negD x)
noncomputable def notV (m:DM D):DM D:=(boolD m).bnd fun c=>Zr (.bl (!c))
noncomputable def tupM (mr:DM (List D)):DM D:=mr.bnd fun ds=>Zl (mkTup ds)
noncomputable def lstM (mr:DM (List D)):DM D:=mr.bnd fun ds=>Zl (mkLst ds)
noncomputable def revM (m:DM D):DM D:=m.bnd fun x=>Zl (revD x)
noncomputable def calM (f:Fn) (mr:DM (List D)):DM D:=mr.bnd fun ds=>Zl (f ds)
theorem ln0 {f:List Value->Prop}(h:f []) (us:List Value) (e:us.length=0):f us:=by
 cases us with
 | nil=>exact h
 | cons _ _=>cases e
theorem ln1 {f:List Value->Prop}(h:∀ a,f [a]) (us:List Value) (e:us.length=1):f us:=by
 cases us with
 | nil=>cases e
 | cons a r=>exact ln0 (f:=fun r=>f (a::r)) (h a) r (Nat.succ.inj e)
theorem ln2 {f:List Value->Prop}(h:∀ a b,f [a,b]) (us:List Value) (e:us.length=2):f us:=by
 cases us with
 | nil=>cases e
 | cons a r=>exact ln1 (f:=fun r=>f (a::r)) (h a) r (Nat.succ.inj e)
theorem ln3 {f:List Value->Prop}(h:∀ a b c,f [a,b,c]) (us:List Value) (e:us.length=3):f us:=by
 cases us with
 | nil=>cases e
 | cons a r=>exact ln2 (f:=fun r=>f (a::r)) (h a) r (Nat.succ.inj e)
theorem ln4 {f:List Value->Prop}(h:∀ a b c d,f [a,b,c,d]) (us:List Value) (e:us.length=4):f us:=by
 cases us with
 | nil=>cases e
 | cons a r=>exact ln3 (f:=fun r=>f (a::r)) (h a) r (Nat.succ.inj e)
theorem walkX_of {q:Program}{loose:List Str}{XP:(Str->Option Value)->Heap->Prop}{K:Params->PySem.W.Frag}{as:List Addr}{n t:Nat}{r:PySem.W.RowW}{d:DefRec}{kwd:List (Str×Expr)}{run:Value->List Value->Sem Value}
  (e:∀ P,as=(K P).map (·.1)) (h:PySem.W.WalkO q loose XP (fun w h=>(K w.params).In h) r d kwd run):PySem.W.WalkX q loose XP (PySem.W.X.obsZ as) (PySem.W.X.valZ K n t) r d kwd run :=
 fun w s₀ s₁ mg mb G y a o pm cd doc dV kV h1 h2 h3 h4 h5 h6 args vals as' L hpre hlay hrd hwl hlo =>
  h w s₀ s₁ mg mb G (PySem.W.InK.keeps w s₀.heap s₁.heap (PySem.W.X.z_facts e y).2.1 L.keeps) a o pm cd doc dV kV h1 h2 h3 h4 h5 h6 args vals as' hpre hlay hrd hwl hlo
noncomputable def FnsIn (K:PySem.W.Frag):List (Str×Stmt)->Prop
 | []=>True
 | r::L=>(∃ (f:Addr) (fd:FuncData),PySem.W.nsIn K mainGlobals r.1=some (some (.ref f))/\Fun K r.1 r.1 r.2 f fd)/\FnsIn K L
theorem fns_cons {K:PySem.W.Frag}{x:Str}{st:Stmt}{L:List (Str×Stmt)}{f:Addr}{oc:Value}{od an:Option Addr}{osl:Array (Option Value)}{kV doc pm cdv ct:Value}(a:PySem.W.nsIn K mainGlobals x=some (some (.ref f)))
  (l:K.lookup f=some ⟨oc,od,.func (PySem.W.fnOf x x (defArgs st) (defBody st) (defScope st) .none kV doc pm an cdv ct),osl⟩)
  (c:PySem.W.codeIn K cdv x=true) (k:PySem.W.keepIn K (.ref f)=true) (q:FnsIn K L):FnsIn K ((x,st)::L):=⟨⟨f,_,a,fun_mk l c k⟩,q⟩
noncomputable def StOk (x:Str) (st:Stmt):Prop:=FnScope (mkFn st).N (mkFn st).ps (defScope st)/\∀ (kV doc pm:Value) (an:Option Addr) (cdv ct:Value) (us:List Value),us.length=(mkFn st).ps.length->bindArgs (PySem.W.fnOf x x (defArgs st) (defBody st) (defScope st) .none kV doc pm an cdv ct) ⟨us,[]⟩=pure ((mkFn st).ps.zip us)
theorem st_ok {x:Str}{st:Stmt}(s:FnScope (mkFn st).N (mkFn st).ps (defScope st)) (b:∀ (kV doc pm:Value) (an:Option Addr) (cdv ct:Value) (us:List Value),us.length=(mkFn st).ps.length->bindArgs (PySem.W.fnOf x x (defArgs st) (defBody st) (defScope st) .none kV doc pm an cdv ct) ⟨us,[]⟩=pure ((mkFn st).ps.zip us)):StOk x st:=⟨s,b⟩
noncomputable def StsOk:List (Str×Stmt)->Prop
 | []=>True
 | r::L=>StOk r.1 r.2/\StsOk L
theorem fn_rows {K:PySem.W.Frag}{h:Heap}{mg:Str->Option Value}(X:K.In h) (G:h.Ns mainGlobals mg) {x:Str}{I:FnI}:∀ {L:List (Str×Stmt)},FnsIn K L->StsOk L->(L.lookup x).map mkFn=some I->FnRow K mg x I
 | [],_,_,e=>by cases e
 | (y,st)::L,⟨⟨f,fd,a,F⟩,q⟩,⟨s,t⟩,e=>by
  simp only [List.lookup] at e;split at e
  ·rename_i hy;rw [eq_of_beq hy];cases e;refine ⟨y,st,f,fd,PySem.W.mg_of X G a,F,s.1,rfl,rfl,fun us hu=>?_⟩;obtain ⟨oc,od,kV,doc,pm,an,cdv,ct,osl,rfl,_⟩:=F.ex;exact s.2 kV doc pm an cdv ct us hu
  ·exact fn_rows X G q t e
noncomputable def ConIn (K:PySem.W.Frag):List (Str×D)->Prop
 | []=>True
 | r::L=>(∃ u,PySem.W.nsIn K mainGlobals r.1=some (some u)/\rdV K 60 u=some r.2)/\ConIn K L
theorem con_cons {K:PySem.W.Frag}{x:Str}{d:D}{L:List (Str×D)}{u:Value}(a:PySem.W.nsIn K mainGlobals x=some (some u)) (b:rdV K 60 u=some d) (q:ConIn K L):ConIn K ((x,d)::L):=⟨⟨u,a,b⟩,q⟩
theorem con_rows {K:PySem.W.Frag}{h:Heap}{mg:Str->Option Value}(X:K.In h) (G:h.Ns mainGlobals mg) {x:Str}{d:D}:∀ {L:List (Str×D)},ConIn K L->L.lookup x=some d->ConRow K mg x d
 | [],_,e=>by cases e
 | (y,d')::L,⟨⟨u,a,b⟩,q⟩,e=>by
  simp only [List.lookup] at e;split at e
  ·rename_i hy;rw [eq_of_beq hy];cases e;obtain ⟨v,r1,r2⟩:=rdV_ok 60 b;exact ⟨u,v,PySem.W.mg_of X G a,r1,r2⟩
  ·exact con_rows X G q e
noncomputable def BltIn (K:PySem.W.Frag):List Str->Prop
 | []=>True
 | b::L=>PySem.W.nsIn K mainGlobals b=some none/\BltIn K L
theorem blt_cons {K:PySem.W.Frag}{b:Str}{L:List Str}(a:PySem.W.nsIn K mainGlobals b=some none) (q:BltIn K L):BltIn K (b::L):=⟨a,q⟩
theorem blt_rows {K:PySem.W.Frag}{h:Heap}{mg:Str->Option Value}(X:K.In h) (G:h.Ns mainGlobals mg):∀ {L:List Str},BltIn K L->∀ b∈L,mg b=none
 | _::_,⟨a,_⟩,_,.head _=>PySem.W.mg_none_of X G a
 | _::_,⟨_,q⟩,b,.tail _ m=>blt_rows X G q b m
end DL
namespace L2
open PySem PySem.Spec PyProof.Rows
theorem law_callL {P:Program}{w:World}{K:PySem.W.Frag}{mg mb:Str->Option Value}{CX:CXT}{k:Nat}{fa a pl:Addr}{fd:FuncData}{x:Str}{sp:Sp}{s₁:Shared}{vs:List Value}{ns:List Int}
  (KX:K.In s₁.heap) (kp:K.lookup pl=none) (hpl:s₁.heap.get? pl=some (PySem.W.tabObj #[])) (ct:isCodeTable s₁.heap pl)
  (hns:s₁.heap.Ns mainGlobals mg) (hb:s₁.heap.Ns builtinsNs mb) (hbb:∀ x:Str,x ≠ "__name__"->mb x=bootBuiltins x) (hlim:s₁.heap.NoLimit) (hg:s₁.gens=#[])
  (ha:s₁.heap.get? a=some { cls:=.type "list",data:=.seq vs.toArray }) (hi:IntsAre vs ns) (hl:ns.length<=sizeLine) (hr:Room k callerA)
  (F:∀ base:Heap,K.In base->base.Ns mainGlobals mg->FnOk P w K mg base CX k fa fd [x] sp) (hbind:∀ (s:Shared) (u:Value),BindsTo s fd ⟨[u],[]⟩ [(x,u)])
  (hsp:∀ H:Hp,H pl=some (.tbl #[])->((∃ o,H a=some (.frz o (.lst (ns.map V.int))))\/∃ (o:Obj) (its:Array Value) (n:Nat),K.lookup a=some o/\o.cls=.type "list"/\o.dict=none/\o.data=.seq its n/\its.size<=sizeLine/\Vals (ns.map V.int) its.toList)->sp [.ref a] H (fun v _=>v=.bl true) fun _ _ _=>False)
  (hCX:∀ H e s',CX [] H s₁ (fun _ _ _=>False) e s'->False) :
  codeAny (model P w) callerA (.call (.ref fa) ⟨[.ref a],[]⟩) (fun r s'=>r=.ok (.ret (.bool true))/\OldK s₁.heap s'.heap/\s'.os=s₁.os/\AllBare s'.gens) s₁:=by
 have rv:=vals_ints hi;have lenV:=hi.length;have hap:a≠pl:=fun z=>by rw [z,hpl] at ha;cases ha
 have core:∀ H:Hp,H pl=some (.tbl #[])->(H a=none\/H a=some (.frz { cls:=.type "list",data:=.seq vs.toArray } (.lst (ns.map V.int))))->(∀ b,b≠a->b≠pl->H b=none)->(H a≠none->K.lookup a=none) ->
   ((∃ o,H a=some (.frz o (.lst (ns.map V.int))))\/∃ (o:Obj) (its:Array Value) (n:Nat),K.lookup a=some o/\o.cls=.type "list"/\o.dict=none/\o.data=.seq its n/\its.size<=sizeLine/\Vals (ns.map V.int) its.toList) ->
   codeAny (model P w) callerA (.call (.ref fa) ⟨[.ref a],[]⟩) (fun r s'=>r=.ok (.ret (.bool true))/\OldK s₁.heap s'.heap/\s'.os=s₁.os/\AllBare s'.gens) s₁:=by
  intro H hP hA hO hK hS;have hok:HOk P w H s₁.heap:=fun b u z=>by
   by_cases b1:b=a
   ·subst b1;rcases hA with q|q
    ·rw [q] at z;cases z
    ·rw [q] at z;cases z;exact ⟨ha,by rw [List.length_map];exact hl,vs,_,rv,ha⟩
   ·by_cases b2:b=pl
    ·subst b2;rw [hP] at z;cases z;exact hpl
    ·rw [hO b b1 b2] at z;cases z
  have base_of:∀ {b:Addr} {o:Obj},s₁.heap.get? b=some o->H b=none->(hidT s₁.heap H).get? b=some o:=fun e n=>hidT_get e n
  have noA:∀ {b:Addr} {o:Obj} {es:Array DictEntry} {ep:Nat},s₁.heap.get? b=some o->o.data=.dict es ep->H b=none:=fun {b o es ep} e d=>by
   refine hO b (fun z=>?_) fun z=>?_
   ·subst z;rw [ha] at e;cases e;have d':Data.seq vs.toArray _=Data.dict es ep:=d;cases d'
   ·subst z;rw [hpl] at e;cases e;have d':Data.fields #[]=Data.dict es ep:=d;cases d'
  have nsK:∀ {b:Addr} {m:Str->Option Value},s₁.heap.Ns b m->(hidT s₁.heap H).Ns b m:=fun {b m} ⟨o,es,ep,e,d,r⟩=>⟨o,es,ep,base_of e (noA e d),d,r⟩
  have hKb:K.In (hidT s₁.heap H):=fun b o e=>base_of (KX b o e) (by
   by_cases b1:b=a
   ·subst b1;cases q:H b with
    | none=>rfl
    | some u=>rw [hK (by rw [q];simp)] at e;cases e
   ·exact hO b b1 fun z=>by subst z;rw [kp] at e;cases e)
  have hM:Mod K mg (hidT s₁.heap H):=⟨hKb,nsK hns,⟨mb,nsK hb,hbb⟩,let ⟨mc,h1,h2⟩:=hlim;⟨mc,nsK h1,h2⟩⟩;have e0:Env0 P w K mg (hidT s₁.heap H) callerA [] s₁ H:=⟨rfl,hM,fun b o e=>of_hidT e,Nat.le_of_eq (hidT_size _ _),trivial,fun b hb=>absurd (show b∈([]:List Addr) from hb) (by simp),hok,.of_eq hg⟩;refine codeAny_mono ((F _ hKb (nsK hns)).run callerA [] s₁ H ⟨[.ref a],[]⟩ [.ref a] [.ref a] _ _ hr e0 (hbind s₁ (.ref a)) (.cons rfl .nil) (hsp H hP hS)) fun r s' h=>?_
  cases r with
  | error e=>exact (hCX H e s' h).elim
  | ok fl =>
   cases fl with
   | next=>exact False.elim h
   | brk=>exact False.elim h
   | cont=>exact False.elim h
   | ret u =>
    obtain ⟨v,H',os,bare,un,hok',r',q⟩:=h;have q':v=.bl true:=q;subst q';obtain rfl:u=Value.bool true:=r';obtain ⟨more,hm⟩:=un.tbls pl _ hP;have pl':s'.heap.get? pl=some (PySem.W.tabObj (#[]++more)):=hok' pl _ hm;have keep:∀ b o,b≠pl->s₁.heap.get? b=some o->s'.heap.get? b=some o:=fun b o n e=>by
     by_cases b1:b=a
     ·subst b1;rcases hA with z|z
      ·exact un.keep b o e z (by intro z;exact absurd (show b∈([]:List Addr) from z) (by simp)) (by simp)
      ·have z2:=un.frzs b _ _ z;obtain ⟨e1,_⟩:=hok b _ z;obtain ⟨e2,_⟩:=hok' b _ z2;rw [e] at e1;cases e1;exact e2
     ·exact un.keep b o e (hO b b1 n) (by intro z;exact absurd (show b∈([]:List Addr) from z) (by simp)) (by simp)
    refine ⟨rfl,⟨fun b o e=>?_,fun b o e=>?_⟩,os,bare⟩
    ·by_cases z:b=pl
     ·subst z;rw [hpl] at e;cases e;exact .inr (.inl ⟨ct,rfl,#[],more,rfl,pl'⟩)
     ·exact .inl (keep b o z e)
    ·by_cases z:b=pl
     ·subst z;exact ⟨_,pl'⟩
     ·exact ⟨o,keep b o z e⟩
 cases hk:K.lookup a with
 | some o =>
  have e:=KX a o hk;rw [ha] at e;cases e;exact core (fun b=>if b=pl then some (.tbl #[]) else none) (if_pos rfl) (.inl (if_neg hap)) (fun b _ z=>if_neg z) (fun z=>absurd (if_neg hap) z) (.inr ⟨_,vs.toArray,_,hk,rfl,rfl,rfl,by rw [List.size_toArray,lenV];exact hl,by simpa using rv⟩)
 | none =>
  exact core (fun b=>if b=pl then some (.tbl #[]) else if b=a then some (.frz { cls:=.type "list",data:=.seq vs.toArray } (.lst (ns.map V.int))) else none) (if_pos rfl) (.inr (by simp only [if_neg hap,if_pos])) (fun b y z=>by simp only [if_neg z,if_neg y]) (fun _=>hk) (.inl ⟨_,by simp only [if_neg hap,if_pos];rfl⟩)
end L2
namespace DL
open PySem L2
noncomputable def cut (pl:Addr) (K:PySem.W.Frag):PySem.W.Frag:=K.filter fun q=>q.1 != pl
theorem cut_lookup {pl a:Addr}:∀ {K:PySem.W.Frag},(cut pl K).lookup a=if a=pl then none else K.lookup a
 | []=>by unfold cut;simp
 | (b,o)::K=>by
  have ih:=cut_lookup (pl:=pl) (a:=a) (K:=K);unfold cut at ih ⊢;rw [List.filter_cons]
  by_cases hb:b=pl
  ·subst hb;rw [if_neg (by simp),ih]
   by_cases ha:a=b
   ·rw [if_pos ha,if_pos ha]
   ·rw [if_neg ha,if_neg ha,List.lookup_cons];have:(a==b)=false:=by simpa using ha
    rw [this]
  ·rw [if_pos (by simpa using hb),List.lookup_cons,List.lookup_cons]
   by_cases ha:a=b
   ·subst ha;simp [hb]
   ·have:(a==b)=false:=by simpa using ha
    rw [this];exact ih
section
variable {pl:Addr}{K:PySem.W.Frag}(hp:K.lookup pl=some (PySem.W.tabObj #[]))
theorem cut_in {h:Heap}(X:K.In h):(cut pl K).In h:=fun a o e=>by
 rw [cut_lookup] at e;split at e
 ·cases e
 ·exact X a o e
include hp
theorem cut_at {a:Addr}{o:Obj}(e:K.lookup a=some o) (n:o.data≠.fields #[]):(cut pl K).lookup a=some o:=by
 rw [cut_lookup,if_neg,e];intro z;subst z;rw [hp] at e;cases e;exact n rfl
theorem cut_ns {x:Str}{r:Option Value}(e:PySem.W.nsIn K mainGlobals x=some r):PySem.W.nsIn (cut pl K) mainGlobals x=some r:=by
 unfold PySem.W.nsIn at e ⊢;split at e
 ·rename_i hk;rw [cut_at hp hk (by intro z;cases z)];exact e
 ·cases e
theorem cut_code {v:Value}{q:Str}(e:PySem.W.codeIn K v q=true):PySem.W.codeIn (cut pl K) v q=true:=by
 unfold PySem.W.codeIn at e ⊢;split at e
 ·split at e
  ·rename_i vs _ hk;rw [cut_at hp hk (by intro z;injection z with z;subst z;simp at e)];exact e
  ·cases e
 ·cases e
theorem cut_codeHd {c a:Addr}(e:PySem.W.codeHdIn K c a=true):PySem.W.codeHdIn (cut pl K) c a=true:=by
 unfold PySem.W.codeHdIn at e ⊢;split at e
 ·rename_i vs _ hk;rw [cut_at hp hk (by intro z;injection z with z;subst z;simp at e)];exact e
 ·cases e
theorem cut_fun {x q:Str}{st:Stmt}{f:Addr}{fd:FuncData}(F:Fun K x q st f fd):Fun (cut pl K) x q st f fd:=by
 obtain ⟨⟨oc,od,kV,doc,pm,an,cdv,ct,osl,e,lk,hcd⟩,kp⟩:=F;have l2:=cut_at hp lk (by intro z;cases z);refine ⟨⟨oc,od,kV,doc,pm,an,cdv,ct,osl,e,l2,cut_code hp hcd⟩,?_⟩;unfold PySem.W.keepIn;simp only [l2]
theorem cut_fns:∀ {L:List (Str×Stmt)},FnsIn K L->FnsIn (cut pl K) L
 | [],_=>trivial
 | _::_,⟨⟨f,fd,a,F⟩,q⟩=>⟨⟨f,fd,cut_ns hp a,cut_fun hp F⟩,cut_fns q⟩
theorem cut_blt:∀ {L:List Str},BltIn K L->BltIn (cut pl K) L
 | [],_=>trivial
 | _::_,⟨a,q⟩=>⟨cut_ns hp a,cut_blt q⟩
mutual
theorem cut_rdV:∀ (n:Nat) {u:Value}{d:D},rdV K n u=some d->rdV (cut pl K) n u=some d
 | n,.none,d,h=>by cases n <;> (simp only [rdV] at h ⊢;exact h)
 | n,.bool b,d,h=>by cases n <;> (simp only [rdV] at h ⊢;exact h)
 | n,.int i t,d,h=>by cases n <;> (simp only [rdV] at h ⊢;exact h)
 | n,.str x t,d,h=>by cases n <;> (simp only [rdV] at h ⊢;exact h)
 | 0,.ref a,d,h=>by simp only [rdV] at h;cases h
 | n+1,.ref a,d,h=>by
  simp only [rdV] at h ⊢;split at h
  ·rename_i c its ep sl hk;rw [cut_at hp hk (by intro z;cases z)];dsimp only;split at h
   ·rename_i hc;rw [if_pos hc];split at h
    ·rename_i ds hd;rw [cut_rdVs n hd];exact h
    ·cases h
   ·cases h
  ·cases h
 | n,.float _ _,d,h=>by cases n <;> (simp only [rdV] at h;cases h)
 | n,.bytes _ _,d,h=>by cases n <;> (simp only [rdV] at h;cases h)
 | n,.ellipsis,d,h=>by cases n <;> (simp only [rdV] at h;cases h)
 | n,.notImplemented,d,h=>by cases n <;> (simp only [rdV] at h;cases h)
 | n,.type _,d,h=>by cases n <;> (simp only [rdV] at h;cases h)
 | n,.builtin _,d,h=>by cases n <;> (simp only [rdV] at h;cases h)
theorem cut_rdVs:∀ (n:Nat) {us:List Value}{ds:List D},rdVs K n us=some ds->rdVs (cut pl K) n us=some ds
 | n,[],ds,h=>by cases n <;> (simp only [rdVs] at h ⊢;exact h)
 | 0,_::_,ds,h=>by simp only [rdVs] at h;cases h
 | n+1,u::r,ds,h=>by
  simp only [rdVs] at h ⊢;split at h
  ·rename_i d hd;rw [cut_rdV n hd];dsimp only;split at h
   ·rename_i ds2 hd2;rw [cut_rdVs n hd2];exact h
   ·cases h
  ·cases h
end
theorem cut_con:∀ {L:List (Str×D)},ConIn K L->ConIn (cut pl K) L
 | [],_=>trivial
 | _::_,⟨⟨u,a,b⟩,q⟩=>⟨⟨u,cut_ns hp a,cut_rdV hp 60 b⟩,cut_con q⟩
theorem cut_plc (h:PlcK K pl):PlcK (cut pl K) pl:=by
 obtain ⟨f,o,fd,c,bm,ob,n1,n2,n3,n4,n5,b1,b2,b3,b4,b5,b6⟩:=h;exact ⟨f,o,fd,c,bm,ob,cut_ns hp n1,cut_at hp n2 (by rw [n3];intro z;cases z),n3,n4,cut_codeHd hp n5,cut_ns hp b1,cut_at hp b2 (by rw [b5];intro z;cases z),b3,b4,b5,b6⟩
end
theorem lam_row {K:PySem.W.Frag}{h:Heap}{mg:Str->Option Value}(X:K.In h) (G:h.Ns mainGlobals mg) {x a y:Str}{st:Stmt}{I:FnI}(ps:(mkFn st).ps=[a]) (D:LamDef st a y):∀ {L:List (Str×Stmt)},FnsIn K L->StsOk L->L.lookup x=some st->(L.lookup x).map mkFn=some I ->
  ∃ (st:Stmt) (f:Addr) (fd:FuncData) (a:Str),mg x=some (.ref f)/\Fun K x x st f fd/\PySem.W.nsIn K mainGlobals x=some (some (.ref f))/\I.ps=[a]/\FnScope I.N [a] (defScope st)/\LamDef st a y/\∀ us:List Value,us.length=I.ps.length->bindArgs fd ⟨us,[]⟩=pure (I.ps.zip us)
 | [],_,_,e,_=>by cases e
 | (z,st')::L,⟨⟨f,fd,n,F⟩,q⟩,⟨s,t⟩,e,e2=>by
  simp only [List.lookup] at e e2;split at e
  ·rename_i hy;have hz:=eq_of_beq hy;subst hz;cases e;simp only [hy] at e2;cases e2;refine ⟨st,f,fd,a,PySem.W.mg_of X G n,F,n,ps,by rw [← ps];exact s.1,D,fun us hu=>?_⟩;obtain ⟨oc,od,kV,doc,pm,an,cdv,ct,osl,rfl,_⟩:=F.ex;exact s.2 kV doc pm an cdv ct us hu
  ·rename_i hy;simp only [hy] at e2;exact lam_row X G ps D q t e e2
theorem walkL {l:PySem.W.OpenLaw}{q:Program}{loose:List Str}{XP:(Str->Option Value)->Heap->Prop}{YP:World->Heap->Prop}{d:DefRec}{K:Params->PySem.W.Frag}{Tt:Tb}{I:FnI}{x:Str}(k:Nat)
  (hn:l.most=some 63) (hdf:d.params.defaults=[]) (hY:∀ (w:World) (h:Heap),YP w h->(K w.params).In h) (hr:Room (k+3) callerA)
  (hI:Tt.tb d.name=some I) (hps:I.ps=[x])
  (T:∀ (w:World) (mg:Str->Option Value) (h:Heap),(K w.params).In h->h.Ns mainGlobals mg->∃ pl,(K w.params).lookup pl=some (PySem.W.tabObj #[])/\PlcK (K w.params) pl/\TbOk w (cut pl (K w.params)) mg Tt)
  (main:∀ ns:List Int,ns.length<=63->∃ mh',runF (GkN Tt k) fuel I [.rol (ns.map D.int)] [.plc]=some (.bl true,mh')) :
  PySem.W.WalkO q loose XP YP l.row.toRowW d [] (fun f vs=>PySem.call f vs):=by
 refine Att.attach_call hn hdf fun w s₀ s₁ mg mb fa o pm cd doc a vs ns G Y ho hd hcd hmg hobj hints hlen hg=>?_
 have KX:=hY w _ Y;obtain ⟨pl,hp,pk,tb⟩:=T w mg _ KX G.T.g;have ck:=cut_in (pl:=pl) KX;obtain ⟨qual,st,f,fd,h1,h2,h3,h4,h5,h6⟩:=tb.fn _ _ hI;rw [hmg] at h1;cases h1;have ct:isCodeTable s₁.heap pl:=by
  obtain ⟨f,o,fd,c,bm,ob,n1,n2,n3,n4,n5,_⟩:=pk;obtain ⟨o,vs,_,_,_,_,_,_,_,e1,e2,e3,e4,_⟩:=PySem.W.codeHd_of_K KX n5;exact ⟨c,o,vs,e1,e2,e3,e4⟩
 refine L2.law_callL (x:=x) (k:=k+3) (CX:=CX0) (fd:=fd) (sp:=spD (cut pl (K w.params)) 1 (runF (GkN Tt k) fuel I)) ck (by rw [cut_lookup,if_pos rfl]) (KX _ _ hp) ct G.T.g G.T.b G.T.builtins G.T.nolimit hg hobj hints (Nat.le_trans hlen (by decide)) hr (fun base hKb hNb=>?_) (fun s u=>.of_eq ?_) (fun H hP hS=>?_) fun _ _ _ z=>z
 ·have:=fn_ok (P:=l.prog) (w:=w) (base:=base) (gok tb k) h2 h3 h4 h5 fuel;rw [hps] at this;exact this
 ·have:=h6 [u] (by rw [hps];rfl);rw [hps] at this;exact this
 ·obtain ⟨mh',e⟩:=main ns hlen;refine ⟨rfl,[pl],[.plc],[.rol (ns.map D.int)],.bl true,mh',e,⟨rfl,List.pairwise_singleton _ _,fun n a o e1 e2=>?_⟩,.cons (.rol hS (RDs.ints ns)) .nil,fun H' ρ' v _ _ r=>by cases r;rfl⟩;cases n with
  | zero =>
   cases e1;cases e2;exact ⟨#[],hP,trivial,fun pos v z=>(by cases z),cut_plc hp pk⟩
  | succ n=>cases e1
section
variable {loc:DL.Loc}{mh:MH}{ma mb:DM D}{mr:DM (List D)}{t u:DM Bool}{m1 m2:SM}
theorem vr_ap (i:Nat):vr i loc mh=(match loc[i]? with | some (some d)=>some (d,mh) | _=>none):=by kernel_rfl
theorem dop_ap (f:D->D->MH->Option (D×MH)):dop f ma mb loc mh=(match ma loc mh with | none=>none | some (x,h)=>(match mb loc h with | none=>none | some (y,h2)=>f x y h2)):=by kernel_rfl
theorem truM_ap:truM ma loc mh=(match ma loc mh with | none=>none | some (x,h)=>(match truD x h with | some k=>some (k,h) | none=>none)):=by kernel_rfl
theorem methM_ap (T:String) (f:D->List D->MH->Option (D×MH)):methM T f ma mr loc mh=(match ma loc mh with | none=>none | some (x,h)=>if tyOk T x h=true then (match mr loc h with | none=>none | some (ds,h2)=>f x ds h2) else none):=by kernel_rfl
theorem asgS_ap (g:GM):asgS ma g loc mh=(match ma loc mh with | some (d,h)=>(match g d loc h with | some (l,h')=>some (.nx,l,h') | none=>none) | none=>none):=by kernel_rfl
theorem ifS_ap:ifS t m1 m2 loc mh=(match t loc mh with | some (k,h)=>if k=true then m1 loc h else m2 loc h | none=>none):=by kernel_rfl
theorem retS_ap:retS ma loc mh=(match ma loc mh with | some (d,h)=>some (.rt d,loc,h) | none=>none):=by kernel_rfl
theorem dropS_ap:dropS ma loc mh=(match ma loc mh with | some (_,h)=>some (.nx,loc,h) | none=>none):=by kernel_rfl
theorem seqS_ap:seqS m1 m2 loc mh=(match m1 loc mh with | some (.nx,l,h)=>m2 l h | r=>r):=by kernel_rfl
theorem srcM_ap:srcM ma loc mh=(match ma loc mh with | none=>none | some (x,h)=>(match srcOf x h with | some s=>some (s,h) | none=>none)):=by kernel_rfl
theorem rngM_ap (f:List D->Option Src):rngM f mr loc mh=(match mr loc mh with | none=>none | some (ds,h)=>(match f ds with | some s=>some (s,h) | none=>none)):=by
 unfold rngM DM.bnd;cases mr loc mh with
 | none=>rfl
 | some p =>
  obtain ⟨ds,h⟩:=p;dsimp only;cases f ds <;> rfl
theorem partS_ap:partD (some ma) loc mh=(match ma loc mh with | some (.int i,h)=>some (some i,h) | _=>none):=by
 show (ma.bnd _) loc mh=_;unfold DM.bnd;cases ma loc mh with
 | none=>rfl
 | some p =>
  obtain ⟨x,h⟩:=p;cases x <;> rfl
end
theorem iop_ap (C:Int->Int->Bool) (g:Int->Int->Int) (i j:Int) (mh:MH):iop C g (.int i) (.int j) mh=if C i j=true then some (.int (g i j),mh) else none:=by kernel_rfl
theorem rng1_int {j:Int}(h0:0<=j) (h:j<=1000000):rng1 [.int j]=some (.seq (rangeL 0 j.toNat)):=by
 have e2:-(2 ^ 62)<=j/\j < 2 ^ 62:=by omega
 unfold rng1;dsimp only;rw [if_pos e2]
theorem rng1_nat {B:Nat}(h:B<=1000000):rng1 [.int B]=some (.seq (rangeL 0 B)):=by rw [rng1_int (by omega) (by omega),Int.toNat_natCast]
theorem rangeL_len (lo:Int) (n:Nat):(rangeL lo n).length=n:=by unfold rangeL;rw [List.length_map,List.length_range]
theorem le_size {n:Nat}(h:n<=1000000):n<=sizeLine:=by rw [sizeLine_eq];omega
theorem lt_size {n:Nat}(h:n<=1000000):n < sizeLine:=by rw [sizeLine_eq];omega
theorem mkTup_ok {ds:List D}{mh:MH}(h:ds.length<=1000000):mkTup ds mh=some (.tup ds,mh):=by unfold mkTup;rw [if_pos (le_size h)]
theorem mkLst_ok {ds:List D}{mh:MH}(h:ds.length<=1000000):mkLst ds mh=some (.ref mh.length,mh++[.lst ds]):=by unfold mkLst;rw [if_pos (le_size h)]
theorem appendD_ok {n:Nat}{ds:List D}{y:D}{mh:MH}(e:mh[n]?=some (.lst ds)) (h:ds.length<=1000000):appendD (.ref n) [y] mh=some (.non,mh.set n (.lst (ds++[y]))):=by
 simp only [appendD,e,if_pos (lt_size h)]
theorem addD_lst {n m:Nat}{xs ys:List D}{mh:MH}(e1:mh[n]?=some (.lst xs)) (e2:mh[m]?=some (.lst ys)) (h:xs.length+ys.length<=1000000):addD (.ref n) (.ref m) mh=some (.ref mh.length,mh++[.lst (xs++ys)]):=by
 simp only [addD,e1,e2,if_pos (le_size h)]
end DL
namespace DL
open PySem L2 PyProof.Rows
noncomputable abbrev natD (n:Nat):D:=.int (n:Int)
theorem bitOr_nat (a b:Nat):Builtin.bitOr (a:Int) (b:Int)=((a ||| b:Nat):Int):=by
 rw [bitOr_and,bitAnd_pp (by omega) (by omega)];have:=nat_or_add_and a b;simp only [Int.toNat_natCast];omega
theorem compD_ref {n:Nat}{ds:List D}{g:GM}{tc:DM Bool}{me:DM D}{loc:DL.Loc}{mh:MH}{p:D->Bool}{f:D->D}(hn:mh[n]?=some (.lst ds)) (step:∀ d∈ds,∃ l1,g d loc mh=some (l1,mh)/\tc l1 mh=some (p d,mh)/\(p d=true->me l1 mh=some (f d,mh))) :
  ∀ (k i:Nat) (acc:List D),i+k=ds.length->acc.length+k<=sizeLine->compD (.lref n) g tc me loc k i acc mh=some (acc++((ds.drop i).filter p).map f,mh)
 | 0,i,acc,e,_=>by
  have e:i=ds.length:=by omega
  subst e;have:Src.stop (.lref n) mh ds.length=true:=by simp [Src.stop,Src.ok,Src.items,hn]
  simp only [compD,this,if_true];simp
 | k+1,i,acc,e,hz=>by
  have hi:i < ds.length:=by omega
  obtain ⟨l1,e1,e2,e3⟩:=step ds[i] (List.getElem_mem hi);have eg:Src.get (.lref n) mh i=some ds[i]:=by simp [Src.get,Src.items,hn,hi]
  have ed:ds.drop i=ds[i]::ds.drop (i+1):=List.drop_eq_getElem_cons hi;simp only [compD,eg,e1,e2];cases hp:p ds[i] with
  | false =>
   simp only [Bool.false_eq_true,if_false];rw [compD_ref hn step k (i+1) acc (by omega) (by omega),ed,List.filter_cons_of_neg (by simp [hp])]
  | true =>
   simp only [if_true,e3 hp];rw [if_pos (by omega),compD_ref hn step k (i+1) (acc++[f ds[i]]) (by omega) (by rw [List.length_append,List.length_singleton];omega),ed,List.filter_cons_of_pos hp,List.map_cons,List.append_assoc];rfl
theorem compM_ref {mi:DM Src}{cs:List (Option Nat)}{n:Nat}{ds:List D}{g:GM}{tc:DM Bool}{me:DM D}{loc:DL.Loc}{mh mh0:MH}{p:D->Bool}{f:D->D}(hm:mi loc mh=some (.lref n,mh0)) (hn:mh0[n]?=some (.lst ds)) (hz:ds.length<=sizeLine)
  (step:∀ d∈ds,∃ l1,g d (capD cs loc) mh0=some (l1,mh0)/\tc l1 mh0=some (p d,mh0)/\(p d=true->me l1 mh0=some (f d,mh0))):compM mi cs g tc me loc mh=some (.ref mh0.length,mh0++[.lst ((ds.filter p).map f)]):=by
 unfold compM;rw [hm];have e0:(Src.items (.lref n) mh0).length=ds.length:=by simp [Src.items,hn]
 have:=compD_ref hn step ds.length 0 [] (by omega) (by simpa using hz);have e:compD (.lref n) g tc me (capD cs loc) (Src.items (.lref n) mh0).length 0 [] mh0=some (((ds.filter p).map f),mh0):=by
  rw [e0]
  simpa using this
 simp only [e]
end DL
namespace DL
open PySem L2
noncomputable def wD {α:Type}(m:DM α) (loc:DL.Loc) (mh:MH) (P:α->MH->Prop):Prop:=∃ a h,m loc mh=some (a,h)/\P a h
noncomputable def wV (r:Option (D×MH)) (P:D->MH->Prop):Prop:=∃ d h,r=some (d,h)/\P d h
noncomputable def wG (r:Option (DL.Loc×MH)) (P:DL.Loc->MH->Prop):Prop:=∃ l h,r=some (l,h)/\P l h
noncomputable def wS (m:SM) (loc:DL.Loc) (mh:MH) (P:Fl->DL.Loc->MH->Prop):Prop:=∃ f l h,m loc mh=some (f,l,h)/\P f l h
section
variable {loc:DL.Loc}{mh:MH}{ma mb mc:DM D}{mr:DM (List D)}{t u:DM Bool}{P:D->MH->Prop}{B:Bool->MH->Prop}
theorem wD_mono {α:Type}{m:DM α}{P Q:α->MH->Prop}(h:wD m loc mh P) (i:∀ a h,P a h->Q a h):wD m loc mh Q:=let ⟨a,h',e,p⟩:=h;⟨a,h',e,i a h' p⟩
theorem wD_vr {i:Nat}{d:D}(e:loc[i]?=some (some d)) (h:P d mh):wD (vr i) loc mh P:=⟨d,mh,by rw [vr_ap,e],h⟩
theorem wD_ret {α:Type}{a:α}{P:α->MH->Prop}(h:P a mh):wD (Zr a) loc mh P:=⟨a,mh,rfl,h⟩
theorem wD_bnd {α β:Type}{m:DM α}{f:α->DM β}{P:β->MH->Prop}(h:wD m loc mh fun a h1=>wD (f a) loc h1 P):wD (m.bnd f) loc mh P:=by
 obtain ⟨a,h1,e1,b,h2,e2,p⟩:=h;exact ⟨b,h2,by unfold DM.bnd;rw [e1];exact e2,p⟩
theorem wD_op {f:D->D->MH->Option (D×MH)}(h:wD ma loc mh fun x h1=>wD mb loc h1 fun y h2=>wV (f x y h2) P):wD (dop f ma mb) loc mh P:=wD_bnd (wD_mono h fun _ _ q=>wD_bnd (wD_mono q fun _ _ z=>z))
theorem wD_cons {P:List D->MH->Prop}(h:wD ma loc mh fun x h1=>wD mr loc h1 fun xs h2=>P (x::xs) h2):wD (dCons ma mr) loc mh P:=wD_bnd (wD_mono h fun _ _ q=>wD_bnd (wD_mono q fun _ _ z=>wD_ret z))
theorem wD_cal {f:Fn}(h:wD mr loc mh fun ds h1=>wV (f ds h1) P):wD (calM f mr) loc mh P:=wD_bnd (wD_mono h fun _ _ q=>q)
theorem wD_tup (h:wD mr loc mh fun ds h1=>ds.length<=1000000/\P (.tup ds) h1):wD (tupM mr) loc mh P:=wD_bnd (wD_mono h fun _ _ q=>⟨_,_,mkTup_ok q.1,q.2⟩)
theorem wD_lst (h:wD mr loc mh fun ds h1=>ds.length<=1000000/\P (.ref h1.length) (h1++[.lst ds])):wD (lstM mr) loc mh P:=wD_bnd (wD_mono h fun _ _ q=>⟨_,_,mkLst_ok q.1,q.2⟩)
theorem wD_neg (h:wD ma loc mh fun x h1=>∃ i,x=.int i/\P (.int (-i)) h1):wD (negM ma) loc mh P:=wD_bnd (wD_mono h fun _ _ ⟨i,e,q⟩=>by subst e;exact ⟨_,_,rfl,q⟩)
theorem wD_rev (h:wD ma loc mh fun x h1=>wV (revD x h1) P):wD (revM ma) loc mh P:=wD_bnd (wD_mono h fun _ _ q=>q)
theorem wD_bool (h:wD ma loc mh fun x h1=>∃ k,x=.bl k/\B k h1):wD (boolD ma) loc mh B:=wD_bnd (wD_mono h fun _ _ ⟨k,e,q⟩=>by subst e;exact wD_ret q)
theorem wD_tru (h:wD ma loc mh fun x h1=>∃ k,truD x h1=some k/\B k h1):wD (truM ma) loc mh B:=by
 obtain ⟨x,h1,e,k,ek,q⟩:=h;exact ⟨k,h1,by rw [truM_ap,e];dsimp only;rw [ek],q⟩
theorem wD_notV (h:wD ma loc mh fun x h1=>∃ k,x=.bl k/\P (.bl (!k)) h1):wD (notV ma) loc mh P:=wD_bnd (wD_bool (wD_mono h fun _ _ ⟨k,e,q⟩=>⟨k,e,wD_ret q⟩))
theorem wD_notT (h:wD t loc mh fun k h1=>B (!k) h1):wD (dNotT t) loc mh B:=wD_bnd (wD_mono h fun _ _ q=>wD_ret q)
theorem wD_andT (h:wD t loc mh fun k h1=>(k=true->wD u loc h1 B)/\(k=false->B false h1)):wD (dAndT t u) loc mh B:=wD_bnd (wD_mono h fun k _ q=>by
 cases k with
 | true=>exact q.1 rfl
 | false=>exact wD_ret (q.2 rfl))
theorem wD_orT (h:wD t loc mh fun k h1=>(k=true->B true h1)/\(k=false->wD u loc h1 B)):wD (dOrT t u) loc mh B:=wD_bnd (wD_mono h fun k _ q=>by
 cases k with
 | true=>exact wD_ret (q.1 rfl)
 | false=>exact q.2 rfl)
theorem wD_andV (h:wD ma loc mh fun x h1=>∃ k,x=.bl k/\(k=true->wD mb loc h1 P)/\(k=false->P (.bl false) h1)):wD (dAndV ma mb) loc mh P:=wD_bnd (wD_bool (wD_mono h fun _ _ ⟨k,e,q⟩=>⟨k,e,by
 cases k with
 | true=>exact q.1 rfl
 | false=>exact wD_ret (q.2 rfl)⟩))
theorem wD_orV (h:wD ma loc mh fun x h1=>∃ k,x=.bl k/\(k=true->P (.bl true) h1)/\(k=false->wD mb loc h1 P)):wD (dOrV ma mb) loc mh P:=wD_bnd (wD_bool (wD_mono h fun _ _ ⟨k,e,q⟩=>⟨k,e,by
 cases k with
 | true=>exact wD_ret (q.1 rfl)
 | false=>exact q.2 rfl⟩))
theorem wD_meth {T:String}{f:D->List D->MH->Option (D×MH)}(h:wD ma loc mh fun x h1=>tyOk T x h1=true/\wD mr loc h1 fun ds h2=>wV (f x ds h2) P):wD (methM T f ma mr) loc mh P:=by
 obtain ⟨x,h1,e1,ht,ds,h2,e2,d,h3,e3,p⟩:=h;exact ⟨d,h3,by rw [methM_ap,e1];dsimp only;rw [if_pos ht,e2];exact e3,p⟩
theorem wD_partN {O:Option Int->MH->Prop}(h:O none mh):wD (partD none) loc mh O:=⟨none,mh,rfl,h⟩
theorem wD_partS {O:Option Int->MH->Prop}(h:wD ma loc mh fun x h1=>∃ i,x=.int i/\O (some i) h1):wD (partD (some ma)) loc mh O:=by
 obtain ⟨x,h1,e,i,rfl,q⟩:=h;exact ⟨some i,h1,by rw [partS_ap,e],q⟩
theorem wD_sl {ml mu:Option (DM D)}(h:wD ma loc mh fun x h1=>wD (partD ml) loc h1 fun l h2=>wD (partD mu) loc h2 fun r h3=>wV (slD x l r h3) P):wD (dSl ma ml mu) loc mh P :=
 wD_bnd (wD_mono h fun _ _ q=>wD_bnd (wD_mono q fun _ _ z=>wD_bnd (wD_mono z fun _ _ w=>w)))
theorem wD_src {R:Src->MH->Prop}(h:wD ma loc mh fun x h1=>∃ s,srcOf x h1=some s/\R s h1):wD (srcM ma) loc mh R:=by
 obtain ⟨x,h1,e,s,es,q⟩:=h;exact ⟨s,h1,by rw [srcM_ap,e];dsimp only;rw [es],q⟩
theorem wD_rng {R:Src->MH->Prop}{f:List D->Option Src}(h:wD mr loc mh fun ds h1=>∃ s,f ds=some s/\R s h1):wD (rngM f mr) loc mh R:=by
 obtain ⟨x,h1,e,s,es,q⟩:=h;exact ⟨s,h1,by rw [rngM_ap,e];dsimp only;rw [es],q⟩
end
noncomputable def seqK (m2:SM) (P:Fl->DL.Loc->MH->Prop) (f:Fl) (l:DL.Loc) (h:MH):Prop:=match f with
 | .nx=>wS m2 l h P
 | f=>P f l h
section
variable {loc l:DL.Loc}{mh h1:MH}{me:DM D}{m1 m2:SM}{g:GM}{t:DM Bool}{P:Fl->DL.Loc->MH->Prop}
theorem wS_mono {m:SM}{P Q:Fl->DL.Loc->MH->Prop}(h:wS m loc mh P) (i:∀ f l h,P f l h->Q f l h):wS m loc mh Q:=let ⟨f,l,h',e,p⟩:=h;⟨f,l,h',e,i f l h' p⟩
theorem wS_seq (h:wS m1 loc mh (seqK m2 P)):wS (seqS m1 m2) loc mh P:=by
 obtain ⟨f,l,h1,e,q⟩:=h;cases f with
 | nx =>
  obtain ⟨f',l',h',e',p⟩:=q;exact ⟨f',l',h',by rw [seqS_ap,e];exact e',p⟩
 | _=>exact ⟨_,l,h1,by rw [seqS_ap,e],q⟩
theorem seqK_nx (h:wS m2 l h1 P):seqK m2 P .nx l h1:=h
theorem seqK_rt {d:D}(h:P (.rt d) l h1):seqK m2 P (.rt d) l h1:=h
theorem wS_nxt (h:P .nx loc mh):wS Zn loc mh P:=⟨_,_,_,rfl,h⟩
theorem wS_asg (h:wD me loc mh fun d h1=>wG (g d loc h1) fun l h2=>P .nx l h2):wS (asgS me g) loc mh P:=by
 obtain ⟨d,h1,e1,l,h2,e2,p⟩:=h;exact ⟨.nx,l,h2,by rw [asgS_ap,e1];dsimp only;rw [e2],p⟩
theorem wS_ret (h:wD me loc mh fun d h1=>P (.rt d) loc h1):wS (retS me) loc mh P:=by
 obtain ⟨d,h1,e1,p⟩:=h;exact ⟨.rt d,loc,h1,by rw [retS_ap,e1],p⟩
theorem wS_drop (h:wD me loc mh fun _ h1=>P .nx loc h1):wS (dropS me) loc mh P:=by
 obtain ⟨d,h1,e1,p⟩:=h;exact ⟨.nx,loc,h1,by rw [dropS_ap,e1],p⟩
theorem wS_if (h:wD t loc mh fun k h1=>(k=true->wS m1 loc h1 P)/\(k=false->wS m2 loc h1 P)):wS (ifS t m1 m2) loc mh P:=by
 obtain ⟨k,h1,e1,a,b⟩:=h;cases k with
 | true =>
  obtain ⟨f,l,h',e,p⟩:=a rfl;exact ⟨f,l,h',by rw [ifS_ap,e1];exact e,p⟩
 | false =>
  obtain ⟨f,l,h',e,p⟩:=b rfl;exact ⟨f,l,h',by rw [ifS_ap,e1];exact e,p⟩
theorem wG_set {i:Nat}{d:D}{R:DL.Loc->MH->Prop}(h:R (loc.set i (some d)) mh):wG (gSet i d loc mh) R:=⟨_,_,rfl,h⟩
theorem wG_tup {is:List Nat}{ds:List D}{R:DL.Loc->MH->Prop}(hl:ds.length=is.length) (h:R (setAll is ds loc) mh):wG (gTupD is (.tup ds) loc mh) R:=⟨_,_,if_pos hl,h⟩
theorem wG_sub {mo mi:DM D}{v:D}{R:DL.Loc->MH->Prop}(h:wD mo loc mh fun o h1=>wD mi loc h1 fun i h2=>∃ h3,setIx o i v h2=some h3/\R loc h3):wG (gSubD mo mi v loc mh) R:=by
 obtain ⟨o,h1,e1,i,h2,e2,h3,e3,p⟩:=h;refine ⟨loc,h3,?_,p⟩;unfold gSubD;rw [e1];dsimp only;rw [e2];dsimp only;rw [e3]
theorem setIx_ok {n:Nat}{ds:List D}{k:Nat}{v:D}{h:MH}(e:h[n]?=some (.lst ds)) (hk:k < ds.length):setIx (.ref n) (.int k) v h=some (h.set n (.lst (ds.set k v))):=by
 have e2:ixN ds.length (k:Int)=some k:=by unfold ixN;rw [if_pos (by omega),if_pos (by omega)];simp
 simp only [setIx,e,e2]
noncomputable def forK (J:DL.Loc->MH->Prop) (P:Fl->DL.Loc->MH->Prop) (f:Fl) (l:DL.Loc) (h:MH):Prop:=match f with
 | .nx=>J l h
 | .ct=>J l h
 | .bk=>P .nx l h
 | .rt d=>P (.rt d) l h
theorem forD_w {src:Src}{ds:List D}{body:SM}(J:Nat->DL.Loc->MH->Prop) (keep:∀ i l h,J i l h->src.ok h=true/\src.items h=ds)
  (step:∀ i d l h,ds[i]?=some d->J i l h->wG (g d l h) fun l1 h1=>wS body l1 h1 (forK (J (i+1)) P)) (fin:∀ l h,J ds.length l h->P .nx l h) :
  ∀ (k i:Nat) (l:DL.Loc) (h:MH),i+k=ds.length->J i l h->wS (forD src g body k i) l h P
 | 0,i,l,h,e,j=>by
  have e:i=ds.length:=by omega
  subst e;have s:src.stop h ds.length=true:=by
   unfold Src.stop;rw [(keep _ _ _ j).1,(keep _ _ _ j).2,Bool.true_and];exact decide_eq_true (Nat.le_refl _)
  exact ⟨.nx,l,h,by simp only [forD,s,if_true],fin _ _ j⟩
 | k+1,i,l,h,e,j=>by
  have hi:i < ds.length:=by omega
  have eg:src.get h i=some ds[i]:=by
   unfold Src.get;rw [(keep _ _ _ j).2,List.getElem?_eq_getElem hi]
  obtain ⟨l1,h1,e1,f,l2,h2,e2,q⟩:=step i ds[i] l h (List.getElem?_eq_getElem hi) j;cases f with
  | nx =>
   obtain ⟨f',l',h',e',p⟩:=forD_w J keep step fin k (i+1) l2 h2 (by omega) q;exact ⟨f',l',h',by simp only [forD,eg,e1,e2];exact e',p⟩
  | ct =>
   obtain ⟨f',l',h',e',p⟩:=forD_w J keep step fin k (i+1) l2 h2 (by omega) q;exact ⟨f',l',h',by simp only [forD,eg,e1,e2];exact e',p⟩
  | bk=>exact ⟨.nx,l2,h2,by simp only [forD,eg,e1,e2],q⟩
  | rt d=>exact ⟨.rt d,l2,h2,by simp only [forD,eg,e1,e2],q⟩
theorem wS_for {mi:DM Src}{body:SM}(h:wD mi loc mh fun src h0=>∃ ds,∃ J:Nat->DL.Loc->MH->Prop,J 0 loc h0/\(∀ i l h,J i l h->src.ok h=true/\src.items h=ds) /\
  (∀ i d l h,ds[i]?=some d->J i l h->wG (g d l h) fun l1 h1=>wS body l1 h1 (forK (J (i+1)) P))/\∀ l h,J ds.length l h->P .nx l h):wS (forS mi g body) loc mh P:=by
 obtain ⟨src,h0,e,ds,J,j0,keep,step,fin⟩:=h;have el:(src.items h0).length=ds.length:=by rw [(keep _ _ _ j0).2]
 obtain ⟨f,l,h',e',p⟩:=forD_w J keep step fin ds.length 0 loc h0 (by omega) j0;refine ⟨f,l,h',?_,p⟩;unfold forS;rw [e];dsimp only;rw [el];exact e'
theorem compD_w {src:Src}{ds:List D}{tc:DM Bool}{e:DM D}{R:List D->MH->Prop}(J:Nat->List D->MH->Prop) (keep:∀ i acc h,J i acc h->src.ok h=true/\src.items h=ds) (hz:ds.length<=1000000) (small:∀ i acc h,J i acc h->acc.length<=i)
  (step:∀ i d acc h,ds[i]?=some d->J i acc h->wG (g d loc h) fun l1 h1=>wD tc l1 h1 fun c h2=>(c=true->wD e l1 h2 fun y h3=>J (i+1) (acc++[y]) h3)/\(c=false->J (i+1) acc h2)) (fin:∀ acc h,J ds.length acc h->R acc h) :
  ∀ (k i:Nat) (acc:List D) (h:MH),i+k=ds.length->J i acc h->∃ acc' h',compD src g tc e loc k i acc h=some (acc',h')/\R acc' h'
 | 0,i,acc,h,q,j=>by
  have q:i=ds.length:=by omega
  subst q;have s:src.stop h ds.length=true:=by
   unfold Src.stop;rw [(keep _ _ _ j).1,(keep _ _ _ j).2,Bool.true_and];exact decide_eq_true (Nat.le_refl _)
  exact ⟨acc,h,by simp only [compD,s,if_true],fin _ _ j⟩
 | k+1,i,acc,h,q,j=>by
  have hi:i < ds.length:=by omega
  have eg:src.get h i=some ds[i]:=by
   unfold Src.get;rw [(keep _ _ _ j).2,List.getElem?_eq_getElem hi]
  obtain ⟨l1,h1,e1,c,h2,e2,a,b⟩:=step i ds[i] acc h (List.getElem?_eq_getElem hi) j;cases c with
  | true =>
   obtain ⟨y,h3,e3,j3⟩:=a rfl;obtain ⟨acc',h',e',p⟩:=compD_w J keep hz small step fin k (i+1) _ h3 (by omega) j3;have hl:acc.length < sizeLine:=lt_size (by have:=small _ _ _ j;omega);exact ⟨acc',h',by simp only [compD,eg,e1,e2,if_true,e3,if_pos hl];exact e',p⟩
  | false =>
   obtain ⟨acc',h',e',p⟩:=compD_w J keep hz small step fin k (i+1) _ h2 (by omega) (b rfl);exact ⟨acc',h',by simp only [compD,eg,e1,e2,Bool.false_eq_true,if_false];exact e',p⟩
theorem wD_comp {mi:DM Src}{cs:List (Option Nat)}{tc:DM Bool}{e:DM D}{Q:D->MH->Prop}(h:wD mi loc mh fun src h0=>∃ ds,∃ J:Nat->List D->MH->Prop,ds.length<=1000000/\J 0 [] h0/\(∀ i acc h,J i acc h->src.ok h=true/\src.items h=ds)/\(∀ i acc h,J i acc h->acc.length<=i) /\
  (∀ i d acc h,ds[i]?=some d->J i acc h->wG (g d (capD cs loc) h) fun l1 h1=>wD tc l1 h1 fun c h2=>(c=true->wD e l1 h2 fun y h3=>J (i+1) (acc++[y]) h3)/\(c=false->J (i+1) acc h2)) /\
  ∀ acc h,J ds.length acc h->Q (.ref h.length) (h++[.lst acc])):wD (compM mi cs g tc e) loc mh Q:=by
 obtain ⟨src,h0,e0,ds,J,hz,j0,keep,small,step,fin⟩:=h;have el:(src.items h0).length=ds.length:=by rw [(keep _ _ _ j0).2]
 obtain ⟨acc,h',e',p⟩:=compD_w J keep hz small step fin ds.length 0 [] h0 (by omega) j0;refine ⟨.ref h'.length,h'++[.lst acc],?_,p⟩;unfold compM;rw [e0];dsimp only;rw [el,e']
end
noncomputable def retK (P:D->MH->Prop) (f:Fl) (_:DL.Loc) (h:MH):Prop:=match f with
 | .rt d=>P d h
 | .nx=>P .non h
 | _=>False
theorem wV_run {G:Gb}{n:Nat}{I:FnI}{b:SM}{ds:List D}{mh:MH}{np m:Nat}{P:D->MH->Prop}(hb:iSs G n { N:=I.N,scope:=I.scope,own:=fun _=>true } I.body=b) (hp:I.ps.length=np) (hN:I.N.length=m) (hl:ds.length=np)
  (h:wS b (ds.map some++List.replicate (m - np) none) mh (retK P)):wV (runF G n I ds mh) P:=by
 obtain ⟨f,l,h',e,p⟩:=h;cases f with
 | rt d=>exact ⟨d,h',by unfold runF;rw [if_pos (by rw [hp];exact hl),hb,hN,hl,e],p⟩
 | nx=>exact ⟨.non,h',by unfold runF;rw [if_pos (by rw [hp];exact hl),hb,hN,hl,e],p⟩
 | bk=>exact p.elim
 | ct=>exact p.elim
section
variable {mh:MH}{P:D->MH->Prop}
theorem wV_of {r:Option (D×MH)}{d:D}{h:MH}(e:r=some (d,h)) (p:P d h):wV r P:=⟨d,h,e,p⟩
theorem wV_iop {C:Int->Int->Bool}{g:Int->Int->Int}{i j:Int}(hC:C i j=true) (h:P (.int (g i j)) mh):wV (iop C g (.int i) (.int j) mh) P:=⟨_,_,by rw [iop_ap,if_pos hC],h⟩
theorem wV_sub {i j:Int}(h:P (.int (i - j)) mh):wV (subD (.int i) (.int j) mh) P:=wV_iop rfl h
theorem wV_mod {i j:Int}(hj:j≠0) (h:P (.int (i.fmod j)) mh):wV (modD (.int i) (.int j) mh) P:=wV_iop (decide_eq_true hj) h
theorem wV_fdiv {i j:Int}(hj:j≠0) (hb:j.natAbs < 10889035741470030830827987437816582766592) (h:P (.int (i.fdiv j)) mh):wV (fdivD (.int i) (.int j) mh) P:=wV_iop (by rw [decide_eq_true hj,decide_eq_true hb];rfl) h
theorem wV_mul {i j:Int}(hb:(-(2 ^ 64) < i/\i < 2 ^ 64)\/(-(2 ^ 64) < j/\j < 2 ^ 64)) (h:P (.int (i * j)) mh):wV (mulD (.int i) (.int j) mh) P:=show wV (iop cmulB (fun i j=>i * j) (.int i) (.int j) mh) P from wV_iop (by unfold cmulB;rw [Bool.or_eq_true,decide_eq_true_iff,decide_eq_true_iff];exact hb) h
theorem wV_icmp {g:Int->Int->Bool}{i j:Int}(h:P (.bl (g i j)) mh):wV (icmp g (.int i) (.int j) mh) P:=⟨_,_,rfl,h⟩
theorem wV_add {i j:Int}(h:P (.int (i+j)) mh):wV (addD (.int i) (.int j) mh) P:=⟨_,_,rfl,h⟩
theorem wV_eqI {i j:Int}(h:P (.bl (i==j)) mh):wV (eqD (.int i) (.int j) mh) P:=⟨_,_,rfl,h⟩
theorem wV_eq {x y:D}{k:Bool}(e:eqB mh x y=some k) (h:P (.bl k) mh):wV (eqD x y mh) P:=⟨_,_,by unfold eqD;rw [e],h⟩
theorem wV_ne {x y:D}{k:Bool}(e:eqB mh x y=some k) (h:P (.bl (!k)) mh):wV (neD x y mh) P:=⟨_,_,by unfold neD;rw [e],h⟩
theorem wV_addL {n m:Nat}{xs ys:List D}(e1:mh[n]?=some (.lst xs)) (e2:mh[m]?=some (.lst ys)) (hz:xs.length+ys.length<=1000000) (h:P (.ref mh.length) (mh++[.lst (xs++ys)])):wV (addD (.ref n) (.ref m) mh) P:=⟨_,_,addD_lst e1 e2 hz,h⟩
theorem wV_addT {xs ys:List D}(hz:xs.length+ys.length<=1000000) (h:P (.tup (xs++ys)) mh):wV (addD (.tup xs) (.tup ys) mh) P:=⟨_,_,by simp only [addD,if_pos (le_size hz)],h⟩
theorem wV_ixT {ds:List D}{j:Nat}{d:D}(e:ds[j]?=some d) (h:P d mh):wV (ixD (.tup ds) (.int j) mh) P:=⟨d,mh,by simp only [ixD,dctOf,ixD0,seqD,atI_nat e],h⟩
theorem wV_ixR {ds:List D}{j:Nat}{d:D}(e:ds[j]?=some d) (h:P d mh):wV (ixD (.rol ds) (.int j) mh) P:=⟨d,mh,by simp only [ixD,dctOf,ixD0,seqD,atI_nat e],h⟩
theorem wV_ixL {n:Nat}{ds:List D}{j:Nat}{d:D}(e1:mh[n]?=some (.lst ds)) (e:ds[j]?=some d) (h:P d mh):wV (ixD (.ref n) (.int j) mh) P:=⟨d,mh,by simp only [ixD,dctOf_lst e1,ixD0,seqD,e1,atI_nat e],h⟩
theorem wV_append {n:Nat}{ds:List D}{y:D}(e:mh[n]?=some (.lst ds)) (hz:ds.length<=1000000) (h:P .non (mh.set n (.lst (ds++[y])))):wV (appendD (.ref n) [y] mh) P:=⟨_,_,appendD_ok e hz,h⟩
theorem wV_popAt {n k:Nat}{ds:List D}{y:D}(e:mh[n]?=some (.lst ds)) (hy:ds[k]?=some y) (hz:ds.length<=1000000) (h:P y (mh.set n (.lst (ds.eraseIdx k)))):wV (popAtD (.ref n) [.int k] mh) P:=by
 have hk:k < ds.length:=(List.getElem?_eq_some_iff.mp hy).1;have e2:ixN ds.length (k:Int)=some k:=by unfold ixN;rw [if_pos (by omega),if_pos (by omega)];simp
 have hb:-(2 ^ 63)<=(k:Int)/\(k:Int) < 2 ^ 63:=by omega
 exact ⟨_,_,by simp only [popAtD,e,if_pos hb,e2,hy],h⟩
theorem wV_len {x:D}{ds:List D}(hx:∀ z,x≠.str z) (e:seqD x mh=some ds) (h:P (.int ds.length) mh):wV (lenD [x] mh) P:=by
 refine ⟨_,_,?_,h⟩;cases x with
 | str z=>exact (hx z rfl).elim
 | _=>simp only [lenD,e]
theorem wV_listOf {x:D}{ds:List D}(e:seqD x mh=some ds) (h:P (.ref mh.length) (mh++[.lst ds])):wV (listD [x] mh) P:=⟨_,_,by simp only [listD,e],h⟩
theorem wV_tupOf {x:D}{ds:List D}(e:seqD x mh=some ds) (h:P (.tup ds) mh):wV (tupleD [x] mh) P:=⟨_,_,by simp only [tupleD,e],h⟩
theorem wV_bools {f:List Bool->Bool}{x:D}{bs:List Bool}(e:seqD x mh=some (bs.map D.bl)) (h:P (.bl (f bs)) mh):wV (boolsFn f [x] mh) P:=⟨_,_,by simp only [boolsFn,e,boolsOf_map],h⟩
end
structure Ext (W:List Nat) (a b:MH):Prop where
 len:a.length<=b.length
 old:∀ i o,i ∉ W->a[i]?=some o->b[i]?=some o
theorem Ext.refl {W:List Nat}{a:MH}:Ext W a a:=⟨Nat.le_refl _,fun _ _ _ e=>e⟩
theorem Ext.trans {W:List Nat}{a b c:MH}(x:Ext W a b) (y:Ext W b c):Ext W a c:=⟨Nat.le_trans x.len y.len,fun i o h e=>y.old i o h (x.old i o h e)⟩
theorem Ext.weak {W:List Nat}{a b:MH}(x:Ext [] a b):Ext W a b:=⟨x.len,fun i o _ e=>x.old i o (by simp) e⟩
theorem Ext.more {W:List Nat}{a g:MH}:Ext W a (a++g):=⟨by rw [List.length_append];omega,fun i o _ e=>by rw [List.getElem?_append_left (List.getElem?_eq_some_iff.mp e).1];exact e⟩
theorem Ext.set {n:Nat}{a:MH}{o:MO}:Ext [n] a (a.set n o):=⟨by rw [List.length_set];exact Nat.le_refl _,fun i o' h e=>by rw [List.getElem?_set_ne (fun z=>h (by simp [z]))];exact e⟩
theorem Ext.setNew {W:List Nat}{n:Nat}{a b:MH}{o:MO}(x:Ext W a b) (h:a.length<=n):Ext W a (b.set n o):=⟨by rw [List.length_set];exact x.len,fun i o' hi e=>by
 have:i < a.length:=(List.getElem?_eq_some_iff.mp e).1
 rw [List.getElem?_set_ne (by omega)];exact x.old i o' hi e⟩
theorem at_new {a:MH}{o:MO}:(a++[o])[a.length]?=some o:=by rw [List.getElem?_append_right (Nat.le_refl _),Nat.sub_self];rfl
theorem at_set {a:MH}{n:Nat}{o o':MO}(h:a[n]?=some o'):(a.set n o)[n]?=some o:=by
 rw [List.getElem?_set];simp [(List.getElem?_eq_some_iff.mp h).1]
section
variable {loc:DL.Loc}{mh:MH}{ma:DM D}{mr:DM (List D)}{P:D->MH->Prop}
theorem wD_cnt {T1 T2:String}{f1 f2:D->List D->MH->Option (D×MH)}(h:wD ma loc mh fun x h1=>(tyOk T1 x h1=true/\wD mr loc h1 fun ds h2=>wV (f1 x ds h2) P)\/(tyOk T1 x h1=false/\tyOk T2 x h1=true/\wD mr loc h1 fun ds h2=>wV (f2 x ds h2) P)):wD (methE T1 f1 T2 f2 ma mr) loc mh P:=by
 obtain ⟨x,h1,e,q⟩:=h;rcases q with ⟨t,q⟩|⟨t,t2,q⟩
 ·obtain ⟨a,h',e',p⟩:=wD_meth (T:=T1) (f:=f1) (ma:=ma) (mr:=mr) (loc:=loc) (mh:=mh) (P:=P) ⟨x,h1,e,t,q⟩;exact ⟨a,h',by unfold methE;rw [e];dsimp only;rw [if_pos t];exact e',p⟩
 ·obtain ⟨a,h',e',p⟩:=wD_meth (T:=T2) (f:=f2) (ma:=ma) (mr:=mr) (loc:=loc) (mh:=mh) (P:=P) ⟨x,h1,e,t2,q⟩;exact ⟨a,h',by unfold methE;rw [e];dsimp only;rw [if_neg (by rw [t];simp)];exact e',p⟩
theorem wD_zip {R:Src->MH->Prop}(h:wD mr loc mh fun ds h1=>∃ x y s t,ds=[x,y]/\srcOf x h1=some s/\srcOf y h1=some t/\R (.zip s t) h1):wD (zipM mr) loc mh R:=wD_bnd (wD_mono h fun _ h1 ⟨x,y,s,t,e,e1,e2,q⟩=>by
 subst e
 exact ⟨_,h1,by simp only [zipS,e1,e2],q⟩)
theorem wV_pow {i j:Int}(h1:0<=j) (h2:j<=1000000) (h3:i.natAbs < 2 ^ 64) (h:P (.int (i ^ j.toNat)) mh):wV (powD (.int i) (.int j) mh) P:=wV_iop (by rw [decide_eq_true h1,decide_eq_true h2,decide_eq_true h3];rfl) h
end
section
variable {loc:DL.Loc}{mh:MH}{ma:DM D}{mr:DM (List D)}{P:D->MH->Prop}
end
theorem ex_bl {k:Bool}{B:Bool->Prop}(h:B k):∃ j,D.bl k=.bl j/\B j:=⟨k,rfl,h⟩
theorem ex_int {i:Int}{B:Int->Prop}(h:B i):∃ j,D.int i=.int j/\B j:=⟨i,rfl,h⟩
theorem when_t {p q:Prop}(h:p):((true=true)->p)/\((true=false)->q):=⟨fun _=>h,fun z=>by cases z⟩
theorem when_f {p q:Prop}(h:q):((false=true)->p)/\((false=false)->q):=⟨fun z=>(by cases z),fun _=>h⟩
theorem when_tt {k:Bool}{p q:Prop}(e:k=true) (h:p):(k=true->p)/\(k=false->q):=⟨fun _=>h,fun z=>by rw [e] at z;cases z⟩
theorem when_ff {k:Bool}{p q:Prop}(e:k=false) (h:q):(k=true->p)/\(k=false->q):=⟨fun z=>(by rw [e] at z;cases z),fun _=>h⟩
theorem when_of {k:Bool}{p q:Prop}(h1:k=true->p) (h2:k=false->q):(k=true->p)/\(k=false->q):=⟨h1,h2⟩
theorem tru_bl {k:Bool}{h:MH}{B:Bool->Prop}(q:B k):∃ j,truD (.bl k) h=some j/\B j:=⟨k,rfl,q⟩
mutual
noncomputable def dat:Nat->D->Bool
 | _,.int _=>true
 | _,.bl _=>true
 | _,.non=>true
 | _,.str x=>PyData.strOk x
 | n+1,.tup ds=>dats n ds
 | _,_=>false
noncomputable def dats:Nat->List D->Bool
 | _,[]=>true
 | n,d::r=>dat n d&&dats n r
end
mutual
theorem dat_py (mh:MH):∀ (n:Nat) (d:D),dat n d=true->∃ a,py mh n d=some a/\a.canLay0=true
 | n,.int i,_=>⟨.int i,by cases n <;> rfl,rfl⟩
 | n,.bl i,_=>⟨.bool i,by cases n <;> rfl,rfl⟩
 | n,.non,_=>⟨.none,by cases n <;> rfl,rfl⟩
 | n,.str x,h=>by
  have h2:PyData.strOk x=true:=by cases n <;> exact h
  exact ⟨.str x,by cases n <;> (show (if PyData.strOk x=true then some (PyData.str x) else none)=_;rw [if_pos h2]),h2⟩
 | 0,.tup ds,h=>by simp [dat] at h
 | n+1,.tup ds,h=>by
  have h:dats n ds=true:=h;obtain ⟨as,e,l⟩:=dats_py mh n ds h;exact ⟨.tuple as,by simp only [py,e],by simpa [PyData.canLay0] using l⟩
 | 0,.ref _,h=>by simp [dat] at h
 | _+1,.ref _,h=>by simp [dat] at h
 | 0,.rol _,h=>by simp [dat] at h
 | _+1,.rol _,h=>by simp [dat] at h
 | 0,.obj ..,h=>by simp [dat] at h
 | _+1,.obj ..,h=>by simp [dat] at h
 | 0,.fn _,h=>by simp [dat] at h
 | _+1,.fn _,h=>by simp [dat] at h
theorem dats_py (mh:MH):∀ (n:Nat) (ds:List D),dats n ds=true->∃ as,mapO (py mh n) ds=some as/\PyData.canLayAll0 as=true
 | n,[],_=>⟨[],rfl,rfl⟩
 | n,d::r,h=>by
  have h:(dat n d&&dats n r)=true:=by simpa [dats] using h
  rw [Bool.and_eq_true] at h;obtain ⟨a,e1,l1⟩:=dat_py mh n d h.1;obtain ⟨as,e2,l2⟩:=dats_py mh n r h.2;exact ⟨a::as,by simp only [mapO,e1,e2],by simp only [PyData.canLayAll0,l1,l2,Bool.and_self]⟩
end
theorem eqB_refl {x:D}(h:dat 60 x=true) (mh:MH):eqB mh x x=some true:=by
 obtain ⟨a,e,l⟩:=dat_py mh 60 x h;unfold eqB;rw [e];dsimp only;rw [SeqAt.eqv_refl a l]
theorem ne_refl {x y:D}{mh:MH}{P:D->MH->Prop}(e:x=y) (hx:dat 60 x=true) (h:P (.bl false) mh):wV (neD x y mh) P:=by
 subst e;exact wV_ne (eqB_refl hx mh) h
theorem wV_sortI {n:Nat}{ns:List Int}{mh:MH}{P:D->MH->Prop}(e:mh[n]?=some (.lst (ns.map D.int))) (hz:ns.length < 64) (h:P (.ref mh.length) (mh++[.lst ((sortI ns).map D.int)])):wV (sortedA [.ref n] mh) P :=
 ⟨_,_,by show sortedD [.ref n] mh=_;simp only [sortedD,e,intsOf_map,if_pos hz],h⟩
theorem sorted_nat (ns:List Nat):∃ hs:List Nat,(sortI (ns.map fun n:Nat=>(n:Int))).map D.int=hs.map natD/\hs.length=ns.length/\∀ x∈hs,x∈ns:=by
 refine ⟨(sortI (ns.map fun n:Nat=>(n:Int))).map Int.toNat,?_,?_,?_⟩
 ·rw [List.map_map];apply List.map_congr_left;intro x hx;have:=(sortI_perm _).mem_iff.mp hx;obtain ⟨n,_,rfl⟩:=List.mem_map.mp this;simp [natD]
 ·rw [List.length_map,(sortI_perm _).length_eq,List.length_map]
 ·intro x hx;obtain ⟨y,hy,rfl⟩:=List.mem_map.mp hx;have:=(sortI_perm _).mem_iff.mp hy;obtain ⟨n,hn,rfl⟩:=List.mem_map.mp this
  simpa using hn
theorem wV_extend {n m:Nat}{xs ys:List D}{mh:MH}{P:D->MH->Prop}(e1:mh[n]?=some (.lst xs)) (e2:mh[m]?=some (.lst ys)) (hz:xs.length+ys.length<=1000000) (h:P .non (mh.set n (.lst (xs++ys)))):wV (extendD (.ref n) [.ref m] mh) P :=
 ⟨_,_,by simp only [extendD,e1,e2,if_pos (le_size hz)],h⟩
theorem ne_lists {a b:Nat}{ds:List D}{mh:MH}{P:D->MH->Prop}(e1:mh[a]?=some (.lst ds)) (e2:mh[b]?=some (.lst ds)) (hd:dats 59 ds=true) (h:P (.bl false) mh):wV (neD (.ref a) (.ref b) mh) P:=by
 obtain ⟨as,e,l⟩:=dats_py mh 59 ds hd;have p1:py mh 60 (.ref a)=some (.list as):=by
  show (match mh[a]? with | some (.lst o)=>(match mapO (py mh 59) o with | some xs=>some (PyData.list xs) | none=>none) | _=>none)=_;rw [e1];dsimp only;rw [e]
 have p2:py mh 60 (.ref b)=some (.list as):=by
  show (match mh[b]? with | some (.lst o)=>(match mapO (py mh 59) o with | some xs=>some (PyData.list xs) | none=>none) | _=>none)=_;rw [e2];dsimp only;rw [e]
 refine wV_ne (k:=true) ?_ h;unfold eqB;rw [p1,p2];dsimp only;rw [SeqAt.eqv_refl _ (by simpa [PyData.canLay0] using l)]
theorem ty_list {a:Nat}{ds:List D}{mh:MH}(e:mh[a]?=some (.lst ds)):tyOk "list" (.ref a) mh=true:=by
 show (true&&(match mh[a]? with | some (.lst _)=>true | _=>false))=true;rw [e];rfl
theorem src_list {a:Nat}{ds:List D}{mh:MH}(e:mh[a]?=some (.lst ds)):srcOf (.ref a) mh=some (.lref a):=by
 show (match mh[a]? with | some (.lst _)=>some (Src.lref a) | _=>none)=_;rw [e]
theorem lref_keep {a:Nat}{ds:List D}{mh:MH}(e:mh[a]?=some (.lst ds)):(Src.lref a).ok mh=true/\(Src.lref a).items mh=ds:=by
 refine ⟨?_,?_⟩
 ·show (match mh[a]? with | some (.lst _)=>true | _=>false)=true;rw [e]
 ·show (match mh[a]? with | some (.lst o)=>o | _=>[])=_;rw [e]
end DL
namespace Lw
open PySem L2 DL
noncomputable def top (i:Nat):Stmt:=PySem.Challenge.pw_letterall_k50_worlds_within_patterns.main.body.getD i (.Pass ⟨0,0,0,0⟩)
noncomputable def f1:FnI:=mkFn (top 1)
noncomputable def f4:FnI:=mkFn (top 4)
noncomputable def f9:FnI:=mkFn (top 9)
noncomputable def f15:FnI:=mkFn (top 15)
noncomputable def f16:FnI:=mkFn (top 16)
noncomputable def f17:FnI:=mkFn (top 17)
noncomputable def f18:FnI:=mkFn (top 18)
noncomputable def f19:FnI:=mkFn (top 19)
noncomputable def f20:FnI:=mkFn (top 20)
noncomputable def f21:FnI:=mkFn (top 21)
noncomputable def f22:FnI:=mkFn (top 22)
noncomputable def f23:FnI:=mkFn (top 23)
noncomputable def f24:FnI:=mkFn (top 24)
noncomputable def f26:FnI:=mkFn (top 26)
noncomputable def f27:FnI:=mkFn (top 27)
noncomputable def f28:FnI:=mkFn (top 28)
noncomputable def f29:FnI:=mkFn (top 29)
noncomputable def f30:FnI:=mkFn (top 30)
noncomputable def f31:FnI:=mkFn (top 31)
noncomputable def f32:FnI:=mkFn (top 32)
noncomputable def f33:FnI:=mkFn (top 33)
noncomputable def f34:FnI:=mkFn (top 34)
noncomputable def f35:FnI:=mkFn (top 35)
noncomputable def f36:FnI:=mkFn (top 36)
noncomputable def f37:FnI:=mkFn (top 37)
noncomputable def f38:FnI:=mkFn (top 38)
noncomputable def f39:FnI:=mkFn (top 39)
noncomputable def f40:FnI:=mkFn (top 40)
noncomputable def f41:FnI:=mkFn (top 41)
noncomputable def f42:FnI:=mkFn (top 42)
noncomputable def f43:FnI:=mkFn (top 43)
noncomputable def f44:FnI:=mkFn (top 44)
noncomputable def f45:FnI:=mkFn (top 45)
noncomputable def f46:FnI:=mkFn (top 46)
noncomputable def f47:FnI:=mkFn (top 47)
noncomputable def f48:FnI:=mkFn (top 48)
noncomputable def f49:FnI:=mkFn (top 49)
noncomputable def f50:FnI:=mkFn (top 50)
noncomputable def dRows:List (Str×Stmt):=("cut",top 1)::("higher",top 2)::("lower",top 3)::("is_within",top 4)::("replaced",top 9)::("pattern_of",top 14)::("lies_in",top 15)::("within",top 16)::("numbers_in",top 17)::("all_letters",top 18)::("zipped",top 19)::("zipped_part",top 20)::("zipped_rows",top 21)::("zipped_letters",top 22)::("are_alike",top 23)::("without_number",top 24)::("_law_cell_at",top 26)::("_law_mixed",top 27)::("_law_draws",top 28)::("_law_number_step",top 29)::("_law_name_step",top 30)::("_law_step",top 31)::("_law_lead",top 32)::("_law_program",top 33)::("_law_number",top 34)::("_law_letters",top 35)::("_law_world",top 36)::("_law_pair",top 37)::("_law_pattern",top 38)::("_law_inner",top 39)::("_law_within",top 40)::("_law_pairs",top 41)::("_law_bare",top 42)::("_law_point",top 43)::("_law_in",top 44)::("_law_own",top 45)::("_law_changed",top 46)::("_law_letters_moved",top 47)::("_law_part_moved",top 48)::("_law_moved",top 49)::("law",top 50)::[]
noncomputable def tb (x:Str):Option FnI:=(dRows.lookup x).map mkFn
theorem dRows_ok:StsOk dRows:=⟨st_ok ⟨rfl,rfl,rfl,by decide +kernel,by decide +kernel,by decide +kernel,by decide +kernel⟩ fun _ _ _ _ _ _=>ln2 fun _ _=>rfl,st_ok ⟨rfl,rfl,rfl,by decide +kernel,by decide +kernel,by decide +kernel,by decide +kernel⟩ fun _ _ _ _ _ _=>ln2 fun _ _=>rfl,st_ok ⟨rfl,rfl,rfl,by decide +kernel,by decide +kernel,by decide +kernel,by decide +kernel⟩ fun _ _ _ _ _ _=>ln2 fun _ _=>rfl,st_ok ⟨rfl,rfl,rfl,by decide +kernel,by decide +kernel,by decide +kernel,by decide +kernel⟩ fun _ _ _ _ _ _=>ln2 fun _ _=>rfl,st_ok ⟨rfl,rfl,rfl,by decide +kernel,by decide +kernel,by decide +kernel,by decide +kernel⟩ fun _ _ _ _ _ _=>ln3 fun _ _ _=>rfl,st_ok ⟨rfl,rfl,rfl,by decide +kernel,by decide +kernel,by decide +kernel,by decide +kernel⟩ fun _ _ _ _ _ _=>ln1 fun _=>rfl,st_ok ⟨rfl,rfl,rfl,by decide +kernel,by decide +kernel,by decide +kernel,by decide +kernel⟩ fun _ _ _ _ _ _=>ln2 fun _ _=>rfl,st_ok ⟨rfl,rfl,rfl,by decide +kernel,by decide +kernel,by decide +kernel,by decide +kernel⟩ fun _ _ _ _ _ _=>ln2 fun _ _=>rfl,st_ok ⟨rfl,rfl,rfl,by decide +kernel,by decide +kernel,by decide +kernel,by decide +kernel⟩ fun _ _ _ _ _ _=>ln1 fun _=>rfl,st_ok ⟨rfl,rfl,rfl,by decide +kernel,by decide +kernel,by decide +kernel,by decide +kernel⟩ fun _ _ _ _ _ _=>ln1 fun _=>rfl,st_ok ⟨rfl,rfl,rfl,by decide +kernel,by decide +kernel,by decide +kernel,by decide +kernel⟩ fun _ _ _ _ _ _=>ln3 fun _ _ _=>rfl,st_ok ⟨rfl,rfl,rfl,by decide +kernel,by decide +kernel,by decide +kernel,by decide +kernel⟩ fun _ _ _ _ _ _=>ln3 fun _ _ _=>rfl,st_ok ⟨rfl,rfl,rfl,by decide +kernel,by decide +kernel,by decide +kernel,by decide +kernel⟩ fun _ _ _ _ _ _=>ln3 fun _ _ _=>rfl,st_ok ⟨rfl,rfl,rfl,by decide +kernel,by decide +kernel,by decide +kernel,by decide +kernel⟩ fun _ _ _ _ _ _=>ln3 fun _ _ _=>rfl,st_ok ⟨rfl,rfl,rfl,by decide +kernel,by decide +kernel,by decide +kernel,by decide +kernel⟩ fun _ _ _ _ _ _=>ln2 fun _ _=>rfl,st_ok ⟨rfl,rfl,rfl,by decide +kernel,by decide +kernel,by decide +kernel,by decide +kernel⟩ fun _ _ _ _ _ _=>ln1 fun _=>rfl,st_ok ⟨rfl,rfl,rfl,by decide +kernel,by decide +kernel,by decide +kernel,by decide +kernel⟩ fun _ _ _ _ _ _=>ln2 fun _ _=>rfl,st_ok ⟨rfl,rfl,rfl,by decide +kernel,by decide +kernel,by decide +kernel,by decide +kernel⟩ fun _ _ _ _ _ _=>ln2 fun _ _=>rfl,st_ok ⟨rfl,rfl,rfl,by decide +kernel,by decide +kernel,by decide +kernel,by decide +kernel⟩ fun _ _ _ _ _ _=>ln3 fun _ _ _=>rfl,st_ok ⟨rfl,rfl,rfl,by decide +kernel,by decide +kernel,by decide +kernel,by decide +kernel⟩ fun _ _ _ _ _ _=>ln3 fun _ _ _=>rfl,st_ok ⟨rfl,rfl,rfl,by decide +kernel,by decide +kernel,by decide +kernel,by decide +kernel⟩ fun _ _ _ _ _ _=>ln4 fun _ _ _ _=>rfl,st_ok ⟨rfl,rfl,rfl,by decide +kernel,by decide +kernel,by decide +kernel,by decide +kernel⟩ fun _ _ _ _ _ _=>ln3 fun _ _ _=>rfl,st_ok ⟨rfl,rfl,rfl,by decide +kernel,by decide +kernel,by decide +kernel,by decide +kernel⟩ fun _ _ _ _ _ _=>ln3 fun _ _ _=>rfl,st_ok ⟨rfl,rfl,rfl,by decide +kernel,by decide +kernel,by decide +kernel,by decide +kernel⟩ fun _ _ _ _ _ _=>ln4 fun _ _ _ _=>rfl,st_ok ⟨rfl,rfl,rfl,by decide +kernel,by decide +kernel,by decide +kernel,by decide +kernel⟩ fun _ _ _ _ _ _=>ln1 fun _=>rfl,st_ok ⟨rfl,rfl,rfl,by decide +kernel,by decide +kernel,by decide +kernel,by decide +kernel⟩ fun _ _ _ _ _ _=>ln3 fun _ _ _=>rfl,st_ok ⟨rfl,rfl,rfl,by decide +kernel,by decide +kernel,by decide +kernel,by decide +kernel⟩ fun _ _ _ _ _ _=>ln2 fun _ _=>rfl,st_ok ⟨rfl,rfl,rfl,by decide +kernel,by decide +kernel,by decide +kernel,by decide +kernel⟩ fun _ _ _ _ _ _=>ln2 fun _ _=>rfl,st_ok ⟨rfl,rfl,rfl,by decide +kernel,by decide +kernel,by decide +kernel,by decide +kernel⟩ fun _ _ _ _ _ _=>ln2 fun _ _=>rfl,st_ok ⟨rfl,rfl,rfl,by decide +kernel,by decide +kernel,by decide +kernel,by decide +kernel⟩ fun _ _ _ _ _ _=>ln2 fun _ _=>rfl,st_ok ⟨rfl,rfl,rfl,by decide +kernel,by decide +kernel,by decide +kernel,by decide +kernel⟩ fun _ _ _ _ _ _=>ln2 fun _ _=>rfl,st_ok ⟨rfl,rfl,rfl,by decide +kernel,by decide +kernel,by decide +kernel,by decide +kernel⟩ fun _ _ _ _ _ _=>ln1 fun _=>rfl,st_ok ⟨rfl,rfl,rfl,by decide +kernel,by decide +kernel,by decide +kernel,by decide +kernel⟩ fun _ _ _ _ _ _=>ln1 fun _=>rfl,st_ok ⟨rfl,rfl,rfl,by decide +kernel,by decide +kernel,by decide +kernel,by decide +kernel⟩ fun _ _ _ _ _ _=>ln2 fun _ _=>rfl,st_ok ⟨rfl,rfl,rfl,by decide +kernel,by decide +kernel,by decide +kernel,by decide +kernel⟩ fun _ _ _ _ _ _=>ln2 fun _ _=>rfl,st_ok ⟨rfl,rfl,rfl,by decide +kernel,by decide +kernel,by decide +kernel,by decide +kernel⟩ fun _ _ _ _ _ _=>ln1 fun _=>rfl,st_ok ⟨rfl,rfl,rfl,by decide +kernel,by decide +kernel,by decide +kernel,by decide +kernel⟩ fun _ _ _ _ _ _=>ln3 fun _ _ _=>rfl,st_ok ⟨rfl,rfl,rfl,by decide +kernel,by decide +kernel,by decide +kernel,by decide +kernel⟩ fun _ _ _ _ _ _=>ln4 fun _ _ _ _=>rfl,st_ok ⟨rfl,rfl,rfl,by decide +kernel,by decide +kernel,by decide +kernel,by decide +kernel⟩ fun _ _ _ _ _ _=>ln4 fun _ _ _ _=>rfl,st_ok ⟨rfl,rfl,rfl,by decide +kernel,by decide +kernel,by decide +kernel,by decide +kernel⟩ fun _ _ _ _ _ _=>ln3 fun _ _ _=>rfl,st_ok ⟨rfl,rfl,rfl,by decide +kernel,by decide +kernel,by decide +kernel,by decide +kernel⟩ fun _ _ _ _ _ _=>ln1 fun _=>rfl,trivial⟩
noncomputable def cRows:List (Str×D):=[("PLACE",(.int (0))),("NUMBERS",(.int (1))),("NAMES",(.int (2))),("PARTS",(.int (0))),("ROWS",(.int (1))),("LEFT_STILL",(.int (2)))]
noncomputable def con (x:Str):Option D:=cRows.lookup x
noncomputable def dic (_:Str):Option (List (Str×D)):=none
noncomputable def fld (_ _:Str):Bool:=false
noncomputable def tbm (_ _:Str):Option FnI:=none
noncomputable def mkr (_:Str):Option Str:=none
noncomputable def Tt:Tb:={ tb:=tb,con:=con,dic:=dic,fld:=fld,tbm:=tbm,mkr:=mkr,lam:=fun x=>if x=="pattern_of" then some "zipped" else none }
theorem lenQ4:f4.ps.length=2/\f4.N.length=2:=by decide +kernel
theorem lenQ15:f15.ps.length=2/\f15.N.length=2:=by decide +kernel
theorem lenQ16:f16.ps.length=2/\f16.N.length=2:=by decide +kernel
theorem lenQ17:f17.ps.length=1/\f17.N.length=4:=by decide +kernel
theorem lenQ18:f18.ps.length=1/\f18.N.length=3:=by decide +kernel
theorem lenQ19:f19.ps.length=3/\f19.N.length=5:=by decide +kernel
theorem lenQ20:f20.ps.length=3/\f20.N.length=4:=by decide +kernel
theorem lenQ21:f21.ps.length=3/\f21.N.length=3:=by decide +kernel
theorem lenQ22:f22.ps.length=3/\f22.N.length=3:=by decide +kernel
theorem lenQ23:f23.ps.length=2/\f23.N.length=6:=by decide +kernel
theorem lenQ26:f26.ps.length=2/\f26.N.length=2:=by decide +kernel
theorem lenQ27:f27.ps.length=2/\f27.N.length=3:=by decide +kernel
theorem lenQ28:f28.ps.length=3/\f28.N.length=7:=by decide +kernel
theorem lenQ29:f29.ps.length=3/\f29.N.length=8:=by decide +kernel
theorem lenQ30:f30.ps.length=4/\f30.N.length=9:=by decide +kernel
theorem lenQ31:f31.ps.length=3/\f31.N.length=8:=by decide +kernel
theorem lenQ32:f32.ps.length=3/\f32.N.length=5:=by decide +kernel
theorem lenQ33:f33.ps.length=4/\f33.N.length=14:=by decide +kernel
theorem lenQ34:f34.ps.length=1/\f34.N.length=1:=by decide +kernel
theorem lenQ35:f35.ps.length=3/\f35.N.length=5:=by decide +kernel
theorem lenQ36:f36.ps.length=2/\f36.N.length=18:=by decide +kernel
theorem lenQ37:f37.ps.length=2/\f37.N.length=4:=by decide +kernel
theorem lenQ38:f38.ps.length=2/\f38.N.length=15:=by decide +kernel
theorem lenQ39:f39.ps.length=2/\f39.N.length=4:=by decide +kernel
theorem lenQ40:f40.ps.length=2/\f40.N.length=15:=by decide +kernel
theorem lenQ41:f41.ps.length=1/\f41.N.length=5:=by decide +kernel
theorem lenQ42:f42.ps.length=1/\f42.N.length=4:=by decide +kernel
theorem lenQ43:f43.ps.length=2/\f43.N.length=4:=by decide +kernel
theorem lenQ44:f44.ps.length=2/\f44.N.length=3:=by decide +kernel
theorem lenQ45:f45.ps.length=1/\f45.N.length=5:=by decide +kernel
theorem lenQ46:f46.ps.length=3/\f46.N.length=3:=by decide +kernel
theorem lenQ47:f47.ps.length=4/\f47.N.length=8:=by decide +kernel
theorem lenQ48:f48.ps.length=4/\f48.N.length=11:=by decide +kernel
theorem lenQ49:f49.ps.length=3/\f49.N.length=14:=by decide +kernel
theorem lenQ50:f50.ps.length=1/\f50.N.length=17:=by decide +kernel
theorem lamT:LamDef (top 14) "world" "zipped":=⟨_,_,_,_,_,_,_,_,_,rfl,⟨fun _=>rfl,fun _=>rfl,fun _ _ _ _ _=>⟨_,_,_, "low", "high",_,_,_,_,_,_,_,_,rfl,⟨rfl,rfl,rfl,by decide +kernel,by decide +kernel,by decide +kernel,by decide +kernel⟩,by decide,by decide,by decide,by decide,fun _ _=>rfl⟩⟩,by decide +kernel,by decide,by decide,by decide⟩
theorem tbok {w:World}{K:W.Frag}{h:Heap}{mg:Str->Option Value}(X:K.In h) (G:h.Ns mainGlobals mg) {pl:Addr}(hp:K.lookup pl=some (W.tabObj #[]))(rf:FnsIn K dRows)(rb:BltIn K bltNames)(rc:ConIn K cRows):TbOk w (cut pl K) mg Tt:=by
 have X:=cut_in (pl:=pl) X;have rf:=cut_fns hp rf;have rb:=cut_blt hp rb;have rc:=cut_con hp rc;refine ⟨fun x I hx=>?_,fun x d hx=>?_,fun b hb=>?_,fun x kvs hx=>?_,fun c f hx=>?_,fun c m I hx=>?_,fun c f hx=>?_,fun x y hx=>?_⟩
 ·exact fn_rows X G rf dRows_ok hx
 ·show ConRow (cut pl K) mg x d;change con x=some d at hx;unfold con at hx;exact con_rows X G rc hx
 ·exact blt_rows X G rb b hb
 ·cases hx
 ·cases hx
 ·cases hx
 ·cases hx
 ·change (if x=="pattern_of" then some ("zipped":Str) else none)=some y at hx;split at hx
  ·rename_i e;rw [eq_of_beq e];cases hx
   exact ⟨rfl,fun I hI=>lam_row X G (st:=top 14) (a := "world") rfl lamT rf dRows_ok rfl hI⟩
  ·cases hx
theorem tbL {w:World}{K:W.Frag}{h:Heap}{mg:Str->Option Value}(X:K.In h) (G:h.Ns mainGlobals mg) {pl f c bm:Addr}{oc:Value}{od od2:Option Addr}{fd:FuncData}{sl sl2 bsl:Array (Option Value)}{vs:Array Value}
  (la:W.nsIn K mainGlobals "pattern_of"=some (some (.ref f))) (ll:K.lookup f=some ⟨oc,od,.func fd,sl⟩) (le:fd.code=.ref c) (lc:K.lookup c=some ⟨.type "code",od2,.fields vs,sl2⟩) (lv:vs.getD 11 .none=.ref pl) (lp:K.lookup pl=some (W.tabObj #[])) (lh:W.codeHdIn K c pl=true)
  (lb:W.nsIn K mainGlobals "__builtins__"=some (some (.ref bm))) (lm:K.lookup bm=some ⟨.type "module",some builtinsNs,.plain,bsl⟩) (l6:bm≠builtinsNs) (l7:bm≠mainGlobals)
  (rf:FnsIn K dRows) (rb:BltIn K bltNames) (rc:ConIn K cRows):∃ pl,K.lookup pl=some (W.tabObj #[])/\PlcK K pl/\TbOk w (cut pl K) mg Tt :=
 ⟨pl,lp,⟨f,_,fd,c,bm,_,la,ll,rfl,le,lh,lb,lm,rfl,rfl,rfl,l6,l7⟩,tbok X G lp rf rb rc⟩
noncomputable def Gk (k:Nat):Gb:=GkN Tt k
noncomputable abbrev Bq (I:FnI) (k:Nat):SM:=iSs (Gk (k+1)) fuel {N:=I.N,scope:=I.scope,own:=fun _=>true} I.body
noncomputable def b4 (k:Nat):SM :=
 (seqS (retS (dop eqD (calM (runF (Gk k) fuel f1) (dCons (vr 0) (dCons (vr 1) (Zr [])))) (vr 0)))
 Zn)
theorem b4_eq (k:Nat):Bq f4 k=b4 k:=by kernel_rfl
noncomputable def b15 (k:Nat):SM :=
 (seqS (retS (calM (runF (Gk k) fuel f16) (dCons (calM (lamF (Gk k) "zipped") (dCons (vr 0) (Zr []))) (dCons (vr 1) (Zr [])))))
 Zn)
theorem b15_eq (k:Nat):Bq f15 k=b15 k:=by kernel_rfl
noncomputable def b16 (k:Nat):SM :=
 (seqS (ifS (dNotT (truM (calM (runF (Gk k) fuel f23) (dCons (vr 0) (dCons (vr 1) (Zr []))))))
 (seqS (retS (Zr (.bl false)))
  Zn)
 Zn)
 (seqS (retS (calM allD (dCons (compM (zipM (dCons (calM (runF (Gk k) fuel f17) (dCons (vr 0) (Zr []))) (dCons (calM (runF (Gk k) fuel f17) (dCons (vr 1) (Zr []))) (Zr [])))) [none,none,none] (gTupD [1,2]) (Zr true) (calM (runF (Gk k) fuel f4) (dCons (vr 1) (dCons (vr 2) (Zr []))))) (Zr []))))
 Zn))
theorem b16_eq (k:Nat):Bq f16 k=b16 k:=by kernel_rfl
noncomputable def b17 (k:Nat):SM :=
 (seqS (asgS (lstM (Zr [])) (gSet 1))
 (seqS (forS (srcM (dop ixD (vr 0) (Zr (.int (0))))) (gSet 2)
 (seqS (dropS (methM "list" extendD (vr 1) (dCons (dop ixD (vr 2) (Zr (.int (1)))) (Zr []))))
  Zn))
 (seqS (forS (srcM (calM (runF (Gk k) fuel f18) (dCons (vr 0) (Zr [])))) (gSet 3)
 (seqS (dropS (methM "list" extendD (vr 1) (dCons (compM (srcM (vr 3)) [none,none] (gSet 1) (Zr true) (dop ixD (vr 1) (Zr (.int 1)))) (Zr []))))
  Zn))
 (seqS (retS (vr 1))
 Zn))))
theorem b17_eq (k:Nat):Bq f17 k=b17 k:=by kernel_rfl
noncomputable def b18 (k:Nat):SM :=
 (seqS (asgS (lstM (Zr [])) (gSet 1))
 (seqS (forS (srcM (dop ixD (vr 0) (Zr (.int (1))))) (gSet 2)
 (seqS (dropS (methM "list" extendD (vr 1) (dCons (vr 2) (Zr []))))
  Zn))
 (seqS (retS (vr 1))
 Zn)))
theorem b18_eq (k:Nat):Bq f18 k=b18 k:=by kernel_rfl
noncomputable def b19 (k:Nat):SM :=
 (seqS (asgS (compM (zipM (dCons (dop ixD (vr 0) (Zr (.int (0)))) (dCons (dop ixD (vr 1) (Zr (.int (0)))) (Zr [])))) [none,none,none,some 2] (gTupD [1,2]) (Zr true) (calM (runF (Gk k) fuel f20) (dCons (vr 1) (dCons (vr 2) (dCons (vr 3) (Zr [])))))) (gSet 3))
 (seqS (asgS (compM (zipM (dCons (dop ixD (vr 0) (Zr (.int (1)))) (dCons (dop ixD (vr 1) (Zr (.int (1)))) (Zr [])))) [none,none,none,some 2] (gTupD [1,2]) (Zr true) (calM (runF (Gk k) fuel f21) (dCons (vr 1) (dCons (vr 2) (dCons (vr 3) (Zr [])))))) (gSet 4))
 (seqS (retS (tupM (dCons (calM tupleD (dCons (vr 3) (Zr []))) (dCons (calM tupleD (dCons (vr 4) (Zr []))) (dCons (dop ixD (vr 0) (Zr (.int (2)))) (Zr []))))))
 Zn)))
theorem b19_eq (k:Nat):Bq f19 k=b19 k:=by kernel_rfl
noncomputable def b20 (k:Nat):SM :=
 (seqS (asgS (compM (zipM (dCons (dop ixD (vr 0) (Zr (.int (1)))) (dCons (dop ixD (vr 1) (Zr (.int (1)))) (Zr [])))) [none,none,none,some 2] (gTupD [1,2]) (Zr true) (callL (Gk (k+1)).cal 3 (dCons (vr 1) (dCons (vr 2) (Zr []))))) (gSet 3))
 (seqS (retS (calM (runF (Gk k) fuel f9) (dCons (vr 0) (dCons (Zr (.int (1))) (dCons (calM tupleD (dCons (vr 3) (Zr []))) (Zr []))))))
 Zn))
theorem b20_eq (k:Nat):Bq f20 k=b20 k:=by kernel_rfl
noncomputable def b21 (k:Nat):SM :=
 (seqS (retS (calM tupleD (dCons (compM (zipM (dCons (vr 0) (dCons (vr 1) (Zr [])))) [none,none,none,some 2] (gTupD [1,2]) (Zr true) (calM (runF (Gk k) fuel f22) (dCons (vr 1) (dCons (vr 2) (dCons (vr 3) (Zr [])))))) (Zr []))))
 Zn)
theorem b21_eq (k:Nat):Bq f21 k=b21 k:=by kernel_rfl
noncomputable def b22 (k:Nat):SM :=
 (seqS (retS (calM tupleD (dCons (compM (zipM (dCons (vr 0) (dCons (vr 1) (Zr [])))) [none,none,none,some 2] (gTupD [1,2]) (Zr true) (calM (runF (Gk k) fuel f9) (dCons (vr 1) (dCons (Zr (.int 1)) (dCons (callL (Gk (k+1)).cal 3 (dCons (dop ixD (vr 1) (Zr (.int 1))) (dCons (dop ixD (vr 2) (Zr (.int 1))) (Zr [])))) (Zr [])))))) (Zr []))))
 Zn)
theorem b22_eq (k:Nat):Bq f22 k=b22 k:=by kernel_rfl
noncomputable def b23 (k:Nat):SM :=
 (seqS (ifS (boolD (dop neD (dop ixD (vr 0) (Zr (.int (2)))) (dop ixD (vr 1) (Zr (.int (2))))))
 (seqS (retS (Zr (.bl false)))
  Zn)
 Zn)
 (seqS (forS (zipM (dCons (dop ixD (vr 0) (Zr (.int (0)))) (dCons (dop ixD (vr 1) (Zr (.int (0)))) (Zr [])))) (gTupD [2,3])
 (seqS (ifS (dOrT (boolD (dop neD (dop ixD (vr 2) (Zr (.int (0)))) (dop ixD (vr 3) (Zr (.int (0)))))) (boolD (dop neD (dSl (vr 2) (some (Zr (.int (2)))) none) (dSl (vr 3) (some (Zr (.int (2)))) none))))
  (seqS (retS (Zr (.bl false)))
   Zn)
  Zn)
  Zn))
 (seqS (forS (zipM (dCons (calM (runF (Gk k) fuel f18) (dCons (vr 0) (Zr []))) (dCons (calM (runF (Gk k) fuel f18) (dCons (vr 1) (Zr []))) (Zr [])))) (gTupD [4,5])
 (seqS (ifS (boolD (dop neD (compM (srcM (vr 4)) [none,none] (gSet 1) (Zr true) (calM (runF (Gk k) fuel f24) (dCons (vr 1) (Zr [])))) (compM (srcM (vr 5)) [none,none] (gSet 1) (Zr true) (calM (runF (Gk k) fuel f24) (dCons (vr 1) (Zr []))))))
  (seqS (retS (Zr (.bl false)))
   Zn)
  Zn)
  Zn))
 (seqS (retS (Zr (.bl true)))
 Zn))))
theorem b23_eq (k:Nat):Bq f23 k=b23 k:=by kernel_rfl
noncomputable def b26 (k:Nat):SM :=
 (seqS (ifS (boolD (dop ltD (vr 1) (calM lenD (dCons (vr 0) (Zr [])))))
 (seqS (retS (dop ixD (vr 0) (vr 1)))
  Zn)
 Zn)
 (seqS (retS (Zr (.int 0)))
 Zn))
theorem b26_eq (k:Nat):Bq f26 k=b26 k:=by kernel_rfl
noncomputable def b27 (k:Nat):SM :=
 (seqS (asgS (dop modD (dop mulD (dop addD (dop addD (dop modD (vr 0) (Zr (.int 2147483647))) (dop mulD (Zr (.int 7919)) (vr 1))) (Zr (.int 1))) (Zr (.int 48271))) (Zr (.int 2147483647))) (gSet 2))
 (seqS (retS (dop modD (dop mulD (vr 2) (dop addD (dop fdivD (vr 2) (Zr (.int 1009))) (Zr (.int 69621)))) (Zr (.int 2147483647))))
 Zn))
theorem b27_eq (k:Nat):Bq f27 k=b27 k:=by kernel_rfl
noncomputable def b28 (k:Nat):SM :=
 (seqS (asgS (lstM (Zr [])) (gSet 3))
 (seqS (asgS (dop fdivD (vr 0) (Zr (.int 2))) (gSet 4))
 (seqS (forS (rngM rng1 (dCons (vr 1) (Zr []))) (gSet 5)
 (seqS (ifS (dAndT (boolD (dop eqD (dop modD (vr 0) (Zr (.int 2))) (Zr (.int 0)))) (boolD (dop gtD (vr 4) (Zr (.int 0)))))
  (seqS (dropS (methM "list" appendD (vr 3) (dCons (dop modD (vr 4) (vr 2)) (Zr []))))
   (seqS (asgS (dop fdivD (vr 4) (vr 2)) (gSet 4))
   Zn))
  (seqS (asgS (calM (runF (Gk k) fuel f27) (dCons (vr 0) (dCons (vr 5) (Zr [])))) (gSet 6))
   (seqS (dropS (methM "list" appendD (vr 3) (dCons (dop modD (dop mulD (vr 6) (dop addD (dop fdivD (vr 6) (Zr (.int 613))) (Zr (.int 40692)))) (Zr (.int 2147483399))) (Zr []))))
   Zn)))
  Zn))
 (seqS (retS (vr 3))
 Zn))))
theorem b28_eq (k:Nat):Bq f28 k=b28 k:=by kernel_rfl
noncomputable def b29 (k:Nat):SM :=
 (seqS (asgS (dop modD (dop fdivD (vr 1) (Zr (.int 22))) (Zr (.int 3))) (gSet 3))
 (seqS (asgS (dop modD (dop fdivD (vr 1) (Zr (.int 66))) (Zr (.int 3))) (gSet 4))
 (seqS (asgS (dop modD (dop fdivD (vr 1) (Zr (.int 198))) (dop addD (vr 2) (Zr (.int 1)))) (gSet 5))
 (seqS (asgS (dop subD (dop modD (dop fdivD (vr 1) (Zr (.int 198))) (Zr (.int 9))) (Zr (.int 4))) (gSet 6))
 (seqS (asgS (lstM (dCons (tupM (dCons (Zr (.str "put")) (dCons (vr 3) (dCons (vr 6) (Zr []))))) (dCons (tupM (dCons (Zr (.str "copy")) (dCons (vr 3) (dCons (vr 4) (Zr []))))) (dCons (tupM (dCons (Zr (.str "raise")) (dCons (vr 3) (dCons (vr 6) (Zr []))))) (dCons (tupM (dCons (Zr (.str "sum")) (dCons (vr 3) (dCons (vr 4) (Zr []))))) (Zr [])))))) (gSet 7))
 (seqS (asgS (dop addD (vr 7) (lstM (dCons (tupM (dCons (Zr (.str "choose")) (dCons (vr 3) (dCons (dop addD (Zr (.int 1)) (dop modD (dop fdivD (vr 1) (Zr (.int 198))) (Zr (.int 3)))) (Zr []))))) (dCons (tupM (dCons (Zr (.str "less")) (dCons (vr 3) (dCons (vr 6) (dCons (dop modD (dop fdivD (vr 1) (Zr (.int 1782))) (dop addD (vr 2) (Zr (.int 1)))) (Zr [])))))) (Zr []))))) (gSet 7))
 (seqS (retS (dop ixD (dop addD (vr 7) (lstM (dCons (tupM (dCons (Zr (.str "before")) (dCons (vr 3) (dCons (vr 4) (dCons (vr 5) (Zr [])))))) (dCons (tupM (dCons (Zr (.str "go")) (dCons (vr 5) (Zr [])))) (Zr []))))) (vr 0)))
 Zn)))))))
theorem b29_eq (k:Nat):Bq f29 k=b29 k:=by kernel_rfl
noncomputable def b30 (k:Nat):SM :=
 (seqS (asgS (dop modD (dop fdivD (vr 1) (Zr (.int 22))) (Zr (.int 3))) (gSet 4))
 (seqS (asgS (dop modD (dop fdivD (vr 1) (Zr (.int 66))) (Zr (.int 2))) (gSet 5))
 (seqS (asgS (dop modD (dop fdivD (vr 1) (Zr (.int 198))) (dop addD (vr 2) (Zr (.int 1)))) (gSet 6))
 (seqS (asgS (dop modD (dop fdivD (vr 1) (Zr (.int 12078))) (calM lenD (dCons (vr 3) (Zr [])))) (gSet 7))
 (seqS (asgS (lstM (dCons (tupM (dCons (Zr (.str "me")) (dCons (vr 4) (Zr [])))) (dCons (tupM (dCons (Zr (.str "pick")) (dCons (vr 4) (dCons (vr 7) (Zr []))))) (dCons (tupM (dCons (Zr (.str "alike")) (dCons (vr 4) (dCons (dop modD (dop fdivD (vr 1) (Zr (.int 66))) (Zr (.int 3))) (dCons (vr 6) (Zr [])))))) (dCons (tupM (dCons (Zr (.str "all")) (dCons (vr 5) (dCons (vr 7) (Zr []))))) (Zr [])))))) (gSet 8))
 (seqS (asgS (dop addD (vr 8) (lstM (dCons (tupM (dCons (Zr (.str "empty")) (dCons (vr 5) (Zr [])))) (dCons (tupM (dCons (Zr (.str "join")) (dCons (vr 5) (dCons (vr 4) (Zr []))))) (dCons (tupM (dCons (Zr (.str "out")) (dCons (vr 4) (dCons (vr 5) (dCons (vr 6) (Zr [])))))) (dCons (tupM (dCons (Zr (.str "many")) (dCons (vr 5) (dCons (dop addD (Zr (.int 1)) (vr 4)) (dCons (vr 6) (Zr [])))))) (Zr []))))))) (gSet 8))
 (seqS (ifS (dAndT (boolD (dop eqD (vr 0) (Zr (.int 0)))) (boolD (dop eqD (dop ixD (vr 3) (vr 7)) (Zr (.int 1)))))
 (seqS (retS (tupM (dCons (Zr (.str "only")) (dCons (vr 4) (dCons (vr 7) (Zr []))))))
  Zn)
 Zn)
 (seqS (retS (dop ixD (vr 8) (vr 0)))
 Zn))))))))
theorem b30_eq (k:Nat):Bq f30 k=b30 k:=by kernel_rfl
noncomputable def b31 (k:Nat):SM :=
 (seqS (asgS (dop modD (vr 0) (Zr (.int 22))) (gSet 3))
 (seqS (ifS (boolD (dop ltD (vr 3) (Zr (.int 8))))
 (seqS (retS (calM (runF (Gk k) fuel f29) (dCons (vr 3) (dCons (vr 0) (dCons (vr 1) (Zr []))))))
  Zn)
 Zn)
 (seqS (ifS (boolD (dop ltD (vr 3) (Zr (.int 16))))
 (seqS (retS (calM (runF (Gk k) fuel f30) (dCons (dop subD (vr 3) (Zr (.int 8))) (dCons (vr 0) (dCons (vr 1) (dCons (vr 2) (Zr [])))))))
  Zn)
 Zn)
 (seqS (asgS (dop modD (dop fdivD (vr 0) (Zr (.int 66))) (Zr (.int 3))) (gSet 4))
 (seqS (ifS (boolD (dop ltD (vr 3) (Zr (.int 19))))
 (seqS (retS (tupM (dCons (Zr (.str "send")) (dCons (Zr (.int 0)) (dCons (dop addD (Zr (.int 1)) (dop modD (dop fdivD (vr 0) (Zr (.int 198))) (Zr (.int 3)))) (dCons (vr 4) (dCons (dop modD (dop fdivD (vr 0) (Zr (.int 594))) (Zr (.int 3))) (Zr []))))))))
  Zn)
 Zn)
 (seqS (ifS (boolD (dop eqD (vr 3) (Zr (.int 19))))
 (seqS (retS (tupM (dCons (Zr (.str "bell")) (Zr []))))
  Zn)
 Zn)
 (seqS (asgS (dop modD (dop fdivD (vr 0) (Zr (.int 22))) (Zr (.int 3))) (gSet 5))
 (seqS (asgS (dop modD (dop fdivD (vr 0) (Zr (.int 396))) (dop addD (vr 1) (Zr (.int 1)))) (gSet 6))
 (seqS (asgS (tupM (dCons (tupM (dCons (dop addD (Zr (.int 1)) (dop modD (dop fdivD (vr 0) (Zr (.int 198))) (Zr (.int 2)))) (dCons (vr 5) (dCons (vr 4) (dCons (dop modD (dop addD (vr 4) (Zr (.int 1))) (Zr (.int 3))) (dCons (vr 6) (Zr []))))))) (Zr []))) (gSet 7))
 (seqS (ifS (boolD (dop eqD (dop modD (dop fdivD (vr 0) (Zr (.int 12078))) (Zr (.int 2))) (Zr (.int 0))))
 (seqS (asgS (dop modD (dop fdivD (vr 0) (Zr (.int 24156))) (dop addD (vr 1) (Zr (.int 1)))) (gSet 6))
  (seqS (asgS (dop addD (vr 7) (tupM (dCons (tupM (dCons (Zr (.int 3)) (dCons (vr 4) (dCons (vr 5) (dCons (dop modD (dop addD (vr 5) (Zr (.int 2))) (Zr (.int 3))) (dCons (vr 6) (Zr []))))))) (dCons (tupM (dCons (Zr (.int 0)) (dCons (Zr (.int 0)) (dCons (Zr (.int 0)) (dCons (Zr (.int 1)) (dCons (vr 1) (Zr []))))))) (Zr []))))) (gSet 7))
  Zn))
 Zn)
 (seqS (retS (tupM (dCons (Zr (.str "take")) (dCons (dop ixD (lstM (dCons (negM (Zr (.int 1))) (dCons (negM (Zr (.int 1))) (dCons (vr 5) (Zr []))))) (dop modD (dop fdivD (vr 0) (Zr (.int 198))) (Zr (.int 3)))) (dCons (vr 7) (Zr []))))))
 Zn)))))))))))
theorem b31_eq (k:Nat):Bq f31 k=b31 k:=by kernel_rfl
noncomputable def b32 (k:Nat):SM :=
 (seqS (asgS (lstM (Zr [])) (gSet 3))
 (seqS (forS (rngM rng1 (dCons (calM lenD (dCons (vr 2) (Zr []))) (Zr []))) (gSet 4)
 (seqS (ifS (boolD (dop gtD (dop ixD (vr 2) (vr 4)) (calM intD (dCons (dop eqD (vr 4) (vr 1)) (Zr [])))))
  (seqS (dropS (methM "list" appendD (vr 3) (dCons (vr 4) (Zr []))))
   Zn)
  Zn)
  Zn))
 (seqS (ifS (boolD (dop eqD (vr 3) (lstM (Zr []))))
 (seqS (retS (tupM (dCons (Zr (.str "me")) (dCons (Zr (.int 0)) (Zr [])))))
  Zn)
 Zn)
 (seqS (retS (tupM (dCons (Zr (.str "pick")) (dCons (Zr (.int 0)) (dCons (dop ixD (vr 3) (dop modD (vr 0) (calM lenD (dCons (vr 3) (Zr []))))) (Zr []))))))
 Zn))))
theorem b32_eq (k:Nat):Bq f32 k=b32 k:=by kernel_rfl
noncomputable def b33 (k:Nat):SM :=
 (seqS (asgS (calM (runF (Gk k) fuel f28) (dCons (vr 0) (dCons (dop addD (dop addD (Zr (.int 3)) (vr 1)) (dop mulD (vr 2) (dop addD (vr 3) (Zr (.int 1))))) (dCons (dop powD (Zr (.int 10)) (Zr (.int 6))) (Zr []))))) (gSet 4))
 (seqS (asgS (calM sortedA (dCons (compM (srcM (dSl (vr 4) (some (Zr (.int 3))) (some (dop addD (Zr (.int 3)) (vr 1))))) [none,none,some 2] (gSet 1) (Zr true) (dop modD (vr 1) (vr 2))) (Zr []))) (gSet 5))
 (seqS (asgS (compM (rngM rng1 (dCons (vr 2) (Zr []))) [none,none,some 5] (gSet 1) (Zr true) (methE "tuple" cntT "list" cntL2 (vr 2) (dCons (vr 1) (Zr [])))) (gSet 7))
 (seqS (asgS (lstM (Zr [])) (gSet 8))
 (seqS (forS (rngM rng1 (dCons (vr 2) (Zr []))) (gSet 6)
 (seqS (asgS (dop addD (dop addD (Zr (.int 3)) (vr 1)) (dop mulD (vr 6) (dop addD (vr 3) (Zr (.int 1))))) (gSet 9))
  (seqS (asgS (dSl (vr 4) (some (vr 9)) (some (dop addD (dop addD (vr 9) (vr 3)) (Zr (.int 1))))) (gSet 10))
  (seqS (asgS (dop modD (dop ixD (vr 10) (vr 3)) (dop addD (vr 3) (Zr (.int 1)))) (gSet 11))
  (seqS (asgS (compM (srcM (dSl (vr 10) none (some (vr 11)))) [none,none,some 7,some 11] (gSet 1) (Zr true) (calM (runF (Gk k) fuel f31) (dCons (vr 1) (dCons (vr 3) (dCons (vr 2) (Zr [])))))) (gSet 12))
  (seqS (ifS (dAndT (boolD (dop gtD (vr 11) (Zr (.int 0)))) (boolD (dop eqD (dop modD (dop fdivD (dop ixD (vr 10) (vr 3)) (Zr (.int 60))) (Zr (.int 2))) (Zr (.int 0)))))
  (seqS (asgS (calM (runF (Gk k) fuel f32) (dCons (dop ixD (vr 10) (Zr (.int 0))) (dCons (vr 6) (dCons (vr 7) (Zr []))))) (gSubD (vr 12) (Zr (.int 0))))
   Zn)
  Zn)
  (seqS (dropS (methM "list" appendD (vr 8) (dCons (calM tupleD (dCons (vr 12) (Zr []))) (Zr []))))
  Zn)))))))
 (seqS (asgS (tupM (dCons (dop fdivD (dop modD (dop ixD (vr 4) (Zr (.int 1))) (Zr (.int 3))) (Zr (.int 2))) (dCons (dop fdivD (dop modD (dop ixD (vr 4) (Zr (.int 2))) (Zr (.int 4))) (Zr (.int 3))) (Zr [])))) (gSet 13))
 (seqS (retS (tupM (dCons (dop addD (Zr (.int 1)) (dop modD (dop ixD (vr 4) (Zr (.int 0))) (Zr (.int 2)))) (dCons (vr 13) (dCons (calM tupleD (dCons (vr 8) (Zr []))) (dCons (calM tupleD (dCons (vr 5) (Zr []))) (Zr [])))))))
 Zn)))))))
theorem b33_eq (k:Nat):Bq f33 k=b33 k:=by kernel_rfl
noncomputable def b34 (k:Nat):SM :=
 (seqS (retS (dop ixD (lstM (dCons (dop subD (dop modD (vr 0) (Zr (.int 7))) (Zr (.int 3))) (dCons (dop subD (dop modD (vr 0) (Zr (.int 7))) (Zr (.int 3))) (dCons (dop subD (vr 0) (dop mulD (Zr (.int 5)) (dop powD (Zr (.int 10)) (Zr (.int 5))))) (dCons (dop subD (dop powD (vr 0) (Zr (.int 3))) (dop powD (Zr (.int 10)) (Zr (.int 17)))) (Zr [])))))) (dop modD (dop fdivD (vr 0) (Zr (.int 7))) (Zr (.int 4)))))
 Zn)
theorem b34_eq (k:Nat):Bq f34 k=b34 k:=by kernel_rfl
noncomputable def b35 (k:Nat):SM :=
 (seqS (asgS (lstM (Zr [])) (gSet 3))
 (seqS (forS (srcM (dSl (vr 0) none (some (dop modD (dop fdivD (dop ixD (vr 0) (Zr (.int 0))) (Zr (.int 4096))) (dop addD (vr 1) (Zr (.int 1))))))) (gSet 4)
 (seqS (dropS (methM "list" appendD (vr 3) (dCons (tupM (dCons (dop addD (Zr (.int 1)) (dop modD (vr 4) (Zr (.int 3)))) (dCons (calM (runF (Gk k) fuel f34) (dCons (dop fdivD (vr 4) (Zr (.int 3))) (Zr []))) (dCons (dop subD (dop modD (dop fdivD (vr 4) (Zr (.int 90))) (dop addD (vr 2) (Zr (.int 1)))) (Zr (.int 1))) (Zr []))))) (Zr []))))
  Zn))
 (seqS (retS (calM tupleD (dCons (vr 3) (Zr []))))
 Zn)))
theorem b35_eq (k:Nat):Bq f35 k=b35 k:=by kernel_rfl
noncomputable def b36 (k:Nat):SM :=
 (seqS (asgS (vr 0) (gTupD [2,3,4,5]))
 (seqS (asgS (calM lenD (dCons (vr 5) (Zr []))) (gSet 6))
 (seqS (asgS (calM (runF (Gk k) fuel f28) (dCons (vr 1) (dCons (dop addD (dop mulD (Zr (.int 11)) (vr 6)) (dop mulD (dop mulD (vr 6) (vr 6)) (vr 2))) (dCons (dop powD (Zr (.int 10)) (Zr (.int 6))) (Zr []))))) (gSet 7))
 (seqS (asgS (lstM (Zr [])) (gSet 8))
 (seqS (forS (rngM rng1 (dCons (vr 6) (Zr []))) (gSet 9)
 (seqS (asgS (dSl (vr 7) (some (dop mulD (Zr (.int 11)) (vr 9))) (some (dop addD (dop mulD (Zr (.int 11)) (vr 9)) (Zr (.int 11))))) (gSet 10))
  (seqS (asgS (dop subD (dop modD (dop ixD (vr 10) (Zr (.int 0))) (dop addD (calM lenD (dCons (dop ixD (vr 4) (dop ixD (vr 5) (vr 9))) (Zr []))) (Zr (.int 2)))) (Zr (.int 1))) (gSet 11))
  (seqS (asgS (calM tupleD (dCons (compM (srcM (dSl (vr 10) (some (Zr (.int 1))) (some (Zr (.int 4))))) [none,none] (gSet 1) (Zr true) (calM (runF (Gk k) fuel f34) (dCons (vr 1) (Zr [])))) (Zr []))) (gSet 12))
  (seqS (asgS (calM tupleD (dCons (compM (srcM (dSl (vr 10) (some (Zr (.int 4))) (some (Zr (.int 7))))) [none,none,some 6] (gSet 1) (Zr true) (dop subD (dop modD (vr 1) (dop addD (vr 2) (Zr (.int 1)))) (Zr (.int 1)))) (Zr []))) (gSet 13))
  (seqS (dropS (methM "list" appendD (vr 8) (dCons (tupM (dCons (vr 11) (dCons (vr 12) (dCons (vr 13) (dCons (tupM (dCons (dop modD (dop ixD (vr 10) (Zr (.int 7))) (dop shlD (Zr (.int 1)) (vr 6))) (dCons (dop modD (dop ixD (vr 10) (Zr (.int 8))) (dop shlD (Zr (.int 1)) (vr 6))) (Zr [])))) (dCons (dop eqD (dop modD (dop ixD (vr 10) (Zr (.int 9))) (Zr (.int 2))) (Zr (.int 1))) (Zr []))))))) (Zr []))))
  Zn))))))
 (seqS (asgS (lstM (Zr [])) (gSet 14))
 (seqS (asgS (dop mulD (Zr (.int 11)) (vr 6)) (gSet 15))
 (seqS (forS (rngM rng1 (dCons (vr 6) (Zr []))) (gSet 9)
 (seqS (asgS (lstM (Zr [])) (gSet 16))
  (seqS (forS (rngM rng1 (dCons (vr 6) (Zr []))) (gSet 17)
  (seqS (dropS (methM "list" appendD (vr 16) (dCons (calM (runF (Gk k) fuel f35) (dCons (dSl (vr 7) (some (vr 15)) (some (dop addD (vr 15) (vr 2)))) (dCons (vr 2) (dCons (vr 6) (Zr []))))) (Zr []))))
   (seqS (asgS (dop addD (vr 15) (vr 2)) (gSet 15))
   Zn)))
  (seqS (dropS (methM "list" appendD (vr 14) (dCons (calM tupleD (dCons (vr 16) (Zr []))) (Zr []))))
  Zn))))
 (seqS (retS (tupM (dCons (calM tupleD (dCons (vr 8) (Zr []))) (dCons (calM tupleD (dCons (vr 14) (Zr []))) (dCons (tupM (dCons (dop modD (dop ixD (vr 7) (Zr (.int 10))) (dop addD (dop ixD (vr 3) (Zr (.int 0))) (Zr (.int 1)))) (dCons (dop modD (dop fdivD (dop ixD (vr 7) (Zr (.int 10))) (Zr (.int 7))) (dop addD (dop ixD (vr 3) (Zr (.int 1))) (Zr (.int 1)))) (Zr [])))) (Zr []))))))
 Zn)))))))))
theorem b36_eq (k:Nat):Bq f36 k=b36 k:=by kernel_rfl
noncomputable def b37 (k:Nat):SM :=
 (seqS (asgS (dop subD (vr 0) (dop ixD (lstM (dCons (Zr (.int 0)) (dCons (Zr (.int 1)) (dCons (dop modD (dop fdivD (vr 1) (Zr (.int 16))) (Zr (.int 10))) (dCons (vr 1) (Zr [])))))) (dop modD (vr 1) (Zr (.int 4))))) (gSet 2))
 (seqS (asgS (dop addD (vr 0) (dop ixD (lstM (dCons (Zr (.int 0)) (dCons (Zr (.int 1)) (dCons (dop modD (dop fdivD (vr 1) (Zr (.int 64))) (Zr (.int 10))) (dCons (vr 1) (Zr [])))))) (dop modD (dop fdivD (vr 1) (Zr (.int 4))) (Zr (.int 4))))) (gSet 3))
 (seqS (retS (dop ixD (lstM (dCons (tupM (dCons (vr 2) (dCons (vr 3) (Zr [])))) (dCons (tupM (dCons (vr 2) (dCons (vr 3) (Zr [])))) (dCons (tupM (dCons (Zr .non) (dCons (vr 3) (Zr [])))) (dCons (tupM (dCons (vr 2) (dCons (Zr .non) (Zr [])))) (dCons (tupM (dCons (Zr .non) (dCons (Zr .non) (Zr [])))) (dCons (tupM (dCons (vr 0) (dCons (vr 0) (Zr [])))) (Zr [])))))))) (dop modD (dop fdivD (vr 1) (Zr (.int 7))) (Zr (.int 6)))))
 Zn)))
theorem b37_eq (k:Nat):Bq f37 k=b37 k:=by kernel_rfl
noncomputable def b38 (k:Nat):SM :=
 (seqS (asgS (dop addD (dop mulD (Zr (.int 3)) (calM lenD (dCons (dop ixD (vr 0) (Zr (.int 0))) (Zr [])))) (calM sumD (dCons (compM (srcM (dop ixD (vr 0) (Zr (.int 1)))) [none,none] (gSet 1) (Zr true) (calM sumD (dCons (compM (srcM (vr 1)) [none,none] (gSet 1) (Zr true) (calM lenD (dCons (vr 1) (Zr [])))) (Zr [])))) (Zr [])))) (gSet 4))
 (seqS (asgS (calM (runF (Gk k) fuel f28) (dCons (vr 1) (dCons (vr 4) (dCons (dop powD (Zr (.int 10)) (Zr (.int 4))) (Zr []))))) (gSet 5))
 (seqS (asgS (lstM (Zr [])) (gSet 6))
 (seqS (forS (srcM (dop ixD (vr 0) (Zr (.int 0)))) (gTupD [7,8,9,10,11])
 (seqS (asgS (calM tupleD (dCons (compM (srcM (vr 8)) [none,none,some 5] (gSet 1) (Zr true) (calM (runF (Gk k) fuel f37) (dCons (vr 1) (dCons (methM "list" popAtD (vr 2) (dCons (Zr (.int 0)) (Zr []))) (Zr []))))) (Zr []))) (gSet 12))
  (seqS (dropS (methM "list" appendD (vr 6) (dCons (tupM (dCons (vr 7) (dCons (vr 12) (dCons (vr 9) (dCons (vr 10) (dCons (vr 11) (Zr []))))))) (Zr []))))
  Zn)))
 (seqS (asgS (lstM (Zr [])) (gSet 13))
 (seqS (forS (srcM (dop ixD (vr 0) (Zr (.int 1)))) (gSet 2)
 (seqS (asgS (lstM (Zr [])) (gSet 14))
  (seqS (forS (srcM (vr 2)) (gSet 3)
  (seqS (dropS (methM "list" appendD (vr 14) (dCons (calM tupleD (dCons (compM (srcM (vr 3)) [none,none,none,none,some 5] (gTupD [1,2,3]) (Zr true) (tupM (dCons (vr 1) (dCons (calM (runF (Gk k) fuel f37) (dCons (vr 2) (dCons (methM "list" popAtD (vr 4) (dCons (Zr (.int 0)) (Zr []))) (Zr [])))) (dCons (vr 3) (Zr [])))))) (Zr []))) (Zr []))))
   Zn))
  (seqS (dropS (methM "list" appendD (vr 13) (dCons (calM tupleD (dCons (vr 14) (Zr []))) (Zr []))))
  Zn))))
 (seqS (retS (tupM (dCons (calM tupleD (dCons (vr 6) (Zr []))) (dCons (calM tupleD (dCons (vr 13) (Zr []))) (dCons (dop ixD (vr 0) (Zr (.int 2))) (Zr []))))))
 Zn)))))))
theorem b38_eq (k:Nat):Bq f38 k=b38 k:=by kernel_rfl
noncomputable def b39 (k:Nat):SM :=
 (seqS (asgS (vr 0) (gTupD [2,3]))
 (seqS (ifS (dAndT (boolD (dop (isD false) (vr 2) (Zr .non))) (boolD (dop (isD false) (vr 3) (Zr .non))))
 (seqS (retS (dop subD (vr 1) (Zr (.int 5000))))
  Zn)
 Zn)
 (seqS (ifS (boolD (dop (isD false) (vr 2) (Zr .non)))
 (seqS (retS (dop subD (vr 3) (vr 1)))
  Zn)
 Zn)
 (seqS (ifS (boolD (dop (isD false) (vr 3) (Zr .non)))
 (seqS (retS (dop addD (vr 2) (vr 1)))
  Zn)
 Zn)
 (seqS (retS (dop addD (vr 2) (dop modD (vr 1) (dop addD (dop subD (vr 3) (vr 2)) (Zr (.int 1))))))
 Zn)))))
theorem b39_eq (k:Nat):Bq f39 k=b39 k:=by kernel_rfl
noncomputable def b40 (k:Nat):SM :=
 (seqS (asgS (dop addD (dop mulD (Zr (.int 3)) (calM lenD (dCons (dop ixD (vr 0) (Zr (.int 0))) (Zr [])))) (calM sumD (dCons (compM (srcM (dop ixD (vr 0) (Zr (.int 1)))) [none,none] (gSet 1) (Zr true) (calM sumD (dCons (compM (srcM (vr 1)) [none,none] (gSet 1) (Zr true) (calM lenD (dCons (vr 1) (Zr [])))) (Zr [])))) (Zr [])))) (gSet 4))
 (seqS (asgS (calM (runF (Gk k) fuel f28) (dCons (vr 1) (dCons (vr 4) (dCons (dop powD (Zr (.int 10)) (Zr (.int 4))) (Zr []))))) (gSet 5))
 (seqS (asgS (lstM (Zr [])) (gSet 6))
 (seqS (forS (srcM (dop ixD (vr 0) (Zr (.int 0)))) (gTupD [7,8,9,10,11])
 (seqS (asgS (calM tupleD (dCons (compM (srcM (vr 8)) [none,none,some 5] (gSet 1) (Zr true) (calM (runF (Gk k) fuel f39) (dCons (vr 1) (dCons (methM "list" popAtD (vr 2) (dCons (Zr (.int 0)) (Zr []))) (Zr []))))) (Zr []))) (gSet 12))
  (seqS (dropS (methM "list" appendD (vr 6) (dCons (tupM (dCons (vr 7) (dCons (vr 12) (dCons (vr 9) (dCons (vr 10) (dCons (vr 11) (Zr []))))))) (Zr []))))
  Zn)))
 (seqS (asgS (lstM (Zr [])) (gSet 13))
 (seqS (forS (srcM (dop ixD (vr 0) (Zr (.int 1)))) (gSet 2)
 (seqS (asgS (lstM (Zr [])) (gSet 14))
  (seqS (forS (srcM (vr 2)) (gSet 3)
  (seqS (dropS (methM "list" appendD (vr 14) (dCons (calM tupleD (dCons (compM (srcM (vr 3)) [none,none,none,none,some 5] (gTupD [1,2,3]) (Zr true) (tupM (dCons (vr 1) (dCons (calM (runF (Gk k) fuel f39) (dCons (vr 2) (dCons (methM "list" popAtD (vr 4) (dCons (Zr (.int 0)) (Zr []))) (Zr [])))) (dCons (vr 3) (Zr [])))))) (Zr []))) (Zr []))))
   Zn))
  (seqS (dropS (methM "list" appendD (vr 13) (dCons (calM tupleD (dCons (vr 14) (Zr []))) (Zr []))))
  Zn))))
 (seqS (retS (tupM (dCons (calM tupleD (dCons (vr 6) (Zr []))) (dCons (calM tupleD (dCons (vr 13) (Zr []))) (dCons (dop ixD (vr 0) (Zr (.int 2))) (Zr []))))))
 Zn)))))))
theorem b40_eq (k:Nat):Bq f40 k=b40 k:=by kernel_rfl
noncomputable def b41 (k:Nat):SM :=
 (seqS (asgS (lstM (Zr [])) (gSet 1))
 (seqS (forS (srcM (dop ixD (vr 0) (Zr (.int 0)))) (gSet 2)
 (seqS (asgS (dop addD (vr 1) (calM listD (dCons (dop ixD (vr 2) (Zr (.int 1))) (Zr [])))) (gSet 1))
  Zn))
 (seqS (forS (srcM (dop ixD (vr 0) (Zr (.int 1)))) (gSet 3)
 (seqS (forS (srcM (vr 3)) (gSet 4)
  (seqS (asgS (dop addD (vr 1) (compM (srcM (vr 4)) [none,none] (gSet 1) (Zr true) (dop ixD (vr 1) (Zr (.int 1))))) (gSet 1))
   Zn))
  Zn))
 (seqS (retS (vr 1))
 Zn))))
theorem b41_eq (k:Nat):Bq f41 k=b41 k:=by kernel_rfl
noncomputable def b42 (k:Nat):SM :=
 (seqS (asgS (compM (srcM (dop ixD (vr 0) (Zr (.int 0)))) [none,none] (gSet 1) (Zr true) (dop addD (tupM (dCons (dop ixD (vr 1) (Zr (.int 0))) (Zr []))) (dSl (vr 1) (some (Zr (.int 2))) none))) (gSet 1))
 (seqS (asgS (lstM (Zr [])) (gSet 2))
 (seqS (forS (srcM (dop ixD (vr 0) (Zr (.int 1)))) (gSet 3)
 (seqS (dropS (methM "list" appendD (vr 2) (dCons (compM (srcM (vr 3)) [none,none] (gSet 1) (Zr true) (compM (srcM (vr 1)) [none,none] (gSet 1) (Zr true) (tupM (dCons (dop ixD (vr 1) (Zr (.int 0))) (dCons (dop ixD (vr 1) (Zr (.int 2))) (Zr [])))))) (Zr []))))
  Zn))
 (seqS (retS (tupM (dCons (vr 1) (dCons (vr 2) (dCons (dop ixD (vr 0) (Zr (.int 2))) (Zr []))))))
 Zn))))
theorem b42_eq (k:Nat):Bq f42 k=b42 k:=by kernel_rfl
noncomputable def b43 (k:Nat):SM :=
 (seqS (asgS (vr 0) (gTupD [2,3]))
 (seqS (ifS (dAndT (boolD (dop (isD true) (dop ixD (vr 1) (Zr (.int 0))) (Zr .non))) (dOrT (boolD (dop (isD false) (vr 2) (Zr .non))) (boolD (dop ltD (vr 2) (dop ixD (vr 1) (Zr (.int 0)))))))
 (seqS (retS (Zr (.bl false)))
  Zn)
 Zn)
 (seqS (retS (dOrV (dop (isD false) (dop ixD (vr 1) (Zr (.int 1))) (Zr .non)) (dAndV (dop (isD true) (vr 3) (Zr .non)) (dop leD (vr 3) (dop ixD (vr 1) (Zr (.int 1)))))))
 Zn)))
theorem b43_eq (k:Nat):Bq f43 k=b43 k:=by kernel_rfl
noncomputable def b44 (k:Nat):SM :=
 (seqS (ifS (boolD (dop neD (calM (runF (Gk k) fuel f42) (dCons (vr 0) (Zr []))) (calM (runF (Gk k) fuel f42) (dCons (vr 1) (Zr [])))))
 (seqS (retS (Zr (.bl false)))
  Zn)
 Zn)
 (seqS (asgS (calM listZipD (dCons (calM (runF (Gk k) fuel f41) (dCons (vr 0) (Zr []))) (dCons (calM (runF (Gk k) fuel f41) (dCons (vr 1) (Zr []))) (Zr [])))) (gSet 2))
 (seqS (retS (dop eqD (compM (srcM (vr 2)) [none,none,none] (gTupD [1,2]) (dNotT (truM (calM (runF (Gk k) fuel f43) (dCons (vr 1) (dCons (vr 2) (Zr [])))))) (Zr (.int 1))) (lstM (Zr []))))
 Zn)))
theorem b44_eq (k:Nat):Bq f44 k=b44 k:=by kernel_rfl
noncomputable def b45 (k:Nat):SM :=
 (seqS (asgS (lstM (Zr [])) (gSet 1))
 (seqS (forS (srcM (dop ixD (vr 0) (Zr (.int 0)))) (gSet 2)
 (seqS (dropS (methM "list" appendD (vr 1) (dCons (dop addD (tupM (dCons (dop ixD (vr 2) (Zr (.int 0))) (dCons (calM tupleD (dCons (compM (srcM (dop ixD (vr 2) (Zr (.int 1)))) [none,none] (gSet 1) (Zr true) (tupM (dCons (vr 1) (dCons (vr 1) (Zr []))))) (Zr []))) (Zr [])))) (dSl (vr 2) (some (Zr (.int 2))) none)) (Zr []))))
  Zn))
 (seqS (asgS (lstM (Zr [])) (gSet 3))
 (seqS (forS (srcM (dop ixD (vr 0) (Zr (.int 1)))) (gSet 4)
 (seqS (dropS (methM "list" appendD (vr 3) (dCons (calM tupleD (dCons (compM (srcM (vr 4)) [none,none] (gSet 1) (Zr true) (calM tupleD (dCons (compM (srcM (vr 1)) [none,none] (gSet 1) (Zr true) (tupM (dCons (dop ixD (vr 1) (Zr (.int 0))) (dCons (tupM (dCons (dop ixD (vr 1) (Zr (.int 1))) (dCons (dop ixD (vr 1) (Zr (.int 1))) (Zr [])))) (dCons (dop ixD (vr 1) (Zr (.int 2))) (Zr [])))))) (Zr [])))) (Zr []))) (Zr []))))
  Zn))
 (seqS (retS (tupM (dCons (calM tupleD (dCons (vr 1) (Zr []))) (dCons (calM tupleD (dCons (vr 3) (Zr []))) (dCons (dop ixD (vr 0) (Zr (.int 2))) (Zr []))))))
 Zn)))))
theorem b45_eq (k:Nat):Bq f45 k=b45 k:=by kernel_rfl
noncomputable def b46 (k:Nat):SM :=
 (seqS (retS (dop addD (dop addD (dSl (vr 0) none (some (vr 1))) (tupM (dCons (vr 2) (Zr [])))) (dSl (vr 0) (some (dop addD (vr 1) (Zr (.int 1)))) none)))
 Zn)
theorem b46_eq (k:Nat):Bq f46 k=b46 k:=by kernel_rfl
noncomputable def b47 (k:Nat):SM :=
 (seqS (asgS (dop modD (dop fdivD (vr 3) (Zr (.int 6))) (calM maxD2 (dCons (Zr (.int 1)) (dCons (calM lenD (dCons (vr 0) (Zr []))) (Zr []))))) (gSet 4))
 (seqS (ifS (dOrT (boolD (dop eqD (vr 0) (tupM (Zr [])))) (dAndT (boolD (dop eqD (dop modD (vr 3) (Zr (.int 6))) (Zr (.int 3)))) (boolD (dop ltD (calM lenD (dCons (vr 0) (Zr []))) (vr 1)))))
 (seqS (retS (dop addD (vr 0) (tupM (dCons (tupM (dCons (dop addD (Zr (.int 1)) (dop modD (dop fdivD (vr 3) (Zr (.int 6))) (Zr (.int 12)))) (dCons (Zr (.int 0)) (dCons (negM (Zr (.int 1))) (Zr []))))) (Zr [])))))
  Zn)
 Zn)
 (seqS (asgS (dop ixD (vr 0) (vr 4)) (gTupD [5,6,7]))
 (seqS (ifS (boolD (dop eqD (dop modD (vr 3) (Zr (.int 6))) (Zr (.int 0))))
 (seqS (retS (calM (runF (Gk k) fuel f46) (dCons (vr 0) (dCons (vr 4) (dCons (tupM (dCons (dop addD (dop modD (vr 5) (Zr (.int 12))) (Zr (.int 1))) (dCons (vr 6) (dCons (vr 7) (Zr []))))) (Zr []))))))
  Zn)
 Zn)
 (seqS (ifS (boolD (dop eqD (dop modD (vr 3) (Zr (.int 6))) (Zr (.int 1))))
 (seqS (retS (calM (runF (Gk k) fuel f46) (dCons (vr 0) (dCons (vr 4) (dCons (tupM (dCons (vr 5) (dCons (vr 6) (dCons (dop subD (dop modD (dop addD (vr 7) (Zr (.int 2))) (dop addD (vr 2) (Zr (.int 1)))) (Zr (.int 1))) (Zr []))))) (Zr []))))))
  Zn)
 Zn)
 (seqS (ifS (boolD (dop eqD (dop modD (vr 3) (Zr (.int 6))) (Zr (.int 2))))
 (seqS (retS (calM (runF (Gk k) fuel f46) (dCons (vr 0) (dCons (vr 4) (dCons (tupM (dCons (vr 5) (dCons (dop addD (vr 6) (dop ixD (lstM (dCons (Zr (.int 1)) (dCons (negM (Zr (.int 1))) (Zr [])))) (dop modD (dop fdivD (vr 3) (Zr (.int 36))) (Zr (.int 2))))) (dCons (vr 7) (Zr []))))) (Zr []))))))
  Zn)
 Zn)
 (seqS (ifS (dAndT (boolD (dop eqD (dop modD (vr 3) (Zr (.int 6))) (Zr (.int 5)))) (boolD (dop gtD (calM lenD (dCons (vr 0) (Zr []))) (Zr (.int 1)))))
 (seqS (retS (revM (vr 0)))
  Zn)
 Zn)
 (seqS (retS (dop addD (dSl (vr 0) none (some (vr 4))) (dSl (vr 0) (some (dop addD (vr 4) (Zr (.int 1)))) none)))
 Zn))))))))
theorem b47_eq (k:Nat):Bq f47 k=b47 k:=by kernel_rfl
noncomputable def b48 (k:Nat):SM :=
 (seqS (asgS (dop modD (vr 3) (Zr (.int 10))) (gSet 4))
 (seqS (asgS (dop modD (dop fdivD (vr 3) (Zr (.int 10))) (Zr (.int 3))) (gSet 5))
 (seqS (asgS (vr 0) (gTupD [6,7,8,9,10]))
 (seqS (ifS (boolD (dop ltD (vr 4) (Zr (.int 3))))
 (seqS (asgS (calM (runF (Gk k) fuel f46) (dCons (vr 7) (dCons (vr 5) (dCons (dop addD (dop ixD (vr 7) (vr 5)) (dop ixD (lstM (dCons (Zr (.int 1)) (dCons (negM (Zr (.int 1))) (Zr [])))) (dop modD (dop fdivD (vr 3) (Zr (.int 30))) (Zr (.int 2))))) (Zr []))))) (gSet 7))
  Zn)
 (seqS (ifS (boolD (dop ltD (vr 4) (Zr (.int 5))))
  (seqS (asgS (calM (runF (Gk k) fuel f46) (dCons (vr 8) (dCons (vr 5) (dCons (dop subD (dop modD (dop addD (dop ixD (vr 8) (vr 5)) (Zr (.int 2))) (dop addD (vr 2) (Zr (.int 1)))) (Zr (.int 1))) (Zr []))))) (gSet 8))
   Zn)
  (seqS (ifS (boolD (dop ltD (vr 4) (Zr (.int 7))))
   (seqS (asgS (calM (runF (Gk k) fuel f46) (dCons (vr 9) (dCons (dop modD (vr 5) (Zr (.int 2))) (dCons (dop bxorD (dop ixD (vr 9) (dop modD (vr 5) (Zr (.int 2)))) (dop shlD (Zr (.int 1)) (dop modD (dop fdivD (vr 3) (Zr (.int 30))) (vr 2)))) (Zr []))))) (gSet 9))
    Zn)
   (seqS (ifS (boolD (dop eqD (vr 4) (Zr (.int 7))))
    (seqS (asgS (dop subD (dop modD (dop addD (vr 6) (Zr (.int 2))) (dop addD (vr 1) (Zr (.int 2)))) (Zr (.int 1))) (gSet 6))
     Zn)
    (seqS (asgS (notV (vr 10)) (gSet 10))
     Zn))
    Zn))
   Zn))
  Zn))
 (seqS (retS (tupM (dCons (vr 6) (dCons (vr 7) (dCons (vr 8) (dCons (vr 9) (dCons (vr 10) (Zr []))))))))
 Zn)))))
theorem b48_eq (k:Nat):Bq f48 k=b48 k:=by kernel_rfl
noncomputable def b49 (k:Nat):SM :=
 (seqS (asgS (vr 0) (gTupD [3,4,5,6]))
 (seqS (asgS (calM lenD (dCons (vr 6) (Zr []))) (gSet 7))
 (seqS (asgS (dop modD (dop fdivD (vr 2) (Zr (.int 16))) (vr 7)) (gSet 8))
 (seqS (ifS (boolD (dop eqD (dop modD (vr 2) (Zr (.int 16))) (Zr (.int 0))))
 (seqS (asgS (dop modD (dop fdivD (vr 2) (Zr (.int 64))) (Zr (.int 2))) (gSet 9))
  (seqS (retS (tupM (dCons (dop ixD (vr 1) (Zr (.int 0))) (dCons (dop ixD (vr 1) (Zr (.int 1))) (dCons (calM (runF (Gk k) fuel f46) (dCons (dop ixD (vr 1) (Zr (.int 2))) (dCons (vr 9) (dCons (dop subD (dop ixD (vr 4) (vr 9)) (dop ixD (dop ixD (vr 1) (Zr (.int 2))) (vr 9))) (Zr []))))) (Zr []))))))
  Zn))
 Zn)
 (seqS (ifS (boolD (dop ltD (dop modD (vr 2) (Zr (.int 16))) (Zr (.int 8))))
 (seqS (asgS (dop modD (dop fdivD (vr 2) (Zr (.int 64))) (vr 7)) (gSet 10))
  (seqS (asgS (calM (runF (Gk k) fuel f47) (dCons (dop ixD (dop ixD (dop ixD (vr 1) (Zr (.int 1))) (vr 8)) (vr 10)) (dCons (vr 3) (dCons (vr 7) (dCons (dop fdivD (vr 2) (Zr (.int 256))) (Zr [])))))) (gSet 11))
  (seqS (asgS (calM (runF (Gk k) fuel f46) (dCons (dop ixD (dop ixD (vr 1) (Zr (.int 1))) (vr 8)) (dCons (vr 10) (dCons (vr 11) (Zr []))))) (gSet 12))
  (seqS (retS (tupM (dCons (dop ixD (vr 1) (Zr (.int 0))) (dCons (calM (runF (Gk k) fuel f46) (dCons (dop ixD (vr 1) (Zr (.int 1))) (dCons (vr 8) (dCons (vr 12) (Zr []))))) (dCons (dop ixD (vr 1) (Zr (.int 2))) (Zr []))))))
  Zn))))
 Zn)
 (seqS (asgS (calM (runF (Gk k) fuel f48) (dCons (dop ixD (dop ixD (vr 1) (Zr (.int 0))) (vr 8)) (dCons (calM lenD (dCons (dop ixD (vr 5) (dop ixD (vr 6) (vr 8))) (Zr []))) (dCons (vr 7) (dCons (dop fdivD (vr 2) (Zr (.int 256))) (Zr [])))))) (gSet 13))
 (seqS (retS (tupM (dCons (calM (runF (Gk k) fuel f46) (dCons (dop ixD (vr 1) (Zr (.int 0))) (dCons (vr 8) (dCons (vr 13) (Zr []))))) (dCons (dop ixD (vr 1) (Zr (.int 1))) (dCons (dop ixD (vr 1) (Zr (.int 2))) (Zr []))))))
 Zn)))))))
theorem b49_eq (k:Nat):Bq f49 k=b49 k:=by kernel_rfl
noncomputable def b50 (k:Nat):SM :=
 (seqS (asgS (dop addD (Zr (.int 1)) (dop modD (calM (runF (Gk k) fuel f26) (dCons (vr 0) (dCons (Zr (.int 0)) (Zr [])))) (Zr (.int 4)))) (gSet 1))
 (seqS (asgS (dop addD (Zr (.int 1)) (dop modD (dop fdivD (calM (runF (Gk k) fuel f26) (dCons (vr 0) (dCons (Zr (.int 0)) (Zr [])))) (Zr (.int 4))) (Zr (.int 3)))) (gSet 2))
 (seqS (asgS (calM (runF (Gk k) fuel f33) (dCons (calM (runF (Gk k) fuel f26) (dCons (vr 0) (dCons (Zr (.int 1)) (Zr [])))) (dCons (vr 1) (dCons (vr 2) (dCons (Zr (.int 6)) (Zr [])))))) (gSet 3))
 (seqS (forS (rngM rng3 (dCons (Zr (.int 2)) (dCons (calM maxD2 (dCons (Zr (.int 5)) (dCons (calM minD2 (dCons (Zr (.int 32)) (dCons (calM lenD (dCons (vr 0) (Zr []))) (Zr [])))) (Zr [])))) (dCons (Zr (.int 3)) (Zr []))))) (gSet 4)
 (seqS (asgS (calM (runF (Gk k) fuel f36) (dCons (vr 3) (dCons (calM (runF (Gk k) fuel f26) (dCons (vr 0) (dCons (vr 4) (Zr [])))) (Zr [])))) (gSet 5))
  (seqS (asgS (calM (runF (Gk k) fuel f26) (dCons (vr 0) (dCons (dop addD (vr 4) (Zr (.int 1))) (Zr [])))) (gSet 6))
  (seqS (asgS (lstM (dCons (calM (runF (Gk k) fuel f38) (dCons (vr 5) (dCons (vr 6) (Zr [])))) (dCons (calM (runF (Gk k) fuel f38) (dCons (vr 5) (dCons (dop addD (dop fdivD (vr 6) (Zr (.int 2))) (vr 4)) (Zr [])))) (Zr [])))) (gSet 7))
  (seqS (asgS (calM (runF (Gk k) fuel f26) (dCons (vr 0) (dCons (dop addD (vr 4) (Zr (.int 2))) (Zr [])))) (gSet 8))
  (seqS (asgS (lstM (dCons (vr 5) (dCons (calM (runF (Gk k) fuel f40) (dCons (dop ixD (vr 7) (Zr (.int 0))) (dCons (vr 8) (Zr [])))) (dCons (calM (runF (Gk k) fuel f40) (dCons (dop ixD (vr 7) (Zr (.int 1))) (dCons (vr 8) (Zr [])))) (Zr []))))) (gSet 9))
  (seqS (asgS (calM (runF (Gk k) fuel f36) (dCons (vr 3) (dCons (vr 8) (Zr [])))) (gSet 10))
  (seqS (ifS (boolD (dop eqD (dop modD (vr 8) (Zr (.int 2))) (Zr (.int 0))))
  (seqS (asgS (calM (runF (Gk k) fuel f49) (dCons (vr 3) (dCons (dop ixD (vr 9) (dop modD (dop fdivD (vr 8) (Zr (.int 2))) (Zr (.int 3)))) (dCons (dop fdivD (vr 8) (Zr (.int 6))) (Zr []))))) (gSet 10))
   Zn)
  Zn)
  (seqS (dropS (methM "list" appendD (vr 9) (dCons (vr 10) (Zr []))))
  (seqS (asgS (compM (srcM (vr 9)) [none,none] (gSet 1) (Zr true) (calM (runF (Gk k) fuel f45) (dCons (vr 1) (Zr [])))) (gSet 12))
  (seqS (ifS (boolD (dop neD (compM (srcM (vr 9)) [none,none] (gSet 1) (Zr true) (calM (lamF (Gk k) "zipped") (dCons (vr 1) (Zr [])))) (vr 12)))
  (seqS (retS (Zr (.bl false)))
   Zn)
  Zn)
  (seqS (forS (srcM (vr 7)) (gSet 13)
  (seqS (forS (zipM (dCons (vr 12) (dCons (vr 9) (Zr [])))) (gTupD [14,11])
   (seqS (asgS (calM (runF (Gk k) fuel f44) (dCons (vr 14) (dCons (vr 13) (Zr [])))) (gSet 15))
    (seqS (ifS (dOrT (boolD (dop neD (calM (runF (Gk k) fuel f15) (dCons (vr 11) (dCons (vr 13) (Zr [])))) (vr 15))) (boolD (dop neD (calM (runF (Gk k) fuel f16) (dCons (vr 14) (dCons (vr 13) (Zr [])))) (vr 15))))
    (seqS (retS (Zr (.bl false)))
     Zn)
    Zn)
    Zn)))
   Zn))
  (seqS (forS (srcM (dop addD (vr 7) (dSl (vr 12) none (some (Zr (.int 2)))))) (gSet 11)
  (seqS (forS (srcM (dop addD (vr 7) (dSl (vr 12) none (some (Zr (.int 2)))))) (gSet 16)
   (seqS (ifS (boolD (dop neD (calM (runF (Gk k) fuel f16) (dCons (vr 11) (dCons (vr 16) (Zr [])))) (calM (runF (Gk k) fuel f44) (dCons (vr 11) (dCons (vr 16) (Zr []))))))
    (seqS (retS (Zr (.bl false)))
     Zn)
    Zn)
    Zn))
   Zn))
  Zn)))))))))))))
 (seqS (retS (Zr (.bl true)))
 Zn)))))
theorem b50_eq (k:Nat):Bq f50 k=b50 k:=by kernel_rfl
local macro_rules | `(tactic| walk_at "s") => `(tactic| first
 | (with_reducible refine wS_seq ?_) | (with_reducible refine wS_asg ?_) | (with_reducible refine wS_ret ?_) | (with_reducible refine wS_drop ?_) | (with_reducible refine wS_if ?_) | (with_reducible refine wS_nxt ?_) | (with_reducible refine seqK_nx ?_) | (with_reducible refine seqK_rt ?_)
 | (with_reducible refine wD_vr (by with_unfolding_all rfl) ?_) | (with_reducible refine wD_ret ?_) | (with_reducible refine wD_op ?_) | (with_reducible refine wD_cons ?_) | (with_reducible refine wD_cal ?_) | (with_reducible refine wD_tup ?_) | (with_reducible refine wD_lst ?_) | (with_reducible refine wD_neg ?_)
 | (with_reducible refine wD_isi ?_) | (with_reducible refine wD_listRng ?_) | (with_reducible refine wD_tupRng ?_) | (with_reducible refine wD_lenSet ?_) | (with_reducible refine wD_sortSet ?_) | (with_reducible refine wD_mk ?_) | (with_reducible refine wD_attr ?_) | (with_reducible refine wD_obj ?_) | (with_reducible refine wD_dicIn ?_) | (with_reducible refine wD_dicIx ?_) | (with_reducible refine wD_zip ?_) | (with_reducible refine wS_par ?_) | (with_reducible refine wD_bool ?_) | (with_reducible refine wD_tru ?_) | (with_reducible refine wD_notV ?_) | (with_reducible refine wD_notT ?_)
 | (with_reducible refine wD_andT ?_) | (with_reducible refine wD_orT ?_) | (with_reducible refine wD_andV ?_) | (with_reducible refine wD_orV ?_) | (with_reducible refine wD_if ?_) | (with_reducible refine wD_chain ?_) | (with_reducible refine wD_meth ?_) | (with_reducible refine wD_sl ?_) | (with_reducible refine wD_partN ?_) | (with_reducible refine wD_partS ?_)
 | (with_reducible refine wD_src ?_) | (with_reducible refine wD_enum ?_) | (with_reducible refine wD_rng ?_) | (with_reducible refine wG_set ?_) | (with_reducible refine wG_sub ?_) | (with_reducible refine ex_bl ?_) | (with_reducible refine ex_int ?_) | (with_reducible refine when_t ?_) | (with_reducible refine when_f ?_) | (with_reducible refine when_tt (by with_unfolding_all rfl) ?_) | (with_reducible refine when_ff (by with_unfolding_all rfl) ?_) | (with_reducible refine tru_bl ?_)
 | (with_reducible refine wV_add ?_) | (with_reducible refine wV_sub ?_) | (with_reducible refine wV_icmp ?_) | (with_reducible refine wV_eqI ?_) | (with_reducible refine wV_neI ?_) | (with_reducible refine wV_isi (by with_unfolding_all rfl) (by with_unfolding_all rfl) ?_))
local macro_rules | `(tactic| walk_at "r") => `(tactic| repeat walk_at "s")
theorem and_len {ds:List D}{q:Prop}(h:ds.length<=1000000) (hq:q):ds.length<=1000000/\q:=⟨h,hq⟩
theorem lt_len {h:MH}{j:Nat}{o:MO}(e:h[j]?=some o):j < h.length:=(List.getElem?_eq_some_iff.mp e).1
theorem fm_lo (i:Int) {j:Int}(h:0 < j):0<=i.fmod j:=Int.fmod_nonneg_of_pos i h
theorem fm_hi (i:Int) {j:Int}(h:0 < j):i.fmod j < j:=Int.fmod_lt_of_pos i h
theorem fm_nat (i:Int) (n:Nat) (h:0 < n):∃ r:Nat,r < n/\i.fmod (n:Int)=(r:Int):=by
 have l1:=fm_lo i (j:=(n:Int)) (by omega);have l2:=fm_hi i (j:=(n:Int)) (by omega);exact ⟨(i.fmod n).toNat,by omega,by omega⟩
theorem seq_new (h:MH) (ds:List D):seqD (.ref h.length) (h++[.lst ds])=some ds:=by
 show (match (h++[MO.lst ds])[h.length]? with | some (.lst o)=>some o | _=>none)=_;rw [at_new]
theorem seq_at {h:MH}{j:Nat}{ds:List D}(e:h[j]?=some (.lst ds)):seqD (.ref j) h=some ds:=by
 show (match h[j]? with | some (.lst o)=>some o | _=>none)=_;rw [e]
theorem rangeL_nat (n:Nat):rangeL 0 n=(List.range n).map natD:=List.map_congr_left fun x _=>by show D.int (0+(x:Int))=D.int (x:Int);rw [Int.zero_add]
theorem wV_ixAny {n:Nat}{ds:List D}{j:Nat}{mh:MH}{P:D->MH->Prop}(e1:mh[n]?=some (.lst ds)) (hj:j < ds.length) (h:∀ d∈ds,P d mh):wV (ixD (.ref n) (.int j) mh) P:=wV_ixL e1 (List.getElem?_eq_getElem hj) (h _ (List.getElem_mem hj))
theorem run_cell (k:Nat) (ns:List Int) (i:Nat) (mh:MH) {P:D->MH->Prop}(h:∀ v:Int,P (.int v) mh):wV (runF (Gk (k+1)) fuel f26 [.rol (ns.map D.int),.int i] mh) P:=by
 refine wV_run (b26_eq k) lenQ26.1 lenQ26.2 rfl ?_;show wS (b26 k) [some (.rol (ns.map D.int)),some (.int i)] mh _;unfold b26;walk_at "r"
 refine wV_len (by intro z;simp) rfl ?_;walk_at "r"
 refine when_of (fun hk=>?_) fun hk=>?_
 ·walk_at "r"
  rw [decide_eq_true_iff,List.length_map] at hk;have hi:i < ns.length:=by omega
  refine wV_ixR (d:=.int ns[i]) (by rw [List.getElem?_map,List.getElem?_eq_getElem hi];rfl) ?_;exact h _
 ·walk_at "r"
  exact h _
local macro_rules | `(tactic| walk_at "x0") => `(tactic| repeat (first | walk_at "s" | with_reducible refine and_len (by simp) ?_ | with_reducible refine wV_fdiv (by decide) (by decide) ?_ | with_reducible refine wV_mod (by first | decide | omega) ?_))
theorem run_nstep (k j:Nat) (hj:j < 8) (v:Int) (l:Nat) (mh:MH) {P:D->MH->Prop}(h:∀ d h',Ext [] mh h'->P d h'):wV (runF (Gk (k+1)) fuel f29 [.int j,.int v,.int l] mh) P:=by
 refine wV_run (b29_eq k) lenQ29.1 lenQ29.2 rfl ?_;show wS (b29 k) [some (.int j),some (.int v),some (.int l),none,none,none,none,none] mh _;unfold b29
 walk_at "x0"
 refine wV_addL ((Ext.more (W:=[])).old _ _ (by simp) at_new) at_new (by simp) ?_
 walk_at "x0"
 refine wV_addL ((Ext.more (W:=[])).old _ _ (by simp) at_new) at_new (by simp) ?_
 walk_at "x0"
 exact wV_ixAny at_new (by simpa using hj) fun d _=>h d _ ((((Ext.more.trans Ext.more).trans Ext.more).trans Ext.more).trans Ext.more)
noncomputable def IsI (h:MH) (j:Nat) (ns:List Int):Prop:=h[j]?=some (.lst (ns.map D.int))
theorem IsI.ext {h h':MH}{j:Nat}{ns:List Int}(g:IsI h j ns) (x:Ext [] h h'):IsI h' j ns:=x.old _ _ (by simp) g
theorem wV_ixI {n:Nat}{ns:List Int}{j:Nat}{mh:MH}{P:D->MH->Prop}(g:IsI mh n ns) (hj:j < ns.length) (h:P (.int ns[j]) mh):wV (ixD (.ref n) (.int j) mh) P:=wV_ixL g (by rw [List.getElem?_map,List.getElem?_eq_getElem hj];rfl) h
theorem wV_lenI {n:Nat}{ns:List Int}{mh:MH}{P:D->MH->Prop}(g:IsI mh n ns) (h:P (.int ns.length) mh):wV (lenD [.ref n] mh) P:=wV_len (by intro z z';cases z') (seq_at g) (by rw [List.length_map];exact h)
theorem run_mstep (k j:Nat) (hj:j < 8) (v:Int) (l c:Nat) (cs:List Int) (mh:MH) (gc:IsI mh c cs) (hc:0 < cs.length) {P:D->MH->Prop}(h:∀ d h',Ext [] mh h'->P d h'):wV (runF (Gk (k+1)) fuel f30 [.int j,.int v,.int l,.ref c] mh) P:=by
 refine wV_run (b30_eq k) lenQ30.1 lenQ30.2 rfl ?_;show wS (b30 k) [some (.int j),some (.int v),some (.int l),some (.ref c),none,none,none,none,none] mh _;unfold b30
 walk_at "x0"
 refine wV_lenI gc ?_;obtain ⟨r,hr,er⟩:=fm_nat (v.fdiv 12078) cs.length hc;refine wV_mod (by omega) ?_;rw [er]
 walk_at "x0"
 refine wV_addL ((Ext.more (W:=[])).old _ _ (by simp) at_new) at_new (by simp) ?_
 walk_at "x0"
 have fin:∀ {a b c:MO},Ext [] mh (mh++[a]++[b]++[c]):=fun {a b c}=>(Ext.more.trans Ext.more).trans Ext.more
 refine when_of (fun e=>?_) fun e=>?_
 ·walk_at "x0"
  refine wV_ixI (gc.ext fin) hr ?_
  walk_at "x0"
  refine when_of (fun e=>?_) fun e=>?_
  ·walk_at "x0"
   exact h _ _ fin
  ·walk_at "x0"
   exact wV_ixAny at_new (by simpa using hj) fun d _=>h d _ fin
 ·walk_at "x0"
  exact wV_ixAny at_new (by simpa using hj) fun d _=>h d _ fin
theorem run_step (k:Nat) (v:Int) (l c:Nat) (cs:List Int) (mh:MH) (gc:IsI mh c cs) (hc:0 < cs.length) {P:D->MH->Prop}(h:∀ d h',Ext [] mh h'->P d h'):wV (runF (Gk (k+2)) fuel f31 [.int v,.int l,.ref c] mh) P:=by
 obtain ⟨r,hr,er⟩:=fm_nat v 22 (by decide);have er:v.fmod 22=(r:Int):=er;refine wV_run (b31_eq (k+1)) lenQ31.1 lenQ31.2 rfl ?_;show wS (b31 (k+1)) [some (.int v),some (.int l),some (.ref c),none,none,none,none,none] mh _;unfold b31
 walk_at "x0"
 rw [er]
 walk_at "x0"
 refine when_of (fun e=>?_) fun e=>?_
 ·walk_at "x0"
  rw [decide_eq_true_iff] at e;exact run_nstep k r (by omega) v l mh h
 ·walk_at "x0"
  rw [decide_eq_false_iff_not] at e;refine when_of (fun e2=>?_) fun e2=>?_
  ·walk_at "x0"
   rw [decide_eq_true_iff] at e2;have e8:(r:Int) - 8=((r - 8:Nat):Int):=by omega
   rw [e8];exact run_mstep k (r - 8) (by omega) v l c cs mh gc hc h
  ·walk_at "x0"
   refine when_of (fun e3=>?_) fun e3=>?_
   ·walk_at "x0"
    exact h _ _ Ext.refl
   ·walk_at "x0"
    refine when_of (fun e4=>?_) fun e4=>?_
    ·walk_at "x0"
     exact h _ _ Ext.refl
    ·walk_at "x0"
     obtain ⟨q,hq,eq⟩:=fm_nat (v.fdiv 198) 3 (by decide);have eq:(v.fdiv 198).fmod 3=(q:Int):=eq;refine when_of (fun e5=>?_) fun e5=>?_
     ·walk_at "x0"
      refine wV_addT (by simp) ?_
      walk_at "x0"
      rw [eq];refine wV_ixAny at_new (by simpa using hq) fun d _=>?_
      walk_at "x0"
      exact h _ _ Ext.more
     ·walk_at "x0"
      rw [eq];refine wV_ixAny at_new (by simpa using hq) fun d _=>?_
      walk_at "x0"
      exact h _ _ Ext.more
theorem eq_nil {a b:Nat}{ds:List D}{mh:MH}{P:D->MH->Prop}(e1:mh[a]?=some (.lst (ds))) (e2:mh[b]?=some (.lst [])) (hd:∃ ns:List Int,ds=ns.map D.int) (h:P (.bl ds.isEmpty) mh):wV (eqD (.ref a) (.ref b) mh) P:=by
 obtain ⟨ns,rfl⟩:=hd;have hp:∀ ns:List Int,mapO (py mh 59) (ns.map D.int)=some (ns.map PyData.int):=fun ns=>by
  induction ns with
  | nil=>rfl
  | cons n r ih=>simp only [List.map_cons,mapO,ih];rfl
 have p1:py mh 60 (.ref a)=some (.list (ns.map PyData.int)):=by
  show (match mh[a]? with | some (.lst o)=>(match mapO (py mh 59) o with | some xs=>some (PyData.list xs) | none=>none) | _=>none)=_;rw [e1];dsimp only;rw [hp]
 have p2:py mh 60 (.ref b)=some (.list []):=by
  show (match mh[b]? with | some (.lst o)=>(match mapO (py mh 59) o with | some xs=>some (PyData.list xs) | none=>none) | _=>none)=_;rw [e2];rfl
 refine wV_eq (k:=(ns.map D.int).isEmpty) ?_ h;unfold eqB;rw [p1,p2];cases ns <;> rfl
theorem run_lead (k:Nat) (v:Int) (r c:Nat) (cs:List Int) (mh:MH) (gc:IsI mh c cs) (hl:cs.length<=1000) {P:D->MH->Prop}(h:∀ d h',Ext [] mh h'->P d h'):wV (runF (Gk (k+1)) fuel f32 [.int v,.int r,.ref c] mh) P:=by
 refine wV_run (b32_eq k) lenQ32.1 lenQ32.2 rfl ?_;show wS (b32 k) [some (.int v),some (.int r),some (.ref c),none,none] mh _;unfold b32
 walk_at "x0"
 refine wS_for ?_
 walk_at "x0"
 refine wV_lenI (gc.ext Ext.more) ?_
 walk_at "x0"
 refine ⟨_,rng1_nat (by omega),rangeL 0 cs.length,fun i l h=>∃ (x:Option D) (ns:List Int),l=[some (.int v),some (.int r),some (.ref c),some (.ref mh.length),x]/\ns.length<=i/\h[mh.length]?=some (.lst (ns.map D.int))/\Ext [] mh h,⟨none,[],rfl,Nat.le_refl _,at_new,Ext.more⟩,fun _ _ _ _=>⟨rfl,rfl⟩,?_,?_⟩
 ·rintro i d l h' ed ⟨x,ns,rfl,hn,g,y⟩;have li:=(List.getElem?_eq_some_iff.mp ed).1;rw [rangeL_len] at li;rw [rangeL_nat] at ed;obtain ⟨i',hi',rfl⟩:=List.mem_map.mp (List.mem_of_getElem? ed)
  walk_at "x0"
  refine wV_ixI (gc.ext y) (List.mem_range.mp hi') ?_
  walk_at "x0"
  refine wV_of (d:=.int (if (((i':Int))==(r:Int)) then 1 else 0)) (h:=h') rfl ?_
  walk_at "x0"
  refine when_of (fun e=>?_) fun e=>?_
  ·walk_at "x0"
   refine ⟨ty_list g,?_⟩
   walk_at "x0"
   refine wV_append g (by rw [List.length_map];omega) ?_
   walk_at "x0"
   exact ⟨_,ns++[(i':Int)],rfl,by rw [List.length_append,List.length_singleton];omega,by rw [at_set g,List.map_append];rfl,y.setNew (Nat.le_refl _)⟩
  ·walk_at "x0"
   exact ⟨_,ns,rfl,by omega,g,y⟩
 ·rintro l h' ⟨x,ns,rfl,hn,g,y⟩
  walk_at "x0"
  refine eq_nil ((Ext.more (W:=[])).old _ _ (by simp) g) at_new ⟨ns,rfl⟩ ?_
  walk_at "x0"
  refine when_of (fun e=>?_) fun e=>?_
  ·walk_at "x0"
   exact h _ _ (y.trans Ext.more)
  ·walk_at "x0"
   have hp:0 < ns.length:=by
    cases ns with
    | nil=>cases e
    | cons a r=>simp
   have g2:IsI (h'++[.lst []]) mh.length ns:=(Ext.more (W:=[])).old _ _ (by simp) g;refine wV_lenI g2 ?_;obtain ⟨q,hq,eq⟩:=fm_nat v ns.length hp;refine wV_mod (by omega) ?_;rw [eq];refine wV_ixI g2 hq ?_
   walk_at "x0"
   exact h _ _ (y.trans Ext.more)
theorem run_mixed (k:Nat) (c i:Int) (mh:MH) {P:D->MH->Prop}(h:∀ v:Int,0<=v->v < 2147483647->P (.int v) mh):wV (runF (Gk (k+1)) fuel f27 [.int c,.int i] mh) P:=by
 refine wV_run (b27_eq k) lenQ27.1 lenQ27.2 rfl ?_;show wS (b27 k) [some (.int c),some (.int i),none] mh _;unfold b27;walk_at "r"
 refine wV_mod (by decide) ?_;walk_at "r"
 refine wV_mul (.inl ⟨by decide,by decide⟩) ?_;walk_at "r"
 refine wV_mul (.inr ⟨by decide,by decide⟩) ?_;walk_at "r"
 refine wV_mod (by decide) ?_;generalize ((c.fmod 2147483647+7919 * i+1) * 48271)=y;have l1:=fm_lo y (j:=2147483647) (by decide);have l2:=fm_hi y (j:=2147483647) (by decide);generalize y.fmod 2147483647=z at l1 l2;walk_at "r"
 refine wV_fdiv (by decide) (by decide) ?_;walk_at "r"
 refine wV_mul (.inl ⟨by omega,by omega⟩) ?_;walk_at "r"
 refine wV_mod (by decide) ?_;exact h _ (fm_lo _ (by decide)) (fm_hi _ (by decide))
theorem run_draws (k:Nat) (c:Int) (n:Nat) (hn:n<=1000) (B:Int) (hB:0 < B) (hB2:B<=1000000) (mh:MH) {P:D->MH->Prop}(h:∀ (vs:List Int) (j:Nat) (h':MH),vs.length=n->(∀ v∈vs,0<=v/\v < 2147483647)->Ext [] mh h'->h'[j]?=some (.lst (vs.map D.int))->mh.length<=j->P (.ref j) h') :
  wV (runF (Gk (k+2)) fuel f28 [.int c,.int n,.int B] mh) P:=by
 refine wV_run (b28_eq (k+1)) lenQ28.1 lenQ28.2 rfl ?_;show wS (b28 (k+1)) [some (.int c),some (.int n),some (.int B),none,none,none,none] mh _;unfold b28
 walk_at "x0"
 refine wS_for ?_;walk_at "r"
 refine ⟨_,rng1_nat (by omega),rangeL 0 n,fun i l h=>∃ (r:Int) (x5 x6:Option D) (vs:List Int),l=[some (.int c),some (.int n),some (.int B),some (.ref mh.length),some (.int r),x5,x6]/\vs.length=i/\(∀ v∈vs,0<=v/\v < 2147483647)/\h[mh.length]?=some (.lst (vs.map D.int))/\Ext [] mh h,
  ⟨_,none,none,[],rfl,rfl,fun _ z=>absurd z (by simp),at_new,Ext.more⟩,fun _ _ _ _=>⟨rfl,rfl⟩,?_,?_⟩
 ·rintro i d l h ed ⟨r,x5,x6,vs,rfl,hl,hv,g,x⟩;have li:=(List.getElem?_eq_some_iff.mp ed).1;rw [rangeL_len] at li;rw [rangeL_nat] at ed;obtain ⟨i',_,rfl⟩:=List.mem_map.mp (List.mem_of_getElem? ed);have add:∀ (v r:Int) (x5 x6:Option D),0<=v/\v < 2147483647->∃ (r':Int) (x5' x6':Option D) (vs':List Int),[some (D.int c),some (D.int n),some (D.int B),some (D.ref mh.length),some (D.int r),x5,x6]=[some (D.int c),some (D.int n),some (D.int B),some (D.ref mh.length),some (D.int r'),x5',x6']/\vs'.length=i+1/\(∀ v∈vs',0<=v/\v < 2147483647)/\(h.set mh.length (.lst (vs.map D.int++[.int v])))[mh.length]?=some (.lst (vs'.map D.int))/\Ext [] mh (h.set mh.length (.lst (vs.map D.int++[.int v]))):=fun v r x5 x6 h0=>by
   refine ⟨r,x5,x6,vs++[v],rfl,by rw [List.length_append,hl];rfl,fun w hw=>?_,?_,x.setNew (Nat.le_refl _)⟩
   ·rcases List.mem_append.mp hw with z|z
    ·exact hv w z
    ·rw [List.mem_singleton.mp z];exact h0
   ·rw [at_set g,List.map_append];rfl
  have mixed:wS (seqS (asgS (calM (runF (Gk (k+1)) fuel f27) (dCons (vr 0) (dCons (vr 5) (Zr [])))) (gSet 6))
   (seqS (dropS (methM "list" appendD (vr 3) (dCons (dop modD (dop mulD (vr 6) (dop addD (dop fdivD (vr 6) (Zr (.int 613))) (Zr (.int 40692)))) (Zr (.int 2147483399))) (Zr []))))
   Zn)) [some (.int c),some (.int n),some (.int B),some (.ref mh.length),some (.int r),some (natD i'),x6] h fun f l h'=>f=.nx/\∃ (r:Int) (x5 x6:Option D) (vs:List Int),l=[some (.int c),some (.int n),some (.int B),some (.ref mh.length),some (.int r),x5,x6]/\vs.length=i+1/\(∀ v∈vs,0<=v/\v < 2147483647)/\h'[mh.length]?=some (.lst (vs.map D.int))/\Ext [] mh h':=by
   walk_at "r"
   refine run_mixed k _ _ _ fun w w1 w2=>?_
   walk_at "r"
   refine ⟨ty_list g,?_⟩;walk_at "r"
   refine wV_fdiv (by decide) (by decide) ?_;walk_at "r"
   refine wV_mul (.inl ⟨by omega,by omega⟩) ?_;walk_at "r"
   refine wV_mod (by decide) ?_;walk_at "r"
   refine wV_append g (by rw [List.length_map];omega) ?_;walk_at "r"
   exact ⟨rfl,add _ _ _ _ ⟨fm_lo _ (by decide),Int.lt_trans (fm_hi _ (by decide)) (by decide)⟩⟩
  have mixed':=wS_mono mixed (Q:=seqK Zn (forK (fun l h=>∃ (r:Int) (x5 x6:Option D) (vs:List Int),l=[some (D.int c),some (D.int n),some (D.int B),some (D.ref mh.length),some (D.int r),x5,x6]/\vs.length=i+1/\(∀ v∈vs,0<=v/\v < 2147483647)/\h[mh.length]?=some (.lst (vs.map D.int))/\Ext [] mh h) (seqK (seqS (retS (vr 3)) Zn) (retK P)))) (by
   rintro f l h' ⟨rfl,q⟩
   exact seqK_nx (wS_nxt q))
  walk_at "r"
  refine wV_mod (by decide) ?_;walk_at "r"
  refine when_of (fun e1=>?_) fun e1=>?_
  ·walk_at "r"
   refine when_of (fun e2=>?_) fun e2=>?_
   ·walk_at "r"
    refine ⟨ty_list g,?_⟩;walk_at "r"
    refine wV_mod (by omega) ?_;walk_at "r"
    refine wV_append g (by rw [List.length_map];omega) ?_;walk_at "r"
    refine wV_fdiv (by omega) (by omega) ?_;walk_at "r"
    exact add _ _ _ _ ⟨fm_lo _ hB,by have:=fm_hi r hB;omega⟩
   ·exact mixed'
  ·exact when_f mixed'
 ·rintro l h2 ⟨r,x5,x6,vs,rfl,hl,hv,g,x⟩;rw [rangeL_len] at hl;walk_at "r"
  exact h vs _ _ hl hv x g (Nat.le_refl _)
theorem map_cut {lo hi:Option Int}(ns:List Int):DL.cutD (ns.map D.int) lo hi=(DL.cutD ns lo hi).map D.int:=by
 unfold DL.cutD;rw [List.length_map,← List.map_drop,← List.map_take]
theorem cut_mem {lo hi:Option Int}{ns:List Int}{v:Int}(h:v∈DL.cutD ns lo hi):v∈ns:=List.mem_of_mem_drop (List.mem_of_mem_take h)
theorem cut_len {a b:Nat}{ns:List Int}(h1:a<=b) (h2:b<=ns.length):(DL.cutD ns (some (a:Int)) (some (b:Int))).length=b - a:=by
 unfold DL.cutD;rw [HT.sIx_nat,HT.sIx_nat,List.length_take,List.length_drop,Nat.min_eq_left h2,Nat.min_eq_left (Nat.le_trans h1 h2),Nat.min_eq_left (Nat.sub_le_sub_right h2 a)]
theorem cut_lenT {b:Nat}{ns:List Int}(h2:b<=ns.length):(DL.cutD ns none (some (b:Int))).length=b:=by
 unfold DL.cutD;rw [HT.sIx_nat,HT.sIx_none,List.length_take,List.length_drop,Nat.min_eq_left h2,Nat.sub_zero,Nat.sub_zero,Nat.min_eq_left h2]
theorem wV_slI {n:Nat}{ns:List Int}{lo hi:Option Int}{mh:MH}{P:D->MH->Prop}(g:IsI mh n ns) (h:P (.ref mh.length) (mh++[.lst ((DL.cutD ns lo hi).map D.int)])):wV (slD (.ref n) lo hi mh) P:=by
 refine ⟨_,_,?_,h⟩;show (match mh[n]? with | some (.lst o)=>some (D.ref mh.length,mh++[MO.lst (DL.cutD o lo hi)]) | _=>none)=_;rw [g];dsimp only;rw [map_cut]
theorem e_pow6:(10:Int) ^ (6:Int).toNat=1000000:=by decide +kernel
theorem wD_compL {mi:DM Src}{cs:List (Option Nat)}{g:GM}{tc:DM Bool}{me:DM D}{loc:DL.Loc}{mh:MH}{Q:D->MH->Prop}(h:wD mi loc mh fun src h0=>∃ n ds,∃ (p:D->Bool) (f:D->D),src=.lref n/\h0[n]?=some (.lst ds)/\ds.length<=1000000 /\
  (∀ d∈ds,∃ l1,g d (capD cs loc) h0=some (l1,h0)/\tc l1 h0=some (p d,h0)/\(p d=true->me l1 h0=some (f d,h0)))/\Q (.ref h0.length) (h0++[.lst ((ds.filter p).map f)])):wD (compM mi cs g tc me) loc mh Q:=by
 obtain ⟨src,h0,e,n,ds,p,f,rfl,hn,hz,step,q⟩:=h;exact ⟨_,_,compM_ref e hn (le_size hz) step,q⟩
theorem filter_all {l:List D}:l.filter (fun _=>true)=l:=List.filter_eq_self.mpr fun _ _=>rfl
noncomputable def progD (room c0 c1:Int) (parts:List (List D)) (plays:List Nat):D:=.tup [.int room,.tup [.int c0,.int c1],.tup (parts.map D.tup),.tup (plays.map natD)]
noncomputable def nats (ns:List Nat):List Int:=ns.map fun n:Nat=>(n:Int)
theorem nats_D (ns:List Nat):(nats ns).map D.int=ns.map natD:=by unfold nats;rw [List.map_map];rfl
theorem run_program (k:Nat) (cell:Int) {H R L:Nat}(h1:1<=H) (h6:H<=6) (r1:1<=R) (r3:R<=3) (l60:L<=60) (mh:MH) {P:D->MH->Prop}
  (h:∀ (room c0 c1:Int) (parts:List (List D)) (plays:List Nat) (h':MH),1<=room->room<=2->0<=c0->0<=c1->parts.length=R->plays.length=H->(∀ p∈plays,p < R)->Ext [] mh h'->P (progD room c0 c1 parts plays) h') :
  wV (runF (Gk (k+3)) fuel f33 [.int cell,.int H,.int R,.int L] mh) P:=by
 refine wV_run (b33_eq (k+2)) lenQ33.1 lenQ33.2 rfl ?_;show wS (b33 (k+2)) [some (.int cell),some (.int H),some (.int R),some (.int L),none,none,none,none,none,none,none,none,none,none] mh _;unfold b33
 walk_at "x0"
 refine wV_mul (.inl ⟨by omega,by omega⟩) ?_
 walk_at "x0"
 refine wV_pow (by decide) (by decide) (by decide) ?_;rw [e_pow6]
 walk_at "x0"
 have eN:(3:Int)+(H:Int)+(R:Int) * ((L:Int)+1)=((3+H+R * (L+1):Nat):Int):=by push_cast;rfl
 rw [eN];have bN:R * (L+1)<=3 * 61:=Nat.mul_le_mul r3 (by omega);refine run_draws (k) cell (3+H+R * (L+1)) (by omega) 1000000 (by decide) (by decide) mh fun vs jd m1 lv pv x1 g1 _=>?_
 have g1:IsI m1 jd vs:=g1
 walk_at "x0"
 refine wD_compL ?_
 walk_at "x0"
 refine wV_slI g1 ?_;have eH:(3:Int)+(H:Int)=((3+H:Nat):Int):=by push_cast;rfl
 rw [eH];have lc:(DL.cutD vs (some ((3:Nat):Int)) (some ((3+H:Nat):Int))).length=H:=by rw [cut_len (by omega) (by omega)];omega
 generalize hq:(DL.cutD vs (some (3:Int)) (some ((3+H:Nat):Int)))=cv;have lc:cv.length=H:=by rw [← hq];exact lc
 refine ⟨_,src_list at_new,_,_,fun _=>true,fun d=>match d with | .int v=>.int (v.fmod R) | _=>.non,rfl,at_new,by rw [List.length_map];omega,fun d hd=>?_,?_⟩
 ·obtain ⟨v,_,rfl⟩:=List.mem_map.mp hd;refine ⟨_,rfl,rfl,fun _=>?_⟩;show dop modD (vr 1) (vr 2) _ _=_;rw [dop_ap];show iop _ _ (.int v) (.int R) _=_;rw [iop_ap,if_pos (decide_eq_true (by omega))]
 rw [filter_all,List.map_map];have eq1:cv.map ((fun d=>match d with | .int v=>D.int (v.fmod R) | _=>.non) ∘ D.int)=(nats (cv.map fun v=>(v.fmod R).toNat)).map D.int:=by
  unfold nats;rw [List.map_map,List.map_map];refine List.map_congr_left fun v _=>?_
  show D.int (v.fmod R)=D.int (((v.fmod R).toNat:Nat):Int);have:=fm_lo v (j:=(R:Int)) (by omega);rw [Int.toNat_of_nonneg this]
 rw [eq1]
 walk_at "x0"
 refine wV_sortI (ns:=nats (cv.map fun v=>(v.fmod R).toNat)) at_new (by unfold nats;rw [List.length_map,List.length_map];omega) ?_;obtain ⟨pl,e1,e2,e3⟩:=sorted_nat (cv.map fun v=>(v.fmod R).toNat);have e1:(sortI (nats (cv.map fun v=>(v.fmod R).toNat))).map D.int=(nats pl).map D.int:=by rw [nats_D];exact e1
 rw [e1];have lp:pl.length=H:=by rw [e2,List.length_map];exact lc
 have hp:∀ p∈pl,p < R:=fun p hpm=>by
  obtain ⟨v,_,rfl⟩:=List.mem_map.mp (e3 p hpm);have a:=fm_lo v (j:=(R:Int)) (by omega);have b:=fm_hi v (j:=(R:Int)) (by omega);omega
 generalize hm2:m1++[MO.lst (cv.map D.int)]++[MO.lst ((nats (cv.map fun v=>(v.fmod R).toNat)).map D.int)]++[MO.lst ((nats pl).map D.int)]=m2;have x2:Ext [] m1 m2:=by rw [← hm2];exact (Ext.more.trans Ext.more).trans Ext.more
 have gp:IsI m2 (m1++[MO.lst (cv.map D.int)]++[MO.lst ((nats (cv.map fun v=>(v.fmod R).toNat)).map D.int)]).length (nats pl):=by rw [← hm2];exact at_new
 generalize hjp:(m1++[MO.lst (cv.map D.int)]++[MO.lst ((nats (cv.map fun v=>(v.fmod R).toNat)).map D.int)]).length=jp at gp
 walk_at "x0"
 refine wD_comp ?_
 walk_at "x0"
 refine ⟨_,rng1_nat (by omega),rangeL 0 R,fun i acc h=>∃ cs:List Int,acc=cs.map D.int/\cs.length=i/\h=m2,by rw [rangeL_len];omega,⟨[],rfl,rfl,rfl⟩,fun _ _ _ _=>⟨rfl,rfl⟩,?_,?_,?_⟩
 ·rintro i acc h ⟨cs,rfl,hl,_⟩;rw [List.length_map,hl];exact Nat.le_refl _
 ·rintro i d acc h ed ⟨cs,rfl,hl,rfl⟩;rw [rangeL_nat] at ed;obtain ⟨i',hi',rfl⟩:=List.mem_map.mp (List.mem_of_getElem? ed)
  walk_at "x0"
  refine wD_cnt ?_
  walk_at "x0"
  refine .inr ⟨rfl,ty_list gp,?_⟩
  walk_at "x0"
  refine wV_of (d:=.int ((nats pl).countP (·==(i':Int)):Nat)) (h:=h) ?_ ?_
  ·have gp':h[jp]?=some (.lst ((nats pl).map D.int)):=gp;show cntL (.ref jp) [.int i'] h=_;simp only [cntL,gp',intsOf_map]
  ·exact ⟨cs++[_],by rw [List.map_append];rfl,by rw [List.length_append,hl];rfl,rfl⟩
 rintro acc h0 ⟨cs,rfl,lcs,rfl⟩;rw [rangeL_len] at lcs
 walk_at "x0"
 generalize hm3:h0++[MO.lst (cs.map D.int)]=m3;have x3:Ext [] h0 m3:=by rw [← hm3];exact Ext.more
 have gc:IsI m3 h0.length cs:=by rw [← hm3];exact at_new
 refine wS_for ?_
 walk_at "x0"
 refine ⟨_,rng1_nat (by omega),rangeL 0 R,fun i l h=>∃ (x6 x9 x10 x11 x12 x13:Option D) (ps:List (List D)),l=[some (.int cell),some (.int H),some (.int R),some (.int L),some (.ref jd),some (.ref jp),x6,some (.ref h0.length),some (.ref m3.length),x9,x10,x11,x12,x13]/\ps.length=i/\h[m3.length]?=some (.lst (ps.map D.tup))/\Ext [] m3 h,
  ⟨none,none,none,none,none,none,[],rfl,rfl,at_new,Ext.more⟩,fun _ _ _ _=>⟨rfl,rfl⟩,?_,?_⟩
 ·rintro i d l h4 ed ⟨x6,x9,x10,x11,x12,x13,ps,rfl,lps,g4,x4⟩;have li:=(List.getElem?_eq_some_iff.mp ed).1;rw [rangeL_len] at li;rw [rangeL_nat] at ed;obtain ⟨i',hi',rfl⟩:=List.mem_map.mp (List.mem_of_getElem? ed);have hi':=List.mem_range.mp hi';have gd4:IsI h4 jd vs:=((g1.ext x2).ext x3).ext x4;have gc4:IsI h4 h0.length cs:=gc.ext x4
  walk_at "x0"
  refine wV_mul (.inl ⟨by omega,by omega⟩) ?_
  walk_at "x0"
  have eA:(3:Int)+(H:Int)+(i':Int) * ((L:Int)+1)=((3+H+i' * (L+1):Nat):Int):=by push_cast;rfl
  rw [eA];have bA:i' * (L+1)+(L+1)<=R * (L+1):=by
   have:(i'+1) * (L+1)<=R * (L+1):=Nat.mul_le_mul_right _ hi';rw [Nat.add_mul] at this;omega
  generalize hA:3+H+i' * (L+1)=A at *;have eA2:(A:Int)+(L:Int)+1=((A+L+1:Nat):Int):=by push_cast;rfl
  rw [eA2];refine wV_slI gd4 ?_;have lo:(DL.cutD vs (some (A:Int)) (some ((A+L+1:Nat):Int))).length=L+1:=by rw [cut_len (by omega) (by omega)];omega
  generalize hov:DL.cutD vs (some (A:Int)) (some ((A+L+1:Nat):Int))=ov at lo
  walk_at "x0"
  refine wV_ixI (ns:=ov) (j:=L) at_new (by omega) ?_;obtain ⟨n,hn,en⟩:=fm_nat (ov[L]'(by omega)) (L+1) (by omega);have en:(ov[L]'(by omega)).fmod ((L:Int)+1)=(n:Int):=by rw [← en];push_cast;rfl
  walk_at "x0"
  rw [en]
  walk_at "x0"
  generalize hm5:h4++[MO.lst (ov.map D.int)]=m5;have x5:Ext [] h4 m5:=by rw [← hm5];exact Ext.more
  have go:IsI m5 h4.length ov:=by rw [← hm5];exact at_new
  refine wD_comp ?_
  walk_at "x0"
  refine wV_slI go ?_;have ls:(DL.cutD ov none (some (n:Int))).length=n:=cut_lenT (by omega);generalize hsv:DL.cutD ov none (some (n:Int))=sv at ls;refine ⟨_,src_list at_new,sv.map D.int,fun i acc h=>acc.length=i/\Ext [] (m5++[MO.lst (sv.map D.int)]) h,by rw [List.length_map];omega,⟨rfl,Ext.refl⟩,?_,?_,?_,?_⟩
  ·rintro j acc h ⟨_,y⟩;exact lref_keep (y.old _ _ (by simp) at_new)
  ·rintro j acc h ⟨hl,_⟩;omega
  ·rintro j d acc h ed ⟨hl,y⟩;obtain ⟨v,_,rfl⟩:=List.mem_map.mp (List.mem_of_getElem? ed)
   walk_at "x0"
   refine run_step k v n h0.length cs h (((gc4.ext x5).ext Ext.more).ext y) (by omega) fun d h' y'=>?_
   exact ⟨by rw [List.length_append,hl];rfl,y.trans y'⟩
  rintro acc h6 ⟨lacc,x6'⟩;rw [List.length_map,ls] at lacc
  walk_at "x0"
  have xx:Ext [] h4 h6:=(x5.trans Ext.more).trans x6';have fin:∀ (st:List D) (h7:MH) (y7:Ext [h6.length] (h6++[MO.lst acc]) h7) (g7:h7[h6.length]?=some (.lst st)) (x6 x9 x10 x11 x13:Option D),st.length<=1000000 ->
   wS (seqS (dropS (methM "list" appendD (vr 8) (dCons (calM tupleD (dCons (vr 12) (Zr []))) (Zr [])))) Zn) [some (.int cell),some (.int H),some (.int R),some (.int L),some (.ref jd),some (.ref jp),x6,some (.ref h0.length),some (.ref m3.length),x9,x10,x11,some (.ref h6.length),x13] h7
    fun f l h=>f=.nx/\∃ (x6 x9 x10 x11 x12 x13:Option D) (ps:List (List D)),l=[some (.int cell),some (.int H),some (.int R),some (.int L),some (.ref jd),some (.ref jp),x6,some (.ref h0.length),some (.ref m3.length),x9,x10,x11,x12,x13]/\ps.length=i+1/\h[m3.length]?=some (.lst (ps.map D.tup))/\Ext [] m3 h:=fun st h7 y7 g7 x6 x9 x10 x11 x13 hst=>by
   have nm:m3.length ∉ [h6.length]:=by
    have:=lt_len g4;have:=xx.len;simp;omega
   have g8:h7[m3.length]?=some (.lst (ps.map D.tup)):=y7.old _ _ nm ((xx.trans Ext.more).old _ _ (by simp) g4)
   have x8:Ext [] m3 h7:=⟨Nat.le_trans ((x4.trans xx).trans Ext.more).len y7.len,fun i o _ e=>y7.old i o (by
    have a:=lt_len e;have b:=(x4.trans xx).len
    simp;omega) (((x4.trans xx).trans Ext.more).old i o (by simp) e)⟩
   walk_at "x0"
   refine ⟨ty_list g8,?_⟩
   walk_at "x0"
   refine wV_tupOf (seq_at g7) ?_
   walk_at "x0"
   refine wV_append g8 (by rw [List.length_map];omega) ?_
   walk_at "x0"
   exact ⟨rfl,_,_,_,_,_,_,ps++[st],rfl,by rw [List.length_append,lps];rfl,by rw [at_set g8,List.map_append];rfl,x8.setNew (Nat.le_refl _)⟩
  have fin':∀ (st:List D) (h7:MH) (y7:Ext [h6.length] (h6++[MO.lst acc]) h7) (g7:h7[h6.length]?=some (.lst st)) (x6 x9 x10 x11 x13:Option D) (hst:st.length<=1000000) {Q:Fl->DL.Loc->MH->Prop},_->_:=fun st h7 y7 g7 x6 x9 x10 x11 x13 hst {Q} (q:∀ l h,(∃ (x6 x9 x10 x11 x12 x13:Option D) (ps:List (List D)),l=[some (D.int cell),some (.int H),some (.int R),some (.int L),some (.ref jd),some (.ref jp),x6,some (.ref h0.length),some (.ref m3.length),x9,x10,x11,x12,x13]/\ps.length=i+1/\h[m3.length]?=some (MO.lst (ps.map D.tup))/\Ext [] m3 h)->Q .nx l h)=>wS_mono (Q:=Q) (fin st h7 y7 g7 x6 x9 x10 x11 x13 hst) (by
   rintro f l h ⟨rfl,z⟩
   exact q l h z)
  refine when_of (fun e=>?_) fun e=>?_
  ·walk_at "x0"
   refine wV_ixI (ns:=ov) (j:=L) ((go.ext (Ext.more.trans x6')).ext Ext.more) (by omega) ?_
   walk_at "x0"
   refine when_of (fun e2=>?_) fun e2=>?_
   ·walk_at "x0"
    have hpos:0 < n:=by rw [decide_eq_true_iff] at e;omega
    refine wV_ixI (ns:=ov) (j:=0) ((go.ext (Ext.more.trans x6')).ext Ext.more) (by omega) ?_
    walk_at "x0"
    refine run_lead (k+1) _ i' h0.length cs _ ((gc4.ext xx).ext Ext.more) (by omega) fun d h7 y7=>?_
    walk_at "x0"
    have g7:=y7.old _ _ (by simp) (at_new (a:=h6) (o:=.lst acc));refine ⟨_,setIx_ok (k:=0) g7 (by omega),?_⟩;refine seqK_nx (wS_nxt (seqK_nx (fin' (acc.set 0 d) _ ⟨by rw [List.length_set];exact y7.len,fun i o hi e=>?_⟩ (at_set g7) _ _ _ _ _ (by rw [List.length_set];omega) fun l h z=>z)));rw [List.getElem?_set_ne (fun z=>hi (by simp [z]))];exact y7.old i o (by simp) e
   ·exact wS_nxt (seqK_nx (fin' acc _ Ext.refl at_new _ _ _ _ _ (by omega) fun l h z=>z))
  ·exact when_f (wS_nxt (seqK_nx (fin' acc _ Ext.refl at_new _ _ _ _ _ (by omega) fun l h z=>z)))
 ·rintro l h4 ⟨x6,x9,x10,x11,x12,x13,ps,rfl,lps,g4,x4⟩;rw [rangeL_len] at lps;have gd4:IsI h4 jd vs:=((g1.ext x2).ext x3).ext x4;have gp4:IsI h4 jp (nats pl):=(gp.ext x3).ext x4
  walk_at "x0"
  refine wV_ixI gd4 (j:=1) (by omega) ?_
  walk_at "x0"
  refine wV_ixI gd4 (j:=2) (by omega) ?_
  walk_at "x0"
  refine wV_ixI gd4 (j:=0) (by omega) ?_
  walk_at "x0"
  refine wV_tupOf (seq_at g4) ?_
  walk_at "x0"
  refine wV_tupOf (seq_at gp4) ?_
  walk_at "x0"
  rw [nats_D];refine h _ _ _ ps pl h4 ?_ ?_ ?_ ?_ lps lp hp (((x1.trans x2).trans x3).trans x4)
  ·have:=fm_lo (vs[0]'(by omega)) (j:=2) (by decide);omega
  ·have:=fm_hi (vs[0]'(by omega)) (j:=2) (by decide);omega
  ·exact Int.fdiv_nonneg (fm_lo _ (by decide)) (by decide)
  ·exact Int.fdiv_nonneg (fm_lo _ (by decide)) (by decide)
theorem run_number (k:Nat) (v:Int) (h0:0<=v) (h1:v < 2147483647) (mh:MH) {P:D->MH->Prop}(h:∀ w h',Ext [] mh h'->P (.int w) h'):wV (runF (Gk (k+1)) fuel f34 [.int v] mh) P:=by
 refine wV_run (b34_eq k) lenQ34.1 lenQ34.2 rfl ?_;show wS (b34 k) [some (.int v)] mh _;unfold b34
 walk_at "x0"
 refine wV_pow (by decide) (by decide) (by decide) ?_;refine wV_mul (.inl ⟨by decide,by decide⟩) ?_
 walk_at "x0"
 refine wV_pow (by decide) (by decide) (by omega) ?_
 walk_at "x0"
 refine wV_pow (by decide) (by decide) (by decide) ?_
 walk_at "x0"
 obtain ⟨r,hr,er⟩:=fm_nat (v.fdiv 7) 4 (by decide);have er:(v.fdiv 7).fmod 4=(r:Int):=er;rw [er];refine wV_ixAny at_new (by simpa using hr) fun d hd=>?_
 simp only [List.mem_cons,List.mem_nil_iff,or_false] at hd;rcases hd with rfl | rfl | rfl | rfl <;> exact h _ _ Ext.more
noncomputable def letD (z:Int×Int×Int):D:=.tup [.int z.1,.int z.2.1,.int z.2.2]
theorem run_letters (k jd:Nat) (vs:List Int) (room H:Int) (hr:1<=room) (hH:1<=H) (mh:MH) (g:IsI mh jd vs) (l0:0 < vs.length) (l1:vs.length<=1000) (pv:∀ v∈vs,0<=v/\v < 2147483647) {P:D->MH->Prop}(h:∀ (ls:List (Int×Int×Int)) h',ls.length<=vs.length->Ext [] mh h'->P (.tup (ls.map letD)) h') :
  wV (runF (Gk (k+2)) fuel f35 [.ref jd,.int room,.int H] mh) P:=by
 refine wV_run (b35_eq (k+1)) lenQ35.1 lenQ35.2 rfl ?_;show wS (b35 (k+1)) [some (.ref jd),some (.int room),some (.int H),none,none] mh _;unfold b35
 walk_at "x0"
 refine wS_for ?_
 walk_at "x0"
 refine wV_ixI (g.ext Ext.more) (j:=0) l0 ?_
 walk_at "x0"
 refine wV_slI (g.ext Ext.more) ?_;generalize hc:DL.cutD vs none (some (((vs[0]'l0).fdiv 4096).fmod (room+1)))=cv;have pc:∀ v∈cv,0<=v/\v < 2147483647:=fun v hv=>pv v (cut_mem (by rw [hc];exact hv))
 have lc:cv.length<=vs.length:=by
  rw [← hc];unfold DL.cutD;rw [List.length_take,List.length_drop];omega
 have ne:mh.length≠(mh++[MO.lst []]).length:=by rw [List.length_append];simp
 refine ⟨_,src_list at_new,cv.map D.int,fun i l h=>∃ (x:Option D) (ls:List (Int×Int×Int)),l=[some (.ref jd),some (.int room),some (.int H),some (.ref mh.length),x]/\ls.length=i/\h[mh.length]?=some (.lst (ls.map letD))/\h[(mh++[MO.lst []]).length]?=some (.lst (cv.map D.int))/\Ext [] mh h,
  ⟨none,[],rfl,rfl,(Ext.more (W:=[])).old _ _ (by simp) at_new,at_new,Ext.more.trans Ext.more⟩,?_,?_,?_⟩
 ·rintro i l h ⟨x,ls,rfl,_,_,g,_⟩;exact lref_keep g
 ·rintro i d l h4 ed ⟨x,ls,rfl,hl,g1,g2,y⟩;have li:=(List.getElem?_eq_some_iff.mp ed).1;rw [List.length_map] at li;obtain ⟨v,hv,rfl⟩:=List.mem_map.mp (List.mem_of_getElem? ed);have bv:=pc v hv
  walk_at "x0"
  refine ⟨ty_list g1,?_⟩
  walk_at "x0"
  have q0:0<=v.fdiv 3:=Int.fdiv_nonneg bv.1 (by decide);have q1:v.fdiv 3 < 2147483647:=by rw [Int.fdiv_eq_ediv_of_nonneg _ (by decide)];omega
  refine run_number k _ q0 q1 h4 fun w h5 y5=>?_
  walk_at "x0"
  refine wV_append (y5.old _ _ (by simp) g1) (by rw [List.length_map];omega) ?_
  walk_at "x0"
  refine ⟨_,ls++[(_,_,_)],rfl,by rw [List.length_append,hl];rfl,by rw [at_set (y5.old _ _ (by simp) g1),List.map_append];rfl,?_,(y.trans y5).setNew (Nat.le_refl _)⟩;rw [List.getElem?_set_ne ne];exact y5.old _ _ (by simp) g2
 ·rintro l h4 ⟨x,ls,rfl,hl,g1,g2,y⟩
  walk_at "x0"
  rw [List.length_map] at hl;exact wV_tupOf (seq_at g1) (h ls _ (by omega) y)
structure Pt where
 pl:Int
 ns:List Int
 ms:List Int
 s0:Nat
 s1:Nat
 bell:Bool
noncomputable def ptD (p:Pt):D:=.tup [.int p.pl,.tup (p.ns.map D.int),.tup (p.ms.map D.int),.tup [natD p.s0,natD p.s1],.bl p.bell]
noncomputable def PtOk (p:Pt):Prop:=p.ns.length=3/\p.ms.length=3/\(∀ m∈p.ms,-1<=m)/\p.s0 < 64/\p.s1 < 64
noncomputable abbrev Rows:=List (List (List (Int×Int×Int)))
noncomputable def RowsOk (H:Nat) (rs:Rows):Prop:=∀ w∈rs,w.length=H/\∀ ls∈w,ls.length<=2
noncomputable def wayD (w:List (List (Int×Int×Int))):D:=.tup (w.map fun ls=>.tup (ls.map letD))
noncomputable def wldD (ps:List Pt) (rs:Rows) (x y:Int):D:=.tup [.tup (ps.map ptD),.tup (rs.map wayD),.tup [.int x,.int y]]
theorem wV_shl {H:Nat}{mh:MH}{P:D->MH->Prop}(hH:H<=6) (h:P (.int ((2 ^ H:Nat):Int)) mh):wV (shlD (.int 1) (.int H) mh) P:=wV_iop (by
 rw [Bool.and_eq_true,Bool.and_eq_true,decide_eq_true_iff,decide_eq_true_iff,decide_eq_true_iff]
 exact ⟨by omega,by omega,by decide⟩) (by
  show P (.int (1 * 2 ^ (H:Int).toNat)) mh;rw [Int.one_mul,Int.toNat_natCast];have e:((2 ^ H:Nat):Int)=2 ^ H:=by push_cast;rfl
  rw [← e];exact h)
theorem p2 {H:Nat}(h:H<=6):0 < 2 ^ H/\2 ^ H<=64:=⟨Nat.pow_pos (by decide),Nat.le_trans (Nat.pow_le_pow_right (by decide) h) (by decide)⟩
theorem mod_add_lt {a b H r:Nat}(ha:a < H) (hb:b < H):(a * H+b) * r+r<=H * H * r:=by
 have h1:a * H+b+1<=H * H:=by
  have:(a+1) * H<=H * H:=Nat.mul_le_mul_right _ ha;rw [Nat.add_mul] at this;omega
 have h2:(a * H+b+1) * r<=H * H * r:=Nat.mul_le_mul_right _ h1;rw [Nat.add_mul (a * H+b) 1 r] at h2;omega
theorem run_world (k:Nat) (cell:Int) {H R:Nat}(h1:1<=H) (hh6:H<=6) (room:Nat) (r1:1<=room) (r2:room<=2) (c0 c1:Int) (hc0:0<=c0) (hc1:0<=c1) (parts:List (List D)) (plays:List Nat) (lp:parts.length=R) (ll:plays.length=H) (hp:∀ p∈plays,p < R) (mh:MH) {P:D->MH->Prop}
  (h:∀ (ps:List Pt) (rs:Rows) (x y:Int) (h':MH),ps.length=H->(∀ p∈ps,PtOk p)->rs.length=H->RowsOk H rs->Ext [] mh h'->P (wldD ps rs x y) h'):wV (runF (Gk (k+3)) fuel f36 [progD room c0 c1 parts plays,.int cell] mh) P:=by
 refine wV_run (b36_eq (k+2)) lenQ36.1 lenQ36.2 rfl ?_;show wS (b36 (k+2)) [some (progD room c0 c1 parts plays),some (.int cell),none,none,none,none,none,none,none,none,none,none,none,none,none,none,none,none] mh _;unfold b36;walk_at "r"
 refine wG_tup rfl ?_;show wS _ [some (progD room c0 c1 parts plays),some (.int cell),some (.int room),some (.tup [.int c0,.int c1]),some (.tup (parts.map D.tup)),some (.tup (plays.map natD)),none,none,none,none,none,none,none,none,none,none,none,none] mh _
 walk_at "x0"
 refine wV_len (by intro z z';cases z') rfl ?_;rw [List.length_map,ll]
 walk_at "x0"
 refine wV_mul (.inl ⟨by decide,by decide⟩) ?_
 walk_at "x0"
 refine wV_mul (.inl ⟨by omega,by omega⟩) ?_
 walk_at "x0"
 refine wV_mul (.inr ⟨by omega,by omega⟩) ?_
 walk_at "x0"
 refine wV_pow (by decide) (by decide) (by decide) ?_;rw [e_pow6]
 walk_at "x0"
 have eN:(11:Int) * (H:Int)+(H:Int) * (H:Int) * (room:Int)=((11 * H+H * H * room:Nat):Int):=by push_cast;rfl
 rw [eN];have bN:H * H * room<=6 * 6 * 2:=Nat.mul_le_mul (Nat.mul_le_mul hh6 hh6) r2;refine run_draws k cell (11 * H+H * H * room) (by omega) 1000000 (by decide) (by decide) mh fun vs jd m1 lv pv x1 g1 _=>?_
 have g1:IsI m1 jd vs:=g1
 walk_at "x0"
 refine wS_for ?_
 walk_at "x0"
 refine ⟨_,rng1_nat (by omega),rangeL 0 H,fun i l h=>∃ (x9 x10 x11 x12 x13:Option D) (ps:List Pt),l=[some (progD room c0 c1 parts plays),some (.int cell),some (.int room),some (.tup [.int c0,.int c1]),some (.tup (parts.map D.tup)),some (.tup (plays.map natD)),some (.int H),some (.ref jd),some (.ref m1.length),x9,x10,x11,x12,x13,none,none,none,none]/\ps.length=i/\(∀ p∈ps,PtOk p)/\h[m1.length]?=some (.lst (ps.map ptD))/\Ext [] m1 h,
  ⟨none,none,none,none,none,[],rfl,rfl,fun _ z=>absurd z (by simp),at_new,Ext.more⟩,fun _ _ _ _=>⟨rfl,rfl⟩,?_,?_⟩
 ·rintro i d l h4 ed ⟨x9,x10,x11,x12,x13,ps,rfl,lps,ops,g4,x4⟩;have li:=(List.getElem?_eq_some_iff.mp ed).1;rw [rangeL_len] at li;rw [rangeL_nat] at ed;obtain ⟨i',hi',rfl⟩:=List.mem_map.mp (List.mem_of_getElem? ed);have hi':=List.mem_range.mp hi'
  walk_at "x0"
  refine wV_mul (.inl ⟨by decide,by decide⟩) ?_
  walk_at "x0"
  refine wV_mul (.inl ⟨by decide,by decide⟩) ?_
  walk_at "x0"
  have e11:(11:Int) * (i':Int)=((11 * i':Nat):Int):=by push_cast;rfl
  have e22:((11 * i':Nat):Int)+11=((11 * i'+11:Nat):Int):=by push_cast;rfl
  rw [e11,e22];refine wV_slI (g1.ext x4) ?_;have lo:(DL.cutD vs (some ((11 * i':Nat):Int)) (some ((11 * i'+11:Nat):Int))).length=11:=by rw [cut_len (by omega) (by omega)];omega
  generalize hov:DL.cutD vs (some ((11 * i':Nat):Int)) (some ((11 * i'+11:Nat):Int))=ov at lo;have po:∀ v∈ov,0<=v/\v < 2147483647:=fun v hv=>pv v (cut_mem (by rw [hov];exact hv))
  generalize hm5:h4++[MO.lst (ov.map D.int)]=m5;have x5:Ext [] h4 m5:=by rw [← hm5];exact Ext.more
  have go:IsI m5 h4.length ov:=by rw [← hm5];exact at_new
  walk_at "x0"
  refine wV_ixI go (j:=0) (by omega) ?_
  walk_at "x0"
  refine wV_ixT (j := i') (d := natD (plays[i']'(by omega))) (by rw [List.getElem?_map, List.getElem?_eq_getElem (by omega)];rfl) ?_;have hpl : plays[i']'(by omega) < parts.length := by rw [lp];exact hp _ (List.getElem_mem _)
  refine wV_ixT (j := plays[i']'(by omega)) (d := .tup (parts[plays[i']'(by omega)]'hpl)) (by rw [List.getElem?_map, List.getElem?_eq_getElem hpl];rfl) ?_
  walk_at "x0"
  refine wV_len (by intro z z';cases z') rfl ?_
  walk_at "x0"
  refine wD_comp ?_
  walk_at "x0"
  refine wV_slI go ?_;have l3:(DL.cutD ov (some ((1:Nat):Int)) (some ((4:Nat):Int))).length=3:=by rw [cut_len (by omega) (by omega)]
  have p3:∀ v∈DL.cutD ov (some ((1:Nat):Int)) (some ((4:Nat):Int)),0<=v/\v < 2147483647:=fun v hv=>po v (cut_mem hv)
  generalize hc3:DL.cutD ov (some ((1:Nat):Int)) (some ((4:Nat):Int))=cv at l3 p3;refine ⟨_,src_list at_new,cv.map D.int,fun i acc h=>∃ ws:List Int,acc=ws.map D.int/\ws.length=i/\Ext [] (m5++[MO.lst (cv.map D.int)]) h,by rw [List.length_map];omega,⟨[],rfl,rfl,Ext.refl⟩,?_,?_,?_,?_⟩
  ·rintro j acc h ⟨_,_,_,y⟩;exact lref_keep (y.old _ _ (by simp) at_new)
  ·rintro j acc h ⟨ws,rfl,hl,_⟩;rw [List.length_map];omega
  ·rintro j d acc h ed ⟨ws,rfl,hl,y⟩;obtain ⟨v,hv,rfl⟩:=List.mem_map.mp (List.mem_of_getElem? ed)
   walk_at "x0"
   refine run_number (k+1) v (p3 v hv).1 (p3 v hv).2 h fun w h' y'=>?_
   exact ⟨ws++[w],by rw [List.map_append];rfl,by rw [List.length_append,hl];rfl,y.trans y'⟩
  rintro acc h6 ⟨ws,rfl,lw,x6⟩;rw [List.length_map,l3] at lw
  walk_at "x0"
  refine wV_tupOf (seq_new _ _) ?_;generalize hm7:h6++[MO.lst (ws.map D.int)]=m7;have x7:Ext [] m5 m7:=by rw [← hm7];exact (Ext.more.trans x6).trans Ext.more
  walk_at "x0"
  refine wD_compL ?_
  walk_at "x0"
  refine wV_slI (go.ext x7) ?_;have l4:(DL.cutD ov (some ((4:Nat):Int)) (some ((7:Nat):Int))).length=3:=by rw [cut_len (by omega) (by omega)]
  generalize hc4:DL.cutD ov (some ((4:Nat):Int)) (some ((7:Nat):Int))=cn at l4;refine ⟨_,src_list at_new,_,_,fun _=>true,fun d=>match d with | .int v=>.int (v.fmod (H+1) - 1) | _=>.non,rfl,at_new,by rw [List.length_map];omega,fun d hd=>?_,?_⟩
  ·obtain ⟨v, _, rfl⟩ := List.mem_map.mp hd;refine ⟨_, rfl, rfl, fun _ => ?_⟩;obtain ⟨d, h', e, rfl, rfl⟩ : wD (dop subD (dop modD (vr 1) (dop addD (vr 2) (Zr (.int 1)))) (Zr (.int 1))) ((capD [none, none, some 6] [some (progD room c0 c1 parts plays), some (.int cell), some (.int room), some (.tup [.int c0, .int c1]), some (.tup (parts.map D.tup)), some (.tup (plays.map natD)), some (.int H), some (.ref jd), some (.ref m1.length), some (natD i'), some (.ref h4.length), some (.int ((ov[0]'(by omega)).fmod (((parts[plays[i']'(by omega)]'hpl).length : Int) + 2) - 1)), some (.tup (ws.map D.int)), x13, none, none, none, none]).set 1 (some (.int v))) (m7 ++ [MO.lst (cn.map D.int)]) (fun d h' => d = .int (v.fmod (H + 1) - 1) /\ h' = m7 ++ [MO.lst (cn.map D.int)]) := by
    walk_at "x0"
    exact ⟨rfl,rfl⟩
   exact e
  rw [filter_all,List.map_map];have em:cn.map ((fun d=>match d with | .int v=>D.int (v.fmod (H+1) - 1) | _=>.non) ∘ D.int)=(cn.map fun v=>v.fmod (H+1) - 1).map D.int:=by rw [List.map_map];rfl
  rw [em]
  walk_at "x0"
  refine wV_tupOf (seq_new _ _) ?_;generalize hm8:m7++[MO.lst (cn.map D.int)]++[MO.lst ((cn.map fun v=>v.fmod (H+1) - 1).map D.int)]=m8;have x8:Ext [] m5 m8:=by rw [← hm8];exact (x7.trans Ext.more).trans Ext.more
  have g8:m8[m1.length]?=some (.lst (ps.map ptD)):=(x5.trans x8).old _ _ (by simp) g4;have go8:IsI m8 h4.length ov:=go.ext x8
  walk_at "x0"
  refine ⟨ty_list g8,?_⟩
  walk_at "x0"
  refine wV_ixI go8 (j:=7) (by omega) ?_
  walk_at "x0"
  refine wV_shl hh6 ?_;obtain ⟨s0,hs0,es0⟩:=fm_nat (ov[7]'(by omega)) (2 ^ H) (p2 hh6).1;obtain ⟨s1,hs1,es1⟩:=fm_nat (ov[8]'(by omega)) (2 ^ H) (p2 hh6).1;refine wV_mod (by have:=(p2 hh6).1;omega) ?_;rw [es0]
  walk_at "x0"
  refine wV_ixI go8 (j:=8) (by omega) ?_
  walk_at "x0"
  refine wV_shl hh6 ?_;refine wV_mod (by have:=(p2 hh6).1;omega) ?_;rw [es1]
  walk_at "x0"
  refine wV_ixI go8 (j:=9) (by omega) ?_
  walk_at "x0"
  refine wV_append g8 (by rw [List.length_map];omega) ?_
  walk_at "x0"
  refine ⟨_,_,_,_,_,ps++[⟨_,ws,cn.map fun v=>v.fmod (H+1) - 1,s0,s1,_⟩],rfl,by rw [List.length_append,lps];rfl,fun p hpm=>?_,by rw [at_set g8,List.map_append];rfl,((x4.trans x5).trans x8).setNew (Nat.le_refl _)⟩;rcases List.mem_append.mp hpm with z|z
  ·exact ops p z
  ·rw [List.mem_singleton.mp z];have:=(p2 hh6).2;refine ⟨lw,by rw [List.length_map];exact l4,fun m hm=>?_,by show s0 < 64;omega,by show s1 < 64;omega⟩;obtain ⟨v,_,rfl⟩:=List.mem_map.mp hm;have:=fm_lo v (j:=(H:Int)+1) (by omega);omega
 ·rintro l h4 ⟨x9,x10,x11,x12,x13,ps,rfl,lps,ops,g4,x4⟩;rw [rangeL_len] at lps
  walk_at "x0"
  refine wV_mul (.inl ⟨by decide,by decide⟩) ?_
  walk_at "x0"
  have e11:(11:Int) * (H:Int)=((11 * H:Nat):Int):=by push_cast;rfl
  rw [e11];generalize hm5:h4++[MO.lst []]=m5;have x5:Ext [] m1 m5:=by rw [← hm5];exact x4.trans Ext.more
  have gP:m5[m1.length]?=some (.lst (ps.map ptD)):=by rw [← hm5];exact (Ext.more (W:=[])).old _ _ (by simp) g4
  have gR:m5[h4.length]?=some (.lst (([]:Rows).map wayD)):=by rw [← hm5];exact at_new
  have hRl:h4.length < m5.length:=by rw [← hm5];simp
  have hPl:m1.length < h4.length:=lt_len g4;refine wS_for ?_
  walk_at "x0"
  refine ⟨_,rng1_nat (by omega),rangeL 0 H,fun i l h=>∃ (y9 y16 y17:Option D) (rs:Rows),l=[some (progD room c0 c1 parts plays),some (.int cell),some (.int room),some (.tup [.int c0,.int c1]),some (.tup (parts.map D.tup)),some (.tup (plays.map natD)),some (.int H),some (.ref jd),some (.ref m1.length),y9,x10,x11,x12,x13,some (.ref h4.length),some (.int ((11 * H+i * H * room:Nat):Int)),y16,y17]/\rs.length=i/\RowsOk H rs/\h[m1.length]?=some (.lst (ps.map ptD))/\h[h4.length]?=some (.lst (rs.map wayD))/\Ext [] m1 h,
   ⟨x9,none,none,[],by rw [Nat.zero_mul,Nat.zero_mul,Nat.add_zero];rfl,rfl,fun _ z=>absurd z (by simp),gP,gR,x5⟩,fun _ _ _ _=>⟨rfl,rfl⟩,?_,?_⟩
  ·rintro i d l h5 ed ⟨y9,y16,y17,rs,rfl,lrs,ok5,gP5,gR5,y5⟩;have li:=(List.getElem?_eq_some_iff.mp ed).1;rw [rangeL_len] at li;rw [rangeL_nat] at ed;obtain ⟨i',hi',rfl⟩:=List.mem_map.mp (List.mem_of_getElem? ed);have lR5:=lt_len gR5
   walk_at "x0"
   refine wS_for ?_
   walk_at "x0"
   refine ⟨_,rng1_nat (by omega),rangeL 0 H,fun j l h=>∃ (y17:Option D) (ws:List (List (Int×Int×Int))),l=[some (progD room c0 c1 parts plays),some (.int cell),some (.int room),some (.tup [.int c0,.int c1]),some (.tup (parts.map D.tup)),some (.tup (plays.map natD)),some (.int H),some (.ref jd),some (.ref m1.length),some (natD i'),x10,x11,x12,x13,some (.ref h4.length),some (.int ((11 * H+(i * H+j) * room:Nat):Int)),some (.ref h5.length),y17]/\ws.length=j/\(∀ ls∈ws,ls.length<=2)/\h[m1.length]?=some (.lst (ps.map ptD))/\h[h4.length]?=some (.lst (rs.map wayD))/\h[h5.length]?=some (.lst (ws.map fun ls=>D.tup (ls.map letD)))/\Ext [] m1 h,
    ⟨y17,[],by rw [Nat.add_zero];rfl,rfl,fun _ z=>absurd z (by simp),(Ext.more (W:=[])).old _ _ (by simp) gP5,(Ext.more (W:=[])).old _ _ (by simp) gR5,at_new,y5.trans Ext.more⟩,fun _ _ _ _=>⟨rfl,rfl⟩,?_,?_⟩
   ·rintro j d l h7 ed2 ⟨y17,ws,rfl,lws,ok7,gP7,gR7,gW7,y7⟩;have lj:=(List.getElem?_eq_some_iff.mp ed2).1;rw [rangeL_len] at lj;rw [rangeL_nat] at ed2;obtain ⟨j',hj',rfl⟩:=List.mem_map.mp (List.mem_of_getElem? ed2);have bb:=mod_add_lt (r:=room) li lj
    walk_at "x0"
    refine ⟨ty_list gW7,?_⟩
    walk_at "x0"
    have eA:((11 * H+(i * H+j) * room:Nat):Int)+(room:Int)=((11 * H+(i * H+(j+1)) * room:Nat):Int):=by
     have:11 * H+(i * H+(j+1)) * room=11 * H+(i * H+j) * room+room:=by rw [← Nat.add_assoc (i * H) j 1,Nat.add_mul (i * H+j) 1 room];omega
     rw [this];push_cast;rfl
    rw [eA];refine wV_slI (g1.ext y7) ?_;have eB:11 * H+(i * H+(j+1)) * room=11 * H+(i * H+j) * room+room:=by rw [← Nat.add_assoc (i * H) j 1,Nat.add_mul (i * H+j) 1 room];omega
    have lo:(DL.cutD vs (some ((11 * H+(i * H+j) * room:Nat):Int)) (some ((11 * H+(i * H+(j+1)) * room:Nat):Int))).length=room:=by rw [cut_len (by omega) (by omega)];omega
    have po:∀ v∈DL.cutD vs (some ((11 * H+(i * H+j) * room:Nat):Int)) (some ((11 * H+(i * H+(j+1)) * room:Nat):Int)),0<=v/\v < 2147483647:=fun v hv=>pv v (cut_mem hv)
    generalize hov:DL.cutD vs (some ((11 * H+(i * H+j) * room:Nat):Int)) (some ((11 * H+(i * H+(j+1)) * room:Nat):Int))=ov at lo po
    walk_at "x0"
    refine run_letters k h7.length ov room H (by omega) (by omega) _ at_new (by omega) (by omega) po fun ls h8 ll8 y8=>?_
    have z8:=(Ext.more (W:=[])).trans y8
    walk_at "x0"
    refine wV_append (z8.old _ _ (by simp) gW7) (by rw [List.length_map];omega) ?_
    walk_at "x0"
    rw [eA];refine ⟨_,ws++[ls],rfl,by rw [List.length_append,lws];rfl,fun z hz=>?_,?_,?_,by rw [at_set (z8.old _ _ (by simp) gW7),List.map_append];rfl,(y7.trans z8).setNew ?_⟩
    ·rcases List.mem_append.mp hz with z'|z'
     ·exact ok7 z z'
     ·rw [List.mem_singleton.mp z'];omega
    ·rw [List.getElem?_set_ne (by omega)];exact z8.old _ _ (by simp) gP7
    ·rw [List.getElem?_set_ne (by omega)];exact z8.old _ _ (by simp) gR7
    ·exact y5.len
   ·rintro l h7 ⟨y17,ws,rfl,lws,ok7,gP7,gR7,gW7,y7⟩;rw [rangeL_len] at lws
    walk_at "x0"
    refine ⟨ty_list gR7,?_⟩
    walk_at "x0"
    refine wV_tupOf (seq_at gW7) ?_
    walk_at "x0"
    refine wV_append gR7 (by rw [List.length_map];omega) ?_
    walk_at "x0"
    refine ⟨some (natD i'),some (.ref h5.length),y17,rs++[ws],?_,by rw [List.length_append,lrs];rfl,fun z hz=>?_,?_,by rw [at_set gR7,List.map_append];rfl,y7.setNew (by omega)⟩
    ·rw [rangeL_len];have e:11 * H+(i * H+H) * room=11 * H+(i+1) * H * room:=by rw [Nat.add_mul i 1 H,Nat.one_mul]
     rw [e]
    ·rcases List.mem_append.mp hz with z'|z'
     ·exact ok5 z z'
     ·rw [List.mem_singleton.mp z'];exact ⟨lws,ok7⟩
    ·rw [List.getElem?_set_ne (by omega)];exact gP7
  ·rintro l h5 ⟨y9,y16,y17,rs,rfl,lrs,ok5,gP5,gR5,y5⟩
   walk_at "x0"
   refine wV_tupOf (seq_at gP5) ?_
   walk_at "x0"
   refine wV_tupOf (seq_at gR5) ?_
   walk_at "x0"
   refine wV_ixI (g1.ext y5) (j:=10) (by omega) ?_
   walk_at "x0"
   refine wV_ixT (j:=0) (d:=.int c0) rfl ?_
   walk_at "x0"
   refine wV_ixI (g1.ext y5) (j:=10) (by omega) ?_
   walk_at "x0"
   refine wV_ixT (j:=1) (d:=.int c1) rfl ?_
   walk_at "x0"
   exact h ps rs _ _ h5 lps ops (by rw [rangeL_len] at lrs;exact lrs) ok5 (x1.trans y5)
theorem comp_gen {α:Type}{mi:DM Src}{cs:List (Option Nat)}{g:GM}{tc:DM Bool}{e:DM D}{loc:DL.Loc}{mh:MH}{Q:D->MH->Prop}(xs:List α) (F:α->D) (pr:α->Bool) (f:α->D) (hz:xs.length<=1000000)
  (hm:wD mi loc mh fun src h0=>Ext [] mh h0/\∀ h,Ext [] h0 h->src.ok h=true/\src.items h=xs.map F)
  (step:∀ x h {R:D->MH->Prop},x∈xs->Ext [] mh h->(∀ h',Ext [] h h'->R (f x) h')->wG (g (F x) (capD cs loc) h) fun l1 h1=>h1=h/\wD tc l1 h fun c h2=>c=pr x/\h2=h/\(pr x=true->wD e l1 h R))
  (fin:∀ h,Ext [] mh h->Q (.ref h.length) (h++[.lst ((xs.filter pr).map f)])):wD (compM mi cs g tc e) loc mh Q:=by
 refine wD_comp (wD_mono hm ?_);rintro src h0 ⟨x0,keep⟩;refine ⟨xs.map F,fun i acc h=>acc=((xs.take i).filter pr).map f/\i<=xs.length/\Ext [] h0 h,by rw [List.length_map];exact hz,⟨rfl,Nat.zero_le _,Ext.refl⟩,fun i acc h q=>keep h q.2.2,?_,?_,?_⟩
 ·rintro i acc h ⟨rfl,hi,_⟩;rw [List.length_map];refine Nat.le_trans (List.length_filter_le _ _) ?_;rw [List.length_take];omega
 ·rintro i d acc h ed ⟨rfl,hi,x⟩;rw [List.getElem?_map] at ed;cases ex:xs[i]? with
  | none=>rw [ex] at ed;cases ed
  | some y =>
   rw [ex] at ed;cases ed;have hl:=(List.getElem?_eq_some_iff.mp ex).1;have et:xs.take (i+1)=xs.take i++[y]:=by rw [List.take_add_one,ex];rfl
   obtain ⟨l1,h1,e1,rfl,c,h2,e2,rfl,rfl,q⟩:=step y h (R:=fun z h3=>((xs.take i).filter pr).map f++[z]=((xs.take (i+1)).filter pr).map f/\i+1<=xs.length/\Ext [] h0 h3\/pr y=false) (List.mem_of_getElem? ex) (x0.trans x) fun h' x'=>by
    cases hp:pr y with
    | false=>exact .inr rfl
    | true=>exact .inl ⟨by rw [et,List.filter_append,List.map_append];simp [hp],hl,x.trans x'⟩
   refine ⟨l1,_,e1,_,_,e2,fun hp=>?_,fun hp=>⟨?_,hl,x⟩⟩
   ·refine wD_mono (q hp) ?_;rintro z h3 (w | w)
    ·exact w
    ·rw [hp] at w;cases w
   ·rw [et,List.filter_append,List.map_append];simp [hp]
 ·rintro acc h ⟨rfl,hi,x⟩;rw [List.length_map,List.take_length];exact fin h (x0.trans x)
theorem comp_all {α:Type}{mi:DM Src}{cs:List (Option Nat)}{g:GM}{e:DM D}{loc:DL.Loc}{mh:MH}{Q:D->MH->Prop}(xs:List α) (F:α->D) (f:α->D) (hz:xs.length<=1000000)
  (hm:wD mi loc mh fun src h0=>Ext [] mh h0/\∀ h,Ext [] h0 h->src.ok h=true/\src.items h=xs.map F)
  (step:∀ x h {R:D->MH->Prop},x∈xs->Ext [] mh h->(∀ h',Ext [] h h'->R (f x) h')->wG (g (F x) (capD cs loc) h) fun l1 h1=>h1=h/\wD e l1 h R)
  (fin:∀ h,Ext [] mh h->Q (.ref h.length) (h++[.lst (xs.map f)])):wD (compM mi cs g (Zr true) e) loc mh Q:=by
 refine comp_gen xs F (fun _=>true) f hz hm (fun x h R hx ex hR=>?_) fun h ex=>?_
 ·obtain ⟨l1,h1,e1,rfl,q⟩:=step x h hx ex hR;exact ⟨l1,_,e1,rfl,wD_ret ⟨rfl,rfl,fun _=>q⟩⟩
 ·have:=fin h ex;rw [List.filter_eq_self.mpr (fun _ _=>rfl)];exact this
theorem src_seq {ds:List D}{α:Type}{xs:List α}{F:α->D}{mh:MH}(e:ds=xs.map F):Ext [] mh mh/\∀ h,Ext [] mh h->(Src.seq ds).ok h=true/\(Src.seq ds).items h=xs.map F:=⟨Ext.refl,fun _ _=>⟨rfl,e⟩⟩
theorem src_ref {n:Nat}{α:Type}{xs:List α}{F:α->D}{mh:MH}(e:mh[n]?=some (.lst (xs.map F))):∀ h,Ext [] mh h->(Src.lref n).ok h=true/\(Src.lref n).items h=xs.map F:=fun h x=>lref_keep (x.old _ _ (by simp) e)
noncomputable def ob:Option Int->D
 | none=>.non
 | some i=>.int i
noncomputable abbrev Pr:=Option Int×Option Int
noncomputable def prD (p:Pr):D:=.tup [ob p.1,ob p.2]
noncomputable def hi2:Option Int->Option Int->Option Int
 | none,y=>y
 | some a,none=>some a
 | some a,some b=>some (maxI a [b])
noncomputable def lo2:Option Int->Option Int->Option Int
 | none,y=>y
 | some a,none=>some a
 | some a,some b=>some (minI a [b])
noncomputable def cutP (p q:Pr):Pr:=(hi2 p.1 q.1,lo2 p.2 q.2)
theorem e_cut (k:Nat) (p q:Pr) (mh:MH):runF (Gk (k+2)) fuel f1 [prD p,prD q] mh=some (prD (cutP p q),mh):=by
 obtain ⟨a,b⟩:=p;obtain ⟨c,d⟩:=q;cases a <;> cases b <;> cases c <;> cases d <;> kernel_rfl
theorem maxI2 (a b:Int):maxI a [b]=if a < b then b else a:=rfl
theorem minI2 (a b:Int):minI a [b]=if b < a then b else a:=rfl
noncomputable def inP (x:Int) (p:Pr):Prop:=(∀ l,p.1=some l->l<=x)/\∀ h,p.2=some h->x<=h
structure Gp (α:Type) where
 pl:Int
 ns:List α
 ms:List Int
 s0:Nat
 s1:Nat
 bell:Bool
structure Gw (α:Type) where
 ps:List (Gp α)
 rs:List (List (List (Int×α×Int)))
 x:Int
 y:Int
section
variable {α β γ:Type}
noncomputable def gpD (e:α->D) (p:Gp α):D:=.tup [.int p.pl,.tup (p.ns.map e),.tup (p.ms.map D.int),.tup [natD p.s0,natD p.s1],.bl p.bell]
noncomputable def glD (e:α->D) (z:Int×α×Int):D:=.tup [.int z.1,e z.2.1,.int z.2.2]
noncomputable def lsD (e:α->D) (ls:List (Int×α×Int)):D:=.tup (ls.map (glD e))
noncomputable def rwD (e:α->D) (w:List (List (Int×α×Int))):D:=.tup (w.map (lsD e))
noncomputable def gwD (e:α->D) (w:Gw α):D:=.tup [.tup (w.ps.map (gpD e)),.tup (w.rs.map (rwD e)),.tup [.int w.x,.int w.y]]
structure Gw.ok (H:Nat) (w:Gw α):Prop where
 ps:w.ps.length=H
 ns:∀ p∈w.ps,p.ns.length=3
 ms:∀ p∈w.ps,p.ms.length=3
 rs:w.rs.length=H
 rw:∀ r∈w.rs,r.length=H
 ls:∀ r∈w.rs,∀ l∈r,l.length<=2
noncomputable def zpP (g:α->β->γ) (p:Gp α) (q:Gp β):Gp γ:={ pl:=p.pl,ns:=List.zipWith g p.ns q.ns,ms:=p.ms,s0:=p.s0,s1:=p.s1,bell:=p.bell }
noncomputable def zpL (g:α->β->γ) (a:Int×α×Int) (b:Int×β×Int):Int×γ×Int:=(a.1,g a.2.1 b.2.1,a.2.2)
noncomputable def zpW (g:α->β->γ) (a:Gw α) (b:Gw β):Gw γ:={ ps:=List.zipWith (zpP g) a.ps b.ps,rs:=List.zipWith (List.zipWith (List.zipWith (zpL g))) a.rs b.rs,x:=a.x,y:=a.y }
theorem zip_items {as:List α}{bs:List β}(e1:α->D) (e2:β->D):List.zipWith (fun a b=>D.tup [a,b]) (as.map e1) (bs.map e2)=(as.zip bs).map fun z=>.tup [e1 z.1,e2 z.2]:=by
 rw [List.zipWith_map,List.zip,List.map_zipWith]
theorem src_zip {as:List α}{bs:List β}{e1:α->D}{e2:β->D}{mh:MH}:Ext [] mh mh/\∀ h,Ext [] mh h->(Src.zip (.seq (as.map e1)) (.seq (bs.map e2))).ok h=true/\(Src.zip (.seq (as.map e1)) (.seq (bs.map e2))).items h=(as.zip bs).map fun z=>D.tup [e1 z.1,e2 z.2]:=⟨Ext.refl,fun _ _=>⟨rfl,zip_items e1 e2⟩⟩
theorem zip_map {as:List α}{bs:List β}{g:α->β->γ}{f:γ->D}:((as.zip bs).map fun z=>f (g z.1 z.2))=(List.zipWith g as bs).map f:=by
 rw [List.zip,List.map_zipWith,List.map_zipWith]
noncomputable def Rk (r:D) (e1:α->D) (e2:β->D) (e3:γ->D) (g:α->β->γ):Prop:=∀ (k i:Nat) (loc:DL.Loc) (mh h:MH) (mr:DM (List D)) (a:α) (b:β),loc[i]?=some (some r)->mr loc mh=some ([e1 a,e2 b],h)->callL (Gk (k+2)).cal i mr loc mh=some (e3 (g a b),h)
theorem Rk.wd {r:D}{e1:α->D}{e2:β->D}{e3:γ->D}{g:α->β->γ}(R:Rk r e1 e2 e3 g) {k i:Nat}{loc:DL.Loc}{mh:MH}{mr:DM (List D)}{Q:D->MH->Prop}(a:α) (b:β) (el:loc[i]?=some (some r)) (h:wD mr loc mh fun ds h=>ds=[e1 a,e2 b]/\Q (e3 (g a b)) h):wD (callL (Gk (k+2)).cal i mr) loc mh Q:=by
 obtain ⟨ds,h',e,rfl,q⟩:=h;exact ⟨_,_,R k i loc mh h' mr a b el e,q⟩
end
theorem rk_lam:Rk (α:=Int) (β:=Int) .lam D.int D.int prD (fun a b=>(some a,some b)):=by
 intro k i loc mh h mr a b el e;unfold callL;rw [el];show (mr.bnd fun ds=>Zl (lamP ds)) loc mh=_;unfold DM.bnd;rw [e];rfl
theorem e_repP (k:Nat) {a:Int}{x b c:List D}{d:List D}{z:Bool}(mh:MH):runF (Gk (k+1)) fuel f9 [.tup [.int a,.tup x,.tup b,.tup c,.bl z],.int 1,.tup d] mh=some (.tup [.int a,.tup d,.tup b,.tup c,.bl z],mh):=by kernel_rfl
theorem e_repL (k:Nat) {a b:Int}{x d:D}(mh:MH):runF (Gk (k+1)) fuel f9 [.tup [.int a,x,.int b],.int 1,d] mh=some (.tup [.int a,d,.int b],mh):=by kernel_rfl
section
variable {α β γ:Type}{e1:α->D}{e2:β->D}{e3:γ->D}{g:α->β->γ}{r:D}
theorem zip_len {as:List α}{bs:List β}{n:Nat}(h:as.length<=n):(as.zip bs).length<=n:=by rw [List.length_zip];omega
theorem run_zpart (k:Nat) (R:Rk r e1 e2 e3 g) (p:Gp α) (q:Gp β) (hz:p.ns.length<=1000) (mh:MH) {P:D->MH->Prop}(h:∀ h',Ext [] mh h'->P (gpD e3 (zpP g p q)) h'):wV (runF (Gk (k+2)) fuel f20 [gpD e1 p,gpD e2 q,r] mh) P:=by
 refine wV_run (b20_eq (k+1)) lenQ20.1 lenQ20.2 rfl ?_;show wS (b20 (k+1)) [some (gpD e1 p),some (gpD e2 q),some r,none] mh _;unfold b20
 walk_at "x0"
 refine comp_all (p.ns.zip q.ns) (fun z=>.tup [e1 z.1,e2 z.2]) (fun z=>e3 (g z.1 z.2)) (Nat.le_trans (zip_len hz) (by decide)) ?_ (fun z h' Q hz' ex hQ=>?_) fun h' ex=>?_
 ·refine wD_zip ?_
  walk_at "x0"
  refine wV_ixT (j:=1) rfl ?_
  walk_at "x0"
  refine wV_ixT (j:=1) rfl ?_
  walk_at "x0"
  exact ⟨_,_,_,_,rfl,rfl,rfl,src_zip⟩
 ·refine wG_tup (ds:=[e1 z.1,e2 z.2]) rfl ⟨rfl,?_⟩;refine R.wd z.1 z.2 rfl ?_
  walk_at "x0"
  exact ⟨rfl,hQ h' Ext.refl⟩
 walk_at "x0"
 refine wV_tupOf (seq_new _ _) ?_
 walk_at "x0"
 refine wV_of (e_repP k _) ?_;rw [zip_map];exact h _ (ex.trans Ext.more)
theorem run_zletters (k:Nat) (R:Rk r e1 e2 e3 g) (p:List (Int×α×Int)) (q:List (Int×β×Int)) (hz:p.length<=1000) (mh:MH) {P:D->MH->Prop}(h:∀ h',Ext [] mh h'->P (lsD e3 (List.zipWith (zpL g) p q)) h'):wV (runF (Gk (k+2)) fuel f22 [lsD e1 p,lsD e2 q,r] mh) P:=by
 refine wV_run (b22_eq (k+1)) lenQ22.1 lenQ22.2 rfl ?_;show wS (b22 (k+1)) [some (lsD e1 p),some (lsD e2 q),some r] mh _;unfold b22
 walk_at "x0"
 refine comp_all (p.zip q) (fun z=>.tup [glD e1 z.1,glD e2 z.2]) (fun z=>glD e3 (zpL g z.1 z.2)) (Nat.le_trans (zip_len hz) (by decide)) ?_ (fun z h' Q hz' ex hQ=>?_) fun h' ex=>?_
 ·refine wD_zip ?_
  walk_at "x0"
  exact ⟨_,_,_,_,rfl,rfl,rfl,src_zip⟩
 ·refine wG_tup (ds:=[glD e1 z.1,glD e2 z.2]) rfl ⟨rfl,?_⟩
  walk_at "x0"
  refine R.wd z.1.2.1 z.2.2.1 rfl ?_
  walk_at "x0"
  refine wV_ixT (j:=1) rfl ?_
  walk_at "x0"
  refine wV_ixT (j:=1) rfl ?_
  walk_at "x0"
  refine ⟨rfl,?_⟩
  walk_at "x0"
  exact wV_of (e_repL k _) (hQ h' Ext.refl)
 walk_at "x0"
 refine wV_tupOf (seq_new _ _) ?_;rw [zip_map];exact h _ (ex.trans Ext.more)
theorem run_zrows (k:Nat) (R:Rk r e1 e2 e3 g) (p:List (List (Int×α×Int))) (q:List (List (Int×β×Int))) (hz:p.length<=1000) (hl:∀ l∈p,l.length<=2) (mh:MH) {P:D->MH->Prop}(h:∀ h',Ext [] mh h'->P (rwD e3 (List.zipWith (List.zipWith (zpL g)) p q)) h'):wV (runF (Gk (k+3)) fuel f21 [rwD e1 p,rwD e2 q,r] mh) P:=by
 refine wV_run (b21_eq (k+2)) lenQ21.1 lenQ21.2 rfl ?_;show wS (b21 (k+2)) [some (rwD e1 p),some (rwD e2 q),some r] mh _;unfold b21
 walk_at "x0"
 refine comp_all (p.zip q) (fun z=>.tup [lsD e1 z.1,lsD e2 z.2]) (fun z=>lsD e3 (List.zipWith (zpL g) z.1 z.2)) (Nat.le_trans (zip_len hz) (by decide)) ?_ (fun z h' Q hz' ex hQ=>?_) fun h' ex=>?_
 ·refine wD_zip ?_
  walk_at "x0"
  exact ⟨_,_,_,_,rfl,rfl,rfl,src_zip⟩
 ·refine wG_tup (ds:=[lsD e1 z.1,lsD e2 z.2]) rfl ⟨rfl,?_⟩
  walk_at "x0"
  exact run_zletters k R z.1 z.2 (Nat.le_trans (hl _ (List.of_mem_zip hz').1) (by decide)) h' hQ
 walk_at "x0"
 refine wV_tupOf (seq_new _ _) ?_;rw [zip_map];exact h _ (ex.trans Ext.more)
theorem run_zipped (k H:Nat) (R:Rk r e1 e2 e3 g) (a:Gw α) (b:Gw β) (hH:H<=6) (ok:a.ok H) (mh:MH) {P:D->MH->Prop}(h:∀ h',Ext [] mh h'->P (gwD e3 (zpW g a b)) h'):wV (runF (Gk (k+4)) fuel f19 [gwD e1 a,gwD e2 b,r] mh) P:=by
 refine wV_run (b19_eq (k+3)) lenQ19.1 lenQ19.2 rfl ?_;show wS (b19 (k+3)) [some (gwD e1 a),some (gwD e2 b),some r,none,none] mh _;unfold b19
 walk_at "x0"
 refine comp_all (a.ps.zip b.ps) (fun z=>.tup [gpD e1 z.1,gpD e2 z.2]) (fun z=>gpD e3 (zpP g z.1 z.2)) (Nat.le_trans (zip_len (n:=6) (by rw [ok.ps];exact hH)) (by decide)) ?_ (fun z h' Q hz' ex hQ=>?_) fun h1 ex1=>?_
 ·refine wD_zip ?_
  walk_at "x0"
  refine wV_ixT (j:=0) rfl ?_
  walk_at "x0"
  refine wV_ixT (j:=0) rfl ?_
  walk_at "x0"
  exact ⟨_,_,_,_,rfl,rfl,rfl,src_zip⟩
 ·refine wG_tup (ds:=[gpD e1 z.1,gpD e2 z.2]) rfl ⟨rfl,?_⟩
  walk_at "x0"
  exact run_zpart (k+1) R z.1 z.2 (by rw [ok.ns _ (List.of_mem_zip hz').1];decide) h' hQ
 walk_at "x0"
 refine comp_all (a.rs.zip b.rs) (fun z=>.tup [rwD e1 z.1,rwD e2 z.2]) (fun z=>rwD e3 (List.zipWith (List.zipWith (zpL g)) z.1 z.2)) (Nat.le_trans (zip_len (n:=6) (by rw [ok.rs];exact hH)) (by decide)) ?_ (fun z h' Q hz' ex hQ=>?_) fun h2 ex2=>?_
 ·refine wD_zip ?_
  walk_at "x0"
  refine wV_ixT (j:=1) rfl ?_
  walk_at "x0"
  refine wV_ixT (j:=1) rfl ?_
  walk_at "x0"
  exact ⟨_,_,_,_,rfl,rfl,rfl,src_zip⟩
 ·refine wG_tup (ds:=[rwD e1 z.1,rwD e2 z.2]) rfl ⟨rfl,?_⟩
  walk_at "x0"
  have hm:=(List.of_mem_zip hz').1;exact run_zrows k R z.1 z.2 (by rw [ok.rw _ hm];omega) (ok.ls _ hm) h' hQ
 rw [zip_map] at ex2 ⊢
 walk_at "x0"
 refine wV_tupOf (seq_at ((ex2.trans Ext.more).old _ _ (by simp) at_new)) ?_
 walk_at "x0"
 refine wV_tupOf (seq_new _ _) ?_
 walk_at "x0"
 refine wV_ixT (j:=2) rfl ?_
 walk_at "x0"
 exact h _ ((ex1.trans Ext.more).trans (ex2.trans Ext.more))
theorem wV_extT {n:Nat}{xs ys:List D}{mh:MH}{P:D->MH->Prop}(e1:mh[n]?=some (.lst xs)) (hz:xs.length+ys.length<=1000000) (h:P .non (mh.set n (.lst (xs++ys)))):wV (extendD (.ref n) [.tup ys] mh) P :=
 ⟨_,_,by simp only [extendD,e1,if_pos (le_size hz)],h⟩
theorem take_succ {α:Type}{l:List α}{i:Nat}{a:α}(e:l[i]?=some a):l.take (i+1)=l.take i++[a]:=by rw [List.take_add_one,e];rfl
theorem map_at {α:Type}{f:α->D}{l:List α}{i:Nat}{d:D}(e:(l.map f)[i]?=some d):∃ a,l[i]?=some a/\d=f a:=by
 rw [List.getElem?_map] at e;cases h:l[i]? with
 | none=>rw [h] at e;cases e
 | some a=>rw [h] at e;cases e;exact ⟨a,rfl,rfl⟩
theorem flat_len {l:List (List α)}{n:Nat}(h:∀ x∈l,x.length<=n):l.flatten.length<=l.length * n:=by
 induction l with
 | nil=>simp
 | cons a r ih =>
  have h1:=h a List.mem_cons_self;have h2:=ih fun x hx=>h x (List.mem_cons_of_mem _ hx)
  rw [List.flatten_cons,List.length_append,List.length_cons,Nat.add_mul];omega
theorem take_mem {l:List α}{i:Nat}{x:α}(h:x∈l.take i):x∈l:=List.mem_of_mem_take h
theorem run_letAll (k H:Nat) (a:Gw α) (hH:H<=6) (ok:a.ok H) (mh:MH) {P:D->MH->Prop}(h:∀ (j:Nat) h',mh.length<=j->Ext [] mh h'->h'[j]?=some (.lst (a.rs.flatten.map (lsD e1)))->P (.ref j) h'):wV (runF (Gk (k+1)) fuel f18 [gwD e1 a] mh) P:=by
 refine wV_run (b18_eq k) lenQ18.1 lenQ18.2 rfl ?_;show wS (b18 k) [some (gwD e1 a),none,none] mh _;unfold b18
 walk_at "x0"
 refine wS_for ?_
 walk_at "x0"
 refine wV_ixT (j:=1) rfl ?_
 walk_at "x0"
 refine ⟨_,rfl,a.rs.map (rwD e1),fun i l h=>∃ x2,l=[some (gwD e1 a),some (.ref mh.length),x2]/\i<=a.rs.length/\h[mh.length]?=some (.lst ((a.rs.take i).flatten.map (lsD e1)))/\Ext [] mh h,⟨none,rfl,Nat.zero_le _,at_new,Ext.more⟩,fun _ _ _ _=>⟨rfl,rfl⟩,?_,?_⟩
 ·rintro i d l h4 ed ⟨x2,rfl,hi,g4,y4⟩;obtain ⟨r,er,rfl⟩:=map_at ed;have hm:=List.mem_of_getElem? er
  walk_at "x0"
  refine ⟨ty_list g4,?_⟩
  walk_at "x0"
  refine wV_extT g4 ?_ ?_
  ·have h1:(a.rs.take i).flatten.length<=(a.rs.take i).length * H:=flat_len fun x hx=>Nat.le_of_eq (ok.rw x (take_mem hx))
   have h2:=ok.rw r hm;have h3:(a.rs.take i).length<=H:=by rw [List.length_take,ok.rs];omega
   have h4:(a.rs.take i).length * H<=6 * 6:=Nat.mul_le_mul (by omega) hH;rw [List.length_map,List.length_map];omega
  walk_at "x0"
  refine ⟨_,rfl,(List.getElem?_eq_some_iff.mp er).1,?_,y4.setNew (Nat.le_refl _)⟩;rw [at_set g4,take_succ er,List.flatten_append,List.map_append];simp
 ·rintro l h4 ⟨x2,rfl,hi,g4,y4⟩
  walk_at "x0"
  rw [List.length_map,List.take_length] at g4;exact h _ _ (Nat.le_refl _) y4 g4
end
section
variable {α β γ:Type}{e1:α->D}
noncomputable def nsP (ps:List (Gp α)):List α:=(ps.map (·.ns)).flatten
noncomputable def nsL (ls:List (List (Int×α×Int))):List α:=(ls.map fun l=>l.map (·.2.1)).flatten
noncomputable def Gw.nums (w:Gw α):List α:=nsP w.ps++nsL w.rs.flatten
theorem nsP_snoc (ps:List (Gp α)) (p:Gp α):nsP (ps++[p])=nsP ps++p.ns:=by unfold nsP;rw [List.map_append,List.flatten_append];simp
theorem nsL_snoc (ls:List (List (Int×α×Int))) (l:List (Int×α×Int)):nsL (ls++[l])=nsL ls++l.map (·.2.1):=by unfold nsL;rw [List.map_append,List.flatten_append];simp
theorem nsL_app (ls ms:List (List (Int×α×Int))):nsL (ls++ms)=nsL ls++nsL ms:=by unfold nsL;rw [List.map_append,List.flatten_append]
theorem nsP_len {ps:List (Gp α)}(h:∀ p∈ps,p.ns.length=3):(nsP ps).length<=ps.length * 3:=by
 have:=flat_len (l:=ps.map (·.ns)) (n:=3) fun x hx=>by obtain ⟨p,hp,rfl⟩:=List.mem_map.mp hx;exact Nat.le_of_eq (h p hp)
 rw [List.length_map] at this;exact this
theorem nsL_len {ls:List (List (Int×α×Int))}(h:∀ l∈ls,l.length<=2):(nsL ls).length<=ls.length * 2:=by
 have:=flat_len (l:=ls.map fun l=>l.map (·.2.1)) (n:=2) fun x hx=>by obtain ⟨p,hp,rfl⟩:=List.mem_map.mp hx;rw [List.length_map];exact h p hp
 rw [List.length_map] at this;exact this
theorem Gw.ok.ll {H:Nat}{a:Gw α}(ok:a.ok H):∀ l∈a.rs.flatten,l.length<=2:=fun l hl=>by
 obtain ⟨r,hr,hl⟩:=List.mem_flatten.mp hl;exact ok.ls r hr l hl
theorem Gw.ok.fl {H:Nat}{a:Gw α}(ok:a.ok H) (hH:H<=6):a.rs.flatten.length<=36:=by
 have h1:=flat_len (l:=a.rs) (n:=H) fun x hx=>Nat.le_of_eq (ok.rw x hx)
 rw [ok.rs] at h1;exact Nat.le_trans h1 (Nat.mul_le_mul hH hH)
theorem take_le {l:List α}{i n:Nat}(h:l.length<=n):(l.take i).length<=n:=by rw [List.length_take];omega
theorem Gw.ok.b1 {H:Nat}{a:Gw α}(ok:a.ok H) (hH:H<=6) (i:Nat):(nsP (a.ps.take i)).length<=18:=by
 have h1:=nsP_len (ps:=a.ps.take i) fun p hp=>ok.ns p (take_mem hp)
 have h2:(a.ps.take i).length<=6:=take_le (by rw [ok.ps];exact hH);omega
theorem Gw.ok.b2 {H:Nat}{a:Gw α}(ok:a.ok H) (hH:H<=6) (i:Nat):(nsL (a.rs.flatten.take i)).length<=72:=by
 have h1:=nsL_len (ls:=a.rs.flatten.take i) fun p hp=>ok.ll p (take_mem hp)
 have h2:(a.rs.flatten.take i).length<=36:=take_le (ok.fl hH);omega
theorem Gw.ok.b3 {H:Nat}{a:Gw α}(ok:a.ok H) (hH:H<=6):a.nums.length<=90:=by
 have h1:=ok.b1 hH a.ps.length;have h2:=ok.b2 hH a.rs.flatten.length;rw [List.take_length] at h1 h2;unfold Gw.nums;rw [List.length_append];omega
theorem comp_snd {i:Nat}{loc:DL.Loc}{mh:MH}{Q:D->MH->Prop}{l:List (Int×α×Int)}(hz:l.length<=2) (el:loc[i]?=some (some (lsD e1 l)))
  (fin:∀ h,Ext [] mh h->Q (.ref h.length) (h++[.lst ((l.map (·.2.1)).map e1)])):wD (compM (srcM (vr i)) [none,none] (gSet 1) (Zr true) (dop ixD (vr 1) (Zr (.int 1)))) loc mh Q:=by
 refine comp_all l (glD e1) (fun z=>e1 z.2.1) (by omega) ?_ (fun z h' R hz' ex hR=>?_) fun h' ex=>?_
 ·refine wD_src (wD_vr el ?_);exact ⟨_,rfl,src_seq rfl⟩
 ·refine wG_set ⟨rfl,?_⟩
  walk_at "x0"
  refine wV_ixT (j:=1) rfl ?_;exact hR h' Ext.refl
 ·have:=fin h' ex;rw [List.map_map] at this;exact this
theorem run_nums (k H:Nat) (a:Gw α) (hH:H<=6) (ok:a.ok H) (mh:MH) {P:D->MH->Prop}(h:∀ (j:Nat) h',mh.length<=j->Ext [] mh h'->h'[j]?=some (.lst (a.nums.map e1))->P (.ref j) h'):wV (runF (Gk (k+2)) fuel f17 [gwD e1 a] mh) P:=by
 refine wV_run (b17_eq (k+1)) lenQ17.1 lenQ17.2 rfl ?_;show wS (b17 (k+1)) [some (gwD e1 a),none,none,none] mh _;unfold b17
 walk_at "x0"
 refine wS_for ?_
 walk_at "x0"
 refine wV_ixT (j:=0) rfl ?_
 walk_at "x0"
 refine ⟨_,rfl,a.ps.map (gpD e1),fun i l h=>∃ x2,l=[some (gwD e1 a),some (.ref mh.length),x2,none]/\h[mh.length]?=some (.lst ((nsP (a.ps.take i)).map e1))/\Ext [] mh h,⟨none,rfl,at_new,Ext.more⟩,fun _ _ _ _=>⟨rfl,rfl⟩,?_,?_⟩
 ·rintro i d l h4 ed ⟨x2,rfl,g4,y4⟩;obtain ⟨p,er,rfl⟩:=map_at ed;have hm:=List.mem_of_getElem? er
  walk_at "x0"
  refine ⟨ty_list g4,?_⟩
  walk_at "x0"
  refine wV_ixT (j:=1) rfl ?_
  walk_at "x0"
  refine wV_extT g4 ?_ ?_
  ·have:=ok.b1 hH i;rw [List.length_map,List.length_map,ok.ns p hm];omega
  walk_at "x0"
  refine ⟨_,rfl,?_,y4.setNew (Nat.le_refl _)⟩;rw [at_set g4,take_succ er,nsP_snoc,List.map_append]
 ·rintro l h4 ⟨x2,rfl,g4,y4⟩;rw [List.length_map,List.take_length] at g4
  walk_at "x0"
  refine wS_for ?_
  walk_at "x0"
  refine run_letAll (e1:=e1) k H a hH ok h4 fun j h5 hj x5 g5=>?_
  walk_at "x0"
  have lm:=lt_len g4;refine ⟨_,src_list g5,a.rs.flatten.map (lsD e1),fun i l h=>∃ x3,l=[some (gwD e1 a),some (.ref mh.length),x2,x3]/\h[mh.length]?=some (.lst ((nsP a.ps++nsL (a.rs.flatten.take i)).map e1))/\h[j]?=some (.lst (a.rs.flatten.map (lsD e1)))/\Ext [] mh h,⟨none,rfl,?_,g5,y4.trans x5⟩,fun i l h ⟨_,_,_,g,_⟩=>lref_keep g,?_,?_⟩
  ·rw [show nsP a.ps++nsL (a.rs.flatten.take 0)=nsP a.ps from List.append_nil _];exact x5.old _ _ (by simp) g4
  ·rintro i d l h6 ed ⟨x3,rfl,g6,gj,y6⟩;obtain ⟨p,er,rfl⟩:=map_at ed;have hm:=List.mem_of_getElem? er
   walk_at "x0"
   refine ⟨ty_list g6,?_⟩
   walk_at "x0"
   refine comp_snd (ok.ll p hm) rfl fun h7 x7=>?_
   walk_at "x0"
   have g7:=(x7.trans (Ext.more (g:=[.lst ((p.map (·.2.1)).map e1)]))).old _ _ (by simp) g6;refine wV_extend g7 at_new ?_ ?_
   ·have h1:=ok.b1 hH a.ps.length;have h2:=ok.b2 hH i;have h3:=ok.ll p hm;rw [List.take_length] at h1;simp only [List.length_map,List.length_append];omega
   walk_at "x0"
   refine ⟨_,rfl,?_,?_,(y6.trans (x7.trans Ext.more)).setNew (Nat.le_refl _)⟩
   ·rw [at_set g7,take_succ er,nsL_snoc,← List.append_assoc];simp only [List.map_append]
   ·rw [List.getElem?_set_ne (by omega)];exact (x7.trans Ext.more).old _ _ (by simp) gj
  ·rintro l h6 ⟨x3,rfl,g6,gj,y6⟩;rw [List.length_map,List.take_length] at g6
   walk_at "x0"
   exact h _ _ (Nat.le_refl _) y6 g6
theorem run_pairs (k H:Nat) (a:Gw α) (hH:H<=6) (ok:a.ok H) (mh:MH) {P:D->MH->Prop}(h:∀ (j:Nat) h',Ext [] mh h'->h'[j]?=some (.lst (a.nums.map e1))->P (.ref j) h'):wV (runF (Gk (k+1)) fuel f41 [gwD e1 a] mh) P:=by
 refine wV_run (b41_eq k) lenQ41.1 lenQ41.2 rfl ?_;show wS (b41 k) [some (gwD e1 a),none,none,none,none] mh _;unfold b41
 walk_at "x0"
 refine wS_for ?_
 walk_at "x0"
 refine wV_ixT (j:=0) rfl ?_
 walk_at "x0"
 refine ⟨_,rfl,a.ps.map (gpD e1),fun i l h=>∃ x2 j,l=[some (gwD e1 a),some (.ref j),x2,none,none]/\h[j]?=some (.lst ((nsP (a.ps.take i)).map e1))/\Ext [] mh h,⟨none,mh.length,rfl,at_new,Ext.more⟩,fun _ _ _ _=>⟨rfl,rfl⟩,?_,?_⟩
 ·rintro i d l h4 ed ⟨x2,j,rfl,g4,y4⟩;obtain ⟨p,er,rfl⟩:=map_at ed;have hm:=List.mem_of_getElem? er
  walk_at "x0"
  refine wV_ixT (j:=1) rfl ?_
  walk_at "x0"
  refine wV_listOf (ds:=p.ns.map e1) rfl ?_
  walk_at "x0"
  refine wV_addL ((Ext.more (W:=[])).old _ _ (by simp) g4) at_new ?_ ?_
  ·have:=ok.b1 hH i;rw [List.length_map,List.length_map,ok.ns p hm];omega
  walk_at "x0"
  refine ⟨_,_,rfl,?_,(y4.trans Ext.more).trans Ext.more⟩;rw [at_new,take_succ er,nsP_snoc,List.map_append]
 ·rintro l h4 ⟨x2,j0,rfl,g4,y4⟩;rw [List.length_map,List.take_length] at g4
  walk_at "x0"
  refine wS_for ?_
  walk_at "x0"
  refine wV_ixT (j:=1) rfl ?_
  walk_at "x0"
  refine ⟨_,rfl,a.rs.map (rwD e1),fun i l h=>∃ x3 x4 j,l=[some (gwD e1 a),some (.ref j),x2,x3,x4]/\h[j]?=some (.lst ((nsP a.ps++nsL (a.rs.take i).flatten).map e1))/\Ext [] mh h,⟨none,none,j0,rfl,by rw [show nsP a.ps++nsL (a.rs.take 0).flatten=nsP a.ps from List.append_nil _];exact g4,y4⟩,fun _ _ _ _=>⟨rfl,rfl⟩,?_,?_⟩
  ·rintro i d l h5 ed ⟨x3,x4,j,rfl,g5,y5⟩;obtain ⟨r,er,rfl⟩:=map_at ed;have hm:=List.mem_of_getElem? er;have hb:(nsP a.ps).length<=18:=by have:=ok.b1 hH a.ps.length;rw [List.take_length] at this;exact this
   have hb2:(nsL (a.rs.take i).flatten).length<=72:=by
    have h1:=nsL_len (ls:=(a.rs.take i).flatten) fun p hp=>by
     obtain ⟨q,hq,hp⟩:=List.mem_flatten.mp hp;exact ok.ls q (take_mem hq) p hp
    have h2:=flat_len (l:=a.rs.take i) (n:=H) fun x hx=>Nat.le_of_eq (ok.rw x (take_mem hx))
    have h3:(a.rs.take i).length<=6:=take_le (by rw [ok.rs];exact hH);have h4:=Nat.mul_le_mul h3 hH;omega
   walk_at "x0"
   refine wS_for ?_
   walk_at "x0"
   refine ⟨_,rfl,r.map (lsD e1),fun i' l h=>∃ x4 j,l=[some (gwD e1 a),some (.ref j),x2,some (rwD e1 r),x4]/\h[j]?=some (.lst (((nsP a.ps++nsL (a.rs.take i).flatten)++nsL (r.take i')).map e1))/\Ext [] mh h,⟨x4,j,rfl,by rw [show (nsP a.ps++nsL (a.rs.take i).flatten)++nsL (r.take 0)=nsP a.ps++nsL (a.rs.take i).flatten from List.append_nil _];exact g5,y5⟩,fun _ _ _ _=>⟨rfl,rfl⟩,?_,?_⟩
   ·rintro i' d l h6 ed2 ⟨x4,j,rfl,g6,y6⟩;obtain ⟨p,ep,rfl⟩:=map_at ed2;have hp:=ok.ls r hm p (List.mem_of_getElem? ep)
    walk_at "x0"
    refine comp_snd hp rfl fun h7 x7=>?_
    walk_at "x0"
    refine wV_addL ((x7.trans (Ext.more (g:=[.lst ((p.map (·.2.1)).map e1)]))).old _ _ (by simp) g6) at_new ?_ ?_
    ·have h1:=nsL_len (ls:=r.take i') fun p hp=>ok.ls r hm p (take_mem hp)
     have h2:(r.take i').length<=6:=take_le (by rw [ok.rw r hm];exact hH);simp only [List.length_map,List.length_append];omega
    walk_at "x0"
    refine ⟨_,_,rfl,?_,(y6.trans (x7.trans Ext.more)).trans Ext.more⟩;rw [at_new,take_succ ep,nsL_snoc,← List.append_assoc];simp only [List.map_append]
   ·rintro l h6 ⟨x4,j,rfl,g6,y6⟩
    walk_at "x0"
    refine ⟨_,_,_,rfl,?_,y6⟩;rw [g6,List.length_map,List.take_length,take_succ er,List.flatten_append,nsL_app];simp
  ·rintro l h5 ⟨x3,x4,j,rfl,g5,y5⟩;rw [List.length_map,List.take_length] at g5
   walk_at "x0"
   exact h _ _ y5 g5
end
theorem bqI (a b:Int):(a==b)=decide (a=b):=by by_cases h:a=b <;> simp [h]
theorem bqB (a b:Bool):(a==b)=decide (a=b):=by cases a <;> cases b <;> rfl
structure PyE {α:Type} [DecidableEq α] (e:α->D) (n:Nat) where
 p:α->PyData
 y:∀ mh m a,n<=m->DL.py mh m (e a)=some (p a)
 v:∀ a b,PyData.eqv (p a) (p b)=decide (a=b)
section
variable {α β γ δ:Type} [DecidableEq α] [DecidableEq β] [DecidableEq γ] [DecidableEq δ] {e:α->D}{e1:α->D}{e2:β->D}{e3:γ->D}{e4:δ->D}{n n1 n2 n3 n4:Nat}
theorem PyE.ys (E:PyE e n) {mh:MH}{m:Nat}(h:n<=m):∀ l:List α,mapO (DL.py mh m) (l.map e)=some (l.map E.p)
 | []=>rfl
 | a::r=>by simp only [List.map_cons,mapO,E.y mh m a h,E.ys h r]
theorem PyE.vs (E:PyE e n):∀ a b:List α,PyData.eqvAll (a.map E.p) (b.map E.p)=decide (a=b)
 | [],[]=>rfl
 | [],_::_=>rfl
 | _::_,[]=>rfl
 | a::r,b::t=>by
  simp only [List.map_cons,PyData.eqvAll,E.v a b,E.vs r t,List.cons.injEq,Bool.decide_and]
noncomputable def PyE.tup (E:PyE e n):PyE (fun l:List α=>D.tup (l.map e)) (n+1) where
 p:=fun l=>.tuple (l.map E.p)
 y:=fun mh m l h=>by
  obtain ⟨m,rfl⟩:∃ m',m=m'+1:=⟨m - 1,by omega⟩;show (match mapO (DL.py mh m) (l.map e) with | some xs=>some (PyData.tuple xs) | none=>none)=_;rw [E.ys (by omega)]
 v:=fun a b=>E.vs a b
noncomputable def PyE.two (E1:PyE e1 n1) (E2:PyE e2 n2):PyE (fun z:α×β=>D.tup [e1 z.1,e2 z.2]) (max n1 n2+1) where
 p:=fun z=>.tuple [E1.p z.1,E2.p z.2]
 y:=fun mh m z h=>by
  obtain ⟨m,rfl⟩:∃ m',m=m'+1:=⟨m - 1,by omega⟩;show (match mapO (DL.py mh m) [e1 z.1,e2 z.2] with | some xs=>some (PyData.tuple xs) | none=>none)=_;simp only [mapO,E1.y mh m z.1 (by omega),E2.y mh m z.2 (by omega)]
 v:=fun a b=>by
  show (PyData.eqv (E1.p a.1) (E1.p b.1)&&(PyData.eqv (E2.p a.2) (E2.p b.2)&&true))=_;rw [E1.v,E2.v,Bool.and_true,← Bool.decide_and];exact decide_eq_decide.mpr ⟨fun h=>Prod.ext h.1 h.2,fun h=>by rw [h];exact ⟨rfl,rfl⟩⟩
noncomputable def PyE.three (E1:PyE e1 n1) (E2:PyE e2 n2) (E3:PyE e3 n3):PyE (fun z:α×β×γ=>D.tup [e1 z.1,e2 z.2.1,e3 z.2.2]) (max n1 (max n2 n3)+1) where
 p:=fun z=>.tuple [E1.p z.1,E2.p z.2.1,E3.p z.2.2]
 y:=fun mh m z h=>by
  obtain ⟨m,rfl⟩:∃ m',m=m'+1:=⟨m - 1,by omega⟩;show (match mapO (DL.py mh m) [e1 z.1,e2 z.2.1,e3 z.2.2] with | some xs=>some (PyData.tuple xs) | none=>none)=_;simp only [mapO,E1.y mh m z.1 (by omega),E2.y mh m z.2.1 (by omega),E3.y mh m z.2.2 (by omega)]
 v:=fun a b=>by
  show (PyData.eqv (E1.p a.1) (E1.p b.1)&&(PyData.eqv (E2.p a.2.1) (E2.p b.2.1)&&(PyData.eqv (E3.p a.2.2) (E3.p b.2.2)&&true)))=_;rw [E1.v,E2.v,E3.v,Bool.and_true,← Bool.decide_and,← Bool.decide_and];exact decide_eq_decide.mpr ⟨fun h=>Prod.ext h.1 (Prod.ext h.2.1 h.2.2),fun h=>by rw [h];exact ⟨rfl,rfl,rfl⟩⟩
noncomputable def PyE.four (E1:PyE e1 n1) (E2:PyE e2 n2) (E3:PyE e3 n3) (E4:PyE e4 n4):PyE (fun z:α×β×γ×δ=>D.tup [e1 z.1,e2 z.2.1,e3 z.2.2.1,e4 z.2.2.2]) (max n1 (max n2 (max n3 n4))+1) where
 p:=fun z=>.tuple [E1.p z.1,E2.p z.2.1,E3.p z.2.2.1,E4.p z.2.2.2]
 y:=fun mh m z h=>by
  obtain ⟨m,rfl⟩:∃ m',m=m'+1:=⟨m - 1,by omega⟩;show (match mapO (DL.py mh m) [e1 z.1,e2 z.2.1,e3 z.2.2.1,e4 z.2.2.2] with | some xs=>some (PyData.tuple xs) | none=>none)=_;simp only [mapO,E1.y mh m z.1 (by omega),E2.y mh m z.2.1 (by omega),E3.y mh m z.2.2.1 (by omega),E4.y mh m z.2.2.2 (by omega)]
 v:=fun a b=>by
  show (PyData.eqv (E1.p a.1) (E1.p b.1)&&(PyData.eqv (E2.p a.2.1) (E2.p b.2.1)&&(PyData.eqv (E3.p a.2.2.1) (E3.p b.2.2.1)&&(PyData.eqv (E4.p a.2.2.2) (E4.p b.2.2.2)&&true))))=_;rw [E1.v,E2.v,E3.v,E4.v,Bool.and_true,← Bool.decide_and,← Bool.decide_and,← Bool.decide_and];exact decide_eq_decide.mpr ⟨fun h=>Prod.ext h.1 (Prod.ext h.2.1 (Prod.ext h.2.2.1 h.2.2.2)),fun h=>by rw [h];exact ⟨rfl,rfl,rfl,rfl⟩⟩
noncomputable def pyI:PyE D.int 0:=⟨PyData.int,fun _ m a _=>by cases m <;> rfl,fun a b=>bqI a b⟩
noncomputable def pyB:PyE D.bl 0:=⟨PyData.bool,fun _ m a _=>by cases m <;> rfl,fun a b=>bqB a b⟩
noncomputable def pyN:PyE natD 0:=⟨fun n=>PyData.int n,fun _ m a _=>by cases m <;> rfl,fun a b=>by
 show ((a:Int)==(b:Int))=_;rw [bqI]
 exact decide_eq_decide.mpr ⟨fun h=>by omega,fun h=>by omega⟩⟩
noncomputable def pyO:PyE ob 0:=⟨fun o=>match o with | none=>PyData.none | some i=>PyData.int i,fun _ m a _=>by cases m <;> cases a <;> rfl,fun a b=>by
 cases a <;> cases b
 ·rfl
 ·rfl
 ·rfl
 ·rename_i a b;show (a==b)=_;rw [bqI]
  exact decide_eq_decide.mpr ⟨fun h=>by rw [h],fun h=>Option.some.inj h⟩⟩
theorem PyE.eq (E:PyE e n) (h:n<=60) (mh:MH) (a b:α):eqB mh (e a) (e b)=some (decide (a=b)):=by
 unfold eqB;rw [E.y mh 60 a h,E.y mh 60 b h];show some _=_;rw [E.v]
theorem PyE.yL (E:PyE e n) {mh:MH}{m j:Nat}{l:List α}(h:n<=m) (g:mh[j]?=some (.lst (l.map e))):DL.py mh (m+1) (.ref j)=some (.list (l.map E.p)):=by
 show (match mh[j]? with | some (.lst o)=>(match mapO (DL.py mh m) o with | some xs=>some (PyData.list xs) | none=>none) | _=>none)=_;rw [g];dsimp only;rw [E.ys h]
theorem PyE.eqL (E:PyE e n) (h:n<=59) {mh:MH}{i j:Nat}{a b:List α}(g1:mh[i]?=some (.lst (a.map e))) (g2:mh[j]?=some (.lst (b.map e))):eqB mh (.ref i) (.ref j)=some (decide (a=b)):=by
 unfold eqB;rw [E.yL h g1,E.yL h g2];exact congrArg some (E.vs a b)
end
noncomputable def pyP:PyE prD 1:=PyE.two pyO pyO
noncomputable abbrev Bp:=Int×List Int×(Nat×Nat)×Bool
section
variable {α β γ:Type}{e1:α->D}{e2:β->D}
noncomputable def Gp.bare (p:Gp α):Bp:=(p.pl,p.ms,(p.s0,p.s1),p.bell)
noncomputable def Gp.rest (p:Gp α):List Int×(Nat×Nat)×Bool:=(p.ms,(p.s0,p.s1),p.bell)
noncomputable def lbare (l:List (Int×α×Int)):List (Int×Int):=l.map fun z=>(z.1,z.2.2)
noncomputable abbrev BT:=List Bp×List (List (List (Int×Int)))×(Int×Int)
noncomputable def Gw.bare (w:Gw α):BT:=(w.ps.map Gp.bare,w.rs.map (·.map lbare),(w.x,w.y))
end
noncomputable def pyR:=PyE.three (PyE.tup pyI) (PyE.two pyN pyN) pyB
noncomputable def pyX:=PyE.two pyI pyI
theorem flat_inj {α:Type}{H:Nat}:∀ {a b:List (List α)},(∀ x∈a,x.length=H)->(∀ x∈b,x.length=H)->a.length=b.length->a.flatten=b.flatten->a=b
 | [],[],_,_,_,_=>rfl
 | [],_::_,_,_,h,_=>by cases h
 | _::_,[],_,_,h,_=>by cases h
 | x::a,y::b,h1,h2,h3,h4=>by
  rw [List.flatten_cons,List.flatten_cons] at h4;have hl:x.length=y.length:=by rw [h1 x List.mem_cons_self,h2 y List.mem_cons_self]
  obtain ⟨z1,z2⟩:=List.append_inj h4 hl;rw [z1,flat_inj (fun x hx=>h1 x (List.mem_cons_of_mem _ hx)) (fun x hx=>h2 x (List.mem_cons_of_mem _ hx)) (by simpa using h3) z2]
theorem e_without {α:Type}{e1:α->D}(k:Nat) (z:Int×α×Int) (mh:MH):runF (Gk (k+1)) fuel f24 [glD e1 z] mh=some (.tup [.int z.1,.int z.2.2],mh):=by kernel_rfl
theorem wV_neT {x y:D}{mh:MH}{P:D->MH->Prop}(e:eqB mh x y=some true) (h:P (.bl false) mh):wV (neD x y mh) P:=wV_ne e h
theorem wV_neF {x y:D}{mh:MH}{P:D->MH->Prop}(e:eqB mh x y=some false) (h:P (.bl true) mh):wV (neD x y mh) P:=wV_ne e h
noncomputable def alk (a b:BT):Bool:=@decide (a=b) (Classical.propDecidable _)
theorem alkT {a b:BT}(h:a=b):alk a b=true:=@decide_eq_true _ (Classical.propDecidable _) h
theorem alkF {a b:BT}(h:a≠b):alk a b=false:=@decide_eq_false _ (Classical.propDecidable _) h
section
variable {α β γ:Type}{e1:α->D}{e2:β->D}
theorem take_eq {A B C:Type}{f:A->C}{g:B->C}{a:List A}{b:List B}(h:a.length=b.length) (e:∀ (i:Nat) x y,a[i]?=some x->b[i]?=some y->f x=g y):a.map f=b.map g:=by
 apply List.ext_getElem?;intro i;rw [List.getElem?_map,List.getElem?_map];cases ha:a[i]? with
 | none =>
  have:b[i]?=none:=by rw [List.getElem?_eq_none_iff] at ha ⊢;omega
  rw [this];rfl
 | some x =>
  cases hb:b[i]? with
  | none =>
   have:=(List.getElem?_eq_some_iff.mp ha).1;rw [List.getElem?_eq_none_iff] at hb;omega
  | some y=>exact congrArg some (e i x y ha hb)
theorem ne_at {A B C:Type}{f:A->C}{g:B->C}{a:List A}{b:List B}{i:Nat}{x:A}{y:B}(ha:a[i]?=some x) (hb:b[i]?=some y) (n:f x≠g y):a.map f≠b.map g:=fun z=>by
 have:=congrArg (·[i]?) z;simp only [List.getElem?_map,ha,hb] at this;exact n (Option.some.inj this)
theorem wo_comp {k i:Nat}{loc:DL.Loc}{mh:MH}{Q:D->MH->Prop}{l:List (Int×α×Int)}(hz:l.length<=2) (el:loc[i]?=some (some (lsD e1 l))) (fin:∀ h,Ext [] mh h->Q (.ref h.length) (h++[.lst ((lbare l).map fun z=>.tup [.int z.1,.int z.2])])) :
  wD (compM (srcM (vr i)) [none,none] (gSet 1) (Zr true) (calM (runF (Gk (k+1)) fuel f24) (dCons (vr 1) (Zr [])))) loc mh Q:=by
 refine comp_all l (glD e1) (fun z=>.tup [.int z.1,.int z.2.2]) (by omega) ?_ (fun z h' R hz' ex hR=>?_) fun h' ex=>?_
 ·refine wD_src (wD_vr el ?_);exact ⟨_,rfl,src_seq rfl⟩
 ·refine wG_set ⟨rfl,?_⟩
  walk_at "x0"
  exact wV_of (e_without k z h') (hR h' Ext.refl)
 ·have:=fin h' ex;unfold lbare at this;rw [List.map_map] at this;exact this
theorem run_alike (k H:Nat) (a:Gw α) (b:Gw β) (hH:H<=6) (oa:a.ok H) (ok:b.ok H) (mh:MH) {P:D->MH->Prop}(h:∀ h',Ext [] mh h'->P (.bl (alk a.bare b.bare)) h'):wV (runF (Gk (k+2)) fuel f23 [gwD e1 a,gwD e2 b] mh) P:=by
 have no:∀ h',Ext [] mh h'->a.bare≠b.bare->P (.bl false) h':=fun h' x n=>by have:=h h' x;rw [alkF n] at this;exact this
 refine wV_run (b23_eq (k+1)) lenQ23.1 lenQ23.2 rfl ?_;show wS (b23 (k+1)) [some (gwD e1 a),some (gwD e2 b),none,none,none,none] mh _;unfold b23
 walk_at "x0"
 refine wV_ixT (j:=2) rfl ?_
 walk_at "x0"
 refine wV_ixT (j:=2) rfl ?_;have qx:=pyX.eq (by decide) mh (a.x,a.y) (b.x,b.y)
 by_cases hx:(a.x,a.y)=(b.x,b.y)
 case neg =>
  rw [decide_eq_false hx] at qx;refine wV_neF qx ?_
  walk_at "x0"
  exact no mh Ext.refl fun z=>hx (congrArg (·.2.2) z)
 rw [decide_eq_true hx] at qx;refine wV_neT qx ?_
 walk_at "x0"
 refine wS_for ?_;refine wD_zip ?_
 walk_at "x0"
 refine wV_ixT (j:=0) rfl ?_
 walk_at "x0"
 refine wV_ixT (j:=0) rfl ?_
 walk_at "x0"
 refine ⟨_,_,_,_,rfl,rfl,rfl,(a.ps.zip b.ps).map (fun z:Gp α×Gp β=>D.tup [gpD e1 z.1,gpD e2 z.2]),fun i l h=>∃ x2 x3,l=[some (gwD e1 a),some (gwD e2 b),x2,x3,none,none]/\(∀ j x y,j < i->a.ps[j]?=some x->b.ps[j]?=some y->x.bare=y.bare)/\h=mh,⟨none,none,rfl,fun _ _ _ z=>absurd z (Nat.not_lt_zero _),rfl⟩,fun _ _ _ _=>⟨rfl,zip_items _ _⟩,?_,?_⟩
 ·rintro i d l h4 ed ⟨x2,x3,rfl,he,rfl⟩;obtain ⟨⟨p,q⟩,ez,rfl⟩:=map_at ed;obtain ⟨ea,eb⟩:=List.getElem?_zip_eq_some.mp ez;refine wG_tup (ds:=[gpD e1 p,gpD e2 q]) rfl ?_
  walk_at "x0"
  refine wV_ixT (j:=0) rfl ?_
  walk_at "x0"
  refine wV_ixT (j:=0) rfl ?_;have bad:p.bare≠q.bare->P (.bl false) h4:=fun n=>no h4 Ext.refl fun z=>ne_at ea eb n (congrArg (·.1) z)
  have q1:=pyI.eq (by decide) h4 p.pl q.pl
  by_cases h1:p.pl=q.pl
  ·rw [decide_eq_true h1] at q1;refine wV_neT q1 ?_
   walk_at "x0"
   refine wV_of (d:=.tup [.tup (p.ms.map D.int),.tup [natD p.s0,natD p.s1],.bl p.bell]) (h:=h4) rfl ?_
   walk_at "x0"
   refine wV_of (d:=.tup [.tup (q.ms.map D.int),.tup [natD q.s0,natD q.s1],.bl q.bell]) (h:=h4) rfl ?_;have q2:=pyR.eq (by decide) h4 p.rest q.rest
   by_cases h2:p.rest=q.rest
   ·rw [decide_eq_true h2] at q2;refine wV_neT q2 ?_
    walk_at "x0"
    refine ⟨_,_,rfl,fun j x y hj ex ey=>?_,rfl⟩
    by_cases hji:j < i
    ·exact he j x y hji ex ey
    ·have:j=i:=by omega
     subst this;rw [ea] at ex;cases ex;rw [eb] at ey;cases ey;exact Prod.ext h1 h2
   ·rw [decide_eq_false h2] at q2;refine wV_neF q2 ?_
    walk_at "x0"
    exact bad fun z=>h2 (congrArg (·.2) z)
  ·rw [decide_eq_false h1] at q1;refine wV_neF q1 ?_
   walk_at "x0"
   exact bad fun z=>h1 (congrArg (·.1) z)
 ·rintro l h4 ⟨x2,x3,rfl,he,rfl⟩;rw [List.length_map,List.length_zip,oa.ps,ok.ps,Nat.min_self] at he;have hps:a.ps.map Gp.bare=b.ps.map Gp.bare:=take_eq (by rw [oa.ps,ok.ps]) fun i x y ex ey=>he i x y (by have:=(List.getElem?_eq_some_iff.mp ex).1;rw [oa.ps] at this;exact this) ex ey
  walk_at "x0"
  refine wS_for ?_;refine wD_zip ?_
  walk_at "x0"
  refine run_letAll (e1:=e1) k H a hH oa h4 fun j1 h1 hj1 y1 g1=>?_
  walk_at "x0"
  refine run_letAll (e1:=e2) k H b hH ok h1 fun j2 h2 hj2 y2 g2=>?_
  walk_at "x0"
  have g1':=y2.old _ _ (by simp) g1
  refine ⟨_,_,_,_,rfl,src_list g1',src_list g2,(a.rs.flatten.zip b.rs.flatten).map (fun z:List (Int×α×Int)×List (Int×β×Int)=>D.tup [lsD e1 z.1,lsD e2 z.2]),fun i l h=>∃ x4 x5,l=[some (gwD e1 a),some (gwD e2 b),x2,x3,x4,x5]/\(∀ j x y,j < i->a.rs.flatten[j]?=some x->b.rs.flatten[j]?=some y->lbare x=lbare y)/\h[j1]?=some (.lst (a.rs.flatten.map (lsD e1)))/\h[j2]?=some (.lst (b.rs.flatten.map (lsD e2)))/\Ext [] h4 h,
   ⟨none,none,rfl,fun _ _ _ z=>absurd z (Nat.not_lt_zero _),g1',g2,y1.trans y2⟩,fun i l h ⟨_,_,_,_,k1,k2,_⟩=>?_,?_,?_⟩
  ·have a1:=lref_keep k1;have a2:=lref_keep k2;refine ⟨by show (Src.ok _ _&&Src.ok _ _)=true;rw [a1.1,a2.1];rfl,?_⟩;show List.zipWith _ (Src.items _ _) (Src.items _ _)=_;rw [a1.2,a2.2];exact zip_items _ _
  ·rintro i d l h5 ed ⟨x4,x5,rfl,he2,k1,k2,y5⟩;obtain ⟨⟨p,q⟩,ez,rfl⟩:=map_at ed;obtain ⟨ea,eb⟩:=List.getElem?_zip_eq_some.mp ez;refine wG_tup (ds:=[lsD e1 p,lsD e2 q]) rfl ?_
   walk_at "x0"
   refine wo_comp (oa.ll p (List.mem_of_getElem? ea)) rfl fun h6 y6=>?_
   walk_at "x0"
   refine wo_comp (ok.ll q (List.mem_of_getElem? eb)) rfl fun h7 y7=>?_
   have y67:=(y6.trans Ext.more).trans (y7.trans (Ext.more (g:=[.lst ((lbare q).map fun z=>.tup [.int z.1,.int z.2])])));have q3:=pyX.eqL (by decide) ((y7.trans (Ext.more (g:=[.lst ((lbare q).map fun z=>D.tup [.int z.1,.int z.2])]))).old _ _ (by simp) (at_new (a:=h6) (o:=.lst ((lbare p).map fun z=>D.tup [.int z.1,.int z.2])))) (at_new (a:=h7) (o:=.lst ((lbare q).map fun z=>D.tup [.int z.1,.int z.2])))
   by_cases h3:lbare p=lbare q
   ·rw [decide_eq_true h3] at q3;refine wV_neT q3 ?_
    walk_at "x0"
    refine ⟨_,_,rfl,fun j x y hj ex ey=>?_,y67.old _ _ (by simp) k1,y67.old _ _ (by simp) k2,y5.trans y67⟩
    by_cases hji:j < i
    ·exact he2 j x y hji ex ey
    ·have:j=i:=by omega
     subst this;rw [ea] at ex;cases ex;rw [eb] at ey;cases ey;exact h3
   ·rw [decide_eq_false h3] at q3;refine wV_neF q3 ?_
    walk_at "x0"
    refine no _ (y5.trans y67) fun z=>?_
    have z2:=congrArg (fun t:BT=>t.2.1.flatten) z;have z3:∀ {δ:Type} (w:Gw δ),w.bare.2.1.flatten=w.rs.flatten.map lbare:=fun w=>by
     show (w.rs.map (·.map lbare)).flatten=_;rw [List.map_flatten]
    rw [z3 a,z3 b] at z2;exact ne_at ea eb h3 z2
  ·rintro l h5 ⟨x4,x5,rfl,he2,k1,k2,y5⟩;have fl:a.rs.flatten.length=b.rs.flatten.length:=by
    have:∀ {δ:Type} {w:Gw δ},w.ok H->w.rs.flatten.length=H * H:=fun {δ w} o=>by
     rw [List.length_flatten,show w.rs.map List.length=List.replicate H H from List.eq_replicate_iff.mpr ⟨by rw [List.length_map,o.rs],fun x hx=>by obtain ⟨r,hr,rfl⟩:=List.mem_map.mp hx;exact o.rw r hr⟩];simp
    rw [this oa,this ok]
   rw [List.length_map,List.length_zip,← fl,Nat.min_self] at he2;have hrs:=take_eq fl fun i x y ex ey=>he2 i x y (List.getElem?_eq_some_iff.mp ex).1 ex ey
   have e:a.bare=b.bare:=by
    refine Prod.ext hps (Prod.ext ?_ hx);refine flat_inj (H:=H) (fun x hx=>?_) (fun x hx=>?_) ?_ ?_
    ·obtain ⟨r,hr,rfl⟩:=List.mem_map.mp hx;rw [List.length_map];exact oa.rw r hr
    ·obtain ⟨r,hr,rfl⟩:=List.mem_map.mp hx;rw [List.length_map];exact ok.rw r hr
    ·show (a.rs.map _).length=(b.rs.map _).length;rw [List.length_map,List.length_map,oa.rs,ok.rs]
    ·show (a.rs.map (·.map lbare)).flatten=(b.rs.map (·.map lbare)).flatten;rw [← List.map_flatten,← List.map_flatten];exact hrs
   walk_at "x0"
   have:=h h5 y5;rw [alkT e] at this;exact this
end
inductive All2 {α β:Type} (R:α->β->Prop):List α->List β->Prop
 | nil:All2 R [] []
 | cons {a:α} {b:β} {l:List α} {m:List β}:R a b->All2 R l m->All2 R (a::l) (b::m)
section
variable {α β γ δ:Type}
theorem All2.imp {R S:α->β->Prop}(h:∀ x y,R x y->S x y):∀ {a:List α}{b:List β},All2 R a b->All2 S a b
 | _,_,.nil=>.nil
 | _,_,.cons r t=>.cons (h _ _ r) (All2.imp h t)
theorem All2.len {R:α->β->Prop}:∀ {a:List α}{b:List β},All2 R a b->a.length=b.length
 | _,_,.nil=>rfl
 | _,_,.cons _ t=>by rw [List.length_cons,List.length_cons,All2.len t]
theorem All2.app {R:α->β->Prop}:∀ {a:List α}{b:List β}{c:List α}{d:List β},All2 R a b->All2 R c d->All2 R (a++c) (b++d)
 | _,_,_,_,.nil,s=>s
 | _,_,_,_,.cons r t,s=>.cons r (All2.app t s)
theorem All2.flat {R:α->β->Prop}:∀ {a:List (List α)}{b:List (List β)},All2 (All2 R) a b->All2 R a.flatten b.flatten
 | _,_,.nil=>.nil
 | _,_,.cons r t=>by rw [List.flatten_cons,List.flatten_cons];exact r.app (All2.flat t)
theorem All2.of_mem {R:α->β->Prop}:∀ {a:List α}{b:List β},a.length=b.length->(∀ x∈a,∀ y∈b,R x y)->All2 R a b
 | [],[],_,_=>.nil
 | [],_::_,h,_=>by cases h
 | _::_,[],h,_=>by cases h
 | a::l,b::m,h,r=>.cons (r _ List.mem_cons_self _ List.mem_cons_self) (All2.of_mem (by simpa using h) fun x hx y hy=>r x (List.mem_cons_of_mem _ hx) y (List.mem_cons_of_mem _ hy))
theorem zw_mem {g:α->β->γ}{p:γ->Prop}:∀ {a:List α}{b:List β},All2 (fun x y=>p (g x y)) a b->∀ z∈List.zipWith g a b,p z
 | _,_,.nil,z,h=>by cases h
 | _,_,.cons r t,z,h=>by
  rw [List.zipWith_cons_cons] at h;rcases List.mem_cons.mp h with rfl|h
  ·exact r
  ·exact zw_mem t z h
theorem zw_len {g:α->β->γ}{a:List α}{b:List β}(h:a.length=b.length):(List.zipWith g a b).length=a.length:=by rw [List.length_zipWith];omega
variable {H:Nat}{a:Gw α}{b:Gw β}{g:α->β->γ}
theorem zp_ok (oa:a.ok H) (ok:b.ok H) (hb:a.bare=b.bare):(zpW g a b).ok H where
 ps:=by show (List.zipWith _ _ _).length=_;rw [zw_len (by rw [oa.ps,ok.ps]),oa.ps]
 ns:=zw_mem (All2.of_mem (by rw [oa.ps,ok.ps]) fun x hx y hy=>by show (List.zipWith g x.ns y.ns).length=3;rw [zw_len (by rw [oa.ns x hx,ok.ns y hy]),oa.ns x hx])
 ms:=zw_mem (All2.of_mem (by rw [oa.ps,ok.ps]) fun x hx y hy=>oa.ms x hx)
 rs:=by show (List.zipWith _ _ _).length=_;rw [zw_len (by rw [oa.rs,ok.rs]),oa.rs]
 rw:=zw_mem (All2.of_mem (by rw [oa.rs,ok.rs]) fun x hx y hy=>by rw [zw_len (by rw [oa.rw x hx,ok.rw y hy]),oa.rw x hx])
 ls:=zw_mem (All2.of_mem (by rw [oa.rs,ok.rs]) fun x hx y hy l hl=>by
  refine zw_mem (p:=fun l=>l.length<=2) (All2.of_mem (by rw [oa.rw x hx,ok.rw y hy]) fun u hu v hv=>?_) l hl;rw [List.length_zipWith];have:=oa.ls x hx u hu
  omega)
end
theorem zip_src {α β:Type}{e1:α->D}{e2:β->D}{as:List α}{bs:List β}{i j:Nat}{h0:MH}(g1:h0[i]?=some (.lst (as.map e1))) (g2:h0[j]?=some (.lst (bs.map e2))) (h:MH) (x:Ext [] h0 h) :
  (Src.zip (.lref i) (.lref j)).ok h=true/\(Src.zip (.lref i) (.lref j)).items h=(as.zip bs).map fun z:α×β=>D.tup [e1 z.1,e2 z.2]:=by
 have a1:=lref_keep (x.old _ _ (by simp) g1);have a2:=lref_keep (x.old _ _ (by simp) g2);refine ⟨by show (Src.ok _ _&&Src.ok _ _)=true;rw [a1.1,a2.1];rfl,?_⟩;show List.zipWith _ (Src.items _ _) (Src.items _ _)=_;rw [a1.2,a2.2];exact zip_items _ _
theorem bools_all {j:Nat}{mh:MH}{bs:List Bool}{P:D->MH->Prop}(e:mh[j]?=some (.lst (bs.map D.bl))) (h:P (.bl (bs.all id)) mh):wV (allD [.ref j] mh) P:=wV_bools (f:=fun bs=>bs.all id) (seq_at e) h
noncomputable def xD (z:Int×Int):D:=.tup [.int z.1,.int z.2]
noncomputable def bpD (z:Bp):D:=.tup [.int z.1,.tup (z.2.1.map D.int),.tup [natD z.2.2.1.1,natD z.2.2.1.2],.bl z.2.2.2]
noncomputable def pyQ:PyE bpD 2:=PyE.four pyI (PyE.tup pyI) (PyE.two pyN pyN) pyB
theorem vs_of {α:Type} [DecidableEq α] {p:α->PyData}(v:∀ a b,PyData.eqv (p a) (p b)=decide (a=b)):∀ a b:List α,PyData.eqvAll (a.map p) (b.map p)=decide (a=b)
 | [],[]=>rfl
 | [],_::_=>rfl
 | _::_,[]=>rfl
 | a::r,b::t=>by
  simp only [List.map_cons,PyData.eqvAll,v a b,vs_of v r t,List.cons.injEq,Bool.decide_and]
noncomputable def R1 (n:Nat) (h:MH) (d:D) (l:List (Int×Int)):Prop:=∃ j,n<=j/\d=.ref j/\h[j]?=some (.lst (l.map xD))
noncomputable def R2 (n:Nat) (h:MH) (d:D) (r:List (List (Int×Int))):Prop:=∃ j ds,n<=j/\d=.ref j/\h[j]?=some (.lst ds)/\All2 (R1 n h) ds r
noncomputable def R3 (n:Nat) (h:MH) (d:D) (r:List (List (List (Int×Int)))):Prop:=∃ j ds,d=.ref j/\h[j]?=some (.lst ds)/\All2 (R2 n h) ds r
theorem R1.ext {n w:Nat}{h h':MH}(x:Ext [w] h h') (hw:w < n) {d:D}{l:List (Int×Int)}(r:R1 n h d l):R1 n h' d l:=let ⟨j,a,b,c⟩:=r;⟨j,a,b,x.old _ _ (by simp;omega) c⟩
theorem R2.ext {n w:Nat}{h h':MH}(x:Ext [w] h h') (hw:w < n) {d:D}{l:List (List (Int×Int))}(r:R2 n h d l):R2 n h' d l:=let ⟨j,ds,a,b,c,e⟩:=r;⟨j,ds,a,b,x.old _ _ (by simp;omega) c,e.imp fun _ _ q=>q.ext x hw⟩
noncomputable def pq1 (l:List (Int×Int)):PyData:=.list (l.map pyX.p)
noncomputable def pq2 (l:List (List (Int×Int))):PyData:=.list (l.map pq1)
noncomputable def pq3 (l:List (List (List (Int×Int)))):PyData:=.list (l.map pq2)
theorem pq1_v (a b:List (Int×Int)):PyData.eqv (pq1 a) (pq1 b)=decide (a=b):=pyX.vs a b
theorem pq2_v (a b:List (List (Int×Int))):PyData.eqv (pq2 a) (pq2 b)=decide (a=b):=vs_of pq1_v a b
theorem pq3_v (a b:List (List (List (Int×Int)))):PyData.eqv (pq3 a) (pq3 b)=decide (a=b):=vs_of pq2_v a b
theorem mapO_all {α:Type}{R:D->α->Prop}{p:α->PyData}{h:MH}{m:Nat}(s:∀ d a,R d a->py h m d=some (p a)):∀ {ds:List D}{as:List α},All2 R ds as->mapO (py h m) ds=some (as.map p)
 | _,_,.nil=>rfl
 | _,_,.cons r t=>by simp only [mapO,s _ _ r,mapO_all s t,List.map_cons]
theorem py_lst {h:MH}{m j:Nat}{ds:List D}{ps:List PyData}(g:h[j]?=some (.lst ds)) (e:mapO (py h m) ds=some ps):py h (m+1) (.ref j)=some (.list ps):=by
 show (match h[j]? with | some (.lst o)=>(match mapO (DL.py h m) o with | some xs=>some (PyData.list xs) | none=>none) | _=>none)=_;rw [g];dsimp only;rw [e]
theorem R1.py {n:Nat}{h:MH}{d:D}{l:List (Int×Int)}(r:R1 n h d l):DL.py h 57 d=some (pq1 l):=by
 obtain ⟨j,_,rfl,g⟩:=r;exact py_lst g (pyX.ys (by decide) l)
theorem R2.py {n:Nat}{h:MH}{d:D}{l:List (List (Int×Int))}(r:R2 n h d l):DL.py h 58 d=some (pq2 l):=by
 obtain ⟨j,ds,_,rfl,g,a⟩:=r;exact py_lst g (mapO_all (p:=pq1) (fun _ _ q=>R1.py q) a)
theorem R3.py {n:Nat}{h:MH}{d:D}{l:List (List (List (Int×Int)))}(r:R3 n h d l):DL.py h 59 d=some (pq3 l):=by
 obtain ⟨j,ds,rfl,g,a⟩:=r;exact py_lst g (mapO_all (p:=pq2) (fun _ _ q=>R2.py q) a)
noncomputable def bareP (t:BT):PyData:=.tuple [.list (t.1.map pyQ.p),pq3 t.2.1,pyX.p t.2.2]
theorem bareP_v (a b:BT):PyData.eqv (bareP a) (bareP b)=alk a b:=by
 show (PyData.eqvAll (a.1.map pyQ.p) (b.1.map pyQ.p)&&(PyData.eqv (pq3 a.2.1) (pq3 b.2.1)&&(PyData.eqv (pyX.p a.2.2) (pyX.p b.2.2)&&true)))=_;rw [pyQ.vs,pq3_v,pyX.v,Bool.and_true,← Bool.decide_and,← Bool.decide_and]
 by_cases h:a=b
 ·rw [alkT h];exact decide_eq_true ⟨by rw [h],by rw [h],by rw [h]⟩
 ·rw [alkF h];exact decide_eq_false fun z=>h (Prod.ext z.1 (Prod.ext z.2.1 z.2.2))
section
variable {α:Type}{e1:α->D}
theorem All2.snoc {β γ:Type}{R:β->γ->Prop}{a:List β}{b:List γ}{x:β}{y:γ}(h:All2 R a b) (r:R x y):All2 R (a++[x]) (b++[y]):=h.app (.cons r .nil)
theorem bare_row {i n:Nat}{loc:DL.Loc}{mh:MH}{Q:D->MH->Prop}{r:List (List (Int×α×Int))}(hz:r.length<=6) (hl:∀ l∈r,l.length<=2) (hn:n < mh.length) (el:loc[i]?=some (some (rwD e1 r))) (fin:∀ d h,Ext [] mh h->R2 (n+1) h d (r.map lbare)->Q d h) :
  wD (compM (srcM (vr i)) [none,none] (gSet 1) (Zr true) (compM (srcM (vr 1)) [none,none] (gSet 1) (Zr true) (tupM (dCons (dop ixD (vr 1) (Zr (.int 0))) (dCons (dop ixD (vr 1) (Zr (.int 2))) (Zr [])))))) loc mh Q:=by
 refine wD_comp (wD_src (wD_vr el ?_));refine ⟨_,rfl,r.map (lsD e1),fun i acc h=>All2 (R1 (n+1) h) acc ((r.take i).map lbare)/\i<=r.length/\Ext [] mh h,by rw [List.length_map];omega,⟨.nil,Nat.zero_le _,Ext.refl⟩,fun _ _ _ _=>⟨rfl,rfl⟩,?_,?_,?_⟩
 ·rintro i acc h ⟨a,hi,_⟩;rw [a.len,List.length_map,List.length_take];omega
 ·rintro i d acc h4 ed ⟨a,hi,x⟩;obtain ⟨l,er,rfl⟩:=map_at ed;have hm:=hl l (List.mem_of_getElem? er);refine wG_set ?_
  walk_at "x0"
  refine comp_all l (glD e1) (fun z=>xD (z.1,z.2.2)) (by omega) ?_ (fun z h' R hz' ex hR=>?_) fun h5 ex=>?_
  ·walk_at "x0"
   exact ⟨_,rfl,src_seq rfl⟩
  ·refine wG_set ⟨rfl,?_⟩
   walk_at "x0"
   refine wV_ixT (j:=0) rfl ?_
   walk_at "x0"
   refine wV_ixT (j:=2) rfl ?_
   walk_at "x0"
   exact hR h' Ext.refl
  ·refine ⟨?_,(List.getElem?_eq_some_iff.mp er).1,(x.trans ex).trans Ext.more⟩;rw [take_succ er,List.map_append];refine (a.imp fun _ _ q=>R1.ext (w:=n) ((ex.trans Ext.more).weak) (by omega) q).snoc ⟨h5.length,?_,rfl,?_⟩
   ·have:=(x.trans ex).len;omega
   ·rw [at_new];unfold lbare;rw [List.map_map];rfl
 ·rintro acc h4 ⟨a,hi,x⟩;rw [List.length_map,List.take_length] at a;refine fin _ _ (x.trans Ext.more) ⟨h4.length,acc,?_,rfl,at_new,a.imp fun _ _ q=>R1.ext (w:=n) Ext.more.weak (by omega) q⟩;have:=x.len;omega
theorem run_bare (k H:Nat) (a:Gw α) (hH:H<=6) (ok:a.ok H) (mh:MH) {P:D->MH->Prop}(h:∀ d h',Ext [] mh h'->(∀ h2,Ext [] h' h2->py h2 60 d=some (bareP a.bare))->P d h'):wV (runF (Gk (k+1)) fuel f42 [gwD e1 a] mh) P:=by
 refine wV_run (b42_eq k) lenQ42.1 lenQ42.2 rfl ?_;show wS (b42 k) [some (gwD e1 a),none,none,none] mh _;unfold b42
 walk_at "x0"
 refine comp_all a.ps (gpD e1) (fun p=>bpD p.bare) (by rw [ok.ps];omega) ?_ (fun p h' R hz' ex hR=>?_) fun h1 x1=>?_
 ·walk_at "x0"
  refine wV_ixT (j:=0) rfl ?_
  walk_at "x0"
  exact ⟨_,rfl,src_seq rfl⟩
 ·refine wG_set ⟨rfl,?_⟩
  walk_at "x0"
  refine wV_ixT (j:=0) rfl ?_
  walk_at "x0"
  refine wV_of (d:=.tup [.tup (p.ms.map D.int),.tup [natD p.s0,natD p.s1],.bl p.bell]) (h:=h') rfl ?_
  walk_at "x0"
  exact wV_addT (by simp) (hR h' Ext.refl)
 walk_at "x0"
 generalize hm1:h1++[MO.lst (a.ps.map fun p=>bpD p.bare)]=m1;have gp:m1[h1.length]?=some (.lst ((a.ps.map Gp.bare).map bpD)):=by rw [← hm1,at_new,List.map_map];rfl
 have xm:Ext [] mh m1:=by rw [← hm1];exact x1.trans Ext.more
 refine wS_for ?_
 walk_at "x0"
 refine wV_ixT (j:=1) rfl ?_
 walk_at "x0"
 refine ⟨_,rfl,a.rs.map (rwD e1),fun i l h=>∃ x3 ds,l=[some (gwD e1 a),some (.ref h1.length),some (.ref m1.length),x3]/\i<=a.rs.length/\h[m1.length]?=some (.lst ds)/\All2 (R2 (m1.length+1) h) ds ((a.rs.take i).map (·.map lbare))/\Ext [] m1 h,⟨none,[],rfl,Nat.zero_le _,at_new,.nil,Ext.more⟩,fun _ _ _ _=>⟨rfl,rfl⟩,?_,?_⟩
 ·rintro i d l h4 ed ⟨x3,ds,rfl,hi,g4,a4,y4⟩;obtain ⟨r,er,rfl⟩:=map_at ed;have hm:=List.mem_of_getElem? er
  walk_at "x0"
  refine ⟨ty_list g4,?_⟩
  walk_at "x0"
  refine bare_row (by rw [ok.rw r hm];exact hH) (ok.ls r hm) (lt_len g4) rfl fun d h5 x5 r5=>?_
  walk_at "x0"
  have g5:=x5.old _ _ (by simp) g4;refine wV_append g5 ?_ ?_
  ·rw [a4.len,List.length_map,List.length_take,ok.rs];omega
  walk_at "x0"
  refine ⟨_,_,rfl,(List.getElem?_eq_some_iff.mp er).1,at_set g5,?_,(y4.trans x5).setNew (Nat.le_refl _)⟩;rw [take_succ er,List.map_append];exact (a4.imp fun _ _ q=>R2.ext (w:=m1.length) ((x5.weak).trans Ext.set) (by omega) q).snoc (R2.ext (w:=m1.length) Ext.set (by omega) r5)
 ·rintro l h4 ⟨x3,ds,rfl,hi,g4,a4,y4⟩;rw [List.length_map,List.take_length] at a4
  walk_at "x0"
  refine wV_ixT (j:=2) rfl ?_
  walk_at "x0"
  refine h _ _ (xm.trans y4) fun h5 x5=>?_
  have r3:R3 (m1.length+1) h5 (.ref m1.length) (a.rs.map (·.map lbare)):=⟨_,ds,rfl,x5.old _ _ (by simp) g4,a4.imp fun _ _ q=>R2.ext (w:=m1.length) x5.weak (by omega) q⟩;have q1:=pyQ.yL (mh:=h5) (m:=58) (by decide) ((y4.trans x5).old _ _ (by simp) gp);have q3:=pyX.y h5 59 (a.x,a.y) (by decide);show (match mapO (DL.py h5 59) [D.ref h1.length,.ref m1.length,.tup [.int a.x,.int a.y]] with | some xs=>some (PyData.tuple xs) | none=>none)=_;have q3':DL.py h5 59 (.tup [.int a.x,.int a.y])=some (pyX.p (a.x,a.y)):=q3;simp only [mapO,q1,r3.py,q3'];rfl
end
theorem wV_pop {n:Nat}{ns:List Int}{mh:MH}{P:D->MH->Prop}(g:IsI mh n ns) (hl:0 < ns.length) (hz:ns.length<=1000000) (h:∀ h',Ext [n] mh h'->h'.length=mh.length->IsI h' n ns.tail->P (.int ns[0]) h'):wV (popAtD (.ref n) [.int 0] mh) P:=by
 refine wV_popAt (k:=0) (y:=.int ns[0]) g (by rw [List.getElem?_map,List.getElem?_eq_getElem hl];rfl) (by rw [List.length_map];exact hz) ?_;refine h _ Ext.set (by rw [List.length_set]) ?_;have:(ns.map D.int).eraseIdx 0=ns.tail.map D.int:=by cases ns <;> rfl
 rw [this];exact at_set g
noncomputable def bG (dr fn:Fn):SM :=
 (seqS (asgS (dop addD (dop mulD (Zr (.int 3)) (calM lenD (dCons (dop ixD (vr 0) (Zr (.int 0))) (Zr [])))) (calM sumD (dCons (compM (srcM (dop ixD (vr 0) (Zr (.int 1)))) [none,none] (gSet 1) (Zr true) (calM sumD (dCons (compM (srcM (vr 1)) [none,none] (gSet 1) (Zr true) (calM lenD (dCons (vr 1) (Zr [])))) (Zr [])))) (Zr [])))) (gSet 4))
 (seqS (asgS (calM dr (dCons (vr 1) (dCons (vr 4) (dCons (dop powD (Zr (.int 10)) (Zr (.int 4))) (Zr []))))) (gSet 5))
 (seqS (asgS (lstM (Zr [])) (gSet 6))
 (seqS (forS (srcM (dop ixD (vr 0) (Zr (.int 0)))) (gTupD [7,8,9,10,11])
 (seqS (asgS (calM tupleD (dCons (compM (srcM (vr 8)) [none,none,some 5] (gSet 1) (Zr true) (calM fn (dCons (vr 1) (dCons (methM "list" popAtD (vr 2) (dCons (Zr (.int 0)) (Zr []))) (Zr []))))) (Zr []))) (gSet 12))
  (seqS (dropS (methM "list" appendD (vr 6) (dCons (tupM (dCons (vr 7) (dCons (vr 12) (dCons (vr 9) (dCons (vr 10) (dCons (vr 11) (Zr []))))))) (Zr []))))
  Zn)))
 (seqS (asgS (lstM (Zr [])) (gSet 13))
 (seqS (forS (srcM (dop ixD (vr 0) (Zr (.int 1)))) (gSet 2)
 (seqS (asgS (lstM (Zr [])) (gSet 14))
  (seqS (forS (srcM (vr 2)) (gSet 3)
  (seqS (dropS (methM "list" appendD (vr 14) (dCons (calM tupleD (dCons (compM (srcM (vr 3)) [none,none,none,none,some 5] (gTupD [1,2,3]) (Zr true) (tupM (dCons (vr 1) (dCons (calM fn (dCons (vr 2) (dCons (methM "list" popAtD (vr 4) (dCons (Zr (.int 0)) (Zr []))) (Zr [])))) (dCons (vr 3) (Zr [])))))) (Zr []))) (Zr []))))
   Zn))
  (seqS (dropS (methM "list" appendD (vr 13) (dCons (calM tupleD (dCons (vr 14) (Zr []))) (Zr []))))
  Zn))))
 (seqS (retS (tupM (dCons (calM tupleD (dCons (vr 6) (Zr []))) (dCons (calM tupleD (dCons (vr 13) (Zr []))) (dCons (dop ixD (vr 0) (Zr (.int 2))) (Zr []))))))
 Zn)))))))
theorem b40_G (k:Nat):b38 k=bG (runF (Gk k) fuel f28) (runF (Gk k) fuel f37):=rfl
theorem b42_G (k:Nat):b40 k=bG (runF (Gk k) fuel f28) (runF (Gk k) fuel f39):=rfl
noncomputable def okP (p:Pr):Prop:=∀ l h,p=(some l,some h)->l<=h
theorem ix_nn {ds:List D}{v:Int}{n:Nat}{mh:MH}{P:D->MH->Prop}(g:mh[n]?=some (.lst ds)) (hl:0 < ds.length) (hd:∀ d∈ds,∃ c:Int,0<=c/\d=.int c) (h:∀ c:Int,0<=c->P (.int c) mh):wV (ixD (.ref n) (.int (v.fmod ds.length)) mh) P:=by
 obtain ⟨r,hr,er⟩:=fm_nat v ds.length hl;rw [er];refine wV_ixAny g hr fun d hm=>?_
 obtain ⟨c,hc,rfl⟩:=hd d hm;exact h c hc
theorem run_pair (k:Nat) (n v:Int) (hv:0<=v) (mh:MH) {P:D->MH->Prop}(h:∀ (p:Pr) h',inP n p->okP p->Ext [] mh h'->P (prD p) h'):wV (runF (Gk (k+1)) fuel f37 [.int n,.int v] mh) P:=by
 refine wV_run (b37_eq k) lenQ37.1 lenQ37.2 rfl ?_;show wS (b37 k) [some (.int n),some (.int v),none,none] mh _;unfold b37
 walk_at "x0"
 refine ix_nn (v:=v) at_new (by simp) (fun d hd=>?_) fun c1 hc1=>?_
 ·have q:=fm_lo (v.fdiv 16) (j:=10) (by decide);rcases List.mem_cons.mp hd with rfl|hd
  ·exact ⟨_,by omega,rfl⟩
  rcases List.mem_cons.mp hd with rfl|hd
  ·exact ⟨_,by omega,rfl⟩
  rcases List.mem_cons.mp hd with rfl|hd
  ·exact ⟨_,q,rfl⟩
  rw [List.mem_singleton.mp hd];exact ⟨_,hv,rfl⟩
 walk_at "x0"
 refine ix_nn (v:=v.fdiv 4) at_new (by simp) (fun d hd=>?_) fun c2 hc2=>?_
 ·have q:=fm_lo (v.fdiv 64) (j:=10) (by decide);rcases List.mem_cons.mp hd with rfl|hd
  ·exact ⟨_,by omega,rfl⟩
  rcases List.mem_cons.mp hd with rfl|hd
  ·exact ⟨_,by omega,rfl⟩
  rcases List.mem_cons.mp hd with rfl|hd
  ·exact ⟨_,q,rfl⟩
  rw [List.mem_singleton.mp hd];exact ⟨_,hv,rfl⟩
 walk_at "x0"
 obtain ⟨r,hr,er⟩:=fm_nat (v.fdiv 7) 6 (by decide);rw [show (6:Int)=((6:Nat):Int) from rfl,er];refine wV_ixAny at_new (by simp;omega) fun d hd=>?_
 have fin:∀ (hh:MH) (x:Ext [] mh hh) (p:Pr),inP n p->okP p->P (prD p) hh:=fun hh x p hp ho=>h p hh hp ho x
 rcases List.mem_cons.mp hd with rfl|hd
 ·exact fin _ ((Ext.more.trans Ext.more).trans Ext.more) (some (n - c1),some (n+c2)) ⟨fun l e=>by cases e;omega,fun l e=>by cases e;omega⟩ fun l u e=>by cases e;omega
 rcases List.mem_cons.mp hd with rfl|hd
 ·exact fin _ ((Ext.more.trans Ext.more).trans Ext.more) (some (n - c1),some (n+c2)) ⟨fun l e=>by cases e;omega,fun l e=>by cases e;omega⟩ fun l u e=>by cases e;omega
 rcases List.mem_cons.mp hd with rfl|hd
 ·exact fin _ ((Ext.more.trans Ext.more).trans Ext.more) (none,some (n+c2)) ⟨fun l e=>(by cases e),fun l e=>by cases e;omega⟩ fun l u e=>by cases e
 rcases List.mem_cons.mp hd with rfl|hd
 ·exact fin _ ((Ext.more.trans Ext.more).trans Ext.more) (some (n - c1),none) ⟨fun l e=>by cases e;omega,fun l e=>by cases e⟩ fun l u e=>by cases e
 rcases List.mem_cons.mp hd with rfl|hd
 ·exact fin _ ((Ext.more.trans Ext.more).trans Ext.more) (none,none) ⟨fun l e=>(by cases e),fun l e=>by cases e⟩ fun l u e=>by cases e
 rw [List.mem_singleton.mp hd];exact fin _ ((Ext.more.trans Ext.more).trans Ext.more) (some n,some n) ⟨fun l e=>by cases e;omega,fun l e=>by cases e;omega⟩ fun l u e=>by cases e;omega
theorem run_inner (k:Nat) (p:Pr) (hp:okP p) (v:Int) (hv:0<=v) (mh:MH) {P:D->MH->Prop}(h:∀ x:Int,inP x p->P (.int x) mh):wV (runF (Gk (k+1)) fuel f39 [prD p,.int v] mh) P:=by
 obtain ⟨a,b⟩:=p;cases a with
 | none =>
  cases b with
  | none=>exact wV_of (d:=.int (v - 5000)) (h:=mh) (by kernel_rfl) (h _ ⟨fun l e=>(by cases e),fun l e=>by cases e⟩)
  | some b=>exact wV_of (d:=.int (b - v)) (h:=mh) (by kernel_rfl) (h _ ⟨fun l e=>(by cases e),fun l e=>by cases e;omega⟩)
 | some a =>
  cases b with
  | none=>exact wV_of (d:=.int (a+v)) (h:=mh) (by kernel_rfl) (h _ ⟨fun l e=>by cases e;omega,fun l e=>by cases e⟩)
  | some b =>
   have hab:=hp a b rfl;refine wV_run (b39_eq k) lenQ39.1 lenQ39.2 rfl ?_;show wS (b39 k) [some (.tup [.int a,.int b]),some (.int v),none,none] mh _;unfold b39
   walk_at "x0"
   refine wG_tup (ds:=[.int a,.int b]) rfl ?_
   walk_at "x0"
   refine wV_of (d:=.bl false) (h:=mh) rfl ?_
   walk_at "x0"
   refine wV_of (d:=.bl false) (h:=mh) rfl ?_
   walk_at "x0"
   refine wV_of (d:=.bl false) (h:=mh) rfl ?_
   walk_at "x0"
   have q1:=fm_lo v (j:=b - a+1) (by omega);have q2:=fm_hi v (j:=b - a+1) (by omega);exact h _ ⟨fun l e=>by cases e;omega,fun l e=>by cases e;omega⟩
noncomputable def FnOk1 {α β:Type}(e1:α->D) (e2:β->D) (R0:α->Prop) (R:α->β->Prop) (fn:Fn):Prop:=∀ (x:α) (v:Int) (h:MH) {P:D->MH->Prop},R0 x->0<=v->(∀ y h',R x y->Ext [] h h'->P (e2 y) h')->wV (fn [e1 x,.int v] h) P
section
variable {α β:Type}{e1:α->D}{e2:β->D}{R0:α->Prop}{R:α->β->Prop}{fn dr:Fn}
noncomputable def RL (R:α->β->Prop) (z:Int×α×Int) (y:Int×β×Int):Prop:=y.1=z.1/\y.2.2=z.2.2/\R z.2.1 y.2.1
noncomputable def RP (R:α->β->Prop) (p:Gp α) (q:Gp β):Prop:=q.bare=p.bare/\q.ms=p.ms/\All2 R p.ns q.ns
theorem tail_nn {vs:List Int}(h:∀ v∈vs,0<=v):∀ v∈vs.tail,0<=v:=fun v hv=>h v (List.mem_of_mem_tail hv)
theorem comp_draw {i jd:Nat}{loc:DL.Loc}{mh:MH}{Q:D->MH->Prop}{xs:List α}{vs:List Int}(hf:FnOk1 e1 e2 R0 R fn) (el:loc[i]?=some (some (.tup (xs.map e1)))) (hc:capD [none,none,some 5] loc=[none,none,some (.ref jd)]) (g:IsI mh jd vs) (hz:xs.length<=1000) (hx:∀ x∈xs,R0 x) (hl:xs.length<=vs.length) (lv:vs.length<=1000) (hv:∀ v∈vs,0<=v)
  (fin:∀ (ys:List β) (us:List Int) h,All2 R xs ys->us.length+xs.length=vs.length->(∀ v∈us,0<=v)->IsI h jd us->Ext [jd] mh h->Q (.ref h.length) (h++[.lst (ys.map e2)])) :
  wD (compM (srcM (vr i)) [none,none,some 5] (gSet 1) (Zr true) (calM fn (dCons (vr 1) (dCons (methM "list" popAtD (vr 2) (dCons (Zr (.int 0)) (Zr []))) (Zr []))))) loc mh Q:=by
 refine wD_comp (wD_src (wD_vr el ?_));refine ⟨_,rfl,xs.map e1,fun i acc h=>∃ (ys:List β) (us:List Int),acc=ys.map e2/\All2 R (xs.take i) ys/\us.length+i=vs.length/\i<=xs.length/\(∀ v∈us,0<=v)/\IsI h jd us/\Ext [jd] mh h,by rw [List.length_map];omega,⟨[],vs,rfl,.nil,rfl,Nat.zero_le _,hv,g,Ext.refl⟩,fun _ _ _ _=>⟨rfl,rfl⟩,?_,?_,?_⟩
 ·rintro i acc h ⟨ys,us,rfl,a,_,hi,_⟩;rw [List.length_map,← a.len,List.length_take];omega
 ·rintro i d acc h4 ed ⟨ys,us,rfl,a,lu,hi,hu,g4,x4⟩;obtain ⟨x,er,rfl⟩:=map_at ed;have li:=(List.getElem?_eq_some_iff.mp er).1;rw [hc];refine wG_set ?_
  walk_at "x0"
  refine ⟨ty_list g4,?_⟩
  walk_at "x0"
  refine wV_pop g4 (by omega) (by omega) fun h5 x5 _ g5=>?_
  walk_at "x0"
  refine hf x _ h5 (hx x (List.mem_of_getElem? er)) (hu _ (List.getElem_mem _)) fun y h6 ry x6=>?_
  refine ⟨ys++[y],us.tail,by rw [List.map_append];rfl,by rw [take_succ er];exact a.snoc ry,?_,li,tail_nn hu,g5.ext x6,(x4.trans x5).trans x6.weak⟩;rw [List.length_tail];omega
 ·rintro acc h4 ⟨ys,us,rfl,a,lu,hi,hu,g4,x4⟩;rw [List.length_map] at lu a;rw [List.take_length] at a;exact fin ys us h4 a lu hu g4 x4
theorem comp_drawL {i jd:Nat}{loc:DL.Loc}{mh:MH}{Q:D->MH->Prop}{xs:List (Int×α×Int)}{vs:List Int}(hf:FnOk1 e1 e2 R0 R fn) (el:loc[i]?=some (some (lsD e1 xs))) (hc:capD [none,none,none,none,some 5] loc=[none,none,none,none,some (.ref jd)]) (g:IsI mh jd vs) (hz:xs.length<=1000) (hx:∀ x∈xs,R0 x.2.1) (hl:xs.length<=vs.length) (lv:vs.length<=1000) (hv:∀ v∈vs,0<=v)
  (fin:∀ (ys:List (Int×β×Int)) (us:List Int) h,All2 (RL R) xs ys->us.length+xs.length=vs.length->(∀ v∈us,0<=v)->IsI h jd us->Ext [jd] mh h->Q (.ref h.length) (h++[.lst (ys.map (glD e2))])) :
  wD (compM (srcM (vr i)) [none,none,none,none,some 5] (gTupD [1,2,3]) (Zr true) (tupM (dCons (vr 1) (dCons (calM fn (dCons (vr 2) (dCons (methM "list" popAtD (vr 4) (dCons (Zr (.int 0)) (Zr []))) (Zr [])))) (dCons (vr 3) (Zr [])))))) loc mh Q:=by
 refine wD_comp (wD_src (wD_vr el ?_));refine ⟨_,rfl,xs.map (glD e1),fun i acc h=>∃ (ys:List (Int×β×Int)) (us:List Int),acc=ys.map (glD e2)/\All2 (RL R) (xs.take i) ys/\us.length+i=vs.length/\i<=xs.length/\(∀ v∈us,0<=v)/\IsI h jd us/\Ext [jd] mh h,by rw [List.length_map];omega,⟨[],vs,rfl,.nil,rfl,Nat.zero_le _,hv,g,Ext.refl⟩,fun _ _ _ _=>⟨rfl,rfl⟩,?_,?_,?_⟩
 ·rintro i acc h ⟨ys,us,rfl,a,_,hi,_⟩;rw [List.length_map,← a.len,List.length_take];omega
 ·rintro i d acc h4 ed ⟨ys,us,rfl,a,lu,hi,hu,g4,x4⟩;obtain ⟨x,er,rfl⟩:=map_at ed;have li:=(List.getElem?_eq_some_iff.mp er).1;rw [hc];refine wG_tup (ds:=[.int x.1,e1 x.2.1,.int x.2.2]) rfl ?_
  walk_at "x0"
  refine ⟨ty_list g4,?_⟩
  walk_at "x0"
  refine wV_pop g4 (by omega) (by omega) fun h5 x5 _ g5=>?_
  walk_at "x0"
  refine hf x.2.1 _ h5 (hx x (List.mem_of_getElem? er)) (hu _ (List.getElem_mem _)) fun y h6 ry x6=>?_
  walk_at "x0"
  refine ⟨ys++[(x.1,y,x.2.2)],us.tail,by rw [List.map_append];rfl,by rw [take_succ er];exact a.snoc ⟨rfl,rfl,ry⟩,?_,li,tail_nn hu,g5.ext x6,(x4.trans x5).trans x6.weak⟩;rw [List.length_tail];omega
 ·rintro acc h4 ⟨ys,us,rfl,a,lu,hi,hu,g4,x4⟩;rw [List.length_map] at lu a;rw [List.take_length] at a;exact fin ys us h4 a lu hu g4 x4
theorem wV_sum {j:Nat}{ns:List Int}{mh:MH}{P:D->MH->Prop}(g:IsI mh j ns) (h:P (.int ns.sum) mh):wV (sumD [.ref j] mh) P:=⟨_,_,by simp only [sumD,seq_at g,intsOf_map],h⟩
noncomputable def lenI (l:List (Int×α×Int)):Int:=l.length
theorem amt {H:Nat}{w:Gw α}(ok:w.ok H):(3:Int) * (H:Int)+(w.rs.map fun r=>(r.map lenI).sum).sum=((w.nums.length:Nat):Int):=by
 have h1:(nsP w.ps).length=H * 3:=by
  unfold nsP
  rw [List.length_flatten,show (w.ps.map (·.ns)).map List.length=List.replicate H 3 from List.eq_replicate_iff.mpr ⟨by rw [List.length_map,List.length_map,ok.ps],fun x hx=>by
   obtain ⟨r,hr,rfl⟩:=List.mem_map.mp hx;obtain ⟨p,hp,rfl⟩:=List.mem_map.mp hr
   exact ok.ns p hp⟩]
  simp
 have h2:∀ r:List (List (Int×α×Int)),(r.map lenI).sum=((nsL r).length:Int):=fun r=>by
  induction r with
  | nil=>rfl
  | cons l r ih =>
   rw [List.map_cons,List.sum_cons,ih];show (l.length:Int)+_=(((l.map (·.2.1))++nsL r).length:Int);rw [List.length_append,List.length_map];push_cast;rfl
 have h3:∀ rs:List (List (List (Int×α×Int))),(rs.map fun r=>(r.map lenI).sum).sum=((nsL rs.flatten).length:Int):=fun rs=>by
  induction rs with
  | nil=>rfl
  | cons r rs ih =>
   rw [List.map_cons,List.sum_cons,ih,h2,List.flatten_cons,nsL_app,List.length_append];push_cast;rfl
 rw [h3];unfold Gw.nums;rw [List.length_append,h1];push_cast;omega
end
theorem e_pow4:(10:Int) ^ (4:Int).toNat=10000:=by decide +kernel
theorem ext_under {a b c:MH}{n:Nat}(x:Ext [] a b) (y:Ext [n] b c) (h:a.length<=n):Ext [] a c:=⟨Nat.le_trans x.len y.len,fun i o _ e=>y.old i o (by
 have:=lt_len e
 simp;omega) (x.old i o (by simp) e)⟩
noncomputable def DrOk (dr:Fn):Prop:=∀ (c:Int) (n:Nat) (h:MH) {P:D->MH->Prop},n<=1000->(∀ (vs:List Int) (j:Nat) (h':MH),vs.length=n->(∀ v∈vs,0<=v)->Ext [] h h'->IsI h' j vs->h.length<=j->P (.ref j) h')->wV (dr [.int c,.int n,.int 10000] h) P
section
variable {α β:Type}{e1:α->D}{e2:β->D}{R0:α->Prop}{R:α->β->Prop}{fn dr:Fn}
theorem run_G (H:Nat) (w:Gw α) (hH:H<=6) (ok:w.ok H) (hR:∀ x∈w.nums,R0 x) (hf:FnOk1 e1 e2 R0 R fn) (hd:DrOk dr) (cell:Int) (mh:MH) {P:D->MH->Prop}
  (h:∀ (w':Gw β) h',All2 (RP R) w.ps w'.ps->All2 (All2 (All2 (RL R))) w.rs w'.rs->(w'.x,w'.y)=(w.x,w.y)->Ext [] mh h'->P (gwD e2 w') h') :
  wS (bG dr fn) [some (gwD e1 w),some (.int cell),none,none,none,none,none,none,none,none,none,none,none,none,none] mh (retK P):=by
 unfold bG
 walk_at "x0"
 refine wV_ixT (j:=0) rfl ?_
 walk_at "x0"
 refine wV_len (by intro z z';cases z') rfl ?_;rw [List.length_map,ok.ps]
 walk_at "x0"
 refine wV_mul (.inl ⟨by decide,by decide⟩) ?_
 walk_at "x0"
 refine comp_all w.rs (rwD e1) (fun r=>.int (r.map lenI).sum) (by rw [ok.rs];omega) ?_ (fun r h' Q hz' ex hQ=>?_) fun h1 x1=>?_
 ·walk_at "x0"
  refine wV_ixT (j:=1) rfl ?_
  walk_at "x0"
  exact ⟨_,rfl,src_seq rfl⟩
 ·refine wG_set ⟨rfl,?_⟩
  walk_at "x0"
  refine comp_all r (lsD e1) (fun l=>.int (lenI l)) (by rw [ok.rw r hz'];omega) ?_ (fun l h2 Q2 hz2 ex2 hQ2=>?_) fun h2 x2=>?_
  ·walk_at "x0"
   exact ⟨_,rfl,src_seq rfl⟩
  ·refine wG_set ⟨rfl,?_⟩
   walk_at "x0"
   refine wV_len (by intro z z';cases z') rfl ?_;rw [List.length_map];exact hQ2 h2 Ext.refl
  walk_at "x0"
  refine wV_sum (ns:=r.map lenI) (by unfold IsI;rw [at_new,List.map_map];rfl) ?_;exact hQ _ (x2.trans Ext.more)
 walk_at "x0"
 refine wV_sum (ns:=w.rs.map fun r=>(r.map lenI).sum) (by unfold IsI;rw [at_new,List.map_map];rfl) ?_
 walk_at "x0"
 rw [amt ok];have b3:=ok.b3 hH
 walk_at "x0"
 refine wV_pow (by decide) (by decide) (by decide) ?_;rw [e_pow4]
 walk_at "x0"
 refine hd cell w.nums.length _ (by omega) fun vs jd m1 lv hv y1 g1 hj=>?_
 have x1':Ext [] mh m1:=(x1.trans Ext.more).trans y1;have hjd:mh.length<=jd:=Nat.le_trans (x1.trans (Ext.more (g:=[MO.lst (w.rs.map fun r=>D.int (r.map lenI).sum)]))).len hj;have ljd:jd < m1.length:=lt_len g1
 clear hj
 walk_at "x0"
 refine wS_for ?_
 walk_at "x0"
 refine wV_ixT (j:=0) rfl ?_
 walk_at "x0"
 have hnl:w.nums.length=(nsP w.ps).length+(nsL w.rs.flatten).length:=by unfold Gw.nums;rw [List.length_append]
 have mp:∀ x∈nsP w.ps,R0 x:=fun x hx=>hR x (List.mem_append_left _ hx)
 have ml:∀ x∈nsL w.rs.flatten,R0 x:=fun x hx=>hR x (List.mem_append_right _ hx)
 refine ⟨_,rfl,w.ps.map (gpD e1),fun i l h=>∃ x7 x8 x9 x10 x11 x12,∃ (qs:List (Gp β)) (us:List Int),l=[some (gwD e1 w),some (.int cell),none,none,some (.int (w.nums.length:Nat)),some (.ref jd),some (.ref m1.length),x7,x8,x9,x10,x11,x12,none,none]/\i<=w.ps.length/\All2 (RP R) (w.ps.take i) qs/\h[m1.length]?=some (.lst (qs.map (gpD e2)))/\us.length+(nsP (w.ps.take i)).length=w.nums.length/\(∀ v∈us,0<=v)/\IsI h jd us/\Ext [] mh h,
  ⟨none,none,none,none,none,none,[],vs,rfl,Nat.zero_le _,.nil,at_new,lv,hv,g1.ext Ext.more,x1'.trans Ext.more⟩,fun _ _ _ _=>⟨rfl,rfl⟩,?_,?_⟩
 ·rintro i d l h4 ed ⟨x7,x8,x9,x10,x11,x12,qs,us,rfl,hi,a4,g4,lu,hu,gd,y4⟩;obtain ⟨p,er,rfl⟩:=map_at ed;have hm:=List.mem_of_getElem? er;have li:=(List.getElem?_eq_some_iff.mp er).1;have lp:(nsP (w.ps.take (i+1))).length=(nsP (w.ps.take i)).length+3:=by rw [take_succ er,nsP_snoc,List.length_append,ok.ns p hm]
  have lle:(nsP (w.ps.take (i+1))).length<=(nsP w.ps).length:=by
   have:nsP w.ps=nsP (w.ps.take (i+1))++nsP (w.ps.drop (i+1)):=by
    unfold nsP;rw [← List.flatten_append,← List.map_append,List.take_append_drop]
   rw [this,List.length_append];omega
  refine wG_tup (ds:=[.int p.pl,.tup (p.ns.map e1),.tup (p.ms.map D.int),.tup [natD p.s0,natD p.s1],.bl p.bell]) rfl ?_
  walk_at "x0"
  refine comp_draw (xs:=p.ns) hf rfl rfl gd (by rw [ok.ns p hm];decide) (fun x hx=>mp x ?_) (by rw [ok.ns p hm];omega) (by omega) hu fun ys us' h5 ay lu' hu' g5 x5=>?_
  ·unfold nsP;exact List.mem_flatten.mpr ⟨p.ns,List.mem_map.mpr ⟨p,hm,rfl⟩,hx⟩
  have ly:=ay.len;rw [ok.ns p hm] at ly lu'
  walk_at "x0"
  refine wV_tupOf (seq_new _ _) ?_;have x5':=x5.trans (Ext.more (g:=[MO.lst (ys.map e2)]));have g4':=x5'.old _ _ (by simp;omega) g4
  walk_at "x0"
  refine ⟨ty_list g4',?_⟩
  walk_at "x0"
  refine wV_append g4' ?_ ?_
  ·rw [List.length_map,← a4.len,List.length_take,ok.ps];omega
  walk_at "x0"
  refine ⟨_,_,_,_,_,_,qs++[⟨p.pl,ys,p.ms,p.s0,p.s1,p.bell⟩],us',rfl,li,?_,?_,?_,hu',?_,?_⟩
  ·rw [take_succ er];exact a4.snoc ⟨rfl,rfl,ay⟩
  ·rw [at_set g4',List.map_append];rfl
  ·omega
  ·unfold IsI;rw [List.getElem?_set_ne (by omega)];exact g5.ext Ext.more
  ·exact (ext_under y4 x5' hjd).setNew (by have:=x1'.len;omega)
 ·rintro l h4 ⟨x7,x8,x9,x10,x11,x12,qs,us,rfl,hi,a4,g4,lu,hu,gd,y4⟩;rw [List.length_map,List.take_length] at a4 lu
  walk_at "x0"
  generalize hm5:h4++[MO.lst []]=m5;have y5:Ext [] mh m5:=by rw [← hm5];exact y4.trans Ext.more
  have gq:m5[m1.length]?=some (.lst (qs.map (gpD e2))):=by rw [← hm5];exact (Ext.more (W:=[])).old _ _ (by simp) g4
  have gr:m5[h4.length]?=some (.lst (([]:List (List (List (Int×β×Int)))).map (rwD e2))):=by rw [← hm5];exact at_new
  have gd5:IsI m5 jd us:=by rw [← hm5];exact gd.ext Ext.more
  have l4:=lt_len g4;have l5:=lt_len gr;have lmh:=y4.len
  clear hm5
  refine wS_for ?_
  walk_at "x0"
  refine wV_ixT (j:=1) rfl ?_
  walk_at "x0"
  refine ⟨_,rfl,w.rs.map (rwD e1),fun i l h=>∃ x2 x3 x14,∃ (qr:List (List (List (Int×β×Int)))) (us:List Int),l=[some (gwD e1 w),some (.int cell),x2,x3,some (.int (w.nums.length:Nat)),some (.ref jd),some (.ref m1.length),x7,x8,x9,x10,x11,x12,some (.ref h4.length),x14]/\i<=w.rs.length/\All2 (All2 (All2 (RL R))) (w.rs.take i) qr/\h[h4.length]?=some (.lst (qr.map (rwD e2)))/\h[m1.length]?=some (.lst (qs.map (gpD e2)))/\us.length+((nsP w.ps).length+(nsL (w.rs.take i).flatten).length)=w.nums.length/\(∀ v∈us,0<=v)/\IsI h jd us/\m5.length<=h.length/\Ext [] mh h,
   ⟨none,none,none,[],us,rfl,Nat.zero_le _,.nil,gr,gq,lu,hu,gd5,Nat.le_refl _,y5⟩,fun _ _ _ _=>⟨rfl,rfl⟩,?_,?_⟩
  ·rintro i d l h6 ed ⟨x2,x3,x14,qr,us,rfl,hi,a6,g6,gq6,lu6,hu6,gd6,lh6,y6⟩;obtain ⟨r,er,rfl⟩:=map_at ed;have hm:=List.mem_of_getElem? er;have li:=(List.getElem?_eq_some_iff.mp er).1;have l6:=lt_len g6
   walk_at "x0"
   generalize hm7:h6++[MO.lst []]=m7;have y7:Ext [] mh m7:=by rw [← hm7];exact y6.trans Ext.more
   have x67:Ext [] h6 m7:=by rw [← hm7];exact Ext.more
   have gs:m7[h6.length]?=some (.lst (([]:List (List (Int×β×Int))).map (lsD e2))):=by rw [← hm7];exact at_new
   have ls:=lt_len gs
   clear hm7
   refine wS_for ?_
   walk_at "x0"
   refine ⟨_,rfl,r.map (lsD e1),fun i' l h=>∃ x3,∃ (qw:List (List (Int×β×Int))) (us:List Int),l=[some (gwD e1 w),some (.int cell),some (rwD e1 r),x3,some (.int (w.nums.length:Nat)),some (.ref jd),some (.ref m1.length),x7,x8,x9,x10,x11,x12,some (.ref h4.length),some (.ref h6.length)]/\i'<=r.length/\All2 (All2 (RL R)) (r.take i') qw/\h[h6.length]?=some (.lst (qw.map (lsD e2)))/\h[h4.length]?=some (.lst (qr.map (rwD e2)))/\h[m1.length]?=some (.lst (qs.map (gpD e2)))/\us.length+((nsP w.ps).length+(nsL (w.rs.take i).flatten).length+(nsL (r.take i')).length)=w.nums.length/\(∀ v∈us,0<=v)/\IsI h jd us/\m7.length<=h.length/\Ext [] mh h,
    ⟨x3,[],us,rfl,Nat.zero_le _,.nil,gs,x67.old _ _ (by simp) g6,x67.old _ _ (by simp) gq6,lu6,hu6,gd6.ext x67,Nat.le_refl _,y7⟩,fun _ _ _ _=>⟨rfl,rfl⟩,?_,?_⟩
   ·rintro i' d l h8 ed2 ⟨x3,qw,us,rfl,hi',a8,g8,gr8,gq8,lu8,hu8,gd8,lh8,y8⟩;obtain ⟨l,el,rfl⟩:=map_at ed2;have hml:=List.mem_of_getElem? el;have lil:=(List.getElem?_eq_some_iff.mp el).1;have llt:=ok.ls r hm l hml;have lN:(nsL (r.take (i'+1))).length=(nsL (r.take i')).length+l.length:=by rw [take_succ el,nsL_snoc,List.length_append,List.length_map]
    have sub:(nsL (w.rs.take i).flatten).length+(nsL (r.take (i'+1))).length<=(nsL w.rs.flatten).length:=by
     have e1:nsL w.rs.flatten=nsL (w.rs.take (i+1)).flatten++nsL (w.rs.drop (i+1)).flatten:=by
      rw [← nsL_app,← List.flatten_append,List.take_append_drop]
     have e2:nsL (w.rs.take (i+1)).flatten=nsL (w.rs.take i).flatten++nsL r:=by
      rw [take_succ er,List.flatten_append,nsL_app];simp
     have e3:nsL r=nsL (r.take (i'+1))++nsL (r.drop (i'+1)):=by rw [← nsL_app,List.take_append_drop]
     rw [e1,e2,e3];simp only [List.length_append];omega
    walk_at "x0"
    refine ⟨ty_list g8,?_⟩
    walk_at "x0"
    refine comp_drawL (xs:=l) hf rfl rfl gd8 (by omega) (fun x hx=>ml _ ?_) (by omega) (by omega) hu8 fun ys us' h9 ay lu' hu' g9 x9=>?_
    ·unfold nsL;exact List.mem_flatten.mpr ⟨_,List.mem_map.mpr ⟨l,List.mem_flatten.mpr ⟨r,hm,hml⟩,rfl⟩,List.mem_map.mpr ⟨x,hx,rfl⟩⟩
    have x9':=x9.trans (Ext.more (g:=[MO.lst (ys.map (glD e2))]));have q1:=x9'.old _ _ (by simp;omega) g8;have q2:=x9'.old _ _ (by simp;omega) gr8;have q3:=x9'.old _ _ (by simp;omega) gq8;have l9:=x9'.len
    walk_at "x0"
    refine wV_tupOf (seq_new _ _) ?_
    walk_at "x0"
    refine wV_append q1 ?_ ?_
    ·rw [List.length_map,← a8.len,List.length_take,ok.rw r hm];omega
    walk_at "x0"
    refine ⟨_,qw++[ys],us',rfl,lil,?_,?_,?_,?_,?_,hu',?_,?_,?_⟩
    ·rw [take_succ el];exact a8.snoc ay
    ·rw [at_set q1,List.map_append];rfl
    ·rw [List.getElem?_set_ne (by omega)];exact q2
    ·rw [List.getElem?_set_ne (by omega)];exact q3
    ·omega
    ·unfold IsI;rw [List.getElem?_set_ne (by omega)];exact g9.ext Ext.more
    ·rw [List.length_set];omega
    ·exact (ext_under y8 x9' hjd).setNew (by omega)
   ·rintro l h8 ⟨x3,qw,us,rfl,hi',a8,g8,gr8,gq8,lu8,hu8,gd8,lh8,y8⟩;rw [List.length_map,List.take_length] at a8 lu8
    walk_at "x0"
    refine ⟨ty_list gr8,?_⟩
    walk_at "x0"
    refine wV_tupOf (seq_at g8) ?_
    walk_at "x0"
    refine wV_append gr8 ?_ ?_
    ·rw [List.length_map,← a6.len,List.length_take,ok.rs];omega
    walk_at "x0"
    refine ⟨_,_,_,qr++[qw],us,rfl,li,?_,?_,?_,?_,hu8,?_,?_,?_⟩
    ·rw [take_succ er];exact a6.snoc a8
    ·rw [at_set gr8,List.map_append];rfl
    ·rw [List.getElem?_set_ne (by omega)];exact gq8
    ·rw [take_succ er,List.flatten_append,nsL_app,List.length_append];simp only [List.flatten_cons,List.flatten_nil,List.append_nil];omega
    ·unfold IsI;rw [List.getElem?_set_ne (by omega)];exact gd8
    ·rw [List.length_set];omega
    ·exact y8.setNew (by omega)
  ·rintro l h6 ⟨x2,x3,x14,qr,us,rfl,hi,a6,g6,gq6,lu6,hu6,gd6,lh6,y6⟩;rw [List.length_map,List.take_length] at a6
   walk_at "x0"
   refine wV_tupOf (seq_at gq6) ?_
   walk_at "x0"
   refine wV_tupOf (seq_at g6) ?_
   walk_at "x0"
   refine wV_ixT (j:=2) rfl ?_
   walk_at "x0"
   exact h ⟨qs,qr,w.x,w.y⟩ h6 a4 a6 rfl y6
end
section
variable {α β γ δ:Type}
theorem All2.mem_r {R:α->β->Prop}:∀ {a:List α}{b:List β},All2 R a b->∀ y∈b,∃ x∈a,R x y
 | _,_,.nil,y,h=>by cases h
 | _,_,.cons r t,y,h=>by
  rcases List.mem_cons.mp h with rfl|h
  ·exact ⟨_,List.mem_cons_self,r⟩
  ·obtain ⟨x,hx,q⟩:=All2.mem_r t y h;exact ⟨x,List.mem_cons_of_mem _ hx,q⟩
theorem All2.eqm {f:α->γ}{g:β->γ}:∀ {a:List α}{b:List β},All2 (fun x y=>g y=f x) a b->b.map g=a.map f
 | _,_,.nil=>rfl
 | _,_,.cons r t=>by rw [List.map_cons,List.map_cons,r,All2.eqm t]
theorem All2.maps {S:γ->δ->Prop}{f:α->γ}{g:β->δ}:∀ {a:List α}{b:List β},All2 (fun x y=>S (f x) (g y)) a b->All2 S (a.map f) (b.map g)
 | _,_,.nil=>.nil
 | _,_,.cons r t=>by rw [List.map_cons,List.map_cons];exact .cons r (All2.maps t)
theorem rel_facts {R:α->β->Prop}{H:Nat}{w:Gw α}{v:Gw β}(ok:w.ok H) (h1:All2 (RP R) w.ps v.ps) (h2:All2 (All2 (All2 (RL R))) w.rs v.rs) (h3:(v.x,v.y)=(w.x,w.y)):v.ok H/\v.bare=w.bare/\All2 R w.nums v.nums:=by
 refine ⟨⟨by rw [← h1.len,ok.ps],fun q hq=>?_,fun q hq=>?_,by rw [← h2.len,ok.rs],fun r hr=>?_,fun r hr l hl=>?_⟩,Prod.ext ?_ (Prod.ext ?_ h3),?_⟩
 ·obtain ⟨p,hp,z⟩:=h1.mem_r q hq;rw [← z.2.2.len,ok.ns p hp]
 ·obtain ⟨p,hp,z⟩:=h1.mem_r q hq;rw [z.2.1,ok.ms p hp]
 ·obtain ⟨p,hp,z⟩:=h2.mem_r r hr;rw [← z.len,ok.rw p hp]
 ·obtain ⟨p,hp,z⟩:=h2.mem_r r hr;obtain ⟨m,hm,y⟩:=z.mem_r l hl;rw [← y.len];exact ok.ls p hp m hm
 ·exact (h1.imp fun _ _ z=>z.1).eqm
 ·exact (h2.imp fun _ _ z=>(z.imp fun _ _ y=>(y.imp fun _ _ u=>Prod.ext u.1 u.2.1).eqm (f:=fun z:Int×α×Int=>(z.1,z.2.2)) (g:=fun z:Int×β×Int=>(z.1,z.2.2))).eqm (f:=lbare) (g:=lbare)).eqm
 ·refine All2.app (All2.flat ((h1.imp fun _ _ z=>z.2.2).maps)) (All2.flat (All2.maps ?_));exact h2.flat.imp fun _ _ z=>(z.imp fun _ _ u=>u.2.2).maps
end
theorem dr_ok (k:Nat):DrOk (runF (Gk (k+2)) fuel f28):=fun c n h P hn cb=>run_draws k c n hn 10000 (by decide) (by decide) h fun vs j h' lv pv x g hj=>cb vs j h' lv (fun v hv=>(pv v hv).1) x g hj
theorem run_pattern (k H:Nat) (w:Gw Int) (hH:H<=6) (ok:w.ok H) (cell:Int) (mh:MH) {P:D->MH->Prop}(h:∀ (p:Gw Pr) h',p.ok H->p.bare=w.bare->All2 (fun n q=>inP n q/\okP q) w.nums p.nums->Ext [] mh h'->P (gwD prD p) h'):wV (runF (Gk (k+3)) fuel f38 [gwD D.int w,.int cell] mh) P:=by
 refine wV_run (b38_eq (k+2)) lenQ38.1 lenQ38.2 rfl ?_;show wS (b38 (k+2)) [some (gwD D.int w),some (.int cell),none,none,none,none,none,none,none,none,none,none,none,none,none] mh _;rw [b40_G];refine run_G (R0:=fun _=>True) (R:=fun n q=>inP n q/\okP q) H w hH ok (fun _ _=>trivial) (fun x v h P _ hv cb=>run_pair (k+1) x v hv h fun p h' hp ho x'=>cb p h' ⟨hp,ho⟩ x') (dr_ok k) cell mh fun p h' h1 h2 h3 x=>?_
 obtain ⟨z1,z2,z3⟩:=rel_facts ok h1 h2 h3;exact h p h' z1 z2 z3 x
theorem run_inW (k H:Nat) (p:Gw Pr) (hH:H<=6) (ok:p.ok H) (hp:∀ q∈p.nums,okP q) (cell:Int) (mh:MH) {P:D->MH->Prop}(h:∀ (w:Gw Int) h',w.ok H->w.bare=p.bare->All2 (fun q n=>inP n q) p.nums w.nums->Ext [] mh h'->P (gwD D.int w) h'):wV (runF (Gk (k+3)) fuel f40 [gwD prD p,.int cell] mh) P:=by
 refine wV_run (b40_eq (k+2)) lenQ40.1 lenQ40.2 rfl ?_;show wS (b40 (k+2)) [some (gwD prD p),some (.int cell),none,none,none,none,none,none,none,none,none,none,none,none,none] mh _;rw [b42_G];refine run_G (R0:=okP) (R:=fun q n=>inP n q) H p hH ok hp (fun x v h P hx hv cb=>run_inner (k+1) x hx v hv h fun y hy=>cb y h hy Ext.refl) (dr_ok k) cell mh fun w h' h1 h2 h3 x=>?_
 obtain ⟨z1,z2,z3⟩:=rel_facts ok h1 h2 h3;exact h w h' z1 z2 z3 x
noncomputable def inn (p b:Pr):Bool:=decide (cutP p b=p)
noncomputable def wiB (a b:Gw Pr):Bool:=alk a.bare b.bare&&(a.nums.zip b.nums).all fun z=>inn z.1 z.2
theorem run_isw2 (k:Nat) (p b:Pr) (mh:MH) {P:D->MH->Prop}(h:P (.bl (inn p b)) mh):wV (runF (Gk (k+3)) fuel f4 [prD p,prD b] mh) P:=by
 refine wV_run (b4_eq (k+2)) lenQ4.1 lenQ4.2 rfl ?_;show wS (b4 (k+2)) [some (prD p),some (prD b)] mh _;unfold b4
 walk_at "x0"
 refine wV_of (e_cut k p b mh) ?_
 walk_at "x0"
 have q:=pyP.eq (by decide) mh (cutP p b) p;unfold inn at h
 by_cases hc:cutP p b=p
 ·rw [decide_eq_true hc] at q h;exact wV_eq q h
 ·rw [decide_eq_false hc] at q h;exact wV_eq q h
theorem run_within2 (k H:Nat) (a b:Gw Pr) (hH:H<=6) (oa:a.ok H) (ok:b.ok H) (mh:MH) {P:D->MH->Prop}(h:∀ h',Ext [] mh h'->P (.bl (wiB a b)) h'):wV (runF (Gk (k+4)) fuel f16 [gwD prD a,gwD prD b] mh) P:=by
 refine wV_run (b16_eq (k+3)) lenQ16.1 lenQ16.2 rfl ?_;show wS (b16 (k+3)) [some (gwD prD a),some (gwD prD b)] mh _;unfold b16
 walk_at "x0"
 refine run_alike (e1:=prD) (e2:=prD) (k+1) H a b hH oa ok mh fun h1 x1=>?_
 unfold wiB at h
 by_cases hb:a.bare=b.bare
 ·rw [alkT hb] at h ⊢
  walk_at "x0"
  refine comp_all (a.nums.zip b.nums) (fun z=>.tup [prD z.1,prD z.2]) (fun z=>.bl (inn z.1 z.2)) (Nat.le_trans (zip_len (n:=90) (oa.b3 hH)) (by decide)) ?_ (fun z h' Q hz' ex hQ=>?_) fun h' ex=>?_
  ·refine wD_zip ?_
   walk_at "x0"
   refine run_nums (e1:=prD) (k+1) H a hH oa h1 fun j1 h2 _ x2 g2=>?_
   walk_at "x0"
   refine run_nums (e1:=prD) (k+1) H b hH ok h2 fun j2 h3 _ x3 g3=>?_
   walk_at "x0"
   exact ⟨_,_,_,_,rfl,src_list (x3.old _ _ (by simp) g2),src_list g3,x2.trans x3,zip_src (x3.old _ _ (by simp) g2) g3⟩
  ·refine wG_tup (ds:=[prD z.1,prD z.2]) rfl ⟨rfl,?_⟩
   walk_at "x0"
   exact run_isw2 k z.1 z.2 h' (hQ h' Ext.refl)
  walk_at "x0"
  refine bools_all (bs:=(a.nums.zip b.nums).map fun z=>inn z.1 z.2) ?_ ?_
  ·rw [at_new,List.map_map];rfl
  ·have e:(((a.nums.zip b.nums).map fun z=>inn z.1 z.2).all id)=(true&&(a.nums.zip b.nums).all fun z=>inn z.1 z.2):=by
    rw [List.all_map,Bool.true_and];rfl
   rw [e];exact h _ ((x1.trans ex).trans Ext.more)
 ·rw [alkF hb] at h ⊢
  walk_at "x0"
  exact h h1 x1
noncomputable abbrev gPt:Int->Int->Pr:=fun a b=>(some a,some b)
noncomputable abbrev own (w:Gw Int):Gw Pr:=zpW gPt w w
theorem run_own (k H:Nat) (w:Gw Int) (hH:H<=6) (ow:w.ok H) (mh:MH) (h0:mh[0]?=some .plc) {P:D->MH->Prop}(h:∀ h',Ext [] mh h'->P (gwD prD (own w)) h'):wV (lamF (Gk (k+5)) "zipped" [gwD D.int w] mh) P:=by
 have el:lamF (Gk (k+5)) "zipped" [gwD D.int w] mh=runF (Gk (k+4)) fuel f19 [gwD D.int w,gwD D.int w,.lam] mh:=by
  have ec:(Gk (k+5)).cal "zipped"=some (f19.ps,runF (Gk (k+4)) fuel f19):=by kernel_rfl
  unfold lamF;rw [h0,ec]
 rw [el];exact run_zipped k H rk_lam w w hH ow mh h
theorem run_lies2 (k H:Nat) (w:Gw Int) (p:Gw Pr) (hH:H<=6) (ow:w.ok H) (ok:p.ok H) (mh:MH) (h0:mh[0]?=some .plc) {P:D->MH->Prop}(h:∀ h',Ext [] mh h'->P (.bl (wiB (own w) p)) h'):wV (runF (Gk (k+6)) fuel f15 [gwD D.int w,gwD prD p] mh) P:=by
 refine wV_run (b15_eq (k+5)) lenQ15.1 lenQ15.2 rfl ?_;show wS (b15 (k+5)) [some (gwD D.int w),some (gwD prD p)] mh _;unfold b15
 walk_at "x0"
 refine run_own k H w hH ow mh h0 fun h1 x1=>?_
 walk_at "x0"
 exact run_within2 (k+1) H _ p hH (zp_ok ow ow rfl) ok h1 fun h2 x2=>h h2 (x1.trans x2)
theorem isI_t {i:Int}{mh:MH}{P:D->MH->Prop}(h:P (.bl true) mh):wV (isD true (.int i) .non mh) P:=⟨_,_,rfl,h⟩
theorem isI_f {i:Int}{mh:MH}{P:D->MH->Prop}(h:P (.bl false) mh):wV (isD false (.int i) .non mh) P:=⟨_,_,rfl,h⟩
theorem isN_t {mh:MH}{P:D->MH->Prop}(h:P (.bl false) mh):wV (isD true .non .non mh) P:=⟨_,_,rfl,h⟩
theorem isN_f {mh:MH}{P:D->MH->Prop}(h:P (.bl true) mh):wV (isD false .non .non mh) P:=⟨_,_,rfl,h⟩
noncomputable def ovr:Option Int->Option Int->Bool
 | _,none=>true
 | none,some _=>false
 | some a,some c=>decide (c<=a)
noncomputable def und:Option Int->Option Int->Bool
 | _,none=>true
 | none,some _=>false
 | some b,some d=>decide (b<=d)
theorem hi2_eq {l lo:Option Int}:hi2 l lo=l ↔ ovr l lo=true:=by
 rcases l with _ | a <;> rcases lo with _|b
 ·exact ⟨fun _=>rfl,fun _=>rfl⟩
 ·exact ⟨fun h=>(by cases h),fun h=>(by cases h)⟩
 ·exact ⟨fun _=>rfl,fun _=>rfl⟩
 ·show some (maxI a [b])=some a ↔ decide (b<=a)=true;rw [maxI2,Option.some.injEq,decide_eq_true_eq];split <;> omega
theorem lo2_eq {l lo:Option Int}:lo2 l lo=l ↔ und l lo=true:=by
 rcases l with _ | a <;> rcases lo with _|b
 ·exact ⟨fun _=>rfl,fun _=>rfl⟩
 ·exact ⟨fun h=>(by cases h),fun h=>(by cases h)⟩
 ·exact ⟨fun _=>rfl,fun _=>rfl⟩
 ·show some (minI a [b])=some a ↔ decide (a<=b)=true;rw [minI2,Option.some.injEq,decide_eq_true_eq];split <;> omega
theorem inn_eq (l u m v:Option Int):inn (l,u) (m,v)=(ovr l m&&und u v):=by
 unfold inn;rw [Bool.eq_iff_iff,decide_eq_true_eq,Bool.and_eq_true,← hi2_eq,← lo2_eq];exact ⟨fun e=>⟨congrArg (·.1) e,congrArg (·.2) e⟩,fun e=>Prod.ext e.1 e.2⟩
section
variable {l u m v:Option Int}{mh:MH}
theorem pt1 {Q:Bool->MH->Prop}(q:Q (!ovr l m) mh):wD (dAndT (boolD (dop (isD true) (dop ixD (vr 1) (Zr (.int 0))) (Zr .non))) (dOrT (boolD (dop (isD false) (vr 2) (Zr .non))) (boolD (dop ltD (vr 2) (dop ixD (vr 1) (Zr (.int 0))))))) [some (.tup [ob l,ob u]),some (.tup [ob m,ob v]),some (ob l),some (ob u)] mh Q:=by
 rcases l with _ | a <;> rcases m with _|b
 all_goals
  dsimp only [ob];repeat' (first | walk_at "s" | with_reducible refine isI_t ?_ | with_reducible refine isI_f ?_ | with_reducible refine isN_t ?_ | with_reducible refine isN_f ?_ | refine wV_ixT (j:=0) rfl ?_ | refine wV_ixT (j:=1) rfl ?_ | with_reducible refine when_of (fun e=>?_) fun e=>?_)
 all_goals first | exact q | skip
 have e:(!ovr (some a) (some b))=decide (a < b):=by
  rw [Bool.eq_iff_iff];simp [ovr]
 rw [e] at q;exact q
theorem pt2 {Q:D->MH->Prop}(q:Q (.bl (und u v)) mh):wD (dOrV (dop (isD false) (dop ixD (vr 1) (Zr (.int 1))) (Zr .non)) (dAndV (dop (isD true) (vr 3) (Zr .non)) (dop leD (vr 3) (dop ixD (vr 1) (Zr (.int 1)))))) [some (.tup [ob l,ob u]),some (.tup [ob m,ob v]),some (ob l),some (ob u)] mh Q:=by
 rcases u with _ | a <;> rcases v with _|b
 all_goals
  dsimp only [ob];repeat' (first | walk_at "s" | with_reducible refine isI_t ?_ | with_reducible refine isI_f ?_ | with_reducible refine isN_t ?_ | with_reducible refine isN_f ?_ | refine wV_ixT (j:=0) rfl ?_ | refine wV_ixT (j:=1) rfl ?_ | with_reducible refine when_of (fun e=>?_) fun e=>?_)
 all_goals exact q
end
theorem run_point (k:Nat) (p b:Pr) (mh:MH) {P:D->MH->Prop}(hP:P (.bl (inn p b)) mh):wV (runF (Gk (k+1)) fuel f43 [prD p,prD b] mh) P:=by
 refine wV_run (b43_eq k) lenQ43.1 lenQ43.2 rfl ?_;show wS (b43 k) [some (prD p),some (prD b),none,none] mh _;unfold b43;obtain ⟨l,u⟩:=p;obtain ⟨m,v⟩:=b;rw [inn_eq] at hP
 walk_at "x0"
 refine wG_tup (ds:=[ob l,ob u]) rfl (seqK_nx ?_);refine wS_seq (wS_if (pt1 ?_));cases g:ovr l m with
 | false =>
  rw [g,Bool.false_and] at hP;refine ⟨fun _=>?_,fun z=>absurd z (by decide)⟩
  walk_at "x0"
  exact hP
 | true =>
  rw [g,Bool.true_and] at hP;refine ⟨fun z=>absurd z (by decide),fun _=>wS_nxt (seqK_nx (wS_seq (wS_ret (pt2 ?_))))⟩;exact hP
theorem wV_listZip {x y:D}{as bs:List D}{mh:MH}{P:D->MH->Prop}(e1:seqD x mh=some as) (e2:seqD y mh=some bs) (h:P (.ref mh.length) (mh++[.lst (List.zipWith zipT as bs)])):wV (listZipD [x,y] mh) P:=⟨_,_,by simp only [listZipD,e1,e2],h⟩
theorem nil_all {α:Type}{xs:List α}{f:α->Bool}:((xs.filter fun z=>!f z).map fun _=>D.int 1).isEmpty=xs.all f:=by
 rw [Bool.eq_iff_iff,List.isEmpty_iff,List.map_eq_nil_iff,List.filter_eq_nil_iff,List.all_eq_true];exact ⟨fun h x hx=>by have:=h x hx;simpa using this,fun h x hx=>by rw [h x hx];decide⟩
theorem run_in (k H:Nat) (a b:Gw Pr) (hH:H<=6) (oa:a.ok H) (ok:b.ok H) (mh:MH) {P:D->MH->Prop}(h:∀ h',Ext [] mh h'->P (.bl (wiB a b)) h'):wV (runF (Gk (k+2)) fuel f44 [gwD prD a,gwD prD b] mh) P:=by
 refine wV_run (b44_eq (k+1)) lenQ44.1 lenQ44.2 rfl ?_;show wS (b44 (k+1)) [some (gwD prD a),some (gwD prD b),none] mh _;unfold b44
 walk_at "x0"
 refine run_bare (e1:=prD) k H a hH oa mh fun d1 h1 x1 p1=>?_
 walk_at "x0"
 refine run_bare (e1:=prD) k H b hH ok h1 fun d2 h2 x2 p2=>?_
 have q:eqB h2 d1 d2=some (alk a.bare b.bare):=by
  unfold eqB;rw [p1 h2 x2,p2 h2 Ext.refl];dsimp only;rw [bareP_v]
 unfold wiB at h
 by_cases hb:a.bare=b.bare
 ·rw [alkT hb] at h q;refine wV_neT q ?_
  walk_at "x0"
  refine run_pairs (e1:=prD) k H a hH oa h2 fun j1 h3 x3 g3=>?_
  walk_at "x0"
  refine run_pairs (e1:=prD) k H b hH ok h3 fun j2 h4 x4 g4=>?_
  walk_at "x0"
  have g3:=x4.old _ _ (by simp) g3;refine wV_listZip (seq_at g3) (seq_at g4) ?_;have ez:List.zipWith zipT (a.nums.map prD) (b.nums.map prD)=(a.nums.zip b.nums).map fun z=>.tup [prD z.1,prD z.2]:=zip_items prD prD
  rw [ez]
  walk_at "x0"
  refine comp_gen (a.nums.zip b.nums) (fun z=>.tup [prD z.1,prD z.2]) (fun z=>!inn z.1 z.2) (fun _=>.int 1) (Nat.le_trans (zip_len (n:=90) (oa.b3 hH)) (by decide)) ?_ (fun z h' Q hz' ex hQ=>?_) fun h' ex=>?_
  ·walk_at "x0"
   exact ⟨_,src_list at_new,Ext.refl,src_ref at_new⟩
  ·refine wG_tup (ds:=[prD z.1,prD z.2]) rfl ⟨rfl,?_⟩
   walk_at "x0"
   refine run_point k z.1 z.2 h' ?_
   walk_at "x0"
   exact ⟨rfl,rfl,fun _=>wD_ret (hQ h' Ext.refl)⟩
  ·walk_at "x0"
   refine eq_nil (ds:=(((a.nums.zip b.nums).filter fun z=>!inn z.1 z.2).map fun _=>D.int 1)) ?_ at_new ⟨((a.nums.zip b.nums).filter fun z=>!inn z.1 z.2).map fun _=>(1:Int),by rw [List.map_map];rfl⟩ ?_
   ·exact (Ext.more (W:=[])).old _ _ (by simp) at_new
   walk_at "x0"
   rw [nil_all];rw [Bool.true_and] at h;exact h _ ((((((x1.trans x2).trans x3).trans x4).trans Ext.more).trans ex).trans Ext.more |>.trans Ext.more)
 ·rw [alkF hb] at h q;refine wV_neF q ?_
  walk_at "x0"
  exact h _ (x1.trans x2)
theorem zw_self {α γ:Type}{g:α->α->γ}:∀ l:List α,List.zipWith g l l=l.map fun x=>g x x
 | []=>rfl
 | x::r=>by rw [List.zipWith_cons_cons,List.map_cons,zw_self r]
noncomputable def owP (p:Gp Int):Gp Pr:={ pl:=p.pl,ns:=p.ns.map fun n=>(some n,some n),ms:=p.ms,s0:=p.s0,s1:=p.s1,bell:=p.bell }
noncomputable def owL (z:Int×Int×Int):Int×Pr×Int:=(z.1,(some z.2.1,some z.2.1),z.2.2)
theorem own_eq (w:Gw Int):own w={ ps:=w.ps.map owP,rs:=w.rs.map (·.map (·.map owL)),x:=w.x,y:=w.y }:=by
 have e1:∀ p:Gp Int,zpP gPt p p=owP p:=fun p=>by unfold zpP owP;rw [zw_self]
 have e2:∀ l:List (Int×Int×Int),List.zipWith (zpL gPt) l l=l.map owL:=fun l=>by rw [zw_self];rfl
 show zpW gPt w w=_;unfold zpW;rw [zw_self,zw_self];congr 1
 ·exact List.map_congr_left fun p _=>e1 p
 ·exact List.map_congr_left fun r _=>by rw [zw_self];exact List.map_congr_left fun l _=>e2 l
theorem run_lown (k H:Nat) (w:Gw Int) (hH:H<=6) (ow:w.ok H) (mh:MH) {P:D->MH->Prop}(h:∀ h',Ext [] mh h'->P (gwD prD (own w)) h'):wV (runF (Gk (k+1)) fuel f45 [gwD D.int w] mh) P:=by
 rw [own_eq] at h;refine wV_run (b45_eq k) lenQ45.1 lenQ45.2 rfl ?_;show wS (b45 k) [some (gwD D.int w),none,none,none,none] mh _;unfold b45
 walk_at "x0"
 refine wS_for ?_
 walk_at "x0"
 refine wV_ixT (j:=0) rfl ?_
 walk_at "x0"
 refine ⟨_,rfl,w.ps.map (gpD D.int),fun i l h=>∃ x2,l=[some (gwD D.int w),some (.ref mh.length),x2,none,none]/\i<=w.ps.length/\h[mh.length]?=some (.lst (((w.ps.take i).map owP).map (gpD prD)))/\Ext [] mh h,⟨none,rfl,Nat.zero_le _,at_new,Ext.more⟩,fun _ _ _ _=>⟨rfl,rfl⟩,?_,?_⟩
 ·rintro i d l h4 ed ⟨x2,rfl,hi,g4,y4⟩;obtain ⟨p,er,rfl⟩:=map_at ed;have hm:=List.mem_of_getElem? er
  walk_at "x0"
  refine ⟨ty_list g4,?_⟩
  walk_at "x0"
  refine wV_ixT (j:=0) rfl ?_
  walk_at "x0"
  refine comp_all p.ns D.int (fun n=>prD (some n,some n)) (by rw [ow.ns p hm];decide) ?_ (fun n h' Q hz' ex hQ=>?_) fun h5 x5=>?_
  ·walk_at "x0"
   refine wV_ixT (j:=1) rfl ?_
   walk_at "x0"
   exact ⟨_,rfl,src_seq rfl⟩
  ·refine wG_set ⟨rfl,?_⟩
   walk_at "x0"
   exact hQ h' Ext.refl
  walk_at "x0"
  refine wV_tupOf (seq_new _ _) ?_
  walk_at "x0"
  refine wV_of (d:=.tup [.tup (p.ms.map D.int),.tup [natD p.s0,natD p.s1],.bl p.bell]) (h:=h5++[MO.lst (p.ns.map fun n=>prD (some n,some n))]) rfl ?_
  walk_at "x0"
  refine wV_addT (by simp) ?_
  walk_at "x0"
  have g5:(h5++[MO.lst (p.ns.map fun n=>prD (some n,some n))])[mh.length]?=_:=(x5.trans Ext.more).old _ _ (by simp) g4;refine wV_append g5 ?_ ?_
  ·rw [List.length_map,List.length_map,List.length_take,ow.ps];omega
  walk_at "x0"
  refine ⟨_,rfl,(List.getElem?_eq_some_iff.mp er).1,?_,(y4.trans (x5.trans Ext.more)).setNew (Nat.le_refl _)⟩;rw [at_set g5,take_succ er,List.map_append,List.map_append];congr 3;show [_]=[gpD prD (owP p)];unfold gpD owP;rw [List.map_map];rfl
 ·rintro l h4 ⟨x2,rfl,hi,g4,y4⟩;rw [List.length_map,List.take_length] at g4
  walk_at "x0"
  refine wS_for ?_
  walk_at "x0"
  refine wV_ixT (j:=1) rfl ?_
  walk_at "x0"
  refine ⟨_,rfl,w.rs.map (rwD D.int),fun i l h=>∃ x4,l=[some (gwD D.int w),some (.ref mh.length),x2,some (.ref h4.length),x4]/\i<=w.rs.length/\h[h4.length]?=some (.lst (((w.rs.take i).map (·.map (·.map owL))).map (rwD prD)))/\Ext [] h4 h,⟨none,rfl,Nat.zero_le _,at_new,Ext.more⟩,fun _ _ _ _=>⟨rfl,rfl⟩,?_,?_⟩
  ·rintro i d l h5 ed ⟨x4,rfl,hi5,g5,y5⟩;obtain ⟨r,er,rfl⟩:=map_at ed;have hm:=List.mem_of_getElem? er
   walk_at "x0"
   refine ⟨ty_list g5,?_⟩
   walk_at "x0"
   refine comp_all r (lsD D.int) (fun l=>lsD prD (l.map owL)) (by rw [ow.rw r hm];omega) ?_ (fun l h' Q hz' ex hQ=>?_) fun h6 x6=>?_
   ·walk_at "x0"
    exact ⟨_,rfl,src_seq rfl⟩
   ·refine wG_set ⟨rfl,?_⟩
    walk_at "x0"
    refine comp_all l (glD D.int) (fun z=>glD prD (owL z)) (Nat.le_trans (ow.ls r hm l hz') (by decide)) ?_ (fun z h7 Q hz' ex7 hQ7=>?_) fun h7 x7=>?_
    ·walk_at "x0"
     exact ⟨_,rfl,src_seq rfl⟩
    ·refine wG_set ⟨rfl,?_⟩
     walk_at "x0"
     refine wV_ixT (j:=0) rfl ?_
     walk_at "x0"
     refine wV_ixT (j:=1) rfl ?_
     walk_at "x0"
     refine wV_ixT (j:=1) rfl ?_
     walk_at "x0"
     refine wV_ixT (j:=2) rfl ?_
     walk_at "x0"
     exact hQ7 h7 Ext.refl
    ·walk_at "x0"
     refine wV_tupOf (seq_new _ _) ?_;have:=hQ (h7++[MO.lst (l.map fun z=>glD prD (owL z))]) (x7.trans Ext.more);unfold lsD at this;rw [List.map_map] at this;exact this
   walk_at "x0"
   refine wV_tupOf (seq_new _ _) ?_
   walk_at "x0"
   have g6:(h6++[MO.lst (r.map fun l=>lsD prD (l.map owL))])[h4.length]?=_:=(x6.trans Ext.more).old _ _ (by simp) g5;refine wV_append g6 ?_ ?_
   ·rw [List.length_map,List.length_map,List.length_take,ow.rs];omega
   walk_at "x0"
   refine ⟨_,rfl,(List.getElem?_eq_some_iff.mp er).1,?_,(y5.trans (x6.trans Ext.more)).setNew (Nat.le_refl _)⟩;rw [at_set g6,take_succ er,List.map_append,List.map_append];congr 3;show [_]=[rwD prD (r.map (·.map owL))];unfold rwD;rw [List.map_map];rfl
  ·rintro l h5 ⟨x4,rfl,hi5,g5,y5⟩;rw [List.length_map,List.take_length] at g5;have g4:=y5.old _ _ (by simp) g4
   walk_at "x0"
   refine wV_tupOf (seq_at g4) ?_
   walk_at "x0"
   refine wV_tupOf (seq_at g5) ?_
   walk_at "x0"
   refine wV_ixT (j:=2) rfl ?_
   walk_at "x0"
   exact h _ (y4.trans y5)
theorem sl_take {ds:List D}{i:Nat}(hi:i < ds.length) {mh:MH}{P:D->MH->Prop}(h:P (.tup (ds.take i)) mh):wV (slD (.tup ds) none (some (i:Int)) mh) P:=by
 refine ⟨_,_,?_,h⟩;have e2:HT.sIx ds.length ds.length (some (i:Int))=i:=by rw [HT.sIx_nat];omega
 show (if HT.sIx ds.length 0 none=0/\HT.sIx ds.length ds.length (some (i:Int))=ds.length then some (D.tup ds,mh) else some (D.tup (DL.cutD ds none (some (i:Int))),mh))=_;rw [e2,if_neg (by omega)];unfold DL.cutD;rw [e2];simp [HT.sIx_none]
theorem sl_drop {ds:List D}{i:Nat}(hi:i<=ds.length) {mh:MH}{P:D->MH->Prop}(h:P (.tup (ds.drop i)) mh):wV (slD (.tup ds) (some (i:Int)) none mh) P:=by
 have e1:HT.sIx ds.length 0 (some (i:Int))=i:=by rw [HT.sIx_nat];omega
 have e2:HT.sIx ds.length ds.length none=ds.length:=rfl
 by_cases h0:i=0
 ·subst h0;refine ⟨.tup ds,mh,?_,by simpa using h⟩;show (if HT.sIx ds.length 0 (some ((0:Nat):Int))=0/\HT.sIx ds.length ds.length none=ds.length then some (D.tup ds,mh) else _)=_;rw [e1,e2,if_pos ⟨rfl,rfl⟩]
 ·refine ⟨_,_,?_,h⟩;show (if HT.sIx ds.length 0 (some (i:Int))=0/\HT.sIx ds.length ds.length none=ds.length then some (D.tup ds,mh) else some (D.tup (DL.cutD ds (some (i:Int)) none),mh))=_;rw [e1,e2,if_neg (by omega)];unfold DL.cutD;rw [e1,e2,List.take_of_length_le (by rw [List.length_drop];omega)]
theorem run_chg (k:Nat) {ds:List D}{i:Nat}{x:D}(hi:i < ds.length) (hz:ds.length<=1000) {mh:MH}{P:D->MH->Prop}(h:P (.tup (ds.set i x)) mh):wV (runF (Gk (k+1)) fuel f46 [.tup ds,.int i,x] mh) P:=by
 refine wV_run (b46_eq k) lenQ46.1 lenQ46.2 rfl ?_;show wS (b46 k) [some (.tup ds),some (.int i),some x] mh _;unfold b46
 walk_at "x0"
 refine sl_take hi ?_
 walk_at "x0"
 refine wV_addT (by rw [List.length_take,List.length_singleton];omega) ?_
 walk_at "x0"
 rw [show (i:Int)+1=((i+1:Nat):Int) by omega];refine sl_drop (by omega) ?_;refine wV_addT (by rw [List.length_append,List.length_take,List.length_singleton,List.length_drop];omega) ?_;rw [List.set_eq_take_append_cons_drop,if_pos hi] at h
 walk_at "x0"
 rw [List.append_assoc];exact h
theorem xor_nat (a b:Nat):∃ n:Nat,Builtin.bitXor (a:Int) (b:Int)=(n:Int):=by
 refine ⟨(a ||| b) - (a &&& b),?_⟩;unfold Builtin.bitXor;rw [bitOr_nat,PyProof.Rows.bitAnd_pp (by omega) (by omega)];have h1:a &&& b<=a:=Nat.and_le_left;have h2:a<=a ||| b:=Nat.left_le_or;simp only [Int.toNat_natCast];omega
noncomputable def pyLs:PyE (lsD D.int) 2:=PyE.tup (PyE.three pyI pyI pyI)
theorem map_set1 {α:Type}{f:α->D}{l:List α}{i:Nat}{a:α}:(l.map f).set i (f a)=(l.set i a).map f:=by rw [List.map_set]
theorem ix_01 {n:Nat}{v:Int}{mh:MH}{P:D->MH->Prop}(g:mh[n]?=some (.lst [.int 1,.int (-1)])) (h:∀ c:Int,P (.int c) mh):wV (ixD (.ref n) (.int (v.fmod 2)) mh) P:=by
 obtain ⟨r,hr,er⟩:=fm_nat v 2 (by decide);rw [show v.fmod 2=(r:Int) from er];refine wV_ixAny g hr fun d hd=>?_
 rcases List.mem_cons.mp hd with rfl|hd
 ·exact h _
 ·rw [List.mem_singleton.mp hd];exact h _
theorem run_lmoved (k:Nat) (ls:List (Int×Int×Int)) (hl:ls.length<=2) (room H:Nat) (r2:room<=2) (v:Int) (mh:MH) {P:D->MH->Prop}(h:∀ (ls':List (Int×Int×Int)) h',ls'.length<=2->Ext [] mh h'->P (lsD D.int ls') h'):wV (runF (Gk (k+2)) fuel f47 [lsD D.int ls,.int room,.int H,.int v] mh) P:=by
 refine wV_run (b47_eq (k+1)) lenQ47.1 lenQ47.2 rfl ?_;show wS (b47 (k+1)) [some (lsD D.int ls),some (.int room),some (.int H),some (.int v),none,none,none,none] mh _;unfold b47
 walk_at "x0"
 refine wV_len (by intro z z';cases z') rfl ?_
 walk_at "x0"
 rw [List.length_map];refine wV_of (d:=.int (maxI 1 [(ls.length:Int)])) (h:=mh) rfl ?_;have hmx:maxI 1 [(ls.length:Int)]=((max 1 ls.length:Nat):Int):=by rw [maxI2];split <;> omega
 rw [hmx];obtain ⟨r,hr,er⟩:=fm_nat (v.fdiv 6) (max 1 ls.length) (by omega);refine wV_mod (by omega) ?_;rw [er];have q:eqB mh (lsD D.int ls) (.tup [])=some (decide (ls=[])):=pyLs.eq (by decide) mh ls [];have add:∀ {Q:D->MH->Prop} (c:Int),ls.length+1<=2->(∀ z h',Ext [] mh h'->z.length<=2->Q (lsD D.int z) h')->wV (addD (lsD D.int ls) (.tup [.tup [.int c,.int 0,.int (-1)]]) mh) Q:=fun c hc hQ=>by
  refine wV_addT (by rw [List.length_map,List.length_singleton];omega) ?_;have:=hQ (ls++[(c,0,-1)]) mh Ext.refl (by rw [List.length_append,List.length_singleton];exact hc);unfold lsD at this;rw [List.map_append] at this;exact this
 refine wG_set (seqK_nx (wS_seq (wS_if (wD_mono (P:=fun c h1=>h1=mh/\(c=true->ls.length+1<=2)/\(c=false->ls≠[])) ?_ ?_))))
 ·walk_at "x0"
  refine wV_eq q ?_
  by_cases h0:ls=[]
  ·rw [decide_eq_true h0]
   walk_at "x0"
   exact ⟨rfl,fun _=>(by rw [h0];decide),fun z=>(by cases z)⟩
  rw [decide_eq_false h0];repeat' (first | walk_at "s" | with_reducible refine and_len (by simp) ?_ | with_reducible refine wV_fdiv (by decide) (by decide) ?_ | with_reducible refine wV_mod (by first | decide | omega) ?_ | with_reducible refine when_of (fun _=>?_) fun _=>?_)
  ·refine wV_len (by intro z z';cases z') rfl ?_
   walk_at "x0"
   rw [List.length_map];exact ⟨rfl,fun z=>by have:=of_decide_eq_true z;omega,fun _=>h0⟩
  ·exact ⟨rfl,fun z=>(by cases z),fun _=>h0⟩
 rintro c h1 ⟨e1,hc1,hc0⟩;rw [e1];refine when_of (fun e=>?_) fun e=>?_
 ·walk_at "x0"
  refine add _ (hc1 e) fun z h' x' hz=>?_
  exact h z h' hz x'
 have h0:=hc0 e;have hp:0 < ls.length:=List.length_pos_iff.mpr h0;have hr:r < ls.length:=by omega
 have fin:∀ (z:List (Int×Int×Int)),z.length<=2->P (lsD D.int z) mh:=fun z hz=>h z mh hz Ext.refl
 obtain ⟨z,ez⟩:∃ z,ls[r]?=some z:=⟨_,List.getElem?_eq_getElem hr⟩;have et:(ls.map (glD D.int))[r]?=some (glD D.int z):=by rw [List.getElem?_map,ez];rfl
 have chg:∀ (Q:D->MH->Prop) (m:MH) (a b c:Int),(∀ w:List (Int×Int×Int),w.length<=2->Q (lsD D.int w) m)->wV (runF (Gk (k+1)) fuel f46 [lsD D.int ls,.int r,.tup [.int a,.int b,.int c]] m) Q:=fun Q m a b c hQ=>by
  refine run_chg k (by rw [List.length_map];exact hr) (by rw [List.length_map];omega) ?_;show Q (D.tup ((ls.map (glD D.int)).set r (glD D.int (a,b,c)))) _;rw [map_set1];exact hQ (ls.set r (a,b,c)) (by rw [List.length_set];exact hl)
 walk_at "x0"
 refine wV_ixT et ?_;refine wG_tup (ds:=[.int z.1,.int z.2.1,.int z.2.2]) rfl (seqK_nx ?_)
 walk_at "x0"
 refine when_of (fun _=>?_) fun _=>?_
 ·walk_at "x0"
  refine chg _ mh _ _ _ fun w hw=>?_
  walk_at "x0"
  exact fin w hw
 walk_at "x0"
 refine when_of (fun _=>?_) fun _=>?_
 ·walk_at "x0"
  refine chg _ mh _ _ _ fun w hw=>?_
  walk_at "x0"
  exact fin w hw
 walk_at "x0"
 refine when_of (fun _=>?_) fun _=>?_
 ·walk_at "x0"
  refine ix_01 at_new fun c=>?_
  walk_at "x0"
  refine chg _ _ _ _ _ fun w hw=>?_
  walk_at "x0"
  exact h w _ hw Ext.more
 refine wS_nxt (seqK_nx (wS_seq (wS_if (wD_mono (P:=fun c h1=>h1=mh) ?_ ?_))))
 ·repeat' (first | walk_at "s" | with_reducible refine and_len (by simp) ?_ | with_reducible refine wV_fdiv (by decide) (by decide) ?_ | with_reducible refine wV_mod (by first | decide | omega) ?_ | with_reducible refine when_of (fun _=>?_) fun _=>?_)
  ·refine wV_len (by intro z z';cases z') rfl ?_
   walk_at "x0"
   rfl
  ·rfl
 rintro c h1 e1;rw [e1];refine when_of (fun _=>?_) fun _=>?_
 ·refine wS_seq (wS_ret (wD_rev ?_))
  walk_at "x0"
  refine wV_of (d:=lsD D.int ls.reverse) (h:=mh) (by unfold lsD;rw [List.map_reverse];rfl) ?_
  walk_at "x0"
  exact fin _ (by rw [List.length_reverse];exact hl)
 walk_at "x0"
 refine sl_take (by rw [List.length_map];exact hr) ?_
 walk_at "x0"
 rw [show (r:Int)+1=((r+1:Nat):Int) by omega];refine sl_drop (by rw [List.length_map];omega) ?_
 walk_at "x0"
 refine wV_addT (by rw [List.length_take,List.length_drop,List.length_map];omega) ?_
 walk_at "x0"
 have:=fin (ls.take r++ls.drop (r+1)) (by rw [List.length_append,List.length_take,List.length_drop];omega);unfold lsD at this;rw [List.map_append,List.map_take,List.map_drop] at this;exact this
theorem run_pmoved (k:Nat) (p:Gp Int) (n3:p.ns.length=3) (m3:p.ms.length=3) (L H:Nat) (h1:1<=H) (h6:H<=6) (v:Int) (mh:MH) {P:D->MH->Prop}(h:∀ (p':Gp Int) h',p'.ns.length=3->p'.ms.length=3->Ext [] mh h'->P (gpD D.int p') h'):wV (runF (Gk (k+2)) fuel f48 [gpD D.int p,.int L,.int H,.int v] mh) P:=by
 refine wV_run (b48_eq (k+1)) lenQ48.1 lenQ48.2 rfl ?_;show wS (b48 (k+1)) [some (gpD D.int p),some (.int L),some (.int H),some (.int v),none,none,none,none,none,none,none] mh _;unfold b48
 walk_at "x0"
 obtain ⟨b,hb,eb⟩:=fm_nat (v.fdiv 10) 3 (by decide);rw [show (v.fdiv 10).fmod 3=(b:Int) from eb];refine wG_tup (ds:=[.int p.pl,.tup (p.ns.map D.int),.tup (p.ms.map D.int),.tup [natD p.s0,natD p.s1],.bl p.bell]) rfl (seqK_nx ?_);have en:(p.ns.map D.int)[b]?=some (.int p.ns[b]):=by rw [List.getElem?_map,List.getElem?_eq_getElem (by omega)];rfl
 have em:(p.ms.map D.int)[b]?=some (.int p.ms[b]):=by rw [List.getElem?_map,List.getElem?_eq_getElem (by omega)];rfl
 walk_at "x0"
 refine when_of (fun _=>?_) fun _=>?_
 ·walk_at "x0"
  refine wV_ixT en ?_
  walk_at "x0"
  refine ix_01 at_new fun c=>?_
  walk_at "x0"
  refine run_chg k (by rw [List.length_map];omega) (by rw [List.length_map];omega) ?_;rw [map_set1]
  walk_at "x0"
  exact h { p with ns:=p.ns.set b (p.ns[b]+c) } _ (by rw [List.length_set];exact n3) m3 Ext.more
 walk_at "x0"
 refine when_of (fun _=>?_) fun _=>?_
 ·walk_at "x0"
  refine wV_ixT em ?_
  walk_at "x0"
  refine run_chg k (by rw [List.length_map];omega) (by rw [List.length_map];omega) ?_;rw [map_set1]
  walk_at "x0"
  exact h { p with ms:=p.ms.set b _ } _ n3 (by rw [List.length_set];exact m3) Ext.refl
 walk_at "x0"
 refine when_of (fun _=>?_) fun _=>?_
 ·walk_at "x0"
  obtain ⟨e,he,ee⟩:=fm_nat (b:Int) 2 (by decide);rw [show (b:Int).fmod 2=(e:Int) from ee];obtain ⟨s,es⟩:∃ s:Nat,[natD p.s0,natD p.s1][e]?=some (natD s):=by
   match e,he with
   | 0,_=>exact ⟨_,rfl⟩
   | 1,_=>exact ⟨_,rfl⟩
  refine wV_ixT es ?_
  walk_at "x0"
  obtain ⟨j,hj,ej⟩:=fm_nat (v.fdiv 30) H (by omega);rw [ej];refine wV_shl (by omega) ?_;obtain ⟨u,eu⟩:=xor_nat s (2 ^ j);refine wV_iop rfl ?_;rw [eu]
  walk_at "x0"
  refine run_chg k he (by simp) ?_
  walk_at "x0"
  match e,he with
  | 0,_=>exact h { p with s0:=u } _ n3 m3 Ext.refl
  | 1,_=>exact h { p with s1:=u } _ n3 m3 Ext.refl
 walk_at "x0"
 refine when_of (fun _=>?_) fun _=>?_
 ·walk_at "x0"
  exact h { p with pl:=_ } _ n3 m3 Ext.refl
 walk_at "x0"
 exact h { p with bell:=!p.bell } _ n3 m3 Ext.refl
theorem map_get {α:Type}{f:α->D}{l:List α}{i:Nat}(hi:i < l.length):(l.map f)[i]?=some (f l[i]):=by rw [List.getElem?_map,List.getElem?_eq_getElem hi];rfl
theorem set_mem {α:Type}{l:List α}{i:Nat}{a:α}{p:α->Prop}(h:∀ x∈l,p x) (ha:p a):∀ x∈l.set i a,p x:=fun x hx=>by
 rcases List.mem_or_eq_of_mem_set hx with hx|rfl
 ·exact h x hx
 ·exact ha
theorem run_moved (k:Nat) (rm:Nat) (r2:rm<=2) (c0 c1:Int) (parts:List (List D)) (plays:List Nat) {R H:Nat}(lp:parts.length=R) (ll:plays.length=H) (hp:∀ p∈plays,p < R) (w:Gw Int) (ow:w.ok H) (h1:1<=H) (h6:H<=6) (v:Int) (mh:MH) {P:D->MH->Prop}(h:∀ (w':Gw Int) h',w'.ok H->Ext [] mh h'->P (gwD D.int w') h'):wV (runF (Gk (k+3)) fuel f49 [progD rm c0 c1 parts plays,gwD D.int w,.int v] mh) P:=by
 refine wV_run (b49_eq (k+2)) lenQ49.1 lenQ49.2 rfl ?_;show wS (b49 (k+2)) [some (progD rm c0 c1 parts plays),some (gwD D.int w),some (.int v),none,none,none,none,none,none,none,none,none,none,none] mh _;unfold b49
 walk_at "x0"
 refine wG_tup (ds:=[.int rm,.tup [.int c0,.int c1],.tup (parts.map D.tup),.tup (plays.map natD)]) rfl (seqK_nx ?_)
 walk_at "x0"
 refine wV_len (by intro z z';cases z') rfl ?_;rw [List.length_map,ll]
 walk_at "x0"
 obtain ⟨d,hd,ed⟩:=fm_nat (v.fdiv 16) H (by omega);rw [ed]
 walk_at "x0"
 refine when_of (fun _=>?_) fun _=>?_
 ·walk_at "x0"
  obtain ⟨a,ha,ea⟩:=fm_nat (v.fdiv 64) 2 (by decide);rw [show (v.fdiv 64).fmod 2=(a:Int) from ea];refine wV_ixT (j:=0) rfl ?_
  walk_at "x0"
  refine wV_ixT (j:=1) rfl ?_
  walk_at "x0"
  refine wV_ixT (j:=2) rfl ?_
  walk_at "x0"
  match a,ha with
  | 0,_ =>
   refine wV_ixT (j:=0) rfl ?_
   walk_at "x0"
   refine wV_ixT (j:=2) rfl ?_
   walk_at "x0"
   refine wV_ixT (j:=0) rfl ?_
   walk_at "x0"
   refine run_chg (k+1) (by simp) (by simp) ?_
   walk_at "x0"
   exact h { w with x:=c0 - w.x } _ ⟨ow.ps,ow.ns,ow.ms,ow.rs,ow.rw,ow.ls⟩ Ext.refl
  | 1,_ =>
   refine wV_ixT (j:=1) rfl ?_
   walk_at "x0"
   refine wV_ixT (j:=2) rfl ?_
   walk_at "x0"
   refine wV_ixT (j:=1) rfl ?_
   walk_at "x0"
   refine run_chg (k+1) (by simp) (by simp) ?_
   walk_at "x0"
   exact h { w with y:=c1 - w.y } _ ⟨ow.ps,ow.ns,ow.ms,ow.rs,ow.rw,ow.ls⟩ Ext.refl
 walk_at "x0"
 refine when_of (fun _=>?_) fun _=>?_
 ·walk_at "x0"
  obtain ⟨o,ho,eo⟩:=fm_nat (v.fdiv 64) H (by omega);rw [eo];have hr:d < w.rs.length:=by rw [ow.rs];exact hd
  have hm:w.rs[d]∈w.rs:=List.getElem_mem hr;have hl:o < w.rs[d].length:=by rw [ow.rw _ hm];exact ho
  walk_at "x0"
  refine wV_ixT (j:=1) rfl ?_
  walk_at "x0"
  refine wV_ixT (map_get hr) ?_
  walk_at "x0"
  refine wV_ixT (map_get hl) ?_
  walk_at "x0"
  refine run_lmoved k _ (ow.ls _ hm _ (List.getElem_mem hl)) rm H r2 _ mh fun l' h2 hl' x2=>?_
  walk_at "x0"
  refine wV_ixT (j:=1) rfl ?_
  walk_at "x0"
  refine wV_ixT (map_get hr) ?_
  walk_at "x0"
  refine run_chg (k+1) (by rw [List.length_map];exact hl) (by rw [List.length_map,ow.rw _ hm];omega) ?_;rw [map_set1]
  walk_at "x0"
  refine wV_ixT (j:=0) rfl ?_
  walk_at "x0"
  refine wV_ixT (j:=1) rfl ?_
  walk_at "x0"
  refine run_chg (k+1) (by rw [List.length_map];exact hr) (by rw [List.length_map,ow.rs];omega) ?_;have es:((w.rs.map (rwD D.int)).set d (D.tup ((w.rs[d].set o l').map (lsD D.int))))=(w.rs.set d (w.rs[d].set o l')).map (rwD D.int):=map_set1 (f:=rwD D.int);rw [es]
  walk_at "x0"
  refine wV_ixT (j:=2) rfl ?_
  walk_at "x0"
  exact h { w with rs:=w.rs.set d (w.rs[d].set o l') } _ ⟨ow.ps,ow.ns,ow.ms,by rw [List.length_set];exact ow.rs,set_mem ow.rw (by rw [List.length_set];exact ow.rw _ hm),set_mem ow.ls (set_mem (ow.ls _ hm) hl')⟩ x2
 walk_at "x0"
 have hq:d < w.ps.length:=by rw [ow.ps];exact hd
 have hm:w.ps[d]∈w.ps:=List.getElem_mem hq;have hy:d < plays.length:=by rw [ll];exact hd
 have hz:plays[d] < parts.length:=by rw [lp];exact hp _ (List.getElem_mem hy)
 refine wV_ixT (j:=0) rfl ?_
 walk_at "x0"
 refine wV_ixT (map_get hq) ?_
 walk_at "x0"
 refine wV_ixT (map_get hy) ?_
 walk_at "x0"
 refine wV_ixT (map_get hz) ?_
 walk_at "x0"
 refine wV_len (by intro z z';cases z') rfl ?_
 walk_at "x0"
 refine run_pmoved k _ (ow.ns _ hm) (ow.ms _ hm) _ H h1 h6 _ mh fun p' h2 n3 m3 x2=>?_
 walk_at "x0"
 refine wV_ixT (j:=0) rfl ?_
 walk_at "x0"
 refine run_chg (k+1) (by rw [List.length_map];exact hq) (by rw [List.length_map,ow.ps];omega) ?_;rw [map_set1]
 walk_at "x0"
 refine wV_ixT (j:=1) rfl ?_
 walk_at "x0"
 refine wV_ixT (j:=2) rfl ?_
 walk_at "x0"
 exact h { w with ps:=w.ps.set d p' } _ ⟨by rw [List.length_set];exact ow.ps,set_mem ow.ns n3,set_mem ow.ms m3,ow.rs,ow.rw,ow.ls⟩ x2
theorem dats_of {n:Nat}:∀ {l:List D},(∀ x∈l,dat n x=true)->dats n l=true
 | [],_=>rfl
 | x::r,h=>by
  show dats n (x::r)=true;simp only [dats,h x List.mem_cons_self,dats_of fun y hy=>h y (List.mem_cons_of_mem _ hy),Bool.and_self]
theorem dats_map {α:Type}{n:Nat}{f:α->D}{l:List α}(h:∀ x∈l,dat n (f x)=true):dats n (l.map f)=true:=dats_of fun x hx=>by
 obtain ⟨y,hy,rfl⟩:=List.mem_map.mp hx;exact h y hy
theorem dat_ob (n:Nat) (o:Option Int):dat n (ob o)=true:=by cases n <;> cases o <;> rfl
theorem dat_int (n:Nat) (i:Int):dat n (.int i)=true:=by cases n <;> rfl
theorem dat_pr (n:Nat) (p:Pr):dat (n+1) (prD p)=true:=by
 show dats n [ob p.1,ob p.2]=true;simp only [dats,dat_ob,Bool.and_self]
theorem dat_gp (n:Nat) (p:Gp Pr):dat (n+3) (gpD prD p)=true:=by
 show dats (n+2) [.int p.pl,.tup (p.ns.map prD),.tup (p.ms.map D.int),.tup [natD p.s0,natD p.s1],.bl p.bell]=true;have h1:dat (n+2) (.tup (p.ns.map prD))=true:=dats_map fun x _=>dat_pr n x
 have h2:dat (n+2) (.tup (p.ms.map D.int))=true:=dats_map fun x _=>dat_int _ x
 have h3:dat (n+2) (.tup [natD p.s0,natD p.s1])=true:=rfl;have h4:dat (n+2) (.bl p.bell)=true:=rfl;simp only [dats,dat_int,h1,h2,h3,h4,Bool.and_self]
theorem dat_gl (n:Nat) (z:Int×Pr×Int):dat (n+2) (glD prD z)=true:=by
 show dats (n+1) [.int z.1,prD z.2.1,.int z.2.2]=true;simp only [dats,dat_int,dat_pr,Bool.and_self]
theorem dat_gw (a:Gw Pr):dat 59 (gwD prD a)=true:=by
 show dats 58 [.tup (a.ps.map (gpD prD)),.tup (a.rs.map (rwD prD)),.tup [.int a.x,.int a.y]]=true;have h1:dat 58 (.tup (a.ps.map (gpD prD)))=true:=dats_map fun x _=>dat_gp 54 x
 have h2:dat 58 (.tup (a.rs.map (rwD prD)))=true:=dats_map fun r _=>dats_map (n:=56) fun l _=>dats_map (n:=55) fun z _=>dat_gl 53 z
 have h3:dat 58 (.tup [.int a.x,.int a.y])=true:=rfl;simp only [dats,h1,h2,h3,Bool.and_self]
theorem ne_bl {b:Bool}{mh:MH}{P:D->MH->Prop}(h:P (.bl false) mh):wV (neD (.bl b) (.bl b) mh) P:=ne_refl rfl rfl h
noncomputable def toG (p:Pt):Gp Int:=⟨p.pl,p.ns,p.ms,p.s0,p.s1,p.bell⟩
theorem gw_of (ps:List Pt) (rs:Rows) (x y:Int):wldD ps rs x y=gwD D.int ⟨ps.map toG,rs,x,y⟩:=by
 unfold wldD gwD;rw [List.map_map];rfl
theorem ok_of {H:Nat}{ps:List Pt}{rs:Rows}{x y:Int}(h1:ps.length=H) (h2:∀ p∈ps,PtOk p) (h3:rs.length=H) (h4:RowsOk H rs):Gw.ok H (⟨ps.map toG,rs,x,y⟩:Gw Int) :=
 ⟨by rw [List.length_map];exact h1,fun p hp=>by obtain ⟨q,hq,rfl⟩:=List.mem_map.mp hp;exact (h2 q hq).1,fun p hp=>by obtain ⟨q,hq,rfl⟩:=List.mem_map.mp hp;exact (h2 q hq).2.1,h3,fun r hr=>(h4 r hr).1,fun r hr=>(h4 r hr).2⟩
theorem sl_lst {n:Nat}{ds:List D}{lo hi:Option Int}{mh:MH}{P:D->MH->Prop}(g:mh[n]?=some (.lst ds)) (h:P (.ref mh.length) (mh++[.lst (DL.cutD ds lo hi)])):wV (slD (.ref n) lo hi mh) P:=⟨_,_,by simp only [slD,g],h⟩
theorem own_ok {H:Nat}{w:Gw Int}(ow:w.ok H):(own w).ok H:=zp_ok ow ow rfl
theorem main_w (ns:List Int) (hns:ns.length<=63):wV (runF (Gk (6+1)) fuel f50 [.rol (ns.map D.int)] [.plc]) fun d _=>d=.bl true:=by
 refine wV_run (b50_eq 6) lenQ50.1 lenQ50.2 rfl ?_;show wS (b50 6) [some (.rol (ns.map D.int)),none,none,none,none,none,none,none,none,none,none,none,none,none,none,none,none] [.plc] _;unfold b50
 walk_at "x0"
 refine run_cell 5 ns 0 _ fun v0=>?_
 obtain ⟨H0,hH0,eH0⟩:=fm_nat v0 4 (by decide);have eH0:v0.fmod 4=(H0:Int):=eH0
 walk_at "x0"
 rw [eH0];have eH:(1:Int)+(H0:Int)=((H0+1:Nat):Int):=by omega
 rw [eH];refine run_cell 5 ns 0 _ fun v1=>?_
 obtain ⟨R0,hR0,eR0⟩:=fm_nat (v1.fdiv 4) 3 (by decide);have eR0:(v1.fdiv 4).fmod 3=(R0:Int):=eR0
 walk_at "x0"
 rw [eR0];have eR:(1:Int)+(R0:Int)=((R0+1:Nat):Int):=by omega
 rw [eR];refine run_cell 5 ns 1 _ fun c1=>?_
 walk_at "x0"
 refine run_program 3 c1 (H:=H0+1) (R:=R0+1) (L:=6) (by omega) (by omega) (by omega) (by omega) (by decide) _ fun room c0 c1' parts plays m1 r1 r2 hc0 hc1 lp ll hp x1=>?_
 obtain ⟨rm,rfl⟩:∃ rm:Nat,room=(rm:Int):=⟨room.toNat,by omega⟩;generalize hHH:H0+1=H at *;have h1H:1<=H:=by omega
 have hH:H<=6:=by omega
 walk_at "x0"
 refine wS_for ?_
 walk_at "x0"
 refine wV_len (by intro z z';cases z') rfl ?_
 walk_at "x0"
 rw [List.length_map];refine wV_of (d:=.int (minI 32 [(ns.length:Int)])) (h:=m1) rfl ?_
 walk_at "x0"
 refine wV_of (d:=.int (maxI 5 [minI 32 [(ns.length:Int)]])) (h:=m1) rfl ?_
 walk_at "x0"
 generalize hM:maxI 5 [minI 32 [(ns.length:Int)]]=M;have bM:5<=M/\M<=32:=by
  rw [minI2,maxI2] at hM;subst hM;split <;> split <;> omega
 have eRg:rng3 [.int 2,.int M,.int 3]=some (.seq (rangeS 2 3 (rngN 2 M 3))):=by
  show (if (0 < (3:Int)/\(3:Int) < 1000)/\(-1000000<=(2:Int)/\(2:Int)<=1000000)/\(-1000000<=M/\M<=1000000) then some (Src.seq (rangeS 2 3 (rngN 2 M 3))) else none)=_;rw [if_pos ⟨⟨by decide,by decide⟩,⟨by decide,by decide⟩,by omega,by omega⟩]
 refine ⟨_,eRg,rangeS 2 3 (rngN 2 M 3),fun _ l h=>(∃ x4 x5 x6 x7 x8 x9 x10 x11 x12 x13 x14 x15 x16,l=[some (.rol (ns.map D.int)),some (.int (H:Nat)),some (.int ((R0+1:Nat):Int)),some (progD rm c0 c1' parts plays),x4,x5,x6,x7,x8,x9,x10,x11,x12,x13,x14,x15,x16])/\Ext [] [MO.plc] h,⟨⟨none,none,none,none,none,none,none,none,none,none,none,none,none,rfl⟩,x1⟩,fun _ _ _ _=>⟨rfl,rfl⟩,?_,?_⟩
 ·rintro i d l m2 ed ⟨⟨x4,x5,x6,x7,x8,x9,x10,x11,x12,x13,x14,x15,x16,rfl⟩,y2⟩;obtain ⟨i',_,rfl⟩:=List.mem_map.mp (List.mem_of_getElem? ed);have ei:(2:Int)+(i':Int) * 3=((2+i' * 3:Nat):Int):=by omega
  have ei1:((2+i' * 3:Nat):Int)+1=((2+i' * 3+1:Nat):Int):=by omega
  have ei2:((2+i' * 3:Nat):Int)+2=((2+i' * 3+2:Nat):Int):=by omega
  rw [ei]
  walk_at "x0"
  refine run_cell 5 ns _ m2 fun c2=>?_
  walk_at "x0"
  refine run_world 3 c2 (H:=H) (R:=R0+1) h1H hH rm (by omega) (by omega) c0 c1' hc0 hc1 parts plays lp ll hp m2 fun ps rs x y m3 lps ops lrs rk y3=>?_
  rw [gw_of];have ow:=ok_of (x:=x) (y:=y) lps ops lrs rk;generalize (⟨ps.map toG,rs,x,y⟩:Gw Int)=w at ow
  walk_at "x0"
  rw [ei1];refine run_cell 5 ns _ m3 fun c3=>?_
  walk_at "x0"
  refine run_pattern 3 H w hH ow c3 m3 fun A m5 oA bA nA y5=>?_
  walk_at "x0"
  refine run_pattern 3 H w hH ow _ m5 fun B m6 oB bB nB y6=>?_
  walk_at "x0"
  have y7:Ext [] [MO.plc] (m6++[MO.lst ([A,B].map (gwD prD))]):=y2.trans (y3.trans (y5.trans (y6.trans Ext.more)));rw [ei2];refine run_cell 5 ns _ _ fun c4=>?_
  walk_at "x0"
  refine wV_ixL (j:=0) at_new rfl ?_
  walk_at "x0"
  refine run_inW 3 H A hH oA (fun q hq=>?_) c4 _ fun W1 m7 oW1 _ _ z7=>?_
  ·obtain ⟨_,_,z⟩:=nA.mem_r q hq;exact z.2
  have gP:m7[m6.length]?=some (.lst ([A,B].map (gwD prD))):=z7.old _ _ (by simp) at_new;have y7:=y7.trans z7
  walk_at "x0"
  refine wV_ixL (j:=1) gP rfl ?_
  walk_at "x0"
  refine run_inW 3 H B hH oB (fun q hq=>?_) c4 _ fun W2 m8 oW2 _ _ z8=>?_
  ·obtain ⟨_,_,z⟩:=nB.mem_r q hq;exact z.2
  have gP:=z8.old _ _ (by simp) gP;have y8:=y7.trans z8
  clear z7 z8 y3 y5 y6 nA nB bA bB
  walk_at "x0"
  have y9:Ext [] [MO.plc] (m8++[MO.lst ([w,W1,W2].map (gwD D.int))]):=y8.trans Ext.more;have gP9:(m8++[MO.lst ([w,W1,W2].map (gwD D.int))])[m6.length]?=some (.lst ([A,B].map (gwD prD))):=(Ext.more (W:=[])).old _ _ (by simp) gP;refine run_world 3 c4 (H:=H) (R:=R0+1) h1H hH rm (by omega) (by omega) c0 c1' hc0 hc1 parts plays lp ll hp _ fun ps2 rs2 xx2 yy2 m10 lps2 ops2 lrs2 rk2 z10=>?_
  rw [gw_of];have ov:=ok_of (x:=xx2) (y:=yy2) lps2 ops2 lrs2 rk2;generalize (⟨ps2.map toG,rs2,xx2,yy2⟩:Gw Int)=v at ov;have gW:m10[m8.length]?=some (.lst ([w,W1,W2].map (gwD D.int))):=z10.old _ _ (by simp) at_new;have gP:=z10.old _ _ (by simp) gP9;have y10:=y9.trans z10
  clear y9 z10 gP9
  have oW:∀ q∈[w,W1,W2],q.ok H:=by
   intro q hq;rcases List.mem_cons.mp hq with rfl|hq
   ·exact ow
   rcases List.mem_cons.mp hq with rfl|hq
   ·exact oW1
   rw [List.mem_singleton.mp hq];exact oW2
  refine wG_set (seqK_nx (wS_seq (wS_mono (P:=fun fl l h=>fl=.nx/\∃ v':Gw Int,v'.ok H/\l=[some (.rol (ns.map D.int)),some (.int (H:Nat)),some (.int ((R0+1:Nat):Int)),some (progD rm c0 c1' parts plays),some (.int ((2+i' * 3:Nat):Int)),some (gwD D.int w),some (.int c3),some (.ref m6.length),some (.int c4),some (.ref m8.length),some (gwD D.int v'),x11,x12,x13,x14,x15,x16]/\Ext [] m10 h) ?_ ?_)))
  ·walk_at "x0"
   refine when_of (fun _=>?_) fun _=>?_
   ·walk_at "x0"
    obtain ⟨j,hj,ej⟩:=fm_nat (c4.fdiv 2) 3 (by decide);rw [show (c4.fdiv 2).fmod 3=(j:Int) from ej];have hj3:j < [w,W1,W2].length:=hj;refine wV_ixL (d:=gwD D.int [w,W1,W2][j]) gW (by rw [List.getElem?_map,List.getElem?_eq_getElem hj3];rfl) ?_
    walk_at "x0"
    refine run_moved 3 rm (by omega) c0 c1' parts plays lp ll hp _ (oW _ (List.getElem_mem hj3)) h1H hH _ m10 fun v' h' ov' x'=>?_
    walk_at "x0"
    exact ⟨rfl,v',ov',rfl,x'⟩
   ·walk_at "x0"
    exact ⟨rfl,v,ov,rfl,Ext.refl⟩
  rintro fl l m11 ⟨rfl,u,ou,rfl,z11⟩;have gW:=z11.old _ _ (by simp) gW;have gP:=z11.old _ _ (by simp) gP;have y11:=y10.trans z11
  clear y10 z11
  walk_at "x0"
  refine ⟨ty_list gW,?_⟩
  walk_at "x0"
  refine wV_append gW (by simp) ?_
  walk_at "x0"
  have oS:∀ q∈[w,W1,W2,u],q.ok H:=by
   intro q hq;rcases List.mem_cons.mp hq with rfl|hq
   ·exact ow
   rcases List.mem_cons.mp hq with rfl|hq
   ·exact oW1
   rcases List.mem_cons.mp hq with rfl|hq
   ·exact oW2
   rw [List.mem_singleton.mp hq];exact ou
  generalize eS:[w,W1,W2,u]=S at oS;have lS:S.length=4:=by rw [← eS];rfl
  have hjw:m6.length≠m8.length:=by
   intro e;rw [e] at gP;rw [gP] at gW;simp at gW
  generalize em12:m11.set m8.length (MO.lst ([w,W1,W2].map (gwD D.int)++[gwD D.int u]))=m12;have gW:m12[m8.length]?=some (.lst (S.map (gwD D.int))):=by rw [← em12,at_set gW,← eS];rfl
  have gP:m12[m6.length]?=some (.lst ([A,B].map (gwD prD))):=by rw [← em12,List.getElem?_set_ne (Ne.symm hjw)];exact gP
  have y12:Ext [] [MO.plc] m12:=by rw [← em12];exact y11.setNew (by have:=y8.len;exact this)
  clear em12 y11 eS
  refine comp_all S (gwD D.int) (fun q=>gwD prD (own q)) (by omega) ?_ (fun q h' Q hq ex hQ=>?_) fun m13 z13=>?_
  ·walk_at "x0"
   exact ⟨_,src_list gW,Ext.refl,src_ref gW⟩
  ·refine wG_set ⟨rfl,?_⟩
   walk_at "x0"
   exact run_lown 5 H q hH (oS q hq) h' hQ
  generalize em14:m13++[MO.lst (S.map fun q=>gwD prD (own q))]=m14;have z14:Ext [] m12 m14:=by rw [← em14];exact z13.trans Ext.more
  have gO:m14[m13.length]?=some (.lst (S.map fun q=>gwD prD (own q))):=by rw [← em14];exact at_new
  have gW:=z14.old _ _ (by simp) gW;have gP:=z14.old _ _ (by simp) gP;have y14:=y12.trans z14
  clear em14 z14 z13 y12
  walk_at "x0"
  refine comp_all S (gwD D.int) (fun q=>gwD prD (own q)) (by omega) ?_ (fun q h' Q hq ex hQ=>?_) fun m15 z15=>?_
  ·walk_at "x0"
   exact ⟨_,src_list gW,Ext.refl,src_ref gW⟩
  ·refine wG_set ⟨rfl,?_⟩
   walk_at "x0"
   exact run_own 1 H q hH (oS q hq) h' ((y14.trans ex).old _ _ (by simp) rfl) hQ
  generalize em16:m15++[MO.lst (S.map fun q=>gwD prD (own q))]=m16;have z16:Ext [] m14 m16:=by rw [← em16];exact z15.trans Ext.more
  have gN:m16[m15.length]?=some (.lst (S.map fun q=>gwD prD (own q))):=by rw [← em16];exact at_new
  have gO:=z16.old _ _ (by simp) gO;have gW:=z16.old _ _ (by simp) gW;have gP:=z16.old _ _ (by simp) gP;have y16:=y14.trans z16
  clear em16 z16 z15 y14
  walk_at "x0"
  refine ne_lists gN gO (dats_map fun q _=>dat_gw (own q)) ?_
  walk_at "x0"
  have oAB:∀ q∈[A,B],q.ok H:=by
   intro q hq;rcases List.mem_cons.mp hq with rfl|hq
   ·exact oA
   rw [List.mem_singleton.mp hq];exact oB
  refine wS_for ?_
  walk_at "x0"
  refine ⟨_,src_list gP,[A,B].map (gwD prD),fun _ l h=>(∃ x11 x13 x14 x15,l=[some (.rol (ns.map D.int)),some (.int (H:Nat)),some (.int ((R0+1:Nat):Int)),some (progD rm c0 c1' parts plays),some (.int ((2+i' * 3:Nat):Int)),some (gwD D.int w),some (.int c3),some (.ref m6.length),some (.int c4),some (.ref m8.length),some (gwD D.int u),x11,some (.ref m13.length),x13,x14,x15,x16])/\Ext [] m16 h,⟨⟨_,_,_,_,rfl⟩,Ext.refl⟩,fun i l h ⟨_,z⟩=>lref_keep (z.old _ _ (by simp) gP),?_,?_⟩
  ·rintro i1 d l m17 ed1 ⟨⟨x11,x13,x14,x15,rfl⟩,z17⟩;obtain ⟨C,eC,rfl⟩:=map_at ed1;have oC:=oAB C (List.mem_of_getElem? eC)
   walk_at "x0"
   refine wS_for (wD_zip ?_)
   walk_at "x0"
   have gO7:=z17.old _ _ (by simp) gO;have gW7:=z17.old _ _ (by simp) gW;refine ⟨_,_,_,_,rfl,src_list gO7,src_list gW7,(S.zip S).map (fun z=>.tup [gwD prD (own z.1),gwD D.int z.2]),fun _ l h=>(∃ x11 x14 x15,l=[some (.rol (ns.map D.int)),some (.int (H:Nat)),some (.int ((R0+1:Nat):Int)),some (progD rm c0 c1' parts plays),some (.int ((2+i' * 3:Nat):Int)),some (gwD D.int w),some (.int c3),some (.ref m6.length),some (.int c4),some (.ref m8.length),some (gwD D.int u),x11,some (.ref m13.length),some (gwD prD C),x14,x15,x16])/\Ext [] m16 h,⟨⟨_,_,_,rfl⟩,z17⟩,fun i l h ⟨_,z⟩=>zip_src (e1:=fun q=>gwD prD (own q)) (e2:=gwD D.int) gO gW h z,?_,?_⟩
   ·rintro i2 d l m18 ed2 ⟨⟨x11,x14,x15,rfl⟩,z18⟩;obtain ⟨z,ez,rfl⟩:=map_at ed2;have hz:=List.mem_of_getElem? ez;have e12:z.1=z.2:=by
     rw [List.zip_eq_zipWith,zw_self] at hz;obtain ⟨q,_,rfl⟩:=List.mem_map.mp hz;rfl
    have o2:=oS _ (List.of_mem_zip hz).2;rw [e12];generalize z.2=q at o2;refine wG_tup (ds:=[gwD prD (own q),gwD D.int q]) rfl ?_
    walk_at "x0"
    refine run_in 4 H (own q) C hH (own_ok o2) oC m18 fun m19 x19=>?_
    walk_at "x0"
    refine run_lies2 0 H q C hH o2 oC m19 (((y16.trans z18).trans x19).old _ _ (by simp) rfl) fun m20 x20=>?_
    walk_at "x0"
    refine ne_bl ?_
    walk_at "x0"
    refine run_within2 2 H (own q) C hH (own_ok o2) oC m20 fun m21 x21=>?_
    walk_at "x0"
    refine ne_bl ?_
    walk_at "x0"
    exact ⟨⟨_,_,_,rfl⟩,z18.trans (x19.trans (x20.trans x21))⟩
   ·rintro l m18 ⟨⟨x11,x14,x15,rfl⟩,z18⟩
    walk_at "x0"
    exact ⟨⟨_,_,_,_,rfl⟩,z18⟩
  ·rintro l m17 ⟨⟨x11,x13,x14,x15,rfl⟩,z17⟩;have gO:=z17.old _ _ (by simp) gO;have gP:=z17.old _ _ (by simp) gP;have y17:=y16.trans z17
   clear gW gN z17 y16
   obtain ⟨T,oT,gT⟩:∃ T:List (Gw Pr),(∀ q∈T,q.ok H)/\DL.cutD (S.map fun q=>gwD prD (own q)) none (some 2)=T.map (gwD prD):=by
    refine ⟨DL.cutD (S.map own) none (some 2),fun q hq=>?_,?_⟩
    ·obtain ⟨a,ha,rfl⟩:=List.mem_map.mp (List.mem_of_mem_drop (List.mem_of_mem_take hq));exact own_ok (oS a ha)
    ·unfold DL.cutD;rw [List.length_map,List.length_map,List.map_take,List.map_drop,List.map_map];rfl
   have oL:∀ q∈[A,B]++T,q.ok H:=fun q hq=>by
    rcases List.mem_append.mp hq with hq|hq
    ·exact oAB q hq
    ·exact oT q hq
   have two:∀ (loc:DL.Loc) (h:MH) {Q:D->MH->Prop},loc[7]?=some (some (.ref m6.length))->loc[12]?=some (some (.ref m13.length))->Ext [] m17 h->(∀ j h',Ext [] h h'->h'[j]?=some (.lst (([A,B]++T).map (gwD prD)))->Q (.ref j) h')->wD (dop addD (vr 7) (dSl (vr 12) none (some (Zr (.int 2))))) loc h Q:=by
    intro loc h Q e7 e12 z hQ;refine wD_op (wD_vr e7 (wD_sl (wD_vr e12 ?_)))
    walk_at "x0"
    refine sl_lst (z.old _ _ (by simp) gO) ?_;rw [gT];refine wV_addL (((z.trans Ext.more).old _ _ (by simp)) gP) at_new ?_ ?_
    ·have:=congrArg List.length gT;unfold DL.cutD at this;rw [List.length_take,List.length_drop,List.length_map,lS] at this;simp only [List.length_map,List.length_cons,List.length_nil] at this ⊢;omega
    refine hQ _ _ (Ext.more.trans Ext.more) ?_;rw [at_new,List.map_append]
   walk_at "x0"
   refine wS_for (wD_src (two _ m17 (by rfl) (by rfl) Ext.refl fun j1 m18 z18 g18=>?_));refine ⟨_,src_list g18,([A,B]++T).map (gwD prD),fun _ l h=>(∃ x11 x16,l=[some (.rol (ns.map D.int)),some (.int (H:Nat)),some (.int ((R0+1:Nat):Int)),some (progD rm c0 c1' parts plays),some (.int ((2+i' * 3:Nat):Int)),some (gwD D.int w),some (.int c3),some (.ref m6.length),some (.int c4),some (.ref m8.length),some (gwD D.int u),x11,some (.ref m13.length),x13,x14,x15,x16])/\Ext [] m18 h,⟨⟨_,_,rfl⟩,Ext.refl⟩,fun i l h ⟨_,z⟩=>lref_keep (z.old _ _ (by simp) g18),?_,?_⟩
   ·rintro i1 d l m19 ed1 ⟨⟨x11,x16,rfl⟩,z19⟩;obtain ⟨C,eC,rfl⟩:=map_at ed1;have oC:=oL C (List.mem_of_getElem? eC)
    walk_at "x0"
    refine wS_for (wD_src (two _ m19 (by rfl) (by rfl) (z18.trans z19) fun j2 m20 z20 g20=>?_));refine ⟨_,src_list g20,([A,B]++T).map (gwD prD),fun _ l h=>(∃ x16,l=[some (.rol (ns.map D.int)),some (.int (H:Nat)),some (.int ((R0+1:Nat):Int)),some (progD rm c0 c1' parts plays),some (.int ((2+i' * 3:Nat):Int)),some (gwD D.int w),some (.int c3),some (.ref m6.length),some (.int c4),some (.ref m8.length),some (gwD D.int u),some (gwD prD C),some (.ref m13.length),x13,x14,x15,x16])/\Ext [] m20 h,⟨⟨_,rfl⟩,Ext.refl⟩,fun i l h ⟨_,z⟩=>lref_keep (z.old _ _ (by simp) g20),?_,?_⟩
    ·rintro i2 d l m21 ed2 ⟨⟨x16,rfl⟩,z21⟩;obtain ⟨E,eE,rfl⟩:=map_at ed2;have oE:=oL E (List.mem_of_getElem? eE)
     walk_at "x0"
     refine run_within2 2 H C E hH oC oE m21 fun m22 x22=>?_
     walk_at "x0"
     refine run_in 4 H C E hH oC oE m22 fun m23 x23=>?_
     walk_at "x0"
     refine ne_bl ?_
     walk_at "x0"
     exact ⟨⟨_,rfl⟩,z21.trans (x22.trans x23)⟩
    ·rintro l m21 ⟨⟨x16,rfl⟩,z21⟩
     walk_at "x0"
     exact ⟨⟨_,_,rfl⟩,z19.trans (z20.trans z21)⟩
   ·rintro l m19 ⟨⟨x11,x16,rfl⟩,z19⟩
    walk_at "x0"
    exact ⟨⟨_,_,_,_,_,_,_,_,_,_,_,_,_,rfl⟩,y17.trans (z18.trans z19)⟩
 ·rintro l h ⟨⟨x4,x5,x6,x7,x8,x9,x10,x11,x12,x13,x14,x15,x16,rfl⟩,_⟩
  walk_at "x0"
  exact rfl
noncomputable def depth:Nat:=7
theorem main (ns:List Int) (h:ns.length<=63):∃ mh',runF (GkN Tt depth) fuel f50 [.rol (ns.map D.int)] [.plc]=some (.bl true,mh'):=by
 obtain ⟨d,h',e,rfl⟩:=main_w ns h;exact ⟨h',e⟩
end Lw
open PySem PySem.W PyProof.Rows
namespace PySem.W.Fast
def tw13926685711044704964:Unit:=()
def tw15058169805180978148:Unit:=()
def tw1565767288747998907:Unit:=()
def tw14711801520458678701:Unit:=()
def tw3662889537270460600:Unit:=()
def tw14390441012384214690:Unit:=()
def tw5469162961844126661:Unit:=()
def tw2769937984408903114:Unit:=()
def tw128270153781118198:Unit:=()
def tw2686661475936224153:Unit:=()
def tw9522382859716175070:Unit:=()
def tw16561570080458589723:Unit:=()
def tw12187285303434166588:Unit:=()
def tw2956383320626087018:Unit:=()
def tw1731492486656407876:Unit:=()
def tw6531668454215814171:Unit:=()
def tw11336988234647759756:Unit:=()
def tw15867830705840640186:Unit:=()
def tw1992922998896790776:Unit:=()
def tw7941618692955848485:Unit:=()
def tw8162219347999009272:Unit:=()
def tw449429066026137738:Unit:=()
def tw6673040800720202508:Unit:=()
def tw7363835759024628965:Unit:=()
def tw4730666829496110079:Unit:=()
def tw17685829969285394813:Unit:=()
def tw2402097057586027539:Unit:=()
def tw4578329466318322896:Unit:=()
def tw5815813996620947907:Unit:=()
def tw5289155883695418838:Unit:=()
def tw4455926353543136990:Unit:=()
def tw6090344064132607931:Unit:=()
def tw11881816299971047784:Unit:=()
def tw11387658175773099702:Unit:=()
def tw1759283255853276961:Unit:=()
def tw12726589975146905492:Unit:=()
def tw11641654398213027975:Unit:=()
def tw2110391984000756206:Unit:=()
def tw18123693028842482577:Unit:=()
def tw367706437062079330:Unit:=()
def tw15902235950317244173:Unit:=()
def tw8968268469575772235:Unit:=()
def tw14450382732193213622:Unit:=()
def tw9883908429215039369:Unit:=()
def tw2624854360875573336:Unit:=()
def tw4968285577660972250:Unit:=()
def tw11689514865828936023:Unit:=()
def tw14335041535762835897:Unit:=()
def tw2034250213782848290:Unit:=()
def tw5580827415788396686:Unit:=()
def tw5465467081890759019:Unit:=()
def tw16479547431821862552:Unit:=()
def tw14726705995471429564:Unit:=()
def tw11848295202332152212:Unit:=()
def tw8166944981120634491:Unit:=()
def tw11420046850824404762:Unit:=()
def tw12530673453955358018:Unit:=()
def tw11272612368706896607:Unit:=()
def tw4723980575123006061:Unit:=()
def tw10151708954932388583:Unit:=()
def tw12983757696438382724:Unit:=()
def tw12611937383321372043:Unit:=()
def tw11000347021268967397:Unit:=()
def tw16377981943532743162:Unit:=()
def tw6216410752288930557:Unit:=()
def tw133006894379701441:Unit:=()
def tw15345222050963915217:Unit:=()
def tw3058879711774851656:Unit:=()
def tw1874252174215390691:Unit:=()
def tw10750420190603515886:Unit:=()
def tw17629606030112428250:Unit:=()
def tw5724270887079489119:Unit:=()
def tw4153611711845604502:Unit:=()
def tw8844882491606752140:Unit:=()
def tw4661664212756978838:Unit:=()
def tw18294733982116309548:Unit:=()
def tw11590514134115568864:Unit:=()
def tw9299373427238785501:Unit:=()
def tw4008991491418775616:Unit:=()
def tw6455193839180234462:Unit:=()
def tw11876440679072666100:Unit:=()
def tw18090307125980157899:Unit:=()
def tw7867873382981310287:Unit:=()
def tw8904185266044944184:Unit:=()
def tw6414092746021891277:Unit:=()
def tw8783799391768554617:Unit:=()
def tw17608014668023197877:Unit:=()
def tw14243512238244103420:Unit:=()
def tw9819751087109327045:Unit:=()
def tw8475374332052225247:Unit:=()
def tw7912185457036559333:Unit:=()
def tw11688813637724816210:Unit:=()
def tw13586366179868935919:Unit:=()
def tw12505121942073408716:Unit:=()
def tw10220641881916449387:Unit:=()
def tw16893159007763399541:Unit:=()
def tw1743411405569476594:Unit:=()
def tw3321582723240648384:Unit:=()
def tw10380632819359736609:Unit:=()
def tw11088010187526648955:Unit:=()
def tw12307455433044041942:Unit:=()
def tw1207348716248514237:Unit:=()
def tw16926160282281860603:Unit:=()
def tw6844869974013599814:Unit:=()
def tw15355589893259699494:Unit:=()
def tw13878918213235985493:Unit:=()
def tw9024629298442879151:Unit:=()
def tw7456436980943899505:Unit:=()
def tw408193185575546057:Unit:=()
def tw11166282034118946847:Unit:=()
def tw9836910976206059941:Unit:=()
def tw8272798105417517103:Unit:=()
def tw12522903417017046320:Unit:=()
def tw1880164071255529334:Unit:=()
def tw11902359735926052329:Unit:=()
def tw15982522366400720025:Unit:=()
def tw14553541004911876798:Unit:=()
def tw2315042069150968949:Unit:=()
end PySem.W.Fast
set_option maxRecDepth 100000 in
set_option maxHeartbeats 0 in
theorem PySem.Challenge.cw_letterall_k50_worlds_within_patterns_holds : PySem.Challenge.rw_letterall_k50_worlds_within_patterns.Holds := by
 w_on; o_law; z_head; (case hw => w_witness2)
 k_fill
 refine DL.walkX_of (fun _ => by kernel_rfl) (DL.walkL (l := PySem.Challenge.rw_letterall_k50_worlds_within_patterns) (Tt := Lw.Tt) (I := Lw.f50) (x := "_law_script") Lw.depth rfl rfl (fun w h Y => Y) ⟨rfl, by decide, by decide⟩ (by kernel_rfl) (by decide +kernel) ?T Lw.main)
 case T =>
  intro w mg h KX G;refine' Lw.tbL KX G ?qla ?qll ?qle ?qlc ?qlv ?qlp ?qlh ?qlb ?qlm ?ql6 ?ql7 ?rf ?rb ?rc
  (case qla | qll => k_is)
  (case qle => exact rfl)
  (case qlc => k_is)
  (case qlv => exact rfl)
  (case qlp => k_is)
  (case qlh => (first | kernel_rfl | k_is))
  (case qlb | qlm => k_is)
  (case ql6 => decide)
  (case ql7 => decide)
  (case rf => (repeat (apply DL.fns_cons; (focus k_is); (focus k_is); (focus k_is); (focus k_is))); exact trivial)
  (case rb => (repeat (apply DL.blt_cons; (focus k_is))); exact trivial)
  (case rc => (repeat (apply DL.con_cons; (focus k_is); (focus kernel_rfl))); exact trivial)
#print axioms PySem.Challenge.cw_letterall_k50_worlds_within_patterns_holds
